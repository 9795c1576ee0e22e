import PyProof.Rows.All
import Wide.All
import OpenK.AllK
import Wide.FinOn
import Lean
import PyProof.EqAt
import PyProof.EqKinds
import PyProof.TupleCall
import PyProof.NeKinds
import PyProof.ConsumeWalk
import PyProof.ListRange
import PyProof.TupleOfSeq
import PyProof.Rows.SortWalk
import PyProof.CompFree
import PySem.Challenge.RW_kinhearth_k41_the_least_road
set_option Elab.async false
set_option linter.all false
set_option maxRecDepth 100000
set_option maxHeartbeats 4000000
abbrev ah:=PySem.W.Frag
abbrev bb:=PySem.Value->PySem.Shared->Prop
abbrev aX:=List (PySem.Addr×PySem.Obj)
abbrev aR:=PySem.Str->Option PySem.Value
open PySem
abbrev O:=@Option.some
abbrev aF:=@Option.none
abbrev ar:=true
abbrev a_:=false
abbrev Z:=List
abbrev U:=Addr
abbrev a7:=Value
abbrev bU:=Shared
abbrev bw:=Option
abbrev c9:=Program
abbrev cX:=World
abbrev cb:=Stmt
abbrev cS:=Heap
abbrev d_:=Around
abbrev c8:=Array
abbrev cm:=Bool
abbrev af:=Str
abbrev cu:=Expr
open PySem.W (instObj methodObj lookIn plainGet hasDictIn handedIn plainGet_of findObj_own isFn plainOver takerIn set_plain any_some makesIn typeIn emptyDict keepIn specialIn takesIn kitOne kia_one kitx_list kitx_dict callWith_K methodCall_KW cellsFrom_some fnOf codeIn notCls check_slot KitX osa_eq kitCls findCls subIn nsIn mg_of kIn_of)
open PySem.F (slot_tuple_add excBase_ValueError slot_dict_delitem slot_dict_pop slot_dict_get entry_dict_get plainAttrs_dict type_dict_get slot_dict_setdefault plainAttrs_list plainAttrs_str slot_str_index type_str_index)
def Ya:=@List.length_map
def Yb:=@Heap.get?_push_of_some
def Yc:=@List.getElem?_eq_getElem
def Yd:=@List.mem_singleton
def Ye:=@List.length_append
def Yf:=@List.mem_map
def Yg:=@List.mem_cons_self
def Yh:=@Nat.le_refl
def Yi:=@List.getElem?_map
def Yj:=@List.mem_of_getElem?
def Yk:=@List.mem_append_left
def Yl:=@List.mem_append_right
def Ym:=@List.mem_append
def Yn:=@List.getElem?_eq_some_iff
def Yo:=@Option.some.inj
def Yp:=@List.map_append
def Yq:=@Bool.false_ne_true
def Yr:=@List.getD_eq_getElem?_getD
def Ys:=@List.mem_cons
def Yt:=@List.size_toArray
def Yu:=@Heap.lt_size
def Yv:=@Heap.get?_push_size
def Yw:=@List.mem_cons_of_mem
def Yx:=@Nat.zero_le
def Yy:=@Nat.le_trans
def Yz:=@List.take_add_one
def Y0:=@Nat.ne_of_lt
def Y1:=@List.not_mem_nil
def Y2:=@List.nodup_cons
def Y3:=@Nat.lt_of_lt_of_le
def Y4:=@List.getElem?_eq_none
def Y5:=@List.mem_filter
def Y6:=@List.map_map
def Y7:=@List.take_length
def Y8:=@List.append_nil
def Y9:=@Int.toNat_natCast
def Wa:=@List.getElem?_append_left
def Wb:=@Sum.inr.inj
def Wc:=@List.nodup_append
def We:=@List.length_take
def Wf:=@Array.getD_eq_getD_getElem?
def Wg:=@Heap.get?_update_other
def Wh:=@List.length_cons
def Wi:=@Nat.lt_irrefl
def Wj:=@List.length_filter_le
def Wk:=@Heap.get?_update_self
def Wm:=@Array.length_toList
def Wn:=@List.mem_range
def Wo:=@List.filter_append
def Wp:=@List.take_of_length_le
def Wq:=@Bool.eq_iff_iff
def Wr:=@Nat.not_lt_zero
def Ws:=@Bool.and_eq_true
def Wt:=@List.all_eq_true
def Wu:=@List.map_cons
def Wv:=@Nat.lt_succ_of_lt
def Ww:=@List.ext_getElem?
def Wx:=@List.getElem?_toArray
def Wy:=@List.nodup_nil
def Wz:=@Int.emod_lt_of_pos
def W0:=@List.mem_iff_getElem
def W1:=@List.getElem?_append_right
def W3:=@List.map_congr_left
def W4:=@Array.getElem?_eq_getElem
def W5:=@List.pairwise_iff_getElem
def W6:=@List.length_replicate
def W7:=@List.lookup_cons
def Ja:=@List.filter_cons
def Jb:=@Bool.true_and
def Jc:=@List.pairwise_map
def Jd:=@List.append_assoc
def Je:=@Nat.le_succ_of_le
def Jf:=@List.length_set
def Jg:=@Int.emod_nonneg
def Jh:=@List.nodup_iff_pairwise_ne
def Ji:=@List.getElem_mem
def Jj:=@Array.getElem?_toList
def Jk:=@Nat.lt_of_le_of_lt
def Jl:=@Nat.le_of_ble_eq_true
def Jm:=@List.take_append_drop
def Jn:=@List.pairwise_append
def Jo:=@Bool.and_eq_true_iff
def Jp:=@Option.isSome_iff_exists
def Jq:=@Array.getElem?_setIfInBounds_ne
def Jr:=@List.length_zip
def Js:=@Nat.ne_of_gt
def Jt:=@List.filterMap_cons
def Ju:=@List.all_cons
def Jv:=@List.filter_cons_of_pos
def Jw:=@Int.toNat_of_nonneg
def Jx:=@Nat.lt_succ_self
def Jy:=@List.cons_append
def Jz:=@List.mem_filterMap
def J0:=@List.filter_filter
def J1:=@Nat.le_of_lt
def J3:=@List.filter_map
def J7:=@List.any_cons
def J8:=@Heap.get?_push_ne
def J9:=@Bool.eq_false_iff
def C9:=@List.length_range
def WV:=@Array.getElem?_eq_some_iff
def Xi:=@Array.perm_iff_toList_perm
def zk:=@Heap.size_push
def C3:=@List.any_eq_true
def DF:=@List.mem_flatMap
def DU:=@List.length_drop
def Mm:=@List.getElem?_range
def WU:=@Array.size_setIfInBounds
def Xn:=@List.pairwise_singleton
def Xr:=@List.getElem?_cons_succ
def Zj:=@Nat.add_sub_cancel_left
def Zz:=@List.length_eq_zero_iff
def Xf:=@Array.getElem?_eq_none
def wB:=@Nat.le_succ
def Dk:=@List.take_zero
def Zx:=@List.cons_lt_cons_iff
def V4:=@List.getElem?_set_ne
def Zs:=@List.length_take_le'
def C7:=@Bool.false_or
def L4:=@List.of_mem_zip
def WZ:=@Heap.get?_update_ne
def Ml:=@List.find?_cons
def MH:=@List.nil_append
def Ny:=@Bool.or_eq_true
def CY:=@Nat.le_of_eq
def Xa:=@List.pairwise_cons
def Dm:=@Int.zero_add
def XE:=@List.zip_cons_cons
def WC:=@List.any_eq_false
def Xe:=@Option.isSome_map
def Du:=@Sum.inl.inj
def Dz:=@List.map_id
def L5:=@List.map_nil
def Me:=@Int.ne_of_gt
def WR:=@List.length_nil
def MD:=@List.all_map
def QO{p:Prop}(h:p:=by omega):p:=h
def QS{p:Prop}(h:p:=by simp):p:=h
def QD{p:Prop}(h:p:=by decide):p:=h
def QU{p:Prop}(h:p:=by with_unfolding_all rfl):p:=h
def QR{p:Prop}(h:p:=by rfl):p:=h
def QK{p:Prop}(h:p:=by decide+kernel):p:=h
def QJ{p:Prop}(h:p:=by kernel_rfl):p:=h
def QG{p:Prop}(h:p:=by grind):p:=h
def QA{p:Prop}(h:p:=by simp_all):p:=h
def bg:=@PySem.wpAny_bind
def cG:=@PySem.wpAny_pure
def bt:=@if_neg
def bS:=@if_pos
def du:=@decide_eq_true
def eH:=@of_decide_eq_true
def dg:=@PySem.sizeLine_eq
def eJ:=@PySem.PassesOwn.never
def fb:=@decide_eq_false
def hI:=@decide_eq_true_iff
def dD:=@PySem.wpAny_mono
def kr:=@PySem.F.type_list_append
def ku:=@PySem.F.slot_list_append
def d6:=@congrArg
def ij:=@PySem.F.plainAttrs_list
def iG:=@PySem.wpAny_holding
def k_:=@PySem.Calls.callWith_builtin
def hY:=@True.intro
def kB:=@PySem.wpAny_loadPart_at
def gV:=@or_false
def lq:=@PySem.Calls.spliced_cons
def lr:=@PySem.wpAny_truthy_bool
def me:=@PySem.tupleKind_room_in1
def kS:=@PySem.wpAny_standAt
def m6:=@PySem.Calls.evalArgs_plain
def m9:=@PySem.wpAny_isSubtype_exc
def hH:=@Or.inl
def ib:=@Ne.symm
def lC:=@PySem.strLen_append
def lN:=@PySem.codeAny_mono
def nV:=@PySem.wpAny_Call_Name_kw
def pC:=@PySem.F.excBase_ValueError
def nh:=@PySem.wpAny_passesOwn
def n7:=@PySem.Calls.spliced_nil
def mh:=@PySem.call_meetsIn
def n_:=@PySem.wpAny_call_entry
def pE:=@PySem.mem_of_lookup
def rp:=@PySem.wpAny_comprehension_free
def oz:=@PySem.F.plainAttrs_dict
def mr:=@PySem.wpAny_field
def hT:=@PySem.W.mg_of
def iP:=@not_or
def pH:=@PySem.wpAny_newObj_type
def pJ:=@PySem.wpAny_Call_method
def uu:=@PySem.plainObj_wpAny_Assign_Attribute
def mu:=@PySem.wpAny_call
def kz:=@PySem.W.kia_one
def oD:=@PySem.F.slot_dict_get
def rz:=@PySem.F.slot_dict_setdefault
def rO:=@PySem.Obj.data_mapDictKeys
def kv:=@Or.inr
def r0:=@PySem.Heap.SameBut.update
def nq:=@PySem.W.callWith_K
def pR:=@PySem.wpAny_setField
def qd:=@List.Perm.refl
def r_:=@PySem.SeqAt.EqAt.int_int
def uy:=@PySem.Calls.call_function_entry
def sr:=@PySem.wpAny_pyIter_list
def su:=@PySem.F.slot_dict_delitem
def sy:=@List.Pairwise.nil
def qp:=@PySem.W.methodCall_KW
def oO:=@PySem.wpAny_rule
def oZ:=@PySem.typeIs_str
def sA:=@PySem.wpAny_execs_nil
def sC:=@and_congr_right
def uB:=@PySem.wpAny_notOrdered_dict
def uC:=@PySem.Obj.isFreed_of_fields
def sH:=@PySem.wpAny_loadPart
def sI:=@PySem.F.entry_dict_get
def uD:=@PySem.wpAny_updateDictKeys
def uE:=@PySem.codeAny_call_builtin
def sW:=@PySem.wpAny_newList
def qU:=@PySem.call_meets
def uI:=@PySem.wpAny_pyIter_tuple
def uJ:=@PySem.Obj.data_mapFields
def uQ:=@PySem.wpAny_dictEntries
def uR:=@bne_self_eq_false
def uS:=@PySem.Within.cons
def ra:=@And.intro
def va:=@PySem.wpAny_lookBehind
def vi:=@PySem.pastItsLine_dict
def zc:=@PySem.F.args_dict_setdefault_3
def zd:=@PyProof.Rows.callWith_builtin1
def zf:=@PySem.F.entry_dict_setdefault
def vj:=@PySem.wpAny_tests_nil
def vl:=@Array.Perm.refl
def zh:=@PySem.F.type_dict_setdefault
def zi:=@PySem.F.args_dict_delitem_2
def zj:=@PyProof.Rows.callWith_type1
def vr:=@Nat.mul_le_mul
def zl:=@PySem.F.entry_dict_delitem
def zr:=@PySem.Calls.Name_function_global
def vt:=@PySem.rangeSize_one
def wb:=@Bool.or_false
def zw:=@PySem.F.slot_dict_values
def zA:=@PySem.F.args_tuple_add_2
def zB:=@List.getElem?_take_of_lt
def zC:=@PySem.wpAny_Call_method0_late
def zD:=@PySem.SeqAt.eq_list_lengthsAt
def zE:=@PySem.F.entry_tuple_add
def zI:=@PySem.F.args_dict_get_3
def zJ:=@PySem.F.args_dict_get_2
def zQ:=@List.filter_cons_of_neg
def wh:=@PySem.wpAny_nsSet1
def wx:=@PySem.seqIndex_neg
def wz:=@PySem.codeAny_loop
def wD:=@Nat.zero_add
def Zm:=@Nat.succ_pos
def zR:=@PySem.wpAny_delete_Subscript
def Ae:=@PySem.wpAny_Call_method_late
def Ag:=@PySem.wpAny_Assign_Subscript
def BU:=@Nat.lt_of_succ_lt_succ
def B1:=@List.getElem?_set_self
def B2:=@PySem.wpAny_isTrue_Compare1
def B4:=@PySem.wpAny_deleteEach_cons
def tc:=@PySem.W.any_some
def wK:=@PySem.wpAny_noted
def wN:=@PySem.wpAny_letGo
def wQ:=@PySem.seqIndex_of
def xc:=@PySem.W.plainGet_of
def Ca:=@PySem.wpAny_loadName_local
def Cd:=@PySem.wpAny_deleteEach_nil
def CN:=@PySem.lookup_relabel_local
def CP:=@List.replicate_succ'
def CQ:=@List.mem_of_mem_take
def CS:=@List.getElem_toArray
def CT:=@PySem.Heap.get?_none_of_le
def C0:=@Array.toArray_toList
def C1:=@PySem.wpAny_loadName_cell
def De:=@PySem.wpAny_dictFind_heap
def Dh:=@PySem.wpAt_of_wpAny
def Di:=@PySem.evalArgs_none
def Dv:=@PySem.Obj.isFreed_of_dict
def ZI:=@Nat.add_le_add_left
def DM:=@List.replicate_succ
def DW:=@List.length_take_le
def DX:=@List.getElem_of_mem
def D3:=@List.flatMap_append
def QbA:=@List.filter_sublist
def xl:=@PySem.wpAny_Name
def D6:=@PySem.wpAny_delItem_slot
def G2:=@PySem.wpAny_List_spliced
def JR:=@PySem.findBy_of_findIdx?
def QbF:=@PySem.SeqAt.EqAt.str_int
def QbG:=@PySem.SeqAt.EqAt.int_str
def JT:=@List.zip_nil_right
def J5:=@PySem.F.slot_tuple_index
def J6:=@PySem.Code.quiet_builtin
def K9:=@Bool.false_eq_true
def QbL:=@congr
def Lh:=@PySem.wpAny_collect_seq
def Li:=@PySem.wpAny_assign_Name
def L8:=@PySem.slot_dict_getitem
def Mo:=@PySem.richCompare_gives
def Mz:=@not_false_eq_true
def MC:=@decide_eq_true_eq
def MG:=@List.filter_congr
def MI:=@List.Pairwise.map
def M6:=@Int.emod_eq_of_lt
def M_:=@PySem.Heap.Ns1.of_empty
def Na:=@Array.getElem_mem
def xm:=@PySem.small_one
def Nb:=@PySem.wpAny_madeBy_exc
def Nc:=@PySem.wpAny_execs_cons
def Nx:=@PySem.wpAny_Dict_empty
def NG:=@PySem.noFill_tuple_add
def NS:=@Nat.succ_le_succ
def NU:=@Nat.le_of_not_lt
def Pe:=@List.nodup_range
def Pw:=@PySem.Heap.size_update
def SF:=@PySem.wpAny_loadPart'
def TF:=@PySem.codeAny_of_tree
def Uv:=@PySem.codeAny_builtin
def UZ:=@PySem.SeqAt.eq_listAt
def Vf:=@PySem.wpAt_bind
def Vp:=@Option.map_some
def Vq:=@List.range_succ
def Vr:=@Int.natCast_add
def xp:=@if_false
def Vz:=@PySem.wpAny_Compare1
def Qcg:=@PySem.F.type_str_index
def V2:=@PySem.F.slot_tuple_add
def Qci:=@PySem.F.slot_str_index
def V3:=@PySem.refuseLoop_ref
def Qck:=@PySem.F.plainAttrs_str
def WH:=@PySem.W.cellsFrom_some
def WI:=@and_congr_left
def WJ:=@Bool.false_and
def WK:=@Bool.and_false
def WW:=@Array.size_map
def fI:=@Nat.lt_of_le_of_ne
def fU:=@Nat.le_of_not_lt
def gb:=@Nat.le_of_lt_succ
def eL:=@Nat.le_trans
def i2:=@Nat.lt_of_lt_of_le
def jm:=@Nat.le_succ_of_le
def ic:=@Nat.le_antisymm
def jq:=@Nat.mod_lt
def mz:=@Nat.lt_of_le_of_lt
def mK:=@Nat.succ_le_of_lt
def mO:=@Nat.lt_succ_of_lt
def lR:=@Int.ofNat.inj
def l3:=@Nat.le_of_eq
def ri:=@Int.natCast_nonneg
def mR:=@Nat.le_refl
def th:=@Nat.le_add_right_of_le
def rj:=@Nat.lt_succ_self
def rn:=@Nat.succ_pos
def pz:=@Nat.lt_trans
def xW:=@of_decide_eq_true
def tq:=@Nat.lt_succ_of_le
def WY:=@PySem.F.type_list_append
def Xb:=@PySem.F.slot_list_append
def yd:=@decide_eq_true
def mU:=@Eq.symm
def yK:=@Int.toNat_of_nonneg
def Xc:=@decide_eq_true_iff
def tr:=@Nat.le_of_lt
def yS:=@Nat.add_sub_of_le
def yT:=@Nat.le_add_right
def tS:=@PySem.sizeLine_eq
def Xj:=@decide_eq_false
def Xk:=@Nat.add_right_cancel
def Xl:=@Nat.add_lt_add_right
def QcY:=@Nat.add_le_add_left
def QcZ:=@List.filter_sublist
def Xm:=@Nat.pos_of_ne_zero
def Xo:=@Nat.ne_zero_of_lt
def Xp:=@Nat.le_of_succ_le
def Qc3:=@Nat.succ_le_succ
def Xq:=@Nat.min_le_right
def Xs:=@Nat.lt_add_right
def Xt:=@PySem.F.plainAttrs_list
def XW:=@PySem.PassesOwn.never
def XZ:=@PySem.F.type_str_index
def X3:=@PySem.F.slot_str_index
def X7:=@PySem.F.plainAttrs_str
def nA:=@Nat.lt_of_lt_of_le
def k8:=@Nat.le_trans
def ro:=@Nat.le_of_lt
def t5:=@Nat.succ_le_of_lt
def Qde:=@PySem.F.type_list_append
def Qdf:=@PySem.F.slot_list_append
def Qdg:=@PySem.F.plainAttrs_list
def Qdh:=@Nat.le_of_eq
def X8:=@Int.ne_of_gt
def Qdj:=@PySem.F.type_str_index
def Qdk:=@PySem.F.slot_str_index
def Qdl:=@PySem.F.plainAttrs_str
def Qdm:=@PySem.PassesOwn.never
def Qdn:=@Nat.add_le_add_left
def Qdo:=@List.filter_sublist
def Qdp:=@Int.toNat_of_nonneg
def Qdq:=@decide_eq_true_iff
def Qdr:=@Nat.lt_of_le_of_lt
def Qds:=@of_decide_eq_true
def Qdt:=@PySem.sizeLine_eq
def Qdu:=@Nat.lt_succ_of_lt
def Qdv:=@Nat.le_succ_of_le
def Qdw:=@Nat.succ_le_succ
def X9:=@Nat.not_lt_of_le
def Qdy:=@Nat.min_le_right
def Qdz:=@Nat.lt_succ_self
def QdA:=@Nat.lt_add_right
def QdB:=@Nat.le_of_not_lt
def QdC:=@decide_eq_false
def QdD:=@decide_eq_true
namespace L2
open PySem PySem.Spec PyProof.Rows
abbrev Key:=Sum Int af
def tP:Key->a7->cm
 |.inl k,v=>Value.isInt k v
 |.inr x,v=>Value.isStrOf x v
def ZjE(w:cX):Key->Int
 |.inl k=>hashInt k
 |.inr x=>hashStr w x
theorem mV:∀{k:Key} {v:a7},tP k v=ar->(∃i t,k=Sum.inl i/\v=Value.int i t)\/(∃x t,k=Sum.inr x/\v=Value.str x t)
 |.inl i,v,h=>by
  obtain⟨t,e⟩:=Value.isInt_shape h
  simp_all
 |.inr x,v,h=>by
  obtain⟨t,e⟩:=Value.isStrOf_shape h
  simp_all
def Zdt(i:Int)(t:Tok):tP (.inl i) (.int i t)=ar:=by simp[tP,Value.isInt]
def Zdu(x:af)(t:Tok):tP (.inr x) (.str x t)=ar:=by simp[tP,Value.isStrOf]
def Zhj(a b:Int):decide ((Sum.inl a:Key)=Sum.inl b)=(a==b):=by
 grind
def Zhk(a b:af):decide ((Sum.inr a:Key)=Sum.inr b)=decide (a=b):=by
 simp_all
def Zhl(a:Int)(b:af):decide ((Sum.inl a:Key)=Sum.inr b)=a_:=fb (λq=>nomatch q)
def Zhm(a:af)(b:Int):decide ((Sum.inr a:Key)=Sum.inl b)=a_:=fb (λq=>nomatch q)
def dO(c:c9)(w:cX):PySem.KeyKind c w Key where
 is:=tP
 hash:=ZjE w
 inj:=λv a b m g=>by
  rcases mV m with⟨i,t,rfl,rfl⟩|⟨x,t,rfl,rfl⟩
  ·rcases mV g with⟨j,u,rfl,e⟩|⟨y,u,rfl,e⟩;·injection e with d _;rw[d]
   ·exact nomatch e
  ·rcases mV g with⟨j,u,rfl,e⟩|⟨y,u,rfl,e⟩;·exact nomatch e
   ·injection e with d _;rw[d]
 byValue:=λk v h=>by
  rcases mV h with⟨i,t,rfl,rfl⟩|⟨x,t,rfl,rfl⟩<;>rfl
 pyHash:=λf h=>by
  rcases mV f with⟨i,t,rfl,rfl⟩|⟨x,t,rfl,rfl⟩;·exact wpAny_pyHash_int h
  ·exact wpAny_pyHash_str h
 eqBool:=λl f h=>by
  rcases mV l with⟨i,t,rfl,rfl⟩|⟨x,t,rfl,rfl⟩
  ·rcases mV f with⟨j,u,rfl,rfl⟩|⟨y,u,rfl,rfl⟩;·rw[Zhj] at h;exact wpAny_eqBool_int h
   ·rw[Zhl] at h;exact SeqAt.EqAt.int_str i t y u _ _ _ _ h
  ·rcases mV f with⟨j,u,rfl,rfl⟩|⟨y,u,rfl,rfl⟩;·rw[Zhm] at h;exact SeqAt.EqAt.str_int x t j u _ _ _ _ h
   ·rw[Zhk] at h;exact wpAny_eqBool_str h
 «strs»:=λk x t v h=>by
  rcases mV h with⟨i,u,rfl,e⟩|⟨y,u,rfl,e⟩;·exact nomatch e
  ·injection e with d _;subst d;cases v<;>rfl
def ZbP(a:c9)(w:cX)(i:Int)(t:Tok):(dO a w).is (.inl i) (.int i t)=ar:=Zdt i t
def ZbQ(a:c9)(w:cX)(x:af)(t:Tok):(dO a w).is (.inr x) (.str x t)=ar:=Zdu x t
inductive V where
 |aC|bl (b:cm)|int (i:Int)|str (x:af)|kg (b:c8 UInt8)|uk (b:UInt64)|ref (a:U)|ty (n:String)
 deriving DecidableEq
def RelV:V->a7->Prop
 |.aC,u=>u=Value.none
 |.bl b,u=>u=Value.bool b
 |.int i,u=>∃t,u=Value.int i t
 |.str x,u=>∃t,u=Value.str x t
 |.kg b,u=>∃t,u=Value.bytes b t
 |.uk b,u=>∃t,u=Value.float b t
 |.ref a,u=>u=Value.ref a
 |.ty n,u=>u=Value.type n
abbrev Vals:Z V->Z a7->Prop:=Paired RelV
def Vals.length{a:Z V}{b:Z a7}(r:Vals a b):a.length=b.length:=Paired.length r
theorem Vals.get:∀{a:Z V} {b:Z a7} {i:Nat} {x:V},Vals a b->a[i]?=O x->∃u,b[i]?=O u/\RelV x u
 |_,_,_,_,.nil,e=>by simp at e
 |_,_,0,_,.cons r _,e=>by simp at e;subst e;exact⟨_,rfl,r⟩
 |_,_,i+1,x,.cons _ t,e=>by
  obtain⟨u,d,c⟩:=Vals.get t (by simpa using e)
  simp_all
theorem Vals.set{x:V}{u:a7}(r:RelV x u):∀{a:Z V} {b:Z a7} (i:Nat),Vals a b->Vals (a.set i x) (b.set i u)
 |_,_,_,.nil=>.nil
 |_,_,0,.cons _ t=>.cons r t
 |_,_,i+1,.cons q t=>.cons q (Vals.set r i t)
theorem Vals.append:∀{b a:Z V} {d c:Z a7},Vals b d->Vals a c->Vals (b++a) (d++c):=by
 intro b a d c h f;induction h with
 |nil=>exact f
 |cons r t e=>exact .cons r e
theorem Vals.take:∀{a:Z V} {b:Z a7} (n:Nat),Vals a b->Vals (a.take n) (b.take n)
 |_,_,0,_=>.nil
 |_,_,_+1,.nil=>.nil
 |_,_,n+1,.cons r t=>.cons r (Vals.take n t)
theorem Vals.drop:∀{a:Z V} {b:Z a7} (n:Nat),Vals a b->Vals (a.drop n) (b.drop n)
 |_,_,0,r=>r
 |_,_,_+1,.nil=>.nil
 |_,_,n+1,.cons _ t=>Vals.drop n t
def eR:bw V->bw a7->Prop
 |some v,some u=>RelV v u
 |none,none=>True
 |_,_=>False
def KV{a:Type}:Z (a×V)->Z (a×a7)->Prop:=Paired λ(p:a×V) (q:a×a7)=>p.1=q.1/\RelV p.2 q.2
def kV:Key->V
 |.inl i=>.int i
 |.inr x=>.str x
inductive HO where
 /--a list-/
 |lst(d:Z V)
 /--a tuple(never changes)-/
 |tup(d:Z V)
 /--a dict ZiU keys are ints and texts;one ZiU keys are tuples of ints and texts(qu empty one is both)-/
 |dK(c:Z (Key×V))|dT(c:Z (Z Key×V))
 /--a set of ints:au members,au size-/
 |set (b:Int->cm) (n:Nat)
 /--an instance of qu class at C,au dict at g,au attributes-/
 |ins (C g:U) (fs:Z (af×V))
 /--qu dict of qu instance at x-/
 |own (x:U)
 /--qu dict of an exception-/
 |xd (fs:Z (af×V))
 /--a bound method,f of x-/
 |met (f x:U)
 /--a range object lo,lo+1,.. below e-/
 |kh (lo e:Int)
 /--a ZiV Zl0 is known to qu object (qu Ss;a dict while a loop walks it):read,never written while it is so-/
 |cH (o:Obj) (u:HO)
 /--a code ZlM table-/
 |rT (j:c8 a7)
 /--any other ZiV,by ZjF is ar of au one object (a def of ZlW own:Zl1 a b n:=HO.ext λh=>..)-/
 |ext (i:cS->Prop)
abbrev Hp:=U->bw HO
def upd(H:Hp)(a:U)(o:HO):Hp:=λb=>if b=a then O o else H b
def aT:upd H a o a=O o:=by unfold upd;rw[bS rfl]
def aN(h:b≠a):upd H a o b=H b:=by unfold upd;rw[bt h]
def IM:upd (upd H a o) a u=upd H a u:=by
 funext b;unfold upd;split<;>rfl
def Kr{H:Hp}(h:H a=O o)(c:H b=O u)(d:o≠u):a≠b:=by
 intro e;subst e;rw[h] at c;exact d (Yo c)
def bP{H:Hp}(h:H a=O o)(c:H b=aF):a≠b:=by
 grind
section
variable (P:c9)(w:cX)
def oA(h:cS)(a:U)(b:c8 a7):Prop:=∃o,h.get? a=O o/\o.cls=.type "tuple"/\∃n,o.data=.seq b n/\o.dict=aF
def oA.tup(x:oA h a items):IsTup h a items:=let⟨o,e,c,n,d,_⟩:=x;⟨o,e,c,n,d⟩
def oA.lt(x:oA h a items):a<h.objs.size:=x.tup.lt
def oA.new(h:cS)(items:c8 a7):oA (h.push {cls:=.type "tuple",data:=.seq items}) h.objs.size items:=⟨_,Yv _ rfl,rfl,_,rfl,rfl⟩
def cQ(H:Hp)(h:cS)(a:U):HO->Prop
 |.lst b=>b.length<=sizeLine/\∃(d:Z a7) (n:Nat),Vals b d/\h.get? a=O {cls:=.type "list",data:=.seq d.toArray n}
 |.tup b=>b.length<=sizeLine/\∃d:Z a7,Vals b d/\oA h a d.toArray
 |.dK kvs=>kvs.length<=sizeLine/\(a==sysModules)=a_/\∃e,KV kvs e/\h.DictOf (dO P w) a e
 |.dT kvs=>kvs.length<=sizeLine/\(a==sysModules)=a_/\∃b:Z (Z Key×U×a7),
   Paired (λ(p:Z Key×V) (q:Z Key×U×a7)=>p.1=q.1/\H q.2.1=O (.tup (p.1.map kV))/\RelV p.2 q.2.2) kvs b/\
   ∃o j k,h.get? a=O o/\o.ExactDict/\o.data=.dict j k/\j.toList=b.map (entryOfKey (tupleKind (dO P w)))/\(b.map (·.1)).Nodup
 |.set S n=>h.SetOf (intKind P w) a S n
 |.ins C dx fs=>H dx=O (.own a)/\fs.length<=1000/\dx≠a/\h.get? a=O (instObj C dx)/\
   ∃c,h.Ns1 dx c/\(∀f,eR (fs.lookup f) (c f))/\PySem.Within c (fs.map (·.1))
 |.own _=>∃o,h.get? a=O o
 |.xd fs=>∃c,h.Ns1 a c/\∀f,eR (fs.lookup f) (c f)
 |.kh lo hi=>∃t u v,h.get? a=O {cls:=.type "range",data:=.fields #[.int lo t,.int hi u,.int 1 v]}
 |.cH o u=>h.get? a=O o/\cQ H h a u
 |.rT ps=>h.get? a=O {cls:=.none,data:=.fields ps}
 |.met f x=>h.get? a=O (methodObj (.ref f) (.ref x))
 |.ext φ=>φ h/\(∃o,h.get? a=O o)/\∀i g:cS,φ i->(∀o,i.get? a=O o->g.get? a=O o)->φ g
def dv(H:Hp)(h:cS):Prop:=∀a o,H a=O o->cQ P w H h a o
end
theorem cQ.lt(x:cQ P w H h a o):a<h.objs.size:=by
 cases o with
 |lst xs=>obtain⟨_,_,_,_,e⟩:=x;exact Yu e
 |tup xs=>obtain⟨_,_,_,p⟩:=x;exact p.lt
 |dK b=>obtain⟨_,_,_,_,o,_,_,e,_⟩:=x;exact Yu e
 |dT b=>obtain⟨_,_,_,_,o,_,_,e,_⟩:=x;exact Yu e
 |set S n=>obtain⟨o,_,_,_,e,_⟩:=x;exact Yu e
 |ins C j fs=>obtain⟨_,_,_,e,_⟩:=x;exact Yu e
 |own y=>obtain⟨_,e⟩:=x;exact Yu e
 |xd fs=>obtain⟨_,⟨_,_,_,e,_⟩,_⟩:=x;exact Yu e
 |kh lo i=>obtain⟨_,_,_,e⟩:=x;exact Yu e
 |cH g u=>obtain⟨e,_⟩:=x;exact Yu e
 |rT d=>exact Yu (x)
 |met f y=>exact Yu (x)
 |ext c=>obtain⟨_,⟨_,e⟩,_⟩:=x;exact Yu e
theorem Paired.bu{e d:Type}{F G:e->d->Prop}:∀{c:Z e} {l₂:Z d},Paired F c l₂->(∀a b,F a b->G a b)->Paired G c l₂:=by
 intro c l₂ h f;induction h with
 |nil=>exact .nil
 |cons r t g=>exact .cons (f _ _ r) g
theorem cQ.iN(x:cQ P w H h a o)(k:∀b u,(b=a\/H b=O (.own a))->h.get? b=O u->J.get? b=O u)
  (I:∀b,H b=O (.own a)->D b=O (.own a))(G:∀b l,H b=O (.tup l)->D b=O (.tup l)):cQ P w D J a o:=by
 induction o with
 |lst l=>obtain⟨z,B,n,r,e⟩:=x;exact⟨z,B,n,r,k _ _ (.inl rfl) e⟩
 |tup l=>obtain⟨z,B,r,g,e,c⟩:=x;exact⟨z,B,r,g,k _ _ (.inl rfl) e,c⟩
 |dK A=>obtain⟨z,y,E,r,g,i,j,e,c⟩:=x;exact⟨z,y,E,r,g,i,j,k _ _ (.inl rfl) e,c⟩
 |dT A=>
  obtain⟨z,y,l,r,g,i,j,e,c⟩:=x;exact⟨z,y,l,Paired.bu r λp q z=>⟨z.1,G _ _ z.2.1,z.2.2⟩,g,i,j,k _ _ (.inl rfl) e,c⟩
 |set S n=>obtain⟨g,i,j,t,e,c⟩:=x;exact⟨g,i,j,t,k _ _ (.inl rfl) e,c⟩
 |ins C T fs=>
  obtain⟨d,z,ne,e,s,⟨m,i,j,L,c⟩,r⟩:=x;exact⟨I _ d,z,ne,k _ _ (.inl rfl) e,s,⟨m,i,j,k _ _ (.inr d) L,c⟩,r⟩
 |own y=>obtain⟨g,e⟩:=x;exact⟨g,k _ _ (.inl rfl) e⟩
 |xd fs=>obtain⟨s,⟨m,i,j,e,c⟩,r⟩:=x;exact⟨s,⟨m,i,j,k _ _ (.inl rfl) e,c⟩,r⟩
 |kh lo R=>obtain⟨t,u,v,e⟩:=x;exact⟨t,u,v,k _ _ (.inl rfl) e⟩
 |cH g u F=>obtain⟨e,q⟩:=x;exact⟨k _ _ (.inl rfl) e,F q⟩
 |rT Q=>
  have e:=x;exact k a _ (.inl rfl) e
 |met f y=>
  have e:=x;exact k a _ (.inl rfl) e
 |ext N=>obtain⟨p,⟨o,e⟩,st⟩:=x;exact⟨st _ _ p λo q=>k _ _ (.inl rfl) q,⟨o,k _ _ (.inl rfl) e⟩,st⟩
def dv.lt(x:dv P w H h)(e:H a=O o):a<h.objs.size:=(x a o e).lt
theorem dv.fresh(x:dv P w H h)(e:h.objs.size<=a):H a=aF:=by
 cases q:H a with
 |none=>rfl
 |some u=>exact absurd (Y3 (x.lt q) e) (Wi _)
def dv.kept(x:dv P w H h)(k:∀b u,h.get? b=O u->h'.get? b=O u):dv P w H h':=λa o e=>
 (x a o e).iN (λ b u _=>k b u) (λ_ q=>q) λ_ _ q=>q
def dv.laid(x:dv P w H h)(k:∀b u,h.get? b=O u->h'.get? b=O u)(i:h.objs.size<=a)(d:cQ P w (upd H a o) h' a o):dv P w (upd H a o) h':=λb u e=>by
 have f:=x.fresh i;by_cases g:b=a;·subst g;rw[aT] at e;cases e;exact d
 ·rw[aN g] at e;exact(x b u e).iN (λ c v _=>k c v) (λc q=>by rwa[aN (bP q f)]) λc j q=>by rwa[aN (bP q f)]
def Rd(H:Hp)(a:U)(u:HO):Prop:=H a=O u\/∃o,H a=O (.cH o u)
def Rd.ok{P:c9}{w:cX}{H:Hp}{h:cS}{a:U}{u:HO}(r:Rd H a u)(x:dv P w H h):cQ P w H h a u:=by
 rcases r with r|⟨o,r⟩;·exact x a u r
 ·obtain⟨_,q⟩:=x a _ r;exact q
def zb:bw HO->Prop
 |some (.lst _)=>True
 |some (.dK _)=>True
 |some (.dT _)=>True
 |some (.set _ _)=>True
 |some (.ins _ _ _)=>True
 |some (.ext _)=>True
 |_=>False
def dv.write(t:dv P w H h)(d:zb (H x))(o:e=x\/H e=O (.own x))(k:∀b u,b≠e->h.get? b=O u->h'.get? b=O u)(s:∃u,h'.get? e=O u)
  (j:cQ P w (upd H x n) h' x n):dv P w (upd H x n) h':=λb u q=>by
 have p:∀c y,H c=O (.own y)->c≠x:=λc y r z=>by subst z;rw[r] at d;exact d
 have l:∀c a,H c=O (.tup a)->c≠x:=λc a r z=>by subst z;rw[r] at d;exact d
 by_cases g:b=x;·subst g;rw[aT] at q;cases q;exact j
 ·rw[aN g] at q;by_cases i:b=e
  ·have m:H b=O (.own x):=by
    rcases o with z|z;·exact absurd (i.trans z) g
    ·rwa[i]
   rw[q] at m;cases m;obtain⟨v,A⟩:=s;exact⟨v,by rwa[i]⟩
  ·refine(t b u q).iN (λc v f r=>k c v ?_ r) (λc r=>by rwa[aN (p c b r)]) λc a r=>by rwa[aN (l c a r)]
   rcases f with rfl|f;·exact i
   ·rintro rfl;rcases o with z|z;·exact p c b f z
    ·rw[f] at z;cases z;exact g rfl
structure Un(fs ex:Z U)(H H':Hp)(h h':cS):Prop where
 keep:∀b o,h.get? b=O o->H b=aF->b∉fs->b∉ex->h'.get? b=O o
 slot:∀b o,h.get? b=O o->H b=aF->b∈fs->b∉ex->∃sl,h'.get? b=O {o with slots:=sl}
 free:∀b o,h.get? b=O o->H b=aF->b∉ex->H' b=aF
 there:∀b o,h.get? b=O o->b∉ex->∃o',h'.get? b=O o'
 iC:∀b xs,H b=O (.tup xs)->H' b=O (.tup xs)
 iO:∀b o u,H b=O (.cH o u)->H' b=O (.cH o u)
 jd:∀b ps,H b=O (.rT ps)->∃more,H' b=O (.rT (ps++more))
section
variable {fs X:Z U}{H H1 R:Hp}{h W T h':cS}{a:U}{o:HO}
def Un.any(u:Un fs X H H1 h W)(q:h.get? b=O c)(n:H b=aF)(d:b∉X):∃f,W.get? b=O {c with slots:=f}:=by
 by_cases e:b∈fs;·exact u.slot b c q n e d
 ·exact⟨c.slots,u.keep b c q n e d⟩
theorem Un.trans(a:Un fs X H H1 h W)(b:Un fs X H1 R W T):Un fs X H R h T where
 keep:=λc d q n i e=>b.keep c d (a.keep c d q n i e) (a.free c d q n e) i e
 slot:=λc d q n i e=>by
  obtain⟨m,f⟩:=a.slot c d q n i e;obtain⟨s,l⟩:=b.slot c _ f (a.free c d q n e) i e
  grind
 free:=λc d q n e=>by
  obtain⟨j,f⟩:=a.there c d q e;exact b.free c j f (a.free c d q n e) e
 there:=λc d q e=>by
  obtain⟨j,f⟩:=a.there c d q e;exact b.there c j f e
 iC:=λc g q=>b.iC c g (a.iC c g q)
 iO:=λc d g q=>b.iO c d g (a.iO c d g q)
 jd:=λc k q=>by
  obtain⟨r,f⟩:=a.jd c k q;obtain⟨p,l⟩:=b.jd c _ f
  grind
def Un.kept(k:∀b u,h.get? b=O u->h'.get? b=O u):Un fs X H H h h':=
 ⟨λb c q _ _ _=>k b c q,λb c q _ _ _=>⟨c.slots,k b c q⟩,λ_ _ _ n _=>n,λb c q _=>⟨c,k b c q⟩,λ_ _ q=>q,λ_ _ _ q=>q,λ_ d q=>⟨#[],by rw[q];simp⟩⟩
def Un.refl:Un fs X H H h h:=Un.kept λ_ _ q=>q
theorem Un.laid(k:∀b u,h.get? b=O u->h'.get? b=O u)(e:h.objs.size<=a)(c:H a=aF):Un fs X H (upd H a o) h h' where
 keep:=λb u q _ _ _=>k b u q
 slot:=λb u q _ _ _=>⟨u.slots,k b u q⟩
 free:=λb u q n _=>by rw[aN (Y0 (Y3 (Yu q) e))];exact n
 there:=λb u q _=>⟨u,k b u q⟩
 iC:=λb d q=>by rw[aN (bP q c)];exact q
 iO:=λb u d q=>by rw[aN (bP q c)];exact q
 jd:=λb f q=>⟨#[],by rw[aN (bP q c),q];simp⟩
def Un.write(c:zb (H x))(p:e=x\/H e=O (.own x))(k:∀b u,b≠e->h.get? b=O u->h'.get? b=O u)(l:∃u,h'.get? e=O u):Un fs X H (upd H x o) h h':=by
 have j:∀b,H b=aF->b≠x:=λb n z=>by subst z;rw[n] at c;exact c
 have f:∀b,H b=aF->b≠e:=λb n z=>by
  grind
 have d:∀b u,H b=O u->¬zb (O u)->b≠x:=λb u q i z=>by subst z;rw[q] at c;exact i c
 refine⟨λb u q n _ _=>k b u (f b n) q,λb u q n _ _=>⟨u.slots,k b u (f b n) q⟩,λb u q n _=>by rwa[aN (j b n)],λb u q _=>?_,
  λb g q=>by rwa[aN (d b _ q λz=>z)],λb u g q=>by rwa[aN (d b _ q λz=>z)],λb m q=>⟨#[],by rw[aN (d b _ q λz=>z),q];simp⟩⟩
 grind
end
def wq(h:cS)(H:Hp):Z U:=(List.range h.objs.size).filter λa=>(H a).isSome
def qm(h:cS)(H:Hp):cS:=PySem.W.hideAll h (wq h H)
def Zdv(h:cS)(H:Hp):(qm h H).objs.size=h.objs.size:=PySem.W.hideAll_size _ _
def Zep(e:h.get? b=O o)(n:H b=aF):(qm h H).get? b=O o:=
 PySem.W.hideAll_get _ e λa=>by
  have q:=(Y5.mp a).2
  simp_all
theorem ZfV(e:(qm h H).get? b=O o):h.get? b=O o/\H b=aF:=by
 have a:=PySem.W.of_hideAll (wq h H) e;refine⟨a,?_⟩;cases q:H b with
 |none=>rfl
 |some x=>
  have z:(qm h H).get? b=aF:=PySem.W.hideAll_none (wq h H) (Y5.mpr ⟨Wn.mpr (Yu a),by simp[q]⟩)
  simp_all
structure Mod(K:ah)(mg:aR)(base:cS):Prop where
 nJ:K.In base
 glob:base.Ns mainGlobals mg
 blt:∃mb,base.Ns builtinsNs mb/\∀x:af,x≠"__name__"->mb x=bootBuiltins x
 nolimit:base.NoLimit
structure Cx where
 prog:c9
 w:cX
 K:ah
 mg:af->bw a7
 base:cS
 A:d_
 N:Z af
 di:bU
 mD:Hp
 env:Env
 outer:Z Env
 stack:Z Env
 ex:Z U
 fn:af->cm
 calm:cm
 pn:Z (U×Obj)
 xe:a7->bU->Prop
abbrev Cx.md(X:Cx):=model X.prog X.w
abbrev iQ(X:Cx)(e:cu)(a:Z cu):Prop:=starEach (e::a) X.env=(a_,eval e X.env)::starEach a X.env
abbrev jj(X:Cx)(a:Pos)(b:Z cu):Prop:=(backTo a (starEach b X.env)).any (·.1)=a_
def cW(l:Z Env):Z U:=l.filterMap (·.frame)
abbrev Cx.fs(X:Cx):Z U:=cW X.outer
def um(a:Scope)(x:af):Prop:=a.names.lookup x=O .local\/a.names.lookup x=O .cell\/a.names.lookup x=O .free
def Loc(a:Scope)(x:af):Prop:=a.names.lookup x=O .local\/a.names.lookup x=O .cell
def Look(a:Env)(h:cS)(m:aR)(x:af)(u:a7):Prop:=
 (a.kindOf x=O .local/\m x=O u)\/((a.kindOf x=O .cell\/a.kindOf x=O .free)/\∃c,a.cells.lookup x=O c/\h.IsCell c (O u))
structure Cx.Ok(X:Cx):Prop where
 mod:Mod X.K X.mg X.base
 kind:X.env.scope.kind=.function
 glob:X.env.globals=mainGlobals
 blt:X.env.builtins=builtinsNs
 above:X.di.heap.objs.size<=X.env.locals
 inj:∀x y c,X.env.cells.lookup x=O c->X.env.cells.lookup y=O c->x=y
 has:∀x,(X.env.kindOf x=O .cell\/X.env.kindOf x=O .free)->∃c,X.env.cells.lookup x=O c
 uo:∀x c,X.fn x=ar->X.env.cells.lookup x=O c->X.di.heap.objs.size<=c
 hd:X.calm=ar->X.A.handled=aF
 frames:X.A.frames=O X.stack
 wu:X.stack=X.outer\/(X.stack=X.env::X.outer/\X.env.frame=O X.env.locals)
 rU:∀b∈X.ex,b≠X.env.locals/\∀x c,X.env.cells.lookup x=O c->c≠b
 bs:∀b o,X.base.get? b=O o->X.di.heap.get? b=O o/\X.mD b=aF
 nK:X.base.objs.size<=X.di.heap.objs.size
 t4:∀b o,X.base.get? b=O o->b∉X.ex
 rH:∀b∈X.ex,b∉X.fs
 j_:X.di.heap.FunFrames X.base X.outer
 qv:∀b∈X.fs,X.mD b=aF
structure Inv(X:Cx)(pins:aX)(σ:Z (bw V))(H:Hp)(s:bU):Prop where
 ok:X.Ok
 os:s.os=X.di.os
 bare:AllBare s.gens
 base:Un X.fs X.ex X.mD H X.di.heap s.heap
 loc:∃m,s.heap.Ns X.env.locals m/\∀(i:Nat) (x:af) (v:V),X.N[i]?=O x->σ[i]?=O (O v)->um X.env.scope x->∃u,RelV v u/\Look X.env s.heap m x u
 cell:∀x c,X.env.cells.lookup x=O c->∃v,s.heap.IsCell c v
 free:H X.env.locals=aF
 iM:∀x c,X.env.cells.lookup x=O c->H c=aF
 pin:∀p∈X.pn++pins,s.heap.get? p.1=O p.2/\H p.1=aF/\p.1≠X.env.locals/\p.1∉X.fs/\∀v,p.2.data≠.cell v
 ay:dv X.prog X.w H s.heap
 len:σ.length=X.N.length
section
variable {X:Cx}{W:aX}{σ:Z (bw V)}{H T:Hp}{s:bU}{h':cS}
def Cx.Ok.ZjH(a:X.Ok)(e:X.base.get? b=O o):b∉X.fs:=λc=>by
 have:=(a.j_.mem c).1
 simp_all
def Inv.bs(I:Inv X W σ H s):∀b o,X.base.get? b=O o->s.heap.get? b=O o/\H b=aF:=λb o e=>
 ⟨I.base.keep b o (I.ok.bs b o e).1 (I.ok.bs b o e).2 (I.ok.ZjH e) (I.ok.t4 b o e),I.base.free b o (I.ok.bs b o e).1 (I.ok.bs b o e).2 (I.ok.t4 b o e)⟩
def Inv.bk(I:Inv X W σ H s):∀b o,X.base.get? b=O o->s.heap.get? b=O o:=λb o e=>(I.bs b o e).1
def Inv.mod(I:Inv X W σ H s):Mod X.K X.mg X.base:=I.ok.mod
def Inv.cA(I:Inv X W σ H s):X.K.In s.heap:=I.ok.mod.nJ.keeps I.bk
def Inv.lt(I:Inv X W σ H s):X.env.locals<s.heap.objs.size:=let⟨_,a,_⟩:=I.loc;a.lt
def Inv.sz(I:Inv X W σ H s):X.di.heap.objs.size<=s.heap.objs.size:=Yy I.ok.above (J1 I.lt)
def Inv.ZjI(I:Inv X W σ H s)(h:s.heap.objs.size<=a):a∉X.fs:=λc=>by
 obtain⟨_,o,b,_⟩:=I.ok.j_.mem c;exact absurd (Y3 (Yu b) (Yy I.sz h)) (Wi _)
def Inv.qw(I:Inv X W σ H s):∀x c,X.env.cells.lookup x=O c->c≠X.env.locals:=λx c e z=>by
 obtain⟨v,o,d,hd⟩:=I.cell x c e;obtain⟨m,⟨b,f,g,a,h,_⟩,_⟩:=I.loc
 grind
theorem Inv.j_(I:Inv X W σ H s):s.heap.FunFrames X.base X.outer:=by
 have all:∀(l:Z Env),(∀b∈cW l,b∈X.fs)->X.di.heap.FunFrames X.base l->s.heap.FunFrames X.base l:=by
  intro l;induction l with
  |nil=>intro _ _;trivial
  |cons env r g=>
   rintro f ⟨k,⟨L,o,a,j,i,hd⟩,h⟩;have d:=f L (by unfold cW;rw[Jt,a];exact Yg);obtain⟨m,e⟩:=I.base.slot L o i (I.ok.qv L d) d λz=>I.ok.rH L z d;exact⟨k,⟨L,_,a,j,e,hd⟩,g (λb c=>f b (by unfold cW;rw[Jt,a];exact Yw _ c)) h⟩
 exact all X.outer (λ_ c=>c) I.ok.j_
def Inv.stack(I:Inv X W σ H s):s.heap.FunFrames X.base X.stack:=by
 rcases I.ok.wu with e|⟨e,b⟩;·exact e▸I.j_
 ·rw[e];obtain⟨m,a,_⟩:=I.loc;refine .cons (by rw[I.ok.kind];decide) b a ?_ I.j_;exact CT (Yy I.ok.nK I.ok.above)
def Inv.JP(I:Inv X W σ H s):∀b∈cW X.stack,b∈X.env.locals::X.fs:=λb a=>by
 rcases I.ok.wu with e|⟨e,c⟩;·simp_all
 ·rw[e] at a;unfold cW at a;rw[Jt,c] at a;exact a
def Inv.Ba(I:Inv X W σ H s):∀b∈cW X.stack,H b=aF:=λb a=>by
 rcases Ys.mp (I.JP b a) with e|a;·exact e▸I.free
 ·obtain⟨_,o,c,_⟩:=I.ok.j_.mem a;exact I.base.free b o c (I.ok.qv b a) λz=>I.ok.rH b z a
def Inv.step{g':c8 GenState}{t':Nat}{d':Drawn}{ch:Z U}(I:Inv X W σ H s)
  (D:∀b∈ch,(b∈X.ex\/X.di.heap.objs.size<=b)/\b≠X.env.locals/\(∀x c,X.env.cells.lookup x=O c->c≠b)/\∀p∈X.pn++W,p.1≠b)
  (g:∀b o,b≠X.env.locals->b∉X.fs->b∉ch->s.heap.get? b=O o->H b=aF->h'.get? b=O o)
  (w:∀b o,b≠X.env.locals->b∈X.fs->b∉ch->s.heap.get? b=O o->H b=aF->∃L,h'.get? b=O {o with slots:=L})(f:∀b o,b∉ch->s.heap.get? b=O o->H b=aF->T b=aF)
  (y:∀b o,b∉ch->s.heap.get? b=O o->∃E,h'.get? b=O E)
  (iC:∀b t,H b=O (.tup t)->T b=O (.tup t))(iO:∀b o u,H b=O (.cH o u)->T b=O (.cH o u))(jd:∀b G,H b=O (.rT G)->∃more,T b=O (.rT (G++more)))
  (ns:∀m,s.heap.Ns X.env.locals m->h'.Ns X.env.locals m)(ay:dv X.prog X.w T h')(hg:AllBare g'):
  Inv X W σ T {s with heap:=h',gens:=g',drawn:=d',toks:=t'}:=by
 have R:∀b o,X.di.heap.get? b=O o->b≠X.env.locals:=λb o e=>Y0 (Y3 (Yu e) I.ok.above);have J:∀b o,X.di.heap.get? b=O o->b∉X.ex->b∉ch:=λb o e a A=>by
  rcases(D b A).1 with z|z;·exact a z
  ·exact absurd (Y3 (Yu e) z) (Wi _)
 have h:∀x c,X.env.cells.lookup x=O c->∀v,s.heap.IsCell c v->h'.IsCell c v:=λx c e v ⟨o,B,hd⟩=>by
  have C:=λz=>(D c z).2.2.1 x c e rfl;by_cases Q:c∈X.fs
  ·obtain⟨L,q⟩:=w c o (I.qw x c e) Q C B (I.iM x c e);exact⟨_,q,hd⟩
  ·exact⟨o,g c o (I.qw x c e) Q C B (I.iM x c e),hd⟩
 refine⟨I.ok,I.os,hg,⟨λb o e n A a=>?_,λb o e n A a=>?_,λb o e n a=>?_,λb o e a=>?_,λb t e=>iC b t (I.base.iC b t e),λb o t e=>iO b o t (I.base.iO b o t e),λb G e=>?_⟩,?_,λx c e=>?_,?_,λx c e=>?_,λp P=>?_,ay,I.len⟩;·exact g b o (R b o e) A (J b o e a) (I.base.keep b o e n A a) (I.base.free b o e n a)
 ·obtain⟨L,j⟩:=I.base.slot b o e n A a;obtain⟨V1,F⟩:=w b _ (R b o e) A (J b o e a) j (I.base.free b o e n a);exact⟨V1,F⟩
 ·obtain⟨E,j⟩:=I.base.there b o e a;exact f b E (J b o e a) j (I.base.free b o e n a)
 ·obtain⟨E,j⟩:=I.base.there b o e a;exact y b E (J b o e a) j
 ·obtain⟨m1,j⟩:=I.base.jd b G e;obtain⟨m2,F⟩:=jd b _ j;exact⟨m1++m2,by rw[F,Array.append_assoc]⟩
 ·obtain⟨m,hn,hl⟩:=I.loc;refine⟨m,ns m hn,λi x v j F e3=>?_⟩;obtain⟨u,r,l⟩:=hl i x v j F e3;refine⟨u,r,?_⟩;rcases l with l|⟨k,c,e,z⟩;·exact .inl l
  ·exact .inr ⟨k,c,e,h x c e _ z⟩
 ·obtain⟨v,z⟩:=I.cell x c e;exact⟨v,h x c e v z⟩
 ·obtain⟨m,⟨o,_,_,B,_⟩,_⟩:=I.loc;exact f _ o (λz=>(D _ z).2.1 rfl) B I.free
 ·obtain⟨v,o,B,hd⟩:=I.cell x c e;exact f c o (λz=>(D c z).2.2.1 x c e rfl) B (I.iM x c e)
 ·obtain⟨e,n,ne,N,d⟩:=I.pin p P;have C:=λz=>(D p.1 z).2.2.2 p P rfl;exact⟨g p.1 p.2 ne N C e n,f p.1 p.2 C e n,ne,N,d⟩
def Inv.un(I:Inv X W σ H s)(u:Un X.fs [] H T s.heap h')(i:dv X.prog X.w T h'):Inv X W σ T {s with heap:=h',toks:=l}:=by
 obtain⟨m,⟨o,v,w,d,r⟩,_⟩:=id I.loc;obtain⟨p,h⟩:=u.any d I.free QS;exact I.step (g':=s.gens) (ch:=[]) (λ_ z=>nomatch z) (λb o _ a _ e n=>u.keep b o e n a QS) (λb o _ a _ e n=>u.slot b o e n a QS) (λb o _ e n=>u.free b o e n QS) (λb o _ e=>u.there b o e QS) u.iC u.iO u.jd (λt g=>by
  obtain⟨q,k,j,c,f⟩:=g;rw[d] at c;cases c;exact⟨_,k,j,h,f⟩) i I.bare
def Inv.call(I:Inv X W σ H s)(u:Un (cW X.stack) ch H T s.heap h')(t:dv X.prog X.w T h')(k:AllBare q)
  (g:∀b∈ch,(b∈X.ex\/X.di.heap.objs.size<=b)/\b≠X.env.locals/\(∀x c,X.env.cells.lookup x=O c->c≠b)/\∀p∈X.pn++W,p.1≠b):
  Inv X W σ T {s with heap:=h',gens:=q,drawn:=F,toks:=y}:=by
 obtain⟨m,⟨o,D,E,h,r⟩,_⟩:=id I.loc;obtain⟨A,d⟩:=u.any h I.free λz=>(g _ z).2.1 rfl;exact I.step g (λb o d l a e n=>u.keep b o e n (λz=>(Ys.mp (I.JP b z)).elim d l) a) (λb o _ _ a e n=>u.any e n a) (λb o a e n=>u.free b o e n a) (λb o a e=>u.there b o e a) u.iC u.iO u.jd (λC j=>by
  obtain⟨B,w,v,f,i⟩:=j;rw[h] at f;cases f;exact⟨_,w,v,d,i⟩) t k
def Inv.turned(I:Inv X W σ H s)(k:∀b o,b≠it->s.heap.get? b=O o->h'.get? b=O o)(h:H it=aF)(d:it≠X.env.locals)
  (w:it∈X.ex\/X.di.heap.objs.size<=it)(t:∀x c,X.env.cells.lookup x=O c->c≠it)(l:∀p∈X.pn++W,p.1≠it):Inv X W σ H {s with heap:=h',toks:=B}:=by
 have f:∀b u,H b=O u->b≠it:=λb u e z=>by rw[z,h] at e;cases e
 refine I.step (g':=s.gens) (ch:=[it]) (λb j=>?_) (λb o _ _ a e _=>k b o (λz=>a (by simp[z])) e) (λb o _ _ a e _=>⟨o.slots,k b o (λz=>a (by simp[z])) e⟩) (λ_ _ _ _ n=>n)
  (λb o a e=>⟨o,k b o (λz=>a (by simp[z])) e⟩) (λ_ _ e=>e) (λ_ _ _ e=>e) (λb C e=>⟨#[],by rw[e];simp⟩) (λm i=>?_) (λb u e=>?_) I.bare
 ·have e:b=it:=by simpa using j
  subst e;exact⟨w,d,t,l⟩
 ·obtain⟨o,y,A,g,r⟩:=i;exact⟨o,y,A,k _ o (ib d) g,r⟩
 ·refine(I.ay b u e).iN (λc v a q=>k c v ?_ q) (λ_ q=>q) λ_ _ q=>q;rcases a with z|z;·exact z▸f b u e
  ·exact f c _ z
def Inv.tok(I:Inv X W σ H s)(t:Nat):Inv X W σ H {s with toks:=t}:=I.un Un.refl I.ay
def Inv.kept(I:Inv X W σ H s)(k:∀b u,s.heap.get? b=O u->h'.get? b=O u):Inv X W σ H {s with heap:=h',toks:=t'}:=I.un (Un.kept k) (I.ay.kept k)
def Inv.laid(I:Inv X W σ H s)(k:∀b u,s.heap.get? b=O u->h'.get? b=O u)(d:s.heap.objs.size<=a)(c:cQ X.prog X.w (upd H a o) h' a o):
  Inv X W σ (upd H a o) {s with heap:=h',toks:=t'}:=I.un (Un.laid k d (I.ay.fresh d)) (I.ay.laid k d c)
def Inv.write(I:Inv X W σ H s)(d:zb (H x))(f:e=x\/H e=O (.own x))(k:∀b u,b≠e->s.heap.get? b=O u->h'.get? b=O u)(c:∃u,h'.get? e=O u)
  (a:cQ X.prog X.w (upd H x o) h' x o):Inv X W σ (upd H x o) {s with heap:=h',toks:=t'}:=I.un (Un.write d f k c) (I.ay.write d f k c a)
def Inv.QY(I:Inv X W σ H s)(h:∀p∈b,s.heap.get? p.1=O p.2/\H p.1=aF/\p.1≠X.env.locals/\p.1∉X.fs/\∀v,p.2.data≠.cell v):Inv X b σ H s:=
 ⟨I.ok,I.os,I.bare,I.base,I.loc,I.cell,I.free,I.iM,λp a=>(Ym.mp a).elim (λz=>I.pin p (Yk _ z)) (h p),I.ay,I.len⟩
def Io{N:Z af}(c:N.Nodup){i j:Nat}{x:af}(a:N[i]?=O x)(b:N[j]?=O x):i=j:=by
 obtain⟨g,e⟩:=Yn.mp a;obtain⟨f,d⟩:=Yn.mp b;exact(List.getElem_inj c).mp (e.trans d.symm)
def OW{f:Model}{A:d_}{E:bb}{i:Nat}{x:af}{v:V}{u:a7}{Q:Unit->bU->Prop}(I:Inv X W σ H s)(hN:X.N.Nodup)(J:X.N[i]?=O x)(B:Loc X.env.scope x)(r:RelV v u)
  (h:∀s',Inv X W (σ.set i (O v)) H s'->(∃a,Heap.SameBut a s.heap s'.heap/\(a=X.env.locals\/X.env.cells.lookup x=O a))->Q () s')(hf:X.fn x=ar\/X.env.scope.names.lookup x=O .local:=by first|exact .inl rfl|exact .inr rfl|assumption):wpAny f A (storeName X.env x u) Q E s:=by
 obtain⟨m,hn,hl⟩:=id I.loc;have ZjJ:(X.env.scope.kind==.class||(X.env.scope.kind==.module&&X.env.locals !=X.env.globals))=a_:=by rw[I.ok.kind];rfl
 have U0:i<σ.length:=by rw[I.len];exact(Yn.mp J).1
 have qw:=I.qw;have l:∀{a:U} {h':cS},(∃o,s.heap.get? a=O o/\H a=aF)->Heap.SameBut a s.heap h'->dv X.prog X.w H h':=λ{a h'} ha g b ob e=>by
  obtain⟨_,_,T9⟩:=ha;refine(I.ay b ob e).iN (λc L w q=>(g.2 c ?_).trans q) (λ_ q=>q) λ_ _ q=>q;rintro rfl;rcases w with rfl|w;·rw[T9] at e;cases e
  ·rw[T9] at w;cases w
 rcases B with D|D
 ·refine wpAny_storeName_local D hn (λh' wy g=>?_) ZjJ;obtain⟨oL,_,_,qx,_⟩:=id hn;refine h _ ⟨I.ok,I.os,I.bare,⟨λb o e n G B=>?_,λb o e n G B=>?_,I.base.free,λb o e B=>?_,I.base.iC,I.base.iO,I.base.jd⟩,⟨_,wy,λj y P t C e3=>?_⟩,λy c e=>?_,I.free,I.iM,λp hp=>?_,l ⟨oL,qx,I.free⟩ g,by simpa using I.len⟩ ⟨_,g,.inl rfl⟩;·exact(g.2 b (Y0 (Y3 (Yu e) I.ok.above))).trans (I.base.keep b o e n G B)
  ·obtain⟨sl,t⟩:=I.base.slot b o e n G B;exact⟨sl,(g.2 b (Y0 (Y3 (Yu e) I.ok.above))).trans t⟩
  ·obtain⟨o',t⟩:=I.base.there b o e B;exact⟨o',(g.2 b (Y0 (Y3 (Yu e) I.ok.above))).trans t⟩
  ·by_cases F:j=i
   ·subst F;rw[J] at t;cases t;rw[B1 U0] at C;cases C;exact⟨u,r,.inl ⟨D,QS⟩⟩
   ·rw[V4 (ib F)] at C;obtain⟨R,r',q⟩:=hl j y P t C e3;refine⟨R,r',?_⟩;rcases q with⟨k,e⟩|⟨k,c,e,z⟩
    ·refine .inl ⟨k,?_⟩;have:y≠x:=λe=>F (Io hN t (e▸J));simp[this,e]
    ·exact .inr ⟨k,c,e,z.sameBut g (qw y c e)⟩
  ·obtain⟨L,z⟩:=I.cell y c e;exact⟨L,z.sameBut g (qw y c e)⟩
  ·obtain⟨e,n,ne,nf,d⟩:=I.pin p hp;exact⟨(g.2 p.1 ne).trans e,n,ne,nf,d⟩
 ·have LZ:X.fn x=ar:=by
   rcases hf with z|z;·exact z
   ·rw[z] at D;cases D
  obtain⟨c,w⟩:=I.ok.has x (.inl D);obtain⟨L,z⟩:=I.cell x c w;refine wpAny_storeName_cell I.ok.kind D w z (λh' dt g=>?_);obtain⟨oc,V5,ZjK⟩:=id z;refine h {s with heap:=h'} ⟨I.ok,I.os,I.bare,⟨λb o e n G B=>?_,λb o e n G B=>?_,I.base.free,λb o e B=>?_,I.base.iC,I.base.iO,I.base.jd⟩,⟨m,hn.sameBut g (ib (qw x c w)),λj y P t C e3=>?_⟩,λy N e=>?_,I.free,I.iM,λp hp=>?_,l ⟨oc,V5,I.iM x c w⟩ g,by simpa using I.len⟩ ⟨c,g,.inr w⟩;·exact(g.2 b (Y0 (Y3 (Yu e) (I.ok.uo x c LZ w)))).trans (I.base.keep b o e n G B)
  ·obtain⟨sl,t⟩:=I.base.slot b o e n G B;exact⟨sl,(g.2 b (Y0 (Y3 (Yu e) (I.ok.uo x c LZ w)))).trans t⟩
  ·obtain⟨o',t⟩:=I.base.there b o e B;exact⟨o',(g.2 b (Y0 (Y3 (Yu e) (I.ok.uo x c LZ w)))).trans t⟩
  ·by_cases F:j=i
   ·subst F;rw[J] at t;cases t;rw[B1 U0] at C;cases C;exact⟨u,r,.inr ⟨.inl D,c,w,dt⟩⟩
   ·rw[V4 (ib F)] at C;obtain⟨R,r',q⟩:=hl j y P t C e3;refine⟨R,r',?_⟩;rcases q with q|⟨k,N,e,z'⟩;·exact .inl q
    ·refine .inr ⟨k,N,e,z'.sameBut g ?_⟩;rintro rfl;exact F (Io hN t (I.ok.inj _ _ _ e w▸J))
  ·by_cases V6:N=c;·subst V6;exact⟨_,dt⟩
   ·obtain⟨w2,z2⟩:=I.cell y N e;exact⟨w2,z2.sameBut g V6⟩
  ·obtain⟨e,n,ne,nf,d⟩:=I.pin p hp;refine⟨(g.2 p.1 ?_).trans e,n,ne,nf,d⟩;intro q;rw[q,V5] at e;have q':=Yo e;exact d L (by rwa[←q'])
def AW{a:Model}{A:d_}{E:bb}{i:Nat}{x:af}{v:V}{u:a7}{Q:Unit->bU->Prop}(I:Inv X W σ H s)(f:X.N.Nodup)(d:X.N[i]?=O x)(c:Loc X.env.scope x)(r:RelV v u)
  (h:∀b,Inv X W (σ.set i (O v)) H b->Q () b)(e:X.fn x=ar\/X.env.scope.names.lookup x=O .local:=by first|exact .inl rfl|exact .inr rfl|assumption):wpAny a A (storeName X.env x u) Q E s:=
 OW I f d c r (λb g _=>h b g) e
def Inv.Ku(I:Inv X W σ H s)(d:s'.os=s.os)(u:Un (cW X.stack) ch H T s.heap s'.heap)(g:dv X.prog X.w T s'.heap)(f:AllBare s'.gens)
  (a:∀b∈ch,(b∈X.ex\/X.di.heap.objs.size<=b)/\b≠X.env.locals/\(∀x c,X.env.cells.lookup x=O c->c≠b)/\∀p∈X.pn++W,p.1≠b):Inv X W σ T s':=by
 obtain⟨h',j,k,h,i⟩:=s';have e:=d;subst e;exact I.call u g f a
end
abbrev XK:=a7->bw U->Hp->Prop
abbrev St:=Z (bw V)
abbrev VK:=V->Hp->Prop
abbrev TE:=St->Hp->VK->Prop
abbrev TT:=St->Hp->(cm->Hp->Prop)->Prop
abbrev TA:=St->Hp->(Z V->Hp->Prop)->Prop
structure Ends where
 nx:St->Hp->Prop
 rt:VK
 bk:St->Hp->Prop:=λ_ _=>False
 ct:St->Hp->Prop:=λ_ _=>False
abbrev TS:=Ends->St->Hp->Prop
inductive U1(X:Cx)(a:aX)(b:St)(Q:VK)(u:a7)(c:bU):Prop
 |mk (v d) (g:Inv X a b d c) (f:RelV v u) (e:Q v d):U1 X a b Q u c
def EP(X:Cx)(a:aX)(b:St)(Q:VK)(u:a7)(c:bU):Prop:=U1 X a b Q u c
inductive U2(X:Cx)(a:aX)(b:St)(R:Hp->Prop)(c:bU):Prop
 |mk (d:Hp) (f:Inv X a b d c) (e:R d):U2 X a b R c
def TP(X:Cx)(a:aX)(c:St)(Q:cm->Hp->Prop)(b:cm)(d:bU):Prop:=U2 X a c (Q b) d
inductive U3(X:Cx)(a:aX)(b:St)(Q:Z V->Hp->Prop)(d:Z a7)(e:bU):Prop
 |mk (c f) (i:Inv X a b f e) (h:Vals c d) (g:Q c f):U3 X a b Q d e
def AP(X:Cx)(a:aX)(b:St)(Q:Z V->Hp->Prop)(c:Z a7)(d:bU):Prop:=U3 X a b Q c d
inductive t6(X:Cx)(a:aX)(Q:St->Hp->Prop)(b:bU):Prop
 |mk (c:St) (d:Hp) (f:Inv X a c d b) (e:Q c d):t6 X a Q b
inductive U4(X:Cx)(a:aX)(Q:VK)(u:a7)(b:bU):Prop
 |mk (v:V) (d:St) (c:Hp) (g:Inv X a d c b) (f:RelV v u) (e:Q v c):U4 X a Q u b
def SP(X:Cx)(a:aX)(D:Ends)(f:Flow)(b:bU):Prop:=
 match f with
 |.next=>t6 X a D.nx b
 |.brk=>t6 X a D.bk b
 |.cont=>t6 X a D.ct b
 |.ret u=>U4 X a D.rt u b
def PE(X:Cx)(e:cu)(t:TE):Prop:=
 ∀(a:aX) (s:bU) (b:St) (H:Hp) (Q:VK),Inv X a b H s->t b H Q->wpAny X.md X.A (eval e X.env) (EP X a b Q) X.xe s
def PT(X:Cx)(e:cu)(t:TT):Prop:=
 ∀(a:aX) (s:bU) (b:St) (H:Hp) (Q:cm->Hp->Prop),Inv X a b H s->t b H Q->wpAny X.md X.A (isTrue e X.env (eval e X.env)) (TP X a b Q) X.xe s
def PW(X:Cx)(e:cu)(t:TT):Prop:=
 ∀(b:Sem a7) (a:aX) (s:bU) (c:St) (H:Hp) (Q:cm->Hp->Prop),Inv X a c H s->t c H Q->wpAny X.md X.A (isTrue e X.env b) (TP X a c Q) X.xe s
def PW.pt(h:PW X e t):PT X e t:=h _
def PA(X:Cx)(d:Z cu)(t:TA):Prop:=
 ∀(c:Pos) (a:aX) (s:bU) (b:St) (H:Hp) (Q:Z V->Hp->Prop),Inv X a b H s->t b H Q->wpAny X.md X.A (spliced (backTo c (starEach d X.env))) (AP X a b Q) X.xe s
def PS(X:Cx)(c:cb)(t:TS):Prop:=
 ∀(a:aX) (s:bU) (b:St) (H:Hp) (D:Ends),Inv X a b H s->t D b H->wpAny X.md X.A (exec c X.env) (SP X a D) X.xe s
def fR(X:Cx)(c:Z cb)(t:TS):Prop:=
 ∀(a:aX) (s:bU) (b:St) (H:Hp) (D:Ends),Inv X a b H s->t D b H->wpAny X.md X.A (execs c X.env) (SP X a D) X.xe s
def az(h:wpAny M A t Q E s)(b:∀a s,Q a s->c a s):wpAny M A t c E s:=dD h b λ_ _ x=>x
section
variable {X:Cx}
inductive Su(i:Nat)(a:St)(H:Hp)(Q:VK):Prop
 |mk (v) (c:a[i]?=O (O v)) (b:Q v H):Su i a H Q
def gf(i:Nat):TE:=λa H Q=>Su i a H Q
def tC(v:V):TE:=λ_ H Q=>Q v H
def Zhn{i:Nat}{x:af}{W:Pos}(q:X.N[i]?=O x)(k:um X.env.scope x)(d:(x==("__debug__":af))=a_:=by decide)(t:(x==("__classdict__":af))=a_:=by decide):PE X (.Name x W) (gf i):=by
 rintro b s j H Q I ⟨v,e,h⟩;obtain⟨m,n,p⟩:=I.loc;obtain⟨u,r,l⟩:=p i x v q e k;have fin:EP X b j Q u s:=⟨v,H,I,r,h⟩;rcases l with⟨a,o⟩|⟨a,c,f,g⟩;·exact xl (Ca I.ok.kind a n o fin) d
 ·rcases a with a|a;·exact xl (C1 I.ok.kind a f g fin) d
  ·exact xl (wpAny_loadName_free I.ok.kind a f g fin t) d
def aS:PE X (.Constant (.int i) j W) (tC (.int i)):=λ_ _ _ H _ I h=>wpAny_Constant_int ⟨.int i,H,I.tok _,⟨_,rfl⟩,h⟩
def gJ:PE X (.Constant (.bool b) j W) (tC (.bl b)):=λ_ _ _ H _ I h=>Constant_bool ⟨.bl b,H,I,rfl,h⟩
def kJ:PE X (.Constant .none j W) (tC .aC):=λ_ _ _ H _ I h=>Constant_none ⟨.aC,H,I,rfl,h⟩
def a9:PE X (.Constant (.str x) j W) (tC (.str x)):=λ_ _ _ H _ I h=>Calls.Constant_str ⟨.str x,H,I.tok _,⟨_,rfl⟩,h⟩
def Gl(X:Cx)(x:af):Prop:=X.env.kindOf x=O .globalImplicit
def sZ{E:bb}{a:aX}{s:bU}{b:St}{H:Hp}{x:af}{u:a7}{W:Pos}{Q:bb}(I:Inv X a b H s)(d:Gl X x)(c:X.mg x=O u)(h:Q u s)
  (e:(x==("__debug__":af))=a_:=by decide):wpAny X.md X.A (eval (.Name x W) X.env) Q E s:=
 zr I.ok.kind d (Calls.loadGlobal_global (by exact I.ok.glob▸I.mod.glob.keeps I.bk) c h) e
def yu{E:bb}{a:aX}{s:bU}{b:St}{H:Hp}{x:af}{u:a7}{W:Pos}{Q:bb}(I:Inv X a b H s)(f:Gl X x)(e:X.mg x=aF)(c:bootBuiltins x=O u)(h:Q u s)
  (d:x≠"__name__":=by decide)(g:(x==("__debug__":af))=a_:=by decide):wpAny X.md X.A (eval (.Name x W) X.env) Q E s:=by
 obtain⟨k,j,i⟩:=I.mod.blt;exact zr I.ok.kind f (Calls.loadGlobal_builtin (by exact I.ok.glob▸I.mod.glob.keeps I.bk) e (by exact I.ok.blt▸j.keeps I.bk) ((i x d).trans c) h) g
def dq{x:af}{v:V}{u:a7}{W:Pos}(b:Gl X x)(a:X.mg x=O u)(r:RelV v u)(c:(x==("__debug__":af))=a_:=by decide):PE X (.Name x W) (tC v):=
 λ_ _ _ H _ I h=>sZ I b a ⟨v,H,I,r,h⟩ c
def ZfW{x:af}{v:V}{u:a7}{W:Pos}(d:Gl X x)(c:X.mg x=aF)(a:bootBuiltins x=O u)(r:RelV v u)(b:x≠"__name__":=by decide)(e:(x==("__debug__":af))=a_:=by decide):PE X (.Name x W) (tC v):=
 λ_ _ _ H _ I h=>yu I d c a ⟨v,H,I,r,h⟩ b e
variable {a b:cu}{T R:TE}{W:Pos}
def PC(X:Cx)(e:CmpOp)(a b:cu)(t:TE):Prop:=
 ∀(c:aX) (s:bU) (d:St) (H:Hp) (Q:VK),Inv X c d H s->t d H Q->
  wpAny X.md X.A (eval a X.env) (λv g=>wpAny X.md X.A (eval b X.env) (λu f=>wpAny X.md X.A (compareOp e v u) (EP X c d Q) X.xe f) X.xe g) X.xe s
inductive U5(Q:cm->Hp->Prop)(x:V)(d:Hp):Prop
 |mk (c) (f:x=.bl c) (e:Q c d):U5 Q x d
def tB(t:TE):TT:=λc H Q=>t c H λx d=>U5 Q x d
def Zho{d:CmpOp}{t:TE}(h:PC X d a b t)(g:behindInMarks d b=a_:=by first|exact i _ QD QD|rfl):PE X (.Compare a [d] [b] W) t:=λc s e H Q I f=>Vz (h c s e H Q I f) g
def jX{f:CmpOp}{t:TE}(h:PC X f a b t)(g:behindInMarks f b=a_:=by first|exact o _ QD QD|rfl):PT X (.Compare a [f] [b] W) (tB t):=by
 intro e s i H Q I m;refine B2 (az (h e s i H _ I m) λv z g=>az g λu y n=>az n λc w j=>?_) g;obtain⟨x,r,p,k,l⟩:=j;obtain⟨d,rfl,q⟩:=l;cases k;exact lr ⟨r,p,q⟩
def eP{e:cu}{t:TE}(h:PE X e t)(m:∀c,isTrue e X.env c=(do let v←c;standAt e.pos;holding [v] (truthy v)):=by intro _;rfl):PT X e (tB t):=by
 intro f s g H Q I l;refine isTrue_plain (az (h f s g H _ I l) λv p i=>?_) (m _);obtain⟨x,o,n,j,k⟩:=i;obtain⟨d,rfl,q⟩:=k;cases j;exact lr ⟨o,n,q⟩
def U6(t u:TT):TT:=λd H Q=>t d H λc e=>if c=ar then u d e Q else Q a_ e
def V7(t u:TT):TT:=λd H Q=>t d H λc e=>if c=ar then Q ar e else u d e Q
def ZjL(t:TT):TT:=λd H Q=>t d H λc e=>Q (!c) e
theorem pw_and1(g:PT X a tA):PW X (.BoolOp .And [a] W) tA:=by
 intro i d s f H Q I h;refine isTrue_and (az (g d s f H Q I h) λc j e=>?_);cases c with
 |true=>exact isTrue_and_nil e
 |false=>exact e
theorem pw_or1(g:PT X a tA):PW X (.BoolOp .Or [a] W) tA:=by
 intro i d s f H Q I h;refine isTrue_or (az (g d s f H Q I h) λc j e=>?_);cases c with
 |false=>exact isTrue_or_nil e
 |true=>exact e
theorem pw_and(o:PT X a l)(n:PW X (.BoolOp .And (b::rest) W) p):PW X (.BoolOp .And (a::b::rest) W) (U6 l p):=by
 intro k d s e H Q I h;refine isTrue_and (az (o d s e H _ I h) λc m j=>?_);obtain⟨i,g,f⟩:=j;cases c with
 |true=>exact n k d m e i Q g f
 |false=>exact⟨i,g,f⟩
theorem pw_or(o:PT X a l)(n:PW X (.BoolOp .Or (b::rest) W) p):PW X (.BoolOp .Or (a::b::rest) W) (V7 l p):=by
 intro k d s e H Q I h;refine isTrue_or (az (o d s e H _ I h) λc m j=>?_);obtain⟨i,g,f⟩:=j;cases c with
 |true=>exact⟨i,g,f⟩
 |false=>exact n k d m e i Q g f
def jY(g:PT X a f):PT X (.UnaryOp .Not a W) (ZjL f):=by
 intro d s e H Q I h;exact isTrue_not (g d s e H (λc i=>Q (!c) i) I h)
def T_(T R:TE):TE:=λd H Q=>T d H λx e=>∃c,x=.bl c/\if c=ar then R d e Q else Q (.bl a_) e
def U7(T R:TE):TE:=λd H Q=>T d H λx e=>∃c,x=.bl c/\if c=ar then Q (.bl ar) e else R d e Q
def ZiW(T:TE):TE:=λd H Q=>T d H λx e=>∃c,x=.bl c/\Q (.bl (!c)) e
def l4(h:PE X a t):PE X (.BoolOp op [a] W) t:=λc s d H Q I e=>BoolOp_one (h c s d H Q I e)
theorem pZ(n:PE X a T)(m:PE X (.BoolOp .And (b::rest) W) R):PE X (.BoolOp .And (a::b::rest) W) (T_ T R):=by
 intro d s f H Q I h;refine BoolOp_and (az (n d s f H _ I h) λv k j=>?_);obtain⟨x,i,g,l,e⟩:=j;obtain⟨c,rfl,e⟩:=e;cases l;refine lr ?_;cases c with
 |true=>exact m d k f i Q g e
 |false=>exact⟨.bl a_,i,g,rfl,e⟩
theorem BO(n:PE X a T)(m:PE X (.BoolOp .Or (b::rest) W) R):PE X (.BoolOp .Or (a::b::rest) W) (U7 T R):=by
 intro d s f H Q I h;refine BoolOp_or (az (n d s f H _ I h) λv k j=>?_);obtain⟨x,i,g,l,e⟩:=j;obtain⟨c,rfl,e⟩:=e;cases l;refine lr ?_;cases c with
 |false=>exact m d k f i Q g e
 |true=>exact⟨.bl ar,i,g,rfl,e⟩
def Zhp(j:PE X a T):PE X (.UnaryOp .Not a W) (ZiW T):=by
 intro d s f H Q I h;refine UnaryOp_ (az (j d s f H _ I h) λv m g=>?_);obtain⟨x,l,k,i,e⟩:=g;obtain⟨c,rfl,e⟩:=e;cases i;exact not_of (lr ⟨.bl (!c),l,k,rfl,e⟩)
def tIf(t:TT)(T R:TE):TE:=λd H Q=>t d H λc e=>if c=ar then T d e Q else R d e Q
theorem PL(n:PT X c m)(p:PE X a T)(o:PE X b R):PE X (.IfExp c a b W) (tIf m T R):=by
 intro e s f H Q I h;refine wpAny_IfExp (az (n e s f H _ I h) λd g l=>?_);obtain⟨k,j,i⟩:=l;cases d with
 |true=>exact p e g f k Q j i
 |false=>exact o e g f k Q j i
end
def aq(K:ah)(H:Hp)(a:U)(c:Z V):Prop:=
 Rd H a (.lst c)\/
  ∃(o:Obj) (b:c8 a7) (n:Nat),K.lookup a=O o/\o.cls=.type "list"/\o.dict=aF/\o.data=.seq b n/\b.size<=sizeLine/\Vals c b.toList
def aB(K:ah)(H:Hp)(a:U)(c:Z V):Prop:=
 Rd H a (.tup c)\/
  ∃(o:Obj) (b:c8 a7) (n:Nat),K.lookup a=O o/\o.cls=.type "tuple"/\o.data=.seq b n/\b.size<=sizeLine/\Vals c b.toList
def ZjM:a7->bw V
 |.none=>O .aC
 |.bool b=>O (.bl b)
 |.int i _=>O (.int i)
 |.str x _=>O (.str x)
 |.bytes b _=>O (.kg b)
 |.float b _=>O (.uk b)
 |.ref a=>O (.ref a)
 |.type n=>O (.ty n)
 |_=>aF
theorem RelV.abs(r:RelV x u):ZjM u=O x:=by
 cases x with
 |aC=>cases r;rfl
 |bl _=>cases r;rfl
 |int _=>obtain⟨t,rfl⟩:=r;rfl
 |str _=>obtain⟨t,rfl⟩:=r;rfl
 |kg _=>obtain⟨t,rfl⟩:=r;rfl
 |uk _=>obtain⟨t,rfl⟩:=r;rfl
 |ref _=>cases r;rfl
 |ty _=>cases r;rfl
def RelV.inj(r:RelV x u)(q:RelV y u):x=y:=Yo (r.abs.symm.trans q.abs)
theorem Vals.inj:∀{a ys:Z V} {b:Z a7},Vals a b->Vals ys b->a=ys:=by
 intro a ys b h;induction h generalizing ys with
 |nil=>intro c;cases c;rfl
 |cons r t f=>
  intro c;cases c with
  |cons e d=>rw[r.inj e,f d]
def aq.of{K:ah}(h:H a=O (.lst xs)):aq K H a xs:=.inl (.inl h)
def aB.of{K:ah}(h:H a=O (.tup xs)):aB K H a xs:=.inl (.inl h)
def Inv.list(I:Inv X pins σ H s)(h:aq X.K H a xs):∃b:Z a7,Vals xs b/\PlainL s.heap a b.toArray/\xs.length<=sizeLine:=by
 rcases h with h|⟨o,b,n,d,f,hd,c,g,r⟩
 ·obtain⟨z,b,n,r,e⟩:=h.ok I.ay;exact⟨b,r,⟨_,n,e,rfl,rfl,rfl⟩,z⟩
 ·refine⟨b.toList,r,⟨o,n,I.cA a o d,f,hd,by simpa using c⟩,?_⟩;have e:=r.length
  simp_all
def Inv.tuple(I:Inv X pins σ H s)(h:aB X.K H a xs):∃b:Z a7,Vals xs b/\IsTup s.heap a b.toArray/\xs.length<=sizeLine:=by
 rcases h with h|⟨o,b,n,d,f,c,g,r⟩
 ·obtain⟨z,b,r,p⟩:=h.ok I.ay;exact⟨b,r,p.tup,z⟩
 ·refine⟨b.toList,r,⟨o,I.cA a o d,f,n,by simpa using c⟩,?_⟩;have e:=r.length
  simp_all
def Inv.Zer(I:Inv X pins σ H s)(h:aq X.K H a xs)(g:aq X.K H a ys):xs=ys:=by
 obtain⟨j,r,⟨o,n,e,_,_,d⟩,_⟩:=I.list h;obtain⟨nL,f,⟨k,l,b,_,_,c⟩,_⟩:=I.list g;rw[e] at b;cases b;rw[d] at c;injection c with i _;have:j=nL:=by simpa using d6 Array.toList i
 subst this;exact r.inj f
def Inv.Zdw(I:Inv X pins σ H s)(h:aB X.K H a xs)(g:aB X.K H a ys):xs=ys:=by
 obtain⟨j,r,⟨o,e,_,n,d⟩,_⟩:=I.tuple h;obtain⟨nL,f,⟨k,b,_,l,c⟩,_⟩:=I.tuple g;rw[e] at b;cases b;rw[d] at c;injection c with i _;have:j=nL:=by simpa using d6 Array.toList i
 subst this;exact r.inj f
abbrev Cx.kM(X:Cx)(E:bb):Cx:={X with xe:=E}
abbrev Cx.oP(X:Cx):Cx:=X.kM λ_ _=>False
def Cx.Ok.kM{X:Cx}(a:X.Ok)(E:bb):(X.kM E).Ok:=
 ⟨a.mod,a.kind,a.glob,a.blt,a.above,a.inj,a.has,a.uo,a.hd,a.frames,a.wu,a.rU,a.bs,a.nK,a.t4,a.rH,a.j_,a.qv⟩
def Cx.Ok.rq{X:Cx}(a:(X.kM E).Ok):X.Ok:=
 ⟨a.mod,a.kind,a.glob,a.blt,a.above,a.inj,a.has,a.uo,a.hd,a.frames,a.wu,a.rU,a.bs,a.nK,a.t4,a.rH,a.j_,a.qv⟩
def Inv.kM(I:Inv X pins σ H s)(E:bb):Inv (X.kM E) pins σ H s:=⟨I.ok.kM E,I.os,I.bare,I.base,I.loc,I.cell,I.free,I.iM,I.pin,I.ay,I.len⟩
def Inv.rq(I:Inv (X.kM E) pins σ H s):Inv X pins σ H s:=⟨I.ok.rq,I.os,I.bare,I.base,I.loc,I.cell,I.free,I.iM,I.pin,I.ay,I.len⟩
theorem SP.rq(h:SP (X.kM E) pins D f s'):SP X pins D f s':=by
 cases f with
 |next=>obtain⟨a,b,I,q⟩:=h;exact⟨a,b,I.rq,q⟩
 |brk=>obtain⟨a,b,I,q⟩:=h;exact⟨a,b,I.rq,q⟩
 |cont=>obtain⟨a,b,I,q⟩:=h;exact⟨a,b,I.rq,q⟩
 |ret u=>obtain⟨v,a,b,I,r,q⟩:=h;exact⟨v,a,b,I.rq,r,q⟩
def fR.oP{b:Z cb}(h:fR X.oP b t):fR X b t:=λa s c H D I d=>
 dD (h a s c H D (I.kM _) d) (λ_ _ q=>q.rq) λ_ _ z=>False.elim z
section
variable {X:Cx}{st:cb}{t u:TS}{e:cu}{T:TE}{W:Pos}
def Ua:TS:=λD a H=>D.nx a H
def yP(t u:TS):TS:=λD a H=>t {D with nx:=u D} a H
def hP{b a:TS}{D}{s H}(h:let c:=a;yP b c D s H):(yP b a) D s H:=h
def i1{c b a:TS}{D}{s H}(h:let d:=a;let f:=yP b d;yP c f D s H):(yP c (yP b a)) D s H:=h
def l5{d c b a:TS}{D}{s H}(h:let f:=a;let g:=yP b f;let i:=yP c g;yP d i D s H):(yP d (yP c (yP b a))) D s H:=h
def YP{f d c b a:TS}{D}{s H}(h:let g:=a;let i:=yP b g;let j:=yP c i;let k:=yP d j;yP f k D s H):(yP f (yP d (yP c (yP b a)))) D s H:=h
def ud{g f d c b a:TS}{D}{s H}(h:let c5:=a;let i:=yP b c5;let j:=yP c i;let k:=yP d j;let l:=yP f k;yP g l D s H):(yP g (yP f (yP d (yP c (yP b a))))) D s H:=h
def Zk{i g f d c b a:TS}{D}{s H}(h:let c6:=a;let c5:=yP b c6;let j:=yP c c5;let k:=yP d j;let l:=yP f k;let m:=yP g l;yP i m D s H):(yP i (yP g (yP f (yP d (yP c (yP b a)))))) D s H:=h
def Zl{j i g f d c b a:TS}{D}{s H}(h:let c7:=a;let c6:=yP b c7;let c5:=yP c c6;let k:=yP d c5;let l:=yP f k;let m:=yP g l;let n:=yP i m;yP j n D s H):(yP j (yP i (yP g (yP f (yP d (yP c (yP b a))))))) D s H:=h
def yX{l k j i g f d c b a:TS}{D}{s H}(h:let m:=a;let n:=yP b m;let c7:=yP c n;let c6:=yP d c7;let c5:=yP f c6;let o:=yP g c5;let p:=yP i o;let q:=yP j p;let r:=yP k q;yP l r D s H):(yP l (yP k (yP j (yP i (yP g (yP f (yP d (yP c (yP b a))))))))) D s H:=h
def y0{n m l k j i g f d b a:TS}{D}{s H}(h:let c:=a;let o:=yP b c;let p:=yP d o;let c7:=yP f p;let c6:=yP g c7;let c5:=yP i c6;let q:=yP j c5;let r:=yP k q;let v:=yP l r;let w:=yP m v;yP n w D s H):(yP n (yP m (yP l (yP k (yP j (yP i (yP g (yP f (yP d (yP b a)))))))))) D s H:=h
def zt{c:TS}{D s H}(h:let t:=s;c D t H):c D s H:=h
def gG{p:Prop}(h:∀G:Prop,(p->G)->G):p:=h p id
def a8:fR X [] Ua:=λ_ _ a H _ I h=>sA ⟨a,H,I,h⟩
theorem aj(g:PS X st t)(d:fR X rest u):fR X (st::rest) (yP t u):=by
 intro a s b H D I h;refine Nc (az (g a s b H {D with nx:=u D} I h) λf c q=>?_);cases f with
 |next=>
  obtain⟨i,k,j,q⟩:=q;exact d a c i k D j q
 |ret v=>exact q
 |brk=>exact q
 |cont=>exact q
theorem av(c:PS X st t):fR X [st] t:=by
 intro a s b H D I h;refine Nc (az (c a s b H D I h) λf d q=>?_);cases f with
 |next=>exact sA q
 |ret v=>exact q
 |brk=>exact q
 |cont=>exact q
def ZiX:TS:=λD a H=>D.ct a H
def ZbR:PS X (.Continue W) ZiX:=λ_ _ a H _ I h=>wpAny_Continue ⟨a,H,I,h⟩
def Inv.quiet(I:Inv X pins σ H s):interactive X.env=a_:=by simp[interactive,I.ok.kind]
def ZiY(T:TE):TS:=λD a H=>T a H λ_ b=>D.nx a b
def bZ(f:PE X e T)(d:swapsWith e aF W.line X.env=pure a_:=by rfl):PS X (.Expr e W) (ZiY T):=by
 intro a s b H D I h;exact wpAny_Expr_any (az (f a s b H _ I h) λv j q=>by obtain⟨x,i,g,k,c⟩:=q;exact⟨b,i,g,c⟩) I.quiet d
def ZjN(T:TE):TS:=λD a H=>T a H D.rt
def aI(f:PE X e T):PS X (.Return (O e) W) (ZjN T):=by
 intro a s b H D I h;exact wpAny_Return_some (az (f a s b H _ I h) λv j k=>by obtain⟨x,i,g,c,d⟩:=k;exact⟨x,b,i,g,c,d⟩)
def K0(c:TT)(t u:TS):TS:=λD a H=>c a H λb d=>if b=ar then t D a d else u D a d
theorem aU(o:PT X c n)(q:fR X a t)(p:fR X b u):PS X (.If c a b W) (K0 n t u):=by
 intro f s g H D I h;refine wpAny_If (az (o f s g H _ I h) λd i m=>?_);obtain⟨l,k,j⟩:=m;cases d with
 |true=>exact q f i g l D k j
 |false=>exact p f i g l D k j
def Zhq:TS:=λ_ _ _=>False
def gH:fR X a Zhq:=λ_ _ _ _ _ _ h=>h.elim
end
abbrev TG:=V->St->Hp->(St->Hp->Prop)->Prop
abbrev oQ:=Z V->St->Hp->(St->Hp->Prop)->Prop
def PG(X:Cx)(a:cu)(t:TG):Prop:=
 ∀(b:aX) (s:bU) (c:St) (H:Hp) (v:V) (u:a7) (Q:St->Hp->Prop),Inv X b c H s->RelV v u->t v c H Q->
  wpAny X.md X.A (assign a X.env u) (λ_ d=>t6 X b Q d) X.xe s
def ze(X:Cx)(e:Z cu)(t:oQ):Prop:=
 ∀(a:aX) (s:bU) (b:St) (H:Hp) (c:Z V) (d:Z a7) (Q:St->Hp->Prop),Inv X a b H s->Vals c d->t c b H Q->
  wpAny X.md X.A (assignInOrder ((assignEach e X.env).map (·.2)) d) (λ_ f=>t6 X a Q f) X.xe s
abbrev K1:=V->V->V->Hp->(Hp->Prop)->Prop
def t8(X:Cx)(t:K1):Prop:=
 ∀(a:aX) (s:bU) (b:St) (H:Hp) (o i v:V) (c d u:a7) (Q:Hp->Prop),Inv X a b H s->RelV o c->RelV i d->RelV v u->t o i v H Q->
  wpAny X.md X.A (setItem c d u) (λ_ f=>∃e,Inv X a b e f/\Q e) X.xe s
abbrev CU:=V->V->Hp->VK->Prop
def V8(X:Cx)(c:Operator)(t:CU):Prop:=
 ∀(a:aX) (s:bU) (b:St) (H:Hp) (x y:V) (v u:a7) (Q:VK),Inv X a b H s->RelV x v->RelV y u->t x y H Q->
  wpAny X.md X.A (inplaceOp c v u) (EP X a b Q) X.xe s
section
variable {X:Cx}{W:Pos}
def qf(i:Nat):TG:=λv a H Q=>Q (a.set i (O v)) H
def q5{i:Nat}{x:af}(e:X.N.Nodup)(c:X.N[i]?=O x)(b:Loc X.env.scope x)(d:X.fn x=ar\/X.env.scope.names.lookup x=O .local:=by first|exact .inl rfl|exact .inr rfl|assumption):PG X (.Name x W) (qf i):=by
 intro a s g H v u Q I r h;exact Li (AW I e c b r (λj f=>⟨_,H,f,h⟩) d)
def ZjO:oQ:=λb a H Q=>b=[]/\Q a H
inductive QZ(t:TG)(u:oQ)(b:Z V)(a:St)(H:Hp)(Q:St->Hp->Prop):Prop
 |mk (v r) (f:b=v::r) (e:t v a H λc d=>u r c d Q):QZ t u b a H Q
def ZiZ(t:TG)(u:oQ):oQ:=λb a H Q=>QZ t u b a H Q
def f_:ze X [] ZjO:=by
 rintro a s b H c d Q I r ⟨e,h⟩;subst e;exact assignInOrder_nil ⟨b,H,I,h⟩
theorem bq{e:cu}{b:Z cu}{t:TG}{u:oQ}(l:PG X e t)(k:ze X b u)
  (j:(assignEach (e::b) X.env).map (·.2)=assign e X.env::(assignEach b X.env).map (·.2):=by rfl):ze X (e::b) (ZiZ t u):=by
 rintro a s c H p w Q I r ⟨v,q,m,h⟩;subst m;cases r with
 |cons r g=>
  exact j▸assignInOrder_cons (az (l a s c H _ _ _ I r h) λ_ f x=>by obtain⟨d,o,n,i⟩:=x;exact k a f d o _ _ Q n g i)
inductive Sv(K:ah)(n:Nat)(t:oQ)(v:V)(c:St)(H:Hp)(Q:St->Hp->Prop):Prop
 |mk (a b) (g:v=.ref a) (f:aB K H a b) (d:b.length=n) (e:t b c H Q):Sv K n t v c H Q
def U8(K:ah)(n:Nat)(t:oQ):TG:=λv a H Q=>Sv K n t v a H Q
def Zhr{d:Z cu}{k:Nat}{t:oQ}{n:Nat}(x:X.calm=ar)(h:ze X d t)
  (q:(assignEach d X.env).length=n:=by rfl)(z:(assignEach d X.env).findIdx? (·.1)=aF:=by rfl):PG X (.Tuple d k W) (U8 X.K n t):=by
 rintro c s g H v u Q I r ⟨a,i,y,p,w,l⟩;subst y;cases r;obtain⟨C,f,m,A⟩:=I.tuple p;exact assign_Tuple_tuple (I.ok.hd x) m (by simp[q,←w,f.length]) z λB j=>h c _ g H i _ Q (I.kept λb o e=>j b o (Y0 (Yu e)) e) (by simpa using f) l
def U9(b c:TE)(t:K1):TG:=λv a H Q=>b a H λo f=>c a f λi e=>t o i v e λd=>Q a d
def Zhs{o i:cu}{e f:TE}{t:K1}(w:PE X o e)(z:PE X i f)(q:t8 X t)
  (J:∀v,assign (.Subscript o i W) X.env v=(do
   let b←holding [v] (eval o X.env);let c←holding [v,b] (eval i X.env)
   standAt W
   holding [v,b,c] (setItem b c v)
   release [v,b,c] []):=by intro _;rfl):PG X (.Subscript o i W) (U9 e f t):=by
 intro a s d H v u Q I r h;exact bg (iG (az (w a s d H _ I h) λb j ⟨x,F,C,l,p⟩=>bg (iG (az (z a j d F _ C p) λc g ⟨y,E,B,k,n⟩=>bg (kS (bg (iG (az (q a g d E x y v b c u _ B l k r n) λ_ G L=>by obtain⟨D,A,m⟩:=L;exact wpAny_release ⟨d,D,A,m⟩))))))))
def t9(b:TE)(g:TG):TS:=λD a H=>b a H λx c=>g x a c D.nx
def l9{b e:cu}{d:TE}{g:TG}(o:PE X e d)(n:PG X b g)(m:swapsWithSole [b] e W.line X.env=pure a_:=by rfl)(l:swappedStores [b] e X.env=pure aF:=by rfl)
  (p:(assignEach [b] X.env).map (·.2)=[assign b X.env]:=by rfl):PS X (.Assign [b] e W) (t9 d g):=by
 intro a s c H D I h;refine wpAny_Assign_stores (az (o a s c H _ I h) λv i f=>?_) m l;obtain⟨x,t,r,j,k⟩:=f;exact p▸az (n a i c t x v _ r j k) λ_ u q=>q
def gI{i:Nat}{x:af}{e:cu}{c:TE}{a:Pos}(p:X.N.Nodup)(m:X.N[i]?=O x)(k:Loc X.env.scope x)(o:PE X e c)(l:swapsWith e (O (.Name x a)) W.line X.env=pure a_:=by rfl)(n:X.fn x=ar\/X.env.scope.names.lookup x=O .local:=by first|exact .inl rfl|exact .inr rfl|assumption):
  PS X (.Assign [.Name x a] e W) (t9 c (qf i)):=by
 intro b s d H D I h;refine wpAny_Assign_Name (az (o b s d H _ I h) λv w f=>?_) l;obtain⟨y,t,r,g,j⟩:=f;exact AW r p m k g (λu q=>⟨_,t,q,j⟩) n
def ZjP(i:Nat)(c:TE)(b:CU):TS:=λD a H=>∃x,a[i]?=O (O x)/\c a H λy e=>b x y e λz d=>D.nx (a.set i (O z)) d
def Sw{i:Nat}{x:af}{e:cu}{o:TE}{f:Operator}{n:CU}{d:Pos}(R:X.N.Nodup)(p:X.N[i]?=O x)(g:Loc X.env.scope x)(P:PE X e o)(F:V8 X f n)(N:X.fn x=ar\/X.env.scope.names.lookup x=O .local:=by first|exact .inl rfl|exact .inr rfl|assumption):
  PS X (.AugAssign (.Name x d) f e W) (ZjP i o n):=by
 rintro a s j H D I ⟨v,e1,h⟩;obtain⟨m,G,L⟩:=I.loc;have L3:um X.env.scope x:=by rcases g with k|k;exact .inl k;exact .inr (.inl k)
 obtain⟨u,r,l⟩:=L i x v p e1 L3;refine wpAny_AugAssign_Name ?_;have q:wpAny X.md X.A (eval e X.env) (λw T=>wpAny X.md X.A (inplaceOp f u w) (λr eG=>wpAny X.md X.A (storeName X.env x r) (λ_=>SP X a D .next) X.xe eG) X.xe T) X.xe s:=az (P a s j H _ I h) λw t ⟨y,H1,I1,B,E⟩=>az (F a t j H1 v y u w _ I1 r B E) λz s2 ⟨zv,H2,I2,A,C⟩=>AW I2 R p g A (λs3 I3=>⟨_,H2,I3,C⟩) N;rcases l with⟨b,J⟩|⟨b,c,Q,BN⟩;·exact Ca I.ok.kind b G J q
 ·rcases b with b|b;·exact C1 I.ok.kind b Q BN q
  ·rcases g with k|k
   ·have:X.env.scope.names.lookup x=O .free:=b
    simp_all
   ·have:X.env.scope.names.lookup x=O .free:=b
    simp_all
inductive Ub(f:Int->Int->Int)(x:V)(y:V)(H:Hp)(Q:VK):Prop
 |mk (i j) (c:x=.int i) (b:y=.int j) (a:Q (.int (f i j)) H):Ub f x y H Q
def ipI(f:Int->Int->Int):CU:=λx y H Q=>Ub f x y H Q
def Sx:V8 X .Add (ipI λi j=>i+j):=by
 rintro a s f H x y v u Q I c b ⟨i,j,e,d,q⟩;subst e;subst d;obtain⟨t,rfl⟩:=c;obtain⟨g,rfl⟩:=b;exact iadd_int ⟨.int _,H,I.tok _,⟨_,rfl⟩,q⟩
end
def Sy(c:TT)(h:TS):TS:=λD a H=>∃W:Nat->St->Hp->Prop,(∃m,W m a H)/\∀m a H,W m a H->
 c a H λb f=>if b=ar then ∃N:St->Hp->Prop,(∀e g,N e g->∃d,d<m/\W d e g)/\h {D with nx:=N,ct:=N,bk:=D.nx} a f else D.nx a f
theorem AX(q:PassesOwn X.md X.A X.env X.xe)(L:PT X c B)(P:fR X body C):PS X (.While c body [] pos) (Sy B C):=by
 intro a s x H D I h;obtain⟨W,⟨J,A⟩,turn⟩:=h;refine wpAny_While (codeAny_whileLoop (λn G=>t6 X a (W n) G) ?_ J ⟨x,H,I,A⟩);rintro n F ⟨g,w,Q,z⟩;refine nh q (az (L a F g w _ Q (turn n g w z)) λb E y=>?_);obtain⟨u,t,j⟩:=y;cases b with
 |true=>
  obtain⟨N,r,j⟩:=j;rw[bS rfl];refine nh q (az (P a E g u _ t j) λf R i=>?_);cases f with
  |next=>
   obtain⟨d,e,p,l⟩:=i;obtain⟨m,o,k⟩:=r d e l;exact⟨m,o,d,e,p,k⟩
  |cont=>
   obtain⟨d,e,p,l⟩:=i;obtain⟨m,o,k⟩:=r d e l;exact⟨m,o,d,e,p,k⟩
  |brk=>exact i
  |ret v=>exact i
 |false=>
  rw[bt Yq];exact sA ⟨g,u,t,j⟩
structure It where
 go:Nat->Hp->Prop
 oR:Nat->Hp->V->Hp->Prop
 stop:Nat->Hp->Prop
def je(X:Cx)(a:aX)(H:Hp)(b:U):Prop:=
 H b=aF/\b≠X.env.locals/\b∉X.fs/\(b∈X.ex\/X.di.heap.objs.size<=b)/\(∀x c,X.env.cells.lookup x=O c->c≠b)/\∀p∈X.pn++a,p.1≠b
def Inv.rJ(I:Inv X pins σ H s)(a:s.heap.objs.size<=b)(f:g b=aF):je X pins g b:=by
 refine⟨f,Js (Y3 I.lt a),I.ZjI a,.inr (Yy I.sz a),λx c e z=>?_,λp d z=>?_⟩
 ·obtain⟨v,q⟩:=I.cell x c e;exact absurd (Y3 q.lt (by rwa[z])) (Wi _)
 ·exact absurd (Y3 (Yu (I.pin p d).1) (by rwa[z])) (Wi _)
structure Turn(P:c9)(w:cX)(K:ah)(tg:cu)(J:It)(fp:Z U)(it:U)(tn:Nat->cS->Prop):Prop where
 mem:it∈fp
 obj:∀i h,tn i h->∀b∈fp,∃o,h.get? b=O o/\∀v,o.data≠.cell v
 keep:∀i h h',tn i h->(∀b∈fp,∀o,h.get? b=O o->h'.get? b=O o)->tn i h'
 item:∀(X:Cx),X.prog=P->X.w=w->X.K=K->X.calm=ar->∀(i:Nat) (pins:aX) (s:bU) (σ:St) (H:Hp) (E:bb),Inv X pins σ H s->(∀b∈fp,je X pins H b)->tn i s.heap->J.go i H->
  wpAny (model P w) X.A (pyNext (.ref it)) (λr s1=>∃u,r=O u/\
   wpAny (model P w) X.A (letOwnedTupleGo tg (.ref it) u) (λ_ s2=>∃x H',Inv X pins σ H' s2/\RelV x u/\J.oR i H x H'/\tn (i+1) s2.heap/\∀b∈fp,H' b=aF) E s1) E s
 done:∀(X:Cx),X.prog=P->X.w=w->X.K=K->X.calm=ar->∀(i:Nat) (pins:aX) (s:bU) (σ:St) (H:Hp) (E:bb),Inv X pins σ H s->(∀b∈fp,je X pins H b)->tn i s.heap->J.stop i H->
  wpAny (model P w) X.A (pyNext (.ref it)) (λr s1=>r=aF/\Inv X pins σ H s1) E s
 self:∀(A:d_) (i:Nat) (s:bU) (Q:bb) (E:bb),tn i s.heap->Q (.ref it) s->wpAny (model P w) A (pyIter (.ref it)) Q E s
abbrev TI:=St->Hp->(It->Hp->Prop)->Prop
def V9(X:Cx)(a:aX)(g:St)(i:cu)(R:It->Hp->Prop)(h:a7)(e:bU):Prop:=
 ∃(f:U) (fp:Z U) (d:Nat->cS->Prop) (J:It) (c:Hp),h=.ref f/\Inv X a g c e/\Turn X.prog X.w X.K i J fp f d/\d 0 e.heap/\(∀b∈fp,je X a c b)/\R J c
def PI(X:Cx)(e b:cu)(d:TI):Prop:=
 ∀(a:aX) (s:bU) (c:St) (H:Hp) (R:It->Hp->Prop),Inv X a c H s->d c H R->
  wpAny X.md X.A (eval b X.env) (λv f=>wpAny X.md X.A (pyIter v) (V9 X a c e R) X.xe f) X.xe s
theorem tQ(d:s.heap.get? it=O o)(g:o.cls=.type n)(f:o.data=.fields b)
    (e:["enumerate","zip","dict_itemiterator","dict_reverseitemiterator","odict_iterator","itertools.zip_longest","itertools.pairwise"].contains n=a_)(a:Q () s):wpAny M A (letOwnedTupleGo c (.ref it) u) Q E s:=by
  unfold letOwnedTupleGo;cases c <;> first
    | exact cG a
    | (cases u <;> first
        | exact cG a
        | (refine bg (wpAny_load d ?_)
           rw [g,f];show wpAny M A (if (["enumerate","zip","dict_itemiterator","dict_reverseitemiterator","odict_iterator","itertools.zip_longest","itertools.pairwise"].contains n&&b[0]? == O (rawInt _))=ar then _ else _) Q E s;rw [bt (by intro h; rw [e,WJ] at h; cases h)];exact cG a))
def kj(K:ah)(a:U):It:=
 ⟨λi H=>∃b x,aq K H a b/\b[i]?=O x,λi H x c=>c=H/\∀b,aq K H a b->b[i]?=O x,λi H=>∃b,aq K H a b/\b.length<=i⟩
def qy(K:ah)(a:U):It:=
 ⟨λi H=>∃b x,aB K H a b/\b[i]?=O x,λi H x c=>c=H/\∀b,aB K H a b->b[i]?=O x,λi H=>∃b,aB K H a b/\b.length<=i⟩
def qz(a:Int)(n:Nat):It:=⟨λi _=>i<n,λi H x b=>b=H/\x=.int (a+i),λi _=>n<=i⟩
theorem OX{P:c9}{w:cX}{K:ah}{N:cu}(a it:U):Turn P w K N (kj K a) [it] it (λi h=>h.IsListIter it a i) where
 mem:=QS
 obj:=λi h st b g=>by
  have e:b=it:=by simpa using g
  obtain⟨o,e,c,d⟩:=st
  simp_all
 keep:=λi h F st k=>st.at λo e=>k it QS o e
 item:=by
  intro X t q v D i f s J H E I l st r;subst t q v;obtain⟨L,x,j,n⟩:=r;obtain⟨au,m,p,T⟩:=I.list j;obtain⟨u,hu,R⟩:=m.get n;obtain⟨C,B,f2,A,z,y⟩:=l it QS;refine wpAny_pyNext_list_item st p.isList (by simpa using hu) λF G Q=>?_;obtain⟨o,e,c,d⟩:=id G;exact⟨u,rfl,tQ e c d QD ⟨x,H,(I.turned (λb o g e=>(Q.2 b g).trans e) C B A z y),R,⟨rfl,λys W=>by rw[I.Zer W j];exact n⟩,G,λb g=>(l b g).1⟩⟩
 done:=by
  intro X t q v D i f s J H E I l st r;subst t q v;obtain⟨L,j,n⟩:=r;obtain⟨au,m,p,T⟩:=I.list j;obtain⟨C,B,f2,A,z,y⟩:=l it QS;have hl:=m.length;exact wpAny_pyNext_list_end (I.ok.hd D) st p.isList (by simp;omega) λF eb=>⟨rfl,I.turned (eb) C B A z y⟩
 self:=λ_ _ _ _ _ st h=>wpAny_pyIter_listiter st h
theorem Ol{P:c9}{w:cX}{K:ah}{N:cu}(a it:U):Turn P w K N (qy K a) [it] it (λi h=>h.IsTupleIter it a i) where
 mem:=QS
 obj:=λi h st b g=>by
  have e:b=it:=by simpa using g
  obtain⟨o,e,c,d⟩:=st
  simp_all
 keep:=λi h F st k=>st.at λo e=>k it QS o e
 item:=by
  intro X t q v D i f s J H E I l st r;subst t q v;obtain⟨L,x,j,n⟩:=r;obtain⟨au,m,p,T⟩:=I.tuple j;obtain⟨u,hu,R⟩:=m.get n;obtain⟨C,B,f2,A,z,y⟩:=l it QS;refine wpAny_pyNext_tuple_item st (p) (by simpa using hu) λF G Q=>?_;obtain⟨o,e,c,d⟩:=id G;exact⟨u,rfl,tQ e c d QD ⟨x,H,(I.turned (λb o g e=>(Q.2 b g).trans e) C B A z y),R,⟨rfl,λys W=>by rw[I.Zdw W j];exact n⟩,G,λb g=>(l b g).1⟩⟩
 done:=by
  intro X t q v D i f s J H E I l st r;subst t q v;obtain⟨L,j,n⟩:=r;obtain⟨au,m,p,T⟩:=I.tuple j;obtain⟨C,B,f2,A,z,y⟩:=l it QS;have hl:=m.length;exact wpAny_pyNext_tuple_end (I.ok.hd D) st (p) (by simp;omega) λF eb=>⟨rfl,I.turned (eb) C B A z y⟩
 self:=λ_ _ _ _ _ st h=>wpAny_pyIter_tupleiter st h
theorem Zcz{P:c9}{w:cX}{K:ah}{D:cu}(a:U)(d:Int)(n:Nat):Turn P w K D (qz d n) [a] a (λi h=>IsRangeIter h a (d+(i:Nat)*1) ((n:Int)-(i:Nat)) 1) where
 mem:=QS
 obj:=λi h st b g=>by
  simp_all
 keep:=λi h A st k=>k a QS _ st
 item:=by
  intro X p j q m i c s C H E I f st l;subst p j q;obtain⟨z,y,J,x,u,r⟩:=f a QS;refine(Walks.range (I.ok.hd m) a d 1 n).item i s _ _ l st λv A N G B F=>?_;obtain⟨t,rfl⟩:=G;refine⟨_,rfl,tQ B rfl rfl QD ⟨.int (d+i),H,(I.turned (λb o g e=>F b o (by simpa using g) e) z y x u r),⟨t,?_⟩,⟨rfl,rfl⟩,B,λb g=>(f b g).1⟩⟩;rw[Int.mul_one]
 done:=by
  intro X p j q m i c s C H E I f st l;subst p j q;obtain⟨z,y,J,x,u,r⟩:=f a QS;exact wpAny_pyNext_range_end (I.ok.hd m) st (by have:n<=i:=l;omega) λA L=>⟨rfl,I.turned (L) z y x u r⟩
 self:=λ_ _ _ _ _ st h=>wpAny_pyIter_rangeiter st h
section
variable {X:Cx}{Q:cu}
inductive Q0(K:ah)(R:It->Hp->Prop)(x:V)(b:Hp):Prop
 |mk (a) (f:x=.ref a) (e:(∃c,aq K b a c)) (d:R (kj K a) b):Q0 K R x b
def Uc(K:ah)(b:TE):TI:=λa H R=>b a H λx c=>Q0 K R x c
inductive Sz(K:ah)(R:It->Hp->Prop)(x:V)(b:Hp):Prop
 |mk (a) (f:x=.ref a) (e:(∃c,aB K b a c)) (d:R (qy K a) b):Sz K R x b
def ZjQ(K:ah)(b:TE):TI:=λa H R=>b a H λx c=>Sz K R x c
def Q4(r:PE X l j):PI X Q l (Uc X.K j):=by
 intro c s g H R I h;refine az (r c s g H _ I h) λv f i=>?_;obtain⟨x,u,d,k,m⟩:=i;obtain⟨a,e,⟨w,n⟩,q⟩:=m;subst e;cases k;obtain⟨A,y,p,z⟩:=d.list n;refine sr p.isList ⟨f.heap.objs.size,[f.heap.objs.size],_,_,u,rfl,d.kept λ b o=>Yb _,OX a _,⟨_,Yv _ rfl,rfl,rfl⟩,λb t=>?_,q⟩;have e:b=f.heap.objs.size:=by simpa using t
 subst e;exact d.rJ (Yh _) (d.ay.fresh (Yh _))
def Bx(r:PE X l j):PI X Q l (ZjQ X.K j):=by
 intro c s g H R I h;refine az (r c s g H _ I h) λv f i=>?_;obtain⟨x,u,d,k,m⟩:=i;obtain⟨a,e,⟨w,n⟩,q⟩:=m;subst e;cases k;obtain⟨A,y,p,z⟩:=d.tuple n;refine uI (p) ⟨f.heap.objs.size,[f.heap.objs.size],_,_,u,rfl,d.kept λ b o=>Yb _,Ol a _,⟨_,Yv _ rfl,rfl,rfl⟩,λb t=>?_,q⟩;have e:b=f.heap.objs.size:=by simpa using t
 subst e;exact d.rJ (Yh _) (d.ay.fresh (Yh _))
def Zes{a:aX}{d:St}{H:Hp}{s:bU}{R:It->Hp->Prop}{E:bb}{lo c:Int}{t u v:Tok}{g:Nat}(I:Inv X a d H s)(l:-(2^62)<=lo)(k:lo<2^62)(j:-(2^62)<=c)(i:c<2^62)
  (q:R (qz lo (c-lo).toNat) H):wpAny X.md X.A (pyIter (.ref s.heap.objs.size)) (V9 X a d Q R) E {s with heap:=s.heap.push {cls:=.type "range",data:=.fields #[.int lo t,.int c u,.int 1 v]},toks:=g}:=by
 refine wpAny_pyIter_range (IsRange.new ..) (xm l k j i) ?_;have f:Inv X a d H {s with heap:=s.heap.push {cls:=.type "range",data:=.fields #[.int lo t,.int c u,.int 1 v]},toks:=g}:=I.kept λb o e=>Yb _ e;refine⟨(s.heap.push {cls:=.type "range",data:=.fields #[.int lo t,.int c u,.int 1 v]}).objs.size,[(s.heap.push {cls:=.type "range",data:=.fields #[.int lo t,.int c u,.int 1 v]}).objs.size],_,_,H,rfl,
  f.kept λ b o=>Yb _,Zcz _ lo (c-lo).toNat,?_,λb h=>?_,q⟩
 ·have n:lo+((0:Nat):Int)*1=lo:=QS
  have m:(((c-lo).toNat:Nat):Int)-((0:Nat):Int)=Builtin.Range.rangeSize lo c 1:=by rw[vt];split<;>omega
  rw[n,m];exact Yv _ rfl
 ·have e:b=(s.heap.push {cls:=.type "range",data:=.fields #[.int lo t,.int c u,.int 1 v]}).objs.size:=by simpa using h
  subst e;exact f.rJ (Yh _) (f.ay.fresh (Yh _))
inductive Q5(R:It->Hp->Prop)(a:Z V)(b:Hp):Prop
 |mk (j:Int) (f:a=[.int j]) (e:-(2^62)<=j) (c:j<2^62) (d:R (qz 0 j.toNat) b):Q5 R a b
def Zi0(c:TA):TI:=λa H R=>c a H λb d=>Q5 R b d
theorem pN{a:cu}{f:TA}{p b:Pos}(u:Gl X "range")(o:X.mg "range"=aF)(v:PA X [a] f)(n:starEach [a] X.env=[(a_,eval a X.env)]:=by rfl):PI X Q (.Call (.Name "range" p) [a] [] b) (Zi0 f):=by
 intro c s g H R I h;refine Call_ (yu I u o boot_range (zj (az (v b c s g H _ I h) λy z i=>?_) n rfl));obtain⟨x,A,w,l,d⟩:=i;obtain⟨j,e,d,m,q⟩:=d;subst e;cases l with
 |cons r k=>
  cases k;obtain⟨t,rfl⟩:=r;exact call_range_1 (Zes w (by decide) (by decide) d m (by simpa using q))
def K2(e:TI)(g:TG)(f:TS):TS:=λD a H=>e a H λJ k=>∃W:Nat->Nat->St->Hp->Prop,(∃m,W 0 m a k)/\∀i m a H,W i m a H->
 (J.stop i H/\D.nx a H)\/(J.go i H/\∃N:St->Hp->Prop,(∀d b,N d b->∃c,c<m/\W (i+1) c d b)/\∀x b,J.oR i H x b->g x a b λh j=>f {D with nx:=N,ct:=N,bk:=D.nx} h j)
def rA(a:Z U)(h:cS):Z (U×Obj):=a.filterMap λb=>(h.get? b).map λo=>(b,o)
def qR(a:b∈fp)(e:h.get? b=O o):(b,o)∈rA fp h:=Jz.mpr ⟨b,a,by rw[e];rfl⟩
theorem Zdx(a:p∈rA fp h):p.1∈fp/\h.get? p.1=O p.2:=by
 obtain⟨b,c,e⟩:=Jz.mp a;cases q:h.get? b with
 |none=>grind
 |some o=>grind
def Inv.pinned(I:Inv X pins σ H s)(c:∀b∈fp,je X pins H b)(f:∀b∈fp,∃o,s.heap.get? b=O o/\∀v,o.data≠.cell v):Inv X (pins++rA fp s.heap) σ H s:=
 I.QY λp a=>(Ym.mp a).elim (λz=>I.pin p (Yl _ z)) λz=>by
  obtain⟨d,e⟩:=Zdx z;obtain⟨i,h,g,_⟩:=c p.1 d
  grind
def Inv.vI(I:Inv X (pins++b) σ H s):Inv X pins σ H s:=I.QY λp a=>I.pin p (Yl _ (Yk _ a))
theorem dE{j:cu}{t:Z cb}{wi:TI}{g:TG}{tb:TS}{L:Pos}(z:PassesOwn X.md X.A X.env X.xe)(hc:X.calm=ar)(hi:PI X Q j wi)(hg:PG X Q g)(k:fR X t tb)
  (hs:∀x,foldedSetIterable j X.env x=pure x:=by intro _;rfl):PS X (.For Q j t [] L) (K2 wi g tb):=by
 intro a s σ H D I h;refine wpAny_For (az (hi a s σ H _ I h) λv s1 h1=>az h1 λuq s2 h2=>?_) hs;obtain⟨it,fp,tn,J,H2,e,I2,T,eI,f2,W,⟨m0,w0⟩,turn⟩:=h2;subst e;have P:∀{H':Hp},(∀b∈fp,H' b=aF)->∀b∈fp,je X a H' b:=λhn b k=>⟨hn b k,(f2 b k).2⟩;refine codeAny_forLoop_any (λn s'=>∃i B H',Inv X a B H' s'/\tn i s'.heap/\(∀b∈fp,H' b=aF)/\W i n B H') ?_ m0 ⟨0,σ,H2,I2,eI,λb k=>(f2 b k).1,w0⟩;rintro n s3 ⟨i,A,C,I3,V_,wA,w3⟩;rcases turn i n A C w3 with⟨w,qn⟩|⟨go,N,hN,step⟩
 ·refine nh z (az (T.done X rfl rfl rfl hc i a s3 A C X.xe I3 (P wA) V_ w) λr s4 E=>?_);obtain⟨R,I4⟩:=E;subst R;exact sA ⟨A,C,I4,qn⟩
 ·refine nh z (az (T.item X rfl rfl rfl hc i a s3 A C X.xe I3 (P wA) V_ go) λr s4 E=>?_);obtain⟨u,R,h4⟩:=E;subst R;refine nh z (az h4 λ_ s5 ⟨x,H5,I5,r5,y5,G,ur⟩=>nh z (az (hg _ s5 A H5 x u _ (I5.pinned (P ur) (T.obj _ _ G)) r5 (step x H5 y5)) λ_ s6 ⟨CV,H6,I6,q6⟩=>nh z (az (k _ s6 CV H6 _ I6 q6) λf F q=>?_)));have again:∀{c:St} {p:Hp},Inv X (a++rA fp s5.heap) c p F->N c p->∃m,m<n/\∃i B H',Inv X a B H' F/\tn i F.heap/\(∀b∈fp,H' b=aF)/\W i m B H':=λ{c p} l y=>by
   obtain⟨m',hm,w7⟩:=hN c p y;refine⟨m',hm,i+1,c,p,l.vI,T.keep _ _ _ G λb k o e=>(l.pin (b,o) (Yl _ (Yl _ (qR k e)))).1,λb k=>?_,w7⟩;obtain⟨o,e,d⟩:=T.obj _ _ G b k;exact(l.pin (b,o) (Yl _ (Yl _ (qR k e)))).2.1
  cases f with
  |next=>obtain⟨c,p,l,y⟩:=q;exact again l y
  |cont=>obtain⟨c,p,l,y⟩:=q;exact again l y
  |brk=>obtain⟨c,p,l,q⟩:=q;exact⟨c,p,l.vI,q⟩
  |ret v=>obtain⟨x7,c,p,l,r7,q⟩:=q;exact⟨x7,c,p,l.vI,r7,q⟩
end
def fH{K:ah}{a:U}{xs:Z V}{g:TG}{l:TS}{D:Ends}{b:St}{H:Hp}(c:Nat->St->Hp->Prop)(v:c 0 b H)(t:∀i b H,i<=xs.length->c i b H->aq K H a xs)
  (s:∀i x b H,xs[i]?=O x->c i b H->g x b H λf k=>l {D with nx:=c (i+1),ct:=c (i+1),bk:=D.nx} f k)(u:∀b H,c xs.length b H->D.nx b H):
  ∃W:Nat->Nat->St->Hp->Prop,(∃m,W 0 m b H)/\∀i m b H,W i m b H->
   ((kj K a).stop i H/\D.nx b H)\/((kj K a).go i H/\∃N:St->Hp->Prop,(∀j d,N j d->∃n,n<m/\W (i+1) n j d)/\∀x d,(kj K a).oR i H x d->g x b d λf k=>l {D with nx:=N,ct:=N,bk:=D.nx} f k):=by
 refine⟨λi m b H=>m=xs.length-i/\i<=xs.length/\c i b H,⟨xs.length,QS,Yx _,v⟩,?_⟩;rintro i m b H ⟨rfl,o,p⟩;have q:=t i b H o p;by_cases h:i<xs.length
 ·refine .inr ⟨⟨xs,xs[i],q,by simp[h]⟩,c (i+1),λj d r=>⟨xs.length-(i+1),QO,rfl,h,r⟩,λx d y=>?_⟩;obtain⟨e,y⟩:=y;subst e;exact s i x b _ (y xs q) p
 ·have e:i=xs.length:=(ic o (fU h))
  subst e;exact .inl ⟨⟨xs,q,Yh _⟩,u b H p⟩
def ZfX{K:ah}{a:U}{xs:Z V}{g:TG}{l:TS}{D:Ends}{b:St}{H:Hp}(c:Nat->St->Hp->Prop)(u:c 0 b H)(s:∀i b H,i<=xs.length->c i b H->aB K H a xs)
  (v:∀i x b H,xs[i]?=O x->c i b H->g x b H λf k=>l {D with nx:=c (i+1),ct:=c (i+1),bk:=D.nx} f k)(t:∀b H,c xs.length b H->D.nx b H):
  ∃W:Nat->Nat->St->Hp->Prop,(∃m,W 0 m b H)/\∀i m b H,W i m b H->
   ((qy K a).stop i H/\D.nx b H)\/((qy K a).go i H/\∃N:St->Hp->Prop,(∀j d,N j d->∃n,n<m/\W (i+1) n j d)/\∀x d,(qy K a).oR i H x d->g x b d λf k=>l {D with nx:=N,ct:=N,bk:=D.nx} f k):=by
 refine⟨λi m b H=>m=xs.length-i/\i<=xs.length/\c i b H,⟨xs.length,QS,Yx _,u⟩,?_⟩;rintro i m b H ⟨rfl,o,p⟩;have q:=s i b H o p;by_cases h:i<xs.length
 ·refine .inr ⟨⟨xs,xs[i],q,by simp[h]⟩,c (i+1),λj d r=>⟨xs.length-(i+1),QO,rfl,h,r⟩,λx d y=>?_⟩;obtain⟨e,y⟩:=y
  grind
 ·have e:i=xs.length:=(ic o (fU h))
  subst e;exact .inl ⟨⟨xs,q,Yh _⟩,t b H p⟩
def AM{lo:Int}{n:Nat}{g:TG}{k:TS}{D:Ends}{a:St}{H:Hp}(b:Nat->St->Hp->Prop)(s:b 0 a H)
  (t:∀i a H,i<n->b i a H->g (.int (lo+i)) a H λd j=>k {D with nx:=b (i+1),ct:=b (i+1),bk:=D.nx} d j)(r:∀a H,b n a H->D.nx a H):
  ∃W:Nat->Nat->St->Hp->Prop,(∃m,W 0 m a H)/\∀i m a H,W i m a H->
   ((qz lo n).stop i H/\D.nx a H)\/((qz lo n).go i H/\∃N:St->Hp->Prop,(∀h c,N h c->∃l,l<m/\W (i+1) l h c)/\∀x c,(qz lo n).oR i H x c->g x a c λd j=>k {D with nx:=N,ct:=N,bk:=D.nx} d j):=by
 refine⟨λi m a H=>m=n-i/\i<=n/\b i a H,⟨n,QS,Yx _,s⟩,?_⟩;rintro i m a H ⟨rfl,q,p⟩;by_cases f:i<n
 ·refine .inr ⟨f,b (i+1),λh c o=>⟨n-(i+1),QO,rfl,f,o⟩,λx c y=>?_⟩;obtain⟨e,y⟩:=y
  simp_all
 ·have e:i=n:=(ic q (fU f))
  subst e;exact .inl ⟨Yh _,r a H p⟩
theorem AY{c:TT}{j:TS}{D:Ends}{a:St}{H:Hp}(i:St->Hp->Prop)(g:St->Hp->Nat)(r:i a H)
  (o:∀a H,i a H->c a H λb e=>if b=ar then j {D with nx:=λd f=>i d f/\g d f<g a H,ct:=λd f=>i d f/\g d f<g a H,bk:=D.nx} a e else D.nx a e)
  (h:∀a H Q k,(∀b e,Q b e->k b e)->c a H Q->c a H k):Sy c j D a H:=by
 refine⟨λm a H=>m=g a H/\i a H,⟨_,rfl,r⟩,?_⟩;rintro m a H ⟨rfl,p⟩;refine h a H _ _ (λb e q=>?_) (o a H p);cases b with
 |true=>exact⟨_,λd f u=>by obtain⟨n,l⟩:=u;exact⟨_,l,rfl,n⟩,q⟩
 |false=>exact q
abbrev R2:=V->V->Hp->VK->Prop
def cJ(X:Cx)(f:a7->a7->Sem a7)(r:R2):Prop:=
 ∀(a:aX) (s:bU) (b:St) (H:Hp) (x y:V) (v u:a7) (Q:VK),Inv X a b H s->RelV x v->RelV y u->r x y H Q->
  wpAny X.md X.A (f v u) (EP X a b Q) X.xe s
def df(X:Cx)(f:a7)(r:Z V->Hp->VK->Prop):Prop:=
 ∀(a:aX) (s:bU) (b:St) (H:Hp) (c:Z V) (d:Z a7) (Q:VK),Inv X a b H s->Vals c d->r c H Q->
  wpAny X.md X.A (call f d) (EP X a b Q) X.xe s
def ZjR(X:Cx)(r:V->Hp->(cm->Hp->Prop)->Prop):Prop:=
 ∀(a:aX) (s:bU) (b:St) (H:Hp) (x:V) (v:a7) (Q:cm->Hp->Prop),Inv X a b H s->RelV x v->r x H Q->
  wpAny X.md X.A (truthy v) (TP X a b Q) X.xe s
def jP(r:R2)(c b:TE):TE:=λa H Q=>c a H λx e=>b a e λy d=>r x y d Q
inductive U_(C:Int->Int->Prop)(g:Int->Int->V)(x:V)(y:V)(H:Hp)(Q:VK):Prop
 |mk (i j) (d:x=.int i) (c:y=.int j) (a:C i j) (b:Q (g i j) H):U_ C g x y H Q
def rI(C:Int->Int->Prop)(g:Int->Int->V):R2:=λx y H Q=>U_ C g x y H Q
inductive Ud(g:Int->Int->V)(x:V)(y:V)(H:Hp)(Q:VK):Prop
 |mk (i j) (c:x=.int i) (b:y=.int j) (a:Q (g i j) H):Ud g x y H Q
def rV(g:Int->Int->V):R2:=λx y H Q=>Ud g x y H Q
section
variable {X:Cx}
def K3(p:PE X a l)(o:PE X b k){c:aX}{s:bU}{d:St}{H:Hp}{R:V->V->Hp->Prop}(I:Inv X c d H s)
  (h:l d H λx j=>k d j λy e=>R x y e){Q:bb}{f:a7->a7->Sem a7}
  (B:∀v u i x y e,Inv X c d e i->RelV x v->RelV y u->R x y e->wpAny X.md X.A (f v u) Q X.xe i):
  wpAny X.md X.A (eval a X.env) (λv r=>wpAny X.md X.A (eval b X.env) (λu q=>wpAny X.md X.A (f v u) Q X.xe q) X.xe r) X.xe s:=by
 refine az (p c s d H _ I h) λv m g=>?_;obtain⟨x,j,t,z,n⟩:=g;refine az (o c m d j _ t n) λu i g=>?_;obtain⟨y,e,C,w,A⟩:=g
 grind
def bh(i:cJ X (binaryOp op) r)(k:PE X a f)(j:PE X b e):PE X (.BinOp a op b pos) (jP r f e):=by
 intro c s d H Q I h;exact wpAny_BinOp (K3 k j I h λ v u g x y l=>i c g d l x y v u Q)
def CW{f:a7->a7->Sem a7}{C:Int->Int->Prop}{g:Int->Int->Int}
  (a:∀(i j:Int) (t u:Tok) (s:bU) (Q:bb) (E:bb),C i j->Q (.int (g i j) s.toks) {s with toks:=s.toks+1}->wpAny X.md X.A (f (.int i t) (.int j u)) Q E s):
  cJ X f (rI C λi j=>.int (g i j)):=by
 rintro b s k H x y v u Q I e d ⟨i,j,rfl,rfl,h,q⟩;obtain⟨t,rfl⟩:=e;obtain⟨c,rfl⟩:=d;exact a i j t c s _ _ h ⟨.int (g i j),H,I.tok _,⟨_,rfl⟩,q⟩
def Va{f:a7->a7->Sem a7}{g:Int->Int->Int}
  (a:∀(i j:Int) (t u:Tok) (s:bU) (Q:bb) (E:bb),Q (.int (g i j) s.toks) {s with toks:=s.toks+1}->wpAny X.md X.A (f (.int i t) (.int j u)) Q E s):
  cJ X f (rV λi j=>.int (g i j)):=by
 rintro b s h H x y v u Q I e d ⟨i,j,rfl,rfl,q⟩;obtain⟨t,rfl⟩:=e;obtain⟨c,rfl⟩:=d;exact a i j t c s _ _ ⟨.int (g i j),H,I.tok _,⟨_,rfl⟩,q⟩
def K4{g:Int->Int->cm}
  (a:∀(i j:Int) (t u:Tok) (s:bU) (Q:bb) (E:bb),Q (.bool (g i j)) s->wpAny X.md X.A (f (.int i t) (.int j u)) Q E s):
  cJ X f (rV λi j=>.bl (g i j)):=by
 rintro b s h H x y v u Q I e d ⟨i,j,rfl,rfl,q⟩;obtain⟨t,rfl⟩:=e;obtain⟨c,rfl⟩:=d;exact a i j t c s _ _ ⟨.bl (g i j),H,I,rfl,q⟩
def K5(i j:Int):Prop:=0<j/\j<1073741824
def ZjS(i j:Int):Prop:=0<=j/\j<=1000000/\i.natAbs<2^64
def yQ(i j:Int):Prop:=(-(2^64)<i/\i<2^64)\/(-(2^64)<j/\j<2^64)
def yQ.ok{i j:Int}(h:yQ i j):IntMulOk i j:=by
 rcases h with⟨b,a⟩|⟨b,a⟩;·exact .of_left (intBits_le_64 b a)
 ·exact .of_right (intBits_le_64 b a)
def i6:cJ X (binaryOp .Add) (rV λi j=>.int (i+j)):=Va λ_ _ _ _ _ _ _ q=>add_int q
def By:cJ X (binaryOp .Sub) (rV λi j=>.int (i-j)):=Va λ_ _ _ _ _ _ _ q=>sub_int q
def p_:cJ X (binaryOp .Mult) (rI yQ λi j=>.int (i*j)):=CW λ_ _ _ _ _ _ _ a q=>mul_int q a.ok
def Bb:cJ X (binaryOp .FloorDiv) (rI K5 λi j=>.int (i/j)):=CW λi j _ _ _ _ _ a q=>by
 have b:(0:Int)<j:=a.1;have c:j<1073741824:=a.2;exact floordiv_int (X8 b) (by rw[Int.fdiv_eq_ediv_of_nonneg i (Int.le_of_lt b)];exact q) (.inl (PyProof.noPylong_small QO))
def eQ:cJ X (binaryOp .Mod) (rI (λ_ j=>0<j) λi j=>.int (i % j)):=CW λi j _ _ _ _ _ a q=>by
 exact mod_int' (X8 a) (by rwa[Int.fmod_eq_emod_of_nonneg i (Int.le_of_lt a)])
def SA:cJ X (binaryOp .Pow) (rI ZjS λi j=>.int (i^j.toNat)):=CW λ_ _ _ _ _ _ _ a q=>pow_int_small a.1 a.2.1 a.2.2 q
end
def yR:V->V->cm
 |.aC,.aC=>ar|.aC,.int _=>ar|.int _,.aC=>ar|.aC,.bl _=>ar|.bl _,.aC=>ar|.aC,.str _=>ar|.str _,.aC=>ar
 |.int _,.int _=>ar|.bl _,.bl _=>ar|.str _,.str _=>ar|.kg _,.kg _=>ar
 |.int _,.str _=>ar|.str _,.int _=>ar|.bl _,.str _=>ar|.str _,.bl _=>ar
 |_,_=>a_
def WA:R2:=λx y H Q=>yR x y=ar/\Q (.bl (decide (x=y))) H
def WB:R2:=λx y H Q=>yR x y=ar/\Q (.bl (!decide (x=y))) H
def Q6:decide (V.int i=V.int j)=(i==j):=by
 grind
def SD:decide (V.bl i=V.bl j)=(i==j):=by
 grind
def Q7:decide (V.str i=V.str j)=(i==j):=by
 grind
def Q8:decide (V.kg i=V.kg j)=(i.toList==j.toList):=by
 rw[Wq];simp_all
section
variable {b:cu}
def cM(I:Inv X pins σ H s)(q:Q (.bl k) H)(e:k=a):EP X pins σ Q (.bool a) s:=by
 subst e;exact⟨.bl k,H,I,rfl,q⟩
theorem cq:cJ X (compareOp .Eq) WA:=by
 intro f s g H x y v u Q I e a h;obtain⟨d,q⟩:=h;cases x with
 |aC=>
  cases e;cases y with
  |aC=>cases a;exact PySem.EqNone.eq_none_none (cM I q QS)
  |bl j=>cases a;exact PySem.EqNone.eq_none_bool (cM I q QS)
  |int j=>obtain⟨c,rfl⟩:=a;exact PySem.EqNone.eq_none_int (cM I q QS)
  |str j=>obtain⟨c,rfl⟩:=a;exact PySem.EqNone.eq_none_str (cM I q QS)
  |_=>exact absurd (d) Yq
 |bl i=>
  cases e;cases y with
  |aC=>cases a;exact PySem.EqNone.eq_bool_none (cM I q QS)
  |bl j=>cases a;exact eq_bool (cM I q SD)
  |str j=>obtain⟨c,rfl⟩:=a;exact PySem.EqMixed.eq_bool_str (cM I q QS)
  |_=>exact absurd (d) Yq
 |int i=>
  obtain⟨t,rfl⟩:=e;cases y with
  |aC=>cases a;exact PySem.EqNone.eq_int_none (cM I q QS)
  |int j=>obtain⟨c,rfl⟩:=a;exact eq_int (cM I q Q6)
  |str j=>obtain⟨c,rfl⟩:=a;exact PySem.EqMixed.eq_int_str (cM I q QS)
  |_=>exact absurd (d) Yq
 |str i=>
  obtain⟨t,rfl⟩:=e;cases y with
  |aC=>cases a;exact PySem.EqNone.eq_str_none (cM I q QS)
  |bl j=>cases a;exact PySem.EqMixed.eq_str_bool (cM I q QS)
  |int j=>obtain⟨c,rfl⟩:=a;exact PySem.EqMixed.eq_str_int (cM I q QS)
  |str j=>obtain⟨c,rfl⟩:=a;exact eq_str (cM I q Q7)
  |_=>exact absurd (d) Yq
 |kg i=>
  obtain⟨t,rfl⟩:=e;cases y with
  |kg j=>obtain⟨c,rfl⟩:=a;exact PySem.W.eq_bytes (cM I q Q8)
  |_=>exact absurd (d) Yq
 |_=>cases y<;>exact absurd (d) Yq
theorem ni:cJ X (compareOp .NotEq) WB:=by
 intro f s g H x y v u Q I e a h;obtain⟨d,q⟩:=h;cases x with
 |aC=>
  cases e;cases y with
  |aC=>cases a;exact PySem.EqNone.ne_none_none (cM I q QS)
  |bl j=>cases a;exact PySem.EqNone.ne_none_bool (cM I q QS)
  |int j=>obtain⟨c,rfl⟩:=a;exact PySem.EqNone.ne_none_int (cM I q QS)
  |str j=>obtain⟨c,rfl⟩:=a;exact PySem.EqNone.ne_none_str (cM I q QS)
  |_=>exact absurd (d) Yq
 |bl i=>
  cases e;cases y with
  |aC=>cases a;exact PySem.EqNone.ne_bool_none (cM I q QS)
  |bl j=>cases a;exact ne_bool (cM I q (d6 not SD))
  |str j=>obtain⟨c,rfl⟩:=a;exact PySem.EqMixed.ne_bool_str (cM I q QS)
  |_=>exact absurd (d) Yq
 |int i=>
  obtain⟨t,rfl⟩:=e;cases y with
  |aC=>cases a;exact PySem.EqNone.ne_int_none (cM I q QS)
  |int j=>obtain⟨c,rfl⟩:=a;exact ne_int (cM I q (d6 not Q6))
  |str j=>obtain⟨c,rfl⟩:=a;exact PySem.EqMixed.ne_int_str (cM I q QS)
  |_=>exact absurd (d) Yq
 |str i=>
  obtain⟨t,rfl⟩:=e;cases y with
  |aC=>cases a;exact PySem.EqNone.ne_str_none (cM I q QS)
  |bl j=>cases a;exact PySem.EqMixed.ne_str_bool (cM I q QS)
  |int j=>obtain⟨c,rfl⟩:=a;exact PySem.EqMixed.ne_str_int (cM I q QS)
  |str j=>obtain⟨c,rfl⟩:=a;exact ne_str (cM I q (d6 not Q7))
  |_=>exact absurd (d) Yq
 |kg i=>
  obtain⟨t,rfl⟩:=e;cases y with
  |kg j=>obtain⟨c,rfl⟩:=a;exact PySem.W.ne_bytes (cM I q (d6 not Q8))
  |_=>exact absurd (d) Yq
 |_=>cases y<;>exact absurd (d) Yq
def nj:cJ X (compareOp .Lt) (rV λi j=>.bl (decide (i<j))):=K4 λ_ _ _ _ _ _ _ q=>lt_int q
def Kv:cJ X (compareOp .Gt) (rV λi j=>.bl (decide (j<i))):=K4 λ_ _ _ _ _ _ _ q=>gt_int q
def Zi1:cJ X (compareOp .GtE) (rV λi j=>.bl (decide (j<=i))):=K4 λ_ _ _ _ _ _ _ q=>ge_int q
def Zdy:cJ X (compareOp .Lt) (λx y H Q=>∃i j,x=.str i/\y=.str j/\Q (.bl (decide (i.cps.toList<j.cps.toList))) H):=by
 rintro a s e H x y v u Q I d c ⟨i,j,rfl,rfl,q⟩;obtain⟨t,rfl⟩:=d;obtain⟨f,rfl⟩:=c;exact lt_str (cM I q rfl)
def Hx:cJ X (compareOp .In) (λx y H Q=>∃i j,x=.str i/\y=.str j/\Q (.bl (!(Builtin.Str.occurrences j i 0 j.length 1).isEmpty)) H):=by
 intro a s e H x y v u Q I d c h;obtain⟨i,j,rfl,rfl,q⟩:=h;obtain⟨t,rfl⟩:=d;obtain⟨f,rfl⟩:=c;exact in_str (cM I q rfl)
theorem yv:cJ X (compareOp .Is) (λx y H Q=>y=.aC/\Q (.bl (decide (x=.aC))) H):=by
 intro c s e H x y v u Q I a d h;obtain⟨rfl,q⟩:=h;cases d;refine is_none_gen (cM I q ?_);cases x<;>first
  |(cases a;rfl)
  |(obtain⟨t,rfl⟩:=a;rfl)
theorem Bc:cJ X (compareOp .IsNot) (λx y H Q=>y=.aC/\Q (.bl (!decide (x=.aC))) H):=by
 rintro c s e H x y v u Q I a d ⟨rfl,q⟩;cases d;refine isnot_none_gen (cM I q ?_);cases x<;>first
  |(cases a;rfl)
  |(obtain⟨t,rfl⟩:=a;rfl)
def N3:cJ X (compareOp .NotIn) (λx y H Q=>∃i j,x=.str i/\y=.str j/\Q (.bl (!(!(Builtin.Str.occurrences j i 0 j.length 1).isEmpty))) H):=by
 rintro a s e H x y v u Q I d c ⟨i,j,rfl,rfl,q⟩;obtain⟨t,rfl⟩:=d;obtain⟨f,rfl⟩:=c;exact notIn_str (cM I q rfl)
def SE(b:cu){a:CmpOp}(h:a≠.In:=by decide)(c:a≠.NotIn:=by decide):behindInMarks a b=a_:=by
 have e:(a==CmpOp.In)=a_:=by cases a<;>first|rfl|exact absurd rfl h
 have d:(a==CmpOp.NotIn)=a_:=by cases a<;>first|rfl|exact absurd rfl c
 cases b<;>simp[behindInMarks,e,d]
def Be(i:cJ X (compareOp op) r)(l:PE X a f)(k:PE X b e)(j:behindInMarks op b=a_):PE X (.Compare a [op] [b] pos) (jP r f e):=by
 intro c s d H Q I h;exact Vz (K3 l k I h λ v u g x y m=>i c g d m x y v u Q) j
inductive Q9(Q:cm->Hp->Prop)(x:V)(a:Hp):Prop
 |mk (k) (d:x=.bl k) (c:Q k a):Q9 Q x a
def Kw(t:TE):TT:=λa H Q=>t a H λx c=>Q9 Q x c
def fK(w:cJ X (compareOp op) r)(C:PE X a i)(B:PE X b g)(A:behindInMarks op b=a_):PT X (.Compare a [op] [b] pos) (Kw (jP r i g)):=by
 intro d s f H Q I h;refine B2 (az (C d s f H _ I h) λv l ⟨x,L,F,o,t⟩=>az (B d l f L _ F t) λu j ⟨y,J,E,n,q⟩=>
  az (w d j f J x y v u _ E o n q) λc N ⟨z,G,D,m,k,e,p⟩=>?_) A
 subst e;cases m;exact lr ⟨G,D,p⟩
def B3(K:ah)(x:V)(H:Hp)(k:cm):Prop:=
 match x with
 |.aC=>k=a_
 |.bl b=>k=b
 |.int i=>k=(i !=0)
 |.str y=>y.length<=sizeLine/\k=((y.length:Int)!=0)
 |.kg y=>y.size<=sizeLine/\k=((y.size:Int)!=0)
 |.ref p=>(∃a,aq K H p a/\k=!a.isEmpty)\/(∃a,aB K H p a/\k=!a.isEmpty)\/∃c,H p=O (.dK c)/\k=!c.isEmpty
 |_=>False
def ZcA(r:KV a c):(!c.isEmpty)=!a.isEmpty:=by
 cases r<;>rfl
def Om(r:Vals xs a):(!a.toArray.isEmpty)=!xs.isEmpty:=by
 cases r<;>simp
def tJ:(sizeLine:Nat)<2^63:=by rw[dg];decide
theorem Zht:ZjR X (λx H Q=>∃k,B3 X.K x H k/\Q k H):=by
 intro l s A H x v Q I f h;obtain⟨k,e,q⟩:=h;have B:sizeLine=16777216:=dg;cases x with
 |aC=>
  cases f;have a:k=a_:=e;subst a;exact truthy_none ⟨H,I,q⟩
 |bl b=>
  cases f;have a:k=b:=e;subst a;exact lr ⟨H,I,q⟩
 |int i=>
  obtain⟨t,rfl⟩:=f;have a:k=(i !=0):=e;subst a;exact PySem.P.truthy_int ⟨H,I,q⟩
 |str y=>
  obtain⟨t,rfl⟩:=f;obtain⟨o,a⟩:y.length<=sizeLine/\k=((y.length:Int)!=0):=e;subst a;exact PySem.P.truthy_str QO ⟨H,I.tok _,q⟩
 |kg y=>
  obtain⟨t,rfl⟩:=f;obtain⟨o,a⟩:y.size<=sizeLine/\k=((y.size:Int)!=0):=e;subst a;exact PySem.W.truthy_bytes (eL o (by decide)) ⟨H,I.tok _,q⟩
 |ref p=>
  cases f;have a:=e;rcases a with⟨u,g,a⟩|⟨u,g,a⟩|⟨d,g,a⟩
  ·subst a;obtain⟨z,r,j,n⟩:=I.list g;have c:=r.length;exact wpAny_truthy_list j.isList (by simp only[Yt];omega) ⟨H,I.tok _,by rw[Om r];exact q⟩
  ·subst a;obtain⟨z,r,j,n⟩:=I.tuple g;have c:=r.length;exact truthy_tuple j (by simp only[Yt];omega) ⟨H,I.tok _,by rw[Om r];exact q⟩
  ·subst a;obtain⟨n,w,vs,r,m⟩:d.length<=sizeLine/\(p==sysModules)=a_/\∃vs,KV d vs/\s.heap.DictOf (dO X.prog X.w) p vs:=I.ay p _ g;have c:d.length=vs.length:=Paired.length r;exact wpAny_truthy_dict w m QO ⟨H,I.tok _,by rwa[ZcA r]⟩
 |_=>exact(e).elim
def ye(n:PE X a g)(m:∀c,isTrue a X.env c=(do let v←c;standAt a.pos;holding [v] (truthy v))):
  PT X a (λe H Q=>g e H λx f=>∃k,B3 X.K x f k/\Q k f):=by
 intro d s e H Q I h;exact isTrue_plain (az (n d s e H _ I h) λv i b=>by obtain⟨x,p,o,j,l⟩:=b;exact Zht d i e p x v Q o j l) (m _)
def pL:cJ X (binaryOp .Add) (λx y H Q=>∃i j,x=.str i/\y=.str j/\i.length+j.length<=sizeLine/\Q (.str (i++j)) H):=by
 rintro a s g H x y v u Q I e d ⟨i,j,rfl,rfl,f,q⟩;obtain⟨t,rfl⟩:=e;obtain⟨c,rfl⟩:=d;exact add_str (λc h=>⟨.str (i++j),H,I.tok _,⟨_,rfl⟩,q⟩) f
theorem vals1(r:Vals [x] us):∃u,us=[u]/\RelV x u:=by
 cases r with
 |cons c a=>cases a;exact⟨_,rfl,c⟩
theorem vals2(r:Vals [x,y] us):∃u w',us=[u,w']/\RelV x u/\RelV y w':=by
 cases r with
 |cons e d=>
  cases d with
  |cons c a=>cases a;exact⟨_,_,rfl,e,c⟩
def PM:df X (.builtin "abs") (λa H Q=>∃i,a=[.int i]/\Q (.int (if i<0 then-i else i)) H):=by
 rintro c s d H a e Q I r ⟨i,rfl,q⟩;obtain⟨u,rfl,t,rfl⟩:=vals1 r;exact call_abs_int λu f=>⟨.int (if i<0 then-i else i),H,I.tok _,⟨_,rfl⟩,q⟩
def Zdz(e:X.calm=ar):df X (.builtin "min") (λc H Q=>∃i j,c=[.int i,.int j]/\Q (.int (if j<i then j else i)) H):=by
 rintro d s f H c h Q I r ⟨i,j,rfl,q⟩;obtain⟨u,g,rfl,⟨t,rfl⟩,⟨m,rfl⟩⟩:=vals2 r;refine min_two_ints (I.ok.hd e) λn l k=>⟨_,H,I.kept k,?_,q⟩;by_cases a:j<i;·rw[bS a,bS a];exact⟨_,rfl⟩
 ·rw[bt a,bt a];exact⟨_,rfl⟩
def FI:df X (.type "str") (λa H Q=>∃i,a=[.int i]/\i.natAbs.log2<1920/\Q (.str (toString i)) H):=by
 rintro c s e H a f Q I r ⟨i,rfl,d,q⟩;obtain⟨u,rfl,t,rfl⟩:=vals1 r;exact PySem.P.str_of_int d ⟨.str _,H,I.tok _,⟨_,rfl⟩,q⟩
end
structure t_(h:cS)(x dx C:U)(mA:aR):Prop where
 obj:h.get? x=O (instObj C dx)
 ns:h.Ns1 dx mA
 ne:dx≠x
def Hy{h:cS}(n:h.Ns1 m f):∃c,h.get? m=O c/\∀b,lookIn b c=O (f b):=by
 obtain⟨o,l,p,i,hd,k,_,j⟩:=n;refine⟨o,i,λb=>?_⟩;have e:=j b;unfold nsFind findBy at e;rw[←Array.find?_toList] at e;unfold lookIn;rw[hd];dsimp;split;·grind
 ·rename_i q
  have a:l.toList.any (·.refKey)=a_:=by
   rw[WC];intro y g;obtain⟨z,t,d⟩:=k y (Array.mem_toList_iff.mp g);simp[DictEntry.refKey,d]
  grind
def t_.look(I:t_ h x f C c):∃b,PySem.W.InstAt h x (instObj C f) C (O b)/\∀a,lookIn a b=O (c a):=
 let⟨b,d,e⟩:=Hy I.ns
 ⟨b,⟨I.obj,rfl,rfl,d⟩,e⟩
section
variable {T:c9}{w:cX}{A:d_}{E:bb}{s:bU}{K:ah}{x P C f:U}{mA:aR}{W:af}{v:a7}
def get_map{a:cm}{Q:bb}(X:K.In s.heap)(I:t_ s.heap x P C mA)(g:plainGet K C W=ar)(e:hasDictIn K C=ar)
  (i:PySem.W.findIn K (.ref C) W=O aF)(c:mA W=O v)(b:handedIn v=ar)(h:Q v {s with toks:=s.toks+1}):
  wpAny (model T w) A (getAttr (.ref x) W a) Q E s:=by
 obtain⟨j,J,d⟩:=I.look;exact PySem.W.get_value X J (xc g).1 (findObj_own e i rfl (by rw[d,c])) b h
def Zet(X:K.In s.heap)(I:t_ s.heap x P C mA)(a:plainGet K C W=ar)
  (g:PySem.W.findIn K (.ref C) W=O (O (.ref f)))(d:isFn K (.ref f)=ar)(c:mA W=aF)(h:Q (.ref f,[.ref x]) s):
  wpAny (model T w) A (getMethod (.ref x) W i) Q E s:=by
 obtain⟨b,J,e⟩:=I.look;exact PySem.W.method_fn X J (xc a).1 (xc a).2 g (beq_iff_eq.mp d) (by show(lookIn W b).map (·.isSome)=O a_;rw[e,c];rfl) h
def ZfY{d:Z af}{Q:Unit->bU->Prop}(X:K.In s.heap)(I:t_ s.heap x P C mA)
  (n:PySem.W.findIn K (.ref C) "__setattr__"=O (O (.builtin "object.__setattr__")))(o:plainOver K C=ar)(l:takerIn K C W=O aF)(p:hasDictIn K C=ar)
  (k:PySem.Within mA d)(m:d.length<=sizeLine)
  (h:∀a,t_ a x P C (λy=>if y=W then O v else mA y)->Heap.SameBut P s.heap a->Q () {s with heap:=a,toks:=s.toks+2}):
  wpAny (model T w) A (setAttr (.ref x) W v) Q E s:=by
 obtain⟨t,J,z⟩:=I.look;refine set_plain X J n (PySem.W.osa_open X J o l λb=>?_);obtain⟨B,q,r⟩:=tc p;refine bg (cG (bg (bg (sH I.obj (bg (PySem.W.Looks.here (PySem.W.looks_clsIn X q) ?_))))));rw[r];refine cG (bg (cG (bg (wh I.ns λa e c=>?_))));obtain⟨u,F,D,j,i,g⟩:=e.count (uS W v k);exact bg (va j (by exact i▸vi (Yy g (by rw[Wh];exact Nat.add_le_add m (by decide)))) (cG (h _ ⟨(c.2 _ (ib I.ne)).trans I.obj,e,I.ne⟩ c)))
def Zeu{R:Result->bU->Prop}{b:Z a7}{c:Z (af×a7)}(X:K.In s.heap)(e:makesIn K C=ar)
  (i:PySem.W.findIn K (.ref C) "__init__"=O (O (.ref f)))(j:typeIn K (.ref f)=O (.type "function"))
  (h:codeAny (model T w) (A.under (.builtin "type.__call__" ⟨.ref C::b,c⟩)) (.call (.ref f) ⟨.ref (s.heap.objs.size+1)::b,c⟩) (PySem.W.InitBack (s.heap.objs.size+1) R)
   {s with heap:=(s.heap.push emptyDict).push (instObj C s.heap.objs.size)}):
  codeAny (model T w) A (.call (.ref C) ⟨b,c⟩) R s:=by
 obtain⟨k,g,d,t,os⟩:=s;exact PySem.W.make_core (PySem.W.makes_of X e) (PySem.W.looks_findIn X i) (λa=>PySem.W.bind_fn X a j) (.inl rfl) h
end
def cR(f:af)(v:V):Z (af×V)->Z (af×V)
 |[]=>[(f,v)]
 |(g,x)::r=>if g=f then(g,v)::r else(g,x)::cR f v r
theorem F2(f g:af)(v:V):∀fs:Z (af×V),(cR f v fs).lookup g=if g=f then O v else fs.lookup g
 |[]=>by
  show List.lookup g [(f,v)]=_
  grind
 |(k,x)::r=>by
  have a:=F2 f g v r;rw[show cR f v ((k,x)::r)=(if k=f then(k,v)::r else(k,x)::cR f v r) from rfl]
  grind
theorem x8(f:af)(v:V):∀fs:Z (af×V),f∈(cR f v fs).map (·.1)/\∀g,g∈fs.map (·.1)->g∈(cR f v fs).map (·.1)
 |[]=>⟨by simp[cR],λg h=>by simp at h⟩
 |(k,x)::r=>by
  obtain⟨b,a⟩:=x8 f v r;rw[show cR f v ((k,x)::r)=(if k=f then(k,v)::r else(k,x)::cR f v r) from rfl]
  grind
theorem F3(f:af)(v:V):∀fs:Z (af×V),(cR f v fs).length<=fs.length+1
 |[]=>by simp[cR]
 |(k,x)::r=>by
  have a:=F3 f v r;rw[show cR f v ((k,x)::r)=(if k=f then(k,v)::r else(k,x)::cR f v r) from rfl]
  (split<;>simp_all)
theorem eR.some_of(r:eR (O v) o):∃u,o=O u/\RelV v u:=by
 cases o with
 |none=>exact(r).elim
 |some u=>exact⟨u,rfl,r⟩
theorem eR.none_of(r:eR aF o):o=aF:=by
 cases o with
 |none=>rfl
 |some u=>exact(r).elim
theorem OY(r:RelV v u):handedIn u=ar:=by
 cases v with
 |aC=>cases(r);rfl
 |bl b=>cases(r);rfl
 |int i=>obtain⟨t,e⟩:=(show ∃t,u=Value.int i t from r);cases e;rfl
 |str x=>obtain⟨t,e⟩:=(show ∃t,u=Value.str x t from r);cases e;rfl
 |kg b=>obtain⟨t,e⟩:=(show ∃t,u=Value.bytes b t from r);cases e;rfl
 |uk b=>obtain⟨t,e⟩:=(show ∃t,u=Value.float b t from r);cases e;rfl
 |ref a=>cases(r);rfl
 |ty n=>cases(r);rfl
def Bf(i:dv P w H h)(e:H a=O (.ins C c fs)):∃b,t_ h a c C b/\(∀f,eR (fs.lookup f) (b f))/\PySem.Within b (fs.map (·.1))/\fs.length<=1000/\H c=O (.own a):=by
 obtain⟨d,z,ne,g,b,n,r,q⟩:=(i a _ e);exact⟨b,⟨g,n,ne⟩,r,q,z,d⟩
structure gq(K:ah)(C:U):Prop where
 pg:plainGet K C Str.empty=ar
 hd:hasDictIn K C=ar
 po:plainOver K C=ar
 sa:PySem.W.findIn K (.ref C) "__setattr__"=O (O (.builtin "object.__setattr__"))
def gq.get{K:ah}(c:gq K C)(f:af):plainGet K C f=ar:=c.pg
def dw(K:ah)(C:U)(f:af):Prop:=PySem.W.findIn K (.ref C) f=O aF
def dw.Zi2{K:ah}(n:dw K C f):takerIn K C f=O aF:=by
 unfold takerIn;rw[n];rfl
structure Meth(K:ah)(C:U)(m:af)(f:U):Prop where
 at_:PySem.W.findIn K (.ref C) m=O (O (.ref f))
 fn:isFn K (.ref f)=ar
 kp:keepIn K (.ref f)=ar
def ZcB(I:Inv X pins σ H s)(e:H a=O (.ins C m fs))(c:gq X.K C)(n:dw X.K C f)(l:fs.lookup f=O v)
  (h:∀u g,Inv X pins σ H g->RelV v u->Q u g):wpAny X.md A (getAttr (.ref a) f b) Q E s:=by
 obtain⟨k,d,r,_,_,_⟩:=Bf I.ay e;obtain⟨u,j,i⟩:=eR.some_of (by exact l▸r f);exact get_map I.cA d (c.get f) c.hd n j (OY i) (h u _ (I.tok _) i)
def GL(I:Inv X pins σ H s)(e:H a=O (.ins C i fs))(c:gq X.K C)(k:Meth X.K C m g)(l:fs.lookup m=aF)
  (h:Q (.ref g,[.ref a]) s):wpAny X.md A (getMethod (.ref a) m d) Q E s:=by
 obtain⟨f,b,r,_,_,_⟩:=Bf I.ay e;exact Zet I.cA b (c.get m) k.at_ k.fn (eR.none_of (by exact l▸r m)) h
def Oo(I:Inv X pins σ H s)(e:H a=O (.ins C x fs))(c:gq X.K C)(n:dw X.K C f)(F:fs.length<1000)(B:RelV y u)
  (h:∀k,Inv X pins σ (upd H a (.ins C x (cR f y fs))) k->Q () k):wpAny X.md A (setAttr (.ref a) f u) Q E s:=by
 obtain⟨D,d,r,j,_,p⟩:=Bf I.ay e;have m:(fs.map (·.1)).length<=sizeLine:=by rw[Ya,dg];exact ro (nA F (by decide))
 refine ZfY I.cA d c.sa c.po n.Zi2 c.hd j m λG i l=>h _ (I.write (by exact e▸hY) (.inr p) (λb q v z=>(l.2 b v).trans z) (let⟨o,_,_,w,_⟩:=i.ns;⟨o,w⟩) ⟨by rwa[aN d.ne],?_,d.ne,i.obj,_,i.ns,λg=>?_,λg t=>?_⟩);·have:=F3 f y fs;exact k8 this (t5 F)
 ·rw[F2];by_cases q:g=f;·rwa[bS q,bS q]
  ·grind
 ·by_cases q:g=f;·exact q▸(x8 f y fs).1
  ·refine(x8 f y fs).2 g (j g λz=>t ?_)
   grind
def Inv.made(I:Inv X pins σ H s):Inv X pins σ (upd (upd H s.heap.objs.size (.own (s.heap.objs.size+1))) (s.heap.objs.size+1) (.ins C s.heap.objs.size []))
  {s with heap:=(s.heap.push emptyDict).push (instObj C s.heap.objs.size)}:=by
 have c:(s.heap.push emptyDict).get? s.heap.objs.size=O emptyDict:=Yv s.heap rfl;have g:((s.heap.push emptyDict).push (instObj C s.heap.objs.size)).get? (s.heap.objs.size+1)=O (instObj C s.heap.objs.size):=by
  have:=Yv (s.heap.push emptyDict) (o:=instObj C s.heap.objs.size) rfl
  rwa [zk] at this
 have f:(s.heap.push emptyDict).Ns s.heap.objs.size (λ_=>aF):=⟨emptyDict,#[],_,c,rfl,(λe d=>absurd d QS),λ_=>rfl⟩;have h:=I.laid (a:=s.heap.objs.size) (o:=.own (s.heap.objs.size+1)) (h':=s.heap.push emptyDict) (t':=s.toks) (λb u q=>Yb _ q) (Yh _) ⟨_,c⟩;refine h.laid (λb u q=>Yb _ q) (CY (zk _ _)) ?_;have ne:s.heap.objs.size≠s.heap.objs.size+1:=Y0 (Jx _);refine⟨by rw[aN ne,aT],Yx _,ne,g,λ_=>aF,(M_ f).at λ o=>Yb _,λ_=>hY,λ y=>absurd rfl⟩
def Q_(a:attributeBase e f env (eval e env)=eval e env)
  (h:wpAny (model prog w) A (eval e env) (λo b=>wpAny (model prog w) A (getAttr o f ar) Q E b) E s):wpAny (model prog w) A (eval (.Attribute e f pos) env) Q E s:=
 Attribute_any_ h (by rw[arm_eval_Attribute,a])
inductive SG(K:ah)(f:af)(Q:VK)(x:V)(b:Hp):Prop
 |mk (a C c fs v) (j:x=.ref a) (i:b a=O (.ins C c fs)) (g:gq K C) (h:dw K C f) (e:fs.lookup f=O v) (d:Q v b):SG K f Q x b
def K6(K:ah)(b:TE)(f:af):TE:=λa H Q=>b a H λx c=>SG K f Q x c
def ZjT(K:ah)(g e:TE)(f:af):TS:=λD b H=>e b H λy h=>g b h λx d=>∃a C c fs,x=.ref a/\d a=O (.ins C c fs)/\gq K C/\dw K C f/\fs.length<1000/\
 D.nx b (upd d a (.ins C c (cR f y fs)))
def Zhu(m:PE X e i)(o:attributeBase e f X.env (eval e X.env)=eval e X.env):PE X (.Attribute e f pos) (K6 X.K i f):=by
 intro b s d H Q I h;refine Q_ o (az (m b s d H _ I h) λu B g=>?_);obtain⟨x,y,w,j,a,C,D,fs,v,p,r,c,n,l,q⟩:=g;subst p;obtain rfl:u=Value.ref a:=j;exact ZcB w r c n l λz A t k=>⟨v,y,t,k,q⟩
def yw(w:PE X o i)(t:PE X value g)(v:swapsWith value (O (.Attribute o f pos')) pos.line X.env=pure a_):PS X (.Assign [.Attribute o f pos'] value pos) (ZjT X.K i g f):=by
 intro b s d H D I h;refine uu (az (t b s d H _ I h) λu j e=>?_) v;obtain⟨y,G,F,k,q⟩:=e;refine az (w b j d G _ F q) λr L e=>?_;obtain⟨x,P,E,m,a,C,N,fs,z,A,c,n,l,p⟩:=e;subst z;obtain rfl:r=Value.ref a:=m;exact Oo E A c n l k λJ B=>⟨d,_,B,p⟩
section
variable {X:Cx}{W:aX}{σ:St}{H:Hp}{s:bU}{A:d_}{E:bb}{Q:bb}{c:a7}{b:cm}
inductive jK(K:ah)(H:Hp):V->a7->Prop where
 |aC:jK K H .aC (.type "NoneType")
 |bl (x:cm):jK K H (.bl x) (.type "bool")
 |int (i:Int):jK K H (.int i) (.type "int")
 |str (x:af):jK K H (.str x) (.type "str")
 |uk (x:UInt64):jK K H (.uk x) (.type "float")
 |lst {a:U} {f:Z V} (e:H a=O (.lst f)):jK K H (.ref a) (.type "list")
 |cH {a:U} {o:Obj} {f:Z V} (e:H a=O (.cH o (.lst f))):jK K H (.ref a) (.type "list")
 |tup {a:U} {f:Z V} (e:H a=O (.tup f)):jK K H (.ref a) (.type "tuple")
 |dK {a:U} {d:Z (Key×V)} (e:H a=O (.dK d)):jK K H (.ref a) (.type "dict")
 |dT {a:U} {d:Z (Z Key×V)} (e:H a=O (.dT d)):jK K H (.ref a) (.type "dict")
 |ins {a C g:U} {fs:Z (af×V)} (e:H a=O (.ins C g fs)) (j:gq K C) (h:PySem.W.findIn K (.ref C) "__class__"=O (O (.builtin "object.__class__")))
   (hn:specialIn K (.builtin "object.__class__") "__get__"=O (O (.builtin "getset_descriptor.__get__"))) (WG:takesIn K (.builtin "object.__class__")=O ar)
   (hm:PySem.W.mroIn K C (.type "object")=O ar):jK K H (.ref a) (.ref C)
theorem ZdA{x:V}{u t:a7}(I:Inv X W σ H s)(f:RelV x u)(r:jK X.K H x t)(e:kitOne X.K t c=O b)(h:∀v,Q (.bool b) {s with toks:=v}):
  wpAny X.md A (call (.builtin "isinstance") [u,c]) Q E s:=by
 cases r with
 |aC=>cases(show u=Value.none from f);exact kz PySem.W.kitx_none I.cA hY e (λz=>nomatch z) h
 |bl y=>cases(show u=Value.bool y from f);exact kz PySem.W.kitx_bool I.cA hY e (λz=>nomatch z) h
 |int i=>obtain⟨t,q⟩:=(show ∃t,u=Value.int i t from f);cases q;exact kz PySem.W.kitx_int I.cA hY e (λz=>nomatch z) h
 |str y=>obtain⟨t,q⟩:=(show ∃t,u=Value.str y t from f);cases q;exact kz PySem.W.kitx_str I.cA hY e (λz=>nomatch z) h
 |uk y=>obtain⟨t,q⟩:=(show ∃t,u=Value.float y t from f);cases q;exact kz PySem.W.kitx_float I.cA hY e (λz=>nomatch z) h
 |@lst a l g=>
  cases(show u=Value.ref a from f);obtain⟨_,_,n,_,j⟩:=(show cQ X.prog X.w H s.heap a (.lst l) from I.ay a _ g);exact kz kitx_list I.cA ⟨_,j,rfl⟩ e (λz=>nomatch z) h
 |@cH a w l g=>
  cases(show u=Value.ref a from f);obtain⟨_,_,_,n,_,j⟩:=(show cQ X.prog X.w H s.heap a (.cH w (.lst l)) from I.ay a _ g);exact kz kitx_list I.cA ⟨_,j,rfl⟩ e (λz=>nomatch z) h
 |@tup a l g=>
  cases(show u=Value.ref a from f);obtain⟨_,_,_,p⟩:=(show cQ X.prog X.w H s.heap a (.tup l) from I.ay a _ g);obtain⟨o,j,m,_⟩:=p;exact kz PySem.W.kitx_tuple I.cA ⟨o,j,m⟩ e (λz=>nomatch z) h
 |@dK a k g=>
  cases(show u=Value.ref a from f);obtain⟨_,_,N,_,p⟩:=(show cQ X.prog X.w H s.heap a (.dK k) from I.ay a _ g);obtain⟨o,F,G,j,m,_⟩:=p;exact kz kitx_dict I.cA ⟨o,j,m.1⟩ e (λz=>nomatch z) h
 |@dT a k g=>
  cases(show u=Value.ref a from f);obtain⟨_,_,l,_,o,F,G,j,m,_⟩:=(show cQ X.prog X.w H s.heap a (.dT k) from I.ay a _ g);exact kz kitx_dict I.cA ⟨o,j,m.1⟩ e (λz=>nomatch z) h
 |@ins a C T fs g cl D B L hm=>
  cases(show u=Value.ref a from f);obtain⟨R,d,_⟩:=Bf I.ay g;obtain⟨P,J,_⟩:=d.look;exact kz (PySem.W.kitx_own (cl.get _) cl.hd D B L hm) I.cA J e (λz=>nomatch z) h
end
structure cK(k:Nat)(A:d_):Prop where
 hd:A.handled=aF
 dp:A.depth+3*k+5<recursionLimit
 un:A.units+16*k+200<cLine
 gd:A.guards=O []
def cK.mono(r:cK k A)(h:j<=k):cK j A:=⟨r.hd,by have:=r.dp;omega,by have:=r.un;omega,r.gd⟩
def cK.deeper(r:cK (k+1) A)(a:Env):cK k (A.deeper a):=
 ⟨r.hd,by have:=r.dp;show A.depth+1+3*k+5<_;omega,by have:=r.un;show A.units+3+16*k+200<_;omega,r.gd⟩
def ZcC{A:d_}:(A.under (.builtin "type.__call__" ⟨.ref C::us,kw⟩)).depth=A.depth+1:=by
 rfl
def ZcD{A:d_}:(A.under (.builtin "type.__call__" ⟨.ref C::us,kw⟩)).units=A.units+1:=by
 rfl
def cK.make(r:cK (k+1) A)(C:U)(a:Z a7)(b:Z (af×a7)):cK k (A.under (.builtin "type.__call__" ⟨.ref C::a,b⟩)):=
 ⟨r.hd,by have:=r.dp;rw[ZcC];omega,by have:=r.un;rw[ZcD];omega,by first|exact r.gd|simpa[Around.under,Code.isGuard,Code.isFrame,guardIds] using r.gd⟩
def cK.depth(r:cK k A):A.depth<recursionLimit:=by have:=r.dp;omega
def cK.units(r:cK k A):A.units+64<cLine:=by have:=r.un;omega
def cK.l_(r:cK k A):A.units<cLine:=by have:=r.un;omega
def jL:TA:=λ_ H Q=>Q [] H
def ir(d:TE)(c:TA):TA:=λa H Q=>d a H λx f=>c a f λb e=>Q (x::b) e
section
variable {X:Cx}{e:cu}{W:Z cu}{T:TE}{t:TA}
def ae:PA X [] jL:=λ_ _ _ _ H Q I h=>n7 ⟨[],H,I,.nil,h⟩
def aa(n:PE X e T)(m:PA X W t)(l:iQ X e W:=by rfl):PA X (e::W) (ir T t):=by
 intro b a s c H Q I h;exact l▸lq (az (n a s c H _ I h) λu f ⟨x,r,p,i,k⟩=>az (m b a f c r _ p k) λv w z=>by obtain⟨d,q,o,g,j⟩:=z;exact⟨x::d,q,o,.cons i g,j⟩)
def ZjU(t:TA):TE:=λc H Q=>t c H λa b=>a.length<=sizeLine/\∀p,b p=aF->Q (.ref p) (upd b p (.lst a))
def yx(h:PA X W t):PE X (.List W pos) (ZjU t):=by
 intro a s f H Q I j;refine G2 (az (h pos a s f H _ I j) λi c e=>?_);obtain⟨g,k,d,r,z,q⟩:=e;refine⟨by rwa[←r.length],⟨.ref c.heap.objs.size,upd k c.heap.objs.size (.lst g),d.laid (λ b u=>Yb _) (Yh _) ?_,rfl,q _ (d.ay.fresh (Yh _))⟩⟩;exact⟨z,i,0,r,Yv _ rfl⟩
end
abbrev Sp:=Z V->Hp->VK->XK->Prop
abbrev kU:=Z Env->Hp->bU->XK->a7->bU->Prop
structure ua(P:c9)(w:cX)(K:ah)(mg:aR)(base:cS)(A:d_)(outer:Z Env)(s:bU)(H:Hp):Prop where
 frames:A.frames=O outer
 mod:Mod K mg base
 bs:∀b o,base.get? b=O o->s.heap.get? b=O o/\H b=aF
 nK:base.objs.size<=s.heap.objs.size
 j_:s.heap.FunFrames base outer
 qv:∀b∈cW outer,H b=aF
 ay:dv P w H s.heap
 bare:AllBare s.gens
def CE(a:Z Env)(P:c9)(w:cX)(H:Hp)(s:bU)(Q:VK)(u:a7)(b:bU):Prop:=
 ∃v c,b.os=s.os/\AllBare b.gens/\Un (cW a) [] H c s.heap b.heap/\dv P w c b.heap/\RelV v u/\Q v c
def CR(c:kU)(a:Z Env)(P:c9)(w:cX)(H:Hp)(s:bU)(Q:VK)(E:XK)(r:Result)(b:bU):Prop:=
 match r with
 |.ok (.ret u)=>CE a P w H s Q u b
 |.ok _=>False
 |.error e=>c a H s E e b
structure aE(P:c9)(w:cX)(K:ah)(mg:aR)(base:cS)(CX:kU)(k:Nat)(f:U)(fd:FuncData)(ps:Z af)(sp:Sp):Prop where
 len:∀vs H Q E,sp vs H Q E->vs.length=ps.length
 run:∀(A:d_) (outer:Z Env) (s:bU) (H:Hp) (args:Args) (us:Z a7) (vs:Z V) (Q:VK) (E:XK),cK k A->ua P w K mg base A outer s H->BindsTo s fd args (ps.zip us)->Vals vs us->sp vs H Q E->
  codeAny (model P w) A (.call (.ref f) args) (CR CX outer P w H s Q E) s
def ua.make{K:ah}(e:ua P w K b base A outer s H)(C:U)(a:Z a7)(c:Z (af×a7)):
  ua P w K b base (A.under (.builtin "type.__call__" ⟨.ref C::a,c⟩)) outer s H:=⟨by first|exact e.frames|(simpa[Around.under,Code.envs,Code.isFrame,pushEnvs] using e.frames),e.mod,e.bs,e.nK,e.j_,e.qv,e.ay,e.bare⟩
def Inv.B5(I:Inv X pins σ H s):ua X.prog X.w X.K X.mg X.base X.A X.stack s H:=
 ⟨I.ok.frames,I.ok.mod,I.bs,Yy I.ok.nK I.sz,I.stack,I.Ba,I.ay,I.bare⟩
def Inv.after(I:Inv X pins σ H s)(h:CE X.stack X.prog X.w H s Q u s'):EP X pins σ Q u s':=by
 obtain⟨v,e,os,a,un,c,r,q⟩:=h;obtain⟨i,g,d,t,f⟩:=s';obtain rfl:f=s.os:=os;exact⟨v,e,I.call un c a (λb z=>absurd z QS),r,q⟩
def BP(c:Sp)(d:Z V)(E:XK)(t:TA):TE:=λa H Q=>t a H λb e=>c (b++d) e Q E
def BQ(C:U)(m:af)(f:Sp)(h:Z V)(E:XK)(e:TE)(t:TA):TE:=λb H Q=>e b H λx c=>∃a g fs,x=.ref a/\c a=O (.ins C g fs)/\fs.lookup m=aF/\
 t b c λd i=>f (x::(d++h)) i Q E
def Ue(C:U)(e:Sp)(f:Z V)(E:XK)(t:TA):TE:=λc H Q=>t c H λd b=>∀x a,b x=aF->b a=aF->a≠x->
 e (.ref x::(d++f)) (upd (upd b a (.own x)) x (.ins C a [])) (λv g=>v=.aC/\Q (.ref x) g) E
def Binds(K:ah)(d:FuncData)(b:Z af)(c:Z a7):Prop:=
 ∀(s:bU) (a:Z a7),K.In s.heap->(a++c).length=b.length->BindsTo s d ⟨a,[]⟩ (b.zip (a++c))
def Binds.all{K:ah}(h:∀a:Z a7,a.length=b.length->bindArgs fd ⟨a,[]⟩=pure (b.zip a)):Binds K fd b []:=λs a _ c=>by
 rw[Y8] at c⊢;exact .of_eq (h a c)
def Passes(d:kU)(X:Cx)(E:XK):Prop:=∀(a:aX) (c:St) (H:Hp) (s:bU) (e:a7) (b:bU),Inv X a c H s->d X.stack H s E e b->X.xe e b
section
variable {X:Cx}{J:kU}{k:Nat}{f C:U}{G:FuncData}{ps:Z af}{L:Sp}{P:Z V}{R:Z a7}{E:XK}{x m:af}{p W T:Pos}{e o:cu}{N:Z cu}{D:TE}{t:TA}
theorem Bz(F:aE X.prog X.w X.K X.mg X.base J k f G ps L)(g:cK k X.A)(l:Binds X.K G ps R)(j:Vals P R)(d:Passes J X E)
  (I:Inv X pins σ H s)(r:Vals vs us)(h:L (vs++P) H Q E):wpAny X.md X.A (call (.ref f) us) (EP X pins σ Q) X.xe s:=by
 have b:=r.append j;have i:(us++R).length=ps.length:=by exact b.length▸F.len _ _ _ _ h
 refine mu (lN (F.run X.A X.stack s H ⟨us,[]⟩ (us++R) (vs++P) Q E g I.B5 (l s us I.cA i) b h) λr c a=>?_);cases r with
 |error e=>exact d pins σ H s e c I a
 |ok n=>
  cases n with
  |ret u=>exact I.after a
  |next=>exact False.elim a
  |brk=>exact False.elim a
  |cont=>exact False.elim a
def ZfZ(F:aE X.prog X.w X.K X.mg X.base J k f G ps L)(g:cK k X.A)(l:Gl X x)(i:X.mg x=O (.ref f))(j:keepIn X.K (.ref f)=ar)(v:Binds X.K G ps R)(u:Vals P R)(d:Passes J X E)
  (w:PA X (e::N) t)(y:(x==("__debug__":af))=a_:=by decide)(n:iQ X e N:=by rfl)(z:jj X W N:=by rfl):
  PE X (.Call (.Name x p) (e::N) [] W) (BP L P E t):=by
 intro a s c H Q I h;exact nV (sZ I l i (nq I.ok.mod.nJ j (az (w W a s c H _ I h) λB s1 D=>by obtain⟨A,H1,b,r,q⟩:=D;exact⟨b.cA,Bz F g v u d b r q⟩) n z) y)
def Zf0{B:Sem cm}(he:PE X o D)(c:gq X.K C)(i:Meth X.K C m f)(F:aE X.prog X.w X.K X.mg X.base J k f G ps L)(hr:cK k X.A)(hb:Binds X.K G ps R)(hd:Vals P R)(hx:Passes J X E)(ha:PA X (e::N) t)
  (dz:iQ X e N:=by rfl)(cj:jj X W N:=by rfl)
  (ht:eval (.Call (.Attribute o m T) (e::N) [] W) X.env=(do
   let g←eval o X.env
   standAt T.atName
   let(f,first)←holding [g] (getMethod g m B)
   callWith W f first (backTo W (starEach (e::N) X.env)) (backToKw W (keywordEach [] X.env))):=by rfl):
  PE X (.Call (.Attribute o m T) (e::N) [] W) (BQ C m L P E D t):=by
 intro b s d H Q I h;refine qp (az (he b s d H _ I h) λu y v=>?_) ht;obtain⟨x,H1,n,z,a,dx,fs,ex,ea,l,q⟩:=v;subst ex;obtain rfl:u=Value.ref a:=z;refine GL n ea c i l ?_;refine nq I.ok.mod.nJ i.kp (az (ha W b y d H1 _ n q) λus s2 p=>?_) dz cj;obtain⟨w,H2,j,r,A⟩:=p;refine⟨j.cA,?_⟩;exact Bz (vs:=.ref a::w) F hr hb hd hx j (.cons rfl r) A
def Zev{v:Sem cm}(A:PE X o D)(c:gq X.K C)(i:Meth X.K C m f)(F:aE X.prog X.w X.K X.mg X.base J k f G ps L)(z:cK k X.A)(hb:Binds X.K G ps R)(B:Vals P R)(w:Passes J X E)
  (y:eval (.Call (.Attribute o m T) [] [] W) X.env=(do
   let g←eval o X.env
   standAt T.atName
   let(f,first)←holding [g] (getMethod g m v)
   callWith W f first (backTo W (starEach [] X.env)) (backToKw W (keywordEach [] X.env))):=by rfl):
  PE X (.Call (.Attribute o m T) [] [] W) (BQ C m L P E D jL):=by
 intro b s j H Q I h;refine qp (az (A b s j H _ I h) λu s1 n=>?_) y;refine gG λZG zg=>?_;obtain⟨x,H1,d,r,a,dx,fs,ex,ea,l,q⟩:=n;refine zg ?_;subst ex;obtain rfl:u=Value.ref a:=r;refine GL d ea c i l ?_;exact PySem.W.callWith_K0 d.cA i.kp (Bz (vs:=[.ref a]) F z hb B w d (.cons rfl .nil) q)
structure Mk(K:ah)(C f:U):Prop where
 makes:makesIn K C=ar
 init:PySem.W.findIn K (.ref C) "__init__"=O (O (.ref f))
 fn:isFn K (.ref f)=ar
 kp:keepIn K (.ref C)=ar
theorem Zew(a:Mk X.K C f)(F:aE X.prog X.w X.K X.mg X.base J k f G ps L)(y:cK (k+1) X.A)(B:Binds X.K G ps R)(A:Vals P R)
  (w:Passes J X E)(I:Inv X pins σ H s)(r:Vals g us)
  (h:∀x c,H x=aF->H c=aF->c≠x->L (.ref x::(g++P)) (upd (upd H c (.own x)) x (.ins C c [])) (λv H2=>v=.aC/\Q (.ref x) H2) E):
  wpAny X.md X.A (call (.ref C) us) (EP X pins σ Q) X.xe s:=by
 have j:=h (s.heap.objs.size+1) s.heap.objs.size (I.ay.fresh (wB _)) (I.ay.fresh (Yh _)) (Y0 (Jx _));have d:=Inv.made (C:=C) I;have i:Vals (V.ref (s.heap.objs.size+1)::(g++P)) (Value.ref (s.heap.objs.size+1)::(us++R)):=.cons rfl (r.append A);have z:(Value.ref (s.heap.objs.size+1)::us++R).length=ps.length:=by
  have e:=i.length;rw[F.len _ _ _ _ j] at e;exact e.symm
 refine mu (Zeu I.cA a.makes a.init (beq_iff_eq.mp a.fn) (lN (F.run _ X.stack _ _ ⟨Value.ref (s.heap.objs.size+1)::us,[]⟩ (Value.ref (s.heap.objs.size+1)::(us++R)) _ _ E (y.make C us [])
  (d.B5.make C us []) (B _ (Value.ref (s.heap.objs.size+1)::us) d.cA z) i j) λr l b=>?_))
 cases r with
 |error e=>exact w pins σ _ _ e l d b
 |ok fl=>
  cases fl with
  |ret u=>
   obtain⟨v,H',I3,n,ev,q⟩:=d.after b;subst ev;exact⟨n,⟨V.ref (s.heap.objs.size+1),H',I3,rfl,q⟩⟩
  |next=>exact False.elim b
  |brk=>exact False.elim b
  |cont=>exact False.elim b
def Zf1(a:Mk X.K C f)(F:aE X.prog X.w X.K X.mg X.base J k f G ps L)(i:cK (k+1) X.A)(l:Gl X x)(j:X.mg x=O (.ref C))(v:Binds X.K G ps R)(u:Vals P R)(g:Passes J X E)
  (w:PA X (e::N) t)(y:(x==("__debug__":af))=a_:=by decide)(n:iQ X e N:=by rfl)(z:jj X W N:=by rfl):
  PE X (.Call (.Name x p) (e::N) [] W) (Ue C L P E t):=by
 intro b s d H Q I h;exact nV (sZ I l j (nq I.ok.mod.nJ a.kp (az (w W b s d H _ I h) λB s1 D=>by obtain⟨A,H1,c,r,q⟩:=D;exact⟨c.cA,Zew a F i v u g c r q⟩) n z) y)
end
structure aP(N P:Z af)(sc:Scope):Prop where
 kind:sc.kind=.function
 co:sc.isCoroutine=a_
 gen:sc.isGenerator=a_
 nd:N.Nodup
 pre:N.take P.length=P
 par:∀x∈P,sc.names.lookup x=O .local\/sc.names.lookup x=O .cell
 Zhv:∀y∈sc.names,y.2≠.free
theorem OZ{a:af->bw NameKind}{x:af}:∀{binds:Z (af×a7)} {m:aR},(∀v,(x,v)∉binds)->bindL a binds m x=m x
 |[],_,_=>rfl
 |(n,v)::r,m,h=>by
  unfold bindL;rw[OZ λw b=>h w (Yw _ b)];split;·grind
  ·rfl
theorem O0{a:af->bw NameKind}{x:af}:∀{binds:Z (af×a7)} {m:aR},(∀v,(x,v)∉binds)->bindC a binds m x=m x
 |[],_,_=>rfl
 |(n,v)::r,m,h=>by
  unfold bindC;rw[O0 λw b=>h w (Yw _ b)];split;·rfl
  ·grind
theorem O1{a:af->bw NameKind}{x:af}{v:a7}:∀{P:Z af} {b:Z a7} {i:Nat} {m:aR},P.Nodup->P[i]?=O x->b[i]?=O v->a x=O .local->
  bindL a (P.zip b) m x=O v
 |[],_,_,_,_,h,_,_=>by simp at h
 |_::_,[],_,_,_,_,h,_=>by simp at h
 |p::P,w::b,0,m,e,d,c,f=>by
  simp at d c;subst d;subst c;show bindL a ((p,w)::P.zip b) m p=_;unfold bindL;rw[OZ λv g=>(Y2.mp e).1 (L4 g).1,bS f];simp
 |p::P,w::b,i+1,m,e,d,c,f=>by
  unfold bindL;exact O1 (Y2.mp e).2 (by simpa using d) (by simpa using c) f
theorem O2{a:af->bw NameKind}{x:af}{v:a7}:∀{P:Z af} {b:Z a7} {i:Nat} {m:aR},P.Nodup->P[i]?=O x->b[i]?=O v->a x≠O .local->
  bindC a (P.zip b) m x=O v
 |[],_,_,_,_,h,_,_=>by simp at h
 |_::_,[],_,_,_,_,h,_=>by simp at h
 |p::P,w::b,0,m,e,d,c,f=>by
  simp at d c;subst d;subst c;show bindC a ((p,w)::P.zip b) m p=_;unfold bindC;rw[O0 λv g=>(Y2.mp e).1 (L4 g).1,bt f];simp
 |p::P,w::b,i+1,m,e,d,c,f=>by
  unfold bindC;exact O2 (Y2.mp e).2 (by simpa using d) (by simpa using c) f
def start(N:Z af)(a:Z V):St:=a.map O++List.replicate (N.length-a.length) aF
def kN(g:kU)(P:c9)(w:cX)(K:ah)(mg:aR)(base:cS)(N:Z af)(b:af)(a:Scope)(f:U)(c:a7)(A:d_)(outer:Z Env)(s:bU)(H:Hp)(E:XK):Cx where
 prog:=P
 w:=w
 K:=K
 mg:=mg
 base:=base
 A:=A.deeper (envOfC b a s.heap.objs.size f c)
 N:=N
 di:=s
 mD:=H
 env:=envOfC b a s.heap.objs.size f c
 outer:=outer
 stack:=envOfC b a s.heap.objs.size f c::outer
 ex:=[]
 calm:=ar
 fn:=λ_=>ar
 pn:=[]
 xe:=λe h=>wpAny (model P w) (A.deeper (envOfC b a s.heap.objs.size f c)) (leaving (envOfC b a s.heap.objs.size f c) e) (λ_ d=>g outer H s E e d) (λi d=>g outer H s E i d) h
def PN{a:Scope}(h:a.names.lookup x=O .cell):∃c,(cellsFrom n a.names []).lookup x=O c:=by
 exact Jp.mp (WH a.names n [] (.inl h))
theorem ZdB{K:ah}
  (d:aP N l scope)(Q:A.handled=aF)(g:ua P w K C base A outer s H)(L:m.length=l.length)(r:Vals m us)
  (x:InCallC s s.heap.objs.size (bindL (envOfC qual scope s.heap.objs.size f cd).kindOf (l.zip us) λ_=>aF) (cellsFrom (s.heap.objs.size+1) scope.names []) (bindC (envOfC qual scope s.heap.objs.size f cd).kindOf (l.zip us) λ_=>aF) s1):
  Inv (kN T P w K C base N qual scope f cd A outer s H E) [] (start N m) H s1:=by
 have cj:l.length<=N.length:=by have:=d6 List.length d.pre;rw[We] at this;omega
 obtain⟨B,W,rfl,F⟩:=x.done;have t:∀b:U,b∉(kN T P w K C base N qual scope f cd A outer s H E).ex:=λb z=>absurd (show b∈([]:Z U) from z) QS;refine⟨⟨g.mod,d.kind,rfl,rfl,Yh _,λy z c B o=>?_,λy j=>?_,λy c _ h=>?_,λ_=>Q,Around.frames_deeper g.frames,.inr ⟨rfl,rfl⟩,λb z=>absurd z (t b),g.bs,g.nK,λb _ _=>t b,λb z=>absurd z (t b),g.j_,g.qv⟩,
  rfl,g.bare,Un.kept F,⟨_,x.toInCall.ns,λi y v B o X=>?_⟩,λy c h=>⟨_,x.cell y c h⟩,g.ay.fresh (Yh _),λy c h=>?_,λp n=>absurd (show p∈([]:aX) from n) QS,g.ay.kept F,?_⟩
 ·exact name_of_addr x.apart (pE B) (pE o)
 ·have j:=j;rcases j with j|j;·exact PN j
  ·exact absurd rfl (d.Zhv _ (pE j))
 ·exact J1 (x.above y c (pE h))
 ·have G:i<m.length:=by
   unfold start at o
   grind
  have R:m[i]?=O v:=by
   unfold start at o;rw[Wa (by simpa using G),Yi] at o;cases e:m[i]? with
   |none=>simp_all
   |some a=>simp_all
  obtain⟨u,D,J⟩:=r.get R;have n:l[i]?=O y:=by
   rwa[←d.pre,zB (i2 G (l3 L))]
  have I:l.Nodup:=by exact d.pre▸d.nd.sublist (List.take_sublist _ _)
  refine⟨u,J,?_⟩;rcases d.par y (Yj n) with k|k;·exact .inl ⟨k,O1 I n D k⟩
  ·obtain⟨c,e⟩:=PN k;refine .inr ⟨.inl k,c,e,?_⟩;have q:=x.cell y c e;rw[O2 I n D (by show scope.names.lookup y≠_;rw[k];decide)] at q;exact q
 ·exact g.ay.fresh (J1 (x.above y c (pE h)))
 ·unfold start;show _=N.length
  simp_all
theorem Kx{T:kU}{P:c9}{w:cX}{K:ah}{L:aR}{i:cS}{k:Nat}{f:U}{m g:af}{h:Arguments}{j:Z cb}{c:Scope}{dV kV F pm z ct oc:a7}{an od:bw U}
  {iR:c8 (bw a7)}{N G:Z af}{sp:Sp}(lk:K.lookup f=O ⟨oc,od,.func (fnOf m g h j c dV kV F pm an z ct),iR⟩)(fS:codeIn K z g=ar)(a:aP N G c)
  (C:∀l H Q E,sp l H Q E->l.length=G.length)
  (qg:∀(A:d_) (d:Z Env) (s:bU) (H:Hp) (l:Z V) (Q:VK) (E:XK),cK k (A.deeper (envOfC g c s.heap.objs.size f z))->sp l H Q E->
   ∃t,fR (kN T P w K L i N g c f z A d s H E) j t/\t {nx:=λ_ p=>Q .aC p,rt:=Q} (start N l) H):
  aE P w K L i T (k+1) f (fnOf m g h j c dV kV F pm an z ct) G sp:=by
 refine⟨C,λA d s H args us l Q E hr D hb r mI=>?_⟩;have hl:=C _ _ _ _ mI;have KX:K.In s.heap:=D.mod.nJ.keeps λb o e=>(D.bs b o e).1;have X:s.heap.NoLimit:=D.mod.nolimit.keeps λb o e=>(D.bs b o e).1;have Zi3:∀y∈G.zip us,c.names.lookup y.1=O .local\/(c.names.lookup y.1=O .cell/\((cellsFrom (s.heap.objs.size+1) c.names []).lookup y.1).isSome=ar):=λ⟨n,v⟩ hy=>by
  rcases a.par n (L4 hy).1 with q|q;·exact .inl q
  ·exact .inr ⟨q,WH _ _ _ (.inl q)⟩
 refine codeAny_call_function hr.depth (KX _ _ lk) rfl a.co a.gen rfl (PySem.W.codeRec_of KX fS) (hb _ _ _ _ ?_);refine wpAny_newFunctionEnv_cells a.kind Zi3 λenv he s1 x=>?_;subst he;refine⟨X.keeps x.toInCall.keep,codeAny_func ?_⟩;obtain⟨t,ht,hq⟩:=qg A d s H l Q E (hr.deeper _) mI;have I:Inv (kN T P w K L i N g c f z A d s H E) [] (start N l) H s1:=ZdB a hr.hd D hl r x;refine dD (ht [] s1 (start N l) H _ I hq) (λfl s' B=>?_) λe s' B=>B;have fin:∀{R:St} {p:Hp} {v:V} {u:a7},Inv (kN T P w K L i N g c f z A d s H E) [] R p s'->RelV v u->Q v p->CE d P w H s Q u s':=
  λ{R p v u} J W q=>⟨v,p,J.os,J.bare,J.base,J.ay,W,q⟩
 cases fl with
 |ret u=>
  obtain⟨v,R,p,J,W,q⟩:=B;exact fin J W q
 |next=>
  obtain⟨R,p,J,q⟩:=B;exact fin (v:=V.aC) (u:=Value.none) J rfl q
 |brk=>
  obtain⟨_,_,_,q⟩:=B;exact False.elim q
 |cont=>
  obtain⟨_,_,_,q⟩:=B;exact False.elim q
section
variable {X:Cx}{x:af}{p W:Pos}{e:cu}{R:Z cu}{t:TA}{id T:String}{r:Z V->Hp->VK->Prop}
def nN(r:Z V->Hp->VK->Prop)(t:TA):TE:=λa H Q=>t a H λb c=>r b c Q
def fJ(o:df X (.builtin id) r)(m:Gl X x)(l:X.mg x=aF)(j:bootBuiltins x=O (.builtin id))(q:PA X (e::R) t)(k:x≠"__name__":=by decide)(u:(x==("__debug__":af))=a_:=by decide)
  (n:iQ X e R:=by rfl)(v:jj X W R:=by rfl):PE X (.Call (.Name x p) (e::R) [] W) (nN r t):=by
 intro a s b H Q I h;refine nV (yu I m l j ?_ k u);exact zd (az (q W a s b H _ I h) λd f z=>by obtain⟨c,y,w,g,i⟩:=z;exact o a f b y c d Q w g i) n v
def fh(o:df X (.type T) r)(m:Gl X x)(l:X.mg x=aF)(j:bootBuiltins x=O (.type T))(q:PA X (e::R) t)(k:x≠"__name__":=by decide)(u:(x==("__debug__":af))=a_:=by decide)
  (n:iQ X e R:=by rfl)(v:jj X W R:=by rfl):PE X (.Call (.Name x p) (e::R) [] W) (nN r t):=by
 intro a s b H Q I h;refine nV (yu I m l j ?_ k u);exact zj (az (q W a s b H _ I h) λd f z=>by obtain⟨c,y,w,g,i⟩:=z;exact o a f b y c d Q w g i) n v
end
end L2
namespace HT
open PySem PyProof.Rows
section
open PySem.SeqAt
open PySem.AutoSeq1 (wpAny_loadPart')
open PySem.MeetsSeq PySem.MeetsSeq2 PySem.MeetsSeq3
end
section
variable {X:c9}{w:cX}{A:d_}{E:bb}{s:bU}
def Zf2{t b:U}{c a:Z a7}{Q:bb}(u:IsTup s.heap t c.toArray)(x:IsTup s.heap b a.toArray)(k:c≠[])
  (z:a=[]->Q (.ref t) s)(y:a≠[]->Q (.ref s.heap.objs.size) {s with heap:=s.heap.push {cls:=.type "tuple",data:=.seq (c++a).toArray}})
  (v:c.length+a.length<=sizeLine):wpAny (model X w) A (binaryOp .Add (.ref t) (.ref b)) Q E s:=by
 obtain⟨⟨B,m,o,i⟩,g,l,n,hd⟩:=id u;obtain⟨⟨C,r,data2,q⟩,h,p,j,d⟩:=id x;simp only at l hd p d;subst l hd p d;have e:c.toArray++a.toArray=(c++a).toArray:=QS
 by_cases f:a=[]
 ·exact concat_meets ⟨_,g,rfl⟩ ⟨_,h,rfl⟩ NG seq_tuple_add V2 zE (zA _ _)
   (tuple_addW1 t b c.toArray a.toArray n j m r i q (by simpa using k) (by simp[f])) ⟨g,h,z f⟩
 ·refine concat_meets ⟨_,g,rfl⟩ ⟨_,h,rfl⟩ NG seq_tuple_add V2 zE (zA _ _)
   (tuple_addW2 t b c.toArray a.toArray n j m r i q (by simpa using k) (by simpa using f) (by rwa[Yt,Yt])) ⟨g,h,?_⟩
  exact e▸y f
def iE(n d:Nat):bw Int->Nat
 |none=>d
 |some v=>if v<0 then(v+(n:Int)).toNat else min v.toNat n
def Zf3(n d k:Nat):iE n d (O (k:Int))=min k n:=by
 show(if(k:Int)<0 then((k:Int)+(n:Int)).toNat else min (k:Int).toNat n)=min k n;rfl
end
end HT
namespace L2
open PySem PySem.Spec PyProof.Rows
abbrev TO:=St->Hp->(bw Int->Hp->Prop)->Prop
def PO(X:Cx)(e:bw cu)(t:TO):Prop:=
 ∀(a:aX) (s:bU) (b:St) (H:Hp) (Q:bw Int->Hp->Prop),Inv X a b H s->t b H Q->
  wpAny X.md X.A (evalPart e X.env) (λu d=>∃o c,Inv X a b c d/\IsPart u o/\Q o c) X.xe s
def Zf4:TO:=λ_ H Q=>Q aF H
inductive Ra(Q:bw Int->Hp->Prop)(x:V)(a:Hp):Prop
 |mk (i) (c:x=.int i) (b:Q (O i) a):Ra Q x a
def Zi4(t:TE):TO:=λa H Q=>t a H λx b=>Ra Q x b
theorem intsAre_of:∀{a:Z a7},Vals (ns.map V.int) a->IntsAre a ns:=by
 induction ns with
 |nil=>intro a r;rw[L5] at r;cases r;exact .nil
 |cons n ns d=>
  intro a r;cases r with
  |cons c b=>
   obtain⟨t,e⟩:=c;subst e;exact .cons n t (d b)
section
variable {X:Cx}{R:TE}{lo W:bw cu}{P N:TO}
def Rb:PO X aF Zf4:=by
 intro a s b H Q I h;exact cG ⟨aF,H,I,.none,h⟩
def Rf(h:PE X e R):PO X (O e) (Zi4 R):=by
 intro a s b H Q I g;refine az (h a s b H _ I g) λu l c=>?_;obtain⟨x,k,j,d,f⟩:=c;obtain⟨i,rfl,q⟩:=f;obtain⟨t,rfl⟩:=d;exact⟨O i,k,j,.int i t,q⟩
def wC(X:Cx)(r:V->bw Int->bw Int->Hp->VK->Prop):Prop:=
 ∀(a:aX) (s:bU) (b:St) (H:Hp) (x:V) (v d c:a7) (lo W:bw Int) (e:U) (Q:VK),Inv X a b H s->RelV x v->s.heap.IsSliceOf e d c .none->IsPart d lo->IsPart c W->r x lo W H Q->
  ∃T id,typeLookup (.type T) "__getitem__"=pure (O (.builtin id))/\s.TypeIs v T/\wpAny X.md X.A (getItem v (.ref e)) (EP X a b Q) X.xe s
def tSl(r:V->bw Int->bw Int->Hp->VK->Prop)(R:TE)(P N:TO):TE:=λa H Q=>R a H λx d=>P a d λl c=>N a c λu b=>r x l u b Q
def PQ(B:wC X r)(E:PE X e R)(C:PO X lo P)(z:PO X W N):PE X (.Subscript e (.Slice lo W aF p2) pos) (tSl r R P N):=by
 intro a s c H Q I h;refine Subscript_ (az (E a s c H _ I h) λv m d=>?_);obtain⟨x,H1,I1,n,t⟩:=d;refine wpAny_Slice (az (C a m c H1 _ I1 t) λi k d=>?_);obtain⟨l,H2,L,y,p⟩:=d;refine az (z a k c H2 _ L p) λg f d=>?_;obtain⟨u,j,J,w,o⟩:=d;rw[evalPart_none];refine cG ?_;have G:Inv X a c j {f with heap:=f.heap.push {cls:=.type "slice",data:=.fields #[i,g,.none]}}:=J.kept λb ob q=>Yb _ q;obtain⟨T,id,F,A,D⟩:=B a {f with heap:=f.heap.push {cls:=.type "slice",data:=.fields #[i,g,.none]}} c j x v i g l u f.heap.objs.size Q G n (Heap.IsSliceOf.new ..) y w o;exact tail_any A F D QU
def qo(a:Z V)(lo W:bw Int):Z V:=(a.drop (HT.iE a.length 0 lo)).take (HT.iE a.length a.length W-HT.iE a.length 0 lo)
def N9(a:Z V)(lo W:bw Int):(qo a lo W).length<=a.length:=by
 unfold qo
 (simp;exact k8 (Qdy _ _) (Nat.sub_le _ _))
def Zi5(K:ah):R2:=λx y H Q=>∃a b d c,x=.ref a/\y=.ref b/\aB K H a d/\aB K H b c/\d≠[]/\d.length+c.length<=sizeLine/\
 (c=[]->Q (.ref a) H)/\(c≠[]->∀p,H p=aF->Q (.ref p) (upd H p (.tup (d++c))))
theorem Vals.IP(r:Vals xs us):us=[]↔xs=[]:=by
 cases r with
 |nil=>simp
 |cons _ _=>simp
def Zf5:cJ X (binaryOp .Add) (Zi5 X.K):=by
 rintro e s o H x y v u Q I g f ⟨a,b,q,p,rfl,rfl,n,m,l,A,i,h⟩;cases g;cases f;obtain⟨B,d,k,_⟩:=I.tuple n;obtain⟨t,c,j,_⟩:=I.tuple m;refine HT.Zf2 k j (λz=>l (d.IP.mp z)) (λz=>⟨.ref a,H,I,rfl,i (c.IP.mp z)⟩) (λz=>⟨.ref s.heap.objs.size,_,I.laid (λ b r=>Yb _) (Yh _) ?_,rfl,h (λw=>z (c.IP.mpr w)) _ (I.ay.fresh (Yh _))⟩) (by rwa[←d.length,←c.length]);exact⟨by rwa[Ye],_,d.append c,oA.new _ _⟩
end
def mJ(n:Nat)(i:Int):bw Nat:=if 0<=i then(if i<n then O i.toNat else aF) else if-(n:Int)<=i then O (i+n).toNat else aF
def dI{α:Type}(a:Z α)(i:Int):bw α:=(mJ a.length i).bind λj=>a[j]?
def IQ(h:mJ n i=O j):seqIndex? i n=O j/\j<n/\-(n:Int)<=i/\i<n:=by
 unfold mJ at h;by_cases b:0<=i
 ·rw[bS b] at h;by_cases a:i<n
  ·rw[bS a] at h;have e:=Yo h;exact⟨by rw[wQ b a,e],QO,QO,a⟩
  ·simp_all
 ·rw[bt b] at h;by_cases a:-(n:Int)<=i
  ·rw[bS a] at h;have e:=Yo h;exact⟨by rw[wx QO a,e],QO,a,QO⟩
  ·simp_all
theorem IS(h:dI xs i=O v):∃j,seqIndex? i xs.length=O j/\xs[j]?=O v/\j<xs.length/\-(xs.length:Int)<=i/\i<xs.length:=by
 unfold dI at h;cases e:mJ xs.length i with
 |none=>simp_all
 |some j=>
  obtain⟨d,c,b,a⟩:=IQ e
  simp_all
def fL{j:Nat}(h:xs[j]?=O v):dI xs (j:Int)=O v:=by
 have e:mJ xs.length (j:Int)=O j:=by
  unfold mJ
  grind
 unfold dI;rwa[e]
def Rg(b:cu):Prop:=∀o i,subscripted b a_ o i=operate [o,i] (getItem o i)
def jk(X:Cx)(r:R2):Prop:=
 ∀(c a:cu) (b:aX) (s:bU) (d:St) (H:Hp) (x y:V) (v u:a7) (Q:VK),Inv X b d H s->RelV x v->RelV y u->r x y H Q->
  subscripted a a_ v u=operate [v,u] (getItem v u)->wpAny X.md X.A (subscriptTail c a v u) (EP X b d Q) X.xe s
def WL(X:Cx)(id:String)(r:V->Z V->Hp->VK->Prop):Prop:=
 ∀(a:aX) (s:bU) (b:St) (H:Hp) (x:V) (c:Z V) (v:a7) (d:Z a7) (Q:VK),Inv X a b H s->RelV x v->Vals c d->r x c H Q->
  wpAny X.md X.A (call (.builtin id) (v::d)) (EP X a b Q) X.xe s
section
variable {X:Cx}{a b:cu}
def jk.or(h:jk X r)(l:jk X k):jk X (λx y H Q=>r x y H Q\/k x y H Q):=by
 intro c d e s f H x y v u Q I i g q j;rcases q with q|q;·exact h c d e s f H x y v u Q I i g q j
 ·exact l c d e s f H x y v u Q I i g q j
def Ug(l:jk X r)(n:PE X a f)(m:PE X b e)(k:Rg b):PE X (.Subscript a b pos) (jP r f e):=by
 intro c s d H Q I h;exact Subscript_ (K3 n m I h λv u g x y p o j i q=>l a b c g d p x y v u Q o j i q (k _ _))
inductive SH(K:ah)(x:V)(y:V)(H:Hp)(Q:VK):Prop
 |mk (p c i v) (h:x=.ref p) (g:y=.int i) (e:aq K H p c) (f:dI c i=O v) (d:Q v H):SH K x y H Q
def v_(K:ah):R2:=λx y H Q=>SH K x y H Q
inductive SI(K:ah)(x:V)(y:V)(H:Hp)(Q:VK):Prop
 |mk (p c i v) (h:x=.ref p) (g:y=.int i) (e:aB K H p c) (f:dI c i=O v) (d:Q v H):SI K x y H Q
def B6(K:ah):R2:=λx y H Q=>SI K x y H Q
inductive SJ(x:V)(y:V)(H:Hp)(Q:VK):Prop
 |mk (z i c) (h:x=.str z) (g:y=.int i) (e:z.length<=sizeLine) (f:dI z.cps.toList i=O c) (d:Q (.str ⟨#[c]⟩) H):SJ x y H Q
def Vb:R2:=λx y H Q=>SJ x y H Q
def IT:jk X (v_ X.K):=by
 intro d e c s o H x y v u Q I B A h l;obtain⟨p,N,i,z,rfl,rfl,C,D,q⟩:=h;cases B;obtain⟨t,rfl⟩:=A;obtain⟨L,r,f,P⟩:=I.list C;obtain⟨j,k,G,W,F,E⟩:=IS D;obtain⟨w,n,J⟩:=r.get G;have T:=r.length;have R:=tJ;have fin:EP X c o Q w s:=⟨z,H,I,J,q⟩;by_cases m:0<=i
 ·have g:i.toNat=j:=by
   rw[wQ m E] at k;exact Yo k
  exact item_listR f.isList m QO (by rw[g];simpa using n) fin l
 ·have g:(i+(L.toArray.size:Int)).toNat=j:=by
   rw[wx QO F] at k
   simp_all
  exact subscriptTail_builtinR (x:=w) f.isList.typeIs slot_list_getitem.lookup
   (wpAny_getItem_list_neg f.isList QO (by rw[Yt]<;>omega) QO (by rw[g];simpa using n) ⟨rfl,fin⟩) l
def SK:jk X (B6 X.K):=by
 intro c d f s C H x y v u Q I k g h l;obtain⟨p,D,i,z,rfl,rfl,m,n,q⟩:=h;cases k;obtain⟨t,rfl⟩:=g;obtain⟨P,r,e,E⟩:=I.tuple m;obtain⟨j,N,o,L,J,G⟩:=IS n;obtain⟨w,B,A⟩:=r.get o;have F:=tJ;exact subscriptTail_builtinR e.typeIs slot_tuple_getitem.lookup
  (getItem_tuple e QO QO (by rwa[Yt,←r.length]) (by simpa using B) ⟨rfl,⟨z,H,I,A,q⟩⟩) l
def yy:jk X Vb:=by
 intro d e f s A H x y v u Q I l k h m;obtain⟨z,i,c,rfl,rfl,C,o,q⟩:=h;obtain⟨t,rfl⟩:=l;obtain⟨B,rfl⟩:=k;obtain⟨j,g,w,E,r,p⟩:=IS o;have n:z.cps.toList.length=z.length:=by simp[Str.length]
 rw[n] at g r p;have D:=tJ;exact tail_any (oZ s z t) slot_str_getitem.lookup (getItem_str (by
  rw[(fb QO),(fb QO),wb]) (by rw[g];simpa using w) ⟨.str ⟨#[c]⟩,H,I.tok _,⟨_,rfl⟩,q⟩) m
def L6(K:ah):R2:=λx y H Q=>v_ K x y H Q\/B6 K x y H Q\/Vb x y H Q
def Zhw:jk X (L6 X.K):=IT.or (SK.or yy)
def ZcE(c:Z a7)(n j:Nat)(u:a7):Obj.mapSeq (·.setIfInBounds j u) {cls:=.type "list",data:=.seq c.toArray n}={cls:=.type "list",data:=.seq (c.set j u).toArray n}:=by
 simp[Obj.mapSeq]
def Inv.lst{c:aX}{g:St}{H:Hp}{s:bU}{p:U}{d:Z V}(I:Inv X c g H s)(h:H p=O (.lst d)):
  ∃(f:Z a7) (n:Nat),Vals d f/\s.heap.get? p=O {cls:=.type "list",data:=.seq f.toArray n}/\d.length<=sizeLine:=by
 obtain⟨z,f,n,r,e⟩:=I.ay p _ h
 simp_all
def Inv.Zhx{d:aX}{j:St}{H:Hp}{s:bU}{p:U}{m g:Z V}{l c:Z a7}{n i:Nat}{f:Obj->Obj}(I:Inv X d j H s)(h:H p=O (.lst m))
  (v:s.heap.get? p=O {cls:=.type "list",data:=.seq l.toArray n})(k:f {cls:=.type "list",data:=.seq l.toArray n}={cls:=.type "list",data:=.seq c.toArray i})(r:Vals g c)(o:g.length<=sizeLine)(t:Nat):
  Inv X d j (upd H p (.lst g)) {s with heap:=s.heap.update p f,toks:=t}:=by
 have e:(s.heap.update p f).get? p=O {cls:=.type "list",data:=.seq c.toArray i}:=by
  rw[Wk f v (by rw[k]<;>rfl),k]
 refine I.write (by rw[h];trivial) (.inl rfl) (λb u w q=>(Wg _ _ (ib w)).trans q) ⟨_,e⟩ ?_;exact⟨o,c,i,r,e⟩
def Zi6:V->V->V->Hp->(Hp->Prop)->Prop:=λo i v H Q=>∃p c k j,o=.ref p/\i=.int k/\H p=O (.lst c)/\mJ c.length k=O j/\Q (upd H p (.lst (c.set j v)))
def set_list:t8 X Zi6:=by
 rintro c s z H o i v G J u Q I C D B ⟨p,A,k,j,rfl,rfl,f,F,q⟩;cases C;obtain⟨t,rfl⟩:=D;obtain⟨x,n,r,d,E⟩:=I.lst f;obtain⟨m,N,l,h⟩:=IQ F;have g:=r.length;have L:=tJ;have y:Inv X c z (upd H p (.lst (A.set j v))) {s with heap:=s.heap.update p (Obj.mapSeq (·.setIfInBounds j u))}:=
  I.Zhx f d (ZcE x n j u) (r.set B j) (by rw[Jf];exact E) s.toks
 by_cases w:0<=k
 ·have e:k.toNat=j:=by
   rw[wQ w h] at m
   simp_all
  exact PySem.W.ki_setAt d w QO (by rw[Yt,←g];exact h) (by rw[e];exact⟨_,y,q⟩)
 ·have e:(k+(x.toArray.size:Int)).toNat=j:=by
   rw[wx QO l] at m
   simp_all
  exact PySem.W.ki_setBack d QO (by rw[Yt,←g];exact l) QO (by exact e▸⟨_,y,q⟩)
theorem Zba(c d:bw Int)(n:Nat):(sliceBounds c d aF n).1=((HT.iE n 0 c:Nat):Int)/\(sliceBounds c d aF n).2.1=((HT.iE n n d:Nat):Int)/\(sliceBounds c d aF n).2.2=1:=by
 refine⟨?_,?_,rfl⟩
 ·cases c with
  |none=>rfl
  |some i=>
   simp[sliceBounds,HT.iE]
   grind
 ·cases d with
  |none=>rfl
  |some i=>
   simp[sliceBounds,HT.iE]
   grind
def ZaQ(c:Z a7)(d e:bw Int):slicePick c.toArray d e aF=((c.drop (HT.iE c.length 0 d)).take (HT.iE c.length c.length e-HT.iE c.length 0 d)).toArray:=by
 obtain⟨h,g,f⟩:=Zba d e c.toArray.size;unfold slicePick;rw[h,g,f];simp only[sliceRange_one,pick_run]<;>rfl
def ZjV(K:ah):V->bw Int->bw Int->Hp->VK->Prop:=λx lo d H Q=>∃a c,x=.ref a/\aq K H a c/\∀p,H p=aF->Q (.ref p) (upd H p (.lst (qo c lo d)))
def Zf6:wC X (ZjV X.K):=by
 rintro e s n H x v p o lo g t Q I h m j i ⟨a,c,rfl,l,q⟩;cases h;obtain⟨w,r,f,k⟩:=I.list l;have d:=r.length;refine⟨"list",_,slot_list_getitem.lookup,f.isList.typeIs,wpAny_getItem_list_slice f.isList m j i .none QS ?_ (by rw[Yt]<;>omega)⟩;rw[ZaQ,←d];refine⟨.ref s.heap.objs.size,_,I.laid (λ b u=>Yb _) (Yh _) ?_,rfl,q _ (I.ay.fresh (Yh _))⟩;exact⟨Yy (N9 c lo g) k,_,0,(r.drop (HT.iE c.length 0 lo)).take (HT.iE c.length c.length g-HT.iE c.length 0 lo),Yv _ rfl⟩
def jG:V->cm
 |.aC=>ar
 |.bl _=>ar
 |.int _=>ar
 |.str _=>ar
 |_=>a_
def ko:V->V->cm
 |.aC,.aC=>ar
 |.bl a,.bl b=>a==b
 |.bl a,.int b=>(if a then 1 else 0)==b
 |.int a,.bl b=>a==(if b then 1 else 0)
 |.int a,.int b=>a==b
 |.str a,.str b=>a==b
 |_,_=>a_
theorem SM(e:RelV y u)(c:RelV x v)(g:jG y=ar)(f:jG x=ar):SeqAt.EqAt A s u v (ko y x):=by
 cases y with
 |aC=>
  cases e;cases x with
  |aC=>cases c;exact SeqAt.EqAt.same _
  |bl b=>cases c;exact SeqAt.EqAt.none_bool b
  |int b=>obtain⟨t,rfl⟩:=c;exact SeqAt.EqAt.none_int b t
  |str b=>obtain⟨t,rfl⟩:=c;exact SeqAt.EqAt.none_str b t
  |_=>exact absurd (f) Yq
 |bl a=>
  cases e;cases x with
  |aC=>cases c;exact SeqAt.EqAt.bool_none a
  |bl b=>cases c;exact SeqAt.EqAt.bool_bool a b
  |int b=>obtain⟨t,rfl⟩:=c;exact SeqAt.EqAt.bool_int a b t
  |str b=>obtain⟨t,rfl⟩:=c;exact SeqAt.EqAt.bool_str a b t
  |_=>exact absurd (f) Yq
 |int a=>
  obtain⟨d,rfl⟩:=e;cases x with
  |aC=>cases c;exact SeqAt.EqAt.int_none a d
  |bl b=>cases c;exact SeqAt.EqAt.int_bool a d b
  |int b=>obtain⟨t,rfl⟩:=c;exact r_ a d b t
  |str b=>obtain⟨t,rfl⟩:=c;exact QbG a d b t
  |_=>exact absurd (f) Yq
 |str a=>
  obtain⟨d,rfl⟩:=e;cases x with
  |aC=>cases c;exact SeqAt.EqAt.str_none a d
  |bl b=>cases c;exact SeqAt.EqAt.str_bool a d b
  |int b=>obtain⟨t,rfl⟩:=c;exact QbF a d b t
  |str b=>obtain⟨t,rfl⟩:=c;exact SeqAt.EqAt.str_str a d b t
  |_=>exact absurd (f) Yq
 |_=>exact absurd (g) Yq
def iS(x:V)(u:a7):cm:=match u with
 |.none=>ko .aC x
 |.bool b=>ko (.bl b) x
 |.int i _=>ko (.int i) x
 |.str z _=>ko (.str z) x
 |_=>a_
theorem SN(r:RelV y u)(f:jG y=ar):iS x u=ko y x:=by
 cases y with
 |aC=>cases r;rfl
 |bl b=>cases r;rfl
 |int i=>obtain⟨t,rfl⟩:=r;rfl
 |str z=>obtain⟨t,rfl⟩:=r;rfl
 |_=>exact absurd (f) Yq
theorem yi{x:V}:∀{c:Z V} {d:Z a7},Vals c d->c.all jG=ar->d.any (iS x)=c.any λy=>ko y x
 |_,_,.nil,_=>rfl
 |y::c,u::d,.cons r t,f=>by
  rw[Ju,Ws] at f;rw[J7,J7,SN r f.1,yi t f.2]
theorem yf(i:RelV x v)(k:jG x=ar):∀{d:Z V} {e:Z a7},Vals d e->d.all jG=ar->∀u∈e,SeqAt.EqAt A s u v (iS x u):=by
 intro d e h;induction h with
 |nil=>intro _ u c;cases c
 |cons r t j=>
  intro f g c;rw[Ju,Ws] at f;rcases Ys.mp c with rfl|c;·rw[SN r f.1];exact SM r i f.1 k
  ·exact j f.2 g c
def fD(x:V)(c:Z V):cm:=c.any λy=>ko y x
def zm(K:ah)(d:cm):R2:=λx y H Q=>∃p c,y=.ref p/\(aq K H p c\/aB K H p c)/\jG x=ar/\c.all jG=ar/\Q (.bl (if d then !fD x c else fD x c)) H
def ZdC:cJ X (compareOp .In) (zm X.K a_):=by
 rintro h s l H x y v u Q I g j ⟨p,m,rfl,c,i,fs,q⟩;cases j;rcases c with c|c
 ·obtain⟨d,r,e,k⟩:=I.list c;refine SeqAt.in_listAt (iS x) e.isList (λw f=>yf g i r fs w (by simpa using f)) ⟨.bl _,H,I,rfl,?_⟩;rw[show d.toArray.any (iS x)=d.any (iS x) by simp,yi r fs];exact q
 ·obtain⟨d,r,e,k⟩:=I.tuple c;refine SeqAt.in_tupleAt (iS x) e (λw f=>yf g i r fs w (by simpa using f)) ⟨.bl _,H,I,rfl,?_⟩;rw[show d.toArray.any (iS x)=d.any (iS x) by simp,yi r fs];exact q
def Zbb:cJ X (compareOp .NotIn) (zm X.K ar):=by
 rintro h s l H x y v u Q I g j ⟨p,m,rfl,c,i,fs,q⟩;cases j;rcases c with c|c
 ·obtain⟨d,r,e,k⟩:=I.list c;refine SeqAt.notIn_listAt (iS x) e.isList (λw f=>yf g i r fs w (by simpa using f)) ⟨.bl _,H,I,rfl,?_⟩;rw[show d.toArray.any (iS x)=d.any (iS x) by simp,yi r fs];exact q
 ·obtain⟨d,r,e,k⟩:=I.tuple c;refine SeqAt.notIn_tupleAt (iS x) e (λw f=>yf g i r fs w (by simpa using f)) ⟨.bl _,H,I,rfl,?_⟩;rw[show d.toArray.any (iS x)=d.any (iS x) by simp,yi r fs];exact q
def N4:df X (.builtin "len") (λh H Q=>∃p d,h=[.ref p]/\(aq X.K H p d\/aB X.K H p d)/\Q (.int d.length) H):=by
 rintro i s m H h n Q I r ⟨p,d,rfl,e,q⟩;obtain⟨u,rfl,j⟩:=vals1 r;cases j;have o:=tJ;rcases e with e|e
 ·obtain⟨l,f,g,k⟩:=I.list e;have c:=f.length;exact Calls.call_len_list g.isList (by simp only[Yt]<;>omega) ⟨.int d.length,H,I.tok _,⟨s.toks+1,by rw[Yt,c]⟩,q⟩
 ·obtain⟨l,f,g,k⟩:=I.tuple e;have c:=f.length;exact len_tuple g (by simp only[Yt]<;>omega) ⟨.int d.length,H,I.tok _,⟨s.toks+1,by rw[Yt,c]⟩,q⟩
def xO:df X (.builtin "len") (λc H Q=>∃z,c=[.str z]/\z.length<=sizeLine/\Q (.int z.length) H):=by
 rintro d s e H c f Q I r ⟨z,rfl,g,q⟩;obtain⟨u,rfl,t,rfl⟩:=vals1 r;have h:=tJ;exact len_str QO ⟨.int z.length,H,I.tok _,⟨_,rfl⟩,q⟩
def u6:df X (.type "tuple") (λk H Q=>∃p c,k=[.ref p]/\((aq X.K H p c/\∀l,H l=aF->Q (.ref l) (upd H l (.tup c)))\/(aB X.K H p c/\Q (.ref p) H))):=by
 rintro d s v H k z Q I r ⟨p,c,rfl,h⟩;obtain⟨u,rfl,w⟩:=vals1 r;cases w;rcases h with⟨g,q⟩|⟨g,q⟩
 ·obtain⟨j,e,f,m⟩:=I.list g;have n:=e.length;refine call_tuple_list f.isList (λi x=>?_) (by simp only[Yt]<;>omega);have t:=I.kept (t':=s.toks) x;have y:Inv X d v (upd H i.objs.size (.tup c)) {s with heap:=i.push {cls:=.type "tuple",data:=.seq j.toArray}}:=
   t.laid (λ b o=>Yb _) (Yh _) (show cQ X.prog X.w _ _ _ (.tup c) from⟨m,j,e,oA.new _ _⟩)
  exact⟨.ref i.objs.size,_,y,rfl,q _ (t.ay.fresh (Yh _))⟩
 ·obtain⟨j,e,f,m⟩:=I.tuple g;exact call_tuple_same f ⟨.ref p,H,I,rfl,q⟩
def L7(K:ah)(T:String)(x:V)(H:Hp):Prop:=match x with
 |.str _=>T="str"
 |.int _=>T="int"
 |.ref p=>(T="list"/\∃e,aq K H p e)\/(T="tuple"/\∃o,K.lookup p=O o/\o.cls=.type "tuple"/\o.dict=aF)\/
   (T="dict"/\((∃d,H p=O (.dK d))\/∃d,H p=O (.dT d)))\/(T="set"/\∃c n,H p=O (.set c n))
 |_=>False
theorem SO(I:Inv X pins σ H s)(r:RelV x v)(h:L7 X.K T x H):
  s.TypeIs v T/\∀a,v=.ref a->∃m,s.heap.get? a=O m/\m.dict=aF:=by
 cases x with
 |str z=>
  obtain⟨t,rfl⟩:=r;cases(show T="str" from h);exact⟨oZ s z t,λ_ e=>nomatch e⟩
 |int i=>
  obtain⟨t,rfl⟩:=r;cases(show T="int" from h);exact⟨typeIs_int s i t,λ_ e=>nomatch e⟩
 |ref p=>
  cases r;rcases h with⟨rfl,w,q⟩|⟨rfl,o,f,u,hd⟩|⟨rfl,f⟩|⟨rfl,d,n,f⟩
  ·obtain⟨y,_,l,_⟩:=I.list q;refine⟨l.isList.typeIs,λa e=>?_⟩;obtain⟨o,n,e,c,hd,_⟩:=l
   simp_all
  ·refine⟨⟨o,I.cA p o f,u⟩,λa e=>?_⟩;cases e;exact⟨o,I.cA _ o f,hd⟩
  ·have z:∃o,s.heap.get? p=O o/\o.ExactDict:=by
    rcases f with⟨j,f⟩|⟨j,f⟩
    ·obtain⟨_,_,_,_,o,_,_,e,g,_⟩:=I.ay p _ f;exact⟨o,e,g⟩
    ·obtain⟨_,_,_,_,o,_,_,e,g,_⟩:=I.ay p _ f;exact⟨o,e,g⟩
   obtain⟨o,e,g⟩:=z;refine⟨⟨o,e,g.1⟩,λa k=>?_⟩;cases k;exact⟨o,e,g.2.1⟩
  ·obtain⟨o,_,_,_,e,g,_⟩:=I.ay p _ f;refine⟨⟨o,e,g.1⟩,λa k=>?_⟩;cases k;exact⟨o,e,g.2.1⟩
 |_=>exact False.elim h
def K7(K:ah)(T:String)(r:V->Z V->Hp->VK->Prop)(e:TE):TE:=λd H Q=>e d H λx c=>L7 K T x c/\r x [] c Q
def zo(K:ah)(T:String)(r:V->Z V->Hp->VK->Prop)(f:TE)(t:TA):TE:=λc H Q=>f c H λx d=>L7 K T x d/\t c d λe g=>r x e g Q
variable {o e:cu}{N:Z cu}{to:TE}{t:TA}{W:af}{R P:Pos}{T id:String}{r:V->Z V->Hp->VK->Prop}
def Zhy(p:PlainAttrs T)(d:Slot T W id)(z:typeOf (.builtin id)=pure (.type "method_descriptor"))(u:WL X id r)(q:PE X o to)
  (l:attributeBase o W X.env (eval o X.env)=eval o X.env:=by rfl)(k:(R.endLine==P.line)=ar:=by rfl):PE X (.Call (.Attribute o W R) [] [] P) (K7 X.K T r to):=by
 intro c s f H Q I h;refine zC l k (az (q c s f H _ I h) λv m j=>?_);obtain⟨x,A,i,g,ty,n⟩:=j;obtain⟨y,w⟩:=SO i g ty;exact⟨T,id,p,d,z,y,w,k_ rfl (Di (u c m f A x [] v [] Q i g .nil n))⟩
def gT(B:PlainAttrs T)(d:Slot T W id)(L:typeOf (.builtin id)=pure (.type "method_descriptor"))(E:WL X id r)(D:PE X o to)(F:PA X (e::N) t)
  (q:attributeBase o W X.env (eval o X.env)=eval o X.env:=by rfl)
  (K8:((backTo P (starEach (e::N) X.env)).all (λx=>!x.1)&&(backToKw P (keywordEach [] X.env)).all (λx=>x.1.isSome)
   &&decide ((e::N).length+([]:Z Keyword).length+(if([]:Z Keyword).isEmpty then 0 else 1)<30))=ar:=by rfl)
  (p:(R.endLine==P.line)=ar:=by rfl)(C:iQ X e N:=by rfl)(g:jj X P N:=by rfl):
  PE X (.Call (.Attribute o W R) (e::N) [] P) (zo X.K T r to t):=by
 intro c s f H Q I h;refine Ae q K8 p rfl (az (D c s f H _ I h) λv w l=>?_);obtain⟨x,H1,k,i,ty,A⟩:=l;obtain⟨J,G⟩:=SO k i ty;refine⟨T,id,B,d,L,J,G,?_⟩;have j:=F P c w f H1 _ k A;rw[C] at j⊢;exact k_ (by show(a_||(backTo P (starEach N X.env)).any (·.1))=a_;rw[g]<;>rfl) (m6 (az j λn u zz=>by obtain⟨m,H2,I2,y,z⟩:=zz;exact E c u f H2 x m v n Q I2 i y z))
end
def nO(X:Cx)(id:String)(r:V->Z V->Hp->VK->Prop):Prop:=
 ∀(a:aX) (s:bU) (b:St) (H:Hp) (x:V) (c:Z V) (v:a7) (d:Z a7) (Q:VK),Inv X a b H s->RelV x v->Vals c d->r x c H Q->
  wpAny X.md X.A (call (.builtin id) (v::d)) (EP X a b Q) X.xe s
theorem Vals.one:∀{x:V} {a:Z a7},Vals [x] a->∃u,a=[u]/\RelV x u:=by
 intro x a h;cases h with
 |cons r t=>
  cases t;exact⟨_,rfl,r⟩
theorem Vals.zero:∀{a:Z a7},Vals [] a->a=[]
 |_,.nil=>rfl
theorem Vals.eraseIdx:∀{a:Z V} {b:Z a7} (i:Nat),Vals a b->Vals (a.eraseIdx i) (b.eraseIdx i)
 |_,_,_,.nil=>.nil
 |_,_,0,.cons _ t=>t
 |_,_,i+1,.cons r t=>.cons r (Vals.eraseIdx i t)
section
variable {X:Cx}{W:aX}{σ:St}{H:Hp}{s:bU}{l:U}{xs T:Z V}
def Inv.B7{b a:Z a7}{n:Nat}{f:c8 a7->c8 a7}{c:Nat}(I:Inv X W σ H s)(k:H l=O (.lst xs))
  (e:s.heap.get? l=O {cls:=.type "list",data:=.seq b.toArray n})(i:f b.toArray=a.toArray)(g:Vals T a)(d:T.length<=sizeLine):
  Inv X W σ (upd H l (.lst T)) {s with heap:=s.heap.update l (Obj.mapSeq f),toks:=c}:=by
 have q:=PySem.IsL.update e f;rw[i] at q;refine I.write (by rw[k];exact trivial) (.inl rfl) (λm u j h=>(Wg s.heap (Obj.mapSeq f) (ib j)).trans h) ⟨_,q⟩ ?_;exact⟨d,a,_,g,q⟩
def Inv.ZjW(I:Inv X W σ H s)(c:Vals T a)(b:T.length<=sizeLine):
  Inv X W σ (upd H s.heap.objs.size (.lst T)) {s with heap:=s.heap.push {cls:=.type "list",data:=.seq a.toArray},toks:=d}:=
 I.laid (λ _ _=>Yb _) (Yh _) ⟨b,a,0,c,Yv _ rfl⟩
def Inv.fresh(I:Inv X W σ H s):H s.heap.objs.size=aF:=I.ay.fresh (Yh _)
def Inv.ub(I:Inv X W σ H s)(b:H l=O (.lst xs)):xs.length<=sizeLine/\∃(a:Z a7) (n:Nat),Vals xs a/\xs.length=a.length/\s.heap.get? l=O {cls:=.type "list",data:=.seq a.toArray n}:=by
 obtain⟨z,a,n,r,e⟩:=I.ay l _ b;exact⟨z,a,n,r,r.length,e⟩
def Zex(h:n<=sizeLine):Builtin.List.listTooLong n=a_:=by
 exact fb (X9 h)
end
def Zf7:V->Z V->Hp->VK->Prop:=λx b H Q=>∃l a y,x=.ref l/\b=[y]/\H l=O (.lst a)/\a.length<sizeLine/\Q .aC (upd H l (.lst (a++[y])))
def x9:nO X "list.append" Zf7:=by
 intro a s i H x k v m Q I c d h;obtain⟨l,j,y,rfl,rfl,b,o,q⟩:=h;cases c;obtain⟨u,rfl,f⟩:=d.one;obtain⟨z,g,n,r,p,e⟩:=I.ub b;refine qU F.slot_list_append ⟨_,e,rfl⟩ F.entry_list_append (F.args_list_append_2 _ _) (PySem.list_append l g.toArray n u (by rw[Yt];omega)) ⟨e,?_⟩;refine⟨.aC,_,I.B7 b e QS (r.append (.cons f .nil)) ?_,rfl,q⟩
 (simp;omega)
def Zf8:V->Z V->Hp->VK->Prop:=λx d H Q=>∃l b c a,x=.ref l/\d=[.ref b]/\H l=O (.lst c)/\H b=O (.lst a)/\c.length+a.length<=sizeLine/\Q .aC (upd H l (.lst (c++a)))
def ZdD:nO X "list.extend" Zf8:=by
 rintro g s w H x D v E Q I i j ⟨l,b,B,y,rfl,rfl,h,p,G,q⟩;cases i;obtain⟨u,rfl,k⟩:=j.one;cases k;obtain⟨z,c,n,r,J,e⟩:=I.ub h;obtain⟨A,d,o,m,C,t⟩:=I.ub p;have a:c.toArray.size+d.toArray.size<=sizeLine:=by rw[Yt,Yt];omega
 have f:¬(!c.toArray.isEmpty&&Builtin.List.listTooLong (c.toArray.size+d.toArray.size))=ar:=by
  rw[Zex a,WK]
  grind
 refine qU F.slot_list_extend ⟨_,e,rfl⟩ F.entry_list_extend (F.args_list_extend_2 _ _)
  (AutoSeq1.list_extend_list_list_0 l c.toArray n b d.toArray o f (by rw[Yt];exact Nat.le_of_add_le_add_right (th a)) (jm a)) ⟨e,t,?_⟩
 refine⟨.aC,_,I.B7 h e QS (r.append m) ?_,rfl,q⟩
 (simp;omega)
def ZhA:V->Z V->Hp->VK->Prop:=λx b H Q=>∃l a i k y,x=.ref l/\b=[.int i]/\H l=O (.lst a)/\-(2^63)<=i/\i<2^63/\seqIndex? i a.length=O k/\a[k]?=O y/\Q y (upd H l (.lst (a.eraseIdx k)))
def Zey:nO X "list.pop" ZhA:=by
 rintro a s A H x C v D Q I c d ⟨l,B,i,k,y,rfl,rfl,b,m,j,G,g,q⟩;cases c;obtain⟨u,rfl,f⟩:=d.one;obtain⟨t,rfl⟩:=f;obtain⟨z,p,n,r,h,e⟩:=I.ub b;obtain⟨w,E,o⟩:=r.get g;refine qU F.slot_list_pop ⟨_,e,rfl⟩ F.entry_list_pop (F.args_list_pop_2 _ _)
  (MeetsSeq.list_pop_at l p.toArray n i t k w (fitsIndex_both m j) (by rwa[Yt,←h]) (by rwa[←Jj]) (by rw[Yt];omega)) ⟨e,?_⟩
 refine⟨y,_,I.B7 b e ?_ (r.eraseIdx k) ?_,o,q⟩;·grind
 ·grind
def ZhB:V->Z V->Hp->VK->Prop:=λx b H Q=>∃l a,x=.ref l/\b=[]/\H l=O (.lst a)/\Q .aC (upd H l (.lst []))
def Zez:nO X "list.clear" ZhB:=by
 rintro b s h H x j v k Q I d f ⟨l,i,rfl,rfl,c,q⟩;cases d;have a:=f.zero;subst a;obtain⟨z,g,n,r,m,e⟩:=I.ub c;exact qU F.slot_list_clear ⟨_,e,rfl⟩ F.entry_list_clear (F.args_list_clear_1 _) (AutoSeq1.list_clear_list_0 l g.toArray n (by rw[Yt];omega)) ⟨e,⟨.aC,_,I.B7 c e rfl .nil (Yx _),rfl,q⟩⟩
def ZjX:R2:=λx y H Q=>∃l b c a,x=.ref l/\y=.ref b/\H l=O (.lst c)/\H b=O (.lst a)/\c.length+a.length<=sizeLine/\∀p,H p=aF->Q (.ref p) (upd H p (.lst (c++a)))
def ZhC:cJ X (binaryOp .Add) ZjX:=by
 rintro a s p H x y v u Q I g f ⟨l,b,A,t,rfl,rfl,j,k,i,q⟩;cases g;cases f;obtain⟨z,d,n,r,D,e⟩:=I.ub j;obtain⟨w,c,C,h,B,o⟩:=I.ub k;refine PySem.P.add_list e o ?_ (by rw[Yt,Yt];omega);have m:d.toArray++c.toArray=(d++c).toArray:=QS
 exact m▸⟨.ref _,_,I.ZjW (r.append h) (by rw[Ye];exact i),rfl,q _ I.fresh⟩
section
set_option maxRecDepth 100000 in
end
end L2
namespace WM
open PySem PySem.W PySem.Calls PyProof.Rows
theorem Zam:∀(ns:Z Int) (c:Z a7),WellAll P h c (ns.map WData.int)->IntsAre c ns:=by
 intro ns;induction ns with
 |nil=>
  intro c w;cases w;exact .nil
 |cons n ns d=>
  intro c w;cases w with
  |cons a b=>
   cases a;exact .cons _ _ (d _ b)
theorem ZdE{l:OpenLaw}(o:l.most=O n)
  (g:l.row.toRowW.claim.pre args=ar)(i:WellAll P h vals args):
  ∃a f b,vals=[Value.ref a]/\args=[WData.list (b.map WData.int)]/\h.get? a=O {cls:=.type "list",data:=.seq f.toArray}/\IntsAre f b/\b.length<=n:=by
 obtain⟨d,r,rfl,s,q⟩:=hasAllW_cons ((pre_splitW g).1);obtain rfl:=hasAllW_nil q;obtain⟨u,rfl,p⟩:=hasW_list s;obtain⟨b,rfl⟩:=items_int p;have c:b.length<=n:=by
  have e:(WTm.not (.lt (.lit (.int (n:Int))) (.len (.arg 0)))).holds [] {args:=[.list (b.map .int)]}=ar:=by
   have e:=(holds_andW ((pre_splitW g).2)).1;rw[o] at e;exact e
  have v:=condW_of e (w_not (w_lt w_lit (w_len_list (w_arg rfl))))
  grind
 cases i with
 |cons k j=>
  cases j;cases k with
  |list m t=>exact⟨_,_,b,rfl,rfl,m,Zam b _ t,c⟩
def ZdF(l:OpenLaw)(a:Z WData):l.row.toRowW.claim.post a (.bool ar) a=ar:=
 postW_of
  (by first|rfl|decide|simp[WShape.has])
  (show(WTm.eq .res (.lit (.bool ar))).value [] {args:=a,res:=O (.bool ar),after:=a}=O (.bool (ar==ar)) from w_eq_bool (w_res rfl) w_lit) rfl
def ZbS{l:OpenLaw}{n:Nat}{q:c9}{c:Z af}{D:(af->bw a7)->cS->Prop}{C:cX->cS->Prop}{d:DefRec}
  (N:l.most=O n)(F:d.params.defaults=[])
  (m:∀(w:cX) (y e:bU) (t x:aR) (k:U) (o:Obj) (v u h:a7) (a:U) (i:Z a7) (s:Z Int),
   Ground q c [] D w y t x e.heap->C w e.heap->
   e.heap.get? k=O o->o.data=.func (docDef d.name d.params d.body d.scope v u h)->e.heap.CodeRec u d.name->t d.name=O (.ref k)->
   e.heap.get? a=O {cls:=.type "list",data:=.seq i.toArray}->IntsAre i s->s.length<=n->e.gens=#[]->
   codeAny (model l.prog w) callerA (.call (.ref k) ⟨[.ref a],[]⟩) (λr p=>r=.ok (.ret (.bool ar))/\OldK e.heap p.heap/\p.os=e.os/\AllBare p.gens) e):
  WalkO q c D C l.row.toRowW d [] (λf i=>PySem.call f i):=by
 intro w y e t x G b k o v u h dV kV L hd fS A E R B z as B8 Zl4 I H Q;obtain rfl:dV=.none:=Dflts.none A F;obtain rfl:kV=.none:=Dflts.noKw A;obtain⟨a,i,s,rfl,rfl,K_,g,j⟩:=ZdE N B8 H;refine enter_call (lN (m w y e t x k o v u h a i s G b L (fd_plain hd) fS E K_ g j R) λr p J=>?_);obtain⟨rfl,X,W,T⟩:=J;exact⟨.inl ⟨.bool ar,.bool ar,[],rfl,λ_=>rfl,.bool ar,ZdF l _,λ_=>⟨sy,λ_ P=>(nomatch P)⟩⟩,X,W,T⟩
end WM
namespace L2
open PySem PySem.Spec PyProof.Rows
theorem Hz:∀{vs:Z a7} {a:Z Int},IntsAre vs a->Vals (a.map V.int) vs:=by
 intro vs a h;induction h with
 |nil=>exact .nil
 |cons n t h b=>exact .cons ⟨t,rfl⟩ b
def La(H:Hp):Prop:=∀b,H b=aF\/∃o a,H b=O (.cH o (.lst a))
theorem ZeA{P:c9}{w:cX}{K:ah}{t E:aR}{CX:kU}{k:Nat}{J a:U}{fd:FuncData}{x:af}{T:Sp}{bQ:bU}{j:Z a7}{p:Z Int}
  (KX:K.In bQ.heap)(WN:bQ.heap.Ns mainGlobals t)(c:bQ.heap.Ns builtinsNs E)(I:∀x:af,x≠"__name__"->E x=bootBuiltins x)(Q:bQ.heap.NoLimit)(hg:bQ.gens=#[])
  (A:bQ.heap.get? a=O {cls:=.type "list",data:=.seq j.toArray})(hi:IntsAre j p)(hl:p.length<=sizeLine)(hr:cK k callerA)
  (F:∀g:cS,K.In g->g.Ns mainGlobals t->aE P w K t g CX k J fd [x] T)(R:∀(s:bU) (u:a7),BindsTo s fd ⟨[u],[]⟩ [(x,u)])
  (mI:∀H:Hp,La H->aq K H a (p.map V.int)->T [.ref a] H (λv _=>v=.bl ar) λ_ _ _=>False)
  (L9:∀H e f,CX [] H bQ (λ_ _ _=>False) e f->False):
  codeAny (model P w) callerA (.call (.ref J) ⟨[.ref a],[]⟩) (λr f=>r=.ok (.ret (.bool ar))/\OldK bQ.heap f.heap/\f.os=bQ.os/\AllBare f.gens) bQ:=by
 have W:=Hz hi;have N:=hi.length
 --from an abstract heap in ZlX nothing but X Ss may be tracked
 have i:∀H:Hp,La H->aq K H a (p.map V.int)->dv P w H bQ.heap->(∀b,H b≠aF->b=a)->(H a≠aF->K.lookup a=aF)->
   codeAny (model P w) callerA (.call (.ref J) ⟨[.ref a],[]⟩) (λr f=>r=.ok (.ret (.bool ar))/\OldK bQ.heap f.heap/\f.os=bQ.os/\AllBare f.gens) bQ:=by
  intro H hO hS ay hA hK;have Rh:∀{b:U} {o:Obj},bQ.heap.get? b=O o->H b=aF->(qm bQ.heap H).get? b=O o:=λe n=>Zep e n;have kX:∀{b:U} {o:Obj} {B:c8 DictEntry} {C:Nat},bQ.heap.get? b=O o->o.data=.dict B C->H b=aF:=λ{b o B C} e d=>by
   cases q:H b with
   |none=>rfl
   |some u=>
    have L:b=a:=hA b (by rw[q];simp);subst L;rw[A] at e;cases e;have d':=d;cases d'
  have D:∀{b:U} {m:aR},bQ.heap.Ns b m->(qm bQ.heap H).Ns b m:=λ{b m} ⟨o,B,C,e,d,r⟩=>⟨o,B,C,Rh e (kX e d),d,r⟩;have WO:=λb o e=>Rh (KX b o e) (by
   cases q:H b with
   |none=>rfl
   |some u=>
    have L:=hA b (by rw[q];simp);subst L;rw[hK (by rw[q];simp)] at e;cases e)
  have hM:Mod K t (qm bQ.heap H):=⟨WO,D WN,⟨E,D c,I⟩,let⟨mc,h1,h2⟩:=Q;⟨mc,D h1,h2⟩⟩;have e0:ua P w K t (qm bQ.heap H) callerA [] bQ H:=⟨rfl,hM,λ b o=>ZfV,CY (Zdv _ _),trivial,λb c=>absurd (show b∈([]:Z U) from c) QS,ay,.of_eq hg⟩;refine lN ((F _ WO (D WN)).run callerA [] bQ H ⟨[.ref a],[]⟩ [.ref a] [.ref a] _ _ hr e0 (R bQ (.ref a)) (.cons rfl .nil) (mI H hO hS)) λr f h=>?_;cases r with
  |error e=>exact(L9 H e f h).elim
  |ok fl=>
   cases fl with
   |next=>exact False.elim h
   |brk=>exact False.elim h
   |cont=>exact False.elim h
   |ret u=>
    obtain⟨v,H',os,y,un,Lb,r',q⟩:=h;have q':=q;subst q';obtain rfl:u=Value.bool ar:=r';refine⟨rfl,OldK.of_keep λb o e=>?_,os,y⟩;cases q:H b with
    |none=>exact un.keep b o e q (by intro z;exact absurd (show b∈([]:Z U) from z) QS) QS
    |some u=>
     rcases hO b with z|⟨ob,xs,z⟩;·rw[q] at z;cases z
     ·have z2:=un.iO b ob _ z;obtain⟨e1,_⟩:=ay b _ z;obtain⟨e2,_⟩:=Lb b _ z2;rw[e] at e1;cases e1;exact e2
 cases G:K.lookup a with
 |some o=>
  --X Ss is one of X ZlN own objects
  have e:=KX a o G;rw[A] at e;cases e;refine i (λ_=>aF) (λ_=>.inl rfl) (.inr ⟨_,j.toArray,_,G,rfl,rfl,rfl,by rwa[Yt,N],by simpa using W⟩) (λb u z=>by have l:=z;cases l) (λ b=>absurd rfl) λz=>absurd rfl z
 |none=>
  refine i (λb=>if b=a then O (.cH {cls:=.type "list",data:=.seq j.toArray} (.lst (p.map V.int))) else aF) (λb=>?_) (.inl (.inr ⟨{cls:=.type "list",data:=.seq j.toArray},bS rfl⟩)) (λb u z=>?_) (λb z=>?_) λ_=>G
  ·by_cases c:b=a;·exact .inr ⟨_,_,bS c⟩
   ·exact .inl (bt c)
  ·by_cases c:b=a
   ·have l:=(bS c).symm.trans z;cases l;subst c;exact⟨A,by rwa[Ya],j,_,W,A⟩
   ·have l:=(bt c).symm.trans z;cases l
  ·by_cases c:b=a;·exact c
   ·exact absurd (bt c) z
def Zf9{l:PySem.W.OpenLaw}{n k:Nat}{q:c9}{i:Z af}{XP:(af->bw a7)->cS->Prop}{B:cX->cS->Prop}{d:DefRec}{K:Params->ah}{D:cX->kU}{A:cX->Sp}{x:af}
  (N:l.most=O n)(W:n<=sizeLine)(I:d.params.defaults=[])(L:cK k callerA)
  (R:∀(w:cX) (h:cS),B w h->(K w.params).In h)
  (F:∀(w:cX) (m:aR) (r:U) (h:cS),(K w.params).In h->h.Ns mainGlobals m->m d.name=O (.ref r)->
   ∃y:FuncData,(∀(s:bU) (u:a7),BindsTo s y ⟨[u],[]⟩ [(x,u)])/\
    ∀c:cS,(K w.params).In c->c.Ns mainGlobals m->aE l.prog w (K w.params) m c (D w) k r y [x] (A w))
  (J:∀(w:cX) (H:Hp) (a:U) (p:Z Int),p.length<=n->La H->aq (K w.params) H a (p.map V.int)->A w [.ref a] H (λv _=>v=.bl ar) λ_ _ _=>False)
  (L9:∀(w:cX) (H:Hp) (s:bU) (e:a7) (t:bU),D w [] H s (λ_ _ _=>False) e t->False):
  PySem.W.WalkO q i XP B l.row.toRowW d [] (λf z=>PySem.call f z):=by
 refine WM.ZbS N I λw di bQ m mb r o pm cd X a z p G b ho hd fS E K_ j g P=>?_;have C:=R w _ b;obtain⟨y,Q,T⟩:=F w m r _ C G.T.g E;exact ZeA C G.T.g G.T.b G.T.builtins G.T.nolimit P K_ j (Yy g W) L T Q (λ H=>J w H a p g) λH e t=>L9 w H bQ e t
def inClass(s:cb)(j:Nat):cb:=match s with
 |.ClassDef _ _ _ body _ _ _ _ _ _ _=>body.getD j (.Pass ⟨0,0,0,0⟩)
 |_=>.Pass ⟨0,0,0,0⟩
def lZ(s:cb):Arguments:=match s with
 |.FunctionDef _ a _ _ _ _ _ _ _ _=>a
 |_=>{posonlyargs:=[],args:=[],vararg:=aF,kwonlyargs:=[],kw_defaults:=[],kwarg:=aF,defaults:=[]}
def i4(s:cb):Z cb:=match s with
 |.FunctionDef _ _ b _ _ _ _ _ _ _=>b
 |_=>[]
def aJ(s:cb):Scope:=match s with
 |.FunctionDef _ _ _ _ _ _ sc _ _ _=>sc
 |_=>{kind:=.function,names:=[],isGenerator:=a_,isCoroutine:=a_}
abbrev aL:kU:=λ_ _ _ _ _ _=>False
abbrev E0:XK:=λ_ _ _=>False
def yJ:Passes aL X E0:=λ_ _ _ _ _ _ _ h=>h.elim
structure aM(K:ah)(x qual:af)(st:cb)(f:U)(fd:FuncData):Prop where
 ex:∃(oc:a7) (od:bw U) (kV doc pm:a7) (an:bw U) (bL ct:a7) (iR:c8 (bw a7)),
  fd=fnOf x qual (lZ st) (i4 st) (aJ st) .none kV doc pm an bL ct/\K.lookup f=O ⟨oc,od,.func fd,iR⟩/\codeIn K bL qual=ar
 kp:keepIn K (.ref f)=ar
section
variable {P:c9}{w:cX}{K:ah}{W:aR}{X:cS}
def aM.ok{x c:af}{e:cb}{f:U}{l:FuncData}{N i:Z af}{k:Nat}{sp:Sp}(F:aM K x c e f l)(a:aP N i (aJ e))(j:∀d H Q E,sp d H Q E->d.length=i.length)
  (m:∀(g:a7) (A:d_) (b:Z Env) (s:bU) (H:Hp) (d:Z V) (Q:VK) (E:XK),cK k (A.deeper (envOfC c (aJ e) s.heap.objs.size f g))->sp d H Q E->
   ∃t,fR (kN aL P w K W X N c (aJ e) f g A b s H E).oP (i4 e) t/\t {nx:=λ_ v=>Q .aC v,rt:=Q} (start N d) H):aE P w K W X aL (k+1) f l i sp:=by
 obtain⟨B,z,kV,u,y,G,g,D,C,rfl,o,r⟩:=F.ex;refine Kx o r a j λA b s H d Q E p n=>?_;obtain⟨t,h,q⟩:=m g A b s H d Q E p n;exact⟨t,h.oP,q⟩
def aM.binds{b:cb}(F:aM K x qual b f fd)
  (h:∀(kV a d:a7) (i:bw U) (g e:a7) (c:Z a7),c.length=j.length->bindArgs (fnOf x qual (lZ b) (i4 b) (aJ b) .none kV a d i g e) ⟨c,[]⟩=pure (j.zip c)):Binds K fd j []:=by
 obtain⟨l,k,kV,a,d,i,g,e,n,rfl,m,o⟩:=F.ex;exact .all (h kV a d i g e)
def yz{x a:af}{st:cb}{f:U}{m:a7}{j i:bw U}{n:c8 (bw a7)}{g b e d h:a7}(l:K.lookup f=O ⟨m,j,.func (fnOf x a (lZ st) (i4 st) (aJ st) .none g b e i d h),n⟩)
  (c:codeIn K d a=ar)(k:keepIn K (.ref f)=ar):aM K x a st f (fnOf x a (lZ st) (i4 st) (aJ st) .none g b e i d h):=⟨⟨m,j,g,b,e,i,d,h,n,rfl,l,c⟩,k⟩
end
def bo(a:cK k A):A.units+1<cLine:=Jk (ZI (by decide:1<=64) _) a.units
def kG(h:n<=1000):n<sizeLine:=Jk h QD
section
variable {X:Cx}
def pv(i:Nat){x:af}{a:Pos}(d:X.N[i]?=O x:=by rfl)(b:um X.env.scope x:=by first|exact hH rfl|exact kv (hH rfl)|exact kv (kv rfl))(c:(x==("__debug__":af))=a_:=by decide)
  (e:(x==("__classdict__":af))=a_:=by decide):PE X (.Name x a) (gf i):=Zhn d b c e
end
def bV{A B:Prop}(h:B):if a_=ar then A else B:=by
 grind
def dk{A B:Prop}(h:A):if ar=ar then A else B:=by
 grind
def bA{c A B:Prop}[Decidable c](b:c->A)(a:¬c->B):if c then A else B:=by
 simp_all
def vW{c A B:Prop}[Decidable c](a:c)(h:B):if(!decide c)=ar then A else B:=by
 simp_all
def ag(H a:Hp):Prop:=∀b o,H b=O o->a b=O o
def ag.refl(H:Hp):ag H H:=λ_ _ h=>h
def ag.trans{H d H2:Hp}(a:ag H d)(b:ag d H2):ag H H2:=λc o h=>b c o (a c o h)
theorem ag.free(e:ag H a)(h:a l=Option.none):H l=Option.none:=by
 cases q:H l with
 |none=>rfl
 |some o=>
  rw[e l o q] at h;cases h
def ag.seq{K:ah}(e:ag H b)(h:aq K H a xs):aq K b a xs:=by
 rcases h with(h|⟨o,h⟩)|h;·exact .inl (.inl (e _ _ h))
 ·exact .inl (.inr ⟨o,e _ _ h⟩)
 ·exact .inr h
def q_(a:Z (af×U)):Z (af×U)->Prop
 |[]=>True
 |p::r=>a.lookup p.1=O p.2/\q_ a r
theorem q_.look:∀{d:Z (af×U)},q_ cells d->∀(x:af) (c:U),d.lookup x=O c->cells.lookup x=O c
 |[],_,x,c,h=>by simp at h
 |(n,a)::r,b,x,c,h=>by
  rw[W7] at h;cases e:x==n with
  |true=>
   rw[e] at h;rw[(eq_of_beq e),←(Yo h)];exact b.1
  |false=>
   rw[e] at h;exact q_.look b.2 x c h
theorem FJ{a:Env}:∀{names:Z (af×NameKind)} {x:af} {k:NameKind},
  (names.map λ(n,k)=>if(k==NameKind.free&&a.scope.kind==.function&&a.kindOf n==O .cell) then(n,NameKind.cell) else(n,k)).lookup x=O k->
  ∃b,(x,b)∈names/\(k=b\/b=.free)
 |[],_,_,h=>by simp at h
 |(n,b)::r,x,k,h=>by
  have h:List.lookup x ((if(b==NameKind.free&&a.scope.kind==.function&&a.kindOf n==O .cell)=ar then(n,NameKind.cell) else(n,b))::(r.map λ(n,k)=>if(k==NameKind.free&&a.scope.kind==.function&&a.kindOf n==O .cell) then(n,NameKind.cell) else(n,k)))=O k:=h;by_cases c:(b==NameKind.free&&a.scope.kind==.function&&a.kindOf n==O .cell)=ar
  ·rw[bS c,W7] at h;cases e:x==n with
   |true=>grind
   |false=>
    rw[e] at h;obtain⟨d,m,q⟩:=FJ h
    grind
  ·rw[bt c,W7] at h;cases e:x==n with
   |true=>grind
   |false=>
    rw[e] at h;obtain⟨d,m,q⟩:=FJ h
    grind
structure SQ(X:Cx)(scope:Scope)(cl:Z (af×U))(y:af)(j:Nat):Prop where
 ix:X.N[j]?=O y
 out:X.env.kindOf y=O .cell\/X.env.kindOf y=O .free
 uv:(relabel scope X.env).names.lookup y=O .cell\/(relabel scope X.env).names.lookup y=O .free
 cl:(cl.lookup y).isSome=ar
def rb(X:Cx)(a:Scope)(b:Z (af×U)):Z (af×Nat)->Prop
 |[]=>True
 |p::r=>SQ X a b p.1 p.2/\rb X a b r
theorem rb.get:∀{b:Z (af×Nat)} {k:Nat} {p:af×Nat},rb X scope cl b->b[k]?=O p->SQ X scope cl p.1 p.2
 |[],k,p,_,h=>by simp at h
 |q::r,0,p,a,h=>by
  have e:q=p:=by simpa using h
  exact e▸a.1
 |q::r,k+1,p,a,h=>rb.get a.2 (by simpa using h)
structure x_(X:Cx)(scope:Scope)(cl:Z (af×U))(x:af)(fr:Z (af×Nat)):Prop where
 wa:closureFor scope X.env=pure cl
 sub:q_ X.env.cells cl
 kind:scope.kind=.function
 names:∀y∈scope.names,y.2=.local->scope.names.lookup y.1=O .local
 lx:scope.names.lookup x=O .local
 BR:∀y∈scope.names,y.2≠.cell
 has:(scope.names.all λy=>!(y.2==.free)||(cl.lookup y.1).isSome)=ar
 cW:rb X scope cl fr
 nd:(x::fr.map (·.1)).Nodup
def iu(a:St)(b:Z (af×Nat)):St:=b.map λp=>(a[p.2]?).join
structure qS(X:Cx)(scope:Scope)(cl:Z (af×U))(xs:Z af)(fr:Z (af×Nat)):Prop where
 wa:closureFor scope X.env=pure cl
 sub:q_ X.env.cells cl
 kind:scope.kind=.function
 names:∀y∈scope.names,y.2=.local->scope.names.lookup y.1=O .local
 BR:∀y∈scope.names,y.2≠.cell
 has:(scope.names.all λy=>!(y.2==.free)||(cl.lookup y.1).isSome)=ar
 cW:rb X scope cl fr
 nd:(xs++fr.map (·.1)).Nodup
def c7(X:Cx)(b:Z af)(c:Z (af×Nat))(a:Scope)(e:Z (af×U))(C:U)(s:bU)(H:Hp)(d:Z U):Cx where
 prog:=X.prog
 w:=X.w
 K:=X.K
 mg:=X.mg
 base:=X.base
 A:=X.A
 N:=b++c.map (·.1)
 di:=s
 mD:=H
 env:=compEnvC a e C X.env
 outer:=X.stack
 stack:=X.stack
 ex:=d
 fn:=λ_=>a_
 calm:=X.calm
 pn:=[]
 xe:=λ_ _=>False
theorem ZdG(a:qS X scope cl xs fr)(I:Inv X pins σ H s)(D:C=s.heap.objs.size)(t:∀b∈fp,je X pins H b)(bK:∀b∈fp,b<s.heap.objs.size)
  (g:∀b o,s.heap.get? b=O o->E.get? b=O o)(W:E.Ns C m):Inv (c7 X xs fr scope cl C s H fp) [] (List.replicate xs.length aF++iu σ fr) H {s with heap:=E,toks:=tk}:=by
 have look:=a.sub.look;refine⟨⟨I.ok.mod,a.kind,I.ok.glob,I.ok.blt,by exact D▸Yh _,λy z c d f=>I.ok.inj y z c (look y c d) (look z c f),λy w=>?_,λy c h=>?_,I.ok.hd,I.ok.frames,.inl rfl,λb j=>⟨?_,λy c h=>?_⟩,
   I.bs,Yy I.ok.nK I.sz,λb o e j=>?_,λb j B=>?_,I.stack,I.Ba⟩,
  rfl,I.bare,Un.kept g,⟨m,W,λi y v d f h3=>?_⟩,λy c h=>?_,?_,λy c h=>I.iM y c (look y c h),λp T=>absurd (show p∈([]:aX) from T) QS,I.ay.kept g,?_⟩
 ·have w:=w;have fin:∀{k:NameKind},(relabel scope X.env).names.lookup y=O k->(k=.cell\/k=.free)->∃c,cl.lookup y=O c:=λ{k} e hk=>by
   obtain⟨R,J,q⟩:=FJ e;have A:R=.free:=by
    rcases q with q|q
    ·rcases hk with z|z;·exact absurd (q.symm.trans z) (a.BR _ J)
     ·exact q.symm.trans z
    ·exact q
   have G:=Wt.mp a.has _ J;rw[A] at G;exact Jp.mp (by simpa using G)
  rcases w with e|e;·exact fin e (.inl rfl)
  ·exact fin e (.inr rfl)
 ·exact absurd (h) Yq
 ·exact λz=>absurd (bK b j) (by rw[z,D];exact Wi _)
 ·exact(t b j).2.2.2.2.1 y c (look y c h)
 ·obtain⟨_,_,_,z,_⟩:=t b j;rcases z with z|z;·exact I.ok.t4 b o e z
  ·have d:=Yu e;have f:=I.ok.nK;exact absurd (Y3 d (Yy f z)) (Wi _)
 ·have z:=I.JP b B;rcases Ys.mp z with z|z;·exact(t b j).2.1 z
  ·exact(t b j).2.2.1 z
 ·by_cases L:i<xs.length;·grind
  ·have d:(xs++fr.map (·.1))[i]?=O y:=d;rw[W1 (NU L)] at d;rw[W1 (by exact W6▸NU L),W6] at f;generalize i-xs.length=k at d f;have f:(fr.map λp=>(σ[p.2]?).join)[k]?=O (O v):=f;rw[Yi] at d f;cases e:fr[k]? with
   |none=>rw[e] at d;cases d
   |some p=>
    rw[e] at d f;have e1:p.1=y:=Yo d;have Q:(σ[p.2]?).join=O v:=Yo f;have F:=a.cW.get e;rw[e1] at F;have e3:σ[p.2]?=O (O v):=by
     cases q:σ[p.2]? with
     |none=>rw[q] at Q;cases Q
     |some o=>simp_all
    obtain⟨m0,_,hl⟩:=I.loc;have L3:um X.env.scope y:=by
     rcases F.out with z|z;·exact .inr (.inl z)
     ·exact .inr (.inr z)
    obtain⟨u,r,l⟩:=hl p.2 y v F.ix e3 L3;refine⟨u,r,.inr ⟨F.uv,?_⟩⟩;obtain⟨c,N⟩:=Jp.mp F.cl;refine⟨c,N,?_⟩;rcases l with⟨n,_⟩|⟨_,c',e',z⟩
    ·rcases F.out with q|q;·rw[q] at n;cases n
     ·rw[q] at n;cases n
    ·have P:=look y c N;rw[e'] at P;cases P;obtain⟨o,x,hd⟩:=z;exact⟨o,g _ _ x,hd⟩
 ·obtain⟨v,o,x,hd⟩:=I.cell y c (look y c h);exact⟨v,o,g _ _ x,hd⟩
 ·exact D▸I.ay.fresh (Yh _)
 ·show(List.replicate xs.length aF++iu σ fr).length=(xs++fr.map (·.1)).length;simp[iu]
abbrev vR(X:Cx)(x:af)(b:Z (af×Nat))(a:Scope)(d:Z (af×U))(C:U)(s:bU)(H:Hp)(c:Z U):Cx:=c7 X [x] b a d C s H c
theorem ZZ(I:Nat->bU->Prop)
  (d:∀n s,I n s->wpAny (model prog w) A (pyNext it) (λr i=>match r with
   |none=>R (.ok .next) i
   |some v=>wpAny (model prog w) A (letOwnedTupleGo target it v) (λ_ q=>wpAny (model prog w) A (assign target env v) (λ_ p=>
     wpAny (model prog w) A (forIn ifs ar λc r=>if r=ar then do let ok←isTrue c env (eval c env);pure (ForInStep.yield ok) else pure (ForInStep.yield r)) (λok g=>
      if ok=ar then wpAny (model prog w) A (eval elt env) (λx l=>
       wpAny (model prog w) A (call (.builtin "list.append") [acc,x]) (λ_ k=>∃m,m<n/\I m k) (notedBy (model prog w) A env λe a=>R (.error e) a) l) (notedBy (model prog w) A env λe a=>R (.error e) a) g
      else ∃m,m<n/\I m g) (notedBy (model prog w) A env λe a=>R (.error e) a) p) (notedBy (model prog w) A env λe a=>R (.error e) a) q) (notedBy (model prog w) A env λe a=>R (.error e) a) i) (notedBy (model prog w) A env λe a=>R (.error e) a) s)
  (n:Nat)(h:I n s):codeAny (model prog w) A (.compLoop (.ListComp elt [⟨target,iter,ifs,0⟩] scope pos) 0 it acc env) R s:=by
 refine wz rfl I (λn s z=>wK (bg (kS (bg (dD (d n s z) (λr i o=>?_) λ_ _ b=>b))))) n h;cases r with
 |none=>exact cG o
 |some v=>
  refine bg (dD o (λ_ q f=>bg (dD f (λ_ p y=>bg (dD y (λok g j=>?_) λ_ _ b=>b)) λ_ _ b=>b)) λ_ _ b=>b);cases ok with
  |false=>exact cG ⟨rfl,j⟩
  |true=>
   exact bg (bg (dD j (λx l u=>bg (dD u (λ_ k t=>cG (cG ⟨rfl,t⟩)) λ_ _ b=>b)) λ_ _ b=>b))
def uw(X:Cx)(d:Z cu)(t:TT):Prop:=
 ∀(a:aX) (s:bU) (b:St) (H:Hp) (Q:cm->Hp->Prop),Inv X a b H s->t b H Q->
  wpAny X.md X.A (forIn d ar λc r=>if r=ar then do let ok←isTrue c X.env (eval c X.env);pure (ForInStep.yield ok) else pure (ForInStep.yield r)) (TP X a b Q) X.xe s
def B9:TT:=λ_ H Q=>Q ar H
def m5:uw X [] B9:=λ_ _ _ H _ I h=>vj ⟨H,I,h⟩
def vM(h:PT X c t):uw X [c] t:=λa s b H Q I d=>wpAny_tests_one (h a s b H Q I d)
def JQ(n:Nat)(J:It)(o:TG)(l:TT)(p:TE)(g:St)(D:U)(H:Hp)(Q:VK):Prop:=
 ∃W:Nat->Nat->Z V->Hp->Prop,(∃m,W 0 m [] (upd H D (.lst [])))/\∀i m a H,W i m a H->
  (J.stop i H/\Q (.ref D) H)\/(J.go i H/\∃N:Z V->Hp->Prop,(∀h b,N h b->∃e,e<m/\W (i+1) e h b)/\
   ∀v b,J.oR i H v b->∀os:St,os.length=n->o v (os++g) b λd q=>(∃f:St,f.length=n/\d=f++g)/\l d q λc k=>if c=ar then p d k λy j=>j D=O (.lst a)/\a.length<sizeLine/\N (a++[y]) (upd j D (.lst (a++[y]))) else N a k)
def PR{h:Hp}{s2:bU}{I:U}{g:Z U}{x:Nat->cS->Prop}{J:It}{Q:VK}{B:a7->U->Result->bU->Prop}{E:bb}{rest:Z Comprehension}(a:qS X d cl xs fr)
  (I2:Inv X pins σ h s2)(T:Turn X.prog X.w X.K tgt J g I x)(eI:x 0 s2.heap)(l:∀b∈g,je X pins h b)
  (hR:∀D C G W m,Inv X pins σ W G->G.heap.Ns C m->W C=aF->C≠X.env.locals->X.di.heap.objs.size<=C->(∀y c,X.env.cells.lookup y=O c->c≠C)->(∀p∈X.pn++pins,p.1≠C)->Q (.ref D) W->B (.ref D) C (.ok .next) G)
  (hl:∀(D C:U) (s:bU) (w:Hp) (r:bU),h D=aF->w=upd h D (.lst [])->Inv (c7 X xs fr d cl C s w g) [] (List.replicate xs.length aF++iu σ fr) w r->x 0 r.heap->(∀b∈g,w b=aF)->
   (∀A CV F,Inv (c7 X xs fr d cl C s w g) [] CV F A->Q (.ref D) F->B (.ref D) C (.ok .next) A)->
   codeAny X.md X.A (.compLoop (.ListComp elt (⟨tgt,iter,ifs,0⟩::rest) d pos) 0 (.ref I) (.ref D) (compEnvC d cl C X.env)) (B (.ref D) C) r):
  wpAny X.md X.A (newList []) (λt r=>wpAny X.md X.A (newFunctionEnv d X.env.globals cl [] X.env.qual aF .none (O X.env)) (λnF jh=>
   codeAny X.md X.A (.compStart (.ListComp elt (⟨tgt,iter,ifs,0⟩::rest) d pos) 0 (.ref I) t {nF with scope:=relabel d X.env}) (B t nF.locals) jh) E r) E s2:=by
 refine pH (wpAny_newFunctionEnv a.BR (by intro y hy;simp at hy) (λiD R P=>?_) a.kind);dsimp only at R P⊢;have j:Inv X pins σ (upd h s2.heap.objs.size (.lst [])) {s2 with heap:=s2.heap.push {cls:=.type "list",dict:=aF,data:=.seq ([]:Z a7).toArray}}:=
  I2.laid (t':=s2.toks) (λb u e=>Yb _ e) (Yh _) ⟨Yx _,[],0,.nil,Yv _ rfl⟩
 have N:h s2.heap.objs.size=aF:=I2.ay.fresh (Yh _);have Vc:∀b∈g,b<s2.heap.objs.size:=λb f=>by
  obtain⟨o,e,_⟩:=T.obj _ _ eI b f;exact Yu e
 generalize WQ:s2.heap.push {cls:=.type "list",dict:=aF,data:=.seq ([]:Z a7).toArray}=k at R P j⊢;have hC:k.objs.size=s2.heap.objs.size+1:=by rw[←WQ,zk]
 have old:∀b o,k.get? b=O o->iD.get? b=O o:=λb o e=>P.extBut b o (Y0 (Yu e)) (Yb _ e);have f3:∀b∈g,je X pins (upd h s2.heap.objs.size (.lst [])) b:=λb f=>by
  have:=Vc b f;exact⟨by rw[aN (Y0 this)];exact(l b f).1,(l b f).2⟩
 have H:∀b∈g,b<k.objs.size:=λb f=>by
  rw[hC];exact Wv (Vc b f)
 have wF:x 0 iD:=T.keep _ _ _ eI λb f o e=>old b o ((λb o e=>WQ▸Yb _ e) b o e);have I4:Inv (c7 X xs fr d cl k.objs.size {s2 with heap:=k} (upd h s2.heap.objs.size (.lst [])) g) [] (List.replicate xs.length aF++iu σ fr) (upd h s2.heap.objs.size (.lst [])) {s2 with heap:=iD,toks:=s2.toks+([]:Z (af×a7)).length}:=
  ZdG a j rfl f3 H old R
 have i:=hl s2.heap.objs.size k.objs.size {s2 with heap:=k} _ {s2 with heap:=iD,toks:=s2.toks+([]:Z (af×a7)).length} N rfl I4 wF (λb f=>(f3 b f).1) λA CV F n qn=>by
   obtain⟨m,L,_⟩:=n.loc;have I7:=j.Ku n.os n.base n.ay n.bare λb f=>⟨(l b f).2.2.2.1,(l b f).2.1,(l b f).2.2.2.2.1,(l b f).2.2.2.2.2⟩;refine hR _ _ A F m I7 L n.free ?_ ?_ (λy c e z=>?_) (λp hp z=>?_) qn;·exact Js j.lt
   ·exact j.sz
   ·obtain⟨v,q⟩:=j.cell y c e;exact absurd q.lt (by exact z▸Wi _)
   ·exact absurd (Yu (j.pin p hp).1) (by exact z▸Wi _)
 exact codeAny_compStart_list i (T.self _ 0 _ _ _ wF i)
theorem Oq{H2:Hp}{s2:bU}{it:U}{g:Z U}{I:Nat->cS->Prop}{J:It}{Q:VK}{RR:a7->U->Result->bU->Prop}{E:bb}
  (hc:X.calm=ar)(a:qS X f cl xs fr)(hg:∀C s H g,PG (c7 X xs fr f cl C s H g) A tg)
  (ht:∀C s H g,uw (c7 X xs fr f cl C s H g) ifs tt)(he:∀C s H g,PE (c7 X xs fr f cl C s H g) elt te)
  (I2:Inv X pins σ H2 s2)(T:Turn X.prog X.w X.K A J g it I)(eI:I 0 s2.heap)(f2:∀b∈g,je X pins H2 b)
  (hw:∀D,H2 D=aF->JQ xs.length J tg tt te (iu σ fr) D H2 Q)
  (hR:∀D C s1 H1 m,Inv X pins σ H1 s1->s1.heap.Ns C m->H1 C=aF->C≠X.env.locals->X.di.heap.objs.size<=C->(∀y c,X.env.cells.lookup y=O c->c≠C)->(∀p∈X.pn++pins,p.1≠C)->Q (.ref D) H1->RR (.ref D) C (.ok .next) s1):
  wpAny X.md X.A (newList []) (λF eG=>wpAny X.md X.A (newFunctionEnv f X.env.globals cl [] X.env.qual aF .none (O X.env)) (λnF jh=>
   codeAny X.md X.A (.compStart (.ListComp elt [⟨A,iter,ifs,0⟩] f pos) 0 (.ref it) F {nF with scope:=relabel f X.env}) (RR F nF.locals) jh) E eG) E s2:=by
 refine PR (rest:=[]) a I2 T eI f2 hR λD C s t eG hD e3 I4 wF wA fin=>?_;obtain⟨W,⟨m0,w0⟩,turn⟩:=hw D hD;rw[←e3] at w0;refine ZZ (λk s'=>∃i l H' os,os.length=xs.length/\Inv (c7 X xs fr f cl C s t g) [] (os++iu σ fr) H' s'/\I i s'.heap/\(∀b∈g,H' b=aF)/\W i k l H') ?_ m0
  ⟨0,[],_,List.replicate xs.length aF,W6,I4,wF,wA,w0⟩
 rintro n s5 ⟨i,l,H5,os,qB,G,qA,ur,w5⟩;have nC:∀{H':Hp},(∀b∈g,H' b=aF)->∀b∈g,je (c7 X xs fr f cl C s t g) [] H' b:=λ{H'} hn b j=>
  ⟨hn b j,(G.ok.rU b j).1,G.ok.rH b j,.inl j,(G.ok.rU b j).2,λp hp=>absurd (show p∈([]:aX) from hp) QS⟩
 rcases turn i n l H5 w5 with⟨B,qn⟩|⟨go,N,hN,step⟩
 ·refine az (T.done (c7 X xs fr f cl C s t g) rfl rfl rfl hc i [] s5 _ H5 _ G (nC ur) qA B) λr s6 h=>?_;obtain⟨hr,I6⟩:=h;subst hr;exact fin _ _ _ I6 qn
 ·refine az (T.item (c7 X xs fr f cl C s t g) rfl rfl rfl hc i [] s5 _ H5 _ G (nC ur) qA go) λr s6 h=>?_;obtain⟨u,hr,h6⟩:=h;subst hr;refine az h6 λ_ s7 h=>?_;obtain⟨v,H7,I7,r7,y7,ux,L_⟩:=h;have Ma:=I7.pinned (nC L_) (T.obj _ _ ux);refine dD (hg _ _ _ _ _ s7 _ H7 v u _ Ma r7 (step v H7 y7 os qB)) (λ_ s8 h=>?_) λ _ _=>False.elim;obtain⟨σ8,H8,I8,⟨kY,Lc,e8⟩,q8⟩:=h;subst e8;have again:∀{P:St} {q:Hp} {w:bU} {L:Z V},P.length=xs.length->Inv (c7 X xs fr f cl C s t g) ([]++rA g s7.heap) (P++iu σ fr) q w->N L q->
    ∃m,m<n/\∃i l H' os,os.length=xs.length/\Inv (c7 X xs fr f cl C s t g) [] (os++iu σ fr) H' w/\I i w.heap/\(∀b∈g,H' b=aF)/\W i m l H':=λ{P q w L} l1 x n9=>by
   obtain⟨m',hm,w9⟩:=hN L q n9;refine⟨m',hm,i+1,L,q,P,l1,x.vI,T.keep _ _ _ ux λb j o e=>(x.pin (b,o) (Yl _ (Yl _ (qR j e)))).1,λb j=>?_,w9⟩;obtain⟨o,e,d⟩:=T.obj _ _ ux b j;exact(x.pin (b,o) (Yl _ (Yl _ (qR j e)))).2.1
  refine dD (ht _ _ _ _ _ s8 _ H8 _ I8 q8) (λok w h=>?_) λ _ _=>False.elim;obtain⟨q,x,R⟩:=h;cases ok with
  |false=>
   rw[bt Yq] at R⊢;exact again Lc x R
  |true=>
   rw[bS rfl];rw[bS rfl] at R;refine dD (he _ _ _ _ _ w _ q _ x R) (λu1 Mb h=>?_) λ _ _=>False.elim;obtain⟨y,qE,Mc,r10,hD,hz,qF⟩:=h;refine dD (x9 (X:=c7 X xs fr f cl C s t g) _ Mb _ qE (.ref D) [y] _ [u1] (λ_ H'=>N (l++[y]) H') Mc rfl (.cons r10 .nil) ⟨_,l,y,rfl,rfl,hD,hz,qF⟩) (λ_ Md h=>?_) λ_ _ z=>False.elim z;obtain⟨_,zu,C2,_,q11⟩:=h;exact again Lc C2 q11
def jH(J:It)(j:TT)(k:TE)(e:St)(D:U)(H:Hp)(Q:VK):Prop:=
 ∃W:Nat->Nat->Z V->Hp->Prop,(∃m,W 0 m [] (upd H D (.lst [])))/\∀i m a H,W i m a H->
  (J.stop i H/\Q (.ref D) H)\/(J.go i H/\∃N:Z V->Hp->Prop,(∀f b,N f b->∃d,d<m/\W (i+1) d f b)/\
   ∀v b,J.oR i H v b->j (O v::e) b λc h=>if c=ar then k (O v::e) h λy g=>g D=O (.lst a)/\a.length<sizeLine/\N (a++[y]) (upd g D (.lst (a++[y]))) else N a h)
section
variable {X:Cx}{L P:cu}{x:af}{B F:Pos}{G:Z cu}{R:Scope}{cl:Z (af×U)}{fr:Z (af×Nat)}{w:TT}{A:TE}{σ:St}
theorem O3{f:Hp}{s2:bU}{n:U}{d:Z U}{k:Nat->cS->Prop}{J:It}{Q:VK}{r:a7->U->Result->bU->Prop}{E:bb}
  (hc:X.calm=ar)(a:x_ X R cl x fr)
  (ht:∀C s H d,uw (vR X x fr R cl C s H d) G w)(he:∀C s H d,PE (vR X x fr R cl C s H d) L A)
  (I2:Inv X pins σ f s2)(T:Turn X.prog X.w X.K (.Name x B) J d n k)(eI:k 0 s2.heap)(f2:∀b∈d,je X pins f b)
  (I:∀D,f D=aF->jH J w A (iu σ fr) D f Q)
  (hR:∀D C g j m,Inv X pins σ j g->g.heap.Ns C m->j C=aF->C≠X.env.locals->X.di.heap.objs.size<=C->(∀y c,X.env.cells.lookup y=O c->c≠C)->(∀p∈X.pn++pins,p.1≠C)->Q (.ref D) j->r (.ref D) C (.ok .next) g):
  wpAny X.md X.A (newList []) (λe eG=>wpAny X.md X.A (newFunctionEnv R X.env.globals cl [] X.env.qual aF .none (O X.env)) (λl u=>
   codeAny X.md X.A (.compStart (.ListComp L [⟨.Name x B,P,G,0⟩] R F) 0 (.ref n) e {l with scope:=relabel R X.env}) (r e l.locals) u) E eG) E s2:=by
 refine Oq (xs:=[x]) hc ⟨a.wa,a.sub,a.kind,a.names,a.BR,a.has,a.cW,a.nd⟩ (λC s H d=>q5 (i:=0) a.nd rfl (.inl (CN a.lx)) (.inr (CN a.lx))) ht he I2 T eI f2 (λD hD=>?_) hR;obtain⟨W,h0,h⟩:=I D hD;refine⟨W,h0,λi m t H p=>?_⟩;rcases h i m t H p with z|⟨z,N,hN,q⟩;·exact .inl z
 ·refine .inr ⟨z,N,hN,λv H' y os hl=>?_⟩;match os,hl with
  |[o],_=>exact⟨⟨[O v],rfl,rfl⟩,q v H' y⟩
def Uh(b:TI)(fr:Z (af×Nat))(w:TT)(A:TE):TE:=λσ H Q=>b σ H λJ a=>∀D,a D=aF->jH J w A (iu σ fr) D a Q
def jE(o:X.calm=ar)(a:x_ X R cl x fr)(l:PI X (.Name x B) P c)
  (i:∀C s H fp,uw (vR X x fr R cl C s H fp) G w)(n:∀C s H fp,PE (vR X x fr R cl C s H fp) L A)
  (j:∀x,foldedSetIterable P X.env x=pure x:=by intro _;rfl):PE X (.ListComp L [⟨.Name x B,P,G,0⟩] R F) (Uh c fr w A):=by
 intro b s σ H Q I h;refine rp rfl j a.wa a.kind a.names (az (l b s σ H _ I h) λv d r=>az r λuq s2 p=>?_);refine gG λZG zg=>?_;obtain⟨it,fp,tn,J,H2,e,I2,T,W,z,g⟩:=p;refine zg ?_;subst e;refine O3 o a i n I2 T W z g ?_;intro D C d H1 m I1 k N E y u t q;exact⟨m,k,λh' f=>⟨.ref D,H1,I1.turned (f.extBut) N E (.inr y) u t,rfl,q⟩⟩
def ZcF(hc:X.calm=ar)(hN:X.N.Nodup)(f:X.N[i]?=O y)(r:Loc X.env.scope y)(b:x_ X R cl x fr)(W:PI X (.Name x B) P l)
  (u:∀C s H fp,uw (vR X x fr R cl C s H fp) G w)(he:∀C s H fp,PE (vR X x fr R cl C s H fp) L A)
  (d:swapsWith (.ListComp L [⟨.Name x B,P,G,0⟩] R F) (O (.Name y py)) j.line X.env=pure ar:=by with_unfolding_all rfl)
  (hf:X.fn y=ar\/X.env.scope.names.lookup y=O .local:=by first|exact .inl rfl|exact .inr rfl|assumption)
  (E:∀x,foldedSetIterable P X.env x=pure x:=by intro _;rfl):PS X (.Assign [.Name y py] (.ListComp L [⟨.Name x B,P,G,0⟩] R F) j) (t9 (Uh l fr w A) (qf i)):=by
 intro c s σ H D I h;rw[exec_Assign_Name_used _ _ _ _ d];refine bg (kS (bg ?_));show wpAny _ X.A (do let _←comprehension (.ListComp L [⟨.Name x B,P,G,0⟩] R F) R X.env _ (newList []) a_ (eval P X.env) (O (assign (.Name y py) X.env))) _ _ s;refine bg (dD (rp rfl E b.wa b.kind b.names
  (az (W c s σ H _ I h) λv o h1=>az h1 λuq s2 h2=>?_)) (λ_ s' N=>cG (cG N)) λ_ _ e=>e)
 refine gG λZG zg=>?_;obtain⟨it,fp,tn,J,H2,e,I2,T,eI,f2,t⟩:=h2;refine zg ?_;subst e;refine O3 hc b u he I2 T eI f2 t ?_;intro Dl C o H1 m I1 Q f0 f1 f3 k f5 q;refine Li (OW I1 hN f r (v:=.ref Dl) rfl (λs3 I3 z=>?_) hf);refine gG λZG zg=>?_;obtain⟨a,n,ha⟩:=z;refine zg ?_;have g:C≠a:=by
  rcases ha with z|z;·rwa[z]
  ·exact λq=>k _ _ z q.symm
 refine⟨m,Q.sameBut n g,λh' p=>?_⟩;exact⟨_,H1,I3.turned (p.extBut) f0 f1 (.inr f3) k f5,q⟩
end
def HG{K:ah}(d:Nat->Z V->Hp->Prop)(s:d 0 [] (upd H D (.lst [])))(o:∀i b H,i<=xs.length->d i b H->aq K H a xs)
  (u:∀i v b H,xs[i]?=O v->d i b H->tt (O v::h) H λc k=>if c=ar then l (O v::h) k λy j=>j D=O (.lst b)/\b.length<sizeLine/\d (i+1) (b++[y]) (upd j D (.lst (b++[y]))) else d (i+1) b k)
  (r:∀b H,d xs.length b H->Q (.ref D) H):jH (kj K a) tt l h D H Q:=by
 refine⟨λi m b H=>m=xs.length-i/\i<=xs.length/\d i b H,⟨xs.length,QS,Yx _,s⟩,?_⟩;rintro i m b H ⟨rfl,g,p⟩;have q:=o i b H g p;by_cases f:i<xs.length
 ·refine .inr ⟨⟨xs,xs[i],q,by simp[f]⟩,d (i+1),λw t n=>⟨xs.length-(i+1),QO,rfl,f,n⟩,λx t y=>?_⟩;obtain⟨e,y⟩:=y
  grind
 ·have e:i=xs.length:=(ic g (fU f))
  subst e;exact .inl ⟨⟨xs,q,Yh _⟩,r b H p⟩
def AZ{K:ah}(d:Nat->Z V->Hp->Prop)(s:d 0 [] (upd H D (.lst [])))(o:∀i b H,i<=xs.length->d i b H->aB K H a xs)
  (u:∀i v b H,xs[i]?=O v->d i b H->tt (O v::h) H λc k=>if c=ar then l (O v::h) k λy j=>j D=O (.lst b)/\b.length<sizeLine/\d (i+1) (b++[y]) (upd j D (.lst (b++[y]))) else d (i+1) b k)
  (r:∀b H,d xs.length b H->Q (.ref D) H):jH (qy K a) tt l h D H Q:=by
 refine⟨λi m b H=>m=xs.length-i/\i<=xs.length/\d i b H,⟨xs.length,QS,Yx _,s⟩,?_⟩;rintro i m b H ⟨rfl,g,p⟩;have q:=o i b H g p;by_cases f:i<xs.length
 ·refine .inr ⟨⟨xs,xs[i],q,by simp[f]⟩,d (i+1),λw t n=>⟨xs.length-(i+1),QO,rfl,f,n⟩,λx t y=>?_⟩;obtain⟨e,y⟩:=y
  grind
 ·have e:i=xs.length:=(ic g (fU f))
  subst e;exact .inl ⟨⟨xs,q,Yh _⟩,r b H p⟩
def xX{lo:Int}{n:Nat}{g:TT}{h:TE}{d:St}{D:U}{H:Hp}{Q:VK}(b:Nat->Z V->Hp->Prop)(r:b 0 [] (upd H D (.lst [])))
  (t:∀i a H,i<n->b i a H->g (O (.int (lo+i))::d) H λc k=>if c=ar then h (O (.int (lo+i))::d) k λy j=>j D=O (.lst a)/\a.length<sizeLine/\b (i+1) (a++[y]) (upd j D (.lst (a++[y]))) else b (i+1) a k)
  (q:∀a H,b n a H->Q (.ref D) H):jH (qz lo n) g h d D H Q:=by
 refine⟨λi m a H=>m=n-i/\i<=n/\b i a H,⟨n,QS,Yx _,r⟩,?_⟩;rintro i m a H ⟨rfl,o,p⟩;by_cases f:i<n
 ·refine .inr ⟨f,b (i+1),λu s l=>⟨n-(i+1),QO,rfl,f,l⟩,λx s y=>?_⟩;obtain⟨e,y⟩:=y
  simp_all
 ·have e:i=n:=(ic o (fU f))
  subst e;exact .inl ⟨Yh _,q a H p⟩
def Zj1(K:ah)(e:TE):TI:=λd H R=>e d H λx b=>∃a,x=.ref a/\((∃c,aq K b a c)/\R (kj K a) b\/(∃c,aB K b a c)/\R (qy K a) b)
def ZhD(z:PE X l t):PI X B l (Zj1 X.K t):=by
 intro f s m H R I h;refine az (z f s m H _ I h) λv d n=>?_;obtain⟨x,k,c,w,g⟩:=n;obtain⟨a,e,g⟩:=g;subst e;cases w;rcases g with⟨⟨r,i⟩,q⟩|⟨⟨r,i⟩,q⟩
 ·obtain⟨A,u,p,y⟩:=c.list i;refine sr p.isList ⟨d.heap.objs.size,[d.heap.objs.size],_,_,k,rfl,c.kept λ b o=>Yb _,OX a _,⟨_,Yv _ rfl,rfl,rfl⟩,λb j=>?_,q⟩;have e:b=d.heap.objs.size:=by simpa using j
  subst e;exact c.rJ (Yh _) (c.ay.fresh (Yh _))
 ·obtain⟨A,u,p,y⟩:=c.tuple i;refine uI (p) ⟨d.heap.objs.size,[d.heap.objs.size],_,_,k,rfl,c.kept λ b o=>Yb _,Ol a _,⟨_,Yv _ rfl,rfl,rfl⟩,λb j=>?_,q⟩;have e:b=d.heap.objs.size:=by simpa using j
  subst e;exact c.rJ (Yh _) (c.ay.fresh (Yh _))
theorem F4:∀{a:Z V} {b:Z a7},a.length=b.length->(∀(i:Nat) (x:V) (u:a7),a[i]?=O x->b[i]?=O u->RelV x u)->Vals a b
 |[],[],_,_=>.nil
 |[],_::_,h,_=>by simp at h
 |_::_,[],h,_=>by simp at h
 |x::a,u::b,h,k=>.cons (k 0 x u rfl rfl) (F4 (by simpa using h) λi y w d c=>k (i+1) y w (by simpa using d) (by simpa using c))
theorem Ot:∀{bs:Z cm} {a:Z a7},Vals (bs.map V.bl) a->a=bs.map Value.bool:=by
 intro bs;induction bs with
 |nil=>intro a r;cases r;rfl
 |cons b bs c=>
  intro a r;rw[Wu] at r;cases r with
  |cons r t=>
   have d:=r;rw[d,c t];rfl
def bJ(n:Nat):Z Int:=(List.range n).map λi:Nat=>(i:Int)
def fG(n:Nat):(bJ n).length=n:=by simp[bJ]
def mZ(h:i<n):(bJ n)[i]?=O (i:Int):=by
 unfold bJ
 simp_all
def ZeB(a:Z cm):(List.range a.length).any (λi=>a.getD i a_)=a.any id:=by
 rw[Wq,C3,C3];constructor
 ·rintro⟨i,c,d⟩;rw[Wn] at c;have e:a.getD i a_=a[i]:=by rw[Yr,Yc c];rfl
  rw[e] at d;exact⟨a[i],Ji c,d⟩
 ·rintro⟨b,d,e⟩;obtain⟨i,c,rfl⟩:=W0.mp d;refine⟨i,Wn.mpr c,?_⟩
  simp_all
def ZeC(c:Z cm):(List.range c.length).all (λi=>c.getD i a_)=c.all id:=by
 rw[Wq,Wt,Wt];constructor
 ·intro h b d;obtain⟨i,a,rfl⟩:=W0.mp d;simp_all
 ·intro h i a;rw[Wn] at a;rw[Yr,Yc a];exact h _ (Ji a)
def ZbT:∀{a b:Z Int},a.length=b.length->(List.range a.length).all (λj=>a.getD j 0==b.getD j 0)=decide (a=b):=by
 intro a b c;rw[Wq,Wt,hI];constructor
 ·intro h;refine List.ext_getElem c λi e d=>?_;simp_all
 ·grind
section
variable {X:Cx}
def Vd(K:ah):Z V->Hp->VK->Prop:=λa H Q=>∃(p:U) (bs:Z cm),a=[.ref p]/\aq K H p (bs.map V.bl)/\Q (.bl (bs.any id)) H
def Ve(K:ah):Z V->Hp->VK->Prop:=λa H Q=>∃(p:U) (bs:Z cm),a=[.ref p]/\aq K H p (bs.map V.bl)/\Q (.bl (bs.all id)) H
theorem ZaB(l:X.calm=ar):df X (.builtin "any") (Vd X.K):=by
 rintro d s w H x y Q I r ⟨p,bs,rfl,j,q⟩;obtain⟨u,rfl,f⟩:=vals1 r;cases f;obtain⟨E,g,h,B⟩:=I.list j;have e:=Ot g;subst e;have c:=h.isList;have t:p<s.heap.objs.size:=by obtain⟨_,e,_⟩:=c;exact Yu e
 refine call_any_walk (sr c ⟨s.heap.objs.size,_,_,_,_,_,λi=>bs.getD i a_,rfl,Walks.list (show X.A.in1.handled=aF from I.ok.hd l) s.heap.objs.size p (Y0 t) (bs.map Value.bool).toArray,⟨⟨_,Yv _ rfl,rfl,rfl⟩,c.push _⟩,?_,λD z k=>?_⟩)
 ·intro i v A F G m C;have a:(bs.map Value.bool)[i]?=O v:=by simpa using m
  rw[Yi] at a;cases e:bs[i]? with
  |none=>simp_all
  |some b=>
   rw[e] at a;have n:=Yo a;subst n;refine lr ?_
   simp_all
 ·refine⟨.bl (bs.any id),H,I.kept (λb o e=>k b o (by simpa using Y0 (Yu e)) (Yb _ e)),?_,q⟩;show Value.bool _=Value.bool _;have e:(bs.map Value.bool).toArray.size=bs.length:=QS
  rw[e,ZeB]
theorem ZaC(l:X.calm=ar):df X (.builtin "all") (Ve X.K):=by
 rintro d s w H x y Q I r ⟨p,bs,rfl,j,q⟩;obtain⟨u,rfl,f⟩:=vals1 r;cases f;obtain⟨E,g,h,B⟩:=I.list j;have e:=Ot g;subst e;have c:=h.isList;have t:p<s.heap.objs.size:=by obtain⟨_,e,_⟩:=c;exact Yu e
 refine call_all_walk (sr c ⟨s.heap.objs.size,_,_,_,_,_,λi=>bs.getD i a_,rfl,Walks.list (show X.A.in1.handled=aF from I.ok.hd l) s.heap.objs.size p (Y0 t) (bs.map Value.bool).toArray,⟨⟨_,Yv _ rfl,rfl,rfl⟩,c.push _⟩,?_,λD z k=>?_⟩)
 ·intro i v A F G m C;have a:(bs.map Value.bool)[i]?=O v:=by simpa using m
  rw[Yi] at a;cases e:bs[i]? with
  |none=>simp_all
  |some b=>
   rw[e] at a;have n:=Yo a;subst n;refine lr ?_
   simp_all
 ·refine⟨.bl (bs.all id),H,I.kept (λb o e=>k b o (by simpa using Y0 (Yu e)) (Yb _ e)),?_,q⟩;show Value.bool _=Value.bool _;have e:(bs.map Value.bool).toArray.size=bs.length:=QS
  rw[e,ZeC]
inductive SR(K:ah)(a:Z V)(H:Hp)(Q:VK):Prop
 |mk (x:V) (t:a7) (c:String) (b:cm) (g:a=[x,.ty c]) (f:jK K H x t) (d:kitOne K t (.type c)=O b) (e:Q (.bl b) H):SR K a H Q
def B_(K:ah):Z V->Hp->VK->Prop:=λa H Q=>SR K a H Q
def ZbU:df X (.builtin "isinstance") (B_ X.K):=by
 rintro a s h H i k Q I r ⟨x,t,c,b,rfl,ty,e,q⟩;obtain⟨u,j,rfl,g,f⟩:=vals2 r;cases f;exact ZdA I g ty e λd=>⟨.bl b,H,I.tok d,rfl,q⟩
def Ou(u:T="list"\/T="tuple")
  (p:s.heap.get? l=O o)(t:o.cls=.type T)(r:o.data=.seq au.toArray n)(v:IntsAre au ns)(m:au.length<64)(f:au.toArray.size<=sizeLine)
  (h:∀(a g:cS) (out:c8 a7) (c:Z Int) (e:Nat),(∀b o,s.heap.get? b=O o->a.get? b=O o)->(∀b o,a.get? b=O o->g.get? b=O o)->g.get? a.objs.size=O (seqObj "list" out e)->IntsAre out.toList c->c.Perm ns->c.Pairwise (·<=·)->Q (.ref a.objs.size) {s with heap:=g}):
  wpAny (model prog w) A (call (.builtin "sorted") [.ref l]) Q E s:=by
 refine uy kind_sorted plain_sorted entry_sorted (args_sorted1 _) (bg (cG ?_));refine bg (Lh l u p t r (λa k=>bg (sW ?_)) f);have x:au.toArray.toList=au:=QS
 rw[x];have d:(a.push (seqObj "list" au.toArray 0)).get? a.objs.size=O (seqObj "list" au.toArray 0):=Yv _ rfl;refine bg (iG (n_ slot_list_sort ⟨_,d,rfl⟩ entry_list_sort (list_sort_tree d v m λout c B z y=>⟨_,rfl,?_⟩) (args_list_sort _)));obtain⟨e,q⟩:=sortedHeap_at d;exact cG ⟨_,rfl,h a _ out c e k (λb C j=>by
  have i:=Yu j;rw[sortedHeap_old (Y0 i) (by rw[size_push'];exact Wv i),J8 _ _ _ (Y0 i)];exact j) q B z y⟩
def IU(K:ah):Z V->Hp->VK->Prop:=λc H Q=>∃(p:U) (a:Z Int),c=[.ref p]/\(aq K H p (a.map V.int)\/aB K H p (a.map V.int))/\a.length<64/\
  ∀(l:U) (b:Z Int),H l=aF->b.Perm a->b.Pairwise (·<=·)->Q (.ref l) (upd H l (.lst (b.map V.int)))
def N_:df X (.builtin "sorted") (IU X.K):=by
 rintro f s w H F G Q I r ⟨p,z,rfl,g,J,q⟩;obtain⟨u,rfl,y⟩:=vals1 r;cases y;have fin:∀(a h:cS) (out:c8 a7) (c:Z Int) (e:Nat),(∀b o,s.heap.get? b=O o->a.get? b=O o)->(∀b o,a.get? b=O o->h.get? b=O o)->h.get? a.objs.size=O (seqObj "list" out e)->IntsAre out.toList c->c.Perm z->c.Pairwise (·<=·)->
   EP X f w Q (.ref a.objs.size) {s with heap:=h}:=λa h out c e A x B E t D=>by
  have v:=I.kept (t':=s.toks) A;refine⟨.ref a.objs.size,_,v.laid (o:=.lst (c.map V.int)) x (Yh _) ⟨?_,out.toList,e,Hz E,by simpa[seqObj] using B⟩,rfl,q _ c (v.ay.fresh (Yh _)) t D⟩;rw[Ya,t.length_eq];exact J1 (kG (ro (nA J (by decide))))
 rcases g with g|g
 ·obtain⟨C,d,i,j⟩:=I.list g;obtain⟨o,n,k,m,_,hd⟩:=i;have l:=d.length;rw[Ya] at l;rw[Ya] at j;exact Ou (.inl rfl) k m hd (intsAre_of d) QO (by rw[Yt];omega) fin
 ·obtain⟨C,d,i,j⟩:=I.tuple g;obtain⟨o,k,m,n,hd⟩:=i;have l:=d.length;rw[Ya] at l;rw[Ya] at j;exact Ou (.inr rfl) k m hd (intsAre_of d) QO (by rw[Yt];omega) fin
def Ri:Z V->Hp->VK->Prop:=λa H Q=>∃j:Int,a=[.int j]/\∀p:U,H p=aF->Q (.ref p) (upd H p (.kh 0 j))
def PU:Z V->Hp->VK->Prop:=λa H Q=>∃(p:U) (n:Nat),a=[.ref p]/\H p=O (.kh 0 (n:Int))/\n<=1000/\∀l:U,H l=aF->Q (.ref l) (upd H l (.lst ((bJ n).map V.int)))
def yU(K:ah):Z V->Hp->VK->Prop:=λb H Q=>∃(p:U) (a:Z V),b=[.ref p]/\(aq K H p a\/aB K H p a)/\Q (.int a.length) H
def ZcG:df X (.builtin "len") (yU X.K):=N4
def As:df X (.type "range") Ri:=by
 rintro a s c H d f Q I r ⟨j,rfl,q⟩;obtain⟨u,rfl,t,rfl⟩:=vals1 r;exact call_range_1 ⟨.ref s.heap.objs.size,_,I.laid (o:=.kh 0 j) (λb o e=>Yb _ e) (Yh _) ⟨_,_,_,Yv _ rfl⟩,rfl,q _ (I.ay.fresh (Yh _))⟩
def Fn(w:X.calm=ar):df X (.type "list") PU:=by
 rintro d s B H C D Q I r ⟨p,n,rfl,j,e,q⟩;obtain⟨u,rfl,h⟩:=vals1 r;cases h;obtain⟨t,u,v,k⟩:=I.ay p _ j;refine call_list_range (I.ok.hd w) k (xm (by decide) (by decide) QO QO) (n:=n) (by rw[vt];split<;>omega) (eL e (by decide)) λF E c A l a f=>⟨.ref s.heap.objs.size,_,I.laid (o:=.lst ((bJ n).map V.int)) l (Yh _) ⟨?_,c.toList,A,?_,by simpa using a⟩,rfl,q _ (I.ay.fresh (Yh _))⟩
 ·rw[Ya,fG];exact J1 (kG e)
 ·refine F4 (by rw[Ya,fG];simp[f.1]) λi x u b z=>?_;obtain⟨g,rfl⟩:=f.2 i u (by simpa using z);have m:i<n:=by
   have:=(Yn.mp b).1;rw[Ya,fG] at this;exact this
  rw[Yi,mZ m] at b;have y:=Yo b;subst y;exact⟨g,by rw[show(0:Int)+(i:Int)*1=(i:Int) by omega]⟩
def Rj{a:Z Int}(r:Vals (a.map V.int) b)(h:j<b.length):∃t,b[j]=.int (a.getD j 0) t:=by
 have c:=r.length;rw[Ya] at c;have d:j<a.length:=QO
 obtain⟨u,e,t,rfl⟩:=r.get (by rw[Yi,Yc d];rfl)
 simp_all
def Vg(K:ah)(b:cm):R2:=λx y H Q=>∃(p q:U) (a c:Z Int),x=.ref p/\y=.ref q/\aq K H p (a.map V.int)/\aq K H q (c.map V.int)/\Q (.bl (if b=ar then !decide (a=c) else decide (a=c))) H
def SS(o:X.A.units<cLine):cJ X (compareOp .Eq) (Vg X.K a_):=by
 rintro i s G H x y v u Q I z w ⟨p,q,a,b,rfl,rfl,d,c,k⟩;cases z;cases w;obtain⟨F,h,m,L⟩:=I.list d;obtain⟨B,g,l,J⟩:=I.list c;have n:=h.length;have A:=g.length;rw[Ya] at n A;by_cases C:a.length=b.length
 ·refine UZ (e:=λj=>a.getD j 0==b.getD j 0) m.isList l.isList (by simp;omega) o (λj d c=>?_) (cM I k ?_)
  ·obtain⟨t,E⟩:=Rj h (by simpa using d);obtain⟨t',D⟩:=Rj g (by simpa using c);have r:F.toArray[j]=.int (a.getD j 0) t:=by simpa using E
   have f:B.toArray[j]=.int (b.getD j 0) t':=by simpa using D
   rw[r,f];exact r_ _ _ _ _
  ·rw[bt Yq,Yt,←n,ZbT C]
 ·refine zD m.isList l.isList (by simp;omega) o (cM I k ?_)
  grind
def eC(a:St->Hp->Prop)(e:∀c:St->Hp->Prop,(∀b H,a b H->c b H)->t {D with nx:=c} b H)(d:∀b H,a b H->u D b H):yP t u D b H:=e _ d
def kK(d:Gl X x)(c:X.mg x=aF)(a:bootBuiltins x=O (.type T))(b:x≠"__name__":=by decide)(e:(x==("__debug__":af))=a_:=by decide):PE X (.Name x pos) (tC (.ty T)):=ZfW d c a rfl b e
end
def HasFn(P:c9)(w:cX)(K:ah)(c:aR)(a:cS)(k:Nat)(x:af)(b:Z af)(e:Sp):Prop:=
 ∃f d,aE P w K c a aL k f d b e/\Binds K d b []/\keepIn K (.ref f)=ar/\c x=O (.ref f)
section
variable {K:ah}{X:Cx}{k j:Nat}{W:Sp}{x:af}{ps:Z af}
def Ky(h:HasFn X.prog X.w X.K X.mg X.base k x ps W)(c:cK j X.A)(d:k<=j)(g:Gl X x)(l:PA X (e::es) t)
  (n:(x==("__debug__":af))=a_:=by decide)(i:iQ X e es:=by rfl)(o:jj X pos es:=by rfl):
  PE X (.Call (.Name x p) (e::es) [] pos) (BP W [] E0 t):=by
 obtain⟨f,q,F,b,a,m⟩:=h;exact ZfZ F (c.mono d) g m a b .nil yJ l n i o
def cF(h:H p=aF)(o:HO):ag H (upd H p o):=λb u q=>by rwa[aN (bP q h)]
def ag.jQ(e:ag H b)(h:aB K H a xs):aB K b a xs:=by
 rcases h with(h|⟨o,h⟩)|h;·exact .inl (.inl (e _ _ h))
 ·exact .inl (.inr ⟨o,e _ _ h⟩)
 ·exact .inr h
def ZeD(h:X.K=K):jk X (v_ K):=h▸IT
def Zf_(h:X.K=K):jk X (B6 K):=h▸SK
def Zga(h:X.K=K):df X (.builtin "isinstance") (B_ K):=h▸ZbU
def Zj3(h:X.K=K):df X (.builtin "len") (yU K):=h▸ZcG
def mE(h:Q ar H):B9 σ H Q:=h
def aW(h:n σ H):Ua ⟨n,a,bk,b⟩ σ H:=h
def jZ(d:St->Hp->Prop)(h:∀f:St->Hp->Prop,(∀e H,d e H->f e H)->K0 c a b {D with nx:=f} e H)(g:∀e H,d e H->u D e H):yP (K0 c a b) u D e H:=h _ g
def ZhE(x:Int)(c:0<m)(d:m<=2^62):-(2^64)<x % m/\x % m<2^64:=by
 have a:=Jg x (Me c);have b:=Wz x c;omega
theorem Ov:∀(l:Z α) (k:Nat) (h:k<l.length),l.Perm (l[k]::l.eraseIdx k)
 |[],k,h=>absurd h (Wr k)
 |a::r,0,_=>qd _
 |a::r,k+1,h=>(List.Perm.cons a (Ov r k (BU h))).trans (List.Perm.swap _ _ _)
theorem O4(f:α->β):∀(l:Z α) (k:Nat),(l.map f).eraseIdx k=(l.eraseIdx k).map f
 |[],_=>rfl
 |_::_,0=>rfl
 |a::r,k+1=>by
  show f a::(r.map f).eraseIdx k=f a::(r.eraseIdx k).map f;rw[O4 f r k]
def JU{n:Nat}{i:Int}(b:0<=i)(a:i<n):mJ n i=O i.toNat:=by
 unfold mJ
 simp_all
def oB{a:Z Int}{i:Int}(b:0<=i)(c:i<a.length):dI (a.map V.int) i=O (.int (a.getD i.toNat 0)):=by
 have e:i=((i.toNat:Nat):Int):=(mU (yK b))
 rw[e];refine fL ?_
 grind
theorem ot{a:Z Int}{i:Nat}{y:V}(h:(a.map V.int)[i]?=O y):∃z,y=.int z/\a[i]?=O z:=by
 rw[Yi] at h;cases e:a[i]? with
 |none=>simp_all
 |some z=>simp_all
def PV(a:Z Int)(z:Int):a.map V.int++[V.int z]=(a++[z]).map V.int:=QS
def PX(a:Z Int)(b c:bw Int):∃d:Z Int,qo (a.map V.int) b c=d.map V.int:=by
 refine⟨(a.drop (HT.iE a.length 0 b)).take (HT.iE a.length a.length c-HT.iE a.length 0 b),?_⟩;unfold qo;simp_all
end
def SU:bootBuiltins "abs"=O (.builtin "abs"):=QK
def ZhF:bootBuiltins "any"=O (.builtin "any"):=QK
def SV:bootBuiltins "all"=O (.builtin "all"):=QK
def rB:bootBuiltins "len"=O (.builtin "len"):=QK
def SW:bootBuiltins "min"=O (.builtin "min"):=QK
def AN:bootBuiltins "sorted"=O (.builtin "sorted"):=QK
def NY:bootBuiltins "isinstance"=O (.builtin "isinstance"):=QK
def s_:bootBuiltins "list"=O (.type "list"):=QK
def oq:bootBuiltins "tuple"=O (.type "tuple"):=QK
def vJ:bootBuiltins "range"=O (.type "range"):=QK
def Bg:bootBuiltins "bool"=O (.type "bool"):=QK
def SX:bootBuiltins "int"=O (.type "int"):=QK
def vS:bootBuiltins "str"=O (.type "str"):=QK
def Bd(d p:Int):Prop:=0<=d/\d<p
inductive PY(K:ah)(b:Z V)(H:Hp)(Q:VK):Prop
 |mk (a:U) (d:Z Int) (k:Int) (h:b=[.ref a,.int k]) (g:aq K H a (d.map V.int)) (e:0<=k) (f:∀c:Int,Q (.int c) H):PY K b H Q
def SY(K:ah):Sp:=λa H Q _=>PY K a H Q
inductive O5(K:ah)(e:Z V)(H:Hp)(Q:VK):Prop
 |mk (c:Int) (a:U) (b:Z Int) (k:e=[.int c,.ref a]) (j:aq K H a (b.map V.int)) (h:(∀p∈b,0<p/\p<1073741824)) (i:b.length<=60) (g:∀(l:U) (f:Z Int) (d:Hp),H l=aF->ag H d->d l=O (.lst (f.map V.int))->Paired Bd f b->Q (.ref l) d):O5 K e H Q
def Bh(K:ah):Sp:=λa H Q _=>O5 K a H Q
inductive PZ(b:Z V)(H:Hp)(Q:VK):Prop
 |mk (c:Int) (n:Nat) (g:b=[.int c,.int (n:Int)]) (f:n<=60) (e:∀(t:U) (d:Z Int) (a:Hp),H t=aF->ag H a->a t=O (.tup (d.map V.int))->d.Perm (bJ n)->Q (.ref t) a):PZ b H Q
def S0:Sp:=λa H Q _=>PZ a H Q
def Rk(h:PE X o to)(j:PE X i d)(g:t8 X t)(k:PE X e f)
  (p:swapsWithSole [.Subscript o i a] e pos.line X.env=pure a_:=by rfl)(n:swappedStores [.Subscript o i a] e X.env=pure aF:=QR)
  (m:(assignEach [.Subscript o i a] X.env).map (·.2)=[assign (.Subscript o i a) X.env]:=QR)
  (l:∀v,assign (.Subscript o i a) X.env v=(do
   let b←holding [v] (eval o X.env);let c←holding [v,b] (eval i X.env)
   standAt a
   holding [v,b,c] (setItem b c v)
   release [v,b,c] []):=by intro _;rfl):PS X (.Assign [.Subscript o i a] e pos) (t9 f (U9 to d t)):=l9 k (Zhs h j g l) p n m
def gU(h:cS)(a C:U)(d:bw U)(c:c8 a7):Prop:=∃b:Obj,h.get? a=O b/\b.cls=.ref C/\b.dict=d/\b.data=.fields c/\1<c.size
def xo(a C:U)(d:bw U):HO:=.ext λh=>∃b,gU h a C d b
def N0(a:c8 a7):Prop:=a[1]?=O Value.none/\a[2]?=O Value.none/\a.size=6
def xn(a C:U)(d:bw U):HO:=.ext λh=>∃b,gU h a C d b/\N0 b
def gU.keep(x:gU f a C d vs)(k:∀o,f.get? a=O o->c.get? a=O o):gU c a C d vs:=by
 obtain⟨b,e,r⟩:=x;exact⟨b,k _ e,r⟩
def Ui(x:gU h a C d c):cQ P w H h a (xo a C d):=
 ⟨⟨c,x⟩,let⟨f,e,_⟩:=x;⟨f,e⟩,λ_ _ j k=>by obtain⟨b,y⟩:=j;exact⟨b,y.keep k⟩⟩
def Kz(x:gU h a C d vs)(z:N0 vs):cQ P w H h a (xn a C d):=
 ⟨⟨vs,x,z⟩,let⟨c,e,_⟩:=x;⟨c,e⟩,λ_ _ f k=>by obtain⟨b,y,q⟩:=f;exact⟨b,y.keep k,q⟩⟩
def S1(b:dv P w H h)(e:H a=O (xo a C d)):∃vs,gU h a C d vs:=(b a _ e).1
def BA(b:dv P w H h)(e:H a=O (xn a C d)):∃vs,gU h a C d vs/\N0 vs:=(b a _ e).1
def wG(d:Nat)(H:Hp)(h:cS)(a:c8 a7):Prop:=
 a[1]?=O Value.none\/∃T c b,a[1]?=O (Value.ref T)/\d<=T/\H T=aF/\h.get? T=O c/\c.data=.fields b/\b[3]?=O Value.none
def jn(b:cm)(P:c9)(w:cX):kU:=λc H s E e f=>∃(a C d:U) (g:Hp) (h:c8 a7),e=.ref a/\s.heap.objs.size<=a/\f.os=s.os/\AllBare f.gens/\Un (cW c) [] H g s.heap f.heap/\dv P w g f.heap/\
 g a=O (xo a C (O d))/\gU f.heap a C (O d) h/\(wG s.heap.objs.size g f.heap h/\(b=ar->h[2]?=O Value.none))/\E (.ref C) (O d) g
abbrev oS:=jn ar
section
variable {M:Model}{A:d_}{X:bb}{s:bU}
def O6{l:cS}{d:Env}{a:Z Env}{L e:U}{v:Obj}{p:c8 a7}{g:a7}{b0:cm}{Q:Unit->bU->Prop}
  (fr:A.frames=O (d::a))(H:s.heap.FunFrames l (d::a))(hL:d.frame=O L)(m:s.heap.get? e=O v)(f:v.data=.fields p)(F:1<p.size)
  (k:∀i T D,(∀b o,b≠e->b∉cW (d::a)->s.heap.get? b=O o->i.get? b=O o)->(∀b o,b∈cW (d::a)->s.heap.get? b=O o->∃t,i.get? b=O {o with slots:=t})->
   i.get? e=O {v with data:=.fields (p.setIfInBounds 1 (.ref T))}->s.heap.objs.size<=T->T≠e->i.get? T=O {cls:=.type "traceback",dict:=aF,data:=.fields D}->D[3]?=O Value.none->Q () {s with heap:=i}):
  wpAny M A (do let fo←frameOf d;let u←entryPlaceOf L b0;let en←EntryCells.newEntry g fo .none (rawInt L) .none u;setField (.ref e) 1 en) (λ_ R=>wpAny M A (setFlight (.ref e) aF) Q X R) X s:=by
 have out:e∉cW (d::a):=λz=>by
  obtain⟨_,o,q,W⟩:=H.mem z;rw[m] at q;cases q;exact W p f
 refine bg (wpAny_frameOf_fun fr H hL λh r=>bg (wpAny_entryPlaceOf λu ip=>?_));unfold EntryCells.newEntry newFields;refine bg (pH ?_ (ip.sizeOk5 _ _ _ _ _));generalize w:([g,Value.ref L,Value.none,rawInt L,Value.none]++(if u.isEmpty=ar then List.replicate 6 Value.none else u)).toArray=n;have G:3<n.size:=by
  rw[←w,Yt,Ye];simp[Wh,WR];exact QdA _ (by decide)
 have N:=(r.2.1 e out).trans m;have lt:=Yu N;have J:=Yb {cls:=.type "traceback",dict:=aF,data:=.fields n} N;refine pR J f F ?_;have P:=uJ f (·.setIfInBounds 1 (Value.ref h.objs.size));have I:=Wk (Obj.mapFields (·.setIfInBounds 1 (Value.ref h.objs.size))) J (uC P);have E:=(Wg (h.push {cls:=.type "traceback",dict:=aF,data:=.fields n}) (Obj.mapFields (·.setIfInBounds 1 (Value.ref h.objs.size))) (Y0 lt)).trans (Yv h rfl);unfold setFlight;refine bg (mr I P (x:=.ref h.objs.size) (by simp[F]) ?_);rw[bS QS];refine pR E rfl G (k _ h.objs.size (n.setIfInBounds 3 Value.none) ?_ ?_ ?_ (CY r.1.symm) (Js lt) ?_ (by simp[G]))
 ·intro b o C B y;have j:=(r.2.1 b B).trans y;rw[Wg _ _ (Js (Yu j)),Wg _ _ (ib C)];exact Yb _ j
 ·intro b o B y;obtain⟨t,j⟩:=r.2.2 b o y;have C:b≠e:=λz=>out (z▸B);refine⟨t,?_⟩;rw[Wg _ _ (Js (Yu j)),Wg _ _ (ib C)];exact Yb _ j
 ·rw[Wg _ _ (Js lt),I];obtain⟨c,dd,da,t⟩:=v;cases f;rfl
 ·exact Wk _ E (uC (uJ rfl _))
end
theorem Rl
  (fr:A.frames=O (env::outer))(kO:s1.heap.FunFrames base (env::outer))(B:∀b∈cW (env::outer),H1 b=aF)(hL:env.frame=O L)(cx:jn b P w (env::outer) H1 s1 E e s')
  (k:∀s3,jn b P w (env::outer) H1 s1 E e s3->Q () s3):
  wpAny (model P w) A (noteFrame e env) (λ_ s2=>wpAny (model P w) A (setFlight e aF) Q Er s2) Er s':=by
 obtain⟨a,C,d,D,vs,rfl,lo,os,bare,un,ay,ha,xr,⟨fl,fz⟩,q⟩:=cx;obtain⟨oe,at_,cls,dic,n,sz⟩:=xr;have nx:∀b:U,b∉([]:Z U):=λb z=>absurd z QS;have m:s'.heap.FunFrames base (env::outer):=by
  have all:∀l:Z Env,(∀b∈cW l,b∈cW (env::outer))->s1.heap.FunFrames base l->s'.heap.FunFrames base l:=by
   intro l;induction l with
   |nil=>exact λ_ _=>trivial
   |cons x r ih=>
    rintro hs ⟨kd,⟨L',o,j,W,f,F⟩,R⟩;have X:L'∈cW (x::r):=by
     unfold cW;rw[Jt,j];exact Yg
    obtain⟨N,v⟩:=un.slot L' o f (B L' (hs _ X)) (hs _ X) (nx _);refine⟨kd,⟨L',_,j,W,v,F⟩,ih (λb h=>hs b ?_) R⟩;unfold cW at h⊢;rw[Jt,j];exact Yw _ h
  exact all _ (λ_ z=>z) kO
 have Vh:s1.heap.get? a=aF:=CT lo;have cI:∀b∈cW (env::outer),∃o,s'.heap.get? b=O o/\∀ws,o.data≠.fields ws:=λb h=>(m.mem h).2;have WS:∀b∈cW (env::outer),D b=aF:=λb h=>by
  obtain⟨_,o,f,_⟩:=kO.mem h;exact un.free b o f (B b h) (nx _)
 have frS:∀b∈cW (env::outer),b<s1.heap.objs.size:=λb h=>let⟨_,o,f,_⟩:=kO.mem h;Yu f
 --ZjF is wanted of any Zl5 end
 have fin:∀(h':cS) (T:U) (p:c8 a7),(∀b o,b≠a->b∉cW (env::outer)->s1.heap.objs.size<=b\/D b≠aF\/s'.heap.get? b=O o->s'.heap.get? b=O o->(D b≠aF\/b<s1.heap.objs.size)->h'.get? b=O o)->
   (∀b o,b∈cW (env::outer)->s'.heap.get? b=O o->∃N,h'.get? b=O {o with slots:=N})->h'.get? a=O {oe with data:=.fields (vs.setIfInBounds 1 (.ref T))}->
   s'.heap.objs.size<=T->T≠a->h'.get? T=O {cls:=.type "traceback",dict:=aF,data:=.fields p}->p[3]?=O Value.none->jn b P w (env::outer) H1 s1 E (.ref a) {s' with heap:=h'}:=by
  intro h' T p kp N ea lT neT eT t3;have C4:∀b o,b≠a->b∉cW (env::outer)->s'.heap.get? b=O o->(D b≠aF\/b<s1.heap.objs.size)->h'.get? b=O o:=λb o t H I G=>kp b o t H (.inr (.inr I)) I G;have szs:s1.heap.objs.size<=s'.heap.objs.size:=Yy lo (J1 (Yu at_));have nT:D T=aF:=ay.fresh lT;have WT:gU h' a C (O d) (vs.setIfInBounds 1 (.ref T)):=⟨_,ea,cls,dic,rfl,by rw[WU];exact sz⟩;have Lb:dv P w D h':=by
   intro b o h;by_cases e1:b=a
   ·subst e1;rw[ha] at h;cases h;exact Ui WT
   ·have F:b∉cW (env::outer):=λz=>by rw[WS b z] at h;cases h
    have own:∀c,D c=O (.own b)->c≠a:=λc i z=>by rw[z,ha] at i;cases i
    refine(ay b o h).iN (λc u i g=>?_) (λc i=>i) (λc xs i=>i);rcases i with rfl|i;·exact C4 _ u e1 F g (.inl (by rw[h];simp))
    ·exact C4 c u (own c i) (λz=>by rw[WS c z] at i;cases i) g (.inl (by rw[i];simp))
  refine⟨a,C,d,D,_,rfl,lo,os,bare,⟨λb o f W j J=>?_,λb o f W j J=>?_,un.free,λb o f J=>?_,un.iC,un.iO,un.jd⟩,Lb,ha,WT,⟨.inr ⟨T,_,p,by simp[sz],Yy szs lT,nT,eT,rfl,t3⟩,λz=>by rw[Jq QD];exact fz z⟩,q⟩
  ·have v:=un.keep b o f W j J;exact C4 b o (λz=>by rw[z,Vh] at f;cases f) j v (.inr (Yu f))
  ·obtain⟨s0,v⟩:=un.slot b o f W j J;obtain⟨s2,g3⟩:=N b _ j v;exact⟨s2,g3⟩
  ·obtain⟨o',v⟩:=un.there b o f J;have h:b≠a:=λz=>by rw[z,Vh] at f;cases f
   by_cases j:b∈cW (env::outer)
   ·obtain⟨s2,g3⟩:=N b _ j v;exact⟨_,g3⟩
   ·exact⟨o',C4 b o' h j v (.inr (Yu f))⟩
 have hE:(env.frame=O L):=hL;unfold noteFrame;simp only[hE];refine bg ?_;rcases fl with z|⟨T0,oT,zx,z,lT,Mf,g0,d0,t0⟩
 ·refine mr at_ n z ?_;rw[bt QD];refine O6 fr m hL at_ n sz λh' T p k1 k2 k3 k4 k5 k6 k7=>k _ (fin h' T p (λb o t H _ I _=>k1 b o t H I) k2 k3 k4 k5 k6 k7)
 ·refine mr at_ n z ?_;rw[bS QS];have C5:T0≠a:=λy=>by rw[y,ha] at Mf;cases Mf
  refine bg (mr g0 d0 t0 ?_);rw[bt (by simp[rawInt])];refine bg (pR g0 d0 (WV.mp t0).1 ?_);have aG:∀b,b≠T0->(s'.heap.update T0 (Obj.mapFields (·.setIfInBounds 3 Value.none))).get? b=s'.heap.get? b:=λb h=>Wg _ _ (ib h);have fT:T0∉cW (env::outer):=λy=>by
   obtain⟨o,f,F⟩:=cI T0 y;rw[g0] at f;cases f;exact F _ d0
  have szu:(s'.heap.update T0 (Obj.mapFields (·.setIfInBounds 3 Value.none))).objs.size=s'.heap.objs.size:=Heap.size_after_update ..;refine O6 (s:={s' with heap:=s'.heap.update T0 (Obj.mapFields (·.setIfInBounds 3 Value.none))}) fr (m.of_keeps λb o f F=>⟨o,(aG b λy=>by rw[y,g0] at f;cases f;exact F _ d0).trans f,rfl⟩) hL ((aG a (ib C5)).trans at_) n sz
   λh' T p k1 k2 k3 k4 k5 k6 k7=>k _ (fin h' T p (λb o t H _ I G=>?_) (λb o t H=>?_) k3 (by rw[←szu];exact k4) k5 k6 k7)
  ·have nb:b≠T0:=λy=>by
    subst y;rcases G with G|G;·exact G Mf
    ·exact absurd lT (Nat.not_le.mpr G)
   exact k1 b o t H ((aG b nb).trans I)
  ·exact k2 b o t ((aG b λy=>fT (y▸t)).trans H)
def wG.mono{a b:Nat}(f:wG a H h vs)(l:b<=a):wG b H h vs:=by
 rcases f with z|⟨T,d,c,g,e,r⟩;·exact .inl z
 ·exact .inr ⟨T,d,c,g,Yy l e,r⟩
def tT(b:cm)(X:Cx)(E:St->XK):Prop:=∀(a:aX) (c:St) (H:Hp) (s:bU) (e:a7) (d:bU),Inv X a c H s->jn b X.prog X.w X.stack H s (E c) e d->X.xe e d
abbrev KA:=tT ar
def Inv.S2(I:Inv X pins σ H1 s1)(j:jn b X.prog X.w X.stack H1 s1 E e s3):
  ∃(a C d:U) (H':Hp) (c:c8 a7),e=.ref a/\s1.heap.objs.size<=a/\Inv X pins σ H' s3/\H' a=O (xo a C (O d))/\gU s3.heap a C (O d) c/\(wG s1.heap.objs.size H' s3.heap c/\(b=ar->c[2]?=O Value.none))/\E (.ref C) (O d) H':=by
 refine gG λm l=>?_;obtain⟨a,C,d,H',c,rfl,lo,os,f,un,k,h,g,i,q⟩:=j;refine l ?_;exact⟨a,C,d,H',c,rfl,lo,I.Ku os un k f (λb z=>absurd z QS),h,g,i,q⟩
section
variable {P:c9}{w:cX}{K:ah}{Q:aR}{T:cS}{N:Z af}{R:af}{X:Scope}{f:U}{L:a7}{A:d_}{W:Z Env}{s:bU}{H:Hp}{E:XK}
def KC{b c:cm}(z:(b||!c)=ar:=by decide):tT b (kN (jn c P w) P w K Q T N R X f L A W s H E) (λ_=>E):=by
 intro g p u t e k I m;show wpAny (model P w) _ (leaving _ e) _ _ k;unfold leaving;refine bg (Rl I.ok.frames I.stack I.Ba rfl m λr n=>?_);obtain⟨a,C,d,o,j,rfl,lo,J,l,i,h,q⟩:=I.S2 n;have sz:=I.sz;exact⟨a,C,d,o,j,rfl,Yy sz lo,J.os,J.bare,J.base,J.ay,l,i,⟨h.1.mono sz,λy=>h.2 (by subst y;cases b<;>first|rfl|cases z)⟩,q⟩
def Le:PassesOwn (model P w) (kN (jn b P w) P w K Q T N R X f L A W s H E).A (kN (jn b P w) P w K Q T N R X f L A W s H E).env (kN (jn b P w) P w K Q T N R X f L A W s H E).xe:=
 λe a h=>PassesOwn.leaving e a h
end
def ZhG(c:Sp)(d:Z V)(E:St->XK)(t:TA):TE:=λa H Q=>t a H λb e=>c (b++d) e Q (E a)
def Uj(b:cm)(P:c9)(w:cX)(K:ah)(d:aR)(a:cS)(k:Nat)(x:af)(c:Z af)(g:Sp):Prop:=
 ∃f e,aE P w K d a (jn b P w) k f e c g/\Binds K e c []/\keepIn K (.ref f)=ar/\d x=O (.ref f)
abbrev Vi:=Uj ar
section
variable {X:Cx}{k j:Nat}{f C:U}{N:FuncData}{ps:Z af}{P:Sp}{E:St->XK}{x m:af}{p W T:Pos}{e o:cu}{R:Z cu}{L:TE}{t:TA}
theorem Rm(F:aE X.prog X.w X.K X.mg X.base (jn b X.prog X.w) k f N ps P)(l:cK k X.A)(u:Binds X.K N ps ds)(q:Vals d ds)(i:tT b X E)
  (I:Inv X pins σ H s)(r:Vals vs us)(h:P (vs++d) H Q (E σ)):wpAny X.md X.A (call (.ref f) us) (EP X pins σ Q) X.xe s:=by
 have c:=r.append q;have n:(us++ds).length=ps.length:=by exact c.length▸F.len _ _ _ _ h
 refine mu (lN (F.run X.A X.stack s H ⟨us,[]⟩ (us++ds) (vs++d) Q (E σ) l I.B5 (u s us I.cA n) c h) λr g a=>?_);cases r with
 |error e=>exact i pins σ H s e g I a
 |ok v=>cases v<;>first|exact I.after a|exact False.elim a
def ZhH{b:cm}(h:Uj b X.prog X.w X.K X.mg X.base k x ps P)(l:cK j X.A)(u:k<=j)(i:tT b X E)(v:Gl X x)(y:PA X (e::R) t)
  (z:(x==("__debug__":af))=a_:=by decide)(w:iQ X e R:=by rfl)(A:jj X W R:=by rfl):
  PE X (.Call (.Name x p) (e::R) [] W) (ZhG P [] E t):=by
 obtain⟨f,N,F,b,g,n⟩:=h;intro a s d H Q I h;exact nV (sZ I v n (nq I.ok.mod.nJ g (az (y W a s d H _ I h) λD G L=>by obtain⟨B,J,c,r,q⟩:=L;exact⟨c.cA,Rm F (l.mono u) b .nil i c r q⟩) w A) z)
def S3(C:U)(m:af)(P:Sp)(E:St->XK)(L:TE)(t:TA):TE:=λb H Q=>L b H λx c=>∃a g fs,x=.ref a/\c a=O (.ins C g fs)/\fs.lookup m=aF/\t b c λd h=>P (x::(d++[])) h Q (E b)
def ZeE{b:cm}{G:Sem cm}(he:PE X o L)(c:gq X.K C)(n:Meth X.K C m f)(F:aE X.prog X.w X.K X.mg X.base (jn b X.prog X.w) k f N ps P)(hr:cK k X.A)(hb:Binds X.K N ps [])(J:tT b X E)(ha:PA X (e::R) t)
  (dz:iQ X e R:=by rfl)(cj:jj X W R:=by rfl)
  (ht:eval (.Call (.Attribute o m T) (e::R) [] W) X.env=(do
   let i←eval o X.env
   standAt T.atName
   let(f,first)←holding [i] (getMethod i m G)
   callWith W f first (backTo W (starEach (e::R) X.env)) (backToKw W (keywordEach [] X.env))):=by rfl):
  PE X (.Call (.Attribute o m T) (e::R) [] W) (S3 C m P E L t):=by
 intro d s g H Q I h;refine qp (az (he d s g H _ I h) λu A y=>?_) ht;obtain⟨x,H1,w,B,a,dx,fs,ex,ea,l,q⟩:=y;subst ex;obtain rfl:u=Value.ref a:=B;exact GL w ea c n l (nq I.ok.mod.nJ n.kp (az (ha W d A g H1 _ w q) λus s2 zz=>by obtain⟨z,H2,v,r,D⟩:=zz;exact⟨v.cA,Rm (vs:=.ref a::z) F hr hb .nil J v (.cons rfl r) D⟩) dz cj)
end
section
variable {P:c9}{w:cX}{K:ah}{W:aR}{X:cS}
def aM.Mg{b:cm}{x d:af}{g:cb}{f:U}{l:FuncData}{N i:Z af}{k:Nat}{sp:Sp}(F:aM K x d g f l)(a:aP N i (aJ g))(j:∀e H Q E,sp e H Q E->e.length=i.length)
  (m:∀(h:a7) (A:d_) (c:Z Env) (s:bU) (H:Hp) (e:Z V) (Q:VK) (E:XK),cK k (A.deeper (envOfC d (aJ g) s.heap.objs.size f h))->sp e H Q E->
   ∃t,fR (kN (jn b P w) P w K W X N d (aJ g) f h A c s H E) (i4 g) t/\t {nx:=λ_ u=>Q .aC u,rt:=Q} (start N e) H):aE P w K W X (jn b P w) (k+1) f l i sp:=by
 obtain⟨z,y,kV,r,v,D,h,C,B,rfl,o,q⟩:=F.ex;exact Kx o q a j λA c s H e Q E p n=>m h A c s H e Q E p n
end
structure wc(K:ah)(C f:U):Prop where
 nG:∃(nm q:af) (N:U) (bs bm:Z a7) (sn:Z af) (sub:Z a7) (ab:cm) (col:bw cm) (dd:bw U) (k0 k1 k2 k3 k5:bw a7),
  K.lookup C=O (excClassObj nm q C N bs bm ar sn sub ab col dd k0 k1 k2 k3 k5 "ValueError.__new__")
 mM:PySem.W.mroIn K C (.type "ValueError")=O ar
 zy:PySem.W.mroIn K C (.type "BaseException")=O ar
 kX:PySem.W.mroIn K C (.type "AttributeError")=O a_
 uz:PySem.W.mroIn K C (.type "NameError")=O a_
 init:PySem.W.findIn K (.ref C) "__init__"=O (O (.ref f))
 fn:isFn K (.ref f)=ar
 kp:keepIn K (.ref C)=ar
def yj{K:ah}
  (l:K.lookup C=O (excClassObj nm q C N bs bm hd sn sub j col i g f e d c a))(h:PySem.W.mroIn K C v=O b):(Value.ref C::bm).contains v=b:=by
 unfold PySem.W.mroIn PySem.W.clsIn at h
 simp_all
section
variable {X:c9}{w:cX}{A:d_}{E:bb}{h:cS}{g:c8 GenState}{d:Drawn}{t:Nat}{os:OsState}
variable {D q:af}{C N:U}{bs W:Z a7}{F:cm}{J:Z af}{sub:Z a7}{v:cm}{T:bw cm}{L:bw U}{B P H I y:bw a7}
local macro_rules|`(tactic|walk_at "vlu")=>`(tactic|exact excBase_ValueError)
def ZdH(a:h.get? C=O (excClassObj D q C N bs W F J sub v T L B P H I y "ValueError.__new__"))(b:(Value.ref C::W).contains (.type "ValueError")=ar)
  (z:Q () ⟨h,g,d,t,os⟩):wpAny M A (checkBuiltinCall "ValueError.__new__" ⟨.ref C::rest,[]⟩) Q E ⟨h,g,d,t,os⟩:=by
 have G:=pC;simp[checkBuiltinCall,G.newKind,G.newSplit,G.newRow];repeat (first|refine kB a ?_|(refine m9 a ?_;rw[b])|refine wpAny_staticBase_exc a ?_|refine Nb a ?_|simp only[uR,xp]|wp_step)
 exact z
def ZeF{R:Result->bU->Prop}{a:Z a7}(b:h.get? C=O (excClassObj D q C N bs W F J sub v T L B P H I y "ValueError.__new__"))(i:(Value.ref C::W).contains (.type "ValueError")=ar)
  (k:(Value.ref C::W).contains (.type "AttributeError")=a_)(f:(Value.ref C::W).contains (.type "NameError")=a_)
  (z:R (.ok (.ret (.ref (h.objs.size+1)))) ⟨(h.push {cls:=.type "tuple",data:=.seq a.toArray}).push {cls:=.ref C,data:=.fields #[.ref h.objs.size,.none,.none,.none,.bool a_,.none]},g,d,t,os⟩)(j:a.length<=sizeLine):
  codeAny (model X w) A (.builtin "ValueError.__new__" ⟨.ref C::a,[]⟩) R ⟨h,g,d,t,os⟩:=by
 have G:=pC;have e:=G.ends;refine codeAny_builtinAt G.entry ?_;refine Vf ?_;refine Vf (PySem.wpAt_stack λp c=>Dh ?_)
 wp_walk
 refine Dh ?_;rw[G.owner];repeat (first|with_reducible refine wpAny_madeHere_exc G.canon b ?_|with_reducible refine kB b ?_|(with_reducible refine m9 b ?_;first|rw[i]|rw[k]|rw[f])|wp_step)
 simp_all
def ZeG{a:Z a7}{k:U}{Q:Fin->bU->Prop}(c:h.get? C=O (excClassObj D q C N bs W F J sub v T L B P H I y "ValueError.__new__"))(n:(Value.ref C::W).contains (.type "ValueError")=ar)
  (R:(Value.ref C::W).contains (.type "AttributeError")=a_)(p:(Value.ref C::W).contains (.type "NameError")=a_)
  (u:PySem.W.Looks (model X w) h (typeLookup (.ref C) "__init__") (O (.ref k)))(s:PySem.W.Looks (model X w) h (typeOf (.ref k)) (.type "function"))
  (z:wpAny (model X w) A (call (.ref k) (.ref (h.objs.size+1)::a)) (λr m=>r=.none/\Q (.done (.ret (.ref (h.objs.size+1)))) m) E
   ⟨(h.push {cls:=.type "tuple",data:=.seq a.toArray}).push {cls:=.ref C,data:=.fields #[.ref h.objs.size,.none,.none,.none,.bool a_,.none]},g,d,t,os⟩)(i:a.length<=sizeLine):
  wpAny (model X w) A (Builtin.«type.__call__» ⟨.ref C::a,[]⟩) Q E ⟨h,g,d,t,os⟩:=by
 have G:=pC;repeat (first|with_reducible refine kB c ?_|with_reducible refine Nb c ?_|wp_step)
 refine codeAny_call_builtin_code (J6 _ G.quiet) (ZdH c n (ZeF c n R p ?_ i));show wpAny _ _ _ _ _ _;have f:∀b o,h.get? b=O o->((h.push {cls:=.type "tuple",data:=.seq a.toArray}).push {cls:=.ref C,data:=.fields #[.ref h.objs.size,.none,.none,.none,.bool a_,.none]}).get? b=O o:=
  λb o e=>Yb _ (Yb _ e)
 have j:=f _ _ c;have l:(Value.ref C::W).contains (.ref C)=ar:=QS
 unfold isInstance;repeat (first|with_reducible refine kB here ?_|(with_reducible refine m9 j ?_;rw[l])|wp_step)
 refine(u.keeps f) _ _ _ _ (λ_ _ e=>e) ?_;refine iG (bg ?_);unfold bindSpecial;refine bg ((s.keeps f) _ _ _ _ (λ_ _ e=>e) ?_);rw[bS QD];refine cG (bg (dD z (λr m hr=>?_) λ_ _ x=>x));obtain⟨rfl,hQ⟩:=hr
 wp_walk
 exact hQ
def ZeH{a:Z a7}{e:U}{Q:bb}(c:h.get? C=O (excClassObj D q C N bs W F J sub v T L B P H I y "ValueError.__new__"))(j:(Value.ref C::W).contains (.type "ValueError")=ar)
  (m:(Value.ref C::W).contains (.type "AttributeError")=a_)(f:(Value.ref C::W).contains (.type "NameError")=a_)
  (l:PySem.W.Looks (model X w) h (typeLookup (.ref C) "__init__") (O (.ref e)))(k:PySem.W.Looks (model X w) h (typeOf (.ref e)) (.type "function"))
  (z:wpAny (model X w) (A.under (.builtin "type.__call__" ⟨.ref C::a,[]⟩)) (call (.ref e) (.ref (h.objs.size+1)::a)) (λr i=>r=.none/\Q (.ref (h.objs.size+1)) i) E
   ⟨(h.push {cls:=.type "tuple",data:=.seq a.toArray}).push {cls:=.ref C,data:=.fields #[.ref h.objs.size,.none,.none,.none,.bool a_,.none]},g,d,t,os⟩)(b:a.length<=sizeLine):
  wpAny (model X w) A (call (.ref C) a) Q E ⟨h,g,d,t,os⟩:=by
 have o:=tc_lookup;have n:=tc_bind (.ref C);refine mu (TF ?_);repeat (any_goals (first|assumption|with_reducible refine kB c ?_|wp_step))
 exact⟨rfl,codeAny_call_builtin_at (J6 _ QK) entry_typeCall (wpAny_check_type_call_sub c (ZeG c j m f l k z b))⟩
end
end L2
namespace L2
open PySem PySem.Spec PyProof.Rows
open PySem.W (Looks InstAt looks_findIn looks_typeIn looks_clsIn looks_mroIn looks_find findObj findIn mroIn clsIn)
abbrev qr:Z a7:=[.type "ValueError",.type "Exception",.type "BaseException",.type "object"]
structure dJ(K:ah)(C:U):Prop where
 nG:∃(nm q:af) (N:U) (bs:Z a7) (cs:Z U) (sn:Z af) (sub:Z a7) (ab:cm) (col:bw cm) (dd:bw U) (k0 k1 k2 k3 k5:bw a7),
  K.lookup C=O (excClassObj nm q C N bs (cs.map Value.ref++qr) ar sn sub ab col dd k0 k1 k2 k3 k5 "ValueError.__new__")
 ga:findIn K (.ref C) "__getattribute__"=O (O (.builtin "BaseException.__getattribute__"))
 gh:findIn K (.ref C) "__getattr__"=O aF
 sa:findIn K (.ref C) "__setattr__"=O (O (.builtin "object.__setattr__"))
 cl:findIn K (.ref C) "__class__"=O (O (.builtin "object.__class__"))
 cg:specialIn K (.builtin "object.__class__") "__get__"=O (O (.builtin "getset_descriptor.__get__"))
 ct:takesIn K (.builtin "object.__class__")=O ar
def Uk(C:U)(a:Z U)(v:a7)(h:qr.contains v=ar):(Value.ref C::(a.map Value.ref++qr)).contains v=ar:=by
 grind
def dJ.mro{K:ah}(x:dJ K C)(v:a7)(h:qr.contains v=ar):mroIn K C v=O ar:=by
 obtain⟨c,q,N,bs,k,b,sub,m,a,j,i,g,f,e,d,l⟩:=x.nG;unfold PySem.W.mroIn PySem.W.clsIn
 grind
def dJ.hd{K:ah}(x:dJ K C):hasDictIn K C=ar:=by
 obtain⟨c,q,N,bs,j,b,sub,k,a,i,h,g,f,e,d,l⟩:=x.nG;unfold hasDictIn PySem.W.clsIn;rw[l];rfl
def gU.inst(x:gU h a C (O d) l)(e:h.get? d=O f):∃b,InstAt h a b C (O f):=by
 obtain⟨c,k,j,i,g,_⟩:=x;refine⟨c,k,j,?_,?_⟩
 ·unfold notCls;rw[g]
 ·rwa[i]
def gU.Zi_(x:gU h a C aF g):∃b,InstAt h a b C aF:=by
 obtain⟨c,f,e,i,d,_⟩:=x;refine⟨c,f,e,?_,?_⟩
 ·unfold notCls;rw[d]
 ·grind
section
variable {W:c9}{w:cX}{A:d_}{E:bb}{s:bU}{K:ah}{x C:U}{L:Obj}{P:bw Obj}{T:af}
def S4(d:K.In s.heap)(I:InstAt s.heap x L C P)(X:dJ K C)
  (k:wpAny (model W w) A.in1 (Builtin.«object.__getattribute__» ⟨[.ref x,.str T c],[]⟩) (λfin a=>match fin with|.done f=>R (.ok f) a|.again b=>b.quiet=ar/\codeAny (model W w) A b R a) (λe a=>R (.error e) a) s):
  codeAny (model W w) A (.call (.builtin "BaseException.__getattribute__") ⟨[.ref x,.str T c],[]⟩) R s:=by
 have G:=PySem.F.attr_ValueError;exact uE G.ga.plain PySem.F.entry_bexc_ga (check_slot (i:="BaseException.__getattribute__") (owner:="BaseException") (n:="__getattribute__") QK QK ((I.type).andThen (looks_mroIn d (X.mro _ QD))) (PySem.F.args_bexc_ga _ _) k)
theorem S5{b a:cm}(d:K.In s.heap)(I:InstAt s.heap x L C P)(X:dJ K C)
  (k:codeAny (model W w) A (.call (.builtin "BaseException.__getattribute__") ⟨[.ref x,.str T i],[]⟩) (λr c=>match r with|.ok (.ret v)=>handedIn v=ar/\Q v c|_=>False) s):
  wpAny (model W w) A (getAttrBy (.ref x) (.str T i) b a) Q E s:=by
 refine iG (bg ((I.type).here (bg ((looks_findIn d X.ga).here ?_))));refine bg ((looks_findIn d X.gh).here (bg (wpAny_attempt (iG ?_))));unfold callGetattribute;rw[bt (by cases a<;>exact Yq)];refine bg (cG (mu (lN k λr c z=>?_)));cases r with
 |error e=>grind
 |ok f=>
  cases f with
  |ret v=>
   obtain⟨h,g⟩:=z;show wpAny _ _ (handedOut v) _ _ _;rw[PySem.W.handedOut_of h];exact cG g
  |next=>grind
  |brk=>grind
  |cont=>grind
def Zj4{a:cm}{v:a7}{Q:bb}(b:K.In s.heap)(I:InstAt s.heap x L C P)(X:dJ K C)(d:findObj K C P T=O (.value v))(c:handedIn v=ar)(q:Q v {s with toks:=s.toks+1}):
  wpAny (model W w) A (getAttr (.ref x) T a) Q E s:=by
 exact bg (wpAny_mkText (S5 b I X (S4 b I X (bg (cG (bg (cG (bg ((I.type).at (bg ((looks_find b I d).at (cG (ra c q)))))))))))))
def ZcH{P:Obj}{Q:bw a7->bU->Prop}(a:K.In s.heap)(I:InstAt s.heap x L C (O P))(X:dJ K C)(q:Q (O (.ref C)) {s with toks:=s.toks+1}):wpAny (model W w) A (getAttr? (.ref x) "__class__") Q E s:=by
 exact bg (wpAny_mkText (bg (wpAny_attempt (S5 a I X (S4 a I X (bg (cG (bg (cG (bg ((I.type).here (s:={s with toks:=s.toks+1}) (bg ((looks_find a I (PySem.W.findObj_data (by obtain⟨c,b,_⟩:=tc X.hd;rw[b];rfl) X.cl X.cg X.ct)).here (s:={s with toks:=s.toks+1}) (bg (iG (mu (PySem.W.class_get a I (X.mro _ QD) (cG ⟨rfl,cG q⟩))))))))))))))))))
theorem ZeI{P:Obj}(X:dJ K C):KitX K (.ref x) (.ref C) (λh=>∃L,InstAt h x L C (O P)) where
 ty:=λ_ _ _ ⟨_,I⟩=>I.type
 it:=λ_ _ a _=>by
  obtain⟨d,q,N,bs,r,c,sub,t,b,p,m,j,i,g,f,l⟩:=X.nG;intro H F G B k q;exact bg (sH (k _ _ (a _ _ l)) (cG q))
 ne:=λh u o D n v a e=>by
  obtain⟨d,q,N,bs,r,c,sub,t,b,p,m,j,i,g,f,l⟩:=X.nG;refine J9.mpr λz=>?_;have z:=Value.ref.inj (beq_iff_eq.mp z);subst z;have y:=d6 Obj.cls (Yo ((a _ _ l).symm.trans e))
  grind
 ca:=λa ⟨_,I⟩ k=>ZcH a I X k
theorem Ow(a:a7):∀b:Z U,refuseLoop a "__setattr__" (b.map Value.ref++qr)=pure ()
 |[]=>PySem.F.store_ValueError.passes a
 |c::r=>by
  show refuseLoop a "__setattr__" (.ref c::(r.map Value.ref++qr))=pure ();rw[V3];exact Ow a r
def Vj{v:a7}{Q:Unit->bU->Prop}(b:K.In s.heap)(I:InstAt s.heap x L C P)(X:dJ K C)(d:findIn K (.ref C) T=O aF)
  (k:wpAny (model W w) A.in1 (Builtin.ObjectAttr.storeInOwnDict (.ref x) (.ref C) (.str T s.toks) T v a_) (λfin c=>fin=PySem.Fin.done (.ret .none)/\Q () c) (λ_ _=>False) {s with toks:=s.toks+1}):
  wpAny (model W w) A (setAttr (.ref x) T v) Q E s:=by
 have a:=PySem.F.store_object;refine set_plain b I X.sa ?_;have sub:Looks (model W w) s.heap (isInstance (.ref x) (.type "object")) ar:=I.type.andThen (looks_mroIn b (X.mro _ QD));refine uE a.slot.plain a.entry (@check_slot (model W w) _ _ {s with toks:=s.toks+1} "object.__setattr__" "object" "__setattr__" (.ref x) [.str T s.toks,v] [] _ a.kind a.split sub (a.args (.ref x) (.str T s.toks) v) ?_);refine gG λB y=>?_;obtain⟨j,q,N,bs,f,h,i,u,g,t,r,p,o,n,m,l⟩:=X.nG;refine y ?_;have e:Looks (model W w) s.heap (mroOf (.ref C)) (.ref C::(f.map Value.ref++qr)):=(looks_clsIn b (by unfold PySem.W.clsIn;rw[l])).andThen .now;rw[osa_eq,refuse_eq];refine bg (bg (I.type.here (s:={s with toks:=s.toks+1}) (bg (e.here (s:={s with toks:=s.toks+1}) ?_))));rw[V3,Ow];refine cG (bg (I.type.here (s:={s with toks:=s.toks+1}) (bg ((looks_findIn b d).here (s:={s with toks:=s.toks+1}) (bg (cG ?_))))));refine dD k (λfin c z=>?_) λ_ _ z=>z.elim;obtain⟨rfl,z⟩:=z;exact z
end
def xq(d:U)(b:Z (af×V)):HO:=.ext λh=>∃a,h.Ns1 d a/\(∀f,eR (b.lookup f) (a f))/\PySem.Within a (b.map (·.1))
def Ul(n:h.Ns1 d a)(r:∀f,eR (fs.lookup f) (a f))(b:PySem.Within a (fs.map (·.1))):cQ P w H h d (xq d fs):=
 ⟨⟨a,n,r,b⟩,let⟨o,_,_,e,_⟩:=n;⟨o,e⟩,λ_ _ g k=>by obtain⟨m,y,q⟩:=g;exact⟨m,y.at k,q⟩⟩
def JV(b:dv P w H h)(e:H d=O (xq d fs)):∃a,h.Ns1 d a/\(∀f,eR (fs.lookup f) (a f))/\PySem.Within a (fs.map (·.1)):=(b d _ e).1
def Ro{mA:aR}(a:RelV y u)(r:∀g,eR (fs.lookup g) (mA g)):∀g,eR ((cR f y fs).lookup g) (if g=f then O u else mA g):=λg=>by
 rw[F2];by_cases q:g=f;·rwa[bS q,bS q]
 ·simp_all
def Ox(a:PySem.Within b (fs.map (·.1))):PySem.Within (λg=>if g=f then O u else b g) ((cR f y fs).map (·.1)):=λg c=>by
 by_cases q:g=f;·exact q▸(x8 f y fs).1
 ·refine(x8 f y fs).2 g (a g λz=>c ?_)
  simp_all
section
variable {T:c9}{w:cX}{A:d_}{E:bb}{s:bU}{K:ah}{x C:U}{W:af}{v:a7}{b:cm}{R:Tok}
def ZdI{a:Obj}{d:U}{e:aR}{f:Z af}{Q:PySem.Fin->bU->Prop}(D:K.In s.heap)(X:dJ K C)(r:s.heap.get? x=O a)(z:a.cls=.ref C)(u:a.dict=O d)(n:s.heap.Ns1 d e)(m:PySem.Within e f)(o:f.length<sizeLine)
  (k:∀c l,c.Ns1 d (λy=>if y=W then O v else e y)->Heap.SameBut d s.heap c->Q (.done (.ret .none)) {s with heap:=c,toks:=l}):
  wpAny (model T w) A (Builtin.ObjectAttr.storeInOwnDict (.ref x) (.ref C) (.str W R) W v b) Q E s:=by
 obtain⟨F,q,J,H⟩:=a;subst z u;obtain⟨I,B,t⟩:=tc X.hd;refine bg (cG (bg (bg (sH r (bg ((looks_clsIn D B).here ?_))))));rw[t];refine cG (bg (cG (bg (wh n λc g p=>?_))));obtain⟨G,N,L,j,i,h⟩:=g.count (uS W v m);exact bg (va j (by exact i▸vi (Yy h (by rw[Wh];exact tr (Xl o _)))) (cG (k _ _ g p)))
def ZdJ{a:Obj}{i:c8 a7}{Q:PySem.Fin->bU->Prop}(J:K.In s.heap)(X:dJ K C)(f:s.heap.get? x=O a)(g:a.cls=.ref C)(G:a.dict=aF)(D:a.data=.fields i)
  (k:∀d t,d.Ns1 s.heap.objs.size (λy=>if y=W then O v else aF)->d.get? x=O {a with dict:=O s.heap.objs.size}->(∀c o,c≠x->s.heap.get? c=O o->d.get? c=O o)->Q (.done (.ret .none)) {s with heap:=d,toks:=t}):
  wpAny (model T w) A (Builtin.ObjectAttr.storeInOwnDict (.ref x) (.ref C) (.str W R) W v b) Q E s:=by
 obtain⟨L,u,WX,z⟩:=a;subst g G D;obtain⟨P,I,B⟩:=tc X.hd;refine bg (cG (bg (bg (sH f (bg ((looks_clsIn J I).here ?_))))));rw[B];have h:=Y0 (Yu f);have n:(s.heap.push {cls:=.type "dict",data:=.dict #[]}).get? x=O ⟨.ref C,aF,.fields i,z⟩:=Yb _ f;refine bg (wpAny_alloc' (bg (wpAny_update' n (cG ?_))));have H:((s.heap.push {cls:=.type "dict",data:=.dict #[]}).update x λo=>{o with dict:=O s.heap.objs.size}).get? s.heap.objs.size=O {cls:=.type "dict",data:=.dict #[]}:=
  (WZ _ _ _ _ h.symm).trans (Heap.get?_push_at rfl rfl)
 refine bg (cG (bg (wh (M_ ⟨_,#[],_,H,rfl,λe F=>absurd F QS,λ_=>rfl⟩) λd l j=>?_)));obtain⟨N,WD,WE,r,q,p⟩:=l.count (uS W v PySem.Within.nil);refine bg (va r (by exact q▸vi (Yy p (by rw[Wh,WR,dg];decide))) (cG (k _ _ l ?_ λc o g m=>?_)));·exact(j.2 x h).trans (Wk _ n rfl)
 ·exact(j.2 c (Y0 (Yu m))).trans ((WZ _ _ _ _ g).trans (Yb _ m))
end
def Um(K:ah)(g e:TE)(f:af):TS:=λ D c H=>e c H λ y h=>g c h λ x b=>∃ a C,x=.ref a/\dJ K C/\dw K C f /\
  ((b a=O (xn a C aF)/\∀ d,b d=aF->d≠a->D.nx c (upd (upd b d (xq d [(f,y)])) a (xn a C (O d)))) \/
   ∃ d fs,b a=O (xn a C (O d))/\b d=O (xq d fs)/\d≠a/\fs.length < 1000/\D.nx c (upd b d (xq d (cR f y fs))))
def Uo(K:ah)(e:TE)(f:af):TE:=λc H Q=>e c H λx b=>∃a C d fs v,x=.ref a/\b a=O (xo a C (O d))/\b d=O (xq d fs)/\dJ K C/\dw K C f/\fs.lookup f=O v/\Q v b
inductive Rp(K:ah)(e:Z V)(H:Hp)(Q:VK):Prop
 |mk (a C d:U) (fs:Z (af×V)) (c:V) (u:a7) (b:cm) (l:e=[.ref a,c]) (k:RelV c u) (i:H a=O (xo a C (O d))) (j:H d=O (xq d fs)) (h:dJ K C) (g:kitOne K (.ref C) u=O b) (f:Q (.bl b) H):Rp K e H Q
def Up(K:ah):Z V->Hp->VK->Prop:=λa H Q=>Rp K a H Q
section
variable {X:Cx}{o e W:cu}{f:af}{R T:Pos}{P N:TE}
def Zgb(ha:PE X o P)(hv:PE X W N)(hs:swapsWith W (O (.Attribute o f T)) R.line X.env=pure a_:=by rfl):PS X (.Assign [.Attribute o f T] W R) (Um X.K P N f):=by
 intro p s A H D I h;refine uu (az (hv p s A H _ I h) λu s1 zq=>?_) hs;obtain⟨y,H1,I1,ry,q⟩:=zq;refine az (ha p s1 A H1 _ I1 q) λov F zq=>?_;obtain⟨x,H2,l,rx,a,C,ex,E,na,v⟩:=zq;subst ex;obtain rfl:ov=Value.ref a:=rx;rcases v with⟨m,v⟩|⟨d,fs,m,ed,nd,lim,v⟩
 ·obtain⟨vs,r,v1⟩:=BA l.ay m;obtain⟨ox,J⟩:=r.Zi_;obtain⟨oe,e1,e2,e3,e4,e5⟩:=r;refine Vj l.cA J E na (ZdJ l.cA E e1 e2 e3 e4 λh' tk L ex kp=>⟨rfl,?_⟩);have w:=l.ay.fresh (Yh _);have ne:=Js (Yu e1);refine⟨A,_,?_,v F.heap.objs.size w ne⟩;have Mh:gU h' a C (O F.heap.objs.size) vs:=⟨_,ex,e2,rfl,e4,e5⟩;refine l.un ⟨λb j i n _ _=>?_,λb j i n fr _=>?_,λb j i n _=>?_,λb j i _=>?_,λb B i=>?_,λb j u i=>?_,λb ps i=>?_⟩ λb j i=>?_;·exact kp b j (λz=>by rw[z,m] at n;cases n) i
  ·exact⟨j.slots,kp b j (λz=>by rw[z,m] at n;cases n) i⟩
  ·rw[aN (λz=>by rw[z,m] at n;cases n),aN (Y0 (Yu i))];exact n
  ·by_cases z:b=a;·exact⟨_,z▸ex⟩
   ·exact⟨j,kp b j z i⟩
  ·rw[aN (λz=>by rw[z,m] at i;cases i),aN (λz=>by rw[z,w] at i;cases i)];exact i
  ·rw[aN (λz=>by rw[z,m] at i;cases i),aN (λz=>by rw[z,w] at i;cases i)];exact i
  ·exact⟨#[],by rw[aN (λz=>by rw[z,m] at i;cases i),aN (λz=>by rw[z,w] at i;cases i),i];simp⟩
  ·by_cases z:b=a
   ·subst z;rw[aT] at i;cases i;exact(λH0=>Kz Mh v1) _
   ·rw[aN z] at i;by_cases z2:b=F.heap.objs.size
    ·subst z2;rw[aT] at i;cases i;exact(λH0=>Ul L (Ro (fs:=[]) (mA:=λ_=>aF) ry λg=>trivial) (Ox λ g=>absurd rfl)) _
    ·rw[aN z2] at i;have G:∀c t,H2 c=O t->t=.own b\/(∃B,t=.tup B)->c≠a/\c≠F.heap.objs.size:=λc t k Q=>by
      refine⟨λy=>?_,λy=>by rw[y,w] at k;cases k⟩;rw[y,m] at k;cases k;rcases Q with Q|⟨B,Q⟩<;>cases Q
     refine(l.ay b j i).iN (λc u k hg=>?_) (λc k=>?_) λc B k=>?_;·grind
     ·rwa[aN (G c _ k (.inl rfl)).1,aN (G c _ k (.inl rfl)).2]
     ·rwa[aN (G c _ k (.inr ⟨_,rfl⟩)).1,aN (G c _ k (.inr ⟨_,rfl⟩)).2]
 ·obtain⟨vs,r,v1⟩:=BA l.ay m;obtain⟨mA,n1,rl,wi⟩:=JV l.ay ed;obtain⟨od,_,_,kZ,_⟩:=id n1;obtain⟨ox,J⟩:=r.inst kZ;obtain⟨oe,e1,e2,e3,e4,e5⟩:=r;refine Vj l.cA J E na (ZdI l.cA E e1 e2 e3 n1 wi (by rw[Ya,dg];exact nA lim (by decide)) λh' tk L sb=>⟨rfl,A,_,?_,v⟩);have hd:∃o,h'.get? d=O o:=let⟨o,_,_,e',_⟩:=L;⟨o,e'⟩;exact l.write (by exact ed▸hY) (.inl rfl) (λb q i z=>(sb.2 b i).trans z) hd (Ul L (Ro ry rl) (Ox wi))
def Zgc(B:PE X e P)(D:attributeBase e f X.env (eval e X.env)=eval e X.env:=by rfl):PE X (.Attribute e f R) (Uo X.K P f):=by
 intro b s j H Q I h;refine Q_ D (az (B b s j H _ I h) λu s1 k=>?_);obtain⟨x,L,c,n,a,C,d,fs,v,E,G,F,g,t,l,q⟩:=k;subst E;obtain rfl:u=Value.ref a:=n;obtain⟨vs,m⟩:=S1 c.ay G;obtain⟨mA,w,p,wi⟩:=JV c.ay F;obtain⟨od,z,y⟩:=Hy w;obtain⟨ox,J⟩:=m.inst z;have r:=p f;rw[l] at r;obtain⟨u,A,i⟩:=r.some_of;exact Zj4 c.cA J g (findObj_own g.hd t rfl (by rw[y,A])) (OY i) ⟨v,L,c.tok _,i,q⟩
def Zbc:df X (.builtin "isinstance") (Up X.K):=by
 rintro j s E H F us Q I r ⟨a,C,d,fs,c,u,b,rfl,h,B,A,n,e,q⟩;obtain⟨p,g,rfl,v,i⟩:=vals2 r;obtain rfl:p=Value.ref a:=v;obtain⟨L,m⟩:=S1 I.ay B;obtain⟨mA,x,rl,G⟩:=JV I.ay A;obtain⟨od,y,lk⟩:=Hy x;obtain⟨w,J⟩:=m.inst y;have same:kitOne X.K (.ref C) g=O b:=by
  have D:g=u:=by
   cases c<;>first|exact(i).trans (h).symm|skip
   all_goals (obtain⟨t1,l⟩:=i;obtain⟨t2,k⟩:=h;subst l;subst k)
   all_goals (exfalso;revert e;simp[kitOne,kitCls])
  rwa[D]
 exact kz (ZeI n) I.cA ⟨w,J⟩ same (λz=>nomatch z) λt=>⟨.bl b,H,I.tok t,rfl,q⟩
end
structure KD(K:ah)(C:U)(m:af)(f:U):Prop where
 ga:specialIn K (.ref C) "__getattribute__"=O (O (.builtin "type.__getattribute__"))
 rd:PySem.W.readsIn K C (.type "type")=ar
 at_:findCls K (.ref C) (.type "type") m=O (.val (.ref f))
 kp:keepIn K (.ref f)=ar
section
variable {X:Cx}{J:kU}{k:Nat}{f C:U}{G:FuncData}{ps:Z af}{N:Sp}{L:Z V}{P:Z a7}{E:XK}{x m:af}{p W T:Pos}{e:cu}{R:Z cu}{t:TA}
def ZeJ{j:Sem cm}(b:KD X.K C m f)(F:aE X.prog X.w X.K X.mg X.base J k f G ps N)(o:cK k X.A)(u:Gl X x)(q:X.mg x=O (.ref C))(w:Binds X.K G ps P)(v:Vals L P)(l:Passes J X E)(y:PA X (e::R) t)
  (z:(x==("__debug__":af))=a_:=by decide)(A:iQ X e R:=by rfl)(B:jj X W R:=by rfl)
  (n:eval (.Call (.Attribute (.Name x p) m T) (e::R) [] W) X.env=(do
   let c←eval (.Name x p) X.env
   standAt T.atName
   let(f,first)←holding [c] (getMethod c m j)
   callWith W f first (backTo W (starEach (e::R) X.env)) (backToKw W (keywordEach [] X.env))):=by rfl):
  PE X (.Call (.Attribute (.Name x p) m T) (e::R) [] W) (BP N L E t):=by
 intro a s g H Q I h;exact qp (sZ I u q (PySem.W.method_cls I.cA b.ga (PySem.W.cls_value I.cA b.rd b.at_ rfl (nq I.ok.mod.nJ b.kp (az (y W a _ g H _ (I.tok (s.toks+1)) h) λus s2 ⟨D,H2,d,r,i⟩=>⟨d.cA,Bz F o w v l d r i⟩) A B))) z) n
end
def JW(K:ah):Z V->Hp->VK->Prop:=λb H Q=>∃(a C:U) (y:V),b=[.ref a,y]/\dJ K C/\H a=O (xn a C aF)/\Q .aC H
section
variable {K:ah}
def ZcI(m:K.In s.heap)(X:dJ K C)(i:s.heap.get? a=O c)(f:c.cls=.ref C)(z:Q () s):wpAny M A (checkBuiltinCall "ValueError.__init__" ⟨.ref a::rest,[]⟩) Q E s:=by
 obtain⟨r,q,N,bs,j,o,p,I,k,H,F,D,B,y,w,l⟩:=X.nG;have b:=m _ _ l;have e:=Uk C j (.type "ValueError") QD;have G:=pC;obtain⟨h,g,d,t,os⟩:=s;simp[checkBuiltinCall,G.initKind,G.initSplit,G.initRow];repeat (first|(with_reducible refine kB i ?_;rw[f])|with_reducible refine kB b ?_|(with_reducible refine m9 b ?_;rw[e])|wp_step)
 refine wpAny_onRaise ?_;rw[show ∀(u v:String) (n:Nat),Bind.check ⟨.positional,"*","ValueError",.self,[⟨"args",.varPos,a_⟩]⟩ u v n (List.map (λx=>x.fst) ({pos:=Value.ref a::rest}:Args).kw)=pure () from λu v n=>check_star_args _ _ _ _ _ _];exact cG z
end
section
variable {X:Cx}{p W T:Pos}{e:cu}{R:Z cu}{t:TA}
def ZeK(I:Inv X pins σ H s)(r:Vals xs us)(h:JW X.K xs H Q):wpAny X.md X.A (call (.builtin "ValueError.__init__") us) (EP X pins σ Q) X.xe s:=by
 obtain⟨a,C,y,rfl,A,l,q⟩:=h;obtain⟨D,j,rfl,F,r2⟩:=vals2 r;obtain rfl:D=Value.ref a:=F;obtain⟨f,w,i⟩:=BA I.ay l;obtain⟨L,u,e2,P,d,n⟩:=id w;have G:=pC;refine mu (uE G.init.plain G.initEntry (ZcI I.cA A u e2 ?_));unfold Builtin.«BaseException.__init__»;show wpAny _ _ (do let E←newTuple [j];Builtin.BaseException.bexcPut (.ref a) 0 E;ret .none) _ _ _;refine bg ?_;unfold newTuple;refine pH (bg ?_);have k:=Yb {cls:=.type "tuple",dict:=aF,data:=.seq [j].toArray} u;have B:f[0]?=O f[0]:=W4 (Xm (Xo n));unfold Builtin.BaseException.bexcPut;refine bg (mr k d B (bg (pR k d (Xm (Xo n)) ?_)));have fin:EP X pins σ Q Value.none {s with heap:=(s.heap.push {cls:=.type "tuple",dict:=aF,data:=.seq [j].toArray}).update a (Obj.mapFields (·.setIfInBounds 0 (Value.ref s.heap.objs.size)))}:=by
  have v:=uJ d (·.setIfInBounds 0 (Value.ref s.heap.objs.size));have m:=Wk (Obj.mapFields (·.setIfInBounds 0 (Value.ref s.heap.objs.size))) k (uC v);have J:=I.write (x:=a) (e:=a) (o:=xn a C aF) (t':=s.toks) (by exact l▸hY) (.inl rfl)
   (λb o N g=>by rw[Wg _ _ (ib N)];exact Yb _ g) ⟨_,m⟩
   (Kz ⟨_,m,by rwa[Obj.cls_mapFields],by obtain⟨c,dd,da,sl⟩:=L;cases d;exact P,v,by rwa[WU]⟩ ⟨by rw[Jq QD];exact i.1,by rw[Jq QD];exact i.2.1,by rw[WU];exact i.2.2⟩)
  have same:upd H a (xn a C aF)=H:=by
   funext b
   by_cases z:b=a;·rw[z,aT,l]
   ·rw[aN z]
  rw[same] at J;exact⟨.aC,H,J,rfl,q⟩
 generalize f[0]=old;cases old<;>first|exact cG (cG fin)|exact wN (cG fin)|exact bg (wN (cG (cG fin)))
def Zgd{K:ah}:findCls K (.type "ValueError") (.type "type") "__init__"=O (.val (.builtin "ValueError.__init__")):=QJ
def Uq{K:ah}:findIn K (.type "type") "__getattribute__"=O (O (.builtin "type.__getattribute__")):=QJ
def ZhI{K:ah}:subIn K (.type "type") (.type "type")=O ar:=QJ
def Ur:typeOf (.type "ValueError")=pure (.type "type"):=QJ
def Zja:opaqueClassAbove (.type "ValueError")=pure aF:=QJ
def Zge:bootBuiltins "ValueError"=O (.type "ValueError"):=QK
def ZdK{a:c9}{w:cX}{A:d_}{E:bb}{s:bU}{K:ah}{c:Sem cm}{Q:a7×Z a7->bU->Prop}(b:K.In s.heap)(z:Q (.builtin "ValueError.__init__",[]) {s with toks:=s.toks+1}):
  wpAny (model a w) A (getMethod (.type "ValueError") "__init__" c) Q E s:=by
 have d:Looks (model a w) s.heap (specialOf (.type "ValueError") "__getattribute__") (O (.builtin "type.__getattribute__")):=(Looks.of_pure Ur).andThen (looks_findIn b Uq);unfold getMethod;refine bg (d.here ?_);show wpAny _ _ (if(Manifest.canonical "type.__getattribute__" !="object.__getattribute__")=ar then _ else _) _ _ _;rw[bS PySem.W.canon_tga];refine bg (PySem.W.cls_open b (Looks.of_pure Zja) (Looks.of_pure Ur) Uq (Looks.of_pure rfl) ZhI Zgd ?_);exact cG (PySem.W.handed_on rfl (cG z))
def ZeL{i:Sem cm}(l:Gl X "ValueError")(k:X.mg "ValueError"=aF)(m:PA X (e::R) t)
  (n:iQ X e R:=by rfl)(o:jj X W R:=by rfl)
  (j:eval (.Call (.Attribute (.Name "ValueError" p) "__init__" T) (e::R) [] W) X.env=(do
   let b←eval (.Name "ValueError" p) X.env
   standAt T.atName
   let(f,first)←holding [b] (getMethod b "__init__" i)
   callWith W f first (backTo W (starEach (e::R) X.env)) (backToKw W (keywordEach [] X.env))):=by rfl):
  PE X (.Call (.Attribute (.Name "ValueError" p) "__init__" T) (e::R) [] W) (nN (JW X.K) t):=by
 intro a s c H Q I h;refine qp (yu I l k Zge ?_) j;refine ZdK I.cA ?_;exact zd (az (m W a _ c H _ (I.tok _) h) λu v x=>by obtain⟨r,w,q,d,g⟩:=x;exact ZeK q d g) n o
end
def ZhJ(C:U)(g:Sp)(h:Z V)(E:St->XK)(t:TA):TS:=λ_ b H=>t b H λc f=>c.length<=1000/\∀a,f a=aF->
 g (.ref a::(c++h)) (upd f a (xn a C aF)) (λv e=>v=.aC/\∃d,e a=O (xn a C (O d))/\E b (.ref C) (O d) (upd e a (xo a C (O d)))) E0
section
variable {X:Cx}{k:Nat}{f C:U}{J:FuncData}{ps:Z af}{L:Sp}{P:Z V}{W:Z a7}{E:St->XK}{x:af}{p T Q:Pos}{e:cu}{R:Z cu}{t:TA}
theorem ZeM(i:wc X.K C f)(F:aE X.prog X.w X.K X.mg X.base aL k f J ps L)(hr:cK (k+1) X.A)(B:X.calm=ar)(hg:Gl X x)(hm:X.mg x=O (.ref C))(j:Binds X.K J ps W)(hd:Vals P W)(hx:KA X E)(ha:PA X (e::R) t)
  (fC:(x==("__debug__":af))=a_:=by decide)(he:iQ X e R:=by rfl)(cj:jj X Q R:=by rfl):
  PS X (.Raise (O (.Call (.Name x p) (e::R) [] Q)) aF T) (ZhJ C L P E t):=by
 intro w s σ H D I h;rw[arm_exec_Raise];refine bg (kS ?_);show wpAny _ X.A (raiseStmt X.env (O (do let v←eval (.Call (.Name x p) (e::R) [] Q) X.env;standAt T;pure v)) aF) _ _ s;unfold raiseStmt;refine bg (bg ?_);refine nV (sZ I hg hm ?_ fC);refine nq (h₀:=X.base) I.ok.mod.nJ i.kp (az (ha Q w s σ H _ I h) λA l zz=>?_) he cj;obtain⟨vs,H1,I1,r,lim,q⟩:=zz;refine⟨I1.cA,?_⟩;obtain⟨nm,qn,N,bs,bm,sn,sub,ab,col,dd,k0,k1,k2,k3,k5,lk⟩:=i.nG;have kc:=I1.cA _ _ lk;have fr:H1 (l.heap.objs.size+1)=aF:=I1.ay.fresh (wB _);have hq:=q (l.heap.objs.size+1) fr;have r2:Vals (V.ref (l.heap.objs.size+1)::(vs++P)) (Value.ref (l.heap.objs.size+1)::(A++W)):=.cons rfl (r.append hd);have hl:((Value.ref (l.heap.objs.size+1)::A)++W).length=ps.length:=by
  have z:=r2.length;rw[F.len _ _ _ _ hq] at z;exact z.symm
 have here:((l.heap.push {cls:=.type "tuple",data:=.seq A.toArray}).push {cls:=.ref C,data:=.fields #[.ref l.heap.objs.size,.none,.none,.none,.bool a_,.none]}).get? (l.heap.objs.size+1)=
   O {cls:=.ref C,data:=.fields #[.ref l.heap.objs.size,.none,.none,.none,.bool a_,.none]}:=by heap_get
 have up:∀b o,l.heap.get? b=O o->((l.heap.push {cls:=.type "tuple",data:=.seq A.toArray}).push {cls:=.ref C,data:=.fields #[.ref l.heap.objs.size,.none,.none,.none,.bool a_,.none]}).get? b=O o:=
  λb o z=>Yb _ (Yb _ z)
 have new:cQ X.prog X.w (upd H1 (l.heap.objs.size+1) (xn (l.heap.objs.size+1) C aF)) _ (l.heap.objs.size+1) (xn (l.heap.objs.size+1) C aF):=Kz (vs:=#[.ref l.heap.objs.size,.none,.none,.none,.bool a_,.none]) ⟨_,here,rfl,rfl,rfl,by show 1<6;decide⟩ ⟨rfl,rfl,rfl⟩;have I2:=I1.laid (a:=l.heap.objs.size+1) (o:=xn (l.heap.objs.size+1) C aF) (t':=l.toks) up (wB _) new;have L1:=looks_findIn (M:=model X.prog X.w) I1.cA i.init;have L2:=looks_typeIn (M:=model X.prog X.w) I1.cA (beq_iff_eq.mp i.fn);have ul:A.length<=sizeLine:=by
  rw[←r.length,dg];exact k8 lim (by decide)
 obtain⟨m,g1,d1,t1,o1⟩:=l;refine ZeH kc (yj lk i.mM) (yj lk i.kX) (yj lk i.uz) L1 L2 (mu (lN (F.run _ X.stack _ _ ⟨Value.ref (m.objs.size+1)::A,[]⟩ (Value.ref (m.objs.size+1)::(A++W)) _ _ E0 (hr.make C A [])
  (I2.B5.make C A []) (j _ (Value.ref (m.objs.size+1)::A) I2.cA hl) r2 hq) λr s' nM=>?_)) ul
 cases r with
 |error _=>exact False.elim nM
 |ok fl=>
  cases fl with
  |next=>exact False.elim nM
  |brk=>exact False.elim nM
  |cont=>exact False.elim nM
  |ret u=>
   obtain⟨v,H',CZ,G,un,ay,rv,rfl,d,ea,kM⟩:=nM;obtain rfl:u=Value.none:=rv;refine⟨rfl,bg (kS (cG ?_))⟩;obtain⟨ws,xr,w1,w2,_⟩:=BA ay ea;obtain⟨oe,e1,e2,e3,e4,e5⟩:=id xr;have I3:Inv X w σ H' s':=I2.Ku (ch:=[]) CZ un ay G λb z=>absurd z QS;have W_:=I3.cA _ _ lk;have zy:=yj lk i.zy;obtain⟨oc,od,WX,iR⟩:=oe;dsimp only at e2 e3 e4;subst e2 e3 e4;have xe:X.xe (.ref (m.objs.size+1)) s':=by
    refine hx w σ H1 ⟨m,g1,d1,t1,o1⟩ _ s' I1 ⟨m.objs.size+1,C,d,upd H' (m.objs.size+1) (xo (m.objs.size+1) C (O d)),ws,rfl,wB _,CZ,G,?_,?_,aT,xr,⟨.inl w1,λ_=>w2⟩,kM⟩
    ·have uA:Un (cW X.stack) [] H1 H' m s'.heap:=(Un.laid up (wB _) fr).trans un;have old:∀b o,m.get? b=O o->b≠m.objs.size+1:=λb o j=>Y0 (Wv (Yu j));have tk:∀b u,H1 b=O u->b≠m.objs.size+1:=λb u j z=>by rw[z,fr] at j;cases j
     exact⟨uA.keep,uA.slot,λb o j n x'=>by rw[aN (old b o j)];exact uA.free b o j n x',uA.there,λb xs j=>by rw[aN (tk b _ j)];exact uA.iC b xs j,
      λb o u j=>by rw[aN (tk b _ j)];exact uA.iO b o u j,λb ps j=>by rw[aN (tk b _ j)];exact uA.jd b ps j⟩
    ·intro b o j;by_cases z:b=m.objs.size+1
     ·subst z;rw[aT] at j;cases j;exact Ui xr
     ·rw[aN z] at j;have nz:∀c u,H' c=O u->(u=.own b\/∃xs,u=.tup xs)->c≠m.objs.size+1:=λc u B hu y=>by
       rw[y,ea] at B;cases B;rcases hu with hu|⟨xs,hu⟩<;>cases hu
      exact(ay b o j).iN (λ_ _ _ g=>g) (λc B=>by rw[aN (nz c _ B (.inl rfl))];exact B) λc xs B=>by rw[aN (nz c _ B (.inr ⟨_,rfl⟩))];exact B
   have hh:=I.ok.hd B;obtain⟨h',g',d',t',o'⟩:=s';repeat (first|with_reducible refine kB e1 ?_|with_reducible refine kB W_ ?_|(with_reducible refine m9 W_ ?_;rw[zy])|with_reducible refine mr e1 rfl w1 ?_|wp_step)
   exact wpAny_raiseNew_none hh xe
end
abbrev Cx.hand(X:Cx)(a:U):Cx:={X with A:=X.A.mark (O (.ref a)),calm:=a_}
def Cx.Ok.hand{X:Cx}(b:X.Ok)(a:U):(X.hand a).Ok:=
 ⟨b.mod,b.kind,b.glob,b.blt,b.above,b.inj,b.has,b.uo,λz=>absurd (z) Yq,b.frames,b.wu,b.rU,b.bs,b.nK,b.t4,b.rH,b.j_,b.qv⟩
section
variable {X:Cx}{σ:St}{H:Hp}{s:bU}
def Inv.hand(I:Inv X pins σ H s)(a:U):Inv (X.hand a) pins σ H s:=⟨I.ok.hand a,I.os,I.bare,I.base,I.loc,I.cell,I.free,I.iM,I.pin,I.ay,I.len⟩
def Inv.ZhK(b:X.Ok)(I:Inv (X.hand a).oP pins σ H s):Inv X pins σ H s:=⟨b,I.os,I.bare,I.base,I.loc,I.cell,I.free,I.iM,I.pin,I.ay,I.len⟩
def Inv.yA{a:aX}{b:bb}{c:aX}(d:X.Ok)(I:Inv {X with pn:=X.pn++a,xe:=b} c σ H s):Inv X a σ H s:=
 ⟨d,I.os,I.bare,I.base,I.loc,I.cell,I.free,I.iM,λp e=>I.pin p (Yk _ e),I.ay,I.len⟩
def Inv.ZhL(I:Inv X a σ H s):Inv {X with pn:=X.pn++a,xe:=c} [] σ H s:=
 ⟨⟨I.ok.mod,I.ok.kind,I.ok.glob,I.ok.blt,I.ok.above,I.ok.inj,I.ok.has,I.ok.uo,I.ok.hd,I.ok.frames,I.ok.wu,I.ok.rU,I.ok.bs,I.ok.nK,I.ok.t4,I.ok.rH,I.ok.j_,I.ok.qv⟩,
  I.os,I.bare,I.base,I.loc,I.cell,I.free,I.iM,λp b=>I.pin p (by rw[Y8] at b;exact b),I.ay,I.len⟩
theorem Inv.gone(I:Inv X pins σ H s)(hN:X.N.Nodup)(W:X.N[i]?=O n)(hn:s.heap.Ns X.env.locals m)
  (R:∀(i:Nat) (x:af) (v:V),X.N[i]?=O x->σ[i]?=O (O v)->um X.env.scope x->∃u,RelV v u/\Look X.env s.heap m x u)
  (Q:F.Ns X.env.locals (λx=>if x=n then v else m x))(P:Heap.SameBut X.env.locals s.heap F):Inv X pins (σ.set i aF) H {s with heap:=F,toks:=t'}:=by
 have old:∀b o,X.di.heap.get? b=O o->b≠X.env.locals:=λb o d z=>absurd (Yu (z▸d)) (Nat.not_lt.mpr I.ok.above);have h:∀b o,b≠X.env.locals->s.heap.get? b=O o->F.get? b=O o:=λb o d D=>(P.2 b d).trans D;have wq:∀b u,H b=O u->b≠X.env.locals:=λb u d z=>by rw[z,I.free] at d;cases d
 refine⟨I.ok,I.os,I.bare,⟨λb o e C f x=>h b o (old b o e) (I.base.keep b o e C f x),λb o e C f x=>?_,I.base.free,λb o e x=>?_,I.base.iC,I.base.iO,I.base.jd⟩,⟨_,Q,λj x w L G e3=>?_⟩,λx c e=>?_,I.free,I.iM,λp T=>?_,λb u d=>?_,?_⟩
 ·obtain⟨N,g⟩:=I.base.slot b o e C f x;exact⟨N,h b _ (old b o e) g⟩
 ·obtain⟨J,g⟩:=I.base.there b o e x;exact⟨J,h b J (old b o e) g⟩
 ·by_cases z:i=j
  ·subst z;have a:=G;rw[List.getElem?_set_self'] at a;cases q:σ[i]? with
   |none=>rw[q] at a;cases a
   |some y=>rw[q] at a;cases a
  ·rw[V4 z] at G;obtain⟨u,r,l⟩:=R j x w L G e3;refine⟨u,r,?_⟩;have ne:x≠n:=λy=>z (Io hN W (y▸L));rcases l with⟨B,A⟩|⟨B,c,A,⟨o,k,t⟩⟩
   ·refine .inl ⟨B,?_⟩;show(if x=n then v else m x)=O u;rwa[bt ne]
   ·exact .inr ⟨B,c,A,o,h c o (I.qw x c A) k,t⟩
 ·obtain⟨w,o,k,t⟩:=I.cell x c e;exact⟨w,o,h c o (I.qw x c e) k,t⟩
 ·obtain⟨B,A,k,t⟩:=I.pin p T;exact⟨h p.1 p.2 k B,A,k,t⟩
 ·refine(I.ay b u d).iN (λc o E D=>h c o ?_ D) (λ_ q=>q) λ_ _ q=>q;rcases E with rfl|E;·exact wq _ _ d
  ·exact wq _ _ E
 ·rw[Jf];exact I.len
end
section
variable {K:ah}
def ZdL(h:K.In s.heap)(G:dJ K B)(F:dJ K C)(j:gU s.heap a C d H)(o:mroIn K C (.ref B)=O b)(z:Q b s):wpAny M A (excMatches (.ref a) (.ref B)) Q E s:=by
 obtain⟨R,q,N,bs,v,I,J,ab,w,dd,k0,k1,k2,k3,k5,l⟩:=G.nG;obtain⟨n,L,N',x,u,k,m,y,D,gY,l0,l1,X,W,T,e⟩:=F.nG;have g:=h _ _ l;have p:=h _ _ e;obtain⟨P,t,r,_⟩:=j;have i:=Uk B v (.type "BaseException") QD;have c:=yj e o;have f:=tc_notTuple;unfold excMatches;repeat (first|(with_reducible refine kB t ?_;rw[r])|with_reducible refine kB g ?_|(with_reducible refine m9 g ?_;rw[i])|(with_reducible refine m9 p ?_;rw[c])|wp_step)
 cases b<;>(wp_walk;exact z)
def Zgf{l:Nat}(h:gU s.heap a C d i)(m:wG l H s.heap i)(z:Q () s):wpAny M A (setFlight (.ref a) aF) Q E s:=by
 obtain⟨n,f,q,p,e,o⟩:=h;rcases m with y|⟨T,k,j,y,_,_,c,g,b⟩
 ·refine bg (mr f e y ?_);exact cG z
 ·refine bg (mr f e y ?_);refine pR c g (WV.mp b).1 ?_;have same:=Heap.update_setField_same s.heap T k j 3 Value.none c g b;simp_all
end
def hX(K:ah)(B:U)(i:Nat)(g:TS)(D:Ends):St->XK:=λf c o H=>∃C d,c=.ref C/\o=O d/\dJ K C/\mroIn K C (.ref B)=O ar/\
 ∀a,H a=O (xo a C (O d))->g {nx:=λb e=>D.nx (b.set i aF) e,rt:=D.rt,bk:=λb e=>D.bk (b.set i aF) e,ct:=λb e=>D.ct (b.set i aF) e} (f.set i (O (.ref a))) H
section
variable {X:Cx}{B:U}{i:Nat}{n x:af}{W L:Z cb}{N:cb}{G T P:Pos}{F:(St->XK)->TS}{R:TS}
theorem ZhM{b:cm}(y:X.stack=X.env::X.outer/\X.env.frame=O X.env.locals)(hN:X.N.Nodup)(hi:X.N[i]?=O n)(hl:X.env.scope.names.lookup n=O .local)(hg:Gl X x)(hm:X.mg x=O (.ref B))(XB:dJ X.K B)
  (hb:∀pn t E,tT b {X with pn:=pn,xe:=t} E->PassesOwn X.md X.A X.env t->fR {X with pn:=pn,xe:=t} W (F E))
  (hh:∀a,fR (X.hand a).oP (N::L) R)(fC:(x==("__debug__":af))=a_:=by decide):
  PS X (.Try W [.ExceptHandler (O (.Name x G)) (O n) (N::L) T] [] [] P) (λD σ H=>F (hX X.K B i R D) D σ H):=by
 intro c s σ H D I h;refine bg (kS (wpAny_tryStmt_except ?_));let t:a7->bU->Prop:=λe A=>wpAny X.md X.A (noteFrame e X.env) (λ_ s2=>wpAny X.md X.A (setFlight e aF) (λ_ s3=>wpAny X.md X.A (handleBy e X.env [.ExceptHandler (O (.Name x G)) (O n) (N::L) T]) (SP X c D) X.xe s3) X.xe s2) X.xe A;have px':tT b {X with pn:=X.pn++c,xe:=t} (hX X.K B i R D):=by
  intro Ks l H1 A e s' I' cx;have st:X.A.frames=O (X.env::X.outer):=by exact y.1▸I.ok.frames
  have f1:A.heap.FunFrames X.base (X.env::X.outer):=by exact y.1▸I'.stack
  have f2:∀b∈cW (X.env::X.outer),H1 b=aF:=by exact y.1▸I'.Ba
  refine Rl st f1 f2 y.2 (by rwa[←y.1]) λs3 c3=>?_;rw[←y.1] at c3;obtain⟨a,C,d,o,vs,rfl,lo,J,ea,xr,⟨fl,_⟩,C',d',ec,ed,XC,mt,q⟩:=I'.S2 c3;cases ec;cases ed;have J2:=J.yA I.ok;refine wpAny_handleBy_cons (codeAny_handlers_test (sZ (J2.hand a) hg hm (ZdL J2.cA XB XC xr mt (codeAny_handlers_suite_as (Zgf xr fl (AW (v:=.ref a) J2 hN hi (.inl hl) rfl (λs4 J4=>dD (hh a c s4 _ _ _ ((J4.hand a).kM _) (q a ea)) (λf s5 z=>?_) λ _ _=>False.elim) (.inr hl))))) fC)) (by intro z;cases z);have fin:∀{p:St} {r:Hp},Inv (X.hand a).oP c p r s5->∀Q:Unit->bU->Prop,(∀w,Inv X c (p.set i aF) r w->Q () w)->wpAny X.md X.A (do bindName X.env n .none;unbindBehindTheSuite X.env n T) Q X.xe s5:=by
   intro p r j Q k;have g:=Inv.ZhK I.ok j;obtain⟨m,hn,lk⟩:=g.loc;refine wpAny_nameGoes_keeps (hl) hn (by rw[I.ok.kind];rfl) λh' v n2 sb=>k _ (g.gone hN hi hn lk n2 sb)
  cases f with
  |next=>
   obtain⟨p,r,j,z⟩:=z;exact fin j _ λw g=>⟨_,_,g,z⟩
  |brk=>
   obtain⟨p,r,j,z⟩:=z;exact fin j _ λw g=>⟨_,_,g,z⟩
  |cont=>
   obtain⟨p,r,j,z⟩:=z;exact fin j _ λw g=>⟨_,_,g,z⟩
  |ret u=>
   obtain⟨v,p,r,j,rv,z⟩:=z;exact fin j _ λw g=>⟨_,_,_,g,rv,z⟩
 refine dD (hb _ t _ px' (PassesOwn.looking) [] s σ H D I.ZhL h) (λf A z=>?_) λ_ _ z=>z;cases f with
 |next=>
  obtain⟨l,o,J,q⟩:=z;exact cG ⟨l,o,J.yA I.ok,q⟩
 |brk=>
  obtain⟨l,o,J,q⟩:=z;exact⟨l,o,J.yA I.ok,q⟩
 |cont=>
  obtain⟨l,o,J,q⟩:=z;exact⟨l,o,J.yA I.ok,q⟩
 |ret u=>
  obtain⟨v,l,o,J,rv,q⟩:=z;exact⟨v,l,o,J.yA I.ok,rv,q⟩
end
def Zj5(K:ah)(e:TE):TE:=λd H Q=>e d H λx c=>(∃y:af,x=.str y/\y.length<=sizeLine/\Q (.str y) c)\/(∃i:Int,x=.int i/\i.natAbs.log2<1920/\Q (.str (toString i)) c)\/
 ∃(a:U) (b:Z Int),x=.ref a/\aB K c a (b.map V.int)/\(∀n∈b,n.natAbs.log2<1920)/\(PyData.tuple (b.map PyData.int)).shown.length<=sizeLine/\Q (.str (PyData.tuple (b.map PyData.int)).shown) c
theorem ZcJ{b:Z Int}:∀{a:Z a7},Vals (b.map V.int) a->∃as,ReadsAll h a (b.map PyData.int) as:=by
 induction b with
 |nil=>intro a r;cases r;exact⟨[],.nil⟩
 |cons n r e=>
  intro a q;cases q with
  |cons d c=>
   obtain⟨t,rfl⟩:=d;obtain⟨as,z⟩:=e c;exact⟨_,.cons (.int n t) z⟩
theorem ZdM{a:Z Int}(h:∀n∈a,n.natAbs.log2<1920):PyData.showableAll (a.map PyData.int)=ar:=by
 induction a with
 |nil=>rfl
 |cons n r b=>
  show(decide (n.natAbs.log2<1920)&&PyData.showableAll (r.map PyData.int))=ar
  simp_all
theorem ZbV(a:Z Int):PyData.hasDictAll (a.map PyData.int)=a_:=by
 induction a with
 |nil=>rfl
 |cons n r b=>exact b
theorem ZcK(a:Z Int):PyData.depthAll (a.map PyData.int)=0:=by
 induction a with
 |nil=>rfl
 |cons n r b=>
  show max (PyData.int n).depth (PyData.depthAll (r.map PyData.int))=0;rw[b];rfl
def S6(m:cK j X.A)(J:PE X e w):PE X (.FormattedValue e (-1) aF pos) (Zj5 X.K w):=by
 intro b s p H Q I h;refine wpAny_FormattedValue_plain (az (J b s p H _ I h) λu N v=>?_);obtain⟨x,d,c,f,q⟩:=v;rcases q with⟨y,rfl,D,q⟩|⟨i,rfl,E,q⟩|⟨a,k,rfl,G,A,sz,q⟩
 ·obtain⟨t,rfl⟩:=f;exact wpAny_formatField_str ⟨.str y,d,c,⟨t,rfl⟩,q⟩ ⟨.str y,d,c.tok _,⟨_,rfl⟩,q⟩ D
 ·obtain⟨t,rfl⟩:=f;exact wpAny_formatField_int E ⟨.str (toString i),d,c.tok _,⟨_,rfl⟩,q⟩
 ·obtain rfl:u=Value.ref a:=f;obtain⟨W,r,⟨o,g,C,n,B⟩,R⟩:=c.tuple G;obtain⟨as,P⟩:=ZcJ r;refine formatField_of_reads (.tuple g C B (by rwa[List.toList_toArray])) (ZdM A) (λz=>?_) m.gd ?_ (λ_ _ z=>z) (λT u L F=>⟨.str (PyData.tuple (k.map PyData.int)).shown,d,c.kept F,⟨u,rfl⟩,q⟩) sz
  ·have l:PyData.hasDictAll (k.map PyData.int)=ar:=z;rw[ZbV] at l;cases l
  ·show X.A.units+(PyData.depthAll (k.map PyData.int)+1+2)<cLine;rw[ZcK];have:=m.un;omega
abbrev TJ:=af->St->Hp->(af->Hp->Prop)->Prop
def PJ(X:Cx)(f:Z cu)(t:TJ):Prop:=
 ∀(a:aX) (s:bU) (c:St) (H:Hp) (b:af) (R:af->Hp->Prop) (Q:af->bU->Prop),Inv X a c H s->t b c H R->(∀y d e,Inv X a c e d->R y e->Q y d)->PySem.Joins X.md X.A X.xe (evalEach f X.env) b Q s
def Zj6:TJ:=λa _ H R=>R a H
def Zjb(d:TE)(c:TJ):TJ:=λa b H R=>d b H λx e=>∃y,x=.str y/\(a++y).length<=sizeLine/\c (a++y) b e R
def Zjc(t:TJ):TE:=λa H Q=>t Str.empty a H λy b=>y.length<=sizeLine/\Q (.str y) b
def ZhN:PJ X [] Zj6:=λ_ s _ H a _ _ I h k=>k a s H I h
def IV(n:PE X e g)(m:PJ X p t):PJ X (e::p) (Zjb g t):=by
 intro a s c H b R Q I h k;refine az (n a s c H _ I h) λu i d=>?_;obtain⟨x,v,r,j,y,o,l,q⟩:=d;subst o;obtain⟨f,rfl⟩:=j;exact⟨y,f,rfl,l,m a i c v (b++y) R Q r q k⟩
def Zgg(h:PJ X (e::f::d) t):PE X (.JoinedStr (e::f::d) pos) (Zjc t):=by
 intro a s b H Q I c;refine wpAny_JoinedStr (h a s b H Str.empty _ _ I c λy j i g k=>by obtain⟨l,q⟩:=k;exact⟨l,.str y,i,g.tok _,⟨_,rfl⟩,q⟩)
end L2
namespace L2
open PySem PySem.Spec PyProof.Rows
structure Bl(mg:aR):Prop where
 rE:mg "len"=aF
 Zjd:mg "abs"=aF
 tK:mg "list"=aF
 jW:mg "range"=aF
 ou:mg "tuple"=aF
 Zje:mg "any"=aF
 Us:mg "all"=aF
 N5:mg "isinstance"=aF
 BB:mg "bool"=aF
 Ut:mg "int"=aF
 vX:mg "str"=aF
 A0:mg "sorted"=aF
 Uu:mg "min"=aF
 Zjf:mg "max"=aF
 ZlY:mg "sum"=aF
 ZhO:mg "dict"=aF
 ZlE:mg "reversed"=aF
 Zbd:mg "ValueError"=aF
def Zj7{K:ah}(a:X.calm=ar)(h:X.K=K):df X (.builtin "any") (Vd K):=h▸ZaB a
def Vk{K:ah}(a:X.calm=ar)(h:X.K=K):df X (.builtin "all") (Ve K):=h▸ZaC a
def sortedK{K:ah}(h:X.K=K):df X (.builtin "sorted") (IU K):=h▸N_
def k9{K:ah}(h:X.K=K):cJ X (compareOp .In) (zm K a_):=h▸ZdC
def BC{K:ah}(h:X.K=K):cJ X (compareOp .NotIn) (zm K ar):=h▸Zbb
def Rq{K:ah}(h:X.K=K):jk X (L6 K):=h▸Zhw
structure yV(K:ah)(x qual:af)(st:cb)(f:U)(fd:FuncData):Prop where
 ex:∃(oc:a7) (od:bw U) (dV kV doc pm:a7) (an:bw U) (bL ct:a7) (iR:c8 (bw a7)),
  fd=fnOf x qual (lZ st) (i4 st) (aJ st) dV kV doc pm an bL ct/\K.lookup f=O ⟨oc,od,.func fd,iR⟩/\codeIn K bL qual=ar
 kp:keepIn K (.ref f)=ar
section
variable {P:c9}{w:cX}{K:ah}{W:aR}{X:cS}
def yV.ok{x c:af}{e:cb}{f:U}{l:FuncData}{N i:Z af}{k:Nat}{sp:Sp}(F:yV K x c e f l)(a:aP N i (aJ e))(j:∀d H Q E,sp d H Q E->d.length=i.length)
  (m:∀(g:a7) (A:d_) (b:Z Env) (s:bU) (H:Hp) (d:Z V) (Q:VK) (E:XK),cK k (A.deeper (envOfC c (aJ e) s.heap.objs.size f g))->sp d H Q E->
   ∃t,fR (kN aL P w K W X N c (aJ e) f g A b s H E).oP (i4 e) t/\t {nx:=λ_ v=>Q .aC v,rt:=Q} (start N d) H):aE P w K W X aL (k+1) f l i sp:=by
 obtain⟨B,z,D,kV,u,y,I,g,G,C,rfl,o,r⟩:=F.ex;refine Kx o r a j λA b s H d Q E p n=>?_;obtain⟨t,h,q⟩:=m g A b s H d Q E p n;exact⟨t,h.oP,q⟩
end
def S7{K:ah}:kitOne K (.type "int") (.type "int")=O ar:=QJ
def JX{K:ah}:kitOne K (.type "int") (.type "bool")=O a_:=QJ
def S8{K:ah}:kitOne K (.type "bool") (.type "bool")=O ar:=QJ
def ZhP{K:ah}:kitOne K (.type "str") (.type "bool")=O a_:=QJ
def ZhQ{K:ah}:kitOne K (.type "str") (.type "int")=O a_:=QJ
def JY{K:ah}:kitOne K (.type "str") (.type "str")=O ar:=QJ
def ZhR{K:ah}:kitOne K (.type "list") (.type "bool")=O a_:=QJ
def ZhS{K:ah}:kitOne K (.type "list") (.type "int")=O a_:=QJ
def ZhT{K:ah}:kitOne K (.type "list") (.type "str")=O a_:=QJ
def ZhU{K:ah}:kitOne K (.type "list") (.type "list")=O ar:=QJ
def ZhV{K:ah}:kitOne K (.type "list") (.type "tuple")=O a_:=QJ
def ZhW{K:ah}:kitOne K (.type "tuple") (.type "bool")=O a_:=QJ
def ZhX{K:ah}:kitOne K (.type "tuple") (.type "int")=O a_:=QJ
def ZhY{K:ah}:kitOne K (.type "tuple") (.type "str")=O a_:=QJ
def ZhZ{K:ah}:kitOne K (.type "tuple") (.type "list")=O a_:=QJ
def Zh0{K:ah}:kitOne K (.type "tuple") (.type "tuple")=O ar:=QJ
def HH(a:Z Int)(o:bw Int):(a++o.toList).map V.int=a.map V.int++o.toList.map V.int:=QS
inductive Dt where
 |aC|bl (b:cm)|int (i:Int)|str (x:af)|lst (a:List Dt)|tup (a:List Dt)
def At(H:Hp):Nat->V->Dt->Prop
 |_,v,.aC=>v=.aC
 |_,v,.bl b=>v=.bl b
 |_,v,.int i=>v=.int i
 |_,v,.str x=>v=.str x
 |0,_,.lst _=>False
 |0,_,.tup _=>False
 |m+1,v,.lst ds=>∃a c,v=.ref a/\H a=O (.lst c)/\ds.length<=1000/\Paired (At H m) c ds
 |m+1,v,.tup ds=>∃a c,v=.ref a/\H a=O (.tup c)/\ds.length<=1000/\Paired (At H m) c ds
theorem At.same(g:ag H j):∀{m:Nat} {v:V} {d:Dt},At H m v d->At j m v d
 |_,_,.aC,h=>by unfold At at h⊢;exact h
 |_,_,.bl _,h=>by unfold At at h⊢;exact h
 |_,_,.int _,h=>by unfold At at h⊢;exact h
 |_,_,.str _,h=>by unfold At at h⊢;exact h
 |0,_,.lst _,h=>by unfold At at h;exact h.elim
 |0,_,.tup _,h=>by unfold At at h;exact h.elim
 |m+1,_,.lst _,h=>by
  obtain⟨a,b,e,i,f,c⟩:=h;exact⟨a,b,e,g _ _ i,f,L2.Paired.bu c λ _ _=>At.same g⟩
 |m+1,_,.tup _,h=>by
  obtain⟨a,b,e,i,f,c⟩:=h;exact⟨a,b,e,g _ _ i,f,L2.Paired.bu c λ _ _=>At.same g⟩
def Zjg(b:cm):At H m (.bl b) (.bl b):=by unfold At;rfl
def Zh1(x:af):At H m (.str x) (.str x):=by unfold At;rfl
def Zh2(h:H a=O (.tup xs))(l:ds.length<=1000)(p:Paired (At H m) xs ds):At H (m+1) (.ref a) (.tup ds):=by unfold At;exact⟨a,xs,rfl,h,l,p⟩
theorem fY:∀{b:Z α} {a:Z β} {i:Nat} {x:α},Paired F b a->b[i]?=O x->∃y,a[i]?=O y/\F x y:=by
 intro b a i x h;induction h generalizing i with
 |nil=>intro e;simp at e
 |cons r t c=>
  intro e;cases i with
  |zero=>
   have e:=Yo (by simpa using e);subst e;exact⟨_,rfl,r⟩
  |succ i=>
   obtain⟨y,f,d⟩:=c (by simpa using e);exact⟨y,by simpa using f,d⟩
theorem cZ:∀{b:Z α} {a:Z β},Paired F b a->b.length=a.length:=by
 intro b a h;induction h with
 |nil=>rfl
 |cons _ _ c=>rw[Wh,Wh,c]
def P0{i:Nat}(h:xs[i]?=O x):dI xs (0+(i:Int))=O x:=by
 rw[show(0:Int)+(i:Int)=(i:Int) from by omega];exact fL h
def XP(H:Hp)(C:U)(c:af)(E:XK):Prop:=∀(a d:U) (b:Hp),H a=aF->H d=aF->ag H b->b a=O (xo a C (O d))->b d=O (xq d [("word",.str c)])->E (.ref C) (O d) b
def wc.of{K:ah}{C f:U}(x:dJ K C)(a:PySem.W.findIn K (.ref C) "__init__"=O (O (.ref f)))(m:isFn K (.ref f)=ar)(e:keepIn K (.ref C)=ar):wc K C f:=by
 obtain⟨d,q,N,bs,s,c,sub,p,b,o,k,j,i,h,g,l⟩:=id x.nG;have no:∀n:String,qr.contains (.type n)=a_->PySem.W.mroIn K C (.type n)=O a_:=λn r=>by
  unfold PySem.W.mroIn PySem.W.clsIn
  simp_all
 exact⟨⟨d,q,N,bs,_,c,sub,p,b,o,k,j,i,h,g,l⟩,x.mro _ QD,x.mro _ QD,no _ QD,no _ QD,a,m,e⟩
def ZeN{K:ah}(C:U):kitOne K (.ref C) (.ref C)=O ar:=by unfold kitOne;rw[bS (beq_self_eq_true _)]
def Zgh:Z V->Hp->VK->Prop:=λa H Q=>∃(p:U) (n:Nat),a=[.ref p]/\H p=O (.kh 0 (n:Int))/\n<=1000/\∀l:U,H l=aF->Q (.ref l) (upd H l (.tup ((bJ n).map V.int)))
section
variable {X:c9}{w:cX}{A:d_}{E:bb}{s:bU}
theorem ZbW{Q:Z a7->bU->Prop}{r:U}{n:Nat}{t u v:Tok}(F:A.handled=aF)(l:IsRange s.heap r 0 (n:Int) 1 t u v)(D:n<=1000)
  (k:∀g h (d:c8 a7),(∀b o,s.heap.get? b=O o->g.get? b=O o)->ItemsOf (λi v=>∃t,v=.int (0+i*1) t) d n->Q d.toList {s with heap:=g,toks:=h}):
  wpAny (model X w) A (collect (.ref r)) Q E s:=by
 refine bg (wpAny_runValue (Uv PySem.F.entry_proto_collect (bg (pH (cG ⟨plainId_quiet PySem.F.plain_list_iadd _,Uv PySem.F.entry_list_iadd ?_⟩)))));have y:∀s':bU,(∃(g:cS) (h:Nat) (d:c8 a7) (c:Nat),s'={s with heap:=g,toks:=h}/\(∀b o,b≠s.heap.objs.size->(s.heap.push {cls:=.type "list",data:=.seq ([]:Z a7).toArray}).get? b=O o->g.get? b=O o)/\
   g.get? s.heap.objs.size=O {cls:=.type "list",dict:=aF,data:=.seq d c,slots:=#[]}/\ItemsOf (λi v=>∃t,v=.int (0+i*1) t) d n)->
   wpAny (model X w) A (match Value.ref s.heap.objs.size with
    |Value.ref a=>do
     match(←load a).data with
      |Data.seq xs _=>pure xs.toList
      |_=>unsupported "internal:collect"
    |_=>unsupported "internal:collect") Q E s':=by
  rintro s' ⟨g,h,d,c,rfl,j,here,m⟩;exact bg (wpAny_load here (cG (k g h d (λb o p=>j b o (Y0 (Yu p)) (Yb _ p)) m)))
 refine dD (wpAny_extend_range (s:={s with heap:=s.heap.push {cls:=.type "list",data:=.seq ([]:Z a7).toArray}})
  (R:=λr s'=>r=.ok (.ret (.ref s.heap.objs.size))/\∃(g:cS) (h:Nat) (d:c8 a7) (c:Nat),s'={s with heap:=g,toks:=h}/\(∀b o,b≠s.heap.objs.size->(s.heap.push {cls:=.type "list",data:=.seq ([]:Z a7).toArray}).get? b=O o->g.get? b=O o)/\
   g.get? s.heap.objs.size=O {cls:=.type "list",dict:=aF,data:=.seq d c,slots:=#[]}/\ItemsOf (λi v=>∃t,v=.int (0+i*1) t) d n)
  F (Yb _ l) (xm (by decide) (by decide) QO QO) (by rw[vt];split<;>omega) (eL D (by decide)) _ _ 0 (Yv _ rfl) λg h d c j here m=>⟨rfl,g,h,d,c,rfl,j,here,m⟩) (λfin s' z=>?_) λe s' z=>?_
 ·cases fin with
  |done f=>obtain⟨q,x⟩:=z;cases q;exact y _ x
  |again G=>exact⟨z.1,lN z.2 λr B l=>by obtain⟨rfl,C⟩:=l;exact y B C⟩
 ·cases z.1
def Zgi(r:U)(n:Nat)(t u v:Tok)(y:n<=1000):
  Meets (Builtin.«tuple.__new__» ⟨[.type "tuple",.ref r],[]⟩) (λA R s=>A.handled=aF/\IsRange s.heap r 0 (n:Int) 1 t u v/\∀(a:cS) (f:Nat) (acc:c8 a7),(∀b o,s.heap.get? b=O o->a.get? b=O o)->ItemsOf (λi v=>∃t,v=.int (0+i*1) t) acc n->
   R (.ok (.ret (.ref a.objs.size))) {s with heap:=a.push {cls:=.type "tuple",data:=.seq acc},toks:=f}):=
 .of_wp λX w A R s h=>by
  obtain⟨C,g,d,f,os⟩:=s;obtain⟨z,j,q⟩:=h;have sub:=sub_tuple_self;have x:=init_tuple_lookup;have B:=madeHere_tuple;have c:A.in1.handled=aF:=z
  wp_walk using PySem.AutoSeq1.wpAny_loadPart' j,wpAny_typeOf ty,ZbW (A:=A.in1) c j y
  intro a l acc p k;show wpAny _ _ (Builtin.Tuple.tupleExact acc.toList.toArray>>=λv=>ret v) _ _ _;unfold Builtin.Tuple.tupleExact;have m:acc.toList.toArray.size<=sizeLine:=by
   have e:=k.1;rw[dg];simp;exact k8 (Qdh e) (k8 y (by decide))
  refine bg (pH (cG ⟨_,rfl,?_⟩) m);have e:acc.toList.toArray=acc:=QS
  exact e▸q a l acc p k
end
def NX(E:X.calm=ar):df X (.type "tuple") Zgh:=by
 intro c s m H L N Q I r h;obtain⟨p,n,rfl,B,j,q⟩:=h;obtain⟨u,rfl,z⟩:=vals1 r;cases z;obtain⟨t,u,v,C⟩:=I.ay p _ B;refine callType_new PySem.F.called_tuple QD (PySem.F.typeCall_tuple_1 _) (PySem.F.newCall_tuple_1 _) (λe=>PySem.F.args_object_init_2 e _) PySem.F.entry_tuple_new (Zgi p n t u v j) ⟨I.ok.hd E,C,λd g a A k=>⟨⟨_,Yv _ rfl,rfl⟩,?_⟩⟩;have l:=I.kept (t':=g) A;have w:Vals ((bJ n).map V.int) a.toList:=by
  refine F4 (by rw[Ya,fG];simp[k.1]) λi x u f G=>?_;obtain⟨y,rfl⟩:=k.2 i u (by simpa using G);have D:i<n:=by
   have:=(Yn.mp f).1;rw[Ya,fG] at this;exact this
  rw[Yi,mZ D] at f;have F:=Yo f;subst F;exact⟨y,by rw[show(0:Int)+(i:Int)*1=(i:Int) by omega]⟩
 have J:Inv X c m (upd H d.objs.size (.tup ((bJ n).map V.int))) {s with heap:=d.push {cls:=.type "tuple",data:=.seq a},toks:=g}:=
  l.laid (λ b o=>Yb _) (Yh _) (show cQ X.prog X.w _ _ _ (.tup _) from⟨by rw[Ya,fG];exact J1 (kG j),a.toList,w,by simpa using oA.new d a⟩)
 exact⟨.ref d.objs.size,_,J,rfl,q _ (l.ay.fresh (Yh _))⟩
inductive Rr(K:ah)(c:Z V)(H:Hp)(Q:VK):Prop
 |mk (a C:U) (b y:af) (k:c=[.ref a,.str b,.str y]) (j:H a=O (xn a C aF)) (h:dJ K C) (i:dw K C "word") (g:b.length<=100) (f:y.length<=1000000) (e:∀d,H d=aF->d≠a->Q .aC (upd (upd H d (xq d [("word",.str b)])) a (xn a C (O d)))):Rr K c H Q
def Uw(K:ah):Sp:=λa H Q _=>Rr K a H Q
def Ux(b:af)(c:U):Sp:=λe H Q _=>∃(a:U) (y:af),e=[.ref a,.str y]/\H a=O (xn a c aF)/\y.length<=1000000/\
 ∀d,H d=aF->d≠a->Q .aC (upd (upd H d (xq d [("word",.str b)])) a (xn a c (O d)))
abbrev wH:Z af:=["self","why"]
def JZ(P:c9)(w:cX)(K:ah)(b:aR)(a:cS)(x f:af)(c:U):Prop:=
 ∃d e,wc K c d/\aE P w K b a aL 2 d e wH (Ux f c)/\Binds K e wH []/\b x=O (.ref c)/\dJ K c/\dw K c "word"
def tW(c:TE)(R:St->Hp->VK):TE:=λa H Q=>c a H (R a H)/\∀v b,R a H v b->Q v b
def PE.weak(h:PE X e d)(R:St->Hp->VK):PE X e (tW d R):=λa s b H Q I ⟨q,k⟩=>az (h a s b H (R b H) I q) λ_ _ g=>by obtain⟨v,c,f,r,z⟩:=g;exact⟨v,c,f,r,k v c z⟩
def Zgj(c:U)(b:af)(E:St->XK)(d:TE):TS:=λ_ a H=>d a H λv e=>∃y:af,v=.str y/\y.length<=1000000/\XP e c b (E a)
def ZdN{X:Cx}{j:Nat}{x i:af}{c:U}{E:St->XK}{e:cu}{t:TE}{p k T:Pos}(h:JZ X.prog X.w X.K X.mg X.base x i c)(J:cK j X.A)(L:3<=j)(Q:X.calm=ar)(N:Gl X x)(G:KA X E)(P:PE X e t)
  (R:(x==("__debug__":af))=a_:=by decide)(w:starEach [e] X.env=[(a_,eval e X.env)]:=by rfl):
  PS X (.Raise (O (.Call (.Name x p) [e] [] T)) aF k) (Zgj c i E t):=by
 obtain⟨fi,fd,B,F,b,m,W,na⟩:=h;intro f s g H D I q;refine ZeM B F (J.mono L) Q N m b .nil G (aa (P.weak λg _ v r=>∃y:af,v=.str y/\y.length<=1000000/\XP r c i (E g)) ae w) R w rfl f s g H D I ⟨q,?_⟩;rintro v r ⟨y,rfl,C,A⟩;refine⟨by show 1<=1000;decide,λa u=>⟨a,y,rfl,aT,C,λd hd l=>⟨rfl,d,aT,?_⟩⟩⟩;have z:r d=aF:=by rw[aN l] at hd;exact hd
 refine A a d _ u z (λb o e=>?_) aT ?_
 ·have n:=bP e u;rwa[aN n,aN n,aN (bP e z),aN n]
 ·rw[aN l,aN l,aT]
def ZeO{K:ah}(h:X.K=K):df X (.builtin "isinstance") (Up K):=h▸Zbc
def ZeP{X:Cx}{K:ah}{e:cu}{b:TE}{f:af}{a:Pos}(h:X.K=K)(c:PE X e b)(d:attributeBase e f X.env (eval e X.env)=eval e X.env:=by rfl):PE X (.Attribute e f a) (Uo K b f):=h▸Zgc c d
end L2
namespace L2
open PySem PySem.Spec PyProof.Rows
open PySem.W (Looks InstAt looks_findIn looks_typeIn looks_clsIn looks_mroIn looks_find findObj findIn mroIn clsIn)
def S9{X:Cx}{k j:Nat}{m:af}{C:U}{n:Z af}{l:Sp}{E:St->XK}{a d:Pos}{o e:cu}{es:Z cu}{t:TA}{i:TE}{q:Sem cm}(h:∃f g,gq X.K C/\Meth X.K C m f/\aE X.prog X.w X.K X.mg X.base (oS X.prog X.w) k f g n l/\Binds X.K g n [])(u:cK j X.A)(x:k<=j)(r:KA X E)(v:PE X o i)(y:PA X (e::es) t)
  (z:iQ X e es:=by rfl)(A:jj X a es:=by rfl)
  (s:eval (.Call (.Attribute o m d) (e::es) [] a) X.env=(do
   let p←eval o X.env
   standAt d.atName
   let(f,first)←holding [p] (getMethod p m q)
   callWith a f first (backTo a (starEach (e::es) X.env)) (backToKw a (keywordEach [] X.env))):=by rfl):
  PE X (.Call (.Attribute o m d) (e::es) [] a) (S3 C m l E i t):=by
 obtain⟨f,g,c,w,F,b⟩:=h;exact ZeE v c w F (u.mono x) b r y z A s
end L2
namespace Mi
open L2
def Oy(n:Nat):(bJ n).Nodup:=by
 exact MI _ (λa b h e=>h (lR e)) Pe
end Mi
namespace L2
open PySem PySem.Spec PyProof.Rows
def Row(K:ah)(H:Hp)(p:U)(a:Z Int):Prop:=aq K H p (a.map V.int)\/aB K H p (a.map V.int)
def Row.same{K:ah}{H a:Hp}{p:U}{ns:Z Int}(e:ag H a)(h:Row K H p ns):Row K a p ns:=by
 rcases h with h|h;·exact .inl (e.seq h)
 ·exact .inr (e.jQ h)
def full(a:Z Int):cm:=decide (a.Perm (bJ a.length))
def qV(h:full ns=ar):ns.Perm (bJ ns.length):=eH h
def tD(h:ns.Perm (bJ n)):full ns=ar:=du (by rwa[h.length_eq,fG])
def ZbX(n:Nat):(bJ n).Pairwise (·<=·):=by
 unfold bJ;rw[Jc];exact List.pairwise_lt_range.imp λh=>QO
theorem Oz:∀{c bs:Z Int},c.Perm bs->c.Pairwise (·<=·)->bs.Pairwise (·<=·)->c=bs
 |[],bs,p,_,_=>by
  simp_all
 |a::c,[],p,_,_=>by
  simp_all
 |a::c,b::bs,p,f,d=>by
  rw[Xa] at f d;have e:a=b:=by
   have h:=p.subset Yg;have g:=p.symm.subset Yg
   grind
  subst e;rw[Oz (List.Perm.cons_inv p) f.2 d.2]
def ZbY(p:a.Perm ns)(h:a.Pairwise (·<=·)):decide (a=bJ ns.length)=full ns:=by
 unfold full;rw[Wq,hI,hI];constructor;·grind
 ·intro q;exact Oz (p.trans q) h (ZbX _)
def Uy(K:ah)(a:cm)(b:TE):TE:=jP (Vg K a) (nN (IU K) (ir b jL)) (nN PU (ir (nN Ri (ir (nN (yU K) (ir b jL)) jL)) jL))
def ZeQ{K:ah}(c:σ[i]?=O (O (.ref p)))(d:Row K H p ns)(k:ns.length<64)(q:∀g,ag H g->Q (.bl (if neg=ar then !full ns else full ns)) g):
   (Uy K neg (gf i)) σ H Q:=by
 refine⟨_,c,p,ns,rfl,d,k,λl f m j h=>?_⟩;have e:ag H (upd H l (.lst (f.map V.int))):=cF m _;refine⟨_,c,p,ns.map V.int,rfl,Row.same e d,_,rfl,λr a=>⟨r,(ns.map V.int).length,rfl,aT,by rw[Ya];exact ro (nA k (by decide)),λu b=>?_⟩⟩;have n:=(e.trans (cF a (.kh 0 (((ns.map V.int).length:Nat):Int)))).trans (cF b (.lst ((bJ (ns.map V.int).length).map V.int)));refine⟨l,u,f,bJ (ns.map V.int).length,rfl,rfl,aq.of ?_,aq.of aT,?_⟩
 ·rw[aN (bP ((cF a _) _ _ aT) b)];exact(cF a _) _ _ aT
 ·rw[Ya,ZbY j h]
  simp_all
theorem any_false(n:Nat):(List.replicate n a_).any id=a_:=by
 induction n with
 |zero=>rfl
 |succ n a=>simp_all
section
open PySem.AutoSeq1 (wpAny_loadPart')
open PySem.MeetsSeq PySem.SeqAt
def ZaR(l:U)(a:c8 a7)(n:Nat)(I:bw U)(B:c8 (bw a7))(x:a7)(e:a7->cm)(j:Nat)(E:j<a.size)
  (p:e a[j]=ar)(J:∀m (L:m<a.size),m<j->e a[m]=a_):
  Meets (Builtin.«tuple.index» ⟨[.ref l,x],[]⟩)
   (λA R s=>s.heap.get? l=O {cls:=.type "tuple",dict:=I,data:=.seq a n,slots:=B}/\(∀y,y∈a->EqAt A.in1 s y x (e y))/\R (.ok (.ret (.int j s.toks))) {s with toks:=s.toks+1}):=
 .of_wp λf w A R s h=>by
  obtain⟨C,g,d,z,os⟩:=s;obtain⟨D,F,h⟩:=h
  wp_walk using SF D
  show wpAny _ _ (forIn (m:=Sem) [:min a.size a.size] (aF,()) _) _ _ _;rw[Std.Legacy.Range.forIn_eq_forIn_range'];refine wpAny_forIn_list _ (λc b r=>r=⟨C,g,d,z,os⟩/\∃i,i<=j/\c=List.range' i (a.size-i)) _ ?_ ?_ _ _ ⟨rfl,0,Yx _,QS⟩
  ·rintro k c b r ⟨rfl,i,u,t⟩;have q:i<a.size:=(mz u E)
   obtain⟨rfl,v⟩:k=i/\c=List.range' (i+1) (a.size-(i+1)):=by
    have e:a.size-i=(a.size-(i+1))+1:=QO
    rw[e,List.range'_succ] at t;injection t with H G;exact⟨H,G⟩
   rw[W4 q];refine bg (F _ (Na q) f w _ _ ?_);rcases Nat.lt_or_ge k j with o|o
   ·rw[J k q o]
    wp_walk
    exact⟨rfl,k+1,(mK o),v⟩
   ·obtain rfl:k=j:=(ic u o)
    rw[p]
    wp_walk
    exact⟨_,rfl,h⟩
  ·(simp;omega)
end
def Zh3(f:TE)(t:TA):TE:=λb H Q=>f b H λx d=>∃(p:U) (a:Z Int),x=.ref p/\d p=O (.tup (a.map V.int))/\t b d λe c=>∃(z:Int) (j:Nat),e=[.int z]/\c p=O (.tup (a.map V.int))/\a[j]?=O z/\(∀m,m<j->a[m]?≠O z)/\Q (.int (j:Int)) c
theorem ZaS:∀{b:Z Int} {a:Z a7} {j:Nat} (h:j<a.length),Vals (b.map V.int) a->∃n t,b[j]?=O n/\a[j]=.int n t:=by
 intro b;induction b with
 |nil=>intro a j h r;cases r;simp at h
 |cons n b e=>
  intro a j h r;rw[Wu] at r;cases r with
  |cons r t=>
   cases j with
   |zero=>
    obtain⟨c,rfl⟩:=r;exact⟨n,c,rfl,rfl⟩
   |succ j=>
    obtain⟨d,c,g,f⟩:=e (by simpa using h) t;exact⟨d,c,by simpa using g,by simpa using f⟩
theorem ZdO(a:Z Int):(a.map V.int).all jG=ar:=by
 induction a with
 |nil=>rfl
 |cons n a b=>rw[Wu,Ju,b];rfl
def Oa(ho:PE X o to)(ha:PA X [e] t)
  (tR:attributeBase o "index" X.env (eval o X.env)=eval o X.env:=by rfl)
  (K8:((backTo k (starEach [e] X.env)).all (λx=>!x.1)&&(backToKw k (keywordEach [] X.env)).all (λx=>x.1.isSome)
   &&decide ([e].length+([]:Z Keyword).length+(if([]:Z Keyword).isEmpty then 0 else 1)<30))=ar:=by rfl)
  (W:(apos.endLine==k.line)=ar:=by rfl)(hs:starEach [e] X.env=(a_,eval e X.env)::starEach [] X.env:=by rfl):
  PE X (.Call (.Attribute o "index" apos) [e] [] k) (Zh3 to t):=by
 intro b s q H Q I h;refine Ae tR K8 W rfl (az (ho b s q H _ I h) λv w l=>?_);obtain⟨x,T,R,r1,p,f,ex,hp,q1⟩:=l;subst ex;obtain rfl:v=Value.ref p:=r1;obtain⟨_,_,_,A,g,oc,_,_,od⟩:=(show cQ X.prog X.w T w.heap p (.tup (f.map V.int)) from R.ay p _ hp);refine⟨"tuple","tuple.index",F.plainAttrs_tuple,J5,F.type_tuple_index,⟨A,g,oc⟩,λa ea=>by cases ea;exact⟨A,g,od⟩,?_⟩;have E:=ha k b w q T _ R q1;rw[hs] at E⊢;refine k_ rfl (m6 ?_);refine az E λus s2 l=>?_;obtain⟨vs,H2,P,r2,z,j,ev,dM,D,Mj,q2⟩:=l;subst ev;obtain⟨u,rfl,ru⟩:=r2.one;obtain⟨r,rfl⟩:=ru;obtain⟨_,d,n,⟨cls,dd,J,sl⟩,G,N,n2,L,_⟩:=(P.ay p _ dM);simp only at N L;subst N L;have c:d.length=f.length:=by have:=n.length;rw[Ya] at this;exact mU this
 have Xd:j<d.length:=by exact c▸(Yn.mp D).1
 have C:∀m (i:m<d.length),iS (.int z) d[m]=decide (f[m]?=O z):=λm i=>by
  obtain⟨B,t',e1,e2⟩:=ZaS i n;rw[e1,e2];show(B==z)=decide (O B=O z)
  grind
 refine qU J5 ⟨_,G,rfl⟩ F.entry_tuple_index (F.args_tuple_index_2 _ _) (ZaR p d.toArray n2 dd sl (.int z r) (iS (.int z)) j (by rwa[Yt]) ?_ ?_) ⟨G,?_,?_⟩;·rw[CS,C j Xd];exact du D
 ·intro m i bK;rw[CS,C m (by simpa using i)];exact fb (Mj m bK)
 ·intro y hy;exact yf (x:=.int z) ⟨r,rfl⟩ rfl n (ZdO f) y (by simpa using hy)
 ·exact⟨.int _,H2,P.tok _,⟨_,rfl⟩,q2⟩
section
variable {X:Type}[DecidableEq X]
def aH(a:Z (X×V))(k:X):bw V:=(a.find? λb=>decide (b.1=k)).map (·.2)
def putK(a:Z (X×V))(k:X)(v:V):Z (X×V):=
 if(a.any λb=>decide (b.1=k))=ar then a.map (λb=>if b.1=k then(b.1,v) else b) else a++[(k,v)]
def iy(a:Z (X×V))(k:X):Z (X×V):=a.filter λb=>decide (b.1≠k)
def fq{k:X}(e:p.1=k):aH (p::r) k=O p.2:=by simp[aH,Ml,e]
def eO{k:X}(e:¬p.1=k):aH (p::r) k=aH r k:=by simp[aH,Ml,e]
theorem vK(k:X):∀a:Z (X×V),(a.any λb=>decide (b.1=k))=(aH a k).isSome
 |[]=>rfl
 |p::r=>by
  rw[J7];by_cases e:p.1=k;·simp[fq e,du e,Bool.true_or,Option.isSome_some]
  ·rw[eO e,fb e,C7];exact vK k r
theorem P1(k j:X)(y:V):∀a:Z (X×V),aH (a.map λb=>if b.1=k then(b.1,y) else b) j=(aH a j).map λx=>if j=k then y else x
 |[]=>rfl
 |p::r=>by
  have c:=P1 k j y r;rw[Wu];by_cases h:p.1=k
  ·rw[bS h];by_cases e:p.1=j;·rw[fq (p:=(p.1,y)) e,fq e,Vp,bS (e.symm.trans h)]
   ·rw[eO (p:=(p.1,y)) e,eO e,c]
  ·rw[bt h];by_cases e:p.1=j;·rw[fq e,fq e,Vp,bt (λz=>h (e.trans z))]
   ·rw[eO e,eO e,c]
theorem vC(k j:X)(y:V):∀a:Z (X×V),aH a k=aF->aH (a++[(k,y)]) j=if j=k then O y else aH a j
 |[],_=>by
  by_cases e:k=j;·rw[bS e.symm];exact fq (p:=(k,y)) e
  ·rw[bt (λz=>e z.symm)];exact eO (p:=(k,y)) e
 |p::r,b=>by
  rw[Jy];have c:¬p.1=k:=λz=>by rw[fq z] at b;cases b
  rw[eO c] at b;by_cases e:p.1=j;·rw[fq e,fq e,bt (λz=>c (e.trans z))]
  ·rw[eO e,eO e,(vC k j y r b)]
theorem ZeR(b:Z (X×V))(k j:X)(y:V):aH (putK b k y) j=if j=k then O y else aH b j:=by
 unfold putK;by_cases a:(b.any λc=>decide (c.1=k))=ar
 ·rw[bS a,P1];rw[vK] at a;by_cases e:j=k
  ·obtain⟨x,d⟩:=Jp.mp a
   (split<;>simp_all)
  ·simp_all
 ·rw[bt a];refine vC k j y b ?_;rw[vK] at a;cases q:aH b k with
  |none=>rfl
  |some x=>grind
def Au(a:Z (X×V))(k:X)(v:V):(putK a k v).length<=a.length+1:=by
 unfold putK
 (split<;>simp_all)
def iZ{k:X}(v:V)(h:aH a k=aF):putK a k v=a++[(k,v)]:=by
 unfold putK;rw[vK,h];rfl
theorem eR.vD(r:eR o u):o.isSome=u.isSome:=by
 cases o with
 |none=>cases u with
  |none=>rfl
  |some _=>exact(r).elim
 |some _=>cases u with
  |none=>exact(r).elim
  |some _=>rfl
theorem eR.getD(r:eR o u)(a:RelV d b):RelV (o.getD d) (u.getD b):=by
 cases o with
 |none=>cases u with
  |none=>exact a
  |some _=>exact(r).elim
 |some _=>cases u with
  |none=>exact(r).elim
  |some _=>exact r
theorem KV.val(r:KV c g)(k:X):eR (aH c k) (valueAt g k):=by
 unfold KV at r;induction r with
 |nil=>exact hY
 |@cons p q i a h t j=>
  obtain⟨f,l⟩:=h;by_cases e:p.1=k
  ·have d:=f.symm.trans e;have b:valueAt (q::a) k=O q.2:=by simp[valueAt,Ml,d]
   rwa[fq e,b]
  ·have d:¬q.1=k:=λz=>e (f.trans z);have b:valueAt (q::a) k=valueAt a k:=by simp[valueAt,Ml,d]
   rwa[eO e,b]
theorem KV.any(r:KV a c)(k:X):(a.any λb=>decide (b.1=k))=c.any λb=>decide (b.1=k):=by
 induction r with
 |nil=>rfl
 |cons h t d=>simp_all
theorem KV.Lf(r:KV b c)(k:X)(e:RelV y u):
  KV (b.map λa=>if a.1=k then(a.1,y) else a) (c.map λa=>if a.1=k then(a.1,u) else a):=by
 induction r with
 |nil=>exact .nil
 |@cons p q g f h t d=>
  refine .cons ?_ d
  grind
def KV.put(r:KV a b)(k:X)(c:RelV y u):KV (putK a k y) (stored b k u):=by
 unfold putK stored;rw[r.any k];by_cases e:(b.any λd=>decide (d.1=k))=ar;·rw[bS e,bS e];exact r.Lf k c
 ·rw[bt e,bt e];exact Paired.snoc r ⟨rfl,c⟩
theorem KV.drop(r:KV c f)(k:X):KV (iy c k) (without f k):=by
 unfold iy without;induction r with
 |nil=>exact .nil
 |@cons p q m l h t g=>
  obtain⟨d,i⟩:=h;rw[Ja,Ja];by_cases e:p.1=k;·simp_all
  ·have j:¬q.1=k:=λz=>e (d.trans z);have a:decide (p.1≠k)=ar:=by simp[e]
   have b:decide (q.1≠k)=ar:=by simp[j]
   rw[bS a,bS b];exact .cons ⟨d,i⟩ g
theorem KV.keys{a:Z (X×V)}(r:KV a b):a.map (·.1)=b.map (·.1):=by
 induction r with
 |nil=>rfl
 |cons h t c=>simp_all
def KV.length(r:KV a b):a.length=b.length:=Paired.length r
def P2(a:Z (X×V))(k:X):(iy a k).length<=a.length:=Wj _ _
end
theorem nv(r:RelV (kV k) u):(dO P w).is k u=ar:=by
 cases k with
 |inl i=>obtain⟨t,e⟩:=(show ∃t,u=Value.int i t from r);subst e;exact ZbP P w i t
 |inr x=>obtain⟨t,e⟩:=(show ∃t,u=Value.str x t from r);subst e;exact ZbQ P w x t
theorem O7:∀{a:Z Key} {b:Z a7},Vals (a.map kV) b->ItemsAre (dO P w) a b
 |[],_,r=>by rw[L5] at r;cases r;exact .nil
 |k::a,_,r=>by
  cases r with
  |cons h t=>exact .cons (nv h) (O7 t)
abbrev KT(H:Hp):Z (Z Key×V)->Z (Z Key×U×a7)->Prop:=Paired λp q=>p.1=q.1/\H q.2.1=O (.tup (p.1.map kV))/\RelV p.2 q.2.2
theorem KT.val(r:KT H c xs)(k:Z Key):eR (aH c k) ((atKey xs k).map (·.2)):=by
 induction r with
 |nil=>exact hY
 |@cons p q g a h t i=>
  obtain⟨f,_,j⟩:=h;by_cases e:p.1=k
  ·have d:=f.symm.trans e;have b:atKey (q::a) k=O q.2:=by simp[atKey,d]
   rwa[fq e,b]
  ·have d:¬q.1=k:=λz=>e (f.trans z);have b:atKey (q::a) k=atKey a k:=by simp[atKey,d]
   rwa[eO e,b]
theorem KT.Lf(r:KT H a xs)(k:Z Key)(d:RelV y u):
  KT H (a.map λb=>if b.1=k then(b.1,y) else b) (xs.map (putAt k u)):=by
 induction r with
 |nil=>exact .nil
 |@cons p q f e h t c=>
  refine .cons ?_ c;unfold putAt
  (split<;>simp_all)
def KT.put(r:KT H a xs)(k:Z Key)(f:H b=O (.tup (k.map kV)))(c:RelV y u):
  KT H (putK a k y) (storedH xs k b u):=by
 have e:(a.any λd=>decide (d.1=k))=(atKey xs k).isSome:=by
  rw[vK,(r.val k).vD,Xe]
 unfold putK storedH;rw[e];by_cases q:(atKey xs k).isSome=ar;·rw[bS q,bS q];exact r.Lf k c
 ·rw[bt q,bt q];exact Paired.snoc r ⟨rfl,f,c⟩
def KT.keeps(r:KT H a xs)(d:∀b c,H b=O (.tup c)->e b=O (.tup c)):KT e a xs:=
 Paired.bu r λ_ _ z=>⟨z.1,d _ _ z.2.1,z.2.2⟩
def Uz(b:dv P w H h)(e:Rd H a u):cQ P w H h a u:=e.ok b
def qh(c:dv P w H h)(e:Rd H a (.dK b)):b.length<=sizeLine/\(a==sysModules)=a_/\∃vs,KV b vs/\h.DictOf (dO P w) a vs:=
 Uz c e
def oH(c:dv P w H h)(e:H a=O (.dK b)):b.length<=sizeLine/\(a==sysModules)=a_/\∃vs,KV b vs/\h.DictOf (dO P w) a vs:=qh c (.inl e)
def qa(b:dv P w H h)(e:H a=O (.tup (c.map kV))):(tupleKind (dO P w)).is h c a:=by
 obtain⟨_,i,r,o,g,f,n,d,_⟩:=(b a _ e);exact⟨o,i.toArray,n,g,f,d,by simpa using O7 r⟩
theorem rF(d:dv P w H h)(e:Rd H a (.dT b)):b.length<=sizeLine/\(a==sysModules)=a_/\
  ∃xs,KT H b xs/\h.DictOfH (tupleKind (dO P w)) a xs:=by
 refine gG λD C=>?_;obtain⟨z,y,xs,r,o,u,v,s,n,k,j,i⟩:=(Uz d e);refine C ?_;refine⟨z,y,xs,r,o,u,v,s,n,k,j,λx c=>?_,i⟩;have all:∀{l:Z (Z Key×V)} {m:Z (Z Key×U×a7)},KT H l m->∀x∈m,(tupleKind (dO P w)).is h x.1 x.2.1:=by
  intro l m q;induction q with
  |nil=>grind
  |@cons p q B A f t g=>
   intro x c;rcases Ys.mp c with e|c
   ·subst e;exact qa d (by exact f.1▸f.2.1)
   ·exact g x c
 grind
def KG(c:dv P w H h)(e:H a=O (.dT b)):b.length<=sizeLine/\(a==sysModules)=a_/\
  ∃xs,KT H b xs/\h.DictOfH (tupleKind (dO P w)) a xs:=rF c (.inl e)
def eU(H:Hp)(a:U)(y:V)(r:bw V):Prop:=
 (∃c k,Rd H a (.dK c)/\y=kV k/\r=aH c k)\/∃c k b,Rd H a (.dT c)/\y=.ref b/\H b=O (.tup (k.map kV))/\r=aH c k
def uc(H:Hp)(a:U)(y v:V)(d:Hp):Prop:=
 (∃c k,H a=O (.dK c)/\y=kV k/\c.length<sizeLine/\d=upd H a (.dK (putK c k v)))\/
 ∃c k b,H a=O (.dT c)/\y=.ref b/\H b=O (.tup (k.map kV))/\c.length<sizeLine/\d=upd H a (.dT (putK c k v))
def eU.k{H:Hp}{a:U}{b:Z (Key×V)}{k:Key}(e:H a=O (.dK b)):eU H a (kV k) (aH b k):=.inl ⟨b,k,.inl e,rfl,rfl⟩
def eU.t{H:Hp}{a b:U}{c:Z (Z Key×V)}{k:Z Key}(e:H a=O (.dT c))(d:H b=O (.tup (k.map kV))):eU H a (.ref b) (aH c k):=.inr ⟨c,k,b,.inl e,rfl,d,rfl⟩
def uc.k{H:Hp}{a:U}{b:Z (Key×V)}{k:Key}{v:V}(e:H a=O (.dK b))(c:b.length<sizeLine):uc H a (kV k) v (upd H a (.dK (putK b k v))):=.inl ⟨b,k,e,rfl,c,rfl⟩
def uc.t{H:Hp}{a b:U}{c:Z (Z Key×V)}{k:Z Key}{v:V}(e:H a=O (.dT c))(f:H b=O (.tup (k.map kV)))(d:c.length<sizeLine):
  uc H a (.ref b) v (upd H a (.dT (putK c k v))):=.inr ⟨c,k,b,e,rfl,f,d,rfl⟩
def Inv.big(I:Inv X pins σ H s):sysModules<s.heap.objs.size:=by
 exact pz QD ((I.mod.glob.keeps I.bk).lt)
def ZdP(r:A.units+1<cLine)(I:Inv X pins σ H s)(g:eU H a y (O v))(q:RelV y u)(h:∀d o,Inv X pins σ H o->RelV v d->Q d o):
  wpAny X.md A (getItem (.ref a) u) Q E s:=by
 rcases g with⟨f,k,e,m,l⟩|⟨f,k,b,e,m,w,l⟩
 ·subst m;obtain⟨z,hd,C,c,n⟩:=qh I.ay e;obtain⟨d,i,j⟩:=eR.some_of (by exact l▸c.val k);exact wpAny_getItem_of (nv q) n.mapOf i (h d _ (I.tok _) j)
 ·subst m;cases(q);obtain⟨z,hd,B,c,n⟩:=rF I.ay e;obtain⟨d,i,j⟩:=eR.some_of (by exact l▸c.val k);obtain⟨p,t,x⟩:=Option.map_eq_some_iff.mp i;refine wpAny_getItem_heap (me r) (qa I.ay w) n t ?_;exact x▸h d _ (I.tok _) j
def Zj8(n:A.units+1<cLine)(I:Inv X pins σ H s)(g:eU H a y o)(m:RelV y u)(h:∀j,Inv X pins σ H j->Q (.bool o.isSome) j):
  wpAny X.md A (compareOp .In u (.ref a)) Q E s:=by
 rcases g with⟨d,k,e,f,l⟩|⟨d,k,b,e,f,p,l⟩
 ·subst f;obtain⟨z,hd,t,c,i⟩:=qh I.ay e;refine wpAny_in_of (nv m) hd i.mapOf ?_;rw[←(c.val k).vD,←l];exact h _ (I.tok _)
 ·subst f;cases(m);obtain⟨z,hd,r,c,i⟩:=rF I.ay e;refine wpAny_in_heap (me n) (qa I.ay p) hd i ?_;have q:=(c.val k).vD;rw[Xe] at q;rw[←q,←l];exact h _ (I.tok _)
def Zgk(n:A.units+1<cLine)(I:Inv X pins σ H s)(g:eU H a y o)(m:RelV y u)(h:∀j,Inv X pins σ H j->Q (.bool (!o.isSome)) j):
  wpAny X.md A (compareOp .NotIn u (.ref a)) Q E s:=by
 rcases g with⟨d,k,e,f,l⟩|⟨d,k,b,e,f,p,l⟩
 ·subst f;obtain⟨z,hd,t,c,i⟩:=qh I.ay e;refine wpAny_notIn_of (nv m) hd i.mapOf ?_;rw[←(c.val k).vD,←l];exact h _ (I.tok _)
 ·subst f;cases(m);obtain⟨z,hd,r,c,i⟩:=rF I.ay e;refine wpAny_notIn_heap (me n) (qa I.ay p) hd i ?_;have q:=(c.val k).vD;rw[Xe] at q;rw[←q,←l];exact h _ (I.tok _)
def rf(I:Inv X pins σ H s)(f:zb (H a))(g:Heap.SameBut a s.heap d)(h:∃q,d.get? a=O q)(c:cQ X.prog X.w (upd H a e) d a e):
  Inv X pins σ (upd H a e) {s with heap:=d,toks:=j}:=
 I.write f (.inl rfl) (λb q i z=>(g.2 b i).trans z) h c
def yB(z:b.length<=sizeLine)(e:(a==sysModules)=a_)(c:KV b d)(g:f.DictOf (dO P w) a d):
  cQ P w h f a (.dK b):=⟨z,e,d,c,g⟩
def O8(L:A.units+1<cLine)(I:Inv X pins σ H s)(g:uc H a y v H')(x:RelV y u)(B:RelV v r)(h:∀w,Inv X pins σ H' w->Q () w):
  wpAny X.md A (setItem (.ref a) u r) Q E s:=by
 rcases g with⟨f,k,e,o,l,p⟩|⟨f,k,b,e,o,D,l,p⟩
 ·subst o p;obtain⟨z,hd,G,d,t⟩:=oH I.ay e;have J:G.length<=sizeLine:=by rwa[←d.length]
  have n:(putK f k v).length<=sizeLine:=by have:=Au f k v;exact k8 this (t5 l)
  refine wpAny_setItem_pairs (nv x) t λC j m=>h _ ?_;have N:∃q,C.get? a=O q:=let⟨q,_,_,i,_⟩:=j;⟨q,i⟩;exact rf I (by exact e▸hY) m N (yB n hd (d.put k B) j)
 ·subst o p;cases(x);obtain⟨z,hd,F,d,t⟩:=KG I.ay e;have J:F.length<=sizeLine:=by rwa[←Paired.length d]
  have n:(putK f k v).length<=sizeLine:=by have:=Au f k v;exact k8 this (t5 l)
  refine wpAny_setItem_heap (me L) (qa I.ay D) t λC j m=>h _ ?_;obtain⟨q,es,ep,i,W,T,R,_,P⟩:=j;refine rf I (by exact e▸hY) m ⟨q,i⟩ ⟨n,hd,_,(d.put k D B).keeps λc ys ec=>?_,q,es,ep,i,W,T,R,P⟩;rwa[aN (Kr ec e (λz=>nomatch z))]
def ZdQ(I:Inv X pins σ H s)(e:H a=O (.dK c))(j:RelV (kV k) u)(l:(aH c k).isSome=ar)(h:∀f,Inv X pins σ (upd H a (.dK (iy c k))) f->Q () f):
  wpAny X.md A (delItem (.ref a) u) Q E s:=by
 obtain⟨z,hd,i,b,d⟩:=oH I.ay e;refine D6 d.typeIs QD su
  (mh su d.typeIs zl (zi _ _) (meets_dict_delitem_pairs (dO X.prog X.w) a (nv j)) ⟨i,d,by rw[←b.length];exact z,by rwa[←(b.val k).vD],λp g m=>h _ ?_⟩)
 have o:∃q,p.get? a=O q:=let⟨q,_,_,n,_⟩:=g;⟨q,n⟩;exact rf I (by exact e▸hY) m o (yB (Yy (P2 c k) z) hd (b.drop k) g)
theorem Zjh(I:Inv X pins σ H s)(e:H a=O (.dK c))(f:RelV (kV k) u)(l:aH c k=O v)(j:more=[]\/∃x,more=[x])
  (h:∀d g,Inv X pins σ (upd H a (.dK (iy c k))) g->RelV v d->Q d g):wpAny X.md A (call (.builtin "dict.pop") (.ref a::u::more)) Q E s:=by
 obtain⟨z,hd,o,b,n⟩:=oH I.ay e;obtain⟨d,p,F⟩:=eR.some_of (v:=v) (by exact l▸b.val k);have y:(keyPart u).isSome=ar:=by
  cases k with
  |inl i=>obtain⟨t,q⟩:=(show ∃t,u=Value.int i t from f);subst q;rfl
  |inr x=>obtain⟨t,q⟩:=(show ∃t,u=Value.str x t from f);subst q;rfl
 have C:argsOk "dict.pop" ⟨.ref a::u::more,[]⟩:=by
  rcases j with q|⟨x,q⟩;·subst q;exact PySem.F.args_dict_pop_2 _ _
  ·subst q;exact PySem.F.args_dict_pop_3 _ _ _
 refine mh slot_dict_pop n.typeIs PySem.F.entry_dict_pop C (meets_dict_pop_there (dO X.prog X.w) a (nv f) more j y)
  ⟨o,d,n,by rwa[←b.length],p,λD m r=>h d _ ?_ F⟩
 have B:∃q,D.get? a=O q:=let⟨q,_,_,w,_⟩:=m;⟨q,w⟩;exact rf I (by exact e▸hY) r B (yB (Yy (P2 c k) z) hd (b.drop k) m)
def Zji(I:Inv X pins σ H s)(e:Rd H a (.dK c))(h:∀t d,Inv X pins σ H d->Q (.int c.length t) d):wpAny X.md A (call (.builtin "len") [.ref a]) Q E s:=by
 obtain⟨z,hd,g,b,f⟩:=qh I.ay e;refine call_len_dict hd f (by rw[←b.length];rw[dg] at z;omega) ?_;exact b.length▸h _ _ (I.tok _)
def Vl(i:cu):Prop:=∀a b,subscripted i a_ a b=operate [a,b] (getItem a b)
theorem Zgl{a:c9}{w:cX}{A:d_}{E:bb}{s:bU}{d:Env}{c b:cu}{f:Pos}{T id:String}{Q:bb}
  (n:typeLookup (.type T) "__getitem__"=pure (O (.builtin id)))(m:Vl b)
  (h:wpAny (model a w) A (eval c d) (λo j=>wpAny (model a w) A (eval b d) (λi eS=>eS.TypeIs o T/\wpAny (model a w) A (getItem o i) Q E eS) E j) E s):
  wpAny (model a w) A (eval (.Subscript c b f) d) Q E s:=by
 refine Subscript_ (dD h (λo j l=>dD l (λi eS e=>?_) λ_ _ x=>x) λ_ _ x=>x);obtain⟨p,e⟩:=e;refine bg (bg (wpAny_specialOf p n ?_));have fin:wpAny (model a w) A (subscripted b a_ o i) (λr g=>wpAny (model a w) A (letTemporaryGo c o r>>=λ_=>pure r) Q E g) E eS:=by
  rw[m o i];exact wpAny_operating (dD e (λr g k=>bg (wpAny_letTemporaryGo (cG k))) λ_ _ x=>x)
 first
  |exact cG (bg fin)
  |exact bg (cG (bg fin))
  |exact bg fin
def ZbZ(I:Inv X pins σ H s)(g:eU H a y o):s.TypeIs (.ref a) "dict":=by
 rcases g with⟨c,k,e,_,_⟩|⟨c,k,b,e,_,_,_⟩
 ·obtain⟨_,_,h,_,d⟩:=qh I.ay e;exact d.typeIs
 ·obtain⟨_,_,f,_,d⟩:=rF I.ay e;exact d.typeIs
inductive Rt(Q:VK)(x:V)(y:V)(b:Hp):Prop
 |mk (a v) (e:x=.ref a) (d:eU b a y (O v)) (c:Q v b):Rt Q x y b
def Zjj(c b:TE):TE:=λa H Q=>c a H λx e=>b a e λy d=>Rt Q x y d
inductive S_(Q:VK)(y:V)(x:V)(b:Hp):Prop
 |mk (a o) (e:x=.ref a) (d:eU b a y o) (c:Q (.bl o.isSome) b):S_ Q y x b
def Zj9(b c:TE):TE:=λa H Q=>b a H λy e=>c a e λx d=>S_ Q y x d
inductive O9(Q:VK)(y:V)(x:V)(b:Hp):Prop
 |mk (a o) (e:x=.ref a) (d:eU b a y o) (c:Q (.bl (!o.isSome)) b):O9 Q y x b
def Zgm(b c:TE):TE:=λa H Q=>b a H λy e=>c a e λx d=>O9 Q y x d
def de(p:X.A.units+1<cLine)(r:PE X o f)(t:PE X i ty)(q:Vl i):PE X (.Subscript o i pos) (Zjj f ty):=by
 intro b s d H Q I h;refine Zgl PySem.F.slot_dict_getitem.lookup q (az (r b s d H _ I h) λu j c=>?_);obtain⟨x,D,B,l,n⟩:=c;refine az (t b j d D _ B n) λJ G c=>?_;obtain⟨y,C,e,k,a,v,z,g,m⟩:=c;subst z;obtain rfl:u=Value.ref a:=l;exact⟨ZbZ e g,ZdP p e g k λE F A w=>⟨v,C,A,w,m⟩⟩
def BD(p:X.A.units+1<cLine)(r:PE X i ty)(q:PE X o e):PC X .In i o (Zj9 ty e):=by
 intro b s d H Q I h;refine az (r b s d H _ I h) λE f c=>?_;obtain⟨y,B,z,j,m⟩:=c;refine az (q b f d B _ z m) λu D c=>?_;obtain⟨x,A,w,k,a,n,t,g,l⟩:=c;subst t;obtain rfl:u=Value.ref a:=k;exact Zj8 p w g j λC v=>⟨.bl n.isSome,A,v,rfl,l⟩
def mY(p:X.A.units+1<cLine)(r:PE X i ty)(q:PE X o e):PC X .NotIn i o (Zgm ty e):=by
 intro b s d H Q I h;refine az (r b s d H _ I h) λE f c=>?_;obtain⟨y,B,z,j,m⟩:=c;refine az (q b f d B _ z m) λu D c=>?_;obtain⟨x,A,w,k,a,n,t,g,l⟩:=c;subst t;obtain rfl:u=Value.ref a:=k;exact Zgk p w g j λC v=>⟨.bl (!n.isSome),A,v,rfl,l⟩
def P4(h:cS)(a:sysModules<h.objs.size):cQ P w H (h.push {cls:=.type "dict",data:=.dict #[]}) h.objs.size (.dK []):=
 ⟨Yx _,beq_eq_false_iff_ne.mpr (ib (Y0 a)),[],.nil,Heap.DictOf.new h⟩
def ZeS(h:cS)(a:sysModules<h.objs.size):cQ P w H (h.push {cls:=.type "dict",data:=.dict #[]}) h.objs.size (.dT []):=
 ⟨Yx _,beq_eq_false_iff_ne.mpr (ib (Y0 a)),[],.nil,_,#[],0,Yv _ rfl,⟨rfl,rfl,rfl⟩,rfl,rfl,Wy⟩
def Zh4:TE:=λ_ H Q=>∀p,H p=aF->Q (.ref p) (upd H p (.dK []))
def Zh5:TE:=λ_ H Q=>∀p,H p=aF->Q (.ref p) (upd H p (.dT []))
def ZeT:PE X (.Dict [] [] pos) Zh4:=λa s b H Q I h=>
 Nx ⟨.ref s.heap.objs.size,_,I.laid (λ _ _=>Yb _) (Yh _) (P4 s.heap I.big),rfl,h _ (I.ay.fresh (Yh _))⟩
def ZeU:PE X (.Dict [] [] pos) Zh5:=λa s b H Q I h=>
 Nx ⟨.ref s.heap.objs.size,_,I.laid (λ _ _=>Yb _) (Yh _) (ZeS s.heap I.big),rfl,h _ (I.ay.fresh (Yh _))⟩
def J_:Z (TE×TE)->St->Hp->(Z (V×V)->Hp->Prop)->Prop
 |[],_,H,Q=>Q [] H
 |(tk,tv)::r,σ,H,Q=>tk σ H λx d=>tv σ d λy c=>J_ r σ c λa b=>Q ((x,y)::a) b
abbrev VV:Z (V×V)->Z (a7×a7)->Prop:=Paired λp q=>RelV p.1 q.1/\RelV p.2 q.2
def C8(X:Cx)(e:Pos)(c:Z (bw cu))(a:Z cu)(i:Z (TE×TE)):Prop:=
 ∀(b:aX) (s:bU) (d:St) (H:Hp) (Q:Z (V×V)->Hp->Prop),Inv X b d H s->J_ i d H Q->
  wpAny X.md X.A (evalPairs (pairTrees c a X.env e)) (λh j=>∃f g,Inv X b d g j/\VV f h/\Q f g) X.xe s
def yk:C8 X pos [] [] []:=λa s b H Q I h=>pairTrees_nil_walk ⟨[],H,I,.nil,h⟩
def jV(z:PE X k g)(t:PE X v f)(w:C8 X pos r d e):
  C8 X pos (O k::r) (v::d) ((g,f)::e):=λa s b H Q I h=>
 pairTrees_cons_walk (az (z a s b H _ I h) λu j ⟨x,F,C,m,p⟩=>az (t a j b F _ C p) λJ i ⟨y,E,B,l,o⟩=>
  az (w a i b E _ B o) λG L N=>by obtain⟨q,D,A,c,n⟩:=N;exact⟨(x,y)::q,D,A,.cons ⟨m,l⟩ c,n⟩)
def oC(b a:Z (Key×V)):Z (Key×V):=a.foldl (λc d=>putK c d.1 d.2) b
theorem KV.merge:∀{more:Z (Key×V)} {c:Z (Key×a7)} {a:Z (Key×V)} {b:Z (Key×a7)},KV more c->KV a b->KV (oC a more) (merged b c):=by
 intro more c a b r;induction r generalizing a b with
 |nil=>intro q;exact q
 |@cons p q i g h t f=>
  intro d;have e:KV (putK a p.1 p.2) (stored b q.1 q.2):=by
   have:=d.put p.1 h.2
   simp_all
  exact f e
theorem NZ:∀(more a:Z (Key×V)),(oC a more).length<=a.length+more.length
 |[],a=>by show a.length<=a.length+0;exact mR _
 |p::r,a=>by
  have c:=NZ r (putK a p.1 p.2);have b:=Au a p.1 p.2;show(oC (putK a p.1 p.2) r).length<=_
  grind
theorem OA:∀{d:Z (Key×V)} {f:Z (a7×a7)},VV (d.map λg=>(kV g.1,g.2)) f->∃e,Carries (dO P w) f e/\KV d e
 |[],_,r=>by rw[L5] at r;cases r;exact⟨[],hY,.nil⟩
 |p::d,_,r=>by
  cases r with
  |@cons a b as bs h t=>
   obtain⟨e,c,q⟩:=OA t;obtain⟨j,i⟩:=b;exact⟨(p.1,i)::e,⟨nv h.1,rfl,c⟩,.cons ⟨rfl,h.2⟩ q⟩
def Zjk(e:Z (TE×TE)):TE:=λd H Q=>∀p,H p=aF->J_ e d (upd H p (.dK [])) λf c=>c p=O (.dK [])/\∃a:Z (Key×V),f=a.map (λb=>(kV b.1,b.2))/\a.length<=15/\Q (.ref p) (upd c p (.dK (oC [] a)))
def yn(h:C8 X pos keys values l)(B:keys.all (·.isSome)=ar)(v:keys.length=values.length)(x:keys≠[])
  (f:keys.length<=15):PE X (.Dict keys values pos) (Zjk l):=by
 intro a s j H Q I q;refine wpAny_Dict_walk (knd:=dO X.prog X.w) B v x f (az (h a _ j _ _ (I.laid (λ _ _=>Yb _) (Yh _) (P4 s.heap I.big)) (q _ (I.ay.fresh (Yh s.heap.objs.size)))) λC D L=>?_);obtain⟨E,J,i,d,e,b,y,F,p⟩:=L;subst y;obtain⟨m,c,n⟩:=OA d;obtain⟨z,hd,k,o,A⟩:=oH i.ay e;cases o;refine⟨m,c,A,λG g t=>⟨.ref s.heap.objs.size,_,?_,rfl,p⟩⟩;have r:(oC [] b).length<=sizeLine:=by
  have w:=NZ b [];rw[WR] at w;rw[dg];omega
 exact rf i (by exact e▸hY) t (let⟨q,_,_,u,_⟩:=g;⟨q,u⟩) (yB r hd (n.merge .nil) g)
structure M1(X:Cx)(o:cu)(m:af)(apos:Pos)(e:cu)(cz:Pos):Prop where
 base:attributeBase o m X.env (eval o X.env)=eval o X.env
 jo:((backTo cz (starEach [e] X.env)).all (λx=>!x.1)&&(backToKw cz (keywordEach [] X.env)).all (λx=>x.1.isSome)
  &&decide (([e]:Z cu).length+([]:Z Keyword).length+(if([]:Z Keyword).isEmpty then 0 else 1)<30))=ar
 line:(apos.endLine==cz.line)=ar
 trees:backTo cz (starEach [e] X.env)=[(a_,eval e X.env)]
structure M2(X:Cx)(o:cu)(m:af)(apos:Pos)(e f:cu)(cz:Pos):Prop where
 base:attributeBase o m X.env (eval o X.env)=eval o X.env
 jo:((backTo cz (starEach [e,f] X.env)).all (λx=>!x.1)&&(backToKw cz (keywordEach [] X.env)).all (λx=>x.1.isSome)
  &&decide (([e,f]:Z cu).length+([]:Z Keyword).length+(if([]:Z Keyword).isEmpty then 0 else 1)<30))=ar
 line:(apos.endLine==cz.line)=ar
 trees:backTo cz (starEach [e,f] X.env)=[(a_,eval e X.env),(a_,eval f X.env)]
def wI(H:Hp)(a:U):Prop:=(∃b,Rd H a (.dK b))\/∃b,Rd H a (.dT b)
def vT(I:Inv X pins σ H s)(d:wI H a):
  s.TypeIs (.ref a) "dict"/\(∀b,Value.ref a=.ref b->∃c,s.heap.get? b=O c/\c.dict=aF)/\(a==sysModules)=a_:=by
 rcases d with⟨g,e⟩|⟨g,e⟩
 ·obtain⟨_,hd,k,_,f⟩:=qh I.ay e;refine⟨f.typeIs,λb q=>?_,hd⟩;cases q;obtain⟨c,_,_,i,h,_⟩:=f;exact⟨c,i,h.2.1⟩
 ·obtain⟨_,hd,j,_,f⟩:=rF I.ay e;refine⟨f.typeIs,λb q=>?_,hd⟩;cases q;obtain⟨c,_,_,i,h,_⟩:=f;exact⟨c,i,h.2.1⟩
def Zh6(q:A.units+1<cLine)(I:Inv X pins σ H s)(g:eU H a y o)(n:RelV y u)(h:∀j m,Inv X pins σ H m->RelV (o.getD .aC) j->Q j m):
  wpAny X.md A (call (.builtin "dict.get") [.ref a,u]) Q E s:=by
 rcases g with⟨f,k,e,i,l⟩|⟨f,k,b,e,i,r,l⟩
 ·subst i;obtain⟨z,hd,t,c,d⟩:=qh I.ay e;refine mh oD d.typeIs sI (zJ _ _) (meets_dict_get (dO X.prog X.w) a (nv n) hd) ⟨_,d.mapOf,h _ _ (I.tok _) ?_⟩;exact l▸(c.val k).getD rfl
 ·subst i;cases(n);obtain⟨z,hd,p,c,d⟩:=rF I.ay e;refine mh oD d.typeIs sI (zJ _ _) (meetsH_dict_get (tupleKind (dO X.prog X.w)) a b hd) ⟨me q,k,p,qa I.ay r,d,h _ _ (I.tok _) ?_⟩;exact l▸(c.val k).getD rfl
def Zh7(v:A.units+1<cLine)(I:Inv X pins σ H s)(g:eU H a y o)(p:RelV y u)(q:RelV d r)(h:∀m n,Inv X pins σ H n->RelV (o.getD d) m->Q m n):
  wpAny X.md A (call (.builtin "dict.get") [.ref a,u,r]) Q E s:=by
 rcases g with⟨i,k,e,j,l⟩|⟨i,k,b,e,j,w,l⟩
 ·subst j;obtain⟨z,hd,x,c,f⟩:=qh I.ay e;refine mh oD f.typeIs sI (zI _ _ _) (meets_dict_get_default (dO X.prog X.w) a (nv p) hd r) ⟨_,f.mapOf,h _ _ (I.tok _) ?_⟩;exact l▸(c.val k).getD q
 ·subst j;cases(p);obtain⟨z,hd,t,c,f⟩:=rF I.ay e;refine mh oD f.typeIs sI (zI _ _ _) (meetsH_dict_get_default (tupleKind (dO X.prog X.w)) a b hd r) ⟨me v,k,t,qa I.ay w,f,h _ _ (I.tok _) ?_⟩;exact l▸(c.val k).getD q
def Zh8(f e:TE):TE:=λb H Q=>f b H λx d=>∃a,x=.ref a/\wI d a/\e b d λy c=>∃o,eU c a y o/\Q (o.getD .aC) c
def Zh9(g e f:TE):TE:=λb H Q=>g b H λx d=>∃a,x=.ref a/\wI d a/\e b d λy h=>f b h λz c=>∃o,eU c a y o/\Q (o.getD z) c
def P5(v:X.A.units+1<cLine)(w:PE X o j)(z:PE X e ty)(m:M1 X o "get" apos e C):PE X (.Call (.Attribute o "get" apos) [e] [] C) (Zh8 j ty):=by
 intro b s c H Q I h;refine pJ m.base m.jo m.line oz oD type_dict_get (az (w b s c H _ I h) λu n i=>?_);obtain⟨x,G,f,q,a,B,d,t⟩:=i;subst B;obtain rfl:u=Value.ref a:=q;obtain⟨l,k,_⟩:=vT f d;refine⟨l,k,?_⟩;exact m.trees▸k_ rfl (m6 (lq (az (z b n c G _ f t) λR N T=>by obtain⟨y,F,E,p,P,g,r⟩:=T;exact n7 (Zh6 v E g p λJ L D A=>⟨_,F,D,A,r⟩))))
def P6(D:X.A.units+1<cLine)(E:PE X o l)(G:PE X e ty)(F:PE X f k)(m:M2 X o "get" apos e f N):PE X (.Call (.Attribute o "get" apos) [e,f] [] N) (Zh9 l ty k):=by
 intro b s c H Q I h;refine pJ m.base m.jo m.line oz oD type_dict_get (az (E b s c H _ I h) λu r j=>?_);obtain⟨x,H1,i,w,a,L,d,C⟩:=j;subst L;obtain rfl:u=Value.ref a:=w;obtain⟨p,n,_⟩:=vT i d;refine⟨p,n,?_⟩;rw[m.trees];refine k_ rfl (m6 (lq (az (G b r c H1 _ i C) λiv q ⟨y,H2,T,v,B⟩=>
  lq (az (F b q c H2 _ T B) λfv s3 ⟨z,W,R,t,ov,g,A⟩=>n7 ?_))))
 exact Zh7 D R g v t λw' s4 P J=>⟨_,W,P,J,A⟩
def vY(P:c9)(w:cX)(K:ah)(c:aR)(a:cS)(k:Nat)(x:af)(C:U)(b:Z af)(e:Sp):Prop:=
 ∃f d,Mk K C f/\aE P w K c a aL k f d b e/\Binds K d b []/\c x=O (.ref C)
def cO(P:c9)(w:cX)(K:ah)(e:aR)(a:cS)(k:Nat)(m:af)(C:U)(b:Z af)(d:Sp):Prop:=
 ∃f c,gq K C/\Meth K C m f/\aE P w K e a aL k f c b d/\Binds K c b []
def Ta(P:c9)(w:cX)(K:ah)(e:aR)(a:cS)(k:Nat)(m:af)(C:U)(b:Z af)(d:Sp):Prop:=
 ∃f c,gq K C/\Meth K C m f/\aE P w K e a (oS P w) k f c b d/\Binds K c b []
section
variable {X:Cx}{k j:Nat}{x m:af}{C:U}{ps:Z af}{Q:Sp}{p W T:Pos}{o e:cu}{R:Z cu}{t:TA}{P:TE}
def KH(h:vY X.prog X.w X.K X.mg X.base k x C ps Q)(c:cK j X.A)(g:k+1<=j)(i:Gl X x)(n:PA X (e::R) t)(q:(x==("__debug__":af))=a_:=by decide)
  (l:iQ X e R:=by rfl)(r:jj X W R:=by rfl):PE X (.Call (.Name x p) (e::R) [] W) (Ue C Q [] E0 t):=by
 obtain⟨f,s,a,F,b,d⟩:=h;exact Zf1 a F (c.mono g) i d b .nil yJ n q l r
def dh(h:cO X.prog X.w X.K X.mg X.base k m C ps Q)(g:cK j X.A)(n:k<=j)(i:PE X o P)(q:PA X (e::R) t)
  (r:iQ X e R:=by rfl)(s:jj X W R:=by rfl)
  (d:eval (.Call (.Attribute o m T) (e::R) [] W) X.env=(do
   let a←eval o X.env
   standAt T.atName
   let(f,first)←holding [a] (getMethod a m u)
   callWith W f first (backTo W (starEach (e::R) X.env)) (backToKw W (keywordEach [] X.env))):=by rfl):
  PE X (.Call (.Attribute o m T) (e::R) [] W) (BQ C m Q [] E0 P t):=by
 obtain⟨f,v,c,l,F,b⟩:=h;exact Zf0 i c l F (g.mono n) b .nil yJ q r s d
end
def vN{K:ah}(h:X.K=K)(b:PE X e a)(c:attributeBase e f X.env (eval e X.env)=eval e X.env):PE X (.Attribute e f pos) (K6 K a f):=h▸Zhu b c
section
open PySem.AutoSeq1 (wpAny_loadPart')
def ZdR(a b x:Int):(Builtin.Range.rangePlace? a b 1 x).isSome=decide (a<=x/\x<b):=by
 unfold Builtin.Range.rangePlace?
 grind
def Zab(p:U)(f i x:Int)(a b c t:Tok):
  Meets (Builtin.«range.__contains__» ⟨[.ref p,.int x t],[]⟩)
   (λ_ R s=>s.heap.get? p=O {cls:=.type "range",data:=.fields #[.int f a,.int i b,.int 1 c]}/\R (.ok (.ret (.bool (decide (f<=x/\x<i))))) s):=
 .of_wp λe w A R s h=>by
  obtain⟨l,g,d,k,os⟩:=s;obtain⟨j,h⟩:=h;rw[←ZdR] at h
  wp_walk using SF j
  simp_all
end
def Zh_(a:cm):R2:=λx y H Q=>∃(i lo b:Int) (p:U),x=.int i/\y=.ref p/\H p=O (.kh lo b)/\Q (.bl (if a=ar then !decide (lo<=i/\i<b) else decide (lo<=i/\i<b))) H
def Zbe:cJ X (compareOp .NotIn) (Zh_ ar):=by
 rintro d s k H x y v u Q I f e ⟨i,lo,j,p,rfl,rfl,h,q⟩;obtain⟨t,rfl⟩:=f;cases e;obtain⟨a,b,c,g⟩:=(I.ay p _ h);exact SeqRoads2.notIn_meets ⟨_,g,rfl⟩ F.slot_range_contains F.entry_range_contains (F.args_range_contains_2 _ _) (Zab p lo j i a b c t) ⟨g,_,rfl,.bl _,H,I,rfl,q⟩
def vd(p:Nat->cm)(n:Nat):(List.range (n+1)).filter p=(List.range n).filter p++(if p n=ar then[n] else[]):=by
 rw[Vq,Wo]
 grind
theorem jB{b a:Type}{F:b->a->Prop}:∀{d:Z b} {c:Z a} {x:b} {y:a},Paired F d c->F x y->Paired F (d++[x]) (c++[y]):=by
 intro d c x y h f;induction h with
 |nil=>exact .cons f .nil
 |cons r t e=>exact .cons r e
theorem F5:∀{b:Z α} {a:Z β},Paired F b a->b.length=a.length:=by
 intro b a h;induction h with
 |nil=>rfl
 |cons _ _ c=>rw[Wh,Wh,c]
theorem Fo:∀{b:Z V} {a:Z β},Paired (λx y=>x=f y) b a->b=a.map f:=by
 intro b a h;induction h with
 |nil=>rfl
 |cons r t c=>rw[Wu,←r,←c]
def GN(n:Nat):(List.range n).filter (λ_=>ar)=List.range n:=QS
theorem ZaT(a:Z α)(f:Nat->β)(g:α->β)(h:∀(i:Nat) (v:α),a[i]?=O v->f i=g v):(List.range a.length).map f=a.map g:=by
 refine Ww λi=>?_;rw[Yi,Yi];cases e:a[i]? with
 |none=>rw[Y4 (by exact C9▸List.getElem?_eq_none_iff.mp e)];rfl
 |some v=>rw[Mm (Yn.mp e).1];exact d6 O (h i v e)
def aA(D:U)(H a:Hp):Prop:=∀b o,H b=O o->b≠D->a b=O o
def aA.of(g:ag H H'):aA D H H':=λb o e _=>g b o e
def aA.put(g:aA D H a):aA D H (upd a D o):=λb u e n=>by rw[aN n];exact g b u e n
def vZ(j:TT)(k:TE)(e:St)(D:U)(H:Hp)(v:V)(b:cm)(l:V->Hp->Prop):Prop:=
 ∀d,ag H d->(∃i,d D=O (.lst i))->∀(f:VK) (g:Hp->Prop),(∀y a,b=ar->ag d a->l y a->f y a)->(∀a,b=a_->ag d a->g a)->j (O v::e) d λc h=>if c=ar then k (O v::e) h f else g h
def xY{K:ah}(C:aq K H a xs)(L:xs.length<=1000)(u:H D=aF)(p:Nat->cm)(l:Nat->V->Hp->Prop)(c:∀i y d x,aA D d x->l i y d->l i y x)
  (k:∀(i:Nat) (v:V),xs[i]?=O v->vZ tt A E D H v (p i) (l i))(G:∀f m,ag H m->m D=O (.lst f)->Paired (λy i=>l i y m) f ((List.range xs.length).filter p)->Q (.ref D) m):jH (kj K a) tt A E D H Q:=by
 refine HG (λi f d=>i<=xs.length/\ag H d/\d D=O (.lst f)/\Paired (λy j=>l j y d) f ((List.range i).filter p)) ⟨Yx _,cF u _,aT,.nil⟩ (λi f d _ R=>by obtain⟨_,g,_,_⟩:=R;exact g.seq C) ?_ ?_
 ·rintro i v f d t ⟨_,g,s,n⟩;have w:=(Yn.mp t).1;have J:=F5 n;have F:=Wj p (List.range i);rw[C9] at F;refine k i v t d g ⟨_,s⟩ _ _ (λy I r h B=>⟨h _ _ s,by rw[dg];omega,w,?_,aT,?_⟩) (λI r h=>⟨w,g.trans h,h _ _ s,?_⟩)
  ·intro b o e;rw[aN (bP e u)];exact h _ _ (g _ _ e)
  ·rw[vd,bS r];exact jB (Paired.bu n λz j q=>c _ _ _ _ (aA.put (aA.of h)) q) (c _ _ _ _ (aA.put (aA.of (ag.refl _))) B)
  ·rw[vd,bt (by rw[r];exact Yq),Y8];exact Paired.bu n λz j q=>c _ _ _ _ (aA.of h) q
 ·grind
def ZcL{K:ah}(k:aq K H a xs)(l:xs.length<=1000)(m:H D=aF)(p:Nat->cm)(f:Nat->V)
  (b:∀(i:Nat) (v:V),xs[i]?=O v->vZ tt h n D H v (p i) (λy _=>y=f i))(d:∀c,ag H c->c D=O (.lst (((List.range xs.length).filter p).map f))->Q (.ref D) c):jH (kj K a) tt h n D H Q:=
 xY k l m p (λi y _=>y=f i) (λ_ _ _ _ _ e=>e) b λo c g q j=>d c g (by rwa[←Fo j])
def ZcM{K:ah}(m:aq K H a xs)(n:xs.length<=1000)(o:H D=aF)(f:V->V)
  (h:∀(i:Nat) (v:V),xs[i]?=O v->∀c,ag H c->∀e:VK,(∀k,ag c k->e (f v) k)->l (O v::q) c e)(d:∀b,ag H b->b D=O (.lst (xs.map f))->Q (.ref D) b):jH (kj K a) B9 l q D H Q:=by
 refine ZcL m n o (λ_=>ar) (λi=>f (xs.getD i .aC)) (λi v j c g _ e s r _=>mE (dk ?_)) λb g p=>d b g ?_;·grind
 ·rw[p,GN,ZaT xs (λi=>f (xs.getD i .aC)) f λi v j=>by rw[Yr,j];rfl]
def ZdS{K:ah}(C:aB K H a xs)(L:xs.length<=1000)(u:H D=aF)(p:Nat->cm)(l:Nat->V->Hp->Prop)(c:∀i y d x,aA D d x->l i y d->l i y x)
  (k:∀(i:Nat) (v:V),xs[i]?=O v->vZ tt A E D H v (p i) (l i))(G:∀f m,ag H m->m D=O (.lst f)->Paired (λy i=>l i y m) f ((List.range xs.length).filter p)->Q (.ref D) m):jH (qy K a) tt A E D H Q:=by
 refine AZ (λi f d=>i<=xs.length/\ag H d/\d D=O (.lst f)/\Paired (λy j=>l j y d) f ((List.range i).filter p)) ⟨Yx _,cF u _,aT,.nil⟩ (λi f d _ R=>by obtain⟨_,g,_,_⟩:=R;exact g.jQ C) ?_ ?_
 ·rintro i v f d t ⟨_,g,s,n⟩;have w:=(Yn.mp t).1;have J:=F5 n;have F:=Wj p (List.range i);rw[C9] at F;refine k i v t d g ⟨_,s⟩ _ _ (λy I r h B=>⟨h _ _ s,by rw[dg];omega,w,?_,aT,?_⟩) (λI r h=>⟨w,g.trans h,h _ _ s,?_⟩)
  ·intro b o e;rw[aN (bP e u)];exact h _ _ (g _ _ e)
  ·rw[vd,bS r];exact jB (Paired.bu n λz j q=>c _ _ _ _ (aA.put (aA.of h)) q) (c _ _ _ _ (aA.put (aA.of (ag.refl _))) B)
  ·rw[vd,bt (by rw[r];exact Yq),Y8];exact Paired.bu n λz j q=>c _ _ _ _ (aA.of h) q
 ·grind
def ZdT{K:ah}(k:aB K H a xs)(l:xs.length<=1000)(m:H D=aF)(p:Nat->cm)(f:Nat->V)
  (b:∀(i:Nat) (v:V),xs[i]?=O v->vZ tt h n D H v (p i) (λy _=>y=f i))(d:∀c,ag H c->c D=O (.lst (((List.range xs.length).filter p).map f))->Q (.ref D) c):jH (qy K a) tt h n D H Q:=
 ZdS k l m p (λi y _=>y=f i) (λ_ _ _ _ _ e=>e) b λo c g q j=>d c g (by rwa[←Fo j])
def Zb0{v:Int}{n:Nat}{t:TT}{u:TE}{A:St}{D:U}{H:Hp}{Q:VK}(L:n<=1000)(x:H D=aF)(p:Nat->cm)(k:Nat->V->Hp->Prop)(a:∀i y c C,aA D c C->k i y c->k i y C)
  (h:∀i,i<n->vZ t u A D H (.int (v+i)) (p i) (k i))(G:∀f l,ag H l->l D=O (.lst f)->Paired (λy i=>k i y l) f ((List.range n).filter p)->Q (.ref D) l):jH (qz v n) t u A D H Q:=by
 refine xX (λi f c=>i<=n/\ag H c/\c D=O (.lst f)/\Paired (λy j=>k j y c) f ((List.range i).filter p)) ⟨Yx _,cF x _,aT,.nil⟩ ?_ ?_
 ·rintro i f c w ⟨_,g,s,m⟩;have B:=w;have J:=F5 m;have F:=Wj p (List.range i);rw[C9] at F;refine h i w c g ⟨_,s⟩ _ _ (λy I r d E=>⟨d _ _ s,by rw[dg];omega,B,?_,aT,?_⟩) (λI r d=>⟨B,g.trans d,d _ _ s,?_⟩)
  ·intro b o e;rw[aN (bP e x)];exact d _ _ (g _ _ e)
  ·rw[vd,bS r];exact jB (Paired.bu m λz j q=>a _ _ _ _ (aA.put (aA.of d)) q) (a _ _ _ _ (aA.put (aA.of (ag.refl _))) E)
  ·rw[vd,bt (by rw[r];exact Yq),Y8];exact Paired.bu m λz j q=>a _ _ _ _ (aA.of d) q
 ·simp_all
def Zb1{j:Int}{n:Nat}{d:TT}{h:TE}{k:St}{D:U}{H:Hp}{Q:VK}(m:n<=1000)(o:H D=aF)(p:Nat->cm)(f:Nat->V)
  (a:∀i,i<n->vZ d h k D H (.int (j+i)) (p i) (λy _=>y=f i))(c:∀b,ag H b->b D=O (.lst (((List.range n).filter p).map f))->Q (.ref D) b):jH (qz j n) d h k D H Q:=
 Zb0 m o p (λi y _=>y=f i) (λ_ _ _ _ _ e=>e) a λq b g r l=>c b g (by rwa[←Fo l])
abbrev Nw(H:Hp)(o:HO)(Q:VK):Prop:=∀(p:U) (a:Hp),H p=aF->ag H a->a p=O o->Q (.ref p) a
def Nw.at(h:Nw H o Q):∀p,H p=aF->Q (.ref p) (upd H p o):=λp a=>h p _ a (cF a o) aT
def yL(t:TA):TE:=λb H Q=>t b H λa c=>a.length<=sizeLine/\Nw c (.tup a) Q
def UA(t:TA):TE:=λb H Q=>t b H λa c=>a.length<=sizeLine/\Nw c (.lst a) Q
section
variable {K:ah}
def c5(h:PA X j t):PE X (.Tuple j l pos) (yL t):=by
 intro a s e H Q I i;refine wpAny_Tuple_spliced (az (h pos a s e H _ I i) λg c m=>?_);obtain⟨f,k,d,r,z,q⟩:=m;refine⟨by rwa[←r.length],⟨.ref c.heap.objs.size,upd k c.heap.objs.size (.tup f),d.laid (λ b u=>Yb _) (Yh _) ?_,rfl,q.at _ (d.ay.fresh (Yh _))⟩⟩;exact⟨z,g,r,⟨_,Yv _ rfl,rfl,_,rfl,rfl⟩⟩
def cU(h:PA X j t):PE X (.List j pos) (UA t):=by
 intro a s e H Q I i;refine G2 (az (h pos a s e H _ I i) λg c l=>?_);obtain⟨f,k,d,r,z,q⟩:=l;refine⟨by rwa[←r.length],⟨.ref c.heap.objs.size,upd k c.heap.objs.size (.lst f),d.laid (λ b u=>Yb _) (Yh _) ?_,rfl,q.at _ (d.ay.fresh (Yh _))⟩⟩;exact⟨z,g,0,r,Yv _ rfl⟩
def df.mono(h:df X f r)(m:∀a H Q,r' a H Q->r a H Q):df X f r':=λb s c H a d Q I v q=>h b s c H a d Q I v (m a H Q q)
def cJ.mono(h:cJ X f r)(m:∀x y H Q,r' x y H Q->r x y H Q):cJ X f r':=λa s b H x y v u Q I d c q=>h a s b H x y v u Q I d c (m x y H Q q)
def wC.mono(h:wC X r)(m:∀x lo b H Q,r' x lo b H Q->r x lo b H Q):wC X r':=λa s c H x v e d lo b f Q I g k j i q=>h a s c H x v e d lo b f Q I g k j i (m x lo b H Q q)
inductive OB(a:Z V)(H:Hp)(Q:VK):Prop
 |mk (j:Int) (c:a=[.int j]) (b:Nw H (.kh 0 j) Q):OB a H Q
def ZeV:Z V->Hp->VK->Prop:=λa H Q=>OB a H Q
def FK:df X (.type "range") ZeV:=As.mono λ_ _ _ a=>by obtain⟨j,e,q⟩:=a;exact⟨j,e,q.at⟩
inductive Ob(a:Z V)(H:Hp)(Q:VK):Prop
 |mk (p:U) (n:Nat) (e:a=[.ref p]) (d:H p=O (.kh 0 (n:Int))) (b:n<=1000) (c:Nw H (.lst ((bJ n).map V.int)) Q):Ob a H Q
def ZdU:Z V->Hp->VK->Prop:=λa H Q=>Ob a H Q
def ZaD(b:X.calm=ar):df X (.type "list") ZdU:=(Fn b).mono λ_ _ _ a=>by obtain⟨p,n,e,h,l,q⟩:=a;exact⟨p,n,e,h,l,q.at⟩
inductive OC(a:Z V)(H:Hp)(Q:VK):Prop
 |mk (p:U) (n:Nat) (e:a=[.ref p]) (d:H p=O (.kh 0 (n:Int))) (b:n<=1000) (c:Nw H (.tup ((bJ n).map V.int)) Q):OC a H Q
def ZeW:Z V->Hp->VK->Prop:=λa H Q=>OC a H Q
def Zan(b:X.calm=ar):df X (.type "tuple") ZeW:=(NX b).mono λ_ _ _ a=>by obtain⟨p,n,e,h,l,q⟩:=a;exact⟨p,n,e,h,l,q.at⟩
def ZeX(K:ah):Z V->Hp->VK->Prop:=λc H Q=>∃(p:U) (a:Z Int),c=[.ref p]/\(aq K H p (a.map V.int)\/aB K H p (a.map V.int))/\a.length<64/\
  ∀b:Z Int,b.Perm a->b.Pairwise (·<=·)->Nw H (.lst (b.map V.int)) Q
def ZeY(h:X.K=K):df X (.builtin "sorted") (ZeX K):=h▸N_.mono λ_ _ _ b=>by obtain⟨p,f,e,s,l,q⟩:=b;exact⟨p,f,e,s,l,λa i g d c=>(q i d c).at a g⟩
inductive Ru(K:ah)(x:V)(c:bw Int)(d:bw Int)(H:Hp)(Q:VK):Prop
 |mk (a b) (g:x=.ref a) (f:aq K H a b) (e:Nw H (.lst (qo b c d)) Q):Ru K x c d H Q
def Zjl(K:ah):V->bw Int->bw Int->Hp->VK->Prop:=λx lo a H Q=>Ru K x lo a H Q
def P7(h:X.K=K):wC X (Zjl K):=h▸Zf6.mono λ_ _ _ _ _ b=>by obtain⟨a,c,e,s,q⟩:=b;exact⟨a,c,e,s,q.at⟩
def Zjm:R2:=λx y H Q=>∃l b c a,x=.ref l/\y=.ref b/\H l=O (.lst c)/\H b=O (.lst a)/\c.length+a.length<=sizeLine/\Nw H (.lst (c++a)) Q
def Bi:cJ X (binaryOp .Add) Zjm:=ZhC.mono λ_ _ _ _ c=>by obtain⟨l,b,d,a,h,g,f,e,z,q⟩:=c;exact⟨l,b,d,a,h,g,f,e,z,q.at⟩
def Zgn:TE:=λ_ H Q=>Nw H (.dK []) Q
def pO:PE X (.Dict [] [] pos) Zgn:=λa s b H Q I q=>ZeT a s b H Q I q.at
def Zgo:TE:=λ_ H Q=>Nw H (.dT []) Q
def HI:PE X (.Dict [] [] pos) Zgo:=λa s b H Q I q=>ZeU a s b H Q I q.at
end
abbrev Ch(H:Hp)(a:U)(o:HO)(R:Hp->Prop):Prop:=∀b,aA a H b->b a=O o->R b
def Ch.at(h:Ch H a o R):R (upd H a o):=h _ (aA.put (aA.of (ag.refl _))) aT
section
variable {X:Cx}
def nO.mono{id:String}(h:nO X id r)(m:∀x a H Q,r' x a H Q->r x a H Q):nO X id r':=λb s c H x a v d Q I e f q=>h b s c H x a v d Q I e f (m x a H Q q)
inductive OD(x:V)(b:Z V)(H:Hp)(Q:VK):Prop
 |mk (l a y) (g:x=.ref l) (f:b=[y]) (d:H l=O (.lst a)) (e:a.length<sizeLine) (c:Ch H l (.lst (a++[y])) (Q .aC)):OD x b H Q
def P8:V->Z V->Hp->VK->Prop:=λx a H Q=>OD x a H Q
def kF:nO X "list.append" P8:=x9.mono λ_ _ _ _ a=>by obtain⟨l,b,y,d,c,h,z,q⟩:=a;exact⟨l,b,y,d,c,h,z,q.at⟩
def ZeZ:V->Z V->Hp->VK->Prop:=λx d H Q=>∃l b c a,x=.ref l/\d=[.ref b]/\H l=O (.lst c)/\H b=O (.lst a)/\c.length+a.length<=sizeLine/\Ch H l (.lst (c++a)) (Q .aC)
def ZcN:nO X "list.extend" ZeZ:=ZdD.mono λ_ _ _ _ c=>by obtain⟨l,b,d,a,h,g,f,e,z,q⟩:=c;exact⟨l,b,d,a,h,g,f,e,z,q.at⟩
def Zgp:V->Z V->Hp->VK->Prop:=λx b H Q=>∃l a,x=.ref l/\b=[]/\H l=O (.lst a)/\Ch H l (.lst []) (Q .aC)
def ZdV:nO X "list.clear" Zgp:=Zez.mono λ_ _ _ _ a=>by obtain⟨l,b,d,c,h,q⟩:=a;exact⟨l,b,d,c,h,q.at⟩
def t8.mono(h:t8 X t)(m:∀o i v H Q,t' o i v H Q->t o i v H Q):t8 X t':=by
 intro a s b H o i x f g v Q I e d c q;exact h a s b H o i x f g v Q I e d c (m _ _ _ _ _ q)
def Zia:V->V->V->Hp->(Hp->Prop)->Prop:=λo i v H Q=>∃p a k j,o=.ref p/\i=.int k/\H p=O (.lst a)/\mJ a.length k=O j/\Ch H p (.lst (a.set j v)) Q
def O_:t8 X Zia:=set_list.mono λ_ _ _ _ _ a=>by obtain⟨p,b,k,j,d,c,h,z,q⟩:=a;exact⟨p,b,k,j,d,c,h,z,q.at⟩
variable {o i W:cu}{N ty P L:TE}{R T:Pos}{f:af}
inductive P9(D:Ends)(d:St)(v:V)(x:V)(y:V)(c:Hp):Prop
 |mk (a b k) (l:x=.ref a) (j:c a=O (.dK b)) (g:y=kV k) (h:b.length<sizeLine) (e:Ch c a (.dK (putK b k v)) (D.nx d)):P9 D d v x y c
def Zib(N ty P:TE):TS:=λD a H=>P a H λv d=>N a d λx c=>ty a c λy b=>P9 D a v x y b
inductive Pa(D:Ends)(e:St)(v:V)(x:V)(y:V)(d:Hp):Prop
 |mk (a b c k) (n:x=.ref a) (m:d a=O (.dT c)) (j:y=.ref b) (l:d b=O (.tup (k.map kV))) (h:c.length<sizeLine) (g:Ch d a (.dT (putK c k v)) (D.nx e)):Pa D e v x y d
def Zgq(N ty P:TE):TS:=λD a H=>P a H λv d=>N a d λx c=>ty a c λy b=>Pa D a v x y b
def lX(A:X.A.units+1<cLine)(C:PE X o N)(E:PE X i ty)(z:PE X W P)(B:swapsWith W (O (.Subscript o i T)) R.line X.env=pure a_:=by rfl):
  PS X (.Assign [.Subscript o i T] W R) (Zib N ty P):=by
 intro b s d H D I h;refine Ag (az (z b s d H _ I h) λr g c=>?_) B;obtain⟨v,H1,I1,n,t⟩:=c;refine az (C b g d H1 _ I1 t) λu e c=>?_;obtain⟨x,H2,I2,m,q⟩:=c;refine az (E b e d H2 _ I2 q) λiv s3 c=>?_;obtain⟨y,H3,I3,j,a,w,k,J,F,G,l,p⟩:=c;subst J;subst G;obtain rfl:u=Value.ref a:=m;exact O8 A I3 (uc.k F l) j n λs4 Q=>⟨d,_,Q,p.at⟩
def Pb(B:X.A.units+1<cLine)(E:PE X o N)(F:PE X i ty)(A:PE X W P)(C:swapsWith W (O (.Subscript o i T)) R.line X.env=pure a_:=by rfl):
  PS X (.Assign [.Subscript o i T] W R) (Zgq N ty P):=by
 intro c s e H D I h;refine Ag (az (A c s e H _ I h) λr j d=>?_) C;obtain⟨v,H1,I1,p,w⟩:=d;refine az (E c j e H1 _ I1 w) λu g d=>?_;obtain⟨x,H2,I2,n,t⟩:=d;refine az (F c g e H2 _ I2 t) λiv s3 d=>?_;obtain⟨y,H3,I3,m,a,b,z,k,ex,J,Q,G,l,q⟩:=d;subst ex;subst Q;obtain rfl:u=Value.ref a:=n;exact O8 B I3 (uc.t J G l) m p λs4 I4=>⟨e,_,I4,q.at⟩
def Zjn(K:ah)(L P:TE)(f:af):TS:=λD b H=>P b H λy e=>L b e λx d=>∃a C c fs,x=.ref a/\d a=O (.ins C c fs)/\gq K C/\dw K C f/\fs.length<1000/\Ch d a (.ins C c (cR f y fs)) (D.nx b)
def ik{K:ah}(w:X.K=K)(v:PE X o L)(r:PE X W P)(t:swapsWith W (O (.Attribute o f T)) R.line X.env=pure a_:=by rfl):PS X (.Assign [.Attribute o f T] W R) (Zjn K L P f):=by
 subst w;intro b s d H D I h;refine uu (az (r b s d H _ I h) λu g e=>?_) t;obtain⟨y,G,F,j,q⟩:=e;refine az (v b g d G _ F q) λp Q e=>?_;obtain⟨x,H2,E,k,a,C,dx,fs,z,A,c,n,l,m⟩:=e;subst z;obtain rfl:p=Value.ref a:=k;exact Oo E A c n l j λJ B=>⟨d,_,B,m.at⟩
end
def rY(x:af):It:=⟨λi _=>i<x.length,λi H v a=>a=H/\∃c,x.cps[i]?=O c/\v=.str ⟨#[c]⟩,λi _=>x.length<=i⟩
theorem ZaE{P:c9}{w:cX}{K:ah}{B:cu}(it:U)(x:af)(t:Tok):Turn P w K B (rY x) [it] it (λi h=>h.IsStrIter it "str_ascii_iterator" x t i) where
 mem:=QS
 obj:=λi h st b f=>by
  have e:b=it:=by simpa using f
  obtain⟨o,e,c,d⟩:=st
  simp_all
 keep:=λi h y st k=>let⟨o,e,r⟩:=st;⟨o,k it QS o e,r⟩
 item:=by
  intro X F D G v i a s A H E I g st j;obtain⟨q,p,J,n,m,l⟩:=g it QS;have u:=W4 j;refine wpAny_pyNext_ascii_item st u λy z C=>?_;obtain⟨o,e,c,d⟩:=id z;exact⟨_,rfl,tQ e c d QD ⟨.str ⟨#[x.cps[i]]⟩,H,(I.turned (λb o f e=>(C.2 b f).trans e) q p n m l),⟨_,rfl⟩,⟨rfl,_,u,rfl⟩,z,λb f=>(g b f).1⟩⟩
 done:=by
  intro X F D G v i a s A H E I g st j;obtain⟨q,p,J,n,m,l⟩:=g it QS;exact wpAny_pyNext_ascii_end (I.ok.hd v) st (Xf j) λy L=>⟨rfl,I.turned (L) q p n m l⟩
 self:=λ_ _ _ _ _ st h=>wpAny_pyIter_striter_ascii st h
theorem ZaU{P:c9}{w:cX}{K:ah}{B:cu}(it:U)(x:af)(t:Tok):Turn P w K B (rY x) [it] it (λi h=>h.IsStrIter it "str_iterator" x t i) where
 mem:=QS
 obj:=λi h st b f=>by
  have e:b=it:=by simpa using f
  obtain⟨o,e,c,d⟩:=st
  simp_all
 keep:=λi h y st k=>let⟨o,e,r⟩:=st;⟨o,k it QS o e,r⟩
 item:=by
  intro X F D G v i a s A H E I g st j;obtain⟨q,p,J,n,m,l⟩:=g it QS;have u:=W4 j;refine wpAny_pyNext_wide_item st u λy z C=>?_;obtain⟨o,e,c,d⟩:=id z;exact⟨_,rfl,tQ e c d QD ⟨.str ⟨#[x.cps[i]]⟩,H,(I.turned (λb o f e=>(C.2 b f).trans e) q p n m l),⟨_,rfl⟩,⟨rfl,_,u,rfl⟩,z,λb f=>(g b f).1⟩⟩
 done:=by
  intro X F D G v i a s A H E I g st j;obtain⟨q,p,J,n,m,l⟩:=g it QS;exact wpAny_pyNext_wide_end (I.ok.hd v) st (Xf j) λy L=>⟨rfl,I.turned (L) q p n m l⟩
 self:=λ_ _ _ _ _ st h=>wpAny_pyIter_striter_wide st h
inductive Tb(R:It->Hp->Prop)(v:V)(a:Hp):Prop
 |mk (x) (c:v=.str x) (b:R (rY x) a):Tb R v a
def Zj_(b:TE):TI:=λa H R=>b a H λv c=>Tb R v c
theorem BE(p:PE X l k):PI X u l (Zj_ k):=by
 intro a s i H R I h;refine az (p a s i H _ I h) λv c j=>?_;obtain⟨x,f,d,m,n⟩:=j;obtain⟨z,e,q⟩:=n;subst e;obtain⟨t,rfl⟩:=m;have fin:∀b∈[c.heap.objs.size],je X a f b:=λb r=>by
  have e:b=c.heap.objs.size:=by simpa using r
  subst e;exact d.rJ (Yh _) (d.ay.fresh (Yh _))
 cases g:z.cps.all (·<128) with
 |true=>exact wpAny_pyIter_ascii g ⟨c.heap.objs.size,[c.heap.objs.size],_,_,f,rfl,d.kept λb o e=>Yb _ e,ZaE _ z t,⟨_,Yv _ rfl,rfl,rfl⟩,fin,q⟩
 |false=>exact wpAny_pyIter_wide g ⟨c.heap.objs.size,[c.heap.objs.size],_,_,f,rfl,d.kept λb o e=>Yb _ e,ZaU _ z t,⟨_,Yv _ rfl,rfl,rfl⟩,fin,q⟩
abbrev sg(c:Nat):V:=.str ⟨#[c]⟩
def IW{x:af}{g:TG}{l:TS}{D:Ends}{a:St}{H:Hp}(b:Nat->St->Hp->Prop)(s:b 0 a H)
  (t:∀(i c:Nat) (a:St) (H:Hp),x.cps[i]?=O c->b i a H->g (sg c) a H λf k=>l {D with nx:=b (i+1),ct:=b (i+1),bk:=D.nx} f k)(r:∀a H,b x.length a H->D.nx a H):
  ∃W:Nat->Nat->St->Hp->Prop,(∃m,W 0 m a H)/\∀i m a H,W i m a H->
   ((rY x).stop i H/\D.nx a H)\/((rY x).go i H/\∃N:St->Hp->Prop,(∀j d,N j d->∃n,n<m/\W (i+1) n j d)/\∀v d,(rY x).oR i H v d->g v a d λf k=>l {D with nx:=N,ct:=N,bk:=D.nx} f k):=by
 refine⟨λi m a H=>m=x.length-i/\i<=x.length/\b i a H,⟨x.length,QS,Yx _,s⟩,?_⟩;rintro i m a H ⟨rfl,q,p⟩;by_cases h:i<x.length
 ·refine .inr ⟨h,b (i+1),λj d o=>⟨x.length-(i+1),QO,rfl,h,o⟩,λv d y=>?_⟩;obtain⟨e,c,u,rfl⟩:=y
  simp_all
 ·have e:i=x.length:=(ic q (fU h))
  subst e;exact .inl ⟨Yh _,r a H p⟩
def Ze0(d:Nat->Z V->Hp->Prop)(q:d 0 [] (upd H D (.lst [])))
  (s:∀(i c:Nat) (a:Z V) (H:Hp),x.cps[i]?=O c->d i a H->tt (O (sg c)::g) H λb j=>if b=ar then k (O (sg c)::g) j λy h=>h D=O (.lst a)/\a.length<sizeLine/\d (i+1) (a++[y]) (upd h D (.lst (a++[y]))) else d (i+1) a j)
  (o:∀a H,d x.length a H->Q (.ref D) H):jH (rY x) tt k g D H Q:=by
 refine⟨λi m a H=>m=x.length-i/\i<=x.length/\d i a H,⟨x.length,QS,Yx _,q⟩,?_⟩;rintro i m a H ⟨rfl,n,p⟩;by_cases f:i<x.length
 ·refine .inr ⟨f,d (i+1),λu r l=>⟨x.length-(i+1),QO,rfl,f,l⟩,λv r y=>?_⟩;obtain⟨e,c,t,rfl⟩:=y
  simp_all
 ·have e:i=x.length:=(ic n (fU f))
  subst e;exact .inl ⟨Yh _,o a H p⟩
def ZdW(y:x.length<=100000)(p:H D=aF)(f:Nat->V)
  (d:∀(i c:Nat),x.cps[i]?=O c->∀a,ag H a->∀s:VK,(∀m,ag a m->s (f c) m)->t (O (sg c)::v) a s)(l:∀n,ag H n->n D=O (.lst (x.cps.toList.map f))->Q (.ref D) n):jH (rY x) B9 t v D H Q:=by
 refine Ze0 (λi h a=>i<=x.length/\ag H a/\a D=O (.lst h)/\h=(x.cps.toList.take i).map f) ⟨Yx _,cF p _,aT,rfl⟩ ?_ ?_
 ·rintro i c h a j ⟨_,g,k,e⟩;have w:i<x.length:=(WV.mp j).1;refine mE (dk (d i c j a g _ λm r=>⟨r _ _ k,?_,w,?_,aT,?_⟩))
  ·rw[e,Ya,We,dg];omega
  ·intro b o q;rw[aN (bP q p)];exact r _ _ (g _ _ q)
  ·have u:x.cps.toList[i]?=O c:=by rw[Jj];exact j
   rw[e,Yz,u,Yp];rfl
 ·rintro h a ⟨_,g,k,e⟩;refine l a g ?_;rw[k,e,Wp (by show x.cps.toList.length<=x.cps.size;simp)]
def Zgr:V->Z V->Hp->VK->Prop:=λx a H Q=>∃(z y:af) (i:Nat) (r:Z Nat),x=.str z/\a=[.str y]/\Builtin.Str.occurrences z y 0 z.length 1=i::r/\Q (.int (i:Int)) H
def Pc:nO X "str.index" Zgr:=by
 intro a s e H x f v g Q I b c h;obtain⟨z,y,i,r,rfl,rfl,d,q⟩:=h;obtain⟨t,rfl⟩:=b;obtain⟨u,rfl,j,rfl⟩:=c.one;exact PySem.SC.index d ⟨.int (i:Int),H,I.tok _,⟨_,rfl⟩,q⟩
end L2
namespace L2
open PySem PySem.W PySem.Spec PyProof.Rows
def Zic:Z V->Hp->VK->Prop:=λb H Q=>∃(p:U) (a:Z (Key×V)),b=[.ref p]/\H p=O (.dK a)/\Nw H (.lst (a.map λc=>kV c.1)) Q
theorem HU:∀{c:Z Key} {b:Z a7},b.length=c.length->(∀(j:Nat) (v:a7),b[j]?=O v->∃k,c[j]?=O k/\(dO P w).is k v=ar)->Vals (c.map kV) b
 |[],[],_,_=>.nil
 |k::c,u::b,a,h=>by
  obtain⟨k',e,d⟩:=h 0 u rfl;have g:k=k':=by simpa using e
  subst g;refine .cons ?_ (HU (by simpa using a) λj v f=>by simpa using h (j+1) v (by simpa using f));rcases mV (d) with⟨i,t,rfl,rfl⟩|⟨x,t,rfl,rfl⟩;·exact⟨t,rfl⟩
  ·exact⟨t,rfl⟩
 |[],_::_,a,_=>by simp at a
 |_::_,[],a,_=>by simp at a
def Oc(z:X.calm=ar):df X (.type "list") Zic:=by
 rintro g s C H D E Q I r ⟨p,b,rfl,y,q⟩;obtain⟨u,rfl,m⟩:=vals1 r;obtain rfl:u=Value.ref p:=m;obtain⟨n,i,l,a,A⟩:=oH I.ay y;obtain⟨W,B⟩:=A.dictAt;have G:=a.length;refine kdl_call (kdl_dict i) (I.ok.hd z) B QO λT F f c t R h=>?_;have d:Vals (b.map λa=>kV a.1) f.toList:=by
  have e:(b.map λa=>kV a.1)=(l.map (·.1)).map kV:=by rw[←a.keys,Y6];rfl
  rw[e];refine HU (P:=X.prog) (w:=X.w) (by rw[Wm,Ya];exact h.1) λj v N=>?_;obtain⟨k,x,J,L⟩:=h.2 j v (by rwa[←Jj])
  simp_all
 exact⟨.ref s.heap.objs.size,_,(I.laid (o:=.lst (b.map λa=>kV a.1)) t (Yh _) ⟨by rwa[Ya],f.toList,c,d,by rwa[C0]⟩),rfl,q.at _ (I.ay.fresh (Yh _))⟩
end L2
namespace L2
open PySem PySem.Spec PyProof.Rows
abbrev BV(D:Z (af×af)):Z (af×PyData):=D.map λp=>(p.1,PyData.str p.2)
def rK(K:ah)(a:U)(D:Z (af×af)):Prop:=KTD.tabLook KTD.flatLooks (λb=>K.lookup b) a (BV D)=ar
theorem ya(f:a->b)(k:af):∀D:Z (af×a),KTD.datumAt k (D.map λp=>(p.1,f p.2))=(KTD.datumAt k D).map f
 |[]=>rfl
 |p::D=>by
  rw[Wu];unfold KTD.datumAt;by_cases e:k=p.1;·simp[e]
  ·simp[e];exact ya f k D
def rK.here{K:ah}(t:rK K a D)(b:K.In h):KTD.Here h h a ((BV D).map λp=>(p.1,KTD.Dat.flat p.2)):=
 ⟨KTD.TabOf.text (KTD.tab_of_look (λ_ _=>KTD.flat_of_looks) (b) t),λ_ _ e=>e⟩
def mF(D:Z (af×af))(z:af):cm:=(KTD.datumAt z D).isSome
def keys_has(D:Z (af×af))(z:af):KTD.inKeys z ((BV D).map λp=>(p.1,KTD.Dat.flat p.2))=mF D z:=by
 rw[←KTD.isSome_datumAt,ya KTD.Dat.flat,ya PyData.str];unfold mF
 simp_all
def Zid(K:ah)(b:cm):R2:=λx y H Q=>∃(z:af) (a:U) (D:Z (af×af)),x=.str z/\y=.ref a/\rK K a D/\Q (.bl (if b=ar then !mF D z else mF D z)) H
def Zie{K:ah}(e:X.K=K):cJ X (compareOp .In) (Zid K a_):=by
 subst e;rintro b s f H x y v u Q I d c ⟨z,a,D,rfl,rfl,t,q⟩;obtain⟨g,rfl⟩:=d;obtain rfl:u=Value.ref a:=c;refine KTD.in_text (t.here I.cA) ?_;rw[keys_has];exact⟨.bl (mF D z),H,I.tok _,rfl,q⟩
def Zif(K:ah):R2:=λx y H Q=>∃(a:U) (z r:af) (D:Z (af×af)),x=.ref a/\y=.str z/\rK K a D/\KTD.datumAt z D=O r/\Q (.str r) H
theorem IX{K:ah}(A:X.K=K):jk X (Zif K):=by
 subst A;intro b c f s B H x y v u Q I n m h w;obtain⟨a,z,r,D,rfl,rfl,t,e,q⟩:=h;obtain⟨k,rfl⟩:=m;obtain rfl:v=Value.ref a:=n;have T:=t.here I.cA;refine tail_any T.typeIs slot_dict_getitem.lookup ?_ w;unfold getItem;try with_reducible refine iG ?_
 refine bg (wpAny_sequenceKey T.typeIs QD ?_);refine bg (wpAny_callSpecial?_slot T.typeIs L8
  (n_ L8 T.typeIs entry_dict_getitem ?_ (args_dict_getitem _ _)))
 show wpAny _ _ (dictGet a (.str z k)>>=_) _ _ s;have j:KTD.datumAt z ((BV D).map λp=>(p.1,KTD.Dat.flat p.2))=O (.flat (.str r)):=by rw[ya KTD.Dat.flat,ya PyData.str,e];rfl
 refine bg (KTD.dictGet_text T (λd v i o=>cG ⟨v,rfl,cG ?_⟩) λg=>by rw[j] at g;cases g);rw[j] at i;cases i;cases o s.heap with
 |str x l=>exact⟨.str r,H,I.tok _,⟨l,rfl⟩,q⟩
def yC(h:cO X.prog X.w X.K X.mg X.base k m C p sp)(g:cK j X.A)(n:k<=j)(i:PE X o d)
  (e:eval (.Call (.Attribute o m apos) [] [] pos) X.env=(do
   let a←eval o X.env
   standAt apos.atName
   let(f,first)←holding [a] (getMethod a m q)
   callWith pos f first (backTo pos (starEach [] X.env)) (backToKw pos (keywordEach [] X.env))):=by rfl):
  PE X (.Call (.Attribute o m apos) [] [] pos) (BQ C m sp [] E0 d jL):=by
 obtain⟨f,r,c,l,F,b⟩:=h;exact Zev i c l F (g.mono n) b .nil yJ e
def Cb(K:ah)(b:cm):R2:=λx y H Q=>∃(p q:U) (a:Z V),x=.ref p/\y=.ref q/\aq K H p a/\aq K H q []/\Q (.bl (if b=ar then !a.isEmpty else a.isEmpty)) H
theorem Zig(h:X.A.units<cLine):cJ X (compareOp .Eq) (Cb X.K a_):=by
 rintro d s w H x y v u Q I m l ⟨p,q,i,rfl,rfl,b,t,k⟩;cases m;cases l;obtain⟨D,c,g,B⟩:=I.list b;obtain⟨C,n,f,A⟩:=I.list t;cases n;have o:=c.length;cases i with
 |nil=>
  cases c;exact UZ (e:=λ_=>ar) g.isList f.isList rfl h (λj b _=>absurd b QS) (cM I k QS)
 |cons a r=>exact zD g.isList f.isList (by simp;intro z;subst z;simp at o) h (cM I k QS)
theorem Zih(h:X.A.units<cLine):cJ X (compareOp .NotEq) (Cb X.K ar):=by
 rintro d s w H x y v u Q I m l ⟨p,q,i,rfl,rfl,b,t,k⟩;cases m;cases l;obtain⟨D,c,g,B⟩:=I.list b;obtain⟨C,n,f,A⟩:=I.list t;cases n;have o:=c.length;cases i with
 |nil=>
  cases c;exact SeqAt.RcNeAt.lists (e:=λ_=>ar) g.isList f.isList rfl h (λj b _=>absurd b QS) _ _ _ _ (cM I k QS)
 |cons a r=>exact SeqAt.RcNeAt.lists_lengths g.isList f.isList (by simp;intro z;subst z;simp at o) h _ _ _ _ (cM I k QS)
def ZcO:df X (.builtin "len") (λb H Q=>∃p a,b=[.ref p]/\H p=O (.dK a)/\Q (.int (a.length:Int)) H):=by
 rintro c s g H b h Q I r ⟨p,a,rfl,e,q⟩;obtain⟨u,rfl,d⟩:=vals1 r;obtain rfl:u=Value.ref p:=d;exact Zji I (.inl e) λt i f=>⟨.int (a.length:Int),H,f,⟨t,rfl⟩,q⟩
def aA.trans(g:aA D H c)(a:aA D c Mn):aA D H Mn:=λb o e n=>a b o (g b o e n) n
def Out(a:Z U)(H c:Hp):Prop:=∀b o,H b=O o->b∉a->c b=O o
def Out.of(g:ag H H'):Out fp H H':=λb o e _=>g b o e
def Out.trans(g:Out fp H c)(a:Out fp c Mn):Out fp H Mn:=λb o e n=>a b o (g b o e n) n
def Out.bar(g:aA a H H')(m:a∈fp):Out fp H H':=λb o e n=>g b o e λz=>n (by rwa[z])
def setC(h:u D (σ.set i (O v)) H):yP (t9 (tC v) (qf i)) u D σ H:=h
def bW(h:a σ H λx b=>u D (σ.set i (O x)) b):yP (t9 a (qf i)) u D σ H:=h
def cP(h:H a=O (.dK b))(e:aH b (.inr z)=o):eU H a (.str z) o:=.inl ⟨b,.inr z,.inl h,rfl,e.symm⟩
section
variable {X:Cx}{P R tgt:cu}{xs:Z af}{E:Pos}{N:Z cu}{W:Scope}{cl:Z (af×U)}{fr:Z (af×Nat)}{F:TG}{G:TT}{L:TE}{σ:St}
def Zii(n:Nat)(b:TI)(fr:Z (af×Nat))(F:TG)(G:TT)(L:TE):TE:=λσ H Q=>b σ H λJ a=>∀D,a D=aF->JQ n J F G L (iu σ fr) D a Q
def Ze1(p:X.calm=ar)(a:qS X W cl xs fr)(n:∀C s H fp,PG (c7 X xs fr W cl C s H fp) tgt F)(l:PI X tgt R c)
  (i:∀C s H fp,uw (c7 X xs fr W cl C s H fp) N G)(o:∀C s H fp,PE (c7 X xs fr W cl C s H fp) P L)
  (j:∀x,foldedSetIterable R X.env x=pure x:=by intro _;rfl):PE X (.ListComp P [⟨tgt,R,N,0⟩] W E) (Zii xs.length c fr F G L):=by
 intro b s σ H Q I h;refine rp rfl j a.wa a.kind a.names (az (l b s σ H _ I h) λv d t=>az t λuq s2 r=>?_);refine gG λZG zg=>?_;obtain⟨it,fp,tn,J,H2,e,I2,T,eI,z,g⟩:=r;refine zg ?_;subst e;refine Oq p a n i o I2 T eI z g ?_;intro D C d H1 m I1 k B A y w u q;exact⟨m,k,λh' f=>⟨.ref D,H1,I1.turned (f.extBut) B A (.inr y) w u,rfl,q⟩⟩
end
def ZcP{K:ah}(d:Nat->Z V->Hp->Prop)(z:d 0 [] (upd H D (.lst [])))(u:∀i b H,i<=xs.length->d i b H->aq K H a xs)
  (C:∀i v b H,xs[i]?=O v->d i b H->∀os:St,os.length=n->r v (os++k) H λf A=>(∃h:St,h.length=n/\f=h++k)/\tt f A λc o=>if c=ar then s f o λy l=>l D=O (.lst b)/\b.length<sizeLine/\d (i+1) (b++[y]) (upd l D (.lst (b++[y]))) else d (i+1) b o)
  (w:∀b H,d xs.length b H->Q (.ref D) H):JQ n (kj K a) r tt s k D H Q:=by
 refine⟨λi m b H=>m=xs.length-i/\i<=xs.length/\d i b H,⟨xs.length,QS,Yx _,z⟩,?_⟩;rintro i m b H ⟨rfl,j,p⟩;have q:=u i b H j p;by_cases g:i<xs.length
 ·refine .inr ⟨⟨xs,xs[i],q,by simp[g]⟩,d (i+1),λE B t=>⟨xs.length-(i+1),QO,rfl,g,t⟩,λx B y=>?_⟩;obtain⟨e,y⟩:=y
  grind
 ·have e:i=xs.length:=(ic j (fU g))
  subst e;exact .inl ⟨⟨xs,q,Yh _⟩,w b H p⟩
abbrev rZ(c e g d f:cu)(a:Scope)(b:Pos):cu:=.ListComp c [⟨e,g,[],0⟩,⟨d,f,[],0⟩] a b
theorem ZdX(I:Nat->bU->Prop)
  (c:∀n s,I n s->wpAny (model prog w) A (pyNext it) (λr f=>match r with
   |none=>R (.ok .next) f
   |some v=>wpAny (model prog w) A (letOwnedTupleGo g it v) (λ_ o=>wpAny (model prog w) A (assign g env v) (λ_ l=>
     wpAny (model prog w) A (eval elt env) (λx j=>
       wpAny (model prog w) A (call (.builtin "list.append") [acc,x]) (λ_ i=>∃m,m<n/\I m i) (notedBy (model prog w) A env λe a=>R (.error e) a) j) (notedBy (model prog w) A env λe a=>R (.error e) a) l) (notedBy (model prog w) A env λe a=>R (.error e) a) o) (notedBy (model prog w) A env λe a=>R (.error e) a) f) (notedBy (model prog w) A env λe a=>R (.error e) a) s)
  (n:Nat)(h:I n s):codeAny (model prog w) A (.compLoop (rZ elt t1 z g y scope pos) 1 it acc env) R s:=by
 refine wz rfl I (λn s u=>wK (bg (kS (bg (dD (c n s u) (λr f k=>?_) λ_ _ b=>b))))) n h;cases r with
 |none=>exact cG k
 |some v=>
  exact bg (dD k (λ_ o d=>bg (dD d (λ_ l t=>bg (vj (bg (bg (dD t (λx j q=>bg (dD q (λ_ i p=>cG (cG ⟨rfl,p⟩)) λ_ _ b=>b)) λ_ _ b=>b))))) λ_ _ b=>b)) λ_ _ b=>b)
theorem ZdY(E:∀x,foldedSetIterable g env x=pure x)(I:Nat->bU->Prop)
  (c:∀n s,I n s->wpAny (model prog w) A (pyNext it) (λr i=>match r with
   |none=>R (.ok .next) i
   |some v=>wpAny (model prog w) A (letOwnedTupleGo t1 it v) (λ_ q=>wpAny (model prog w) A (assign t1 env v) (λ_ o=>
     wpAny (model prog w) A (eval g env) (λx p=>wpAny (model prog w) A (pyIter x) (λt k=>
      codeAny (model prog w) A (.compStart (rZ elt t1 D B g scope pos) 1 t acc env) (λr j=>match r with|.ok _=>∃m,m<n/\I m j|.error _=>False) k)
      (notedBy (model prog w) A env λe a=>R (.error e) a) p) (notedBy (model prog w) A env λe a=>R (.error e) a) o) (notedBy (model prog w) A env λe a=>R (.error e) a) q) (notedBy (model prog w) A env λe a=>R (.error e) a) i) (notedBy (model prog w) A env λe a=>R (.error e) a) s)
  (n:Nat)(h:I n s):codeAny (model prog w) A (.compLoop (rZ elt t1 D B g scope pos) 0 it acc env) R s:=by
 refine wz rfl I (λn s F=>wK (bg (kS (bg (dD (c n s F) (λr i l=>?_) λ_ _ b=>b))))) n h;cases r with
 |none=>exact cG l
 |some v=>
  refine bg (dD l (λ_ q d=>bg (dD d (λ_ o C=>bg (vj (bg (dD C (λx p z=>bg (kS ?_)) λ_ _ b=>b)))) λ_ _ b=>b)) λ_ _ b=>b);rw[E];refine bg (cG (bg (iG (dD z (λt k y=>bg (wpAny_runOwn (lN y λr j u=>?_))) λ_ _ b=>b))));cases r with
  |error e=>simp_all
  |ok f=>exact cG ⟨rfl,u⟩
theorem Zbf
  (g:codeAny (model prog w) A (.compLoop (rZ elt t1 f d e scope pos) 1 it acc env) R s)
  (h:wpAny (model prog w) A (pyIter it) (λc a=>codeAny (model prog w) A (.compLoop (rZ elt t1 f d e scope pos) 1 c acc env) R a) (notedBy (model prog w) A env λx a=>R (.error x) a) s):
  codeAny (model prog w) A (.compStart (rZ elt t1 f d e scope pos) 1 it acc env) R s:=by
 refine TF (wpAny_notedAt (bg (wpAny_askSetting (wpAny_ite ?_))));split
 ·first
   |exact bg (cG (cG (ra rfl g)))
   |exact cG (ra rfl g)
 ·first
   |exact bg (oO (bg (kS (bg (dD h (λc a b=>cG (ra rfl b)) λ_ _ x=>x)))))
   |(refine bg (oO ?_);exact bg (kS (bg (dD h (λc a b=>cG (ra rfl b)) λ_ _ x=>x))))
def Ka(n:Nat)(J:It)(C:TG)(E:TI)(B:TG)(A:TE)(h:St)(D:U)(H:Hp)(Q:VK):Prop:=
 ∃W:Nat->Nat->Z V->Hp->Prop,(∃m,W 0 m [] (upd H D (.lst [])))/\∀i m q H,W i m q H->
  (J.stop i H/\Q (.ref D) H)\/(J.go i H/\∃N:Z V->Hp->Prop,(∀e a,N e a->∃c,c<m/\W (i+1) c e a)/\
   ∀v a,J.oR i H v a->∀os:St,os.length=n->C v (os++h) a λk I=>(∃t:St,t.length=n/\k=t++h)/\E k I λo G=>
    ∃l:Nat->Nat->Z V->St->Hp->Prop,(∃g,l 0 g q k G)/\∀d g b j f,l d g b j f->
     (o.stop d f/\(∃r:St,r.length=n/\j=r++h)/\N b f)\/(o.go d f/\∃w:Z V->St->Hp->Prop,(∀e u a,w e u a->∃c,c<g/\l (d+1) c e u a)/\
      ∀s z,o.oR d f s z->B s j z λp F=>A p F λy x=>x D=O (.lst b)/\b.length<sizeLine/\w (b++[y]) p (upd x D (.lst (b++[y])))))
section
variable {X:Cx}{P L g B G:cu}{xs:Z af}{F:Pos}{R:Scope}{cl:Z (af×U)}{fr:Z (af×Nat)}{w t:TG}{A:TI}{l:TE}{σ:St}
def ZcQ{H2:Hp}{s2:bU}{it:U}{f:Z U}{tn:Nat->cS->Prop}{J:It}{Q:VK}{RR:a7->U->Result->bU->Prop}{E:bb}
  (hc:X.calm=ar)(a:qS X R cl xs fr)(hg:∀C s H f,PG (c7 X xs fr R cl C s H f) L w)(Mp:∀C s H f,PI (c7 X xs fr R cl C s H f) B G A)(Mq:∀C s H f,PG (c7 X xs fr R cl C s H f) B t)(he:∀C s H f,PE (c7 X xs fr R cl C s H f) P l)
  (rW:∀C x,foldedSetIterable G (compEnvC R cl C X.env) x=pure x)
  (I2:Inv X pins σ H2 s2)(T:Turn X.prog X.w X.K L J f it tn)(eI:tn 0 s2.heap)(f2:∀b∈f,je X pins H2 b)
  (hw:∀D,H2 D=aF->Ka xs.length J w A t l (iu σ fr) D H2 Q)
  (hR:∀D C s1 H1 m,Inv X pins σ H1 s1->s1.heap.Ns C m->H1 C=aF->C≠X.env.locals->X.di.heap.objs.size<=C->(∀y c,X.env.cells.lookup y=O c->c≠C)->(∀p∈X.pn++pins,p.1≠C)->Q (.ref D) H1->RR (.ref D) C (.ok .next) s1):
  wpAny X.md X.A (newList []) (λacc eG=>wpAny X.md X.A (newFunctionEnv R X.env.globals cl [] X.env.qual aF .none (O X.env)) (λnF jh=>
   codeAny X.md X.A (.compStart (rZ P L g B G R F) 0 (.ref it) acc {nF with scope:=relabel R X.env}) (RR acc nF.locals) jh) E eG) E s2:=by
 refine PR (tgt:=L) a I2 T eI f2 hR λD C s I eG hD e3 I4 wF wA fin=>?_;obtain⟨W,⟨m0,w0⟩,turn⟩:=hw D hD;rw[←e3] at w0;refine ZdY (rW _) (λk s'=>∃i ys H' os,os.length=xs.length/\Inv (c7 X xs fr R cl C s I f) [] (os++iu σ fr) H' s'/\tn i s'.heap/\(∀b∈f,H' b=aF)/\W i k ys H') ?_ m0
  ⟨0,[],_,List.replicate xs.length aF,W6,I4,wF,wA,w0⟩
 rintro n s5 ⟨i,ys,H5,os,qB,I5,qA,ur,w5⟩;have nC:∀{H':Hp},(∀b∈f,H' b=aF)->∀b∈f,je (c7 X xs fr R cl C s I f) [] H' b:=λ{H'} hn b h=>
  ⟨hn b h,(I5.ok.rU b h).1,I5.ok.rH b h,.inl h,(I5.ok.rU b h).2,λp hp=>absurd (show p∈([]:aX) from hp) QS⟩
 rcases turn i n ys H5 w5 with⟨stop,qn⟩|⟨go,N,hN,step⟩
 ·refine az (T.done (c7 X xs fr R cl C s I f) rfl rfl rfl hc i [] s5 _ H5 _ I5 (nC ur) qA stop) λr s6 q=>?_;obtain⟨hr,I6⟩:=q;subst hr;exact fin _ _ _ I6 qn
 ·refine az (T.item (c7 X xs fr R cl C s I f) rfl rfl rfl hc i [] s5 _ H5 _ I5 (nC ur) qA go) λr s6 q=>?_;obtain⟨u,hr,h6⟩:=q;subst hr;refine az h6 λ_ s7 q=>?_;obtain⟨v,H7,I7,r7,y7,ux,L_⟩:=q;have Ma:=I7.pinned (nC L_) (T.obj _ _ ux);refine dD (hg _ _ _ _ _ s7 _ H7 v u _ Ma r7 (step v H7 y7 os qB)) (λ_ s8 q=>?_) λ _ _=>False.elim;obtain⟨σ8,H8,I8,⟨kY,Lc,e8⟩,q8⟩:=q;subst e8;have again:∀{qC:St} {H9:Hp} {s9:bU} {qD:Z V},qC.length=xs.length->Inv (c7 X xs fr R cl C s I f) ([]++rA f s7.heap) (qC++iu σ fr) H9 s9->N qD H9->
    ∃m,m<n/\∃i ys H' os,os.length=xs.length/\Inv (c7 X xs fr R cl C s I f) [] (os++iu σ fr) H' s9/\tn i s9.heap/\(∀b∈f,H' b=aF)/\W i m ys H':=λ{qC H9 s9 qD} l1 I9 n9=>by
   obtain⟨m',hm,w9⟩:=hN qD H9 n9;refine⟨m',hm,i+1,qD,H9,qC,l1,I9.vI,T.keep _ _ _ ux λb h o e=>(I9.pin (b,o) (Yl _ (Yl _ (qR h e)))).1,λb h=>?_,w9⟩;obtain⟨o,e,d⟩:=T.obj _ _ ux b h;exact(I9.pin (b,o) (Yl _ (Yl _ (qR h e)))).2.1
  refine dD (Mp _ _ _ _ _ s8 _ H8 _ I8 q8) (λx s9 h9=>dD h9 (λuq Mb h10=>?_) λ _ _=>False.elim) λ _ _=>False.elim;obtain⟨C_,Mr,tn2,J2,qE,qG,Mc,T2,Vm,Ms,W2,⟨m2,w2⟩,Zjo⟩:=h10;subst qG;have KI:∀{H':Hp},(∀b∈Mr,H' b=aF)->∀b∈Mr,je (c7 X xs fr R cl C s I f) ([]++rA f s7.heap) H' b:=λhn b h=>⟨hn b h,(Ms b h).2⟩;have UB:codeAny X.md X.A (.compLoop (rZ P L g B G R F) 1 (.ref C_) (.ref D) (compEnvC R cl C X.env)) (λr nE=>match r with|.ok _=>∃m,m<n/\∃i ys H' os,os.length=xs.length/\Inv (c7 X xs fr R cl C s I f) [] (os++iu σ fr) H' nE/\tn i nE.heap/\(∀b∈f,H' b=aF)/\W i m ys H'|.error _=>False) Mb:=by
   refine ZdX (λk s'=>∃j zs aK H',Inv (c7 X xs fr R cl C s I f) ([]++rA f s7.heap) aK H' s'/\tn2 j s'.heap/\(∀b∈Mr,H' b=aF)/\W2 j k zs aK H') ?_ m2 ⟨0,ys,_,qE,Mc,Vm,λb h=>(Ms b h).1,w2⟩;rintro k Md ⟨j,zs,Zka,zu,C2,Vn,Vo,w11⟩;rcases Zjo j k zs Zka zu w11 with⟨stop,⟨wJ,Zkb,e3⟩,qn⟩|⟨go,N2,hN2,Zjp⟩
   ·refine az (T2.done (c7 X xs fr R cl C s I f) rfl rfl rfl hc j _ Md _ zu _ C2 (KI Vo) Vn stop) λr s12 q=>?_;obtain⟨hr,I12⟩:=q;subst hr;subst e3;exact again Zkb I12 qn
   ·refine az (T2.item (c7 X xs fr R cl C s I f) rfl rfl rfl hc j _ Md _ zu _ C2 (KI Vo) Vn go) λr s12 q=>?_;obtain⟨u2,hr,Dc⟩:=q;subst hr;refine az Dc λ_ s13 q=>?_;obtain⟨v2,Dd,I13,r13,y13,Lg,Zkc⟩:=q;have Zkd:=I13.pinned (KI Zkc) (T2.obj _ _ Lg);refine dD (Mq _ _ _ _ _ s13 _ Dd v2 u2 _ Zkd r13 (Zjp v2 Dd y13)) (λ_ s14 q=>?_) λ _ _=>False.elim;obtain⟨Zke,r6,I14,q14⟩:=q;refine dD (he _ _ _ _ _ s14 _ r6 _ I14 q14) (λu1 s15 q=>?_) λ _ _=>False.elim;obtain⟨y,Mt,I15,r15,hD,hz,nS⟩:=q;refine dD (x9 (X:=c7 X xs fr R cl C s I f) _ s15 _ Mt (.ref D) [y] _ [u1] (λ_ H'=>N2 (zs++[y]) Zke H') I15 rfl (.cons r15 .nil) ⟨_,zs,y,rfl,rfl,hD,hz,nS⟩) (λ_ s16 q=>?_) λ_ _ z=>False.elim z;obtain⟨_,Xg,Mu,_,q16⟩:=q;obtain⟨m',hm,w16⟩:=hN2 _ _ _ q16;refine⟨m',hm,j+1,_,_,Xg,Mu.vI,T2.keep _ _ _ Lg λb h o e=>(Mu.pin (b,o) (Yl _ (Yl _ (qR h e)))).1,λb h=>?_,w16⟩;obtain⟨o,e,d⟩:=T2.obj _ _ Lg b h;exact(Mu.pin (b,o) (Yl _ (Yl _ (qR h e)))).2.1
  exact Zbf UB (T2.self _ 0 _ _ _ Vm UB)
def Zij(n:Nat)(b:TI)(fr:Z (af×Nat))(w:TG)(A:TI)(t:TG)(l:TE):TE:=λσ H Q=>b σ H λJ a=>∀D,a D=aF->Ka n J w A t l (iu σ fr) D a Q
def Ze2(u:X.calm=ar)(a:qS X R cl xs fr)(p:∀C s H fp,PG (c7 X xs fr R cl C s H fp) L w)(o:PI X L g c)(Mp:∀C s H fp,PI (c7 X xs fr R cl C s H fp) B G A)(Mq:∀C s H fp,PG (c7 X xs fr R cl C s H fp) B t)
  (r:∀C s H fp,PE (c7 X xs fr R cl C s H fp) P l)(k:∀x,foldedSetIterable g X.env x=pure x:=by intro _;rfl)(f:∀C x,foldedSetIterable G (compEnvC R cl C X.env) x=pure x:=by intro _ _;rfl):
  PE X (.ListComp P [⟨L,g,[],0⟩,⟨B,G,[],0⟩] R F) (Zij xs.length c fr w A t l):=by
 intro b s σ H Q I h;refine rp rfl k a.wa a.kind a.names (az (o b s σ H _ I h) λv d z=>az z λuq s2 y=>?_);refine gG λZG zg=>?_;obtain⟨it,fp,tn,J,H2,e,I2,T,eI,f2,j⟩:=y;refine zg ?_;subst e;refine ZcQ u a p Mp Mq r f I2 T eI f2 j ?_;intro D C d H1 m I1 n f0 f1 W N E q;exact⟨m,n,λh' i=>⟨.ref D,H1,I1.turned (i.extBut) f0 f1 (.inr W) N E,rfl,q⟩⟩
end
def dH{K:ah}(h:X.K=K)(b:PE X l a):PI X c l (Uc K a):=h▸Q4 b
def gc{X:Cx}{K:ah}{b:Pos}{a:Z cu}{k:Nat}{t:oQ}{n:Nat}(h:X.K=K)(e:X.calm=ar)(d:ze X a t)
  (c:(assignEach a X.env).length=n:=by rfl)(f:(assignEach a X.env).findIdx? (·.1)=aF:=by rfl):PG X (.Tuple a k b) (U8 K n t):=h▸Zhr e d c f
def Zgs{K:ah}(h:Nat->Z V->Hp->Prop)(h0:h 0 [] (upd H D (.lst [])))(hl:∀i c H,i<=xs.length->h i c H->aq K H a xs)
  (hs:∀i v c H,xs[i]?=O v->h i c H->∀os:St,os.length=n->C v (os++F) H λt H2=>(∃X:St,X.length=n/\t=X++F)/\E t H2 λJ2 H3=>∃(b:U) (f:Z V) (g:Nat->Z V->St->Hp->Prop),J2=kj K b/\g 0 c t H3/\
   (∀k c d H,k<=f.length->g k c d H->aq K H b f)/\
   (∀k s c d H,f[k]?=O s->g k c d H->nR s d H λN H6=>te N H6 λy H7=>H7 D=O (.lst c)/\c.length<sizeLine/\g (k+1) (c++[y]) N (upd H7 D (.lst (c++[y]))))/\
   ∀c d H,g f.length c d H->(∃T:St,T.length=n/\d=T++F)/\h (i+1) c H)
  (hd:∀c H,h xs.length c H->Q (.ref D) H)(L:∀d H (R o:It->Hp->Prop),(∀J H,R J H->o J H)->E d H R->E d H o)(I:∀v d H (R o:St->Hp->Prop),(∀d H,R d H->o d H)->C v d H R->C v d H o):Ka n (kj K a) C E nR te F D H Q:=by
 refine⟨λi m c H=>m=xs.length-i/\i<=xs.length/\h i c H,⟨xs.length,QS,Yx _,h0⟩,?_⟩;rintro i m c H ⟨rfl,hi,p⟩;have q:=hl i c H hi p;by_cases G:i<xs.length
 ·refine .inr ⟨⟨xs,xs[i],q,by simp[G]⟩,h (i+1),λeA H' B=>⟨xs.length-(i+1),QO,rfl,G,B⟩,λx H' y os qB=>?_⟩;obtain⟨e,y⟩:=y;subst e;refine I _ _ _ _ _ (λt H2 zz=>?_) (hs i x c _ (y xs q) p os qB);obtain⟨h1,h2⟩:=zz;refine⟨h1,L _ _ _ _ (λJ2 H3 h3=>?_) h2⟩;refine gG λZG zg=>?_;obtain⟨b,f,g,rfl,w0,wl,ws,P⟩:=h3;refine zg ?_;refine⟨λk W j l r=>W=f.length-k/\k<=f.length/\g k j l r,⟨f.length,QS,Yx _,w0⟩,?_⟩;rintro k W j l r ⟨rfl,hk,w⟩;have A:=wl k j l r hk w;by_cases z:k<f.length
  ·refine .inr ⟨⟨f,f[k],A,by simp[z]⟩,g (k+1),λeA aK H' B=>⟨f.length-(k+1),QO,rfl,z,B⟩,λs H5 u=>?_⟩;obtain⟨e2,u⟩:=u;subst e2;exact ws k s j l _ (u f A) w
  ·have e:k=f.length:=(ic hk (fU z))
   subst e;exact .inl ⟨⟨f,A,Yh _⟩,(P j l r w).1,(P j l r w).2⟩
 ·have e:i=xs.length:=(ic hi (fU G))
  subst e;exact .inl ⟨⟨xs,q,Yh _⟩,hd c H p⟩
section
variable {X:c9}{w:cX}{W:Type}[DecidableEq W]{knd:PySem.KeyKind X w W}{A:d_}{E:bb}{s:bU}
theorem ZX{d:U}{a:Z (W×a7)}{k:W}{f b:a7}{Q:bb}(g:knd.is k f=ar)(C:s.heap.DictOf knd d a)
  (t:∀v,valueAt a k=O v->Q v {s with toks:=s.toks+1})
  (r:valueAt a k=aF->∀q,q.DictOf knd d (stored a k b)->Heap.SameBut d s.heap q->Q b {s with heap:=q,toks:=s.toks+1})
  (B:a.length<=sizeLine):wpAny (model X w) A (dictSetDefault d f b) Q E s:=by
 obtain⟨o,c,G,j,F,hd,u,h,J⟩:=C;have I:c.size<=sizeLine:=by
  have L:=h.length
  grind
 have y:∀x,findBy knd.is c x=valueAt a x:=λx=>by
  rw[←h.find x];simp[findBy]
 unfold dictSetDefault;try with_reducible refine iG ?_
 refine bg (knd.pyHash g (bg (wpAny_dictFind_of g j hd u ?_)));have H:(c.findIdx? λe=>knd.is k e.key)=a.findIdx? λn=>decide (n.1=k):=by
  rw[←h.findIdx k];obtain⟨l⟩:=c;simp
 cases p:c.findIdx? λe=>knd.is k e.key with
 |some i=>
  have m:valueAt a k=(c[i]?).map (·.val):=by rw[←y k,JR,p]
  refine bg (uQ j hd ?_);cases D:c[i]? with
  |none=>
   have:=Array.findIdx?_eq_some_iff_findIdx_eq.mp p
   (split<;>simp_all)
  |some e=>
   rw[D] at m;exact bg (oO (cG (t e.val m)))
 |none=>
  have m:valueAt a k=aF:=by rw[←y k,JR,p]
  have z:¬(a.any λn=>decide (n.1=k))=ar:=by
   grind
  refine bg (oO (bg (uD j hd (cG (r m _ ⟨_,_,G+1,Wk _ j (Dv (rO hd _)),
   F.mapDictKeys _,rO hd _,u.push g _,?_,?_⟩ (r0 ..))))))
  ·rw[stored,bt z];have:=h.append g (knd.hash k) b
   grind
  ·rw[stored,bt z,Yp,Wc]
   grind
def Zac(g:knd.is k key=ar)(m:(d==sysModules)=a_)(a:a7):
  MeetsIn X w (Builtin.«dict.setdefault» ⟨[.ref d,key,a],[]⟩) (λ_ R s=>∃b,s.heap.DictOf knd d b/\b.length<=sizeLine/\
   (∀v,valueAt b k=O v->R (.ok (.ret v)) {s with toks:=s.toks+1})/\
   (valueAt b k=aF->∀c,c.DictOf knd d (stored b k a)->Heap.SameBut d s.heap c->R (.ok (.ret a)) {s with heap:=c,toks:=s.toks+1})):=
 .of_wp λA R s ⟨b,f,i,o,n⟩=>by
  refine bg (bg (uB f.typeIs (cG ?_)));show wpAny _ _ (if(d==sysModules)=ar then _ else(dictSetDefault d key a>>=_)) _ _ s;rw[bt (by rw[m];exact Yq)];exact bg (ZX g f (λv j=>cG ⟨v,rfl,o v j⟩) (λl c e h=>cG ⟨a,rfl,n l c e h⟩) i)
end
theorem Ze3(I:Inv X pins σ H s)(e:H a=O (.dK b))(p:RelV (kV k) u)(o:RelV z r)(l:b.length<sizeLine)
  (F:∀v h g,aH b k=O v->Inv X pins σ H g->RelV v h->Q h g)(D:∀g,aH b k=aF->Inv X pins σ (upd H a (.dK (putK b k z))) g->Q r g):
  wpAny X.md A (call (.builtin "dict.setdefault") [.ref a,u,r]) Q E s:=by
 obtain⟨G,hd,i,c,n⟩:=oH I.ay e;have t:i.length<=sizeLine:=by rwa[←c.length]
 have f:=c.val k;refine mh rz n.typeIs zf (zc _ _ _) (Zac (nv p) hd r) ⟨i,n,t,λv j=>?_,λB J m w=>?_⟩
 ·cases d:aH b k with
  |none=>rw[d,j] at f;cases f
  |some x=>
   rw[d,j] at f;exact F x v _ d (I.tok _) f
 ·have d:aH b k=aF:=by
   cases d:aH b k with
   |none=>rfl
   |some x=>rw[d,B] at f;cases f
  have C:(putK b k z).length<=sizeLine:=by have:=Au b k z;exact k8 this (t5 l)
  exact D _ d (rf I (by exact e▸hY) w (let⟨q,_,_,y,_⟩:=m;⟨q,y⟩) (yB C hd (c.put k o) m))
def Ip(h f g:TE):TE:=λc H Q=>h c H λx e=>∃a,x=.ref a/\wI e a/\f c e λy i=>g c i λz d=>∃b k,d a=O (.dK b)/\y=kV k/\b.length<sizeLine/\
 (∀v,aH b k=O v->Q v d)/\(aH b k=aF->Ch d a (.dK (b++[(k,z)])) (Q z))
def Zgt(g f:TE):TE:=λc H Q=>g c H λx e=>∃a,x=.ref a/\wI e a/\f c e λy d=>∃b k v,d a=O (.dK b)/\y=kV k/\aH b k=O v/\Ch d a (.dK (iy b k)) (Q v)
def OE(R:PE X o q)(W:PE X e ty)(T:PE X f p)(m:M2 X o "setdefault" apos e f cz):PE X (.Call (.Attribute o "setdefault" apos) [e,f] [] cz) (Ip q ty p):=by
 intro b s i H Q I h;refine pJ m.base m.jo m.line oz rz zh (az (R b s i H _ I h) λu B n=>?_);obtain⟨x,H1,l,D,a,ex,d,L⟩:=n;subst ex;obtain rfl:u=Value.ref a:=D;obtain⟨t,r,_⟩:=vT l d;refine⟨t,r,?_⟩;rw[m.trees];refine k_ rfl (m6 (lq (az (W b B i H1 _ l L) λiv A ⟨y,H2,I2,C,J⟩=>
  lq (az (T b A i H2 _ I2 J) λfv s3 ⟨z,H3,I3,j,P,k,ea,ey,N,G,F⟩=>n7 ?_))))
 subst ey;refine Ze3 I3 ea C j N (λv w' w c g E=>⟨v,H3,g,E,G v c⟩) λw c g=>?_;rw[iZ _ c] at g;exact⟨z,_,g,j,(F c).at⟩
def Pd(A:PE X o i)(B:PE X e ty)(m:M1 X o "pop" apos e G):PE X (.Call (.Attribute o "pop" apos) [e] [] G) (Zgt i ty):=by
 intro b s c H Q I h;refine pJ m.base m.jo m.line oz slot_dict_pop PySem.F.type_dict_pop (az (A b s c H _ I h) λu p g=>?_);obtain⟨x,N,f,r,a,E,d,w⟩:=g;subst E;obtain rfl:u=Value.ref a:=r;obtain⟨n,j,_⟩:=vT f d;refine⟨n,j,?_⟩;rw[m.trees];refine k_ rfl (m6 (lq (az (B b p c N _ f w) λW T zz=>?_)));obtain⟨y,H2,L,q,z,k,v,F,D,l,t⟩:=zz;refine n7 ?_;subst D;exact Zjh L F q l (.inl rfl) λP R J C=>⟨v,_,J,C,t.at⟩
end L2
namespace L2
open PySem PySem.W PySem.Calls PySem.Spec PyProof.Rows
def eV{c:Type}(n:Nat)(P:c->Prop):KasT c->Prop
 |.ret a=>P a
 |.ask i j k=>i<n/\j<n/\∀b,eV n P (k b)
theorem eV.bind{c d:Type}{n:Nat}{P:c->Prop}{Q:d->Prop}{f:c->KasT d}(e:∀a,P a->eV n Q (f a)):∀{t:KasT c},eV n P t->eV n Q (t.bind f)
 |.ret a,h=>e a h
 |.ask _ _ _,h=>⟨h.1,h.2.1,λb=>eV.bind e (h.2.2 b)⟩
def Good(n:Nat)(p:c8 Nat):Prop:=0<n/\p.Perm (List.range n).toArray
def Good.get(g:Good n p)(m:Nat):p.getD m 0<n:=by
 by_cases h:m<p.size
 ·have e:p.getD m 0=p[m]:=by rw[Wf,W4 h];rfl
  rw[e];have:=g.2.mem_iff.mp (Na h);simpa using this
 ·have e:p.getD m 0=0:=by rw[Wf,Xf (fU h)];rfl
  rw[e];exact g.1
def Good.rev(g:Good n p)(i j:Nat):Good n (kas_rev p i j):=⟨g.1,(mirror_perm p i j _).trans g.2⟩
theorem Iq(g:Good n p):∀f m,eV n (λ_=>True) (kas_asc p f m)
 |0,_=>trivial
 |f+1,m=>⟨g.get m,g.get (m-1),λb=>by
  cases b with
  |true=>(dsimp only;rw[bS rfl]);exact trivial
  |false=>(dsimp only;rw[bt Yq]);exact Iq g f (m+1)⟩
theorem AO:∀f (p:c8 Nat) m q,Good n p->eV n (λr=>Good n r.1) (kas_desc f p m q)
 |0,_,_,_,g=>g
 |f+1,p,m,q,g=>⟨g.get m,g.get (m-1),λb=>by
  cases b with
  |true=>
   split;·exact AO f _ _ _ (g.rev _ _)
   ·exact AO f _ _ _ g
  |false=>
   refine⟨g.get (m-1),g.get m,λd=>?_⟩;cases d with
   |true=>(dsimp only;rw[bS rfl]);exact g
   |false=>(dsimp only;rw[bt Yq]);exact AO f _ _ _ g⟩
def OF(g:Good n p):eV n (λr=>Good n r.2) (kas_tail3 m k p):=by
 refine eV.bind (λa _=>?_) (Iq (g.rev 0 m) _ _);exact g.rev 0 m
def N1(g:Good n p):eV n (λr=>Good n r.2) (kas_descPart m k p):=by
 refine eV.bind (λr a=>?_) (AO _ p _ _ g);split;·exact OF (Good.rev a _ _)
 ·exact OF a
theorem OG(g:Good n p):eV n (λr=>Good n r.2) (kas_count k p):=by
 refine eV.bind (λm _=>?_) (Iq g _ _);split;·exact g
 ·split
  ·refine⟨g.get _,g.get _,λb=>?_⟩;cases b with
   |true=>(dsimp only;rw[bS rfl]);exact g
   |false=>(dsimp only;rw[bt Yq]);exact N1 (g.rev _ _)
  ·exact N1 g
theorem GO(g:Good n p):∀f l r,eV n (λ_=>True) (kas_place p k f l r)
 |0,_,_=>trivial
 |f+1,l,r=>by
  unfold kas_place;split;·exact trivial
  ·refine⟨g.get _,g.get _,λb=>?_⟩;cases b with
   |true=>(dsimp only;rw[bS rfl]);exact GO g f _ _
   |false=>(dsimp only;rw[bt Yq]);exact GO g f _ _
theorem P_{n:Nat}:∀f (p:c8 Nat) k,Good n p->eV n (Good n) (kas_bin f p k)
 |0,_,_,g=>g
 |f+1,p,k,g=>eV.bind (λl _=>P_ f _ _ ⟨g.1,(bubble_perm p k _).trans g.2⟩) (GO g _ _ _)
def ZdZ(h:0<n):eV n (Good n) (kas_sort n):=by
 refine eV.bind (λr a=>?_) (OG ⟨h,vl _⟩);split;·exact P_ _ _ _ a
 ·exact a
def range_getD(vs:Z α)(d:α):(List.range vs.length).map (λi=>vs.getD i d)=vs:=by
 refine Ww λi=>?_
 grind
def BG(h:cS)(b:Z a7):Prop:=∀v∈b,∃(a:U) (o:Obj) (n:Nat) (x y:Int) (t u:Tok),v=.ref a/\h.get? a=O o/\o.cls=.type "tuple"/\o.data=.seq #[.int x t,.int y u] n
theorem BG.Xh:∀{b:Z a7},BG h b->∃fs:Z a7,KatTups h b fs/\fs.length=b.length/\∀v∈fs,∃x t,v=Value.int x t
 |[],_=>⟨[],KatTups.nil,rfl,λ_ h=>by cases h⟩
 |v::b,c=>by
  obtain⟨a,o,n,x,y,t,u,rfl,j,i,g⟩:=c v Yg;obtain⟨fs,e,d,k⟩:=BG.Xh λz f=>c z (Yw _ f);refine⟨.int x t::fs,KatTups.cons j i g rfl e,by rw[Wh,Wh,d],λv c=>?_⟩
  grind
theorem Pf:∀{c:Z U} {b:Z a7},Vals (c.map V.ref) b->b=c.map Value.ref
 |[],_,.nil=>rfl
 |a::c,u::b,.cons r t=>by
  rw[r,Pf t,Wu]
theorem Pg:∀a:Z U,Vals (a.map V.ref) (a.map Value.ref)
 |[]=>.nil
 |_::a=>.cons rfl (Pg a)
def Run{b:Type}(c:Nat->Nat->cm):KasT b->b
 |.ret a=>a
 |.ask i j k=>Run c (k (c i j))
theorem Run.bind:∀t:KasT α,Run lt (t.bind f)=Run lt (f (Run lt t))
 |.ret _=>rfl
 |.ask i j k=>Run.bind (k (lt i j))
theorem eV.run(b:∀i j (C:cm->bU->Prop),i<n->j<n->C (lt i j) s->cmp i j C s):∀{t:KasT α},eV n P t->G (Run lt t) s->t.kasWp cmp G s
 |.ret _,_,a=>a
 |.ask i j k,h,a=>b i j _ h.1 h.2.1 (eV.run b (h.2.2 _) a)
structure lD(n:Nat)(lt:Nat->Nat->cm):Prop where
 trans:∀i j k,i<n->j<n->k<n->lt i j=ar->lt j k=ar->lt i k=ar
 Df:∀i j,i<n->j<n->i≠j->lt i j=a_->lt j i=ar
 Zkg:∀i j,i<n->j<n->lt i j=ar->lt j i=a_
def Sd(a:Nat->Nat->cm)(p:c8 Nat)(m:Nat):Prop:=∀i j,i<j->j<m->a (p.getD i 0) (p.getD j 0)=ar
def Ds(a:Nat->Nat->cm)(p:c8 Nat)(m:Nat):Prop:=∀i j,i<j->j<m->a (p.getD j 0) (p.getD i 0)=ar
def Good.size(g:Good n p):p.size=n:=by
 have:=g.2.size_eq
 simp_all
def Good.ne(g:Good n p)(h:i<n)(f:j<n)(b:i≠j):p.getD i 0≠p.getD j 0:=by
 have c:p.toList.Nodup:=by
  have:=(Xi.mp g.2).nodup_iff.mpr (by simpa using Pe);exact this
 have sz:=g.size;have e:∀k (d:k<n),p.getD k 0=p.toList[k]'(by rw[Wm];omega):=λk d=>by
  simp_all
 have a:=W5.mp c;rw[e i h,e j f];intro z;rcases Nat.lt_or_gt_of_ne b with q|q;·exact a _ _ _ _ q z
 ·exact a _ _ _ _ q z.symm
section
variable {n:Nat}{lt:Nat->Nat->cm}
def Rv(L:lD n lt)(g:Good n p)(f:1<=m)(a:Sd lt p m)(h:lt (p.getD (m-1) 0) (p.getD m 0)=ar):Sd lt p (m+1):=by
 intro i j b c;by_cases e:j=m
 ·subst e;by_cases d:i=j-1;·rwa[d]
  ·exact L.trans _ _ _ (g.get _) (g.get _) (g.get _) (a i (j-1) QO QO) h
 ·exact a i j b (fI (gb c) e)
def Zgu(L:lD n lt)(g:Good n p)(f:1<=m)(a:Ds lt p m)(h:lt (p.getD m 0) (p.getD (m-1) 0)=ar):Ds lt p (m+1):=by
 intro i j b c;by_cases e:j=m
 ·subst e;by_cases d:i=j-1;·rwa[d]
  ·exact L.trans _ _ _ (g.get _) (g.get _) (g.get _) h (a i (j-1) QO QO)
 ·exact a i j b (fI (gb c) e)
theorem Bj(L:lD n lt)(g:Good n p):∀f m,1<=m->m+f<=n->Sd lt p m->Sd lt p (Run lt (kas_asc p f m))/\m<=Run lt (kas_asc p f m)/\Run lt (kas_asc p f m)<=m+f
 |0,m,_,_,h=>⟨h,Yh _,Yh _⟩
 |f+1,m,i,k,h=>by
  have e:Run lt (kas_asc p (f+1) m)=Run lt (if lt (p.getD m 0) (p.getD (m-1) 0)=ar then KasT.ret m else kas_asc p f (m+1)):=rfl;rw[e];by_cases c:lt (p.getD m 0) (p.getD (m-1) 0)=ar
  ·rw[bS c];exact⟨h,Yh _,by show m<=_;exact yT _ _⟩
  ·rw[bt c];have j:lt (p.getD m 0) (p.getD (m-1) 0)=a_:=by cases z:lt (p.getD m 0) (p.getD (m-1) 0) with|true=>exact absurd z c|false=>rfl
   obtain⟨a,b,d⟩:=Bj L g f (m+1) (jm i) QO (Rv L g i h (L.Df _ _ (g.get _) (g.get _) (g.ne QO QO QO) j))
   grind
theorem Qa(L:lD n lt)(g:Good n p):∀f m,1<=m->m+f<=n->Ds lt p m->∃h,Run lt (kas_desc f p m 0)=(p,h,0)/\Ds lt p h/\m<=h/\h<=m+f
 |0,m,_,_,ds=>⟨m,rfl,ds,Yh _,Yh _⟩
 |f+1,m,i,l,ds=>by
  have e:Run lt (kas_desc (f+1) p m 0)=Run lt (if lt (p.getD m 0) (p.getD (m-1) 0)=ar then(if 0>0 then kas_desc f (kas_rev p (m-(0+1)) m) (m+1) 0 else kas_desc f p (m+1) 0) else KasT.ask (p.getD (m-1) 0) (p.getD m 0) λd=>if d=ar then KasT.ret (p,m,0) else kas_desc f p (m+1) (0+1)):=rfl;rw[e];by_cases c:lt (p.getD m 0) (p.getD (m-1) 0)=ar
  ·rw[bS c,bt (by decide)];obtain⟨h,a,b,d,o⟩:=Qa L g f (m+1) (jm i) QO (Zgu L g i ds c)
   grind
  ·rw[bt c];have k:lt (p.getD m 0) (p.getD (m-1) 0)=a_:=by cases z:lt (p.getD m 0) (p.getD (m-1) 0) with|true=>exact absurd z c|false=>rfl
   have j:Run lt (KasT.ask (p.getD (m-1) 0) (p.getD m 0) λd=>if d=ar then KasT.ret (p,m,0) else kas_desc f p (m+1) (0+1))=Run lt (if lt (p.getD (m-1) 0) (p.getD m 0)=ar then KasT.ret (p,m,0) else kas_desc f p (m+1) (0+1)):=rfl;rw[j,bS (L.Df _ _ (g.get m) (g.get (m-1)) (g.ne QO QO QO) k)];exact⟨m,rfl,ds,Yh _,(yT _ _)⟩
def Rw(a:m<=p.size)(b:i<m):(kas_rev p 0 m).getD i 0=p.getD (m-1-i) 0:=by
 unfold kas_rev;rw[Wf,getElem?_mirror_all a,if_pos ⟨Yx _,b⟩,←Wf]
 congr 1
 omega
def Zd0(L:lD n lt)(g:Good n p)(l:1<=m)(k:m<=n)(o:Ds lt p m):Good n (Run lt (kas_tail3 m n p)).2/\Sd lt (Run lt (kas_tail3 m n p)).2 (Run lt (kas_tail3 m n p)).1/\m<=(Run lt (kas_tail3 m n p)).1/\(Run lt (kas_tail3 m n p)).1<=n:=by
 have f:Sd lt (kas_rev p 0 m) m:=λi j h d=>by
  rw[Rw (by rwa[g.size]) (pz h d),Rw (by rwa[g.size]) d];exact o _ _ QO QO
 have e:Run lt (kas_tail3 m n p)=(Run lt (kas_asc (kas_rev p 0 m) (n-m) m),kas_rev p 0 m):=by
  unfold kas_tail3;rw[Run.bind];rfl
 obtain⟨a,b,c⟩:=Bj L (g.rev 0 m) (n-m) m l (l3 (yS k)) f;rw[e];exact⟨g.rev 0 m,a,b,QO⟩
def Zd1(L:lD n lt)(g:Good n p):Good n (Run lt (kas_count n p)).2/\Sd lt (Run lt (kas_count n p)).2 (Run lt (kas_count n p)).1/\1<=(Run lt (kas_count n p)).1/\(Run lt (kas_count n p)).1<=n:=by
 have t:=g.1;obtain⟨f,h,D⟩:=Bj L g (n-1) 1 (Yh _) QO (λi j o v=>QO);have e:Run lt (kas_count n p)=Run lt (if(Run lt (kas_asc p (n-1) 1)==n)=ar then KasT.ret (Run lt (kas_asc p (n-1) 1),p) else if Run lt (kas_asc p (n-1) 1)>1 then KasT.ask (p.getD 0 0) (p.getD (Run lt (kas_asc p (n-1) 1)-1) 0) λc=>if c=ar then KasT.ret (Run lt (kas_asc p (n-1) 1),p) else kas_descPart (Run lt (kas_asc p (n-1) 1)) n (kas_rev p 0 (Run lt (kas_asc p (n-1) 1))) else kas_descPart (Run lt (kas_asc p (n-1) 1)) n p):=by
  unfold kas_count;rw[Run.bind]
 rw[e];generalize k:Run lt (kas_asc p (n-1) 1)=r at f h D;by_cases s:(r==n)=ar
 ·rw[bS s];exact⟨g,f,h,by show r<=n;omega⟩
 ·rw[bt s];have B:r≠n:=λz=>s (beq_iff_eq.mpr z);by_cases l:r>1
  ·rw[bS l];have G:Run lt (KasT.ask (p.getD 0 0) (p.getD (r-1) 0) λc=>if c=ar then KasT.ret (r,p) else kas_descPart r n (kas_rev p 0 r))=Run lt (if lt (p.getD 0 0) (p.getD (r-1) 0)=ar then KasT.ret (r,p) else kas_descPart r n (kas_rev p 0 r)):=rfl;rw[G,bS (f 0 (r-1) (Nat.sub_pos_of_lt l) QO)];exact⟨g,f,h,by show r<=n;omega⟩
  ·rw[bt l];have C:r=1:=(ic (fU l) h)
   subst C;have hd:lt (p.getD 1 0) (p.getD 0 0)=ar:=by
    have:n-1=(n-2)+1:=QO
    rw[this] at k;have F:Run lt (kas_asc p (n-2+1) 1)=Run lt (if lt (p.getD 1 0) (p.getD (1-1) 0)=ar then KasT.ret 1 else kas_asc p (n-2) (1+1)):=rfl;rw[F] at k;by_cases c:lt (p.getD 1 0) (p.getD (1-1) 0)=ar;·exact c
    ·rw[bt c] at k;have H:lt (p.getD 1 0) (p.getD (1-1) 0)=a_:=by cases z:lt (p.getD 1 0) (p.getD (1-1) 0) with|true=>exact absurd z c|false=>rfl
     have I:=Rv L g (Yh _) (λi j o v=>QO) (L.Df _ _ (g.get _) (g.get _) (g.ne (fI (mK t) B) t (by decide)) H);obtain⟨_,b,_⟩:=Bj L g (n-2) 2 (by decide) QO I;rw[show 1+1=2 from rfl] at k;omega
   have q:Ds lt p 2:=λi j o v=>by
    obtain rfl:j=1:=QO
    obtain rfl:i=0:=(ic (gb o) (Nat.zero_le _))
    exact hd
   obtain⟨u,a,b,c,d⟩:=Qa L g (n-(1+1)) (1+1) (by decide) QO q;have E:Run lt (kas_descPart 1 n p)=Run lt (kas_tail3 u n p):=by
    unfold kas_descPart;rw[Run.bind,a];dsimp only;rw[bt (by decide)]
   rw[E];obtain⟨A,y,x,w⟩:=Zd0 L g (m:=u) (Xp c) QO b;exact⟨A,y,(Xp (eL c x)),w⟩
theorem Rx(L:lD n lt)(g:Good n p)(a:Sd lt p n):∀f m,1<=m->m+f<=n->Run lt (kas_asc p f m)=m+f
 |0,_,_,_=>rfl
 |f+1,m,b,c=>by
  have e:Run lt (kas_asc p (f+1) m)=Run lt (if lt (p.getD m 0) (p.getD (m-1) 0)=ar then KasT.ret m else kas_asc p f (m+1)):=rfl;rw[e,bt (by rw[L.Zkg _ _ (g.get _) (g.get _) (a (m-1) m QO QO)];exact Yq),Rx L g a f (m+1) (jm b) QO];exact Nat.add_right_comm _ _ _
def Zd2(L:lD n lt)(g:Good n p)(a:Sd lt p n):Run lt (kas_count n p)=(n,p):=by
 have b:=g.1;unfold kas_count;rw[Run.bind,(Rx L g a (n-1) 1 (Yh _) QO),bS (beq_iff_eq.mpr (yS (mK b)))];show(1+(n-1),p)=(n,p)
 grind
theorem HV(L:lD n lt)(g:Good n p)(u:k<n)(j:Sd lt p k):∀f l r,l<=r->r<=k->r-l<=f->(∀i,i<l->lt (p.getD i 0) (p.getD k 0)=ar)->(∀i,r<=i->i<k->lt (p.getD k 0) (p.getD i 0)=ar)->
  Run lt (kas_place p k f l r)<=k/\(∀i,i<Run lt (kas_place p k f l r)->lt (p.getD i 0) (p.getD k 0)=ar)/\∀i,Run lt (kas_place p k f l r)<=i->i<k->lt (p.getD k 0) (p.getD i 0)=ar
 |0,l,r,v,a,x,q,o=>⟨by show l<=k;exact eL v a,q,λi (b:l<=i) d=>o i QO d⟩
 |f+1,l,r,v,a,x,q,o=>by
  rw[kas_place];by_cases c:l≥r
  ·rw[bS c];exact⟨by show l<=k;exact eL v a,q,λi (b:l<=i) d=>o i (eL c b) d⟩
  ·rw[bt c];have w:l<=(l+r)/2:=QO
   have h:(l+r)/2<r:=QO
   generalize(l+r)/2=m at w h;have y:Run lt (KasT.ask (p.getD k 0) (p.getD m 0) λc=>if c=ar then kas_place p k f l m else kas_place p k f (m+1) r)=Run lt (if lt (p.getD k 0) (p.getD m 0)=ar then kas_place p k f l m else kas_place p k f (m+1) r):=rfl;rw[y];by_cases s:lt (p.getD k 0) (p.getD m 0)=ar
   ·rw[bS s];refine HV L g u j f l m w (tr (i2 h a)) QO q λi b d=>?_;by_cases e:i=m;·rwa[e]
    ·exact L.trans _ _ _ (g.get _) (g.get _) (g.get _) s (j m i (fI b (Ne.symm e)) d)
   ·rw[bt s];have A:lt (p.getD k 0) (p.getD m 0)=a_:=by cases z:lt (p.getD k 0) (p.getD m 0) with|true=>exact absurd z s|false=>rfl
    have t:=L.Df _ _ (g.get k) (g.get m) (g.ne u (nA (nA h a) (ro u)) (Nat.ne_of_gt (i2 h a))) A;refine HV L g u j f (m+1) r (mK h) a QO (λi b=>?_) o;by_cases e:i=m;·rwa[e]
    ·exact L.trans _ _ _ (g.get _) (g.get _) (g.get _) (j i m (fI (gb b) e) (i2 h a)) t
theorem Ry(L:lD n lt):∀f (p:c8 Nat) k,Good n p->k+f=n->Sd lt p k->Good n (Run lt (kas_bin f p k))/\Sd lt (Run lt (kas_bin f p k)) n
 |0,p,k,g,e,d=>by
  have A:k=n:=e
  refine⟨g,?_⟩;rw[←A];exact d
 |f+1,p,k,g,e,d=>by
  have v:k<n:=QO
  obtain⟨a,b,c⟩:=HV L g v d k 0 k (Yx _) (Yh _) (mR _) (λi w=>absurd w (Wr _)) (λi D C=>QO);have y:Run lt (kas_bin (f+1) p k)=Run lt (kas_bin f (bubble p k (k-Run lt (kas_place p k k 0 k))) (k+1)):=by
   rw[kas_bin,Run.bind]
  rw[y];generalize Run lt (kas_place p k k 0 k)=l at a b c;have x:Good n (bubble p k (k-l)):=⟨g.1,(bubble_perm p k _).trans g.2⟩;have sz:=g.size;have get:∀i,(bubble p k (k-l)).getD i 0=if i=l then p.getD k 0 else if l<i/\i<=k then p.getD (i-1) 0 else p.getD i 0:=λi=>by
   have h:=getElem?_bubble (xs:=p) (src:=k) QO (k-l) (Nat.sub_le _ _) i;rw[show k-(k-l)=l by omega] at h;rw[Wf,h];by_cases z:i=l;·rw[bS z,bS z,←Wf]
   ·rw[bt z,bt z];by_cases m:l<i/\i<=k;·rw[bS m,bS m,←Wf]
    ·rw[bt m,bt m,←Wf]
  refine Ry L f _ (k+1) x QO λi j t B=>?_;rw[get i,get j];by_cases s:i=l
  ·rw[bS s,bt QO,bS QO];exact c (j-1) QO QO
  ·rw[bt s];by_cases r:l<i/\i<=k
   ·rw[bS r,bt QO,bS QO];exact d (i-1) (j-1) QO QO
   ·rw[bt r];have u:i<l:=QO
    by_cases q:j=l;·rw[bS q];exact b i u
    ·rw[bt q];by_cases o:l<j/\j<=k
     ·rw[bS o];exact d i (j-1) QO QO
     ·rw[bt o];exact d i j t QO
def Ze4(L:lD n lt)(h:0<n):Good n (Run lt (kas_sort n))/\Sd lt (Run lt (kas_sort n)) n:=by
 obtain⟨a,b,c,d⟩:=Zd1 L ⟨h,vl _⟩;have e:Run lt (kas_sort n)=Run lt (if(Run lt (kas_count n (List.toArray (List.range n)))).1<n then kas_bin (n-max (Run lt (kas_count n (List.toArray (List.range n)))).1 1) (Run lt (kas_count n (List.toArray (List.range n)))).2 (max (Run lt (kas_count n (List.toArray (List.range n)))).1 1) else KasT.ret (Run lt (kas_count n (List.toArray (List.range n)))).2):=by
  unfold kas_sort;rw[Run.bind]
 rw[e];generalize Run lt (kas_count n (List.toArray (List.range n)))=r at a b c d;have f:max r.1 1=r.1:=QO
 by_cases z:r.1<n
 ·rw[bS z,f];exact Ry L _ _ _ a (yS d) b
 ·rw[bt z];have:r.1=n:=(ic d (fU z))
  refine⟨a,?_⟩;rw[this] at b;exact b
end
def jI(p q:Int×Int):Prop:=p.1<q.1\/(p.1=q.1/\p.2<q.2)
def ltB(p q:Int×Int):cm:=if p.1=q.1 then decide (p.2<q.2) else decide (p.1<q.1)
def ltB_iff:ltB p q=ar↔jI p q:=by
 unfold ltB jI
 (split<;>simp_all)
def lH(a:Z (Int×Int))(i j:Nat):cm:=ltB (a.getD i (0,0)) (a.getD j (0,0))
theorem Zil(d:c.Nodup):lD c.length (lH c):=by
 have n:∀{p q:Int×Int},ltB p q=a_->¬jI p q:=λ{p q} h z=>by rw[ltB_iff.mpr z] at h;cases h
 refine⟨λi j k _ _ _ m l=>?_,λi j g f ne h=>?_,λi j _ _ h=>?_⟩
 ·have a:=ltB_iff.mp m;have b:=ltB_iff.mp l;refine ltB_iff.mpr ?_;unfold jI at*;omega
 ·refine ltB_iff.mpr ?_;have a:=n h;have e:c.getD i (0,0)≠c.getD j (0,0):=by
   rw[Yr,Yr,Yc g,Yc f];have o:=W5.mp d
   grind
  have r:¬((c.getD i (0,0)).1=(c.getD j (0,0)).1/\(c.getD i (0,0)).2=(c.getD j (0,0)).2):=λz=>e (Prod.ext z.1 z.2);unfold jI at*;omega
 ·cases z:lH c j i with
  |false=>rfl
  |true=>
   have a:=ltB_iff.mp h;have b:=ltB_iff.mp z;unfold jI at a b;omega
def tU(h:cS)(b:Z a7)(c:Z (Int×Int)):Prop:=Paired (λv (p:Int×Int)=>∃(a:U) (o:Obj) (n:Nat) (t u:Tok),v=.ref a/\h.get? a=O o/\o.cls=.type "tuple"/\o.data=.seq #[.int p.1 t,.int p.2 u] n) b c
theorem tU.iC(q:tU h vs b):BG h vs:=by
 intro v a;induction q with
 |nil=>cases a
 |cons f _ c=>grind
def F6{c a:Type}{F:c->a->Prop}{d:Z c}{g:Z a}(h:Paired F d g){i:Nat}(j:i<d.length)(x:c)(y:a):F (d.getD i x) (g.getD i y):=by
 obtain⟨b,e,f⟩:=fY h (Yc j)
 simp_all
section
variable {X:c9}{w:cX}{A:d_}{E:bb}{s:bU}
def Ze5(f:tU s.heap d e)(x:i<d.length)(v:j<d.length)(b:C (lH e i j) s):kas_ask X w A (tuples' ar) d i j C s:=by
 unfold kas_ask;obtain⟨a,o,n,t,u,B,y,I,g⟩:=F6 f x Value.none (0,0);obtain⟨J,F,G,m,l,k,r,H,h⟩:=F6 f v Value.none (0,0);unfold lH at b;rw[B,k];generalize e.getD i (0,0)=p at b g;generalize e.getD j (0,0)=q at b h;refine kat_lt y g r h ?_;unfold ltB at b;refine kat_cons (r_ p.1 t q.1 m X w _ _ (kat_go (λc=>kat_yes (kat_cons (r_ p.2 u q.2 l X w _ _ (kat_go (λD=>kat_yes (kat_nil ?_)) λD=>kat_no ?_)))) λc=>kat_no ?_));·simp_all
 ·rw[bS (beq_iff_eq.mp c)] at b;exact kat_one _ _ (lt_int b)
 ·rw[bt (λz=>by rw[beq_iff_eq.mpr z] at c;cases c)] at b;exact kat_lt_int b
def Zim
  (k:∀c:SortSt,arrOf c=(List.toArray (List.range 64)).map (kas_item it)->failedOf c=aF->Q () c s)
  (h:(kas_count 64 (List.toArray (List.range 64))).kasWp (kas_cmp X w A a it) (λr d=>r=(64,List.toArray (List.range 64))/\d=s) s):kasC (model X w) A E sortRuns' Q (kas_st a it (List.toArray (List.range 64))) s:=by
 have g:(List.toArray (List.range 64)).size=64:=rfl;have b:(arrOf (kas_st a it (List.toArray (List.range 64)))).size=64:=(WW (f:=kas_item it)).trans g;have i:minRun' 64 64 0=32:=QK
 rw[sortRuns'_eq];refine kasC_bind (kasC_get ?_);(try dsimp only);simp only[b,i];refine kasC_bind (kasC_range ?_);show kasC _ _ _ (forIn (0::1::List.range' 2 62) _ _) _ _ _;refine kasC_cons ?_;(try dsimp only);rw[bt (show ¬(0:Nat)≥64 by decide)];simp only[Nat.sub_zero];refine kasC_bind (kas_count_ (show 1<=64 by decide) (CY g.symm) (λm l d _ _ _ j=>?_) h);obtain⟨e,rfl⟩:=j;cases e;(try dsimp only);rw[bt (show ¬(64:Nat)<32 by decide)];refine kasC_bind (kasC_get ?_);rw[show(pendingOf (kas_st a it (List.toArray (List.range 64)))).back?=aF from rfl];(try dsimp only);refine kasC_bind (kasC_modify (kasC_pure ?_));show kasC _ _ _ (forIn (1::List.range' 2 62) _ _) _ _ _;refine kasC_cons ?_;(try dsimp only);rw[bS (show(0:Nat)+64≥64 by decide)];refine kasC_pure ?_;(try dsimp only);refine kasC_bind (kasC_range ?_);show kasC _ _ _ (forIn (0::1::List.range' 2 62) _ _) _ _ _;refine kasC_cons ?_;refine kasC_bind (kasC_get ?_);(try dsimp only);rw[bS (show(pendingOf (setPending (kas_st a it (List.toArray (List.range 64))) ((pendingOf (kas_st a it (List.toArray (List.range 64)))).push (0,64,0)))).size<=1 from Yh 1)];refine kasC_pure ?_;(try dsimp only);exact kasC_pure (k _ rfl rfl)
def ZaV{R:c8 Nat->Prop}{a:U}{vs:Z a7}{n:Nat}{P:PySem.Fin->bU->Prop}(m:s.heap.get? a=O (seqObj "list" vs.toArray n))(iF:vs.length<=64)
  (J:2<=vs.length->∀j:cS,(∀b o,b≠a->s.heap.get? b=O o->j.get? b=O o)->∃t:SortKind,(∀(Q:SortKind->bU->Prop),Q t {s with heap:=j}->wpAny (model X w) A (keyKind' vs.toArray) Q E {s with heap:=j})/\
   ∀C:SortSt->bU->Prop,(∀(p:c8 Nat) (d:SortSt),p.size=vs.length->arrOf d=p.map (kas_item (vs.toArray.zip vs.toArray))->failedOf d=aF->Good vs.length p->R p->C d {s with heap:=j})->wpAny (model X w) A (sortRuns'.run (SortSt.mk' t (vs.toArray.zip vs.toArray) #[] 7 aF)) (λr l=>C r.2 l) E {s with heap:=j})
  (h:∀out:Z a7,out.Perm vs->(2<=vs.length->∃p:c8 Nat,Good vs.length p/\R p/\out=p.toList.map λi=>vs.getD i Value.none)->P (.done (.ret .none)) {s with heap:=sortedHeap s.heap a vs out.toArray}):
  wpAny (model X w) A (Builtin.«list.sort» ⟨[.ref a],[]⟩) P E s:=by
 rw[list_sort_plain];have x:a<s.heap.objs.size:=Yu m;refine bg (listItems_at m rfl ?_);refine bg (listUpdate_at m rfl ?_);obtain⟨k,D⟩:∃k,(s.heap.update a (Obj.mapSeq λ_=>#[])).get? a=O (seqObj "list" #[] k):=⟨_,get?_update_seq m (λ_=>#[])⟩;refine bg (seqEpoch_at D rfl ?_);refine bg (wpAny_newTuple ?_);refine bg (sW ?_);refine iG ?_;have q:(((s.heap.update a (Obj.mapSeq λ_=>#[])).push (seqObj "tuple" vs.toArray 0)).push (seqObj "list" #[] 0)).get? a=O (seqObj "list" #[] k):=by
  rw[J8 _ _ _ (by rw[size_push',Pw];exact Y0 (Wv x)),J8 _ _ _ (by rw[Pw];exact Y0 x)];exact D
 have keep:∀b o,b≠a->s.heap.get? b=O o->(((s.heap.update a (Obj.mapSeq λ_=>#[])).push (seqObj "tuple" vs.toArray 0)).push (seqObj "list" #[] 0)).get? b=O o:=λb o F e=>
  Yb _ (Yb _ (by rw[WZ _ _ _ _ F];exact e))
 dsimp only;have I:vs.toArray.size=vs.length:=QS
 by_cases f:vs.toArray.size<2
 ·rw[bS f,bS f];refine bg (cG ?_);rw[StateT.run_pure];refine bg (cG ?_);dsimp only;refine bg (seqEpoch_at q rfl ?_);refine bg (listUpdate_at q rfl ?_ (hsz2:=by rw[WW];show(pairsOf vs).size<=_;rw[pairsOf_size,dg];exact k8 iF (by decide)));simp only[uR,K9,xp];have e:(arrOf (SortSt.mk' general' (vs.toArray.zip vs.toArray) #[] 7 aF)).map (·.2)=vs.toArray:=by
   grind
  have:=h vs (qd _) (λz=>QO);rw[←e] at this;exact cG this
 ·rw[bt f,bt f];have H:2<=vs.length:=(fU f)
  obtain⟨t,G,v⟩:=J H _ keep;refine bg (G _ ?_);refine bg (dD (v (λd l=>l={s with heap:=((s.heap.update a (Obj.mapSeq λ_=>#[])).push (seqObj "tuple" vs.toArray 0)).push (seqObj "list" #[] 0)}/\∃p:c8 Nat,p.size=vs.length/\arrOf d=p.map (kas_item (vs.toArray.zip vs.toArray))/\failedOf d=aF/\R p/\Good vs.length p) λp d a1 a2 a3 W T=>⟨rfl,p,a1,a2,a3,T,W⟩) ?_ λ_ _ e=>e);rintro⟨⟨⟩,d⟩ l ⟨rfl,p,hp,u,L,N,g⟩;dsimp only;have B:=kat_snds rfl u;have c:(p.toList.map λi=>vs.getD i Value.none).Perm vs:=by
   have k:p.toList.Perm (List.range vs.length):=by
    have:=Xi.mp g.2;simpa using this
   have y:=k.map λi=>vs.getD i Value.none;rw[range_getD] at y;exact y
  refine bg (seqEpoch_at q rfl ?_);refine bg (listUpdate_at q rfl ?_ (hsz2:=by rw[B,Yt,c.length_eq,dg];exact k8 iF (by decide)));rw[L];simp[uR,K9,xp];have:=h _ c (λ_=>⟨p,g,N,rfl⟩);rw[←B] at this;exact cG this
def Ze6(h:b.Pairwise jI):Sd (lH b) (List.toArray (List.range b.length)) b.length:=λi j c a=>by
 have e:∀k,k<b.length->(List.toArray (List.range b.length)).getD k 0=k:=λk d=>by
  simp_all
 rw[e i (pz c a),e j a];refine ltB_iff.mpr ?_;rw[Yr,Yr,Yc (pz c a),Yc a];exact W5.mp h i j (pz c a) a c
def Zjs{m:SortSt->bU->Prop}(y:c.length=64)(u:c.length=f.length)(L:lD c.length (lH f))(t:f.Pairwise jI)(g:∀i j (C:cm->bU->Prop),i<c.length->j<c.length->C (lH f i j) s->kas_ask X w A h c i j C s)
  (x:∀(p:c8 Nat) (d:SortSt),p.size=c.length->arrOf d=p.map (kas_item (c.toArray.zip c.toArray))->failedOf d=aF->Good c.length p->Sd (lH f) p c.length->m d s):wpAny (model X w) A (sortRuns'.run (SortSt.mk' h (c.toArray.zip c.toArray) #[] 7 aF)) (λr e=>m r.2 e) E s:=by
 have l:Good c.length (List.toArray (List.range c.length)):=⟨QO,vl _⟩;have q:Sd (lH f) (List.toArray (List.range c.length)) c.length:=by rw[u];exact Ze6 t
 rw[kat_ask_eq rfl] at g;have k:(c.toArray.zip c.toArray).size=c.length:=QS
 have v:SortSt.mk' h (c.toArray.zip c.toArray) #[] 7 aF=kas_st h (c.toArray.zip c.toArray) (List.toArray (List.range c.length)):=by
  unfold kas_st;rw[←k,kas_range]
 rw[v];have n:=eV.run (G:=λr e=>r=(c.length,List.toArray (List.range c.length))/\e=s) g (OG l) ⟨(Zd2 L l q),rfl⟩;have o:=λd a b=>x _ d QS a b l q;rw[y] at n o⊢;exact Zim (Q:=λ_ d e=>m d e) o n
def Zbg(ho:s.heap.get? l=O o)(hc:o.cls=.type "list")(hd:o.data=.seq au.toArray n)(N:tU s.heap au ps)(nd:ps.Nodup)(iF:au.length<64\/(au.length=64/\ps.Pairwise jI))(q:au.toArray.size<=sizeLine)
  (h:∀(d c:cS) (out:Z a7) (e:Nat),(∀b o,s.heap.get? b=O o->d.get? b=O o)->(∀b o,d.get? b=O o->c.get? b=O o)->c.get? d.objs.size=O (seqObj "list" out.toArray e)->out.Perm au->(2<=au.length->∃p:c8 Nat,Good au.length p/\Sd (lH ps) p au.length/\out=p.toList.map λi=>au.getD i Value.none)->Q (.ref d.objs.size) {s with heap:=c}):
  wpAny (model X w) A (call (.builtin "sorted") [.ref l]) Q E s:=by
 refine uy kind_sorted plain_sorted entry_sorted (args_sorted1 _) ?_;unfold Builtin.«sorted»;refine bg (m:=checkCount "sorted" 1 1 _) (cG ?_);refine bg (Lh l (.inl rfl) ho hc hd (λd H=>?_) q);refine bg (sW ?_);have e1:au.toArray.toList=au:=QS
 rw[e1];have f:(d.push (seqObj "list" au.toArray 0)).get? d.objs.size=O (seqObj "list" au.toArray 0):=Yv _ rfl;refine bg (iG (n_ slot_list_sort ⟨_,f,rfl⟩ entry_list_sort (ZaV (R:=λp=>Sd (lH ps) p au.length) f QO (λr c k=>?_) λout pm eo=>⟨_,rfl,?_⟩) (args_list_sort _)))
 ·have z:tU c au ps:=L2.Paired.bu N λv p ⟨a,o,n,t,u,e,q1,W,P⟩=>by
   have J:=H _ _ q1;exact⟨a,o,n,t,u,e,k _ _ (Y0 (Yu J)) (Yb _ J),W,P⟩
  obtain⟨fs,k1,k2,k3⟩:=z.iC.Xh;have F:=cZ z;have ask:∀(B:d_) i j (C:cm->bU->Prop),i<au.length->j<au.length->C (lH ps i j) {s with heap:=c}->kas_ask X w B (tuples' ar) au i j C {s with heap:=c}:=λB i j C hi hj hC=>Ze5 (s:={s with heap:=c}) z hi hj hC;have L:=Zil nd;rw[←F] at L;refine⟨tuples' ar,λQ hQ=>?_,λQ' Mx=>?_⟩
  rotate_left
  ·rcases iF with lt|⟨Mw,pw⟩
   ·obtain⟨g,sd⟩:=Ze4 L (i2 (rn _) r);refine kat_run (G:=λp D=>D={s with heap:=c}/\p=Run (lH ps) (kas_sort au.length)) rfl r lt (λp aO D a1 a2 a3 a4=>?_) (eV.run (ask _) (ZdZ (i2 (rn _) r)) ⟨rfl,rfl⟩)
    grind
   ·exact Zjs Mw F L pw (ask _) Mx
  refine kat_kind (T:=.type "int") k1 QO (λv hv=>?_) QD hQ;obtain⟨x,t,rfl⟩:=k3 v hv;exact .now
 ·obtain⟨e,he⟩:=sortedHeap_at f;exact cG ⟨_,rfl,h d _ out e H (λb ob I=>by
   have y:=Yu I;rw[sortedHeap_old (Y0 y) (by rw[size_push'];exact Wv y),J8 _ _ _ (Y0 y)];exact I) he pm eo⟩
end
def Ze7(K:ah):Z V->Hp->VK->Prop:=λe H Q=>∃(p:U) (b:Z U) (bX:Z (Int×Int)),e=[.ref p]/\aq K H p (b.map V.ref)/\Paired (λa (p:Int×Int)=>H a=O (.tup [.int p.1,.int p.2])) b bX/\bX.Nodup/\(b.length<64\/(b.length=64/\bX.Pairwise jI))/\
 ∀(d:Z U) (c:Z (Int×Int)),Paired (λa (p:Int×Int)=>H a=O (.tup [.int p.1,.int p.2])) d c->c.Perm bX->c.Pairwise jI->Nw H (.lst (d.map V.ref)) Q
theorem Od:∀{a:Z c},(∀z∈a,F (f z) (g z))->Paired F (a.map f) (a.map g)
 |[],_=>.nil
 |z::a,h=>.cons (h z Yg) (Od λz b=>h z (Yw _ b))
theorem Ze8{K:ah}(hK:X.K=K):df X (.builtin "sorted") (Ze7 K):=by
 subst hK;intro l s L H xs us Q I r h;obtain⟨p,b,bX,rfl,hq,v,nd,iF,q⟩:=h;obtain⟨u,rfl,T⟩:=vals1 r;cases T;obtain⟨au,r',pl,D⟩:=I.list hq;obtain⟨o,n,ho,hc,_,hd⟩:=pl;have ei:=Pf r';subst ei;rw[Ya] at D;have t:=cZ v;have R:tU s.heap (b.map Value.ref) bX:=by
  have x:∀{b:Z U} {bX:Z (Int×Int)},Paired (λa (p:Int×Int)=>H a=O (.tup [.int p.1,.int p.2])) b bX->tU s.heap (b.map Value.ref) bX:=λ{b bX} h=>by
   induction h with
   |nil=>exact .nil
   |cons w _ ih=>
    refine .cons ?_ ih;obtain⟨jg,W,⟨o2,g1,g2,n2,g3⟩,_⟩:=I.tuple (aB.of w);obtain⟨u1,u2,rfl,⟨t1,rfl⟩,⟨t2,rfl⟩⟩:=vals2 W
    simp_all
  exact x v
 refine Zbg (ps:=bX) ho hc hd R nd (by rwa[Ya]) (by rw[Yt,Ya];exact D) λw h' out e kp N he k f=>?_;have J:Inv X l L H {s with heap:=w}:=I.kept (t':=s.toks) kp;obtain⟨d,m,y,C,B,pw⟩:∃(d:Z U) (m:Z (Int×Int)),out=d.map Value.ref/\Paired (λa (p:Int×Int)=>H a=O (.tup [.int p.1,.int p.2])) d m/\m.Perm bX/\m.Pairwise jI:=by
  by_cases z:2<=(b.map Value.ref).length
  ·have f:=f z;rw[Ya] at f z;obtain⟨P,g,A,f⟩:=f;rw[t] at g A;have G:P.toList.Perm (List.range bX.length):=by
    have:=Xi.mp g.2;simpa using this
   have F:∀i∈P.toList,i<bX.length:=λi c=>Wn.mp (G.subset c);refine⟨P.toList.map λi=>b.getD i 0,P.toList.map λi=>bX.getD i (0,0),?_,Od λi c=>F6 v (by exact t▸F i c) 0 (0,0),?_,?_⟩
   ·rw[f,Y6];refine W3 λi c=>?_;have:=F i c;show(b.map Value.ref).getD i Value.none=Value.ref (b.getD i 0);rw[Yr,Yi,Yc QO,Yr,Yc QO];rfl
   ·have:=G.map λi=>bX.getD i (0,0);rw[range_getD] at this;exact this
   ·rw[Jc,W5];intro i j c E lG;have sz:=g.size;have gi:P.toList[i]=P.getD i 0:=by
     rw[Wm] at c;simp_all
    have gj:P.toList[j]=P.getD j 0:=by
     rw[Wm] at E;simp_all
    rw[gi,gj];rw[Wm] at E;exact ltB_iff.mp (A i j lG QO)
  ·rw[Ya] at z;have eq:out=b.map Value.ref:=by
    match b,out,z,k with
    |[],out,_,k=>exact List.Perm.eq_nil k
    |[a],out,_,k=>exact List.Perm.eq_singleton k
    |_::_::_,_,z,_=>exact absurd QS z
   refine⟨b,bX,eq,v,qd _,?_⟩;match bX,t with
   |[],_=>exact .nil
   |[a],_=>exact Xn _ _
   |_::_::_,t=>exact absurd t (by simp;omega)
 refine⟨.ref w.objs.size,_,J.laid (o:=.lst (d.map V.ref)) N (Yh _) ⟨?_,out,e,by rw[y];exact Pg d,by simpa[seqObj] using he⟩,rfl,(q d m C B pw).at _ (J.ay.fresh (Yh _))⟩;rw[Ya,cZ C,B.length_eq];exact J1 (kG QO)
end L2
namespace L2
open PySem PySem.Spec PyProof.Rows
def j9{K:ah}(h:X.K=K)(p:PE X ex (zo X.K T r to t)):PE X ex (zo K T r to t):=h▸p
def Zgv{K:ah}(h:X.K=K)(p:PE X ex (K7 X.K T r to)):PE X ex (K7 K T r to):=h▸p
def yb{X:Cx}{K:ah}{a:cu}{d:TE}(h:X.K=K)(p:PT X a (λc H Q=>d c H λx b=>∃k,B3 X.K x b k/\Q k b)):PT X a (λc H Q=>d c H λx b=>∃k,B3 K x b k/\Q k b):=h▸p
def Rz{K:ah}(h:X.K=K)(p:cJ X f (Cb X.K b)):cJ X f (Cb K b):=h▸p
def qi(a:Hp)(d:U):Prop:=(∀b,a d≠O (.tup b))/\(∀o u,a d≠O (.cH o u))/\∀c,a d≠O (.rT c)
def Inv.UC(I:Inv X pins σ H s)(e:H d=O (.dK c)):qi X.mD d:=
 ⟨(λa z=>by have:=I.base.iC d a z;rw[e] at this;cases this),(λo u z=>by have:=I.base.iO d o u z;rw[e] at this;cases this),(λb z=>by obtain⟨m,h⟩:=I.base.jd d b z;rw[e] at h;cases h)⟩
def Inv.swap(I:Inv X pins σ H s)(e:H d=O o)(i:qi X.mD d)(y:∀a,o≠.own a)(w:∀f,o≠.tup f)(C:cQ X.prog X.w H s.heap d o'):Inv X pins σ (upd H d o') s:=by
 have iN:∀{a:U} {o1:HO},cQ X.prog X.w H s.heap a o1->cQ X.prog X.w (upd H d o') s.heap a o1:=λ{a o1} x=>x.iN (λ_ _ _ z=>z)
  (λb z=>by rw[aN (λq=>y a (Yo (e.symm.trans (by rw[←q];exact z))))];exact z)
  (λb f z=>by rw[aN (λq=>w f (Yo (e.symm.trans (by rwa[←q]))))];exact z)
 have ne:∀{b:U},H b=aF->b≠d:=λ{b} l z=>by rw[z,e] at l;cases l
 refine⟨I.ok,I.os,I.bare,⟨I.base.keep,I.base.slot,λb g q n A=>?_,I.base.there,λb f q=>?_,λb g u q=>?_,λb k q=>?_⟩,I.loc,I.cell,?_,λx c m=>?_,λp B=>?_,λa o1 j=>?_,I.len⟩
 ·have h:=I.base.free b g q n A;rwa[aN (ne h)]
 ·rw[aN (λz=>i.1 f (by rwa[←z]))];exact I.base.iC b f q
 ·rw[aN (λz=>i.2.1 g u (by rwa[←z]))];exact I.base.iO b g u q
 ·rw[aN (λz=>i.2.2 k (by rwa[←z]))];exact I.base.jd b k q
 ·rw[aN (ne I.free)];exact I.free
 ·rw[aN (ne (I.iM x c m))];exact I.iM x c m
 ·obtain⟨v,t,r⟩:=I.pin p B;exact⟨v,by rwa[aN (ne t)],r⟩
 ·by_cases z:a=d
  ·subst z;rw[aT] at j
   grind
  ·rw[aN z] at j;exact iN (I.ay a o1 j)
def Zjt(h:(dO P w).is k u=ar):RelV (kV k) u:=by
 rcases mV h with⟨i,t,rfl,rfl⟩|⟨x,t,rfl,rfl⟩;·exact⟨t,rfl⟩
 ·exact⟨t,rfl⟩
def Tc:∀{a:Z (Key×V)} {b:Z (Key×a7)} {i:Nat} {k:Key} {y:V},KV a b->a[i]?=O (k,y)->∃v,b[i]?=O (k,v)/\RelV y v:=λ{a b i k y} r h=>by
 obtain⟨q,e,d,c⟩:=fY r h
 grind
def BH(I:Inv X pins σ H s)(e:H d=O (.cH f (.dK c)))(h:f.data=.dict m ep):∃a,KV c a/\s.heap.DictAt (dO X.prog X.w) d a ep:=by
 obtain⟨g,_,_,a,b,o,p,n,j,l,i,k⟩:=(I.ay d _ e);rw[g] at j;cases j;rw[h] at i;cases i;exact⟨a,b,f,m,g,l,h,k⟩
def Inv.Cc(I:Inv X pins σ H s)(c:qi X.mD d)(e:H d=O (.cH g (.dK b))):Inv X pins σ (upd H d (.dK b)) s:=
 I.swap e c (λa z=>by cases z) (λf z=>by cases z) (I.ay d _ e).2
def MA(d:U)(b:Obj)(a:Z (Key×V)):It:=⟨λi H=>H d=O (.cH b (.dK a))/\i<a.length,λi H v c=>c=H/\∃k y,a[i]?=O (k,y)/\v=kV k,λi H=>H d=O (.cH b (.dK a))/\a.length<=i⟩
theorem Zd3{P:c9}{w:cX}{K:ah}{tg:cu}(it d:U)(G:Obj)(es:c8 DictEntry)(T:Nat)(J:G.data=.dict es T)(a:Z (Key×V)):Turn P w K tg (MA d G a) [it] it (λi h=>h.IsKeyIter it d i a.length T) where
 mem:=QS
 obj:=λi h st b q=>by
  have e:b=it:=by simpa using q
  obtain⟨o,e,c,W⟩:=st
  grind
 keep:=λi h R st k=>let⟨o,e,r⟩:=st;⟨o,k it QS o e,r⟩
 item:=by
  intro X t n u N i g s σ H E I l st p;subst t n u;obtain⟨D,C,f2,B,z,x⟩:=l it QS;obtain⟨m,bK⟩:=p;obtain⟨vs,f,F⟩:=BH I m J;have j:=f.length;obtain⟨k,y,L⟩:∃k y,a[i]?=O (k,y):=⟨a[i].1,a[i].2,Yc bK⟩;obtain⟨v,hv,ry⟩:=Tc f L;rw[j] at st;refine wpAny_pyNext_dict_item st F hv λkey R oM aO sb=>?_;obtain⟨o,e,c,W⟩:=id aO;exact⟨_,rfl,tQ e c W QD ⟨kV k,H,(I.turned (sb.extBut) D C B z x),Zjt oM,⟨rfl,k,y,L,rfl⟩,by rw[j];exact aO,λb q=>(l b q).1⟩⟩
 done:=by
  intro X t n u N i g s σ H E I l st p;subst t n u;obtain⟨D,C,f2,B,z,x⟩:=l it QS;obtain⟨m,hle⟩:=p;obtain⟨vs,f,F⟩:=BH I m J;have j:=f.length;rw[j] at st;exact wpAny_pyNext_dict_end (I.ok.hd N) st F (Y4 QO) λR eb=>⟨rfl,I.turned (eb) D C B z x⟩
 self:=λA i s Q E st h=>wpAny_pyIter_keyiter st h
def KJ(g:Hp)(f:TE):TI:=λe H R=>f e H λx c=>∃d a,x=.ref d/\c d=O (.dK a)/\∀b,qi g d->R (MA d b a) (upd c d (.cH b (.dK a)))
def Zgw(L:X.mD=H0)(G:PE X l D):PI X tg l (KJ H0 D):=by
 subst L;intro c s n H R I h;refine az (G c s n H _ I h) λv g y=>?_;obtain⟨x,Q,j,E,d,f,N,hd,q⟩:=y;subst N;obtain rfl:v=Value.ref d:=E;obtain⟨T,A,C,k,P⟩:=oH j.ay hd;obtain⟨i,t,u,m,F,r,B⟩:=id P;have p:=j.UC hd;refine wpAny_pyIter_dict A ⟨i,t,m,F,r,B⟩ ?_;have w:Inv X c n Q {g with heap:=g.heap.push {cls:=.type "dict_keyiterator",data:=.fields #[.ref d,.int 0 0,.int C.length 0,.int u 0]},toks:=g.toks}:=j.kept λb o e=>Yb _ e;refine⟨g.heap.objs.size,[g.heap.objs.size],_,MA d i f,_,rfl,(w.swap (o':=.cH i (.dK f)) hd p (λa z=>by cases z) (λW z=>by cases z) ⟨Yb _ m,(w.ay d _ hd)⟩),Zd3 _ d i t u r f,⟨_,Yv _ rfl,rfl,by rw[k.length];rfl⟩,λb J=>?_,q i p⟩;have e:b=g.heap.objs.size:=by simpa using J
 subst e;exact j.rJ (Yh _) (by rw[aN (Js (Yu m))];exact j.ay.fresh (Yh _))
def UD(e:Hp)(h:TE)(g:TG)(i:TS):TS:=λD f H=>K2 (KJ e h) g i ⟨λj b=>∃d c a,qi e d/\b d=O (.cH c (.dK a))/\D.nx j (upd b d (.dK a)),λv b=>∃d c a,qi e d/\b d=O (.cH c (.dK a))/\D.rt v (upd b d (.dK a)),λ_ _=>False,λ_ _=>False⟩ f H
theorem ZcR(C:X.mD=H0)(w:PassesOwn X.md X.A X.env X.xe)(A:X.calm=ar)(y:PI X k l (KJ H0 n))(z:PG X k g)(B:fR X body o)(t:∀x,foldedSetIterable l X.env x=pure x:=by intro _;rfl):PS X (.For k l body [] pos) (UD H0 n g o):=by
 subst C;intro a s m H D I h;refine az (dE w A y z B t a s m H _ I h) λf F q=>?_;cases f with
 |next=>obtain⟨i,E,j,d,p,c,b,e,q⟩:=q;exact⟨i,_,j.Cc b e,q⟩
 |brk=>obtain⟨_,_,_,q⟩:=q;exact False.elim q
 |cont=>obtain⟨_,_,_,q⟩:=q;exact False.elim q
 |ret u=>obtain⟨v,i,E,j,r,d,p,c,b,e,q⟩:=q;exact⟨v,i,_,j.Cc b e,r,q⟩
def Ze9(E:∀R:VK,R (.ref d) H1->r σ H R)(C:H1 d=O (.dK kvs))(n:Nat->St->Hp->Prop)
  (v:∀b,n 0 σ (upd H1 d (.cH b (.dK kvs))))
  (z:∀b i k y j h (N:St->Hp->Prop) (t:VK) (bk:St->Hp->Prop),kvs[i]?=O (k,y)->n i j h->h d=O (.cH b (.dK kvs))->(∀l f,n (i+1) l f->f d=O (.cH b (.dK kvs))->N l f)->g (kV k) j h λG L=>s ⟨N,t,bk,N⟩ G L)
  (I:∀b j h,n kvs.length j h->h d=O (.cH b (.dK kvs))->D.nx j (upd h d (.dK kvs))):UD P r g s D σ H:=by
 refine E _ ⟨d,kvs,rfl,C,λb w=>⟨λi m j h=>m=kvs.length-i/\i<=kvs.length/\n i j h/\h d=O (.cH b (.dK kvs)),⟨kvs.length,(Nat.add_zero _),Yx _,v b,aT⟩,?_⟩⟩;rintro i m j h ⟨rfl,B,p,o⟩;by_cases q:i<kvs.length
 ·refine .inr ⟨⟨o,q⟩,λl f=>n (i+1) l f/\f d=O (.cH b (.dK kvs)),λl f T=>by obtain⟨a,c⟩:=T;exact⟨kvs.length-(i+1),QO,rfl,q,a,c⟩,?_⟩;rintro x J ⟨rfl,k,y,A,rfl⟩;exact z b i k y j J (λl f=>n (i+1) l f/\f d=O (.cH b (.dK kvs))) _ _ A p o λl f u F=>⟨u,F⟩
 ·have e:i=kvs.length:=(ic B (fU q))
  subst e;exact .inl ⟨⟨o,Yh _⟩,d,b,kvs,w,o,I b _ _ p o⟩
theorem Zgx(r:KT H a xs):xs.map (·.1)=a.map (·.1):=by
 induction r with
 |nil=>rfl
 |cons f _ b=>simp_all
def Zgy:bootBuiltins "dict"=O (.type "dict"):=QK
def MB(d:U)(b:Obj)(a:Z (Key×V)):It:=⟨λi H=>H d=O (.cH b (.dK a))/\i<a.length,λi H v c=>c=H/\∃k,a[i]?=O (k,v),λi H=>H d=O (.cH b (.dK a))/\a.length<=i⟩
theorem Zd4{P:c9}{w:cX}{K:ah}{tg:cu}(it d:U)(G:Obj)(es:c8 DictEntry)(T:Nat)(J:G.data=.dict es T)(a:Z (Key×V)):Turn P w K tg (MB d G a) [it] it (λi h=>h.IsValIter it d i a.length T) where
 mem:=QS
 obj:=λi h st b q=>by
  have e:b=it:=by simpa using q
  obtain⟨o,e,c,W⟩:=st
  simp_all
 keep:=λi h R st k=>let⟨o,e,r⟩:=st;⟨o,k it QS o e,r⟩
 item:=by
  intro X t n u N i g s σ H E I l st p;subst t n u;obtain⟨D,C,f2,B,z,x⟩:=l it QS;obtain⟨m,bK⟩:=p;obtain⟨vs,f,F⟩:=BH I m J;have j:=f.length;obtain⟨k,y,L⟩:∃k y,a[i]?=O (k,y):=⟨a[i].1,a[i].2,Yc bK⟩;obtain⟨v,hv,ry⟩:=Tc f L;rw[j] at st;refine wpAny_pyNext_values_item st F hv λR aO sb=>?_;obtain⟨o,e,c,W⟩:=id aO;exact⟨_,rfl,tQ e c W QD ⟨y,H,(I.turned (sb.extBut) D C B z x),ry,⟨rfl,k,L⟩,by rw[j];exact aO,λb q=>(l b q).1⟩⟩
 done:=by
  intro X t n u N i g s σ H E I l st p;subst t n u;obtain⟨D,C,f2,B,z,x⟩:=l it QS;obtain⟨m,hle⟩:=p;obtain⟨vs,f,F⟩:=BH I m J;have j:=f.length;rw[j] at st;exact wpAny_pyNext_values_end (I.ok.hd N) st F (Y4 QO) λR eb=>⟨rfl,I.turned (eb) D C B z x⟩
 self:=λA i s Q E st h=>wpAny_pyIter_valiter st h
def KL(g:Hp)(f:TE):TI:=λe H R=>f e H λx c=>∃d a,x=.ref d/\c d=O (.dK a)/\∀b,qi g d->R (MB d b a) (upd c d (.cH b (.dK a)))
def Zgz{X:Cx}{H0:Hp}{Q:cu}{g F:Pos}{o:cu}{B:TE}(h0:X.mD=H0)(ho:PE X o B)(W:attributeBase o "values" X.env (eval o X.env)=eval o X.env:=by rfl)(T:(g.endLine==F.line)=ar:=by rfl):PI X Q (.Call (.Attribute o "values" g) [] [] F) (KL H0 B):=by
 subst h0;intro f s y H R I h;refine zC W T (az (ho f s y H _ I h) λv i L=>?_);obtain⟨x,H1,j,r1,d,c,ex,hd,q⟩:=L;subst ex;obtain rfl:v=Value.ref d:=r1;obtain⟨t1,t2,N⟩:=vT j (.inl ⟨c,.inl hd⟩);refine⟨"dict","dict.values",oz,zw,PySem.F.type_dict_values,t1,t2,k_ rfl (Di ?_)⟩;obtain⟨zz,_,A,m,u⟩:=oH j.ay hd;refine mh zw u.typeIs PySem.F.entry_dict_values (PySem.F.args_dict_values_1 _) (meets_dict_values (dO X.prog X.w) d N) ⟨⟨A,u⟩,?_⟩;obtain⟨k,E,r,n,hx,D,P⟩:=id u;have C:=j.UC hd;have l:∀b o,i.heap.get? b=O o->(i.heap.push {cls:=.type "dict_values",data:=.fields #[.ref d]}).get? b=O o:=λb o e=>Yb _ e;refine wpAny_pyIter_values (knd:=dO X.prog X.w) (d:=d) (ep:=r) ⟨_,Yv _ rfl,rfl,rfl⟩ ⟨k,E,l _ _ n,hx,D,P⟩ ?_;generalize hG:i.heap.push {cls:=.type "dict_values",data:=.fields #[.ref d]}=G at l⊢;have J:Inv X f y H1 {i with heap:=G.push {cls:=.type "dict_valueiterator",data:=.fields #[.ref d,.int 0 0,.int A.length 0,.int r 0]},toks:=i.toks}:=j.kept (t':=i.toks) λb o e=>Yb _ (l b o e);have p:=J.ay d _ hd;have I3:=J.swap (o':=.cH k (.dK c)) hd C (λa z=>by cases z) (λxs z=>by cases z) ⟨Yb _ (l _ _ n),p⟩;have w:i.heap.objs.size<=G.objs.size:=by rw[←hG,zk];exact yT _ _
 refine⟨G.objs.size,[G.objs.size],_,MB d k c,_,rfl,I3,Zd4 _ d k E r D c,⟨_,Yv _ rfl,rfl,by rw[m.length];rfl⟩,λb hb=>?_,q k C⟩;have e:b=G.objs.size:=by simpa using hb
 subst e;have t:=Yu n;exact j.rJ w (by rw[aN (Js (Y3 t w))];exact j.ay.fresh w)
def UE(e:Hp)(h:TE)(g:TG)(i:TS):TS:=λD f H=>K2 (KL e h) g i ⟨λj b=>∃d c a,qi e d/\b d=O (.cH c (.dK a))/\D.nx j (upd b d (.dK a)),λv b=>∃d c a,qi e d/\b d=O (.cH c (.dK a))/\D.rt v (upd b d (.dK a)),λ_ _=>False,λ_ _=>False⟩ f H
theorem ZcS(A:X.mD=H0)(t:PassesOwn X.md X.A X.env X.xe)(y:X.calm=ar)(w:PI X k (.Call (.Attribute o "values" apos) [] [] B) (KL H0 m))(x:PG X k g)(z:fR X body n):
  PS X (.For k (.Call (.Attribute o "values" apos) [] [] B) body [] pos) (UE H0 m g n):=by
 subst A;intro a s l H D I h;refine az (dE t y w x z (λ_=>rfl) a s l H _ I h) λf E q=>?_;cases f with
 |next=>obtain⟨i,C,j,d,p,c,b,e,q⟩:=q;exact⟨i,_,j.Cc b e,q⟩
 |brk=>obtain⟨_,_,_,q⟩:=q;exact False.elim q
 |cont=>obtain⟨_,_,_,q⟩:=q;exact False.elim q
 |ret u=>obtain⟨v,i,C,j,r,d,p,c,b,e,q⟩:=q;exact⟨v,i,_,j.Cc b e,r,q⟩
def Ze_(E:∀R:VK,R (.ref d) H1->r σ H R)(C:H1 d=O (.dK kvs))(n:Nat->St->Hp->Prop)
  (v:∀b,n 0 σ (upd H1 d (.cH b (.dK kvs))))
  (z:∀b i k y j h (N:St->Hp->Prop) (t:VK) (bk:St->Hp->Prop),kvs[i]?=O (k,y)->n i j h->h d=O (.cH b (.dK kvs))->(∀l f,n (i+1) l f->f d=O (.cH b (.dK kvs))->N l f)->g y j h λG L=>s ⟨N,t,bk,N⟩ G L)
  (I:∀b j h,n kvs.length j h->h d=O (.cH b (.dK kvs))->D.nx j (upd h d (.dK kvs))):UE P r g s D σ H:=by
 refine E _ ⟨d,kvs,rfl,C,λb w=>⟨λi m j h=>m=kvs.length-i/\i<=kvs.length/\n i j h/\h d=O (.cH b (.dK kvs)),⟨kvs.length,(Nat.add_zero _),Yx _,v b,aT⟩,?_⟩⟩;rintro i m j h ⟨rfl,B,p,o⟩;by_cases q:i<kvs.length
 ·refine .inr ⟨⟨o,q⟩,λl f=>n (i+1) l f/\f d=O (.cH b (.dK kvs)),λl f T=>by obtain⟨a,c⟩:=T;exact⟨kvs.length-(i+1),QO,rfl,q,a,c⟩,?_⟩;rintro x J ⟨rfl,k,A⟩;exact z b i k x j J (λl f=>n (i+1) l f/\f d=O (.cH b (.dK kvs))) _ _ A p o λl f u F=>⟨u,F⟩
 ·have e:i=kvs.length:=(ic B (fU q))
  subst e;exact .inl ⟨⟨o,Yh _⟩,d,b,kvs,w,o,I b _ _ p o⟩
section
variable {W ty:TE}
def Zin(W ty:TE):TS:=λD c H=>W c H λx e=>ty c e λy d=>∃a b k,x=.ref a/\d a=O (.dK b)/\y=kV k/\(aH b k).isSome=ar/\Ch d a (.dK (iy b k)) (D.nx c)
def Zfa(q:PE X o W)(r:PE X i ty):PS X (.Delete [.Subscript o i J] pos) (Zin W ty):=by
 intro b s c H D I h;refine wpAny_Delete (B4 (zR (az (q b s c H _ I h) λu f d=>?_)));obtain⟨x,B,A,j,n⟩:=d;refine az (r b f c B _ A n) λF E d=>?_;obtain⟨y,G,z,g,a,p,k,v,e,t,l,m⟩:=d;subst v t;obtain rfl:u=Value.ref a:=j;exact ZdQ z e g l λC w=>Cd ⟨c,_,w,m.at⟩
theorem Qb[DecidableEq α]:∀{a:Z (α×β)} {j:Nat} {k:α} {p:β},(a.map (·.1)).Nodup->a[j]?=O (k,p)->a.eraseIdx j=a.filter λx=>decide (x.1≠k)
 |[],_,_,_,_,h=>rfl
 |x::a,0,k,p,b,h=>by
  have e:x=(k,p):=by simpa using h
  subst e;rw[List.eraseIdx_cons_zero,zQ QS];refine(List.filter_eq_self.mpr λy g=>?_).symm
  grind
 |x::a,j+1,k,p,b,h=>by
  obtain⟨f,d⟩:=Y2.mp (show(x.1::a.map (·.1)).Nodup from b);have c:a[j]?=O (k,p):=by simpa using h
  rw[List.eraseIdx_cons_succ,Qb d c,Jv (by simpa using(λz=>f (by exact z▸Yf.mpr ⟨_,Yj c,rfl⟩)))]
theorem Qc(f:α->β):∀(a:Z α) (j:Nat),(a.map f).eraseIdx j=(a.eraseIdx j).map f
 |[],_=>rfl
 |_::_,0=>rfl
 |x::a,j+1=>by
  show f x::(a.map f).eraseIdx j=f x::(a.eraseIdx j).map f;rw[Qc f a j]
theorem ZgA(k:Z Key)(r:KT H a xs):KT H (iy a k) (xs.filter λx=>decide (x.1≠k)):=by
 unfold iy;induction r with
 |nil=>exact .nil
 |@cons p x c xs f t b=>
  by_cases e:p.1=k;·simp_all
  ·rw[Jv (by simpa using e),Jv (by rw[←f.1];simpa using e)];exact .cons f b
def Zfb{P:c9}{w:cX}{A:d_}{E:bb}{s:bU}{d a:U}{b:HeapKind P w (Z Key)}{h:Z (Z Key×U×a7)}{k:Z Key}{Q:bw DictEntry->bU->Prop}(c:b.room A)(t:b.is s.heap k a)(D:s.heap.DictOfH b d h)(f:k∈h.map (·.1))(H:h.length<=sizeLine)
  (y:∀e m u,m.DictOfH b d (h.filter λx=>decide (x.1≠k))->Heap.SameBut d s.heap m->Q (O e) {s with heap:=m,toks:=u}):wpAny (model P w) A (Builtin.Dict.takeOut d (.ref a)) Q E s:=by
 obtain⟨G,n,B,g,z,hd,i,o,r⟩:=D;refine iG (bg (b.pyHash c t (bg (De c t g hd i o r (λno=>?_) λj p e=>?_))))
 ·obtain⟨x,l,e⟩:=Yf.mp f;obtain⟨j,v,C⟩:=W0.mp l;exact absurd (by rw[Yc v,C,←e]) (no j x.2)
 ·have sz:n.size=h.length:=by rw[←Wm,i,Ya]
  refine bg (uQ g hd ?_);rw[entry_at i j,e];have q:=r0 s.heap d (Obj.mapDictKeys λx=>x.eraseIdxIfInBounds j);refine bg (uD g hd (cG (y _ _ _ ⟨_,_,B+1,Wk _ g (Dv (rO hd _)),z.mapDictKeys _,rO hd _,?_,λx l=>?_,?_⟩ q)) (by rwa[sz]))
  ·rw[←Qb r e];have F:(n.eraseIdxIfInBounds j).toList=n.toList.eraseIdx j:=by
    simp_all
   rw[F,i,Qc]
  ·exact b.keeps (o x (Y5.mp l).1) g hd q
  ·grind
theorem ZcT(w:A.units+1<cLine)(I:Inv X pins σ H s)(e:H a=O (.dT d))(J:H b=O (.tup (k.map kV)))(l:(aH d k).isSome=ar)(h:∀n,Inv X pins σ (upd H a (.dT (iy d k))) n->Q () n):
  wpAny X.md A (delItem (.ref a) (.ref b)) Q E s:=by
 obtain⟨z,r,m,f,i⟩:=KG I.ay e;have R:d.length=m.length:=Paired.length f;have there:k∈m.map (·.1):=by
  rw[Zgx f];cases g:aH d k with
  |none=>rw[g] at l;cases l
  |some v=>
   unfold aH at g;cases j:d.find? λu=>decide (u.1=k) with
   |none=>rw[j] at g;cases g
   |some p=>exact Yf.mpr ⟨p,List.mem_of_find?_eq_some j,eH (by simpa using List.find?_some j)⟩
 refine D6 i.typeIs QD su (n_ su i.typeIs zl ?_ (zi _ _));unfold Builtin.«dict.__delitem__»;refine bg ?_;unfold Builtin.Dict.dictSlotArgs;refine bg (uB i.typeIs ?_);show wpAny _ _ (pure (Value.ref a,Value.ref b)) _ _ s;refine cG ?_;show wpAny _ _ (Builtin.Dict.takeOut a (.ref b)>>=_) _ _ s;refine bg (Zfb (me w) (qa I.ay J) i there QO λen T P L t=>?_);refine bg (wN (cG ⟨.none,rfl,?_⟩));obtain⟨o,D,F,q,C,B,y,_,x⟩:=L;refine h _ (rf I (by exact e▸hY) t ⟨o,q⟩ ⟨Yy (Wj _ _) z,r,_,(ZgA k f).keeps λc N G=>by
   rwa[aN (Kr G e (λz=>nomatch z))],o,D,F,q,C,B,y,x⟩)
def Zio(W ty:TE):TS:=λD d H=>W d H λx f=>ty d f λy e=>∃a b c k,x=.ref a/\e a=O (.dT c)/\y=.ref b/\e b=O (.tup (k.map kV))/\(aH c k).isSome=ar/\Ch e a (.dT (iy c k)) (D.nx d)
def Qd(t:X.A.units+1<cLine)(v:PE X o W)(w:PE X i ty):PS X (.Delete [.Subscript o i P] pos) (Zio W ty):=by
 intro c s d H D I h;refine wpAny_Delete (B4 (zR (az (v c s d H _ I h) λu g f=>?_)));obtain⟨x,G,F,m,p⟩:=f;refine az (w c g d G _ F p) λr L f=>?_;obtain⟨y,N,E,j,a,b,q,k,A,e,z,B,l,n⟩:=f;subst A z;obtain rfl:u=Value.ref a:=m;obtain rfl:r=Value.ref b:=j;exact ZcT t E e B l λJ C=>Cd ⟨d,_,C,n.at⟩
end
end L2
namespace L2
open PySem PySem.W PySem.Spec PyProof.Rows
def Ziq:Z V->Hp->VK->Prop:=λd H Q=>∃(p:U) (a:Z (Key×V)) (b:Z Int),d=[.ref p]/\H p=O (.dK a)/\a.map (·.1)=b.map Sum.inl/\b.length<64/\∀c:Z Int,c.Perm b->c.Pairwise (·<=·)->Nw H (.lst (c.map V.int)) Q
def Zb2(u:(d==sysModules)=a_)(C:A.handled=aF)
  (H:s.heap.DictAt (dO prog w) d i F)(B:i.map (·.1)=ns.map Sum.inl)(R:i.length<64)
  (h:∀(f p:cS) (m:Nat) (out:c8 a7) (l:Z Int) (e:Nat),(∀b o,s.heap.get? b=O o->f.get? b=O o)->(∀b o,f.get? b=O o->p.get? b=O o)->p.get? f.objs.size=O (seqObj "list" out e)->IntsAre out.toList l->l.Perm ns->l.Pairwise (·<=·)->Q (.ref f.objs.size) {s with heap:=p,toks:=m}):
  wpAny (model prog w) A (call (.builtin "sorted") [.ref d]) Q E s:=by
 refine uy kind_sorted plain_sorted entry_sorted (args_sorted1 _) ?_;refine bg (cG ?_);have g:i.length<=sizeLine:=by rw[dg];exact ro (nA R (by decide))
 refine bg (kdu_collect (kdl_dict (kvs:=i) (ep:=F) u) C H g λf m a y n=>?_);have c:Vals ((i.map (·.1)).map kV) a.toList:=by
  refine HU (P:=prog) (w:=w) (by rw[Wm,Ya];exact n.1) λj v W=>?_;obtain⟨k,x,T,X⟩:=n.2 j v (by rwa[←Jj])
  grind
 have G:(i.map (·.1)).map kV=ns.map V.int:=by rw[B,Y6];rfl
 rw[G] at c;have z:a.toList.length<64:=by rwa[Wm,n.1]
 refine bg (sW ?_);have r:(f.push (seqObj "list" a.toList.toArray 0)).get? f.objs.size=O (seqObj "list" a.toList.toArray 0):=by exact C0▸(Yv _ rfl)
 refine bg (iG (n_ slot_list_sort ⟨_,r,rfl⟩ entry_list_sort (list_sort_tree r (intsAre_of c) z λout l L J I=>⟨_,rfl,?_⟩) (args_list_sort _)));obtain⟨e,D⟩:=sortedHeap_at r;exact cG ⟨_,rfl,h f _ m out l e y (λb N t=>by
  have q:=Yu t;rw[sortedHeap_old (Y0 q) (by rw[size_push'];exact Wv q),J8 _ _ _ (Y0 q)];exact t) D L J I⟩
def ZaW(w:X.calm=ar):df X (.builtin "sorted") Ziq:=by
 rintro b s C H D F Q I r ⟨p,a,l,rfl,t,d,N,q⟩;obtain⟨u,rfl,k⟩:=vals1 r;obtain rfl:u=Value.ref p:=k;obtain⟨m,j,E,c,y⟩:=oH I.ay t;obtain⟨R,z⟩:=y.dictAt;have L:=c.length;have J:a.length=l.length:=by have:=d6 List.length d;rwa [Ya,Ya] at this
 refine Zb2 j (I.ok.hd w) z (by rw[←c.keys];exact d) QO λx P G out f e n i v B g A=>?_;have h:=I.kept (t':=s.toks) n;refine⟨.ref x.objs.size,_,h.laid (o:=.lst (f.map V.int)) i (Yh _) ⟨?_,out.toList,e,Hz B,by simpa[seqObj] using v⟩,rfl,(q f g A).at _ (h.ay.fresh (Yh _))⟩;rw[Ya,g.length_eq]
 simp_all
def ZgB:Z V->Hp->VK->Prop:=λb H Q=>∃(p:U) (a:Z (Key×V)),b=[.ref p]/\H p=O (.dK a)/\Nw H (.dK a) Q
def Zb3:df X (.type "dict") ZgB:=by
 rintro d s n H t v Q I r ⟨p,c,rfl,k,q⟩;obtain⟨u,rfl,j⟩:=vals1 r;obtain rfl:u=Value.ref p:=j;obtain⟨a,g,h,f,l⟩:=oH I.ay k;have w:=f.length;exact PySem.kt_call_dict g l QO λx m i=>⟨.ref s.heap.objs.size,_,I.laid (o:=.dK c) (λb o e=>(i.2 b (Y0 (Yu e))).trans (Yb _ e)) (Yh _) ⟨a,beq_eq_false_iff_ne.mpr (ib (Y0 I.big)),h,f,m⟩,rfl,q.at _ (I.ay.fresh (Yh _))⟩
def ZcU(a:Nat->af)(b:∀i v,P i v->∃t,v=.str (a i) t):CmpOf prog w A .Lt P (λi j=>decide ((a i).cps.toList<(a j).cps.toList)):=λi j d c s Q E f e h=>by
 obtain⟨t,rfl⟩:=b i d f;obtain⟨u,rfl⟩:=b j c e;exact Mo (oZ s _ t) (oZ s _ u) F.slot_str_lt F.entry_str_lt (F.args_str_lt_2 _ _) (gives_str_lt _ _ t u) (λx=>nomatch x) h
def ZcV(a:Nat->af)(b:∀i v,P i v->∃t,v=.str (a i) t):CmpOf prog w A .Gt P (λi j=>decide ((a j).cps.toList<(a i).cps.toList)):=λi j d c s Q E f e h=>by
 obtain⟨t,rfl⟩:=b i d f;obtain⟨u,rfl⟩:=b j c e;exact Mo (oZ s _ t) (oZ s _ u) F.slot_str_gt F.entry_str_gt (F.args_str_gt_2 _ _) (gives_str_gt _ _ t u) (λx=>nomatch x) h
def rL(a b:af):af:=if b.cps.toList<a.cps.toList then b else a
def rM(a b:af):af:=if a.cps.toList<b.cps.toList then b else a
def Zir{s:bU}:(s.heap.push {cls:=.type "tuple",data:=.seq #[a,b]}).IsTuple s.heap.objs.size #[a,b]:=⟨_,Yv _ rfl,rfl,0,rfl⟩
section
variable {X:c9}{w:cX}{A:d_}{E:bb}{s:bU}
theorem RA(i:Nat)(v:a7)(h:(#[Value.str a t,Value.str b u]:c8 a7)[i]?=O v):∃t',v=.str (([a,b]:Z af).getD i "") t':=by
 match i,h with
 |0,h=>exact⟨t,(Yo h).symm⟩
 |1,h=>exact⟨u,(Yo h).symm⟩
 |i+2,h=>simp at h
def Qe{a b:af}{t u:Tok}{Q:bb}{y:CmpOp}(f:af->af->cm)(G:A.handled=aF)
  (r:CmpOf X w A.in1 y (λi v=>(#[Value.str a t,Value.str b u]:c8 a7)[i]?=O v) λi j=>f (([a,b]:Z af).getD i "") (([a,b]:Z af).getD j ""))
  (h:∀g k t',(∀c o,s.heap.get? c=O o->g.get? c=O o)->Q (.str (if f b a=ar then b else a) t') {s with heap:=g,toks:=k}):
  wpAny (model X w) A.in1 (pyIter (.ref s.heap.objs.size)) (λC p=>∃I fp x n P St B,C=.ref I/\Walks X w A.in1 I fp x n P St/\St 0 p.heap/\(∀b∈fp,b<p.heap.objs.size)/\0<n/\CmpOf X w A.in1 y P B/\
   ∀v g k,P (argBest B (n-1)) v->(∀b o,b∉x->p.heap.get? b=O o->g.get? b=O o)->Q v {p with heap:=g,toks:=k}) E
   {s with heap:=s.heap.push {cls:=.type "tuple",data:=.seq #[.str a t,.str b u]}}:=by
 have z:=Zir (a:=.str a t) (b:=.str b u) (s:=s);refine uI z ?_;have d:(s.heap.push {cls:=.type "tuple",data:=.seq #[.str a t,.str b u]}).objs.size=s.heap.objs.size+1:=zk ..;refine⟨_,[_,s.heap.objs.size],[_],_,_,_,_,rfl,Walks.tuple (A:=A.in1) G _ s.heap.objs.size (by rw[d];exact Y0 (Jx _)) #[.str a t,.str b u],
  ⟨⟨_,Yv _ rfl,rfl,rfl⟩,z.push _⟩,λc q=>?_,QS,r,λv g k H F=>?_⟩
 ·show c<((s.heap.push _).push _).objs.size;rw[zk,d];rcases Ys.mp q with rfl|q;·rw[d];exact Jx _
  ·rw[Yd.mp q];exact Wv (Jx _)
 ·have l:∀c o,s.heap.get? c=O o->g.get? c=O o:=λc o e=>by
   refine F c o (λD=>?_) (Yb _ (Yb _ e));have:=Yu e;rw[Yd.mp D,d] at this;exact Wi _ (Nat.lt_of_succ_lt this)
  have m:(#[Value.str a t,Value.str b u]:c8 a7)[if f b a=ar then 1 else 0]?=O v:=H;obtain⟨t',J⟩:∃t',v=.str (if f b a=ar then b else a) t':=by
   by_cases c:f b a=ar
   ·rw[bS c] at m⊢;exact⟨u,by simpa using m.symm⟩
   ·rw[bt c] at m⊢;exact⟨t,by simpa using m.symm⟩
  subst J;exact h g k t' l
end
def ZcW(d:X.calm=ar):df X (.builtin "min") (λa H Q=>∃i j:af,a=[.str i,.str j]/\Q (.str (rL i j)) H):=by
 intro b s e H a g Q I r h;obtain⟨i,j,rfl,q⟩:=h;obtain⟨u,f,rfl,⟨t,rfl⟩,⟨m,rfl⟩⟩:=vals2 r;exact call_min_two (Qe (λx y=>decide (x.cps.toList<y.cps.toList)) (I.ok.hd d) (ZcU _ RA) λn l c k=>⟨.str (rL i j),H,I.kept k,⟨c,by unfold rL;simp[MC]⟩,q⟩)
def ZcX(d:X.calm=ar):df X (.builtin "max") (λa H Q=>∃i j:af,a=[.str i,.str j]/\Q (.str (rM i j)) H):=by
 intro b s e H a g Q I r h;obtain⟨i,j,rfl,q⟩:=h;obtain⟨u,f,rfl,⟨t,rfl⟩,⟨m,rfl⟩⟩:=vals2 r;exact call_max_two (Qe (λx y=>decide (y.cps.toList<x.cps.toList)) (I.ok.hd d) (ZcV _ RA) λn l c k=>⟨.str (rM i j),H,I.kept k,⟨c,by unfold rM;simp[MC]⟩,q⟩)
def Zis:bootBuiltins "max"=O (.builtin "max"):=QK
def RB:cJ X (binaryOp .Mult) (λx y H Q=>∃(z:af) (n:Nat),x=.str z/\y=.int (n:Int)/\z.length<=100/\n<=100/\Q (.str (Txt.mul z (n:Int))) H):=by
 intro a s i H x y v u Q I d c h;obtain⟨z,n,rfl,rfl,e,f,q⟩:=h;obtain⟨t,rfl⟩:=d;obtain⟨j,rfl⟩:=c;have l:z.length*n<=10000:=Yy (vr e f) (by decide);refine PySem.SB.mul ⟨?_,λr _=>?_,λ_ _=>?_⟩ λb k=>⟨.str (Txt.mul z (n:Int)),H,I.tok k,⟨b,rfl⟩,q⟩;·rw[fb QO,fb QO];rfl
 ·have m:(1:Int)<=(n:Int):=QO
  intro g;have p:((2:Int)^63-1)/(n:Int)≥(2^63-1)/100:=by
   refine Int.le_ediv_of_mul_le QO ?_
   grind
  have o:((2:Int)^63-1)/100>100:=QD
  omega
 ·rw[Y9];exact fb (by rw[dg];exact X9 (k8 l (by decide)))
def oU:V->cm
 |.int _=>ar
 |.str _=>ar
 |_=>a_
def RC(h:oU x=ar):jG x=ar:=by cases x<;>first|rfl|cases h
theorem Zit(d:oU x=ar)(c:oU y=ar):ko x y=decide (x=y):=by
 cases x with
 |int a=>
  cases y with
  |int b=>
   show(a==b)=_
   grind
  |str b=>rfl
  |_=>cases c
 |str a=>
  cases y with
  |int b=>rfl
  |str b=>
   show(a==b)=_
   grind
  |_=>cases c
 |_=>cases d
theorem Ph:∀{a b:Z V},a.length=b.length->a.all oU=ar->b.all oU=ar->((List.range a.length).all λj=>ko (a.getD j .aC) (b.getD j .aC))=decide (a=b)
 |[],[],_,_,_=>rfl
 |[],_::_,h,_,_=>by simp at h
 |_::_,[],h,_,_=>by simp at h
 |x::a,y::b,h,d,c=>by
  rw[Ju,Ws] at d c;rw[Wh,List.range_succ_eq_map,Ju,MD];have e:((λj=>ko ((x::a).getD j .aC) ((y::b).getD j .aC))∘Nat.succ)=λj=>ko (a.getD j .aC) (b.getD j .aC):=rfl;rw[e,(Ph (by simpa using h) d.2 c.2)];show(ko x y&&_)=_;rw[Zit d.1 c.1,Wq,Ws,hI,hI,hI,List.cons.injEq]
def Zki(K:ah)(c:cm):R2:=λx y H Q=>∃(p q:U) (b a:Z V),x=.ref p/\y=.ref q/\aB K H p b/\aB K H q a/\b.all oU=ar/\a.all oU=ar/\Q (.bl (if c=ar then !decide (b=a) else decide (b=a))) H
theorem RD(r:Vals xs us):∀{j:Nat} (h:j<us.length),RelV (xs.getD j .aC) us[j]:=by
 induction r with
 |nil=>intro j h;cases h
 |cons f _ a=>
  intro j h;cases j with
  |zero=>exact f
  |succ j=>exact a (BU h)
def RE{a:Z V}(f:a.all oU=ar)(h:j<a.length):oU (a.getD j .aC)=ar:=by
 simp_all
def Ziu{K:ah}(G:X.K=K)(F:X.A.units<cLine):cJ X (compareOp .NotEq) (Zki K ar):=by
 subst G;intro m s R H x y v u Q I w t h;obtain⟨p,q,g,f,rfl,rfl,c,b,r,o,k⟩:=h;cases w;cases t;obtain⟨d,l,A,W⟩:=I.tuple c;obtain⟨a,i,z,T⟩:=I.tuple b;have C:=l.length;have B:=i.length;show wpAny _ _ (richCompare .NotEq _ _) _ _ _;refine SeqAt.RcNeAt.tuples (e:=λj=>ko (g.getD j .aC) (f.getD j .aC)) A z F (λj c b=>?_) _ _ _ _ (cM I k ?_)
 ·have E:j<d.length:=by simpa using c
  have D:j<a.length:=by simpa using b
  have L:=RD l E;have J:=RD i D;have P:d.toArray[j]=d[j]:=QS
  have N:a.toArray[j]=a[j]:=QS
  rw[P,N];exact SM L J (RC (RE r QO)) (RC (RE o QO))
 ·rw[bS rfl,Yt,Yt,←C,←B];by_cases n:g.length=f.length
  ·rw[←n,Nat.min_self,Ph n r o];simp
  ·grind
def wL(g:Nat->a7):Nat->Nat->Z a7
 |0,_=>[]
 |n+1,i=>g i::wL g n (i+1)
theorem Kb(g:Nat->a7):∀(b:Z a7) (i:Nat),(∀k,b[k]?=O (g (i+k))\/b.length<=k)->b=wL g b.length i
 |[],_,_=>rfl
 |a::r,i,h=>by
  have e:a=g i:=by
   rcases h 0 with z|z;·grind
   ·cases z
  refine QbL (d6 _ e) (Kb g r (i+1) λk=>?_);have:=h (k+1)
  grind
inductive bM(K:ah)(x:af)(b:cb)(f:U):Prop
 |mk {h n:bw U} {e:c8 (bw a7)} {i kV j g d m:a7} (a:nsIn K mainGlobals x=O (O (.ref f))) (l:K.lookup f=O ⟨i,h,.func (fnOf x x (lZ b) (i4 b) (aJ b) .none kV j g n d m),e⟩) (c:codeIn K d x=ar) (k:keepIn K (.ref f)=ar):bM K x b f
inductive c6(K:ah)(C:U)(x q:af)(d:cb)(f:U):Prop
 |mk {i o:bw U} {g:c8 (bw a7)} {j kV m h e n:a7} (a:PySem.W.findIn K (.ref C) x=O (O (.ref f))) (b:isFn K (.ref f)=ar) (l:K.lookup f=O ⟨j,i,.func (fnOf x q (lZ d) (i4 d) (aJ d) .none kV m h o e n),g⟩) (c:codeIn K e q=ar) (k:keepIn K (.ref f)=ar):c6 K C x q d f
inductive jr(P:c9)(w:cX)(K:ah)(b:aR)(a:cS):Prop
 |mk {h:cS} (X:K.In h) (G:h.Ns mainGlobals b):jr P w K b a
abbrev mN(x q:af)(a:cb)(b:Z af):Prop:=∀(kV c d:a7) (h:bw U) (f e:a7) (g:Nat->a7),bindArgs (fnOf x q (lZ a) (i4 a) (aJ a) .none kV c d h f e) ⟨wL g b.length 0,[]⟩=pure (b.zip (wL g b.length 0))
def mN.at{x q:af}{c:cb}{d:Z af}(b:mN x q c d)(h f g:a7)(l:bw U)(j i:a7)(a:Z a7)(m:a.length=d.length):bindArgs (fnOf x q (lZ c) (i4 c) (aJ c) .none h f g l j i) ⟨a,[]⟩=pure (d.zip a):=by
 have e:=Kb (λk=>a.getD k .none) a 0 λk=>by
  grind
 grind
section
variable {P:c9}{w:cX}{K:ah}{T:aR}{W:cS}{C f:U}{x q:af}{st:cb}{ps:Z af}{n:Nat}{R:Sp}
def jr.p(D:jr P w K T W)(p:bM K x st f)(b:mN x x st ps:=by intro _ _ _ _ _ _ _;rfl):∃d,aM K x x st f d/\Binds K d ps []/\keepIn K (.ref f)=ar/\T x=O (.ref f):=by
 obtain⟨X,G⟩:=D;obtain⟨a,l,c,k⟩:=p;exact⟨_,yz l c k,(yz l c k).binds (mN.at b),k,hT X G a⟩
def jr.d(D:jr P w K T W)(p:bM K x st f)(o:∀a,aM K x x st f a->aE P w K T W aL n f a ps R)(b:mN x x st ps:=by intro _ _ _ _ _ _ _;rfl):HasFn P w K T W n x ps R:=by
 obtain⟨a,F,b,k,m⟩:=D.p p b;exact⟨f,a,o _ F,b,k,m⟩
def jr.dX(D:jr P w K T W)(p:bM K x st f)(o:∀a,aM K x x st f a->aE P w K T W (oS P w) n f a ps R)(b:mN x x st ps:=by intro _ _ _ _ _ _ _;rfl):Vi P w K T W n x ps R:=by
 obtain⟨a,F,b,k,m⟩:=D.p p b;exact⟨f,a,o _ F,b,k,m⟩
def c6.p(p:c6 K C x q st f)(b:mN x q st ps):∃d,aM K x q st f d/\Binds K d ps []/\Meth K C x f/\PySem.W.findIn K (.ref C) x=O (O (.ref f))/\isFn K (.ref f)=ar:=by
 obtain⟨a,e,l,c,k⟩:=p;exact⟨_,yz l c k,(yz l c k).binds (mN.at b),⟨a,e,k⟩,a,e⟩
def jr.m(_:jr P w K T W)(c:gq K C)(p:c6 K C x q st f)(o:∀a,aM K x q st f a->aE P w K T W aL n f a ps R)(b:mN x q st ps:=by intro _ _ _ _ _ _ _;rfl):cO P w K T W n x C ps R:=by
 obtain⟨a,F,b,m,_,_⟩:=p.p b;exact⟨f,a,c,m,o _ F,b⟩
def jr.mX(_:jr P w K T W)(c:gq K C)(p:c6 K C x q st f)(o:∀a,aM K x q st f a->aE P w K T W (oS P w) n f a ps R)(b:mN x q st ps:=by intro _ _ _ _ _ _ _;rfl):Ta P w K T W n x C ps R:=by
 obtain⟨a,F,b,m,_,_⟩:=p.p b;exact⟨f,a,c,m,o _ F,b⟩
def jr.i(_:jr P w K T W){y:af}(m:T y=O (.ref C))(g:makesIn K C=ar)(d:keepIn K (.ref C)=ar)(p:c6 K C "__init__" q st f)(o:∀c,aM K "__init__" q st f c->aE P w K T W aL n f c ps R)(b:mN "__init__" q st ps:=by intro _ _ _ _ _ _ _;rfl):vY P w K T W n y C ps R:=by
 obtain⟨c,F,b,_,a,e⟩:=p.p b;exact⟨f,c,⟨g,a,e,d⟩,o _ F,b,m⟩
end
end L2
namespace L2
open PySem PySem.Spec PyProof.Rows
section
variable {X:Cx}
def bR(i:Nat){x:af}{e:cu}{c:TE}{b a:Pos}(k:X.N.Nodup)(j:PE X e c)(g:X.N[i]?=O x:=by rfl)(d:Loc X.env.scope x:=by exact hH rfl)(f:swapsWith e (O (.Name x a)) b.line X.env=pure a_:=by rfl)
  (h:X.fn x=ar\/X.env.scope.names.lookup x=O .local:=by first|exact .inl rfl|exact .inr rfl|assumption):PS X (.Assign [.Name x a] e b) (t9 c (qf i)):=gI k g d j f h
def aV(i:Nat){x:af}{a:Pos}(e:X.N.Nodup)(c:X.N[i]?=O x:=by rfl)(b:Loc X.env.scope x:=by exact hH rfl)
  (d:X.fn x=ar\/X.env.scope.names.lookup x=O .local:=by first|exact .inl rfl|exact .inr rfl|assumption):PG X (.Name x a) (qf i):=q5 e c b d
def pF(K:ah)(i:Nat){x f:af}{p a:Pos}(h:X.K=K:=by rfl)(e:X.N[i]?=O x:=by rfl)(b:um X.env.scope x:=by first|exact hH rfl|exact kv (hH rfl)|exact kv (kv rfl))(c:(x==("__debug__":af))=a_:=by decide)
  (g:(x==("__classdict__":af))=a_:=by decide)(d:attributeBase (.Name x p) f X.env (eval (.Name x p) X.env)=eval (.Name x p) X.env:=QR):PE X (.Attribute (.Name x p) f a) (K6 K (gf i) f):=vN h (pv i e b c g) d
def aZ{k j:Nat}{x:af}{c:Z af}{b:Sp}{p a:Pos}{e:cu}{es:Z cu}{t:TA}(h:HasFn X.prog X.w X.K X.mg X.base k x c b)(d:cK j X.A)(l:PA X (e::es) t)(f:k<=j:=by omega)(g:Gl X x:=by rfl)
  (m:(x==("__debug__":af))=a_:=by decide)(i:iQ X e es:=by rfl)(n:jj X a es:=by rfl):
  PE X (.Call (.Name x p) (e::es) [] a) (BP b [] E0 t):=Ky h d f g l m i n
def bc{r:R2}{a b:cu}{e d:TE}{c:Pos}(g:jk X r)(i:PE X a e)(h:PE X b d)(f:Rg b:=by exact λ_ _=>rfl):PE X (.Subscript a b c) (jP r e d):=Ug g i h f
end
section
variable {P:c9}{w:cX}{K:ah}{W:aR}{X:cS}
def aM.o{x b:af}{e:cb}{f:U}{j:FuncData}{N g:Z af}{k:Nat}{sp:Sp}(F:aM K x b e f j)(a:aP N g (aJ e))
  (m:∀{l:a7} {A:d_} {c:Z Env} {d:Z V} {Q:VK} {E:XK} (s:bU) (H:Hp),cK k (A.deeper (envOfC b (aJ e) s.heap.objs.size f l))->sp d H Q E->
   ∃t,fR (kN aL P w K W X N b (aJ e) f l A c s H E).oP (i4 e) t/\t {nx:=λ_ n=>Q .aC n,rt:=Q} (start N d) H)
  (i:∀d H Q E,sp d H Q E->d.length=g.length:=by intro d H Q E h;first|(cases h;subst_vars;rfl)|((repeat obtain⟨_,h⟩:=h);subst_vars;rfl)):aE P w K W X aL (k+1) f j g sp:=F.ok a i λ_ _ _ s H _ _ _=>m s H
end
def aP.aY{N P:Z af}{sc:Scope}(a:sc.kind=.function:=by rfl)(b:sc.isCoroutine=a_:=by rfl)(c:sc.isGenerator=a_:=by rfl)(d:N.Nodup:=by decide+kernel)(e:N.take P.length=P:=by rfl)(f:∀x∈P,sc.names.lookup x=O .local\/sc.names.lookup x=O .cell:=by decide+kernel)(g:∀y∈sc.names,y.2≠.free:=by decide+kernel):aP N P sc:=⟨a,b,c,d,e,f,g⟩
def x_.hU{X:Cx}{h:Scope}{cl:Z (af×U)}{x:af}{fr:Z (af×Nat)}(i:q_ X.env.cells cl)(j:rb X h cl fr)(a:closureFor h X.env=pure cl:=by with_unfolding_all rfl)(b:h.kind=.function:=by rfl)(c:∀y∈h.names,y.2=.local->h.names.lookup y.1=O .local:=by decide+kernel)(d:h.names.lookup x=O .local:=by rfl)
  (e:∀y∈h.names,y.2≠.cell:=by decide+kernel)(f:(h.names.all λy=>!(y.2==.free)||(cl.lookup y.1).isSome)=ar:=by rfl)(g:(x::fr.map (·.1)).Nodup:=by decide+kernel):x_ X h cl x fr:=⟨a,i,b,c,d,e,f,j,g⟩
def qS.hU{X:Cx}{d:Scope}{cl:Z (af×U)}{i:Z af}{fr:Z (af×Nat)}(h:q_ X.env.cells cl)(j:rb X d cl fr)(a:closureFor d X.env=pure cl:=by with_unfolding_all rfl)(b:d.kind=.function:=by rfl)(c:∀y∈d.names,y.2=.local->d.names.lookup y.1=O .local:=by decide+kernel)
  (e:∀y∈d.names,y.2≠.cell:=by decide+kernel)(f:(d.names.all λy=>!(y.2==.free)||(cl.lookup y.1).isSome)=ar:=by rfl)(g:(i++fr.map (·.1)).Nodup:=by decide+kernel):qS X d cl i fr:=⟨a,h,b,c,e,f,j,g⟩
end L2
namespace L2
open PySem PySem.W PySem.Spec PyProof.Rows
inductive r9(K:ah):Z af->Prop
 |nil:r9 K []
 |cons {x:af} {l:Z af} (h:nsIn K mainGlobals x=O aF) (t:r9 K l):r9 K (x::l)
theorem r9.at{K:ah}{x:af}:∀{l:Z af},r9 K l->x∈l->nsIn K mainGlobals x=O aF
 |_,.cons h t,m=>by
  cases m with
  |head=>exact h
  |tail _ m=>exact t.at m
def r9.bl{K:ah}(z:r9 K ["len","abs","list","range","tuple","any","all","isinstance","bool","int","str","sorted","min","max","sum","dict","reversed","ValueError"])(X:K.In h)(G:h.Ns mainGlobals mg):Bl mg:=by
 constructor<;>exact PySem.W.mg_none_of X G (z.at QD)
inductive zF(K:ah)(x:af)(C:U):Prop
 |mk (a:nsIn K mainGlobals x=O (O (.ref C))) (b:makesIn K C=ar) (c:keepIn K (.ref C)=ar):zF K x C
def jr.j{P:c9}{w:cX}{K:ah}{e:aR}{c:cS}{C f:U}{y q:af}{d:cb}{ps:Z af}{n:Nat}{sp:Sp}(D:jr P w K e c)(g:zF K y C)(p:c6 K C "__init__" q d f)(o:∀h,aM K "__init__" q d f h->aE P w K e c aL n f h ps sp)(b:mN "__init__" q d ps:=by intro _ _ _ _ _ _ _;rfl):vY P w K e c n y C ps sp:=by
 obtain⟨a,m,k⟩:=g;exact D.i (let⟨X,G⟩:=D;hT X G a) m k p o b
inductive zG(K:ah)(x q:af)(d:Z U)(b:cb)(C f:U):Prop
 |mk {N t:U} {s n:af} {bs sub:Z a7} {k:Z af} {G:cm} {c:bw cm} {B:bw U} {z y w v u:bw a7} {p F i:bw U} {m g:c8 (bw a7)} {r kV D o e E j A:a7} {h:Nat}
  (a:nsIn K mainGlobals x=O (O (.ref C))) (l:K.lookup C=O (excClassObj s n C N bs (d.map Value.ref++qr) ar k sub G c B z y w v u "ValueError.__new__"))
  (g1:PySem.W.findIn K (.ref C) "__getattribute__"=O (O (.builtin "BaseException.__getattribute__"))) (g2:PySem.W.findIn K (.ref C) "__getattr__"=O aF) (g3:PySem.W.findIn K (.ref C) "__setattr__"=O (O (.builtin "object.__setattr__"))) (g4:PySem.W.findIn K (.ref C) "__class__"=O (O (.builtin "object.__class__")))
  (g5:specialIn K (.builtin "object.__class__") "__get__"=O (O (.builtin "getset_descriptor.__get__"))) (g6:takesIn K (.builtin "object.__class__")=O ar)
  (ci:PySem.W.findIn K (.ref C) "__init__"=O (O (.ref f))) (cn:isFn K (.ref f)=ar) (ck:keepIn K (.ref C)=ar)
  (fl:K.lookup f=O ⟨r,p,.func (fnOf "__init__" q (lZ b) (i4 b) (aJ b) (.ref t) kV D o F e E),m⟩) (fc:codeIn K e q=ar) (fk:keepIn K (.ref f)=ar) (ft:K.lookup t=O ⟨j,i,.seq #[A] h,g⟩)
  (na:PySem.W.findIn K (.ref C) "word"=O aF):zG K x q d b C f
abbrev BdE(q:af)(a:cb)(b:Z af):Prop:=∀(s:bU) (kV c i j h:a7) (f:bw U) (d:c8 (bw a7)) (e:Nat) (t:U) (m:bw U) (l k:a7) (g:Nat->a7),s.heap.get? t=O ⟨h,f,.seq #[j] e,d⟩->BindsTo s (fnOf "__init__" q (lZ a) (i4 a) (aJ a) (.ref t) kV c i m l k) ⟨wL g b.length 0,[]⟩ (b.zip (wL g b.length 0))
def zG.b{K:ah}{h:cS}{i:aR}{x q:af}{n:Z U}{c:cb}{C f:U}(p:zG K x q n c C f)(X:K.In h)(G:h.Ns mainGlobals i)(ps:Z af)(b:BdE q c ps:=by intro _ _ _ _ _ _ _ _ _ _ _ _ _ _ z;exact BindsTo.of_defaults rfl z rfl rfl rfl):
  ∃m,yV K "__init__" q c f m/\Binds K m ps []/\dJ K C/\wc K C f/\i x=O (.ref C)/\dw K C "word":=by
 obtain⟨a,l,y,w,v,u,t,r,I,F,H,B,E,D,A,o⟩:=p;have d:dJ K C:=⟨⟨_,_,_,_,n,_,_,_,_,_,_,_,_,_,_,l⟩,y,w,v,u,t,r⟩;refine⟨_,⟨⟨_,_,_,_,_,_,_,_,_,_,rfl,B,E⟩,D⟩,λs g J j=>?_,d,wc.of d I F H,hT X G a,o⟩;rw[Y8] at j⊢;have e:=Kb (λk=>g.getD k .none) g 0 λk=>by
  grind
 rw[e,j];exact b s _ _ _ _ _ _ _ _ _ _ _ _ _ (J _ _ A)
end L2
namespace L2
open PySem PySem.Spec PyProof.Rows
section
variable {X:Cx}{a b e T:cu}{P R Q N:TE}{p W:Pos}
def dC(K:ah)(i:Bl X.mg)(f:PE X e Q)(h:X.K=K:=by rfl)(d:Gl X "len":=by rfl)(c:starEach [e] X.env=(a_,eval e X.env)::starEach [] X.env:=by rfl)(g:(backTo W (starEach [] X.env)).any (·.1)=a_:=QR):PE X (.Call (.Name "len" p) [e] [] W) (nN (yU K) (ir Q jL)):=fJ (Zj3 h) d i.rE rB (aa f ae c) QD QD c g
def lI(K:ah)(k:Bl X.mg)(g:PE X e Q)(i:PE X T N)(h:X.K=K:=by rfl)(f:Gl X "isinstance":=by rfl)(d:starEach [T] X.env=(a_,eval T X.env)::starEach [] X.env:=by rfl)(c:starEach [e,T] X.env=(a_,eval e X.env)::starEach [T] X.env:=by rfl)(j:(backTo W (starEach [T] X.env)).any (·.1)=a_:=by rfl):PE X (.Call (.Name "isinstance" p) [e,T] [] W) (nN (B_ K) (ir Q (ir N jL))):=fJ (Zga h) f k.N5 NY (aa g (aa i ae d) c) QD QD c j
def iL(K:ah)(h:X.K=K:=by rfl):jk X (v_ K):=ZeD h
def iT(K:ah)(h:X.K=K:=by rfl):jk X (B6 K):=Zf_ h
def bH{c:CmpOp}{r:R2}(d:cJ X (compareOp c) r)(h:PE X a P)(g:PE X b R)(f:behindInMarks c b=a_:=by exact SE _):PT X (.Compare a [c] [b] W) (Kw (jP r P R)):=fK d h g f
def dW{c:CmpOp}{r:R2}(d:cJ X (compareOp c) r)(h:PE X a P)(g:PE X b R)(f:behindInMarks c b=a_:=by exact SE _):PE X (.Compare a [c] [b] W) (jP r P R):=Be d h g f
end
end L2
namespace L2
open PySem PySem.W PySem.Calls PySem.Spec PyProof.Rows
end L2
namespace L2
open PySem PySem.Spec PyProof.Rows
section
variable {P:c9}{w:cX}{A:d_}{E:bb}{s:bU}{d:U}{knd:HeapKind P w (Z Key)}{xs:Z (Z Key×U×a7)}
def ZgC{a:U}{k:Z Key}{v:a7}{Q:bb}(b:knd.room A)(h:knd.is s.heap k a)(D:s.heap.DictOfH knd d xs)(N:xs.length<=sizeLine)
  (z:∀p t,atKey xs k=O p->Q p.2 {s with toks:=t})(y:∀i t,atKey xs k=aF->i.DictOfH knd d (xs++[(k,a,v)])->Heap.SameBut d s.heap i->Q v {s with heap:=i,toks:=t}):wpAny (model P w) A (dictSetDefault d (.ref a) v) Q E s:=by
 obtain⟨r,q,R,g,B,hd,f,l,o⟩:=D;have sz:q.size=xs.length:=by rw[←Wm,f,Ya]
 unfold dictSetDefault;refine iG (bg (knd.pyHash b h (bg (De b h g hd f l o (λno=>?_) λj p e=>?_))))
 ·have G:=atKey_none_of_get no;have new:k∉xs.map (·.1):=λm=>by
   obtain⟨⟨J,p⟩,c,rfl⟩:=Yf.mp m;obtain⟨j,u,e⟩:=DX c;exact no j p (by rw[Yc u,e])
  refine bg (oO (bg (uD g hd (cG (y _ _ G ?_ (r0 _ _ _))) (by rwa[sz]) QS)));obtain⟨I,H,F,L⟩:=r;subst hd;have n:=r0 s.heap d (Obj.mapDictKeys λx=>x.push {hash:=knd.hash k,key:=Value.ref a,val:=v});refine⟨_,_,_,(Wk (Obj.mapDictKeys λx=>x.push {hash:=knd.hash k,key:=Value.ref a,val:=v}) g rfl),B,rfl,?_,λx c=>?_,?_⟩;·rw[Array.toList_push,f,Yp];rfl
  ·rcases Ym.mp c with c|c;·exact knd.keeps (l x c) g rfl n
   ·rw[Yd.mp c];exact knd.keeps h g rfl n
  ·grind
 ·refine bg (uQ g hd ?_);have C:q[j]?=O (entryOfKey knd (k,p)):=by
   rw[entry_at f j,e];rfl
  exact C▸bg (oO (cG (z p _ (atKey_of_get o e))))
end
theorem Zd5(J:A.units+1<cLine)(I:Inv X pins σ H s)(e:H a=O (.dT d))(C:H b=O (.tup (k.map kV)))(F:RelV z r)(l:d.length<sizeLine)
  (P:∀v n i,aH d k=O v->Inv X pins σ H i->RelV v n->Q n i)(N:∀i,aH d k=aF->Inv X pins σ (upd H a (.dT (d++[(k,z)]))) i->Q r i):
  wpAny X.md A (call (.builtin "dict.setdefault") [.ref a,.ref b,r]) Q E s:=by
 obtain⟨zz,u,D,g,m⟩:=KG I.ay e;have G:D.length<=sizeLine:=by rwa[←Paired.length g]
 have h:=g.val k;refine n_ rz m.typeIs zf ?_ (zc _ _ _);unfold Builtin.«dict.setdefault»;refine bg (bg (uB m.typeIs (cG ?_)));show wpAny _ _ (if(a==sysModules)=ar then _ else(dictSetDefault a (.ref b) r>>=_)) _ _ s;rw[bt (by rw[u];exact Yq)];refine bg (ZgC (me J) (qa I.ay C) m G (λp t j=>cG ⟨_,rfl,?_⟩) λh' t B R L=>cG ⟨_,rfl,?_⟩)
 ·cases f:aH d k with
  |none=>rw[f,j] at h;cases h
  |some x=>
   rw[f,j] at h;exact P x _ _ f (I.kept λb o e=>e) h
 ·have f:aH d k=aF:=by
   cases f:aH d k with
   |none=>rfl
   |some x=>rw[f,B] at h;cases h
  obtain⟨q,es,j,y,g2,g3,W,_,T⟩:=R;have w:=g.put k C F;rw[iZ _ f,storedH_new B] at w;refine N _ f (rf I (by exact e▸hY) L ⟨q,y⟩ ⟨by rwa[Ye],u,_,w.keeps λc ys ec=>?_,q,es,j,y,g2,g3,W,T⟩);rwa[aN (Kr ec e (λz=>nomatch z))]
def Zd6(i g h:TE):TE:=λe H Q=>i e H λx f=>∃a,x=.ref a/\wI f a/\g e f λy j=>h e j λz d=>∃c k b,d a=O (.dT c)/\y=.ref b/\d b=O (.tup (k.map kV))/\c.length<sizeLine/\
 (∀v,aH c k=O v->Q v d)/\(aH c k=aF->Ch d a (.dT (c++[(k,z)])) (Q z))
def Zb4(T:X.A.units+1<cLine)(W:PE X o r)(he:PE X e ty)(hf:PE X f q)(m:M2 X o "setdefault" apos e f cz):PE X (.Call (.Attribute o "setdefault" apos) [e,f] [] cz) (Zd6 r ty q):=by
 intro c s g H Q I h;refine pJ m.base m.jo m.line oz rz zh (az (W c s g H _ I h) λu C p=>?_);obtain⟨x,H1,n,E,a,ex,d,N⟩:=p;subst ex;obtain rfl:u=Value.ref a:=E;obtain⟨w,t,_⟩:=vT n d;refine⟨w,t,?_⟩;rw[m.trees];refine k_ rfl (m6 (lq (az (he c C g H1 _ n N) λiv B ⟨y,H2,I2,D,L⟩=>
  lq (az (hf c B g H2 _ I2 L) λfv s3 ⟨z,H3,I3,l,R,k,b,ea,ey,eb,P,J,G⟩=>n7 ?_))))
 subst ey;cases(D);exact Zd5 T I3 ea eb l P (λv w' A i j F=>⟨v,H3,j,F,J v i⟩) λA i j=>⟨z,_,j,l,(G i).at⟩
end L2
namespace ME
open PySem L2
variable {w:cX}{K:PySem.W.Frag}{B:af->bw a7}{I:cS}{f C CL CJ:U}{fd:FuncData}
def top(i:Nat):cb:=PySem.Challenge.pw_kinhearth_k41_the_least_road.main.body.getD i (.Pass ⟨0,0,0,0⟩)
abbrev HW:cb:=top 19
abbrev IY:cb:=top 20
abbrev Ir:cb:=top 21
abbrev Kc:cb:=top 23
abbrev FN:cb:=top 25
abbrev FO:cb:=top 79
abbrev EK:cb:=top 80
abbrev HX:cb:=top 81
abbrev GP:cb:=top 22
abbrev Fp:cb:=top 24
abbrev GQ:cb:=top 2
abbrev Iu:cb:=top 35
abbrev GR:cb:=top 36
abbrev GS:cb:=top 39
abbrev F7:cb:=top 40
abbrev F_:cb:=top 41
abbrev HY:cb:=top 53
abbrev E2:cb:=top 54
abbrev Ga:cb:=top 55
abbrev Gb:cb:=top 56
abbrev E3:cb:=top 57
abbrev E4:cb:=top 58
abbrev E5:cb:=top 59
abbrev EL:cb:=top 60
abbrev Gd:cb:=top 74
abbrev GU:cb:=top 37
abbrev Ge:cb:=top 38
abbrev E6:cb:=top 43
abbrev GV:cb:=top 44
abbrev Kd:cb:=top 45
abbrev Fq:cb:=top 46
abbrev OH:cb:=top 83
abbrev Oe:cb:=top 84
abbrev OI:cb:=top 85
abbrev H_:cb:=top 86
abbrev Fs:cb:=top 87
abbrev Gf:cb:=top 88
abbrev Gg:cb:=top 89
abbrev AB:cb:=top 90
abbrev GW:cb:=top 91
abbrev Ft:cb:=top 92
abbrev GX:cb:=top 93
abbrev GY:cb:=top 94
abbrev Iv:cb:=top 95
abbrev GZ:cb:=top 96
abbrev Gh:cb:=top 97
abbrev G0:cb:=top 98
abbrev G1:cb:=top 99
abbrev G3:cb:=top 100
abbrev Ia:cb:=top 101
abbrev G4:cb:=top 102
abbrev G5:cb:=top 103
abbrev G6:cb:=top 104
abbrev Gi:cb:=top 105
abbrev Gj:cb:=top 106
abbrev Gk:cb:=top 107
abbrev tV:cb:=top 108
abbrev Gm:cb:=inClass (top 78) 0
abbrev Gn:cb:=inClass (top 78) 1
abbrev FP:cb:=inClass (top 62) 0
abbrev Gp:cb:=inClass (top 62) 1
abbrev Gq:cb:=inClass (top 62) 2
abbrev Gr:cb:=inClass (top 62) 3
abbrev EM:cb:=inClass (top 62) 4
abbrev FQ:cb:=inClass (top 62) 5
abbrev EE:cb:=inClass (top 62) 6
abbrev Fu:cb:=inClass (top 62) 8
abbrev E7:cb:=inClass (top 62) 12
abbrev Em:cb:=inClass (top 62) 13
abbrev FR:cb:=inClass (top 62) 14
abbrev Fv:cb:=inClass (top 73) 0
abbrev EN:cb:=inClass (top 73) 1
abbrev FT:cb:=inClass (top 73) 2
abbrev FU:cb:=inClass (top 73) 3
abbrev Fw:cb:=inClass (top 73) 4
abbrev Fx:cb:=inClass (top 73) 5
abbrev EO:cb:=inClass (top 73) 10
abbrev EF:cb:=inClass (top 73) 11
abbrev Fy:cb:=inClass (top 73) 12
abbrev FV:cb:=inClass (top 73) 13
abbrev Eu:cb:=inClass (top 73) 17
abbrev Es:cb:=inClass (top 73) 18
abbrev E8:cb:=inClass (top 73) 19
abbrev EG:cb:=inClass (top 73) 20
abbrev E9:cb:=inClass (top 73) 21
abbrev ER:cb:=inClass (top 73) 22
abbrev Ew:cb:=inClass (top 73) 23
abbrev EA:cb:=inClass (top 73) 24
abbrev EB:cb:=inClass (top 73) 16
abbrev ES:cb:=inClass (top 4) 0
abbrev ET:cb:=inClass (top 11) 0
abbrev UG:cb:=OH
abbrev Td:cb:=Oe
abbrev UH:cb:=OI
abbrev wM:Z af:=["self","word","why"]
def Zad:aP wM wM (aJ ES):=.aY
def Zb5(F:yV K "__init__" "KinError.__init__" ES f fd)(o:Bl B):aE P w K B I aL 1 f fd wM (Uw K):=by
 refine F.ok Zad (λk H Q E h=>?_) (λr A d s H k Q E i h=>?_)
 ·obtain⟨a,C,b,y,rfl,_⟩:=h;rfl
 obtain⟨a,C,b,y,rfl,j,e,l,m,g,q⟩:=h;refine⟨_,(aj (bZ (ZeL rfl o.Zbd (aa (pv 0) (aa (PL (yb (K:=K) rfl (ye (pv 2) (λ_=>rfl))) (Zgg (IV (S6 i (pv 1)) (IV a9 (IV (S6 i (pv 2)) ZhN)))) (pv 1)) ae)))) (av (Zgb (pv 0) (pv 1)))),?_⟩;refine hP ?_;intros;have fin:∀t:af,JW K [.ref a,.str t] H λ_ H1=>Um K (gf 0) (gf 1) "word" {nx:=λ_ p=>Q .aC p,rt:=Q} [O (.ref a),O (.str b),O (.str y)] H1:=λt=>
  ⟨a,C,.str t,rfl,e,j,_,rfl,_,rfl,a,C,rfl,e,l,.inl ⟨j,q⟩⟩
 have n:(1000200:Nat)<=sizeLine:=by rw[dg];decide
 refine⟨_,rfl,_,rfl,_,⟨(eL g (by decide)),rfl⟩,?_⟩;refine bA (λc=>?_) (λc=>?_)
 ·refine⟨_,rfl,.inl ⟨b,rfl,(eL m (by decide)),b,rfl,?_,?_⟩⟩
  ·rw[lC];show 0+b.length<=sizeLine;omega
  refine⟨_,rfl,?_,?_⟩
  ·rw[lC,lC];show 0+b.length+2<=sizeLine;omega
  refine⟨_,rfl,.inl ⟨y,rfl,(eL g (by decide)),y,rfl,?_,?_,fin _⟩⟩
  ·rw[lC,lC,lC];show 0+b.length+2+y.length<=sizeLine;omega
  ·rw[lC,lC,lC];show 0+b.length+2+y.length<=sizeLine;omega
 ·exact⟨_,rfl,fin _⟩
def Zae:aP wH wH (aJ ET):=.aY
def Zb6(F:yV K "__init__" "NoPerson.__init__" ET f fd)(r:KD K o "__init__" n)(d:aE P w K B I aL 1 n p wM (Uw K))(t:Binds K p wM [])(g:B "KinError"=O (.ref o))(e:dJ K c)(j:dw K c "word"):
  aE P w K B I aL 2 f fd wH (Ux "no person" c):=by
 refine F.ok Zae (λi H Q E h=>?_) (λu A b s H i Q E l h=>?_)
 ·obtain⟨a,y,rfl,_⟩:=h;rfl
 obtain⟨a,y,rfl,m,k,q⟩:=h;refine⟨_,(av (bZ (ZeJ r d (l.mono (by decide)) rfl g t .nil yJ (aa (pv 0) (aa a9 (aa (pv 1) ae)))))),?_⟩;exact⟨_,rfl,_,rfl,a,c,_,y,rfl,m,e,j,QD,k,q⟩
abbrev Dj:Z af:=["_law_script","_law_k"]
def Ziv:aP Dj Dj (aJ UG):=⟨rfl,rfl,rfl,QK,rfl,QK,QK⟩
def ZgD(F:aM K "_law_cell" "_law_cell" UG f fd)(j:B "len"=aF):aE P w K B I aL 1 f fd Dj (SY K):=by
 refine F.ok Ziv (λg H Q E h=>?_) (λn A b s H g Q E m h=>?_)
 ·obtain⟨a,i,k,rfl,_⟩:=h;rfl
 obtain⟨a,i,k,rfl,d,l,q⟩:=h;refine⟨_,aj (aU (bH nj (pv 1) (fJ N4 rfl j rB (aa (pv 0) ae))) (av (aI (Ug IT (pv 0) (pv 1) (λ_ _=>rfl)))) a8)
  (av (aI aS)),?_⟩
 refine⟨_,rfl,_,rfl,a,_,rfl,.inl d,_,_,rfl,rfl,_,rfl,?_⟩;refine bA (λc=>?_) (λc=>?_)
 ·have e:=eH c;rw[(Ya _)] at e;exact⟨_,rfl,_,rfl,a,_,_,_,rfl,rfl,d,oB l e,q _⟩
 ·exact q _
abbrev zH:Z af:=["_law_cell_here","_law_parts"]
def pX:aP ["_law_cell_here","_law_parts","_law_one","_law_two","_law_six","_law_found","_law_part"] zH (aJ Td):=⟨rfl,rfl,rfl,QK,rfl,QK,QK⟩
def Zfc(F:aM K "_law_draws" "_law_draws" Td f fd)(X:B "abs"=aF):aE P w K B I aL 1 f fd zH (Bh K):=by
 refine F.ok pX (λvs H Q E h=>?_) (λbL A D s H vs Q E hr h=>?_)
 ·obtain⟨c,a,v,rfl,_⟩:=h;rfl
 obtain⟨c,a,v,rfl,hS,J,hlen,q⟩:=h;refine⟨_,aj (aU (bH nj (fJ PM rfl X SU (aa (pv 0) ae)) (bh SA aS aS))
   (aj (gI (i:=2) pX.nd rfl (hH rfl) (bh eQ (bh i6 (bh p_ (pv 0) aS) aS) aS))
   (aj (gI (i:=3) pX.nd rfl (hH rfl) (bh eQ (bh i6 (bh i6 (bh p_ (pv 2) (pv 2)) (bh p_ aS (pv 2))) (pv 0)) aS))
   (aj (gI (i:=4) pX.nd rfl (hH rfl) (bh eQ (bh i6 (bh p_ (pv 3) aS) (pv 2)) aS))
   (av (gI (i:=0) pX.nd rfl (hH rfl) (bh i6 (pv 3) (bh p_ aS (bh i6 (pv 4) (bh p_ aS (pv 2))))))))))
   (av (gI (i:=0) pX.nd rfl (hH rfl) (bh By (fJ PM rfl X SU (aa (pv 0) ae)) (bh SA aS aS)))))
  (aj (gI (i:=5) pX.nd rfl (hH rfl) (yx ae))
  (aj (dE eJ rfl (Q4 (pv 1)) (q5 (i:=6) pX.nd rfl (hH rfl))
   (aj (bZ (gT ij ku kr x9 (pv 5) (aa (bh eQ (pv 0) (pv 6)) ae)))
   (av (gI (i:=0) pX.nd rfl (hH rfl) (bh Bb (pv 0) (pv 6))))))
  (av (aI (pv 5))))),?_⟩
 refine eC (λm H'=>H'=H/\∃R j g d,m=[O (.int R),O (.ref a),j,g,d,aF,aF]) (λnx k=>?_) ?_
 ·refine⟨_,rfl,c,rfl,_,_,rfl,rfl,⟨QD,QD,QD⟩,_,_,rfl,rfl,_,rfl,?_⟩;refine bA (λ_=>?_) (λ_=>?_)
  ·refine⟨_,rfl,_,_,rfl,rfl,.inr ⟨QD,QD⟩,_,_,rfl,rfl,_,_,rfl,rfl,(by show(0:Int)<2147483647;decide),?_⟩;refine⟨_,rfl,_,rfl,_,_,rfl,rfl,.inl (ZhE _ QD QD),_,rfl,_,_,rfl,rfl,.inl ⟨QD,QD⟩,_,_,rfl,rfl,_,rfl,_,_,rfl,rfl,_,_,rfl,rfl,(by show(0:Int)<2147483399;decide),?_⟩;refine⟨_,rfl,_,_,rfl,rfl,.inr ⟨QD,QD⟩,_,rfl,_,_,rfl,rfl,_,_,rfl,rfl,(by show(0:Int)<1000000007;decide),?_⟩;refine⟨_,rfl,_,rfl,_,rfl,_,_,rfl,rfl,.inl ⟨QD,QD⟩,_,_,rfl,rfl,_,_,rfl,rfl,.inl ⟨QD,QD⟩,_,_,rfl,rfl,k _ _ ⟨rfl,_,_,_,_,rfl⟩⟩
  ·exact⟨_,rfl,c,rfl,_,_,rfl,rfl,⟨QD,QD,QD⟩,_,_,rfl,rfl,k _ _ ⟨rfl,_,_,_,_,rfl⟩⟩
 ·rintro m T ⟨rfl,R,j,g,d,rfl⟩;refine⟨(by show 0<=sizeLine;decide),λl N=>?_⟩;have W:ag T (upd T l (.lst [])):=cF N _;refine⟨_,rfl,a,rfl,⟨_,W.seq hS⟩,fH (K:=K) (a:=a) (xs:=v.map V.int) (λi m r=>∃c j g d G n,m=[O (.int c),O (.ref a),j,g,d,O (.ref l),G]/\ag T r/\r l=O (.lst (n.map V.int))/\Paired Bd n (v.take i))
   ⟨R,j,g,d,aF,[],rfl,W,aT,by rw[Dk];exact .nil⟩ (λi m r _ ⟨_,_,_,_,_,_,_,t,_⟩=>t.seq hS) ?_ ?_⟩
  ·rintro i y m r hi ⟨c,j,g,d,G,n,rfl,t,z,u⟩;obtain⟨p,rfl,L⟩:=ot hi;have dU:i<v.length:=(Yn.mp L).1;obtain⟨x,p1⟩:=J p (Yj L);have dl:=u.length;rw[We] at dl;refine⟨_,rfl,.inl ⟨rfl,_,aq.of z⟩,_,rfl,_,rfl,_,_,rfl,rfl,x,l,_,_,rfl,rfl,z,(by rw[Ya];exact kG QO),?_⟩;refine⟨_,rfl,_,rfl,_,_,rfl,rfl,⟨x,p1⟩,?_⟩;refine⟨_,j,g,d,_,n++[c % p],rfl,λb o e=>?_,?_,?_⟩
   ·rw[aN (bP e N)];exact t b o e
   ·rw[aT,PV]
   ·rw[Yz,L];exact u.snoc ⟨Jg _ (Me x),Wz _ x⟩
  ·rintro m r ⟨c,j,g,d,G,n,rfl,t,z,u⟩;rw[Ya,Y7] at u;exact⟨_,rfl,q l n r N t z u⟩
abbrev MF:Z af:=["_law_code","_law_size"]
def yD:aP ["_law_code","_law_size","_law_free","_law_found","_law_k"] MF (aJ UH):=⟨rfl,rfl,rfl,QK,rfl,QK,QK⟩
def ZgE(F:aM K "_law_turn" "_law_turn" UH f fd)(mL:B "list"=aF)(J:B "range"=aF)(mT:B "tuple"=aF):aE P w K B I aL 1 f fd MF S0:=by
 refine F.ok yD (λvs H Q E h=>?_) (λbL A x s H vs Q E hr h=>?_)
 ·obtain⟨c,n,rfl,_⟩:=h;rfl
 obtain⟨c,n,rfl,hn,q⟩:=h;refine⟨_,aj (gI (i:=2) yD.nd rfl (hH rfl) (fh (Fn rfl) rfl mL s_ (aa (fh As rfl J vJ (aa (pv 1) ae)) ae)))
  (aj (gI (i:=3) yD.nd rfl (hH rfl) (yx ae))
  (aj (dE eJ rfl (pN rfl J (aa (pv 1) ae)) (q5 (i:=4) yD.nd rfl (hH rfl))
   (aj (bZ (gT ij ku kr x9 (pv 3) (aa (gT ij PySem.F.slot_list_pop PySem.F.type_list_pop Zey (pv 2) (aa (bh eQ (pv 0) (bh By (pv 1) (pv 4))) ae)) ae)))
   (av (gI (i:=0) yD.nd rfl (hH rfl) (bh Bb (pv 0) (bh By (pv 1) (pv 4)))))))
  (av (aI (fh u6 rfl mT oq (aa (pv 3) ae)))))),?_⟩
 refine⟨_,rfl,_,rfl,λr X=>?_⟩;refine⟨r,n,rfl,aT,(eL hn (by decide)),λu L=>?_⟩;refine⟨(by show 0<=sizeLine;decide),λl z=>?_⟩;have W:ag H (upd H r (.kh 0 (n:Int))):=cF X _;have T:=W.trans (cF L (.lst ((bJ n).map V.int)));have g3:=T.trans (cF z (.lst []));have G:=bP aT z;refine⟨_,rfl,(n:Int),rfl,QO,QO,AM (λi m g=>∃c y a fs,m=[O (.int c),O (.int (n:Int)),O (.ref u),O (.ref l),y]/\ag H g/\g u=O (.lst (fs.map V.int))/\g l=O (.lst (a.map V.int))/\(a++fs).Perm (bJ n)/\a.length=i)
  ⟨c,aF,[],bJ n,rfl,g3,by rw[aN G];exact aT,aT,by rw[MH],rfl⟩ ?_ ?_⟩
 ·rintro i m g hi ⟨c,y,a,fs,rfl,j,D,p,d,dl⟩;have v:=d.length_eq;rw[Ye,fG,dl] at v;have k:(0:Int)<(n:Int)-(0+(i:Int)):=QO
  have m0:=Jg c (Me k);have m1:=Wz c k;have R:(c % ((n:Int)-(0+(i:Int)))).toNat<fs.length:=QO
  refine⟨_,rfl,.inl ⟨rfl,_,aq.of p⟩,_,rfl,.inl ⟨rfl,_,aq.of D⟩,_,rfl,_,rfl,_,rfl,_,_,rfl,rfl,_,_,rfl,rfl,k,u,_,_,_,.int fs[(c % ((n:Int)-(0+(i:Int)))).toNat],rfl,rfl,D,QO,QO,((IQ (JU m0 (by rw[Ya];omega))).1),by rw[Yi,Yc R];rfl,?_⟩;refine⟨l,_,_,rfl,rfl,by rwa[aN G.symm],(by rw[Ya];exact kG QO),?_⟩;refine⟨_,rfl,_,rfl,_,rfl,_,_,rfl,rfl,_,_,rfl,rfl,⟨k,QO⟩,?_⟩;refine⟨_,_,a++[fs[(c % ((n:Int)-(0+(i:Int)))).toNat]],fs.eraseIdx (c % ((n:Int)-(0+(i:Int)))).toNat,rfl,λb o e=>?_,?_,?_,?_,?_⟩
  ·have nl:=bP (T b o e) z;have nu:=bP (W b o e) L;rw[aN nl,aN nu];exact j b o e
  ·rw[aN G,aT,O4]
  ·rw[aT,PV]
  ·refine List.Perm.trans ?_ d;rw[Jd];refine List.Perm.append_left a ?_;exact(Ov fs _ R).symm
  ·rw[Ye,List.length_singleton,dl]
 ·rintro m g ⟨c,y,a,fs,rfl,j,D,p,d,dl⟩;have v:=d.length_eq;rw[Ye,fG,dl] at v;have e:fs=[]:=List.eq_nil_of_length_eq_zero QO;rw[e,Y8] at d;refine⟨_,rfl,l,_,rfl,.inl ⟨aq.of p,λt N=>?_⟩⟩;exact q t a _ (j.free N) (j.trans (cF N _)) aT d
def ZgF(h:Paired Bd ds [a,b,c,d,e]):∃v w x y z,ds=[v,w,x,y,z]/\Bd v a/\Bd w b/\Bd x c/\Bd y d/\Bd z e:=by
 cases h with|cons l h=>cases h with|cons k h=>cases h with|cons j h=>cases h with|cons i h=>cases h with|cons g h=>
  cases h
  grind
def aQ(h:q (σ.set i (O x)) H):qf i x σ H q:=h
def Te{K:ah}{H:Hp}{p:U}{b:Z V}{i:Nat}{x:V}{Q:VK}(a:aq K H p b\/aB K H p b)(h:b[i]?=O x)(q:Q x H):L6 K (.ref p) (.int (0+(i:Int))) H Q:=by
 rcases a with a|a;·exact .inl ⟨p,_,_,_,rfl,rfl,a,P0 h,q⟩
 ·exact .inr (.inl ⟨p,_,_,_,rfl,rfl,a,P0 h,q⟩)
def A3(v:V):decide (v=v)=ar:=du rfl
theorem all_true(n:Nat):(List.replicate n ar).all id=ar:=by
 induction n with
 |zero=>rfl
 |succ n a=>rw[DM,Ju,a];rfl
inductive Qf(m:Nat)(a:Z V)(H:Hp)(Q:VK):Prop
 |mk (x y:V) (d:Dt) (k:Nat) (i:a=[x,y]) (h:m=k+1) (e:At H k x d) (g:At H k y d) (c:∀b,ag H b->Q (.bl ar) b):Qf m a H Q
def tL(m:Nat):Sp:=λa H Q _=>Qf m a H Q
section
variable {K:ah}{X:aR}
abbrev oV:Z af:=["_law_found","_law_due"]
def Zb7:aP oV oV (aJ AB):=.aY
theorem Zfd(F:aM K "_law_same" "_law_same" AB f fd)(xZ:HasFn P w K X I n "_law_same" oV (tL n))(j:Bl X):aE P w K X I aL (n+1) f fd oV (tL (n+1)):=by
 refine F.o Zb7 λs H hr h=>?_;obtain⟨x,y,d,k,rfl,ek,l,u,q⟩:=h;obtain rfl:k=n:=(mU (Xk ek))
 have hu:=hr.l_;refine⟨_,(aj (aU (bH yv (pv 1) kJ) (av (aI (dW yv (pv 0) kJ))) a8) (aj (aU (eP (lI K j (pv 1) (kK rfl j.BB Bg))) (av (aI (pZ (lI K j (pv 0) (kK rfl j.BB Bg)) (l4 (dW cq (pv 0) (pv 1)))))) a8) (aj (aU (eP (lI K j (pv 1) (kK rfl j.Ut SX))) (av (aI (pZ (lI K j (pv 0) (kK rfl j.Ut SX)) (pZ (Zhp (lI K j (pv 0) (kK rfl j.BB Bg))) (l4 (dW cq (pv 0) (pv 1))))))) a8) (aj (aU (eP (lI K j (pv 1) (kK rfl j.vX vS))) (av (aI (pZ (lI K j (pv 0) (kK rfl j.vX vS)) (l4 (dW cq (pv 0) (pv 1)))))) a8) (aj (aU (PW.pt (pw_or (bH ni (lI K j (pv 1) (kK rfl j.tK s_)) (lI K j (pv 0) (kK rfl j.tK s_))) (pw_or1 (bH ni (lI K j (pv 1) (kK rfl j.ou oq)) (lI K j (pv 0) (kK rfl j.ou oq)))))) (av (aI gJ)) a8) (aj (aU (bH ni (dC K j (pv 0)) (dC K j (pv 1))) (av (aI gJ)) a8) (av (aI (fJ (Vk (K:=K) rfl rfl) rfl j.Us SV (aa (jE (x:="_law_k") (fr:=[("_law_found",0),("_law_due",1)]) (cl:=[("_law_found",s.heap.objs.size+1),("_law_due",s.heap.objs.size+1+1)]) rfl (.hU ⟨rfl,⟨rfl,trivial⟩⟩ ⟨⟨rfl,.inl rfl,.inl rfl,rfl⟩,⟨⟨rfl,.inl rfl,.inl rfl,rfl⟩,trivial⟩⟩) (pN rfl j.jW (aa (dC K j (pv 1)) ae)) (λ_ _ _ _=>m5) (λ_ _ _ _=>(Ky xZ hr (mR _) rfl (aa (bc (Rq (K:=K) rfl) (pv 1) (pv 0)) (aa (bc (Rq (K:=K) rfl) (pv 2) (pv 0)) ae))))) ae)))))))))),?_⟩;refine Zk ?_;intros;have sq:(∃(p r:U) (A v:Z V) (G:Z Dt) (t:a7) (b1 b2:cm) (m:Nat),x=.ref p/\y=.ref r/\jK K H (.ref p) t/\jK K H (.ref r) t/\kitOne K t (.type "bool")=O a_/\kitOne K t (.type "int")=O a_/\kitOne K t (.type "str")=O a_/\
   kitOne K t (.type "list")=O b1/\kitOne K t (.type "tuple")=O b2/\(aq K H p A\/aB K H p A)/\(aq K H r v\/aB K H r v)/\G.length<=1000/\Paired (At H m) A G/\Paired (At H m) v G/\k=m+1)\/
   (x=.aC/\y=.aC)\/(∃b,x=.bl b/\y=.bl b)\/(∃i,x=.int i/\y=.int i)\/∃z,x=.str z/\y=.str z:=by
  cases d with
  |aC=>unfold At at l u;exact .inr (.inl ⟨l,u⟩)
  |bl b=>unfold At at l u;exact .inr (.inr (.inl ⟨b,l,u⟩))
  |int i=>unfold At at l u;exact .inr (.inr (.inr (.inl ⟨i,l,u⟩)))
  |str z=>unfold At at l u;exact .inr (.inr (.inr (.inr ⟨z,l,u⟩)))
  |lst G=>
   cases k with
   |zero=>unfold At at l;exact l.elim
   |succ m=>
    unfold At at l u;obtain⟨a,A,e0,J,lz,Q⟩:=l;obtain⟨b,v,MJ,E,_,N⟩:=u;exact .inl ⟨a,b,A,v,G,.type "list",ar,a_,m,e0,MJ,.lst J,.lst E,ZhR,ZhS,ZhT,ZhU,ZhV,.inl (aq.of J),.inl (aq.of E),lz,Q,N,rfl⟩
  |tup G=>
   cases k with
   |zero=>unfold At at l;exact l.elim
   |succ m=>
    unfold At at l u;obtain⟨a,A,e0,J,lz,Q⟩:=l;obtain⟨b,v,MJ,E,_,N⟩:=u;exact .inl ⟨a,b,A,v,G,.type "tuple",a_,ar,m,e0,MJ,.tup J,.tup E,ZhW,ZhX,ZhY,ZhZ,Zh0,.inr (aB.of J),.inr (aB.of E),lz,Q,N,rfl⟩
 clear l u;rcases sq with⟨p,r,A,v,G,t,b1,b2,m,rfl,rfl,T1,T,kb,ki,ksr,kl,kt,hp,hq,hz,Q,N,ek⟩|⟨rfl,rfl⟩|⟨b,rfl,rfl⟩|⟨i,rfl,rfl⟩|⟨z,rfl,rfl⟩
 ·have l1:=cZ Q;have l2:=cZ N;refine⟨_,rfl,rfl,_,rfl,?_⟩;refine bA (λc=>absurd (eH c) (λz=>nomatch z)) (λ_=>aW ?_);refine⟨_,rfl,_,_,_,a_,rfl,T,kb,_,rfl,bV (aW ?_)⟩;refine⟨_,rfl,_,_,_,a_,rfl,T,ki,_,rfl,bV (aW ?_)⟩;refine⟨_,rfl,_,_,_,a_,rfl,T,ksr,_,rfl,bV (aW ?_)⟩;refine⟨_,rfl,_,_,_,b1,rfl,T,kl,_,rfl,_,_,_,b1,rfl,T1,kl,rfl,_,rfl,vW rfl ?_⟩;refine⟨_,rfl,_,_,_,b2,rfl,T,kt,_,rfl,_,_,_,b2,rfl,T1,kt,rfl,_,rfl,vW rfl (aW ?_)⟩;refine⟨_,rfl,p,_,rfl,hp,_,rfl,r,_,rfl,hq,rfl,_,rfl,vW (by rw[l1,l2]) (aW ?_)⟩;refine⟨_,rfl,r,_,rfl,hq,_,rfl,QO,QO,λD hD=>xX (lo:=0) (n:=((v.length:Nat):Int).toNat)
   (λi W L=>ag H L/\L D=O (.lst W)/\W=(List.replicate i ar).map V.bl) ⟨cF hD _,aT,rfl⟩ ?_ ?_⟩
  ·rintro i W L hi ⟨g,h1,rfl⟩;rw[Y9] at hi;have sq:∀{a:U} {R:Z V},(aq K H a R\/aB K H a R)->(aq K L a R\/aB K L a R):=λ{a R} z=>by
    rcases z with z|z;·exact .inl (g.seq z)
    ·exact .inr (g.jQ z)
   have gx:A[i]?=O A[i]:=Yc QO;have gy:v[i]?=O v[i]:=Yc hi;obtain⟨d1,J,a1⟩:=fY Q gx;obtain⟨d2,E,a2⟩:=fY N gy;rw[J] at E;cases E;refine mE (dk ?_);refine⟨_,rfl,_,rfl,Te (sq hp) gx ?_⟩;refine⟨_,rfl,_,rfl,Te (sq hq) gy ?_⟩;refine⟨_,_,d1,m,rfl,ek,a1.same g,a2.same g,λH2 g2=>?_⟩;refine⟨g2 _ _ h1,by rw[Ya,W6];exact kG QO,λb o e=>?_,aT,?_⟩
   ·rw[aN (bP e hD)];exact g2 b o (g b o e)
   ·rw[CP,Yp];rfl
  ·rintro W L ⟨g,h1,e⟩;refine⟨D,_,rfl,aq.of (by rw[h1,e]),?_⟩;rw[all_true];exact q L g
 ·refine⟨_,rfl,rfl,_,rfl,?_⟩;refine bA (λc=>?_) (λc=>absurd (A3 _) c);exact⟨_,rfl,rfl,q H (ag.refl H)⟩
 ·refine⟨_,rfl,rfl,_,rfl,?_⟩;refine bA (λc=>absurd (eH c) (λz=>nomatch z)) (λ_=>aW ?_);refine⟨_,rfl,_,_,_,ar,rfl,.bl b,S8,_,rfl,dk ?_⟩;refine⟨_,rfl,_,_,_,ar,rfl,.bl b,S8,_,rfl,dk ?_⟩;refine⟨_,rfl,_,rfl,rfl,?_⟩;rw[A3];exact q H (ag.refl H)
 ·refine⟨_,rfl,rfl,_,rfl,?_⟩;refine bA (λc=>absurd (eH c) (λz=>nomatch z)) (λ_=>aW ?_);refine⟨_,rfl,_,_,_,a_,rfl,.int i,JX,_,rfl,bV (aW ?_)⟩;refine⟨_,rfl,_,_,_,ar,rfl,.int i,S7,_,rfl,dk ?_⟩;refine⟨_,rfl,_,_,_,ar,rfl,.int i,S7,_,rfl,dk ?_⟩;refine⟨_,rfl,_,_,_,a_,rfl,.int i,JX,_,rfl,_,rfl,dk ?_⟩;refine⟨_,rfl,_,rfl,rfl,?_⟩;rw[A3];exact q H (ag.refl H)
 ·refine⟨_,rfl,rfl,_,rfl,?_⟩;refine bA (λc=>absurd (eH c) (λz=>nomatch z)) (λ_=>aW ?_);refine⟨_,rfl,_,_,_,a_,rfl,.str z,ZhP,_,rfl,bV (aW ?_)⟩;refine⟨_,rfl,_,_,_,a_,rfl,.str z,ZhQ,_,rfl,bV (aW ?_)⟩;refine⟨_,rfl,_,_,_,ar,rfl,.str z,JY,_,rfl,dk ?_⟩;refine⟨_,rfl,_,_,_,ar,rfl,.str z,JY,_,rfl,dk ?_⟩;refine⟨_,rfl,_,rfl,rfl,?_⟩;rw[A3];exact q H (ag.refl H)
def same_none:aE P w K X I aL 0 f fd oV (tL 0):=by
 have no:∀a H Q E,¬tL 0 a H Q E:=λa H Q E h=>by
  obtain⟨_,_,_,_,_,z,_⟩:=h;omega
 exact⟨λa H Q E h=>absurd h (no a H Q E),λA b s H c d a Q E _ _ _ _ h=>absurd h (no a H Q E)⟩
theorem RF(F:aM K "_law_same" "_law_same" AB f fd)(c:Binds K fd oV [])(a:keepIn K (.ref f)=ar)(m:X "_law_same"=O (.ref f))(b:Bl X):
  ∀n:Nat,aE P w K X I aL n f fd oV (tL n)
 |0=>same_none
 |n+1=>Zfd F ⟨f,fd,RF F c a m b n,c,a,m⟩ b
end
inductive Tf(K:ah)(b:Z V)(H:Hp)(Q:VK):Prop
 |mk (p:U) (a:Z Int) (h:b=[.ref p]) (g:Row K H p a) (d:a.length<64) (e:∀c,ag H c->Q (.bl (full a)) c):Tf K b H Q
def Lj(K:ah):Sp:=λa H Q _=>Tf K a H Q
def bT(a b:Z Int):Z Int:=b.map λx=>a.getD x.toNat 0
def rh(h:full a=ar)(c:x∈a):0<=x/\x<a.length:=by
 have b:=(qV h).subset c;unfold bJ at b;obtain⟨i,d,rfl⟩:=Yf.mp b;have:=Wn.mp d;omega
abbrev jR:Z af:=["row"]
def ZcZ:aP jR jR (aJ HW):=.aY
def Zc0(F:aM K "is_turn" "is_turn" HW f fd)(m:Bl B):aE P w K B I aL 1 f fd jR (Lj K):=by
 refine F.o ZcZ @λbL A u vs Q E s H hr h=>?_;obtain⟨p,r,rfl,L,W,q⟩:=h;have hu:=hr.l_;refine⟨_,(aj (aU (eP (fJ (Zj7 (K:=K) rfl rfl) rfl m.Zje ZhF (aa (jE (x:="number") (fr:=[]) (cl:=[]) rfl (.hU trivial trivial) (ZhD (pv 0)) (λ_ _ _ _=>m5) (λ_ _ _ _=>(lI K m (pv 0) (kK rfl m.BB Bg)))) ae))) (av (aI gJ)) a8) (av (aI (dW (SS hu) (fJ (sortedK (K:=K) rfl) rfl m.A0 AN (aa (pv 0) ae)) (fh (Fn rfl) rfl m.tK s_ (aa (fh As rfl m.jW vJ (aa (dC K m (pv 0)) ae)) ae)))))),?_⟩;refine hP ?_;intros;have J:(r.map V.int).length=r.length:=Ya _;have j:∀(D:U) (a:Hp),ag H a->a D=O (.lst ((List.replicate r.length a_).map V.bl))->
   ∃(R:U) (bs:Z cm),[V.ref D]=[V.ref R]/\aq K a R (bs.map V.bl)/\tB (tC (V.bl (bs.any id))) [] a (λc T=>if c=ar then Q (.bl a_) T else
    (Uy K a_ (gf 0)) [O (.ref p)] T Q):=λD a N l=>by
  refine⟨D,_,rfl,aq.of l,_,rfl,?_⟩;rw[any_false];refine bV ?_;exact ZeQ rfl (Row.same N L) W λH' g=>q H' (N.trans g)
 have turn:∀(D:U),H D=aF->∀(i:Nat) (v:V) (d:Z V) (a:Hp),(r.map V.int)[i]?=O v->(ag H a/\a D=O (.lst d)/\d=(List.replicate i a_).map V.bl)->
   nN (B_ K) (ir (gf 0) (ir (tC (V.ty "bool")) jL)) [O v] a λy G=>G D=O (.lst d)/\d.length<sizeLine/\
    (ag H (upd G D (.lst (d++[y])))/\upd G D (.lst (d++[y])) D=O (.lst (d++[y]))/\d++[y]=(List.replicate (i+1) a_).map V.bl):=λD k i v d a t ⟨g,l,e⟩=>by
  obtain⟨z,rfl,X⟩:=ot t;have dU:i<r.length:=(Yn.mp X).1;refine⟨_,rfl,_,_,_,a_,rfl,.int z,JX,l,?_,λb o q=>?_,aT,?_⟩
  ·rw[e,Ya,W6];exact kG QO
  ·rw[aN (bP q k)];exact g b o q
  ·rw[e,CP,Yp];rfl
 refine⟨_,rfl,p,rfl,?_⟩;rcases L with n|n
 ·refine .inl ⟨⟨_,n⟩,λD k=>HG (λi d a=>ag H a/\a D=O (.lst d)/\d=(List.replicate i a_).map V.bl) ⟨cF k _,aT,rfl⟩ (λi d a _ ⟨g,_,_⟩=>g.seq n) (λi v d a t h=>mE (dk (turn D k i v d a t h))) ?_⟩;rintro d a ⟨g,l,e⟩;exact j D a g (by rw[l,e,J])
 ·refine .inr ⟨⟨_,n⟩,λD k=>AZ (λi d a=>ag H a/\a D=O (.lst d)/\d=(List.replicate i a_).map V.bl) ⟨cF k _,aT,rfl⟩ (λi d a _ ⟨g,_,_⟩=>g.jQ n) (λi v d a t h=>mE (dk (turn D k i v d a t h))) ?_⟩;rintro d a ⟨g,l,e⟩;exact j D a g (by rw[l,e,J])
inductive RG(K:ah)(g:Z V)(H:Hp)(Q:VK):Prop
 |mk (a b:U) (c d:Z Int) (m:g=[.ref a,.ref b]) (l:aB K H a (c.map V.int)) (j:aB K H b (d.map V.int)) (k:(∀x∈c,0<=x/\x<d.length)) (i:c.length<64) (h:∀(t:U) (e:Hp),H t=aF->ag H e->e t=O (.tup ((bT d c).map V.int))->Q (.ref t) e):RG K g H Q
def KN(K:ah):Sp:=λa H Q _=>RG K a H Q
abbrev oW:Z af:=["first","then"]
def Zb8:aP oW oW (aJ GP):=.aY
def Zb9(F:aM K "followed" "followed" GP f fd)(N:Bl B):aE P w K B I aL 1 f fd oW (KN K):=by
 refine F.o Zb8 λs H Q h=>?_;obtain⟨a,b,k,m,rfl,y,L,G,R,q⟩:=h;have E:(bT m k).length=k.length:=by unfold bT;rw[Ya]
 refine⟨_,(av (aI (fh (u6) rfl N.ou oq (aa (jE (x:="section") (fr:=[("then",1)]) (cl:=[("then",s.heap.objs.size+1)]) rfl (.hU ⟨rfl,trivial⟩ ⟨⟨rfl,.inl rfl,.inl rfl,rfl⟩,trivial⟩) (Bx (pv 0)) (λ_ _ _ _=>m5) (λ_ _ _ _=>(bc (iT K) (pv 1) (pv 0)))) ae)))),?_⟩;refine⟨_,rfl,a,rfl,⟨_,y⟩,λD u=>AZ (λi e g=>ag H g/\g D=O (.lst e)/\e=((bT m k).take i).map V.int) ⟨cF u _,aT,rfl⟩ (λi e g _ ⟨c,_,_⟩=>c.jQ y) ?_ ?_⟩
 ·rintro i v e g J ⟨c,l,j⟩;obtain⟨z,rfl,p⟩:=ot J;have A:=G z (Yj p);refine mE (dk ⟨_,rfl,_,rfl,b,_,_,_,rfl,rfl,c.jQ L,oB A.1 A.2,l,?_,λd o n=>?_,aT,?_⟩)
  ·rw[j,Ya,We,E];exact kG QO
  ·rw[aN (bP n u)];exact c d o n
  ·rw[j,Yz,HH];unfold bT;rw[Yi,p];rfl
 ·rintro e g ⟨c,l,j⟩;refine⟨D,_,rfl,.inl ⟨aq.of l,λt r=>q t _ (c.free r) (c.trans (cF r _)) ?_⟩⟩;rw[aT,j,Ya,Wp (by rw[E];exact mR _)]
def kP(x:Int):Z Int->Nat
 |[]=>0
 |y::r=>if y=x then 0 else kP x r+1
theorem A4{x:Int}:∀{l:Z Int},x∈l->l[kP x l]?=O x/\∀m,m<kP x l->l[m]?≠O x
 |[],h=>by cases h
 |y::r,h=>by
  unfold kP;by_cases e:y=x;·grind
  ·rw[bt e];obtain⟨c,b⟩:=A4 ((Ys.mp h).resolve_left λz=>e z.symm);refine⟨by rwa[Xr],λm a=>?_⟩;cases m with
   |zero=>grind
   |succ m=>grind
def AQ(b:l.Nodup)(h:l[k]?=O x):kP x l=k:=by
 obtain⟨a,c⟩:=A4 (Yj h);exact(List.getElem?_inj (by rcases Yn.mp a with⟨z,_⟩;exact z) b).mp (a.trans h.symm)
def inv(a:Z Int):Z Int:=(bJ a.length).map λi=>(kP i a:Int)
def fZ(a:Z Int):(inv a).length=a.length:=by unfold inv;rw[Ya,fG]
def Bk{i:Nat}(h:i<xs.length):(inv xs)[i]?=O (kP (i:Int) xs:Int):=by
 unfold inv;rw[Yi,mZ h];rfl
def AD(h:full xs=ar):xs.Nodup:=(qV h).nodup_iff.mpr (Mi.Oy _)
def Qg(h:full xs=ar)(a:i<xs.length):(i:Int)∈xs:=(qV h).symm.subset (Yj (mZ a))
def kH(h:full xs=ar):full (inv xs)=ar:=by
 have p:(xs.map λi=>(kP i xs:Int)).Perm (inv xs):=(qV h).map _;have e:xs.map (λi=>(kP i xs:Int))=bJ xs.length:=by
  refine Ww λi=>?_;rw[Yi];by_cases a:i<xs.length
  ·rw[mZ a,Yc a];show O (kP xs[i] xs:Int)=O (i:Int);rw[AQ (AD h) (Yc a)]
  ·rw[Y4 (fU a),Y4 (by rw[fG];exact fU a)];rfl
 rw[e] at p;exact tD p.symm
def inv_inv(h:full xs=ar):inv (inv xs)=xs:=by
 refine Ww λi=>?_;by_cases a:i<xs.length
 ·rw[Bk (by rwa[fZ]),Yc a];have b:=rh h (Ji a);have c:(xs[i]).toNat<xs.length:=QO
  have e:((xs[i].toNat:Nat):Int)=xs[i]:=QO
  have g:(inv xs)[(xs[i]).toNat]?=O (i:Int):=by rw[Bk c,e,AQ (AD h) (Yc a)]
  rw[AQ (AD (kH h)) g,e]
 ·rw[Y4 (by rw[fZ,fZ];exact fU a),Y4 (fU a)]
def Qh(a:i<xs.length):(inv xs).take (i+1)=(inv xs).take i++[(kP (i:Int) xs:Int)]:=by
 rw[Yz,Bk a];rfl
inductive Tg(d:Z V)(H:Hp)(Q:VK):Prop
 |mk (a:U) (b:Z Int) (j:d=[.ref a]) (i:H a=O (.tup (b.map V.int))) (g:b.length<64) (h:full b=ar) (e:∀(t:U) (c:Hp),H t=aF->ag H c->c t=O (.tup ((inv b).map V.int))->Q (.ref t) c):Tg d H Q
def Ce:Sp:=λa H Q _=>Tg a H Q
abbrev oX:Z af:=["turn"]
def ZaF:aP oX oX (aJ Fp):=.aY
def ZaG(F:aM K "turned_back" "turned_back" Fp f fd)(p:Bl B):aE P w K B I aL 1 f fd oX Ce:=by
 refine F.ok ZaF (λJ H Q E h=>?_) (λW A l s N J Q E T h=>?_)
 ·obtain⟨a,b,rfl,_⟩:=h;rfl
 obtain⟨a,b,rfl,G,R,L,q⟩:=h;refine⟨_,(av (aI (fh (u6) rfl p.ou oq (aa (jE (x:="section") (fr:=[("turn",0)]) (cl:=[("turn",s.heap.objs.size+1)]) rfl (.hU ⟨rfl,trivial⟩ ⟨⟨rfl,.inl rfl,.inl rfl,rfl⟩,trivial⟩) (pN rfl p.jW (aa (dC K p (pv 0)) ae)) (λ_ _ _ _=>m5) (λ_ _ _ _=>(Oa (pv 1) (aa (pv 0) ae)))) ae)))),?_⟩;have g:(b.map V.int).length=b.length:=Ya _;refine⟨_,rfl,a,_,rfl,.inr (aB.of G),_,rfl,by rw[g];omega,by rw[g];omega,λD z=>xX
   (λi e k=>ag N k/\k D=O (.lst e)/\e=((inv b).take i).map V.int) ⟨cF z _,aT,rfl⟩ ?_ ?_⟩
 ·rintro i e k m ⟨c,n,j⟩;rw[Y9,g] at m;rw[Dm];have v:=A4 (Qg L m);have r:=c _ _ G;refine mE (dk ⟨_,rfl,a,b,rfl,r,_,rfl,(i:Int),kP (i:Int) b,rfl,r,v.1,v.2,n,?_,λd o u=>?_,aT,?_⟩)
  ·rw[j,Ya,We,fZ];exact kG QO
  ·rw[aN (bP u z)];exact c d o u
  ·rw[j,Qh m,Yp];rfl
 ·rintro e k ⟨c,n,j⟩;refine⟨D,_,rfl,.inl ⟨aq.of n,λt y=>q t _ (c.free y) (c.trans (cF y _)) ?_⟩⟩;rw[aT,j,Y9,g,Wp (by rw[fZ];exact mR _)]
inductive Pj(b:Z V)(H:Hp)(Q:VK):Prop
 |mk (n:Nat) (e:b=[.int (n:Int)]) (d:n<=1000) (c:∀(t:U) (a:Hp),H t=aF->ag H a->a t=O (.tup ((bJ n).map V.int))->Q (.ref t) a):Pj b H Q
def IZ:Sp:=λa H Q _=>Pj a H Q
def Zfe:aP ["size"] ["size"] (aJ IY):=.aY
def Zff(F:aM K "still" "still" IY f fd)(c:Bl B):aE P w K B I aL 1 f fd ["size"] IZ:=by
 refine F.o Zfe λs H e h=>?_;obtain⟨n,rfl,d,q⟩:=h;refine⟨_,(av (aI (fh (NX rfl) rfl c.ou oq (aa (fh As rfl c.jW vJ (aa (pv 0) ae)) ae)))),?_⟩;exact⟨_,rfl,_,rfl,λr a=>⟨r,n,rfl,aT,d,λt b=>q t _ ((cF a _).free b) ((cF a _).trans (cF b _)) aT⟩⟩
inductive RH(K:ah)(b:Z V)(H:Hp)(Q:VK):Prop
 |mk (p:U) (a:Z Int) (i:b=[.ref p]) (h:aB K H p (a.map V.int)) (e:a.length<64) (g:full a=ar) (d:∀c,ag H c->Q .aC c):RH K b H Q
def KO(K:ah):Sp:=λa H Q _=>RH K a H Q
inductive Th(K:ah)(g:Z V)(H:Hp)(Q:VK):Prop
 |mk (a b:U) (c d:Z Int) (o:g=[.ref a,.ref b]) (n:aB K H a (c.map V.int)) (l:aB K H b (d.map V.int)) (m:c.length<64) (k:full c=ar) (j:full d=ar) (i:c.length=d.length) (h:∀(t:U) (e:Hp),H t=aF->ag H e->e t=O (.tup ((bT d c).map V.int))->Q (.ref t) e):Th K g H Q
def Lk(K:ah):Sp:=λa H Q _=>Th K a H Q
inductive Ti(d:Z V)(H:Hp)(Q:VK):Prop
 |mk (a:U) (b:Z Int) (j:d=[.ref a]) (i:H a=O (.tup (b.map V.int))) (g:b.length<64) (h:full b=ar) (e:∀(t:U) (c:Hp),H t=aF->ag H c->c t=O (.tup ((inv b).map V.int))->Q (.ref t) c):Ti d H Q
def Vs:Sp:=λa H Q _=>Ti a H Q
inductive Qi(K:ah)(c:Z V)(H:Hp)(Q:VK):Prop
 |mk (l e:U) (d:Z U) (n:Nat) (o:c=[.ref l]) (m:aq K H l ((e::d).map V.ref)) (j:2<=n) (k:n<=8) (i:(∀a∈e::d,∃b:Z Int,aB K H a (b.map V.int)/\b.length=n/\full b=ar)) (h:∀g,ag H g->Q .aC g):Qi K c H Q
def Ke(K:ah):Sp:=λa H Q _=>Qi K a H Q
inductive Of(K:ah)(c:Z V)(H:Hp)(Q:VK):Prop
 |mk (m f w:U) (a b:Z Int) (o:c=[.ref m,.ref f,.ref w]) (n:aB K H m (a.map V.int)) (k:aB K H f ((bT a b).map V.int)) (l:aB K H w (b.map V.int)) (j:full a=ar) (i:full b=ar) (h:a.length=b.length) (g:a.length<=8) (e:∀d,ag H d->Q .aC d):Of K c H Q
def Pk(K:ah):Sp:=λa H Q _=>Of K a H Q
def sV(b a:Z Int):(bT b a).length=a.length:=by unfold bT;rw[Ya]
def Iw(g:full xs=ar)(d:full a=ar)(e:xs.length=a.length):full (bT xs a)=ar:=by
 have c:(bT xs a).Perm ((bJ a.length).map λx=>xs.getD x.toNat 0):=(qV d).map _;have h:((bJ a.length).map λx=>xs.getD x.toNat 0)=xs:=by
  refine Ww λi=>?_;rw[Yi];by_cases b:i<a.length
  ·rw[mZ b]
   grind
  ·rw[Y4 (by rw[fG];exact fU b),Y4 (eL (l3 e) (fU b))];rfl
 rw[h] at c;exact tD (c.trans (qV g))
abbrev Zju(n:Nat)(m f w d:U):Z (af×V):=[("size",.int (n:Int)),("mother",.ref m),("father",.ref f),("wife",.ref w),("steps",.ref d)]
abbrev yE(m f w d b c a:U):Z (Key×V):=[(.inr "c",.ref m),(.inr "k",.ref f),(.inr "w",.ref w),(.inr "m",.ref d),(.inr "f",.ref b),(.inr "h",.ref c),(.inr "s",.ref a)]
def b_(H:Hp)(a:U)(b:Z Int):Prop:=H a=O (.tup (b.map V.int))
inductive Qj(H:Hp)(C L:U)(a b:Z Int):Prop
 |mk (h d m f w g c e st:U) (r:H L=O (.ins C h (Zju a.length m f w d))) (q:H d=O (.dK (yE m f w g c e st))) (o:b_ H m a) (p:b_ H f (bT a b)) (n:b_ H w b) (l:b_ H g (inv a)) (k:b_ H c (inv (bT a b))) (j:b_ H e (inv b)) (i:b_ H st (bJ a.length)):Qj H C L a b
def i8(H:Hp)(C L:U)(b a:Z Int):Prop:=Qj H C L b a
def i8.same{H b:Hp}{C L:U}{a ys:Z Int}(g:ag H b)(h:i8 H C L a ys):i8 b C L a ys:=by
 obtain⟨t,d,m,f,w,i,c,e,st,s,r,q,p,o,n,l,k,j⟩:=h;exact⟨t,d,m,f,w,i,c,e,st,g _ _ s,g _ _ r,g _ _ q,g _ _ p,g _ _ o,g _ _ n,g _ _ l,g _ _ k,g _ _ j⟩
inductive Qk(C:U)(e:Z V)(H:Hp)(Q:VK):Prop
 |mk (x g m f w:U) (a c:Z Int) (r:e=[.ref x,.ref m,.ref f,.ref w]) (q:H x=O (.ins C g [])) (n:b_ H m a) (p:b_ H f (bT a c)) (l:b_ H w c) (k:full a=ar) (j:full c=ar) (i:a.length=c.length) (h:2<=a.length) (t:a.length<=8) (s:∀d,(∀b o,H b=O o->b≠x->d b=O o)->i8 d C x a c->Q .aC d):Qk C e H Q
def Tj(C:U):Sp:=λa H Q _=>Qk C a H Q
inductive OJ(C:U)(d:Z V)(H:Hp)(Q:VK):Prop
 |mk (m w:U) (a b:Z Int) (o:d=[.ref m,.ref w]) (n:b_ H m a) (k:b_ H w b) (l:full a=ar) (j:full b=ar) (i:a.length=b.length) (h:2<=a.length) (g:a.length<=8) (e:∀(L:U) (c:Hp),ag H c->i8 c C L a b->Q (.ref L) c):OJ C d H Q
def Ql(C:U):Sp:=λa H Q _=>OJ C a H Q
structure v8(K:ah)(C:U):Prop where
 cls:gq K C
 tM:dw K C "size"
 Zfg:dw K C "mother"
 Zfh:dw K C "father"
 Ziw:dw K C "wife"
 I0:dw K C "steps"
def ZaX:aP jR jR (aJ FN):=.aY
def Zix(F:aM K "check_turn" "check_turn" FN f fd)(a:HasFn P w K B I 1 "is_turn" jR (Lj K)):aE P w K B I aL 2 f fd jR (KO K):=by
 refine F.o ZaX λs H d h=>?_;obtain⟨p,b,rfl,e,c,i,q⟩:=h;refine⟨_,(av (aU (jY (eP (aZ a d (aa (pv 0) ae)))) gH a8)),?_⟩;refine⟨_,rfl,p,b,rfl,.inr e,c,λj g=>⟨_,rfl,?_⟩⟩;rw[i];exact bV (q j g)
def Zd7:aP oW oW (aJ Ir):=.aY
def Zjv(F:aM K "behind" "behind" Ir f fd)(j:HasFn P w K B I 2 "check_turn" jR (KO K))(x:HasFn P w K B I 1 "followed" oW (KN K))(r:Bl B):aE P w K B I aL 3 f fd oW (Lk K):=by
 refine F.o Zd7 λs H d h=>?_;obtain⟨a,b,i,e,rfl,m,l,k,o,J,eq,q⟩:=h;refine⟨_,(aj (bZ (aZ j d (aa (pv 0) ae))) (aj (bZ (aZ j d (aa (pv 1) ae))) (aj (aU (bH ni (dC K r (pv 0)) (dC K r (pv 1))) gH a8) (av (aI (aZ x d (aa (pv 0) (aa (pv 1) ae)))))))),?_⟩;refine l5 ?_;intros;refine⟨_,rfl,a,i,rfl,m,k,o,λQ n=>?_⟩;refine⟨_,rfl,b,e,rfl,n.jQ l,QO,J,λN G=>?_⟩;have g:=n.trans G;have v:=g.jQ m;have u:=g.jQ l;have p:∀c:Z Int,(c.map V.int).length=c.length:=λc=>Ya _;refine⟨_,rfl,a,_,rfl,.inr v,_,rfl,b,_,rfl,.inr u,rfl,_,rfl,vW (by rw[p,p,eq]) (aW ?_)⟩;exact⟨_,rfl,_,rfl,a,b,i,e,rfl,v,u,λz A=>by exact eq▸rh o A,k,λt L y E D=>q t L (g.free y) (g.trans E) D⟩
def ZgG:aP oX oX (aJ Kc):=.aY
def Zjw(F:aM K "back" "back" Kc f fd)(j:HasFn P w K B I 2 "check_turn" jR (KO K))(k:HasFn P w K B I 1 "turned_back" oX Ce)(p:Bl B):aE P w K B I aL 3 f fd oX Vs:=by
 refine F.o ZgG λs H e h=>?_;obtain⟨a,c,rfl,g,d,i,q⟩:=h;refine⟨_,(aj (bZ (aZ j e (aa (pv 0) ae))) (av (aI (aZ k e (aa (pv 0) ae))))),?_⟩;refine⟨_,rfl,a,c,rfl,aB.of g,d,i,λr b=>?_⟩;exact⟨_,rfl,a,c,rfl,b _ _ g,d,i,λt o l n m=>q t o (b.free l) (b.trans n) m⟩
def Fz:aP ["rows","size","row"] ["rows"] (aJ FO):=.aY
theorem ZgH(F:aM K "check_rows" "check_rows" FO f fd)(A:HasFn P w K B I 1 "is_turn" jR (Lj K))(T:B "LEAST_SIZE"=O (.int 2 t1))(R:B "MOST_SIZE"=O (.int 8 X))(x:Bl B):aE P w K B I aL 2 f fd ["rows"] (Ke K):=by
 refine F.o Fz λs H G h=>?_;obtain⟨l,c,y,n,rfl,p,n2,n8,b,q⟩:=h;refine⟨_,(aj (bR 1 Fz.nd (dC K x (bc (iL K) (pv 0) aS))) (aj (aU (PW.pt (pw_or (bH nj (pv 1) (dq (v:=.int (2)) rfl T ⟨_,rfl⟩)) (pw_or1 (bH Kv (pv 1) (dq (v:=.int (8)) rfl R ⟨_,rfl⟩))))) gH a8) (av (dE eJ rfl (dH (K:=K) rfl (pv 0)) (aV 2 Fz.nd) (av (aU (PW.pt (pw_or (bH ni (dC K x (pv 2)) (pv 1)) (pw_or1 (jY (eP (aZ A G (aa (pv 2) ae))))))) gH a8)))))),?_⟩;refine i1 ?_;intros;have u:∀k:Z Int,(k.map V.int).length=k.length:=λk=>Ya _;obtain⟨W,L,E,f0⟩:=b c Yg;refine⟨_,rfl,l,_,0,.ref c,rfl,rfl,p,fL rfl,c,_,rfl,.inr L,?_⟩;rw[u,E];refine⟨_,rfl,_,_,rfl,rfl,_,rfl,bA (λr=>absurd (eH r) QO) (λ_=>?_)⟩;refine⟨_,rfl,_,_,rfl,rfl,_,rfl,bA (λr=>absurd (eH r) QO) (λ_=>aW ?_)⟩;refine⟨_,rfl,l,rfl,⟨_,p⟩,fH (λi j d=>ag H d/\∃m:bw V,j=[O (.ref l),O (.int (n:Int)),m]) ⟨ag.refl _,aF,rfl⟩ (λi j d _ ⟨g,_⟩=>g.seq p) ?_ ?_⟩
 ·rintro i v j d o ⟨g,m,rfl⟩;rw[Yi] at o;obtain⟨a,J,rfl⟩:∃a,a∈c::y/\V.ref a=v:=by
   cases e:(c::y)[i]? with
   |none=>rw[e] at o;cases o
   |some a=>grind
  obtain⟨z,t,D,Q⟩:=b a J;refine⟨_,rfl,a,_,rfl,.inr (g.jQ t),_,rfl,rfl,_,rfl,vW (by rw[u,D]) ?_⟩;refine⟨_,rfl,a,z,rfl,.inr (g.jQ t),QO,λH2 N=>⟨_,rfl,?_⟩⟩;rw[Q];exact bV (aW ⟨g.trans N,_,rfl⟩)
 ·rintro j d ⟨g,m,rfl⟩;exact q d g
abbrev MK:Z af:=["mother","father","wife"]
def EH:aP ["mother","father","wife","by_mothers","section"] MK (aJ EK):=.aY
def Zc1(F:aM K "check_parents" "check_parents" EK f fd)(r:HasFn P w K B I 3 "behind" oW (Lk K))(p:Bl B):aE P w K B I aL 4 f fd MK (Pk K):=by
 refine F.o EH λs H v h=>?_;obtain⟨m,j,n,b,a,rfl,z,o,y,D,A,eq,J,q⟩:=h;refine⟨_,(aj (bR 3 EH.nd (aZ r v (aa (pv 2) (aa (pv 0) ae)))) (av (dE eJ rfl (pN rfl p.jW (aa (dC K p (pv 1)) ae)) (aV 4 EH.nd) (av (aU (bH ni (bc (iT K) (pv 3) (pv 4)) (bc (iT K) (pv 1) (pv 4))) gH a8))))),?_⟩;refine hP ?_;intros;have k:∀d:Z Int,(d.map V.int).length=d.length:=λd=>Ya _;refine⟨_,rfl,_,rfl,n,m,a,b,rfl,y,z,QO,A,D,eq.symm,λt E G g u=>?_⟩;have L:=sV b a;refine⟨_,rfl,j,_,rfl,.inr (g.jQ o),_,rfl,by rw[k];omega,by rw[k];omega,AM
  (λi c l=>l=E/\∃e:bw V,c=[O (.ref m),O (.ref j),O (.ref n),O (.ref t),e]) ⟨rfl,aF,rfl⟩ ?_ ?_⟩
 ·rintro i c l x ⟨rfl,e,rfl⟩;rw[Y9,k] at x;have at_:dI ((bT b a).map V.int) (0+(i:Int))=O (.int ((bT b a).getD (0+(i:Int)).toNat 0)):=oB QO QO;refine⟨_,rfl,_,rfl,t,_,_,_,rfl,rfl,aB.of u,at_,_,rfl,_,rfl,j,_,_,_,rfl,rfl,g.jQ o,at_,rfl,_,rfl,vW rfl (aW ⟨rfl,_,rfl⟩)⟩
 ·rintro c l ⟨rfl,e,rfl⟩;exact q _ g
def wO{f:af}(h:fs.length<=n):(cR f y fs).length<=n+1:=Yy (F3 f y fs) (NS h)
def fs4(a b c d:V):cR "wife" d (cR "father" c (cR "mother" b (cR "size" a [])))=([("size",a),("mother",b),("father",c),("wife",d)]:Z (af×V)):=rfl
def fs5(a b c d e:V):cR "steps" e [("size",a),("mother",b),("father",c),("wife",d)]=([("size",a),("mother",b),("father",c),("wife",d),("steps",e)]:Z (af×V)):=rfl
def ds7(a b c d e f g:V):oC [] [(.inr "c",a),(.inr "k",b),(.inr "w",c),(.inr "m",d),(.inr "f",e),(.inr "h",f),(.inr "s",g)]=[(.inr "c",a),(.inr "k",b),(.inr "w",c),(.inr "m",d),(.inr "f",e),(.inr "h",f),(.inr "s",g)]:=rfl
abbrev Cf:Z af:=["self","mother","father","wife"]
def Zbh:aP Cf Cf (aJ Gm):=.aY
def ZgI(F:aM K "__init__" "Land.__init__" Gm f fd)(p:v8 K C)(u9:HasFn P w K B I 2 "check_rows" ["rows"] (Ke K))(EU:HasFn P w K B I 4 "check_parents" MK (Pk K))
  (yF:HasFn P w K B I 3 "back" oX Vs)(vO:HasFn P w K B I 1 "still" ["size"] IZ)(bl:Bl B):aE P w K B I aL 5 f fd Cf (Tj C):=by
 refine F.o Zbh λs H y h=>?_;obtain⟨x,k,m,i,c,j,v,rfl,hx,hM,hF,hW,X,W,eq,l2,J,q⟩:=h;refine⟨_,(aj (bZ (aZ u9 y (aa (yx (aa (pv 1) (aa (pv 2) (aa (pv 3) ae)))) ae))) (aj (bZ (aZ EU y (aa (pv 1) (aa (pv 2) (aa (pv 3) ae))))) (aj (yw (pv 0) (dC K bl (pv 1)) rfl) (aj (yw (pv 0) (pv 1) rfl) (aj (yw (pv 0) (pv 2) rfl) (aj (yw (pv 0) (pv 3) rfl) (av (yw (pv 0) (yn (jV a9 (pv 1) (jV a9 (pv 2) (jV a9 (pv 3) (jV a9 (aZ yF y (aa (pv 1) ae)) (jV a9 (aZ yF y (aa (pv 2) ae)) (jV a9 (aZ yF y (aa (pv 3) ae)) (jV a9 (aZ vO y (aa (dC K bl (pv 1)) ae)) yk))))))) rfl rfl (λz=>nomatch z) (Jl rfl)) rfl)))))))),?_⟩;refine Zk ?_;intros;have el:∀zs:Z Int,(zs.map V.int).length=zs.length:=λzs=>Ya _;have Xu:=Iw X W eq;have al:=sV j v;refine⟨_,rfl,_,rfl,_,rfl,by show 3<=sizeLine;decide,λl nl=>?_⟩;have T:=cF nl (.lst [.ref m,.ref i,.ref c]);refine⟨l,m,[i,c],j.length,rfl,aq.of aT,l2,J,λa A=>?_,λH2 g2=>?_⟩
 ·rcases Ys.mp A with rfl|A;·exact⟨j,aB.of (T _ _ hM),rfl,X⟩
  ·rcases Ys.mp A with rfl|A;·exact⟨bT j v,aB.of (T _ _ hF),by rw[al,eq],Xu⟩
   ·rw[Yd] at A;subst A;exact⟨v,aB.of (T _ _ hW),eq.symm,W⟩
 have G:=T.trans g2;refine⟨_,rfl,_,rfl,_,rfl,m,i,c,j,v,rfl,aB.of (G _ _ hM),aB.of (G _ _ hF),aB.of (G _ _ hW),X,W,eq,J,λH3 g3=>?_⟩;have g:=G.trans g3;have Dp:=g _ _ hx;have Dq:=g _ _ hM;have ML:=g _ _ hF;have MM:=g _ _ hW;have nm:m≠x:=λe=>by rw[e,Dp] at Dq;cases Dq
 have nf:i≠x:=λe=>by rw[e,Dp] at ML;cases ML
 have nw:c≠x:=λe=>by rw[e,Dp] at MM;cases MM
 refine⟨_,rfl,m,_,rfl,.inr (aB.of Dq),_,rfl,x,C,k,_,rfl,Dp,p.cls,p.tM,by decide,?_⟩;refine⟨_,rfl,_,rfl,x,C,k,_,rfl,aT,p.cls,p.Zfg,Jk (wO (Yh 0)) (by decide),?_⟩;refine⟨_,rfl,_,rfl,x,C,k,_,rfl,aT,p.cls,p.Zfh,Jk (wO (wO (Yh 0))) (by decide),?_⟩;refine⟨_,rfl,_,rfl,x,C,k,_,rfl,aT,p.cls,p.Ziw,Jk (wO (wO (wO (Yh 0)))) (by decide),?_⟩;rw[IM,IM,IM,el,fs4];have MN:upd H3 x (.ins C k [("size",.int (j.length:Int)),("mother",.ref m),("father",.ref i),("wife",.ref c)]) x=O (.ins C k [("size",.int (j.length:Int)),("mother",.ref m),("father",.ref i),("wife",.ref c)]):=aT;have D:∀b o,H3 b=O o->b≠x->upd H3 x (.ins C k [("size",.int (j.length:Int)),("mother",.ref m),("father",.ref i),("wife",.ref c)]) b=O o:=λb o e n=>by rw[aN n];exact e
 generalize upd H3 x (.ins C k [("size",.int (j.length:Int)),("mother",.ref m),("father",.ref i),("wife",.ref c)])=H4 at MN D⊢;have MO:=D _ _ Dq nm;have Xv:=D _ _ ML nf;have Xw:=D _ _ MM nw;intro d nd;have r:=cF nd (.dK []);have MP:upd H4 d (.dK []) d=O (.dK []):=aT;generalize upd H4 d (.dK [])=H5 at r MP⊢;refine⟨_,rfl,_,rfl,_,rfl,?_⟩;refine⟨_,rfl,m,j,rfl,r _ _ MO,mz J (by decide),X,λQ H6 nim g6 MQ=>?_⟩;refine⟨_,rfl,i,bT j v,rfl,g6 _ _ (r _ _ Xv),by omega,Xu,λL H7 njf g7 MR=>?_⟩;refine⟨_,rfl,c,v,rfl,g7 _ _ (g6 _ _ (r _ _ Xw)),by omega,W,λN H8 niw g8 hiw=>?_⟩;have Xx:=(g6.trans g7).trans g8;refine⟨_,rfl,m,_,rfl,.inr (aB.of (Xx _ _ (r _ _ MO))),j.length,by rw[el];rfl,eL J (by decide),λst H9 Dr R dz=>?_⟩;have u:=Xx.trans R;refine⟨u _ _ MP,yE m i c Q L N st,rfl,by show 7<=15;decide,?_⟩;have jS:d≠x:=bP MN nd |>.symm;have Xy:=u _ _ (r _ _ MN);refine⟨_,rfl,x,C,k,_,rfl,by rw[aN jS.symm];exact Xy,p.cls,p.I0,by show 4<1000;decide,?_⟩;rw[fs5,ds7];have E:∀{b:U} {o:HO},H9 b=O o->b≠d->b≠x->upd (upd H9 d (.dK (yE m i c Q L N st))) x (.ins C k [("size",.int (j.length:Int)),("mother",.ref m),("father",.ref i),("wife",.ref c),("steps",.ref d)]) b=O o:=λ{b o} e n1 n2=>by
  rw[aN n2,aN n1];exact e
 have t:∀{b:U} {zs:Z Int},H9 b=O (.tup (zs.map V.int))->b_ (upd (upd H9 d (.dK (yE m i c Q L N st))) x (.ins C k [("size",.int (j.length:Int)),("mother",.ref m),("father",.ref i),("wife",.ref c),("steps",.ref d)])) b zs:=λ{b zs} e=>
  E e (λz=>by rw[z,u _ _ MP] at e;cases e) (λz=>by rw[z,Xy] at e;cases e)
 refine q _ (λb o e n=>?_) ⟨k,d,m,i,c,Q,L,N,st,aT,by rw[aN jS];exact aT,t (u _ _ (r _ _ MO)),t (u _ _ (r _ _ Xv)),t (u _ _ (r _ _ Xw)),t (R _ _ (g8 _ _ (g7 _ _ MQ))),t (R _ _ (g8 _ _ MR)),t (R _ _ hiw),t dz⟩;have e4:=D _ _ (g _ _ e) n;refine E (u _ _ (r _ _ e4)) (bP e4 nd) n
abbrev Cg:Z af:=["mother","wife"]
def Zc2:aP Cg Cg (aJ HX):=.aY
def Zc3(F:aM K "land_of" "land_of" HX f fd)(T:HasFn P w K B I 2 "check_rows" ["rows"] (Ke K))(R:HasFn P w K B I 3 "behind" oW (Lk K))
  (Kg:vY P w K B I 5 "Land" C Cf (Tj C)):aE P w K B I aL 7 f fd Cg (Ql C):=by
 refine F.o Zc2 λs H p h=>?_;obtain⟨m,d,c,n,rfl,t,r,y,v,eq,J,G,q⟩:=h;refine⟨_,(aj (bZ (aZ T p (aa (yx (aa (pv 0) (aa (pv 1) ae))) ae))) (av (aI (KH Kg p (by decide) rfl (aa (pv 0) (aa (aZ R p (aa (pv 1) (aa (pv 0) ae))) (aa (pv 1) ae))))))),?_⟩;refine hP ?_;intros;refine⟨_,rfl,_,rfl,by show 2<=sizeLine;decide,λl W=>?_⟩;have u:=cF W (.lst [.ref m,.ref d]);refine⟨l,m,[d],c.length,rfl,aq.of aT,J,G,λa i=>?_,λH2 g2=>?_⟩
 ·rcases Ys.mp i with rfl|i;·exact⟨c,aB.of (u _ _ t),rfl,y⟩
  ·rw[Yd] at i;subst i;exact⟨n,aB.of (u _ _ r),eq.symm,v⟩
 have g:=u.trans g2;refine⟨_,rfl,_,rfl,_,rfl,d,m,n,c,rfl,aB.of (g _ _ r),aB.of (g _ _ t),QO,v,y,eq.symm,λfa D Xz g3 cY=>?_⟩;have A:=g.trans g3;refine⟨_,rfl,λx k E Q ne=>?_⟩;have N:upd D k (.own x) x=aF:=by rw[aN (λz=>ne z.symm)];exact E
 have j:ag D (upd (upd D k (.own x)) x (.ins C k [])):=(cF Q _).trans (cF N _);refine⟨x,k,m,fa,d,c,n,rfl,aT,j _ _ (A _ _ t),j _ _ cY,j _ _ (A _ _ r),y,v,eq,J,G,λH5 k5 X=>⟨rfl,q x H5 (λb o e=>?_) X⟩⟩;have L:=A _ _ e;exact k5 b o (j _ _ L) (bP L E)
abbrev BI(a b:Z Int):Z (af×Z Int):=[("c",a),("k",bT a b),("w",b),("m",inv a),("f",inv (bT a b)),("h",inv b),("s",bJ a.length)]
inductive Qm(C:U)(c:Z V)(H:Hp)(Q:VK):Prop
 |mk (L:U) (z:af) (b a d:Z Int) (i:c=[.ref L,.str z]) (h:i8 H C L b a) (e:(z,d)∈BI b a) (g:∀t:U,b_ H t d->Q (.ref t) H):Qm C c H Q
def Tn(C:U):Sp:=λa H Q _=>Qm C a H Q
def step_at{H:Hp}{a b ns:Z Int}{z:af}{m f w g d e c:U}(h:(z,ns)∈BI a b)(p:b_ H m a)(o:b_ H f (bT a b))(n:b_ H w b)(l:b_ H g (inv a))(k:b_ H d (inv (bT a b)))(j:b_ H e (inv b))(i:b_ H c (bJ a.length)):
  ∃t,aH (yE m f w g d e c) (.inr z)=O (.ref t)/\b_ H t ns:=by
 simp[Ys,Y1,gV] at h;rcases h with⟨rfl,rfl⟩|⟨rfl,rfl⟩|⟨rfl,rfl⟩|⟨rfl,rfl⟩|⟨rfl,rfl⟩|⟨rfl,rfl⟩|⟨rfl,rfl⟩;·exact⟨m,rfl,p⟩
 ·exact⟨f,rfl,o⟩
 ·exact⟨w,rfl,n⟩
 ·exact⟨g,rfl,l⟩
 ·exact⟨d,rfl,k⟩
 ·exact⟨e,rfl,j⟩
 ·exact⟨c,rfl,i⟩
abbrev Ci:Z af:=["self","letter"]
def Zbi:aP Ci Ci (aJ Gn):=.aY
def ZgJ(F:aM K "step" "Land.step" Gn f fd)(a:v8 K C):aE P w K B I aL 1 f fd Ci (Tn C):=by
 refine F.o Zbi λs H b h=>?_;obtain⟨L,z,D,A,G,rfl,i,j,q⟩:=h;refine⟨_,(aj (aU (jX (mY (bo b) (pv 1) (pF K 0)) QU) gH a8) (av (aI (de (bo b) (pF K 0) (pv 1) (λ_ _=>rfl))))),?_⟩;refine hP ?_;intros;obtain⟨e,d,m,R,E,Q,J,N,st,c,y,x,v,u,r,p,o,n⟩:=i;obtain⟨t,k,l⟩:=step_at j x v u r p o n;have g:=k▸eU.k y;exact⟨_,rfl,_,rfl,L,C,e,_,.ref d,rfl,c,a.cls,a.I0,rfl,d,_,rfl,g,_,rfl,bV (aW ⟨_,rfl,L,C,e,_,.ref d,rfl,c,a.cls,a.I0,rfl,_,rfl,d,_,rfl,g,q t l⟩)⟩
structure JS where
 hd:Z Nat
 ld:Z (Z Int)
 mem:Z (Nat×Z Nat)
 fr:Z (Nat×Z Int)
structure JL where
 J:U
 ha:U
 la:U
 md:U
 fd:U
 fE:Z U
 gv:Z U
 cy:Z U
def JL.fp(l:JL):Z U:=l.J::l.ha::l.la::l.md::l.fd::l.gv
abbrev JF(n:Nat)(c b a fd:U):Z (af×V):=[("size",.int (n:Int)),("heads",.ref c),("leads",.ref b),("members",.ref a),("free",.ref fd)]
def jf5(a b c d e:V):cR "free" e (cR "members" d (cR "leads" c (cR "heads" b (cR "size" a []))))=([("size",a),("heads",b),("leads",c),("members",d),("free",e)]:Z (af×V)):=rfl
abbrev dY(a:Z Nat):Z V:=a.map λi:Nat=>V.int (i:Int)
def bG(a:Z Nat)(b:Z U):Z (Key×V):=(a.zip b).map λp=>(.inl (p.1:Int),.ref p.2)
structure cT(H:Hp)(C:U)(n:Nat)(l:JL)(st:JS):Prop where
 obj:∃dx,H l.J=O (.ins C dx (JF n l.ha l.la l.md l.fd))
 heads:H l.ha=O (.lst (dY st.hd))
 jb:H l.la=O (.lst (l.fE.map V.ref))
 lead:Paired (λa xs=>H a=O (.tup (xs.map V.int))) l.fE st.ld
 ke:H l.md=O (.dK (bG (st.mem.map (·.1)) l.gv))
 mem:Paired (λa p=>H a=O (.lst (dY p.2))) l.gv st.mem
 frees:H l.fd=O (.dK (bG (st.fr.map (·.1)) l.cy))
 free:Paired (λa p=>H a=O (.lst (p.2.map V.int))) l.cy st.fr
 nd:l.fp.Nodup
 out:∀a∈l.cy,a∉l.fp
def cT.same{H b:Hp}{C:U}{n:Nat}{l:JL}{st:JS}(g:ag H b)(a:cT H C n l st):cT b C n l st:=
 ⟨let⟨c,h⟩:=a.obj;⟨c,g _ _ h⟩,g _ _ a.heads,g _ _ a.jb,L2.Paired.bu a.lead λ _ _=>g _ _,g _ _ a.ke,L2.Paired.bu a.mem λ _ _=>g _ _,g _ _ a.frees,L2.Paired.bu a.free λ _ _=>g _ _,a.nd,a.out⟩
theorem x6:∀{a:Z α} {b:Z β} {x:α},Paired F a b->x∈a->∃y,F x y:=by
 intro a b x p;induction p with
 |nil=>grind
 |cons f t c=>grind
def cT.ne{H:Hp}{C p:U}{n:Nat}{l:JL}{b:JS}(a:cT H C n l b)(h:H p=aF):p∉l.fp:=by
 intro z;unfold JL.fp at z;simp[Ys] at z;rcases z with rfl|rfl|rfl|rfl|rfl|z
 ·obtain⟨c,e⟩:=a.obj
  grind
 ·rw[a.heads] at h;cases h
 ·rw[a.jb] at h;cases h
 ·rw[a.ke] at h;cases h
 ·rw[a.frees] at h;cases h
 ·obtain⟨y,e⟩:=x6 a.mem z
  grind
theorem pP{g:Type}{H:Hp}{f:g->HO}:∀{as:Z U} {c:Z (Nat×g)} {k:Nat} {v:g},Paired (λa p=>H a=O (f p.2)) as c->c.lookup k=O v->∃a,a∈as/\aH (bG (c.map (·.1)) as) (.inl (k:Int))=O (.ref a)/\H a=O (f v):=by
 intro as c k v j;induction j with
 |nil=>grind
 |@cons a p as c e t l=>
  intro h;have n:bG ((p::c).map (·.1)) (a::as)=(Sum.inl (p.1:Int),V.ref a)::bG (c.map (·.1)) as:=rfl;rw[W7] at h;by_cases d:k=p.1
  ·have i:=beq_iff_eq.mpr d;rw[i] at h;exact⟨a,Yg,fq (by rw[d]),by rwa[←(Yo h)]⟩
  ·have i:=beq_eq_false_iff_ne.mpr d;rw[i] at h;obtain⟨b,m,q,w⟩:=l h;refine⟨b,Yw _ m,?_,w⟩;rw[n,eO (λz=>d (by have:=Du z;exact mU (lR this)))];exact q
def Zfi{q k:Nat}(z:((Sum.inl (q:Int):Key),v).1=.inl (k:Int)):k∈q::ks:=by
 grind
theorem AR:∀{as:Z U} {b:Z Nat} {k:Nat},k∉b->aH (bG b as) (.inl (k:Int))=aF
 |[],b,k,_=>by unfold bG;rw[JT];rfl
 |a::as,[],k,_=>rfl
 |a::as,q::b,k,h=>by
  have c:bG (q::b) (a::as)=(Sum.inl (q:Int),V.ref a)::bG b as:=rfl;rw[c,eO (λz=>h (Zfi z))];exact AR λz=>h (Yw _ z)
theorem AE:∀{c:Z Nat} {as:Z U} (k:Nat) (a:U),c.length=as.length->bG c as++[(.inl (k:Int),.ref a)]=bG (c++[k]) (as++[a])
 |[],[],_,_,_=>rfl
 |q::c,b::as,k,a,h=>by
  have d:bG (q::c) (b::as)=(Sum.inl (q:Int),V.ref b)::bG c as:=rfl;rw[d,Jy,(AE k a (by simpa using h))];rfl
 |[],_::_,_,_,h=>by simp at h
 |_::_,[],_,_,h=>by simp at h
structure oE(K:ah)(C:U):Prop where
 cls:gq K C
 tM:dw K C "size"
 kI:dw K C "heads"
 oy:dw K C "leads"
 vF:dw K C "members"
 tN:dw K C "free"
def JS.more(n:Nat)(a:JS):JS:=⟨a.hd++[a.hd.length],a.ld++[bJ n],a.mem++[(a.hd.length,[a.hd.length])],a.fr++[(a.hd.length,bJ n)]⟩
inductive RI(C:U)(c:Z V)(H:Hp)(Q:VK)(E:XK):Prop
 |mk (x d:U) (n:Nat) (h:c=[.ref x,.int (n:Int)]) (g:H x=O (.ins C d [])) (e:∀(l:JL) (a:Hp),l.J=x->l.gv=[]->(∀b∈l.fp,b≠x->H b=aF)->aA x H a->cT a C n l ⟨[],[],[],[]⟩->Q .aC a)
inductive G8(C:U)(c:Z V)(H:Hp)(Q:VK)(E:XK):Prop
 |mk (l:JL) (st:JS) (n i j a b:Nat) (k:c=[.ref l.J,.int (i:Int),.int (j:Int)]) (h:cT H C n l st) (e:st.hd[i]?=O a) (g:st.hd[j]?=O b) (d:Q (.bl (decide (a=b))) H)
inductive A5(C:U)(d:Z V)(H:Hp)(Q:VK)(E:XK):Prop
 |mk (l:JL) (st:JS) (n i h:Nat) (t a:Z Int) (r:d=[.ref l.J,.int (i:Int)]) (q:cT H C n l st) (m:st.hd[i]?=some h) (o:st.ld[i]?=some t) (k:st.fr.lookup h=some a) (j:(∀z∈a,0<=z/\z<t.length)) (g:a.length<64) (e:∀(p:U) (b:Z Int) (c:Hp),H p=none->ag H c->b.Perm (a.map λz=>t.getD z.toNat 0)->b.Pairwise (·<=·)->c p=O (.lst (b.map V.int))->Q (.ref p) c)
inductive KP(C:U)(d:Z V)(H:Hp)(Q:VK)(E:XK):Prop
 |mk (l:JL) (st:JS) (n:Nat) (p:d=[.ref l.J]) (o:cT H C n l st) (k:n<=1000) (m:st.hd.length<1000) (j:st.mem.length<=st.hd.length) (i:st.fr.length<=st.hd.length) (h:st.ld.length=st.hd.length) (g:st.hd.length∉st.mem.map (·.1)) (e:st.hd.length∉st.fr.map (·.1)) (q:∀(a:JL) (c:Hp),a.J=l.J->Out l.fp H c->(∀b∈a.fp,b∈l.fp\/H b=aF)->cT c C n a (st.more n)->Q (.int (st.hd.length:Int)) c)
def pY{i h:Nat}(e:is[i]?=O h):dI (dY is) (i:Int)=O (.int (h:Int)):=fL (by rw[Yi,e];rfl)
abbrev Cj:Z af:=["self","size"]
def ZaY:aP Cj Cj (aJ FP):=.aY
theorem Zfj(F:aM K "__init__" "Joins.__init__" FP f fd)(c:oE K C)(bl:Bl B):aE P w K B I aL 1 f fd Cj (RI C):=by
 refine F.o ZaY λs H hr h=>?_;obtain⟨x,j,n,rfl,hx,q⟩:=h;refine⟨_,(aj (ik (K:=K) rfl (pv 0) (pv 1)) (aj (ik (K:=K) rfl (pv 0) (cU ae)) (aj (ik (K:=K) rfl (pv 0) (cU ae)) (aj (ik (K:=K) rfl (pv 0) pO) (av (ik (K:=K) rfl (pv 0) pO)))))),?_⟩;refine YP ?_;intros;refine⟨_,rfl,_,rfl,x,C,j,[],rfl,hx,c.cls,c.tM,by show 0<1000;decide,λH1 N h1=>?_⟩;refine⟨by show 0<=sizeLine;exact Yx _,λp H2 E G e2=>⟨_,rfl,x,C,j,_,rfl,G _ _ h1,c.cls,c.kI,by show 1<1000;decide,λH3 L h3=>?_⟩⟩;refine⟨by show 0<=sizeLine;exact Yx _,λla H4 m v e4=>⟨_,rfl,x,C,j,_,rfl,v _ _ h3,c.cls,c.oy,by show 2<1000;decide,λH5 A h5=>?_⟩⟩;refine λmd H6 i r e6=>⟨_,rfl,x,C,j,_,rfl,r _ _ h5,c.cls,c.vF,by show 3<1000;decide,λH7 u h7=>?_⟩;refine λfe H8 g g8 e8=>⟨_,rfl,x,C,j,_,rfl,g8 _ _ h7,c.cls,c.tN,by show 4<1000;decide,λH9 b9 h9=>?_⟩;rw[jf5] at h9;have W:aA x H8 H9:=b9;have X:aA x H6 H9:=u.trans ((aA.of g8).trans W);have k4:aA x H4 H9:=A.trans ((aA.of r).trans X);have k2:aA x H2 H9:=L.trans ((aA.of v).trans k4);have k0:aA x H H9:=N.trans ((aA.of G).trans k2);have l:p≠x:=λz=>by rw[z,h1] at E;cases E
 have t:la≠x:=λz=>by rw[z,h3] at m;cases m
 have y:md≠x:=λz=>by rw[z,h5] at i;cases i
 have J:fe≠x:=λz=>by rw[z,h7] at g;cases g
 have i3:=L _ _ e2 l;have i5:=A _ _ (v _ _ i3) l;have i7:=u _ _ (r _ _ i5) l;have j5:=A _ _ e4 t;have j7:=u _ _ (r _ _ j5) t;have l7:=u _ _ e6 y;have a1:p≠la:=λz=>by rw[←z,i3] at m;cases m
 have a2:p≠md:=λz=>by rw[←z,i5] at i;cases i
 have a3:p≠fe:=λz=>by rw[←z,i7] at g;cases g
 have a4:la≠md:=λz=>by rw[←z,j5] at i;cases i
 have a5:la≠fe:=λz=>by rw[←z,j7] at g;cases g
 have a6:md≠fe:=λz=>by rw[←z,l7] at g;cases g
 have D:∀{b:U} {Q:Hp},aA x H Q->b≠x->Q b=aF->H b=aF:=λ{b Q} k d n=>by
  cases e:H b with
  |none=>rfl
  |some o=>rw[k b o e d] at n;cases n
 have T:aA x H H3:=N.trans ((aA.of G).trans L);have R:aA x H H5:=T.trans ((aA.of v).trans A);have t7:aA x H H7:=R.trans ((aA.of r).trans u);refine q ⟨x,p,la,md,fe,[],[],[]⟩ H9 rfl rfl (λb hb nb=>?_) k0 ⟨⟨j,h9⟩,k2 _ _ e2 l,k4 _ _ e4 t,.nil,X _ _ e6 y,.nil,W _ _ e8 J,.nil,?_,λa se=>by cases se⟩
 ·simp only[JL.fp,Ys,Y1,gV] at hb;rcases hb with rfl|rfl|rfl|rfl|rfl;·exact absurd rfl nb
  ·exact D N l E
  ·exact D T t m
  ·exact D R y i
  ·exact D t7 J g
 ·simp only[JL.fp,Y2,Ys,Y1,gV,iP,Mz,Wy,and_true];exact⟨⟨λz=>l z.symm,λz=>t z.symm,λz=>y z.symm,λz=>J z.symm⟩,⟨a1,a2,a3⟩,⟨a4,a5⟩,a6⟩
abbrev rN:Z af:=["self","one","other"]
def Z6:aP rN rN (aJ EE):=.aY
def Zb_(F:aM K "together" "Joins.together" EE f fd)(c:oE K C)(v:Bl B):aE P w K B I aL 1 f fd rN (G8 C):=by
 refine F.o Z6 @λx A d t Q E s H u h=>?_;obtain⟨l,st,n,i,j,a,b,rfl,g,r,p,q⟩:=h;refine⟨_,(av (aI (dW cq (bc (iL K) (pF K 0) (pv 1)) (bc (iL K) (pF K 0) (pv 2))))),?_⟩;obtain⟨m,k⟩:=g.obj;have o:Q (.bl (decide (V.int (a:Int)=V.int (b:Int)))) H:=by
  have e:decide (V.int (a:Int)=V.int (b:Int))=decide (a=b):=by
   rw[Wq,hI,hI];exact⟨λz=>by have:=V.int.inj z;exact lR this,λz=>by rw[z]⟩
  rwa[e]
 exact⟨_,rfl,l.J,C,m,_,_,rfl,k,c.cls,c.kI,rfl,_,rfl,l.ha,_,_,_,rfl,rfl,aq.of g.heads,pY r,_,rfl,l.J,C,m,_,_,rfl,k,c.cls,c.kI,rfl,_,rfl,l.ha,_,_,_,rfl,rfl,aq.of g.heads,pY p,rfl,o⟩
def eF{H:Hp}(h:H a=O o)(e:H b=O c)(d:o≠c):a≠b:=λz=>by
 grind
def Zfk(a:Z Nat)(k:Nat):dY (a++[k])=dY a++[.int (k:Int)]:=Yp
def sT{H:Hp}(h:H a=O o)(c:H b=aF):b≠a:=λz=>by
 grind
theorem jB{b a:Type}{F:b->a->Prop}{x:b}{y:a}(f:F x y){d:Z b}{c:Z a}(h:Paired F d c):Paired F (d++[x]) (c++[y]):=by
 induction h with
 |nil=>exact .cons f .nil
 |cons r t e=>exact .cons r e
theorem vG{e d:Type}{F:e->d->Prop}:∀{c:Z e} {i:Z d},Paired F c i->Paired (λa b=>F a b/\a∈c) c i
 |_,_,.nil=>.nil
 |_,_,.cons g t=>.cons ⟨g,Yg⟩ (L2.Paired.bu (vG t) λ_ _ h=>⟨h.1,Yw _ h.2⟩)
def qb(h:H a=O (.dK b))(e:aH b (.inl (k:Int))=o):eU H a (.int (k:Int)) o:=.inl ⟨b,.inl (k:Int),.inl h,rfl,e.symm⟩
abbrev yY:Z af:=["self","one"]
def NV:aP ["self","one","lead"] yY (aJ EM):=.aY
def Zc4(F:aM K "open_at" "Joins.open_at" EM f fd)(b:oE K C)(bl:Bl B):aE P w K B I aL 2 f fd yY (A5 C):=by
 refine F.o NV λs H W h=>?_;obtain⟨l,st,n,i,h,t,d,rfl,a,hi,T,hf,Q,iF,q⟩:=h;refine⟨_,(aj (gI (i:=2) NV.nd rfl (kv rfl) (bc (iL K) (pF K 0) (pv 1))) (av (aI (fJ (ZeY (K:=K) rfl) rfl bl.A0 AN (aa (jE (x:="section") (fr:=[("lead",2)]) (cl:=[("lead",s.heap.objs.size+1)]) rfl (.hU ⟨rfl,trivial⟩ ⟨⟨rfl,.inl rfl,.inl rfl,rfl⟩,trivial⟩) (dH (K:=K) rfl (de (bo W) (pF K 0) (bc (iL K) (pF K 0) (pv 1)) (λ_ _=>rfl))) (λ_ _ _ _=>m5) (λ_ _ _ _=>(bc (iT K) (pv 1) (pv 0)))) ae))))),?_⟩;refine hP ?_;intros;obtain⟨o,g⟩:=a.obj;obtain⟨fa,XA,G,A⟩:=pP (f:=λv:Z Int=>HO.lst (v.map V.int)) a.free hf;obtain⟨c,m,MS⟩:∃c,l.fE[i]?=O c/\H c=O (.tup (t.map V.int)):=by
  have X:=cZ a.lead;have dU:i<l.fE.length:=by exact X▸(Yn.mp T).1
  obtain⟨y,ey,u⟩:=fY a.lead (Yc dU)
  grind
 have MT:dI (l.fE.map V.ref) (i:Int)=O (.ref c):=fL (by rw[Yi,m];rfl);refine bW ?_;refine⟨_,rfl,l.J,C,o,_,_,rfl,g,b.cls,b.oy,rfl,_,rfl,l.la,_,_,_,rfl,rfl,aq.of a.jb,MT,?_⟩;refine⟨_,rfl,l.J,C,o,_,_,rfl,g,b.cls,b.tN,rfl,_,rfl,l.J,C,o,_,_,rfl,g,b.cls,b.kI,rfl,_,rfl,l.ha,_,_,_,rfl,rfl,aq.of a.heads,pY hi,l.fd,_,rfl,qb a.frees G,fa,rfl,⟨_,aq.of A⟩,λD hD=>ZcM (aq.of A) (by rw[Ya];omega) hD (λv=>match v with|.int z=>.int (t.getD z.toNat 0)|_=>.aC) (λj v hj r e Kt k=>?_) λr e h1=>?_⟩
 ·obtain⟨z,rfl,R⟩:=ot hj;have E:=Q z (Yj R);exact⟨_,rfl,_,rfl,c,_,_,_,rfl,rfl,aB.of (e _ _ MS),oB E.1 E.2,k r (ag.refl _)⟩
 ·have u:r D=O (.lst ((d.map λz=>t.getD z.toNat 0).map V.int)):=by
   rw[h1,Y6,Y6];rfl
  exact⟨D,_,rfl,.inl (aq.of u),by rwa[Ya],λcB L J p H2 N g2 h2=>q p cB H2 (e.free N) (e.trans g2) L J h2⟩
abbrev jM:Z af:=["self"]
abbrev yZ:Z af:=["self","number"]
def N6:aP yZ jM (aJ Gp):=.aY
theorem Ziy(F:aM K "add" "Joins.add" Gp f fd)(d:oE K C)(vO:HasFn P w K B I 1 "still" ["size"] IZ)(bl:Bl B):aE P w K B I aL 2 f fd jM (KP C):=by
 refine F.o N6 λs H hr h=>?_;obtain⟨l,st,n,rfl,c,hn,lh,lm,lf,ll,nm,nf,q⟩:=h;refine⟨_,(aj (bR 1 N6.nd (dC K bl (pF K 0))) (aj (bZ (j9 (K:=K) rfl (gT ij ku kr kF (pF K 0) (aa (pv 1) ae)))) (aj (bZ (j9 (K:=K) rfl (gT ij ku kr kF (pF K 0) (aa (aZ vO hr (aa (pF K 0) ae)) ae)))) (aj (lX (bo hr) (pF K 0) (pv 1) (cU (aa (pv 1) ae))) (aj (lX (bo hr) (pF K 0) (pv 1) (fh (ZaD rfl) rfl bl.tK s_ (aa (fh FK rfl bl.jW vJ (aa (pF K 0) ae)) ae))) (av (aI (pv 1)))))))),?_⟩;refine ud ?_;intros;have sz:(10000:Nat)<=sizeLine:=by rw[dg];decide
 obtain⟨A,ho⟩:=c.obj;have hl:(dY st.hd).length=st.hd.length:=Ya _;have pl1:=cZ c.lead;have MU:=cZ c.mem;have Dw:=cZ c.free;have W:=c.nd;simp only[JL.fp,Y2,Ys,iP] at W;obtain⟨⟨x1,x2,x3,x4,x5⟩,⟨R,Q,y3,y4⟩,⟨z1,z2,z3⟩,⟨w1,w2⟩,v1,v2⟩:=W;have dl:∀{ks:Z Nat} {as:Z U},(bG ks as).length<=as.length:=λ{ks as}=>by unfold bG;rw[Ya,Jr];exact Xq _ _
 refine bW ?_;refine⟨_,rfl,l.J,C,A,_,_,rfl,ho,d.cls,d.kI,rfl,l.ha,_,rfl,.inl (aq.of c.heads),?_⟩;rw[hl];refine⟨_,rfl,l.J,C,A,_,_,rfl,ho,d.cls,d.kI,rfl,.inl ⟨rfl,_,aq.of c.heads⟩,_,rfl,l.ha,_,_,rfl,rfl,c.heads,by rw[hl];omega,λH1 v e1=>?_⟩;have o1:=v _ _ ho x1;have X:=v _ _ c.jb (λz=>R z.symm);refine⟨_,rfl,l.J,C,A,_,_,rfl,o1,d.cls,d.oy,rfl,.inl ⟨rfl,_,aq.of X⟩,_,rfl,l.J,C,A,_,_,rfl,o1,d.cls,d.tM,rfl,n,rfl,hn,λt H2 nt k ht=>?_⟩;refine⟨l.la,_,_,rfl,rfl,k _ _ X,by rw[Ya];omega,λH3 u e3=>?_⟩;have o3:=u _ _ (k _ _ o1) x2;have m3:=u _ _ (k _ _ (v _ _ c.ke (λz=>Q z.symm))) (λz=>z1 z.symm);refine⟨_,rfl,by show 1<=sizeLine;decide,λm H4 J j em=>?_⟩;have o4:=j _ _ o3;refine⟨_,rfl,l.J,C,A,_,_,rfl,o4,d.cls,d.vF,rfl,_,rfl,l.md,_,.inl (st.hd.length:Int),rfl,j _ _ m3,rfl,?_,λH5 g e5=>?_⟩
 ·have:=dl (ks:=st.mem.map (·.1)) (as:=l.gv);omega
 have T:=g _ _ o4 x3;refine⟨_,rfl,l.J,C,A,_,_,rfl,T,d.cls,d.tM,rfl,(n:Int),rfl,λr D nr x er=>⟨r,n,rfl,er,hn,λfa H7 Xz g7 ef=>?_⟩⟩;have Dx:=x.trans g7;have f5:=g _ _ (j _ _ (u _ _ (k _ _ (v _ _ c.frees (λz=>y3 z.symm))) (λz=>z2 z.symm))) (λz=>w1 z.symm);refine⟨_,rfl,l.J,C,A,_,_,rfl,Dx _ _ T,d.cls,d.tN,rfl,_,rfl,l.fd,_,.inl (st.hd.length:Int),rfl,Dx _ _ f5,rfl,?_,λi b8 e8=>?_⟩
 ·have:=dl (ks:=st.fr.map (·.1)) (as:=l.cy);omega
 have keep:∀b o,H b=O o->b≠l.ha->b≠l.la->b≠l.md->b≠l.fd->i b=O o:=λb o e n1 n2 n3 n4=>b8 _ _ (Dx _ _ (g _ _ (j _ _ (u _ _ (k _ _ (v _ _ e n1)) n2)) n3)) n4;rw[iZ _ (AR nm),AE _ _ (by rw[Ya];exact mU MU)] at e5;rw[iZ _ (AR nf),AE _ _ (by rw[Ya];exact mU Dw)] at e8;have MV:H m=aF:=by
  cases e:H m with
  |none=>rfl
  |some o=>
   have hm1:m≠l.ha:=λz=>by rw[z,u _ _ (k _ _ e1) R] at J;cases J
   have hm2:m≠l.la:=λz=>by rw[z,e3] at J;cases J
   rw[u _ _ (k _ _ (v _ _ e hm1)) hm2] at J;cases J
 have en:=c.ne MV;have MW:fa∉l.fp/\fa≠m:=by
  have G:D fa=aF:=Xz;have h5:∀b o,H b=O o->b≠l.ha->b≠l.la->b≠l.md->D b=O o:=λb o e n1 n2 n3=>x _ _ (g _ _ (j _ _ (u _ _ (k _ _ (v _ _ e n1)) n2)) n3);have f1:D l.ha=O _:=x _ _ (g _ _ (j _ _ (u _ _ (k _ _ e1) R)) Q);have f2:D l.la=O _:=x _ _ (g _ _ (j _ _ e3) z1);have f3:D l.md=O _:=x _ _ e5;have f4:D m=O _:=x _ _ (g _ _ em (λz=>en (by rw[z];simp[JL.fp])));have f5':D l.fd=O _:=x _ _ f5;have f6:D l.J=O _:=x _ _ T;refine⟨λz=>?_,sT f4 G⟩;simp only[JL.fp,Ys] at z;rcases z with z|z|z|z|z|z;·exact sT f6 G z
  ·exact sT f1 G z
  ·exact sT f2 G z
  ·exact sT f3 G z
  ·exact sT f5' G z
  ·obtain⟨y,ey⟩:=x6 c.mem z;refine sT (h5 _ _ ey ?_ ?_ ?_) G rfl;·exact λq=>y4 (by rw[←q];exact z)
   ·exact λq=>z3 (by rw[←q];exact z)
   ·exact λq=>w2 (by rw[←q];exact z)
 have kt:∀a∈l.fE,∀E:Z Int,H a=O (.tup (E.map V.int))->i a=O (.tup (E.map V.int)):=λa _ E e=>keep a _ e (eF e c.heads (λz=>by cases z)) (eF e c.jb (λz=>by cases z)) (eF e c.ke (λz=>by cases z)) (eF e c.frees (λz=>by cases z));have L:∀b o,H5 b=O o->b≠l.fd->i b=O o:=λb o e n=>b8 _ _ (Dx _ _ e) n;have nmd:m≠l.md:=λz=>en (by rw[z];simp[JL.fp]);have nmf:m≠l.fd:=λz=>en (by rw[z];simp[JL.fp]);have ntf:t≠l.fd:=λz=>by
  have:=v _ _ c.frees (λz=>y3 z.symm);rw[←z,nt] at this;cases this
 have MX:t≠l.la:=λz=>by rw[←z,nt] at X;cases X
 have XD:t≠l.md:=λz=>by
  have:=v _ _ c.ke (λz=>Q z.symm);rw[←z,nt] at this;cases this
 refine⟨_,rfl,q ⟨l.J,l.ha,l.la,l.md,l.fd,l.fE++[t],l.gv++[m],l.cy++[fa]⟩ i rfl (λb o e N=>?_) (λb hb=>?_) ⟨⟨A,L _ _ T x4⟩,?_,?_,?_,?_,?_,?_,?_,?_,?_⟩⟩
 ·simp only[JL.fp,Ys,iP] at N;exact keep b o e N.2.1 N.2.2.1 N.2.2.2.1 N.2.2.2.2.1
 ·simp only[JL.fp,Ys,Ym,Y1,gV] at hb⊢;rcases hb with h|h|h|h|h|h|h;·exact .inl (.inl h)
  ·exact .inl (.inr (.inl h))
  ·exact .inl (.inr (.inr (.inl h)))
  ·exact .inl (.inr (.inr (.inr (.inl h))))
  ·exact .inl (.inr (.inr (.inr (.inr (.inl h)))))
  ·exact .inl (.inr (.inr (.inr (.inr (.inr h)))))
  ·rw[h];exact .inr MV
 ·show i l.ha=O (.lst (dY (st.hd++[st.hd.length])));rw[L _ _ (g _ _ (j _ _ (u _ _ (k _ _ e1) R)) Q) y3,Zfk]
 ·show i l.la=O (.lst ((l.fE++[t]).map V.ref));rw[L _ _ (g _ _ (j _ _ e3) z1) z2,Yp];rfl
 ·exact jB (F:=λa (E:Z Int)=>i a=O (.tup (E.map V.int))) (L _ _ (g _ _ (j _ _ (u _ _ ht MX)) XD) ntf) (L2.Paired.bu (vG c.lead) λa E h=>kt a h.2 E h.1)
 ·show i l.md=O (.dK (bG ((st.mem++[(st.hd.length,[st.hd.length])]).map (·.1)) (l.gv++[m])));rw[L _ _ e5 w1,Yp];rfl
 ·refine jB (F:=λa (p:Nat×Z Nat)=>i a=O (.lst (dY p.2))) (L _ _ (g _ _ em nmd) nmf) (L2.Paired.bu (vG c.mem) λa p h=>keep a _ h.1 ?_ ?_ ?_ ?_);·exact λz=>y4 (by rw[←z];exact h.2)
  ·exact λz=>z3 (by rw[←z];exact h.2)
  ·exact λz=>w2 (by rw[←z];exact h.2)
  ·exact λz=>v1 (by rw[←z];exact h.2)
 ·show i l.fd=O (.dK (bG ((st.fr++[(st.hd.length,bJ n)]).map (·.1)) (l.cy++[fa])));rw[e8,Yp];rfl
 ·have nfd:fa≠l.fd:=λz=>MW.1 (by rw[z];simp[JL.fp]);refine jB (F:=λa (p:Nat×Z Int)=>i a=O (.lst (p.2.map V.int))) (b8 _ _ ef nfd) (L2.Paired.bu (vG c.free) λa p h=>?_);have no:=c.out a h.2;simp only[JL.fp,Ys,iP] at no;exact keep a _ h.1 no.2.1 no.2.2.1 no.2.2.2.1 no.2.2.2.2.1
 ·have W:=c.nd;have e0:JL.fp ⟨l.J,l.ha,l.la,l.md,l.fd,l.fE++[t],l.gv++[m],l.cy++[fa]⟩=l.fp++[m]:=rfl;rw[e0,Wc];refine⟨W,QS,λa ha b hb=>?_⟩;have eb:b=m:=by simpa using hb
  intro z;rw[z,eb] at ha;exact en ha
 ·intro a ha;have e0:JL.fp ⟨l.J,l.ha,l.la,l.md,l.fd,l.fE++[t],l.gv++[m],l.cy++[fa]⟩=l.fp++[m]:=rfl;rw[e0,Ym];have se:a∈l.cy++[fa]:=ha;rcases Ym.mp se with h|h
  ·rintro(z|z);·exact c.out a h z
   ·have e:a=m:=by simpa using z
    obtain⟨y,ey⟩:=x6 c.free h;rw[e,MV] at ey;cases ey
  ·have e:a=fa:=by simpa using h
   rw[e];rintro(z|z);·exact MW.1 z
   ·exact MW.2 (by simpa using z)
def Zc5{K:ah}{a:U}{ns:Z Int}{t:TT}{u:TE}{r:St}{D:U}{H:Hp}{Q:VK}(N:aq K H a (ns.map V.int))(T:ns.length<=1000)(x:H D=aF)(p:Int->cm)(g:Int->V)
  (k:∀z∈ns,∀d,ag H d->∀(E:VK) (F:Hp->Prop),(p z=ar->∀h,ag d h->E (g z) h)->(p z=a_->∀h,ag d h->F h)->t (O (.int z)::r) d λc G=>if c=ar then u (O (.int z)::r) G E else F G)
  (R:∀s,ag H s->s D=O (.lst ((ns.filter p).map g))->Q (.ref D) s):jH (kj K a) t u r D H Q:=by
 refine HG (λi j d=>i<=ns.length/\ag H d/\d D=O (.lst j)/\j=((ns.take i).filter p).map g) ⟨Yx _,cF x _,aT,rfl⟩ (λi j d _ ⟨_,m,_,_⟩=>m.seq N) ?_ ?_
 ·rintro i v j d P ⟨_,m,y,e⟩;obtain⟨z,rfl,n⟩:=ot P;have A:=(Yn.mp n).1;have J:j.length<sizeLine:=by
   have:=Wj p (ns.take i);rw[We] at this;rw[e,Ya,dg];omega
  refine k z (Yj n) d m _ _ (λL h l=>⟨l _ _ y,J,A,λb o q=>?_,aT,?_⟩) (λL h l=>⟨A,m.trans l,l _ _ y,?_⟩)
  ·rw[aN (bP q x)];exact l _ _ (m _ _ q)
  ·rw[e,Yz,n,Wo,Yp]
   grind
  ·rw[e,Yz,n,Wo,Yp]
   grind
 ·grind
theorem Bm(x:Int):∀a:Z Int,fD (.int x) (a.map V.int)=decide (x∈a)
 |[]=>rfl
 |s::a=>by
  have b:=Bm x a;unfold fD at b⊢;rw[Wu,J7,b];show((s==x)||decide (x∈a))=_
  grind
def Iy(a:Z Int):(a.map V.int).all jG=ar:=by
 rw[MD,Wt];intro p _;rfl
def jN(a:Z Nat)(b:Z U)(h:Nat)(c:U):Z U:=(a.zip b).map λp=>if p.1=h then c else p.2
theorem Pl(h:Nat)(a':U):∀{b:Z Nat} {as:Z U},b.length=as.length->(bG b as).map (λc=>if c.1=(.inl (h:Int):Key) then(c.1,V.ref a') else c)=bG b (jN b as h a')
 |[],[],_=>rfl
 |k::b,a::as,e=>by
  have d:=Pl h a' (by simpa using e);have j:bG (k::b) (a::as)=(Sum.inl (k:Int),V.ref a)::bG b as:=rfl;have i:jN (k::b) (a::as) h a'=(if k=h then a' else a)::jN b as h a':=rfl;have g:bG (k::b) ((if k=h then a' else a)::jN b as h a')=(Sum.inl (k:Int),V.ref (if k=h then a' else a))::bG b (jN b as h a'):=rfl
  grind
 |[],_::_,e=>rfl
 |_::_,[],e=>rfl
def Zfl{h:Nat}(e:b.length=as.length)(d:aH (bG b as) (.inl (h:Int))=O (.ref a)):putK (bG b as) (.inl (h:Int)) (.ref c)=bG b (jN b as h c):=by
 unfold putK;rw[bS (by rw[vK,d];rfl)];exact Pl h c e
def eW{a:Type}(h:Nat)(v:a)(b:Z (Nat×a)):Z (Nat×a):=b.map λp=>if p.1=h then(p.1,v) else p
theorem sY{b:Type}(h:Nat)(v:b):∀a:Z (Nat×b),(eW h v a).map (·.1)=a.map (·.1)
 |[]=>rfl
 |p::a=>by
  have c:=sY h v a;show(if p.1=h then(p.1,v) else p).1::(eW h v a).map (·.1)=_
  grind
theorem Zc6{v:α}(g:∀k,G m (k,v)):∀{d:Z U} {c:Z (Nat×α)},Paired F d c->(∀a p,F a p->a∈d->G a p)->Paired G (jN (c.map (·.1)) d h m) (eW h v c):=by
 intro d c e;induction e with
 |nil=>intro _;exact .nil
 |@cons a p d c f t i=>
  intro k;refine .cons ?_ (i λb q l j=>k b q l (Yw _ j))
  grind
theorem Qn{h:Nat}{e b:U}:∀{d:Z Nat} {c:Z U},b∈jN d c h e->b=e\/b∈c
 |[],_,m=>by unfold jN at m;simp at m
 |_::_,[],m=>by unfold jN at m;simp at m
 |k::d,a::c,m=>by
  rcases Ys.mp m with z|z;·grind
  ·rcases Qn z with w|w;·exact .inl w
   ·grind
def JS.mC(a:JS)(h:Nat)(v:Z Int):JS:={a with fr:=eW h v a.fr}
structure ue(st:JS)(i h:Nat)(t gX:Z Int):Prop where
 hd:st.hd[i]?=O h
 ld:st.ld[i]?=O t
 fr:st.fr.lookup h=O gX
 gu:∀z∈gX,0<=z/\z<t.length
 jo:gX.length<64
 dist:(gX.map λz=>t.getD z.toNat 0).Nodup
inductive Iz(K:ah)(C:U)(g:Z V)(H:Hp)(Q:VK)(E:XK):Prop
 |mk (l:JL) (st:JS) (n i h:Nat) (t a d:Z Int) (e:U) (q:g=[.ref l.J,.int (i:Int),.ref e]) (p:cT H C n l st) (m:ue st i h t a) (o:st.fr.length<1000) (k:aq K H e (d.map V.int)) (j:∀(b:JL) (c:Hp),b.J=l.J->b.fp=l.fp->Out l.fp H c->cT c C n b (st.mC h (a.filter λz=>decide (t.getD z.toNat 0∈d)))->Q .aC c)
abbrev Ck:Z af:=["self","one","sections"]
def EV:aP ["self","one","sections","lead","head"] Ck (aJ E7):=.aY
def Zd8(F:aM K "narrow" "Joins.narrow" E7 f fd)(g:oE K C)(bl:Bl B):aE P w K B I aL 2 f fd Ck (Iz K C):=by
 refine F.o EV λs H hr h=>?_;obtain⟨l,st,n,i,h,t,r,E,sl,rfl,d,one,lf,J,q⟩:=h;refine⟨_,(aj (gI (i:=3) EV.nd rfl (kv rfl) (bc (iL K) (pF K 0) (pv 1))) (aj (bR 4 EV.nd (bc (iL K) (pF K 0) (pv 1))) (av (lX (bo hr) (pF K 0) (pv 4) (jE (x:="section") (fr:=[("sections",2),("lead",3)]) (cl:=[("sections",s.heap.objs.size+1),("lead",s.heap.objs.size+1+1)]) rfl (.hU ⟨rfl,⟨rfl,trivial⟩⟩ ⟨⟨rfl,.inl rfl,.inl rfl,rfl⟩,⟨⟨rfl,.inl rfl,.inl rfl,rfl⟩,trivial⟩⟩) (dH (K:=K) rfl (de (bo hr) (pF K 0) (pv 4) (λ_ _=>rfl))) (λ_ _ _ _=>vM (fK (k9 (K:=K) rfl) (bc (iT K) (pv 2) (pv 0)) (pv 1) QU)) (λ_ _ _ _=>(pv 0))))))),?_⟩;refine i1 ?_;intros;have sz:(10000:Nat)<=sizeLine:=by rw[dg];decide
 obtain⟨A,u⟩:=d.obj;obtain⟨fa,XA,W,cY⟩:=pP (f:=λv:Z Int=>HO.lst (v.map V.int)) d.free one.fr;obtain⟨m,L,MS⟩:∃m,l.fE[i]?=O m/\H m=O (.tup (t.map V.int)):=by
  have hl:=cZ d.lead;have dU:i<l.fE.length:=by rw[hl];exact(Yn.mp one.ld).1
  obtain⟨y,ey,hy⟩:=fY d.lead (Yc dU);rw[one.ld] at ey;cases ey;exact⟨_,Yc dU,hy⟩
 have MT:dI (l.fE.map V.ref) (i:Int)=O (.ref m):=fL (by rw[Yi,L];rfl);have Dw:=cZ d.free;refine zt ?_;intro;refine bW ?_;refine⟨_,rfl,l.J,C,A,_,_,rfl,u,g.cls,g.oy,rfl,_,rfl,l.la,_,_,_,rfl,rfl,aq.of d.jb,MT,?_⟩;refine zt ?_;intro;refine bW ?_;refine⟨_,rfl,l.J,C,A,_,_,rfl,u,g.cls,g.kI,rfl,_,rfl,l.ha,_,_,_,rfl,rfl,aq.of d.heads,pY one.hd,?_⟩;refine⟨_,rfl,l.J,C,A,_,_,rfl,u,g.cls,g.tN,rfl,_,rfl,l.fd,_,rfl,qb d.frees W,fa,rfl,⟨_,aq.of cY⟩,λD hD=>Zc5 (ns:=r) (aq.of cY) (by have:=one.jo;omega) hD (λz=>decide (t.getD z.toNat 0∈E)) V.int (λz hz R j Kt Kf kt kf=>?_) λR j h1=>?_⟩
 ·have bz:=one.gu z hz;refine⟨_,rfl,_,rfl,m,_,_,_,rfl,rfl,aB.of (j _ _ MS),oB bz.1 bz.2,_,rfl,sl,_,rfl,.inl (j.seq J),rfl,Iy E,_,rfl,?_⟩;rw[bt Yq,Bm];refine bA (λc=>?_) (λc=>?_);·exact⟨_,rfl,kt c R (ag.refl _)⟩
  ·exact kf (by cases e:decide (t.getD z.toNat 0∈E) with|true=>exact absurd e c|false=>rfl) R (ag.refl _)
 ·refine⟨_,rfl,l.J,C,A,_,_,rfl,j _ _ u,g.cls,g.tN,rfl,_,rfl,l.fd,_,.inl (h:Int),rfl,j _ _ d.frees,rfl,?_,λQ N e2=>?_⟩
  ·unfold bG;rw[Ya,Jr,Ya];omega
  rw[Zfl (by rw[Ya];exact Dw.symm) W] at e2;have X:=d.nd;have T:l.fd∈l.fp:=by simp[JL.fp]
  simp only[JL.fp,Y2,Ys,iP] at X;obtain⟨⟨x1,x2,x3,x4,x5⟩,⟨y1,y2,y3,y4⟩,⟨z1,z2,z3⟩,⟨w1,w2⟩,v1,v2⟩:=X;have keep:∀b o,H b=O o->b≠l.fd->Q b=O o:=λb o e nb=>N _ _ (j _ _ e) nb;have nD:D∉l.fp:=d.ne hD;have G:D≠l.fd:=λz=>nD (by rw[z];exact T);refine q ⟨l.J,l.ha,l.la,l.md,l.fd,l.fE,l.gv,jN (st.fr.map (·.1)) l.cy h D⟩ Q rfl rfl ((Out.of j).trans (Out.bar N T)) ⟨⟨A,keep _ _ u x4⟩,keep _ _ d.heads y3,keep _ _ d.jb z2,L2.Paired.bu d.lead λa xs e=>keep a _ e (eF e d.frees (λz=>by cases z)),keep _ _ d.ke w1,L2.Paired.bu (vG d.mem) λa p e=>keep a _ e.1 (λz=>v1 (by rw[←z];exact e.2)),?_,?_,d.nd,λa ha=>?_⟩
  ·show Q l.fd=O (.dK (bG ((eW h _ st.fr).map (·.1)) _));rw[sY];exact e2
  ·exact Zc6 (λk=>N _ _ h1 G) d.free λa p e ma=>keep a _ e (λz=>d.out a ma (by rw[z];exact T))
  ·rcases Qn ha with rfl|z;·exact nD
   ·exact d.out a z
inductive UI(C:U)(e:Z V)(H:Hp)(Q:VK)(E:XK):Prop
 |mk (l:JL) (st:JS) (n i h:Nat) (t b:Z Int) (a:Int) (p:e=[.ref l.J,.int (i:Int),.int a]) (o:cT H C n l st) (k:ue st i h t b) (m:st.fr.length<1000) (j:(a∈b.map (λz=>t.getD z.toNat 0)->∀(d:JL) (c:Hp),d.J=l.J->d.fp=l.fp->Out l.fp H c->cT c C n d (st.mC h (b.filter λz=>decide (t.getD z.toNat 0∈[a])))->Q (.bl ar) c)) (g:(a∉b.map (λz=>t.getD z.toNat 0)->∀c,ag H c->Q (.bl a_) c))
abbrev Cm:Z af:=["self","one","section"]
def Zbj:aP Cm Cm (aJ Gr):=.aY
def Ziz(F:aM K "say" "Joins.say" Gr f fd)(x:cO P w K B I 2 "open_at" C yY (A5 C))(q:cO P w K B I 2 "narrow" C Ck (Iz K C))(bl:Bl B):aE P w K B I aL 3 f fd Cm (UI C):=by
 refine F.o Zbj λs H j h=>?_;obtain⟨l,st,n,i,h,t,b,a,rfl,e,one,D,v,u⟩:=h;refine⟨_,(aj (aU (fK (BC rfl) (pv 2) (dh x j (by decide) (pv 0) (aa (pv 1) ae)) QU) (av (aI gJ)) a8) (aj (bZ (dh q j (by decide) (pv 0) (aa (pv 1) (aa (cU (aa (pv 2) ae)) ae)))) (av (aI gJ)))),?_⟩;refine i1 ?_;intros;obtain⟨o,k⟩:=e.obj;refine⟨_,rfl,_,rfl,l.J,o,_,rfl,k,rfl,_,rfl,l,st,n,i,h,t,b,rfl,e,one.hd,one.ld,one.fr,one.gu,one.jo,λp ns T X d g W N=>⟨p,_,rfl,.inl (aq.of N),rfl,Iy ns,_,rfl,?_⟩⟩;rw[bS rfl,Bm];refine bA (λc=>?_) (λc=>aW ?_)
 ·refine u (λz=>?_) T d;rw[du (g.symm.subset z)] at c;cases c
 ·have A:a∈ns:=by
   by_cases z:a∈ns;·exact z
   ·rw[fb z] at c;exact absurd rfl c
  refine⟨_,rfl,l.J,o,_,rfl,d _ _ k,rfl,_,rfl,_,rfl,by show 1<=sizeLine;rw[dg];decide,λr H2 n2 m Q=>?_⟩;exact⟨l,st,n,i,h,t,b,[a],r,rfl,(e.same d).same m,one,D,aq.of Q,λE R J G y L=>v (g.subset A) E R J G ((Out.of (d.trans m)).trans y) L⟩
def d9(a:Z Nat)(b:Z U)(h:Nat):Z U:=((a.zip b).filter λp=>decide (p.1≠h)).map (·.2)
def dm{a:Type}(h:Nat)(b:Z (Nat×a)):Z (Nat×a):=b.filter λp=>decide (p.1≠h)
theorem AF(h:Nat):∀{b:Z Nat} {as:Z U},b.length=as.length->iy (bG b as) (.inl (h:Int))=bG (b.filter λk=>decide (k≠h)) (d9 b as h)
 |[],[],_=>rfl
 |k::b,a::as,e=>by
  have c:=AF h (by simpa using e);have i:bG (k::b) (a::as)=(Sum.inl (k:Int),V.ref a)::bG b as:=rfl;unfold iy at c⊢;rw[i,Ja,Ja];have g:d9 (k::b) (a::as) h=(if decide (k≠h)=ar then(a::d9 b as h) else d9 b as h):=by
   unfold d9;rw[XE,Ja];split<;>rfl
  rw[g,c];by_cases z:k=h;·grind
  ·have d:¬((Sum.inl (k:Int):Key)=.inl (h:Int)):=λw=>z (by have:=Du w;exact lR this);rw[bS (by simp[d]),bS (by simp[z]),bS (by simp[z])];rfl
 |[],_::_,e=>rfl
 |_::_,[],e=>by simp at e
theorem pS{b:Type}(h:Nat):∀a:Z (Nat×b),(dm h a).map (·.1)=(a.map (·.1)).filter λk=>decide (k≠h)
 |[]=>rfl
 |p::a=>by
  have c:=pS h a;unfold dm at c⊢
  grind
theorem G9:∀{d:Z U} {c:Z (Nat×α)},Paired F d c->(∀a p,F a p->a∈d->p.1≠h->G a p)->Paired G (d9 (c.map (·.1)) d h) (dm h c):=by
 intro d c e;induction e with
 |nil=>intro _;exact .nil
 |@cons a p d c f t i=>
  intro k;have n:d9 ((p::c).map (·.1)) (a::d) h=(if decide (p.1≠h)=ar then(a::d9 (c.map (·.1)) d h) else d9 (c.map (·.1)) d h):=by
   unfold d9;rw[Wu,XE,Ja];split<;>rfl
  have m:dm h (p::c)=(if decide (p.1≠h)=ar then(p::dm h c) else dm h c):=by
   unfold dm
   grind
  rw[n,m];by_cases z:p.1=h;·grind
  ·rw[bS (by simp[z]),bS (by simp[z])];exact .cons (k a p f Yg z) (i λb q l j g=>k b q l (Yw _ j) g)
theorem A6{h:Nat}:∀{ks:Z Nat} {as:Z U},(d9 ks as h).Sublist as
 |[],as=>by
  unfold d9;simp_all
 |_::_,[]=>by
  unfold d9;simp_all
 |k::ks,a::as=>by
  have b:=A6 (h:=h) (ks:=ks) (as:=as);have c:d9 (k::ks) (a::as) h=(if decide (k≠h)=ar then(a::d9 ks as h) else d9 ks as h):=by
   unfold d9;rw[XE,Ja];split<;>rfl
  grind
theorem vA{a:Type}{h k:Nat}(b:k≠h):∀{ps:Z (Nat×a)},(dm h ps).lookup k=ps.lookup k
 |[]=>rfl
 |p::ps=>by
  have c:=vA b (ps:=ps);have d:dm h (p::ps)=(if decide (p.1≠h)=ar then(p::dm h ps) else dm h ps):=by
   unfold dm
   grind
  grind
theorem Zc7{i:Type}{F G:U->Nat×i->Prop}{h:Nat}{m:U}{v:i}(j:∀k,G m (k,v)):∀{as:Z U} {ps:Z (Nat×i)},Paired F as ps->as.Nodup->(ps.map (·.1)).Nodup->aH (bG (ps.map (·.1)) as) (.inl (h:Int))=O (.ref m)->(∀a p,F a p->a∈as->a≠m->G a p)->Paired G as (eW h v ps):=by
 intro as ps s;induction s with
 |nil=>intro _ _ e _;cases e
 |@cons a p as ps f t o=>
  intro d l e k;have g:bG ((p::ps).map (·.1)) (a::as)=(Sum.inl (p.1:Int),V.ref a)::bG (ps.map (·.1)) as:=rfl;have H:eW h v (p::ps)=(if p.1=h then(p.1,v) else p)::eW h v ps:=rfl;rw[Y2] at d;rw[Wu,Y2] at l;rw[H];by_cases z:p.1=h
  ·rw[g,fq (by rw[z])] at e;have r:=V.ref.inj (Yo e);have same:eW h v ps=ps:=by
    unfold eW;refine(W3 λq A=>?_).trans (Dz _);rw[bt λw=>l.1 (by rw[z,←w];exact Yf.mpr ⟨q,A,rfl⟩)];rfl
   rw[bS z,same,r];refine .cons (j p.1) (L2.Paired.bu (vG t) λb q c=>k b q c.1 (Yw _ c.2) λw=>d.1 (by rw[r,←w];exact c.2))
  ·rw[g,eO (p:=((Sum.inl (p.1:Int):Key),V.ref a)) (λw=>z (by have:=Du w;exact lR this))] at e;rw[bt z];have J:a≠m:=λw=>by
    have:∀{n:Z Nat} {bs:Z U},aH (bG n bs) (.inl (h:Int))=O (.ref m)->m∈bs:=λ{n}=>by
     induction n with
     |nil=>intro bs q;unfold bG at q;rw[List.zip_nil_left] at q;cases q
     |cons x xs o=>
      intro bs q;cases bs with
      |nil=>unfold bG at q;rw[JT] at q;cases q
      |cons b bs=>
       have g:bG (x::xs) (b::bs)=(Sum.inl (x:Int),V.ref b)::bG xs bs:=rfl;rw[g] at q;by_cases y:x=h
       ·rw[fq (by rw[y])] at q;have E:=V.ref.inj (Yo q);rw[E];exact Yg
       ·rw[eO (λw=>y (by have:=Du w;exact lR this))] at q;exact Yw _ (o q)
    exact d.1 (by exact w▸this e)
   exact .cons (k a p f Yg J) (o d.2 l.2 e λb q D c u=>k b q D (Yw _ c) u)
def qH(b:Z Int)(a:Z (Z Int))(i:Nat):Z (Z Int):=a.set i (bT (a.getD i []) b)
def jF(b a:Z Int):(bT b a).length=a.length:=by unfold bT;rw[Ya]
def ZiA(j:∀x∈xs,0<=x/\x<n)(d:∀y∈a,0<=y/\y<xs.length):∀z∈bT xs a,0<=z/\z<n:=λz c=>by
 obtain⟨y,b,rfl⟩:=Yf.mp c;obtain⟨i,h⟩:=d y b;have g:y.toNat<xs.length:=QO
 have e:xs.getD y.toNat 0=xs[y.toNat]:=by rw[Yr,Yc g];rfl
 simp_all
def kL(d:Nat)(b:Z Nat)(c:Z Nat):Z Nat:=b.foldl (λa i=>a.set i d) c
def iz(c:Z Int)(a:Z Nat)(b:Z (Z Int)):Z (Z Int):=a.foldl (qH c) b
def JS.mv(a:JS)(d c:Nat)(e b:Z Nat)(g:Z Int):JS:=⟨kL d b a.hd,iz g b a.ld,eW d (e++b) (dm c a.mem),dm c a.fr⟩
inductive To(C:U)(r:Z V)(H:Hp)(Q:VK)(E:XK):Prop
 |mk (l:JL) (st:JS) (n a b d h:Nat) (q p e s:Z Int) (o:U) (g j:Z Nat) (X:r=[.ref l.J,.int (a:Int),.int (b:Int),.ref o]) (W:cT H C n l st) (R:H o=O (.tup (e.map V.int))) (T:n<=8) (P:e.length=n) (N:full e=ar) (L:st.hd[a]?=O d) (J:st.hd[b]?=O h) (G:st.ld[a]?=O q) (Dn:st.ld[b]?=O p) (Ll:(∀t∈st.ld,full t=ar/\t.length=n)) (Vu:st.ld.length=st.hd.length) (F:st.mem.lookup d=O g) (D:st.mem.lookup h=O j) (A:st.fr.lookup d=O s) (z:d≠h) (y:(∀i∈g,i<st.hd.length)) (x:g.length+j.length<=1000) (v:(st.mem.map (·.1)).Nodup) (u:∀(k:JL) (m:Hp),k.J=l.J->(∀c∈k.fp,c∈l.fp)->Out l.fp H m->cT m C n k (st.mv h d j g (bT (inv q) (bT e p)))->Q .aC m)
theorem xN{b e:Type}{g:Z b->e->Z b}(h:∀a i,(g a i).length=a.length):∀(d:Z e) (c:Z b),(d.foldl g c).length=c.length
 |[],_=>rfl
 |i::d,c=>by
  rw[List.foldl_cons,xN h d,h]
def OK{a:Z β}(h:a[j]?=O i)(b:Z α):(a.take (j+1)).foldl g b=g ((a.take j).foldl g b) i:=by
 rw[Yz,h,List.foldl_append];rfl
def ZgK(a:Z Nat)(i k:Nat):(dY a).set i (.int (k:Int))=dY (a.set i k):=by
 simp_all
theorem OL{b a:Type}{F:b->a->Prop}{x:b}{y:a}(f:F x y):∀{d:Z b} {c:Z a} (i:Nat),Paired F d c->Paired F (d.set i x) (c.set i y)
 |_,_,_,.nil=>.nil
 |_,_,0,.cons _ t=>.cons f t
 |_,_,i+1,.cons g t=>.cons g (OL f i t)
def qX(g:full xs=ar)(d:full a=ar)(e:xs.length=a.length):full (bT xs a)=ar:=by
 have c:(bT xs a).Perm ((bJ a.length).map λx=>xs.getD x.toNat 0):=(qV d).map _;have h:((bJ a.length).map λx=>xs.getD x.toNat 0)=xs:=by
  refine Ww λi=>?_;rw[Yi];by_cases b:i<a.length
  ·rw[mZ b]
   grind
  ·rw[Y4 (by rw[fG];exact fU b),Y4 (eL (l3 e) (fU b))];rfl
 rw[h] at c;exact tD (c.trans (qV g))
inductive KQ(k:Hp)(l:JL)(j:Z Nat)(d:Z (Z Int))(n:Nat)(h:bw V->St)(g:St)(b:Hp):Prop
 |mk (i:Z U) (p:bw V) (v:b l.ha=some (.lst (dY j))) (u:b l.la=some (.lst (i.map V.ref))) (s:Paired (λa (m:Z Int)=>b a=O (.tup (m.map V.int))) i d) (r:∀t∈d,full t=ar/\t.length=n) (q:∀c o,k c=O o->c≠l.ha->c≠l.la->b c=O o) (e:g=h p):KQ k l j d n h g b
def Vv(l:JL)(a b i j:Int)(c e d h:U)(g:bw V):St:=[O (.ref l.J),O (.int a),O (.int b),O (.ref c),O (.int i),O (.int j),O (.ref e),O (.ref d),O (.ref h),g]
abbrev Lm:Z af:=["self","mover","stayer","turn"]
def sP:aP ["self","mover","stayer","turn","head","old_head","to_mover","to_old_head","moved","number"] Lm (aJ FR):=.aY
theorem ZgL(F:aM K "move" "Joins.move" FR f fd)(r:oE K C)(qT:HasFn P w K B I 1 "followed" oW (KN K))(pI:HasFn P w K B I 1 "turned_back" oX Ce)(bl:Bl B):aE P w K B I aL 2 f fd Lm (To C):=by
 refine F.o sP λs H hr h=>?_;obtain⟨l,st,n,a,b,A,hb,ta,tb,tn,fm,tu,g,mb,rfl,d,hu,n8,tl,ft,hA,hB,lA,lB,fl,ll,mA,mB,fA,neq,min,lm,MY,q⟩:=h;refine⟨_,(aj (bR 4 sP.nd (bc (iL K) (pF K 0) (pv 2))) (aj (bR 5 sP.nd (bc (iL K) (pF K 0) (pv 1))) (aj (bR 6 sP.nd (aZ qT hr (aa (bc (iL K) (pF K 0) (pv 2)) (aa (pv 3) ae)))) (aj (bR 7 sP.nd (aZ qT hr (aa (pv 6) (aa (aZ pI hr (aa (bc (iL K) (pF K 0) (pv 1)) ae)) ae)))) (aj (bR 8 sP.nd (Pd (pF K 0) (pv 5) ⟨rfl,rfl,rfl,rfl⟩)) (aj (bZ (Pd (pF K 0) (pv 5) ⟨rfl,rfl,rfl,rfl⟩)) (aj (dE eJ rfl (dH (K:=K) rfl (pv 8)) (aV 9 sP.nd) (aj (Rk (pF K 0) (pv 9) O_ (pv 4)) (av (Rk (pF K 0) (pv 9) O_ (aZ qT hr (aa (pv 7) (aa (bc (iL K) (pF K 0) (pv 9)) ae))))))) (av (bZ (j9 (K:=K) rfl (gT ij PySem.F.slot_list_extend PySem.F.type_list_extend ZcN (de (bo hr) (pF K 0) (pv 4) (λ_ _=>rfl)) (aa (pv 8) ae)))))))))))),?_⟩;refine Zl ?_;intros;have sz:(10000:Nat)<=sizeLine:=by rw[dg];decide
 obtain⟨N,ho⟩:=d.obj;have yM:∀{i:Nat} {t:Z Int},st.ld[i]?=O t->∃x,l.fE[i]?=O x/\H x=O (.tup (t.map V.int)):=λ{i t} ht=>by
  have hl:=cZ d.lead;have dU:i<l.fE.length:=by rw[hl];exact(Yn.mp ht).1
  obtain⟨y,ey,hy⟩:=fY d.lead (Yc dU);rw[ht] at ey;cases ey;exact⟨_,Yc dU,hy⟩
 obtain⟨xa,exa,MZ⟩:=yM lA;obtain⟨xb,exb,M0⟩:=yM lB;have ata:dI (l.fE.map V.ref) (a:Int)=O (.ref xa):=fL (by rw[Yi,exa];rfl);have atb:dI (l.fE.map V.ref) (b:Int)=O (.ref xb):=fL (by rw[Yi,exb];rfl);obtain⟨XF,lta⟩:=fl ta (Yj lA);obtain⟨M3,M4⟩:=fl tb (Yj lB);obtain⟨mo,zM,vmo,XG⟩:=pP (f:=λv:Z Nat=>HO.lst (dY v)) d.mem mA;obtain⟨ms,mms,vms,hms⟩:=pP (f:=λv:Z Nat=>HO.lst (dY v)) d.mem mB;obtain⟨fo,mfo,vfo,wR⟩:=pP (f:=λv:Z Int=>HO.lst (v.map V.int)) d.free fA;have MU:=cZ d.mem;have Dw:=cZ d.free;have nd:=d.nd;have Dy:∀{x:U},x∈l.gv->x∈l.fp:=λ{x} h=>by simp[JL.fp,h]
 simp only[JL.fp,Y2,Ys,iP] at nd;obtain⟨⟨x1,x2,x3,x4,x5⟩,⟨y1,y2,y3,y4⟩,⟨z1,z2,z3⟩,⟨w1,w2⟩,v1,v2⟩:=nd;refine zt ?_;intro;refine bW ?_;refine⟨_,rfl,l.J,C,N,_,_,rfl,ho,r.cls,r.kI,rfl,_,rfl,l.ha,_,_,_,rfl,rfl,aq.of d.heads,pY hB,?_⟩;refine zt ?_;intro;refine bW ?_;refine⟨_,rfl,l.J,C,N,_,_,rfl,ho,r.cls,r.kI,rfl,_,rfl,l.ha,_,_,_,rfl,rfl,aq.of d.heads,pY hA,?_⟩;refine zt ?_;intro;refine bW ?_;refine⟨_,rfl,l.J,C,N,_,_,rfl,ho,r.cls,r.oy,rfl,_,rfl,l.la,_,_,_,rfl,rfl,aq.of d.jb,atb,_,rfl,xb,tu,tb,tn,rfl,aB.of M0,aB.of hu,λx R=>by rw[tl,←M4];exact rh M3 R,QO,λtm H1 XD g1 htm=>?_⟩;refine zt ?_;intro;refine bW ?_;refine⟨_,rfl,_,rfl,l.J,C,N,_,_,rfl,g1 _ _ ho,r.cls,r.oy,rfl,_,rfl,l.la,_,_,_,rfl,rfl,aq.of (g1 _ _ d.jb),ata,xa,ta,rfl,g1 _ _ MZ,QO,XF,λti H2 nti g2 DA=>?_⟩;refine⟨tm,ti,bT tn tb,inv ta,rfl,aB.of (g2 _ _ htm),aB.of DA,?_,by rw[jF];omega,λto H3 DB g3 XH=>?_⟩
 ·rw[fZ,lta];exact ZiA (n:=n) (λx R=>by rw[←tl];exact rh ft R) (λy hy=>by rw[tl,←M4];exact rh M3 hy)
 have kA:=(g1.trans g2).trans g3;generalize Zkj:bT (inv ta) (bT tn tb)=D at XH q;have we:full D=ar/\D.length=n:=by
  rw[←Zkj];refine⟨qX (kH XF) (qX ft M3 QO) (by rw[fZ,jF];omega),by rw[jF,jF];exact M4⟩
 refine zt ?_;intro;refine bW ?_;refine⟨_,rfl,l.J,C,N,_,_,rfl,kA _ _ ho,r.cls,r.vF,rfl,l.md,rfl,.inl ⟨_,.inl (kA _ _ d.ke)⟩,_,rfl,_,.inl (A:Int),.ref mo,kA _ _ d.ke,rfl,vmo,λH4 b4 e4=>?_⟩;rw[AF A (by rw[Ya];exact MU.symm)] at e4;have o4:=b4 _ _ (kA _ _ ho) x3;have f4:=b4 _ _ (kA _ _ d.frees) (λz=>w1 z.symm);refine⟨_,rfl,l.J,C,N,_,_,rfl,o4,r.cls,r.tN,rfl,l.fd,rfl,.inl ⟨_,.inl f4⟩,_,rfl,_,.inl (A:Int),.ref fo,f4,rfl,vfo,λH5 b5 e5=>?_⟩;rw[AF A (by rw[Ya];exact Dw.symm)] at e5;have L:∀c o,H c=O o->c≠l.md->c≠l.fd->H5 c=O o:=λc o e J Q=>b5 _ _ (b4 _ _ (kA _ _ e) J) Q;have e45:H5 l.md=O _:=b5 _ _ e4 w1;have X:∀{x:U},x∈l.gv->x≠l.ha/\x≠l.la/\x≠l.md/\x≠l.fd:=λ{x} R=>⟨λz=>y4 (by rw[←z];exact R),λz=>z3 (by rw[←z];exact R),λz=>w2 (by rw[←z];exact R),λz=>v1 (by rw[←z];exact R)⟩;have XI:=L _ _ XG (X zM).2.2.1 (X zM).2.2.2;have wU:H5 to=O (.tup (D.map V.int)):=by
  have J:to≠l.md:=λz=>by rw[z,g1.trans g2 _ _ d.ke] at DB;cases DB
  have Q:to≠l.fd:=λz=>by rw[z,g1.trans g2 _ _ d.frees] at DB;cases DB
  exact b5 _ _ (b4 _ _ XH J) Q
 dsimp only;have zN:(dY g).length=g.length:=Ya _;have hlen:∀is:Z Nat,(kL hb is st.hd).length=st.hd.length:=λis=>xN (λ_ _=>Jf) is st.hd;have Zkk:∀is:Z Nat,(iz D is st.ld).length=st.ld.length:=λis=>xN (λ_ _=>by unfold qH;exact Jf) is st.ld;refine eC (KQ H5 l (kL hb g st.hd) (iz D g st.ld) n (Vv l a b hb A tu tm to mo)) (λjT dG=>?_) ?_
 ·refine⟨_,rfl,mo,rfl,⟨_,aq.of XI⟩,fH (K:=K) (a:=mo) (xs:=dY g) (λj=>KQ H5 l (kL hb (g.take j) st.hd) (iz D (g.take j) st.ld) n (Vv l a b hb A tu tm to mo))
   ⟨l.fE,aF,L _ _ d.heads y2 y3,L _ _ d.jb z1 z2,L2.Paired.bu d.lead λc xs e=>L c _ e (eF e d.ke (λz=>by cases z)) (eF e d.frees (λz=>by cases z)),fl,λc o e _ _=>e,rfl⟩
   (λj σ H6 _ ⟨_,_,_,_,_,_,G,_⟩=>aq.of (G _ _ XI (X zM).1 (X zM).2.1)) ?_ ?_⟩
  ·rintro j v σ H6 hj ⟨E,o9,T,k2,k3,k4,G,rfl⟩;rw[Yi] at hj;obtain⟨i,mi,rfl⟩:∃i,g[j]?=O i/\V.int (i:Int)=v:=by
    cases e:g[j]? with
    |none=>rw[e] at hj;cases hj
    |some i=>rw[e] at hj;exact⟨i,rfl,Yo hj⟩
   have hi:=min i (Yj mi);have il:i<(iz D (g.take j) st.ld).length:=by rw[Zkk];omega
   have ZlZ:=cZ k3;obtain⟨t,et,DA⟩:=fY k3 (Yc (show i<E.length by omega));obtain⟨ftt,XJ⟩:=k4 t (Yj et);have oJ:=G _ _ (L _ _ ho x3 x4) x1 x2;have ixh:mJ (dY (kL hb (g.take j) st.hd)).length (i:Int)=O i:=by
    rw[JU (ri _) (by rw[Ya,hlen];omega),Y9]
   have ixl:mJ (E.map V.ref).length (i:Int)=O i:=by
    rw[JU (ri _) (by rw[Ya];omega),Y9]
   refine aQ ?_;refine⟨_,rfl,_,rfl,l.J,C,N,_,_,rfl,oJ,r.cls,r.kI,rfl,_,rfl,l.ha,_,_,i,rfl,rfl,T,ixh,λH7 b7 e7=>?_⟩;have XM:=b7 _ _ oJ x1;have zO:=b7 _ _ k2 (λz=>y1 z.symm);have to7:H7 to=O (.tup (D.map V.int)):=b7 _ _ (G _ _ wU (eF wU (L _ _ d.heads y2 y3) (λz=>by cases z)) (eF wU (L _ _ d.jb z1 z2) (λz=>by cases z))) (eF (G _ _ wU (eF wU (L _ _ d.heads y2 y3) (λz=>by cases z)) (eF wU (L _ _ d.jb z1 z2) (λz=>by cases z))) T (λz=>by cases z));have x7:H7 E[i]=O (.tup (t.map V.int)):=b7 _ _ DA (eF DA T (λz=>by cases z));have atx:dI (E.map V.ref) (i:Int)=O (.ref E[i]):=fL (by rw[Yi,Yc (show i<E.length by omega)];rfl);refine⟨_,rfl,_,rfl,l.J,C,N,_,_,rfl,XM,r.cls,r.oy,rfl,_,rfl,l.la,_,_,_,rfl,rfl,aq.of zO,atx,to,E[i],D,t,rfl,aB.of to7,aB.of x7,λx R=>by rw[XJ,←we.2];exact rh we.1 R,by have:=we.2;omega,λtt H8 XN g8 htt=>?_⟩;refine⟨_,rfl,l.J,C,N,_,_,rfl,g8 _ _ XM,r.cls,r.oy,rfl,_,rfl,l.la,_,_,i,rfl,rfl,g8 _ _ zO,ixl,λH9 b9 e9=>?_⟩;have gt:(iz D (g.take j) st.ld).getD i []=t:=by rw[Yr,et];rfl
   have eh:kL hb (g.take (j+1)) st.hd=(kL hb (g.take j) st.hd).set i hb:=OK mi st.hd;have el:iz D (g.take (j+1)) st.ld=(iz D (g.take j) st.ld).set i (bT t D):=by
    have e1:iz D (g.take (j+1)) st.ld=qH D (iz D (g.take j) st.ld) i:=OK mi st.ld;rw[e1,←gt];rfl
   have MX:tt≠l.la:=λz=>by rw[z,zO] at XN;cases XN
   have h9:∀c o,H6 c=O o->c≠l.ha->c≠l.la->H9 c=O o:=λc o e J Q=>b9 _ _ (g8 _ _ (b7 _ _ e J)) Q;refine⟨E.set i tt,_,?_,?_,?_,?_,λc o e J Q=>h9 c o (G c o e J Q) J Q,rfl⟩
   ·rw[eh,←ZgK];exact b9 _ _ (g8 _ _ e7) y1
   ·rw[e9,List.map_set]
   ·rw[el];exact OL (F:=λa (xs:Z Int)=>H9 a=O (.tup (xs.map V.int))) (b9 _ _ htt MX) i (L2.Paired.bu k3 λc xs e=>h9 c _ e (eF e T (λz=>by cases z)) (eF e k2 (λz=>by cases z)))
   ·intro u XO;rw[el] at XO;rcases List.mem_or_eq_of_mem_set XO with z|z;·exact k4 u z
    ·rw[z];exact⟨qX ftt we.1 (by rw[XJ,we.2]),by rw[jF];exact we.2⟩
  ·rintro σ H6 ⟨E,o9,T,k2,k3,k4,G,rfl⟩;rw[zN,Y7] at T k3 k4;exact dG _ _ ⟨E,o9,T,k2,k3,k4,G,rfl⟩
 rintro σ H6 ⟨E,o9,T,k2,k3,k4,G,rfl⟩;have oJ:=G _ _ (L _ _ ho x3 x4) x1 x2;have XQ:=G _ _ e45 (λz=>y2 z.symm) (λz=>z1 z.symm);have fd6:=G _ _ e5 (λz=>y3 z.symm) (λz=>z2 z.symm);have uF:=X mms;have DC:=X zM;have yN:∀c o,H c=O o->c≠l.ha->c≠l.la->c≠l.md->c≠l.fd->H6 c=O o:=λc o e J Q n3 n4=>G _ _ (L _ _ e n3 n4) J Q;have ms6:=yN _ _ hms uF.1 uF.2.1 uF.2.2.1 uF.2.2.2;have mo6:=yN _ _ XG DC.1 DC.2.1 DC.2.2.1 DC.2.2.2;have XR:Paired (λc (p:Nat×Z Nat)=>H6 c=O (.lst (dY p.2))/\c∈l.gv) (d9 (st.mem.map (·.1)) l.gv A) (dm A st.mem):=G9 d.mem λc p e mc _=>by
  obtain⟨q1,q2,q3,q4⟩:=X mc;exact⟨yN _ _ e q1 q2 q3 q4,mc⟩
 have lkB:(dm A st.mem).lookup hb=O mb:=by rw[vA (λz=>neq z.symm)];exact mB
 obtain⟨wV,Zkl,Ln,Lo⟩:=pP (f:=λv:Z Nat=>HO.lst (dY v)) (L2.Paired.bu XR λ_ _ h=>h.1) lkB;rw[pS] at Ln;have BW:wV∈l.gv:=A6.subset Zkl;refine⟨_,rfl,l.J,C,N,_,_,rfl,oJ,r.cls,r.vF,rfl,_,rfl,l.md,.ref wV,rfl,qb XQ Ln,.inl ⟨rfl,_,aq.of Lo⟩,_,rfl,wV,mo,_,_,rfl,rfl,Lo,mo6,by rw[zN,Ya];omega,λH7 b7 e7=>?_⟩;obtain⟨r1,r2,r3,r4⟩:=X BW;have sub:=A6 (h:=A) (ks:=st.mem.map (·.1)) (as:=l.gv);have Zkm:=A6 (h:=A) (ks:=st.fr.map (·.1)) (as:=l.cy);have XS:∀c∈JL.fp ⟨l.J,l.ha,l.la,l.md,l.fd,E,d9 (st.mem.map (·.1)) l.gv A,d9 (st.fr.map (·.1)) l.cy A⟩,c∈l.fp:=λc hc=>by
  simp only[JL.fp,Ys] at hc⊢;rcases hc with h|h|h|h|h|h;·exact .inl h
  ·exact .inr (.inl h)
  ·exact .inr (.inr (.inl h))
  ·exact .inr (.inr (.inr (.inl h)))
  ·exact .inr (.inr (.inr (.inr (.inl h))))
  ·exact .inr (.inr (.inr (.inr (.inr (sub.subset h)))))
 have W:∀c o,H6 c=O o->c≠wV->H7 c=O o:=λc o e J=>b7 _ _ e J;refine q ⟨l.J,l.ha,l.la,l.md,l.fd,E,d9 (st.mem.map (·.1)) l.gv A,d9 (st.fr.map (·.1)) l.cy A⟩ H7 rfl XS (λc o e nc=>?_) ⟨⟨N,W _ _ oJ (λz=>x5 (by rw[z];exact BW))⟩,W _ _ T (λz=>r1 z.symm),W _ _ k2 (λz=>r2 z.symm),L2.Paired.bu k3 λc xs e=>W c _ e (eF e Lo (λz=>by cases z)),?_,?_,?_,?_,?_,λc hc z=>?_⟩
 ·simp only[JL.fp,Ys,iP] at nc;exact W _ _ (yN _ _ e nc.2.1 nc.2.2.1 nc.2.2.2.1 nc.2.2.2.2.1) (λz=>nc.2.2.2.2.2 (by rw[z];exact BW))
 ·show H7 l.md=O (.dK (bG ((eW hb (mb++g) (dm A st.mem)).map (·.1)) _));rw[sY,pS];exact W _ _ XQ (λz=>r3 z.symm)
 ·refine Zc7 (F:=λc (p:Nat×Z Nat)=>H6 c=O (.lst (dY p.2))/\c∈l.gv) (m:=wV) (λk=>?_) XR (sub.nodup v2) ?_ (by rw[pS];exact Ln) λc p e _ nc=>W _ _ e.1 nc
  ·show H7 wV=O (.lst (dY (mb++g)));rw[e7,dY,dY,dY,Yp]
  ·rw[pS];exact MY.filter _
 ·show H7 l.fd=O (.dK (bG ((dm A st.fr).map (·.1)) _));rw[pS];exact W _ _ fd6 (λz=>r4 z.symm)
 ·refine G9 d.free λc p e mc _=>?_;have no:=d.out c mc;simp only[JL.fp,Ys,iP] at no;exact W _ _ (yN _ _ e no.2.1 no.2.2.1 no.2.2.2.1 no.2.2.2.2.1) (λz=>no.2.2.2.2.2 (by rw[z];exact BW))
 ·have e0:(JL.fp ⟨l.J,l.ha,l.la,l.md,l.fd,E,d9 (st.mem.map (·.1)) l.gv A,d9 (st.fr.map (·.1)) l.cy A⟩).Sublist l.fp:=(((((sub.cons₂ l.fd).cons₂ l.md).cons₂ l.la).cons₂ l.ha).cons₂ l.J);exact e0.nodup d.nd
 ·exact d.out c (Zkm.subset hc) (XS c z)
structure Vw(st:JS)(n a b ha hb:Nat)(ta tb fma zP:Z Int)(ma mb:Z Nat):Prop where
 hA:st.hd[a]?=O ha
 hB:st.hd[b]?=O hb
 lA:st.ld[a]?=O ta
 lB:st.ld[b]?=O tb
 fl:∀t∈st.ld,full t=ar/\t.length=n
 ll:st.ld.length=st.hd.length
 mA:st.mem.lookup ha=O ma
 mB:st.mem.lookup hb=O mb
 fA:st.fr.lookup ha=O fma
 fB:st.fr.lookup hb=O zP
 ne:ha≠hb
 iA:∀i∈ma,i<st.hd.length
 iB:∀i∈mb,i<st.hd.length
 lm:ma.length+mb.length<=1000
 nd:(st.mem.map (·.1)).Nodup
inductive RJ(C:U)(t:Z V)(H:Hp)(Q:VK)(E:XK):Prop
 |mk (l:JL) (st:JS) (n a b m k:Nat) (g e d o s:Z Int) (r:U) (i h:Z Nat) (F:t=[.ref l.J,.int (a:Int),.int (b:Int),.ref r]) (D:cT H C n l st) (z:H r=O (.tup (d.map V.int))) (A:n<=8) (y:d.length=n) (x:full d=ar) (v:Vw st n a b m k g e o s i h) (u:∀(j:JL) (p:JS) (q:Hp),j.J=l.J->(∀c∈j.fp,c∈l.fp)->Out l.fp H q->cT q C n j p->(p=st.mv k m h i (bT (inv g) (bT (inv d) e))\/p=st.mv m k i h (bT (inv e) (bT d g)))->Q .aC q)
abbrev mG:Z af:=["self","one","other","turn"]
def ZV:aP mG mG (aJ Em):=.aY
def Zfm(F:aM K "bring_together" "Joins.bring_together" Em f fd)(d:oE K C)(pI:HasFn P w K B I 1 "turned_back" oX Ce)(Ar:cO P w K B I 2 "move" C Lm (To C))(bl:Bl B):aE P w K B I aL 3 f fd mG (RJ C):=by
 refine F.o ZV λs H i h=>?_;obtain⟨l,st,n,a,b,ha,X,N,L,m,A,zP,J,T,R,rfl,c,W,Q,tl,y,two,q⟩:=h;refine⟨_,(av (aU (bH nj (dC K bl (de (bo i) (pF K 0) (bc (iL K) (pF K 0) (pv 1)) (λ_ _=>rfl))) (dC K bl (de (bo i) (pF K 0) (bc (iL K) (pF K 0) (pv 2)) (λ_ _=>rfl)))) (av (bZ (dh Ar i (by decide) (pv 0) (aa (pv 1) (aa (pv 2) (aa (aZ pI i (aa (pv 3) ae)) ae)))))) (av (bZ (dh Ar i (by decide) (pv 0) (aa (pv 2) (aa (pv 1) (aa (pv 3) ae)))))))),?_⟩;obtain⟨g,e⟩:=c.obj;obtain⟨G,mxa,k,MZ⟩:=pP (f:=λv:Z Nat=>HO.lst (dY v)) c.mem two.mA;obtain⟨E,M5,j,M0⟩:=pP (f:=λv:Z Nat=>HO.lst (dY v)) c.mem two.mB;refine⟨_,rfl,l.J,C,g,_,_,rfl,e,d.cls,d.vF,rfl,_,rfl,l.J,C,g,_,_,rfl,e,d.cls,d.kI,rfl,_,rfl,l.ha,_,_,_,rfl,rfl,aq.of c.heads,pY two.hA,l.md,.ref G,rfl,qb c.ke k,G,_,rfl,.inl (aq.of MZ),?_⟩;refine⟨_,rfl,l.J,C,g,_,_,rfl,e,d.cls,d.vF,rfl,_,rfl,l.J,C,g,_,_,rfl,e,d.cls,d.kI,rfl,_,rfl,l.ha,_,_,_,rfl,rfl,aq.of c.heads,pY two.hB,l.md,.ref E,rfl,qb c.ke j,E,_,rfl,.inl (aq.of M0),_,_,rfl,rfl,_,rfl,bA (λ_=>?_) (λ_=>?_)⟩
 ·refine⟨_,rfl,l.J,g,_,rfl,e,rfl,_,rfl,_,rfl,_,rfl,J,m,rfl,W,QO,y,λtv H1 ntv g1 x=>?_⟩;refine⟨l,st,n,a,b,ha,X,N,L,inv m,A,tv,T,R,rfl,c.same g1,x,Q,by rwa[fZ],kH y,two.hA,two.hB,two.lA,two.lB,two.fl,two.ll,two.mA,two.mB,two.fA,two.ne,two.iA,two.lm,two.nd,λp D t r o u=>q p _ D t r ((Out.of g1).trans o) u (.inl rfl)⟩
 ·refine⟨_,rfl,l.J,g,_,rfl,e,rfl,_,rfl,_,rfl,_,rfl,?_⟩;exact⟨l,st,n,b,a,X,ha,L,N,m,zP,J,R,T,rfl,c,W,Q,tl,y,two.hB,two.hA,two.lB,two.lA,two.fl,two.ll,two.mB,two.mA,two.fB,(λz=>two.ne z.symm),two.iB,by have:=two.lm;omega,two.nd,λp D t r o u=>q p _ D t r o u (.inr rfl)⟩
def UJ(H:Hp)(c:Z U)(b:Z (Int×Int)):Prop:=Paired (λa (p:Int×Int)=>H a=O (.tup [.int p.1,.int p.2])) c b
def jJ(g e:Nat)(b a c d:Z Int):Z (Int×Int):=if g=e then c.map λz=>(b.getD z.toNat 0,a.getD z.toNat 0) else(c.map λz=>b.getD z.toNat 0).flatMap λx=>d.map λz=>(x,a.getD z.toNat 0)
inductive RK(C:U)(m:Z V)(H:Hp)(Q:VK)(E:XK):Prop
 |mk (l:JL) (st:JS) (n i j h g:Nat) (c b e d:Z Int) (t:m=[.ref l.J,.int (i:Int),.int (j:Int)]) (s:cT H C n l st) (q:ue st i h c e) (r:ue st j g b d) (o:∀(p:U) (k:Z U) (bX:Z (Int×Int)) (a:Hp),H p=aF->ag H a->a p=O (.lst (k.map V.ref))->UJ a k bX->bX.Perm (jJ h g c b e d)->bX.Pairwise jI->Q (.ref p) a)
inductive Kh(C:U)(r:Z V)(H:Hp)(Q:VK)(E:XK):Prop
 |mk (l:JL) (st:JS) (n i j g e:Nat) (b a d c h:Z Int) (o:U) (A:r=[.ref l.J,.int (i:Int),.int (j:Int),.ref o]) (z:cT H C n l st) (x:ue st i g b d) (y:ue st j e a c) (v:H o=some (.tup (h.map V.int))) (u:(∀q∈jJ g e b a d c,0<=q.1/\q.1<h.length)) (t:(jJ g e b a d c).length<=1000) (s:∀(p:U) (k:Z Int) (m:Hp),H p=none->ag H m->m p=some (.lst (k.map V.int))->k.Perm (((jJ g e b a d c).filter λq=>decide (h.getD q.1.toNat 0=q.2)).map (·.1))->k.Pairwise (·<·)->Q (.ref p) m)
def ZaZ:aP mG mG (aJ FQ):=.aY
theorem ZgM(F:aM K "left" "Joins.left" FQ f fd)(FA:cO P w K B I 3 "pairs" C rN (RK C))(bl:Bl B):aE P w K B I aL 4 f fd mG (Kh C):=by
 refine F.o ZaZ λs H hr h=>?_;obtain⟨l,st,n,i,j,hi,hj,ti,tj,si,sj,d,tu,rfl,ja,o1,o2,hu,gu,jo,q⟩:=h;refine⟨_,(av (aI (Ze1 (xs:=["first","second"]) (fr:=[("turn",3)]) (cl:=[("turn",s.heap.objs.size+1)]) rfl (.hU ⟨rfl,trivial⟩ ⟨⟨rfl,.inl rfl,.inl rfl,rfl⟩,trivial⟩) (λ_ _ _ _=>(gc (K:=K) (n:=2) rfl rfl (bq (q5 (i:=0) (show(["first","second","turn"]:Z af).Nodup by decide+kernel) rfl (Or.inl rfl)) (bq (q5 (i:=1) (show(["first","second","turn"]:Z af).Nodup by decide+kernel) rfl (hH rfl)) f_)))) (dH (K:=K) rfl (dh FA hr (by decide) (pv 0) (aa (pv 1) (aa (pv 2) ae)))) (λ_ _ _ _=>vM (bH cq (bc (iT K) (pv 2) (pv 0)) (pv 1))) (λ_ _ _ _=>(pv 0))))),?_⟩;obtain⟨dx,ho⟩:=ja.obj;refine⟨_,rfl,l.J,dx,_,rfl,ho,rfl,_,rfl,_,rfl,l,st,n,i,j,hi,hj,ti,tj,si,sj,rfl,ja,o1,o2,λp J bX H1 np T hp pr L pw=>?_⟩;have pl:=cZ pr;have al:(J.map V.ref).length=bX.length:=by rwa[Ya]
 have Vx:=L.length_eq;refine⟨p,rfl,⟨_,aq.of hp⟩,λD R=>ZcP (xs:=J.map V.ref) (λk m r=>k<=bX.length/\ag H1 r/\r D=O (.lst m)/\m=((bX.take k).filter λq=>decide (d.getD q.1.toNat 0=q.2)).map λq=>V.int q.1) ⟨Yx _,cF R _,aT,rfl⟩ (λk m r _ ⟨_,g,_,_⟩=>aq.of (g _ _ hp)) ?_ ?_⟩
 ·rintro k v m r t ⟨_,g,G,u⟩ os qB;obtain⟨E,A,rfl⟩:∃E A,os=[E,A]:=by
   match os,qB with
   |[E,A],_=>exact⟨E,A,rfl⟩
  rw[Yi] at t;obtain⟨c,ec,rfl⟩:∃c,J[k]?=O c/\V.ref c=v:=by
   cases e:J[k]? with
   |none=>rw[e] at t;cases t
   |some c=>rw[e] at t;exact⟨c,rfl,Yo t⟩
  obtain⟨⟨x,y⟩,X,N⟩:=fY pr ec;have kl:k<bX.length:=(Yn.mp X).1;have bx:=gu (x,y) (L.subset (Yj X));have Q:=g _ _ N;have yl:m.length<sizeLine:=by
   have:=Wj (λq:Int×Int=>decide (d.getD q.1.toNat 0=q.2)) (bX.take k);rw[We] at this;rw[u,Ya,dg];omega
  refine⟨c,_,rfl,aB.of Q,rfl,_,_,rfl,aQ ⟨_,_,rfl,aQ ⟨rfl,⟨[O (.int x),O (.int y)],rfl,rfl⟩,?_⟩⟩⟩;refine⟨_,rfl,_,rfl,tu,_,_,_,rfl,rfl,aB.of (g _ _ (T _ _ hu)),oB bx.1 bx.2,_,rfl,rfl,_,rfl,?_⟩;have ed:decide (V.int (d.getD x.toNat 0)=V.int y)=decide (d.getD x.toNat 0=y):=by
   rw[Wq,hI,Xc];exact⟨V.int.inj,λz=>by rw[z]⟩
  rw[ed];have et:∀(b:cm),decide (d.getD x.toNat 0=y)=b->((bX.take (k+1)).filter λq=>decide (d.getD q.1.toNat 0=q.2)).map (λq=>V.int q.1)=m++(if b=ar then[V.int x] else[]):=λb eb=>by
   rw[u,Yz,X,Wo,Yp]
   congr 1
   show([((x,y):Int×Int)].filter _).map _=_;rw[Ja,eb];cases b<;>rfl
  refine bA (λW=>?_) (λW=>?_)
  ·refine⟨_,rfl,G,yl,kl,λb o e=>?_,aT,?_⟩
   ·rw[aN (bP e R)];exact g _ _ e
   ·rw[et ar W];rfl
  ·refine⟨kl,g,G,?_⟩;rw[et a_ (by cases e:decide (d.getD x.toNat 0=y) with|true=>exact absurd e W|false=>rfl)];simp
 ·rintro m r ⟨_,g,G,u⟩;rw[al,Y7] at u;refine q D ((bX.filter λq=>decide (d.getD q.1.toNat 0=q.2)).map (·.1)) r (T.free R) (T.trans g) (by rw[G,u,Y6];rfl) ((L.filter _).map _) ?_;rw[Jc];refine(List.Pairwise.and_mem.mp (pw.filter _)).imp ?_;rintro a b ⟨ma,mb,lt⟩;have e1:=eH (Y5.mp ma).2;have e2:=eH (Y5.mp mb).2;rcases lt with lt|⟨e,lt⟩;·exact lt
  ·rw[←e1,←e2,e] at lt;exact absurd lt (Int.lt_irrefl _)
theorem ZiB:∀{c:Z V} {d:Z Nat},Paired (λy k=>∃a,y=V.ref a/\H a=O (.tup [.int (g k).1,.int (g k).2])) c d->∃b:Z U,c=b.map V.ref/\UJ H b (d.map g):=by
 intro c d i;induction i with
 |nil=>exact⟨[],rfl,.nil⟩
 |cons z t j=>
  obtain⟨a,e,h⟩:=z;obtain⟨b,m,l⟩:=j;exact⟨a::b,by rw[e,m];rfl,.cons h l⟩
def map_range(g:Int->α)(a:Z Int):(List.range a.length).map (λk=>g (a.getD k 0))=a.map g:=by
 have b:(List.range a.length).map (λk=>g (a.getD k 0))=((List.range a.length).map λk=>a.getD k 0).map g:=by rw[Y6];rfl
 rw[b,(range_getD a 0)]
def Vy(D:U)(H:Hp)(c:Z U)(b:Z (Int×Int)):Prop:=Paired (λa (p:Int×Int)=>a≠D/\H a=O (.tup [.int p.1,.int p.2])) c b
theorem IA{d c e:Type}(g:d->c->e)(b:Z c):∀a:Z d,(a.flatMap λx=>b.map (g x)).length=a.length*b.length
 |[]=>QS
 |x::a=>by rw[List.flatMap_cons,Ye,IA g b a,Ya,Wh,Nat.succ_mul];exact Nat.add_comm _ _
def Zd9{a β c:Type}{g:a->Z c}{b:Z a}{i:Nat}{x:a}(h:b[i]?=O x):(b.take (i+1)).flatMap g=(b.take i).flatMap g++g x:=by
 rw[Yz,h,D3];simp
def Pm{a:Z Int}(b:a.Pairwise (·<=·))(c:a.Nodup):a.Pairwise (·<·):=by
 refine(List.Pairwise.and b (Jh.mp c)).imp ?_
 grind
def ZgN(x:Int){a:Z Int}(b:a.Pairwise (·<·)):(a.map λy=>((x,y):Int×Int)).Pairwise jI:=by
 rw[Jc];exact b.imp λh=>.inr ⟨rfl,h⟩
def ZgO{a:Z Int}(c:a.Pairwise (·<·))(e:a[k]?=O x)(d:y∈a.take k):y<x:=by
 obtain⟨i,b,rfl⟩:=W0.mp d;obtain⟨g,rfl⟩:=Yn.mp e;rw[We] at b;rw[List.getElem_take];exact W5.mp c i k (i2 b (Xq _ _)) g (i2 b (Nat.min_le_left _ _))
def E_:aP ["self","one","other","here","there"] rN (aJ Fu):=.aY
theorem Zfn(F:aM K "pairs" "Joins.pairs" Fu f fd)(X:oE K C)(u4:cO P w K B I 1 "together" C rN (G8 C))(oh:cO P w K B I 2 "open_at" C yY (A5 C))(bl:Bl B):aE P w K B I aL 3 f fd rN (RK C):=by
 refine F.o E_ λs H hr h=>?_;obtain⟨l,st,n,i,j,hi,hj,ti,Q,u,sj,rfl,L,E,A,q⟩:=h;refine⟨_,(aj (aU (jY (eP (dh u4 hr (by decide) (pv 0) (aa (pv 1) (aa (pv 2) ae))))) (av (aI (Ze2 (xs:=["first","second"]) (fr:=[("self",0),("other",2)]) (cl:=[("self",s.heap.objs.size+1),("other",s.heap.objs.size+1+1)]) rfl (.hU ⟨rfl,⟨rfl,trivial⟩⟩ ⟨⟨rfl,.inl rfl,.inl rfl,rfl⟩,⟨⟨rfl,.inl rfl,.inl rfl,rfl⟩,trivial⟩⟩) (λ_ _ _ _=>(q5 (i:=0) (show(["first","second","self","other"]:Z af).Nodup by decide+kernel) rfl (hH rfl))) (dH (K:=K) rfl (dh oh hr (by decide) (pv 0) (aa (pv 1) ae))) (λ_ _ _ _=>(dH (K:=K) rfl (dh oh hr (by decide) (pv 2) (aa (pv 3) ae)))) (λ_ _ _ _=>(q5 (i:=1) (show(["first","second","self","other"]:Z af).Nodup by decide+kernel) rfl (hH rfl))) (λ_ _ _ _=>(c5 (aa (pv 0) (aa (pv 1) ae))))))) a8) (aj (gI (i:=3) E_.nd rfl (kv rfl) (bc (iL K) (pF K 0) (pv 1))) (aj (gI (i:=4) E_.nd rfl (kv rfl) (bc (iL K) (pF K 0) (pv 2))) (av (aI (fJ (Ze8 (K:=K) rfl) rfl bl.A0 AN (aa (jE (x:="section") (fr:=[("there",4),("here",3)]) (cl:=[("there",s.heap.objs.size+1+1+1+1),("here",s.heap.objs.size+1+1+1)]) rfl (.hU ⟨rfl,⟨rfl,trivial⟩⟩ ⟨⟨rfl,.inl rfl,.inl rfl,rfl⟩,⟨⟨rfl,.inl rfl,.inl rfl,rfl⟩,trivial⟩⟩) (dH (K:=K) rfl (de (bo hr) (pF K 0) (bc (iL K) (pF K 0) (pv 1)) (λ_ _=>rfl))) (λ_ _ _ _=>m5) (λ_ _ _ _=>(c5 (aa (bc (iT K) (pv 2) (pv 0)) (aa (bc (iT K) (pv 1) (pv 0)) ae))))) ae))))))),?_⟩;refine l5 ?_;intros;obtain⟨dx,ho⟩:=L.obj;have f1:=E.jo;have f2:=A.jo;refine⟨_,rfl,l.J,dx,_,rfl,ho,rfl,_,rfl,_,rfl,l,st,n,i,j,hi,hj,rfl,L,E.hd,A.hd,_,rfl,?_⟩;by_cases eh:hi=hj
 ·rw[du eh];refine bV (aW ?_);have es:u=sj:=by have a:=E.fr;have b:=A.fr;rw[eh,b] at a;exact(Yo a).symm
  have yM:∀{k:Nat} {t:Z Int},st.ld[k]?=O t->∃x,l.fE[k]?=O x/\H x=O (.tup (t.map V.int)):=λ{k t} ht=>by
   have hl:=cZ L.lead;have dU:k<l.fE.length:=by rw[hl];exact(Yn.mp ht).1
   obtain⟨y,ey,hy⟩:=fY L.lead (Yc dU);rw[ht] at ey;cases ey;exact⟨_,Yc dU,hy⟩
  obtain⟨xi,exi,hxi⟩:=yM E.ld;obtain⟨xj,exj,hxj⟩:=yM A.ld;have ati:dI (l.fE.map V.ref) (i:Int)=O (.ref xi):=fL (by rw[Yi,exi];rfl);have atj:dI (l.fE.map V.ref) (j:Int)=O (.ref xj):=fL (by rw[Yi,exj];rfl);obtain⟨fa,XA,vf,cY⟩:=pP (f:=λv:Z Int=>HO.lst (v.map V.int)) L.free E.fr;refine zt ?_;intro;refine bW ?_;refine⟨_,rfl,l.J,C,dx,_,_,rfl,ho,X.cls,X.oy,rfl,_,rfl,l.la,_,_,_,rfl,rfl,aq.of L.jb,ati,?_⟩;refine zt ?_;intro;refine bW ?_;refine⟨_,rfl,l.J,C,dx,_,_,rfl,ho,X.cls,X.oy,rfl,_,rfl,l.la,_,_,_,rfl,rfl,aq.of L.jb,atj,?_⟩;refine⟨_,rfl,l.J,C,dx,_,_,rfl,ho,X.cls,X.tN,rfl,_,rfl,l.J,C,dx,_,_,rfl,ho,X.cls,X.kI,rfl,_,rfl,l.ha,_,_,_,rfl,rfl,aq.of L.heads,pY E.hd,l.fd,_,rfl,qb L.frees vf,fa,rfl,⟨_,aq.of cY⟩,λD hD=>xY (xs:=u.map V.int) (aq.of cY) (by rw[Ya];omega) hD (λ_=>ar) (λk y H1=>∃a,y=V.ref a/\a≠D/\H1 a=O (.tup [.int (ti.getD (u.getD k 0).toNat 0),.int (Q.getD (u.getD k 0).toNat 0)])) (λk y H1 J b ⟨a,e1,e2,e3⟩=>⟨a,e1,e2,b _ _ e3 e2⟩) (λk v hk H1 N M7 Kt Kf kt kf=>?_) λys H1 N h1 pr=>?_⟩
  ·obtain⟨z,rfl,hz⟩:=ot hk;have gz:u.getD k 0=z:=by rw[Yr,hz];rfl
   have b1:=E.gu z (Yj hz);have b2:=A.gu z (by rw[←es];exact Yj hz);refine mE (dk ?_);refine⟨_,rfl,_,rfl,xi,_,_,_,rfl,rfl,aB.of (N _ _ hxi),oB b1.1 b1.2,_,rfl,_,rfl,xj,_,_,_,rfl,rfl,aB.of (N _ _ hxj),oB b2.1 b2.2,by show 2<=sizeLine;rw[dg];decide,λa J na G ha=>?_⟩;obtain⟨ys,M7⟩:=M7;exact kt _ J rfl G ⟨a,rfl,(λz=>by rw[z,M7] at na;cases na),by rw[gz];exact ha⟩
  ·rw[GN,Ya] at pr;obtain⟨as,eas,eK⟩:=ZiB (g:=λk=>(ti.getD (u.getD k 0).toNat 0,Q.getD (u.getD k 0).toNat 0)) (L2.Paired.bu pr λy k ⟨a,e1,e2,e3⟩=>⟨a,e1,e3⟩);have em:(List.range u.length).map (λk=>((ti.getD (u.getD k 0).toNat 0,Q.getD (u.getD k 0).toNat 0):Int×Int))=u.map λz=>(ti.getD z.toNat 0,Q.getD z.toNat 0):=map_range (λz=>(ti.getD z.toNat 0,Q.getD z.toNat 0)) u;rw[em] at eK;have al:=cZ eK;rw[Ya] at al;rw[eas] at h1;have ndp:(u.map λz=>((ti.getD z.toNat 0,Q.getD z.toNat 0):Int×Int)).Nodup:=by
    have d:=E.dist;rw[Jh,Jc] at d⊢;exact d.imp λh e=>h (d6 (·.1) e)
   refine⟨D,as,_,rfl,aq.of h1,eK,ndp,.inl (mz (l3 al) f1),λiH nH pr2 p2 pw p J np G hp=>?_⟩;refine q p iH nH J (N.free np) (N.trans G) hp (L2.Paired.bu pr2 λ_ _ e=>G _ _ e) ?_ pw;unfold jJ;rw[bS eh];exact p2
 ·rw[fb eh];refine dk ?_;refine⟨_,rfl,l.J,dx,_,rfl,ho,rfl,_,rfl,l,st,n,i,hi,ti,u,rfl,L,E.hd,E.ld,E.fr,E.gu,E.jo,λp T H1 np N pm srt hp=>?_⟩;have nl:=pm.length_eq;rw[Ya] at nl;have sns:=Pm srt (pm.nodup_iff.mpr E.dist);refine⟨p,rfl,⟨_,aq.of hp⟩,λD hD=>Zgs (xs:=T.map V.int) (λk ys J=>k<=T.length/\ag H1 J/\J D=O (.lst ys)/\∃(as:Z U) (bX:Z (Int×Int)),ys=as.map V.ref/\Vy D J as bX/\bX.Perm ((T.take k).flatMap λx=>sj.map λz=>(x,Q.getD z.toNat 0))/\bX.Pairwise jI/\∀p∈bX,p.1∈T.take k) ⟨Yx _,cF hD _,aT,[],[],rfl,.nil,.nil,.nil,λ_ h=>(nomatch h)⟩ (λk ys J _ ⟨_,G,_⟩=>aq.of (G _ _ hp)) ?_ ?_ ?_ (λv σ H R R' m h=>m _ _ h)⟩
  ·rintro k v ys J hk ⟨kl,G,h2,as,bX,ey,pa,pp,pw,pin⟩ os qB;obtain⟨u1,u2,rfl⟩:∃u1 u2,os=[u1,u2]:=by
    match os,qB with
    |[u1,u2],_=>exact⟨u1,u2,rfl⟩
   obtain⟨x,rfl,hx⟩:=ot hk;have kl':k<T.length:=(Yn.mp hx).1;refine aQ ⟨⟨[O (.int x),u2],rfl,rfl⟩,?_⟩;refine⟨_,rfl,l.J,dx,_,rfl,G _ _ (N _ _ ho),rfl,_,rfl,l,st,n,j,hj,Q,sj,rfl,L.same (N.trans G),A.hd,A.ld,A.fr,A.gu,A.jo,λp2 uG H3 wW g3 M8 Zkn dM=>?_⟩;have M9:=M8.length_eq;rw[Ya] at M9;have Zko:=Pm Zkn (M8.nodup_iff.mpr A.dist);have pD:p2≠D:=λz=>by rw[z,h2] at wW;cases wW
   have Vx:=pp.length_eq;rw[IA (λx z=>((x,Q.getD z.toNat 0):Int×Int)) sj (T.take k),We] at Vx;have Zmf:=cZ pa;have Zmg:min k T.length*sj.length<=64*64:=vr QO (tr f2);refine⟨p2,rfl,⟨_,aq.of dM⟩,p2,uG.map V.int,λk2 g_ σ H4=>k2<=uG.length/\ag H1 H4/\H4 D=O (.lst g_)/\H4 p2=O (.lst (uG.map V.int))/\(∃A,σ=[O (.int x),A]++_)/\∃(wX:Z U) (wg:Z (Int×Int)),g_=wX.map V.ref/\Vy D H4 wX wg/\wg=bX++(uG.take k2).map λy=>(x,y),rfl,⟨Yx _,G.trans g3,g3 _ _ h2,dM,⟨u2,rfl⟩,as,bX,ey,L2.Paired.bu pa λ_ _ e=>⟨e.1,g3 _ _ e.2⟩,QS⟩,λk2 g_ σ H4 _ ⟨_,_,_,e,_⟩=>aq.of e,?_,?_⟩
   ·rintro k2 v2 g_ σ H4 hk2 ⟨k2l,g4,h4,e4,⟨XT,rfl⟩,wX,wg,DD,DE,uH⟩;obtain⟨y,rfl,hy⟩:=ot hk2;have Zkp:k2<uG.length:=(Yn.mp hy).1;have XU:=cZ DE;rw[uH,Ye,Ya,We] at XU;refine aQ ⟨_,rfl,_,rfl,by show 2<=sizeLine;rw[dg];decide,λa H5 na g5 ha=>⟨g5 _ _ h4,by rw[DD,Ya,XU,dg];have:=A.jo;omega,Zkp,?_,aT,?_,⟨O (.int y),rfl⟩,wX++[a],wg++[(x,y)],by rw[DD,Yp];rfl,?_,?_⟩⟩
    ·intro b o e;rw[aN (bP e hD)];exact g5 _ _ (g4 _ _ e)
    ·rw[aN pD];exact g5 _ _ e4
    ·have aD:a≠D:=λz=>by rw[z,h4] at na;cases na
     exact jB (F:=λa (p:Int×Int)=>a≠D/\upd H5 D _ a=O (.tup [.int p.1,.int p.2])) ⟨aD,by rw[aN aD];exact ha⟩ (L2.Paired.bu DE λb p e=>⟨e.1,by rw[aN e.1];exact g5 _ _ e.2⟩)
    ·rw[uH,Yz,hy,Yp,Jd];rfl
   ·rintro g_ σ H4 ⟨_,g4,h4,e4,⟨XT,rfl⟩,wX,wg,DD,DE,uH⟩;rw[Ya,Y7] at uH;refine⟨⟨[O (.int x),XT],rfl,rfl⟩,kl',g4,h4,wX,wg,DD,DE,?_,?_,λp W=>?_⟩
    ·rw[uH,Zd9 (β:=Int) hx];refine pp.append ?_;have:=M8.map λy:Int=>((x,y):Int×Int);rw[Y6] at this;exact this
    ·rw[uH];refine Jn.mpr ⟨pw,ZgN x Zko,λp W q' mq=>.inl ?_⟩;obtain⟨y,_,rfl⟩:=Yf.mp mq;exact ZgO sns hx (pin p W)
    ·rw[uH] at W;rw[Yz,hx];rcases Ym.mp W with W|W;·exact Yk _ (pin p W)
     ·obtain⟨y,_,rfl⟩:=Yf.mp W;exact Yl _ Yg
  ·rintro ys J ⟨_,G,h2,as,bX,ey,pa,pp,pw,_⟩;rw[Ya,Y7] at pp;rw[ey] at h2;refine q D as bX J (N.free hD) (N.trans G) h2 (L2.Paired.bu pa λ_ _ e=>e.2) (pp.trans ?_) pw;unfold jJ;rw[bt eh];exact pm.flatMap_right _
  ·rintro σ H R R' m ⟨x1,e1,x2,x3,x4,e2,e3,e4,x5,e5,l,st,n,i,h,t,gX,e6,j1,j2,j3,j4,j5,j6,k⟩;refine⟨x1,e1,x2,x3,x4,e2,e3,e4,x5,e5,l,st,n,i,h,t,gX,e6,j1,j2,j3,j4,j5,j6,λp T H' a b c d e=>?_⟩;obtain⟨a,e,s,r⟩:=k p T H' a b c d e;exact⟨a,e,s,m _ _ r⟩
def ap(t:Z Int)(z:Int):Int:=t.getD z.toNat 0
def Ki(a:0<=z)(h:z<t.length):t[z.toNat]?=O (ap t z):=by
 unfold ap
 grind
def nB(a:full t=ar)(b:t.length=n){z:Int}(h:0<=z/\z<n):0<=ap t z/\ap t z<n:=by
 have:=rh a (Yj (Ki h.1 QO));omega
def yo(a:full t=ar)(c:t.length=n){z:Int}(h:0<=z/\z<n):ap (inv t) (ap t z)=z:=by
 have b:=nB a c h;have d:=Bk (xs:=t) (i:=(ap t z).toNat) QO;rw[(Jw b.1),AQ (AD a) (Ki h.1 QO)] at d;have e:ap (inv t) (ap t z)=((z.toNat:Nat):Int):=by
  show(inv t).getD (ap t z).toNat 0=_
  grind
 grind
def RL(a:full t=ar)(b:t.length=n){z:Int}(h:0<=z/\z<n):ap t (ap (inv t) z)=z:=by
 have:=yo (kH a) (by rwa[fZ]) h;rw[inv_inv a] at this;exact this
def BJ(c:full t=ar)(b:t.length=n){z z':Int}(h:0<=z/\z<n)(d:0<=z'/\z'<n)(e:ap t z=ap t z'):z=z':=by
 have a:=yo c b h;rw[e,yo c b d] at a;exact a.symm
def BK(h:0<=z/\z<a.length):ap (bT xs a) z=ap xs (ap a z):=by
 show(bT xs a).getD z.toNat 0=_;unfold bT;rw[Yr,Yi,(Ki h.1 h.2)];rfl
def JS.ai(a:JS)(i:Nat):Nat:=a.hd.getD i 0
def JS.bY(a:JS)(i:Nat):Z Int:=a.ld.getD i []
def JS.cI(a:JS)(h:Nat):Z Int:=(a.fr.lookup h).getD []
def dB(a:JS)(f:Nat->Int):Prop:=∃s:Nat->Int,∀i,i<a.hd.length->s (a.ai i)∈a.cI (a.ai i)/\f i=ap (a.bY i) (s (a.ai i))
structure WF(n:Nat)(st:JS):Prop where
 ll:st.ld.length=st.hd.length
 fl:∀t∈st.ld,full t=ar/\t.length=n
 fr:∀i,i<st.hd.length->∃gX,st.fr.lookup (st.ai i)=O gX/\gX.Nodup/\∀z∈gX,0<=z/\z<(n:Int)
 mem:∀i,i<st.hd.length->∃ms,st.mem.lookup (st.ai i)=O ms/\ms.Nodup/\∀k,k∈ms↔k<st.hd.length/\st.ai k=st.ai i
 nm:(st.mem.map (·.1)).Nodup
 lm:∀k∈st.mem.map (·.1),k<st.hd.length
 nf:(st.fr.map (·.1)).Nodup
 lf:∀k∈st.fr.map (·.1),k<st.hd.length
 hf:∀k∈st.fr.map (·.1),∃i,i<st.hd.length/\st.ai i=k
def xP{a:Z Nat}(b:a.Nodup)(h:∀x∈a,x<m):a.length<=m:=by
 have l:=b.length_le_of_subset λx c=>Wn.mpr (h x c)
 grind
def FX{c:Z Int}{n:Nat}(d:c.Nodup)(h:∀x∈c,0<=x/\x<(n:Int)):c.length<=n:=by
 have l:=d.length_le_of_subset (l₂:=bJ n) λx e=>by
  obtain⟨a,b⟩:=h x e;have:=Yj (mZ (n:=n) (i:=x.toNat) QO)
  grind
 rwa [fG] at l
theorem G_{b:Type}:∀{a:Z (Nat×b)} {k:Nat} {v:b},a.lookup k=O v->k∈a.map (·.1)
 |[],_,_,h=>by simp at h
 |p::a,k,v,h=>by
  rw[W7] at h;by_cases e:k=p.1;·grind
  ·rw[beq_eq_false_iff_ne.mpr e] at h;exact Yw _ (G_ h)
theorem Av{a:Type}(h:Nat)(v:a)(k:Nat):∀ps:Z (Nat×a),(eW h v ps).lookup k=if k=h then(ps.lookup h).map λ_=>v else ps.lookup k
 |[]=>by show([]:Z (Nat×a)).lookup k=_;simp
 |p::ps=>by
  have b:=Av h v k ps;have c:eW h v (p::ps)=(if p.1=h then(p.1,v) else p)::eW h v ps:=rfl
  grind
section
variable {n:Nat}{st:JS}
def yp(h:i<st.hd.length):st.hd[i]?=O (st.ai i):=by
 unfold JS.ai;rw[Yr,Yc h];rfl
def WF.BM(a:WF n st)(h:i<st.hd.length):st.ld[i]?=O (st.bY i):=by
 unfold JS.bY;rw[Yr,Yc (by rwa[a.ll])];rfl
def WF.lJ(a:WF n st)(h:i<st.hd.length):full (st.bY i)=ar/\(st.bY i).length=n:=a.fl _ (Yj (a.BM h))
def WF.d5(c:WF n st)(h:i<st.hd.length):st.fr.lookup (st.ai i)=O (st.cI (st.ai i))/\(st.cI (st.ai i)).Nodup/\∀z∈st.cI (st.ai i),0<=z/\z<(n:Int):=by
 obtain⟨gX,e,a,b⟩:=c.fr i h;have d:st.cI (st.ai i)=gX:=by unfold JS.cI;rw[e];rfl
 grind
def WF.dist(c:WF n st)(h:i<st.hd.length):((st.cI (st.ai i)).map λz=>(st.bY i).getD z.toNat 0).Nodup:=by
 obtain⟨e,a,b⟩:=c.d5 h;rw[Jh,Jc];refine(List.Pairwise.and_mem.mp (Jh.mp a)).imp ?_;rintro u v ⟨d,mv,ne⟩ z;exact ne (BJ (c.lJ h).1 (c.lJ h).2 (b u d) (b v mv) z)
def WF.one(c:WF n st)(g:n<=8){i:Nat}(h:i<st.hd.length):ue st i (st.ai i) (st.bY i) (st.cI (st.ai i)):=by
 obtain⟨e,a,b⟩:=c.d5 h;have:=FX a b;refine⟨yp h,c.BM h,e,λz d=>by rw[(c.lJ h).2];exact b z d,QO,c.dist h⟩
def WF.two(a:WF n st)(g:i<st.hd.length)(e:j<st.hd.length)(s:st.hd.length<=400)(p:st.ai i≠st.ai j):∃d c,Vw st n i j (st.ai i) (st.ai j) (st.bY i) (st.bY j) (st.cI (st.ai i)) (st.cI (st.ai j)) d c/\(d.Nodup/\∀k,k∈d↔k<st.hd.length/\st.ai k=st.ai i)/\(c.Nodup/\∀k,k∈c↔k<st.hd.length/\st.ai k=st.ai j):=by
 obtain⟨d,r,o,l⟩:=a.mem i g;obtain⟨c,q,m,h⟩:=a.mem j e;have u:=xP o λk b=>((l k).mp b).1;have t:=xP m λk b=>((h k).mp b).1;exact⟨d,c,⟨yp g,yp e,a.BM g,a.BM e,a.fl,a.ll,r,q,(a.d5 g).1,(a.d5 e).1,p,λk b=>((l k).mp b).1,λk b=>((h k).mp b).1,QO,a.nm⟩,⟨o,l⟩,m,h⟩
def WF.BX(a:WF n st):st.fr.length<=st.hd.length:=by
 have:=xP a.nf a.lf
 grind
def WF.Tp(a:WF n st):st.mem.length<=st.hd.length:=by
 have:=xP a.nm a.lm
 grind
def wf0:WF n ⟨[],[],[],[]⟩:=⟨rfl,λ_ h=>(nomatch h),λ_ h=>absurd h (Wr _),λ_ h=>absurd h (Wr _),.nil,λ_ h=>(nomatch h),.nil,λ_ h=>(nomatch h),λ_ h=>(nomatch h)⟩
theorem Ib(st:JS)(h k:Nat)(v:Z Int)(a:st.fr.lookup h≠aF):(st.mC h v).cI k=if k=h then v else st.cI k:=by
 show((eW h v st.fr).lookup k).getD []=_;rw[Av];by_cases e:k=h
 ·rw[bS e,bS e];cases b:st.fr.lookup h with
  |none=>grind
  |some x=>rfl
 ·rw[bt e,bt e];rfl
def WF.mC(c:WF n st)(h:i<st.hd.length):WF n (st.mC (st.ai i) ((st.cI (st.ai i)).filter p)):=by
 refine⟨c.ll,c.fl,λk g=>?_,c.mem,c.nm,c.lm,?_,?_,?_⟩
 ·obtain⟨e,a,b⟩:=c.d5 g;show ∃d,(eW _ _ st.fr).lookup (st.ai k)=O d/\_;rw[Av]
  grind
 ·show((eW _ _ st.fr).map (·.1)).Nodup;rw[sY];exact c.nf
 ·show ∀k∈(eW _ _ st.fr).map (·.1),_;rw[sY];exact c.lf
 ·show ∀k∈(eW _ _ st.fr).map (·.1),_;rw[sY];exact c.hf
def xS(j:WF n st)(g:i<st.hd.length)(ss:Z Int)(f:Nat->Int):dB (st.mC (st.ai i) ((st.cI (st.ai i)).filter λz=>decide ((st.bY i).getD z.toNat 0∈ss))) f↔dB st f/\f i∈ss:=by
 have e:st.fr.lookup (st.ai i)≠aF:=by rw[(j.d5 g).1];exact λz=>nomatch z
 constructor
 ·rintro⟨s,h⟩;have c:∀k,k<st.hd.length->s (st.ai k)∈st.cI (st.ai k)/\f k=ap (st.bY k) (s (st.ai k)):=λk c=>by
   obtain⟨a,b⟩:=h k c;refine⟨?_,b⟩;have d:s (st.ai k)∈(st.mC (st.ai i) ((st.cI (st.ai i)).filter λz=>decide ((st.bY i).getD z.toNat 0∈ss))).cI (st.ai k):=a;rw[Ib st _ _ _ e] at d
   grind
  refine⟨⟨s,c⟩,?_⟩;obtain⟨a,b⟩:=h i g;have d:s (st.ai i)∈(st.mC (st.ai i) ((st.cI (st.ai i)).filter λz=>decide ((st.bY i).getD z.toNat 0∈ss))).cI (st.ai i):=a;rw[Ib st _ _ _ e,bS rfl] at d;rw[b];exact eH (Y5.mp d).2
 ·rintro⟨⟨s,h⟩,m⟩;refine⟨s,λk c=>?_⟩;obtain⟨a,b⟩:=h k c;refine⟨?_,b⟩;show s (st.ai k)∈(st.mC (st.ai i) ((st.cI (st.ai i)).filter λz=>decide ((st.bY i).getD z.toNat 0∈ss))).cI (st.ai k);rw[Ib st _ _ _ e];by_cases z:st.ai k=st.ai i
  ·rw[bS z];rw[z] at a⊢;refine Y5.mpr ⟨a,du ?_⟩;rw[((h i g).2)] at m;exact m
  ·grind
def Ic(l:WF n st){f:Nat->Int}(d:dB st f)(g c:Nat)(b a:Int)(p:b∈st.cI g)(o:a∈st.cI c)(m:g=c->b=a):∃i,dB st i/\∀k,k<st.hd.length->(st.ai k=g->i k=ap (st.bY k) b)/\(st.ai k=c->i k=ap (st.bY k) a):=by
 obtain⟨s,h⟩:=d;refine⟨λk=>ap (st.bY k) ((λq=>if q=g then b else if q=c then a else s q) (st.ai k)),⟨λq=>if q=g then b else if q=c then a else s q,λk j=>⟨?_,rfl⟩⟩,λk j=>⟨λe=>?_,λe=>?_⟩⟩;·grind
 ·grind
 ·grind
def yg(m:WF n st)(k:i<st.hd.length)(g:j<st.hd.length){f:Nat->Int}(d:dB st f):(f i,f j)∈jJ (st.ai i) (st.ai j) (st.bY i) (st.bY j) (st.cI (st.ai i)) (st.cI (st.ai j)):=by
 obtain⟨s,h⟩:=d;obtain⟨c,b⟩:=h i k;obtain⟨l,a⟩:=h j g;unfold jJ;by_cases e:st.ai i=st.ai j
 ·rw[bS e];refine Yf.mpr ⟨s (st.ai i),c,?_⟩;rw[b,a,←e];rfl
 ·rw[bt e];refine DF.mpr ⟨f i,Yf.mpr ⟨_,c,b.symm⟩,Yf.mpr ⟨_,l,?_⟩⟩;rw[a];rfl
def Qo(c:WF n st)(k:i<st.hd.length)(h:j<st.hd.length)(a:∃f,dB st f)(m:(x,y)∈jJ (st.ai i) (st.ai j) (st.bY i) (st.bY j) (st.cI (st.ai i)) (st.cI (st.ai j))):∃f,dB st f/\f i=x/\f j=y:=by
 obtain⟨E,o⟩:=a;unfold jJ at m;by_cases e:st.ai i=st.ai j
 ·rw[bS e] at m;obtain⟨z,g,l⟩:=Yf.mp m;obtain⟨f,d,q⟩:=Ic c o (st.ai i) (st.ai i) z z g g (λ_=>rfl);exact⟨f,d,((q i k).1 rfl).trans (d6 (·.1) l),((q j h).1 e.symm).trans (d6 (·.2) l)⟩
 ·rw[bt e] at m;obtain⟨D,t,s⟩:=DF.mp m;obtain⟨r,A,v⟩:=Yf.mp t;obtain⟨p,u,b⟩:=Yf.mp s;obtain⟨f,d,q⟩:=Ic c o (st.ai i) (st.ai j) r p A u (λz=>absurd z e);exact⟨f,d,(((q i k).1 rfl).trans v).trans (d6 (·.1) b),((q j h).2 rfl).trans (d6 (·.2) b)⟩
end
theorem Pn(a:Nat):∀(mv:Z Nat) (hd:Z Nat) (i:Nat),i<hd.length->(kL a mv hd)[i]?=if i∈mv then O a else hd[i]?
 |[],hd,i,h=>rfl
 |k::mv,hd,i,h=>by
  have b:=Pn a mv (hd.set k a) i (by rw[Jf];exact h);have c:kL a (k::mv) hd=kL a mv (hd.set k a):=rfl
  grind
theorem Po(a:Z Int):∀(mv:Z Nat) (ld:Z (Z Int)) (i:Nat),mv.Nodup->i<ld.length->(iz a mv ld)[i]?=if i∈mv then O (bT (ld.getD i []) a) else ld[i]?
 |[],ld,i,_,h=>rfl
 |k::mv,ld,i,b,h=>by
  obtain⟨e,c⟩:=Y2.mp b;have d:iz a (k::mv) ld=iz a mv (qH a ld k):=rfl;rw[d,(Po a mv (qH a ld k) i c (by unfold qH;rwa[Jf]))];by_cases m:i∈mv
  ·unfold qH
   grind
  ·rw[bt m];unfold qH
   grind
def Pp(c:Nat)(b a:Z Nat):(kL c b a).length=a.length:=xN (λ_ _=>Jf) b a
def Pq(c:Z Int)(b:Z Nat)(a:Z (Z Int)):(iz c b a).length=a.length:=xN (λ_ _=>by unfold qH;exact Jf) b a
section
variable {st:JS}
def rC(j:WF n st)(d:∀k,k∈c↔k<st.hd.length/\st.ai k=st.ai a)(h:Z Int)(g:i<st.hd.length):(st.mv (st.ai b) (st.ai a) mb c h).ai i=if st.ai i=st.ai a then st.ai b else st.ai i:=by
 show(kL (st.ai b) c st.hd).getD i 0=_;rw[Yr,Pn _ _ _ _ g];by_cases e:st.ai i=st.ai a;·grind
 ·rw[bt (λz=>e ((d i).mp z).2),bt e,←Yr];rfl
def Kj(g:WF n st)(h:b.Nodup)(d:∀k,k∈b↔k<st.hd.length/\st.ai k=st.ai a)(c:Z Int)(l:Nat)(j:i<st.hd.length):(st.mv l (st.ai a) mb b c).bY i=if st.ai i=st.ai a then bT (st.bY i) c else st.bY i:=by
 show(iz c b st.ld).getD i []=_;rw[Yr,Po _ _ _ _ h (by rwa[g.ll])];by_cases e:st.ai i=st.ai a;·rw[bS ((d i).mpr ⟨j,e⟩),bS e];rfl
 ·rw[bt (λz=>e ((d i).mp z).2),bt e,←Yr];rfl
def Tq(c a:Nat)(d:Z Int)(b:h≠a):(st.mv c a e g d).cI h=st.cI h:=by
 show((dm a st.fr).lookup h).getD []=_;rw[vA b];rfl
def yG(a b:Nat)(c:Z Int):(st.mv a b d e c).hd.length=st.hd.length:=Pp _ _ _
def WF.mv(c:WF n st)(W:a<st.hd.length)(G:b<st.hd.length)(E:st.ai a≠st.ai b)(D:j.Nodup)(o:∀k,k∈j↔k<st.hd.length/\st.ai k=st.ai a)(Q:d.Nodup)(R:∀k,k∈d↔k<st.hd.length/\st.ai k=st.ai b)(L:st.mem.lookup (st.ai b)=O d)(H:full h=ar)(A:h.length=n):WF n (st.mv (st.ai b) (st.ai a) d j h):=by
 have len:(st.mv (st.ai b) (st.ai a) d j h).hd.length=st.hd.length:=yG _ _ _;have y:∀k,k<st.hd.length->(if st.ai k=st.ai a then st.ai b else st.ai k)≠st.ai a:=λk l=>by
  grind
 have u:(st.mv (st.ai b) (st.ai a) d j h).mem.map (·.1)=(st.mem.map (·.1)).filter λk=>decide (k≠st.ai a):=by
  show(eW _ _ (dm _ st.mem)).map (·.1)=_;rw[sY,pS]
 have p:(st.mv (st.ai b) (st.ai a) d j h).fr.map (·.1)=(st.fr.map (·.1)).filter λk=>decide (k≠st.ai a):=pS _ _;refine⟨?_,λt F=>?_,λi g=>?_,λi g=>?_,?_,?_,?_,?_,?_⟩
 ·show(iz _ _ _).length=(kL _ _ _).length;rw[Pq,Pp];exact c.ll
 ·obtain⟨i,g,rfl⟩:=W0.mp F;have v:i<st.hd.length:=by
   have:(iz h j st.ld).length=st.ld.length:=Pq _ _ _;have X:i<(iz h j st.ld).length:=g;have:=c.ll;omega
  have e:=Kj (mb:=d) c D o h (st.ai b) v;have N:(st.mv (st.ai b) (st.ai a) d j h).bY i=(st.mv (st.ai b) (st.ai a) d j h).ld[i]:=by
   unfold JS.bY;rw[Yr,Yc g];rfl
  rw[←N,e];obtain⟨x,J⟩:=c.lJ v;by_cases z:st.ai i=st.ai a;·rw[bS z];exact⟨qX x H QO,by rw[jF];exact A⟩
  ·rw[bt z];exact⟨x,J⟩
 ·rw[len] at g;rw[rC (mb:=d) c o h g];show ∃m,(dm (st.ai a) st.fr).lookup _=O m/\_;rw[vA (y i g)];by_cases e:st.ai i=st.ai a;·rw[bS e];exact⟨_,c.d5 G⟩
  ·rw[bt e];exact⟨_,c.d5 g⟩
 ·rw[len] at g;rw[rC (mb:=d) c o h g];show ∃q,(eW (st.ai b) (d++j) (dm (st.ai a) st.mem)).lookup _=O q/\_;rw[Av,vA (y i g),vA (λz=>E z.symm),L];have iff:∀k,k<st.hd.length->((st.mv (st.ai b) (st.ai a) d j h).ai k=(if st.ai k=st.ai a then st.ai b else st.ai k)):=λk l=>rC (mb:=d) c o h l;by_cases e:(if st.ai i=st.ai a then st.ai b else st.ai i)=st.ai b
  ·rw[bS e];refine⟨_,rfl,?_,λk=>?_⟩;·grind
   ·grind
  ·have P:¬st.ai i=st.ai a:=λz=>e (bS z);rw[bt P] at e⊢;rw[bt e];obtain⟨q,s,r,T⟩:=c.mem i g
   grind
 ·rw[u];exact c.nm.filter _
 ·rw[u,len];exact λk l=>c.lm k (Y5.mp l).1
 ·rw[p];exact c.nf.filter _
 ·rw[p,len];exact λk l=>c.lf k (Y5.mp l).1
 ·rw[p,len];intro k l;obtain⟨s,r⟩:=Y5.mp l;obtain⟨i,g,e⟩:=c.hf k s;refine⟨i,g,?_⟩;rw[rC (mb:=d) c o h g,bt (λz=>eH r (e.symm.trans z))];exact e
def RM(g:WF n st)(t:a<st.hd.length)(j:b<st.hd.length)(m:st.ai a≠st.ai b)(J:L.Nodup)(p:∀k,k∈L↔k<st.hd.length/\st.ai k=st.ai a)(N:full l=ar)(H:l.length=n)(f:Nat->Int):
  dB (st.mv (st.ai b) (st.ai a) mb L (bT (inv (st.bY a)) (bT l (st.bY b)))) f↔∃s:Nat->Int,(∀i,i<st.hd.length->(0<=s (st.ai i)/\s (st.ai i)<(n:Int))/\(st.ai i≠st.ai a->s (st.ai i)∈st.cI (st.ai i))/\f i=ap (st.bY i) (s (st.ai i)))/\f a=ap l (f b):=by
 obtain⟨D,y⟩:=g.lJ t;obtain⟨P,o⟩:=g.lJ j;have fi:=kH D;have X:(inv (st.bY a)).length=n:=by rw[fZ];exact y
 generalize Q:bT (inv (st.bY a)) (bT l (st.bY b))=d;have G:∀z:Int,0<=z/\z<(n:Int)->ap d z=ap (inv (st.bY a)) (ap l (ap (st.bY b) z)):=λz r=>by
  rw[←Q,BK (by rw[jF,o];exact r),BK (by rwa[o])]
 have F:∀z:Int,0<=z/\z<(n:Int)->0<=ap d z/\ap d z<(n:Int):=λz r=>by
  rw[G z r];exact nB fi X (nB N H (nB P o r))
 have R:d.length=n:=by rwa[←Q,jF,jF]
 constructor
 ·rintro⟨s,h⟩;have u:=λi c=>by
   have x:=h i (by rwa[yG]);rw[rC g p d c,Kj g J p d _ c,Tq] at x;·exact x
   ·by_cases e:st.ai i=st.ai a;·rw[bS e];exact λz=>m z.symm
    ·rwa[bt e]
  have A:=u b j;rw[bt (λz=>m z.symm),bt (λz=>m z.symm)] at A;have v:=(g.d5 j).2.2 _ A.1;have eq:∀i,i<st.hd.length->f i=ap (st.bY i) (if st.ai i=st.ai a then ap d (s (st.ai b)) else s (st.ai i)):=λi c=>by
   have x:=(u i c).2;by_cases e:st.ai i=st.ai a
   ·rw[bS e,bS e,BK (by rw[R];exact v)] at x;rw[bS e];exact x
   ·rw[bt e,bt e] at x;rw[bt e];exact x
  refine⟨λq=>if q=st.ai a then ap d (s (st.ai b)) else s q,λi c=>⟨?_,λe=>?_,eq i c⟩,?_⟩
  ·show 0<=(if st.ai i=st.ai a then _ else _)/\(if st.ai i=st.ai a then _ else _)<_;by_cases e:st.ai i=st.ai a;·rw[bS e];exact F _ v
   ·rw[bt e];have x:=(u i c).1;rw[bt e] at x;exact(g.d5 c).2.2 _ x
  ·show(if st.ai i=st.ai a then _ else _)∈_;have x:=(u i c).1;rw[bt e] at x;rwa[bt e]
  ·rw[eq a t,bS rfl,G _ v,RL D y (nB N H (nB P o v)),A.2]
 ·rintro⟨s,h,ef⟩;have T:=(h b j).1;have W:=(h a t).1;have E:ap d (s (st.ai b))=s (st.ai a):=by
   rw[G _ T,←(h b j).2.2,←ef,(h a t).2.2,yo D y W]
  refine⟨s,λi c=>?_⟩;rw[yG] at c;rw[rC g p d c,Kj g J p d _ c,Tq]
  ·by_cases e:st.ai i=st.ai a
   ·rw[bS e,bS e];refine⟨(h b j).2.1 (λz=>m z.symm),?_⟩;rw[BK (by rwa[R]),E,←e];exact(h i c).2.2
   ·rw[bt e,bt e];exact⟨(h i c).2.1 e,(h i c).2.2⟩
  ·by_cases e:st.ai i=st.ai a;·rw[bS e];exact λz=>m z.symm
   ·rwa[bt e]
end
section
variable {st:JS}{i j:Nat}{ns:Z Int}
def Qp{P:Z (Int×Int)}(b:ns.Perm ((P.filter λq=>decide (a.getD q.1.toNat 0=q.2)).map (·.1)))(x:Int):x∈ns↔(x,ap a x)∈P:=by
 rw[b.mem_iff,Yf];constructor
 ·rintro⟨⟨u,v⟩,m,rfl⟩;obtain⟨d,c⟩:=Y5.mp m;have e:ap a u=v:=eH c;rw[e];exact d
 ·intro m;exact⟨_,Y5.mpr ⟨m,du rfl⟩,rfl⟩
abbrev JS.bX(st:JS)(i j:Nat):Z (Int×Int):=jJ (st.ai i) (st.ai j) (st.bY i) (st.bY j) (st.cI (st.ai i)) (st.cI (st.ai j))
def Ie(d:st.ai i≠st.ai j)(m:(x,y)∈st.bX i j):(∃z∈st.cI (st.ai i),ap (st.bY i) z=x)/\∃z∈st.cI (st.ai j),ap (st.bY j) z=y:=by
 unfold JS.bX jJ at m;rw[bt d] at m;obtain⟨n,g,e⟩:=DF.mp m;obtain⟨c,l,k⟩:=Yf.mp g;obtain⟨b,h,a⟩:=Yf.mp e;exact⟨⟨c,l,k.trans (d6 (·.1) a)⟩,b,h,(d6 (·.2) a)⟩
def Tr(a:WF n st)(c:i<st.hd.length)(m:(x,y)∈st.bX i j):0<=x/\x<(n:Int):=by
 obtain⟨h,g⟩:=a.lJ c;by_cases e:st.ai i=st.ai j
 ·unfold JS.bX jJ at m;rw[bS e] at m;obtain⟨z,b,d⟩:=Yf.mp m;have k:ap (st.bY i) z=x:=d6 (·.1) d;rw[←k];exact nB h g ((a.d5 c).2.2 z b)
 ·obtain⟨⟨z,b,d⟩,_⟩:=Ie e m;exact d▸nB h g ((a.d5 c).2.2 z b)
def RN(c:WF n st)(h:n<=8)(g:i<st.hd.length)(d:j<st.hd.length):(st.bX i j).length<=64:=by
 have a:=FX (c.d5 g).2.1 (c.d5 g).2.2;have b:=FX (c.d5 d).2.1 (c.d5 d).2.2;unfold JS.bX jJ;by_cases e:st.ai i=st.ai j;·grind
 ·rw[bt e,IA (λ(x z:Int)=>((x,(st.bY j).getD z.toNat 0):Int×Int)),Ya];exact Yy (vr (show _<=8 by omega) (show _<=8 by omega)) (by decide)
def Zfo(b:WF n st)(a:i<st.hd.length)(k:j<st.hd.length)(e:st.ai i=st.ai j)(q:∀x,x∈ns↔(x,ap g x)∈st.bX i j)(f:Nat->Int):dB st f/\f i∈ns↔dB st f/\f j=ap g (f i):=by
 refine sC λd=>?_;constructor
 ·intro m;have c:=(q _).mp m;obtain⟨s,h⟩:=d;unfold JS.bX jJ at c;rw[bS e] at c;obtain⟨z,p,o⟩:=Yf.mp c;have u:ap (st.bY j) z=ap g (f i):=d6 (·.2) o;obtain⟨t,r⟩:=b.lJ a;have l:=(b.d5 a).2.2;rw[(h j k).2,←e,←(BJ t r (l z p) (l _ (h i a).1) ((d6 (·.1) o).trans (h i a).2)),u]
 ·intro m;have:=yg b a k d
  grind
def ZgP(b:WF n st)(a:i<st.hd.length)(g:j<st.hd.length)(q:st.ai i≠st.ai j)(D:t.Nodup)(G:∀k,k∈t↔k<st.hd.length/\st.ai k=st.ai i)(o:full l=ar)(p:l.length=n)(r:∀x,x∈ns↔(x,ap l x)∈st.bX i j)(f:Nat->Int):
  dB (st.mv (st.ai j) (st.ai i) N t (bT (inv (st.bY i)) (bT (inv l) (st.bY j)))) f/\f i∈ns↔dB st f/\f j=ap l (f i):=by
 rw[RM b a g q D G (kH o) (by rwa[fZ])];obtain⟨v,u⟩:=b.lJ a;obtain⟨H,F⟩:=b.lJ g;constructor
 ·rintro⟨⟨s,h,L⟩,m⟩;obtain⟨⟨z,E,J⟩,_⟩:=Ie q ((r _).mp m);have P:=BJ v u ((b.d5 a).2.2 z E) (h i a).1 (J.trans (h i a).2.2);refine⟨⟨s,λk c=>⟨?_,(h k c).2.2⟩⟩,?_⟩;·grind
  ·have y:0<=f j/\f j<(n:Int):=by rw[(h j g).2.2];exact nB H F (h j g).1
   rw[L,RL o p y]
 ·rintro⟨d,e⟩;have m:=yg b a g d;rw[e] at m;obtain⟨s,h⟩:=d;refine⟨⟨s,λk c=>⟨(b.d5 c).2.2 _ (h k c).1,λ_=>(h k c).1,(h k c).2⟩,?_⟩,(r _).mpr m⟩;have A:0<=f i/\f i<(n:Int):=by rw[(h i a).2];exact nB v u ((b.d5 a).2.2 _ (h i a).1)
  rw[e,yo o p A]
def ZgQ(c:WF n st)(q:i<st.hd.length)(b:j<st.hd.length)(l:st.ai i≠st.ai j)(t:p.Nodup)(u:∀k,k∈p↔k<st.hd.length/\st.ai k=st.ai j)(D:full g=ar)(v:g.length=n)(o:∀x,x∈ns↔(x,ap g x)∈st.bX i j)(f:Nat->Int):
  dB (st.mv (st.ai i) (st.ai j) G p (bT (inv (st.bY j)) (bT g (st.bY i)))) f/\f i∈ns↔dB st f/\f j=ap g (f i):=by
 rw[RM c b q (λz=>l z.symm) t u D v];obtain⟨E,A⟩:=c.lJ b;constructor
 ·rintro⟨⟨s,h,r⟩,m⟩;obtain⟨_,z,y,F⟩:=Ie l ((o _).mp m);have H:=BJ E A ((c.d5 b).2.2 z y) (h j b).1 ((F.trans r.symm).trans (h j b).2.2);refine⟨⟨s,λk a=>⟨?_,(h k a).2.2⟩⟩,r⟩
  grind
 ·rintro⟨d,e⟩;have m:=yg c q b d;rw[e] at m;obtain⟨s,h⟩:=d;exact⟨⟨s,λk a=>⟨(c.d5 a).2.2 _ (h k a).1,λ_=>(h k a).1,(h k a).2⟩,e⟩,(o _).mpr m⟩
end
def tO(b d:JS)(i j:Nat):Prop:=∀a c,a<b.hd.length->c<b.hd.length->(d.ai a=d.ai c↔b.ai a=b.ai c\/(b.ai a=b.ai i/\b.ai c=b.ai j)\/(b.ai a=b.ai j/\b.ai c=b.ai i))
def Zfp(e:st.ai i=st.ai j):tO st st i j:=λa c _ _=>⟨.inl,λh=>h.elim id λh=>h.elim (λh=>h.1.trans (e.trans h.2.symm)) λh=>h.1.trans (e.symm.trans h.2.symm)⟩
def Ts(d:WF n st)(e:∀k,k∈g↔k<st.hd.length/\st.ai k=st.ai a)(c:Z Int)(j:st.ai a≠st.ai b):tO st (st.mv (st.ai b) (st.ai a) l g c) a b:=λx y i h=>by
 rw[rC d e c i,rC d e c h]
 grind
def tO.symm(h:tO st e j i):tO st e i j:=λa c d b=>(h a c d b).trans (or_congr Iff.rfl or_comm)
structure Tt(n:Nat)(st aO:JS)(b:cm)(i j:Nat)(tn:Z Int):Prop where
 wf:WF n aO
 len:aO.hd.length=st.hd.length
 yes:b=ar->(∃f,dB aO f)/\∀f,dB aO f↔dB st f/\f j=ap tn (f i)
 no:b=a_->aO=st/\∀f,dB st f->f j≠ap tn (f i)
 hds:b=ar->tO st aO i j
inductive UK(C:U)(k:Z V)(H:Hp)(Q:VK)(E:XK):Prop
 |mk (l:JL) (st:JS) (n i j:Nat) (a:Z Int) (g:U) (v:k=[.ref l.J,.int (i:Int),.int (j:Int),.ref g]) (u:cT H C n l st) (s:WF n st) (t:(∃f,dB st f)) (r:n<=8) (q:st.hd.length<=400) (p:i<st.hd.length) (o:j<st.hd.length) (m:H g=O (.tup (a.map V.int))) (z:full a=ar) (y:a.length=n) (x:∀(b:cm) (d:JL) (h:JS) (e:Hp),d.J=l.J->(∀c∈d.fp,c∈l.fp)->Out l.fp H e->cT e C n d h->Tt n st h b i j a->Q (.bl b) e)
def N7:aP ["self","one","other","turn","sections"] mG (aJ Gq):=.aY
theorem ZiC(F:aM K "tie" "Joins.tie" Gq f fd)(jc:oE K C)(u_:cO P w K B I 4 "left" C mG (Kh C))(u4:cO P w K B I 1 "together" C rN (G8 C))(Eo:cO P w K B I 3 "bring_together" C mG (RJ C))(u5:cO P w K B I 2 "narrow" C Ck (Iz K C))(bl:Bl B):aE P w K B I aL 5 f fd mG (UK C):=by
 refine F.o N7 λs H hr h=>?_;obtain⟨l,st,n,i,j,tn,X,rfl,D,g,N,J,m4,k,t,hu,T,tl,q⟩:=h;refine⟨_,(aj (bR 4 N7.nd (dh u_ hr (by decide) (pv 0) (aa (pv 1) (aa (pv 2) (aa (pv 3) ae))))) (aj (aU (jY (yb (K:=K) rfl (ye (pv 4) (λ_=>rfl)))) (av (aI gJ)) a8) (aj (aU (jY (eP (dh u4 hr (by decide) (pv 0) (aa (pv 1) (aa (pv 2) ae))))) (av (bZ (dh Eo hr (by decide) (pv 0) (aa (pv 1) (aa (pv 2) (aa (pv 3) ae)))))) a8) (aj (bZ (dh u5 hr (by decide) (pv 0) (aa (pv 1) (aa (pv 4) ae)))) (av (aI gJ)))))),?_⟩;refine YP ?_;intros;obtain⟨dx,ho⟩:=D.obj;have pf:=RN g J k t;refine bW ?_;refine⟨_,rfl,l.J,dx,_,rfl,ho,rfl,_,rfl,_,rfl,_,rfl,l,st,n,i,j,_,_,_,_,_,_,tn,X,rfl,D,g.one J k,g.one J t,hu,λp R=>by rw[tl];exact Tr g k (x:=p.1) (y:=p.2) R,Yy pf (by decide),λp ns H1 np v R pm _=>?_⟩;have L:=Qp pm;refine jZ (λσ E=>σ=[O (.ref l.J),O (.int (i:Int)),O (.int (j:Int)),O (.ref X),O (.ref p)]/\E=H1/\ns≠[]) (λnx hn=>?_) ?_
 ·refine⟨_,rfl,_,.inl ⟨_,aq.of R,rfl⟩,?_⟩;refine bA (λc=>?_) (λc=>aW (hn _ _ ⟨rfl,rfl,λz=>?_⟩))
  ·have e:ns=[]:=by
    cases ns with
    |nil=>rfl
    |cons a r=>cases c
   refine q a_ l st H1 rfl (λ_ h=>h) (Out.of v) (D.same v) ⟨g,rfl,(λz=>nomatch z),λ_=>⟨rfl,λf d z=>?_⟩,(λz=>nomatch z)⟩;have m:=yg g k t d;rw[z] at m;have:=(L _).mpr m;rw[e] at this;cases this
  ·rw[z] at c;exact c rfl
 rintro _ _ ⟨rfl,rfl,nne⟩;refine jZ (λσ E=>σ=[O (.ref l.J),O (.int (i:Int)),O (.int (j:Int)),O (.ref X),O (.ref p)]/\∃(A:JL) (u:JS),A.J=l.J/\(∀c∈A.fp,c∈l.fp)/\Out l.fp H E/\cT E C n A u/\E p=O (.lst (ns.map V.int))/\WF n u/\u.hd.length=st.hd.length/\(∀f,dB u f/\f i∈ns↔dB st f/\f j=ap tn (f i))/\tO st u i j) (λnx hn=>?_) ?_
 ·refine⟨_,rfl,l.J,dx,_,rfl,v _ _ ho,rfl,_,rfl,_,rfl,l,st,n,i,j,_,_,rfl,D.same v,yp k,yp t,_,rfl,?_⟩;refine bA (λc=>?_) (λc=>aW (hn _ _ ⟨rfl,l,st,rfl,λ_ h=>h,Out.of v,D.same v,R,g,rfl,?_,?_⟩))
  ·have ne:st.ai i≠st.ai j:=λz=>by
    rw[du z] at c;cases c
   obtain⟨ma,mb,two,⟨oY,iU⟩,wY,W⟩:=g.two k t m4 ne;refine⟨_,rfl,l.J,dx,_,rfl,v _ _ ho,rfl,_,rfl,_,rfl,_,rfl,l,st,n,i,j,_,_,_,_,tn,_,_,X,ma,mb,rfl,D.same v,v _ _ hu,J,tl,T,two,λA u E Q k2 o2 j2 es=>hn _ _ ⟨rfl,A,u,Q,k2,(Out.of v).trans o2,j2,o2 _ _ R (D.ne np),?_⟩⟩;obtain⟨fi,li⟩:=g.lJ k;obtain⟨fj,lj⟩:=g.lJ t;rcases es with rfl|rfl;·exact⟨g.mv k t ne oY iU wY W two.mB (qX (kH fi) (qX (kH T) fj (by rw[fZ];omega)) (by rw[fZ,jF];omega)) (by rwa[jF,jF]),yG _ _ _,ZgP g k t ne oY iU T tl L,Ts g iU _ ne⟩
   ·exact⟨g.mv t k (λz=>ne z.symm) wY W oY iU two.mA (qX (kH fj) (qX T fi QO) (by rw[fZ,jF];omega)) (by rwa[jF,jF]),yG _ _ _,ZgQ g k t ne wY W T tl L,(Ts g W _ (λz=>ne z.symm)).symm⟩
  ·have e:st.ai i=st.ai j:=by
    by_cases z:st.ai i=st.ai j;·exact z
    ·rw[fb z] at c;exact absurd rfl c
   exact Zfo g k t e L
  ·have e:st.ai i=st.ai j:=by
    by_cases z:st.ai i=st.ai j;·exact z
    ·rw[fb z] at c;exact absurd rfl c
   exact Zfp e
 rintro _ E ⟨rfl,A,u,Q,k2,o2,j2,dM,G,VA,iff,hdj⟩;obtain⟨wZ,Dg⟩:=j2.obj;have DG:i<u.hd.length:=by rwa[VA]
 have fl:=G.BX;refine⟨_,rfl,A.J,wZ,_,by rw[Q],Dg,rfl,_,rfl,_,rfl,A,u,n,i,_,_,_,ns,p,by rw[Q];rfl,j2,G.one J DG,QO,aq.of dM,λl2 H3 k3 k4 o3 j3=>?_⟩;refine q ar l2 _ H3 (k3.trans Q) (λc hc=>k2 c (by rw[←k4];exact hc)) (λb o e nb=>o3 _ _ (o2 _ _ e nb) λz=>nb (k2 b z)) j3 ⟨G.mC DG,VA,λ_=>⟨?_,λf=>?_⟩,(λz=>nomatch z),λ_=>hdj⟩
 ·obtain⟨x,mx⟩:∃x,x∈ns:=by
   cases ns with
   |nil=>exact absurd rfl nne
   |cons a r=>exact⟨a,Yg⟩
  obtain⟨f,d,e1,e2⟩:=Qo g k t N ((L x).mp mx);refine⟨f,(xS G DG ns f).mpr ((iff f).mpr ⟨d,?_⟩)⟩;rw[e2,e1]
 ·exact(xS G DG ns f).trans (iff f)
def oI(a b:Z Int):Prop:=full a=ar/\full b=ar/\a.length=b.length/\2<=a.length/\a.length<=8
def Zc8(g:oI xs d)(h:(z,ns)∈BI xs d):full ns=ar/\ns.length=xs.length:=by
 obtain⟨b,a,e,_,_⟩:=g;have c:=Iw b a e;simp[Ys,Y1,gV,Prod.mk.injEq] at h;rcases h with⟨rfl,rfl⟩|⟨rfl,rfl⟩|⟨rfl,rfl⟩|⟨rfl,rfl⟩|⟨rfl,rfl⟩|⟨rfl,rfl⟩|⟨rfl,rfl⟩;·exact⟨b,rfl⟩
 ·exact⟨c,by rw[sV];exact e.symm⟩
 ·exact⟨a,e.symm⟩
 ·exact⟨kH b,fZ _⟩
 ·exact⟨kH c,by rw[fZ,sV];exact e.symm⟩
 ·exact⟨kH a,by rw[fZ];exact e.symm⟩
 ·exact⟨tD (qd _),fG _⟩
structure Fc where
 k:af
 one:Nat
 aG:Int
 tn:Z Int
abbrev bj:af:="said"
def gk(F:Z Fc)(x y:Nat)(t:Z Int):Prop:=∃c∈F,c.k≠bj/\((c.one=x/\c.aG.toNat=y/\t=c.tn)\/(c.aG.toNat=x/\c.one=y/\t=inv c.tn))
def mf(n:Nat)(F:Z Fc)(g:Nat->bw Int):Prop:=(∀x y t u,gk F x y t->g x=O u->g y=O (ap t u))/\(∀c∈F,c.k=bj->∀u,g c.one=O u->u=c.aG)/\∀k v,g k=O v->0<=v/\v<(n:Int)
structure eZ(n m:Nat)(c:Fc):Prop where
 one:c.one<m
 iI:c.k≠bj->(0<=c.aG/\c.aG.toNat<m)/\full c.tn=ar/\c.tn.length=n
def uf(L:Nat->Z (Nat×Z Int))(x:Nat)(p:Nat×Z Int):Nat->Z (Nat×Z Int):=λz=>if z=x then L x++[p] else L z
def vC{k k':Key}(h:aH a k=aF):aH (a++[(k,v)]) k'=if k'=k then O v else aH a k':=by
 rw[←iZ v h];exact ZeR _ _ _ _
def Qq:q∈uf L x p z↔q∈L z\/(z=x/\q=p):=by
 unfold uf;by_cases e:z=x
 ·rw[bS e,Ym,e];simp
 ·rw[bt e];simp[e]
def Zfq:¬gk [] x y t:=λ⟨_,m,_⟩=>nomatch m
def qY:gk (F++[c]) x y t↔gk F x y t\/(c.k≠bj/\((c.one=x/\c.aG.toNat=y/\t=c.tn)\/(c.aG.toNat=x/\c.one=y/\t=inv c.tn))):=by
 constructor
 ·rintro⟨a,m,d,b⟩;rcases Ym.mp m with m|m;·exact .inl ⟨a,m,d,b⟩
  ·rw[Yd] at m;subst m;exact .inr ⟨d,b⟩
 ·rintro(⟨a,m,h⟩|h);·exact⟨a,Yk _ m,h⟩
  ·exact⟨c,Yl _ Yg,h⟩
theorem lookup_mem:∀{a:Z (Nat×α)} {k:Nat} {v:α},a.lookup k=O v->(k,v)∈a
 |[],_,_,h=>by simp at h
 |p::a,k,v,h=>by
  rw[W7] at h;by_cases e:k=p.1;·grind
  ·rw[beq_eq_false_iff_ne.mpr e] at h;exact Yw _ (lookup_mem h)
theorem mem_lookup:∀{a:Z (Nat×α)} {k:Nat} {v:α},(a.map (·.1)).Nodup->(k,v)∈a->a.lookup k=O v
 |p::a,k,v,b,h=>by
  obtain⟨d,c⟩:=Y2.mp (show(p.1::a.map (·.1)).Nodup from b);rw[W7];rcases Ys.mp h with h|h;·grind
  ·have e:k≠p.1:=λz=>d (by rw[←z];exact Yf.mpr ⟨_,h,rfl⟩);rw[beq_eq_false_iff_ne.mpr e];exact mem_lookup c h
def AG{k:Nat}(h:a.lookup k=O v):(a++[q]).lookup k=O v:=by
 grind
def OM{k:Nat}(h:a.lookup k=aF):(a++[(k,v)]).lookup k=O v:=by
 grind
def Bn(a:∀c∈F,eZ n m c)(e:gk F x y t):x<m/\y<m/\full t=ar/\t.length=n:=by
 obtain⟨c,b,i,h⟩:=e;obtain⟨⟨l,d⟩,j,k⟩:=(a c b).iI i;have g:=(a c b).one;rcases h with⟨rfl,rfl,rfl⟩|⟨rfl,rfl,rfl⟩;·grind
 ·exact⟨d,g,kH j,by rwa[fZ]⟩
inductive dQ(F:Z Fc)(x:Nat):Nat->Prop
 |refl:dQ F x x
 |step {y z:Nat} {t:Z Int}:dQ F x y->gk F y z t->dQ F x z
structure BF(F:Z Fc)(n m x:Nat)(a:Int)(g:Z (Nat×Int)):Prop where
 nd:(g.map (·.1)).Nodup
 lt:∀p∈g,p.1<m/\0<=p.2/\p.2<(n:Int)
 hd:g.lookup x=O a
 snd:∀g',mf n F g'->g' x=O a->∀p∈g,g' p.1=O p.2
 conn:∀p∈g,dQ F x p.1
section
variable {n:Nat}{g:Z (Nat×Int)}
def bf0(c:x<m)(d:0<=a/\a<(n:Int)):BF F n m x a [(x,a)]:=by
 refine⟨QS,λp b=>?_,QS,λe _ h p b=>?_,λp b=>?_⟩;·grind
 ·grind
 ·rw[Yd] at b;exact b▸.refl
def BF.len(b:BF F n m x a g):g.length<=m:=by
 have:=xP b.nd λk d=>by
  obtain⟨p,c,rfl⟩:=Yf.mp d;exact(b.lt p c).1
 grind
def BF.add(b:BF F n m x a g)(o:∀c∈F,eZ n m c)(e:gk F k y t)(q:g.lookup k=O v)(s:g.lookup y=aF):BF F n m x a (g++[(y,ap t v)]):=by
 obtain⟨_,j,r,l⟩:=Bn o e;have mk:=lookup_mem q;refine⟨?_,λp d=>?_,AG b.hd,λi c h p d=>?_,λp d=>?_⟩
 ·rw[Yp];refine Wc.mpr ⟨b.nd,QS,λu D w A z=>?_⟩
  grind
 ·rcases Ym.mp d with d|d;·exact b.lt p d
  ·rw[Yd] at d;exact d▸⟨j,nB r l (b.lt _ mk).2⟩
 ·rcases Ym.mp d with d|d;·exact b.snd i c h p d
  ·rw[Yd] at d;exact d▸c.1 k y t v e (b.snd i c h _ mk)
 ·rcases Ym.mp d with d|d;·exact b.conn p d
  ·rw[Yd] at d;exact d▸.step (b.conn _ mk) e
def BF.Zjx(b:BF F n m x a g)(e:gk F k y t)(l:g.lookup k=O v)(j:g.lookup y=O i)(o:i≠ap t v):¬∃d,mf n F d/\d x=O a:=by
 rintro⟨d,c,h⟩;have q:=b.snd d c h _ (lookup_mem j);have p:=c.1 k y t v e (b.snd d c h _ (lookup_mem l))
 grind
def BF.ZiD(b:BF F n m x a g)(k:c∈F)(i:c.k=bj)(l:g.lookup c.one=O v)(j:v≠c.aG):¬∃d,mf n F d/\d x=O a:=by
 rintro⟨d,e,h⟩;exact j (e.2.1 c k i v (b.snd d e h _ (lookup_mem l)))
def Cl(L:Nat->Z (Nat×Z Int))(g:Z (Nat×Int))(r:Nat):Prop:=∀p,g[r]?=O p->∀q∈L p.1,g.lookup q.1=O (ap q.2 p.2)
def BF.done(b:BF F n m x a g)(o:∀x y t,(y,t)∈L x↔gk F x y t)(p:∀r,r<g.length->Cl L g r)(i:∀c∈F,c.k=bj->∀u,g.lookup c.one=O u->u=c.aG):mf n F (λk=>g.lookup k):=by
 refine⟨λk y t u e j=>?_,i,λk v h=>(b.lt _ (lookup_mem h)).2⟩;obtain⟨r,d,l⟩:=W0.mp (lookup_mem j);have:=p r d (k,u) (by rw[Yc d,l]) (y,t) ((o _ _ _).mpr e);exact this
end
def Aw{a:Type}{b c:Z (Nat×a)}{k:Nat}{v:a}(h:b.lookup k=O v):(b++c).lookup k=O v:=by
 grind
def Cl.app(b:r<g.length)(c:Cl L g r):Cl L (g++e) r:=λp a q d=>by
 rw[Wa b] at a;exact Aw (c p a q d)
open Classical in
noncomputable def qj (F:Z Fc) (n x:Nat):Z Int:=(bJ n).filter λa=>decide (∃g,mf n F g/\g x=O a)
def gm(f:Nat->Int)(c:Fc):Prop:=(c.k=bj->f c.one=c.aG)/\(c.k≠bj->f c.aG.toNat=ap c.tn (f c.one))
def o_(n m:Nat)(f:Nat->Int):Prop:=∀i,i<m->0<=f i/\f i<(n:Int)
structure fw(n:Nat)(st:JS)(F:Z Fc):Prop where
 wf:WF n st
 lK:∀c∈F,eZ n st.hd.length c
 iff:∀f,dB st f↔o_ n st.hd.length f/\∀c∈F,gm f c
 live:∃f,dB st f
 conn:∀i j,i<st.hd.length->j<st.hd.length->(st.ai i=st.ai j↔dQ F i j)
theorem Za0(t:∀c∈F,eZ n m c)(inr:o_ n m f0)(b:∀c∈F,c.one=x\/gm f0 c)(j:mf n F g)(q:g x=O a):∃f,o_ n m f/\(∀c∈F,gm f c)/\f x=a/\∀i,f i=(g i).getD (f0 i):=by
 refine⟨λi=>(g i).getD (f0 i),λi r=>?_,λc d=>⟨λp=>?_,λk=>?_⟩,by show(g x).getD _=a;rw[q];rfl,λ_=>rfl⟩
 ·show 0<=(g i).getD (f0 i)/\(g i).getD (f0 i)<_;cases e:g i with
  |none=>exact inr i r
  |some v=>exact j.2.2 i v e
 ·show(g c.one).getD (f0 c.one)=_;cases e:g c.one with
  |none=>
   rcases b c d with h|h;·grind
   ·exact h.1 p
  |some v=>exact j.2.1 c d p v e
 ·show(g c.aG.toNat).getD (f0 c.aG.toNat)=ap c.tn ((g c.one).getD (f0 c.one));have o:gk F c.one c.aG.toNat c.tn:=⟨c,d,k,.inl ⟨rfl,rfl,rfl⟩⟩;have l:gk F c.aG.toNat c.one (inv c.tn):=⟨c,d,k,.inr ⟨rfl,rfl,rfl⟩⟩;cases e:g c.one with
  |some v=>
   rw[j.1 _ _ _ v o e];rfl
  |none=>
   have s:g c.aG.toNat=aF:=by
    cases z:g c.aG.toNat with
    |none=>rfl
    |some v=>rw[j.1 _ _ _ v l z] at e;cases e
   rw[s];rcases b c d with h|h;·grind
   ·exact h.2 k
def Zbk(d:∀c∈F,eZ n m c)(inr:o_ n m f0)(b:∀c∈F,c.one=x\/gm f0 c)(h:mf n F g)(e:g x=O a):∃f,o_ n m f/\(∀c∈F,gm f c)/\f x=a:=by
 obtain⟨f,k,j,i,_⟩:=Za0 d inr b h e
 grind
open Classical in
def Zd_:a∈qj F n x↔(0<=a/\a<(n:Int))/\∃g,mf n F g/\g x=O a:=by
 unfold qj;rw[Y5,hI];refine WI λ_=>?_;unfold bJ;rw[Yf];constructor
 ·rintro⟨i,b,rfl⟩;have:=Wn.mp b;omega
 ·intro h;exact⟨a.toNat,Wn.mpr QO,Jw h.1⟩
section
variable {n:Nat}{st:JS}{F:Z Fc}
def fw.put(h:fw n st F)(l:eZ n st.hd.length c)(g:WF n b)(a:b.hd.length=st.hd.length)(d:∃f,dB b f)(iff:∀f,dB b f↔dB st f/\gm f c)(m:∀i j,i<st.hd.length->j<st.hd.length->(b.ai i=b.ai j↔dQ (F++[c]) i j)):fw n b (F++[c]):=by
 refine⟨g,λk e=>?_,λf=>?_,d,by rwa[a]⟩
 ·rw[a];rcases Ym.mp e with e|e;·exact h.lK k e
  ·grind
 ·rw[iff,h.iff,a,and_assoc]
  grind
def lY(a:i<st.hd.length):(st.more n).ai i=st.ai i:=by
 show(st.hd++[_]).getD i 0=st.hd.getD i 0
 grind
def pQ:(st.more n).ai st.hd.length=st.hd.length:=by
 show(st.hd++[_]).getD _ 0=_;simp
def Qr(a:WF n st)(b:i<st.hd.length):(st.more n).bY i=st.bY i:=by
 show(st.ld++[_]).getD i []=st.ld.getD i [];rw[Yr,Wa (by rwa[a.ll]),←Yr]
def Pr(a:WF n st):(st.more n).bY st.hd.length=bJ n:=by
 show(st.ld++[_]).getD _ []=_;rw[←a.ll];simp
theorem Gv{b:Type}{a:Z (Nat×b)}{k:Nat}{v:b}(h:k∉a.map (·.1)):(a++[(k,v)]).lookup k=O v:=by
 refine OM ?_;cases e:a.lookup k with
 |none=>rfl
 |some x=>exact absurd (G_ e) h
def jD:(st.more n).hd.length=st.hd.length+1:=by
 show(st.hd++[_]).length=_;simp
def Zea(n:Nat):full (bJ n)=ar/\(bJ n).length=n:=⟨tD (qd (bJ n)),fG n⟩
def RO(h:0<=z/\z<(n:Int)):ap (bJ n) z=z:=by
 show(bJ n).getD z.toNat 0=z;rw[Yr,mZ QO]
 grind
def IB:z∈bJ n↔0<=z/\z<(n:Int):=by
 unfold bJ;rw[Yf];constructor;·grind
 ·intro h;exact⟨z.toNat,Wn.mpr QO,Jw h.1⟩
def WF.y6(a:WF n st)(b:i<st.hd.length):st.ai i<st.hd.length:=a.lf _ (G_ (a.d5 b).1)
def WF.more(c:WF n st):WF n (st.more n):=by
 have p:st.hd.length∉st.mem.map (·.1):=λz=>Wi _ (c.lm _ z);have q:=λz=>Wi _ (c.lf _ z);have s:(st.more n).mem.map (·.1)=st.mem.map (·.1)++[st.hd.length]:=by
  show(st.mem++[(st.hd.length,[st.hd.length])]).map (·.1)=_;rw[Yp];rfl
 have o:(st.more n).fr.map (·.1)=st.fr.map (·.1)++[st.hd.length]:=by
  show(st.fr++[(st.hd.length,bJ n)]).map (·.1)=_;rw[Yp];rfl
 have r:∀{m:Z Nat},m.Nodup->st.hd.length∉m->(m++[st.hd.length]).Nodup:=λ{m} h D=>Wc.mpr ⟨h,QS,λu v w y z=>by
  have:w=st.hd.length:=by simpa using y
  rw[z,this] at v;exact D v⟩
 refine⟨?_,λt A=>?_,λi d=>?_,λi d=>?_,?_,?_,?_,?_,?_⟩
 ·show(st.ld++[_]).length=(st.hd++[_]).length;rw[Ye,Ye,c.ll];rfl
 ·rcases Ym.mp (A) with h|h;·exact c.fl t h
  ·rw[Yd] at h;exact h▸Zea n
 ·rw[jD] at d;by_cases z:i=st.hd.length
  ·rw[z,pQ];exact⟨bJ n,Gv q,Mi.Oy n,λ z=>IB.mp⟩
  ·rw[lY (fI (gb d) z)];exact⟨_,AG (c.d5 (fI (gb d) z)).1,(c.d5 (fI (gb d) z)).2⟩
 ·rw[jD] at d;by_cases z:i=st.hd.length
  ·rw[z,pQ];refine⟨[st.hd.length],Gv p,QS,λk=>?_⟩;rw[Yd,jD];constructor
   ·rintro rfl;exact⟨(rj _),pQ⟩
   ·rintro⟨g,j⟩;by_cases w:k=st.hd.length;·exact w
    ·rw[lY (fI (gb g) w)] at j;have:=c.y6 (i:=k) (fI (gb g) w);omega
  ·obtain⟨x,e,a,b⟩:=c.mem i (fI (gb d) z);rw[lY (fI (gb d) z)];refine⟨x,AG e,a,λk=>?_⟩;rw[b,jD];constructor
   ·rintro⟨g,j⟩;exact⟨(mO g),by rwa[lY g]⟩
   ·rintro⟨g,j⟩;by_cases w:k=st.hd.length
    ·rw[w,pQ] at j;have:=c.y6 (i:=i) (fI (gb d) z);omega
    ·rw[lY (fI (gb g) w)] at j;exact⟨(fI (gb g) w),j⟩
 ·exact s▸r c.nm p
 ·rw[s,jD];intro k l;rcases Ym.mp l with h|h;·have:=c.lm k h;exact mO this
  ·rw[Yd] at h;exact tq (l3 h)
 ·exact o▸r c.nf q
 ·rw[o,jD];intro k l;rcases Ym.mp l with h|h;·have:=c.lf k h;exact mO this
  ·rw[Yd] at h;exact tq (l3 h)
 ·rw[o,jD];intro k l;rcases Ym.mp l with h|h
  ·obtain⟨i,d,e⟩:=c.hf k h;exact⟨i,(mO d),by rwa[lY d]⟩
  ·rw[Yd] at h;exact⟨st.hd.length,(rj _),by rw[pQ,h]⟩
def Pt(c:WF n st)(f:Nat->Int):dB (st.more n) f↔dB st f/\(0<=f st.hd.length/\f st.hd.length<(n:Int)):=by
 have e:(st.more n).cI st.hd.length=bJ n:=by
  show((st.fr++[(st.hd.length,bJ n)]).lookup st.hd.length).getD []=_;rw[Gv (λz=>Wi _ (c.lf _ z))];rfl
 have g:∀i,i<st.hd.length->(st.more n).cI (st.ai i)=st.cI (st.ai i):=λi a=>by
  show((st.fr++[(st.hd.length,bJ n)]).lookup _).getD []=_;rw[AG (c.d5 a).1];rfl
 constructor
 ·rintro⟨s,h⟩;refine⟨⟨s,λi a=>?_⟩,?_⟩
  ·have x:=h i (by rw[jD];exact mO a);rw[lY a,Qr c a,g i a] at x;exact x
  ·have x:=h st.hd.length (by rw[jD];exact rj _);rw[pQ,Pr c,e] at x;have b:=IB.mp x.1;rwa[x.2,RO b]
 ·rintro⟨⟨s,h⟩,b⟩;refine⟨λq=>if q=st.hd.length then f st.hd.length else s q,λi a=>?_⟩;rw[jD] at a;by_cases z:i=st.hd.length
  ·rw[z,pQ,Pr c,e];show(if st.hd.length=st.hd.length then _ else _)∈_/\f st.hd.length=ap _ (if st.hd.length=st.hd.length then _ else _);rw[bS rfl,RO b];exact⟨IB.mpr b,rfl⟩
  ·have d:i<st.hd.length:=(fI (gb a) z)
   have:=c.y6 d;rw[lY d,Qr c d,g i d]
   grind
theorem ZgR(a:∀c∈F,eZ n m c)(h:dQ F x y)(b:x<m):y<m:=by
 cases h with
 |refl=>exact b
 |step _ e=>exact(Bn a e).2.1
theorem fw.more(a:fw n st F)(v:0<n):fw n (st.more n) F:=by
 refine⟨a.wf.more,λc r=>?_,λf=>?_,?_,λi j d m=>?_⟩
 ·have ok:=a.lK c r;exact jD▸⟨Wv ok.one,λp=>⟨⟨(ok.iI p).1.1,Wv (ok.iI p).1.2⟩,(ok.iI p).2⟩⟩
 ·rw[Pt a.wf,a.iff,jD];constructor
  ·rintro⟨⟨o,q⟩,x⟩;refine⟨λi d=>?_,q⟩;by_cases z:i=st.hd.length;·rwa[z]
   ·exact o i (fI (gb d) z)
  ·rintro⟨o,q⟩;exact⟨⟨λi d=>o i (mO d),q⟩,o _ (rj _)⟩
 ·obtain⟨u,s,h⟩:=a.live;refine⟨λi=>if i=st.hd.length then 0 else u i,(Pt a.wf _).mpr ⟨⟨s,λi d=>?_⟩,?_⟩⟩;·grind
  ·grind
 ·rw[jD] at d m;by_cases l:i=st.hd.length
  ·by_cases g:j=st.hd.length;·rw[l,g];exact⟨λ_=>.refl,λ_=>rfl⟩
   ·rw[l,pQ,lY (fI (gb m) g)];have:=a.wf.y6 (i:=j) (fI (gb m) g);refine⟨λz=>QO,λz=>?_⟩;have b:∀{k:Nat},dQ F st.hd.length k->k=st.hd.length:=λ{k} h=>by
     induction h with
     |refl=>rfl
     |step _ e t=>rw[t] at e;exact absurd (Bn a.lK e).1 (Wi _)
    exact absurd (b z) g
  ·by_cases g:j=st.hd.length
   ·rw[g,pQ,lY (fI (gb d) l)];have:=a.wf.y6 (i:=i) (fI (gb d) l);refine⟨λz=>QO,λz=>?_⟩;have:=ZgR a.lK z (fI (gb d) l);omega
   ·rw[lY (fI (gb d) l),lY (fI (gb m) g)];exact a.conn i j (fI (gb d) l) (fI (gb m) g)
def Zjy:fw n ⟨[],[],[],[]⟩ []:=⟨wf0,λ_ h=>(nomatch h),λf=>⟨λ_=>⟨λ_ h=>absurd h (Wr _),λ_ h=>(nomatch h)⟩,λ_=>⟨λ_=>0,λ_ h=>absurd h (Wr _)⟩⟩,⟨λ_=>0,λ_=>0,λ_ h=>absurd h (Wr _)⟩,λ_ _ h=>absurd h (Wr _)⟩
end
theorem dQ.mono(h:∀x y t,gk F x y t->gk G x y t)(c:dQ F x y):dQ G x y:=by
 induction c with
 |refl=>exact .refl
 |step _ e a=>exact .step a (h _ _ _ e)
theorem dQ.trans(c:dQ F x y)(d:dQ F y z):dQ F x z:=by
 induction d with
 |refl=>exact c
 |step _ e a=>exact .step a e
def Zeb(h:c.k=bj):dQ (F++[c]) x y↔dQ F x y:=
 ⟨dQ.mono λ_ _ _ e=>(qY.mp e).elim id λz=>absurd h z.1,dQ.mono λ_ _ _ e=>qY.mpr (.inl e)⟩
theorem Zfr(h:c.k≠bj):dQ (F++[c]) x y↔dQ F x y\/(dQ F x c.one/\dQ F c.aG.toNat y)\/(dQ F x c.aG.toNat/\dQ F c.one y):=by
 have g:∀{x y:Nat},dQ F x y->dQ (F++[c]) x y:=λd=>d.mono λ_ _ _ e=>qY.mpr (.inl e);have k:gk (F++[c]) c.one c.aG.toNat c.tn:=qY.mpr (.inr ⟨h,.inl ⟨rfl,rfl,rfl⟩⟩);have j:gk (F++[c]) c.aG.toNat c.one (inv c.tn):=qY.mpr (.inr ⟨h,.inr ⟨rfl,rfl,rfl⟩⟩);constructor
 ·intro d;induction d with
  |refl=>exact .inl .refl
  |step _ e i=>
   rcases qY.mp e with e|⟨_,⟨rfl,rfl,_⟩|⟨rfl,rfl,_⟩⟩
   ·rcases i with a|⟨a,b⟩|⟨a,b⟩;·exact .inl (.step a e)
    ·exact .inr (.inl ⟨a,.step b e⟩)
    ·exact .inr (.inr ⟨a,.step b e⟩)
   ·rcases i with a|⟨a,b⟩|⟨a,b⟩;·exact .inr (.inl ⟨a,.refl⟩)
    ·exact .inr (.inl ⟨a,.refl⟩)
    ·exact .inl a
   ·rcases i with a|⟨a,b⟩|⟨a,b⟩;·exact .inr (.inr ⟨a,.refl⟩)
    ·exact .inl a
    ·exact .inr (.inr ⟨a,.refl⟩)
 ·rintro(a|⟨a,b⟩|⟨a,b⟩);·exact g a
  ·exact((g a).step k).trans (g b)
  ·exact((g a).step j).trans (g b)
section
variable {n i j:Nat}{st X:JS}{F:Z Fc}{k:af}{tn:Z Int}{b:cm}
def Zfs(a:fw n st F)(c:Tt n st X b i j tn)(o:k≠bj)(p:eZ n st.hd.length ⟨k,i,(j:Int),tn⟩):(b=ar->fw n X (F++[⟨k,i,(j:Int),tn⟩]))/\(b=a_->fw n X F/\∀f,dB X f->¬gm f ⟨k,i,(j:Int),tn⟩):=by
 have g:∀f,gm f ⟨k,i,(j:Int),tn⟩↔f j=ap tn (f i):=λf=>⟨λh=>by have:=h.2 o;rwa [show((⟨k,i,(j:Int),tn⟩:Fc).aG.toNat)=j from Y9 j] at this,λh=>⟨λz=>absurd z o,λ_=>by rwa[show((⟨k,i,(j:Int),tn⟩:Fc).aG.toNat)=j from Y9 j]⟩⟩;refine⟨λe=>?_,λe=>?_⟩
 ·obtain⟨s,iff⟩:=c.yes e;have r:=p.one;have q:j<st.hd.length:=by
   have:=(p.iI o).1.2
   rwa [show((⟨k,i,(j:Int),tn⟩:Fc).aG.toNat)=j from Y9 j] at this
  refine a.put p c.wf c.len s (λf=>by rw[iff,g]) λx y m l=>?_;rw[c.hds e x y m l,Zfr o,show((⟨k,i,(j:Int),tn⟩:Fc).aG.toNat)=j from Y9 j,a.conn x y m l,a.conn x i m r,a.conn x j m q,←a.conn j y q l,←a.conn i y r l];exact or_congr_right (or_congr (sC λ_=>eq_comm) (sC λ_=>eq_comm))
 ·obtain⟨t,no⟩:=c.no e;exact t▸⟨a,λf d z=>no f d ((g f).mp z)⟩
def RP(c:fw n st F)(e:i<st.hd.length)(m:a∈(st.cI (st.ai i)).map λz=>(st.bY i).getD z.toNat 0):fw n (st.mC (st.ai i) ((st.cI (st.ai i)).filter λz=>decide ((st.bY i).getD z.toNat 0∈[a]))) (F++[⟨bj,i,a,tn⟩]):=by
 refine c.put ⟨e,absurd rfl⟩ (c.wf.mC e) rfl ?_ (λf=>?_) λx y o l=>?_
 ·obtain⟨z,g,rfl⟩:=Yf.mp m;obtain⟨r,p⟩:=c.live;obtain⟨f,d,q⟩:=Ic c.wf p (st.ai i) (st.ai i) z z g g (λ_=>rfl);exact⟨f,(xS c.wf e _ f).mpr ⟨d,by rw[(q i e).1 rfl];exact Yg⟩⟩
 ·rw[xS c.wf e,Yd];refine sC λ_=>?_;exact⟨λh=>⟨λ_=>h,absurd rfl⟩,λh=>h.1 rfl⟩
 ·rw[Zeb rfl];exact c.conn x y o l
def ZiE(g:fw n st F)(c:i<st.hd.length)(m:a∉(st.cI (st.ai i)).map λz=>(st.bY i).getD z.toNat 0)(f:Nat->Int)(d:dB st f):¬gm f ⟨bj,i,a,tn⟩:=by
 obtain⟨s,h⟩:=d;intro z;have e:f i=a:=z.1 rfl;refine m (Yf.mpr ⟨s (st.ai i),(h i c).1,?_⟩);rw[←e,(h i c).2];rfl
end
abbrev bO:=Z (af×af)
def aw(a:bO)(i:Nat):af:=(a.getD i ("","")).1
def bp(a:bO)(c:Fc):Key:=if c.k=bj then .inl c.aG else .inr (aw a c.aG.toNat)
def eM(a:bO)(z:Nat)(c:Fc):Z Key:=[.inl (z:Int),.inr c.k,.inr (aw a c.one),bp a c]
def keyOf(k a:af):Key->Z Key
 |.inl b=>[.inr k,.inr a,.inl b]
 |.inr b=>if k="sibling" then[.inr k,.inr (L2.rL a b),.inr (L2.rM a b)] else[.inr k,.inr a,.inr b]
def fV(a:bO)(c:Fc):Z Key:=keyOf c.k (aw a c.one) (bp a c)
def cV(k:af):cm:=decide (k="mother")||decide (k="father")
def fW(a:bO)(b:Z (Nat×Fc)):Z (Z Key×V):=b.map λp=>(fV a p.2,.int (p.1:Int))
def cD(a:bO)(b:Z (Nat×Fc)):Z (Z Key×V):=(b.filter λp=>cV p.2.k).map λp=>([.inr p.2.k,.inr (aw a p.2.one)],kV (bp a p.2))
def js(a:bO):Z (Key×V):=a.zipIdx.map λp=>(.inr p.1.1,.int (p.2:Int))
structure Cn where
 way:Int
 row:Z Key
 c0:Nat
 c1:Nat
def oF(H:Hp)(a:U)(d:Cn):Prop:=∃r,H a=O (.tup [.int d.way,.ref r,.int (d.c0:Int),.int (d.c1:Int)])/\H r=O (.tup (d.row.map kV))
structure BS where
 ps:bO
 fs:Z (Nat×Fc)
 co:Nat
 dn:Z Cn
 un:Z Cn
def BS.F(b:BS):Z Fc:=b.fs.map (·.2)
structure BL where
 h:U
 L:U
 sd:U
 pl:U
 fc:U
 kn:U
 pr:U
 dn:U
 un:U
 rk:V
 cy:Z U
 iV:Z U
 lL:Z U
 e_:Z U
def BL.own(l:BL):Z U:=[l.h,l.sd,l.pl,l.fc,l.kn,l.pr,l.dn,l.un]
def BL.fp(l:BL):Z U:=l.own++l.e_
structure fQ(K:ah)(C:U):Prop where
 cls:gq K C
 vU:dw K C "land"
 tE:dw K C "sides"
 qZ:dw K C "places"
 rm:dw K C "facts"
 Bo:dw K C "known"
 vH:dw K C "parents"
 q0:dw K C "coming"
 Tu:dw K C "done"
 Qs:dw K C "undone"
 iY:dw K C "reckoned"
abbrev HF(L b e h g d:U)(j:Int)(i a:U)(c:V):Z (af×V):=[("land",.ref L),("sides",.ref b),("places",.ref e),("facts",.ref h),("known",.ref g),("parents",.ref d),("coming",.int j),("done",.ref i),("undone",.ref a),("reckoned",c)]
def Zkr(a b c d e f g h i j:V):cR "reckoned" j (cR "undone" i (cR "done" h (cR "coming" g (cR "parents" f (cR "known" e (cR "facts" d (cR "places" c (cR "sides" b (cR "land" a [])))))))))=
  ([("land",a),("sides",b),("places",c),("facts",d),("known",e),("parents",f),("coming",g),("done",h),("undone",i),("reckoned",j)]:Z (af×V)):=rfl
abbrev hV(a:bO):Z (Key×V):=a.map λp=>(.inr p.1,.str p.2)
inductive ug(H:Hp)(CJ:U)(n:Nat)(l:BL)(b:BS):Prop
 |no (e:l.rk=.aC) (d:l.e_=[])
 |at_ (c:JL) (st:JS) (e:l.rk=.ref c.J) (d:l.e_=c.fp) (h:cT H CJ n c st) (g:fw n st b.F) (len:st.hd.length=b.ps.length) (i:∀a∈l.own,a∉c.fp)
structure bF(H:Hp)(C CL CJ:U)(l:BL)(xs ys:Z Int)(b:BS):Prop where
 obj:∃dx,H l.h=O (.ins C dx (HF l.L l.sd l.pl l.fc l.kn l.pr (b.co:Int) l.dn l.un l.rk))
 land:∀H',Out l.fp H H'->i8 H' CL l.L xs ys
 dy:H l.sd=O (.dK (hV b.ps))
 places:H l.pl=O (.dK (js b.ps))
 facts:H l.fc=O (.dK (bG (b.fs.map (·.1)) l.cy))
 fact:Paired (λa (p:Nat×Fc)=>H a=O (.tup ((eM b.ps p.1 p.2).map kV))) l.cy b.fs
 known:H l.kn=O (.dT (fW b.ps b.fs))
 parents:H l.pr=O (.dT (cD b.ps b.fs))
 done:H l.dn=O (.lst (l.iV.map V.ref))
 mH:Paired (oF H) l.iV b.dn
 i_:H l.un=O (.lst (l.lL.map V.ref))
 oG:Paired (oF H) l.lL b.un
 tX:ug H CJ xs.length l b
 nd:l.own.Nodup
def oF.out(o:Out fp H g)(t:∀a e,H a=O (.tup e)->a∉fp)(h:oF H a d):oF g a d:=by
 obtain⟨r,c,b⟩:=h;exact⟨r,o _ _ c (t _ _ c),o _ _ b (t _ _ b)⟩
def cT.off(j:cT H C n l st)(h:H a=O (.tup xs)):a∉l.fp:=by
 intro z;unfold JL.fp at z;simp[Ys] at z;rcases z with rfl|rfl|rfl|rfl|rfl|z
 ·obtain⟨b,e⟩:=j.obj
  grind
 ·rw[j.heads] at h;cases h
 ·rw[j.jb] at h;cases h
 ·rw[j.ke] at h;cases h
 ·rw[j.frees] at h;cases h
 ·obtain⟨y,e⟩:=x6 j.mem z
  grind
theorem cT.iN(j:cT H C n l st)(o:Out fp H g)(v:∀a∈fp,a∉l.fp)(s:∀a∈fp,a∉l.cy)(t:∀a q,H a=O (.tup q)->a∉fp):cT g C n l st:=by
 have k:∀{a:U} {u:HO},H a=O u->a∈l.fp->g a=O u:=λ{a u} e m=>o _ _ e λz=>v _ z m;obtain⟨r,e⟩:=j.obj;refine⟨⟨r,k e (by simp[JL.fp])⟩,k j.heads (by simp[JL.fp]),k j.jb (by simp[JL.fp]),L2.Paired.bu j.lead λa x h=>o _ _ h (t _ _ h),k j.ke (by simp[JL.fp]),?_,k j.frees (by simp[JL.fp]),?_,j.nd,j.out⟩
 ·have d:∀{b:Z U} {ps:Z (Nat×Z Nat)},Paired (λa p=>H a=O (.lst (dY p.2))) b ps->(∀a∈b,a∈l.fp)->Paired (λa p=>g a=O (.lst (dY p.2))) b ps:=by
   intro b ps p;induction p with
   |nil=>intro _;exact .nil
   |cons f _ i=>intro m;exact .cons (k f (m _ Yg)) (i λa c=>m a (Yw _ c))
  exact d j.mem λa c=>by simp[JL.fp,c]
 ·have d:∀{b:Z U} {ps:Z (Nat×Z Int)},Paired (λa p=>H a=O (.lst (p.2.map V.int))) b ps->(∀a∈b,a∈l.cy)->Paired (λa p=>g a=O (.lst (p.2.map V.int))) b ps:=by
   intro b ps p;induction p with
   |nil=>intro _;exact .nil
   |cons f _ i=>intro m;exact .cons (o _ _ f λz=>s _ z (m _ Yg)) (i λa c=>m a (Yw _ c))
  exact d j.free λa c=>c
section
variable {H:Hp}{l:BL}{b:BS}
def bF.landAt(h:bF H C CL CJ l xs ys b):i8 H CL l.L xs ys:=h.land H (Out.of (ag.refl _))
theorem bF.tup(h:bF H C CL CJ l xs g b)(e:H a=O (.tup us)):a∉l.fp:=by
 intro z;unfold BL.fp BL.own at z;rcases Ym.mp z with z|z
 ·simp[Ys,Y1,gV] at z;rcases z with rfl|rfl|rfl|rfl|rfl|rfl|rfl|rfl
  ·obtain⟨j,q⟩:=h.obj
   grind
  ·rw[h.dy] at e;cases e
  ·rw[h.places] at e;cases e
  ·rw[h.facts] at e;cases e
  ·rw[h.known] at e;cases e
  ·rw[h.parents] at e;cases e
  ·rw[h.done] at e;cases e
  ·rw[h.i_] at e;cases e
 ·cases h.tX with
  |no _ c=>grind
  |at_ i st _ c d=>rw[c] at z;exact d.off e z
theorem bF.there(h:bF H C CL CJ l xs g b)(z:a∈l.fp):H a≠aF:=by
 intro e;unfold BL.fp BL.own at z;rcases Ym.mp z with z|z
 ·simp[Ys,Y1,gV] at z;rcases z with rfl|rfl|rfl|rfl|rfl|rfl|rfl|rfl
  ·obtain⟨j,q⟩:=h.obj
   grind
  ·rw[h.dy] at e;cases e
  ·rw[h.places] at e;cases e
  ·rw[h.facts] at e;cases e
  ·rw[h.known] at e;cases e
  ·rw[h.parents] at e;cases e
  ·rw[h.done] at e;cases e
  ·rw[h.i_] at e;cases e
 ·cases h.tX with
  |no _ c=>grind
  |at_ i st _ c d=>rw[c] at z;exact d.ne e z
theorem ug.same(g:ag H k)(h:ug H CJ n l b):ug k CJ n l b:=by
 cases h with
 |no c a=>exact .no c a
 |at_ e st c a i d len j=>exact .at_ e st c a (i.same g) d len j
def bF.same(g:ag H k)(h:bF H C CL CJ l xs d b):bF k C CL CJ l xs d b:=
 ⟨let⟨i,e⟩:=h.obj;⟨i,g _ _ e⟩,λj o=>h.land j ((Out.of g).trans o),g _ _ h.dy,g _ _ h.places,g _ _ h.facts,L2.Paired.bu h.fact λ _ _=>g _ _,g _ _ h.known,g _ _ h.parents,g _ _ h.done,L2.Paired.bu h.mH λ_ _ ⟨r,c,a⟩=>⟨r,g _ _ c,g _ _ a⟩,g _ _ h.i_,L2.Paired.bu h.oG λ_ _ ⟨r,c,a⟩=>⟨r,g _ _ c,g _ _ a⟩,h.tX.same g,h.nd⟩
def eX(d c:Z U)(H:Hp):Prop:=∀a∈c,a∈d\/H a=aF
def eX.refl(a:Z U)(H:Hp):eX a a H:=λ_ h=>.inl h
def IC(o:Out fp H H1)(g:eX fp c H)(d:Out c H1 H2):Out fp H H2:=λa u e n=>d _ _ (o _ _ e n) λz=>(g a z).elim n λq=>by rw[e] at q;cases q
theorem eX.trans(g:eX fp d H)(o:Out fp H H1)(h:eX d c H1):eX fp c H:=λa z=>by
 rcases h a z with q|q;·exact g a q
 ·by_cases m:a∈fp;·exact .inl m
  ·right
   cases e:H a with
   |none=>rfl
   |some u=>rw[o _ _ e m] at q;cases q
def eX.same(s:ag H H1)(d:eX fp c H1):eX fp c H:=λa z=>(d a z).imp id λq=>s.free q
def Zft(c:fw n st F)(m:(k,a)∈st.fr):a≠[]:=by
 obtain⟨i,g,e⟩:=c.wf.hf k (Yf.mpr ⟨_,m,rfl⟩);obtain⟨f,s,d⟩:=c.live;have q:=(d i g).1;unfold JS.cI at q;rw[e,(mem_lookup c.wf.nf m)] at q
 grind
theorem ZgS(A:cT H CJ n z st)(v:fw n st b.F)(h:∃W t,H l.h=O (.ins C W t))(R:∃k,H l.sd=O (.dK k))(Q:∃k,H l.pl=O (.dK k))(P:∃k,H l.fc=O (.dK k))(N:∃k,H l.kn=O (.dT k))(L:∃k,H l.pr=O (.dT k))(J:∃c:Z U,H l.dn=O (.lst (c.map V.ref)))(G:∃c:Z U,H l.un=O (.lst (c.map V.ref))):∀a∈l.own,a∉z.cy:=by
 intro a g F;obtain⟨p,E,e⟩:∃p∈st.fr,H a=O (.lst (p.2.map V.int)):=by
  have j:∀{c:Z U} {d:Z (Nat×Z Int)},Paired (λa p=>H a=O (.lst (p.2.map V.int))) c d->a∈c->∃p∈d,H a=O (.lst (p.2.map V.int)):=by
   intro c d u;induction u with
   |nil=>intro h;cases h
   |cons f _ D=>
    intro h;rcases Ys.mp h with rfl|h;·exact⟨_,Yg,f⟩
    ·obtain⟨q,m,e⟩:=D h;exact⟨q,Yw _ m,e⟩
  exact j A.free F
 have ne:=Zft v (k:=p.1) E;have lst:∀c:Z U,H a=O (.lst (c.map V.ref))->False:=λc q=>by
  rw[q] at e;have i:c.map V.ref=p.2.map V.int:=by injection e with e;injection e
  cases o:p.2 with
  |nil=>exact ne o
  |cons x r=>
   rw[o] at i;cases c with
   |nil=>cases i
   |cons y s=>injection i with T _;cases T
 unfold BL.own at g;simp[Ys,Y1,gV] at g;rcases g with rfl|rfl|rfl|rfl|rfl|rfl|rfl|rfl;·obtain⟨_,_,q⟩:=h;rw[q] at e;cases e
 ·obtain⟨_,q⟩:=R;rw[q] at e;cases e
 ·obtain⟨_,q⟩:=Q;rw[q] at e;cases e
 ·obtain⟨_,q⟩:=P;rw[q] at e;cases e
 ·obtain⟨_,q⟩:=N;rw[q] at e;cases e
 ·obtain⟨_,q⟩:=L;rw[q] at e;cases e
 ·obtain⟨_,q⟩:=J;exact lst _ q
 ·obtain⟨_,q⟩:=G;exact lst _ q
def bF.Kk(h:bF H C CL CJ l xs j b)(g:cT H CJ xs.length d st)(c:fw xs.length st b.F):∀a∈l.own,a∉d.cy:=
 ZgS g c (let⟨i,e⟩:=h.obj;⟨i,_,e⟩) ⟨_,h.dy⟩ ⟨_,h.places⟩ ⟨_,h.facts⟩ ⟨_,h.known⟩ ⟨_,h.parents⟩ ⟨_,h.done⟩ ⟨_,h.i_⟩
def bF.build(h:bF H C CL CJ l xs z b)(v:l'.h=l.h)(x:l'.L=l.L)(n:l'.sd=l.sd)(r:l'.pl=l.pl)(t:l'.fc=l.fc)(s:l'.kn=l.kn)(q:l'.pr=l.pr)(u:l'.dn=l.dn)(m:l'.un=l.un)(o:Out l.fp H c)(g:eX l.fp l'.fp H)
  (E:∃L,c l.h=O (.ins C L (HF l.L l.sd l.pl l.fc l.kn l.pr (b'.co:Int) l.dn l.un l'.rk)))(Q:c l.sd=O (.dK (hV b'.ps)))(i:c l.pl=O (.dK (js b'.ps)))(k:c l.fc=O (.dK (bG (b'.fs.map (·.1)) l'.cy)))
  (e:Paired (λa (p:Nat×Fc)=>c a=O (.tup ((eM b'.ps p.1 p.2).map kV))) l'.cy b'.fs)(j:c l.kn=O (.dT (fW b'.ps b'.fs)))(d:c l.pr=O (.dT (cD b'.ps b'.fs)))
  (y:c l.dn=O (.lst (l'.iV.map V.ref)))(J:Paired (oF c) l'.iV b'.dn)(P:c l.un=O (.lst (l'.lL.map V.ref)))(F:Paired (oF c) l'.lL b'.un)(A:ug c CJ xs.length l' b'):bF c C CL CJ l' xs z b':=by
 have D:l'.own=l.own:=by unfold BL.own;rw[v,n,r,t,s,q,u,m]
 refine⟨?_,λN G=>?_,by rwa[n],by rwa[r],by rwa[t],e,by rwa[s],by rwa[q],by rwa[u],J,by rwa[m],F,A,by exact D▸h.nd⟩;·rwa[v,x,n,r,t,s,q,u,m]
 ·exact x▸h.land N (IC o g G)
theorem bF.owned(h:bF H C CL CJ l xs L b)(F:l'.h=l.h)(G:l'.L=l.L)(s:l'.sd=l.sd)(v:l'.pl=l.pl)(y:l'.fc=l.fc)(x:l'.kn=l.kn)(t:l'.pr=l.pr)(A:l'.dn=l.dn)(r:l'.un=l.un)
  (D:(l'.rk=l.rk/\l'.e_=l.e_/\b'.F=b.F/\b'.ps.length=b.ps.length)\/(l'.rk=.aC/\l'.e_=[]))(o:Out l.own H H')
  (Q:∃dx,H' l.h=O (.ins C dx (HF l.L l.sd l.pl l.fc l.kn l.pr (b'.co:Int) l.dn l.un l'.rk)))(dy:H' l.sd=O (.dK (hV b'.ps)))(j:H' l.pl=O (.dK (js b'.ps)))(q:H' l.fc=O (.dK (bG (b'.fs.map (·.1)) l'.cy)))
  (d:Paired (λa (p:Nat×Fc)=>H' a=O (.tup ((eM b'.ps p.1 p.2).map kV))) l'.cy b'.fs)(m:H' l.kn=O (.dT (fW b'.ps b'.fs)))(c:H' l.pr=O (.dT (cD b'.ps b'.fs)))
  (J:H' l.dn=O (.lst (l'.iV.map V.ref)))(X:Paired (oF H') l'.iV b'.dn)(i_:H' l.un=O (.lst (l'.lL.map V.ref)))(R:Paired (oF H') l'.lL b'.un):bF H' C CL CJ l' xs L b'/\eX l.fp l'.fp H:=by
 have k:l'.own=l.own:=by unfold BL.own;rw[F,s,v,y,x,t,A,r]
 have sub:∀a∈l'.fp,a∈l.fp:=λa z=>by
  unfold BL.fp at z⊢;rw[k] at z;rcases D with⟨_,e,_⟩|⟨_,e⟩;·rw[e] at z;exact z
  ·rw[e,Y8] at z;exact Yk _ z
 have of:Out l.fp H H':=λa u e n=>o _ _ e λz=>n (Yk _ z);refine⟨⟨?_,λH2 T=>?_,by rwa[s],by rwa[v],by rwa[y],d,by rwa[x],by rwa[t],by rwa[A],X,by rwa[r],R,?_,by exact k▸h.nd⟩,λa z=>.inl (sub a z)⟩;·rwa[F,G,s,v,y,x,t,A,r]
 ·exact G▸h.land H2 (IC of (λa z=>.inl (sub a z)) T)
 ·rcases D with⟨i,g,P,N⟩|⟨i,g⟩
  ·cases h.tX with
   |no e1 e2=>exact .no (by rwa[i]) (by rwa[g])
   |at_ jl st e1 e2 E W len hZ=>
    exact .at_ jl st (by rwa[i]) (by rwa[g]) (E.iN o hZ (h.Kk E W) λa us e=>λz=>h.tup e (Yk _ z)) (by rwa[P]) (by rwa[N]) (by rwa[k])
  ·exact .no i g
end
abbrev kQ:Z (af×af):=[("mother","m"),("father","f"),("wed","w"),("sibling","s")]
abbrev rG(a b:Z Int):Z (af×Z Int):=[("mother",inv a),("father",inv (bT a b)),("wed",b),("sibling",bJ a.length)]
structure fN(xs ys:Z Int)(m:Nat)(c:Fc):Prop where
 ok:eZ xs.length m c
 kind:c.k=bj\/(c.k,c.tn)∈rG xs ys
 Lp:c.k=bj->0<=c.aG/\c.aG<(xs.length:Int)
def Zc9:(bj,a)∉rG xs ys:=by
 intro h;simp[Ys,Y1,gV] at h;rcases h with⟨h,_⟩|⟨h,_⟩|⟨h,_⟩|⟨h,_⟩<;>exact absurd h QK
def FY(h:(k,a)∈rG xs ys):∃r,PyProof.Rows.KTD.datumAt k kQ=O r/\(r,a)∈BI xs ys:=by
 simp[Ys,Y1,gV] at h;rcases h with⟨rfl,rfl⟩|⟨rfl,rfl⟩|⟨rfl,rfl⟩|⟨rfl,rfl⟩;·exact⟨"m",QK,QS⟩
 ·exact⟨"f",QK,QS⟩
 ·exact⟨"w",QK,QS⟩
 ·exact⟨"s",QK,QS⟩
def fN.v9(g:fN xs ys m c)(h:c.k≠bj):(c.k,c.tn)∈rG xs ys:=g.kind.resolve_left h
def Zfu(d:oI xs b)(h:(k,a)∈rG xs b):full a=ar/\a.length=xs.length:=by
 obtain⟨r,_,c⟩:=FY h;exact Zc8 d c
theorem tF(b:(a.map (·.1)).Nodup)(d:i<a.length):aH (js a) (.inr (aw a i))=O (.int (i:Int)):=by
 have g:∀(a:bO) (k i:Nat),(a.map (·.1)).Nodup->i<a.length->aH ((a.zipIdx k).map λp=>((.inr p.1.1:Key),V.int (p.2:Int))) (.inr (aw a i))=O (.int ((k+i:Nat):Int)):=by
  intro a;induction a with
  |nil=>intro k i _ h;cases h
  |cons p a n=>
   intro k i b d;obtain⟨l,j⟩:=Y2.mp (show(p.1::a.map (·.1)).Nodup from b);rw[List.zipIdx_cons,Wu];cases i with
   |zero=>exact fq rfl
   |succ i=>
    have c:i<a.length:=by simpa using d
    have e:aw (p::a) (i+1)=aw a i:=rfl;have m:aw a i∈a.map (·.1):=by
     unfold aw;rw[Yr,Yc c];exact Yf.mpr ⟨_,Ji c,rfl⟩
    rw[e,eO (λz=>l (by rwa[Wb z])),n (k+1) i j c]
    congr 2
    omega
 have:=g a 0 i b d
 rwa [wD] at this
def oo(h:c.k=bj):bp a c=.inl c.aG:=bS h
def ig(h:c.k≠bj):bp ps c=.inr (aw ps c.aG.toNat):=bt h
inductive Bp(a:Z V)(H:Hp)(Q:VK)(E:XK):Prop
 |mk (k:af) (c:a=[.str k]) (b:Q (.bl (mF kQ k)) H)
inductive Ig(CL:U)(d:Z V)(H:Hp)(Q:VK)(E:XK):Prop
 |mk (L:U) (k:af) (b a c:Z Int) (i:d=[.ref L,.str k]) (h:i8 H CL L b a) (e:(k,c)∈rG b a) (g:∀t:U,b_ H t c->Q (.ref t) H)
inductive BY(c:Z V)(H:Hp)(Q:VK)(E:XK):Prop
 |mk (k a:af) (o:Key) (g:c=[.str k,.str a,kV o]) (e:k="sibling"->∃b,o=.inr b) (d:Nw H (.tup ((keyOf k a o).map kV)) Q)
inductive Qt(CL CJ:U)(k:Z V)(H:Hp)(Q:VK):Prop
 |mk (e:JL) (st:JS) (L l m:U) (b g:Z Int) (d:bO) (F:Z Fc) (z:Nat) (c:Fc) (D:k=[.ref e.J,.ref L,.ref l,.ref m]) (t:cT H CJ b.length e st) (o:fw b.length st F) (s:i8 H CL L b g) (y:oI b g) (u:H l=O (.dK (js d))) (n:(d.map (·.1)).Nodup) (len:st.hd.length=d.length) (p:d.length<=100) (x:H m=O (.tup ((eM d z c).map kV))) (A:fN b g d.length c) (r:∃f,dB st f/\gm f c)
   (q:∀(v:V) (h:JL) (i:JS) (j:Hp),h.J=e.J->(∀a∈h.fp,a∈e.fp)->Out e.fp H j->cT j CJ b.length h i->fw b.length i (F++[c])->i.hd.length=st.hd.length->Q v j):Qt CL CJ k H Q
def I_(CL CJ:U):Sp:=λa H Q _=>Qt CL CJ a H Q
inductive RQ(CL CJ:U)(g:Z V)(H:Hp)(Q:VK):Prop
 |mk (i:JL) (st:JS) (L h j:U) (b e:Z Int) (a:bO) (F:Z Fc) (z:Nat) (c:Fc) (t:g=[.ref i.J,.ref L,.ref h,.ref j]) (o:cT H CJ b.length i st) (l:fw b.length st F) (n:i8 H CL L b e) (r:oI b e) (p:H h=O (.dK (js a))) (k:(a.map (·.1)).Nodup) (len:st.hd.length=a.length) (m:a.length<=100) (q:H j=O (.tup ((eM a z c).map kV))) (s:fN b e a.length c)
   (q1:(∃f,dB st f/\gm f c)->∀d,ag H d->Q (.bl ar) d) (q2:(∀f,dB st f->¬gm f c)->∀d,ag H d->Q (.bl a_) d):RQ CL CJ g H Q
def Tv(CL CJ:U):Sp:=λa H Q _=>RQ CL CJ a H Q
def Bq:∀b:cm,decide (V.str k=V.str bj)=b->(b=ar↔k=bj):=λb e=>by
 grind
def Zec:aP ["kind"] ["kind"] (aJ Iu):=.aY
def Zed(F:aM K "is_tie" "is_tie" Iu f fd)(c:B "TIE_LETTERS"=O (.ref a))(b:rK K a kQ):aE P w K B I aL 1 f fd ["kind"] Bp:=by
 refine F.o Zec λs H d h=>?_;obtain⟨k,rfl,q⟩:=h;refine⟨_,(av (aI (Be (Zie (K:=K) rfl) (pv 0) (dq (v:=.ref a) rfl c rfl) QU))),?_⟩;exact⟨_,rfl,k,a,kQ,rfl,rfl,b,q⟩
abbrev y8:Z af:=["land","kind"]
def Zca:aP y8 y8 (aJ GR):=.aY
def Zcb(F:aM K "tie_turn" "tie_turn" GR f fd)(n:B "TIE_LETTERS"=O (.ref a))(l:rK K a kQ)(D:v8 K CL)(m:HasFn P w K B I 1 "is_tie" ["kind"] Bp)(y:cO P w K B I 1 "step" CL Ci (Tn CL)):aE P w K B I aL 2 f fd y8 (Ig CL):=by
 refine F.o Zca λs H c h=>?_;obtain⟨L,k,i,g,j,rfl,b,t,q⟩:=h;refine⟨_,(aj (aU (jY (eP (aZ m c (aa (pv 1) ae)))) gH a8) (av (aI (dh y c (by decide) (pv 0) (aa (bc (IX (K:=K) rfl) (dq (v:=.ref a) rfl n rfl) (pv 1)) ae))))),?_⟩;refine hP ?_;intros;obtain⟨r,e,p⟩:=FY t;have o:mF kQ k=ar:=by unfold mF;rw[e];rfl
 obtain⟨x,d,A,E,z,N,G,J,st,u,_⟩:=id b;refine⟨_,rfl,k,rfl,_,rfl,?_⟩;rw[o];refine bV (aW ?_);exact⟨_,rfl,L,x,_,rfl,u,rfl,_,rfl,a,k,r,kQ,rfl,rfl,l,e,L,r,i,g,j,rfl,b,p,q⟩
abbrev wj:Z af:=["kind","one","other"]
def Zcc:aP wj wj (aJ GS):=.aY
theorem Zcd(F:aM K "fact_key" "fact_key" GS f fd)(g:B "SIBLING"=O (.str "sibling" t1))(d:Bl B):aE P w K B I aL 1 f fd wj BY:=by
 refine F.o Zcc λs H l h=>?_;obtain⟨k,a,o,rfl,j,q⟩:=h;refine⟨_,(aj (aU (bH cq (pv 0) (dq (v:=.str "sibling") rfl g ⟨_,rfl⟩)) (av (aI (c5 (aa (pv 0) (aa (fJ (ZcW rfl) rfl d.Uu SW (aa (pv 1) (aa (pv 2) ae))) (aa (fJ (ZcX rfl) rfl d.Zjf Zis (aa (pv 1) (aa (pv 2) ae))) ae)))))) a8) (av (aI (c5 (aa (pv 0) (aa (pv 1) (aa (pv 2) ae))))))),?_⟩;refine⟨_,rfl,rfl,_,rfl,?_⟩;by_cases e:k="sibling"
 ·obtain⟨b,rfl⟩:=j e;rw[du (by rw[e])];refine⟨_,rfl,_,rfl,_,rfl,_,_,rfl,_,rfl,_,rfl,_,_,rfl,by show 3<=sizeLine;decide,?_⟩;have c:keyOf k a (.inr b)=[.inr k,.inr (L2.rL a b),.inr (L2.rM a b)]:=bS e;rw[c] at q;exact q
 ·rw[fb (λz=>e (V.str.inj z))];refine⟨_,rfl,_,rfl,_,rfl,by show 3<=sizeLine;decide,?_⟩;have c:(keyOf k a o).map kV=[.str k,.str a,kV o]:=by
   cases o with
   |inl i=>rfl
   |inr b=>
    have:keyOf k a (.inr b)=[.inr k,.inr a,.inr b]:=bt e;rw[this];rfl
  rw[c] at q;exact q
abbrev uh:Z af:=["joins","land","places","fact"]
abbrev VB:Z af:=["joins","land","places","fact","number","kind","one","other"]
def xQ:aP VB uh (aJ F7):=.aY
theorem Zbl(F:aM K "keep_fact" "keep_fact" F7 f fd)(mj:B "SAID"=O (.str "said" t1))(vB:HasFn P w K B I 2 "tie_turn" y8 (Ig CL))(Gx:cO P w K B I 3 "say" CJ Cm (UI CJ))(Gy:cO P w K B I 5 "tie" CJ mG (UK CJ)):aE P w K B I aL 6 f fd uh (I_ CL CJ):=by
 refine F.o xQ λs H g h=>?_;obtain⟨i,st,L,r,fa,l,ys,m,FF,z,c,rfl,D,d,la,gd,G,nd,len,m4,hf,k,lv,q⟩:=h;refine⟨_,(aj (l9 (pv 3) (gc (K:=K) rfl rfl (bq (aV 4 xQ.nd) (bq (aV 5 xQ.nd) (bq (aV 6 xQ.nd) (bq (aV 7 xQ.nd) f_)))))) (aj (aU (bH cq (pv 5) (dq (v:=.str "said") rfl mj ⟨_,rfl⟩)) (av (aI (dh Gx g (by decide) (pv 0) (aa (de (bo g) (pv 2) (pv 6) (λ_ _=>rfl)) (aa (pv 7) ae))))) a8) (av (aI (dh Gy g (by decide) (pv 0) (aa (de (bo g) (pv 2) (pv 6) (λ_ _=>rfl)) (aa (de (bo g) (pv 2) (pv 7) (λ_ _=>rfl)) (aa (aZ vB g (aa (pv 1) (aa (pv 5) ae))) ae)))))))),?_⟩;refine i1 ?_;intros;obtain⟨dx,ho⟩:=D.obj;have X:=tF nd k.ok.one;have n8:=gd.2.2.2.2;have j:c.one<st.hd.length:=by exact len▸k.ok.one
 refine⟨_,rfl,fa,_,rfl,aB.of hf,rfl,_,_,rfl,aQ ⟨_,_,rfl,aQ ⟨_,_,rfl,aQ ⟨_,_,rfl,aQ ⟨rfl,?_⟩⟩⟩⟩⟩;refine⟨_,rfl,rfl,_,rfl,bA (λR=>?_) (λR=>aW ?_)⟩
 ·have e:=(Bq _ rfl).mp R;have J:kV (bp m c)=.int c.aG:=by rw[oo e];rfl
  refine⟨_,rfl,i.J,dx,_,rfl,ho,rfl,_,rfl,_,rfl,r,_,rfl,cP G X,_,rfl,?_⟩;have one:=d.wf.one n8 j;have zS:=d.wf.BX;obtain⟨f0,Q,p⟩:=lv;obtain⟨o,h0⟩:=id Q;have mm:c.aG∈(st.cI (st.ai c.one)).map (λz=>(st.bY c.one).getD z.toNat 0):=Yf.mpr ⟨o (st.ai c.one),(h0 c.one j).1,by rw[←p.1 e,(h0 c.one j).2];rfl⟩;refine⟨i,st,l.length,c.one,_,_,_,c.aG,?_,D,one,QO,λ_ x W A y u E=>?_,absurd mm⟩
  ·show[V.ref i.J,V.int (c.one:Int),kV (bp m c)]=_;rw[J]
  ·have n:c=⟨bj,c.one,c.aG,c.tn⟩:=by rw[←e]
   refine q _ x _ W A (λa ha=>by rw[y] at ha;exact ha) u E ?_ rfl;exact n▸RP d j mm
 ·have e:=λz=>R ((Bq _ rfl).mpr z);obtain⟨⟨o0,om⟩,ft,tl⟩:=k.ok.iI e;have J:kV (bp m c)=.str (aw m c.aG.toNat):=by rw[ig e];rfl
  have p2:=tF nd om;have hj:c.aG.toNat<st.hd.length:=by rwa[len]
  refine⟨_,rfl,i.J,dx,_,rfl,ho,rfl,_,rfl,_,rfl,r,_,rfl,cP G X,_,rfl,_,rfl,r,.int (c.aG.toNat:Int),rfl,?_,_,rfl,_,rfl,L,c.k,l,ys,c.tn,rfl,la,k.v9 e,λt ht=>?_⟩
  ·exact J▸cP G p2
  refine⟨i,st,l.length,c.one,c.aG.toNat,c.tn,t,rfl,D,d.wf,d.live,n8,QO,j,hj,ht,ft,tl,λb x aO W A y u E to=>?_⟩;have n:c=⟨c.k,c.one,(c.aG.toNat:Int),c.tn⟩:=by rw[Jw o0]
  have T:eZ l.length st.hd.length ⟨c.k,c.one,(c.aG.toNat:Int),c.tn⟩:=by rw[←n,len];exact k.ok
  obtain⟨tm,tf⟩:=Zfs d to e T;have N:b=ar:=by
   cases N:b with
   |true=>rfl
   |false=>
    obtain⟨f0,Q,p⟩:=lv;obtain⟨es,no⟩:=to.no N;exact absurd (p.2 e) (no f0 Q)
  refine q _ x aO W A y u E ?_ to.len;have:=tm N;rw[←n] at this;exact this
def xR:aP VB uh (aJ F_):=.aY
theorem Zbm(F:aM K "fact_fits" "fact_fits" F_ f fd)(mj:B "SAID"=O (.str "said" t1))(vB:HasFn P w K B I 2 "tie_turn" y8 (Ig CL))(oh:cO P w K B I 2 "open_at" CJ yY (A5 CJ))(u_:cO P w K B I 4 "left" CJ mG (Kh CJ)):aE P w K B I aL 5 f fd uh (Tv CL CJ):=by
 refine F.o xR @λbL A outer vs Q E s H k h=>?_;obtain⟨N,st,L,G,fa,u,ys,i,FF,z,c,rfl,ja,b,la,gd,o,nd,len,m4,hf,T,q1,q2⟩:=h;have hu:=k.l_;refine⟨_,(aj (l9 (pv 3) (gc (K:=K) (n:=4) rfl rfl (bq (aV 4 xR.nd) (bq (aV 5 xR.nd) (bq (aV 6 xR.nd) (bq (aV 7 xR.nd) f_)))))) (aj (aU (bH cq (pv 5) (dq (v:=.str "said") rfl mj ⟨_,rfl⟩)) (av (aI (Be (k9 (K:=K) rfl) (pv 7) (dh oh k (by decide) (pv 0) (aa (de (bo k) (pv 2) (pv 6) (λ_ _=>rfl)) ae)) QU))) a8) (av (aI (dW (Rz (K:=K) rfl (Zih hu)) (dh u_ k (by decide) (pv 0) (aa (de (bo k) (pv 2) (pv 6) (λ_ _=>rfl)) (aa (de (bo k) (pv 2) (pv 7) (λ_ _=>rfl)) (aa (aZ vB k (aa (pv 1) (aa (pv 5) ae))) ae)))) (cU ae)))))),?_⟩;refine i1 ?_;intros;obtain⟨dx,ho⟩:=ja.obj;have p1:=tF nd T.ok.one;have J:u.length<=8:=gd.2.2.2.2;have g:c.one<st.hd.length:=by rw[len];exact T.ok.one
 refine⟨_,rfl,fa,_,rfl,aB.of hf,rfl,_,_,rfl,aQ ⟨_,_,rfl,aQ ⟨_,_,rfl,aQ ⟨_,_,rfl,aQ ⟨rfl,?_⟩⟩⟩⟩⟩;refine⟨_,rfl,rfl,_,rfl,bA (λcc=>?_) (λcc=>aW ?_)⟩
 ·have e:c.k=bj:=(Bq _ rfl).mp cc;have W:kV (bp i c)=.int c.aG:=by rw[oo e];rfl
  have one:=b.wf.one J g;refine⟨_,rfl,_,rfl,N.J,dx,_,rfl,ho,rfl,_,rfl,_,rfl,G,_,rfl,cP o p1,N,st,u.length,c.one,_,_,_,rfl,ja,one.hd,one.ld,one.fr,one.gu,one.jo,λp j X np q D so nQ=>⟨p,_,rfl,.inl (aq.of nQ),?_,Iy j,?_⟩⟩
  ·show jG (kV (bp i c))=ar;rw[W];rfl
  show Q (.bl (if(a_:cm)=ar then !fD (kV (bp i c)) (j.map V.int) else fD (kV (bp i c)) (j.map V.int))) X;rw[bt Yq,W,Bm];have ec:c=⟨bj,c.one,c.aG,c.tn⟩:=by rw[←e]
  by_cases m:c.aG∈j
  ·rw[du m];refine q1 ?_ X q;have XX:=RP (tn:=c.tn) b g (D.subset m);obtain⟨f,d⟩:=XX.live;obtain⟨_,s⟩:=(XX.iff f).mp d;refine⟨f,((xS b.wf g _ f).mp d).1,?_⟩;rw[ec];exact s _ (Yl _ Yg)
  ·rw[fb m];refine q2 (λf d=>?_) X q;rw[ec];exact ZiE b g (λz=>m (D.symm.subset z)) f d
 ·have e:c.k≠bj:=λz=>cc ((Bq _ rfl).mpr z);obtain⟨⟨o0,om⟩,ft,tl⟩:=T.ok.iI e;have W:kV (bp i c)=.str (aw i c.aG.toNat):=by rw[ig e];rfl
  have p2:=tF nd om;have R:c.aG.toNat<st.hd.length:=by rw[len];exact om
  have pf:=RN b.wf J g R;refine⟨_,rfl,N.J,dx,_,rfl,ho,rfl,_,rfl,_,rfl,G,_,rfl,cP o p1,_,rfl,_,rfl,G,.int (c.aG.toNat:Int),rfl,?_,_,rfl,_,rfl,L,c.k,u,ys,c.tn,rfl,la,T.v9 e,λt ht=>?_⟩
  ·show eU H G (kV (bp i c)) _;rw[W];exact cP o p2
  refine⟨N,st,u.length,c.one,c.aG.toNat,_,_,_,_,_,_,c.tn,t,rfl,ja,b.wf.one J g,b.wf.one J R,ht,λp o=>by rw[tl];exact Tr b.wf g (x:=p.1) (y:=p.2) o,Yy pf (by decide),λp j X np q nQ D _=>?_⟩;have ms:=Qp D;refine⟨by show 0<=sizeLine;exact Yx _,λe0 H2 n2 g2 zT=>?_⟩;refine⟨p,e0,j.map V.int,rfl,rfl,aq.of (g2 _ _ nQ),aq.of zT,?_⟩;rw[bS rfl];have l:∀f,gm f c↔f c.aG.toNat=ap c.tn (f c.one):=λf=>⟨λh=>h.2 e,λh=>⟨λz=>absurd z e,λ_=>h⟩⟩;cases j with
  |nil=>
   refine q2 (λf d z=>?_) H2 (q.trans g2);have m:=yg b.wf g R d;rw[(l f).mp z] at m;exact absurd ((ms _).mpr m) (λz=>nomatch z)
  |cons a r=>
   refine q1 ?_ H2 (q.trans g2);have m:=(ms a).mp Yg;obtain⟨f,d,e1,e2⟩:=Qo b.wf g R b.live m;exact⟨f,d,(l f).mpr (by rw[e1,e2])⟩
def BS.keys(b:BS):Z (Z Key):=b.fs.map λp=>fV b.ps p.2
def BS.told(b:BS)(k:Z Key):cm:=(aH (fW b.ps b.fs) k).isSome
structure cE(xs ys:Z Int)(b:BS):Prop where
 gd:oI xs ys
 nm:(b.ps.map (·.1)).Nodup
 m:b.ps.length<=64
 fl:b.fs.length<=63
 fg:∀p∈b.fs,fN xs ys b.ps.length p.2
 zs:(b.fs.map (·.1)).Nodup
 lt:∀p∈b.fs,p.1<b.co
 ky:b.keys.Nodup
 pr:((cD b.ps b.fs).map (·.1)).Nodup
 lv:∃f,o_ xs.length b.ps.length f/\∀c∈b.F,gm f c
 dl:b.dn.length<=200
 ul:b.un.length<=200
structure cC(H H':Hp)(l l':BL):Prop where
 h:l'.h=l.h
 out:Out l.fp H H'
 grow:eX l.fp l'.fp H
def cC.of(g:ag H a):cC H a l l:=⟨rfl,Out.of g,eX.refl _ _⟩
def cC.trans(a:cC H H1 l l1)(b:cC H1 c l1 l2):cC H c l l2:=⟨b.h.trans a.h,IC a.out a.grow b.out,a.grow.trans a.out b.grow⟩
def cC.same(a:cC H H1 l l1)(g:ag H1 b):cC H b l l1:=⟨a.h,a.out.trans (Out.of g),a.grow⟩
def cC.after(g:ag H H1)(a:cC H1 b l l1):cC H b l l1:=⟨a.h,(Out.of g).trans a.out,a.grow.same g⟩
theorem A7[DecidableEq b](a:Z (b×V))(k:b):(aH a k).isSome=ar↔k∈a.map (·.1):=by
 induction a with
 |nil=>exact⟨(λz=>nomatch z),(λz=>nomatch z)⟩
 |cons p r c=>
  by_cases e:p.1=k
  ·rw[fq e]
   grind
  ·rw[eO e,c]
   grind
theorem oj[DecidableEq b]{k:b}(h:k∉a.map (·.1)):aH a k=aF:=by
 cases e:aH a k with
 |none=>rfl
 |some v=>exact absurd ((A7 a k).mp (by rw[e];rfl)) h
theorem JA[DecidableEq b]{k:b}(c:(a.map (·.1)).Nodup)(h:(k,v)∈a):aH a k=O v:=by
 induction a with
 |nil=>cases h
 |cons p r g=>
  obtain⟨e,d⟩:=Y2.mp (show(p.1::r.map (·.1)).Nodup from c);rcases Ys.mp h with h|h;·exact h▸fq rfl
  ·rw[eO (λz=>e (by exact z▸Yf.mpr ⟨_,h,rfl⟩))];exact g d h
def tG(h:i<a.length):aw a i∈a.map (·.1):=by
 unfold aw
 grind
inductive Qu(C CL CJ:U)(d:Z V)(H:Hp)(Q:VK)(E:XK):Prop
 |mk (l:BL) (b:BS) (c a:Z Int) (h:d=[.ref l.h]) (g:bF H C CL CJ l c a b) (e:Nw H (.lst (b.ps.map λp=>V.str p.1)) Q)
inductive ID(C CL CJ:U)(d:Z V)(H:Hp)(Q:VK)(E:XK):Prop
 |mk (l:BL) (b:BS) (c a:Z Int) (z:af) (v:V) (i:d=[.ref l.h,.str z]) (h:bF H C CL CJ l c a b) (e:aH (hV b.ps) (.inr z)=O v) (g:Q v H)
inductive KR(C CL CJ:U)(g:Z V)(H:Hp)(Q:VK)(E:XK):Prop
 |mk (l:BL) (b:BS) (e d:Z Int) (k a:af) (o:Key) (m:g=[.ref l.h,.str k,.str a,kV o]) (j:bF H C CL CJ l e d b) (h:k="sibling"->∃b,o=.inr b) (i:∀c,ag H c->Q (.bl (b.told (keyOf k a o))) c)
inductive ON(C CL CJ:U)(g:Z V)(H:Hp)(Q:VK)(E:XK):Prop
 |mk (l:BL) (b:BS) (e d:Z Int) (k a:af) (j:g=[.ref l.h,.str k,.str a]) (i:bF H C CL CJ l e d b) (h:∀c,ag H c->Q ((aH (cD b.ps b.fs) [.inr k,.inr a]).getD .aC) c)
abbrev ji:Z af:=["mother","father"]
def qc(b:BS)(a:af):Z V:=ji.filterMap λk=>aH (cD b.ps b.fs) [.inr k,.inr a]
def Zfv(g:Nat->bw V):((List.range 2).filter λi=>(g i).isSome).map (λi=>(g i).getD .aC)=[g 0,g 1].filterMap id:=by
 show(([0,1]:Z Nat).filter _).map _=_
 grind
def Qv(b:BS)(k:Z Key):b.told k=ar↔k∈b.keys:=by
 unfold BS.told;rw[A7];unfold fW BS.keys
 grind
inductive Og(C CL CJ:U)(g:Z V)(H:Hp)(Q:VK)(E:XK):Prop
 |mk (l:BL) (b:BS) (e d:Z Int) (a:af) (j:g=[.ref l.h,.str a]) (i:bF H C CL CJ l e d b) (h:∀(p:U) (c:Hp),H p=aF->ag H c->c p=O (.lst (qc b a))->Q (.ref p) c)
def dF(H:Hp)(b:bO)(a:U)(p:Nat×Fc):Prop:=H a=O (.tup ((eM b p.1 p.2).map kV))
inductive Tw(C CL CJ:U)(h:Z V)(H:Hp)(Q:VK)(E:XK):Prop
 |mk (l:BL) (b:BS) (g e:Z Int) (n:h=[.ref l.h]) (m:bF H C CL CJ l g e b) (i:(b.fs.map (·.1)).Nodup) (j:b.fs.length<=63) (k:∀(p:U) (d:Z U) (c:Z (Nat×Fc)) (a:Hp),H p=aF->ag H a->c.Perm b.fs->(c.map (·.1)).Pairwise (·<·)->a p=O (.lst (d.map V.ref))->Paired (dF a b.ps) d c->Q (.ref p) a)
def Hd(K:ah):Sp:=λb H Q _=>∃(r:U) (a:Z V),b=[.ref r]/\aB K H r a/\Q (.bl (decide (a.length=2))) H
theorem JB:∀{as:Z U} {fs:Z (Nat×Fc)} {p:Nat×Fc},Paired (dF H ps) as fs->(fs.map (·.1)).Nodup->p∈fs->∃a,aH (bG (fs.map (·.1)) as) (.inl (p.1:Int))=O (.ref a)/\dF H ps a p:=by
 intro as fs p b;induction b with
 |nil=>grind
 |@cons a q as fs f t i=>
  intro c h;obtain⟨g,d⟩:=Y2.mp (show(q.1::fs.map (·.1)).Nodup from c);have l:bG ((q::fs).map (·.1)) (a::as)=(Sum.inl (q.1:Int),V.ref a)::bG (fs.map (·.1)) as:=rfl;rw[l];rcases Ys.mp h with rfl|h;·exact⟨a,fq rfl,f⟩
  ·obtain⟨n,k,j⟩:=i d h;refine⟨n,?_,j⟩;rw[eO (λz=>g (by
    have e:=Du z;have m:q.1=p.1:=(lR e)
    exact m▸Yf.mpr ⟨_,h,rfl⟩))]
   exact k
theorem OO:∀{b:Z Nat} {as:Z U},b.length=as.length->(bG b as).map (·.1)=(b.map λk:Nat=>(k:Int)).map Sum.inl
 |[],[],_=>rfl
 |k::b,a::as,h=>by
  have c:bG (k::b) (a::as)=(Sum.inl (k:Int),V.ref a)::bG b as:=rfl;rw[c,Wu,OO (by simpa using h)];rfl
 |[],_::_,h=>rfl
 |_::_,[],h=>by simp at h
theorem Zc_(t:(fs.map (·.1)).Nodup)(d:c.Perm ((fs.map (·.1)).map λk:Nat=>(k:Int)))(r:c.Pairwise (·<=·)):∃b:Z (Nat×Fc),b.Perm fs/\(b.map (·.1)).Pairwise (·<·)/\c=(b.map (·.1)).map λk:Nat=>(k:Int):=by
 have o:∀{c:Z Int} {fs:Z (Nat×Fc)},c.Perm ((fs.map (·.1)).map λk:Nat=>(k:Int))->∃b:Z (Nat×Fc),b.Perm fs/\c=(b.map (·.1)).map λk:Nat=>(k:Int):=by
  intro c;induction c with
  |nil=>
   intro fs d;have:=d.symm.eq_nil;have e:fs=[]:=by simpa using this
   exact⟨[],by rw[e],rfl⟩
  |cons a c u=>
   intro fs d;have s:a∈(fs.map (·.1)).map λk:Nat=>(k:Int):=d.subset Yg;rw[Y6] at s;obtain⟨p,v,rfl⟩:=Yf.mp s;obtain⟨l,j,rfl⟩:=List.append_of_mem v;have m:c.Perm (((l++j).map (·.1)).map λk:Nat=>(k:Int)):=by
    have x:(((l++p::j).map (·.1)).map λk:Nat=>(k:Int)).Perm ((p.1:Int)::((l++j).map (·.1)).map λk:Nat=>(k:Int)):=by
     have:=(List.perm_middle (a:=p) (l₁:=l) (l₂:=j)).map λq:Nat×Fc=>((q.1:Nat):Int);simpa[Y6,Function.comp_def] using this
    exact(d.trans x).cons_inv
   obtain⟨b,i,g⟩:=u m;exact⟨p::b,(i.cons p).trans List.perm_middle.symm,by rw[g];rfl⟩
 obtain⟨b,i,g⟩:=o d;refine⟨b,i,?_,g⟩;have n:=(i.map _).nodup_iff.mpr t;rw[g,Jc] at r;exact(r.and n).imp λh=>by
  omega
def Zaf:aP jM jM (aJ EO):=.aY
def Zee(F:aM K "people" "Hearth.people" EO f fd)(a:fQ K C)(k:Bl B):aE P w K B I aL 1 f fd jM (Qu C CL CJ):=by
 refine F.o Zaf λs H r h=>?_;obtain⟨l,b,o,n,rfl,c,q⟩:=h;refine⟨_,(av (aI (fh (Oc rfl) rfl k.tK s_ (aa (pF K 0) ae)))),?_⟩;obtain⟨j,i⟩:=c.obj;refine⟨_,rfl,l.h,C,j,_,_,rfl,i,a.cls,a.tE,rfl,l.sd,_,rfl,c.dy,λp m d g e=>q p m d g ?_⟩;rw[e,Y6];rfl
abbrev kR:Z af:=["self","name"]
def Z7:aP kR kR (aJ EF):=.aY
def Zda(F:aM K "side_of" "Hearth.side_of" EF f fd)(a:fQ K C)(m:Bl B):aE P w K B I aL 1 f fd kR (ID C CL CJ):=by
 refine F.o Z7 λs H d h=>?_;obtain⟨l,b,k,j,z,v,rfl,c,g,q⟩:=h;refine⟨_,(aj (aU (jX (mY (bo d) (pv 1) (pF K 0)) QU) gH a8) (av (aI (de (bo d) (pF K 0) (pv 1) (λ_ _=>rfl))))),?_⟩;obtain⟨i,e⟩:=c.obj;exact⟨_,rfl,_,rfl,l.h,C,i,_,_,rfl,e,a.cls,a.tE,rfl,l.sd,O v,rfl,cP c.dy g,_,rfl,bV (aW ⟨_,rfl,l.h,C,i,_,_,rfl,e,a.cls,a.tE,rfl,_,rfl,l.sd,v,rfl,cP c.dy g,q⟩)⟩
def Zbn:aP jR jR (aJ Gd):=.aY
def Zbo(F:aM K "is_person" "is_person" Gd f fd)(c:Bl B):aE P w K B I aL 1 f fd jR (Hd K):=by
 refine F.o Zbn λs H d h=>?_;obtain⟨r,a,rfl,b,q⟩:=h;refine⟨_,(av (aI (dW cq (dC K c (pv 0)) aS))),?_⟩;refine⟨_,rfl,r,a,rfl,.inr b,rfl,?_⟩;have e:decide (V.int (a.length:Int)=V.int 2)=decide (a.length=2):=by
  rw[Wq,hI,hI];exact⟨λz=>by have:=V.int.inj z;exact lR this,λz=>by rw[z];rfl⟩
 rw[←e] at q;exact q
abbrev qt:Z af:=["self","kind","one","other"]
def Za1:aP qt qt (aJ FV):=.aY
def ZiF(F:aM K "has" "Hearth.has" FV f fd)(e:fQ K C)(i:HasFn P w K B I 1 "fact_key" wj BY):aE P w K B I aL 2 f fd qt (KR C CL CJ):=by
 refine F.o Za1 λs H d h=>?_;obtain⟨l,b,v,u,k,a,o,rfl,g,j,q⟩:=h;refine⟨_,(av (aI (Zho (BD (bo d) (aZ i d (aa (pv 1) (aa (pv 2) (aa (pv 3) ae)))) (pF K 0)) QU))),?_⟩;refine⟨_,rfl,_,rfl,_,rfl,k,a,o,rfl,j,λp t x c m=>?_⟩;obtain⟨r,n⟩:=g.obj;refine⟨_,rfl,l.h,C,r,_,_,rfl,c _ _ n,e.cls,e.Bo,rfl,l.kn,_,rfl,eU.t (c _ _ g.known) m,?_⟩;exact q t c
abbrev Co:Z af:=["self","kind","name"]
def Z0:aP Co Co (aJ Eu):=.aY
def Zbp(F:aM K "parent_of" "Hearth.parent_of" Eu f fd)(d:fQ K C):aE P w K B I aL 1 f fd Co (ON C CL CJ):=by
 refine F.o Z0 λs H g h=>?_;obtain⟨l,b,r,o,k,a,rfl,c,q⟩:=h;refine⟨_,(av (aI (P5 (bo g) (pF K 0) (c5 (aa (pv 1) (aa (pv 2) ae))) ⟨rfl,rfl,rfl,rfl⟩))),?_⟩;obtain⟨m,j⟩:=c.obj;refine⟨_,rfl,l.h,C,m,_,_,rfl,j,d.cls,d.vH,rfl,l.pr,rfl,.inr ⟨_,.inl c.parents⟩,_,rfl,_,rfl,by show 2<=sizeLine;decide,λp n t e i=>?_⟩;exact⟨_,eU.t (k:=[.inr k,.inr a]) (e _ _ c.parents) i,q n e⟩
def ZY:aP kR kR (aJ Es):=.aY
theorem Za2(F:aM K "parents_of" "Hearth.parents_of" Es f fd)(j:fQ K C)(Q:B "PARENTS"=O (.ref o))(t:∀H,aB K H o (ji.map V.str)):aE P w K B I aL 1 f fd kR (Og C CL CJ):=by
 refine F.o ZY λs H y h=>?_;obtain⟨l,b,xs,ys,a,rfl,r,q⟩:=h;refine⟨_,(av (aI (jE (x:="kind") (fr:=[("self",0),("name",1)]) (cl:=[("self",s.heap.objs.size+1),("name",s.heap.objs.size+1+1)]) rfl (.hU ⟨rfl,⟨rfl,trivial⟩⟩ ⟨⟨rfl,.inl rfl,.inl rfl,rfl⟩,⟨⟨rfl,.inl rfl,.inl rfl,rfl⟩,trivial⟩⟩) (Bx (dq (v:=.ref o) rfl Q rfl)) (λ_ _ _ _=>vM (jX (BD (bo y) (c5 (aa (pv 0) (aa (pv 2) ae))) (vN (K:=K) rfl (pv 1) rfl)) QU)) (λ_ _ _ _=>(de (bo y) (vN (K:=K) rfl (pv 1) rfl) (c5 (aa (pv 0) (aa (pv 2) ae))) (λ_ _=>rfl)))))),?_⟩;obtain⟨J,E⟩:=r.obj;let val:Nat->bw V:=λi=>aH (cD b.ps b.fs) [.inr (ji.getD i ""),.inr a];refine⟨o,rfl,⟨_,t _⟩,λD A=>ZdT (t _) QD A (λi=>(val i).isSome) (λi=>(val i).getD .aC) (λi v c L g _ Kt Kf m n=>?_) λL g T=>q D L A g ?_⟩
 ·obtain⟨k,rfl,X⟩:∃k:af,v=.str k/\ji.getD i ""=k:=by
   match i,c with
   |0,c=>exact⟨"mother",(Yo c).symm,rfl⟩
   |1,c=>exact⟨"father",(Yo c).symm,rfl⟩
   |i+2,c=>simp at c
  have W:val i=aH (cD b.ps b.fs) [.inr k,.inr a]:=by show aH (cD b.ps b.fs) [.inr (ji.getD i ""),.inr a]=_;rw[X]
  refine⟨_,rfl,_,rfl,by show 2<=sizeLine;decide,λp H2 np d R=>?_⟩;refine⟨_,rfl,l.h,C,J,_,_,rfl,d _ _ (g _ _ E),j.cls,j.vH,rfl,l.pr,_,rfl,eU.t (k:=[.inr k,.inr a]) (d _ _ (g _ _ r.parents)) R,_,rfl,?_⟩;rw[W] at m n;cases e:aH (cD b.ps b.fs) [.inr k,.inr a] with
  |none=>
   rw[e] at n;exact bV (n H2 rfl d)
  |some u=>
   rw[e] at m;refine dk ?_;refine⟨_,rfl,l.h,C,J,_,_,rfl,d _ _ (g _ _ E),j.cls,j.vH,rfl,_,rfl,_,rfl,by show 2<=sizeLine;decide,λp3 H3 N G XY=>?_⟩;refine⟨l.pr,u,rfl,?_,m u H3 rfl (d.trans G) rfl⟩;have z:=eU.t (k:=[.inr k,.inr a]) (G _ _ (d _ _ (g _ _ r.parents))) XY;rw[e] at z;exact z
 ·rw[T];have e:((List.range (ji.map V.str).length).filter λi=>(val i).isSome).map (λi=>(val i).getD .aC)=qc b a:=by
   exact Zfv val
  rw[e]
def ZaH:aP jM jM (aJ Fy):=.aY
theorem ZgT(F:aM K "kept" "Hearth.kept" Fy f fd)(u:fQ K C)(bl:Bl B):aE P w K B I aL 1 f fd jM (Tw C CL CJ):=by
 refine F.o ZaH λs H hr h=>?_;obtain⟨l,b,xs,t,rfl,r,X,fl,q⟩:=h;refine⟨_,(av (aI (jE (x:="number") (fr:=[("self",0)]) (cl:=[("self",s.heap.objs.size+1)]) rfl (.hU ⟨rfl,trivial⟩ ⟨⟨rfl,.inl rfl,.inl rfl,rfl⟩,trivial⟩) (dH (K:=K) rfl (fJ (ZaW rfl) rfl bl.A0 AN (aa (pF K 0) ae))) (λ_ _ _ _=>m5) (λ_ _ _ _=>(de (bo hr) (vN (K:=K) rfl (pv 1) rfl) (pv 0) (λ_ _=>rfl)))))),?_⟩;obtain⟨dx,h1⟩:=r.obj;have al:(b.fs.map (·.1)).length=l.cy.length:=by rw[Ya];exact(cZ r.fact).symm
 refine⟨_,rfl,l.h,C,dx,_,_,rfl,h1,u.cls,u.rm,rfl,l.fc,_,(b.fs.map (·.1)).map (λk:Nat=>(k:Int)),rfl,r.facts,OO al,by rw[Ya,Ya];exact tq fl,λns pm so p H1 np A hp=>?_⟩;obtain⟨cL,L,q2,q3⟩:=Zc_ X pm so;have jt:cL.length<=63:=by rw[L.length_eq];exact fl
 subst q3;have nl:(((cL.map (·.1)).map λk:Nat=>(k:Int)).map V.int).length=cL.length:=by rw[Ya,Ya,Ya]
 refine⟨p,rfl,⟨_,aq.of hp⟩,λD R=>?_⟩;refine xY (aq.of hp) QO R (λ_=>ar) (λi y m=>∃a c,cL[i]?=O c/\y=.ref a/\dF m b.ps a c/\dF H b.ps a c) (λi y m H3 br ⟨a,c,o,n,e3,G⟩=>⟨a,c,o,n,br _ _ e3 (λz=>by
   have:=A _ _ G;rw[z,R] at this;cases this),G⟩) (λi v d m T _ Kt Kf kt _=>mE (dk ?_)) λiH m T h2 c=>?_
 ·rw[Yi,Yi,Yi] at d;cases E:cL[i]? with
  |none=>rw[E] at d;cases d
  |some N=>
   rw[E] at d;obtain rfl:V.int (N.1:Int)=v:=Yo d;obtain⟨a,o,n⟩:=JB r.fact X (L.subset (Yj E));have J:=A.trans T;refine⟨_,rfl,l.h,C,dx,_,_,rfl,J _ _ h1,u.cls,u.rm,rfl,_,rfl,l.fc,.ref a,rfl,qb (J _ _ r.facts) o,kt _ m rfl (ag.refl _) ⟨a,N,E,rfl,J _ _ n,n⟩⟩
 ·rw[GN,nl] at c;obtain⟨j,ea,pa⟩:∃j:Z U,iH=j.map V.ref/\Paired (dF m b.ps) j cL:=by
   have W:∀{t:Z V} {Q:Z Nat} {gs:Z (Nat×Fc)},Paired (λy i=>∃a c,cL[i]?=O c/\y=.ref a/\dF m b.ps a c/\dF H b.ps a c) t Q->Q.map (λi=>cL[i]?)=gs.map O->∃j:Z U,t=j.map V.ref/\Paired (dF m b.ps) j gs:=by
    intro t Q gs c;induction c generalizing gs with
    |nil=>
     intro e;cases gs with
     |nil=>exact⟨[],rfl,.nil⟩
     |cons _ _=>cases e
    |cons f _ ih=>
     intro e;cases gs with
     |nil=>cases e
     |cons g gs=>
      obtain⟨a,N,o,n,e3,_⟩:=f;injection e with G e5;obtain⟨j,r1,r2⟩:=ih e5;exact⟨a::j,by rw[n,r1];rfl,.cons (by rwa[←Yo (o.symm.trans G)]) r2⟩
   refine W c (Ww λi=>?_);rw[Yi,Yi];by_cases d:i<cL.length;·rw[Mm d,Yc d];exact d6 O (Yc d)
   ·rw[Y4 (by rw[C9];exact fU d),Y4 (fU d)];rfl
  subst ea;exact q D j cL m (A.free R) (A.trans T) L q2 h2 pa
def Br(h:i<a.length):aw (a++[x]) i=aw a i:=by
 unfold aw
 grind
def IE(b:eZ n a.length c):bp (a++[x]) c=bp a c:=by
 unfold bp;by_cases e:c.k=bj;·grind
 ·rw[bt e,bt e,Br (b.iI e).1.2]
def ZgU(b:eZ n a.length c):eM (a++[x]) z c=eM a z c:=by
 unfold eM;rw[IE b,Br b.one]
def RS(b:eZ n a.length c):fV (a++[x]) c=fV a c:=by
 unfold fV;rw[IE b,Br b.one]
def ZgV(b:∀p∈fs,eZ n a.length p.2):fW (a++[x]) fs=fW a fs:=by
 exact W3 λp c=>by rw[RS (b p c)]
def RT(b:∀p∈fs,eZ n a.length p.2):cD (a++[x]) fs=cD a fs:=by
 exact W3 λp c=>by
  have o:=b p (Y5.mp c).1;rw[IE o,Br o.one]
def ZgW(a:bO)(n s:af):hV (a++[(n,s)])=hV a++[(.inr n,.str s)]:=Yp
def ZgX(a:bO)(x:af×af):js (a++[x])=js a++[(.inr x.1,.int (a.length:Int))]:=by
 unfold js
 grind
def Zfw(a:bO)(b:Z (Nat×Fc))(z:Nat)(c:Fc):fW a (b++[(z,c)])=fW a b++[(fV a c,.int (z:Int))]:=Yp
def Qw(h:cV c.k=ar):cD a (fs++[(z,c)])=cD a fs++[([.inr c.k,.inr (aw a c.one)],kV (bp a c))]:=by
 unfold cD
 grind
def Qx(h:cV c.k=a_):cD a (fs++[(z,c)])=cD a fs:=by
 unfold cD
 grind
def Bs(k:af):fD (.str k) (ji.map V.str)=cV k:=by
 show((("mother":af)==k)||((("father":af)==k)||a_))=(decide (k="mother")||decide (k="father"))
 grind
theorem Oh{c e d:Type}[DecidableEq e][DecidableEq d]{f:c->e}{g:c->d}:∀{b:Z c} {x:c},(b.map f).Nodup->(b.map g).Nodup->x∈b->b.filter (λy=>decide (f y≠f x))=b.filter (λy=>decide (g y≠g x)):=by
 intro b x l k j;have inj:∀{i:Type} {h:c->i},(b.map h).Nodup->∀y∈b,h y=h x->y=x:=by
  induction b with
  |nil=>cases j
  |cons a r m=>grind
 refine MG λy n=>?_
 grind
def Zfx(b:(fs.map (·.1)).Nodup)(d:(fs.map λp=>fV a p.2).Nodup)(m:(z,c)∈fs):iy (fW a fs) (fV a c)=fW a (dm z fs):=by
 unfold fW iy dm;rw[J3];exact d6 _ (Oh d b m)
def Zfy(d:(fs.map (·.1)).Nodup)(b:((cD a fs).map (·.1)).Nodup)(m:(z,c)∈fs)(h:cV c.k=ar):iy (cD a fs) [.inr c.k,.inr (aw a c.one)]=cD a (dm z fs):=by
 unfold cD at b⊢;rw[Y6] at b;unfold iy dm;rw[J3,J0];have e:=Oh b (d.sublist (List.filter_sublist.map _)) (Y5.mpr ⟨m,h⟩);rw[J0,J0] at e;rw[J0];exact d6 _ (e.trans (d6 (fs.filter ·) (funext λp=>Bool.and_comm _ _)))
theorem Zef(d:(fs.map (·.1)).Nodup)(m:(z,c)∈fs)(h:cV c.k=a_):cD g fs=cD g (dm z fs):=by
 unfold cD dm;rw[J0];refine d6 _ (MG λp i=>?_);by_cases e:p.1=z
 ·have:p=(z,c):=by
   have b:∀{fs:Z (Nat×Fc)},(fs.map (·.1)).Nodup->p∈fs->(z,c)∈fs->p=(z,c):=by
    induction fs with
    |nil=>grind
    |cons a r j=>grind
   exact b d i m
  grind
 ·grind
inductive Move(a d:Z Int)(H:Hp)(r:U)(b:BS):Int->BS->Prop
 |pin (n s:af) (g:H r=O (.tup [.str n,.str s])) (new:n∉b.ps.map (·.1)) (e:b.ps.length<64):Move a d H r b 1 {b with ps:=b.ps++[(n,s)]}
 |fin (z:Nat) (c:Fc) (g:dF H b.ps r (z,c)) (o:fN a d b.ps.length c) (i:z∉b.fs.map (·.1)) (k:fV b.ps c∉b.keys) (j:cV c.k=ar->[.inr c.k,.inr (aw b.ps c.one)]∉(cD b.ps b.fs).map (·.1)) (l:∃f,o_ a.length b.ps.length f/\∀h∈b.F++[c],gm f h) (e:b.fs.length<63):Move a d H r b 1 {b with fs:=b.fs++[(z,c)]}
 |wm (z:Nat) (c:Fc) (g:dF H b.ps r (z,c)) (m:(z,c)∈b.fs):Move a d H r b (-1) {b with fs:=dm z b.fs}
theorem Move.out{w:Int}(m:Move xs e H r b w b')(k:∀d,H r=O (.tup d)->j r=O (.tup d)):Move xs e j r b w b':=by
 cases m with
 |pin n s a new lim=>exact .pin n s (k _ a) new lim
 |fin z c a i g h np lv lim=>exact .fin z c (k _ a) i g h np lv lim
 |wm z c a m=>exact .wm z c (k _ a) m
theorem Move.Zjz{w:Int}(m:Move xs g H r b w k)(e d:Z Cn):Move xs g H r {b with dn:=e,un:=d} w {k with dn:=e,un:=d}:=by
 cases m with
 |pin n s a new lim=>exact .pin n s a new lim
 |fin z c a j h i np lv lim=>exact .fin z c a j h i np lv lim
 |wm z c a m=>exact .wm z c a m
inductive RU(C CL CJ:U)(e:Z V)(H:Hp)(Q:VK):Prop
 |mk (l:BL) (b:BS) (h g:Z Int) (d:U) (z:Nat) (c:Fc) (p:e=[.ref l.h,.ref d]) (o:bF H C CL CJ l h g b) (m:dF H b.ps d (z,c)) (i:z∉b.fs.map (·.1)) (k:fV b.ps c∉b.keys) (j:cV c.k=ar->[.inr c.k,.inr (aw b.ps c.one)]∉(cD b.ps b.fs).map (·.1)) (n:b.fs.length<=63)
   (q:∀a,Out [l.fc,l.kn,l.pr] H a->a l.fc=O (.dK (bG ((b.fs++[(z,c)]).map (·.1)) (l.cy++[d])))->a l.kn=O (.dT (fW b.ps (b.fs++[(z,c)])))->a l.pr=O (.dT (cD b.ps (b.fs++[(z,c)])))->Q .aC a):RU C CL CJ e H Q
def Tx(C CL CJ:U):Sp:=λa H Q _=>RU C CL CJ a H Q
inductive RV(C CL CJ:U)(h:Z V)(H:Hp)(Q:VK)(E:XK):Prop
 |mk (l:BL) (b g:BS) (c a:Z Int) (r:U) (j:h=[.ref l.h,.ref r]) (i:bF H C CL CJ l c a b) (ok:cE c a b) (mv:Move c a H r b 1 g) (q:∀(e:BL) (d:Hp),cC H d l e->bF d C CL CJ e c a g->Q .aC d)
inductive Pu(C CL CJ:U)(h:Z V)(H:Hp)(Q:VK)(E:XK):Prop
 |mk (l:BL) (b g:BS) (c a:Z Int) (r:U) (j:h=[.ref l.h,.ref r]) (i:bF H C CL CJ l c a b) (ok:cE c a b) (mv:Move c a H r b (-1) g) (q:∀(e:BL) (d:Hp),cC H d l e->bF d C CL CJ e c a g->Q .aC d)
inductive RW(C CL CJ:U)(i:Z V)(H:Hp)(Q:VK)(E:XK):Prop
 |mk (l:BL) (b h:BS) (c a:Z Int) (r:U) (w:Int) (g:Nat) (k:i=[.ref l.h,.int w,.ref r,.int (g:Int)]) (j:bF H C CL CJ l c a b) (ok:cE c a b) (mv:Move c a H r b w h) (q:∀(e:BL) (d:Hp),cC H d l e->bF d C CL CJ e c a {h with co:=g}->Q .aC d)
inductive A8(C CL CJ:U)(j:Z V)(H:Hp)(Q:VK)(E:XK):Prop
 |mk (l:BL) (b i:BS) (d c:Z Int) (r:U) (w:Int) (e:Nat) (a:Z Key) (n:j=[.ref l.h,.int w,.ref r,.int (e:Int)]) (m:bF H C CL CJ l d c b) (ok:cE d c b) (dl:b.dn.length<200) (k:H r=O (.tup (a.map kV))) (mv:Move d c H r b w i) (q:∀(h:BL) (g:Hp),cC H g l h->bF g C CL CJ h d c {i with co:=e,dn:=b.dn++[⟨w,a,b.co,e⟩],un:=[]}->Q .aC g)
def RX{c:Fc}(e:c.k="sibling"):∃b,bp a c=.inr b:=⟨_,ig (by rw[e];decide+kernel)⟩
abbrev ui:Z af:=["self","fact"]
abbrev VC:Z af:=["self","fact","number","kind","one","other"]
def xJ:aP VC ui (aJ Ew):=.aY
theorem ZgY(F:aM K "note_fact" "Hearth.note_fact" Ew f fd)(g:fQ K C)(jC:B "PARENTS"=O (.ref G))(qP:∀H,aB K H G (ji.map V.str))(pM:HasFn P w K B I 1 "fact_key" wj BY):aE P w K B I aL 2 f fd ui (Tx C CL CJ):=by
 refine F.o xJ λs H k h=>?_;obtain⟨l,b,xs,ys,D,z,c,rfl,d,hf,nz,nk,np,fl,q⟩:=h;refine⟨_,(aj (l9 (pv 1) (gc (K:=K) (n:=4) rfl rfl (bq (aV 2 xJ.nd) (bq (aV 3 xJ.nd) (bq (aV 4 xJ.nd) (bq (aV 5 xJ.nd) f_)))))) (aj (lX (bo k) (pF K 0) (pv 2) (pv 1)) (aj (Pb (bo k) (pF K 0) (aZ pM k (aa (pv 3) (aa (pv 4) (aa (pv 5) ae)))) (pv 2)) (av (aU (fK (k9 (K:=K) rfl) (pv 3) (dq (v:=.ref G) rfl jC rfl) QU) (av (Pb (bo k) (pF K 0) (c5 (aa (pv 3) (aa (pv 4) ae))) (pv 5))) a8))))),?_⟩;refine l5 ?_;intros;obtain⟨E,i⟩:=d.obj;have sz:(10000:Nat)<=sizeLine:=by rw[dg];decide
 have al:(b.fs.map (·.1)).length=l.cy.length:=by rw[Ya];exact(cZ d.fact).symm
 have DH:l.h≠l.fc:=eF i d.facts (λz=>by cases z);have x:l.h≠l.kn:=eF i d.known (λz=>by cases z);have X:l.kn≠l.fc:=eF d.known d.facts (λz=>by cases z);have Q:l.pr≠l.fc:=eF d.parents d.facts (λz=>by cases z);have X0:l.pr≠l.kn:=λe=>by
  have:=d.nd;unfold BL.own at this;simp[e] at this
 refine⟨_,rfl,D,_,rfl,aB.of hf,rfl,_,_,rfl,aQ ⟨_,_,rfl,aQ ⟨_,_,rfl,aQ ⟨_,_,rfl,aQ ⟨rfl,?_⟩⟩⟩⟩⟩;refine⟨_,rfl,_,rfl,l.h,C,E,_,_,rfl,i,g.cls,g.rm,rfl,_,rfl,l.fc,_,.inl (z:Int),rfl,d.facts,rfl,by unfold bG;rw[Ya,Jr,Ya];omega,λH1 L T=>?_⟩;have vz:aH (bG (b.fs.map (·.1)) l.cy) (.inl (z:Int))=aF:=AR nz;rw[iZ _ vz,AE z D al] at T;refine⟨_,rfl,_,rfl,l.h,C,E,_,_,rfl,L _ _ i DH,g.cls,g.Bo,rfl,_,rfl,_,rfl,_,rfl,c.k,aw b.ps c.one,bp b.ps c,rfl,λe=>RX e,λp H2 wW A dM=>?_⟩;refine⟨l.kn,p,_,fV b.ps c,rfl,A _ _ (L _ _ d.known X),rfl,dM,by unfold fW;rw[Ya];omega,λu W j=>?_⟩;have vk:aH (fW b.ps b.fs) (fV b.ps c)=aF:=oj (by
  have:(fW b.ps b.fs).map (·.1)=b.keys:=by unfold fW BS.keys;rw[Y6];rfl
  rw[this];exact nk)
 rw[iZ _ vk] at j
 replace j:u l.kn=O (.dT (fW b.ps (b.fs++[(z,c)]))):=by rw[Zfw];exact j
 have y:∀{a:U} {o:HO},H a=O o->a≠l.fc->a≠l.kn->u a=O o:=λ{a o} e n1 n2=>W _ _ (A _ _ (L _ _ e n1)) n2;have R:u l.fc=O (.dK (bG ((b.fs++[(z,c)]).map (·.1)) (l.cy++[D]))):=by
  have:=W _ _ (A _ _ T) (λz=>X z.symm);rw[this,Yp];rfl
 have N:=y d.parents Q X0;refine⟨_,rfl,G,_,rfl,.inr (qP _),rfl,rfl,_,rfl,?_⟩;dsimp only;rw[bt Yq,show fD (kV (Sum.inr c.k)) (ji.map V.str)=cV c.k from Bs c.k];refine bA (λt=>?_) (λt=>aW ?_)
 ·refine⟨_,rfl,_,rfl,l.h,C,E,_,_,rfl,y i DH x,g.cls,g.vH,rfl,_,rfl,_,rfl,by show 2<=sizeLine;decide,λp4 H4 np4 m Nd=>?_⟩;refine⟨l.pr,p4,_,[.inr c.k,.inr (aw b.ps c.one)],rfl,m _ _ N,rfl,Nd,?_,λH5 J r=>?_⟩
  ·unfold cD;rw[Ya];have:=Wj (λp:Nat×Fc=>cV p.2.k) b.fs;omega
  have vp:aH (cD b.ps b.fs) [.inr c.k,.inr (aw b.ps c.one)]=aF:=oj (np t);rw[iZ _ vp] at r
  replace r:H5 l.pr=O (.dT (cD b.ps (b.fs++[(z,c)]))):=by rw[Qw t];exact r
  refine q H5 (λa o e n=>?_) (J _ _ (m _ _ R) (λz=>Q z.symm)) (J _ _ (m _ _ j) (λz=>X0 z.symm)) r;simp only[Ys,Y1,gV,iP] at n;exact J _ _ (m _ _ (y e n.1 n.2.1)) n.2.2
 ·have ef:cV c.k=a_:=by
   cases e:cV c.k with
   |true=>exact absurd e t
   |false=>rfl
  refine q u (λa o e n=>?_) R j (by rw[Qx ef];exact N)
  grind
theorem Tz{l:BL}{H g:Hp}{c d:JL}(i:l.e_=c.fp)(o:Out l.own H g)(h:eX c.fp d.fp g):eX l.fp ({l with e_:=d.fp}:BL).fp H:=λa z=>by
 rcases Ym.mp (z) with q|q;·exact .inl (Yk _ q)
 ·rcases h a q with m|m;·exact .inl (Yl _ (by rwa[i]))
  ·by_cases b:a∈l.own;·exact .inl (Yk _ b)
   ·right
    cases e:H a with
    |none=>rfl
    |some u=>rw[o _ _ e b] at m;cases m
def UL{l:BL}{b:JL}(d:l.e_=b.fp)(o:Out l.own H H1)(c:Out b.fp H1 H2):Out l.fp H H2:=λa u e n=>c _ _ (o _ _ e λz=>n (Yk _ z)) λz=>n (Yl _ (by rwa[d]))
def tH{l:BL}(o:Out l.own H H1):Out l.fp H H1:=λa u e n=>o _ _ e λz=>n (Yk _ z)
abbrev wo:Z af:=["self","row"]
def EI:aP ["self","row","name","side"] wo (aJ ER):=.aY
theorem Zeg(F:aM K "put_in" "Hearth.put_in" ER f fd)(i:fQ K C)(ve:HasFn P w K B I 1 "is_person" jR (Hd K))(vg:cO P w K B I 2 "add" CJ jM (KP CJ))(Ex:cO P w K B I 2 "note_fact" C ui (Tx C CL CJ))(vh:HasFn P w K B I 6 "keep_fact" uh (I_ CL CJ))(bl:Bl B):aE P w K B I aL 8 f fd wo (RV C CL CJ):=by
 refine F.o EI @λbL A outer vs Q E s H hr h=>?_;obtain⟨l,b,b',N,ys,r,rfl,d,ok,mv,q⟩:=h;refine⟨_,(av (aU (eP (aZ ve hr (aa (pv 1) ae))) (aj (l9 (pv 1) (gc (K:=K) (n:=2) rfl rfl (bq (aV 2 EI.nd) (bq (aV 3 EI.nd) f_)))) (aj (lX (bo hr) (pF K 0) (pv 2) (fJ (ZcO) rfl bl.rE rB (aa (pF K 0) ae))) (aj (lX (bo hr) (pF K 0) (pv 2) (pv 3)) (av (aU (bH Bc (pF K 0) kJ) (av (bZ (yC vg hr (by decide) (pF K 0)))) a8))))) (aj (bZ (dh Ex hr (by decide) (pv 0) (aa (pv 1) ae))) (av (aU (bH Bc (pF K 0) kJ) (av (bZ (aZ vh hr (aa (pF K 0) (aa (pF K 0) (aa (pF K 0) (aa (pv 1) ae))))))) a8))))),?_⟩;obtain⟨D,h1⟩:=d.obj;have sz:(10000:Nat)<=sizeLine:=by rw[dg];decide
 have nd:=d.nd;unfold BL.own at nd;have X1:=nd;simp only[Y2,Ys,Y1,gV,iP] at X1;obtain⟨⟨nW,cj,jv,nX,qI,ph,qJ⟩,⟨zV,uK,uL,uM,w8,w_⟩,⟨sf,uN,uO,xf,xg⟩,_⟩:=X1;have uj:∀p∈b.fs,eZ N.length b.ps.length p.2:=λp hp=>(ok.fg p hp).ok;cases mv with
 |pin n s hR new lim=>
  refine⟨_,rfl,r,_,rfl,aB.of hR,_,rfl,dk ?_⟩;refine l5 ?_;intros;refine⟨_,rfl,r,_,rfl,aB.of hR,rfl,_,_,rfl,aQ ⟨_,_,rfl,aQ ⟨rfl,?_⟩⟩⟩;have kl:(hV b.ps).length=b.ps.length:=Ya _;have pl':(js b.ps).length=b.ps.length:=by unfold js;rw[Ya,List.length_zipIdx]
  refine⟨_,rfl,l.h,C,D,_,_,rfl,h1,i.cls,i.tE,rfl,l.sd,_,rfl,d.dy,_,rfl,l.h,C,D,_,_,rfl,h1,i.cls,i.qZ,rfl,_,rfl,l.pl,_,.inr n,rfl,d.places,rfl,QO,λH1 b1 e1=>?_⟩;have ZjA:(js b.ps).map (·.1)=b.ps.map λp=>(.inr p.1:Key):=by
   unfold js;rw[Y6];have:(λp:(af×af)×Nat=>((.inr p.1.1:Key),V.int (p.2:Int)).1)=(λp:af×af=>(.inr p.1:Key))∘Prod.fst:=rfl;show b.ps.zipIdx.map (λp:(af×af)×Nat=>((.inr p.1.1:Key),V.int (p.2:Int)).1)=_;rw[this,←Y6,List.zipIdx_map_fst]
  have VD:∀{ks:Z Key},ks=(b.ps.map λp=>(.inr p.1:Key))->(.inr n:Key)∉ks:=λ{ks} e z=>by
   rw[e] at z;obtain⟨p,hp,ep⟩:=Yf.mp z;exact new (Yf.mpr ⟨p,hp,Wb ep⟩)
  have vp:aH (js b.ps) (.inr n)=aF:=oj (VD ZjA);have vs':aH (hV b.ps) (.inr n)=aF:=oj (VD (by show(b.ps.map _).map _=_;rw[Y6];rfl));rw[iZ _ vp,kl] at e1;refine⟨_,rfl,_,rfl,l.h,C,D,_,_,rfl,b1 _ _ h1 cj,i.cls,i.tE,rfl,_,rfl,l.sd,_,.inr n,rfl,b1 _ _ d.dy zV,rfl,QO,λH2 b2 e2=>?_⟩;rw[iZ _ vs'] at e2;have j:∀{a:U} {o:HO},H a=O o->a≠l.pl->a≠l.sd->H2 a=O o:=λ{a o} e n1 n2=>b2 _ _ (b1 _ _ e n1) n2;have J:Out l.own H H2:=λa u e na=>j e (λz=>na (by rw[z];simp[BL.own])) (λz=>na (by rw[z];simp[BL.own]));have s2:H2 l.sd=O (.dK (hV (b.ps++[(n,s)]))):=by rw[ZgW];exact e2
  have p2:H2 l.pl=O (.dK (js (b.ps++[(n,s)]))):=by rw[ZgX];exact b2 _ _ e1 (λz=>zV z.symm)
  have R:=j h1 cj nW;have tp:∀{a:U} {G:Z V} {H3:Hp},Out l.fp H H3->H a=O (.tup G)->H3 a=O (.tup G):=λo e=>o _ _ e (d.tup e);have mk:∀(x:BL) (H3:Hp),x={l with e_:=x.e_}->Out l.fp H H3->eX l.fp x.fp H->(∀a u,H2 a=O u->a∈l.own->H3 a=O u)->ug H3 CJ N.length x {b with ps:=b.ps++[(n,s)]}->Q .aC H3:=λx H3 t o g k rk=>by
   refine q x H3 ⟨by rw[t],o,g⟩ ?_;refine d.build (l':=x) (b':={b with ps:=b.ps++[(n,s)]}) (by rw[t]) (by rw[t]) (by rw[t]) (by rw[t]) (by rw[t]) (by rw[t]) (by rw[t]) (by rw[t]) (by rw[t]) o g ⟨D,?_⟩ (k _ _ s2 (by simp[BL.own])) (k _ _ p2 (by simp[BL.own])) ?_ ?_ ?_ ?_ ?_ ?_ ?_ ?_ rk
   ·have:x.rk=l.rk:=by rw[t]
    rw[this];exact k _ _ R (by simp[BL.own])
   ·have:x.cy=l.cy:=by rw[t]
    rw[this];exact k _ _ (j d.facts (λz=>sf z.symm) (λz=>uK z.symm)) (by simp[BL.own])
   ·have:x.cy=l.cy:=by rw[t]
    rw[this];have aux:∀{as:Z U} {fs:Z (Nat×Fc)},Paired (λa (p:Nat×Fc)=>H a=O (.tup ((eM b.ps p.1 p.2).map kV))) as fs->(∀p∈fs,eZ N.length b.ps.length p.2)->Paired (λa (p:Nat×Fc)=>H3 a=O (.tup ((eM (b.ps++[(n,s)]) p.1 p.2).map kV))) as fs:=by
     intro as fs pr;induction pr with
     |nil=>intro _;exact .nil
     |cons f _ ih=>intro m;exact .cons (by rw[ZgU (m _ Yg)];exact tp o f) (ih λp hp=>m p (Yw _ hp))
    exact aux d.fact uj
   ·show H3 l.kn=O (.dT (fW (b.ps++[(n,s)]) b.fs));rw[ZgV uj];exact k _ _ (j d.known (λz=>uN z.symm) (λz=>uL z.symm)) (by simp[BL.own])
   ·show H3 l.pr=O (.dT (cD (b.ps++[(n,s)]) b.fs));rw[RT uj];exact k _ _ (j d.parents (λz=>uO z.symm) (λz=>uM z.symm)) (by simp[BL.own])
   ·have:x.iV=l.iV:=by rw[t]
    rw[this];exact k _ _ (j d.done (λz=>xf z.symm) (λz=>w8 z.symm)) (by simp[BL.own])
   ·have:x.iV=l.iV:=by rw[t]
    rw[this];exact L2.Paired.bu d.mH λ_ _ e=>e.out o λa G e=>d.tup e
   ·have:x.lL=l.lL:=by rw[t]
    rw[this];exact k _ _ (j d.i_ (λz=>xg z.symm) (λz=>w_ z.symm)) (by simp[BL.own])
   ·have:x.lL=l.lL:=by rw[t]
    rw[this];exact L2.Paired.bu d.oG λ_ _ e=>e.out o λa G e=>d.tup e
  cases hj:d.tX with
  |no L W=>
   rw[L] at R;refine⟨_,rfl,l.h,C,D,_,_,rfl,R,i.cls,i.iY,rfl,rfl,_,rfl,bV (aW ?_)⟩;exact mk l H2 rfl (tH J) (eX.refl _ _) (λ_ _ e _=>e) (.no L W)
  |at_ jl st L W ja X len hZ=>
   have T:=R;rw[L] at T;have DI:=ja.iN J hZ (d.Kk ja X) λa G e z=>d.tup e (Yk _ z);obtain⟨dj,ej⟩:=DI.obj;have wf:=X.wf;have ml:=wf.Tp;have zS:=wf.BX;have n8:N.length<=8:=ok.gd.2.2.2.2;refine⟨_,rfl,l.h,C,D,_,_,rfl,T,i.cls,i.iY,rfl,rfl,_,rfl,dk ?_⟩;refine⟨_,rfl,l.h,C,D,_,_,rfl,T,i.cls,i.iY,rfl,jl.J,dj,_,rfl,ej,rfl,jl,st,N.length,rfl,DI,(eL n8 (by decide)),QO,ml,zS,wf.ll,λz=>Wi _ (wf.lm _ z),λz=>Wi _ (wf.lf _ z),λiJ H3 k1 o3 gr Nf=>?_⟩;refine mk {l with e_:=iJ.fp} H3 rfl (UL W J o3) (Tz W J gr) (λa u e m=>o3 _ _ e (hZ a m)) ?_;refine .at_ iJ _ (by rw[k1];exact L) rfl Nf (X.more (by have:=ok.gd.2.2.2.1;omega)) ?_ λa m z=>?_;·rw[jD,len,Ye];rfl
   ·rcases gr a z with y|y;·exact hZ a m y
    ·have:=d.there (a:=a) (Yk _ m);have:H2 a≠aF:=by
      have m':a∈l.own:=m;unfold BL.own at m';simp only[Ys,Y1,gV] at m';rcases m' with rfl|rfl|rfl|rfl|rfl|rfl|rfl|rfl;·rw[R];exact λz=>nomatch z
      ·rw[s2];exact λz=>nomatch z
      ·rw[p2];exact λz=>nomatch z
      ·rw[j d.facts (λz=>sf z.symm) (λz=>uK z.symm)];exact λz=>nomatch z
      ·rw[j d.known (λz=>uN z.symm) (λz=>uL z.symm)];exact λz=>nomatch z
      ·rw[j d.parents (λz=>uO z.symm) (λz=>uM z.symm)];exact λz=>nomatch z
      ·rw[j d.done (λz=>xf z.symm) (λz=>w8 z.symm)];exact λz=>nomatch z
      ·rw[j d.i_ (λz=>xg z.symm) (λz=>w_ z.symm)];exact λz=>nomatch z
     exact this y
 |fin z c hR fg nz nk np lv lim=>
  refine⟨_,rfl,r,_,rfl,aB.of hR,_,rfl,bV ?_⟩;refine hP ?_;intros;refine⟨_,rfl,l.h,D,_,rfl,h1,rfl,_,rfl,l,b,N,ys,r,z,c,rfl,d,hR,nz,nk,np,(tr lim),λH1 o1 f1 k1 p1=>?_⟩;have j:∀{a:U} {o:HO},H a=O o->a≠l.fc->a≠l.kn->a≠l.pr->H1 a=O o:=λ{a o} e n1 n2 n3=>o1 _ _ e (by simp[n1,n2,n3]);have J:Out l.own H H1:=λa u e na=>j e (λz=>na (by rw[z];simp[BL.own])) (λz=>na (by rw[z];simp[BL.own])) (λz=>na (by rw[z];simp[BL.own]));have R:=j h1 jv nX qI;have X2:=nd;simp only[Y2,Ys,Y1,gV,iP] at X2;obtain⟨_,_,_,⟨zW,zX,xh,kO⟩,⟨DJ,zY,zZ⟩,⟨z4,z5⟩,_⟩:=X2;have s2:=j d.dy uK uL uM;have p2:=j d.places sf uN uO;have d2:=j d.done (λz=>xh z.symm) (λz=>zY z.symm) (λz=>z4 z.symm);have u2:=j d.i_ (λz=>kO z.symm) (λz=>zZ z.symm) (λz=>z5 z.symm);have tp:∀{a:U} {G:Z V} {H3:Hp},Out l.fp H H3->H a=O (.tup G)->H3 a=O (.tup G):=λo e=>o _ _ e (d.tup e);have mk:∀(jf:Z U) (H3:Hp),Out l.fp H H3->eX l.fp ({l with cy:=l.cy++[r],e_:=jf}:BL).fp H->(∀a u,H1 a=O u->a∈l.own->H3 a=O u)->ug H3 CJ N.length {l with cy:=l.cy++[r],e_:=jf} {b with fs:=b.fs++[(z,c)]}->Q .aC H3:=λjf H3 o g k rk=>by
   refine q {l with cy:=l.cy++[r],e_:=jf} H3 ⟨rfl,o,g⟩ ?_;refine d.build (l':={l with cy:=l.cy++[r],e_:=jf}) (b':={b with fs:=b.fs++[(z,c)]}) rfl rfl rfl rfl rfl rfl rfl rfl rfl o g ⟨D,k _ _ R (by simp[BL.own])⟩ (k _ _ s2 (by simp[BL.own])) (k _ _ p2 (by simp[BL.own])) (k _ _ f1 (by simp[BL.own])) ?_ (k _ _ k1 (by simp[BL.own])) (k _ _ p1 (by simp[BL.own])) (k _ _ d2 (by simp[BL.own])) (L2.Paired.bu d.mH λ_ _ e=>e.out o λa G e=>d.tup e) (k _ _ u2 (by simp[BL.own])) (L2.Paired.bu d.oG λ_ _ e=>e.out o λa G e=>d.tup e) rk;exact jB (F:=λa (p:Nat×Fc)=>H3 a=O (.tup ((eM b.ps p.1 p.2).map kV))) (tp o hR) (L2.Paired.bu d.fact λ_ _ e=>tp o e)
  cases hj:d.tX with
  |no L W=>
   rw[L] at R;refine⟨_,rfl,l.h,C,D,_,_,rfl,R,i.cls,i.iY,rfl,rfl,_,rfl,bV (aW ?_)⟩;exact mk l.e_ H1 (tH J) (eX.refl _ _) (λ_ _ e _=>e) (.no L W)
  |at_ jl st L W ja X len hZ=>
   have T:=R;rw[L] at T;have DI:=ja.iN J hZ (d.Kk ja X) λa G e z=>d.tup e (Yk _ z);have la2:i8 H1 CL l.L N ys:=d.land H1 (tH J);refine⟨_,rfl,l.h,C,D,_,_,rfl,T,i.cls,i.iY,rfl,rfl,_,rfl,dk ?_⟩;refine⟨_,rfl,l.h,C,D,_,_,rfl,T,i.cls,i.iY,rfl,_,rfl,l.h,C,D,_,_,rfl,T,i.cls,i.vU,rfl,_,rfl,l.h,C,D,_,_,rfl,T,i.cls,i.qZ,rfl,_,rfl,jl,st,l.L,l.pl,r,N,ys,b.ps,b.F,z,c,rfl,DI,X,la2,ok.gd,p2,ok.nm,len,by have:=ok.m;omega,tp (tH J) hR,fg,?_,λv iJ aO H3 e1 sub o3 Nf me3 Zku=>?_⟩
   ·obtain⟨f0,i0,s0⟩:=lv;exact⟨f0,(X.iff f0).mpr ⟨by rw[len];exact i0,λc' m'=>s0 c' (Yk _ m')⟩,s0 c (Yl _ Yg)⟩
   have gr:eX jl.fp iJ.fp H1:=λa z=>.inl (sub a z);refine mk iJ.fp H3 (UL W J o3) (Tz W J gr) (λa u e m=>o3 _ _ e (hZ a m)) ?_;refine .at_ iJ aO (by rw[e1];exact L) rfl Nf ?_ (by rw[Zku];exact len) λa m z=>hZ a m (sub a z);show fw N.length aO ((b.fs++[(z,c)]).map (·.2));rw[Yp];exact me3
def Qy{l b:BL}(d:b.own=l.own)(c:b.e_=[]):eX l.fp b.fp H:=λa z=>.inl (by
 unfold BL.fp at z;rw[d,c,Y8] at z;exact Yk _ z)
def xK:aP ["self","row","number","kind","one","other"] wo (aJ EA):=.aY
theorem Zce(F:aM K "take_out" "Hearth.take_out" EA f fd)(g:fQ K C)(jC:B "PARENTS"=O (.ref dP))(qP:∀H,aB K H dP (ji.map V.str))(ve:HasFn P w K B I 1 "is_person" jR (Hd K))(pM:HasFn P w K B I 1 "fact_key" wj BY):aE P w K B I aL 2 f fd wo (Pu C CL CJ):=by
 refine F.o xK @λbL A outer vs Q E s H W h=>?_;obtain⟨l,b,b',xs,ys,r,rfl,d,ok,mv,q⟩:=h;refine⟨_,(aj (aU (eP (aZ ve W (aa (pv 1) ae))) gH (aj (l9 (pv 1) (gc (K:=K) (n:=4) rfl rfl (bq (aV 2 xK.nd) (bq (aV 3 xK.nd) (bq (aV 4 xK.nd) (bq (aV 5 xK.nd) f_)))))) (aj (Zfa (pF K 0) (pv 2)) (aj (Qd (bo W) (pF K 0) (aZ pM W (aa (pv 3) (aa (pv 4) (aa (pv 5) ae))))) (av (aU (fK (k9 (K:=K) rfl) (pv 3) (dq (v:=.ref dP) rfl jC rfl) QU) (av (Qd (bo W) (pF K 0) (c5 (aa (pv 3) (aa (pv 4) ae))))) a8)))))) (av (ik (K:=K) rfl (pv 0) kJ))),?_⟩;refine hP ?_;intros;obtain⟨k,J⟩:=d.obj;have sz:(10000:Nat)<=sizeLine:=by rw[dg];decide
 have nd:=d.nd;unfold BL.own at nd;simp only[Y2,Ys,Y1,gV,iP] at nd;obtain⟨⟨nW,cj,G,T,qI,ph,qJ⟩,⟨zV,uK,uL,uM,w8,w_⟩,⟨sf,uN,uO,xf,xg⟩,⟨zW,zX,xh,kO⟩,⟨DJ,zY,zZ⟩,⟨z4,z5⟩,_⟩:=nd;cases mv with
 |wm z c hR m=>
  have al:(b.fs.map (·.1)).length=l.cy.length:=by rw[Ya];exact(cZ d.fact).symm
  obtain⟨fa,DK,_⟩:=JB (H:=H) (ps:=b.ps) d.fact ok.zs m;have ZjB:(fW b.ps b.fs).map (·.1)=b.keys:=by unfold fW BS.keys;rw[Y6];rfl
  refine⟨_,rfl,r,_,rfl,aB.of hR,_,rfl,bV ?_⟩;refine⟨_,rfl,r,_,rfl,aB.of hR,rfl,_,_,rfl,aQ ⟨_,_,rfl,aQ ⟨_,_,rfl,aQ ⟨_,_,rfl,aQ ⟨rfl,?_⟩⟩⟩⟩⟩;refine⟨_,rfl,l.h,C,k,_,_,rfl,J,g.cls,g.rm,rfl,_,rfl,l.fc,_,.inl (z:Int),rfl,d.facts,rfl,by rw[DK];rfl,λH1 b1 e1=>?_⟩;rw[AF z al,←pS] at e1;refine⟨_,rfl,l.h,C,k,_,_,rfl,b1 _ _ J G,g.cls,g.Bo,rfl,_,rfl,_,rfl,_,rfl,c.k,aw b.ps c.one,bp b.ps c,rfl,λe=>RX e,λp H2 wW g2 dM=>?_⟩;refine⟨l.kn,p,_,fV b.ps c,rfl,g2 _ _ (b1 _ _ d.known (λz=>zW z.symm)),rfl,dM,(A7 _ _).mpr (by rw[ZjB];exact Yf.mpr ⟨_,m,rfl⟩),λH3 b3 e3=>?_⟩;rw[Zfx ok.zs ok.ky m] at e3;have D:∀{a:U} {o:HO},H a=O o->a≠l.fc->a≠l.kn->H3 a=O o:=λ{a o} e n1 n2=>b3 _ _ (g2 _ _ (b1 _ _ e n1)) n2;have ef3:=b3 _ _ (g2 _ _ e1) zW;have zU:=D d.parents (λz=>zX z.symm) (λz=>DJ z.symm);have i:∀t,(∀{a:U} {o:HO},H3 a=O o->a≠l.pr->t a=O o)->t l.pr=O (.dT (cD b.ps (dm z b.fs)))->∀H6,aA l.h t H6->H6 l.h=O (.ins C k (HF l.L l.sd l.pl l.fc l.kn l.pr (b.co:Int) l.dn l.un .aC))->Q .aC H6:=λt x X H6 j L=>by
   have y:∀{a:U} {o:HO},H a=O o->a≠l.fc->a≠l.kn->a≠l.pr->a≠l.h->H6 a=O o:=λ{a o} e n1 n2 n3 n4=>j _ _ (x (D e n1 n2) n3) n4;have o6:Out l.own H H6:=λa u e R=>y e (λz=>R (by rw[z];simp[BL.own])) (λz=>R (by rw[z];simp[BL.own])) (λz=>R (by rw[z];simp[BL.own])) (λz=>R (by rw[z];simp[BL.own]));have of:=tH o6;have tp:∀{a:U} {N:Z V},H a=O (.tup N)->H6 a=O (.tup N):=λe=>of _ _ e (d.tup e);refine q {l with rk:=.aC,e_:=[],cy:=d9 (b.fs.map (·.1)) l.cy z} H6 ⟨rfl,of,Qy rfl rfl⟩ ?_;exact d.build (l':={l with rk:=.aC,e_:=[],cy:=d9 (b.fs.map (·.1)) l.cy z}) (b':={b with fs:=dm z b.fs}) rfl rfl rfl rfl rfl rfl rfl rfl rfl of (Qy rfl rfl) ⟨k,L⟩ (y d.dy uK uL uM (λz=>nW z.symm)) (y d.places sf uN uO (λz=>cj z.symm)) (j _ _ (x ef3 zX) (λz=>G z.symm)) (G9 d.fact λa p e _ _=>tp e) (j _ _ (x e3 DJ) (λz=>T z.symm)) (j _ _ X (λz=>qI z.symm)) (y d.done (λz=>xh z.symm) (λz=>zY z.symm) (λz=>z4 z.symm) (λz=>ph z.symm)) (L2.Paired.bu d.mH λ_ _ e=>e.out of λa N e=>d.tup e) (y d.i_ (λz=>kO z.symm) (λz=>zZ z.symm) (λz=>z5 z.symm) (λz=>qJ z.symm)) (L2.Paired.bu d.oG λ_ _ e=>e.out of λa N e=>d.tup e) (.no rfl rfl)
  refine⟨_,rfl,dP,_,rfl,.inr (qP _),rfl,rfl,_,rfl,?_⟩;dsimp only;rw[bt Yq,show fD (kV (Sum.inr c.k)) (ji.map V.str)=cV c.k from Bs c.k];refine bA (λcc=>?_) (λcc=>aW ?_)
  ·refine⟨_,rfl,l.h,C,k,_,_,rfl,D J G T,g.cls,g.vH,rfl,_,rfl,_,rfl,by show 2<=sizeLine;decide,λp4 H4 np4 g4 Nd=>?_⟩;refine⟨l.pr,p4,_,[.inr c.k,.inr (aw b.ps c.one)],rfl,g4 _ _ zU,rfl,Nd,(A7 _ _).mpr ?_,λt b5 X=>?_⟩
   ·unfold cD;rw[Y6];exact Yf.mpr ⟨(z,c),Y5.mpr ⟨m,cc⟩,rfl⟩
   rw[Zfy ok.zs ok.pr m cc] at X;have x:∀{a:U} {o:HO},H3 a=O o->a≠l.pr->t a=O o:=λ{a o} e n=>b5 _ _ (g4 _ _ e) n;refine⟨_,rfl,l.h,C,k,_,rfl,x (D J G T) qI,g.cls,g.iY,by show 10<1000;decide,λH6 j L=>?_⟩;exact i t x X H6 j L
  ·have ef:cV c.k=a_:=by
    cases e:cV c.k with
    |true=>exact absurd e cc
    |false=>rfl
   refine⟨_,rfl,l.h,C,k,_,rfl,D J G T,g.cls,g.iY,by show 10<1000;decide,λH6 j L=>?_⟩;exact i H3 (λe _=>e) (by rw[←Zef ok.zs m ef];exact zU) H6 j L
abbrev oN:Z af:=["self","way","row","coming"]
def Zao:aP oN oN (aJ E9):=.aY
def Zfz(F:aM K "shift" "Hearth.shift" E9 f fd)(x:fQ K C)(pU:B "PUT_IN"=O (.int 1 t1))(EW:cO P w K B I 8 "put_in" C wo (RV C CL CJ))(EC:cO P w K B I 2 "take_out" C wo (Pu C CL CJ)):aE P w K B I aL 9 f fd oN (RW C CL CJ):=by
 refine F.o Zao @λbL A D vs Q E s H W h=>?_;obtain⟨l,b,n,t,p,r,N,J,rfl,L,ok,mv,q⟩:=h;refine⟨_,(aj (aU (bH cq (pv 1) (dq (v:=.int (1)) rfl pU ⟨_,rfl⟩)) (av (bZ (dh EW W (by decide) (pv 0) (aa (pv 2) ae)))) (av (bZ (dh EC W (by decide) (pv 0) (aa (pv 2) ae))))) (av (ik (K:=K) rfl (pv 0) (pv 3)))),?_⟩;refine hP ?_;intros;obtain⟨dx,X⟩:=L.obj;have T:∀(c:BL) (g:Hp),cC H g l c->bF g C CL CJ c t p n->∀(i:U) (H2:Hp),g c.h=O (.ins C i (HF c.L c.sd c.pl c.fc c.kn c.pr (n.co:Int) c.dn c.un c.rk))->aA c.h g H2->H2 c.h=O (.ins C i (HF c.L c.sd c.pl c.fc c.kn c.pr (J:Int) c.dn c.un c.rk))->Q .aC H2:=λc g m d i H2 o j e2=>by
  have G:=d.nd;unfold BL.own at G;simp only[Y2,Ys,Y1,gV,iP] at G;obtain⟨⟨nW,cj,jv,nX,qI,ph,qJ⟩,_⟩:=G;have R:Out c.own g H2:=λa u e na=>j _ _ e (λz=>na (by rw[z];simp[BL.own]));have of:=tH R;have sh:=(d.owned (b':={n with co:=J}) rfl rfl rfl rfl rfl rfl rfl rfl rfl (.inl ⟨rfl,rfl,rfl,rfl⟩) R ⟨i,e2⟩ (j _ _ d.dy (λz=>nW z.symm)) (j _ _ d.places (λz=>cj z.symm)) (j _ _ d.facts (λz=>jv z.symm)) (L2.Paired.bu d.fact λ_ _ e=>(λe=>of _ _ e (d.tup e)) e) (j _ _ d.known (λz=>nX z.symm)) (j _ _ d.parents (λz=>qI z.symm)) (j _ _ d.done (λz=>ph z.symm)) (L2.Paired.bu d.mH λ_ _ e=>e.out of λ a us=>d.tup) (j _ _ d.i_ (λz=>qJ z.symm)) (L2.Paired.bu d.oG λ_ _ e=>e.out of λa us e=>d.tup e)).1;exact q c H2 (m.trans ⟨rfl,of,eX.refl _ _⟩) sh
 have go:∀(c:BL) (g:Hp),cC H g l c->bF g C CL CJ c t p n->∃i,g l.h=O (.ins C i (HF c.L c.sd c.pl c.fc c.kn c.pr (n.co:Int) c.dn c.un c.rk))/\∀H2,aA l.h g H2->H2 l.h=O (.ins C i (HF c.L c.sd c.pl c.fc c.kn c.pr (J:Int) c.dn c.un c.rk))->Q .aC H2:=λc g m d=>by
  obtain⟨i,o⟩:=d.obj;have eh:=m.h
  grind
 have y:N=1\/N=-1:=by cases mv<;>first|exact .inl rfl|exact .inr rfl
 rcases y with rfl|rfl
 ·refine⟨_,rfl,rfl,_,rfl,dk ?_⟩;refine⟨_,rfl,l.h,dx,_,rfl,X,rfl,_,rfl,l,b,n,t,p,r,rfl,L,ok,mv,λc g m d=>?_⟩;obtain⟨i,o,k⟩:=go c g m d;exact⟨_,rfl,_,rfl,l.h,C,i,_,rfl,o,x.cls,x.q0,by show 10<1000;decide,k⟩
 ·refine⟨_,rfl,rfl,_,rfl,bV ?_⟩;refine⟨_,rfl,l.h,dx,_,rfl,X,rfl,_,rfl,l,b,n,t,p,r,rfl,L,ok,mv,λc g m d=>?_⟩;obtain⟨i,o,k⟩:=go c g m d;exact⟨_,rfl,_,rfl,l.h,C,i,_,rfl,o,x.cls,x.q0,by show 10<1000;decide,k⟩
def Z8:aP oN oN (aJ EG):=.aY
def Zdb(F:aM K "do_deed" "Hearth.do_deed" EG f fd)(g:fQ K C)(Fb:cO P w K B I 9 "shift" C oN (RW C CL CJ)):aE P w K B I aL 10 f fd oN (A8 C CL CJ):=by
 refine F.o Z8 λs H hr h=>?_;obtain⟨l,b,b',xs,ys,r,G,R,x,rfl,c,ok,dl,hR,mv,q⟩:=h;refine⟨_,(aj (bZ (j9 (K:=K) rfl (gT ij ku kr kF (pF K 0) (aa (c5 (aa (pv 1) (aa (pv 2) (aa (pF K 0) (aa (pv 3) ae))))) ae)))) (aj (bZ (Zgv (K:=K) rfl (Zhy ij PySem.F.slot_list_clear PySem.F.type_list_clear ZdV (pF K 0)))) (av (bZ (dh Fb hr (by decide) (pv 0) (aa (pv 1) (aa (pv 2) (aa (pv 3) ae)))))))),?_⟩;refine i1 ?_;intros;obtain⟨j,i⟩:=c.obj;have sz:(10000:Nat)<=sizeLine:=by rw[dg];decide
 have A:=c.nd;unfold BL.own at A;simp only[Y2,Ys,Y1,gV,iP] at A;obtain⟨⟨nW,cj,jv,nX,qI,y,J⟩,⟨zV,uK,uL,uM,w8,w_⟩,⟨sf,uN,uO,xf,xg⟩,⟨zW,zX,xh,kO⟩,⟨DJ,zY,X⟩,⟨z4,z5⟩,W,_⟩:=A;have dal:=cZ c.mH;refine⟨_,rfl,l.h,C,j,_,_,rfl,i,g.cls,g.Tu,rfl,.inl ⟨rfl,_,aq.of c.done⟩,?_⟩;refine⟨_,rfl,_,rfl,_,rfl,l.h,C,j,_,_,rfl,i,g.cls,g.q0,rfl,_,rfl,by show 4<=sizeLine;decide,λp H1 m n e1=>?_⟩;refine⟨l.dn,_,_,rfl,rfl,n _ _ c.done,by rw[Ya];omega,λH2 t e2=>?_⟩;have a1:=t _ _ (n _ _ i) y;have T:=t _ _ (n _ _ c.i_) (λz=>W z.symm);refine⟨_,rfl,l.h,C,j,_,_,rfl,a1,g.cls,g.Qs,rfl,.inl ⟨rfl,_,aq.of T⟩,l.un,_,rfl,rfl,T,λH3 E e3=>?_⟩;have d:∀{a:U} {o:HO},H a=O o->a≠l.dn->a≠l.un->H3 a=O o:=λ{a o} e n1 n2=>E _ _ (t _ _ (n _ _ e) n1) n2;have L:Out l.own H H3:=λa u e N=>d e (λz=>N (by rw[z];simp[BL.own])) (λz=>N (by rw[z];simp[BL.own]));have of:=tH L;have v:∀{a:U} {k:Z V},H a=O (.tup k)->H3 a=O (.tup k):=λe=>of _ _ e (c.tup e);have pu:p≠l.un:=λz=>by rw[z,c.i_] at m;cases m
 have ed:H3 l.dn=O (.lst ((l.iV++[p]).map V.ref)):=by rw[Yp];exact E _ _ e2 W
 have Q:=(c.owned (l':={l with iV:=l.iV++[p],lL:=[]}) (b':={b with dn:=b.dn++[⟨G,x,b.co,R⟩],un:=[]}) rfl rfl rfl rfl rfl rfl rfl rfl rfl (.inl ⟨rfl,rfl,rfl,rfl⟩) L ⟨j,d i y J⟩ (d c.dy w8 w_) (d c.places xf xg) (d c.facts xh kO) (L2.Paired.bu c.fact λ_ _ e=>v e) (d c.known zY X) (d c.parents z4 z5) ed (jB (F:=oF H3) ⟨r,E _ _ (t _ _ e1 (λz=>by rw[z,c.done] at m;cases m)) pu,v hR⟩ (L2.Paired.bu c.mH λ_ _ e=>e.out of λa k e=>c.tup e)) e3 .nil);have h3:=d i y J;refine⟨_,rfl,l.h,j,_,rfl,h3,rfl,_,rfl,_,rfl,_,rfl,{l with iV:=l.iV++[p],lL:=[]},_,_,xs,ys,r,G,R,rfl,Q.1,⟨ok.gd,ok.nm,ok.m,ok.fl,ok.fg,ok.zs,ok.lt,ok.ky,ok.pr,ok.lv,by show(b.dn++[_]).length<=200;rw[Ye];show b.dn.length+1<=200;exact mK dl,Yx _⟩,((mv.Zjz _ _).out λk e=>v e),λl' H4 wt D=>?_⟩;exact q l' H4 (cC.trans (l1:={l with iV:=l.iV++[p],lL:=[]}) ⟨rfl,of,Q.2⟩ wt) D
def cT.Zkv(j:cT H C n l st)(h:a∈l.cy):∃b,H a=O (.lst b):=by
 obtain⟨p,e⟩:=x6 j.free h
 grind
def cT.uP(j:cT H C n l st)(e:H a=O o)(p:∀c,o≠.lst c)(m:∀c,o≠.tup c)(r:a∉l.fp)(i:aA a H k):cT k C n l st:=by
 refine j.iN (fp:=[a]) (λb u g h=>i _ _ g λz=>h (by rw[z];exact Yg)) (λb d=>?_) (λb d z=>?_) λb c g z=>?_;·grind
 ·rw[Yd.mp d] at z;obtain⟨c,q⟩:=j.Zkv z
  grind
 ·grind
inductive qk(H:Hp)(C CJ g d:U)(l:BL)(b:BS)(n:Nat)(J:U)(F:Z Fc)(m:Nat)(c:Hp):Prop
 |mk (e:JL) (st:JS) (k:e.J=J) (keep:∀a u,H a=O u->a≠l.h->a≠d->c a=O u) (h:c l.h=O (.ins C g (HF l.L l.sd l.pl l.fc l.kn l.pr (b.co:Int) l.dn l.un (.ref J)))) (j:cT c CJ n e st) (i:fw n st F) (len:st.hd.length=m) (new:∀a∈e.fp,H a=aF):qk H C CJ g d l b n J F m c
def qk.uP(j:qk H C CJ G d l b n J F m k)(A:H c≠aF)(e:k c=O o)(q:∀g,o≠.lst g)(p:∀g,o≠.tup g)(r:c≠l.h)(i:aA c k H7)(L:∀u,H d=O u->d≠c->d≠l.h->H7 d=O u):qk H C CJ G c l b n J F m H7:=by
 obtain⟨x,st,E,keep,h,y,v,len,new⟩:=j;refine⟨x,st,E,λa u D t s=>?_,i _ _ h (λz=>r z.symm),y.uP e q p (λz=>A (new _ z)) i,v,len,new⟩;by_cases z:a=d;·grind
 ·exact i _ _ (keep a u D t z) s
theorem Px:∀{c:Z Nat} {as:Z U} {i:Nat} {k:Key} {y:V},(bG c as)[i]?=O (k,y)->∃a,as[i]?=O a/\y=.ref a
 |[],as,i,k,y,h=>by
  unfold bG at h;simp at h
 |_::_,[],i,k,y,h=>by
  unfold bG at h;simp at h
 |q::c,a::as,0,k,y,h=>by
  injection(Yo h) with _ e
  grind
 |q::c,a::as,i+1,k,y,h=>by
  have g:bG (q::c) (a::as)=(Sum.inl (q:Int),V.ref a)::bG c as:=rfl;rw[g] at h;have d:(bG c as)[i]?=O (k,y):=by simpa using h
  obtain⟨b,j,e⟩:=Px d
  grind
inductive RY(C CL CJ:U)(i:Z V)(H:Hp)(Q:VK)(E:XK):Prop
 |mk (l:BL) (b:BS) (d h:Z Int) (k:i=[.ref l.h]) (j:bF H C CL CJ l d h b) (ok:cE d h b) (q:∀(c:BL) (e:JL) (st:JS) (g:Hp),cC H g l c->bF g C CL CJ c d h b->c.rk=.ref e.J->c.e_=e.fp->cT g CJ d.length e st->fw d.length st b.F->st.hd.length=b.ps.length->(∀a∈c.own,a∉e.fp)->(l.rk≠.aC->g=H/\c=l)->Q (.ref e.J) g)
def EX:aP ["self","name","fact"] jM (aJ E8):=.aY
theorem ZfA(F:aM K "joins" "Hearth.joins" E8 f fd)(t:fQ K C)(lc:v8 K CL)(JC:vY P w K B I 1 "Joins" CJ Cj (RI CJ))(vg:cO P w K B I 2 "add" CJ jM (KP CJ))(vh:HasFn P w K B I 6 "keep_fact" uh (I_ CL CJ)):aE P w K B I aL 8 f fd jM (RY C CL CJ):=by
 refine F.o EX λs H hr h=>?_;obtain⟨l,b,xs,ys,rfl,g,ok,q⟩:=h;refine⟨_,(aj (aU (bH yv (pF K 0) kJ) (aj (ik (K:=K) rfl (pv 0) (KH JC hr (by decide) rfl (aa (vN (K:=K) rfl (pF K 0) rfl) ae))) (aj (ZcR (H0:=H) rfl eJ rfl (Zgw (H0:=H) rfl (pF K 0)) (aV 1 EX.nd) (av (bZ (yC vg hr (by decide) (pF K 0))))) (av (ZcS (H0:=H) rfl eJ rfl (Zgz (H0:=H) rfl (pF K 0)) (aV 2 EX.nd) (av (bZ (aZ vh hr (aa (pF K 0) (aa (pF K 0) (aa (pF K 0) (aa (pv 2) ae))))))))))) a8) (av (aI (pF K 0)))),?_⟩;refine hP ?_;intros;refine hP ?_;intros;obtain⟨A,h1⟩:=g.obj;have n8:xs.length<=8:=ok.gd.2.2.2.2;have n0:0<xs.length:=by have:=ok.gd.2.2.2.1;omega
 have nd:=g.nd;unfold BL.own at nd;simp only[Y2,Ys,Y1,gV,iP] at nd;obtain⟨⟨nW,cj,jv,nX,qI,ph,qJ⟩,⟨zV,uK,uL,uM,w8,w_⟩,⟨sf,uN,uO,xf,xg⟩,⟨zW,zX,xh,kO⟩,_⟩:=nd;cases hj:g.tX with
 |at_ p st j1 j2 T L len hZ=>
  have kq:=h1;rw[j1] at kq;refine⟨_,rfl,l.h,C,A,_,_,rfl,kq,t.cls,t.iY,rfl,rfl,_,rfl,bV (aW ?_)⟩;exact⟨_,rfl,l.h,C,A,_,_,rfl,kq,t.cls,t.iY,rfl,q l p st H (cC.of (ag.refl _)) g j1 j2 T L len hZ λ_=>⟨rfl,rfl⟩⟩
 |no j1 j2=>
  have kq:=h1;rw[j1] at kq;refine jZ (λσ H6=>∃(J:U) (E D:bw V),σ=[O (.ref l.h),E,D]/\qk H C CJ A l.h l b xs.length J b.F b.ps.length H6) (λnx hn=>?_) ?_
  ·refine⟨_,rfl,l.h,C,A,_,_,rfl,kq,t.cls,t.iY,rfl,rfl,_,rfl,dk ?_⟩;obtain⟨dL,dS,mo,lM,wi,im,jf,iw,My,hL,_⟩:=g.landAt;refine i1 ?_;intros;refine⟨_,rfl,l.h,C,A,_,_,rfl,kq,t.cls,t.vU,rfl,l.L,CL,dL,_,_,rfl,hL,lc.cls,lc.tM,rfl,λx DL nY zK nd2=>?_⟩;have zL:upd H DL (.own x) x=aF:=by rw[aN (λz=>nd2 z.symm)];exact nY
   have X4:ag H (upd (upd H DL (.own x)) x (.ins CJ DL [])):=(cF zK _).trans (cF zL _);refine⟨x,DL,xs.length,rfl,aT,λNg H2 eJ1 em1 fr1 b2 ja1=>⟨rfl,?_⟩⟩;have f1:∀a∈Ng.fp,H a=aF:=λa ha=>by
    by_cases z:a=x;·rw[z];exact nY
    ·exact X4.free (fr1 a ha z)
   have g2:ag H H2:=λa o e=>b2 _ _ (X4 _ _ e) (bP e nY);refine⟨_,rfl,l.h,C,A,_,rfl,g2 _ _ kq,t.cls,t.iY,by show 10<1000;decide,λH3 b3 e3=>?_⟩;have X5:H3 l.h=O (.ins C A (HF l.L l.sd l.pl l.fc l.kn l.pr (b.co:Int) l.dn l.un (.ref x))):=e3;have DH:l.h∉Ng.fp:=λz=>by have:=f1 _ z;rw[h1] at this;cases this
   have jm3:qk H C CJ A l.h l b xs.length x [] 0 H3:=⟨Ng,_,eJ1,λa u e n1 _=>b3 _ _ (g2 _ _ e) n1,X5,ja1.uP (g2 _ _ kq) (λG z=>nomatch z) (λG z=>nomatch z) DH b3,Zjy,rfl,f1⟩;have s3:H3 l.sd=O (.dK (hV b.ps)):=b3 _ _ (g2 _ _ g.dy) (λz=>nW z.symm);dsimp only;refine hP ?_;intros;refine eC (λσ H6=>∃E D:bw V,σ=[O (.ref l.h),E,D]/\qk H C CJ A l.h l b xs.length x [] b.ps.length H6) (λqK h_=>?_) ?_
   ·refine Ze9 (d:=l.sd) (kvs:=hV b.ps) (H1:=H3) (λR r=>⟨_,rfl,l.h,C,A,_,_,rfl,X5,t.cls,t.tE,rfl,r⟩) s3 (λi σ H6=>∃E D:bw V,σ=[O (.ref l.h),E,D]/\qk H C CJ A l.sd l b xs.length x [] i H6) (λod=>⟨aF,aF,rfl,jm3.uP (by rw[g.dy];exact λz=>nomatch z) s3 (λG z=>nomatch z) (λG z=>nomatch z) (λz=>nW z.symm) (aA.put (aA.of (ag.refl _))) (λu _ _ z=>absurd rfl z)⟩) ?_ ?_
    ·rintro od i k y aK H6 N rt bk hk ⟨E,D,rfl,Q⟩ fz hN;obtain⟨p,st,W,keep,j,T,L,len,new⟩:=Q;have il:i<b.ps.length:=by
      have:=(Yn.mp hk).1
      rwa [Ya] at this
     have im:=ok.m;obtain⟨dj,ej⟩:=T.obj;have wf:=L.wf;have ml:=wf.Tp;have zS:=wf.BX;refine aQ ?_;refine⟨_,rfl,l.h,C,A,_,_,rfl,j,t.cls,t.iY,rfl,p.J,dj,_,by rw[W],ej,rfl,p,st,xs.length,by rw[W];rfl,T,(eL n8 (by decide)),QO,ml,zS,wf.ll,λz=>Wi _ (wf.lm _ z),λz=>Wi _ (wf.lf _ z),λiJ H7 k1 o7 gr ja7=>?_⟩;have X:∀{a:U} {u:HO},H a=O u->a∉p.fp:=λ{a u} e z=>by rw[new _ z] at e;cases e
     refine hN _ _ ⟨_,_,rfl,iJ,_,k1.trans W,λa u e n1 n2=>o7 _ _ (keep a u e n1 n2) (X e),o7 _ _ j (X h1),ja7,L.more n0,by rw[jD,len],λa z=>?_⟩ (o7 _ _ fz (X g.dy));rcases gr a z with y|y;·exact new a y
     ·cases e:H a with
      |none=>rfl
      |some u=>
       by_cases z1:a=l.h;·rw[z1,j] at y;cases y
       ·by_cases z2:a=l.sd;·rw[z2,fz] at y;cases y
        ·rw[keep a u e z1 z2] at y;cases y
    ·rintro od aK H6 ⟨E,D,rfl,Q⟩ fz;rw[Ya] at Q;refine h_ _ _ ⟨E,D,rfl,?_⟩;obtain⟨p,st,W,keep,j,T,L,len,new⟩:=Q;have X:l.sd∉p.fp:=λz=>by have:=new _ z;rw[g.dy] at this;cases this
     refine⟨p,st,W,λa u e n1 _=>?_,by rw[aN nW];exact j,T.uP fz (λG z=>nomatch z) (λG z=>nomatch z) X (aA.put (aA.of (ag.refl _))),L,len,new⟩;by_cases z:a=l.sd
     ·subst z;rw[aT];rw[g.dy] at e;exact e
     ·rw[aN z];exact keep a u e n1 z
   ·rintro σ H6 ⟨E,D,rfl,Q⟩;obtain⟨jl0,Zmh,eJ0,ZjC,Zkw,ja0,me0,len0,Zmi⟩:=id Q;have f6:H6 l.fc=O (.dK (bG (b.fs.map (·.1)) l.cy)):=ZjC _ _ g.facts (λz=>jv z.symm) (λz=>jv z.symm);have al:=cZ g.fact;refine Ze_ (d:=l.fc) (kvs:=bG (b.fs.map (·.1)) l.cy) (H1:=H6) (λR r=>⟨_,rfl,l.h,C,A,_,_,rfl,Zkw,t.cls,t.rm,rfl,r⟩) f6 (λi σ H6=>∃E D:bw V,σ=[O (.ref l.h),E,D]/\qk H C CJ A l.fc l b xs.length x (b.F.take i) b.ps.length H6) (λod=>⟨E,D,rfl,Q.uP (by rw[g.facts];exact λz=>nomatch z) f6 (λG z=>nomatch z) (λG z=>nomatch z) (λz=>jv z.symm) (aA.put (aA.of (ag.refl _))) (λu _ _ z=>absurd rfl z)⟩) ?_ ?_
    ·rintro od i k y aK H7 N rt bk hk ⟨E,D,rfl,Q⟩ fz hN;obtain⟨fa,efa,rfl⟩:=Px hk;obtain⟨⟨z,c⟩,X6,cY⟩:=fY g.fact efa;have mzc:=Yj X6;obtain⟨p,st,W,keep,j,T,L,len,new⟩:=Q;have X:∀{a:U} {u:HO},H a=O u->a∉p.fp:=λ{a u} e z=>by rw[new _ z] at e;cases e
     have of:Out l.fp H H7:=λa u e n=>keep a u e (λz=>n (by rw[z];simp[BL.fp,BL.own])) (λz=>n (by rw[z];simp[BL.fp,BL.own]));have fg:=ok.fg _ mzc;have im:=ok.m;have ec:b.F[i]?=O c:=by unfold BS.F;rw[Yi,X6];rfl
     have tk:b.F.take (i+1)=b.F.take i++[c]:=by rw[Yz,ec];rfl
     refine aQ ?_;refine⟨_,rfl,l.h,C,A,_,_,rfl,j,t.cls,t.iY,rfl,_,rfl,l.h,C,A,_,_,rfl,j,t.cls,t.vU,rfl,_,rfl,l.h,C,A,_,_,rfl,j,t.cls,t.qZ,rfl,_,rfl,p,st,l.L,l.pl,fa,xs,ys,b.ps,b.F.take i,z,c,by rw[W];rfl,T,L,g.land H7 of,ok.gd,keep _ _ g.places (λz=>cj z.symm) sf,ok.nm,len,(eL im (by decide)),of _ _ cY (g.tup cY),fg,?_,λv iJ aO H8 e1 sub o8 ja8 me8 Zkx=>?_⟩
     ·obtain⟨f0,i0,s0⟩:=ok.lv;exact⟨f0,(L.iff f0).mpr ⟨by rw[len];exact i0,λc' m'=>s0 c' (CQ m')⟩,s0 c (Yj ec)⟩
     ·refine hN _ _ ⟨_,_,rfl,iJ,aO,e1.trans W,λa u e n1 n2=>o8 _ _ (keep a u e n1 n2) (X e),o8 _ _ j (X h1),ja8,by rw[tk];exact me8,Zkx.trans len,λa z=>new a (sub a z)⟩ (o8 _ _ fz (X g.facts))
    ·rintro od aK H7 ⟨E,D,rfl,Q⟩ fz;have dl:(bG (b.fs.map (·.1)) l.cy).length=b.F.length:=by
      unfold bG BS.F;rw[Ya,Jr,Ya,Ya];omega
     rw[dl,Y7] at Q;refine hn _ _ ⟨x,E,D,rfl,?_⟩;obtain⟨p,st,W,keep,j,T,L,len,new⟩:=Q;have X:l.fc∉p.fp:=λz=>by have:=new _ z;rw[g.facts] at this;cases this
     refine⟨p,st,W,λa u e n1 _=>?_,by rw[aN jv];exact j,T.uP fz (λG z=>nomatch z) (λG z=>nomatch z) X (aA.put (aA.of (ag.refl _))),L,len,new⟩;by_cases z:a=l.fc
     ·subst z;rw[aT];rw[g.facts] at e;exact e
     ·rw[aN z];exact keep a u e n1 z
  ·rintro σ H6 ⟨J,E,D,rfl,Q⟩;obtain⟨p,st,W,keep,j,T,L,len,new⟩:=Q;refine⟨_,rfl,l.h,C,A,_,_,rfl,j,t.cls,t.iY,rfl,?_⟩;have k6:∀{a:U} {u:HO},H a=O u->a≠l.h->H6 a=O u:=λ{a u} e n=>keep a u e n n;have of:Out l.fp H H6:=λa u e n=>k6 e (λz=>n (by rw[z];simp[BL.fp,BL.own]));have tp:∀{a:U} {G:Z V},H a=O (.tup G)->H6 a=O (.tup G):=λe=>of _ _ e (g.tup e);have gr:eX l.fp ({l with rk:=.ref p.J,e_:=p.fp}:BL).fp H:=λa z=>by
    rcases Ym.mp (show a∈l.own++p.fp from z) with y|y;·exact .inl (Yk _ y)
    ·exact .inr (new a y)
   have hZ:∀a∈l.own,a∉p.fp:=λa m z=>g.there (Yk _ m) (new a z);subst W;refine q {l with rk:=.ref p.J,e_:=p.fp} p st H6 ⟨rfl,of,gr⟩ ?_ rfl rfl T L len hZ λz=>absurd j1 z;exact g.build (l':={l with rk:=.ref p.J,e_:=p.fp}) (b':=b) rfl rfl rfl rfl rfl rfl rfl rfl rfl of gr ⟨A,j⟩ (k6 g.dy (λz=>nW z.symm)) (k6 g.places (λz=>cj z.symm)) (k6 g.facts (λz=>jv z.symm)) (L2.Paired.bu g.fact λ_ _ e=>tp e) (k6 g.known (λz=>nX z.symm)) (k6 g.parents (λz=>qI z.symm)) (k6 g.done (λz=>ph z.symm)) (L2.Paired.bu g.mH λ_ _ e=>e.out of λa G e=>g.tup e) (k6 g.i_ (λz=>qJ z.symm)) (L2.Paired.bu g.oG λ_ _ e=>e.out of λa G e=>g.tup e) (.at_ p st rfl rfl T L len hZ)
def gw(z:af)(c:Nat):cm:=!(Builtin.Str.occurrences z ⟨#[c]⟩ 0 z.length 1).isEmpty
abbrev pV:af:="abcdefghijklmnopqrstuvwxyz"
abbrev m_:af:="abcdefghijklmnopqrstuvwxyz0123456789"
def tY(z:af):cm:=match z.cps.toList with
 |[]=>a_
 |c::r=>decide (z.length<=12)&&(gw pV c&&(c::r).all (gw m_))
def Zky(v:af):v.cps.toList.length=v.length:=by simp[Str.length]
def ZgZ{z:af}(h:z.cps.toList=[]):z="":=by
 cases z with|mk a=>cases a with|mk l=>cases h;rfl
def ZfB(h:z.cps.toList=[]):tY z=a_:=by unfold tY;rw[h]
def Py(h:z.cps.toList=c::r):tY z=(decide (z.length<=12)&&(gw pV c&&(c::r).all (gw m_))):=by unfold tY;rw[h]
def Qz:Sp:=λb H Q _=>∃z:af,b=[.str z]/\z.length<=1000/\∀a,ag H a->Q (.bl (tY z)) a
def Zdc:aP ["text"] ["text"] (aJ HY):=.aY
theorem Zdd(F:aM K "is_name" "is_name" HY f fd)(x:B "LONGEST_NAME"=O (.int 12 t1))(y:B "LETTERS_OF_NAMES"=O (.str "abcdefghijklmnopqrstuvwxyz" G))(A:B "SIGNS_OF_NAMES"=O (.str "abcdefghijklmnopqrstuvwxyz0123456789" t3))(l:Bl B):
  aE P w K B I aL 1 f fd ["text"] Qz:=by
 refine F.o Zdc λs H J h=>?_;obtain⟨z,rfl,d,q⟩:=h;refine⟨_,(aj (aU (PW.pt (pw_or (bH cq (pv 0) a9) (pw_or (bH Kv (fJ (xO) rfl l.rE rB (aa (pv 0) ae)) (dq (v:=.int (12)) rfl x ⟨_,rfl⟩)) (pw_or1 (fK N3 (bc yy (pv 0) aS) (dq (v:=.str "abcdefghijklmnopqrstuvwxyz") rfl y ⟨_,rfl⟩) QU))))) (av (aI gJ)) a8) (av (aI (fJ (Vk (K:=K) rfl rfl) rfl l.Us SV (aa (jE (fr:=[]) (cl:=[]) rfl (.hU trivial trivial) (BE (pv 0)) (λ_ _ _ _=>m5) (λ_ _ _ _=>(Be Hx (pv 0) (dq (v:=.str "abcdefghijklmnopqrstuvwxyz0123456789") rfl A ⟨_,rfl⟩) QU))) ae))))),?_⟩;have sz:(10000:Nat)<=sizeLine:=by rw[dg];decide
 cases a:z.cps.toList with
 |nil=>
  have e:=ZgZ a;rw[ZfB a] at q;refine⟨_,rfl,rfl,_,rfl,bA (λ_=>?_) (λc=>absurd (du (by rw[e])) c)⟩;exact q H (ag.refl H)
 |cons c r=>
  have n:=Zky z;rw[a,Wh] at n;rw[Py a] at q;refine⟨_,rfl,rfl,_,rfl,bA (λb=>?_) (λ_=>?_)⟩
  ·have e:=V.str.inj (eH b);have t:(Str.ofString "").cps.toList=[]:=QK
   rw[e,t] at a;cases a
  refine⟨_,rfl,z,rfl,(eL d (by decide)),_,_,rfl,rfl,_,rfl,bA (λb=>?_) (λb=>?_)⟩
  ·have m:=eH b;rw[fb (by omega:¬z.length<=12)] at q;exact q H (ag.refl H)
  have E:z.length<=12:=by
   grind
  rw[du E,Jb] at q;refine⟨_,rfl,_,_,_,rfl,rfl,(eL d (by decide)),fL (by rw[a];rfl),_,_,rfl,rfl,_,rfl,bA (λb=>?_) (λb=>aW ?_)⟩
  ·have m:gw pV c=a_:=by
    have z:(!gw pV c)=ar:=b;cases e:gw pV c;·rfl
    ·rw[e] at z;cases z
   rw[m,WJ] at q;exact q H (ag.refl H)
  have u:gw pV c=ar:=by
   cases e:gw pV c;·exact absurd (show(!gw pV c)=ar by rw[e];rfl) b
   ·rfl
  rw[u,Jb,←a] at q;refine⟨_,rfl,z,rfl,λD o=>ZdW (eL d (by decide)) o (λc=>V.bl (gw m_ c)) (λi c L g j N k=>?_) λg j p=>?_⟩;·exact⟨_,rfl,_,_,rfl,rfl,k g (ag.refl _)⟩
  ·refine⟨D,z.cps.toList.map (gw m_),rfl,aq.of (by rw[p,Y6];rfl),?_⟩;exact MD▸q g j
def eZ.more(h:eZ n m c)(l:m<=g):eZ n g c:=⟨by have:=h.one;exact i2 this l,λe=>by obtain⟨⟨a,b⟩,d⟩:=h.iI e;exact⟨⟨a,(i2 b l)⟩,d⟩⟩
def fN.more(h:fN xs a m c)(l:m<=b):fN xs a b c:=⟨h.ok.more l,h.kind,h.Lp⟩
def ZiG{f g:Nat->Int}(a:eZ n m c)(e:∀i,i<m->g i=f i)(s:gm f c):gm g c:=⟨λh=>by rw[e _ a.one];exact s.1 h,λh=>by rw[e _ a.one,e _ (a.iI h).1.2];exact s.2 h⟩
section
variable {xs X:Z Int}{b:BS}
def cE.Zkz(a:cE xs X b)(l:n∉b.ps.map (·.1))(o:b.ps.length<64)(r:b.co<=y)(x:t.length<=200)(j:un.length<=200):cE xs X {b with ps:=b.ps++[(n,s)],co:=y,dn:=t,un:=un}:=by
 have e:=λp d=>(a.fg p d).ok;have len:(b.ps++[(n,s)]).length=b.ps.length+1:=by rw[Ye];rfl
 refine⟨a.gd,?_,by show(b.ps++[(n,s)]).length<=64;omega,a.fl,λp d=>?_,a.zs,λp d=>Y3 (a.lt p d) r,?_,?_,?_,x,j⟩
 ·show((b.ps++[(n,s)]).map (·.1)).Nodup;rw[Yp];refine Wc.mpr ⟨a.nm,QS,λu D v A z=>?_⟩
  grind
 ·exact len▸(a.fg p d).more (wB _)
 ·show(b.fs.map λp=>fV (b.ps++[(n,s)]) p.2).Nodup;rw[(W3 λp d=>by rw[RS (e p d)])];exact a.ky
 ·show((cD (b.ps++[(n,s)]) b.fs).map (·.1)).Nodup;rw[RT e];exact a.pr
 ·obtain⟨f,q,k⟩:=a.lv;refine⟨λi=>if i<b.ps.length then f i else 0,λi g=>?_,λc m=>?_⟩
  ·show 0<=(if i<b.ps.length then f i else 0)/\(if i<b.ps.length then f i else 0)<(xs.length:Int);by_cases h:i<b.ps.length;·rw[bS h];exact q i h
   ·rw[bt h];have:=a.gd.2.2.2.1
    grind
  ·obtain⟨p,d,rfl⟩:=Yf.mp m;exact ZiG (e p d) (λi g=>bS g) (k _ m)
theorem cE.gn(d:cE xs X b)(L:fN xs X b.ps.length c)(n:z∉b.fs.map (·.1))(q:fV b.ps c∉b.keys)(o:cV c.k=ar->[.inr c.k,.inr (aw b.ps c.one)]∉(cD b.ps b.fs).map (·.1))(r:∃f,o_ xs.length b.ps.length f/\∀g∈b.F++[c],gm f g)(s:b.fs.length<63)(A:b.co<=co)(H:z<co)(G:F.length<=200)(j:un.length<=200):cE xs X {b with fs:=b.fs++[(z,c)],co:=co,dn:=F,un:=un}:=by
 have snoc:∀{h:Type} {l:Z h} {x:h},l.Nodup->x∉l->(l++[x]).Nodup:=λ{h l x} E D=>Wc.mpr ⟨E,QS,λu J v y e=>by
  have:v=x:=by simpa using y
  exact D (by rwa[←this,←e])⟩
 refine⟨d.gd,d.nm,d.m,by show(b.fs++[(z,c)]).length<=63;rwa[Ye],λp a=>?_,?_,λp a=>?_,?_,?_,?_,G,j⟩
 ·rcases Ym.mp a with a|a;·exact d.fg p a
  ·rwa[Yd.mp a]
 ·show((b.fs++[(z,c)]).map (·.1)).Nodup;exact Yp▸snoc d.zs n
 ·rcases Ym.mp a with a|a;·exact Y3 (d.lt p a) A
  ·rwa[Yd.mp a]
 ·show((b.fs++[(z,c)]).map λp=>fV b.ps p.2).Nodup;exact Yp▸snoc d.ky q
 ·show((cD b.ps (b.fs++[(z,c)])).map (·.1)).Nodup;cases e:cV c.k with
  |true=>rw[Qw e,Yp];exact snoc d.pr (o e)
  |false=>rw[Qx e];exact d.pr
 ·obtain⟨f,t,k⟩:=r;refine⟨f,t,λg m=>k g ?_⟩;have i:g∈(b.fs++[(z,c)]).map (·.2):=m;rw[Yp] at i;exact i
def cE.drop(a:cE xs X b)(z:Nat)(i:b.co<=l)(k:j.length<=200)(e:un.length<=200):cE xs X {b with fs:=dm z b.fs,co:=l,dn:=j,un:=un}:=by
 have sub:(dm z b.fs).Sublist b.fs:=QbA;refine⟨a.gd,a.nm,a.m,Yy sub.length_le a.fl,λp d=>a.fg p (sub.subset d),a.zs.sublist (sub.map _),λp d=>Y3 (a.lt p (sub.subset d)) i,a.ky.sublist (sub.map _),?_,?_,k,e⟩
 ·show((cD b.ps (dm z b.fs)).map (·.1)).Nodup;refine a.pr.sublist ?_;unfold cD
  grind
 ·obtain⟨f,h,g⟩:=a.lv;exact⟨f,h,λc m=>g c ((sub.map _).subset m)⟩
end
def BS.KS(b:BS)(n s:af):BS:={b with ps:=b.ps++[(n,s)],co:=b.co,dn:=b.dn++[⟨1,[.inr n,.inr s],b.co,b.co⟩],un:=[]}
def BS.yO(b:BS)(c:Fc):BS:={b with fs:=b.fs++[(b.co,c)],co:=b.co+1,dn:=b.dn++[⟨1,eM b.ps b.co c,b.co,b.co+1⟩],un:=[]}
def BS.without(b:BS)(z:Nat)(c:Fc):BS:={b with fs:=dm z b.fs,co:=b.co,dn:=b.dn++[⟨-1,eM b.ps z c,b.co,b.co⟩],un:=[]}
def Kl(s:af):cm:=fD (.str s) [.str "man",.str "woman"]
structure Lq(b:BS)(n s:af):Prop where
 ZkA:tY n=ar
 side:Kl s=ar
 new:n∉b.ps.map (·.1)
 lim:b.ps.length<64
 nl:n.length<=1000
structure Cp(xs ys:Z Int)(b:BS)(c:Fc):Prop where
 fg:fN xs ys b.ps.length c
 nk:fV b.ps c∉b.keys
 np:cV c.k=ar->[.inr c.k,.inr (aw b.ps c.one)]∉(cD b.ps b.fs).map (·.1)
 lv:∃f,o_ xs.length b.ps.length f/\∀c'∈b.F++[c],gm f c'
 lim:b.fs.length<63
inductive QB(C CL CJ:U)(e:Z V)(H:Hp)(Q:VK)(E:XK):Prop
 |mk (l:BL) (b:BS) (d c:Z Int) (n s:af) (i:e=[.ref l.h,.str n,.str s]) (h:bF H C CL CJ l d c b) (g:Lq b n s) (q:∀a,ag H a->Q .aC a)
inductive QC(C CL CJ:U)(g:Z V)(H:Hp)(Q:VK)(E:XK):Prop
 |mk (l:BL) (b:BS) (c a:Z Int) (n s:af) (j:g=[.ref l.h,.str n,.str s]) (i:bF H C CL CJ l c a b) (ok:cE c a b) (h:Lq b n s) (dl:b.dn.length<200) (q:∀(e:BL) (d:Hp),cC H d l e->bF d C CL CJ e c a (b.KS n s)->Q .aC d)
inductive Km(C CL CJ:U)(i:Z V)(H:Hp)(Q:VK)(E:XK):Prop
 |mk (l:BL) (b:BS) (d a:Z Int) (h:U) (c:Fc) (n:i=[.ref l.h,.ref h]) (m:bF H C CL CJ l d a b) (ok:cE d a b) (k:dF H b.ps h (b.co,c)) (j:Cp d a b c) (dl:b.dn.length<200) (q:∀(g:BL) (e:Hp),cC H e l g->bF e C CL CJ g d a (b.yO c)->Q (.int (b.co:Int)) e)
inductive TB(C CL CJ:U)(h:Z V)(H:Hp)(Q:VK)(E:XK):Prop
 |mk (l:BL) (b:BS) (d a:Z Int) (z:Nat) (c:Fc) (j:h=[.ref l.h,.int (z:Int)]) (i:bF H C CL CJ l d a b) (ok:cE d a b) (m:(z,c)∈b.fs) (dl:b.dn.length<200) (q:∀(g:BL) (e:Hp),cC H e l g->bF e C CL CJ g d a (b.without z c)->Q .aC e)
inductive RZ(C CL CJ:U)(e:Z V)(H:Hp)(Q:VK)(E:XK):Prop
 |mk (x g L:U) (d c:Z Int) (j:e=[.ref x,.ref L]) (i:H x=O (.ins C g [])) (h:i8 H CL L d c) (q:∀(l:BL) (b:Hp),l.h=x->(∀a∈l.fp,a≠x->H a=aF)->aA x H b->bF b C CL CJ l d c ⟨[],[],0,[],[]⟩->Q .aC b)
def i8.free(g:i8 H CL L xs ys)(A:∀a∈fp,H a=aF\/∃C b,H a=O (.ins C b []))(o:Out fp H c):i8 c CL L xs ys:=by
 obtain⟨b,d,m,f,w,j,h,i,st,y,x,v,t,s,r,q,p,l⟩:=g;have k:∀{a:U} {u:HO},H a=O u->(∀C b,u≠.ins C b [])->c a=O u:=λ{a u} e n=>o _ _ e λz=>by
  grind
 exact⟨b,d,m,f,w,j,h,i,st,k y (λ_ _ z=>by cases z),k x (λ_ _ z=>by cases z),k v (λ_ _ z=>by cases z),k t (λ_ _ z=>by cases z),k s (λ_ _ z=>by cases z),k r (λ_ _ z=>by cases z),k q (λ_ _ z=>by cases z),k p (λ_ _ z=>by cases z),k l (λ_ _ z=>by cases z)⟩
abbrev Cq:Z af:=["hearth","name","side"]
def Zap:aP Cq Cq (aJ E2):=.aY
def Zaq(F:aM K "check_person" "check_person" E2 f fd)(N:HasFn P w K B I 1 "is_name" ["text"] Qz)(m:B "MAN"=O (.str "man" t1))(o:B "WOMAN"=O (.str "woman" W))(R:cO P w K B I 1 "people" C jM (Qu C CL CJ)):aE P w K B I aL 2 f fd Cq (QB C CL CJ):=by
 refine F.o Zap λs H e h=>?_;obtain⟨l,b,k,j,n,s,rfl,L,a,q⟩:=h;refine⟨_,(aj (aU (PW.pt (pw_or (jY (eP (aZ N e (aa (pv 1) ae)))) (pw_or1 (fK (BC (K:=K) rfl) (pv 2) (c5 (aa (dq (v:=.str "man") rfl m ⟨_,rfl⟩) (aa (dq (v:=.str "woman") rfl o ⟨_,rfl⟩) ae))) QU)))) gH a8) (av (aU (fK (k9 rfl) (pv 1) (yC R e (by decide) (pv 0)) QU) gH a8))),?_⟩;refine hP ?_;intros;have sz:(10000:Nat)<=sizeLine:=by rw[dg];decide
 refine⟨_,rfl,n,rfl,a.nl,λH1 D=>⟨_,rfl,?_⟩⟩;rw[a.ZkA];refine bV ?_;refine⟨_,rfl,by show 2<=sizeLine;decide,λp X T A c=>⟨p,_,rfl,.inr (aB.of c),rfl,rfl,_,rfl,?_⟩⟩;have r:fD (.str s) [.str "man",.str "woman"]=ar:=a.side;dsimp only;rw[bS rfl,r];refine bV (aW ?_);have g:=D.trans A;have d:=L.same g;obtain⟨G,x⟩:=d.obj;refine⟨_,rfl,_,rfl,l.h,G,_,rfl,x,rfl,l,b,k,j,rfl,d,λt Q u y J=>?_⟩;have E:(b.ps.map λp=>V.str p.1).all jG=ar:=by
  rw[MD,Wt];intro p _;rfl
 refine⟨t,_,rfl,.inl (aq.of J),rfl,E,_,rfl,?_⟩;try dsimp only
 have no:fD (.str n) (b.ps.map λp=>V.str p.1)=a_:=by
  unfold fD;rw[List.any_map,WC];intro p c z;have i:(p.1==n)=ar:=z;exact a.new (by rw[←eq_of_beq i];exact Yf.mpr ⟨p,c,rfl⟩)
 rw[bt Yq,no];exact bV (aW (q Q (g.trans y)))
abbrev Cr:Z af:=["self","name","side"]
def Zag:aP Cr Cr (aJ EN):=.aY
def Zeh(F:aM K "person" "Hearth.person" EN f fd)(i:fQ K C)(x:B "PUT_IN"=O (.int 1 t1))(E:HasFn P w K B I 2 "check_person" Cq (QB C CL CJ))(y:cO P w K B I 10 "do_deed" C oN (A8 C CL CJ)):aE P w K B I aL 11 f fd Cr (QC C CL CJ):=by
 refine F.o Zag λs H g h=>?_;obtain⟨l,b,e,d,n,s,rfl,t,ok,a,dl,q⟩:=h;refine⟨_,(aj (bZ (aZ E g (aa (pv 0) (aa (pv 1) (aa (pv 2) ae))))) (av (bZ (dh y g (by decide) (pv 0) (aa (dq (v:=.int (1)) rfl x ⟨_,rfl⟩) (aa (c5 (aa (pv 1) (aa (pv 2) ae))) (aa (pF K 0) ae))))))),?_⟩;refine hP ?_;intros;refine⟨_,rfl,_,rfl,_,rfl,l,b,e,d,n,s,rfl,t,a,λL m=>?_⟩;have p:=t.same m;obtain⟨o,k⟩:=p.obj;refine⟨_,rfl,l.h,o,_,rfl,k,rfl,_,rfl,_,rfl,by show 2<=sizeLine;decide,λr J G c j=>?_⟩;refine⟨_,rfl,l.h,C,o,_,_,rfl,c _ _ k,i.cls,i.q0,rfl,l,b,_,e,d,r,1,b.co,[.inr n,.inr s],rfl,p.same c,ok,dl,j,.pin n s j a.new a.lim,λA D u z=>?_⟩;exact q A D (cC.after (m.trans c) u) z
def xM:aP VC ui (aJ Fw):=.aY
def Zg0(F:aM K "keep" "Hearth.keep" Fw f fd)(j:fQ K C)(Q:B "PUT_IN"=O (.int 1 t1))(Gz:HasFn P w K B I 5 "fact_fits" uh (Tv CL CJ))(Ff:cO P w K B I 8 "joins" C jM (RY C CL CJ))(R:cO P w K B I 10 "do_deed" C oN (A8 C CL CJ)):aE P w K B I aL 11 f fd ui (Km C CL CJ):=by
 refine F.o xM λs H u h=>?_;obtain⟨l,b,o,n,y,c,rfl,A,ok,x,d,dl,q⟩:=h;refine⟨_,(aj (l9 (pv 1) (gc (K:=K) rfl rfl (bq (aV 2 xM.nd) (bq (aV 3 xM.nd) (bq (aV 4 xM.nd) (bq (aV 5 xM.nd) f_)))))) (aj (aU (jY (eP (aZ Gz u (aa (yC Ff u (by decide) (pv 0)) (aa (pF K 0) (aa (pF K 0) (aa (pv 1) ae))))))) gH a8) (aj (bZ (dh R u (by decide) (pv 0) (aa (dq (v:=.int (1)) rfl Q ⟨_,rfl⟩) (aa (pv 1) (aa (bh i6 (pv 2) aS) ae))))) (av (aI (pv 2)))))),?_⟩;refine l5 ?_;intros;obtain⟨dx,h1⟩:=A.obj;refine⟨_,rfl,y,_,rfl,aB.of x,rfl,_,_,rfl,aQ ⟨_,_,rfl,aQ ⟨_,_,rfl,aQ ⟨_,_,rfl,aQ ⟨rfl,?_⟩⟩⟩⟩⟩;refine⟨_,rfl,l.h,dx,_,rfl,h1,rfl,l,b,o,n,rfl,A,ok,λa jl st H1 g m r1 r2 ja E len hZ _=>?_⟩;obtain⟨i,e1⟩:=m.obj;have t:H1 l.h=O (.ins C i (HF a.L a.sd a.pl a.fc a.kn a.pr (b.co:Int) a.dn a.un a.rk)):=by rwa[←g.h]
 have L:=g.out _ _ x (A.tup x);have im:=ok.m;refine⟨_,rfl,l.h,C,i,_,_,rfl,t,j.cls,j.vU,rfl,_,rfl,l.h,C,i,_,_,rfl,t,j.cls,j.qZ,rfl,_,rfl,jl,st,a.L,a.pl,y,o,n,b.ps,b.F,b.co,c,rfl,ja,E,m.landAt,ok.gd,m.places,ok.nm,len,(eL im (by decide)),L,d.fg,λ_ H2 k=>?_,λno=>?_⟩
 ·refine⟨_,rfl,bV (aW ?_)⟩;have N:=m.same k;have J:=k _ _ L;have T:b.co∉b.fs.map (·.1):=λz=>by
   obtain⟨p,hp,e⟩:=Yf.mp z;have:=ok.lt p hp;omega
  refine⟨_,rfl,l.h,i,_,rfl,k _ _ t,rfl,_,rfl,_,rfl,_,_,rfl,rfl,a,b,_,o,n,y,1,b.co+1,eM b.ps b.co c,?_,N,ok,dl,J,.fin b.co c J d.fg T d.nk d.np d.lv d.lim,λl' H3 r W=>?_⟩;·rw[g.h];rfl
  ·exact⟨_,rfl,q l' H3 ((g.same k).trans r) W⟩
 ·obtain⟨G,i0,D⟩:=d.lv;exact absurd (D c (Yl _ Yg)) (no G ((E.iff G).mpr ⟨by rwa[len],λc' X=>D c' (Yk _ X)⟩))
def ZaI:aP yZ yZ (aJ Fx):=.aY
def Zg1(F:aM K "take" "Hearth.take" Fx f fd)(a:fQ K C)(A:B "TAKEN_OUT"=O (.int (-1) t1))(t:cO P w K B I 10 "do_deed" C oN (A8 C CL CJ)):aE P w K B I aL 11 f fd yZ (TB C CL CJ):=by
 refine F.o ZaI λs H i h=>?_;obtain⟨l,b,p,o,z,c,rfl,d,ok,m,dl,q⟩:=h;refine⟨_,(aj (aU (jX (mY (bo i) (pv 1) (pF K 0)) QU) gH a8) (av (bZ (dh t i (by decide) (pv 0) (aa (dq (v:=.int (-1)) rfl A ⟨_,rfl⟩) (aa (de (bo i) (pF K 0) (pv 1) (λ_ _=>rfl)) (aa (pF K 0) ae))))))),?_⟩;refine hP ?_;intros;obtain⟨g,e⟩:=d.obj;obtain⟨j,n,k⟩:=JB d.fact ok.zs m;refine⟨_,rfl,_,rfl,l.h,C,g,_,_,rfl,e,a.cls,a.rm,rfl,l.fc,O (.ref j),rfl,qb d.facts n,_,rfl,bV (aW ?_)⟩;refine⟨_,rfl,l.h,g,_,rfl,e,rfl,_,rfl,l.h,C,g,_,_,rfl,e,a.cls,a.rm,rfl,_,rfl,l.fc,.ref j,rfl,qb d.facts n,_,rfl,l.h,C,g,_,_,rfl,e,a.cls,a.q0,rfl,l,b,_,p,o,j,-1,b.co,eM b.ps z c,rfl,d,ok,dl,k,.wm z c k m,λx y r u=>?_⟩;exact q x y r u
abbrev Cs:Z af:=["self","land"]
def ZaJ:aP Cs Cs (aJ Fv):=.aY
theorem ZfC(F:aM K "__init__" "Hearth.__init__" Fv f fd)(b:fQ K C):aE P w K B I aL 1 f fd Cs (RZ C CL CJ):=by
 refine F.o ZaJ λs H hr h=>?_;obtain⟨x,g,L,xs,ys,rfl,hx,la,q⟩:=h;refine⟨_,(aj (ik (K:=K) rfl (pv 0) (pv 1)) (aj (ik (K:=K) rfl (pv 0) pO) (aj (ik (K:=K) rfl (pv 0) pO) (aj (ik (K:=K) rfl (pv 0) pO) (aj (ik (K:=K) rfl (pv 0) HI) (aj (ik (K:=K) rfl (pv 0) HI) (aj (ik (K:=K) rfl (pv 0) aS) (aj (ik (K:=K) rfl (pv 0) (cU ae)) (aj (ik (K:=K) rfl (pv 0) (cU ae)) (av (ik (K:=K) rfl (pv 0) kJ))))))))))),?_⟩;refine yX ?_;intros;refine⟨_,rfl,_,rfl,x,C,g,[],rfl,hx,b.cls,b.vU,by show 0<1000;decide,λH1 b1 h1=>?_⟩;refine λsd Q n2 g2 G=>⟨_,rfl,x,C,g,_,rfl,g2 _ _ h1,b.cls,b.tE,by show 1<1000;decide,λH3 b3 h3=>?_⟩;refine λpl H4 n4 g4 W=>⟨_,rfl,x,C,g,_,rfl,g4 _ _ h3,b.cls,b.qZ,by show 2<1000;decide,λH5 b5 h5=>?_⟩;refine λfc H6 n6 g6 e6=>⟨_,rfl,x,C,g,_,rfl,g6 _ _ h5,b.cls,b.rm,by show 3<1000;decide,λH7 b7 h7=>?_⟩;refine λkn H8 R T e8=>⟨_,rfl,x,C,g,_,rfl,T _ _ h7,b.cls,b.Bo,by show 4<1000;decide,λH9 N h9=>?_⟩;refine λpr qE D A qG=>⟨_,rfl,x,C,g,_,rfl,A _ _ h9,b.cls,b.vH,by show 5<1000;decide,λzu y h11=>?_⟩;refine⟨_,rfl,x,C,g,_,rfl,h11,b.cls,b.q0,by show 6<1000;decide,λxk v Dc=>?_⟩;refine⟨by show 0<=sizeLine;exact Yx _,λdn Dd p r X_=>⟨_,rfl,x,C,g,_,rfl,r _ _ Dc,b.cls,b.Tu,by show 7<1000;decide,λr6 m YA=>?_⟩⟩;refine⟨by show 0<=sizeLine;exact Yx _,λun Mt j YB e15=>⟨_,rfl,x,C,g,_,rfl,YB _ _ YA,b.cls,b.Qs,by show 8<1000;decide,λXg b16 h16=>?_⟩⟩;refine⟨_,rfl,x,C,g,_,rfl,h16,b.cls,b.iY,by show 9<1000;decide,λqL b17 YC=>?_⟩;rw[Zkr] at YC;have YD:aA x Mt qL:=b16.trans b17;have YE:aA x Dd qL:=m.trans ((aA.of YB).trans YD);have YF:aA x qE qL:=y.trans (v.trans ((aA.of r).trans YE));have j8:aA x H8 qL:=N.trans ((aA.of A).trans YF);have j6:aA x H6 qL:=b7.trans ((aA.of T).trans j8);have j4:aA x H4 qL:=b5.trans ((aA.of g6).trans j6);have j2:aA x Q qL:=b3.trans ((aA.of g4).trans j4);have j0:aA x H qL:=b1.trans ((aA.of g2).trans j2);have i3:aA x H H3:=b1.trans ((aA.of g2).trans b3);have i5:aA x H H5:=i3.trans ((aA.of g4).trans b5);have i7:aA x H H7:=i5.trans ((aA.of g6).trans b7);have i9:aA x H H9:=i7.trans ((aA.of T).trans N);have i12:aA x H xk:=i9.trans ((aA.of A).trans (y.trans v));have i14:aA x H r6:=i12.trans ((aA.of r).trans m);have E:∀{a:U} {H':Hp},aA x H H'->a≠x->H' a=aF->H a=aF:=λ{a H'} k d n=>by
  cases e:H a with
  |none=>rfl
  |some o=>rw[k a o e d] at n;cases n
 have t:sd≠x:=λz=>by rw[z,h1] at n2;cases n2
 have J:pl≠x:=λz=>by rw[z,h3] at n4;cases n4
 have X:fc≠x:=λz=>by rw[z,h5] at n6;cases n6
 have d8:kn≠x:=λz=>by rw[z,h7] at R;cases R
 have DN:pr≠x:=λz=>by rw[z,h9] at D;cases D
 have Nh:dn≠x:=λz=>by rw[z,Dc] at p;cases p
 have YG:un≠x:=λz=>by rw[z,YA] at j;cases j
 have ne:∀{a c:U} {Ha Hc:Hp} {o:HO},Ha a=O o->aA x Ha Hc->a≠x->Hc c=aF->a≠c:=λ{a c Ha Hc o} e k d n z=>by rw[←z,k a o e d] at n;cases n
 have k24:aA x Q H3:=b3;have YH:aA x Q H5:=b3.trans ((aA.of g4).trans b5);have YI:aA x Q H7:=YH.trans ((aA.of g6).trans b7);have VE:aA x Q H9:=YI.trans ((aA.of T).trans N);have VF:aA x Q xk:=VE.trans ((aA.of A).trans (y.trans v));have ZkB:aA x Q r6:=VF.trans ((aA.of r).trans m);have YJ:aA x H4 H7:=b5.trans ((aA.of g6).trans b7);have VG:aA x H4 H9:=YJ.trans ((aA.of T).trans N);have VH:aA x H4 xk:=VG.trans ((aA.of A).trans (y.trans v));have ZkC:aA x H4 r6:=VH.trans ((aA.of r).trans m);have VI:aA x H6 H9:=b7.trans ((aA.of T).trans N);have VJ:aA x H6 xk:=VI.trans ((aA.of A).trans (y.trans v));have ZkD:aA x H6 r6:=VJ.trans ((aA.of r).trans m);have VL:aA x H8 xk:=N.trans ((aA.of A).trans (y.trans v));have ZkE:aA x H8 r6:=VL.trans ((aA.of r).trans m);have UM:aA x qE xk:=y.trans v;have ZjD:aA x qE r6:=UM.trans ((aA.of r).trans m);let l:BL:=⟨x,L,sd,pl,fc,kn,pr,dn,un,.aC,[],[],[],[]⟩;have DO:∀a∈l.fp,a≠x->H a=aF:=λa ha i=>by
  have se:a∈[x,sd,pl,fc,kn,pr,dn,un]:=by
   have:l.fp=[x,sd,pl,fc,kn,pr,dn,un]:=rfl;rw[this] at ha;exact ha
  simp only[Ys,Y1,gV] at se;rcases se with rfl|rfl|rfl|rfl|rfl|rfl|rfl|rfl;·exact absurd rfl i
  ·exact E b1 i n2
  ·exact E i3 i n4
  ·exact E i5 i n6
  ·exact E i7 i R
  ·exact E i9 i D
  ·exact E i12 i p
  ·exact E i14 i j
 refine q l qL rfl DO j0 ⟨⟨g,YC⟩,λH' o=>?_,j2 _ _ G t,j4 _ _ W J,j6 _ _ e6 X,.nil,j8 _ _ e8 d8,YF _ _ qG DN,YE _ _ X_ Nh,.nil,YD _ _ e15 YG,.nil,.no rfl rfl,?_⟩
 ·refine la.free (fp:=l.fp) (λa ha=>?_) λa u e i=>o _ _ (j0 _ _ e λz=>i (by rw[z];exact Yg)) i;by_cases z:a=x;·rw[z];exact .inr ⟨C,g,hx⟩
  ·exact .inl (DO a ha z)
 ·show[x,sd,pl,fc,kn,pr,dn,un].Nodup;simp only[Y2,Ys,Y1,gV,iP,Mz,Wy,and_true];exact⟨⟨t.symm,J.symm,X.symm,d8.symm,DN.symm,Nh.symm,YG.symm⟩,⟨ne G k24 t n4,ne G YH t n6,ne G YI t R,ne G VE t D,ne G VF t p,ne G ZkB t j⟩,⟨ne W b5 J n6,ne W YJ J R,ne W VG J D,ne W VH J p,ne W ZkC J j⟩,⟨ne e6 b7 X R,ne e6 VI X D,ne e6 VJ X p,ne e6 ZkD X j⟩,⟨ne e8 N d8 D,ne e8 VL d8 p,ne e8 ZkE d8 j⟩,⟨ne qG UM DN p,ne qG ZjD DN j⟩,ne X_ m Nh j⟩
def strOf:V->af
 |.str s=>s
 |_=>""
def gW(b:BS)(a:af):Z af:=(qc b a).map strOf
inductive gF(b:BS)(a:af):af->Prop
 |refl:gF b a a
 |step {x y:af}:gF b a x->y∈gW b x->gF b a y
theorem R0(i:cE xs u b)(h:aH (cD b.ps b.fs) [.inr k,.inr a]=O v):∃p∈b.fs,cV p.2.k=ar/\p.2.k=k/\aw b.ps p.2.one=a/\v=.str (aw b.ps p.2.aG.toNat)/\p.2.aG.toNat<b.ps.length:=by
 have m:([.inr k,.inr a],v)∈cD b.ps b.fs:=by
  unfold aH at h;cases x:(cD b.ps b.fs).find? λj=>decide (j.1=[.inr k,.inr a]) with
  |none=>grind
  |some q=>grind
 obtain⟨p,l,e⟩:=Yf.mp m;obtain⟨g,c⟩:=Y5.mp l;injection e with t s;injection t with r o;injection o with n _;have d:p.2.k≠bj:=λz=>by
  rw[z] at c;exact absurd c QK
 refine⟨p,g,c,Wb r,Wb n,?_,((i.fg p g).ok.iI d).1.2⟩;rw[←s,ig d];rfl
def OP(d:cE xs i b)(a:af):qc b a=(gW b a).map V.str/\(∀s∈gW b a,s∈b.ps.map (·.1))/\(gW b a).length<=2:=by
 have all:∀v∈qc b a,∃s,v=.str s/\s∈b.ps.map (·.1):=λv c=>by
  obtain⟨k,_,e⟩:=Jz.mp c;obtain⟨p,_,_,_,_,h,l⟩:=R0 d e;exact⟨_,h,tG l⟩
 refine⟨?_,λs g=>?_,?_⟩
 ·unfold gW;rw[Y6];refine(Dz _).symm.trans (W3 λv c=>?_);obtain⟨s,rfl,_⟩:=all v c;rfl
 ·obtain⟨v,c,rfl⟩:=Yf.mp g;obtain⟨s,rfl,m⟩:=all v c;exact m
 ·unfold gW qc
  grind
def iW(a:Z af)(b:Z U):Z (Key×V):=(a.zip b).map λp=>(.inr p.1,.ref p.2)
theorem QE:∀{b:Z af} {as:Z U},b.length=as.length->(iW b as).map (·.1)=b.map Sum.inr
 |[],[],_=>rfl
 |k::b,a::as,h=>by
  have c:iW (k::b) (a::as)=(Sum.inr k,V.ref a)::iW b as:=rfl;rw[c,Wu,QE (by simpa using h)];rfl
 |[],_::_,h=>rfl
 |_::_,[],h=>by simp at h
theorem QF:∀{b:Z af} {as:Z U} (k:af) (a:U),b.length=as.length->iW b as++[(.inr k,.ref a)]=iW (b++[k]) (as++[a])
 |[],[],_,_,_=>rfl
 |q::b,c::as,k,a,h=>by
  have d:iW (q::b) (c::as)=(Sum.inr q,V.ref c)::iW b as:=rfl;rw[d,Jy,QF k a (by simpa using h)];rfl
 |[],_::_,_,_,h=>by simp at h
 |_::_,[],_,_,h=>by simp at h
theorem JD:∀{b:Z af} {as:Z U} {k:af},b.length=as.length->k∈b->∃a∈as,aH (iW b as) (.inr k)=O (.ref a)
 |[],_,_,_,h=>by cases h
 |q::b,c::as,k,d,h=>by
  have g:iW (q::b) (c::as)=(Sum.inr q,V.ref c)::iW b as:=rfl;rw[g];by_cases e:q=k;·exact⟨c,Yg,fq (by rw[e])⟩
  ·rcases Ys.mp h with h|h;·grind
   ·obtain⟨a,m,v⟩:=JD (by simpa using d) h;exact⟨a,Yw _ m,by rwa[eO (λz=>e (Wb z))]⟩
 |_::_,[],_,h,_=>by simp at h
def IF(b:a.length=as.length)(h:k∉a):aH (iW a as) (.inr k)=aF:=oj (by
 rw[QE b];intro z;obtain⟨q,c,e⟩:=Yf.mp z;exact h (by rwa[←Wb e]))
structure rP(H H6:Hp)(ln:U)(ks:Z af)(as:Z U):Prop where
 same:ag H H6
 at_:H6 ln=O (.dK (iW ks as))
 len:ks.length=as.length
 lst:∀a∈as,∃us:Z V,H6 a=O (.lst us)/\us.length<=ks.length/\a≠ln
 nd:ks.Nodup
def Ii(g:cE xs e b){c:Z af}(d:c.Nodup)(a:∀k∈c,k∈b.ps.map (·.1)):c.length<=b.ps.length:=by
 have:=d.length_le_of_subset a
 grind
theorem A9(c:cE xs e b)(d:a∈b.ps.map (·.1))(h:gF b a z):z∈b.ps.map (·.1):=by
 cases h with
 |refl=>exact d
 |step _ m=>exact(OP c _).2.1 _ m
inductive R1(C CL CJ:U)(h:Z V)(H:Hp)(Q:VK)(E:XK):Prop
 |mk (l:BL) (b:BS) (d c:Z Int) (a:af) (m:h=[.ref l.h,.str a]) (k:bF H C CL CJ l d c b) (ok:cE d c b) (j:a∈b.ps.map (·.1)) (q:∀(p:U) (e:Z af) (i:Z U) (g:Hp),rP H g p e i->(∀z,z∈e↔gF b a z)->Q (.ref p) g)
def y9(b:U)(N:Nat):St->Hp->Nat:=λa H=>(match H b with|some (.dK kvs)=>2*(N-kvs.length)|_=>0)+(match List.getD (α:=bw V) a 3 aF with|some (V.ref nw)=>(match H nw with|some (.lst (_::_))=>1|_=>0)|_=>0)
inductive YK(H:Hp)(b:BS)(a:af)(h g:U)(l:St)(j:Hp):Prop
 |mk (c d:Z af) (q:Z U) (i:U) (o n m:bw V) (v:rP H j g c q) (x:j i=O (.lst (d.map V.str))) (t:i≠g) (sub:∀k∈d,k∈c) (y:∀k∈c,k∉d->∀p∈gW b k,p∈c) (s:∀k∈c,gF b a k) (u:a∈c) (r:d.length<=64) (e:l=[O (.ref h),O (.str a),O (.ref g),O (.ref i),o,n,m]):YK H b a h g l j
inductive Ni(H:Hp)(b:BS)(a:af)(h g d c:U)(o m:Z af)(j:Nat)(n:St)(l:Hp):Prop
 |mk (i fs:Z af) (q:Z U) (s r:bw V) (v:rP H l g i q) (x:l d=O (.lst (m.map V.str))) (y:l c=O (.lst (fs.map V.str))) (u:d≠g/\c≠g/\c≠d) (D:c∉q) (z:i=o++fs) (A:∀k∈m.take j,∀p∈gW b k,p∈i) (t:∀k∈i,gF b a k) (e:n=[O (.ref h),O (.str a),O (.ref g),O (.ref d),O (.ref c),s,r]):Ni H b a h g d c o m j n l
inductive YL(H:Hp)(b:BS)(a:af)(h g l d:U)(s q:Z af)(j:Nat)(c:af)(o:U)(i:Nat)(r:St)(n:Hp):Prop
 |mk (m fs:Z af) (t:Z U) (u:bw V) (y:rP H n g m t) (A:n l=O (.lst (q.map V.str))) (D:n d=O (.lst (fs.map V.str))) (z:n o=O (.lst ((gW b c).map V.str))) (x:l≠g/\d≠g/\d≠l/\o≠g/\o≠d) (J:d∉t) (E:m=s++fs) (G:∀k∈q.take j,∀p∈gW b k,p∈m) (F:∀p∈(gW b c).take i,p∈m) (v:∀k∈m,gF b a k) (e:r=[O (.ref h),O (.str a),O (.ref g),O (.ref l),O (.ref d),O (.str c),u]):YL H b a h g l d s q j c o i r n
abbrev Lr:Z af:=["hearth","name"]
def sU:aP ["hearth","name","lines","newest","further","one","parent"] Lr (aJ GQ):=.aY
theorem Zcf(F:aM K "lines_up" "lines_up" GQ f fd)(Et:cO P w K B I 1 "parents_of" C kR (Og C CL CJ)):aE P w K B I aL 2 f fd Lr (R1 C CL CJ):=by
 refine F.o sU λs H hr h=>?_;obtain⟨l,b,xs,ys,a,rfl,ba,ok,ma,q⟩:=h;refine⟨_,(aj (bR 2 sU.nd (yn (jV (pv 1) (cU (aa (pv 1) ae)) yk) rfl rfl (λz=>nomatch z) (Jl rfl))) (aj (bR 3 sU.nd (cU (aa (pv 1) ae))) (aj (AX eJ (yb (K:=K) rfl (ye (pv 3) (λ_=>rfl))) (aj (bR 4 sU.nd (cU ae)) (aj (dE eJ rfl (dH (K:=K) rfl (pv 3)) (aV 5 sU.nd) (av (dE eJ rfl (dH (K:=K) rfl (dh Et hr (by decide) (pv 0) (aa (pv 5) ae))) (aV 6 sU.nd) (av (aU (jX (mY (bo hr) (pv 6) (pv 2)) QU) (aj (lX (bo hr) (pv 2) (pv 6) (bh Bi (de (bo hr) (pv 2) (pv 5) (λ_ _=>rfl)) (cU (aa (pv 6) ae)))) (av (bZ (j9 (K:=K) rfl (gT ij ku kr kF (pv 4) (aa (pv 6) ae)))))) a8))))) (av (bR 3 sU.nd (pv 4)))))) (av (aI (pv 2)))))),?_⟩;refine l5 ?_;intros;have sz:(10000:Nat)<=sizeLine:=by rw[dg];decide
 have im:=ok.m;refine bW ?_;refine λln YM=>⟨_,rfl,_,rfl,by show 1<=sizeLine;decide,λll H0 YN g0 hll=>?_⟩;refine⟨g0 _ _ aT,[(.inr a,.ref ll)],rfl,(by show 1<=15;decide),?_⟩;obtain⟨H1,mP⟩:∃H1,H1=upd H0 ln (.dK (oC [] [(.inr a,.ref ll)])):=⟨_,rfl⟩;rw[←mP];have YO:ll≠ln:=λz=>by rw[z,aT] at YN;cases YN
 have g1:ag H H1:=λc o e=>by
  have nc:=bP e YM;rw[mP,aN nc];exact g0 _ _ (by rw[aN nc];exact e)
 have YQ:rP H H1 ln [a] [ll]:=⟨g1,by rw[mP,aT];rfl,rfl,λc L=>by
  rw[Yd.mp L];exact⟨[.str a],by rw[mP,aN YO];exact hll,Yh _,YO⟩,QS⟩
 refine bW ?_;refine⟨_,rfl,by show 1<=sizeLine;decide,λnw H2 YR g2 hnw=>?_⟩;have YS:nw≠ln:=λz=>by rw[z,YQ.at_] at YR;cases YR
 have KU:∀{Ha Hb:Hp} {y:Z af} {as:Z U},rP H Ha ln y as->ag Ha Hb->rP H Hb ln y as:=λD g=>⟨D.same.trans g,g _ _ D.at_,D.len,λc L=>by obtain⟨R,e,z,n⟩:=D.lst c L;exact⟨R,g _ _ e,z,n⟩,D.nd⟩;refine eC (λJ H6=>∃y as,rP H H6 ln y as/\(∀z,z∈y↔gF b a z)/\∃o3 o4 o5 o6:bw V,J=[O (.ref l.h),O (.str a),O (.ref ln),o3,o4,o5,o6]) (λjT dG=>?_) ?_
 ·refine AY (YK H b a l.h ln) (y9 ln 100) ⟨[a],[a],[ll],nw,aF,aF,aF,KU YQ g2,hnw,YS,λ_ h=>h,λk d no=>absurd d no,λk d=>by rw[Yd.mp d];exact .refl,Yg,by show 1<=64;decide,rfl⟩ ?_ ?_
  ·rintro J H6 ⟨y,E,as,nw,o4,o5,o6,D,hn,nn,sub,cl,sd,YT,uG,rfl⟩;have kf:y.length<=64:=Yy (Ii ok D.nd λk d=>A9 ok ma (sd k d)) im;refine⟨_,rfl,_,.inl ⟨_,aq.of hn,rfl⟩,?_⟩;refine bA (λc=>?_) (λc=>?_)
   ·have ZkF:E≠[]:=λz=>by rw[z] at c;cases c
    have Nj:y9 ln 100 [O (.ref l.h),O (.str a),O (.ref ln),O (.ref nw),o4,o5,o6] H6=2*(100-y.length)+1:=by
     unfold y9;have kl:(iW y as).length=y.length:=by unfold iW;rw[Ya,Jr];have:=D.len;omega
     have g3:List.getD (α:=bw V) [O (.ref l.h),O (.str a),O (.ref ln),O (.ref nw),o4,o5,o6] 3 aF=O (.ref nw):=rfl;rw[D.at_,g3];dsimp only;rw[hn,kl];cases E with
     |nil=>exact absurd rfl ZkF
     |cons x r=>rfl
    refine bW ?_;refine⟨by show 0<=sizeLine;exact Yx _,λfu H7 kC g7 Nk=>?_⟩;have zO:=KU D g7;have fln:fu≠ln:=λz=>by rw[z,D.at_] at kC;cases kC
    have fnw:fu≠nw:=λz=>by rw[z,hn] at kC;cases kC
    refine eC (Ni H b a l.h ln nw fu y E E.length) (λqK h_=>?_) ?_
    ·refine⟨_,rfl,nw,rfl,⟨_,aq.of (g7 _ _ hn)⟩,fH (K:=K) (a:=nw) (xs:=E.map V.str) (Ni H b a l.h ln nw fu y E) ⟨y,[],as,o5,o6,zO,g7 _ _ hn,Nk,⟨nn,fln,fnw⟩,(λz=>by obtain⟨R,e,_⟩:=D.lst _ z;rw[kC] at e;cases e),by rw[Y8],λk d=>(by rw[Dk] at d;cases d),sd,rfl⟩ (λj J H8 _ ⟨_,_,_,_,_,_,h,_,_,_,_,_,_,_⟩=>aq.of h) ?_ ?_⟩
     ·rintro j v J H8 hj ⟨fF,fs,DP,p5,p6,N,YU,iX,z6,YV,Q,jw,DQ,rfl⟩;rw[Yi] at hj;obtain⟨one,e1,rfl⟩:∃one,E[j]?=O one/\V.str one=v:=by
       cases z:E[j]? with
       |none=>rw[z] at hj;cases hj
       |some o=>rw[z] at hj;exact⟨o,rfl,Yo hj⟩
      have Nl:E.take (j+1)=E.take j++[one]:=by rw[Yz,e1];rfl
      have ZlU:one∈fF:=by rw[Q];exact Yk _ (sub _ (Yj e1))
      have YW:=ba.same N.same;obtain⟨dx8,h8⟩:=YW.obj;obtain⟨pe,pin,MU⟩:=OP ok one;refine aQ ?_;refine⟨_,rfl,l.h,dx8,_,rfl,h8,rfl,_,rfl,l,b,xs,ys,one,rfl,YW,λpl H9 z7 g9 cj=>?_⟩;rw[pe] at cj;have pln:pl≠ln:=λz=>by rw[z,N.at_] at z7;cases z7
      have plf:pl≠fu:=λz=>by rw[z,iX] at z7;cases z7
      refine⟨pl,rfl,⟨_,aq.of cj⟩,fH (K:=K) (a:=pl) (xs:=(gW b one).map V.str) (YL H b a l.h ln nw fu y E j one pl) ⟨fF,fs,DP,p6,KU N g9,g9 _ _ YU,g9 _ _ iX,cj,⟨z6.1,z6.2.1,z6.2.2,pln,plf⟩,YV,Q,jw,λp t=>(by rw[Dk] at t;cases t),DQ,rfl⟩ (λi J HA _ ⟨_,_,_,_,_,_,_,h,_,_,_,_,_,_,_⟩=>aq.of h) ?_ ?_⟩
      ·rintro i v J HA hi ⟨ia,pj,DR,q6,A,DS,X,Nm,G,z8,W,DT,z9,T,rfl⟩;rw[Yi] at hi;obtain⟨par,e2,rfl⟩:∃par,(gW b one)[i]?=O par/\V.str par=v:=by
        cases z:(gW b one)[i]? with
        |none=>rw[z] at hi;cases hi
        |some o=>rw[z] at hi;exact⟨o,rfl,Yo hi⟩
       have mp:=Yj e2;have YX:(gW b one).take (i+1)=(gW b one).take i++[par]:=by rw[Yz,e2];rfl
       have VM:one∈ia:=by rw[W];exact Yk _ (sub _ (Yj e1))
       have kf9:ia.length<=64:=Yy (Ii ok A.nd λk d=>A9 ok ma (T k d)) im;refine aQ ?_;by_cases uv:par∈ia
       ·obtain⟨ap,_,vp⟩:=JD A.len uv;refine⟨_,rfl,_,rfl,ln,O (.ref ap),rfl,cP A.at_ vp,_,rfl,bV (aW ?_)⟩;refine⟨ia,pj,DR,_,A,DS,X,Nm,G,z8,W,DT,λp t=>?_,T,rfl⟩;rw[YX] at t;rcases Ym.mp t with t|t;·exact z9 p t
        ·rw[Yd.mp t];exact uv
       ·obtain⟨ao,mao,vo⟩:=JD A.len VM;obtain⟨R,Nn,ul,aon⟩:=A.lst ao mao;refine⟨_,rfl,_,rfl,ln,aF,rfl,cP A.at_ (IF A.len uv),_,rfl,dk ?_⟩;refine⟨_,rfl,_,rfl,ln,.ref ao,rfl,cP A.at_ vo,_,rfl,by show 1<=sizeLine;decide,λe1l HB neb gB heB=>?_⟩;refine⟨ao,e1l,R,_,rfl,rfl,gB _ _ Nn,heB,by show R.length+1<=sizeLine;omega,λnl HC Np gC hnl=>?_⟩;have YY:=gB.trans gC;refine⟨_,rfl,_,rfl,ln,_,.inr par,rfl,YY _ _ A.at_,rfl,?_,λHD bD eD=>?_⟩;·unfold iW;rw[Ya,Jr];omega
        rw[iZ _ (IF A.len uv),QF par nl A.len] at eD;have VN:nl≠ln:=λz=>by rw[z,gB _ _ A.at_] at Np;cases Np
        have kD:∀{c:U} {o:HO},HA c=O o->c≠ln->HD c=O o:=λ{c o} e n=>bD _ _ (YY _ _ e) n;have YZ:HA nl=aF:=gB.free Np;refine⟨_,rfl,.inl ⟨rfl,_,aq.of (kD X G.2.1)⟩,_,rfl,fu,_,_,rfl,rfl,kD X G.2.1,?_,λHE bE eE=>?_⟩
        ·rw[Ya];have:pj.length<=ia.length:=by rw[W,Ye];exact Nat.le_add_left _ _
         omega
        have kE:∀{c:U} {o:HO},HA c=O o->c≠ln->c≠fu->HE c=O o:=λ{c o} e n1 n2=>bE _ _ (kD e n1) n2;have VO:nl≠fu:=λz=>by rw[z,X] at YZ;cases YZ
        refine⟨ia++[par],pj++[par],DR++[nl],_,⟨λc o e=>?_,bE _ _ eD (λz=>G.2.1 z.symm),by rw[Ye,Ye,A.len];rfl,λc L=>?_,?_⟩,kE DS G.1 (λz=>G.2.2.1 z.symm),?_,kE Nm G.2.2.2.1 G.2.2.2.2,G,(λz=>by rcases Ym.mp z with z|z;exact z8 z;exact VO (Yd.mp z).symm),by rw[W,Jd],λk d p t=>Yk _ (DT k d p t),λp t=>?_,λk d=>?_,rfl⟩
        ·have nc:=bP e YM;have ncf:c≠fu:=bP e ((D.same.free kC));exact kE (A.same _ _ e) nc ncf
        ·rcases Ym.mp L with L|L
         ·obtain⟨us',e',z',n'⟩:=A.lst c L;have cf:c≠fu:=λz=>z8 (by rw[←z];exact L);exact⟨us',kE e' n' cf,by rw[Ye];exact jm z',n'⟩
         ·rw[Yd.mp L];exact⟨R++[.str par],bE _ _ (bD _ _ hnl VN) VO,by rw[Ye,Ye];show R.length+1<=ia.length+1;omega,VN⟩
        ·refine Wc.mpr ⟨A.nd,QS,λu hu v hv z=>?_⟩;have:v=par:=by simpa using hv
         exact uv (by rw[←this,←z];exact hu)
        ·rw[eE,Yp];rfl
        ·rw[YX] at t;rcases Ym.mp t with t|t;·exact Yk _ (z9 p t)
         ·rw[Yd.mp t];exact Yl _ Yg
        ·rcases Ym.mp d with d|d;·exact T k d
         ·rw[Yd.mp d];exact .step (T one VM) mp
      ·rintro J HA ⟨ia,pj,DR,q6,A,DS,X,Nm,G,z8,W,DT,z9,T,rfl⟩;rw[Ya,Y7] at z9;refine⟨ia,pj,DR,_,_,A,DS,X,⟨G.1,G.2.1,G.2.2.1⟩,z8,W,λk d=>?_,T,rfl⟩;rw[Nl] at d;rcases Ym.mp d with d|d;·exact DT k d
       ·rw[Yd.mp d];exact z9
     ·rintro J H8 h8;rw[Ya] at h8;exact h_ _ _ h8
    ·rintro J H8 ⟨fF,fs,DP,p5,p6,N,YU,iX,z6,YV,Q,jw,DQ,rfl⟩;rw[Y7] at jw;refine⟨_,rfl,?_⟩;have kf8:fF.length<=64:=Yy (Ii ok N.nd λk d=>A9 ok ma (DQ k d)) im;have Y_:fF.length=y.length+fs.length:=by rw[Q,Ye]
     refine⟨⟨fF,fs,DP,fu,_,_,_,N,iX,z6.2.1,λk d=>by rw[Q];exact Yl _ d,λk d no p t=>?_,DQ,by rw[Q];exact Yk _ YT,QO,rfl⟩,?_⟩
     ·rw[Q] at d;rcases Ym.mp d with d|d
      ·by_cases z:k∈E;·exact jw k z p t
       ·rw[Q];exact Yk _ (cl k d z p t)
      ·exact absurd d no
     ·rw[Nj];show y9 ln 100 [O (.ref l.h),O (.str a),O (.ref ln),O (.ref fu),O (.ref fu),p5,p6] H8<_;unfold y9;have kl:(iW fF DP).length=fF.length:=by unfold iW;rw[Ya,Jr];have:=N.len;omega
      have g3:List.getD (α:=bw V) [O (.ref l.h),O (.str a),O (.ref ln),O (.ref fu),O (.ref fu),p5,p6] 3 aF=O (.ref fu):=rfl;rw[N.at_,g3];dsimp only;rw[iX,kl];cases fs with
      |nil=>
       show 2*(100-fF.length)+0<_;have:fF.length=y.length+0:=Y_;omega
      |cons x r=>
       show 2*(100-fF.length)+1<_;have:fF.length=y.length+(r.length+1):=Y_;omega
   ·have nse:E=[]:=by
     cases E with
     |nil=>rfl
     |cons x r=>exact absurd rfl c
    subst nse;refine dG _ _ ⟨y,as,D,λz=>⟨λh=>sd z h,λh=>?_⟩,_,_,_,_,rfl⟩;induction h with
    |refl=>exact YT
    |step _ m ih=>exact cl _ ih (λz=>nomatch z) _ m
  ·rintro J H6 Q1 Q2 mo ⟨v1,w1,v2,w2,h⟩;exact⟨v1,w1,v2,w2,mo _ _ h⟩
 ·rintro J H6 ⟨y,as,D,iff,o3,o4,o5,o6,rfl⟩;exact⟨_,rfl,q ln y as H6 D iff⟩
def fX(a:bO)(i:Nat):af:=(a.getD i ("","")).2
def pW(d:(a.map (·.1)).Nodup)(c:i<a.length):aH (hV a) (.inr (aw a i))=O (.str (fX a i)):=by
 have b:((hV a).map (·.1)).Nodup:=by
  grind
 refine JA b (Yf.mpr ⟨a[i],Ji c,?_⟩);unfold aw fX
 grind
def mw(k h t:af):cm:=if k="mother" then decide (t="woman") else if k="father" then decide (t="man") else decide (k="sibling")||(decide (h="man")&&decide (t="woman"))
inductive R3(a:Z V)(H:Hp)(Q:VK)(E:XK):Prop
 |mk (k h t:af) (b:a=[.str k,.str h,.str t]) (q:Q (.bl (mw k h t)) H)
structure TC(b:BS)(k a:af)(o:af):Prop where
 par:cV k=ar->[.inr k,.inr a]∉(cD b.ps b.fs).map (·.1)
 aG:cV k=a_->keyOf k a (.inr o)∉b.keys/\¬(k="sibling"/\a=o)
inductive TH(C CL CJ:U)(g:Z V)(H:Hp)(Q:VK)(E:XK):Prop
 |mk (l:BL) (b:BS) (e d:Z Int) (k a o:af) (i:g=[.ref l.h,.str k,.str a,.str o]) (h:bF H C CL CJ l e d b) (un:TC b k a o) (q:∀c,ag H c->Q (.bl a_) c)
inductive QH(C CL CJ:U)(h:Z V)(H:Hp)(Q:VK)(E:XK):Prop
 |mk (l:BL) (b:BS) (d c:Z Int) (e a:af) (k:h=[.ref l.h,.str e,.str a]) (j:bF H C CL CJ l d c b) (ok:cE d c b) (i:a∈b.ps.map (·.1)) (no:¬gF b a e) (q:∀g,ag H g->Q .aC g)
structure KW(xs ys:Z Int)(b:BS)(c:Fc):Prop where
 nf:Cp xs ys b c
 ns:c.k≠bj
 dy:mw c.k (fX b.ps c.one) (fX b.ps c.aG.toNat)=ar
 un:TC b c.k (aw b.ps c.one) (aw b.ps c.aG.toNat)
 el:cV c.k=ar->¬gF b (aw b.ps c.aG.toNat) (aw b.ps c.one)
inductive QI(C CL CJ:U)(g:Z V)(H:Hp)(Q:VK)(E:XK):Prop
 |mk (l:BL) (b:BS) (d a:Z Int) (c:Fc) (i:g=[.ref l.h,.str c.k,.str (aw b.ps c.one),.str (aw b.ps c.aG.toNat)]) (h:bF H C CL CJ l d a b) (ok:cE d a b) (to:KW d a b c) (q:∀e,ag H e->Q .aC e)
inductive TK(C CL CJ:U)(h:Z V)(H:Hp)(Q:VK)(E:XK):Prop
 |mk (l:BL) (b:BS) (d a:Z Int) (c:Fc) (j:h=[.ref l.h,.str c.k,.str (aw b.ps c.one),.str (aw b.ps c.aG.toNat)]) (i:bF H C CL CJ l d a b) (ok:cE d a b) (to:KW d a b c) (dl:b.dn.length<200) (q:∀(g:BL) (e:Hp),cC H e l g->bF e C CL CJ g d a (b.yO c)->Q (.int (b.co:Int)) e)
structure UN(xs ys:Z Int)(b:BS)(c:Fc):Prop where
 nf:Cp xs ys b c
 sk:c.k=bj
inductive QL(C CL CJ:U)(g:Z V)(H:Hp)(Q:VK)(E:XK):Prop
 |mk (l:BL) (b:BS) (d a:Z Int) (c:Fc) (j:g=[.ref l.h,.str (aw b.ps c.one),.int c.aG]) (i:bF H C CL CJ l d a b) (ok:cE d a b) (h:UN d a b c) (q:∀e,ag H e->Q .aC e)
inductive Pz(C CL CJ:U)(e:Z V)(H:Hp)(Q:VK)(E:XK):Prop
 |mk (l:BL) (b:BS) (a d:Z Int) (i:Int) (j:e=[.ref l.h,.int i]) (h:bF H C CL CJ l a d b) (g:0<=i/\i<(a.length:Int)) (q:∀c,ag H c->Q .aC c)
inductive TL(C CL CJ:U)(h:Z V)(H:Hp)(Q:VK)(E:XK):Prop
 |mk (l:BL) (b:BS) (d a:Z Int) (c:Fc) (k:h=[.ref l.h,.str (aw b.ps c.one),.int c.aG]) (j:bF H C CL CJ l d a b) (ok:cE d a b) (i:UN d a b c) (dl:b.dn.length<200) (q:∀(g:BL) (e:Hp),cC H e l g->bF e C CL CJ g d a (b.yO c)->Q (.int (b.co:Int)) e)
def dR(x y:af):decide (V.str x=V.str y)=decide (x=y):=by
 grind
abbrev Ct:Z af:=["kind","here","there"]
def Zbq:aP Ct Ct (aJ Gb):=.aY
theorem Zbr(F:aM K "sides_fit" "sides_fit" Gb f fd)(c:B "MAN"=O (.str "man" t1))(d:B "WOMAN"=O (.str "woman" m))(i:B "SIBLING"=O (.str "sibling" t3)):aE P w K B I aL 1 f fd Ct R3:=by
 refine F.o Zbq λs H n h=>?_;obtain⟨k,h,t,rfl,q⟩:=h;refine⟨_,(aj (aU (bH cq (pv 0) a9) (av (aI (dW cq (pv 2) (dq (v:=.str "woman") rfl d ⟨_,rfl⟩)))) a8) (aj (aU (bH cq (pv 0) a9) (av (aI (dW cq (pv 2) (dq (v:=.str "man") rfl c ⟨_,rfl⟩)))) a8) (av (aI (BO (dW cq (pv 0) (dq (v:=.str "sibling") rfl i ⟨_,rfl⟩)) (l4 (pZ (dW cq (pv 1) (dq (v:=.str "man") rfl c ⟨_,rfl⟩)) (l4 (dW cq (pv 2) (dq (v:=.str "woman") rfl d ⟨_,rfl⟩)))))))))),?_⟩;unfold mw at q;refine⟨_,rfl,rfl,_,rfl,?_⟩;rw[dR];refine bA (λa=>?_) (λa=>aW ?_)
 ·rw[bS (eH a)] at q;refine⟨_,rfl,rfl,?_⟩;rwa[dR]
 ·rw[bt (λz=>a (du z))] at q;refine⟨_,rfl,rfl,_,rfl,?_⟩;rw[dR];refine bA (λb=>?_) (λb=>aW ?_)
  ·rw[bS (eH b)] at q;refine⟨_,rfl,rfl,?_⟩;rwa[dR]
  ·rw[bt (λz=>b (du z))] at q;refine⟨_,rfl,rfl,_,rfl,?_⟩;rw[dR];refine bA (λl=>?_) (λl=>?_);·grind
   ·have j:decide (k="sibling")=a_:=by
     cases e:decide (k="sibling") with
     |true=>grind
     |false=>rfl
    rw[j,C7] at q;refine⟨_,rfl,rfl,_,rfl,?_⟩;rw[dR];refine bA (λg=>?_) (λg=>?_)
    ·rw[g,Jb] at q;refine⟨_,rfl,rfl,?_⟩;rwa[dR]
    ·grind
abbrev rQ:Z af:=["hearth","kind","one","other"]
def Zar:aP rQ rQ (aJ E3):=.aY
theorem Zg2(F:aM K "told_already" "told_already" E3 f fd)(E:B "SIBLING"=O (.str "sibling" t1))(J:B "PARENTS"=O (.ref g))(D:∀H,aB K H g (ji.map V.str))(L:cO P w K B I 1 "parent_of" C Co (ON C CL CJ))(x:cO P w K B I 2 "has" C qt (KR C CL CJ)):aE P w K B I aL 3 f fd rQ (TH C CL CJ):=by
 refine F.o Zar λs H p h=>?_;obtain⟨l,b,n,m,k,a,o,rfl,j,un,q⟩:=h;refine⟨_,(aj (aU (fK (k9 (K:=K) rfl) (pv 1) (dq (v:=.ref g) rfl J rfl) QU) (av (aI (dW Bc (dh L p (by decide) (pv 0) (aa (pv 1) (aa (pv 2) ae))) kJ))) a8) (av (aI (BO (dh x p (by decide) (pv 0) (aa (pv 1) (aa (pv 2) (aa (pv 3) ae)))) (l4 (pZ (dW cq (pv 1) (dq (v:=.str "sibling") rfl E ⟨_,rfl⟩)) (l4 (dW cq (pv 2) (pv 3))))))))),?_⟩;refine hP ?_;intros;obtain⟨t,r⟩:=j.obj;refine⟨_,rfl,g,_,rfl,.inr (D _),rfl,rfl,_,rfl,?_⟩;try dsimp only
 rw[bt Yq,Bs k];refine bA (λi=>?_) (λi=>aW ?_)
 ·refine⟨_,rfl,l.h,t,_,rfl,r,rfl,_,rfl,_,rfl,l,b,n,m,k,a,rfl,j,λd c=>?_⟩;rw[oj (un.par i)];exact⟨rfl,q d c⟩
 ·have G:cV k=a_:=by
   cases e:cV k with
   |true=>exact absurd e i
   |false=>rfl
  obtain⟨A,y⟩:=un.aG G;refine⟨_,rfl,l.h,t,_,rfl,r,rfl,_,rfl,_,rfl,_,rfl,l,b,n,m,k,a,.inr o,rfl,j,λ_=>⟨o,rfl⟩,λd c=>⟨_,rfl,?_⟩⟩;have e:b.told (keyOf k a (.inr o))=a_:=by
   cases e:b.told (keyOf k a (.inr o)) with
   |true=>exact absurd ((Qv _ _).mp e) A
   |false=>rfl
  rw[e];refine bV ?_;refine⟨_,rfl,rfl,_,rfl,?_⟩;rw[dR];refine bA (λu=>?_) (λu=>?_)
  ·refine⟨_,rfl,_,rfl,rfl,?_⟩;rw[dR,fb (λz=>y ⟨eH u,z⟩)];exact q d c
  ·exact q d c
abbrev Ls:Z af:=["hearth","child","parent"]
def NW:aP ["hearth","child","parent","lines"] Ls (aJ E4):=.aY
def Zas(F:aM K "check_elders" "check_elders" E4 f fd)(n:HasFn P w K B I 2 "lines_up" Lr (R1 C CL CJ)):aE P w K B I aL 4 f fd Ls (QH C CL CJ):=by
 refine F.o NW λs H c h=>?_;obtain⟨l,b,e,d,k,g,rfl,m,ok,j,no,q⟩:=h;refine⟨_,(aj (bR 3 NW.nd (aZ n c (aa (pv 0) (aa (pv 2) ae)))) (av (aU (jX (BD (bo c) (pv 1) (pv 3)) QU) gH a8))),?_⟩;refine⟨_,rfl,_,rfl,l,b,e,d,g,rfl,m,ok,j,λp r t o a iff=>aQ ?_⟩;have i:=λz=>no ((iff k).mp z);exact⟨_,rfl,_,rfl,p,aF,rfl,cP a.at_ (IF a.len i),_,rfl,bV (aW (q o a.same))⟩
def Zbs:aP rQ rQ (aJ Ga):=.aY
def Zbt(F:aM K "check_tie" "check_tie" Ga f fd)(x:B "PARENTS"=O (.ref j))(t:∀H,aB K H j (ji.map V.str))(u:HasFn P w K B I 1 "is_tie" ["kind"] Bp)(G:HasFn P w K B I 1 "sides_fit" Ct R3)(k:cO P w K B I 1 "side_of" C kR (ID C CL CJ))(L:HasFn P w K B I 3 "told_already" rQ (TH C CL CJ))(J:HasFn P w K B I 4 "check_elders" Ls (QH C CL CJ)):aE P w K B I aL 6 f fd rQ (QI C CL CJ):=by
 refine F.o Zbs λs H a h=>?_;obtain⟨l,b,g,e,c,rfl,d,ok,to,q⟩:=h;refine⟨_,(aj (aU (jY (eP (aZ u a (aa (pv 1) ae)))) gH a8) (aj (aU (jY (eP (aZ G a (aa (pv 1) (aa (dh k a (by decide) (pv 0) (aa (pv 2) ae)) (aa (dh k a (by decide) (pv 0) (aa (pv 3) ae)) ae)))))) gH a8) (aj (aU (eP (aZ L a (aa (pv 0) (aa (pv 1) (aa (pv 2) (aa (pv 3) ae)))))) gH a8) (av (aU (fK (k9 (K:=K) rfl) (pv 1) (dq (v:=.ref j) rfl x rfl) QU) (av (bZ (aZ J a (aa (pv 0) (aa (pv 2) (aa (pv 3) ae)))))) a8))))),?_⟩;refine l5 ?_;intros;obtain⟨o,n⟩:=d.obj;obtain⟨r,A,N⟩:=FY (to.nf.fg.v9 to.ns);have y:mF kQ c.k=ar:=by unfold mF;rw[A];rfl
 have m:=(to.nf.fg.ok.iI to.ns).1.2;refine⟨_,rfl,c.k,rfl,_,rfl,?_⟩;rw[y];refine⟨_,rfl,_,rfl,l.h,o,_,rfl,n,rfl,_,rfl,l,b,g,e,_,_,rfl,d,pW ok.nm to.nf.fg.ok.one,⟨_,rfl,l.h,o,_,rfl,n,rfl,_,rfl,l,b,g,e,_,_,rfl,d,pW ok.nm m,⟨c.k,_,_,rfl,_,rfl,?_⟩⟩⟩;rw[to.dy];refine⟨_,rfl,_,rfl,_,rfl,_,rfl,l,b,g,e,c.k,_,_,rfl,d,to.un,λE i=>⟨_,rfl,bV (aW ⟨_,rfl,j,_,rfl,.inr (t _),rfl,rfl,_,rfl,?_⟩)⟩⟩;rw[bt Yq,Bs c.k];refine bA (λp=>⟨_,rfl,_,rfl,_,rfl,l,b,g,e,_,_,rfl,d.same i,ok,tG m,to.el p,λD z=>q D (i.trans z)⟩) (λp=>aW (q E i))
abbrev Cu:Z af:=["hearth","section"]
def Zah:aP Cu Cu (aJ EL):=.aY
def Zai(F:aM K "check_section" "check_section" EL f fd)(c:fQ K C)(a:v8 K CL)(r:Bl B):aE P w K B I aL 1 f fd Cu (Pz C CL CJ):=by
 refine F.o Zah λs H J h=>?_;obtain⟨l,b,v,u,i,rfl,d,g,q⟩:=h;refine⟨_,(av (aU (fK Zbe (pv 1) (fh FK rfl r.jW vJ (aa (vN rfl (pF K 0) rfl) ae)) QU) gH a8)),?_⟩;obtain⟨n,k⟩:=d.obj;obtain⟨o,L,z,A,x,G,D,E,N,j,_⟩:=d.landAt;refine⟨_,rfl,_,rfl,l.h,C,n,_,_,rfl,k,c.cls,c.vU,rfl,l.L,CL,o,_,_,rfl,j,a.cls,a.tM,rfl,_,rfl,λp t y m e=>?_⟩;refine⟨_,_,_,p,rfl,rfl,e,_,rfl,?_⟩;rw[bS rfl,du g];exact bV (aW (q t m))
abbrev Cv:Z af:=["hearth","name","section"]
def Zat:aP Cv Cv (aJ E5):=.aY
theorem Zau(F:aM K "check_saying" "check_saying" E5 f fd)(r:B "SAID"=O (.str "said" t1))(p:cO P w K B I 1 "side_of" C kR (ID C CL CJ))(y:HasFn P w K B I 1 "check_section" Cu (Pz C CL CJ))(o:cO P w K B I 2 "has" C qt (KR C CL CJ)):aE P w K B I aL 3 f fd Cv (QL C CL CJ):=by
 refine F.o Zat λs H j h=>?_;obtain⟨l,b,i,g,c,rfl,d,ok,a,q⟩:=h;refine⟨_,(aj (bZ (dh p j (by decide) (pv 0) (aa (pv 1) ae))) (aj (bZ (aZ y j (aa (pv 0) (aa (pv 2) ae)))) (av (aU (eP (dh o j (by decide) (pv 0) (aa (dq (v:=.str "said") rfl r ⟨_,rfl⟩) (aa (pv 1) (aa (pv 2) ae))))) gH a8)))),?_⟩;refine i1 ?_;intros;obtain⟨n,m⟩:=d.obj;refine⟨_,rfl,l.h,n,_,rfl,m,rfl,_,rfl,l,b,i,g,_,_,rfl,d,pW ok.nm a.nf.fg.ok.one,⟨_,rfl,_,rfl,l,b,i,g,c.aG,rfl,d,a.nf.fg.Lp a.sk,λA k=>⟨_,rfl,l.h,n,_,rfl,k _ _ m,rfl,_,rfl,_,rfl,l,b,i,g,"said",aw b.ps c.one,.inl c.aG,rfl,d.same k,(λz=>absurd z QK),λx t=>⟨_,rfl,?_⟩⟩⟩⟩;have u:keyOf "said" (aw b.ps c.one) (.inl c.aG)=fV b.ps c:=by
  unfold fV;rw[oo a.sk,a.sk]
 have e:b.told (keyOf "said" (aw b.ps c.one) (.inl c.aG))=a_:=by
  cases e:b.told (keyOf "said" (aw b.ps c.one) (.inl c.aG)) with
  |true=>exact absurd ((Qv _ _).mp e) (by exact u▸a.nf.nk)
  |false=>rfl
 exact e▸bV (aW (q x (k.trans t)))
def Za3:aP qt qt (aJ FT):=.aY
def Zg3(F:aM K "tie" "Hearth.tie" FT f fd)(g:fQ K C)(A:HasFn P w K B I 6 "check_tie" rQ (QI C CL CJ))(u:cO P w K B I 11 "keep" C ui (Km C CL CJ)):aE P w K B I aL 12 f fd qt (TK C CL CJ):=by
 refine F.o Za3 λs H e h=>?_;obtain⟨l,b,d,a,c,rfl,o,ok,to,dl,q⟩:=h;refine⟨_,(aj (bZ (aZ A e (aa (pv 0) (aa (pv 1) (aa (pv 2) (aa (pv 3) ae)))))) (av (aI (dh u e (by decide) (pv 0) (aa (c5 (aa (pF K 0) (aa (pv 1) (aa (pv 2) (aa (pv 3) ae))))) ae))))),?_⟩;refine hP ?_;intros;refine⟨_,rfl,_,rfl,_,rfl,_,rfl,l,b,d,a,c,rfl,o,ok,to,λG k=>?_⟩;have n:=o.same k;obtain⟨m,i⟩:=n.obj;refine⟨_,rfl,l.h,m,_,rfl,i,rfl,_,rfl,l.h,C,m,_,_,rfl,i,g.cls,g.q0,rfl,_,rfl,_,rfl,_,rfl,by show 4<=sizeLine;decide,λr p D j E=>?_⟩;have y:dF p b.ps r (b.co,c):=by
  show p r=O (.tup ((eM b.ps b.co c).map kV));unfold eM;rwa[ig to.ns]
 refine⟨l,b,d,a,r,c,rfl,n.same j,ok,y,to.nf,dl,λx z t v=>q x z (cC.after (k.trans j) t) v⟩
abbrev Cw:Z af:=["self","name","section"]
def Za4:aP Cw Cw (aJ FU):=.aY
def Zg4(F:aM K "say" "Hearth.say" FU f fd)(i:fQ K C)(y:B "SAID"=O (.str "said" t1))(G:HasFn P w K B I 3 "check_saying" Cv (QL C CL CJ))(x:cO P w K B I 11 "keep" C ui (Km C CL CJ)):aE P w K B I aL 12 f fd Cw (TL C CL CJ):=by
 refine F.o Za4 λs H g h=>?_;obtain⟨l,b,e,d,c,rfl,p,ok,a,dl,q⟩:=h;refine⟨_,(aj (bZ (aZ G g (aa (pv 0) (aa (pv 1) (aa (pv 2) ae))))) (av (aI (dh x g (by decide) (pv 0) (aa (c5 (aa (pF K 0) (aa (dq (v:=.str "said") rfl y ⟨_,rfl⟩) (aa (pv 1) (aa (pv 2) ae))))) ae))))),?_⟩;refine hP ?_;intros;refine⟨_,rfl,_,rfl,_,rfl,l,b,e,d,c,rfl,p,ok,a,λN m=>?_⟩;have o:=p.same m;obtain⟨n,j⟩:=o.obj;refine⟨_,rfl,l.h,n,_,rfl,j,rfl,_,rfl,l.h,C,n,_,_,rfl,j,i.cls,i.q0,rfl,_,rfl,_,rfl,by show 4<=sizeLine;decide,λr t J k L=>?_⟩;have D:dF t b.ps r (b.co,c):=by
  show t r=O (.tup ((eM b.ps b.co c).map kV));unfold eM;rwa[oo a.sk,a.sk]
 refine⟨l,b,e,d,r,c,rfl,o.same k,ok,D,a.nf,dl,λA E u z=>q A E (cC.after (m.trans k) u) z⟩
def pA(n:Nat)(d:Int):Z Int:=(List.range n).map λi:Nat=>((i:Int)+d) % (n:Int)
def rot_length(n:Nat)(d:Int):(pA n d).length=n:=by simp[pA]
def ZfD(q:0<n)(d:Int):(pA n d).Perm (bJ n):=by
 have g:(0:Int)<(n:Int):=QO
 have j:=Jg d (Me g);have p:=Wz d g;obtain⟨r,k⟩:∃r:Nat,d % (n:Int)=(r:Int):=⟨(d % (n:Int)).toNat,(mU (yK j))⟩;have o:r<n:=QO
 have e:pA n d=(bJ n).drop r++(bJ n).take r:=by
  refine Ww λi=>?_;have a:=fG n;by_cases c:i<n
  ·have b:(pA n d)[i]?=O (((i:Int)+d) % (n:Int)):=by
    unfold pA;rw[Yi,Mm c];rfl
   have l:((i:Int)+d) % (n:Int)=((r:Int)+(i:Int)) % (n:Int):=by
    rw[Int.add_comm,←Int.emod_add_emod,k]
   rw[b,l];by_cases h:r+i<n;·rw[Wa (by rw[DU,a];omega),List.getElem?_drop,mZ h,M6 QO QO,Vr]
   ·rw[W1 (by rw[DU,a];omega),DU,a,zB QO,mZ (Nat.sub_lt_of_lt c)];have m:(r:Int)+(i:Int)=((i-(n-r):Nat):Int)+(n:Int)*1:=QO
    rw[m,Int.add_mul_emod_self_left,M6 (ri _) QO]
  ·rw[Y4 (by rw[rot_length];exact fU c),Y4 (by rw[Ye,DU,We,a];omega)]
 exact e▸List.perm_append_comm.trans (by rw[Jm])
inductive R4(b:Z V)(H:Hp)(Q:VK):Prop
 |mk (c:Int) (n:Nat) (i:b=[.int c,.int (n:Int)]) (h:0<n) (e:n<=60) (g:∀(t:U) (d:Z Int) (a:Hp),H t=aF->ag H a->b_ a t d->d.Perm (bJ n)->Q (.ref t) a):R4 b H Q
def UO:Sp:=λa H Q _=>R4 a H Q
inductive R5(K:ah)(g:Z V)(H:Hp)(Q:VK):Prop
 |mk (a b:U) (c d:Z Int) (n:g=[.ref a,.ref b]) (m:aB K H a (c.map V.int)) (j:aB K H b (d.map V.int)) (k:(∀x∈c,0<=x/\x<d.length)) (i:c.length<=60) (h:∀(l:U) (e:Hp),H l=aF->ag H e->b_ e l (bT d c)->Q (.ref l) e):R5 K g H Q
def UP(K:ah):Sp:=λa H Q _=>R5 K a H Q
def Zg5(h:Paired Bd ds [a,b]):∃v w,ds=[v,w]/\Bd v a/\Bd w b:=by
 cases h with|cons d h=>cases h with|cons c h=>
  cases h;exact⟨_,_,rfl,d,c⟩
abbrev Lu:Z af:=["_law_cell_here","_law_size"]
def OQ:aP ["_law_cell_here","_law_size","_law_drawn"] Lu (aJ H_):=.aY
def Zde(F:aM K "_law_row" "_law_row" H_ f fd)(L:HasFn P w K B I 1 "_law_draws" zH (Bh K))(Hg:HasFn P w K B I 1 "_law_turn" MF S0)(E:Bl B):
  aE P w K B I aL 2 f fd Lu UO:=by
 refine F.o OQ λs H y h=>?_;obtain⟨c,n,rfl,R,r,q⟩:=h;refine⟨_,(aj (gI (i:=2) OQ.nd rfl (kv rfl) (aZ L y (aa (pv 0) (aa (yx (aa aS (aa aS ae))) ae)))) (aj (aU (bH cq (bc (iL K) (pv 2) aS) aS) (av (aI (fh (u6) rfl E.ou oq (aa (jE (fr:=[("_law_size",1),("_law_drawn",2)]) (cl:=[("_law_size",s.heap.objs.size+1),("_law_drawn",s.heap.objs.size+1+1)]) rfl (.hU ⟨rfl,⟨rfl,trivial⟩⟩ ⟨⟨rfl,.inl rfl,.inl rfl,rfl⟩,⟨⟨rfl,.inl rfl,.inl rfl,rfl⟩,trivial⟩⟩) (pN rfl E.jW (aa (pv 1) ae)) (λ_ _ _ _=>m5) (λ_ _ _ _=>(bh eQ (bh i6 (pv 0) (bc (iL K) (pv 2) aS)) (pv 1)))) ae)))) a8) (av (aI (aZ Hg y (aa (bc (iL K) (pv 2) aS) (aa (pv 1) ae))))))),?_⟩;refine i1 ?_;intros;refine⟨_,rfl,QD,λp Q=>?_⟩;refine⟨c,p,[3,40320],rfl,aq.of aT,QD,QD,λdl ds H1 nd W v bd=>?_⟩;obtain⟨X,a,rfl,⟨a0,a0'⟩,⟨a1,a1'⟩⟩:=Zg5 bd;have g:=(cF Q _).trans W;have m:(0:Int)<(n:Int):=QO
 refine⟨_,rfl,dl,_,0,.int X,rfl,rfl,aq.of v,rfl,rfl,_,rfl,bA (λ_=>?_) (λ_=>aW ?_)⟩
 ·refine⟨_,rfl,(n:Int),rfl,QO,QO,λD A=>xX (λi j e=>ag H1 e/\e D=O (.lst j)/\j=((pA n a).take i).map V.int) ⟨cF A _,aT,rfl⟩ ?_ ?_⟩
  ·rintro i j e z ⟨b,u,k⟩;rw[Y9] at z;rw[Dm];refine mE (dk ⟨_,rfl,_,rfl,dl,_,1,.int a,rfl,rfl,aq.of (b _ _ v),rfl,_,_,rfl,rfl,_,rfl,_,_,rfl,rfl,m,u,?_,λd o x=>?_,aT,?_⟩)
   ·rw[k,Ya,We,rot_length];exact kG QO
   ·rw[aN (bP x A)];exact b d o x
   ·have T:(pA n a)[i]?=O (((i:Int)+a) % (n:Int)):=by
     unfold pA;rw[Yi,Mm z];rfl
    rw[k,Yz,HH,T];rfl
  ·rintro j e ⟨b,u,k⟩;rw[Y9,Wp (by rw[rot_length];exact mR _)] at k;refine⟨D,_,rfl,.inl ⟨aq.of u,λt l=>q t (pA n a) _ (g.free (b.free l)) ((g.trans b).trans (cF l _)) ?_ (ZfD R a)⟩⟩;show upd e t (.tup j) t=_;rw[aT,k]
 ·exact⟨_,rfl,dl,_,1,.int a,rfl,rfl,aq.of v,rfl,_,rfl,a,n,rfl,r,λt G e N b l J=>q t G e (g.free N) (g.trans b) l J⟩
abbrev Cy:Z af:=["_law_first","_law_then"]
def Zbu:aP Cy Cy (aJ Gf):=.aY
def Zbv(F:aM K "_law_after" "_law_after" Gf f fd)(L:Bl B):aE P w K B I aL 1 f fd Cy (UP K):=by
 refine F.o Zbu λs H N h=>?_;obtain⟨a,b,A,y,rfl,r,J,E,Q,q⟩:=h;refine⟨_,(av (aI (fh (u6) rfl L.ou oq (aa (jE (x:="_law_one") (fr:=[("_law_then",1)]) (cl:=[("_law_then",s.heap.objs.size+1)]) rfl (.hU ⟨rfl,trivial⟩ ⟨⟨rfl,.inl rfl,.inl rfl,rfl⟩,trivial⟩) (Bx (pv 0)) (λ_ _ _ _=>m5) (λ_ _ _ _=>(bc (iT K) (pv 1) (pv 0)))) ae)))),?_⟩;refine⟨_,rfl,a,rfl,⟨_,r⟩,λD p=>AZ (λi e g=>ag H g/\g D=O (.lst e)/\e=((bT y A).take i).map V.int) ⟨cF p _,aT,rfl⟩ (λi e g _ ⟨c,_,_⟩=>c.jQ r) ?_ ?_⟩
 ·rintro i v e g G ⟨c,k,j⟩;obtain⟨z,rfl,m⟩:=ot G;have u:=E z (Yj m);refine mE (dk ⟨_,rfl,_,rfl,b,_,_,_,rfl,rfl,c.jQ J,oB u.1 u.2,k,?_,λd o l=>?_,aT,?_⟩)
  ·rw[j,Ya,We,sV];exact kG QO
  ·rw[aN (bP l p)];exact c d o l
  ·rw[j,Yz,HH];unfold bT;rw[Yi,m];rfl
 ·rintro e g ⟨c,k,j⟩;refine⟨D,_,rfl,.inl ⟨aq.of k,λt n=>q t _ (c.free n) (c.trans (cF n _)) ?_⟩⟩;show upd g t (.tup e) t=_;rw[aT,j,Ya,Wp (by rw[sV];exact mR _)]
inductive R6(d:Z V)(H:Hp)(Q:VK):Prop
 |mk (a:U) (b:Z Int) (j:d=[.ref a]) (i:b_ H a b) (g:b.length<64) (h:full b=ar) (e:∀(t:U) (c:Hp),H t=aF->ag H c->b_ c t (inv b)->Q (.ref t) c):R6 d H Q
def KY:Sp:=λa H Q _=>R6 a H Q
abbrev y_:Z af:=["_law_turn_here"]
def ZaK:aP y_ y_ (aJ Fs):=.aY
def Zdf(F:aM K "_law_inverse" "_law_inverse" Fs f fd)(n:Bl B):aE P w K B I aL 1 f fd y_ KY:=by
 refine F.o ZaK λs H G h=>?_;obtain⟨a,c,rfl,z,E,A,q⟩:=h;refine⟨_,(av (aI (fh (u6) rfl n.ou oq (aa (jE (x:="_law_at") (fr:=[("_law_turn_here",0)]) (cl:=[("_law_turn_here",s.heap.objs.size+1)]) rfl (.hU ⟨rfl,trivial⟩ ⟨⟨rfl,.inl rfl,.inl rfl,rfl⟩,trivial⟩) (pN rfl n.jW (aa (dC K n (pv 0)) ae)) (λ_ _ _ _=>m5) (λ_ _ _ _=>(Oa (pv 1) (aa (pv 0) ae)))) ae)))),?_⟩;have j:(c.map V.int).length=c.length:=Ya _;refine⟨_,rfl,a,_,rfl,.inr (aB.of z),_,rfl,by rw[j];omega,by rw[j];omega,λD y=>xX
   (λi b g=>ag H g/\g D=O (.lst b)/\b=((inv c).take i).map V.int) ⟨cF y _,aT,rfl⟩ ?_ ?_⟩
 ·rintro i b g l ⟨e,m,k⟩;rw[Y9,j] at l;rw[Dm];have u:=A4 (Qg A l);have p:=e _ _ z;refine mE (dk ⟨_,rfl,a,c,rfl,p,_,rfl,(i:Int),kP (i:Int) c,rfl,p,u.1,u.2,m,?_,λd o r=>?_,aT,?_⟩)
  ·rw[k,Ya,We,fZ];exact kG QO
  ·rw[aN (bP r y)];exact e d o r
  ·rw[k,Qh l,Yp];rfl
 ·rintro b g ⟨e,m,k⟩;refine⟨D,_,rfl,.inl ⟨aq.of m,λt v=>q t _ (e.free v) (e.trans (cF v _)) ?_⟩⟩;show upd g t (.tup b) t=_;rw[aT,k,Y9,j,Wp (by rw[fZ];exact mR _)]
structure jO(H0 H:Hp)(ps:bO)(d:U)(b:Nat)(kvs:Z (Key×V))(L:Nat->Z (Nat×Z Int)):Prop where
 dict:H d=O (.dK kvs)
 len:kvs.length<=b
 new:H0 d=aF
 at_:∀x:Nat,x<ps.length->(aH kvs (.inr (aw ps x))=aF/\L x=[])\/∃(a:U) (es:Z U),aH kvs (.inr (aw ps x))=O (.ref a)/\H0 a=aF/\H a=O (.lst (es.map V.ref))/\(L x).length<=b/\Paired (λe (p:Nat×Z Int)=>∃u,H e=O (.tup [.str (aw ps p.1),.ref u])/\b_ H u p.2) es (L x)
 inj:∀(x y:Nat) (a:U),x<ps.length->y<ps.length->aH kvs (.inr (aw ps x))=O (.ref a)->aH kvs (.inr (aw ps y))=O (.ref a)->x=y
def yq(b:(a.map (·.1)).Nodup)(d:i<a.length)(c:j<a.length)(e:aw a i=aw a j):i=j:=by
 have g:=tF b d;rw[e,tF b c] at g
 grind
def jO.same(g:ag H s)(h:jO r H e d b c L):jO r s e d b c L:=by
 refine⟨g _ _ h.dict,h.len,h.new,λx i=>?_,h.inj⟩;rcases h.at_ x i with z|⟨a,o,n,m,l,k,j⟩;·exact .inl z
 ·exact .inr ⟨a,o,n,m,g _ _ l,k,L2.Paired.bu j λ_ _ ⟨u,q,p⟩=>⟨u,g _ _ q,g _ _ p⟩⟩
def jO.app(h:jO H0 H i d b l L)(hx:x<i.length)(J:aH l (.inr (aw i x))=O (.ref a))(j:H a=O (.lst ys))(P:H e=O (.tup [.str (aw i y),.ref u]))(N:b_ H u t)(k:aA a H r)(X:r a=O (.lst (ys++[.ref e]))):jO H0 r i d (b+1) l (uf L x (y,t)):=by
 have m:∀{c:U} {G:Z V},H c=O (.tup G)->c≠a:=λ{c G} hc=>eF hc j (λz=>by cases z);refine⟨k _ _ h.dict (eF h.dict j (λz=>by cases z)),by have:=h.len;exact jm this,h.new,λz s=>?_,h.inj⟩;have R:∀{g:Z U} {qs:Z (Nat×Z Int)},Paired (λe (p:Nat×Z Int)=>∃u,H e=O (.tup [.str (aw i p.1),.ref u])/\b_ H u p.2) g qs->Paired (λe (p:Nat×Z Int)=>∃u,r e=O (.tup [.str (aw i p.1),.ref u])/\b_ r u p.2) g qs:=λ{g qs} hp=>L2.Paired.bu hp λ_ _ ⟨u,W,T⟩=>⟨u,k _ _ W (m W),k _ _ T (m T)⟩;by_cases E:z=x
 ·subst E;rcases h.at_ z s with⟨F,_⟩|⟨o,g,n,D,A,Q,v⟩;·grind
  ·obtain rfl:o=a:=V.ref.inj (Yo (n.symm.trans J));rw[A] at j;obtain rfl:g.map V.ref=ys:=by injection j with j;injection j
   refine .inr ⟨o,g++[e],n,D,by rw[X,Yp];rfl,?_,?_⟩;·unfold uf;rw[bS rfl,Ye];show(L z).length+1<=b+1;omega
   ·unfold uf;rw[bS rfl];exact jB ⟨u,k _ _ P (m P),k _ _ (N) (m (N))⟩ (R v)
 ·unfold uf;rw[bt E];rcases h.at_ z s with F|⟨o,g,n,D,A,Q,v⟩;·exact .inl F
  ·refine .inr ⟨o,g,n,D,k _ _ A (λq=>E (h.inj z x a s hx (by rwa[←q]) J)),(jm Q),R v⟩
def jO.neu(X:jO H0 Hb l d b i L)(y:(l.map (·.1)).Nodup)(D:x<l.length)(g:ag Hb H)(np:Hb p=aF)(DV:H0 p=aF)(J:aH i (.inr (aw l x))=aF)(W:H p=O (.lst []))(E:aA d H H')(CO:H' d=O (.dK (i++[(.inr (aw l x),.ref p)]))):jO H0 H' l d (b+1) (i++[(.inr (aw l x),.ref p)]) L:=by
 have h:=X.same g;have R:∀{c:U} {r:Z V},H c=O (.tup r)->c≠d:=λ{c r} N=>eF N h.dict (λz=>by cases z);have T:∀{c:U} {r:Z V},H c=O (.lst r)->c≠d:=λ{c r} N=>eF N h.dict (λz=>by cases z);refine⟨CO,by rw[Ye];have:=h.len;show i.length+1<=b+1;omega,h.new,λz t=>?_,λo n a G A k j=>?_⟩
 ·rw[vC J];by_cases P:z=x
  ·rw[bS (by rw[P])];rcases h.at_ z t with⟨_,n⟩|⟨a1,Q,m,_⟩;·exact .inr ⟨p,[],rfl,DV,E _ _ W (T W),by exact n▸Yx _,by exact n▸.nil⟩
   ·rw[P,J] at m;cases m
  ·rw[bt (λq=>P (yq y t D (Wb q)))];rcases h.at_ z t with o|⟨a1,Q,m,h2,v,h4,h5⟩;·exact .inl o
   ·exact .inr ⟨a1,Q,m,h2,E _ _ v (T v),(jm h4),L2.Paired.bu h5 λ_ _ ⟨u,k,j⟩=>⟨u,E _ _ k (R k),E _ _ j (R j)⟩⟩
 ·have old:∀{z:Nat},z<l.length->aH i (.inr (aw l z))=O (.ref p)->False:=λ{z} t e=>by
   rcases X.at_ z t with⟨o,_⟩|⟨a1,Q,m,h2,v,_⟩;·rw[o] at e;cases e
   ·rw[e] at m;obtain rfl:p=a1:=V.ref.inj (Yo m);rw[np] at v;cases v
  rw[vC J] at k j;by_cases F:o=x
  ·by_cases s:n=x;·rw[F,s]
   ·rw[bS (by rw[F])] at k;rw[bt (λq=>s (yq y A D (Wb q))),←k] at j;exact absurd j (old A)
  ·rw[bt (λq=>F (yq y G D (Wb q)))] at k;by_cases s:n=x
   ·rw[bS (by rw[s])] at j;rw[←j] at k;exact absurd k (old G)
   ·rw[bt (λq=>s (yq y A D (Wb q)))] at j;exact h.inj _ _ a G A k j
def PB(h2:∀H Q,Q (.ref d) H->gf 2 σ H Q)(nd:(ps.map (·.1)).Nodup)(F:x<ps.length)(hi:∀H Q,Q (.str (aw ps x)) H->gf i σ H Q)(hk:∀H Q,Q (.str (aw ps y)) H->gf k σ H Q)(h:jO n H ps d b m L)(g:ag n H)(lb:b<1000)
  (hx:∀(D:Hp) (Q1:VK),ag n D->(∀(u:U) (H2:Hp),ag D H2->b_ H2 u t->Q1 (.ref u) H2)->tx σ D Q1)(q:∀(v:V) (W:Z (Key×V)) (X:Hp),ag n X->jO n X ps d (b+2) W (uf L x (y,t))->Q v X):zo K "list" P8 (Ip (gf 2) (gf i) (UA jL)) (ir (yL (ir (gf k) (ir tx jL))) jL) σ H Q:=by
 have sz:(10000:Nat)<=sizeLine:=by rw[dg];decide
 have ln:=h.len;unfold zo Ip;refine h2 _ _ ⟨d,rfl,.inl ⟨_,.inl h.dict⟩,hi _ _ ⟨by show 0<=sizeLine;exact Yx _,λp D np j J=>⟨m,.inr (aw ps x),j _ _ h.dict,rfl,QO,λv r=>?_,λr H2 T e2=>?_⟩⟩⟩
 ·rcases h.at_ x F with⟨z1,_⟩|⟨a,es,h3,h4,P,h6,h7⟩;·grind
  obtain rfl:v=.ref a:=Yo (r.symm.trans h3);have pl:=cZ h7;refine⟨.inl ⟨rfl,_,aq.of (j _ _ P)⟩,?_⟩;unfold ir yL;refine hk _ _ (hx _ _ (g.trans j) λu H2 g2 G=>⟨by show 2<=sizeLine;decide,λe H3 ne s N=>?_⟩);have A:=(j.trans g2).trans s;refine⟨a,_,_,rfl,rfl,A _ _ P,by rw[Ya];omega,λH4 b4 e4=>?_⟩;have l:=(h.same A).app F h3 (A _ _ P) N (s _ _ G) b4 e4;exact q _ _ H4 (λc o e=>b4 _ _ (A _ _ (g _ _ e)) (bP e h4)) ⟨l.dict,by have:=l.len;exact jm this,l.new,λz hz=>by
   rcases l.at_ z hz with w|⟨a,es,w1,w2,w3,w4,w5⟩;·exact .inl w
   ·exact .inr ⟨a,es,w1,w2,w3,(jm w4),w5⟩,l.inj⟩
 ·have DV:=g.free np;have R:=T _ _ J (eF J (j _ _ h.dict) (λz=>by cases z));have gg:ag n H2:=λc o e=>T _ _ (j _ _ (g _ _ e)) (bP e h.new);refine⟨.inl ⟨rfl,_,aq.of R⟩,?_⟩;unfold ir yL;refine hk _ _ (hx _ _ gg λu H3 s G=>⟨by show 2<=sizeLine;decide,λe H4 ne g4 N=>?_⟩);have E:=s.trans g4;refine⟨p,_,_,rfl,rfl,E _ _ R,by show 0<sizeLine;decide,λH5 b5 e5=>?_⟩;have vx:aH (m++[(Sum.inr (aw ps x),V.ref p)]) (.inr (aw ps x))=O (.ref p):=by rw[vC r,bS rfl]
  exact q _ _ H5 (λc o e=>b5 _ _ (E _ _ (gg _ _ e)) (bP e DV)) (((h.neu nd F j np DV r J T e2).same E).app F vx (E _ _ R) N (g4 _ _ G) b5 e5)
def z_(H:Hp)(b:bO)(a:U)(c:Fc):Prop:=∃z:Int,H a=O (.tup [.int z,.str c.k,.str (aw b c.one),kV (bp b c)])
def FL(H:Hp)(b:bO)(c:U)(F:Z Fc):Prop:=∃a:Z U,H c=O (.lst (a.map V.ref))/\Paired (z_ H b) a F
abbrev vV(m f w s:U):Z (Key×V):=[(.inr "mother",.ref m),(.inr "father",.ref f),(.inr "wed",.ref w),(.inr "sibling",.ref s)]
def iK(H:Hp)(c:U)(a b:Z Int):Prop:=∃m f w s:U,H c=O (.dK (vV m f w s))/\b_ H m (inv a)/\b_ H f (inv (bT a b))/\b_ H w b/\b_ H s (bJ a.length)
def FL.same(g:ag H j)(h:FL H a d F):FL j a d F:=by
 obtain⟨i,c,b⟩:=h;exact⟨i,g _ _ c,L2.Paired.bu b λ_ _ ⟨z,e⟩=>⟨z,g _ _ e⟩⟩
def iK.same(g:ag H j)(h:iK H a xs ys):iK j a xs ys:=by
 obtain⟨m,f,w,s,i,e,d,c,b⟩:=h;exact⟨m,f,w,s,g _ _ i,g _ _ e,g _ _ d,g _ _ c,g _ _ b⟩
def iK.get(h:iK H j xs i)(m:(k,tn)∈rG xs i):∃e u,H j=O (.dK e)/\aH e (.inr k)=O (.ref u)/\b_ H u tn:=by
 obtain⟨a,b,c,d,g,p,o,n,l⟩:=h;simp[Ys,Y1,gV] at m;rcases m with⟨rfl,rfl⟩|⟨rfl,rfl⟩|⟨rfl,rfl⟩|⟨rfl,rfl⟩;·exact⟨_,a,g,rfl,p⟩
 ·exact⟨_,b,g,rfl,o⟩
 ·exact⟨_,c,g,rfl,n⟩
 ·exact⟨_,d,g,rfl,l⟩
inductive TM(k:Z V)(H:Hp)(Q:VK)(E:XK):Prop
 |mk (j i:U) (a:bO) (b h:Z Int) (F:Z Fc) (s:k=[.ref j,.ref i]) (r:FL H a j F) (m:iK H i b h) (l:(a.map (·.1)).Nodup) (p:∀c∈F,fN b h a.length c) (q:b.length<=8) (o:F.length<=64) (n:∀(d:U) (e:Z (Key×V)) (L:Nat->Z (Nat×Z Int)) (g:Hp),ag H g->jO H g a d 300 e L->(∀x y t,(y,t)∈L x↔gk F x y t)->Q (.ref d) g)
abbrev Lv:Z af:=["_law_facts","_law_turns_here"]
def vm:aP ["_law_facts","_law_turns_here","_law_found","_law_number","_law_kind","_law_one","_law_other"] Lv (aJ GW):=.aY
theorem Zg6(F:aM K "_law_nets" "_law_nets" GW f fd)(sQ:HasFn P w K B I 1 "_law_inverse" y_ KY)(bl:Bl B):aE P w K B I aL 2 f fd Lv TM:=by
 refine F.o vm λs H hr h=>?_;obtain⟨R,J,D,xs,ys,F,rfl,lM,ht,jx,fgA,n8,DY,q⟩:=h;refine⟨_,(aj (bR 2 vm.nd pO) (aj (dE eJ rfl (dH (K:=K) rfl (pv 0)) (gc (K:=K) (n:=4) rfl rfl (bq (aV 3 vm.nd) (bq (aV 4 vm.nd) (bq (aV 5 vm.nd) (bq (aV 6 vm.nd) f_))))) (av (aU (bH ni (pv 4) a9) (aj (bZ (j9 (K:=K) rfl (gT ij ku kr kF (OE (pv 2) (pv 5) (cU ae) ⟨rfl,rfl,rfl,rfl⟩) (aa (c5 (aa (pv 6) (aa (de (bo hr) (pv 1) (pv 4) (λ_ _=>rfl)) ae))) ae)))) (av (bZ (j9 (K:=K) rfl (gT ij ku kr kF (OE (pv 2) (pv 6) (cU ae) ⟨rfl,rfl,rfl,rfl⟩) (aa (c5 (aa (pv 5) (aa (aZ sQ hr (aa (de (bo hr) (pv 1) (pv 4) (λ_ _=>rfl)) ae)) ae))) ae)))))) a8))) (av (aI (pv 2))))),?_⟩;refine zt ?_;intro;refine bW ?_;refine λd H1 nd g1 hd=>?_;obtain⟨as,cY,eK⟩:=id lM;have al:=cZ eK;have sz:(10000:Nat)<=sizeLine:=by rw[dg];decide
 refine eC (λl k=>∃(i:Z (Key×V)) (L:Nat->Z (Nat×Z Int)) (r p o m:bw V),ag H k/\jO H k D d 300 i L/\(∀x y t,(y,t)∈L x↔gk F x y t)/\l=[O (.ref R),O (.ref J),O (.ref d),r,p,o,m]) (λjT dG=>?_) ?_
 ·refine⟨_,rfl,R,rfl,⟨_,aq.of (g1 _ _ cY)⟩,fH (K:=K) (a:=R) (xs:=as.map V.ref) (λj l k=>∃(i:Z (Key×V)) (L:Nat->Z (Nat×Z Int)) (r p o m:bw V),ag H k/\jO H k D d (4*j) i L/\(∀x y t,(y,t)∈L x↔gk (F.take j) x y t)/\l=[O (.ref R),O (.ref J),O (.ref d),r,p,o,m])
   ⟨[],λ_=>[],aF,aF,aF,aF,g1,⟨hd,Yh _,nd,λx _=>.inl ⟨rfl,rfl⟩,λ_ _ _ _ _ e=>(nomatch e)⟩,λx y t=>⟨λz=>(nomatch z),λz=>absurd z Zfq⟩,rfl⟩
   (λj l k _ ⟨_,_,_,_,_,_,g,_⟩=>aq.of (g _ _ cY)) ?_ ?_⟩
  ·rintro j v l k E ⟨i,L,r,p,o,m,g,ne,A,rfl⟩;rw[Yi] at E;obtain⟨T,ec,rfl⟩:∃T,as[j]?=O T/\V.ref T=v:=by
    cases e:as[j]? with
    |none=>rw[e] at E;cases E
    |some c=>rw[e] at E;exact⟨c,rfl,Yo E⟩
   obtain⟨c,ju,z,hc⟩:=fY eK ec;have mc:=Yj ju;have fg:=fgA c mc;have ok:=fg.ok;have jl:j<F.length:=(Yn.mp ju).1;have mQ:F.take (j+1)=F.take j++[c]:=by rw[Yz,ju];rfl
   refine⟨T,_,rfl,aB.of (g _ _ hc),rfl,_,_,rfl,aQ ⟨_,_,rfl,aQ ⟨_,_,rfl,aQ ⟨_,_,rfl,aQ ⟨rfl,?_⟩⟩⟩⟩⟩;have ev:∀b:cm,decide (V.str c.k=V.str bj)=b->(b=ar↔c.k=bj):=λb e=>by
    rw[←e,hI];exact⟨V.str.inj,λz=>by rw[z]⟩
   refine⟨_,rfl,rfl,_,rfl,?_⟩;refine bA (λG=>?_) (λG=>aW ?_)
   ·have ns:c.k≠bj:=λz=>by
     rw[(ev _ rfl).mpr z] at G;cases G
    obtain⟨tk,u,hJ,vu,hu⟩:=ht.get (fg.v9 ns);obtain⟨⟨o0,om⟩,ft,tl⟩:=ok.iI ns;have eo:kV (bp D c)=.str (aw D c.aG.toNat):=by rw[ig ns];rfl
    refine PB (ps:=D) (x:=c.one) (y:=c.aG.toNat) (t:=c.tn) (λ_ _ h=>⟨_,rfl,h⟩) jx ok.one (λ_ _ h=>⟨_,rfl,h⟩) (λ_ _ h=>⟨_,rfl,by rw[eo];exact h⟩) ne g QO (λH2 Q2 Q k2=>⟨_,rfl,_,rfl,J,.ref u,rfl,cP (Q _ _ hJ) vu,k2 u H2 (ag.refl _) (Q _ _ hu)⟩) λv2 Zmj H2 Q n2=>?_;refine PB (ps:=D) (x:=c.aG.toNat) (y:=c.one) (t:=inv c.tn) (λ_ _ h=>⟨_,rfl,h⟩) jx om (λ_ _ h=>⟨_,rfl,by rw[eo];exact h⟩) (λ_ _ h=>⟨_,rfl,h⟩) n2 Q QO (λH3 Q3 N k3=>⟨_,rfl,_,rfl,J,.ref u,rfl,cP (N _ _ hJ) vu,u,c.tn,rfl,N _ _ hu,QO,ft,λw H4 _ g4 hw=>k3 w H4 g4 hw⟩) λv3 ZkH H3 N n3=>?_;refine⟨ZkH,_,_,_,_,_,N,n3,λx y t=>?_,rfl⟩;rw[mQ,qY,Qq,Qq,A]
    grind
   ·have sd:c.k=bj:=by
     by_cases z:c.k=bj;·exact z
     ·cases e:decide (V.str c.k=V.str bj) with
      |true=>exact absurd ((ev _ e).mp rfl) z
      |false=>rw[e] at G;exact absurd rfl G
    refine⟨i,L,_,_,_,_,g,⟨ne.dict,by have:=ne.len;exact th this,ne.new,λz hz=>?_,ne.inj⟩,λx y t=>?_,rfl⟩
    ·rcases ne.at_ z hz with w|⟨a,es,w1,w2,X,w4,W⟩;·exact .inl w
     ·exact .inr ⟨a,es,w1,w2,X,(th w4),W⟩
    ·rw[mQ,qY,A];exact⟨.inl,λh=>h.elim id λz=>absurd sd z.1⟩
  ·rintro l k ⟨i,L,r,p,o,m,g,ne,A,rfl⟩;rw[Ya,al] at ne;rw[Ya,al,Y7] at A;refine dG _ _ ⟨i,L,r,p,o,m,g,⟨ne.dict,by have:=ne.len;omega,ne.new,λz hz=>?_,ne.inj⟩,A,rfl⟩;rcases ne.at_ z hz with w|⟨a,es,w1,w2,X,w4,W⟩;·exact .inl w
   ·exact .inr ⟨a,es,w1,w2,X,QO,W⟩
 rintro l k ⟨i,L,r,p,o,m,g,ne,A,rfl⟩;exact⟨_,rfl,q d i L k g ne A⟩
def TN{t:Z Int}{z:Int}(a:0<=z)(h:z<t.length):dI (t.map V.int) z=O (.int (ap t z)):=oB a h
def gN(a:bO)(g:Z (Nat×Int)):Z (Key×V):=g.map λp=>(.inr (aw a p.1),.int p.2)
def qM(a:bO)(g:Z (Nat×Int)):Z V:=g.map λp=>.str (aw a p.1)
def ZiH(a:bO)(g:Z (Nat×Int)):(gN a g).length=g.length:=Ya _
def R7(a:bO)(g:Z (Nat×Int)):(qM a g).length=g.length:=Ya _
theorem rD(b:(a.map (·.1)).Nodup)(c:k<a.length):∀{g:Z (Nat×Int)},(∀p∈g,p.1<a.length)->aH (gN a g) (.inr (aw a k))=(g.lookup k).map V.int
 |[],_=>rfl
 |p::g,lt=>by
  have h:gN a (p::g)=(Sum.inr (aw a p.1),V.int p.2)::gN a g:=rfl;rw[h,W7];by_cases e:k=p.1
  ·rw[beq_iff_eq.mpr e,fq (by rw[e])];rfl
  ·rw[beq_eq_false_iff_ne.mpr e,eO (λz=>e (yq b c (lt p Yg) (Wb (show(Sum.inr (aw a p.1):Key)=Sum.inr (aw a k) from z)).symm))];exact rD b c λq d=>lt q (Yw _ d)
def Zg7{r k:Nat}(h:g[r]?=O (k,v)):dI (qM a g) (r:Int)=O (.str (aw a k)):=fL (by unfold qM;rw[Yi,h];rfl)
def xt(e:bO)(d m l n:U)(x:Nat)(a:Int)(r:Nat)(i h g c b j k:bw V):St:=[O (.ref d),O (.ref m),O (.str (aw e x)),O (.int a),O (.ref l),O (.ref n),O (.int (r:Int)),i,h,g,c,b,j,k]
def muC(m:Nat):St->Hp->Nat:=λa _=>match List.getD (α:=bw V) a 6 aF with|some (V.int z)=>m+1-z.toNat|_=>0
inductive UQ(H:Hp)(F:Z Fc)(L:Nat->Z (Nat×Z Int))(n:Nat)(b:bO)(d k e h:U)(x:Nat)(a:Int)(i:St)(c:Hp):Prop
 |mk (g:Z (Nat×Int)) (r:Nat) (o m l:bw V) (y:ag H c) (v:c e=O (.dK (gN b g))) (t:c h=O (.lst (qM b g))) (u:BF F n b.length x a g) (s:r<=g.length) (q:(∀j,j<r->Cl L g j)) (p:i=xt b d k e h x a r o m l aF aF aF aF):UQ H F L n b d k e h x a i c
def ZkI(H:Hp)(F:Z Fc)(L:Nat->Z (Nat×Z Int))(n:Nat)(c:bO)(d g e h:U)(x:Nat)(a:Int)(b:St)(i:Hp):Prop:=UQ H F L n c d g e h x a b i
inductive UR(H:Hp)(F:Z Fc)(L:Nat->Z (Nat×Z Int))(n:Nat)(b:bO)(d j c k:U)(x:Nat)(a:Int)(h:St)(e:Hp):Prop
 |mk (g:Z (Nat×Int)) (r:Nat) (o m l:bw V) (u:ag H e) (t:e c=O (.dK (gN b g))) (q:BF F n b.length x a g) (s:(∀i,i<g.length->Cl L g i)) (p:h=xt b d j c k x a r o m l aF aF aF aF):UR H F L n b d j c k x a h e
def ZkJ(H:Hp)(F:Z Fc)(L:Nat->Z (Nat×Z Int))(n:Nat)(c:bO)(d g e h:U)(x:Nat)(a:Int)(b:St)(i:Hp):Prop:=UR H F L n c d g e h x a b i
inductive VP(H:Hp)(F:Z Fc)(L:Nat->Z (Nat×Z Int))(n:Nat)(b:bO)(d m h i:U)(x:Nat)(a:Int)(r k:Nat)(v:Int)(g:Z (Nat×Int))(p:U)(o:Z U)(j:Nat)(l:St)(e:Hp):Prop
 |mk (c s:Z (Nat×Int)) (u t:bw V) (N:ag H e) (J:e p=O (.lst (o.map V.ref))) (E:e h=O (.dK (gN b c))) (G:e i=O (.lst (qM b c))) (D:BF F n b.length x a c) (A:c=g++s) (z:(∀q∈(L k).take j,c.lookup q.1=O (ap q.2 v))) (y:l=xt b d m h i x a r (O (.str (aw b k))) u t aF aF aF aF):VP H F L n b d m h i x a r k v g p o j l e
def CIn(H:Hp)(F:Z Fc)(L:Nat->Z (Nat×Z Int))(n:Nat)(c:bO)(d h e l:U)(x:Nat)(a:Int)(r k:Nat)(v:Int)(g:Z (Nat×Int))(m:U)(i:Z U)(j:Nat)(b:St)(o:Hp):Prop:=VP H F L n c d h e l x a r k v g m i j b o
inductive US(H:Hp)(F:Z Fc)(L:Nat->Z (Nat×Z Int))(n:Nat)(b:bO)(d l h i:U)(x:Nat)(a:Int)(r k:Nat)(v:Int)(g:Z (Nat×Int))(j:St)(e:Hp):Prop
 |mk (c m:Z (Nat×Int)) (p o:bw V) (D:ag H e) (A:e h=O (.dK (gN b c))) (y:e i=O (.lst (qM b c))) (z:BF F n b.length x a c) (u:c=g++m) (t:(∀q∈L k,c.lookup q.1=O (ap q.2 v))) (s:j=xt b d l h i x a r (O (.str (aw b k))) p o aF aF aF aF):US H F L n b d l h i x a r k v g j e
def ZkK(H:Hp)(F:Z Fc)(L:Nat->Z (Nat×Z Int))(n:Nat)(c:bO)(d h e i:U)(x:Nat)(a:Int)(r k:Nat)(v:Int)(g:Z (Nat×Int))(b:St)(j:Hp):Prop:=US H F L n c d h e i x a r k v g b j
inductive UT(H:Hp)(F:Z Fc)(n:Nat)(b:bO)(d l g h:U)(x:Nat)(a:Int)(r k y:Nat)(u:U)(j:Z (Nat×Int))(o:U)(m:Z U)(i:St)(e:Hp):Prop
 |mk (c q:Z (Nat×Int)) (p:Int) (G:ag H e) (E:e o=O (.lst (m.map V.ref))) (A:e g=O (.dK (gN b c))) (D:e h=O (.lst (qM b c))) (z:BF F n b.length x a c) (v:c=j++q) (t:c.lookup y=O p) (s:i=xt b d l g h x a r (O (.str (aw b k))) (O (.str (aw b y))) (O (.ref u)) aF aF aF aF):UT H F n b d l g h x a r k y u j o m i e
def ZkL(H:Hp)(F:Z Fc)(n:Nat)(c:bO)(d h g j:U)(x:Nat)(a:Int)(r k y:Nat)(u:U)(e:Z (Nat×Int))(l:U)(i:Z U)(b:St)(m:Hp):Prop:=UT H F n c d h g j x a r k y u e l i b m
def UU(i:bO)(F:Z Fc)(t:Hp)(d p o q:U)(x:Nat)(a:Int)(r:Nat)(g:Z (Nat×Int))(l k j:bw V)(b:St)(s:Hp):Prop:=s=t/\(∀c∈F,c.k=bj->∀u,g.lookup c.one=O u->u=c.aG)/\∃h e m n:bw V,b=xt i d p o q x a r l k j h e m n
inductive PD(j:Z V)(H:Hp)(Q:VK)(E:XK):Prop
 |mk (l:Hp) (d i:U) (h:Z (Key×V)) (L:Nat->Z (Nat×Z Int)) (n:Nat) (b:bO) (F:Z Fc) (x:Nat) (a:Int) (D:j=[.ref d,.ref i,.str (aw b x),.int a]) (o:(b.map (·.1)).Nodup) (A:jO l H b d 300 h L) (v:(∀x y t,(y,t)∈L x↔gk F x y t)) (z:FL H b i F) (u:(∀c∈F,eZ n b.length c)) (s:n<=8) (r:b.length<=100) (q:F.length<=64) (m:x<b.length) (N:(0<=a/\a<(n:Int))) (J:((¬∃g,mf n F g/\g x=some a)->∀e,ag H e->Q .aC e)) (G:∀(p:U) (g:Z (Nat×Int)) (e:Hp),ag H e->e p=some (.dK (gN b g))->BF F n b.length x a g->mf n F (λk=>g.lookup k)->Q (.ref p) e)
abbrev Lw:Z af:=["_law_nets_here","_law_facts","_law_name_here","_law_section"]
def lV:aP ["_law_nets_here","_law_facts","_law_name_here","_law_section","_law_found","_law_row_here","_law_at","_law_here","_law_that","_law_turn_here","_law_number","_law_kind","_law_one","_law_said"] Lw (aJ Ft):=.aY
theorem Zdg(F:aM K "_law_carried" "_law_carried" Ft f fd)(bl:Bl B):aE P w K B I aL 1 f fd Lw PD:=by
 refine F.o lV λs H hr h=>?_;obtain⟨H0,d,X,kvs,L,n,l,F,x,a,rfl,jx,Cz,ed,lM,lK,n8,VQ,DY,hx,ZkM,q1,q2⟩:=h;refine⟨_,(aj (bR 4 lV.nd (yn (jV (pv 2) (pv 3) yk) rfl rfl (λz=>nomatch z) (Jl rfl))) (aj (bR 5 lV.nd (cU (aa (pv 2) ae))) (aj (bR 6 lV.nd aS) (aj (AX eJ (bH nj (pv 6) (dC K bl (pv 5))) (aj (bR 7 lV.nd (bc (iL K) (pv 5) (pv 6))) (aj (dE eJ rfl (dH (K:=K) rfl (P6 (bo hr) (pv 0) (pv 7) (cU ae) ⟨rfl,rfl,rfl,rfl⟩)) (gc (K:=K) (n:=2) rfl rfl (bq (aV 8 lV.nd) (bq (aV 9 lV.nd) f_))) (aj (aU (jX (mY (bo hr) (pv 8) (pv 4)) QU) (aj (lX (bo hr) (pv 4) (pv 8) (bc (iT K) (pv 9) (de (bo hr) (pv 4) (pv 7) (λ_ _=>rfl)))) (av (bZ (j9 (K:=K) rfl (gT ij ku kr kF (pv 5) (aa (pv 8) ae)))))) a8) (av (aU (bH ni (de (bo hr) (pv 4) (pv 8) (λ_ _=>rfl)) (bc (iT K) (pv 9) (de (bo hr) (pv 4) (pv 7) (λ_ _=>rfl)))) (av (aI kJ)) a8)))) (av (Sw (i:=6) lV.nd rfl (hH rfl) aS Sx))))) (aj (dE eJ rfl (dH (K:=K) rfl (pv 1)) (gc (K:=K) (n:=4) rfl rfl (bq (aV 10 lV.nd) (bq (aV 11 lV.nd) (bq (aV 12 lV.nd) (bq (aV 13 lV.nd) f_))))) (av (aU (PW.pt (pw_and (bH cq (pv 11) a9) (pw_and (jX (BD (bo hr) (pv 12) (pv 4)) QU) (pw_and1 (bH ni (de (bo hr) (pv 4) (pv 12) (λ_ _=>rfl)) (pv 13)))))) (av (aI kJ)) a8))) (av (aI (pv 4)))))))),?_⟩;refine ud ?_;intros;refine bW ?_;refine λfn DZ=>⟨_,rfl,_,rfl,aT,[(.inr (aw l x),.int a)],rfl,(by show 1<=15;decide),?_⟩;obtain⟨H1,mP⟩:∃H1,H1=upd (upd H fn (.dK [])) fn (.dK (oC [] [(.inr (aw l x),.int a)])):=⟨_,rfl⟩;have g1:ag H H1:=λb o e=>by rw[mP,aN (bP e DZ),aN (bP e DZ)];exact e
 have h1:H1 fn=O (.dK (gN l [(x,a)])):=by rw[mP,aT];rfl
 rw[←mP];refine bW ?_;refine⟨_,rfl,by show 1<=sizeLine;rw[dg];decide,λbI H2 Aa g2 Nr=>?_⟩;refine setC ?_;have VR:=g1.free Aa;have fr_ne:fn≠bI:=λz=>by rw[←z,h1] at Aa;cases Aa
 have sz:(10000:Nat)<=sizeLine:=by rw[dg];decide
 have hdH:=Cz.dict;obtain⟨as,cY,eK⟩:=id lM;have N:=cZ eK;refine eC (ZkJ H F L n l d X fn bI x a) (λjT dG=>?_) ?_
 ·refine AY (ZkI H F L n l d X fn bI x a) (muC l.length)
   ⟨[(x,a)],0,aF,aF,aF,g1.trans g2,g2 _ _ h1,Nr,bf0 hx ZkM,Yx _,λ_ z=>absurd z (Wr _),rfl⟩ ?_ ?_
  ·rintro D H6 ⟨g,r,o7,o8,o9,R,uT,pB,J,rl,cl,rfl⟩;have kl:=R7 l g;have gl:=J.len;refine⟨_,rfl,_,rfl,bI,_,rfl,.inl (aq.of pB),_,_,rfl,rfl,_,rfl,?_⟩;rw[kl];refine bA (λc=>?_) (λc=>?_)
   ·have xu:r<g.length:=by have:=eH c;omega
    obtain⟨k,v,Nt⟩:∃(k:Nat) (v:Int),g[r]?=O (k,v):=⟨g[r].1,g[r].2,Yc xu⟩;have Za:(k,v)∈g:=Yj Nt;have lkv:g.lookup k=O v:=mem_lookup J.nd Za;obtain⟨km,v0,vn⟩:=J.lt _ Za;have Zb:=R _ _ hdH;refine bW ?_;refine⟨_,rfl,_,rfl,bI,_,_,_,rfl,rfl,aq.of pB,Zg7 Nt,?_⟩;refine eC (ZkK H F L n l d X fn bI x a r k v g) (λqK h_=>?_) ?_
    ·refine⟨_,rfl,d,rfl,.inl ⟨_,.inl Zb⟩,_,rfl,by show 0<=sizeLine;exact Yx _,λe0 H7 Ab g7 zT=>?_⟩;have fn7:=g7 _ _ uT;have rw7:=g7 _ _ pB;have nf0:e0≠fn:=λz=>by rw[z,uT] at Ab;cases Ab
     have nr0:e0≠bI:=λz=>by rw[z,pB] at Ab;cases Ab
     obtain⟨N,W,eal,Zc,ZkN,ZkO,sG⟩:∃(N:U) (W:Z U),(aH kvs (.inr (aw l k))).getD (.ref e0)=.ref N/\H7 N=O (.lst (W.map V.ref))/\N≠fn/\N≠bI/\Paired (λe (p:Nat×Z Int)=>∃u,H e=O (.tup [.str (aw l p.1),.ref u])/\b_ H u p.2) W (L k):=by
      rcases Cz.at_ k km with⟨z1,z2⟩|⟨a1,W,w1,w2,w3,w4,w5⟩;·exact⟨e0,[],by rw[z1];rfl,zT,nf0,nr0,by rw[z2];exact .nil⟩
      ·exact⟨a1,W,by rw[w1];rfl,g7 _ _ (R _ _ w3),bP w3 DZ,bP w3 VR,w5⟩
     have esl:=cZ sG;refine⟨_,cP (g7 _ _ Zb) rfl,N,eal,⟨_,aq.of Zc⟩,fH (K:=K) (a:=N) (xs:=W.map V.ref) (CIn H F L n l d X fn bI x a r k v g N W)
      ⟨g,[],o8,o9,R.trans g7,Zc,fn7,rw7,J,by rw[Y8],λq E=>(nomatch E),rfl⟩ (λj D A _ ⟨_,_,_,_,_,h,_,_,_,_,_,_⟩=>aq.of h) ?_ ?_⟩
     ·rintro j w D A G ⟨T,tl,p8,p9,g8,Lx,iX,lO,Q,eg,jw,rfl⟩;rw[Yi] at G;obtain⟨e,ee,rfl⟩:∃e,W[j]?=O e/\V.ref e=w:=by
       cases z:W[j]? with
       |none=>rw[z] at G;cases G
       |some c=>rw[z] at G;exact⟨c,rfl,Yo G⟩
      obtain⟨⟨y,t⟩,Zd,u,he,hu⟩:=fY sG ee;have Ly:gk F k y t:=(ed _ _ _).mp (Yj Zd);obtain⟨_,ym,ft,tl8⟩:=Bn lK Ly;have Nu:T.lookup k=O v:=by rw[eg];exact Aw lkv
      have vb:v<(t.length:Int):=by rw[tl8];exact vn
      have gl8:=Q.len;have he8:A e=O (.tup [.str (aw l y),.ref u]):=g8 _ _ he;have Nl:(L k).take (j+1)=(L k).take j++[(y,t)]:=by rw[Yz,Zd];rfl
      refine⟨e,_,rfl,aB.of he8,rfl,_,_,rfl,aQ ⟨_,_,rfl,aQ ⟨rfl,?_⟩⟩⟩;refine jZ (ZkL H F n l d X fn bI x a r k y u T N W) (λnY eY=>?_) ?_
      ·refine⟨_,rfl,_,rfl,fn,_,rfl,cP iX (rD jx ym λp m=>(Q.lt p m).1),_,rfl,?_⟩;cases ly:T.lookup y with
       |none=>
        refine dk ?_;refine⟨_,rfl,_,rfl,_,rfl,fn,.int v,rfl,cP iX (by rw[rD jx km λp m=>(Q.lt p m).1,Nu];rfl),u,_,_,_,rfl,rfl,aB.of (g8 _ _ hu),TN v0 vb,_,rfl,_,rfl,fn,_,.inr (aw l y),rfl,iX,rfl,by rw[ZiH];omega,λH9 b9 e9=>?_⟩;have vn0:aH (gN l T) (.inr (aw l y))=aF:=by rw[rD jx ym λp m=>(Q.lt p m).1,ly];rfl
        rw[iZ _ vn0] at e9;have uU:=b9 _ _ lO (λz=>fr_ne z.symm);refine⟨_,rfl,.inl ⟨rfl,_,aq.of uU⟩,_,rfl,bI,_,_,rfl,rfl,uU,by rw[R7];omega,λqE Ac qG=>?_⟩;refine eY _ _ ⟨T++[(y,ap t v)],[(y,ap t v)],ap t v,λc o z=>Ac _ _ (b9 _ _ (g8 _ _ z) (bP z DZ)) (bP z VR),Ac _ _ (b9 _ _ Lx ZkN) ZkO,?_,?_,Q.add lK Ly Nu ly,rfl,OM ly,rfl⟩;·rw[Ac _ _ e9 fr_ne,gN,gN,Yp];rfl
        ·rw[qG,qM,qM,Yp];rfl
       |some v'=>
        refine bV (aW ?_);exact eY _ _ ⟨T,[],v',g8,Lx,iX,lO,Q,by rw[Y8],ly,rfl⟩
      ·rintro D H9 ⟨sF,Nq,v',g9,ZkP,pk,uU,D0,Nv,lv,rfl⟩;have Ze:sF.lookup k=O v:=by rw[Nv];exact Aw Nu
       refine⟨_,rfl,_,rfl,fn,.int v',rfl,cP pk (by rw[rD jx ym λp m=>(D0.lt p m).1,lv];rfl),_,rfl,_,rfl,_,rfl,fn,.int v,rfl,cP pk (by rw[rD jx km λp m=>(D0.lt p m).1,Ze];rfl),u,_,_,_,rfl,rfl,aB.of (g9 _ _ hu),TN v0 vb,rfl,_,rfl,?_⟩;refine bA (λc=>?_) (λc=>aW ?_)
       ·refine q1 (D0.Zjx Ly Ze lv λz=>?_) H9 g9;rw[z] at c;simp at c
       ·have ev:v'=ap t v:=by
         by_cases z:v'=ap t v;·exact z
         ·exact absurd (by simp[z]) c
        refine⟨sF,tl++Nq,_,_,g9,ZkP,pk,uU,D0,by rw[Nv,eg,Jd],λq E=>?_,rfl⟩;rw[Nl] at E;rcases Ym.mp E with E|E;·rw[Nv];exact Aw (jw q E)
        ·rw[Yd] at E;rw[E,lv,ev]
     ·rintro D A ⟨T,tl,p8,p9,g8,Lx,iX,lO,Q,eg,jw,rfl⟩;rw[Ya,esl,Y7] at jw;exact h_ _ _ ⟨T,tl,p8,p9,g8,iX,lO,Q,eg,jw,rfl⟩
    ·rintro D A ⟨T,tl,p8,p9,g8,iX,lO,Q,eg,jw,rfl⟩;have rr:r<(g++tl).length:=by rw[Ye];exact Xs _ xu
     have ge:(g++tl)[r]?=O (k,v):=by rw[Wa xu];exact Nt
     have kq:((r:Int)+1)=((r+1:Nat):Int):=rfl
     refine⟨_,rfl,_,_,rfl,rfl,?_⟩;refine⟨⟨T,r+1,O (.str (aw l k)),p8,p9,g8,iX,lO,Q,by rw[eg];exact rr,λr' h'=>?_,rfl⟩,?_⟩
     ·rw[eg];by_cases z:r'=r
      ·subst z;intro p m qq E;rw[ge] at m;cases m;rw[←eg];exact jw qq E
      ·exact(cl r' (fI (gb h') z)).app (i2 h' (mK xu))
     ·show l.length+1-(r+1)<l.length+1-r;omega
   ·have re:¬((r:Int)<(g.length:Int)):=λz=>c (du z);exact dG _ _ ⟨g,r,o7,o8,o9,R,uT,J,λr' h'=>cl r' QO,rfl⟩
  ·rintro D H6 Q1 Q2 mo ⟨v1,w1,v2,w2,v3,v4,w3,w4,v5,v6,w5,w6,v7,w7,h⟩;exact⟨v1,w1,v2,w2,v3,v4,w3,w4,v5,v6,w5,w6,v7,w7,mo _ _ h⟩
 rintro D H6 ⟨g,r,o7,o8,o9,R,uT,J,cl,rfl⟩;refine eC (UU l F H6 d X fn bI x a r g o7 o8 o9) (λjT dG=>?_) ?_
 ·refine⟨_,rfl,X,rfl,⟨_,aq.of (R _ _ cY)⟩,fH (K:=K) (a:=X) (xs:=as.map V.ref) (λj=>UU l (F.take j) H6 d X fn bI x a r g o7 o8 o9)
   ⟨rfl,λc hc=>(nomatch hc),aF,aF,aF,aF,rfl⟩ (λj D A _ ⟨e,_⟩=>by rw[e];exact aq.of (R _ _ cY)) ?_ ?_⟩
  ·rintro j v D A G ⟨rfl,sd,sD,sE,nZ,n5,rfl⟩;rw[Yi] at G;obtain⟨c0,ec,rfl⟩:∃c0,as[j]?=O c0/\V.ref c0=v:=by
    cases e:as[j]? with
    |none=>rw[e] at G;cases G
    |some c=>rw[e] at G;exact⟨c,rfl,Yo G⟩
   obtain⟨c,ju,z,hc⟩:=fY eK ec;have mc:=Yj ju;have mQ:F.take (j+1)=F.take j++[c]:=by rw[Yz,ju];rfl
   refine⟨c0,_,rfl,aB.of (R _ _ hc),rfl,_,_,rfl,aQ ⟨_,_,rfl,aQ ⟨_,_,rfl,aQ ⟨_,_,rfl,aQ ⟨rfl,?_⟩⟩⟩⟩⟩;have ev:∀b:cm,decide (V.str c.k=V.str bj)=b->(b=ar↔c.k=bj):=λb e=>by
    rw[←e,hI];exact⟨V.str.inj,λz=>by rw[z]⟩
   have xv:(c.k=bj->∀u,g.lookup c.one=O u->u=c.aG)->∃sD sE nZ n5:bw V,(A=A/\∀c∈F.take (j+1),c.k=bj->∀u,g.lookup c.one=O u->u=c.aG)/\True:=λh=>⟨aF,aF,aF,aF,⟨rfl,λc' m'=>by
    rw[mQ] at m';rcases Ym.mp m' with m'|m';·exact sd c' m'
    ·rw[Yd] at m';rw[m'];exact h⟩,trivial⟩
   refine⟨_,rfl,rfl,_,rfl,bA (λcc=>?_) (λcc=>?_)⟩
   ·have sk:=(ev _ rfl).mp cc;have eo:kV (bp l c)=.int c.aG:=by rw[oo sk];rfl
    refine⟨_,rfl,_,rfl,fn,_,rfl,cP uT (rD jx (lK c mc).one λp m=>(J.lt p m).1),_,rfl,?_⟩;cases lk:g.lookup c.one with
    |none=>
     refine bV (bV (aW ?_));obtain⟨_,_,_,_,⟨_,h⟩,_⟩:=xv λ_ u e=>by rw[lk] at e;cases e
     exact⟨rfl,h,_,_,_,_,rfl⟩
    |some u=>
     refine dk ?_;refine⟨_,rfl,_,rfl,fn,.int u,rfl,cP uT (by rw[rD jx (lK c mc).one λp m=>(J.lt p m).1,lk];rfl),_,rfl,by rw[eo];rfl,_,rfl,bA (λc2=>?_) (λc2=>aW ?_)⟩
     ·refine q1 (J.ZiD mc sk lk λz=>?_) A R;rw[z,eo] at c2;simp at c2
     ·have eu:u=c.aG:=by
       by_cases z:u=c.aG;·exact z
       ·exact absurd (by rw[eo];simp[z]) c2
      obtain⟨_,_,_,_,⟨_,h⟩,_⟩:=xv λ_ u' e=>by rw[lk] at e;rw[←Yo e];exact eu
      exact⟨rfl,h,_,_,_,_,rfl⟩
   ·refine bV (aW ?_);obtain⟨_,_,_,_,⟨_,h⟩,_⟩:=xv λz=>absurd ((ev _ rfl).mpr z) cc;exact⟨rfl,h,_,_,_,_,rfl⟩
  ·rintro D A ⟨rfl,sd,sD,sE,nZ,n5,rfl⟩;rw[Ya,N,Y7] at sd;exact dG _ _ ⟨rfl,sd,sD,sE,nZ,n5,rfl⟩
 rintro D A ⟨rfl,sd,sD,sE,nZ,n5,rfl⟩;exact⟨_,rfl,q2 fn g A R uT J (J.done ed cl sd)⟩
inductive TQ(i:Z V)(H:Hp)(Q:VK)(E:XK):Prop
 |mk (h g:U) (a:bO) (b e:Z Int) (F:Z Fc) (x:Nat) (t:i=[.ref h,.ref g,.str (aw a x)]) (s:FL H a h F) (m:iK H g b e) (j:(a.map (·.1)).Nodup) (q:∀c∈F,fN b e a.length c) (r:b.length<=8) (o:a.length<=100) (n:F.length<=64) (l:x<a.length) (k:∀(p:U) (d:Hp),H p=aF->ag H d->d p=O (.lst ((qj F b.length x).map V.int))->Q (.ref p) d)
inductive R8(g:Z V)(H:Hp)(Q:VK)(E:XK):Prop
 |mk (a b:U) (d c:Z Int) (l:g=[.ref a,.ref b]) (k:b_ H a d) (i:b_ H b c) (j:oI d c) (h:∀(p:U) (e:Hp),H p=aF->ag H e->iK e p d c->Q (.ref p) e)
abbrev Lz:Z af:=["_law_facts","_law_turns_here","_law_name_here"]
def Oi:aP ["_law_facts","_law_turns_here","_law_name_here","_law_nets_here"] Lz (aJ GX):=.aY
open Classical in
def Zg8(F:aM K "_law_room" "_law_room" GX f fd)(Hh:HasFn P w K B I 2 "_law_nets" Lv TM)(FC:HasFn P w K B I 1 "_law_carried" Lw PD)(T:Bl B):aE P w K B I aL 3 f fd Lz TQ:=by
 refine F.o Oi λs H l h=>?_;obtain⟨Q,v,y,t,ys,F,x,rfl,A,G,E,N,j,VQ,X,hx,q⟩:=h;refine⟨_,(aj (gI (i:=3) Oi.nd rfl (kv rfl) (aZ Hh l (aa (pv 0) (aa (pv 1) ae)))) (av (aI (jE (x:="_law_at") (fr:=[("_law_nets_here",3),("_law_name_here",2),("_law_facts",0)]) (cl:=[("_law_nets_here",s.heap.objs.size+1+1+1),("_law_name_here",s.heap.objs.size+1+1),("_law_facts",s.heap.objs.size+1)]) rfl (.hU ⟨rfl,⟨rfl,⟨rfl,trivial⟩⟩⟩ ⟨⟨rfl,.inl rfl,.inl rfl,rfl⟩,⟨⟨rfl,.inl rfl,.inl rfl,rfl⟩,⟨⟨rfl,.inl rfl,.inl rfl,rfl⟩,trivial⟩⟩⟩) (pN rfl T.jW (aa (dC K T (de (bo l) (pv 1) a9 (λ_ _=>rfl))) ae)) (λ_ _ _ _=>vM (bH Bc (Ky FC l (by decide) rfl (aa (pv 1) (aa (pv 3) (aa (pv 2) (aa (pv 0) ae))))) kJ)) (λ_ _ _ _=>(pv 0)))))),?_⟩;refine hP ?_;intros;refine bW ?_;refine⟨_,rfl,_,rfl,Q,v,y,t,ys,F,rfl,A,G,E,N,j,X,λd k L H1 a Cz ed=>?_⟩;obtain⟨_,_,_,u,hJ,_,_,_,r⟩:=id G;obtain⟨n,R⟩:∃n,n=t.length:=⟨_,rfl⟩;have lK:=λc hc=>by exact R▸(N c hc).ok
 rw[←R] at r j q;have ul:((bJ n).map V.int).length=n:=by rw[Ya,fG]
 refine⟨_,rfl,v,.ref u,rfl,cP (a _ _ hJ) rfl,u,_,rfl,.inr (aB.of (a _ _ r)),?_⟩;rw[ul];refine⟨(n:Int),rfl,QO,QO,λD J=>?_⟩;refine Zb1 QO J (λi=>decide (∃g,mf n F g/\g x=O (i:Int))) (λi=>V.int (i:Int)) (λi hi W b _ Kt Kf kt kf=>?_) λW b h2=>?_
 ·rw[Dm];have nU:(i:Nat)<n:=QO
  refine⟨_,rfl,_,rfl,_,rfl,_,rfl,H,d,Q,k,L,n,y,F,x,(i:Int),rfl,E,Cz.same b,ed,(A.same a).same b,lK,j,VQ,X,hx,⟨(ri _),QO⟩,λno o m=>?_,λp gg o m XY bf cl=>?_⟩
  ·refine⟨rfl,_,rfl,?_⟩;rw[du (rfl)];exact bV (kf o (fb no) m)
  ·refine⟨rfl,_,rfl,?_⟩;rw[fb (λz=>nomatch z)];exact dk ⟨_,rfl,kt _ o (du ⟨_,cl,bf.hd⟩) m rfl⟩
 ·refine q D W (a.free J) (a.trans b) ?_;rw[h2,Y9];have e:qj F n x=((List.range n).filter λi:Nat=>decide (∃g,mf n F g/\g x=O (i:Int))).map λi:Nat=>(i:Int):=by
   unfold qj bJ;rw[J3];rfl
  rw[e,Y6];rfl
abbrev LA:Z af:=["_law_mother","_law_wife"]
def FZ:aP ["_law_mother","_law_wife","_law_father","_law_alone"] LA (aJ Gg):=.aY
def ZfE(F:aM K "_law_turns" "_law_turns" Gg f fd)(N:HasFn P w K B I 1 "_law_inverse" y_ KY)(GD:HasFn P w K B I 1 "_law_after" Cy (UP K))(G:Bl B):aE P w K B I aL 2 f fd LA R8:=by
 refine F.o FZ λs H y h=>?_;obtain⟨a,b,j,r,rfl,A,T,gl,q⟩:=h;obtain⟨fx,fy,Q,l2,R⟩:=id gl;refine⟨_,(aj (bR 2 FZ.nd (aZ GD y (aa (pv 1) (aa (pv 0) ae)))) (aj (bR 3 FZ.nd (fh (Zan rfl) rfl G.ou oq (aa (fh FK rfl G.jW vJ (aa (dC K G (pv 0)) ae)) ae))) (av (aI (yn (jV a9 (aZ N y (aa (pv 0) ae)) (jV a9 (aZ N y (aa (pv 2) ae)) (jV a9 (pv 1) (jV a9 (pv 3) yk)))) rfl rfl (λz=>nomatch z) (Jl rfl)))))),?_⟩;refine zt ?_;intro;refine bW ?_;have lv:∀x∈r,0<=x/\x<(j.length:Int):=λx hx=>by rw[Q];exact rh fy hx
 refine⟨_,rfl,_,rfl,b,a,r,j,rfl,aB.of T,aB.of A,lv,QO,λl H1 nl p hl=>?_⟩;refine zt ?_;intro;refine bW ?_;have el:(j.map V.int).length=j.length:=Ya _;refine⟨_,rfl,a,_,rfl,.inr (aB.of (p _ _ A)),_,rfl,λrg H2 nrg g2 v=>⟨rg,j.length,rfl,by rw[v,el],(eL R (by decide)),λst H3 Dr g3 dz=>?_⟩⟩;have E:=g2.trans g3;intro d u;have D:=cF u (.dK []);have L:upd H3 d (.dK []) d=O (.dK []):=aT;generalize upd H3 d (.dK [])=H4 at D L⊢;have Ad:=E.trans D;have t:=p.trans Ad;refine⟨_,rfl,a,j,rfl,t _ _ A,(mz R (by decide)),fx,λi H5 nim g5 MQ=>?_⟩;refine⟨_,rfl,l,bT j r,rfl,g5 _ _ (Ad _ _ hl),by rw[sV];omega,Iw fx fy Q,λg k njf X MR=>?_⟩;have m:=g5.trans X;refine⟨_,rfl,_,rfl,m _ _ L,[(.inr "mother",.ref i),(.inr "father",.ref g),(.inr "wed",.ref b),(.inr "sibling",.ref st)],rfl,by show 4<=15;decide,?_⟩;have J:aA d k (upd k d (.dK (vV i g b st))):=aA.put (aA.of (ag.refl _));have Zf:upd k d (.dK (vV i g b st)) d=O (.dK (vV i g b st)):=aT;have em:oC [] [((.inr "mother":Key),V.ref i),(.inr "father",.ref g),(.inr "wed",.ref b),(.inr "sibling",.ref st)]=vV i g b st:=rfl;rw[em];generalize upd k d (.dK (vV i g b st))=H7 at J Zf⊢;have D1:∀{c:U} {zs:Z Int},b_ k c zs->c≠d:=λW z=>by rw[b_,z,m _ _ L] at W;cases W
 have n:∀{c:U} {zs:Z Int},b_ k c zs->b_ H7 c zs:=λh=>J _ _ h (D1 h);refine q d H7 (p.free (E.free u)) (λc o e=>J _ _ (m _ _ (t _ _ e)) (bP e (p.free (E.free u)))) ⟨i,g,b,st,Zf,n (X _ _ MQ),n MR,n (m _ _ (t _ _ T)),n (m _ _ (D _ _ dz))⟩
theorem FL.get(h:FL H i o F):∃b:Z U,H o=O (.lst (b.map V.ref))/\b.length=F.length/\∀(d:Hp) (j:Nat) (v:V),ag H d->(b.map V.ref)[j]?=O v->∃(a:U) (c:Fc) (z:Int),v=.ref a/\F[j]?=O c/\F.take (j+1)=F.take j++[c]/\d a=O (.tup [.int z,.str c.k,.str (aw i c.one),kV (bp i c)]):=by
 obtain⟨b,q,l⟩:=h;refine⟨b,q,cZ l,λd j v g m=>?_⟩;rw[Yi] at m;obtain⟨a,p,rfl⟩:∃a,b[j]?=O a/\V.ref a=v:=by
  cases e:b[j]? with
  |none=>grind
  |some c=>grind
 obtain⟨c,k,z,n⟩:=fY l p;exact⟨a,c,z,rfl,k,by rw[Yz,k];rfl,g _ _ n⟩
def nI(b:bO)(k a:af)(o:V)(c:Fc):cm:=decide (c.k=k)&&((decide (aw b c.one=a)&&(decide (kV (bp b c)=o)||cV k))||(decide (k="sibling")&&(decide (kV (bp b c)=.str a)&&decide (V.str (aw b c.one)=o))))
def ql(b:bO)(F:Z Fc)(k a:af)(o:V):cm:=F.any (nI b k a o)||(decide (k="sibling")&&decide (V.str a=o))
def Bt(t:TT)(c:St)(H:Hp)(b:cm):Prop:=∀k:cm->Hp->Prop,(∀a,ag H a->k b a)->t c H k
def Vt(t:TE)(b:St)(H:Hp)(v:V):Prop:=∀k:VK,(∀a,ag H a->k v a)->t b H k
theorem Bt.and(h:Bt t σ H a)(g:∀d,a=ar->ag H d->Bt u σ d b):Bt (U6 t u) σ H (a&&b):=λk e=>h _ λl c=>by
 cases a with
 |true=>exact dk (g l rfl c _ λj i=>e j (c.trans i))
 |false=>grind
theorem Bt.or(h:Bt t σ H a)(g:∀d,a=a_->ag H d->Bt u σ d b):Bt (V7 t u) σ H (a||b):=λk e=>h _ λl c=>by
 cases a with
 |true=>grind
 |false=>exact bV (g l rfl c _ λj i=>e j (c.trans i))
def Vt.var(h:σ[i]?=O (O x)):Vt (gf i) σ H x:=λ_ a=>⟨x,h,a H (ag.refl _)⟩
def Vt.c:Vt (tC x) σ H x:=λ_ a=>a H (ag.refl _)
def Vt.test(h:Vt d σ H (.bl b)):Bt (Kw d) σ H b:=λk a=>h _ λe c=>⟨b,rfl,a e c⟩
def Vt.eq(g:Vt j σ H x)(e:∀b,ag H b->Vt i σ b y)(c:yR x y=ar):Vt (jP WA j i) σ H (.bl (decide (x=y))):=λk d=>g _ λm a=>e m a _ λl h=>⟨c,d l (a.trans h)⟩
def Vt.ne(g:Vt j σ H x)(e:∀b,ag H b->Vt i σ b y)(c:yR x y=ar):Vt (jP WB j i) σ H (.bl (!decide (x=y))):=λk d=>g _ λm a=>e m a _ λl h=>⟨c,d l (a.trans h)⟩
theorem Vt.LB(i:Vt m σ H (.bl a))(h:∀g,a=ar->ag H g->Vt l σ g (.bl b)):Vt (T_ m l) σ H (.bl (a&&b)):=λk d=>i _ λe c=>⟨a,rfl,by
 cases a with
 |true=>exact dk (h e rfl c _ λn j=>d n (c.trans j))
 |false=>exact bV (d e c)⟩
theorem Vt.Zg(h:Vt l σ H (.bl a))(g:∀d,a=a_->ag H d->Vt j σ d (.bl b)):Vt (U7 l j) σ H (.bl (a||b)):=λk e=>h _ λn c=>⟨a,rfl,by
 cases a with
 |true=>grind
 |false=>exact bV (g n rfl c _ λm i=>e m (c.trans i))⟩
def Vt.KZ(c:Vt h σ H (.str k)):Vt (jP (zm K a_) h (yL (ir (tC (V.str "mother")) (ir (tC (V.str "father")) jL)))) σ H (.bl (cV k)):=λq b=>c _ λl g=>by
 refine⟨by show 2<=sizeLine;rw[dg];decide,λp i j d a=>⟨p,_,rfl,.inr (aB.of a),rfl,rfl,?_⟩⟩;have e:fD (V.str k) [V.str "mother",V.str "father"]=cV k:=by
  rw[Wq];unfold fD cV;rw[J7,J7,List.any_nil,wb,Ny,Ny,hI,hI];show((("mother":af)==k)=ar\/(("father":af)==k)=ar)↔_
  grind
 exact e▸b i (g.trans d)
def Flat(o:V):Prop:=(∃z,o=.int z)\/∃z,o=.str z
theorem yr(k:Key):Flat (kV k):=by
 cases k with
 |inl z=>exact .inl ⟨z,rfl⟩
 |inr z=>exact .inr ⟨z,rfl⟩
def AS(b:Flat u)(a:Flat v):yR u v=ar:=by
 rcases b with⟨_,rfl⟩|⟨_,rfl⟩<;>rcases a with⟨_,rfl⟩|⟨_,rfl⟩<;>rfl
inductive QM(b:Z V)(H:Hp)(Q:VK):Prop
 |mk (d:U) (c:bO) (F:Z Fc) (k a:af) (o:V) (i:b=[.ref d,.str k,.str a,o]) (h:FL H c d F) (g:Flat o) (q:∀e,ag H e->Q (.bl (ql c F k a o)) e):QM b H Q
def R9:Sp:=λa H Q _=>QM a H Q
inductive R_(d:Z V)(H:Hp)(Q:VK)(E:XK):Prop
 |mk (b:U) (a:bO) (k:af) (i j:Nat) (n:d=[.ref b,.str k,.str (aw a i),.str (aw a j)]) (g:H b=O (.dK (hV a))) (e:(a.map (·.1)).Nodup) (m:i<a.length) (l:j<a.length) (h:k="mother"\/k="father"\/k="wed"\/k="sibling") (q:∀c,ag H c->Q (.bl (mw k (fX a i) (fX a j))) c)
def QN(j:cE xs q b):y∈gW b a↔∃c∈b.F,cV c.k=ar/\aw b.ps c.one=a/\kV (bp b.ps c)=.str y:=by
 constructor
 ·intro h;obtain⟨v,l,rfl⟩:=Yf.mp (h);unfold qc at l;obtain⟨k,_,e⟩:=Jz.mp l;obtain⟨p,g,d,s,i,rfl,r⟩:=R0 j e;have m:p.2.k≠bj:=λz=>by
   rw[z] at d;exact absurd d QK
  exact⟨p.2,Yf.mpr ⟨p,g,rfl⟩,d,i,by rw[ig m];rfl⟩
 ·rintro⟨c,o,d,rfl,i⟩;obtain⟨p,g,rfl⟩:=Yf.mp (o);have n:(([.inr p.2.k,.inr (aw b.ps p.2.one)]:Z Key),kV (bp b.ps p.2))∈cD b.ps b.fs:=Yf.mpr ⟨p,Y5.mpr ⟨g,d⟩,rfl⟩;have e:=JA j.pr n;refine Yf.mpr ⟨.str y,?_,rfl⟩;unfold qc;refine Jz.mpr ⟨p.2.k,?_,by rw[e,i]⟩;unfold cV at d;rw[Ny,hI,hI] at d;rcases d with z|z<;>rw[z];·exact Yg
  ·exact Yw _ Yg
structure xx(b:BS)(a:af)(ks:Z af):Prop where
 nd:ks.Nodup
 sd:∀k∈ks,gF b a k
 ma:a∈ks
def xx.len(u:xx b a e)(c:cE xs h b)(d:a∈b.ps.map (·.1)):e.length<=b.ps.length:=by
 have:=u.nd.length_le_of_subset λk g=>A9 c d (u.sd k g)
 grind
theorem xx.all(u:xx b a c)(j:∀r,r<c.length->∀k,c[r]?=O k->∀p∈gW b k,p∈c)(z:af):z∈c↔gF b a z:=by
 refine⟨u.sd z,λh=>?_⟩;induction h with
 |refl=>exact u.ma
 |step _ g e=>
  obtain⟨r,d,i⟩:=W0.mp e;exact j r d _ (by rw[Yc d,i]) _ g
inductive VS(i:Z V)(H:Hp)(Q:VK)(E:XK):Prop
 |mk (e:U) (h g:Z Int) (b:BS) (a:af) (l:i=[.ref e,.str a]) (k:FL H b.ps e b.F) (ok:cE h g b) (j:a∈b.ps.map (·.1)) (q:∀(p:U) (d:Z af) (c:Hp),ag H c->c p=O (.lst (d.map V.str))->(∀z,z∈d↔gF b a z)->Q (.ref p) c)
def muU(m:Nat):St->Hp->Nat:=λa _=>match List.getD (α:=bw V) a 3 aF with|some (V.int z)=>m+1-z.toNat|_=>0
inductive Zh(H:Hp)(b:BS)(a:af)(l d:U)(i:St)(h:Hp):Prop
 |mk (c:Z af) (r:Nat) (q o n m:bw V) (g:ag H h) (u:h d=O (.lst (c.map V.str))) (s:xx b a c) (t:r<=c.length) (v:∀j,j<r->∀k,c[j]?=O k->∀p∈gW b k,p∈c) (e:i=[O (.ref l),O (.str a),O (.ref d),O (.int (r:Int)),q,o,n,m]):Zh H b a l d i h
inductive Nz(H:Hp)(b:BS)(a:af)(n h:U)(r:Nat)(m:Z af)(k:af)(j:Nat)(l:St)(i:Hp):Prop
 |mk (d o:Z af) (t s q p:bw V) (g:ag H i) (v:i h=O (.lst (d.map V.str))) (u:xx b a d) (x:d=m++o) (z:∀c∈b.F.take j,cV c.k=ar->aw b.ps c.one=k->∀y,kV (bp b.ps c)=.str y->y∈d) (e:l=[O (.ref n),O (.str a),O (.ref h),O (.int (r:Int)),t,s,q,p]):Nz H b a n h r m k j l i
def OR(h:Flat o):jG o=ar:=by
 rcases h with⟨_,rfl⟩|⟨_,rfl⟩<;>rfl
def yc(a:Z af):(a.map V.str).all jG=ar:=by
 rw[Wt];intro v b;obtain⟨k,_,rfl⟩:=Yf.mp b;rfl
def rR(y:af)(ks:Z af):fD (.str y) (ks.map V.str)=ar↔y∈ks:=by
 unfold fD;rw[C3];constructor
 ·rintro⟨v,a,e⟩;obtain⟨k,b,rfl⟩:=Yf.mp a;have:(k==y)=ar:=e
  grind
 ·intro h;exact⟨.str y,Yf.mpr ⟨y,h,rfl⟩,by show(y==y)=ar;rw[beq_iff_eq]⟩
abbrev LD:Z af:=["_law_facts","_law_kind","_law_one","_law_other"]
def xT:aP ["_law_facts","_law_kind","_law_one","_law_other","_law_number","_law_had","_law_here","_law_there"] LD (aJ GZ):=.aY
def Zcg(F:aM K "_law_told" "_law_told" GZ f fd):aE P w K B I aL 1 f fd LD R9:=by
 refine F.o xT λs H hr h=>?_;obtain⟨y,i,F,k,a,o,rfl,L,D,q⟩:=h;refine⟨_,(aj (dE eJ rfl (dH rfl (pv 0)) (gc rfl rfl (bq (aV 4 xT.nd) (bq (aV 5 xT.nd) (bq (aV 6 xT.nd) (bq (aV 7 xT.nd) f_))))) (aj (aU (PW.pt (pw_and (bH cq (pv 5) (pv 1)) (pw_and (bH cq (pv 6) (pv 2)) (pw_and1 (PW.pt (pw_or (bH cq (pv 7) (pv 3)) (pw_or1 (fK (k9 rfl) (pv 1) (c5 (aa a9 (aa a9 ae))) QU)))))))) (av (aI gJ)) a8) (av (aU (PW.pt (pw_and (bH cq (pv 5) (pv 1)) (pw_and (bH cq (pv 1) a9) (pw_and (bH cq (pv 7) (pv 2)) (pw_and1 (bH cq (pv 6) (pv 3))))))) (av (aI gJ)) a8)))) (av (aI (pZ (dW cq (pv 1) a9) (l4 (dW cq (pv 2) (pv 3))))))),?_⟩;obtain⟨as,G,al,T⟩:=L.get;refine eC (λd l=>ag H l/\F.any (nI i k a o)=a_/\∃r p n m:bw V,d=[O (.ref y),O (.str k),O (.str a),O o,r,p,n,m]) (λjT X=>?_) ?_
 ·refine⟨_,rfl,y,rfl,⟨_,aq.of G⟩,fH (λj d l=>ag H l/\(F.take j).any (nI i k a o)=a_/\∃r p n m:bw V,d=[O (.ref y),O (.str k),O (.str a),O o,r,p,n,m])
   ⟨ag.refl _,rfl,aF,aF,aF,aF,rfl⟩ (λj d l _ ⟨g,_⟩=>aq.of (g _ _ G)) ?_ ?_⟩
  ·rintro j v d l Q ⟨g,no,r,p,n,m,rfl⟩;obtain⟨c0,c,z,rfl,N,J,R⟩:=T l j v g Q;have x:nI i k a o c=ar->ql i F k a o=ar:=λh=>by
    unfold ql;rw[C3.mpr ⟨c,Yj N,h⟩];rfl
   refine⟨c0,_,rfl,aB.of R,rfl,_,_,rfl,aQ ⟨_,_,rfl,aQ ⟨_,_,rfl,aQ ⟨_,_,rfl,aQ ⟨rfl,?_⟩⟩⟩⟩⟩;refine jZ (λd u=>ag H u/\(decide (c.k=k)&&(decide (aw i c.one=a)&&(decide (kV (bp i c)=o)||cV k)))=a_/\d=[O (.ref y),O (.str k),O (.str a),O o,O (.int z),O (.str c.k),O (.str (aw i c.one)),O (kV (bp i c))]) (λnY W=>?_) ?_
   ·refine(Bt.and (Vt.test (Vt.eq (Vt.var rfl) (λ_ _=>Vt.var rfl) rfl)) λ_ _ _=>Bt.and (Vt.test (Vt.eq (Vt.var rfl) (λ_ _=>Vt.var rfl) rfl)) λ_ _ _=>Bt.or (Vt.test (Vt.eq (Vt.var rfl) (λ_ _=>Vt.var rfl) (AS (yr _) D))) λ_ _ _=>Vt.test (Vt.KZ (Vt.var rfl))) _ λu t=>?_;rw[dR,dR];refine bA (λb=>?_) (λb=>?_)
    ·have:=x (by unfold nI;rw[Ws] at b⊢;exact⟨b.1,by rw[b.2];rfl⟩);rw[this] at q;exact q u (g.trans t)
    ·exact aW (W _ _ ⟨g.trans t,J9.mpr b,rfl⟩)
   ·rintro d u ⟨t,A,rfl⟩;refine(Bt.and (Vt.test (Vt.eq (Vt.var rfl) (λ_ _=>Vt.var rfl) rfl)) λ_ _ _=>Bt.and (Vt.test (Vt.eq (Vt.var rfl) (λ_ _=>Vt.c) rfl)) λ_ _ _=>Bt.and (Vt.test (Vt.eq (Vt.var rfl) (λ_ _=>Vt.var rfl) (AS (yr _) (.inr ⟨_,rfl⟩)))) λ_ _ _=>Vt.test (Vt.eq (Vt.var rfl) (λ_ _=>Vt.var rfl) (AS (.inr ⟨_,rfl⟩) D))) _ λH8 E=>?_;rw[dR,dR];refine bA (λb=>?_) (λb=>aW ?_)
    ·have:=x (by unfold nI;rw[Ws] at b⊢;exact⟨b.1,by rw[b.2,Bool.or_true]⟩);rw[this] at q;exact q H8 (t.trans E)
    ·refine⟨t.trans E,?_,_,_,_,_,rfl⟩;rw[J,List.any_append,no,C7,J7,List.any_nil,wb];unfold nI;rw[Bool.and_or_distrib_left,A,C7];exact J9.mpr b
  ·rintro d l ⟨g,no,r,p,n,m,rfl⟩;rw[Ya,al,Y7] at no;exact X _ _ ⟨g,no,r,p,n,m,rfl⟩
 rintro d l ⟨g,no,r,p,n,m,rfl⟩;refine(Vt.LB (Vt.eq (Vt.var rfl) (λ_ _=>Vt.c) rfl) λ_ _ _=>Vt.eq (Vt.var rfl) (λ_ _=>Vt.var rfl) (AS (.inr ⟨_,rfl⟩) D)) _ λu t=>?_;have e:=q u (g.trans t);unfold ql at e;rw[no,C7] at e;rwa[dR]
abbrev CA:Z af:=["_law_sides","_law_kind","_law_one","_law_other"]
def Zbw:aP CA CA (aJ Gh):=.aY
def Zbx(F:aM K "_law_sided" "_law_sided" Gh f fd):aE P w K B I aL 1 f fd CA R_:=by
 refine F.o Zbw λs H l h=>?_;obtain⟨g,m,k,i,j,rfl,p,n,x,t,d,q⟩:=h;refine⟨_,(aj (aU (bH cq (pv 1) a9) (av (aI (dW cq (de (bo l) (pv 0) (pv 3) (λ_ _=>rfl)) a9))) a8) (aj (aU (bH cq (pv 1) a9) (av (aI (dW cq (de (bo l) (pv 0) (pv 3) (λ_ _=>rfl)) a9))) a8) (av (aI (BO (dW ni (pv 1) a9) (l4 (pZ (dW cq (de (bo l) (pv 0) (pv 2) (λ_ _=>rfl)) a9) (l4 (dW cq (de (bo l) (pv 0) (pv 3) (λ_ _=>rfl)) a9))))))))),?_⟩;refine i1 ?_;intros;have u:=cP p (pW n t);refine⟨_,rfl,rfl,_,rfl,?_⟩;rw[dR];refine bA (λc=>?_) (λc=>aW ?_)
 ·have e:k="mother":=eH c;refine⟨_,rfl,_,rfl,g,_,rfl,u,rfl,?_⟩;rw[dR];unfold mw at q;rw[bS e] at q;exact q H (ag.refl _)
 have o:k≠"mother":=λz=>c (du z);refine⟨_,rfl,rfl,_,rfl,?_⟩;rw[dR];refine bA (λc=>?_) (λc=>aW ?_)
 ·have e:k="father":=eH c;refine⟨_,rfl,_,rfl,g,_,rfl,u,rfl,?_⟩;rw[dR];unfold mw at q;rw[bt o,bS e] at q;exact q H (ag.refl _)
 have r:k≠"father":=λz=>c (du z);have D:(!decide (k="wed"))=decide (k="sibling"):=by
  rcases d with z|z|z|z;·exact absurd z o
  ·exact absurd z r
  ·rw[z];decide+kernel
  ·rw[z];decide+kernel
 refine(Vt.Zg (a:=decide (k="sibling")) (b:=decide (fX m i="man")&&decide (fX m j="woman")) ?_ λJ _ v=>Vt.LB (a:=decide (fX m i="man")) ?_ λG _ y=>?_) _ λE A=>?_
 ·rw[←D,←dR];exact Vt.ne (Vt.var rfl) (λ_ _=>Vt.c) rfl
 ·rw[←dR];exact Vt.eq (λk d=>⟨_,rfl,_,rfl,g,_,rfl,cP (v _ _ p) (pW n x),d _ (ag.refl _)⟩) (λ_ _=>Vt.c) rfl
 ·rw[←dR];exact Vt.eq (λk d=>⟨_,rfl,_,rfl,g,_,rfl,cP (y _ _ (v _ _ p)) (pW n t),d _ (ag.refl _)⟩) (λ_ _=>Vt.c) rfl
 ·unfold mw at q;rw[bt o,bt r] at q;exact q E A
abbrev LH:Z af:=["_law_facts","_law_name_here"]
def qW:aP ["_law_facts","_law_name_here","_law_row_here","_law_at","_law_number","_law_kind","_law_one","_law_other"] LH (aJ Iv):=.aY
def Zei(F:aM K "_law_up" "_law_up" Iv f fd)(bl:Bl B):aE P w K B I aL 1 f fd LH VS:=by
 refine F.o qW λs H hr h=>?_;obtain⟨Q,xs,ys,b,a,rfl,lM,ok,ma,q⟩:=h;refine⟨_,(aj (bR 2 qW.nd (cU (aa (pv 1) ae))) (aj (bR 3 qW.nd aS) (aj (AX eJ (bH nj (pv 3) (dC K bl (pv 2))) (aj (dE eJ rfl (dH (K:=K) rfl (pv 0)) (gc (K:=K) (n:=4) rfl rfl (bq (aV 4 qW.nd) (bq (aV 5 qW.nd) (bq (aV 6 qW.nd) (bq (aV 7 qW.nd) f_))))) (av (aU (PW.pt (pw_and (fK (k9 (K:=K) rfl) (pv 5) (c5 (aa a9 (aa a9 ae))) QU) (pw_and (bH cq (pv 6) (bc (iL K) (pv 2) (pv 3))) (pw_and1 (fK (BC (K:=K) rfl) (pv 7) (pv 2) QU))))) (av (bZ (j9 (K:=K) rfl (gT ij ku kr kF (pv 2) (aa (pv 7) ae))))) a8))) (av (Sw (i:=3) qW.nd rfl (hH rfl) aS Sx)))) (av (aI (pv 2)))))),?_⟩;refine l5 ?_;intros;have sz:(10000:Nat)<=sizeLine:=by rw[dg];decide
 obtain⟨as,cY,al,gt⟩:=lM.get;have xy:=ok.m;refine bW ?_;refine⟨_,rfl,by show 1<=sizeLine;decide,λm H1 Aa g1 Nr=>?_⟩;refine setC ?_;refine eC (λD R=>∃ks:Z af,ag H R/\R m=O (.lst (ks.map V.str))/\(∀z,z∈ks↔gF b a z)/\∃o3 o4 o5 o6 o7:bw V,D=[O (.ref Q),O (.str a),O (.ref m),o3,o4,o5,o6,o7]) (λjT dG=>?_) ?_
 ·refine AY (Zh H b a Q m) (muU b.ps.length) ⟨[a],0,aF,aF,aF,aF,g1,Nr,⟨Y2.mpr ⟨(λz=>nomatch z),Wy⟩,λk X=>by rw[Yd.mp X];exact .refl,Yg⟩,Yx _,λr hr=>absurd hr (Wr _),rfl⟩ ?_ ?_
  ·rintro D R ⟨ks,r,o4,o5,o6,o7,g6,W,up,rl,cl,rfl⟩;have kl:(ks.map V.str).length=ks.length:=Ya _;have gl:=up.len ok ma;refine⟨_,rfl,_,rfl,m,_,rfl,.inl (aq.of W),_,_,rfl,rfl,_,rfl,?_⟩;rw[kl];refine bA (λc=>?_) (λc=>?_)
   ·have T:r<ks.length:=by have:=eH c;omega
    obtain⟨k,ek⟩:∃k,ks[r]?=O k:=⟨_,Yc T⟩;have mk:k∈ks:=Yj ek;refine eC (Nz H b a Q m r ks k b.F.length) (λqK h_=>?_) ?_
    ·refine⟨_,rfl,Q,rfl,⟨_,aq.of (g6 _ _ cY)⟩,fH (K:=K) (a:=Q) (xs:=as.map V.ref) (Nz H b a Q m r ks k) ⟨ks,[],o4,o5,o6,o7,g6,W,up,by rw[Y8],λc hc=>(nomatch hc),rfl⟩ (λj D H8 _ ⟨_,_,_,_,_,_,g,_,_,_,_,_⟩=>aq.of (g _ _ cY)) ?_ ?_⟩
     ·rintro j v D H8 hj ⟨fF,tl,p4,p5,p6,p7,g8,N,t,A,jw,rfl⟩;obtain⟨c0,c,z,rfl,ju,mQ,hc⟩:=gt H8 j v g8 hj;have mc:c∈b.F:=Yj ju;have D2:fF[r]?=O k:=by rw[A,Wa T];exact ek
      have gl8:=t.len ok ma;refine⟨c0,_,rfl,aB.of hc,rfl,_,_,rfl,aQ ⟨_,_,rfl,aQ ⟨_,_,rfl,aQ ⟨_,_,rfl,aQ ⟨rfl,?_⟩⟩⟩⟩⟩;refine(Bt.and (Vt.test (Vt.KZ (k:=c.k) (Vt.var rfl))) λHA _ gA=>Bt.and (Vt.test (Vt.eq (x:=.str (aw b.ps c.one)) (y:=.str k) (Vt.var rfl) (λHB gB kk X=>⟨_,rfl,_,rfl,m,_,_,_,rfl,rfl,aq.of (gB _ _ (gA _ _ N)),fL (by rw[Yi,D2];rfl),X _ (ag.refl _)⟩) rfl)) λHB _ gB=>Vt.test (b:=!fD (kV (bp b.ps c)) (fF.map V.str)) λkk X=>⟨_,rfl,_,rfl,m,_,rfl,.inl (aq.of (gB _ _ (gA _ _ N))),OR (yr _),yc _,X _ (ag.refl _)⟩) _ λH9 g9=>?_;rw[dR];have xv:∀ia:Z af,(∀x∈fF,x∈ia)->(cV c.k=ar->aw b.ps c.one=k->∀y,kV (bp b.ps c)=.str y->y∈ia)->∀c'∈b.F.take (j+1),cV c'.k=ar->aw b.ps c'.one=k->∀y,kV (bp b.ps c')=.str y->y∈ia:=λia sub hh c' L J G y E=>by
       rw[mQ] at L;rcases Ym.mp L with L|L;·exact sub _ (jw c' L J G y E)
       ·rw[Yd.mp L] at J G E;exact hh J G y E
      refine bA (λcc=>?_) (λcc=>aW ?_)
      ·rw[Ws,Ws,hI] at cc;obtain⟨c1,c2,c3⟩:=cc;have ns:c.k≠bj:=λz=>by rw[z] at c1;exact absurd c1 QK
       have eo:kV (bp b.ps c)=.str (aw b.ps c.aG.toNat):=by rw[ig ns];rfl
       have uU:=g9 _ _ N;refine⟨_,rfl,.inl ⟨rfl,_,aq.of uU⟩,_,rfl,m,_,_,rfl,rfl,uU,by rw[Ya];omega,λqE Ac qG=>?_⟩;have no:aw b.ps c.aG.toNat∉fF:=λz=>by
        rw[eo,(rR _ _).mpr z] at c3;cases c3
       refine⟨fF++[aw b.ps c.aG.toNat],tl++[aw b.ps c.aG.toNat],_,_,_,_,λd o e=>Ac _ _ (g9 _ _ (g8 _ _ e)) (bP e Aa),by rw[qG,Yp,eo];rfl,⟨?_,λx l=>?_,Yk _ t.ma⟩,by rw[A,Jd],xv _ (λx l=>Yk _ l) λ_ _ y hy=>?_,rfl⟩
       ·refine Wc.mpr ⟨t.nd,QS,λu hu w hw z=>?_⟩;rw[Yd] at hw;rw[z,hw] at hu;exact no hu
       ·rcases Ym.mp l with l|l;·exact t.sd x l
        ·rw[Yd.mp l];exact .step (t.sd k (Yj D2)) ((QN ok).mpr ⟨c,mc,c1,c2,eo⟩)
       ·rw[eo] at hy;rw[←V.str.inj hy];exact Yl _ Yg
      ·refine⟨fF,tl,_,_,_,_,g8.trans g9,g9 _ _ N,t,A,xv _ (λ_ h=>h) λJ G y E=>?_,rfl⟩;rw[J,Jb,du G,Jb,E] at cc;by_cases z:y∈fF;·exact z
       ·exact absurd (by rw[J9.mpr (λw=>z ((rR _ _).mp w))];rfl) cc
     ·grind
    ·rintro D H8 ⟨fF,tl,p4,p5,p6,p7,g8,N,t,A,jw,rfl⟩;rw[Y7] at jw;have D2:fF[r]?=O k:=by rw[A,Wa T];exact ek
     refine⟨_,rfl,_,_,rfl,rfl,?_⟩;refine⟨⟨fF,r+1,p4,p5,p6,p7,g8,N,t,by rw[A,Ye];exact mK (Xs _ T),λr' h' x l p hp=>?_,rfl⟩,?_⟩
     ·by_cases z:r'=r
      ·rw[z,D2] at l;cases l;obtain⟨c,mc,J,G,E⟩:=(QN ok).mp hp;exact jw c mc J G p E
      ·rw[A,Wa (i2 h' (mK T))] at l;rw[A];exact Yk _ (cl r' (fI (gb h') z) x l p hp)
     ·show b.ps.length+1-(r+1)<b.ps.length+1-r;omega
   ·have re:¬((r:Int)<(ks.length:Int)):=λz=>c (du z);exact dG _ _ ⟨ks,g6,W,up.all (λr' h'=>cl r' QO),_,_,_,_,_,rfl⟩
  ·rintro D R Q1 Q2 mo ⟨v1,w1,v2,w2,v3,v4,w3,w4,v5,v6,w5,w6,v7,w7,h⟩;exact⟨v1,w1,v2,w2,v3,v4,w3,w4,v5,v6,w5,w6,v7,w7,mo _ _ h⟩
 rintro D R ⟨ks,g6,W,al,o3,o4,o5,o6,o7,rfl⟩;exact⟨_,rfl,q m ks R g6 W al⟩
open Classical in
noncomputable def oK (n:Nat) (b:BS) (c:Fc):af:=if c.k≠bj/\mw c.k (fX b.ps c.one) (fX b.ps c.aG.toNat)=a_ then"wrong side" else if ql b.ps b.F c.k (aw b.ps c.one) (kV (bp b.ps c))=ar then"told twice" else if cV c.k=ar/\gF b (aw b.ps c.aG.toNat) (aw b.ps c.one) then"own elder" else if qj (b.F++[c]) n c.one=[] then"barred" else""
inductive TR(k:Z V)(H:Hp)(Q:VK)(E:XK):Prop
 |mk (g i e h:U) (a d:Z Int) (b:BS) (c:Fc) (r:k=[.ref g,.ref i,.ref e,.ref h]) (m:H g=O (.dK (hV b.ps))) (n:FL H b.ps i b.F) (l:iK H e a d) (o:H h=O (.tup [.str c.k,.str (aw b.ps c.one),kV (bp b.ps c)])) (ok:cE a d b) (p:fN a d b.ps.length c) (q:∀j,ag H j->Q (.str (oK a.length b c)) j)
def ZiI(b:fN xs d m c)(a:c.k≠bj):c.k="mother"\/c.k="father"\/c.k="wed"\/c.k="sibling":=by
 have h:=b.v9 a
 grind
abbrev LI:Z af:=["_law_sides","_law_facts","_law_turns_here","_law_fact_here"]
def Ax:aP ["_law_sides","_law_facts","_law_turns_here","_law_fact_here","_law_kind","_law_one","_law_other"] LI (aJ G0):=.aY
open Classical in
theorem Zch(F:aM K "_law_word" "_law_word" G0 f fd)(GF:HasFn P w K B I 1 "_law_sided" CA R_)(Hi:HasFn P w K B I 1 "_law_told" LD R9)(IG:HasFn P w K B I 1 "_law_up" LH VS)(Hj:HasFn P w K B I 3 "_law_room" Lz TQ)(bl:Bl B):aE P w K B I aL 4 f fd LI TR:=by
 refine F.o Ax λs H d h=>?_;obtain⟨v,E,A,ff,y,ys,b,c,rfl,D,R,L,hc,ok,j,q⟩:=h;have hu:=d.l_;refine⟨_,(aj (l9 (pv 3) (gc (K:=K) (n:=3) rfl rfl (bq (aV 4 Ax.nd) (bq (aV 5 Ax.nd) (bq (aV 6 Ax.nd) f_))))) (aj (aU (bH cq (pv 4) a9) (aj (aU (jX (mY (bo d) (pv 5) (pv 0)) QU) (av (aI a9)) a8) (av (aU (PW.pt (pw_or (bH nj (pv 6) aS) (pw_or1 (bH Zi1 (pv 6) (dC K bl (de (bo d) (pv 2) a9 (λ_ _=>rfl))))))) (av (aI a9)) a8))) (aj (aU (jX (mY (bo d) (pv 4) (pv 2)) QU) (av (aI a9)) a8) (aj (aU (PW.pt (pw_or (jX (mY (bo d) (pv 5) (pv 0)) QU) (pw_or1 (jX (mY (bo d) (pv 6) (pv 0)) QU)))) (av (aI a9)) a8) (av (aU (jY (eP (aZ GF d (aa (pv 0) (aa (pv 4) (aa (pv 5) (aa (pv 6) ae))))))) (av (aI a9)) a8))))) (aj (aU (eP (aZ Hi d (aa (pv 1) (aa (pv 4) (aa (pv 5) (aa (pv 6) ae)))))) (av (aI a9)) a8) (aj (aU (PW.pt (pw_and (fK (k9 (K:=K) rfl) (pv 4) (c5 (aa a9 (aa a9 ae))) QU) (pw_and1 (fK (k9 (K:=K) rfl) (pv 5) (aZ IG d (aa (pv 1) (aa (pv 6) ae))) QU)))) (av (aI a9)) a8) (aj (aU (bH (SS hu) (aZ Hj d (aa (bh Bi (pv 1) (cU (aa (c5 (aa (bh By aS aS) (aa (pv 4) (aa (pv 5) (aa (pv 6) ae))))) ae))) (aa (pv 2) (aa (pv 5) ae)))) (cU ae)) (av (aI a9)) a8) (av (aI a9))))))),?_⟩;refine ud ?_;intros;have sz:(10000:Nat)<=sizeLine:=by rw[dg];decide
 have one:=j.ok.one;have o:=pW ok.nm one;refine⟨_,rfl,ff,_,rfl,aB.of hc,rfl,_,_,rfl,aQ ⟨_,_,rfl,aQ ⟨_,_,rfl,aQ ⟨rfl,?_⟩⟩⟩⟩;dsimp only;refine jZ (λσ H7=>ag H H7/\¬(c.k≠bj/\mw c.k (fX b.ps c.one) (fX b.ps c.aG.toNat)=a_)/\σ=[O (.ref v),O (.ref E),O (.ref A),O (.ref ff),O (.str c.k),O (.str (aw b.ps c.one)),O (kV (bp b.ps c))]) (λnY eY=>?_) ?_
 ·refine⟨_,rfl,rfl,_,rfl,?_⟩;rw[dR];refine bA (λcc=>?_) (λcc=>?_)
  ·have J:c.k=bj:=eH cc;have r:kV (bp b.ps c)=.int c.aG:=by rw[oo J];rfl
   refine⟨_,rfl,_,rfl,v,_,rfl,cP D o,_,rfl,bV (aW ?_)⟩;obtain⟨s0,s1⟩:=j.Lp J;obtain⟨_,_,_,u0,T,_,_,_,xw⟩:=id L;refine(Bt.or (a:=decide (c.aG<0)) (b:=decide ((((bJ y.length).map V.int).length:Int)<=c.aG)) (λk i=>⟨_,rfl,c.aG,0,r,rfl,_,rfl,i _ (ag.refl _)⟩) λH1 _ o k i=>⟨_,rfl,_,rfl,A,.ref u0,rfl,cP (o _ _ T) rfl,u0,_,rfl,.inr (aB.of (o _ _ xw)),c.aG,_,r,rfl,_,rfl,i _ (ag.refl _)⟩) _ λH2 m=>?_;rw[fb (Int.not_lt_of_ge s0),fb (by rw[Ya,fG];exact Int.not_le_of_gt s1)];exact bV (aW (eY _ _ ⟨m,λz=>z.1 J,rfl⟩))
  ·have g:c.k≠bj:=λz=>cc (du z);have r:kV (bp b.ps c)=.str (aw b.ps c.aG.toNat):=by rw[ig g];rfl
   obtain⟨tk,u,T,vu,_⟩:=L.get (j.v9 g);have m:=pW ok.nm (j.ok.iI g).1.2;refine⟨_,rfl,_,rfl,A,_,rfl,cP T vu,_,rfl,bV (aW ?_)⟩;refine(Bt.or (a:=a_) (b:=a_) (λk i=>⟨_,rfl,_,rfl,v,_,rfl,cP D o,_,rfl,i _ (ag.refl _)⟩) λH1 _ o k i=>⟨_,rfl,_,rfl,v,O (.str (fX b.ps c.aG.toNat)),rfl,(by rw[r];exact cP (o _ _ D) m),_,rfl,i _ (ag.refl _)⟩) _ λH2 m=>bV (aW ?_);refine⟨_,rfl,_,rfl,_,rfl,_,rfl,v,b.ps,c.k,c.one,c.aG.toNat,by rw[r];rfl,m _ _ D,ok.nm,one,(j.ok.iI g).1.2,ZiI j g,λH3 g3=>⟨_,rfl,?_⟩⟩;cases es:mw c.k (fX b.ps c.one) (fX b.ps c.aG.toNat) with
   |true=>exact bV (aW (eY _ _ ⟨m.trans g3,λz=>by rw[es] at z;exact absurd z.2 QD,rfl⟩))
   |false=>
    refine dk ?_;have e:oK y.length b c="wrong side":=bS ⟨g,es⟩;rw[e] at q;exact q _ (m.trans g3)
 rintro σ H7 ⟨g7,nw,rfl⟩;refine⟨_,rfl,_,rfl,_,rfl,_,rfl,E,b.ps,b.F,c.k,aw b.ps c.one,kV (bp b.ps c),rfl,R.same g7,yr _,λH8 g8=>⟨_,rfl,?_⟩⟩;have NA:=g7.trans g8;unfold oK at q;rw[bt nw] at q;refine bA (λct=>?_) (λct=>aW ?_)
 ·rw[bS ct] at q;exact q _ NA
 rw[bt ct] at q;refine(Bt.and (b:=decide (gF b (aw b.ps c.aG.toNat) (aw b.ps c.one))) (Vt.test (Vt.KZ (k:=c.k) (Vt.var rfl))) λH9 ip X k i=>?_) _ λH9 X=>?_
 ·have g:c.k≠bj:=λz=>by rw[z] at ip;exact absurd ip QK
  have r:kV (bp b.ps c)=.str (aw b.ps c.aG.toNat):=by rw[ig g];rfl
  refine⟨_,rfl,_,rfl,_,rfl,E,y,ys,b,aw b.ps c.aG.toNat,by rw[r];rfl,R.same (NA.trans X),ok,tG (j.ok.iI g).1.2,λp ks H' g' Q al=>⟨p,_,rfl,.inl (aq.of Q),rfl,yc _,_,rfl,?_⟩⟩;have e:fD (V.str (aw b.ps c.one)) (ks.map V.str)=decide (gF b (aw b.ps c.aG.toNat) (aw b.ps c.one)):=by
   rw[Wq,hI,rR,al]
  rw[e];exact i _ g'
 have G:=NA.trans X;refine bA (λx=>?_) (λx=>aW ?_)
 ·rw[Ws,hI] at x;rw[bS x] at q;exact q _ G
 rw[Ws,hI] at x;rw[bt x] at q;obtain⟨as,cY,eK⟩:=R.same G;have al:=cZ eK;have fl:=ok.fl;have Fl:b.F.length=b.fs.length:=Ya _;refine⟨_,rfl,_,_,rfl,rfl,_,rfl,_,rfl,_,rfl,by show 4<=sizeLine;decide,λt Ht nt gt NB=>⟨by show 1<=sizeLine;decide,λl Hl nl W hl=>⟨E,l,_,_,rfl,rfl,W _ _ (gt _ _ cY),hl,by rw[Ya];show _+1<=_;omega,λp Hp np gp Q=>⟨_,rfl,_,rfl,?_⟩⟩⟩⟩;have NC:=(gt.trans W).trans gp;refine⟨p,A,b.ps,y,ys,b.F++[c],c.one,rfl,⟨as++[t],by rw[Q,Yp];rfl,jB (F:=z_ Hp b.ps) ⟨-1,gp _ _ (W _ _ NB)⟩ (L2.Paired.bu eK λ_ _ ⟨z,e⟩=>⟨z,NC _ _ e⟩)⟩,L.same (G.trans NC),ok.nm,λc' dt=>?_,ok.gd.2.2.2.2,by have:=ok.m;omega,by rw[Ye];show _+1<=64;omega,one,λpr Hr npr gr N=>⟨by show 0<=sizeLine;decide,λe He ne ge he=>⟨pr,e,_,[],rfl,rfl,aq.of (ge _ _ N),aq.of he,_,rfl,?_⟩⟩⟩
 ·rcases Ym.mp dt with h|h
  ·obtain⟨pp,ND,rfl⟩:=Yf.mp (show c'∈b.fs.map (·.2) from h);exact ok.fg pp ND
  ·rw[Yd.mp h];exact j
 have gE:=(G.trans NC).trans (gr.trans ge);refine bA (λcr=>?_) (λcr=>aW ?_)
 ·rw[bS (eH cr)] at q;exact q _ gE
 ·rw[bt (λz=>cr (du z))] at q;exact q _ gE
def Sa(a b:af):(L2.rL a b=a/\L2.rM a b=b)\/(L2.rL a b=b/\L2.rM a b=a):=by
 unfold L2.rL L2.rM;by_cases d:b.cps.toList<a.cps.toList;·grind
 ·rw[bt d];by_cases c:a.cps.toList<b.cps.toList;·grind
  ·rw[bt c];have e:a=b:=by
    cases a with|mk ca=>cases b with|mk g=>
     grind
   grind
theorem QP{b:BS}(h:ql b.ps b.F c.k (aw b.ps c.one) (kV (bp b.ps c))=a_):fV b.ps c∉b.keys/\(cV c.k=ar->[.inr c.k,.inr (aw b.ps c.one)]∉(cD b.ps b.fs).map (·.1))/\¬(c.k="sibling"/\V.str (aw b.ps c.one)=kV (bp b.ps c)):=by
 unfold ql at h;rw[Bool.or_eq_false_iff] at h;obtain⟨J,E⟩:=h;have no:∀p∈b.fs,nI b.ps c.k (aw b.ps c.one) (kV (bp b.ps c)) p.2=a_:=λp k=>by
  have:=WC.mp J p.2 (Yf.mpr ⟨p,k,rfl⟩);exact J9.mpr this
 have s:∀{u v:Key},u=v->kV u=kV v:=λe=>by rw[e]
 refine⟨λH=>?_,λG k=>?_,λ⟨g,a⟩=>?_⟩
 ·obtain⟨p,k,e⟩:=Yf.mp H;have n:=no p k;have l:p.2.k=c.k->((aw b.ps p.2.one=aw b.ps c.one/\bp b.ps p.2=bp b.ps c)\/(c.k="sibling"/\bp b.ps p.2=.inr (aw b.ps c.one)/\Sum.inr (aw b.ps p.2.one)=bp b.ps c))->False:=λg a=>by
   have:nI b.ps c.k (aw b.ps c.one) (kV (bp b.ps c)) p.2=ar:=by
    unfold nI;rw[du g,Jb];rcases a with⟨a,d⟩|⟨a,d,L⟩;·rw[du a,du (s d)];rfl
    ·rw[du a,du (show kV (bp b.ps p.2)=.str (aw b.ps c.one) by rw[d];rfl),du (show V.str (aw b.ps p.2.one)=kV (bp b.ps c) by rw[←L];rfl)];simp
   rw[this] at n;cases n
  unfold fV at e;cases j:bp b.ps p.2 with
  |inl t=>
   cases i:bp b.ps c with
   |inl o=>
    rw[j,i] at e;injection e with g e;injection e with a e;injection e with d _;exact l (Wb g) (.inl ⟨Wb a,by rw[j,i,d]⟩)
   |inr o=>
    rw[j,i] at e;unfold keyOf at e;dsimp at e;split at e
    ·injection e with g e;injection e with a e;injection e with d _;cases d
    ·injection e with g e;injection e with a e;injection e with d _;cases d
  |inr t=>
   cases i:bp b.ps c with
   |inl o=>
    rw[j,i] at e;unfold keyOf at e;dsimp at e;split at e
    ·injection e with g e;injection e with a e;injection e with d _;cases d
    ·injection e with g e;injection e with a e;injection e with d _;cases d
   |inr o=>
    rw[j,i] at e;have r:p.2.k=c.k:=by
     unfold keyOf at e;dsimp at e;split at e<;>split at e<;>(injection e with g _;exact Wb g)
    unfold keyOf at e;dsimp at e;rw[r] at e;by_cases m:c.k="sibling"
    ·rw[bS m,bS m] at e;injection e with _ e;injection e with a e;injection e with d _;have a:=Wb a;have d:=Wb d;refine l r ?_;rcases Sa (aw b.ps p.2.one) t with⟨A,z⟩|⟨A,z⟩<;>rcases Sa (aw b.ps c.one) o with⟨y,x⟩|⟨y,x⟩<;>rw[A,y] at a<;>rw[z,x] at d;·exact .inl ⟨a,by rw[j,i,d]⟩
     ·exact .inr ⟨m,by rw[j,d],by rw[i,a]⟩
     ·exact .inr ⟨m,by rw[j,a],by rw[i,d]⟩
     ·exact .inl ⟨d,by rw[j,i,a]⟩
    ·rw[bt m,bt m] at e;injection e with _ e;injection e with a e;injection e with d _;exact l r (.inl ⟨Wb a,by rw[j,i,d]⟩)
 ·obtain⟨q,D,e⟩:=Yf.mp k;unfold cD at D;obtain⟨p,k,rfl⟩:=Yf.mp D;obtain⟨F,N⟩:=Y5.mp k;have n:=no p F;injection e with g e;injection e with a _;unfold nI at n;rw[du (Wb g),du (Wb a),G] at n;simp at n
 ·rw[du g,du a] at E;cases E
def Zej(e:cE xs i b)(o:fN xs i b.ps.length c)(h:qj (b.F++[c]) xs.length c.one≠[]):∃f,o_ xs.length b.ps.length f/\∀c'∈b.F++[c],gm f c':=by
 obtain⟨a,n⟩:=List.exists_mem_of_ne_nil _ h;obtain⟨_,g,p,m⟩:=Zd_.mp n;obtain⟨t,inr,j⟩:=e.lv;have l:∀c'∈b.F++[c],eZ xs.length b.ps.length c':=λc' d=>by
  rcases Ym.mp d with h|h
  ·obtain⟨k,q,rfl⟩:=Yf.mp (h);exact(e.fg k q).ok
  ·rw[Yd.mp h];exact o.ok
 obtain⟨f,s,r,_⟩:=Zbk l inr (λc' d=>by
  rcases Ym.mp d with h|h;·grind
  ·rw[Yd.mp h];exact .inl rfl) p m
 grind
def Sb{a:Z Int}(h:oK a.length b c=""):¬(c.k≠bj/\mw c.k (fX b.ps c.one) (fX b.ps c.aG.toNat)=a_)/\ql b.ps b.F c.k (aw b.ps c.one) (kV (bp b.ps c))=a_/\¬(cV c.k=ar/\gF b (aw b.ps c.aG.toNat) (aw b.ps c.one))/\qj (b.F++[c]) a.length c.one≠[]:=by
 unfold oK at h;by_cases g:c.k≠bj/\mw c.k (fX b.ps c.one) (fX b.ps c.aG.toNat)=a_;·rw[bS g] at h;exact absurd h QK
 rw[bt g] at h;by_cases e:ql b.ps b.F c.k (aw b.ps c.one) (kV (bp b.ps c))=ar;·rw[bS e] at h;exact absurd h QK
 rw[bt e] at h;by_cases d:cV c.k=ar/\gF b (aw b.ps c.aG.toNat) (aw b.ps c.one);·rw[bS d] at h;exact absurd h QK
 rw[bt d] at h;by_cases i:qj (b.F++[c]) a.length c.one=[];·rw[bS i] at h;exact absurd h QK
 grind
def IH(g:cE xs d b)(e:fN xs d b.ps.length c)(a:b.fs.length<63)(h:oK xs.length b c=""):Cp xs d b c:=by
 obtain⟨_,l,_,k⟩:=Sb h;obtain⟨j,i,_⟩:=QP l;exact⟨e,j,i,Zej g e k,a⟩
def ZfF(i:cE xs d b)(o:fN xs d b.ps.length c)(a:b.fs.length<63)(h:oK xs.length b c="")(e:c.k≠bj):KW xs d b c:=by
 obtain⟨t,n,m,_⟩:=Sb h;obtain⟨s,k,j⟩:=QP n;have g:=ig (ps:=b.ps) e;refine⟨IH i o a h,e,?_,⟨k,λ_=>⟨?_,λ⟨q,p⟩=>j ⟨q,by rw[g,p];rfl⟩⟩⟩,λl r=>m ⟨l,r⟩⟩;·grind
 ·rwa[←g]
def oa(a:bO):Z V:=a.map λp=>.str p.1
def JE(a:bO):(oa a).length=a.length:=Ya _
def ZiJ(b:0<=z)(h:z<(a.length:Int)):dI (oa a) z=O (.str (aw a z.toNat)):=by
 obtain⟨k,rfl⟩:∃k:Nat,z=(k:Int):=⟨z.toNat,(mU (yK b))⟩;refine fL ?_;unfold oa aw
 grind
def yH{n:Nat}(h:0<n):0<=z % (n:Int)/\z % (n:Int)<(n:Int):=⟨Jg _ QO,Wz _ QO⟩
def Vt.JG(d:σ[i]?=O (O (.ref nl)))(c:H nl=O (.lst (oa a)))(g:0<a.length)(n:Vt e σ H (.int z)):Vt (jP (v_ K) (gf i) (jP (rI (λ_ j=>0<j) λi j=>V.int (i % j)) e (nN (yU K) (ir (gf i) jL)))) σ H (.str (aw a (z % (a.length:Int)).toNat)):=λk h=>⟨_,d,n _ λo b=>by
 have l:=JE a;have m:=yH (z:=z) g;exact⟨_,d,nl,_,rfl,.inl (aq.of (b _ _ c)),_,_,rfl,rfl,QO,nl,_,_,_,rfl,rfl,aq.of (b _ _ c),by rw[l];exact ZiJ m.1 m.2,h o b⟩⟩
inductive TU(e:Z V)(H:Hp)(Q:VK)(E:XK):Prop
 |mk (c b:U) (a:bO) (z:Int) (s:af) (m:e=[.ref c,.ref b,.int z,.str s]) (l:H c=O (.lst (oa a))) (k:H b=O (.dK (hV a))) (j:(a.map (·.1)).Nodup) (h:0<a.length) (g:a.length<=100) (q:∀i,i<a.length->∀d,ag H d->Q (.str (aw a i)) d)
def ZfG(a b:Z Int)(h:0<=d/\d<4):∃(k:af) (c:Z Int) (w:af),dI [V.str "mother",V.str "father",V.str "wed",V.str "sibling"] d=O (.str k)/\(k,c)∈rG a b/\dI [V.str "woman",V.str "man",V.str "woman",V.str ""] d=O (.str w):=by
 have:d=0\/d=1\/d=2\/d=3:=QO
 rcases this with rfl|rfl|rfl|rfl;·exact⟨_,inv a,_,rfl,QS,rfl⟩
 ·exact⟨_,inv (bT a b),_,rfl,QS,rfl⟩
 ·exact⟨_,b,_,rfl,QS,rfl⟩
 ·exact⟨_,bJ a.length,_,rfl,QS,rfl⟩
inductive TV(l:Z V)(H:Hp)(Q:VK)(E:XK):Prop
 |mk (j i k:U) (a:bO) (b h:Z Int) (p o n m e:Int) (z:l=[.ref j,.ref i,.ref k,.int (b.length:Int)]) (v:H j=O (.lst (oa a))) (u:H i=O (.dK (hV a))) (t:(a.map (·.1)).Nodup) (s:0<a.length) (r:a.length<=100) (hd:H k=O (.lst ([p,o,n,m,e].map V.int))) (y:0<=e/\e<4) (x:oI b h) (q:∀c,fN b h a.length c->∀(d:U) (g:Hp),H d=aF->ag H g->g d=O (.tup [.str c.k,.str (aw a c.one),kV (bp a c)])->Q (.ref d) g)
abbrev LJ:Z af:=["_law_names","_law_sides","_law_at","_law_side"]
def Oj:aP ["_law_names","_law_sides","_law_at","_law_side","_law_k"] LJ (aJ G1):=.aY
def Zci(F:aM K "_law_pick" "_law_pick" G1 f fd)(l:Bl B):aE P w K B I aL 1 f fd LJ TU:=by
 refine F.o Oj λs H R h=>?_;obtain⟨r,p,d,z,o,rfl,v,Q,N,u,pm,q⟩:=h;refine⟨_,(aj (dE eJ rfl (pN rfl l.jW (aa (dC K l (pv 0)) ae)) (aV 4 Oj.nd) (av (aU (PW.pt (pw_or (bH cq (pv 3) a9) (pw_or1 (bH cq (de (bo R) (pv 1) (bc (iL K) (pv 0) (bh eQ (bh i6 (pv 2) (pv 4)) (dC K l (pv 0)))) (λ_ _=>rfl)) (pv 3))))) (av (aI (bc (iL K) (pv 0) (bh eQ (bh i6 (pv 2) (pv 4)) (dC K l (pv 0)))))) a8))) (av (aI (bc (iL K) (pv 0) (bh eQ (pv 2) (dC K l (pv 0))))))),?_⟩;refine hP ?_;intros;have Af:=JE d;have at_:∀z:Int,(z % (d.length:Int)).toNat<d.length:=λz=>by have:=yH (z:=z) u;omega
 refine eC (λc b=>ag H b/\∃g:bw V,c=[O (.ref r),O (.ref p),O (.int z),O (.str o),g]) (λjT T=>?_) ?_
 ·refine⟨_,rfl,r,_,rfl,.inl (aq.of v),_,rfl,QO,QO,AM (lo:=0) (n:=(((oa d).length:Nat):Int).toNat) (λ_ c b=>ag H b/\∃g:bw V,c=[O (.ref r),O (.ref p),O (.int z),O (.str o),g]) ⟨ag.refl _,aF,rfl⟩ ?_ (λc b h=>T _ _ h)⟩;rintro j c b hj ⟨a,g,rfl⟩;rw[Dm];have J:∀m,ag b m->Vt _ _ m _:=λm t=>Vt.JG (K:=K) (i:=0) (σ:=[O (.ref r),O (.ref p),O (.int z),O (.str o),O (.int (j:Int))]) (z:=z+(j:Int)) (e:=jP (rV λi j=>V.int (i+j)) (gf 2) (gf 4)) rfl (t _ _ (a _ _ v)) u (λk A=>⟨_,rfl,_,rfl,_,_,rfl,rfl,A _ (ag.refl _)⟩);refine(Bt.or (Vt.test (Vt.eq (Vt.var rfl) (λ_ _=>Vt.c) rfl)) λm _ t=>Vt.test (Vt.eq (x:=.str (fX d ((z+(j:Int)) % (d.length:Int)).toNat)) (y:=.str o) (λk A=>⟨_,rfl,J m t _ λX L=>⟨p,_,rfl,cP (L _ _ (t _ _ (a _ _ Q))) (pW N (at_ _)),A X L⟩⟩) (λ_ _=>Vt.var rfl) rfl)) _ λW E=>?_;refine bA (λ_=>?_) (λ_=>aW ⟨a.trans E,_,rfl⟩);exact J W E _ λG D=>q _ (at_ _) G ((a.trans E).trans D)
 rintro c b ⟨a,g,rfl⟩;exact Vt.JG (K:=K) (i:=0) (z:=z) rfl (a _ _ v) u (Vt.var rfl) _ λG D=>q _ (at_ _) G (a.trans D)
abbrev LK:Z af:=["_law_names","_law_sides","_law_drawn","_law_size"]
def xU:aP ["_law_names","_law_sides","_law_drawn","_law_size","_law_kind","_law_one","_law_want"] LK (aJ G3):=.aY
def Zcj(F:aM K "_law_fact" "_law_fact" G3 f fd)(AH:HasFn P w K B I 1 "_law_pick" LJ TU)(bl:Bl B):aE P w K B I aL 2 f fd LK TV:=by
 refine F.o xU λs H N h=>?_;obtain⟨r,p,b,c,d,ys,d0,y,d2,d3,d4,rfl,t,L,J,l,E,hd,b4,Q,q⟩:=h;refine⟨_,(aj (bR 4 xU.nd (bc (iL K) (cU (aa a9 (aa a9 (aa a9 (aa a9 ae))))) (bc (iL K) (pv 2) aS))) (aj (bR 5 xU.nd (bc (iL K) (pv 0) (bh eQ (bc (iL K) (pv 2) aS) (dC K bl (pv 0))))) (aj (aU (bH Kv (bc (iL K) (pv 2) aS) aS) (av (aI (c5 (aa a9 (aa (pv 5) (aa (bh eQ (bc (iL K) (pv 2) aS) (pv 3)) ae)))))) a8) (aj (aU (bH cq (pv 4) a9) (av (bR 5 xU.nd (aZ AH N (aa (pv 0) (aa (pv 1) (aa (bc (iL K) (pv 2) aS) (aa a9 ae))))))) a8) (aj (bR 6 xU.nd (bc (iL K) (cU (aa a9 (aa a9 (aa a9 (aa a9 ae))))) (bc (iL K) (pv 2) aS))) (av (aI (c5 (aa (pv 4) (aa (pv 5) (aa (aZ AH N (aa (pv 0) (aa (pv 1) (aa (bc (iL K) (pv 2) aS) (aa (pv 6) ae))))) ae))))))))))),?_⟩;refine ud ?_;intros;have sz:(10000:Nat)<=sizeLine:=by rw[dg];decide
 obtain⟨k,tn,wt,ek,e,ew⟩:=ZfG d ys b4;have at_:∀z:Int,(z % (c.length:Int)).toNat<c.length:=λz=>by have:=yH (z:=z) l;omega
 obtain⟨_,_,_,l2,l8⟩:=id Q;have VT:(0:Int)<(d.length:Int):=QO
 refine zt ?_;intro;refine bW ?_;refine⟨by show 4<=sizeLine;decide,λkl H1 Zi m r8=>⟨_,rfl,b,_,_,_,rfl,rfl,aq.of (m _ _ hd),rfl,kl,_,_,_,rfl,rfl,aq.of r8,ek,?_⟩⟩;refine zt ?_;intro;refine bW ?_;have h_:=m _ _ t;refine Vt.JG (K:=K) (i:=0) (z:=y) rfl h_ l (λkk e=>⟨_,rfl,b,_,_,_,rfl,rfl,aq.of (m _ _ hd),rfl,e _ (ag.refl _)⟩) _ λH2 g2=>?_;have a:=m.trans g2;refine⟨_,rfl,b,_,_,_,rfl,rfl,aq.of (a _ _ hd),rfl,_,_,rfl,rfl,_,rfl,bA (λ_=>?_) (λ_=>aW ?_)⟩
 ·refine⟨_,rfl,_,rfl,b,_,_,_,rfl,rfl,aq.of (a _ _ hd),rfl,_,rfl,_,_,rfl,rfl,VT,by show 3<=sizeLine;decide,λx H3 A v o=>?_⟩;have mm:=yH (z:=d3) (n:=d.length) (i2 (rn _) l2);exact q ⟨bj,(y % (c.length:Int)).toNat,d3 % (d.length:Int),[]⟩ ⟨⟨at_ _,λz=>absurd rfl z⟩,.inl rfl,λ_=>mm⟩ x H3 (a.free A) (a.trans v) (by rw[o,oo rfl];rfl)
 have G:k≠bj:=λz=>Zc9 (z▸e);refine jZ (λD H6=>ag H H6/\∃i:Nat,i<c.length/\D=[O (.ref r),O (.ref p),O (.ref b),O (.int (d.length:Int)),O (.str k),O (.str (aw c i)),aF]) (λnY X=>?_) ?_
 ·refine⟨_,rfl,rfl,_,rfl,bA (λ_=>?_) (λ_=>aW (X _ _ ⟨a,_,at_ _,rfl⟩))⟩;refine⟨_,rfl,_,rfl,_,rfl,b,_,_,_,rfl,rfl,aq.of (a _ _ hd),rfl,r,p,c,y,"man",rfl,a _ _ t,a _ _ L,J,l,E,λi u H3 v=>aQ (X _ _ ⟨a.trans v,i,u,rfl⟩)⟩
 rintro D H6 ⟨W,i,u,rfl⟩;refine zt ?_;intro;refine bW ?_;refine⟨by show 4<=sizeLine;decide,λwl H7 YS T zp=>⟨_,rfl,b,_,_,_,rfl,rfl,aq.of (T _ _ (W _ _ hd)),rfl,wl,_,_,_,rfl,rfl,aq.of zp,ew,?_⟩⟩;have g:=W.trans T;refine⟨_,rfl,_,rfl,_,rfl,_,rfl,_,rfl,b,_,_,_,rfl,rfl,aq.of (g _ _ hd),rfl,_,rfl,r,p,c,d2,wt,rfl,g _ _ t,g _ _ L,J,l,E,λj hj H8 R=>⟨by show 3<=sizeLine;decide,λx H9 A g9 o=>?_⟩⟩;obtain⟨ft,tl⟩:=Zfu Q e;exact q ⟨k,i,(j:Int),tn⟩ ⟨⟨u,λ_=>⟨⟨by show(0:Int)<=(j:Int);exact ri _,hj⟩,ft,tl⟩⟩,.inr e,λz=>absurd z G⟩ x H9 (g.free (R.free A)) ((g.trans R).trans g9) (by rw[o,ig G];rfl)
def jU(n:Nat):Z Nat:=if n<10 then[48+n] else[48+n/10,48+n % 10]
def lP(n:Nat):af:=.ofString (toString (n:Int))
def JH:∀n<61,(lP n).cps.toList=jU n:=QK
def fO(k z:Nat):Nat:=if z/3 % 3=1 then 9 else(k*z+z) % 5
def lQ(m:Nat):af:=Txt.mul "q" (m:Int)
def Zg9:∀m<10,(lQ m).cps.toList=List.replicate m 113:=QK
def uW:af:="abcdefghijklmnopqrstuvwxyz"
def Kn:∀i<26,dI uW.cps.toList ((i:Nat):Int)=O (97+i):=QK
def qN(i:Nat):af:=⟨#[97+i]⟩
def dA(z k:Nat):af:=if z % 3=0 then(qN ((k*7+z) % 26)++lP (k/26))++lQ (fO k z) else if z % 3=1 then(qN (z % 26)++lQ (fO k z))++lP ((k*17+z) % 61) else(qN (z % 26)++lP ((k*17+z) % 61))++lQ (fO k z)
def Ko(k z:Nat):fO k z<10:=by
 unfold fO;split<;>omega
def vP(a b:af):(a++b).cps.toList=a.cps.toList++b.cps.toList:=Array.toList_append
def AU(z k:Nat)(a:k<60):(dA z k).cps.toList=if z % 3=0 then[97+(k*7+z) % 26,48+k/26]++List.replicate (fO k z) 113 else if z % 3=1 then(97+z % 26)::(List.replicate (fO k z) 113++jU ((k*17+z) % 61)) else(97+z % 26)::(jU ((k*17+z) % 61)++List.replicate (fO k z) 113):=by
 have f:=Zg9 _ (Ko k z);unfold dA;split
 ·rw[vP,vP,f,JH _ QO];unfold jU;rw[bS QO];rfl
 split
 ·rw[vP,vP,f,JH _ (jq _ (by decide))];rfl
 ·rw[vP,vP,f,JH _ (jq _ (by decide))];rfl
def NF(l:Z Nat):Nat:=l.foldl (λa c=>10*a+(c-48)) 0
def BZ:NF (jU n)=n:=by
 unfold jU;split;·exact(wD _).trans (Zj _ _)
 ·show 10*(10*0+(48+n/10-48))+(48+n % 10-48)=n;rw[Zj,Zj,Nat.mul_zero,wD,Nat.div_add_mod]
def TX(h:n<61):∀c∈jU n,48<=c/\c<58:=by
 unfold jU
 grind
def AI(h:n<61):(jU n).filter (λc=>decide (c<58))=jU n:=List.filter_eq_self.mpr λc a=>du (TX h c a).2
def AJ(m:Nat):(List.replicate m 113).filter (λc=>decide (c<58))=[]:=by
 grind
def Zek(j:k<60)(l:k'<60)(e:dA z k=dA z k'):k=k':=by
 have e:(dA z k).cps.toList=(dA z k').cps.toList:=by rw[e]
 rw[AU z k j,AU z k' l] at e;by_cases i:z % 3=0
 ·rw[bS i,bS i] at e;injection e with m e;injection e with a _;omega
 rw[bt i,bt i] at e;have b:(k*17+z) % 61=(k'*17+z) % 61->k=k':=λh=>QO
 by_cases g:z % 3=1
 ·rw[bS g,bS g] at e;injection e with _ e;have a:=d6 (List.filter λc=>decide (c<58)) e;rw[Wo,Wo,AJ,AJ,AI (jq _ (by decide)),AI (jq _ (by decide)),MH,MH] at a;have d:=d6 NF a;rw[BZ,BZ] at d;exact b d
 ·rw[bt g,bt g] at e;injection e with _ e;have a:=d6 (List.filter λc=>decide (c<58)) e;rw[Wo,Wo,AJ,AJ,AI (jq _ (by decide)),AI (jq _ (by decide)),Y8,Y8] at a;have d:=d6 NF a;rw[BZ,BZ] at d;exact b d
def TY:∀i<26,gw pV (97+i)=ar/\gw m_ (97+i)=ar:=QK
def TZ:∀i<10,gw m_ (48+i)=ar:=QK
def ZkR:gw m_ 113=ar:=QK
def OS(l:k<60):tY (dA z k)=ar/\(dA z k).length<=12:=by
 have q:=Ko k z;have b:(List.replicate (fO k z) 113).all (gw m_)=ar:=Wt.mpr λc d=>by rw[List.eq_of_mem_replicate d];exact ZkR
 have s:∀n,n<61->(jU n).all (gw m_)=ar/\(jU n).length<=2:=λn j=>by
  refine⟨Wt.mpr λc d=>?_,?_⟩
  ·have:=TX j c d;have e:=TZ (c-48) QO
   grind
  ·unfold jU;split<;>simp
 have len:(dA z k).length=(dA z k).cps.toList.length:=rfl;have c:=AU z k l;have a:∃(i:Nat) (r:Z Nat),i<26/\(dA z k).cps.toList=(97+i)::r/\r.length<=11/\r.all (gw m_)=ar:=by
  by_cases m:z % 3=0
  ·rw[bS m] at c;refine⟨_,_,(jq _ (by decide)),c,?_,?_⟩
   ·show((48+k/26)::List.replicate (fO k z) 113).length<=11
    grind
   ·show((48+k/26)::List.replicate (fO k z) 113).all (gw m_)=ar;rw[Ju,b,TZ _ QO];rfl
  grind
 obtain⟨i,r,g,e,p,o⟩:=a;have h:(dA z k).length<=12:=by
  grind
 refine⟨?_,h⟩;rw[Py e,du h,(TY i g).1,Ju,(TY i g).2,o];rfl
def Zg_:∀m<10,(lQ m).length<=9:=QK
def Se:∀n<61,(lP n).length<=2:=QK
def JI(a b:af):(a++b).length=a.length+b.length:=Array.size_append
inductive T3(a:Z V)(H:Hp)(Q:VK)(E:XK):Prop
 |mk (k z:Nat) (d:a=[.int (k:Int),.int (z:Int)]) (c:k<60) (b:z<97) (q:Q (.str (dA z k)) H)
abbrev LL:Z af:=["_law_k","_law_salt"]
def xV:aP ["_law_k","_law_salt","_law_letters","_law_fill","_law_number"] LL (aJ GY):=.aY
def Zck(F:aM K "_law_name" "_law_name" GY f fd)(t:Bl B):aE P w K B I aL 1 f fd LL T3:=by
 refine F.o xV λs H R h=>?_;obtain⟨k,z,rfl,W,Q,q⟩:=h;refine⟨_,(aj (bR 2 xV.nd a9) (aj (bR 3 xV.nd (bh RB a9 (bh eQ (bh i6 (bh p_ (pv 0) (pv 1)) (pv 1)) aS))) (aj (bR 4 xV.nd (bh eQ (bh i6 (bh p_ (pv 0) aS) (pv 1)) aS)) (aj (aU (bH cq (bh eQ (bh Bb (pv 1) aS) aS) aS) (av (bR 3 xV.nd (bh RB a9 aS))) a8) (aj (aU (bH cq (bh eQ (pv 1) aS) aS) (av (aI (bh pL (bh pL (bc yy (pv 2) (bh eQ (bh i6 (bh p_ (pv 0) aS) (pv 1)) aS)) (fh FI rfl t.vX vS (aa (bh Bb (pv 0) aS) ae))) (pv 3)))) a8) (aj (aU (bH cq (bh eQ (pv 1) aS) aS) (av (aI (bh pL (bh pL (bc yy (pv 2) (bh eQ (pv 1) aS)) (pv 3)) (fh FI rfl t.vX vS (aa (pv 4) ae))))) a8) (av (aI (bh pL (bh pL (bc yy (pv 2) (bh eQ (pv 1) aS)) (fh FI rfl t.vX vS (aa (pv 4) ae))) (pv 3)))))))))),?_⟩;have G:yQ (k:Int) (z:Int):=.inl ⟨QO,QO⟩;have A:∀j:Int,yQ (k:Int) j:=λj=>.inl ⟨QO,QO⟩;have J:K5 (z:Int) 3:=⟨(by decide),(by decide)⟩;have p:K5 (k:Int) 26:=⟨(by decide),(by decide)⟩;have sz:(10000:Nat)<=sizeLine:=by rw[dg];decide
 have y:((k:Int)*17+(z:Int)) % 61=(((k*17+z) % 61:Nat):Int):=rfl
 have b:((k:Int)*7+(z:Int)) % 26=(((k*7+z) % 26:Nat):Int):=rfl
 have x:(z:Int) % 26=((z % 26:Nat):Int):=rfl
 have o:(k:Int)/26=((k/26:Nat):Int):=rfl
 have E:((k:Int)*(z:Int)+(z:Int)) % 5=(((k*z+z) % 5:Nat):Int):=by rw[Int.natCast_emod,Vr,Int.natCast_mul];rfl
 refine setC ?_;refine zt ?_;intro;refine bW ?_;refine⟨_,rfl,_,rfl,_,_,rfl,rfl,G,_,rfl,_,_,rfl,rfl,_,_,rfl,rfl,(by decide),"q",(k*z+z) % 5,rfl,d6 V.int E,QK,QO,?_⟩;refine zt ?_;intro;refine bW ?_;refine⟨_,rfl,_,_,rfl,rfl,A _,_,rfl,_,_,rfl,rfl,_,_,rfl,rfl,(by decide),?_⟩;refine jZ (λu D=>D=H/\u=[O (.int (k:Int)),O (.int (z:Int)),O (.str uW),O (.str (lQ (fO k z))),O (.int (((k*17+z) % 61:Nat):Int))]) (λL v=>?_) ?_
 ·refine⟨_,rfl,_,_,rfl,rfl,J,_,_,rfl,rfl,(by decide),rfl,_,rfl,bA (λc=>?_) (λc=>aW ?_)⟩
  ·have c:=V.int.inj (eH c);have r:z/3 % 3=1:=QO
   have m:fO k z=9:=bS r;refine⟨"q",9,rfl,rfl,QK,(by decide),aQ (v _ _ ⟨rfl,?_⟩)⟩;rw[m,←y];rfl
  ·have r:¬z/3 % 3=1:=λw=>c (du (d6 V.int QO));have m:fO k z=(k*z+z) % 5:=bt r;refine v _ _ ⟨rfl,?_⟩;rw[m,←y];rfl
 rintro u D ⟨rfl,rfl⟩;have N:=Zg_ _ (Ko k z);have d:uW.length<=sizeLine:=Yy (show uW.length<=100 by decide+kernel) (by decide);have g:∀n:Nat,n<61->(n:Int).natAbs.log2<1920:=λn T=>Jk (Nat.log2_le_self _) QO;refine⟨_,rfl,_,_,rfl,rfl,(by decide),rfl,_,rfl,bA (λc=>?_) (λc=>aW ?_)⟩
 ·have a:z % 3=0:=by have:=V.int.inj (eH c);omega
  have ld:=Se (k/26) QO;refine⟨_,rfl,_,rfl,_,_,rfl,rfl,A _,_,rfl,_,_,rfl,rfl,_,_,rfl,rfl,(by decide),uW,_,_,rfl,d6 V.int b,d,Kn _ (jq _ (by decide)),_,rfl,_,_,rfl,rfl,p,((k/26:Nat):Int),d6 (λi=>[V.int i]) o,g _ QO,_,_,rfl,rfl,?_,_,rfl,_,_,rfl,rfl,?_,?_⟩
  ·show 1+(lP (k/26)).length<=sizeLine;omega
  ·show(qN ((k*7+z) % 26)++lP (k/26)).length+(lQ (fO k z)).length<=sizeLine;rw[JI];show 1+_+_<=_;omega
  ·have e:dA z k=(qN ((k*7+z) % 26)++lP (k/26))++lQ (fO k z):=bS a;rw[e] at q;exact q
 have a:¬z % 3=0:=λw=>c (du (d6 V.int QO));have ld:=Se ((k*17+z) % 61) (jq _ (by decide));refine⟨_,rfl,_,_,rfl,rfl,(by decide),rfl,_,rfl,bA (λc=>?_) (λc=>aW ?_)⟩
 ·have l:z % 3=1:=by have:=V.int.inj (eH c);omega
  refine⟨_,rfl,_,rfl,_,_,rfl,rfl,(by decide),uW,_,_,rfl,d6 V.int x,d,Kn _ (jq _ (by decide)),_,rfl,_,_,rfl,rfl,?_,_,rfl,_,rfl,g _ (jq _ (by decide)),_,_,rfl,rfl,?_,?_⟩
  ·show 1+(lQ (fO k z)).length<=sizeLine;omega
  ·show(qN (z % 26)++lQ (fO k z)).length+(lP ((k*17+z) % 61)).length<=sizeLine;rw[JI];show 1+_+_<=_;omega
  ·have e:dA z k=(qN (z % 26)++lQ (fO k z))++lP ((k*17+z) % 61):=(bt a).trans (bS l);rw[e] at q;exact q
 have l:¬z % 3=1:=λw=>c (du (d6 V.int QO));refine⟨_,rfl,_,rfl,_,_,rfl,rfl,(by decide),uW,_,_,rfl,d6 V.int x,d,Kn _ (jq _ (by decide)),_,rfl,_,rfl,g _ (jq _ (by decide)),_,_,rfl,rfl,?_,_,rfl,_,_,rfl,rfl,?_,?_⟩
 ·show 1+(lP ((k*17+z) % 61)).length<=sizeLine;omega
 ·show(qN (z % 26)++lP ((k*17+z) % 61)).length+(lQ (fO k z)).length<=sizeLine;rw[JI];show 1+_+_<=_;omega
 ·have e:dA z k=(qN (z % 26)++lP ((k*17+z) % 61))++lQ (fO k z):=(bt a).trans (bt l);rw[e] at q;exact q
inductive UW(C CL CJ:U)(i:Z V)(H:Hp)(Q:VK)(E:XK):Prop
 |mk (l:BL) (b:BS) (a d:Z Int) (c:Fc) (h:U) (p:i=[.ref l.h,.ref h]) (o:bF H C CL CJ l a d b) (ok:cE a d b) (m:H h=O (.tup [.str c.k,.str (aw b.ps c.one),kV (bp b.ps c)])) (n:fN a d b.ps.length c) (j:b.fs.length<63) (k:oK a.length b c="") (dl:b.dn.length<200) (q:∀(g:BL) (e:Hp),cC H e l g->bF e C CL CJ g a d (b.yO c)->Q (.int (b.co:Int)) e)
structure jy(C CL CJ:U)(H:Hp)(xs ys:Z Int)(z j:Nat)(td:U)(l:BL)(b:BS)(nl sd fl st:U):Prop where
 ba:bF H C CL CJ l xs ys b
 ok:cE xs ys b
 names:H nl=O (.lst (oa b.ps))
 n1:nl∉l.fp
 dy:H sd=O (.dK (hV b.ps))
 n2:sd∉l.fp
 facts:∃as:Z U,H fl=O (.lst (as.map V.ref))/\Paired (dF H b.ps) as b.fs
 n3:fl∉l.fp
 tup:H st=O (.tup [.ref nl,.ref sd,.ref fl,.int (b.co:Int)])
 turns:iK H td xs ys
 n4:td∉l.fp
 nm:b.ps.map (·.1)=(List.range b.ps.length).map (dA z)
 so:(b.fs.map (·.1)).Pairwise (·<·)
 cp:b.ps.length<=j
 cf:b.ps.length+b.fs.length<=j
 cd:b.dn.length<=j
section
variable {H W:Hp}{xs X:Z Int}{z j:Nat}{T:U}{l l':BL}{b:BS}{P Q R st:U}
def jy.same(g:ag H W)(s:jy C CL CJ H xs X z j T l b P Q R st):jy C CL CJ W xs X z j T l b P Q R st:=
 ⟨s.ba.same g,s.ok,g _ _ s.names,s.n1,g _ _ s.dy,s.n2,let⟨as,c,a⟩:=s.facts;⟨as,g _ _ c,L2.Paired.bu a λ _ _=>g _ _⟩,s.n3,g _ _ s.tup,s.turns.same g,s.n4,s.nm,s.so,s.cp,s.cf,s.cd⟩
def jy.more(s:jy C CL CJ H xs X z j T l b P Q R st):jy C CL CJ H xs X z (j+1) T l b P Q R st:=
 ⟨s.ba,s.ok,s.names,s.n1,s.dy,s.n2,s.facts,s.n3,s.tup,s.turns,s.n4,s.nm,s.so,Je s.cp,Je s.cf,Je s.cd⟩
theorem jy.FL(s:jy C CL CJ H xs X z j T l b P Q R st):FL H b.ps R b.F:=by
 obtain⟨a,g,d⟩:=s.facts;refine⟨a,g,?_⟩;have:∀{a:Z U} {fs:Z (Nat×Fc)},Paired (dF H b.ps) a fs->Paired (z_ H b.ps) a (fs.map (·.2)):=λh=>by
  induction h with
  |nil=>exact .nil
  |cons e _ c=>exact .cons ⟨_,e⟩ c
 exact this d
def cC.off(w:cC H W l l')(h:H a=O o)(n:a∉l.fp):W a=O o/\a∉l'.fp:=
 ⟨w.out _ _ h n,λz=>(w.grow a z).elim n λq=>by rw[h] at q;cases q⟩
def cC.b_(w:cC H W l l')(c:bF H C CL CJ l xs X b)(h:H a=O (.tup us)):W a=O (.tup us):=w.out _ _ h (c.tup h)
def cC.iK(w:cC H W l l')(a:bF H C CL CJ l xs X b)(h:iK H T xs X)(n:T∉l.fp):iK W T xs X:=by
 obtain⟨m,f,c,s,k,i,g,e,d⟩:=h;exact⟨m,f,c,s,w.out _ _ k n,w.b_ a i,w.b_ a g,w.b_ a e,w.b_ a d⟩
def Ij(w:cC H W l l')(c:bF H C CL CJ l xs X b)(h:Paired (dF H a) as fs):Paired (dF W a) as fs:=L2.Paired.bu h λ_ _ e=>w.b_ c e
def bF.fresh(c:bF H C CL CJ l xs X b)(h:H a=aF):a∉l.fp:=λz=>c.there z h
def dF.ext(d:fN xs X c.length p.2)(h:dF H c a p):dF H (c++[(n,s)]) a p:=by
 have e:∀i,i<c.length->aw (c++[(n,s)]) i=aw c i:=λi m=>by
  unfold aw
  grind
 unfold dF eM at h⊢;have g:bp (c++[(n,s)]) p.2=bp c p.2:=by
  by_cases k:p.2.k=bj;·rw[oo k,oo k]
  ·rw[ig k,ig k,e _ (d.ok.iI k).1.2]
 rwa[e _ d.ok.one,g]
def jy.fresh(s:jy C CL CJ H xs X z j T l b P Q R st)(a:j<60)(jz:af)(g:Kl jz=ar):Lq b (dA z b.ps.length) jz:=by
 have c:=s.cp;obtain⟨n,h⟩:=OS (k:=b.ps.length) (mz c a);refine⟨n,g,λm=>?_,QO,(eL h (by decide))⟩;rw[s.nm] at m;obtain⟨i,d,e⟩:=Yf.mp m;have d:=Wn.mp d;have:=Zek QO (mz c a) e;omega
def nm_more(h:b.ps.map (·.1)=(List.range b.ps.length).map (dA z))(s:af):(b.ps++[(dA z b.ps.length,s)]).map (·.1)=(List.range (b.ps++[(dA z b.ps.length,s)]).length).map (dA z):=by
 rw[Yp,h,Ye];show _++[dA z b.ps.length]=(List.range (b.ps.length+1)).map (dA z);rw[Vq,Yp];rfl
end
inductive Sf(C CL CJ:U)(m:Z V)(H:Hp)(Q:VK)(E:XK):Prop
 |mk (g e:Z Int) (z j:Nat) (a:Int) (c:U) (l:BL) (b:BS) (o n t st:U) (y:m=[.ref l.h,.ref st,.int a,.ref c,.int (z:Int)]) (u:jy C CL CJ H g e z j c l b o n t st) (v:z<97) (x:j<60) (q:∀(h:BL) (i:BS) (p r s k:U) (d:Hp),cC H d l h->jy C CL CJ d g e z (j+1) c h i p r s k->0<i.ps.length->Q (.ref k) d)
theorem Zcl{P Q:α->β->Prop}(h:∀a b,b∈bs->P a b->Q a b)(p:Paired P as bs):Paired Q as bs:=by
 induction p with
 |nil=>exact .nil
 |cons e _ c=>exact .cons (h _ _ Yg e) (c λa b d=>h a b (Yw _ d))
def Zdh(a:Z b)(p:b->cm):((List.range a.length).filter λi=>(a[i]?.map p).getD a_).map (λi=>a[i]?)=(a.filter p).map O:=by
 have e:(List.range a.length).map (λi=>a[i]?)=a.map O:=Ww λi=>by
  grind
 have h:=J3 (f:=λi=>a[i]?) (l:=List.range a.length) (p:=λo:bw b=>(o.map p).getD a_);rw[e,J3] at h;exact h.symm
theorem Sg:∀{l:Z (Nat×α)},(l.map (·.1)).Nodup->∀{p q:Nat×α},p∈l->q∈l->p.1=q.1->p=q
 |[],_,_,_,h,_,_=>nomatch h
 |a::l,b,p,q,g,d,e=>by
  obtain⟨n,c⟩:=Y2.mp (show(a.1::l.map (·.1)).Nodup from b);rcases Ys.mp g with m|j<;>rcases Ys.mp d with k|i;·rw[m,k]
  ·grind
  ·grind
  ·exact Sg c j i e
def T4(a:Z Key):(a.map kV).all oU=ar:=by
 rw[Wt];intro v b;obtain⟨k,_,rfl⟩:=Yf.mp b;cases k<;>rfl
def Zha:∃s:af,dI [V.str "man",V.str "woman"] (d % 2)=O (.str s)/\Kl s=ar:=by
 have:d % 2=0\/d % 2=1:=QO
 rcases this with e|e<;>rw[e];·exact⟨_,rfl,QK⟩
 ·exact⟨_,rfl,QK⟩
abbrev CB:Z af:=["_law_book","_law_fact_here"]
def Zdi:aP CB CB (aJ Ia):=.aY
def Zdj(F:aM K "_law_put" "_law_put" Ia f fd)(y:cO P w K B I 12 "say" C Cw (TL C CL CJ))(x:cO P w K B I 12 "tie" C qt (TK C CL CJ)):aE P w K B I aL 13 f fd CB (UW C CL CJ):=by
 refine F.o Zdi λs H r h=>?_;obtain⟨l,b,m,k,c,d,rfl,j,ok,a,u,e,p,dl,q⟩:=h;refine⟨_,(aj (aU (bH cq (bc (iT K) (pv 1) aS) a9) (av (aI (dh y r (by decide) (pv 0) (aa (bc (iT K) (pv 1) aS) (aa (bc (iT K) (pv 1) aS) ae))))) a8) (av (aI (dh x r (by decide) (pv 0) (aa (bc (iT K) (pv 1) aS) (aa (bc (iT K) (pv 1) aS) (aa (bc (iT K) (pv 1) aS) ae))))))),?_⟩;refine hP ?_;intros;obtain⟨v,t⟩:=j.obj;refine⟨_,rfl,d,_,_,_,rfl,rfl,aB.of a,rfl,rfl,_,rfl,?_⟩;rw[dR];refine bA (λi=>?_) (λi=>aW ?_)
 ·have n:=eH i;have g:kV (bp b.ps c)=.int c.aG:=by rw[oo n];rfl
  exact⟨_,rfl,l.h,v,_,rfl,t,rfl,_,rfl,d,_,_,_,rfl,rfl,aB.of a,rfl,_,rfl,d,_,_,_,rfl,rfl,aB.of a,rfl,l,b,m,k,c,by rw[g];rfl,j,ok,⟨IH ok u e p,n⟩,dl,q⟩
 ·have o:=λz=>i (du z);have g:kV (bp b.ps c)=.str (aw b.ps c.aG.toNat):=by rw[ig o];rfl
  exact⟨_,rfl,l.h,v,_,rfl,t,rfl,_,rfl,d,_,_,_,rfl,rfl,aB.of a,rfl,_,rfl,d,_,_,_,rfl,rfl,aB.of a,rfl,_,rfl,d,_,_,_,rfl,rfl,aB.of a,rfl,l,b,m,k,c,by rw[g];rfl,j,ok,ZfF ok u e p o,dl,q⟩
abbrev LM:Z af:=["_law_book","_law_state","_law_cell_here","_law_turns_here","_law_salt"]
def mW:aP ["_law_book","_law_state","_law_cell_here","_law_turns_here","_law_salt","_law_names","_law_sides","_law_facts","_law_after_here","_law_drawn","_law_name_here","_law_side","_law_fact_here","_law_out"] LM (aJ G4):=.aY
theorem Zcm(F:aM K "_law_step" "_law_step" G4 f fd)(pK:HasFn P w K B I 1 "_law_draws" zH (Bh K))(Hk:HasFn P w K B I 1 "_law_name" LL T3)(Hm:HasFn P w K B I 2 "_law_fact" LK TV)(Hn:HasFn P w K B I 4 "_law_word" LI TR)(Ik:HasFn P w K B I 13 "_law_put" CB (UW C CL CJ))(E1:cO P w K B I 11 "person" C Cr (QC C CL CJ))(FE:cO P w K B I 11 "take" C yZ (TB C CL CJ))(bl:Bl B):aE P w K B I aL 14 f fd LM (Sf C CL CJ):=by
 refine F.o mW λs H T h=>?_;obtain⟨xs,X,z,j,cell,td,l,b,nl,sd,fl,st,rfl,r,hz,hj,q⟩:=h;have hu:=T.l_;refine⟨_,(aj (l9 (pv 1) (gc (K:=K) (n:=4) rfl rfl (bq (aV 5 mW.nd) (bq (aV 6 mW.nd) (bq (aV 7 mW.nd) (bq (aV 8 mW.nd) f_)))))) (aj (bR 9 mW.nd (aZ pK T (aa (pv 2) (aa (cU (aa aS (aa aS (aa aS (aa aS (aa aS ae)))))) ae)))) (aj (aU (PW.pt (pw_or (bH nj (dC K bl (pv 5)) aS) (pw_or1 (bH nj (bc (iL K) (pv 9) aS) aS)))) (aj (bR 10 mW.nd (aZ Hk T (aa (dC K bl (pv 5)) (aa (pv 4) ae)))) (aj (bR 11 mW.nd (bc (iL K) (cU (aa a9 (aa a9 ae))) (bh eQ (bc (iL K) (pv 9) aS) aS))) (aj (bZ (dh E1 T (by decide) (pv 0) (aa (pv 10) (aa (pv 11) ae)))) (aj (bR 6 mW.nd (fh Zb3 rfl bl.ZhO Zgy (aa (pv 6) ae))) (aj (lX (bo T) (pv 6) (pv 10) (pv 11)) (av (aI (c5 (aa (bh Bi (pv 5) (cU (aa (pv 10) ae))) (aa (pv 6) (aa (pv 7) (aa (pv 8) ae)))))))))))) a8) (aj (aU (bH nj (bc (iL K) (pv 9) aS) aS) (aj (bR 12 mW.nd (aZ Hm T (aa (pv 5) (aa (pv 6) (aa (pv 9) (aa (dC K bl (de (bo T) (pv 3) a9 (λ_ _=>rfl))) ae)))))) (aj (aU (bH ni (aZ Hn T (aa (pv 6) (aa (pv 7) (aa (pv 3) (aa (pv 12) ae))))) a9) (av (aI (pv 1))) a8) (aj (bZ (aZ Ik T (aa (pv 0) (aa (pv 12) ae)))) (av (aI (c5 (aa (pv 5) (aa (pv 6) (aa (bh Bi (pv 7) (cU (aa (bh Zf5 (c5 (aa (pv 8) ae)) (pv 12)) ae))) (aa (bh i6 (pv 8) aS) ae)))))))))) a8) (aj (aU (bH (Rz (K:=K) rfl (Zig hu)) (pv 7) (cU ae)) (av (aI (pv 1))) a8) (aj (gI (i:=13) mW.nd rfl (Or.inr rfl) (bc (iL K) (pv 7) (bh eQ (bc (iL K) (pv 9) aS) (dC K bl (pv 7))))) (aj (bZ (dh FE T (by decide) (pv 0) (aa (bc (iT K) (pv 13) aS) ae))) (av (aI (c5 (aa (pv 5) (aa (pv 6) (aa (jE (x:="_law_one") (fr:=[("_law_out",13)]) (cl:=[("_law_out",s.heap.objs.size+1)]) rfl (.hU ⟨rfl,trivial⟩ ⟨⟨rfl,.inl rfl,.inl rfl,rfl⟩,trivial⟩) (dH (K:=K) rfl (pv 7)) (λ_ _ _ _=>vM (bH (Ziu (K:=K) rfl hu) (pv 0) (pv 1))) (λ_ _ _ _=>(pv 0))) (aa (pv 8) ae)))))))))))))),?_⟩;refine Zl ?_;intros;have sz:(10000:Nat)<=sizeLine:=by rw[tS];decide
 refine⟨_,rfl,st,_,rfl,aB.of r.tup,rfl,_,_,rfl,aQ ⟨_,_,rfl,aQ ⟨_,_,rfl,aQ ⟨_,_,rfl,aQ ⟨rfl,?_⟩⟩⟩⟩⟩;dsimp only;refine zt ?_;intro;refine bW ?_;refine⟨_,rfl,by show 5<=sizeLine;decide,λpp H1 np g1 L=>⟨cell,pp,[16,61,59,8,4],rfl,aq.of L,by decide,by decide,λdr ds H2 nd g2 h2 bd=>?_⟩⟩;obtain⟨d0,d1,d2,d3,d4,rfl,_,_,_,_,b4⟩:=ZgF bd;have mS:=g1.trans g2;have s2:=r.same mS;obtain⟨dx,ho⟩:=s2.ba.obj;have Af:=JE b.ps;have cp:=r.cp;have cf:=r.cf;have cd:=r.cd;have xy:=r.ok.m;have f63:=r.ok.fl;have ix:∀{i:Int} {v:Int} {H9:Hp},ag H2 H9->dI ([d0,d1,d2,d3,d4].map V.int) i=O (.int v)->∀σ:St,σ[9]?=O (O (.ref dr))->Vt (jP (v_ K) (gf 9) (tC (V.int i))) σ H9 (.int v):=λg e σ hσ kk hk=>⟨_,hσ,dr,_,_,_,rfl,rfl,aq.of (g _ _ h2),e,hk _ (ag.refl _)⟩;refine(Bt.or (a:=decide (((oa b.ps).length:Int)<2)) (b:=decide (d0<5)) (λkk hk=>⟨_,rfl,nl,_,rfl,.inl (aq.of s2.names),_,_,rfl,rfl,_,rfl,hk _ (ag.refl _)⟩) λH3 _ g3 kk hk=>ix g3 rfl _ rfl _ λH4 E=>⟨_,_,rfl,rfl,_,rfl,hk _ E⟩) _ λH3 g3=>?_;have s3:=s2.same g3;have kA:=mS.trans g3;rw[Af];refine bA (λcc=>?_) (λcc=>aW ?_)
 ·refine zt ?_;intro;refine bW ?_;refine⟨_,rfl,nl,_,rfl,.inl (aq.of s3.names),_,rfl,b.ps.length,z,by rw[Af];rfl,mz cp hj,hz,?_⟩;refine zt ?_;intro;refine bW ?_;obtain⟨sx,es,so⟩:=Zha (d:=d1);refine⟨by show 2<=sizeLine;decide,λsl H4 zN E hsl=>ix (g3.trans E) rfl _ rfl _ λH5 N=>⟨_,_,rfl,rfl,by decide,sl,_,_,_,rfl,rfl,aq.of (N _ _ hsl),es,?_⟩⟩;have k:=(s3.same E).same N;have D5:=(kA.trans E).trans N;obtain⟨NH,NI⟩:=k.ba.obj;refine⟨_,rfl,l.h,NH,_,rfl,NI,rfl,_,rfl,_,rfl,l,b,xs,X,dA z b.ps.length,sx,rfl,k.ba,k.ok,k.fresh hj sx so,by omega,λl' H6 J qO=>?_⟩;have uX:=k.fresh hj sx so;dsimp only;refine zt ?_;intro;refine bW ?_;have off:=λ{a:U} {o:HO} (h:H5 a=O o) (n:a∉l.fp)=>J.off h n;obtain⟨Ah,CC⟩:=off k.dy k.n2;obtain⟨Ai,CD⟩:=off k.names k.n1;obtain⟨A,xA,eK⟩:=k.facts;obtain⟨xB,LN⟩:=off xA k.n3;refine⟨_,rfl,sd,_,rfl,Ah,λs' H7 cB W nP=>?_⟩;have vn:aH (hV b.ps) (.inr (dA z b.ps.length))=aF:=oj λhm=>uX.new (by
   obtain⟨p,L,e⟩:=Yf.mp hm;obtain⟨p',hp',rfl⟩:=Yf.mp L;exact Yf.mpr ⟨p',hp',Wb e⟩)
  refine⟨_,rfl,_,rfl,_,rfl,s',_,.inr (dA z b.ps.length),rfl,nP,rfl,by rw[Ya];omega,λH8 b8 e8=>?_⟩;have Q:ag H6 H8:=λc o e=>b8 _ _ (W _ _ e) (bP e cB);rw[iZ _ vn] at e8;refine⟨_,rfl,_,rfl,by show 1<=sizeLine;decide,λt H9 nt g9 ht=>⟨nl,t,_,_,rfl,rfl,g9 _ _ (Q _ _ Ai),ht,by rw[Af];show _+1<=_;omega,λn' HA nn' gA wy=>⟨_,rfl,_,rfl,_,rfl,by show 4<=sizeLine;decide,λaO HB Dr gB dz=>?_⟩⟩⟩;have sJ:=(g9.trans gA).trans gB;have R:=Q.trans sJ;have pe:(b.KS (dA z b.ps.length) sx).ps=b.ps++[(dA z b.ps.length,sx)]:=rfl;obtain⟨tm,tf,tw,ts,hJ,_⟩:=id k.turns;refine q l' (b.KS (dA z b.ps.length) sx) n' s' fl aO HB ((cC.after D5 J).same R) ⟨qO.same R,r.ok.Zkz uX.new uX.lim (Yh _) (by rw[Ye];show _+1<=200;omega) (Yx _),?_,((qO.same Q).same g9).fresh nn',?_,qO.fresh cB,⟨A,R _ _ xB,?_⟩,LN,dz,(J.iK k.ba k.turns k.n4).same R,(off hJ k.n4).2,nm_more r.nm sx,r.so,?_,?_,?_⟩ (by rw[pe,Ye];exact rn _)
  ·rw[gB _ _ wy,pe,oa,oa,Yp];rfl
  ·rw[sJ _ _ e8,pe];show _=O (HO.dK ((b.ps++[(dA z b.ps.length,sx)]).map _));rw[Yp];rfl
  ·have:=Ij J k.ba eK;refine Zcl (λa p L e=>?_) this;exact dF.ext (r.ok.fg p L) (R _ _ e)
  ·rw[pe,Ye];show _+1<=_;omega
  ·rw[pe,Ye];show _+1+b.fs.length<=_;omega
  ·show(b.dn++[_]).length<=_;rw[Ye];show _+1<=_;omega
 have p0:0<b.ps.length:=by
  rw[Ny,Xc] at cc;omega
 refine⟨_,rfl,dr,_,_,_,rfl,rfl,aq.of (g3 _ _ h2),rfl,_,_,rfl,rfl,_,rfl,?_⟩;refine bA (λcc2=>?_) (λcc2=>aW ?_)
 ·refine zt ?_;intro;refine bW ?_;obtain⟨tm,tf,tw,u0,hJ,_,_,_,xw⟩:=id s3.turns;refine⟨_,rfl,_,rfl,_,rfl,_,rfl,td,.ref u0,rfl,cP hJ rfl,u0,_,rfl,.inr (aB.of xw),nl,sd,dr,b.ps,xs,X,d0,d1,d2,d3,d4,by rw[Ya,fG];rfl,s3.names,s3.dy,r.ok.nm,p0,eL xy (by decide),g3 _ _ h2,b4,r.ok.gd,λc fg ff H4 D4 E uV=>?_⟩;have s4:=s3.same E;refine⟨_,rfl,_,rfl,_,rfl,_,rfl,sd,fl,td,ff,xs,X,b,c,rfl,s4.dy,s4.FL,s4.turns,uV,r.ok,fg,λH5 N=>⟨rfl,_,rfl,?_⟩⟩;have k:=s4.same N;have D5:=(kA.trans E).trans N;rw[dR];refine bA (λcw=>?_) (λcw=>aW ?_);·exact⟨_,rfl,q l b nl sd fl st H5 (cC.of D5) k.more p0⟩
  have hw:oK xs.length b c="":=by
   by_cases e:oK xs.length b c="";·exact e
   ·rw[Xj e] at cw;exact absurd rfl cw
  have nf:=IH r.ok fg (by omega) hw;refine⟨_,rfl,_,rfl,l,b,xs,X,c,ff,rfl,k.ba,r.ok,N _ _ uV,fg,by omega,hw,by omega,λl' H6 J qO=>?_⟩;have off:=λ{a:U} {o:HO} (h:H5 a=O o) (n:a∉l.fp)=>J.off h n;obtain⟨Ah,CC⟩:=off k.dy k.n2;obtain⟨Ai,CD⟩:=off k.names k.n1;obtain⟨A,xA,eK⟩:=k.facts;obtain⟨xB,LN⟩:=off xA k.n3;have ff6:=J.b_ k.ba (N _ _ uV);have al:=cZ eK;refine⟨_,rfl,_,rfl,_,rfl,_,rfl,by show 1<=sizeLine;decide,λt1 H7 nt1 W NB=>⟨_,rfl,t1,ff,_,_,rfl,rfl,aB.of NB,aB.of (W _ _ ff6),by simp,by show 1+3<=sizeLine;decide,λe=>(by cases e),λ_ t2 nt2=>?_⟩⟩;obtain⟨H8,e8⟩:∃H8,H8=upd H7 t2 (.tup ([V.int (b.co:Int)]++[V.str c.k,V.str (aw b.ps c.one),kV (bp b.ps c)])):=⟨_,rfl⟩;have g8:ag H7 H8:=by rw[e8];exact cF nt2 _
  have ht2:dF H8 b.ps t2 (b.co,c):=by
   show H8 t2=_;rw[e8,aT];rfl
  rw[←e8];have Q:=W.trans g8;refine⟨by show 1<=sizeLine;decide,λl1 H9 nl1 g9 hl1=>⟨fl,l1,_,_,rfl,rfl,g9 _ _ (Q _ _ xB),hl1,by rw[Ya];show _+1<=_;omega,λjt HA ZkS gA ZkT=>⟨_,rfl,_,_,rfl,rfl,by show 4<=sizeLine;decide,λaO HB Dr gB dz=>?_⟩⟩⟩;have sJ:=(g9.trans gA).trans gB;have R:=Q.trans sJ;obtain⟨tm,tf,tw,ts,LO,_⟩:=id k.turns;have Zn:=r.ok.lt;refine q l' (b.yO c) nl sd jt aO HB ((cC.after D5 J).same R) ⟨qO.same R,?_,R _ _ Ai,CD,R _ _ Ah,CC,⟨A++[t2],?_,?_⟩,((qO.same Q).same g9).fresh ZkS,dz,(J.iK k.ba k.turns k.n4).same R,(off LO k.n4).2,r.nm,?_,Je cp,?_,?_⟩ p0
  ·exact r.ok.gn fg (λm=>by
    obtain⟨p,L,e⟩:=Yf.mp m;have:=Zn p L;omega) nf.nk nf.np nf.lv (by omega) (co:=b.co+1) (wB _) (Jx _) (by rw[Ye];show _+1<=200;omega) (Yx _)
  ·rw[gB _ _ ZkT,Yp];rfl
  ·exact jB (F:=dF HB b.ps) (sJ _ _ ht2) (L2.Paired.bu (Ij J k.ba eK) λ_ _ e=>R _ _ e)
  ·show((b.fs++[(b.co,c)]).map (·.1)).Pairwise _;rw[Yp];refine Jn.mpr ⟨r.so,by simp,λu hu v hv=>?_⟩;obtain⟨p,L,rfl⟩:=Yf.mp hu;have:v=b.co:=by simpa using hv
   rw[this];exact Zn p L
  ·show _+(b.fs++[_]).length<=_;rw[Ye];show b.ps.length+(_+1)<=_;exact Qc3 cf
  ·show(b.dn++[_]).length<=_;rw[Ye];show _+1<=_;omega
 obtain⟨A,xA,eK⟩:=s3.facts;have al:=cZ eK;refine⟨_,rfl,by show 0<=sizeLine;decide,λe0 H4 Ab E zT=>⟨fl,e0,_,rfl,rfl,aq.of (E _ _ xA),aq.of zT,_,rfl,bA (λce=>?_) (λce=>aW ?_)⟩⟩;·exact⟨_,rfl,q l b nl sd fl st H4 (cC.of (kA.trans E)) (s3.same E).more p0⟩
 refine zt ?_;intro;refine bW ?_;have s4:=s3.same E;have f0:0<A.length:=by
  cases e:A with
  |nil=>rw[e] at ce;exact absurd rfl ce
  |cons _ _=>exact rn _
 have mi:=yH (z:=d1) f0;refine⟨_,rfl,ix (g3.trans E) rfl _ rfl _ λH5 N=>?_⟩;have k:=s4.same N;have LP:=N _ _ (E _ _ xA);obtain⟨i,ei⟩:∃i:Nat,d1 % (A.length:Int)=(i:Int):=⟨(d1 % (A.length:Int)).toNat,by omega⟩;have hi:i<A.length:=by omega
 obtain⟨ao,Zo⟩:∃ao,A[i]?=O ao:=⟨_,Yc hi⟩;obtain⟨⟨G,c0⟩,Zp,Nn⟩:=fY eK Zo;have VU:=N _ _ (E _ _ Nn);refine⟨_,rfl,fl,_,rfl,.inl (aq.of LP),_,_,rfl,rfl,by rw[Ya];omega,fl,_,_,.ref ao,rfl,rfl,aq.of LP,?_,?_⟩
 ·rw[Ya,ei];exact fL (by rw[Yi,Zo];rfl)
 obtain⟨NH,NI⟩:=k.ba.obj;refine⟨_,rfl,l.h,NH,_,rfl,NI,rfl,_,rfl,ao,_,_,_,rfl,rfl,aB.of VU,rfl,l,b,xs,X,G,c0,rfl,k.ba,r.ok,Yj Zp,by omega,λl' H6 J qO=>?_⟩;have off:=λ{a:U} {o:HO} (h:H5 a=O o) (n:a∉l.fp)=>J.off h n;obtain⟨Ah,CC⟩:=off k.dy k.n2;obtain⟨Ai,CD⟩:=off k.names k.n1;obtain⟨xB,LN⟩:=off LP k.n3;have ZkU:Paired (dF H5 b.ps) A b.fs:=L2.Paired.bu eK λ_ _ e=>N _ _ (E _ _ e);have VW:=Ij J k.ba ZkU;have al5:=cZ eK;have ao6:=J.b_ k.ba VU;refine⟨_,rfl,_,rfl,_,rfl,fl,rfl,⟨_,aq.of xB⟩,λD hD=>?_⟩;have qe:∀p∈b.fs,p.1=G->p=(G,c0):=λp L e=>Sg r.ok.zs L (Yj Zp) e;refine xY (K:=K) (aq.of xB) (by rw[Ya];omega) hD (λi=>(b.fs[i]?.map λp=>decide (p.1≠G)).getD a_) (λi y _=>∃a,A[i]?=O a/\y=.ref a) (λ_ _ _ _ _ h=>h) (λi v hi H7 W _ Kt Kf kt kf=>?_) λus H7 W h7 pr=>?_
 ·rw[Yi] at hi;obtain⟨a,ea,rfl⟩:∃a,A[i]?=O a/\V.ref a=v:=by
   cases e:A[i]? with
   |none=>rw[e] at hi;cases hi
   |some c=>rw[e] at hi;exact⟨c,rfl,Yo hi⟩
  obtain⟨p,ep,L⟩:=fY VW ea;have mp:=Yj ep;have pb:(b.fs[i]?.map λp=>decide (p.1≠G)).getD a_=decide (p.1≠G):=by rw[ep];rfl
  rw[pb] at kt kf;refine⟨_,rfl,_,rfl,a,ao,_,_,rfl,rfl,aB.of (W _ _ L),aB.of (W _ _ ao6),T4 _,T4 _,_,rfl,?_⟩;have ed:(!decide ((eM b.ps p.1 p.2).map kV=(eM b.ps G c0).map kV))=decide (p.1≠G):=by
   by_cases e:p.1=G
   ·rw[qe p mp e];simp
   ·rw[yd e,Xj (λh=>e ?_)];·rfl
    ·injection h with h1 _;have:=V.int.inj h1;exact lR this
  show(if(!decide ((eM b.ps p.1 p.2).map kV=(eM b.ps G c0).map kV))=ar then _ else _);rw[ed];cases e:decide (p.1≠G) with
  |true=>exact dk ⟨_,rfl,kt _ H7 e (ag.refl _) ⟨a,ea,rfl⟩⟩
  |false=>exact bV (kf H7 e (ag.refl _))
 rw[Ya,al5] at pr;obtain⟨iH,rfl,ZkV⟩:∃iH:Z U,us=iH.map V.ref/\Paired (dF H7 b.ps) iH (dm G b.fs):=by
  have aux:∀{X:Z V} {is:Z Nat} {gs:Z (Nat×Fc)},Paired (λy i=>∃a,A[i]?=O a/\y=.ref a) X is->is.map (λi=>b.fs[i]?)=gs.map O->∃A:Z U,X=A.map V.ref/\Paired (dF H7 b.ps) A gs:=by
   intro X is gs pr;induction pr generalizing gs with
   |nil=>
    intro e;cases gs with
    |nil=>exact⟨[],rfl,.nil⟩
    |cons _ _=>cases e
   |cons f _ ih=>
    intro e;cases gs with
    |nil=>cases e
    |cons g gs=>
     obtain⟨a,e1,e2⟩:=f;obtain⟨p,ep,L⟩:=fY VW e1;injection e with e4 e5;obtain⟨A,r1,r2⟩:=ih e5;exact⟨a::A,by rw[e2,r1];rfl,.cons (by rw[←Yo (ep.symm.trans e4)];exact W _ _ L) r2⟩
  exact aux pr (Zdh b.fs λp=>decide (p.1≠G))
 refine⟨_,rfl,by show 4<=sizeLine;decide,λaO H8 Dr g8 dz=>?_⟩;have Q:=W.trans g8;obtain⟨tm,tf,tw,ts,LO,_⟩:=id k.turns;have sub:(dm G b.fs).Sublist b.fs:=QcZ;refine q l' (b.without G c0) nl sd D aO H8 ((cC.after (((kA.trans E).trans N)) J).same Q) ⟨qO.same Q,r.ok.drop G (Yh _) (by rw[Ye];show _+1<=200;omega) (Yx _),Q _ _ Ai,CD,Q _ _ Ah,CC,⟨iH,g8 _ _ h7,L2.Paired.bu ZkV λ_ _ e=>g8 _ _ e⟩,qO.fresh hD,dz,(J.iK k.ba k.turns k.n4).same Q,(off LO k.n4).2,r.nm,r.so.sublist (sub.map _),Je cp,Je (Yy (QcY sub.length_le _) cf),?_⟩ p0;show(b.dn++[_]).length<=_;rw[Ye];show _+1<=_;omega
def cE.nil(b:oI xs a):cE xs a ⟨[],[],0,[],[]⟩:=
 ⟨b,Wy,Yx _,Yx _,λ_ h=>(nomatch h),Wy,λ_ h=>(nomatch h),Wy,Wy,⟨λ_=>0,λ_ h=>absurd h (Wr _),λ_ h=>(nomatch h)⟩,Yx _,Yx _⟩
inductive T5(C CL CJ:U)(k:Z V)(H:Hp)(Q:VK)(E:XK):Prop
 |mk (c a:Z Int) (z:Nat) (e d:U) (l:BL) (b:BS) (i:Z Int) (F:k=[.ref l.h,.ref e,.ref d,.int (z:Int)]) (D:bF H C CL CJ l c a b) (A:b=⟨[],[],0,[],[]⟩) (y:oI c a) (x:H e=O (.lst (i.map V.int))) (s:e∉l.fp) (v:iK H d c a) (r:d∉l.fp) (u:z<97) (t:i.length<=59) (q:∀(h:BL) (p:BS) (m n o j:U) (g:Hp),cC H g l h->jy C CL CJ g c a z 59 d h p m n o j->Q (.ref j) g)
abbrev LQ:Z af:=["_law_book","_law_cells","_law_turns_here","_law_salt"]
def Ay:aP ["_law_book","_law_cells","_law_turns_here","_law_salt","_law_state","_law_cell_here"] LQ (aJ G5):=.aY
def Zcn(F:aM K "_law_grow" "_law_grow" G5 f fd)(Ho:HasFn P w K B I 14 "_law_step" LM (Sf C CL CJ))(bl:Bl B):aE P w K B I aL 15 f fd LQ (T5 C CL CJ):=by
 refine F.o Ay λs H hr h=>?_;obtain⟨u,t,z,N,r,l,b,cs,rfl,Q,rfl,gd,W,nc,ht,nt,hz,A,q⟩:=h;refine⟨_,(aj (bR 4 Ay.nd (c5 (aa (cU ae) (aa pO (aa (cU ae) (aa aS ae)))))) (aj (dE eJ rfl (dH (K:=K) rfl (pv 1)) (aV 5 Ay.nd) (av (bR 4 Ay.nd (aZ Ho hr (aa (pv 0) (aa (pv 4) (aa (pv 5) (aa (pv 2) (aa (pv 3) ae))))))))) (av (aI (pv 4))))),?_⟩;refine i1 ?_;intros;have sz:(10000:Nat)<=sizeLine:=by rw[dg];decide
 refine bW ?_;refine⟨by show 0<=sizeLine;decide,λT H1 n1 X h1=>?_⟩;refine λR H2 n2 J h2=>?_;refine⟨by show 0<=sizeLine;decide,λfl H3 n3 G h3=>⟨by show 4<=sizeLine;decide,λst H4 n4 D h4=>?_⟩⟩;have y:=((X.trans J).trans G).trans D;have c_:=Q.same X;have sh:=c_.same J;have si:jy C CL CJ H4 u t z 0 r l ⟨[],[],0,[],[]⟩ T R fl st:=⟨Q.same y,cE.nil gd,D _ _ (G _ _ (J _ _ h1)),Q.fresh n1,D _ _ (G _ _ h2),c_.fresh n2,⟨[],D _ _ h3,.nil⟩,sh.fresh n3,h4,ht.same y,nt,rfl,sy,Yx _,Yx _,Yx _⟩;refine eC (λo e=>∃(c:BL) (m:BS) (g i k d:U) (p:bw V),cC H e l c/\jy C CL CJ e u t z 59 r c m g i k d/\o=[O (.ref l.h),O (.ref N),O (.ref r),O (.int (z:Int)),O (.ref d),p]) (λjT dG=>?_) ?_
 ·refine⟨_,rfl,N,rfl,⟨_,aq.of (y _ _ W)⟩,fH (λj o e=>∃(c:BL) (m:BS) (g i k d:U) (p:bw V),cC H e l c/\jy C CL CJ e u t z j r c m g i k d/\o=[O (.ref l.h),O (.ref N),O (.ref r),O (.int (z:Int)),O (.ref d),p])
   ⟨l,_,T,R,fl,st,aF,cC.of y,si,rfl⟩ (λj o e _ ⟨_,_,_,_,_,_,_,n,_⟩=>aq.of (n.off W nc).1) ?_ ?_⟩
  ·rintro j v o e hj ⟨c,m,g,i,k,d,p,n,a,rfl⟩;obtain⟨x,rfl,hx⟩:=ot hj;have jl:j<cs.length:=(Yn.mp hx).1;refine aQ ?_;rw[←n.h];refine⟨_,rfl,_,rfl,_,rfl,_,rfl,_,rfl,u,t,z,j,x,r,c,m,g,i,k,d,rfl,a,hz,(mO (i2 jl A)),λl2 b2 M9 Mv L eI H7 E s7 _=>aQ ⟨l2,b2,M9,Mv,L,eI,_,n.trans E,s7,rfl⟩⟩
  ·rintro o e ⟨c,m,g,i,k,d,p,n,a,rfl⟩;rw[Ya] at a;exact dG _ _ ⟨c,m,g,i,k,d,p,n,⟨a.ba,a.ok,a.names,a.n1,a.dy,a.n2,a.facts,a.n3,a.tup,a.turns,a.n4,a.nm,a.so,Yy a.cp A,Yy a.cf A,Yy a.cd A⟩,rfl⟩
 rintro o e ⟨c,m,g,i,k,d,p,n,a,rfl⟩;exact⟨_,rfl,q c m g i k d e n a⟩
abbrev LR:Z (af×af):=[("m","c"),("c","m"),("f","k"),("k","f"),("w","h"),("h","w"),("s","s")]
def lS(k:af):af:=if k="mother" then"m" else if k="father" then"f" else if k="wed" then"w" else"s"
def ltB(k:af):af:=if k="mother" then"c" else if k="father" then"k" else if k="wed" then"h" else"s"
def kT(k:af):Prop:=k="mother"\/k="father"\/k="wed"\/k="sibling"
structure Eg where
 s:af
 l:af
 g:af
def ie(a:bO)(c:Fc):Z Eg:=if c.k=bj then[] else[⟨aw a c.one,lS c.k,aw a c.aG.toNat⟩,⟨aw a c.aG.toNat,ltB c.k,aw a c.one⟩]
def fP(a:bO)(F:Z Fc):Z Eg:=F.flatMap (ie a)
def CF(H:Hp)(p:U)(e:Eg):Prop:=∃z w:Int,H p=O (.tup [.str e.s,.str e.l,.str e.g,.int z,.int w])
def yt(h:kT k):PyProof.Rows.KTD.datumAt k kQ=O (lS k)/\PyProof.Rows.KTD.datumAt (lS k) LR=O (ltB k)/\mF kQ k=ar/\k≠bj:=by
 rcases h with rfl|rfl|rfl|rfl<;>exact⟨QK,QK,QK,QK⟩
def JJ(a:bO)(c:Fc):(ie a c).length<=2:=by
 unfold ie;split;·exact Yx _
 ·exact Yh _
theorem Bu(a:bO):∀F:Z Fc,(fP a F).length<=2*F.length
 |[]=>Yh _
 |c::F=>by
  have b:=Bu a F;have:=JJ a c;show(ie a c++fP a F).length<=_;rw[Ye,Wh];omega
structure pG(H0 H:Hp)(d:U)(L:Z Eg):Prop where
 new:H0 d=aF
 same:ag H0 H
 pr:∃es:Z U,H d=O (.lst (es.map V.ref))/\Paired (CF H) es L
def pG.to(h:pG e H d L)(g:ag H H1):pG e H1 d L:=by
 obtain⟨b,c,a⟩:=h.pr;exact⟨h.new,h.same.trans g,b,g _ _ c,L2.Paired.bu a λ_ _ ⟨z,w,q⟩=>⟨z,w,g _ _ q⟩⟩
def fM{H:Hp}{a b:U}{o c:HO}(h:H a=O o)(d:H b=O c)(n:o≠c):a≠b:=λe=>by
 rw[e,d] at h;exact n (Yo h).symm
def pG.app(h:pG x H d L)(g:ag H H1)(t:CF H1 e y)(b:aA d H1 j)(u:H d=O (.lst (i.map V.ref)))(s:Paired (CF H) i L)(v:j d=O (.lst (i.map V.ref++[.ref e]))):pG x j d (L++[y]):=by
 have k:∀p a,H1 p=O (.tup a)->j p=O (.tup a):=λc a l=>b _ _ l (fM l (g _ _ u) (λz=>by cases z));obtain⟨n,r,t⟩:=t;exact⟨h.new,λc o m=>b _ _ (g _ _ (h.same _ _ m)) (bP m h.new),i++[e],by rw[v,Yp];rfl,L2.jB (L2.Paired.bu s λ_ _ ⟨z,w,q⟩=>⟨z,w,k _ _ (g _ _ q)⟩) ⟨n,r,k _ _ t⟩⟩
inductive PF(c:Z V)(H:Hp)(Q:VK)(E:XK):Prop
 |mk (p:U) (z w:Int) (k a o:af) (g:c=[.ref p,.int w]) (e:H p=O (.tup [.int z,.str k,.str a,.str o])) (d:kT k) (q:∀(t:U) (b:Hp),ag H b->b t=O (.tup [.str (if w=1 then a else o),.str (if w=1 then lS k else ltB k),.str (if w=1 then o else a)])->Q (.ref t) b)
inductive OT(e:Z V)(H:Hp)(Q:VK)(E:XK):Prop
 |mk (b:U) (a:bO) (F:Z Fc) (j:e=[.ref b]) (i:FL H a b F) (h:∀c∈F,c.k=bj\/kT c.k) (g:F.length<=64) (q:∀(p:U) (d:Hp),pG H d p (fP a F)->Q (.ref p) d)
def vv:aP ["fact","way","number","kind","one","other","letter"] ["fact","way"] (aJ GU):=.aY
def Zco(F:aM K "tie_step" "tie_step" GU f fd)(n:B "TIE_LETTERS"=O (.ref e))(m:rK K e kQ)(A:B "WAYS_BACK"=O (.ref d))(j:rK K d LR)(i:B "FORTH"=O (.int 1 t1)):aE P w K B I aL 1 f fd ["fact","way"] PF:=by
 refine F.o vv λs H D h=>?_;obtain⟨p,z,w,k,a,o,rfl,u,l,q⟩:=h;refine⟨_,(aj (l9 (pv 0) (gc (K:=K) rfl rfl (bq (aV 2 vv.nd) (bq (aV 3 vv.nd) (bq (aV 4 vv.nd) (bq (aV 5 vv.nd) f_)))))) (aj (bR 6 vv.nd (bc (IX rfl) (dq (v:=.ref e) rfl n rfl) (pv 3))) (av (aI (PL (bH cq (pv 1) (dq (v:=.int (1)) rfl i ⟨_,rfl⟩)) (c5 (aa (pv 4) (aa (pv 6) (aa (pv 5) ae)))) (c5 (aa (pv 5) (aa (bc (IX rfl) (dq (v:=.ref d) rfl A rfl) (pv 6)) (aa (pv 4) ae))))))))),?_⟩;refine i1 ?_;intros;have sz:(10000:Nat)<=sizeLine:=by rw[dg];decide
 obtain⟨y,x,_⟩:=yt l;refine⟨_,rfl,p,_,rfl,aB.of u,rfl,_,_,rfl,aQ ⟨_,_,rfl,aQ ⟨_,_,rfl,aQ ⟨_,_,rfl,aQ ⟨rfl,?_⟩⟩⟩⟩⟩;dsimp;refine zt ?_;intro;refine bW ?_;refine⟨_,rfl,e,k,lS k,kQ,rfl,rfl,m,y,?_⟩;refine⟨_,rfl,rfl,_,rfl,bA (λc=>?_) (λc=>?_)⟩
 ·have b:=V.int.inj (eH c);rw[bS b,bS b,bS b] at q;exact⟨_,rfl,_,rfl,_,rfl,by show 3<=sizeLine;decide,λ t g r=>q t g⟩
 ·have b:¬w=1:=λz=>c (du (by rw[z]));rw[bt b,bt b,bt b] at q;exact⟨_,rfl,_,rfl,d,lS k,ltB k,LR,rfl,rfl,j,x,_,rfl,by show 3<=sizeLine;decide,λ t g r=>q t g⟩
def sS:aP ["kept","steps","fact","way","start","letter","goal"] ["kept"] (aJ Ge):=.aY
theorem Zby(F:aM K "tie_steps" "tie_steps" Ge f fd)(vQ:B "FORTH"=O (.int 1 t1))(Kp:B "BACK"=O (.int (-1) t2))(pT:HasFn P w K B I 1 "is_tie" ["kind"] Bp)(Hq:HasFn P w K B I 1 "tie_step" ["fact","way"] PF)(bl:Bl B):aE P w K B I aL 2 f fd ["kept"] OT:=by
 refine F.o sS λs H hr h=>?_;obtain⟨J,b,F,rfl,fl,kd,ln,q⟩:=h;refine⟨_,(aj (bR 1 sS.nd (cU ae)) (aj (dE XW rfl (dH (K:=K) rfl (pv 0)) (aV 2 sS.nd) (av (aU (eP (aZ pT hr (aa (bc (iT K) (pv 2) aS) ae))) (av (dE eJ rfl (Bx (c5 (aa (dq (v:=.int (1)) rfl vQ ⟨_,rfl⟩) (aa (dq (v:=.int (-1)) rfl Kp ⟨_,rfl⟩) ae)))) (aV 3 sS.nd) (aj (l9 (aZ Hq hr (aa (pv 2) (aa (pv 3) ae))) (gc (K:=K) (n:=3) rfl rfl (bq (aV 4 sS.nd) (bq (aV 5 sS.nd) (bq (aV 6 sS.nd) f_))))) (av (bZ (j9 (K:=K) rfl (gT ij ku kr kF (pv 1) (aa (c5 (aa (pv 4) (aa (pv 5) (aa (pv 6) (aa (bc (iT K) (pv 2) aS) (aa (pv 3) ae)))))) ae)))))))) a8))) (av (aI (pv 1))))),?_⟩;refine i1 ?_;intros;have sz:(10000:Nat)<=sizeLine:=by rw[tS];decide
 refine bW ?_;refine⟨by show 0<=sizeLine;decide,λd H1 nd g1 hd=>?_⟩;obtain⟨as,cY,al,get⟩:=fl.get;refine eC (λk r=>∃(u p o m l:bw V),pG H r d (fP b F)/\k=[O (.ref J),O (.ref d),u,p,o,m,l]) (λjT dG=>?_) ?_
 ·refine⟨_,rfl,J,rfl,⟨_,aq.of (g1 _ _ cY)⟩,fH (K:=K) (a:=J) (xs:=as.map V.ref) (λj k r=>∃(u p o m l:bw V),pG H r d (fP b (F.take j))/\k=[O (.ref J),O (.ref d),u,p,o,m,l])
   ⟨aF,aF,aF,aF,aF,⟨nd,g1,[],hd,.nil⟩,rfl⟩
   (λj k r _ ⟨_,_,_,_,_,g,_⟩=>aq.of (g.same _ _ cY)) ?_ ?_⟩
  ·rintro j v k r hj ⟨u,p,o,m,l,g,rfl⟩;obtain⟨y,c,z,rfl,ec,mQ,E⟩:=get r j v g.same hj;have jl:j<F.length:=(Yn.mp ec).1;have W:fP b (F.take (j+1))=fP b (F.take j)++ie b c:=by
    rw[mQ];unfold fP;rw[D3]
    congr 1
    exact Y8 _
   refine aQ ?_;refine⟨_,rfl,y,_,_,_,rfl,rfl,aB.of E,fL (j:=1) rfl,_,rfl,?_⟩;rcases kd c (Yj ec) with ks|X
   ·rw[ks,show mF kQ bj=a_ from by decide+kernel];refine⟨_,rfl,bV (aW ?_)⟩;refine⟨_,_,_,_,_,?_,rfl⟩;rw[W];unfold ie;rw[bS ks,Y8];exact g
   ·obtain⟨_,_,hs,ns⟩:=yt X;rw[hs];refine⟨_,rfl,dk ?_⟩;have eo:ie b c=[⟨aw b c.one,lS c.k,aw b c.aG.toNat⟩,⟨aw b c.aG.toNat,ltB c.k,aw b c.one⟩]:=by unfold ie;rw[bt ns]
    rw[ig ns] at E;have E:r y=O (.tup [.int z,.str c.k,.str (aw b c.one),.str (aw b c.aG.toNat)]):=E;refine⟨by show 2<=sizeLine;decide,λR H7 ntp g7 Zq=>⟨R,rfl,⟨_,aB.of Zq⟩,ZfX (K:=K) (a:=R) (xs:=[.int 1,.int (-1)]) (λi k N=>∃(p o m l:bw V),N R=O (.tup [.int 1,.int (-1)])/\N y=O (.tup [.int z,.str c.k,.str (aw b c.one),.str (aw b c.aG.toNat)])/\pG H N d (fP b (F.take j)++(ie b c).take i)/\k=[O (.ref J),O (.ref d),O (.ref y),p,o,m,l]) ⟨_,_,_,_,Zq,g7 _ _ E,?_,rfl⟩ (λi k N _ ⟨_,_,_,_,h,_⟩=>aB.of h) ?_ ?_⟩⟩
    ·rw[Dk,Y8];exact g.to g7
    ·rintro i v k H8 D ⟨p,o,m,l,Zr,Q,G,rfl⟩;obtain⟨w,rfl,ew⟩:∃w:Int,v=.int w/\(ie b c)[i]?=O ⟨if w=1 then aw b c.one else aw b c.aG.toNat,if w=1 then lS c.k else ltB c.k,if w=1 then aw b c.aG.toNat else aw b c.one⟩:=by
      rw[eo];match i,D with
      |0,D=>exact⟨1,(Yo D).symm,rfl⟩
      |1,D=>exact⟨-1,(Yo D).symm,rfl⟩
     obtain⟨es,A,sG⟩:=id G.pr;have el:es.length<=200:=by
      rw[cZ sG,Ye];have:=Bu b (F.take j);have:=DW j F;have:=Zs i (ie b c);have:=JJ b c;omega
     refine aQ ?_;refine⟨_,rfl,_,rfl,y,z,w,c.k,_,_,rfl,Q,X,λt H9 x ht=>⟨t,_,rfl,aB.of ht,rfl,_,_,rfl,aQ ⟨_,_,rfl,aQ ⟨_,_,rfl,aQ ⟨rfl,?_⟩⟩⟩⟩⟩;refine⟨_,rfl,.inl ⟨rfl,_,aq.of (x _ _ A)⟩,?_⟩;refine⟨_,rfl,_,rfl,_,rfl,_,rfl,y,_,_,_,rfl,rfl,aB.of (x _ _ Q),fL (j:=0) rfl,_,rfl,by show 5<=sizeLine;decide,λe HA ne L he=>?_⟩;refine⟨d,_,_,rfl,rfl,L _ _ (x _ _ A),by rw[Ya];omega,λHB T eB=>?_⟩;refine⟨_,_,_,_,T _ _ (L _ _ (x _ _ Zr)) (fM Zr A (λz=>by cases z)),T _ _ (L _ _ (x _ _ Q)) (fM Q A (λz=>by cases z)),?_,rfl⟩;rw[Yz,ew,←Jd];exact G.app (x.trans L) ⟨_,_,he⟩ T A sG eB
    ·rintro k H8 ⟨p,o,m,l,_,_,G,rfl⟩;refine⟨_,_,_,_,_,?_,rfl⟩;rw[W];have:(ie b c).take ([.int 1,.int (-1)]:Z V).length=ie b c:=Wp (JJ b c);rw[this] at G;exact G
  ·rintro k r ⟨u,p,o,m,l,g,rfl⟩;rw[Ya,al,Y7] at g;exact dG _ _ ⟨_,_,_,_,_,g,rfl⟩
 rintro k r ⟨u,p,o,m,l,g,rfl⟩;exact⟨_,rfl,q d r g⟩
def yh[DecidableEq a](l m:Z (a×V))(k:a):aH (l++m) k=(aH l k).or (aH m k):=by
 unfold aH;rw[List.find?_append];cases l.find? λb=>decide (b.1=k)<;>rfl
def dZ(x l:af):Z Key:=[.inr x,.inr l]
def dN(E:Z Eg)(x l:af):Z af:=(E.filter λe=>decide (e.s=x)&&decide (e.l=l)).map Eg.g
def Zhb(h:dZ x l=dZ a l'):x=a/\l=l':=by
 injection h with c h;injection h with b _;exact⟨Wb c,Wb b⟩
def Zhc(E:Z Eg)(x l:af):(dN E x l).length<=E.length:=by
 unfold dN;rw[Ya];exact Wj _ _
def QQ(E:Z Eg)(e:Eg)(x l:af):dN (E++[e]) x l=if e.s=x/\e.l=l then dN E x l++[e.g] else dN E x l:=by
 unfold dN;rw[Wo];by_cases c:e.s=x/\e.l=l
 ·rw[bS c,Jv (by simp[c.1,c.2]),Yp];rfl
 ·rw[bt c,zQ (by simpa using λb a=>c ⟨b,a⟩),List.filter_nil,Y8]
def JK:y∈dN E x l↔∃e∈E,e.s=x/\e.l=l/\e.g=y:=by
 unfold dN;constructor
 ·intro h;obtain⟨e,d,rfl⟩:=Yf.mp h;obtain⟨m,c⟩:=Y5.mp d;obtain⟨b,a⟩:=Jo.mp c;exact⟨e,m,eH b,eH a,rfl⟩
 ·rintro⟨e,m,b,a,rfl⟩;exact Yf.mpr ⟨e,Y5.mpr ⟨m,by rw[du b,du a];rfl⟩,rfl⟩
structure lU(H0 H:Hp)(d:U)(E:Z Eg)(kvs:Z (Z Key×V)):Prop where
 at_:H d=O (.dT kvs)
 new:H0 d=aF
 same:ag H0 H
 len:kvs.length<=E.length
 val:∀x l,(aH kvs (dZ x l)=aF/\dN E x l=[])\/∃a,aH kvs (dZ x l)=O (.ref a)/\H0 a=aF/\a≠d/\H a=O (.lst ((dN E x l).map V.str))
 inj:∀x l x' l' a,aH kvs (dZ x l)=O (.ref a)->aH kvs (dZ x' l')=O (.ref a)->x=x'/\l=l'
def uY(H:Hp)(d:U)(E:Z Eg):Prop:=∃b,H d=O (.dT b)/\∀x l,(aH b (dZ x l)=aF/\dN E x l=[])\/∃a,aH b (dZ x l)=O (.ref a)/\H a=O (.lst ((dN E x l).map V.str))
def uY.same{H c:Hp}{d:U}{E:Z Eg}(g:ag H c)(h:uY H d E):uY c d E:=by
 obtain⟨b,j,i⟩:=h;exact⟨b,g _ _ j,λx l=>(i x l).imp id λ⟨a,e,k⟩=>⟨a,e,g _ _ k⟩⟩
def lU.done(m:lU c H d E b):uY H d E:=⟨b,m.at_,λx l=>(m.val x l).imp id λ⟨a,e,_,_,k⟩=>⟨a,e,k⟩⟩
def lU.to(m:lU h H d E kvs)(g:ag H H1):lU h H1 d E kvs:=
 ⟨g _ _ m.at_,m.new,m.same.trans g,m.len,λx l=>(m.val x l).imp id λ⟨a,e,c,b,k⟩=>⟨a,e,c,b,g _ _ k⟩,m.inj⟩
def lU.old(m:lU s H d E kvs)(h:aH kvs (dZ e.s e.l)=O (.ref a))(b:aA a H H1)(t:H1 a=O (.lst ((dN E e.s e.l).map V.str++[.str e.g]))):lU s H1 d (E++[e]) kvs:=by
 have i:s a=aF/\a≠d:=by
  rcases m.val e.s e.l with⟨n,_⟩|⟨r,g,p,j,_⟩;·rw[n] at h;cases h
  ·rw[h] at g;cases g;exact⟨p,j⟩
 refine⟨b _ _ m.at_ (ib i.2),m.new,λc o q=>b _ _ (m.same _ _ q) (bP q i.1),by rw[Ye];have:=m.len;exact jm this,λx l=>?_,m.inj⟩;rw[QQ];by_cases c:e.s=x/\e.l=l
 ·obtain⟨rfl,rfl⟩:=c;rw[bS ⟨rfl,rfl⟩];exact .inr ⟨a,h,i.1,i.2,by rw[t,Yp];rfl⟩
 ·rw[bt c];refine(m.val x l).imp id λ⟨r,g,p,j,k⟩=>⟨r,g,p,j,b _ _ k λz=>c ?_⟩;rw[z] at g;exact m.inj _ _ _ _ a h g
def lU.fresh(m:lU P H d E i)(A:aH i (dZ e.s e.l)=aF)(s:H a=aF)(g:ag H H1)(b:aA d H1 N)(R:N d=O (.dT (i++[(dZ e.s e.l,.ref a)])))(u:aA a N L)(T:L a=O (.lst [.str e.g])):lU P L d (E++[e]) (i++[(dZ e.s e.l,.ref a)]):=by
 have D:a≠d:=λz=>by rw[z,m.at_] at s;cases s
 have G:P a=aF:=m.same.free s;have X:dN E e.s e.l=[]:=by
  rcases m.val e.s e.l with⟨_,h⟩|⟨q,j,_⟩;·exact h
  ·rw[A] at j;cases j
 have y:∀x l,aH (i++[(dZ e.s e.l,V.ref a)]) (dZ x l)=if e.s=x/\e.l=l then O (.ref a) else aH i (dZ x l):=λx l=>by
  rw[yh];by_cases c:e.s=x/\e.l=l
  ·obtain⟨rfl,rfl⟩:=c;rw[bS ⟨rfl,rfl⟩,A];exact fq rfl
  ·rw[bt c];have:aH [(dZ e.s e.l,V.ref a)] (dZ x l)=aF:=eO λz=>c (Zhb z);rw[this];cases aH i (dZ x l)<;>rfl
 have old:∀{x l:af} {q:U},aH i (dZ x l)=O (.ref q)->q≠a:=λ{x l q} h z=>by
  rcases m.val x l with⟨n,_⟩|⟨W,j,_,_,k⟩;·rw[n] at h;cases h
  ·rw[h] at j;cases j;rw[z,s] at k;cases k
 refine⟨u _ _ R (ib D),m.new,λc o t=>u _ _ (b _ _ (g _ _ (m.same _ _ t)) (bP t m.new)) (bP t G),by rw[Ye,Ye];have:=m.len;exact NS this,λx l=>?_,λx l v J q h p=>?_⟩
 ·rw[QQ,y];by_cases c:e.s=x/\e.l=l
  ·rw[bS c,bS c];obtain⟨rfl,rfl⟩:=c;exact .inr ⟨a,rfl,G,D,by rw[T,X];rfl⟩
  ·rw[bt c,bt c];exact(m.val x l).imp id λ⟨q,j,Q,F,k⟩=>⟨q,j,Q,F,u _ _ (b _ _ (g _ _ k) F) (old j)⟩
 ·rw[y] at h p;by_cases c:e.s=x/\e.l=l
  ·by_cases r:e.s=v/\e.l=J;·exact⟨c.1.symm.trans r.1,c.2.symm.trans r.2⟩
   ·rw[bS c] at h;rw[bt r] at p;cases h;exact absurd rfl (old p)
  ·by_cases r:e.s=v/\e.l=J
   ·rw[bt c] at h;rw[bS r] at p;cases p;exact absurd rfl (old h)
   ·rw[bt c] at h;rw[bt r] at p;exact m.inj _ _ _ _ _ h p
inductive OU(e:Z V)(H:Hp)(Q:VK)(E:XK):Prop
 |mk (d:U) (b:bO) (F:Z Fc) (j:e=[.ref d]) (i:FL H b d F) (h:∀c∈F,c.k=bj\/kT c.k) (g:F.length<=64) (q:∀(p:U) (a:Hp),ag H a->uY a p (fP b F)->Q (.ref p) a)
inductive PH(g:Z V)(H:Hp)(Q:VK)(E:XK):Prop
 |mk (d e:U) (E:Z Eg) (a:Z af) (l:af) (m:g=[.ref d,.ref e,.str l]) (h:uY H d E) (j:E.length<=130) (k:H e=O (.lst (a.map V.str))) (i:a.length<=200) (q:∀(p:U) (b:Z af) (c:Hp),ag H c->c p=O (.lst (b.map V.str))->b.Nodup->(∀y,y∈b↔∃x∈a,y∈dN E x l)->Q (.ref p) c)
def og(a:Z af):Z (Key×V):=a.map λk=>(.inr k,.bl ar)
def ZfH(h:k∉a):aH (og a) (.inr k)=aF:=oj λm=>by
 obtain⟨p,b,e⟩:=Yf.mp m;obtain⟨c,d,rfl⟩:=Yf.mp b;exact h (by rwa[←Wb e])
def Zhd(c:Z af)(k:af):∃d,putK (og c) (.inr k) (.bl ar)=og d/\(∀y,y∈d↔y∈c\/y=k)/\(c.Nodup->d.Nodup):=by
 by_cases h:k∈c
 ·refine⟨c,?_,λy=>⟨.inl,λz=>z.elim id λe=>by rwa[e]⟩,id⟩;have:((og c).any λi=>decide (i.1=(.inr k:Key)))=ar:=by
   rw[C3];exact⟨(.inr k,.bl ar),Yf.mpr ⟨k,h,rfl⟩,du rfl⟩
  unfold putK;rw[bS this];unfold og;rw[Y6];refine W3 λx _=>?_;show(if(Sum.inr x:Key)=.inr k then _ else _)=_;by_cases e:(Sum.inr x:Key)=.inr k;·rw[bS e]
  ·rw[bt e]
 ·refine⟨c++[k],?_,λy=>by rw[Ym,Yd],λg=>Wc.mpr ⟨g,QS,λa l b j e=>h (by rwa[←Yd.mp j,←e])⟩⟩;rw[iZ _ (ZfH h)];unfold og;rw[Yp];rfl
def yI{b zs:Z af}(c:b.Nodup)(a:∀k∈b,k∈zs):b.length<=zs.length:=c.length_le_of_subset a
def sO:aP ["kept","steps","start","letter","goal","number","way"] ["kept"] (aJ E6):=.aY
theorem Zav(F:aM K "letter_steps" "letter_steps" E6 f fd)(GH:HasFn P w K B I 2 "tie_steps" ["kept"] OT)(bl:Bl B):aE P w K B I aL 3 f fd ["kept"] OU:=by
 refine F.o sO λs H hr h=>?_;obtain⟨fa,r,F,rfl,fl,kd,ln,q⟩:=h;have hu:=hr.l_;refine⟨_,(aj (bR 1 sO.nd HI) (aj (dE eJ rfl (dH (K:=K) rfl (aZ GH hr (aa (pv 0) ae))) (gc (K:=K) (n:=5) rfl rfl (bq (aV 2 sO.nd) (bq (aV 3 sO.nd) (bq (aV 4 sO.nd) (bq (aV 5 sO.nd) (bq (aV 6 sO.nd) f_)))))) (av (bZ (j9 (K:=K) rfl (gT ij ku kr kF (Zb4 (bo hr) (pv 1) (c5 (aa (pv 2) (aa (pv 3) ae))) (cU ae) ⟨rfl,rfl,rfl,rfl⟩) (aa (pv 4) ae)))))) (av (aI (pv 1))))),?_⟩;have sz:(10000:Nat)<=sizeLine:=by rw[dg];decide
 refine zt ?_;intro;refine bW ?_;refine λd H1 nd g1 hd=>?_;refine eC (λy o=>∃(b:Z (Z Key×V)) (N L J G E:bw V),lU H o d (fP r F) b/\y=[O (.ref fa),O (.ref d),N,L,J,G,E]) (λjT dG=>?_) ?_
 ·refine⟨_,rfl,fa,r,F,rfl,fl.same g1,kd,ln,λp H2 gr=>?_⟩;obtain⟨T,hp,sG⟩:=id gr.pr;have le:=Bu r F;have lp:=cZ sG;have D7:∀x l,dN [] x l=[]:=λ_ _=>rfl;refine⟨p,rfl,⟨_,aq.of hp⟩,fH (K:=K) (a:=p) (xs:=T.map V.ref) (λj y o=>∃(b:Z (Z Key×V)) (N L J G E:bw V),(o p=O (.lst (T.map V.ref))/\Paired (CF o) T (fP r F)/\lU H o d ((fP r F).take j) b/\(∀x l a,aH b (dZ x l)=O (.ref a)->a≠p))/\y=[O (.ref fa),O (.ref d),N,L,J,G,E]) ⟨[],aF,aF,aF,aF,aF,⟨hp,sG,⟨gr.same _ _ hd,nd,g1.trans gr.same,Yh _,λx l=>.inl ⟨rfl,rfl⟩,λ_ _ _ _ _ h=>(nomatch h)⟩,λ_ _ _ h=>(nomatch h)⟩,rfl⟩ (λj y o _ ⟨_,_,_,_,_,_,⟨h,_⟩,_⟩=>aq.of h) ?_ ?_⟩
  ·rintro j v y o R ⟨b,N,L,J,G,E,⟨D_,NJ,g,uX⟩,rfl⟩;rw[Yi] at R;obtain⟨X,ec0,rfl⟩:∃X,T[j]?=O X/\V.ref X=v:=by
    cases e:T[j]? with
    |none=>rw[e] at R;cases R
    |some c=>rw[e] at R;exact⟨c,rfl,Yo R⟩
   obtain⟨e,ee,z,w,hc⟩:=fY NJ ec0;have tk:(fP r F).take (j+1)=(fP r F).take j++[e]:=by rw[Yz,ee];rfl
   have jl:=(Yn.mp ee).1;refine⟨X,_,rfl,aB.of hc,rfl,_,_,rfl,aQ ⟨_,_,rfl,aQ ⟨_,_,rfl,aQ ⟨_,_,rfl,aQ ⟨_,_,rfl,aQ ⟨rfl,?_⟩⟩⟩⟩⟩⟩;have lt:=DW j (fP r F);have ml:=g.len;refine⟨_,rfl,d,rfl,.inr ⟨_,.inl g.at_⟩,_,rfl,_,rfl,by show 2<=sizeLine;decide,λt H7 nt i ht=>⟨by show 0<=sizeLine;decide,λW H8 Q m Ea=>⟨b,dZ e.s e.l,t,m _ _ (i _ _ g.at_),rfl,m _ _ ht,QO,λv A=>?_,λA=>?_⟩⟩⟩
   ·have m8:=g.to (i.trans m);rcases m8.val e.s e.l with⟨n,_⟩|⟨a,e1,n1,n2,ka⟩;·rw[n] at A;cases A
    ·rw[A] at e1;cases e1;have lg:=Zhc ((fP r F).take j) e.s e.l;have NK:=m _ _ (i _ _ D_);refine⟨.inl ⟨rfl,_,aq.of ka⟩,_,rfl,a,_,_,rfl,rfl,ka,by rw[Ya];omega,λHB D eB=>?_⟩;refine⟨b,_,_,_,_,_,⟨D _ _ NK (ib (uX _ _ _ A)),L2.Paired.bu NJ λ_ _ ⟨z,w,k⟩=>⟨z,w,D _ _ (m _ _ (i _ _ k)) (fM (m _ _ (i _ _ k)) ka (λz=>by cases z))⟩,?_,uX⟩,rfl⟩;rw[tk];exact m8.old A D eB
   ·intro H9 b9 h9;have NK:=m _ _ (i _ _ D_);have nld:W≠d:=λz=>by rw[z,i _ _ g.at_] at Q;cases Q
    have Zt:W≠p:=λz=>by rw[z,i _ _ D_] at Q;cases Q
    have Zu:=b9 _ _ Ea nld;refine⟨.inl ⟨rfl,_,aq.of Zu⟩,_,rfl,W,_,_,rfl,rfl,Zu,by show 0<_;decide,λHB D eB=>?_⟩;have pd:p≠d:=fM D_ g.at_ (λz=>by cases z);refine⟨b++[(dZ e.s e.l,.ref W)],_,_,_,_,_,⟨D _ _ (b9 _ _ NK pd) (ib Zt),L2.Paired.bu NJ λ_ _ ⟨z,w,k⟩=>⟨z,w,D _ _ (b9 _ _ (m _ _ (i _ _ k)) (fM k g.at_ (λz=>by cases z))) (fM (m _ _ (i _ _ k)) Ea (λz=>by cases z))⟩,?_,λx l a h=>?_⟩,rfl⟩
    ·rw[tk];exact g.fresh A (i.free Q) (i.trans m) b9 h9 D eB
    ·rw[yh] at h;cases hx:aH b (dZ x l) with
     |some u=>rw[hx] at h;exact uX x l a (by rw[hx];exact h)
     |none=>
      rw[hx] at h;by_cases c:dZ e.s e.l=dZ x l
      ·rw[show Option.or aF _=_ from rfl,fq c] at h;cases h;exact Zt
      ·rw[show Option.or aF _=_ from rfl,eO c] at h;cases h
  ·rintro y o ⟨b,N,L,J,G,E,⟨_,_,g,_⟩,rfl⟩;rw[Ya,lp,Y7] at g;exact dG _ _ ⟨b,_,_,_,_,_,g,rfl⟩
 rintro y o ⟨b,N,L,J,G,E,g,rfl⟩;exact⟨_,rfl,q d o g.same g.done⟩
abbrev LS:Z af:=["steps","names","letter"]
def Az:aP ["steps","names","letter","found","name","goal"] LS (aJ GV):=.aY
theorem Zcp(F:aM K "led_from" "led_from" GV f fd)(bl:Bl B):aE P w K B I aL 1 f fd LS PH:=by
 refine F.o Az λs H hr h=>?_;obtain⟨d,nl,u,J,l,rfl,tb,le,hn,ln,q⟩:=h;have hu:=hr.l_;refine⟨_,(aj (bR 3 Az.nd pO) (aj (dE eJ rfl (dH rfl (pv 1)) (aV 4 Az.nd) (av (dE eJ rfl (dH rfl (P6 (bo hr) (pv 0) (c5 (aa (pv 4) (aa (pv 2) ae))) (cU ae) ⟨rfl,rfl,rfl,rfl⟩)) (aV 5 Az.nd) (av (lX (bo hr) (pv 3) (pv 5) gJ))))) (av (aI (fh (Oc rfl) rfl bl.tK s_ (aa (pv 3) ae)))))),?_⟩;refine i1 ?_;intros;have sz:(10000:Nat)<=sizeLine:=by rw[dg];decide
 obtain⟨W,hd,val⟩:=tb;refine bW ?_;refine λG H1 xD g1 wR=>?_;have Zv:∀{x y:af},y∈dN u x l->y∈u.map Eg.g:=λh=>by
  obtain⟨e,m,_,_,rfl⟩:=JK.mp h;exact Yf.mpr ⟨e,m,rfl⟩
 refine eC (λA r=>∃(b:Z af) (Q D:bw V),ag H r/\r G=O (.dK (og b))/\b.Nodup/\(∀y,y∈b↔∃x∈J,y∈dN u x l)/\A=[O (.ref d),O (.ref nl),O (.str l),O (.ref G),Q,D]) (λjT dG=>?_) ?_
 ·refine⟨_,rfl,nl,rfl,⟨_,aq.of (g1 _ _ hn)⟩,fH (λi A r=>∃(b:Z af) (Q D:bw V),ag H r/\r G=O (.dK (og b))/\b.Nodup/\(∀y,y∈b↔∃x∈J.take i,y∈dN u x l)/\A=[O (.ref d),O (.ref nl),O (.str l),O (.ref G),Q,D]) ⟨[],aF,aF,g1,wR,Wy,λy=>⟨(λh=>nomatch h),λ⟨x,h,_⟩=>(nomatch h)⟩,rfl⟩ (λi A r _ ⟨_,_,_,g,_⟩=>aq.of (g _ _ hn)) ?_ ?_⟩
  ·rintro i v A r hi ⟨b,Q,D,E,R,Ak,L,rfl⟩;rw[Yi] at hi;obtain⟨x,ex,rfl⟩:∃x,J[i]?=O x/\V.str x=v:=by
    cases e:J[i]? with
    |none=>rw[e] at hi;cases hi
    |some c=>rw[e] at hi;exact⟨c,rfl,Yo hi⟩
   have tk:J.take (i+1)=J.take i++[x]:=by rw[Yz,ex];rfl
   refine aQ ?_;refine⟨_,rfl,d,rfl,.inr ⟨_,.inl (E _ _ hd)⟩,_,rfl,_,rfl,by show 2<=sizeLine;decide,λt H7 nt g7 ht=>⟨by show 0<=sizeLine;decide,λl0 H8 xC g8 Ea=>?_⟩⟩;have X:=g7.trans g8;obtain⟨a,o,eo,ev,ha⟩:∃(a:U) (o:bw V),aH W (dZ x l)=o/\o.getD (.ref l0)=.ref a/\H8 a=O (.lst ((dN u x l).map V.str)):=by
    rcases val x l with⟨n,e⟩|⟨a,e,k⟩;·exact⟨l0,aF,n,rfl,by rw[Ea,e];rfl⟩
    ·exact⟨a,O (.ref a),e,rfl,X _ _ (E _ _ k)⟩
   refine⟨o,.inr ⟨W,dZ x l,t,.inl (X _ _ (E _ _ hd)),rfl,g8 _ _ ht,eo.symm⟩,?_⟩;rw[ev];have afo:=fM ha (X _ _ R) (λz=>by cases z);refine⟨a,rfl,⟨_,aq.of ha⟩,fH (λj A r=>∃(b:Z af) (D:bw V),ag H r/\r a=O (.lst ((dN u x l).map V.str))/\r G=O (.dK (og b))/\b.Nodup/\(∀y,y∈b↔(∃x∈J.take i,y∈dN u x l)\/y∈(dN u x l).take j)/\A=[O (.ref d),O (.ref nl),O (.str l),O (.ref G),O (.str x),D]) ⟨b,D,E.trans X,ha,X _ _ R,Ak,λy=>⟨λh=>.inl ((L y).mp h),λh=>h.elim (L y).mpr λz=>(nomatch z)⟩,rfl⟩ (λj A r _ ⟨_,_,_,h,_⟩=>aq.of h) ?_ ?_⟩
   ·rintro j v A H9 hj ⟨ia,o5',g9,Zw,h9,Eb,T,rfl⟩;rw[Yi] at hj;obtain⟨y,ey,rfl⟩:∃y,(dN u x l)[j]?=O y/\V.str y=v:=by
     cases e:(dN u x l)[j]? with
     |none=>rw[e] at hj;cases hj
     |some c=>rw[e] at hj;exact⟨c,rfl,Yo hj⟩
    have tj:(dN u x l).take (j+1)=(dN u x l).take j++[y]:=by rw[Yz,ey];rfl
    have kl:ia.length<=130:=by
     refine Yy (yI Eb (zs:=u.map Eg.g) λk hk=>?_) (by rwa[Ya]);rcases(T k).mp hk with⟨x',_,h⟩|h;·exact Zv h
     ·exact Zv (CQ h)
    obtain⟨Aj,ep,mk,MY⟩:=Zhd ia y;refine aQ ?_;refine⟨_,rfl,_,rfl,G,_,.inr y,rfl,h9,rfl,by unfold og;rw[Ya];omega,λHB bB eB=>?_⟩;rw[ep] at eB;refine⟨Aj,_,λc o ec=>bB _ _ (g9 _ _ ec) (bP ec xD),bB _ _ Zw afo,eB,MY Eb,λz=>?_,rfl⟩;rw[mk,T,tj,Ym,Yd,or_assoc]
   ·rintro A H9 ⟨ia,o5',g9,Zw,h9,Eb,T,rfl⟩;rw[Ya,Y7] at T;refine⟨ia,_,_,g9,h9,Eb,λy=>?_,rfl⟩;rw[T,tk];constructor
    ·rintro(⟨x',N,h2⟩|h);·exact⟨x',Yk _ N,h2⟩
     ·exact⟨x,Yl _ Yg,h⟩
    ·rintro⟨x',N,h2⟩;rcases Ym.mp N with N|N;·exact .inl ⟨x',N,h2⟩
     ·rw[Yd.mp N] at h2;exact .inr h2
  ·rintro A r ⟨b,Q,D,E,R,Ak,L,rfl⟩;rw[Ya,Y7] at L;exact dG _ _ ⟨b,_,_,E,R,Ak,L,rfl⟩
 rintro A r ⟨b,Q,D,E,R,Ak,L,rfl⟩;refine⟨_,rfl,G,_,rfl,R,λp H7 np g7 hp=>?_⟩;refine q p b H7 (E.trans g7) ?_ Ak L;rw[hp];unfold og;rw[Y6];rfl
def Z3:aP kR kR (aJ EB):=.aY
def ZiK(h:z∈b.map (·.1)):∃i,i<b.length/\z=aw b i:=by
 obtain⟨i,a,e⟩:=DX h;rw[Ya] at a;refine⟨i,a,?_⟩;rw[←e,List.getElem_map,aw,Yr,Yc a];rfl
inductive OV(C CL CJ c:U)(a:Z V)(H:Hp)(Q:VK)(E:XK):Prop
 |mk (l:BL) (b:BS) (g d:Z Int) (z:af) (m:a=[.ref l.h,.str z]) (k:bF H C CL CJ l g d b) (h:(b.ps.map (·.1)).Nodup) (j:z.length<=1000) (e:∀i,i<b.ps.length->z=aw b.ps i->Q (.int (i:Int)) H) (no:z∉b.ps.map (·.1)->XP H c "no person" E):OV C CL CJ c a H Q E
def PK(C CL CJ b:U):Sp:=λa H Q E=>OV C CL CJ b a H Q E
def ZfI(h:z∉b.map (·.1)):aH (js b) (.inr z)=aF:=oj λm=>h (by
 obtain⟨p,c,e⟩:=Yf.mp m;obtain⟨⟨q,i⟩,a,rfl⟩:=Yf.mp c;exact Yf.mpr ⟨q,(L4 (by rw[List.zipIdx_eq_zip_range'] at a;exact a)).1,Wb e⟩)
def Zbz(F:aM K "place_of" "Hearth.place_of" EB f fd)(a:fQ K C)(x:JZ P w K B I "NoPerson" "no person" v):aE P w K B I (oS P w) 4 f fd kR (PK C CL CJ v):=by
 refine F.Mg Z3 (λr H Q E h=>?_) (λy A e s H r Q E g h=>?_)
 ·obtain⟨l,b,q,p,z,rfl,_⟩:=h;rfl
 obtain⟨l,b,q,p,z,rfl,c,t,u,d,no⟩:=h;refine⟨_,(aj (aU (jX (mY (bo g) (pv 1) (pF K 0)) QU) (av (ZdN x g (by decide) rfl rfl KC (pv 1))) a8) (av (aI (de (bo g) (pF K 0) (pv 1) (λ_ _=>rfl))))),?_⟩;refine hP ?_;intros;obtain⟨k,j⟩:=c.obj;by_cases m:z∈b.ps.map (·.1)
 ·obtain⟨i,o,rfl⟩:=ZiK m;have n:=tF t o;exact⟨_,rfl,_,rfl,l.h,C,k,_,_,rfl,j,a.cls,a.qZ,rfl,l.pl,O _,rfl,cP c.places n,_,rfl,bV (aW ⟨_,rfl,l.h,C,k,_,_,rfl,j,a.cls,a.qZ,rfl,_,rfl,l.pl,_,rfl,cP c.places n,d i o rfl⟩)⟩
 ·exact⟨_,rfl,_,rfl,l.h,C,k,_,_,rfl,j,a.cls,a.qZ,rfl,l.pl,aF,rfl,cP c.places (ZfI m),_,rfl,dk ⟨_,rfl,z,rfl,(eL u (by decide)),no m⟩⟩
theorem ZfJ(z k:Nat)(d:k<60):dA z k≠"stranger":=λe=>by
 have e:(dA z k).cps.toList[1]?=O 116:=by rw[e];decide+kernel
 rw[AU z k d] at e;have c:∀(n:Nat) (r:Z Nat),n<61->(jU n++r)[0]?≠O 116:=λn r h=>by
  unfold jU;split;·intro z;injection z with z;omega
  ·intro z;injection z with z;omega
 by_cases b:z % 3=0
 ·rw[bS b] at e;injection e with e;omega
 ·rw[bt b] at e;by_cases a:z % 3=1
  ·rw[bS a,Xr] at e;cases f:fO k z with
   |zero=>rw[f] at e;exact c ((k*17+z) % 61) [] (jq _ (by decide)) (by simpa using e)
   |succ m=>rw[f,DM] at e;injection e with e;omega
  ·rw[bt a,Xr] at e;exact c ((k*17+z) % 61) _ (jq _ (by decide)) e
abbrev d7:Z Nat:=[99,102,104,107,109,115,119]
def Zel:(Str.ofString "cfhkmsw").cps.toList=d7:=QK
def Led(b:BS)(l x y:af):Prop:=∃c∈b.F,∃e∈ie b.ps c,e.s=x/\e.l=l/\e.g=y
def Rn(b:BS)(a z:af):Nat->af->Prop
 |0,y=>y=a
 |i+1,y=>∃x c,Rn b a z i x/\z.cps[i]?=O c/\Led b ⟨#[c]⟩ x y
def Sh(g:F.Perm b.F):y∈dN (fP b.ps F) x l↔Led b l x y:=by
 rw[JK];constructor
 ·rintro⟨e,m,h⟩;obtain⟨c,d,a⟩:=DF.mp m;exact⟨c,g.subset d,e,a,h⟩
 ·rintro⟨c,d,e,a,h⟩;exact⟨e,DF.mpr ⟨c,g.symm.subset d,a⟩,h⟩
def kinds_ok(a:cE xs e b)(h:c∈b.F):c.k=bj\/kT c.k:=by
 obtain⟨p,d,rfl⟩:=Yf.mp (h);rcases(a.fg p d).kind with k|k;·exact .inl k
 ·simp[Ys,Y1,gV,Prod.mk.injEq] at k;rcases k with k|k|k|k;·exact .inr (.inl k.1)
  ·exact .inr (.inr (.inl k.1))
  ·exact .inr (.inr (.inr (.inl k.1)))
  ·exact .inr (.inr (.inr (.inr k.1)))
def QT(i:cE xs m b)(h:Led b l x y):y∈b.ps.map (·.1):=by
 obtain⟨c,k,e,a,_,_,rfl⟩:=h;obtain⟨p,j,rfl⟩:=Yf.mp (k);have d:=(i.fg p j).ok;unfold ie at a;split at a;·cases a
 ·rename_i ns
  obtain⟨⟨_,g⟩,_⟩:=d.iI ns;rcases Ys.mp a with rfl|a;·exact tG g
  ·rw[Yd.mp a];exact tG d.one
theorem JM{e d:Z Int}{b:BS}(g:cE e d b){a z:af}(j:a∈b.ps.map (·.1)):∀{i:Nat} {y:af},Rn b a z i y->y∈b.ps.map (·.1)
 |0,y,h=>by have:=h;rwa[this]
 |i+1,y,⟨x,c,_,_,h⟩=>QT g h
def Bv(a:Z Nat):¬a<a:=List.lt_irrefl a
def Si{a b:Z Nat}(h:a<b):¬b<a:=λc=>Bv a (List.lt_trans h c)
theorem JN:∀{a b:Z Nat},a.length=b.length->a<b->∀x y:Z Nat,a++x<b++y
 |[],[],_,h,_,_=>absurd h (Bv _)
 |[],_::_,e,_,_,_=>by simp at e
 |_::_,[],e,_,_,_=>by simp at e
 |p::a,q::b,e,h,x,y=>by
  have g:a.length=b.length:=by simpa using e
  rw[Jy,Jy];rw[Zx] at h⊢;rcases h with h|⟨d,c⟩;·exact .inl h
  ·exact .inr ⟨d,JN g c x y⟩
theorem ZfK(a:Z Nat)(h:x<y):a++[x]<a++[y]:=by
 induction a with
 |nil=>exact Zx.mpr (.inl h)
 |cons p a b=>exact Zx.mpr (.inr ⟨rfl,b⟩)
def sle(w u:Z Nat):Prop:=w.length<u.length\/(w.length=u.length/\¬u<w)
theorem II{b:BS}{a z d:af}:∀{i:Nat} {y:af},(∀j,j<i->z.cps[j]?=d.cps[j]?)->Rn b a z i y->Rn b a d i y
 |0,_,_,h=>h
 |i+1,_,e,⟨x,c,h,k,l⟩=>⟨x,c,II (λj g=>e j (mO g)) h,by rwa[←e i (rj _)],l⟩
def Rc(b:BS)(a:af)(w:Z Nat)(y:af):Prop:=Rn b a ⟨w.toArray⟩ w.length y
def Rc.nil:Rc b a [] a:=rfl
def Rc.snoc{b:BS}{a:af}{w:Z Nat}{c:Nat}{x y:af}(h:Rc b a w x)(l:Led b ⟨#[c]⟩ x y):Rc b a (w++[c]) y:=by
 unfold Rc;rw[Ye];refine⟨x,c,II (λj d=>?_) h,?_,l⟩
 ·show w.toArray[j]?=((w++[c]).toArray)[j]?;rw[Wx,Wx,Wa d]
 ·show((w++[c]).toArray)[w.length]?=O c;rw[Wx,W1 (Yh _),Nat.sub_self];rfl
abbrev Wd:=Z (af×Z Nat)
abbrev En:=Z Nat×Z af
structure RR(b:BS)(a:af)(k:Nat)(W:Wd)(F:Z En)(D:Z (Z Nat×Z af×Nat)):Prop where
 nd:(W.map (·.1)).Nodup
 hd:(a,[])∈W
 sv:∀e∈W,∀c∈e.2,c∈d7
 rd:∀e∈W,Rc b a e.2 e.1
 le:∀e∈W,e.2.length<=k\/(e.2.length=k+1/\∃f∈F,f.1=e.2/\e.1∈f.2)
 fl:∀f∈F,f.1.length=k+1/\∀x∈f.2,(x,f.1)∈W
 fr:F.Pairwise λf g=>f.1<g.1
 cl:∀t∈D,∀x∈t.2.1,∀y,Led b ⟨#[t.2.2]⟩ x y->∃w',(y,w')∈W/\sle w' (t.1++[t.2.2])
def gn(F:Z En)(w:Z Nat)(a:Z af):Z En:=if a=[] then F else F++[(w,a)]
section
variable {b:BS}{a:af}{k:Nat}{W:Wd}{F:Z En}{D:Z (Z Nat×Z af×Nat)}
def RR.start:RR b a 0 [(a,[])] [] []:=by
 refine⟨Y2.mpr ⟨(λz=>nomatch z),Wy⟩,Yg,λe d c g=>?_,λe d=>?_,λe d=>.inl ?_,(λ_ h=>nomatch h),sy,(λ_ h=>nomatch h)⟩;·rw[Yd.mp d] at g;cases g
 ·rw[Yd.mp d];exact .nil
 ·rw[Yd.mp d];exact Yh _
def RR.step(r:RR b a k W F D){w:Z Nat}(P:w.length=k)(sc:c∈d7)(L:∀x∈ns,(x,w)∈W)(H:∀f∈F,f.1<w++[c])(Q:gs.Nodup)(p:∀y,y∈gs↔(∃x∈ns,Led b ⟨#[c]⟩ x y)/\y∉W.map (·.1)):
  RR b a k (W++gs.map λy=>(y,w++[c])) (gn F (w++[c]) gs) (D++[(w,ns,c)]):=by
 have q:(w++[c]).length=k+1:=by rw[Ye,P];rfl
 have sub:∀f∈F,f∈gn F (w++[c]) gs:=λf i=>by
  unfold gn;split;·exact i
  ·exact Yk _ i
 have new:∀e∈gs.map (λy=>(y,w++[c])),e.2=w++[c]/\e.1∈gs:=λe d=>by
  obtain⟨y,R,rfl⟩:=Yf.mp d;exact⟨rfl,R⟩
 refine⟨?_,Yk _ r.hd,λe d N E=>?_,λe d=>?_,λe d=>?_,λf i=>?_,?_,λt n x j y o=>?_⟩
 ·rw[Yp,Y6];refine Wc.mpr ⟨r.nd,by rw[show((λx:af×Z Nat=>x.1)∘λy=>(y,w++[c]))=id from rfl,Dz];exact Q,λu hu v J e=>?_⟩;rw[show((λx:af×Z Nat=>x.1)∘λy=>(y,w++[c]))=id from rfl,Dz] at J;exact((p v).mp J).2 (by rwa[←e])
 ·rcases Ym.mp d with d|d;·exact r.sv e d N E
  ·obtain⟨l,m⟩:=new e d;rw[l] at E;obtain⟨⟨x,j,_⟩,_⟩:=(p _).mp m;rcases Ym.mp E with h|h;·exact r.sv _ (L x j) N h
   ·rwa[Yd.mp h]
 ·rcases Ym.mp d with d|d;·exact r.rd e d
  ·obtain⟨l,m⟩:=new e d;obtain⟨⟨x,j,o⟩,_⟩:=(p _).mp m;exact l▸(r.rd _ (L x j)).snoc o
 ·rcases Ym.mp d with d|d;·exact(r.le e d).imp id λ⟨h1,f,i,X⟩=>⟨h1,f,sub f i,X⟩
  ·obtain⟨l,m⟩:=new e d;refine .inr ⟨by rwa[l],(w++[c],gs),?_,l.symm,m⟩;unfold gn;rw[bt λz=>by rw[z] at m;cases m];exact Yl _ Yg
 ·have old:f∈F->f.1.length=k+1/\∀x∈f.2,(x,f.1)∈W++gs.map λy=>(y,w++[c]):=λh=>⟨(r.fl f h).1,λx j=>Yk _ ((r.fl f h).2 x j)⟩;unfold gn at i;split at i;·exact old i
  ·rcases Ym.mp i with i|i;·exact old i
   ·rw[Yd.mp i];exact⟨q,λx j=>Yl _ (Yf.mpr ⟨x,j,rfl⟩)⟩
 ·unfold gn;split;·exact r.fr
  ·refine Jn.mpr ⟨r.fr,Xn _ _,λf i g T=>?_⟩;rw[Yd.mp T];exact H f i
 ·rcases Ym.mp n with n|n
  ·obtain⟨A,m,s⟩:=r.cl t n x j y o;exact⟨A,Yk _ m,s⟩
  ·rw[Yd.mp n] at j o⊢;by_cases m:y∈W.map (·.1)
   ·obtain⟨⟨y',A⟩,G,rfl⟩:=Yf.mp m;refine⟨A,Yk _ G,?_⟩;rcases r.le _ G with h|⟨h,f,i,e1,_⟩;·exact .inl (by exact q▸tq h)
    ·refine .inr ⟨by rwa[q],?_⟩;have:=H f i;rw[e1] at this;exact Si this
   ·exact⟨w++[c],Yl _ (Yf.mpr ⟨y,(p y).mpr ⟨⟨x,j,o⟩,m⟩,rfl⟩),.inr ⟨rfl,Bv _⟩⟩
def RR.turn(r:RR b a k W F D):RR b a (k+1) W [] D:=
 ⟨r.nd,r.hd,r.sv,r.rd,λe c=>.inl ((r.le e c).elim (Je) λh=>CY h.1),(λ_ h=>nomatch h),sy,r.cl⟩
end
def uZ(W:Wd)(D:Z (Z Nat×Z af×Nat))(N:Z En):Prop:=∀e∈W,(∃a,e.1∈a/\∀c∈d7,(e.2,a,c)∈D)\/∃n∈N,n.1=e.2/\e.1∈n.2
def gG(W:Wd):Z (Key×V):=W.map λe=>(.inr e.1,.str ⟨e.2.toArray⟩)
def IJ(h:y∉W.map (·.1)):aH (gG W) (.inr y)=aF:=oj λm=>by
 obtain⟨p,b,e⟩:=Yf.mp m;obtain⟨q,a,rfl⟩:=Yf.mp b;exact h (Yf.mpr ⟨q,a,Wb e⟩)
def Bw(a:(W.map (·.1)).Nodup)(h:e∈W):aH (gG W) (.inr e.1)=O (.str ⟨e.2.toArray⟩):=by
 refine JA ?_ (Yf.mpr ⟨e,h,rfl⟩);unfold gG;rw[Y6];have:(W.map ((λx:Key×V=>x.1)∘λe:af×Z Nat=>((.inr e.1:Key),V.str ⟨e.2.toArray⟩)))=(W.map (·.1)).map Sum.inr:=by rw[Y6];rfl
 exact this▸MI Sum.inr (λ_ _ h z=>h (Wb z)) a
def T6(a:(W.map (·.1)).Nodup)(y:af):(aH (gG W) (.inr y)).isSome=decide (y∈W.map (·.1)):=by
 by_cases h:y∈W.map (·.1)
 ·obtain⟨e,b,rfl⟩:=Yf.mp h;rw[Bw a b,du h];rfl
 ·rw[IJ h,fb h];rfl
def Zhe{w:Z Nat}(h:y∉W.map (·.1)):putK (gG W) (.inr y) (.str ⟨w.toArray⟩)=gG (W++[(y,w)]):=by
 rw[iZ _ (IJ h)];unfold gG;rw[Yp];rfl
def Sj(w:Z Nat)(c:Nat):(⟨w.toArray⟩:af)++⟨#[c]⟩=⟨(w++[c]).toArray⟩:=by
 show(⟨w.toArray++#[c]⟩:af)=_;simp
def Ec(b:U)(H:Hp)(t:U)(n:En):Prop:=∃a,H t=O (.tup [.str ⟨n.1.toArray⟩,.ref a])/\H a=O (.lst (n.2.map V.str))/\a≠b
structure LC(H:Hp)(b:BS)(a:af)(d wd nw fu:U)(ts:Z U)(N:Z En)(k L0:Nat)(W:Wd)(F:Z En)(D:Z (Z Nat×Z af×Nat))(H6:Hp)(fs:Z U):Prop where
 sm:ag H H6
 xE:H wd=aF
 kC:H fu=aF
 hw:H6 wd=O (.dK (gG W))
 hn:H6 nw=O (.lst (ts.map V.ref))
 nf:nw≠fu
 pn:Paired (Ec fu H6) ts N
 hf:H6 fu=O (.lst (fs.map V.ref))
 pf:Paired (Ec fu H6) fs F
 rr:RR b a k W F D
 nk:∀n∈N,n.1.length=k/\n.2.Nodup/\∀x∈n.2,(x,n.1)∈W
 fk:∀f∈F,f.2.Nodup
 lw:L0+F.length<=W.length
section
variable {H:Hp}{b:BS}{a:af}{d T P X:U}{L:Z U}{N:Z En}{k R:Nat}{W:Wd}{F:Z En}{D:Z (Z Nat×Z af×Nat)}{Q:Hp}{fs:Z U}
def LC.to(s:LC H b a d T P X L N k R W F D Q fs)(g:ag Q j):LC H b a d T P X L N k R W F D j fs:=
 ⟨s.sm.trans g,s.xE,s.kC,g _ _ s.hw,g _ _ s.hn,s.nf,L2.Paired.bu s.pn λ_ _ ⟨c,i,h,e⟩=>⟨c,g _ _ i,g _ _ h,e⟩,g _ _ s.hf,L2.Paired.bu s.pf λ_ _ ⟨c,i,h,e⟩=>⟨c,g _ _ i,g _ _ h,e⟩,s.rr,s.nk,s.fk,s.lw⟩
def LC.goals(s:LC H b a d T P X L N k R W F D Q fs){w:Z Nat}{l i:Z af}{c:Nat}(r:w.length=k)(t:c∈d7)(hn:∀x∈l,(x,w)∈W)(E:∀f∈F,f.1<w++[c])(v:i.Nodup)(ge:∀y,y∈i↔(∃x∈l,Led b ⟨#[c]⟩ x y)/\y∉W.map (·.1))
  {H7 j:Hp}{cL:Z U}(h:∀c o,Q c=O o->c≠T->c≠X->j c=O o)(J:j T=O (.dK (gG (W++i.map λy=>(y,w++[c])))))(hf:j X=O (.lst (cL.map V.ref)))(u:Paired (Ec X j) cL (gn F (w++[c]) i)):LC H b a d T P X L N k R (W++i.map λy=>(y,w++[c])) (gn F (w++[c]) i) (D++[(w,l,c)]) j cL:=by
 refine⟨λc' o e=>h _ _ (s.sm _ _ e) (bP e s.xE) (bP e s.kC),s.xE,s.kC,J,h _ _ s.hn (fM s.hn s.hw (λz=>by cases z)) s.nf,s.nf,L2.Paired.bu s.pn λ_ _ ⟨A,m,q,p⟩=>⟨A,h _ _ m (fM m s.hw (λz=>by cases z)) (fM m s.hf (λz=>by cases z)),h _ _ q (fM q s.hw (λz=>by cases z)) p,p⟩,hf,u,s.rr.step r t hn E v ge,λn g=>⟨(s.nk n g).1,(s.nk n g).2.1,λx G=>Yk _ ((s.nk n g).2.2 x G)⟩,λf g=>?_,?_⟩
 ·unfold gn at g;split at g;·exact s.fk f g
  ·rcases Ym.mp g with g|g;·exact s.fk f g
   ·rwa[Yd.mp g]
 ·have:=s.lw;rw[Ye,Ya];unfold gn;split;·exact th this
  ·rename_i ne
   rw[Ye];have:0<i.length:=List.length_pos_iff.mpr ne;show R+(F.length+1)<=_;omega
def LC.names(c:cE xs j b)(g:a∈b.ps.map (·.1))(s:LC H b a d T P X L N k R W F D Q fs):W.length<=b.ps.length:=by
 have:=yI s.rr.nd λx h=>by
  obtain⟨e,i,rfl⟩:=Yf.mp h;exact JM c g (s.rr.rd e i)
 rwa [Ya,Ya] at this
end
inductive Sk(i:Z V)(H:Hp)(Q:VK)(E:XK):Prop
 |mk (d:U) (h g:Z Int) (b:BS) (a:af) (F:Z Fc) (n:i=[.ref d,.str a]) (j:uY H d (fP b.ps F)) (l:F.Perm b.F) (ok:cE h g b) (m:a∈b.ps.map (·.1)) (q:∀(p:U) (W:Wd) (D:Z (Z Nat×Z af×Nat)) (k:Nat) (c:Hp),ag H c->c p=O (.dK (gG W))->RR b a k W [] D->uZ W D []->(∀e∈W,e.2.length<=64)->Q (.ref p) c)
def Al(b:U)(n:Nat):St->Hp->Nat:=λa H=>(match H b with|some (.dK kvs)=>2*(n-kvs.length)|_=>0)+(match List.getD (α:=bw V) a 3 aF with|some (V.ref nw)=>(match H nw with|some (.lst (_::_))=>1|_=>0)|_=>0)
inductive LW(H:Hp)(b:BS)(a:af)(d g:U)(h:St)(c:Hp):Prop
 |mk (W:Wd) (N:Z En) (D:Z (Z Nat×Z af×Nat)) (k:Nat) (j:U) (i:Z U) (u s r q p o:bw V) (y:ag H c) (J:c g=some (.dK (gG W))) (L:c j=some (.lst (i.map V.ref))) (A:Paired (λt (n:En)=>∃l,c t=O (.tup [.str ⟨n.1.toArray⟩,.ref l])/\c l=O (.lst (n.2.map V.str))) i N) (z:RR b a k W [] D) (P:uZ W D N) (F:∀n∈N,n.1.length=k/\n.2.Nodup/\∀x∈n.2,(x,n.1)∈W) (E:N.Pairwise λm n=>m.1<n.1) (G:N≠[]->k+1<=W.length) (v:∀e∈W,e.2.length<=64)
  (e:h=[O (.ref d),O (.str a),O (.ref g),O (.ref j),u,s,r,q,p,o]):LW H b a d g h c
inductive LF(H:Hp)(b:BS)(a:af)(d g h j:U)(m:Z U)(N:Z En)(k o:Nat)(i:Nat)(l:St)(p:Hp):Prop
 |mk (W:Wd) (F:Z En) (D:Z (Z Nat×Z af×Nat)) (fs:Z U) (v u t r q:bw V) (s:LC H b a d g h j m N k o W F D p fs) (x:uZ W D (N.drop i++F)) (lt:∀f∈F,∀n∈N.drop i,∀c:Nat,f.1<n.1++[c]) (e:l=[O (.ref d),O (.str a),O (.ref g),O (.ref h),O (.ref j),v,u,t,r,q]):LF H b a d g h j m N k o i l p
inductive LG(H:Hp)(b:BS)(a:af)(d g h o:U)(r:Z U)(N:Z En)(k t:Nat)(i:Nat)(w:Z Nat)(l:Z af)(m:U)(j:Nat)(q:St)(p:Hp):Prop
 |mk (W:Wd) (F:Z En) (D:Z (Z Nat×Z af×Nat)) (fs:Z U) (x v u:bw V) (s:LC H b a d g h o r N k t W F D p fs) (A:uZ W D (N.drop i++F)) (E:∀f∈F,∀n∈N.drop (i+1),∀c:Nat,f.1<n.1++[c]) (y:∀f∈F,∀c∈d7.drop j,f.1<w++[c]) (z:∀c∈d7.take j,(w,l,c)∈D) (G:p m=O (.lst (l.map V.str))) (e:q=[O (.ref d),O (.str a),O (.ref g),O (.ref h),O (.ref o),O (.str ⟨w.toArray⟩),O (.ref m),x,v,u]):LG H b a d g h o r N k t i w l m j q p
theorem IK{xs:Z af}(h:(xs.map V.str)[i]?=O v):i<xs.length/\v=.str (xs.getD i "")/\xs.getD i ""∈xs:=by
 rw[Yi] at h;have a:i<xs.length:=by
  cases e:xs[i]? with
  |none=>rw[e] at h;cases h
  |some x=>exact(Yn.mp e).1
 rw[Yc a] at h;have b:xs.getD i ""=xs[i]:=by rw[Yr,Yc a];rfl
 exact⟨a,by exact b▸(Yo h).symm,by exact b▸Ji a⟩
theorem ZbA(h:Paired (λy i=>y=g i) us is):us=is.map g:=by
 induction h with
 |nil=>rfl
 |cons e _ a=>rw[e,a];rfl
def Zdk:d7.Pairwise (·<·):=QD
def QV{j c:Nat}(h:(Str.ofString "cfhkmsw").cps[j]?=O c):d7[j]?=O c:=by
 have e:=Zel;rw[←Jj,e] at h;exact h
def JO{l:Z α}(h:l[j]?=O c):l.drop j=c::l.drop (j+1):=by
 have a:=(Yn.mp h).1;rw[List.drop_eq_getElem_cons a]
 congr 1
 rw[Yc a] at h;exact Yo h
def ZfL(h:d7[j]?=O c):∀c'∈d7.drop (j+1),c<c':=by
 have:=Zdk;rw[←Jm j d7,JO h] at this;exact(Xa.mp (Jn.mp this).2.1).1
def oi:aP ["steps","name","words","newest","further","word","names","letter","goals","goal"] ["steps","name"] (aJ Fq):=.aY
theorem ZaL(F:aM K "least_roads" "least_roads" Fq f fd){t1:Tok}(Il:B "LETTERS"=O (.str "cfhkmsw" t1))(Hu:HasFn P w K B I 1 "led_from" LS PH)(bl:Bl B):aE P w K B I aL 2 f fd ["steps","name"] Sk:=by
 refine F.o oi λs H hr h=>?_;obtain⟨d,xs,ys,b,a,F,rfl,tb,pm,ok,ma,q⟩:=h;have hu:=hr.l_;refine⟨_,(aj (gI (i:=2) oi.nd rfl (kv rfl) (yn (jV (pv 1) a9 yk) rfl rfl (λz=>nomatch z) (Jl rfl))) (aj (bR 3 oi.nd (cU (aa (c5 (aa a9 (aa (cU (aa (pv 1) ae)) ae))) ae))) (aj (AX eJ (yb (K:=K) rfl (ye (pv 3) (λ_=>rfl))) (aj (bR 4 oi.nd (cU ae)) (aj (dE eJ rfl (dH (K:=K) rfl (pv 3)) (gc (K:=K) (n:=2) rfl rfl (bq (aV 5 oi.nd) (bq (aV 6 oi.nd) f_))) (av (dE eJ rfl (BE (dq (v:=.str "cfhkmsw") rfl Il ⟨_,rfl⟩)) (aV 7 oi.nd) (aj (ZcF (i:=8) (x:="goal") (fr:=[("words",2)]) (cl:=[("words",s.heap.objs.size+1)]) rfl oi.nd rfl (hH rfl) (.hU ⟨rfl,trivial⟩ ⟨⟨rfl,.inl rfl,.inl rfl,rfl⟩,trivial⟩) (dH (K:=K) rfl (aZ Hu hr (aa (pv 0) (aa (pv 6) (aa (pv 7) ae))))) (λ_ _ _ _=>vM (jX (mY (bo hr) (pv 0) (pv 1)) QU)) (λ_ _ _ _=>(pv 0))) (aj (dE eJ rfl (dH (K:=K) rfl (pv 8)) (aV 9 oi.nd) (av (lX (bo hr) (pv 2) (pv 9) (bh pL (pv 5) (pv 7))))) (av (aU (yb (K:=K) rfl (ye (pv 8) (λ_=>rfl))) (av (bZ (j9 (K:=K) rfl (gT ij ku kr kF (pv 4) (aa (c5 (aa (bh pL (pv 5) (pv 7)) (aa (pv 8) ae))) ae))))) a8))))))) (av (bR 3 oi.nd (pv 4)))))) (av (aI (pv 2)))))),?_⟩;refine l5 ?_;intros;have sz:(10000:Nat)<=sizeLine:=by rw[dg];decide
 have xy:=ok.m;have lE:(fP b.ps F).length<=130:=by
  have:=Bu b.ps F;have:F.length<=63:=by rw[pm.length_eq];show(b.fs.map (·.2)).length<=63;rw[Ya];exact ok.fl
  omega
 refine bW ?_;refine λp xE=>⟨_,rfl,aT,[(.inr a,.str "")],rfl,(by show 1<=15;decide),?_⟩;obtain⟨H1,mP⟩:∃H1,H1=upd (upd H p (.dK ([]:Z (Key×V)))) p (.dK (oC [] [(.inr a,.str "")])):=⟨_,rfl⟩;rw[←mP];have g1:ag H H1:=λc o e=>by
  have nc:=bP e xE;rw[mP,aN nc,aN nc];exact e
 have C6:H1 p=O (.dK (gG [(a,[])])):=by rw[mP,aT];rfl
 refine bW ?_;refine⟨_,rfl,by show 1<=sizeLine;decide,λn0 H2 nn0 g2 dG=>⟨by show 2<=sizeLine;decide,λt0 H3 nt0 g3 ht0=>⟨by show 1<=sizeLine;decide,λnw0 H4 Zmk g4 ZkW=>?_⟩⟩⟩;have Ad:=(g2.trans g3).trans g4;refine eC (λG H6=>∃(W:Wd) (D:Z (Z Nat×Z af×Nat)) (k:Nat) (o3 o4 o5 o6 o7 o8 o9:bw V),ag H H6/\H6 p=O (.dK (gG W))/\RR b a k W [] D/\uZ W D []/\(∀e∈W,e.2.length<=64)/\G=[O (.ref d),O (.str a),O (.ref p),o3,o4,o5,o6,o7,o8,o9]) (λjT hnx=>?_) ?_
 ·refine AY (LW H b a d p) (Al p 100) ⟨[(a,[])],[([],[a])],[],0,nw0,[t0],aF,aF,aF,aF,aF,aF,g1.trans Ad,Ad _ _ C6,ZkW,.cons ⟨n0,g4 _ _ ht0,g4 _ _ (g3 _ _ dG)⟩ .nil,.start,λe J=>.inr ⟨([],[a]),Yg,by rw[Yd.mp J],by rw[Yd.mp J];exact Yg⟩,λn u=>by rw[Yd.mp u];exact⟨rfl,Y2.mpr ⟨(λz=>nomatch z),Wy⟩,λx hx=>by rw[Yd.mp hx];exact Yg⟩,Xn _ _,λ_=>Yh _,λe J=>by rw[Yd.mp J];exact Yx _,rfl⟩ ?_ ?_
  ·rintro G H6 ⟨W,N,D,k,X,ts,o4,o5,o6,o7,o8,o9,sm,hw,hn,pn,rr,cv,nk,nr,kb,wl,rfl⟩;refine⟨_,rfl,_,.inl ⟨_,aq.of hn,rfl⟩,?_⟩;have lt:=cZ pn;refine bA (λc=>?_) (λc=>?_)
   ·have D1:ts≠[]:=λz=>by rw[z] at c;cases c
    have Nne:N≠[]:=λz=>D1 (Zz.mp (by rw[lt,z];rfl));have Wl:W.length<=64:=Yy (by
     have:=yI rr.nd (zs:=b.ps.map (·.1)) λx hx=>by
      obtain⟨e,J,rfl⟩:=Yf.mp hx;exact JM ok ma (rr.rd e J)
     rwa [Ya,Ya] at this) xy
    have kW:=kb Nne;have Nj:Al p 100 [O (.ref d),O (.str a),O (.ref p),O (.ref X),o4,o5,o6,o7,o8,o9] H6=2*(100-W.length)+1:=by
     unfold Al;have g3:List.getD (α:=bw V) [O (.ref d),O (.str a),O (.ref p),O (.ref X),o4,o5,o6,o7,o8,o9] 3 aF=O (.ref X):=rfl;rw[hw,g3];dsimp only;rw[hn,show(gG W).length=W.length from Ya _];cases ts with
     |nil=>exact absurd rfl D1
     |cons x r=>rfl
    refine bW ?_;refine⟨by show 0<=sizeLine;decide,λfu H7 kC g7 Nk=>?_⟩;have s0:LC H b a d p X fu ts N k W.length W [] D H7 []:=⟨sm.trans g7,xE,sm.free kC,g7 _ _ hw,g7 _ _ hn,bP hn kC,L2.Paired.bu pn λ_ _ ⟨na,Q,L⟩=>⟨na,g7 _ _ Q,g7 _ _ L,bP L kC⟩,Nk,.nil,rr,nk,(λ_ h=>nomatch h),Yh _⟩;refine eC (LF H b a d p X fu ts N k W.length N.length) (λqK h_=>?_) ?_
    ·refine⟨_,rfl,X,rfl,⟨_,aq.of (g7 _ _ hn)⟩,fH (K:=K) (a:=X) (xs:=ts.map V.ref) (LF H b a d p X fu ts N k W.length) ⟨W,[],D,[],o5,o6,o7,o8,o9,s0,by rw[List.drop_zero,Y8];exact cv,(λ_ h=>nomatch h),rfl⟩ (λi G H8 _ ⟨_,_,_,_,_,_,_,_,_,s,_,_,_⟩=>aq.of s.hn) ?_ ?_⟩
     ·rintro i v G H8 hi ⟨W8,F8,D8,Ee,p5,p6,p7,p8,p9,E,Ef,NL,rfl⟩;rw[Yi] at hi;obtain⟨t,et,rfl⟩:∃t,ts[i]?=O t/\V.ref t=v:=by
       cases e:ts[i]? with
       |none=>rw[e] at hi;cases hi
       |some c=>rw[e] at hi;exact⟨c,rfl,Yo hi⟩
      obtain⟨⟨w,ns⟩,en,na,ht,Ed,nna⟩:=fY E.pn et;have ht:H8 t=O (.tup [.str ⟨w.toArray⟩,.ref na]):=ht;have Ed:H8 na=O (.lst (ns.map V.str)):=Ed;have dr:=JO en;obtain⟨wk,nn,_⟩:=E.nk _ (Yj en);have wk:w.length=k:=wk;have nn:ns.Nodup:=nn;have ZA:(⟨w.toArray⟩:af).length+1<=sizeLine:=by show(w.toArray).size+1<=_;rw[Yt];omega
      refine⟨t,_,rfl,aB.of ht,rfl,_,_,rfl,aQ ⟨_,_,rfl,aQ ⟨rfl,?_⟩⟩⟩;refine⟨Str.ofString "cfhkmsw",rfl,IW (LG H b a d p X fu ts N k W.length i w ns na) ⟨W8,F8,D8,Ee,p7,p8,p9,E,Ef,λf l n u c=>NL f l n (by rw[dr];exact Yw _ u) c,λf l c _=>NL f l (w,ns) (by rw[dr];exact Yg) c,(λc h=>nomatch h),Ed,rfl⟩ ?_ ?_⟩
      ·rintro j c G H9 hc ⟨W9,F9,D9,pj,q7,q8,q9,T,NM,l1,l2,dj,CG,rfl⟩;have sj:=QV hc;have sc:c∈d7:=Yj sj;have ZC:=JO sj;have nU:∀x∈ns,(x,w)∈W9:=λx hx=>(T.nk _ (Yj en)).2.2 x hx;have zN:ns.length<=64:=Yy (yI nn (zs:=b.ps.map (·.1)) λx hx=>JM ok ma (T.rr.rd _ (nU x hx))) (by rw[Ya];exact xy);have W9l:W9.length<=64:=Yy (T.names ok ma) xy;refine aQ (bW ?_);refine⟨_,rfl,_,rfl,_,rfl,d,na,fP b.ps F,ns,⟨#[c]⟩,rfl,tb.same T.sm,lE,CG,(eL zN (by decide)),λgp xF HA gA ZD jx VX=>?_⟩;have D7:xF.length<=130:=Yy (yI jx (zs:=(fP b.ps F).map Eg.g) λy hy=>by
        obtain⟨x,_,hy⟩:=(VX y).mp hy;obtain⟨e,m,_,_,rfl⟩:=JK.mp hy;exact Yf.mpr ⟨e,m,rfl⟩) (by rw[Ya];exact lE)
       refine⟨gp,rfl,⟨_,aq.of ZD⟩,λgl Am=>xY (K:=K) (aq.of ZD) (by rw[Ya];omega) Am (λi=>decide (xF.getD i ""∉W9.map (·.1))) (λi y _=>y=.str (xF.getD i "")) (λ_ _ _ _ _ h=>h) (λi v hi HB gB hDB Kt Kf kt kf=>?_) λus HB gB hB pr=>?_⟩
       ·obtain⟨_,rfl,_⟩:=IK hi;generalize xF.getD i ""=y at kt kf;refine⟨_,rfl,_,rfl,p,_,rfl,cP (gB _ _ (gA _ _ T.hw)) rfl,_,rfl,bA (λcc=>⟨_,rfl,kt _ _ ?_ (ag.refl _) rfl⟩) (λcc=>kf _ ?_ (ag.refl _))⟩
        ·rw[T6 T.rr.nd] at cc;exact du λm=>by rw[du m] at cc;cases cc
        ·rw[T6 T.rr.nd] at cc;refine fb λm=>cc ?_;rw[fb m];rfl
       rw[Ya] at pr;obtain⟨gs,Eh⟩:∃gs,gs=xF.filter λy=>decide (y∉W9.map (·.1)):=⟨_,rfl⟩;have eus:us=gs.map V.str:=by
        rw[ZbA pr,Eh];conv=>rhs;rw[←range_getD xF "",J3,Y6]
        rfl
       rw[eus] at hB;have ng:gs.Nodup:=by rw[Eh];exact jx.filter _
       have ge:∀y,y∈gs↔(∃x∈ns,Led b ⟨#[c]⟩ x y)/\y∉W9.map (·.1):=λy=>by
        rw[Eh,Y5,hI,VX];exact WI λ_=>⟨λ⟨x,Q,L⟩=>⟨x,Q,(Sh pm).mp L⟩,λ⟨x,Q,L⟩=>⟨x,Q,(Sh pm).mpr L⟩⟩
       have gsl:gs.length<=130:=by rw[Eh];exact Yy (Wj _ _) D7
       have R:=T.to (gA.trans gB);have VY:gl≠fu:=λz=>by rw[z,gA _ _ T.hf] at Am;cases Am
       have ZE:(⟨w.toArray⟩:af)++⟨#[c]⟩=⟨(w++[c]).toArray⟩:=Sj w c;refine eC (λG H'=>∃q9:bw V,aA p HB H'/\H' p=O (.dK (gG (W9++gs.map λy=>(y,w++[c]))))/\G=[O (.ref d),O (.str a),O (.ref p),O (.ref X),O (.ref fu),O (.str ⟨w.toArray⟩),O (.ref na),O (.str ⟨#[c]⟩),O (.ref gl),q9]) (λnY eY=>?_) ?_
       ·refine⟨_,rfl,gl,rfl,⟨_,aq.of hB⟩,fH (K:=K) (a:=gl) (xs:=gs.map V.str) (λm G H'=>∃q9:bw V,aA p HB H'/\H' p=O (.dK (gG (W9++(gs.take m).map λy=>(y,w++[c]))))/\G=[O (.ref d),O (.str a),O (.ref p),O (.ref X),O (.ref fu),O (.str ⟨w.toArray⟩),O (.ref na),O (.str ⟨#[c]⟩),O (.ref gl),q9]) ⟨q9,aA.of (ag.refl _),by rw[Dk,L5,Y8];exact R.hw,rfl⟩ (λm G H' _ ⟨_,g,_⟩=>aq.of (g _ _ hB (fM hB R.hw (λz=>by cases z)))) ?_ ?_⟩
        ·rintro m v G HC u ⟨NN,bC,sL,rfl⟩;rw[Yi] at u;obtain⟨y,ey,rfl⟩:∃y,gs[m]?=O y/\V.str y=v:=by
          cases e:gs[m]? with
          |none=>rw[e] at u;cases u
          |some c=>rw[e] at u;exact⟨c,rfl,Yo u⟩
         have ZF:gs.take (m+1)=gs.take m++[y]:=by rw[Yz,ey];rfl
         have ny:y∉(W9++(gs.take m).map λy=>(y,w++[c])).map (·.1):=λh=>by
          rw[Yp,Y6] at h;rcases Ym.mp h with h|h;·exact((ge y).mp (Yj ey)).2 h
          ·rw[show((λx:af×Z Nat=>x.1)∘λy=>(y,w++[c]))=id from rfl,Dz] at h;have:=ng;rw[←Jm (m+1) gs,ZF] at this;exact(Wc.mp (Wc.mp this).1).2.2 y h y Yg rfl
         have lg:(gs.take m).length<=130:=Yy (Zs _ _) gsl;refine aQ ?_;refine⟨_,rfl,_,rfl,_,_,rfl,rfl,ZA,_,rfl,_,rfl,p,_,.inr y,rfl,sL,rfl,by unfold gG;rw[Ya,Ye,Ya];omega,λHD bD eD=>?_⟩;refine⟨_,λA o e n=>bD _ _ (bC _ _ e n) n,?_,rfl⟩;rw[eD,ZE,Zhe ny,ZF,Yp,Jd];rfl
        ·rintro G HC ⟨NN,bC,sL,rfl⟩;rw[Ya,Y7] at sL;exact eY _ _ ⟨_,bC,sL,rfl⟩
       rintro G HC ⟨NN,bC,sL,rfl⟩;have VZ:=bC _ _ hB (fM hB R.hw (λz=>by cases z));have An:=bC _ _ R.hf (fM R.hf R.hw (λz=>by cases z));have ltc:∀f∈F9,f.1<w++[c]:=λf l=>l2 f l c (by rw[ZC];exact Yg);have fin:∀(HZ:Hp) (cL:Z U),(∀A o,HB A=O o->A≠p->A≠fu->HZ A=O o)->HZ p=O (.dK (gG (W9++gs.map λy=>(y,w++[c]))))->HZ fu=O (.lst (cL.map V.ref))->Paired (Ec fu HZ) cL (gn F9 (w++[c]) gs)->LG H b a d p X fu ts N k W.length i w ns na (j+1) [O (.ref d),O (.str a),O (.ref p),O (.ref X),O (.ref fu),O (.str ⟨w.toArray⟩),O (.ref na),O (.str ⟨#[c]⟩),O (.ref gl),NN] HZ:=λHZ cL bar hwZ hfZ pfZ=>by
        have sub:∀f∈F9,f∈gn F9 (w++[c]) gs:=λf l=>by
         unfold gn;split;·exact l
         ·exact Yk _ l
        have ZG:∀f∈gn F9 (w++[c]) gs,f∈F9\/f.1=w++[c]:=λf l=>by
         unfold gn at l;split at l;·exact .inl l
         ·rcases Ym.mp l with l|l;·exact .inl l
          ·rw[Yd.mp l];exact .inr rfl
        refine⟨_,_,_,cL,_,_,_,R.goals wk sc nU ltc ng ge (H7:=HB) bar hwZ hfZ pfZ,λe J=>?_,λf l n u A=>?_,λf l A dt=>?_,λA dt=>?_,bar _ _ ((gA.trans gB) _ _ CG) (fM ((gA.trans gB) _ _ CG) R.hw (λz=>by cases z)) nna,rfl⟩
        ·rcases Ym.mp J with J|J
         ·rcases NM e J with⟨cB,Q,L⟩|⟨n,u,e1,e2⟩;·exact .inl ⟨cB,Q,λA dt=>Yk _ (L A dt)⟩
          ·refine .inr ⟨n,?_,e1,e2⟩;rcases Ym.mp u with u|u;·exact Yk _ u
           ·exact Yl _ (sub n u)
         ·obtain⟨y,hy,rfl⟩:=Yf.mp J;refine .inr ⟨(w++[c],gs),Yl _ ?_,rfl,hy⟩;unfold gn;rw[bt λz=>by rw[z] at hy;cases hy];exact Yl _ Yg
        ·rcases ZG f l with l|l;·exact l1 f l n u A
         ·rw[l];have pw:=nr;rw[←Jm i N,dr] at pw;have Zy:=(Xa.mp (Jn.mp pw).2.1).1 n u;have nl:=(T.nk n (List.mem_of_mem_drop u)).1;exact JN (by show w.length=n.1.length;omega) Zy _ _
        ·rcases ZG f l with l|l;·exact l2 f l A (by rw[ZC];exact Yw _ dt)
         ·rw[l];exact ZfK w (ZfL sj A dt)
        ·rw[Yz,sj] at dt;rcases Ym.mp dt with h|h;·exact Yk _ (dj A h)
         ·have:A=c:=by simpa using h
          rw[this];exact Yl _ Yg
       have keep:∀A o,HB A=O o->A≠p->HC A=O o:=λA o e n=>bC _ _ e n;refine⟨_,rfl,_,.inl ⟨_,aq.of VZ,rfl⟩,bA (λcg=>?_) (λcg=>aW ?_)⟩
       ·have gne:gs≠[]:=λz=>by rw[z] at cg;cases cg
        have lf9:=cZ T.pf;have lwv:=T.lw;refine⟨_,rfl,.inl ⟨rfl,_,aq.of An⟩,_,rfl,_,rfl,_,_,rfl,rfl,ZA,_,rfl,by show 2<=sizeLine;decide,λt' HD ZH gD Ei=>⟨fu,_,_,rfl,rfl,gD _ _ An,by rw[Ya];omega,λHE bE eE=>?_⟩⟩;rw[ZE] at Ei;have tf:t'≠fu:=λz=>by rw[z,An] at ZH;cases ZH
        refine fin HE (pj++[t']) (λA o e n1 n2=>bE _ _ (gD _ _ (keep _ _ e n1)) n2) (bE _ _ (gD _ _ sL) (fM sL An (λz=>by cases z))) (by rw[eE,Yp];rfl) ?_;unfold gn;rw[bt gne];refine L2.jB (L2.Paired.bu R.pf λ_ _ ⟨rX,Q,L,h3⟩=>⟨rX,bE _ _ (gD _ _ (keep _ _ Q (fM Q R.hw (λz=>by cases z)))) (fM Q R.hf (λz=>by cases z)),bE _ _ (gD _ _ (keep _ _ L (fM L R.hw (λz=>by cases z)))) h3,h3⟩) ⟨gl,bE _ _ Ei tf,bE _ _ (gD _ _ VZ) VY,VY⟩
       ·have ge0:gs=[]:=by
         cases gs with
         |nil=>rfl
         |cons x r=>exact absurd rfl cg
        refine fin HC pj (λA o e n1 _=>keep _ _ e n1) sL An ?_;unfold gn;rw[bS ge0];exact L2.Paired.bu R.pf λ_ _ ⟨rX,Q,L,h3⟩=>⟨rX,keep _ _ Q (fM Q R.hw (λz=>by cases z)),keep _ _ L (fM L R.hw (λz=>by cases z)),h3⟩
      ·rintro G H9 ⟨W9,F9,D9,pj,q7,q8,q9,T,NM,l1,l2,dj,CG,rfl⟩;have e7:(Str.ofString "cfhkmsw").length=7:=QK
       rw[e7] at dj;refine⟨W9,F9,D9,pj,_,_,_,_,_,T,λe J=>?_,l1,rfl⟩;rcases NM e J with h|⟨n,u,e1,e2⟩;·exact .inl h
       ·rw[dr,Jy] at u;rcases Ys.mp u with rfl|u;·exact .inl ⟨ns,e2,λc hc=>by rw[←e1];exact dj c hc⟩
        ·exact .inr ⟨n,u,e1,e2⟩
     ·rintro G H8 h8;rw[Ya,lt] at h8;exact h_ _ _ h8
    ·rintro G H8 ⟨W8,F8,D8,Ee,p5,p6,p7,p8,p9,E,Ef,NL,rfl⟩;rw[List.drop_length,MH] at Ef;refine⟨_,rfl,?_⟩;have lw8:=E.lw;have W8l:W8.length<=64:=Yy (E.names ok ma) xy;have lf8:=cZ E.pf;refine⟨⟨W8,F8,D8,k+1,fu,Ee,_,_,_,_,_,_,E.sm,E.hw,E.hf,L2.Paired.bu E.pf λ_ _ ⟨na,Q,L,_⟩=>⟨na,Q,L⟩,E.rr.turn,Ef,λf l=>⟨(E.rr.fl f l).1,E.fk f l,(E.rr.fl f l).2⟩,E.rr.fr,λne=>?_,λe J=>by have:=E.rr.le e J;omega,rfl⟩,?_⟩
     ·have:0<F8.length:=List.length_pos_iff.mpr ne;omega
     ·rw[Nj];show Al p 100 [O (.ref d),O (.str a),O (.ref p),O (.ref fu),O (.ref fu),p5,p6,p7,p8,p9] H8<_;unfold Al;have g3:List.getD (α:=bw V) [O (.ref d),O (.str a),O (.ref p),O (.ref fu),O (.ref fu),p5,p6,p7,p8,p9] 3 aF=O (.ref fu):=rfl;rw[E.hw,g3];dsimp only;rw[E.hf,show(gG W8).length=W8.length from Ya _];cases Ee with
      |nil=>
       show 2*(100-W8.length)+0<_;omega
      |cons x r=>
       show 2*(100-W8.length)+1<_;have:r.length+1=F8.length:=lf8;omega
   ·have te:ts=[]:=by
     cases ts with
     |nil=>rfl
     |cons x r=>exact absurd rfl c
    have Ne:N=[]:=Zz.mp (by rw[←lt,te];rfl);subst Ne;exact hnx _ _ ⟨W,D,k,_,_,_,_,_,_,_,sm,hw,rr,cv,wl,rfl⟩
  ·rintro G H6 Q1 Q2 mo ⟨v1,w1,v2,w2,h⟩;exact⟨v1,w1,v2,w2,mo _ _ h⟩
 ·rintro G H6 ⟨W,D,k,o3,o4,o5,o6,o7,o8,o9,sm,hw,rr,cv,wl,rfl⟩;exact⟨_,rfl,q p W D k H6 sm hw rr cv wl⟩
def slt(u v:Z Nat):Prop:=u.length<v.length\/(u.length=v.length/\u<v)
def Sl(h:slt u v):sle u v:=by
 rcases h with h|⟨b,a⟩;·exact .inl h
 ·exact .inr ⟨b,Si a⟩
def A_(u:Z Nat):sle u u:=.inr ⟨rfl,Bv u⟩
def Sm(u v:Z Nat):u<v\/u=v\/v<u:=by
 by_cases h:u<v;·exact .inl h
 ·by_cases a:v<u;·exact .inr (.inr a)
  ·exact .inr (.inl (List.le_antisymm (List.not_lt.mp a) (List.not_lt.mp h)))
def Sn:sle u v↔slt u v\/u=v:=by
 constructor
 ·rintro(h|⟨b,a⟩);·exact .inl (.inl h)
  ·rcases Sm u v with q|q|q;·exact .inl (.inr ⟨b,q⟩)
   ·exact .inr q
   ·exact absurd q a
 ·rintro(h|rfl);·exact Sl h
  ·exact A_ _
def Zem{u v w:Z Nat}(h:slt u v)(a:slt v w):slt u w:=by
 rcases h with h|⟨e,d⟩<;>rcases a with a|⟨b,c⟩;·exact .inl (pz h a)
 ·exact .inl (i2 h (l3 b))
 ·exact .inl (mz (l3 e) a)
 ·exact .inr ⟨QO,List.lt_trans d c⟩
def Zen{u v w:Z Nat}(h:sle u v)(a:sle v w):sle u w:=by
 rw[Sn] at h a⊢;rcases h with h|rfl
 ·rcases a with a|rfl;·exact .inl (Zem h a)
  ·exact .inl h
 ·exact a
def ZfM(h:sle u v)(a:sle v u):u=v:=by
 rcases h with h|⟨e,c⟩;·rcases a with a|⟨d,_⟩<;>omega
 ·rcases a with a|⟨_,b⟩;·omega
  ·rcases Sm u v with q|q|q;·exact absurd q b
   ·exact q
   ·exact absurd q c
def ZfN(h:slt u v)(c d:Nat):slt (u++[c]) (v++[d]):=by
 rcases h with h|⟨b,a⟩;·exact .inl (by rw[Ye,Ye];show _+1<_+1;exact Xl h _)
 ·exact .inr ⟨by rw[Ye,Ye];show _+1=_+1;omega,JN b a _ _⟩
def ZfO(h:sle u v)(c:Nat):sle (u++[c]) (v++[c]):=by
 rcases Sn.mp h with h|rfl;·exact Sl (ZfN h c c)
 ·exact A_ _
def Rc.ZiL{b:BS}{a:af}{w:Z Nat}{c:Nat}{y:af}(h:Rc b a (w++[c]) y):∃x,Rc b a w x/\Led b ⟨#[c]⟩ x y:=by
 unfold Rc at h;rw[Ye] at h;obtain⟨x,i,e,d,l⟩:=h;have d:=d;rw[Wx,W1 (Yh _),Nat.sub_self] at d;cases d;refine⟨x,II (λj g=>?_) e,l⟩;show((w++[c]).toArray)[j]?=w.toArray[j]?;rw[Wx,Wx,Wa g]
theorem RR.min(r:RR b a k W [] D)(F:uZ W D []):∀(n:Nat) (u:Z Nat) (y:af),u.length=n->(∀c∈u,c∈d7)->Rc b a u y->∃w,(y,w)∈W/\sle w u:=by
 intro n;induction n with
 |zero=>
  intro u y d _ h;have:=Zz.mp d;subst this;have:=h;exact this▸⟨[],r.hd,A_ _⟩
 |succ n q=>
  intro u y d i h;obtain⟨e,c,rfl⟩:∃e c,u=e++[c]:=⟨u.dropLast,u.getLast (λz=>by rw[z] at d;cases d),(List.dropLast_concat_getLast _).symm⟩;obtain⟨x,t,l⟩:=h.ZiL;rw[Ye] at d;obtain⟨H,m,s⟩:=q e x (by have:e.length+1=n+1:=d;exact Xk d) (λG E=>i G (Yk _ E)) t;have j:=i c (Yl _ Yg);rcases F _ m with⟨J,A,v⟩|⟨_,h,_⟩
  ·obtain⟨g,p,o⟩:=r.cl _ (v c j) x A y l;exact⟨g,p,Zen o (ZfO s c)⟩
  ·cases h
structure Ao(b:BS)(a y:af)(w:Z Nat):Prop where
 sv:∀c∈w,c∈d7
 rc:Rc b a w y
 mi:∀u,(∀c∈u,c∈d7)->Rc b a u y->sle w u
def xG(b:BS)(a y:af)(v:V):Prop:=(∃w,Ao b a y w/\w.length<=64/\v=.str ⟨w.toArray⟩)\/((∀u,(∀c∈u,c∈d7)->¬Rc b a u y)/\v=.aC)
def RR.road(r:RR b a k W [] D)(i:uZ W D [])(j:∀e∈W,e.2.length<=64)(y:af):xG b a y ((aH (gG W) (.inr y)).getD .aC):=by
 by_cases h:y∈W.map (·.1)
 ·obtain⟨⟨q,w⟩,c,rfl⟩:=Yf.mp h;rw[Bw r.nd c];refine .inl ⟨w,⟨r.sv _ c,r.rd _ c,λu d g=>?_⟩,j _ c,rfl⟩;obtain⟨w',m,s⟩:=r.min i _ u _ rfl d g;have p:=Bw r.nd c;have o:=Bw r.nd m;have n:=Yo (p.symm.trans o);have l:w=w':=by
   have:=d6 (λz:af=>z.cps.toList) (V.str.inj n);simpa using this
  rwa[l]
 ·rw[IJ h];refine .inr ⟨λu d g=>?_,rfl⟩;obtain⟨w',m,_⟩:=r.min i _ u _ rfl d g;exact h (Yf.mpr ⟨_,m,rfl⟩)
inductive So(C CL CJ e:U)(d:Z V)(H:Hp)(Q:VK)(E:XK):Prop
 |mk (l:BL) (b:BS) (c a:Z Int) (u v:af) (k:d=[.ref l.h,.str u,.str v]) (j:bF H C CL CJ l c a b) (ok:cE c a b) (i:u.length<=1000) (h:v.length<=1000) (no:(u∉b.ps.map (·.1)\/v∉b.ps.map (·.1))->XP H e "no person" E)
  (yes:u∈b.ps.map (·.1)->v∈b.ps.map (·.1)->∀(r:V) (g:Hp),ag H g->xG b u v r->Q r g):So C CL CJ e d H Q E
def T7(C CL CJ b:U):Sp:=λa H Q E=>So C CL CJ b a H Q E
inductive QW(C CL CJ:U)(e:Z V)(H:Hp)(Q:VK):Prop
 |mk (l:BL) (b:BS) (d c:Z Int) (u v:af) (j:e=[.ref l.h,.str u,.str v]) (i:bF H C CL CJ l d c b) (ok:cE d c b) (h:u.length<=1000) (g:v.length<=1000) (no:(u∉b.ps.map (·.1)\/v∉b.ps.map (·.1))->∀(p:U) (a:Hp),ag H a->a p=O (.tup [.str "no person",.bl ar])->Q (.ref p) a)
  (yes:u∈b.ps.map (·.1)->v∈b.ps.map (·.1)->∀(r:V) (a:Hp),ag H a->xG b u v r->Q r a):QW C CL CJ e H Q
def Sq(C CL CJ:U):Sp:=λa H Q _=>QW C CL CJ a H Q
def LU(x y:af):cm:=decide (((x.length:Nat):Int)<((y.length:Nat):Int))||(decide (V.int ((x.length:Nat):Int)=V.int ((y.length:Nat):Int))&&decide (x.cps.toList<y.cps.toList))
inductive Sr(b:Z V)(H:Hp)(Q:VK)(E:XK):Prop
 |mk (x y:af) (e:b=[.str x,.str y]) (d:x.length<=1000) (c:y.length<=1000) (q:∀a,ag H a->Q (.bl (LU x y)) a)
abbrev CH:Z af:=["hearth","name","goal"]
def Zhf:aP CH CH (aJ Kd):=.aY
theorem ZfP(F:aM K "road" "road" Kd f fd)(ED:Ta P w K B I 4 "place_of" C kR (PK C CL CJ cN))(FG:cO P w K B I 1 "kept" C jM (Tw C CL CJ))(Fj:HasFn P w K B I 3 "letter_steps" ["kept"] OU)(FH:HasFn P w K B I 2 "least_roads" ["steps","name"] Sk)(bl:Bl B):aE P w K B I (oS P w) 6 f fd CH (T7 C CL CJ cN):=by
 refine F.Mg Zhf (λvs H Q E h=>?_) (λbL A x s H vs Q E a h=>?_)
 ·obtain⟨l,b,n,g,u,v,rfl,_⟩:=h;rfl
 obtain⟨l,b,n,g,u,v,rfl,q,ok,lu,lv,no,t⟩:=h;have hu:=a.l_;have T:=ED;refine⟨_,(aj (bZ (S9 T a (by decide) KC (pv 0) (aa (pv 1) ae))) (aj (bZ (S9 T a (by decide) KC (pv 0) (aa (pv 2) ae))) (av (aI (P5 (bo a) (aZ FH a (aa (aZ Fj a (aa (yC FG a (by decide) (pv 0)) ae)) (aa (pv 1) ae))) (pv 2) ⟨rfl,rfl,rfl,rfl⟩))))),?_⟩;refine i1 ?_;intros;obtain⟨z,y⟩:=q.obj;refine⟨_,rfl,l.h,z,_,rfl,y,rfl,_,rfl,l,b,n,g,u,rfl,q,ok.nm,lu,λi hi ei=>?_,λm=>no (.inl m)⟩;have L:u∈b.ps.map (·.1):=by exact ei▸tG hi
 refine⟨_,rfl,l.h,z,_,rfl,y,rfl,_,rfl,l,b,n,g,v,rfl,q,ok.nm,lv,λj hj ej=>?_,λm=>no (.inr m)⟩;have mv:v∈b.ps.map (·.1):=by rw[ej];exact tG hj
 refine⟨_,rfl,l.h,z,_,rfl,y,rfl,l,b,n,g,rfl,q,ok.zs,ok.fl,λp r o G np g1 J so hp pr=>?_⟩;have R:(o.map (·.2)).Perm b.F:=J.map _;have lF:(o.map (·.2)).length<=63:=by rw[Ya,J.length_eq];exact ok.fl
 have fl:FL G b.ps p (o.map (·.2)):=by
  refine⟨r,hp,?_⟩;have:∀{r:Z U} {fs:Z (Nat×Fc)},Paired (dF G b.ps) r fs->Paired (z_ G b.ps) r (fs.map (·.2)):=λh=>by
   induction h with
   |nil=>exact .nil
   |cons e _ ih=>exact .cons ⟨_,e⟩ ih
  exact this pr
 refine⟨p,b.ps,o.map (·.2),rfl,fl,λc hc=>kinds_ok ok (R.subset hc),(jm lF),λd H2 g2 tb=>?_⟩;refine⟨_,rfl,d,n,g,b,u,o.map (·.2),rfl,tb,R,ok,L,λwd W D k H3 g3 N rr cv X=>?_⟩;exact⟨wd,rfl,.inl ⟨_,.inl N⟩,_,rfl,_,cP N rfl,t L mv _ H3 ((g1.trans g2).trans g3) (rr.road cv X v)⟩
abbrev LV:Z af:=["_law_book","_law_name_here","_law_goal"]
def N8:aP ["_law_book","_law_name_here","_law_goal","e"] LV (aJ Gi):=.aY
def ZbB(F:aM K "_law_asked" "_law_asked" Gi f fd)(X:Vi P w K B I 6 "road" CH (T7 C CL CJ a))(z:B "KinError"=O (.ref o))(Hv:dJ K o)
  (AK:B "NoPerson"=O (.ref a))(d:dJ K a)(y:dw K a "word")(Ep:PySem.W.mroIn K a (.ref o)=O ar)(T:Bl B):aE P w K B I aL 12 f fd LV (Sq C CL CJ):=by
 refine F.o N8 @λbL A e vs Q E s H L h=>?_;obtain⟨l,b,x,t,u,v,rfl,W,ok,G,D,no,c⟩:=h;have k:=X;refine⟨_,(av (ZhM (i:=3) ⟨rfl,rfl⟩ N8.nd rfl rfl rfl z Hv (λpn xe E J ow=>(av (aI (ZhH k L (by decide) J rfl (aa (pv 0) (aa (pv 1) (aa (pv 2) ae))))))) (λ_=>(av (aI (c5 (aa (ZeP rfl (pv 3)) (aa (fJ (ZeO rfl) rfl T.N5 NY (aa (pv 3) (aa (dq (v:=.ref a) rfl AK rfl) ae))) ae)))))))),?_⟩;refine⟨_,rfl,_,rfl,_,rfl,l,b,x,t,u,v,rfl,W,ok,G,D,λm=>?_,c⟩;intro a' j H1 _ _ g e1 r;refine⟨a,j,rfl,rfl,d,Ep,λn q=>?_⟩;refine⟨_,rfl,n,a,j,_,_,rfl,q,r,d,y,rfl,?_⟩;refine⟨_,rfl,n,a,j,_,_,_,ar,rfl,rfl,q,r,d,ZeN _,?_⟩;exact⟨QD,λp H4 np R N=>no m p H4 (g.trans R) N⟩
abbrev CI:Z af:=["_law_one","_law_other"]
def ZbC:aP CI CI (aJ Gj):=.aY
def ZbD(F:aM K "_law_below" "_law_below" Gj f fd)(b:Bl B):aE P w K B I aL 1 f fd CI Sr:=by
 refine F.o ZbC λs H i h=>?_;obtain⟨x,y,rfl,d,c,q⟩:=h;have sz:(10000:Nat)<=sizeLine:=by rw[dg];decide
 refine⟨_,(av (aI (BO (dW nj (fJ xO rfl b.rE rB (aa (pv 0) ae)) (fJ xO rfl b.rE rB (aa (pv 1) ae))) (l4 (pZ (dW cq (fJ xO rfl b.rE rB (aa (pv 0) ae)) (fJ xO rfl b.rE rB (aa (pv 1) ae))) (l4 (dW Zdy (pv 0) (pv 1)))))))),?_⟩;exact(Vt.Zg (λk a=>⟨_,rfl,x,rfl,(eL d (by decide)),_,rfl,y,rfl,(eL c (by decide)),_,_,rfl,rfl,a _ (ag.refl _)⟩) λn _ l=>Vt.LB (λk a=>⟨_,rfl,x,rfl,(eL d (by decide)),_,rfl,y,rfl,(eL c (by decide)),rfl,a _ (ag.refl _)⟩) λm _ j k a=>⟨_,rfl,_,rfl,x,y,rfl,rfl,a _ (ag.refl _)⟩) _ λe g=>q e g
def ZiN(h:c∈d7):(Builtin.Str.occurrences "mfws" ⟨#[c]⟩ 0 (Str.ofString "mfws").length 1=[]/\∀k,kT k->lS k≠⟨#[c]⟩)\/∃(j:Nat) (r:Z Nat) (k:af),Builtin.Str.occurrences "mfws" ⟨#[c]⟩ 0 (Str.ofString "mfws").length 1=j::r/\dI [V.str "mother",V.str "father",V.str "wed",V.str "sibling"] (j:Int)=O (.str k)/\kT k/\lS k=⟨#[c]⟩/\∀b,kT b->lS b=⟨#[c]⟩->b=k:=by
 simp[Ys,Y1,gV] at h;rcases h with rfl|rfl|rfl|rfl|rfl|rfl|rfl;·exact .inl ⟨QK,by rintro k (rfl|rfl|rfl|rfl)<;>decide+kernel⟩
 ·exact .inr ⟨1,[],"father",QK,rfl,.inr (.inl rfl),QK,by rintro k (rfl|rfl|rfl|rfl) e<;>first|rfl|exact absurd e QK⟩
 ·exact .inl ⟨QK,by rintro k (rfl|rfl|rfl|rfl)<;>decide+kernel⟩
 ·exact .inl ⟨QK,by rintro k (rfl|rfl|rfl|rfl)<;>decide+kernel⟩
 ·exact .inr ⟨0,[],"mother",QK,rfl,.inl rfl,QK,by rintro k (rfl|rfl|rfl|rfl) e<;>first|rfl|exact absurd e QK⟩
 ·exact .inr ⟨3,[],"sibling",QK,rfl,.inr (.inr (.inr rfl)),QK,by rintro k (rfl|rfl|rfl|rfl) e<;>first|rfl|exact absurd e QK⟩
 ·exact .inr ⟨2,[],"wed",QK,rfl,.inr (.inr (.inl rfl)),QK,by rintro k (rfl|rfl|rfl|rfl) e<;>first|rfl|exact absurd e QK⟩
def ZiO(h:c∈d7):(Builtin.Str.occurrences "ckhs" ⟨#[c]⟩ 0 (Str.ofString "ckhs").length 1=[]/\∀k,kT k->ltB k≠⟨#[c]⟩)\/∃(j:Nat) (r:Z Nat) (k:af),Builtin.Str.occurrences "ckhs" ⟨#[c]⟩ 0 (Str.ofString "ckhs").length 1=j::r/\dI [V.str "mother",V.str "father",V.str "wed",V.str "sibling"] (j:Int)=O (.str k)/\kT k/\ltB k=⟨#[c]⟩/\∀b,kT b->ltB b=⟨#[c]⟩->b=k:=by
 simp[Ys,Y1,gV] at h;rcases h with rfl|rfl|rfl|rfl|rfl|rfl|rfl;·exact .inr ⟨0,[],"mother",QK,rfl,.inl rfl,QK,by rintro k (rfl|rfl|rfl|rfl) e<;>first|rfl|exact absurd e QK⟩
 ·exact .inl ⟨QK,by rintro k (rfl|rfl|rfl|rfl)<;>decide+kernel⟩
 ·exact .inr ⟨2,[],"wed",QK,rfl,.inr (.inr (.inl rfl)),QK,by rintro k (rfl|rfl|rfl|rfl) e<;>first|rfl|exact absurd e QK⟩
 ·exact .inr ⟨1,[],"father",QK,rfl,.inr (.inl rfl),QK,by rintro k (rfl|rfl|rfl|rfl) e<;>first|rfl|exact absurd e QK⟩
 ·exact .inl ⟨QK,by rintro k (rfl|rfl|rfl|rfl)<;>decide+kernel⟩
 ·exact .inr ⟨3,[],"sibling",QK,rfl,.inr (.inr (.inr rfl)),QK,by rintro k (rfl|rfl|rfl|rfl) e<;>first|rfl|exact absurd e QK⟩
 ·exact .inl ⟨QK,by rintro k (rfl|rfl|rfl|rfl)<;>decide+kernel⟩
inductive T8(j:Z V)(H:Hp)(Q:VK)(E:XK):Prop
 |mk (i h:U) (b:BS) (a:Z af) (e:Nat) (r:j=[.ref i,.ref h,.str ⟨#[e]⟩]) (o:FL H b.ps i b.F) (m:∀c∈b.F,c.k=bj\/kT c.k) (l:b.F.length<=64) (n:H h=O (.lst (a.map V.str))) (k:e∈d7) (q:∀(p:U) (d:Z af) (g:Hp),ag H g->g p=O (.lst (d.map V.str))->(∀y,y∈d↔∃x∈a,Led b ⟨#[e]⟩ x y)->d.length<=200->Q (.ref p) g)
def rS(b:BS)(l:af)(a:Z af)(j:Nat)(y:af):Prop:=∃x∈a,∃c∈b.F.take j,∃e∈ie b.ps c,e.s=x/\e.l=l/\e.g=y
def rS.step(n:b.F.take (j+1)=b.F.take j++[c])(y:af):rS b l row (j+1) y↔(rS b l row j y\/((c.k≠bj/\lS c.k=l/\aw b.ps c.one∈row)/\y=aw b.ps c.aG.toNat))\/((c.k≠bj/\ltB c.k=l/\aw b.ps c.aG.toNat∈row)/\y=aw b.ps c.one):=by
 unfold rS;constructor
 ·rintro⟨x,k,o,h,e,a,g,d,m⟩;rw[n] at h;rcases Ym.mp h with h|h;·exact .inl (.inl ⟨x,k,o,h,e,a,g,d,m⟩)
  ·rw[Yd.mp h] at a;unfold ie at a;split at a;·cases a
   ·rename_i i
    rcases Ys.mp a with rfl|a;·exact .inl (.inr ⟨⟨i,d,by rw[show aw b.ps c.one=x from g];exact k⟩,m.symm⟩)
    ·rw[Yd.mp a] at g d m;exact .inr ⟨⟨i,d,by rw[show aw b.ps c.aG.toNat=x from g];exact k⟩,m.symm⟩
 ·have p:c∈b.F.take (j+1):=by exact n▸Yl _ Yg
  rintro((⟨x,k,o,h,r⟩|⟨⟨i,d,g⟩,rfl⟩)|⟨⟨i,d,g⟩,rfl⟩);·exact⟨x,k,o,by exact n▸Yk _ h,r⟩
  ·exact⟨_,g,c,p,⟨_,_,_⟩,by unfold ie;rw[bt i];exact Yg,rfl,d,rfl⟩
  ·exact⟨_,g,c,p,⟨_,_,_⟩,by unfold ie;rw[bt i];exact Yw _ Yg,rfl,d,rfl⟩
abbrev sN(e a d:U)(g:Nat)(z:Int)(c:Fc)(b:BS):St:=[O (.ref e),O (.ref a),O (.str ⟨#[g]⟩),O (.ref d),O (.int z),O (.str c.k),O (.str (aw b.ps c.one)),O (kV (bp b.ps c))]
inductive Ap(H:Hp)(b:BS)(a:Z af)(p o d:U)(i j:Nat)(n:St)(k:Hp):Prop
 |mk (c:Z af) (t s r q:bw V) (g:ag H k) (h:k d=O (.lst (c.map V.str))) (m:∀y,y∈c↔rS b ⟨#[i]⟩ a j y) (l:c.length<=2*j) (e:n=[O (.ref p),O (.ref o),O (.str ⟨#[i]⟩),O (.ref d),t,s,r,q]):Ap H b a p o d i j n k
abbrev LX:Z af:=["_law_facts","_law_row_here","_law_letter"]
def vw:aP ["_law_facts","_law_row_here","_law_letter","_law_found","_law_number","_law_kind","_law_one","_law_other"] LX (aJ G6):=.aY
def Zcq(F:aM K "_law_next" "_law_next" G6 f fd)(bl:Bl B):aE P w K B I aL 1 f fd LX T8:=by
 refine F.o vw λs H hr h=>?_;obtain⟨E,D,b,i,A,rfl,fl,kd,ln,ZJ,sv,q⟩:=h;have hu:=hr.l_;refine⟨_,(aj (bR 3 vw.nd (cU ae)) (aj (dE XW rfl (dH (K:=K) rfl (pv 0)) (gc (K:=K) (n:=4) rfl rfl (bq (aV 4 vw.nd) (bq (aV 5 vw.nd) (bq (aV 6 vw.nd) (bq (aV 7 vw.nd) f_))))) (aj (aU (PW.pt (pw_and (fK Hx (pv 2) a9 (by with_unfolding_all rfl)) (pw_and (bH cq (pv 5) (bc (iL K) (cU (aa a9 (aa a9 (aa a9 (aa a9 ae))))) (gT X7 X3 XZ Pc a9 (aa (pv 2) ae)))) (pw_and1 (fK (k9 (K:=K) rfl) (pv 6) (pv 1) (by with_unfolding_all rfl)))))) (av (bZ (j9 (K:=K) rfl (gT Xt Xb WY kF (pv 3) (aa (pv 7) ae))))) a8) (av (aU (PW.pt (pw_and (fK Hx (pv 2) a9 (by with_unfolding_all rfl)) (pw_and (bH cq (pv 5) (bc (iL K) (cU (aa a9 (aa a9 (aa a9 (aa a9 ae))))) (gT X7 X3 XZ Pc a9 (aa (pv 2) ae)))) (pw_and1 (fK (k9 (K:=K) rfl) (pv 7) (pv 1) (by with_unfolding_all rfl)))))) (av (bZ (j9 (K:=K) rfl (gT Xt Xb WY kF (pv 3) (aa (pv 6) ae))))) a8)))) (av (aI (pv 3))))),?_⟩;refine i1 ?_;intros;have sz:(10000:Nat)<=sizeLine:=by rw[tS];decide
 obtain⟨as,cY,al,get⟩:=fl.get;obtain⟨ll,el⟩:∃ll:af,ll=⟨#[A]⟩:=⟨_,rfl⟩;refine bW ?_;refine⟨by show 0<=sizeLine;decide,λx H1 xD g1 wR=>?_⟩;refine eC (Ap H b i E D x A b.F.length) (λjT dG=>?_) ?_
 ·refine⟨_,rfl,E,rfl,⟨_,aq.of (g1 _ _ cY)⟩,fH (K:=K) (a:=E) (xs:=as.map V.ref) (Ap H b i E D x A) ⟨[],aF,aF,aF,aF,g1,wR,λy=>⟨(λh=>nomatch h),λ⟨_,_,_,h,_⟩=>(nomatch h)⟩,Yh _,rfl⟩ (λj T H6 _ ⟨_,_,_,_,_,g,_,_,_,_⟩=>aq.of (g _ _ cY)) ?_ ?_⟩
  ·rintro j v T H6 hj ⟨W,o4,o5,o6,o7,N,X,L,l6,rfl⟩;obtain⟨c0,c,z,rfl,ec,mQ,hc⟩:=get H6 j v N hj;have jl:j<b.F.length:=(Yn.mp ec).1;have st:=rS.step (l:=⟨#[A]⟩) (row:=i) mQ;have kc:=kd c (Yj ec);refine⟨c0,_,rfl,aB.of hc,rfl,_,_,rfl,aQ ⟨_,_,rfl,aQ ⟨_,_,rfl,aQ ⟨_,_,rfl,aQ ⟨rfl,?_⟩⟩⟩⟩⟩;obtain⟨A1,Ej⟩:∃A1:Prop,A1=(c.k≠bj/\lS c.k=⟨#[A]⟩/\aw b.ps c.one∈i):=⟨_,rfl⟩;obtain⟨A2,Ek⟩:∃A2:Prop,A2=(c.k≠bj/\ltB c.k=⟨#[A]⟩/\aw b.ps c.aG.toNat∈i):=⟨_,rfl⟩;rw[←Ej,←Ek] at st;refine jZ (λT H'=>∃(R:Z af),ag H H'/\H' x=O (.lst (R.map V.str))/\(∀y,y∈R↔rS b ⟨#[A]⟩ i j y\/(A1/\y=aw b.ps c.aG.toNat))/\R.length<=2*j+1/\T=sN E D x A z c b) (λqK h_=>?_) ?_
   ·have UX:¬A1->∀H',ag H6 H'->qK (sN E D x A z c b) H':=λna H' g'=>h_ _ _ ⟨W,N.trans g',g' _ _ X,λy=>⟨λh=>.inl ((L y).mp h),λh=>h.elim (L y).mpr λh=>absurd h.1 na⟩,jm l6,rfl⟩;rcases ZiN sv with⟨G,no⟩|⟨ix,r,k,G,ak,tk,ek,un⟩
    ·refine(Bt.and (a:=a_) (b:=ar) (λQ p=>⟨_,rfl,_,_,rfl,rfl,_,rfl,by rw[G];exact p _ (ag.refl _)⟩) λ_ h=>(by cases h)) _ λJ t=>bV (aW (UX (λh=>?_) J t));rw[Ej] at h;exact no c.k (kc.resolve_left h.1) h.2.1
    ·refine(Bt.and (a:=ar) (λQ p=>⟨_,rfl,_,_,rfl,rfl,_,rfl,by rw[G];exact p _ (ag.refl _)⟩) λH7 _ g7=>Bt.and (a:=decide (c.k=k)) (b:=fD (.str (aw b.ps c.one)) (i.map V.str)) (λQ p=>⟨_,rfl,by show 4<=sizeLine;decide,λkl H8 Zi g8 r8=>⟨rfl,_,rfl,_,_,ix,r,rfl,rfl,G,kl,_,_,_,rfl,rfl,aq.of r8,ak,rfl,_,rfl,by rw[dR];exact p _ g8⟩⟩) λH8 _ g8 Q p=>⟨_,rfl,_,rfl,D,_,rfl,.inl (aq.of (g8 _ _ (g7 _ _ (N _ _ ZJ)))),rfl,yc i,_,rfl,p _ (ag.refl _)⟩) _ λJ t=>bA (λh=>?_) (λh=>aW (UX (λu=>h ?_) J t))
     ·rw[Jb] at h;obtain⟨h1,h2⟩:=Jo.mp h;have ck:c.k=k:=xW h1;have ns:c.k≠bj:=by rw[ck];exact(yt tk).2.2.2
      have eo:kV (bp b.ps c)=.str (aw b.ps c.aG.toNat):=by rw[ig ns];rfl
      have u:A1:=by rw[Ej];exact⟨ns,by rw[ck];exact ek,(rR _ _).mp h2⟩
      have ZK:=t _ _ X;refine⟨_,rfl,.inl ⟨rfl,_,aq.of ZK⟩,_,rfl,x,_,_,rfl,rfl,ZK,by rw[Ya];omega,λHB bB eB=>?_⟩;refine h_ _ _ ⟨W++[aw b.ps c.aG.toNat],λd o e=>bB _ _ (t _ _ (N _ _ e)) (bP e xD),by rw[eB,eo,Yp];rfl,λy=>?_,by rw[Ye];show _+1<=_;omega,rfl⟩;rw[Ym,L,Yd];exact⟨λh=>h.imp id λe=>⟨u,e⟩,λh=>h.imp id λe=>e.2⟩
     ·rw[Ej] at u;rw[Jb];exact Jo.mpr ⟨yd (un c.k (kc.resolve_left u.1) u.2.1),(rR _ _).mpr u.2.2⟩
   ·rintro T H7 ⟨R,g7,h7,m7,l7,rfl⟩;have fin:∀(H':Hp) (za:Z af),ag H H'->H' x=O (.lst (za.map V.str))->(∀y,y∈za↔y∈R\/(A2/\y=aw b.ps c.one))->za.length<=2*j+2->Ap H b i E D x A (j+1) (sN E D x A z c b) H':=λH' za g h m l=>⟨za,_,_,_,_,g,h,λy=>by rw[m,m7,st],l,rfl⟩;have UY:¬A2->∀H',ag H7 H'->Ap H b i E D x A (j+1) (sN E D x A z c b) H':=λna H' g'=>fin H' R (g7.trans g') (g' _ _ h7) (λy=>⟨.inl,λh=>h.elim id λh=>absurd h.1 na⟩) (jm l7);rcases ZiO sv with⟨G,no⟩|⟨ix,r,k,G,ak,tk,ek,un⟩
    ·refine(Bt.and (a:=a_) (b:=ar) (λQ p=>⟨_,rfl,_,_,rfl,rfl,_,rfl,by rw[G];exact p _ (ag.refl _)⟩) λ_ h=>(by cases h)) _ λJ t=>bV (aW (UY (λh=>?_) J t));rw[Ek] at h;exact no c.k (kc.resolve_left h.1) h.2.1
    ·refine(Bt.and (a:=ar) (λQ p=>⟨_,rfl,_,_,rfl,rfl,_,rfl,by rw[G];exact p _ (ag.refl _)⟩) λH8 _ g8=>Bt.and (a:=decide (c.k=k)) (b:=fD (.str (aw b.ps c.aG.toNat)) (i.map V.str)) (λQ p=>⟨_,rfl,by show 4<=sizeLine;decide,λkl J Zi t r8=>⟨rfl,_,rfl,_,_,ix,r,rfl,rfl,G,kl,_,_,_,rfl,rfl,aq.of r8,ak,rfl,_,rfl,by rw[dR];exact p _ t⟩⟩) λJ ct t Q p=>⟨kV (bp b.ps c),rfl,_,rfl,D,_,rfl,.inl (aq.of (t _ _ (g8 _ _ (g7 _ _ ZJ)))),OR (yr _),yc i,_,rfl,by rw[show kV (bp b.ps c)=.str (aw b.ps c.aG.toNat) from by rw[ig (by rw[xW ct];exact(yt tk).2.2.2)];rfl];exact p _ (ag.refl _)⟩) _ λJ t=>bA (λh=>?_) (λh=>aW (UY (λu=>h ?_) J t))
     ·rw[Jb] at h;obtain⟨h1,h2⟩:=Jo.mp h;have ck:c.k=k:=xW h1;have ns:c.k≠bj:=by rw[ck];exact(yt tk).2.2.2
      have u:A2:=by rw[Ek];exact⟨ns,by rw[ck];exact ek,(rR _ _).mp h2⟩
      have ZL:=t _ _ h7;refine⟨_,rfl,.inl ⟨rfl,_,aq.of ZL⟩,_,rfl,x,_,_,rfl,rfl,ZL,by rw[Ya];omega,λHB bB eB=>?_⟩;refine fin HB (R++[aw b.ps c.one]) (λd o e=>bB _ _ (t _ _ (g7 _ _ e)) (bP e xD)) (by rw[eB,Yp];rfl) (λy=>?_) (by rw[Ye];show _+1<=_;exact Nat.add_le_add_right l7 _);rw[Ym,Yd];exact⟨λh=>h.imp id λe=>⟨u,e⟩,λh=>h.imp id λe=>e.2⟩
     ·rw[Ek] at u;rw[Jb];exact Jo.mpr ⟨yd (un c.k (kc.resolve_left u.1) u.2.1),(rR _ _).mpr u.2.2⟩
  ·rintro T H6 ⟨W,o4,o5,o6,o7,N,X,L,l6,rfl⟩;rw[Ya,al] at L l6;exact dG _ _ ⟨W,_,_,_,_,N,X,L,l6,rfl⟩
 rintro T H6 ⟨W,o4,o5,o6,o7,N,X,L,l6,rfl⟩;refine⟨_,rfl,q x W H6 N X (λy=>?_) (by omega)⟩;rw[L];unfold rS Led;rw[Y7]
def ZfQ(h:c∈d7):(!(!(Builtin.Str.occurrences (Str.ofString "cfhkmsw") ⟨#[c]⟩ 0 (Str.ofString "cfhkmsw").length 1).isEmpty))=a_:=by
 simp[Ys,Y1,gV] at h;rcases h with rfl|rfl|rfl|rfl|rfl|rfl|rfl<;>decide+kernel
def ZiP{w u:Z Nat}(h:sle w u):LU ⟨u.toArray⟩ ⟨w.toArray⟩=a_:=by
 unfold LU;have b:(⟨u.toArray⟩:af).length=u.length:=by show(u.toArray).size=_;rw[Yt]
 have a:(⟨w.toArray⟩:af).length=w.length:=by show(w.toArray).size=_;rw[Yt]
 rw[b,a];rcases h with h|⟨d,c⟩
 ·rw[fb QO,fb (λz=>by have:=V.int.inj z;omega)];rfl
 ·rw[fb QO,fb c,WK];rfl
def Ao.uniq{w u:Z Nat}(h:Ao b a y w)(c:Ao b a y u):w=u:=ZfM (h.mi u c.sv c.rc) (c.mi w h.sv h.rc)
inductive QX(k:Z V)(H:Hp)(Q:VK)(E:XK):Prop
 |mk (g d e:U) (j i:Z Int) (b:BS) (a:af) (c:Z (Key×V)) (p:k=[.ref g,.str a,.ref d,.ref e]) (o:FL H b.ps g b.F) (ok:cE j i b) (l:a∈b.ps.map (·.1)) (m:H d=O (.lst ((b.ps.map (·.1)).map V.str))) (n:H e=O (.dK c)) (all:∀y∈b.ps.map (·.1),∃v,aH c (.inr y)=O v/\xG b a y v) (q:∀h,ag H h->Q (.bl ar) h)
abbrev LY:Z af:=["_law_facts","_law_name_here","_law_names","_law_found"]
def qQ:aP ["_law_facts","_law_name_here","_law_names","_law_found","_law_goal","_law_word_here","_law_here","_law_letter","_law_other"] LY (aJ Gk):=.aY
theorem ZbE(F:aM K "_law_least" "_law_least" Gk f fd)(AL:HasFn P w K B I 1 "_law_next" LX T8)(GI:HasFn P w K B I 1 "_law_below" CI Sr)(bl:Bl B):aE P w K B I aL 2 f fd LY QX:=by
 refine F.o qQ λs H L h=>?_;obtain⟨E,D,z,xs,W,b,a,kvs,rfl,fl,ok,ma,hn,hf,all,q⟩:=h;have hu:=L.l_;refine⟨_,(aj (dE eJ rfl (dH (K:=K) rfl (pv 2)) (aV 4 qQ.nd) (aj (bR 5 qQ.nd (de (bo L) (pv 3) (pv 4) (λ_ _=>rfl))) (aj (aU (bH yv (pv 5) kJ) (av ZbR) a8) (aj (aU (jY (eP (lI K bl (pv 5) (kK rfl bl.vX vS)))) (av (aI gJ)) a8) (aj (bR 6 qQ.nd (cU (aa (pv 1) ae))) (aj (dE eJ rfl (BE (pv 5)) (aV 7 qQ.nd) (aj (aU (fK N3 (pv 7) a9 QU) (av (aI gJ)) a8) (av (bR 6 qQ.nd (aZ AL L (aa (pv 0) (aa (pv 6) (aa (pv 7) ae)))))))) (aj (aU (fK (BC (K:=K) rfl) (pv 4) (pv 6) QU) (av (aI gJ)) a8) (av (dE eJ rfl (BE a9) (aV 7 qQ.nd) (av (dE eJ rfl (dH (K:=K) rfl (aZ AL L (aa (pv 0) (aa (cU (aa (pv 4) ae)) (aa (pv 7) ae))))) (aV 8 qQ.nd) (av (aU (PW.pt (pw_or (bH yv (de (bo L) (pv 3) (pv 8) (λ_ _=>rfl)) kJ) (pw_or1 (eP (aZ GI L (aa (bh pL (pv 5) (pv 7)) (aa (de (bo L) (pv 3) (pv 8) (λ_ _=>rfl)) ae))))))) (av (aI gJ)) a8))))))))))))) (av (aI (dW cq (de (bo L) (pv 3) (pv 1) (λ_ _=>rfl)) a9)))),?_⟩;have sz:(10000:Nat)<=sizeLine:=by rw[dg];decide
 have lF:b.F.length<=64:=by show(b.fs.map (·.2)).length<=64;rw[Ya];have:=ok.fl;exact jm this
 have kd:∀c∈b.F,c.k=bj\/kT c.k:=λc J=>kinds_ok ok J;refine eC (λd k=>∃o4 o5 N t l:bw V,ag H k/\d=[O (.ref E),O (.str a),O (.ref D),O (.ref z),o4,o5,N,t,l]) (λjT dG=>?_) ?_
 ·refine⟨_,rfl,D,rfl,⟨_,aq.of hn⟩,fH (K:=K) (a:=D) (xs:=(b.ps.map (·.1)).map V.str) (λ_ d k=>∃o4 o5 N t l:bw V,ag H k/\d=[O (.ref E),O (.str a),O (.ref D),O (.ref z),o4,o5,N,t,l]) ⟨aF,aF,aF,aF,aF,ag.refl _,rfl⟩ (λi d k _ ⟨_,_,_,_,_,g,_⟩=>aq.of (g _ _ hn)) ?_ (λd k h=>dG _ _ h)⟩;rintro i v d H1 hi ⟨o4,o5,N,t,l,R,rfl⟩;obtain⟨y,my,rfl⟩:∃y,y∈b.ps.map (·.1)/\v=.str y:=let⟨_,e,m⟩:=IK hi;⟨_,m,e⟩;obtain⟨v,T,rv⟩:=all y my;refine aQ (bW ?_);refine⟨_,rfl,_,rfl,z,v,rfl,cP (R _ _ hf) T,?_⟩;rcases rv with⟨w,Q,wl,rfl⟩|⟨_,rfl⟩
  ·refine jZ (λd k=>k=H1/\d=[O (.ref E),O (.str a),O (.ref D),O (.ref z),O (.str y),O (.str ⟨w.toArray⟩),N,t,l]) (λqK h_=>⟨_,rfl,rfl,_,rfl,bV (aW (h_ _ _ ⟨rfl,rfl⟩))⟩) ?_;rintro d H1' ⟨rfl,rfl⟩;refine jZ (λd k=>k=H1'/\d=[O (.ref E),O (.str a),O (.ref D),O (.ref z),O (.str y),O (.str ⟨w.toArray⟩),N,t,l]) (λqK h_=>⟨_,rfl,_,_,_,ar,rfl,.str _,JY,_,rfl,bV (aW (h_ _ _ ⟨rfl,rfl⟩))⟩) ?_;rintro d H1 ⟨rfl,rfl⟩;have lz:(⟨w.toArray⟩:af).length=w.length:=by show(w.toArray).size=_;rw[Yt]
   refine bW ?_;refine⟨_,rfl,by show 1<=sizeLine;decide,λh0 H2 nh0 g2 hh0=>?_⟩;refine eC (λd k=>∃(A:U) (G:Z af) (t:bw V),ag H k/\k A=O (.lst (G.map V.str))/\(∀x,x∈G↔Rn b a ⟨w.toArray⟩ w.length x)/\d=[O (.ref E),O (.str a),O (.ref D),O (.ref z),O (.str y),O (.str ⟨w.toArray⟩),O (.ref A),t,l]) (λnY eY=>?_) ?_
   ·refine⟨_,rfl,⟨w.toArray⟩,rfl,IW (λi d k=>∃(A:U) (G:Z af) (t:bw V),ag H k/\k A=O (.lst (G.map V.str))/\(∀x,x∈G↔Rn b a ⟨w.toArray⟩ i x)/\d=[O (.ref E),O (.str a),O (.ref D),O (.ref z),O (.str y),O (.str ⟨w.toArray⟩),O (.ref A),t,l]) ⟨h0,[a],t,R.trans g2,hh0,λx=>Yd,rfl⟩ ?_ (λd k h=>eY _ _ (by rw[lz] at h;exact h))⟩;rintro i c d H3 J ⟨A,G,ZM,g3,NO,m3,rfl⟩;have sc:c∈d7:=Q.sv c (by
     have J:(w.toArray)[i]?=O c:=J;rw[Wx] at J;exact Yj J)
    refine aQ ?_;refine jZ (λd k=>k=H3/\d=[O (.ref E),O (.str a),O (.ref D),O (.ref z),O (.str y),O (.str ⟨w.toArray⟩),O (.ref A),O (.str ⟨#[c]⟩),l]) (λnx3 hn3=>⟨_,rfl,_,_,rfl,rfl,_,rfl,by rw[ZfQ sc];exact bV (aW (hn3 _ _ ⟨rfl,rfl⟩))⟩) ?_;rintro d H3' ⟨rfl,rfl⟩;refine⟨_,rfl,_,rfl,_,rfl,E,A,b,G,c,rfl,fl.same g3,kd,lF,NO,sc,λp W H4 g4 hp iff _=>?_⟩;refine⟨p,W,_,g3.trans g4,hp,λx=>?_,rfl⟩;rw[iff];constructor
    ·rintro⟨X,Mh,n⟩;exact⟨X,c,(m3 X).mp Mh,J,n⟩
    ·rintro⟨X,c',r',dt,n⟩;rw[J] at dt;cases dt;exact⟨X,(m3 X).mpr r',n⟩
   rintro d H3 ⟨A,G,ZM,g3,NO,m3,rfl⟩;refine jZ (λd k=>k=H3/\d=[O (.ref E),O (.str a),O (.ref D),O (.ref z),O (.str y),O (.str ⟨w.toArray⟩),O (.ref A),ZM,l]) (λnx4 hn4=>⟨_,rfl,_,rfl,A,_,rfl,.inl (aq.of NO),rfl,yc G,_,rfl,?_⟩) ?_
   ·rw[bS rfl,(rR y G).mpr ((m3 y).mpr Q.rc)];exact bV (aW (hn4 _ _ ⟨rfl,rfl⟩))
   rintro d H3' ⟨rfl,rfl⟩;refine⟨Str.ofString "cfhkmsw",rfl,IW (λ_ d k=>∃t l:bw V,ag H k/\d=[O (.ref E),O (.str a),O (.ref D),O (.ref z),O (.str y),O (.str ⟨w.toArray⟩),O (.ref A),t,l]) ⟨_,_,g3,rfl⟩ ?_ (λd k ⟨_,_,g,e⟩=>⟨_,_,_,_,_,g,e⟩)⟩;rintro j c d H5 J ⟨p7,p8,g5,rfl⟩;have sc:c∈d7:=Yj (QV J);refine aQ ?_;refine⟨_,rfl,_,rfl,by show 1<=sizeLine;decide,λgl H6 ngl g6 Am=>⟨_,rfl,E,gl,b,[y],c,rfl,fl.same (g5.trans g6),kd,lF,Am,sc,λp W H7 g7 hp iff lys=>?_⟩⟩;have ZN:=(g5.trans g6).trans g7;refine⟨p,rfl,⟨_,aq.of hp⟩,fH (K:=K) (a:=p) (xs:=W.map V.str) (λ_ d k=>∃l:bw V,ag H7 k/\d=[O (.ref E),O (.str a),O (.ref D),O (.ref z),O (.str y),O (.str ⟨w.toArray⟩),O (.ref A),O (.str ⟨#[c]⟩),l]) ⟨_,ag.refl _,rfl⟩ (λi d k _ ⟨_,g,_⟩=>aq.of (g _ _ hp)) ?_ (λd k ⟨_,g,e⟩=>⟨_,_,ZN.trans g,e⟩)⟩;rintro m v d H8 hm ⟨p8',g8,rfl⟩;obtain⟨o,mo,rfl⟩:∃o,o∈W/\v=.str o:=let⟨_,e,m⟩:=IK hm;⟨_,m,e⟩;obtain⟨y',hy',n⟩:=(iff o).mp mo;rw[Yd.mp hy'] at n;have ZO:Rc b a (w++[c]) o:=Q.rc.snoc n;have ZP:∀c'∈w++[c],c'∈d7:=λc' dt=>(Ym.mp dt).elim (Q.sv c') λh=>by rw[Yd.mp h];exact sc
   obtain⟨v,T,rv⟩:=all o (QT ok n);have iX:=g8 _ _ (ZN _ _ hf);refine aQ ?_;rcases rv with⟨w',ls',wl',rfl⟩|⟨no,_⟩
   ·have lz':(⟨w'.toArray⟩:af).length=w'.length:=by show(w'.toArray).size=_;rw[Yt]
    have lzc:(⟨(w++[c]).toArray⟩:af).length=w.length+1:=by show((w++[c]).toArray).size=_;rw[Yt,Ye];rfl
    refine⟨_,rfl,_,rfl,z,_,rfl,cP iX T,rfl,_,rfl,bA (λcc=>by cases cc) (λ_=>?_)⟩;refine⟨_,rfl,_,rfl,_,_,rfl,rfl,by rw[lz];show w.length+1<=_;omega,_,rfl,_,rfl,z,_,rfl,cP iX T,⟨(w++[c]).toArray⟩,⟨w'.toArray⟩,by rw[Sj];rfl,QO,QO,λH9 g9=>⟨_,rfl,?_⟩⟩;rw[ZiP (ls'.mi _ ZP ZO)];exact bV (aW ⟨_,g8.trans g9,rfl⟩)
   ·exact absurd ZO (no _ ZP)
  ·exact⟨_,rfl,rfl,_,rfl,dk ⟨_,_,_,_,_,R,rfl⟩⟩
 rintro d H1 ⟨o4,o5,N,t,l,R,rfl⟩;obtain⟨v,T,rv⟩:=all a ma;have lsa:Ao b a a []:=⟨(λ_ h=>nomatch h),.nil,λu _ _=>by
  cases u with
  |nil=>exact A_ _
  |cons x r=>exact .inl (Zm _)⟩
 rcases rv with⟨w,Q,_,rfl⟩|⟨no,_⟩
 ·have ew:=Q.uniq lsa;subst ew;exact⟨_,rfl,_,rfl,z,_,rfl,cP (R _ _ hf) T,rfl,q H1 R⟩
 ·exact absurd Rc.nil (no [] (λ_ h=>nomatch h))
abbrev Aq(d m a b h e c g:U)(n z i:Nat)(r:Z (bw V)):St:=O (.ref d)::O (.int (n:Int))::O (.ref m)::O (.ref a)::O (.ref b)::O (.int (z:Int))::O (.ref h)::O (.ref e)::O (.ref c)::O (.ref g)::O (.int (i:Int))::r
def ZfR(h:xs.length<=63):(qo xs (O 4) aF).length<=59:=by
 unfold qo;have e:HT.iE xs.length 0 (O 4)=min 4 xs.length:=HT.Zf3 _ _ 4;exact Yy (Zs _ _) (by rw[DU,e];omega)
def B0(K:ah):Sp:=λc H Q _=>∃(a:U) (b:Z Int),c=[.ref a]/\aq K H a (b.map V.int)/\b.length<=63/\∀d,Q (.bl ar) d
structure FD(b:BS)(a:af)(H:Hp)(fo:U)(ks:Z af)(kvs:Z (Key×V)):Prop where
 at_:H fo=O (.dK kvs)
 yes:∀y∈ks,∃v,aH kvs (.inr y)=O v/\xG b a y v
 no:∀y,y∉ks->aH kvs (.inr y)=aF
 len:kvs.length=ks.length
def FD.more(s:FD b a H m l c)(p:y∉l)(o:xG b a y v)(e:q m=O (.dK (putK c (.inr y) v))):FD b a q m (l++[y]) (c++[(.inr y,v)]):=by
 have j:=s.no y p;rw[iZ _ j] at e;refine⟨e,λk d=>?_,λk d=>?_,by rw[Ye,Ye,s.len];rfl⟩
 ·rcases Ym.mp d with h|h
  ·obtain⟨n,i,g⟩:=s.yes k h;exact⟨n,by rw[yh,i];rfl,g⟩
  ·rw[Yd.mp h];exact⟨v,by rw[yh,j];exact fq rfl,o⟩
 ·have i:=λz=>d (Yk _ z);have g:(Sum.inr y:Key)≠.inr k:=λz=>d (Yl _ (by rw[Wb z];exact Yg));rw[yh,s.no k i];exact eO g
abbrev CK:Z af:=["_law_script"]
def iq:aP ["_law_script","_law_size","_law_mother","_law_wife","_law_turns_here","_law_salt","_law_book","_law_names","_law_sides","_law_facts","_law_after_here","_law_begin","_law_k","_law_name_here","_law_found","_law_goal","_law_pair"] CK (aJ tV):=.aY
theorem ZiQ(F:aM K "law" "law" tV f fd)(sX:HasFn P w K B I 1 "_law_cell" Dj (SY K))(pK:HasFn P w K B I 1 "_law_draws" zH (Bh K))(AV:HasFn P w K B I 2 "_law_row" Lu UO)(GJ:HasFn P w K B I 2 "_law_turns" LA R8)(xZ:HasFn P w K B I 4 "_law_same" oV (tL 4))(Hw:HasFn P w K B I 15 "_law_grow" LQ (T5 C CL CJ))(AA:HasFn P w K B I 12 "_law_asked" LV (Sq C CL CJ))(GK:HasFn P w K B I 2 "_law_least" LY QX)
  (Im:HasFn P w K B I 7 "land_of" Cg (Ql CL))(IL:vY P w K B I 1 "Hearth" C Cs (RZ C CL CJ))(bl:Bl B):aE P w K B I (oS P w) 16 f fd CK (B0 K):=by
 refine F.Mg iq (λvs H Q E h=>?_) (λbL A outer s H vs Q E L h=>?_)
 ·obtain⟨a,ns,rfl,_⟩:=h;rfl
 obtain⟨a,ns,rfl,hs,hlen,q⟩:=h;have hu:=L.l_;refine⟨_,(aj (bR 0 iq.nd (PQ (P7 (K:=K) rfl) (pv 0) Rb (Rf aS))) (aj (bR 1 iq.nd (bh i6 aS (bh eQ (aZ sX L (aa (pv 0) (aa aS ae))) aS))) (aj (bR 2 iq.nd (aZ AV L (aa (aZ sX L (aa (pv 0) (aa aS ae))) (aa (pv 1) ae)))) (aj (bR 3 iq.nd (aZ AV L (aa (aZ sX L (aa (pv 0) (aa aS ae))) (aa (pv 1) ae)))) (aj (bR 4 iq.nd (aZ GJ L (aa (pv 2) (aa (pv 3) ae)))) (aj (bR 5 iq.nd (bh eQ (aZ sX L (aa (pv 0) (aa aS ae))) aS)) (aj (bR 6 iq.nd (KH IL L (by omega) rfl (aa (aZ Im L (aa (pv 2) (aa (pv 3) ae))) ae))) (aj (l9 (aZ Hw L (aa (pv 6) (aa (PQ (P7 (K:=K) rfl) (pv 0) (Rf aS) Rb) (aa (pv 4) (aa (pv 5) ae))))) (gc (K:=K) (n:=4) rfl rfl (bq (aV 7 iq.nd) (bq (aV 8 iq.nd) (bq (aV 9 iq.nd) (bq (aV 10 iq.nd) f_)))))) (aj (bR 11 iq.nd (bc (iL K) (aZ pK L (aa (aZ sX L (aa (pv 0) (aa aS ae))) (aa (cU (aa aS ae)) ae))) aS)) (aj (dE Le rfl (pN rfl bl.jW (aa (fJ (Zdz rfl) rfl bl.Uu SW (aa aS (aa (dC K bl (pv 7)) ae))) ae)) (aV 12 iq.nd) (aj (bR 13 iq.nd (bc (iL K) (pv 7) (bh eQ (bh i6 (pv 11) (pv 12)) (dC K bl (pv 7))))) (aj (bR 14 iq.nd pO) (aj (dE Le rfl (dH (K:=K) rfl (pv 7)) (aV 15 iq.nd) (av (lX (bo L) (pv 14) (pv 15) (aZ AA L (aa (pv 6) (aa (pv 13) (aa (pv 15) ae))))))) (aj (aU (jY (eP (aZ GK L (aa (pv 9) (aa (pv 13) (aa (pv 7) (aa (pv 14) ae))))))) (av (aI gJ)) a8) (av (dE Le rfl (dH (K:=K) rfl (cU (aa (c5 (aa (pv 13) (aa a9 ae))) (aa (c5 (aa a9 (aa (pv 13) ae))) ae)))) (aV 16 iq.nd) (av (aU (jY (eP (aZ xZ L (aa (aZ AA L (aa (pv 6) (aa (bc (iT K) (pv 16) aS) (aa (bc (iT K) (pv 16) aS) ae)))) (aa (c5 (aa a9 (aa gJ ae))) ae))))) (av (aI gJ)) a8))))))))) (av (aI gJ)))))))))))),?_⟩;refine y0 ?_;intros;have sz:(10000:Nat)<=sizeLine:=by rw[tS];omega
 obtain⟨ms,em⟩:=PX ns aF (O 63);have lms:ms.length<=ns.length:=by
  have:=N9 (ns.map V.int) aF (O 63);rw[em,Ya,Ya] at this;exact this
 obtain⟨cs,ec⟩:=PX ms (O 4) aF;have lcs:cs.length<=59:=by
  have:=ZfR (xs:=ms.map V.int) (by rw[Ya];omega);rw[ec,Ya] at this;exact this
 refine zt ?_;intro;refine bW ?_;refine⟨_,rfl,_,rfl,a,_,rfl,hs,λT H0 n1 g0 xH=>?_⟩;rw[em] at xH;refine zt ?_;intro;refine bW ?_;refine⟨_,rfl,T,ms,0,rfl,aq.of xH,Int.le_refl 0,λc0=>⟨_,_,rfl,rfl,(by show(0:Int)<7;decide),_,_,rfl,rfl,?_⟩⟩;try dsimp only
 have m0:=Jg c0 (show(7:Int)≠0 by decide);have m1:=Wz c0 (show(0:Int)<7 by decide);obtain⟨n,en⟩:∃n:Nat,2+c0 % 7=(n:Int):=⟨(2+c0 % 7).toNat,by omega⟩;rw[en];have n2:2<=n:=by omega
 have n8:n<=8:=by omega
 refine zt ?_;intro;refine bW ?_;refine⟨_,rfl,T,ms,1,rfl,aq.of xH,by decide,λc1=>⟨_,rfl,c1,n,rfl,by omega,by omega,λm X H1 nm g1 hM px=>?_⟩⟩;refine zt ?_;intro;refine bW ?_;refine⟨_,rfl,T,ms,2,rfl,aq.of (g1 _ _ xH),by decide,λc2=>⟨_,rfl,c2,n,rfl,by omega,by omega,λwi ys H2 nw g2 hW py=>?_⟩⟩;have lx:X.length=n:=by rw[px.length_eq,fG]
 have ly:ys.length=n:=by rw[py.length_eq,fG]
 have gd:oI X ys:=⟨tD px,tD py,by omega,by omega,by omega⟩;refine zt ?_;intro;refine bW ?_;refine⟨_,rfl,_,rfl,m,wi,X,ys,rfl,g2 _ _ hM,hW,gd,λtd H3 ntd g3 ht=>?_⟩;have kA:=(g1.trans g2).trans g3;refine zt ?_;intro;refine bW ?_;refine⟨_,rfl,T,ms,3,rfl,aq.of (kA _ _ xH),by decide,λc3=>⟨_,_,rfl,rfl,(by show(0:Int)<97;decide),?_⟩⟩;try dsimp only
 have z0:=Jg c3 (show(97:Int)≠0 by decide);have z1:=Wz c3 (show(0:Int)<97 by decide);obtain⟨z,ez⟩:∃z:Nat,c3 % 97=(z:Int):=⟨(c3 % 97).toNat,by omega⟩;rw[ez];have hz:z<97:=by omega
 refine zt ?_;intro;refine bW ?_;refine⟨_,rfl,_,rfl,m,wi,X,ys,rfl,g3 _ _ (g2 _ _ hM),g3 _ _ hW,gd.1,gd.2.1,gd.2.2.1,gd.2.2.2.1,gd.2.2.2.2,λLd H4 g4 la=>λx dx nx zK nd=>?_⟩;have zL:upd H4 dx (.own x) x=aF:=by rw[aN (λz=>nd z.symm)];exact nx
 obtain⟨H5,e5⟩:∃H5,H5=upd (upd H4 dx (.own x)) x (.ins C dx []):=⟨_,rfl⟩;have g5:ag H4 H5:=by rw[e5];exact(cF zK _).trans (cF zL _)
 have hx5:H5 x=O (.ins C dx []):=by rw[e5];exact aT
 rw[←e5];refine⟨x,dx,Ld,X,ys,rfl,hx5,la.same g5,λl H6 eh DO b6 ba=>⟨rfl,?_⟩⟩;subst eh;have keep:∀{a:U} {o:HO},H4 a=O o->H6 a=O o/\a∉l.fp:=λ{a o} e=>by
  have na:a≠l.h:=bP e nx;refine⟨b6 _ _ (g5 _ _ e) na,λz=>?_⟩;have:=DO a z na;rw[g5 _ _ e] at this;cases this
 have NP:=g4 _ _ (kA _ _ xH);have ht4:=ht.same g4;obtain⟨tm,tf,tw,ts,hJ,q1,q2,q3,q4⟩:=ht4;have ht6:iK H6 td X ys:=⟨tm,tf,tw,ts,(keep hJ).1,(keep q1).1,(keep q2).1,(keep q3).1,(keep q4).1⟩;refine⟨_,rfl,_,rfl,_,rfl,T,_,rfl,aq.of (keep NP).1,λca H7 nca g7 hca=>⟨_,rfl,_,rfl,X,ys,z,ca,td,l,⟨[],[],0,[],[]⟩,cs,rfl,ba.same g7,rfl,gd,by rw[hca,ec],ba.fresh nca,ht6.same g7,(keep hJ).2,hz,lcs,λl2 b R sd fl st H8 wt N=>?_⟩⟩;refine⟨st,_,rfl,aB.of N.tup,rfl,_,_,rfl,aQ ⟨_,_,rfl,aQ ⟨_,_,rfl,aQ ⟨_,_,rfl,aQ ⟨rfl,?_⟩⟩⟩⟩⟩;dsimp only;have eh:=wt.h;have hs8:=(wt.off (g7 _ _ (keep NP).1) (keep NP).2).1;obtain⟨d,eN⟩:∃d,d=b.ps.map (·.1):=⟨_,rfl⟩;have El:H8 R=O (.lst (d.map V.str)):=by rw[N.names,eN,Y6];rfl
 have cp:=N.cp;have zN:d.length<=59:=by rw[eN,Ya];exact cp
 have nnd:d.Nodup:=by rw[eN];exact N.ok.nm
 have uF:∀x∈d,x∈b.ps.map (·.1)/\x.length<=1000:=λx hx=>by
  rw[eN] at hx;refine⟨hx,?_⟩;rw[N.nm] at hx;obtain⟨k,hk,rfl⟩:=Yf.mp hx;have hk:=Wn.mp hk;have:=(OS (z:=z) (show k<60 by omega)).2;omega
 have ZQ:(Str.ofString "stranger")∉b.ps.map (·.1):=λh=>by
  rw[N.nm] at h;obtain⟨k,hk,e⟩:=Yf.mp h;have hk:=Wn.mp hk;exact ZfJ z k (by omega) e
 have FLs:∀{D:Hp},ag H8 D->FL D b.ps fl b.F:=λ{D} g=>by
  obtain⟨as,h1,h2⟩:=N.facts;refine⟨as,g _ _ h1,?_⟩;have:∀{as:Z U} {fs:Z (Nat×Fc)},Paired (dF H8 b.ps) as fs->Paired (z_ D b.ps) as (fs.map (·.2)):=λh=>by
   induction h with
   |nil=>exact .nil
   |cons e _ ih=>exact .cons ⟨_,g _ _ e⟩ ih
  exact this h2
 have lF:b.F.length<=64:=by show(b.fs.map (·.2)).length<=64;rw[Ya];have:=N.ok.fl;omega
 have ZR:∀{H:Hp} {p:U},H p=O (.tup [.str "no person",.bl ar])->At H 3 (.ref p) (.tup [.str "no person",.bl ar]):=λh=>Zh2 h (by show 2<=1000;decide) (.cons (Zh1 _) (.cons (Zjg _) .nil));refine zt ?_;intro;refine bW ?_;refine⟨_,rfl,T,ms,4,rfl,aq.of hs8,by decide,λc4=>⟨by show 1<=sizeLine;omega,λpq HA npq gA hpq=>⟨_,pq,[61],rfl,aq.of hpq,by decide,by decide,λdr ds HB ndr gB hdr bd=>?_⟩⟩⟩;obtain⟨W,rfl⟩:∃W,ds=[W]:=by
  cases bd with|cons h1 bd=>cases bd;exact⟨_,rfl⟩
 refine⟨dr,_,_,_,rfl,rfl,aq.of hdr,fL (j:=0) rfl,?_⟩;have sJ:=gA.trans gB;refine eC (λ_ D=>True) (λjT dG=>?_) (λG D _=>q D);have Af:(d.map V.str).length=d.length:=Ya _;obtain⟨mn,yW,ZkX,mn4⟩:∃mn:Nat,(if(((d.map V.str).length:Nat):Int)<3 then(((d.map V.str).length:Nat):Int) else 3)=(mn:Int)/\(0<mn->0<d.length)/\mn<=3:=by
  by_cases c:(((d.map V.str).length:Nat):Int)<3
  ·rw[if_pos c];exact⟨(d.map V.str).length,rfl,by omega,by omega⟩
  ·rw[if_neg c];exact⟨3,rfl,by omega,by omega⟩
 refine⟨_,rfl,R,_,rfl,.inl (aq.of (sJ _ _ El)),3,_,rfl,_,rfl,by rw[yW];omega,by rw[yW];omega,?_⟩;rw[yW];refine AM (lo:=0) (n:=(mn:Int).toNat) (λ_ G D=>∃nZ n5 ZS xI u3:bw V,ag H8 D/\G=Aq T m wi td l.h R sd fl n z b.co [O (.int W),nZ,n5,ZS,xI,u3]) ⟨_,_,_,_,_,sJ,rfl⟩ ?_ (λG D _=>dG _ _ trivial);rintro kk G HJ hkk ⟨nZ,n5,ZS,xI,u3,NQ,rfl⟩;rw[Y9] at hkk;have VT:=ZkX (by omega);have NR:=NQ _ _ El;have V0:(0:Int)<(((d.map V.str).length:Nat):Int):=by omega
 refine aQ (bW ?_);refine⟨_,rfl,_,rfl,_,rfl,_,_,rfl,rfl,_,rfl,R,_,rfl,.inl (aq.of NR),_,_,rfl,rfl,V0,?_⟩;obtain⟨x,mx,ax⟩:∃x,x∈d/\dI (d.map V.str) ((W+(0+(kk:Int))) % (((d.map V.str).length:Nat):Int))=O (.str x):=by
  have h1:=Jg (W+(0+(kk:Int))) (show(((d.map V.str).length:Nat):Int)≠0 by omega);have h2:=Wz (W+(0+(kk:Int))) V0;obtain⟨j,ej⟩:∃j:Nat,(W+(0+(kk:Int))) % (((d.map V.str).length:Nat):Int)=(j:Int):=⟨_,(Jw h1).symm⟩;rw[ej] at h2⊢;have hj:j<d.length:=by omega
  exact⟨d[j],Ji hj,fL (by rw[Yi,Yc hj];rfl)⟩
 obtain⟨M5,NT⟩:=uF x mx;refine⟨R,_,_,_,rfl,rfl,aq.of NR,ax,?_⟩;refine zt ?_;intro;refine bW ?_;refine λfo HK xD gK wR=>?_;have ZkY:H8 fo=aF:=NQ.free xD;refine eC (λG D=>∃(J:Z (Key×V)) (xI:bw V),ag H8 D/\FD b x D fo d J/\G=Aq T m wi td l.h R sd fl n z b.co [O (.int W),O (.int (0+(kk:Int))),O (.str x),O (.ref fo),xI,u3]) (λqK h_=>?_) ?_
 ·refine⟨_,rfl,R,rfl,⟨_,aq.of (gK _ _ NR)⟩,fH (K:=K) (a:=R) (xs:=d.map V.str) (λi G D=>∃(J:Z (Key×V)) (xI:bw V),ag H8 D/\FD b x D fo (d.take i) J/\G=Aq T m wi td l.h R sd fl n z b.co [O (.int W),O (.int (0+(kk:Int))),O (.str x),O (.ref fo),xI,u3]) ⟨[],_,NQ.trans gK,⟨wR,(λ_ h=>nomatch h),λ_ _=>rfl,rfl⟩,rfl⟩ (λi G D _ ⟨_,_,g,_⟩=>aq.of (g _ _ El)) ?_ ?_⟩
  ·rintro i v G HL hi ⟨J,CM,gL,fd,rfl⟩;rw[Yi] at hi;obtain⟨y,ey,rfl⟩:∃y,d[i]?=O y/\V.str y=v:=by
    cases e:d[i]? with
    |none=>rw[e] at hi;cases hi
    |some c=>rw[e] at hi;exact⟨c,rfl,Yo hi⟩
   have my:=Yj ey;obtain⟨myb,ly1⟩:=uF y my;have tk:d.take (i+1)=d.take i++[y]:=by rw[Yz,ey];rfl
   have ny:y∉d.take i:=λh=>by
    have:=nnd;rw[←Jm (i+1) d,tk] at this;exact(Wc.mp (Wc.mp this).1).2.2 y h y Yg rfl
   refine aQ ?_;refine⟨_,rfl,_,rfl,_,rfl,l2,b,X,ys,x,y,by rw[eh];rfl,N.ba.same gL,N.ok,NT,ly1,λh=>(h.elim (λh=>absurd M5 h) λh=>absurd myb h),λ_ _ r HM gM rv=>?_⟩;refine⟨_,rfl,_,rfl,fo,_,.inr y,rfl,gM _ _ fd.at_,rfl,by rw[fd.len,We];omega,λHN bN eN'=>?_⟩;refine⟨J++[(.inr y,r)],_,λc o e=>bN _ _ (gM _ _ (gL _ _ e)) (bP e ZkY),?_,rfl⟩;rw[tk];exact fd.more ny rv eN'
  ·rintro G HL ⟨J,CM,gL,fd,rfl⟩;rw[Ya,Y7] at fd;exact h_ _ _ ⟨J,_,gL,fd,rfl⟩
 rintro G HL ⟨J,CM,gL,fd,rfl⟩;refine jZ (λG D=>ag H8 D/\G=Aq T m wi td l.h R sd fl n z b.co [O (.int W),O (.int (0+(kk:Int))),O (.str x),O (.ref fo),CM,u3]) (λnY eY=>?_) ?_;·exact⟨_,rfl,_,rfl,_,rfl,_,rfl,fl,R,fo,X,ys,b,x,J,rfl,FLs gL,N.ok,M5,by rw[gL _ _ El,eN],fd.at_,λy hy=>fd.yes y (by rw[eN];exact hy),λHM gM=>⟨_,rfl,bV (aW (eY _ _ ⟨gL.trans gM,rfl⟩))⟩⟩
 rintro G HM ⟨gM,rfl⟩;refine⟨_,rfl,by show 2<=sizeLine;omega,λp1 HN np1 gN nQ=>⟨_,rfl,by show 2<=sizeLine;omega,λp2 HO wW gO dM=>⟨by show 2<=sizeLine;omega,λpl HP z7 gP cj=>?_⟩⟩⟩;have ZT:=((gM.trans gN).trans gO).trans gP;have each:∀(i:Nat) (v:V),([V.ref p1,.ref p2]:Z V)[i]?=O v->∃(t:U) (u w':af),v=.ref t/\HP t=O (.tup [.str u,.str w'])/\u.length<=1000/\w'.length<=1000/\(u∉b.ps.map (·.1)\/w'∉b.ps.map (·.1)):=λi v h=>by
  match i,h with
  |0,h=>cases h;exact⟨p1,x,"stranger",rfl,gP _ _ (gO _ _ nQ),NT,by decide+kernel,.inr ZQ⟩
  |1,h=>cases h;exact⟨p2,"stranger",x,rfl,gP _ _ dM,by decide+kernel,NT,.inl ZQ⟩
  |_+2,h=>exact nomatch h
 refine⟨pl,rfl,⟨_,aq.of cj⟩,fH (K:=K) (a:=pl) (xs:=[V.ref p1,.ref p2]) (λ_ G D=>∃u3:bw V,ag HP D/\G=Aq T m wi td l.h R sd fl n z b.co [O (.int W),O (.int (0+(kk:Int))),O (.str x),O (.ref fo),CM,u3]) ⟨_,ag.refl _,rfl⟩ (λi G D _ ⟨_,g,_⟩=>aq.of (g _ _ cj)) ?_ (λG D ⟨_,g,e⟩=>⟨_,_,_,_,_,ZT.trans g,e⟩)⟩;rintro i v G HQ hi ⟨Zml,gQ,rfl⟩;obtain⟨t,u,w',rfl,ht,lu,lw,ref⟩:=each i v hi;have ZU:=gQ _ _ ht;refine aQ ?_;refine⟨_,rfl,_,rfl,t,_,_,_,rfl,rfl,aB.of ZU,fL (j:=0) rfl,_,rfl,t,_,_,_,rfl,rfl,aB.of ZU,fL (j:=1) rfl,l2,b,X,ys,u,w',by rw[eh];rfl,N.ba.same (ZT.trans gQ),N.ok,lu,lw,λ_ p HR gR hp=>?_,λh1 h2=>absurd ref λr=>r.elim (λr=>r h1) λr=>r h2⟩;exact⟨by show 2<=sizeLine;omega,λt' HS nt gS Ei=>⟨_,_,.tup [.str "no person",.bl ar],3,rfl,rfl,ZR (gS _ _ hp),ZR Ei,λHZ gZ=>⟨_,rfl,bV (aW ⟨_,((gQ.trans gR).trans gS).trans gZ,rfl⟩)⟩⟩⟩
def all_mk{l:PySem.W.OpenLaw}{w:cX}{K:ah}{h:cS}{B:aR}{fa:U}(X:K.In h)(G:h.Ns mainGlobals B)(cY:B "law"=O (.ref fa))
  (p1:bM K "is_turn" HW f1)
  (p2:bM K "still" IY f2)
  (p3:bM K "behind" Ir f3)
  (p4:bM K "back" Kc f4)
  (p5:bM K "check_turn" FN f5)
  (p6:bM K "check_rows" FO f6)
  (p7:bM K "check_parents" EK f7)
  (p8:bM K "land_of" HX f8)
  (p9:bM K "followed" GP f9)
  (p10:bM K "turned_back" Fp Ms)
  (p11:bM K "lines_up" GQ f11)
  (p12:bM K "is_tie" Iu f12)
  (p13:bM K "tie_turn" GR f13)
  (p14:bM K "fact_key" GS f14)
  (p15:bM K "keep_fact" F7 f15)
  (p16:bM K "fact_fits" F_ f16)
  (p17:bM K "is_name" HY f17)
  (p18:bM K "check_person" E2 f18)
  (p19:bM K "check_tie" Ga f19)
  (p20:bM K "sides_fit" Gb f20)
  (p21:bM K "told_already" E3 f21)
  (p22:bM K "check_elders" E4 f22)
  (p23:bM K "check_saying" E5 f23)
  (p24:bM K "check_section" EL f24)
  (p25:bM K "is_person" Gd f25)
  (p26:bM K "tie_step" GU f26)
  (p27:bM K "tie_steps" Ge f27)
  (p28:bM K "letter_steps" E6 f28)
  (p29:bM K "led_from" GV f29)
  (p30:bM K "road" Kd f30)
  (p31:bM K "least_roads" Fq f31)
  (p32:bM K "_law_cell" OH f32)
  (p33:bM K "_law_draws" Oe f33)
  (p34:bM K "_law_turn" OI f34)
  (p35:bM K "_law_row" H_ f35)
  (p36:bM K "_law_inverse" Fs f36)
  (p37:bM K "_law_after" Gf f37)
  (p38:bM K "_law_turns" Gg f38)
  (p39:bM K "_law_same" AB f39)
  (p40:bM K "_law_nets" GW f40)
  (p41:bM K "_law_carried" Ft f41)
  (p42:bM K "_law_room" GX f42)
  (p43:bM K "_law_name" GY f43)
  (p44:bM K "_law_up" Iv f44)
  (p45:bM K "_law_told" GZ f45)
  (p46:bM K "_law_sided" Gh f46)
  (p47:bM K "_law_word" G0 f47)
  (p48:bM K "_law_pick" G1 f48)
  (p49:bM K "_law_fact" G3 f49)
  (p50:bM K "_law_put" Ia f50)
  (p51:bM K "_law_step" G4 f51)
  (p52:bM K "_law_grow" G5 f52)
  (p53:bM K "_law_next" G6 f53)
  (p54:bM K "_law_asked" Gi f54)
  (W:bM K "_law_below" Gj f55)
  (T:bM K "_law_least" Gk f56)
  (R:bM K "law" tV f57)
  (z:r9 K ["len","abs","list","range","tuple","any","all","isinstance","bool","int","str","sorted","min","max","sum","dict","reversed","ValueError"])
  (Za5:nsIn K mainGlobals "LEAST_SIZE"=O (O (.int (2) Zlh)))
  (ZbF:nsIn K mainGlobals "MOST_SIZE"=O (O (.int (8) Zln)))
  (Zaw:nsIn K mainGlobals "LONGEST_NAME"=O (O (.int (12) Zk_)))
  (Zeo:nsIn K mainGlobals "PUT_IN"=O (O (.int (1) ZlL)))
  (ZbG:nsIn K mainGlobals "TAKEN_OUT"=O (O (.int (-1) Zlo)))
  (ZfS:nsIn K mainGlobals "FORTH"=O (O (.int (1) ZlO)))
  (Zhg:nsIn K mainGlobals "BACK"=O (O (.int (-1) ZlQ)))
  (ZaM:nsIn K mainGlobals "TIE_LETTERS"=O (O (.ref jA)))
  (Fm:PyProof.Rows.KTD.tabLook PyProof.Rows.KTD.flatLooks (λb=>K.lookup b) jA [("mother",PyData.str "m"),("father",PyData.str "f"),("wed",PyData.str "w"),("sibling",PyData.str "s")]=ar)
  (ZbH:nsIn K mainGlobals "WAYS_BACK"=O (O (.ref vq)))
  (ZbI:PyProof.Rows.KTD.tabLook PyProof.Rows.KTD.flatLooks (λb=>K.lookup b) vq [("m",PyData.str "c"),("c",PyData.str "m"),("f",PyData.str "k"),("k",PyData.str "f"),("w",PyData.str "h"),("h",PyData.str "w"),("s",PyData.str "s")]=ar)
  (Zdl:nsIn K mainGlobals "PARENTS"=O (O (.ref dP)))
  (Zdm:K.lookup dP=O ⟨.type "tuple",ZlF,.seq #[.str "mother" Zlp,.str "father" Zlq] ZlG,ZlH⟩)
  (ZiR:nsIn K mainGlobals "MAN"=O (O (.str "man" ZlV)))
  (ZfT:nsIn K mainGlobals "WOMAN"=O (O (.str "woman" ZlP)))
  (Z1:nsIn K mainGlobals "LETTERS_OF_NAMES"=O (O (.str "abcdefghijklmnopqrstuvwxyz" Zk0)))
  (Z9:nsIn K mainGlobals "SIGNS_OF_NAMES"=O (O (.str "abcdefghijklmnopqrstuvwxyz0123456789" Zk4)))
  (Zhh:nsIn K mainGlobals "SAID"=O (O (.str "said" ZlR)))
  (Zdn:nsIn K mainGlobals "SIBLING"=O (O (.str "sibling" ZlI)))
  (Zdo:nsIn K mainGlobals "LETTERS"=O (O (.str "cfhkmsw" ZlJ)))
  (Zcr:zG K "KinError" "KinError.__init__" [] ES x Zcs)
  (Gs:KD K x "__init__" Zcs)
  (Zct:zG K "NoPerson" "NoPerson.__init__" [x] ET lW Zlx)
  (ZiS:zF K "Land" c)
  (o:v8 K c)
  (Zcu:c6 K c "__init__" "Land.__init__" Gm Zly)
  (Zcv:c6 K c "step" "Land.step" Gn Zlz)
  (Zhi:zF K "Joins" a)
  (n:oE K a)
  (ZbJ:c6 K a "__init__" "Joins.__init__" FP Zlr)
  (Zcw:c6 K a "add" "Joins.add" Gp ZlA)
  (Zcx:c6 K a "tie" "Joins.tie" Gq ZlB)
  (Zcy:c6 K a "say" "Joins.say" Gr ZlC)
  (Zax:c6 K a "open_at" "Joins.open_at" EM Zla)
  (ZbK:c6 K a "left" "Joins.left" FQ Zls)
  (Zaj:c6 K a "together" "Joins.together" EE Zk7)
  (Za6:c6 K a "pairs" "Joins.pairs" Fu Zli)
  (ZaN:c6 K a "narrow" "Joins.narrow" E7 Zle)
  (ZW:c6 K a "bring_together" "Joins.bring_together" Em ZkZ)
  (ZbL:c6 K a "move" "Joins.move" FR Zlt)
  (ZfU:zF K "Hearth" d)
  (g:fQ K d)
  (Za7:c6 K d "__init__" "Hearth.__init__" Fv Zlj)
  (Zay:c6 K d "person" "Hearth.person" EN Zlb)
  (ZbM:c6 K d "tie" "Hearth.tie" FT Zlu)
  (ZbN:c6 K d "say" "Hearth.say" FU Zlv)
  (Za8:c6 K d "keep" "Hearth.keep" Fw Zlk)
  (Za9:c6 K d "take" "Hearth.take" Fx Zll)
  (Zaz:c6 K d "people" "Hearth.people" EO Zlc)
  (Zak:c6 K d "side_of" "Hearth.side_of" EF Zk8)
  (Za_:c6 K d "kept" "Hearth.kept" Fy Zlm)
  (ZbO:c6 K d "has" "Hearth.has" FV Zlw)
  (Z4:c6 K d "parent_of" "Hearth.parent_of" Eu Zk2)
  (Z2:c6 K d "parents_of" "Hearth.parents_of" Es Zk1)
  (ZaO:c6 K d "joins" "Hearth.joins" E8 Zlf)
  (Zal:c6 K d "do_deed" "Hearth.do_deed" EG Zk9)
  (ZaP:c6 K d "shift" "Hearth.shift" E9 Zlg)
  (ZaA:c6 K d "put_in" "Hearth.put_in" ER Zld)
  (Z5:c6 K d "note_fact" "Hearth.note_fact" Ew Zk3)
  (Z_:c6 K d "take_out" "Hearth.take_out" EA Zk5)
  (Zaa:c6 K d "place_of" "Hearth.place_of" EB Zk6)
  (Ep:PySem.W.mroIn K lW (.ref x)=O ar)
  :∃fd:FuncData,(∀(s:bU) (v:a7),BindsTo s fd ⟨[v],[]⟩ [("_law_script",v)])/\∀I:cS,K.In I->I.Ns mainGlobals B->aE l.prog w K B I (oS l.prog w) 16 fa fd CK (B0 K):=by
 obtain @⟨od,an,sl,oc,kV,dc,pm,cd,ct,ax,lx,cx,kx⟩:=R;have e:=cY.symm.trans (hT X G ax);cases e;have bl:=z.bl X G;have FW:=hT X G Za5;have Gu:=hT X G ZbF;have Fd:=hT X G Zaw;have y:=hT X G Zeo;have GA:=hT X G ZbG;have vQ:=hT X G ZfS;have Kp:=hT X G Zhg;have N:=hT X G ZaM;have GG:=hT X G ZbH;have q:=hT X G Zdl;have p:∀H,aB K H dP [.str "mother",.str "father"]:=λ_=>.inr ⟨_,_,_,Zdm,rfl,rfl,by show 2<=sizeLine;decide,(.cons ⟨_,rfl⟩ (.cons ⟨_,rfl⟩ .nil))⟩;have tZ:=hT X G ZiR;have tI:=hT X G ZfT;have Ey:=hT X G Z1;have EJ:=hT X G Z9;have r:=hT X G Zhh;have E:=hT X G Zdn;have Il:=hT X G Zdo;obtain⟨_,Zdp,G7,Hv,ZlK,vy,ZlD⟩:=Zcr.b X G wM;obtain⟨_,Zdq,Zdr,u,Zds,AK,t⟩:=Zct.b X G wH;have ZiT:=o.cls;have j:=n.cls;have i:=g.cls;refine⟨fnOf "law" "law" (lZ tV) (i4 tV) (aJ tV) .none kV dc pm an cd ct,λs v=>.of_eq rfl,λI _ _=>?_⟩;have F:=yz (st:=tV) lx cx kx;have D:jr l.prog w K B I:=⟨X,G⟩;have Hs:JZ l.prog w K B I "NoPerson" "no person" lW:=⟨_,_,Zds,Zb6 Zdq Gs (Zb5 Zdp bl) G7 vy u t,Zdr,AK,u,t⟩;have sX:=D.d p32 (λ_ F=>ZgD F bl.rE);have L:=D.d p33 (λ_ F=>Zfc F bl.Zjd);have vE:=D.d p1 (λ_ F=>Zc0 F bl);have qT:=D.d p9 (λ_ F=>Zb9 F bl);have P:=D.d p10 (λ_ F=>ZaG F bl);have vO:=D.d p2 (λ_ F=>Zff F bl);have Gw:=D.m ZiT Zcv (λ_ F=>ZgJ F o);have JC:=D.j Zhi ZbJ (λ_ F=>Zfj F n bl);have u4:=D.m j Zaj (λ_ F=>Zb_ F n bl);have oh:=D.m j Zax (λ_ F=>Zc4 F n bl);have u5:=D.m j ZaN (λ_ F=>Zd8 F n bl);have A:=D.d p12 (λ_ F=>Zed F N Fm);have J:=D.d p14 (λ_ F=>Zcd F E bl);have EY:=D.m i Zaz (λ_ F=>Zee (CL:=c) (CJ:=a) F g bl);have sM:=D.m i Zak (λ_ F=>Zda (CL:=c) (CJ:=a) F g bl);have ve:=D.d p25 (λ_ F=>Zbo F bl);have Ez:=D.m i Z4 (λ_ F=>Zbp (CL:=c) (CJ:=a) F g);have Et:=D.m i Z2 (λ_ F=>Za2 (CL:=c) (CJ:=a) F g q p);have FG:=D.m i Za_ (λ_ F=>ZgT (CL:=c) (CJ:=a) F g bl);have Ih:=D.d p17 (λ_ F=>Zdd F Fd Ey EJ bl);have IL:=D.j ZfU Za7 (λ_ F=>ZfC (CL:=c) (CJ:=a) F g);have GB:=D.d p20 (λ_ F=>Zbr F tZ tI E);have EZ:=D.d p24 (λ_ F=>Zai (C:=d) (CL:=c) (CJ:=a) F g o bl);have GD:=D.d p37 (λ_ F=>Zbv F bl);have sQ:=D.d p36 (λ_ F=>Zdf F bl);have FC:=D.d p41 (λ_ F=>Zdg F bl);have Hi:=D.d p45 (λ_ F=>Zcg F);have GF:=D.d p46 (λ_ F=>Zbx F);have IG:=D.d p44 (λ_ F=>Zei F bl);have AH:=D.d p48 (λ_ F=>Zci F bl);have Hk:=D.d p43 (λ_ F=>Zck F bl);have Hq:=D.d p26 (λ_ F=>Zco F N Fm GG ZbI vQ);have Hu:=D.d p29 (λ_ F=>Zcp F bl);have ED:=D.mX i Zaa (λ_ F=>Zbz (CL:=c) (CJ:=a) F g Hs);have GI:=D.d W (λ_ F=>ZbD F bl);have AL:=D.d p53 (λ_ F=>Zcq F bl);have Hg:=D.d p34 (λ_ F=>ZgE F bl.tK bl.jW bl.ou);have xZ:HasFn l.prog w K B I 4 "_law_same" oV (tL 4):=let⟨_,F,b,k,m⟩:=D.p (ps:=oV) p39;⟨_,_,RF F b k m bl 4,b,k,m⟩;have sR:=D.d p5 (λ_ F=>Zix F vE);have u9:=D.d p6 (λ_ F=>ZgH F vE FW Gu bl);have vg:=D.m j Zcw (λ_ F=>Ziy F n vO bl);have Gx:=D.m j Zcy (λ_ F=>Ziz F oh u5 bl);have Ar:=D.m j ZbL (λ_ F=>ZgL F n qT P bl);have FA:=D.m j Za6 (λ_ F=>Zfn F n u4 oh bl);have vB:=D.d p13 (λ_ F=>Zcb (CL:=c) F N Fm o A Gw);have vc:=D.m i ZbO (λ_ F=>ZiF (CL:=c) (CJ:=a) F g J);have Ex:=D.m i Z5 (λ_ F=>ZgY (CL:=c) (CJ:=a) F g q p J);have EC:=D.m i Z_ (λ_ F=>Zce (CL:=c) (CJ:=a) F g q p ve J);have Fe:=D.d p18 (λ_ F=>Zaq (C:=d) (CL:=c) (CJ:=a) F Ih tZ tI EY);have Hf:=D.d p11 (λ_ F=>Zcf (C:=d) (CL:=c) (CJ:=a) F Et);have AV:=D.d p35 (λ_ F=>Zde F L Hg bl);have Hh:=D.d p40 (λ_ F=>Zg6 F sQ bl);have GJ:=D.d p38 (λ_ F=>ZfE F sQ GD bl);have Hm:=D.d p49 (λ_ F=>Zcj F AH bl);have GH:=D.d p27 (λ_ F=>Zby F vQ Kp A Hq bl);have FH:=D.d p31 (λ_ F=>ZaL F Il Hu bl);have GK:=D.d T (λ_ F=>ZbE F AL GI bl);have vL:=D.d p3 (λ_ F=>Zjv F sR qT bl);have yF:=D.d p4 (λ_ F=>Zjw F sR P bl);have Eo:=D.m j ZW (λ_ F=>Zfm F n P Ar bl);have u_:=D.m j ZbK (λ_ F=>ZgM F FA bl);have Fg:=D.d p21 (λ_ F=>Zg2 (C:=d) (CL:=c) (CJ:=a) F E q p Ez vc);have Fh:=D.d p22 (λ_ F=>Zas (C:=d) (CL:=c) (CJ:=a) F Hf);have Fi:=D.d p23 (λ_ F=>Zau (C:=d) (CL:=c) (CJ:=a) F r sM EZ vc);have Hj:=D.d p42 (λ_ F=>Zg8 F Hh FC bl);have Fj:=D.d p28 (λ_ F=>Zav F GH bl);have EU:=D.d p7 (λ_ F=>Zc1 F vL bl);have Gy:=D.m j Zcx (λ_ F=>ZiC F n u_ u4 Eo u5 bl);have Gz:=D.d p16 (λ_ F=>Zbm (CL:=c) (CJ:=a) F r vB oh u_);have GC:=D.d p19 (λ_ F=>Zbt (C:=d) (CL:=c) (CJ:=a) F q p A GB sM Fg Fh);have Hn:=D.d p47 (λ_ F=>Zch F GF Hi IG Hj bl);have Kq:=D.dX p30 (λ_ F=>ZfP (C:=d) (CL:=c) (CJ:=a) F ED FG Fj FH bl);have Kg:=D.j ZiS Zcu (λ_ F=>ZgI F o u9 EU yF vO bl);have vh:=D.d p15 (λ_ F=>Zbl (CL:=c) (CJ:=a) F r vB Gx Gy);have AA:=D.d p54 (λ_ F=>ZbB (C:=d) (CL:=c) (CJ:=a) F Kq vy Hv AK u t Ep bl);have Im:=D.d p8 (λ_ F=>Zc3 (C:=c) F u9 vL Kg);have EW:=D.m i ZaA (λ_ F=>Zeg (CL:=c) (CJ:=a) F g ve vg Ex vh bl);have Ff:=D.m i ZaO (λ_ F=>ZfA (CL:=c) (CJ:=a) F g o JC vg vh);have Fb:=D.m i ZaP (λ_ F=>Zfz (CL:=c) (CJ:=a) F g y EW EC);have Q:=D.m i Zal (λ_ F=>Zdb (CL:=c) (CJ:=a) F g Fb);have E1:=D.m i Zay (λ_ F=>Zeh (CL:=c) (CJ:=a) F g y Fe Q);have u7:=D.m i Za8 (λ_ F=>Zg0 (CL:=c) (CJ:=a) F g y Gz Ff Q);have FE:=D.m i Za9 (λ_ F=>Zg1 (CL:=c) (CJ:=a) F g GA Q);have F1:=D.m i ZbM (λ_ F=>Zg3 (CL:=c) (CJ:=a) F g GC u7);have F0:=D.m i ZbN (λ_ F=>Zg4 (CL:=c) (CJ:=a) F g r Fi u7);have Ik:=D.d p50 (λ_ F=>Zdj (C:=d) (CL:=c) (CJ:=a) F F0 F1);have Ho:=D.d p51 (λ_ F=>Zcm (C:=d) (CL:=c) (CJ:=a) F L Hk Hm Hn Ik E1 FE bl);have Hw:=D.d p52 (λ_ F=>Zcn (C:=d) (CL:=c) (CJ:=a) F Ho bl);exact ZiQ F sX L AV GJ xZ Hw AA GK Im IL bl
def walk{l:PySem.W.OpenLaw}{q:c9}{b:Z af}{p:(af->bw a7)->cS->Prop}{e:cX->cS->Prop}{d:DefRec}{K:Params->ah}(k:l.most=O 63)(g:d.params.defaults=[])
  (n:∀(w:cX) (h:cS),e w h->(K w.params).In h)
  (F:∀(w:cX) (B:aR) (c:U) (h:cS),(K w.params).In h->h.Ns mainGlobals B->B d.name=O (.ref c)->
   ∃fd:FuncData,(∀(s:bU) (u:a7),BindsTo s fd ⟨[u],[]⟩ [("_law_script",u)])/\∀I:cS,(K w.params).In I->I.Ns mainGlobals B->aE l.prog w (K w.params) B I (oS l.prog w) 16 c fd CK (B0 (K w.params))):
  PySem.W.WalkO q b p e l.row.toRowW d [] (λf i=>PySem.call f i):=
 L2.Zf9 k QD g ⟨rfl,QD,QD,rfl⟩ n F (λ_ _ a j m _ o=>⟨a,j,rfl,o,m,λ_=>rfl⟩) λ_ _ _ _ _ h=>by obtain⟨_,_,_,_,_,_,_,_,_,_,_,_,_,_,z⟩:=h;exact z
end ME
namespace PySem.W.Fast
def t:True:=⟨⟩
def tw7749702783648702346:=t
def tw5861114662629528686:=t
def tw648534704576209268:=t
def tw284004250783142023:=t
def tw3548580004747650750:=t
def tw5297325537979737530:=t
def tw2379953865558931833:=t
def tw9474443723212188861:=t
def tw7922883150748966184:=t
def tw5487726623610371454:=t
def tw12599304844231297188:=t
def tw15807588185699940575:=t
def tw15285890591178841038:=t
def tw787200733743138427:=t
def tw5976759013246029754:=t
def tw594874821521164580:=t
def tw13461886708581751682:=t
def tw2028442862079597931:=t
def tw6133015911058303024:=t
def tw1419738156635573633:=t
def tw4628379760103921926:=t
def tw16628671441748755661:=t
def tw1683695298307360007:=t
def tw2243681250250485390:=t
def tw4046375924398309048:=t
def tw4343088120022656210:=t
def tw17273474538315261864:=t
def tw9921003708291013664:=t
def tw3781720050366673926:=t
def tw2546262334506968963:=t
def tw6439796319004459572:=t
def tw495963583255355549:=t
def tw13671632462585501855:=t
def tw164786434499575514:=t
def tw14021116174940491010:=t
def tw16750370544540865870:=t
def tw4171701306761519223:=t
def tw14228624628219734092:=t
def tw14877752751229720583:=t
def tw4589497204203477015:=t
def tw228510850532395390:=t
def tw6989785909156296192:=t
def tw12967925393343142775:=t
def tw7638341341875456044:=t
def tw11995629492213385507:=t
def tw1185973598639616679:=t
def tw14486052355336115135:=t
def tw12966377534953694187:=t
def tw7158487064939288467:=t
def tw11217851040393253500:=t
def tw14207124008658103209:=t
def tw2946238856099626160:=t
def tw7273135090786116076:=t
def tw8061875053132691326:=t
def tw18145277810711836539:=t
def tw1069581464475121216:=t
def tw18039710713550042893:=t
def tw10187727524929204237:=t
def tw1124335204105275440:=t
def tw14446229369238396091:=t
def tw4788171222424435067:=t
def tw17645272548614455475:=t
def tw7316898218846618871:=t
def tw7089571505289825087:=t
def tw12100953843837551434:=t
def tw1420143034430824004:=t
def tw15950180327067643548:=t
def tw605563482000021701:=t
def tw16844246059153143616:=t
def tw11881974542756678944:=t
def tw13006695848259396703:=t
def tw3003923043047660681:=t
def tw14272351861019521158:=t
def tw3876948632896884473:=t
def tw9299787025533001244:=t
def tw909508234736621014:=t
def tw10998939183439002963:=t
def tw698880908585206952:=t
def tw13340041609625151871:=t
def tw15775385391682280919:=t
def tw17229587220503238379:=t
def tw16921114191701692646:=t
def tw4799150373155788739:=t
def tw3906006144991997205:=t
def tw11902559956150580000:=t
def tw2994614842645603761:=t
def tw14034623316496798141:=t
def tw13720656685249485968:=t
def tw12870162279286493480:=t
def tw17720418168729030498:=t
def tw2606581881900717291:=t
def tw9744974645656082534:=t
def tw3854414853894083492:=t
def tw14884346779755270702:=t
def tw16352696569766319416:=t
def tw3821107525491118132:=t
def tw14321630308130304084:=t
def tw10865522564310658295:=t
def tw126583200796712333:=t
def tw16541019313640649548:=t
def tw913124294516677588:=t
def tw1023921650237438253:=t
def tw17301013382538001109:=t
def tw18207353661779949333:=t
def tw17581921813709655103:=t
def tw3968718343970265180:=t
def tw16878546834931511176:=t
def tw5099870182537039680:=t
def tw16772485134590638298:=t
def tw5489440913892043159:=t
def tw14141815534356914720:=t
def tw7862411695031860725:=t
def tw17218944983072606817:=t
def tw8552421539424469802:=t
def tw12765805563212108713:=t
def tw13687554718029162626:=t
def tw5617186938568361521:=t
def tw15003201817558581065:=t
def tw15116022286205734921:=t
def tw4898591261616140923:=t
def tw2565526711639065707:=t
def tw9923091921152019954:=t
def tw18077816259984304749:=t
def tw5030353191719473236:=t
def tw14124244863004368721:=t
def tw7347306394446201433:=t
def tw3432441995106548744:=t
def tw7865344029546743745:=t
def tw2250585809505605288:=t
def tw4678105420742353510:=t
def tw8022774455921561782:=t
def tw9235113703024932338:=t
def tw10196013417327642159:=t
def tw10464222386319214965:=t
def tw12566087039083109878:=t
def tw1189318563283060756:=t
def tw17138857851681516358:=t
def tw539646716239541890:=t
def tw10207750864078902351:=t
def tw12755083533052475765:=t
def tw6744831893946665202:=t
def tw1895093877523976213:=t
def tw2634549388396962646:=t
def tw2612716253017112770:=t
def tw7370953573315157118:=t
def tw17807582766602436113:=t
def tw11956192889700678311:=t
def tw14076492919898561925:=t
def tw14720681541912801136:=t
def tw9513842215626892846:=t
def tw8808314430839047947:=t
def tw587582228257985431:=t
def tw1044589708364351441:=t
def tw8964184096640732615:=t
def tw10441090263418082163:=t
def tw6208946796092728532:=t
def tw5572692474481440902:=t
def tw1227500611442609650:=t
def tw11660217042211851539:=t
def tw2565596940840588214:=t
def tw1270048113848341806:=t
def tw1625972636563399088:=t
def tw8252543713246953925:=t
def tw10441851055156849986:=t
def tw5193338106891250083:=t
def tw9925763682383925780:=t
def tw17217267528708886975:=t
def tw6687870636863951092:=t
def tw7297310747680658121:=t
def tw4909177845996955389:=t
def tw13380085468291285017:=t
def tw18104446067084182513:=t
def tw9835774992741184785:=t
def tw12390831741363269695:=t
def tw13222947125269567354:=t
def tw11763186359208633694:=t
def tw14671396975306581068:=t
def tw8523664243855775100:=t
def tw5789276452871690665:=t
def tw6952857739422842319:=t
def tw6172159403407419652:=t
def tw11781030057715034506:=t
def tw7107551352695398882:=t
def tw7712613258997742315:=t
def tw12886907548001694958:=t
def tw6174394260026072744:=t
def tw2192979498783033287:=t
def tw297339051590515528:=t
def tw2422051980282805717:=t
def tw8569966776626994874:=t
def tw16520955226775710164:=t
def tw6775886459732935698:=t
def tw12661306649660520432:=t
def tw9339822908386861279:=t
def tw15058565090902089126:=t
def tw5645678616337810287:=t
def tw312410468895570726:=t
def tw8594784915301146639:=t
def tw18386924597785678791:=t
def tw5348882789340481686:=t
def tw10868237508604798664:=t
def tw12350392874894475487:=t
def tw12417311832888012835:=t
def tw8870854020164034249:=t
def tw6630078167924869538:=t
def tw10223445275080380662:=t
def tw2011088275244413107:=t
def tw2002851546258551565:=t
def tw5362052739194406246:=t
def tw13639091557171073949:=t
def tw6187568036332608267:=t
def tw14605645425780732246:=t
def tw3661726933025185876:=t
def tw14069675717062119012:=t
def tw16141641053429432785:=t
def tw551705292912328063:=t
def tw10752559158530447792:=t
def tw2095607688548846900:=t
def tw7882841854669538632:=t
def tw12400249557308861164:=t
def tw3411807314004336825:=t
def tw5724495116771207754:=t
def tw2982217377771901048:=t
def tw3084671203274574314:=t
def tw18402691829129019143:=t
def tw8993276930568848204:=t
def tw16808235334298548965:=t
def tw10491293985526358865:=t
def tw5123843845174661074:=t
def tw13439253220515371856:=t
def tw10597509321537354189:=t
def tw4636225677898402056:=t
def tw8714582264899719775:=t
def tw11066989398766681600:=t
def tw18182816854492072031:=t
def tw881429922290537759:=t
def tw18326054747477371535:=t
def tw2704868755354726672:=t
def tw4595904099402673651:=t
def tw3592491377783211637:=t
def tw6723314995679154759:=t
def tw3818468139932733174:=t
def tw8353441166742369148:=t
def tw536647402527374853:=t
def tw1713280492093367000:=t
def tw6811678126865939165:=t
def tw1929840896777471689:=t
def tw1476995820506699228:=t
def tw17523371291467277356:=t
def tw702873352527928572:=t
def tw15645093526960093823:=t
def tw8258425785169061249:=t
def tw15230741305007846278:=t
def tw626336712813901486:=t
def tw12441841111346764256:=t
def tw5275104590635467861:=t
def tw1697935669197567068:=t
def tw3141792441249460774:=t
def tw16635239536397900263:=t
def tw11481891789215972649:=t
def tw844208423154024914:=t
def tw17448454410761637368:=t
def tw18283781864928050286:=t
def tw2667548587979206704:=t
def tw14620092243811813254:=t
def tw12408024654119557103:=t
def tw10423636108354673560:=t
def tw1631468918740227003:=t
def tw9330927898731873254:=t
def tw9991237256297137841:=t
def tw7467693860652803548:=t
def tw2451413606532365305:=t
def tw5156305256942612098:=t
def tw17992910030316698623:=t
def tw14157481297666517927:=t
def tw1438062381725577058:=t
def tw4197915798602953711:=t
def tw18132936784606961560:=t
def tw3069361334884330714:=t
def tw14387234971666389727:=t
def tw10588838078316624626:=t
def tw9323749404532617065:=t
def tw16268579299345621553:=t
def tw6797480131780211470:=t
def tw16440480301380097396:=t
def tw15497588963168075627:=t
def tw6054667148890873373:=t
def tw10013364517972044405:=t
def tw6862586428034824000:=t
def tw12693870709429080520:=t
def tw6363812261691050576:=t
def tw898401916859830578:=t
def tw16982188029627273112:=t
def tw15975167995871242954:=t
def tw6218151896459124257:=t
def tw18203190865570085427:=t
def tw12811814678019138368:=t
def tw645984112023343860:=t
def tw2573564062610267746:=t
def tw326035415090490976:=t
def tw7467321687852665069:=t
def tw12093349988316647507:=t
def tw12765027488047587845:=t
def tw17333332178309313339:=t
def tw245281738452946532:=t
def tw10897927982915029195:=t
def tw9340399536988750813:=t
def tw2669043361806728034:=t
def tw1172306352184928455:=t
def tw10433648004408412343:=t
def tw15740411378547003126:=t
def tw9910052736933916746:=t
def tw15811657462621181542:=t
def tw12888966095586378586:=t
def tw2582705134450859863:=t
def tw16638464944656461789:=t
def tw4966546798947092705:=t
def tw11927714147046135622:=t
def tw16644631510421880783:=t
def tw18346641809983137072:=t
def tw13017491428190837548:=t
def tw9998466166550588379:=t
def tw4530591725341803037:=t
def tw12050147283774861279:=t
def tw12757554638706464628:=t
def tw7451649771700715874:=t
def tw7654661879329690279:=t
def tw3046550493477500877:=t
def tw5823528323015837405:=t
def tw1214806130833023221:=t
def tw8145630436735590792:=t
def tw9481681078326712414:=t
def tw13377904590645646044:=t
def tw876995731180389360:=t
def tw8263894047234405165:=t
def tw11757505360505614308:=t
def tw13963814443575098509:=t
def tw5043587617059141913:=t
def tw13460050286169823761:=t
def tw7170782546729779305:=t
def tw5224891676241668689:=t
def tw11274033692923478267:=t
def tw11442839119699300175:=t
def tw4923617531117684754:=t
def tw5986864823584169007:=t
def tw17412589505157264687:=t
def tw10444160007198477216:=t
def tw10025279931816312745:=t
def tw10724565222002279924:=t
def tw5135180066397878083:=t
def tw88952148115746645:=t
def tw1938223952106827471:=t
def tw15746341544116710120:=t
def tw5502884182638650053:=t
def tw14987547386962447488:=t
def tw3558524263912751264:=t
def tw17469198147915137601:=t
def tw5535830263544053729:=t
def tw12670295171313858210:=t
def tw4277455619426207235:=t
def tw10469027680010988259:=t
def tw4074516178891187107:=t
def tw7381759860773626851:=t
def tw10791728237442241287:=t
def tw502185883598772328:=t
def tw12980092092515875464:=t
def tw9681346379254319785:=t
def tw11296938672549084969:=t
def tw17875122316712800746:=t
def tw8215265850954200810:=t
def tw1689513221258412043:=t
def tw14089144148906298380:=t
def tw92577041032004268:=t
def tw7522863714031122156:=t
def tw484435918099456015:=t
def tw14863505293250845615:=t
def tw7812549832438931824:=t
def tw11216427933523910032:=t
def tw6070629621432843888:=t
def tw16951508312931867504:=t
def tw126574118163400530:=t
def tw734870515130374291:=t
def tw6734269302480434515:=t
def tw3224659824280489044:=t
def tw1173985113668138356:=t
def tw11114509260675402132:=t
def tw11412832327495518100:=t
def tw17111338897812686069:=t
def tw14197070651508708597:=t
def tw17711787547281815989:=t
def tw9728593968892809077:=t
def tw16289464390320958998:=t
def tw14063952443275987478:=t
def tw9374282773087293398:=t
def tw13233888092942429591:=t
def tw7289774468161539639:=t
def tw17861394415265821303:=t
def tw177392150969234135:=t
def tw6280858159298022808:=t
def tw14297520133187729848:=t
def tw8613493919140654584:=t
def tw15150233066262988600:=t
def tw13504480559402280121:=t
def tw15858787140033497402:=t
def tw12269947864474834875:=t
def tw14045348721625310203:=t
def tw17462313936425253756:=t
def tw7841695577071932509:=t
def tw6185822864587524253:=t
def tw5345314151728022813:=t
def tw15908238713781777598:=t
def tw17258332901043832000:=t
def tw13602488343489444761:=t
def tw17861208810850898749:=t
def tw12962111342086808069:=t
def tw12784279953982759426:=t
def tw13403839151463261274:=t
def tw3587608125782816903:=t
def tw17364347049671548973:=t
def tw16127770693898167330:=t
def tw543477444236337557:=t
def tw8235052473648084545:=t
def tw10423043366762904331:=t
def tw10635651998643545034:=t
def tw1017399811786793828:=t
def tw5076956943016925377:=t
def tw5490905054051688951:=t
def tw16642757584734297803:=t
def tw14752138175170949598:=t
def tw13100641428750829944:=t
def tw17874463062877422452:=t
def tw1975166771788182024:=t
def tw9165770047480761502:=t
def tw7810616701468001766:=t
def tw990197703806239164:=t
def tw11805765481007244033:=t
def tw8629054470382959043:=t
def tw17733981554812737770:=t
def tw2564835107552390415:=t
def tw13261913510459107644:=t
def tw11249923524113263812:=t
def tw9730155991715280250:=t
def tw10155791440689926012:=t
def tw6016331520304359234:=t
def tw10100610200736342712:=t
def tw2159368504473545747:=t
def tw4167961504983486444:=t
def tw5444396647804146849:=t
def tw12685113539165471685:=t
def tw11420580214856854069:=t
def tw8448932508534231244:=t
def tw279348453237505493:=t
def tw9896861944446123347:=t
def tw2936977327080929463:=t
def tw4030528369940487972:=t
def tw881174428513835499:=t
def tw4859457774559598971:=t
def tw511400402229928269:=t
def tw15498998614596767112:=t
def tw2661144099458048383:=t
def tw14719243429990928775:=t
def tw17447700162896110384:=t
def tw5932794365546617305:=t
def tw7665780404055478541:=t
def tw794010104953039533:=t
def tw12084767221118382933:=t
def tw9627956561055656526:=t
def tw15685100636398180183:=t
def tw10635383449693877952:=t
def tw5386772788815261798:=t
def tw11678340754492399656:=t
def tw781383167020171311:=t
def tw14923820515691893178:=t
def tw11247605860644042609:=t
def tw12514504889869477080:=t
def tw7908319181834354651:=t
def tw13634584377390748077:=t
def tw16824812211803056407:=t
def tw2409671009988702333:=t
def tw16826076766251504250:=t
def tw8034121551376445019:=t
def tw2539298119972620856:=t
def tw10438252449807764275:=t
def tw11508442186232953074:=t
def tw13421207546626790632:=t
def tw15052825930778820387:=t
def tw1562692578941239575:=t
def tw3558984960106595952:=t
def tw7897402504154218002:=t
def tw13175085530519173600:=t
def tw12505992314907430289:=t
def tw3935574843010167168:=t
def tw4356323304552411554:=t
def tw11599291829797583546:=t
def tw13597040743541061579:=t
def tw8014822558219593834:=t
def tw9594209522867094338:=t
def tw3385113120771566244:=t
def tw9599962125194423063:=t
def tw18178549848724447568:=t
def tw7643876173268057070:=t
def tw18252014061568427785:=t
def tw7352498497304674060:=t
def tw149078053995533657:=t
def tw15768959415913802454:=t
def tw4608901218085540092:=t
def tw373826383040468649:=t
def tw12111787912156593906:=t
def tw3952958115685893779:=t
def tw8689094121153527023:=t
def tw8131722996822561179:=t
def tw6746713822305465050:=t
def tw12364602611455319716:=t
def tw12314628104786802781:=t
def tw14449619431131830392:=t
def tw18269725154730654842:=t
def tw6750202474350477220:=t
def tw14663810423476808204:=t
def tw422540337338943983:=t
def tw6804938736768709783:=t
def tw11383318234498730087:=t
def tw8915676763313791823:=t
def tw2376417766826557713:=t
def tw11038781934968621030:=t
def tw13694546203025485664:=t
def tw11179165569395326399:=t
def tw7503695588451728760:=t
def tw13046937887366938019:=t
def tw5460022168013636791:=t
def tw11399795721332397888:=t
def tw5725021617545767227:=t
def tw12967163022569143390:=t
def tw8437707330140481926:=t
def tw692948816772540968:=t
def tw1408422441254604081:=t
def tw17513317878158461744:=t
def tw13962251104967920449:=t
def tw11149993061173786215:=t
def tw17198878989097109605:=t
def tw7904654756667414237:=t
def tw7559709455898787010:=t
def tw9262332524966859801:=t
def tw664560147682909721:=t
def tw17804176730861314271:=t
def tw165440091024689001:=t
def tw16796675964327447039:=t
def tw11847910519571828186:=t
def tw12051752760109923821:=t
def tw7701504351198671332:=t
def tw1365092755263381956:=t
def tw2316306613408918879:=t
def tw11510930956788842274:=t
def tw4376067286758021580:=t
def tw16809536615784684610:=t
def tw5746088947450332071:=t
def tw12295590854425078502:=t
def tw9274018756330809351:=t
def tw16646468716495954452:=t
def tw6372160392628571897:=t
def tw1924811569069998911:=t
def tw4114241037171717931:=t
def tw12323294717842053264:=t
def tw15617354873385031274:=t
def tw10697628134353198404:=t
def tw868774011691058315:=t
def tw149932549672333828:=t
def tw1620382864003143249:=t
def tw6689869534752594457:=t
def tw12337453847092986089:=t
def tw7553252681001069536:=t
def tw8927025383335452179:=t
def tw14619533285586106317:=t
def tw15969034589421096560:=t
def tw2870626891054599553:=t
def tw14228041809496576629:=t
def tw11886951197580695874:=t
def tw10613934861350731595:=t
def tw8304243657240328148:=t
def tw17741138164446933206:=t
def tw11566650209053975378:=t
def tw2939273786608442992:=t
def tw13585991734466369264:=t
def tw12914332599206552644:=t
def tw1037450703018885562:=t
def tw16038561317156599415:=t
def tw17921690669884600813:=t
def tw17306628873856107885:=t
def tw14083007474935621231:=t
def tw11877901430953840245:=t
def tw312217882192784152:=t
def tw14163313070364425814:=t
def tw9524004712480094319:=t
def tw11252956318755652085:=t
def tw12564112901221913099:=t
def tw14951042000868210934:=t
def tw4069519737984364017:=t
def tw12916185347555204433:=t
def tw4603601532286634426:=t
def tw16118441346184771992:=t
def tw7500948168401033131:=t
def tw866613284036969204:=t
def tw9255948405302240054:=t
def tw1411083225346970852:=t
def tw11645896523643195467:=t
def tw12134410422358819211:=t
def tw18192235921067016703:=t
def tw14056488591337276510:=t
def tw12957766062334326283:=t
def tw13692621359791074675:=t
def tw15072597673367246788:=t
def tw3827687557665645596:=t
def tw1995872025702504407:=t
def tw1943312070905578964:=t
def tw209687170932389190:=t
def tw17757003383942319179:=t
def tw5602834454003543285:=t
def tw3033822957731932745:=t
def tw15407694143217065097:=t
def tw754742080912816254:=t
def tw17787897583597053353:=t
def tw8505530379100150953:=t
def tw13523486863539183113:=t
def tw12552924200374538121:=t
def tw11423959228322369939:=t
def tw16393855487199124348:=t
def tw9279118318711534198:=t
def tw8116831206651555803:=t
def tw7658355659244292256:=t
def tw11509708780249278284:=t
def tw18051708048087942767:=t
def tw6979625209821755222:=t
def tw4410435339625793798:=t
def tw15213222852675439298:=t
def tw5409200129000795487:=t
def tw11960384984164677255:=t
def tw2506745379480917087:=t
def tw18125823895357717532:=t
def tw3603897834484504875:=t
def tw456359316411283708:=t
def tw13563753111149291286:=t
def tw5811814031439513577:=t
def tw16668746725189185502:=t
def tw10589045332497972107:=t
def tw15805021669480429358:=t
def tw8588050221596410065:=t
def tw3888481280204336091:=t
def tw8123033124521598132:=t
def tw16968062672614222849:=t
def tw14096196996906393990:=t
def tw9699109767695634186:=t
def tw6005451827979975218:=t
def tw5645469465629941424:=t
def tw18128095584092263928:=t
def tw15917318035472904329:=t
def tw13015100617658948073:=t
def tw11292379988526309112:=t
def tw7083053764804800104:=t
def tw13736822507540306868:=t
def tw15922985304015150464:=t
def tw13670319795094916405:=t
def tw17875722225741272392:=t
def tw17177522910348156803:=t
def tw2713622549600676684:=t
def tw1986037467015485749:=t
def tw4677710412777806641:=t
def tw2011630031360537395:=t
def tw17318464675873622131:=t
def tw12684138807260989550:=t
def tw11038263619696563993:=t
def tw5127367891252339894:=t
def tw2995241565733603253:=t
def tw11658972874139570945:=t
def tw11646492771727952589:=t
def tw5836591010986493904:=t
def tw9423222235653375631:=t
def tw13125106729315199300:=t
def tw13617807772285721068:=t
def tw3795554075468123366:=t
def tw2738515180925828809:=t
def tw16636636431003397738:=t
def tw1386417615225618164:=t
def tw3415925367713799959:=t
def tw2786746694149790237:=t
def tw16331511106448547803:=t
def tw6663670283414918636:=t
def tw14818792669734433853:=t
def tw218786035381212198:=t
def tw18048929469863689769:=t
def tw16130453218945022443:=t
def tw16125610430053664833:=t
def tw16489962170341848056:=t
def tw10905407485471940129:=t
def tw13315035326285672479:=t
def tw3444253676508719451:=t
def tw3071109441347779915:=t
def tw16075706201037063779:=t
def tw11999679502231125462:=t
def tw10499174921760588207:=t
def tw16360780990891010544:=t
def tw15979943265660332363:=t
def tw104955671367662656:=t
def tw8814823116474310824:=t
def tw8137900656148552228:=t
def tw484304949149883489:=t
def tw15163032604510323445:=t
def tw6979212977773976165:=t
def tw14344646763018977357:=t
def tw9250255848491000968:=t
def tw8325369772386578688:=t
def tw5035742918236837483:=t
def tw16171048823563527050:=t
def tw12478108745433596906:=t
def tw14689795190326442186:=t
def tw9655026150973665005:=t
def tw7533372283571088771:=t
def tw9537616665311601930:=t
def tw774234474930376004:=t
def tw4507972679749736852:=t
def tw3906360600645942551:=t
def tw18183184474449684075:=t
def tw15700788734467014962:=t
def tw12944362321287898947:=t
def tw10936180403711664313:=t
def tw10319362481003460170:=t
def tw4816239525712137774:=t
def tw8889921350838995627:=t
def tw16859306927105346651:=t
def tw17842535549607690136:=t
def tw11443611820657699753:=t
def tw10193039220279495487:=t
def tw17715778903881503374:=t
end PySem.W.Fast
open PySem PySem.W PyProof.Rows
set_option maxRecDepth 100000 in
set_option maxHeartbeats 0 in
theorem PySem.Challenge.cw_kinhearth_k41_the_least_road_holds : PySem.Challenge.rw_kinhearth_k41_the_least_road.Holds := by
 w_on; o_law; k_head; (case hw=>w_witness2)
 k_fill
 refine ME.walk (l:=PySem.Challenge.rw_kinhearth_k41_the_least_road) rfl rfl (λ w h Y=>kIn_of Y) ?F
 case F=>
  intro w mg fa h KX G zt
  apply ME.all_mk KX G zt <;> repeat' first | k_is | (show _=_; k_is) | kernel_rfl | constructor

