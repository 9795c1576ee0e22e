import PyProof.Rows.All
import Wide.All
import OpenK.AllK
import Wide.FinOn
import Lean
import PyProof.EqAt
import PyProof.EqKinds
import PyProof.TupleCall
import PyProof.NeKinds
import PyProof.ConsumeWalk
import PyProof.ListRange
import PyProof.TupleOfSeq
import PyProof.Rows.SortWalk
import PyProof.CompFree
import PySem.Challenge.RW_kinhearth_k26_taken_out_as_never_told
set_option Elab.async false
set_option linter.all false
set_option maxRecDepth 100000
set_option maxHeartbeats 4000000
abbrev ah:=PySem.W.Frag
abbrev bo:=PySem.Value->PySem.Shared->Prop
abbrev a8:=List (PySem.Addr×PySem.Obj)
abbrev aU:=PySem.Str->Option PySem.Value
open PySem
abbrev U:=@Option.some
abbrev aJ:=@Option.none
abbrev af:=true
abbrev a7:=false
abbrev Z:=List
abbrev O:=Addr
abbrev aY:=Value
abbrev bt:=Shared
abbrev bq:=Option
abbrev cZ:=Program
abbrev cN:=World
abbrev cj:=Stmt
abbrev cI:=Heap
abbrev eL:=Around
abbrev cW:=Array
abbrev cm:=Bool
abbrev ar:=Str
abbrev cu:=Expr
open PySem.W (instObj methodObj lookIn plainGet hasDictIn handedIn plainGet_of findObj_own isFn plainOver takerIn set_plain any_some makesIn typeIn emptyDict keepIn specialIn takesIn kitOne kia_one kitx_list kitx_dict callWith_K methodCall_KW cellsFrom_some fnOf codeIn notCls check_slot KitX osa_eq kitCls findCls subIn nsIn mg_of kIn_of)
open PySem.F (slot_tuple_add excBase_ValueError slot_dict_delitem slot_dict_pop slot_dict_get entry_dict_get plainAttrs_dict type_dict_get plainAttrs_list)
def Ya:=@List.length_map
def Yb:=@Heap.get?_push_of_some
def Yc:=@List.getElem?_eq_getElem
def Yd:=@Nat.le_refl
def Ye:=@List.mem_map
def Yf:=@List.getElem?_map
def Yg:=@List.getD_eq_getElem?_getD
def Yh:=@List.mem_of_getElem?
def Yi:=@Bool.false_ne_true
def Yj:=@List.length_append
def Yk:=@List.mem_cons_self
def Yl:=@List.getElem?_eq_some_iff
def Ym:=@Option.some.inj
def Yn:=@List.mem_singleton
def Yo:=@List.map_append
def Yp:=@Heap.get?_push_size
def Yq:=@List.size_toArray
def Yr:=@Heap.lt_size
def Ys:=@List.mem_cons
def Yt:=@List.mem_append_left
def Yu:=@List.mem_append_right
def Yv:=@List.mem_append
def Yw:=@List.mem_cons_of_mem
def Yx:=@Nat.zero_le
def Yy:=@Nat.ne_of_lt
def Yz:=@Nat.le_trans
def Y0:=@List.nodup_cons
def Y1:=@List.take_add_one
def Y2:=@Nat.lt_of_lt_of_le
def Y3:=@List.not_mem_nil
def Y4:=@List.getElem?_eq_none
def Y5:=@List.mem_filter
def Y6:=@Int.toNat_natCast
def Y7:=@List.map_map
def Y8:=@List.length_take
def Y9:=@List.take_length
def Wa:=@List.getElem?_append_left
def Wb:=@Array.getD_eq_getD_getElem?
def Wc:=@Heap.get?_update_other
def Wd:=@Nat.lt_irrefl
def We:=@Bool.eq_iff_iff
def Wf:=@List.append_nil
def Wg:=@List.length_cons
def Wh:=@List.ext_getElem?
def Wi:=@Sum.inr.inj
def Wj:=@List.mem_range
def Wk:=@List.nodup_iff_pairwise_ne
def Wl:=@List.pairwise_map
def Wm:=@List.filter_append
def Wn:=@List.length_filter_le
def Wo:=@List.map_congr_left
def Wp:=@Bool.and_eq_true
def Wq:=@List.map_cons
def Wr:=@List.nodup_append
def Ws:=@Nat.le_succ_of_le
def Wt:=@Int.emod_lt_of_pos
def Wu:=@Nat.not_lt_zero
def Wv:=@List.all_eq_true
def Ww:=@List.filter_cons
def Wx:=@Array.length_toList
def Wy:=@Heap.get?_update_self
def Wz:=@Nat.lt_succ_of_lt
def W0:=@List.mem_iff_getElem
def W1:=@List.take_of_length_le
def W3:=@Bool.eq_false_iff
def W5:=@Array.getElem?_eq_getElem
def W7:=@List.pairwise_iff_getElem
def W8:=@List.length_replicate
def W9:=@Int.emod_nonneg
def Ja:=@List.lookup_cons
def Jb:=@List.nodup_nil
def Jc:=@List.filterMap_cons
def Jd:=@List.length_set
def Je:=@List.length_zip
def Jf:=@Nat.lt_succ_self
def Jg:=@Nat.ne_of_gt
def Jh:=@List.any_cons
def Ji:=@Nat.lt_of_le_of_lt
def Jj:=@Option.isSome_iff_exists
def Jk:=@Heap.get?_push_ne
def Jl:=@List.filter_congr
def Jm:=@List.all_cons
def Jn:=@List.length_reverse
def Jo:=@List.getElem_mem
def Jp:=@Heap.size_push
def Jq:=@List.mem_filterMap
def Jr:=@List.filter_filter
def Js:=@Nat.le_of_lt
def Jt:=@Array.getElem?_toList
def Ju:=@Nat.le_of_ble_eq_true
def Jv:=@List.any_eq_false
def Jw:=@List.append_assoc
def Jx:=@List.getElem?_append_right
def Jy:=@Array.getElem?_eq_some_iff
def Jz:=@Array.perm_iff_toList_perm
def J0:=@List.perm_ext_iff_of_nodup
def J1:=@List.any_eq_true
def J3:=@Nat.le_succ
def J7:=@List.filter_eq_self
def J8:=@Int.toNat_of_nonneg
def J9:=@List.filter_cons_of_pos
def D3:=@List.filter_map
def AE:=@Bool.true_and
def Em:=@Bool.or_eq_true
def V8:=@Array.getElem?_eq_none
def LX:=@List.length_range
def Mf:=@List.reverse_cons
def xP:=@Sum.inl.inj
def Aj:=@Int.zero_add
def Xh:=@List.Pairwise.and_mem
def M4:=@List.length_drop
def Vr:=@List.getElem?_set_ne
def YD:=@Bool.or_eq_false_iff
def DE:=@Bool.false_or
def VY:=@Heap.get?_update_ne
def LW:=@List.find?_cons
def Xn:=@List.getElem?_range
def Xv:=@List.filter_sublist
def WX:=@List.zip_cons_cons
def VF:=@List.take_sublist
def V7:=@Option.isSome_map
def V4:=@List.cons_append
def Xk:=@List.mem_flatMap
def YU:=@List.map_reverse
def YV:=@List.mem_reverse
def LI:=@Nat.le_of_eq
def VD:=@List.of_mem_zip
def LU:=@Int.ne_of_gt
def VQ:=@List.length_nil
def Mi:=@List.all_map
def WL:=@List.nil_append
def Nj:=@Nat.succ_pos
def eH:=@Nat.lt_of_le_of_ne
def fb:=@Nat.le_of_lt_succ
def gM:=@Nat.le_of_not_lt
def dI:=@Nat.le_trans
def iy:=@Nat.lt_of_lt_of_le
def i1:=@Nat.le_antisymm
def lJ:=@Nat.lt_of_le_of_lt
def lK:=@Nat.le_succ_of_le
def mz:=@Nat.succ_le_of_lt
def jG:=@Nat.mod_lt
def nh:=@Nat.lt_succ_of_lt
def l9:=@Int.ofNat.inj
def mD:=@Nat.le_of_eq
def qd:=@Int.toNat_of_nonneg
def rZ:=@decide_eq_true_iff
def qp:=@Int.natCast_nonneg
def i2:=@if_pos
def nq:=@Nat.lt_trans
def nJ:=@Nat.le_refl
def k8:=@Eq.symm
def nS:=@PySem.wpAny_bind
def lg:=@if_neg
def r0:=@Nat.lt_succ_self
def sq:=@Nat.le_add_right
def oV:=@PySem.wpAny_pure
def qG:=@Nat.succ_pos
def qH:=@Nat.le_of_lt
def tD:=@Nat.le_add_right_of_le
def tP:=@Nat.lt_succ_of_le
def t5:=@Nat.add_sub_of_le
def x8:=@Nat.succ_le_succ
def x9:=@decide_eq_false
def WB:=@Array.size_setIfInBounds
def ua:=@Nat.add_zero
def WC:=@Nat.add_le_add_left
def WD:=@PySem.F.excBase_ValueError
def yJ:=@Nat.pos_of_ne_zero
def WE:=@List.filterMap_map
def yK:=@PySem.wpAny_loadPart_at
def y0:=@Nat.ne_zero_of_lt
def zi:=@Nat.le_of_succ_le
def WG:=@Array.getElem_mem
def zj:=@Nat.min_le_right
def zl:=@Nat.lt_add_right
def zt:=@PySem.codeAny_builtin
def WH:=@decide_eq_true
def QO{p:Prop}(h:p:=by omega):p:=h
def QS{p:Prop}(h:p:=by simp):p:=h
def QD{p:Prop}(h:p:=by decide):p:=h
def QU{p:Prop}(h:p:=by with_unfolding_all rfl):p:=h
def QR{p:Prop}(h:p:=by rfl):p:=h
def QK{p:Prop}(h:p:=by decide+kernel):p:=h
def QJ{p:Prop}(h:p:=by kernel_rfl):p:=h
def QG{p:Prop}(h:p:=by grind):p:=h
def QA{p:Prop}(h:p:=by simp_all):p:=h
def bp:=@PySem.wpAny_bind
def cD:=@PySem.wpAny_pure
def bS:=@if_pos
def bR:=@if_neg
def dg:=@decide_eq_true
def eJ:=@decide_eq_true_iff
def eK:=@of_decide_eq_true
def c4:=@PySem.sizeLine_eq
def g_:=@decide_eq_false
def dk:=@PySem.wpAny_mono
def hI:=@PySem.PassesOwn.never
def dC:=@congrArg
def lU:=@PySem.F.type_list_append
def l4:=@PySem.F.slot_list_append
def jd:=@PySem.wpAny_holding
def l_:=@PySem.Calls.callWith_builtin
def kj:=@PySem.F.plainAttrs_list
def me:=@PySem.wpAny_loadPart_at
def hY:=@True.intro
def hP:=@or_false
def mh:=@PySem.wpAny_truthy_bool
def mR:=@PySem.wpAny_newObj_type
def lp:=@PySem.wpAny_standAt
def gR:=@Or.inl
def pj:=@PySem.wpAny_isSubtype_exc
def nV:=@PySem.tupleKind_room_in1
def n5:=@PySem.Calls.spliced_cons
def lr:=@PySem.wpAny_field
def mr:=@PySem.codeAny_mono
def pz:=@PySem.Calls.evalArgs_plain
def mu:=@PySem.strLen_append
def n7:=@PySem.wpAny_call_entry
def my:=@PySem.call_meetsIn
def sE:=@PySem.F.excBase_ValueError
def oo:=@PySem.wpAny_passesOwn
def jm:=@Ne.symm
def q7:=@PySem.mem_of_lookup
def sF:=@PySem.wpAny_comprehension_free
def pA:=@PySem.F.plainAttrs_dict
def q9:=@PySem.wpAny_Call_Name_kw
def q_:=@PySem.SeqAt.EqAt.int_int
def iC:=@not_or
def rb:=@PySem.Calls.spliced_nil
def uk:=@PySem.plainObj_wpAny_Assign_Attribute
def mW:=@PySem.wpAny_call
def kM:=@PySem.W.kia_one
def pI:=@PySem.F.slot_dict_get
def sH:=@PySem.Obj.data_mapDictKeys
def kv:=@Or.inr
def iu:=@PySem.W.mg_of
def ri:=@PySem.wpAny_setField
def rj:=@List.Perm.refl
def um:=@PySem.Calls.call_function_entry
def sN:=@PySem.wpAny_pyIter_list
def sT:=@PySem.wpAny_Call_method
def sU:=@PySem.F.slot_dict_delitem
def rn:=@PySem.W.methodCall_KW
def uu:=@PySem.wpAny_Call_method0_late
def pJ:=@PySem.typeIs_str
def pK:=@PySem.W.callWith_K
def sV:=@PySem.wpAny_execs_nil
def sX:=@and_congr_right
def uJ:=@PySem.Obj.isFreed_of_fields
def s_:=@PySem.wpAny_loadPart
def tc:=@PySem.F.entry_dict_get
def uO:=@PySem.codeAny_call_builtin
def uP:=@PySem.evalArgs_none
def th:=@PySem.wpAny_newList
def zu:=@PySem.F.slot_dict_itemiterator_iter
def ro:=@PySem.call_meets
def uR:=@PySem.wpAny_pyIter_tuple
def uS:=@PySem.Obj.data_mapFields
def uT:=@bne_self_eq_false
def uV:=@PySem.Within.cons
def zA:=@PyProof.Rows.slot_tuple_getitem
def rz:=@And.intro
def uW:=@PySem.wpAny_lookBehind
def u6:=@PySem.pastItsLine_dict
def zB:=@PyProof.Rows.callWith_builtin1
def u7:=@PySem.wpAny_tests_nil
def u9:=@Array.Perm.refl
def zC:=@PySem.F.slot_dict_setdefault
def zM:=@PySem.F.args_dict_delitem_2
def zN:=@PyProof.Rows.callWith_type1
def tq:=@PySem.wpAny_rule
def vi:=@Nat.mul_le_mul
def vj:=@List.take_zero
def zQ:=@PySem.SeqAt.RcNeAt.lists_lengths
def zR:=@PySem.F.entry_dict_delitem
def zS:=@PySem.Calls.Name_function_global
def WJ:=@PySem.rangeSize_one
def vl:=@Int.mul_assoc
def vm:=@Bool.or_false
def zT:=@PySem.wpAny_getItem_list_slice
def zU:=@PySem.F.slot_dict_values
def zY:=@PySem.F.args_tuple_add_2
def z5:=@List.getElem?_take_of_lt
def z6:=@List.Perm.eq_of_pairwise
def WK:=@Array.size_setIfInBounds
def z9:=@PySem.wpAny_callSpecial?_slot
def Ac:=@PySem.SeqAt.eq_list_lengthsAt
def Ad:=@PySem.F.slot_dict_items
def Ai:=@PySem.F.entry_tuple_add
def Ak:=@PySem.F.args_dict_get_3
def Ar:=@PySem.F.args_dict_get_2
def vr:=@PySem.wpAny_nsSet1
def vt:=@PySem.seqIndex_neg
def wd:=@PySem.codeAny_loop
def wh:=@List.map_nil
def As:=@PySem.wpAny_delete_Subscript
def AM:=@PySem.wpAny_Call_method_late
def AO:=@PySem.wpAny_Assign_Subscript
def AV:=@List.getElem?_set_self
def B1:=@PySem.wpAny_notOrdered_dict
def B2:=@PySem.wpAny_isTrue_Compare1
def Cr:=@PySem.wpAny_deleteEach_cons
def WM:=@congr
def tr:=@PySem.W.any_some
def w_:=@PySem.wpAny_noted
def xc:=@PySem.wpAny_letGo
def xp:=@PySem.seqIndex_of
def xy:=@PySem.W.plainGet_of
def Ct:=@PySem.wpAny_updateDictKeys
def CN:=@PySem.wpAny_loadName_local
def CQ:=@PySem.wpAny_deleteEach_nil
def Di:=@PySem.lookup_relabel_local
def Dm:=@List.replicate_succ'
def Dn:=@List.mem_of_mem_take
def Dp:=@List.getElem_toArray
def Dq:=@PySem.Heap.get?_none_of_le
def Dx:=@Array.toArray_toList
def Dy:=@PySem.wpAny_loadName_cell
def DK:=@PySem.wpAt_of_wpAny
def DP:=@PySem.Obj.isFreed_of_dict
def WN:=@Nat.add_le_add_left
def D8:=@PySem.Heap.SameBut.update
def xB:=@PySem.wpAny_Name
def Eg:=@PySem.wpAny_delItem_slot
def Eh:=@PySem.wpAny_List_spliced
def Eo:=@PySem.findBy_of_findIdx?
def G2:=@PySem.SeqAt.RcNeAt.lists
def WO:=@PySem.SeqAt.EqAt.str_int
def Xl:=@PySem.SeqAt.EqAt.int_str
def JG:=@List.zip_nil_right
def Xo:=@List.filterMap_map
def JH:=@PySem.Heap.IsSliceOf.new
def J5:=@PySem.F.slot_tuple_index
def Xu:=@PySem.Code.quiet_builtin
def J6:=@Bool.false_eq_true
def KZ:=@PySem.wpAny_sequenceKey
def K7:=@PySem.wpAny_dictEntries
def LS:=@PySem.wpAny_collect_seq
def LZ:=@PySem.wpAny_assign_Name
def Mb:=@PySem.slot_dict_getitem
def Mm:=@PySem.richCompare_gives
def Mn:=@not_false_eq_true
def MH:=@decide_eq_true_eq
def MM:=@List.Pairwise.nil
def MN:=@Int.emod_eq_of_lt
def MO:=@PySem.Heap.Ns1.of_empty
def Xw:=@Array.getElem_mem
def Xx:=@PySem.small_one
def YE:=@PySem.wpAny_madeBy_exc
def MP:=@PySem.wpAny_execs_cons
def M_:=@PySem.wpAny_Dict_empty
def Nl:=@PySem.noFill_tuple_add
def YF:=@Nat.succ_le_succ
def Pe:=@Nat.le_of_not_lt
def Pw:=@List.nodup_range
def SF:=@PySem.Heap.size_update
def YG:=@PySem.wpAny_loadPart'
def TF:=@PySem.codeAny_of_tree
def Qb8:=@PySem.codeAny_builtin
def Ug:=@PySem.SeqAt.in_listAt
def UA:=@PySem.SeqAt.eq_listAt
def UJ:=@PySem.SeqAt.EqAt.same
def UK:=@PySem.wpAt_bind
def UL:=@Option.map_some
def UT:=@List.range_succ
def Vk:=@Int.natCast_add
def xE:=@if_false
def Vp:=@PySem.wpAny_Compare1
def Vq:=@PySem.F.slot_tuple_add
def VE:=@PySem.refuseLoop_ref
def VG:=@PySem.W.cellsFrom_some
def VH:=@Bool.false_and
def VI:=@Array.size_map
def fI:=@Nat.lt_of_le_of_lt
def hT:=@Nat.lt_of_lt_of_le
def d6:=@Nat.le_trans
def kS:=@Nat.le_of_eq
def ot:=@Nat.succ_le_of_lt
def m6:=@Nat.le_of_lt
def m_:=@Nat.add_le_add
def xM:=@Nat.add_le_add_left
def VJ:=@Nat.lt_succ_of_lt
def xQ:=@Nat.min_le_right
def VT:=@Nat.succ_pos
def x6:=@Nat.min_le_left
def Qdi:=@PySem.F.excBase_ValueError
def Qdj:=@Array.size_setIfInBounds
def Qdk:=@PySem.wpAny_loadPart_at
def VX:=@Int.ne_of_gt
def Qdm:=@PySem.codeAny_builtin
def Qdn:=@Int.toNat_of_nonneg
def Qdo:=@decide_eq_true_iff
def Qdp:=@List.filterMap_map
def Qdq:=@Nat.le_succ_of_le
def Qdr:=@Array.getElem_mem
def Qds:=@PySem.wpAny_pure
def Qdt:=@PySem.wpAny_bind
def Qdu:=@Nat.succ_le_succ
def V0:=@Nat.not_lt_of_le
def Qdw:=@Nat.lt_succ_self
def YM:=@Nat.lt_add_right
def Qdy:=@Nat.le_of_not_lt
def Qdz:=@decide_eq_false
def V1:=@Nat.le_add_left
def V2:=@Nat.div_le_self
def QdC:=@decide_eq_true
namespace L2
open PySem PySem.Spec PyProof.Rows
abbrev Key:=Sum Int ar
def t9:Key->aY->cm
 |.inl k,v=>Value.isInt k v
 |.inr x,v=>Value.isStrOf x v
def YN(w:cN):Key->Int
 |.inl k=>hashInt k
 |.inr x=>hashStr w x
theorem ng:∀{k:Key} {v:aY},t9 k v=af->(∃i t,k=Sum.inl i/\v=Value.int i t)\/(∃x t,k=Sum.inr x/\v=Value.str x t)
 |.inl i,v,h=>by
  obtain⟨t,e⟩:=Value.isInt_shape h
  simp_all
 |.inr x,v,h=>by
  obtain⟨t,e⟩:=Value.isStrOf_shape h
  simp_all
def YP(i:Int)(t:Tok):t9 (.inl i) (.int i t)=af:=by simp[t9,Value.isInt]
def ZcO(x:ar)(t:Tok):t9 (.inr x) (.str x t)=af:=by simp[t9,Value.isStrOf]
def ZgJ(a b:Int):decide ((Sum.inl a:Key)=Sum.inl b)=(a==b):=by
 grind
def ZgK(a b:ar):decide ((Sum.inr a:Key)=Sum.inr b)=decide (a=b):=by
 simp_all
def ZgL(a:Int)(b:ar):decide ((Sum.inl a:Key)=Sum.inr b)=a7:=g_ (λq=>nomatch q)
def ZgM(a:ar)(b:Int):decide ((Sum.inr a:Key)=Sum.inl b)=a7:=g_ (λq=>nomatch q)
def dW(c:cZ)(w:cN):PySem.KeyKind c w Key where
 is:=t9
 hash:=YN w
 inj:=λv a b m g=>by
  rcases ng m with⟨i,t,rfl,rfl⟩|⟨x,t,rfl,rfl⟩
  ·rcases ng g with⟨j,u,rfl,e⟩|⟨y,u,rfl,e⟩;·injection e with d _;rw[d]
   ·exact nomatch e
  ·rcases ng g with⟨j,u,rfl,e⟩|⟨y,u,rfl,e⟩;·exact nomatch e
   ·injection e with d _;rw[d]
 byValue:=λk v h=>by
  rcases ng h with⟨i,t,rfl,rfl⟩|⟨x,t,rfl,rfl⟩<;>rfl
 pyHash:=λf h=>by
  rcases ng f with⟨i,t,rfl,rfl⟩|⟨x,t,rfl,rfl⟩;·exact wpAny_pyHash_int h
  ·exact wpAny_pyHash_str h
 eqBool:=λl f h=>by
  rcases ng l with⟨i,t,rfl,rfl⟩|⟨x,t,rfl,rfl⟩
  ·rcases ng f with⟨j,u,rfl,rfl⟩|⟨y,u,rfl,rfl⟩;·rw[ZgJ] at h;exact wpAny_eqBool_int h
   ·rw[ZgL] at h;exact SeqAt.EqAt.int_str i t y u _ _ _ _ h
  ·rcases ng f with⟨j,u,rfl,rfl⟩|⟨y,u,rfl,rfl⟩;·rw[ZgM] at h;exact SeqAt.EqAt.str_int x t j u _ _ _ _ h
   ·rw[ZgK] at h;exact wpAny_eqBool_str h
 «strs»:=λk x t v h=>by
  rcases ng h with⟨i,u,rfl,e⟩|⟨y,u,rfl,e⟩;·exact nomatch e
  ·injection e with d _;subst d;cases v<;>rfl
def Za8(a:cZ)(w:cN)(i:Int)(t:Tok):(dW a w).is (.inl i) (.int i t)=af:=YP i t
def Za9(a:cZ)(w:cN)(x:ar)(t:Tok):(dW a w).is (.inr x) (.str x t)=af:=ZcO x t
inductive V where
 |ay|bl (b:cm)|int (i:Int)|str (x:ar)|kI (b:cW UInt8)|uF (b:UInt64)|ref (a:O)|ty (n:String)
 deriving DecidableEq
def RelV:V->aY->Prop
 |.ay,u=>u=Value.none
 |.bl b,u=>u=Value.bool b
 |.int i,u=>∃t,u=Value.int i t
 |.str x,u=>∃t,u=Value.str x t
 |.kI b,u=>∃t,u=Value.bytes b t
 |.uF b,u=>∃t,u=Value.float b t
 |.ref a,u=>u=Value.ref a
 |.ty n,u=>u=Value.type n
abbrev Vals:Z V->Z aY->Prop:=Paired RelV
def Vals.length(r:Vals xs us):xs.length=us.length:=Paired.length r
theorem Vals.get:∀{a:Z V} {b:Z aY} {i:Nat} {x:V},Vals a b->a[i]?=U x->∃u,b[i]?=U u/\RelV x u
 |_,_,_,_,.nil,e=>by simp at e
 |_,_,0,_,.cons r _,e=>by simp at e;subst e;exact⟨_,rfl,r⟩
 |_,_,i+1,x,.cons _ t,e=>by
  obtain⟨u,d,c⟩:=Vals.get t (by simpa using e)
  simp_all
theorem Vals.set{x:V}{u:aY}(r:RelV x u):∀{a:Z V} {b:Z aY} (i:Nat),Vals a b->Vals (a.set i x) (b.set i u)
 |_,_,_,.nil=>.nil
 |_,_,0,.cons _ t=>.cons r t
 |_,_,i+1,.cons q t=>.cons q (Vals.set r i t)
theorem Vals.append:∀{b a:Z V} {d c:Z aY},Vals b d->Vals a c->Vals (b++a) (d++c):=by
 intro b a d c h f;induction h with
 |nil=>exact f
 |cons r t e=>exact .cons r e
theorem Vals.take:∀{a:Z V} {b:Z aY} (n:Nat),Vals a b->Vals (a.take n) (b.take n)
 |_,_,0,_=>.nil
 |_,_,_+1,.nil=>.nil
 |_,_,n+1,.cons r t=>.cons r (Vals.take n t)
theorem Vals.drop:∀{a:Z V} {b:Z aY} (n:Nat),Vals a b->Vals (a.drop n) (b.drop n)
 |_,_,0,r=>r
 |_,_,_+1,.nil=>.nil
 |_,_,n+1,.cons _ t=>Vals.drop n t
def fw:bq V->bq aY->Prop
 |some v,some u=>RelV v u
 |none,none=>True
 |_,_=>False
def KV{a:Type}:Z (a×V)->Z (a×aY)->Prop:=Paired λ(p:a×V) (q:a×aY)=>p.1=q.1/\RelV p.2 q.2
def kV:Key->V
 |.inl i=>.int i
 |.inr x=>.str x
inductive HO where
 /--a list-/
 |lst(d:Z V)
 /--a tuple(never changes)-/
 |tup(d:Z V)
 /--a dict Zii keys are ints and texts;one Zii keys are tuples of ints and texts(qw empty one is both)-/
 |dK(c:Z (Key×V))|dT(c:Z (Z Key×V))
 /--a set of ints:ai members,ai size-/
 |set (b:Int->cm) (n:Nat)
 /--an instance of qw class at C,ai dict at g,ai attributes-/
 |ins (C g:O) (fs:Z (ar×V))
 /--qw dict of qw instance at x-/
 |own (x:O)
 /--qw dict of an exception-/
 |xd (fs:Z (ar×V))
 /--a bound method,f of x-/
 |met (f x:O)
 /--a range object lo,lo+1,.. below e-/
 |jA (lo e:Int)
 /--a Zij ZlA is known to qw object (qw RM;a dict while a loop walks it):read,never written while it is so-/
 |bU (o:Obj) (u:HO)
 /--a code Zlo table-/
 |oS (j:cW aY)
 /--any other Zij,by Zi_ is af of ai one object (a def of Zlw own:ZlB a b n:=HO.ext λh=>..)-/
 |ext (i:cI->Prop)
abbrev Hp:=O->bq HO
def upd(H:Hp)(a:O)(o:HO):Hp:=λb=>if b=a then U o else H b
def aQ:upd H a o a=U o:=by unfold upd;rw[bS rfl]
def aA(h:b≠a):upd H a o b=H b:=by unfold upd;rw[bR h]
def IE:upd (upd H a o) a u=upd H a u:=by
 funext b;unfold upd;split<;>rfl
def S8{H:Hp}(h:H a=U o)(c:H b=U u)(d:o≠u):a≠b:=by
 intro e;subst e;rw[h] at c;exact d (Ym c)
def cA{H:Hp}(h:H a=U o)(c:H b=aJ):a≠b:=by
 grind
section
variable (P:cZ)(w:cN)
def mE(h:cI)(a:O)(b:cW aY):Prop:=∃o,h.get? a=U o/\o.cls=.type "tuple"/\∃n,o.data=.seq b n/\o.dict=aJ
def mE.tup(x:mE h a items):IsTup h a items:=let⟨o,e,c,n,d,_⟩:=x;⟨o,e,c,n,d⟩
def mE.lt(x:mE h a items):a<h.objs.size:=x.tup.lt
def mE.new(h:cI)(items:cW aY):mE (h.push {cls:=.type "tuple",data:=.seq items}) h.objs.size items:=⟨_,Yp _ rfl,rfl,_,rfl,rfl⟩
def cH(H:Hp)(h:cI)(a:O):HO->Prop
 |.lst b=>b.length<=sizeLine/\∃(d:Z aY) (n:Nat),Vals b d/\h.get? a=U {cls:=.type "list",data:=.seq d.toArray n}
 |.tup b=>b.length<=sizeLine/\∃d:Z aY,Vals b d/\mE h a d.toArray
 |.dK kvs=>kvs.length<=sizeLine/\(a==sysModules)=a7/\∃e,KV kvs e/\h.DictOf (dW P w) a e
 |.dT kvs=>kvs.length<=sizeLine/\(a==sysModules)=a7/\∃b:Z (Z Key×O×aY),
   Paired (λ(p:Z Key×V) (q:Z Key×O×aY)=>p.1=q.1/\H q.2.1=U (.tup (p.1.map kV))/\RelV p.2 q.2.2) kvs b/\
   ∃o j k,h.get? a=U o/\o.ExactDict/\o.data=.dict j k/\j.toList=b.map (entryOfKey (tupleKind (dW P w)))/\(b.map (·.1)).Nodup
 |.set S n=>h.SetOf (intKind P w) a S n
 |.ins C dx fs=>H dx=U (.own a)/\fs.length<=1000/\dx≠a/\h.get? a=U (instObj C dx)/\
   ∃c,h.Ns1 dx c/\(∀f,fw (fs.lookup f) (c f))/\PySem.Within c (fs.map (·.1))
 |.own _=>∃o,h.get? a=U o
 |.xd fs=>∃c,h.Ns1 a c/\∀f,fw (fs.lookup f) (c f)
 |.jA lo hi=>∃t u v,h.get? a=U {cls:=.type "range",data:=.fields #[.int lo t,.int hi u,.int 1 v]}
 |.bU o u=>h.get? a=U o/\cH H h a u
 |.oS ps=>h.get? a=U {cls:=.none,data:=.fields ps}
 |.met f x=>h.get? a=U (methodObj (.ref f) (.ref x))
 |.ext φ=>φ h/\(∃o,h.get? a=U o)/\∀i g:cI,φ i->(∀o,i.get? a=U o->g.get? a=U o)->φ g
def dz(H:Hp)(h:cI):Prop:=∀a o,H a=U o->cH P w H h a o
end
theorem cH.lt(x:cH P w H h a o):a<h.objs.size:=by
 cases o with
 |lst xs=>obtain⟨_,_,_,_,e⟩:=x;exact Yr e
 |tup xs=>obtain⟨_,_,_,p⟩:=x;exact p.lt
 |dK b=>obtain⟨_,_,_,_,o,_,_,e,_⟩:=x;exact Yr e
 |dT b=>obtain⟨_,_,_,_,o,_,_,e,_⟩:=x;exact Yr e
 |set S n=>obtain⟨o,_,_,_,e,_⟩:=x;exact Yr e
 |ins C j fs=>obtain⟨_,_,_,e,_⟩:=x;exact Yr e
 |own y=>obtain⟨_,e⟩:=x;exact Yr e
 |xd fs=>obtain⟨_,⟨_,_,_,e,_⟩,_⟩:=x;exact Yr e
 |jA lo i=>obtain⟨_,_,_,e⟩:=x;exact Yr e
 |bU g u=>obtain⟨e,_⟩:=x;exact Yr e
 |oS d=>exact Yr (x)
 |met f y=>exact Yr (x)
 |ext c=>obtain⟨_,⟨_,e⟩,_⟩:=x;exact Yr e
theorem Paired.bL{e d:Type}{F G:e->d->Prop}:∀{c:Z e} {l₂:Z d},Paired F c l₂->(∀a b,F a b->G a b)->Paired G c l₂:=by
 intro c l₂ h f;induction h with
 |nil=>exact .nil
 |cons r t g=>exact .cons (f _ _ r) g
theorem cH.i_(x:cH P w H h a o)(k:∀b u,(b=a\/H b=U (.own a))->h.get? b=U u->J.get? b=U u)
  (I:∀b,H b=U (.own a)->D b=U (.own a))(G:∀b l,H b=U (.tup l)->D b=U (.tup l)):cH P w D J a o:=by
 induction o with
 |lst l=>obtain⟨z,B,n,r,e⟩:=x;exact⟨z,B,n,r,k _ _ (.inl rfl) e⟩
 |tup l=>obtain⟨z,B,r,g,e,c⟩:=x;exact⟨z,B,r,g,k _ _ (.inl rfl) e,c⟩
 |dK A=>obtain⟨z,y,E,r,g,i,j,e,c⟩:=x;exact⟨z,y,E,r,g,i,j,k _ _ (.inl rfl) e,c⟩
 |dT A=>
  obtain⟨z,y,l,r,g,i,j,e,c⟩:=x;exact⟨z,y,l,Paired.bL r λp q z=>⟨z.1,G _ _ z.2.1,z.2.2⟩,g,i,j,k _ _ (.inl rfl) e,c⟩
 |set S n=>obtain⟨g,i,j,t,e,c⟩:=x;exact⟨g,i,j,t,k _ _ (.inl rfl) e,c⟩
 |ins C T fs=>
  obtain⟨d,z,ne,e,s,⟨m,i,j,L,c⟩,r⟩:=x;exact⟨I _ d,z,ne,k _ _ (.inl rfl) e,s,⟨m,i,j,k _ _ (.inr d) L,c⟩,r⟩
 |own y=>obtain⟨g,e⟩:=x;exact⟨g,k _ _ (.inl rfl) e⟩
 |xd fs=>obtain⟨s,⟨m,i,j,e,c⟩,r⟩:=x;exact⟨s,⟨m,i,j,k _ _ (.inl rfl) e,c⟩,r⟩
 |jA lo R=>obtain⟨t,u,v,e⟩:=x;exact⟨t,u,v,k _ _ (.inl rfl) e⟩
 |bU g u F=>obtain⟨e,q⟩:=x;exact⟨k _ _ (.inl rfl) e,F q⟩
 |oS Q=>
  have e:=x;exact k a _ (.inl rfl) e
 |met f y=>
  have e:=x;exact k a _ (.inl rfl) e
 |ext N=>obtain⟨p,⟨o,e⟩,st⟩:=x;exact⟨st _ _ p λo q=>k _ _ (.inl rfl) q,⟨o,k _ _ (.inl rfl) e⟩,st⟩
def dz.lt(x:dz P w H h)(e:H a=U o):a<h.objs.size:=(x a o e).lt
theorem dz.fresh(x:dz P w H h)(e:h.objs.size<=a):H a=aJ:=by
 cases q:H a with
 |none=>rfl
 |some u=>exact absurd (Y2 (x.lt q) e) (Wd _)
def dz.kept(x:dz P w H h)(k:∀b u,h.get? b=U u->h'.get? b=U u):dz P w H h':=λa o e=>
 (x a o e).i_ (λ b u _=>k b u) (λ_ q=>q) λ_ _ q=>q
def dz.laid(x:dz P w H h)(k:∀b u,h.get? b=U u->h'.get? b=U u)(i:h.objs.size<=a)(d:cH P w (upd H a o) h' a o):dz P w (upd H a o) h':=λb u e=>by
 have f:=x.fresh i;by_cases g:b=a;·subst g;rw[aQ] at e;cases e;exact d
 ·rw[aA g] at e;exact(x b u e).i_ (λ c v _=>k c v) (λc q=>by rwa[aA (cA q f)]) λc j q=>by rwa[aA (cA q f)]
def Rd(H:Hp)(a:O)(u:HO):Prop:=H a=U u\/∃o,H a=U (.bU o u)
def Rd.ok(r:Rd H a u)(x:dz P w H h):cH P w H h a u:=by
 rcases r with r|⟨o,r⟩;·exact x a u r
 ·obtain⟨_,q⟩:=x a _ r;exact q
def zL:bq HO->Prop
 |some (.lst _)=>True
 |some (.dK _)=>True
 |some (.dT _)=>True
 |some (.set _ _)=>True
 |some (.ins _ _ _)=>True
 |some (.ext _)=>True
 |_=>False
def dz.write(t:dz P w H h)(d:zL (H x))(o:e=x\/H e=U (.own x))(k:∀b u,b≠e->h.get? b=U u->h'.get? b=U u)(s:∃u,h'.get? e=U u)
  (j:cH P w (upd H x n) h' x n):dz P w (upd H x n) h':=λb u q=>by
 have p:∀c y,H c=U (.own y)->c≠x:=λc y r z=>by subst z;rw[r] at d;exact d
 have l:∀c a,H c=U (.tup a)->c≠x:=λc a r z=>by subst z;rw[r] at d;exact d
 by_cases g:b=x;·subst g;rw[aQ] at q;cases q;exact j
 ·rw[aA g] at q;by_cases i:b=e
  ·have m:H b=U (.own x):=by
    rcases o with z|z;·exact absurd (i.trans z) g
    ·rwa[i]
   rw[q] at m;cases m;obtain⟨v,A⟩:=s;exact⟨v,by rwa[i]⟩
  ·refine(t b u q).i_ (λc v f r=>k c v ?_ r) (λc r=>by rwa[aA (p c b r)]) λc a r=>by rwa[aA (l c a r)]
   rcases f with rfl|f;·exact i
   ·rintro rfl;rcases o with z|z;·exact p c b f z
    ·rw[f] at z;cases z;exact g rfl
structure Un(fs ex:Z O)(H H':Hp)(h h':cI):Prop where
 keep:∀b o,h.get? b=U o->H b=aJ->b∉fs->b∉ex->h'.get? b=U o
 slot:∀b o,h.get? b=U o->H b=aJ->b∈fs->b∉ex->∃sl,h'.get? b=U {o with slots:=sl}
 free:∀b o,h.get? b=U o->H b=aJ->b∉ex->H' b=aJ
 there:∀b o,h.get? b=U o->b∉ex->∃o',h'.get? b=U o'
 ij:∀b xs,H b=U (.tup xs)->H' b=U (.tup xs)
 iO:∀b o u,H b=U (.bU o u)->H' b=U (.bU o u)
 jb:∀b ps,H b=U (.oS ps)->∃more,H' b=U (.oS (ps++more))
section
variable {fs X:Z O}{H H1 T:Hp}{h W R h':cI}{a:O}{o:HO}
def Un.any(u:Un fs X H H1 h W)(q:h.get? b=U c)(n:H b=aJ)(d:b∉X):∃f,W.get? b=U {c with slots:=f}:=by
 by_cases e:b∈fs;·exact u.slot b c q n e d
 ·exact⟨c.slots,u.keep b c q n e d⟩
theorem Un.trans(a:Un fs X H H1 h W)(b:Un fs X H1 T W R):Un fs X H T h R where
 keep:=λc d q n i e=>b.keep c d (a.keep c d q n i e) (a.free c d q n e) i e
 slot:=λc d q n i e=>by
  obtain⟨m,f⟩:=a.slot c d q n i e;obtain⟨s,l⟩:=b.slot c _ f (a.free c d q n e) i e
  grind
 free:=λc d q n e=>by
  obtain⟨j,f⟩:=a.there c d q e;exact b.free c j f (a.free c d q n e) e
 there:=λc d q e=>by
  obtain⟨j,f⟩:=a.there c d q e;exact b.there c j f e
 ij:=λc g q=>b.ij c g (a.ij c g q)
 iO:=λc d g q=>b.iO c d g (a.iO c d g q)
 jb:=λc k q=>by
  obtain⟨r,f⟩:=a.jb c k q;obtain⟨p,l⟩:=b.jb c _ f
  grind
def Un.kept(k:∀b u,h.get? b=U u->h'.get? b=U u):Un fs X H H h h':=
 ⟨λb c q _ _ _=>k b c q,λb c q _ _ _=>⟨c.slots,k b c q⟩,λ_ _ _ n _=>n,λb c q _=>⟨c,k b c q⟩,λ_ _ q=>q,λ_ _ _ q=>q,λ_ d q=>⟨#[],by rw[q];simp⟩⟩
def Un.refl:Un fs X H H h h:=Un.kept λ_ _ q=>q
theorem Un.laid(k:∀b u,h.get? b=U u->h'.get? b=U u)(e:h.objs.size<=a)(c:H a=aJ):Un fs X H (upd H a o) h h' where
 keep:=λb u q _ _ _=>k b u q
 slot:=λb u q _ _ _=>⟨u.slots,k b u q⟩
 free:=λb u q n _=>by rw[aA (Yy (Y2 (Yr q) e))];exact n
 there:=λb u q _=>⟨u,k b u q⟩
 ij:=λb d q=>by rw[aA (cA q c)];exact q
 iO:=λb u d q=>by rw[aA (cA q c)];exact q
 jb:=λb f q=>⟨#[],by rw[aA (cA q c),q];simp⟩
def Un.write(c:zL (H x))(p:e=x\/H e=U (.own x))(k:∀b u,b≠e->h.get? b=U u->h'.get? b=U u)(l:∃u,h'.get? e=U u):Un fs X H (upd H x o) h h':=by
 have j:∀b,H b=aJ->b≠x:=λb n z=>by subst z;rw[n] at c;exact c
 have f:∀b,H b=aJ->b≠e:=λb n z=>by
  grind
 have d:∀b u,H b=U u->¬zL (U u)->b≠x:=λb u q i z=>by subst z;rw[q] at c;exact i c
 refine⟨λb u q n _ _=>k b u (f b n) q,λb u q n _ _=>⟨u.slots,k b u (f b n) q⟩,λb u q n _=>by rwa[aA (j b n)],λb u q _=>?_,
  λb g q=>by rwa[aA (d b _ q λz=>z)],λb u g q=>by rwa[aA (d b _ q λz=>z)],λb m q=>⟨#[],by rw[aA (d b _ q λz=>z),q];simp⟩⟩
 grind
end
def xw(h:cI)(H:Hp):Z O:=(List.range h.objs.size).filter λa=>(H a).isSome
def qm(h:cI)(H:Hp):cI:=PySem.W.hideAll h (xw h H)
def ZcP(h:cI)(H:Hp):(qm h H).objs.size=h.objs.size:=PySem.W.hideAll_size _ _
def ZdJ(e:h.get? b=U o)(n:H b=aJ):(qm h H).get? b=U o:=
 PySem.W.hideAll_get _ e λa=>by
  have q:=(Y5.mp a).2
  grind
theorem Zfl(e:(qm h H).get? b=U o):h.get? b=U o/\H b=aJ:=by
 have a:=PySem.W.of_hideAll (xw h H) e;refine⟨a,?_⟩;cases q:H b with
 |none=>rfl
 |some x=>
  have z:(qm h H).get? b=aJ:=PySem.W.hideAll_none (xw h H) (Y5.mpr ⟨Wj.mpr (Yr a),by simp[q]⟩)
  grind
structure Mod(K:ah)(mg:aU)(base:cI):Prop where
 oU:K.In base
 glob:base.Ns mainGlobals mg
 blt:∃mb,base.Ns builtinsNs mb/\∀x:ar,x≠"__name__"->mb x=bootBuiltins x
 nolimit:base.NoLimit
structure Cx where
 prog:cZ
 w:cN
 K:ah
 mg:ar->bq aY
 base:cI
 A:eL
 N:Z ar
 dw:bt
 kF:Hp
 env:Env
 outer:Z Env
 stack:Z Env
 ex:Z O
 fn:ar->cm
 calm:cm
 pn:Z (O×Obj)
 xe:aY->bt->Prop
abbrev Cx.md(X:Cx):=model X.prog X.w
abbrev jB(X:Cx)(e:cu)(a:Z cu):Prop:=starEach (e::a) X.env=(a7,eval e X.env)::starEach a X.env
abbrev j9(X:Cx)(a:Pos)(b:Z cu):Prop:=(backTo a (starEach b X.env)).any (·.1)=a7
def c9(l:Z Env):Z O:=l.filterMap (·.frame)
abbrev Cx.fs(X:Cx):Z O:=c9 X.outer
def uG(a:Scope)(x:ar):Prop:=a.names.lookup x=U .local\/a.names.lookup x=U .cell\/a.names.lookup x=U .free
def Loc(a:Scope)(x:ar):Prop:=a.names.lookup x=U .local\/a.names.lookup x=U .cell
def Look(a:Env)(h:cI)(m:aU)(x:ar)(u:aY):Prop:=
 (a.kindOf x=U .local/\m x=U u)\/((a.kindOf x=U .cell\/a.kindOf x=U .free)/\∃c,a.cells.lookup x=U c/\h.IsCell c (U u))
structure Cx.Ok(X:Cx):Prop where
 mod:Mod X.K X.mg X.base
 kind:X.env.scope.kind=.function
 glob:X.env.globals=mainGlobals
 blt:X.env.builtins=builtinsNs
 above:X.dw.heap.objs.size<=X.env.locals
 inj:∀x y c,X.env.cells.lookup x=U c->X.env.cells.lookup y=U c->x=y
 has:∀x,(X.env.kindOf x=U .cell\/X.env.kindOf x=U .free)->∃c,X.env.cells.lookup x=U c
 uH:∀x c,X.fn x=af->X.env.cells.lookup x=U c->X.dw.heap.objs.size<=c
 hd:X.calm=af->X.A.handled=aJ
 frames:X.A.frames=U X.stack
 xx:X.stack=X.outer\/(X.stack=X.env::X.outer/\X.env.frame=U X.env.locals)
 sh:∀b∈X.ex,b≠X.env.locals/\∀x c,X.env.cells.lookup x=U c->c≠b
 bs:∀b o,X.base.get? b=U o->X.dw.heap.get? b=U o/\X.kF b=aJ
 mS:X.base.objs.size<=X.dw.heap.objs.size
 uf:∀b o,X.base.get? b=U o->b∉X.ex
 rV:∀b∈X.ex,b∉X.fs
 jV:X.dw.heap.FunFrames X.base X.outer
 nR:∀b∈X.fs,X.kF b=aJ
structure Inv(X:Cx)(pins:a8)(σ:Z (bq V))(H:Hp)(s:bt):Prop where
 ok:X.Ok
 os:s.os=X.dw.os
 bare:AllBare s.gens
 base:Un X.fs X.ex X.kF H X.dw.heap s.heap
 loc:∃m,s.heap.Ns X.env.locals m/\∀(i:Nat) (x:ar) (v:V),X.N[i]?=U x->σ[i]?=U (U v)->uG X.env.scope x->∃u,RelV v u/\Look X.env s.heap m x u
 cell:∀x c,X.env.cells.lookup x=U c->∃v,s.heap.IsCell c v
 free:H X.env.locals=aJ
 i6:∀x c,X.env.cells.lookup x=U c->H c=aJ
 pin:∀p∈X.pn++pins,s.heap.get? p.1=U p.2/\H p.1=aJ/\p.1≠X.env.locals/\p.1∉X.fs/\∀v,p.2.data≠.cell v
 aw:dz X.prog X.w H s.heap
 len:σ.length=X.N.length
section
variable {X:Cx}{W:a8}{σ:Z (bq V)}{H H':Hp}{s:bt}{h':cI}
def Cx.Ok.Zjb(a:X.Ok)(e:X.base.get? b=U o):b∉X.fs:=λc=>by
 have:=(a.jV.mem c).1
 grind
def Inv.bs(I:Inv X W σ H s):∀b o,X.base.get? b=U o->s.heap.get? b=U o/\H b=aJ:=λb o e=>
 ⟨I.base.keep b o (I.ok.bs b o e).1 (I.ok.bs b o e).2 (I.ok.Zjb e) (I.ok.uf b o e),I.base.free b o (I.ok.bs b o e).1 (I.ok.bs b o e).2 (I.ok.uf b o e)⟩
def Inv.bk(I:Inv X W σ H s):∀b o,X.base.get? b=U o->s.heap.get? b=U o:=λb o e=>(I.bs b o e).1
def Inv.mod(I:Inv X W σ H s):Mod X.K X.mg X.base:=I.ok.mod
def Inv.cO(I:Inv X W σ H s):X.K.In s.heap:=I.ok.mod.oU.keeps I.bk
def Inv.lt(I:Inv X W σ H s):X.env.locals<s.heap.objs.size:=let⟨_,a,_⟩:=I.loc;a.lt
def Inv.sz(I:Inv X W σ H s):X.dw.heap.objs.size<=s.heap.objs.size:=Yz I.ok.above (Js I.lt)
def Inv.Zjc(I:Inv X W σ H s)(h:s.heap.objs.size<=a):a∉X.fs:=λc=>by
 obtain⟨_,o,b,_⟩:=I.ok.jV.mem c;exact absurd (Y2 (Yr b) (Yz I.sz h)) (Wd _)
def Inv.qx(I:Inv X W σ H s):∀x c,X.env.cells.lookup x=U c->c≠X.env.locals:=λx c e z=>by
 obtain⟨v,o,d,hd⟩:=I.cell x c e;obtain⟨m,⟨b,f,g,a,h,_⟩,_⟩:=I.loc
 grind
theorem Inv.jV(I:Inv X W σ H s):s.heap.FunFrames X.base X.outer:=by
 have all:∀(l:Z Env),(∀b∈c9 l,b∈X.fs)->X.dw.heap.FunFrames X.base l->s.heap.FunFrames X.base l:=by
  intro l;induction l with
  |nil=>intro _ _;trivial
  |cons env r g=>
   rintro f ⟨k,⟨L,o,a,j,i,hd⟩,h⟩;have d:=f L (by unfold c9;rw[Jc,a];exact Yk);obtain⟨m,e⟩:=I.base.slot L o i (I.ok.nR L d) d λz=>I.ok.rV L z d;exact⟨k,⟨L,_,a,j,e,hd⟩,g (λb c=>f b (by unfold c9;rw[Jc,a];exact Yw _ c)) h⟩
 exact all X.outer (λ_ c=>c) I.ok.jV
def Inv.stack(I:Inv X W σ H s):s.heap.FunFrames X.base X.stack:=by
 rcases I.ok.xx with e|⟨e,b⟩;·exact e▸I.jV
 ·rw[e];obtain⟨m,a,_⟩:=I.loc;refine .cons (by rw[I.ok.kind];decide) b a ?_ I.jV;exact Dq (Yz I.ok.mS I.ok.above)
def Inv.I_(I:Inv X W σ H s):∀b∈c9 X.stack,b∈X.env.locals::X.fs:=λb a=>by
 rcases I.ok.xx with e|⟨e,c⟩;·grind
 ·rw[e] at a;unfold c9 at a;rw[Jc,c] at a;exact a
def Inv.BC(I:Inv X W σ H s):∀b∈c9 X.stack,H b=aJ:=λb a=>by
 rcases Ys.mp (I.I_ b a) with e|a;·exact e▸I.free
 ·obtain⟨_,o,c,_⟩:=I.ok.jV.mem a;exact I.base.free b o c (I.ok.nR b a) λz=>I.ok.rV b z a
def Inv.step{g':cW GenState}{T:Nat}{d':Drawn}{ch:Z O}(I:Inv X W σ H s)
  (D:∀b∈ch,(b∈X.ex\/X.dw.heap.objs.size<=b)/\b≠X.env.locals/\(∀x c,X.env.cells.lookup x=U c->c≠b)/\∀p∈X.pn++W,p.1≠b)
  (g:∀b o,b≠X.env.locals->b∉X.fs->b∉ch->s.heap.get? b=U o->H b=aJ->h'.get? b=U o)
  (w:∀b o,b≠X.env.locals->b∈X.fs->b∉ch->s.heap.get? b=U o->H b=aJ->∃L,h'.get? b=U {o with slots:=L})(f:∀b o,b∉ch->s.heap.get? b=U o->H b=aJ->H' b=aJ)
  (y:∀b o,b∉ch->s.heap.get? b=U o->∃E,h'.get? b=U E)
  (ij:∀b t,H b=U (.tup t)->H' b=U (.tup t))(iO:∀b o u,H b=U (.bU o u)->H' b=U (.bU o u))(jb:∀b G,H b=U (.oS G)->∃more,H' b=U (.oS (G++more)))
  (ns:∀m,s.heap.Ns X.env.locals m->h'.Ns X.env.locals m)(aw:dz X.prog X.w H' h')(hg:AllBare g'):
  Inv X W σ H' {s with heap:=h',gens:=g',drawn:=d',toks:=T}:=by
 have R:∀b o,X.dw.heap.get? b=U o->b≠X.env.locals:=λb o e=>Yy (Y2 (Yr e) I.ok.above);have J:∀b o,X.dw.heap.get? b=U o->b∉X.ex->b∉ch:=λb o e a A=>by
  rcases(D b A).1 with z|z;·exact a z
  ·exact absurd (Y2 (Yr e) z) (Wd _)
 have h:∀x c,X.env.cells.lookup x=U c->∀v,s.heap.IsCell c v->h'.IsCell c v:=λx c e v ⟨o,B,hd⟩=>by
  have C:=λz=>(D c z).2.2.1 x c e rfl;by_cases Q:c∈X.fs
  ·obtain⟨L,q⟩:=w c o (I.qx x c e) Q C B (I.i6 x c e);exact⟨_,q,hd⟩
  ·exact⟨o,g c o (I.qx x c e) Q C B (I.i6 x c e),hd⟩
 refine⟨I.ok,I.os,hg,⟨λb o e n A a=>?_,λb o e n A a=>?_,λb o e n a=>?_,λb o e a=>?_,λb t e=>ij b t (I.base.ij b t e),λb o t e=>iO b o t (I.base.iO b o t e),λb G e=>?_⟩,?_,λx c e=>?_,?_,λx c e=>?_,λp P=>?_,aw,I.len⟩;·exact g b o (R b o e) A (J b o e a) (I.base.keep b o e n A a) (I.base.free b o e n a)
 ·obtain⟨L,j⟩:=I.base.slot b o e n A a;obtain⟨Vo,F⟩:=w b _ (R b o e) A (J b o e a) j (I.base.free b o e n a);exact⟨Vo,F⟩
 ·obtain⟨E,j⟩:=I.base.there b o e a;exact f b E (J b o e a) j (I.base.free b o e n a)
 ·obtain⟨E,j⟩:=I.base.there b o e a;exact y b E (J b o e a) j
 ·obtain⟨m1,j⟩:=I.base.jb b G e;obtain⟨m2,F⟩:=jb b _ j;exact⟨m1++m2,by rw[F,Array.append_assoc]⟩
 ·obtain⟨m,hn,hl⟩:=I.loc;refine⟨m,ns m hn,λi x v j F e3=>?_⟩;obtain⟨u,r,l⟩:=hl i x v j F e3;refine⟨u,r,?_⟩;rcases l with l|⟨k,c,e,z⟩;·exact .inl l
  ·exact .inr ⟨k,c,e,h x c e _ z⟩
 ·obtain⟨v,z⟩:=I.cell x c e;exact⟨v,h x c e v z⟩
 ·obtain⟨m,⟨o,_,_,B,_⟩,_⟩:=I.loc;exact f _ o (λz=>(D _ z).2.1 rfl) B I.free
 ·obtain⟨v,o,B,hd⟩:=I.cell x c e;exact f c o (λz=>(D c z).2.2.1 x c e rfl) B (I.i6 x c e)
 ·obtain⟨e,n,ne,N,d⟩:=I.pin p P;have C:=λz=>(D p.1 z).2.2.2 p P rfl;exact⟨g p.1 p.2 ne N C e n,f p.1 p.2 C e n,ne,N,d⟩
def Inv.un(I:Inv X W σ H s)(u:Un X.fs [] H H' s.heap h')(i:dz X.prog X.w H' h'):Inv X W σ H' {s with heap:=h',toks:=l}:=by
 obtain⟨m,⟨o,v,w,d,r⟩,_⟩:=id I.loc;obtain⟨p,h⟩:=u.any d I.free (by simp);exact I.step (g':=s.gens) (ch:=[]) (λ_ z=>nomatch z) (λb o _ a _ e n=>u.keep b o e n a (by simp)) (λb o _ a _ e n=>u.slot b o e n a (by simp)) (λb o _ e n=>u.free b o e n (by simp)) (λb o _ e=>u.there b o e (by simp)) u.ij u.iO u.jb (λt g=>by
  obtain⟨q,k,j,c,f⟩:=g;rw[d] at c;cases c;exact⟨_,k,j,h,f⟩) i I.bare
def Inv.call(I:Inv X W σ H s)(u:Un (c9 X.stack) ch H H' s.heap h')(t:dz X.prog X.w H' h')(k:AllBare q)
  (g:∀b∈ch,(b∈X.ex\/X.dw.heap.objs.size<=b)/\b≠X.env.locals/\(∀x c,X.env.cells.lookup x=U c->c≠b)/\∀p∈X.pn++W,p.1≠b):
  Inv X W σ H' {s with heap:=h',gens:=q,drawn:=F,toks:=y}:=by
 obtain⟨m,⟨o,D,E,h,r⟩,_⟩:=id I.loc;obtain⟨A,d⟩:=u.any h I.free λz=>(g _ z).2.1 rfl;exact I.step g (λb o d l a e n=>u.keep b o e n (λz=>(Ys.mp (I.I_ b z)).elim d l) a) (λb o _ _ a e n=>u.any e n a) (λb o a e n=>u.free b o e n a) (λb o a e=>u.there b o e a) u.ij u.iO u.jb (λC j=>by
  obtain⟨B,w,v,f,i⟩:=j;rw[h] at f;cases f;exact⟨_,w,v,d,i⟩) t k
def Inv.turned(I:Inv X W σ H s)(k:∀b o,b≠it->s.heap.get? b=U o->h'.get? b=U o)(h:H it=aJ)(d:it≠X.env.locals)
  (w:it∈X.ex\/X.dw.heap.objs.size<=it)(t:∀x c,X.env.cells.lookup x=U c->c≠it)(l:∀p∈X.pn++W,p.1≠it):Inv X W σ H {s with heap:=h',toks:=B}:=by
 have f:∀b u,H b=U u->b≠it:=λb u e z=>by rw[z,h] at e;cases e
 refine I.step (g':=s.gens) (ch:=[it]) (λb j=>?_) (λb o _ _ a e _=>k b o (λz=>a (by simp[z])) e) (λb o _ _ a e _=>⟨o.slots,k b o (λz=>a (by simp[z])) e⟩) (λ_ _ _ _ n=>n)
  (λb o a e=>⟨o,k b o (λz=>a (by simp[z])) e⟩) (λ_ _ e=>e) (λ_ _ _ e=>e) (λb C e=>⟨#[],by rw[e];simp⟩) (λm i=>?_) (λb u e=>?_) I.bare
 ·have e:b=it:=by simpa using j
  subst e;exact⟨w,d,t,l⟩
 ·obtain⟨o,y,A,g,r⟩:=i;exact⟨o,y,A,k _ o (jm d) g,r⟩
 ·refine(I.aw b u e).i_ (λc v a q=>k c v ?_ q) (λ_ q=>q) λ_ _ q=>q;rcases a with z|z;·exact z▸f b u e
  ·exact f c _ z
def Inv.tok(I:Inv X W σ H s)(t:Nat):Inv X W σ H {s with toks:=t}:=I.un Un.refl I.aw
def Inv.kept(I:Inv X W σ H s)(k:∀b u,s.heap.get? b=U u->h'.get? b=U u):Inv X W σ H {s with heap:=h',toks:=t'}:=I.un (Un.kept k) (I.aw.kept k)
def Inv.laid(I:Inv X W σ H s)(k:∀b u,s.heap.get? b=U u->h'.get? b=U u)(d:s.heap.objs.size<=a)(c:cH X.prog X.w (upd H a o) h' a o):
  Inv X W σ (upd H a o) {s with heap:=h',toks:=t'}:=I.un (Un.laid k d (I.aw.fresh d)) (I.aw.laid k d c)
def Inv.write(I:Inv X W σ H s)(d:zL (H x))(f:e=x\/H e=U (.own x))(k:∀b u,b≠e->s.heap.get? b=U u->h'.get? b=U u)(c:∃u,h'.get? e=U u)
  (a:cH X.prog X.w (upd H x o) h' x o):Inv X W σ (upd H x o) {s with heap:=h',toks:=t'}:=I.un (Un.write d f k c) (I.aw.write d f k c a)
def Inv.Qx(I:Inv X W σ H s)(h:∀p∈b,s.heap.get? p.1=U p.2/\H p.1=aJ/\p.1≠X.env.locals/\p.1∉X.fs/\∀v,p.2.data≠.cell v):Inv X b σ H s:=
 ⟨I.ok,I.os,I.bare,I.base,I.loc,I.cell,I.free,I.i6,λp a=>(Yv.mp a).elim (λz=>I.pin p (Yt _ z)) (h p),I.aw,I.len⟩
def Ie{N:Z ar}(c:N.Nodup){i j:Nat}{x:ar}(a:N[i]?=U x)(b:N[j]?=U x):i=j:=by
 obtain⟨g,e⟩:=Yl.mp a;obtain⟨f,d⟩:=Yl.mp b;exact(List.getElem_inj c).mp (e.trans d.symm)
def OF{f:Model}{A:eL}{E:bo}{i:Nat}{x:ar}{v:V}{u:aY}{Q:Unit->bt->Prop}(I:Inv X W σ H s)(hN:X.N.Nodup)(J:X.N[i]?=U x)(B:Loc X.env.scope x)(r:RelV v u)
  (h:∀s',Inv X W (σ.set i (U v)) H s'->(∃a,Heap.SameBut a s.heap s'.heap/\(a=X.env.locals\/X.env.cells.lookup x=U a))->Q () s')(hf:X.fn x=af\/X.env.scope.names.lookup x=U .local:=by first|exact .inl rfl|exact .inr rfl|assumption):wpAny f A (storeName X.env x u) Q E s:=by
 obtain⟨m,hn,hl⟩:=id I.loc;have Zjd:(X.env.scope.kind==.class||(X.env.scope.kind==.module&&X.env.locals !=X.env.globals))=a7:=by rw[I.ok.kind];rfl
 have Uh:i<σ.length:=by rw[I.len];exact(Yl.mp J).1
 have qx:=I.qx;have l:∀{a:O} {h':cI},(∃o,s.heap.get? a=U o/\H a=aJ)->Heap.SameBut a s.heap h'->dz X.prog X.w H h':=λ{a h'} ha g b ob e=>by
  obtain⟨_,_,S9⟩:=ha;refine(I.aw b ob e).i_ (λc L w q=>(g.2 c ?_).trans q) (λ_ q=>q) λ_ _ q=>q;rintro rfl;rcases w with rfl|w;·rw[S9] at e;cases e
  ·rw[S9] at w;cases w
 rcases B with D|D
 ·refine wpAny_storeName_local D hn (λh' xA g=>?_) Zjd;obtain⟨oL,_,_,qy,_⟩:=id hn;refine h _ ⟨I.ok,I.os,I.bare,⟨λb o e n G B=>?_,λb o e n G B=>?_,I.base.free,λb o e B=>?_,I.base.ij,I.base.iO,I.base.jb⟩,⟨_,xA,λj y P t C e3=>?_⟩,λy c e=>?_,I.free,I.i6,λp hp=>?_,l ⟨oL,qy,I.free⟩ g,by simpa using I.len⟩ ⟨_,g,.inl rfl⟩;·exact(g.2 b (Yy (Y2 (Yr e) I.ok.above))).trans (I.base.keep b o e n G B)
  ·obtain⟨T,t⟩:=I.base.slot b o e n G B;exact⟨T,(g.2 b (Yy (Y2 (Yr e) I.ok.above))).trans t⟩
  ·obtain⟨o',t⟩:=I.base.there b o e B;exact⟨o',(g.2 b (Yy (Y2 (Yr e) I.ok.above))).trans t⟩
  ·by_cases F:j=i
   ·subst F;rw[J] at t;cases t;rw[AV Uh] at C;cases C;exact⟨u,r,.inl ⟨D,by simp⟩⟩
   ·rw[Vr (jm F)] at C;obtain⟨R,r',q⟩:=hl j y P t C e3;refine⟨R,r',?_⟩;rcases q with⟨k,e⟩|⟨k,c,e,z⟩
    ·refine .inl ⟨k,?_⟩;have:y≠x:=λe=>F (Ie hN t (e▸J));simp[this,e]
    ·exact .inr ⟨k,c,e,z.sameBut g (qx y c e)⟩
  ·obtain⟨L,z⟩:=I.cell y c e;exact⟨L,z.sameBut g (qx y c e)⟩
  ·obtain⟨e,n,ne,nf,d⟩:=I.pin p hp;exact⟨(g.2 p.1 ne).trans e,n,ne,nf,d⟩
 ·have LD:X.fn x=af:=by
   rcases hf with z|z;·exact z
   ·rw[z] at D;cases D
  obtain⟨c,w⟩:=I.ok.has x (.inl D);obtain⟨L,z⟩:=I.cell x c w;refine wpAny_storeName_cell I.ok.kind D w z (λh' oW g=>?_);obtain⟨oc,zO,Zje⟩:=id z;refine h {s with heap:=h'} ⟨I.ok,I.os,I.bare,⟨λb o e n G B=>?_,λb o e n G B=>?_,I.base.free,λb o e B=>?_,I.base.ij,I.base.iO,I.base.jb⟩,⟨m,hn.sameBut g (jm (qx x c w)),λj y P t C e3=>?_⟩,λy N e=>?_,I.free,I.i6,λp hp=>?_,l ⟨oc,zO,I.i6 x c w⟩ g,by simpa using I.len⟩ ⟨c,g,.inr w⟩;·exact(g.2 b (Yy (Y2 (Yr e) (I.ok.uH x c LD w)))).trans (I.base.keep b o e n G B)
  ·obtain⟨T,t⟩:=I.base.slot b o e n G B;exact⟨T,(g.2 b (Yy (Y2 (Yr e) (I.ok.uH x c LD w)))).trans t⟩
  ·obtain⟨o',t⟩:=I.base.there b o e B;exact⟨o',(g.2 b (Yy (Y2 (Yr e) (I.ok.uH x c LD w)))).trans t⟩
  ·by_cases F:j=i
   ·subst F;rw[J] at t;cases t;rw[AV Uh] at C;cases C;exact⟨u,r,.inr ⟨.inl D,c,w,oW⟩⟩
   ·rw[Vr (jm F)] at C;obtain⟨R,r',q⟩:=hl j y P t C e3;refine⟨R,r',?_⟩;rcases q with q|⟨k,N,e,z'⟩;·exact .inl q
    ·refine .inr ⟨k,N,e,z'.sameBut g ?_⟩;rintro rfl;exact F (Ie hN t (I.ok.inj _ _ _ e w▸J))
  ·by_cases Vs:N=c;·subst Vs;exact⟨_,oW⟩
   ·obtain⟨w2,z2⟩:=I.cell y N e;exact⟨w2,z2.sameBut g Vs⟩
  ·obtain⟨e,n,ne,nf,d⟩:=I.pin p hp;refine⟨(g.2 p.1 ?_).trans e,n,ne,nf,d⟩;intro q;rw[q,zO] at e;have q':=Ym e;exact d L (by rwa[←q'])
def Bo{a:Model}{A:eL}{E:bo}{i:Nat}{x:ar}{v:V}{u:aY}{Q:Unit->bt->Prop}(I:Inv X W σ H s)(f:X.N.Nodup)(d:X.N[i]?=U x)(c:Loc X.env.scope x)(r:RelV v u)
  (h:∀b,Inv X W (σ.set i (U v)) H b->Q () b)(e:X.fn x=af\/X.env.scope.names.lookup x=U .local:=by first|exact .inl rfl|exact .inr rfl|assumption):wpAny a A (storeName X.env x u) Q E s:=
 OF I f d c r (λb g _=>h b g) e
def Inv.Kk(I:Inv X W σ H s)(d:s'.os=s.os)(u:Un (c9 X.stack) ch H H' s.heap s'.heap)(g:dz X.prog X.w H' s'.heap)(f:AllBare s'.gens)
  (a:∀b∈ch,(b∈X.ex\/X.dw.heap.objs.size<=b)/\b≠X.env.locals/\(∀x c,X.env.cells.lookup x=U c->c≠b)/\∀p∈X.pn++W,p.1≠b):Inv X W σ H' s':=by
 obtain⟨h',j,k,h,i⟩:=s';have e:=d;subst e;exact I.call u g f a
end
abbrev XK:=aY->bq O->Hp->Prop
abbrev St:=Z (bq V)
abbrev VK:=V->Hp->Prop
abbrev TE:=St->Hp->VK->Prop
abbrev TT:=St->Hp->(cm->Hp->Prop)->Prop
abbrev TA:=St->Hp->(Z V->Hp->Prop)->Prop
structure Ends where
 nx:St->Hp->Prop
 rt:VK
 bk:St->Hp->Prop:=λ_ _=>False
 ct:St->Hp->Prop:=λ_ _=>False
abbrev TS:=Ends->St->Hp->Prop
inductive Ui(X:Cx)(a:a8)(b:St)(Q:VK)(u:aY)(c:bt):Prop
 |mk (v d) (g:Inv X a b d c) (f:RelV v u) (e:Q v d):Ui X a b Q u c
def EP(X:Cx)(a:a8)(b:St)(Q:VK)(u:aY)(c:bt):Prop:=Ui X a b Q u c
inductive Uj(X:Cx)(a:a8)(b:St)(R:Hp->Prop)(c:bt):Prop
 |mk (d:Hp) (f:Inv X a b d c) (e:R d):Uj X a b R c
def TP(X:Cx)(a:a8)(c:St)(Q:cm->Hp->Prop)(b:cm)(d:bt):Prop:=Uj X a c (Q b) d
inductive Uk(X:Cx)(a:a8)(b:St)(Q:Z V->Hp->Prop)(d:Z aY)(e:bt):Prop
 |mk (c f) (i:Inv X a b f e) (h:Vals c d) (g:Q c f):Uk X a b Q d e
def AP(X:Cx)(a:a8)(b:St)(Q:Z V->Hp->Prop)(c:Z aY)(d:bt):Prop:=Uk X a b Q c d
inductive ug(X:Cx)(a:a8)(Q:St->Hp->Prop)(b:bt):Prop
 |mk (c:St) (d:Hp) (f:Inv X a c d b) (e:Q c d):ug X a Q b
inductive Ul(X:Cx)(a:a8)(Q:VK)(u:aY)(b:bt):Prop
 |mk (v:V) (d:St) (c:Hp) (g:Inv X a d c b) (f:RelV v u) (e:Q v c):Ul X a Q u b
def SP(X:Cx)(a:a8)(D:Ends)(f:Flow)(b:bt):Prop:=
 match f with
 |.next=>ug X a D.nx b
 |.brk=>ug X a D.bk b
 |.cont=>ug X a D.ct b
 |.ret u=>Ul X a D.rt u b
def PE(X:Cx)(e:cu)(t:TE):Prop:=
 ∀(a:a8) (s:bt) (b:St) (H:Hp) (Q:VK),Inv X a b H s->t b H Q->wpAny X.md X.A (eval e X.env) (EP X a b Q) X.xe s
def PT(X:Cx)(e:cu)(t:TT):Prop:=
 ∀(a:a8) (s:bt) (b:St) (H:Hp) (Q:cm->Hp->Prop),Inv X a b H s->t b H Q->wpAny X.md X.A (isTrue e X.env (eval e X.env)) (TP X a b Q) X.xe s
def PW(X:Cx)(e:cu)(t:TT):Prop:=
 ∀(b:Sem aY) (a:a8) (s:bt) (c:St) (H:Hp) (Q:cm->Hp->Prop),Inv X a c H s->t c H Q->wpAny X.md X.A (isTrue e X.env b) (TP X a c Q) X.xe s
def PW.pt(h:PW X e t):PT X e t:=h _
def PA(X:Cx)(d:Z cu)(t:TA):Prop:=
 ∀(c:Pos) (a:a8) (s:bt) (b:St) (H:Hp) (Q:Z V->Hp->Prop),Inv X a b H s->t b H Q->wpAny X.md X.A (spliced (backTo c (starEach d X.env))) (AP X a b Q) X.xe s
def PS(X:Cx)(c:cj)(t:TS):Prop:=
 ∀(a:a8) (s:bt) (b:St) (H:Hp) (D:Ends),Inv X a b H s->t D b H->wpAny X.md X.A (exec c X.env) (SP X a D) X.xe s
def fX(X:Cx)(c:Z cj)(t:TS):Prop:=
 ∀(a:a8) (s:bt) (b:St) (H:Hp) (D:Ends),Inv X a b H s->t D b H->wpAny X.md X.A (execs c X.env) (SP X a D) X.xe s
def az(h:wpAny M A t Q E s)(b:∀a s,Q a s->c a s):wpAny M A t c E s:=dk h b λ_ _ x=>x
section
variable {X:Cx}
inductive RN(i:Nat)(a:St)(H:Hp)(Q:VK):Prop
 |mk (v) (c:a[i]?=U (U v)) (b:Q v H):RN i a H Q
def gn(i:Nat):TE:=λa H Q=>RN i a H Q
def tC(v:V):TE:=λ_ H Q=>Q v H
def ZgN{i:Nat}{x:ar}{W:Pos}(q:X.N[i]?=U x)(k:uG X.env.scope x)(d:(x==("__debug__":ar))=a7:=by decide)(t:(x==("__classdict__":ar))=a7:=by decide):PE X (.Name x W) (gn i):=by
 rintro b s j H Q I ⟨v,e,h⟩;obtain⟨m,n,p⟩:=I.loc;obtain⟨u,r,l⟩:=p i x v q e k;have fin:EP X b j Q u s:=⟨v,H,I,r,h⟩;rcases l with⟨a,o⟩|⟨a,c,f,g⟩;·exact xB (CN I.ok.kind a n o fin) d
 ·rcases a with a|a;·exact xB (Dy I.ok.kind a f g fin) d
  ·exact xB (wpAny_loadName_free I.ok.kind a f g fin t) d
def aM:PE X (.Constant (.int i) j W) (tC (.int i)):=λ_ _ _ H _ I h=>wpAny_Constant_int ⟨.int i,H,I.tok _,⟨_,rfl⟩,h⟩
def i8:PE X (.Constant (.bool b) j W) (tC (.bl b)):=λ_ _ _ H _ I h=>Constant_bool ⟨.bl b,H,I,rfl,h⟩
def mF:PE X (.Constant .none j W) (tC .ay):=λ_ _ _ H _ I h=>Constant_none ⟨.ay,H,I,rfl,h⟩
def bA:PE X (.Constant (.str x) j W) (tC (.str x)):=λ_ _ _ H _ I h=>Calls.Constant_str ⟨.str x,H,I.tok _,⟨_,rfl⟩,h⟩
def Gl(X:Cx)(x:ar):Prop:=X.env.kindOf x=U .globalImplicit
def wx{E:bo}{a:a8}{s:bt}{b:St}{H:Hp}{x:ar}{u:aY}{W:Pos}{Q:bo}(I:Inv X a b H s)(d:Gl X x)(c:X.mg x=U u)(h:Q u s)
  (e:(x==("__debug__":ar))=a7:=by decide):wpAny X.md X.A (eval (.Name x W) X.env) Q E s:=
 zS I.ok.kind d (Calls.loadGlobal_global (by exact I.ok.glob▸I.mod.glob.keeps I.bk) c h) e
def yU{E:bo}{a:a8}{s:bt}{b:St}{H:Hp}{x:ar}{u:aY}{W:Pos}{Q:bo}(I:Inv X a b H s)(f:Gl X x)(e:X.mg x=aJ)(c:bootBuiltins x=U u)(h:Q u s)
  (d:x≠"__name__":=by decide)(g:(x==("__debug__":ar))=a7:=by decide):wpAny X.md X.A (eval (.Name x W) X.env) Q E s:=by
 obtain⟨k,j,i⟩:=I.mod.blt;exact zS I.ok.kind f (Calls.loadGlobal_builtin (by exact I.ok.glob▸I.mod.glob.keeps I.bk) e (by exact I.ok.blt▸j.keeps I.bk) ((i x d).trans c) h) g
def dR{x:ar}{v:V}{u:aY}{W:Pos}(b:Gl X x)(a:X.mg x=U u)(r:RelV v u)(c:(x==("__debug__":ar))=a7:=by decide):PE X (.Name x W) (tC v):=
 λ_ _ _ H _ I h=>wx I b a ⟨v,H,I,r,h⟩ c
def Zfm{x:ar}{v:V}{u:aY}{W:Pos}(d:Gl X x)(c:X.mg x=aJ)(a:bootBuiltins x=U u)(r:RelV v u)(b:x≠"__name__":=by decide)(e:(x==("__debug__":ar))=a7:=by decide):PE X (.Name x W) (tC v):=
 λ_ _ _ H _ I h=>yU I d c a ⟨v,H,I,r,h⟩ b e
variable {a b:cu}{T R:TE}{W:Pos}
def PC(X:Cx)(e:CmpOp)(a b:cu)(t:TE):Prop:=
 ∀(c:a8) (s:bt) (d:St) (H:Hp) (Q:VK),Inv X c d H s->t d H Q->
  wpAny X.md X.A (eval a X.env) (λv g=>wpAny X.md X.A (eval b X.env) (λu f=>wpAny X.md X.A (compareOp e v u) (EP X c d Q) X.xe f) X.xe g) X.xe s
inductive Um(Q:cm->Hp->Prop)(x:V)(d:Hp):Prop
 |mk (c) (f:x=.bl c) (e:Q c d):Um Q x d
def tB(t:TE):TT:=λc H Q=>t c H λx d=>Um Q x d
def ZgO{d:CmpOp}{t:TE}(h:PC X d a b t)(g:behindInMarks d b=a7:=by first|exact i _ QD QD|rfl):PE X (.Compare a [d] [b] W) t:=λc s e H Q I f=>Vp (h c s e H Q I f) g
def kC{f:CmpOp}{t:TE}(h:PC X f a b t)(g:behindInMarks f b=a7:=by first|exact o _ QD QD|rfl):PT X (.Compare a [f] [b] W) (tB t):=by
 intro e s i H Q I m;refine B2 (az (h e s i H _ I m) λv z g=>az g λu y n=>az n λc w j=>?_) g;obtain⟨x,r,p,k,l⟩:=j;obtain⟨d,rfl,q⟩:=l;cases k;exact mh ⟨r,p,q⟩
def eX{e:cu}{t:TE}(h:PE X e t)(m:∀c,isTrue e X.env c=(do let v←c;standAt e.pos;holding [v] (truthy v)):=by intro _;rfl):PT X e (tB t):=by
 intro f s g H Q I l;refine isTrue_plain (az (h f s g H _ I l) λv p i=>?_) (m _);obtain⟨x,o,n,j,k⟩:=i;obtain⟨d,rfl,q⟩:=k;cases j;exact mh ⟨o,n,q⟩
def Uo(t u:TT):TT:=λd H Q=>t d H λc e=>if c=af then u d e Q else Q a7 e
def Vu(t u:TT):TT:=λd H Q=>t d H λc e=>if c=af then Q af e else u d e Q
def Zjf(t:TT):TT:=λd H Q=>t d H λc e=>Q (!c) e
theorem pw_and1(g:PT X a tA):PW X (.BoolOp .And [a] W) tA:=by
 intro i d s f H Q I h;refine isTrue_and (az (g d s f H Q I h) λc j e=>?_);cases c with
 |true=>exact isTrue_and_nil e
 |false=>exact e
theorem pw_or1(g:PT X a tA):PW X (.BoolOp .Or [a] W) tA:=by
 intro i d s f H Q I h;refine isTrue_or (az (g d s f H Q I h) λc j e=>?_);cases c with
 |false=>exact isTrue_or_nil e
 |true=>exact e
theorem pw_and(o:PT X a l)(n:PW X (.BoolOp .And (b::rest) W) p):PW X (.BoolOp .And (a::b::rest) W) (Uo l p):=by
 intro k d s e H Q I h;refine isTrue_and (az (o d s e H _ I h) λc m j=>?_);obtain⟨i,g,f⟩:=j;cases c with
 |true=>exact n k d m e i Q g f
 |false=>exact⟨i,g,f⟩
theorem pw_or(o:PT X a l)(n:PW X (.BoolOp .Or (b::rest) W) p):PW X (.BoolOp .Or (a::b::rest) W) (Vu l p):=by
 intro k d s e H Q I h;refine isTrue_or (az (o d s e H _ I h) λc m j=>?_);obtain⟨i,g,f⟩:=j;cases c with
 |true=>exact⟨i,g,f⟩
 |false=>exact n k d m e i Q g f
def i4(g:PT X a f):PT X (.UnaryOp .Not a W) (Zjf f):=by
 intro d s e H Q I h;exact isTrue_not (g d s e H (λc i=>Q (!c) i) I h)
def S_(T R:TE):TE:=λd H Q=>T d H λx e=>∃c,x=.bl c/\if c=af then R d e Q else Q (.bl a7) e
def Up(T R:TE):TE:=λd H Q=>T d H λx e=>∃c,x=.bl c/\if c=af then Q (.bl af) e else R d e Q
def Zik(T:TE):TE:=λd H Q=>T d H λx e=>∃c,x=.bl c/\Q (.bl (!c)) e
def oG(h:PE X a t):PE X (.BoolOp op [a] W) t:=λc s d H Q I e=>BoolOp_one (h c s d H Q I e)
theorem rG(n:PE X a T)(m:PE X (.BoolOp .And (b::rest) W) R):PE X (.BoolOp .And (a::b::rest) W) (S_ T R):=by
 intro d s f H Q I h;refine BoolOp_and (az (n d s f H _ I h) λv k j=>?_);obtain⟨x,i,g,l,e⟩:=j;obtain⟨c,rfl,e⟩:=e;cases l;refine mh ?_;cases c with
 |true=>exact m d k f i Q g e
 |false=>exact⟨.bl a7,i,g,rfl,e⟩
theorem Kl(n:PE X a T)(m:PE X (.BoolOp .Or (b::rest) W) R):PE X (.BoolOp .Or (a::b::rest) W) (Up T R):=by
 intro d s f H Q I h;refine BoolOp_or (az (n d s f H _ I h) λv k j=>?_);obtain⟨x,i,g,l,e⟩:=j;obtain⟨c,rfl,e⟩:=e;cases l;refine mh ?_;cases c with
 |false=>exact m d k f i Q g e
 |true=>exact⟨.bl af,i,g,rfl,e⟩
def ZgP(j:PE X a T):PE X (.UnaryOp .Not a W) (Zik T):=by
 intro d s f H Q I h;refine UnaryOp_ (az (j d s f H _ I h) λv m g=>?_);obtain⟨x,l,k,i,e⟩:=g;obtain⟨c,rfl,e⟩:=e;cases i;exact not_of (mh ⟨.bl (!c),l,k,rfl,e⟩)
def tIf(t:TT)(T R:TE):TE:=λd H Q=>t d H λc e=>if c=af then T d e Q else R d e Q
theorem Pp(n:PT X c m)(p:PE X a T)(o:PE X b R):PE X (.IfExp c a b W) (tIf m T R):=by
 intro e s f H Q I h;refine wpAny_IfExp (az (n e s f H _ I h) λd g l=>?_);obtain⟨k,j,i⟩:=l;cases d with
 |true=>exact p e g f k Q j i
 |false=>exact o e g f k Q j i
end
def ak(K:ah)(H:Hp)(a:O)(c:Z V):Prop:=
 Rd H a (.lst c)\/
  ∃(o:Obj) (b:cW aY) (n:Nat),K.lookup a=U o/\o.cls=.type "list"/\o.dict=aJ/\o.data=.seq b n/\b.size<=sizeLine/\Vals c b.toList
def aB(K:ah)(H:Hp)(a:O)(c:Z V):Prop:=
 Rd H a (.tup c)\/
  ∃(o:Obj) (b:cW aY) (n:Nat),K.lookup a=U o/\o.cls=.type "tuple"/\o.data=.seq b n/\b.size<=sizeLine/\Vals c b.toList
def Zjg:aY->bq V
 |.none=>U .ay
 |.bool b=>U (.bl b)
 |.int i _=>U (.int i)
 |.str x _=>U (.str x)
 |.bytes b _=>U (.kI b)
 |.float b _=>U (.uF b)
 |.ref a=>U (.ref a)
 |.type n=>U (.ty n)
 |_=>aJ
theorem RelV.abs(r:RelV x u):Zjg u=U x:=by
 cases x with
 |ay=>cases r;rfl
 |bl _=>cases r;rfl
 |int _=>obtain⟨t,rfl⟩:=r;rfl
 |str _=>obtain⟨t,rfl⟩:=r;rfl
 |kI _=>obtain⟨t,rfl⟩:=r;rfl
 |uF _=>obtain⟨t,rfl⟩:=r;rfl
 |ref _=>cases r;rfl
 |ty _=>cases r;rfl
def RelV.inj(r:RelV x u)(q:RelV y u):x=y:=Ym (r.abs.symm.trans q.abs)
theorem Vals.inj:∀{a ys:Z V} {b:Z aY},Vals a b->Vals ys b->a=ys:=by
 intro a ys b h;induction h generalizing ys with
 |nil=>intro c;cases c;rfl
 |cons r t f=>
  intro c;cases c with
  |cons e d=>rw[r.inj e,f d]
def ak.of{K:ah}(h:H a=U (.lst xs)):ak K H a xs:=.inl (.inl h)
def aB.of{K:ah}(h:H a=U (.tup xs)):aB K H a xs:=.inl (.inl h)
def Inv.list(I:Inv X pins σ H s)(h:ak X.K H a xs):∃b:Z aY,Vals xs b/\PlainL s.heap a b.toArray/\xs.length<=sizeLine:=by
 rcases h with h|⟨o,b,n,d,f,hd,c,g,r⟩
 ·obtain⟨z,b,n,r,e⟩:=h.ok I.aw;exact⟨b,r,⟨_,n,e,rfl,rfl,rfl⟩,z⟩
 ·refine⟨b.toList,r,⟨o,n,I.cO a o d,f,hd,by simpa using c⟩,?_⟩;have e:=r.length
  simp_all
def Inv.tuple(I:Inv X pins σ H s)(h:aB X.K H a xs):∃b:Z aY,Vals xs b/\IsTup s.heap a b.toArray/\xs.length<=sizeLine:=by
 rcases h with h|⟨o,b,n,d,f,c,g,r⟩
 ·obtain⟨z,b,r,p⟩:=h.ok I.aw;exact⟨b,r,p.tup,z⟩
 ·refine⟨b.toList,r,⟨o,I.cO a o d,f,n,by simpa using c⟩,?_⟩;have e:=r.length
  simp_all
def Inv.ZdL(I:Inv X pins σ H s)(h:ak X.K H a xs)(g:ak X.K H a ys):xs=ys:=by
 obtain⟨j,r,⟨o,n,e,_,_,d⟩,_⟩:=I.list h;obtain⟨oD,f,⟨k,l,b,_,_,c⟩,_⟩:=I.list g;rw[e] at b;cases b;rw[d] at c;injection c with i _;have:j=oD:=by simpa using dC Array.toList i
 subst this;exact r.inj f
def Inv.ZcQ(I:Inv X pins σ H s)(h:aB X.K H a xs)(g:aB X.K H a ys):xs=ys:=by
 obtain⟨j,r,⟨o,e,_,n,d⟩,_⟩:=I.tuple h;obtain⟨oD,f,⟨k,b,_,l,c⟩,_⟩:=I.tuple g;rw[e] at b;cases b;rw[d] at c;injection c with i _;have:j=oD:=by simpa using dC Array.toList i
 subst this;exact r.inj f
abbrev Cx.k_(X:Cx)(E:bo):Cx:={X with xe:=E}
abbrev Cx.oX(X:Cx):Cx:=X.k_ λ_ _=>False
def Cx.Ok.k_{X:Cx}(a:X.Ok)(E:bo):(X.k_ E).Ok:=
 ⟨a.mod,a.kind,a.glob,a.blt,a.above,a.inj,a.has,a.uH,a.hd,a.frames,a.xx,a.sh,a.bs,a.mS,a.uf,a.rV,a.jV,a.nR⟩
def Cx.Ok.rH{X:Cx}(a:(X.k_ E).Ok):X.Ok:=
 ⟨a.mod,a.kind,a.glob,a.blt,a.above,a.inj,a.has,a.uH,a.hd,a.frames,a.xx,a.sh,a.bs,a.mS,a.uf,a.rV,a.jV,a.nR⟩
def Inv.k_(I:Inv X pins σ H s)(E:bo):Inv (X.k_ E) pins σ H s:=⟨I.ok.k_ E,I.os,I.bare,I.base,I.loc,I.cell,I.free,I.i6,I.pin,I.aw,I.len⟩
def Inv.rH(I:Inv (X.k_ E) pins σ H s):Inv X pins σ H s:=⟨I.ok.rH,I.os,I.bare,I.base,I.loc,I.cell,I.free,I.i6,I.pin,I.aw,I.len⟩
theorem SP.rH(h:SP (X.k_ E) pins D f s'):SP X pins D f s':=by
 cases f with
 |next=>obtain⟨a,b,I,q⟩:=h;exact⟨a,b,I.rH,q⟩
 |brk=>obtain⟨a,b,I,q⟩:=h;exact⟨a,b,I.rH,q⟩
 |cont=>obtain⟨a,b,I,q⟩:=h;exact⟨a,b,I.rH,q⟩
 |ret u=>obtain⟨v,a,b,I,r,q⟩:=h;exact⟨v,a,b,I.rH,r,q⟩
def fX.oX{b:Z cj}(h:fX X.oX b t):fX X b t:=λa s c H D I d=>
 dk (h a s c H D (I.k_ _) d) (λ_ _ q=>q.rH) λ_ _ z=>False.elim z
section
variable {X:Cx}{st:cj}{t u:TS}{e:cu}{T:TE}{W:Pos}
def Ta:TS:=λD a H=>D.nx a H
def zo(t u:TS):TS:=λD a H=>t {D with nx:=u D} a H
def a_:fX X [] Ta:=λ_ _ a H _ I h=>sV ⟨a,H,I,h⟩
theorem aq(g:PS X st t)(d:fX X rest u):fX X (st::rest) (zo t u):=by
 intro a s b H D I h;refine MP (az (g a s b H {D with nx:=u D} I h) λf c q=>?_);cases f with
 |next=>
  obtain⟨i,k,j,q⟩:=q;exact d a c i k D j q
 |ret v=>exact q
 |brk=>exact q
 |cont=>exact q
theorem au(c:PS X st t):fX X [st] t:=by
 intro a s b H D I h;refine MP (az (c a s b H D I h) λf d q=>?_);cases f with
 |next=>exact sV q
 |ret v=>exact q
 |brk=>exact q
 |cont=>exact q
def Inv.quiet(I:Inv X pins σ H s):interactive X.env=a7:=by simp[interactive,I.ok.kind]
def Zil(T:TE):TS:=λD a H=>T a H λ_ b=>D.nx a b
def cG(f:PE X e T)(d:swapsWith e aJ W.line X.env=pure a7:=by rfl):PS X (.Expr e W) (Zil T):=by
 intro a s b H D I h;exact wpAny_Expr_any (az (f a s b H _ I h) λv j ⟨x,i,g,k,c⟩=>⟨b,i,g,c⟩) I.quiet d
def Zjh(T:TE):TS:=λD a H=>T a H D.rt
def aL(f:PE X e T):PS X (.Return (U e) W) (Zjh T):=by
 intro a s b H D I h;exact wpAny_Return_some (az (f a s b H _ I h) λv j ⟨x,i,g,c,d⟩=>⟨x,b,i,g,c,d⟩)
def KO(c:TT)(t u:TS):TS:=λD a H=>c a H λb d=>if b=af then t D a d else u D a d
theorem aW(o:PT X c n)(q:fX X a t)(p:fX X b u):PS X (.If c a b W) (KO n t u):=by
 intro f s g H D I h;refine wpAny_If (az (o f s g H _ I h) λd i m=>?_);obtain⟨l,k,j⟩:=m;cases d with
 |true=>exact q f i g l D k j
 |false=>exact p f i g l D k j
def ZgQ:TS:=λ_ _ _=>False
def gY:fX X a ZgQ:=λ_ _ _ _ _ _ h=>h.elim
end
abbrev TG:=V->St->Hp->(St->Hp->Prop)->Prop
abbrev oY:=Z V->St->Hp->(St->Hp->Prop)->Prop
def PG(X:Cx)(a:cu)(t:TG):Prop:=
 ∀(b:a8) (s:bt) (c:St) (H:Hp) (v:V) (u:aY) (Q:St->Hp->Prop),Inv X b c H s->RelV v u->t v c H Q->
  wpAny X.md X.A (assign a X.env u) (λ_ d=>ug X b Q d) X.xe s
def zP(X:Cx)(e:Z cu)(t:oY):Prop:=
 ∀(a:a8) (s:bt) (b:St) (H:Hp) (c:Z V) (d:Z aY) (Q:St->Hp->Prop),Inv X a b H s->Vals c d->t c b H Q->
  wpAny X.md X.A (assignInOrder ((assignEach e X.env).map (·.2)) d) (λ_ f=>ug X a Q f) X.xe s
abbrev KP:=V->V->V->Hp->(Hp->Prop)->Prop
def uh(X:Cx)(t:KP):Prop:=
 ∀(a:a8) (s:bt) (b:St) (H:Hp) (o i v:V) (c d u:aY) (Q:Hp->Prop),Inv X a b H s->RelV o c->RelV i d->RelV v u->t o i v H Q->
  wpAny X.md X.A (setItem c d u) (λ_ f=>∃e,Inv X a b e f/\Q e) X.xe s
abbrev Dr:=V->V->Hp->VK->Prop
def LF(X:Cx)(c:Operator)(t:Dr):Prop:=
 ∀(a:a8) (s:bt) (b:St) (H:Hp) (x y:V) (v u:aY) (Q:VK),Inv X a b H s->RelV x v->RelV y u->t x y H Q->
  wpAny X.md X.A (inplaceOp c v u) (EP X a b Q) X.xe s
section
variable {X:Cx}{W:Pos}
def qc(i:Nat):TG:=λv a H Q=>Q (a.set i (U v)) H
def rB{i:Nat}{x:ar}(e:X.N.Nodup)(c:X.N[i]?=U x)(b:Loc X.env.scope x)(d:X.fn x=af\/X.env.scope.names.lookup x=U .local:=by first|exact .inl rfl|exact .inr rfl|assumption):PG X (.Name x W) (qc i):=by
 intro a s g H v u Q I r h;exact LZ (Bo I e c b r (λj f=>⟨_,H,f,h⟩) d)
def Zji:oY:=λb a H Q=>b=[]/\Q a H
inductive Qy(t:TG)(u:oY)(b:Z V)(a:St)(H:Hp)(Q:St->Hp->Prop):Prop
 |mk (v r) (f:b=v::r) (e:t v a H λc d=>u r c d Q):Qy t u b a H Q
def Zim(t:TG)(u:oY):oY:=λb a H Q=>Qy t u b a H Q
def jo:zP X [] Zji:=by
 rintro a s b H c d Q I r ⟨e,h⟩;subst e;exact assignInOrder_nil ⟨b,H,I,h⟩
theorem bX{e:cu}{b:Z cu}{t:TG}{u:oY}(l:PG X e t)(k:zP X b u)
  (j:(assignEach (e::b) X.env).map (·.2)=assign e X.env::(assignEach b X.env).map (·.2):=by rfl):zP X (e::b) (Zim t u):=by
 rintro a s c H p w Q I r ⟨v,q,m,h⟩;subst m;cases r with
 |cons r g=>
  exact j▸assignInOrder_cons (az (l a s c H _ _ _ I r h) λ_ f ⟨d,o,n,i⟩=>k a f d o _ _ Q n g i)
inductive RO(K:ah)(n:Nat)(t:oY)(v:V)(c:St)(H:Hp)(Q:St->Hp->Prop):Prop
 |mk (a b) (g:v=.ref a) (f:aB K H a b) (d:b.length=n) (e:t b c H Q):RO K n t v c H Q
def Uq(K:ah)(n:Nat)(t:oY):TG:=λv a H Q=>RO K n t v a H Q
def ZgR{d:Z cu}{k:Nat}{t:oY}{n:Nat}(x:X.calm=af)(h:zP X d t)
  (q:(assignEach d X.env).length=n:=by rfl)(z:(assignEach d X.env).findIdx? (·.1)=aJ:=by rfl):PG X (.Tuple d k W) (Uq X.K n t):=by
 rintro c s g H v u Q I r ⟨a,i,y,p,w,l⟩;subst y;cases r;obtain⟨C,f,m,A⟩:=I.tuple p;exact assign_Tuple_tuple (I.ok.hd x) m (by simp[q,←w,f.length]) z λB j=>h c _ g H i _ Q (I.kept λb o e=>j b o (Yy (Yr e)) e) (by simpa using f) l
def Ur(b c:TE)(t:KP):TG:=λv a H Q=>b a H λo f=>c a f λi e=>t o i v e λd=>Q a d
def ZgS{o i:cu}{e f:TE}{t:KP}(w:PE X o e)(z:PE X i f)(q:uh X t)
  (J:∀v,assign (.Subscript o i W) X.env v=(do
   let b←holding [v] (eval o X.env);let c←holding [v,b] (eval i X.env)
   standAt W
   holding [v,b,c] (setItem b c v)
   release [v,b,c] []):=by intro _;rfl):PG X (.Subscript o i W) (Ur e f t):=by
 intro a s d H v u Q I r h;exact bp (jd (az (w a s d H _ I h) λb j ⟨x,F,C,l,p⟩=>bp (jd (az (z a j d F _ C p) λc g ⟨y,E,B,k,n⟩=>bp (lp (bp (jd (az (q a g d E x y v b c u _ B l k r n) λ_ G ⟨D,A,m⟩=>wpAny_release ⟨d,D,A,m⟩))))))))
def ui(b:TE)(g:TG):TS:=λD a H=>b a H λx c=>g x a c D.nx
def oH{b e:cu}{d:TE}{g:TG}(o:PE X e d)(n:PG X b g)(m:swapsWithSole [b] e W.line X.env=pure a7:=by rfl)(l:swappedStores [b] e X.env=pure aJ:=by rfl)
  (p:(assignEach [b] X.env).map (·.2)=[assign b X.env]:=by rfl):PS X (.Assign [b] e W) (ui d g):=by
 intro a s c H D I h;refine wpAny_Assign_stores (az (o a s c H _ I h) λv i f=>?_) m l;obtain⟨x,t,r,j,k⟩:=f;exact p▸az (n a i c t x v _ r j k) λ_ u q=>q
def ig{i:Nat}{x:ar}{e:cu}{c:TE}{a:Pos}(p:X.N.Nodup)(m:X.N[i]?=U x)(k:Loc X.env.scope x)(o:PE X e c)(l:swapsWith e (U (.Name x a)) W.line X.env=pure a7:=by rfl)(n:X.fn x=af\/X.env.scope.names.lookup x=U .local:=by first|exact .inl rfl|exact .inr rfl|assumption):
  PS X (.Assign [.Name x a] e W) (ui c (qc i)):=by
 intro b s d H D I h;refine wpAny_Assign_Name (az (o b s d H _ I h) λv w f=>?_) l;obtain⟨y,t,r,g,j⟩:=f;exact Bo r p m k g (λu q=>⟨_,t,q,j⟩) n
def Zjj(i:Nat)(c:TE)(b:Dr):TS:=λD a H=>∃x,a[i]?=U (U x)/\c a H λy e=>b x y e λz d=>D.nx (a.set i (U z)) d
def B6{i:Nat}{x:ar}{e:cu}{o:TE}{f:Operator}{n:Dr}{d:Pos}(R:X.N.Nodup)(p:X.N[i]?=U x)(g:Loc X.env.scope x)(P:PE X e o)(F:LF X f n)(N:X.fn x=af\/X.env.scope.names.lookup x=U .local:=by first|exact .inl rfl|exact .inr rfl|assumption):
  PS X (.AugAssign (.Name x d) f e W) (Zjj i o n):=by
 rintro a s j H D I ⟨v,e1,h⟩;obtain⟨m,G,L⟩:=I.loc;have LG:uG X.env.scope x:=by rcases g with k|k;exact .inl k;exact .inr (.inl k)
 obtain⟨u,r,l⟩:=L i x v p e1 LG;refine wpAny_AugAssign_Name ?_;have q:wpAny X.md X.A (eval e X.env) (λw T=>wpAny X.md X.A (inplaceOp f u w) (λr eY=>wpAny X.md X.A (storeName X.env x r) (λ_=>SP X a D .next) X.xe eY) X.xe T) X.xe s:=az (P a s j H _ I h) λw t ⟨y,H1,I1,B,E⟩=>az (F a t j H1 v y u w _ I1 r B E) λz s2 ⟨zv,H2,I2,A,C⟩=>Bo I2 R p g A (λs3 I3=>⟨_,H2,I3,C⟩) N;rcases l with⟨b,J⟩|⟨b,c,Q,Cn⟩;·exact CN I.ok.kind b G J q
 ·rcases b with b|b;·exact Dy I.ok.kind b Q Cn q
  ·rcases g with k|k
   ·have:X.env.scope.names.lookup x=U .free:=b
    grind
   ·have:X.env.scope.names.lookup x=U .free:=b
    grind
inductive Tb(f:Int->Int->Int)(x:V)(y:V)(H:Hp)(Q:VK):Prop
 |mk (i j) (c:x=.int i) (b:y=.int j) (a:Q (.int (f i j)) H):Tb f x y H Q
def ipI(f:Int->Int->Int):Dr:=λx y H Q=>Tb f x y H Q
def JA:LF X .Add (ipI λi j=>i+j):=by
 rintro a s f H x y v u Q I c b ⟨i,j,e,d,q⟩;subst e;subst d;obtain⟨t,rfl⟩:=c;obtain⟨g,rfl⟩:=b;exact iadd_int ⟨.int _,H,I.tok _,⟨_,rfl⟩,q⟩
end
def RP(c:TT)(h:TS):TS:=λD a H=>∃W:Nat->St->Hp->Prop,(∃m,W m a H)/\∀m a H,W m a H->
 c a H λb f=>if b=af then ∃N:St->Hp->Prop,(∀e g,N e g->∃d,d<m/\W d e g)/\h {D with nx:=N,ct:=N,bk:=D.nx} a f else D.nx a f
theorem Ig(r:PassesOwn X.md X.A X.env X.xe)(P:PT X c C)(Q:fX X body E):PS X (.While c body [] pos) (RP C E):=by
 intro a s y H D I h;obtain⟨W,⟨L,B⟩,d⟩:=h;refine wpAny_While (codeAny_whileLoop (λn J=>ug X a (W n) J) ?_ L ⟨y,H,I,B⟩);rintro n G ⟨i,x,R,A⟩;refine oo r (az (P a G i x _ R (d n i x A)) λb F z=>?_);obtain⟨w,u,k⟩:=z;cases b with
 |true=>
  obtain⟨N,t,k⟩:=k;rw[bS rfl];refine oo r (az (Q a F i w _ u k) λf T j=>?_);cases f with
  |next=>
   obtain⟨e,g,q,m⟩:=j;obtain⟨o,p,l⟩:=t e g m;exact⟨o,p,e,g,q,l⟩
  |cont=>
   obtain⟨e,g,q,m⟩:=j;obtain⟨o,p,l⟩:=t e g m;exact⟨o,p,e,g,q,l⟩
  |brk=>exact j
  |ret v=>exact j
 |false=>
  rw[bR Yi];exact sV ⟨i,w,u,k⟩
structure It where
 go:Nat->Hp->Prop
 sr:Nat->Hp->V->Hp->Prop
 stop:Nat->Hp->Prop
def jx(X:Cx)(a:a8)(H:Hp)(b:O):Prop:=
 H b=aJ/\b≠X.env.locals/\b∉X.fs/\(b∈X.ex\/X.dw.heap.objs.size<=b)/\(∀x c,X.env.cells.lookup x=U c->c≠b)/\∀p∈X.pn++a,p.1≠b
def Inv.qo(I:Inv X pins σ H s)(a:s.heap.objs.size<=b)(f:g b=aJ):jx X pins g b:=by
 refine⟨f,Jg (Y2 I.lt a),I.Zjc a,.inr (Yz I.sz a),λx c e z=>?_,λp d z=>?_⟩
 ·obtain⟨v,q⟩:=I.cell x c e;exact absurd (Y2 q.lt (by rwa[z])) (Wd _)
 ·exact absurd (Y2 (Yr (I.pin p d).1) (by rwa[z])) (Wd _)
structure Turn(P:cZ)(w:cN)(K:ah)(tg:cu)(J:It)(fp:Z O)(it:O)(tn:Nat->cI->Prop):Prop where
 mem:it∈fp
 obj:∀i h,tn i h->∀b∈fp,∃o,h.get? b=U o/\∀v,o.data≠.cell v
 keep:∀i h h',tn i h->(∀b∈fp,∀o,h.get? b=U o->h'.get? b=U o)->tn i h'
 item:∀(X:Cx),X.prog=P->X.w=w->X.K=K->X.calm=af->∀(i:Nat) (pins:a8) (s:bt) (σ:St) (H:Hp) (E:bo),Inv X pins σ H s->(∀b∈fp,jx X pins H b)->tn i s.heap->J.go i H->
  wpAny (model P w) X.A (pyNext (.ref it)) (λr s1=>∃u,r=U u/\
   wpAny (model P w) X.A (letOwnedTupleGo tg (.ref it) u) (λ_ s2=>∃x H',Inv X pins σ H' s2/\RelV x u/\J.sr i H x H'/\tn (i+1) s2.heap/\∀b∈fp,H' b=aJ) E s1) E s
 done:∀(X:Cx),X.prog=P->X.w=w->X.K=K->X.calm=af->∀(i:Nat) (pins:a8) (s:bt) (σ:St) (H:Hp) (E:bo),Inv X pins σ H s->(∀b∈fp,jx X pins H b)->tn i s.heap->J.stop i H->
  wpAny (model P w) X.A (pyNext (.ref it)) (λr s1=>r=aJ/\Inv X pins σ H s1) E s
 self:∀(A:eL) (i:Nat) (s:bt) (Q:bo) (E:bo),tn i s.heap->Q (.ref it) s->wpAny (model P w) A (pyIter (.ref it)) Q E s
abbrev TI:=St->Hp->(It->Hp->Prop)->Prop
def Vv(X:Cx)(a:a8)(g:St)(i:cu)(R:It->Hp->Prop)(h:aY)(e:bt):Prop:=
 ∃(f:O) (fp:Z O) (d:Nat->cI->Prop) (J:It) (c:Hp),h=.ref f/\Inv X a g c e/\Turn X.prog X.w X.K i J fp f d/\d 0 e.heap/\(∀b∈fp,jx X a c b)/\R J c
def PI(X:Cx)(e b:cu)(d:TI):Prop:=
 ∀(a:a8) (s:bt) (c:St) (H:Hp) (R:It->Hp->Prop),Inv X a c H s->d c H R->
  wpAny X.md X.A (eval b X.env) (λv f=>wpAny X.md X.A (pyIter v) (Vv X a c e R) X.xe f) X.xe s
theorem t_(d:s.heap.get? it=U o)(g:o.cls=.type n)(f:o.data=.fields b)
    (e:["enumerate","zip","dict_itemiterator","dict_reverseitemiterator","odict_iterator","itertools.zip_longest","itertools.pairwise"].contains n=a7)(a:Q () s):wpAny M A (letOwnedTupleGo c (.ref it) u) Q E s:=by
  unfold letOwnedTupleGo;cases c <;> first
    | exact cD a
    | (cases u <;> first
        | exact cD a
        | (refine bp (wpAny_load d ?_)
           rw [g,f];show wpAny M A (if (["enumerate","zip","dict_itemiterator","dict_reverseitemiterator","odict_iterator","itertools.zip_longest","itertools.pairwise"].contains n&&b[0]? == U (rawInt _))=af then _ else _) Q E s;rw [bR (by intro h; rw [e,VH] at h; cases h)];exact cD a))
def j_(K:ah)(a:O):It:=
 ⟨λi H=>∃b x,ak K H a b/\b[i]?=U x,λi H x c=>c=H/\∀b,ak K H a b->b[i]?=U x,λi H=>∃b,ak K H a b/\b.length<=i⟩
def xC(K:ah)(a:O):It:=
 ⟨λi H=>∃b x,aB K H a b/\b[i]?=U x,λi H x c=>c=H/\∀b,aB K H a b->b[i]?=U x,λi H=>∃b,aB K H a b/\b.length<=i⟩
def qz(a:Int)(n:Nat):It:=⟨λi _=>i<n,λi H x b=>b=H/\x=.int (a+i),λi _=>n<=i⟩
theorem OG{P:cZ}{w:cN}{K:ah}{N:cu}(a it:O):Turn P w K N (j_ K a) [it] it (λi h=>h.IsListIter it a i) where
 mem:=by simp
 obj:=λi h st b g=>by
  have e:b=it:=by simpa using g
  obtain⟨o,e,c,d⟩:=st
  grind
 keep:=λi h F st k=>st.at λo e=>k it (by simp) o e
 item:=by
  intro X t q v D i f s J H E I l st r;subst t q v;obtain⟨L,x,j,n⟩:=r;obtain⟨ai,m,p,T⟩:=I.list j;obtain⟨u,hu,R⟩:=m.get n;obtain⟨C,B,f2,A,z,y⟩:=l it (by simp);refine wpAny_pyNext_list_item st p.isList (by simpa using hu) λF G Q=>?_;obtain⟨o,e,c,d⟩:=id G;exact⟨u,rfl,t_ e c d (by decide) ⟨x,H,(I.turned (λb o g e=>(Q.2 b g).trans e) C B A z y),R,⟨rfl,λys W=>by rw[I.ZdL W j];exact n⟩,G,λb g=>(l b g).1⟩⟩
 done:=by
  intro X t q v D i f s J H E I l st r;subst t q v;obtain⟨L,j,n⟩:=r;obtain⟨ai,m,p,T⟩:=I.list j;obtain⟨C,B,f2,A,z,y⟩:=l it (by simp);have hl:=m.length;exact wpAny_pyNext_list_end (I.ok.hd D) st p.isList (by simp;omega) λF eb=>⟨rfl,I.turned (eb) C B A z y⟩
 self:=λ_ _ _ _ _ st h=>wpAny_pyIter_listiter st h
theorem N1{P:cZ}{w:cN}{K:ah}{N:cu}(a it:O):Turn P w K N (xC K a) [it] it (λi h=>h.IsTupleIter it a i) where
 mem:=by simp
 obj:=λi h st b g=>by
  have e:b=it:=by simpa using g
  obtain⟨o,e,c,d⟩:=st
  simp_all
 keep:=λi h F st k=>st.at λo e=>k it (by simp) o e
 item:=by
  intro X t q v D i f s J H E I l st r;subst t q v;obtain⟨L,x,j,n⟩:=r;obtain⟨ai,m,p,T⟩:=I.tuple j;obtain⟨u,hu,R⟩:=m.get n;obtain⟨C,B,f2,A,z,y⟩:=l it (by simp);refine wpAny_pyNext_tuple_item st (p) (by simpa using hu) λF G Q=>?_;obtain⟨o,e,c,d⟩:=id G;exact⟨u,rfl,t_ e c d (by decide) ⟨x,H,(I.turned (λb o g e=>(Q.2 b g).trans e) C B A z y),R,⟨rfl,λys W=>by rw[I.ZcQ W j];exact n⟩,G,λb g=>(l b g).1⟩⟩
 done:=by
  intro X t q v D i f s J H E I l st r;subst t q v;obtain⟨L,j,n⟩:=r;obtain⟨ai,m,p,T⟩:=I.tuple j;obtain⟨C,B,f2,A,z,y⟩:=l it (by simp);have hl:=m.length;exact wpAny_pyNext_tuple_end (I.ok.hd D) st (p) (by simp;omega) λF eb=>⟨rfl,I.turned (eb) C B A z y⟩
 self:=λ_ _ _ _ _ st h=>wpAny_pyIter_tupleiter st h
theorem ZbQ{P:cZ}{w:cN}{K:ah}{D:cu}(a:O)(d:Int)(n:Nat):Turn P w K D (qz d n) [a] a (λi h=>IsRangeIter h a (d+(i:Nat)*1) ((n:Int)-(i:Nat)) 1) where
 mem:=by simp
 obj:=λi h st b g=>by
  simp_all
 keep:=λi h A st k=>k a (by simp) _ st
 item:=by
  intro X p j q m i c s C H E I f st l;subst p j q;obtain⟨z,y,J,x,u,r⟩:=f a (by simp);refine(Walks.range (I.ok.hd m) a d 1 n).item i s _ _ l st λv A N G B F=>?_;obtain⟨t,rfl⟩:=G;refine⟨_,rfl,t_ B rfl rfl (by decide) ⟨.int (d+i),H,(I.turned (λb o g e=>F b o (by simpa using g) e) z y x u r),⟨t,?_⟩,⟨rfl,rfl⟩,B,λb g=>(f b g).1⟩⟩;rw[Int.mul_one]
 done:=by
  intro X p j q m i c s C H E I f st l;subst p j q;obtain⟨z,y,J,x,u,r⟩:=f a (by simp);exact wpAny_pyNext_range_end (I.ok.hd m) st (by have:n<=i:=l;omega) λA L=>⟨rfl,I.turned (L) z y x u r⟩
 self:=λ_ _ _ _ _ st h=>wpAny_pyIter_rangeiter st h
section
variable {X:Cx}{Q:cu}
inductive Qz(K:ah)(R:It->Hp->Prop)(x:V)(b:Hp):Prop
 |mk (a) (f:x=.ref a) (e:(∃c,ak K b a c)) (d:R (j_ K a) b):Qz K R x b
def Tc(K:ah)(b:TE):TI:=λa H R=>b a H λx c=>Qz K R x c
inductive RQ(K:ah)(R:It->Hp->Prop)(x:V)(b:Hp):Prop
 |mk (a) (f:x=.ref a) (e:(∃c,aB K b a c)) (d:R (xC K a) b):RQ K R x b
def Zjk(K:ah)(b:TE):TI:=λa H R=>b a H λx c=>RQ K R x c
def QA(r:PE X l j):PI X Q l (Tc X.K j):=by
 intro c s g H R I h;refine az (r c s g H _ I h) λv f i=>?_;obtain⟨x,u,d,k,m⟩:=i;obtain⟨a,e,⟨w,n⟩,q⟩:=m;subst e;cases k;obtain⟨A,y,p,z⟩:=d.list n;refine sN p.isList ⟨f.heap.objs.size,[f.heap.objs.size],_,_,u,rfl,d.kept λ b o=>Yb _,OG a _,⟨_,Yp _ rfl,rfl,rfl⟩,λb t=>?_,q⟩;have e:b=f.heap.objs.size:=by simpa using t
 subst e;exact d.qo (Yd _) (d.aw.fresh (Yd _))
def JB(r:PE X l j):PI X Q l (Zjk X.K j):=by
 intro c s g H R I h;refine az (r c s g H _ I h) λv f i=>?_;obtain⟨x,u,d,k,m⟩:=i;obtain⟨a,e,⟨w,n⟩,q⟩:=m;subst e;cases k;obtain⟨A,y,p,z⟩:=d.tuple n;refine uR (p) ⟨f.heap.objs.size,[f.heap.objs.size],_,_,u,rfl,d.kept λ b o=>Yb _,N1 a _,⟨_,Yp _ rfl,rfl,rfl⟩,λb t=>?_,q⟩;have e:b=f.heap.objs.size:=by simpa using t
 subst e;exact d.qo (Yd _) (d.aw.fresh (Yd _))
def ZdM{a:a8}{d:St}{H:Hp}{s:bt}{R:It->Hp->Prop}{E:bo}{lo c:Int}{t u v:Tok}{g:Nat}(I:Inv X a d H s)(l:-(2^62)<=lo)(k:lo<2^62)(j:-(2^62)<=c)(i:c<2^62)
  (q:R (qz lo (c-lo).toNat) H):wpAny X.md X.A (pyIter (.ref s.heap.objs.size)) (Vv X a d Q R) E {s with heap:=s.heap.push {cls:=.type "range",data:=.fields #[.int lo t,.int c u,.int 1 v]},toks:=g}:=by
 refine wpAny_pyIter_range (IsRange.new ..) (Xx l k j i) ?_;have f:Inv X a d H {s with heap:=s.heap.push {cls:=.type "range",data:=.fields #[.int lo t,.int c u,.int 1 v]},toks:=g}:=I.kept λb o e=>Yb _ e;refine⟨(s.heap.push {cls:=.type "range",data:=.fields #[.int lo t,.int c u,.int 1 v]}).objs.size,[(s.heap.push {cls:=.type "range",data:=.fields #[.int lo t,.int c u,.int 1 v]}).objs.size],_,_,H,rfl,
  f.kept λ b o=>Yb _,ZbQ _ lo (c-lo).toNat,?_,λb h=>?_,q⟩
 ·have n:lo+((0:Nat):Int)*1=lo:=by simp
  have m:(((c-lo).toNat:Nat):Int)-((0:Nat):Int)=Builtin.Range.rangeSize lo c 1:=by rw[WJ];split<;>omega
  rw[n,m];exact Yp _ rfl
 ·have e:b=(s.heap.push {cls:=.type "range",data:=.fields #[.int lo t,.int c u,.int 1 v]}).objs.size:=by simpa using h
  subst e;exact f.qo (Yd _) (f.aw.fresh (Yd _))
inductive QB(R:It->Hp->Prop)(a:Z V)(b:Hp):Prop
 |mk (j:Int) (f:a=[.int j]) (e:-(2^62)<=j) (c:j<2^62) (d:R (qz 0 j.toNat) b):QB R a b
def Zin(c:TA):TI:=λa H R=>c a H λb d=>QB R b d
theorem pO{a:cu}{f:TA}{p b:Pos}(u:Gl X "range")(o:X.mg "range"=aJ)(v:PA X [a] f)(n:starEach [a] X.env=[(a7,eval a X.env)]:=by rfl):PI X Q (.Call (.Name "range" p) [a] [] b) (Zin f):=by
 intro c s g H R I h;refine Call_ (yU I u o boot_range (zN (az (v b c s g H _ I h) λy z i=>?_) n rfl));obtain⟨x,A,w,l,d⟩:=i;obtain⟨j,e,d,m,q⟩:=d;subst e;cases l with
 |cons r k=>
  cases k;obtain⟨t,rfl⟩:=r;exact call_range_1 (ZdM w (by decide) (by decide) d m (by simpa using q))
def CF(e:TI)(g:TG)(f:TS):TS:=λD a H=>e a H λJ k=>∃W:Nat->Nat->St->Hp->Prop,(∃m,W 0 m a k)/\∀i m a H,W i m a H->
 (J.stop i H/\D.nx a H)\/(J.go i H/\∃N:St->Hp->Prop,(∀d b,N d b->∃c,c<m/\W (i+1) c d b)/\∀x b,J.sr i H x b->g x a b λh j=>f {D with nx:=N,ct:=N,bk:=D.nx} h j)
def rJ(a:Z O)(h:cI):Z (O×Obj):=a.filterMap λb=>(h.get? b).map λo=>(b,o)
def qY(a:b∈fp)(e:h.get? b=U o):(b,o)∈rJ fp h:=Jq.mpr ⟨b,a,by rw[e];rfl⟩
theorem ZcR(a:p∈rJ fp h):p.1∈fp/\h.get? p.1=U p.2:=by
 obtain⟨b,c,e⟩:=Jq.mp a;cases q:h.get? b with
 |none=>grind
 |some o=>grind
def Inv.pinned(I:Inv X pins σ H s)(c:∀b∈fp,jx X pins H b)(f:∀b∈fp,∃o,s.heap.get? b=U o/\∀v,o.data≠.cell v):Inv X (pins++rJ fp s.heap) σ H s:=
 I.Qx λp a=>(Yv.mp a).elim (λz=>I.pin p (Yu _ z)) λz=>by
  obtain⟨d,e⟩:=ZcR z;obtain⟨i,h,g,_⟩:=c p.1 d
  grind
def Inv.wg(I:Inv X (pins++b) σ H s):Inv X pins σ H s:=I.Qx λp a=>I.pin p (Yu _ (Yt _ a))
theorem gm{j:cu}{t:Z cj}{wi:TI}{g:TG}{tb:TS}{P:Pos}(A:PassesOwn X.md X.A X.env X.xe)(hc:X.calm=af)(hi:PI X Q j wi)(hg:PG X Q g)(k:fX X t tb)
  (hs:∀x,foldedSetIterable j X.env x=pure x:=by intro _;rfl):PS X (.For Q j t [] P) (CF wi g tb):=by
 intro a s σ H D I h;refine wpAny_For (az (hi a s σ H _ I h) λv s1 h1=>az h1 λuI s2 h2=>?_) hs;obtain⟨it,fp,tn,J,H2,e,I2,T,fh,f2,W,⟨m0,w0⟩,w⟩:=h2;subst e;have R:∀{H':Hp},(∀b∈fp,H' b=aJ)->∀b∈fp,jx X a H' b:=λhn b k=>⟨hn b k,(f2 b k).2⟩;refine codeAny_forLoop_any (λn s'=>∃i C H',Inv X a C H' s'/\tn i s'.heap/\(∀b∈fp,H' b=aJ)/\W i n C H') ?_ m0 ⟨0,σ,H2,I2,fh,λb k=>(f2 b k).1,w0⟩;rintro n s3 ⟨i,B,E,I3,Vx,kg,w3⟩;rcases w i n B E w3 with⟨y,qn⟩|⟨go,N,hN,step⟩
 ·refine oo A (az (T.done X rfl rfl rfl hc i a s3 B E X.xe I3 (R kg) Vx y) λr s4 F=>?_);obtain⟨hr,I4⟩:=F;subst hr;exact sV ⟨B,E,I4,qn⟩
 ·refine oo A (az (T.item X rfl rfl rfl hc i a s3 B E X.xe I3 (R kg) Vx go) λr s4 F=>?_);obtain⟨u,hr,h4⟩:=F;subst hr;refine oo A (az h4 λ_ s5 ⟨x,H5,I5,r5,y5,L,lF⟩=>oo A (az (hg _ s5 B H5 x u _ (I5.pinned (R lF) (T.obj _ _ L)) r5 (step x H5 y5)) λ_ s6 ⟨Du,H6,I6,q6⟩=>oo A (az (k _ s6 Du H6 _ I6 q6) λf G q=>?_)));have again:∀{c:St} {p:Hp},Inv X (a++rJ fp s5.heap) c p G->N c p->∃m,m<n/\∃i C H',Inv X a C H' G/\tn i G.heap/\(∀b∈fp,H' b=aJ)/\W i m C H':=λ{c p} l z=>by
   obtain⟨m',hm,w7⟩:=hN c p z;refine⟨m',hm,i+1,c,p,l.wg,T.keep _ _ _ L λb k o e=>(l.pin (b,o) (Yu _ (Yu _ (qY k e)))).1,λb k=>?_,w7⟩;obtain⟨o,e,d⟩:=T.obj _ _ L b k;exact(l.pin (b,o) (Yu _ (Yu _ (qY k e)))).2.1
  cases f with
  |next=>obtain⟨c,p,l,z⟩:=q;exact again l z
  |cont=>obtain⟨c,p,l,z⟩:=q;exact again l z
  |brk=>obtain⟨c,p,l,q⟩:=q;exact⟨c,p,l.wg,q⟩
  |ret v=>obtain⟨x7,c,p,l,r7,q⟩:=q;exact⟨x7,c,p,l.wg,r7,q⟩
end
def kz{K:ah}{a:O}{xs:Z V}{g:TG}{l:TS}{D:Ends}{b:St}{H:Hp}(c:Nat->St->Hp->Prop)(v:c 0 b H)(t:∀i b H,i<=xs.length->c i b H->ak K H a xs)
  (s:∀i x b H,xs[i]?=U x->c i b H->g x b H λf k=>l {D with nx:=c (i+1),ct:=c (i+1),bk:=D.nx} f k)(u:∀b H,c xs.length b H->D.nx b H):
  ∃W:Nat->Nat->St->Hp->Prop,(∃m,W 0 m b H)/\∀i m b H,W i m b H->
   ((j_ K a).stop i H/\D.nx b H)\/((j_ K a).go i H/\∃N:St->Hp->Prop,(∀j d,N j d->∃n,n<m/\W (i+1) n j d)/\∀x d,(j_ K a).sr i H x d->g x b d λf k=>l {D with nx:=N,ct:=N,bk:=D.nx} f k):=by
 refine⟨λi m b H=>m=xs.length-i/\i<=xs.length/\c i b H,⟨xs.length,by simp,Yx _,v⟩,?_⟩;rintro i m b H ⟨rfl,o,p⟩;have q:=t i b H o p;by_cases h:i<xs.length
 ·refine .inr ⟨⟨xs,xs[i],q,by simp[h]⟩,c (i+1),λj d r=>⟨xs.length-(i+1),by omega,rfl,h,r⟩,λx d y=>?_⟩;obtain⟨e,y⟩:=y;subst e;exact s i x b _ (y xs q) p
 ·have e:i=xs.length:=i1 o (gM h)
  subst e;exact .inl ⟨⟨xs,q,Yd _⟩,u b H p⟩
def Bf{lo:Int}{n:Nat}{g:TG}{k:TS}{D:Ends}{a:St}{H:Hp}(b:Nat->St->Hp->Prop)(s:b 0 a H)
  (t:∀i a H,i<n->b i a H->g (.int (lo+i)) a H λd j=>k {D with nx:=b (i+1),ct:=b (i+1),bk:=D.nx} d j)(r:∀a H,b n a H->D.nx a H):
  ∃W:Nat->Nat->St->Hp->Prop,(∃m,W 0 m a H)/\∀i m a H,W i m a H->
   ((qz lo n).stop i H/\D.nx a H)\/((qz lo n).go i H/\∃N:St->Hp->Prop,(∀h c,N h c->∃l,l<m/\W (i+1) l h c)/\∀x c,(qz lo n).sr i H x c->g x a c λd j=>k {D with nx:=N,ct:=N,bk:=D.nx} d j):=by
 refine⟨λi m a H=>m=n-i/\i<=n/\b i a H,⟨n,by simp,Yx _,s⟩,?_⟩;rintro i m a H ⟨rfl,q,p⟩;by_cases f:i<n
 ·refine .inr ⟨f,b (i+1),λh c o=>⟨n-(i+1),by omega,rfl,f,o⟩,λx c y=>?_⟩;obtain⟨e,y⟩:=y
  simp_all
 ·have e:i=n:=i1 q (gM f)
  subst e;exact .inl ⟨Yd _,r a H p⟩
theorem Ih{c:TT}{j:TS}{D:Ends}{a:St}{H:Hp}(i:St->Hp->Prop)(g:St->Hp->Nat)(r:i a H)
  (o:∀a H,i a H->c a H λb e=>if b=af then j {D with nx:=λd f=>i d f/\g d f<g a H,ct:=λd f=>i d f/\g d f<g a H,bk:=D.nx} a e else D.nx a e)
  (h:∀a H Q k,(∀b e,Q b e->k b e)->c a H Q->c a H k):RP c j D a H:=by
 refine⟨λm a H=>m=g a H/\i a H,⟨_,rfl,r⟩,?_⟩;rintro m a H ⟨rfl,p⟩;refine h a H _ _ (λb e q=>?_) (o a H p);cases b with
 |true=>exact⟨_,λd f ⟨n,l⟩=>⟨_,l,rfl,n⟩,q⟩
 |false=>exact q
abbrev R2:=V->V->Hp->VK->Prop
def cS(X:Cx)(f:aY->aY->Sem aY)(r:R2):Prop:=
 ∀(a:a8) (s:bt) (b:St) (H:Hp) (x y:V) (v u:aY) (Q:VK),Inv X a b H s->RelV x v->RelV y u->r x y H Q->
  wpAny X.md X.A (f v u) (EP X a b Q) X.xe s
def LH(X:Cx)(f:aY->Sem aY)(r:V->Hp->VK->Prop):Prop:=
 ∀(a:a8) (s:bt) (b:St) (H:Hp) (x:V) (v:aY) (Q:VK),Inv X a b H s->RelV x v->r x H Q->
  wpAny X.md X.A (f v) (EP X a b Q) X.xe s
def dA(X:Cx)(f:aY)(r:Z V->Hp->VK->Prop):Prop:=
 ∀(a:a8) (s:bt) (b:St) (H:Hp) (c:Z V) (d:Z aY) (Q:VK),Inv X a b H s->Vals c d->r c H Q->
  wpAny X.md X.A (call f d) (EP X a b Q) X.xe s
def Zjl(X:Cx)(r:V->Hp->(cm->Hp->Prop)->Prop):Prop:=
 ∀(a:a8) (s:bt) (b:St) (H:Hp) (x:V) (v:aY) (Q:cm->Hp->Prop),Inv X a b H s->RelV x v->r x H Q->
  wpAny X.md X.A (truthy v) (TP X a b Q) X.xe s
def jC(r:R2)(c b:TE):TE:=λa H Q=>c a H λx e=>b a e λy d=>r x y d Q
def tUn(r:V->Hp->VK->Prop)(b:TE):TE:=λa H Q=>b a H λx c=>r x c Q
inductive Us(C:Int->Int->Prop)(g:Int->Int->V)(x:V)(y:V)(H:Hp)(Q:VK):Prop
 |mk (i j) (d:x=.int i) (c:y=.int j) (a:C i j) (b:Q (g i j) H):Us C g x y H Q
def rI(C:Int->Int->Prop)(g:Int->Int->V):R2:=λx y H Q=>Us C g x y H Q
inductive Td(g:Int->Int->V)(x:V)(y:V)(H:Hp)(Q:VK):Prop
 |mk (i j) (c:x=.int i) (b:y=.int j) (a:Q (g i j) H):Td g x y H Q
def su(g:Int->Int->V):R2:=λx y H Q=>Td g x y H Q
inductive Ut(g:Int->V)(x:V)(H:Hp)(Q:VK):Prop
 |mk (i) (b:x=.int i) (a:Q (g i) H):Ut g x H Q
def rU(g:Int->V):V->Hp->VK->Prop:=λx H Q=>Ut g x H Q
section
variable {X:Cx}
def KQ(p:PE X a l)(o:PE X b k){c:a8}{s:bt}{d:St}{H:Hp}{R:V->V->Hp->Prop}(I:Inv X c d H s)
  (h:l d H λx j=>k d j λy e=>R x y e){Q:bo}{f:aY->aY->Sem aY}
  (B:∀v u i x y e,Inv X c d e i->RelV x v->RelV y u->R x y e->wpAny X.md X.A (f v u) Q X.xe i):
  wpAny X.md X.A (eval a X.env) (λv r=>wpAny X.md X.A (eval b X.env) (λu q=>wpAny X.md X.A (f v u) Q X.xe q) X.xe r) X.xe s:=by
 refine az (p c s d H _ I h) λv m g=>?_;obtain⟨x,j,t,z,n⟩:=g;refine az (o c m d j _ t n) λu i g=>?_;obtain⟨y,e,C,w,A⟩:=g
 grind
def bj(i:cS X (binaryOp op) r)(k:PE X a f)(j:PE X b e):PE X (.BinOp a op b pos) (jC r f e):=by
 intro c s d H Q I h;exact wpAny_BinOp (KQ k j I h λ v u g x y l=>i c g d l x y v u Q)
def Te(i:LH X (unaryOp op) r)(j:PE X a d):PE X (.UnaryOp op a pos) (tUn r d):=by
 intro b s c H Q I h;exact UnaryOp_ (az (j b s c H _ I h) λv e ⟨x,l,k,f,g⟩=>i b e c l x v Q k f g)
def Dv{f:aY->aY->Sem aY}{C:Int->Int->Prop}{g:Int->Int->Int}
  (a:∀(i j:Int) (t u:Tok) (s:bt) (Q:bo) (E:bo),C i j->Q (.int (g i j) s.toks) {s with toks:=s.toks+1}->wpAny X.md X.A (f (.int i t) (.int j u)) Q E s):
  cS X f (rI C λi j=>.int (g i j)):=by
 rintro b s k H x y v u Q I e d ⟨i,j,rfl,rfl,h,q⟩;obtain⟨t,rfl⟩:=e;obtain⟨c,rfl⟩:=d;exact a i j t c s _ _ h ⟨.int (g i j),H,I.tok _,⟨_,rfl⟩,q⟩
def Uu{f:aY->aY->Sem aY}{g:Int->Int->Int}
  (a:∀(i j:Int) (t u:Tok) (s:bt) (Q:bo) (E:bo),Q (.int (g i j) s.toks) {s with toks:=s.toks+1}->wpAny X.md X.A (f (.int i t) (.int j u)) Q E s):
  cS X f (su λi j=>.int (g i j)):=by
 rintro b s h H x y v u Q I e d ⟨i,j,rfl,rfl,q⟩;obtain⟨t,rfl⟩:=e;obtain⟨c,rfl⟩:=d;exact a i j t c s _ _ ⟨.int (g i j),H,I.tok _,⟨_,rfl⟩,q⟩
def KR{g:Int->Int->cm}
  (a:∀(i j:Int) (t u:Tok) (s:bt) (Q:bo) (E:bo),Q (.bool (g i j)) s->wpAny X.md X.A (f (.int i t) (.int j u)) Q E s):
  cS X f (su λi j=>.bl (g i j)):=by
 rintro b s h H x y v u Q I e d ⟨i,j,rfl,rfl,q⟩;obtain⟨t,rfl⟩:=e;obtain⟨c,rfl⟩:=d;exact a i j t c s _ _ ⟨.bl (g i j),H,I,rfl,q⟩
def KS(i j:Int):Prop:=0<j/\j<1073741824
def Zjm(i j:Int):Prop:=0<=j/\j<=1000000/\i.natAbs<2^64
def wY(i j:Int):Prop:=(-(2^64)<i/\i<2^64)\/(-(2^64)<j/\j<2^64)
def wY.ok(h:wY i j):IntMulOk i j:=by
 rcases h with⟨b,a⟩|⟨b,a⟩;·exact .of_left (intBits_le_64 b a)
 ·exact .of_right (intBits_le_64 b a)
def iI:cS X (binaryOp .Add) (su λi j=>.int (i+j)):=Uu λ_ _ _ _ _ _ _ q=>add_int q
def B7:cS X (binaryOp .Sub) (su λi j=>.int (i-j)):=Uu λ_ _ _ _ _ _ _ q=>sub_int q
def pZ:cS X (binaryOp .Mult) (rI wY λi j=>.int (i*j)):=Dv λ_ _ _ _ _ _ _ a q=>mul_int q a.ok
def BD:cS X (binaryOp .FloorDiv) (rI KS λi j=>.int (i/j)):=Dv λi j _ _ _ _ _ a q=>by
 have b:(0:Int)<j:=a.1;have c:j<1073741824:=a.2;exact floordiv_int (VX b) (by rw[Int.fdiv_eq_ediv_of_nonneg i (Int.le_of_lt b)];exact q) (.inl (PyProof.noPylong_small (by omega)))
def eP:cS X (binaryOp .Mod) (rI (λ_ j=>0<j) λi j=>.int (i % j)):=Dv λi j _ _ _ _ _ a q=>by
 exact mod_int' (VX a) (by rwa[Int.fmod_eq_emod_of_nonneg i (Int.le_of_lt a)])
def JC:cS X (binaryOp .Pow) (rI Zjm λi j=>.int (i^j.toNat)):=Dv λ_ _ _ _ _ _ _ a q=>pow_int_small a.1 a.2.1 a.2.2 q
def unI{f:aY->Sem aY}{g:Int->Int}
  (a:∀(i:Int) (t:Tok) (s:bt) (Q:bo) (E:bo),Q (.int (g i) s.toks) {s with toks:=s.toks+1}->wpAny X.md X.A (f (.int i t)) Q E s):
  LH X f (rU λi=>.int (g i)):=by
 rintro b s d H x v Q I c ⟨i,rfl,q⟩;obtain⟨t,rfl⟩:=c;exact a i t s _ _ ⟨.int (g i),H,I.tok _,⟨_,rfl⟩,q⟩
def RS:LH X (unaryOp .USub) (rU λi=>.int (-i)):=unI λ_ _ _ _ _ q=>neg_int q
end
def zp:V->V->cm
 |.ay,.ay=>af|.ay,.int _=>af|.int _,.ay=>af|.ay,.bl _=>af|.bl _,.ay=>af|.ay,.str _=>af|.str _,.ay=>af
 |.int _,.int _=>af|.bl _,.bl _=>af|.str _,.str _=>af|.kI _,.kI _=>af
 |.int _,.str _=>af|.str _,.int _=>af|.bl _,.str _=>af|.str _,.bl _=>af
 |_,_=>a7
def Vy:R2:=λx y H Q=>zp x y=af/\Q (.bl (decide (x=y))) H
def Vz:R2:=λx y H Q=>zp x y=af/\Q (.bl (!decide (x=y))) H
def QC:decide (V.int i=V.int j)=(i==j):=by
 grind
def RT:decide (V.bl i=V.bl j)=(i==j):=by
 grind
def QD:decide (V.str i=V.str j)=(i==j):=by
 grind
def QE:decide (V.kI i=V.kI j)=(i.toList==j.toList):=by
 rw[We];simp_all
section
variable {b:cu}
def cU(I:Inv X pins σ H s)(q:Q (.bl k) H)(e:k=a):EP X pins σ Q (.bool a) s:=by
 subst e;exact⟨.bl k,H,I,rfl,q⟩
theorem cL:cS X (compareOp .Eq) Vy:=by
 intro f s g H x y v u Q I e a h;obtain⟨d,q⟩:=h;cases x with
 |ay=>
  cases e;cases y with
  |ay=>cases a;exact PySem.EqNone.eq_none_none (cU I q (by simp))
  |bl j=>cases a;exact PySem.EqNone.eq_none_bool (cU I q (by simp))
  |int j=>obtain⟨c,rfl⟩:=a;exact PySem.EqNone.eq_none_int (cU I q (by simp))
  |str j=>obtain⟨c,rfl⟩:=a;exact PySem.EqNone.eq_none_str (cU I q (by simp))
  |_=>exact absurd (d) Yi
 |bl i=>
  cases e;cases y with
  |ay=>cases a;exact PySem.EqNone.eq_bool_none (cU I q (by simp))
  |bl j=>cases a;exact eq_bool (cU I q RT)
  |str j=>obtain⟨c,rfl⟩:=a;exact PySem.EqMixed.eq_bool_str (cU I q (by simp))
  |_=>exact absurd (d) Yi
 |int i=>
  obtain⟨t,rfl⟩:=e;cases y with
  |ay=>cases a;exact PySem.EqNone.eq_int_none (cU I q (by simp))
  |int j=>obtain⟨c,rfl⟩:=a;exact eq_int (cU I q QC)
  |str j=>obtain⟨c,rfl⟩:=a;exact PySem.EqMixed.eq_int_str (cU I q (by simp))
  |_=>exact absurd (d) Yi
 |str i=>
  obtain⟨t,rfl⟩:=e;cases y with
  |ay=>cases a;exact PySem.EqNone.eq_str_none (cU I q (by simp))
  |bl j=>cases a;exact PySem.EqMixed.eq_str_bool (cU I q (by simp))
  |int j=>obtain⟨c,rfl⟩:=a;exact PySem.EqMixed.eq_str_int (cU I q (by simp))
  |str j=>obtain⟨c,rfl⟩:=a;exact eq_str (cU I q QD)
  |_=>exact absurd (d) Yi
 |kI i=>
  obtain⟨t,rfl⟩:=e;cases y with
  |kI j=>obtain⟨c,rfl⟩:=a;exact PySem.W.eq_bytes (cU I q QE)
  |_=>exact absurd (d) Yi
 |_=>cases y<;>exact absurd (d) Yi
theorem mI:cS X (compareOp .NotEq) Vz:=by
 intro f s g H x y v u Q I e a h;obtain⟨d,q⟩:=h;cases x with
 |ay=>
  cases e;cases y with
  |ay=>cases a;exact PySem.EqNone.ne_none_none (cU I q (by simp))
  |bl j=>cases a;exact PySem.EqNone.ne_none_bool (cU I q (by simp))
  |int j=>obtain⟨c,rfl⟩:=a;exact PySem.EqNone.ne_none_int (cU I q (by simp))
  |str j=>obtain⟨c,rfl⟩:=a;exact PySem.EqNone.ne_none_str (cU I q (by simp))
  |_=>exact absurd (d) Yi
 |bl i=>
  cases e;cases y with
  |ay=>cases a;exact PySem.EqNone.ne_bool_none (cU I q (by simp))
  |bl j=>cases a;exact ne_bool (cU I q (dC not RT))
  |str j=>obtain⟨c,rfl⟩:=a;exact PySem.EqMixed.ne_bool_str (cU I q (by simp))
  |_=>exact absurd (d) Yi
 |int i=>
  obtain⟨t,rfl⟩:=e;cases y with
  |ay=>cases a;exact PySem.EqNone.ne_int_none (cU I q (by simp))
  |int j=>obtain⟨c,rfl⟩:=a;exact ne_int (cU I q (dC not QC))
  |str j=>obtain⟨c,rfl⟩:=a;exact PySem.EqMixed.ne_int_str (cU I q (by simp))
  |_=>exact absurd (d) Yi
 |str i=>
  obtain⟨t,rfl⟩:=e;cases y with
  |ay=>cases a;exact PySem.EqNone.ne_str_none (cU I q (by simp))
  |bl j=>cases a;exact PySem.EqMixed.ne_str_bool (cU I q (by simp))
  |int j=>obtain⟨c,rfl⟩:=a;exact PySem.EqMixed.ne_str_int (cU I q (by simp))
  |str j=>obtain⟨c,rfl⟩:=a;exact ne_str (cU I q (dC not QD))
  |_=>exact absurd (d) Yi
 |kI i=>
  obtain⟨t,rfl⟩:=e;cases y with
  |kI j=>obtain⟨c,rfl⟩:=a;exact PySem.W.ne_bytes (cU I q (dC not QE))
  |_=>exact absurd (d) Yi
 |_=>cases y<;>exact absurd (d) Yi
def oO:cS X (compareOp .Lt) (su λi j=>.bl (decide (i<j))):=KR λ_ _ _ _ _ _ _ q=>lt_int q
def Co:cS X (compareOp .Gt) (su λi j=>.bl (decide (j<i))):=KR λ_ _ _ _ _ _ _ q=>gt_int q
def Zio:cS X (compareOp .GtE) (su λi j=>.bl (decide (j<=i))):=KR λ_ _ _ _ _ _ _ q=>ge_int q
def ZcS:cS X (compareOp .In) (λx y H Q=>∃i j,x=.str i/\y=.str j/\Q (.bl (!(Builtin.Str.occurrences j i 0 j.length 1).isEmpty)) H):=by
 intro a s e H x y v u Q I d c h;obtain⟨i,j,rfl,rfl,q⟩:=h;obtain⟨t,rfl⟩:=d;obtain⟨f,rfl⟩:=c;exact in_str (cU I q rfl)
theorem B8:cS X (compareOp .Is) (λx y H Q=>y=.ay/\Q (.bl (decide (x=.ay))) H):=by
 intro c s e H x y v u Q I a d h;obtain⟨rfl,q⟩:=h;cases d;refine is_none_gen (cU I q ?_);cases x<;>first
  |(cases a;rfl)
  |(obtain⟨t,rfl⟩:=a;rfl)
theorem BE:cS X (compareOp .IsNot) (λx y H Q=>y=.ay/\Q (.bl (!decide (x=.ay))) H):=by
 rintro c s e H x y v u Q I a d ⟨rfl,q⟩;cases d;refine isnot_none_gen (cU I q ?_);cases x<;>first
  |(cases a;rfl)
  |(obtain⟨t,rfl⟩:=a;rfl)
def ZaB:cS X (compareOp .NotIn) (λx y H Q=>∃i j,x=.str i/\y=.str j/\Q (.bl (!(!(Builtin.Str.occurrences j i 0 j.length 1).isEmpty))) H):=by
 rintro a s e H x y v u Q I d c ⟨i,j,rfl,rfl,q⟩;obtain⟨t,rfl⟩:=d;obtain⟨f,rfl⟩:=c;exact notIn_str (cU I q rfl)
def RU(b:cu){a:CmpOp}(h:a≠.In:=by decide)(c:a≠.NotIn:=by decide):behindInMarks a b=a7:=by
 have e:(a==CmpOp.In)=a7:=by cases a<;>first|rfl|exact absurd rfl h
 have d:(a==CmpOp.NotIn)=a7:=by cases a<;>first|rfl|exact absurd rfl c
 cases b<;>simp[behindInMarks,e,d]
def BG(i:cS X (compareOp op) r)(l:PE X a f)(k:PE X b e)(j:behindInMarks op b=a7):PE X (.Compare a [op] [b] pos) (jC r f e):=by
 intro c s d H Q I h;exact Vp (KQ l k I h λ v u g x y m=>i c g d m x y v u Q) j
inductive QF(Q:cm->Hp->Prop)(x:V)(a:Hp):Prop
 |mk (k) (d:x=.bl k) (c:Q k a):QF Q x a
def Km(t:TE):TT:=λa H Q=>t a H λx c=>QF Q x c
def ic(w:cS X (compareOp op) r)(C:PE X a i)(B:PE X b g)(A:behindInMarks op b=a7):PT X (.Compare a [op] [b] pos) (Km (jC r i g)):=by
 intro d s f H Q I h;refine B2 (az (C d s f H _ I h) λv l ⟨x,L,F,o,t⟩=>az (B d l f L _ F t) λu j ⟨y,J,E,n,q⟩=>
  az (w d j f J x y v u _ E o n q) λc N ⟨z,G,D,m,k,e,p⟩=>?_) A
 subst e;cases m;exact mh ⟨G,D,p⟩
def CG(K:ah)(x:V)(H:Hp)(k:cm):Prop:=
 match x with
 |.ay=>k=a7
 |.bl b=>k=b
 |.int i=>k=(i !=0)
 |.str y=>y.length<=sizeLine/\k=((y.length:Int)!=0)
 |.kI y=>y.size<=sizeLine/\k=((y.size:Int)!=0)
 |.ref p=>(∃a,ak K H p a/\k=!a.isEmpty)\/(∃a,aB K H p a/\k=!a.isEmpty)\/∃c,H p=U (.dK c)/\k=!c.isEmpty
 |_=>False
def ZbR(r:KV a c):(!c.isEmpty)=!a.isEmpty:=by
 cases r<;>rfl
def N3(r:Vals xs a):(!a.toArray.isEmpty)=!xs.isEmpty:=by
 cases r<;>simp
def tZ:(sizeLine:Nat)<2^63:=by rw[c4];decide
theorem ZgT:Zjl X (λx H Q=>∃k,CG X.K x H k/\Q k H):=by
 intro l s A H x v Q I f h;obtain⟨k,e,q⟩:=h;have B:sizeLine=16777216:=c4;cases x with
 |ay=>
  cases f;have a:k=a7:=e;subst a;exact truthy_none ⟨H,I,q⟩
 |bl b=>
  cases f;have a:k=b:=e;subst a;exact mh ⟨H,I,q⟩
 |int i=>
  obtain⟨t,rfl⟩:=f;have a:k=(i !=0):=e;subst a;exact PySem.P.truthy_int ⟨H,I,q⟩
 |str y=>
  obtain⟨t,rfl⟩:=f;obtain⟨o,a⟩:y.length<=sizeLine/\k=((y.length:Int)!=0):=e;subst a;exact PySem.P.truthy_str (by omega) ⟨H,I.tok _,q⟩
 |kI y=>
  obtain⟨t,rfl⟩:=f;obtain⟨o,a⟩:y.size<=sizeLine/\k=((y.size:Int)!=0):=e;subst a;exact PySem.W.truthy_bytes (dI o (by decide)) ⟨H,I.tok _,q⟩
 |ref p=>
  cases f;have a:=e;rcases a with⟨u,g,a⟩|⟨u,g,a⟩|⟨d,g,a⟩
  ·subst a;obtain⟨z,r,j,n⟩:=I.list g;have c:=r.length;exact wpAny_truthy_list j.isList (by simp only[Yq];omega) ⟨H,I.tok _,by rw[N3 r];exact q⟩
  ·subst a;obtain⟨z,r,j,n⟩:=I.tuple g;have c:=r.length;exact truthy_tuple j (by simp only[Yq];omega) ⟨H,I.tok _,by rw[N3 r];exact q⟩
  ·subst a;obtain⟨n,w,vs,r,m⟩:d.length<=sizeLine/\(p==sysModules)=a7/\∃vs,KV d vs/\s.heap.DictOf (dW X.prog X.w) p vs:=I.aw p _ g;have c:d.length=vs.length:=Paired.length r;exact wpAny_truthy_dict w m (by omega) ⟨H,I.tok _,by rwa[ZbR r]⟩
 |_=>exact(e).elim
def Ii(n:PE X a g)(m:∀c,isTrue a X.env c=(do let v←c;standAt a.pos;holding [v] (truthy v))):
  PT X a (λe H Q=>g e H λx f=>∃k,CG X.K x f k/\Q k f):=by
 intro d s e H Q I h;exact isTrue_plain (az (n d s e H _ I h) λv i ⟨x,p,o,j,l⟩=>ZgT d i e p x v Q o j l) (m _)
def vS:cS X (binaryOp .Add) (λx y H Q=>∃i j,x=.str i/\y=.str j/\i.length+j.length<=sizeLine/\Q (.str (i++j)) H):=by
 rintro a s g H x y v u Q I e d ⟨i,j,rfl,rfl,f,q⟩;obtain⟨t,rfl⟩:=e;obtain⟨c,rfl⟩:=d;exact add_str (λc h=>⟨.str (i++j),H,I.tok _,⟨_,rfl⟩,q⟩) f
theorem vals1(r:Vals [x] us):∃u,us=[u]/\RelV x u:=by
 cases r with
 |cons c a=>cases a;exact⟨_,rfl,c⟩
theorem vals2(r:Vals [x,y] us):∃u w',us=[u,w']/\RelV x u/\RelV y w':=by
 cases r with
 |cons e d=>
  cases d with
  |cons c a=>cases a;exact⟨_,_,rfl,e,c⟩
def Pq:dA X (.builtin "abs") (λa H Q=>∃i,a=[.int i]/\Q (.int (if i<0 then-i else i)) H):=by
 rintro c s d H a e Q I r ⟨i,rfl,q⟩;obtain⟨u,rfl,t,rfl⟩:=vals1 r;exact call_abs_int λu f=>⟨.int (if i<0 then-i else i),H,I.tok _,⟨_,rfl⟩,q⟩
def FV:dA X (.type "str") (λa H Q=>∃i,a=[.int i]/\i.natAbs.log2<1920/\Q (.str (toString i)) H):=by
 rintro c s e H a f Q I r ⟨i,rfl,d,q⟩;obtain⟨u,rfl,t,rfl⟩:=vals1 r;exact PySem.P.str_of_int d ⟨.str _,H,I.tok _,⟨_,rfl⟩,q⟩
end
structure uj(h:cI)(x dx C:O)(mA:aU):Prop where
 obj:h.get? x=U (instObj C dx)
 ns:h.Ns1 dx mA
 ne:dx≠x
def Hw{h:cI}(n:h.Ns1 m f):∃c,h.get? m=U c/\∀b,lookIn b c=U (f b):=by
 obtain⟨o,l,p,i,hd,k,_,j⟩:=n;refine⟨o,i,λb=>?_⟩;have e:=j b;unfold nsFind findBy at e;rw[←Array.find?_toList] at e;unfold lookIn;rw[hd];dsimp;split;·grind
 ·rename_i q
  have a:l.toList.any (·.refKey)=a7:=by
   rw[Jv];intro y g;obtain⟨z,t,d⟩:=k y (Array.mem_toList_iff.mp g);simp[DictEntry.refKey,d]
  grind
def uj.look(I:uj h x f C c):∃b,PySem.W.InstAt h x (instObj C f) C (U b)/\∀a,lookIn a b=U (c a):=
 let⟨b,d,e⟩:=Hw I.ns
 ⟨b,⟨I.obj,rfl,rfl,d⟩,e⟩
section
variable {T:cZ}{w:cN}{A:eL}{E:bo}{s:bt}{K:ah}{x P C f:O}{mA:aU}{W:ar}{v:aY}
def get_map{a:cm}{Q:bo}(X:K.In s.heap)(I:uj s.heap x P C mA)(g:plainGet K C W=af)(e:hasDictIn K C=af)
  (i:PySem.W.findIn K (.ref C) W=U aJ)(c:mA W=U v)(b:handedIn v=af)(h:Q v {s with toks:=s.toks+1}):
  wpAny (model T w) A (getAttr (.ref x) W a) Q E s:=by
 obtain⟨j,J,d⟩:=I.look;exact PySem.W.get_value X J (xy g).1 (findObj_own e i rfl (by rw[d,c])) b h
def ZdN(X:K.In s.heap)(I:uj s.heap x P C mA)(a:plainGet K C W=af)
  (g:PySem.W.findIn K (.ref C) W=U (U (.ref f)))(d:isFn K (.ref f)=af)(c:mA W=aJ)(h:Q (.ref f,[.ref x]) s):
  wpAny (model T w) A (getMethod (.ref x) W i) Q E s:=by
 obtain⟨b,J,e⟩:=I.look;exact PySem.W.method_fn X J (xy a).1 (xy a).2 g (beq_iff_eq.mp d) (by show(lookIn W b).map (·.isSome)=U a7;rw[e,c];rfl) h
def Zfn{d:Z ar}{Q:Unit->bt->Prop}(X:K.In s.heap)(I:uj s.heap x P C mA)
  (n:PySem.W.findIn K (.ref C) "__setattr__"=U (U (.builtin "object.__setattr__")))(o:plainOver K C=af)(l:takerIn K C W=U aJ)(p:hasDictIn K C=af)
  (k:PySem.Within mA d)(m:d.length<=sizeLine)
  (h:∀a,uj a x P C (λy=>if y=W then U v else mA y)->Heap.SameBut P s.heap a->Q () {s with heap:=a,toks:=s.toks+2}):
  wpAny (model T w) A (setAttr (.ref x) W v) Q E s:=by
 obtain⟨t,J,z⟩:=I.look;refine set_plain X J n (PySem.W.osa_open X J o l λb=>?_);obtain⟨B,q,r⟩:=tr p;refine bp (cD (bp (bp (s_ I.obj (bp (PySem.W.Looks.here (PySem.W.looks_clsIn X q) ?_))))));rw[r];refine cD (bp (cD (bp (vr I.ns λa e c=>?_))));obtain⟨u,F,D,j,i,g⟩:=e.count (uV W v k);exact bp (uW j (by exact i▸u6 (Yz g (by rw[Wg];exact m_ m (by decide)))) (cD (h _ ⟨(c.2 _ (jm I.ne)).trans I.obj,e,I.ne⟩ c)))
def ZdO{R:Result->bt->Prop}{a:Z aY}{b:Z (ar×aY)}(X:K.In s.heap)(c:makesIn K C=af)
  (e:PySem.W.findIn K (.ref C) "__init__"=U (U (.ref f)))(i:typeIn K (.ref f)=U (.type "function"))
  (h:codeAny (model T w) (A.under (.builtin "type.__call__" ⟨.ref C::a,b⟩)) (.call (.ref f) ⟨.ref (s.heap.objs.size+1)::a,b⟩) (PySem.W.InitBack (s.heap.objs.size+1) R)
   {s with heap:=(s.heap.push emptyDict).push (instObj C s.heap.objs.size)}):
  codeAny (model T w) A (.call (.ref C) ⟨a,b⟩) R s:=by
 obtain⟨j,g,d,t,os⟩:=s;exact PySem.W.make_core (PySem.W.makes_of X c) (PySem.W.looks_findIn X e) (λself=>PySem.W.bind_fn X self i) (.inl rfl) h
end
def c8(f:ar)(v:V):Z (ar×V)->Z (ar×V)
 |[]=>[(f,v)]
 |(g,x)::r=>if g=f then(g,v)::r else(g,x)::c8 f v r
theorem Gd(f g:ar)(v:V):∀fs:Z (ar×V),(c8 f v fs).lookup g=if g=f then U v else fs.lookup g
 |[]=>by
  show List.lookup g [(f,v)]=_
  grind
 |(k,x)::r=>by
  have a:=Gd f g v r;rw[show c8 f v ((k,x)::r)=(if k=f then(k,v)::r else(k,x)::c8 f v r) from rfl]
  grind
theorem yD(f:ar)(v:V):∀fs:Z (ar×V),f∈(c8 f v fs).map (·.1)/\∀g,g∈fs.map (·.1)->g∈(c8 f v fs).map (·.1)
 |[]=>⟨by simp[c8],λg h=>by simp at h⟩
 |(k,x)::r=>by
  obtain⟨b,a⟩:=yD f v r;rw[show c8 f v ((k,x)::r)=(if k=f then(k,v)::r else(k,x)::c8 f v r) from rfl]
  grind
theorem Ge(f:ar)(v:V):∀fs:Z (ar×V),(c8 f v fs).length<=fs.length+1
 |[]=>by simp[c8]
 |(k,x)::r=>by
  have a:=Ge f v r;rw[show c8 f v ((k,x)::r)=(if k=f then(k,v)::r else(k,x)::c8 f v r) from rfl]
  (split<;>simp_all)
theorem fw.some_of(r:fw (U v) o):∃u,o=U u/\RelV v u:=by
 cases o with
 |none=>exact(r).elim
 |some u=>exact⟨u,rfl,r⟩
theorem fw.none_of(r:fw aJ o):o=aJ:=by
 cases o with
 |none=>rfl
 |some u=>exact(r).elim
theorem OH(r:RelV v u):handedIn u=af:=by
 cases v with
 |ay=>cases(r);rfl
 |bl b=>cases(r);rfl
 |int i=>obtain⟨t,e⟩:=(show ∃t,u=Value.int i t from r);cases e;rfl
 |str x=>obtain⟨t,e⟩:=(show ∃t,u=Value.str x t from r);cases e;rfl
 |kI b=>obtain⟨t,e⟩:=(show ∃t,u=Value.bytes b t from r);cases e;rfl
 |uF b=>obtain⟨t,e⟩:=(show ∃t,u=Value.float b t from r);cases e;rfl
 |ref a=>cases(r);rfl
 |ty n=>cases(r);rfl
def BH(i:dz P w H h)(e:H a=U (.ins C c fs)):∃b,uj h a c C b/\(∀f,fw (fs.lookup f) (b f))/\PySem.Within b (fs.map (·.1))/\fs.length<=1000/\H c=U (.own a):=by
 obtain⟨d,z,ne,g,b,n,r,q⟩:=(i a _ e);exact⟨b,⟨g,n,ne⟩,r,q,z,d⟩
structure hU(K:ah)(C:O):Prop where
 pg:plainGet K C Str.empty=af
 hd:hasDictIn K C=af
 po:plainOver K C=af
 sa:PySem.W.findIn K (.ref C) "__setattr__"=U (U (.builtin "object.__setattr__"))
def hU.get{K:ah}(c:hU K C)(f:ar):plainGet K C f=af:=c.pg
def dG(K:ah)(C:O)(f:ar):Prop:=PySem.W.findIn K (.ref C) f=U aJ
def dG.Ziq{K:ah}(n:dG K C f):takerIn K C f=U aJ:=by
 unfold takerIn;rw[n];rfl
structure Meth(K:ah)(C:O)(m:ar)(f:O):Prop where
 at_:PySem.W.findIn K (.ref C) m=U (U (.ref f))
 fn:isFn K (.ref f)=af
 kp:keepIn K (.ref f)=af
def ZbS(I:Inv X pins σ H s)(e:H a=U (.ins C m fs))(c:hU X.K C)(n:dG X.K C f)(l:fs.lookup f=U v)
  (h:∀u g,Inv X pins σ H g->RelV v u->Q u g):wpAny X.md A (getAttr (.ref a) f b) Q E s:=by
 obtain⟨k,d,r,_,_,_⟩:=BH I.aw e;obtain⟨u,j,i⟩:=fw.some_of (by exact l▸r f);exact get_map I.cO d (c.get f) c.hd n j (OH i) (h u _ (I.tok _) i)
def GP(I:Inv X pins σ H s)(e:H a=U (.ins C i fs))(c:hU X.K C)(k:Meth X.K C m g)(l:fs.lookup m=aJ)
  (h:Q (.ref g,[.ref a]) s):wpAny X.md A (getMethod (.ref a) m d) Q E s:=by
 obtain⟨f,b,r,_,_,_⟩:=BH I.aw e;exact ZdN I.cO b (c.get m) k.at_ k.fn (fw.none_of (by exact l▸r m)) h
def N4(I:Inv X pins σ H s)(e:H a=U (.ins C x fs))(c:hU X.K C)(n:dG X.K C f)(F:fs.length<1000)(B:RelV y u)
  (h:∀k,Inv X pins σ (upd H a (.ins C x (c8 f y fs))) k->Q () k):wpAny X.md A (setAttr (.ref a) f u) Q E s:=by
 obtain⟨D,d,r,j,_,p⟩:=BH I.aw e;have m:(fs.map (·.1)).length<=sizeLine:=by rw[Ya,c4];exact m6 (hT F (by decide))
 refine Zfn I.cO d c.sa c.po n.Ziq c.hd j m λG i l=>h _ (I.write (by exact e▸hY) (.inr p) (λb q v z=>(l.2 b v).trans z) (let⟨o,_,_,w,_⟩:=i.ns;⟨o,w⟩) ⟨by rwa[aA d.ne],?_,d.ne,i.obj,_,i.ns,λg=>?_,λg t=>?_⟩);·have:=Ge f y fs;exact d6 this (ot F)
 ·rw[Gd];by_cases q:g=f;·rwa[bS q,bS q]
  ·grind
 ·by_cases q:g=f;·exact q▸(yD f y fs).1
  ·refine(yD f y fs).2 g (j g λz=>t ?_)
   grind
def Inv.made(I:Inv X pins σ H s):Inv X pins σ (upd (upd H s.heap.objs.size (.own (s.heap.objs.size+1))) (s.heap.objs.size+1) (.ins C s.heap.objs.size []))
  {s with heap:=(s.heap.push emptyDict).push (instObj C s.heap.objs.size)}:=by
 have c:(s.heap.push emptyDict).get? s.heap.objs.size=U emptyDict:=Yp s.heap rfl;have g:((s.heap.push emptyDict).push (instObj C s.heap.objs.size)).get? (s.heap.objs.size+1)=U (instObj C s.heap.objs.size):=by
  have:=Yp (s.heap.push emptyDict) (o:=instObj C s.heap.objs.size) rfl
  rwa [Jp] at this
 have f:(s.heap.push emptyDict).Ns s.heap.objs.size (λ_=>aJ):=⟨emptyDict,#[],_,c,rfl,(λe d=>absurd d (by simp)),λ_=>rfl⟩;have h:=I.laid (a:=s.heap.objs.size) (o:=.own (s.heap.objs.size+1)) (h':=s.heap.push emptyDict) (t':=s.toks) (λb u q=>Yb _ q) (Yd _) ⟨_,c⟩;refine h.laid (λb u q=>Yb _ q) (LI (Jp _ _)) ?_;have ne:s.heap.objs.size≠s.heap.objs.size+1:=Yy (Jf _);refine⟨by rw[aA ne,aQ],Yx _,ne,g,λ_=>aJ,(MO f).at λ o=>Yb _,λ_=>hY,λ y=>absurd rfl⟩
def QG(a:attributeBase e f env (eval e env)=eval e env)
  (h:wpAny (model prog w) A (eval e env) (λo b=>wpAny (model prog w) A (getAttr o f af) Q E b) E s):wpAny (model prog w) A (eval (.Attribute e f pos) env) Q E s:=
 Attribute_any_ h (by rw[arm_eval_Attribute,a])
inductive RV(K:ah)(f:ar)(Q:VK)(x:V)(b:Hp):Prop
 |mk (a C c fs v) (j:x=.ref a) (i:b a=U (.ins C c fs)) (g:hU K C) (h:dG K C f) (e:fs.lookup f=U v) (d:Q v b):RV K f Q x b
def KU(K:ah)(b:TE)(f:ar):TE:=λa H Q=>b a H λx c=>RV K f Q x c
def Zjn(K:ah)(g e:TE)(f:ar):TS:=λD b H=>e b H λy h=>g b h λx d=>∃a C c fs,x=.ref a/\d a=U (.ins C c fs)/\hU K C/\dG K C f/\fs.length<1000/\
 D.nx b (upd d a (.ins C c (c8 f y fs)))
def ZgU(m:PE X e i)(o:attributeBase e f X.env (eval e X.env)=eval e X.env):PE X (.Attribute e f pos) (KU X.K i f):=by
 intro b s d H Q I h;refine QG o (az (m b s d H _ I h) λu B g=>?_);obtain⟨x,y,w,j,a,C,D,fs,v,p,r,c,n,l,q⟩:=g;subst p;obtain rfl:u=Value.ref a:=j;exact ZbS w r c n l λz A t k=>⟨v,y,t,k,q⟩
def yV(w:PE X o i)(t:PE X value g)(v:swapsWith value (U (.Attribute o f pos')) pos.line X.env=pure a7):PS X (.Assign [.Attribute o f pos'] value pos) (Zjn X.K i g f):=by
 intro b s d H D I h;refine uk (az (t b s d H _ I h) λu j e=>?_) v;obtain⟨y,G,F,k,q⟩:=e;refine az (w b j d G _ F q) λr L e=>?_;obtain⟨x,P,E,m,a,C,N,fs,z,A,c,n,l,p⟩:=e;subst z;obtain rfl:r=Value.ref a:=m;exact N4 E A c n l k λJ B=>⟨d,_,B,p⟩
section
variable {X:Cx}{W:a8}{σ:St}{H:Hp}{s:bt}{A:eL}{E:bo}{Q:bo}{c:aY}{b:cm}
inductive jW(K:ah)(H:Hp):V->aY->Prop where
 |ay:jW K H .ay (.type "NoneType")
 |bl (x:cm):jW K H (.bl x) (.type "bool")
 |int (i:Int):jW K H (.int i) (.type "int")
 |str (x:ar):jW K H (.str x) (.type "str")
 |uF (x:UInt64):jW K H (.uF x) (.type "float")
 |lst {a:O} {f:Z V} (e:H a=U (.lst f)):jW K H (.ref a) (.type "list")
 |bU {a:O} {o:Obj} {f:Z V} (e:H a=U (.bU o (.lst f))):jW K H (.ref a) (.type "list")
 |tup {a:O} {f:Z V} (e:H a=U (.tup f)):jW K H (.ref a) (.type "tuple")
 |dK {a:O} {d:Z (Key×V)} (e:H a=U (.dK d)):jW K H (.ref a) (.type "dict")
 |dT {a:O} {d:Z (Z Key×V)} (e:H a=U (.dT d)):jW K H (.ref a) (.type "dict")
 |ins {a C g:O} {fs:Z (ar×V)} (e:H a=U (.ins C g fs)) (j:hU K C) (h:PySem.W.findIn K (.ref C) "__class__"=U (U (.builtin "object.__class__")))
   (hn:specialIn K (.builtin "object.__class__") "__get__"=U (U (.builtin "getset_descriptor.__get__"))) (VC:takesIn K (.builtin "object.__class__")=U af)
   (hm:PySem.W.mroIn K C (.type "object")=U af):jW K H (.ref a) (.ref C)
theorem ZcT{x:V}{u t:aY}(I:Inv X W σ H s)(f:RelV x u)(r:jW X.K H x t)(e:kitOne X.K t c=U b)(h:∀v,Q (.bool b) {s with toks:=v}):
  wpAny X.md A (call (.builtin "isinstance") [u,c]) Q E s:=by
 cases r with
 |ay=>cases(show u=Value.none from f);exact kM PySem.W.kitx_none I.cO hY e (λz=>nomatch z) h
 |bl y=>cases(show u=Value.bool y from f);exact kM PySem.W.kitx_bool I.cO hY e (λz=>nomatch z) h
 |int i=>obtain⟨t,q⟩:=(show ∃t,u=Value.int i t from f);cases q;exact kM PySem.W.kitx_int I.cO hY e (λz=>nomatch z) h
 |str y=>obtain⟨t,q⟩:=(show ∃t,u=Value.str y t from f);cases q;exact kM PySem.W.kitx_str I.cO hY e (λz=>nomatch z) h
 |uF y=>obtain⟨t,q⟩:=(show ∃t,u=Value.float y t from f);cases q;exact kM PySem.W.kitx_float I.cO hY e (λz=>nomatch z) h
 |@lst a l g=>
  cases(show u=Value.ref a from f);obtain⟨_,_,n,_,j⟩:=(show cH X.prog X.w H s.heap a (.lst l) from I.aw a _ g);exact kM kitx_list I.cO ⟨_,j,rfl⟩ e (λz=>nomatch z) h
 |@bU a w l g=>
  cases(show u=Value.ref a from f);obtain⟨_,_,_,n,_,j⟩:=(show cH X.prog X.w H s.heap a (.bU w (.lst l)) from I.aw a _ g);exact kM kitx_list I.cO ⟨_,j,rfl⟩ e (λz=>nomatch z) h
 |@tup a l g=>
  cases(show u=Value.ref a from f);obtain⟨_,_,_,p⟩:=(show cH X.prog X.w H s.heap a (.tup l) from I.aw a _ g);obtain⟨o,j,m,_⟩:=p;exact kM PySem.W.kitx_tuple I.cO ⟨o,j,m⟩ e (λz=>nomatch z) h
 |@dK a k g=>
  cases(show u=Value.ref a from f);obtain⟨_,_,N,_,p⟩:=(show cH X.prog X.w H s.heap a (.dK k) from I.aw a _ g);obtain⟨o,F,G,j,m,_⟩:=p;exact kM kitx_dict I.cO ⟨o,j,m.1⟩ e (λz=>nomatch z) h
 |@dT a k g=>
  cases(show u=Value.ref a from f);obtain⟨_,_,l,_,o,F,G,j,m,_⟩:=(show cH X.prog X.w H s.heap a (.dT k) from I.aw a _ g);exact kM kitx_dict I.cO ⟨o,j,m.1⟩ e (λz=>nomatch z) h
 |@ins a C T fs g cl D B L hm=>
  cases(show u=Value.ref a from f);obtain⟨R,d,_⟩:=BH I.aw g;obtain⟨P,J,_⟩:=d.look;exact kM (PySem.W.kitx_own (cl.get _) cl.hd D B L hm) I.cO J e (λz=>nomatch z) h
end
structure c5(k:Nat)(A:eL):Prop where
 hd:A.handled=aJ
 dp:A.depth+3*k+5<recursionLimit
 un:A.units+16*k+200<cLine
 gd:A.guards=U []
def c5.mono(r:c5 k A)(h:j<=k):c5 j A:=⟨r.hd,by have:=r.dp;omega,by have:=r.un;omega,r.gd⟩
def c5.deeper(r:c5 (k+1) A)(a:Env):c5 k (A.deeper a):=
 ⟨r.hd,by have:=r.dp;show A.depth+1+3*k+5<_;omega,by have:=r.un;show A.units+3+16*k+200<_;omega,r.gd⟩
def ZbT{A:eL}:(A.under (.builtin "type.__call__" ⟨.ref C::us,kw⟩)).depth=A.depth+1:=by
 rfl
def ZbU{A:eL}:(A.under (.builtin "type.__call__" ⟨.ref C::us,kw⟩)).units=A.units+1:=by
 rfl
def c5.make(r:c5 (k+1) A)(C:O)(a:Z aY)(b:Z (ar×aY)):c5 k (A.under (.builtin "type.__call__" ⟨.ref C::a,b⟩)):=
 ⟨r.hd,by have:=r.dp;rw[ZbT];omega,by have:=r.un;rw[ZbU];omega,by first|exact r.gd|simpa[Around.under,Code.isGuard,Code.isFrame,guardIds] using r.gd⟩
def c5.depth(r:c5 k A):A.depth<recursionLimit:=by have:=r.dp;omega
def c5.units(r:c5 k A):A.units+64<cLine:=by have:=r.un;omega
def c5.t4(r:c5 k A):A.units<cLine:=by have:=r.un;omega
def jX:TA:=λ_ H Q=>Q [] H
def iJ(d:TE)(c:TA):TA:=λa H Q=>d a H λx f=>c a f λb e=>Q (x::b) e
section
variable {X:Cx}{e:cu}{W:Z cu}{T:TE}{t:TA}
def ag:PA X [] jX:=λ_ _ _ _ H Q I h=>rb ⟨[],H,I,.nil,h⟩
def aa(n:PE X e T)(m:PA X W t)(l:jB X e W:=by rfl):PA X (e::W) (iJ T t):=by
 intro b a s c H Q I h;exact l▸n5 (az (n a s c H _ I h) λu f ⟨x,r,p,i,k⟩=>az (m b a f c r _ p k) λv w ⟨d,q,o,g,j⟩=>⟨x::d,q,o,.cons i g,j⟩)
def Zjo(t:TA):TE:=λc H Q=>t c H λa b=>a.length<=sizeLine/\∀p,b p=aJ->Q (.ref p) (upd b p (.lst a))
def yW(h:PA X W t):PE X (.List W pos) (Zjo t):=by
 intro a s f H Q I j;refine Eh (az (h pos a s f H _ I j) λi c e=>?_);obtain⟨g,k,d,r,z,q⟩:=e;refine⟨by rwa[←r.length],⟨.ref c.heap.objs.size,upd k c.heap.objs.size (.lst g),d.laid (λ b u=>Yb _) (Yd _) ?_,rfl,q _ (d.aw.fresh (Yd _))⟩⟩;exact⟨z,i,0,r,Yp _ rfl⟩
end
abbrev Sp:=Z V->Hp->VK->XK->Prop
abbrev lG:=Z Env->Hp->bt->XK->aY->bt->Prop
structure uo(P:cZ)(w:cN)(K:ah)(mg:aU)(base:cI)(A:eL)(outer:Z Env)(s:bt)(H:Hp):Prop where
 frames:A.frames=U outer
 mod:Mod K mg base
 bs:∀b o,base.get? b=U o->s.heap.get? b=U o/\H b=aJ
 mS:base.objs.size<=s.heap.objs.size
 jV:s.heap.FunFrames base outer
 nR:∀b∈c9 outer,H b=aJ
 aw:dz P w H s.heap
 bare:AllBare s.gens
def CE(a:Z Env)(P:cZ)(w:cN)(H:Hp)(s:bt)(Q:VK)(u:aY)(b:bt):Prop:=
 ∃v c,b.os=s.os/\AllBare b.gens/\Un (c9 a) [] H c s.heap b.heap/\dz P w c b.heap/\RelV v u/\Q v c
def CR(c:lG)(a:Z Env)(P:cZ)(w:cN)(H:Hp)(s:bt)(Q:VK)(E:XK)(r:Result)(b:bt):Prop:=
 match r with
 |.ok (.ret u)=>CE a P w H s Q u b
 |.ok _=>False
 |.error e=>c a H s E e b
structure aI(P:cZ)(w:cN)(K:ah)(mg:aU)(base:cI)(CX:lG)(k:Nat)(f:O)(fd:FuncData)(ps:Z ar)(sp:Sp):Prop where
 len:∀vs H Q E,sp vs H Q E->vs.length=ps.length
 run:∀(A:eL) (outer:Z Env) (s:bt) (H:Hp) (args:Args) (us:Z aY) (vs:Z V) (Q:VK) (E:XK),c5 k A->uo P w K mg base A outer s H->BindsTo s fd args (ps.zip us)->Vals vs us->sp vs H Q E->
  codeAny (model P w) A (.call (.ref f) args) (CR CX outer P w H s Q E) s
def uo.make{K:ah}(e:uo P w K b base A outer s H)(C:O)(a:Z aY)(c:Z (ar×aY)):
  uo P w K b base (A.under (.builtin "type.__call__" ⟨.ref C::a,c⟩)) outer s H:=⟨by first|exact e.frames|(simpa[Around.under,Code.envs,Code.isFrame,pushEnvs] using e.frames),e.mod,e.bs,e.mS,e.jV,e.nR,e.aw,e.bare⟩
def Inv.CH(I:Inv X pins σ H s):uo X.prog X.w X.K X.mg X.base X.A X.stack s H:=
 ⟨I.ok.frames,I.ok.mod,I.bs,Yz I.ok.mS I.sz,I.stack,I.BC,I.aw,I.bare⟩
def Inv.after(I:Inv X pins σ H s)(h:CE X.stack X.prog X.w H s Q u s'):EP X pins σ Q u s':=by
 obtain⟨v,e,os,a,un,c,r,q⟩:=h;obtain⟨i,g,d,t,f⟩:=s';obtain rfl:f=s.os:=os;exact⟨v,e,I.call un c a (λb z=>absurd z (by simp)),r,q⟩
def Cp(c:Sp)(d:Z V)(E:XK)(t:TA):TE:=λa H Q=>t a H λb e=>c (b++d) e Q E
def Cq(C:O)(m:ar)(f:Sp)(h:Z V)(E:XK)(e:TE)(t:TA):TE:=λb H Q=>e b H λx c=>∃a g fs,x=.ref a/\c a=U (.ins C g fs)/\fs.lookup m=aJ/\
 t b c λd i=>f (x::(d++h)) i Q E
def Tf(C:O)(e:Sp)(f:Z V)(E:XK)(t:TA):TE:=λc H Q=>t c H λd b=>∀x a,b x=aJ->b a=aJ->a≠x->
 e (.ref x::(d++f)) (upd (upd b a (.own x)) x (.ins C a [])) (λv g=>v=.ay/\Q (.ref x) g) E
def Binds(K:ah)(d:FuncData)(b:Z ar)(c:Z aY):Prop:=
 ∀(s:bt) (a:Z aY),K.In s.heap->(a++c).length=b.length->BindsTo s d ⟨a,[]⟩ (b.zip (a++c))
def Binds.all{K:ah}(h:∀a:Z aY,a.length=b.length->bindArgs fd ⟨a,[]⟩=pure (b.zip a)):Binds K fd b []:=λs a _ c=>by
 rw[Wf] at c⊢;exact .of_eq (h a c)
def Passes(d:lG)(X:Cx)(E:XK):Prop:=∀(a:a8) (c:St) (H:Hp) (s:bt) (e:aY) (b:bt),Inv X a c H s->d X.stack H s E e b->X.xe e b
section
variable {X:Cx}{L:lG}{k:Nat}{f C:O}{G:FuncData}{ps:Z ar}{J:Sp}{N:Z V}{R:Z aY}{E:XK}{x m:ar}{p W T:Pos}{e o:cu}{P:Z cu}{D:TE}{t:TA}
theorem B9(F:aI X.prog X.w X.K X.mg X.base L k f G ps J)(g:c5 k X.A)(l:Binds X.K G ps R)(j:Vals N R)(d:Passes L X E)
  (I:Inv X pins σ H s)(r:Vals vs us)(h:J (vs++N) H Q E):wpAny X.md X.A (call (.ref f) us) (EP X pins σ Q) X.xe s:=by
 have b:=r.append j;have i:(us++R).length=ps.length:=by exact b.length▸F.len _ _ _ _ h
 refine mW (mr (F.run X.A X.stack s H ⟨us,[]⟩ (us++R) (vs++N) Q E g I.CH (l s us I.cO i) b h) λr c a=>?_);cases r with
 |error e=>exact d pins σ H s e c I a
 |ok n=>
  cases n with
  |ret u=>exact I.after a
  |next=>exact False.elim a
  |brk=>exact False.elim a
  |cont=>exact False.elim a
def Zfo(F:aI X.prog X.w X.K X.mg X.base L k f G ps J)(g:c5 k X.A)(l:Gl X x)(i:X.mg x=U (.ref f))(j:keepIn X.K (.ref f)=af)(v:Binds X.K G ps R)(u:Vals N R)(d:Passes L X E)
  (w:PA X (e::P) t)(y:(x==("__debug__":ar))=a7:=by decide)(n:jB X e P:=by rfl)(z:j9 X W P:=by rfl):
  PE X (.Call (.Name x p) (e::P) [] W) (Cp J N E t):=by
 intro a s c H Q I h;exact q9 (wx I l i (pK I.ok.mod.oU j (az (w W a s c H _ I h) λB s1 ⟨A,H1,b,r,q⟩=>⟨b.cO,B9 F g v u d b r q⟩) n z) y)
def Zfp{B:Sem cm}(he:PE X o D)(c:hU X.K C)(i:Meth X.K C m f)(F:aI X.prog X.w X.K X.mg X.base L k f G ps J)(hr:c5 k X.A)(hb:Binds X.K G ps R)(hd:Vals N R)(hx:Passes L X E)(ha:PA X (e::P) t)
  (dB:jB X e P:=by rfl)(cJ:j9 X W P:=by rfl)
  (ht:eval (.Call (.Attribute o m T) (e::P) [] W) X.env=(do
   let g←eval o X.env
   standAt T.atName
   let(f,first)←holding [g] (getMethod g m B)
   callWith W f first (backTo W (starEach (e::P) X.env)) (backToKw W (keywordEach [] X.env))):=by rfl):
  PE X (.Call (.Attribute o m T) (e::P) [] W) (Cq C m J N E D t):=by
 intro b s d H Q I h;refine rn (az (he b s d H _ I h) λu y v=>?_) ht;obtain⟨x,H1,n,z,a,dx,fs,ex,ea,l,q⟩:=v;subst ex;obtain rfl:u=Value.ref a:=z;refine GP n ea c i l ?_;refine pK I.ok.mod.oU i.kp (az (ha W b y d H1 _ n q) λus s2 p=>?_) dB cJ;obtain⟨w,H2,j,r,A⟩:=p;refine⟨j.cO,?_⟩;exact B9 (vs:=.ref a::w) F hr hb hd hx j (.cons rfl r) A
def ZdP{v:Sem cm}(A:PE X o D)(c:hU X.K C)(i:Meth X.K C m f)(F:aI X.prog X.w X.K X.mg X.base L k f G ps J)(z:c5 k X.A)(hb:Binds X.K G ps R)(B:Vals N R)(w:Passes L X E)
  (y:eval (.Call (.Attribute o m T) [] [] W) X.env=(do
   let g←eval o X.env
   standAt T.atName
   let(f,first)←holding [g] (getMethod g m v)
   callWith W f first (backTo W (starEach [] X.env)) (backToKw W (keywordEach [] X.env))):=by rfl):
  PE X (.Call (.Attribute o m T) [] [] W) (Cq C m J N E D jX):=by
 intro b s j H Q I h;refine rn (az (A b s j H _ I h) λu s1 n=>?_) y;obtain⟨x,H1,d,r,a,dx,fs,ex,ea,l,q⟩:=n;subst ex;obtain rfl:u=Value.ref a:=r;refine GP d ea c i l ?_;exact PySem.W.callWith_K0 d.cO i.kp (B9 (vs:=[.ref a]) F z hb B w d (.cons rfl .nil) q)
structure Mk(K:ah)(C f:O):Prop where
 makes:makesIn K C=af
 init:PySem.W.findIn K (.ref C) "__init__"=U (U (.ref f))
 fn:isFn K (.ref f)=af
 kp:keepIn K (.ref C)=af
theorem ZdQ(a:Mk X.K C f)(F:aI X.prog X.w X.K X.mg X.base L k f G ps J)(y:c5 (k+1) X.A)(B:Binds X.K G ps R)(A:Vals N R)
  (w:Passes L X E)(I:Inv X pins σ H s)(r:Vals g us)
  (h:∀x c,H x=aJ->H c=aJ->c≠x->J (.ref x::(g++N)) (upd (upd H c (.own x)) x (.ins C c [])) (λv H2=>v=.ay/\Q (.ref x) H2) E):
  wpAny X.md X.A (call (.ref C) us) (EP X pins σ Q) X.xe s:=by
 have j:=h (s.heap.objs.size+1) s.heap.objs.size (I.aw.fresh (J3 _)) (I.aw.fresh (Yd _)) (Yy (Jf _));have d:=Inv.made (C:=C) I;have i:Vals (V.ref (s.heap.objs.size+1)::(g++N)) (Value.ref (s.heap.objs.size+1)::(us++R)):=.cons rfl (r.append A);have z:(Value.ref (s.heap.objs.size+1)::us++R).length=ps.length:=by
  have e:=i.length;rw[F.len _ _ _ _ j] at e;exact e.symm
 refine mW (ZdO I.cO a.makes a.init (beq_iff_eq.mp a.fn) (mr (F.run _ X.stack _ _ ⟨Value.ref (s.heap.objs.size+1)::us,[]⟩ (Value.ref (s.heap.objs.size+1)::(us++R)) _ _ E (y.make C us [])
  (d.CH.make C us []) (B _ (Value.ref (s.heap.objs.size+1)::us) d.cO z) i j) λr l b=>?_))
 cases r with
 |error e=>exact w pins σ _ _ e l d b
 |ok fl=>
  cases fl with
  |ret u=>
   obtain⟨v,H',I3,n,ev,q⟩:=d.after b;subst ev;exact⟨n,⟨V.ref (s.heap.objs.size+1),H',I3,rfl,q⟩⟩
  |next=>exact False.elim b
  |brk=>exact False.elim b
  |cont=>exact False.elim b
def Zfq(a:Mk X.K C f)(F:aI X.prog X.w X.K X.mg X.base L k f G ps J)(i:c5 (k+1) X.A)(l:Gl X x)(j:X.mg x=U (.ref C))(v:Binds X.K G ps R)(u:Vals N R)(g:Passes L X E)
  (w:PA X (e::P) t)(y:(x==("__debug__":ar))=a7:=by decide)(n:jB X e P:=by rfl)(z:j9 X W P:=by rfl):
  PE X (.Call (.Name x p) (e::P) [] W) (Tf C J N E t):=by
 intro b s d H Q I h;exact q9 (wx I l j (pK I.ok.mod.oU a.kp (az (w W b s d H _ I h) λB s1 D=>by obtain⟨A,H1,c,r,q⟩:=D;exact⟨c.cO,ZdQ a F i v u g c r q⟩) n z) y)
end
structure aT(N P:Z ar)(sc:Scope):Prop where
 kind:sc.kind=.function
 co:sc.isCoroutine=a7
 gen:sc.isGenerator=a7
 nd:N.Nodup
 pre:N.take P.length=P
 par:∀x∈P,sc.names.lookup x=U .local\/sc.names.lookup x=U .cell
 ZgV:∀y∈sc.names,y.2≠.free
theorem OI{a:ar->bq NameKind}{x:ar}:∀{binds:Z (ar×aY)} {m:aU},(∀v,(x,v)∉binds)->bindL a binds m x=m x
 |[],_,_=>rfl
 |(n,v)::r,m,h=>by
  unfold bindL;rw[OI λw b=>h w (Yw _ b)];split;·grind
  ·rfl
theorem OJ{a:ar->bq NameKind}{x:ar}:∀{binds:Z (ar×aY)} {m:aU},(∀v,(x,v)∉binds)->bindC a binds m x=m x
 |[],_,_=>rfl
 |(n,v)::r,m,h=>by
  unfold bindC;rw[OJ λw b=>h w (Yw _ b)];split;·rfl
  ·grind
theorem OK{a:ar->bq NameKind}{x:ar}{v:aY}:∀{P:Z ar} {b:Z aY} {i:Nat} {m:aU},P.Nodup->P[i]?=U x->b[i]?=U v->a x=U .local->
  bindL a (P.zip b) m x=U v
 |[],_,_,_,_,h,_,_=>by simp at h
 |_::_,[],_,_,_,_,h,_=>by simp at h
 |p::P,w::b,0,m,e,d,c,f=>by
  simp at d c;subst d;subst c;show bindL a ((p,w)::P.zip b) m p=_;unfold bindL;rw[OI λv g=>(Y0.mp e).1 (VD g).1,bS f];simp
 |p::P,w::b,i+1,m,e,d,c,f=>by
  unfold bindL;exact OK (Y0.mp e).2 (by simpa using d) (by simpa using c) f
theorem OL{a:ar->bq NameKind}{x:ar}{v:aY}:∀{P:Z ar} {b:Z aY} {i:Nat} {m:aU},P.Nodup->P[i]?=U x->b[i]?=U v->a x≠U .local->
  bindC a (P.zip b) m x=U v
 |[],_,_,_,_,h,_,_=>by simp at h
 |_::_,[],_,_,_,_,h,_=>by simp at h
 |p::P,w::b,0,m,e,d,c,f=>by
  simp at d c;subst d;subst c;show bindC a ((p,w)::P.zip b) m p=_;unfold bindC;rw[OJ λv g=>(Y0.mp e).1 (VD g).1,bR f];simp
 |p::P,w::b,i+1,m,e,d,c,f=>by
  unfold bindC;exact OL (Y0.mp e).2 (by simpa using d) (by simpa using c) f
def start(N:Z ar)(a:Z V):St:=a.map U++List.replicate (N.length-a.length) aJ
def lq(g:lG)(P:cZ)(w:cN)(K:ah)(mg:aU)(base:cI)(N:Z ar)(b:ar)(a:Scope)(f:O)(c:aY)(A:eL)(outer:Z Env)(s:bt)(H:Hp)(E:XK):Cx where
 prog:=P
 w:=w
 K:=K
 mg:=mg
 base:=base
 A:=A.deeper (envOfC b a s.heap.objs.size f c)
 N:=N
 dw:=s
 kF:=H
 env:=envOfC b a s.heap.objs.size f c
 outer:=outer
 stack:=envOfC b a s.heap.objs.size f c::outer
 ex:=[]
 calm:=af
 fn:=λ_=>af
 pn:=[]
 xe:=λe h=>wpAny (model P w) (A.deeper (envOfC b a s.heap.objs.size f c)) (leaving (envOfC b a s.heap.objs.size f c) e) (λ_ d=>g outer H s E e d) (λi d=>g outer H s E i d) h
def Pr{a:Scope}(h:a.names.lookup x=U .cell):∃c,(cellsFrom n a.names []).lookup x=U c:=by
 exact Jj.mp (VG a.names n [] (.inl h))
theorem ZcU{K:ah}
  (d:aT N l scope)(Q:A.handled=aJ)(g:uo P w K C base A outer s H)(L:m.length=l.length)(r:Vals m us)
  (x:InCallC s s.heap.objs.size (bindL (envOfC qual scope s.heap.objs.size f cd).kindOf (l.zip us) λ_=>aJ) (cellsFrom (s.heap.objs.size+1) scope.names []) (bindC (envOfC qual scope s.heap.objs.size f cd).kindOf (l.zip us) λ_=>aJ) s1):
  Inv (lq T P w K C base N qual scope f cd A outer s H E) [] (start N m) H s1:=by
 have cJ:l.length<=N.length:=by have:=dC List.length d.pre;rw[Y8] at this;omega
 obtain⟨B,W,rfl,F⟩:=x.done;have t:∀b:O,b∉(lq T P w K C base N qual scope f cd A outer s H E).ex:=λb z=>absurd (show b∈([]:Z O) from z) (by simp);refine⟨⟨g.mod,d.kind,rfl,rfl,Yd _,λy z c B o=>?_,λy j=>?_,λy c _ h=>?_,λ_=>Q,Around.frames_deeper g.frames,.inr ⟨rfl,rfl⟩,λb z=>absurd z (t b),g.bs,g.mS,λb _ _=>t b,λb z=>absurd z (t b),g.jV,g.nR⟩,
  rfl,g.bare,Un.kept F,⟨_,x.toInCall.ns,λi y v B o X=>?_⟩,λy c h=>⟨_,x.cell y c h⟩,g.aw.fresh (Yd _),λy c h=>?_,λp n=>absurd (show p∈([]:a8) from n) (by simp),g.aw.kept F,?_⟩
 ·exact name_of_addr x.apart (q7 B) (q7 o)
 ·have j:=j;rcases j with j|j;·exact Pr j
  ·exact absurd rfl (d.ZgV _ (q7 j))
 ·exact Js (x.above y c (q7 h))
 ·have G:i<m.length:=by
   unfold start at o
   grind
  have R:m[i]?=U v:=by
   unfold start at o;rw[Wa (by simpa using G),Yf] at o;cases e:m[i]? with
   |none=>simp_all
   |some a=>simp_all
  obtain⟨u,D,J⟩:=r.get R;have n:l[i]?=U y:=by
   rwa[←d.pre,z5 (iy G (mD L))]
  have I:l.Nodup:=by exact d.pre▸d.nd.sublist (VF _ _)
  refine⟨u,J,?_⟩;rcases d.par y (Yh n) with k|k;·exact .inl ⟨k,OK I n D k⟩
  ·obtain⟨c,e⟩:=Pr k;refine .inr ⟨.inl k,c,e,?_⟩;have q:=x.cell y c e;rw[OL I n D (by show scope.names.lookup y≠_;rw[k];decide)] at q;exact q
 ·exact g.aw.fresh (Js (x.above y c (q7 h)))
 ·unfold start;show _=N.length
  simp_all
theorem Kn{T:lG}{P:cZ}{w:cN}{K:ah}{L:aU}{i:cI}{k:Nat}{f:O}{m g:ar}{h:Arguments}{j:Z cj}{c:Scope}{dV kV F pm z ct oc:aY}{an od:bq O}
  {jD:cW (bq aY)}{N G:Z ar}{sp:Sp}(lk:K.lookup f=U ⟨oc,od,.func (fnOf m g h j c dV kV F pm an z ct),jD⟩)(gu:codeIn K z g=af)(a:aT N G c)
  (C:∀l H Q E,sp l H Q E->l.length=G.length)
  (qf:∀(A:eL) (d:Z Env) (s:bt) (H:Hp) (l:Z V) (Q:VK) (E:XK),c5 k (A.deeper (envOfC g c s.heap.objs.size f z))->sp l H Q E->
   ∃t,fX (lq T P w K L i N g c f z A d s H E) j t/\t {nx:=λ_ p=>Q .ay p,rt:=Q} (start N l) H):
  aI P w K L i T (k+1) f (fnOf m g h j c dV kV F pm an z ct) G sp:=by
 refine⟨C,λA d s H args us l Q E hr D hb r mU=>?_⟩;have hl:=C _ _ _ _ mU;have KX:K.In s.heap:=D.mod.oU.keeps λb o e=>(D.bs b o e).1;have X:s.heap.NoLimit:=D.mod.nolimit.keeps λb o e=>(D.bs b o e).1;have Zir:∀y∈G.zip us,c.names.lookup y.1=U .local\/(c.names.lookup y.1=U .cell/\((cellsFrom (s.heap.objs.size+1) c.names []).lookup y.1).isSome=af):=λ⟨n,v⟩ hy=>by
  rcases a.par n (VD hy).1 with q|q;·exact .inl q
  ·exact .inr ⟨q,VG _ _ _ (.inl q)⟩
 refine codeAny_call_function hr.depth (KX _ _ lk) rfl a.co a.gen rfl (PySem.W.codeRec_of KX gu) (hb _ _ _ _ ?_);refine wpAny_newFunctionEnv_cells a.kind Zir λenv he s1 x=>?_;subst he;refine⟨X.keeps x.toInCall.keep,codeAny_func ?_⟩;obtain⟨t,ht,hq⟩:=qf A d s H l Q E (hr.deeper _) mU;have I:Inv (lq T P w K L i N g c f z A d s H E) [] (start N l) H s1:=ZcU a hr.hd D hl r x;refine dk (ht [] s1 (start N l) H _ I hq) (λfl s' B=>?_) λe s' B=>B;have fin:∀{R:St} {p:Hp} {v:V} {u:aY},Inv (lq T P w K L i N g c f z A d s H E) [] R p s'->RelV v u->Q v p->CE d P w H s Q u s':=
  λ{R p v u} J W q=>⟨v,p,J.os,J.bare,J.base,J.aw,W,q⟩
 cases fl with
 |ret u=>
  obtain⟨v,R,p,J,W,q⟩:=B;exact fin J W q
 |next=>
  obtain⟨R,p,J,q⟩:=B;exact fin (v:=V.ay) (u:=Value.none) J rfl q
 |brk=>
  obtain⟨_,_,_,q⟩:=B;exact False.elim q
 |cont=>
  obtain⟨_,_,_,q⟩:=B;exact False.elim q
section
variable {X:Cx}{x:ar}{p W:Pos}{e:cu}{R:Z cu}{t:TA}{id T:String}{r:Z V->Hp->VK->Prop}
def nW(r:Z V->Hp->VK->Prop)(t:TA):TE:=λa H Q=>t a H λb c=>r b c Q
def iY(o:dA X (.builtin id) r)(m:Gl X x)(l:X.mg x=aJ)(j:bootBuiltins x=U (.builtin id))(q:PA X (e::R) t)(k:x≠"__name__":=by decide)(u:(x==("__debug__":ar))=a7:=by decide)
  (n:jB X e R:=by rfl)(v:j9 X W R:=by rfl):PE X (.Call (.Name x p) (e::R) [] W) (nW r t):=by
 intro a s b H Q I h;refine q9 (yU I m l j ?_ k u);exact zB (az (q W a s b H _ I h) λd f ⟨c,y,w,g,i⟩=>o a f b y c d Q w g i) n v
def fU(o:dA X (.type T) r)(m:Gl X x)(l:X.mg x=aJ)(j:bootBuiltins x=U (.type T))(q:PA X (e::R) t)(k:x≠"__name__":=by decide)(u:(x==("__debug__":ar))=a7:=by decide)
  (n:jB X e R:=by rfl)(v:j9 X W R:=by rfl):PE X (.Call (.Name x p) (e::R) [] W) (nW r t):=by
 intro a s b H Q I h;refine q9 (yU I m l j ?_ k u);exact zN (az (q W a s b H _ I h) λd f ⟨c,y,w,g,i⟩=>o a f b y c d Q w g i) n v
end
end L2
namespace HT
open PySem PyProof.Rows
section
open PySem.SeqAt
open PySem.AutoSeq1 (wpAny_loadPart')
open PySem.MeetsSeq PySem.MeetsSeq2 PySem.MeetsSeq3
end
section
variable {X:cZ}{w:cN}{A:eL}{E:bo}{s:bt}
def Zfr{t b:O}{c a:Z aY}{Q:bo}(u:IsTup s.heap t c.toArray)(x:IsTup s.heap b a.toArray)(k:c≠[])
  (z:a=[]->Q (.ref t) s)(y:a≠[]->Q (.ref s.heap.objs.size) {s with heap:=s.heap.push {cls:=.type "tuple",data:=.seq (c++a).toArray}})
  (v:c.length+a.length<=sizeLine):wpAny (model X w) A (binaryOp .Add (.ref t) (.ref b)) Q E s:=by
 obtain⟨⟨B,m,o,i⟩,g,l,n,hd⟩:=id u;obtain⟨⟨C,r,data2,q⟩,h,p,j,d⟩:=id x;simp only at l hd p d;subst l hd p d;have e:c.toArray++a.toArray=(c++a).toArray:=QS
 by_cases f:a=[]
 ·exact concat_meets ⟨_,g,rfl⟩ ⟨_,h,rfl⟩ Nl seq_tuple_add Vq Ai (zY _ _)
   (tuple_addW1 t b c.toArray a.toArray n j m r i q (by simpa using k) (by simp[f])) ⟨g,h,z f⟩
 ·refine concat_meets ⟨_,g,rfl⟩ ⟨_,h,rfl⟩ Nl seq_tuple_add Vq Ai (zY _ _)
   (tuple_addW2 t b c.toArray a.toArray n j m r i q (by simpa using k) (by simpa using f) (by rwa[Yq,Yq])) ⟨g,h,?_⟩
  exact e▸y f
def cF(n d:Nat):bq Int->Nat
 |none=>d
 |some v=>if v<0 then(v+(n:Int)).toNat else min v.toNat n
def Zfs(n d k:Nat):cF n d (U (k:Int))=min k n:=by
 show(if(k:Int)<0 then((k:Int)+(n:Int)).toNat else min (k:Int).toNat n)=min k n;rfl
def QH(v:Int)(n d:Nat):(if v<0 then max (v+(n:Int)) 0 else min v (n:Int))=((cF n d (U v):Nat):Int):=by
 show(if v<0 then max (v+(n:Int)) 0 else min v (n:Int))=(((if v<0 then(v+(n:Int)).toNat else min v.toNat n):Nat):Int)
 grind
theorem ZbV(a b:bq Int)(n:Nat):Builtin.Slice.sliceAdjust a b 1 (n:Int)=(((cF n 0 a:Nat):Int),((cF n n b:Nat):Int)):=by
 have c:¬((1:Int)<0):=(by decide)
 unfold Builtin.Slice.sliceAdjust;refine Prod.ext ?_ ?_
 ·cases a with
  |none=>rfl
  |some v=>exact QH v n 0
 ·cases b with
  |none=>rfl
  |some v=>exact QH v n n
def ZbW(i j:Nat):Builtin.Slice.slicePlaces (i:Int) (j:Int) 1=j-i:=by
 unfold Builtin.Slice.slicePlaces
 grind
theorem N5(p:IsPart v o)(h:Q o s):wpAny (model X w) A (Builtin.Slice.slicePartIndex v) Q E s:=by
 cases p with
 |none=>exact slicePart_none h
 |int i t=>exact slicePart_int h
def ZA{g:O}{f e:aY}{a b:bq Int}{n:Nat}{Q:Int×Int×Nat->bt->Prop}(k:s.heap.IsSliceOf g f e .none)(j:IsPart f a)(i:IsPart e b)
  (h:Q (((cF n 0 a:Nat):Int),1,cF n n b-cF n 0 a) s):wpAny (model X w) A (Builtin.Slice.sliceApplied (.ref g) (pure (n:Int))) Q E s:=by
 obtain⟨os,c,l,d⟩:=id k;refine bp (bp (lr c d rfl (bp (lr c d rfl (bp (lr c d rfl (cD (bp (slicePart_none (bp (N5 j (bp (N5 i (bp (cD ?_)))))))))))))));show wpAny _ _ (match Builtin.Slice.sliceAdjust a b 1 (n:Int) with|(a,b)=>pure (a,(1:Int),Builtin.Slice.slicePlaces a b 1)) _ _ s;rw[ZbV a b n];show wpAny _ _ (pure (((cF n 0 a:Nat):Int),(1:Int),Builtin.Slice.slicePlaces ((cF n 0 a:Nat):Int) ((cF n n b:Nat):Int) 1)) _ _ s;rw[ZbW];exact cD h
def ZdR(a:cW aY)(i k:Nat):((List.range k).filterMap λ(m:Nat)=>a[((i:Int)+(m:Int)*1).toNat]?).toArray=((a.toList.drop i).take k).toArray:=by
 have e:(λ(m:Nat)=>a[((i:Int)+(m:Int)*1).toNat]?)=λm=>a[i+m]?:=by
  grind
 rw[e];have:=pick_run a i k;rw[Xo] at this;have b:((λx=>a[x]?)∘λx=>i+x)=λm=>a[i+m]?:=rfl
 grind
theorem Zs{t i:O}{a:cW aY}{g f:aY}{b c:bq Int}{Q:bo}(d:IsTup s.heap t a)(j:s.heap.IsSliceOf i g f .none)(n:IsPart g b)(m:IsPart f c)
  (r:¬(cF a.size 0 b=0/\cF a.size a.size c=a.size))
  (h:Q (.ref s.heap.objs.size) {s with heap:=s.heap.push {cls:=.type "tuple",data:=.seq ((a.toList.drop (cF a.size 0 b)).take (cF a.size a.size c-cF a.size 0 b)).toArray}})
  (o:a.size<=sizeLine):wpAny (model X w) A (getItem (.ref t) (.ref i)) Q E s:=by
 have e:sizeOk (.seq ((a.toList.drop (cF a.size 0 b)).take (cF a.size a.size c-cF a.size 0 b)).toArray):=by
  show((a.toList.drop (cF a.size 0 b)).take (cF a.size a.size c-cF a.size 0 b)).toArray.size<=sizeLine
  (simp;omega)
 obtain⟨os,l,p,q⟩:=id j;unfold getItem;try with_reducible refine jd ?_
 refine bp (KZ d.typeIs QD ?_);refine bp (z9 d.typeIs zA
  (n7 zA d.typeIs entry_tuple_getitem ?_ (args_tuple_getitem _ _)))
 show wpAny _ _ (Builtin.Tuple.tupleItemsOf (.ref t)>>=_) _ _ s;refine bp (tupleItemsOf_ d (bp (wpAny_typeOf ⟨os,l,p⟩ (bp (ZA j n m ?_)))));have k:¬((((cF a.size 0 b:Nat):Int)==0&&(1:Int)==1&&(cF a.size a.size c-cF a.size 0 b)==a.size)=af):=by
  simp_all
 show wpAny _ _ (if(((cF a.size 0 b:Nat):Int)==0&&(1:Int)==1&&(cF a.size a.size c-cF a.size 0 b)==a.size)=af then _ else _) _ _ s;rw[bR k,ZdR];first
  |exact bp (mR (cD ⟨_,rfl,cD h⟩) e)
  |exact bp (mR (bp (cD (cD ⟨_,rfl,cD h⟩))) e)
  |exact bp (bp (mR (cD (cD ⟨_,rfl,cD h⟩)) e))
  |exact bp (bp (mR (cD ⟨_,rfl,cD h⟩) e))
end
end HT
namespace L2
open PySem PySem.Spec PyProof.Rows
abbrev TO:=St->Hp->(bq Int->Hp->Prop)->Prop
def PO(X:Cx)(e:bq cu)(t:TO):Prop:=
 ∀(a:a8) (s:bt) (b:St) (H:Hp) (Q:bq Int->Hp->Prop),Inv X a b H s->t b H Q->
  wpAny X.md X.A (evalPart e X.env) (λu d=>∃o c,Inv X a b c d/\IsPart u o/\Q o c) X.xe s
def Zft:TO:=λ_ H Q=>Q aJ H
inductive QI(Q:bq Int->Hp->Prop)(x:V)(a:Hp):Prop
 |mk (i) (c:x=.int i) (b:Q (U i) a):QI Q x a
def Zis(t:TE):TO:=λa H Q=>t a H λx b=>QI Q x b
theorem intsAre_of:∀{a:Z aY},Vals (ns.map V.int) a->IntsAre a ns:=by
 induction ns with
 |nil=>intro a r;rw[wh] at r;cases r;exact .nil
 |cons n ns d=>
  intro a r;cases r with
  |cons c b=>
   obtain⟨t,e⟩:=c;subst e;exact .cons n t (d b)
section
variable {X:Cx}{R:TE}{lo W:bq cu}{N P:TO}
def BI:PO X aJ Zft:=by
 intro a s b H Q I h;exact cD ⟨aJ,H,I,.none,h⟩
def BJ(h:PE X e R):PO X (U e) (Zis R):=by
 intro a s b H Q I g;refine az (h a s b H _ I g) λu l c=>?_;obtain⟨x,k,j,d,f⟩:=c;obtain⟨i,rfl,q⟩:=f;obtain⟨t,rfl⟩:=d;exact⟨U i,k,j,.int i t,q⟩
def sy(X:Cx)(r:V->bq Int->bq Int->Hp->VK->Prop):Prop:=
 ∀(a:a8) (s:bt) (b:St) (H:Hp) (x:V) (v d c:aY) (lo W:bq Int) (e:O) (Q:VK),Inv X a b H s->RelV x v->s.heap.IsSliceOf e d c .none->IsPart d lo->IsPart c W->r x lo W H Q->
  ∃T id,typeLookup (.type T) "__getitem__"=pure (U (.builtin id))/\s.TypeIs v T/\wpAny X.md X.A (getItem v (.ref e)) (EP X a b Q) X.xe s
def tSl(r:V->bq Int->bq Int->Hp->VK->Prop)(R:TE)(N P:TO):TE:=λa H Q=>R a H λx d=>N a d λl c=>P a c λu b=>r x l u b Q
def Bp(B:sy X r)(E:PE X e R)(C:PO X lo N)(z:PO X W P):PE X (.Subscript e (.Slice lo W aJ p2) pos) (tSl r R N P):=by
 intro a s c H Q I h;refine Subscript_ (az (E a s c H _ I h) λv m d=>?_);obtain⟨x,H1,I1,n,t⟩:=d;refine wpAny_Slice (az (C a m c H1 _ I1 t) λi k d=>?_);obtain⟨l,H2,L,y,p⟩:=d;refine az (z a k c H2 _ L p) λg f d=>?_;obtain⟨u,j,J,w,o⟩:=d;rw[evalPart_none];refine oV ?_;have G:Inv X a c j {f with heap:=f.heap.push {cls:=.type "slice",data:=.fields #[i,g,.none]}}:=J.kept λb ob q=>Yb _ q;obtain⟨T,id,F,A,D⟩:=B a {f with heap:=f.heap.push {cls:=.type "slice",data:=.fields #[i,g,.none]}} c j x v i g l u f.heap.objs.size Q G n (JH ..) y w o;exact tail_any A F D (by with_unfolding_all rfl)
def mP(a:Z V)(lo W:bq Int):Z V:=(a.drop (HT.cF a.length 0 lo)).take (HT.cF a.length a.length W-HT.cF a.length 0 lo)
def Gf(a:Z V)(lo W:bq Int):(mP a lo W).length<=a.length:=by
 unfold mP
 (simp;exact d6 (xQ _ _) (Nat.sub_le _ _))
def Uv(K:ah):V->bq Int->bq Int->Hp->VK->Prop:=λx lo W H Q=>∃a b,x=.ref a/\aB K H a b/\
 ¬(HT.cF b.length 0 lo=0/\HT.cF b.length b.length W=b.length)/\∀p,H p=aJ->Q (.ref p) (upd H p (.tup (mP b lo W)))
def RW:sy X (Uv X.K):=by
 rintro e s n H x v p o lo W t Q I g l i h ⟨a,d,rfl,k,w,q⟩;cases g;obtain⟨m,r,f,j⟩:=I.tuple k;have c:m.toArray.size=d.length:=by exact Yq▸r.length.symm
 refine⟨"tuple",_,PyProof.Rows.slot_tuple_getitem.lookup,f.typeIs,HT.Zs f l i h (by rwa[c]) ?_ (by rwa[c])⟩;rw[c];refine⟨.ref s.heap.objs.size,_,I.laid (λ b u=>Yb _) (Yd _) ?_,rfl,q _ (I.aw.fresh (Yd _))⟩;exact⟨Yz (Gf d lo W) j,_,(r.drop (HT.cF d.length 0 lo)).take (HT.cF d.length d.length W-HT.cF d.length 0 lo),mE.new _ _⟩
def Zit(K:ah):R2:=λx y H Q=>∃a b d c,x=.ref a/\y=.ref b/\aB K H a d/\aB K H b c/\d≠[]/\d.length+c.length<=sizeLine/\
 (c=[]->Q (.ref a) H)/\(c≠[]->∀p,H p=aJ->Q (.ref p) (upd H p (.tup (d++c))))
theorem Vals.IF(r:Vals xs us):us=[]↔xs=[]:=by
 cases r with
 |nil=>simp
 |cons _ _=>simp
def Zfu:cS X (binaryOp .Add) (Zit X.K):=by
 rintro e s o H x y v u Q I g f ⟨a,b,q,p,rfl,rfl,n,m,l,t,i,h⟩;cases g;cases f;obtain⟨B,d,k,_⟩:=I.tuple n;obtain⟨A,c,j,_⟩:=I.tuple m;refine HT.Zfr k j (λz=>l (d.IF.mp z)) (λz=>⟨.ref a,H,I,rfl,i (c.IF.mp z)⟩) (λz=>⟨.ref s.heap.objs.size,_,I.laid (λ b r=>Yb _) (Yd _) ?_,rfl,h (λw=>z (c.IF.mpr w)) _ (I.aw.fresh (Yd _))⟩) (by rwa[←d.length,←c.length]);exact⟨by rwa[Yj],_,d.append c,mE.new _ _⟩
end
def mV(n:Nat)(i:Int):bq Nat:=if 0<=i then(if i<n then U i.toNat else aJ) else if-(n:Int)<=i then U (i+n).toNat else aJ
def d_{α:Type}(a:Z α)(i:Int):bq α:=(mV a.length i).bind λj=>a[j]?
def IG(h:mV n i=U j):seqIndex? i n=U j/\j<n/\-(n:Int)<=i/\i<n:=by
 unfold mV at h;by_cases b:0<=i
 ·rw[bS b] at h;by_cases a:i<n
  ·rw[bS a] at h;have e:=Ym h;exact⟨by rw[xp b a,e],by omega,by omega,a⟩
  ·simp_all
 ·rw[bR b] at h;by_cases a:-(n:Int)<=i
  ·rw[i2 a] at h;have e:=Ym h;exact⟨by rw[vt (by omega) a,e],by omega,a,by omega⟩
  ·simp_all
theorem IH(h:d_ xs i=U v):∃j,seqIndex? i xs.length=U j/\xs[j]?=U v/\j<xs.length/\-(xs.length:Int)<=i/\i<xs.length:=by
 unfold d_ at h;cases e:mV xs.length i with
 |none=>simp_all
 |some j=>
  obtain⟨d,c,b,a⟩:=IG e
  simp_all
def iG{j:Nat}(h:xs[j]?=U v):d_ xs (j:Int)=U v:=by
 have e:mV xs.length (j:Int)=U j:=by
  unfold mV
  grind
 unfold d_;rwa[e]
def QJ(b:cu):Prop:=∀o i,subscripted b a7 o i=operate [o,i] (getItem o i)
def jE(X:Cx)(r:R2):Prop:=
 ∀(c a:cu) (b:a8) (s:bt) (d:St) (H:Hp) (x y:V) (v u:aY) (Q:VK),Inv X b d H s->RelV x v->RelV y u->r x y H Q->
  subscripted a a7 v u=operate [v,u] (getItem v u)->wpAny X.md X.A (subscriptTail c a v u) (EP X b d Q) X.xe s
def VL(X:Cx)(id:String)(r:V->Z V->Hp->VK->Prop):Prop:=
 ∀(a:a8) (s:bt) (b:St) (H:Hp) (x:V) (c:Z V) (v:aY) (d:Z aY) (Q:VK),Inv X a b H s->RelV x v->Vals c d->r x c H Q->
  wpAny X.md X.A (call (.builtin id) (v::d)) (EP X a b Q) X.xe s
section
variable {X:Cx}{a b:cu}
def jE.or(h:jE X r)(l:jE X k):jE X (λx y H Q=>r x y H Q\/k x y H Q):=by
 intro c d e s f H x y v u Q I i g q j;rcases q with q|q;·exact h c d e s f H x y v u Q I i g q j
 ·exact l c d e s f H x y v u Q I i g q j
def Tg(l:jE X r)(n:PE X a f)(m:PE X b e)(k:QJ b):PE X (.Subscript a b pos) (jC r f e):=by
 intro c s d H Q I h;exact Subscript_ (KQ n m I h λv u g x y p o j i q=>l a b c g d p x y v u Q o j i q (k _ _))
inductive RX(K:ah)(x:V)(y:V)(H:Hp)(Q:VK):Prop
 |mk (p c i v) (h:x=.ref p) (g:y=.int i) (e:ak K H p c) (f:d_ c i=U v) (d:Q v H):RX K x y H Q
def wZ(K:ah):R2:=λx y H Q=>RX K x y H Q
inductive RY(K:ah)(x:V)(y:V)(H:Hp)(Q:VK):Prop
 |mk (p c i v) (h:x=.ref p) (g:y=.int i) (e:aB K H p c) (f:d_ c i=U v) (d:Q v H):RY K x y H Q
def zr(K:ah):R2:=λx y H Q=>RY K x y H Q
inductive RZ(x:V)(y:V)(H:Hp)(Q:VK):Prop
 |mk (z i c) (h:x=.str z) (g:y=.int i) (e:z.length<=sizeLine) (f:d_ z.cps.toList i=U c) (d:Q (.str ⟨#[c]⟩) H):RZ x y H Q
def Uw:R2:=λx y H Q=>RZ x y H Q
def II:jE X (wZ X.K):=by
 intro d e c s o H x y v u Q I B A h l;obtain⟨p,N,i,z,rfl,rfl,D,E,q⟩:=h;cases B;obtain⟨t,rfl⟩:=A;obtain⟨L,r,f,P⟩:=I.list D;obtain⟨j,k,J,W,G,F⟩:=IH E;obtain⟨w,n,C⟩:=r.get J;have T:=r.length;have R:=tZ;have fin:EP X c o Q w s:=⟨z,H,I,C,q⟩;by_cases m:0<=i
 ·have g:i.toNat=j:=by
   rw[xp m F] at k;exact Ym k
  exact item_listR f.isList m (by omega) (by rw[g];simpa using n) fin l
 ·have g:(i+(L.toArray.size:Int)).toNat=j:=by
   rw[vt (by omega) G] at k
   simp_all
  exact subscriptTail_builtinR (x:=w) f.isList.typeIs slot_list_getitem.lookup
   (wpAny_getItem_list_neg f.isList (by omega) (by rw[Yq]<;>omega) (by omega) (by rw[g];simpa using n) ⟨rfl,fin⟩) l
def R0:jE X (zr X.K):=by
 intro c d f s C H x y v u Q I k g h m;obtain⟨p,D,i,z,rfl,rfl,n,o,q⟩:=h;cases k;obtain⟨t,rfl⟩:=g;obtain⟨P,r,e,E⟩:=I.tuple n;obtain⟨j,N,A,L,J,G⟩:=IH o;obtain⟨w,B,l⟩:=r.get A;have F:=tZ;exact subscriptTail_builtinR e.typeIs slot_tuple_getitem.lookup
  (getItem_tuple e (by omega) (by omega) (by rwa[Yq,←r.length]) (by simpa using B) ⟨rfl,⟨z,H,I,l,q⟩⟩) m
def yX:jE X Uw:=by
 intro d e f s A H x y v u Q I l k h m;obtain⟨z,i,c,rfl,rfl,C,o,q⟩:=h;obtain⟨t,rfl⟩:=l;obtain⟨B,rfl⟩:=k;obtain⟨j,g,w,E,r,p⟩:=IH o;have n:z.cps.toList.length=z.length:=by simp[Str.length]
 rw[n] at g r p;have D:=tZ;exact tail_any (pJ s z t) slot_str_getitem.lookup (getItem_str (by
  rw[(g_ (by omega)),(g_ (by omega)),vm]) (by rw[g];simpa using w) ⟨.str ⟨#[c]⟩,H,I.tok _,⟨_,rfl⟩,q⟩) m
def LJ(K:ah):R2:=λx y H Q=>wZ K x y H Q\/zr K x y H Q\/Uw x y H Q
def ZgW:jE X (LJ X.K):=II.or (R0.or yX)
def ZbX(c:Z aY)(n j:Nat)(u:aY):Obj.mapSeq (·.setIfInBounds j u) {cls:=.type "list",data:=.seq c.toArray n}={cls:=.type "list",data:=.seq (c.set j u).toArray n}:=by
 simp[Obj.mapSeq]
def Inv.lst(I:Inv X pins σ H s)(h:H p=U (.lst xs)):
  ∃(c:Z aY) (n:Nat),Vals xs c/\s.heap.get? p=U {cls:=.type "list",data:=.seq c.toArray n}/\xs.length<=sizeLine:=by
 obtain⟨z,c,n,r,e⟩:=I.aw p _ h
 simp_all
def Inv.ZgX{d:a8}{j:St}{H:Hp}{s:bt}{p:O}{m g:Z V}{l c:Z aY}{n i:Nat}{f:Obj->Obj}(I:Inv X d j H s)(h:H p=U (.lst m))
  (v:s.heap.get? p=U {cls:=.type "list",data:=.seq l.toArray n})(k:f {cls:=.type "list",data:=.seq l.toArray n}={cls:=.type "list",data:=.seq c.toArray i})(r:Vals g c)(o:g.length<=sizeLine)(t:Nat):
  Inv X d j (upd H p (.lst g)) {s with heap:=s.heap.update p f,toks:=t}:=by
 have e:(s.heap.update p f).get? p=U {cls:=.type "list",data:=.seq c.toArray i}:=by
  rw[Wy f v (by rw[k]<;>rfl),k]
 refine I.write (by rw[h];trivial) (.inl rfl) (λb u w q=>(Wc _ _ (jm w)).trans q) ⟨_,e⟩ ?_;exact⟨o,c,i,r,e⟩
def Ziu:V->V->V->Hp->(Hp->Prop)->Prop:=λo i v H Q=>∃p c k j,o=.ref p/\i=.int k/\H p=U (.lst c)/\mV c.length k=U j/\Q (upd H p (.lst (c.set j v)))
def set_list:uh X Ziu:=by
 rintro c s z H o i v G J u Q I C D B ⟨p,A,k,j,rfl,rfl,f,F,q⟩;cases C;obtain⟨t,rfl⟩:=D;obtain⟨x,n,r,d,E⟩:=I.lst f;obtain⟨m,N,l,h⟩:=IG F;have g:=r.length;have L:=tZ;have y:Inv X c z (upd H p (.lst (A.set j v))) {s with heap:=s.heap.update p (Obj.mapSeq (·.setIfInBounds j u))}:=
  I.ZgX f d (ZbX x n j u) (r.set B j) (by rw[Jd];exact E) s.toks
 by_cases w:0<=k
 ·have e:k.toNat=j:=by
   rw[xp w h] at m
   grind
  exact PySem.W.ki_setAt d w (by omega) (by rw[Yq,←g];exact h) (by rw[e];exact⟨_,y,q⟩)
 ·have e:(k+(x.toArray.size:Int)).toNat=j:=by
   rw[vt (by omega) l] at m
   grind
  exact PySem.W.ki_setBack d (by omega) (by rw[Yq,←g];exact l) (by omega) (by exact e▸⟨_,y,q⟩)
theorem ZaC(c d:bq Int)(n:Nat):(sliceBounds c d aJ n).1=((HT.cF n 0 c:Nat):Int)/\(sliceBounds c d aJ n).2.1=((HT.cF n n d:Nat):Int)/\(sliceBounds c d aJ n).2.2=1:=by
 refine⟨?_,?_,rfl⟩
 ·cases c with
  |none=>rfl
  |some i=>
   simp[sliceBounds,HT.cF]
   grind
 ·cases d with
  |none=>rfl
  |some i=>
   simp[sliceBounds,HT.cF]
   grind
def Zaf(c:Z aY)(d e:bq Int):slicePick c.toArray d e aJ=((c.drop (HT.cF c.length 0 d)).take (HT.cF c.length c.length e-HT.cF c.length 0 d)).toArray:=by
 obtain⟨h,g,f⟩:=ZaC d e c.toArray.size;unfold slicePick;rw[h,g,f];simp only[sliceRange_one,pick_run]<;>rfl
def Zjp(K:ah):V->bq Int->bq Int->Hp->VK->Prop:=λx lo d H Q=>∃a c,x=.ref a/\ak K H a c/\∀p,H p=aJ->Q (.ref p) (upd H p (.lst (mP c lo d)))
def Zfv:sy X (Zjp X.K):=by
 rintro e s n H x v p o lo g t Q I h m j i ⟨a,c,rfl,l,q⟩;cases h;obtain⟨w,r,f,k⟩:=I.list l;have d:=r.length;refine⟨"list",_,slot_list_getitem.lookup,f.isList.typeIs,zT f.isList m j i .none (by simp) ?_ (by rw[Yq]<;>omega)⟩;rw[Zaf,←d];refine⟨.ref s.heap.objs.size,_,I.laid (λ b u=>Yb _) (Yd _) ?_,rfl,q _ (I.aw.fresh (Yd _))⟩;exact⟨Yz (Gf c lo g) k,_,0,(r.drop (HT.cF c.length 0 lo)).take (HT.cF c.length c.length g-HT.cF c.length 0 lo),Yp _ rfl⟩
def jS:V->cm
 |.ay=>af
 |.bl _=>af
 |.int _=>af
 |.str _=>af
 |_=>a7
def jF:V->V->cm
 |.ay,.ay=>af
 |.bl a,.bl b=>a==b
 |.bl a,.int b=>(if a then 1 else 0)==b
 |.int a,.bl b=>a==(if b then 1 else 0)
 |.int a,.int b=>a==b
 |.str a,.str b=>a==b
 |_,_=>a7
theorem JD(e:RelV y u)(c:RelV x v)(g:jS y=af)(f:jS x=af):SeqAt.EqAt A s u v (jF y x):=by
 cases y with
 |ay=>
  cases e;cases x with
  |ay=>cases c;exact UJ _
  |bl b=>cases c;exact SeqAt.EqAt.none_bool b
  |int b=>obtain⟨t,rfl⟩:=c;exact SeqAt.EqAt.none_int b t
  |str b=>obtain⟨t,rfl⟩:=c;exact SeqAt.EqAt.none_str b t
  |_=>exact absurd (f) Yi
 |bl a=>
  cases e;cases x with
  |ay=>cases c;exact SeqAt.EqAt.bool_none a
  |bl b=>cases c;exact SeqAt.EqAt.bool_bool a b
  |int b=>obtain⟨t,rfl⟩:=c;exact SeqAt.EqAt.bool_int a b t
  |str b=>obtain⟨t,rfl⟩:=c;exact SeqAt.EqAt.bool_str a b t
  |_=>exact absurd (f) Yi
 |int a=>
  obtain⟨d,rfl⟩:=e;cases x with
  |ay=>cases c;exact SeqAt.EqAt.int_none a d
  |bl b=>cases c;exact SeqAt.EqAt.int_bool a d b
  |int b=>obtain⟨t,rfl⟩:=c;exact q_ a d b t
  |str b=>obtain⟨t,rfl⟩:=c;exact Xl a d b t
  |_=>exact absurd (f) Yi
 |str a=>
  obtain⟨d,rfl⟩:=e;cases x with
  |ay=>cases c;exact SeqAt.EqAt.str_none a d
  |bl b=>cases c;exact SeqAt.EqAt.str_bool a d b
  |int b=>obtain⟨t,rfl⟩:=c;exact WO a d b t
  |str b=>obtain⟨t,rfl⟩:=c;exact SeqAt.EqAt.str_str a d b t
  |_=>exact absurd (f) Yi
 |_=>exact absurd (g) Yi
def je(x:V)(u:aY):cm:=match u with
 |.none=>jF .ay x
 |.bool b=>jF (.bl b) x
 |.int i _=>jF (.int i) x
 |.str z _=>jF (.str z) x
 |_=>a7
theorem R1(r:RelV y u)(f:jS y=af):je x u=jF y x:=by
 cases y with
 |ay=>cases r;rfl
 |bl b=>cases r;rfl
 |int i=>obtain⟨t,rfl⟩:=r;rfl
 |str z=>obtain⟨t,rfl⟩:=r;rfl
 |_=>exact absurd (f) Yi
theorem yQ{x:V}:∀{c:Z V} {d:Z aY},Vals c d->c.all jS=af->d.any (je x)=c.any λy=>jF y x
 |_,_,.nil,_=>rfl
 |y::c,u::d,.cons r t,f=>by
  rw[Jm,Wp] at f;rw[Jh,Jh,R1 r f.1,yQ t f.2]
theorem yL(i:RelV x v)(k:jS x=af):∀{d:Z V} {e:Z aY},Vals d e->d.all jS=af->∀u∈e,SeqAt.EqAt A s u v (je x u):=by
 intro d e h;induction h with
 |nil=>intro _ u c;cases c
 |cons r t j=>
  intro f g c;rw[Jm,Wp] at f;rcases Ys.mp c with rfl|c;·rw[R1 r f.1];exact JD r i f.1 k
  ·exact j f.2 g c
def gI(x:V)(c:Z V):cm:=c.any λy=>jF y x
def zV(K:ah)(d:cm):R2:=λx y H Q=>∃p c,y=.ref p/\(ak K H p c\/aB K H p c)/\jS x=af/\c.all jS=af/\Q (.bl (if d then !gI x c else gI x c)) H
def ZcV:cS X (compareOp .In) (zV X.K a7):=by
 rintro h s l H x y v u Q I g j ⟨p,m,rfl,c,i,fs,q⟩;cases j;rcases c with c|c
 ·obtain⟨d,r,e,k⟩:=I.list c;refine Ug (je x) e.isList (λw f=>yL g i r fs w (by simpa using f)) ⟨.bl _,H,I,rfl,?_⟩;rw[show d.toArray.any (je x)=d.any (je x) by simp,yQ r fs];exact q
 ·obtain⟨d,r,e,k⟩:=I.tuple c;refine SeqAt.in_tupleAt (je x) e (λw f=>yL g i r fs w (by simpa using f)) ⟨.bl _,H,I,rfl,?_⟩;rw[show d.toArray.any (je x)=d.any (je x) by simp,yQ r fs];exact q
def ZaD:cS X (compareOp .NotIn) (zV X.K af):=by
 rintro h s l H x y v u Q I g j ⟨p,m,rfl,c,i,fs,q⟩;cases j;rcases c with c|c
 ·obtain⟨d,r,e,k⟩:=I.list c;refine SeqAt.notIn_listAt (je x) e.isList (λw f=>yL g i r fs w (by simpa using f)) ⟨.bl _,H,I,rfl,?_⟩;rw[show d.toArray.any (je x)=d.any (je x) by simp,yQ r fs];exact q
 ·obtain⟨d,r,e,k⟩:=I.tuple c;refine SeqAt.notIn_tupleAt (je x) e (λw f=>yL g i r fs w (by simpa using f)) ⟨.bl _,H,I,rfl,?_⟩;rw[show d.toArray.any (je x)=d.any (je x) by simp,yQ r fs];exact q
def NK:dA X (.builtin "len") (λh H Q=>∃p d,h=[.ref p]/\(ak X.K H p d\/aB X.K H p d)/\Q (.int d.length) H):=by
 rintro i s m H h n Q I r ⟨p,d,rfl,e,q⟩;obtain⟨u,rfl,j⟩:=vals1 r;cases j;have o:=tZ;rcases e with e|e
 ·obtain⟨l,f,g,k⟩:=I.list e;have c:=f.length;exact Calls.call_len_list g.isList (by simp only[Yq]<;>omega) ⟨.int d.length,H,I.tok _,⟨s.toks+1,by rw[Yq,c]⟩,q⟩
 ·obtain⟨l,f,g,k⟩:=I.tuple e;have c:=f.length;exact len_tuple g (by simp only[Yq]<;>omega) ⟨.int d.length,H,I.tok _,⟨s.toks+1,by rw[Yq,c]⟩,q⟩
def ZaE:dA X (.builtin "len") (λc H Q=>∃z,c=[.str z]/\z.length<=sizeLine/\Q (.int z.length) H):=by
 rintro d s e H c f Q I r ⟨z,rfl,g,q⟩;obtain⟨u,rfl,t,rfl⟩:=vals1 r;have h:=tZ;exact len_str (by omega) ⟨.int z.length,H,I.tok _,⟨_,rfl⟩,q⟩
def vF:dA X (.type "tuple") (λk H Q=>∃p c,k=[.ref p]/\((ak X.K H p c/\∀l,H l=aJ->Q (.ref l) (upd H l (.tup c)))\/(aB X.K H p c/\Q (.ref p) H))):=by
 rintro d s v H k z Q I r ⟨p,c,rfl,h⟩;obtain⟨u,rfl,w⟩:=vals1 r;cases w;rcases h with⟨g,q⟩|⟨g,q⟩
 ·obtain⟨j,e,f,m⟩:=I.list g;have n:=e.length;refine call_tuple_list f.isList (λi x=>?_) (by simp only[Yq]<;>omega);have t:=I.kept (t':=s.toks) x;have y:Inv X d v (upd H i.objs.size (.tup c)) {s with heap:=i.push {cls:=.type "tuple",data:=.seq j.toArray}}:=
   t.laid (λ b o=>Yb _) (Yd _) (show cH X.prog X.w _ _ _ (.tup c) from⟨m,j,e,mE.new _ _⟩)
  exact⟨.ref i.objs.size,_,y,rfl,q _ (t.aw.fresh (Yd _))⟩
 ·obtain⟨j,e,f,m⟩:=I.tuple g;exact call_tuple_same f ⟨.ref p,H,I,rfl,q⟩
def LK(K:ah)(T:String)(x:V)(H:Hp):Prop:=match x with
 |.str _=>T="str"
 |.int _=>T="int"
 |.ref p=>(T="list"/\∃e,ak K H p e)\/(T="tuple"/\∃o,K.lookup p=U o/\o.cls=.type "tuple"/\o.dict=aJ)\/
   (T="dict"/\((∃d,H p=U (.dK d))\/∃d,H p=U (.dT d)))\/(T="set"/\∃c n,H p=U (.set c n))
 |_=>False
theorem R3(I:Inv X pins σ H s)(r:RelV x v)(h:LK X.K T x H):
  s.TypeIs v T/\∀a,v=.ref a->∃m,s.heap.get? a=U m/\m.dict=aJ:=by
 cases x with
 |str z=>
  obtain⟨t,rfl⟩:=r;cases(show T="str" from h);exact⟨pJ s z t,λ_ e=>nomatch e⟩
 |int i=>
  obtain⟨t,rfl⟩:=r;cases(show T="int" from h);exact⟨typeIs_int s i t,λ_ e=>nomatch e⟩
 |ref p=>
  cases r;rcases h with⟨rfl,w,q⟩|⟨rfl,o,f,u,hd⟩|⟨rfl,f⟩|⟨rfl,d,n,f⟩
  ·obtain⟨y,_,l,_⟩:=I.list q;refine⟨l.isList.typeIs,λa e=>?_⟩;obtain⟨o,n,e,c,hd,_⟩:=l
   grind
  ·refine⟨⟨o,I.cO p o f,u⟩,λa e=>?_⟩;cases e;exact⟨o,I.cO _ o f,hd⟩
  ·have z:∃o,s.heap.get? p=U o/\o.ExactDict:=by
    rcases f with⟨j,f⟩|⟨j,f⟩
    ·obtain⟨_,_,_,_,o,_,_,e,g,_⟩:=I.aw p _ f;exact⟨o,e,g⟩
    ·obtain⟨_,_,_,_,o,_,_,e,g,_⟩:=I.aw p _ f;exact⟨o,e,g⟩
   obtain⟨o,e,g⟩:=z;refine⟨⟨o,e,g.1⟩,λa k=>?_⟩;cases k;exact⟨o,e,g.2.1⟩
  ·obtain⟨o,_,_,_,e,g,_⟩:=I.aw p _ f;refine⟨⟨o,e,g.1⟩,λa k=>?_⟩;cases k;exact⟨o,e,g.2.1⟩
 |_=>exact False.elim h
def KW(K:ah)(T:String)(r:V->Z V->Hp->VK->Prop)(N:TE):TE:=λd H Q=>N d H λx c=>LK K T x c/\r x [] c Q
def zW(K:ah)(T:String)(r:V->Z V->Hp->VK->Prop)(N:TE)(t:TA):TE:=λc H Q=>N c H λx d=>LK K T x d/\t c d λe f=>r x e f Q
variable {o e:cu}{L:Z cu}{N:TE}{t:TA}{W:ar}{R P:Pos}{T id:String}{r:V->Z V->Hp->VK->Prop}
def ZgY(p:PlainAttrs T)(d:Slot T W id)(z:typeOf (.builtin id)=pure (.type "method_descriptor"))(u:VL X id r)(q:PE X o N)
  (m:attributeBase o W X.env (eval o X.env)=eval o X.env:=by rfl)(l:(R.endLine==P.line)=af:=by rfl):PE X (.Call (.Attribute o W R) [] [] P) (KW X.K T r N):=by
 intro c s f H Q I h;refine uu m l (az (q c s f H _ I h) λv k j=>?_);obtain⟨x,A,i,g,ty,n⟩:=j;obtain⟨y,w⟩:=R3 i g ty;exact⟨T,id,p,d,z,y,w,l_ rfl (uP (u c k f A x [] v [] Q i g .nil n))⟩
def mJ(B:PlainAttrs T)(d:Slot T W id)(LL:typeOf (.builtin id)=pure (.type "method_descriptor"))(E:VL X id r)(D:PE X o N)(F:PA X (e::L) t)
  (y:attributeBase o W X.env (eval o X.env)=eval o X.env:=by rfl)
  (KY:((backTo P (starEach (e::L) X.env)).all (λx=>!x.1)&&(backToKw P (keywordEach [] X.env)).all (λx=>x.1.isSome)
   &&decide ((e::L).length+([]:Z Keyword).length+(if([]:Z Keyword).isEmpty then 0 else 1)<30))=af:=by rfl)
  (w:(R.endLine==P.line)=af:=by rfl)(C:jB X e L:=by rfl)(g:j9 X P L:=by rfl):
  PE X (.Call (.Attribute o W R) (e::L) [] P) (zW X.K T r N t):=by
 intro c s f H Q I h;refine AM y KY w rfl (az (D c s f H _ I h) λv q l=>?_);obtain⟨x,H1,k,i,ty,A⟩:=l;obtain⟨J,G⟩:=R3 k i ty;refine⟨T,id,B,d,LL,J,G,?_⟩;have j:=F P c q f H1 _ k A;rw[C] at j⊢;exact l_ (by show(a7||(backTo P (starEach L X.env)).any (·.1))=a7;rw[g]<;>rfl) (pz (az j λn p ⟨m,H2,I2,u,z⟩=>E c p f H2 x m v n Q I2 i u z))
end
def oZ(X:Cx)(id:String)(r:V->Z V->Hp->VK->Prop):Prop:=
 ∀(a:a8) (s:bt) (b:St) (H:Hp) (x:V) (c:Z V) (v:aY) (d:Z aY) (Q:VK),Inv X a b H s->RelV x v->Vals c d->r x c H Q->
  wpAny X.md X.A (call (.builtin id) (v::d)) (EP X a b Q) X.xe s
theorem Vals.one:∀{x:V} {a:Z aY},Vals [x] a->∃u,a=[u]/\RelV x u:=by
 intro x a h;cases h with
 |cons r t=>
  cases t;exact⟨_,rfl,r⟩
theorem Vals.zero:∀{a:Z aY},Vals [] a->a=[]
 |_,.nil=>rfl
theorem Vals.eraseIdx:∀{a:Z V} {b:Z aY} (i:Nat),Vals a b->Vals (a.eraseIdx i) (b.eraseIdx i)
 |_,_,_,.nil=>.nil
 |_,_,0,.cons _ t=>t
 |_,_,i+1,.cons r t=>.cons r (Vals.eraseIdx i t)
section
variable {X:Cx}{W:a8}{σ:St}{H:Hp}{s:bt}{l:O}{xs T:Z V}
def Inv.CI{b a:Z aY}{n:Nat}{f:cW aY->cW aY}{c:Nat}(I:Inv X W σ H s)(k:H l=U (.lst xs))
  (e:s.heap.get? l=U {cls:=.type "list",data:=.seq b.toArray n})(i:f b.toArray=a.toArray)(g:Vals T a)(d:T.length<=sizeLine):
  Inv X W σ (upd H l (.lst T)) {s with heap:=s.heap.update l (Obj.mapSeq f),toks:=c}:=by
 have q:=PySem.IsL.update e f;rw[i] at q;refine I.write (by rw[k];exact trivial) (.inl rfl) (λm u j h=>(Wc s.heap (Obj.mapSeq f) (jm j)).trans h) ⟨_,q⟩ ?_;exact⟨d,a,_,g,q⟩
def Inv.Zjq(I:Inv X W σ H s)(c:Vals T a)(b:T.length<=sizeLine):
  Inv X W σ (upd H s.heap.objs.size (.lst T)) {s with heap:=s.heap.push {cls:=.type "list",data:=.seq a.toArray},toks:=d}:=
 I.laid (λ _ _=>Yb _) (Yd _) ⟨b,a,0,c,Yp _ rfl⟩
def Inv.fresh(I:Inv X W σ H s):H s.heap.objs.size=aJ:=I.aw.fresh (Yd _)
def Inv.uq(I:Inv X W σ H s)(b:H l=U (.lst xs)):xs.length<=sizeLine/\∃(a:Z aY) (n:Nat),Vals xs a/\xs.length=a.length/\s.heap.get? l=U {cls:=.type "list",data:=.seq a.toArray n}:=by
 obtain⟨z,a,n,r,e⟩:=I.aw l _ b;exact⟨z,a,n,r,r.length,e⟩
def ZdS(h:n<=sizeLine):Builtin.List.listTooLong n=a7:=by
 exact g_ (V0 h)
end
def Zfw:V->Z V->Hp->VK->Prop:=λx b H Q=>∃l a y,x=.ref l/\b=[y]/\H l=U (.lst a)/\a.length<sizeLine/\Q .ay (upd H l (.lst (a++[y])))
def yE:oZ X "list.append" Zfw:=by
 intro a s i H x k v m Q I c d h;obtain⟨l,j,y,rfl,rfl,b,o,q⟩:=h;cases c;obtain⟨u,rfl,f⟩:=d.one;obtain⟨z,g,n,r,p,e⟩:=I.uq b;refine ro F.slot_list_append ⟨_,e,rfl⟩ F.entry_list_append (F.args_list_append_2 _ _) (PySem.list_append l g.toArray n u (by rw[Yq];omega)) ⟨e,?_⟩;refine⟨.ay,_,I.CI b e (by simp) (r.append (.cons f .nil)) ?_,rfl,q⟩
 (simp;exact ot o)
def Zfx:V->Z V->Hp->VK->Prop:=λx d H Q=>∃l b c a,x=.ref l/\d=[.ref b]/\H l=U (.lst c)/\H b=U (.lst a)/\c.length+a.length<=sizeLine/\Q .ay (upd H l (.lst (c++a)))
def ZcW:oZ X "list.extend" Zfx:=by
 rintro g s w H x D v E Q I i j ⟨l,b,B,y,rfl,rfl,h,p,G,q⟩;cases i;obtain⟨u,rfl,k⟩:=j.one;cases k;obtain⟨z,c,n,r,J,e⟩:=I.uq h;obtain⟨A,d,o,m,C,t⟩:=I.uq p;have a:c.toArray.size+d.toArray.size<=sizeLine:=by rw[Yq,Yq];omega
 have f:¬(!c.toArray.isEmpty&&Builtin.List.listTooLong (c.toArray.size+d.toArray.size))=af:=by
  rw[ZdS a,Bool.and_false]
  grind
 refine ro F.slot_list_extend ⟨_,e,rfl⟩ F.entry_list_extend (F.args_list_extend_2 _ _)
  (AutoSeq1.list_extend_list_list_0 l c.toArray n b d.toArray o f (by rw[Yq];exact Nat.le_of_add_le_add_right (tD a)) (lK a)) ⟨e,t,?_⟩
 refine⟨.ay,_,I.CI h e (by simp) (r.append m) ?_,rfl,q⟩
 grind
def Zg0:V->Z V->Hp->VK->Prop:=λx b H Q=>∃l a i k y,x=.ref l/\b=[.int i]/\H l=U (.lst a)/\-(2^63)<=i/\i<2^63/\seqIndex? i a.length=U k/\a[k]?=U y/\Q y (upd H l (.lst (a.eraseIdx k)))
def ZdT:oZ X "list.pop" Zg0:=by
 rintro a s A H x C v D Q I c d ⟨l,B,i,k,y,rfl,rfl,b,o,m,G,h,q⟩;cases c;obtain⟨u,rfl,f⟩:=d.one;obtain⟨t,rfl⟩:=f;obtain⟨z,p,n,r,j,e⟩:=I.uq b;obtain⟨w,E,g⟩:=r.get h;refine ro F.slot_list_pop ⟨_,e,rfl⟩ F.entry_list_pop (F.args_list_pop_2 _ _)
  (MeetsSeq.list_pop_at l p.toArray n i t k w (fitsIndex_both o m) (by rwa[Yq,←j]) (by rwa[←Jt]) (by rw[Yq];omega)) ⟨e,?_⟩
 refine⟨y,_,I.CI b e ?_ (r.eraseIdx k) ?_,g,q⟩;·simp_all
 ·grind
def Zg1:V->Z V->Hp->VK->Prop:=λx b H Q=>∃l a,x=.ref l/\b=[]/\H l=U (.lst a)/\Q .ay (upd H l (.lst []))
def ZdU:oZ X "list.clear" Zg1:=by
 rintro b s h H x j v k Q I d f ⟨l,i,rfl,rfl,c,q⟩;cases d;have a:=f.zero;subst a;obtain⟨z,g,n,r,m,e⟩:=I.uq c;exact ro F.slot_list_clear ⟨_,e,rfl⟩ F.entry_list_clear (F.args_list_clear_1 _) (AutoSeq1.list_clear_list_0 l g.toArray n (by rw[Yq];omega)) ⟨e,⟨.ay,_,I.CI c e rfl .nil (Yx _),rfl,q⟩⟩
def Zjr:R2:=λx y H Q=>∃l b c a,x=.ref l/\y=.ref b/\H l=U (.lst c)/\H b=U (.lst a)/\c.length+a.length<=sizeLine/\∀p,H p=aJ->Q (.ref p) (upd H p (.lst (c++a)))
def Zg2:cS X (binaryOp .Add) Zjr:=by
 rintro a s p H x y v u Q I g f ⟨l,b,A,t,rfl,rfl,j,k,i,q⟩;cases g;cases f;obtain⟨z,d,n,r,D,e⟩:=I.uq j;obtain⟨w,c,C,h,B,o⟩:=I.uq k;refine PySem.P.add_list e o ?_ (by rw[Yq,Yq];omega);have m:d.toArray++c.toArray=(d++c).toArray:=by simp
 exact m▸⟨.ref _,_,I.Zjq (r.append h) (by rw[Yj];exact i),rfl,q _ I.fresh⟩
section
set_option maxRecDepth 100000 in
end
end L2
namespace VM
open PySem PySem.W PySem.Calls PyProof.Rows
theorem ZM:∀(ns:Z Int) (c:Z aY),WellAll P h c (ns.map WData.int)->IntsAre c ns:=by
 intro ns;induction ns with
 |nil=>
  intro c w;cases w;exact .nil
 |cons n ns d=>
  intro c w;cases w with
  |cons a b=>
   cases a;exact .cons _ _ (d _ b)
theorem ZcX{l:OpenLaw}(o:l.most=U n)
  (g:l.row.toRowW.claim.pre args=af)(i:WellAll P h vals args):
  ∃a f b,vals=[Value.ref a]/\args=[WData.list (b.map WData.int)]/\h.get? a=U {cls:=.type "list",data:=.seq f.toArray}/\IntsAre f b/\b.length<=n:=by
 obtain⟨d,r,rfl,s,q⟩:=hasAllW_cons ((pre_splitW g).1);obtain rfl:=hasAllW_nil q;obtain⟨u,rfl,p⟩:=hasW_list s;obtain⟨b,rfl⟩:=items_int p;have c:b.length<=n:=by
  have e:(WTm.not (.lt (.lit (.int (n:Int))) (.len (.arg 0)))).holds [] {args:=[.list (b.map .int)]}=af:=by
   have e:=(holds_andW ((pre_splitW g).2)).1;rw[o] at e;exact e
  have v:=condW_of e (w_not (w_lt w_lit (w_len_list (w_arg rfl))))
  simp_all
 cases i with
 |cons k j=>
  cases j;cases k with
  |list m t=>exact⟨_,_,b,rfl,rfl,m,ZM b _ t,c⟩
def ZcY(l:OpenLaw)(a:Z WData):l.row.toRowW.claim.post a (.bool af) a=af:=
 postW_of
  (by first|rfl|decide|simp[WShape.has])
  (show(WTm.eq .res (.lit (.bool af))).value [] {args:=a,res:=U (.bool af),after:=a}=U (.bool (af==af)) from w_eq_bool (w_res rfl) w_lit) rfl
def Za_{l:OpenLaw}{n:Nat}{q:cZ}{c:Z ar}{D:(ar->bq aY)->cI->Prop}{C:cN->cI->Prop}{d:DefRec}
  (N:l.most=U n)(F:d.params.defaults=[])
  (m:∀(w:cN) (y e:bt) (t x:aU) (k:O) (o:Obj) (v u h:aY) (a:O) (i:Z aY) (s:Z Int),
   Ground q c [] D w y t x e.heap->C w e.heap->
   e.heap.get? k=U o->o.data=.func (docDef d.name d.params d.body d.scope v u h)->e.heap.CodeRec u d.name->t d.name=U (.ref k)->
   e.heap.get? a=U {cls:=.type "list",data:=.seq i.toArray}->IntsAre i s->s.length<=n->e.gens=#[]->
   codeAny (model l.prog w) callerA (.call (.ref k) ⟨[.ref a],[]⟩) (λr p=>r=.ok (.ret (.bool af))/\OldK e.heap p.heap/\p.os=e.os/\AllBare p.gens) e):
  WalkO q c D C l.row.toRowW d [] (λf i=>PySem.call f i):=by
 intro w y e t x G b k o v u h dV kV L hd gu A E R B z as CK ZlE I H Q;obtain rfl:dV=.none:=Dflts.none A F;obtain rfl:kV=.none:=Dflts.noKw A;obtain⟨a,i,s,rfl,rfl,K0,g,j⟩:=ZcX N CK H;refine enter_call (mr (m w y e t x k o v u h a i s G b L (fd_plain hd) gu E K0 g j R) λr p J=>?_);obtain⟨rfl,X,W,T⟩:=J;exact⟨.inl ⟨.bool af,.bool af,[],rfl,λ_=>rfl,.bool af,ZcY l _,λ_=>⟨MM,λ_ P=>(nomatch P)⟩⟩,X,W,T⟩
end VM
namespace L2
open PySem PySem.Spec PyProof.Rows
theorem Hx:∀{vs:Z aY} {a:Z Int},IntsAre vs a->Vals (a.map V.int) vs:=by
 intro vs a h;induction h with
 |nil=>exact .nil
 |cons n t h b=>exact .cons ⟨t,rfl⟩ b
def K1(H:Hp):Prop:=∀b,H b=aJ\/∃o a,H b=U (.bU o (.lst a))
theorem ZdV{P:cZ}{w:cN}{K:ah}{t E:aU}{CX:lG}{k:Nat}{J a:O}{fd:FuncData}{x:ar}{T:Sp}{bP:bt}{j:Z aY}{p:Z Int}
  (KX:K.In bP.heap)(VN:bP.heap.Ns mainGlobals t)(c:bP.heap.Ns builtinsNs E)(I:∀x:ar,x≠"__name__"->E x=bootBuiltins x)(Q:bP.heap.NoLimit)(hg:bP.gens=#[])
  (A:bP.heap.get? a=U {cls:=.type "list",data:=.seq j.toArray})(hi:IntsAre j p)(hl:p.length<=sizeLine)(hr:c5 k callerA)
  (F:∀g:cI,K.In g->g.Ns mainGlobals t->aI P w K t g CX k J fd [x] T)(R:∀(s:bt) (u:aY),BindsTo s fd ⟨[u],[]⟩ [(x,u)])
  (mU:∀H:Hp,K1 H->ak K H a (p.map V.int)->T [.ref a] H (λv _=>v=.bl af) λ_ _ _=>False)
  (LM:∀H e f,CX [] H bP (λ_ _ _=>False) e f->False):
  codeAny (model P w) callerA (.call (.ref J) ⟨[.ref a],[]⟩) (λr f=>r=.ok (.ret (.bool af))/\OldK bP.heap f.heap/\f.os=bP.os/\AllBare f.gens) bP:=by
 have W:=Hx hi;have N:=hi.length
 --from an abstract heap in Zlx nothing but X RM may be tracked
 have i:∀H:Hp,K1 H->ak K H a (p.map V.int)->dz P w H bP.heap->(∀b,H b≠aJ->b=a)->(H a≠aJ->K.lookup a=aJ)->
   codeAny (model P w) callerA (.call (.ref J) ⟨[.ref a],[]⟩) (λr f=>r=.ok (.ret (.bool af))/\OldK bP.heap f.heap/\f.os=bP.os/\AllBare f.gens) bP:=by
  intro H hO hS aw hA hK;have QK:∀{b:O} {o:Obj},bP.heap.get? b=U o->H b=aJ->(qm bP.heap H).get? b=U o:=λe n=>ZdJ e n;have lH:∀{b:O} {o:Obj} {B:cW DictEntry} {C:Nat},bP.heap.get? b=U o->o.data=.dict B C->H b=aJ:=λ{b o B C} e d=>by
   cases q:H b with
   |none=>rfl
   |some u=>
    have L:b=a:=hA b (by rw[q];simp);subst L;rw[A] at e;cases e;have d':=d;cases d'
  have D:∀{b:O} {m:aU},bP.heap.Ns b m->(qm bP.heap H).Ns b m:=λ{b m} ⟨o,B,C,e,d,r⟩=>⟨o,B,C,QK e (lH e d),d,r⟩;have VO:=λb o e=>QK (KX b o e) (by
   cases q:H b with
   |none=>rfl
   |some u=>
    have L:=hA b (by rw[q];simp);subst L;rw[hK (by rw[q];simp)] at e;cases e)
  have hM:Mod K t (qm bP.heap H):=⟨VO,D VN,⟨E,D c,I⟩,let⟨mc,h1,h2⟩:=Q;⟨mc,D h1,h2⟩⟩;have e0:uo P w K t (qm bP.heap H) callerA [] bP H:=⟨rfl,hM,λ b o=>Zfl,LI (ZcP _ _),trivial,λb c=>absurd (show b∈([]:Z O) from c) (by simp),aw,.of_eq hg⟩;refine mr ((F _ VO (D VN)).run callerA [] bP H ⟨[.ref a],[]⟩ [.ref a] [.ref a] _ _ hr e0 (R bP (.ref a)) (.cons rfl .nil) (mU H hO hS)) λr f h=>?_;cases r with
  |error e=>exact(LM H e f h).elim
  |ok fl=>
   cases fl with
   |next=>exact False.elim h
   |brk=>exact False.elim h
   |cont=>exact False.elim h
   |ret u=>
    obtain⟨v,H',os,y,un,K2,r',q⟩:=h;have q':=q;subst q';obtain rfl:u=Value.bool af:=r';refine⟨rfl,OldK.of_keep λb o e=>?_,os,y⟩;cases q:H b with
    |none=>exact un.keep b o e q (by intro z;exact absurd (show b∈([]:Z O) from z) (by simp)) (by simp)
    |some u=>
     rcases hO b with z|⟨ob,xs,z⟩;·rw[q] at z;cases z
     ·have z2:=un.iO b ob _ z;obtain⟨e1,_⟩:=aw b _ z;obtain⟨e2,_⟩:=K2 b _ z2;rw[e] at e1;cases e1;exact e2
 cases G:K.lookup a with
 |some o=>
  --X RM is one of X Zlp own objects
  have e:=KX a o G;rw[A] at e;cases e;refine i (λ_=>aJ) (λ_=>.inl rfl) (.inr ⟨_,j.toArray,_,G,rfl,rfl,rfl,by rwa[Yq,N],by simpa using W⟩) (λb u z=>by have l:=z;cases l) (λ b=>absurd rfl) λz=>absurd rfl z
 |none=>
  refine i (λb=>if b=a then U (.bU {cls:=.type "list",data:=.seq j.toArray} (.lst (p.map V.int))) else aJ) (λb=>?_) (.inl (.inr ⟨{cls:=.type "list",data:=.seq j.toArray},bS rfl⟩)) (λb u z=>?_) (λb z=>?_) λ_=>G
  ·by_cases c:b=a;·exact .inr ⟨_,_,bS c⟩
   ·exact .inl (bR c)
  ·by_cases c:b=a
   ·have l:=(bS c).symm.trans z;cases l;subst c;exact⟨A,by rwa[Ya],j,_,W,A⟩
   ·have l:=(bR c).symm.trans z;cases l
  ·by_cases c:b=a;·exact c
   ·exact absurd (bR c) z
def Zfy{l:PySem.W.OpenLaw}{n k:Nat}{q:cZ}{i:Z ar}{XP:(ar->bq aY)->cI->Prop}{B:cN->cI->Prop}{d:DefRec}{K:Params->ah}{D:cN->lG}{A:cN->Sp}{x:ar}
  (P:l.most=U n)(L:n<=sizeLine)(I:d.params.defaults=[])(N:c5 k callerA)
  (T:∀(w:cN) (h:cI),B w h->(K w.params).In h)
  (F:∀(w:cN) (m:aU) (r:O) (h:cI),(K w.params).In h->h.Ns mainGlobals m->m d.name=U (.ref r)->
   ∃y:FuncData,(∀(s:bt) (u:aY),BindsTo s y ⟨[u],[]⟩ [(x,u)])/\
    ∀c:cI,(K w.params).In c->c.Ns mainGlobals m->aI l.prog w (K w.params) m c (D w) k r y [x] (A w))
  (J:∀(w:cN) (H:Hp) (a:O) (p:Z Int),p.length<=n->K1 H->ak (K w.params) H a (p.map V.int)->A w [.ref a] H (λv _=>v=.bl af) λ_ _ _=>False)
  (LM:∀(w:cN) (H:Hp) (s:bt) (e:aY) (t:bt),D w [] H s (λ_ _ _=>False) e t->False):
  PySem.W.WalkO q i XP B l.row.toRowW d [] (λf z=>PySem.call f z):=by
 refine VM.Za_ P I λw dw bP m mb r o pm cd X a z p G b ho hd gu E K0 j g Q=>?_;have C:=T w _ b;obtain⟨y,R,W⟩:=F w m r _ C G.T.g E;exact ZdV C G.T.g G.T.b G.T.builtins G.T.nolimit Q K0 j (Yz g L) N W R (λ H=>J w H a p g) λH e t=>LM w H bP e t
def inClass(s:cj)(j:Nat):cj:=match s with
 |.ClassDef _ _ _ body _ _ _ _ _ _ _=>body.getD j (.Pass ⟨0,0,0,0⟩)
 |_=>.Pass ⟨0,0,0,0⟩
def mC(s:cj):Arguments:=match s with
 |.FunctionDef _ a _ _ _ _ _ _ _ _=>a
 |_=>{posonlyargs:=[],args:=[],vararg:=aJ,kwonlyargs:=[],kw_defaults:=[],kwarg:=aJ,defaults:=[]}
def jq(s:cj):Z cj:=match s with
 |.FunctionDef _ _ b _ _ _ _ _ _ _=>b
 |_=>[]
def aO(s:cj):Scope:=match s with
 |.FunctionDef _ _ _ _ _ _ sc _ _ _=>sc
 |_=>{kind:=.function,names:=[],isGenerator:=a7,isCoroutine:=a7}
abbrev aP:lG:=λ_ _ _ _ _ _=>False
abbrev E0:XK:=λ_ _ _=>False
def ze:Passes aP X E0:=λ_ _ _ _ _ _ _ h=>h.elim
structure aR(K:ah)(x qual:ar)(st:cj)(f:O)(fd:FuncData):Prop where
 ex:∃(oc:aY) (od:bq O) (kV doc pm:aY) (an:bq O) (bO ct:aY) (jD:cW (bq aY)),
  fd=fnOf x qual (mC st) (jq st) (aO st) .none kV doc pm an bO ct/\K.lookup f=U ⟨oc,od,.func fd,jD⟩/\codeIn K bO qual=af
 kp:keepIn K (.ref f)=af
section
variable {P:cZ}{w:cN}{K:ah}{W:aU}{X:cI}
def aR.ok{x c:ar}{e:cj}{f:O}{l:FuncData}{N i:Z ar}{k:Nat}{sp:Sp}(F:aR K x c e f l)(a:aT N i (aO e))(j:∀d H Q E,sp d H Q E->d.length=i.length)
  (m:∀(g:aY) (A:eL) (b:Z Env) (s:bt) (H:Hp) (d:Z V) (Q:VK) (E:XK),c5 k (A.deeper (envOfC c (aO e) s.heap.objs.size f g))->sp d H Q E->
   ∃t,fX (lq aP P w K W X N c (aO e) f g A b s H E).oX (jq e) t/\t {nx:=λ_ v=>Q .ay v,rt:=Q} (start N d) H):aI P w K W X aP (k+1) f l i sp:=by
 obtain⟨B,z,kV,u,y,G,g,D,C,rfl,o,r⟩:=F.ex;refine Kn o r a j λA b s H d Q E p n=>?_;obtain⟨t,h,q⟩:=m g A b s H d Q E p n;exact⟨t,h.oX,q⟩
def aR.binds{b:cj}(F:aR K x qual b f fd)
  (h:∀(kV a d:aY) (i:bq O) (g e:aY) (c:Z aY),c.length=j.length->bindArgs (fnOf x qual (mC b) (jq b) (aO b) .none kV a d i g e) ⟨c,[]⟩=pure (j.zip c)):Binds K fd j []:=by
 obtain⟨l,k,kV,a,d,i,g,e,n,rfl,m,o⟩:=F.ex;exact .all (h kV a d i g e)
def yY{x a:ar}{st:cj}{f:O}{m:aY}{j i:bq O}{n:cW (bq aY)}{g b e d h:aY}(l:K.lookup f=U ⟨m,j,.func (fnOf x a (mC st) (jq st) (aO st) .none g b e i d h),n⟩)
  (c:codeIn K d a=af)(k:keepIn K (.ref f)=af):aR K x a st f (fnOf x a (mC st) (jq st) (aO st) .none g b e i d h):=⟨⟨m,j,g,b,e,i,d,h,n,rfl,l,c⟩,k⟩
end
def bG(a:c5 k A):A.units+1<cLine:=Ji (WN (by decide:1<=64) _) a.units
def kR(h:n<=1000):n<sizeLine:=Ji h (by decide)
section
variable {X:Cx}
def pv(i:Nat){x:ar}{a:Pos}(d:X.N[i]?=U x:=by rfl)(b:uG X.env.scope x:=by first|exact gR rfl|exact kv (gR rfl)|exact kv (kv rfl))(c:(x==("__debug__":ar))=a7:=by decide)
  (e:(x==("__classdict__":ar))=a7:=by decide):PE X (.Name x a) (gn i):=ZgN d b c e
end
def bT{A B:Prop}(h:B):if a7=af then A else B:=by
 grind
def dq{A B:Prop}(h:A):if af=af then A else B:=by
 grind
def bF{c A B:Prop}[Decidable c](b:c->A)(a:¬c->B):if c then A else B:=by
 simp_all
def wR{c A B:Prop}[Decidable c](a:c)(h:B):if(!decide c)=af then A else B:=by
 grind
def aj(H a:Hp):Prop:=∀b o,H b=U o->a b=U o
def aj.refl(H:Hp):aj H H:=λ_ _ h=>h
def aj.trans(a:aj H H1)(b:aj H1 H2):aj H H2:=λc o h=>b c o (a c o h)
theorem aj.free(e:aj H a)(h:a l=Option.none):H l=Option.none:=by
 cases q:H l with
 |none=>rfl
 |some o=>
  rw[e l o q] at h;cases h
def aj.seq{K:ah}(e:aj H b)(h:ak K H a xs):ak K b a xs:=by
 rcases h with(h|⟨o,h⟩)|h;·exact .inl (.inl (e _ _ h))
 ·exact .inl (.inr ⟨o,e _ _ h⟩)
 ·exact .inr h
def rC(a:Z (ar×O)):Z (ar×O)->Prop
 |[]=>True
 |p::r=>a.lookup p.1=U p.2/\rC a r
theorem rC.look:∀{d:Z (ar×O)},rC cells d->∀(x:ar) (c:O),d.lookup x=U c->cells.lookup x=U c
 |[],_,x,c,h=>by simp at h
 |(n,a)::r,b,x,c,h=>by
  rw[Ja] at h;cases e:x==n with
  |true=>
   rw[e] at h;rw[(eq_of_beq e),←(Ym h)];exact b.1
  |false=>
   rw[e] at h;exact rC.look b.2 x c h
theorem FW{a:Env}:∀{b:Z (ar×NameKind)} {x:ar} {k:NameKind},
  (b.map λ(n,k)=>if(k==NameKind.free&&a.scope.kind==.function&&a.kindOf n==U .cell) then(n,NameKind.cell) else(n,k)).lookup x=U k->
  ∃c,(x,c)∈b/\(k=c\/c=.free)
 |[],_,_,h=>by simp at h
 |(n,c)::r,x,k,h=>by
  have h:List.lookup x ((if(c==NameKind.free&&a.scope.kind==.function&&a.kindOf n==U .cell)=af then(n,NameKind.cell) else(n,c))::(r.map λ(n,k)=>if(k==NameKind.free&&a.scope.kind==.function&&a.kindOf n==U .cell) then(n,NameKind.cell) else(n,k)))=U k:=h;by_cases d:(c==NameKind.free&&a.scope.kind==.function&&a.kindOf n==U .cell)=af
  ·rw[bS d,Ja] at h;cases e:x==n with
   |true=>grind
   |false=>
    rw[e] at h;obtain⟨f,m,q⟩:=FW h
    grind
  ·rw[bR d,Ja] at h;cases e:x==n with
   |true=>grind
   |false=>
    rw[e] at h;obtain⟨f,m,q⟩:=FW h
    grind
structure R4(X:Cx)(scope:Scope)(cl:Z (ar×O))(y:ar)(j:Nat):Prop where
 ix:X.N[j]?=U y
 out:X.env.kindOf y=U .cell\/X.env.kindOf y=U .free
 kJ:(relabel scope X.env).names.lookup y=U .cell\/(relabel scope X.env).names.lookup y=U .free
 cl:(cl.lookup y).isSome=af
def rD(X:Cx)(a:Scope)(b:Z (ar×O)):Z (ar×Nat)->Prop
 |[]=>True
 |p::r=>R4 X a b p.1 p.2/\rD X a b r
theorem rD.get:∀{b:Z (ar×Nat)} {k:Nat} {p:ar×Nat},rD X scope cl b->b[k]?=U p->R4 X scope cl p.1 p.2
 |[],k,p,_,h=>by simp at h
 |q::r,0,p,a,h=>by
  have e:q=p:=by simpa using h
  exact e▸a.1
 |q::r,k+1,p,a,h=>rD.get a.2 (by simpa using h)
structure yF(X:Cx)(scope:Scope)(cl:Z (ar×O))(x:ar)(fr:Z (ar×Nat)):Prop where
 w8:closureFor scope X.env=pure cl
 sub:rC X.env.cells cl
 kind:scope.kind=.function
 names:∀y∈scope.names,y.2=.local->scope.names.lookup y.1=U .local
 lx:scope.names.lookup x=U .local
 Cs:∀y∈scope.names,y.2≠.cell
 has:(scope.names.all λy=>!(y.2==.free)||(cl.lookup y.1).isSome)=af
 c9:rD X scope cl fr
 nd:(x::fr.map (·.1)).Nodup
def iK(a:St)(b:Z (ar×Nat)):St:=b.map λp=>(a[p.2]?).join
structure qZ(X:Cx)(scope:Scope)(cl:Z (ar×O))(xs:Z ar)(fr:Z (ar×Nat)):Prop where
 w8:closureFor scope X.env=pure cl
 sub:rC X.env.cells cl
 kind:scope.kind=.function
 names:∀y∈scope.names,y.2=.local->scope.names.lookup y.1=U .local
 Cs:∀y∈scope.names,y.2≠.cell
 has:(scope.names.all λy=>!(y.2==.free)||(cl.lookup y.1).isSome)=af
 c9:rD X scope cl fr
 nd:(xs++fr.map (·.1)).Nodup
def dm(X:Cx)(b:Z ar)(c:Z (ar×Nat))(a:Scope)(e:Z (ar×O))(C:O)(s:bt)(H:Hp)(d:Z O):Cx where
 prog:=X.prog
 w:=X.w
 K:=X.K
 mg:=X.mg
 base:=X.base
 A:=X.A
 N:=b++c.map (·.1)
 dw:=s
 kF:=H
 env:=compEnvC a e C X.env
 outer:=X.stack
 stack:=X.stack
 ex:=d
 fn:=λ_=>a7
 calm:=X.calm
 pn:=[]
 xe:=λ_ _=>False
theorem ZcZ(a:qZ X scope cl xs fr)(I:Inv X pins σ H s)(D:C=s.heap.objs.size)(t:∀b∈fp,jx X pins H b)(bM:∀b∈fp,b<s.heap.objs.size)
  (g:∀b o,s.heap.get? b=U o->E.get? b=U o)(W:E.Ns C m):Inv (dm X xs fr scope cl C s H fp) [] (List.replicate xs.length aJ++iK σ fr) H {s with heap:=E,toks:=tk}:=by
 have look:=a.sub.look;refine⟨⟨I.ok.mod,a.kind,I.ok.glob,I.ok.blt,by exact D▸Yd _,λy z c d f=>I.ok.inj y z c (look y c d) (look z c f),λy w=>?_,λy c h=>?_,I.ok.hd,I.ok.frames,.inl rfl,λb j=>⟨?_,λy c h=>?_⟩,
   I.bs,Yz I.ok.mS I.sz,λb o e j=>?_,λb j B=>?_,I.stack,I.BC⟩,
  rfl,I.bare,Un.kept g,⟨m,W,λi y v d f h3=>?_⟩,λy c h=>?_,?_,λy c h=>I.i6 y c (look y c h),λp T=>absurd (show p∈([]:a8) from T) (by simp),I.aw.kept g,?_⟩
 ·have w:=w;have fin:∀{k:NameKind},(relabel scope X.env).names.lookup y=U k->(k=.cell\/k=.free)->∃c,cl.lookup y=U c:=λ{k} e hk=>by
   obtain⟨R,J,q⟩:=FW e;have A:R=.free:=by
    rcases q with q|q
    ·rcases hk with z|z;·exact absurd (q.symm.trans z) (a.Cs _ J)
     ·exact q.symm.trans z
    ·exact q
   have G:=Wv.mp a.has _ J;rw[A] at G;exact Jj.mp (by simpa using G)
  rcases w with e|e;·exact fin e (.inl rfl)
  ·exact fin e (.inr rfl)
 ·exact absurd (h) Yi
 ·exact λz=>absurd (bM b j) (by rw[z,D];exact Wd _)
 ·exact(t b j).2.2.2.2.1 y c (look y c h)
 ·obtain⟨_,_,_,z,_⟩:=t b j;rcases z with z|z;·exact I.ok.uf b o e z
  ·have d:=Yr e;have f:=I.ok.mS;exact absurd (Y2 d (Yz f z)) (Wd _)
 ·have z:=I.I_ b B;rcases Ys.mp z with z|z;·exact(t b j).2.1 z
  ·exact(t b j).2.2.1 z
 ·by_cases L:i<xs.length;·grind
  ·have d:(xs++fr.map (·.1))[i]?=U y:=d;rw[Jx (Pe L)] at d;rw[Jx (by exact W8▸Pe L),W8] at f;generalize i-xs.length=k at d f;have f:(fr.map λp=>(σ[p.2]?).join)[k]?=U (U v):=f;rw[Yf] at d f;cases e:fr[k]? with
   |none=>rw[e] at d;cases d
   |some p=>
    rw[e] at d f;have e1:p.1=y:=Ym d;have Q:(σ[p.2]?).join=U v:=Ym f;have F:=a.c9.get e;rw[e1] at F;have e3:σ[p.2]?=U (U v):=by
     cases q:σ[p.2]? with
     |none=>rw[q] at Q;cases Q
     |some o=>simp_all
    obtain⟨m0,_,hl⟩:=I.loc;have LG:uG X.env.scope y:=by
     rcases F.out with z|z;·exact .inr (.inl z)
     ·exact .inr (.inr z)
    obtain⟨u,r,l⟩:=hl p.2 y v F.ix e3 LG;refine⟨u,r,.inr ⟨F.kJ,?_⟩⟩;obtain⟨c,N⟩:=Jj.mp F.cl;refine⟨c,N,?_⟩;rcases l with⟨n,_⟩|⟨_,c',e',z⟩
    ·rcases F.out with q|q;·rw[q] at n;cases n
     ·rw[q] at n;cases n
    ·have P:=look y c N;rw[e'] at P;cases P;obtain⟨o,x,hd⟩:=z;exact⟨o,g _ _ x,hd⟩
 ·obtain⟨v,o,x,hd⟩:=I.cell y c (look y c h);exact⟨v,o,g _ _ x,hd⟩
 ·exact D▸I.aw.fresh (Yd _)
 ·show(List.replicate xs.length aJ++iK σ fr).length=(xs++fr.map (·.1)).length;simp[iK]
abbrev wK(X:Cx)(x:ar)(b:Z (ar×Nat))(a:Scope)(d:Z (ar×O))(C:O)(s:bt)(H:Hp)(c:Z O):Cx:=dm X [x] b a d C s H c
theorem Zj(I:Nat->bt->Prop)
  (d:∀n s,I n s->wpAny (model prog w) A (pyNext it) (λr i=>match r with
   |none=>R (.ok .next) i
   |some v=>wpAny (model prog w) A (letOwnedTupleGo target it v) (λ_ q=>wpAny (model prog w) A (assign target env v) (λ_ p=>
     wpAny (model prog w) A (forIn ifs af λc r=>if r=af then do let ok←isTrue c env (eval c env);pure (ForInStep.yield ok) else pure (ForInStep.yield r)) (λok g=>
      if ok=af then wpAny (model prog w) A (eval elt env) (λx l=>
       wpAny (model prog w) A (call (.builtin "list.append") [acc,x]) (λ_ k=>∃m,m<n/\I m k) (notedBy (model prog w) A env λe a=>R (.error e) a) l) (notedBy (model prog w) A env λe a=>R (.error e) a) g
      else ∃m,m<n/\I m g) (notedBy (model prog w) A env λe a=>R (.error e) a) p) (notedBy (model prog w) A env λe a=>R (.error e) a) q) (notedBy (model prog w) A env λe a=>R (.error e) a) i) (notedBy (model prog w) A env λe a=>R (.error e) a) s)
  (n:Nat)(h:I n s):codeAny (model prog w) A (.compLoop (.ListComp elt [⟨target,iter,ifs,0⟩] scope pos) 0 it acc env) R s:=by
 refine wd rfl I (λn s z=>w_ (bp (lp (bp (dk (d n s z) (λr i o=>?_) λ_ _ b=>b))))) n h;cases r with
 |none=>exact cD o
 |some v=>
  refine bp (dk o (λ_ q f=>bp (dk f (λ_ p y=>bp (dk y (λok g j=>?_) λ_ _ b=>b)) λ_ _ b=>b)) λ_ _ b=>b);cases ok with
  |false=>exact cD ⟨rfl,j⟩
  |true=>
   exact bp (bp (dk j (λx l u=>bp (dk u (λ_ k t=>cD (cD ⟨rfl,t⟩)) λ_ _ b=>b)) λ_ _ b=>b))
def uK(X:Cx)(d:Z cu)(t:TT):Prop:=
 ∀(a:a8) (s:bt) (b:St) (H:Hp) (Q:cm->Hp->Prop),Inv X a b H s->t b H Q->
  wpAny X.md X.A (forIn d af λc r=>if r=af then do let ok←isTrue c X.env (eval c X.env);pure (ForInStep.yield ok) else pure (ForInStep.yield r)) (TP X a b Q) X.xe s
def zw:TT:=λ_ H Q=>Q af H
def kA:uK X [] zw:=λ_ _ _ H _ I h=>u7 ⟨H,I,h⟩
def wy(h:PT X c t):uK X [c] t:=λa s b H Q I d=>wpAny_tests_one (h a s b H Q I d)
def JE(n:Nat)(J:It)(o:TG)(l:TT)(p:TE)(h:St)(D:O)(H:Hp)(Q:VK):Prop:=
 ∃W:Nat->Nat->Z V->Hp->Prop,(∃m,W 0 m [] (upd H D (.lst [])))/\∀i m a H,W i m a H->
  (J.stop i H/\Q (.ref D) H)\/(J.go i H/\∃N:Z V->Hp->Prop,(∀g b,N g b->∃e,e<m/\W (i+1) e g b)/\
   ∀v b,J.sr i H v b->∀os:St,os.length=n->o v (os++h) b λd q=>(∃f:St,f.length=n/\d=f++h)/\l d q λc k=>if c=af then p d k λy j=>j D=U (.lst a)/\a.length<sizeLine/\N (a++[y]) (upd j D (.lst (a++[y]))) else N a k)
def Pt{h:Hp}{s2:bt}{I:O}{g:Z O}{x:Nat->cI->Prop}{J:It}{Q:VK}{B:aY->O->Result->bt->Prop}{E:bo}{rest:Z Comprehension}(a:qZ X d cl xs fr)
  (I2:Inv X pins σ h s2)(T:Turn X.prog X.w X.K tgt J g I x)(fh:x 0 s2.heap)(l:∀b∈g,jx X pins h b)
  (hR:∀D C G W m,Inv X pins σ W G->G.heap.Ns C m->W C=aJ->C≠X.env.locals->X.dw.heap.objs.size<=C->(∀y c,X.env.cells.lookup y=U c->c≠C)->(∀p∈X.pn++pins,p.1≠C)->Q (.ref D) W->B (.ref D) C (.ok .next) G)
  (hl:∀(D C:O) (s:bt) (w:Hp) (t:bt),h D=aJ->w=upd h D (.lst [])->Inv (dm X xs fr d cl C s w g) [] (List.replicate xs.length aJ++iK σ fr) w t->x 0 t.heap->(∀b∈g,w b=aJ)->
   (∀A Du F,Inv (dm X xs fr d cl C s w g) [] Du F A->Q (.ref D) F->B (.ref D) C (.ok .next) A)->
   codeAny X.md X.A (.compLoop (.ListComp elt (⟨tgt,iter,ifs,0⟩::rest) d pos) 0 (.ref I) (.ref D) (compEnvC d cl C X.env)) (B (.ref D) C) t):
  wpAny X.md X.A (newList []) (λacc t=>wpAny X.md X.A (newFunctionEnv d X.env.globals cl [] X.env.qual aJ .none (U X.env)) (λnN jy=>
   codeAny X.md X.A (.compStart (.ListComp elt (⟨tgt,iter,ifs,0⟩::rest) d pos) 0 (.ref I) acc {nN with scope:=relabel d X.env}) (B acc nN.locals) jy) E t) E s2:=by
 refine mR (wpAny_newFunctionEnv a.Cs (by intro y hy;simp at hy) (λiP R P=>?_) a.kind);dsimp only at R P⊢;have j:Inv X pins σ (upd h s2.heap.objs.size (.lst [])) {s2 with heap:=s2.heap.push {cls:=.type "list",dict:=aJ,data:=.seq ([]:Z aY).toArray}}:=
  I2.laid (t':=s2.toks) (λb u e=>Yb _ e) (Yd _) ⟨Yx _,[],0,.nil,Yp _ rfl⟩
 have N:h s2.heap.objs.size=aJ:=I2.aw.fresh (Yd _);have Ux:∀b∈g,b<s2.heap.objs.size:=λb f=>by
  obtain⟨o,e,_⟩:=T.obj _ _ fh b f;exact Yr e
 generalize VP:s2.heap.push {cls:=.type "list",dict:=aJ,data:=.seq ([]:Z aY).toArray}=k at R P j⊢;have hC:k.objs.size=s2.heap.objs.size+1:=by rw[←VP,Jp]
 have r:∀b o,k.get? b=U o->iP.get? b=U o:=λb o e=>P.extBut b o (Yy (Yr e)) (Yb _ e);have f3:∀b∈g,jx X pins (upd h s2.heap.objs.size (.lst [])) b:=λb f=>by
  have:=Ux b f;exact⟨by rw[aA (Yy this)];exact(l b f).1,(l b f).2⟩
 have H:∀b∈g,b<k.objs.size:=λb f=>by
  rw[hC];exact Wz (Ux b f)
 have xF:x 0 iP:=T.keep _ _ _ fh λb f o e=>r b o ((λb o e=>VP▸Yb _ e) b o e);have I4:Inv (dm X xs fr d cl k.objs.size {s2 with heap:=k} (upd h s2.heap.objs.size (.lst [])) g) [] (List.replicate xs.length aJ++iK σ fr) (upd h s2.heap.objs.size (.lst [])) {s2 with heap:=iP,toks:=s2.toks+([]:Z (ar×aY)).length}:=
  ZcZ a j rfl f3 H r R
 have i:=hl s2.heap.objs.size k.objs.size {s2 with heap:=k} _ {s2 with heap:=iP,toks:=s2.toks+([]:Z (ar×aY)).length} N rfl I4 xF (λb f=>(f3 b f).1) λA Du F n qn=>by
   obtain⟨m,L,_⟩:=n.loc;have I7:=j.Kk n.os n.base n.aw n.bare λb f=>⟨(l b f).2.2.2.1,(l b f).2.1,(l b f).2.2.2.2.1,(l b f).2.2.2.2.2⟩;refine hR _ _ A F m I7 L n.free ?_ ?_ (λy c e z=>?_) (λp hp z=>?_) qn;·exact Jg j.lt
   ·exact j.sz
   ·obtain⟨v,q⟩:=j.cell y c e;exact absurd q.lt (by exact z▸Wd _)
   ·exact absurd (Yr (j.pin p hp).1) (by exact z▸Wd _)
 exact codeAny_compStart_list i (T.self _ 0 _ _ _ xF i)
theorem N6{H2:Hp}{s2:bt}{it:O}{g:Z O}{I:Nat->cI->Prop}{J:It}{Q:VK}{RR:aY->O->Result->bt->Prop}{E:bo}
  (hc:X.calm=af)(a:qZ X f cl xs fr)(hg:∀C s H g,PG (dm X xs fr f cl C s H g) B tg)
  (ht:∀C s H g,uK (dm X xs fr f cl C s H g) ifs tt)(he:∀C s H g,PE (dm X xs fr f cl C s H g) elt te)
  (I2:Inv X pins σ H2 s2)(T:Turn X.prog X.w X.K B J g it I)(fh:I 0 s2.heap)(f2:∀b∈g,jx X pins H2 b)
  (hw:∀D,H2 D=aJ->JE xs.length J tg tt te (iK σ fr) D H2 Q)
  (hR:∀D C s1 H1 m,Inv X pins σ H1 s1->s1.heap.Ns C m->H1 C=aJ->C≠X.env.locals->X.dw.heap.objs.size<=C->(∀y c,X.env.cells.lookup y=U c->c≠C)->(∀p∈X.pn++pins,p.1≠C)->Q (.ref D) H1->RR (.ref D) C (.ok .next) s1):
  wpAny X.md X.A (newList []) (λacc eY=>wpAny X.md X.A (newFunctionEnv f X.env.globals cl [] X.env.qual aJ .none (U X.env)) (λnN jy=>
   codeAny X.md X.A (.compStart (.ListComp elt [⟨B,iter,ifs,0⟩] f pos) 0 (.ref it) acc {nN with scope:=relabel f X.env}) (RR acc nN.locals) jy) E eY) E s2:=by
 refine Pt (rest:=[]) a I2 T fh f2 hR λD C s t eY hD e3 I4 xF kg fin=>?_;obtain⟨W,⟨m0,w0⟩,A⟩:=hw D hD;rw[←e3] at w0;refine Zj (λk s'=>∃i l H' os,os.length=xs.length/\Inv (dm X xs fr f cl C s t g) [] (os++iK σ fr) H' s'/\I i s'.heap/\(∀b∈g,H' b=aJ)/\W i k l H') ?_ m0
  ⟨0,[],_,List.replicate xs.length aJ,W8,I4,xF,kg,w0⟩
 rintro n s5 ⟨i,l,H5,os,qB,G,qA,lF,w5⟩;have nL:∀{H':Hp},(∀b∈g,H' b=aJ)->∀b∈g,jx (dm X xs fr f cl C s t g) [] H' b:=λ{H'} hn b j=>
  ⟨hn b j,(G.ok.sh b j).1,G.ok.rV b j,.inl j,(G.ok.sh b j).2,λp hp=>absurd (show p∈([]:a8) from hp) (by simp)⟩
 rcases A i n l H5 w5 with⟨F,qn⟩|⟨go,N,hN,step⟩
 ·refine az (T.done (dm X xs fr f cl C s t g) rfl rfl rfl hc i [] s5 _ H5 _ G (nL lF) qA F) λr s6 h=>?_;obtain⟨hr,I6⟩:=h;subst hr;exact fin _ _ _ I6 qn
 ·refine az (T.item (dm X xs fr f cl C s t g) rfl rfl rfl hc i [] s5 _ H5 _ G (nL lF) qA go) λr s6 h=>?_;obtain⟨u,hr,h6⟩:=h;subst hr;refine az h6 λ_ s7 h=>?_;obtain⟨v,H7,I7,r7,y7,uL,LN⟩:=h;have LO:=I7.pinned (nL LN) (T.obj _ _ uL);refine dk (hg _ _ _ _ _ s7 _ H7 v u _ LO r7 (step v H7 y7 os qB)) (λ_ s8 h=>?_) λ _ _=>False.elim;obtain⟨σ8,H8,I8,⟨lI,K3,e8⟩,q8⟩:=h;subst e8;have again:∀{P:St} {q:Hp} {w:bt} {L:Z V},P.length=xs.length->Inv (dm X xs fr f cl C s t g) ([]++rJ g s7.heap) (P++iK σ fr) q w->N L q->
    ∃m,m<n/\∃i l H' os,os.length=xs.length/\Inv (dm X xs fr f cl C s t g) [] (os++iK σ fr) H' w/\I i w.heap/\(∀b∈g,H' b=aJ)/\W i m l H':=λ{P q w L} l1 x n9=>by
   obtain⟨m',hm,w9⟩:=hN L q n9;refine⟨m',hm,i+1,L,q,P,l1,x.wg,T.keep _ _ _ uL λb j o e=>(x.pin (b,o) (Yu _ (Yu _ (qY j e)))).1,λb j=>?_,w9⟩;obtain⟨o,e,d⟩:=T.obj _ _ uL b j;exact(x.pin (b,o) (Yu _ (Yu _ (qY j e)))).2.1
  refine dk (ht _ _ _ _ _ s8 _ H8 _ I8 q8) (λok w h=>?_) λ _ _=>False.elim;obtain⟨q,x,R⟩:=h;cases ok with
  |false=>
   rw[bR Yi] at R⊢;exact again K3 x R
  |true=>
   rw[bS rfl];rw[bS rfl] at R;refine dk (he _ _ _ _ _ w _ q _ x R) (λu1 LP h=>?_) λ _ _=>False.elim;obtain⟨y,qE,LQ,r10,hD,hz,qF⟩:=h;refine dk (yE (X:=dm X xs fr f cl C s t g) _ LP _ qE (.ref D) [y] _ [u1] (λ_ H'=>N (l++[y]) H') LQ rfl (.cons r10 .nil) ⟨_,l,y,rfl,rfl,hD,hz,qF⟩) (λ_ LR h=>?_) λ_ _ z=>False.elim z;obtain⟨_,z4,Dz,_,q11⟩:=h;exact again K3 Dz q11
def jv(J:It)(j:TT)(k:TE)(f:St)(D:O)(H:Hp)(Q:VK):Prop:=
 ∃W:Nat->Nat->Z V->Hp->Prop,(∃m,W 0 m [] (upd H D (.lst [])))/\∀i m a H,W i m a H->
  (J.stop i H/\Q (.ref D) H)\/(J.go i H/\∃N:Z V->Hp->Prop,(∀e b,N e b->∃d,d<m/\W (i+1) d e b)/\
   ∀v b,J.sr i H v b->j (U v::f) b λc h=>if c=af then k (U v::f) h λy g=>g D=U (.lst a)/\a.length<sizeLine/\N (a++[y]) (upd g D (.lst (a++[y]))) else N a h)
section
variable {X:Cx}{L P:cu}{x:ar}{A F:Pos}{G:Z cu}{R:Scope}{cl:Z (ar×O)}{fr:Z (ar×Nat)}{w:TT}{B:TE}{σ:St}
theorem OM{e:Hp}{s2:bt}{l:O}{d:Z O}{j:Nat->cI->Prop}{J:It}{Q:VK}{n:aY->O->Result->bt->Prop}{E:bo}
  (hc:X.calm=af)(a:yF X R cl x fr)
  (I:∀C s H d,uK (wK X x fr R cl C s H d) G w)(he:∀C s H d,PE (wK X x fr R cl C s H d) L B)
  (I2:Inv X pins σ e s2)(T:Turn X.prog X.w X.K (.Name x A) J d l j)(fh:j 0 s2.heap)(f2:∀b∈d,jx X pins e b)
  (u:∀D,e D=aJ->jv J w B (iK σ fr) D e Q)
  (hR:∀D C f g m,Inv X pins σ g f->f.heap.Ns C m->g C=aJ->C≠X.env.locals->X.dw.heap.objs.size<=C->(∀y c,X.env.cells.lookup y=U c->c≠C)->(∀p∈X.pn++pins,p.1≠C)->Q (.ref D) g->n (.ref D) C (.ok .next) f):
  wpAny X.md X.A (newList []) (λacc eY=>wpAny X.md X.A (newFunctionEnv R X.env.globals cl [] X.env.qual aJ .none (U X.env)) (λk t=>
   codeAny X.md X.A (.compStart (.ListComp L [⟨.Name x A,P,G,0⟩] R F) 0 (.ref l) acc {k with scope:=relabel R X.env}) (n acc k.locals) t) E eY) E s2:=by
 refine N6 (xs:=[x]) hc ⟨a.w8,a.sub,a.kind,a.names,a.Cs,a.has,a.c9,a.nd⟩ (λC s H d=>rB (i:=0) a.nd rfl (.inl (Di a.lx)) (.inr (Di a.lx))) I he I2 T fh f2 (λD hD=>?_) hR;obtain⟨W,h0,h⟩:=u D hD;refine⟨W,h0,λi m r H p=>?_⟩;rcases h i m r H p with z|⟨z,N,hN,q⟩;·exact .inl z
 ·refine .inr ⟨z,N,hN,λv H' y os hl=>?_⟩;match os,hl with
  |[o],_=>exact⟨⟨[U v],rfl,rfl⟩,q v H' y⟩
def Th(b:TI)(fr:Z (ar×Nat))(w:TT)(B:TE):TE:=λσ H Q=>b σ H λJ a=>∀D,a D=aJ->jv J w B (iK σ fr) D a Q
def iZ(o:X.calm=af)(a:yF X R cl x fr)(l:PI X (.Name x A) P c)
  (i:∀C s H fp,uK (wK X x fr R cl C s H fp) G w)(n:∀C s H fp,PE (wK X x fr R cl C s H fp) L B)
  (j:∀x,foldedSetIterable P X.env x=pure x:=by intro _;rfl):PE X (.ListComp L [⟨.Name x A,P,G,0⟩] R F) (Th c fr w B):=by
 intro b s σ H Q I h;refine sF rfl j a.w8 a.kind a.names (az (l b s σ H _ I h) λv d r=>az r λuI s2 p=>?_);obtain⟨it,fp,tn,J,H2,e,I2,T,t,E,g⟩:=p;subst e;refine OM o a i n I2 T t E g ?_;intro D C d H1 m I1 k W N z y u q;exact⟨m,k,λh' f=>⟨.ref D,H1,I1.turned (f.extBut) W N (.inr z) y u,rfl,q⟩⟩
def N7(hc:X.calm=af)(hN:X.N.Nodup)(f:X.N[i]?=U y)(r:Loc X.env.scope y)(b:yF X R cl x fr)(W:PI X (.Name x A) P l)
  (u:∀C s H fp,uK (wK X x fr R cl C s H fp) G w)(he:∀C s H fp,PE (wK X x fr R cl C s H fp) L B)
  (d:swapsWith (.ListComp L [⟨.Name x A,P,G,0⟩] R F) (U (.Name y py)) j.line X.env=pure af:=by with_unfolding_all rfl)
  (hf:X.fn y=af\/X.env.scope.names.lookup y=U .local:=by first|exact .inl rfl|exact .inr rfl|assumption)
  (E:∀x,foldedSetIterable P X.env x=pure x:=by intro _;rfl):PS X (.Assign [.Name y py] (.ListComp L [⟨.Name x A,P,G,0⟩] R F) j) (ui (Th l fr w B) (qc i)):=by
 intro c s σ H D I h;rw[exec_Assign_Name_used _ _ _ _ d];refine bp (lp (bp ?_));show wpAny _ X.A (do let _←comprehension (.ListComp L [⟨.Name x A,P,G,0⟩] R F) R X.env _ (newList []) a7 (eval P X.env) (U (assign (.Name y py) X.env))) _ _ s;refine bp (dk (sF rfl E b.w8 b.kind b.names
  (az (W c s σ H _ I h) λv o h1=>az h1 λuI s2 h2=>?_)) (λ_ s' N=>cD (cD N)) λ_ _ e=>e)
 obtain⟨it,fp,tn,J,H2,e,I2,T,fh,f2,t⟩:=h2;subst e;refine OM hc b u he I2 T fh f2 t ?_;intro Dl C o H1 m I1 Q f0 f1 f3 k f5 q;refine LZ (OF I1 hN f r (v:=.ref Dl) rfl (λs3 I3 z=>?_) hf);obtain⟨a,n,ha⟩:=z;have g:C≠a:=by
  rcases ha with z|z;·rwa[z]
  ·exact λq=>k _ _ z q.symm
 refine⟨m,Q.sameBut n g,λh' p=>?_⟩;exact⟨_,H1,I3.turned (p.extBut) f0 f1 (.inr f3) k f5,q⟩
end
def Hy{K:ah}(d:Nat->Z V->Hp->Prop)(s:d 0 [] (upd H D (.lst [])))(o:∀i b H,i<=xs.length->d i b H->ak K H a xs)
  (u:∀i v b H,xs[i]?=U v->d i b H->tt (U v::h) H λc k=>if c=af then l (U v::h) k λy j=>j D=U (.lst b)/\b.length<sizeLine/\d (i+1) (b++[y]) (upd j D (.lst (b++[y]))) else d (i+1) b k)
  (r:∀b H,d xs.length b H->Q (.ref D) H):jv (j_ K a) tt l h D H Q:=by
 refine⟨λi m b H=>m=xs.length-i/\i<=xs.length/\d i b H,⟨xs.length,by simp,Yx _,s⟩,?_⟩;rintro i m b H ⟨rfl,g,p⟩;have q:=o i b H g p;by_cases f:i<xs.length
 ·refine .inr ⟨⟨xs,xs[i],q,by simp[f]⟩,d (i+1),λw t n=>⟨xs.length-(i+1),by omega,rfl,f,n⟩,λx t y=>?_⟩;obtain⟨e,y⟩:=y
  grind
 ·have e:i=xs.length:=i1 g (gM f)
  subst e;exact .inl ⟨⟨xs,q,Yd _⟩,r b H p⟩
def Bq{K:ah}(d:Nat->Z V->Hp->Prop)(s:d 0 [] (upd H D (.lst [])))(o:∀i b H,i<=xs.length->d i b H->aB K H a xs)
  (u:∀i v b H,xs[i]?=U v->d i b H->tt (U v::h) H λc k=>if c=af then l (U v::h) k λy j=>j D=U (.lst b)/\b.length<sizeLine/\d (i+1) (b++[y]) (upd j D (.lst (b++[y]))) else d (i+1) b k)
  (r:∀b H,d xs.length b H->Q (.ref D) H):jv (xC K a) tt l h D H Q:=by
 refine⟨λi m b H=>m=xs.length-i/\i<=xs.length/\d i b H,⟨xs.length,by simp,Yx _,s⟩,?_⟩;rintro i m b H ⟨rfl,g,p⟩;have q:=o i b H g p;by_cases f:i<xs.length
 ·refine .inr ⟨⟨xs,xs[i],q,by simp[f]⟩,d (i+1),λw t n=>⟨xs.length-(i+1),by omega,rfl,f,n⟩,λx t y=>?_⟩;obtain⟨e,y⟩:=y
  grind
 ·have e:i=xs.length:=i1 g (gM f)
  subst e;exact .inl ⟨⟨xs,q,Yd _⟩,r b H p⟩
def yA{lo:Int}{n:Nat}{g:TT}{h:TE}{d:St}{D:O}{H:Hp}{Q:VK}(b:Nat->Z V->Hp->Prop)(r:b 0 [] (upd H D (.lst [])))
  (t:∀i a H,i<n->b i a H->g (U (.int (lo+i))::d) H λc k=>if c=af then h (U (.int (lo+i))::d) k λy j=>j D=U (.lst a)/\a.length<sizeLine/\b (i+1) (a++[y]) (upd j D (.lst (a++[y]))) else b (i+1) a k)
  (q:∀a H,b n a H->Q (.ref D) H):jv (qz lo n) g h d D H Q:=by
 refine⟨λi m a H=>m=n-i/\i<=n/\b i a H,⟨n,by simp,Yx _,r⟩,?_⟩;rintro i m a H ⟨rfl,o,p⟩;by_cases f:i<n
 ·refine .inr ⟨f,b (i+1),λu s l=>⟨n-(i+1),by omega,rfl,f,l⟩,λx s y=>?_⟩;obtain⟨e,y⟩:=y
  simp_all
 ·have e:i=n:=i1 o (gM f)
  subst e;exact .inl ⟨Yd _,q a H p⟩
def Zjv(K:ah)(e:TE):TI:=λd H R=>e d H λx b=>∃a,x=.ref a/\((∃c,ak K b a c)/\R (j_ K a) b\/(∃c,aB K b a c)/\R (xC K a) b)
def Zg3(z:PE X l t):PI X B l (Zjv X.K t):=by
 intro f s m H R I h;refine az (z f s m H _ I h) λv d n=>?_;obtain⟨x,k,c,w,g⟩:=n;obtain⟨a,e,g⟩:=g;subst e;cases w;rcases g with⟨⟨r,i⟩,q⟩|⟨⟨r,i⟩,q⟩
 ·obtain⟨A,u,p,y⟩:=c.list i;refine sN p.isList ⟨d.heap.objs.size,[d.heap.objs.size],_,_,k,rfl,c.kept λ b o=>Yb _,OG a _,⟨_,Yp _ rfl,rfl,rfl⟩,λb j=>?_,q⟩;have e:b=d.heap.objs.size:=by simpa using j
  subst e;exact c.qo (Yd _) (c.aw.fresh (Yd _))
 ·obtain⟨A,u,p,y⟩:=c.tuple i;refine uR (p) ⟨d.heap.objs.size,[d.heap.objs.size],_,_,k,rfl,c.kept λ b o=>Yb _,N1 a _,⟨_,Yp _ rfl,rfl,rfl⟩,λb j=>?_,q⟩;have e:b=d.heap.objs.size:=by simpa using j
  subst e;exact c.qo (Yd _) (c.aw.fresh (Yd _))
theorem Gg:∀{a:Z V} {b:Z aY},a.length=b.length->(∀(i:Nat) (x:V) (u:aY),a[i]?=U x->b[i]?=U u->RelV x u)->Vals a b
 |[],[],_,_=>.nil
 |[],_::_,h,_=>by simp at h
 |_::_,[],h,_=>by simp at h
 |x::a,u::b,h,k=>.cons (k 0 x u rfl rfl) (Gg (by simpa using h) λi y w d c=>k (i+1) y w (by simpa using d) (by simpa using c))
theorem N8:∀{bs:Z cm} {a:Z aY},Vals (bs.map V.bl) a->a=bs.map Value.bool:=by
 intro bs;induction bs with
 |nil=>intro a r;cases r;rfl
 |cons b bs c=>
  intro a r;rw[Wq] at r;cases r with
  |cons r t=>
   have d:=r;rw[d,c t];rfl
def bH(n:Nat):Z Int:=(List.range n).map λi:Nat=>(i:Int)
def fS(n:Nat):(bH n).length=n:=by simp[bH]
def ny(h:i<n):(bH n)[i]?=U (i:Int):=by
 unfold bH
 simp_all
def ZdW(a:Z cm):(List.range a.length).any (λi=>a.getD i a7)=a.any id:=by
 rw[We,J1,J1];constructor
 ·rintro⟨i,c,d⟩;rw[Wj] at c;have e:a.getD i a7=a[i]:=by rw[Yg,Yc c];rfl
  rw[e] at d;exact⟨a[i],Jo c,d⟩
 ·rintro⟨b,d,e⟩;obtain⟨i,c,rfl⟩:=W0.mp d;refine⟨i,Wj.mpr c,?_⟩
  simp_all
def ZdX(c:Z cm):(List.range c.length).all (λi=>c.getD i a7)=c.all id:=by
 rw[We,Wv,Wv];constructor
 ·intro h b d;obtain⟨i,a,rfl⟩:=W0.mp d;simp_all
 ·intro h i a;rw[Wj] at a;rw[Yg,Yc a];exact h _ (Jo a)
def NP:∀{a b:Z Int},a.length=b.length->(List.range a.length).all (λj=>a.getD j 0==b.getD j 0)=decide (a=b):=by
 intro a b c;rw[We,Wv,eJ];constructor
 ·intro h;refine List.ext_getElem c λi e d=>?_;simp_all
 ·grind
section
variable {X:Cx}
def Uy(K:ah):Z V->Hp->VK->Prop:=λa H Q=>∃(p:O) (bs:Z cm),a=[.ref p]/\ak K H p (bs.map V.bl)/\Q (.bl (bs.any id)) H
def Uz(K:ah):Z V->Hp->VK->Prop:=λa H Q=>∃(p:O) (bs:Z cm),a=[.ref p]/\ak K H p (bs.map V.bl)/\Q (.bl (bs.all id)) H
theorem Z1(l:X.calm=af):dA X (.builtin "any") (Uy X.K):=by
 rintro d s w H x y Q I r ⟨p,bs,rfl,j,q⟩;obtain⟨u,rfl,f⟩:=vals1 r;cases f;obtain⟨E,g,h,B⟩:=I.list j;have e:=N8 g;subst e;have c:=h.isList;have t:p<s.heap.objs.size:=by obtain⟨_,e,_⟩:=c;exact Yr e
 refine call_any_walk (sN c ⟨s.heap.objs.size,_,_,_,_,_,λi=>bs.getD i a7,rfl,Walks.list (show X.A.in1.handled=aJ from I.ok.hd l) s.heap.objs.size p (Yy t) (bs.map Value.bool).toArray,⟨⟨_,Yp _ rfl,rfl,rfl⟩,c.push _⟩,?_,λD z k=>?_⟩)
 ·intro i v A F G m C;have a:(bs.map Value.bool)[i]?=U v:=by simpa using m
  rw[Yf] at a;cases e:bs[i]? with
  |none=>simp_all
  |some b=>
   rw[e] at a;have n:=Ym a;subst n;refine mh ?_
   simp_all
 ·refine⟨.bl (bs.any id),H,I.kept (λb o e=>k b o (by simpa using Yy (Yr e)) (Yb _ e)),?_,q⟩;show Value.bool _=Value.bool _;have e:(bs.map Value.bool).toArray.size=bs.length:=by simp
  rw[e,ZdW]
theorem Z2(l:X.calm=af):dA X (.builtin "all") (Uz X.K):=by
 rintro d s w H x y Q I r ⟨p,bs,rfl,j,q⟩;obtain⟨u,rfl,f⟩:=vals1 r;cases f;obtain⟨E,g,h,B⟩:=I.list j;have e:=N8 g;subst e;have c:=h.isList;have t:p<s.heap.objs.size:=by obtain⟨_,e,_⟩:=c;exact Yr e
 refine call_all_walk (sN c ⟨s.heap.objs.size,_,_,_,_,_,λi=>bs.getD i a7,rfl,Walks.list (show X.A.in1.handled=aJ from I.ok.hd l) s.heap.objs.size p (Yy t) (bs.map Value.bool).toArray,⟨⟨_,Yp _ rfl,rfl,rfl⟩,c.push _⟩,?_,λD z k=>?_⟩)
 ·intro i v A F G m C;have a:(bs.map Value.bool)[i]?=U v:=by simpa using m
  rw[Yf] at a;cases e:bs[i]? with
  |none=>simp_all
  |some b=>
   rw[e] at a;have n:=Ym a;subst n;refine mh ?_
   simp_all
 ·refine⟨.bl (bs.all id),H,I.kept (λb o e=>k b o (by simpa using Yy (Yr e)) (Yb _ e)),?_,q⟩;show Value.bool _=Value.bool _;have e:(bs.map Value.bool).toArray.size=bs.length:=by simp
  rw[e,ZdX]
inductive R5(K:ah)(a:Z V)(H:Hp)(Q:VK):Prop
 |mk (x:V) (t:aY) (c:String) (b:cm) (g:a=[x,.ty c]) (f:jW K H x t) (d:kitOne K t (.type c)=U b) (e:Q (.bl b) H):R5 K a H Q
def CM(K:ah):Z V->Hp->VK->Prop:=λa H Q=>R5 K a H Q
def Zba:dA X (.builtin "isinstance") (CM X.K):=by
 rintro a s h H i k Q I r ⟨x,t,c,b,rfl,ty,e,q⟩;obtain⟨u,j,rfl,g,f⟩:=vals2 r;cases f;exact ZcT I g ty e λd=>⟨.bl b,H,I.tok d,rfl,q⟩
def N9(u:T="list"\/T="tuple")
  (p:s.heap.get? l=U o)(t:o.cls=.type T)(r:o.data=.seq ai.toArray n)(v:IntsAre ai ns)(m:ai.length<64)(f:ai.toArray.size<=sizeLine)
  (h:∀(a g:cI) (out:cW aY) (c:Z Int) (e:Nat),(∀b o,s.heap.get? b=U o->a.get? b=U o)->(∀b o,a.get? b=U o->g.get? b=U o)->g.get? a.objs.size=U (seqObj "list" out e)->IntsAre out.toList c->c.Perm ns->c.Pairwise (·<=·)->Q (.ref a.objs.size) {s with heap:=g}):
  wpAny (model prog w) A (call (.builtin "sorted") [.ref l]) Q E s:=by
 refine um kind_sorted plain_sorted entry_sorted (args_sorted1 _) (bp (cD ?_));refine bp (LS l u p t r (λa k=>bp (th ?_)) f);have x:ai.toArray.toList=ai:=by simp
 rw[x];have d:(a.push (seqObj "list" ai.toArray 0)).get? a.objs.size=U (seqObj "list" ai.toArray 0):=Yp _ rfl;refine bp (jd (n7 slot_list_sort ⟨_,d,rfl⟩ entry_list_sort (list_sort_tree d v m λout c B z y=>⟨_,rfl,?_⟩) (args_list_sort _)));obtain⟨e,q⟩:=sortedHeap_at d;exact cD ⟨_,rfl,h a _ out c e k (λb C j=>by
  have i:=Yr j;rw[sortedHeap_old (Yy i) (by rw[size_push'];exact Wz i),Jk _ _ _ (Yy i)];exact j) q B z y⟩
def IJ(K:ah):Z V->Hp->VK->Prop:=λc H Q=>∃(p:O) (a:Z Int),c=[.ref p]/\(ak K H p (a.map V.int)\/aB K H p (a.map V.int))/\a.length<64/\
  ∀(l:O) (b:Z Int),H l=aJ->b.Perm a->b.Pairwise (·<=·)->Q (.ref l) (upd H l (.lst (b.map V.int)))
def NQ:dA X (.builtin "sorted") (IJ X.K):=by
 rintro f s w H F G Q I r ⟨p,z,rfl,g,J,q⟩;obtain⟨u,rfl,y⟩:=vals1 r;cases y;have fin:∀(a h:cI) (out:cW aY) (c:Z Int) (e:Nat),(∀b o,s.heap.get? b=U o->a.get? b=U o)->(∀b o,a.get? b=U o->h.get? b=U o)->h.get? a.objs.size=U (seqObj "list" out e)->IntsAre out.toList c->c.Perm z->c.Pairwise (·<=·)->
   EP X f w Q (.ref a.objs.size) {s with heap:=h}:=λa h out c e A x B E t D=>by
  have v:=I.kept (t':=s.toks) A;refine⟨.ref a.objs.size,_,v.laid (o:=.lst (c.map V.int)) x (Yd _) ⟨?_,out.toList,e,Hx E,by simpa[seqObj] using B⟩,rfl,q _ c (v.aw.fresh (Yd _)) t D⟩;rw[Ya,t.length_eq];exact Js (kR (by omega))
 rcases g with g|g
 ·obtain⟨C,d,i,j⟩:=I.list g;obtain⟨o,n,k,m,_,hd⟩:=i;have l:=d.length;rw[Ya] at l;rw[Ya] at j;exact N9 (.inl rfl) k m hd (intsAre_of d) (by omega) (by rw[Yq];omega) fin
 ·obtain⟨C,d,i,j⟩:=I.tuple g;obtain⟨o,k,m,n,hd⟩:=i;have l:=d.length;rw[Ya] at l;rw[Ya] at j;exact N9 (.inr rfl) k m hd (intsAre_of d) (by omega) (by rw[Yq];omega) fin
def QL:Z V->Hp->VK->Prop:=λa H Q=>∃j:Int,a=[.int j]/\∀p:O,H p=aJ->Q (.ref p) (upd H p (.jA 0 j))
def Pu:Z V->Hp->VK->Prop:=λa H Q=>∃(p:O) (n:Nat),a=[.ref p]/\H p=U (.jA 0 (n:Int))/\n<=1000/\∀l:O,H l=aJ->Q (.ref l) (upd H l (.lst ((bH n).map V.int)))
def zx(K:ah):Z V->Hp->VK->Prop:=λb H Q=>∃(p:O) (a:Z V),b=[.ref p]/\(ak K H p a\/aB K H p a)/\Q (.int a.length) H
def ZbY:dA X (.builtin "len") (zx X.K):=NK
def A0:dA X (.type "range") QL:=by
 rintro a s c H d f Q I r ⟨j,rfl,q⟩;obtain⟨u,rfl,t,rfl⟩:=vals1 r;exact call_range_1 ⟨.ref s.heap.objs.size,_,I.laid (o:=.jA 0 j) (λb o e=>Yb _ e) (Yd _) ⟨_,_,_,Yp _ rfl⟩,rfl,q _ (I.aw.fresh (Yd _))⟩
def Fz(w:X.calm=af):dA X (.type "list") Pu:=by
 rintro d s B H C D Q I r ⟨p,n,rfl,j,e,q⟩;obtain⟨u,rfl,h⟩:=vals1 r;cases h;obtain⟨t,u,v,k⟩:=I.aw p _ j;refine call_list_range (I.ok.hd w) k (small_one (by decide) (by decide) (by omega) (by omega)) (n:=n) (by rw[rangeSize_one];split<;>omega) (dI e (by decide)) λF E c A l a f=>⟨.ref s.heap.objs.size,_,I.laid (o:=.lst ((bH n).map V.int)) l (Yd _) ⟨?_,c.toList,A,?_,by simpa using a⟩,rfl,q _ (I.aw.fresh (Yd _))⟩
 ·rw[Ya,fS];exact Js (kR e)
 ·refine Gg (by rw[Ya,fS];simp[f.1]) λi x u b z=>?_;obtain⟨g,rfl⟩:=f.2 i u (by simpa using z);have m:i<n:=by
   have:=(Yl.mp b).1;rw[Ya,fS] at this;exact this
  rw[Yf,ny m] at b;have y:=Ym b;subst y;exact⟨g,by rw[show(0:Int)+(i:Int)*1=(i:Int) by omega]⟩
def BK{a:Z Int}(r:Vals (a.map V.int) b)(h:j<b.length):∃t,b[j]=.int (a.getD j 0) t:=by
 have c:=r.length;rw[Ya] at c;have d:j<a.length:=by omega
 obtain⟨u,e,t,rfl⟩:=r.get (by rw[Yf,Yc d];rfl)
 simp_all
def K4(K:ah)(b:cm):R2:=λx y H Q=>∃(p q:O) (a c:Z Int),x=.ref p/\y=.ref q/\ak K H p (a.map V.int)/\ak K H q (c.map V.int)/\Q (.bl (if b=af then !decide (a=c) else decide (a=c))) H
def R6(n:X.A.units<cLine):cS X (compareOp .Eq) (K4 X.K a7):=by
 rintro h s G H x y v u Q I r o ⟨p,q,a,b,rfl,rfl,d,c,k⟩;cases r;cases o;obtain⟨E,g,l,L⟩:=I.list d;obtain⟨B,f,i,J⟩:=I.list c;have m:=g.length;have z:=f.length;rw[Ya] at m z;by_cases A:a.length=b.length
 ·refine UA (e:=λj=>a.getD j 0==b.getD j 0) l.isList i.isList (by simp;omega) n (λj d c=>?_) (cU I k ?_)
  ·obtain⟨t,D⟩:=BK g (by simpa using d);obtain⟨t',C⟩:=BK f (by simpa using c);have w:E.toArray[j]=.int (a.getD j 0) t:=by simpa using D
   have F:B.toArray[j]=.int (b.getD j 0) t':=by simpa using C
   rw[w,F];exact q_ _ _ _ _
  ·rw[bR Yi,Yq,←m,NP A]
 ·refine Ac l.isList i.isList (by simp;omega) n (cU I k ?_)
  grind
def Zg4(n:X.A.units<cLine):cS X (compareOp .NotEq) (K4 X.K af):=by
 rintro h s G H x y v u Q I r o ⟨p,q,a,b,rfl,rfl,d,c,k⟩;cases r;cases o;obtain⟨E,g,l,L⟩:=I.list d;obtain⟨B,f,i,J⟩:=I.list c;have m:=g.length;have z:=f.length;rw[Ya] at m z;by_cases A:a.length=b.length
 ·refine G2 (e:=λj=>a.getD j 0==b.getD j 0) l.isList i.isList (by simp;omega) n (λj d c=>?_) _ _ _ _ (cU I k ?_)
  ·obtain⟨t,D⟩:=BK g (by simpa using d);obtain⟨t',C⟩:=BK f (by simpa using c);have w:E.toArray[j]=.int (a.getD j 0) t:=by simpa using D
   have F:B.toArray[j]=.int (b.getD j 0) t':=by simpa using C
   rw[w,F];exact q_ _ _ _ _
  ·rw[bS rfl,Yq,←m,NP A]
 ·refine zQ l.isList i.isList (by simp;omega) n _ _ _ _ (cU I k ?_)
  grind
def ie(a:St->Hp->Prop)(e:∀c:St->Hp->Prop,(∀b H,a b H->c b H)->t {D with nx:=c} b H)(d:∀b H,a b H->u D b H):zo t u D b H:=e _ d
def mK(d:Gl X x)(c:X.mg x=aJ)(a:bootBuiltins x=U (.type T))(b:x≠"__name__":=by decide)(e:(x==("__debug__":ar))=a7:=by decide):PE X (.Name x pos) (tC (.ty T)):=Zfm d c a rfl b e
end
def HasFn(P:cZ)(w:cN)(K:ah)(c:aU)(a:cI)(k:Nat)(x:ar)(b:Z ar)(e:Sp):Prop:=
 ∃f d,aI P w K c a aP k f d b e/\Binds K d b []/\keepIn K (.ref f)=af/\c x=U (.ref f)
section
variable {K:ah}{X:Cx}{k j:Nat}{W:Sp}{x:ar}{ps:Z ar}
def Ko(h:HasFn X.prog X.w X.K X.mg X.base k x ps W)(c:c5 j X.A)(d:k<=j)(g:Gl X x)(l:PA X (e::es) t)
  (n:(x==("__debug__":ar))=a7:=by decide)(i:jB X e es:=by rfl)(o:j9 X pos es:=by rfl):
  PE X (.Call (.Name x p) (e::es) [] pos) (Cp W [] E0 t):=by
 obtain⟨f,q,F,b,a,m⟩:=h;exact Zfo F (c.mono d) g m a b .nil ze l n i o
def cK(h:H p=aJ)(o:HO):aj H (upd H p o):=λb u q=>by rwa[aA (cA q h)]
def aj.kh(e:aj H b)(h:aB K H a xs):aB K b a xs:=by
 rcases h with(h|⟨o,h⟩)|h;·exact .inl (.inl (e _ _ h))
 ·exact .inl (.inr ⟨o,e _ _ h⟩)
 ·exact .inr h
def ZdY(h:X.K=K):jE X (wZ K):=h▸II
def Zfz(h:X.K=K):jE X (zr K):=h▸R0
def ZfA(h:X.K=K):dA X (.builtin "isinstance") (CM K):=h▸Zba
def Zjx(h:X.K=K):dA X (.builtin "len") (zx K):=h▸ZbY
def kG(h:Q af H):zw σ H Q:=h
def aX(h:n σ H):Ta ⟨n,a,bk,b⟩ σ H:=h
def nB(d:St->Hp->Prop)(h:∀f:St->Hp->Prop,(∀e H,d e H->f e H)->KO c a b {D with nx:=f} e H)(g:∀e H,d e H->u D e H):zo (KO c a b) u D e H:=h _ g
def Zg5(x:Int)(c:0<m)(d:m<=2^62):-(2^64)<x % m/\x % m<2^64:=by
 have a:=W9 x (LU c);have b:=Wt x c;omega
theorem N_:∀(l:Z α) (k:Nat) (h:k<l.length),l.Perm (l[k]::l.eraseIdx k)
 |[],k,h=>absurd h (Wu k)
 |a::r,0,_=>rj _
 |a::r,k+1,h=>(List.Perm.cons a (N_ r k (Nat.lt_of_succ_lt_succ h))).trans (List.Perm.swap _ _ _)
theorem ON(f:α->β):∀(l:Z α) (k:Nat),(l.map f).eraseIdx k=(l.eraseIdx k).map f
 |[],_=>rfl
 |_::_,0=>rfl
 |a::r,k+1=>by
  show f a::(r.map f).eraseIdx k=f a::(r.eraseIdx k).map f;rw[ON f r k]
def JI{n:Nat}{i:Int}(b:0<=i)(a:i<n):mV n i=U i.toNat:=by
 unfold mV
 simp_all
def oI{a:Z Int}{i:Int}(b:0<=i)(c:i<a.length):d_ (a.map V.int) i=U (.int (a.getD i.toNat 0)):=by
 have e:i=((i.toNat:Nat):Int):=k8 (qd b)
 rw[e];refine iG ?_
 grind
theorem oC{a:Z Int}{i:Nat}{y:V}(h:(a.map V.int)[i]?=U y):∃z,y=.int z/\a[i]?=U z:=by
 rw[Yf] at h;cases e:a[i]? with
 |none=>simp_all
 |some z=>simp_all
def Px(a:Z Int)(z:Int):a.map V.int++[V.int z]=(a++[z]).map V.int:=by simp
def Py(a:Z Int)(b c:bq Int):∃d:Z Int,mP (a.map V.int) b c=d.map V.int:=by
 refine⟨(a.drop (HT.cF a.length 0 b)).take (HT.cF a.length a.length c-HT.cF a.length 0 b),?_⟩;unfold mP;simp_all
end
def R7:bootBuiltins "abs"=U (.builtin "abs"):=QK
def Zg6:bootBuiltins "any"=U (.builtin "any"):=QK
def R8:bootBuiltins "all"=U (.builtin "all"):=QK
def B_:bootBuiltins "len"=U (.builtin "len"):=QK
def Zg7:bootBuiltins "min"=U (.builtin "min"):=QK
def Bg:bootBuiltins "sorted"=U (.builtin "sorted"):=QK
def NG:bootBuiltins "isinstance"=U (.builtin "isinstance"):=QK
def wz:bootBuiltins "list"=U (.type "list"):=QK
def oA:bootBuiltins "tuple"=U (.type "tuple"):=QK
def wj:bootBuiltins "range"=U (.type "range"):=QK
def BM:bootBuiltins "bool"=U (.type "bool"):=QK
def R9:bootBuiltins "int"=U (.type "int"):=QK
def yZ:bootBuiltins "str"=U (.type "str"):=QK
def Bd(d p:Int):Prop:=0<=d/\d<p
inductive Pz(K:ah)(b:Z V)(H:Hp)(Q:VK):Prop
 |mk (a:O) (d:Z Int) (k:Int) (h:b=[.ref a,.int k]) (g:ak K H a (d.map V.int)) (e:0<=k) (f:∀c:Int,Q (.int c) H):Pz K b H Q
def JJ(K:ah):Sp:=λa H Q _=>Pz K a H Q
inductive OO(K:ah)(e:Z V)(H:Hp)(Q:VK):Prop
 |mk (c:Int) (a:O) (b:Z Int) (k:e=[.int c,.ref a]) (j:ak K H a (b.map V.int)) (h:(∀p∈b,0<p/\p<1073741824)) (i:b.length<=60) (g:∀(l:O) (f:Z Int) (d:Hp),H l=aJ->aj H d->d l=U (.lst (f.map V.int))->Paired Bd f b->Q (.ref l) d):OO K e H Q
def BN(K:ah):Sp:=λa H Q _=>OO K a H Q
inductive PB(b:Z V)(H:Hp)(Q:VK):Prop
 |mk (c:Int) (n:Nat) (g:b=[.int c,.int (n:Int)]) (f:n<=60) (e:∀(t:O) (d:Z Int) (a:Hp),H t=aJ->aj H a->a t=U (.tup (d.map V.int))->d.Perm (bH n)->Q (.ref t) a):PB b H Q
def R_:Sp:=λa H Q _=>PB a H Q
def QM(h:PE X o to)(j:PE X i d)(g:uh X t)(k:PE X e f)
  (p:swapsWithSole [.Subscript o i a] e pos.line X.env=pure a7:=by rfl)(n:swappedStores [.Subscript o i a] e X.env=pure aJ:=by rfl)
  (m:(assignEach [.Subscript o i a] X.env).map (·.2)=[assign (.Subscript o i a) X.env]:=by rfl)
  (l:∀v,assign (.Subscript o i a) X.env v=(do
   let b←holding [v] (eval o X.env);let c←holding [v,b] (eval i X.env)
   standAt a
   holding [v,b,c] (setItem b c v)
   release [v,b,c] []):=by intro _;rfl):PS X (.Assign [.Subscript o i a] e pos) (ui f (Ur to d t)):=oH k (ZgS h j g l) p n m
def ik(h:cI)(a C:O)(d:bq O)(c:cW aY):Prop:=∃b:Obj,h.get? a=U b/\b.cls=.ref C/\b.dict=d/\b.data=.fields c/\1<c.size
def xo(a C:O)(d:bq O):HO:=.ext λh=>∃b,ik h a C d b
def xn(a C:O)(d:bq O):HO:=.ext λh=>∃b,ik h a C d b/\b[1]?=U Value.none
def ik.keep(x:ik f a C d vs)(k:∀o,f.get? a=U o->c.get? a=U o):ik c a C d vs:=by
 obtain⟨b,e,r⟩:=x;exact⟨b,k _ e,r⟩
def Ti(x:ik h a C d c):cH P w H h a (xo a C d):=
 ⟨⟨c,x⟩,let⟨f,e,_⟩:=x;⟨f,e⟩,λ_ _ ⟨b,y⟩ k=>⟨b,y.keep k⟩⟩
def Kp(x:ik h a C d vs)(z:vs[1]?=U Value.none):cH P w H h a (xn a C d):=
 ⟨⟨vs,x,z⟩,let⟨c,e,_⟩:=x;⟨c,e⟩,λ_ _ ⟨b,y,q⟩ k=>⟨b,y.keep k,q⟩⟩
def Sa(b:dz P w H h)(e:H a=U (xo a C d)):∃vs,ik h a C d vs:=(b a _ e).1
def Ca(c:dz P w H h)(e:H a=U (xn a C d)):∃b,ik h a C d b/\b[1]?=U Value.none:=(c a _ e).1
def xG(d:Nat)(H:Hp)(h:cI)(a:cW aY):Prop:=
 a[1]?=U Value.none\/∃T c b,a[1]?=U (Value.ref T)/\d<=T/\H T=aJ/\h.get? T=U c/\c.data=.fields b/\b[3]?=U Value.none
inductive Tj(P:cZ)(w:cN)(b:Z Env)(H:Hp)(s:bt)(E:XK)(e:aY)(c:bt):Prop
 |mk (a C d:O) (f:Hp) (g:cW aY) (q:e=.ref a) (p:s.heap.objs.size<=a) (n:c.os=s.os) (o:AllBare c.gens) (m:Un (c9 b) [] H f s.heap c.heap) (l:dz P w f c.heap) (k:f a=U (xo a C (U d))) (j:ik c.heap a C (U d) g) (i:xG s.heap.objs.size f c.heap g) (h:E (.ref C) (U d) f):Tj P w b H s E e c
def fY(P:cZ)(w:cN):lG:=λa H s E e b=>Tj P w a H s E e b
section
variable {M:Model}{A:eL}{X:bo}{s:bt}
def OP{l:cI}{d:Env}{a:Z Env}{L e:O}{v:Obj}{p:cW aY}{g:aY}{b0:cm}{Q:Unit->bt->Prop}
  (fr:A.frames=U (d::a))(G:s.heap.FunFrames l (d::a))(hL:d.frame=U L)(m:s.heap.get? e=U v)(f:v.data=.fields p)(F:1<p.size)
  (k:∀i T D,(∀b o,b≠e->b∉c9 (d::a)->s.heap.get? b=U o->i.get? b=U o)->(∀b o,b∈c9 (d::a)->s.heap.get? b=U o->∃t,i.get? b=U {o with slots:=t})->
   i.get? e=U {v with data:=.fields (p.setIfInBounds 1 (.ref T))}->s.heap.objs.size<=T->T≠e->i.get? T=U {cls:=.type "traceback",dict:=aJ,data:=.fields D}->D[3]?=U Value.none->Q () {s with heap:=i}):
  wpAny M A (do let fo←frameOf d;let u←entryPlaceOf L b0;let en←EntryCells.newEntry g fo .none (rawInt L) .none u;setField (.ref e) 1 en) (λ_ R=>wpAny M A (setFlight (.ref e) aJ) Q X R) X s:=by
 have out:e∉c9 (d::a):=λz=>by
  obtain⟨_,o,q,W⟩:=G.mem z;rw[m] at q;cases q;exact W p f
 refine bp (wpAny_frameOf_fun fr G hL λh r=>bp (wpAny_entryPlaceOf λu ip=>?_));unfold EntryCells.newEntry newFields;refine bp (mR ?_ (ip.sizeOk5 _ _ _ _ _));generalize w:([g,Value.ref L,Value.none,rawInt L,Value.none]++(if u.isEmpty=af then List.replicate 6 Value.none else u)).toArray=n;have H:3<n.size:=by
  rw[←w,Yq,Yj];simp[Wg,VQ];exact YM _ (by decide)
 have N:=(r.2.1 e out).trans m;have lt:=Yr N;have J:=Yb {cls:=.type "traceback",dict:=aJ,data:=.fields n} N;refine ri J f F ?_;have P:=uS f (·.setIfInBounds 1 (Value.ref h.objs.size));have I:=Wy (Obj.mapFields (·.setIfInBounds 1 (Value.ref h.objs.size))) J (uJ P);have E:=(Wc (h.push {cls:=.type "traceback",dict:=aJ,data:=.fields n}) (Obj.mapFields (·.setIfInBounds 1 (Value.ref h.objs.size))) (Yy lt)).trans (Yp h rfl);unfold setFlight;refine bp (lr I P (x:=.ref h.objs.size) (by simp[F]) ?_);rw[bS (by simp)];refine ri E rfl H (k _ h.objs.size (n.setIfInBounds 3 Value.none) ?_ ?_ ?_ (LI r.1.symm) (Jg lt) ?_ (by simp[H]))
 ·intro b o C B y;have j:=(r.2.1 b B).trans y;rw[Wc _ _ (Jg (Yr j)),Wc _ _ (jm C)];exact Yb _ j
 ·intro b o B y;obtain⟨t,j⟩:=r.2.2 b o y;have C:b≠e:=λz=>out (z▸B);refine⟨t,?_⟩;rw[Wc _ _ (Jg (Yr j)),Wc _ _ (jm C)];exact Yb _ j
 ·rw[Wc _ _ (Jg lt),I];obtain⟨c,dd,da,t⟩:=v;cases f;rfl
 ·exact Wy _ E (uJ (uS rfl _))
end
theorem QN
  (fr:A.frames=U (env::outer))(lu:s1.heap.FunFrames base (env::outer))(B:∀b∈c9 (env::outer),H1 b=aJ)(hL:env.frame=U L)(cx:fY P w (env::outer) H1 s1 E e s')
  (k:∀s3,fY P w (env::outer) H1 s1 E e s3->Q () s3):
  wpAny (model P w) A (noteFrame e env) (λ_ s2=>wpAny (model P w) A (setFlight e aJ) Q Er s2) Er s':=by
 obtain⟨a,C,d,D,vs,rfl,lo,os,bare,un,aw,ha,xr,fl,q⟩:=cx;obtain⟨oe,at_,cls,dic,n,sz⟩:=xr;have nx:∀b:O,b∉([]:Z O):=λb z=>absurd z (by simp);have m:s'.heap.FunFrames base (env::outer):=by
  have all:∀l:Z Env,(∀b∈c9 l,b∈c9 (env::outer))->s1.heap.FunFrames base l->s'.heap.FunFrames base l:=by
   intro l;induction l with
   |nil=>exact λ_ _=>trivial
   |cons x r ih=>
    rintro hs ⟨kd,⟨L',o,j,W,f,F⟩,R⟩;have X:L'∈c9 (x::r):=by
     unfold c9;rw[Jc,j];exact Yk
    obtain⟨N,v⟩:=un.slot L' o f (B L' (hs _ X)) (hs _ X) (nx _);refine⟨kd,⟨L',_,j,W,v,F⟩,ih (λb h=>hs b ?_) R⟩;unfold c9 at h⊢;rw[Jc,j];exact Yw _ h
  exact all _ (λ_ z=>z) lu
 have UB:s1.heap.get? a=aJ:=Dq lo;have b_:∀b∈c9 (env::outer),∃o,s'.heap.get? b=U o/\∀ws,o.data≠.fields ws:=λb h=>(m.mem h).2;have VR:∀b∈c9 (env::outer),D b=aJ:=λb h=>by
  obtain⟨_,o,f,_⟩:=lu.mem h;exact un.free b o f (B b h) (nx _)
 have frS:∀b∈c9 (env::outer),b<s1.heap.objs.size:=λb h=>let⟨_,o,f,_⟩:=lu.mem h;Yr f
 --Zi_ is wanted of any ZlF end
 have fin:∀(h':cI) (T:O) (p:cW aY),(∀b o,b≠a->b∉c9 (env::outer)->s1.heap.objs.size<=b\/D b≠aJ\/s'.heap.get? b=U o->s'.heap.get? b=U o->(D b≠aJ\/b<s1.heap.objs.size)->h'.get? b=U o)->
   (∀b o,b∈c9 (env::outer)->s'.heap.get? b=U o->∃N,h'.get? b=U {o with slots:=N})->h'.get? a=U {oe with data:=.fields (vs.setIfInBounds 1 (.ref T))}->
   s'.heap.objs.size<=T->T≠a->h'.get? T=U {cls:=.type "traceback",dict:=aJ,data:=.fields p}->p[3]?=U Value.none->fY P w (env::outer) H1 s1 E (.ref a) {s' with heap:=h'}:=by
  intro h' T p kp N ea lT neT eT t3;have DA:∀b o,b≠a->b∉c9 (env::outer)->s'.heap.get? b=U o->(D b≠aJ\/b<s1.heap.objs.size)->h'.get? b=U o:=λb o t H I G=>kp b o t H (.inr (.inr I)) I G;have szs:s1.heap.objs.size<=s'.heap.objs.size:=Yz lo (Js (Yr at_));have nT:D T=aJ:=aw.fresh lT;have VS:ik h' a C (U d) (vs.setIfInBounds 1 (.ref T)):=⟨_,ea,cls,dic,rfl,by rw[WK];exact sz⟩;have K2:dz P w D h':=by
   intro b o h;by_cases e1:b=a
   ·subst e1;rw[ha] at h;cases h;exact Ti VS
   ·have F:b∉c9 (env::outer):=λz=>by rw[VR b z] at h;cases h
    have own:∀c,D c=U (.own b)->c≠a:=λc i z=>by rw[z,ha] at i;cases i
    refine(aw b o h).i_ (λc u i g=>?_) (λc i=>i) (λc xs i=>i);rcases i with rfl|i;·exact DA _ u e1 F g (.inl (by rw[h];simp))
    ·exact DA c u (own c i) (λz=>by rw[VR c z] at i;cases i) g (.inl (by rw[i];simp))
  refine⟨a,C,d,D,_,rfl,lo,os,bare,⟨λb o f W j J=>?_,λb o f W j J=>?_,un.free,λb o f J=>?_,un.ij,un.iO,un.jb⟩,K2,ha,VS,.inr ⟨T,_,p,by simp[sz],Yz szs lT,nT,eT,rfl,t3⟩,q⟩
  ·have v:=un.keep b o f W j J;exact DA b o (λz=>by rw[z,UB] at f;cases f) j v (.inr (Yr f))
  ·obtain⟨s0,v⟩:=un.slot b o f W j J;obtain⟨s2,g3⟩:=N b _ j v;exact⟨s2,g3⟩
  ·obtain⟨o',v⟩:=un.there b o f J;have h:b≠a:=λz=>by rw[z,UB] at f;cases f
   by_cases j:b∈c9 (env::outer)
   ·obtain⟨s2,g3⟩:=N b _ j v;exact⟨_,g3⟩
   ·exact⟨o',DA b o' h j v (.inr (Yr f))⟩
 have hE:(env.frame=U L):=hL;unfold noteFrame;simp only[hE];refine bp ?_;rcases fl with z|⟨T0,oT,z7,z,lT,LV,g0,d0,t0⟩
 ·refine lr at_ n z ?_;rw[bR (by decide)];refine OP fr m hL at_ n sz λh' T p k1 k2 k3 k4 k5 k6 k7=>k _ (fin h' T p (λb o t H _ I _=>k1 b o t H I) k2 k3 k4 k5 k6 k7)
 ·refine lr at_ n z ?_;rw[bS (by simp)];have DB:T0≠a:=λy=>by rw[y,ha] at LV;cases LV
  refine bp (lr g0 d0 t0 ?_);rw[bR (by simp[rawInt])];refine bp (ri g0 d0 (Jy.mp t0).1 ?_);have aN:∀b,b≠T0->(s'.heap.update T0 (Obj.mapFields (·.setIfInBounds 3 Value.none))).get? b=s'.heap.get? b:=λb h=>Wc _ _ (jm h);have fT:T0∉c9 (env::outer):=λy=>by
   obtain⟨o,f,F⟩:=b_ T0 y;rw[g0] at f;cases f;exact F _ d0
  have szu:(s'.heap.update T0 (Obj.mapFields (·.setIfInBounds 3 Value.none))).objs.size=s'.heap.objs.size:=Heap.size_after_update ..;refine OP (s:={s' with heap:=s'.heap.update T0 (Obj.mapFields (·.setIfInBounds 3 Value.none))}) fr (m.of_keeps λb o f F=>⟨o,(aN b λy=>by rw[y,g0] at f;cases f;exact F _ d0).trans f,rfl⟩) hL ((aN a (jm DB)).trans at_) n sz
   λh' T p k1 k2 k3 k4 k5 k6 k7=>k _ (fin h' T p (λb o t H _ I G=>?_) (λb o t H=>?_) k3 (by rw[←szu];exact k4) k5 k6 k7)
  ·have nb:b≠T0:=λy=>by
    subst y;rcases G with G|G;·exact G LV
    ·exact absurd lT (Nat.not_le.mpr G)
   exact k1 b o t H ((aN b nb).trans I)
  ·exact k2 b o t ((aN b λy=>fT (y▸t)).trans H)
def xG.mono{a b:Nat}(f:xG a H h vs)(l:b<=a):xG b H h vs:=by
 rcases f with z|⟨T,d,c,g,e,r⟩;·exact .inl z
 ·exact .inr ⟨T,d,c,g,Yz l e,r⟩
def rQ(X:Cx)(E:St->XK):Prop:=∀(a:a8) (b:St) (H:Hp) (s:bt) (e:aY) (c:bt),Inv X a b H s->fY X.prog X.w X.stack H s (E b) e c->X.xe e c
def Inv.Sb(I:Inv X pins σ H1 s1)(j:fY X.prog X.w X.stack H1 s1 E e s3):
  ∃(a C d:O) (H':Hp) (f:cW aY),e=.ref a/\s1.heap.objs.size<=a/\Inv X pins σ H' s3/\H' a=U (xo a C (U d))/\ik s3.heap a C (U d) f/\xG s1.heap.objs.size H' s3.heap f/\E (.ref C) (U d) H':=by
 obtain⟨a,C,d,H',f,rfl,lo,os,c,un,k,h,g,i,q⟩:=j;exact⟨a,C,d,H',f,rfl,lo,I.Kk os un k c (λb z=>absurd z (by simp)),h,g,i,q⟩
section
variable {K:ah}
def Zix:rQ (lq (fY P w) P w K r base N qual scope f cd A outer s H E) (λ_=>E):=by
 intro b n t p e h I k;show wpAny (model P w) _ (leaving _ e) _ _ h;unfold leaving;refine bp (QN I.ok.frames I.stack I.BC rfl k λo l=>?_);obtain⟨a,C,d,m,g,rfl,lo,J,i,c,j,q⟩:=I.Sb l;have sz:=I.sz;exact⟨a,C,d,m,g,rfl,Yz sz lo,J.os,J.bare,J.base,J.aw,i,c,j.mono sz,q⟩
def Zjy:PassesOwn (model P w) (lq (fY P w) P w K a base N qual scope f cd A outer s H E).A (lq (fY P w) P w K a base N qual scope f cd A outer s H E).env (lq (fY P w) P w K a base N qual scope f cd A outer s H E).xe:=
 λe b h=>PassesOwn.leaving e b h
end
section
variable {X:Cx}{k:Nat}{f C:O}{L:FuncData}{ps:Z ar}{P:Sp}{E:St->XK}{x m:ar}{W T:Pos}{e o:cu}{R:Z cu}{N:TE}{t:TA}
theorem ZfB(F:aI X.prog X.w X.K X.mg X.base (fY X.prog X.w) k f L ps P)(i:c5 k X.A)(n:Binds X.K L ps ds)(l:Vals c ds)(g:rQ X E)
  (I:Inv X pins σ H s)(r:Vals vs us)(h:P (vs++c) H Q (E σ)):wpAny X.md X.A (call (.ref f) us) (EP X pins σ Q) X.xe s:=by
 have b:=r.append l;have j:(us++ds).length=ps.length:=by exact b.length▸F.len _ _ _ _ h
 refine mW (mr (F.run X.A X.stack s H ⟨us,[]⟩ (us++ds) (vs++c) Q (E σ) i I.CH (n s us I.cO j) b h) λr d a=>?_);cases r with
 |error e=>exact g pins σ H s e d I a
 |ok p=>cases p<;>first|exact I.after a|exact False.elim a
def Se(C:O)(m:ar)(P:Sp)(E:St->XK)(N:TE)(t:TA):TE:=λb H Q=>N b H λx c=>∃a g fs,x=.ref a/\c a=U (.ins C g fs)/\fs.lookup m=aJ/\t b c λd h=>P (x::(d++[])) h Q (E b)
def ZdZ{A:Sem cm}(J:PE X o N)(c:hU X.K C)(i:Meth X.K C m f)(F:aI X.prog X.w X.K X.mg X.base (fY X.prog X.w) k f L ps P)(G:c5 k X.A)(hb:Binds X.K L ps [])(B:rQ X E)(ha:PA X (e::R) t)
  (dB:jB X e R:=by rfl)(cJ:j9 X W R:=by rfl)
  (D:eval (.Call (.Attribute o m T) (e::R) [] W) X.env=(do
   let g←eval o X.env
   standAt T.atName
   let(f,first)←holding [g] (getMethod g m A)
   callWith W f first (backTo W (starEach (e::R) X.env)) (backToKw W (keywordEach [] X.env))):=by rfl):
  PE X (.Call (.Attribute o m T) (e::R) [] W) (Se C m P E N t):=by
 intro b s d H Q I h;refine rn (az (J b s d H _ I h) λu w p=>?_) D;obtain⟨x,H1,n,y,a,dx,fs,ex,ea,l,q⟩:=p;subst ex;obtain rfl:u=Value.ref a:=y;exact GP n ea c i l (pK I.ok.mod.oU i.kp (az (ha W b w d H1 _ n q) λus s2 ⟨v,H2,j,r,z⟩=>⟨j.cO,ZfB (vs:=.ref a::v) F G hb .nil B j (.cons rfl r) z⟩) dB cJ)
end
section
variable {P:cZ}{w:cN}{K:ah}{W:aU}{X:cI}
def aR.VU{x c:ar}{e:cj}{f:O}{j:FuncData}{N h:Z ar}{k:Nat}{sp:Sp}(F:aR K x c e f j)(a:aT N h (aO e))(i:∀d H Q E,sp d H Q E->d.length=h.length)
  (l:∀(g:aY) (A:eL) (b:Z Env) (s:bt) (H:Hp) (d:Z V) (Q:VK) (E:XK),c5 k (A.deeper (envOfC c (aO e) s.heap.objs.size f g))->sp d H Q E->
   ∃t,fX (lq (fY P w) P w K W X N c (aO e) f g A b s H E) (jq e) t/\t {nx:=λ_ r=>Q .ay r,rt:=Q} (start N d) H):aI P w K W X (fY P w) (k+1) f j h sp:=by
 obtain⟨y,v,kV,q,u,C,g,B,z,rfl,n,p⟩:=F.ex;exact Kn n p a i λA b s H d Q E o m=>l g A b s H d Q E o m
end
structure xf(K:ah)(C f:O):Prop where
 nO:∃(nm q:ar) (N:O) (bs bm:Z aY) (sn:Z ar) (sub:Z aY) (ab:cm) (col:bq cm) (dd:bq O) (k0 k1 k2 k3 k5:bq aY),
  K.lookup C=U (excClassObj nm q C N bs bm af sn sub ab col dd k0 k1 k2 k3 k5 "ValueError.__new__")
 mY:PySem.W.mroIn K C (.type "ValueError")=U af
 z8:PySem.W.mroIn K C (.type "BaseException")=U af
 lH:PySem.W.mroIn K C (.type "AttributeError")=U a7
 uM:PySem.W.mroIn K C (.type "NameError")=U a7
 init:PySem.W.findIn K (.ref C) "__init__"=U (U (.ref f))
 fn:isFn K (.ref f)=af
 kp:keepIn K (.ref C)=af
def yR{K:ah}
  (l:K.lookup C=U (excClassObj nm q C N bs bm hd sn sub j col i g f e d c a))(h:PySem.W.mroIn K C v=U b):(Value.ref C::bm).contains v=b:=by
 unfold PySem.W.mroIn PySem.W.clsIn at h
 simp_all
section
variable {X:cZ}{w:cN}{A:eL}{E:bo}{h:cI}{g:cW GenState}{d:Drawn}{t:Nat}{os:OsState}
variable {I q:ar}{C N:O}{bs W:Z aY}{D:cm}{J:Z ar}{sub:Z aY}{B:cm}{T:bq cm}{v:bq O}{P L H F y:bq aY}
local macro_rules|`(tactic|walk_at "vlu")=>`(tactic|exact excBase_ValueError)
def Zc0(a:h.get? C=U (excClassObj I q C N bs W D J sub B T v P L H F y "ValueError.__new__"))(b:(Value.ref C::W).contains (.type "ValueError")=af)
  (z:Q () ⟨h,g,d,t,os⟩):wpAny M A (checkBuiltinCall "ValueError.__new__" ⟨.ref C::rest,[]⟩) Q E ⟨h,g,d,t,os⟩:=by
 have G:=sE;simp[checkBuiltinCall,G.newKind,G.newSplit,G.newRow];repeat (first|refine me a ?_|(refine pj a ?_;rw[b])|refine wpAny_staticBase_exc a ?_|refine YE a ?_|simp only[uT,xE]|wp_step)
 exact z
def Zd0{R:Result->bt->Prop}{a:Z aY}(b:h.get? C=U (excClassObj I q C N bs W D J sub B T v P L H F y "ValueError.__new__"))(i:(Value.ref C::W).contains (.type "ValueError")=af)
  (k:(Value.ref C::W).contains (.type "AttributeError")=a7)(f:(Value.ref C::W).contains (.type "NameError")=a7)
  (z:R (.ok (.ret (.ref (h.objs.size+1)))) ⟨(h.push {cls:=.type "tuple",data:=.seq a.toArray}).push {cls:=.ref C,data:=.fields #[.ref h.objs.size,.none,.none,.none,.bool a7,.none]},g,d,t,os⟩)(j:a.length<=sizeLine):
  codeAny (model X w) A (.builtin "ValueError.__new__" ⟨.ref C::a,[]⟩) R ⟨h,g,d,t,os⟩:=by
 have G:=sE;have e:=G.ends;refine codeAny_builtinAt G.entry ?_;refine UK ?_;refine UK (PySem.wpAt_stack λp c=>DK ?_)
 wp_walk
 refine DK ?_;rw[G.owner];repeat (first|with_reducible refine wpAny_madeHere_exc G.canon b ?_|with_reducible refine me b ?_|(with_reducible refine pj b ?_;first|rw[i]|rw[k]|rw[f])|wp_step)
 simp_all
def Zd1{a:Z aY}{k:O}{Q:Fin->bt->Prop}(c:h.get? C=U (excClassObj I q C N bs W D J sub B T v P L H F y "ValueError.__new__"))(n:(Value.ref C::W).contains (.type "ValueError")=af)
  (R:(Value.ref C::W).contains (.type "AttributeError")=a7)(p:(Value.ref C::W).contains (.type "NameError")=a7)
  (u:PySem.W.Looks (model X w) h (typeLookup (.ref C) "__init__") (U (.ref k)))(s:PySem.W.Looks (model X w) h (typeOf (.ref k)) (.type "function"))
  (z:wpAny (model X w) A (call (.ref k) (.ref (h.objs.size+1)::a)) (λr m=>r=.none/\Q (.done (.ret (.ref (h.objs.size+1)))) m) E
   ⟨(h.push {cls:=.type "tuple",data:=.seq a.toArray}).push {cls:=.ref C,data:=.fields #[.ref h.objs.size,.none,.none,.none,.bool a7,.none]},g,d,t,os⟩)(i:a.length<=sizeLine):
  wpAny (model X w) A (Builtin.«type.__call__» ⟨.ref C::a,[]⟩) Q E ⟨h,g,d,t,os⟩:=by
 have G:=WD;repeat (first|with_reducible refine yK c ?_|with_reducible refine wpAny_madeBy_exc c ?_|wp_step)
 refine codeAny_call_builtin_code (Code.quiet_builtin _ G.quiet) (Zc0 c n (Zd0 c n R p ?_ i));show wpAny _ _ _ _ _ _;have f:∀b o,h.get? b=U o->((h.push {cls:=.type "tuple",data:=.seq a.toArray}).push {cls:=.ref C,data:=.fields #[.ref h.objs.size,.none,.none,.none,.bool a7,.none]}).get? b=U o:=
  λb o e=>Yb _ (Yb _ e)
 have j:=f _ _ c;have l:(Value.ref C::W).contains (.ref C)=af:=by simp
 unfold isInstance;repeat (first|with_reducible refine yK here ?_|(with_reducible refine wpAny_isSubtype_exc j ?_;rw[l])|wp_step)
 refine(u.keeps f) _ _ _ _ (λ_ _ e=>e) ?_;refine wpAny_holding (nS ?_);unfold bindSpecial;refine nS ((s.keeps f) _ _ _ _ (λ_ _ e=>e) ?_);rw[i2 (by decide)];refine oV (nS (wpAny_mono z (λr m hr=>?_) λ_ _ x=>x));obtain⟨rfl,hQ⟩:=hr
 wp_walk
 exact hQ
def Zd2{a:Z aY}{e:O}{Q:bo}(c:h.get? C=U (excClassObj I q C N bs W D J sub B T v P L H F y "ValueError.__new__"))(j:(Value.ref C::W).contains (.type "ValueError")=af)
  (m:(Value.ref C::W).contains (.type "AttributeError")=a7)(f:(Value.ref C::W).contains (.type "NameError")=a7)
  (l:PySem.W.Looks (model X w) h (typeLookup (.ref C) "__init__") (U (.ref e)))(k:PySem.W.Looks (model X w) h (typeOf (.ref e)) (.type "function"))
  (z:wpAny (model X w) (A.under (.builtin "type.__call__" ⟨.ref C::a,[]⟩)) (call (.ref e) (.ref (h.objs.size+1)::a)) (λr i=>r=.none/\Q (.ref (h.objs.size+1)) i) E
   ⟨(h.push {cls:=.type "tuple",data:=.seq a.toArray}).push {cls:=.ref C,data:=.fields #[.ref h.objs.size,.none,.none,.none,.bool a7,.none]},g,d,t,os⟩)(b:a.length<=sizeLine):
  wpAny (model X w) A (call (.ref C) a) Q E ⟨h,g,d,t,os⟩:=by
 have o:=tc_lookup;have n:=tc_bind (.ref C);refine mW (TF ?_);repeat (any_goals (first|assumption|with_reducible refine me c ?_|wp_step))
 exact⟨rfl,codeAny_call_builtin_at (Xu _ QK) entry_typeCall (wpAny_check_type_call_sub c (Zd1 c j m f l k z b))⟩
end
end L2
namespace L2
open PySem PySem.Spec PyProof.Rows
open PySem.W (Looks InstAt looks_findIn looks_typeIn looks_clsIn looks_mroIn looks_find findObj findIn mroIn clsIn)
abbrev qr:Z aY:=[.type "ValueError",.type "Exception",.type "BaseException",.type "object"]
structure d5(K:ah)(C:O):Prop where
 nO:∃(nm q:ar) (N:O) (bs:Z aY) (cs:Z O) (sn:Z ar) (sub:Z aY) (ab:cm) (col:bq cm) (dd:bq O) (k0 k1 k2 k3 k5:bq aY),
  K.lookup C=U (excClassObj nm q C N bs (cs.map Value.ref++qr) af sn sub ab col dd k0 k1 k2 k3 k5 "ValueError.__new__")
 ga:findIn K (.ref C) "__getattribute__"=U (U (.builtin "BaseException.__getattribute__"))
 gh:findIn K (.ref C) "__getattr__"=U aJ
 sa:findIn K (.ref C) "__setattr__"=U (U (.builtin "object.__setattr__"))
 cl:findIn K (.ref C) "__class__"=U (U (.builtin "object.__class__"))
 cg:specialIn K (.builtin "object.__class__") "__get__"=U (U (.builtin "getset_descriptor.__get__"))
 ct:takesIn K (.builtin "object.__class__")=U af
def Tn(C:O)(a:Z O)(v:aY)(h:qr.contains v=af):(Value.ref C::(a.map Value.ref++qr)).contains v=af:=by
 grind
def d5.mro{K:ah}(x:d5 K C)(v:aY)(h:qr.contains v=af):mroIn K C v=U af:=by
 obtain⟨c,q,N,bs,k,b,sub,m,a,j,i,g,f,e,d,l⟩:=x.nO;unfold PySem.W.mroIn PySem.W.clsIn
 grind
def d5.hd{K:ah}(x:d5 K C):hasDictIn K C=af:=by
 obtain⟨c,q,N,bs,j,b,sub,k,a,i,h,g,f,e,d,l⟩:=x.nO;unfold hasDictIn PySem.W.clsIn;rw[l];rfl
def ik.inst(x:ik h a C (U d) l)(e:h.get? d=U f):∃b,InstAt h a b C (U f):=by
 obtain⟨c,k,j,i,g,_⟩:=x;refine⟨c,k,j,?_,?_⟩
 ·unfold notCls;rw[g]
 ·rwa[i]
def ik.Ziz(x:ik h a C aJ g):∃b,InstAt h a b C aJ:=by
 obtain⟨c,f,e,i,d,_⟩:=x;refine⟨c,f,e,?_,?_⟩
 ·unfold notCls;rw[d]
 ·grind
section
variable {T:cZ}{w:cN}{A:eL}{E:bo}{s:bt}{K:ah}{x C:O}{L:Obj}{P:bq Obj}{W:ar}
def Sf(d:K.In s.heap)(I:InstAt s.heap x L C P)(X:d5 K C)
  (k:wpAny (model T w) A.in1 (Builtin.«object.__getattribute__» ⟨[.ref x,.str W c],[]⟩) (λfin a=>match fin with|.done f=>R (.ok f) a|.again b=>b.quiet=af/\codeAny (model T w) A b R a) (λe a=>R (.error e) a) s):
  codeAny (model T w) A (.call (.builtin "BaseException.__getattribute__") ⟨[.ref x,.str W c],[]⟩) R s:=by
 have G:=PySem.F.attr_ValueError;exact uO G.ga.plain PySem.F.entry_bexc_ga (check_slot (i:="BaseException.__getattribute__") (owner:="BaseException") (n:="__getattribute__") QK QK ((I.type).andThen (looks_mroIn d (X.mro _ (by decide)))) (PySem.F.args_bexc_ga _ _) k)
theorem Sg{b a:cm}(d:K.In s.heap)(I:InstAt s.heap x L C P)(X:d5 K C)
  (k:codeAny (model T w) A (.call (.builtin "BaseException.__getattribute__") ⟨[.ref x,.str W i],[]⟩) (λr c=>match r with|.ok (.ret v)=>handedIn v=af/\Q v c|_=>False) s):
  wpAny (model T w) A (getAttrBy (.ref x) (.str W i) b a) Q E s:=by
 refine jd (bp ((I.type).here (bp ((looks_findIn d X.ga).here ?_))));refine bp ((looks_findIn d X.gh).here (bp (wpAny_attempt (jd ?_))));unfold callGetattribute;rw[bR (by cases a<;>exact Yi)];refine bp (cD (mW (mr k λr c z=>?_)));cases r with
 |error e=>grind
 |ok f=>
  cases f with
  |ret v=>
   obtain⟨h,g⟩:=z;show wpAny _ _ (handedOut v) _ _ _;rw[PySem.W.handedOut_of h];exact cD g
  |next=>grind
  |brk=>grind
  |cont=>grind
def Zjz{a:cm}{v:aY}{Q:bo}(b:K.In s.heap)(I:InstAt s.heap x L C P)(X:d5 K C)(d:findObj K C P W=U (.value v))(c:handedIn v=af)(q:Q v {s with toks:=s.toks+1}):
  wpAny (model T w) A (getAttr (.ref x) W a) Q E s:=by
 exact bp (wpAny_mkText (Sg b I X (Sf b I X (bp (cD (bp (cD (bp ((I.type).at (bp ((looks_find b I d).at (cD (rz c q)))))))))))))
def ZbZ{P:Obj}{Q:bq aY->bt->Prop}(a:K.In s.heap)(I:InstAt s.heap x L C (U P))(X:d5 K C)(q:Q (U (.ref C)) {s with toks:=s.toks+1}):wpAny (model T w) A (getAttr? (.ref x) "__class__") Q E s:=by
 exact bp (wpAny_mkText (bp (wpAny_attempt (Sg a I X (Sf a I X (bp (cD (bp (cD (bp ((I.type).here (s:={s with toks:=s.toks+1}) (bp ((looks_find a I (PySem.W.findObj_data (by obtain⟨c,b,_⟩:=tr X.hd;rw[b];rfl) X.cl X.cg X.ct)).here (s:={s with toks:=s.toks+1}) (bp (jd (mW (PySem.W.class_get a I (X.mro _ (by decide)) (cD ⟨rfl,cD q⟩))))))))))))))))))
theorem Zd3{P:Obj}(X:d5 K C):KitX K (.ref x) (.ref C) (λh=>∃L,InstAt h x L C (U P)) where
 ty:=λ_ _ _ ⟨_,I⟩=>I.type
 it:=λ_ _ a _=>by
  obtain⟨d,q,N,bs,r,c,sub,t,b,p,m,j,i,g,f,l⟩:=X.nO;intro H F G B k q;exact bp (s_ (k _ _ (a _ _ l)) (cD q))
 ne:=λh u o D n v a e=>by
  obtain⟨d,q,N,bs,r,c,sub,t,b,p,m,j,i,g,f,l⟩:=X.nO;refine W3.mpr λz=>?_;have z:=Value.ref.inj (beq_iff_eq.mp z);subst z;have y:=dC Obj.cls (Ym ((a _ _ l).symm.trans e))
  grind
 ca:=λa ⟨_,I⟩ k=>ZbZ a I X k
theorem Oa(a:aY):∀b:Z O,refuseLoop a "__setattr__" (b.map Value.ref++qr)=pure ()
 |[]=>PySem.F.store_ValueError.passes a
 |c::r=>by
  show refuseLoop a "__setattr__" (.ref c::(r.map Value.ref++qr))=pure ();rw[VE];exact Oa a r
def UC{v:aY}{Q:Unit->bt->Prop}(b:K.In s.heap)(I:InstAt s.heap x L C P)(X:d5 K C)(d:findIn K (.ref C) W=U aJ)
  (k:wpAny (model T w) A.in1 (Builtin.ObjectAttr.storeInOwnDict (.ref x) (.ref C) (.str W s.toks) W v a7) (λfin c=>fin=PySem.Fin.done (.ret .none)/\Q () c) (λ_ _=>False) {s with toks:=s.toks+1}):
  wpAny (model T w) A (setAttr (.ref x) W v) Q E s:=by
 have a:=PySem.F.store_object;refine set_plain b I X.sa ?_;have sub:Looks (model T w) s.heap (isInstance (.ref x) (.type "object")) af:=I.type.andThen (looks_mroIn b (X.mro _ (by decide)));refine uO a.slot.plain a.entry (@check_slot (model T w) _ _ {s with toks:=s.toks+1} "object.__setattr__" "object" "__setattr__" (.ref x) [.str W s.toks,v] [] _ a.kind a.split sub (a.args (.ref x) (.str W s.toks) v) ?_);obtain⟨j,q,N,bs,f,h,i,u,g,t,r,p,o,n,m,l⟩:=X.nO;have e:Looks (model T w) s.heap (mroOf (.ref C)) (.ref C::(f.map Value.ref++qr)):=(looks_clsIn b (by unfold PySem.W.clsIn;rw[l])).andThen .now;rw[osa_eq,refuse_eq];refine bp (bp (I.type.here (s:={s with toks:=s.toks+1}) (bp (e.here (s:={s with toks:=s.toks+1}) ?_))));rw[VE,Oa];refine cD (bp (I.type.here (s:={s with toks:=s.toks+1}) (bp ((looks_findIn b d).here (s:={s with toks:=s.toks+1}) (bp (cD ?_))))));refine dk k (λfin c z=>?_) λ_ _ z=>z.elim;obtain⟨rfl,z⟩:=z;exact z
end
def xq(d:O)(b:Z (ar×V)):HO:=.ext λh=>∃a,h.Ns1 d a/\(∀f,fw (b.lookup f) (a f))/\PySem.Within a (b.map (·.1))
def To(n:h.Ns1 d a)(r:∀f,fw (fs.lookup f) (a f))(b:PySem.Within a (fs.map (·.1))):cH P w H h d (xq d fs):=
 ⟨⟨a,n,r,b⟩,let⟨o,_,_,e,_⟩:=n;⟨o,e⟩,λ_ _ ⟨m,y,q⟩ k=>⟨m,y.at k,q⟩⟩
def JK(b:dz P w H h)(e:H d=U (xq d fs)):∃a,h.Ns1 d a/\(∀f,fw (fs.lookup f) (a f))/\PySem.Within a (fs.map (·.1)):=(b d _ e).1
def QO{mA:aU}(a:RelV y u)(r:∀g,fw (fs.lookup g) (mA g)):∀g,fw ((c8 f y fs).lookup g) (if g=f then U u else mA g):=λg=>by
 rw[Gd];by_cases q:g=f;·rwa[bS q,bS q]
 ·grind
def Ob(a:PySem.Within b (fs.map (·.1))):PySem.Within (λg=>if g=f then U u else b g) ((c8 f y fs).map (·.1)):=λg c=>by
 by_cases q:g=f;·exact q▸(yD f y fs).1
 ·refine(yD f y fs).2 g (a g λz=>c ?_)
  grind
section
variable {T:cZ}{w:cN}{A:eL}{E:bo}{s:bt}{K:ah}{x C:O}{W:ar}{v:aY}{b:cm}{R:Tok}
def Zc1{a:Obj}{d:O}{e:aU}{f:Z ar}{Q:PySem.Fin->bt->Prop}(D:K.In s.heap)(X:d5 K C)(r:s.heap.get? x=U a)(z:a.cls=.ref C)(u:a.dict=U d)(n:s.heap.Ns1 d e)(m:PySem.Within e f)(o:f.length<sizeLine)
  (k:∀c l,c.Ns1 d (λy=>if y=W then U v else e y)->Heap.SameBut d s.heap c->Q (.done (.ret .none)) {s with heap:=c,toks:=l}):
  wpAny (model T w) A (Builtin.ObjectAttr.storeInOwnDict (.ref x) (.ref C) (.str W R) W v b) Q E s:=by
 obtain⟨F,q,J,H⟩:=a;subst z u;obtain⟨I,B,t⟩:=tr X.hd;refine bp (cD (bp (bp (s_ r (bp ((looks_clsIn D B).here ?_))))));rw[t];refine cD (bp (cD (bp (vr n λc g p=>?_))));obtain⟨G,N,L,j,i,h⟩:=g.count (uV W v m);exact bp (uW j (by exact i▸u6 (Yz h (by rw[Wg];exact qH (Nat.add_lt_add_right o _)))) (cD (k _ _ g p)))
def Zc2{a:Obj}{i:cW aY}{Q:PySem.Fin->bt->Prop}(J:K.In s.heap)(X:d5 K C)(f:s.heap.get? x=U a)(g:a.cls=.ref C)(G:a.dict=aJ)(D:a.data=.fields i)
  (k:∀d t,d.Ns1 s.heap.objs.size (λy=>if y=W then U v else aJ)->d.get? x=U {a with dict:=U s.heap.objs.size}->(∀c o,c≠x->s.heap.get? c=U o->d.get? c=U o)->Q (.done (.ret .none)) {s with heap:=d,toks:=t}):
  wpAny (model T w) A (Builtin.ObjectAttr.storeInOwnDict (.ref x) (.ref C) (.str W R) W v b) Q E s:=by
 obtain⟨L,u,VW,z⟩:=a;subst g G D;obtain⟨P,H,B⟩:=tr X.hd;refine bp (cD (bp (bp (s_ f (bp ((looks_clsIn J H).here ?_))))));rw[B];have h:=Yy (Yr f);have n:(s.heap.push {cls:=.type "dict",data:=.dict #[]}).get? x=U ⟨.ref C,aJ,.fields i,z⟩:=Yb _ f;refine bp (wpAny_alloc' (bp (wpAny_update' n (cD ?_))));have I:((s.heap.push {cls:=.type "dict",data:=.dict #[]}).update x λo=>{o with dict:=U s.heap.objs.size}).get? s.heap.objs.size=U {cls:=.type "dict",data:=.dict #[]}:=
  (VY _ _ _ _ h.symm).trans (Heap.get?_push_at rfl rfl)
 refine bp (cD (bp (vr (MO ⟨_,#[],_,I,rfl,λe F=>absurd F (by simp),λ_=>rfl⟩) λd l j=>?_)));obtain⟨N,VA,VB,r,q,p⟩:=l.count (uV W v PySem.Within.nil);refine bp (uW r (by exact q▸u6 (Yz p (by rw[Wg,VQ,c4];decide))) (cD (k _ _ l ?_ λc o g m=>?_)));·exact(j.2 x h).trans (Wy _ n rfl)
 ·exact(j.2 c (Yy (Yr m))).trans ((VY _ _ _ _ g).trans (Yb _ m))
end
def Tp(K:ah)(g e:TE)(f:ar):TS:=λ D c H=>e c H λ y h=>g c h λ x b=>∃ a C,x=.ref a/\d5 K C/\dG K C f /\
  ((b a=U (xn a C aJ)/\∀ d,b d=aJ->d≠a->D.nx c (upd (upd b d (xq d [(f,y)])) a (xn a C (U d)))) \/
   ∃ d fs,b a=U (xn a C (U d))/\b d=U (xq d fs)/\d≠a/\fs.length < 1000/\D.nx c (upd b d (xq d (c8 f y fs))))
def Tq(K:ah)(e:TE)(f:ar):TE:=λc H Q=>e c H λx b=>∃a C d fs v,x=.ref a/\b a=U (xo a C (U d))/\b d=U (xq d fs)/\d5 K C/\dG K C f/\fs.lookup f=U v/\Q v b
inductive QP(K:ah)(e:Z V)(H:Hp)(Q:VK):Prop
 |mk (a C d:O) (fs:Z (ar×V)) (c:V) (u:aY) (b:cm) (l:e=[.ref a,c]) (k:RelV c u) (i:H a=U (xo a C (U d))) (j:H d=U (xq d fs)) (h:d5 K C) (g:kitOne K (.ref C) u=U b) (f:Q (.bl b) H):QP K e H Q
def Tr(K:ah):Z V->Hp->VK->Prop:=λa H Q=>QP K a H Q
section
variable {X:Cx}{o e W:cu}{f:ar}{R T:Pos}{P N:TE}
def ZfC(ha:PE X o P)(hv:PE X W N)(hs:swapsWith W (U (.Attribute o f T)) R.line X.env=pure a7:=by rfl):PS X (.Assign [.Attribute o f T] W R) (Tp X.K P N f):=by
 intro p s A H D I h;refine uk (az (hv p s A H _ I h) λu s1 zq=>?_) hs;obtain⟨y,H1,I1,ry,q⟩:=zq;refine az (ha p s1 A H1 _ I1 q) λov F zq=>?_;obtain⟨x,H2,l,rx,a,C,Q,E,na,v⟩:=zq;subst Q;obtain rfl:ov=Value.ref a:=rx;rcases v with⟨m,v⟩|⟨d,fs,m,ed,nd,lim,v⟩
 ·obtain⟨vs,r,v1⟩:=Ca l.aw m;obtain⟨ox,J⟩:=r.Ziz;obtain⟨oe,e1,e2,e3,e4,e5⟩:=r;refine UC l.cO J E na (Zc2 l.cO E e1 e2 e3 e4 λh' tk G Q kp=>⟨rfl,?_⟩);have w:=l.aw.fresh (Yd _);have ne:=Jg (Yr e1);refine⟨A,_,?_,v F.heap.objs.size w ne⟩;have hx':ik h' a C (U F.heap.objs.size) vs:=⟨_,Q,e2,rfl,e4,e5⟩;refine l.un ⟨λb j i n _ _=>?_,λb j i n fr _=>?_,λb j i n _=>?_,λb j i _=>?_,λb B i=>?_,λb j u i=>?_,λb ps i=>?_⟩ λb j i=>?_;·exact kp b j (λz=>by rw[z,m] at n;cases n) i
  ·exact⟨j.slots,kp b j (λz=>by rw[z,m] at n;cases n) i⟩
  ·rw[aA (λz=>by rw[z,m] at n;cases n),aA (Yy (Yr i))];exact n
  ·by_cases z:b=a;·exact⟨_,z▸Q⟩
   ·exact⟨j,kp b j z i⟩
  ·rw[aA (λz=>by rw[z,m] at i;cases i),aA (λz=>by rw[z,w] at i;cases i)];exact i
  ·rw[aA (λz=>by rw[z,m] at i;cases i),aA (λz=>by rw[z,w] at i;cases i)];exact i
  ·exact⟨#[],by rw[aA (λz=>by rw[z,m] at i;cases i),aA (λz=>by rw[z,w] at i;cases i),i];simp⟩
  ·by_cases z:b=a
   ·subst z;rw[aQ] at i;cases i;exact(λH0=>Kp hx' v1) _
   ·rw[aA z] at i;by_cases z2:b=F.heap.objs.size
    ·subst z2;rw[aQ] at i;cases i;exact(λH0=>To G (QO (fs:=[]) (mA:=λ_=>aJ) ry λg=>trivial) (Ob λ g=>absurd rfl)) _
    ·rw[aA z2] at i;have DC:∀c t,H2 c=U t->t=.own b\/(∃B,t=.tup B)->c≠a/\c≠F.heap.objs.size:=λc t k L=>by
      refine⟨λy=>?_,λy=>by rw[y,w] at k;cases k⟩;rw[y,m] at k;cases k;rcases L with L|⟨B,L⟩<;>cases L
     refine(l.aw b j i).i_ (λc u k hg=>?_) (λc k=>?_) λc B k=>?_;·grind
     ·rwa[aA (DC c _ k (.inl rfl)).1,aA (DC c _ k (.inl rfl)).2]
     ·rwa[aA (DC c _ k (.inr ⟨_,rfl⟩)).1,aA (DC c _ k (.inr ⟨_,rfl⟩)).2]
 ·obtain⟨vs,r,v1⟩:=Ca l.aw m;obtain⟨mA,n1,rl,wi⟩:=JK l.aw ed;obtain⟨od,_,_,jg,_⟩:=id n1;obtain⟨ox,J⟩:=r.inst jg;obtain⟨oe,e1,e2,e3,e4,e5⟩:=r;refine UC l.cO J E na (Zc1 l.cO E e1 e2 e3 n1 wi (by rw[Ya,c4];omega) λh' tk G sb=>⟨rfl,A,_,?_,v⟩);have hd:∃o,h'.get? d=U o:=let⟨o,_,_,e',_⟩:=G;⟨o,e'⟩;exact l.write (by exact ed▸hY) (.inl rfl) (λb q i z=>(sb.2 b i).trans z) hd (To G (QO ry rl) (Ob wi))
def ZfD(B:PE X e P)(D:attributeBase e f X.env (eval e X.env)=eval e X.env:=by rfl):PE X (.Attribute e f R) (Tq X.K P f):=by
 intro b s j H Q I h;refine QG D (az (B b s j H _ I h) λu s1 k=>?_);obtain⟨x,L,c,n,a,C,d,fs,v,E,G,F,g,t,l,q⟩:=k;subst E;obtain rfl:u=Value.ref a:=n;obtain⟨vs,m⟩:=Sa c.aw G;obtain⟨mA,w,p,wi⟩:=JK c.aw F;obtain⟨od,z,y⟩:=Hw w;obtain⟨ox,J⟩:=m.inst z;have r:=p f;rw[l] at r;obtain⟨u,A,i⟩:=r.some_of;exact Zjz c.cO J g (findObj_own g.hd t rfl (by rw[y,A])) (OH i) ⟨v,L,c.tok _,i,q⟩
def ZaF:dA X (.builtin "isinstance") (Tr X.K):=by
 rintro j s E H F us Q I r ⟨a,C,d,fs,c,u,b,rfl,h,B,A,n,e,q⟩;obtain⟨p,g,rfl,v,i⟩:=vals2 r;obtain rfl:p=Value.ref a:=v;obtain⟨L,m⟩:=Sa I.aw B;obtain⟨mA,x,rl,G⟩:=JK I.aw A;obtain⟨od,y,lk⟩:=Hw x;obtain⟨w,J⟩:=m.inst y;have same:kitOne X.K (.ref C) g=U b:=by
  have D:g=u:=by
   cases c<;>first|exact(i).trans (h).symm|skip
   all_goals (obtain⟨t1,l⟩:=i;obtain⟨t2,k⟩:=h;subst l;subst k)
   all_goals (exfalso;revert e;simp[kitOne,kitCls])
  rwa[D]
 exact kM (Zd3 n) I.cO ⟨w,J⟩ same (λz=>nomatch z) λt=>⟨.bl b,H,I.tok t,rfl,q⟩
end
structure Kq(K:ah)(C:O)(m:ar)(f:O):Prop where
 ga:specialIn K (.ref C) "__getattribute__"=U (U (.builtin "type.__getattribute__"))
 rd:PySem.W.readsIn K C (.type "type")=af
 at_:findCls K (.ref C) (.type "type") m=U (.val (.ref f))
 kp:keepIn K (.ref f)=af
section
variable {X:Cx}{P:lG}{k:Nat}{f C:O}{G:FuncData}{ps:Z ar}{J:Sp}{N:Z V}{L:Z aY}{E:XK}{x m:ar}{p W T:Pos}{e:cu}{R:Z cu}{t:TA}
def Zd4{j:Sem cm}(b:Kq X.K C m f)(F:aI X.prog X.w X.K X.mg X.base P k f G ps J)(o:c5 k X.A)(u:Gl X x)(q:X.mg x=U (.ref C))(w:Binds X.K G ps L)(v:Vals N L)(l:Passes P X E)(y:PA X (e::R) t)
  (z:(x==("__debug__":ar))=a7:=by decide)(A:jB X e R:=by rfl)(B:j9 X W R:=by rfl)
  (n:eval (.Call (.Attribute (.Name x p) m T) (e::R) [] W) X.env=(do
   let c←eval (.Name x p) X.env
   standAt T.atName
   let(f,first)←holding [c] (getMethod c m j)
   callWith W f first (backTo W (starEach (e::R) X.env)) (backToKw W (keywordEach [] X.env))):=by rfl):
  PE X (.Call (.Attribute (.Name x p) m T) (e::R) [] W) (Cp J N E t):=by
 intro a s g H Q I h;exact rn (wx I u q (PySem.W.method_cls I.cO b.ga (PySem.W.cls_value I.cO b.rd b.at_ rfl (pK I.ok.mod.oU b.kp (az (y W a _ g H _ (I.tok (s.toks+1)) h) λus s2 ⟨D,H2,d,r,i⟩=>⟨d.cO,B9 F o w v l d r i⟩) A B))) z) n
end
def JM(K:ah):Z V->Hp->VK->Prop:=λb H Q=>∃(a C:O) (y:V),b=[.ref a,y]/\d5 K C/\H a=U (xn a C aJ)/\Q .ay H
section
variable {K:ah}
def Zb0(m:K.In s.heap)(X:d5 K C)(i:s.heap.get? a=U c)(f:c.cls=.ref C)(z:Q () s):wpAny M A (checkBuiltinCall "ValueError.__init__" ⟨.ref a::rest,[]⟩) Q E s:=by
 obtain⟨r,q,N,bs,j,o,p,I,k,H,F,D,B,y,w,l⟩:=X.nO;have b:=m _ _ l;have e:=Tn C j (.type "ValueError") (by decide);have G:=sE;obtain⟨h,g,d,t,os⟩:=s;simp[checkBuiltinCall,G.initKind,G.initSplit,G.initRow];repeat (first|(with_reducible refine me i ?_;rw[f])|with_reducible refine me b ?_|(with_reducible refine pj b ?_;rw[e])|wp_step)
 refine wpAny_onRaise ?_;rw[show ∀(u v:String) (n:Nat),Bind.check ⟨.positional,"*","ValueError",.self,[⟨"args",.varPos,a7⟩]⟩ u v n (List.map (λx=>x.fst) ({pos:=Value.ref a::rest}:Args).kw)=pure () from λu v n=>check_star_args _ _ _ _ _ _];exact cD z
end
section
variable {X:Cx}{p W T:Pos}{e:cu}{R:Z cu}{t:TA}
def Zd5(I:Inv X pins σ H s)(r:Vals xs us)(h:JM X.K xs H Q):wpAny X.md X.A (call (.builtin "ValueError.__init__") us) (EP X pins σ Q) X.xe s:=by
 obtain⟨a,C,y,rfl,w,k,q⟩:=h;obtain⟨B,i,rfl,E,r2⟩:=vals2 r;obtain rfl:B=Value.ref a:=E;obtain⟨f,v,v1⟩:=Ca I.aw k;obtain⟨F,n,P,N,d,m⟩:=id v;have G:=sE;refine mW (uO G.init.plain G.initEntry (Zb0 I.cO w n P ?_));unfold Builtin.«BaseException.__init__»;show wpAny _ _ (do let D←newTuple [i];Builtin.BaseException.bexcPut (.ref a) 0 D;ret .none) _ _ _;refine bp ?_;unfold newTuple;refine mR (bp ?_);have j:=Yb {cls:=.type "tuple",dict:=aJ,data:=.seq [i].toArray} n;have A:f[0]?=U f[0]:=W5 (yJ (y0 m));unfold Builtin.BaseException.bexcPut;refine bp (lr j d A (bp (ri j d (yJ (y0 m)) ?_)));have fin:EP X pins σ Q Value.none {s with heap:=(s.heap.push {cls:=.type "tuple",dict:=aJ,data:=.seq [i].toArray}).update a (Obj.mapFields (·.setIfInBounds 0 (Value.ref s.heap.objs.size)))}:=by
  have u:=uS d (·.setIfInBounds 0 (Value.ref s.heap.objs.size));have l:=Wy (Obj.mapFields (·.setIfInBounds 0 (Value.ref s.heap.objs.size))) j (uJ u);have J:=I.write (x:=a) (e:=a) (o:=xn a C aJ) (t':=s.toks) (by exact k▸hY) (.inl rfl)
   (λb o L g=>by rw[Wc _ _ (jm L)];exact Yb _ g) ⟨_,l⟩
   (Kp ⟨_,l,by rwa[Obj.cls_mapFields],by obtain⟨c,dd,da,sl⟩:=F;cases d;exact N,u,by rwa[WB]⟩ (by rwa[Array.getElem?_setIfInBounds_ne (by decide)]))
  have same:upd H a (xn a C aJ)=H:=by
   funext b
   by_cases z:b=a;·rw[z,aQ,k]
   ·rw[aA z]
  rw[same] at J;exact⟨.ay,H,J,rfl,q⟩
 generalize f[0]=old;cases old<;>first|exact cD (cD fin)|exact xc (cD fin)|exact bp (xc (cD (cD fin)))
def ZfE{K:ah}:findCls K (.type "ValueError") (.type "type") "__init__"=U (.val (.builtin "ValueError.__init__")):=by kernel_rfl
def Ts{K:ah}:findIn K (.type "type") "__getattribute__"=U (U (.builtin "type.__getattribute__")):=by kernel_rfl
def Zg8{K:ah}:subIn K (.type "type") (.type "type")=U af:=by kernel_rfl
def Tt:typeOf (.type "ValueError")=pure (.type "type"):=by kernel_rfl
def ZiA:opaqueClassAbove (.type "ValueError")=pure aJ:=by kernel_rfl
def ZfF:bootBuiltins "ValueError"=U (.type "ValueError"):=QK
def Zc3{a:cZ}{w:cN}{A:eL}{E:bo}{s:bt}{K:ah}{c:Sem cm}{Q:aY×Z aY->bt->Prop}(b:K.In s.heap)(z:Q (.builtin "ValueError.__init__",[]) {s with toks:=s.toks+1}):
  wpAny (model a w) A (getMethod (.type "ValueError") "__init__" c) Q E s:=by
 have d:Looks (model a w) s.heap (specialOf (.type "ValueError") "__getattribute__") (U (.builtin "type.__getattribute__")):=(Looks.of_pure Tt).andThen (looks_findIn b Ts);unfold getMethod;refine bp (d.here ?_);show wpAny _ _ (if(Manifest.canonical "type.__getattribute__" !="object.__getattribute__")=af then _ else _) _ _ _;rw[bS PySem.W.canon_tga];refine bp (PySem.W.cls_open b (Looks.of_pure ZiA) (Looks.of_pure Tt) Ts (Looks.of_pure rfl) Zg8 ZfE ?_);exact cD (PySem.W.handed_on rfl (cD z))
def Zd6{i:Sem cm}(l:Gl X "ValueError")(k:X.mg "ValueError"=aJ)(m:PA X (e::R) t)
  (n:jB X e R:=by rfl)(o:j9 X W R:=by rfl)
  (j:eval (.Call (.Attribute (.Name "ValueError" p) "__init__" T) (e::R) [] W) X.env=(do
   let b←eval (.Name "ValueError" p) X.env
   standAt T.atName
   let(f,first)←holding [b] (getMethod b "__init__" i)
   callWith W f first (backTo W (starEach (e::R) X.env)) (backToKw W (keywordEach [] X.env))):=by rfl):
  PE X (.Call (.Attribute (.Name "ValueError" p) "__init__" T) (e::R) [] W) (nW (JM X.K) t):=by
 intro a s c H Q I h;refine rn (yU I l k ZfF ?_) j;refine Zc3 I.cO ?_;exact zB (az (m W a _ c H _ (I.tok _) h) λu v ⟨r,w,q,d,g⟩=>Zd5 q d g) n o
end
def Zg9(C:O)(g:Sp)(h:Z V)(E:St->XK)(t:TA):TS:=λ_ b H=>t b H λc f=>c.length<=1000/\∀a,f a=aJ->
 g (.ref a::(c++h)) (upd f a (xn a C aJ)) (λv e=>v=.ay/\∃d,e a=U (xn a C (U d))/\E b (.ref C) (U d) (upd e a (xo a C (U d)))) E0
section
variable {X:Cx}{k:Nat}{f C:O}{J:FuncData}{ps:Z ar}{L:Sp}{P:Z V}{R:Z aY}{E:St->XK}{x:ar}{p T Q:Pos}{e:cu}{W:Z cu}{t:TA}
theorem Zd7(i:xf X.K C f)(F:aI X.prog X.w X.K X.mg X.base aP k f J ps L)(hr:c5 (k+1) X.A)(B:X.calm=af)(hg:Gl X x)(hm:X.mg x=U (.ref C))(j:Binds X.K J ps R)(hd:Vals P R)(hx:rQ X E)(ha:PA X (e::W) t)
  (gv:(x==("__debug__":ar))=a7:=by decide)(he:jB X e W:=by rfl)(cJ:j9 X Q W:=by rfl):
  PS X (.Raise (U (.Call (.Name x p) (e::W) [] Q)) aJ T) (Zg9 C L P E t):=by
 intro w s σ H D I h;rw[arm_exec_Raise];refine bp (lp ?_);show wpAny _ X.A (raiseStmt X.env (U (do let v←eval (.Call (.Name x p) (e::W) [] Q) X.env;standAt T;pure v)) aJ) _ _ s;unfold raiseStmt;refine bp (bp ?_);refine q9 (wx I hg hm ?_ gv);refine pK (h₀:=X.base) I.ok.mod.oU i.kp (az (ha Q w s σ H _ I h) λA l zz=>?_) he cJ;obtain⟨vs,H1,I1,r,lim,q⟩:=zz;refine⟨I1.cO,?_⟩;obtain⟨nm,qn,N,bs,bm,sn,sub,ab,col,dd,k0,k1,k2,k3,k5,lk⟩:=i.nO;have kc:=I1.cO _ _ lk;have fr:H1 (l.heap.objs.size+1)=aJ:=I1.aw.fresh (J3 _);have hq:=q (l.heap.objs.size+1) fr;have r2:Vals (V.ref (l.heap.objs.size+1)::(vs++P)) (Value.ref (l.heap.objs.size+1)::(A++R)):=.cons rfl (r.append hd);have hl:((Value.ref (l.heap.objs.size+1)::A)++R).length=ps.length:=by
  have z:=r2.length;rw[F.len _ _ _ _ hq] at z;exact z.symm
 have here:((l.heap.push {cls:=.type "tuple",data:=.seq A.toArray}).push {cls:=.ref C,data:=.fields #[.ref l.heap.objs.size,.none,.none,.none,.bool a7,.none]}).get? (l.heap.objs.size+1)=
   U {cls:=.ref C,data:=.fields #[.ref l.heap.objs.size,.none,.none,.none,.bool a7,.none]}:=by heap_get
 have up:∀b o,l.heap.get? b=U o->((l.heap.push {cls:=.type "tuple",data:=.seq A.toArray}).push {cls:=.ref C,data:=.fields #[.ref l.heap.objs.size,.none,.none,.none,.bool a7,.none]}).get? b=U o:=
  λb o z=>Yb _ (Yb _ z)
 have new:cH X.prog X.w (upd H1 (l.heap.objs.size+1) (xn (l.heap.objs.size+1) C aJ)) _ (l.heap.objs.size+1) (xn (l.heap.objs.size+1) C aJ):=Kp (vs:=#[.ref l.heap.objs.size,.none,.none,.none,.bool a7,.none]) ⟨_,here,rfl,rfl,rfl,by show 1<6;decide⟩ rfl;have I2:=I1.laid (a:=l.heap.objs.size+1) (o:=xn (l.heap.objs.size+1) C aJ) (t':=l.toks) up (J3 _) new;have L1:=looks_findIn (M:=model X.prog X.w) I1.cO i.init;have L2:=looks_typeIn (M:=model X.prog X.w) I1.cO (beq_iff_eq.mp i.fn);have ul:A.length<=sizeLine:=by
  rw[←r.length,c4];exact d6 lim (by decide)
 obtain⟨m,g1,d1,t1,o1⟩:=l;refine Zd2 kc (yR lk i.mY) (yR lk i.lH) (yR lk i.uM) L1 L2 (mW (mr (F.run _ X.stack _ _ ⟨Value.ref (m.objs.size+1)::A,[]⟩ (Value.ref (m.objs.size+1)::(A++R)) _ _ E0 (hr.make C A [])
  (I2.CH.make C A []) (j _ (Value.ref (m.objs.size+1)::A) I2.cO hl) r2 hq) λr s' nU=>?_)) ul
 cases r with
 |error _=>exact False.elim nU
 |ok fl=>
  cases fl with
  |next=>exact False.elim nU
  |brk=>exact False.elim nU
  |cont=>exact False.elim nU
  |ret u=>
   obtain⟨v,H',Dw,G,un,aw,rv,rfl,d,ea,k_⟩:=nU;obtain rfl:u=Value.none:=rv;refine⟨rfl,bp (lp (cD ?_))⟩;obtain⟨ws,xr,w1⟩:=Ca aw ea;obtain⟨oe,e1,e2,e3,e4,e5⟩:=id xr;have I3:Inv X w σ H' s':=I2.Kk (ch:=[]) Dw un aw G λb z=>absurd z (by simp);have VZ:=I3.cO _ _ lk;have z8:=yR lk i.z8;obtain⟨oc,od,VW,jD⟩:=oe;dsimp only at e2 e3 e4;subst e2 e3 e4;have xe:X.xe (.ref (m.objs.size+1)) s':=by
    refine hx w σ H1 ⟨m,g1,d1,t1,o1⟩ _ s' I1 ⟨m.objs.size+1,C,d,upd H' (m.objs.size+1) (xo (m.objs.size+1) C (U d)),ws,rfl,J3 _,Dw,G,?_,?_,aQ,xr,.inl w1,k_⟩
    ·have uN:Un (c9 X.stack) [] H1 H' m s'.heap:=(Un.laid up (J3 _) fr).trans un;have old:∀b o,m.get? b=U o->b≠m.objs.size+1:=λb o j=>Yy (Wz (Yr j));have tk:∀b u,H1 b=U u->b≠m.objs.size+1:=λb u j z=>by rw[z,fr] at j;cases j
     exact⟨uN.keep,uN.slot,λb o j n x'=>by rw[aA (old b o j)];exact uN.free b o j n x',uN.there,λb xs j=>by rw[aA (tk b _ j)];exact uN.ij b xs j,
      λb o u j=>by rw[aA (tk b _ j)];exact uN.iO b o u j,λb ps j=>by rw[aA (tk b _ j)];exact uN.jb b ps j⟩
    ·intro b o j;by_cases z:b=m.objs.size+1
     ·subst z;rw[aQ] at j;cases j;exact Ti xr
     ·rw[aA z] at j;have nz:∀c u,H' c=U u->(u=.own b\/∃xs,u=.tup xs)->c≠m.objs.size+1:=λc u B hu y=>by
       rw[y,ea] at B;cases B;rcases hu with hu|⟨xs,hu⟩<;>cases hu
      exact(aw b o j).i_ (λ_ _ _ g=>g) (λc B=>by rw[aA (nz c _ B (.inl rfl))];exact B) λc xs B=>by rw[aA (nz c _ B (.inr ⟨_,rfl⟩))];exact B
   have hh:=I.ok.hd B;obtain⟨h',g',d',t',o'⟩:=s';repeat (first|with_reducible refine me e1 ?_|with_reducible refine me VZ ?_|(with_reducible refine pj VZ ?_;rw[z8])|with_reducible refine lr e1 rfl w1 ?_|wp_step)
   exact wpAny_raiseNew_none hh xe
end
abbrev Cx.hand(X:Cx)(a:O):Cx:={X with A:=X.A.mark (U (.ref a)),calm:=a7}
def Cx.Ok.hand{X:Cx}(b:X.Ok)(a:O):(X.hand a).Ok:=
 ⟨b.mod,b.kind,b.glob,b.blt,b.above,b.inj,b.has,b.uH,λz=>absurd (z) Yi,b.frames,b.xx,b.sh,b.bs,b.mS,b.uf,b.rV,b.jV,b.nR⟩
section
variable {X:Cx}{σ:St}{H:Hp}{s:bt}
def Inv.hand(I:Inv X pins σ H s)(a:O):Inv (X.hand a) pins σ H s:=⟨I.ok.hand a,I.os,I.bare,I.base,I.loc,I.cell,I.free,I.i6,I.pin,I.aw,I.len⟩
def Inv.Zg_(b:X.Ok)(I:Inv (X.hand a).oX pins σ H s):Inv X pins σ H s:=⟨b,I.os,I.bare,I.base,I.loc,I.cell,I.free,I.i6,I.pin,I.aw,I.len⟩
def Inv.y6{a:a8}{b:bo}{c:a8}(d:X.Ok)(I:Inv {X with pn:=X.pn++a,xe:=b} c σ H s):Inv X a σ H s:=
 ⟨d,I.os,I.bare,I.base,I.loc,I.cell,I.free,I.i6,λp e=>I.pin p (Yt _ e),I.aw,I.len⟩
def Inv.Zha(I:Inv X a σ H s):Inv {X with pn:=X.pn++a,xe:=c} [] σ H s:=
 ⟨⟨I.ok.mod,I.ok.kind,I.ok.glob,I.ok.blt,I.ok.above,I.ok.inj,I.ok.has,I.ok.uH,I.ok.hd,I.ok.frames,I.ok.xx,I.ok.sh,I.ok.bs,I.ok.mS,I.ok.uf,I.ok.rV,I.ok.jV,I.ok.nR⟩,
  I.os,I.bare,I.base,I.loc,I.cell,I.free,I.i6,λp b=>I.pin p (by rw[Wf] at b;exact b),I.aw,I.len⟩
theorem Inv.gone(I:Inv X pins σ H s)(hN:X.N.Nodup)(hi:X.N[i]?=U n)(hn:s.heap.Ns X.env.locals m)
  (T:∀(i:Nat) (x:ar) (v:V),X.N[i]?=U x->σ[i]?=U (U v)->uG X.env.scope x->∃u,RelV v u/\Look X.env s.heap m x u)
  (R:G.Ns X.env.locals (λx=>if x=n then v else m x))(Q:Heap.SameBut X.env.locals s.heap G):Inv X pins (σ.set i aJ) H {s with heap:=G,toks:=t'}:=by
 have h:∀b o,X.dw.heap.get? b=U o->b≠X.env.locals:=λb o d z=>absurd (Yr (z▸d)) (Nat.not_lt.mpr I.ok.above);have k:∀b o,b≠X.env.locals->s.heap.get? b=U o->G.get? b=U o:=λb o d E=>(Q.2 b d).trans E;have xw:∀b u,H b=U u->b≠X.env.locals:=λb u d z=>by rw[z,I.free] at d;cases d
 refine⟨I.ok,I.os,I.bare,⟨λb o e D f x=>k b o (h b o e) (I.base.keep b o e D f x),λb o e D f x=>?_,I.base.free,λb o e x=>?_,I.base.ij,I.base.iO,I.base.jb⟩,⟨_,R,λj x w N J e3=>?_⟩,λx c e=>?_,I.free,I.i6,λp W=>?_,λb u d=>?_,?_⟩
 ·obtain⟨P,g⟩:=I.base.slot b o e D f x;exact⟨P,k b _ (h b o e) g⟩
 ·obtain⟨L,g⟩:=I.base.there b o e x;exact⟨L,k b L (h b o e) g⟩
 ·by_cases z:i=j
  ·subst z;have a:=J;rw[List.getElem?_set_self'] at a;cases q:σ[i]? with
   |none=>rw[q] at a;cases a
   |some y=>rw[q] at a;cases a
  ·rw[Vr z] at J;obtain⟨u,r,l⟩:=T j x w N J e3;refine⟨u,r,?_⟩;have ne:x≠n:=λy=>z (Ie hN hi (y▸N));rcases l with⟨C,B⟩|⟨C,c,B,⟨o,t,A⟩⟩
   ·refine .inl ⟨C,?_⟩;show(if x=n then v else m x)=U u;rwa[bR ne]
   ·exact .inr ⟨C,c,B,o,k c o (I.qx x c B) t,A⟩
 ·obtain⟨w,o,t,A⟩:=I.cell x c e;exact⟨w,o,k c o (I.qx x c e) t,A⟩
 ·obtain⟨C,B,t,A⟩:=I.pin p W;exact⟨k p.1 p.2 t C,B,t,A⟩
 ·refine(I.aw b u d).i_ (λc o F E=>k c o ?_ E) (λ_ q=>q) λ_ _ q=>q;rcases F with rfl|F;·exact xw _ _ d
  ·exact xw _ _ F
 ·rw[Jd];exact I.len
end
section
variable {K:ah}
def Zc4(h:K.In s.heap)(G:d5 K B)(F:d5 K C)(j:ik s.heap a C d H)(o:mroIn K C (.ref B)=U b)(z:Q b s):wpAny M A (excMatches (.ref a) (.ref B)) Q E s:=by
 obtain⟨R,q,N,bs,v,I,J,ab,w,dd,k0,k1,k2,k3,k5,l⟩:=G.nO;obtain⟨n,L,N',x,u,k,m,y,D,jh,l0,l1,X,W,T,e⟩:=F.nO;have g:=h _ _ l;have p:=h _ _ e;obtain⟨P,t,r,_⟩:=j;have i:=Tn B v (.type "BaseException") (by decide);have c:=yR e o;have f:=tc_notTuple;unfold excMatches;repeat (first|(with_reducible refine me t ?_;rw[r])|with_reducible refine me g ?_|(with_reducible refine pj g ?_;rw[i])|(with_reducible refine pj p ?_;rw[c])|wp_step)
 cases b<;>(wp_walk;exact z)
def ZfG{l:Nat}(h:ik s.heap a C d i)(m:xG l H s.heap i)(z:Q () s):wpAny M A (setFlight (.ref a) aJ) Q E s:=by
 obtain⟨n,f,q,p,e,o⟩:=h;rcases m with y|⟨T,k,j,y,_,_,c,g,b⟩
 ·refine bp (lr f e y ?_);exact cD z
 ·refine bp (lr f e y ?_);refine ri c g (Jy.mp b).1 ?_;have same:=Heap.update_setField_same s.heap T k j 3 Value.none c g b;simp_all
end
def hX(K:ah)(B:O)(i:Nat)(g:TS)(D:Ends):St->XK:=λf c o H=>∃C d,c=.ref C/\o=U d/\d5 K C/\mroIn K C (.ref B)=U af/\
 ∀a,H a=U (xo a C (U d))->g {nx:=λb e=>D.nx (b.set i aJ) e,rt:=D.rt,bk:=λb e=>D.bk (b.set i aJ) e,ct:=λb e=>D.ct (b.set i aJ) e} (f.set i (U (.ref a))) H
section
variable {X:Cx}{B:O}{i:Nat}{n x:ar}{W N:Z cj}{R:cj}{G L P:Pos}{F:(St->XK)->TS}{T:TS}
theorem Zhb(y:X.stack=X.env::X.outer/\X.env.frame=U X.env.locals)(hN:X.N.Nodup)(hi:X.N[i]?=U n)(hl:X.env.scope.names.lookup n=U .local)(hg:Gl X x)(hm:X.mg x=U (.ref B))(XB:d5 X.K B)
  (hb:∀pn t E,rQ {X with pn:=pn,xe:=t} E->PassesOwn X.md X.A X.env t->fX {X with pn:=pn,xe:=t} W (F E))
  (hh:∀a,fX (X.hand a).oX (R::N) T)(gv:(x==("__debug__":ar))=a7:=by decide):
  PS X (.Try W [.ExceptHandler (U (.Name x G)) (U n) (R::N) L] [] [] P) (λD σ H=>F (hX X.K B i T D) D σ H):=by
 intro c s σ H D I h;refine bp (lp (wpAny_tryStmt_except ?_));let t:aY->bt->Prop:=λe A=>wpAny X.md X.A (noteFrame e X.env) (λ_ s2=>wpAny X.md X.A (setFlight e aJ) (λ_ s3=>wpAny X.md X.A (handleBy e X.env [.ExceptHandler (U (.Name x G)) (U n) (R::N) L]) (SP X c D) X.xe s3) X.xe s2) X.xe A;have px':rQ {X with pn:=X.pn++c,xe:=t} (hX X.K B i T D):=by
  intro Kj l H1 A e s' I' cx;have st:X.A.frames=U (X.env::X.outer):=by exact y.1▸I.ok.frames
  have f1:A.heap.FunFrames X.base (X.env::X.outer):=by exact y.1▸I'.stack
  have f2:∀b∈c9 (X.env::X.outer),H1 b=aJ:=by exact y.1▸I'.BC
  refine QN st f1 f2 y.2 (by rwa[←y.1]) λs3 c3=>?_;rw[←y.1] at c3;obtain⟨a,C,d,o,vs,rfl,lo,J,ea,xr,fl,C',d',ec,ed,XC,mt,q⟩:=I'.Sb c3;cases ec;cases ed;have J2:=J.y6 I.ok;refine wpAny_handleBy_cons (codeAny_handlers_test (wx (J2.hand a) hg hm (Zc4 J2.cO XB XC xr mt (codeAny_handlers_suite_as (ZfG xr fl (Bo (v:=.ref a) J2 hN hi (.inl hl) rfl (λs4 J4=>dk (hh a c s4 _ _ _ ((J4.hand a).k_ _) (q a ea)) (λf s5 z=>?_) λ _ _=>False.elim) (.inr hl))))) gv)) (by intro z;cases z);have fin:∀{p:St} {r:Hp},Inv (X.hand a).oX c p r s5->∀Q:Unit->bt->Prop,(∀w,Inv X c (p.set i aJ) r w->Q () w)->wpAny X.md X.A (do bindName X.env n .none;unbindBehindTheSuite X.env n L) Q X.xe s5:=by
   intro p r j Q k;have g:=Inv.Zg_ I.ok j;obtain⟨m,hn,lk⟩:=g.loc;refine wpAny_nameGoes_keeps (hl) hn (by rw[I.ok.kind];rfl) λh' v n2 sb=>k _ (g.gone hN hi hn lk n2 sb)
  cases f with
  |next=>
   obtain⟨p,r,j,z⟩:=z;exact fin j _ λw g=>⟨_,_,g,z⟩
  |brk=>
   obtain⟨p,r,j,z⟩:=z;exact fin j _ λw g=>⟨_,_,g,z⟩
  |cont=>
   obtain⟨p,r,j,z⟩:=z;exact fin j _ λw g=>⟨_,_,g,z⟩
  |ret u=>
   obtain⟨v,p,r,j,rv,z⟩:=z;exact fin j _ λw g=>⟨_,_,_,g,rv,z⟩
 refine dk (hb _ t _ px' (PassesOwn.looking) [] s σ H D I.Zha h) (λf A z=>?_) λ_ _ z=>z;cases f with
 |next=>
  obtain⟨l,o,J,q⟩:=z;exact cD ⟨l,o,J.y6 I.ok,q⟩
 |brk=>
  obtain⟨l,o,J,q⟩:=z;exact⟨l,o,J.y6 I.ok,q⟩
 |cont=>
  obtain⟨l,o,J,q⟩:=z;exact⟨l,o,J.y6 I.ok,q⟩
 |ret u=>
  obtain⟨v,l,o,J,rv,q⟩:=z;exact⟨v,l,o,J.y6 I.ok,rv,q⟩
end
def ZjA(K:ah)(e:TE):TE:=λd H Q=>e d H λx c=>(∃y:ar,x=.str y/\y.length<=sizeLine/\Q (.str y) c)\/(∃i:Int,x=.int i/\i.natAbs.log2<1920/\Q (.str (toString i)) c)\/
 ∃(a:O) (b:Z Int),x=.ref a/\aB K c a (b.map V.int)/\(∀n∈b,n.natAbs.log2<1920)/\(PyData.tuple (b.map PyData.int)).shown.length<=sizeLine/\Q (.str (PyData.tuple (b.map PyData.int)).shown) c
theorem Zb1{b:Z Int}:∀{a:Z aY},Vals (b.map V.int) a->∃as,ReadsAll h a (b.map PyData.int) as:=by
 induction b with
 |nil=>intro a r;cases r;exact⟨[],.nil⟩
 |cons n r e=>
  intro a q;cases q with
  |cons d c=>
   obtain⟨t,rfl⟩:=d;obtain⟨as,z⟩:=e c;exact⟨_,.cons (.int n t) z⟩
theorem Zc5{a:Z Int}(h:∀n∈a,n.natAbs.log2<1920):PyData.showableAll (a.map PyData.int)=af:=by
 induction a with
 |nil=>rfl
 |cons n r b=>
  show(decide (n.natAbs.log2<1920)&&PyData.showableAll (r.map PyData.int))=af
  simp_all
theorem Zbb(a:Z Int):PyData.hasDictAll (a.map PyData.int)=a7:=by
 induction a with
 |nil=>rfl
 |cons n r b=>exact b
theorem Zb2(a:Z Int):PyData.depthAll (a.map PyData.int)=0:=by
 induction a with
 |nil=>rfl
 |cons n r b=>
  show max (PyData.int n).depth (PyData.depthAll (r.map PyData.int))=0;rw[b];rfl
def JN(m:c5 j X.A)(J:PE X e w):PE X (.FormattedValue e (-1) aJ pos) (ZjA X.K w):=by
 intro b s p H Q I h;refine wpAny_FormattedValue_plain (az (J b s p H _ I h) λu N v=>?_);obtain⟨x,d,c,f,q⟩:=v;rcases q with⟨y,rfl,D,q⟩|⟨i,rfl,E,q⟩|⟨a,k,rfl,G,A,sz,q⟩
 ·obtain⟨t,rfl⟩:=f;exact wpAny_formatField_str ⟨.str y,d,c,⟨t,rfl⟩,q⟩ ⟨.str y,d,c.tok _,⟨_,rfl⟩,q⟩ D
 ·obtain⟨t,rfl⟩:=f;exact wpAny_formatField_int E ⟨.str (toString i),d,c.tok _,⟨_,rfl⟩,q⟩
 ·obtain rfl:u=Value.ref a:=f;obtain⟨ai,r,⟨o,g,C,n,B⟩,R⟩:=c.tuple G;obtain⟨W,P⟩:=Zb1 r;refine formatField_of_reads (.tuple g C B (by rwa[List.toList_toArray])) (Zc5 A) (λz=>?_) m.gd ?_ (λ_ _ z=>z) (λT u L F=>⟨.str (PyData.tuple (k.map PyData.int)).shown,d,c.kept F,⟨u,rfl⟩,q⟩) sz
  ·have l:PyData.hasDictAll (k.map PyData.int)=af:=z;rw[Zbb] at l;cases l
  ·show X.A.units+(PyData.depthAll (k.map PyData.int)+1+2)<cLine;rw[Zb2];have:=m.un;omega
def ZfH(c:PE X e te):PE X (.JoinedStr [e] pos) te:=λa s b H Q I h=>wpAny_JoinedStr_one (c a s b H Q I h)
abbrev TJ:=ar->St->Hp->(ar->Hp->Prop)->Prop
def PJ(X:Cx)(e:Z cu)(t:TJ):Prop:=
 ∀(a:a8) (s:bt) (b:St) (H:Hp) (acc:ar) (R:ar->Hp->Prop) (Q:ar->bt->Prop),Inv X a b H s->t acc b H R->(∀y c d,Inv X a b d c->R y d->Q y c)->PySem.Joins X.md X.A X.xe (evalEach e X.env) acc Q s
def ZjB:TJ:=λacc _ H R=>R acc H
def ZiB(c:TE)(b:TJ):TJ:=λacc a H R=>c a H λx d=>∃y,x=.str y/\(acc++y).length<=sizeLine/\b (acc++y) a d R
def ZiC(t:TJ):TE:=λa H Q=>t Str.empty a H λy b=>y.length<=sizeLine/\Q (.str y) b
def Zhc:PJ X [] ZjB:=λ_ s _ H acc _ _ I h k=>k acc s H I h
def IK(m:PE X e f)(j:PJ X o t):PJ X (e::o) (ZiB f t):=by
 intro a s b H acc R Q I h k;refine az (m a s b H _ I h) λu g c=>?_;obtain⟨x,r,p,i,y,n,l,q⟩:=c;subst n;obtain⟨d,rfl⟩:=i;exact⟨y,d,rfl,l,j a g b r (acc++y) R Q p q k⟩
def ZfI(h:PJ X (e::f::d) t):PE X (.JoinedStr (e::f::d) pos) (ZiC t):=by
 intro a s b H Q I c;refine wpAny_JoinedStr (h a s b H Str.empty _ _ I c λy j i g ⟨l,q⟩=>⟨l,.str y,i,g.tok _,⟨_,rfl⟩,q⟩)
end L2
namespace L2
open PySem PySem.Spec PyProof.Rows
structure Bl(mg:aU):Prop where
 Cu:mg "len"=aJ
 ZiD:mg "abs"=aJ
 wL:mg "list"=aJ
 kB:mg "range"=aJ
 oE:mg "tuple"=aJ
 ZiE:mg "any"=aJ
 Tu:mg "all"=aJ
 NL:mg "isinstance"=aJ
 Cb:mg "bool"=aJ
 Tv:mg "int"=aJ
 zf:mg "str"=aJ
 Br:mg "sorted"=aJ
 ZiF:mg "min"=aJ
 ZiG:mg "max"=aJ
 Zly:mg "sum"=aJ
 Zhd:mg "dict"=aJ
 Zlg:mg "reversed"=aJ
 ZaG:mg "ValueError"=aJ
def ZjC{K:ah}(a:X.calm=af)(h:X.K=K):dA X (.builtin "any") (Uy K):=h▸Z1 a
def UD{K:ah}(a:X.calm=af)(h:X.K=K):dA X (.builtin "all") (Uz K):=h▸Z2 a
def sortedK{K:ah}(h:X.K=K):dA X (.builtin "sorted") (IJ K):=h▸NQ
def mZ{K:ah}(h:X.K=K):cS X (compareOp .In) (zV K a7):=h▸ZcV
def Cc{K:ah}(h:X.K=K):cS X (compareOp .NotIn) (zV K af):=h▸ZaD
def QQ{K:ah}(h:X.K=K):jE X (LJ K):=h▸ZgW
structure zy(K:ah)(x qual:ar)(st:cj)(f:O)(fd:FuncData):Prop where
 ex:∃(oc:aY) (od:bq O) (dV kV doc pm:aY) (an:bq O) (bO ct:aY) (jD:cW (bq aY)),
  fd=fnOf x qual (mC st) (jq st) (aO st) dV kV doc pm an bO ct/\K.lookup f=U ⟨oc,od,.func fd,jD⟩/\codeIn K bO qual=af
 kp:keepIn K (.ref f)=af
section
variable {P:cZ}{w:cN}{K:ah}{W:aU}{X:cI}
def zy.ok{x c:ar}{e:cj}{f:O}{l:FuncData}{N i:Z ar}{k:Nat}{sp:Sp}(F:zy K x c e f l)(a:aT N i (aO e))(j:∀d H Q E,sp d H Q E->d.length=i.length)
  (m:∀(g:aY) (A:eL) (b:Z Env) (s:bt) (H:Hp) (d:Z V) (Q:VK) (E:XK),c5 k (A.deeper (envOfC c (aO e) s.heap.objs.size f g))->sp d H Q E->
   ∃t,fX (lq aP P w K W X N c (aO e) f g A b s H E).oX (jq e) t/\t {nx:=λ_ v=>Q .ay v,rt:=Q} (start N d) H):aI P w K W X aP (k+1) f l i sp:=by
 obtain⟨B,z,D,kV,u,y,I,g,G,C,rfl,o,r⟩:=F.ex;refine Kn o r a j λA b s H d Q E p n=>?_;obtain⟨t,h,q⟩:=m g A b s H d Q E p n;exact⟨t,h.oX,q⟩
end
def Sh{K:ah}:kitOne K (.type "int") (.type "int")=U af:=by kernel_rfl
def JO{K:ah}:kitOne K (.type "int") (.type "bool")=U a7:=by kernel_rfl
def Si{K:ah}:kitOne K (.type "bool") (.type "bool")=U af:=by kernel_rfl
def Zhe{K:ah}:kitOne K (.type "str") (.type "bool")=U a7:=by kernel_rfl
def Zhf{K:ah}:kitOne K (.type "str") (.type "int")=U a7:=by kernel_rfl
def Sj{K:ah}:kitOne K (.type "str") (.type "str")=U af:=by kernel_rfl
def Zhg{K:ah}:kitOne K (.type "list") (.type "bool")=U a7:=by kernel_rfl
def Zhh{K:ah}:kitOne K (.type "list") (.type "int")=U a7:=by kernel_rfl
def Zhi{K:ah}:kitOne K (.type "list") (.type "str")=U a7:=by kernel_rfl
def Zhj{K:ah}:kitOne K (.type "list") (.type "list")=U af:=by kernel_rfl
def Zhk{K:ah}:kitOne K (.type "list") (.type "tuple")=U a7:=by kernel_rfl
def Zhl{K:ah}:kitOne K (.type "tuple") (.type "bool")=U a7:=by kernel_rfl
def Zhm{K:ah}:kitOne K (.type "tuple") (.type "int")=U a7:=by kernel_rfl
def Zhn{K:ah}:kitOne K (.type "tuple") (.type "str")=U a7:=by kernel_rfl
def Zho{K:ah}:kitOne K (.type "tuple") (.type "list")=U a7:=by kernel_rfl
def Zhp{K:ah}:kitOne K (.type "tuple") (.type "tuple")=U af:=by kernel_rfl
def Hz(a:Z Int)(o:bq Int):(a++o.toList).map V.int=a.map V.int++o.toList.map V.int:=by simp
inductive Dt where
 |ay|bl (b:cm)|int (i:Int)|str (x:ar)|lst (a:List Dt)|tup (a:List Dt)
def At(H:Hp):Nat->V->Dt->Prop
 |_,v,.ay=>v=.ay
 |_,v,.bl b=>v=.bl b
 |_,v,.int i=>v=.int i
 |_,v,.str x=>v=.str x
 |0,_,.lst _=>False
 |0,_,.tup _=>False
 |m+1,v,.lst ds=>∃a c,v=.ref a/\H a=U (.lst c)/\ds.length<=1000/\Paired (At H m) c ds
 |m+1,v,.tup ds=>∃a c,v=.ref a/\H a=U (.tup c)/\ds.length<=1000/\Paired (At H m) c ds
theorem At.same(g:aj H j):∀{m:Nat} {v:V} {d:Dt},At H m v d->At j m v d
 |_,_,.ay,h=>by unfold At at h⊢;exact h
 |_,_,.bl _,h=>by unfold At at h⊢;exact h
 |_,_,.int _,h=>by unfold At at h⊢;exact h
 |_,_,.str _,h=>by unfold At at h⊢;exact h
 |0,_,.lst _,h=>by unfold At at h;exact h.elim
 |0,_,.tup _,h=>by unfold At at h;exact h.elim
 |m+1,_,.lst _,h=>by
  obtain⟨a,b,e,i,f,c⟩:=h;exact⟨a,b,e,g _ _ i,f,L2.Paired.bL c λ _ _=>At.same g⟩
 |m+1,_,.tup _,h=>by
  obtain⟨a,b,e,i,f,c⟩:=h;exact⟨a,b,e,g _ _ i,f,L2.Paired.bL c λ _ _=>At.same g⟩
section
variable {H:Hp}{m:Nat}
def mG(i:Int):At H m (.int i) (.int i):=by unfold At;rfl
def JP(x:ar):At H m (.str x) (.str x):=by unfold At;rfl
def Zhq(h:H a=U (.tup xs))(l:ds.length<=1000)(p:Paired (At H m) xs ds):At H (m+1) (.ref a) (.tup ds):=by unfold At;exact⟨a,xs,rfl,h,l,p⟩
def Zhr(h:H a=U (.lst xs))(l:ds.length<=1000)(p:Paired (At H m) xs ds):At H (m+1) (.ref a) (.lst ds):=by unfold At;exact⟨a,xs,rfl,h,l,p⟩
theorem QR:∀a:Z Int,Paired (At H m) (a.map V.int) (a.map Dt.int)
 |[]=>.nil
 |n::r=>.cons (mG n) (QR r)
end
theorem fK:∀{b:Z α} {a:Z β} {i:Nat} {x:α},Paired F b a->b[i]?=U x->∃y,a[i]?=U y/\F x y:=by
 intro b a i x h;induction h generalizing i with
 |nil=>intro e;simp at e
 |cons r t c=>
  intro e;cases i with
  |zero=>
   have e:=Ym (by simpa using e);subst e;exact⟨_,rfl,r⟩
  |succ i=>
   obtain⟨y,f,d⟩:=c (by simpa using e);exact⟨y,by simpa using f,d⟩
theorem c7:∀{b:Z α} {a:Z β},Paired F b a->b.length=a.length:=by
 intro b a h;induction h with
 |nil=>rfl
 |cons _ _ c=>rw[Wg,Wg,c]
def PD{i:Nat}(h:xs[i]?=U x):d_ xs (0+(i:Int))=U x:=by
 rw[show(0:Int)+(i:Int)=(i:Int) from by omega];exact iG h
def XP(H:Hp)(C:O)(c:ar)(E:XK):Prop:=∀(a d:O) (b:Hp),H a=aJ->H d=aJ->aj H b->b a=U (xo a C (U d))->b d=U (xq d [("word",.str c)])->E (.ref C) (U d) b
def xf.of{K:ah}(x:d5 K C)(a:PySem.W.findIn K (.ref C) "__init__"=U (U (.ref f)))(m:isFn K (.ref f)=af)(e:keepIn K (.ref C)=af):xf K C f:=by
 obtain⟨d,q,N,bs,s,c,sub,p,b,o,k,j,i,h,g,l⟩:=id x.nO;have no:∀n:String,qr.contains (.type n)=a7->PySem.W.mroIn K C (.type n)=U a7:=λn r=>by
  unfold PySem.W.mroIn PySem.W.clsIn
  simp_all
 exact⟨⟨d,q,N,bs,_,c,sub,p,b,o,k,j,i,h,g,l⟩,x.mro _ (by decide),x.mro _ (by decide),no _ (by decide),no _ (by decide),a,m,e⟩
def Zd8{K:ah}(C:O):kitOne K (.ref C) (.ref C)=U af:=by unfold kitOne;rw[bS (beq_self_eq_true _)]
def ZfJ:Z V->Hp->VK->Prop:=λa H Q=>∃(p:O) (n:Nat),a=[.ref p]/\H p=U (.jA 0 (n:Int))/\n<=1000/\∀l:O,H l=aJ->Q (.ref l) (upd H l (.tup ((bH n).map V.int)))
section
variable {X:cZ}{w:cN}{A:eL}{E:bo}{s:bt}
theorem Zbc{Q:Z aY->bt->Prop}{r:O}{n:Nat}{t u v:Tok}(B:A.handled=aJ)(j:IsRange s.heap r 0 (n:Int) 1 t u v)(y:n<=1000)
  (k:∀d g (acc:cW aY),(∀b o,s.heap.get? b=U o->d.get? b=U o)->ItemsOf (λi v=>∃t,v=.int (0+i*1) t) acc n->Q acc.toList {s with heap:=d,toks:=g}):
  wpAny (model X w) A (collect (.ref r)) Q E s:=by
 refine nS (wpAny_runValue (zt PySem.F.entry_proto_collect (nS (wpAny_newObj_type (oV ⟨plainId_quiet PySem.F.plain_list_iadd _,zt PySem.F.entry_list_iadd ?_⟩)))));have m:∀s':bt,(∃(d:cI) (g:Nat) (acc:cW aY) (c:Nat),s'={s with heap:=d,toks:=g}/\(∀b o,b≠s.heap.objs.size->(s.heap.push {cls:=.type "list",data:=.seq ([]:Z aY).toArray}).get? b=U o->d.get? b=U o)/\
   d.get? s.heap.objs.size=U {cls:=.type "list",dict:=aJ,data:=.seq acc c,slots:=#[]}/\ItemsOf (λi v=>∃t,v=.int (0+i*1) t) acc n)->
   wpAny (model X w) A (match Value.ref s.heap.objs.size with
    |Value.ref a=>do
     match(←load a).data with
      |Data.seq xs _=>pure xs.toList
      |_=>unsupported "internal:collect"
    |_=>unsupported "internal:collect") Q E s':=by
  rintro s' ⟨d,g,acc,c,rfl,h,here,l⟩;exact nS (wpAny_load here (oV (k d g acc (λb o p=>h b o (Yy (Yr p)) (Yb _ p)) l)))
 refine wpAny_mono (wpAny_extend_range (s:={s with heap:=s.heap.push {cls:=.type "list",data:=.seq ([]:Z aY).toArray}})
  (R:=λr s'=>r=.ok (.ret (.ref s.heap.objs.size))/\∃(d:cI) (g:Nat) (acc:cW aY) (c:Nat),s'={s with heap:=d,toks:=g}/\(∀b o,b≠s.heap.objs.size->(s.heap.push {cls:=.type "list",data:=.seq ([]:Z aY).toArray}).get? b=U o->d.get? b=U o)/\
   d.get? s.heap.objs.size=U {cls:=.type "list",dict:=aJ,data:=.seq acc c,slots:=#[]}/\ItemsOf (λi v=>∃t,v=.int (0+i*1) t) acc n)
  B (Yb _ j) (small_one (by decide) (by decide) (by omega) (by omega)) (by rw[rangeSize_one];split<;>omega) (dI y (by decide)) _ _ 0 (Yp _ rfl) λd g acc c h here l=>⟨rfl,d,g,acc,c,rfl,h,here,l⟩) (λfin s' z=>?_) λe s' z=>?_
 ·cases fin with
  |done f=>obtain⟨q,x⟩:=z;cases q;exact m _ x
  |again C=>exact⟨z.1,codeAny_mono z.2 λr q j=>by obtain⟨rfl,x⟩:=j;exact m q x⟩
 ·cases z.1
def ZfK(r:O)(n:Nat)(t u v:Tok)(y:n<=1000):
  Meets (Builtin.«tuple.__new__» ⟨[.type "tuple",.ref r],[]⟩) (λA R s=>A.handled=aJ/\IsRange s.heap r 0 (n:Int) 1 t u v/\∀(a:cI) (f:Nat) (acc:cW aY),(∀b o,s.heap.get? b=U o->a.get? b=U o)->ItemsOf (λi v=>∃t,v=.int (0+i*1) t) acc n->
   R (.ok (.ret (.ref a.objs.size))) {s with heap:=a.push {cls:=.type "tuple",data:=.seq acc},toks:=f}):=
 .of_wp λX w A R s h=>by
  obtain⟨C,g,d,f,os⟩:=s;obtain⟨z,j,q⟩:=h;have sub:=sub_tuple_self;have x:=init_tuple_lookup;have B:=madeHere_tuple;have c:A.in1.handled=aJ:=z
  wp_walk using PySem.AutoSeq1.wpAny_loadPart' j,wpAny_typeOf ty,Zbc (A:=A.in1) c j y
  intro a l acc p k;show wpAny _ _ (Builtin.Tuple.tupleExact acc.toList.toArray>>=λv=>ret v) _ _ _;unfold Builtin.Tuple.tupleExact;have m:acc.toList.toArray.size<=sizeLine:=by
   have e:=k.1;rw[c4];simp;exact d6 (kS e) (d6 y (by decide))
  refine bp (mR (cD ⟨_,rfl,?_⟩) m);have e:acc.toList.toArray=acc:=by simp
  exact e▸q a l acc p k
end
def NC(D:X.calm=af):dA X (.type "tuple") ZfJ:=by
 intro a s l H J L Q I r h;obtain⟨p,n,rfl,A,g,q⟩:=h;obtain⟨u,rfl,y⟩:=vals1 r;cases y;obtain⟨t,u,v,B⟩:=I.aw p _ A;refine callType_new PySem.F.called_tuple (by decide) (PySem.F.typeCall_tuple_1 _) (PySem.F.newCall_tuple_1 _) (λd=>PySem.F.args_object_init_2 d _) PySem.F.entry_tuple_new (ZfK p n t u v g) ⟨I.ok.hd D,B,λc f acc z j=>⟨⟨_,Yp _ rfl,rfl⟩,?_⟩⟩;have k:=I.kept (t':=f) z;have m:Vals ((bH n).map V.int) acc.toList:=by
  refine Gg (by rw[Ya,fS];simp[j.1]) λi x u e F=>?_;obtain⟨w,rfl⟩:=j.2 i u (by simpa using F);have C:i<n:=by
   have:=(Yl.mp e).1;rw[Ya,fS] at this;exact this
  rw[Yf,ny C] at e;have E:=Ym e;subst E;exact⟨w,by rw[show(0:Int)+(i:Int)*1=(i:Int) by omega]⟩
 have G:Inv X a l (upd H c.objs.size (.tup ((bH n).map V.int))) {s with heap:=c.push {cls:=.type "tuple",data:=.seq acc},toks:=f}:=
  k.laid (λ b o=>Yb _) (Yd _) (show cH X.prog X.w _ _ _ (.tup _) from⟨by rw[Ya,fS];exact Js (kR g),acc.toList,m,by simpa using mE.new c acc⟩)
 exact⟨.ref c.objs.size,_,G,rfl,q _ (k.aw.fresh (Yd _))⟩
inductive QS(K:ah)(c:Z V)(H:Hp)(Q:VK):Prop
 |mk (a C:O) (b y:ar) (k:c=[.ref a,.str b,.str y]) (j:H a=U (xn a C aJ)) (h:d5 K C) (i:dG K C "word") (g:b.length<=100) (f:y.length<=1000000) (e:∀d,H d=aJ->d≠a->Q .ay (upd (upd H d (xq d [("word",.str b)])) a (xn a C (U d)))):QS K c H Q
def Tw(K:ah):Sp:=λa H Q _=>QS K a H Q
def Tx(b:ar)(c:O):Sp:=λe H Q _=>∃(a:O) (y:ar),e=[.ref a,.str y]/\H a=U (xn a c aJ)/\y.length<=1000000/\
 ∀d,H d=aJ->d≠a->Q .ay (upd (upd H d (xq d [("word",.str b)])) a (xn a c (U d)))
abbrev xH:Z ar:=["self","why"]
def JQ(P:cZ)(w:cN)(K:ah)(b:aU)(a:cI)(x f:ar)(c:O):Prop:=
 ∃d e,xf K c d/\aI P w K b a aP 2 d e xH (Tx f c)/\Binds K e xH []/\b x=U (.ref c)/\d5 K c/\dG K c "word"
def tW(c:TE)(R:St->Hp->VK):TE:=λa H Q=>c a H (R a H)/\∀v b,R a H v b->Q v b
def PE.weak(h:PE X e d)(R:St->Hp->VK):PE X e (tW d R):=λa s b H Q I ⟨q,k⟩=>az (h a s b H (R b H) I q) λ_ _ ⟨v,c,f,r,z⟩=>⟨v,c,f,r,k v c z⟩
def ZfL(c:O)(b:ar)(E:St->XK)(d:TE):TS:=λ_ a H=>d a H λv e=>∃y:ar,v=.str y/\y.length<=1000000/\XP e c b (E a)
def Zc6{X:Cx}{j:Nat}{x i:ar}{c:O}{E:St->XK}{e:cu}{t:TE}{p k T:Pos}(h:JQ X.prog X.w X.K X.mg X.base x i c)(J:c5 j X.A)(L:3<=j)(Q:X.calm=af)(N:Gl X x)(G:rQ X E)(P:PE X e t)
  (R:(x==("__debug__":ar))=a7:=by decide)(w:starEach [e] X.env=[(a7,eval e X.env)]:=by rfl):
  PS X (.Raise (U (.Call (.Name x p) [e] [] T)) aJ k) (ZfL c i E t):=by
 obtain⟨fi,fd,B,F,b,m,W,na⟩:=h;intro f s g H D I q;refine Zd7 B F (J.mono L) Q N m b .nil G (aa (P.weak λg _ v r=>∃y:ar,v=.str y/\y.length<=1000000/\XP r c i (E g)) ag w) R w rfl f s g H D I ⟨q,?_⟩;rintro v r ⟨y,rfl,C,A⟩;refine⟨by show 1<=1000;decide,λa u=>⟨a,y,rfl,aQ,C,λd hd l=>⟨rfl,d,aQ,?_⟩⟩⟩;have z:r d=aJ:=by rw[aA l] at hd;exact hd
 refine A a d _ u z (λb o e=>?_) aQ ?_
 ·have n:=cA e u;rwa[aA n,aA n,aA (cA e z),aA n]
 ·rw[aA l,aA l,aQ]
def Zd9{K:ah}(h:X.K=K):dA X (.builtin "isinstance") (Tr K):=h▸ZaF
def Zd_{X:Cx}{K:ah}{e:cu}{b:TE}{f:ar}{a:Pos}(h:X.K=K)(c:PE X e b)(d:attributeBase e f X.env (eval e X.env)=eval e X.env:=by rfl):PE X (.Attribute e f a) (Tq K b f):=h▸ZfD c d
end L2
namespace L2
open PySem PySem.Spec PyProof.Rows
open PySem.W (Looks InstAt looks_findIn looks_typeIn looks_clsIn looks_mroIn looks_find findObj findIn mroIn clsIn)
def Zhs{X:Cx}{k j:Nat}{m:ar}{C:O}{n:Z ar}{l:Sp}{E:St->XK}{a d:Pos}{o e:cu}{es:Z cu}{t:TA}{i:TE}{q:Sem cm}(h:∃f g,hU X.K C/\Meth X.K C m f/\aI X.prog X.w X.K X.mg X.base (fY X.prog X.w) k f g n l/\Binds X.K g n [])(u:c5 j X.A)(x:k<=j)(r:rQ X E)(v:PE X o i)(y:PA X (e::es) t)
  (z:jB X e es:=by rfl)(A:j9 X a es:=by rfl)
  (s:eval (.Call (.Attribute o m d) (e::es) [] a) X.env=(do
   let p←eval o X.env
   standAt d.atName
   let(f,first)←holding [p] (getMethod p m q)
   callWith a f first (backTo a (starEach (e::es) X.env)) (backToKw a (keywordEach [] X.env))):=by rfl):
  PE X (.Call (.Attribute o m d) (e::es) [] a) (Se C m l E i t):=by
 obtain⟨f,g,c,w,F,b⟩:=h;exact ZdZ v c w F (u.mono x) b r y z A s
end L2
namespace DD
open L2
def GQ(n:Nat):(bH n).Nodup:=by
 exact List.Pairwise.map _ (λa b h e=>h (l9 e)) Pw
end DD
namespace L2
open PySem PySem.Spec PyProof.Rows
def Row(K:ah)(H:Hp)(p:O)(a:Z Int):Prop:=ak K H p (a.map V.int)\/aB K H p (a.map V.int)
def Row.same{K:ah}(e:aj H a)(h:Row K H p ns):Row K a p ns:=by
 rcases h with h|h;·exact .inl (e.seq h)
 ·exact .inr (e.kh h)
def full(a:Z Int):cm:=decide (a.Perm (bH a.length))
def rf(h:full ns=af):ns.Perm (bH ns.length):=eK h
def tQ(h:ns.Perm (bH n)):full ns=af:=dg (by rwa[h.length_eq,fS])
def Zbd(n:Nat):(bH n).Pairwise (·<=·):=by
 unfold bH;rw[Wl];exact List.pairwise_lt_range.imp λh=>by omega
theorem Oc:∀{c bs:Z Int},c.Perm bs->c.Pairwise (·<=·)->bs.Pairwise (·<=·)->c=bs
 |[],bs,p,_,_=>by
  simp_all
 |a::c,[],p,_,_=>by
  simp_all
 |a::c,b::bs,p,f,d=>by
  rw[List.pairwise_cons] at f d;have e:a=b:=by
   have h:=p.subset Yk;have g:=p.symm.subset Yk
   grind
  subst e;rw[Oc (List.Perm.cons_inv p) f.2 d.2]
def Zbe(p:a.Perm ns)(h:a.Pairwise (·<=·)):decide (a=bH ns.length)=full ns:=by
 unfold full;rw[We,eJ,eJ];constructor;·grind
 ·intro q;exact Oc (p.trans q) h (Zbd _)
def Tz(K:ah)(a:cm)(b:TE):TE:=jC (K4 K a) (nW (IJ K) (iJ b jX)) (nW Pu (iJ (nW QL (iJ (nW (zx K) (iJ b jX)) jX)) jX))
def Zea{K:ah}(c:σ[i]?=U (U (.ref p)))(d:Row K H p ns)(k:ns.length<64)(q:∀g,aj H g->Q (.bl (if neg=af then !full ns else full ns)) g):
   (Tz K neg (gn i)) σ H Q:=by
 refine⟨_,c,p,ns,rfl,d,k,λl f m j h=>?_⟩;have e:aj H (upd H l (.lst (f.map V.int))):=cK m _;refine⟨_,c,p,ns.map V.int,rfl,Row.same e d,_,rfl,λr a=>⟨r,(ns.map V.int).length,rfl,aQ,by rw[Ya];exact m6 (hT k (by decide)),λu b=>?_⟩⟩;have n:=(e.trans (cK a (.jA 0 (((ns.map V.int).length:Nat):Int)))).trans (cK b (.lst ((bH (ns.map V.int).length).map V.int)));refine⟨l,u,f,bH (ns.map V.int).length,rfl,rfl,ak.of ?_,ak.of aQ,?_⟩
 ·rw[aA (cA ((cK a _) _ _ aQ) b)];exact(cK a _) _ _ aQ
 ·rw[Ya,Zbe j h]
  simp_all
theorem any_false(n:Nat):(List.replicate n a7).any id=a7:=by
 induction n with
 |zero=>rfl
 |succ n a=>simp_all
section
open PySem.AutoSeq1 (wpAny_loadPart')
open PySem.MeetsSeq PySem.SeqAt
def Zag(l:O)(a:cW aY)(n:Nat)(J:bq O)(C:cW (bq aY))(x:aY)(e:aY->cm)(j:Nat)(F:j<a.size)
  (p:e a[j]=af)(v:∀m (L:m<a.size),m<j->e a[m]=a7):
  Meets (Builtin.«tuple.index» ⟨[.ref l,x],[]⟩)
   (λA R s=>s.heap.get? l=U {cls:=.type "tuple",dict:=J,data:=.seq a n,slots:=C}/\(∀y,y∈a->EqAt A.in1 s y x (e y))/\R (.ok (.ret (.int j s.toks))) {s with toks:=s.toks+1}):=
 .of_wp λf w A R s h=>by
  obtain⟨D,g,d,B,os⟩:=s;obtain⟨E,G,h⟩:=h
  wp_walk using wpAny_loadPart' E
  show wpAny _ _ (forIn (m:=Sem) [:min a.size a.size] (aJ,()) _) _ _ _;rw[Std.Legacy.Range.forIn_eq_forIn_range'];refine wpAny_forIn_list _ (λc b r=>r=⟨D,g,d,B,os⟩/\∃i,i<=j/\c=List.range' i (a.size-i)) _ ?_ ?_ _ _ ⟨rfl,0,Yx _,by simp⟩
  ·rintro k c b r ⟨rfl,i,u,t⟩;have q:i<a.size:=lJ u F
   obtain⟨rfl,z⟩:k=i/\c=List.range' (i+1) (a.size-(i+1)):=by
    have e:a.size-i=(a.size-(i+1))+1:=by omega
    rw[e,List.range'_succ] at t;injection t with I H;exact⟨I,H⟩
   rw[W5 q];refine nS (G _ (WG q) f w _ _ ?_);rcases Nat.lt_or_ge k j with o|o
   ·rw[v k q o]
    wp_walk
    exact⟨rfl,k+1,mz o,z⟩
   ·obtain rfl:k=j:=i1 u o
    rw[p]
    wp_walk
    exact⟨_,rfl,h⟩
  ·(simp;omega)
end
def Zht(f:TE)(t:TA):TE:=λb H Q=>f b H λx d=>∃(p:O) (a:Z Int),x=.ref p/\d p=U (.tup (a.map V.int))/\t b d λe c=>∃(z:Int) (j:Nat),e=[.int z]/\c p=U (.tup (a.map V.int))/\a[j]?=U z/\(∀m,m<j->a[m]?≠U z)/\Q (.int (j:Int)) c
theorem Zah:∀{b:Z Int} {a:Z aY} {j:Nat} (h:j<a.length),Vals (b.map V.int) a->∃n t,b[j]?=U n/\a[j]=.int n t:=by
 intro b;induction b with
 |nil=>intro a j h r;cases r;simp at h
 |cons n b e=>
  intro a j h r;rw[Wq] at r;cases r with
  |cons r t=>
   cases j with
   |zero=>
    obtain⟨c,rfl⟩:=r;exact⟨n,c,rfl,rfl⟩
   |succ j=>
    obtain⟨d,c,g,f⟩:=e (by simpa using h) t;exact⟨d,c,by simpa using g,by simpa using f⟩
theorem Zc7(a:Z Int):(a.map V.int).all jS=af:=by
 induction a with
 |nil=>rfl
 |cons n a b=>rw[Wq,Jm,b];rfl
def NR(ho:PE X o to)(ha:PA X [e] t)
  (qg:attributeBase o "index" X.env (eval o X.env)=eval o X.env:=by rfl)
  (KY:((backTo k (starEach [e] X.env)).all (λx=>!x.1)&&(backToKw k (keywordEach [] X.env)).all (λx=>x.1.isSome)
   &&decide ([e].length+([]:Z Keyword).length+(if([]:Z Keyword).isEmpty then 0 else 1)<30))=af:=by rfl)
  (qh:(apos.endLine==k.line)=af:=by rfl)(hs:starEach [e] X.env=(a7,eval e X.env)::starEach [] X.env:=by rfl):
  PE X (.Call (.Attribute o "index" apos) [e] [] k) (Zht to t):=by
 intro b s q H Q I h;refine AM qg KY qh rfl (az (ho b s q H _ I h) λv w l=>?_);obtain⟨x,T,R,r1,p,f,ex,hp,q1⟩:=l;subst ex;obtain rfl:v=Value.ref p:=r1;obtain⟨_,_,_,A,g,oc,_,_,od⟩:=(show cH X.prog X.w T w.heap p (.tup (f.map V.int)) from R.aw p _ hp);refine⟨"tuple","tuple.index",F.plainAttrs_tuple,J5,F.type_tuple_index,⟨A,g,oc⟩,λa ea=>by cases ea;exact⟨A,g,od⟩,?_⟩;have E:=ha k b w q T _ R q1;rw[hs] at E⊢;refine l_ rfl (pz ?_);refine az E λus s2 l=>?_;obtain⟨vs,H2,P,r2,z,j,ev,dO,D,W,q2⟩:=l;subst ev;obtain⟨u,rfl,ru⟩:=r2.one;obtain⟨r,rfl⟩:=ru;obtain⟨_,d,n,⟨cls,dd,J,sl⟩,G,N,n2,L,_⟩:=(P.aw p _ dO);simp only at N L;subst N L;have c:d.length=f.length:=by have:=n.length;rw[Ya] at this;exact k8 this
 have V3:j<d.length:=by exact c▸(Yl.mp D).1
 have C:∀m (i:m<d.length),je (.int z) d[m]=decide (f[m]?=U z):=λm i=>by
  obtain⟨B,t',e1,e2⟩:=Zah i n;rw[e1,e2];show(B==z)=decide (U B=U z)
  grind
 refine ro J5 ⟨_,G,rfl⟩ F.entry_tuple_index (F.args_tuple_index_2 _ _) (Zag p d.toArray n2 dd sl (.int z r) (je (.int z)) j (by rwa[Yq]) ?_ ?_) ⟨G,?_,?_⟩;·rw[Dp,C j V3];exact dg D
 ·intro m i bM;rw[Dp,C m (by simpa using i)];exact g_ (W m bM)
 ·intro y hy;exact yL (x:=.int z) ⟨r,rfl⟩ rfl n (Zc7 f) y (by simpa using hy)
 ·exact⟨.int _,H2,P.tok _,⟨_,rfl⟩,q2⟩
section
variable {X:Type}[DecidableEq X]
def aZ(a:Z (X×V))(k:X):bq V:=(a.find? λb=>decide (b.1=k)).map (·.2)
def putK(a:Z (X×V))(k:X)(v:V):Z (X×V):=
 if(a.any λb=>decide (b.1=k))=af then a.map (λb=>if b.1=k then(b.1,v) else b) else a++[(k,v)]
def iM(a:Z (X×V))(k:X):Z (X×V):=a.filter λb=>decide (b.1≠k)
def gZ{k:X}(e:p.1=k):aZ (p::r) k=U p.2:=by simp[aZ,LW,e]
def gk{k:X}(e:¬p.1=k):aZ (p::r) k=aZ r k:=by simp[aZ,LW,e]
theorem wk(k:X):∀a:Z (X×V),(a.any λb=>decide (b.1=k))=(aZ a k).isSome
 |[]=>rfl
 |p::r=>by
  rw[Jh];by_cases e:p.1=k;·simp[gZ e,dg e,Bool.true_or,Option.isSome_some]
  ·rw[gk e,g_ e,DE];exact wk k r
theorem PF(k j:X)(y:V):∀a:Z (X×V),aZ (a.map λb=>if b.1=k then(b.1,y) else b) j=(aZ a j).map λx=>if j=k then y else x
 |[]=>rfl
 |p::r=>by
  have c:=PF k j y r;rw[Wq];by_cases h:p.1=k
  ·rw[bS h];by_cases e:p.1=j;·rw[gZ (p:=(p.1,y)) e,gZ e,UL,bS (e.symm.trans h)]
   ·rw[gk (p:=(p.1,y)) e,gk e,c]
  ·rw[bR h];by_cases e:p.1=j;·rw[gZ e,gZ e,UL,bR (λz=>h (e.trans z))]
   ·rw[gk e,gk e,c]
theorem vY(k j:X)(y:V):∀a:Z (X×V),aZ a k=aJ->aZ (a++[(k,y)]) j=if j=k then U y else aZ a j
 |[],_=>by
  by_cases e:k=j;·rw[bS e.symm];exact gZ (p:=(k,y)) e
  ·rw[bR (λz=>e z.symm)];exact gk (p:=(k,y)) e
 |p::r,b=>by
  rw[V4];have c:¬p.1=k:=λz=>by rw[gZ z] at b;cases b
  rw[gk c] at b;by_cases e:p.1=j;·rw[gZ e,gZ e,bR (λz=>c (e.trans z))]
  ·rw[gk e,gk e,(vY k j y r b)]
theorem Zeb(b:Z (X×V))(k j:X)(y:V):aZ (putK b k y) j=if j=k then U y else aZ b j:=by
 unfold putK;by_cases a:(b.any λc=>decide (c.1=k))=af
 ·rw[bS a,PF];rw[wk] at a;by_cases e:j=k
  ·obtain⟨x,d⟩:=Jj.mp a
   grind
  ·simp_all
 ·rw[bR a];refine vY k j y b ?_;rw[wk] at a;cases q:aZ b k with
  |none=>rfl
  |some x=>grind
def A1(a:Z (X×V))(k:X)(v:V):(putK a k v).length<=a.length+1:=by
 unfold putK
 (split<;>simp_all)
def mj{k:X}(v:V)(h:aZ a k=aJ):putK a k v=a++[(k,v)]:=by
 unfold putK;rw[wk,h];rfl
theorem fw.vZ(r:fw o u):o.isSome=u.isSome:=by
 cases o with
 |none=>cases u with
  |none=>rfl
  |some _=>exact(r).elim
 |some _=>cases u with
  |none=>exact(r).elim
  |some _=>rfl
theorem fw.getD(r:fw o u)(a:RelV d b):RelV (o.getD d) (u.getD b):=by
 cases o with
 |none=>cases u with
  |none=>exact a
  |some _=>exact(r).elim
 |some _=>cases u with
  |none=>exact(r).elim
  |some _=>exact r
theorem KV.val(r:KV c g)(k:X):fw (aZ c k) (valueAt g k):=by
 unfold KV at r;induction r with
 |nil=>exact hY
 |@cons p q i a h t j=>
  obtain⟨f,l⟩:=h;by_cases e:p.1=k
  ·have d:=f.symm.trans e;have b:valueAt (q::a) k=U q.2:=by simp[valueAt,LW,d]
   rwa[gZ e,b]
  ·have d:¬q.1=k:=λz=>e (f.trans z);have b:valueAt (q::a) k=valueAt a k:=by simp[valueAt,LW,d]
   rwa[gk e,b]
theorem KV.any(r:KV a c)(k:X):(a.any λb=>decide (b.1=k))=c.any λb=>decide (b.1=k):=by
 induction r with
 |nil=>rfl
 |cons h t d=>simp_all
theorem KV.K5(r:KV b c)(k:X)(e:RelV y u):
  KV (b.map λa=>if a.1=k then(a.1,y) else a) (c.map λa=>if a.1=k then(a.1,u) else a):=by
 induction r with
 |nil=>exact .nil
 |@cons p q g f h t d=>
  refine .cons ?_ d
  grind
def KV.put(r:KV a b)(k:X)(c:RelV y u):KV (putK a k y) (stored b k u):=by
 unfold putK stored;rw[r.any k];by_cases e:(b.any λd=>decide (d.1=k))=af;·rw[bS e,bS e];exact r.K5 k c
 ·rw[bR e,bR e];exact Paired.snoc r ⟨rfl,c⟩
theorem KV.drop(r:KV c f)(k:X):KV (iM c k) (without f k):=by
 unfold iM without;induction r with
 |nil=>exact .nil
 |@cons p q m l h t g=>
  obtain⟨d,i⟩:=h;rw[Ww,Ww];by_cases e:p.1=k;·simp_all
  ·have j:¬q.1=k:=λz=>e (d.trans z);have a:decide (p.1≠k)=af:=by simp[e]
   have b:decide (q.1≠k)=af:=by simp[j]
   rw[bS a,bS b];exact .cons ⟨d,i⟩ g
theorem KV.keys{a:Z (X×V)}(r:KV a b):a.map (·.1)=b.map (·.1):=by
 induction r with
 |nil=>rfl
 |cons h t c=>simp_all
def KV.length(r:KV a b):a.length=b.length:=Paired.length r
def PH(a:Z (X×V))(k:X):(iM a k).length<=a.length:=Wn _ _
end
theorem nH(r:RelV (kV k) u):(dW P w).is k u=af:=by
 cases k with
 |inl i=>obtain⟨t,e⟩:=(show ∃t,u=Value.int i t from r);subst e;exact Za8 P w i t
 |inr x=>obtain⟨t,e⟩:=(show ∃t,u=Value.str x t from r);subst e;exact Za9 P w x t
theorem OQ:∀{a:Z Key} {b:Z aY},Vals (a.map kV) b->ItemsAre (dW P w) a b
 |[],_,r=>by rw[wh] at r;cases r;exact .nil
 |k::a,_,r=>by
  cases r with
  |cons h t=>exact .cons (nH h) (OQ t)
abbrev KT(H:Hp):Z (Z Key×V)->Z (Z Key×O×aY)->Prop:=Paired λp q=>p.1=q.1/\H q.2.1=U (.tup (p.1.map kV))/\RelV p.2 q.2.2
theorem KT.val(r:KT H c xs)(k:Z Key):fw (aZ c k) ((atKey xs k).map (·.2)):=by
 induction r with
 |nil=>exact hY
 |@cons p q g a h t i=>
  obtain⟨f,_,j⟩:=h;by_cases e:p.1=k
  ·have d:=f.symm.trans e;have b:atKey (q::a) k=U q.2:=by simp[atKey,d]
   rwa[gZ e,b]
  ·have d:¬q.1=k:=λz=>e (f.trans z);have b:atKey (q::a) k=atKey a k:=by simp[atKey,d]
   rwa[gk e,b]
theorem KT.K5(r:KT H a xs)(k:Z Key)(d:RelV y u):
  KT H (a.map λb=>if b.1=k then(b.1,y) else b) (xs.map (putAt k u)):=by
 induction r with
 |nil=>exact .nil
 |@cons p q f e h t c=>
  refine .cons ?_ c;unfold putAt
  (split<;>simp_all)
def KT.put(r:KT H a xs)(k:Z Key)(f:H b=U (.tup (k.map kV)))(c:RelV y u):
  KT H (putK a k y) (storedH xs k b u):=by
 have e:(a.any λd=>decide (d.1=k))=(atKey xs k).isSome:=by
  rw[wk,(r.val k).vZ,V7]
 unfold putK storedH;rw[e];by_cases q:(atKey xs k).isSome=af;·rw[bS q,bS q];exact r.K5 k c
 ·rw[bR q,bR q];exact Paired.snoc r ⟨rfl,f,c⟩
def KT.keeps(r:KT H a xs)(d:∀b c,H b=U (.tup c)->e b=U (.tup c)):KT e a xs:=
 Paired.bL r λ_ _ z=>⟨z.1,d _ _ z.2.1,z.2.2⟩
def TB(b:dz P w H h)(e:Rd H a u):cH P w H h a u:=e.ok b
def qi(c:dz P w H h)(e:Rd H a (.dK b)):b.length<=sizeLine/\(a==sysModules)=a7/\∃vs,KV b vs/\h.DictOf (dW P w) a vs:=
 TB c e
def nI(c:dz P w H h)(e:H a=U (.dK b)):b.length<=sizeLine/\(a==sysModules)=a7/\∃vs,KV b vs/\h.DictOf (dW P w) a vs:=qi c (.inl e)
def rK(b:dz P w H h)(e:H a=U (.tup (c.map kV))):(tupleKind (dW P w)).is h c a:=by
 obtain⟨_,i,r,o,g,f,n,d,_⟩:=(b a _ e);exact⟨o,i.toArray,n,g,f,d,by simpa using OQ r⟩
theorem rR(d:dz P w H h)(e:Rd H a (.dT b)):b.length<=sizeLine/\(a==sysModules)=a7/\
  ∃xs,KT H b xs/\h.DictOfH (tupleKind (dW P w)) a xs:=by
 obtain⟨z,y,xs,r,o,u,v,s,n,k,j,i⟩:=(TB d e);refine⟨z,y,xs,r,o,u,v,s,n,k,j,λx c=>?_,i⟩;have all:∀{l:Z (Z Key×V)} {m:Z (Z Key×O×aY)},KT H l m->∀x∈m,(tupleKind (dW P w)).is h x.1 x.2.1:=by
  intro l m q;induction q with
  |nil=>simp
  |@cons p q B A f t g=>
   intro x c;rcases Ys.mp c with e|c
   ·subst e;exact rK d (by exact f.1▸f.2.1)
   ·exact g x c
 grind
def TC(c:dz P w H h)(e:H a=U (.dT b)):b.length<=sizeLine/\(a==sysModules)=a7/\
  ∃xs,KT H b xs/\h.DictOfH (tupleKind (dW P w)) a xs:=rR c (.inl e)
def fE(H:Hp)(a:O)(y:V)(r:bq V):Prop:=
 (∃c k,Rd H a (.dK c)/\y=kV k/\r=aZ c k)\/∃c k b,Rd H a (.dT c)/\y=.ref b/\H b=U (.tup (k.map kV))/\r=aZ c k
def ur(H:Hp)(a:O)(y v:V)(d:Hp):Prop:=
 (∃c k,H a=U (.dK c)/\y=kV k/\c.length<sizeLine/\d=upd H a (.dK (putK c k v)))\/
 ∃c k b,H a=U (.dT c)/\y=.ref b/\H b=U (.tup (k.map kV))/\c.length<sizeLine/\d=upd H a (.dT (putK c k v))
def fE.k{k:Key}(e:H a=U (.dK b)):fE H a (kV k) (aZ b k):=.inl ⟨b,k,.inl e,rfl,rfl⟩
def fE.t{k:Z Key}(e:H a=U (.dT c))(d:H b=U (.tup (k.map kV))):fE H a (.ref b) (aZ c k):=.inr ⟨c,k,b,.inl e,rfl,d,rfl⟩
def ur.k{k:Key}(e:H a=U (.dK b))(c:b.length<sizeLine):ur H a (kV k) v (upd H a (.dK (putK b k v))):=.inl ⟨b,k,e,rfl,c,rfl⟩
def ur.t{H:Hp}{a b:O}{c:Z (Z Key×V)}{k:Z Key}{v:V}(e:H a=U (.dT c))(f:H b=U (.tup (k.map kV)))(d:c.length<sizeLine):
  ur H a (.ref b) v (upd H a (.dT (putK c k v))):=.inr ⟨c,k,b,e,rfl,f,d,rfl⟩
def Inv.big(I:Inv X pins σ H s):sysModules<s.heap.objs.size:=by
 exact nq (by decide) ((I.mod.glob.keeps I.bk).lt)
def Zc8(r:A.units+1<cLine)(I:Inv X pins σ H s)(g:fE H a y (U v))(q:RelV y u)(h:∀d o,Inv X pins σ H o->RelV v d->Q d o):
  wpAny X.md A (getItem (.ref a) u) Q E s:=by
 rcases g with⟨f,k,e,m,l⟩|⟨f,k,b,e,m,w,l⟩
 ·subst m;obtain⟨z,hd,C,c,n⟩:=qi I.aw e;obtain⟨d,j,i⟩:=fw.some_of (by exact l▸c.val k);exact wpAny_getItem_of (nH q) n.mapOf j (h d _ (I.tok _) i)
 ·subst m;cases(q);obtain⟨z,hd,B,c,n⟩:=rR I.aw e;obtain⟨d,j,i⟩:=fw.some_of (by exact l▸c.val k);obtain⟨p,t,x⟩:=Option.map_eq_some_iff.mp j;refine wpAny_getItem_heap (nV r) (rK I.aw w) n t ?_;exact x▸h d _ (I.tok _) i
def ZjD(n:A.units+1<cLine)(I:Inv X pins σ H s)(g:fE H a y o)(m:RelV y u)(h:∀j,Inv X pins σ H j->Q (.bool o.isSome) j):
  wpAny X.md A (compareOp .In u (.ref a)) Q E s:=by
 rcases g with⟨d,k,e,f,l⟩|⟨d,k,b,e,f,p,l⟩
 ·subst f;obtain⟨z,hd,t,c,i⟩:=qi I.aw e;refine wpAny_in_of (nH m) hd i.mapOf ?_;rw[←(c.val k).vZ,←l];exact h _ (I.tok _)
 ·subst f;cases(m);obtain⟨z,hd,r,c,i⟩:=rR I.aw e;refine wpAny_in_heap (nV n) (rK I.aw p) hd i ?_;have q:=(c.val k).vZ;rw[V7] at q;rw[←q,←l];exact h _ (I.tok _)
def ZfM(n:A.units+1<cLine)(I:Inv X pins σ H s)(g:fE H a y o)(m:RelV y u)(h:∀j,Inv X pins σ H j->Q (.bool (!o.isSome)) j):
  wpAny X.md A (compareOp .NotIn u (.ref a)) Q E s:=by
 rcases g with⟨d,k,e,f,l⟩|⟨d,k,b,e,f,p,l⟩
 ·subst f;obtain⟨z,hd,t,c,i⟩:=qi I.aw e;refine wpAny_notIn_of (nH m) hd i.mapOf ?_;rw[←(c.val k).vZ,←l];exact h _ (I.tok _)
 ·subst f;cases(m);obtain⟨z,hd,r,c,i⟩:=rR I.aw e;refine wpAny_notIn_heap (nV n) (rK I.aw p) hd i ?_;have q:=(c.val k).vZ;rw[V7] at q;rw[←q,←l];exact h _ (I.tok _)
def tR(I:Inv X pins σ H s)(f:zL (H a))(g:Heap.SameBut a s.heap d)(h:∃q,d.get? a=U q)(c:cH X.prog X.w (upd H a e) d a e):
  Inv X pins σ (upd H a e) {s with heap:=d,toks:=j}:=
 I.write f (.inl rfl) (λb q i z=>(g.2 b i).trans z) h c
def y8(z:b.length<=sizeLine)(e:(a==sysModules)=a7)(c:KV b d)(g:f.DictOf (dW P w) a d):
  cH P w h f a (.dK b):=⟨z,e,d,c,g⟩
def OR(L:A.units+1<cLine)(I:Inv X pins σ H s)(g:ur H a y v H')(x:RelV y u)(B:RelV v r)(h:∀w,Inv X pins σ H' w->Q () w):
  wpAny X.md A (setItem (.ref a) u r) Q E s:=by
 rcases g with⟨f,k,e,o,l,p⟩|⟨f,k,b,e,o,D,l,p⟩
 ·subst o p;obtain⟨z,hd,G,d,t⟩:=nI I.aw e;have J:G.length<=sizeLine:=by rwa[←d.length]
  have n:(putK f k v).length<=sizeLine:=by have:=A1 f k v;exact d6 this (ot l)
  refine wpAny_setItem_pairs (nH x) t λC i m=>h _ ?_;have N:∃q,C.get? a=U q:=let⟨q,_,_,j,_⟩:=i;⟨q,j⟩;exact tR I (by exact e▸hY) m N (y8 n hd (d.put k B) i)
 ·subst o p;cases(x);obtain⟨z,hd,F,d,t⟩:=TC I.aw e;have J:F.length<=sizeLine:=by rwa[←Paired.length d]
  have n:(putK f k v).length<=sizeLine:=by have:=A1 f k v;exact d6 this (ot l)
  refine wpAny_setItem_heap (nV L) (rK I.aw D) t λC i m=>h _ ?_;obtain⟨q,es,ep,j,W,T,R,_,P⟩:=i;refine tR I (by exact e▸hY) m ⟨q,j⟩ ⟨n,hd,_,(d.put k D B).keeps λc ys ec=>?_,q,es,ep,j,W,T,R,P⟩;rwa[aA (S8 ec e (λz=>nomatch z))]
def Zc9(I:Inv X pins σ H s)(e:H a=U (.dK c))(j:RelV (kV k) u)(l:(aZ c k).isSome=af)(h:∀f,Inv X pins σ (upd H a (.dK (iM c k))) f->Q () f):
  wpAny X.md A (delItem (.ref a) u) Q E s:=by
 obtain⟨z,hd,i,b,d⟩:=nI I.aw e;refine Eg d.typeIs (by decide) sU
  (my sU d.typeIs zR (zM _ _) (meets_dict_delitem_pairs (dW X.prog X.w) a (nH j)) ⟨i,d,by rw[←b.length];exact z,by rwa[←(b.val k).vZ],λp g m=>h _ ?_⟩)
 have o:∃q,p.get? a=U q:=let⟨q,_,_,n,_⟩:=g;⟨q,n⟩;exact tR I (by exact e▸hY) m o (y8 (Yz (PH c k) z) hd (b.drop k) g)
theorem ZiI(I:Inv X pins σ H s)(e:H a=U (.dK c))(f:RelV (kV k) u)(l:aZ c k=U v)(m:more=[]\/∃x,more=[x])
  (h:∀d g,Inv X pins σ (upd H a (.dK (iM c k))) g->RelV v d->Q d g):wpAny X.md A (call (.builtin "dict.pop") (.ref a::u::more)) Q E s:=by
 obtain⟨z,hd,o,b,n⟩:=nI I.aw e;obtain⟨d,r,p⟩:=fw.some_of (v:=v) (by exact l▸b.val k);have B:(keyPart u).isSome=af:=by
  cases k with
  |inl i=>obtain⟨t,q⟩:=(show ∃t,u=Value.int i t from f);subst q;rfl
  |inr x=>obtain⟨t,q⟩:=(show ∃t,u=Value.str x t from f);subst q;rfl
 have D:argsOk "dict.pop" ⟨.ref a::u::more,[]⟩:=by
  rcases m with q|⟨x,q⟩;·subst q;exact PySem.F.args_dict_pop_2 _ _
  ·subst q;exact PySem.F.args_dict_pop_3 _ _ _
 refine my slot_dict_pop n.typeIs PySem.F.entry_dict_pop D (meets_dict_pop_there (dW X.prog X.w) a (nH f) more m B)
  ⟨o,d,n,by rwa[←b.length],r,λF j w=>h d _ ?_ p⟩
 have C:∃q,F.get? a=U q:=let⟨q,_,_,y,_⟩:=j;⟨q,y⟩;exact tR I (by exact e▸hY) w C (y8 (Yz (PH c k) z) hd (b.drop k) j)
def ZiJ(I:Inv X pins σ H s)(e:Rd H a (.dK c))(h:∀t d,Inv X pins σ H d->Q (.int c.length t) d):wpAny X.md A (call (.builtin "len") [.ref a]) Q E s:=by
 obtain⟨z,hd,g,b,f⟩:=qi I.aw e;refine call_len_dict hd f (by rw[←b.length];rw[c4] at z;omega) ?_;exact b.length▸h _ _ (I.tok _)
def UE(i:cu):Prop:=∀a b,subscripted i a7 a b=operate [a,b] (getItem a b)
theorem ZfN{a:cZ}{w:cN}{A:eL}{E:bo}{s:bt}{d:Env}{c b:cu}{f:Pos}{T id:String}{Q:bo}
  (n:typeLookup (.type T) "__getitem__"=pure (U (.builtin id)))(m:UE b)
  (h:wpAny (model a w) A (eval c d) (λo j=>wpAny (model a w) A (eval b d) (λi fC=>fC.TypeIs o T/\wpAny (model a w) A (getItem o i) Q E fC) E j) E s):
  wpAny (model a w) A (eval (.Subscript c b f) d) Q E s:=by
 refine Subscript_ (dk h (λo j l=>dk l (λi fC e=>?_) λ_ _ x=>x) λ_ _ x=>x);obtain⟨p,e⟩:=e;refine bp (bp (wpAny_specialOf p n ?_));have fin:wpAny (model a w) A (subscripted b a7 o i) (λr g=>wpAny (model a w) A (letTemporaryGo c o r>>=λ_=>pure r) Q E g) E fC:=by
  rw[m o i];exact wpAny_operating (dk e (λr g k=>bp (wpAny_letTemporaryGo (cD k))) λ_ _ x=>x)
 first
  |exact cD (bp fin)
  |exact bp (cD (bp fin))
  |exact bp fin
def Zbf(I:Inv X pins σ H s)(g:fE H a y o):s.TypeIs (.ref a) "dict":=by
 rcases g with⟨c,k,e,_,_⟩|⟨c,k,b,e,_,_,_⟩
 ·obtain⟨_,_,h,_,d⟩:=qi I.aw e;exact d.typeIs
 ·obtain⟨_,_,f,_,d⟩:=rR I.aw e;exact d.typeIs
inductive QT(Q:VK)(x:V)(y:V)(b:Hp):Prop
 |mk (a v) (e:x=.ref a) (d:fE b a y (U v)) (c:Q v b):QT Q x y b
def ZiK(c b:TE):TE:=λa H Q=>c a H λx e=>b a e λy d=>QT Q x y d
inductive Sk(Q:VK)(y:V)(x:V)(b:Hp):Prop
 |mk (a o) (e:x=.ref a) (d:fE b a y o) (c:Q (.bl o.isSome) b):Sk Q y x b
def ZjE(b c:TE):TE:=λa H Q=>b a H λy e=>c a e λx d=>Sk Q y x d
inductive OS(Q:VK)(y:V)(x:V)(b:Hp):Prop
 |mk (a o) (e:x=.ref a) (d:fE b a y o) (c:Q (.bl (!o.isSome)) b):OS Q y x b
def ZfO(b c:TE):TE:=λa H Q=>b a H λy e=>c a e λx d=>OS Q y x d
def dD(q:X.A.units+1<cLine)(t:PE X o f)(w:PE X i ty)(r:UE i):PE X (.Subscript o i pos) (ZiK f ty):=by
 intro b s d H Q I h;refine ZfN PySem.F.slot_dict_getitem.lookup r (az (t b s d H _ I h) λu j c=>?_);obtain⟨x,D,B,l,n⟩:=c;refine az (w b j d D _ B n) λJ G c=>?_;obtain⟨y,C,e,k,a,v,z,g,m⟩:=c;subst z;obtain rfl:u=Value.ref a:=l;exact⟨Zbf e g,Zc8 q e g k λE F A p=>⟨v,C,A,p,m⟩⟩
def Cd(p:X.A.units+1<cLine)(r:PE X i ty)(q:PE X o e):PC X .In i o (ZjE ty e):=by
 intro b s d H Q I h;refine az (r b s d H _ I h) λE f c=>?_;obtain⟨y,B,z,j,m⟩:=c;refine az (q b f d B _ z m) λu D c=>?_;obtain⟨x,A,w,k,a,n,t,g,l⟩:=c;subst t;obtain rfl:u=Value.ref a:=k;exact ZjD p w g j λC v=>⟨.bl n.isSome,A,v,rfl,l⟩
def nv(p:X.A.units+1<cLine)(r:PE X i ty)(q:PE X o e):PC X .NotIn i o (ZfO ty e):=by
 intro b s d H Q I h;refine az (r b s d H _ I h) λE f c=>?_;obtain⟨y,B,z,j,m⟩:=c;refine az (q b f d B _ z m) λu D c=>?_;obtain⟨x,A,w,k,a,n,t,g,l⟩:=c;subst t;obtain rfl:u=Value.ref a:=k;exact ZfM p w g j λC v=>⟨.bl (!n.isSome),A,v,rfl,l⟩
def PK(h:cI)(a:sysModules<h.objs.size):cH P w H (h.push {cls:=.type "dict",data:=.dict #[]}) h.objs.size (.dK []):=
 ⟨Yx _,beq_eq_false_iff_ne.mpr (jm (Yy a)),[],.nil,Heap.DictOf.new h⟩
def Zec(h:cI)(a:sysModules<h.objs.size):cH P w H (h.push {cls:=.type "dict",data:=.dict #[]}) h.objs.size (.dT []):=
 ⟨Yx _,beq_eq_false_iff_ne.mpr (jm (Yy a)),[],.nil,_,#[],0,Yp _ rfl,⟨rfl,rfl,rfl⟩,rfl,rfl,Jb⟩
def Zhu:TE:=λ_ H Q=>∀p,H p=aJ->Q (.ref p) (upd H p (.dK []))
def Zhv:TE:=λ_ H Q=>∀p,H p=aJ->Q (.ref p) (upd H p (.dT []))
def Zed:PE X (.Dict [] [] pos) Zhu:=λa s b H Q I h=>
 M_ ⟨.ref s.heap.objs.size,_,I.laid (λ _ _=>Yb _) (Yd _) (PK s.heap I.big),rfl,h _ (I.aw.fresh (Yd _))⟩
def Zee:PE X (.Dict [] [] pos) Zhv:=λa s b H Q I h=>
 M_ ⟨.ref s.heap.objs.size,_,I.laid (λ _ _=>Yb _) (Yd _) (Zec s.heap I.big),rfl,h _ (I.aw.fresh (Yd _))⟩
def JR:Z (TE×TE)->St->Hp->(Z (V×V)->Hp->Prop)->Prop
 |[],_,H,Q=>Q [] H
 |(tk,tv)::r,σ,H,Q=>tk σ H λx d=>tv σ d λy c=>JR r σ c λa b=>Q ((x,y)::a) b
abbrev VV:Z (V×V)->Z (aY×aY)->Prop:=Paired λp q=>RelV p.1 q.1/\RelV p.2 q.2
def DF(X:Cx)(e:Pos)(c:Z (bq cu))(a:Z cu)(i:Z (TE×TE)):Prop:=
 ∀(b:a8) (s:bt) (d:St) (H:Hp) (Q:Z (V×V)->Hp->Prop),Inv X b d H s->JR i d H Q->
  wpAny X.md X.A (evalPairs (pairTrees c a X.env e)) (λh j=>∃f g,Inv X b d g j/\VV f h/\Q f g) X.xe s
def BO:DF X pos [] [] []:=λa s b H Q I h=>pairTrees_nil_walk ⟨[],H,I,.nil,h⟩
def kU(z:PE X k g)(t:PE X v f)(w:DF X pos r d e):
  DF X pos (U k::r) (v::d) ((g,f)::e):=λa s b H Q I h=>
 pairTrees_cons_walk (az (z a s b H _ I h) λu j ⟨x,F,C,m,p⟩=>az (t a j b F _ C p) λJ i ⟨y,E,B,l,o⟩=>
  az (w a i b E _ B o) λG L N=>by obtain⟨q,D,A,c,n⟩:=N;exact⟨(x,y)::q,D,A,.cons ⟨m,l⟩ c,n⟩)
def p_(b a:Z (Key×V)):Z (Key×V):=a.foldl (λacc c=>putK acc c.1 c.2) b
theorem KV.merge:∀{more:Z (Key×V)} {c:Z (Key×aY)} {a:Z (Key×V)} {b:Z (Key×aY)},KV more c->KV a b->KV (p_ a more) (merged b c):=by
 intro more c a b r;induction r generalizing a b with
 |nil=>intro q;exact q
 |@cons p q i g h t f=>
  intro d;have e:KV (putK a p.1 p.2) (stored b q.1 q.2):=by
   have:=d.put p.1 h.2
   simp_all
  exact f e
theorem NH:∀(more a:Z (Key×V)),(p_ a more).length<=a.length+more.length
 |[],a=>by show a.length<=a.length+0;exact nJ _
 |p::r,a=>by
  have c:=NH r (putK a p.1 p.2);have b:=A1 a p.1 p.2;show(p_ (putK a p.1 p.2) r).length<=_
  grind
theorem Od:∀{d:Z (Key×V)} {f:Z (aY×aY)},VV (d.map λg=>(kV g.1,g.2)) f->∃e,Carries (dW P w) f e/\KV d e
 |[],_,r=>by rw[wh] at r;cases r;exact⟨[],hY,.nil⟩
 |p::d,_,r=>by
  cases r with
  |@cons a b as bs h t=>
   obtain⟨e,c,q⟩:=Od t;obtain⟨j,i⟩:=b;exact⟨(p.1,i)::e,⟨nH h.1,rfl,c⟩,.cons ⟨rfl,h.2⟩ q⟩
def ZiL(e:Z (TE×TE)):TE:=λd H Q=>∀p,H p=aJ->JR e d (upd H p (.dK [])) λf c=>c p=U (.dK [])/\∃a:Z (Key×V),f=a.map (λb=>(kV b.1,b.2))/\a.length<=15/\Q (.ref p) (upd c p (.dK (p_ [] a)))
def BP(h:DF X pos keys values l)(B:keys.all (·.isSome)=af)(v:keys.length=values.length)(x:keys≠[])
  (f:keys.length<=15):PE X (.Dict keys values pos) (ZiL l):=by
 intro a s j H Q I q;refine wpAny_Dict_walk (knd:=dW X.prog X.w) B v x f (az (h a _ j _ _ (I.laid (λ _ _=>Yb _) (Yd _) (PK s.heap I.big)) (q _ (I.aw.fresh (Yd s.heap.objs.size)))) λC D L=>?_);obtain⟨E,J,i,d,e,b,y,F,p⟩:=L;subst y;obtain⟨m,c,n⟩:=Od d;obtain⟨z,hd,k,o,A⟩:=nI i.aw e;cases o;refine⟨m,c,A,λG g t=>⟨.ref s.heap.objs.size,_,?_,rfl,p⟩⟩;have r:(p_ [] b).length<=sizeLine:=by
  have w:=NH b [];rw[VQ] at w;rw[c4];omega
 exact tR i (by exact e▸hY) t (let⟨q,_,_,u,_⟩:=g;⟨q,u⟩) (y8 r hd (n.merge .nil) g)
structure M1(X:Cx)(o:cu)(m:ar)(apos:Pos)(e:cu)(cE:Pos):Prop where
 base:attributeBase o m X.env (eval o X.env)=eval o X.env
 fZ:((backTo cE (starEach [e] X.env)).all (λx=>!x.1)&&(backToKw cE (keywordEach [] X.env)).all (λx=>x.1.isSome)
  &&decide (([e]:Z cu).length+([]:Z Keyword).length+(if([]:Z Keyword).isEmpty then 0 else 1)<30))=af
 line:(apos.endLine==cE.line)=af
 trees:backTo cE (starEach [e] X.env)=[(a7,eval e X.env)]
structure M2(X:Cx)(o:cu)(m:ar)(apos:Pos)(e f:cu)(cE:Pos):Prop where
 base:attributeBase o m X.env (eval o X.env)=eval o X.env
 fZ:((backTo cE (starEach [e,f] X.env)).all (λx=>!x.1)&&(backToKw cE (keywordEach [] X.env)).all (λx=>x.1.isSome)
  &&decide (([e,f]:Z cu).length+([]:Z Keyword).length+(if([]:Z Keyword).isEmpty then 0 else 1)<30))=af
 line:(apos.endLine==cE.line)=af
 trees:backTo cE (starEach [e,f] X.env)=[(a7,eval e X.env),(a7,eval f X.env)]
def z_(H:Hp)(a:O):Prop:=(∃b,Rd H a (.dK b))\/∃b,Rd H a (.dT b)
def wM(I:Inv X pins σ H s)(d:z_ H a):
  s.TypeIs (.ref a) "dict"/\(∀b,Value.ref a=.ref b->∃c,s.heap.get? b=U c/\c.dict=aJ)/\(a==sysModules)=a7:=by
 rcases d with⟨g,e⟩|⟨g,e⟩
 ·obtain⟨_,hd,k,_,f⟩:=qi I.aw e;refine⟨f.typeIs,λb q=>?_,hd⟩;cases q;obtain⟨c,_,_,i,h,_⟩:=f;exact⟨c,i,h.2.1⟩
 ·obtain⟨_,hd,j,_,f⟩:=rR I.aw e;refine⟨f.typeIs,λb q=>?_,hd⟩;cases q;obtain⟨c,_,_,i,h,_⟩:=f;exact⟨c,i,h.2.1⟩
def Zhw(q:A.units+1<cLine)(I:Inv X pins σ H s)(g:fE H a y o)(n:RelV y u)(h:∀j m,Inv X pins σ H m->RelV (o.getD .ay) j->Q j m):
  wpAny X.md A (call (.builtin "dict.get") [.ref a,u]) Q E s:=by
 rcases g with⟨f,k,e,i,l⟩|⟨f,k,b,e,i,r,l⟩
 ·subst i;obtain⟨z,hd,t,c,d⟩:=qi I.aw e;refine my pI d.typeIs tc (Ar _ _) (meets_dict_get (dW X.prog X.w) a (nH n) hd) ⟨_,d.mapOf,h _ _ (I.tok _) ?_⟩;exact l▸(c.val k).getD rfl
 ·subst i;cases(n);obtain⟨z,hd,p,c,d⟩:=rR I.aw e;refine my pI d.typeIs tc (Ar _ _) (meetsH_dict_get (tupleKind (dW X.prog X.w)) a b hd) ⟨nV q,k,p,rK I.aw r,d,h _ _ (I.tok _) ?_⟩;exact l▸(c.val k).getD rfl
def Zhx(v:A.units+1<cLine)(I:Inv X pins σ H s)(g:fE H a y o)(p:RelV y u)(q:RelV d r)(h:∀m n,Inv X pins σ H n->RelV (o.getD d) m->Q m n):
  wpAny X.md A (call (.builtin "dict.get") [.ref a,u,r]) Q E s:=by
 rcases g with⟨i,k,e,j,l⟩|⟨i,k,b,e,j,w,l⟩
 ·subst j;obtain⟨z,hd,x,c,f⟩:=qi I.aw e;refine my pI f.typeIs tc (Ak _ _ _) (meets_dict_get_default (dW X.prog X.w) a (nH p) hd r) ⟨_,f.mapOf,h _ _ (I.tok _) ?_⟩;exact l▸(c.val k).getD q
 ·subst j;cases(p);obtain⟨z,hd,t,c,f⟩:=rR I.aw e;refine my pI f.typeIs tc (Ak _ _ _) (meetsH_dict_get_default (tupleKind (dW X.prog X.w)) a b hd r) ⟨nV v,k,t,rK I.aw w,f,h _ _ (I.tok _) ?_⟩;exact l▸(c.val k).getD q
def Zhy(f e:TE):TE:=λb H Q=>f b H λx d=>∃a,x=.ref a/\z_ d a/\e b d λy c=>∃o,fE c a y o/\Q (o.getD .ay) c
def Zhz(g e f:TE):TE:=λb H Q=>g b H λx d=>∃a,x=.ref a/\z_ d a/\e b d λy h=>f b h λz c=>∃o,fE c a y o/\Q (o.getD z) c
def Zef(w:X.A.units+1<cLine)(z:PE X o j)(A:PE X e ty)(m:M1 X o "get" apos e C):PE X (.Call (.Attribute o "get" apos) [e] [] C) (Zhy j ty):=by
 intro b s c H Q I h;refine sT m.base m.fZ m.line pA pI type_dict_get (az (z b s c H _ I h) λu n i=>?_);obtain⟨x,G,f,q,a,B,d,t⟩:=i;subst B;obtain rfl:u=Value.ref a:=q;obtain⟨l,k,_⟩:=wM f d;refine⟨l,k,?_⟩;exact m.trees▸l_ rfl (pz (n5 (az (A b n c G _ f t) λR N ⟨y,F,E,p,P,g,r⟩=>rb (Zhw w E g p λJ L D v=>⟨_,F,D,v,r⟩))))
def Zeg(E:X.A.units+1<cLine)(F:PE X o l)(J:PE X e ty)(G:PE X f k)(m:M2 X o "get" apos e f N):PE X (.Call (.Attribute o "get" apos) [e,f] [] N) (Zhz l ty k):=by
 intro b s c H Q I h;refine sT m.base m.fZ m.line pA pI type_dict_get (az (F b s c H _ I h) λu r j=>?_);obtain⟨x,H1,i,w,a,L,d,C⟩:=j;subst L;obtain rfl:u=Value.ref a:=w;obtain⟨p,n,_⟩:=wM i d;refine⟨p,n,?_⟩;rw[m.trees];refine l_ rfl (pz (n5 (az (J b r c H1 _ i C) λiv q ⟨y,H2,T,v,B⟩=>
  n5 (az (G b q c H2 _ T B) λfv s3 ⟨z,W,R,t,ov,g,A⟩=>rb ?_))))
 exact Zhx E R g v t λw' s4 P D=>⟨_,W,P,D,A⟩
def qj(P:cZ)(w:cN)(K:ah)(c:aU)(a:cI)(k:Nat)(x:ar)(C:O)(b:Z ar)(e:Sp):Prop:=
 ∃f d,Mk K C f/\aI P w K c a aP k f d b e/\Binds K d b []/\c x=U (.ref C)
def bY(P:cZ)(w:cN)(K:ah)(e:aU)(a:cI)(k:Nat)(m:ar)(C:O)(b:Z ar)(d:Sp):Prop:=
 ∃f c,hU K C/\Meth K C m f/\aI P w K e a aP k f c b d/\Binds K c b []
def Sl(P:cZ)(w:cN)(K:ah)(e:aU)(a:cI)(k:Nat)(m:ar)(C:O)(b:Z ar)(d:Sp):Prop:=
 ∃f c,hU K C/\Meth K C m f/\aI P w K e a (fY P w) k f c b d/\Binds K c b []
section
variable {X:Cx}{k j:Nat}{x m:ar}{C:O}{ps:Z ar}{Q:Sp}{p W T:Pos}{o e:cu}{R:Z cu}{t:TA}{P:TE}
def Cv(h:qj X.prog X.w X.K X.mg X.base k x C ps Q)(c:c5 j X.A)(g:k+1<=j)(i:Gl X x)(n:PA X (e::R) t)(q:(x==("__debug__":ar))=a7:=by decide)
  (l:jB X e R:=by rfl)(r:j9 X W R:=by rfl):PE X (.Call (.Name x p) (e::R) [] W) (Tf C Q [] E0 t):=by
 obtain⟨f,s,a,F,b,d⟩:=h;exact Zfq a F (c.mono g) i d b .nil ze n q l r
def cV(h:bY X.prog X.w X.K X.mg X.base k m C ps Q)(g:c5 j X.A)(n:k<=j)(i:PE X o P)(q:PA X (e::R) t)
  (r:jB X e R:=by rfl)(s:j9 X W R:=by rfl)
  (d:eval (.Call (.Attribute o m T) (e::R) [] W) X.env=(do
   let a←eval o X.env
   standAt T.atName
   let(f,first)←holding [a] (getMethod a m u)
   callWith W f first (backTo W (starEach (e::R) X.env)) (backToKw W (keywordEach [] X.env))):=by rfl):
  PE X (.Call (.Attribute o m T) (e::R) [] W) (Cq C m Q [] E0 P t):=by
 obtain⟨f,v,c,l,F,b⟩:=h;exact Zfp i c l F (g.mono n) b .nil ze q r s d
end
def wA{K:ah}(h:X.K=K)(b:PE X e a)(c:attributeBase e f X.env (eval e X.env)=eval e X.env):PE X (.Attribute e f pos) (KU K a f):=h▸ZgU b c
section
open PySem.AutoSeq1 (wpAny_loadPart')
def Zc_(a b x:Int):(Builtin.Range.rangePlace? a b 1 x).isSome=decide (a<=x/\x<b):=by
 unfold Builtin.Range.rangePlace?
 grind
def ZC(p:O)(f i x:Int)(a b c t:Tok):
  Meets (Builtin.«range.__contains__» ⟨[.ref p,.int x t],[]⟩)
   (λ_ R s=>s.heap.get? p=U {cls:=.type "range",data:=.fields #[.int f a,.int i b,.int 1 c]}/\R (.ok (.ret (.bool (decide (f<=x/\x<i))))) s):=
 .of_wp λe w A R s h=>by
  obtain⟨l,g,d,k,os⟩:=s;obtain⟨j,h⟩:=h;rw[←Zc_] at h
  wp_walk using YG j
  simp_all
end
def ZhA(a:cm):R2:=λx y H Q=>∃(i lo b:Int) (p:O),x=.int i/\y=.ref p/\H p=U (.jA lo b)/\Q (.bl (if a=af then !decide (lo<=i/\i<b) else decide (lo<=i/\i<b))) H
def ZaH:cS X (compareOp .NotIn) (ZhA af):=by
 rintro d s k H x y v u Q I f e ⟨i,lo,j,p,rfl,rfl,h,q⟩;obtain⟨t,rfl⟩:=f;cases e;obtain⟨a,b,c,g⟩:=(I.aw p _ h);exact SeqRoads2.notIn_meets ⟨_,g,rfl⟩ F.slot_range_contains F.entry_range_contains (F.args_range_contains_2 _ _) (ZC p lo j i a b c t) ⟨g,_,rfl,.bl _,H,I,rfl,q⟩
def vM(p:Nat->cm)(n:Nat):(List.range (n+1)).filter p=(List.range n).filter p++(if p n=af then[n] else[]):=by
 rw[UT,Wm]
 grind
theorem kQ{b a:Type}{F:b->a->Prop}:∀{d:Z b} {c:Z a} {x:b} {y:a},Paired F d c->F x y->Paired F (d++[x]) (c++[y]):=by
 intro d c x y h f;induction h with
 |nil=>exact .cons f .nil
 |cons r t e=>exact .cons r e
theorem Gh:∀{b:Z α} {a:Z β},Paired F b a->b.length=a.length:=by
 intro b a h;induction h with
 |nil=>rfl
 |cons _ _ c=>rw[Wg,Wg,c]
theorem FA:∀{b:Z V} {a:Z β},Paired (λx y=>x=f y) b a->b=a.map f:=by
 intro b a h;induction h with
 |nil=>rfl
 |cons r t c=>rw[Wq,←r,←c]
def yB(n:Nat):(List.range n).filter (λ_=>af)=List.range n:=by simp
theorem pR(a:Z α)(f:Nat->β)(g:α->β)(h:∀(i:Nat) (v:α),a[i]?=U v->f i=g v):(List.range a.length).map f=a.map g:=by
 refine Wh λi=>?_;rw[Yf,Yf];cases e:a[i]? with
 |none=>rw[Y4 (by rw[List.length_range];exact List.getElem?_eq_none_iff.mp e)];rfl
 |some v=>obtain⟨q,_⟩:=Yl.mp e;rw[List.getElem?_range q];exact congrArg U (h i v e)
def aC(D:O)(H a:Hp):Prop:=∀b o,H b=U o->b≠D->a b=U o
def aC.of(g:aj H H'):aC D H H':=λb o e _=>g b o e
def aC.put(g:aC D H a):aC D H (upd a D o):=λb u e n=>by rw[aA n];exact g b u e n
def wU(j:TT)(k:TE)(e:St)(D:O)(H:Hp)(v:V)(b:cm)(l:V->Hp->Prop):Prop:=
 ∀d,aj H d->(∃i,d D=U (.lst i))->∀(f:VK) (g:Hp->Prop),(∀y a,b=af->aj d a->l y a->f y a)->(∀a,b=a7->aj d a->g a)->j (U v::e) d λc h=>if c=af then k (U v::e) h f else g h
def vT{K:ah}(C:ak K H a xs)(L:xs.length<=1000)(u:H D=aJ)(p:Nat->cm)(l:Nat->V->Hp->Prop)(c:∀i y d x,aC D d x->l i y d->l i y x)
  (k:∀(i:Nat) (v:V),xs[i]?=U v->wU tt A E D H v (p i) (l i))(G:∀f m,aj H m->m D=U (.lst f)->Paired (λy i=>l i y m) f ((List.range xs.length).filter p)->Q (.ref D) m):jv (j_ K a) tt A E D H Q:=by
 refine Hy (λi f d=>i<=xs.length/\aj H d/\d D=U (.lst f)/\Paired (λy j=>l j y d) f ((List.range i).filter p)) ⟨Yx _,cK u _,aQ,.nil⟩ (λi f d _ ⟨_,g,_,_⟩=>g.seq C) ?_ ?_
 ·rintro i v f d t ⟨_,g,s,n⟩;have w:=(Yl.mp t).1;have J:=Gh n;have F:=Wn p (List.range i);rw[LX] at F;refine k i v t d g ⟨_,s⟩ _ _ (λy I r h B=>⟨h _ _ s,by rw[c4];omega,w,?_,aQ,?_⟩) (λI r h=>⟨w,g.trans h,h _ _ s,?_⟩)
  ·intro b o e;rw[aA (cA e u)];exact h _ _ (g _ _ e)
  ·rw[vM,bS r];exact kQ (Paired.bL n λz j q=>c _ _ _ _ (aC.put (aC.of h)) q) (c _ _ _ _ (aC.put (aC.of (aj.refl _))) B)
  ·rw[vM,bR (by rw[r];exact Yi),Wf];exact Paired.bL n λz j q=>c _ _ _ _ (aC.of h) q
 ·grind
def Oe{K:ah}(k:ak K H a xs)(l:xs.length<=1000)(m:H D=aJ)(p:Nat->cm)(f:Nat->V)
  (b:∀(i:Nat) (v:V),xs[i]?=U v->wU tt h n D H v (p i) (λy _=>y=f i))(d:∀c,aj H c->c D=U (.lst (((List.range xs.length).filter p).map f))->Q (.ref D) c):jv (j_ K a) tt h n D H Q:=
 vT k l m p (λi y _=>y=f i) (λ_ _ _ _ _ e=>e) b λo c g q j=>d c g (by rwa[←FA j])
def Zb3{K:ah}(m:ak K H a xs)(n:xs.length<=1000)(o:H D=aJ)(f:V->V)
  (h:∀(i:Nat) (v:V),xs[i]?=U v->∀c,aj H c->∀e:VK,(∀k,aj c k->e (f v) k)->l (U v::q) c e)(d:∀b,aj H b->b D=U (.lst (xs.map f))->Q (.ref D) b):jv (j_ K a) zw l q D H Q:=by
 refine Oe m n o (λ_=>af) (λi=>f (xs.getD i .ay)) (λi v j c g _ e s r _=>kG (dq ?_)) λb g p=>d b g ?_;·grind
 ·rw[p,yB,pR xs (λi=>f (xs.getD i .ay)) f λi v j=>by rw[Yg,j];rfl]
def Zda{K:ah}(C:aB K H a xs)(L:xs.length<=1000)(u:H D=aJ)(p:Nat->cm)(l:Nat->V->Hp->Prop)(c:∀i y d x,aC D d x->l i y d->l i y x)
  (k:∀(i:Nat) (v:V),xs[i]?=U v->wU tt A E D H v (p i) (l i))(G:∀f m,aj H m->m D=U (.lst f)->Paired (λy i=>l i y m) f ((List.range xs.length).filter p)->Q (.ref D) m):jv (xC K a) tt A E D H Q:=by
 refine Bq (λi f d=>i<=xs.length/\aj H d/\d D=U (.lst f)/\Paired (λy j=>l j y d) f ((List.range i).filter p)) ⟨Yx _,cK u _,aQ,.nil⟩ (λi f d _ R=>by obtain⟨_,g,_,_⟩:=R;exact g.kh C) ?_ ?_
 ·rintro i v f d t ⟨_,g,s,n⟩;have w:=(Yl.mp t).1;have J:=Gh n;have F:=Wn p (List.range i);rw[LX] at F;refine k i v t d g ⟨_,s⟩ _ _ (λy I r h B=>⟨h _ _ s,by rw[c4];omega,w,?_,aQ,?_⟩) (λI r h=>⟨w,g.trans h,h _ _ s,?_⟩)
  ·intro b o e;rw[aA (cA e u)];exact h _ _ (g _ _ e)
  ·rw[vM,bS r];exact kQ (Paired.bL n λz j q=>c _ _ _ _ (aC.put (aC.of h)) q) (c _ _ _ _ (aC.put (aC.of (aj.refl _))) B)
  ·rw[vM,bR (by rw[r];exact Yi),Wf];exact Paired.bL n λz j q=>c _ _ _ _ (aC.of h) q
 ·simp_all
def Zdb{K:ah}(k:aB K H a xs)(l:xs.length<=1000)(m:H D=aJ)(p:Nat->cm)(f:Nat->V)
  (b:∀(i:Nat) (v:V),xs[i]?=U v->wU tt h n D H v (p i) (λy _=>y=f i))(d:∀c,aj H c->c D=U (.lst (((List.range xs.length).filter p).map f))->Q (.ref D) c):jv (xC K a) tt h n D H Q:=
 Zda k l m p (λi y _=>y=f i) (λ_ _ _ _ _ e=>e) b λo c g q j=>d c g (by rwa[←FA j])
def Zbg{v:Int}{n:Nat}{t:TT}{u:TE}{A:St}{D:O}{H:Hp}{Q:VK}(L:n<=1000)(x:H D=aJ)(p:Nat->cm)(k:Nat->V->Hp->Prop)(a:∀i y c C,aC D c C->k i y c->k i y C)
  (h:∀i,i<n->wU t u A D H (.int (v+i)) (p i) (k i))(G:∀f l,aj H l->l D=U (.lst f)->Paired (λy i=>k i y l) f ((List.range n).filter p)->Q (.ref D) l):jv (qz v n) t u A D H Q:=by
 refine yA (λi f c=>i<=n/\aj H c/\c D=U (.lst f)/\Paired (λy j=>k j y c) f ((List.range i).filter p)) ⟨Yx _,cK x _,aQ,.nil⟩ ?_ ?_
 ·rintro i f c w ⟨_,g,s,m⟩;have B:=w;have J:=Gh m;have F:=Wn p (List.range i);rw[LX] at F;refine h i w c g ⟨_,s⟩ _ _ (λy I r d E=>⟨d _ _ s,by rw[c4];omega,B,?_,aQ,?_⟩) (λI r d=>⟨B,g.trans d,d _ _ s,?_⟩)
  ·intro b o e;rw[aA (cA e x)];exact d _ _ (g _ _ e)
  ·rw[vM,bS r];exact kQ (Paired.bL m λz j q=>a _ _ _ _ (aC.put (aC.of d)) q) (a _ _ _ _ (aC.put (aC.of (aj.refl _))) E)
  ·rw[vM,bR (by rw[r];exact Yi),Wf];exact Paired.bL m λz j q=>a _ _ _ _ (aC.of d) q
 ·simp_all
def Zbh{j:Int}{n:Nat}{d:TT}{h:TE}{k:St}{D:O}{H:Hp}{Q:VK}(m:n<=1000)(o:H D=aJ)(p:Nat->cm)(f:Nat->V)
  (a:∀i,i<n->wU d h k D H (.int (j+i)) (p i) (λy _=>y=f i))(c:∀b,aj H b->b D=U (.lst (((List.range n).filter p).map f))->Q (.ref D) b):jv (qz j n) d h k D H Q:=
 Zbg m o p (λi y _=>y=f i) (λ_ _ _ _ _ e=>e) a λq b g r l=>c b g (by rwa[←FA l])
abbrev Nw(H:Hp)(o:HO)(Q:VK):Prop:=∀(p:O) (a:Hp),H p=aJ->aj H a->a p=U o->Q (.ref p) a
def Nw.at(h:Nw H o Q):∀p,H p=aJ->Q (.ref p) (upd H p o):=λp a=>h p _ a (cK a o) aQ
def zg(t:TA):TE:=λb H Q=>t b H λa c=>a.length<=sizeLine/\Nw c (.tup a) Q
def TH(t:TA):TE:=λb H Q=>t b H λa c=>a.length<=sizeLine/\Nw c (.lst a) Q
section
variable {K:ah}
def dX(h:PA X j t):PE X (.Tuple j l pos) (zg t):=by
 intro a s e H Q I i;refine wpAny_Tuple_spliced (az (h pos a s e H _ I i) λg c ⟨f,k,d,r,z,q⟩=>⟨by rwa[←r.length],⟨.ref c.heap.objs.size,upd k c.heap.objs.size (.tup f),d.laid (λ b u=>Yb _) (Yd _) ?_,rfl,q.at _ (d.aw.fresh (Yd _))⟩⟩);exact⟨z,g,r,⟨_,Yp _ rfl,rfl,_,rfl,rfl⟩⟩
def dP(h:PA X j t):PE X (.List j pos) (TH t):=by
 intro a s e H Q I i;refine Eh (az (h pos a s e H _ I i) λg c ⟨f,k,d,r,z,q⟩=>⟨by rwa[←r.length],⟨.ref c.heap.objs.size,upd k c.heap.objs.size (.lst f),d.laid (λ b u=>Yb _) (Yd _) ?_,rfl,q.at _ (d.aw.fresh (Yd _))⟩⟩);exact⟨z,g,0,r,Yp _ rfl⟩
def dA.mono(h:dA X f r)(m:∀a H Q,r' a H Q->r a H Q):dA X f r':=λb s c H a d Q I v q=>h b s c H a d Q I v (m a H Q q)
def cS.mono(h:cS X f r)(m:∀x y H Q,r' x y H Q->r x y H Q):cS X f r':=λa s b H x y v u Q I d c q=>h a s b H x y v u Q I d c (m x y H Q q)
def sy.mono(h:sy X r)(m:∀x lo b H Q,r' x lo b H Q->r x lo b H Q):sy X r':=λa s c H x v e d lo b f Q I g k j i q=>h a s c H x v e d lo b f Q I g k j i (m x lo b H Q q)
inductive Of(a:Z V)(H:Hp)(Q:VK):Prop
 |mk (j:Int) (c:a=[.int j]) (b:Nw H (.jA 0 j) Q):Of a H Q
def Zeh:Z V->Hp->VK->Prop:=λa H Q=>Of a H Q
def FX:dA X (.type "range") Zeh:=A0.mono λ_ _ _ a=>by obtain⟨j,e,q⟩:=a;exact⟨j,e,q.at⟩
inductive NS(a:Z V)(H:Hp)(Q:VK):Prop
 |mk (p:O) (n:Nat) (e:a=[.ref p]) (d:H p=U (.jA 0 (n:Int))) (b:n<=1000) (c:Nw H (.lst ((bH n).map V.int)) Q):NS a H Q
def Zdc:Z V->Hp->VK->Prop:=λa H Q=>NS a H Q
def Z3(b:X.calm=af):dA X (.type "list") Zdc:=(Fz b).mono λ_ _ _ a=>by obtain⟨p,n,e,h,l,q⟩:=a;exact⟨p,n,e,h,l,q.at⟩
inductive Og(a:Z V)(H:Hp)(Q:VK):Prop
 |mk (p:O) (n:Nat) (e:a=[.ref p]) (d:H p=U (.jA 0 (n:Int))) (b:n<=1000) (c:Nw H (.tup ((bH n).map V.int)) Q):Og a H Q
def Zei:Z V->Hp->VK->Prop:=λa H Q=>Og a H Q
def ZN(b:X.calm=af):dA X (.type "tuple") Zei:=(NC b).mono λ_ _ _ a=>by obtain⟨p,n,e,h,l,q⟩:=a;exact⟨p,n,e,h,l,q.at⟩
def Zej(K:ah):Z V->Hp->VK->Prop:=λc H Q=>∃(p:O) (a:Z Int),c=[.ref p]/\(ak K H p (a.map V.int)\/aB K H p (a.map V.int))/\a.length<64/\
  ∀b:Z Int,b.Perm a->b.Pairwise (·<=·)->Nw H (.lst (b.map V.int)) Q
def Zek(h:X.K=K):dA X (.builtin "sorted") (Zej K):=h▸NQ.mono λ_ _ _ b=>by obtain⟨p,f,e,s,l,q⟩:=b;exact⟨p,f,e,s,l,λa i g d c=>(q i d c).at a g⟩
inductive QU(K:ah)(x:V)(c:bq Int)(d:bq Int)(H:Hp)(Q:VK):Prop
 |mk (a b) (g:x=.ref a) (f:ak K H a b) (e:Nw H (.lst (mP b c d)) Q):QU K x c d H Q
def ZiM(K:ah):V->bq Int->bq Int->Hp->VK->Prop:=λx lo a H Q=>QU K x lo a H Q
def PL(h:X.K=K):sy X (ZiM K):=h▸Zfv.mono λ_ _ _ _ _ b=>by obtain⟨a,c,e,s,q⟩:=b;exact⟨a,c,e,s,q.at⟩
def ZiN:R2:=λx y H Q=>∃l b c a,x=.ref l/\y=.ref b/\H l=U (.lst c)/\H b=U (.lst a)/\c.length+a.length<=sizeLine/\Nw H (.lst (c++a)) Q
def BQ:cS X (binaryOp .Add) ZiN:=Zg2.mono λ_ _ _ _ c=>by obtain⟨l,b,d,a,h,g,f,e,z,q⟩:=c;exact⟨l,b,d,a,h,g,f,e,z,q.at⟩
def ZfP:TE:=λ_ H Q=>Nw H (.dK []) Q
def tL:PE X (.Dict [] [] pos) ZfP:=λa s b H Q I q=>Zed a s b H Q I q.at
def ZfQ:TE:=λ_ H Q=>Nw H (.dT []) Q
def OT:PE X (.Dict [] [] pos) ZfQ:=λa s b H Q I q=>Zee a s b H Q I q.at
end
abbrev Ch(H:Hp)(a:O)(o:HO)(R:Hp->Prop):Prop:=∀b,aC a H b->b a=U o->R b
def Ch.at(h:Ch H a o R):R (upd H a o):=h _ (aC.put (aC.of (aj.refl _))) aQ
section
variable {X:Cx}
def oZ.mono{id:String}(h:oZ X id r)(m:∀x a H Q,r' x a H Q->r x a H Q):oZ X id r':=λb s c H x a v d Q I e f q=>h b s c H x a v d Q I e f (m x a H Q q)
inductive Oh(x:V)(b:Z V)(H:Hp)(Q:VK):Prop
 |mk (l a y) (g:x=.ref l) (f:b=[y]) (d:H l=U (.lst a)) (e:a.length<sizeLine) (c:Ch H l (.lst (a++[y])) (Q .ay)):Oh x b H Q
def PM:V->Z V->Hp->VK->Prop:=λx a H Q=>Oh x a H Q
def q0:oZ X "list.append" PM:=yE.mono λ_ _ _ _ a=>by obtain⟨l,b,y,d,c,h,z,q⟩:=a;exact⟨l,b,y,d,c,h,z,q.at⟩
def Zel:V->Z V->Hp->VK->Prop:=λx d H Q=>∃l b c a,x=.ref l/\d=[.ref b]/\H l=U (.lst c)/\H b=U (.lst a)/\c.length+a.length<=sizeLine/\Ch H l (.lst (c++a)) (Q .ay)
def Zb4:oZ X "list.extend" Zel:=ZcW.mono λ_ _ _ _ c=>by obtain⟨l,b,d,a,h,g,f,e,z,q⟩:=c;exact⟨l,b,d,a,h,g,f,e,z,q.at⟩
def ZfR:V->Z V->Hp->VK->Prop:=λx b H Q=>∃l a,x=.ref l/\b=[]/\H l=U (.lst a)/\Ch H l (.lst []) (Q .ay)
def Zdd:oZ X "list.clear" ZfR:=ZdU.mono λ_ _ _ _ a=>by obtain⟨l,b,d,c,h,q⟩:=a;exact⟨l,b,d,c,h,q.at⟩
def uh.mono(h:uh X t)(m:∀o i v H Q,t' o i v H Q->t o i v H Q):uh X t':=by
 intro a s b H o i x f g v Q I e d c q;exact h a s b H o i x f g v Q I e d c (m _ _ _ _ _ q)
def ZhB:V->V->V->Hp->(Hp->Prop)->Prop:=λo i v H Q=>∃p a k j,o=.ref p/\i=.int k/\H p=U (.lst a)/\mV a.length k=U j/\Ch H p (.lst (a.set j v)) Q
def OU:uh X ZhB:=set_list.mono λ_ _ _ _ _ a=>by obtain⟨p,b,k,j,d,c,h,z,q⟩:=a;exact⟨p,b,k,j,d,c,h,z,q.at⟩
variable {o i W:cu}{N ty P L:TE}{R T:Pos}{f:ar}
inductive PN(D:Ends)(d:St)(v:V)(x:V)(y:V)(c:Hp):Prop
 |mk (a b k) (l:x=.ref a) (j:c a=U (.dK b)) (g:y=kV k) (h:b.length<sizeLine) (e:Ch c a (.dK (putK b k v)) (D.nx d)):PN D d v x y c
def ZhC(N ty P:TE):TS:=λD a H=>P a H λv d=>N a d λx c=>ty a c λy b=>PN D a v x y b
inductive OV(D:Ends)(e:St)(v:V)(x:V)(y:V)(d:Hp):Prop
 |mk (a b c k) (n:x=.ref a) (m:d a=U (.dT c)) (j:y=.ref b) (l:d b=U (.tup (k.map kV))) (h:c.length<sizeLine) (g:Ch d a (.dT (putK c k v)) (D.nx e)):OV D e v x y d
def ZfS(N ty P:TE):TS:=λD a H=>P a H λv d=>N a d λx c=>ty a c λy b=>OV D a v x y b
def pS(A:X.A.units+1<cLine)(C:PE X o N)(E:PE X i ty)(z:PE X W P)(B:swapsWith W (U (.Subscript o i T)) R.line X.env=pure a7:=by rfl):
  PS X (.Assign [.Subscript o i T] W R) (ZhC N ty P):=by
 intro b s d H D I h;refine AO (az (z b s d H _ I h) λr g c=>?_) B;obtain⟨v,H1,I1,n,t⟩:=c;refine az (C b g d H1 _ I1 t) λu e c=>?_;obtain⟨x,H2,I2,m,q⟩:=c;refine az (E b e d H2 _ I2 q) λiv s3 c=>?_;obtain⟨y,H3,I3,j,a,w,k,J,F,G,l,p⟩:=c;subst J;subst G;obtain rfl:u=Value.ref a:=m;exact OR A I3 (ur.k F l) j n λs4 Q=>⟨d,_,Q,p.at⟩
def OW(B:X.A.units+1<cLine)(E:PE X o N)(F:PE X i ty)(A:PE X W P)(C:swapsWith W (U (.Subscript o i T)) R.line X.env=pure a7:=by rfl):
  PS X (.Assign [.Subscript o i T] W R) (ZfS N ty P):=by
 intro c s e H D I h;refine AO (az (A c s e H _ I h) λr j d=>?_) C;obtain⟨v,H1,I1,p,w⟩:=d;refine az (E c j e H1 _ I1 w) λu g d=>?_;obtain⟨x,H2,I2,n,t⟩:=d;refine az (F c g e H2 _ I2 t) λiv s3 d=>?_;obtain⟨y,H3,I3,m,a,b,z,k,ex,J,Q,G,l,q⟩:=d;subst ex;subst Q;obtain rfl:u=Value.ref a:=n;exact OR B I3 (ur.t J G l) m p λs4 I4=>⟨e,_,I4,q.at⟩
def ZiO(K:ah)(L P:TE)(f:ar):TS:=λD b H=>P b H λy e=>L b e λx d=>∃a C c fs,x=.ref a/\d a=U (.ins C c fs)/\hU K C/\dG K C f/\fs.length<1000/\Ch d a (.ins C c (c8 f y fs)) (D.nx b)
def iH{K:ah}(w:X.K=K)(v:PE X o L)(r:PE X W P)(t:swapsWith W (U (.Attribute o f T)) R.line X.env=pure a7:=by rfl):PS X (.Assign [.Attribute o f T] W R) (ZiO K L P f):=by
 subst w;intro b s d H D I h;refine uk (az (r b s d H _ I h) λu g e=>?_) t;obtain⟨y,G,F,j,q⟩:=e;refine az (v b g d G _ F q) λp Q e=>?_;obtain⟨x,H2,E,k,a,C,dx,fs,z,A,c,n,l,m⟩:=e;subst z;obtain rfl:p=Value.ref a:=k;exact N4 E A c n l j λJ B=>⟨d,_,B,m.at⟩
end
def Aa(x:ar):It:=⟨λi _=>i<x.length,λi H v a=>a=H/\∃c,x.cps[i]?=U c/\v=.str ⟨#[c]⟩,λi _=>x.length<=i⟩
theorem Z4{P:cZ}{w:cN}{K:ah}{B:cu}(it:O)(x:ar)(t:Tok):Turn P w K B (Aa x) [it] it (λi h=>h.IsStrIter it "str_ascii_iterator" x t i) where
 mem:=by simp
 obj:=λi h st b f=>by
  have e:b=it:=by simpa using f
  obtain⟨o,e,c,d⟩:=st
  simp_all
 keep:=λi h y st k=>let⟨o,e,r⟩:=st;⟨o,k it (by simp) o e,r⟩
 item:=by
  intro X F D G v i a s A H E I g st j;obtain⟨q,p,J,n,m,l⟩:=g it (by simp);have u:=W5 j;refine wpAny_pyNext_ascii_item st u λy z C=>?_;obtain⟨o,e,c,d⟩:=id z;exact⟨_,rfl,t_ e c d (by decide) ⟨.str ⟨#[x.cps[i]]⟩,H,(I.turned (λb o f e=>(C.2 b f).trans e) q p n m l),⟨_,rfl⟩,⟨rfl,_,u,rfl⟩,z,λb f=>(g b f).1⟩⟩
 done:=by
  intro X F D G v i a s A H E I g st j;obtain⟨q,p,J,n,m,l⟩:=g it (by simp);exact wpAny_pyNext_ascii_end (I.ok.hd v) st (V8 j) λy L=>⟨rfl,I.turned (L) q p n m l⟩
 self:=λ_ _ _ _ _ st h=>wpAny_pyIter_striter_ascii st h
theorem Zaj{P:cZ}{w:cN}{K:ah}{B:cu}(it:O)(x:ar)(t:Tok):Turn P w K B (Aa x) [it] it (λi h=>h.IsStrIter it "str_iterator" x t i) where
 mem:=by simp
 obj:=λi h st b f=>by
  have e:b=it:=by simpa using f
  obtain⟨o,e,c,d⟩:=st
  grind
 keep:=λi h y st k=>let⟨o,e,r⟩:=st;⟨o,k it (by simp) o e,r⟩
 item:=by
  intro X F D G v i a s A H E I g st j;obtain⟨q,p,J,n,m,l⟩:=g it (by simp);have u:=W5 j;refine wpAny_pyNext_wide_item st u λy z C=>?_;obtain⟨o,e,c,d⟩:=id z;exact⟨_,rfl,t_ e c d (by decide) ⟨.str ⟨#[x.cps[i]]⟩,H,(I.turned (λb o f e=>(C.2 b f).trans e) q p n m l),⟨_,rfl⟩,⟨rfl,_,u,rfl⟩,z,λb f=>(g b f).1⟩⟩
 done:=by
  intro X F D G v i a s A H E I g st j;obtain⟨q,p,J,n,m,l⟩:=g it (by simp);exact wpAny_pyNext_wide_end (I.ok.hd v) st (V8 j) λy L=>⟨rfl,I.turned (L) q p n m l⟩
 self:=λ_ _ _ _ _ st h=>wpAny_pyIter_striter_wide st h
inductive Sm(R:It->Hp->Prop)(v:V)(a:Hp):Prop
 |mk (x) (c:v=.str x) (b:R (Aa x) a):Sm R v a
def ZjF(b:TE):TI:=λa H R=>b a H λv c=>Sm R v c
theorem ZhD(p:PE X l k):PI X u l (ZjF k):=by
 intro a s i H R I h;refine az (p a s i H _ I h) λv c j=>?_;obtain⟨x,f,d,m,n⟩:=j;obtain⟨z,e,q⟩:=n;subst e;obtain⟨t,rfl⟩:=m;have fin:∀b∈[c.heap.objs.size],jx X a f b:=λb r=>by
  have e:b=c.heap.objs.size:=by simpa using r
  subst e;exact d.qo (Yd _) (d.aw.fresh (Yd _))
 cases g:z.cps.all (·<128) with
 |true=>exact wpAny_pyIter_ascii g ⟨c.heap.objs.size,[c.heap.objs.size],_,_,f,rfl,d.kept λb o e=>Yb _ e,Z4 _ z t,⟨_,Yp _ rfl,rfl,rfl⟩,fin,q⟩
 |false=>exact wpAny_pyIter_wide g ⟨c.heap.objs.size,[c.heap.objs.size],_,_,f,rfl,d.kept λb o e=>Yb _ e,Zaj _ z t,⟨_,Yp _ rfl,rfl,rfl⟩,fin,q⟩
abbrev sg(c:Nat):V:=.str ⟨#[c]⟩
def Zem(d:Nat->Z V->Hp->Prop)(q:d 0 [] (upd H D (.lst [])))
  (s:∀(i c:Nat) (a:Z V) (H:Hp),x.cps[i]?=U c->d i a H->tt (U (sg c)::g) H λb j=>if b=af then k (U (sg c)::g) j λy h=>h D=U (.lst a)/\a.length<sizeLine/\d (i+1) (a++[y]) (upd h D (.lst (a++[y]))) else d (i+1) a j)
  (o:∀a H,d x.length a H->Q (.ref D) H):jv (Aa x) tt k g D H Q:=by
 refine⟨λi m a H=>m=x.length-i/\i<=x.length/\d i a H,⟨x.length,by simp,Yx _,q⟩,?_⟩;rintro i m a H ⟨rfl,n,p⟩;by_cases f:i<x.length
 ·refine .inr ⟨f,d (i+1),λu r l=>⟨x.length-(i+1),by omega,rfl,f,l⟩,λv r y=>?_⟩;obtain⟨e,c,t,rfl⟩:=y
  simp_all
 ·have e:i=x.length:=i1 n (gM f)
  subst e;exact .inl ⟨Yd _,o a H p⟩
def Zde(y:x.length<=100000)(p:H D=aJ)(f:Nat->V)
  (d:∀(i c:Nat),x.cps[i]?=U c->∀a,aj H a->∀s:VK,(∀m,aj a m->s (f c) m)->t (U (sg c)::v) a s)(l:∀n,aj H n->n D=U (.lst (x.cps.toList.map f))->Q (.ref D) n):jv (Aa x) zw t v D H Q:=by
 refine Zem (λi h a=>i<=x.length/\aj H a/\a D=U (.lst h)/\h=(x.cps.toList.take i).map f) ⟨Yx _,cK p _,aQ,rfl⟩ ?_ ?_
 ·rintro i c h a j ⟨_,g,k,e⟩;have w:i<x.length:=(Jy.mp j).1;refine kG (dq (d i c j a g _ λm r=>⟨r _ _ k,?_,w,?_,aQ,?_⟩))
  ·rw[e,Ya,Y8,c4];omega
  ·intro b o q;rw[aA (cA q p)];exact r _ _ (g _ _ q)
  ·have u:x.cps.toList[i]?=U c:=by rw[Jt];exact j
   rw[e,Y1,u,Yo];rfl
 ·rintro h a ⟨_,g,k,e⟩;refine l a g ?_;rw[k,e,W1 (by show x.cps.toList.length<=x.cps.size;simp)]
end L2
namespace L2
open PySem PySem.W PySem.Spec PyProof.Rows
def ZhE:Z V->Hp->VK->Prop:=λb H Q=>∃(p:O) (a:Z (Key×V)),b=[.ref p]/\H p=U (.dK a)/\Nw H (.lst (a.map λc=>kV c.1)) Q
theorem HK:∀{c:Z Key} {b:Z aY},b.length=c.length->(∀(j:Nat) (v:aY),b[j]?=U v->∃k,c[j]?=U k/\(dW P w).is k v=af)->Vals (c.map kV) b
 |[],[],_,_=>.nil
 |k::c,u::b,a,h=>by
  obtain⟨k',e,d⟩:=h 0 u rfl;have g:k=k':=by simpa using e
  subst g;refine .cons ?_ (HK (by simpa using a) λj v f=>by simpa using h (j+1) v (by simpa using f));rcases ng (d) with⟨i,t,rfl,rfl⟩|⟨x,t,rfl,rfl⟩;·exact⟨t,rfl⟩
  ·exact⟨t,rfl⟩
 |[],_::_,a,_=>by simp at a
 |_::_,[],a,_=>by simp at a
def Zbi(y:X.calm=af):dA X (.type "list") ZhE:=by
 rintro f s B H C D Q I r ⟨p,b,rfl,t,q⟩;obtain⟨u,rfl,l⟩:=vals1 r;obtain rfl:u=Value.ref p:=l;obtain⟨m,h,i,a,z⟩:=nI I.aw t;obtain⟨T,A⟩:=z.dictAt;have F:=a.length;refine kdl_call (kdl_dict h) (I.ok.hd y) A (by omega) λR E acc c n N g=>?_;have d:Vals (b.map λa=>kV a.1) acc.toList:=by
  have e:(b.map λa=>kV a.1)=(i.map (·.1)).map kV:=by rw[←a.keys,Y7];rfl
  rw[e];refine HK (P:=X.prog) (w:=X.w) (by rw[Wx,Ya];exact g.1) λj v L=>?_;obtain⟨k,x,G,J⟩:=g.2 j v (by rwa[←Jt])
  simp_all
 exact⟨.ref s.heap.objs.size,_,(I.laid (o:=.lst (b.map λa=>kV a.1)) n (Yd _) ⟨by rwa[Ya],acc.toList,c,d,by rwa[Dx]⟩),rfl,q.at _ (I.aw.fresh (Yd _))⟩
end L2
namespace L2
open PySem PySem.Spec PyProof.Rows
abbrev Cw(D:Z (ar×ar)):Z (ar×PyData):=D.map λp=>(p.1,PyData.str p.2)
def xg(K:ah)(a:O)(D:Z (ar×ar)):Prop:=KTD.tabLook KTD.flatLooks (λb=>K.lookup b) a (Cw D)=af
theorem yG(f:a->b)(k:ar):∀D:Z (ar×a),KTD.datumAt k (D.map λp=>(p.1,f p.2))=(KTD.datumAt k D).map f
 |[]=>rfl
 |p::D=>by
  rw[Wq];unfold KTD.datumAt;by_cases e:k=p.1;·simp[e]
  ·simp[e];exact yG f k D
def xg.here{K:ah}(t:xg K a D)(b:K.In h):KTD.Here h h a ((Cw D).map λp=>(p.1,KTD.Dat.flat p.2)):=
 ⟨KTD.TabOf.text (KTD.tab_of_look (λ_ _=>KTD.flat_of_looks) (b) t),λ_ _ e=>e⟩
def oQ(D:Z (ar×ar))(z:ar):cm:=(KTD.datumAt z D).isSome
def keys_has(D:Z (ar×ar))(z:ar):KTD.inKeys z ((Cw D).map λp=>(p.1,KTD.Dat.flat p.2))=oQ D z:=by
 rw[←KTD.isSome_datumAt,yG KTD.Dat.flat,yG PyData.str];unfold oQ
 grind
def ZhF(K:ah)(b:cm):R2:=λx y H Q=>∃(z:ar) (a:O) (D:Z (ar×ar)),x=.str z/\y=.ref a/\xg K a D/\Q (.bl (if b=af then !oQ D z else oQ D z)) H
def ZhG{K:ah}(e:X.K=K):cS X (compareOp .In) (ZhF K a7):=by
 subst e;rintro b s f H x y v u Q I d c ⟨z,a,D,rfl,rfl,t,q⟩;obtain⟨g,rfl⟩:=d;obtain rfl:u=Value.ref a:=c;refine KTD.in_text (t.here I.cO) ?_;rw[keys_has];exact⟨.bl (oQ D z),H,I.tok _,rfl,q⟩
def ZhH(K:ah):R2:=λx y H Q=>∃(a:O) (z r:ar) (D:Z (ar×ar)),x=.ref a/\y=.str z/\xg K a D/\KTD.datumAt z D=U r/\Q (.str r) H
theorem ZfT{K:ah}(A:X.K=K):jE X (ZhH K):=by
 subst A;intro b c f s B H x y v u Q I n m h w;obtain⟨a,z,r,D,rfl,rfl,t,e,q⟩:=h;obtain⟨k,rfl⟩:=m;obtain rfl:v=Value.ref a:=n;have T:=t.here I.cO;refine tail_any T.typeIs slot_dict_getitem.lookup ?_ w;unfold getItem;try with_reducible refine jd ?_
 refine bp (KZ T.typeIs (by decide) ?_);refine bp (z9 T.typeIs Mb
  (n7 Mb T.typeIs entry_dict_getitem ?_ (args_dict_getitem _ _)))
 show wpAny _ _ (dictGet a (.str z k)>>=_) _ _ s;have j:KTD.datumAt z ((Cw D).map λp=>(p.1,KTD.Dat.flat p.2))=U (.flat (.str r)):=by rw[yG KTD.Dat.flat,yG PyData.str,e];rfl
 refine bp (KTD.dictGet_text T (λd v i o=>cD ⟨v,rfl,cD ?_⟩) λg=>by rw[j] at g;cases g);rw[j] at i;cases i;cases o s.heap with
 |str x l=>exact⟨.str r,H,I.tok _,⟨l,rfl⟩,q⟩
def oK(h:bY X.prog X.w X.K X.mg X.base k m C p sp)(g:c5 j X.A)(n:k<=j)(i:PE X o d)
  (e:eval (.Call (.Attribute o m apos) [] [] pos) X.env=(do
   let a←eval o X.env
   standAt apos.atName
   let(f,first)←holding [a] (getMethod a m q)
   callWith pos f first (backTo pos (starEach [] X.env)) (backToKw pos (keywordEach [] X.env))):=by rfl):
  PE X (.Call (.Attribute o m apos) [] [] pos) (Cq C m sp [] E0 d jX):=by
 obtain⟨f,r,c,l,F,b⟩:=h;exact ZdP i c l F (g.mono n) b .nil ze e
def CO(K:ah)(b:cm):R2:=λx y H Q=>∃(p q:O) (a:Z V),x=.ref p/\y=.ref q/\ak K H p a/\ak K H q []/\Q (.bl (if b=af then !a.isEmpty else a.isEmpty)) H
theorem Sn(h:X.A.units<cLine):cS X (compareOp .Eq) (CO X.K a7):=by
 rintro d s w H x y v u Q I m l ⟨p,q,i,rfl,rfl,b,t,k⟩;cases m;cases l;obtain⟨D,c,g,B⟩:=I.list b;obtain⟨C,n,f,A⟩:=I.list t;cases n;have o:=c.length;cases i with
 |nil=>
  cases c;exact UA (e:=λ_=>af) g.isList f.isList rfl h (λj b _=>absurd b (by simp)) (cU I k (by simp))
 |cons a r=>exact Ac g.isList f.isList (by simp;intro z;subst z;simp at o) h (cU I k (by simp))
theorem ZhI(h:X.A.units<cLine):cS X (compareOp .NotEq) (CO X.K af):=by
 rintro d s w H x y v u Q I m l ⟨p,q,i,rfl,rfl,b,t,k⟩;cases m;cases l;obtain⟨D,c,g,B⟩:=I.list b;obtain⟨C,n,f,A⟩:=I.list t;cases n;have o:=c.length;cases i with
 |nil=>
  cases c;exact G2 (e:=λ_=>af) g.isList f.isList rfl h (λj b _=>absurd b (by simp)) _ _ _ _ (cU I k (by simp))
 |cons a r=>exact zQ g.isList f.isList (by simp;intro z;subst z;simp at o) h _ _ _ _ (cU I k (by simp))
def Zb5:dA X (.builtin "len") (λb H Q=>∃p a,b=[.ref p]/\H p=U (.dK a)/\Q (.int (a.length:Int)) H):=by
 rintro c s g H b h Q I r ⟨p,a,rfl,e,q⟩;obtain⟨u,rfl,d⟩:=vals1 r;obtain rfl:u=Value.ref p:=d;exact ZiJ I (.inl e) λt i f=>⟨.int (a.length:Int),H,f,⟨t,rfl⟩,q⟩
def aC.trans(g:aC D H c)(a:aC D c LY):aC D H LY:=λb o e n=>a b o (g b o e n) n
def Out(a:Z O)(H c:Hp):Prop:=∀b o,H b=U o->b∉a->c b=U o
def Out.of(g:aj H H'):Out fp H H':=λb o e _=>g b o e
def Out.trans(g:Out fp H c)(a:Out fp c LY):Out fp H LY:=λb o e n=>a b o (g b o e n) n
def Out.bar(g:aC a H H')(m:a∈fp):Out fp H H':=λb o e n=>g b o e λz=>n (by rwa[z])
def setC(h:u D (σ.set i (U v)) H):zo (ui (tC v) (qc i)) u D σ H:=h
def cC(h:a σ H λx b=>u D (σ.set i (U x)) b):zo (ui a (qc i)) u D σ H:=h
def dE(h:H a=U (.dK b))(e:aZ b (.inr z)=o):fE H a (.str z) o:=.inl ⟨b,.inr z,.inl h,rfl,e.symm⟩
section
variable {X:Cx}{P R tgt:cu}{xs:Z ar}{E:Pos}{N:Z cu}{W:Scope}{cl:Z (ar×O)}{fr:Z (ar×Nat)}{G:TG}{F:TT}{L:TE}{σ:St}
def ZhJ(n:Nat)(b:TI)(fr:Z (ar×Nat))(G:TG)(F:TT)(L:TE):TE:=λσ H Q=>b σ H λJ a=>∀D,a D=aJ->JE n J G F L (iK σ fr) D a Q
def Zen(p:X.calm=af)(a:qZ X W cl xs fr)(n:∀C s H fp,PG (dm X xs fr W cl C s H fp) tgt G)(l:PI X tgt R c)
  (i:∀C s H fp,uK (dm X xs fr W cl C s H fp) N F)(o:∀C s H fp,PE (dm X xs fr W cl C s H fp) P L)
  (j:∀x,foldedSetIterable R X.env x=pure x:=by intro _;rfl):PE X (.ListComp P [⟨tgt,R,N,0⟩] W E) (ZhJ xs.length c fr G F L):=by
 intro b s σ H Q I h;refine sF rfl j a.w8 a.kind a.names (az (l b s σ H _ I h) λv d t=>az t λuI s2 r=>?_);obtain⟨it,fp,tn,J,H2,e,I2,T,u,A,g⟩:=r;subst e;refine N6 p a n i o I2 T u A g ?_;intro D C d H1 m I1 k f0 B z y w q;exact⟨m,k,λh' f=>⟨.ref D,H1,I1.turned (f.extBut) f0 B (.inr z) y w,rfl,q⟩⟩
end
def Zb6{K:ah}(d:Nat->Z V->Hp->Prop)(z:d 0 [] (upd H D (.lst [])))(u:∀i b H,i<=xs.length->d i b H->ak K H a xs)
  (C:∀i v b H,xs[i]?=U v->d i b H->∀os:St,os.length=n->r v (os++k) H λf A=>(∃h:St,h.length=n/\f=h++k)/\tt f A λc o=>if c=af then s f o λy l=>l D=U (.lst b)/\b.length<sizeLine/\d (i+1) (b++[y]) (upd l D (.lst (b++[y]))) else d (i+1) b o)
  (w:∀b H,d xs.length b H->Q (.ref D) H):JE n (j_ K a) r tt s k D H Q:=by
 refine⟨λi m b H=>m=xs.length-i/\i<=xs.length/\d i b H,⟨xs.length,by simp,Yx _,z⟩,?_⟩;rintro i m b H ⟨rfl,j,p⟩;have q:=u i b H j p;by_cases g:i<xs.length
 ·refine .inr ⟨⟨xs,xs[i],q,by simp[g]⟩,d (i+1),λE B t=>⟨xs.length-(i+1),by omega,rfl,g,t⟩,λx B y=>?_⟩;obtain⟨e,y⟩:=y
  grind
 ·have e:i=xs.length:=i1 j (gM g)
  subst e;exact .inl ⟨⟨xs,q,Yd _⟩,w b H p⟩
abbrev sI(c e g d f:cu)(a:Scope)(b:Pos):cu:=.ListComp c [⟨e,g,[],0⟩,⟨d,f,[],0⟩] a b
theorem Zdf(I:Nat->bt->Prop)
  (c:∀n s,I n s->wpAny (model prog w) A (pyNext it) (λr f=>match r with
   |none=>R (.ok .next) f
   |some v=>wpAny (model prog w) A (letOwnedTupleGo g it v) (λ_ o=>wpAny (model prog w) A (assign g env v) (λ_ l=>
     wpAny (model prog w) A (eval elt env) (λx j=>
       wpAny (model prog w) A (call (.builtin "list.append") [acc,x]) (λ_ i=>∃m,m<n/\I m i) (notedBy (model prog w) A env λe a=>R (.error e) a) j) (notedBy (model prog w) A env λe a=>R (.error e) a) l) (notedBy (model prog w) A env λe a=>R (.error e) a) o) (notedBy (model prog w) A env λe a=>R (.error e) a) f) (notedBy (model prog w) A env λe a=>R (.error e) a) s)
  (n:Nat)(h:I n s):codeAny (model prog w) A (.compLoop (sI elt t1 z g y scope pos) 1 it acc env) R s:=by
 refine wd rfl I (λn s u=>w_ (bp (lp (bp (dk (c n s u) (λr f k=>?_) λ_ _ b=>b))))) n h;cases r with
 |none=>exact cD k
 |some v=>
  exact bp (dk k (λ_ o d=>bp (dk d (λ_ l t=>bp (u7 (bp (bp (dk t (λx j q=>bp (dk q (λ_ i p=>cD (cD ⟨rfl,p⟩)) λ_ _ b=>b)) λ_ _ b=>b))))) λ_ _ b=>b)) λ_ _ b=>b)
theorem Zdg(E:∀x,foldedSetIterable g env x=pure x)(I:Nat->bt->Prop)
  (c:∀n s,I n s->wpAny (model prog w) A (pyNext it) (λr i=>match r with
   |none=>R (.ok .next) i
   |some v=>wpAny (model prog w) A (letOwnedTupleGo t1 it v) (λ_ q=>wpAny (model prog w) A (assign t1 env v) (λ_ o=>
     wpAny (model prog w) A (eval g env) (λx p=>wpAny (model prog w) A (pyIter x) (λt k=>
      codeAny (model prog w) A (.compStart (sI elt t1 D B g scope pos) 1 t acc env) (λr j=>match r with|.ok _=>∃m,m<n/\I m j|.error _=>False) k)
      (notedBy (model prog w) A env λe a=>R (.error e) a) p) (notedBy (model prog w) A env λe a=>R (.error e) a) o) (notedBy (model prog w) A env λe a=>R (.error e) a) q) (notedBy (model prog w) A env λe a=>R (.error e) a) i) (notedBy (model prog w) A env λe a=>R (.error e) a) s)
  (n:Nat)(h:I n s):codeAny (model prog w) A (.compLoop (sI elt t1 D B g scope pos) 0 it acc env) R s:=by
 refine wd rfl I (λn s F=>w_ (bp (lp (bp (dk (c n s F) (λr i l=>?_) λ_ _ b=>b))))) n h;cases r with
 |none=>exact cD l
 |some v=>
  refine bp (dk l (λ_ q d=>bp (dk d (λ_ o C=>bp (u7 (bp (dk C (λx p z=>bp (lp ?_)) λ_ _ b=>b)))) λ_ _ b=>b)) λ_ _ b=>b);rw[E];refine bp (cD (bp (jd (dk z (λt k y=>bp (wpAny_runOwn (mr y λr j u=>?_))) λ_ _ b=>b))));cases r with
  |error e=>simp_all
  |ok f=>exact cD ⟨rfl,u⟩
theorem ZaI
  (g:codeAny (model prog w) A (.compLoop (sI elt t1 f d e scope pos) 1 it acc env) R s)
  (h:wpAny (model prog w) A (pyIter it) (λc a=>codeAny (model prog w) A (.compLoop (sI elt t1 f d e scope pos) 1 c acc env) R a) (notedBy (model prog w) A env λx a=>R (.error x) a) s):
  codeAny (model prog w) A (.compStart (sI elt t1 f d e scope pos) 1 it acc env) R s:=by
 refine TF (wpAny_notedAt (bp (wpAny_askSetting (wpAny_ite ?_))));split
 ·first
   |exact bp (cD (cD (rz rfl g)))
   |exact cD (rz rfl g)
 ·first
   |exact bp (tq (bp (lp (bp (dk h (λc a b=>cD (rz rfl b)) λ_ _ x=>x)))))
   |(refine bp (tq ?_);exact bp (lp (bp (dk h (λc a b=>cD (rz rfl b)) λ_ _ x=>x))))
def JT(n:Nat)(J:It)(E:TG)(C:TI)(B:TG)(A:TE)(h:St)(D:O)(H:Hp)(Q:VK):Prop:=
 ∃W:Nat->Nat->Z V->Hp->Prop,(∃m,W 0 m [] (upd H D (.lst [])))/\∀i m p H,W i m p H->
  (J.stop i H/\Q (.ref D) H)\/(J.go i H/\∃N:Z V->Hp->Prop,(∀e a,N e a->∃c,c<m/\W (i+1) c e a)/\
   ∀v a,J.sr i H v a->∀os:St,os.length=n->E v (os++h) a λj I=>(∃s:St,s.length=n/\j=s++h)/\C j I λo G=>
    ∃l:Nat->Nat->Z V->St->Hp->Prop,(∃g,l 0 g p j G)/\∀d g b k f,l d g b k f->
     (o.stop d f/\(∃q:St,q.length=n/\k=q++h)/\N b f)\/(o.go d f/\∃u:Z V->St->Hp->Prop,(∀e t a,u e t a->∃c,c<g/\l (d+1) c e t a)/\
      ∀r x,o.sr d f r x->B r k x λz F=>A z F λy w=>w D=U (.lst b)/\b.length<sizeLine/\u (b++[y]) z (upd w D (.lst (b++[y])))))
section
variable {X:Cx}{P L g B G:cu}{xs:Z ar}{F:Pos}{R:Scope}{cl:Z (ar×O)}{fr:Z (ar×Nat)}{A l:TG}{t:TI}{w:TE}{σ:St}
def Zb7{H2:Hp}{s2:bt}{it:O}{f:Z O}{tn:Nat->cI->Prop}{J:It}{Q:VK}{RR:aY->O->Result->bt->Prop}{E:bo}
  (hc:X.calm=af)(a:qZ X R cl xs fr)(hg:∀C s H f,PG (dm X xs fr R cl C s H f) L A)(L0:∀C s H f,PI (dm X xs fr R cl C s H f) B G t)(L3:∀C s H f,PG (dm X xs fr R cl C s H f) B l)(he:∀C s H f,PE (dm X xs fr R cl C s H f) P w)
  (sv:∀C x,foldedSetIterable G (compEnvC R cl C X.env) x=pure x)
  (I2:Inv X pins σ H2 s2)(T:Turn X.prog X.w X.K L J f it tn)(fh:tn 0 s2.heap)(f2:∀b∈f,jx X pins H2 b)
  (hw:∀D,H2 D=aJ->JT xs.length J A t l w (iK σ fr) D H2 Q)
  (hR:∀D C s1 H1 m,Inv X pins σ H1 s1->s1.heap.Ns C m->H1 C=aJ->C≠X.env.locals->X.dw.heap.objs.size<=C->(∀y c,X.env.cells.lookup y=U c->c≠C)->(∀p∈X.pn++pins,p.1≠C)->Q (.ref D) H1->RR (.ref D) C (.ok .next) s1):
  wpAny X.md X.A (newList []) (λacc eY=>wpAny X.md X.A (newFunctionEnv R X.env.globals cl [] X.env.qual aJ .none (U X.env)) (λnN jy=>
   codeAny X.md X.A (.compStart (sI P L g B G R F) 0 (.ref it) acc {nN with scope:=relabel R X.env}) (RR acc nN.locals) jy) E eY) E s2:=by
 refine Pt (tgt:=L) a I2 T fh f2 hR λD C s I eY hD e3 I4 xF kg fin=>?_;obtain⟨W,⟨m0,w0⟩,turn⟩:=hw D hD;rw[←e3] at w0;refine Zdg (sv _) (λk s'=>∃i ys H' os,os.length=xs.length/\Inv (dm X xs fr R cl C s I f) [] (os++iK σ fr) H' s'/\tn i s'.heap/\(∀b∈f,H' b=aJ)/\W i k ys H') ?_ m0
  ⟨0,[],_,List.replicate xs.length aJ,W8,I4,xF,kg,w0⟩
 rintro n s5 ⟨i,ys,H5,os,qB,I5,qA,lF,w5⟩;have nL:∀{H':Hp},(∀b∈f,H' b=aJ)->∀b∈f,jx (dm X xs fr R cl C s I f) [] H' b:=λ{H'} hn b h=>
  ⟨hn b h,(I5.ok.sh b h).1,I5.ok.rV b h,.inl h,(I5.ok.sh b h).2,λp hp=>absurd (show p∈([]:a8) from hp) (by simp)⟩
 rcases turn i n ys H5 w5 with⟨stop,qn⟩|⟨go,N,hN,step⟩
 ·refine az (T.done (dm X xs fr R cl C s I f) rfl rfl rfl hc i [] s5 _ H5 _ I5 (nL lF) qA stop) λr s6 q=>?_;obtain⟨hr,I6⟩:=q;subst hr;exact fin _ _ _ I6 qn
 ·refine az (T.item (dm X xs fr R cl C s I f) rfl rfl rfl hc i [] s5 _ H5 _ I5 (nL lF) qA go) λr s6 q=>?_;obtain⟨u,hr,h6⟩:=q;subst hr;refine az h6 λ_ s7 q=>?_;obtain⟨v,H7,I7,r7,y7,uL,LN⟩:=q;have LO:=I7.pinned (nL LN) (T.obj _ _ uL);refine dk (hg _ _ _ _ _ s7 _ H7 v u _ LO r7 (step v H7 y7 os qB)) (λ_ s8 q=>?_) λ _ _=>False.elim;obtain⟨σ8,H8,I8,⟨lI,K3,e8⟩,q8⟩:=q;subst e8;have again:∀{qC:St} {H9:Hp} {s9:bt} {qD:Z V},qC.length=xs.length->Inv (dm X xs fr R cl C s I f) ([]++rJ f s7.heap) (qC++iK σ fr) H9 s9->N qD H9->
    ∃m,m<n/\∃i ys H' os,os.length=xs.length/\Inv (dm X xs fr R cl C s I f) [] (os++iK σ fr) H' s9/\tn i s9.heap/\(∀b∈f,H' b=aJ)/\W i m ys H':=λ{qC H9 s9 qD} l1 I9 n9=>by
   obtain⟨m',hm,w9⟩:=hN qD H9 n9;refine⟨m',hm,i+1,qD,H9,qC,l1,I9.wg,T.keep _ _ _ uL λb h o e=>(I9.pin (b,o) (Yu _ (Yu _ (qY h e)))).1,λb h=>?_,w9⟩;obtain⟨o,e,d⟩:=T.obj _ _ uL b h;exact(I9.pin (b,o) (Yu _ (Yu _ (qY h e)))).2.1
  refine dk (L0 _ _ _ _ _ s8 _ H8 _ I8 q8) (λx s9 h9=>dk h9 (λuI LP h10=>?_) λ _ _=>False.elim) λ _ _=>False.elim;obtain⟨DG,L4,tn2,J2,qE,qI,LQ,T2,UG,L5,W2,⟨m2,w2⟩,ZiP⟩:=h10;subst qI;have Kr:∀{H':Hp},(∀b∈L4,H' b=aJ)->∀b∈L4,jx (dm X xs fr R cl C s I f) ([]++rJ f s7.heap) H' b:=λhn b h=>⟨hn b h,(L5 b h).2⟩;have TK:codeAny X.md X.A (.compLoop (sI P L g B G R F) 1 (.ref DG) (.ref D) (compEnvC R cl C X.env)) (λr nM=>match r with|.ok _=>∃m,m<n/\∃i ys H' os,os.length=xs.length/\Inv (dm X xs fr R cl C s I f) [] (os++iK σ fr) H' nM/\tn i nM.heap/\(∀b∈f,H' b=aJ)/\W i m ys H'|.error _=>False) LP:=by
   refine Zdf (λk s'=>∃j zs aK H',Inv (dm X xs fr R cl C s I f) ([]++rJ f s7.heap) aK H' s'/\tn2 j s'.heap/\(∀b∈L4,H' b=aJ)/\W2 j k zs aK H') ?_ m2 ⟨0,ys,_,qE,LQ,UG,λb h=>(L5 b h).1,w2⟩;rintro k LR ⟨j,zs,ZjG,z4,Dz,UH,UI,w11⟩;rcases ZiP j k zs ZjG z4 w11 with⟨stop,⟨xI,ZjH,e3⟩,qn⟩|⟨go,N2,hN2,ZiQ⟩
   ·refine az (T2.done (dm X xs fr R cl C s I f) rfl rfl rfl hc j _ LR _ z4 _ Dz (Kr UI) UH stop) λr s12 q=>?_;obtain⟨hr,I12⟩:=q;subst hr;subst e3;exact again ZjH I12 qn
   ·refine az (T2.item (dm X xs fr R cl C s I f) rfl rfl rfl hc j _ LR _ z4 _ Dz (Kr UI) UH go) λr s12 q=>?_;obtain⟨u2,hr,DH⟩:=q;subst hr;refine az DH λ_ s13 q=>?_;obtain⟨v2,DI,I13,r13,y13,K6,ZjI⟩:=q;have ZjJ:=I13.pinned (Kr ZjI) (T2.obj _ _ K6);refine dk (L3 _ _ _ _ _ s13 _ DI v2 u2 _ ZjJ r13 (ZiQ v2 DI y13)) (λ_ s14 q=>?_) λ _ _=>False.elim;obtain⟨ZjK,sJ,I14,q14⟩:=q;refine dk (he _ _ _ _ _ s14 _ sJ _ I14 q14) (λu1 s15 q=>?_) λ _ _=>False.elim;obtain⟨y,L6,I15,r15,hD,hz,nZ⟩:=q;refine dk (yE (X:=dm X xs fr R cl C s I f) _ s15 _ L6 (.ref D) [y] _ [u1] (λ_ H'=>N2 (zs++[y]) ZjK H') I15 rfl (.cons r15 .nil) ⟨_,zs,y,rfl,rfl,hD,hz,nZ⟩) (λ_ s16 q=>?_) λ_ _ z=>False.elim z;obtain⟨_,V9,L7,_,q16⟩:=q;obtain⟨m',hm,w16⟩:=hN2 _ _ _ q16;refine⟨m',hm,j+1,_,_,V9,L7.wg,T2.keep _ _ _ K6 λb h o e=>(L7.pin (b,o) (Yu _ (Yu _ (qY h e)))).1,λb h=>?_,w16⟩;obtain⟨o,e,d⟩:=T2.obj _ _ K6 b h;exact(L7.pin (b,o) (Yu _ (Yu _ (qY h e)))).2.1
  exact ZaI TK (T2.self _ 0 _ _ _ UG TK)
def ZhK(n:Nat)(b:TI)(fr:Z (ar×Nat))(A:TG)(t:TI)(l:TG)(w:TE):TE:=λσ H Q=>b σ H λJ a=>∀D,a D=aJ->JT n J A t l w (iK σ fr) D a Q
def Zeo(u:X.calm=af)(a:qZ X R cl xs fr)(p:∀C s H fp,PG (dm X xs fr R cl C s H fp) L A)(o:PI X L g c)(L0:∀C s H fp,PI (dm X xs fr R cl C s H fp) B G t)(L3:∀C s H fp,PG (dm X xs fr R cl C s H fp) B l)
  (r:∀C s H fp,PE (dm X xs fr R cl C s H fp) P w)(k:∀x,foldedSetIterable g X.env x=pure x:=by intro _;rfl)(d:∀C x,foldedSetIterable G (compEnvC R cl C X.env) x=pure x:=by intro _ _;rfl):
  PE X (.ListComp P [⟨L,g,[],0⟩,⟨B,G,[],0⟩] R F) (ZhK xs.length c fr A t l w):=by
 intro b s σ H Q I h;refine sF rfl k a.w8 a.kind a.names (az (o b s σ H _ I h) λv f z=>az z λuI s2 y=>?_);obtain⟨it,fp,tn,J,H2,e,I2,T,E,f2,j⟩:=y;subst e;refine Zb7 u a p L0 L3 r d I2 T E f2 j ?_;intro D C f H1 m I1 n f0 f1 f3 W N q;exact⟨m,n,λh' i=>⟨.ref D,H1,I1.turned (i.extBut) f0 f1 (.inr f3) W N,rfl,q⟩⟩
end
def eS{K:ah}(h:X.K=K)(b:PE X l a):PI X c l (Tc K a):=h▸QA b
def jr{X:Cx}{K:ah}{b:Pos}{a:Z cu}{k:Nat}{t:oY}{n:Nat}(h:X.K=K)(e:X.calm=af)(d:zP X a t)
  (c:(assignEach a X.env).length=n:=by rfl)(f:(assignEach a X.env).findIdx? (·.1)=aJ:=by rfl):PG X (.Tuple a k b) (Uq K n t):=h▸ZgR e d c f
def ZfU{K:ah}(h:Nat->Z V->Hp->Prop)(h0:h 0 [] (upd H D (.lst [])))(hl:∀i c H,i<=xs.length->h i c H->ak K H a xs)
  (hs:∀i v c H,xs[i]?=U v->h i c H->∀os:St,os.length=n->C v (os++E) H λt H2=>(∃W:St,W.length=n/\t=W++E)/\B t H2 λJ2 H3=>∃(b:O) (f:Z V) (g:Nat->Z V->St->Hp->Prop),J2=j_ K b/\g 0 c t H3/\
   (∀k c d H,k<=f.length->g k c d H->ak K H b f)/\
   (∀k s c d H,f[k]?=U s->g k c d H->nY s d H λAb H6=>te Ab H6 λy H7=>H7 D=U (.lst c)/\c.length<sizeLine/\g (k+1) (c++[y]) Ab (upd H7 D (.lst (c++[y]))))/\
   ∀c d H,g f.length c d H->(∃N:St,N.length=n/\d=N++E)/\h (i+1) c H)
  (hd:∀c H,h xs.length c H->Q (.ref D) H)(I:∀d H (R o:It->Hp->Prop),(∀J H,R J H->o J H)->B d H R->B d H o)(G:∀v d H (R o:St->Hp->Prop),(∀d H,R d H->o d H)->C v d H R->C v d H o):JT n (j_ K a) C B nY te E D H Q:=by
 refine⟨λi m c H=>m=xs.length-i/\i<=xs.length/\h i c H,⟨xs.length,by simp,Yx _,h0⟩,?_⟩;rintro i m c H ⟨rfl,hi,p⟩;have q:=hl i c H hi p;by_cases F:i<xs.length
 ·refine .inr ⟨⟨xs,xs[i],q,by simp[F]⟩,h (i+1),λgK H' A=>⟨xs.length-(i+1),by omega,rfl,F,A⟩,λx H' y os qB=>?_⟩;obtain⟨e,y⟩:=y;subst e;refine G _ _ _ _ _ (λt H2 zz=>?_) (hs i x c _ (y xs q) p os qB);obtain⟨h1,h2⟩:=zz;refine⟨h1,I _ _ _ _ (λJ2 H3 h3=>?_) h2⟩;obtain⟨b,f,g,rfl,w0,wl,ws,P⟩:=h3;refine⟨λk T j l r=>T=f.length-k/\k<=f.length/\g k j l r,⟨f.length,by simp,Yx _,w0⟩,?_⟩;rintro k T j l r ⟨rfl,X,w⟩;have z:=wl k j l r X w;by_cases L:k<f.length
  ·refine .inr ⟨⟨f,f[k],z,by simp[L]⟩,g (k+1),λgK aK H' A=>⟨f.length-(k+1),by omega,rfl,L,A⟩,λs H5 u=>?_⟩;obtain⟨e2,u⟩:=u;subst e2;exact ws k s j l _ (u f z) w
  ·have e:k=f.length:=i1 X (gM L)
   subst e;exact .inl ⟨⟨f,z,Yd _⟩,(P j l r w).1,(P j l r w).2⟩
 ·have e:i=xs.length:=i1 hi (gM F)
  subst e;exact .inl ⟨⟨xs,q,Yd _⟩,hd c H p⟩
section
variable {X:cZ}{w:cN}{W:Type}[DecidableEq W]{knd:PySem.KeyKind X w W}{A:eL}{E:bo}{s:bt}
theorem Zg{d:O}{a:Z (W×aY)}{k:W}{f b:aY}{Q:bo}(g:knd.is k f=af)(C:s.heap.DictOf knd d a)
  (t:∀v,valueAt a k=U v->Q v {s with toks:=s.toks+1})
  (r:valueAt a k=aJ->∀q,q.DictOf knd d (stored a k b)->Heap.SameBut d s.heap q->Q b {s with heap:=q,toks:=s.toks+1})
  (B:a.length<=sizeLine):wpAny (model X w) A (dictSetDefault d f b) Q E s:=by
 obtain⟨o,c,H,j,G,hd,u,h,J⟩:=C;have D:c.size<=sizeLine:=by
  have L:=h.length
  grind
 have y:∀x,findBy knd.is c x=valueAt a x:=λx=>by
  rw[←h.find x];simp[findBy]
 unfold dictSetDefault;try with_reducible refine jd ?_
 refine bp (knd.pyHash g (bp (wpAny_dictFind_of g j hd u ?_)));have I:(c.findIdx? λe=>knd.is k e.key)=a.findIdx? λn=>decide (n.1=k):=by
  rw[←h.findIdx k];obtain⟨l⟩:=c;simp
 cases p:c.findIdx? λe=>knd.is k e.key with
 |some i=>
  have m:valueAt a k=(c[i]?).map (·.val):=by rw[←y k,Eo,p]
  refine bp (K7 j hd ?_);cases F:c[i]? with
  |none=>
   have:=Array.findIdx?_eq_some_iff_findIdx_eq.mp p
   grind
  |some e=>
   rw[F] at m;exact bp (tq (cD (t e.val m)))
 |none=>
  have m:valueAt a k=aJ:=by rw[←y k,Eo,p]
  have z:¬(a.any λn=>decide (n.1=k))=af:=by
   grind
  refine bp (tq (bp (Ct j hd (cD (r m _ ⟨_,_,H+1,Wy _ j (DP (sH hd _)),
   G.mapDictKeys _,sH hd _,u.push g _,?_,?_⟩ (D8 ..))))))
  ·rw[stored,bR z];have:=h.append g (knd.hash k) b
   grind
  ·rw[stored,bR z,Yo,Wr]
   grind
def ZD(h:knd.is k key=af)(m:(d==sysModules)=a7)(a:aY):
  MeetsIn X w (Builtin.«dict.setdefault» ⟨[.ref d,key,a],[]⟩) (λ_ R s=>∃b,s.heap.DictOf knd d b/\b.length<=sizeLine/\
   (∀v,valueAt b k=U v->R (.ok (.ret v)) {s with toks:=s.toks+1})/\
   (valueAt b k=aJ->∀c,c.DictOf knd d (stored b k a)->Heap.SameBut d s.heap c->R (.ok (.ret a)) {s with heap:=c,toks:=s.toks+1})):=
 .of_wp λA R s ⟨b,f,i,o,n⟩=>by
  refine bp (bp (B1 f.typeIs (cD ?_)));show wpAny _ _ (if(d==sysModules)=af then _ else(dictSetDefault d key a>>=_)) _ _ s;rw[bR (by rw[m];exact Yi)];exact bp (Zg h f (λv j=>cD ⟨v,rfl,o v j⟩) (λl c e g=>cD ⟨a,rfl,n l c e g⟩) i)
end
theorem Zep(I:Inv X pins σ H s)(e:H a=U (.dK b))(p:RelV (kV k) u)(o:RelV z r)(l:b.length<sizeLine)
  (F:∀v h g,aZ b k=U v->Inv X pins σ H g->RelV v h->Q h g)(D:∀g,aZ b k=aJ->Inv X pins σ (upd H a (.dK (putK b k z))) g->Q r g):
  wpAny X.md A (call (.builtin "dict.setdefault") [.ref a,u,r]) Q E s:=by
 obtain⟨G,hd,i,c,n⟩:=nI I.aw e;have t:i.length<=sizeLine:=by rwa[←c.length]
 have f:=c.val k;refine my zC n.typeIs PySem.F.entry_dict_setdefault (PySem.F.args_dict_setdefault_3 _ _ _) (ZD (nH p) hd r) ⟨i,n,t,λv m=>?_,λB J j w=>?_⟩
 ·cases d:aZ b k with
  |none=>rw[d,m] at f;cases f
  |some x=>
   rw[d,m] at f;exact F x v _ d (I.tok _) f
 ·have d:aZ b k=aJ:=by
   cases d:aZ b k with
   |none=>rfl
   |some x=>rw[d,B] at f;cases f
  have C:(putK b k z).length<=sizeLine:=by have:=A1 b k z;exact d6 this (ot l)
  exact D _ d (tR I (by exact e▸hY) w (let⟨q,_,_,y,_⟩:=j;⟨q,y⟩) (y8 C hd (c.put k o) j))
def Ij(h f g:TE):TE:=λc H Q=>h c H λx e=>∃a,x=.ref a/\z_ e a/\f c e λy i=>g c i λz d=>∃b k,d a=U (.dK b)/\y=kV k/\b.length<sizeLine/\
 (∀v,aZ b k=U v->Q v d)/\(aZ b k=aJ->Ch d a (.dK (b++[(k,z)])) (Q z))
def ZfV(g f:TE):TE:=λc H Q=>g c H λx e=>∃a,x=.ref a/\z_ e a/\f c e λy d=>∃b k v,d a=U (.dK b)/\y=kV k/\aZ b k=U v/\Ch d a (.dK (iM b k)) (Q v)
def Oi(R:PE X o q)(W:PE X e ty)(T:PE X f p)(m:M2 X o "setdefault" apos e f cE):PE X (.Call (.Attribute o "setdefault" apos) [e,f] [] cE) (Ij q ty p):=by
 intro b s i H Q I h;refine sT m.base m.fZ m.line pA zC PySem.F.type_dict_setdefault (az (R b s i H _ I h) λu B n=>?_);obtain⟨x,H1,l,D,a,ex,d,L⟩:=n;subst ex;obtain rfl:u=Value.ref a:=D;obtain⟨t,r,_⟩:=wM l d;refine⟨t,r,?_⟩;rw[m.trees];refine l_ rfl (pz (n5 (az (W b B i H1 _ l L) λiv A ⟨y,H2,I2,C,J⟩=>
  n5 (az (T b A i H2 _ I2 J) λfv s3 ⟨z,H3,I3,j,P,k,ea,ey,N,G,F⟩=>rb ?_))))
 subst ey;refine Zep I3 ea C j N (λv w' w c g E=>⟨v,H3,g,E,G v c⟩) λw c g=>?_;rw[mj _ c] at g;exact⟨z,_,g,j,(F c).at⟩
def OX(B:PE X o i)(C:PE X e ty)(m:M1 X o "pop" apos e G):PE X (.Call (.Attribute o "pop" apos) [e] [] G) (ZfV i ty):=by
 intro b s c H Q I h;refine sT m.base m.fZ m.line pA slot_dict_pop PySem.F.type_dict_pop (az (B b s c H _ I h) λu p g=>?_);obtain⟨x,N,f,r,a,E,d,w⟩:=g;subst E;obtain rfl:u=Value.ref a:=r;obtain⟨n,j,_⟩:=wM f d;refine⟨n,j,?_⟩;rw[m.trees];refine l_ rfl (pz (n5 (az (C b p c N _ f w) λW T zz=>?_)));obtain⟨y,H2,L,q,z,k,v,F,D,l,t⟩:=zz;refine rb ?_;subst D;exact ZiI L F q l (.inl rfl) λP R J A=>⟨v,_,J,A,t.at⟩
end L2
namespace L2
open PySem PySem.W PySem.Calls PySem.Spec PyProof.Rows
def fF{c:Type}(n:Nat)(P:c->Prop):KasT c->Prop
 |.ret a=>P a
 |.ask i j k=>i<n/\j<n/\∀b,fF n P (k b)
theorem fF.bind{c d:Type}{n:Nat}{P:c->Prop}{Q:d->Prop}{f:c->KasT d}(e:∀a,P a->fF n Q (f a)):∀{t:KasT c},fF n P t->fF n Q (t.bind f)
 |.ret a,h=>e a h
 |.ask _ _ _,h=>⟨h.1,h.2.1,λb=>fF.bind e (h.2.2 b)⟩
def Good(n:Nat)(p:cW Nat):Prop:=0<n/\p.Perm (List.range n).toArray
def Good.get(g:Good n p)(m:Nat):p.getD m 0<n:=by
 by_cases h:m<p.size
 ·have e:p.getD m 0=p[m]:=by rw[Wb,W5 h];rfl
  rw[e];have:=g.2.mem_iff.mp (Xw h);simpa using this
 ·have e:p.getD m 0=0:=by rw[Wb,V8 (gM h)];rfl
  rw[e];exact g.1
def Good.rev(g:Good n p)(i j:Nat):Good n (kas_rev p i j):=⟨g.1,(mirror_perm p i j _).trans g.2⟩
theorem Ik(g:Good n p):∀f m,fF n (λ_=>True) (kas_asc p f m)
 |0,_=>trivial
 |f+1,m=>⟨g.get m,g.get (m-1),λb=>by
  cases b with
  |true=>(dsimp only;rw[bS rfl]);exact trivial
  |false=>(dsimp only;rw[bR Yi]);exact Ik g f (m+1)⟩
theorem Bh:∀f (p:cW Nat) m q,Good n p->fF n (λr=>Good n r.1) (kas_desc f p m q)
 |0,_,_,_,g=>g
 |f+1,p,m,q,g=>⟨g.get m,g.get (m-1),λb=>by
  cases b with
  |true=>
   split;·exact Bh f _ _ _ (g.rev _ _)
   ·exact Bh f _ _ _ g
  |false=>
   refine⟨g.get (m-1),g.get m,λd=>?_⟩;cases d with
   |true=>(dsimp only;rw[bS rfl]);exact g
   |false=>(dsimp only;rw[bR Yi]);exact Bh f _ _ _ g⟩
def Oj(g:Good n p):fF n (λr=>Good n r.2) (kas_tail3 m k p):=by
 refine fF.bind (λa _=>?_) (Ik (g.rev 0 m) _ _);exact g.rev 0 m
def NI(g:Good n p):fF n (λr=>Good n r.2) (kas_descPart m k p):=by
 refine fF.bind (λr a=>?_) (Bh _ p _ _ g);split;·exact Oj (Good.rev a _ _)
 ·exact Oj a
theorem Ol(g:Good n p):fF n (λr=>Good n r.2) (kas_count k p):=by
 refine fF.bind (λm _=>?_) (Ik g _ _);split;·exact g
 ·split
  ·refine⟨g.get _,g.get _,λb=>?_⟩;cases b with
   |true=>(dsimp only;rw[bS rfl]);exact g
   |false=>(dsimp only;rw[bR Yi]);exact NI (g.rev _ _)
  ·exact NI g
theorem GR(g:Good n p):∀f l r,fF n (λ_=>True) (kas_place p k f l r)
 |0,_,_=>trivial
 |f+1,l,r=>by
  unfold kas_place;split;·exact trivial
  ·refine⟨g.get _,g.get _,λb=>?_⟩;cases b with
   |true=>(dsimp only;rw[bS rfl]);exact GR g f _ _
   |false=>(dsimp only;rw[bR Yi]);exact GR g f _ _
theorem PQ{n:Nat}:∀f (p:cW Nat) k,Good n p->fF n (Good n) (kas_bin f p k)
 |0,_,_,g=>g
 |f+1,p,k,g=>fF.bind (λl _=>PQ f _ _ ⟨g.1,(bubble_perm p k _).trans g.2⟩) (GR g _ _ _)
def Zdh(h:0<n):fF n (Good n) (kas_sort n):=by
 refine fF.bind (λr a=>?_) (Ol ⟨h,u9 _⟩);split;·exact PQ _ _ _ a
 ·exact a
def range_getD(vs:Z α)(d:α):(List.range vs.length).map (λi=>vs.getD i d)=vs:=by
 rw[pR vs _ id λi v h=>by rw[Yg,h];rfl];exact List.map_id _
def Ce(h:cI)(b:Z aY):Prop:=∀v∈b,∃(a:O) (o:Obj) (n:Nat) (x y:Int) (t u:Tok),v=.ref a/\h.get? a=U o/\o.cls=.type "tuple"/\o.data=.seq #[.int x t,.int y u] n
theorem Ce.V_:∀{b:Z aY},Ce h b->∃fs:Z aY,KatTups h b fs/\fs.length=b.length/\∀v∈fs,∃x t,v=Value.int x t
 |[],_=>⟨[],KatTups.nil,rfl,λ_ h=>by cases h⟩
 |v::b,c=>by
  obtain⟨a,o,n,x,y,t,u,rfl,j,i,g⟩:=c v Yk;obtain⟨fs,e,d,k⟩:=Ce.V_ λz f=>c z (Yw _ f);refine⟨.int x t::fs,KatTups.cons j i g rfl e,by rw[Wg,Wg,d],λv c=>?_⟩
  grind
theorem OY:∀{c:Z O} {b:Z aY},Vals (c.map V.ref) b->b=c.map Value.ref
 |[],_,.nil=>rfl
 |a::c,u::b,.cons r t=>by
  rw[r,OY t,Wq]
theorem OZ:∀a:Z O,Vals (a.map V.ref) (a.map Value.ref)
 |[]=>.nil
 |_::a=>.cons rfl (OZ a)
def Run{b:Type}(c:Nat->Nat->cm):KasT b->b
 |.ret a=>a
 |.ask i j k=>Run c (k (c i j))
theorem Run.bind:∀t:KasT α,Run lt (t.bind f)=Run lt (f (Run lt t))
 |.ret _=>rfl
 |.ask i j k=>Run.bind (k (lt i j))
theorem fF.run(b:∀i j (C:cm->bt->Prop),i<n->j<n->C (lt i j) s->cmp i j C s):∀{t:KasT α},fF n P t->G (Run lt t) s->t.kasWp cmp G s
 |.ret _,_,a=>a
 |.ask i j k,h,a=>b i j _ h.1 h.2.1 (fF.run b (h.2.2 _) a)
structure lL(n:Nat)(lt:Nat->Nat->cm):Prop where
 trans:∀i j k,i<n->j<n->k<n->lt i j=af->lt j k=af->lt i k=af
 DL:∀i j,i<n->j<n->i≠j->lt i j=a7->lt j i=af
 ZjM:∀i j,i<n->j<n->lt i j=af->lt j i=a7
def Sd(a:Nat->Nat->cm)(p:cW Nat)(m:Nat):Prop:=∀i j,i<j->j<m->a (p.getD i 0) (p.getD j 0)=af
def Ds(a:Nat->Nat->cm)(p:cW Nat)(m:Nat):Prop:=∀i j,i<j->j<m->a (p.getD j 0) (p.getD i 0)=af
def Good.size(g:Good n p):p.size=n:=by
 have:=g.2.size_eq
 grind
def Good.ne(g:Good n p)(h:i<n)(f:j<n)(d:i≠j):p.getD i 0≠p.getD j 0:=by
 have a:p.toList.Nodup:=by
  have:=(Jz.mp g.2).nodup_iff.mpr (by simpa using Pw);exact this
 have sz:=g.size;have e:∀k (b:k<n),p.getD k 0=p.toList[k]'(by rw[Wx];omega):=λk b=>by
  simp_all
 have c:=W7.mp a
 rw[e i h,e j f];intro z;rcases Nat.lt_or_gt_of_ne d with q|q;·exact c _ _ _ _ q z
 ·exact c _ _ _ _ q z.symm
section
variable {n:Nat}{lt:Nat->Nat->cm}
def QV(L:lL n lt)(g:Good n p)(f:1<=m)(a:Sd lt p m)(h:lt (p.getD (m-1) 0) (p.getD m 0)=af):Sd lt p (m+1):=by
 intro i j b d;by_cases e:j=m
 ·subst e;by_cases c:i=j-1;·rwa[c]
  ·exact L.trans _ _ _ (g.get _) (g.get _) (g.get _) (a i (j-1) (by omega) (by omega)) h
 ·exact a i j b (by omega)
def ZfW(L:lL n lt)(g:Good n p)(f:1<=m)(a:Ds lt p m)(h:lt (p.getD m 0) (p.getD (m-1) 0)=af):Ds lt p (m+1):=by
 intro i j b c;by_cases e:j=m
 ·subst e;by_cases d:i=j-1;·rwa[d]
  ·exact L.trans _ _ _ (g.get _) (g.get _) (g.get _) h (a i (j-1) (by omega) (by omega))
 ·exact a i j b (eH (fb c) e)
theorem BR(L:lL n lt)(g:Good n p):∀f m,1<=m->m+f<=n->Sd lt p m->Sd lt p (Run lt (kas_asc p f m))/\m<=Run lt (kas_asc p f m)/\Run lt (kas_asc p f m)<=m+f
 |0,m,_,_,h=>⟨h,Yd _,Yd _⟩
 |f+1,m,i,k,h=>by
  have e:Run lt (kas_asc p (f+1) m)=Run lt (if lt (p.getD m 0) (p.getD (m-1) 0)=af then KasT.ret m else kas_asc p f (m+1)):=rfl;rw[e];by_cases c:lt (p.getD m 0) (p.getD (m-1) 0)=af
  ·rw[bS c];exact⟨h,Yd _,by show m<=_;exact sq _ _⟩
  ·rw[bR c];have j:lt (p.getD m 0) (p.getD (m-1) 0)=a7:=by cases z:lt (p.getD m 0) (p.getD (m-1) 0) with|true=>exact absurd z c|false=>rfl
   obtain⟨a,b,d⟩:=BR L g f (m+1) (lK i) (by omega) (QV L g i h (L.DL _ _ (g.get _) (g.get _) (g.ne (by omega) (by omega) (by omega)) j))
   grind
theorem PR(L:lL n lt)(g:Good n p):∀f m,1<=m->m+f<=n->Ds lt p m->∃h,Run lt (kas_desc f p m 0)=(p,h,0)/\Ds lt p h/\m<=h/\h<=m+f
 |0,m,_,_,ds=>⟨m,rfl,ds,Yd _,Yd _⟩
 |f+1,m,i,l,ds=>by
  have e:Run lt (kas_desc (f+1) p m 0)=Run lt (if lt (p.getD m 0) (p.getD (m-1) 0)=af then(if 0>0 then kas_desc f (kas_rev p (m-(0+1)) m) (m+1) 0 else kas_desc f p (m+1) 0) else KasT.ask (p.getD (m-1) 0) (p.getD m 0) λd=>if d=af then KasT.ret (p,m,0) else kas_desc f p (m+1) (0+1)):=rfl;rw[e];by_cases c:lt (p.getD m 0) (p.getD (m-1) 0)=af
  ·rw[bS c,bR (by decide)];obtain⟨h,a,b,d,o⟩:=PR L g f (m+1) (lK i) (by omega) (ZfW L g i ds c)
   (simp_all;omega)
  ·rw[bR c];have k:lt (p.getD m 0) (p.getD (m-1) 0)=a7:=by cases z:lt (p.getD m 0) (p.getD (m-1) 0) with|true=>exact absurd z c|false=>rfl
   have j:Run lt (KasT.ask (p.getD (m-1) 0) (p.getD m 0) λd=>if d=af then KasT.ret (p,m,0) else kas_desc f p (m+1) (0+1))=Run lt (if lt (p.getD (m-1) 0) (p.getD m 0)=af then KasT.ret (p,m,0) else kas_desc f p (m+1) (0+1)):=rfl;rw[j,bS (L.DL _ _ (g.get m) (g.get (m-1)) (g.ne (by omega) (by omega) (by omega)) k)];exact⟨m,rfl,ds,Yd _,sq _ _⟩
def QW(a:m<=p.size)(b:i<m):(kas_rev p 0 m).getD i 0=p.getD (m-1-i) 0:=by
 unfold kas_rev;rw[Wb,getElem?_mirror_all a,i2 ⟨Yx _,b⟩,←Wb]
 congr 1
 omega
def Zdi(L:lL n lt)(g:Good n p)(l:1<=m)(k:m<=n)(o:Ds lt p m):Good n (Run lt (kas_tail3 m n p)).2/\Sd lt (Run lt (kas_tail3 m n p)).2 (Run lt (kas_tail3 m n p)).1/\m<=(Run lt (kas_tail3 m n p)).1/\(Run lt (kas_tail3 m n p)).1<=n:=by
 have f:Sd lt (kas_rev p 0 m) m:=λi j h d=>by
  rw[QW (by rwa[g.size]) (nq h d),QW (by rwa[g.size]) d];exact o _ _ (by omega) (by omega)
 have e:Run lt (kas_tail3 m n p)=(Run lt (kas_asc (kas_rev p 0 m) (n-m) m),kas_rev p 0 m):=by
  unfold kas_tail3;rw[Run.bind];rfl
 obtain⟨a,b,c⟩:=BR L (g.rev 0 m) (n-m) m l (mD (t5 k)) f;rw[e];exact⟨g.rev 0 m,a,b,by omega⟩
def Zdj(L:lL n lt)(g:Good n p):Good n (Run lt (kas_count n p)).2/\Sd lt (Run lt (kas_count n p)).2 (Run lt (kas_count n p)).1/\1<=(Run lt (kas_count n p)).1/\(Run lt (kas_count n p)).1<=n:=by
 have s:=g.1;obtain⟨f,h,D⟩:=BR L g (n-1) 1 (Yd _) (by omega) (λi j u v=>by omega);have e:Run lt (kas_count n p)=Run lt (if(Run lt (kas_asc p (n-1) 1)==n)=af then KasT.ret (Run lt (kas_asc p (n-1) 1),p) else if Run lt (kas_asc p (n-1) 1)>1 then KasT.ask (p.getD 0 0) (p.getD (Run lt (kas_asc p (n-1) 1)-1) 0) λc=>if c=af then KasT.ret (Run lt (kas_asc p (n-1) 1),p) else kas_descPart (Run lt (kas_asc p (n-1) 1)) n (kas_rev p 0 (Run lt (kas_asc p (n-1) 1))) else kas_descPart (Run lt (kas_asc p (n-1) 1)) n p):=by
  unfold kas_count;rw[Run.bind]
 rw[e];generalize k:Run lt (kas_asc p (n-1) 1)=r at f h D;by_cases q:(r==n)=af
 ·rw[bS q];exact⟨g,f,h,by show r<=n;omega⟩
 ·rw[bR q];have B:r≠n:=λz=>q (beq_iff_eq.mpr z);by_cases l:r>1
  ·rw[bS l];have G:Run lt (KasT.ask (p.getD 0 0) (p.getD (r-1) 0) λc=>if c=af then KasT.ret (r,p) else kas_descPart r n (kas_rev p 0 r))=Run lt (if lt (p.getD 0 0) (p.getD (r-1) 0)=af then KasT.ret (r,p) else kas_descPart r n (kas_rev p 0 r)):=rfl;rw[G,bS (f 0 (r-1) (Nat.sub_pos_of_lt l) (by omega))];exact⟨g,f,h,by show r<=n;omega⟩
  ·rw[bR l];have C:r=1:=i1 (gM l) h
   subst C;have hd:lt (p.getD 1 0) (p.getD 0 0)=af:=by
    have:n-1=(n-2)+1:=by omega
    rw[this] at k;have F:Run lt (kas_asc p (n-2+1) 1)=Run lt (if lt (p.getD 1 0) (p.getD (1-1) 0)=af then KasT.ret 1 else kas_asc p (n-2) (1+1)):=rfl;rw[F] at k;by_cases c:lt (p.getD 1 0) (p.getD (1-1) 0)=af;·exact c
    ·rw[bR c] at k;have H:lt (p.getD 1 0) (p.getD (1-1) 0)=a7:=by cases z:lt (p.getD 1 0) (p.getD (1-1) 0) with|true=>exact absurd z c|false=>rfl
     have I:=QV L g (Yd _) (λi j u v=>by omega) (L.DL _ _ (g.get _) (g.get _) (g.ne (eH (mz s) B) s (by decide)) H);obtain⟨_,b,_⟩:=BR L g (n-2) 2 (by decide) (by omega) I;rw[show 1+1=2 from rfl] at k;omega
   have o:Ds lt p 2:=λi j u v=>by
    obtain rfl:j=1:=by omega
    obtain rfl:i=0:=by omega
    exact hd
   obtain⟨t,a,b,c,d⟩:=PR L g (n-(1+1)) (1+1) (by decide) (by omega) o;have E:Run lt (kas_descPart 1 n p)=Run lt (kas_tail3 t n p):=by
    unfold kas_descPart;rw[Run.bind,a];dsimp only;rw[bR (by decide)]
   rw[E];obtain⟨A,y,x,w⟩:=Zdi L g (m:=t) (zi c) (by omega) b;exact⟨A,y,zi (dI c x),w⟩
theorem QX(L:lL n lt)(g:Good n p)(a:Sd lt p n):∀f m,1<=m->m+f<=n->Run lt (kas_asc p f m)=m+f
 |0,_,_,_=>rfl
 |f+1,m,c,b=>by
  have e:Run lt (kas_asc p (f+1) m)=Run lt (if lt (p.getD m 0) (p.getD (m-1) 0)=af then KasT.ret m else kas_asc p f (m+1)):=rfl;rw[e,lg (by rw[L.ZjM _ _ (g.get _) (g.get _) (a (m-1) m (by omega) (by omega))];exact Yi),QX L g a f (m+1) (by omega) (by omega)];omega
def Zdk(L:lL n lt)(g:Good n p)(a:Sd lt p n):Run lt (kas_count n p)=(n,p):=by
 have b:=g.1;unfold kas_count;rw[Run.bind,(QX L g a (n-1) 1 (Yd _) (by omega)),i2 (beq_iff_eq.mpr (t5 (mz b)))];show(1+(n-1),p)=(n,p)
 grind
theorem HL(L:lL n lt)(g:Good n p)(u:k<n)(j:Sd lt p k):∀f l r,l<=r->r<=k->r-l<=f->(∀i,i<l->lt (p.getD i 0) (p.getD k 0)=af)->(∀i,r<=i->i<k->lt (p.getD k 0) (p.getD i 0)=af)->
  Run lt (kas_place p k f l r)<=k/\(∀i,i<Run lt (kas_place p k f l r)->lt (p.getD i 0) (p.getD k 0)=af)/\∀i,Run lt (kas_place p k f l r)<=i->i<k->lt (p.getD k 0) (p.getD i 0)=af
 |0,l,r,v,a,x,q,o=>⟨by show l<=k;exact dI v a,q,λi (b:l<=i) h=>o i (by omega) h⟩
 |f+1,l,r,v,a,x,q,o=>by
  rw[kas_place];by_cases c:l≥r
  ·rw[bS c];exact⟨by show l<=k;exact dI v a,q,λi (b:l<=i) h=>o i (dI c b) h⟩
  ·rw[bR c];have w:l<=(l+r)/2:=by omega
   have d:(l+r)/2<r:=by omega
   generalize(l+r)/2=m at w d;have y:Run lt (KasT.ask (p.getD k 0) (p.getD m 0) λc=>if c=af then kas_place p k f l m else kas_place p k f (m+1) r)=Run lt (if lt (p.getD k 0) (p.getD m 0)=af then kas_place p k f l m else kas_place p k f (m+1) r):=rfl;rw[y];by_cases s:lt (p.getD k 0) (p.getD m 0)=af
   ·rw[bS s];refine HL L g u j f l m w (qH (iy d a)) (by omega) q λi b h=>?_;by_cases e:i=m;·rwa[e]
    ·exact L.trans _ _ _ (g.get _) (g.get _) (g.get _) s (j m i (eH b (Ne.symm e)) h)
   ·rw[bR s];have A:lt (p.getD k 0) (p.getD m 0)=a7:=by cases z:lt (p.getD k 0) (p.getD m 0) with|true=>exact absurd z s|false=>rfl
    have t:=L.DL _ _ (g.get k) (g.get m) (g.ne u (hT (hT d a) (m6 u)) (Nat.ne_of_gt (iy d a))) A;refine HL L g u j f (m+1) r (mz d) a (by omega) (λi b=>?_) o;by_cases e:i=m;·rwa[e]
    ·exact L.trans _ _ _ (g.get _) (g.get _) (g.get _) (j i m (eH (fb b) e) (iy d a)) t
theorem QY(L:lL n lt):∀f (p:cW Nat) k,Good n p->k+f=n->Sd lt p k->Good n (Run lt (kas_bin f p k))/\Sd lt (Run lt (kas_bin f p k)) n
 |0,p,k,g,e,d=>by
  have A:k=n:=by omega
  refine⟨g,?_⟩;rw[←A];exact d
 |f+1,p,k,g,e,d=>by
  have v:k<n:=by omega
  obtain⟨a,b,c⟩:=HL L g v d k 0 k (Yx _) (Yd _) (by omega) (λi w=>absurd w (Wu _)) (λi D C=>by omega);have y:Run lt (kas_bin (f+1) p k)=Run lt (kas_bin f (bubble p k (k-Run lt (kas_place p k k 0 k))) (k+1)):=by
   rw[kas_bin,Run.bind]
  rw[y];generalize Run lt (kas_place p k k 0 k)=l at a b c;have x:Good n (bubble p k (k-l)):=⟨g.1,(bubble_perm p k _).trans g.2⟩;have sz:=g.size;have get:∀i,(bubble p k (k-l)).getD i 0=if i=l then p.getD k 0 else if l<i/\i<=k then p.getD (i-1) 0 else p.getD i 0:=λi=>by
   have h:=getElem?_bubble (xs:=p) (src:=k) (by omega) (k-l) (by omega) i;rw[show k-(k-l)=l by omega] at h;rw[Wb,h];by_cases z:i=l;·rw[i2 z,i2 z,←Wb]
   ·rw[lg z,lg z];by_cases m:l<i/\i<=k;·rw[i2 m,i2 m,←Wb]
    ·rw[lg m,lg m,←Wb]
  refine QY L f _ (k+1) x (by omega) λi j t B=>?_;rw[get i,get j];by_cases s:i=l
  ·rw[i2 s,lg (by omega),i2 (by omega)];exact c (j-1) (by omega) (by omega)
  ·rw[lg s];by_cases r:l<i/\i<=k
   ·rw[i2 r,lg (by omega),i2 (by omega)];exact d (i-1) (j-1) (by omega) (by omega)
   ·rw[lg r];have u:i<l:=by omega
    by_cases q:j=l;·rw[i2 q];exact b i u
    ·rw[lg q];by_cases o:l<j/\j<=k
     ·rw[i2 o];exact d i (j-1) (by omega) (by omega)
     ·rw[lg o];exact d i j t (by omega)
def Zeq(L:lL n lt)(h:0<n):Good n (Run lt (kas_sort n))/\Sd lt (Run lt (kas_sort n)) n:=by
 obtain⟨a,b,c,d⟩:=Zdj L ⟨h,u9 _⟩;have e:Run lt (kas_sort n)=Run lt (if(Run lt (kas_count n (List.toArray (List.range n)))).1<n then kas_bin (n-max (Run lt (kas_count n (List.toArray (List.range n)))).1 1) (Run lt (kas_count n (List.toArray (List.range n)))).2 (max (Run lt (kas_count n (List.toArray (List.range n)))).1 1) else KasT.ret (Run lt (kas_count n (List.toArray (List.range n)))).2):=by
  unfold kas_sort;rw[Run.bind]
 rw[e];generalize Run lt (kas_count n (List.toArray (List.range n)))=r at a b c d;have f:max r.1 1=r.1:=by omega
 by_cases z:r.1<n
 ·rw[bS z,f];exact QY L _ _ _ a (t5 d) b
 ·rw[bR z];have:r.1=n:=i1 d (gM z)
  refine⟨a,?_⟩;rw[this] at b;exact b
end
def jT(p q:Int×Int):Prop:=p.1<q.1\/(p.1=q.1/\p.2<q.2)
def ltB(p q:Int×Int):cm:=if p.1=q.1 then decide (p.2<q.2) else decide (p.1<q.1)
def ltB_iff:ltB p q=af↔jT p q:=by
 unfold ltB jT
 (split<;>simp_all)
def lN(a:Z (Int×Int))(i j:Nat):cm:=ltB (a.getD i (0,0)) (a.getD j (0,0))
theorem ZhM(d:c.Nodup):lL c.length (lN c):=by
 have n:∀{p q:Int×Int},ltB p q=a7->¬jT p q:=λ{p q} h z=>by rw[ltB_iff.mpr z] at h;cases h
 refine⟨λi j k _ _ _ m l=>?_,λi j g f ne h=>?_,λi j _ _ h=>?_⟩
 ·have a:=ltB_iff.mp m;have b:=ltB_iff.mp l;refine ltB_iff.mpr ?_;unfold jT at*;omega
 ·refine ltB_iff.mpr ?_;have a:=n h;have e:c.getD i (0,0)≠c.getD j (0,0):=by
   rw[Yg,Yg,Yc g,Yc f];have o:=W7.mp d
   grind
  have r:¬((c.getD i (0,0)).1=(c.getD j (0,0)).1/\(c.getD i (0,0)).2=(c.getD j (0,0)).2):=λz=>e (Prod.ext z.1 z.2);unfold jT at*;omega
 ·cases z:lN c j i with
  |false=>rfl
  |true=>
   have a:=ltB_iff.mp h;have b:=ltB_iff.mp z;unfold jT at a b;omega
def ub(h:cI)(b:Z aY)(c:Z (Int×Int)):Prop:=Paired (λv (p:Int×Int)=>∃(a:O) (o:Obj) (n:Nat) (t u:Tok),v=.ref a/\h.get? a=U o/\o.cls=.type "tuple"/\o.data=.seq #[.int p.1 t,.int p.2 u] n) b c
theorem ub.ij(q:ub h vs b):Ce h vs:=by
 intro v a;induction q with
 |nil=>cases a
 |cons f _ c=>
  cases a with
  |head=>obtain⟨a,o,n,t,u,e⟩:=f;exact⟨a,o,n,_,_,t,u,e⟩
  |tail _ m=>exact c m
def Gi{c a:Type}{F:c->a->Prop}{d:Z c}{g:Z a}(h:Paired F d g){i:Nat}(j:i<d.length)(x:c)(y:a):F (d.getD i x) (g.getD i y):=by
 obtain⟨b,e,f⟩:=fK h (Yc j)
 simp_all
section
variable {X:cZ}{w:cN}{A:eL}{E:bo}{s:bt}
def Zer(f:ub s.heap d e)(x:i<d.length)(v:j<d.length)(b:C (lN e i j) s):kas_ask X w A (tuples' af) d i j C s:=by
 unfold kas_ask;obtain⟨a,o,n,t,u,B,y,I,g⟩:=Gi f x Value.none (0,0);obtain⟨J,F,G,l,k,m,r,H,h⟩:=Gi f v Value.none (0,0);unfold lN at b;rw[B,m];generalize e.getD i (0,0)=p at b g;generalize e.getD j (0,0)=q at b h;refine kat_lt y g r h ?_;unfold ltB at b;refine kat_cons (q_ p.1 t q.1 l X w _ _ (kat_go (λc=>kat_yes (kat_cons (q_ p.2 u q.2 k X w _ _ (kat_go (λD=>kat_yes (kat_nil ?_)) λD=>kat_no ?_)))) λc=>kat_no ?_));·simp_all
 ·rw[bS (beq_iff_eq.mp c)] at b;exact kat_one _ _ (lt_int b)
 ·rw[bR (λz=>by rw[beq_iff_eq.mpr z] at c;cases c)] at b;exact kat_lt_int b
def ZhN
  (k:∀c:SortSt,arrOf c=(List.toArray (List.range 64)).map (kas_item it)->failedOf c=aJ->Q () c s)
  (h:(kas_count 64 (List.toArray (List.range 64))).kasWp (kas_cmp X w A a it) (λr d=>r=(64,List.toArray (List.range 64))/\d=s) s):kasC (model X w) A E sortRuns' Q (kas_st a it (List.toArray (List.range 64))) s:=by
 have g:(List.toArray (List.range 64)).size=64:=rfl;have b:(arrOf (kas_st a it (List.toArray (List.range 64)))).size=64:=(VI (f:=kas_item it)).trans g;have i:minRun' 64 64 0=32:=QK
 rw[sortRuns'_eq];refine kasC_bind (kasC_get ?_);(try dsimp only);simp only[b,i];refine kasC_bind (kasC_range ?_);show kasC _ _ _ (forIn (0::1::List.range' 2 62) _ _) _ _ _;refine kasC_cons ?_;(try dsimp only);rw[bR (show ¬(0:Nat)≥64 by decide)];simp only[Nat.sub_zero];refine kasC_bind (kas_count_ (show 1<=64 by decide) (LI g.symm) (λm l d _ _ _ j=>?_) h);obtain⟨e,rfl⟩:=j;cases e;(try dsimp only);rw[bR (show ¬(64:Nat)<32 by decide)];refine kasC_bind (kasC_get ?_);rw[show(pendingOf (kas_st a it (List.toArray (List.range 64)))).back?=aJ from rfl];(try dsimp only);refine kasC_bind (kasC_modify (kasC_pure ?_));show kasC _ _ _ (forIn (1::List.range' 2 62) _ _) _ _ _;refine kasC_cons ?_;(try dsimp only);rw[bS (show(0:Nat)+64≥64 by decide)];refine kasC_pure ?_;(try dsimp only);refine kasC_bind (kasC_range ?_);show kasC _ _ _ (forIn (0::1::List.range' 2 62) _ _) _ _ _;refine kasC_cons ?_;refine kasC_bind (kasC_get ?_);(try dsimp only);rw[bS (show(pendingOf (setPending (kas_st a it (List.toArray (List.range 64))) ((pendingOf (kas_st a it (List.toArray (List.range 64)))).push (0,64,0)))).size<=1 from Yd 1)];refine kasC_pure ?_;(try dsimp only);exact kasC_pure (k _ rfl rfl)
def Zak{R:cW Nat->Prop}{a:O}{vs:Z aY}{n:Nat}{P:PySem.Fin->bt->Prop}(q:s.heap.get? a=U (seqObj "list" vs.toArray n))(iR:vs.length<=64)
  (J:2<=vs.length->∀j:cI,(∀b o,b≠a->s.heap.get? b=U o->j.get? b=U o)->∃t:SortKind,(∀(Q:SortKind->bt->Prop),Q t {s with heap:=j}->wpAny (model X w) A (keyKind' vs.toArray) Q E {s with heap:=j})/\
   ∀D:SortSt->bt->Prop,(∀(p:cW Nat) (d:SortSt),p.size=vs.length->arrOf d=p.map (kas_item (vs.toArray.zip vs.toArray))->failedOf d=aJ->Good vs.length p->R p->D d {s with heap:=j})->wpAny (model X w) A (sortRuns'.run (SortSt.mk' t (vs.toArray.zip vs.toArray) #[] 7 aJ)) (λr l=>D r.2 l) E {s with heap:=j})
  (h:∀out:Z aY,out.Perm vs->(2<=vs.length->∃p:cW Nat,Good vs.length p/\R p/\out=p.toList.map λi=>vs.getD i Value.none)->P (.done (.ret .none)) {s with heap:=sortedHeap s.heap a vs out.toArray}):
  wpAny (model X w) A (Builtin.«list.sort» ⟨[.ref a],[]⟩) P E s:=by
 rw[list_sort_plain];have y:a<s.heap.objs.size:=Yr q;refine bp (listItems_at q rfl ?_);refine bp (listUpdate_at q rfl ?_);obtain⟨k,x⟩:∃k,(s.heap.update a (Obj.mapSeq λ_=>#[])).get? a=U (seqObj "list" #[] k):=⟨_,get?_update_seq q (λ_=>#[])⟩;refine bp (seqEpoch_at x rfl ?_);refine bp (wpAny_newTuple ?_);refine bp (th ?_);refine jd ?_;have m:(((s.heap.update a (Obj.mapSeq λ_=>#[])).push (seqObj "tuple" vs.toArray 0)).push (seqObj "list" #[] 0)).get? a=U (seqObj "list" #[] k):=by
  rw[Jk _ _ _ (by rw[size_push',SF];exact Yy (Wz y)),Jk _ _ _ (by rw[SF];exact Yy y)];exact x
 have keep:∀b o,b≠a->s.heap.get? b=U o->(((s.heap.update a (Obj.mapSeq λ_=>#[])).push (seqObj "tuple" vs.toArray 0)).push (seqObj "list" #[] 0)).get? b=U o:=λb o F e=>
  Yb _ (Yb _ (by rw[VY _ _ _ _ F];exact e))
 dsimp only;have I:vs.toArray.size=vs.length:=by simp
 by_cases f:vs.toArray.size<2
 ·rw[bS f,bS f];refine bp (cD ?_);rw[StateT.run_pure];refine bp (cD ?_);dsimp only;refine bp (seqEpoch_at m rfl ?_);refine bp (listUpdate_at m rfl ?_ (hsz2:=by rw[VI];show(pairsOf vs).size<=_;rw[pairsOf_size,c4];exact d6 iR (by decide)));simp only[uT,J6,xE];have e:(arrOf (SortSt.mk' general' (vs.toArray.zip vs.toArray) #[] 7 aJ)).map (·.2)=vs.toArray:=by
   grind
  have:=h vs (rj _) (λz=>by omega);rw[←e] at this;exact cD this
 ·rw[bR f,bR f];have G:2<=vs.length:=gM f
  obtain⟨t,H,v⟩:=J G _ keep;refine bp (H _ ?_);refine bp (dk (v (λd l=>l={s with heap:=((s.heap.update a (Obj.mapSeq λ_=>#[])).push (seqObj "tuple" vs.toArray 0)).push (seqObj "list" #[] 0)}/\∃p:cW Nat,p.size=vs.length/\arrOf d=p.map (kas_item (vs.toArray.zip vs.toArray))/\failedOf d=aJ/\R p/\Good vs.length p) λp d a1 a2 a3 W T=>⟨rfl,p,a1,a2,a3,T,W⟩) ?_ λ_ _ e=>e);rintro⟨⟨⟩,d⟩ l ⟨rfl,p,hp,u,L,N,g⟩;dsimp only;have C:=kat_snds rfl u;have c:(p.toList.map λi=>vs.getD i Value.none).Perm vs:=by
   have k:p.toList.Perm (List.range vs.length):=by
    have:=Jz.mp g.2;simpa using this
   have B:=k.map λi=>vs.getD i Value.none;rw[range_getD] at B;exact B
  refine bp (seqEpoch_at m rfl ?_);refine bp (listUpdate_at m rfl ?_ (hsz2:=by rw[C,Yq,c.length_eq,c4];exact d6 iR (by decide)));rw[L];simp[uT,J6,xE];have:=h _ c (λ_=>⟨p,g,N,rfl⟩);rw[←C] at this;exact cD this
def Zes(h:b.Pairwise jT):Sd (lN b) (List.toArray (List.range b.length)) b.length:=λi j c a=>by
 have e:∀k,k<b.length->(List.toArray (List.range b.length)).getD k 0=k:=λk d=>by
  simp_all
 rw[e i (nq c a),e j a];refine ltB_iff.mpr ?_;rw[Yg,Yg,Yc (nq c a),Yc a];exact W7.mp h i j (nq c a) a c
def ZiT{m:SortSt->bt->Prop}(y:c.length=64)(u:c.length=f.length)(L:lL c.length (lN f))(t:f.Pairwise jT)(g:∀i j (C:cm->bt->Prop),i<c.length->j<c.length->C (lN f i j) s->kas_ask X w A h c i j C s)
  (x:∀(p:cW Nat) (d:SortSt),p.size=c.length->arrOf d=p.map (kas_item (c.toArray.zip c.toArray))->failedOf d=aJ->Good c.length p->Sd (lN f) p c.length->m d s):wpAny (model X w) A (sortRuns'.run (SortSt.mk' h (c.toArray.zip c.toArray) #[] 7 aJ)) (λr e=>m r.2 e) E s:=by
 have l:Good c.length (List.toArray (List.range c.length)):=⟨by omega,u9 _⟩;have q:Sd (lN f) (List.toArray (List.range c.length)) c.length:=by rw[u];exact Zes t
 rw[kat_ask_eq rfl] at g;have k:(c.toArray.zip c.toArray).size=c.length:=by simp
 have v:SortSt.mk' h (c.toArray.zip c.toArray) #[] 7 aJ=kas_st h (c.toArray.zip c.toArray) (List.toArray (List.range c.length)):=by
  unfold kas_st;rw[←k,kas_range]
 rw[v];have n:=fF.run (G:=λr e=>r=(c.length,List.toArray (List.range c.length))/\e=s) g (Ol l) ⟨(Zdk L l q),rfl⟩;have o:=λd a b=>x _ d (by simp) a b l q;rw[y] at n o⊢;exact ZhN (Q:=λ_ d e=>m d e) o n
def ZaJ(ho:s.heap.get? l=U o)(hc:o.cls=.type "list")(hd:o.data=.seq ai.toArray n)(N:ub s.heap ai ps)(nd:ps.Nodup)(iR:ai.length<64\/(ai.length=64/\ps.Pairwise jT))(q:ai.toArray.size<=sizeLine)
  (h:∀(d c:cI) (out:Z aY) (e:Nat),(∀b o,s.heap.get? b=U o->d.get? b=U o)->(∀b o,d.get? b=U o->c.get? b=U o)->c.get? d.objs.size=U (seqObj "list" out.toArray e)->out.Perm ai->(2<=ai.length->∃p:cW Nat,Good ai.length p/\Sd (lN ps) p ai.length/\out=p.toList.map λi=>ai.getD i Value.none)->Q (.ref d.objs.size) {s with heap:=c}):
  wpAny (model X w) A (call (.builtin "sorted") [.ref l]) Q E s:=by
 refine um kind_sorted plain_sorted entry_sorted (args_sorted1 _) ?_;unfold Builtin.«sorted»;refine bp (m:=checkCount "sorted" 1 1 _) (cD ?_);refine bp (LS l (.inl rfl) ho hc hd (λd H=>?_) q);refine bp (th ?_);have e1:ai.toArray.toList=ai:=by simp
 rw[e1];have f:(d.push (seqObj "list" ai.toArray 0)).get? d.objs.size=U (seqObj "list" ai.toArray 0):=Yp _ rfl;refine bp (jd (n7 slot_list_sort ⟨_,f,rfl⟩ entry_list_sort (Zak (R:=λp=>Sd (lN ps) p ai.length) f (by omega) (λr c k=>?_) λout pm eo=>⟨_,rfl,?_⟩) (args_list_sort _)))
 ·have z:ub c ai ps:=L2.Paired.bL N λv p ⟨a,o,n,t,u,e,q1,W,P⟩=>by
   have J:=H _ _ q1;exact⟨a,o,n,t,u,e,k _ _ (Yy (Yr J)) (Yb _ J),W,P⟩
  obtain⟨fs,k1,k2,k3⟩:=z.ij.V_;have F:=c7 z;have ask:∀(B:eL) i j (C:cm->bt->Prop),i<ai.length->j<ai.length->C (lN ps i j) {s with heap:=c}->kas_ask X w B (tuples' af) ai i j C {s with heap:=c}:=λB i j C hi hj hC=>Zer (s:={s with heap:=c}) z hi hj hC;have L:=ZhM nd;rw[←F] at L;refine⟨tuples' af,λQ hQ=>?_,λQ' L_=>?_⟩
  rotate_left
  ·rcases iR with lt|⟨L9,pw⟩
   ·obtain⟨g,sd⟩:=Zeq L (iy (qG _) r);refine kat_run (G:=λp D=>D={s with heap:=c}/\p=Run (lN ps) (kas_sort ai.length)) rfl r lt (λp aS D a1 a2 a3 a4=>?_) (fF.run (ask _) (Zdh (iy (qG _) r)) ⟨rfl,rfl⟩)
    grind
   ·exact ZiT L9 F L pw (ask _) L_
  refine kat_kind (T:=.type "int") k1 (by omega) (λv hv=>?_) (by decide) hQ;obtain⟨x,t,rfl⟩:=k3 v hv;exact .now
 ·obtain⟨e,he⟩:=sortedHeap_at f;exact cD ⟨_,rfl,h d _ out e H (λb ob I=>by
   have y:=Yr I;rw[sortedHeap_old (Yy y) (by rw[size_push'];exact Wz y),Jk _ _ _ (Yy y)];exact I) he pm eo⟩
end
def Zet(K:ah):Z V->Hp->VK->Prop:=λe H Q=>∃(p:O) (b:Z O) (cq:Z (Int×Int)),e=[.ref p]/\ak K H p (b.map V.ref)/\Paired (λa (p:Int×Int)=>H a=U (.tup [.int p.1,.int p.2])) b cq/\cq.Nodup/\(b.length<64\/(b.length=64/\cq.Pairwise jT))/\
 ∀(d:Z O) (c:Z (Int×Int)),Paired (λa (p:Int×Int)=>H a=U (.tup [.int p.1,.int p.2])) d c->c.Perm cq->c.Pairwise jT->Nw H (.lst (d.map V.ref)) Q
theorem NT:∀{a:Z c},(∀z∈a,F (f z) (g z))->Paired F (a.map f) (a.map g)
 |[],_=>.nil
 |z::a,h=>.cons (h z Yk) (NT λz b=>h z (Yw _ b))
theorem Zeu{K:ah}(hK:X.K=K):dA X (.builtin "sorted") (Zet K):=by
 subst hK;intro l s L H xs us Q I r h;obtain⟨p,b,cq,rfl,hq,v,nd,iR,q⟩:=h;obtain⟨u,rfl,T⟩:=vals1 r;cases T;obtain⟨ai,r',pl,D⟩:=I.list hq;obtain⟨o,n,ho,hc,_,hd⟩:=pl;have ei:=OY r';subst ei;rw[Ya] at D;have t:=c7 v;have R:ub s.heap (b.map Value.ref) cq:=by
  have x:∀{b:Z O} {cq:Z (Int×Int)},Paired (λa (p:Int×Int)=>H a=U (.tup [.int p.1,.int p.2])) b cq->ub s.heap (b.map Value.ref) cq:=λ{b cq} h=>by
   induction h with
   |nil=>exact .nil
   |cons w _ ih=>
    refine .cons ?_ ih;obtain⟨fD,W,⟨o2,g1,g2,n2,g3⟩,_⟩:=I.tuple (aB.of w);obtain⟨u1,u2,rfl,⟨t1,rfl⟩,⟨t2,rfl⟩⟩:=vals2 W
    grind
  exact x v
 refine ZaJ (ps:=cq) ho hc hd R nd (by rwa[Ya]) (by rw[Yq,Ya];exact D) λw h' out e kp N he k f=>?_;have J:Inv X l L H {s with heap:=w}:=I.kept (t':=s.toks) kp;obtain⟨d,m,y,C,B,pw⟩:∃(d:Z O) (m:Z (Int×Int)),out=d.map Value.ref/\Paired (λa (p:Int×Int)=>H a=U (.tup [.int p.1,.int p.2])) d m/\m.Perm cq/\m.Pairwise jT:=by
  by_cases z:2<=(b.map Value.ref).length
  ·have f:=f z;rw[Ya] at f z;obtain⟨P,g,A,f⟩:=f;rw[t] at g A;have G:P.toList.Perm (List.range cq.length):=by
    have:=Jz.mp g.2;simpa using this
   have F:∀i∈P.toList,i<cq.length:=λi c=>Wj.mp (G.subset c);refine⟨P.toList.map λi=>b.getD i 0,P.toList.map λi=>cq.getD i (0,0),?_,NT λi c=>Gi v (by exact t▸F i c) 0 (0,0),?_,?_⟩
   ·rw[f,Y7];refine Wo λi c=>?_;have:=F i c;show(b.map Value.ref).getD i Value.none=Value.ref (b.getD i 0);rw[Yg,Yf,Yc (by omega),Yg,Yc (by omega)];rfl
   ·have:=G.map λi=>cq.getD i (0,0);rw[range_getD] at this;exact this
   ·rw[Wl,W7];intro i j c E lM;have sz:=g.size;have gi:P.toList[i]=P.getD i 0:=by
     rw[Wx] at c;simp_all
    have gj:P.toList[j]=P.getD j 0:=by
     rw[Wx] at E;simp_all
    rw[gi,gj];rw[Wx] at E;exact ltB_iff.mp (A i j lM (by omega))
  ·rw[Ya] at z;have eq:out=b.map Value.ref:=by
    match b,out,z,k with
    |[],out,_,k=>exact List.Perm.eq_nil k
    |[a],out,_,k=>exact List.Perm.eq_singleton k
    |_::_::_,_,z,_=>exact absurd (by simp) z
   refine⟨b,cq,eq,v,rj _,?_⟩;match cq,t with
   |[],_=>exact .nil
   |[a],_=>exact List.pairwise_singleton _ _
   |_::_::_,t=>exact absurd t (by simp;omega)
 refine⟨.ref w.objs.size,_,J.laid (o:=.lst (d.map V.ref)) N (Yd _) ⟨?_,out,e,by rw[y];exact OZ d,by simpa[seqObj] using he⟩,rfl,(q d m C B pw).at _ (J.aw.fresh (Yd _))⟩;rw[Ya,c7 C,B.length_eq];exact Js (kR (by omega))
end L2
namespace L2
open PySem PySem.Spec PyProof.Rows
def qa{K:ah}(h:X.K=K)(p:PE X ex (zW X.K T r to t)):PE X ex (zW K T r to t):=h▸p
def ZfX{K:ah}(h:X.K=K)(p:PE X ex (KW X.K T r to)):PE X ex (KW K T r to):=h▸p
def HM{X:Cx}{K:ah}{a:cu}{d:TE}(h:X.K=K)(p:PT X a (λc H Q=>d c H λx b=>∃k,CG X.K x b k/\Q k b)):PT X a (λc H Q=>d c H λx b=>∃k,CG K x b k/\Q k b):=h▸p
def IL{K:ah}(h:X.K=K)(p:cS X f (CO X.K b)):cS X f (CO K b):=h▸p
def mM(a:Hp)(d:O):Prop:=(∀b,a d≠U (.tup b))/\(∀o u,a d≠U (.bU o u))/\∀c,a d≠U (.oS c)
def Inv.Ks(I:Inv X pins σ H s)(e:H d=U (.dK c)):mM X.kF d:=
 ⟨(λa z=>by have:=I.base.ij d a z;rw[e] at this;cases this),(λo u z=>by have:=I.base.iO d o u z;rw[e] at this;cases this),(λb z=>by obtain⟨m,h⟩:=I.base.jb d b z;rw[e] at h;cases h)⟩
def Inv.swap(I:Inv X pins σ H s)(e:H d=U o)(i:mM X.kF d)(y:∀a,o≠.own a)(w:∀f,o≠.tup f)(C:cH X.prog X.w H s.heap d o'):Inv X pins σ (upd H d o') s:=by
 have i_:∀{a:O} {o1:HO},cH X.prog X.w H s.heap a o1->cH X.prog X.w (upd H d o') s.heap a o1:=λ{a o1} x=>x.i_ (λ_ _ _ z=>z)
  (λb z=>by rw[aA (λq=>y a (Ym (e.symm.trans (by rw[←q];exact z))))];exact z)
  (λb f z=>by rw[aA (λq=>w f (Ym (e.symm.trans (by rwa[←q]))))];exact z)
 have ne:∀{b:O},H b=aJ->b≠d:=λ{b} l z=>by rw[z,e] at l;cases l
 refine⟨I.ok,I.os,I.bare,⟨I.base.keep,I.base.slot,λb g q n A=>?_,I.base.there,λb f q=>?_,λb g u q=>?_,λb k q=>?_⟩,I.loc,I.cell,?_,λx c m=>?_,λp B=>?_,λa o1 j=>?_,I.len⟩
 ·have h:=I.base.free b g q n A;rwa[aA (ne h)]
 ·rw[aA (λz=>i.1 f (by rwa[←z]))];exact I.base.ij b f q
 ·rw[aA (λz=>i.2.1 g u (by rwa[←z]))];exact I.base.iO b g u q
 ·rw[aA (λz=>i.2.2 k (by rwa[←z]))];exact I.base.jb b k q
 ·rw[aA (ne I.free)];exact I.free
 ·rw[aA (ne (I.i6 x c m))];exact I.i6 x c m
 ·obtain⟨v,t,r⟩:=I.pin p B;exact⟨v,by rwa[aA (ne t)],r⟩
 ·by_cases z:a=d
  ·subst z;rw[aQ] at j
   grind
  ·rw[aA z] at j;exact i_ (I.aw a o1 j)
def Mc(d:O)(c:Obj)(b:Z (Key×V)):It:=⟨λi H=>H d=U (.bU c (.dK b))/\i<b.length,λi H v e=>∃a k y,b[i]?=U (k,y)/\H a=aJ/\v=.ref a/\e=upd H a (.tup [kV k,y]),λi H=>H d=U (.bU c (.dK b))/\b.length<=i⟩
def TL(h:(dW P w).is k u=af):RelV (kV k) u:=by
 rcases ng h with⟨i,t,rfl,rfl⟩|⟨x,t,rfl,rfl⟩;·exact⟨t,rfl⟩
 ·exact⟨t,rfl⟩
def JU:∀{a:Z (Key×V)} {b:Z (Key×aY)} {i:Nat} {k:Key} {y:V},KV a b->a[i]?=U (k,y)->∃v,b[i]?=U (k,v)/\RelV y v:=λ{a b i k y} r h=>by
 obtain⟨q,e,d,c⟩:=fK r h
 grind
def wN(I:Inv X pins σ H s)(e:H d=U (.bU f (.dK c)))(h:f.data=.dict m ep):∃a,KV c a/\s.heap.DictAt (dW X.prog X.w) d a ep:=by
 obtain⟨g,_,_,a,b,o,p,n,j,l,i,k⟩:=(I.aw d _ e);rw[g] at j;cases j;rw[h] at i;cases i;exact⟨a,b,f,m,g,l,h,k⟩
def Zk:entryFor table "dict_itemiterator.__iter__"=U Builtin.«dict_keyiterator.__iter__»:=entryFor_alias (id':="dict_keyiterator.__iter__") (by kernel_rfl) rfl QK (by kernel_rfl)
theorem Zb8{P:cZ}{w:cN}{K:ah}{m:Z cu}{x1:Nat}{q:Pos}(it d:O)(od:Obj)(es:cW DictEntry)(ep:Nat)(hV:od.data=.dict es ep)(a:Z (Key×V)):Turn P w K (.Tuple m x1 q) (Mc d od a) [it] it (λi h=>∃ok l,IsItemIter h it d i a.length ep ok l) where
 mem:=by simp
 obj:=λi h st b j=>by
  grind
 keep:=λi h h' st k=>let⟨ok,l,e⟩:=st;⟨ok,l,k it (by simp) _ e⟩
 item:=by
  intro X C t D hc i f s W H E I x st u;subst C t D;obtain⟨p,N,f2,L,J,G⟩:=x it (by simp);obtain⟨ok,l,st⟩:=st;obtain⟨r,bM⟩:=u;obtain⟨vs,c,R⟩:=wN I r hV;have n:=c.length;obtain⟨k,y,hk⟩:∃k y,a[i]?=U (k,y):=⟨a[i].1,a[i].2,Yc bM⟩;obtain⟨v,hv,ry⟩:=JU c hk;rw[n] at st;have UM:=Yr st;refine wpAny_pyNext_items_item st R hv λg h' mO out ZlI hsz keep=>⟨_,rfl,wpAny_letOwnedTupleGo_items out λF T sb=>?_⟩;have sz:(2:Nat)<=sizeLine:=by rw[c4];decide
  have I1:Inv X f W (upd H s.heap.objs.size (.tup [kV k,y])) {s with heap:=F,toks:=s.toks}:=Inv.turned (s:={s with heap:=s.heap.push {cls:=.type "tuple",data:=.seq #[g,v]},toks:=s.toks}) (I.laid (λb o e=>Yb _ e) (Yd _) ⟨sz,[g,v],.cons (TL mO) (.cons ry .nil),mE.new _ _⟩) (λb o j e=>by
   refine(sb.2 b j).trans ?_;by_cases z:b=s.heap.objs.size
   ·subst z;rw[Yp _ rfl] at e
    grind
   ·rw[Jk _ _ _ z] at e;exact keep b o j e) (by rw[aA (Yy UM)];exact p) N L J G
  refine⟨.ref s.heap.objs.size,_,I1,rfl,⟨_,k,y,hk,I.aw.fresh (Yd _),rfl,rfl⟩,⟨g,v,by rw[n];exact T⟩,λb j=>?_⟩;have e:b=it:=by simpa using j
  subst e;rw[aA (Yy UM)];exact p
 done:=by
  intro X C t D hc i f s W H E I x st u;subst C t D;obtain⟨p,N,f2,L,J,G⟩:=x it (by simp);obtain⟨ok,l,st⟩:=st;obtain⟨r,hle⟩:=u;obtain⟨vs,c,R⟩:=wN I r hV;have n:=c.length;rw[n] at st;exact wpAny_pyNext_items_end (I.ok.hd hc) st R (Y4 (by omega)) λh' eb=>⟨rfl,I.turned (λb o j e=>eb b o j e) p N L J G⟩
 self:=λA i s Q E st h=>by
  obtain⟨ok,l,st⟩:=st;have B:s.TypeIs (.ref it) "dict_itemiterator":=⟨_,st,rfl⟩;exact wpAny_pyIter_slot B zu (n7 zu B Zk (cD ⟨_,rfl,"dict_itemiterator",_,B,PySem.F.slot_dict_itemiterator_next.lookup,h⟩) (PySem.F.args_dict_itemiterator_iter_1 _))
def JV(g:Hp)(f:TE):TI:=λe H R=>f e H λx c=>∃d a,x=.ref d/\c d=U (.dK a)/\∀b,mM g d->R (Mc d b a) (upd c d (.bU b (.dK a)))
def Zev{X:Cx}{L:Hp}{l:Z cu}{P:Nat}{r g F:Pos}{o:cu}{B:TE}(h0:X.kF=L)(ho:PE X o B)(qg:attributeBase o "items" X.env (eval o X.env)=eval o X.env:=by rfl)(qh:(g.endLine==F.line)=af:=by rfl):PI X (.Tuple l P r) (.Call (.Attribute o "items" g) [] [] F) (JV L B):=by
 subst h0;intro f s y H R I h;refine uu qg qh (az (ho f s y H _ I h) λv i N=>?_);obtain⟨x,H1,j,r1,d,c,ex,hd,q⟩:=N;subst ex;obtain rfl:v=Value.ref d:=r1;obtain⟨t1,W,T⟩:=wM j (.inl ⟨c,.inl hd⟩);refine⟨"dict","dict.items",pA,Ad,PySem.F.type_dict_items,t1,W,l_ rfl (uP ?_)⟩;obtain⟨zz,_,A,p,w⟩:=nI j.aw hd;refine my Ad w.typeIs PySem.F.entry_dict_items (PySem.F.args_dict_items_1 _) (meets_dict_items (dW X.prog X.w) d T) ⟨⟨A,w⟩,?_⟩;obtain⟨k,E,u,t,hx,D,Q⟩:=id w;have C:=j.Ks hd;have m:∀b o,i.heap.get? b=U o->(i.heap.push {cls:=.type "dict_items",data:=.fields #[.ref d]}).get? b=U o:=λb o e=>Yb _ e;refine wpAny_pyIter_items (knd:=dW X.prog X.w) (d:=d) (ep:=u) ⟨_,Yp _ rfl,rfl,rfl⟩ ⟨k,E,m _ _ t,hx,D,Q⟩ ?_;generalize hG:i.heap.push {cls:=.type "dict_items",data:=.fields #[.ref d]}=G at m⊢;have J:Inv X f y H1 {i with heap:=G.push {cls:=.type "dict_itemiterator",data:=.fields #[.none,.bool a7,.ref d,.int 0 0,.int A.length 0,.int u 0,.none,.none]},toks:=i.toks}:=j.kept (t':=i.toks) λb o e=>Yb _ (m b o e);have Md:=J.aw d _ hd;have I3:=J.swap (o':=.bU k (.dK c)) hd C (λa z=>by cases z) (λxs z=>by cases z) ⟨Yb _ (m _ _ t),Md⟩;have n:i.heap.objs.size<=G.objs.size:=by rw[←hG,Jp];exact sq _ _
 refine⟨G.objs.size,[G.objs.size],_,Mc d k c,_,rfl,I3,Zb8 _ d k E u D c,⟨.none,.none,?_⟩,λb hb=>?_,q k C⟩
 ·show(G.push _).get? G.objs.size=_;exact p.length▸Yp _ rfl
 ·have e:b=G.objs.size:=by simpa using hb
  subst e;have Me:=Yr t;exact j.qo n (by rw[aA (Jg (Y2 Me n))];exact j.aw.fresh n)
def So(e:Hp)(h:TE)(g:TG)(i:TS):TS:=λD f H=>CF (JV e h) g i ⟨λj b=>∃d c a,mM e d/\b d=U (.bU c (.dK a))/\D.nx j (upd b d (.dK a)),λv b=>∃d c a,mM e d/\b d=U (.bU c (.dK a))/\D.rt v (upd b d (.dK a)),λ_ _=>False,λ_ _=>False⟩ f H
def Inv.xh(I:Inv X pins σ H s)(c:mM X.kF d)(e:H d=U (.bU g (.dK b))):Inv X pins σ (upd H d (.dK b)) s:=
 I.swap e c (λa z=>by cases z) (λf z=>by cases z) (I.aw d _ e).2
theorem Zbj(C:X.kF=m)(x:PassesOwn X.md X.A X.env X.xe)(A:X.calm=af)(y:PI X (.Tuple elts k l) (.Call (.Attribute o "items" apos) [] [] E) (JV m p))(z:PG X (.Tuple elts k l) g)(B:fX X body t):
  PS X (.For (.Tuple elts k l) (.Call (.Attribute o "items" apos) [] [] E) body [] pos) (So m p g t):=by
 subst C;intro a s n H D I h;refine az (gm x A y z B (λ_=>rfl) a s n H _ I h) λf G q=>?_;cases f with
 |next=>obtain⟨i,F,j,d,w,c,b,e,q⟩:=q;exact⟨i,_,j.xh b e,q⟩
 |brk=>obtain⟨_,_,_,q⟩:=q;exact False.elim q
 |cont=>obtain⟨_,_,_,q⟩:=q;exact False.elim q
 |ret u=>obtain⟨v,i,F,j,r,d,w,c,b,e,q⟩:=q;exact⟨v,i,_,j.xh b e,r,q⟩
def Zdl(X:∀Q:VK,Q (.ref d) H->F σ H Q)(B:H d=U (.dK f))(q:Nat->St->Prop)(L:q 0 σ)
  (R:∀i k y j h a (N:St->Hp->Prop) (I:VK) (bk:St->Hp->Prop),f[i]?=U (k,y)->q i j->(∀b o,H b=U o->b≠d->h b=U o)->h a=U (.tup [kV k,y])->(∀l,q (i+1) l->N l h)->g (.ref a) j h λdQ H2=>G ⟨N,I,bk,N⟩ dQ H2)
  (E:∀j h,q f.length j->aj H h->D.nx j h):So H0 F g G D σ H:=by
 refine X _ ⟨d,f,rfl,B,λs P=>⟨λi m j h=>m=f.length-i/\i<=f.length/\q i j/\(∀b o,H b=U o->b≠d->h b=U o)/\h d=U (.bU s (.dK f)),⟨f.length,ua _,Yx _,L,λb o e n=>by rwa[aA n],aQ⟩,?_⟩⟩;rintro i m j h ⟨rfl,W,p,w,u⟩;by_cases A:i<f.length
 ·refine .inr ⟨⟨u,A⟩,λl r=>q (i+1) l/\(∀b o,H b=U o->b≠d->r b=U o)/\r d=U (.bU s (.dK f)),λl r zz=>by obtain⟨a,b,c⟩:=zz;exact⟨f.length-(i+1),by omega,rfl,A,a,b,c⟩,?_⟩;rintro x H4 ⟨a,k,y,T,t,rfl,rfl⟩;have v:d≠a:=λz=>by rw[←z,u] at t;cases t
  have C:∀b o,H b=U o->b≠d->upd h a (.tup [kV k,y]) b=U o:=λb o e n=>by rw[aA (λz=>by rw[←z,w b o e n] at t;cases t)];exact w b o e n
  exact R i k y j _ a (λl r=>q (i+1) l/\(∀b o,H b=U o->b≠d->r b=U o)/\r d=U (.bU s (.dK f))) _ _ T p C aQ λl J=>⟨J,C,by rwa[aA v]⟩
 ·have e:i=f.length:=i1 W (gM A)
  subst e;refine .inl ⟨⟨u,Yd _⟩,d,s,f,P,u,E _ _ p λb o e=>?_⟩;by_cases z:b=d;·subst z;rw[aQ];rw[B] at e;exact e
  ·rw[aA z];exact w b o e z
theorem Sq{b c:Type}{f:b->bq c}{g:b->c}:∀{l:Z b},(∀k∈l,f k=U (g k))->l.filterMap f=l.map g
 |[],_=>rfl
 |a::l,h=>by rw[Jc,h a Yk,Wq,Sq λk d=>h k (Yw _ d)]
def Zew(a:Z aY):slicePick a.toArray aJ aJ (U (-1))=a.reverse.toArray:=by
 unfold slicePick;have e:sliceBounds aJ aJ (U (-1)) a.toArray.size=((a.length:Int)-1,-1,-1):=by
  unfold sliceBounds;simp
 rw[e];have b:sliceRange ((a.length:Int)-1) (-1) (-1)=(List.range a.length).map λk=>a.length-1-k:=by
  unfold sliceRange
  grind
 show(((sliceRange ((a.length:Int)-1) (-1) (-1)).filterMap (a.toArray[·]?)).toArray)=_;rw[b];have c:((List.range a.length).map λk=>a.length-1-k).filterMap (a.toArray[·]?)=a.reverse:=by
  rw[WE];rw[Sq λk d=>by
   have:=Wj.mp d;show a.toArray[a.length-1-k]?=U (a.getD (a.length-1-k) Value.none);rw[List.getElem?_toArray,Yg,Yc (by omega)];rfl]
  have e:=pR a.reverse (λi=>a.getD (a.length-1-i) Value.none) id λi v h=>by
   have q:=(Yl.mp h).1;rw[List.length_reverse] at q;rw[List.getElem?_reverse q] at h;rw[Yg,h];rfl
  rw[List.map_id,List.length_reverse] at e;exact e
 rw[c]
theorem NM:∀{a:Z V} {b:Z aY},Vals a b->Vals a.reverse b.reverse
 |_,_,.nil=>.nil
 |_,_,.cons r t=>by
  rw[Mf,Mf];exact(NM t).append (.cons r .nil)
def ZhO:LF X .Mult (λx y H Q=>∃i j,x=.int i/\y=.int j/\wY i j/\Q (.int (i*j)) H):=by
 rintro a s g H x y v u Q I c b ⟨i,j,f,e,d,q⟩;subst f;subst e;obtain⟨t,rfl⟩:=c;obtain⟨h,rfl⟩:=b;exact imul_int ⟨.int _,H,I.tok _,⟨_,rfl⟩,q⟩ d.ok
def Mg(d:O)(b:Obj)(a:Z (Key×V)):It:=⟨λi H=>H d=U (.bU b (.dK a))/\i<a.length,λi H v c=>c=H/\∃k y,a[i]?=U (k,y)/\v=kV k,λi H=>H d=U (.bU b (.dK a))/\a.length<=i⟩
theorem Zdm{P:cZ}{w:cN}{K:ah}{tg:cu}(it d:O)(G:Obj)(es:cW DictEntry)(T:Nat)(N:G.data=.dict es T)(a:Z (Key×V)):Turn P w K tg (Mg d G a) [it] it (λi h=>h.IsKeyIter it d i a.length T) where
 mem:=by simp
 obj:=λi h st b q=>by
  have e:b=it:=by simpa using q
  obtain⟨o,e,c,W⟩:=st
  grind
 keep:=λi h R st k=>let⟨o,e,r⟩:=st;⟨o,k it (by simp) o e,r⟩
 item:=by
  intro X t n u L i g s σ H E I l st p;subst t n u;obtain⟨D,C,f2,B,z,x⟩:=l it (by simp);obtain⟨m,bM⟩:=p;obtain⟨vs,f,F⟩:=wN I m N;have j:=f.length;obtain⟨k,y,J⟩:∃k y,a[i]?=U (k,y):=⟨a[i].1,a[i].2,Yc bM⟩;obtain⟨v,hv,ry⟩:=JU f J;rw[j] at st;refine wpAny_pyNext_dict_item st F hv λkey R mO aS sb=>?_;obtain⟨o,e,c,W⟩:=id aS;exact⟨_,rfl,t_ e c W (by decide) ⟨kV k,H,(I.turned (sb.extBut) D C B z x),TL mO,⟨rfl,k,y,J,rfl⟩,by rw[j];exact aS,λb q=>(l b q).1⟩⟩
 done:=by
  intro X t n u L i g s σ H E I l st p;subst t n u;obtain⟨D,C,f2,B,z,x⟩:=l it (by simp);obtain⟨m,hle⟩:=p;obtain⟨vs,f,F⟩:=wN I m N;have j:=f.length;rw[j] at st;exact wpAny_pyNext_dict_end (I.ok.hd L) st F (Y4 (by omega)) λR eb=>⟨rfl,I.turned (eb) D C B z x⟩
 self:=λA i s Q E st h=>wpAny_pyIter_keyiter st h
def Ku(g:Hp)(f:TE):TI:=λe H R=>f e H λx c=>∃d a,x=.ref d/\c d=U (.dK a)/\∀b,mM g d->R (Mg d b a) (upd c d (.bU b (.dK a)))
def ZfY(L:X.kF=H0)(G:PE X l D):PI X tg l (Ku H0 D):=by
 subst L;intro c s n H R I h;refine az (G c s n H _ I h) λv g y=>?_;obtain⟨x,Q,j,E,d,f,N,hd,q⟩:=y;subst N;obtain rfl:v=Value.ref d:=E;obtain⟨T,C,A,k,P⟩:=nI j.aw hd;obtain⟨i,t,u,m,F,r,B⟩:=id P;have p:=j.Ks hd;refine wpAny_pyIter_dict C ⟨i,t,m,F,r,B⟩ ?_;have w:Inv X c n Q {g with heap:=g.heap.push {cls:=.type "dict_keyiterator",data:=.fields #[.ref d,.int 0 0,.int A.length 0,.int u 0]},toks:=g.toks}:=j.kept λb o e=>Yb _ e;refine⟨g.heap.objs.size,[g.heap.objs.size],_,Mg d i f,_,rfl,(w.swap (o':=.bU i (.dK f)) hd p (λa z=>by cases z) (λW z=>by cases z) ⟨Yb _ m,(w.aw d _ hd)⟩),Zdm _ d i t u r f,⟨_,Yp _ rfl,rfl,by rw[k.length];rfl⟩,λb J=>?_,q i p⟩;have e:b=g.heap.objs.size:=by simpa using J
 subst e;exact j.qo (Yd _) (by rw[aA (Jg (Yr m))];exact j.aw.fresh (Yd _))
def TM(e:Hp)(h:TE)(g:TG)(i:TS):TS:=λD f H=>CF (Ku e h) g i ⟨λj b=>∃d c a,mM e d/\b d=U (.bU c (.dK a))/\D.nx j (upd b d (.dK a)),λv b=>∃d c a,mM e d/\b d=U (.bU c (.dK a))/\D.rt v (upd b d (.dK a)),λ_ _=>False,λ_ _=>False⟩ f H
theorem Zb9(C:X.kF=H0)(w:PassesOwn X.md X.A X.env X.xe)(A:X.calm=af)(y:PI X k l (Ku H0 n))(z:PG X k g)(B:fX X body o)(t:∀x,foldedSetIterable l X.env x=pure x:=by intro _;rfl):PS X (.For k l body [] pos) (TM H0 n g o):=by
 subst C;intro a s m H D I h;refine az (gm w A y z B t a s m H _ I h) λf F q=>?_;cases f with
 |next=>obtain⟨i,E,j,d,p,c,b,e,q⟩:=q;exact⟨i,_,j.xh b e,q⟩
 |brk=>obtain⟨_,_,_,q⟩:=q;exact False.elim q
 |cont=>obtain⟨_,_,_,q⟩:=q;exact False.elim q
 |ret u=>obtain⟨v,i,E,j,r,d,p,c,b,e,q⟩:=q;exact⟨v,i,_,j.xh b e,r,q⟩
def Zex(F:∀R:VK,R (.ref d) H1->s σ H R)(E:H1 d=U (.dK kvs))(n:Nat->St->Hp->Prop)
  (w:∀b,n 0 σ (upd H1 d (.bU b (.dK kvs))))
  (A:∀b i k y j h (N:St->Hp->Prop) (u:VK) (bk:St->Hp->Prop),kvs[i]?=U (k,y)->n i j h->h d=U (.bU b (.dK kvs))->(∀l f,n (i+1) l f->f d=U (.bU b (.dK kvs))->N l f)->g (kV k) j h λI L=>t ⟨N,u,bk,N⟩ I L)
  (r:∀b j h,n kvs.length j h->h d=U (.bU b (.dK kvs))->D.nx j (upd h d (.dK kvs))):TM P s g t D σ H:=by
 refine F _ ⟨d,kvs,rfl,E,λb z=>⟨λi m j h=>m=kvs.length-i/\i<=kvs.length/\n i j h/\h d=U (.bU b (.dK kvs)),⟨kvs.length,ua _,Yx _,w b,aQ⟩,?_⟩⟩;rintro i m j h ⟨rfl,C,p,o⟩;by_cases q:i<kvs.length
 ·refine .inr ⟨⟨o,q⟩,λl f=>n (i+1) l f/\f d=U (.bU b (.dK kvs)),λl f ⟨a,c⟩=>⟨kvs.length-(i+1),by omega,rfl,q,a,c⟩,?_⟩;rintro x J ⟨rfl,k,y,B,rfl⟩;exact A b i k y j J (λl f=>n (i+1) l f/\f d=U (.bU b (.dK kvs))) _ _ B p o λl f v G=>⟨v,G⟩
 ·have e:i=kvs.length:=i1 C (gM q)
  subst e;exact .inl ⟨⟨o,Yd _⟩,d,b,kvs,z,o,r b _ _ p o⟩
theorem ZfZ(r:KT H a xs):xs.map (·.1)=a.map (·.1):=by
 induction r with
 |nil=>rfl
 |cons f _ b=>simp_all
def Zf0:bootBuiltins "dict"=U (.type "dict"):=QK
def Mh(d:O)(b:Obj)(a:Z (Key×V)):It:=⟨λi H=>H d=U (.bU b (.dK a))/\i<a.length,λi H v c=>c=H/\∃k,a[i]?=U (k,v),λi H=>H d=U (.bU b (.dK a))/\a.length<=i⟩
theorem Zdn{P:cZ}{w:cN}{K:ah}{tg:cu}(it d:O)(G:Obj)(es:cW DictEntry)(T:Nat)(N:G.data=.dict es T)(a:Z (Key×V)):Turn P w K tg (Mh d G a) [it] it (λi h=>h.IsValIter it d i a.length T) where
 mem:=by simp
 obj:=λi h st b q=>by
  have e:b=it:=by simpa using q
  obtain⟨o,e,c,W⟩:=st
  grind
 keep:=λi h R st k=>let⟨o,e,r⟩:=st;⟨o,k it (by simp) o e,r⟩
 item:=by
  intro X t n u L i g s σ H E I l st p;subst t n u;obtain⟨D,C,f2,B,z,x⟩:=l it (by simp);obtain⟨m,bM⟩:=p;obtain⟨vs,f,F⟩:=wN I m N;have j:=f.length;obtain⟨k,y,J⟩:∃k y,a[i]?=U (k,y):=⟨a[i].1,a[i].2,Yc bM⟩;obtain⟨v,hv,ry⟩:=JU f J;rw[j] at st;refine wpAny_pyNext_values_item st F hv λR aS sb=>?_;obtain⟨o,e,c,W⟩:=id aS;exact⟨_,rfl,t_ e c W (by decide) ⟨y,H,(I.turned (sb.extBut) D C B z x),ry,⟨rfl,k,J⟩,by rw[j];exact aS,λb q=>(l b q).1⟩⟩
 done:=by
  intro X t n u L i g s σ H E I l st p;subst t n u;obtain⟨D,C,f2,B,z,x⟩:=l it (by simp);obtain⟨m,hle⟩:=p;obtain⟨vs,f,F⟩:=wN I m N;have j:=f.length;rw[j] at st;exact wpAny_pyNext_values_end (I.ok.hd L) st F (Y4 (by omega)) λR eb=>⟨rfl,I.turned (eb) D C B z x⟩
 self:=λA i s Q E st h=>wpAny_pyIter_valiter st h
def Kv(g:Hp)(f:TE):TI:=λe H R=>f e H λx c=>∃d a,x=.ref d/\c d=U (.dK a)/\∀b,mM g d->R (Mh d b a) (upd c d (.bU b (.dK a)))
def Zf1{X:Cx}{H0:Hp}{N:cu}{g D:Pos}{o:cu}{y:TE}(h0:X.kF=H0)(ho:PE X o y)(qg:attributeBase o "values" X.env (eval o X.env)=eval o X.env:=by rfl)(W:(g.endLine==D.line)=af:=by rfl):PI X N (.Call (.Attribute o "values" g) [] [] D) (Kv H0 y):=by
 subst h0;intro f s u H R I h;refine uu qg W (az (ho f s u H _ I h) λv i F=>?_);obtain⟨x,H1,j,T,d,c,ex,hd,q⟩:=F;subst ex;obtain rfl:v=Value.ref d:=T;obtain⟨Q,P,L⟩:=wM j (.inl ⟨c,.inl hd⟩);refine⟨"dict","dict.values",pA,zU,PySem.F.type_dict_values,Q,P,l_ rfl (uP ?_)⟩;obtain⟨zz,_,w,n,t⟩:=nI j.aw hd;refine my zU t.typeIs PySem.F.entry_dict_values (PySem.F.args_dict_values_1 _) (meets_dict_values (dW X.prog X.w) d L) ⟨⟨w,t⟩,?_⟩;obtain⟨k,C,r,p,hx,B,J⟩:=id t;have A:=j.Ks hd;have l:∀b o,i.heap.get? b=U o->(i.heap.push {cls:=.type "dict_values",data:=.fields #[.ref d]}).get? b=U o:=λb o e=>Yb _ e;refine wpAny_pyIter_values (knd:=dW X.prog X.w) (d:=d) (ep:=r) ⟨_,Yp _ rfl,rfl,rfl⟩ ⟨k,C,l _ _ p,hx,B,J⟩ ?_;generalize hG:i.heap.push {cls:=.type "dict_values",data:=.fields #[.ref d]}=G at l⊢;have E:Inv X f u H1 {i with heap:=G.push {cls:=.type "dict_valueiterator",data:=.fields #[.ref d,.int 0 0,.int w.length 0,.int r 0]},toks:=i.toks}:=j.kept (t':=i.toks) λb o e=>Yb _ (l b o e);have Md:=E.aw d _ hd;have I3:=E.swap (o':=.bU k (.dK c)) hd A (λa z=>by cases z) (λxs z=>by cases z) ⟨Yb _ (l _ _ p),Md⟩;have m:i.heap.objs.size<=G.objs.size:=by rw[←hG,Jp];exact sq _ _
 refine⟨G.objs.size,[G.objs.size],_,Mh d k c,_,rfl,I3,Zdn _ d k C r B c,⟨_,Yp _ rfl,rfl,by rw[n.length];rfl⟩,λb hb=>?_,q k A⟩;have e:b=G.objs.size:=by simpa using hb
 subst e;have Me:=Yr p;exact j.qo m (by rw[aA (Jg (Y2 Me m))];exact j.aw.fresh m)
def TN(e:Hp)(h:TE)(g:TG)(i:TS):TS:=λD f H=>CF (Kv e h) g i ⟨λj b=>∃d c a,mM e d/\b d=U (.bU c (.dK a))/\D.nx j (upd b d (.dK a)),λv b=>∃d c a,mM e d/\b d=U (.bU c (.dK a))/\D.rt v (upd b d (.dK a)),λ_ _=>False,λ_ _=>False⟩ f H
theorem Zb_(A:X.kF=H0)(t:PassesOwn X.md X.A X.env X.xe)(y:X.calm=af)(w:PI X k (.Call (.Attribute o "values" apos) [] [] B) (Kv H0 m))(x:PG X k g)(z:fX X body n):
  PS X (.For k (.Call (.Attribute o "values" apos) [] [] B) body [] pos) (TN H0 m g n):=by
 subst A;intro a s l H D I h;refine az (gm t y w x z (λ_=>rfl) a s l H _ I h) λf E q=>?_;cases f with
 |next=>obtain⟨i,C,j,d,p,c,b,e,q⟩:=q;exact⟨i,_,j.xh b e,q⟩
 |brk=>obtain⟨_,_,_,q⟩:=q;exact False.elim q
 |cont=>obtain⟨_,_,_,q⟩:=q;exact False.elim q
 |ret u=>obtain⟨v,i,C,j,r,d,p,c,b,e,q⟩:=q;exact⟨v,i,_,j.xh b e,r,q⟩
def Zey(F:∀R:VK,R (.ref d) H1->s σ H R)(E:H1 d=U (.dK kvs))(n:Nat->St->Hp->Prop)
  (w:∀b,n 0 σ (upd H1 d (.bU b (.dK kvs))))
  (A:∀b i k y j h (N:St->Hp->Prop) (u:VK) (bk:St->Hp->Prop),kvs[i]?=U (k,y)->n i j h->h d=U (.bU b (.dK kvs))->(∀l f,n (i+1) l f->f d=U (.bU b (.dK kvs))->N l f)->g y j h λI L=>t ⟨N,u,bk,N⟩ I L)
  (r:∀b j h,n kvs.length j h->h d=U (.bU b (.dK kvs))->D.nx j (upd h d (.dK kvs))):TN P s g t D σ H:=by
 refine F _ ⟨d,kvs,rfl,E,λb z=>⟨λi m j h=>m=kvs.length-i/\i<=kvs.length/\n i j h/\h d=U (.bU b (.dK kvs)),⟨kvs.length,ua _,Yx _,w b,aQ⟩,?_⟩⟩;rintro i m j h ⟨rfl,C,p,o⟩;by_cases q:i<kvs.length
 ·refine .inr ⟨⟨o,q⟩,λl f=>n (i+1) l f/\f d=U (.bU b (.dK kvs)),λl f ⟨a,c⟩=>⟨kvs.length-(i+1),by omega,rfl,q,a,c⟩,?_⟩;rintro x J ⟨rfl,k,B⟩;exact A b i k x j J (λl f=>n (i+1) l f/\f d=U (.bU b (.dK kvs))) _ _ B p o λl f v G=>⟨v,G⟩
 ·have e:i=kvs.length:=i1 C (gM q)
  subst e;exact .inl ⟨⟨o,Yd _⟩,d,b,kvs,z,o,r b _ _ p o⟩
section
variable {W ty:TE}
def ZhP(W ty:TE):TS:=λD c H=>W c H λx e=>ty c e λy d=>∃a b k,x=.ref a/\d a=U (.dK b)/\y=kV k/\(aZ b k).isSome=af/\Ch d a (.dK (iM b k)) (D.nx c)
def Zez(q:PE X o W)(r:PE X i ty):PS X (.Delete [.Subscript o i C] pos) (ZhP W ty):=by
 intro b s c H D I h;refine wpAny_Delete (Cr (As (az (q b s c H _ I h) λu f d=>?_)));obtain⟨x,B,A,j,n⟩:=d;refine az (r b f c B _ A n) λG F d=>?_;obtain⟨y,J,z,g,a,p,k,v,e,t,l,m⟩:=d;subst v t;obtain rfl:u=Value.ref a:=j;exact Zc9 z e g l λE w=>CQ ⟨c,_,w,m.at⟩
theorem PU[DecidableEq α]:∀{a:Z (α×β)} {j:Nat} {k:α} {p:β},(a.map (·.1)).Nodup->a[j]?=U (k,p)->a.eraseIdx j=a.filter λx=>decide (x.1≠k)
 |[],_,_,_,_,h=>rfl
 |x::a,0,k,p,b,h=>by
  have e:x=(k,p):=by simpa using h
  subst e;rw[List.eraseIdx_cons_zero,List.filter_cons_of_neg (by simp)];refine(J7.mpr λy g=>?_).symm
  grind
 |x::a,j+1,k,p,b,h=>by
  obtain⟨f,d⟩:=Y0.mp (show(x.1::a.map (·.1)).Nodup from b);have c:a[j]?=U (k,p):=by simpa using h
  rw[List.eraseIdx_cons_succ,PU d c,J9 (by simpa using(λz=>f (by exact z▸Ye.mpr ⟨_,Yh c,rfl⟩)))]
theorem PV(f:α->β):∀(a:Z α) (j:Nat),(a.map f).eraseIdx j=(a.eraseIdx j).map f
 |[],_=>rfl
 |_::_,0=>rfl
 |x::a,j+1=>by
  show f x::(a.map f).eraseIdx j=f x::(a.eraseIdx j).map f;rw[PV f a j]
theorem Zf2(k:Z Key)(r:KT H a xs):KT H (iM a k) (xs.filter λx=>decide (x.1≠k)):=by
 unfold iM;induction r with
 |nil=>exact .nil
 |@cons p x c xs f t b=>
  by_cases e:p.1=k;·simp_all
  ·rw[J9 (by simpa using e),J9 (by rw[←f.1];simpa using e)];exact .cons f b
def ZeA{P:cZ}{w:cN}{A:eL}{E:bo}{s:bt}{d a:O}{b:HeapKind P w (Z Key)}{h:Z (Z Key×O×aY)}{k:Z Key}{Q:bq DictEntry->bt->Prop}(c:b.room A)(r:b.is s.heap k a)(D:s.heap.DictOfH b d h)(f:k∈h.map (·.1))(H:h.length<=sizeLine)
  (y:∀e m u,m.DictOfH b d (h.filter λx=>decide (x.1≠k))->Heap.SameBut d s.heap m->Q (U e) {s with heap:=m,toks:=u}):wpAny (model P w) A (Builtin.Dict.takeOut d (.ref a)) Q E s:=by
 obtain⟨G,n,B,g,z,hd,i,t,q⟩:=D;refine jd (bp (b.pyHash c r (bp (wpAny_dictFind_heap c r g hd i t q (λno=>?_) λj p e=>?_))))
 ·obtain⟨x,l,e⟩:=Ye.mp f;obtain⟨j,v,C⟩:=W0.mp l;exact absurd (by rw[Yc v,C,←e]) (no j x.2)
 ·have sz:n.size=h.length:=by rw[←Wx,i,Ya]
  refine bp (K7 g hd ?_);rw[entry_at i j,e];have o:=D8 s.heap d (Obj.mapDictKeys λx=>x.eraseIdxIfInBounds j);refine bp (Ct g hd (cD (y _ _ _ ⟨_,_,B+1,Wy _ g (DP (sH hd _)),z.mapDictKeys _,sH hd _,?_,λx l=>?_,?_⟩ o)) (by rwa[sz]))
  ·rw[←PU q e];have F:(n.eraseIdxIfInBounds j).toList=n.toList.eraseIdx j:=by
    simp_all
   rw[F,i,PV]
  ·exact b.keeps (t x (Y5.mp l).1) g hd o
  ·grind
theorem Zca(w:A.units+1<cLine)(I:Inv X pins σ H s)(e:H a=U (.dT d))(J:H b=U (.tup (k.map kV)))(l:(aZ d k).isSome=af)(h:∀n,Inv X pins σ (upd H a (.dT (iM d k))) n->Q () n):
  wpAny X.md A (delItem (.ref a) (.ref b)) Q E s:=by
 obtain⟨z,r,m,f,i⟩:=TC I.aw e;have R:d.length=m.length:=Paired.length f;have there:k∈m.map (·.1):=by
  rw[ZfZ f];cases g:aZ d k with
  |none=>rw[g] at l;cases l
  |some v=>
   unfold aZ at g;cases j:d.find? λu=>decide (u.1=k) with
   |none=>rw[j] at g;cases g
   |some p=>exact Ye.mpr ⟨p,List.mem_of_find?_eq_some j,eK (by simpa using List.find?_some j)⟩
 refine Eg i.typeIs (by decide) sU (n7 sU i.typeIs zR ?_ (zM _ _));unfold Builtin.«dict.__delitem__»;refine bp ?_;unfold Builtin.Dict.dictSlotArgs;refine bp (B1 i.typeIs ?_);show wpAny _ _ (pure (Value.ref a,Value.ref b)) _ _ s;refine cD ?_;show wpAny _ _ (Builtin.Dict.takeOut a (.ref b)>>=_) _ _ s;refine bp (ZeA (nV w) (rK I.aw J) i there (by omega) λen T P L t=>?_);refine bp (xc (cD ⟨.none,rfl,?_⟩));obtain⟨o,D,F,q,C,B,y,_,x⟩:=L;refine h _ (tR I (by exact e▸hY) t ⟨o,q⟩ ⟨Yz (Wn _ _) z,r,_,(Zf2 k f).keeps λc N G=>by
   rwa[aA (S8 G e (λz=>nomatch z))],o,D,F,q,C,B,y,x⟩)
def ZhQ(W ty:TE):TS:=λD d H=>W d H λx f=>ty d f λy e=>∃a b c k,x=.ref a/\e a=U (.dT c)/\y=.ref b/\e b=U (.tup (k.map kV))/\(aZ c k).isSome=af/\Ch e a (.dT (iM c k)) (D.nx d)
def PX(t:X.A.units+1<cLine)(v:PE X o W)(w:PE X i ty):PS X (.Delete [.Subscript o i J] pos) (ZhQ W ty):=by
 intro c s d H D I h;refine wpAny_Delete (Cr (As (az (v c s d H _ I h) λu g f=>?_)));obtain⟨x,G,F,m,p⟩:=f;refine az (w c g d G _ F p) λr N f=>?_;obtain⟨y,P,E,j,a,b,q,k,A,e,z,B,l,n⟩:=f;subst A z;obtain rfl:u=Value.ref a:=m;obtain rfl:r=Value.ref b:=j;exact Zca t E e B l λL C=>CQ ⟨d,_,C,n.at⟩
end
end L2
namespace L2
open PySem PySem.W PySem.Spec PyProof.Rows
def ZhR:Z V->Hp->VK->Prop:=λd H Q=>∃(p:O) (a:Z (Key×V)) (b:Z Int),d=[.ref p]/\H p=U (.dK a)/\a.map (·.1)=b.map Sum.inl/\b.length<64/\∀c:Z Int,c.Perm b->c.Pairwise (·<=·)->Nw H (.lst (c.map V.int)) Q
def Zbk(t:(d==sysModules)=a7)(B:A.handled=aJ)
  (G:s.heap.DictAt (dW prog w) d g D)(z:g.map (·.1)=ns.map Sum.inl)(N:g.length<64)
  (h:∀(c n:cI) (l:Nat) (out:cW aY) (i:Z Int) (e:Nat),(∀b o,s.heap.get? b=U o->c.get? b=U o)->(∀b o,c.get? b=U o->n.get? b=U o)->n.get? c.objs.size=U (seqObj "list" out e)->IntsAre out.toList i->i.Perm ns->i.Pairwise (·<=·)->Q (.ref c.objs.size) {s with heap:=n,toks:=l}):
  wpAny (model prog w) A (call (.builtin "sorted") [.ref d]) Q E s:=by
 refine um kind_sorted plain_sorted entry_sorted (args_sorted1 _) ?_;refine bp (cD ?_);have f:g.length<=sizeLine:=by rw[c4];exact m6 (hT N (by decide))
 refine bp (kdu_collect (kdl_dict (kvs:=g) (ep:=D) t) B G f λc l acc u m=>?_);have a:Vals ((g.map (·.1)).map kV) acc.toList:=by
  refine HK (P:=prog) (w:=w) (by rw[Wx,Ya];exact m.1) λj v T=>?_;obtain⟨k,x,R,W⟩:=m.2 j v (by rwa[←Jt])
  grind
 have F:(g.map (·.1)).map kV=ns.map V.int:=by rw[z,Y7];rfl
 rw[F] at a;have y:acc.toList.length<64:=by rwa[Wx,m.1]
 refine bp (th ?_);have q:(c.push (seqObj "list" acc.toList.toArray 0)).get? c.objs.size=U (seqObj "list" acc.toList.toArray 0):=by exact Dx▸(Yp _ rfl)
 refine bp (jd (n7 slot_list_sort ⟨_,q,rfl⟩ entry_list_sort (list_sort_tree q (intsAre_of a) y λout i J I H=>⟨_,rfl,?_⟩) (args_list_sort _)));obtain⟨e,C⟩:=sortedHeap_at q;exact cD ⟨_,rfl,h c _ l out i e u (λb L r=>by
  have p:=Yr r;rw[sortedHeap_old (Yy p) (by rw[size_push'];exact Wz p),Jk _ _ _ (Yy p)];exact r) C J I H⟩
def Zal(w:X.calm=af):dA X (.builtin "sorted") ZhR:=by
 rintro b s C H D F Q I r ⟨p,a,l,rfl,t,d,N,q⟩;obtain⟨u,rfl,k⟩:=vals1 r;obtain rfl:u=Value.ref p:=k;obtain⟨m,i,E,c,y⟩:=nI I.aw t;obtain⟨R,z⟩:=y.dictAt;have L:=c.length;have J:a.length=l.length:=by have:=dC List.length d;rwa [Ya,Ya] at this
 refine Zbk i (I.ok.hd w) z (by rw[←c.keys];exact d) (by omega) λx P G out f e n j v B g A=>?_;have h:=I.kept (t':=s.toks) n;refine⟨.ref x.objs.size,_,h.laid (o:=.lst (f.map V.int)) j (Yd _) ⟨?_,out.toList,e,Hx B,by simpa[seqObj] using v⟩,rfl,(q f g A).at _ (h.aw.fresh (Yd _))⟩;rw[Ya,g.length_eq]
 simp_all
def Zf3:Z V->Hp->VK->Prop:=λb H Q=>∃(p:O) (a:Z (Key×V)),b=[.ref p]/\H p=U (.dK a)/\Nw H (.dK a) Q
def Zbl:dA X (.type "dict") Zf3:=by
 rintro d s n H t v Q I r ⟨p,c,rfl,k,q⟩;obtain⟨u,rfl,j⟩:=vals1 r;obtain rfl:u=Value.ref p:=j;obtain⟨a,g,h,f,l⟩:=nI I.aw k;have w:=f.length;exact PySem.kt_call_dict g l (by omega) λx m i=>⟨.ref s.heap.objs.size,_,I.laid (o:=.dK c) (λb o e=>(i.2 b (Yy (Yr e))).trans (Yb _ e)) (Yd _) ⟨a,beq_eq_false_iff_ne.mpr (jm (Yy I.big)),h,f,m⟩,rfl,q.at _ (I.aw.fresh (Yd _))⟩
def Zcb(a:Nat->ar)(b:∀i v,P i v->∃t,v=.str (a i) t):CmpOf prog w A .Lt P (λi j=>decide ((a i).cps.toList<(a j).cps.toList)):=λi j d c s Q E f e h=>by
 obtain⟨t,rfl⟩:=b i d f;obtain⟨u,rfl⟩:=b j c e;exact Mm (pJ s _ t) (pJ s _ u) F.slot_str_lt F.entry_str_lt (F.args_str_lt_2 _ _) (gives_str_lt _ _ t u) (λx=>nomatch x) h
def Zcc(a:Nat->ar)(b:∀i v,P i v->∃t,v=.str (a i) t):CmpOf prog w A .Gt P (λi j=>decide ((a j).cps.toList<(a i).cps.toList)):=λi j d c s Q E f e h=>by
 obtain⟨t,rfl⟩:=b i d f;obtain⟨u,rfl⟩:=b j c e;exact Mm (pJ s _ t) (pJ s _ u) F.slot_str_gt F.entry_str_gt (F.args_str_gt_2 _ _) (gives_str_gt _ _ t u) (λx=>nomatch x) h
def rW(a b:ar):ar:=if b.cps.toList<a.cps.toList then b else a
def rX(a b:ar):ar:=if a.cps.toList<b.cps.toList then b else a
def ZhS{s:bt}:(s.heap.push {cls:=.type "tuple",data:=.seq #[a,b]}).IsTuple s.heap.objs.size #[a,b]:=⟨_,Yp _ rfl,rfl,0,rfl⟩
section
variable {X:cZ}{w:cN}{A:eL}{E:bo}{s:bt}
theorem QZ(i:Nat)(v:aY)(h:(#[Value.str a t,Value.str b u]:cW aY)[i]?=U v):∃t',v=.str (([a,b]:Z ar).getD i "") t':=by
 match i,h with
 |0,h=>exact⟨t,(Ym h).symm⟩
 |1,h=>exact⟨u,(Ym h).symm⟩
 |i+2,h=>simp at h
def PY{a b:ar}{t u:Tok}{Q:bo}{y:CmpOp}(f:ar->ar->cm)(G:A.handled=aJ)
  (r:CmpOf X w A.in1 y (λi v=>(#[Value.str a t,Value.str b u]:cW aY)[i]?=U v) λi j=>f (([a,b]:Z ar).getD i "") (([a,b]:Z ar).getD j ""))
  (h:∀g k t',(∀c o,s.heap.get? c=U o->g.get? c=U o)->Q (.str (if f b a=af then b else a) t') {s with heap:=g,toks:=k}):
  wpAny (model X w) A.in1 (pyIter (.ref s.heap.objs.size)) (λC p=>∃I fp x n P St B,C=.ref I/\Walks X w A.in1 I fp x n P St/\St 0 p.heap/\(∀b∈fp,b<p.heap.objs.size)/\0<n/\CmpOf X w A.in1 y P B/\
   ∀v g k,P (argBest B (n-1)) v->(∀b o,b∉x->p.heap.get? b=U o->g.get? b=U o)->Q v {p with heap:=g,toks:=k}) E
   {s with heap:=s.heap.push {cls:=.type "tuple",data:=.seq #[.str a t,.str b u]}}:=by
 have z:=ZhS (a:=.str a t) (b:=.str b u) (s:=s);refine uR z ?_;have d:(s.heap.push {cls:=.type "tuple",data:=.seq #[.str a t,.str b u]}).objs.size=s.heap.objs.size+1:=Jp ..;refine⟨_,[_,s.heap.objs.size],[_],_,_,_,_,rfl,Walks.tuple (A:=A.in1) G _ s.heap.objs.size (by rw[d];exact Yy (Jf _)) #[.str a t,.str b u],
  ⟨⟨_,Yp _ rfl,rfl,rfl⟩,z.push _⟩,λc q=>?_,by simp,r,λv g k H F=>?_⟩
 ·show c<((s.heap.push _).push _).objs.size;rw[Jp,d];rcases Ys.mp q with rfl|q;·rw[d];exact Jf _
  ·rw[Yn.mp q];exact Wz (Jf _)
 ·have l:∀c o,s.heap.get? c=U o->g.get? c=U o:=λc o e=>by
   refine F c o (λD=>?_) (Yb _ (Yb _ e));have:=Yr e;rw[Yn.mp D,d] at this;exact Wd _ (Nat.lt_of_succ_lt this)
  have m:(#[Value.str a t,Value.str b u]:cW aY)[if f b a=af then 1 else 0]?=U v:=H;obtain⟨t',J⟩:∃t',v=.str (if f b a=af then b else a) t':=by
   by_cases c:f b a=af
   ·rw[bS c] at m⊢;exact⟨u,by simpa using m.symm⟩
   ·rw[bR c] at m⊢;exact⟨t,by simpa using m.symm⟩
  subst J;exact h g k t' l
end
def Zcd(d:X.calm=af):dA X (.builtin "min") (λa H Q=>∃i j:ar,a=[.str i,.str j]/\Q (.str (rW i j)) H):=by
 intro b s e H a g Q I r h;obtain⟨i,j,rfl,q⟩:=h;obtain⟨u,f,rfl,⟨t,rfl⟩,⟨m,rfl⟩⟩:=vals2 r;exact call_min_two (PY (λx y=>decide (x.cps.toList<y.cps.toList)) (I.ok.hd d) (Zcb _ QZ) λn l c k=>⟨.str (rW i j),H,I.kept k,⟨c,by unfold rW;simp[MH]⟩,q⟩)
def Zce(d:X.calm=af):dA X (.builtin "max") (λa H Q=>∃i j:ar,a=[.str i,.str j]/\Q (.str (rX i j)) H):=by
 intro b s e H a g Q I r h;obtain⟨i,j,rfl,q⟩:=h;obtain⟨u,f,rfl,⟨t,rfl⟩,⟨m,rfl⟩⟩:=vals2 r;exact call_max_two (PY (λx y=>decide (y.cps.toList<x.cps.toList)) (I.ok.hd d) (Zcc _ QZ) λn l c k=>⟨.str (rX i j),H,I.kept k,⟨c,by unfold rX;simp[MH]⟩,q⟩)
def ZhT:bootBuiltins "max"=U (.builtin "max"):=QK
def Q0:cS X (binaryOp .Mult) (λx y H Q=>∃(z:ar) (n:Nat),x=.str z/\y=.int (n:Int)/\z.length<=100/\n<=100/\Q (.str (Txt.mul z (n:Int))) H):=by
 intro a s i H x y v u Q I d c h;obtain⟨z,n,rfl,rfl,e,f,q⟩:=h;obtain⟨t,rfl⟩:=d;obtain⟨j,rfl⟩:=c;have l:z.length*n<=10000:=Yz (vi e f) (by decide);refine PySem.SB.mul ⟨?_,λr _=>?_,λ_ _=>?_⟩ λb k=>⟨.str (Txt.mul z (n:Int)),H,I.tok k,⟨b,rfl⟩,q⟩;·rw[g_ (by omega),g_ (by omega)];rfl
 ·have m:(1:Int)<=(n:Int):=by omega
  intro g;have p:((2:Int)^63-1)/(n:Int)≥(2^63-1)/100:=by
   refine Int.le_ediv_of_mul_le (by omega) ?_
   grind
  have o:((2:Int)^63-1)/100>100:=by decide
  omega
 ·rw[Y6];exact g_ (by rw[c4];exact V0 (d6 l (by decide)))
def iS:V->cm
 |.int _=>af
 |.str _=>af
 |_=>a7
def BU(h:iS x=af):jS x=af:=by cases x<;>first|rfl|cases h
theorem ZhU(d:iS x=af)(c:iS y=af):jF x y=decide (x=y):=by
 cases x with
 |int a=>
  cases y with
  |int b=>
   show(a==b)=_
   grind
  |str b=>rfl
  |_=>cases c
 |str a=>
  cases y with
  |int b=>rfl
  |str b=>
   show(a==b)=_
   grind
  |_=>cases c
 |_=>cases d
theorem HN:∀{a b:Z V},a.length=b.length->a.all iS=af->b.all iS=af->((List.range a.length).all λj=>jF (a.getD j .ay) (b.getD j .ay))=decide (a=b)
 |[],[],_,_,_=>rfl
 |[],_::_,h,_,_=>by simp at h
 |_::_,[],h,_,_=>by simp at h
 |x::a,y::b,h,d,c=>by
  rw[Jm,Wp] at d c;rw[Wg,List.range_succ_eq_map,Jm,Mi];have e:((λj=>jF ((x::a).getD j .ay) ((y::b).getD j .ay))∘Nat.succ)=λj=>jF (a.getD j .ay) (b.getD j .ay):=rfl;rw[e,(HN (by simpa using h) d.2 c.2)];show(jF x y&&_)=_;rw[ZhU d.1 c.1,We,Wp,eJ,eJ,eJ,List.cons.injEq]
def ZjP(K:ah)(c:cm):R2:=λx y H Q=>∃(p q:O) (b a:Z V),x=.ref p/\y=.ref q/\aB K H p b/\aB K H q a/\b.all iS=af/\a.all iS=af/\Q (.bl (if c=af then !decide (b=a) else decide (b=a))) H
theorem BV(r:Vals xs us):∀{j:Nat} (h:j<us.length),RelV (xs.getD j .ay) us[j]:=by
 induction r with
 |nil=>intro j h;cases h
 |cons f _ a=>
  intro j h;cases j with
  |zero=>exact f
  |succ j=>exact a (Nat.lt_of_succ_lt_succ h)
def BW{a:Z V}(f:a.all iS=af)(h:j<a.length):iS (a.getD j .ay)=af:=by
 simp_all
def ZhV{K:ah}(G:X.K=K)(F:X.A.units<cLine):cS X (compareOp .NotEq) (ZjP K af):=by
 subst G;intro m s R H x y v u Q I w t h;obtain⟨p,q,g,f,rfl,rfl,b,a,r,o,k⟩:=h;cases w;cases t;obtain⟨d,l,A,W⟩:=I.tuple b;obtain⟨c,i,z,T⟩:=I.tuple a;have C:=l.length;have B:=i.length;show wpAny _ _ (richCompare .NotEq _ _) _ _ _;refine SeqAt.RcNeAt.tuples (e:=λj=>jF (g.getD j .ay) (f.getD j .ay)) A z F (λj b a=>?_) _ _ _ _ (cU I k ?_)
 ·have E:j<d.length:=by simpa using b
  have D:j<c.length:=by simpa using a
  have L:=BV l E;have J:=BV i D;have P:d.toArray[j]=d[j]:=by simp
  have N:c.toArray[j]=c[j]:=by simp
  rw[P,N];exact JD L J (BU (BW r (by omega))) (BU (BW o (by omega)))
 ·rw[bS rfl,Yq,Yq,←C,←B];by_cases n:g.length=f.length
  ·rw[←n,Nat.min_self,HN n r o];simp
  ·grind
def Zf4{K:ah}(h:X.K=K):sy X (Uv K):=h▸RW
def wV(H:Hp)(b:Z V)(u:aY):cm:=match u with
 |.ref a=>match H a with
  |some (.tup ys)=>decide (ys=b)
  |_=>a7
 |_=>a7
def ZjQ(d:cm):R2:=λx y H Q=>∃(p q:O) (c:Z V) (f:Z O) (e:Z (Z V)),x=.ref p/\y=.ref q/\H p=U (.tup c)/\c.all iS=af/\H q=U (.lst (f.map V.ref))/\Paired (λa b=>H a=U (.tup b)/\b.all iS=af) f e/\Q (.bl (if d=af then !e.any λb=>decide (b=c) else e.any λb=>decide (b=c))) H
def PZ(h:H a=U (.tup b)):wV H xs (.ref a)=decide (b=xs):=by
 unfold wV
 simp_all
theorem O0:∀{f:Z O} {d:Z (Z V)} {c:Z aY},Vals (f.map V.ref) c->Paired (λa b=>H a=U (.tup b)/\b.all iS=af) f d->c.any (wV H xs)=d.any λb=>decide (b=xs)
 |_,_,_,v,.nil=>by cases v;rfl
 |a::f,b::d,c,v,.cons e p=>by
  cases v with
  |cons r t=>
   cases r;rw[Jh,Jh,PZ e.1,O0 t p]
theorem O1{H:Hp}:∀{f:Z O} {g:Z (Z V)} {d:Z aY},Vals (f.map V.ref) d->Paired (λa b=>H a=U (.tup b)/\b.all iS=af) f g->∀u∈d,∃a b,u=.ref a/\H a=U (.tup b)/\b.all iS=af
 |_,_,_,v,.nil=>by cases v;intro u c;cases c
 |a::f,b::g,d,v,.cons e p=>by
  cases v with
  |cons r t=>
   cases r;intro u c;rcases Ys.mp c with rfl|c;·grind
   ·exact O1 t p u c
def ZeB(v:X.A.units+1<cLine)(I:Inv X pins σ H s)(g:H p=U (.tup xs))(m:xs.all iS=af)(b:H a=U (.tup c))(l:c.all iS=af):SeqAt.EqAt X.A.in1 s (.ref a) (.ref p) (decide (c=xs)):=by
 by_cases e:a=p
 ·subst e;have:c=xs:=by
   rw[g] at b;injection b with b;injection b with b;exact b.symm
  rw[dg this];exact UJ _
 obtain⟨f,i,o,D⟩:=I.tuple (aB.of b);obtain⟨d,h,n,C⟩:=I.tuple (aB.of g);have r:=i.length;have q:=h.length;refine SeqAt.EqAt.of_refs e ?_;have E:=SeqAt.RcAt.tuples (A:=X.A.in1) (e:=λj=>jF (c.getD j .ay) (xs.getD j .ay)) o n v (λj g b=>?_)
 ·have w:((List.range (min f.toArray.size d.toArray.size)).all (λj=>jF (c.getD j .ay) (xs.getD j .ay))&&f.toArray.size==d.toArray.size)=decide (c=xs):=by
   rw[Yq,Yq,←r,←q];by_cases k:c.length=xs.length
   ·rw[←k,Nat.min_self,HN k l m];simp
   ·grind
  rwa[←w]
 ·have u:j<f.length:=by simpa using g
  have t:j<d.length:=by simpa using b
  have y:=BV i u;have x:=BV h t;have B:f.toArray[j]=f[j]:=by simp
  have z:d.toArray[j]=d[j]:=by simp
  rw[B,z];exact JD y x (BU (BW l (by omega))) (BU (BW m (by omega)))
def ZhW(l:X.A.units+1<cLine):cS X (compareOp .In) (ZjQ a7):=by
 rintro d s z H x y v u Q I h g ⟨p,q,b,D,B,rfl,rfl,n,t,m,c,k⟩;cases h;cases g;obtain⟨f,r,i,C⟩:=I.list (ak.of m);refine Ug (wV H b) i.isList (λw j=>?_) ⟨.bl _,H,I,rfl,?_⟩
 ·obtain⟨a,A,rfl,e,o⟩:=O1 r c w (by simpa using j);rw[PZ e];exact ZeB l I n t e o
 ·rw[show f.toArray.any (wV H b)=f.any (wV H b) by simp,O0 r c];exact k
def xJ(g:Nat->aY):Nat->Nat->Z aY
 |0,_=>[]
 |n+1,i=>g i::xJ g n (i+1)
theorem JW(g:Nat->aY):∀(b:Z aY) (i:Nat),(∀k,b[k]?=U (g (i+k))\/b.length<=k)->b=xJ g b.length i
 |[],_,_=>rfl
 |a::r,i,h=>by
  have e:a=g i:=by
   rcases h 0 with z|z;·grind
   ·cases z
  refine WM (dC _ e) (JW g r (i+1) λk=>?_);have:=h (k+1)
  grind
inductive cv(K:ah)(x:ar)(b:cj)(f:O):Prop
 |mk {h n:bq O} {e:cW (bq aY)} {i kV j g d m:aY} (a:nsIn K mainGlobals x=U (U (.ref f))) (l:K.lookup f=U ⟨i,h,.func (fnOf x x (mC b) (jq b) (aO b) .none kV j g n d m),e⟩) (c:codeIn K d x=af) (k:keepIn K (.ref f)=af):cv K x b f
inductive c6(K:ah)(C:O)(x q:ar)(d:cj)(f:O):Prop
 |mk {i o:bq O} {g:cW (bq aY)} {j kV m h e n:aY} (a:PySem.W.findIn K (.ref C) x=U (U (.ref f))) (b:isFn K (.ref f)=af) (l:K.lookup f=U ⟨j,i,.func (fnOf x q (mC d) (jq d) (aO d) .none kV m h o e n),g⟩) (c:codeIn K e q=af) (k:keepIn K (.ref f)=af):c6 K C x q d f
inductive kK(P:cZ)(w:cN)(K:ah)(b:aU)(a:cI):Prop
 |mk {h:cI} (X:K.In h) (G:h.Ns mainGlobals b):kK P w K b a
abbrev n_(x q:ar)(a:cj)(b:Z ar):Prop:=∀(kV c d:aY) (h:bq O) (f e:aY) (g:Nat->aY),bindArgs (fnOf x q (mC a) (jq a) (aO a) .none kV c d h f e) ⟨xJ g b.length 0,[]⟩=pure (b.zip (xJ g b.length 0))
def n_.at{c:cj}(b:n_ x q c f)(h d g:aY)(l:bq O)(j i:aY)(a:Z aY)(m:a.length=f.length):bindArgs (fnOf x q (mC c) (jq c) (aO c) .none h d g l j i) ⟨a,[]⟩=pure (f.zip a):=by
 have e:=JW (λk=>a.getD k .none) a 0 λk=>by
  grind
 grind
section
variable {P:cZ}{w:cN}{K:ah}{T:aU}{W:cI}{C f:O}{x q:ar}{st:cj}{ps:Z ar}{n:Nat}{R:Sp}
def kK.p(D:kK P w K T W)(p:cv K x st f)(b:n_ x x st ps:=by intro _ _ _ _ _ _ _;rfl):∃d,aR K x x st f d/\Binds K d ps []/\keepIn K (.ref f)=af/\T x=U (.ref f):=by
 obtain⟨X,G⟩:=D;obtain⟨a,l,c,k⟩:=p;exact⟨_,yY l c k,(yY l c k).binds (n_.at b),k,iu X G a⟩
def kK.d(D:kK P w K T W)(p:cv K x st f)(o:∀a,aR K x x st f a->aI P w K T W aP n f a ps R)(b:n_ x x st ps:=by intro _ _ _ _ _ _ _;rfl):HasFn P w K T W n x ps R:=by
 obtain⟨a,F,b,k,m⟩:=D.p p b;exact⟨f,a,o _ F,b,k,m⟩
def c6.p(p:c6 K C x q st f)(b:n_ x q st ps):∃d,aR K x q st f d/\Binds K d ps []/\Meth K C x f/\PySem.W.findIn K (.ref C) x=U (U (.ref f))/\isFn K (.ref f)=af:=by
 obtain⟨a,e,l,c,k⟩:=p;exact⟨_,yY l c k,(yY l c k).binds (n_.at b),⟨a,e,k⟩,a,e⟩
def kK.m(_:kK P w K T W)(c:hU K C)(p:c6 K C x q st f)(o:∀a,aR K x q st f a->aI P w K T W aP n f a ps R)(b:n_ x q st ps:=by intro _ _ _ _ _ _ _;rfl):bY P w K T W n x C ps R:=by
 obtain⟨a,F,b,m,_,_⟩:=p.p b;exact⟨f,a,c,m,o _ F,b⟩
def kK.mX(_:kK P w K T W)(c:hU K C)(p:c6 K C x q st f)(o:∀a,aR K x q st f a->aI P w K T W (fY P w) n f a ps R)(b:n_ x q st ps:=by intro _ _ _ _ _ _ _;rfl):Sl P w K T W n x C ps R:=by
 obtain⟨a,F,b,m,_,_⟩:=p.p b;exact⟨f,a,c,m,o _ F,b⟩
def kK.i(_:kK P w K T W){y:ar}(m:T y=U (.ref C))(g:makesIn K C=af)(d:keepIn K (.ref C)=af)(p:c6 K C "__init__" q st f)(o:∀c,aR K "__init__" q st f c->aI P w K T W aP n f c ps R)(b:n_ "__init__" q st ps:=by intro _ _ _ _ _ _ _;rfl):qj P w K T W n y C ps R:=by
 obtain⟨c,F,b,_,a,e⟩:=p.p b;exact⟨f,c,⟨g,a,e,d⟩,o _ F,b,m⟩
end
end L2
namespace L2
open PySem PySem.Spec PyProof.Rows
section
variable {X:Cx}
def cy(i:Nat){x:ar}{e:cu}{c:TE}{b a:Pos}(k:X.N.Nodup)(j:PE X e c)(g:X.N[i]?=U x:=by rfl)(d:Loc X.env.scope x:=by exact gR rfl)(f:swapsWith e (U (.Name x a)) b.line X.env=pure a7:=by rfl)
  (h:X.fn x=af\/X.env.scope.names.lookup x=U .local:=by first|exact .inl rfl|exact .inr rfl|assumption):PS X (.Assign [.Name x a] e b) (ui c (qc i)):=ig k g d j f h
def bI(i:Nat){x:ar}{a:Pos}(e:X.N.Nodup)(c:X.N[i]?=U x:=by rfl)(b:Loc X.env.scope x:=by exact gR rfl)
  (d:X.fn x=af\/X.env.scope.names.lookup x=U .local:=by first|exact .inl rfl|exact .inr rfl|assumption):PG X (.Name x a) (qc i):=rB e c b d
def pF(K:ah)(i:Nat){x f:ar}{p a:Pos}(h:X.K=K:=by rfl)(e:X.N[i]?=U x:=by rfl)(b:uG X.env.scope x:=by first|exact gR rfl|exact kv (gR rfl)|exact kv (kv rfl))(c:(x==("__debug__":ar))=a7:=by decide)
  (g:(x==("__classdict__":ar))=a7:=by decide)(d:attributeBase (.Name x p) f X.env (eval (.Name x p) X.env)=eval (.Name x p) X.env:=by rfl):PE X (.Attribute (.Name x p) f a) (KU K (gn i) f):=wA h (pv i e b c g) d
def aV{k j:Nat}{x:ar}{c:Z ar}{b:Sp}{p a:Pos}{e:cu}{es:Z cu}{t:TA}(h:HasFn X.prog X.w X.K X.mg X.base k x c b)(d:c5 j X.A)(l:PA X (e::es) t)(f:k<=j:=by omega)(g:Gl X x:=by rfl)
  (m:(x==("__debug__":ar))=a7:=by decide)(i:jB X e es:=by rfl)(n:j9 X a es:=by rfl):
  PE X (.Call (.Name x p) (e::es) [] a) (Cp b [] E0 t):=Ko h d f g l m i n
def bh{r:R2}{a b:cu}{e d:TE}{c:Pos}(g:jE X r)(i:PE X a e)(h:PE X b d)(f:QJ b:=by exact λ_ _=>rfl):PE X (.Subscript a b c) (jC r e d):=Tg g i h f
end
section
variable {P:cZ}{w:cN}{K:ah}{W:aU}{X:cI}
def aR.o{x b:ar}{e:cj}{f:O}{j:FuncData}{N g:Z ar}{k:Nat}{sp:Sp}(F:aR K x b e f j)(a:aT N g (aO e))
  (m:∀{l:aY} {A:eL} {c:Z Env} {d:Z V} {Q:VK} {E:XK} (s:bt) (H:Hp),c5 k (A.deeper (envOfC b (aO e) s.heap.objs.size f l))->sp d H Q E->
   ∃t,fX (lq aP P w K W X N b (aO e) f l A c s H E).oX (jq e) t/\t {nx:=λ_ n=>Q .ay n,rt:=Q} (start N d) H)
  (i:∀d H Q E,sp d H Q E->d.length=g.length:=by intro d H Q E h;first|(cases h;subst_vars;rfl)|((repeat obtain⟨_,h⟩:=h);subst_vars;rfl)):aI P w K W X aP (k+1) f j g sp:=F.ok a i λ_ _ _ s H _ _ _=>m s H
end
def aT.a9{N P:Z ar}{sc:Scope}(a:sc.kind=.function:=by rfl)(b:sc.isCoroutine=a7:=by rfl)(c:sc.isGenerator=a7:=by rfl)(d:N.Nodup:=by decide+kernel)(e:N.take P.length=P:=by rfl)(f:∀x∈P,sc.names.lookup x=U .local\/sc.names.lookup x=U .cell:=by decide+kernel)(g:∀y∈sc.names,y.2≠.free:=by decide+kernel):aT N P sc:=⟨a,b,c,d,e,f,g⟩
def yF.f_{X:Cx}{h:Scope}{cl:Z (ar×O)}{x:ar}{fr:Z (ar×Nat)}(i:rC X.env.cells cl)(j:rD X h cl fr)(a:closureFor h X.env=pure cl:=by with_unfolding_all rfl)(b:h.kind=.function:=by rfl)(c:∀y∈h.names,y.2=.local->h.names.lookup y.1=U .local:=by decide+kernel)(d:h.names.lookup x=U .local:=by rfl)
  (e:∀y∈h.names,y.2≠.cell:=by decide+kernel)(f:(h.names.all λy=>!(y.2==.free)||(cl.lookup y.1).isSome)=af:=by rfl)(g:(x::fr.map (·.1)).Nodup:=by decide+kernel):yF X h cl x fr:=⟨a,i,b,c,d,e,f,j,g⟩
def qZ.f_{X:Cx}{d:Scope}{cl:Z (ar×O)}{i:Z ar}{fr:Z (ar×Nat)}(h:rC X.env.cells cl)(j:rD X d cl fr)(a:closureFor d X.env=pure cl:=by with_unfolding_all rfl)(b:d.kind=.function:=by rfl)(c:∀y∈d.names,y.2=.local->d.names.lookup y.1=U .local:=by decide+kernel)
  (e:∀y∈d.names,y.2≠.cell:=by decide+kernel)(f:(d.names.all λy=>!(y.2==.free)||(cl.lookup y.1).isSome)=af:=by rfl)(g:(i++fr.map (·.1)).Nodup:=by decide+kernel):qZ X d cl i fr:=⟨a,h,b,c,e,f,j,g⟩
end L2
namespace L2
open PySem PySem.W PySem.Spec PyProof.Rows
inductive sL(K:ah):Z ar->Prop
 |nil:sL K []
 |cons {x:ar} {l:Z ar} (h:nsIn K mainGlobals x=U aJ) (t:sL K l):sL K (x::l)
theorem sL.at{K:ah}{x:ar}:∀{l:Z ar},sL K l->x∈l->nsIn K mainGlobals x=U aJ
 |_,.cons h t,m=>by
  cases m with
  |head=>exact h
  |tail _ m=>exact t.at m
def sL.bl{K:ah}(z:sL K ["len","abs","list","range","tuple","any","all","isinstance","bool","int","str","sorted","min","max","sum","dict","reversed","ValueError"])(X:K.In h)(G:h.Ns mainGlobals mg):Bl mg:=by
 constructor<;>exact PySem.W.mg_none_of X G (z.at (by decide))
inductive Ae(K:ah)(x:ar)(C:O):Prop
 |mk (a:nsIn K mainGlobals x=U (U (.ref C))) (b:makesIn K C=af) (c:keepIn K (.ref C)=af):Ae K x C
def kK.j{P:cZ}{w:cN}{K:ah}{e:aU}{c:cI}{C f:O}{y q:ar}{d:cj}{ps:Z ar}{n:Nat}{sp:Sp}(D:kK P w K e c)(g:Ae K y C)(p:c6 K C "__init__" q d f)(o:∀h,aR K "__init__" q d f h->aI P w K e c aP n f h ps sp)(b:n_ "__init__" q d ps:=by intro _ _ _ _ _ _ _;rfl):qj P w K e c n y C ps sp:=by
 obtain⟨a,m,k⟩:=g;exact D.i (let⟨X,G⟩:=D;iu X G a) m k p o b
inductive Af(K:ah)(x q:ar)(d:Z O)(b:cj)(C f:O):Prop
 |mk {N t:O} {s n:ar} {bs sub:Z aY} {k:Z ar} {G:cm} {c:bq cm} {B:bq O} {z y w v u:bq aY} {p F i:bq O} {m g:cW (bq aY)} {r kV D o e E j A:aY} {h:Nat}
  (a:nsIn K mainGlobals x=U (U (.ref C))) (l:K.lookup C=U (excClassObj s n C N bs (d.map Value.ref++qr) af k sub G c B z y w v u "ValueError.__new__"))
  (g1:PySem.W.findIn K (.ref C) "__getattribute__"=U (U (.builtin "BaseException.__getattribute__"))) (g2:PySem.W.findIn K (.ref C) "__getattr__"=U aJ) (g3:PySem.W.findIn K (.ref C) "__setattr__"=U (U (.builtin "object.__setattr__"))) (g4:PySem.W.findIn K (.ref C) "__class__"=U (U (.builtin "object.__class__")))
  (g5:specialIn K (.builtin "object.__class__") "__get__"=U (U (.builtin "getset_descriptor.__get__"))) (g6:takesIn K (.builtin "object.__class__")=U af)
  (ci:PySem.W.findIn K (.ref C) "__init__"=U (U (.ref f))) (cn:isFn K (.ref f)=af) (ck:keepIn K (.ref C)=af)
  (fl:K.lookup f=U ⟨r,p,.func (fnOf "__init__" q (mC b) (jq b) (aO b) (.ref t) kV D o F e E),m⟩) (fc:codeIn K e q=af) (fk:keepIn K (.ref f)=af) (ft:K.lookup t=U ⟨j,i,.seq #[A] h,g⟩)
  (na:PySem.W.findIn K (.ref C) "word"=U aJ):Af K x q d b C f
abbrev BdE(q:ar)(a:cj)(b:Z ar):Prop:=∀(s:bt) (kV c i j h:aY) (f:bq O) (d:cW (bq aY)) (e:Nat) (t:O) (m:bq O) (l k:aY) (g:Nat->aY),s.heap.get? t=U ⟨h,f,.seq #[j] e,d⟩->BindsTo s (fnOf "__init__" q (mC a) (jq a) (aO a) (.ref t) kV c i m l k) ⟨xJ g b.length 0,[]⟩ (b.zip (xJ g b.length 0))
def Af.b{K:ah}{h:cI}{i:aU}{x q:ar}{n:Z O}{c:cj}{C f:O}(p:Af K x q n c C f)(X:K.In h)(G:h.Ns mainGlobals i)(ps:Z ar)(b:BdE q c ps:=by intro _ _ _ _ _ _ _ _ _ _ _ _ _ _ z;exact BindsTo.of_defaults rfl z rfl rfl rfl):
  ∃m,zy K "__init__" q c f m/\Binds K m ps []/\d5 K C/\xf K C f/\i x=U (.ref C)/\dG K C "word":=by
 obtain⟨a,l,y,w,v,u,t,r,I,F,H,B,E,D,A,o⟩:=p;have d:d5 K C:=⟨⟨_,_,_,_,n,_,_,_,_,_,_,_,_,_,_,l⟩,y,w,v,u,t,r⟩;refine⟨_,⟨⟨_,_,_,_,_,_,_,_,_,_,rfl,B,E⟩,D⟩,λs g J j=>?_,d,xf.of d I F H,iu X G a,o⟩;rw[Wf] at j⊢;have e:=JW (λk=>g.getD k .none) g 0 λk=>by
  grind
 rw[e,j];exact b s _ _ _ _ _ _ _ _ _ _ _ _ _ (J _ _ A)
end L2
namespace L2
open PySem PySem.Spec PyProof.Rows
section
variable {X:Cx}{a b e T:cu}{R P Q N:TE}{p W:Pos}
def dJ(K:ah)(i:Bl X.mg)(f:PE X e Q)(h:X.K=K:=by rfl)(d:Gl X "len":=by rfl)(c:starEach [e] X.env=(a7,eval e X.env)::starEach [] X.env:=by rfl)(g:(backTo W (starEach [] X.env)).any (·.1)=a7:=by rfl):PE X (.Call (.Name "len" p) [e] [] W) (nW (zx K) (iJ Q jX)):=iY (Zjx h) d i.Cu B_ (aa f ag c) (by decide) (by decide) c g
def m7(K:ah)(k:Bl X.mg)(g:PE X e Q)(i:PE X T N)(h:X.K=K:=by rfl)(f:Gl X "isinstance":=by rfl)(d:starEach [T] X.env=(a7,eval T X.env)::starEach [] X.env:=by rfl)(c:starEach [e,T] X.env=(a7,eval e X.env)::starEach [T] X.env:=by rfl)(j:(backTo W (starEach [T] X.env)).any (·.1)=a7:=by rfl):PE X (.Call (.Name "isinstance" p) [e,T] [] W) (nW (CM K) (iJ Q (iJ N jX))):=iY (ZfA h) f k.NL NG (aa g (aa i ag d) c) (by decide) (by decide) c j
def iL(K:ah)(h:X.K=K:=by rfl):jE X (wZ K):=ZdY h
def iT(K:ah)(h:X.K=K:=by rfl):jE X (zr K):=Zfz h
def bJ{c:CmpOp}{r:R2}(d:cS X (compareOp c) r)(h:PE X a R)(g:PE X b P)(f:behindInMarks c b=a7:=by exact RU _):PT X (.Compare a [c] [b] W) (Km (jC r R P)):=ic d h g f
def fN{c:CmpOp}{r:R2}(d:cS X (compareOp c) r)(h:PE X a R)(g:PE X b P)(f:behindInMarks c b=a7:=by exact RU _):PE X (.Compare a [c] [b] W) (jC r R P):=BG d h g f
end
def qt:HO->bq O
 |.ins _ dx _=>U dx
 |.bU _ u=>qt u
 |_=>aJ
theorem cH.Kw(x:cH P w H h a o)(k:∀b u,(b=a\/qt o=U b)->h.get? b=U u->J.get? b=U u)
  (D:∀b,qt o=U b->H b=U (.own a)->E b=U (.own a))(I:∀b l,H b=U (.tup l)->E b=U (.tup l)):cH P w E J a o:=by
 induction o with
 |ins C T fs=>
  obtain⟨d,z,ne,e,s,⟨m,i,j,L,c⟩,r⟩:=x;exact⟨D _ rfl d,z,ne,k _ _ (.inl rfl) e,s,⟨m,i,j,k _ _ (.inr rfl) L,c⟩,r⟩
 |bU g u G=>exact⟨k _ _ (.inl rfl) x.1,G x.2 k D⟩
 |lst l=>obtain⟨z,B,n,r,e⟩:=x;exact⟨z,B,n,r,k _ _ (.inl rfl) e⟩
 |tup l=>obtain⟨z,B,r,g,e,c⟩:=x;exact⟨z,B,r,g,k _ _ (.inl rfl) e,c⟩
 |dK A=>obtain⟨z,y,F,r,g,i,j,e,c⟩:=x;exact⟨z,y,F,r,g,i,j,k _ _ (.inl rfl) e,c⟩
 |dT A=>
  obtain⟨z,y,l,r,g,i,j,e,c⟩:=x;exact⟨z,y,l,Paired.bL r λp q z=>⟨z.1,I _ _ z.2.1,z.2.2⟩,g,i,j,k _ _ (.inl rfl) e,c⟩
 |set S n=>obtain⟨g,i,j,t,e,c⟩:=x;exact⟨g,i,j,t,k _ _ (.inl rfl) e,c⟩
 |own y=>obtain⟨g,e⟩:=x;exact⟨g,k _ _ (.inl rfl) e⟩
 |xd fs=>obtain⟨s,⟨m,i,j,e,c⟩,r⟩:=x;exact⟨s,⟨m,i,j,k _ _ (.inl rfl) e,c⟩,r⟩
 |jA lo R=>obtain⟨t,u,v,e⟩:=x;exact⟨t,u,v,k _ _ (.inl rfl) e⟩
 |oS Q=>exact k a _ (.inl rfl) x
 |met f y=>exact k a _ (.inl rfl) x
 |ext N=>obtain⟨p,⟨o,e⟩,st⟩:=x;exact⟨st _ _ p λo q=>k _ _ (.inl rfl) q,⟨o,k _ _ (.inl rfl) e⟩,st⟩
theorem cH.dict(x:cH P w H h a o)(e:qt o=U d):H d=U (.own a):=by
 induction o with
 |ins C f fs=>cases e;exact x.1
 |bU c u b=>exact b x.2 e
 |_=>cases e
theorem cH.get(x:cH P w H h a o):∃ob,h.get? a=U ob:=by
 cases o with
 |ins C i fs=>exact⟨_,x.2.2.2.1⟩
 |bU ob u=>exact⟨_,x.1⟩
 |lst xs=>obtain⟨_,_,_,_,e⟩:=x;exact⟨_,e⟩
 |tup xs=>obtain⟨_,_,_,_,e,_⟩:=x;exact⟨_,e⟩
 |dK b=>obtain⟨_,_,_,_,_,_,_,e,_⟩:=x;exact⟨_,e⟩
 |dT b=>obtain⟨_,_,_,_,_,_,_,e,_⟩:=x;exact⟨_,e⟩
 |set S n=>obtain⟨_,_,_,_,e,_⟩:=x;exact⟨_,e⟩
 |own y=>exact x
 |xd fs=>obtain⟨_,⟨_,_,_,e,_⟩,_⟩:=x;exact⟨_,e⟩
 |jA lo g=>obtain⟨_,_,_,e⟩:=x;exact⟨_,e⟩
 |oS d=>exact⟨_,x⟩
 |met f y=>exact⟨_,x⟩
 |ext c=>exact x.2.1
def Own(H:Hp):Prop:=∀x o d,H x=U o->qt o=U d->H d=U (.own x)
structure de(V H:Hp):Prop where
 sub:aj V H
 kJ:Own V
 off:∀x o d,H x=U o->qt o=U d->V x=aJ->V d=aJ
def qu(V H:Hp):Hp:=λa=>(V a).or (match H a with|some (.tup xs)=>U (.tup xs)|_=>aJ)
def cY{V H:Hp}:aj V (qu V H):=λa o e=>by unfold qu;rw[e];rfl
theorem Bs{V H:Hp}(s:aj V H)(e:H a=U (.tup xs)):qu V H a=U (.tup xs):=by
 unfold qu;cases n:V a with
 |none=>rw[e];rfl
 |some o=>exact(s a o n).symm.trans e
theorem Bi{V H:Hp}(e:qu V H a=U o):V a=U o\/(V a=aJ/\H a=U o/\∃b,o=.tup b):=by
 unfold qu at e;cases n:V a with
 |some c=>rw[n] at e;exact .inl e
 |none=>
  rw[n] at e;cases m:H a with
  |none=>rw[m] at e;cases e
  |some u=>cases u<;>rw[m] at e<;>cases e;exact .inr ⟨rfl,rfl,_,rfl⟩
theorem O2{V H:Hp}(e:qu V H a=aJ):V a=aJ:=by
 cases n:V a with
 |none=>rfl
 |some o=>rw[cY a o n] at e;cases e
structure Framed(V V' H H':Hp):Prop where
 own:Own H'
 cB:de V' H'
 tup:∀a xs,H a=U (.tup xs)->H' a=U (.tup xs)
 rest:∀a o,V a=aJ->H a=U o->(V' a=aJ\/∃xs,o=.tup xs)/\H' a=U o
 frm:∀a o,H' a=U o->V' a=U o\/(V a=aJ/\H a=U o)
def CP(c:Sp):Sp:=λb H Q E=>∃V,de V H/\c b (qu V H) (λv d=>∀a,Framed V d H a->Q v a) E
theorem aI.frame{K:ah}(F:aI P w K mg base aP k f fd N sp):aI P w K mg base aP k f fd N (CP sp):=by
 refine⟨λL H Q E ⟨V,_,h⟩=>F.len L _ _ E h,λA outer s H D us L Q E hr l hb hv zq=>?_⟩;obtain⟨V,pt,hs⟩:=zq;have own:Own H:=λx o d e z=>(l.aw x o e).dict z;obtain⟨W,t⟩:∃W,W=qu V H:=⟨_,rfl⟩;have sub:aj W H:=λa o e=>by
  rw[t] at e;rcases Bi e with e|⟨_,e,_⟩;·exact pt.sub a o e
  ·exact e
 have tup:∀a j,H a=U (.tup j)->W a=U (.tup j):=λa j e=>by rw[t];exact Bs pt.sub e
 have off:∀x o d,H x=U o->qt o=U d->W x=aJ->W d=aJ:=λx o d e z n=>by
  cases m:W d with
  |none=>rfl
  |some u=>
   rw[t] at n m;have q:=pt.off x o d e z (O2 n);have r:=own x o d e z;rcases Bi m with m|⟨_,m,j,m2⟩;·rw[q] at m;cases m
   ·rw[r,m2] at m;cases m
 have i:∀{a:O},H a=aJ->W a=aJ:=λh=>sub.free h;rw[←t] at hs;have ok:dz P w W s.heap:=λa o e=>(l.aw a o (sub a o e)).Kw (λ_ _ _ q=>q) (λb z _=>by
  rw[t] at e⊢;rcases Bi e with e|⟨_,_,j,rfl⟩;·exact cY _ _ (pt.kJ a o b e z)
  ·cases z) tup
 refine mr (F.run A outer s W D us L _ E hr ⟨l.frames,l.mod,λb o e=>⟨(l.bs b o e).1,i (l.bs b o e).2⟩,l.mS,l.jV,λb m=>i (l.nR b m),ok,l.bare⟩ hb hv hs) λr X h=>?_;match r,h with
 |.ok (.ret u),⟨v,B,os,ba,un,WI,rv,q⟩=>
  have p:∀{a:O} {o:HO},W a=aJ->H a=U o->B a=aJ:=λ{a o} n e=>let⟨ob,g⟩:=(l.aw a o e).get;un.free a ob g n (λz=>nomatch z);obtain⟨H',J⟩:∃H':Hp,H'=λa=>(B a).or (if(W a).isNone then H a else aJ):=⟨_,rfl⟩;have C:∀{a:O} {o:HO},B a=U o->H' a=U o:=λ{a o} e=>by rw[J];simp only[e,Option.some_or]
  have I:∀{a:O} {o:HO},W a=aJ->H a=U o->H' a=U o:=λ{a o} n e=>by rw[J];simp[p n e,n,e]
  have T:∀{a:O} {o:HO},H' a=U o->B a=U o\/(B a=aJ/\W a=aJ/\H a=U o):=λ{a o} e=>by
   rw[J] at e;simp only at e;cases e1:B a with
   |some o'=>rw[e1] at e;exact .inl e
   |none=>
    rw[e1] at e;cases e2:W a with
    |some _=>rw[e2] at e;simp at e
    |none=>rw[e2] at e;exact .inr ⟨rfl,rfl,by simpa using e⟩
  have G:∀a j,H a=U (.tup j)->H' a=U (.tup j):=λa j e=>C (un.ij a j (tup a j e));have R:∀{a:O} {o:HO},H a=U o->a∉c9 outer:=λ{a o} e z=>by rw[l.nR a z] at e;cases e
  have aw:dz P w H' X.heap:=λa o e=>by
   rcases T e with q|⟨_,n,q⟩;·exact(WI a o q).Kw (λ_ _ _ q=>q) (λb z r=>C r) λb j z=>C z
   ·have k:∀{b:O} {u:Obj} {y:HO},W b=aJ->H b=U y->s.heap.get? b=U u->X.heap.get? b=U u:=λ{b u y} n e g=>un.keep b u g n (R e) (λz=>nomatch z);refine(l.aw a o q).Kw (λb u c g=>?_) (λb z r=>I (off a o b q z n) r) G;rcases c with rfl|c;·exact k n q g
    ·exact k (off a o b q c n) (own a o b q c) g
  have fr:Framed V B H H':=by
   refine⟨λx o d e z=>(aw x o e).dict z,⟨λa o e=>C e,λx o d e z=>(WI x o e).dict z,λx o d e z n=>?_⟩,G,λa o n e=>?_,λa o e=>(T e).imp id λ⟨_,n,q⟩=>⟨O2 (t▸n),q⟩⟩
   ·rcases T e with q|⟨_,n',q⟩;·rw[q] at n;cases n
    ·exact p (off x o d q z n') (own x o d q z)
   ·cases m:W a with
    |none=>exact⟨.inl (p m e),I m e⟩
    |some u=>
     rw[t] at m;rcases Bi m with m|⟨_,m,j,rfl⟩;·rw[n] at m;cases m
     ·rw[e] at m;cases m;exact⟨.inr ⟨j,rfl⟩,G a j e⟩
  refine⟨v,H',os,ba,⟨λb o e n=>un.keep b o e (i n),λb o e n=>un.slot b o e (i n),λb o e n nx=>by rw[J];simp[un.free b o e (i n) nx,n],un.there,G,λb o u e=>?_,λb N e=>?_⟩,aw,rv,q H' fr⟩
  ·cases n:W b with
   |none=>exact I n e
   |some q=>exact C (un.iO b o u (n.trans ((sub b q n).symm.trans e)))
  ·cases n:W b with
   |none=>exact⟨#[],by rw[Array.append_empty];exact I n e⟩
   |some q=>
    obtain⟨m,hm⟩:=un.jb b N (n.trans ((sub b q n).symm.trans e));exact⟨m,C hm⟩
def HasFn.frame{K:ah}(h:HasFn P w K b base k x a sp):HasFn P w K b base k x a (CP sp):=let⟨f,fd,F,r⟩:=h;⟨f,fd,F.frame,r⟩
def bY.frame{K:ah}(h:bY P w K b base k x C a sp):bY P w K b base k x C a (CP sp):=let⟨f,fd,c,m,F,r⟩:=h;⟨f,fd,c,m,F.frame,r⟩
def qj.frame{K:ah}(h:qj P w K b base k x C a sp):qj P w K b base k x C a (CP sp):=let⟨f,fd,c,F,r⟩:=h;⟨f,fd,c,F.frame,r⟩
def Dj(V W:Hp):Prop:=∀a o u,V a=U o->W a=U u->∃b,o=.tup b/\u=.tup b
def Dj.symm{V W:Hp}(d:Dj V W):Dj W V:=λa o u e f=>let⟨xs,c,b⟩:=d a u o f e;⟨xs,b,c⟩
section
variable {V:Hp}
theorem Framed.other(f:Framed V l H H')(p:de V H)(c:de W H)(j:Dj V W):de W H'/\Dj l W:=by
 have sub:aj W H':=λa o e=>by
  cases n:V a with
  |none=>exact(f.rest a o n (c.sub a o e)).2
  |some u=>
   obtain⟨b,_,rfl⟩:=j a u o n e;exact f.tup a b (c.sub _ _ e)
 have k:Dj l W:=λa o u e g=>by
  have q:=c.sub a u g;have i:o=u:=Ym ((f.cB.sub a o e).symm.trans (sub a u g));cases n:V a with
  |none=>
   rcases(f.rest a u n q).1 with z|⟨b,z⟩;·rw[z] at e;cases e
   ·exact⟨b,i.trans z,z⟩
  |some v=>
   obtain⟨b,_,z⟩:=j a v u n g;exact⟨b,i.trans z,z⟩
 refine⟨⟨sub,c.kJ,λx o d e z n=>?_⟩,k⟩;rcases f.frm x o e with q|⟨_,q⟩
 ·cases m:W d with
  |none=>rfl
  |some u=>
   obtain⟨b,h,_⟩:=k d _ u (f.cB.kJ x o d q z) m;cases h
 ·exact c.off x o d q z n
def Framed.keep(f:Framed V h H i)(n:V a=aJ)(e:H a=U o)(c:∀b,o≠.tup b):h a=aJ/\i a=U o:=let⟨g,d⟩:=f.rest a o n e;⟨g.elim id λ⟨b,z⟩=>absurd z (c b),d⟩
def de.upd(p:de V H)(n:V a=aJ)(z:qt o=aJ):de V (L2.upd H a o):=⟨λb u e=>by rw[aA (λy=>by rw[y,n] at e;cases e)];exact p.sub b u e,p.kJ,λx u d e q m=>by
 by_cases c:x=a;·rw[c,aQ] at e;cases e;rw[z] at q;cases q
 ·rw[aA c] at e;exact p.off x u d e q m⟩
def Dj.upd(d:Dj V W)(n:W a=aJ):Dj (L2.upd V a o) W:=λb u v e f=>by
 by_cases c:b=a;·rw[c,n] at f;cases f
 ·rw[aA c] at e;exact d b u v e f
def Own.make(h:Own H)(f:H x=aJ)(i:H d=aJ)(g:x≠d)(j:Z (ar×L2.V)):Own (L2.upd (L2.upd H d (.own x)) x (.ins C d j)):=λy u b e q=>by
 by_cases c:y=x
 ·rw[c,aQ] at e;cases e;cases q;rw[aA (λz=>g z.symm),aQ,c]
 ·rw[aA c] at e;by_cases a:y=d;·rw[a,aQ] at e;cases e;cases q
  ·rw[aA a] at e;have r:=h y u b e q;rw[aA (λz=>by rw[z,f] at r;cases r),aA (λz=>by rw[z,i] at r;cases r)];exact r
def de.made(p:de V H)(h:H x=aJ)(i:H d=aJ)(j:Z (ar×L2.V)):de V (L2.upd (L2.upd H d (.own x)) x (.ins C d j)):=by
 have g:=p.sub.free h;have a:=p.sub.free i;refine⟨λb u e=>?_,p.kJ,λy u b e q m=>?_⟩
 ·rw[aA (λz=>by rw[z,g] at e;cases e),aA (λz=>by rw[z,a] at e;cases e)];exact p.sub b u e
 ·by_cases c:y=x;·rw[c,aQ] at e;cases e;cases q;exact a
  ·rw[aA c] at e;by_cases f:y=d;·rw[f,aQ] at e;cases e;cases q
   ·rw[aA f] at e;exact p.off y u b e q m
def de.make(p:de V H)(f:Own H)(h:H x=aJ)(i:H d=aJ)(j:x≠d)(g:Z (ar×L2.V)):de (L2.upd (L2.upd V d (.own x)) x (.ins C d g)) (L2.upd (L2.upd H d (.own x)) x (.ins C d g)):=by
 refine⟨λb u e=>?_,p.kJ.make (p.sub.free h) (p.sub.free i) j g,λy u b e q m=>?_⟩
 ·by_cases c:b=x;·rw[c,aQ] at e⊢;exact e
  ·rw[aA c] at e⊢;by_cases a:b=d;·rw[a,aQ] at e⊢;exact e
   ·rw[aA a] at e⊢;exact p.sub b u e
 ·by_cases c:y=x;·rw[c,aQ] at m;cases m
  ·rw[aA c] at e m;by_cases a:y=d;·rw[a,aQ] at m;cases m
   ·rw[aA a] at e m;have r:=f y u b e q;rw[aA (λz=>by rw[z,h] at r;cases r),aA (λz=>by rw[z,i] at r;cases r)];exact p.off y u b e q m
def de.nil:de (λ_=>aJ) H:=⟨λ_ _ e=>(nomatch e),λ_ _ _ e=>(nomatch e),λ_ _ _ _ _ _=>rfl⟩
def Dj.nil:Dj (λ_=>aJ) W:=λ_ _ _ e=>(nomatch e)
end
def qJ(V:Nat->Hp)(k:Nat)(W:Hp):Nat->Hp:=λi=>if i=k then W else V i
structure Vw(n:Nat)(V:Nat->Hp)(ks:Z (O×HO))(H:Hp):Prop where
 cB:∀i,i<n->de (V i) H
 dj:∀i k,i<n->k<n->i≠k->Dj (V i) (V k)
 kp:∀p∈ks,H p.1=U p.2/\(∀xs,p.2≠.tup xs)/\∀i,i<n->V i p.1=aJ
 nd:(ks.map (·.1)).Nodup
section
variable {V:Nat->Hp}
def tN:qJ V k W k=W:=bS rfl
def rL(h:i≠k):qJ V k W i=V i:=bR h
def Vw.set(t:∀i,i<n->i≠k->de (V i) H)(u:de W H)(s:∀i j,i<n->j<n->i≠k->j≠k->i≠j->Dj (V i) (V j))(f:∀i,i<n->i≠k->Dj W (V i))(h:∀p∈d,H p.1=U p.2/\(∀g,p.2≠.tup g)/\W p.1=aJ/\∀i,i<n->i≠k->V i p.1=aJ)(l:(d.map (·.1)).Nodup):Vw n (qJ V k W) d H:=by
 refine⟨λi a=>?_,λi j a e ne=>?_,λp m=>?_,l⟩
 ·by_cases c:i=k;·rwa[c,tN]
  ·rw[rL c];exact t i a c
 ·by_cases c:i=k
  ·have b:j≠k:=λz=>ne (c.trans z.symm);rw[c,tN,rL b];exact f j e b
  ·rw[rL c];by_cases b:j=k;·rw[b,tN];exact(f i a c).symm
   ·rw[rL b];exact s i j a e c b ne
 ·obtain⟨r,q,v,o⟩:=h p m;refine⟨r,q,λi a=>?_⟩;by_cases c:i=k;·rwa[c,tN]
  ·rw[rL c];exact o i a c
def Vw.call(v:Vw n V l H)(b:k<n)(f:Framed (V k) W H H'):Vw n (qJ V k W) l H':=by
 have c:∀i,i<n->i≠k->de (V i) H'/\Dj W (V i):=λi a ne=>f.other (v.cB k b) (v.cB i a) (v.dj k i b a (λz=>ne z.symm));refine Vw.set (λi a ne=>(c i a ne).1) f.cB (λ i j a o _ _=>v.dj i j a o) (λi a ne=>(c i a ne).2) (λp m=>?_) v.nd;obtain⟨q,e,d⟩:=v.kp p m;obtain⟨h,g⟩:=f.keep (d k b) q e;exact⟨g,e,h,λi a _=>d i a⟩
def Vw.free(v:Vw n V b H)(e:H p=aJ)(a:i<n):V i p=aJ:=(v.cB i a).sub.free e
def Vw.ne(v:Vw n V a H)(e:H p=aJ):p∉a.map (·.1):=λm=>by
 obtain⟨q,b,rfl⟩:=Ye.mp m;rw[(v.kp q b).1] at e;cases e
def Vw.lay(v:Vw n V f H)(e:H p=aJ)(z:qt o=aJ)(d:∀c,o≠.tup c):Vw n V ((p,o)::f) (upd H p o):=by
 refine⟨λi b=>(v.cB i b).upd (v.free e b) z,v.dj,λq a=>?_,Y0.mpr ⟨v.ne e,v.nd⟩⟩;rcases Ys.mp a with rfl|a;·exact⟨aQ,d,λ i=>v.free e⟩
 ·obtain⟨j,h,g⟩:=v.kp q a;exact⟨by rwa[aA (cA j e)],h,g⟩
def Vw.ZjR(v:Vw n V b H)(e:H p=aJ):Vw n V b (upd H p (.tup xs)):=
 ⟨λi a=>(v.cB i a).upd (v.free e a) rfl,v.dj,λq c=>let⟨f,d⟩:=v.kp q c;⟨by rwa[aA (cA f e)],d⟩,v.nd⟩
def Vw.make(v:Vw n V s H)(h:k<n)(g:Own H)(b:H x=aJ)(e:H d=aJ)(r:x≠d)(f:Z (ar×L2.V)):Vw n (qJ V k (upd (upd (V k) d (.own x)) x (.ins C d f))) s (upd (upd H d (.own x)) x (.ins C d f)):=by
 refine Vw.set (λi a _=>(v.cB i a).made b e f) ((v.cB k h).make g b e r f) (λ i j a u _ _=>v.dj i j a u) (λi a c=>((v.dj k i h a λy=>c y.symm).upd (v.free e a)).upd (v.free b a)) (λq t=>?_) v.nd;obtain⟨p,w,o⟩:=v.kp q t;have m:=cA p b;have l:=cA p e;exact⟨by rwa[aA m,aA l],w,by rw[aA m,aA l];exact o k h,λi a _=>o i a⟩
def Vw.more(v:Vw n V b H)(d:de W H)(l:∀i,i<n->Dj W (V i))(h:∀p∈b,W p.1=aJ):Vw (n+1) (qJ V n W) b H:=
 Vw.set (λi a ne=>v.cB i (eH (fb a) ne)) d (λi j a e o m ne=>v.dj i j (eH (fb a) o) (eH (fb e) m) ne) (λi a ne=>l i (eH (fb a) ne)) (λp c=>let⟨k,g,f⟩:=v.kp p c;⟨k,g,h p c,λi a ne=>f i (eH (fb a) ne)⟩) v.nd
def Vw.nil(v:Vw n V a H):Vw (n+1) (qJ V n λ_=>aJ) a H:=v.more de.nil (λ_ _=>Dj.nil) λ_ _=>rfl
def Vw.tail(v:Vw n V ((a,o)::b) H):Vw n V b H:=⟨v.cB,v.dj,λp c=>v.kp p (Yw _ c),(Y0.mp v.nd).2⟩
def Vw.at(v:Vw n V b H)(h:(a,o)∈b):H a=U o:=(v.kp _ h).1
def Vw.calls(v:Vw n V b H)(c:k<n)(f:Framed (V k) W H H'):∃a:Nat->Hp,a k=W/\(∀i,i≠k->a i=V i)/\Vw n a b H':=⟨_,tN,λ_=>rL,v.call c f⟩
end
def ZjS(k:Nat)(b:Sp):Sp:=λa H Q E=>a.length=k/\(Own H->b a H Q E)
def HasFn.ow{K:ah}(h:HasFn P w K j base k x c sp):HasFn P w K j base k x c (ZjS c.length sp):=let⟨f,fd,F,r⟩:=h;⟨f,fd,⟨λ_ _ _ _ h=>h.1,λA a s H b i g Q E m d n l h=>F.run A a s H b i g Q E m d n l (h.2 λx o _ e z=>(d.aw x o e).dict z)⟩,r⟩
def ZiU(K:ah)(f e:TE):TE:=λc H Q=>f c H λx g=>e c g λy b=>∃a d,x=.ref a/\y=.int (-1)/\ak K b a d/\∀p,b p=aJ->Q (.ref p) (upd b p (.lst d.reverse))
def Zf5{X:Cx}{K:ah}{e n:cu}{m l:TE}{B j:Pos}(F:X.K=K)(E:PE X e m)(N:PE X n l):PE X (.Subscript e (.Slice aJ aJ (U n) B) j) (ZiU K m l):=by
 subst F;intro c s f H Q I h;refine Subscript_ (az (E c s f H _ I h) λv t zz=>?_);obtain⟨x,W,R,z,A⟩:=zz;refine wpAny_Slice (oV (oV (az (N c t f W _ R A) λu i p=>?_)));obtain⟨y,T,P,w,a,xs,L,J,D,q⟩:=p;subst L;subst J;cases z;obtain⟨g,rfl⟩:=w;have d:Inv X c f T {i with heap:=i.heap.push {cls:=.type "slice",data:=.fields #[.none,.none,.int (-1) g]}}:=P.kept λb C q=>Yb _ q;obtain⟨ai,r,k,hz⟩:=d.list D;have o:=r.length;refine tail_any k.isList.typeIs slot_list_getitem.lookup (zT k.isList (JH ..) .none .none (.int (-1) g) (by simp) ?_ (by rw[Yq]<;>omega)) (by with_unfolding_all rfl);rw[Zew];generalize i.heap.push {cls:=.type "slice",data:=.fields #[.none,.none,.int (-1) g]}=G at d k⊢;refine⟨.ref G.objs.size,_,d.laid (λ b C=>Yb _) (Yd _) ?_,rfl,q _ (d.aw.fresh (Yd _))⟩;exact⟨by rwa[Jn],_,0,NM r,Yp _ rfl⟩
end L2
namespace Mj
open PySem L2
variable {w:cN}{K:PySem.W.Frag}{mg:ar->bq aY}{I:cI}{f C CL CJ:O}{fd:FuncData}
def top(i:Nat):cj:=PySem.Challenge.pw_kinhearth_k26_taken_out_as_never_told.main.body.getD i (.Pass ⟨0,0,0,0⟩)
abbrev HP:cj:=top 20
abbrev IM:cj:=top 21
abbrev Il:cj:=top 22
abbrev JX:cj:=top 24
abbrev FY:cj:=top 26
abbrev FZ:cj:=top 77
abbrev E2:cj:=top 78
abbrev HQ:cj:=top 79
abbrev GS:cj:=top 23
abbrev FC:cj:=top 25
abbrev GU:cj:=top 2
abbrev Im:cj:=top 35
abbrev GV:cj:=top 36
abbrev GW:cj:=top 39
abbrev Gj:cj:=top 40
abbrev Gk:cj:=top 41
abbrev HR:cj:=top 48
abbrev Fg:cj:=top 49
abbrev Gm:cj:=top 50
abbrev Gn:cj:=top 51
abbrev Fh:cj:=top 52
abbrev Fi:cj:=top 53
abbrev Fj:cj:=top 54
abbrev E3:cj:=top 55
abbrev Gp:cj:=top 69
abbrev HS:cj:=top 71
abbrev GX:cj:=top 72
abbrev Om:cj:=top 81
abbrev NU:cj:=top 82
abbrev Oo:cj:=top 83
abbrev HU:cj:=top 84
abbrev FD:cj:=top 85
abbrev Gq:cj:=top 86
abbrev Gr:cj:=top 87
abbrev A6:cj:=top 88
abbrev GY:cj:=top 89
abbrev FE:cj:=top 90
abbrev GZ:cj:=top 91
abbrev G0:cj:=top 92
abbrev Io:cj:=top 93
abbrev G1:cj:=top 94
abbrev Gs:cj:=top 95
abbrev G3:cj:=top 96
abbrev G4:cj:=top 97
abbrev G5:cj:=top 98
abbrev HV:cj:=top 99
abbrev G6:cj:=top 100
abbrev G7:cj:=top 101
abbrev Gu:cj:=top 102
abbrev HW:cj:=top 103
abbrev Fm:cj:=top 104
abbrev uc:cj:=top 105
abbrev Gv:cj:=inClass (top 76) 0
abbrev Gw:cj:=inClass (top 76) 1
abbrev F0:cj:=inClass (top 57) 0
abbrev Gx:cj:=inClass (top 57) 1
abbrev Gy:cj:=inClass (top 57) 2
abbrev Gz:cj:=inClass (top 57) 3
abbrev E4:cj:=inClass (top 57) 4
abbrev F1:cj:=inClass (top 57) 5
abbrev EV:cj:=inClass (top 57) 6
abbrev FG:cj:=inClass (top 57) 8
abbrev Fn:cj:=inClass (top 57) 12
abbrev EC:cj:=inClass (top 57) 13
abbrev F2:cj:=inClass (top 57) 14
abbrev FH:cj:=inClass (top 57) 9
abbrev EE:cj:=inClass (top 57) 11
abbrev FI:cj:=inClass (top 68) 0
abbrev E5:cj:=inClass (top 68) 1
abbrev F3:cj:=inClass (top 68) 2
abbrev F4:cj:=inClass (top 68) 3
abbrev FJ:cj:=inClass (top 68) 4
abbrev AY:cj:=inClass (top 68) 5
abbrev E6:cj:=inClass (top 68) 10
abbrev EW:cj:=inClass (top 68) 11
abbrev FK:cj:=inClass (top 68) 12
abbrev F5:cj:=inClass (top 68) 13
abbrev EI:cj:=inClass (top 68) 17
abbrev EG:cj:=inClass (top 68) 18
abbrev Fo:cj:=inClass (top 68) 19
abbrev EX:cj:=inClass (top 68) 20
abbrev Fp:cj:=inClass (top 68) 21
abbrev E7:cj:=inClass (top 68) 22
abbrev EJ:cj:=inClass (top 68) 23
abbrev EO:cj:=inClass (top 68) 24
abbrev ER:cj:=inClass (top 68) 16
abbrev ES:cj:=inClass (top 68) 8
abbrev E8:cj:=inClass (top 4) 0
abbrev FN:cj:=inClass (top 17) 0
abbrev TQ:cj:=Om
abbrev Sr:cj:=NU
abbrev TR:cj:=Oo
abbrev xK:Z ar:=["self","word","why"]
def ZE:aT xK xK (aO E8):=.a9
def Zbm(F:zy K "__init__" "KinError.__init__" E8 f fd)(o:Bl mg):aI P w K mg I aP 1 f fd xK (Tw K):=by
 refine F.ok ZE (λk H Q E h=>?_) (λr A d s H k Q E i h=>?_)
 ·obtain⟨a,C,b,y,rfl,_⟩:=h;rfl
 obtain⟨a,C,b,y,rfl,j,e,l,m,g,q⟩:=h;refine⟨_,(aq (cG (Zd6 rfl o.ZaG (aa (pv 0) (aa (Pp (HM (K:=K) rfl (Ii (pv 2) (λ_=>rfl))) (ZfI (IK (JN i (pv 1)) (IK bA (IK (JN i (pv 2)) Zhc)))) (pv 1)) ag)))) (au (ZfC (pv 0) (pv 1)))),?_⟩;have fin:∀t:ar,JM K [.ref a,.str t] H λ_ H1=>Tp K (gn 0) (gn 1) "word" {nx:=λ_ p=>Q .ay p,rt:=Q} [U (.ref a),U (.str b),U (.str y)] H1:=λt=>
  ⟨a,C,.str t,rfl,e,j,_,rfl,_,rfl,a,C,rfl,e,l,.inl ⟨j,q⟩⟩
 have n:(1000200:Nat)<=sizeLine:=by rw[c4];decide
 refine⟨_,rfl,_,rfl,_,⟨(dI g (by decide)),rfl⟩,?_⟩;refine bF (λc=>?_) (λc=>?_)
 ·refine⟨_,rfl,.inl ⟨b,rfl,(dI m (by decide)),b,rfl,?_,?_⟩⟩
  ·rw[mu];show 0+b.length<=sizeLine;omega
  refine⟨_,rfl,?_,?_⟩
  ·rw[mu,mu];show 0+b.length+2<=sizeLine;omega
  refine⟨_,rfl,.inl ⟨y,rfl,(dI g (by decide)),y,rfl,?_,?_,fin _⟩⟩
  ·rw[mu,mu,mu];show 0+b.length+2+y.length<=sizeLine;omega
  ·rw[mu,mu,mu];show 0+b.length+2+y.length<=sizeLine;omega
 ·exact⟨_,rfl,fin _⟩
def Z5:aT xH xH (aO FN):=.a9
def Zdo(F:zy K "__init__" "NoFact.__init__" FN f fd)(r:Kq K o "__init__" n)(d:aI P w K mg I aP 1 n p xK (Tw K))(t:Binds K p xK [])(i:mg "KinError"=U (.ref o))(e:d5 K c)(j:dG K c "word"):
  aI P w K mg I aP 2 f fd xH (Tx "no fact" c):=by
 refine F.ok Z5 (λg H Q E h=>?_) (λu A b s H g Q E l h=>?_)
 ·obtain⟨a,y,rfl,_⟩:=h;rfl
 obtain⟨a,y,rfl,m,k,q⟩:=h;refine⟨_,(au (cG (Zd4 r d (l.mono (by decide)) rfl i t .nil ze (aa (pv 0) (aa bA (aa (pv 1) ag)))))),?_⟩;exact⟨_,rfl,_,rfl,a,c,_,y,rfl,m,e,j,QD,k,q⟩
abbrev Ag:Z ar:=["_law_script","_law_k"]
def ZhX:aT Ag Ag (aO TQ):=⟨rfl,rfl,rfl,QK,rfl,QK,QK⟩
def Zf6(F:aR K "_law_cell" "_law_cell" TQ f fd)(j:mg "len"=aJ):aI P w K mg I aP 1 f fd Ag (JJ K):=by
 refine F.ok ZhX (λg H Q E h=>?_) (λn A b s H g Q E m h=>?_)
 ·obtain⟨a,i,k,rfl,_⟩:=h;rfl
 obtain⟨a,i,k,rfl,d,l,q⟩:=h;refine⟨_,aq (aW (bJ oO (pv 1) (iY NK rfl j B_ (aa (pv 0) ag))) (au (aL (Tg II (pv 0) (pv 1) (λ_ _=>rfl)))) a_)
  (au (aL aM)),?_⟩
 refine⟨_,rfl,_,rfl,a,_,rfl,.inl d,_,_,rfl,rfl,_,rfl,?_⟩;refine bF (λc=>?_) (λc=>?_)
 ·have e:=eK c;rw[(Ya _)] at e;exact⟨_,rfl,_,rfl,a,_,_,_,rfl,rfl,d,oI l e,q _⟩
 ·exact q _
abbrev Ah:Z ar:=["_law_cell_here","_law_parts"]
def pX:aT ["_law_cell_here","_law_parts","_law_one","_law_two","_law_six","_law_found","_law_part"] Ah (aO Sr):=⟨rfl,rfl,rfl,QK,rfl,QK,QK⟩
def ZeC(F:aR K "_law_draws" "_law_draws" Sr f fd)(W:mg "abs"=aJ):aI P w K mg I aP 1 f fd Ah (BN K):=by
 refine F.ok pX (λvs H Q E h=>?_) (λbO A B s H vs Q E hr h=>?_)
 ·obtain⟨c,a,v,rfl,_⟩:=h;rfl
 obtain⟨c,a,v,rfl,hS,G,X,q⟩:=h;refine⟨_,aq (aW (bJ oO (iY Pq rfl W R7 (aa (pv 0) ag)) (bj JC aM aM))
   (aq (ig (i:=2) pX.nd rfl (gR rfl) (bj eP (bj iI (bj pZ (pv 0) aM) aM) aM))
   (aq (ig (i:=3) pX.nd rfl (gR rfl) (bj eP (bj iI (bj iI (bj pZ (pv 2) (pv 2)) (bj pZ aM (pv 2))) (pv 0)) aM))
   (aq (ig (i:=4) pX.nd rfl (gR rfl) (bj eP (bj iI (bj pZ (pv 3) aM) (pv 2)) aM))
   (au (ig (i:=0) pX.nd rfl (gR rfl) (bj iI (pv 3) (bj pZ aM (bj iI (pv 4) (bj pZ aM (pv 2))))))))))
   (au (ig (i:=0) pX.nd rfl (gR rfl) (bj B7 (iY Pq rfl W R7 (aa (pv 0) ag)) (bj JC aM aM)))))
  (aq (ig (i:=5) pX.nd rfl (gR rfl) (yW ag))
  (aq (gm hI rfl (QA (pv 1)) (rB (i:=6) pX.nd rfl (gR rfl))
   (aq (cG (mJ kj l4 lU yE (pv 5) (aa (bj eP (pv 0) (pv 6)) ag)))
   (au (ig (i:=0) pX.nd rfl (gR rfl) (bj BD (pv 0) (pv 6))))))
  (au (aL (pv 5))))),?_⟩
 refine ie (λm H'=>H'=H/\∃N j g d,m=[U (.int N),U (.ref a),j,g,d,aJ,aJ]) (λnx k=>?_) ?_
 ·refine⟨_,rfl,c,rfl,_,_,rfl,rfl,⟨QD,QD,QD⟩,_,_,rfl,rfl,_,rfl,?_⟩;refine bF (λ_=>?_) (λ_=>?_)
  ·refine⟨_,rfl,_,_,rfl,rfl,.inr ⟨QD,QD⟩,_,_,rfl,rfl,_,_,rfl,rfl,(by show(0:Int)<2147483647;decide),?_⟩;refine⟨_,rfl,_,rfl,_,_,rfl,rfl,.inl (Zg5 _ QD QD),_,rfl,_,_,rfl,rfl,.inl ⟨QD,QD⟩,_,_,rfl,rfl,_,rfl,_,_,rfl,rfl,_,_,rfl,rfl,(by show(0:Int)<2147483399;decide),?_⟩;refine⟨_,rfl,_,_,rfl,rfl,.inr ⟨QD,QD⟩,_,rfl,_,_,rfl,rfl,_,_,rfl,rfl,(by show(0:Int)<1000000007;decide),?_⟩;refine⟨_,rfl,_,rfl,_,rfl,_,_,rfl,rfl,.inl ⟨QD,QD⟩,_,_,rfl,rfl,_,_,rfl,rfl,.inl ⟨QD,QD⟩,_,_,rfl,rfl,k _ _ ⟨rfl,_,_,_,_,rfl⟩⟩
  ·exact⟨_,rfl,c,rfl,_,_,rfl,rfl,⟨QD,QD,QD⟩,_,_,rfl,rfl,k _ _ ⟨rfl,_,_,_,_,rfl⟩⟩
 ·rintro m R ⟨rfl,N,j,g,d,rfl⟩;refine⟨(by show 0<=sizeLine;decide),λl L=>?_⟩;have T:aj R (upd R l (.lst [])):=cK L _;refine⟨_,rfl,a,rfl,⟨_,T.seq hS⟩,kz (K:=K) (a:=a) (xs:=v.map V.int) (λi m r=>∃c j g d D n,m=[U (.int c),U (.ref a),j,g,d,U (.ref l),D]/\aj R r/\r l=U (.lst (n.map V.int))/\Paired Bd n (v.take i))
   ⟨N,j,g,d,aJ,[],rfl,T,aQ,by rw[vj];exact .nil⟩ (λi m r _ zz=>by obtain⟨_,_,_,_,_,_,_,t,_⟩:=zz;exact t.seq hS) ?_ ?_⟩
  ·rintro i y m r hi ⟨c,j,g,d,D,n,rfl,t,z,u⟩;obtain⟨p,rfl,J⟩:=oC hi;have eM:i<v.length:=(Yl.mp J).1;obtain⟨x,p1⟩:=G p (Yh J);have dl:=u.length;rw[Y8] at dl;refine⟨_,rfl,.inl ⟨rfl,_,ak.of z⟩,_,rfl,_,rfl,_,_,rfl,rfl,x,l,_,_,rfl,rfl,z,(by rw[Ya];exact kR QO),?_⟩;refine⟨_,rfl,_,rfl,_,_,rfl,rfl,⟨x,p1⟩,?_⟩;refine⟨_,j,g,d,_,n++[c % p],rfl,λb o e=>?_,?_,?_⟩
   ·rw[aA (cA e L)];exact t b o e
   ·rw[aQ,Px]
   ·rw[Y1,J];exact u.snoc ⟨W9 _ (LU x),Wt _ x⟩
  ·rintro m r ⟨c,j,g,d,D,n,rfl,t,z,u⟩;rw[Ya,Y9] at u;exact⟨_,rfl,q l n r L t z u⟩
abbrev Ml:Z ar:=["_law_code","_law_size"]
def y9:aT ["_law_code","_law_size","_law_free","_law_found","_law_k"] Ml (aO TR):=⟨rfl,rfl,rfl,QK,rfl,QK,QK⟩
def Zf7(F:aR K "_law_turn" "_law_turn" TR f fd)(mL:mg "list"=aJ)(G:mg "range"=aJ)(mT:mg "tuple"=aJ):aI P w K mg I aP 1 f fd Ml R_:=by
 refine F.ok y9 (λX H Q E h=>?_) (λbO A x s H X Q E hr h=>?_)
 ·obtain⟨c,n,rfl,_⟩:=h;rfl
 obtain⟨c,n,rfl,hn,q⟩:=h;refine⟨_,aq (ig (i:=2) y9.nd rfl (gR rfl) (fU (Fz rfl) rfl mL wz (aa (fU A0 rfl G wj (aa (pv 1) ag)) ag)))
  (aq (ig (i:=3) y9.nd rfl (gR rfl) (yW ag))
  (aq (gm hI rfl (pO rfl G (aa (pv 1) ag)) (rB (i:=4) y9.nd rfl (gR rfl))
   (aq (cG (mJ kj l4 lU yE (pv 3) (aa (mJ kj PySem.F.slot_list_pop PySem.F.type_list_pop ZdT (pv 2) (aa (bj eP (pv 0) (bj B7 (pv 1) (pv 4))) ag)) ag)))
   (au (ig (i:=0) y9.nd rfl (gR rfl) (bj BD (pv 0) (bj B7 (pv 1) (pv 4)))))))
  (au (aL (fU vF rfl mT oA (aa (pv 3) ag)))))),?_⟩
 refine⟨_,rfl,_,rfl,λr W=>?_⟩;refine⟨r,n,rfl,aQ,(dI hn (by decide)),λu J=>?_⟩;refine⟨(by show 0<=sizeLine;decide),λl z=>?_⟩;have T:aj H (upd H r (.jA 0 (n:Int))):=cK W _;have R:=T.trans (cK J (.lst ((bH n).map V.int)));have g3:=R.trans (cK z (.lst []));have D:=cA aQ z;refine⟨_,rfl,(n:Int),rfl,QO,QO,Bf (λi m g=>∃c y a fs,m=[U (.int c),U (.int (n:Int)),U (.ref u),U (.ref l),y]/\aj H g/\g u=U (.lst (fs.map V.int))/\g l=U (.lst (a.map V.int))/\(a++fs).Perm (bH n)/\a.length=i)
  ⟨c,aJ,[],bH n,rfl,g3,by rw[aA D];exact aQ,aQ,by rw[WL],rfl⟩ ?_ ?_⟩
 ·rintro i m g hi ⟨c,y,a,fs,rfl,j,B,p,d,dl⟩;have v:=d.length_eq;rw[Yj,fS,dl] at v;have k:(0:Int)<(n:Int)-(0+(i:Int)):=QO
  have m0:=W9 c (LU k);have m1:=Wt c k;have N:(c % ((n:Int)-(0+(i:Int)))).toNat<fs.length:=QO
  refine⟨_,rfl,.inl ⟨rfl,_,ak.of p⟩,_,rfl,.inl ⟨rfl,_,ak.of B⟩,_,rfl,_,rfl,_,rfl,_,_,rfl,rfl,_,_,rfl,rfl,k,u,_,_,_,.int fs[(c % ((n:Int)-(0+(i:Int)))).toNat],rfl,rfl,B,QO,QO,((IG (JI m0 (by rw[Ya];omega))).1),by rw[Yf,Yc N];rfl,?_⟩;refine⟨l,_,_,rfl,rfl,by rwa[aA D.symm],(by rw[Ya];exact kR QO),?_⟩;refine⟨_,rfl,_,rfl,_,rfl,_,_,rfl,rfl,_,_,rfl,rfl,⟨k,QO⟩,?_⟩;refine⟨_,_,a++[fs[(c % ((n:Int)-(0+(i:Int)))).toNat]],fs.eraseIdx (c % ((n:Int)-(0+(i:Int)))).toNat,rfl,λb o e=>?_,?_,?_,?_,?_⟩
  ·have nl:=cA (R b o e) z;have nu:=cA (T b o e) J;rw[aA nl,aA nu];exact j b o e
  ·rw[aA D,aQ,ON]
  ·rw[aQ,Px]
  ·refine List.Perm.trans ?_ d;rw[Jw];refine List.Perm.append_left a ?_;exact(N_ fs _ N).symm
  ·rw[Yj,List.length_singleton,dl]
 ·rintro m g ⟨c,y,a,fs,rfl,j,B,p,d,dl⟩;have v:=d.length_eq;rw[Yj,fS,dl] at v;have e:fs=[]:=List.eq_nil_of_length_eq_zero QO;rw[e,Wf] at d;refine⟨_,rfl,l,_,rfl,.inl ⟨ak.of p,λt L=>?_⟩⟩;exact q t a _ (j.free L) (j.trans (cK L _)) aQ d
def Zf8(h:Paired Bd ds [a,b,c,d,e]):∃v w x y z,ds=[v,w,x,y,z]/\Bd v a/\Bd w b/\Bd x c/\Bd y d/\Bd z e:=by
 cases h with|cons l h=>cases h with|cons k h=>cases h with|cons j h=>cases h with|cons i h=>cases h with|cons g h=>
  cases h
  grind
def bu(h:q (σ.set i (U x)) H):qc i x σ H q:=h
def Ss{K:ah}{H:Hp}{p:O}{b:Z V}{i:Nat}{x:V}{Q:VK}(a:ak K H p b\/aB K H p b)(h:b[i]?=U x)(q:Q x H):LJ K (.ref p) (.int (0+(i:Int))) H Q:=by
 rcases a with a|a;·exact .inl ⟨p,_,_,_,rfl,rfl,a,PD h,q⟩
 ·exact .inr (.inl ⟨p,_,_,_,rfl,rfl,a,PD h,q⟩)
def Bu(v:V):decide (v=v)=af:=dg rfl
theorem all_true(n:Nat):(List.replicate n af).all id=af:=by
 induction n with
 |zero=>rfl
 |succ n a=>rw[List.replicate_succ,Jm,a];rfl
inductive P0(m:Nat)(a:Z V)(H:Hp)(Q:VK):Prop
 |mk (x y:V) (d:Dt) (k:Nat) (i:a=[x,y]) (h:m=k+1) (e:At H k x d) (g:At H k y d) (c:∀b,aj H b->Q (.bl af) b):P0 m a H Q
def rM(m:Nat):Sp:=λa H Q _=>P0 m a H Q
section
variable {K:ah}{X:aU}
abbrev oa:Z ar:=["_law_found","_law_due"]
def Zbn:aT oa oa (aO A6):=.a9
theorem ZeD(F:aR K "_law_same" "_law_same" A6 f fd)(jN:HasFn P w K X I n "_law_same" oa (rM n))(j:Bl X):aI P w K X I aP (n+1) f fd oa (rM (n+1)):=by
 refine F.o Zbn λs H hr h=>?_;obtain⟨x,y,d,k,rfl,ek,l,u,q⟩:=h;obtain rfl:k=n:=(k8 (Nat.add_right_cancel ek))
 have hu:=hr.t4;refine⟨_,(aq (aW (bJ B8 (pv 1) mF) (au (aL (fN B8 (pv 0) mF))) a_) (aq (aW (eX (m7 K j (pv 1) (mK rfl j.Cb BM))) (au (aL (rG (m7 K j (pv 0) (mK rfl j.Cb BM)) (oG (fN cL (pv 0) (pv 1)))))) a_) (aq (aW (eX (m7 K j (pv 1) (mK rfl j.Tv R9))) (au (aL (rG (m7 K j (pv 0) (mK rfl j.Tv R9)) (rG (ZgP (m7 K j (pv 0) (mK rfl j.Cb BM))) (oG (fN cL (pv 0) (pv 1))))))) a_) (aq (aW (eX (m7 K j (pv 1) (mK rfl j.zf yZ))) (au (aL (rG (m7 K j (pv 0) (mK rfl j.zf yZ)) (oG (fN cL (pv 0) (pv 1)))))) a_) (aq (aW (PW.pt (pw_or (bJ mI (m7 K j (pv 1) (mK rfl j.wL wz)) (m7 K j (pv 0) (mK rfl j.wL wz))) (pw_or1 (bJ mI (m7 K j (pv 1) (mK rfl j.oE oA)) (m7 K j (pv 0) (mK rfl j.oE oA)))))) (au (aL i8)) a_) (aq (aW (bJ mI (dJ K j (pv 0)) (dJ K j (pv 1))) (au (aL i8)) a_) (au (aL (iY (UD (K:=K) rfl rfl) rfl j.Tu R8 (aa (iZ (x:="_law_k") (fr:=[("_law_found",0),("_law_due",1)]) (cl:=[("_law_found",s.heap.objs.size+1),("_law_due",s.heap.objs.size+1+1)]) rfl (.f_ ⟨rfl,⟨rfl,trivial⟩⟩ ⟨⟨rfl,.inl rfl,.inl rfl,rfl⟩,⟨⟨rfl,.inl rfl,.inl rfl,rfl⟩,trivial⟩⟩) (pO rfl j.kB (aa (dJ K j (pv 1)) ag)) (λ_ _ _ _=>kA) (λ_ _ _ _=>(Ko jN hr (nJ _) rfl (aa (bh (QQ (K:=K) rfl) (pv 1) (pv 0)) (aa (bh (QQ (K:=K) rfl) (pv 2) (pv 0)) ag))))) ag)))))))))),?_⟩;have W:(∃(p r:O) (A v:Z V) (E:Z Dt) (t:aY) (b1 b2:cm) (m:Nat),x=.ref p/\y=.ref r/\jW K H (.ref p) t/\jW K H (.ref r) t/\kitOne K t (.type "bool")=U a7/\kitOne K t (.type "int")=U a7/\kitOne K t (.type "str")=U a7/\
   kitOne K t (.type "list")=U b1/\kitOne K t (.type "tuple")=U b2/\(ak K H p A\/aB K H p A)/\(ak K H r v\/aB K H r v)/\E.length<=1000/\Paired (At H m) A E/\Paired (At H m) v E/\k=m+1)\/
   (x=.ay/\y=.ay)\/(∃b,x=.bl b/\y=.bl b)\/(∃i,x=.int i/\y=.int i)\/∃z,x=.str z/\y=.str z:=by
  cases d with
  |ay=>unfold At at l u;exact .inr (.inl ⟨l,u⟩)
  |bl b=>unfold At at l u;exact .inr (.inr (.inl ⟨b,l,u⟩))
  |int i=>unfold At at l u;exact .inr (.inr (.inr (.inl ⟨i,l,u⟩)))
  |str z=>unfold At at l u;exact .inr (.inr (.inr (.inr ⟨z,l,u⟩)))
  |lst E=>
   cases k with
   |zero=>unfold At at l;exact l.elim
   |succ m=>
    unfold At at l u;obtain⟨a,A,e0,G,lz,N⟩:=l;obtain⟨b,v,Mo,B,_,L⟩:=u;exact .inl ⟨a,b,A,v,E,.type "list",af,a7,m,e0,Mo,.lst G,.lst B,Zhg,Zhh,Zhi,Zhj,Zhk,.inl (ak.of G),.inl (ak.of B),lz,N,L,rfl⟩
  |tup E=>
   cases k with
   |zero=>unfold At at l;exact l.elim
   |succ m=>
    unfold At at l u;obtain⟨a,A,e0,G,lz,N⟩:=l;obtain⟨b,v,Mo,B,_,L⟩:=u;exact .inl ⟨a,b,A,v,E,.type "tuple",a7,af,m,e0,Mo,.tup G,.tup B,Zhl,Zhm,Zhn,Zho,Zhp,.inr (aB.of G),.inr (aB.of B),lz,N,L,rfl⟩
 clear l u;rcases W with⟨p,r,A,v,E,t,b1,b2,m,rfl,rfl,T1,R,kb,ki,ksr,kl,kt,hp,hq,hz,N,L,ek⟩|⟨rfl,rfl⟩|⟨b,rfl,rfl⟩|⟨i,rfl,rfl⟩|⟨z,rfl,rfl⟩
 ·have l1:=c7 N;have l2:=c7 L;refine⟨_,rfl,rfl,_,rfl,?_⟩;refine bF (λc=>absurd (eK c) (λz=>nomatch z)) (λ_=>aX ?_);refine⟨_,rfl,_,_,_,a7,rfl,R,kb,_,rfl,bT (aX ?_)⟩;refine⟨_,rfl,_,_,_,a7,rfl,R,ki,_,rfl,bT (aX ?_)⟩;refine⟨_,rfl,_,_,_,a7,rfl,R,ksr,_,rfl,bT (aX ?_)⟩;refine⟨_,rfl,_,_,_,b1,rfl,R,kl,_,rfl,_,_,_,b1,rfl,T1,kl,rfl,_,rfl,wR rfl ?_⟩;refine⟨_,rfl,_,_,_,b2,rfl,R,kt,_,rfl,_,_,_,b2,rfl,T1,kt,rfl,_,rfl,wR rfl (aX ?_)⟩;refine⟨_,rfl,p,_,rfl,hp,_,rfl,r,_,rfl,hq,rfl,_,rfl,wR (by rw[l1,l2]) (aX ?_)⟩;refine⟨_,rfl,r,_,rfl,hq,_,rfl,QO,QO,λD hD=>yA (lo:=0) (n:=((v.length:Nat):Int).toNat)
   (λi T J=>aj H J/\J D=U (.lst T)/\T=(List.replicate i af).map V.bl) ⟨cK hD _,aQ,rfl⟩ ?_ ?_⟩
  ·rintro i T J hi ⟨g,h1,rfl⟩;rw[Y6] at hi;have W:∀{a:O} {Q:Z V},(ak K H a Q\/aB K H a Q)->(ak K J a Q\/aB K J a Q):=λ{a Q} z=>by
    rcases z with z|z;·exact .inl (g.seq z)
    ·exact .inr (g.kh z)
   have gx:A[i]?=U A[i]:=Yc QO;have gy:v[i]?=U v[i]:=Yc hi;obtain⟨d1,G,a1⟩:=fK N gx;obtain⟨d2,B,a2⟩:=fK L gy;rw[G] at B;cases B;refine kG (dq ?_);refine⟨_,rfl,_,rfl,Ss (W hp) gx ?_⟩;refine⟨_,rfl,_,rfl,Ss (W hq) gy ?_⟩;refine⟨_,_,d1,m,rfl,ek,a1.same g,a2.same g,λH2 g2=>?_⟩;refine⟨g2 _ _ h1,by rw[Ya,W8];exact kR QO,λb o e=>?_,aQ,?_⟩
   ·rw[aA (cA e hD)];exact g2 b o (g b o e)
   ·rw[Dm,Yo];rfl
  ·rintro T J ⟨g,h1,e⟩;refine⟨D,_,rfl,ak.of (by rw[h1,e]),?_⟩;rw[all_true];exact q J g
 ·refine⟨_,rfl,rfl,_,rfl,?_⟩;refine bF (λc=>?_) (λc=>absurd (Bu _) c);exact⟨_,rfl,rfl,q H (aj.refl H)⟩
 ·refine⟨_,rfl,rfl,_,rfl,?_⟩;refine bF (λc=>absurd (eK c) (λz=>nomatch z)) (λ_=>aX ?_);refine⟨_,rfl,_,_,_,af,rfl,.bl b,Si,_,rfl,dq ?_⟩;refine⟨_,rfl,_,_,_,af,rfl,.bl b,Si,_,rfl,dq ?_⟩;refine⟨_,rfl,_,rfl,rfl,?_⟩;rw[Bu];exact q H (aj.refl H)
 ·refine⟨_,rfl,rfl,_,rfl,?_⟩;refine bF (λc=>absurd (eK c) (λz=>nomatch z)) (λ_=>aX ?_);refine⟨_,rfl,_,_,_,a7,rfl,.int i,JO,_,rfl,bT (aX ?_)⟩;refine⟨_,rfl,_,_,_,af,rfl,.int i,Sh,_,rfl,dq ?_⟩;refine⟨_,rfl,_,_,_,af,rfl,.int i,Sh,_,rfl,dq ?_⟩;refine⟨_,rfl,_,_,_,a7,rfl,.int i,JO,_,rfl,_,rfl,dq ?_⟩;refine⟨_,rfl,_,rfl,rfl,?_⟩;rw[Bu];exact q H (aj.refl H)
 ·refine⟨_,rfl,rfl,_,rfl,?_⟩;refine bF (λc=>absurd (eK c) (λz=>nomatch z)) (λ_=>aX ?_);refine⟨_,rfl,_,_,_,a7,rfl,.str z,Zhe,_,rfl,bT (aX ?_)⟩;refine⟨_,rfl,_,_,_,a7,rfl,.str z,Zhf,_,rfl,bT (aX ?_)⟩;refine⟨_,rfl,_,_,_,af,rfl,.str z,Sj,_,rfl,dq ?_⟩;refine⟨_,rfl,_,_,_,af,rfl,.str z,Sj,_,rfl,dq ?_⟩;refine⟨_,rfl,_,rfl,rfl,?_⟩;rw[Bu];exact q H (aj.refl H)
def same_none:aI P w K X I aP 0 f fd oa (rM 0):=by
 have no:∀a H Q E,¬rM 0 a H Q E:=λa H Q E h=>by
  obtain⟨_,_,_,_,_,z,_⟩:=h;omega
 exact⟨λa H Q E h=>absurd h (no a H Q E),λA b s H c d a Q E _ _ _ _ h=>absurd h (no a H Q E)⟩
theorem Q4(F:aR K "_law_same" "_law_same" A6 f fd)(c:Binds K fd oa [])(a:keepIn K (.ref f)=af)(m:X "_law_same"=U (.ref f))(b:Bl X):
  ∀n:Nat,aI P w K X I aP n f fd oa (rM n)
 |0=>same_none
 |n+1=>ZeD F ⟨f,fd,Q4 F c a m b n,c,a,m⟩ b
end
inductive Su(K:ah)(b:Z V)(H:Hp)(Q:VK):Prop
 |mk (p:O) (a:Z Int) (h:b=[.ref p]) (g:Row K H p a) (d:a.length<64) (e:∀c,aj H c->Q (.bl (full a)) c):Su K b H Q
def K8(K:ah):Sp:=λa H Q _=>Su K a H Q
def bQ(a b:Z Int):Z Int:=b.map λx=>a.getD x.toNat 0
def rE(h:full a=af)(c:x∈a):0<=x/\x<a.length:=by
 have b:=(rf h).subset c;unfold bH at b;obtain⟨i,d,rfl⟩:=Ye.mp b;have:=Wj.mp d;omega
abbrev ko:Z ar:=["row"]
def Zcg:aT ko ko (aO HP):=.a9
def Zch(F:aR K "is_turn" "is_turn" HP f fd)(n:Bl mg):aI P w K mg I aP 1 f fd ko (K8 K):=by
 refine F.o Zcg @λbO A B vs Q E s H hr h=>?_;obtain⟨p,r,rfl,L,W,q⟩:=h;have hu:=hr.t4;refine⟨_,(aq (aW (eX (iY (ZjC (K:=K) rfl rfl) rfl n.ZiE Zg6 (aa (iZ (x:="number") (fr:=[]) (cl:=[]) rfl (.f_ trivial trivial) (Zg3 (pv 0)) (λ_ _ _ _=>kA) (λ_ _ _ _=>(m7 K n (pv 0) (mK rfl n.Cb BM)))) ag))) (au (aL i8)) a_) (au (aL (fN (R6 hu) (iY (sortedK (K:=K) rfl) rfl n.Br Bg (aa (pv 0) ag)) (fU (Fz rfl) rfl n.wL wz (aa (fU A0 rfl n.kB wj (aa (dJ K n (pv 0)) ag)) ag)))))),?_⟩;have J:(r.map V.int).length=r.length:=Ya _;have k:∀(D:O) (a:Hp),aj H a->a D=U (.lst ((List.replicate r.length a7).map V.bl))->
   ∃(R:O) (bs:Z cm),[V.ref D]=[V.ref R]/\ak K a R (bs.map V.bl)/\tB (tC (V.bl (bs.any id))) [] a (λc T=>if c=af then Q (.bl a7) T else
    (Tz K a7 (gn 0)) [U (.ref p)] T Q):=λD a N m=>by
  refine⟨D,_,rfl,ak.of m,_,rfl,?_⟩;rw[any_false];refine bT ?_;exact Zea rfl (Row.same N L) W λH' g=>q H' (N.trans g)
 have j:∀(D:O),H D=aJ->∀(i:Nat) (v:V) (d:Z V) (a:Hp),(r.map V.int)[i]?=U v->(aj H a/\a D=U (.lst d)/\d=(List.replicate i a7).map V.bl)->
   nW (CM K) (iJ (gn 0) (iJ (tC (V.ty "bool")) jX)) [U v] a λy G=>G D=U (.lst d)/\d.length<sizeLine/\
    (aj H (upd G D (.lst (d++[y])))/\upd G D (.lst (d++[y])) D=U (.lst (d++[y]))/\d++[y]=(List.replicate (i+1) a7).map V.bl):=λD l i v d a t ⟨g,m,e⟩=>by
  obtain⟨z,rfl,X⟩:=oC t;have eM:i<r.length:=(Yl.mp X).1;refine⟨_,rfl,_,_,_,a7,rfl,.int z,JO,m,?_,λb o q=>?_,aQ,?_⟩
  ·rw[e,Ya,W8];exact kR QO
  ·rw[aA (cA q l)];exact g b o q
  ·rw[e,Dm,Yo];rfl
 refine⟨_,rfl,p,rfl,?_⟩;rcases L with u|u
 ·refine .inl ⟨⟨_,u⟩,λD l=>Hy (λi d a=>aj H a/\a D=U (.lst d)/\d=(List.replicate i a7).map V.bl) ⟨cK l _,aQ,rfl⟩ (λi d a _ ⟨g,_,_⟩=>g.seq u) (λi v d a t h=>kG (dq (j D l i v d a t h))) ?_⟩;rintro d a ⟨g,m,e⟩;exact k D a g (by rw[m,e,J])
 ·refine .inr ⟨⟨_,u⟩,λD l=>Bq (λi d a=>aj H a/\a D=U (.lst d)/\d=(List.replicate i a7).map V.bl) ⟨cK l _,aQ,rfl⟩ (λi d a _ ⟨g,_,_⟩=>g.kh u) (λi v d a t h=>kG (dq (j D l i v d a t h))) ?_⟩;rintro d a ⟨g,m,e⟩;exact k D a g (by rw[m,e,J])
inductive Q5(K:ah)(g:Z V)(H:Hp)(Q:VK):Prop
 |mk (a b:O) (c d:Z Int) (m:g=[.ref a,.ref b]) (l:aB K H a (c.map V.int)) (j:aB K H b (d.map V.int)) (k:(∀x∈c,0<=x/\x<d.length)) (i:c.length<64) (h:∀(t:O) (e:Hp),H t=aJ->aj H e->e t=U (.tup ((bQ d c).map V.int))->Q (.ref t) e):Q5 K g H Q
def Kx(K:ah):Sp:=λa H Q _=>Q5 K a H Q
abbrev o_:Z ar:=["first","then"]
def Zbo:aT o_ o_ (aO GS):=.a9
def Zbp(F:aR K "followed" "followed" GS f fd)(L:Bl mg):aI P w K mg I aP 1 f fd o_ (Kx K):=by
 refine F.o Zbo λs H N h=>?_;obtain⟨a,b,k,m,rfl,y,J,E,Q,q⟩:=h;have B:(bQ m k).length=k.length:=by unfold bQ;rw[Ya]
 refine⟨_,(au (aL (fU (vF) rfl L.oE oA (aa (iZ (x:="section") (fr:=[("then",1)]) (cl:=[("then",s.heap.objs.size+1)]) rfl (.f_ ⟨rfl,trivial⟩ ⟨⟨rfl,.inl rfl,.inl rfl,rfl⟩,trivial⟩) (JB (pv 0)) (λ_ _ _ _=>kA) (λ_ _ _ _=>(bh (iT K) (pv 1) (pv 0)))) ag)))),?_⟩;refine⟨_,rfl,a,rfl,⟨_,y⟩,λD u=>Bq (λi e g=>aj H g/\g D=U (.lst e)/\e=((bQ m k).take i).map V.int) ⟨cK u _,aQ,rfl⟩ (λi e g _ ⟨c,_,_⟩=>c.kh y) ?_ ?_⟩
 ·rintro i v e g G ⟨c,l,j⟩;obtain⟨z,rfl,p⟩:=oC G;have A:=E z (Yh p);refine kG (dq ⟨_,rfl,_,rfl,b,_,_,_,rfl,rfl,c.kh J,oI A.1 A.2,l,?_,λd o n=>?_,aQ,?_⟩)
  ·rw[j,Ya,Y8,B];exact kR QO
  ·rw[aA (cA n u)];exact c d o n
  ·rw[j,Y1,Hz];unfold bQ;rw[Yf,p];rfl
 ·rintro e g ⟨c,l,j⟩;refine⟨D,_,rfl,.inl ⟨ak.of l,λt r=>q t _ (c.free r) (c.trans (cK r _)) ?_⟩⟩;rw[aQ,j,Ya,W1 (by rw[B];exact nJ _)]
def lC(x:Int):Z Int->Nat
 |[]=>0
 |y::r=>if y=x then 0 else lC x r+1
theorem Bv{x:Int}:∀{l:Z Int},x∈l->l[lC x l]?=U x/\∀m,m<lC x l->l[m]?≠U x
 |[],h=>by cases h
 |y::r,h=>by
  unfold lC;by_cases e:y=x;·simp_all
  ·rw[bR e];obtain⟨c,b⟩:=Bv ((Ys.mp h).resolve_left λz=>e z.symm);refine⟨by rwa[List.getElem?_cons_succ],λm a=>?_⟩;cases m with
   |zero=>simp_all
   |succ m=>simp_all
def Bj(b:l.Nodup)(h:l[k]?=U x):lC x l=k:=by
 obtain⟨a,c⟩:=Bv (Yh h);exact(List.getElem?_inj (by rcases Yl.mp a with⟨z,_⟩;exact z) b).mp (a.trans h.symm)
def inv(a:Z Int):Z Int:=(bH a.length).map λi=>(lC i a:Int)
def gX(a:Z Int):(inv a).length=a.length:=by unfold inv;rw[Ya,fS]
def BX{i:Nat}(h:i<xs.length):(inv xs)[i]?=U (lC (i:Int) xs:Int):=by
 unfold inv;rw[Yf,ny h];rfl
def A7(h:full xs=af):xs.Nodup:=(rf h).nodup_iff.mpr (DD.GQ _)
def P1(h:full xs=af)(a:i<xs.length):(i:Int)∈xs:=(rf h).symm.subset (Yh (ny a))
def kW(h:full xs=af):full (inv xs)=af:=by
 have p:(xs.map λi=>(lC i xs:Int)).Perm (inv xs):=(rf h).map _;have e:xs.map (λi=>(lC i xs:Int))=bH xs.length:=by
  refine Wh λi=>?_;rw[Yf];by_cases a:i<xs.length
  ·rw[ny a,Yc a];show U (lC xs[i] xs:Int)=U (i:Int);rw[Bj (A7 h) (Yc a)]
  ·rw[Y4 (gM a),Y4 (by rw[fS];exact gM a)];rfl
 rw[e] at p;exact tQ p.symm
def inv_inv(h:full xs=af):inv (inv xs)=xs:=by
 refine Wh λi=>?_;by_cases a:i<xs.length
 ·rw[BX (by rwa[gX]),Yc a];have b:=rE h (Jo a);have c:(xs[i]).toNat<xs.length:=QO
  have e:((xs[i].toNat:Nat):Int)=xs[i]:=QO
  have g:(inv xs)[(xs[i]).toNat]?=U (i:Int):=by rw[BX c,e,Bj (A7 h) (Yc a)]
  rw[Bj (A7 (kW h)) g,e]
 ·rw[Y4 (by rw[gX,gX];exact gM a),Y4 (gM a)]
def P2(a:i<xs.length):(inv xs).take (i+1)=(inv xs).take i++[(lC (i:Int) xs:Int)]:=by
 rw[Y1,BX a];rfl
inductive Sv(d:Z V)(H:Hp)(Q:VK):Prop
 |mk (a:O) (b:Z Int) (j:d=[.ref a]) (i:H a=U (.tup (b.map V.int))) (g:b.length<64) (h:full b=af) (e:∀(t:O) (c:Hp),H t=aJ->aj H c->c t=U (.tup ((inv b).map V.int))->Q (.ref t) c):Sv d H Q
def CS:Sp:=λa H Q _=>Sv a H Q
abbrev pd:Z ar:=["turn"]
def Z6:aT pd pd (aO FC):=.a9
def Z7(F:aR K "turned_back" "turned_back" FC f fd)(p:Bl mg):aI P w K mg I aP 1 f fd pd CS:=by
 refine F.ok Z6 (λG H Q E h=>?_) (λT A l s L G Q E R h=>?_)
 ·obtain⟨a,b,rfl,_⟩:=h;rfl
 obtain⟨a,b,rfl,z,N,J,q⟩:=h;refine⟨_,(au (aL (fU (vF) rfl p.oE oA (aa (iZ (x:="section") (fr:=[("turn",0)]) (cl:=[("turn",s.heap.objs.size+1)]) rfl (.f_ ⟨rfl,trivial⟩ ⟨⟨rfl,.inl rfl,.inl rfl,rfl⟩,trivial⟩) (pO rfl p.kB (aa (dJ K p (pv 0)) ag)) (λ_ _ _ _=>kA) (λ_ _ _ _=>(NR (pv 1) (aa (pv 0) ag)))) ag)))),?_⟩;have g:(b.map V.int).length=b.length:=Ya _;refine⟨_,rfl,a,_,rfl,.inr (aB.of z),_,rfl,by rw[g];omega,by rw[g];omega,λD y=>yA
   (λi e k=>aj L k/\k D=U (.lst e)/\e=((inv b).take i).map V.int) ⟨cK y _,aQ,rfl⟩ ?_ ?_⟩
 ·rintro i e k m ⟨c,n,j⟩;rw[Y6,g] at m;rw[Aj];have u:=Bv (P1 J m);have B:=c _ _ z;refine kG (dq ⟨_,rfl,a,b,rfl,B,_,rfl,(i:Int),lC (i:Int) b,rfl,B,u.1,u.2,n,?_,λd o r=>?_,aQ,?_⟩)
  ·rw[j,Ya,Y8,gX];exact kR QO
  ·rw[aA (cA r y)];exact c d o r
  ·rw[j,P2 m,Yo];rfl
 ·rintro e k ⟨c,n,j⟩;refine⟨D,_,rfl,.inl ⟨ak.of n,λt v=>q t _ (c.free v) (c.trans (cK v _)) ?_⟩⟩;rw[aQ,j,Y6,g,W1 (by rw[gX];exact nJ _)]
inductive O3(b:Z V)(H:Hp)(Q:VK):Prop
 |mk (n:Nat) (e:b=[.int (n:Int)]) (d:n<=1000) (c:∀(t:O) (a:Hp),H t=aJ->aj H a->a t=U (.tup ((bH n).map V.int))->Q (.ref t) a):O3 b H Q
def IP:Sp:=λa H Q _=>O3 a H Q
def ZeE:aT ["size"] ["size"] (aO IM):=.a9
def ZeF(F:aR K "still" "still" IM f fd)(c:Bl mg):aI P w K mg I aP 1 f fd ["size"] IP:=by
 refine F.o ZeE λs H e h=>?_;obtain⟨n,rfl,d,q⟩:=h;refine⟨_,(au (aL (fU (NC rfl) rfl c.oE oA (aa (fU A0 rfl c.kB wj (aa (pv 0) ag)) ag)))),?_⟩;exact⟨_,rfl,_,rfl,λr a=>⟨r,n,rfl,aQ,d,λt b=>q t _ ((cK a _).free b) ((cK a _).trans (cK b _)) aQ⟩⟩
inductive Q6(K:ah)(b:Z V)(H:Hp)(Q:VK):Prop
 |mk (p:O) (a:Z Int) (i:b=[.ref p]) (h:aB K H p (a.map V.int)) (e:a.length<64) (g:full a=af) (d:∀c,aj H c->Q .ay c):Q6 K b H Q
def Ky(K:ah):Sp:=λa H Q _=>Q6 K a H Q
inductive Sw(K:ah)(g:Z V)(H:Hp)(Q:VK):Prop
 |mk (a b:O) (c d:Z Int) (o:g=[.ref a,.ref b]) (n:aB K H a (c.map V.int)) (l:aB K H b (d.map V.int)) (m:c.length<64) (k:full c=af) (j:full d=af) (i:c.length=d.length) (h:∀(t:O) (e:Hp),H t=aJ->aj H e->e t=U (.tup ((bQ d c).map V.int))->Q (.ref t) e):Sw K g H Q
def K9(K:ah):Sp:=λa H Q _=>Sw K a H Q
inductive Sx(d:Z V)(H:Hp)(Q:VK):Prop
 |mk (a:O) (b:Z Int) (j:d=[.ref a]) (i:H a=U (.tup (b.map V.int))) (g:b.length<64) (h:full b=af) (e:∀(t:O) (c:Hp),H t=aJ->aj H c->c t=U (.tup ((inv b).map V.int))->Q (.ref t) c):Sx d H Q
def UN:Sp:=λa H Q _=>Sx a H Q
inductive P4(K:ah)(c:Z V)(H:Hp)(Q:VK):Prop
 |mk (l e:O) (d:Z O) (n:Nat) (o:c=[.ref l]) (m:ak K H l ((e::d).map V.ref)) (j:2<=n) (k:n<=8) (i:(∀a∈e::d,∃b:Z Int,aB K H a (b.map V.int)/\b.length=n/\full b=af)) (h:∀g,aj H g->Q .ay g):P4 K c H Q
def JY(K:ah):Sp:=λa H Q _=>P4 K a H Q
inductive NV(K:ah)(c:Z V)(H:Hp)(Q:VK):Prop
 |mk (m f w:O) (a b:Z Int) (o:c=[.ref m,.ref f,.ref w]) (n:aB K H m (a.map V.int)) (k:aB K H f ((bQ a b).map V.int)) (l:aB K H w (b.map V.int)) (j:full a=af) (i:full b=af) (h:a.length=b.length) (g:a.length<=8) (e:∀d,aj H d->Q .ay d):NV K c H Q
def O4(K:ah):Sp:=λa H Q _=>NV K a H Q
def tK(b a:Z Int):(bQ b a).length=a.length:=by unfold bQ;rw[Ya]
def Ip(g:full xs=af)(d:full a=af)(e:xs.length=a.length):full (bQ xs a)=af:=by
 have c:(bQ xs a).Perm ((bH a.length).map λx=>xs.getD x.toNat 0):=(rf d).map _;have h:((bH a.length).map λx=>xs.getD x.toNat 0)=xs:=by
  refine Wh λi=>?_;rw[Yf];by_cases b:i<a.length
  ·rw[ny b]
   simp_all
  ·rw[Y4 (by rw[fS];exact gM b),Y4 (dI (mD e) (gM b))];rfl
 rw[h] at c;exact tQ (c.trans (rf g))
abbrev ZiV(n:Nat)(m f w d:O):Z (ar×V):=[("size",.int (n:Int)),("mother",.ref m),("father",.ref f),("wife",.ref w),("steps",.ref d)]
abbrev y_(m f w d b c a:O):Z (Key×V):=[(.inr "c",.ref m),(.inr "k",.ref f),(.inr "w",.ref w),(.inr "m",.ref d),(.inr "f",.ref b),(.inr "h",.ref c),(.inr "s",.ref a)]
def bN(H:Hp)(a:O)(b:Z Int):Prop:=H a=U (.tup (b.map V.int))
inductive P5(H:Hp)(C L:O)(a b:Z Int):Prop
 |mk (h d m f w g c e st:O) (r:H L=U (.ins C h (ZiV a.length m f w d))) (q:H d=U (.dK (y_ m f w g c e st))) (o:bN H m a) (p:bN H f (bQ a b)) (n:bN H w b) (l:bN H g (inv a)) (k:bN H c (inv (bQ a b))) (j:bN H e (inv b)) (i:bN H st (bH a.length)):P5 H C L a b
def js(H:Hp)(C L:O)(b a:Z Int):Prop:=P5 H C L b a
def js.same(g:aj H s)(h:js H C L xs ys):js s C L xs ys:=by
 obtain⟨r,d,m,f,w,c,a,b,st,q,p,o,n,l,k,j,i,e⟩:=h;exact⟨r,d,m,f,w,c,a,b,st,g _ _ q,g _ _ p,g _ _ o,g _ _ n,g _ _ l,g _ _ k,g _ _ j,g _ _ i,g _ _ e⟩
inductive P6(C:O)(e:Z V)(H:Hp)(Q:VK):Prop
 |mk (x g m f w:O) (a c:Z Int) (s:e=[.ref x,.ref m,.ref f,.ref w]) (r:H x=U (.ins C g [])) (p:bN H m a) (q:bN H f (bQ a c)) (n:bN H w c) (l:full a=af) (k:full c=af) (j:a.length=c.length) (i:2<=a.length) (h:a.length<=8) (t:∀d,(∀b o,H b=U o->b≠x->d b=U o)->js d C x a c->Q .ay d):P6 C e H Q
def Sy(C:O):Sp:=λa H Q _=>P6 C a H Q
inductive Oq(C:O)(d:Z V)(H:Hp)(Q:VK):Prop
 |mk (m w:O) (a b:Z Int) (o:d=[.ref m,.ref w]) (n:bN H m a) (k:bN H w b) (l:full a=af) (j:full b=af) (i:a.length=b.length) (h:2<=a.length) (g:a.length<=8) (e:∀(L:O) (c:Hp),aj H c->js c C L a b->Q (.ref L) c):Oq C d H Q
def P7(C:O):Sp:=λa H Q _=>Oq C a H Q
structure wW(K:ah)(C:O):Prop where
 cls:hU K C
 t6:dG K C "size"
 ZeG:dG K C "mother"
 ZeH:dG K C "father"
 ZhY:dG K C "wife"
 IQ:dG K C "steps"
def Zam:aT ko ko (aO FY):=.a9
def ZhZ(F:aR K "check_turn" "check_turn" FY f fd)(a:HasFn P w K mg I 1 "is_turn" ko (K8 K)):aI P w K mg I aP 2 f fd ko (Ky K):=by
 refine F.o Zam λs H d h=>?_;obtain⟨p,b,rfl,e,c,i,q⟩:=h;refine⟨_,(au (aW (i4 (eX (aV a d (aa (pv 0) ag)))) gY a_)),?_⟩;refine⟨_,rfl,p,b,rfl,.inr e,c,λj g=>⟨_,rfl,?_⟩⟩;rw[i];exact bT (q j g)
def Zdp:aT o_ o_ (aO Il):=.a9
def ZiW(F:aR K "behind" "behind" Il f fd)(j:HasFn P w K mg I 2 "check_turn" ko (Ky K))(x:HasFn P w K mg I 1 "followed" o_ (Kx K))(r:Bl mg):aI P w K mg I aP 3 f fd o_ (K9 K):=by
 refine F.o Zdp λs H d h=>?_;obtain⟨a,b,i,e,rfl,m,l,k,o,G,eq,q⟩:=h;refine⟨_,(aq (cG (aV j d (aa (pv 0) ag))) (aq (cG (aV j d (aa (pv 1) ag))) (aq (aW (bJ mI (dJ K r (pv 0)) (dJ K r (pv 1))) gY a_) (au (aL (aV x d (aa (pv 0) (aa (pv 1) ag)))))))),?_⟩;refine⟨_,rfl,a,i,rfl,m,k,o,λN n=>?_⟩;refine⟨_,rfl,b,e,rfl,n.kh l,QO,G,λL E=>?_⟩;have g:=n.trans E;have v:=g.kh m;have u:=g.kh l;have p:∀c:Z Int,(c.map V.int).length=c.length:=λc=>Ya _;refine⟨_,rfl,a,_,rfl,.inr v,_,rfl,b,_,rfl,.inr u,rfl,_,rfl,wR (by rw[p,p,eq]) (aX ?_)⟩;exact⟨_,rfl,_,rfl,a,b,i,e,rfl,v,u,λz A=>by exact eq▸rE o A,k,λt J y D B=>q t J (g.free y) (g.trans D) B⟩
def Zf9:aT pd pd (aO JX):=.a9
def ZiX(F:aR K "back" "back" JX f fd)(j:HasFn P w K mg I 2 "check_turn" ko (Ky K))(k:HasFn P w K mg I 1 "turned_back" pd CS)(p:Bl mg):aI P w K mg I aP 3 f fd pd UN:=by
 refine F.o Zf9 λs H e h=>?_;obtain⟨a,c,rfl,g,d,i,q⟩:=h;refine⟨_,(aq (cG (aV j e (aa (pv 0) ag))) (au (aL (aV k e (aa (pv 0) ag))))),?_⟩;refine⟨_,rfl,a,c,rfl,aB.of g,d,i,λr b=>?_⟩;exact⟨_,rfl,a,c,rfl,b _ _ g,d,i,λt o l n m=>q t o (b.free l) (b.trans n) m⟩
def FO:aT ["rows","size","row"] ["rows"] (aO FZ):=.a9
theorem Zf_(F:aR K "check_rows" "check_rows" FZ f fd)(A:HasFn P w K mg I 1 "is_turn" ko (K8 K))(R:mg "LEAST_SIZE"=U (.int 2 t1))(Q:mg "MOST_SIZE"=U (.int 8 W))(x:Bl mg):aI P w K mg I aP 2 f fd ["rows"] (JY K):=by
 refine F.o FO λs H E h=>?_;obtain⟨l,c,y,n,rfl,p,n2,X,b,q⟩:=h;refine⟨_,(aq (cy 1 FO.nd (dJ K x (bh (iL K) (pv 0) aM))) (aq (aW (PW.pt (pw_or (bJ oO (pv 1) (dR (v:=.int (2)) rfl R ⟨_,rfl⟩)) (pw_or1 (bJ Co (pv 1) (dR (v:=.int (8)) rfl Q ⟨_,rfl⟩))))) gY a_) (au (gm hI rfl (eS (K:=K) rfl (pv 0)) (bI 2 FO.nd) (au (aW (PW.pt (pw_or (bJ mI (dJ K x (pv 2)) (pv 1)) (pw_or1 (i4 (eX (aV A E (aa (pv 2) ag))))))) gY a_)))))),?_⟩;have u:∀k:Z Int,(k.map V.int).length=k.length:=λk=>Ya _;obtain⟨T,J,D,f0⟩:=b c Yk;refine⟨_,rfl,l,_,0,.ref c,rfl,rfl,p,iG rfl,c,_,rfl,.inr J,?_⟩;rw[u,D];refine⟨_,rfl,_,_,rfl,rfl,_,rfl,bF (λr=>absurd (eK r) QO) (λ_=>?_)⟩;refine⟨_,rfl,_,_,rfl,rfl,_,rfl,bF (λr=>absurd (eK r) QO) (λ_=>aX ?_)⟩;refine⟨_,rfl,l,rfl,⟨_,p⟩,kz (λi j d=>aj H d/\∃m:bq V,j=[U (.ref l),U (.int (n:Int)),m]) ⟨aj.refl _,aJ,rfl⟩ (λi j d _ ⟨g,_⟩=>g.seq p) ?_ ?_⟩
 ·rintro i v j d o ⟨g,m,rfl⟩;rw[Yf] at o;obtain⟨a,G,rfl⟩:∃a,a∈c::y/\V.ref a=v:=by
   cases e:(c::y)[i]? with
   |none=>rw[e] at o;cases o
   |some a=>grind
  obtain⟨z,t,B,N⟩:=b a G;refine⟨_,rfl,a,_,rfl,.inr (g.kh t),_,rfl,rfl,_,rfl,wR (by rw[u,B]) ?_⟩;refine⟨_,rfl,a,z,rfl,.inr (g.kh t),(fI (kS B) (fI X (by decide))),λH2 L=>⟨_,rfl,?_⟩⟩;rw[N];exact bT (aX ⟨g.trans L,_,rfl⟩)
 ·rintro j d ⟨g,m,rfl⟩;exact q d g
abbrev Mp:Z ar:=["mother","father","wife"]
def EY:aT ["mother","father","wife","by_mothers","section"] Mp (aO E2):=.a9
def Zci(F:aR K "check_parents" "check_parents" E2 f fd)(r:HasFn P w K mg I 3 "behind" o_ (K9 K))(p:Bl mg):aI P w K mg I aP 4 f fd Mp (O4 K):=by
 refine F.o EY λs H v h=>?_;obtain⟨m,j,n,b,a,rfl,z,o,y,B,A,eq,G,q⟩:=h;refine⟨_,(aq (cy 3 EY.nd (aV r v (aa (pv 2) (aa (pv 0) ag)))) (au (gm hI rfl (pO rfl p.kB (aa (dJ K p (pv 1)) ag)) (bI 4 EY.nd) (au (aW (bJ mI (bh (iT K) (pv 3) (pv 4)) (bh (iT K) (pv 1) (pv 4))) gY a_))))),?_⟩;have k:∀d:Z Int,(d.map V.int).length=d.length:=λd=>Ya _;refine⟨_,rfl,_,rfl,n,m,a,b,rfl,y,z,QO,A,B,eq.symm,λt D E g u=>?_⟩;have J:=tK b a;refine⟨_,rfl,j,_,rfl,.inr (g.kh o),_,rfl,by rw[k];omega,by rw[k];omega,Bf
  (λi c l=>l=D/\∃e:bq V,c=[U (.ref m),U (.ref j),U (.ref n),U (.ref t),e]) ⟨rfl,aJ,rfl⟩ ?_ ?_⟩
 ·rintro i c l x ⟨rfl,e,rfl⟩;rw[Y6,k] at x;have at_:d_ ((bQ b a).map V.int) (0+(i:Int))=U (.int ((bQ b a).getD (0+(i:Int)).toNat 0)):=oI QO QO;refine⟨_,rfl,_,rfl,t,_,_,_,rfl,rfl,aB.of u,at_,_,rfl,_,rfl,j,_,_,_,rfl,rfl,g.kh o,at_,rfl,_,rfl,wR rfl (aX ⟨rfl,_,rfl⟩)⟩
 ·rintro c l ⟨rfl,e,rfl⟩;exact q _ g
def xN{f:ar}(h:fs.length<=n):(c8 f y fs).length<=n+1:=Yz (Ge f y fs) (YF h)
def fs4(a b c d:V):c8 "wife" d (c8 "father" c (c8 "mother" b (c8 "size" a [])))=([("size",a),("mother",b),("father",c),("wife",d)]:Z (ar×V)):=rfl
def fs5(a b c d e:V):c8 "steps" e [("size",a),("mother",b),("father",c),("wife",d)]=([("size",a),("mother",b),("father",c),("wife",d),("steps",e)]:Z (ar×V)):=rfl
def ds7(a b c d e f g:V):p_ [] [(.inr "c",a),(.inr "k",b),(.inr "w",c),(.inr "m",d),(.inr "f",e),(.inr "h",f),(.inr "s",g)]=[(.inr "c",a),(.inr "k",b),(.inr "w",c),(.inr "m",d),(.inr "f",e),(.inr "h",f),(.inr "s",g)]:=rfl
abbrev CT:Z ar:=["self","mother","father","wife"]
def ZaK:aT CT CT (aO Gv):=.a9
def Zga(F:aR K "__init__" "Land.__init__" Gv f fd)(p:wW K C)(vI:HasFn P w K mg I 2 "check_rows" ["rows"] (JY K))(E9:HasFn P w K mg I 4 "check_parents" Mp (O4 K))
  (za:HasFn P w K mg I 3 "back" pd UN)(wB:HasFn P w K mg I 1 "still" ["size"] IP)(bl:Bl mg):aI P w K mg I aP 5 f fd CT (Sy C):=by
 refine F.o ZaK λs H y h=>?_;obtain⟨x,k,m,i,c,j,v,rfl,hx,hM,hF,hW,W,T,eq,l2,G,q⟩:=h;refine⟨_,(aq (cG (aV vI y (aa (yW (aa (pv 1) (aa (pv 2) (aa (pv 3) ag)))) ag))) (aq (cG (aV E9 y (aa (pv 1) (aa (pv 2) (aa (pv 3) ag))))) (aq (yV (pv 0) (dJ K bl (pv 1)) rfl) (aq (yV (pv 0) (pv 1) rfl) (aq (yV (pv 0) (pv 2) rfl) (aq (yV (pv 0) (pv 3) rfl) (au (yV (pv 0) (BP (kU bA (pv 1) (kU bA (pv 2) (kU bA (pv 3) (kU bA (aV za y (aa (pv 1) ag)) (kU bA (aV za y (aa (pv 2) ag)) (kU bA (aV za y (aa (pv 3) ag)) (kU bA (aV wB y (aa (dJ K bl (pv 1)) ag)) BO))))))) rfl rfl (λz=>nomatch z) (Ju rfl)) rfl)))))))),?_⟩;have el:∀zs:Z Int,(zs.map V.int).length=zs.length:=λzs=>Ya _;have WQ:=Ip W T eq;have al:=tK j v;refine⟨_,rfl,_,rfl,_,rfl,by show 3<=sizeLine;decide,λl nl=>?_⟩;have R:=cK nl (.lst [.ref m,.ref i,.ref c]);refine⟨l,m,[i,c],j.length,rfl,ak.of aQ,l2,G,λa A=>?_,λH2 g2=>?_⟩
 ·rcases Ys.mp A with rfl|A;·exact⟨j,aB.of (R _ _ hM),rfl,W⟩
  ·rcases Ys.mp A with rfl|A;·exact⟨bQ j v,aB.of (R _ _ hF),by rw[al,eq],WQ⟩
   ·rw[Yn] at A;subst A;exact⟨v,aB.of (R _ _ hW),eq.symm,T⟩
 have E:=R.trans g2;refine⟨_,rfl,_,rfl,_,rfl,m,i,c,j,v,rfl,aB.of (E _ _ hM),aB.of (E _ _ hF),aB.of (E _ _ hW),W,T,eq,G,λH3 g3=>?_⟩;have g:=E.trans g3;have DM:=g _ _ hx;have DN:=g _ _ hM;have Mq:=g _ _ hF;have Mr:=g _ _ hW;have nm:m≠x:=λe=>by rw[e,DM] at DN;cases DN
 have nf:i≠x:=λe=>by rw[e,DM] at Mq;cases Mq
 have nw:c≠x:=λe=>by rw[e,DM] at Mr;cases Mr
 refine⟨_,rfl,m,_,rfl,.inr (aB.of DN),_,rfl,x,C,k,_,rfl,DM,p.cls,p.t6,by decide,?_⟩;refine⟨_,rfl,_,rfl,x,C,k,_,rfl,aQ,p.cls,p.ZeG,Ji (xN (Yd 0)) (by decide),?_⟩;refine⟨_,rfl,_,rfl,x,C,k,_,rfl,aQ,p.cls,p.ZeH,Ji (xN (xN (Yd 0))) (by decide),?_⟩;refine⟨_,rfl,_,rfl,x,C,k,_,rfl,aQ,p.cls,p.ZhY,Ji (xN (xN (xN (Yd 0)))) (by decide),?_⟩;rw[IE,IE,IE,el,fs4];have Ms:upd H3 x (.ins C k [("size",.int (j.length:Int)),("mother",.ref m),("father",.ref i),("wife",.ref c)]) x=U (.ins C k [("size",.int (j.length:Int)),("mother",.ref m),("father",.ref i),("wife",.ref c)]):=aQ;have B:∀b o,H3 b=U o->b≠x->upd H3 x (.ins C k [("size",.int (j.length:Int)),("mother",.ref m),("father",.ref i),("wife",.ref c)]) b=U o:=λb o e n=>by rw[aA n];exact e
 generalize upd H3 x (.ins C k [("size",.int (j.length:Int)),("mother",.ref m),("father",.ref i),("wife",.ref c)])=H4 at Ms B⊢;have xO:=B _ _ DN nm;have WR:=B _ _ Mq nf;have Al:=B _ _ Mr nw;intro d nd;have r:=cK nd (.dK []);have Mt:upd H4 d (.dK []) d=U (.dK []):=aQ;generalize upd H4 d (.dK [])=H5 at r Mt⊢;refine⟨_,rfl,_,rfl,_,rfl,?_⟩;refine⟨_,rfl,m,j,rfl,r _ _ xO,lJ G (by decide),W,λN H6 nim g6 Mu=>?_⟩;refine⟨_,rfl,i,bQ j v,rfl,g6 _ _ (r _ _ WR),by omega,WQ,λJ H7 njf g7 Mv=>?_⟩;refine⟨_,rfl,c,v,rfl,g7 _ _ (g6 _ _ (r _ _ Al)),by omega,T,λL H8 niw g8 hiw=>?_⟩;have WS:=(g6.trans g7).trans g8;refine⟨_,rfl,m,_,rfl,.inr (aB.of (WS _ _ (r _ _ xO))),j.length,by rw[el];rfl,dI G (by decide),λst X DO Q dB=>?_⟩;have u:=WS.trans Q;refine⟨u _ _ Mt,y_ m i c N J L st,rfl,by show 7<=15;decide,?_⟩;have kq:d≠x:=cA Ms nd |>.symm;have WT:=u _ _ (r _ _ Ms);refine⟨_,rfl,x,C,k,_,rfl,by rw[aA kq.symm];exact WT,p.cls,p.IQ,by show 4<1000;decide,?_⟩;rw[fs5,ds7];have D:∀{b:O} {o:HO},X b=U o->b≠d->b≠x->upd (upd X d (.dK (y_ m i c N J L st))) x (.ins C k [("size",.int (j.length:Int)),("mother",.ref m),("father",.ref i),("wife",.ref c),("steps",.ref d)]) b=U o:=λ{b o} e n1 n2=>by
  rw[aA n2,aA n1];exact e
 have t:∀{b:O} {zs:Z Int},X b=U (.tup (zs.map V.int))->bN (upd (upd X d (.dK (y_ m i c N J L st))) x (.ins C k [("size",.int (j.length:Int)),("mother",.ref m),("father",.ref i),("wife",.ref c),("steps",.ref d)])) b zs:=λ{b zs} e=>
  D e (λz=>by rw[z,u _ _ Mt] at e;cases e) (λz=>by rw[z,WT] at e;cases e)
 refine q _ (λb o e n=>?_) ⟨k,d,m,i,c,N,J,L,st,aQ,by rw[aA kq];exact aQ,t (u _ _ (r _ _ xO)),t (u _ _ (r _ _ WR)),t (u _ _ (r _ _ Al)),t (Q _ _ (g8 _ _ (g7 _ _ Mu))),t (Q _ _ (g8 _ _ Mv)),t (Q _ _ hiw),t dB⟩;have e4:=B _ _ (g _ _ e) n;refine D (u _ _ (r _ _ e4)) (cA e4 nd) n
abbrev CU:Z ar:=["mother","wife"]
def Zcj:aT CU CU (aO HQ):=.a9
def Zck(F:aR K "land_of" "land_of" HQ f fd)(N:HasFn P w K mg I 2 "check_rows" ["rows"] (JY K))(L:HasFn P w K mg I 3 "behind" o_ (K9 K))
  (JZ:qj P w K mg I 5 "Land" C CT (Sy C)):aI P w K mg I aP 7 f fd CU (P7 C):=by
 refine F.o Zcj λs H p h=>?_;obtain⟨m,d,c,n,rfl,t,r,A,y,eq,G,E,q⟩:=h;refine⟨_,(aq (cG (aV N p (aa (yW (aa (pv 0) (aa (pv 1) ag))) ag))) (au (aL (Cv JZ p (by decide) rfl (aa (pv 0) (aa (aV L p (aa (pv 1) (aa (pv 0) ag))) (aa (pv 1) ag))))))),?_⟩;refine⟨_,rfl,_,rfl,by show 2<=sizeLine;decide,λl R=>?_⟩;have v:=cK R (.lst [.ref m,.ref d]);refine⟨l,m,[d],c.length,rfl,ak.of aQ,G,E,λa i=>?_,λH2 g2=>?_⟩
 ·rcases Ys.mp i with rfl|i;·exact⟨c,aB.of (v _ _ t),rfl,A⟩
  ·rw[Yn] at i;subst i;exact⟨n,aB.of (v _ _ r),eq.symm,y⟩
 have g:=v.trans g2;refine⟨_,rfl,_,rfl,_,rfl,d,m,n,c,rfl,aB.of (g _ _ r),aB.of (g _ _ t),QO,y,A,eq.symm,λfa B WU X df=>?_⟩;have u:=g.trans X;refine⟨_,rfl,λx k D Q ne=>?_⟩;have Am:upd B k (.own x) x=aJ:=by rw[aA (λz=>ne z.symm)];exact D
 have j:aj B (upd (upd B k (.own x)) x (.ins C k [])):=(cK Q _).trans (cK Am _);refine⟨x,k,m,fa,d,c,n,rfl,aQ,j _ _ (u _ _ t),j _ _ df,j _ _ (u _ _ r),A,y,eq,G,E,λH5 W T=>⟨rfl,q x H5 (λb o e=>?_) T⟩⟩;have J:=u _ _ e;exact W b o (j _ _ J) (cA J D)
abbrev Cf(a b:Z Int):Z (ar×Z Int):=[("c",a),("k",bQ a b),("w",b),("m",inv a),("f",inv (bQ a b)),("h",inv b),("s",bH a.length)]
inductive P8(C:O)(c:Z V)(H:Hp)(Q:VK):Prop
 |mk (L:O) (z:ar) (b a d:Z Int) (i:c=[.ref L,.str z]) (h:js H C L b a) (e:(z,d)∈Cf b a) (g:∀t:O,bN H t d->Q (.ref t) H):P8 C c H Q
def Sz(C:O):Sp:=λa H Q _=>P8 C a H Q
def step_at{H:Hp}{a b ns:Z Int}{z:ar}{m f w g d e c:O}(h:(z,ns)∈Cf a b)(p:bN H m a)(o:bN H f (bQ a b))(n:bN H w b)(l:bN H g (inv a))(k:bN H d (inv (bQ a b)))(j:bN H e (inv b))(i:bN H c (bH a.length)):
  ∃t,aZ (y_ m f w g d e c) (.inr z)=U (.ref t)/\bN H t ns:=by
 simp[Ys,Y3,hP] at h;rcases h with⟨rfl,rfl⟩|⟨rfl,rfl⟩|⟨rfl,rfl⟩|⟨rfl,rfl⟩|⟨rfl,rfl⟩|⟨rfl,rfl⟩|⟨rfl,rfl⟩;·exact⟨m,rfl,p⟩
 ·exact⟨f,rfl,o⟩
 ·exact⟨w,rfl,n⟩
 ·exact⟨g,rfl,l⟩
 ·exact⟨d,rfl,k⟩
 ·exact⟨e,rfl,j⟩
 ·exact⟨c,rfl,i⟩
abbrev CV:Z ar:=["self","letter"]
def ZaL:aT CV CV (aO Gw):=.a9
def Zgb(F:aR K "step" "Land.step" Gw f fd)(a:wW K C):aI P w K mg I aP 1 f fd CV (Sz C):=by
 refine F.o ZaL λs H b h=>?_;obtain⟨L,z,B,A,E,rfl,i,j,q⟩:=h;refine⟨_,(aq (aW (kC (nv (bG b) (pv 1) (pF K 0)) QU) gY a_) (au (aL (dD (bG b) (pF K 0) (pv 1) (λ_ _=>rfl))))),?_⟩;obtain⟨e,d,m,Q,D,N,G,J,st,c,y,x,v,u,r,p,o,n⟩:=i;obtain⟨t,k,l⟩:=step_at j x v u r p o n;have g:=k▸fE.k y;exact⟨_,rfl,_,rfl,L,C,e,_,.ref d,rfl,c,a.cls,a.IQ,rfl,d,_,rfl,g,_,rfl,bT (aX ⟨_,rfl,L,C,e,_,.ref d,rfl,c,a.cls,a.IQ,rfl,_,rfl,d,_,rfl,g,q t l⟩)⟩
structure JS where
 hd:Z Nat
 ld:Z (Z Int)
 mem:Z (Nat×Z Nat)
 fr:Z (Nat×Z Int)
structure JL where
 J:O
 ha:O
 la:O
 md:O
 fd:O
 fO:Z O
 hZ:Z O
 cz:Z O
def JL.fp(l:JL):Z O:=l.J::l.ha::l.la::l.md::l.fd::l.hZ
abbrev JF(n:Nat)(c b a fd:O):Z (ar×V):=[("size",.int (n:Int)),("heads",.ref c),("leads",.ref b),("members",.ref a),("free",.ref fd)]
def jf5(a b c d e:V):c8 "free" e (c8 "members" d (c8 "leads" c (c8 "heads" b (c8 "size" a []))))=([("size",a),("heads",b),("leads",c),("members",d),("free",e)]:Z (ar×V)):=rfl
abbrev eN(a:Z Nat):Z V:=a.map λi:Nat=>V.int (i:Int)
def bw(a:Z Nat)(b:Z O):Z (Key×V):=(a.zip b).map λp=>(.inl (p.1:Int),.ref p.2)
structure cX(H:Hp)(C:O)(n:Nat)(l:JL)(st:JS):Prop where
 obj:∃dx,H l.J=U (.ins C dx (JF n l.ha l.la l.md l.fd))
 heads:H l.ha=U (.lst (eN st.hd))
 jw:H l.la=U (.lst (l.fO.map V.ref))
 lead:Paired (λa xs=>H a=U (.tup (xs.map V.int))) l.fO st.ld
 kH:H l.md=U (.dK (bw (st.mem.map (·.1)) l.hZ))
 mem:Paired (λa p=>H a=U (.lst (eN p.2))) l.hZ st.mem
 frees:H l.fd=U (.dK (bw (st.fr.map (·.1)) l.cz))
 free:Paired (λa p=>H a=U (.lst (p.2.map V.int))) l.cz st.fr
 nd:l.fp.Nodup
 out:∀a∈l.cz,a∉l.fp
def cX.same(g:aj H c)(a:cX H C n l st):cX c C n l st:=
 ⟨let⟨b,h⟩:=a.obj;⟨b,g _ _ h⟩,g _ _ a.heads,g _ _ a.jw,L2.Paired.bL a.lead λ _ _=>g _ _,g _ _ a.kH,L2.Paired.bL a.mem λ _ _=>g _ _,g _ _ a.frees,L2.Paired.bL a.free λ _ _=>g _ _,a.nd,a.out⟩
theorem yC:∀{a:Z α} {b:Z β} {x:α},Paired F a b->x∈a->∃y,F x y:=by
 intro a b x p;induction p with
 |nil=>grind
 |cons f t c=>grind
def cX.ne(a:cX H C n l st)(h:H p=aJ):p∉l.fp:=by
 intro z;unfold JL.fp at z;simp[Ys] at z;rcases z with rfl|rfl|rfl|rfl|rfl|z
 ·obtain⟨b,e⟩:=a.obj
  grind
 ·rw[a.heads] at h;cases h
 ·rw[a.jw] at h;cases h
 ·rw[a.kH] at h;cases h
 ·rw[a.frees] at h;cases h
 ·obtain⟨y,e⟩:=yC a.mem z
  grind
theorem pP{g:Type}{H:Hp}{f:g->HO}:∀{as:Z O} {c:Z (Nat×g)} {k:Nat} {v:g},Paired (λa p=>H a=U (f p.2)) as c->c.lookup k=U v->∃a,a∈as/\aZ (bw (c.map (·.1)) as) (.inl (k:Int))=U (.ref a)/\H a=U (f v):=by
 intro as c k v j;induction j with
 |nil=>simp
 |@cons a p as c e t l=>
  intro h;have n:bw ((p::c).map (·.1)) (a::as)=(Sum.inl (p.1:Int),V.ref a)::bw (c.map (·.1)) as:=rfl;rw[Ja] at h;by_cases d:k=p.1
  ·have i:=beq_iff_eq.mpr d;rw[i] at h;exact⟨a,Yk,gZ (by rw[d]),by rwa[←(Ym h)]⟩
  ·have i:=beq_eq_false_iff_ne.mpr d;rw[i] at h;obtain⟨b,m,q,w⟩:=l h;refine⟨b,Yw _ m,?_,w⟩;rw[n,gk (λz=>d (by have:=xP z;exact k8 (l9 this)))];exact q
def ZeI{q k:Nat}(z:((Sum.inl (q:Int):Key),v).1=.inl (k:Int)):k∈q::ks:=by
 grind
theorem Bk:∀{as:Z O} {b:Z Nat} {k:Nat},k∉b->aZ (bw b as) (.inl (k:Int))=aJ
 |[],b,k,_=>by unfold bw;rw[JG];rfl
 |a::as,[],k,_=>rfl
 |a::as,q::b,k,h=>by
  have c:bw (q::b) (a::as)=(Sum.inl (q:Int),V.ref a)::bw b as:=rfl;rw[c,gk (λz=>h (ZeI z))];exact Bk λz=>h (Yw _ z)
theorem A8:∀{c:Z Nat} {as:Z O} (k:Nat) (a:O),c.length=as.length->bw c as++[(.inl (k:Int),.ref a)]=bw (c++[k]) (as++[a])
 |[],[],_,_,_=>rfl
 |q::c,b::as,k,a,h=>by
  have d:bw (q::c) (b::as)=(Sum.inl (q:Int),V.ref b)::bw c as:=rfl;rw[d,V4,(A8 k a (by simpa using h))];rfl
 |[],_::_,_,_,h=>by simp at h
 |_::_,[],_,_,h=>by simp at h
structure nC(K:ah)(C:O):Prop where
 cls:hU K C
 t6:dG K C "size"
 kX:dG K C "heads"
 oF:dG K C "leads"
 v9:dG K C "members"
 rN:dG K C "free"
def JS.more(n:Nat)(a:JS):JS:=⟨a.hd++[a.hd.length],a.ld++[bH n],a.mem++[(a.hd.length,[a.hd.length])],a.fr++[(a.hd.length,bH n)]⟩
inductive Q7(C:O)(c:Z V)(H:Hp)(Q:VK)(E:XK):Prop
 |mk (x d:O) (n:Nat) (h:c=[.ref x,.int (n:Int)]) (g:H x=U (.ins C d [])) (e:∀(l:JL) (a:Hp),l.J=x->l.hZ=[]->(∀b∈l.fp,b≠x->H b=aJ)->aC x H a->cX a C n l ⟨[],[],[],[]⟩->Q .ay a)
inductive G9(C:O)(c:Z V)(H:Hp)(Q:VK)(E:XK):Prop
 |mk (l:JL) (st:JS) (n i j a b:Nat) (k:c=[.ref l.J,.int (i:Int),.int (j:Int)]) (h:cX H C n l st) (e:st.hd[i]?=U a) (g:st.hd[j]?=U b) (d:Q (.bl (decide (a=b))) H)
inductive yM(C:O)(d:Z V)(H:Hp)(Q:VK)(E:XK):Prop
 |mk (l:JL) (st:JS) (n i h:Nat) (t a:Z Int) (r:d=[.ref l.J,.int (i:Int)]) (q:cX H C n l st) (m:st.hd[i]?=some h) (o:st.ld[i]?=some t) (k:st.fr.lookup h=some a) (j:(∀z∈a,0<=z/\z<t.length)) (g:a.length<64) (e:∀(p:O) (b:Z Int) (c:Hp),H p=none->aj H c->b.Perm (a.map λz=>t.getD z.toNat 0)->b.Pairwise (·<=·)->c p=U (.lst (b.map V.int))->Q (.ref p) c)
inductive Kz(C:O)(d:Z V)(H:Hp)(Q:VK)(E:XK):Prop
 |mk (l:JL) (st:JS) (n:Nat) (q:d=[.ref l.J]) (p:cX H C n l st) (m:n<=1000) (o:st.hd.length<1000) (k:st.mem.length<=st.hd.length) (j:st.fr.length<=st.hd.length) (i:st.ld.length=st.hd.length) (h:st.hd.length∉st.mem.map (·.1)) (g:st.hd.length∉st.fr.map (·.1)) (e:∀(a:JL) (c:Hp),a.J=l.J->Out l.fp H c->(∀b∈a.fp,b∈l.fp\/H b=aJ)->cX c C n a (st.more n)->Q (.int (st.hd.length:Int)) c)
def pY{i h:Nat}(e:is[i]?=U h):d_ (eN is) (i:Int)=U (.int (h:Int)):=iG (by rw[Yf,e];rfl)
abbrev CW:Z ar:=["self","size"]
def Zan:aT CW CW (aO F0):=.a9
theorem ZeJ(F:aR K "__init__" "Joins.__init__" F0 f fd)(c:nC K C)(bl:Bl mg):aI P w K mg I aP 1 f fd CW (Q7 C):=by
 refine F.o Zan λs H hr h=>?_;obtain⟨x,j,n,rfl,hx,q⟩:=h;refine⟨_,(aq (iH (K:=K) rfl (pv 0) (pv 1)) (aq (iH (K:=K) rfl (pv 0) (dP ag)) (aq (iH (K:=K) rfl (pv 0) (dP ag)) (aq (iH (K:=K) rfl (pv 0) tL) (au (iH (K:=K) rfl (pv 0) tL)))))),?_⟩;refine⟨_,rfl,_,rfl,x,C,j,[],rfl,hx,c.cls,c.t6,by show 0<1000;decide,λH1 L h1=>?_⟩;refine⟨by show 0<=sizeLine;exact Yx _,λp H2 D E e2=>⟨_,rfl,x,C,j,_,rfl,E _ _ h1,c.cls,c.kX,by show 1<1000;decide,λH3 J h3=>?_⟩⟩;refine⟨by show 0<=sizeLine;exact Yx _,λla H4 m v e4=>⟨_,rfl,x,C,j,_,rfl,v _ _ h3,c.cls,c.oF,by show 2<1000;decide,λH5 A h5=>?_⟩⟩;refine λmd H6 i r e6=>⟨_,rfl,x,C,j,_,rfl,r _ _ h5,c.cls,c.v9,by show 3<1000;decide,λH7 u h7=>?_⟩;refine λfe H8 g g8 e8=>⟨_,rfl,x,C,j,_,rfl,g8 _ _ h7,c.cls,c.rN,by show 4<1000;decide,λH9 b9 h9=>?_⟩;rw[jf5] at h9;have T:aC x H8 H9:=b9;have W:aC x H6 H9:=u.trans ((aC.of g8).trans T);have X:aC x H4 H9:=A.trans ((aC.of r).trans W);have k2:aC x H2 H9:=J.trans ((aC.of v).trans X);have k0:aC x H H9:=L.trans ((aC.of E).trans k2);have l:p≠x:=λz=>by rw[z,h1] at D;cases D
 have t:la≠x:=λz=>by rw[z,h3] at m;cases m
 have y:md≠x:=λz=>by rw[z,h5] at i;cases i
 have G:fe≠x:=λz=>by rw[z,h7] at g;cases g
 have i3:=J _ _ e2 l;have i5:=A _ _ (v _ _ i3) l;have i7:=u _ _ (r _ _ i5) l;have j5:=A _ _ e4 t;have j7:=u _ _ (r _ _ j5) t;have l7:=u _ _ e6 y;have a1:p≠la:=λz=>by rw[←z,i3] at m;cases m
 have a2:p≠md:=λz=>by rw[←z,i5] at i;cases i
 have a3:p≠fe:=λz=>by rw[←z,i7] at g;cases g
 have a4:la≠md:=λz=>by rw[←z,j5] at i;cases i
 have a5:la≠fe:=λz=>by rw[←z,j7] at g;cases g
 have a6:md≠fe:=λz=>by rw[←z,l7] at g;cases g
 have B:∀{b:O} {N:Hp},aC x H N->b≠x->N b=aJ->H b=aJ:=λ{b N} k d n=>by
  cases e:H b with
  |none=>rfl
  |some o=>rw[k b o e d] at n;cases n
 have R:aC x H H3:=L.trans ((aC.of E).trans J);have Q:aC x H H5:=R.trans ((aC.of v).trans A);have t7:aC x H H7:=Q.trans ((aC.of r).trans u);refine q ⟨x,p,la,md,fe,[],[],[]⟩ H9 rfl rfl (λb hb nb=>?_) k0 ⟨⟨j,h9⟩,k2 _ _ e2 l,X _ _ e4 t,.nil,W _ _ e6 y,.nil,T _ _ e8 G,.nil,?_,λa sO=>by cases sO⟩
 ·simp only[JL.fp,Ys,Y3,hP] at hb;rcases hb with rfl|rfl|rfl|rfl|rfl;·exact absurd rfl nb
  ·exact B L l D
  ·exact B R t m
  ·exact B Q y i
  ·exact B t7 G g
 ·simp only[JL.fp,Y0,Ys,Y3,hP,iC,Mn,Jb,and_true];exact⟨⟨λz=>l z.symm,λz=>t z.symm,λz=>y z.symm,λz=>G z.symm⟩,⟨a1,a2,a3⟩,⟨a4,a5⟩,a6⟩
abbrev rY:Z ar:=["self","one","other"]
def Zt:aT rY rY (aO EV):=.a9
def Zbq(F:aR K "together" "Joins.together" EV f fd)(c:nC K C)(v:Bl mg):aI P w K mg I aP 1 f fd rY (G9 C):=by
 refine F.o Zt @λx A d t Q E s H u h=>?_;obtain⟨l,st,n,i,j,a,b,rfl,g,r,p,q⟩:=h;refine⟨_,(au (aL (fN cL (bh (iL K) (pF K 0) (pv 1)) (bh (iL K) (pF K 0) (pv 2))))),?_⟩;obtain⟨m,k⟩:=g.obj;have o:Q (.bl (decide (V.int (a:Int)=V.int (b:Int)))) H:=by
  have e:decide (V.int (a:Int)=V.int (b:Int))=decide (a=b):=by
   rw[We,eJ,eJ];exact⟨λz=>by have:=V.int.inj z;exact l9 this,λz=>by rw[z]⟩
  rwa[e]
 exact⟨_,rfl,l.J,C,m,_,_,rfl,k,c.cls,c.kX,rfl,_,rfl,l.ha,_,_,_,rfl,rfl,ak.of g.heads,pY r,_,rfl,l.J,C,m,_,_,rfl,k,c.cls,c.kX,rfl,_,rfl,l.ha,_,_,_,rfl,rfl,ak.of g.heads,pY p,rfl,o⟩
def eG{H:Hp}(h:H a=U o)(e:H b=U c)(d:o≠c):a≠b:=λz=>by
 grind
def ZeK(a:Z Nat)(k:Nat):eN (a++[k])=eN a++[.int (k:Int)]:=Yo
def tI{H:Hp}(h:H a=U o)(c:H b=aJ):b≠a:=λz=>by
 grind
theorem kQ{b a:Type}{F:b->a->Prop}{x:b}{y:a}(f:F x y){d:Z b}{c:Z a}(h:Paired F d c):Paired F (d++[x]) (c++[y]):=by
 induction h with
 |nil=>exact .cons f .nil
 |cons r t e=>exact .cons r e
theorem v_{e d:Type}{F:e->d->Prop}:∀{c:Z e} {i:Z d},Paired F c i->Paired (λa b=>F a b/\a∈c) c i
 |_,_,.nil=>.nil
 |_,_,.cons g t=>.cons ⟨g,Yk⟩ (L2.Paired.bL (v_ t) λ_ _ h=>⟨h.1,Yw _ h.2⟩)
def nE(h:H a=U (.dK b))(e:aZ b (.inl (k:Int))=o):fE H a (.int (k:Int)) o:=.inl ⟨b,.inl (k:Int),.inl h,rfl,e.symm⟩
abbrev xk:Z ar:=["self","one"]
def NA:aT ["self","one","lead"] xk (aO E4):=.a9
def Zcl(F:aR K "open_at" "Joins.open_at" E4 f fd)(b:nC K C)(bl:Bl mg):aI P w K mg I aP 2 f fd xk (yM C):=by
 refine F.o NA λs H T h=>?_;obtain⟨l,st,n,i,h,t,d,rfl,a,hi,R,hf,J,iR,q⟩:=h;refine⟨_,(aq (ig (i:=2) NA.nd rfl (kv rfl) (bh (iL K) (pF K 0) (pv 1))) (au (aL (iY (Zek (K:=K) rfl) rfl bl.Br Bg (aa (iZ (x:="section") (fr:=[("lead",2)]) (cl:=[("lead",s.heap.objs.size+1)]) rfl (.f_ ⟨rfl,trivial⟩ ⟨⟨rfl,.inl rfl,.inl rfl,rfl⟩,trivial⟩) (eS (K:=K) rfl (dD (bG T) (pF K 0) (bh (iL K) (pF K 0) (pv 1)) (λ_ _=>rfl))) (λ_ _ _ _=>kA) (λ_ _ _ _=>(bh (iT K) (pv 1) (pv 0)))) ag))))),?_⟩;obtain⟨o,g⟩:=a.obj;obtain⟨fa,WV,E,A⟩:=pP (f:=λv:Z Int=>HO.lst (v.map V.int)) a.free hf;obtain⟨c,m,Mw⟩:∃c,l.fO[i]?=U c/\H c=U (.tup (t.map V.int)):=by
  have W:=c7 a.lead;have eM:i<l.fO.length:=by exact W▸(Yl.mp R).1
  obtain⟨y,ey,u⟩:=fK a.lead (Yc eM)
  grind
 have Mx:d_ (l.fO.map V.ref) (i:Int)=U (.ref c):=iG (by rw[Yf,m];rfl);refine cC ?_;refine⟨_,rfl,l.J,C,o,_,_,rfl,g,b.cls,b.oF,rfl,_,rfl,l.la,_,_,_,rfl,rfl,ak.of a.jw,Mx,?_⟩;refine⟨_,rfl,l.J,C,o,_,_,rfl,g,b.cls,b.rN,rfl,_,rfl,l.J,C,o,_,_,rfl,g,b.cls,b.kX,rfl,_,rfl,l.ha,_,_,_,rfl,rfl,ak.of a.heads,pY hi,l.fd,_,rfl,nE a.frees E,fa,rfl,⟨_,ak.of A⟩,λD hD=>Zb3 (ak.of A) (by rw[Ya];exact m6 (hT iR (by decide))) hD (λv=>match v with|.int z=>.int (t.getD z.toNat 0)|_=>.ay) (λj v X r e Kt k=>?_) λr e h1=>?_⟩
 ·obtain⟨z,rfl,Q⟩:=oC X;have B:=J z (Yh Q);exact⟨_,rfl,_,rfl,c,_,_,_,rfl,rfl,aB.of (e _ _ Mw),oI B.1 B.2,k r (aj.refl _)⟩
 ·have u:r D=U (.lst ((d.map λz=>t.getD z.toNat 0).map V.int)):=by
   rw[h1,Y7,Y7];rfl
  exact⟨D,_,rfl,.inl (ak.of u),by rwa[Ya],λcR L G p H2 N g2 h2=>q p cR H2 (e.free N) (e.trans g2) L G h2⟩
abbrev eZ:Z ar:=["self"]
abbrev uv:Z ar:=["self","number"]
def NN:aT uv eZ (aO Gx):=.a9
theorem Zh0(F:aR K "add" "Joins.add" Gx f fd)(d:nC K C)(wB:HasFn P w K mg I 1 "still" ["size"] IP)(bl:Bl mg):aI P w K mg I aP 2 f fd eZ (Kz C):=by
 refine F.o NN λs H hr h=>?_;obtain⟨l,st,n,rfl,c,hn,lh,lm,lf,ll,nm,nf,q⟩:=h;refine⟨_,(aq (cy 1 NN.nd (dJ K bl (pF K 0))) (aq (cG (qa (K:=K) rfl (mJ kj l4 lU q0 (pF K 0) (aa (pv 1) ag)))) (aq (cG (qa (K:=K) rfl (mJ kj l4 lU q0 (pF K 0) (aa (aV wB hr (aa (pF K 0) ag)) ag)))) (aq (pS (bG hr) (pF K 0) (pv 1) (dP (aa (pv 1) ag))) (aq (pS (bG hr) (pF K 0) (pv 1) (fU (Z3 rfl) rfl bl.wL wz (aa (fU FX rfl bl.kB wj (aa (pF K 0) ag)) ag))) (au (aL (pv 1)))))))),?_⟩;have sz:(10000:Nat)<=sizeLine:=by rw[c4];decide
 obtain⟨A,ho⟩:=c.obj;have hl:(eN st.hd).length=st.hd.length:=Ya _;have pl1:=c7 c.lead;have My:=c7 c.mem;have DQ:=c7 c.free;have T:=c.nd;simp only[JL.fp,Y0,Ys,iC] at T;obtain⟨⟨x1,x2,x3,x4,x5⟩,⟨Q,N,y3,y4⟩,⟨z1,z2,z3⟩,⟨w1,w2⟩,v1,v2⟩:=T;have dl:∀{ks:Z Nat} {as:Z O},(bw ks as).length<=as.length:=λ{ks as}=>by unfold bw;rw[Ya,Je];exact zj _ _
 refine cC ?_;refine⟨_,rfl,l.J,C,A,_,_,rfl,ho,d.cls,d.kX,rfl,l.ha,_,rfl,.inl (ak.of c.heads),?_⟩;rw[hl];refine⟨_,rfl,l.J,C,A,_,_,rfl,ho,d.cls,d.kX,rfl,.inl ⟨rfl,_,ak.of c.heads⟩,_,rfl,l.ha,_,_,rfl,rfl,c.heads,by rw[hl];omega,λH1 v e1=>?_⟩;have o1:=v _ _ ho x1;have W:=v _ _ c.jw (λz=>Q z.symm);refine⟨_,rfl,l.J,C,A,_,_,rfl,o1,d.cls,d.oF,rfl,.inl ⟨rfl,_,ak.of W⟩,_,rfl,l.J,C,A,_,_,rfl,o1,d.cls,d.t6,rfl,n,rfl,hn,λt H2 nt k ht=>?_⟩;refine⟨l.la,_,_,rfl,rfl,k _ _ W,by rw[Ya];omega,λH3 u e3=>?_⟩;have o3:=u _ _ (k _ _ o1) x2;have m3:=u _ _ (k _ _ (v _ _ c.kH (λz=>N z.symm))) (λz=>z1 z.symm);refine⟨_,rfl,by show 1<=sizeLine;decide,λm H4 G j em=>?_⟩;have o4:=j _ _ o3;refine⟨_,rfl,l.J,C,A,_,_,rfl,o4,d.cls,d.v9,rfl,_,rfl,l.md,_,.inl (st.hd.length:Int),rfl,j _ _ m3,rfl,?_,λH5 g e5=>?_⟩
 ·have:=dl (ks:=st.mem.map (·.1)) (as:=l.hZ);omega
 have R:=g _ _ o4 x3;refine⟨_,rfl,l.J,C,A,_,_,rfl,R,d.cls,d.t6,rfl,(n:Int),rfl,λr B nr x er=>⟨r,n,rfl,er,hn,λfa H7 WU g7 ef=>?_⟩⟩;have DR:=x.trans g7;have f5:=g _ _ (j _ _ (u _ _ (k _ _ (v _ _ c.frees (λz=>y3 z.symm))) (λz=>z2 z.symm))) (λz=>w1 z.symm);refine⟨_,rfl,l.J,C,A,_,_,rfl,DR _ _ R,d.cls,d.rN,rfl,_,rfl,l.fd,_,.inl (st.hd.length:Int),rfl,DR _ _ f5,rfl,?_,λi b8 e8=>?_⟩
 ·have:=dl (ks:=st.fr.map (·.1)) (as:=l.cz);omega
 have keep:∀b o,H b=U o->b≠l.ha->b≠l.la->b≠l.md->b≠l.fd->i b=U o:=λb o e n1 n2 n3 n4=>b8 _ _ (DR _ _ (g _ _ (j _ _ (u _ _ (k _ _ (v _ _ e n1)) n2)) n3)) n4;rw[mj _ (Bk nm),A8 _ _ (by rw[Ya];exact k8 My)] at e5;rw[mj _ (Bk nf),A8 _ _ (by rw[Ya];exact k8 DQ)] at e8;have Mz:H m=aJ:=by
  cases e:H m with
  |none=>rfl
  |some o=>
   have hm1:m≠l.ha:=λz=>by rw[z,u _ _ (k _ _ e1) Q] at G;cases G
   have hm2:m≠l.la:=λz=>by rw[z,e3] at G;cases G
   rw[u _ _ (k _ _ (v _ _ e hm1)) hm2] at G;cases G
 have en:=c.ne Mz;have MA:fa∉l.fp/\fa≠m:=by
  have E:B fa=aJ:=WU;have h5:∀b o,H b=U o->b≠l.ha->b≠l.la->b≠l.md->B b=U o:=λb o e n1 n2 n3=>x _ _ (g _ _ (j _ _ (u _ _ (k _ _ (v _ _ e n1)) n2)) n3);have f1:B l.ha=U _:=x _ _ (g _ _ (j _ _ (u _ _ (k _ _ e1) Q)) N);have f2:B l.la=U _:=x _ _ (g _ _ (j _ _ e3) z1);have f3:B l.md=U _:=x _ _ e5;have f4:B m=U _:=x _ _ (g _ _ em (λz=>en (by rw[z];simp[JL.fp])));have f5':B l.fd=U _:=x _ _ f5;have f6:B l.J=U _:=x _ _ R;refine⟨λz=>?_,tI f4 E⟩;simp only[JL.fp,Ys] at z;rcases z with z|z|z|z|z|z;·exact tI f6 E z
  ·exact tI f1 E z
  ·exact tI f2 E z
  ·exact tI f3 E z
  ·exact tI f5' E z
  ·obtain⟨y,ey⟩:=yC c.mem z;refine tI (h5 _ _ ey ?_ ?_ ?_) E rfl;·exact λq=>y4 (by rw[←q];exact z)
   ·exact λq=>z3 (by rw[←q];exact z)
   ·exact λq=>w2 (by rw[←q];exact z)
 have kt:∀a∈l.fO,∀D:Z Int,H a=U (.tup (D.map V.int))->i a=U (.tup (D.map V.int)):=λa _ D e=>keep a _ e (eG e c.heads (λz=>by cases z)) (eG e c.jw (λz=>by cases z)) (eG e c.kH (λz=>by cases z)) (eG e c.frees (λz=>by cases z));have J:∀b o,H5 b=U o->b≠l.fd->i b=U o:=λb o e n=>b8 _ _ (DR _ _ e) n;have nmd:m≠l.md:=λz=>en (by rw[z];simp[JL.fp]);have nmf:m≠l.fd:=λz=>en (by rw[z];simp[JL.fp]);have ntf:t≠l.fd:=λz=>by
  have:=v _ _ c.frees (λz=>y3 z.symm);rw[←z,nt] at this;cases this
 have MB:t≠l.la:=λz=>by rw[←z,nt] at W;cases W
 have WW:t≠l.md:=λz=>by
  have:=v _ _ c.kH (λz=>N z.symm);rw[←z,nt] at this;cases this
 refine⟨_,rfl,q ⟨l.J,l.ha,l.la,l.md,l.fd,l.fO++[t],l.hZ++[m],l.cz++[fa]⟩ i rfl (λb o e L=>?_) (λb X=>?_) ⟨⟨A,J _ _ R x4⟩,?_,?_,?_,?_,?_,?_,?_,?_,?_⟩⟩
 ·simp only[JL.fp,Ys,iC] at L;exact keep b o e L.2.1 L.2.2.1 L.2.2.2.1 L.2.2.2.2.1
 ·simp only[JL.fp,Ys,Yv,Y3,hP] at X⊢;rcases X with h|h|h|h|h|h|h;·exact .inl (.inl h)
  ·exact .inl (.inr (.inl h))
  ·exact .inl (.inr (.inr (.inl h)))
  ·exact .inl (.inr (.inr (.inr (.inl h))))
  ·exact .inl (.inr (.inr (.inr (.inr (.inl h)))))
  ·exact .inl (.inr (.inr (.inr (.inr (.inr h)))))
  ·rw[h];exact .inr Mz
 ·show i l.ha=U (.lst (eN (st.hd++[st.hd.length])));rw[J _ _ (g _ _ (j _ _ (u _ _ (k _ _ e1) Q)) N) y3,ZeK]
 ·show i l.la=U (.lst ((l.fO++[t]).map V.ref));rw[J _ _ (g _ _ (j _ _ e3) z1) z2,Yo];rfl
 ·exact kQ (F:=λa (D:Z Int)=>i a=U (.tup (D.map V.int))) (J _ _ (g _ _ (j _ _ (u _ _ ht MB)) WW) ntf) (L2.Paired.bL (v_ c.lead) λa D h=>kt a h.2 D h.1)
 ·show i l.md=U (.dK (bw ((st.mem++[(st.hd.length,[st.hd.length])]).map (·.1)) (l.hZ++[m])));rw[J _ _ e5 w1,Yo];rfl
 ·refine kQ (F:=λa (p:Nat×Z Nat)=>i a=U (.lst (eN p.2))) (J _ _ (g _ _ em nmd) nmf) (L2.Paired.bL (v_ c.mem) λa p h=>keep a _ h.1 ?_ ?_ ?_ ?_);·exact λz=>y4 (by rw[←z];exact h.2)
  ·exact λz=>z3 (by rw[←z];exact h.2)
  ·exact λz=>w2 (by rw[←z];exact h.2)
  ·exact λz=>v1 (by rw[←z];exact h.2)
 ·show i l.fd=U (.dK (bw ((st.fr++[(st.hd.length,bH n)]).map (·.1)) (l.cz++[fa])));rw[e8,Yo];rfl
 ·have nfd:fa≠l.fd:=λz=>MA.1 (by rw[z];simp[JL.fp]);refine kQ (F:=λa (p:Nat×Z Int)=>i a=U (.lst (p.2.map V.int))) (b8 _ _ ef nfd) (L2.Paired.bL (v_ c.free) λa p h=>?_);have no:=c.out a h.2;simp only[JL.fp,Ys,iC] at no;exact keep a _ h.1 no.2.1 no.2.2.1 no.2.2.2.1 no.2.2.2.2.1
 ·have T:=c.nd;have e0:JL.fp ⟨l.J,l.ha,l.la,l.md,l.fd,l.fO++[t],l.hZ++[m],l.cz++[fa]⟩=l.fp++[m]:=rfl;rw[e0,Wr];refine⟨T,QS,λa ha b X=>?_⟩;have eb:b=m:=by simpa using X
  intro z;rw[z,eb] at ha;exact en ha
 ·intro a ha;have e0:JL.fp ⟨l.J,l.ha,l.la,l.md,l.fd,l.fO++[t],l.hZ++[m],l.cz++[fa]⟩=l.fp++[m]:=rfl;rw[e0,Yv];have sO:a∈l.cz++[fa]:=ha;rcases Yv.mp sO with h|h
  ·rintro(z|z);·exact c.out a h z
   ·have e:a=m:=by simpa using z
    obtain⟨y,ey⟩:=yC c.free h;rw[e,Mz] at ey;cases ey
  ·have e:a=fa:=by simpa using h
   rw[e];rintro(z|z);·exact MA.1 z
   ·exact MA.2 (by simpa using z)
def Zcm{K:ah}{a:O}{ns:Z Int}{t:TT}{u:TE}{r:St}{D:O}{H:Hp}{Q:VK}(L:ak K H a (ns.map V.int))(R:ns.length<=1000)(x:H D=aJ)(p:Int->cm)(g:Int->V)
  (k:∀z∈ns,∀d,aj H d->∀(B:VK) (E:Hp->Prop),(p z=af->∀h,aj d h->B (g z) h)->(p z=a7->∀h,aj d h->E h)->t (U (.int z)::r) d λc F=>if c=af then u (U (.int z)::r) F B else E F)
  (P:∀s,aj H s->s D=U (.lst ((ns.filter p).map g))->Q (.ref D) s):jv (j_ K a) t u r D H Q:=by
 refine Hy (λi j d=>i<=ns.length/\aj H d/\d D=U (.lst j)/\j=((ns.take i).filter p).map g) ⟨Yx _,cK x _,aQ,rfl⟩ (λi j d _ ⟨_,m,_,_⟩=>m.seq L) ?_ ?_
 ·rintro i v j d N ⟨_,m,y,e⟩;obtain⟨z,rfl,n⟩:=oC N;have A:=(Yl.mp n).1;have G:j.length<sizeLine:=by
   have:=Wn p (ns.take i);rw[Y8] at this;rw[e,Ya,c4];omega
  refine k z (Yh n) d m _ _ (λJ h l=>⟨l _ _ y,G,A,λb o q=>?_,aQ,?_⟩) (λJ h l=>⟨A,m.trans l,l _ _ y,?_⟩)
  ·rw[aA (cA q x)];exact l _ _ (m _ _ q)
  ·rw[e,Y1,n,Wm,Yo]
   simp_all
  ·rw[e,Y1,n,Wm,Yo]
   simp_all
 ·simp_all
theorem wC(x:Int):∀a:Z Int,gI (.int x) (a.map V.int)=decide (x∈a)
 |[]=>rfl
 |s::a=>by
  have b:=wC x a;unfold gI at b⊢;rw[Wq,Jh,b];show((s==x)||decide (x∈a))=_
  grind
def yN(a:Z Int):(a.map V.int).all jS=af:=by
 rw[Mi,Wv];intro p _;rfl
def jY(a:Z Nat)(b:Z O)(h:Nat)(c:O):Z O:=(a.zip b).map λp=>if p.1=h then c else p.2
theorem O5(h:Nat)(a':O):∀{b:Z Nat} {as:Z O},b.length=as.length->(bw b as).map (λc=>if c.1=(.inl (h:Int):Key) then(c.1,V.ref a') else c)=bw b (jY b as h a')
 |[],[],_=>rfl
 |k::b,a::as,e=>by
  have d:=O5 h a' (by simpa using e);have j:bw (k::b) (a::as)=(Sum.inl (k:Int),V.ref a)::bw b as:=rfl;have i:jY (k::b) (a::as) h a'=(if k=h then a' else a)::jY b as h a':=rfl;have g:bw (k::b) ((if k=h then a' else a)::jY b as h a')=(Sum.inl (k:Int),V.ref (if k=h then a' else a))::bw b (jY b as h a'):=rfl
  grind
 |[],_::_,e=>rfl
 |_::_,[],e=>rfl
def ZeL{h:Nat}(e:b.length=as.length)(d:aZ (bw b as) (.inl (h:Int))=U (.ref a)):putK (bw b as) (.inl (h:Int)) (.ref c)=bw b (jY b as h c):=by
 unfold putK;rw[bS (by rw[wk,d];rfl)];exact O5 h c e
def fG{a:Type}(h:Nat)(v:a)(b:Z (Nat×a)):Z (Nat×a):=b.map λp=>if p.1=h then(p.1,v) else p
theorem tM{b:Type}(h:Nat)(v:b):∀a:Z (Nat×b),(fG h v a).map (·.1)=a.map (·.1)
 |[]=>rfl
 |p::a=>by
  have c:=tM h v a;show(if p.1=h then(p.1,v) else p).1::(fG h v a).map (·.1)=_
  grind
theorem Zcn{v:α}(g:∀k,G m (k,v)):∀{d:Z O} {c:Z (Nat×α)},Paired F d c->(∀a p,F a p->a∈d->G a p)->Paired G (jY (c.map (·.1)) d h m) (fG h v c):=by
 intro d c e;induction e with
 |nil=>intro _;exact .nil
 |@cons a p d c f t i=>
  intro k;refine .cons ?_ (i λb q l j=>k b q l (Yw _ j))
  grind
theorem P9{h:Nat}{e b:O}:∀{d:Z Nat} {c:Z O},b∈jY d c h e->b=e\/b∈c
 |[],_,m=>by unfold jY at m;simp at m
 |_::_,[],m=>by unfold jY at m;simp at m
 |k::d,a::c,m=>by
  rcases Ys.mp m with z|z;·grind
  ·rcases P9 z with w|w;·exact .inl w
   ·grind
def JS.mN(a:JS)(h:Nat)(v:Z Int):JS:={a with fr:=fG h v a.fr}
structure uw(st:JS)(i h:Nat)(t gV:Z Int):Prop where
 hd:st.hd[i]?=U h
 ld:st.ld[i]?=U t
 fr:st.fr.lookup h=U gV
 gL:∀z∈gV,0<=z/\z<t.length
 fZ:gV.length<64
 dist:(gV.map λz=>t.getD z.toNat 0).Nodup
inductive Iq(K:ah)(C:O)(g:Z V)(H:Hp)(Q:VK)(E:XK):Prop
 |mk (l:JL) (st:JS) (n i h:Nat) (t a d:Z Int) (e:O) (q:g=[.ref l.J,.int (i:Int),.ref e]) (p:cX H C n l st) (m:uw st i h t a) (o:st.fr.length<1000) (k:ak K H e (d.map V.int)) (j:∀(b:JL) (c:Hp),b.J=l.J->b.fp=l.fp->Out l.fp H c->cX c C n b (st.mN h (a.filter λz=>decide (t.getD z.toNat 0∈d)))->Q .ay c)
abbrev CY:Z ar:=["self","one","sections"]
def E_:aT ["self","one","sections","lead","head"] CY (aO Fn):=.a9
def Zdq(F:aR K "narrow" "Joins.narrow" Fn f fd)(g:nC K C)(bl:Bl mg):aI P w K mg I aP 2 f fd CY (Iq K C):=by
 refine F.o E_ λs H hr h=>?_;obtain⟨l,st,n,i,h,t,r,B,sl,rfl,d,one,lf,G,q⟩:=h;refine⟨_,(aq (ig (i:=3) E_.nd rfl (kv rfl) (bh (iL K) (pF K 0) (pv 1))) (aq (cy 4 E_.nd (bh (iL K) (pF K 0) (pv 1))) (au (pS (bG hr) (pF K 0) (pv 4) (iZ (x:="section") (fr:=[("sections",2),("lead",3)]) (cl:=[("sections",s.heap.objs.size+1),("lead",s.heap.objs.size+1+1)]) rfl (.f_ ⟨rfl,⟨rfl,trivial⟩⟩ ⟨⟨rfl,.inl rfl,.inl rfl,rfl⟩,⟨⟨rfl,.inl rfl,.inl rfl,rfl⟩,trivial⟩⟩) (eS (K:=K) rfl (dD (bG hr) (pF K 0) (pv 4) (λ_ _=>rfl))) (λ_ _ _ _=>wy (ic (mZ (K:=K) rfl) (bh (iT K) (pv 2) (pv 0)) (pv 1) QU)) (λ_ _ _ _=>(pv 0))))))),?_⟩;have sz:(10000:Nat)<=sizeLine:=by rw[c4];decide
 obtain⟨A,u⟩:=d.obj;obtain⟨fa,WV,T,df⟩:=pP (f:=λv:Z Int=>HO.lst (v.map V.int)) d.free one.fr;obtain⟨m,J,Mw⟩:∃m,l.fO[i]?=U m/\H m=U (.tup (t.map V.int)):=by
  have hl:=c7 d.lead;have eM:i<l.fO.length:=by rw[hl];exact(Yl.mp one.ld).1
  obtain⟨y,ey,hy⟩:=fK d.lead (Yc eM);rw[one.ld] at ey;cases ey;exact⟨_,Yc eM,hy⟩
 have Mx:d_ (l.fO.map V.ref) (i:Int)=U (.ref m):=iG (by rw[Yf,J];rfl);have DQ:=c7 d.free;refine cC ?_;refine⟨_,rfl,l.J,C,A,_,_,rfl,u,g.cls,g.oF,rfl,_,rfl,l.la,_,_,_,rfl,rfl,ak.of d.jw,Mx,?_⟩;refine cC ?_;refine⟨_,rfl,l.J,C,A,_,_,rfl,u,g.cls,g.kX,rfl,_,rfl,l.ha,_,_,_,rfl,rfl,ak.of d.heads,pY one.hd,?_⟩;refine⟨_,rfl,l.J,C,A,_,_,rfl,u,g.cls,g.rN,rfl,_,rfl,l.fd,_,rfl,nE d.frees T,fa,rfl,⟨_,ak.of df⟩,λD hD=>Zcm (ns:=r) (ak.of df) (by have:=one.fZ;exact m6 (hT this (by decide))) hD (λz=>decide (t.getD z.toNat 0∈B)) V.int (λz hz Q j Kt Kf kt kf=>?_) λQ j h1=>?_⟩
 ·have bz:=one.gL z hz;refine⟨_,rfl,_,rfl,m,_,_,_,rfl,rfl,aB.of (j _ _ Mw),oI bz.1 bz.2,_,rfl,sl,_,rfl,.inl (j.seq G),rfl,yN B,_,rfl,?_⟩;rw[bR Yi,wC];refine bF (λc=>?_) (λc=>?_);·exact⟨_,rfl,kt c Q (aj.refl _)⟩
  ·exact kf (by cases e:decide (t.getD z.toNat 0∈B) with|true=>exact absurd e c|false=>rfl) Q (aj.refl _)
 ·refine⟨_,rfl,l.J,C,A,_,_,rfl,j _ _ u,g.cls,g.rN,rfl,_,rfl,l.fd,_,.inl (h:Int),rfl,j _ _ d.frees,rfl,?_,λN L e2=>?_⟩
  ·unfold bw;rw[Ya,Je,Ya];exact fI (x6 _ _) (hT lf (by decide))
  rw[ZeL (by rw[Ya];exact DQ.symm) T] at e2;have W:=d.nd;have R:l.fd∈l.fp:=by simp[JL.fp]
  simp only[JL.fp,Y0,Ys,iC] at W;obtain⟨⟨x1,x2,x3,x4,x5⟩,⟨y1,y2,y3,y4⟩,⟨z1,z2,z3⟩,⟨w1,w2⟩,v1,v2⟩:=W;have keep:∀b o,H b=U o->b≠l.fd->N b=U o:=λb o e nb=>L _ _ (j _ _ e) nb;have X:D∉l.fp:=d.ne hD;have E:D≠l.fd:=λz=>X (by rw[z];exact R);refine q ⟨l.J,l.ha,l.la,l.md,l.fd,l.fO,l.hZ,jY (st.fr.map (·.1)) l.cz h D⟩ N rfl rfl ((Out.of j).trans (Out.bar L R)) ⟨⟨A,keep _ _ u x4⟩,keep _ _ d.heads y3,keep _ _ d.jw z2,L2.Paired.bL d.lead λa xs e=>keep a _ e (eG e d.frees (λz=>by cases z)),keep _ _ d.kH w1,L2.Paired.bL (v_ d.mem) λa p e=>keep a _ e.1 (λz=>v1 (by rw[←z];exact e.2)),?_,?_,d.nd,λa ha=>?_⟩
  ·show N l.fd=U (.dK (bw ((fG h _ st.fr).map (·.1)) _));rw[tM];exact e2
  ·exact Zcn (λk=>L _ _ h1 E) d.free λa p e ma=>keep a _ e (λz=>d.out a ma (by rw[z];exact R))
  ·rcases P9 ha with rfl|z;·exact X
   ·exact d.out a z
inductive TU(C:O)(e:Z V)(H:Hp)(Q:VK)(E:XK):Prop
 |mk (l:JL) (st:JS) (n i h:Nat) (t b:Z Int) (a:Int) (p:e=[.ref l.J,.int (i:Int),.int a]) (o:cX H C n l st) (k:uw st i h t b) (m:st.fr.length<1000) (j:(a∈b.map (λz=>t.getD z.toNat 0)->∀(d:JL) (c:Hp),d.J=l.J->d.fp=l.fp->Out l.fp H c->cX c C n d (st.mN h (b.filter λz=>decide (t.getD z.toNat 0∈[a])))->Q (.bl af) c)) (g:(a∉b.map (λz=>t.getD z.toNat 0)->∀c,aj H c->Q (.bl a7) c))
abbrev CZ:Z ar:=["self","one","section"]
def ZaM:aT CZ CZ (aO Gz):=.a9
def Zh1(F:aR K "say" "Joins.say" Gz f fd)(D:bY P w K mg I 2 "open_at" C xk (yM C))(q:bY P w K mg I 2 "narrow" C CY (Iq K C))(bl:Bl mg):aI P w K mg I aP 3 f fd CZ (TU C):=by
 refine F.o ZaM λs H j h=>?_;obtain⟨l,st,n,i,h,t,b,a,rfl,e,one,A,x,v⟩:=h;refine⟨_,(aq (aW (ic (Cc rfl) (pv 2) (cV D j (by decide) (pv 0) (aa (pv 1) ag)) QU) (au (aL i8)) a_) (aq (cG (cV q j (by decide) (pv 0) (aa (pv 1) (aa (dP (aa (pv 2) ag)) ag)))) (au (aL i8)))),?_⟩;obtain⟨o,k⟩:=e.obj;refine⟨_,rfl,_,rfl,l.J,o,_,rfl,k,rfl,_,rfl,l,st,n,i,h,t,b,rfl,e,one.hd,one.ld,one.fr,one.gL,one.fZ,λp ns R W d g T L=>⟨p,_,rfl,.inl (ak.of L),rfl,yN ns,_,rfl,?_⟩⟩;rw[bS rfl,wC];refine bF (λc=>?_) (λc=>aX ?_)
 ·refine v (λz=>?_) R d;rw[dg (g.symm.subset z)] at c;cases c
 ·have u:a∈ns:=by
   by_cases z:a∈ns;·exact z
   ·rw[g_ z] at c;exact absurd rfl c
  refine⟨_,rfl,l.J,o,_,rfl,d _ _ k,rfl,_,rfl,_,rfl,by show 1<=sizeLine;rw[c4];decide,λr H2 X m N=>?_⟩;exact⟨l,st,n,i,h,t,b,[a],r,rfl,(e.same d).same m,one,A,ak.of N,λB Q G E y J=>x (g.subset u) B Q G E ((Out.of (d.trans m)).trans y) J⟩
def eR(a:Z Nat)(b:Z O)(h:Nat):Z O:=((a.zip b).filter λp=>decide (p.1≠h)).map (·.2)
def dh{a:Type}(h:Nat)(b:Z (Nat×a)):Z (Nat×a):=b.filter λp=>decide (p.1≠h)
theorem A9(h:Nat):∀{b:Z Nat} {as:Z O},b.length=as.length->iM (bw b as) (.inl (h:Int))=bw (b.filter λk=>decide (k≠h)) (eR b as h)
 |[],[],_=>rfl
 |k::b,a::as,e=>by
  have c:=A9 h (by simpa using e);have i:bw (k::b) (a::as)=(Sum.inl (k:Int),V.ref a)::bw b as:=rfl;unfold iM at c⊢;rw[i,Ww,Ww];have g:eR (k::b) (a::as) h=(if decide (k≠h)=af then(a::eR b as h) else eR b as h):=by
   unfold eR;rw[WX,Ww];split<;>rfl
  rw[g,c];by_cases z:k=h;·simp_all
  ·have d:¬((Sum.inl (k:Int):Key)=.inl (h:Int)):=λw=>z (by have:=xP w;exact l9 this);rw[bS (by simp[d]),bS (by simp[z]),bS (by simp[z])];rfl
 |[],_::_,e=>rfl
 |_::_,[],e=>by simp at e
theorem pT{b:Type}(h:Nat):∀a:Z (Nat×b),(dh h a).map (·.1)=(a.map (·.1)).filter λk=>decide (k≠h)
 |[]=>rfl
 |p::a=>by
  have c:=pT h a;unfold dh at c⊢
  grind
theorem G_:∀{d:Z O} {c:Z (Nat×α)},Paired F d c->(∀a p,F a p->a∈d->p.1≠h->G a p)->Paired G (eR (c.map (·.1)) d h) (dh h c):=by
 intro d c e;induction e with
 |nil=>intro _;exact .nil
 |@cons a p d c f t i=>
  intro k;have n:eR ((p::c).map (·.1)) (a::d) h=(if decide (p.1≠h)=af then(a::eR (c.map (·.1)) d h) else eR (c.map (·.1)) d h):=by
   unfold eR;rw[Wq,WX,Ww];split<;>rfl
  have m:dh h (p::c)=(if decide (p.1≠h)=af then(p::dh h c) else dh h c):=by
   unfold dh
   grind
  rw[n,m];by_cases z:p.1=h;·simp_all
  ·rw[bS (by simp[z]),bS (by simp[z])];exact .cons (k a p f Yk z) (i λb q l j g=>k b q l (Yw _ j) g)
theorem Bw{h:Nat}:∀{ks:Z Nat} {as:Z O},(eR ks as h).Sublist as
 |[],as=>by
  unfold eR;simp_all
 |_::_,[]=>by
  unfold eR;simp_all
 |k::ks,a::as=>by
  have b:=Bw (h:=h) (ks:=ks) (as:=as);have c:eR (k::ks) (a::as) h=(if decide (k≠h)=af then(a::eR ks as h) else eR ks as h):=by
   unfold eR;rw[WX,Ww];split<;>rfl
  grind
theorem vV{a:Type}{h k:Nat}(b:k≠h):∀{ps:Z (Nat×a)},(dh h ps).lookup k=ps.lookup k
 |[]=>rfl
 |p::ps=>by
  have c:=vV b (ps:=ps);have d:dh h (p::ps)=(if decide (p.1≠h)=af then(p::dh h ps) else dh h ps):=by
   unfold dh
   grind
  grind
theorem Zco{i:Type}{F G:O->Nat×i->Prop}{h:Nat}{m:O}{v:i}(j:∀k,G m (k,v)):∀{as:Z O} {ps:Z (Nat×i)},Paired F as ps->as.Nodup->(ps.map (·.1)).Nodup->aZ (bw (ps.map (·.1)) as) (.inl (h:Int))=U (.ref m)->(∀a p,F a p->a∈as->a≠m->G a p)->Paired G as (fG h v ps):=by
 intro as ps s;induction s with
 |nil=>intro _ _ e _;cases e
 |@cons a p as ps f t o=>
  intro d l e k;have g:bw ((p::ps).map (·.1)) (a::as)=(Sum.inl (p.1:Int),V.ref a)::bw (ps.map (·.1)) as:=rfl;have E:fG h v (p::ps)=(if p.1=h then(p.1,v) else p)::fG h v ps:=rfl;rw[Y0] at d;rw[Wq,Y0] at l;rw[E];by_cases z:p.1=h
  ·rw[g,gZ (by rw[z])] at e;have r:=V.ref.inj (Ym e);have same:fG h v ps=ps:=by
    unfold fG;refine(Wo λq A=>?_).trans (List.map_id _);rw[bR λw=>l.1 (by rw[z,←w];exact Ye.mpr ⟨q,A,rfl⟩)];rfl
   rw[bS z,same,r];refine .cons (j p.1) (L2.Paired.bL (v_ t) λb q c=>k b q c.1 (Yw _ c.2) λw=>d.1 (by rw[r,←w];exact c.2))
  ·rw[g,gk (p:=((Sum.inl (p.1:Int):Key),V.ref a)) (λw=>z (by have:=xP w;exact l9 this))] at e;rw[bR z];have H:a≠m:=λw=>by
    have:∀{n:Z Nat} {bs:Z O},aZ (bw n bs) (.inl (h:Int))=U (.ref m)->m∈bs:=λ{n}=>by
     induction n with
     |nil=>intro bs q;unfold bw at q;rw[List.zip_nil_left] at q;cases q
     |cons x xs o=>
      intro bs q;cases bs with
      |nil=>unfold bw at q;rw[JG] at q;cases q
      |cons b bs=>
       have g:bw (x::xs) (b::bs)=(Sum.inl (x:Int),V.ref b)::bw xs bs:=rfl;rw[g] at q;by_cases y:x=h
       ·rw[gZ (by rw[y])] at q;have D:=V.ref.inj (Ym q);rw[D];exact Yk
       ·rw[gk (λw=>y (by have:=xP w;exact l9 this))] at q;exact Yw _ (o q)
    exact d.1 (by exact w▸this e)
   exact .cons (k a p f Yk H) (o d.2 l.2 e λb q B c u=>k b q B (Yw _ c) u)
def qL(b:Z Int)(a:Z (Z Int))(i:Nat):Z (Z Int):=a.set i (bQ (a.getD i []) b)
def jQ(b a:Z Int):(bQ b a).length=a.length:=by unfold bQ;rw[Ya]
def Zh2(j:∀x∈xs,0<=x/\x<n)(d:∀y∈a,0<=y/\y<xs.length):∀z∈bQ xs a,0<=z/\z<n:=λz c=>by
 obtain⟨y,b,rfl⟩:=Ye.mp c;obtain⟨i,h⟩:=d y b;have g:y.toNat<xs.length:=QO
 have e:xs.getD y.toNat 0=xs[y.toNat]:=by rw[Yg,Yc g];rfl
 simp_all
def kY(c:Nat)(a:Z Nat)(b:Z Nat):Z Nat:=a.foldl (λacc i=>acc.set i c) b
def iN(c:Z Int)(a:Z Nat)(b:Z (Z Int)):Z (Z Int):=a.foldl (qL c) b
def JS.mv(a:JS)(d c:Nat)(e b:Z Nat)(g:Z Int):JS:=⟨kY d b a.hd,iN g b a.ld,fG d (e++b) (dh c a.mem),dh c a.fr⟩
inductive SA(C:O)(r:Z V)(H:Hp)(Q:VK)(E:XK):Prop
 |mk (l:JL) (st:JS) (n a b d h:Nat) (q p e s:Z Int) (o:O) (g j:Z Nat) (X:r=[.ref l.J,.int (a:Int),.int (b:Int),.ref o]) (W:cX H C n l st) (R:H o=U (.tup (e.map V.int))) (T:n<=8) (P:e.length=n) (N:full e=af) (L:st.hd[a]?=U d) (J:st.hd[b]?=U h) (G:st.ld[a]?=U q) (F:st.ld[b]?=U p) (K_:(∀t∈st.ld,full t=af/\t.length=n)) (UO:st.ld.length=st.hd.length) (D:st.mem.lookup d=U g) (B:st.mem.lookup h=U j) (A:st.fr.lookup d=U s) (z:d≠h) (y:(∀i∈g,i<st.hd.length)) (x:g.length+j.length<=1000) (v:(st.mem.map (·.1)).Nodup) (u:∀(k:JL) (m:Hp),k.J=l.J->(∀c∈k.fp,c∈l.fp)->Out l.fp H m->cX m C n k (st.mv h d j g (bQ (inv q) (bQ e p)))->Q .ay m)
theorem yo{a d:Type}{g:Z a->d->Z a}(e:∀acc i,(g acc i).length=acc.length):∀(c:Z d) (b:Z a),(c.foldl g b).length=b.length
 |[],_=>rfl
 |i::c,b=>by
  rw[List.foldl_cons,yo e c,e]
def Ot{a:Z β}(h:a[j]?=U i)(b:Z α):(a.take (j+1)).foldl g b=g ((a.take j).foldl g b) i:=by
 rw[Y1,h,List.foldl_append];rfl
def Zgc(a:Z Nat)(i k:Nat):(eN a).set i (.int (k:Int))=eN (a.set i k):=by
 simp_all
theorem Ou{b a:Type}{F:b->a->Prop}{x:b}{y:a}(f:F x y):∀{d:Z b} {c:Z a} (i:Nat),Paired F d c->Paired F (d.set i x) (c.set i y)
 |_,_,_,.nil=>.nil
 |_,_,0,.cons _ t=>.cons f t
 |_,_,i+1,.cons g t=>.cons g (Ou f i t)
def rq(g:full xs=af)(d:full a=af)(e:xs.length=a.length):full (bQ xs a)=af:=by
 have c:(bQ xs a).Perm ((bH a.length).map λx=>xs.getD x.toNat 0):=(rf d).map _;have h:((bH a.length).map λx=>xs.getD x.toNat 0)=xs:=by
  refine Wh λi=>?_;rw[Yf];by_cases b:i<a.length
  ·rw[ny b]
   simp_all
  ·rw[Y4 (by rw[fS];exact gM b),Y4 (dI (mD e) (gM b))];rfl
 rw[h] at c;exact tQ (c.trans (rf g))
inductive KA(k:Hp)(l:JL)(j:Z Nat)(d:Z (Z Int))(n:Nat)(h:bq V->St)(g:St)(b:Hp):Prop
 |mk (i:Z O) (p:bq V) (v:b l.ha=some (.lst (eN j))) (u:b l.la=some (.lst (i.map V.ref))) (s:Paired (λa (m:Z Int)=>b a=U (.tup (m.map V.int))) i d) (r:∀t∈d,full t=af/\t.length=n) (q:∀c o,k c=U o->c≠l.ha->c≠l.la->b c=U o) (e:g=h p):KA k l j d n h g b
def UP(l:JL)(a b i j:Int)(c e d h:O)(g:bq V):St:=[U (.ref l.J),U (.int a),U (.int b),U (.ref c),U (.int i),U (.int j),U (.ref e),U (.ref d),U (.ref h),g]
abbrev La:Z ar:=["self","mover","stayer","turn"]
def tF:aT ["self","mover","stayer","turn","head","old_head","to_mover","to_old_head","moved","number"] La (aO F2):=.a9
theorem Zgd(F:aR K "move" "Joins.move" F2 f fd)(r:nC K C)(q5:HasFn P w K mg I 1 "followed" o_ (Kx K))(pL:HasFn P w K mg I 1 "turned_back" pd CS)(bl:Bl mg):aI P w K mg I aP 2 f fd La (SA C):=by
 refine F.o tF λs H hr h=>?_;obtain⟨l,st,n,a,b,A,hb,ta,tb,tn,fm,tu,g,mb,rfl,d,hu,n8,tl,ft,hA,hB,lA,lB,fl,ll,mA,mB,fA,neq,min,lm,ndk,q⟩:=h;refine⟨_,(aq (cy 4 tF.nd (bh (iL K) (pF K 0) (pv 2))) (aq (cy 5 tF.nd (bh (iL K) (pF K 0) (pv 1))) (aq (cy 6 tF.nd (aV q5 hr (aa (bh (iL K) (pF K 0) (pv 2)) (aa (pv 3) ag)))) (aq (cy 7 tF.nd (aV q5 hr (aa (pv 6) (aa (aV pL hr (aa (bh (iL K) (pF K 0) (pv 1)) ag)) ag)))) (aq (cy 8 tF.nd (OX (pF K 0) (pv 5) ⟨rfl,rfl,rfl,rfl⟩)) (aq (cG (OX (pF K 0) (pv 5) ⟨rfl,rfl,rfl,rfl⟩)) (aq (gm hI rfl (eS (K:=K) rfl (pv 8)) (bI 9 tF.nd) (aq (QM (pF K 0) (pv 9) OU (pv 4)) (au (QM (pF K 0) (pv 9) OU (aV q5 hr (aa (pv 7) (aa (bh (iL K) (pF K 0) (pv 9)) ag))))))) (au (cG (qa (K:=K) rfl (mJ kj PySem.F.slot_list_extend PySem.F.type_list_extend Zb4 (dD (bG hr) (pF K 0) (pv 4) (λ_ _=>rfl)) (aa (pv 8) ag)))))))))))),?_⟩;have sz:(10000:Nat)<=sizeLine:=by rw[c4];decide
 obtain⟨L,ho⟩:=d.obj;have zh:∀{i:Nat} {t:Z Int},st.ld[i]?=U t->∃x,l.fO[i]?=U x/\H x=U (.tup (t.map V.int)):=λ{i t} ht=>by
  have hl:=c7 d.lead;have eM:i<l.fO.length:=by rw[hl];exact(Yl.mp ht).1
  obtain⟨y,ey,hy⟩:=fK d.lead (Yc eM);rw[ht] at ey;cases ey;exact⟨_,Yc eM,hy⟩
 obtain⟨xa,exa,MC⟩:=zh lA;obtain⟨xb,exb,MD⟩:=zh lB;have ata:d_ (l.fO.map V.ref) (a:Int)=U (.ref xa):=iG (by rw[Yf,exa];rfl);have atb:d_ (l.fO.map V.ref) (b:Int)=U (.ref xb):=iG (by rw[Yf,exb];rfl);obtain⟨WY,lta⟩:=fl ta (Yh lA);obtain⟨ME,MF⟩:=fl tb (Yh lB);obtain⟨mo,An,vmo,WZ⟩:=pP (f:=λv:Z Nat=>HO.lst (eN v)) d.mem mA;obtain⟨ms,mms,vms,hms⟩:=pP (f:=λv:Z Nat=>HO.lst (eN v)) d.mem mB;obtain⟨fo,mfo,vfo,hfo⟩:=pP (f:=λv:Z Int=>HO.lst (v.map V.int)) d.free fA;have My:=c7 d.mem;have DQ:=c7 d.free;have nd:=d.nd;have DS:∀{x:O},x∈l.hZ->x∈l.fp:=λ{x} h=>by simp[JL.fp,h]
 simp only[JL.fp,Y0,Ys,iC] at nd;obtain⟨⟨x1,x2,x3,x4,x5⟩,⟨y1,y2,y3,y4⟩,⟨z1,z2,z3⟩,⟨w1,w2⟩,v1,v2⟩:=nd;refine cC ?_;refine⟨_,rfl,l.J,C,L,_,_,rfl,ho,r.cls,r.kX,rfl,_,rfl,l.ha,_,_,_,rfl,rfl,ak.of d.heads,pY hB,?_⟩;refine cC ?_;refine⟨_,rfl,l.J,C,L,_,_,rfl,ho,r.cls,r.kX,rfl,_,rfl,l.ha,_,_,_,rfl,rfl,ak.of d.heads,pY hA,?_⟩;refine cC ?_;refine⟨_,rfl,l.J,C,L,_,_,rfl,ho,r.cls,r.oF,rfl,_,rfl,l.la,_,_,_,rfl,rfl,ak.of d.jw,atb,_,rfl,xb,tu,tb,tn,rfl,aB.of MD,aB.of hu,λx Q=>by rw[tl,←MF];exact rE ME Q,QO,λtm H1 WW g1 htm=>?_⟩;refine cC ?_;refine⟨_,rfl,_,rfl,l.J,C,L,_,_,rfl,g1 _ _ ho,r.cls,r.oF,rfl,_,rfl,l.la,_,_,_,rfl,rfl,ak.of (g1 _ _ d.jw),ata,xa,ta,rfl,g1 _ _ MC,QO,WY,λti H2 nti g2 DT=>?_⟩;refine⟨tm,ti,bQ tn tb,inv ta,rfl,aB.of (g2 _ _ htm),aB.of DT,?_,by rw[jQ];omega,λto H3 DU g3 W_=>?_⟩
 ·rw[gX,lta];exact Zh2 (n:=n) (λx Q=>by rw[←tl];exact rE ft Q) (λy hy=>by rw[tl,←MF];exact rE ME hy)
 have kL:=(g1.trans g2).trans g3;generalize ZjT:bQ (inv ta) (bQ tn tb)=B at W_ q;have xl:full B=af/\B.length=n:=by
  rw[←ZjT];refine⟨rq (kW WY) (rq ft ME QO) (by rw[gX,jQ];omega),by rw[jQ,jQ];exact MF⟩
 refine cC ?_;refine⟨_,rfl,l.J,C,L,_,_,rfl,kL _ _ ho,r.cls,r.v9,rfl,l.md,rfl,.inl ⟨_,.inl (kL _ _ d.kH)⟩,_,rfl,_,.inl (A:Int),.ref mo,kL _ _ d.kH,rfl,vmo,λH4 b4 e4=>?_⟩;rw[A9 A (by rw[Ya];exact My.symm)] at e4;have o4:=b4 _ _ (kL _ _ ho) x3;have f4:=b4 _ _ (kL _ _ d.frees) (λz=>w1 z.symm);refine⟨_,rfl,l.J,C,L,_,_,rfl,o4,r.cls,r.rN,rfl,l.fd,rfl,.inl ⟨_,.inl f4⟩,_,rfl,_,.inl (A:Int),.ref fo,f4,rfl,vfo,λH5 b5 e5=>?_⟩;rw[A9 A (by rw[Ya];exact DQ.symm)] at e5;have J:∀c o,H c=U o->c≠l.md->c≠l.fd->H5 c=U o:=λc o e G N=>b5 _ _ (b4 _ _ (kL _ _ e) G) N;have e45:H5 l.md=U _:=b5 _ _ e4 w1;have W:∀{x:O},x∈l.hZ->x≠l.ha/\x≠l.la/\x≠l.md/\x≠l.fd:=λ{x} Q=>⟨λz=>y4 (by rw[←z];exact Q),λz=>z3 (by rw[←z];exact Q),λz=>w2 (by rw[←z];exact Q),λz=>v1 (by rw[←z];exact Q)⟩;have Xa:=J _ _ WZ (W An).2.2.1 (W An).2.2.2;have xR:H5 to=U (.tup (B.map V.int)):=by
  have G:to≠l.md:=λz=>by rw[z,g1.trans g2 _ _ d.kH] at DU;cases DU
  have N:to≠l.fd:=λz=>by rw[z,g1.trans g2 _ _ d.frees] at DU;cases DU
  exact b5 _ _ (b4 _ _ W_ G) N
 dsimp only;have MG:(eN g).length=g.length:=Ya _;have hlen:∀is:Z Nat,(kY hb is st.hd).length=st.hd.length:=λis=>yo (λ_ _=>Jd) is st.hd;have ZjU:∀is:Z Nat,(iN B is st.ld).length=st.ld.length:=λis=>yo (λ_ _=>by unfold qL;exact Jd) is st.ld;refine ie (KA H5 l (kY hb g st.hd) (iN B g st.ld) n (UP l a b hb A tu tm to mo)) (λlP eO=>?_) ?_
 ·refine⟨_,rfl,mo,rfl,⟨_,ak.of Xa⟩,kz (K:=K) (a:=mo) (xs:=eN g) (λj=>KA H5 l (kY hb (g.take j) st.hd) (iN B (g.take j) st.ld) n (UP l a b hb A tu tm to mo))
   ⟨l.fO,aJ,J _ _ d.heads y2 y3,J _ _ d.jw z1 z2,L2.Paired.bL d.lead λc xs e=>J c _ e (eG e d.kH (λz=>by cases z)) (eG e d.frees (λz=>by cases z)),fl,λc o e _ _=>e,rfl⟩
   (λj σ H6 _ zz=>by obtain⟨_,_,_,_,_,_,E,_⟩:=zz;exact ak.of (E _ _ Xa (W An).1 (W An).2.1)) ?_ ?_⟩
  ·rintro j v σ H6 hj ⟨D,o9,R,k2,k3,k4,E,rfl⟩;rw[Yf] at hj;obtain⟨i,mi,rfl⟩:∃i,g[j]?=U i/\V.int (i:Int)=v:=by
    cases e:g[j]? with
    |none=>rw[e] at hj;cases hj
    |some i=>rw[e] at hj;exact⟨i,rfl,Ym hj⟩
   have hi:=min i (Yh mi);have il:i<(iN B (g.take j) st.ld).length:=by rw[ZjU];omega
   have Zlz:=c7 k3;obtain⟨t,et,DT⟩:=fK k3 (Yc (show i<D.length by omega));obtain⟨ftt,Xb⟩:=k4 t (Yh et);have oJ:=E _ _ (J _ _ ho x3 x4) x1 x2;have ixh:mV (eN (kY hb (g.take j) st.hd)).length (i:Int)=U i:=by
    rw[JI (qp _) (by rw[Ya,hlen];omega),Y6]
   have ixl:mV (D.map V.ref).length (i:Int)=U i:=by
    rw[JI (qp _) (by rw[Ya];omega),Y6]
   refine bu ?_;refine⟨_,rfl,_,rfl,l.J,C,L,_,_,rfl,oJ,r.cls,r.kX,rfl,_,rfl,l.ha,_,_,i,rfl,rfl,R,ixh,λH7 b7 e7=>?_⟩;have Xc:=b7 _ _ oJ x1;have Ao:=b7 _ _ k2 (λz=>y1 z.symm);have to7:H7 to=U (.tup (B.map V.int)):=b7 _ _ (E _ _ xR (eG xR (J _ _ d.heads y2 y3) (λz=>by cases z)) (eG xR (J _ _ d.jw z1 z2) (λz=>by cases z))) (eG (E _ _ xR (eG xR (J _ _ d.heads y2 y3) (λz=>by cases z)) (eG xR (J _ _ d.jw z1 z2) (λz=>by cases z))) R (λz=>by cases z));have x7:H7 D[i]=U (.tup (t.map V.int)):=b7 _ _ DT (eG DT R (λz=>by cases z));have atx:d_ (D.map V.ref) (i:Int)=U (.ref D[i]):=iG (by rw[Yf,Yc (show i<D.length by omega)];rfl);refine⟨_,rfl,_,rfl,l.J,C,L,_,_,rfl,Xc,r.cls,r.oF,rfl,_,rfl,l.la,_,_,_,rfl,rfl,ak.of Ao,atx,to,D[i],B,t,rfl,aB.of to7,aB.of x7,λx Q=>by rw[Xb,←xl.2];exact rE xl.1 Q,by have:=xl.2;omega,λtt H8 Xd g8 htt=>?_⟩;refine⟨_,rfl,l.J,C,L,_,_,rfl,g8 _ _ Xc,r.cls,r.oF,rfl,_,rfl,l.la,_,_,i,rfl,rfl,g8 _ _ Ao,ixl,λH9 b9 e9=>?_⟩;have gt:(iN B (g.take j) st.ld).getD i []=t:=by rw[Yg,et];rfl
   have eh:kY hb (g.take (j+1)) st.hd=(kY hb (g.take j) st.hd).set i hb:=Ot mi st.hd;have el:iN B (g.take (j+1)) st.ld=(iN B (g.take j) st.ld).set i (bQ t B):=by
    have e1:iN B (g.take (j+1)) st.ld=qL B (iN B (g.take j) st.ld) i:=Ot mi st.ld;rw[e1,←gt];rfl
   have MB:tt≠l.la:=λz=>by rw[z,Ao] at Xd;cases Xd
   have h9:∀c o,H6 c=U o->c≠l.ha->c≠l.la->H9 c=U o:=λc o e G N=>b9 _ _ (g8 _ _ (b7 _ _ e G)) N;refine⟨D.set i tt,_,?_,?_,?_,?_,λc o e G N=>h9 c o (E c o e G N) G N,rfl⟩
   ·rw[eh,←Zgc];exact b9 _ _ (g8 _ _ e7) y1
   ·rw[e9,List.map_set]
   ·rw[el];exact Ou (F:=λa (xs:Z Int)=>H9 a=U (.tup (xs.map V.int))) (b9 _ _ htt MB) i (L2.Paired.bL k3 λc xs e=>h9 c _ e (eG e R (λz=>by cases z)) (eG e k2 (λz=>by cases z)))
   ·intro u Ap;rw[el] at Ap;rcases List.mem_or_eq_of_mem_set Ap with z|z;·exact k4 u z
    ·rw[z];exact⟨rq ftt xl.1 (by rw[Xb,xl.2]),by rw[jQ];exact xl.2⟩
  ·rintro σ H6 ⟨D,o9,R,k2,k3,k4,E,rfl⟩;rw[MG,Y9] at R k3 k4;exact eO _ _ ⟨D,o9,R,k2,k3,k4,E,rfl⟩
 rintro σ H6 ⟨D,o9,R,k2,k3,k4,E,rfl⟩;have oJ:=E _ _ (J _ _ ho x3 x4) x1 x2;have Xe:=E _ _ e45 (λz=>y2 z.symm) (λz=>z1 z.symm);have fd6:=E _ _ e5 (λz=>y3 z.symm) (λz=>z2 z.symm);have DV:=W mms;have DW:=W An;have zk:∀c o,H c=U o->c≠l.ha->c≠l.la->c≠l.md->c≠l.fd->H6 c=U o:=λc o e G N n3 n4=>E _ _ (J _ _ e n3 n4) G N;have ms6:=zk _ _ hms DV.1 DV.2.1 DV.2.2.1 DV.2.2.2;have mo6:=zk _ _ WZ DW.1 DW.2.1 DW.2.2.1 DW.2.2.2;have Xf:Paired (λc (p:Nat×Z Nat)=>H6 c=U (.lst (eN p.2))/\c∈l.hZ) (eR (st.mem.map (·.1)) l.hZ A) (dh A st.mem):=G_ d.mem λc p e mc _=>by
  obtain⟨q1,q2,q3,q4⟩:=W mc;exact⟨zk _ _ e q1 q2 q3 q4,mc⟩
 have lkB:(dh A st.mem).lookup hb=U mb:=by rw[vV (λz=>neq z.symm)];exact mB
 obtain⟨xS,ZjV,Lb,Lc⟩:=pP (f:=λv:Z Nat=>HO.lst (eN v)) (L2.Paired.bL Xf λ_ _ h=>h.1) lkB;rw[pT] at Lb;have Cy:xS∈l.hZ:=Bw.subset ZjV;refine⟨_,rfl,l.J,C,L,_,_,rfl,oJ,r.cls,r.v9,rfl,_,rfl,l.md,.ref xS,rfl,nE Xe Lb,.inl ⟨rfl,_,ak.of Lc⟩,_,rfl,xS,mo,_,_,rfl,rfl,Lc,mo6,by rw[MG,Ya];omega,λH7 b7 e7=>?_⟩;obtain⟨r1,r2,r3,r4⟩:=W Cy;have sub:=Bw (h:=A) (ks:=st.mem.map (·.1)) (as:=l.hZ);have ZjW:=Bw (h:=A) (ks:=st.fr.map (·.1)) (as:=l.cz);have Xg:∀c∈JL.fp ⟨l.J,l.ha,l.la,l.md,l.fd,D,eR (st.mem.map (·.1)) l.hZ A,eR (st.fr.map (·.1)) l.cz A⟩,c∈l.fp:=λc hc=>by
  simp only[JL.fp,Ys] at hc⊢;rcases hc with h|h|h|h|h|h;·exact .inl h
  ·exact .inr (.inl h)
  ·exact .inr (.inr (.inl h))
  ·exact .inr (.inr (.inr (.inl h)))
  ·exact .inr (.inr (.inr (.inr (.inl h))))
  ·exact .inr (.inr (.inr (.inr (.inr (sub.subset h)))))
 have T:∀c o,H6 c=U o->c≠xS->H7 c=U o:=λc o e G=>b7 _ _ e G;refine q ⟨l.J,l.ha,l.la,l.md,l.fd,D,eR (st.mem.map (·.1)) l.hZ A,eR (st.fr.map (·.1)) l.cz A⟩ H7 rfl Xg (λc o e X=>?_) ⟨⟨L,T _ _ oJ (λz=>x5 (by rw[z];exact Cy))⟩,T _ _ R (λz=>r1 z.symm),T _ _ k2 (λz=>r2 z.symm),L2.Paired.bL k3 λc xs e=>T c _ e (eG e Lc (λz=>by cases z)),?_,?_,?_,?_,?_,λc hc z=>?_⟩
 ·simp only[JL.fp,Ys,iC] at X;exact T _ _ (zk _ _ e X.2.1 X.2.2.1 X.2.2.2.1 X.2.2.2.2.1) (λz=>X.2.2.2.2.2 (by rw[z];exact Cy))
 ·show H7 l.md=U (.dK (bw ((fG hb (mb++g) (dh A st.mem)).map (·.1)) _));rw[tM,pT];exact T _ _ Xe (λz=>r3 z.symm)
 ·refine Zco (F:=λc (p:Nat×Z Nat)=>H6 c=U (.lst (eN p.2))/\c∈l.hZ) (m:=xS) (λk=>?_) Xf (sub.nodup v2) ?_ (by rw[pT];exact Lb) λc p e _ X=>T _ _ e.1 X
  ·show H7 xS=U (.lst (eN (mb++g)));rw[e7,eN,eN,eN,Yo]
  ·rw[pT];exact ndk.filter _
 ·show H7 l.fd=U (.dK (bw ((dh A st.fr).map (·.1)) _));rw[pT];exact T _ _ fd6 (λz=>r4 z.symm)
 ·refine G_ d.free λc p e mc _=>?_;have no:=d.out c mc;simp only[JL.fp,Ys,iC] at no;exact T _ _ (zk _ _ e no.2.1 no.2.2.1 no.2.2.2.1 no.2.2.2.2.1) (λz=>no.2.2.2.2.2 (by rw[z];exact Cy))
 ·have e0:(JL.fp ⟨l.J,l.ha,l.la,l.md,l.fd,D,eR (st.mem.map (·.1)) l.hZ A,eR (st.fr.map (·.1)) l.cz A⟩).Sublist l.fp:=(((((sub.cons₂ l.fd).cons₂ l.md).cons₂ l.la).cons₂ l.ha).cons₂ l.J);exact e0.nodup d.nd
 ·exact d.out c (ZjW.subset hc) (Xg c z)
structure UQ(st:JS)(n a b ha hb:Nat)(ta tb fma Aq:Z Int)(ma mb:Z Nat):Prop where
 hA:st.hd[a]?=U ha
 hB:st.hd[b]?=U hb
 lA:st.ld[a]?=U ta
 lB:st.ld[b]?=U tb
 fl:∀t∈st.ld,full t=af/\t.length=n
 ll:st.ld.length=st.hd.length
 mA:st.mem.lookup ha=U ma
 mB:st.mem.lookup hb=U mb
 fA:st.fr.lookup ha=U fma
 fB:st.fr.lookup hb=U Aq
 ne:ha≠hb
 iA:∀i∈ma,i<st.hd.length
 iB:∀i∈mb,i<st.hd.length
 lm:ma.length+mb.length<=1000
 nd:(st.mem.map (·.1)).Nodup
inductive Q8(C:O)(s:Z V)(H:Hp)(Q:VK)(E:XK):Prop
 |mk (l:JL) (st:JS) (n a b m k:Nat) (g e d o t:Z Int) (r:O) (i h:Z Nat) (D:s=[.ref l.J,.int (a:Int),.int (b:Int),.ref r]) (B:cX H C n l st) (z:H r=U (.tup (d.map V.int))) (A:n<=8) (y:d.length=n) (x:full d=af) (v:UQ st n a b m k g e o t i h) (u:∀(j:JL) (p:JS) (q:Hp),j.J=l.J->(∀c∈j.fp,c∈l.fp)->Out l.fp H q->cX q C n j p->(p=st.mv k m h i (bQ (inv g) (bQ (inv d) e))\/p=st.mv m k i h (bQ (inv e) (bQ d g)))->Q .ay q)
abbrev mQ:Z ar:=["self","one","other","turn"]
def Ze:aT mQ mQ (aO EC):=.a9
def ZeM(F:aR K "bring_together" "Joins.bring_together" EC f fd)(d:nC K C)(pL:HasFn P w K mg I 1 "turned_back" pd CS)(AZ:bY P w K mg I 2 "move" C La (SA C))(bl:Bl mg):aI P w K mg I aP 3 f fd mQ (Q8 C):=by
 refine F.o Ze λs H i h=>?_;obtain⟨l,st,n,a,b,X,W,L,J,m,A,Aq,G,R,Q,rfl,c,T,N,tl,y,two,q⟩:=h;refine⟨_,(au (aW (bJ oO (dJ K bl (dD (bG i) (pF K 0) (bh (iL K) (pF K 0) (pv 1)) (λ_ _=>rfl))) (dJ K bl (dD (bG i) (pF K 0) (bh (iL K) (pF K 0) (pv 2)) (λ_ _=>rfl)))) (au (cG (cV AZ i (by decide) (pv 0) (aa (pv 1) (aa (pv 2) (aa (aV pL i (aa (pv 3) ag)) ag)))))) (au (cG (cV AZ i (by decide) (pv 0) (aa (pv 2) (aa (pv 1) (aa (pv 3) ag)))))))),?_⟩;obtain⟨g,e⟩:=c.obj;obtain⟨E,mxa,k,MC⟩:=pP (f:=λv:Z Nat=>HO.lst (eN v)) c.mem two.mA;obtain⟨D,mxb,j,MD⟩:=pP (f:=λv:Z Nat=>HO.lst (eN v)) c.mem two.mB;refine⟨_,rfl,l.J,C,g,_,_,rfl,e,d.cls,d.v9,rfl,_,rfl,l.J,C,g,_,_,rfl,e,d.cls,d.kX,rfl,_,rfl,l.ha,_,_,_,rfl,rfl,ak.of c.heads,pY two.hA,l.md,.ref E,rfl,nE c.kH k,E,_,rfl,.inl (ak.of MC),?_⟩;refine⟨_,rfl,l.J,C,g,_,_,rfl,e,d.cls,d.v9,rfl,_,rfl,l.J,C,g,_,_,rfl,e,d.cls,d.kX,rfl,_,rfl,l.ha,_,_,_,rfl,rfl,ak.of c.heads,pY two.hB,l.md,.ref D,rfl,nE c.kH j,D,_,rfl,.inl (ak.of MD),_,_,rfl,rfl,_,rfl,bF (λ_=>?_) (λ_=>?_)⟩
 ·refine⟨_,rfl,l.J,g,_,rfl,e,rfl,_,rfl,_,rfl,_,rfl,G,m,rfl,T,(fI (kS tl) (fI N (by decide))),y,λtv H1 ntv g1 x=>?_⟩;refine⟨l,st,n,a,b,X,W,L,J,inv m,A,tv,R,Q,rfl,c.same g1,x,N,by rwa[gX],kW y,two.hA,two.hB,two.lA,two.lB,two.fl,two.ll,two.mA,two.mB,two.fA,two.ne,two.iA,two.lm,two.nd,λp B t r o u=>q p _ B t r ((Out.of g1).trans o) u (.inl rfl)⟩
 ·refine⟨_,rfl,l.J,g,_,rfl,e,rfl,_,rfl,_,rfl,_,rfl,?_⟩;exact⟨l,st,n,b,a,W,X,J,L,m,Aq,G,Q,R,rfl,c,T,N,tl,y,two.hB,two.hA,two.lB,two.lA,two.fl,two.ll,two.mB,two.mA,two.fB,(λz=>two.ne z.symm),two.iB,by have:=two.lm;omega,two.nd,λp B t r o u=>q p _ B t r o u (.inr rfl)⟩
def TV(H:Hp)(c:Z O)(b:Z (Int×Int)):Prop:=Paired (λa (p:Int×Int)=>H a=U (.tup [.int p.1,.int p.2])) c b
def jU(g e:Nat)(b a c d:Z Int):Z (Int×Int):=if g=e then c.map λz=>(b.getD z.toNat 0,a.getD z.toNat 0) else(c.map λz=>b.getD z.toNat 0).flatMap λx=>d.map λz=>(x,a.getD z.toNat 0)
inductive Q9(C:O)(m:Z V)(H:Hp)(Q:VK)(E:XK):Prop
 |mk (l:JL) (st:JS) (n i j h g:Nat) (c b e d:Z Int) (t:m=[.ref l.J,.int (i:Int),.int (j:Int)]) (s:cX H C n l st) (q:uw st i h c e) (r:uw st j g b d) (o:∀(p:O) (k:Z O) (cq:Z (Int×Int)) (a:Hp),H p=aJ->aj H a->a p=U (.lst (k.map V.ref))->TV a k cq->cq.Perm (jU h g c b e d)->cq.Pairwise jT->Q (.ref p) a)
inductive J_(C:O)(r:Z V)(H:Hp)(Q:VK)(E:XK):Prop
 |mk (l:JL) (st:JS) (n i j g e:Nat) (b a d c h:Z Int) (o:O) (A:r=[.ref l.J,.int (i:Int),.int (j:Int),.ref o]) (z:cX H C n l st) (x:uw st i g b d) (y:uw st j e a c) (v:H o=some (.tup (h.map V.int))) (u:(∀q∈jU g e b a d c,0<=q.1/\q.1<h.length)) (t:(jU g e b a d c).length<=1000) (s:∀(p:O) (k:Z Int) (m:Hp),H p=none->aj H m->m p=some (.lst (k.map V.int))->k.Perm (((jU g e b a d c).filter λq=>decide (h.getD q.1.toNat 0=q.2)).map (·.1))->k.Pairwise (·<·)->Q (.ref p) m)
def Zao:aT mQ mQ (aO F1):=.a9
theorem Zge(F:aR K "left" "Joins.left" F1 f fd)(FP:bY P w K mg I 3 "pairs" C rY (Q9 C))(bl:Bl mg):aI P w K mg I aP 4 f fd mQ (J_ C):=by
 refine F.o Zao λs H hr h=>?_;obtain⟨l,st,n,i,j,hi,hj,ti,tj,si,sj,d,tu,rfl,ja,o1,o2,hu,gL,fZ,q⟩:=h;refine⟨_,(au (aL (Zen (xs:=["first","second"]) (fr:=[("turn",3)]) (cl:=[("turn",s.heap.objs.size+1)]) rfl (.f_ ⟨rfl,trivial⟩ ⟨⟨rfl,.inl rfl,.inl rfl,rfl⟩,trivial⟩) (λ_ _ _ _=>(jr (K:=K) (n:=2) rfl rfl (bX (rB (i:=0) (show(["first","second","turn"]:Z ar).Nodup by decide+kernel) rfl (Or.inl rfl)) (bX (rB (i:=1) (show(["first","second","turn"]:Z ar).Nodup by decide+kernel) rfl (gR rfl)) jo)))) (eS (K:=K) rfl (cV FP hr (by decide) (pv 0) (aa (pv 1) (aa (pv 2) ag)))) (λ_ _ _ _=>wy (bJ cL (bh (iT K) (pv 2) (pv 0)) (pv 1))) (λ_ _ _ _=>(pv 0))))),?_⟩;obtain⟨dx,ho⟩:=ja.obj;refine⟨_,rfl,l.J,dx,_,rfl,ho,rfl,_,rfl,_,rfl,l,st,n,i,j,hi,hj,ti,tj,si,sj,rfl,ja,o1,o2,λp G cq H1 np Q hp W J pw=>?_⟩;have pl:=c7 W;have al:(G.map V.ref).length=cq.length:=by rwa[Ya]
 have UR:=J.length_eq;refine⟨p,rfl,⟨_,ak.of hp⟩,λD N=>Zb6 (xs:=G.map V.ref) (λk m r=>k<=cq.length/\aj H1 r/\r D=U (.lst m)/\m=((cq.take k).filter λq=>decide (d.getD q.1.toNat 0=q.2)).map λq=>V.int q.1) ⟨Yx _,cK N _,aQ,rfl⟩ (λk m r _ ⟨_,g,_,_⟩=>ak.of (g _ _ hp)) ?_ ?_⟩
 ·rintro k v m r t ⟨_,g,E,u⟩ os qB;obtain⟨B,A,rfl⟩:∃B A,os=[B,A]:=by
   match os,qB with
   |[B,A],_=>exact⟨B,A,rfl⟩
  rw[Yf] at t;obtain⟨c,ec,rfl⟩:∃c,G[k]?=U c/\V.ref c=v:=by
   cases e:G[k]? with
   |none=>rw[e] at t;cases t
   |some c=>rw[e] at t;exact⟨c,rfl,Ym t⟩
  obtain⟨⟨x,y⟩,T,L⟩:=fK W ec;have X:k<cq.length:=(Yl.mp T).1;have bx:=gL (x,y) (J.subset (Yh T));have DX:=g _ _ L;have yl:m.length<sizeLine:=by
   have:=Wn (λq:Int×Int=>decide (d.getD q.1.toNat 0=q.2)) (cq.take k);rw[Y8] at this;rw[u,Ya,c4];omega
  refine⟨c,_,rfl,aB.of DX,rfl,_,_,rfl,bu ⟨_,_,rfl,bu ⟨rfl,⟨[U (.int x),U (.int y)],rfl,rfl⟩,?_⟩⟩⟩;refine⟨_,rfl,_,rfl,tu,_,_,_,rfl,rfl,aB.of (g _ _ (Q _ _ hu)),oI bx.1 bx.2,_,rfl,rfl,_,rfl,?_⟩;have ed:decide (V.int (d.getD x.toNat 0)=V.int y)=decide (d.getD x.toNat 0=y):=by
   rw[We,eJ,rZ];exact⟨V.int.inj,λz=>by rw[z]⟩
  rw[ed];have et:∀(b:cm),decide (d.getD x.toNat 0=y)=b->((cq.take (k+1)).filter λq=>decide (d.getD q.1.toNat 0=q.2)).map (λq=>V.int q.1)=m++(if b=af then[V.int x] else[]):=λb eb=>by
   rw[u,Y1,T,Wm,Yo]
   congr 1
   show([((x,y):Int×Int)].filter _).map _=_;rw[Ww,eb];cases b<;>rfl
  refine bF (λR=>?_) (λR=>?_)
  ·refine⟨_,rfl,E,yl,X,λb o e=>?_,aQ,?_⟩
   ·rw[aA (cA e N)];exact g _ _ e
   ·rw[et af R];rfl
  ·refine⟨X,g,E,?_⟩;rw[et a7 (by cases e:decide (d.getD x.toNat 0=y) with|true=>exact absurd e R|false=>rfl)];simp
 ·rintro m r ⟨_,g,E,u⟩;rw[al,Y9] at u;refine q D ((cq.filter λq=>decide (d.getD q.1.toNat 0=q.2)).map (·.1)) r (Q.free N) (Q.trans g) (by rw[E,u,Y7];rfl) ((J.filter _).map _) ?_;rw[Wl];refine(Xh.mp (pw.filter _)).imp ?_;rintro a b ⟨ma,mb,lt⟩;have e1:=eK (Y5.mp ma).2;have e2:=eK (Y5.mp mb).2;rcases lt with lt|⟨e,lt⟩;·exact lt
  ·rw[←e1,←e2,e] at lt;exact absurd lt (Int.lt_irrefl _)
theorem Zh3:∀{c:Z V} {d:Z Nat},Paired (λy k=>∃a,y=V.ref a/\H a=U (.tup [.int (g k).1,.int (g k).2])) c d->∃b:Z O,c=b.map V.ref/\TV H b (d.map g):=by
 intro c d i;induction i with
 |nil=>exact⟨[],rfl,.nil⟩
 |cons z t j=>
  obtain⟨a,e,h⟩:=z;obtain⟨b,m,l⟩:=j;exact⟨a::b,by rw[e,m];rfl,.cons h l⟩
def map_range(g:Int->α)(a:Z Int):(List.range a.length).map (λk=>g (a.getD k 0))=a.map g:=by
 have b:(List.range a.length).map (λk=>g (a.getD k 0))=((List.range a.length).map λk=>a.getD k 0).map g:=by rw[Y7];rfl
 rw[b,(range_getD a 0)]
def US(D:O)(H:Hp)(c:Z O)(b:Z (Int×Int)):Prop:=Paired (λa (p:Int×Int)=>a≠D/\H a=U (.tup [.int p.1,.int p.2])) c b
theorem Ir{d c e:Type}(g:d->c->e)(b:Z c):∀a:Z d,(a.flatMap λx=>b.map (g x)).length=a.length*b.length
 |[]=>QS
 |x::a=>by rw[List.flatMap_cons,Yj,Ir g b a,Ya,Wg,Nat.succ_mul];exact Nat.add_comm _ _
def Zdr{a β c:Type}{g:a->Z c}{b:Z a}{i:Nat}{x:a}(h:b[i]?=U x):(b.take (i+1)).flatMap g=(b.take i).flatMap g++g x:=by
 rw[Y1,h,List.flatMap_append];simp
def O6{a:Z Int}(b:a.Pairwise (·<=·))(c:a.Nodup):a.Pairwise (·<·):=by
 refine(List.Pairwise.and b (Wk.mp c)).imp ?_
 grind
def Zgf(x:Int){a:Z Int}(b:a.Pairwise (·<·)):(a.map λy=>((x,y):Int×Int)).Pairwise jT:=by
 rw[Wl];exact b.imp λh=>.inr ⟨rfl,h⟩
def Zgg{a:Z Int}(c:a.Pairwise (·<·))(e:a[k]?=U x)(d:y∈a.take k):y<x:=by
 obtain⟨i,b,rfl⟩:=W0.mp d;obtain⟨g,rfl⟩:=Yl.mp e;rw[Y8] at b;rw[List.getElem_take];exact W7.mp c i k (iy b (zj _ _)) g (iy b (x6 _ _))
def Fq:aT ["self","one","other","here","there"] rY (aO FG):=.a9
theorem ZeN(F:aR K "pairs" "Joins.pairs" FG f fd)(W:nC K C)(vD:bY P w K mg I 1 "together" C rY (G9 C))(kP:bY P w K mg I 2 "open_at" C xk (yM C))(bl:Bl mg):aI P w K mg I aP 3 f fd rY (Q9 C):=by
 refine F.o Fq λs H hr h=>?_;obtain⟨l,st,n,i,j,hi,hj,ti,N,u,sj,rfl,J,B,A,q⟩:=h;refine⟨_,(aq (aW (i4 (eX (cV vD hr (by decide) (pv 0) (aa (pv 1) (aa (pv 2) ag))))) (au (aL (Zeo (xs:=["first","second"]) (fr:=[("self",0),("other",2)]) (cl:=[("self",s.heap.objs.size+1),("other",s.heap.objs.size+1+1)]) rfl (.f_ ⟨rfl,⟨rfl,trivial⟩⟩ ⟨⟨rfl,.inl rfl,.inl rfl,rfl⟩,⟨⟨rfl,.inl rfl,.inl rfl,rfl⟩,trivial⟩⟩) (λ_ _ _ _=>(rB (i:=0) (show(["first","second","self","other"]:Z ar).Nodup by decide+kernel) rfl (gR rfl))) (eS (K:=K) rfl (cV kP hr (by decide) (pv 0) (aa (pv 1) ag))) (λ_ _ _ _=>(eS (K:=K) rfl (cV kP hr (by decide) (pv 2) (aa (pv 3) ag)))) (λ_ _ _ _=>(rB (i:=1) (show(["first","second","self","other"]:Z ar).Nodup by decide+kernel) rfl (gR rfl))) (λ_ _ _ _=>(dX (aa (pv 0) (aa (pv 1) ag))))))) a_) (aq (ig (i:=3) Fq.nd rfl (kv rfl) (bh (iL K) (pF K 0) (pv 1))) (aq (ig (i:=4) Fq.nd rfl (kv rfl) (bh (iL K) (pF K 0) (pv 2))) (au (aL (iY (Zeu (K:=K) rfl) rfl bl.Br Bg (aa (iZ (x:="section") (fr:=[("there",4),("here",3)]) (cl:=[("there",s.heap.objs.size+1+1+1+1),("here",s.heap.objs.size+1+1+1)]) rfl (.f_ ⟨rfl,⟨rfl,trivial⟩⟩ ⟨⟨rfl,.inl rfl,.inl rfl,rfl⟩,⟨⟨rfl,.inl rfl,.inl rfl,rfl⟩,trivial⟩⟩) (eS (K:=K) rfl (dD (bG hr) (pF K 0) (bh (iL K) (pF K 0) (pv 1)) (λ_ _=>rfl))) (λ_ _ _ _=>kA) (λ_ _ _ _=>(dX (aa (bh (iT K) (pv 2) (pv 0)) (aa (bh (iT K) (pv 1) (pv 0)) ag))))) ag))))))),?_⟩;obtain⟨dx,ho⟩:=J.obj;have f1:=B.fZ;have f2:=A.fZ;refine⟨_,rfl,l.J,dx,_,rfl,ho,rfl,_,rfl,_,rfl,l,st,n,i,j,hi,hj,rfl,J,B.hd,A.hd,_,rfl,?_⟩;by_cases eh:hi=hj
 ·rw[dg eh];refine bT (aX ?_);have es:u=sj:=by have a:=B.fr;have b:=A.fr;rw[eh,b] at a;exact(Ym a).symm
  have zh:∀{k:Nat} {t:Z Int},st.ld[k]?=U t->∃x,l.fO[k]?=U x/\H x=U (.tup (t.map V.int)):=λ{k t} ht=>by
   have hl:=c7 J.lead;have eM:k<l.fO.length:=by rw[hl];exact(Yl.mp ht).1
   obtain⟨y,ey,hy⟩:=fK J.lead (Yc eM);rw[ht] at ey;cases ey;exact⟨_,Yc eM,hy⟩
  obtain⟨xi,exi,hxi⟩:=zh B.ld;obtain⟨xj,exj,hxj⟩:=zh A.ld;have ati:d_ (l.fO.map V.ref) (i:Int)=U (.ref xi):=iG (by rw[Yf,exi];rfl);have atj:d_ (l.fO.map V.ref) (j:Int)=U (.ref xj):=iG (by rw[Yf,exj];rfl);obtain⟨fa,WV,vf,df⟩:=pP (f:=λv:Z Int=>HO.lst (v.map V.int)) J.free B.fr;refine cC ?_;refine⟨_,rfl,l.J,C,dx,_,_,rfl,ho,W.cls,W.oF,rfl,_,rfl,l.la,_,_,_,rfl,rfl,ak.of J.jw,ati,?_⟩;refine cC ?_;refine⟨_,rfl,l.J,C,dx,_,_,rfl,ho,W.cls,W.oF,rfl,_,rfl,l.la,_,_,_,rfl,rfl,ak.of J.jw,atj,?_⟩;refine⟨_,rfl,l.J,C,dx,_,_,rfl,ho,W.cls,W.rN,rfl,_,rfl,l.J,C,dx,_,_,rfl,ho,W.cls,W.kX,rfl,_,rfl,l.ha,_,_,_,rfl,rfl,ak.of J.heads,pY B.hd,l.fd,_,rfl,nE J.frees vf,fa,rfl,⟨_,ak.of df⟩,λD hD=>vT (xs:=u.map V.int) (ak.of df) (by rw[Ya];exact m6 (hT f1 (by decide))) hD (λ_=>af) (λk y H1=>∃a,y=V.ref a/\a≠D/\H1 a=U (.tup [.int (ti.getD (u.getD k 0).toNat 0),.int (N.getD (u.getD k 0).toNat 0)])) (λk y H1 G b zz=>by obtain⟨a,e1,e2,e3⟩:=zz;exact⟨a,e1,e2,b _ _ e3 e2⟩) (λk v hk H1 L MI Kt Kf kt kf=>?_) λys H1 L h1 pr=>?_⟩
  ·obtain⟨z,rfl,hz⟩:=oC hk;have gz:u.getD k 0=z:=by rw[Yg,hz];rfl
   have b1:=B.gL z (Yh hz);have b2:=A.gL z (by rw[←es];exact Yh hz);refine kG (dq ?_);refine⟨_,rfl,_,rfl,xi,_,_,_,rfl,rfl,aB.of (L _ _ hxi),oI b1.1 b1.2,_,rfl,_,rfl,xj,_,_,_,rfl,rfl,aB.of (L _ _ hxj),oI b2.1 b2.2,by show 2<=sizeLine;rw[c4];decide,λa G na E ha=>?_⟩;obtain⟨ys,MI⟩:=MI;exact kt _ G rfl E ⟨a,rfl,(λz=>by rw[z,MI] at na;cases na),by rw[gz];exact ha⟩
  ·rw[yB,Ya] at pr;obtain⟨X,eas,cT⟩:=Zh3 (g:=λk=>(ti.getD (u.getD k 0).toNat 0,N.getD (u.getD k 0).toNat 0)) (L2.Paired.bL pr λy k zz=>by obtain⟨a,e1,e2,e3⟩:=zz;exact⟨a,e1,e3⟩);have em:(List.range u.length).map (λk=>((ti.getD (u.getD k 0).toNat 0,N.getD (u.getD k 0).toNat 0):Int×Int))=u.map λz=>(ti.getD z.toNat 0,N.getD z.toNat 0):=map_range (λz=>(ti.getD z.toNat 0,N.getD z.toNat 0)) u;rw[em] at cT;have al:=c7 cT;rw[Ya] at al;rw[eas] at h1;have ndp:(u.map λz=>((ti.getD z.toNat 0,N.getD z.toNat 0):Int×Int)).Nodup:=by
    have d:=B.dist;rw[Wk,Wl] at d⊢;exact d.imp λh e=>h (dC (·.1) e)
   refine⟨D,X,_,rfl,ak.of h1,cT,ndp,.inl (lJ (mD al) f1),λfM nP pr2 p2 pw p G np E hp=>?_⟩;refine q p fM nP G (L.free np) (L.trans E) hp (L2.Paired.bL pr2 λ_ _ e=>E _ _ e) ?_ pw;unfold jU;rw[bS eh];exact p2
 ·rw[g_ eh];refine dq ?_;refine⟨_,rfl,l.J,dx,_,rfl,ho,rfl,_,rfl,l,st,n,i,hi,ti,u,rfl,J,B.hd,B.ld,B.fr,B.gL,B.fZ,λp Q H1 np L pm srt hp=>?_⟩;have nl:=pm.length_eq;rw[Ya] at nl;have sns:=O6 srt (pm.nodup_iff.mpr B.dist);refine⟨p,rfl,⟨_,ak.of hp⟩,λD hD=>ZfU (xs:=Q.map V.int) (λk ys G=>k<=Q.length/\aj H1 G/\G D=U (.lst ys)/\∃(X:Z O) (cq:Z (Int×Int)),ys=X.map V.ref/\US D G X cq/\cq.Perm ((Q.take k).flatMap λx=>sj.map λz=>(x,N.getD z.toNat 0))/\cq.Pairwise jT/\∀p∈cq,p.1∈Q.take k) ⟨Yx _,cK hD _,aQ,[],[],rfl,.nil,.nil,.nil,λ_ h=>(nomatch h)⟩ (λk ys G _ zz=>by obtain⟨_,E,_⟩:=zz;exact ak.of (E _ _ hp)) ?_ ?_ ?_ (λv σ H R R' m h=>m _ _ h)⟩
  ·rintro k v ys G hk ⟨kl,E,h2,X,cq,ey,pa,pp,pw,pin⟩ os qB;obtain⟨u1,u2,rfl⟩:∃u1 u2,os=[u1,u2]:=by
    match os,qB with
    |[u1,u2],_=>exact⟨u1,u2,rfl⟩
   obtain⟨x,rfl,hx⟩:=oC hk;have kl':k<Q.length:=(Yl.mp hx).1;refine bu ⟨⟨[U (.int x),u2],rfl,rfl⟩,?_⟩;refine⟨_,rfl,l.J,dx,_,rfl,E _ _ (L _ _ ho),rfl,_,rfl,l,st,n,j,hj,N,sj,rfl,J.same (L.trans E),A.hd,A.ld,A.fr,A.gL,A.fZ,λp2 uU H3 qM g3 MJ ZjX dO=>?_⟩;have MK:=MJ.length_eq;rw[Ya] at MK;have ZjY:=O6 ZjX (MJ.nodup_iff.mpr A.dist);have pD:p2≠D:=λz=>by rw[z,h2] at qM;cases qM
   have UR:=pp.length_eq;rw[Ir (λx z=>((x,N.getD z.toNat 0):Int×Int)) sj (Q.take k),Y8] at UR;have ZlR:=c7 pa;have ZlS:min k Q.length*sj.length<=64*64:=vi QO (qH f2);refine⟨p2,rfl,⟨_,ak.of dO⟩,p2,uU.map V.int,λk2 iz σ H4=>k2<=uU.length/\aj H1 H4/\H4 D=U (.lst iz)/\H4 p2=U (.lst (uU.map V.int))/\(∃A,σ=[U (.int x),A]++_)/\∃(qN:Z O) (xm:Z (Int×Int)),iz=qN.map V.ref/\US D H4 qN xm/\xm=cq++(uU.take k2).map λy=>(x,y),rfl,⟨Yx _,E.trans g3,g3 _ _ h2,dO,⟨u2,rfl⟩,X,cq,ey,L2.Paired.bL pa λ_ _ e=>⟨e.1,g3 _ _ e.2⟩,QS⟩,λk2 iz σ H4 _ zz=>by obtain⟨_,_,_,e,_⟩:=zz;exact ak.of e,?_,?_⟩
   ·rintro k2 v2 iz σ H4 ML ⟨k2l,g4,h4,e4,⟨Xi,rfl⟩,qN,xm,DY,DZ,ph⟩;obtain⟨y,rfl,hy⟩:=oC ML;have ZjZ:k2<uU.length:=(Yl.mp hy).1;have Xj:=c7 DZ;rw[ph,Yj,Ya,Y8] at Xj;refine bu ⟨_,rfl,_,rfl,by show 2<=sizeLine;rw[c4];decide,λa H5 na g5 ha=>⟨g5 _ _ h4,by rw[DY,Ya,Xj,c4];have:=A.fZ;omega,ZjZ,?_,aQ,?_,⟨U (.int y),rfl⟩,qN++[a],xm++[(x,y)],by rw[DY,Yo];rfl,?_,?_⟩⟩
    ·intro b o e;rw[aA (cA e hD)];exact g5 _ _ (g4 _ _ e)
    ·rw[aA pD];exact g5 _ _ e4
    ·have aD:a≠D:=λz=>by rw[z,h4] at na;cases na
     exact kQ (F:=λa (p:Int×Int)=>a≠D/\upd H5 D _ a=U (.tup [.int p.1,.int p.2])) ⟨aD,by rw[aA aD];exact ha⟩ (L2.Paired.bL DZ λb p e=>⟨e.1,by rw[aA e.1];exact g5 _ _ e.2⟩)
    ·rw[ph,Y1,hy,Yo,Jw];rfl
   ·rintro iz σ H4 ⟨_,g4,h4,e4,⟨Xi,rfl⟩,qN,xm,DY,DZ,ph⟩;rw[Ya,Y9] at ph;refine⟨⟨[U (.int x),Xi],rfl,rfl⟩,kl',g4,h4,qN,xm,DY,DZ,?_,?_,λp T=>?_⟩
    ·rw[ph,Zdr (β:=Int) hx];refine pp.append ?_;have:=MJ.map λy:Int=>((x,y):Int×Int);rw[Y7] at this;exact this
    ·rw[ph];refine List.pairwise_append.mpr ⟨pw,Zgf x ZjY,λp T q' mq=>.inl ?_⟩;obtain⟨y,_,rfl⟩:=Ye.mp mq;exact Zgg sns hx (pin p T)
    ·rw[ph] at T;rw[Y1,hx];rcases Yv.mp T with T|T;·exact Yt _ (pin p T)
     ·obtain⟨y,_,rfl⟩:=Ye.mp T;exact Yu _ Yk
  ·rintro ys G ⟨_,E,h2,X,cq,ey,pa,pp,pw,_⟩;rw[Ya,Y9] at pp;rw[ey] at h2;refine q D X cq G (L.free hD) (L.trans E) h2 (L2.Paired.bL pa λ_ _ e=>e.2) (pp.trans ?_) pw;unfold jU;rw[bR eh];exact pm.flatMap_right _
  ·rintro σ H R R' m ⟨x1,e1,x2,x3,x4,e2,e3,e4,x5,e5,l,st,n,i,h,t,gV,e6,j1,j2,j3,j4,j5,j6,k⟩;refine⟨x1,e1,x2,x3,x4,e2,e3,e4,x5,e5,l,st,n,i,h,t,gV,e6,j1,j2,j3,j4,j5,j6,λp Q H' a b c d e=>?_⟩;obtain⟨a,e,s,r⟩:=k p Q H' a b c d e;exact⟨a,e,s,m _ _ r⟩
def ap(t:Z Int)(z:Int):Int:=t.getD z.toNat 0
def Ka(a:0<=z)(h:z<t.length):t[z.toNat]?=U (ap t z):=by
 unfold ap
 simp_all
def nK(a:full t=af)(b:t.length=n){z:Int}(h:0<=z/\z<n):0<=ap t z/\ap t z<n:=by
 have:=rE a (Yh (Ka h.1 QO));omega
def wD(a:full t=af)(c:t.length=n){z:Int}(h:0<=z/\z<n):ap (inv t) (ap t z)=z:=by
 have b:=nK a c h;have d:=BX (xs:=t) (i:=(ap t z).toNat) QO;rw[(J8 b.1),Bj (A7 a) (Ka h.1 QO)] at d;have e:ap (inv t) (ap t z)=((z.toNat:Nat):Int):=by
  show(inv t).getD (ap t z).toNat 0=_
  grind
 grind
def Q_(a:full t=af)(b:t.length=n){z:Int}(h:0<=z/\z<n):ap t (ap (inv t) z)=z:=by
 have:=wD (kW a) (by rwa[gX]) h;rw[inv_inv a] at this;exact this
def Cg(c:full t=af)(b:t.length=n){z z':Int}(h:0<=z/\z<n)(d:0<=z'/\z'<n)(e:ap t z=ap t z'):z=z':=by
 have a:=wD c b h;rw[e,wD c b d] at a;exact a.symm
def Ci(h:0<=z/\z<a.length):ap (bQ xs a) z=ap xs (ap a z):=by
 show(bQ xs a).getD z.toNat 0=_;unfold bQ;rw[Yg,Yf,(Ka h.1 h.2)];rfl
def JS.ae(a:JS)(i:Nat):Nat:=a.hd.getD i 0
def JS.bV(a:JS)(i:Nat):Z Int:=a.ld.getD i []
def JS.b_(a:JS)(h:Nat):Z Int:=(a.fr.lookup h).getD []
def dH(a:JS)(f:Nat->Int):Prop:=∃s:Nat->Int,∀i,i<a.hd.length->s (a.ae i)∈a.b_ (a.ae i)/\f i=ap (a.bV i) (s (a.ae i))
structure WF(n:Nat)(st:JS):Prop where
 ll:st.ld.length=st.hd.length
 fl:∀t∈st.ld,full t=af/\t.length=n
 fr:∀i,i<st.hd.length->∃gV,st.fr.lookup (st.ae i)=U gV/\gV.Nodup/\∀z∈gV,0<=z/\z<(n:Int)
 mem:∀i,i<st.hd.length->∃ms,st.mem.lookup (st.ae i)=U ms/\ms.Nodup/\∀k,k∈ms↔k<st.hd.length/\st.ae k=st.ae i
 nm:(st.mem.map (·.1)).Nodup
 lm:∀k∈st.mem.map (·.1),k<st.hd.length
 nf:(st.fr.map (·.1)).Nodup
 lf:∀k∈st.fr.map (·.1),k<st.hd.length
 hf:∀k∈st.fr.map (·.1),∃i,i<st.hd.length/\st.ae i=k
def yq{a:Z Nat}(b:a.Nodup)(h:∀x∈a,x<m):a.length<=m:=by
 have l:=b.length_le_of_subset λx c=>Wj.mpr (h x c)
 simp_all
def yr{c:Z Int}{n:Nat}(d:c.Nodup)(h:∀x∈c,0<=x/\x<(n:Int)):c.length<=n:=by
 have l:=d.length_le_of_subset (l₂:=bH n) λx e=>by
  obtain⟨a,b⟩:=h x e;have:=Yh (ny (n:=n) (i:=x.toNat) QO)
  grind
 rwa [fS] at l
theorem A_{b:Type}:∀{a:Z (Nat×b)} {k:Nat} {v:b},a.lookup k=U v->k∈a.map (·.1)
 |[],_,_,h=>by simp at h
 |p::a,k,v,h=>by
  rw[Ja] at h;by_cases e:k=p.1;·grind
  ·rw[beq_eq_false_iff_ne.mpr e] at h;exact Yw _ (A_ h)
theorem A2{a:Type}(h:Nat)(v:a)(k:Nat):∀ps:Z (Nat×a),(fG h v ps).lookup k=if k=h then(ps.lookup h).map λ_=>v else ps.lookup k
 |[]=>by show([]:Z (Nat×a)).lookup k=_;simp
 |p::ps=>by
  have b:=A2 h v k ps;have c:fG h v (p::ps)=(if p.1=h then(p.1,v) else p)::fG h v ps:=rfl
  grind
section
variable {n:Nat}{st:JS}
def yS(h:i<st.hd.length):st.hd[i]?=U (st.ae i):=by
 unfold JS.ae;rw[Yg,Yc h];rfl
def WF.Cj(a:WF n st)(h:i<st.hd.length):st.ld[i]?=U (st.bV i):=by
 unfold JS.bV;rw[Yg,Yc (by rwa[a.ll])];rfl
def WF.lQ(a:WF n st)(h:i<st.hd.length):full (st.bV i)=af/\(st.bV i).length=n:=a.fl _ (Yh (a.Cj h))
def WF.d9(c:WF n st)(h:i<st.hd.length):st.fr.lookup (st.ae i)=U (st.b_ (st.ae i))/\(st.b_ (st.ae i)).Nodup/\∀z∈st.b_ (st.ae i),0<=z/\z<(n:Int):=by
 obtain⟨gV,e,a,b⟩:=c.fr i h;have d:st.b_ (st.ae i)=gV:=by unfold JS.b_;rw[e];rfl
 simp_all
def WF.dist(c:WF n st)(h:i<st.hd.length):((st.b_ (st.ae i)).map λz=>(st.bV i).getD z.toNat 0).Nodup:=by
 obtain⟨e,a,b⟩:=c.d9 h;rw[Wk,Wl];refine(Xh.mp (Wk.mp a)).imp ?_;rintro u v ⟨d,mv,ne⟩ z;exact ne (Cg (c.lQ h).1 (c.lQ h).2 (b u d) (b v mv) z)
def WF.one(c:WF n st)(g:n<=8)(h:i<st.hd.length):uw st i (st.ae i) (st.bV i) (st.b_ (st.ae i)):=by
 obtain⟨e,a,b⟩:=c.d9 h;have:=yr a b;refine⟨yS h,c.Cj h,e,λz d=>by rw[(c.lQ h).2];exact b z d,(fI this (fI g (by decide))),c.dist h⟩
def WF.two(a:WF n st)(g:i<st.hd.length)(e:j<st.hd.length)(s:st.hd.length<=400)(p:st.ae i≠st.ae j):∃d c,UQ st n i j (st.ae i) (st.ae j) (st.bV i) (st.bV j) (st.b_ (st.ae i)) (st.b_ (st.ae j)) d c/\(d.Nodup/\∀k,k∈d↔k<st.hd.length/\st.ae k=st.ae i)/\(c.Nodup/\∀k,k∈c↔k<st.hd.length/\st.ae k=st.ae j):=by
 obtain⟨d,r,o,l⟩:=a.mem i g;obtain⟨c,q,m,h⟩:=a.mem j e;have u:=yq o λk b=>((l k).mp b).1;have t:=yq m λk b=>((h k).mp b).1;exact⟨d,c,⟨yS g,yS e,a.Cj g,a.Cj e,a.fl,a.ll,r,q,(a.d9 g).1,(a.d9 e).1,p,λk b=>((l k).mp b).1,λk b=>((h k).mp b).1,QO,a.nm⟩,⟨o,l⟩,m,h⟩
def WF.Cz(a:WF n st):st.fr.length<=st.hd.length:=by
 have:=yq a.nf a.lf
 simp_all
def WF.SD(a:WF n st):st.mem.length<=st.hd.length:=by
 have:=yq a.nm a.lm
 simp_all
def wf0:WF n ⟨[],[],[],[]⟩:=⟨rfl,λ_ h=>(nomatch h),λ_ h=>absurd h (Wu _),λ_ h=>absurd h (Wu _),.nil,λ_ h=>(nomatch h),.nil,λ_ h=>(nomatch h),λ_ h=>(nomatch h)⟩
theorem HX(st:JS)(h k:Nat)(v:Z Int)(a:st.fr.lookup h≠aJ):(st.mN h v).b_ k=if k=h then v else st.b_ k:=by
 show((fG h v st.fr).lookup k).getD []=_;rw[A2];by_cases e:k=h
 ·rw[bS e,bS e];cases b:st.fr.lookup h with
  |none=>grind
  |some x=>rfl
 ·rw[bR e,bR e];rfl
def WF.mN(c:WF n st)(h:i<st.hd.length):WF n (st.mN (st.ae i) ((st.b_ (st.ae i)).filter p)):=by
 refine⟨c.ll,c.fl,λk g=>?_,c.mem,c.nm,c.lm,?_,?_,?_⟩
 ·obtain⟨e,a,b⟩:=c.d9 g;show ∃d,(fG _ _ st.fr).lookup (st.ae k)=U d/\_;rw[A2]
  grind
 ·show((fG _ _ st.fr).map (·.1)).Nodup;rw[tM];exact c.nf
 ·show ∀k∈(fG _ _ st.fr).map (·.1),_;rw[tM];exact c.lf
 ·show ∀k∈(fG _ _ st.fr).map (·.1),_;rw[tM];exact c.hf
def yv(j:WF n st)(g:i<st.hd.length)(ss:Z Int)(f:Nat->Int):dH (st.mN (st.ae i) ((st.b_ (st.ae i)).filter λz=>decide ((st.bV i).getD z.toNat 0∈ss))) f↔dH st f/\f i∈ss:=by
 have e:st.fr.lookup (st.ae i)≠aJ:=by rw[(j.d9 g).1];exact λz=>nomatch z
 constructor
 ·rintro⟨s,h⟩;have c:∀k,k<st.hd.length->s (st.ae k)∈st.b_ (st.ae k)/\f k=ap (st.bV k) (s (st.ae k)):=λk c=>by
   obtain⟨a,b⟩:=h k c;refine⟨?_,b⟩;have d:s (st.ae k)∈(st.mN (st.ae i) ((st.b_ (st.ae i)).filter λz=>decide ((st.bV i).getD z.toNat 0∈ss))).b_ (st.ae k):=a;rw[HX st _ _ _ e] at d
   grind
  refine⟨⟨s,c⟩,?_⟩;obtain⟨a,b⟩:=h i g;have d:s (st.ae i)∈(st.mN (st.ae i) ((st.b_ (st.ae i)).filter λz=>decide ((st.bV i).getD z.toNat 0∈ss))).b_ (st.ae i):=a;rw[HX st _ _ _ e,bS rfl] at d;rw[b];exact eK (Y5.mp d).2
 ·rintro⟨⟨s,h⟩,m⟩;refine⟨s,λk c=>?_⟩;obtain⟨a,b⟩:=h k c;refine⟨?_,b⟩;show s (st.ae k)∈(st.mN (st.ae i) ((st.b_ (st.ae i)).filter λz=>decide ((st.bV i).getD z.toNat 0∈ss))).b_ (st.ae k);rw[HX st _ _ _ e];by_cases z:st.ae k=st.ae i
  ·rw[bS z];rw[z] at a⊢;refine Y5.mpr ⟨a,dg ?_⟩;rw[((h i g).2)] at m;exact m
  ·simp_all
def yH(l:WF n st){f:Nat->Int}(d:dH st f)(g c:Nat)(b a:Int)(p:b∈st.b_ g)(o:a∈st.b_ c)(m:g=c->b=a):∃i,dH st i/\∀k,k<st.hd.length->(st.ae k=g->i k=ap (st.bV k) b)/\(st.ae k=c->i k=ap (st.bV k) a):=by
 obtain⟨s,h⟩:=d;refine⟨λk=>ap (st.bV k) ((λq=>if q=g then b else if q=c then a else s q) (st.ae k)),⟨λq=>if q=g then b else if q=c then a else s q,λk j=>⟨?_,rfl⟩⟩,λk j=>⟨λe=>?_,λe=>?_⟩⟩;·grind
 ·simp_all
 ·simp_all
def yO(m:WF n st)(k:i<st.hd.length)(g:j<st.hd.length){f:Nat->Int}(d:dH st f):(f i,f j)∈jU (st.ae i) (st.ae j) (st.bV i) (st.bV j) (st.b_ (st.ae i)) (st.b_ (st.ae j)):=by
 obtain⟨s,h⟩:=d;obtain⟨c,b⟩:=h i k;obtain⟨l,a⟩:=h j g;unfold jU;by_cases e:st.ae i=st.ae j
 ·rw[bS e];refine Ye.mpr ⟨s (st.ae i),c,?_⟩;rw[b,a,←e];rfl
 ·rw[bR e];refine Xk.mpr ⟨f i,Ye.mpr ⟨_,c,b.symm⟩,Ye.mpr ⟨_,l,?_⟩⟩;rw[a];rfl
def P_(b:WF n st)(h:i<st.hd.length)(g:j<st.hd.length)(a:∃f,dH st f)(m:(x,y)∈jU (st.ae i) (st.ae j) (st.bV i) (st.bV j) (st.b_ (st.ae i)) (st.b_ (st.ae j))):∃f,dH st f/\f i=x/\f j=y:=by
 obtain⟨D,l⟩:=a;unfold jU at m;by_cases e:st.ae i=st.ae j
 ·rw[bS e] at m;obtain⟨z,c,k⟩:=Ye.mp m;obtain⟨f,d,q⟩:=yH b l (st.ae i) (st.ae i) z z c c (λ_=>rfl);exact⟨f,d,((q i h).1 rfl).trans (dC (·.1) k),((q j g).1 e.symm).trans (dC (·.2) k)⟩
 ·rw[bR e] at m;obtain⟨B,t,s⟩:=Xk.mp m;obtain⟨r,A,v⟩:=Ye.mp t;obtain⟨p,u,o⟩:=Ye.mp s;obtain⟨f,d,q⟩:=yH b l (st.ae i) (st.ae j) r p A u (λz=>absurd z e);exact⟨f,d,(((q i h).1 rfl).trans v).trans (dC (·.1) o),((q j g).2 rfl).trans (dC (·.2) o)⟩
end
theorem O7(a:Nat):∀(mv:Z Nat) (hd:Z Nat) (i:Nat),i<hd.length->(kY a mv hd)[i]?=if i∈mv then U a else hd[i]?
 |[],hd,i,h=>rfl
 |k::mv,hd,i,h=>by
  have b:=O7 a mv (hd.set k a) i (by rw[Jd];exact h);have c:kY a (k::mv) hd=kY a mv (hd.set k a):=rfl
  grind
theorem O8(a:Z Int):∀(mv:Z Nat) (ld:Z (Z Int)) (i:Nat),mv.Nodup->i<ld.length->(iN a mv ld)[i]?=if i∈mv then U (bQ (ld.getD i []) a) else ld[i]?
 |[],ld,i,_,h=>rfl
 |k::mv,ld,i,b,h=>by
  obtain⟨e,c⟩:=Y0.mp b;have d:iN a (k::mv) ld=iN a mv (qL a ld k):=rfl;rw[d,(O8 a mv (qL a ld k) i c (by unfold qL;rwa[Jd]))];by_cases m:i∈mv
  ·unfold qL
   grind
  ·rw[bR m];unfold qL
   grind
def O9(c:Nat)(b a:Z Nat):(kY c b a).length=a.length:=yo (λ_ _=>Jd) b a
def O_(c:Z Int)(b:Z Nat)(a:Z (Z Int)):(iN c b a).length=a.length:=yo (λ_ _=>by unfold qL;exact Jd) b a
section
variable {st:JS}
def rO(j:WF n st)(d:∀k,k∈c↔k<st.hd.length/\st.ae k=st.ae a)(h:Z Int)(g:i<st.hd.length):(st.mv (st.ae b) (st.ae a) mb c h).ae i=if st.ae i=st.ae a then st.ae b else st.ae i:=by
 show(kY (st.ae b) c st.hd).getD i 0=_;rw[Yg,O7 _ _ _ _ g];by_cases e:st.ae i=st.ae a;·simp_all
 ·rw[bR (λz=>e ((d i).mp z).2),bR e,←Yg];rfl
def Kb(g:WF n st)(h:b.Nodup)(d:∀k,k∈b↔k<st.hd.length/\st.ae k=st.ae a)(c:Z Int)(l:Nat)(j:i<st.hd.length):(st.mv l (st.ae a) mb b c).bV i=if st.ae i=st.ae a then bQ (st.bV i) c else st.bV i:=by
 show(iN c b st.ld).getD i []=_;rw[Yg,O8 _ _ _ _ h (by rwa[g.ll])];by_cases e:st.ae i=st.ae a;·rw[bS ((d i).mpr ⟨j,e⟩),bS e];rfl
 ·rw[bR (λz=>e ((d i).mp z).2),bR e,←Yg];rfl
def SE(c a:Nat)(d:Z Int)(b:h≠a):(st.mv c a e g d).b_ h=st.b_ h:=by
 show((dh a st.fr).lookup h).getD []=_;rw[vV b];rfl
def zb(a b:Nat)(c:Z Int):(st.mv a b d e c).hd.length=st.hd.length:=O9 _ _ _
def WF.mv(c:WF n st)(T:a<st.hd.length)(F:b<st.hd.length)(D:st.ae a≠st.ae b)(B:j.Nodup)(o:∀k,k∈j↔k<st.hd.length/\st.ae k=st.ae a)(P:d.Nodup)(Q:∀k,k∈d↔k<st.hd.length/\st.ae k=st.ae b)(J:st.mem.lookup (st.ae b)=U d)(G:full h=af)(A:h.length=n):WF n (st.mv (st.ae b) (st.ae a) d j h):=by
 have len:(st.mv (st.ae b) (st.ae a) d j h).hd.length=st.hd.length:=zb _ _ _;have y:∀k,k<st.hd.length->(if st.ae k=st.ae a then st.ae b else st.ae k)≠st.ae a:=λk l=>by
  grind
 have u:(st.mv (st.ae b) (st.ae a) d j h).mem.map (·.1)=(st.mem.map (·.1)).filter λk=>decide (k≠st.ae a):=by
  show(fG _ _ (dh _ st.mem)).map (·.1)=_;rw[tM,pT]
 have p:(st.mv (st.ae b) (st.ae a) d j h).fr.map (·.1)=(st.fr.map (·.1)).filter λk=>decide (k≠st.ae a):=pT _ _;refine⟨?_,λt E=>?_,λi g=>?_,λi g=>?_,?_,?_,?_,?_,?_⟩
 ·show(iN _ _ _).length=(kY _ _ _).length;rw[O_,O9];exact c.ll
 ·obtain⟨i,g,rfl⟩:=W0.mp E;have v:i<st.hd.length:=by
   have:(iN h j st.ld).length=st.ld.length:=O_ _ _ _;have W:i<(iN h j st.ld).length:=g;have:=c.ll;omega
  have e:=Kb (mb:=d) c B o h (st.ae b) v;have L:(st.mv (st.ae b) (st.ae a) d j h).bV i=(st.mv (st.ae b) (st.ae a) d j h).ld[i]:=by
   unfold JS.bV;rw[Yg,Yc g];rfl
  rw[←L,e];obtain⟨x,H⟩:=c.lQ v;by_cases z:st.ae i=st.ae a;·rw[bS z];exact⟨rq x G QO,by rw[jQ];exact A⟩
  ·rw[bR z];exact⟨x,H⟩
 ·rw[len] at g;rw[rO (mb:=d) c o h g];show ∃m,(dh (st.ae a) st.fr).lookup _=U m/\_;rw[vV (y i g)];by_cases e:st.ae i=st.ae a;·rw[bS e];exact⟨_,c.d9 F⟩
  ·rw[bR e];exact⟨_,c.d9 g⟩
 ·rw[len] at g;rw[rO (mb:=d) c o h g];show ∃q,(fG (st.ae b) (d++j) (dh (st.ae a) st.mem)).lookup _=U q/\_;rw[A2,vV (y i g),vV (λz=>D z.symm),J];have iff:∀k,k<st.hd.length->((st.mv (st.ae b) (st.ae a) d j h).ae k=(if st.ae k=st.ae a then st.ae b else st.ae k)):=λk l=>rO (mb:=d) c o h l;by_cases e:(if st.ae i=st.ae a then st.ae b else st.ae i)=st.ae b
  ·rw[bS e];refine⟨_,rfl,List.nodup_append.mpr ⟨P,B,λx s t r z=>D (((o t).mp r).2.symm.trans (z▸((Q x).mp s).2))⟩,λk=>?_⟩
   rw[e,len];refine⟨λm=>?_,λm=>?_⟩
   ·rcases Yv.mp m with m|m;·obtain⟨l,m⟩:=(Q k).mp m;exact⟨l,by rw[iff k l];split<;>first|rfl|exact m⟩
    ·obtain⟨l,m⟩:=(o k).mp m;exact⟨l,(iff k l).trans (bS m)⟩
   ·obtain⟨l,m⟩:=m;rw[iff k l] at m;by_cases z:st.ae k=st.ae a;·exact Yu _ ((o k).mpr ⟨l,z⟩)
    ·rw[bR z] at m;exact Yt _ ((Q k).mpr ⟨l,m⟩)
  ·have N:¬st.ae i=st.ae a:=λz=>e (bS z);rw[bR N] at e⊢;rw[bR e];obtain⟨q,s,r,R⟩:=c.mem i g
   grind
 ·rw[u];exact c.nm.filter _
 ·rw[u,len];exact λk l=>c.lm k (Y5.mp l).1
 ·rw[p];exact c.nf.filter _
 ·rw[p,len];exact λk l=>c.lf k (Y5.mp l).1
 ·rw[p,len];intro k l;obtain⟨s,r⟩:=Y5.mp l;obtain⟨i,g,e⟩:=c.hf k s;refine⟨i,g,?_⟩;rw[rO (mb:=d) c o h g,bR (λz=>eK r (e.symm.trans z))];exact e
def Ra(g:WF n st)(t:a<st.hd.length)(j:b<st.hd.length)(m:st.ae a≠st.ae b)(H:J.Nodup)(p:∀k,k∈J↔k<st.hd.length/\st.ae k=st.ae a)(L:full l=af)(G:l.length=n)(f:Nat->Int):
  dH (st.mv (st.ae b) (st.ae a) mb J (bQ (inv (st.bV a)) (bQ l (st.bV b)))) f↔∃s:Nat->Int,(∀i,i<st.hd.length->(0<=s (st.ae i)/\s (st.ae i)<(n:Int))/\(st.ae i≠st.ae a->s (st.ae i)∈st.b_ (st.ae i))/\f i=ap (st.bV i) (s (st.ae i)))/\f a=ap l (f b):=by
 obtain⟨B,y⟩:=g.lQ t;obtain⟨N,o⟩:=g.lQ j;have X:=kW B;have W:(inv (st.bV a)).length=n:=by rw[gX];exact y
 generalize P:bQ (inv (st.bV a)) (bQ l (st.bV b))=d;have F:∀z:Int,0<=z/\z<(n:Int)->ap d z=ap (inv (st.bV a)) (ap l (ap (st.bV b) z)):=λz r=>by
  rw[←P,Ci (by rw[jQ,o];exact r),Ci (by rwa[o])]
 have E:∀z:Int,0<=z/\z<(n:Int)->0<=ap d z/\ap d z<(n:Int):=λz r=>by
  rw[F z r];exact nK X W (nK L G (nK N o r))
 have Q:d.length=n:=by rwa[←P,jQ,jQ]
 constructor
 ·rintro⟨s,h⟩;have u:=λi c=>by
   have x:=h i (by rwa[zb]);rw[rO g p d c,Kb g H p d _ c,SE] at x;·exact x
   ·by_cases e:st.ae i=st.ae a;·rw[bS e];exact λz=>m z.symm
    ·rwa[bR e]
  have A:=u b j;rw[bR (λz=>m z.symm),bR (λz=>m z.symm)] at A;have v:=(g.d9 j).2.2 _ A.1;have eq:∀i,i<st.hd.length->f i=ap (st.bV i) (if st.ae i=st.ae a then ap d (s (st.ae b)) else s (st.ae i)):=λi c=>by
   have x:=(u i c).2;by_cases e:st.ae i=st.ae a
   ·rw[bS e,bS e,Ci (by rw[Q];exact v)] at x;rw[bS e];exact x
   ·rw[bR e,bR e] at x;rw[bR e];exact x
  refine⟨λq=>if q=st.ae a then ap d (s (st.ae b)) else s q,λi c=>⟨?_,λe=>?_,eq i c⟩,?_⟩
  ·show 0<=(if st.ae i=st.ae a then _ else _)/\(if st.ae i=st.ae a then _ else _)<_;by_cases e:st.ae i=st.ae a;·rw[bS e];exact E _ v
   ·rw[bR e];have x:=(u i c).1;rw[bR e] at x;exact(g.d9 c).2.2 _ x
  ·show(if st.ae i=st.ae a then _ else _)∈_;have x:=(u i c).1;rw[bR e] at x;rwa[bR e]
  ·rw[eq a t,bS rfl,F _ v,Q_ B y (nK L G (nK N o v)),A.2]
 ·rintro⟨s,h,ef⟩;have R:=(h b j).1;have T:=(h a t).1;have D:ap d (s (st.ae b))=s (st.ae a):=by
   rw[F _ R,←(h b j).2.2,←ef,(h a t).2.2,wD B y T]
  refine⟨s,λi c=>?_⟩;rw[zb] at c;rw[rO g p d c,Kb g H p d _ c,SE]
  ·by_cases e:st.ae i=st.ae a
   ·rw[bS e,bS e];refine⟨(h b j).2.1 (λz=>m z.symm),?_⟩;rw[Ci (by rwa[Q]),D,←e];exact(h i c).2.2
   ·rw[bR e,bR e];exact⟨(h i c).2.1 e,(h i c).2.2⟩
  ·by_cases e:st.ae i=st.ae a;·rw[bS e];exact λz=>m z.symm
   ·rwa[bR e]
end
section
variable {st:JS}{i j:Nat}{ns:Z Int}
def Qa{P:Z (Int×Int)}(b:ns.Perm ((P.filter λq=>decide (a.getD q.1.toNat 0=q.2)).map (·.1)))(x:Int):x∈ns↔(x,ap a x)∈P:=by
 rw[b.mem_iff,Ye];constructor
 ·rintro⟨⟨u,v⟩,m,rfl⟩;obtain⟨d,c⟩:=Y5.mp m;have e:ap a u=v:=eK c;rw[e];exact d
 ·intro m;exact⟨_,Y5.mpr ⟨m,dg rfl⟩,rfl⟩
abbrev JS.cq(st:JS)(i j:Nat):Z (Int×Int):=jU (st.ae i) (st.ae j) (st.bV i) (st.bV j) (st.b_ (st.ae i)) (st.b_ (st.ae j))
def HY(d:st.ae i≠st.ae j)(m:(x,y)∈st.cq i j):(∃z∈st.b_ (st.ae i),ap (st.bV i) z=x)/\∃z∈st.b_ (st.ae j),ap (st.bV j) z=y:=by
 unfold JS.cq jU at m;rw[bR d] at m;obtain⟨n,g,e⟩:=Xk.mp m;obtain⟨c,l,k⟩:=Ye.mp g;obtain⟨b,h,a⟩:=Ye.mp e;exact⟨⟨c,l,k.trans (dC (·.1) a)⟩,b,h,(dC (·.2) a)⟩
def SG(a:WF n st)(c:i<st.hd.length)(m:(x,y)∈st.cq i j):0<=x/\x<(n:Int):=by
 obtain⟨h,g⟩:=a.lQ c;by_cases e:st.ae i=st.ae j
 ·unfold JS.cq jU at m;rw[bS e] at m;obtain⟨z,b,d⟩:=Ye.mp m;have k:ap (st.bV i) z=x:=dC (·.1) d;rw[←k];exact nK h g ((a.d9 c).2.2 z b)
 ·obtain⟨⟨z,b,d⟩,_⟩:=HY e m;exact d▸nK h g ((a.d9 c).2.2 z b)
def Rb(c:WF n st)(h:n<=8)(g:i<st.hd.length)(d:j<st.hd.length):(st.cq i j).length<=64:=by
 have a:=yr (c.d9 g).2.1 (c.d9 g).2.2;have b:=yr (c.d9 d).2.1 (c.d9 d).2.2;unfold JS.cq jU;by_cases e:st.ae i=st.ae j;·grind
 ·rw[bR e,Ir (λ(x z:Int)=>((x,(st.bV j).getD z.toNat 0):Int×Int)),Ya];exact Yz (vi (show _<=8 by omega) (show _<=8 by omega)) (by decide)
def ZeO(b:WF n st)(a:i<st.hd.length)(k:j<st.hd.length)(e:st.ae i=st.ae j)(q:∀x,x∈ns↔(x,ap g x)∈st.cq i j)(f:Nat->Int):dH st f/\f i∈ns↔dH st f/\f j=ap g (f i):=by
 refine sX λd=>?_;constructor
 ·intro m;have c:=(q _).mp m;obtain⟨s,h⟩:=d;unfold JS.cq jU at c;rw[bS e] at c;obtain⟨z,p,o⟩:=Ye.mp c;have u:ap (st.bV j) z=ap g (f i):=dC (·.2) o;obtain⟨t,r⟩:=b.lQ a;have l:=(b.d9 a).2.2;rw[(h j k).2,←e,←(Cg t r (l z p) (l _ (h i a).1) ((dC (·.1) o).trans (h i a).2)),u]
 ·intro m;have:=yO b a k d
  grind
def Zgh(b:WF n st)(a:i<st.hd.length)(g:j<st.hd.length)(q:st.ae i≠st.ae j)(B:t.Nodup)(F:∀k,k∈t↔k<st.hd.length/\st.ae k=st.ae i)(o:full l=af)(p:l.length=n)(r:∀x,x∈ns↔(x,ap l x)∈st.cq i j)(f:Nat->Int):
  dH (st.mv (st.ae j) (st.ae i) L t (bQ (inv (st.bV i)) (bQ (inv l) (st.bV j)))) f/\f i∈ns↔dH st f/\f j=ap l (f i):=by
 rw[Ra b a g q B F (kW o) (by rwa[gX])];obtain⟨v,u⟩:=b.lQ a;obtain⟨G,E⟩:=b.lQ g;constructor
 ·rintro⟨⟨s,h,J⟩,m⟩;obtain⟨⟨z,D,H⟩,_⟩:=HY q ((r _).mp m);have N:=Cg v u ((b.d9 a).2.2 z D) (h i a).1 (H.trans (h i a).2.2);refine⟨⟨s,λk c=>⟨?_,(h k c).2.2⟩⟩,?_⟩;·grind
  ·have y:0<=f j/\f j<(n:Int):=by rw[(h j g).2.2];exact nK G E (h j g).1
   rw[J,Q_ o p y]
 ·rintro⟨d,e⟩;have m:=yO b a g d;rw[e] at m;obtain⟨s,h⟩:=d;refine⟨⟨s,λk c=>⟨(b.d9 c).2.2 _ (h k c).1,λ_=>(h k c).1,(h k c).2⟩,?_⟩,(r _).mpr m⟩;have A:0<=f i/\f i<(n:Int):=by rw[(h i a).2];exact nK v u ((b.d9 a).2.2 _ (h i a).1)
  rw[e,wD o p A]
def Zgi(c:WF n st)(q:i<st.hd.length)(b:j<st.hd.length)(l:st.ae i≠st.ae j)(t:p.Nodup)(u:∀k,k∈p↔k<st.hd.length/\st.ae k=st.ae j)(B:full g=af)(v:g.length=n)(o:∀x,x∈ns↔(x,ap g x)∈st.cq i j)(f:Nat->Int):
  dH (st.mv (st.ae i) (st.ae j) F p (bQ (inv (st.bV j)) (bQ g (st.bV i)))) f/\f i∈ns↔dH st f/\f j=ap g (f i):=by
 rw[Ra c b q (λz=>l z.symm) t u B v];obtain⟨D,A⟩:=c.lQ b;constructor
 ·rintro⟨⟨s,h,r⟩,m⟩;obtain⟨_,z,y,E⟩:=HY l ((o _).mp m);have G:=Cg D A ((c.d9 b).2.2 z y) (h j b).1 ((E.trans r.symm).trans (h j b).2.2);refine⟨⟨s,λk a=>⟨?_,(h k a).2.2⟩⟩,r⟩
  grind
 ·rintro⟨d,e⟩;have m:=yO c q b d;rw[e] at m;obtain⟨s,h⟩:=d;exact⟨⟨s,λk a=>⟨(c.d9 a).2.2 _ (h k a).1,λ_=>(h k a).1,(h k a).2⟩,e⟩,(o _).mpr m⟩
end
def t8(b d:JS)(i j:Nat):Prop:=∀a c,a<b.hd.length->c<b.hd.length->(d.ae a=d.ae c↔b.ae a=b.ae c\/(b.ae a=b.ae i/\b.ae c=b.ae j)\/(b.ae a=b.ae j/\b.ae c=b.ae i))
def ZeP(e:st.ae i=st.ae j):t8 st st i j:=λa c _ _=>⟨.inl,λh=>h.elim id λh=>h.elim (λh=>h.1.trans (e.trans h.2.symm)) λh=>h.1.trans (e.symm.trans h.2.symm)⟩
def SH(d:WF n st)(e:∀k,k∈g↔k<st.hd.length/\st.ae k=st.ae a)(c:Z Int)(j:st.ae a≠st.ae b):t8 st (st.mv (st.ae b) (st.ae a) l g c) a b:=λx y i h=>by
 rw[rO d e c i,rO d e c h]
 grind
def t8.symm(h:t8 st e j i):t8 st e i j:=λa c d b=>(h a c d b).trans (or_congr Iff.rfl or_comm)
structure SI(n:Nat)(st aS:JS)(b:cm)(i j:Nat)(tn:Z Int):Prop where
 wf:WF n aS
 len:aS.hd.length=st.hd.length
 yes:b=af->(∃f,dH aS f)/\∀f,dH aS f↔dH st f/\f j=ap tn (f i)
 no:b=a7->aS=st/\∀f,dH st f->f j≠ap tn (f i)
 xD:b=af->t8 st aS i j
inductive TX(C:O)(k:Z V)(H:Hp)(Q:VK)(E:XK):Prop
 |mk (l:JL) (st:JS) (n i j:Nat) (a:Z Int) (g:O) (x:k=[.ref l.J,.int (i:Int),.int (j:Int),.ref g]) (v:cX H C n l st) (t:WF n st) (u:(∃f,dH st f)) (s:n<=8) (r:st.hd.length<=400) (q:i<st.hd.length) (p:j<st.hd.length) (o:H g=U (.tup (a.map V.int))) (m:full a=af) (z:a.length=n) (y:∀(b:cm) (d:JL) (h:JS) (e:Hp),d.J=l.J->(∀c∈d.fp,c∈l.fp)->Out l.fp H e->cX e C n d h->SI n st h b i j a->Q (.bl b) e)
def NO:aT ["self","one","other","turn","sections"] mQ (aO Gy):=.a9
theorem Zh4(F:aR K "tie" "Joins.tie" Gy f fd)(jc:nC K C)(vJ:bY P w K mg I 4 "left" C mQ (J_ C))(vD:bY P w K mg I 1 "together" C rY (G9 C))(ED:bY P w K mg I 3 "bring_together" C mQ (Q8 C))(vE:bY P w K mg I 2 "narrow" C CY (Iq K C))(bl:Bl mg):aI P w K mg I aP 5 f fd mQ (TX C):=by
 refine F.o NO λs H hr h=>?_;obtain⟨l,st,n,i,j,tn,W,rfl,B,g,J,E,m4,k,t,hu,Q,X,q⟩:=h;refine⟨_,(aq (cy 4 NO.nd (cV vJ hr (by decide) (pv 0) (aa (pv 1) (aa (pv 2) (aa (pv 3) ag))))) (aq (aW (i4 (HM (K:=K) rfl (Ii (pv 4) (λ_=>rfl)))) (au (aL i8)) a_) (aq (aW (i4 (eX (cV vD hr (by decide) (pv 0) (aa (pv 1) (aa (pv 2) ag))))) (au (cG (cV ED hr (by decide) (pv 0) (aa (pv 1) (aa (pv 2) (aa (pv 3) ag)))))) a_) (aq (cG (cV vE hr (by decide) (pv 0) (aa (pv 1) (aa (pv 4) ag)))) (au (aL i8)))))),?_⟩;obtain⟨dx,ho⟩:=B.obj;have pf:=Rb g E k t;refine cC ?_;refine⟨_,rfl,l.J,dx,_,rfl,ho,rfl,_,rfl,_,rfl,_,rfl,l,st,n,i,j,_,_,_,_,_,_,tn,W,rfl,B,g.one E k,g.one E t,hu,λp N=>by rw[X];exact SG g k (x:=p.1) (y:=p.2) N,Yz pf (by decide),λp ns H1 np v N pm _=>?_⟩;have G:=Qa pm;refine nB (λσ D=>σ=[U (.ref l.J),U (.int (i:Int)),U (.int (j:Int)),U (.ref W),U (.ref p)]/\D=H1/\ns≠[]) (λnx hn=>?_) ?_
 ·refine⟨_,rfl,_,.inl ⟨_,ak.of N,rfl⟩,?_⟩;refine bF (λc=>?_) (λc=>aX (hn _ _ ⟨rfl,rfl,λz=>?_⟩))
  ·have e:ns=[]:=by
    cases ns with
    |nil=>rfl
    |cons a r=>cases c
   refine q a7 l st H1 rfl (λ_ h=>h) (Out.of v) (B.same v) ⟨g,rfl,(λz=>nomatch z),λ_=>⟨rfl,λf d z=>?_⟩,(λz=>nomatch z)⟩;have m:=yO g k t d;rw[z] at m;have:=(G _).mpr m;rw[e] at this;cases this
  ·rw[z] at c;exact c rfl
 rintro _ _ ⟨rfl,rfl,nne⟩;refine nB (λσ D=>σ=[U (.ref l.J),U (.int (i:Int)),U (.int (j:Int)),U (.ref W),U (.ref p)]/\∃(A:JL) (u:JS),A.J=l.J/\(∀c∈A.fp,c∈l.fp)/\Out l.fp H D/\cX D C n A u/\D p=U (.lst (ns.map V.int))/\WF n u/\u.hd.length=st.hd.length/\(∀f,dH u f/\f i∈ns↔dH st f/\f j=ap tn (f i))/\t8 st u i j) (λnx hn=>?_) ?_
 ·refine⟨_,rfl,l.J,dx,_,rfl,v _ _ ho,rfl,_,rfl,_,rfl,l,st,n,i,j,_,_,rfl,B.same v,yS k,yS t,_,rfl,?_⟩;refine bF (λc=>?_) (λc=>aX (hn _ _ ⟨rfl,l,st,rfl,λ_ h=>h,Out.of v,B.same v,N,g,rfl,?_,?_⟩))
  ·have ne:st.ae i≠st.ae j:=λz=>by
    rw[dg z] at c;cases c
   obtain⟨ma,mb,two,⟨pq,ji⟩,xT,T⟩:=g.two k t m4 ne;refine⟨_,rfl,l.J,dx,_,rfl,v _ _ ho,rfl,_,rfl,_,rfl,_,rfl,l,st,n,i,j,_,_,_,_,tn,_,_,W,ma,mb,rfl,B.same v,v _ _ hu,E,X,Q,two,λA u D L k2 o2 j2 es=>hn _ _ ⟨rfl,A,u,L,k2,(Out.of v).trans o2,j2,o2 _ _ N (B.ne np),?_⟩⟩;obtain⟨fi,li⟩:=g.lQ k;obtain⟨fj,lj⟩:=g.lQ t;rcases es with rfl|rfl;·exact⟨g.mv k t ne pq ji xT T two.mB (rq (kW fi) (rq (kW Q) fj (by rw[gX];omega)) (by rw[gX,jQ];omega)) (by rwa[jQ,jQ]),zb _ _ _,Zgh g k t ne pq ji Q X G,SH g ji _ ne⟩
   ·exact⟨g.mv t k (λz=>ne z.symm) xT T pq ji two.mA (rq (kW fj) (rq Q fi QO) (by rw[gX,jQ];omega)) (by rwa[jQ,jQ]),zb _ _ _,Zgi g k t ne xT T Q X G,(SH g T _ (λz=>ne z.symm)).symm⟩
  ·have e:st.ae i=st.ae j:=by
    by_cases z:st.ae i=st.ae j;·exact z
    ·rw[g_ z] at c;exact absurd rfl c
   exact ZeO g k t e G
  ·have e:st.ae i=st.ae j:=by
    by_cases z:st.ae i=st.ae j;·exact z
    ·rw[g_ z] at c;exact absurd rfl c
   exact ZeP e
 rintro _ D ⟨rfl,A,u,L,k2,o2,j2,dO,R,UU,iff,hdj⟩;obtain⟨sP,uQ⟩:=j2.obj;have D0:i<u.hd.length:=by rwa[UU]
 have fl:=R.Cz;refine⟨_,rfl,A.J,sP,_,by rw[L],uQ,rfl,_,rfl,_,rfl,A,u,n,i,_,_,_,ns,p,by rw[L];rfl,j2,R.one E D0,QO,ak.of dO,λl2 H3 k3 k4 o3 j3=>?_⟩;refine q af l2 _ H3 (k3.trans L) (λc hc=>k2 c (by rw[←k4];exact hc)) (λb o e nb=>o3 _ _ (o2 _ _ e nb) λz=>nb (k2 b z)) j3 ⟨R.mN D0,UU,λ_=>⟨?_,λf=>?_⟩,(λz=>nomatch z),λ_=>hdj⟩
 ·obtain⟨x,mx⟩:∃x,x∈ns:=by
   cases ns with
   |nil=>exact absurd rfl nne
   |cons a r=>exact⟨a,Yk⟩
  obtain⟨f,d,e1,e2⟩:=P_ g k t J ((G x).mp mx);refine⟨f,(yv R D0 ns f).mpr ((iff f).mpr ⟨d,?_⟩)⟩;rw[e2,e1]
 ·exact(yv R D0 ns f).trans (iff f)
def oP(a b:Z Int):Prop:=full a=af/\full b=af/\a.length=b.length/\2<=a.length/\a.length<=8
def Zcp(g:oP xs d)(h:(z,ns)∈Cf xs d):full ns=af/\ns.length=xs.length:=by
 obtain⟨b,a,e,_,_⟩:=g;have c:=Ip b a e;simp[Ys,Y3,hP,Prod.mk.injEq] at h;rcases h with⟨rfl,rfl⟩|⟨rfl,rfl⟩|⟨rfl,rfl⟩|⟨rfl,rfl⟩|⟨rfl,rfl⟩|⟨rfl,rfl⟩|⟨rfl,rfl⟩;·exact⟨b,rfl⟩
 ·exact⟨c,by rw[tK];exact e.symm⟩
 ·exact⟨a,e.symm⟩
 ·exact⟨kW b,gX _⟩
 ·exact⟨kW c,by rw[gX,tK];exact e.symm⟩
 ·exact⟨kW a,by rw[gX];exact e.symm⟩
 ·exact⟨tQ (rj _),fS _⟩
structure Fc where
 k:ar
 one:Nat
 aN:Int
 tn:Z Int
abbrev bB:ar:="said"
def hJ(F:Z Fc)(x y:Nat)(t:Z Int):Prop:=∃c∈F,c.k≠bB/\((c.one=x/\c.aN.toNat=y/\t=c.tn)\/(c.aN.toNat=x/\c.one=y/\t=inv c.tn))
def jt(n:Nat)(F:Z Fc)(g:Nat->bq Int):Prop:=(∀x y t u,hJ F x y t->g x=U u->g y=U (ap t u))/\(∀c∈F,c.k=bB->∀u,g c.one=U u->u=c.aN)/\∀k v,g k=U v->0<=v/\v<(n:Int)
structure dY(n m:Nat)(c:Fc):Prop where
 one:c.one<m
 gc:c.k≠bB->(0<=c.aN/\c.aN.toNat<m)/\full c.tn=af/\c.tn.length=n
def ux(L:Nat->Z (Nat×Z Int))(x:Nat)(p:Nat×Z Int):Nat->Z (Nat×Z Int):=λz=>if z=x then L x++[p] else L z
def vY{k k':Key}(h:aZ a k=aJ):aZ (a++[(k,v)]) k'=if k'=k then U v else aZ a k':=by
 rw[←mj v h];exact Zeb _ _ _ _
def Qb:q∈ux L x p z↔q∈L z\/(z=x/\q=p):=by
 unfold ux;by_cases e:z=x
 ·rw[bS e,Yv,e];simp
 ·rw[bR e];simp[e]
def ZeQ:¬hJ [] x y t:=λa=>by obtain⟨_,m,_⟩:=a;exact nomatch m
def rA:hJ (F++[c]) x y t↔hJ F x y t\/(c.k≠bB/\((c.one=x/\c.aN.toNat=y/\t=c.tn)\/(c.aN.toNat=x/\c.one=y/\t=inv c.tn))):=by
 constructor
 ·rintro⟨a,m,d,b⟩;rcases Yv.mp m with m|m;·exact .inl ⟨a,m,d,b⟩
  ·rw[Yn] at m;subst m;exact .inr ⟨d,b⟩
 ·rintro(⟨a,m,h⟩|h);·exact⟨a,Yt _ m,h⟩
  ·exact⟨c,Yu _ Yk,h⟩
theorem lookup_mem:∀{a:Z (Nat×α)} {k:Nat} {v:α},a.lookup k=U v->(k,v)∈a
 |[],_,_,h=>by simp at h
 |p::a,k,v,h=>by
  rw[Ja] at h;by_cases e:k=p.1;·grind
  ·rw[beq_eq_false_iff_ne.mpr e] at h;exact Yw _ (lookup_mem h)
theorem mem_lookup:∀{a:Z (Nat×α)} {k:Nat} {v:α},(a.map (·.1)).Nodup->(k,v)∈a->a.lookup k=U v
 |p::a,k,v,b,h=>by
  obtain⟨d,c⟩:=Y0.mp (show(p.1::a.map (·.1)).Nodup from b);rw[Ja];rcases Ys.mp h with h|h;·grind
  ·have e:k≠p.1:=λz=>d (by rw[←z];exact Ye.mpr ⟨_,h,rfl⟩);rw[beq_eq_false_iff_ne.mpr e];exact mem_lookup c h
def Ba{k:Nat}(h:a.lookup k=U v):(a++[q]).lookup k=U v:=by
 grind
def Ov{k:Nat}(h:a.lookup k=aJ):(a++[(k,v)]).lookup k=U v:=by
 grind
def yT(a:∀c∈F,dY n m c)(e:hJ F x y t):x<m/\y<m/\full t=af/\t.length=n:=by
 obtain⟨c,b,i,h⟩:=e;obtain⟨⟨l,d⟩,j,k⟩:=(a c b).gc i;have g:=(a c b).one;rcases h with⟨rfl,rfl,rfl⟩|⟨rfl,rfl,rfl⟩;·simp_all
 ·exact⟨d,g,kW j,by rwa[gX]⟩
inductive dM(F:Z Fc)(x:Nat):Nat->Prop
 |refl:dM F x x
 |step {y z:Nat} {t:Z Int}:dM F x y->hJ F y z t->dM F x z
structure BF(F:Z Fc)(n m x:Nat)(a:Int)(g:Z (Nat×Int)):Prop where
 nd:(g.map (·.1)).Nodup
 lt:∀p∈g,p.1<m/\0<=p.2/\p.2<(n:Int)
 hd:g.lookup x=U a
 snd:∀g',jt n F g'->g' x=U a->∀p∈g,g' p.1=U p.2
 conn:∀p∈g,dM F x p.1
section
variable {n:Nat}{g:Z (Nat×Int)}
def bf0(c:x<m)(d:0<=a/\a<(n:Int)):BF F n m x a [(x,a)]:=by
 refine⟨QS,λp b=>?_,QS,λe _ h p b=>?_,λp b=>?_⟩;·simp_all
 ·simp_all
 ·rw[Yn] at b;exact b▸.refl
def BF.len(b:BF F n m x a g):g.length<=m:=by
 have:=yq b.nd λk d=>by
  obtain⟨p,c,rfl⟩:=Ye.mp d;exact(b.lt p c).1
 simp_all
def BF.add(b:BF F n m x a g)(o:∀c∈F,dY n m c)(e:hJ F k y t)(q:g.lookup k=U v)(s:g.lookup y=aJ):BF F n m x a (g++[(y,ap t v)]):=by
 obtain⟨_,j,r,l⟩:=yT o e;have mk:=lookup_mem q;refine⟨?_,λp d=>?_,Ba b.hd,λi c h p d=>?_,λp d=>?_⟩
 ·rw[Yo];refine Wr.mpr ⟨b.nd,QS,λu B w A z=>?_⟩
  grind
 ·rcases Yv.mp d with d|d;·exact b.lt p d
  ·rw[Yn] at d;exact d▸⟨j,nK r l (b.lt _ mk).2⟩
 ·rcases Yv.mp d with d|d;·exact b.snd i c h p d
  ·rw[Yn] at d;exact d▸c.1 k y t v e (b.snd i c h _ mk)
 ·rcases Yv.mp d with d|d;·exact b.conn p d
  ·rw[Yn] at d;exact d▸.step (b.conn _ mk) e
def BF.ZiY(b:BF F n m x a g)(e:hJ F k y t)(l:g.lookup k=U v)(j:g.lookup y=U i)(o:i≠ap t v):¬∃d,jt n F d/\d x=U a:=by
 rintro⟨d,c,h⟩;have q:=b.snd d c h _ (lookup_mem j);have p:=c.1 k y t v e (b.snd d c h _ (lookup_mem l))
 grind
def BF.Zh5(b:BF F n m x a g)(k:c∈F)(i:c.k=bB)(l:g.lookup c.one=U v)(j:v≠c.aN):¬∃d,jt n F d/\d x=U a:=by
 rintro⟨d,e,h⟩;exact j (e.2.1 c k i v (b.snd d e h _ (lookup_mem l)))
def Cl(L:Nat->Z (Nat×Z Int))(g:Z (Nat×Int))(r:Nat):Prop:=∀p,g[r]?=U p->∀q∈L p.1,g.lookup q.1=U (ap q.2 p.2)
def BF.done(b:BF F n m x a g)(o:∀x y t,(y,t)∈L x↔hJ F x y t)(p:∀r,r<g.length->Cl L g r)(i:∀c∈F,c.k=bB->∀u,g.lookup c.one=U u->u=c.aN):jt n F (λk=>g.lookup k):=by
 refine⟨λk y t u e j=>?_,i,λk v h=>(b.lt _ (lookup_mem h)).2⟩;obtain⟨r,d,l⟩:=W0.mp (lookup_mem j);have:=p r d (k,u) (by rw[Yc d,l]) (y,t) ((o _ _ _).mpr e);exact this
end
def A3{a:Type}{b c:Z (Nat×a)}{k:Nat}{v:a}(h:b.lookup k=U v):(b++c).lookup k=U v:=by
 grind
def Cl.app(b:r<g.length)(c:Cl L g r):Cl L (g++e) r:=λp a q d=>by
 rw[Wa b] at a;exact A3 (c p a q d)
open Classical in
noncomputable def eQ (F:Z Fc) (n x:Nat):Z Int:=(bH n).filter λa=>decide (∃g,jt n F g/\g x=U a)
def fW(f:Nat->Int)(c:Fc):Prop:=(c.k=bB->f c.one=c.aN)/\(c.k≠bB->f c.aN.toNat=ap c.tn (f c.one))
def m8(n m:Nat)(f:Nat->Int):Prop:=∀i,i<m->0<=f i/\f i<(n:Int)
structure dZ(n:Nat)(st:JS)(F:Z Fc):Prop where
 wf:WF n st
 gO:∀c∈F,dY n st.hd.length c
 iff:∀f,dH st f↔m8 n st.hd.length f/\∀c∈F,fW f c
 live:∃f,dH st f
 conn:∀i j,i<st.hd.length->j<st.hd.length->(st.ae i=st.ae j↔dM F i j)
def Zap{f:Nat->Int}(j:∀c∈F,dY n m c)(inr:m8 n m f)(d:∀c∈F,fW f c):∃g,jt n F g/\∀x,x<m->g x=U (f x):=by
 refine⟨λi=>if i<m then U (f i) else aJ,⟨λu v t a e o=>?_,λc b B u o=>?_,λk v E=>?_⟩,λx D=>bS D⟩
 ·obtain⟨H,y,_,_⟩:=yT j e;obtain⟨c,b,l,h⟩:=e;have s:=(d c b).2 l;obtain⟨_,G,A⟩:=(j c b).gc l;have p:f u=a:=by
   simp_all
  show(if v<m then U (f v) else aJ)=_;rw[bS y];rcases h with⟨rfl,rfl,rfl⟩|⟨rfl,rfl,rfl⟩;·rw[s,p]
  ·rw[←p,s,wD G A (inr _ (j c b).one)]
 ·have q:(if c.one<m then U (f c.one) else aJ)=U u:=o;rw[bS (j c b).one] at q;rw[←Ym q];exact(d c b).1 B
 ·have r:(if k<m then U (f k) else aJ)=U v:=E;by_cases z:k<m
  ·rw[bS z] at r;rw[←Ym r];exact inr k z
  ·simp_all
def F7{f:Nat->Int}(b:∀c∈F,dY n m c)(d:x<m)(inr:m8 n m f)(a:∀c∈F,fW f c):∃g,jt n F g/\g x=U (f x):=by
 obtain⟨g,c,h⟩:=Zap b inr a
 grind
theorem Zaq(t:∀c∈F,dY n m c)(inr:m8 n m f0)(b:∀c∈F,c.one=x\/fW f0 c)(j:jt n F g)(p:g x=U a):∃f,m8 n m f/\(∀c∈F,fW f c)/\f x=a/\∀i,f i=(g i).getD (f0 i):=by
 refine⟨λi=>(g i).getD (f0 i),λi q=>?_,λc d=>⟨λo=>?_,λk=>?_⟩,by show(g x).getD _=a;rw[p];rfl,λ_=>rfl⟩
 ·show 0<=(g i).getD (f0 i)/\(g i).getD (f0 i)<_;cases e:g i with
  |none=>exact inr i q
  |some v=>exact j.2.2 i v e
 ·show(g c.one).getD (f0 c.one)=_;cases e:g c.one with
  |none=>
   rcases b c d with h|h;·grind
   ·exact h.1 o
  |some v=>exact j.2.1 c d o v e
 ·show(g c.aN.toNat).getD (f0 c.aN.toNat)=ap c.tn ((g c.one).getD (f0 c.one));have s:hJ F c.one c.aN.toNat c.tn:=⟨c,d,k,.inl ⟨rfl,rfl,rfl⟩⟩;have l:hJ F c.aN.toNat c.one (inv c.tn):=⟨c,d,k,.inr ⟨rfl,rfl,rfl⟩⟩;cases e:g c.one with
  |some v=>
   rw[j.1 _ _ _ v s e];rfl
  |none=>
   have r:g c.aN.toNat=aJ:=by
    cases z:g c.aN.toNat with
    |none=>rfl
    |some v=>rw[j.1 _ _ _ v l z] at e;cases e
   rw[r];rcases b c d with h|h;·grind
   ·exact h.2 k
def F8(d:∀c∈F,dY n m c)(inr:m8 n m f0)(b:∀c∈F,c.one=x\/fW f0 c)(h:jt n F g)(e:g x=U a):∃f,m8 n m f/\(∀c∈F,fW f c)/\f x=a:=by
 obtain⟨f,k,j,i,_⟩:=Zaq d inr b h e
 grind
open Classical in
def wa:a∈eQ F n x↔(0<=a/\a<(n:Int))/\∃g,jt n F g/\g x=U a:=by
 unfold eQ;rw[Y5,eJ];refine and_congr_left λ_=>?_;unfold bH;rw[Ye];constructor
 ·rintro⟨i,b,rfl⟩;have:=Wj.mp b;omega
 ·intro h;exact⟨a.toNat,Wj.mpr QO,J8 h.1⟩
section
variable {n x:Nat}{st:JS}{F:Z Fc}
def dZ.room(b:dZ n st F)(k:x<st.hd.length)(a:Int):a∈eQ F n x↔∃f,dH st f/\f x=a:=by
 rw[wa];constructor
 ·rintro⟨_,g,r,h⟩;obtain⟨p,q⟩:=b.live;obtain⟨o,l⟩:=(b.iff p).mp q;obtain⟨f,i,j,e⟩:=F8 b.gO o (λc m=>.inr (l c m)) r h;exact⟨f,(b.iff f).mpr ⟨i,j⟩,e⟩
 ·rintro⟨f,d,rfl⟩;obtain⟨i,j⟩:=(b.iff f).mp d;exact⟨i x k,F7 b.gO k i j⟩
def dZ.put(h:dZ n st F)(l:dY n st.hd.length c)(g:WF n b)(a:b.hd.length=st.hd.length)(d:∃f,dH b f)(iff:∀f,dH b f↔dH st f/\fW f c)(m:∀i j,i<st.hd.length->j<st.hd.length->(b.ae i=b.ae j↔dM (F++[c]) i j)):dZ n b (F++[c]):=by
 refine⟨g,λk e=>?_,λf=>?_,d,by rwa[a]⟩
 ·rw[a];rcases Yv.mp e with e|e;·exact h.gO k e
  ·grind
 ·rw[iff,h.iff,a,and_assoc]
  grind
def Iu(F:Z Fc)(n x:Nat):(eQ F n x).Pairwise (·<=·)/\(eQ F n x).Nodup:=by
 have a:(bH n).Pairwise (·<=·):=by
  unfold bH;rw[Wl];exact List.pairwise_lt_range.imp λh=>by omega
 exact⟨a.filter _,(DD.GQ n).filter _⟩
def dZ.opn(e:dZ n st F)(c:x<st.hd.length)(j:ns.Perm ((st.b_ (st.ae x)).map λz=>(st.bV x).getD z.toNat 0))(i:ns.Pairwise (·<=·)):ns=eQ F n x:=by
 obtain⟨l,k⟩:=Iu F n x;refine z6 (λa b _ _ p o=>QO) i l (j.trans ((J0 ((e.wf.dist c)) k).mpr λa=>?_));rw[e.room c,Ye];constructor
 ·rintro⟨z,g,rfl⟩;obtain⟨r,m⟩:=e.live;obtain⟨f,d,q⟩:=yH e.wf m (st.ae x) (st.ae x) z z g g (λ_=>rfl);exact⟨f,d,(q x c).1 rfl⟩
 ·rintro⟨f,⟨s,h⟩,rfl⟩;exact⟨s (st.ae x),(h x c).1,(h x c).2.symm⟩
def mn(a:i<st.hd.length):(st.more n).ae i=st.ae i:=by
 show(st.hd++[_]).getD i 0=st.hd.getD i 0
 grind
def pQ:(st.more n).ae st.hd.length=st.hd.length:=by
 show(st.hd++[_]).getD _ 0=_;simp
def Qc(a:WF n st)(b:i<st.hd.length):(st.more n).bV i=st.bV i:=by
 show(st.ld++[_]).getD i []=st.ld.getD i [];rw[Yg,Wa (by rwa[a.ll]),←Yg]
def Pa(a:WF n st):(st.more n).bV st.hd.length=bH n:=by
 show(st.ld++[_]).getD _ []=_;rw[←a.ll];simp
theorem GC{b:Type}{a:Z (Nat×b)}{k:Nat}{v:b}(h:k∉a.map (·.1)):(a++[(k,v)]).lookup k=U v:=by
 refine Ov ?_;cases e:a.lookup k with
 |none=>rfl
 |some x=>exact absurd (A_ e) h
def jP:(st.more n).hd.length=st.hd.length+1:=by
 show(st.hd++[_]).length=_;simp
def Zds(n:Nat):full (bH n)=af/\(bH n).length=n:=⟨tQ (rj (bH n)),fS n⟩
def Rc(h:0<=z/\z<(n:Int)):ap (bH n) z=z:=by
 show(bH n).getD z.toNat 0=z;rw[Yg,ny QO]
 grind
def Iv:z∈bH n↔0<=z/\z<(n:Int):=by
 unfold bH;rw[Ye];constructor;·grind
 ·intro h;exact⟨z.toNat,Wj.mpr QO,J8 h.1⟩
def WF.zD(a:WF n st)(b:i<st.hd.length):st.ae i<st.hd.length:=a.lf _ (A_ (a.d9 b).1)
def WF.more(c:WF n st):WF n (st.more n):=by
 have p:st.hd.length∉st.mem.map (·.1):=λz=>Wd _ (c.lm _ z);have q:=λz=>Wd _ (c.lf _ z);have s:(st.more n).mem.map (·.1)=st.mem.map (·.1)++[st.hd.length]:=by
  show(st.mem++[(st.hd.length,[st.hd.length])]).map (·.1)=_;rw[Yo];rfl
 have o:(st.more n).fr.map (·.1)=st.fr.map (·.1)++[st.hd.length]:=by
  show(st.fr++[(st.hd.length,bH n)]).map (·.1)=_;rw[Yo];rfl
 have r:∀{m:Z Nat},m.Nodup->st.hd.length∉m->(m++[st.hd.length]).Nodup:=λ{m} h D=>Wr.mpr ⟨h,QS,λu v w A z=>by
  have:w=st.hd.length:=by simpa using A
  rw[z,this] at v;exact D v⟩
 refine⟨?_,λt B=>?_,λi d=>?_,λi d=>?_,?_,?_,?_,?_,?_⟩
 ·show(st.ld++[_]).length=(st.hd++[_]).length;rw[Yj,Yj,c.ll];rfl
 ·rcases Yv.mp (B) with h|h;·exact c.fl t h
  ·rw[Yn] at h;exact h▸Zds n
 ·rw[jP] at d;by_cases z:i=st.hd.length
  ·rw[z,pQ];exact⟨bH n,GC q,DD.GQ n,λ z=>Iv.mp⟩
  ·rw[mn (eH (fb d) z)];exact⟨_,Ba (c.d9 (eH (fb d) z)).1,(c.d9 (eH (fb d) z)).2⟩
 ·rw[jP] at d;by_cases z:i=st.hd.length
  ·rw[z,pQ];refine⟨[st.hd.length],GC p,QS,λk=>?_⟩;rw[Yn,jP];constructor
   ·rintro rfl;exact⟨(r0 _),pQ⟩
   ·rintro⟨g,j⟩;by_cases w:k=st.hd.length;·exact w
    ·rw[mn (eH (fb g) w)] at j;have:=c.zD (i:=k) (eH (fb g) w);omega
  ·obtain⟨y,e,a,b⟩:=c.mem i (eH (fb d) z);rw[mn (eH (fb d) z)];refine⟨y,Ba e,a,λk=>?_⟩;rw[b,jP];constructor
   ·rintro⟨g,j⟩;exact⟨(nh g),by rwa[mn g]⟩
   ·rintro⟨g,j⟩;by_cases w:k=st.hd.length
    ·rw[w,pQ] at j;have:=c.zD (i:=i) (eH (fb d) z);omega
    ·rw[mn (eH (fb g) w)] at j;exact⟨(eH (fb g) w),j⟩
 ·exact s▸r c.nm p
 ·rw[s,jP];intro k l;rcases Yv.mp l with h|h;·have:=c.lm k h;exact nh this
  ·rw[Yn] at h;exact tP (mD h)
 ·exact o▸r c.nf q
 ·rw[o,jP];intro k l;rcases Yv.mp l with h|h;·have:=c.lf k h;exact nh this
  ·rw[Yn] at h;exact tP (mD h)
 ·rw[o,jP];intro k l;rcases Yv.mp l with h|h
  ·obtain⟨i,d,e⟩:=c.hf k h;exact⟨i,(nh d),by rwa[mn d]⟩
  ·rw[Yn] at h;exact⟨st.hd.length,(r0 _),by rw[pQ,h]⟩
def Pb(c:WF n st)(f:Nat->Int):dH (st.more n) f↔dH st f/\(0<=f st.hd.length/\f st.hd.length<(n:Int)):=by
 have g:(st.more n).b_ st.hd.length=bH n:=by
  show((st.fr++[(st.hd.length,bH n)]).lookup st.hd.length).getD []=_;rw[GC (λz=>Wd _ (c.lf _ z))];rfl
 have e:∀i,i<st.hd.length->(st.more n).b_ (st.ae i)=st.b_ (st.ae i):=λi a=>by
  show((st.fr++[(st.hd.length,bH n)]).lookup _).getD []=_;rw[Ba (c.d9 a).1];rfl
 constructor
 ·rintro⟨s,h⟩;refine⟨⟨s,λi a=>?_⟩,?_⟩
  ·have x:=h i (by rw[jP];exact nh a);rw[mn a,Qc c a,e i a] at x;exact x
  ·have x:=h st.hd.length (by rw[jP];exact r0 _);rw[pQ,Pa c,g] at x;have b:=Iv.mp x.1;rwa[x.2,Rc b]
 ·rintro⟨⟨s,h⟩,b⟩;refine⟨λq=>if q=st.hd.length then f st.hd.length else s q,λi a=>?_⟩;rw[jP] at a;by_cases z:i=st.hd.length
  ·rw[z,pQ,Pa c,g];show(if st.hd.length=st.hd.length then _ else _)∈_/\f st.hd.length=ap _ (if st.hd.length=st.hd.length then _ else _);rw[bS rfl,Rc b];exact⟨Iv.mpr b,rfl⟩
  ·have d:i<st.hd.length:=(eH (fb a) z)
   have:=c.zD d;rw[mn d,Qc c d,e i d]
   grind
theorem Zgj(a:∀c∈F,dY n m c)(h:dM F x y)(b:x<m):y<m:=by
 cases h with
 |refl=>exact b
 |step _ e=>exact(yT a e).2.1
theorem dZ.more(a:dZ n st F)(v:0<n):dZ n (st.more n) F:=by
 refine⟨a.wf.more,λc r=>?_,λf=>?_,?_,λi j d m=>?_⟩
 ·have ok:=a.gO c r;exact jP▸⟨Wz ok.one,λp=>⟨⟨(ok.gc p).1.1,Wz (ok.gc p).1.2⟩,(ok.gc p).2⟩⟩
 ·rw[Pb a.wf,a.iff,jP];constructor
  ·rintro⟨⟨o,q⟩,y⟩;refine⟨λi d=>?_,q⟩;by_cases z:i=st.hd.length;·rwa[z]
   ·exact o i (eH (fb d) z)
  ·rintro⟨o,q⟩;exact⟨⟨λi d=>o i (nh d),q⟩,o _ (r0 _)⟩
 ·obtain⟨u,s,h⟩:=a.live;refine⟨λi=>if i=st.hd.length then 0 else u i,(Pb a.wf _).mpr ⟨⟨s,λi d=>?_⟩,?_⟩⟩;·grind
  ·(simp;omega)
 ·rw[jP] at d m;by_cases l:i=st.hd.length
  ·by_cases g:j=st.hd.length;·rw[l,g];exact⟨λ_=>.refl,λ_=>rfl⟩
   ·rw[l,pQ,mn (eH (fb m) g)];have:=a.wf.zD (i:=j) (eH (fb m) g);refine⟨λz=>QO,λz=>?_⟩;have b:∀{k:Nat},dM F st.hd.length k->k=st.hd.length:=λ{k} h=>by
     induction h with
     |refl=>rfl
     |step _ e t=>rw[t] at e;exact absurd (yT a.gO e).1 (Wd _)
    exact absurd (b z) g
  ·by_cases g:j=st.hd.length
   ·rw[g,pQ,mn (eH (fb d) l)];have:=a.wf.zD (i:=i) (eH (fb d) l);refine⟨λz=>QO,λz=>?_⟩;have:=Zgj a.gO z (eH (fb d) l);omega
   ·rw[mn (eH (fb d) l),mn (eH (fb m) g)];exact a.conn i j (eH (fb d) l) (eH (fb m) g)
def ZiZ:dZ n ⟨[],[],[],[]⟩ []:=⟨wf0,λ_ h=>(nomatch h),λf=>⟨λ_=>⟨λ_ h=>absurd h (Wu _),λ_ h=>(nomatch h)⟩,λ_=>⟨λ_=>0,λ_ h=>absurd h (Wu _)⟩⟩,⟨λ_=>0,λ_=>0,λ_ h=>absurd h (Wu _)⟩,λ_ _ h=>absurd h (Wu _)⟩
end
theorem dM.mono(h:∀x y t,hJ F x y t->hJ G x y t)(c:dM F x y):dM G x y:=by
 induction c with
 |refl=>exact .refl
 |step _ e a=>exact .step a (h _ _ _ e)
theorem dM.trans(c:dM F x y)(d:dM F y z):dM F x z:=by
 induction d with
 |refl=>exact c
 |step _ e a=>exact .step a e
def Zdt(h:c.k=bB):dM (F++[c]) x y↔dM F x y:=
 ⟨dM.mono λ_ _ _ e=>(rA.mp e).elim id λz=>absurd h z.1,dM.mono λ_ _ _ e=>rA.mpr (.inl e)⟩
theorem ZeR(h:c.k≠bB):dM (F++[c]) x y↔dM F x y\/(dM F x c.one/\dM F c.aN.toNat y)\/(dM F x c.aN.toNat/\dM F c.one y):=by
 have g:∀{x y:Nat},dM F x y->dM (F++[c]) x y:=λd=>d.mono λ_ _ _ e=>rA.mpr (.inl e);have k:hJ (F++[c]) c.one c.aN.toNat c.tn:=rA.mpr (.inr ⟨h,.inl ⟨rfl,rfl,rfl⟩⟩);have j:hJ (F++[c]) c.aN.toNat c.one (inv c.tn):=rA.mpr (.inr ⟨h,.inr ⟨rfl,rfl,rfl⟩⟩);constructor
 ·intro d;induction d with
  |refl=>exact .inl .refl
  |step _ e i=>
   rcases rA.mp e with e|⟨_,⟨rfl,rfl,_⟩|⟨rfl,rfl,_⟩⟩
   ·rcases i with a|⟨a,b⟩|⟨a,b⟩;·exact .inl (.step a e)
    ·exact .inr (.inl ⟨a,.step b e⟩)
    ·exact .inr (.inr ⟨a,.step b e⟩)
   ·rcases i with a|⟨a,b⟩|⟨a,b⟩;·exact .inr (.inl ⟨a,.refl⟩)
    ·exact .inr (.inl ⟨a,.refl⟩)
    ·exact .inl a
   ·rcases i with a|⟨a,b⟩|⟨a,b⟩;·exact .inr (.inr ⟨a,.refl⟩)
    ·exact .inl a
    ·exact .inr (.inr ⟨a,.refl⟩)
 ·rintro(a|⟨a,b⟩|⟨a,b⟩);·exact g a
  ·exact((g a).step k).trans (g b)
  ·exact((g a).step j).trans (g b)
section
variable {n i j:Nat}{st X:JS}{F:Z Fc}{k:ar}{tn:Z Int}{b:cm}
def ZeS(a:dZ n st F)(c:SI n st X b i j tn)(o:k≠bB)(p:dY n st.hd.length ⟨k,i,(j:Int),tn⟩):(b=af->dZ n X (F++[⟨k,i,(j:Int),tn⟩]))/\(b=a7->dZ n X F/\∀f,dH X f->¬fW f ⟨k,i,(j:Int),tn⟩):=by
 have g:∀f,fW f ⟨k,i,(j:Int),tn⟩↔f j=ap tn (f i):=λf=>⟨λh=>by have:=h.2 o;rwa [show((⟨k,i,(j:Int),tn⟩:Fc).aN.toNat)=j from Y6 j] at this,λh=>⟨λz=>absurd z o,λ_=>by rwa[show((⟨k,i,(j:Int),tn⟩:Fc).aN.toNat)=j from Y6 j]⟩⟩;refine⟨λe=>?_,λe=>?_⟩
 ·obtain⟨s,iff⟩:=c.yes e;have r:=p.one;have q:j<st.hd.length:=by
   have:=(p.gc o).1.2
   rwa [show((⟨k,i,(j:Int),tn⟩:Fc).aN.toNat)=j from Y6 j] at this
  refine a.put p c.wf c.len s (λf=>by rw[iff,g]) λx y m l=>?_;rw[c.xD e x y m l,ZeR o,show((⟨k,i,(j:Int),tn⟩:Fc).aN.toNat)=j from Y6 j,a.conn x y m l,a.conn x i m r,a.conn x j m q,←a.conn j y q l,←a.conn i y r l];exact or_congr_right (or_congr (sX λ_=>eq_comm) (sX λ_=>eq_comm))
 ·obtain⟨t,no⟩:=c.no e;exact t▸⟨a,λf d z=>no f d ((g f).mp z)⟩
def Rf(c:dZ n st F)(e:i<st.hd.length)(m:a∈(st.b_ (st.ae i)).map λz=>(st.bV i).getD z.toNat 0):dZ n (st.mN (st.ae i) ((st.b_ (st.ae i)).filter λz=>decide ((st.bV i).getD z.toNat 0∈[a]))) (F++[⟨bB,i,a,tn⟩]):=by
 refine c.put ⟨e,absurd rfl⟩ (c.wf.mN e) rfl ?_ (λf=>?_) λx y o l=>?_
 ·obtain⟨z,g,rfl⟩:=Ye.mp m;obtain⟨r,p⟩:=c.live;obtain⟨f,d,q⟩:=yH c.wf p (st.ae i) (st.ae i) z z g g (λ_=>rfl);exact⟨f,(yv c.wf e _ f).mpr ⟨d,by rw[(q i e).1 rfl];exact Yk⟩⟩
 ·rw[yv c.wf e,Yn];refine sX λ_=>?_;exact⟨λh=>⟨λ_=>h,absurd rfl⟩,λh=>h.1 rfl⟩
 ·rw[Zdt rfl];exact c.conn x y o l
def Zh6(g:dZ n st F)(c:i<st.hd.length)(m:a∉(st.b_ (st.ae i)).map λz=>(st.bV i).getD z.toNat 0)(f:Nat->Int)(d:dH st f):¬fW f ⟨bB,i,a,tn⟩:=by
 obtain⟨s,h⟩:=d;intro z;have e:f i=a:=z.1 rfl;refine m (Ye.mpr ⟨s (st.ae i),(h i c).1,?_⟩);rw[←e,(h i c).2];rfl
end
abbrev bC:=Z (ar×ar)
def av(a:bC)(i:Nat):ar:=(a.getD i ("","")).1
def bg(a:bC)(c:Fc):Key:=if c.k=bB then .inl c.aN else .inr (av a c.aN.toNat)
def d7(a:bC)(z:Nat)(c:Fc):Z Key:=[.inl (z:Int),.inr c.k,.inr (av a c.one),bg a c]
def keyOf(k a:ar):Key->Z Key
 |.inl b=>[.inr k,.inr a,.inl b]
 |.inr b=>if k="sibling" then[.inr k,.inr (L2.rW a b),.inr (L2.rX a b)] else[.inr k,.inr a,.inr b]
def fP(a:bC)(c:Fc):Z Key:=keyOf c.k (av a c.one) (bg a c)
def cM(k:ar):cm:=decide (k="mother")||decide (k="father")
def gP(a:bC)(b:Z (Nat×Fc)):Z (Z Key×V):=b.map λp=>(fP a p.2,.int (p.1:Int))
def cP(a:bC)(b:Z (Nat×Fc)):Z (Z Key×V):=(b.filter λp=>cM p.2.k).map λp=>([.inr p.2.k,.inr (av a p.2.one)],kV (bg a p.2))
def kr(a:bC):Z (Key×V):=a.zipIdx.map λp=>(.inr p.1.1,.int (p.2:Int))
structure C0 where
 way:Int
 row:Z Key
 c0:Nat
 c1:Nat
def oM(H:Hp)(a:O)(d:C0):Prop:=∃r,H a=U (.tup [.int d.way,.ref r,.int (d.c0:Int),.int (d.c1:Int)])/\H r=U (.tup (d.row.map kV))
structure BS where
 ps:bC
 fs:Z (Nat×Fc)
 co:Nat
 dn:Z C0
 un:Z C0
def BS.F(b:BS):Z Fc:=b.fs.map (·.2)
structure BL where
 h:O
 L:O
 sd:O
 pl:O
 fc:O
 kn:O
 pr:O
 dn:O
 un:O
 rk:V
 cz:Z O
 jj:Z O
 lR:Z O
 fJ:Z O
def BL.own(l:BL):Z O:=[l.h,l.sd,l.pl,l.fc,l.kn,l.pr,l.dn,l.un]
def BL.fp(l:BL):Z O:=l.own++l.fJ
structure fL(K:ah)(C:O):Prop where
 cls:hU K C
 wO:dG K C "land"
 tS:dG K C "sides"
 tO:dG K C "places"
 nA:dG K C "facts"
 BY:dG K C "known"
 wb:dG K C "parents"
 pU:dG K C "coming"
 Kc:dG K C "done"
 Qd:dG K C "undone"
 jn:dG K C "reckoned"
abbrev HF(L b e h g d:O)(j:Int)(i a:O)(c:V):Z (ar×V):=[("land",.ref L),("sides",.ref b),("places",.ref e),("facts",.ref h),("known",.ref g),("parents",.ref d),("coming",.int j),("done",.ref i),("undone",.ref a),("reckoned",c)]
def Zj1(a b c d e f g h i j:V):c8 "reckoned" j (c8 "undone" i (c8 "done" h (c8 "coming" g (c8 "parents" f (c8 "known" e (c8 "facts" d (c8 "places" c (c8 "sides" b (c8 "land" a [])))))))))=
  ([("land",a),("sides",b),("places",c),("facts",d),("known",e),("parents",f),("coming",g),("done",h),("undone",i),("reckoned",j)]:Z (ar×V)):=rfl
abbrev h_(a:bC):Z (Key×V):=a.map λp=>(.inr p.1,.str p.2)
inductive uy(H:Hp)(CJ:O)(n:Nat)(l:BL)(b:BS):Prop
 |no (e:l.rk=.ay) (d:l.fJ=[])
 |at_ (c:JL) (st:JS) (e:l.rk=.ref c.J) (d:l.fJ=c.fp) (h:cX H CJ n c st) (g:dZ n st b.F) (len:st.hd.length=b.ps.length) (i:∀a∈l.own,a∉c.fp)
structure bc(H:Hp)(C CL CJ:O)(l:BL)(xs ys:Z Int)(b:BS):Prop where
 obj:∃dx,H l.h=U (.ins C dx (HF l.L l.sd l.pl l.fc l.kn l.pr (b.co:Int) l.dn l.un l.rk))
 land:∀H',Out l.fp H H'->js H' CL l.L xs ys
 c_:H l.sd=U (.dK (h_ b.ps))
 places:H l.pl=U (.dK (kr b.ps))
 facts:H l.fc=U (.dK (bw (b.fs.map (·.1)) l.cz))
 fact:Paired (λa (p:Nat×Fc)=>H a=U (.tup ((d7 b.ps p.1 p.2).map kV))) l.cz b.fs
 known:H l.kn=U (.dT (gP b.ps b.fs))
 parents:H l.pr=U (.dT (cP b.ps b.fs))
 done:H l.dn=U (.lst (l.jj.map V.ref))
 lD:Paired (oM H) l.jj b.dn
 ju:H l.un=U (.lst (l.lR.map V.ref))
 oN:Paired (oM H) l.lR b.un
 ud:uy H CJ xs.length l b
 nd:l.own.Nodup
def oM.out(o:Out fp H g)(t:∀a e,H a=U (.tup e)->a∉fp)(h:oM H a d):oM g a d:=by
 obtain⟨r,c,b⟩:=h;exact⟨r,o _ _ c (t _ _ c),o _ _ b (t _ _ b)⟩
def cX.off(j:cX H C n l st)(h:H a=U (.tup xs)):a∉l.fp:=by
 intro z;unfold JL.fp at z;simp[Ys] at z;rcases z with rfl|rfl|rfl|rfl|rfl|z
 ·obtain⟨b,e⟩:=j.obj
  grind
 ·rw[j.heads] at h;cases h
 ·rw[j.jw] at h;cases h
 ·rw[j.kH] at h;cases h
 ·rw[j.frees] at h;cases h
 ·obtain⟨y,e⟩:=yC j.mem z
  grind
theorem cX.i_(j:cX H C n l st)(o:Out fp H g)(v:∀a∈fp,a∉l.fp)(s:∀a∈fp,a∉l.cz)(t:∀a q,H a=U (.tup q)->a∉fp):cX g C n l st:=by
 have k:∀{a:O} {u:HO},H a=U u->a∈l.fp->g a=U u:=λ{a u} e m=>o _ _ e λz=>v _ z m;obtain⟨r,e⟩:=j.obj;refine⟨⟨r,k e (by simp[JL.fp])⟩,k j.heads (by simp[JL.fp]),k j.jw (by simp[JL.fp]),L2.Paired.bL j.lead λa x h=>o _ _ h (t _ _ h),k j.kH (by simp[JL.fp]),?_,k j.frees (by simp[JL.fp]),?_,j.nd,j.out⟩
 ·have d:∀{b:Z O} {ps:Z (Nat×Z Nat)},Paired (λa p=>H a=U (.lst (eN p.2))) b ps->(∀a∈b,a∈l.fp)->Paired (λa p=>g a=U (.lst (eN p.2))) b ps:=by
   intro b ps p;induction p with
   |nil=>intro _;exact .nil
   |cons f _ i=>intro m;exact .cons (k f (m _ Yk)) (i λa c=>m a (Yw _ c))
  exact d j.mem λa c=>by simp[JL.fp,c]
 ·have d:∀{b:Z O} {ps:Z (Nat×Z Int)},Paired (λa p=>H a=U (.lst (p.2.map V.int))) b ps->(∀a∈b,a∈l.cz)->Paired (λa p=>g a=U (.lst (p.2.map V.int))) b ps:=by
   intro b ps p;induction p with
   |nil=>intro _;exact .nil
   |cons f _ i=>intro m;exact .cons (o _ _ f λz=>s _ z (m _ Yk)) (i λa c=>m a (Yw _ c))
  exact d j.free λa c=>c
section
variable {H:Hp}{l:BL}{b:BS}
def bc.landAt(h:bc H C CL CJ l xs ys b):js H CL l.L xs ys:=h.land H (Out.of (aj.refl _))
theorem bc.tup(h:bc H C CL CJ l xs g b)(e:H a=U (.tup us)):a∉l.fp:=by
 intro z;unfold BL.fp BL.own at z;rcases Yv.mp z with z|z
 ·simp[Ys,Y3,hP] at z;rcases z with rfl|rfl|rfl|rfl|rfl|rfl|rfl|rfl
  ·obtain⟨j,q⟩:=h.obj
   simp_all
  ·rw[h.c_] at e;cases e
  ·rw[h.places] at e;cases e
  ·rw[h.facts] at e;cases e
  ·rw[h.known] at e;cases e
  ·rw[h.parents] at e;cases e
  ·rw[h.done] at e;cases e
  ·rw[h.ju] at e;cases e
 ·cases h.ud with
  |no _ c=>simp_all
  |at_ i st _ c d=>rw[c] at z;exact d.off e z
theorem bc.there(h:bc H C CL CJ l xs g b)(z:a∈l.fp):H a≠aJ:=by
 intro e;unfold BL.fp BL.own at z;rcases Yv.mp z with z|z
 ·simp[Ys,Y3,hP] at z;rcases z with rfl|rfl|rfl|rfl|rfl|rfl|rfl|rfl
  ·obtain⟨j,q⟩:=h.obj
   grind
  ·rw[h.c_] at e;cases e
  ·rw[h.places] at e;cases e
  ·rw[h.facts] at e;cases e
  ·rw[h.known] at e;cases e
  ·rw[h.parents] at e;cases e
  ·rw[h.done] at e;cases e
  ·rw[h.ju] at e;cases e
 ·cases h.ud with
  |no _ c=>grind
  |at_ i st _ c d=>rw[c] at z;exact d.ne e z
theorem uy.same(g:aj H k)(h:uy H CJ n l b):uy k CJ n l b:=by
 cases h with
 |no c a=>exact .no c a
 |at_ e st c a i d len j=>exact .at_ e st c a (i.same g) d len j
def bc.same(g:aj H k)(h:bc H C CL CJ l xs d b):bc k C CL CJ l xs d b:=
 ⟨let⟨i,e⟩:=h.obj;⟨i,g _ _ e⟩,λj o=>h.land j ((Out.of g).trans o),g _ _ h.c_,g _ _ h.places,g _ _ h.facts,L2.Paired.bL h.fact λ _ _=>g _ _,g _ _ h.known,g _ _ h.parents,g _ _ h.done,L2.Paired.bL h.lD λ_ _ ⟨r,c,a⟩=>⟨r,g _ _ c,g _ _ a⟩,g _ _ h.ju,L2.Paired.bL h.oN λ_ _ ⟨r,c,a⟩=>⟨r,g _ _ c,g _ _ a⟩,h.ud.same g,h.nd⟩
def fH(d c:Z O)(H:Hp):Prop:=∀a∈c,a∈d\/H a=aJ
def fH.refl(a:Z O)(H:Hp):fH a a H:=λ_ h=>.inl h
def Iw(o:Out fp H H1)(g:fH fp c H)(d:Out c H1 H2):Out fp H H2:=λa u e n=>d _ _ (o _ _ e n) λz=>(g a z).elim n λq=>by rw[e] at q;cases q
theorem fH.trans(g:fH fp d H)(o:Out fp H H1)(h:fH d c H1):fH fp c H:=λa z=>by
 rcases h a z with q|q;·exact g a q
 ·by_cases m:a∈fp;·exact .inl m
  ·right
   cases e:H a with
   |none=>rfl
   |some u=>rw[o _ _ e m] at q;cases q
def fH.same(s:aj H H1)(d:fH fp c H1):fH fp c H:=λa z=>(d a z).imp id λq=>s.free q
def ZeT(c:dZ n st F)(m:(k,a)∈st.fr):a≠[]:=by
 obtain⟨i,g,e⟩:=c.wf.hf k (Ye.mpr ⟨_,m,rfl⟩);obtain⟨f,s,d⟩:=c.live;have q:=(d i g).1;unfold JS.b_ at q;rw[e,(mem_lookup c.wf.nf m)] at q
 grind
theorem Zgk(A:cX H CJ n z st)(v:dZ n st b.F)(h:∃T t,H l.h=U (.ins C T t))(Q:∃k,H l.sd=U (.dK k))(P:∃k,H l.pl=U (.dK k))(N:∃k,H l.fc=U (.dK k))(L:∃k,H l.kn=U (.dT k))(J:∃k,H l.pr=U (.dT k))(G:∃c:Z O,H l.dn=U (.lst (c.map V.ref)))(F:∃c:Z O,H l.un=U (.lst (c.map V.ref))):∀a∈l.own,a∉z.cz:=by
 intro a g E;obtain⟨p,D,e⟩:∃p∈st.fr,H a=U (.lst (p.2.map V.int)):=by
  have j:∀{c:Z O} {d:Z (Nat×Z Int)},Paired (λa p=>H a=U (.lst (p.2.map V.int))) c d->a∈c->∃p∈d,H a=U (.lst (p.2.map V.int)):=by
   intro c d u;induction u with
   |nil=>intro h;cases h
   |cons f _ B=>
    intro h;rcases Ys.mp h with rfl|h;·exact⟨_,Yk,f⟩
    ·obtain⟨q,m,e⟩:=B h;exact⟨q,Yw _ m,e⟩
  exact j A.free E
 have ne:=ZeT v (k:=p.1) D;have lst:∀c:Z O,H a=U (.lst (c.map V.ref))->False:=λc q=>by
  rw[q] at e;have i:c.map V.ref=p.2.map V.int:=by injection e with e;injection e
  cases o:p.2 with
  |nil=>exact ne o
  |cons x r=>
   rw[o] at i;cases c with
   |nil=>cases i
   |cons y s=>injection i with R _;cases R
 unfold BL.own at g;simp[Ys,Y3,hP] at g;rcases g with rfl|rfl|rfl|rfl|rfl|rfl|rfl|rfl;·obtain⟨_,_,q⟩:=h;rw[q] at e;cases e
 ·obtain⟨_,q⟩:=Q;rw[q] at e;cases e
 ·obtain⟨_,q⟩:=P;rw[q] at e;cases e
 ·obtain⟨_,q⟩:=N;rw[q] at e;cases e
 ·obtain⟨_,q⟩:=L;rw[q] at e;cases e
 ·obtain⟨_,q⟩:=J;rw[q] at e;cases e
 ·obtain⟨_,q⟩:=G;exact lst _ q
 ·obtain⟨_,q⟩:=F;exact lst _ q
def bc.Kd(h:bc H C CL CJ l xs j b)(g:cX H CJ xs.length d st)(c:dZ xs.length st b.F):∀a∈l.own,a∉d.cz:=
 Zgk g c (let⟨i,e⟩:=h.obj;⟨i,_,e⟩) ⟨_,h.c_⟩ ⟨_,h.places⟩ ⟨_,h.facts⟩ ⟨_,h.known⟩ ⟨_,h.parents⟩ ⟨_,h.done⟩ ⟨_,h.ju⟩
def bc.build(h:bc H C CL CJ l xs z b)(v:l'.h=l.h)(x:l'.L=l.L)(n:l'.sd=l.sd)(r:l'.pl=l.pl)(t:l'.fc=l.fc)(s:l'.kn=l.kn)(q:l'.pr=l.pr)(u:l'.dn=l.dn)(m:l'.un=l.un)(o:Out l.fp H c)(g:fH l.fp l'.fp H)
  (D:∃J,c l.h=U (.ins C J (HF l.L l.sd l.pl l.fc l.kn l.pr (b'.co:Int) l.dn l.un l'.rk)))(P:c l.sd=U (.dK (h_ b'.ps)))(i:c l.pl=U (.dK (kr b'.ps)))(k:c l.fc=U (.dK (bw (b'.fs.map (·.1)) l'.cz)))
  (e:Paired (λa (p:Nat×Fc)=>c a=U (.tup ((d7 b'.ps p.1 p.2).map kV))) l'.cz b'.fs)(j:c l.kn=U (.dT (gP b'.ps b'.fs)))(d:c l.pr=U (.dT (cP b'.ps b'.fs)))
  (y:c l.dn=U (.lst (l'.jj.map V.ref)))(G:Paired (oM c) l'.jj b'.dn)(N:c l.un=U (.lst (l'.lR.map V.ref)))(E:Paired (oM c) l'.lR b'.un)(A:uy c CJ xs.length l' b'):bc c C CL CJ l' xs z b':=by
 have B:l'.own=l.own:=by unfold BL.own;rw[v,n,r,t,s,q,u,m]
 refine⟨?_,λL F=>?_,by rwa[n],by rwa[r],by rwa[t],e,by rwa[s],by rwa[q],by rwa[u],G,by rwa[m],E,A,by exact B▸h.nd⟩;·rwa[v,x,n,r,t,s,q,u,m]
 ·exact x▸h.land L (Iw o g F)
theorem bc.owned(h:bc H C CL CJ l xs J b)(E:l'.h=l.h)(F:l'.L=l.L)(s:l'.sd=l.sd)(v:l'.pl=l.pl)(y:l'.fc=l.fc)(x:l'.kn=l.kn)(t:l'.pr=l.pr)(A:l'.dn=l.dn)(r:l'.un=l.un)
  (B:(l'.rk=l.rk/\l'.fJ=l.fJ/\b'.F=b.F/\b'.ps.length=b.ps.length)\/(l'.rk=.ay/\l'.fJ=[]))(o:Out l.own H H')
  (P:∃dx,H' l.h=U (.ins C dx (HF l.L l.sd l.pl l.fc l.kn l.pr (b'.co:Int) l.dn l.un l'.rk)))(c_:H' l.sd=U (.dK (h_ b'.ps)))(j:H' l.pl=U (.dK (kr b'.ps)))(q:H' l.fc=U (.dK (bw (b'.fs.map (·.1)) l'.cz)))
  (d:Paired (λa (p:Nat×Fc)=>H' a=U (.tup ((d7 b'.ps p.1 p.2).map kV))) l'.cz b'.fs)(m:H' l.kn=U (.dT (gP b'.ps b'.fs)))(c:H' l.pr=U (.dT (cP b'.ps b'.fs)))
  (G:H' l.dn=U (.lst (l'.jj.map V.ref)))(W:Paired (oM H') l'.jj b'.dn)(ju:H' l.un=U (.lst (l'.lR.map V.ref)))(Q:Paired (oM H') l'.lR b'.un):bc H' C CL CJ l' xs J b'/\fH l.fp l'.fp H:=by
 have k:l'.own=l.own:=by unfold BL.own;rw[E,s,v,y,x,t,A,r]
 have sub:∀a∈l'.fp,a∈l.fp:=λa z=>by
  unfold BL.fp at z⊢;rw[k] at z;rcases B with⟨_,e,_⟩|⟨_,e⟩;·rw[e] at z;exact z
  ·rw[e,Wf] at z;exact Yt _ z
 have of:Out l.fp H H':=λa u e n=>o _ _ e λz=>n (Yt _ z);refine⟨⟨?_,λH2 R=>?_,by rwa[s],by rwa[v],by rwa[y],d,by rwa[x],by rwa[t],by rwa[A],W,by rwa[r],Q,?_,by exact k▸h.nd⟩,λa z=>.inl (sub a z)⟩;·rwa[E,F,s,v,y,x,t,A,r]
 ·exact F▸h.land H2 (Iw of (λa z=>.inl (sub a z)) R)
 ·rcases B with⟨i,g,N,L⟩|⟨i,g⟩
  ·cases h.ud with
   |no e1 e2=>exact .no (by rwa[i]) (by rwa[g])
   |at_ X st e1 e2 D T len gQ=>
    exact .at_ X st (by rwa[i]) (by rwa[g]) (D.i_ o gQ (h.Kd D T) λa us e=>λz=>h.tup e (Yt _ z)) (by rwa[N]) (by rwa[L]) (by rwa[k])
  ·exact .no i g
end
abbrev r6:Z (ar×ar):=[("mother","m"),("father","f"),("wed","w"),("sibling","s")]
abbrev rS(a b:Z Int):Z (ar×Z Int):=[("mother",inv a),("father",inv (bQ a b)),("wed",b),("sibling",bH a.length)]
structure eI(xs ys:Z Int)(m:Nat)(c:Fc):Prop where
 ok:dY xs.length m c
 kind:c.k=bB\/(c.k,c.tn)∈rS xs ys
 Le:c.k=bB->0<=c.aN/\c.aN<(xs.length:Int)
def Zcq:(bB,a)∉rS xs ys:=by
 intro h;simp[Ys,Y3,hP] at h;rcases h with⟨h,_⟩|⟨h,_⟩|⟨h,_⟩|⟨h,_⟩<;>exact absurd h QK
def F9(h:(k,a)∈rS xs ys):∃r,PyProof.Rows.KTD.datumAt k r6=U r/\(r,a)∈Cf xs ys:=by
 simp[Ys,Y3,hP] at h;rcases h with⟨rfl,rfl⟩|⟨rfl,rfl⟩|⟨rfl,rfl⟩|⟨rfl,rfl⟩;·exact⟨"m",QK,QS⟩
 ·exact⟨"f",QK,QS⟩
 ·exact⟨"w",QK,QS⟩
 ·exact⟨"s",QK,QS⟩
def eI.wX(g:eI xs ys m c)(h:c.k≠bB):(c.k,c.tn)∈rS xs ys:=g.kind.resolve_left h
def ZeU(d:oP xs b)(h:(k,a)∈rS xs b):full a=af/\a.length=xs.length:=by
 obtain⟨r,_,c⟩:=F9 h;exact Zcp d c
theorem tT(b:(a.map (·.1)).Nodup)(d:i<a.length):aZ (kr a) (.inr (av a i))=U (.int (i:Int)):=by
 have g:∀(a:bC) (k i:Nat),(a.map (·.1)).Nodup->i<a.length->aZ ((a.zipIdx k).map λp=>((.inr p.1.1:Key),V.int (p.2:Int))) (.inr (av a i))=U (.int ((k+i:Nat):Int)):=by
  intro a;induction a with
  |nil=>intro k i _ h;cases h
  |cons p a n=>
   intro k i b d;obtain⟨l,j⟩:=Y0.mp (show(p.1::a.map (·.1)).Nodup from b);rw[List.zipIdx_cons,Wq];cases i with
   |zero=>exact gZ rfl
   |succ i=>
    have c:i<a.length:=by simpa using d
    have e:av (p::a) (i+1)=av a i:=rfl;have m:av a i∈a.map (·.1):=by
     unfold av;rw[Yg,Yc c];exact Ye.mpr ⟨_,Jo c,rfl⟩
    rw[e,gk (λz=>l (by rwa[Wi z])),n (k+1) i j c]
    congr 2
    omega
 have:=g a 0 i b d
 rwa [Nat.zero_add] at this
def kT(h:c.k=bB):bg a c=.inl c.aN:=bS h
def iF(h:c.k≠bB):bg ps c=.inr (av ps c.aN.toNat):=bR h
inductive IS(a:Z V)(H:Hp)(Q:VK)(E:XK):Prop
 |mk (k:ar) (c:a=[.str k]) (b:Q (.bl (oQ r6 k)) H)
inductive HZ(CL:O)(d:Z V)(H:Hp)(Q:VK)(E:XK):Prop
 |mk (L:O) (k:ar) (b a c:Z Int) (i:d=[.ref L,.str k]) (h:js H CL L b a) (e:(k,c)∈rS b a) (g:∀t:O,bN H t c->Q (.ref t) H)
inductive CA(c:Z V)(H:Hp)(Q:VK)(E:XK):Prop
 |mk (k a:ar) (o:Key) (g:c=[.str k,.str a,kV o]) (e:k="sibling"->∃b,o=.inr b) (d:Nw H (.tup ((keyOf k a o).map kV)) Q)
inductive Qe(CL CJ:O)(k:Z V)(H:Hp)(Q:VK):Prop
 |mk (e:JL) (st:JS) (L l m:O) (b g:Z Int) (d:bC) (F:Z Fc) (z:Nat) (c:Fc) (B:k=[.ref e.J,.ref L,.ref l,.ref m]) (t:cX H CJ b.length e st) (o:dZ b.length st F) (s:js H CL L b g) (y:oP b g) (u:H l=U (.dK (kr d))) (n:(d.map (·.1)).Nodup) (len:st.hd.length=d.length) (p:d.length<=100) (x:H m=U (.tup ((d7 d z c).map kV))) (A:eI b g d.length c) (r:∃f,dH st f/\fW f c)
   (q:∀(v:V) (h:JL) (i:JS) (j:Hp),h.J=e.J->(∀a∈h.fp,a∈e.fp)->Out e.fp H j->cX j CJ b.length h i->dZ b.length i (F++[c])->i.hd.length=st.hd.length->Q v j):Qe CL CJ k H Q
def IT(CL CJ:O):Sp:=λa H Q _=>Qe CL CJ a H Q
inductive Rg(CL CJ:O)(g:Z V)(H:Hp)(Q:VK):Prop
 |mk (i:JL) (st:JS) (L h j:O) (b e:Z Int) (a:bC) (F:Z Fc) (z:Nat) (c:Fc) (t:g=[.ref i.J,.ref L,.ref h,.ref j]) (o:cX H CJ b.length i st) (l:dZ b.length st F) (n:js H CL L b e) (r:oP b e) (p:H h=U (.dK (kr a))) (k:(a.map (·.1)).Nodup) (len:st.hd.length=a.length) (m:a.length<=100) (q:H j=U (.tup ((d7 a z c).map kV))) (s:eI b e a.length c)
   (q1:(∃f,dH st f/\fW f c)->∀d,aj H d->Q (.bl af) d) (q2:(∀f,dH st f->¬fW f c)->∀d,aj H d->Q (.bl a7) d):Rg CL CJ g H Q
def SJ(CL CJ:O):Sp:=λa H Q _=>Rg CL CJ a H Q
def BZ:∀b:cm,decide (V.str k=V.str bB)=b->(b=af↔k=bB):=λb e=>by
 grind
def Zdu:aT ["kind"] ["kind"] (aO Im):=.a9
def Zdv(F:aR K "is_tie" "is_tie" Im f fd)(b:mg "TIE_LETTERS"=U (.ref a))(c:xg K a r6):aI P w K mg I aP 1 f fd ["kind"] IS:=by
 refine F.o Zdu λs H d h=>?_;obtain⟨k,rfl,q⟩:=h;refine⟨_,(au (aL (BG (ZhG (K:=K) rfl) (pv 0) (dR (v:=.ref a) rfl b rfl) QU))),?_⟩;exact⟨_,rfl,k,a,r6,rfl,rfl,c,q⟩
abbrev zE:Z ar:=["land","kind"]
def Zbr:aT zE zE (aO GV):=.a9
def Zbs(F:aR K "tie_turn" "tie_turn" GV f fd)(l:mg "TIE_LETTERS"=U (.ref a))(n:xg K a r6)(B:wW K CL)(j:HasFn P w K mg I 1 "is_tie" ["kind"] IS)(y:bY P w K mg I 1 "step" CL CV (Sz CL)):aI P w K mg I aP 2 f fd zE (HZ CL):=by
 refine F.o Zbr λs H c h=>?_;obtain⟨L,k,i,g,m,rfl,b,t,q⟩:=h;refine⟨_,(aq (aW (i4 (eX (aV j c (aa (pv 1) ag)))) gY a_) (au (aL (cV y c (by decide) (pv 0) (aa (bh (ZfT (K:=K) rfl) (dR (v:=.ref a) rfl l rfl) (pv 1)) ag))))),?_⟩;obtain⟨r,e,p⟩:=F9 t;have o:oQ r6 k=af:=by unfold oQ;rw[e];rfl
 obtain⟨x,d,A,D,z,J,E,G,st,u,_⟩:=id b;refine⟨_,rfl,k,rfl,_,rfl,?_⟩;rw[o];refine bT (aX ?_);exact⟨_,rfl,L,x,_,rfl,u,rfl,_,rfl,a,k,r,r6,rfl,rfl,n,e,L,r,i,g,m,rfl,b,p,q⟩
abbrev xt:Z ar:=["kind","one","other"]
def Zbt:aT xt xt (aO GW):=.a9
theorem Zbu(F:aR K "fact_key" "fact_key" GW f fd)(g:mg "SIBLING"=U (.str "sibling" t1))(d:Bl mg):aI P w K mg I aP 1 f fd xt CA:=by
 refine F.o Zbt λs H l h=>?_;obtain⟨k,a,o,rfl,j,q⟩:=h;refine⟨_,(aq (aW (bJ cL (pv 0) (dR (v:=.str "sibling") rfl g ⟨_,rfl⟩)) (au (aL (dX (aa (pv 0) (aa (iY (Zcd rfl) rfl d.ZiF Zg7 (aa (pv 1) (aa (pv 2) ag))) (aa (iY (Zce rfl) rfl d.ZiG ZhT (aa (pv 1) (aa (pv 2) ag))) ag)))))) a_) (au (aL (dX (aa (pv 0) (aa (pv 1) (aa (pv 2) ag))))))),?_⟩;refine⟨_,rfl,rfl,_,rfl,?_⟩;by_cases e:k="sibling"
 ·obtain⟨b,rfl⟩:=j e;rw[dg (by rw[e])];refine⟨_,rfl,_,rfl,_,rfl,_,_,rfl,_,rfl,_,rfl,_,_,rfl,by show 3<=sizeLine;decide,?_⟩;have c:keyOf k a (.inr b)=[.inr k,.inr (L2.rW a b),.inr (L2.rX a b)]:=bS e;rw[c] at q;exact q
 ·rw[g_ (λz=>e (V.str.inj z))];refine⟨_,rfl,_,rfl,_,rfl,by show 3<=sizeLine;decide,?_⟩;have c:(keyOf k a o).map kV=[.str k,.str a,kV o]:=by
   cases o with
   |inl i=>rfl
   |inr b=>
    have:keyOf k a (.inr b)=[.inr k,.inr a,.inr b]:=bR e;rw[this];rfl
  rw[c] at q;exact q
abbrev uz:Z ar:=["joins","land","places","fact"]
abbrev UW:Z ar:=["joins","land","places","fact","number","kind","one","other"]
def yt:aT UW uz (aO Gj):=.a9
theorem ZaN(F:aR K "keep_fact" "keep_fact" Gj f fd)(mH:mg "SAID"=U (.str "said" t1))(vW:HasFn P w K mg I 2 "tie_turn" zE (HZ CL))(GF:bY P w K mg I 3 "say" CJ CZ (TU CJ))(GG:bY P w K mg I 5 "tie" CJ mQ (TX CJ)):aI P w K mg I aP 6 f fd uz (IT CL CJ):=by
 refine F.o yt λs H g h=>?_;obtain⟨i,st,L,u,fa,l,ys,m,FF,z,c,rfl,D,d,la,gd,G,nd,len,m4,hf,k,lv,q⟩:=h;refine⟨_,(aq (oH (pv 3) (jr (K:=K) rfl rfl (bX (bI 4 yt.nd) (bX (bI 5 yt.nd) (bX (bI 6 yt.nd) (bX (bI 7 yt.nd) jo)))))) (aq (aW (bJ cL (pv 5) (dR (v:=.str "said") rfl mH ⟨_,rfl⟩)) (au (aL (cV GF g (by decide) (pv 0) (aa (dD (bG g) (pv 2) (pv 6) (λ_ _=>rfl)) (aa (pv 7) ag))))) a_) (au (aL (cV GG g (by decide) (pv 0) (aa (dD (bG g) (pv 2) (pv 6) (λ_ _=>rfl)) (aa (dD (bG g) (pv 2) (pv 7) (λ_ _=>rfl)) (aa (aV vW g (aa (pv 1) (aa (pv 5) ag))) ag)))))))),?_⟩;obtain⟨dx,ho⟩:=D.obj;have X:=tT nd k.ok.one;have n8:=gd.2.2.2.2;have j:c.one<st.hd.length:=by exact len▸k.ok.one
 refine⟨_,rfl,fa,_,rfl,aB.of hf,rfl,_,_,rfl,bu ⟨_,_,rfl,bu ⟨_,_,rfl,bu ⟨_,_,rfl,bu ⟨rfl,?_⟩⟩⟩⟩⟩;refine⟨_,rfl,rfl,_,rfl,bF (λR=>?_) (λR=>aX ?_)⟩
 ·have e:=(BZ _ rfl).mp R;have J:kV (bg m c)=.int c.aN:=by rw[kT e];rfl
  refine⟨_,rfl,i.J,dx,_,rfl,ho,rfl,_,rfl,_,rfl,u,_,rfl,dE G X,_,rfl,?_⟩;have one:=d.wf.one n8 j;have Au:=d.wf.Cz;obtain⟨f0,Q,r⟩:=lv;obtain⟨p,h0⟩:=id Q;have mm:c.aN∈(st.b_ (st.ae c.one)).map (λz=>(st.bV c.one).getD z.toNat 0):=Ye.mpr ⟨p (st.ae c.one),(h0 c.one j).1,by rw[←r.1 e,(h0 c.one j).2];rfl⟩;refine⟨i,st,l.length,c.one,_,_,_,c.aN,?_,D,one,QO,λ_ y W B A x E=>?_,absurd mm⟩
  ·show[V.ref i.J,V.int (c.one:Int),kV (bg m c)]=_;rw[J]
  ·have n:c=⟨bB,c.one,c.aN,c.tn⟩:=by rw[←e]
   refine q _ y _ W B (λa ha=>by rw[A] at ha;exact ha) x E ?_ rfl;exact n▸Rf d j mm
 ·have e:=λz=>R ((BZ _ rfl).mpr z);obtain⟨⟨o0,om⟩,ft,tl⟩:=k.ok.gc e;have J:kV (bg m c)=.str (av m c.aN.toNat):=by rw[iF e];rfl
  have p2:=tT nd om;have hj:c.aN.toNat<st.hd.length:=by rwa[len]
  refine⟨_,rfl,i.J,dx,_,rfl,ho,rfl,_,rfl,_,rfl,u,_,rfl,dE G X,_,rfl,_,rfl,u,.int (c.aN.toNat:Int),rfl,?_,_,rfl,_,rfl,L,c.k,l,ys,c.tn,rfl,la,k.wX e,λt ht=>?_⟩
  ·exact J▸dE G p2
  refine⟨i,st,l.length,c.one,c.aN.toNat,c.tn,t,rfl,D,d.wf,d.live,n8,(d6 (kS len) (d6 m4 (by decide))),j,hj,ht,ft,tl,λb y aS W B A x E o=>?_⟩;have n:c=⟨c.k,c.one,(c.aN.toNat:Int),c.tn⟩:=by rw[J8 o0]
  have T:dY l.length st.hd.length ⟨c.k,c.one,(c.aN.toNat:Int),c.tn⟩:=by rw[←n,len];exact k.ok
  obtain⟨tm,tf⟩:=ZeS d o e T;have N:b=af:=by
   cases N:b with
   |true=>rfl
   |false=>
    obtain⟨f0,Q,r⟩:=lv;obtain⟨es,no⟩:=o.no N;exact absurd (r.2 e) (no f0 Q)
  refine q _ y aS W B A x E ?_ o.len;have:=tm N;rw[←n] at this;exact this
def yu:aT UW uz (aO Gk):=.a9
theorem ZaO(F:aR K "fact_fits" "fact_fits" Gk f fd)(mH:mg "SAID"=U (.str "said" t1))(vW:HasFn P w K mg I 2 "tie_turn" zE (HZ CL))(kP:bY P w K mg I 2 "open_at" CJ xk (yM CJ))(vJ:bY P w K mg I 4 "left" CJ mQ (J_ CJ)):aI P w K mg I aP 5 f fd uz (SJ CL CJ):=by
 refine F.o yu @λbO A outer vs Q E s H k h=>?_;obtain⟨J,st,L,D,fa,u,ys,i,FF,z,c,rfl,ja,b,la,gd,o,nd,len,m4,hf,R,q1,q2⟩:=h;have hu:=k.t4;refine⟨_,(aq (oH (pv 3) (jr (K:=K) (n:=4) rfl rfl (bX (bI 4 yu.nd) (bX (bI 5 yu.nd) (bX (bI 6 yu.nd) (bX (bI 7 yu.nd) jo)))))) (aq (aW (bJ cL (pv 5) (dR (v:=.str "said") rfl mH ⟨_,rfl⟩)) (au (aL (BG (mZ (K:=K) rfl) (pv 7) (cV kP k (by decide) (pv 0) (aa (dD (bG k) (pv 2) (pv 6) (λ_ _=>rfl)) ag)) QU))) a_) (au (aL (fN (IL (K:=K) rfl (ZhI hu)) (cV vJ k (by decide) (pv 0) (aa (dD (bG k) (pv 2) (pv 6) (λ_ _=>rfl)) (aa (dD (bG k) (pv 2) (pv 7) (λ_ _=>rfl)) (aa (aV vW k (aa (pv 1) (aa (pv 5) ag))) ag)))) (dP ag)))))),?_⟩;obtain⟨dx,ho⟩:=ja.obj;have p1:=tT nd R.ok.one;have G:u.length<=8:=gd.2.2.2.2;have g:c.one<st.hd.length:=by rw[len];exact R.ok.one
 refine⟨_,rfl,fa,_,rfl,aB.of hf,rfl,_,_,rfl,bu ⟨_,_,rfl,bu ⟨_,_,rfl,bu ⟨_,_,rfl,bu ⟨rfl,?_⟩⟩⟩⟩⟩;refine⟨_,rfl,rfl,_,rfl,bF (λcc=>?_) (λcc=>aX ?_)⟩
 ·have e:c.k=bB:=(BZ _ rfl).mp cc;have T:kV (bg i c)=.int c.aN:=by rw[kT e];rfl
  have one:=b.wf.one G g;refine⟨_,rfl,_,rfl,J.J,dx,_,rfl,ho,rfl,_,rfl,_,rfl,D,_,rfl,dE o p1,J,st,u.length,c.one,_,_,_,rfl,ja,one.hd,one.ld,one.fr,one.gL,one.fZ,λp j W np q B so X=>⟨p,_,rfl,.inl (ak.of X),?_,yN j,?_⟩⟩
  ·show jS (kV (bg i c))=af;rw[T];rfl
  show Q (.bl (if(a7:cm)=af then !gI (kV (bg i c)) (j.map V.int) else gI (kV (bg i c)) (j.map V.int))) W;rw[bR Yi,T,wC];have ec:c=⟨bB,c.one,c.aN,c.tn⟩:=by rw[←e]
  by_cases m:c.aN∈j
  ·rw[dg m];refine q1 ?_ W q;have Xm:=Rf (tn:=c.tn) b g (B.subset m);obtain⟨f,d⟩:=Xm.live;obtain⟨_,s⟩:=(Xm.iff f).mp d;refine⟨f,((yv b.wf g _ f).mp d).1,?_⟩;rw[ec];exact s _ (Yu _ Yk)
  ·rw[g_ m];refine q2 (λf d=>?_) W q;rw[ec];exact Zh6 b g (λz=>m (B.symm.subset z)) f d
 ·have e:c.k≠bB:=λz=>cc ((BZ _ rfl).mpr z);obtain⟨⟨o0,om⟩,ft,tl⟩:=R.ok.gc e;have T:kV (bg i c)=.str (av i c.aN.toNat):=by rw[iF e];rfl
  have p2:=tT nd om;have N:c.aN.toNat<st.hd.length:=by rw[len];exact om
  have pf:=Rb b.wf G g N;refine⟨_,rfl,J.J,dx,_,rfl,ho,rfl,_,rfl,_,rfl,D,_,rfl,dE o p1,_,rfl,_,rfl,D,.int (c.aN.toNat:Int),rfl,?_,_,rfl,_,rfl,L,c.k,u,ys,c.tn,rfl,la,R.wX e,λt ht=>?_⟩
  ·show fE H D (kV (bg i c)) _;rw[T];exact dE o p2
  refine⟨J,st,u.length,c.one,c.aN.toNat,_,_,_,_,_,_,c.tn,t,rfl,ja,b.wf.one G g,b.wf.one G N,ht,λp o=>by rw[tl];exact SG b.wf g (x:=p.1) (y:=p.2) o,Yz pf (by decide),λp j W np q X B _=>?_⟩;have ms:=Qa B;refine⟨by show 0<=sizeLine;exact Yx _,λe0 H2 n2 g2 qO=>?_⟩;refine⟨p,e0,j.map V.int,rfl,rfl,ak.of (g2 _ _ X),ak.of qO,?_⟩;rw[bS rfl];have l:∀f,fW f c↔f c.aN.toNat=ap c.tn (f c.one):=λf=>⟨λh=>h.2 e,λh=>⟨λz=>absurd z e,λ_=>h⟩⟩;cases j with
  |nil=>
   refine q2 (λf d z=>?_) H2 (q.trans g2);have m:=yO b.wf g N d;rw[(l f).mp z] at m;exact absurd ((ms _).mpr m) (λz=>nomatch z)
  |cons a r=>
   refine q1 ?_ H2 (q.trans g2);have m:=(ms a).mp Yk;obtain⟨f,d,e1,e2⟩:=P_ b.wf g N b.live m;exact⟨f,d,(l f).mpr (by rw[e1,e2])⟩
def BS.keys(b:BS):Z (Z Key):=b.fs.map λp=>fP b.ps p.2
def BS.told(b:BS)(k:Z Key):cm:=(aZ (gP b.ps b.fs) k).isSome
structure bW(xs ys:Z Int)(b:BS):Prop where
 gd:oP xs ys
 nm:(b.ps.map (·.1)).Nodup
 m:b.ps.length<=64
 fl:b.fs.length<=63
 fg:∀p∈b.fs,eI xs ys b.ps.length p.2
 zs:(b.fs.map (·.1)).Nodup
 lt:∀p∈b.fs,p.1<b.co
 ky:b.keys.Nodup
 pr:((cP b.ps b.fs).map (·.1)).Nodup
 lv:∃f,m8 xs.length b.ps.length f/\∀c∈b.F,fW f c
 dl:b.dn.length<=200
 ul:b.un.length<=200
structure bZ(H H':Hp)(l l':BL):Prop where
 h:l'.h=l.h
 out:Out l.fp H H'
 grow:fH l.fp l'.fp H
def bZ.of(g:aj H a):bZ H a l l:=⟨rfl,Out.of g,fH.refl _ _⟩
def bZ.trans(a:bZ H H1 l l1)(b:bZ H1 c l1 l2):bZ H c l l2:=⟨b.h.trans a.h,Iw a.out a.grow b.out,a.grow.trans a.out b.grow⟩
def bZ.same(a:bZ H H1 l l1)(g:aj H1 b):bZ H b l l1:=⟨a.h,a.out.trans (Out.of g),a.grow⟩
def bZ.after(g:aj H H1)(a:bZ H1 b l l1):bZ H b l l1:=⟨a.h,(Out.of g).trans a.out,a.grow.same g⟩
theorem Bx[DecidableEq b](a:Z (b×V))(k:b):(aZ a k).isSome=af↔k∈a.map (·.1):=by
 induction a with
 |nil=>exact⟨(λz=>nomatch z),(λz=>nomatch z)⟩
 |cons p r c=>
  by_cases e:p.1=k
  ·rw[gZ e]
   grind
  ·rw[gk e,c]
   grind
theorem qX[DecidableEq b]{k:b}(h:k∉a.map (·.1)):aZ a k=aJ:=by
 cases e:aZ a k with
 |none=>rfl
 |some v=>exact absurd ((Bx a k).mp (by rw[e];rfl)) h
theorem Rh[DecidableEq b]{k:b}(c:(a.map (·.1)).Nodup)(h:(k,v)∈a):aZ a k=U v:=by
 induction a with
 |nil=>cases h
 |cons p r g=>
  obtain⟨e,d⟩:=Y0.mp (show(p.1::r.map (·.1)).Nodup from c);rcases Ys.mp h with h|h;·exact h▸gZ rfl
  ·rw[gk (λz=>e (by exact z▸Ye.mpr ⟨_,h,rfl⟩))];exact g d h
def IU(h:i<a.length):av a i∈a.map (·.1):=by
 unfold av
 grind
inductive Qf(C CL CJ:O)(d:Z V)(H:Hp)(Q:VK)(E:XK):Prop
 |mk (l:BL) (b:BS) (c a:Z Int) (h:d=[.ref l.h]) (g:bc H C CL CJ l c a b) (e:Nw H (.lst (b.ps.map λp=>V.str p.1)) Q)
inductive Iy(C CL CJ:O)(d:Z V)(H:Hp)(Q:VK)(E:XK):Prop
 |mk (l:BL) (b:BS) (c a:Z Int) (z:ar) (v:V) (i:d=[.ref l.h,.str z]) (h:bc H C CL CJ l c a b) (e:aZ (h_ b.ps) (.inr z)=U v) (g:Q v H)
inductive KC(C CL CJ:O)(g:Z V)(H:Hp)(Q:VK)(E:XK):Prop
 |mk (l:BL) (b:BS) (e d:Z Int) (k a:ar) (o:Key) (m:g=[.ref l.h,.str k,.str a,kV o]) (j:bc H C CL CJ l e d b) (h:k="sibling"->∃b,o=.inr b) (i:∀c,aj H c->Q (.bl (b.told (keyOf k a o))) c)
inductive Ow(C CL CJ:O)(g:Z V)(H:Hp)(Q:VK)(E:XK):Prop
 |mk (l:BL) (b:BS) (e d:Z Int) (k a:ar) (j:g=[.ref l.h,.str k,.str a]) (i:bc H C CL CJ l e d b) (h:∀c,aj H c->Q ((aZ (cP b.ps b.fs) [.inr k,.inr a]).getD .ay) c)
abbrev jz:Z ar:=["mother","father"]
def qb(b:BS)(a:ar):Z V:=jz.filterMap λk=>aZ (cP b.ps b.fs) [.inr k,.inr a]
def ZeV(g:Nat->bq V):((List.range 2).filter λi=>(g i).isSome).map (λi=>(g i).getD .ay)=[g 0,g 1].filterMap id:=by
 show(([0,1]:Z Nat).filter _).map _=_
 grind
def Qg(b:BS)(k:Z Key):b.told k=af↔k∈b.keys:=by
 unfold BS.told;rw[Bx];unfold gP BS.keys
 simp_all
inductive NW(C CL CJ:O)(g:Z V)(H:Hp)(Q:VK)(E:XK):Prop
 |mk (l:BL) (b:BS) (e d:Z Int) (a:ar) (j:g=[.ref l.h,.str a]) (i:bc H C CL CJ l e d b) (h:∀(p:O) (c:Hp),H p=aJ->aj H c->c p=U (.lst (qb b a))->Q (.ref p) c)
def dt(H:Hp)(b:bC)(a:O)(p:Nat×Fc):Prop:=H a=U (.tup ((d7 b p.1 p.2).map kV))
inductive SK(C CL CJ:O)(h:Z V)(H:Hp)(Q:VK)(E:XK):Prop
 |mk (l:BL) (b:BS) (g e:Z Int) (n:h=[.ref l.h]) (m:bc H C CL CJ l g e b) (i:(b.fs.map (·.1)).Nodup) (j:b.fs.length<=63) (k:∀(p:O) (d:Z O) (c:Z (Nat×Fc)) (a:Hp),H p=aJ->aj H a->c.Perm b.fs->(c.map (·.1)).Pairwise (·<·)->a p=U (.lst (d.map V.ref))->Paired (dt a b.ps) d c->Q (.ref p) a)
def Hg(K:ah):Sp:=λb H Q _=>∃(r:O) (a:Z V),b=[.ref r]/\aB K H r a/\Q (.bl (decide (a.length=2))) H
theorem B0:∀{as:Z O} {fs:Z (Nat×Fc)} {p:Nat×Fc},Paired (dt H ps) as fs->(fs.map (·.1)).Nodup->p∈fs->∃a,aZ (bw (fs.map (·.1)) as) (.inl (p.1:Int))=U (.ref a)/\dt H ps a p:=by
 intro as fs p b;induction b with
 |nil=>grind
 |@cons a q as fs f t i=>
  intro c h;obtain⟨g,d⟩:=Y0.mp (show(q.1::fs.map (·.1)).Nodup from c);have l:bw ((q::fs).map (·.1)) (a::as)=(Sum.inl (q.1:Int),V.ref a)::bw (fs.map (·.1)) as:=rfl;rw[l];rcases Ys.mp h with rfl|h;·exact⟨a,gZ rfl,f⟩
  ·obtain⟨n,k,j⟩:=i d h;refine⟨n,?_,j⟩;rw[gk (λz=>g (by
    have e:=xP z;have m:q.1=p.1:=(l9 e)
    exact m▸Ye.mpr ⟨_,h,rfl⟩))]
   exact k
theorem Hh:∀{b:Z Nat} {as:Z O},b.length=as.length->(bw b as).map (·.1)=(b.map λk:Nat=>(k:Int)).map Sum.inl
 |[],[],_=>rfl
 |k::b,a::as,h=>by
  have c:bw (k::b) (a::as)=(Sum.inl (k:Int),V.ref a)::bw b as:=rfl;rw[c,Wq,Hh (by simpa using h)];rfl
 |[],_::_,h=>rfl
 |_::_,[],h=>by simp at h
theorem Zcr(t:(fs.map (·.1)).Nodup)(d:c.Perm ((fs.map (·.1)).map λk:Nat=>(k:Int)))(r:c.Pairwise (·<=·)):∃b:Z (Nat×Fc),b.Perm fs/\(b.map (·.1)).Pairwise (·<·)/\c=(b.map (·.1)).map λk:Nat=>(k:Int):=by
 have o:∀{c:Z Int} {fs:Z (Nat×Fc)},c.Perm ((fs.map (·.1)).map λk:Nat=>(k:Int))->∃b:Z (Nat×Fc),b.Perm fs/\c=(b.map (·.1)).map λk:Nat=>(k:Int):=by
  intro c;induction c with
  |nil=>
   intro fs d;have:=d.symm.eq_nil;have e:fs=[]:=by simpa using this
   exact⟨[],by rw[e],rfl⟩
  |cons a c u=>
   intro fs d;have s:a∈(fs.map (·.1)).map λk:Nat=>(k:Int):=d.subset Yk;rw[Y7] at s;obtain⟨p,v,rfl⟩:=Ye.mp s;obtain⟨l,j,rfl⟩:=List.append_of_mem v;have m:c.Perm (((l++j).map (·.1)).map λk:Nat=>(k:Int)):=by
    have x:(((l++p::j).map (·.1)).map λk:Nat=>(k:Int)).Perm ((p.1:Int)::((l++j).map (·.1)).map λk:Nat=>(k:Int)):=by
     have:=(List.perm_middle (a:=p) (l₁:=l) (l₂:=j)).map λq:Nat×Fc=>((q.1:Nat):Int);simpa[Y7,Function.comp_def] using this
    exact(d.trans x).cons_inv
   obtain⟨b,i,g⟩:=u m;exact⟨p::b,(i.cons p).trans List.perm_middle.symm,by rw[g];rfl⟩
 obtain⟨b,i,g⟩:=o d;refine⟨b,i,?_,g⟩;have n:=(i.map _).nodup_iff.mpr t;rw[g,Wl] at r;exact(r.and n).imp λh=>by
  omega
def ZF:aT eZ eZ (aO E6):=.a9
def Zdw(F:aR K "people" "Hearth.people" E6 f fd)(a:fL K C)(k:Bl mg):aI P w K mg I aP 1 f fd eZ (Qf C CL CJ):=by
 refine F.o ZF λs H r h=>?_;obtain⟨l,b,o,n,rfl,c,q⟩:=h;refine⟨_,(au (aL (fU (Zbi rfl) rfl k.wL wz (aa (pF K 0) ag)))),?_⟩;obtain⟨j,i⟩:=c.obj;refine⟨_,rfl,l.h,C,j,_,_,rfl,i,a.cls,a.tS,rfl,l.sd,_,rfl,c.c_,λp m d g e=>q p m d g ?_⟩;rw[e,Y7];rfl
abbrev lE:Z ar:=["self","name"]
def Zu:aT lE lE (aO EW):=.a9
def Zcs(F:aR K "side_of" "Hearth.side_of" EW f fd)(a:fL K C)(m:Bl mg):aI P w K mg I aP 1 f fd lE (Iy C CL CJ):=by
 refine F.o Zu λs H d h=>?_;obtain⟨l,b,k,j,z,v,rfl,c,g,q⟩:=h;refine⟨_,(aq (aW (kC (nv (bG d) (pv 1) (pF K 0)) QU) gY a_) (au (aL (dD (bG d) (pF K 0) (pv 1) (λ_ _=>rfl))))),?_⟩;obtain⟨i,e⟩:=c.obj;exact⟨_,rfl,_,rfl,l.h,C,i,_,_,rfl,e,a.cls,a.tS,rfl,l.sd,U v,rfl,dE c.c_ g,_,rfl,bT (aX ⟨_,rfl,l.h,C,i,_,_,rfl,e,a.cls,a.tS,rfl,_,rfl,l.sd,v,rfl,dE c.c_ g,q⟩)⟩
def ZaP:aT ko ko (aO Gp):=.a9
def ZaQ(F:aR K "is_person" "is_person" Gp f fd)(c:Bl mg):aI P w K mg I aP 1 f fd ko (Hg K):=by
 refine F.o ZaP λs H d h=>?_;obtain⟨r,a,rfl,b,q⟩:=h;refine⟨_,(au (aL (fN cL (dJ K c (pv 0)) aM))),?_⟩;refine⟨_,rfl,r,a,rfl,.inr b,rfl,?_⟩;have e:decide (V.int (a.length:Int)=V.int 2)=decide (a.length=2):=by
  rw[We,eJ,eJ];exact⟨λz=>by have:=V.int.inj z;exact l9 this,λz=>by rw[z];rfl⟩
 rw[←e] at q;exact q
abbrev qv:Z ar:=["self","kind","one","other"]
def Zar:aT qv qv (aO F5):=.a9
def Zh7(F:aR K "has" "Hearth.has" F5 f fd)(e:fL K C)(i:HasFn P w K mg I 1 "fact_key" xt CA):aI P w K mg I aP 2 f fd qv (KC C CL CJ):=by
 refine F.o Zar λs H d h=>?_;obtain⟨l,b,v,u,k,a,o,rfl,g,j,q⟩:=h;refine⟨_,(au (aL (ZgO (Cd (bG d) (aV i d (aa (pv 1) (aa (pv 2) (aa (pv 3) ag)))) (pF K 0)) QU))),?_⟩;refine⟨_,rfl,_,rfl,_,rfl,k,a,o,rfl,j,λp t x c m=>?_⟩;obtain⟨r,n⟩:=g.obj;refine⟨_,rfl,l.h,C,r,_,_,rfl,c _ _ n,e.cls,e.BY,rfl,l.kn,_,rfl,fE.t (c _ _ g.known) m,?_⟩;exact q t c
abbrev C1:Z ar:=["self","kind","name"]
def Zl:aT C1 C1 (aO EI):=.a9
def ZaR(F:aR K "parent_of" "Hearth.parent_of" EI f fd)(d:fL K C):aI P w K mg I aP 1 f fd C1 (Ow C CL CJ):=by
 refine F.o Zl λs H g h=>?_;obtain⟨l,b,r,o,k,a,rfl,c,q⟩:=h;refine⟨_,(au (aL (Zef (bG g) (pF K 0) (dX (aa (pv 1) (aa (pv 2) ag))) ⟨rfl,rfl,rfl,rfl⟩))),?_⟩;obtain⟨m,j⟩:=c.obj;refine⟨_,rfl,l.h,C,m,_,_,rfl,j,d.cls,d.wb,rfl,l.pr,rfl,.inr ⟨_,.inl c.parents⟩,_,rfl,_,rfl,by show 2<=sizeLine;decide,λp n t e i=>?_⟩;exact⟨_,fE.t (k:=[.inr k,.inr a]) (e _ _ c.parents) i,q n e⟩
def Zh:aT lE lE (aO EG):=.a9
theorem Zas(F:aR K "parents_of" "Hearth.parents_of" EG f fd)(j:fL K C)(N:mg "PARENTS"=U (.ref o))(t:∀H,aB K H o (jz.map V.str)):aI P w K mg I aP 1 f fd lE (NW C CL CJ):=by
 refine F.o Zh λs H y h=>?_;obtain⟨l,b,xs,ys,a,rfl,r,q⟩:=h;refine⟨_,(au (aL (iZ (x:="kind") (fr:=[("self",0),("name",1)]) (cl:=[("self",s.heap.objs.size+1),("name",s.heap.objs.size+1+1)]) rfl (.f_ ⟨rfl,⟨rfl,trivial⟩⟩ ⟨⟨rfl,.inl rfl,.inl rfl,rfl⟩,⟨⟨rfl,.inl rfl,.inl rfl,rfl⟩,trivial⟩⟩) (JB (dR (v:=.ref o) rfl N rfl)) (λ_ _ _ _=>wy (kC (Cd (bG y) (dX (aa (pv 0) (aa (pv 2) ag))) (wA (K:=K) rfl (pv 1) rfl)) QU)) (λ_ _ _ _=>(dD (bG y) (wA (K:=K) rfl (pv 1) rfl) (dX (aa (pv 0) (aa (pv 2) ag))) (λ_ _=>rfl)))))),?_⟩;obtain⟨G,B⟩:=r.obj;let val:Nat->bq V:=λi=>aZ (cP b.ps b.fs) [.inr (jz.getD i ""),.inr a];refine⟨o,rfl,⟨_,t _⟩,λD A=>Zdb (t _) QD A (λi=>(val i).isSome) (λi=>(val i).getD .ay) (λi v c J g _ Kt Kf m n=>?_) λJ g R=>q D J A g ?_⟩
 ·obtain⟨k,rfl,W⟩:∃k:ar,v=.str k/\jz.getD i ""=k:=by
   match i,c with
   |0,c=>exact⟨"mother",(Ym c).symm,rfl⟩
   |1,c=>exact⟨"father",(Ym c).symm,rfl⟩
   |i+2,c=>simp at c
  have T:val i=aZ (cP b.ps b.fs) [.inr k,.inr a]:=by show aZ (cP b.ps b.fs) [.inr (jz.getD i ""),.inr a]=_;rw[W]
  refine⟨_,rfl,_,rfl,by show 2<=sizeLine;decide,λp H2 np d Q=>?_⟩;refine⟨_,rfl,l.h,C,G,_,_,rfl,d _ _ (g _ _ B),j.cls,j.wb,rfl,l.pr,_,rfl,fE.t (k:=[.inr k,.inr a]) (d _ _ (g _ _ r.parents)) Q,_,rfl,?_⟩;rw[T] at m n;cases e:aZ (cP b.ps b.fs) [.inr k,.inr a] with
  |none=>
   rw[e] at n;exact bT (n H2 rfl d)
  |some u=>
   rw[e] at m;refine dq ?_;refine⟨_,rfl,l.h,C,G,_,_,rfl,d _ _ (g _ _ B),j.cls,j.wb,rfl,_,rfl,_,rfl,by show 2<=sizeLine;decide,λp3 X L E D2=>?_⟩;refine⟨l.pr,u,rfl,?_,m u X rfl (d.trans E) rfl⟩;have z:=fE.t (k:=[.inr k,.inr a]) (E _ _ (d _ _ (g _ _ r.parents))) D2;rw[e] at z;exact z
 ·rw[R];have e:((List.range (jz.map V.str).length).filter λi=>(val i).isSome).map (λi=>(val i).getD .ay)=qb b a:=by
   exact ZeV val
  rw[e]
def Z8:aT eZ eZ (aO FK):=.a9
theorem Zgl(F:aR K "kept" "Hearth.kept" FK f fd)(u:fL K C)(bl:Bl mg):aI P w K mg I aP 1 f fd eZ (SK C CL CJ):=by
 refine F.o Z8 λs H hr h=>?_;obtain⟨l,b,xs,t,rfl,r,W,fl,q⟩:=h;refine⟨_,(au (aL (iZ (x:="number") (fr:=[("self",0)]) (cl:=[("self",s.heap.objs.size+1)]) rfl (.f_ ⟨rfl,trivial⟩ ⟨⟨rfl,.inl rfl,.inl rfl,rfl⟩,trivial⟩) (eS (K:=K) rfl (iY (Zal rfl) rfl bl.Br Bg (aa (pF K 0) ag))) (λ_ _ _ _=>kA) (λ_ _ _ _=>(dD (bG hr) (wA (K:=K) rfl (pv 1) rfl) (pv 0) (λ_ _=>rfl)))))),?_⟩;obtain⟨dx,h1⟩:=r.obj;have al:(b.fs.map (·.1)).length=l.cz.length:=by rw[Ya];exact(c7 r.fact).symm
 refine⟨_,rfl,l.h,C,dx,_,_,rfl,h1,u.cls,u.nA,rfl,l.fc,_,(b.fs.map (·.1)).map (λk:Nat=>(k:Int)),rfl,r.facts,Hh al,by rw[Ya,Ya];exact tP fl,λns pm so p H1 np A X=>?_⟩;obtain⟨dN,J,q2,q3⟩:=Zcr W pm so;have di:dN.length<=63:=by rw[J.length_eq];exact fl
 subst q3;have nl:(((dN.map (·.1)).map λk:Nat=>(k:Int)).map V.int).length=dN.length:=by rw[Ya,Ya,Ya]
 refine⟨p,rfl,⟨_,ak.of X⟩,λD Q=>?_⟩;refine vT (ak.of X) (d6 (kS nl) (d6 di (by decide))) Q (λ_=>af) (λi y m=>∃a c,dN[i]?=U c/\y=.ref a/\dt m b.ps a c/\dt H b.ps a c) (λi y m H3 br zz=>by obtain⟨a,c,o,n,e3,E⟩:=zz;exact⟨a,c,o,n,br _ _ e3 (λz=>by
   have:=A _ _ E;rw[z,Q] at this;cases this),E⟩) (λi v d m R _ Kt Kf kt _=>kG (dq ?_)) λfM m R h2 c=>?_
 ·rw[Yf,Yf,Yf] at d;cases B:dN[i]? with
  |none=>rw[B] at d;cases d
  |some L=>
   rw[B] at d;obtain rfl:V.int (L.1:Int)=v:=Ym d;obtain⟨a,o,n⟩:=B0 r.fact W (J.subset (Yh B));have G:=A.trans R;refine⟨_,rfl,l.h,C,dx,_,_,rfl,G _ _ h1,u.cls,u.nA,rfl,_,rfl,l.fc,.ref a,rfl,nE (G _ _ r.facts) o,kt _ m rfl (aj.refl _) ⟨a,L,B,rfl,G _ _ n,n⟩⟩
 ·rw[yB,nl] at c;obtain⟨j,ea,pa⟩:∃j:Z O,fM=j.map V.ref/\Paired (dt m b.ps) j dN:=by
   have T:∀{t:Z V} {N:Z Nat} {gs:Z (Nat×Fc)},Paired (λy i=>∃a c,dN[i]?=U c/\y=.ref a/\dt m b.ps a c/\dt H b.ps a c) t N->N.map (λi=>dN[i]?)=gs.map U->∃j:Z O,t=j.map V.ref/\Paired (dt m b.ps) j gs:=by
    intro t N gs c;induction c generalizing gs with
    |nil=>
     intro e;cases gs with
     |nil=>exact⟨[],rfl,.nil⟩
     |cons _ _=>cases e
    |cons f _ ih=>
     intro e;cases gs with
     |nil=>cases e
     |cons g gs=>
      obtain⟨a,L,o,n,e3,_⟩:=f;injection e with E e5;obtain⟨j,r1,r2⟩:=ih e5;exact⟨a::j,by rw[n,r1];rfl,.cons (by rwa[←Ym (o.symm.trans E)]) r2⟩
   refine T c (Wh λi=>?_);rw[Yf,Yf];by_cases d:i<dN.length;·rw[Xn d,Yc d];exact dC U (Yc d)
   ·rw[Y4 (by rw[LX];exact gM d),Y4 (gM d)];rfl
  subst ea;exact q D j dN m (A.free Q) (A.trans R) J q2 h2 pa
def tU(h:i<a.length):av (a++[x]) i=av a i:=by
 unfold av
 grind
def wq(b:dY n a.length c):bg (a++[x]) c=bg a c:=by
 unfold bg;by_cases e:c.k=bB;·grind
 ·rw[bR e,bR e,tU (b.gc e).1.2]
def Zgm(b:dY n a.length c):d7 (a++[x]) z c=d7 a z c:=by
 unfold d7;rw[wq b,tU b.one]
def Ri(b:dY n a.length c):fP (a++[x]) c=fP a c:=by
 unfold fP;rw[wq b,tU b.one]
def Zgn(b:∀p∈fs,dY n a.length p.2):gP (a++[x]) fs=gP a fs:=by
 exact Wo λp c=>by rw[Ri (b p c)]
def Rj(b:∀p∈fs,dY n a.length p.2):cP (a++[x]) fs=cP a fs:=by
 exact Wo λp c=>by
  have o:=b p (Y5.mp c).1;rw[wq o,tU o.one]
def Zgo(a:bC)(n s:ar):h_ (a++[(n,s)])=h_ a++[(.inr n,.str s)]:=Yo
def Zgp(a:bC)(x:ar×ar):kr (a++[x])=kr a++[(.inr x.1,.int (a.length:Int))]:=by
 unfold kr
 grind
def ZeW(a:bC)(b:Z (Nat×Fc))(z:Nat)(c:Fc):gP a (b++[(z,c)])=gP a b++[(fP a c,.int (z:Int))]:=Yo
def Qh(h:cM c.k=af):cP a (fs++[(z,c)])=cP a fs++[([.inr c.k,.inr (av a c.one)],kV (bg a c))]:=by
 unfold cP
 simp_all
def Qi(h:cM c.k=a7):cP a (fs++[(z,c)])=cP a fs:=by
 unfold cP
 simp_all
def B3(k:ar):gI (.str k) (jz.map V.str)=cM k:=by
 show((("mother":ar)==k)||((("father":ar)==k)||a7))=(decide (k="mother")||decide (k="father"))
 grind
theorem NX{c e d:Type}[DecidableEq e][DecidableEq d]{f:c->e}{g:c->d}:∀{b:Z c} {x:c},(b.map f).Nodup->(b.map g).Nodup->x∈b->b.filter (λy=>decide (f y≠f x))=b.filter (λy=>decide (g y≠g x)):=by
 intro b x l k j;have inj:∀{i:Type} {h:c->i},(b.map h).Nodup->∀y∈b,h y=h x->y=x:=by
  induction b with
  |nil=>cases j
  |cons a r m=>grind
 refine Jl λy n=>?_
 grind
def ZeX(b:(fs.map (·.1)).Nodup)(d:(fs.map λp=>fP a p.2).Nodup)(m:(z,c)∈fs):iM (gP a fs) (fP a c)=gP a (dh z fs):=by
 unfold gP iM dh;rw[D3];exact dC _ (NX d b m)
def ZeY(d:(fs.map (·.1)).Nodup)(b:((cP a fs).map (·.1)).Nodup)(m:(z,c)∈fs)(h:cM c.k=af):iM (cP a fs) [.inr c.k,.inr (av a c.one)]=cP a (dh z fs):=by
 unfold cP at b⊢;rw[Y7] at b;unfold iM dh;rw[D3,Jr];have e:=NX b (d.sublist (List.filter_sublist.map _)) (Y5.mpr ⟨m,h⟩);rw[Jr,Jr] at e;rw[Jr]
 exact congrArg _ (e.trans (congrArg (fs.filter ·) (funext λp=>Bool.and_comm _ _)))
theorem Zdx(d:(fs.map (·.1)).Nodup)(m:(z,c)∈fs)(h:cM c.k=a7):cP g fs=cP g (dh z fs):=by
 unfold cP dh;rw[Jr];refine dC _ (Jl λp i=>?_);by_cases e:p.1=z
 ·have:p=(z,c):=by
   have b:∀{fs:Z (Nat×Fc)},(fs.map (·.1)).Nodup->p∈fs->(z,c)∈fs->p=(z,c):=by
    induction fs with
    |nil=>grind
    |cons a r j=>grind
   exact b d i m
  simp_all
 ·simp_all
inductive Move(a d:Z Int)(H:Hp)(r:O)(b:BS):Int->BS->Prop
 |pin (n s:ar) (g:H r=U (.tup [.str n,.str s])) (new:n∉b.ps.map (·.1)) (e:b.ps.length<64):Move a d H r b 1 {b with ps:=b.ps++[(n,s)]}
 |fin (z:Nat) (c:Fc) (g:dt H b.ps r (z,c)) (o:eI a d b.ps.length c) (i:z∉b.fs.map (·.1)) (k:fP b.ps c∉b.keys) (j:cM c.k=af->[.inr c.k,.inr (av b.ps c.one)]∉(cP b.ps b.fs).map (·.1)) (l:∃f,m8 a.length b.ps.length f/\∀h∈b.F++[c],fW f h) (e:b.fs.length<63):Move a d H r b 1 {b with fs:=b.fs++[(z,c)]}
 |uA (z:Nat) (c:Fc) (g:dt H b.ps r (z,c)) (m:(z,c)∈b.fs):Move a d H r b (-1) {b with fs:=dh z b.fs}
theorem Move.out{w:Int}(m:Move xs e H r b w b')(k:∀d,H r=U (.tup d)->j r=U (.tup d)):Move xs e j r b w b':=by
 cases m with
 |pin n s a new lim=>exact .pin n s (k _ a) new lim
 |fin z c a i g h np lv lim=>exact .fin z c (k _ a) i g h np lv lim
 |uA z c a m=>exact .uA z c (k _ a) m
theorem Move.Zi0{w:Int}(m:Move xs g H r b w k)(e d:Z C0):Move xs g H r {b with dn:=e,un:=d} w {k with dn:=e,un:=d}:=by
 cases m with
 |pin n s a new lim=>exact .pin n s a new lim
 |fin z c a j h i np lv lim=>exact .fin z c a j h i np lv lim
 |uA z c a m=>exact .uA z c a m
inductive Rk(C CL CJ:O)(e:Z V)(H:Hp)(Q:VK):Prop
 |mk (l:BL) (b:BS) (h g:Z Int) (d:O) (z:Nat) (c:Fc) (p:e=[.ref l.h,.ref d]) (o:bc H C CL CJ l h g b) (m:dt H b.ps d (z,c)) (i:z∉b.fs.map (·.1)) (k:fP b.ps c∉b.keys) (j:cM c.k=af->[.inr c.k,.inr (av b.ps c.one)]∉(cP b.ps b.fs).map (·.1)) (n:b.fs.length<=63)
   (q:∀a,Out [l.fc,l.kn,l.pr] H a->a l.fc=U (.dK (bw ((b.fs++[(z,c)]).map (·.1)) (l.cz++[d])))->a l.kn=U (.dT (gP b.ps (b.fs++[(z,c)])))->a l.pr=U (.dT (cP b.ps (b.fs++[(z,c)])))->Q .ay a):Rk C CL CJ e H Q
def SM(C CL CJ:O):Sp:=λa H Q _=>Rk C CL CJ a H Q
inductive Rl(C CL CJ:O)(h:Z V)(H:Hp)(Q:VK)(E:XK):Prop
 |mk (l:BL) (b g:BS) (c a:Z Int) (r:O) (j:h=[.ref l.h,.ref r]) (i:bc H C CL CJ l c a b) (ok:bW c a b) (mv:Move c a H r b 1 g) (q:∀(e:BL) (d:Hp),bZ H d l e->bc d C CL CJ e c a g->Q .ay d)
inductive Pc(C CL CJ:O)(h:Z V)(H:Hp)(Q:VK)(E:XK):Prop
 |mk (l:BL) (b g:BS) (c a:Z Int) (r:O) (j:h=[.ref l.h,.ref r]) (i:bc H C CL CJ l c a b) (ok:bW c a b) (mv:Move c a H r b (-1) g) (q:∀(e:BL) (d:Hp),bZ H d l e->bc d C CL CJ e c a g->Q .ay d)
inductive Rm(C CL CJ:O)(i:Z V)(H:Hp)(Q:VK)(E:XK):Prop
 |mk (l:BL) (b h:BS) (c a:Z Int) (r:O) (w:Int) (g:Nat) (k:i=[.ref l.h,.int w,.ref r,.int (g:Int)]) (j:bc H C CL CJ l c a b) (ok:bW c a b) (mv:Move c a H r b w h) (q:∀(e:BL) (d:Hp),bZ H d l e->bc d C CL CJ e c a {h with co:=g}->Q .ay d)
inductive yP(C CL CJ:O)(j:Z V)(H:Hp)(Q:VK)(E:XK):Prop
 |mk (l:BL) (b i:BS) (d c:Z Int) (r:O) (w:Int) (e:Nat) (a:Z Key) (n:j=[.ref l.h,.int w,.ref r,.int (e:Int)]) (m:bc H C CL CJ l d c b) (ok:bW d c b) (dl:b.dn.length<200) (k:H r=U (.tup (a.map kV))) (mv:Move d c H r b w i) (q:∀(h:BL) (g:Hp),bZ H g l h->bc g C CL CJ h d c {i with co:=e,dn:=b.dn++[⟨w,a,b.co,e⟩],un:=[]}->Q .ay g)
def Rn{c:Fc}(e:c.k="sibling"):∃b,bg a c=.inr b:=⟨_,iF (by rw[e];decide+kernel)⟩
abbrev uB:Z ar:=["self","fact"]
abbrev UX:Z ar:=["self","fact","number","kind","one","other"]
def yi:aT UX uB (aO EJ):=.a9
theorem Zgq(F:aR K "note_fact" "Hearth.note_fact" EJ f fd)(g:fL K C)(jO:mg "PARENTS"=U (.ref D))(qP:∀H,aB K H D (jz.map V.str))(pN:HasFn P w K mg I 1 "fact_key" xt CA):aI P w K mg I aP 2 f fd uB (SM C CL CJ):=by
 refine F.o yi λs H k h=>?_;obtain⟨l,b,xs,ys,B,z,c,rfl,d,hf,nz,nk,np,fl,q⟩:=h;refine⟨_,(aq (oH (pv 1) (jr (K:=K) (n:=4) rfl rfl (bX (bI 2 yi.nd) (bX (bI 3 yi.nd) (bX (bI 4 yi.nd) (bX (bI 5 yi.nd) jo)))))) (aq (pS (bG k) (pF K 0) (pv 2) (pv 1)) (aq (OW (bG k) (pF K 0) (aV pN k (aa (pv 3) (aa (pv 4) (aa (pv 5) ag)))) (pv 2)) (au (aW (ic (mZ (K:=K) rfl) (pv 3) (dR (v:=.ref D) rfl jO rfl) QU) (au (OW (bG k) (pF K 0) (dX (aa (pv 3) (aa (pv 4) ag))) (pv 5))) a_))))),?_⟩;obtain⟨E,i⟩:=d.obj;have sz:(10000:Nat)<=sizeLine:=by rw[c4];decide
 have al:(b.fs.map (·.1)).length=l.cz.length:=by rw[Ya];exact(c7 d.fact).symm
 have D4:l.h≠l.fc:=eG i d.facts (λz=>by cases z);have x:l.h≠l.kn:=eG i d.known (λz=>by cases z);have T:l.kn≠l.fc:=eG d.known d.facts (λz=>by cases z);have L:l.pr≠l.fc:=eG d.parents d.facts (λz=>by cases z);have W:l.pr≠l.kn:=λe=>by
  have:=d.nd;unfold BL.own at this;simp[e] at this
 refine⟨_,rfl,B,_,rfl,aB.of hf,rfl,_,_,rfl,bu ⟨_,_,rfl,bu ⟨_,_,rfl,bu ⟨_,_,rfl,bu ⟨rfl,?_⟩⟩⟩⟩⟩;refine⟨_,rfl,_,rfl,l.h,C,E,_,_,rfl,i,g.cls,g.nA,rfl,_,rfl,l.fc,_,.inl (z:Int),rfl,d.facts,rfl,by unfold bw;rw[Ya,Je,Ya];exact fI (x6 _ _) (fI fl (by decide)),λH1 J Q=>?_⟩;have vz:aZ (bw (b.fs.map (·.1)) l.cz) (.inl (z:Int))=aJ:=Bk nz;rw[mj _ vz,A8 z B al] at Q;refine⟨_,rfl,_,rfl,l.h,C,E,_,_,rfl,J _ _ i D4,g.cls,g.BY,rfl,_,rfl,_,rfl,_,rfl,c.k,av b.ps c.one,bg b.ps c,rfl,λe=>Rn e,λp H2 qM A dO=>?_⟩;refine⟨l.kn,p,_,fP b.ps c,rfl,A _ _ (J _ _ d.known T),rfl,dO,by unfold gP;rw[Ya];exact fI fl (by decide),λu R j=>?_⟩;have vk:aZ (gP b.ps b.fs) (fP b.ps c)=aJ:=qX (by
  have:(gP b.ps b.fs).map (·.1)=b.keys:=by unfold gP BS.keys;rw[Y7];rfl
  rw[this];exact nk)
 rw[mj _ vk] at j
 replace j:u l.kn=U (.dT (gP b.ps (b.fs++[(z,c)]))):=by rw[ZeW];exact j
 have y:∀{a:O} {o:HO},H a=U o->a≠l.fc->a≠l.kn->u a=U o:=λ{a o} e n1 n2=>R _ _ (A _ _ (J _ _ e n1)) n2;have N:u l.fc=U (.dK (bw ((b.fs++[(z,c)]).map (·.1)) (l.cz++[B]))):=by
  have:=R _ _ (A _ _ Q) (λz=>T z.symm);rw[this,Yo];rfl
 have Av:=y d.parents L W;refine⟨_,rfl,D,_,rfl,.inr (qP _),rfl,rfl,_,rfl,?_⟩;dsimp only;rw[bR Yi,show gI (kV (Sum.inr c.k)) (jz.map V.str)=cM c.k from B3 c.k];refine bF (λt=>?_) (λt=>aX ?_)
 ·refine⟨_,rfl,_,rfl,l.h,C,E,_,_,rfl,y i D4 x,g.cls,g.wb,rfl,_,rfl,_,rfl,by show 2<=sizeLine;decide,λp4 H4 np4 m MR=>?_⟩;refine⟨l.pr,p4,_,[.inr c.k,.inr (av b.ps c.one)],rfl,m _ _ Av,rfl,MR,?_,λX G r=>?_⟩
  ·unfold cP;rw[Ya];have:=Wn (λp:Nat×Fc=>cM p.2.k) b.fs;exact fI this (fI fl (by decide))
  have vp:aZ (cP b.ps b.fs) [.inr c.k,.inr (av b.ps c.one)]=aJ:=qX (np t);rw[mj _ vp] at r
  replace r:X l.pr=U (.dT (cP b.ps (b.fs++[(z,c)]))):=by rw[Qh t];exact r
  refine q X (λa o e n=>?_) (G _ _ (m _ _ N) (λz=>L z.symm)) (G _ _ (m _ _ j) (λz=>W z.symm)) r;simp only[Ys,Y3,hP,iC] at n;exact G _ _ (m _ _ (y e n.1 n.2.1)) n.2.2
 ·have ef:cM c.k=a7:=by
   cases e:cM c.k with
   |true=>exact absurd e t
   |false=>rfl
  refine q u (λa o e n=>?_) N j (by rw[Qi ef];exact Av)
  grind
theorem SN{l:BL}{H g:Hp}{c d:JL}(i:l.fJ=c.fp)(o:Out l.own H g)(h:fH c.fp d.fp g):fH l.fp ({l with fJ:=d.fp}:BL).fp H:=λa z=>by
 rcases Yv.mp (z) with q|q;·exact .inl (Yt _ q)
 ·rcases h a q with m|m;·exact .inl (Yu _ (by rwa[i]))
  ·by_cases b:a∈l.own;·exact .inl (Yt _ b)
   ·right
    cases e:H a with
    |none=>rfl
    |some u=>rw[o _ _ e b] at m;cases m
def TY{l:BL}{b:JL}(d:l.fJ=b.fp)(o:Out l.own H H1)(c:Out b.fp H1 H2):Out l.fp H H2:=λa u e n=>c _ _ (o _ _ e λz=>n (Yt _ z)) λz=>n (Yu _ (by rwa[d]))
def tV{l:BL}(o:Out l.own H H1):Out l.fp H H1:=λa u e n=>o _ _ e λz=>n (Yt _ z)
abbrev xu:Z ar:=["self","row"]
def EZ:aT ["self","row","name","side"] xu (aO E7):=.a9
theorem Zdy(F:aR K "put_in" "Hearth.put_in" E7 f fd)(i:fL K C)(vN:HasFn P w K mg I 1 "is_person" ko (Hg K))(vO:bY P w K mg I 2 "add" CJ eZ (Kz CJ))(EK:bY P w K mg I 2 "note_fact" C uB (SM C CL CJ))(vP:HasFn P w K mg I 6 "keep_fact" uz (IT CL CJ))(bl:Bl mg):aI P w K mg I aP 8 f fd xu (Rl C CL CJ):=by
 refine F.o EZ @λbO A outer vs Q E s H hr h=>?_;obtain⟨l,b,b',L,ys,r,rfl,d,ok,mv,q⟩:=h;refine⟨_,(au (aW (eX (aV vN hr (aa (pv 1) ag))) (aq (oH (pv 1) (jr (K:=K) (n:=2) rfl rfl (bX (bI 2 EZ.nd) (bX (bI 3 EZ.nd) jo)))) (aq (pS (bG hr) (pF K 0) (pv 2) (iY (Zb5) rfl bl.Cu B_ (aa (pF K 0) ag))) (aq (pS (bG hr) (pF K 0) (pv 2) (pv 3)) (au (aW (bJ BE (pF K 0) mF) (au (cG (oK vO hr (by decide) (pF K 0)))) a_))))) (aq (cG (cV EK hr (by decide) (pv 0) (aa (pv 1) ag))) (au (aW (bJ BE (pF K 0) mF) (au (cG (aV vP hr (aa (pF K 0) (aa (pF K 0) (aa (pF K 0) (aa (pv 1) ag))))))) a_))))),?_⟩;obtain⟨B,h1⟩:=d.obj;have sz:(10000:Nat)<=sizeLine:=by rw[c4];decide
 have nd:=d.nd;unfold BL.own at nd;have Xp:=nd;simp only[Y0,Ys,Y3,hP,iC] at Xp;obtain⟨⟨og,cJ,jI,oh,qQ,pB,qR⟩,⟨Aw,uX,uY,uZ,xU,xV⟩,⟨sQ,u3,u4,xW,xX⟩,_⟩:=Xp;have uC:∀p∈b.fs,dY L.length b.ps.length p.2:=λp hp=>(ok.fg p hp).ok;cases mv with
 |pin n s X new lim=>
  refine⟨_,rfl,r,_,rfl,aB.of X,_,rfl,dq ?_⟩;refine⟨_,rfl,r,_,rfl,aB.of X,rfl,_,_,rfl,bu ⟨_,_,rfl,bu ⟨rfl,?_⟩⟩⟩;have kl:(h_ b.ps).length=b.ps.length:=Ya _;have pl':(kr b.ps).length=b.ps.length:=by unfold kr;rw[Ya,List.length_zipIdx]
  refine⟨_,rfl,l.h,C,B,_,_,rfl,h1,i.cls,i.tS,rfl,l.sd,_,rfl,d.c_,_,rfl,l.h,C,B,_,_,rfl,h1,i.cls,i.tO,rfl,_,rfl,l.pl,_,.inr n,rfl,d.places,rfl,(fI (kS pl') (hT lim (by decide))),λH1 b1 e1=>?_⟩;have Zi1:(kr b.ps).map (·.1)=b.ps.map λp=>(.inr p.1:Key):=by
   unfold kr;rw[Y7];have:(λp:(ar×ar)×Nat=>((.inr p.1.1:Key),V.int (p.2:Int)).1)=(λp:ar×ar=>(.inr p.1:Key))∘Prod.fst:=rfl;show b.ps.zipIdx.map (λp:(ar×ar)×Nat=>((.inr p.1.1:Key),V.int (p.2:Int)).1)=_;rw[this,←Y7,List.zipIdx_map_fst]
  have UY:∀{ks:Z Key},ks=(b.ps.map λp=>(.inr p.1:Key))->(.inr n:Key)∉ks:=λ{ks} e z=>by
   rw[e] at z;obtain⟨p,hp,ep⟩:=Ye.mp z;exact new (Ye.mpr ⟨p,hp,Wi ep⟩)
  have vp:aZ (kr b.ps) (.inr n)=aJ:=qX (UY Zi1);have vs':aZ (h_ b.ps) (.inr n)=aJ:=qX (UY (by show(b.ps.map _).map _=_;rw[Y7];rfl));rw[mj _ vp,kl] at e1;refine⟨_,rfl,_,rfl,l.h,C,B,_,_,rfl,b1 _ _ h1 cJ,i.cls,i.tS,rfl,_,rfl,l.sd,_,.inr n,rfl,b1 _ _ d.c_ Aw,rfl,(fI (kS kl) (hT lim (by decide))),λH2 b2 e2=>?_⟩;rw[mj _ vs'] at e2;have j:∀{a:O} {o:HO},H a=U o->a≠l.pl->a≠l.sd->H2 a=U o:=λ{a o} e n1 n2=>b2 _ _ (b1 _ _ e n1) n2;have G:Out l.own H H2:=λa u e na=>j e (λz=>na (by rw[z];simp[BL.own])) (λz=>na (by rw[z];simp[BL.own]));have s2:H2 l.sd=U (.dK (h_ (b.ps++[(n,s)]))):=by rw[Zgo];exact e2
  have p2:H2 l.pl=U (.dK (kr (b.ps++[(n,s)]))):=by rw[Zgp];exact b2 _ _ e1 (λz=>Aw z.symm)
  have N:=j h1 cJ og;have tp:∀{a:O} {D:Z V} {H3:Hp},Out l.fp H H3->H a=U (.tup D)->H3 a=U (.tup D):=λo e=>o _ _ e (d.tup e);have mk:∀(x:BL) (H3:Hp),x={l with fJ:=x.fJ}->Out l.fp H H3->fH l.fp x.fp H->(∀a u,H2 a=U u->a∈l.own->H3 a=U u)->uy H3 CJ L.length x {b with ps:=b.ps++[(n,s)]}->Q .ay H3:=λx H3 t o g k rk=>by
   refine q x H3 ⟨by rw[t],o,g⟩ ?_;refine d.build (l':=x) (b':={b with ps:=b.ps++[(n,s)]}) (by rw[t]) (by rw[t]) (by rw[t]) (by rw[t]) (by rw[t]) (by rw[t]) (by rw[t]) (by rw[t]) (by rw[t]) o g ⟨B,?_⟩ (k _ _ s2 (by simp[BL.own])) (k _ _ p2 (by simp[BL.own])) ?_ ?_ ?_ ?_ ?_ ?_ ?_ ?_ rk
   ·have:x.rk=l.rk:=by rw[t]
    rw[this];exact k _ _ N (by simp[BL.own])
   ·have:x.cz=l.cz:=by rw[t]
    rw[this];exact k _ _ (j d.facts (λz=>sQ z.symm) (λz=>uX z.symm)) (by simp[BL.own])
   ·have:x.cz=l.cz:=by rw[t]
    rw[this];have aux:∀{as:Z O} {fs:Z (Nat×Fc)},Paired (λa (p:Nat×Fc)=>H a=U (.tup ((d7 b.ps p.1 p.2).map kV))) as fs->(∀p∈fs,dY L.length b.ps.length p.2)->Paired (λa (p:Nat×Fc)=>H3 a=U (.tup ((d7 (b.ps++[(n,s)]) p.1 p.2).map kV))) as fs:=by
     intro as fs pr;induction pr with
     |nil=>intro _;exact .nil
     |cons f _ ih=>intro m;exact .cons (by rw[Zgm (m _ Yk)];exact tp o f) (ih λp hp=>m p (Yw _ hp))
    exact aux d.fact uC
   ·show H3 l.kn=U (.dT (gP (b.ps++[(n,s)]) b.fs));rw[Zgn uC];exact k _ _ (j d.known (λz=>u3 z.symm) (λz=>uY z.symm)) (by simp[BL.own])
   ·show H3 l.pr=U (.dT (cP (b.ps++[(n,s)]) b.fs));rw[Rj uC];exact k _ _ (j d.parents (λz=>u4 z.symm) (λz=>uZ z.symm)) (by simp[BL.own])
   ·have:x.jj=l.jj:=by rw[t]
    rw[this];exact k _ _ (j d.done (λz=>xW z.symm) (λz=>xU z.symm)) (by simp[BL.own])
   ·have:x.jj=l.jj:=by rw[t]
    rw[this];exact L2.Paired.bL d.lD λ_ _ e=>e.out o λa D e=>d.tup e
   ·have:x.lR=l.lR:=by rw[t]
    rw[this];exact k _ _ (j d.ju (λz=>xX z.symm) (λz=>xV z.symm)) (by simp[BL.own])
   ·have:x.lR=l.lR:=by rw[t]
    rw[this];exact L2.Paired.bL d.oN λ_ _ e=>e.out o λa D e=>d.tup e
  cases hj:d.ud with
  |no J T=>
   rw[J] at N;refine⟨_,rfl,l.h,C,B,_,_,rfl,N,i.cls,i.jn,rfl,rfl,_,rfl,bT (aX ?_)⟩;exact mk l H2 rfl (tV G) (fH.refl _ _) (λ_ _ e _=>e) (.no J T)
  |at_ jl st J T ja W len gQ=>
   have R:=N;rw[J] at R;have D5:=ja.i_ G gQ (d.Kd ja W) λa D e z=>d.tup e (Yt _ z);obtain⟨dj,ej⟩:=D5.obj;have wf:=W.wf;have ml:=wf.SD;have Au:=wf.Cz;have n8:L.length<=8:=ok.gd.2.2.2.2;refine⟨_,rfl,l.h,C,B,_,_,rfl,R,i.cls,i.jn,rfl,rfl,_,rfl,dq ?_⟩;refine⟨_,rfl,l.h,C,B,_,_,rfl,R,i.cls,i.jn,rfl,jl.J,dj,_,rfl,ej,rfl,jl,st,L.length,rfl,D5,(dI n8 (by decide)),QO,ml,Au,wf.ll,λz=>Wd _ (wf.lm _ z),λz=>Wd _ (wf.lf _ z),λiU H3 k1 o3 gr MS=>?_⟩;refine mk {l with fJ:=iU.fp} H3 rfl (TY T G o3) (SN T G gr) (λa u e m=>o3 _ _ e (gQ a m)) ?_;refine .at_ iU _ (by rw[k1];exact J) rfl MS (W.more (by have:=ok.gd.2.2.2.1;exact hT (VT _) this)) ?_ λa m z=>?_;·rw[jP,len,Yj];rfl
   ·rcases gr a z with y|y;·exact gQ a m y
    ·have:=d.there (a:=a) (Yt _ m);have:H2 a≠aJ:=by
      have m':a∈l.own:=m;unfold BL.own at m';simp only[Ys,Y3,hP] at m';rcases m' with rfl|rfl|rfl|rfl|rfl|rfl|rfl|rfl;·rw[N];exact λz=>nomatch z
      ·rw[s2];exact λz=>nomatch z
      ·rw[p2];exact λz=>nomatch z
      ·rw[j d.facts (λz=>sQ z.symm) (λz=>uX z.symm)];exact λz=>nomatch z
      ·rw[j d.known (λz=>u3 z.symm) (λz=>uY z.symm)];exact λz=>nomatch z
      ·rw[j d.parents (λz=>u4 z.symm) (λz=>uZ z.symm)];exact λz=>nomatch z
      ·rw[j d.done (λz=>xW z.symm) (λz=>xU z.symm)];exact λz=>nomatch z
      ·rw[j d.ju (λz=>xX z.symm) (λz=>xV z.symm)];exact λz=>nomatch z
     exact this y
 |fin z c X fg nz nk np lv lim=>
  refine⟨_,rfl,r,_,rfl,aB.of X,_,rfl,bT ?_⟩;refine⟨_,rfl,l.h,B,_,rfl,h1,rfl,_,rfl,l,b,L,ys,r,z,c,rfl,d,X,nz,nk,np,(qH lim),λH1 o1 f1 k1 p1=>?_⟩;have j:∀{a:O} {o:HO},H a=U o->a≠l.fc->a≠l.kn->a≠l.pr->H1 a=U o:=λ{a o} e n1 n2 n3=>o1 _ _ e (by simp[n1,n2,n3]);have G:Out l.own H H1:=λa u e na=>j e (λz=>na (by rw[z];simp[BL.own])) (λz=>na (by rw[z];simp[BL.own])) (λz=>na (by rw[z];simp[BL.own]));have N:=j h1 jI oh qQ;have Xq:=nd;simp only[Y0,Ys,Y3,hP,iC] at Xq;obtain⟨_,_,_,⟨Ax,Ay,xY,lu⟩,⟨D6,Az,AA⟩,⟨AB,AD⟩,_⟩:=Xq;have s2:=j d.c_ uX uY uZ;have p2:=j d.places sQ u3 u4;have d2:=j d.done (λz=>xY z.symm) (λz=>Az z.symm) (λz=>AB z.symm);have u2:=j d.ju (λz=>lu z.symm) (λz=>AA z.symm) (λz=>AD z.symm);have tp:∀{a:O} {D:Z V} {H3:Hp},Out l.fp H H3->H a=U (.tup D)->H3 a=U (.tup D):=λo e=>o _ _ e (d.tup e);have mk:∀(jf:Z O) (H3:Hp),Out l.fp H H3->fH l.fp ({l with cz:=l.cz++[r],fJ:=jf}:BL).fp H->(∀a u,H1 a=U u->a∈l.own->H3 a=U u)->uy H3 CJ L.length {l with cz:=l.cz++[r],fJ:=jf} {b with fs:=b.fs++[(z,c)]}->Q .ay H3:=λjf H3 o g k rk=>by
   refine q {l with cz:=l.cz++[r],fJ:=jf} H3 ⟨rfl,o,g⟩ ?_;refine d.build (l':={l with cz:=l.cz++[r],fJ:=jf}) (b':={b with fs:=b.fs++[(z,c)]}) rfl rfl rfl rfl rfl rfl rfl rfl rfl o g ⟨B,k _ _ N (by simp[BL.own])⟩ (k _ _ s2 (by simp[BL.own])) (k _ _ p2 (by simp[BL.own])) (k _ _ f1 (by simp[BL.own])) ?_ (k _ _ k1 (by simp[BL.own])) (k _ _ p1 (by simp[BL.own])) (k _ _ d2 (by simp[BL.own])) (L2.Paired.bL d.lD λ_ _ e=>e.out o λa D e=>d.tup e) (k _ _ u2 (by simp[BL.own])) (L2.Paired.bL d.oN λ_ _ e=>e.out o λa D e=>d.tup e) rk;exact kQ (F:=λa (p:Nat×Fc)=>H3 a=U (.tup ((d7 b.ps p.1 p.2).map kV))) (tp o X) (L2.Paired.bL d.fact λ_ _ e=>tp o e)
  cases hj:d.ud with
  |no J T=>
   rw[J] at N;refine⟨_,rfl,l.h,C,B,_,_,rfl,N,i.cls,i.jn,rfl,rfl,_,rfl,bT (aX ?_)⟩;exact mk l.fJ H1 (tV G) (fH.refl _ _) (λ_ _ e _=>e) (.no J T)
  |at_ jl st J T ja W len gQ=>
   have R:=N;rw[J] at R;have D5:=ja.i_ G gQ (d.Kd ja W) λa D e z=>d.tup e (Yt _ z);have la2:js H1 CL l.L L ys:=d.land H1 (tV G);refine⟨_,rfl,l.h,C,B,_,_,rfl,R,i.cls,i.jn,rfl,rfl,_,rfl,dq ?_⟩;refine⟨_,rfl,l.h,C,B,_,_,rfl,R,i.cls,i.jn,rfl,_,rfl,l.h,C,B,_,_,rfl,R,i.cls,i.wO,rfl,_,rfl,l.h,C,B,_,_,rfl,R,i.cls,i.tO,rfl,_,rfl,jl,st,l.L,l.pl,r,L,ys,b.ps,b.F,z,c,rfl,D5,W,la2,ok.gd,p2,ok.nm,len,by have:=ok.m;exact d6 this (by decide),tp (tV G) X,fg,?_,λv iU aS H3 e1 sub o3 MS me3 Zj4=>?_⟩
   ·obtain⟨f0,i0,s0⟩:=lv;exact⟨f0,(W.iff f0).mpr ⟨by rw[len];exact i0,λc' m'=>s0 c' (Yt _ m')⟩,s0 c (Yu _ Yk)⟩
   have gr:fH jl.fp iU.fp H1:=λa z=>.inl (sub a z);refine mk iU.fp H3 (TY T G o3) (SN T G gr) (λa u e m=>o3 _ _ e (gQ a m)) ?_;refine .at_ iU aS (by rw[e1];exact J) rfl MS ?_ (by rw[Zj4];exact len) λa m z=>gQ a m (sub a z);show dZ L.length aS ((b.fs++[(z,c)]).map (·.2));rw[Yo];exact me3
def Qj{l b:BL}(d:b.own=l.own)(c:b.fJ=[]):fH l.fp b.fp H:=λa z=>.inl (by
 unfold BL.fp at z;rw[d,c,Wf] at z;exact Yt _ z)
def yj:aT ["self","row","number","kind","one","other"] xu (aO EO):=.a9
theorem Zbv(F:aR K "take_out" "Hearth.take_out" EO f fd)(g:fL K C)(jO:mg "PARENTS"=U (.ref eC))(qP:∀H,aB K H eC (jz.map V.str))(vN:HasFn P w K mg I 1 "is_person" ko (Hg K))(pN:HasFn P w K mg I 1 "fact_key" xt CA):aI P w K mg I aP 2 f fd xu (Pc C CL CJ):=by
 refine F.o yj @λbO A outer vs Q E s H T h=>?_;obtain⟨l,b,b',xs,ys,r,rfl,d,ok,mv,q⟩:=h;refine⟨_,(aq (aW (eX (aV vN T (aa (pv 1) ag))) gY (aq (oH (pv 1) (jr (K:=K) (n:=4) rfl rfl (bX (bI 2 yj.nd) (bX (bI 3 yj.nd) (bX (bI 4 yj.nd) (bX (bI 5 yj.nd) jo)))))) (aq (Zez (pF K 0) (pv 2)) (aq (PX (bG T) (pF K 0) (aV pN T (aa (pv 3) (aa (pv 4) (aa (pv 5) ag))))) (au (aW (ic (mZ (K:=K) rfl) (pv 3) (dR (v:=.ref eC) rfl jO rfl) QU) (au (PX (bG T) (pF K 0) (dX (aa (pv 3) (aa (pv 4) ag))))) a_)))))) (au (iH (K:=K) rfl (pv 0) mF))),?_⟩;obtain⟨k,G⟩:=d.obj;have sz:(10000:Nat)<=sizeLine:=by rw[c4];decide
 have nd:=d.nd;unfold BL.own at nd;simp only[Y0,Ys,Y3,hP,iC] at nd;obtain⟨⟨og,cJ,D,N,qQ,pB,qR⟩,⟨Aw,uX,uY,uZ,xU,xV⟩,⟨sQ,u3,u4,xW,xX⟩,⟨Ax,Ay,xY,lu⟩,⟨D6,Az,AA⟩,⟨AB,AD⟩,_⟩:=nd;cases mv with
 |uA z c hR m=>
  have al:(b.fs.map (·.1)).length=l.cz.length:=by rw[Ya];exact(c7 d.fact).symm
  obtain⟨fa,u5,_⟩:=B0 (H:=H) (ps:=b.ps) d.fact ok.zs m;have Zi2:(gP b.ps b.fs).map (·.1)=b.keys:=by unfold gP BS.keys;rw[Y7];rfl
  refine⟨_,rfl,r,_,rfl,aB.of hR,_,rfl,bT ?_⟩;refine⟨_,rfl,r,_,rfl,aB.of hR,rfl,_,_,rfl,bu ⟨_,_,rfl,bu ⟨_,_,rfl,bu ⟨_,_,rfl,bu ⟨rfl,?_⟩⟩⟩⟩⟩;refine⟨_,rfl,l.h,C,k,_,_,rfl,G,g.cls,g.nA,rfl,_,rfl,l.fc,_,.inl (z:Int),rfl,d.facts,rfl,by rw[u5];rfl,λH1 b1 e1=>?_⟩;rw[A9 z al,←pT] at e1;refine⟨_,rfl,l.h,C,k,_,_,rfl,b1 _ _ G D,g.cls,g.BY,rfl,_,rfl,_,rfl,_,rfl,c.k,av b.ps c.one,bg b.ps c,rfl,λe=>Rn e,λp H2 qM g2 dO=>?_⟩;refine⟨l.kn,p,_,fP b.ps c,rfl,g2 _ _ (b1 _ _ d.known (λz=>Ax z.symm)),rfl,dO,(Bx _ _).mpr (by rw[Zi2];exact Ye.mpr ⟨_,m,rfl⟩),λH3 b3 e3=>?_⟩;rw[ZeX ok.zs ok.ky m] at e3;have B:∀{a:O} {o:HO},H a=U o->a≠l.fc->a≠l.kn->H3 a=U o:=λ{a o} e n1 n2=>b3 _ _ (g2 _ _ (b1 _ _ e n1)) n2;have ef3:=b3 _ _ (g2 _ _ e1) Ax;have Av:=B d.parents (λz=>Ay z.symm) (λz=>D6 z.symm);have i:∀t,(∀{a:O} {o:HO},H3 a=U o->a≠l.pr->t a=U o)->t l.pr=U (.dT (cP b.ps (dh z b.fs)))->∀H6,aC l.h t H6->H6 l.h=U (.ins C k (HF l.L l.sd l.pl l.fc l.kn l.pr (b.co:Int) l.dn l.un .ay))->Q .ay H6:=λt x W H6 j J=>by
   have y:∀{a:O} {o:HO},H a=U o->a≠l.fc->a≠l.kn->a≠l.pr->a≠l.h->H6 a=U o:=λ{a o} e n1 n2 n3 n4=>j _ _ (x (B e n1 n2) n3) n4;have o6:Out l.own H H6:=λa u e R=>y e (λz=>R (by rw[z];simp[BL.own])) (λz=>R (by rw[z];simp[BL.own])) (λz=>R (by rw[z];simp[BL.own])) (λz=>R (by rw[z];simp[BL.own]));have of:=tV o6;have tp:∀{a:O} {L:Z V},H a=U (.tup L)->H6 a=U (.tup L):=λe=>of _ _ e (d.tup e);refine q {l with rk:=.ay,fJ:=[],cz:=eR (b.fs.map (·.1)) l.cz z} H6 ⟨rfl,of,Qj rfl rfl⟩ ?_;exact d.build (l':={l with rk:=.ay,fJ:=[],cz:=eR (b.fs.map (·.1)) l.cz z}) (b':={b with fs:=dh z b.fs}) rfl rfl rfl rfl rfl rfl rfl rfl rfl of (Qj rfl rfl) ⟨k,J⟩ (y d.c_ uX uY uZ (λz=>og z.symm)) (y d.places sQ u3 u4 (λz=>cJ z.symm)) (j _ _ (x ef3 Ay) (λz=>D z.symm)) (G_ d.fact λa p e _ _=>tp e) (j _ _ (x e3 D6) (λz=>N z.symm)) (j _ _ W (λz=>qQ z.symm)) (y d.done (λz=>xY z.symm) (λz=>Az z.symm) (λz=>AB z.symm) (λz=>pB z.symm)) (L2.Paired.bL d.lD λ_ _ e=>e.out of λa L e=>d.tup e) (y d.ju (λz=>lu z.symm) (λz=>AA z.symm) (λz=>AD z.symm) (λz=>qR z.symm)) (L2.Paired.bL d.oN λ_ _ e=>e.out of λa L e=>d.tup e) (.no rfl rfl)
  refine⟨_,rfl,eC,_,rfl,.inr (qP _),rfl,rfl,_,rfl,?_⟩;dsimp only;rw[bR Yi,show gI (kV (Sum.inr c.k)) (jz.map V.str)=cM c.k from B3 c.k];refine bF (λX=>?_) (λX=>aX ?_)
  ·refine⟨_,rfl,l.h,C,k,_,_,rfl,B G D N,g.cls,g.wb,rfl,_,rfl,_,rfl,by show 2<=sizeLine;decide,λp4 H4 np4 g4 MR=>?_⟩;refine⟨l.pr,p4,_,[.inr c.k,.inr (av b.ps c.one)],rfl,g4 _ _ Av,rfl,MR,(Bx _ _).mpr ?_,λt b5 W=>?_⟩
   ·unfold cP;rw[Y7];exact Ye.mpr ⟨(z,c),Y5.mpr ⟨m,X⟩,rfl⟩
   rw[ZeY ok.zs ok.pr m X] at W;have x:∀{a:O} {o:HO},H3 a=U o->a≠l.pr->t a=U o:=λ{a o} e n=>b5 _ _ (g4 _ _ e) n;refine⟨_,rfl,l.h,C,k,_,rfl,x (B G D N) qQ,g.cls,g.jn,by show 10<1000;decide,λH6 j J=>?_⟩;exact i t x W H6 j J
  ·have ef:cM c.k=a7:=by
    cases e:cM c.k with
    |true=>exact absurd e X
    |false=>rfl
   refine⟨_,rfl,l.h,C,k,_,rfl,B G D N,g.cls,g.jn,by show 10<1000;decide,λH6 j J=>?_⟩;exact i H3 (λe _=>e) (by rw[←Zdx ok.zs m ef];exact Av) H6 j J
abbrev nQ:Z ar:=["self","way","row","coming"]
def ZO:aT nQ nQ (aO Fp):=.a9
def ZeZ(F:aR K "shift" "Hearth.shift" Fp f fd)(x:fL K C)(pV:mg "PUT_IN"=U (.int 1 t1))(Fb:bY P w K mg I 8 "put_in" C xu (Rl C CL CJ))(ET:bY P w K mg I 2 "take_out" C xu (Pc C CL CJ)):aI P w K mg I aP 9 f fd nQ (Rm C CL CJ):=by
 refine F.o ZO @λbO A B vs Q E s H T h=>?_;obtain⟨l,b,n,t,p,r,L,G,rfl,J,ok,mv,q⟩:=h;refine⟨_,(aq (aW (bJ cL (pv 1) (dR (v:=.int (1)) rfl pV ⟨_,rfl⟩)) (au (cG (cV Fb T (by decide) (pv 0) (aa (pv 2) ag)))) (au (cG (cV ET T (by decide) (pv 0) (aa (pv 2) ag))))) (au (iH (K:=K) rfl (pv 0) (pv 3)))),?_⟩;obtain⟨dx,W⟩:=J.obj;have R:∀(c:BL) (g:Hp),bZ H g l c->bc g C CL CJ c t p n->∀(i:O) (H2:Hp),g c.h=U (.ins C i (HF c.L c.sd c.pl c.fc c.kn c.pr (n.co:Int) c.dn c.un c.rk))->aC c.h g H2->H2 c.h=U (.ins C i (HF c.L c.sd c.pl c.fc c.kn c.pr (G:Int) c.dn c.un c.rk))->Q .ay H2:=λc g m d i H2 o j e2=>by
  have D:=d.nd;unfold BL.own at D;simp only[Y0,Ys,Y3,hP,iC] at D;obtain⟨⟨og,cJ,jI,oh,qQ,pB,qR⟩,_⟩:=D;have N:Out c.own g H2:=λa u e na=>j _ _ e (λz=>na (by rw[z];simp[BL.own]));have of:=tV N;have oi:=(d.owned (b':={n with co:=G}) rfl rfl rfl rfl rfl rfl rfl rfl rfl (.inl ⟨rfl,rfl,rfl,rfl⟩) N ⟨i,e2⟩ (j _ _ d.c_ (λz=>og z.symm)) (j _ _ d.places (λz=>cJ z.symm)) (j _ _ d.facts (λz=>jI z.symm)) (L2.Paired.bL d.fact λ_ _ e=>(λe=>of _ _ e (d.tup e)) e) (j _ _ d.known (λz=>oh z.symm)) (j _ _ d.parents (λz=>qQ z.symm)) (j _ _ d.done (λz=>pB z.symm)) (L2.Paired.bL d.lD λ_ _ e=>e.out of λ a us=>d.tup) (j _ _ d.ju (λz=>qR z.symm)) (L2.Paired.bL d.oN λ_ _ e=>e.out of λa us e=>d.tup e)).1;exact q c H2 (m.trans ⟨rfl,of,fH.refl _ _⟩) oi
 have X:∀(c:BL) (g:Hp),bZ H g l c->bc g C CL CJ c t p n->∃i,g l.h=U (.ins C i (HF c.L c.sd c.pl c.fc c.kn c.pr (n.co:Int) c.dn c.un c.rk))/\∀H2,aC l.h g H2->H2 l.h=U (.ins C i (HF c.L c.sd c.pl c.fc c.kn c.pr (G:Int) c.dn c.un c.rk))->Q .ay H2:=λc g m d=>by
  obtain⟨i,o⟩:=d.obj;have eh:=m.h
  grind
 have y:L=1\/L=-1:=by cases mv<;>first|exact .inl rfl|exact .inr rfl
 rcases y with rfl|rfl
 ·refine⟨_,rfl,rfl,_,rfl,dq ?_⟩;refine⟨_,rfl,l.h,dx,_,rfl,W,rfl,_,rfl,l,b,n,t,p,r,rfl,J,ok,mv,λc g m d=>?_⟩;obtain⟨i,o,k⟩:=X c g m d;exact⟨_,rfl,_,rfl,l.h,C,i,_,rfl,o,x.cls,x.pU,by show 10<1000;decide,k⟩
 ·refine⟨_,rfl,rfl,_,rfl,bT ?_⟩;refine⟨_,rfl,l.h,dx,_,rfl,W,rfl,_,rfl,l,b,n,t,p,r,rfl,J,ok,mv,λc g m d=>?_⟩;obtain⟨i,o,k⟩:=X c g m d;exact⟨_,rfl,_,rfl,l.h,C,i,_,rfl,o,x.cls,x.pU,by show 10<1000;decide,k⟩
def Zv:aT nQ nQ (aO EX):=.a9
def Zct(F:aR K "do_deed" "Hearth.do_deed" EX f fd)(g:fL K C)(Fs:bY P w K mg I 9 "shift" C nQ (Rm C CL CJ)):aI P w K mg I aP 10 f fd nQ (yP C CL CJ):=by
 refine F.o Zv λs H hr h=>?_;obtain⟨l,b,b',X,W,r,E,Q,x,rfl,c,ok,dl,hR,mv,q⟩:=h;refine⟨_,(aq (cG (qa (K:=K) rfl (mJ kj l4 lU q0 (pF K 0) (aa (dX (aa (pv 1) (aa (pv 2) (aa (pF K 0) (aa (pv 3) ag))))) ag)))) (aq (cG (ZfX (K:=K) rfl (ZgY kj PySem.F.slot_list_clear PySem.F.type_list_clear Zdd (pF K 0)))) (au (cG (cV Fs hr (by decide) (pv 0) (aa (pv 1) (aa (pv 2) (aa (pv 3) ag)))))))),?_⟩;obtain⟨j,i⟩:=c.obj;have sz:(10000:Nat)<=sizeLine:=by rw[c4];decide
 have A:=c.nd;unfold BL.own at A;simp only[Y0,Ys,Y3,hP,iC] at A;obtain⟨⟨og,cJ,jI,oh,qQ,y,G⟩,⟨Aw,uX,uY,uZ,xU,xV⟩,⟨sQ,u3,u4,xW,xX⟩,⟨Ax,Ay,xY,lu⟩,⟨D6,Az,AA⟩,⟨AB,AD⟩,T,_⟩:=A;have dal:=c7 c.lD;refine⟨_,rfl,l.h,C,j,_,_,rfl,i,g.cls,g.Kc,rfl,.inl ⟨rfl,_,ak.of c.done⟩,?_⟩;refine⟨_,rfl,_,rfl,_,rfl,l.h,C,j,_,_,rfl,i,g.cls,g.pU,rfl,_,rfl,by show 4<=sizeLine;decide,λp H1 m n e1=>?_⟩;refine⟨l.dn,_,_,rfl,rfl,n _ _ c.done,by rw[Ya];exact fI (kS dal) (hT dl (by decide)),λH2 t e2=>?_⟩;have a1:=t _ _ (n _ _ i) y;have R:=t _ _ (n _ _ c.ju) (λz=>T z.symm);refine⟨_,rfl,l.h,C,j,_,_,rfl,a1,g.cls,g.Qd,rfl,.inl ⟨rfl,_,ak.of R⟩,l.un,_,rfl,rfl,R,λH3 D e3=>?_⟩;have d:∀{a:O} {o:HO},H a=U o->a≠l.dn->a≠l.un->H3 a=U o:=λ{a o} e n1 n2=>D _ _ (t _ _ (n _ _ e) n1) n2;have J:Out l.own H H3:=λa u e L=>d e (λz=>L (by rw[z];simp[BL.own])) (λz=>L (by rw[z];simp[BL.own]));have of:=tV J;have v:∀{a:O} {k:Z V},H a=U (.tup k)->H3 a=U (.tup k):=λe=>of _ _ e (c.tup e);have pu:p≠l.un:=λz=>by rw[z,c.ju] at m;cases m
 have ed:H3 l.dn=U (.lst ((l.jj++[p]).map V.ref)):=by rw[Yo];exact D _ _ e2 T
 have N:=(c.owned (l':={l with jj:=l.jj++[p],lR:=[]}) (b':={b with dn:=b.dn++[⟨E,x,b.co,Q⟩],un:=[]}) rfl rfl rfl rfl rfl rfl rfl rfl rfl (.inl ⟨rfl,rfl,rfl,rfl⟩) J ⟨j,d i y G⟩ (d c.c_ xU xV) (d c.places xW xX) (d c.facts xY lu) (L2.Paired.bL c.fact λ_ _ e=>v e) (d c.known Az AA) (d c.parents AB AD) ed (kQ (F:=oM H3) ⟨r,D _ _ (t _ _ e1 (λz=>by rw[z,c.done] at m;cases m)) pu,v hR⟩ (L2.Paired.bL c.lD λ_ _ e=>e.out of λa k e=>c.tup e)) e3 .nil);have h3:=d i y G;refine⟨_,rfl,l.h,j,_,rfl,h3,rfl,_,rfl,_,rfl,_,rfl,{l with jj:=l.jj++[p],lR:=[]},_,_,X,W,r,E,Q,rfl,N.1,⟨ok.gd,ok.nm,ok.m,ok.fl,ok.fg,ok.zs,ok.lt,ok.ky,ok.pr,ok.lv,by show(b.dn++[_]).length<=200;rw[Yj];show b.dn.length+1<=200;exact mz dl,Yx _⟩,((mv.Zi0 _ _).out λk e=>v e),λl' H4 wt B=>?_⟩;exact q l' H4 (bZ.trans (l1:={l with jj:=l.jj++[p],lR:=[]}) ⟨rfl,of,N.2⟩ wt) B
def cX.Zj5(j:cX H C n l st)(h:a∈l.cz):∃b,H a=U (.lst b):=by
 obtain⟨p,e⟩:=yC j.free h
 grind
def cX.fQ(j:cX H C n l st)(e:H a=U o)(p:∀c,o≠.lst c)(m:∀c,o≠.tup c)(r:a∉l.fp)(i:aC a H k):cX k C n l st:=by
 refine j.i_ (fp:=[a]) (λb u g h=>i _ _ g λz=>h (by rw[z];exact Yk)) (λb d=>?_) (λb d z=>?_) λb c g z=>?_;·grind
 ·rw[Yn.mp d] at z;obtain⟨c,q⟩:=j.Zj5 z
  grind
 ·grind
inductive qk(H:Hp)(C CJ g d:O)(l:BL)(b:BS)(n:Nat)(J:O)(F:Z Fc)(m:Nat)(c:Hp):Prop
 |mk (e:JL) (st:JS) (k:e.J=J) (keep:∀a u,H a=U u->a≠l.h->a≠d->c a=U u) (h:c l.h=U (.ins C g (HF l.L l.sd l.pl l.fc l.kn l.pr (b.co:Int) l.dn l.un (.ref J)))) (j:cX c CJ n e st) (i:dZ n st F) (len:st.hd.length=m) (new:∀a∈e.fp,H a=aJ):qk H C CJ g d l b n J F m c
def qk.fQ(j:qk H C CJ E d l b n J F m k)(A:H c≠aJ)(e:k c=U o)(q:∀g,o≠.lst g)(p:∀g,o≠.tup g)(r:c≠l.h)(i:aC c k H7)(G:∀u,H d=U u->d≠c->d≠l.h->H7 d=U u):qk H C CJ E c l b n J F m H7:=by
 obtain⟨x,st,D,keep,h,y,v,len,new⟩:=j;refine⟨x,st,D,λa u B t s=>?_,i _ _ h (λz=>r z.symm),y.fQ e q p (λz=>A (new _ z)) i,v,len,new⟩;by_cases z:a=d;·grind
 ·exact i _ _ (keep a u B t z) s
theorem Pd:∀{c:Z Nat} {as:Z O} {i:Nat} {k:Key} {y:V},(bw c as)[i]?=U (k,y)->∃a,as[i]?=U a/\y=.ref a
 |[],as,i,k,y,h=>by
  unfold bw at h;simp at h
 |_::_,[],i,k,y,h=>by
  unfold bw at h;simp at h
 |q::c,a::as,0,k,y,h=>by
  injection(Ym h) with _ e
  simp_all
 |q::c,a::as,i+1,k,y,h=>by
  have g:bw (q::c) (a::as)=(Sum.inl (q:Int),V.ref a)::bw c as:=rfl;rw[g] at h;have d:(bw c as)[i]?=U (k,y):=by simpa using h
  obtain⟨b,j,e⟩:=Pd d
  simp_all
inductive B4(C CL CJ:O)(i:Z V)(H:Hp)(Q:VK)(E:XK):Prop
 |mk (l:BL) (b:BS) (d h:Z Int) (k:i=[.ref l.h]) (j:bc H C CL CJ l d h b) (ok:bW d h b) (q:∀(c:BL) (e:JL) (st:JS) (g:Hp),bZ H g l c->bc g C CL CJ c d h b->c.rk=.ref e.J->c.fJ=e.fp->cX g CJ d.length e st->dZ d.length st b.F->st.hd.length=b.ps.length->(∀a∈c.own,a∉e.fp)->(l.rk≠.ay->g=H/\c=l)->Q (.ref e.J) g)
def Fd:aT ["self","name","fact"] eZ (aO Fo):=.a9
theorem Ze0(F:aR K "joins" "Hearth.joins" Fo f fd)(t:fL K C)(lc:wW K CL)(IV:qj P w K mg I 1 "Joins" CJ CW (Q7 CJ))(vO:bY P w K mg I 2 "add" CJ eZ (Kz CJ))(vP:HasFn P w K mg I 6 "keep_fact" uz (IT CL CJ)):aI P w K mg I aP 8 f fd eZ (B4 C CL CJ):=by
 refine F.o Fd λs H hr h=>?_;obtain⟨l,b,X,ys,rfl,g,ok,q⟩:=h;refine⟨_,(aq (aW (bJ B8 (pF K 0) mF) (aq (iH (K:=K) rfl (pv 0) (Cv IV hr (by decide) rfl (aa (wA (K:=K) rfl (pF K 0) rfl) ag))) (aq (Zb9 (H0:=H) rfl hI rfl (ZfY (H0:=H) rfl (pF K 0)) (bI 1 Fd.nd) (au (cG (oK vO hr (by decide) (pF K 0))))) (au (Zb_ (H0:=H) rfl hI rfl (Zf1 (H0:=H) rfl (pF K 0)) (bI 2 Fd.nd) (au (cG (aV vP hr (aa (pF K 0) (aa (pF K 0) (aa (pF K 0) (aa (pv 2) ag))))))))))) a_) (au (aL (pF K 0)))),?_⟩;obtain⟨A,h1⟩:=g.obj;have n8:X.length<=8:=ok.gd.2.2.2.2;have n0:0<X.length:=by have:=ok.gd.2.2.2.1;exact hT (VT _) this
 have nd:=g.nd;unfold BL.own at nd;simp only[Y0,Ys,Y3,hP,iC] at nd;obtain⟨⟨og,cJ,jI,oh,qQ,pB,qR⟩,⟨Aw,uX,uY,uZ,xU,xV⟩,⟨sQ,u3,u4,xW,xX⟩,⟨Ax,Ay,xY,lu⟩,_⟩:=nd;cases hj:g.ud with
 |at_ p st j1 j2 Q G len gQ=>
  have m5:=h1;rw[j1] at m5;refine⟨_,rfl,l.h,C,A,_,_,rfl,m5,t.cls,t.jn,rfl,rfl,_,rfl,bT (aX ?_)⟩;exact⟨_,rfl,l.h,C,A,_,_,rfl,m5,t.cls,t.jn,rfl,q l p st H (bZ.of (aj.refl _)) g j1 j2 Q G len gQ λ_=>⟨rfl,rfl⟩⟩
 |no j1 j2=>
  have m5:=h1;rw[j1] at m5;refine nB (λσ H6=>∃(J:O) (D B:bq V),σ=[U (.ref l.h),D,B]/\qk H C CJ A l.h l b X.length J b.F b.ps.length H6) (λnx hn=>?_) ?_
  ·refine⟨_,rfl,l.h,C,A,_,_,rfl,m5,t.cls,t.jn,rfl,rfl,_,rfl,dq ?_⟩;obtain⟨dL,dS,mo,lS,wi,im,jf,iw,Ma,hL,_⟩:=g.landAt;refine⟨_,rfl,l.h,C,A,_,_,rfl,m5,t.cls,t.wO,rfl,l.L,CL,dL,_,_,rfl,hL,lc.cls,lc.t6,rfl,λx D7 sR qK nd2=>?_⟩;have Am:upd H D7 (.own x) x=aJ:=by rw[aA (λz=>nd2 z.symm)];exact sR
   have Xr:aj H (upd (upd H D7 (.own x)) x (.ins CJ D7 [])):=(cK qK _).trans (cK Am _);refine⟨x,D7,X.length,rfl,aQ,λMU H2 eJ1 em1 fr1 b2 ja1=>⟨rfl,?_⟩⟩;have f1:∀a∈MU.fp,H a=aJ:=λa ha=>by
    by_cases z:a=x;·rw[z];exact sR
    ·exact Xr.free (fr1 a ha z)
   have g2:aj H H2:=λa o e=>b2 _ _ (Xr _ _ e) (cA e sR);refine⟨_,rfl,l.h,C,A,_,rfl,g2 _ _ m5,t.cls,t.jn,by show 10<1000;decide,λH3 b3 e3=>?_⟩;have Xs:H3 l.h=U (.ins C A (HF l.L l.sd l.pl l.fc l.kn l.pr (b.co:Int) l.dn l.un (.ref x))):=e3;have D4:l.h∉MU.fp:=λz=>by have:=f1 _ z;rw[h1] at this;cases this
   have jm3:qk H C CJ A l.h l b X.length x [] 0 H3:=⟨MU,_,eJ1,λa u e n1 _=>b3 _ _ (g2 _ _ e) n1,Xs,ja1.fQ (g2 _ _ m5) (λE z=>nomatch z) (λE z=>nomatch z) D4 b3,ZiZ,rfl,f1⟩;have s3:H3 l.sd=U (.dK (h_ b.ps)):=b3 _ _ (g2 _ _ g.c_) (λz=>og z.symm);dsimp only;refine ie (λσ H6=>∃D B:bq V,σ=[U (.ref l.h),D,B]/\qk H C CJ A l.h l b X.length x [] b.ps.length H6) (λMV sS=>?_) ?_
   ·refine Zex (d:=l.sd) (kvs:=h_ b.ps) (H1:=H3) (λR r=>⟨_,rfl,l.h,C,A,_,_,rfl,Xs,t.cls,t.tS,rfl,r⟩) s3 (λi σ H6=>∃D B:bq V,σ=[U (.ref l.h),D,B]/\qk H C CJ A l.sd l b X.length x [] i H6) (λod=>⟨aJ,aJ,rfl,jm3.fQ (by rw[g.c_];exact λz=>nomatch z) s3 (λE z=>nomatch z) (λE z=>nomatch z) (λz=>og z.symm) (aC.put (aC.of (aj.refl _))) (λu _ _ z=>absurd rfl z)⟩) ?_ ?_
    ·rintro od i k y aK H6 N rt bk hk ⟨D,B,rfl,L⟩ fz hN;obtain⟨p,st,T,keep,j,Q,G,len,new⟩:=L;have il:i<b.ps.length:=by
      have:=(Yl.mp hk).1
      rwa [Ya] at this
     have im:=ok.m;obtain⟨dj,ej⟩:=Q.obj;have wf:=G.wf;have ml:=wf.SD;have Au:=wf.Cz;refine bu ?_;refine⟨_,rfl,l.h,C,A,_,_,rfl,j,t.cls,t.jn,rfl,p.J,dj,_,by rw[T],ej,rfl,p,st,X.length,by rw[T];rfl,Q,(dI n8 (by decide)),QO,ml,Au,wf.ll,λz=>Wd _ (wf.lm _ z),λz=>Wd _ (wf.lf _ z),λiU H7 k1 o7 gr ja7=>?_⟩;have W:∀{a:O} {u:HO},H a=U u->a∉p.fp:=λ{a u} e z=>by rw[new _ z] at e;cases e
     refine hN _ _ ⟨_,_,rfl,iU,_,k1.trans T,λa u e n1 n2=>o7 _ _ (keep a u e n1 n2) (W e),o7 _ _ j (W h1),ja7,G.more n0,by rw[jP,len],λa z=>?_⟩ (o7 _ _ fz (W g.c_));rcases gr a z with y|y;·exact new a y
     ·cases e:H a with
      |none=>rfl
      |some u=>
       by_cases z1:a=l.h;·rw[z1,j] at y;cases y
       ·by_cases z2:a=l.sd;·rw[z2,fz] at y;cases y
        ·rw[keep a u e z1 z2] at y;cases y
    ·rintro od aK H6 ⟨D,B,rfl,L⟩ fz;rw[Ya] at L;refine sS _ _ ⟨D,B,rfl,?_⟩;obtain⟨p,st,T,keep,j,Q,G,len,new⟩:=L;have W:l.sd∉p.fp:=λz=>by have:=new _ z;rw[g.c_] at this;cases this
     refine⟨p,st,T,λa u e n1 _=>?_,by rw[aA og];exact j,Q.fQ fz (λE z=>nomatch z) (λE z=>nomatch z) W (aC.put (aC.of (aj.refl _))),G,len,new⟩;by_cases z:a=l.sd
     ·subst z;rw[aQ];rw[g.c_] at e;exact e
     ·rw[aA z];exact keep a u e n1 z
   ·rintro σ H6 ⟨D,B,rfl,L⟩;obtain⟨jl0,ZlT,eJ0,Zi3,Zj6,ja0,me0,len0,ZlU⟩:=id L;have f6:H6 l.fc=U (.dK (bw (b.fs.map (·.1)) l.cz)):=Zi3 _ _ g.facts (λz=>jI z.symm) (λz=>jI z.symm);have al:=c7 g.fact;refine Zey (d:=l.fc) (kvs:=bw (b.fs.map (·.1)) l.cz) (H1:=H6) (λR r=>⟨_,rfl,l.h,C,A,_,_,rfl,Zj6,t.cls,t.nA,rfl,r⟩) f6 (λi σ H6=>∃D B:bq V,σ=[U (.ref l.h),D,B]/\qk H C CJ A l.fc l b X.length x (b.F.take i) b.ps.length H6) (λod=>⟨D,B,rfl,L.fQ (by rw[g.facts];exact λz=>nomatch z) f6 (λE z=>nomatch z) (λE z=>nomatch z) (λz=>jI z.symm) (aC.put (aC.of (aj.refl _))) (λu _ _ z=>absurd rfl z)⟩) ?_ ?_
    ·rintro od i k y aK H7 N rt bk hk ⟨D,B,rfl,L⟩ fz hN;obtain⟨fa,efa,rfl⟩:=Pd hk;obtain⟨⟨z,c⟩,Xt,df⟩:=fK g.fact efa;have mzc:=Yh Xt;obtain⟨p,st,T,keep,j,Q,G,len,new⟩:=L;have W:∀{a:O} {u:HO},H a=U u->a∉p.fp:=λ{a u} e z=>by rw[new _ z] at e;cases e
     have of:Out l.fp H H7:=λa u e n=>keep a u e (λz=>n (by rw[z];simp[BL.fp,BL.own])) (λz=>n (by rw[z];simp[BL.fp,BL.own]));have fg:=ok.fg _ mzc;have im:=ok.m;have ec:b.F[i]?=U c:=by unfold BS.F;rw[Yf,Xt];rfl
     have tk:b.F.take (i+1)=b.F.take i++[c]:=by rw[Y1,ec];rfl
     refine bu ?_;refine⟨_,rfl,l.h,C,A,_,_,rfl,j,t.cls,t.jn,rfl,_,rfl,l.h,C,A,_,_,rfl,j,t.cls,t.wO,rfl,_,rfl,l.h,C,A,_,_,rfl,j,t.cls,t.tO,rfl,_,rfl,p,st,l.L,l.pl,fa,X,ys,b.ps,b.F.take i,z,c,by rw[T];rfl,Q,G,g.land H7 of,ok.gd,keep _ _ g.places (λz=>cJ z.symm) sQ,ok.nm,len,(dI im (by decide)),of _ _ df (g.tup df),fg,?_,λv iU aS H8 e1 sub o8 ja8 me8 Zj7=>?_⟩
     ·obtain⟨f0,i0,s0⟩:=ok.lv;exact⟨f0,(G.iff f0).mpr ⟨by rw[len];exact i0,λc' m'=>s0 c' (Dn m')⟩,s0 c (Yh ec)⟩
     ·refine hN _ _ ⟨_,_,rfl,iU,aS,e1.trans T,λa u e n1 n2=>o8 _ _ (keep a u e n1 n2) (W e),o8 _ _ j (W h1),ja8,by rw[tk];exact me8,Zj7.trans len,λa z=>new a (sub a z)⟩ (o8 _ _ fz (W g.facts))
    ·rintro od aK H7 ⟨D,B,rfl,L⟩ fz;have dl:(bw (b.fs.map (·.1)) l.cz).length=b.F.length:=by
      unfold bw BS.F;rw[Ya,Je,Ya,Ya];omega
     rw[dl,Y9] at L;refine hn _ _ ⟨x,D,B,rfl,?_⟩;obtain⟨p,st,T,keep,j,Q,G,len,new⟩:=L;have W:l.fc∉p.fp:=λz=>by have:=new _ z;rw[g.facts] at this;cases this
     refine⟨p,st,T,λa u e n1 _=>?_,by rw[aA jI];exact j,Q.fQ fz (λE z=>nomatch z) (λE z=>nomatch z) W (aC.put (aC.of (aj.refl _))),G,len,new⟩;by_cases z:a=l.fc
     ·subst z;rw[aQ];rw[g.facts] at e;exact e
     ·rw[aA z];exact keep a u e n1 z
  ·rintro σ H6 ⟨J,D,B,rfl,L⟩;obtain⟨p,st,T,keep,j,Q,G,len,new⟩:=L;refine⟨_,rfl,l.h,C,A,_,_,rfl,j,t.cls,t.jn,rfl,?_⟩;have k6:∀{a:O} {u:HO},H a=U u->a≠l.h->H6 a=U u:=λ{a u} e n=>keep a u e n n;have of:Out l.fp H H6:=λa u e n=>k6 e (λz=>n (by rw[z];simp[BL.fp,BL.own]));have tp:∀{a:O} {E:Z V},H a=U (.tup E)->H6 a=U (.tup E):=λe=>of _ _ e (g.tup e);have gr:fH l.fp ({l with rk:=.ref p.J,fJ:=p.fp}:BL).fp H:=λa z=>by
    rcases Yv.mp (show a∈l.own++p.fp from z) with y|y;·exact .inl (Yt _ y)
    ·exact .inr (new a y)
   have gQ:∀a∈l.own,a∉p.fp:=λa m z=>g.there (Yt _ m) (new a z);subst T;refine q {l with rk:=.ref p.J,fJ:=p.fp} p st H6 ⟨rfl,of,gr⟩ ?_ rfl rfl Q G len gQ λz=>absurd j1 z;exact g.build (l':={l with rk:=.ref p.J,fJ:=p.fp}) (b':=b) rfl rfl rfl rfl rfl rfl rfl rfl rfl of gr ⟨A,j⟩ (k6 g.c_ (λz=>og z.symm)) (k6 g.places (λz=>cJ z.symm)) (k6 g.facts (λz=>jI z.symm)) (L2.Paired.bL g.fact λ_ _ e=>tp e) (k6 g.known (λz=>oh z.symm)) (k6 g.parents (λz=>qQ z.symm)) (k6 g.done (λz=>pB z.symm)) (L2.Paired.bL g.lD λ_ _ e=>e.out of λa E e=>g.tup e) (k6 g.ju (λz=>qR z.symm)) (L2.Paired.bL g.oN λ_ _ e=>e.out of λa E e=>g.tup e) (.at_ p st rfl rfl Q G len gQ)
def ia(z:ar)(c:Nat):cm:=!(Builtin.Str.occurrences z ⟨#[c]⟩ 0 z.length 1).isEmpty
abbrev pW:ar:="abcdefghijklmnopqrstuvwxyz"
abbrev nF:ar:="abcdefghijklmnopqrstuvwxyz0123456789"
def ql(z:ar):cm:=match z.cps.toList with
 |[]=>a7
 |c::r=>decide (z.length<=12)&&(ia pW c&&(c::r).all (ia nF))
def Zj8(v:ar):v.cps.toList.length=v.length:=by simp[Str.length]
def Zgr{z:ar}(h:z.cps.toList=[]):z="":=by
 cases z with|mk a=>cases a with|mk l=>cases h;rfl
def Ze1(h:z.cps.toList=[]):ql z=a7:=by unfold ql;rw[h]
def Pf(h:z.cps.toList=c::r):ql z=(decide (z.length<=12)&&(ia pW c&&(c::r).all (ia nF))):=by unfold ql;rw[h]
def Qk:Sp:=λb H Q _=>∃z:ar,b=[.str z]/\z.length<=1000/\∀a,aj H a->Q (.bl (ql z)) a
def Zcu:aT ["text"] ["text"] (aO HR):=.a9
theorem Zcv(F:aR K "is_name" "is_name" HR f fd)(x:mg "LONGEST_NAME"=U (.int 12 t1))(y:mg "LETTERS_OF_NAMES"=U (.str "abcdefghijklmnopqrstuvwxyz" E))(A:mg "SIGNS_OF_NAMES"=U (.str "abcdefghijklmnopqrstuvwxyz0123456789" t3))(l:Bl mg):
  aI P w K mg I aP 1 f fd ["text"] Qk:=by
 refine F.o Zcu λs H G h=>?_;obtain⟨z,rfl,d,q⟩:=h;refine⟨_,(aq (aW (PW.pt (pw_or (bJ cL (pv 0) bA) (pw_or (bJ Co (iY (ZaE) rfl l.Cu B_ (aa (pv 0) ag)) (dR (v:=.int (12)) rfl x ⟨_,rfl⟩)) (pw_or1 (ic ZaB (bh yX (pv 0) aM) (dR (v:=.str "abcdefghijklmnopqrstuvwxyz") rfl y ⟨_,rfl⟩) QU))))) (au (aL i8)) a_) (au (aL (iY (UD (K:=K) rfl rfl) rfl l.Tu R8 (aa (iZ (fr:=[]) (cl:=[]) rfl (.f_ trivial trivial) (ZhD (pv 0)) (λ_ _ _ _=>kA) (λ_ _ _ _=>(BG ZcS (pv 0) (dR (v:=.str "abcdefghijklmnopqrstuvwxyz0123456789") rfl A ⟨_,rfl⟩) QU))) ag))))),?_⟩;have sz:(10000:Nat)<=sizeLine:=by rw[c4];decide
 cases a:z.cps.toList with
 |nil=>
  have e:=Zgr a;rw[Ze1 a] at q;refine⟨_,rfl,rfl,_,rfl,bF (λ_=>?_) (λc=>absurd (dg (by rw[e])) c)⟩;exact q H (aj.refl H)
 |cons c r=>
  have n:=Zj8 z;rw[a,Wg] at n;rw[Pf a] at q;refine⟨_,rfl,rfl,_,rfl,bF (λb=>?_) (λ_=>?_)⟩
  ·have e:=V.str.inj (eK b);have t:(Str.ofString "").cps.toList=[]:=QK
   rw[e,t] at a;cases a
  refine⟨_,rfl,z,rfl,(dI d (by decide)),_,_,rfl,rfl,_,rfl,bF (λb=>?_) (λb=>?_)⟩
  ·have m:=eK b;rw[g_ (by omega:¬z.length<=12)] at q;exact q H (aj.refl H)
  have B:z.length<=12:=by
   grind
  rw[dg B,AE] at q;refine⟨_,rfl,_,_,_,rfl,rfl,(dI d (by decide)),iG (by rw[a];rfl),_,_,rfl,rfl,_,rfl,bF (λb=>?_) (λb=>aX ?_)⟩
  ·have m:ia pW c=a7:=by
    have z:(!ia pW c)=af:=b;cases e:ia pW c;·rfl
    ·rw[e] at z;cases z
   rw[m,VH] at q;exact q H (aj.refl H)
  have u:ia pW c=af:=by
   cases e:ia pW c;·exact absurd (show(!ia pW c)=af by rw[e];rfl) b
   ·rfl
  rw[u,AE,←a] at q;refine⟨_,rfl,z,rfl,λD o=>Zde (dI d (by decide)) o (λc=>V.bl (ia nF c)) (λi c J g j L k=>?_) λg j p=>?_⟩;·exact⟨_,rfl,_,_,rfl,rfl,k g (aj.refl _)⟩
  ·refine⟨D,z.cps.toList.map (ia nF),rfl,ak.of (by rw[p,Y7];rfl),?_⟩;exact Mi▸q g j
def dY.more(h:dY n m c)(l:m<=g):dY n g c:=⟨by have:=h.one;exact iy this l,λe=>by obtain⟨⟨a,b⟩,d⟩:=h.gc e;exact⟨⟨a,(iy b l)⟩,d⟩⟩
def eI.more(h:eI xs a m c)(l:m<=b):eI xs a b c:=⟨h.ok.more l,h.kind,h.Le⟩
def Zh8{f g:Nat->Int}(a:dY n m c)(e:∀i,i<m->g i=f i)(s:fW f c):fW g c:=⟨λh=>by rw[e _ a.one];exact s.1 h,λh=>by rw[e _ a.one,e _ (a.gc h).1.2];exact s.2 h⟩
section
variable {xs X:Z Int}{b:BS}
def bW.UZ(a:bW xs X b)(l:n∉b.ps.map (·.1))(o:b.ps.length<64)(r:b.co<=y)(x:t.length<=200)(j:un.length<=200):bW xs X {b with ps:=b.ps++[(n,s)],co:=y,dn:=t,un:=un}:=by
 have e:=λp d=>(a.fg p d).ok;have len:(b.ps++[(n,s)]).length=b.ps.length+1:=by rw[Yj];rfl
 refine⟨a.gd,?_,by show(b.ps++[(n,s)]).length<=64;exact d6 (kS len) (ot o),a.fl,λp d=>?_,a.zs,λp d=>Y2 (a.lt p d) r,?_,?_,?_,x,j⟩
 ·show((b.ps++[(n,s)]).map (·.1)).Nodup;rw[Yo];refine Wr.mpr ⟨a.nm,QS,λu B v A z=>?_⟩
  grind
 ·exact len▸(a.fg p d).more (J3 _)
 ·show(b.fs.map λp=>fP (b.ps++[(n,s)]) p.2).Nodup;rw[(Wo λp d=>by rw[Ri (e p d)])];exact a.ky
 ·show((cP (b.ps++[(n,s)]) b.fs).map (·.1)).Nodup;rw[Rj e];exact a.pr
 ·obtain⟨f,q,k⟩:=a.lv;refine⟨λi=>if i<b.ps.length then f i else 0,λi g=>?_,λc m=>?_⟩
  ·show 0<=(if i<b.ps.length then f i else 0)/\(if i<b.ps.length then f i else 0)<(xs.length:Int);by_cases h:i<b.ps.length;·rw[bS h];exact q i h
   ·rw[bR h];have:=a.gd.2.2.2.1
    grind
  ·obtain⟨p,d,rfl⟩:=Ye.mp m;exact Zh8 (e p d) (λi g=>bS g) (k _ m)
theorem bW.U0(d:bW xs X b)(J:eI xs X b.ps.length c)(n:z∉b.fs.map (·.1))(q:fP b.ps c∉b.keys)(o:cM c.k=af->[.inr c.k,.inr (av b.ps c.one)]∉(cP b.ps b.fs).map (·.1))(r:∃f,m8 xs.length b.ps.length f/\∀g∈b.F++[c],fW f g)(s:b.fs.length<63)(A:b.co<=co)(G:z<co)(F:E.length<=200)(j:un.length<=200):bW xs X {b with fs:=b.fs++[(z,c)],co:=co,dn:=E,un:=un}:=by
 have snoc:∀{h:Type} {l:Z h} {x:h},l.Nodup->x∉l->(l++[x]).Nodup:=λ{h l x} D B=>Wr.mpr ⟨D,QS,λu H v y e=>by
  have:v=x:=by simpa using y
  exact B (by rwa[←this,←e])⟩
 refine⟨d.gd,d.nm,d.m,by show(b.fs++[(z,c)]).length<=63;rwa[Yj],λp a=>?_,?_,λp a=>?_,?_,?_,?_,F,j⟩
 ·rcases Yv.mp a with a|a;·exact d.fg p a
  ·rwa[Yn.mp a]
 ·show((b.fs++[(z,c)]).map (·.1)).Nodup;exact Yo▸snoc d.zs n
 ·rcases Yv.mp a with a|a;·exact Y2 (d.lt p a) A
  ·rwa[Yn.mp a]
 ·show((b.fs++[(z,c)]).map λp=>fP b.ps p.2).Nodup;exact Yo▸snoc d.ky q
 ·show((cP b.ps (b.fs++[(z,c)])).map (·.1)).Nodup;cases e:cM c.k with
  |true=>rw[Qh e,Yo];exact snoc d.pr (o e)
  |false=>rw[Qi e];exact d.pr
 ·obtain⟨f,t,k⟩:=r;refine⟨f,t,λg m=>k g ?_⟩;have i:g∈(b.fs++[(z,c)]).map (·.2):=m;rw[Yo] at i;exact i
def bW.drop(a:bW xs X b)(z:Nat)(i:b.co<=l)(k:j.length<=200)(e:un.length<=200):bW xs X {b with fs:=dh z b.fs,co:=l,dn:=j,un:=un}:=by
 have sub:(dh z b.fs).Sublist b.fs:=Xv;refine⟨a.gd,a.nm,a.m,Yz sub.length_le a.fl,λp d=>a.fg p (sub.subset d),a.zs.sublist (sub.map _),λp d=>Y2 (a.lt p (sub.subset d)) i,a.ky.sublist (sub.map _),?_,?_,k,e⟩
 ·show((cP b.ps (dh z b.fs)).map (·.1)).Nodup;refine a.pr.sublist ?_;unfold cP
  grind
 ·obtain⟨f,h,g⟩:=a.lv;exact⟨f,h,λc m=>g c ((sub.map _).subset m)⟩
end
def BS.KD(b:BS)(n s:ar):BS:={b with ps:=b.ps++[(n,s)],co:=b.co,dn:=b.dn++[⟨1,[.inr n,.inr s],b.co,b.co⟩],un:=[]}
def BS.zm(b:BS)(c:Fc):BS:={b with fs:=b.fs++[(b.co,c)],co:=b.co+1,dn:=b.dn++[⟨1,d7 b.ps b.co c,b.co,b.co+1⟩],un:=[]}
def BS.without(b:BS)(z:Nat)(c:Fc):BS:={b with fs:=dh z b.fs,co:=b.co,dn:=b.dn++[⟨-1,d7 b.ps z c,b.co,b.co⟩],un:=[]}
def zc(s:ar):cm:=gI (.str s) [.str "man",.str "woman"]
structure C2(b:BS)(n s:ar):Prop where
 U4:ql n=af
 side:zc s=af
 new:n∉b.ps.map (·.1)
 lim:b.ps.length<64
 nl:n.length<=1000
structure C3(xs ys:Z Int)(b:BS)(c:Fc):Prop where
 fg:eI xs ys b.ps.length c
 nk:fP b.ps c∉b.keys
 np:cM c.k=af->[.inr c.k,.inr (av b.ps c.one)]∉(cP b.ps b.fs).map (·.1)
 lv:∃f,m8 xs.length b.ps.length f/\∀c'∈b.F++[c],fW f c'
 lim:b.fs.length<63
inductive Ql(C CL CJ:O)(e:Z V)(H:Hp)(Q:VK)(E:XK):Prop
 |mk (l:BL) (b:BS) (d c:Z Int) (n s:ar) (i:e=[.ref l.h,.str n,.str s]) (h:bc H C CL CJ l d c b) (g:C2 b n s) (q:∀a,aj H a->Q .ay a)
inductive Iz(C CL CJ:O)(g:Z V)(H:Hp)(Q:VK)(E:XK):Prop
 |mk (l:BL) (b:BS) (c a:Z Int) (n s:ar) (j:g=[.ref l.h,.str n,.str s]) (i:bc H C CL CJ l c a b) (ok:bW c a b) (h:C2 b n s) (dl:b.dn.length<200) (q:∀(e:BL) (d:Hp),bZ H d l e->bc d C CL CJ e c a (b.KD n s)->Q .ay d)
inductive Ke(C CL CJ:O)(i:Z V)(H:Hp)(Q:VK)(E:XK):Prop
 |mk (l:BL) (b:BS) (d a:Z Int) (h:O) (c:Fc) (n:i=[.ref l.h,.ref h]) (m:bc H C CL CJ l d a b) (ok:bW d a b) (k:dt H b.ps h (b.co,c)) (j:C3 d a b c) (dl:b.dn.length<200) (q:∀(g:BL) (e:Hp),bZ H e l g->bc e C CL CJ g d a (b.zm c)->Q (.int (b.co:Int)) e)
inductive SO(C CL CJ:O)(h:Z V)(H:Hp)(Q:VK)(E:XK):Prop
 |mk (l:BL) (b:BS) (d a:Z Int) (z:Nat) (c:Fc) (j:h=[.ref l.h,.int (z:Int)]) (i:bc H C CL CJ l d a b) (ok:bW d a b) (m:(z,c)∈b.fs) (dl:b.dn.length<200) (q:∀(g:BL) (e:Hp),bZ H e l g->bc e C CL CJ g d a (b.without z c)->Q .ay e)
inductive Ro(C CL CJ:O)(e:Z V)(H:Hp)(Q:VK)(E:XK):Prop
 |mk (x g L:O) (d c:Z Int) (j:e=[.ref x,.ref L]) (i:H x=U (.ins C g [])) (h:js H CL L d c) (q:∀(l:BL) (b:Hp),l.h=x->(∀a∈l.fp,a≠x->H a=aJ)->aC x H b->bc b C CL CJ l d c ⟨[],[],0,[],[]⟩->Q .ay b)
def js.free(g:js H CL L xs ys)(A:∀a∈fp,H a=aJ\/∃C b,H a=U (.ins C b []))(o:Out fp H c):js c CL L xs ys:=by
 obtain⟨b,d,m,f,w,j,h,i,st,y,x,v,t,s,r,q,p,l⟩:=g;have k:∀{a:O} {u:HO},H a=U u->(∀C b,u≠.ins C b [])->c a=U u:=λ{a u} e n=>o _ _ e λz=>by
  grind
 exact⟨b,d,m,f,w,j,h,i,st,k y (λ_ _ z=>by cases z),k x (λ_ _ z=>by cases z),k v (λ_ _ z=>by cases z),k t (λ_ _ z=>by cases z),k s (λ_ _ z=>by cases z),k r (λ_ _ z=>by cases z),k q (λ_ _ z=>by cases z),k p (λ_ _ z=>by cases z),k l (λ_ _ z=>by cases z)⟩
abbrev C4:Z ar:=["hearth","name","side"]
def ZP:aT C4 C4 (aO Fg):=.a9
def ZQ(F:aR K "check_person" "check_person" Fg f fd)(L:HasFn P w K mg I 1 "is_name" ["text"] Qk)(m:mg "MAN"=U (.str "man" t1))(o:mg "WOMAN"=U (.str "woman" R))(Q:bY P w K mg I 1 "people" C eZ (Qf C CL CJ)):aI P w K mg I aP 2 f fd C4 (Ql C CL CJ):=by
 refine F.o ZP λs H e h=>?_;obtain⟨l,b,k,j,n,s,rfl,J,a,q⟩:=h;refine⟨_,(aq (aW (PW.pt (pw_or (i4 (eX (aV L e (aa (pv 1) ag)))) (pw_or1 (ic (Cc (K:=K) rfl) (pv 2) (dX (aa (dR (v:=.str "man") rfl m ⟨_,rfl⟩) (aa (dR (v:=.str "woman") rfl o ⟨_,rfl⟩) ag))) QU)))) gY a_) (au (aW (ic (mZ rfl) (pv 1) (oK Q e (by decide) (pv 0)) QU) gY a_))),?_⟩;have sz:(10000:Nat)<=sizeLine:=by rw[c4];decide
 refine⟨_,rfl,n,rfl,a.nl,λX B=>⟨_,rfl,?_⟩⟩;rw[a.U4];refine bT ?_;refine⟨_,rfl,by show 2<=sizeLine;decide,λp W T A c=>⟨p,_,rfl,.inr (aB.of c),rfl,rfl,_,rfl,?_⟩⟩;have r:gI (.str s) [.str "man",.str "woman"]=af:=a.side;dsimp only;rw[bS rfl,r];refine bT (aX ?_);have g:=B.trans A;have d:=J.same g;obtain⟨E,x⟩:=d.obj;refine⟨_,rfl,_,rfl,l.h,E,_,rfl,x,rfl,l,b,k,j,rfl,d,λt N u y G=>?_⟩;have D:(b.ps.map λp=>V.str p.1).all jS=af:=by
  rw[Mi,Wv];intro p _;rfl
 refine⟨t,_,rfl,.inl (ak.of G),rfl,D,_,rfl,?_⟩;try dsimp only
 have no:gI (.str n) (b.ps.map λp=>V.str p.1)=a7:=by
  unfold gI;rw[List.any_map,Jv];intro p c z;have i:(p.1==n)=af:=z;exact a.new (by rw[←eq_of_beq i];exact Ye.mpr ⟨p,c,rfl⟩)
 rw[bR Yi,no];exact bT (aX (q N (g.trans y)))
abbrev zF:Z ar:=["self","name","side"]
def ZG:aT zF zF (aO E5):=.a9
def Zdz(F:aR K "person" "Hearth.person" E5 f fd)(i:fL K C)(x:mg "PUT_IN"=U (.int 1 t1))(D:HasFn P w K mg I 2 "check_person" C4 (Ql C CL CJ))(y:bY P w K mg I 10 "do_deed" C nQ (yP C CL CJ)):aI P w K mg I aP 11 f fd zF (Iz C CL CJ):=by
 refine F.o ZG λs H g h=>?_;obtain⟨l,b,e,d,n,s,rfl,t,ok,a,dl,q⟩:=h;refine⟨_,(aq (cG (aV D g (aa (pv 0) (aa (pv 1) (aa (pv 2) ag))))) (au (cG (cV y g (by decide) (pv 0) (aa (dR (v:=.int (1)) rfl x ⟨_,rfl⟩) (aa (dX (aa (pv 1) (aa (pv 2) ag))) (aa (pF K 0) ag))))))),?_⟩;refine⟨_,rfl,_,rfl,_,rfl,l,b,e,d,n,s,rfl,t,a,λJ m=>?_⟩;have p:=t.same m;obtain⟨o,k⟩:=p.obj;refine⟨_,rfl,l.h,o,_,rfl,k,rfl,_,rfl,_,rfl,by show 2<=sizeLine;decide,λr G E c j=>?_⟩;refine⟨_,rfl,l.h,C,o,_,_,rfl,c _ _ k,i.cls,i.pU,rfl,l,b,_,e,d,r,1,b.co,[.inr n,.inr s],rfl,p.same c,ok,dl,j,.pin n s j a.new a.lim,λz B u A=>?_⟩;exact q z B (bZ.after (m.trans c) u) A
def yn:aT UX uB (aO FJ):=.a9
def Zgs(F:aR K "keep" "Hearth.keep" FJ f fd)(j:fL K C)(L:mg "PUT_IN"=U (.int 1 t1))(GH:HasFn P w K mg I 5 "fact_fits" uz (SJ CL CJ))(N:bY P w K mg I 8 "joins" C eZ (B4 C CL CJ))(W:bY P w K mg I 10 "do_deed" C nQ (yP C CL CJ)):aI P w K mg I aP 11 f fd uB (Ke C CL CJ):=by
 refine F.o yn λs H u h=>?_;obtain⟨l,b,o,n,y,c,rfl,A,ok,x,d,dl,q⟩:=h;refine⟨_,(aq (oH (pv 1) (jr (K:=K) rfl rfl (bX (bI 2 yn.nd) (bX (bI 3 yn.nd) (bX (bI 4 yn.nd) (bX (bI 5 yn.nd) jo)))))) (aq (aW (i4 (eX (aV GH u (aa (oK N u (by decide) (pv 0)) (aa (pF K 0) (aa (pF K 0) (aa (pv 1) ag))))))) gY a_) (aq (cG (cV W u (by decide) (pv 0) (aa (dR (v:=.int (1)) rfl L ⟨_,rfl⟩) (aa (pv 1) (aa (bj iI (pv 2) aM) ag))))) (au (aL (pv 2)))))),?_⟩;obtain⟨dx,h1⟩:=A.obj;refine⟨_,rfl,y,_,rfl,aB.of x,rfl,_,_,rfl,bu ⟨_,_,rfl,bu ⟨_,_,rfl,bu ⟨_,_,rfl,bu ⟨rfl,?_⟩⟩⟩⟩⟩;refine⟨_,rfl,l.h,dx,_,rfl,h1,rfl,l,b,o,n,rfl,A,ok,λa jl st H1 g m r1 r2 ja D len gQ _=>?_⟩;obtain⟨i,e1⟩:=m.obj;have t:H1 l.h=U (.ins C i (HF a.L a.sd a.pl a.fc a.kn a.pr (b.co:Int) a.dn a.un a.rk)):=by rwa[←g.h]
 have J:=g.out _ _ x (A.tup x);have im:=ok.m;refine⟨_,rfl,l.h,C,i,_,_,rfl,t,j.cls,j.wO,rfl,_,rfl,l.h,C,i,_,_,rfl,t,j.cls,j.tO,rfl,_,rfl,jl,st,a.L,a.pl,y,o,n,b.ps,b.F,b.co,c,rfl,ja,D,m.landAt,ok.gd,m.places,ok.nm,len,(dI im (by decide)),J,d.fg,λ_ H2 k=>?_,λno=>?_⟩
 ·refine⟨_,rfl,bT (aX ?_)⟩;have Q:=m.same k;have G:=k _ _ J;have R:b.co∉b.fs.map (·.1):=λz=>by
   obtain⟨p,hp,e⟩:=Ye.mp z;have:=ok.lt p hp;omega
  refine⟨_,rfl,l.h,i,_,rfl,k _ _ t,rfl,_,rfl,_,rfl,_,_,rfl,rfl,a,b,_,o,n,y,1,b.co+1,d7 b.ps b.co c,?_,Q,ok,dl,G,.fin b.co c G d.fg R d.nk d.np d.lv d.lim,λX H3 r iV=>?_⟩;·rw[g.h];rfl
  ·exact⟨_,rfl,q X H3 ((g.same k).trans r) iV⟩
 ·obtain⟨E,i0,B⟩:=d.lv;exact absurd (B c (Yu _ Yk)) (no E ((D.iff E).mpr ⟨by rwa[len],λc' T=>B c' (Yt _ T)⟩))
def ND:aT uv uv (aO AY):=.a9
def Zgt(F:aR K "take" "Hearth.take" AY f fd)(a:fL K C)(t:mg "TAKEN_OUT"=U (.int (-1) t1))(u:bY P w K mg I 10 "do_deed" C nQ (yP C CL CJ)):aI P w K mg I aP 11 f fd uv (SO C CL CJ):=by
 refine F.o ND λs H i h=>?_;obtain⟨l,b,p,o,z,c,rfl,d,ok,m,dl,q⟩:=h;refine⟨_,(aq (aW (kC (nv (bG i) (pv 1) (pF K 0)) QU) gY a_) (au (cG (cV u i (by decide) (pv 0) (aa (dR (v:=.int (-1)) rfl t ⟨_,rfl⟩) (aa (dD (bG i) (pF K 0) (pv 1) (λ_ _=>rfl)) (aa (pF K 0) ag))))))),?_⟩;obtain⟨g,e⟩:=d.obj;obtain⟨j,k,n⟩:=B0 d.fact ok.zs m;refine⟨_,rfl,_,rfl,l.h,C,g,_,_,rfl,e,a.cls,a.nA,rfl,l.fc,U (.ref j),rfl,nE d.facts k,_,rfl,bT (aX ?_)⟩;refine⟨_,rfl,l.h,g,_,rfl,e,rfl,_,rfl,l.h,C,g,_,_,rfl,e,a.cls,a.nA,rfl,_,rfl,l.fc,.ref j,rfl,nE d.facts k,_,rfl,l.h,C,g,_,_,rfl,e,a.cls,a.pU,rfl,l,b,_,p,o,j,-1,b.co,d7 b.ps z c,rfl,d,ok,dl,n,.uA z c n m,λx A r y=>?_⟩;exact q x A r y
abbrev C5:Z ar:=["self","land"]
def Z9:aT C5 C5 (aO FI):=.a9
theorem Ze2(F:aR K "__init__" "Hearth.__init__" FI f fd)(b:fL K C):aI P w K mg I aP 1 f fd C5 (Ro C CL CJ):=by
 refine F.o Z9 λs H hr h=>?_;obtain⟨x,g,L,xs,ys,rfl,hx,la,q⟩:=h;refine⟨_,(aq (iH (K:=K) rfl (pv 0) (pv 1)) (aq (iH (K:=K) rfl (pv 0) tL) (aq (iH (K:=K) rfl (pv 0) tL) (aq (iH (K:=K) rfl (pv 0) tL) (aq (iH (K:=K) rfl (pv 0) OT) (aq (iH (K:=K) rfl (pv 0) OT) (aq (iH (K:=K) rfl (pv 0) aM) (aq (iH (K:=K) rfl (pv 0) (dP ag)) (aq (iH (K:=K) rfl (pv 0) (dP ag)) (au (iH (K:=K) rfl (pv 0) mF))))))))))),?_⟩;refine⟨_,rfl,_,rfl,x,C,g,[],rfl,hx,b.cls,b.wO,by show 0<1000;decide,λH1 b1 h1=>?_⟩;refine λsd N n2 g2 E=>⟨_,rfl,x,C,g,_,rfl,g2 _ _ h1,b.cls,b.tS,by show 1<1000;decide,λH3 b3 h3=>?_⟩;refine λpl H4 n4 g4 T=>⟨_,rfl,x,C,g,_,rfl,g4 _ _ h3,b.cls,b.tO,by show 2<1000;decide,λH5 b5 h5=>?_⟩;refine λfc H6 n6 g6 e6=>⟨_,rfl,x,C,g,_,rfl,g6 _ _ h5,b.cls,b.nA,by show 3<1000;decide,λH7 X h7=>?_⟩;refine λkn H8 Q R e8=>⟨_,rfl,x,C,g,_,rfl,R _ _ h7,b.cls,b.BY,by show 4<1000;decide,λH9 J h9=>?_⟩;refine λpr qE B A qI=>⟨_,rfl,x,C,g,_,rfl,A _ _ h9,b.cls,b.wb,by show 5<1000;decide,λz4 y h11=>?_⟩;refine⟨_,rfl,x,C,g,_,rfl,h11,b.cls,b.pU,by show 6<1000;decide,λxZ v DH=>?_⟩;refine⟨by show 0<=sizeLine;exact Yx _,λdn DI p r Xy=>⟨_,rfl,x,C,g,_,rfl,r _ _ DH,b.cls,b.Kc,by show 7<1000;decide,λsJ m Xz=>?_⟩⟩;refine⟨by show 0<=sizeLine;exact Yx _,λun L6 j XA e15=>⟨_,rfl,x,C,g,_,rfl,XA _ _ Xz,b.cls,b.Qd,by show 8<1000;decide,λV9 b16 h16=>?_⟩⟩;refine⟨_,rfl,x,C,g,_,rfl,h16,b.cls,b.jn,by show 9<1000;decide,λqS b17 XD=>?_⟩;rw[Zj1] at XD;have XE:aC x L6 qS:=b16.trans b17;have XF:aC x DI qS:=m.trans ((aC.of XA).trans XE);have XG:aC x qE qS:=y.trans (v.trans ((aC.of r).trans XF));have j8:aC x H8 qS:=J.trans ((aC.of A).trans XG);have j6:aC x H6 qS:=X.trans ((aC.of R).trans j8);have j4:aC x H4 qS:=b5.trans ((aC.of g6).trans j6);have j2:aC x N qS:=b3.trans ((aC.of g4).trans j4);have j0:aC x H qS:=b1.trans ((aC.of g2).trans j2);have i3:aC x H H3:=b1.trans ((aC.of g2).trans b3);have i5:aC x H H5:=i3.trans ((aC.of g4).trans b5);have i7:aC x H H7:=i5.trans ((aC.of g6).trans X);have i9:aC x H H9:=i7.trans ((aC.of R).trans J);have i12:aC x H xZ:=i9.trans ((aC.of A).trans (y.trans v));have i14:aC x H sJ:=i12.trans ((aC.of r).trans m);have D:∀{a:O} {H':Hp},aC x H H'->a≠x->H' a=aJ->H a=aJ:=λ{a H'} k d n=>by
  cases e:H a with
  |none=>rfl
  |some o=>rw[k a o e d] at n;cases n
 have t:sd≠x:=λz=>by rw[z,h1] at n2;cases n2
 have G:pl≠x:=λz=>by rw[z,h3] at n4;cases n4
 have W:fc≠x:=λz=>by rw[z,h5] at n6;cases n6
 have d8:kn≠x:=λz=>by rw[z,h7] at Q;cases Q
 have D9:pr≠x:=λz=>by rw[z,h9] at B;cases B
 have MW:dn≠x:=λz=>by rw[z,DH] at p;cases p
 have XH:un≠x:=λz=>by rw[z,Xz] at j;cases j
 have ne:∀{a c:O} {Ha Hc:Hp} {o:HO},Ha a=U o->aC x Ha Hc->a≠x->Hc c=aJ->a≠c:=λ{a c Ha Hc o} e k d n z=>by rw[←z,k a o e d] at n;cases n
 have k24:aC x N H3:=b3;have XI:aC x N H5:=b3.trans ((aC.of g4).trans b5);have XJ:aC x N H7:=XI.trans ((aC.of g6).trans X);have U6:aC x N H9:=XJ.trans ((aC.of R).trans J);have U7:aC x N xZ:=U6.trans ((aC.of A).trans (y.trans v));have Zj9:aC x N sJ:=U7.trans ((aC.of r).trans m);have XM:aC x H4 H7:=b5.trans ((aC.of g6).trans X);have U8:aC x H4 H9:=XM.trans ((aC.of R).trans J);have U9:aC x H4 xZ:=U8.trans ((aC.of A).trans (y.trans v));have Zj_:aC x H4 sJ:=U9.trans ((aC.of r).trans m);have U_:aC x H6 H9:=X.trans ((aC.of R).trans J);have Va:aC x H6 xZ:=U_.trans ((aC.of A).trans (y.trans v));have Zka:aC x H6 sJ:=Va.trans ((aC.of r).trans m);have Vb:aC x H8 xZ:=J.trans ((aC.of A).trans (y.trans v));have Zkb:aC x H8 sJ:=Vb.trans ((aC.of r).trans m);have TZ:aC x qE xZ:=y.trans v;have Zi4:aC x qE sJ:=TZ.trans ((aC.of r).trans m);let l:BL:=⟨x,L,sd,pl,fc,kn,pr,dn,un,.ay,[],[],[],[]⟩;have D_:∀a∈l.fp,a≠x->H a=aJ:=λa ha i=>by
  have sO:a∈[x,sd,pl,fc,kn,pr,dn,un]:=by
   have:l.fp=[x,sd,pl,fc,kn,pr,dn,un]:=rfl;rw[this] at ha;exact ha
  simp only[Ys,Y3,hP] at sO;rcases sO with rfl|rfl|rfl|rfl|rfl|rfl|rfl|rfl;·exact absurd rfl i
  ·exact D b1 i n2
  ·exact D i3 i n4
  ·exact D i5 i n6
  ·exact D i7 i Q
  ·exact D i9 i B
  ·exact D i12 i p
  ·exact D i14 i j
 refine q l qS rfl D_ j0 ⟨⟨g,XD⟩,λH' o=>?_,j2 _ _ E t,j4 _ _ T G,j6 _ _ e6 W,.nil,j8 _ _ e8 d8,XG _ _ qI D9,XF _ _ Xy MW,.nil,XE _ _ e15 XH,.nil,.no rfl rfl,?_⟩
 ·refine la.free (fp:=l.fp) (λa ha=>?_) λa u e i=>o _ _ (j0 _ _ e λz=>i (by rw[z];exact Yk)) i;by_cases z:a=x;·rw[z];exact .inr ⟨C,g,hx⟩
  ·exact .inl (D_ a ha z)
 ·show[x,sd,pl,fc,kn,pr,dn,un].Nodup;simp only[Y0,Ys,Y3,hP,iC,Mn,Jb,and_true];exact⟨⟨t.symm,G.symm,W.symm,d8.symm,D9.symm,MW.symm,XH.symm⟩,⟨ne E k24 t n4,ne E XI t n6,ne E XJ t Q,ne E U6 t B,ne E U7 t p,ne E Zj9 t j⟩,⟨ne T b5 G n6,ne T XM G Q,ne T U8 G B,ne T U9 G p,ne T Zj_ G j⟩,⟨ne e6 X W Q,ne e6 U_ W B,ne e6 Va W p,ne e6 Zka W j⟩,⟨ne e8 J d8 B,ne e8 Vb d8 p,ne e8 Zkb d8 j⟩,⟨ne qI TZ D9 p,ne qI Zi4 D9 j⟩,ne Xy m MW j⟩
def strOf:V->ar
 |.str s=>s
 |_=>""
def iq(b:BS)(a:ar):Z ar:=(qb b a).map strOf
inductive gf(b:BS)(a:ar):ar->Prop
 |refl:gf b a a
 |step {x y:ar}:gf b a x->y∈iq b x->gf b a y
theorem Rp(i:bW xs u b)(h:aZ (cP b.ps b.fs) [.inr k,.inr a]=U v):∃p∈b.fs,cM p.2.k=af/\p.2.k=k/\av b.ps p.2.one=a/\v=.str (av b.ps p.2.aN.toNat)/\p.2.aN.toNat<b.ps.length:=by
 have m:([.inr k,.inr a],v)∈cP b.ps b.fs:=by
  unfold aZ at h;cases x:(cP b.ps b.fs).find? λj=>decide (j.1=[.inr k,.inr a]) with
  |none=>grind
  |some q=>grind
 obtain⟨p,l,e⟩:=Ye.mp m;obtain⟨d,c⟩:=Y5.mp l;injection e with t s;injection t with r o;injection o with n _;have g:p.2.k≠bB:=λz=>by
  rw[z] at c;exact absurd c QK
 refine⟨p,d,c,Wi r,Wi n,?_,((i.fg p d).ok.gc g).1.2⟩;rw[←s,iF g];rfl
def Ox(d:bW xs i b)(a:ar):qb b a=(iq b a).map V.str/\(∀s∈iq b a,s∈b.ps.map (·.1))/\(iq b a).length<=2:=by
 have all:∀v∈qb b a,∃s,v=.str s/\s∈b.ps.map (·.1):=λv c=>by
  obtain⟨k,_,e⟩:=Jq.mp c;obtain⟨p,_,_,_,_,h,l⟩:=Rp d e;exact⟨_,h,IU l⟩
 refine⟨?_,λs g=>?_,?_⟩
 ·unfold iq;rw[Y7];refine(List.map_id _).symm.trans (Wo λv c=>?_);obtain⟨s,rfl,_⟩:=all v c;rfl
 ·obtain⟨v,c,rfl⟩:=Ye.mp g;obtain⟨s,rfl,m⟩:=all v c;exact m
 ·unfold iq qb
  grind
def jk(a:Z ar)(b:Z O):Z (Key×V):=(a.zip b).map λp=>(.inr p.1,.ref p.2)
theorem Qm:∀{b:Z ar} {as:Z O},b.length=as.length->(jk b as).map (·.1)=b.map Sum.inr
 |[],[],_=>rfl
 |k::b,a::as,h=>by
  have c:jk (k::b) (a::as)=(Sum.inr k,V.ref a)::jk b as:=rfl;rw[c,Wq,Qm (by simpa using h)];rfl
 |[],_::_,h=>rfl
 |_::_,[],h=>by simp at h
theorem Qn:∀{b:Z ar} {as:Z O} (k:ar) (a:O),b.length=as.length->jk b as++[(.inr k,.ref a)]=jk (b++[k]) (as++[a])
 |[],[],_,_,_=>rfl
 |q::b,c::as,k,a,h=>by
  have d:jk (q::b) (c::as)=(Sum.inr q,V.ref c)::jk b as:=rfl;rw[d,V4,Qn k a (by simpa using h)];rfl
 |[],_::_,_,_,h=>by simp at h
 |_::_,[],_,_,h=>by simp at h
theorem IW:∀{b:Z ar} {as:Z O} {k:ar},b.length=as.length->k∈b->∃a∈as,aZ (jk b as) (.inr k)=U (.ref a)
 |[],_,_,_,h=>by cases h
 |q::b,c::as,k,d,h=>by
  have g:jk (q::b) (c::as)=(Sum.inr q,V.ref c)::jk b as:=rfl;rw[g];by_cases e:q=k;·exact⟨c,Yk,gZ (by rw[e])⟩
  ·rcases Ys.mp h with h|h;·grind
   ·obtain⟨a,m,v⟩:=IW (by simpa using d) h;exact⟨a,Yw _ m,by rwa[gk (λz=>e (Wi z))]⟩
 |_::_,[],_,h,_=>by simp at h
def IA(b:a.length=as.length)(h:k∉a):aZ (jk a as) (.inr k)=aJ:=qX (by
 rw[Qm b];intro z;obtain⟨q,c,e⟩:=Ye.mp z;exact h (by rwa[←Wi e]))
structure r8(H H6:Hp)(ln:O)(ks:Z ar)(as:Z O):Prop where
 same:aj H H6
 at_:H6 ln=U (.dK (jk ks as))
 len:ks.length=as.length
 lst:∀a∈as,∃us:Z V,H6 a=U (.lst us)/\us.length<=ks.length/\a≠ln
 nd:ks.Nodup
def Ia(g:bW xs e b){c:Z ar}(d:c.Nodup)(a:∀k∈c,k∈b.ps.map (·.1)):c.length<=b.ps.length:=by
 have:=d.length_le_of_subset a
 simp_all
theorem By(c:bW xs e b)(d:a∈b.ps.map (·.1))(h:gf b a z):z∈b.ps.map (·.1):=by
 cases h with
 |refl=>exact d
 |step _ m=>exact(Ox c _).2.1 _ m
inductive Rq(C CL CJ:O)(h:Z V)(H:Hp)(Q:VK)(E:XK):Prop
 |mk (l:BL) (b:BS) (d c:Z Int) (a:ar) (m:h=[.ref l.h,.str a]) (k:bc H C CL CJ l d c b) (ok:bW d c b) (j:a∈b.ps.map (·.1)) (q:∀(p:O) (e:Z ar) (i:Z O) (g:Hp),r8 H g p e i->(∀z,z∈e↔gf b a z)->Q (.ref p) g)
def zG(b:O)(N:Nat):St->Hp->Nat:=λa H=>(match H b with|some (.dK kvs)=>2*(N-kvs.length)|_=>0)+(match List.getD (α:=bq V) a 3 aJ with|some (V.ref nw)=>(match H nw with|some (.lst (_::_))=>1|_=>0)|_=>0)
inductive XN(H:Hp)(b:BS)(a:ar)(h g:O)(l:St)(j:Hp):Prop
 |mk (c d:Z ar) (q:Z O) (i:O) (o n m:bq V) (v:r8 H j g c q) (x:j i=U (.lst (d.map V.str))) (t:i≠g) (sub:∀k∈d,k∈c) (y:∀k∈c,k∉d->∀p∈iq b k,p∈c) (s:∀k∈c,gf b a k) (u:a∈c) (r:d.length<=64) (e:l=[U (.ref h),U (.str a),U (.ref g),U (.ref i),o,n,m]):XN H b a h g l j
inductive MX(H:Hp)(b:BS)(a:ar)(h g d c:O)(o m:Z ar)(j:Nat)(n:St)(l:Hp):Prop
 |mk (i fs:Z ar) (q:Z O) (s r:bq V) (v:r8 H l g i q) (x:l d=U (.lst (m.map V.str))) (y:l c=U (.lst (fs.map V.str))) (u:d≠g/\c≠g/\c≠d) (B:c∉q) (z:i=o++fs) (A:∀k∈m.take j,∀p∈iq b k,p∈i) (t:∀k∈i,gf b a k) (e:n=[U (.ref h),U (.str a),U (.ref g),U (.ref d),U (.ref c),s,r]):MX H b a h g d c o m j n l
inductive XO(H:Hp)(b:BS)(a:ar)(h g l d:O)(s q:Z ar)(j:Nat)(c:ar)(o:O)(i:Nat)(r:St)(n:Hp):Prop
 |mk (m fs:Z ar) (t:Z O) (u:bq V) (y:r8 H n g m t) (A:n l=U (.lst (q.map V.str))) (B:n d=U (.lst (fs.map V.str))) (z:n o=U (.lst ((iq b c).map V.str))) (x:l≠g/\d≠g/\d≠l/\o≠g/\o≠d) (G:d∉t) (D:m=s++fs) (F:∀k∈q.take j,∀p∈iq b k,p∈m) (E:∀p∈(iq b c).take i,p∈m) (v:∀k∈m,gf b a k) (e:r=[U (.ref h),U (.str a),U (.ref g),U (.ref l),U (.ref d),U (.str c),u]):XO H b a h g l d s q j c o i r n
abbrev uD:Z ar:=["hearth","name"]
def tJ:aT ["hearth","name","lines","newest","further","one","parent"] uD (aO GU):=.a9
theorem Zbw(F:aR K "lines_up" "lines_up" GU f fd)(EH:bY P w K mg I 1 "parents_of" C lE (NW C CL CJ)):aI P w K mg I aP 2 f fd uD (Rq C CL CJ):=by
 refine F.o tJ λs H hr h=>?_;obtain⟨l,b,xs,ys,a,rfl,ba,ok,ma,q⟩:=h;refine⟨_,(aq (cy 2 tJ.nd (BP (kU (pv 1) (dP (aa (pv 1) ag)) BO) rfl rfl (λz=>nomatch z) (Ju rfl))) (aq (cy 3 tJ.nd (dP (aa (pv 1) ag))) (aq (Ig hI (HM (K:=K) rfl (Ii (pv 3) (λ_=>rfl))) (aq (cy 4 tJ.nd (dP ag)) (aq (gm hI rfl (eS (K:=K) rfl (pv 3)) (bI 5 tJ.nd) (au (gm hI rfl (eS (K:=K) rfl (cV EH hr (by decide) (pv 0) (aa (pv 5) ag))) (bI 6 tJ.nd) (au (aW (kC (nv (bG hr) (pv 6) (pv 2)) QU) (aq (pS (bG hr) (pv 2) (pv 6) (bj BQ (dD (bG hr) (pv 2) (pv 5) (λ_ _=>rfl)) (dP (aa (pv 6) ag)))) (au (cG (qa (K:=K) rfl (mJ kj l4 lU q0 (pv 4) (aa (pv 6) ag)))))) a_))))) (au (cy 3 tJ.nd (pv 4)))))) (au (aL (pv 2)))))),?_⟩;have sz:(10000:Nat)<=sizeLine:=by rw[c4];decide
 have im:=ok.m;refine cC ?_;refine λln XQ=>⟨_,rfl,_,rfl,by show 1<=sizeLine;decide,λll H0 XR g0 hll=>?_⟩;refine⟨g0 _ _ aQ,[(.inr a,.ref ll)],rfl,(by show 1<=15;decide),?_⟩;obtain⟨H1,sW⟩:∃H1,H1=upd H0 ln (.dK (p_ [] [(.inr a,.ref ll)])):=⟨_,rfl⟩;rw[←sW];have XS:ll≠ln:=λz=>by rw[z,aQ] at XR;cases XR
 have g1:aj H H1:=λc o e=>by
  have nc:=cA e XQ;rw[sW,aA nc];exact g0 _ _ (by rw[aA nc];exact e)
 have XT:r8 H H1 ln [a] [ll]:=⟨g1,by rw[sW,aQ];rfl,rfl,λc J=>by
  rw[Yn.mp J];exact⟨[.str a],by rw[sW,aA XS];exact hll,Yd _,XS⟩,QS⟩
 refine cC ?_;refine⟨_,rfl,by show 1<=sizeLine;decide,λnw H2 XU g2 hnw=>?_⟩;have XW:nw≠ln:=λz=>by rw[z,XT.at_] at XU;cases XU
 have KG:∀{Ha Hb:Hp} {y:Z ar} {as:Z O},r8 H Ha ln y as->aj Ha Hb->r8 H Hb ln y as:=λB g=>⟨B.same.trans g,g _ _ B.at_,B.len,λc J=>by obtain⟨Q,e,z,n⟩:=B.lst c J;exact⟨Q,g _ _ e,z,n⟩,B.nd⟩;refine ie (λG H6=>∃y as,r8 H H6 ln y as/\(∀z,z∈y↔gf b a z)/\∃o3 o4 o5 o6:bq V,G=[U (.ref l.h),U (.str a),U (.ref ln),o3,o4,o5,o6]) (λlP eO=>?_) ?_
 ·refine Ih (XN H b a l.h ln) (zG ln 100) ⟨[a],[a],[ll],nw,aJ,aJ,aJ,KG XT g2,hnw,XW,λ_ h=>h,λk d no=>absurd d no,λk d=>by rw[Yn.mp d];exact .refl,Yk,by show 1<=64;decide,rfl⟩ ?_ ?_
  ·rintro G H6 ⟨y,D,as,nw,o4,o5,o6,B,hn,nn,sub,cl,sd,XX,uU,rfl⟩;have kf:y.length<=64:=Yz (Ia ok B.nd λk d=>By ok ma (sd k d)) im;refine⟨_,rfl,_,.inl ⟨_,ak.of hn,rfl⟩,?_⟩;refine bF (λc=>?_) (λc=>?_)
   ·have Zkc:D≠[]:=λz=>by rw[z] at c;cases c
    have mu0:zG ln 100 [U (.ref l.h),U (.str a),U (.ref ln),U (.ref nw),o4,o5,o6] H6=2*(100-y.length)+1:=by
     unfold zG;have kl:(jk y as).length=y.length:=by unfold jk;rw[Ya,Je];have:=B.len;omega
     have g3:List.getD (α:=bq V) [U (.ref l.h),U (.str a),U (.ref ln),U (.ref nw),o4,o5,o6] 3 aJ=U (.ref nw):=rfl;rw[B.at_,g3];dsimp only;rw[hn,kl];cases D with
     |nil=>exact absurd rfl Zkc
     |cons x r=>rfl
    refine cC ?_;refine⟨by show 0<=sizeLine;exact Yx _,λfu H7 W g7 hfu=>?_⟩;have Ao:=KG B g7;have fln:fu≠ln:=λz=>by rw[z,B.at_] at W;cases W
    have fnw:fu≠nw:=λz=>by rw[z,hn] at W;cases W
    refine ie (MX H b a l.h ln nw fu y D D.length) (λMV sS=>?_) ?_
    ·refine⟨_,rfl,nw,rfl,⟨_,ak.of (g7 _ _ hn)⟩,kz (K:=K) (a:=nw) (xs:=D.map V.str) (MX H b a l.h ln nw fu y D) ⟨y,[],as,o5,o6,Ao,g7 _ _ hn,hfu,⟨nn,fln,fnw⟩,(λz=>by obtain⟨Q,e,_⟩:=B.lst _ z;rw[W] at e;cases e),by rw[Wf],λk d=>(by rw[vj] at d;cases d),sd,rfl⟩ (λj G H8 _ zz=>by obtain⟨_,_,_,_,_,_,h,_,_,_,_,_,_,_⟩:=zz;exact ak.of h) ?_ ?_⟩
     ·rintro j v G H8 hj ⟨fR,fs,Ea,p5,p6,L,XY,kN,AF,XZ,N,jJ,Eb,rfl⟩;rw[Yf] at hj;obtain⟨one,e1,rfl⟩:∃one,D[j]?=U one/\V.str one=v:=by
       cases z:D[j]? with
       |none=>rw[z] at hj;cases hj
       |some o=>rw[z] at hj;exact⟨o,rfl,Ym hj⟩
      have MY:D.take (j+1)=D.take j++[one]:=by rw[Y1,e1];rfl
      have Zlu:one∈fR:=by rw[N];exact Yt _ (sub _ (Yh e1))
      have X0:=ba.same L.same;obtain⟨dx8,h8⟩:=X0.obj;obtain⟨pe,pin,My⟩:=Ox ok one;refine bu ?_;refine⟨_,rfl,l.h,dx8,_,rfl,h8,rfl,_,rfl,l,b,xs,ys,one,rfl,X0,λpl H9 AG g9 cJ=>?_⟩;rw[pe] at cJ;have pln:pl≠ln:=λz=>by rw[z,L.at_] at AG;cases AG
      have plf:pl≠fu:=λz=>by rw[z,kN] at AG;cases AG
      refine⟨pl,rfl,⟨_,ak.of cJ⟩,kz (K:=K) (a:=pl) (xs:=(iq b one).map V.str) (XO H b a l.h ln nw fu y D j one pl) ⟨fR,fs,Ea,p6,KG L g9,g9 _ _ XY,g9 _ _ kN,cJ,⟨AF.1,AF.2.1,AF.2.2,pln,plf⟩,XZ,N,jJ,λp t=>(by rw[vj] at t;cases t),Eb,rfl⟩ (λi G HA _ zz=>by obtain⟨_,_,_,_,_,_,_,h,_,_,_,_,_,_,_⟩:=zz;exact ak.of h) ?_ ?_⟩
      ·rintro i v G HA hi ⟨kO,AH,Ec,q6,A,Ed,X,MZ,E,AI,T,Ee,AJ,R,rfl⟩;rw[Yf] at hi;obtain⟨par,e2,rfl⟩:∃par,(iq b one)[i]?=U par/\V.str par=v:=by
        cases z:(iq b one)[i]? with
        |none=>rw[z] at hi;cases hi
        |some o=>rw[z] at hi;exact⟨o,rfl,Ym hi⟩
       have mp:=Yh e2;have X1:(iq b one).take (i+1)=(iq b one).take i++[par]:=by rw[Y1,e2];rfl
       have Vc:one∈kO:=by rw[T];exact Yt _ (sub _ (Yh e1))
       have kf9:kO.length<=64:=Yz (Ia ok A.nd λk d=>By ok ma (R k d)) im;refine bu ?_;by_cases kJ:par∈kO
       ·obtain⟨ap,_,vp⟩:=IW A.len kJ;refine⟨_,rfl,_,rfl,ln,U (.ref ap),rfl,dE A.at_ vp,_,rfl,bT (aX ?_)⟩;refine⟨kO,AH,Ec,_,A,Ed,X,MZ,E,AI,T,Ee,λp t=>?_,R,rfl⟩;rw[X1] at t;rcases Yv.mp t with t|t;·exact AJ p t
        ·rw[Yn.mp t];exact kJ
       ·obtain⟨ao,mao,vo⟩:=IW A.len Vc;obtain⟨Q,M0,ul,aon⟩:=A.lst ao mao;refine⟨_,rfl,_,rfl,ln,aJ,rfl,dE A.at_ (IA A.len kJ),_,rfl,dq ?_⟩;refine⟨_,rfl,_,rfl,ln,.ref ao,rfl,dE A.at_ vo,_,rfl,by show 1<=sizeLine;decide,λe1l HB neb gB heB=>?_⟩;refine⟨ao,e1l,Q,_,rfl,rfl,gB _ _ M0,heB,by show Q.length+1<=sizeLine;omega,λnl HC M3 gC hnl=>?_⟩;have X2:=gB.trans gC;refine⟨_,rfl,_,rfl,ln,_,.inr par,rfl,X2 _ _ A.at_,rfl,?_,λHD bD eD=>?_⟩;·unfold jk;rw[Ya,Je];omega
        rw[mj _ (IA A.len kJ),Qn par nl A.len] at eD;have Vd:nl≠ln:=λz=>by rw[z,gB _ _ A.at_] at M3;cases M3
        have kD:∀{c:O} {o:HO},HA c=U o->c≠ln->HD c=U o:=λ{c o} e n=>bD _ _ (X2 _ _ e) n;have X3:HA nl=aJ:=gB.free M3;refine⟨_,rfl,.inl ⟨rfl,_,ak.of (kD X E.2.1)⟩,_,rfl,fu,_,_,rfl,rfl,kD X E.2.1,?_,λHE bE eE=>?_⟩
        ·rw[Ya];have:AH.length<=kO.length:=by rw[T,Yj];exact V1 _ _
         exact fI this (fI kf9 (by decide))
        have kE:∀{c:O} {o:HO},HA c=U o->c≠ln->c≠fu->HE c=U o:=λ{c o} e n1 n2=>bE _ _ (kD e n1) n2;have Ve:nl≠fu:=λz=>by rw[z,X] at X3;cases X3
        refine⟨kO++[par],AH++[par],Ec++[nl],_,⟨λc o e=>?_,bE _ _ eD (λz=>E.2.1 z.symm),by rw[Yj,Yj,A.len];rfl,λc J=>?_,?_⟩,kE Ed E.1 (λz=>E.2.2.1 z.symm),?_,kE MZ E.2.2.2.1 E.2.2.2.2,E,(λz=>by rcases Yv.mp z with z|z;exact AI z;exact Ve (Yn.mp z).symm),by rw[T,Jw],λk d p t=>Yt _ (Ee k d p t),λp t=>?_,λk d=>?_,rfl⟩
        ·have nc:=cA e XQ;have ncf:c≠fu:=cA e ((B.same.free W));exact kE (A.same _ _ e) nc ncf
        ·rcases Yv.mp J with J|J
         ·obtain⟨us',e',z',n'⟩:=A.lst c J;have cf:c≠fu:=λz=>AI (by rw[←z];exact J);exact⟨us',kE e' n' cf,by rw[Yj];exact lK z',n'⟩
         ·rw[Yn.mp J];exact⟨Q++[.str par],bE _ _ (bD _ _ hnl Vd) Ve,by rw[Yj,Yj];show Q.length+1<=kO.length+1;exact m_ ul (by decide),Vd⟩
        ·refine Wr.mpr ⟨A.nd,QS,λu hu v hv z=>?_⟩;have:v=par:=by simpa using hv
         exact kJ (by rw[←this,←z];exact hu)
        ·rw[eE,Yo];rfl
        ·rw[X1] at t;rcases Yv.mp t with t|t;·exact Yt _ (AJ p t)
         ·rw[Yn.mp t];exact Yu _ Yk
        ·rcases Yv.mp d with d|d;·exact R k d
         ·rw[Yn.mp d];exact .step (R one Vc) mp
      ·rintro G HA ⟨kO,AH,Ec,q6,A,Ed,X,MZ,E,AI,T,Ee,AJ,R,rfl⟩;rw[Ya,Y9] at AJ;refine⟨kO,AH,Ec,_,_,A,Ed,X,⟨E.1,E.2.1,E.2.2.1⟩,AI,T,λk d=>?_,R,rfl⟩;rw[MY] at d;rcases Yv.mp d with d|d;·exact Ee k d
       ·rw[Yn.mp d];exact AJ
     ·rintro G H8 h8;rw[Ya] at h8;exact sS _ _ h8
    ·rintro G H8 ⟨fR,fs,Ea,p5,p6,L,XY,kN,AF,XZ,N,jJ,Eb,rfl⟩;rw[Y9] at jJ;refine⟨_,rfl,?_⟩;have kf8:fR.length<=64:=Yz (Ia ok L.nd λk d=>By ok ma (Eb k d)) im;have X4:fR.length=y.length+fs.length:=by rw[N,Yj]
     refine⟨⟨fR,fs,Ea,fu,_,_,_,L,kN,AF.2.1,λk d=>by rw[N];exact Yu _ d,λk d no p t=>?_,Eb,by rw[N];exact Yt _ XX,QO,rfl⟩,?_⟩
     ·rw[N] at d;rcases Yv.mp d with d|d
      ·by_cases z:k∈D;·exact jJ k z p t
       ·rw[N];exact Yt _ (cl k d z p t)
      ·exact absurd d no
     ·rw[mu0];show zG ln 100 [U (.ref l.h),U (.str a),U (.ref ln),U (.ref fu),U (.ref fu),p5,p6] H8<_;unfold zG;have kl:(jk fR Ea).length=fR.length:=by unfold jk;rw[Ya,Je];have:=L.len;omega
      have g3:List.getD (α:=bq V) [U (.ref l.h),U (.str a),U (.ref ln),U (.ref fu),U (.ref fu),p5,p6] 3 aJ=U (.ref fu):=rfl;rw[L.at_,g3];dsimp only;rw[kN,kl];cases fs with
      |nil=>
       show 2*(100-fR.length)+0<_;have:fR.length=y.length+0:=X4;omega
      |cons x r=>
       show 2*(100-fR.length)+1<_;have:fR.length=y.length+(r.length+1):=X4;omega
   ·have nse:D=[]:=by
     cases D with
     |nil=>rfl
     |cons x r=>exact absurd rfl c
    subst nse;refine eO _ _ ⟨y,as,B,λz=>⟨λh=>sd z h,λh=>?_⟩,_,_,_,_,rfl⟩;induction h with
    |refl=>exact XX
    |step _ m ih=>exact cl _ ih (λz=>nomatch z) _ m
  ·rintro G H6 Q1 Q2 mo ⟨v1,w1,v2,w2,h⟩;exact⟨v1,w1,v2,w2,mo _ _ h⟩
 ·rintro G H6 ⟨y,as,B,iff,o3,o4,o5,o6,rfl⟩;exact⟨_,rfl,q ln y as H6 B iff⟩
def dF(a:bC)(i:Nat):ar:=(a.getD i ("","")).2
def oB(d:(a.map (·.1)).Nodup)(c:i<a.length):aZ (h_ a) (.inr (av a i))=U (.str (dF a i)):=by
 have b:((h_ a).map (·.1)).Nodup:=by
  grind
 refine Rh b (Ye.mpr ⟨a[i],Jo c,?_⟩);unfold av dF
 simp_all
def jR(k h t:ar):cm:=if k="mother" then decide (t="woman") else if k="father" then decide (t="man") else decide (k="sibling")||(decide (h="man")&&decide (t="woman"))
inductive Rr(a:Z V)(H:Hp)(Q:VK)(E:XK):Prop
 |mk (k h t:ar) (b:a=[.str k,.str h,.str t]) (q:Q (.bl (jR k h t)) H)
structure SQ(b:BS)(k a:ar)(o:ar):Prop where
 par:cM k=af->[.inr k,.inr a]∉(cP b.ps b.fs).map (·.1)
 aN:cM k=a7->keyOf k a (.inr o)∉b.keys/\¬(k="sibling"/\a=o)
inductive SR(C CL CJ:O)(g:Z V)(H:Hp)(Q:VK)(E:XK):Prop
 |mk (l:BL) (b:BS) (e d:Z Int) (k a o:ar) (i:g=[.ref l.h,.str k,.str a,.str o]) (h:bc H C CL CJ l e d b) (un:SQ b k a o) (q:∀c,aj H c->Q (.bl a7) c)
inductive Qo(C CL CJ:O)(h:Z V)(H:Hp)(Q:VK)(E:XK):Prop
 |mk (l:BL) (b:BS) (d c:Z Int) (e a:ar) (k:h=[.ref l.h,.str e,.str a]) (j:bc H C CL CJ l d c b) (ok:bW d c b) (i:a∈b.ps.map (·.1)) (no:¬gf b a e) (q:∀g,aj H g->Q .ay g)
structure KH(xs ys:Z Int)(b:BS)(c:Fc):Prop where
 nf:C3 xs ys b c
 ns:c.k≠bB
 c_:jR c.k (dF b.ps c.one) (dF b.ps c.aN.toNat)=af
 un:SQ b c.k (av b.ps c.one) (av b.ps c.aN.toNat)
 el:cM c.k=af->¬gf b (av b.ps c.aN.toNat) (av b.ps c.one)
inductive Qp(C CL CJ:O)(g:Z V)(H:Hp)(Q:VK)(E:XK):Prop
 |mk (l:BL) (b:BS) (d a:Z Int) (c:Fc) (j:g=[.ref l.h,.str c.k,.str (av b.ps c.one),.str (av b.ps c.aN.toNat)]) (i:bc H C CL CJ l d a b) (ok:bW d a b) (h:KH d a b c) (q:∀e,aj H e->Q .ay e)
inductive SS(C CL CJ:O)(h:Z V)(H:Hp)(Q:VK)(E:XK):Prop
 |mk (l:BL) (b:BS) (d a:Z Int) (c:Fc) (k:h=[.ref l.h,.str c.k,.str (av b.ps c.one),.str (av b.ps c.aN.toNat)]) (j:bc H C CL CJ l d a b) (ok:bW d a b) (i:KH d a b c) (dl:b.dn.length<200) (q:∀(g:BL) (e:Hp),bZ H e l g->bc e C CL CJ g d a (b.zm c)->Q (.int (b.co:Int)) e)
structure KI(xs ys:Z Int)(b:BS)(c:Fc):Prop where
 nf:C3 xs ys b c
 sk:c.k=bB
inductive Qq(C CL CJ:O)(g:Z V)(H:Hp)(Q:VK)(E:XK):Prop
 |mk (l:BL) (b:BS) (d a:Z Int) (c:Fc) (j:g=[.ref l.h,.str (av b.ps c.one),.int c.aN]) (i:bc H C CL CJ l d a b) (ok:bW d a b) (h:KI d a b c) (q:∀e,aj H e->Q .ay e)
inductive Pg(C CL CJ:O)(e:Z V)(H:Hp)(Q:VK)(E:XK):Prop
 |mk (l:BL) (b:BS) (a d:Z Int) (i:Int) (j:e=[.ref l.h,.int i]) (h:bc H C CL CJ l a d b) (g:0<=i/\i<(a.length:Int)) (q:∀c,aj H c->Q .ay c)
inductive Kg(C CL CJ:O)(h:Z V)(H:Hp)(Q:VK)(E:XK):Prop
 |mk (l:BL) (b:BS) (d a:Z Int) (c:Fc) (k:h=[.ref l.h,.str (av b.ps c.one),.int c.aN]) (j:bc H C CL CJ l d a b) (ok:bW d a b) (i:KI d a b c) (dl:b.dn.length<200) (q:∀(g:BL) (e:Hp),bZ H e l g->bc e C CL CJ g d a (b.zm c)->Q (.int (b.co:Int)) e)
def e_(x y:ar):decide (V.str x=V.str y)=decide (x=y):=by
 simp_all
abbrev C6:Z ar:=["kind","here","there"]
def ZaS:aT C6 C6 (aO Gn):=.a9
theorem ZaT(F:aR K "sides_fit" "sides_fit" Gn f fd)(c:mg "MAN"=U (.str "man" t1))(d:mg "WOMAN"=U (.str "woman" m))(i:mg "SIBLING"=U (.str "sibling" t3)):aI P w K mg I aP 1 f fd C6 Rr:=by
 refine F.o ZaS λs H n h=>?_;obtain⟨k,h,t,rfl,q⟩:=h;refine⟨_,(aq (aW (bJ cL (pv 0) bA) (au (aL (fN cL (pv 2) (dR (v:=.str "woman") rfl d ⟨_,rfl⟩)))) a_) (aq (aW (bJ cL (pv 0) bA) (au (aL (fN cL (pv 2) (dR (v:=.str "man") rfl c ⟨_,rfl⟩)))) a_) (au (aL (Kl (fN cL (pv 0) (dR (v:=.str "sibling") rfl i ⟨_,rfl⟩)) (oG (rG (fN cL (pv 1) (dR (v:=.str "man") rfl c ⟨_,rfl⟩)) (oG (fN cL (pv 2) (dR (v:=.str "woman") rfl d ⟨_,rfl⟩)))))))))),?_⟩;unfold jR at q;refine⟨_,rfl,rfl,_,rfl,?_⟩;rw[e_];refine bF (λa=>?_) (λa=>aX ?_)
 ·rw[bS (eK a)] at q;refine⟨_,rfl,rfl,?_⟩;rwa[e_]
 ·rw[bR (λz=>a (dg z))] at q;refine⟨_,rfl,rfl,_,rfl,?_⟩;rw[e_];refine bF (λb=>?_) (λb=>aX ?_)
  ·rw[bS (eK b)] at q;refine⟨_,rfl,rfl,?_⟩;rwa[e_]
  ·rw[bR (λz=>b (dg z))] at q;refine⟨_,rfl,rfl,_,rfl,?_⟩;rw[e_];refine bF (λl=>?_) (λl=>?_);·simp_all
   ·have j:decide (k="sibling")=a7:=by
     cases e:decide (k="sibling") with
     |true=>simp_all
     |false=>rfl
    rw[j,DE] at q;refine⟨_,rfl,rfl,_,rfl,?_⟩;rw[e_];refine bF (λg=>?_) (λg=>?_)
    ·rw[g,AE] at q;refine⟨_,rfl,rfl,?_⟩;rwa[e_]
    ·simp_all
abbrev r9:Z ar:=["hearth","kind","one","other"]
def ZR:aT r9 r9 (aO Fh):=.a9
theorem Zgu(F:aR K "told_already" "told_already" Fh f fd)(D:mg "SIBLING"=U (.str "sibling" t1))(G:mg "PARENTS"=U (.ref g))(B:∀H,aB K H g (jz.map V.str))(J:bY P w K mg I 1 "parent_of" C C1 (Ow C CL CJ))(x:bY P w K mg I 2 "has" C qv (KC C CL CJ)):aI P w K mg I aP 3 f fd r9 (SR C CL CJ):=by
 refine F.o ZR λs H p h=>?_;obtain⟨l,b,n,m,k,a,o,rfl,j,un,q⟩:=h;refine⟨_,(aq (aW (ic (mZ (K:=K) rfl) (pv 1) (dR (v:=.ref g) rfl G rfl) QU) (au (aL (fN BE (cV J p (by decide) (pv 0) (aa (pv 1) (aa (pv 2) ag))) mF))) a_) (au (aL (Kl (cV x p (by decide) (pv 0) (aa (pv 1) (aa (pv 2) (aa (pv 3) ag)))) (oG (rG (fN cL (pv 1) (dR (v:=.str "sibling") rfl D ⟨_,rfl⟩)) (oG (fN cL (pv 2) (pv 3))))))))),?_⟩;obtain⟨t,r⟩:=j.obj;refine⟨_,rfl,g,_,rfl,.inr (B _),rfl,rfl,_,rfl,?_⟩;try dsimp only
 rw[bR Yi,B3 k];refine bF (λi=>?_) (λi=>aX ?_)
 ·refine⟨_,rfl,l.h,t,_,rfl,r,rfl,_,rfl,_,rfl,l,b,n,m,k,a,rfl,j,λd c=>?_⟩;rw[qX (un.par i)];exact⟨rfl,q d c⟩
 ·have E:cM k=a7:=by
   cases e:cM k with
   |true=>exact absurd e i
   |false=>rfl
  obtain⟨A,y⟩:=un.aN E;refine⟨_,rfl,l.h,t,_,rfl,r,rfl,_,rfl,_,rfl,_,rfl,l,b,n,m,k,a,.inr o,rfl,j,λ_=>⟨o,rfl⟩,λd c=>⟨_,rfl,?_⟩⟩;have e:b.told (keyOf k a (.inr o))=a7:=by
   cases e:b.told (keyOf k a (.inr o)) with
   |true=>exact absurd ((Qg _ _).mp e) A
   |false=>rfl
  rw[e];refine bT ?_;refine⟨_,rfl,rfl,_,rfl,?_⟩;rw[e_];refine bF (λu=>?_) (λu=>?_)
  ·refine⟨_,rfl,_,rfl,rfl,?_⟩;rw[e_,g_ (λz=>y ⟨eK u,z⟩)];exact q d c
  ·exact q d c
abbrev Lf:Z ar:=["hearth","child","parent"]
def NB:aT ["hearth","child","parent","lines"] Lf (aO Fi):=.a9
def ZS(F:aR K "check_elders" "check_elders" Fi f fd)(n:HasFn P w K mg I 2 "lines_up" uD (Rq C CL CJ)):aI P w K mg I aP 4 f fd Lf (Qo C CL CJ):=by
 refine F.o NB λs H c h=>?_;obtain⟨l,b,e,d,k,g,rfl,m,ok,j,no,q⟩:=h;refine⟨_,(aq (cy 3 NB.nd (aV n c (aa (pv 0) (aa (pv 2) ag)))) (au (aW (kC (Cd (bG c) (pv 1) (pv 3)) QU) gY a_))),?_⟩;refine⟨_,rfl,_,rfl,l,b,e,d,g,rfl,m,ok,j,λp r t o a iff=>bu ?_⟩;have i:=λz=>no ((iff k).mp z);exact⟨_,rfl,_,rfl,p,aJ,rfl,dE a.at_ (IA a.len i),_,rfl,bT (aX (q o a.same))⟩
def ZaU:aT r9 r9 (aO Gm):=.a9
def ZaV(F:aR K "check_tie" "check_tie" Gm f fd)(y:mg "PARENTS"=U (.ref k))(x:∀H,aB K H k (jz.map V.str))(u:HasFn P w K mg I 1 "is_tie" ["kind"] IS)(G:HasFn P w K mg I 1 "sides_fit" C6 Rr)(m:bY P w K mg I 1 "side_of" C lE (Iy C CL CJ))(L:HasFn P w K mg I 3 "told_already" r9 (SR C CL CJ))(J:HasFn P w K mg I 4 "check_elders" Lf (Qo C CL CJ)):aI P w K mg I aP 6 f fd r9 (Qp C CL CJ):=by
 refine F.o ZaU λs H d h=>?_;obtain⟨l,b,i,g,c,rfl,e,ok,a,q⟩:=h;refine⟨_,(aq (aW (i4 (eX (aV u d (aa (pv 1) ag)))) gY a_) (aq (aW (i4 (eX (aV G d (aa (pv 1) (aa (cV m d (by decide) (pv 0) (aa (pv 2) ag)) (aa (cV m d (by decide) (pv 0) (aa (pv 3) ag)) ag)))))) gY a_) (aq (aW (eX (aV L d (aa (pv 0) (aa (pv 1) (aa (pv 2) (aa (pv 3) ag)))))) gY a_) (au (aW (ic (mZ (K:=K) rfl) (pv 1) (dR (v:=.ref k) rfl y rfl) QU) (au (cG (aV J d (aa (pv 0) (aa (pv 2) (aa (pv 3) ag)))))) a_))))),?_⟩;obtain⟨p,o⟩:=e.obj;obtain⟨r,B,N⟩:=F9 (a.nf.fg.wX a.ns);have z:oQ r6 c.k=af:=by unfold oQ;rw[B];rfl
 have n:=(a.nf.fg.ok.gc a.ns).1.2;refine⟨_,rfl,c.k,rfl,_,rfl,?_⟩;rw[z];refine⟨_,rfl,_,rfl,l.h,p,_,rfl,o,rfl,_,rfl,l,b,i,g,_,_,rfl,e,oB ok.nm a.nf.fg.ok.one,⟨_,rfl,l.h,p,_,rfl,o,rfl,_,rfl,l,b,i,g,_,_,rfl,e,oB ok.nm n,⟨c.k,_,_,rfl,_,rfl,?_⟩⟩⟩;rw[a.c_];refine⟨_,rfl,_,rfl,_,rfl,_,rfl,l,b,i,g,c.k,_,_,rfl,e,a.un,λE j=>⟨_,rfl,bT (aX ⟨_,rfl,k,_,rfl,.inr (x _),rfl,rfl,_,rfl,?_⟩)⟩⟩;rw[bR Yi,B3 c.k];refine bF (λt=>⟨_,rfl,_,rfl,_,rfl,l,b,i,g,_,_,rfl,e.same j,ok,IU n,a.el t,λD A=>q D (j.trans A)⟩) (λt=>aX (q E j))
abbrev C7:Z ar:=["hearth","section"]
def ZH:aT C7 C7 (aO E3):=.a9
def ZI(F:aR K "check_section" "check_section" E3 f fd)(c:fL K C)(a:wW K CL)(r:Bl mg):aI P w K mg I aP 1 f fd C7 (Pg C CL CJ):=by
 refine F.o ZH λs H G h=>?_;obtain⟨l,b,v,u,i,rfl,d,g,q⟩:=h;refine⟨_,(au (aW (ic ZaH (pv 1) (fU FX rfl r.kB wj (aa (wA rfl (pF K 0) rfl) ag)) QU) gY a_)),?_⟩;obtain⟨n,k⟩:=d.obj;obtain⟨o,J,z,A,x,E,B,D,L,j,_⟩:=d.landAt;refine⟨_,rfl,_,rfl,l.h,C,n,_,_,rfl,k,c.cls,c.wO,rfl,l.L,CL,o,_,_,rfl,j,a.cls,a.t6,rfl,_,rfl,λp t y m e=>?_⟩;refine⟨_,_,_,p,rfl,rfl,e,_,rfl,?_⟩;rw[bS rfl,dg g];exact bT (aX (q t m))
abbrev C8:Z ar:=["hearth","name","section"]
def ZT:aT C8 C8 (aO Fj):=.a9
theorem ZU(F:aR K "check_saying" "check_saying" Fj f fd)(r:mg "SAID"=U (.str "said" t1))(p:bY P w K mg I 1 "side_of" C lE (Iy C CL CJ))(y:HasFn P w K mg I 1 "check_section" C7 (Pg C CL CJ))(o:bY P w K mg I 2 "has" C qv (KC C CL CJ)):aI P w K mg I aP 3 f fd C8 (Qq C CL CJ):=by
 refine F.o ZT λs H j h=>?_;obtain⟨l,b,i,g,c,rfl,d,ok,a,q⟩:=h;refine⟨_,(aq (cG (cV p j (by decide) (pv 0) (aa (pv 1) ag))) (aq (cG (aV y j (aa (pv 0) (aa (pv 2) ag)))) (au (aW (eX (cV o j (by decide) (pv 0) (aa (dR (v:=.str "said") rfl r ⟨_,rfl⟩) (aa (pv 1) (aa (pv 2) ag))))) gY a_)))),?_⟩;obtain⟨n,m⟩:=d.obj;refine⟨_,rfl,l.h,n,_,rfl,m,rfl,_,rfl,l,b,i,g,_,_,rfl,d,oB ok.nm a.nf.fg.ok.one,⟨_,rfl,_,rfl,l,b,i,g,c.aN,rfl,d,a.nf.fg.Le a.sk,λA k=>⟨_,rfl,l.h,n,_,rfl,k _ _ m,rfl,_,rfl,_,rfl,l,b,i,g,"said",av b.ps c.one,.inl c.aN,rfl,d.same k,(λz=>absurd z QK),λx t=>⟨_,rfl,?_⟩⟩⟩⟩;have u:keyOf "said" (av b.ps c.one) (.inl c.aN)=fP b.ps c:=by
  unfold fP;rw[kT a.sk,a.sk]
 have e:b.told (keyOf "said" (av b.ps c.one) (.inl c.aN))=a7:=by
  cases e:b.told (keyOf "said" (av b.ps c.one) (.inl c.aN)) with
  |true=>exact absurd ((Qg _ _).mp e) (by exact u▸a.nf.nk)
  |false=>rfl
 exact e▸bT (aX (q x (k.trans t)))
def Zat:aT qv qv (aO F3):=.a9
def Zgv(F:aR K "tie" "Hearth.tie" F3 f fd)(i:fL K C)(B:HasFn P w K mg I 6 "check_tie" r9 (Qp C CL CJ))(v:bY P w K mg I 11 "keep" C uB (Ke C CL CJ)):aI P w K mg I aP 12 f fd qv (SS C CL CJ):=by
 refine F.o Zat λs H g h=>?_;obtain⟨l,b,e,d,c,rfl,p,ok,a,dl,q⟩:=h;refine⟨_,(aq (cG (aV B g (aa (pv 0) (aa (pv 1) (aa (pv 2) (aa (pv 3) ag)))))) (au (aL (cV v g (by decide) (pv 0) (aa (dX (aa (pF K 0) (aa (pv 1) (aa (pv 2) (aa (pv 3) ag))))) ag))))),?_⟩;refine⟨_,rfl,_,rfl,_,rfl,_,rfl,l,b,e,d,c,rfl,p,ok,a,λG m=>?_⟩;have o:=p.same m;obtain⟨n,j⟩:=o.obj;refine⟨_,rfl,l.h,n,_,rfl,j,rfl,_,rfl,l.h,C,n,_,_,rfl,j,i.cls,i.pU,rfl,_,rfl,_,rfl,_,rfl,by show 4<=sizeLine;decide,λr t D k E=>?_⟩;have z:dt t b.ps r (b.co,c):=by
  show t r=U (.tup ((d7 b.ps b.co c).map kV));unfold d7;rwa[iF a.ns]
 refine⟨l,b,e,d,r,c,rfl,o.same k,ok,z,a.nf,dl,λx A u y=>q x A (bZ.after (m.trans k) u) y⟩
abbrev zH:Z ar:=["self","name","section"]
def Zau:aT zH zH (aO F4):=.a9
def Zgw(F:aR K "say" "Hearth.say" F4 f fd)(i:fL K C)(y:mg "SAID"=U (.str "said" t1))(E:HasFn P w K mg I 3 "check_saying" C8 (Qq C CL CJ))(x:bY P w K mg I 11 "keep" C uB (Ke C CL CJ)):aI P w K mg I aP 12 f fd zH (Kg C CL CJ):=by
 refine F.o Zau λs H g h=>?_;obtain⟨l,b,e,d,c,rfl,p,ok,a,dl,q⟩:=h;refine⟨_,(aq (cG (aV E g (aa (pv 0) (aa (pv 1) (aa (pv 2) ag))))) (au (aL (cV x g (by decide) (pv 0) (aa (dX (aa (pF K 0) (aa (dR (v:=.str "said") rfl y ⟨_,rfl⟩) (aa (pv 1) (aa (pv 2) ag))))) ag))))),?_⟩;refine⟨_,rfl,_,rfl,_,rfl,l,b,e,d,c,rfl,p,ok,a,λL m=>?_⟩;have o:=p.same m;obtain⟨n,j⟩:=o.obj;refine⟨_,rfl,l.h,n,_,rfl,j,rfl,_,rfl,l.h,C,n,_,_,rfl,j,i.cls,i.pU,rfl,_,rfl,_,rfl,by show 4<=sizeLine;decide,λr t G k J=>?_⟩;have B:dt t b.ps r (b.co,c):=by
  show t r=U (.tup ((d7 b.ps b.co c).map kV));unfold d7;rwa[kT a.sk,a.sk]
 refine⟨l,b,e,d,r,c,rfl,o.same k,ok,B,a.nf,dl,λz D u A=>q z D (bZ.after (m.trans k) u) A⟩
def pE(n:Nat)(d:Int):Z Int:=(List.range n).map λi:Nat=>((i:Int)+d) % (n:Int)
def rot_length(n:Nat)(d:Int):(pE n d).length=n:=by simp[pE]
def Ze3(q:0<n)(d:Int):(pE n d).Perm (bH n):=by
 have g:(0:Int)<(n:Int):=QO
 have j:=W9 d (LU g);have p:=Wt d g;obtain⟨r,k⟩:∃r:Nat,d % (n:Int)=(r:Int):=⟨(d % (n:Int)).toNat,(k8 (qd j))⟩;have o:r<n:=QO
 have e:pE n d=(bH n).drop r++(bH n).take r:=by
  refine Wh λi=>?_;have a:=fS n;by_cases c:i<n
  ·have b:(pE n d)[i]?=U (((i:Int)+d) % (n:Int)):=by
    unfold pE;rw[Yf,Xn c];rfl
   have l:((i:Int)+d) % (n:Int)=((r:Int)+(i:Int)) % (n:Int):=by
    rw[Int.add_comm,←Int.emod_add_emod,k]
   rw[b,l];by_cases h:r+i<n;·rw[Wa (by rw[M4,a];omega),List.getElem?_drop,ny h,MN QO QO,Vk]
   ·rw[Jx (by rw[M4,a];omega),M4,a,z5 QO,ny (Nat.sub_lt_of_lt c)];have m:(r:Int)+(i:Int)=((i-(n-r):Nat):Int)+(n:Int)*1:=QO
    rw[m,Int.add_mul_emod_self_left,MN (qp _) QO]
  ·rw[Y4 (by rw[rot_length];exact gM c),Y4 (by rw[Yj,M4,Y8,a];omega)]
 exact e▸List.perm_append_comm.trans (by rw[List.take_append_drop])
inductive Rt(b:Z V)(H:Hp)(Q:VK):Prop
 |mk (c:Int) (n:Nat) (i:b=[.int c,.int (n:Int)]) (h:0<n) (e:n<=60) (g:∀(t:O) (d:Z Int) (a:Hp),H t=aJ->aj H a->bN a t d->d.Perm (bH n)->Q (.ref t) a):Rt b H Q
def T3:Sp:=λa H Q _=>Rt a H Q
inductive Ru(K:ah)(g:Z V)(H:Hp)(Q:VK):Prop
 |mk (a b:O) (c d:Z Int) (n:g=[.ref a,.ref b]) (m:aB K H a (c.map V.int)) (j:aB K H b (d.map V.int)) (k:(∀x∈c,0<=x/\x<d.length)) (i:c.length<=60) (h:∀(l:O) (e:Hp),H l=aJ->aj H e->bN e l (bQ d c)->Q (.ref l) e):Ru K g H Q
def T4(K:ah):Sp:=λa H Q _=>Ru K a H Q
def Zgx(h:Paired Bd ds [a,b]):∃v w,ds=[v,w]/\Bd v a/\Bd w b:=by
 cases h with|cons d h=>cases h with|cons c h=>
  cases h;exact⟨_,_,rfl,d,c⟩
abbrev Lg:Z ar:=["_law_cell_here","_law_size"]
def Oy:aT ["_law_cell_here","_law_size","_law_drawn"] Lg (aO HU):=.a9
def Zcw(F:aR K "_law_row" "_law_row" HU f fd)(J:HasFn P w K mg I 1 "_law_draws" Ah (BN K))(Hj:HasFn P w K mg I 1 "_law_turn" Ml R_)(B:Bl mg):
  aI P w K mg I aP 2 f fd Lg T3:=by
 refine F.o Oy λs H y h=>?_;obtain⟨c,n,rfl,Q,r,q⟩:=h;refine⟨_,(aq (ig (i:=2) Oy.nd rfl (kv rfl) (aV J y (aa (pv 0) (aa (yW (aa aM (aa aM ag))) ag)))) (aq (aW (bJ cL (bh (iL K) (pv 2) aM) aM) (au (aL (fU (vF) rfl B.oE oA (aa (iZ (fr:=[("_law_size",1),("_law_drawn",2)]) (cl:=[("_law_size",s.heap.objs.size+1),("_law_drawn",s.heap.objs.size+1+1)]) rfl (.f_ ⟨rfl,⟨rfl,trivial⟩⟩ ⟨⟨rfl,.inl rfl,.inl rfl,rfl⟩,⟨⟨rfl,.inl rfl,.inl rfl,rfl⟩,trivial⟩⟩) (pO rfl B.kB (aa (pv 1) ag)) (λ_ _ _ _=>kA) (λ_ _ _ _=>(bj eP (bj iI (pv 0) (bh (iL K) (pv 2) aM)) (pv 1)))) ag)))) a_) (au (aL (aV Hj y (aa (bh (iL K) (pv 2) aM) (aa (pv 1) ag))))))),?_⟩;refine⟨_,rfl,QD,λp N=>?_⟩;refine⟨c,p,[3,40320],rfl,ak.of aQ,QD,QD,λdl ds H1 nd T v X=>?_⟩;obtain⟨W,a,rfl,⟨a0,a0'⟩,⟨a1,a1'⟩⟩:=Zgx X;have g:=(cK N _).trans T;have m:(0:Int)<(n:Int):=QO
 refine⟨_,rfl,dl,_,0,.int W,rfl,rfl,ak.of v,rfl,rfl,_,rfl,bF (λ_=>?_) (λ_=>aX ?_)⟩
 ·refine⟨_,rfl,(n:Int),rfl,QO,QO,λD A=>yA (λi j e=>aj H1 e/\e D=U (.lst j)/\j=((pE n a).take i).map V.int) ⟨cK A _,aQ,rfl⟩ ?_ ?_⟩
  ·rintro i j e z ⟨b,u,k⟩;rw[Y6] at z;rw[Aj];refine kG (dq ⟨_,rfl,_,rfl,dl,_,1,.int a,rfl,rfl,ak.of (b _ _ v),rfl,_,_,rfl,rfl,_,rfl,_,_,rfl,rfl,m,u,?_,λd o x=>?_,aQ,?_⟩)
   ·rw[k,Ya,Y8,rot_length];exact kR (d6 (xQ _ _) (d6 r (by decide)))
   ·rw[aA (cA x A)];exact b d o x
   ·have R:(pE n a)[i]?=U (((i:Int)+a) % (n:Int)):=by
     unfold pE;rw[Yf,Xn z];rfl
    rw[k,Y1,Hz,R];rfl
  ·rintro j e ⟨b,u,k⟩;rw[Y6,W1 (by rw[rot_length];exact nJ _)] at k;refine⟨D,_,rfl,.inl ⟨ak.of u,λt l=>q t (pE n a) _ (g.free (b.free l)) ((g.trans b).trans (cK l _)) ?_ (Ze3 Q a)⟩⟩;show upd e t (.tup j) t=_;rw[aQ,k]
 ·exact⟨_,rfl,dl,_,1,.int a,rfl,rfl,ak.of v,rfl,_,rfl,a,n,rfl,r,λt E e L b l G=>q t E e (g.free L) (g.trans b) l G⟩
abbrev C9:Z ar:=["_law_first","_law_then"]
def ZaW:aT C9 C9 (aO Gq):=.a9
def ZaX(F:aR K "_law_after" "_law_after" Gq f fd)(J:Bl mg):aI P w K mg I aP 1 f fd C9 (T4 K):=by
 refine F.o ZaW λs H L h=>?_;obtain⟨a,b,A,y,rfl,r,G,B,N,q⟩:=h;refine⟨_,(au (aL (fU (vF) rfl J.oE oA (aa (iZ (x:="_law_one") (fr:=[("_law_then",1)]) (cl:=[("_law_then",s.heap.objs.size+1)]) rfl (.f_ ⟨rfl,trivial⟩ ⟨⟨rfl,.inl rfl,.inl rfl,rfl⟩,trivial⟩) (JB (pv 0)) (λ_ _ _ _=>kA) (λ_ _ _ _=>(bh (iT K) (pv 1) (pv 0)))) ag)))),?_⟩;refine⟨_,rfl,a,rfl,⟨_,r⟩,λD p=>Bq (λi e g=>aj H g/\g D=U (.lst e)/\e=((bQ y A).take i).map V.int) ⟨cK p _,aQ,rfl⟩ (λi e g _ ⟨c,_,_⟩=>c.kh r) ?_ ?_⟩
 ·rintro i v e g E ⟨c,k,j⟩;obtain⟨z,rfl,m⟩:=oC E;have u:=B z (Yh m);refine kG (dq ⟨_,rfl,_,rfl,b,_,_,_,rfl,rfl,c.kh G,oI u.1 u.2,k,?_,λd o l=>?_,aQ,?_⟩)
  ·rw[j,Ya,Y8,tK];exact kR (d6 (xQ _ _) (d6 N (by decide)))
  ·rw[aA (cA l p)];exact c d o l
  ·rw[j,Y1,Hz];unfold bQ;rw[Yf,m];rfl
 ·rintro e g ⟨c,k,j⟩;refine⟨D,_,rfl,.inl ⟨ak.of k,λt n=>q t _ (c.free n) (c.trans (cK n _)) ?_⟩⟩;show upd g t (.tup e) t=_;rw[aQ,j,Ya,W1 (by rw[tK];exact nJ _)]
inductive Rv(d:Z V)(H:Hp)(Q:VK):Prop
 |mk (a:O) (b:Z Int) (j:d=[.ref a]) (i:bN H a b) (g:b.length<64) (h:full b=af) (e:∀(t:O) (c:Hp),H t=aJ->aj H c->bN c t (inv b)->Q (.ref t) c):Rv d H Q
def KJ:Sp:=λa H Q _=>Rv a H Q
abbrev zI:Z ar:=["_law_turn_here"]
def Z_:aT zI zI (aO FD):=.a9
def Zcx(F:aR K "_law_inverse" "_law_inverse" FD f fd)(n:Bl mg):aI P w K mg I aP 1 f fd zI KJ:=by
 refine F.o Z_ λs H E h=>?_;obtain⟨a,c,rfl,y,B,A,q⟩:=h;refine⟨_,(au (aL (fU (vF) rfl n.oE oA (aa (iZ (x:="_law_at") (fr:=[("_law_turn_here",0)]) (cl:=[("_law_turn_here",s.heap.objs.size+1)]) rfl (.f_ ⟨rfl,trivial⟩ ⟨⟨rfl,.inl rfl,.inl rfl,rfl⟩,trivial⟩) (pO rfl n.kB (aa (dJ K n (pv 0)) ag)) (λ_ _ _ _=>kA) (λ_ _ _ _=>(NR (pv 1) (aa (pv 0) ag)))) ag)))),?_⟩;have j:(c.map V.int).length=c.length:=Ya _;refine⟨_,rfl,a,_,rfl,.inr (aB.of y),_,rfl,by rw[j];omega,by rw[j];omega,λD v=>yA
   (λi b g=>aj H g/\g D=U (.lst b)/\b=((inv c).take i).map V.int) ⟨cK v _,aQ,rfl⟩ ?_ ?_⟩
 ·rintro i b g l ⟨e,m,k⟩;rw[Y6,j] at l;rw[Aj];have r:=Bv (P1 A l);have z:=e _ _ y;refine kG (dq ⟨_,rfl,a,c,rfl,z,_,rfl,(i:Int),lC (i:Int) c,rfl,z,r.1,r.2,m,?_,λd o p=>?_,aQ,?_⟩)
  ·rw[k,Ya,Y8,gX];exact kR QO
  ·rw[aA (cA p v)];exact e d o p
  ·rw[k,P2 l,Yo];rfl
 ·rintro b g ⟨e,m,k⟩;refine⟨D,_,rfl,.inl ⟨ak.of m,λt u=>q t _ (e.free u) (e.trans (cK u _)) ?_⟩⟩;show upd g t (.tup b) t=_;rw[aQ,k,Y6,j,W1 (by rw[gX];exact nJ _)]
structure jZ(H0 H:Hp)(ps:bC)(d:O)(b:Nat)(kvs:Z (Key×V))(L:Nat->Z (Nat×Z Int)):Prop where
 dict:H d=U (.dK kvs)
 len:kvs.length<=b
 new:H0 d=aJ
 at_:∀x:Nat,x<ps.length->(aZ kvs (.inr (av ps x))=aJ/\L x=[])\/∃(a:O) (es:Z O),aZ kvs (.inr (av ps x))=U (.ref a)/\H0 a=aJ/\H a=U (.lst (es.map V.ref))/\(L x).length<=b/\Paired (λe (p:Nat×Z Int)=>∃u,H e=U (.tup [.str (av ps p.1),.ref u])/\bN H u p.2) es (L x)
 inj:∀(x y:Nat) (a:O),x<ps.length->y<ps.length->aZ kvs (.inr (av ps x))=U (.ref a)->aZ kvs (.inr (av ps y))=U (.ref a)->x=y
def tY(b:(a.map (·.1)).Nodup)(d:i<a.length)(c:j<a.length)(e:av a i=av a j):i=j:=by
 have g:=tT b d;rw[e,tT b c] at g
 grind
def jZ.same(g:aj H s)(h:jZ r H e d b c L):jZ r s e d b c L:=by
 refine⟨g _ _ h.dict,h.len,h.new,λx i=>?_,h.inj⟩;rcases h.at_ x i with z|⟨a,o,n,m,l,k,j⟩;·exact .inl z
 ·exact .inr ⟨a,o,n,m,g _ _ l,k,L2.Paired.bL j λ_ _ ⟨u,q,p⟩=>⟨u,g _ _ q,g _ _ p⟩⟩
def jZ.app(h:jZ H0 H i d b l L)(X:x<i.length)(G:aZ l (.inr (av i x))=U (.ref a))(j:H a=U (.lst ys))(N:H e=U (.tup [.str (av i y),.ref u]))(J:bN H u t)(k:aC a H r)(W:r a=U (.lst (ys++[.ref e]))):jZ H0 r i d (b+1) l (ux L x (y,t)):=by
 have m:∀{c:O} {F:Z V},H c=U (.tup F)->c≠a:=λ{c F} hc=>eG hc j (λz=>by cases z);refine⟨k _ _ h.dict (eG h.dict j (λz=>by cases z)),by have:=h.len;exact lK this,h.new,λz s=>?_,h.inj⟩;have Q:∀{g:Z O} {qs:Z (Nat×Z Int)},Paired (λe (p:Nat×Z Int)=>∃u,H e=U (.tup [.str (av i p.1),.ref u])/\bN H u p.2) g qs->Paired (λe (p:Nat×Z Int)=>∃u,r e=U (.tup [.str (av i p.1),.ref u])/\bN r u p.2) g qs:=λ{g qs} hp=>L2.Paired.bL hp λ_ _ ⟨u,T,R⟩=>⟨u,k _ _ T (m T),k _ _ R (m R)⟩;by_cases D:z=x
 ·subst D;rcases h.at_ z s with⟨E,_⟩|⟨o,g,n,B,A,P,v⟩;·simp_all
  ·obtain rfl:o=a:=V.ref.inj (Ym (n.symm.trans G));rw[A] at j;obtain rfl:g.map V.ref=ys:=by injection j with j;injection j
   refine .inr ⟨o,g++[e],n,B,by rw[W,Yo];rfl,?_,?_⟩;·unfold ux;rw[bS rfl,Yj];show(L z).length+1<=b+1;exact m_ P (by decide)
   ·unfold ux;rw[bS rfl];exact kQ ⟨u,k _ _ N (m N),k _ _ (J) (m (J))⟩ (Q v)
 ·unfold ux;rw[bR D];rcases h.at_ z s with E|⟨o,g,n,B,A,P,v⟩;·exact .inl E
  ·refine .inr ⟨o,g,n,B,k _ _ A (λq=>D (h.inj z x a s X (by rwa[←q]) G)),(lK P),Q v⟩
def jZ.neu(X:jZ H0 Hb l d b i L)(A:(l.map (·.1)).Nodup)(D:x<l.length)(g:aj Hb H)(np:Hb p=aJ)(Ef:H0 p=aJ)(J:aZ i (.inr (av l x))=aJ)(W:H p=U (.lst []))(E:aC d H H')(Dk:H' d=U (.dK (i++[(.inr (av l x),.ref p)]))):jZ H0 H' l d (b+1) (i++[(.inr (av l x),.ref p)]) L:=by
 have h:=X.same g;have R:∀{c:O} {r:Z V},H c=U (.tup r)->c≠d:=λ{c r} N=>eG N h.dict (λz=>by cases z);have T:∀{c:O} {r:Z V},H c=U (.lst r)->c≠d:=λ{c r} N=>eG N h.dict (λz=>by cases z);refine⟨Dk,by rw[Yj];have:=h.len;show i.length+1<=b+1;exact m_ this (by decide),h.new,λz v=>?_,λo n a G B k j=>?_⟩
 ·rw[vY J];by_cases P:z=x
  ·rw[bS (by rw[P])];rcases h.at_ z v with⟨_,n⟩|⟨a1,Q,m,_⟩;·exact .inr ⟨p,[],rfl,Ef,E _ _ W (T W),by exact n▸Yx _,by exact n▸.nil⟩
   ·rw[P,J] at m;cases m
  ·rw[bR (λq=>P (tY A v D (Wi q)))];rcases h.at_ z v with o|⟨a1,Q,m,h2,y,h4,h5⟩;·exact .inl o
   ·exact .inr ⟨a1,Q,m,h2,E _ _ y (T y),(lK h4),L2.Paired.bL h5 λ_ _ ⟨u,k,j⟩=>⟨u,E _ _ k (R k),E _ _ j (R j)⟩⟩
 ·have t:∀{z:Nat},z<l.length->aZ i (.inr (av l z))=U (.ref p)->False:=λ{z} v e=>by
   rcases X.at_ z v with⟨o,_⟩|⟨a1,Q,m,h2,y,_⟩;·rw[o] at e;cases e
   ·rw[e] at m;obtain rfl:p=a1:=V.ref.inj (Ym m);rw[np] at y;cases y
  rw[vY J] at k j;by_cases F:o=x
  ·by_cases s:n=x;·rw[F,s]
   ·rw[bS (by rw[F])] at k;rw[bR (λq=>s (tY A B D (Wi q))),←k] at j;exact absurd j (t B)
  ·rw[bR (λq=>F (tY A G D (Wi q)))] at k;by_cases s:n=x
   ·rw[bS (by rw[s])] at j;rw[←j] at k;exact absurd k (t G)
   ·rw[bR (λq=>s (tY A B D (Wi q)))] at j;exact h.inj _ _ a G B k j
def Ph(h2:∀H Q,Q (.ref d) H->gn 2 σ H Q)(nd:(ps.map (·.1)).Nodup)(E:x<ps.length)(hi:∀H Q,Q (.str (av ps x)) H->gn i σ H Q)(hk:∀H Q,Q (.str (av ps y)) H->gn k σ H Q)(h:jZ n H ps d b m L)(g:aj n H)(lb:b<1000)
  (hx:∀(B:Hp) (Q1:VK),aj n B->(∀(u:O) (H2:Hp),aj B H2->bN H2 u t->Q1 (.ref u) H2)->tx σ B Q1)(q:∀(v:V) (T:Z (Key×V)) (W:Hp),aj n W->jZ n W ps d (b+2) T (ux L x (y,t))->Q v W):zW K "list" PM (Ij (gn 2) (gn i) (TH jX)) (iJ (zg (iJ (gn k) (iJ tx jX))) jX) σ H Q:=by
 have sz:(10000:Nat)<=sizeLine:=by rw[c4];decide
 have ln:=h.len;unfold zW Ij;refine h2 _ _ ⟨d,rfl,.inl ⟨_,.inl h.dict⟩,hi _ _ ⟨by show 0<=sizeLine;exact Yx _,λp B X j G=>⟨m,.inr (av ps x),j _ _ h.dict,rfl,(hT (fI ln lb) (by decide)),λv r=>?_,λr H2 R e2=>?_⟩⟩⟩
 ·rcases h.at_ x E with⟨z1,_⟩|⟨a,es,h3,h4,N,h6,h7⟩;·grind
  obtain rfl:v=.ref a:=Ym (r.symm.trans h3);have pl:=c7 h7;refine⟨.inl ⟨rfl,_,ak.of (j _ _ N)⟩,?_⟩;unfold iJ zg;refine hk _ _ (hx _ _ (g.trans j) λu H2 g2 F=>⟨by show 2<=sizeLine;decide,λe H3 ne A J=>?_⟩);have s:=(j.trans g2).trans A;refine⟨a,_,_,rfl,rfl,s _ _ N,by rw[Ya];omega,λH4 b4 e4=>?_⟩;have l:=(h.same s).app E h3 (s _ _ N) J (A _ _ F) b4 e4;exact q _ _ H4 (λc o e=>b4 _ _ (s _ _ (g _ _ e)) (cA e h4)) ⟨l.dict,by have:=l.len;exact lK this,l.new,λz hz=>by
   rcases l.at_ z hz with w|⟨a,es,w1,w2,w3,w4,w5⟩;·exact .inl w
   ·exact .inr ⟨a,es,w1,w2,w3,(lK w4),w5⟩,l.inj⟩
 ·have Ef:=g.free X;have P:=R _ _ G (eG G (j _ _ h.dict) (λz=>by cases z));have gg:aj n H2:=λc o e=>R _ _ (j _ _ (g _ _ e)) (cA e h.new);refine⟨.inl ⟨rfl,_,ak.of P⟩,?_⟩;unfold iJ zg;refine hk _ _ (hx _ _ gg λu H3 A F=>⟨by show 2<=sizeLine;decide,λe H4 ne g4 J=>?_⟩);have D:=A.trans g4;refine⟨p,_,_,rfl,rfl,D _ _ P,by show 0<sizeLine;decide,λH5 b5 e5=>?_⟩;have vx:aZ (m++[(Sum.inr (av ps x),V.ref p)]) (.inr (av ps x))=U (.ref p):=by rw[vY r,bS rfl]
  exact q _ _ H5 (λc o e=>b5 _ _ (D _ _ (gg _ _ e)) (cA e Ef)) (((h.neu nd E j X Ef r G R e2).same D).app E vx (D _ _ P) J (g4 _ _ F) b5 e5)
def Ei(H:Hp)(b:bC)(a:O)(c:Fc):Prop:=∃z:Int,H a=U (.tup [.int z,.str c.k,.str (av b c.one),kV (bg b c)])
def FL(H:Hp)(b:bC)(c:O)(F:Z Fc):Prop:=∃a:Z O,H c=U (.lst (a.map V.ref))/\Paired (Ei H b) a F
abbrev wQ(m f w s:O):Z (Key×V):=[(.inr "mother",.ref m),(.inr "father",.ref f),(.inr "wed",.ref w),(.inr "sibling",.ref s)]
def gS(H:Hp)(c:O)(a b:Z Int):Prop:=∃m f w s:O,H c=U (.dK (wQ m f w s))/\bN H m (inv a)/\bN H f (inv (bQ a b))/\bN H w b/\bN H s (bH a.length)
def FL.same(g:aj H j)(h:FL H a d F):FL j a d F:=by
 obtain⟨i,c,b⟩:=h;exact⟨i,g _ _ c,L2.Paired.bL b λ_ _ ⟨z,e⟩=>⟨z,g _ _ e⟩⟩
def gS.same(g:aj H j)(h:gS H a xs ys):gS j a xs ys:=by
 obtain⟨m,f,w,s,i,e,d,c,b⟩:=h;exact⟨m,f,w,s,g _ _ i,g _ _ e,g _ _ d,g _ _ c,g _ _ b⟩
def gS.get(h:gS H j xs i)(m:(k,tn)∈rS xs i):∃e u,H j=U (.dK e)/\aZ e (.inr k)=U (.ref u)/\bN H u tn:=by
 obtain⟨a,b,c,d,g,p,o,n,l⟩:=h;simp[Ys,Y3,hP] at m;rcases m with⟨rfl,rfl⟩|⟨rfl,rfl⟩|⟨rfl,rfl⟩|⟨rfl,rfl⟩;·exact⟨_,a,g,rfl,p⟩
 ·exact⟨_,b,g,rfl,o⟩
 ·exact⟨_,c,g,rfl,n⟩
 ·exact⟨_,d,g,rfl,l⟩
inductive SU(k:Z V)(H:Hp)(Q:VK)(E:XK):Prop
 |mk (j i:O) (a:bC) (b h:Z Int) (F:Z Fc) (s:k=[.ref j,.ref i]) (r:FL H a j F) (m:gS H i b h) (l:(a.map (·.1)).Nodup) (p:∀c∈F,eI b h a.length c) (q:b.length<=8) (o:F.length<=64) (n:∀(d:O) (e:Z (Key×V)) (L:Nat->Z (Nat×Z Int)) (g:Hp),aj H g->jZ H g a d 300 e L->(∀x y t,(y,t)∈L x↔hJ F x y t)->Q (.ref d) g)
abbrev Lh:Z ar:=["_law_facts","_law_turns_here"]
def vR:aT ["_law_facts","_law_turns_here","_law_found","_law_number","_law_kind","_law_one","_law_other"] Lh (aO GY):=.a9
theorem Zgy(F:aR K "_law_nets" "_law_nets" GY f fd)(tG:HasFn P w K mg I 1 "_law_inverse" zI KJ)(bl:Bl mg):aI P w K mg I aP 2 f fd Lh SU:=by
 refine F.o vR λs H hr h=>?_;obtain⟨Q,G,B,xs,ys,F,rfl,lS,ht,lV,fgA,n8,Ej,q⟩:=h;refine⟨_,(aq (cy 2 vR.nd tL) (aq (gm hI rfl (eS (K:=K) rfl (pv 0)) (jr (K:=K) (n:=4) rfl rfl (bX (bI 3 vR.nd) (bX (bI 4 vR.nd) (bX (bI 5 vR.nd) (bX (bI 6 vR.nd) jo))))) (au (aW (bJ mI (pv 4) bA) (aq (cG (qa (K:=K) rfl (mJ kj l4 lU q0 (Oi (pv 2) (pv 5) (dP ag) ⟨rfl,rfl,rfl,rfl⟩) (aa (dX (aa (pv 6) (aa (dD (bG hr) (pv 1) (pv 4) (λ_ _=>rfl)) ag))) ag)))) (au (cG (qa (K:=K) rfl (mJ kj l4 lU q0 (Oi (pv 2) (pv 6) (dP ag) ⟨rfl,rfl,rfl,rfl⟩) (aa (dX (aa (pv 5) (aa (aV tG hr (aa (dD (bG hr) (pv 1) (pv 4) (λ_ _=>rfl)) ag)) ag))) ag)))))) a_))) (au (aL (pv 2))))),?_⟩;refine cC ?_;refine λd H1 nd g1 hd=>?_;obtain⟨as,df,cT⟩:=id lS;have al:=c7 cT;have sz:(10000:Nat)<=sizeLine:=by rw[c4];decide
 refine ie (λl k=>∃(i:Z (Key×V)) (L:Nat->Z (Nat×Z Int)) (r p o m:bq V),aj H k/\jZ H k B d 300 i L/\(∀x y t,(y,t)∈L x↔hJ F x y t)/\l=[U (.ref Q),U (.ref G),U (.ref d),r,p,o,m]) (λlP eO=>?_) ?_
 ·refine⟨_,rfl,Q,rfl,⟨_,ak.of (g1 _ _ df)⟩,kz (K:=K) (a:=Q) (xs:=as.map V.ref) (λj l k=>∃(i:Z (Key×V)) (L:Nat->Z (Nat×Z Int)) (r p o m:bq V),aj H k/\jZ H k B d (4*j) i L/\(∀x y t,(y,t)∈L x↔hJ (F.take j) x y t)/\l=[U (.ref Q),U (.ref G),U (.ref d),r,p,o,m])
   ⟨[],λ_=>[],aJ,aJ,aJ,aJ,g1,⟨hd,Yd _,nd,λx _=>.inl ⟨rfl,rfl⟩,λ_ _ _ _ _ e=>(nomatch e)⟩,λx y t=>⟨λz=>(nomatch z),λz=>absurd z ZeQ⟩,rfl⟩
   (λj l k _ C=>by obtain⟨_,_,_,_,_,_,g,_⟩:=C;exact ak.of (g _ _ df)) ?_ ?_⟩
  ·rintro j v l k D ⟨i,L,r,p,o,m,g,ne,A,rfl⟩;rw[Yf] at D;obtain⟨R,ec,rfl⟩:∃R,as[j]?=U R/\V.ref R=v:=by
    cases e:as[j]? with
    |none=>rw[e] at D;cases D
    |some c=>rw[e] at D;exact⟨c,rfl,Ym D⟩
   obtain⟨c,jH,z,hc⟩:=fK cT ec;have mc:=Yh jH;have fg:=fgA c mc;have ok:=fg.ok;have jl:j<F.length:=(Yl.mp jH).1;have oj:F.take (j+1)=F.take j++[c]:=by rw[Y1,jH];rfl
   refine⟨R,_,rfl,aB.of (g _ _ hc),rfl,_,_,rfl,bu ⟨_,_,rfl,bu ⟨_,_,rfl,bu ⟨_,_,rfl,bu ⟨rfl,?_⟩⟩⟩⟩⟩;have ev:∀b:cm,decide (V.str c.k=V.str bB)=b->(b=af↔c.k=bB):=λb e=>by
    rw[←e,eJ];exact⟨V.str.inj,λz=>by rw[z]⟩
   refine⟨_,rfl,rfl,_,rfl,?_⟩;refine bF (λE=>?_) (λE=>aX ?_)
   ·have ns:c.k≠bB:=λz=>by
     rw[(ev _ rfl).mpr z] at E;cases E
    obtain⟨tk,u,fq,vu,hu⟩:=ht.get (fg.wX ns);obtain⟨⟨o0,om⟩,ft,tl⟩:=ok.gc ns;have eo:kV (bg B c)=.str (av B c.aN.toNat):=by rw[iF ns];rfl
    refine Ph (ps:=B) (x:=c.one) (y:=c.aN.toNat) (t:=c.tn) (λ_ _ h=>⟨_,rfl,h⟩) lV ok.one (λ_ _ h=>⟨_,rfl,h⟩) (λ_ _ h=>⟨_,rfl,by rw[eo];exact h⟩) ne g QO (λH2 Q2 N k2=>⟨_,rfl,_,rfl,G,.ref u,rfl,dE (N _ _ fq) vu,k2 u H2 (aj.refl _) (N _ _ hu)⟩) λv2 ZlV H2 N n2=>?_;refine Ph (ps:=B) (x:=c.aN.toNat) (y:=c.one) (t:=inv c.tn) (λ_ _ h=>⟨_,rfl,h⟩) lV om (λ_ _ h=>⟨_,rfl,by rw[eo];exact h⟩) (λ_ _ h=>⟨_,rfl,h⟩) n2 N QO (λH3 Q3 J k3=>⟨_,rfl,_,rfl,G,.ref u,rfl,dE (J _ _ fq) vu,u,c.tn,rfl,J _ _ hu,(fI (kS tl) (fI n8 (by decide))),ft,λw H4 _ g4 hw=>k3 w H4 g4 hw⟩) λv3 Zke H3 J n3=>?_;refine⟨Zke,_,_,_,_,_,J,n3,λx y t=>?_,rfl⟩;rw[oj,rA,Qb,Qb,A]
    grind
   ·have sd:c.k=bB:=by
     by_cases z:c.k=bB;·exact z
     ·cases e:decide (V.str c.k=V.str bB) with
      |true=>exact absurd ((ev _ e).mp rfl) z
      |false=>rw[e] at E;exact absurd rfl E
    refine⟨i,L,_,_,_,_,g,⟨ne.dict,by have:=ne.len;exact tD this,ne.new,λz hz=>?_,ne.inj⟩,λx y t=>?_,rfl⟩
    ·rcases ne.at_ z hz with w|⟨a,es,w1,X,W,w4,T⟩;·exact .inl w
     ·exact .inr ⟨a,es,w1,X,W,(tD w4),T⟩
    ·rw[oj,rA,A];exact⟨.inl,λh=>h.elim id λz=>absurd sd z.1⟩
  ·rintro l k ⟨i,L,r,p,o,m,g,ne,A,rfl⟩;rw[Ya,al] at ne;rw[Ya,al,Y9] at A;refine eO _ _ ⟨i,L,r,p,o,m,g,⟨ne.dict,by have:=ne.len;omega,ne.new,λz hz=>?_,ne.inj⟩,A,rfl⟩;rcases ne.at_ z hz with w|⟨a,es,w1,X,W,w4,T⟩;·exact .inl w
   ·exact .inr ⟨a,es,w1,X,W,QO,T⟩
 rintro l k ⟨i,L,r,p,o,m,g,ne,A,rfl⟩;exact⟨_,rfl,q d i L k g ne A⟩
def SV{t:Z Int}{z:Int}(a:0<=z)(h:z<t.length):d_ (t.map V.int) z=U (.int (ap t z)):=oI a h
def gN(a:bC)(g:Z (Nat×Int)):Z (Key×V):=g.map λp=>(.inr (av a p.1),.int p.2)
def qT(a:bC)(g:Z (Nat×Int)):Z V:=g.map λp=>.str (av a p.1)
def Zh9(a:bC)(g:Z (Nat×Int)):(gN a g).length=g.length:=Ya _
def Rw(a:bC)(g:Z (Nat×Int)):(qT a g).length=g.length:=Ya _
theorem rP(b:(a.map (·.1)).Nodup)(c:k<a.length):∀{g:Z (Nat×Int)},(∀p∈g,p.1<a.length)->aZ (gN a g) (.inr (av a k))=(g.lookup k).map V.int
 |[],_=>rfl
 |p::g,lt=>by
  have h:gN a (p::g)=(Sum.inr (av a p.1),V.int p.2)::gN a g:=rfl;rw[h,Ja];by_cases e:k=p.1
  ·rw[beq_iff_eq.mpr e,gZ (by rw[e])];rfl
  ·rw[beq_eq_false_iff_ne.mpr e,gk (λz=>e (tY b c (lt p Yk) (Wi (show(Sum.inr (av a p.1):Key)=Sum.inr (av a k) from z)).symm))];exact rP b c λq d=>lt q (Yw _ d)
def Zgz{r k:Nat}(h:g[r]?=U (k,v)):d_ (qT a g) (r:Int)=U (.str (av a k)):=iG (by unfold qT;rw[Yf,h];rfl)
def x_(c:bC)(d m l n:O)(x:Nat)(a:Int)(r:Nat)(i h g b e k j:bq V):St:=[U (.ref d),U (.ref m),U (.str (av c x)),U (.int a),U (.ref l),U (.ref n),U (.int (r:Int)),i,h,g,b,e,k,j]
def muC(m:Nat):St->Hp->Nat:=λa _=>match List.getD (α:=bq V) a 6 aJ with|some (V.int z)=>m+1-z.toNat|_=>0
inductive T5(H:Hp)(F:Z Fc)(L:Nat->Z (Nat×Z Int))(n:Nat)(b:bC)(d k e h:O)(x:Nat)(a:Int)(i:St)(c:Hp):Prop
 |mk (g:Z (Nat×Int)) (r:Nat) (o m l:bq V) (y:aj H c) (v:c e=U (.dK (gN b g))) (t:c h=U (.lst (qT b g))) (u:BF F n b.length x a g) (s:r<=g.length) (q:(∀j,j<r->Cl L g j)) (p:i=x_ b d k e h x a r o m l aJ aJ aJ aJ):T5 H F L n b d k e h x a i c
def Zkf(H:Hp)(F:Z Fc)(L:Nat->Z (Nat×Z Int))(n:Nat)(c:bC)(d g e h:O)(x:Nat)(a:Int)(b:St)(i:Hp):Prop:=T5 H F L n c d g e h x a b i
inductive T6(H:Hp)(F:Z Fc)(L:Nat->Z (Nat×Z Int))(n:Nat)(b:bC)(d j c k:O)(x:Nat)(a:Int)(h:St)(e:Hp):Prop
 |mk (g:Z (Nat×Int)) (r:Nat) (o m l:bq V) (u:aj H e) (t:e c=U (.dK (gN b g))) (q:BF F n b.length x a g) (s:(∀i,i<g.length->Cl L g i)) (p:h=x_ b d j c k x a r o m l aJ aJ aJ aJ):T6 H F L n b d j c k x a h e
def Zkg(H:Hp)(F:Z Fc)(L:Nat->Z (Nat×Z Int))(n:Nat)(c:bC)(d g e h:O)(x:Nat)(a:Int)(b:St)(i:Hp):Prop:=T6 H F L n c d g e h x a b i
inductive Vf(H:Hp)(F:Z Fc)(L:Nat->Z (Nat×Z Int))(n:Nat)(b:bC)(d m h i:O)(x:Nat)(a:Int)(r k:Nat)(v:Int)(g:Z (Nat×Int))(p:O)(o:Z O)(j:Nat)(l:St)(e:Hp):Prop
 |mk (c s:Z (Nat×Int)) (u t:bq V) (J:aj H e) (G:e p=U (.lst (o.map V.ref))) (D:e h=U (.dK (gN b c))) (E:e i=U (.lst (qT b c))) (B:BF F n b.length x a c) (A:c=g++s) (z:(∀q∈(L k).take j,c.lookup q.1=U (ap q.2 v))) (y:l=x_ b d m h i x a r (U (.str (av b k))) u t aJ aJ aJ aJ):Vf H F L n b d m h i x a r k v g p o j l e
def CIn(H:Hp)(F:Z Fc)(L:Nat->Z (Nat×Z Int))(n:Nat)(c:bC)(d h e l:O)(x:Nat)(a:Int)(r k:Nat)(v:Int)(g:Z (Nat×Int))(m:O)(i:Z O)(j:Nat)(b:St)(o:Hp):Prop:=Vf H F L n c d h e l x a r k v g m i j b o
inductive T7(H:Hp)(F:Z Fc)(L:Nat->Z (Nat×Z Int))(n:Nat)(b:bC)(d l h i:O)(x:Nat)(a:Int)(r k:Nat)(v:Int)(g:Z (Nat×Int))(j:St)(e:Hp):Prop
 |mk (c m:Z (Nat×Int)) (p o:bq V) (B:aj H e) (A:e h=U (.dK (gN b c))) (y:e i=U (.lst (qT b c))) (z:BF F n b.length x a c) (u:c=g++m) (t:(∀q∈L k,c.lookup q.1=U (ap q.2 v))) (s:j=x_ b d l h i x a r (U (.str (av b k))) p o aJ aJ aJ aJ):T7 H F L n b d l h i x a r k v g j e
def Zkh(H:Hp)(F:Z Fc)(L:Nat->Z (Nat×Z Int))(n:Nat)(c:bC)(d h e i:O)(x:Nat)(a:Int)(r k:Nat)(v:Int)(g:Z (Nat×Int))(b:St)(j:Hp):Prop:=T7 H F L n c d h e i x a r k v g b j
inductive T8(H:Hp)(F:Z Fc)(n:Nat)(b:bC)(d l g h:O)(x:Nat)(a:Int)(r k y:Nat)(u:O)(j:Z (Nat×Int))(o:O)(m:Z O)(i:St)(e:Hp):Prop
 |mk (c q:Z (Nat×Int)) (p:Int) (E:aj H e) (D:e o=U (.lst (m.map V.ref))) (A:e g=U (.dK (gN b c))) (B:e h=U (.lst (qT b c))) (z:BF F n b.length x a c) (v:c=j++q) (t:c.lookup y=U p) (s:i=x_ b d l g h x a r (U (.str (av b k))) (U (.str (av b y))) (U (.ref u)) aJ aJ aJ aJ):T8 H F n b d l g h x a r k y u j o m i e
def Zki(H:Hp)(F:Z Fc)(n:Nat)(c:bC)(d h g j:O)(x:Nat)(a:Int)(r k y:Nat)(u:O)(e:Z (Nat×Int))(l:O)(i:Z O)(b:St)(m:Hp):Prop:=T8 H F n c d h g j x a r k y u e l i b m
def T9(h:bC)(F:Z Fc)(t:Hp)(d p o q:O)(x:Nat)(a:Int)(r:Nat)(g:Z (Nat×Int))(l k j:bq V)(b:St)(s:Hp):Prop:=s=t/\(∀c∈F,c.k=bB->∀u,g.lookup c.one=U u->u=c.aN)/\∃e i n m:bq V,b=x_ h d p o q x a r l k j e i n m
inductive Pj(j:Z V)(H:Hp)(Q:VK)(E:XK):Prop
 |mk (l:Hp) (d i:O) (h:Z (Key×V)) (L:Nat->Z (Nat×Z Int)) (n:Nat) (b:bC) (F:Z Fc) (x:Nat) (a:Int) (D:j=[.ref d,.ref i,.str (av b x),.int a]) (q:(b.map (·.1)).Nodup) (B:jZ l H b d 300 h L) (z:(∀x y t,(y,t)∈L x↔hJ F x y t)) (A:FL H b i F) (v:(∀c∈F,dY n b.length c)) (u:n<=8) (s:b.length<=100) (r:F.length<=64) (o:x<b.length) (m:(0<=a/\a<(n:Int))) (J:((¬∃g,jt n F g/\g x=some a)->∀e,aj H e->Q .ay e)) (G:∀(p:O) (g:Z (Nat×Int)) (e:Hp),aj H e->e p=some (.dK (gN b g))->BF F n b.length x a g->jt n F (λk=>g.lookup k)->Q (.ref p) e)
abbrev Li:Z ar:=["_law_nets_here","_law_facts","_law_name_here","_law_section"]
def mf:aT ["_law_nets_here","_law_facts","_law_name_here","_law_section","_law_found","_law_row_here","_law_at","_law_here","_law_that","_law_turn_here","_law_number","_law_kind","_law_one","_law_said"] Li (aO FE):=.a9
theorem Zcy(F:aR K "_law_carried" "_law_carried" FE f fd)(bl:Bl mg):aI P w K mg I aP 1 f fd Li Pj:=by
 refine F.o mf λs H hr h=>?_;obtain⟨H0,d,W,kvs,L,n,l,F,x,a,rfl,lV,C_,ed,lS,gO,n8,Vg,Ej,hx,Zkj,q1,q2⟩:=h;refine⟨_,(aq (cy 4 mf.nd (BP (kU (pv 2) (pv 3) BO) rfl rfl (λz=>nomatch z) (Ju rfl))) (aq (cy 5 mf.nd (dP (aa (pv 2) ag))) (aq (cy 6 mf.nd aM) (aq (Ig hI (bJ oO (pv 6) (dJ K bl (pv 5))) (aq (cy 7 mf.nd (bh (iL K) (pv 5) (pv 6))) (aq (gm hI rfl (eS (K:=K) rfl (Zeg (bG hr) (pv 0) (pv 7) (dP ag) ⟨rfl,rfl,rfl,rfl⟩)) (jr (K:=K) (n:=2) rfl rfl (bX (bI 8 mf.nd) (bX (bI 9 mf.nd) jo))) (aq (aW (kC (nv (bG hr) (pv 8) (pv 4)) QU) (aq (pS (bG hr) (pv 4) (pv 8) (bh (iT K) (pv 9) (dD (bG hr) (pv 4) (pv 7) (λ_ _=>rfl)))) (au (cG (qa (K:=K) rfl (mJ kj l4 lU q0 (pv 5) (aa (pv 8) ag)))))) a_) (au (aW (bJ mI (dD (bG hr) (pv 4) (pv 8) (λ_ _=>rfl)) (bh (iT K) (pv 9) (dD (bG hr) (pv 4) (pv 7) (λ_ _=>rfl)))) (au (aL mF)) a_)))) (au (B6 (i:=6) mf.nd rfl (gR rfl) aM JA))))) (aq (gm hI rfl (eS (K:=K) rfl (pv 1)) (jr (K:=K) (n:=4) rfl rfl (bX (bI 10 mf.nd) (bX (bI 11 mf.nd) (bX (bI 12 mf.nd) (bX (bI 13 mf.nd) jo))))) (au (aW (PW.pt (pw_and (bJ cL (pv 11) bA) (pw_and (kC (Cd (bG hr) (pv 12) (pv 4)) QU) (pw_and1 (bJ mI (dD (bG hr) (pv 4) (pv 12) (λ_ _=>rfl)) (pv 13)))))) (au (aL mF)) a_))) (au (aL (pv 4)))))))),?_⟩;refine cC ?_;refine λfn Ek=>⟨_,rfl,_,rfl,aQ,[(.inr (av l x),.int a)],rfl,(by show 1<=15;decide),?_⟩;obtain⟨H1,sW⟩:∃H1,H1=upd (upd H fn (.dK [])) fn (.dK (p_ [] [(.inr (av l x),.int a)])):=⟨_,rfl⟩;have g1:aj H H1:=λb o e=>by rw[sW,aA (cA e Ek),aA (cA e Ek)];exact e
 have h1:H1 fn=U (.dK (gN l [(x,a)])):=by rw[sW,aQ];rfl
 rw[←sW];refine cC ?_;refine⟨_,rfl,by show 1<=sizeLine;rw[c4];decide,λbK H2 AK g2 M6=>?_⟩;refine setC ?_;have Vh:=g1.free AK;have fr_ne:fn≠bK:=λz=>by rw[←z,h1] at AK;cases AK
 have sz:(10000:Nat)<=sizeLine:=by rw[c4];decide
 have hdH:=C_.dict;obtain⟨as,df,cT⟩:=id lS;have J:=c7 cT;refine ie (Zkg H F L n l d W fn bK x a) (λlP eO=>?_) ?_
 ·refine Ih (Zkf H F L n l d W fn bK x a) (muC l.length)
   ⟨[(x,a)],0,aJ,aJ,aJ,g1.trans g2,g2 _ _ h1,M6,bf0 hx Zkj,Yx _,λ_ z=>absurd z (Wu _),rfl⟩ ?_ ?_
  ·rintro B H6 ⟨g,r,o7,o8,o9,Q,u_,pH,G,rl,cl,rfl⟩;have kl:=Rw l g;have gl:=G.len;refine⟨_,rfl,_,rfl,bK,_,rfl,.inl (ak.of pH),_,_,rfl,rfl,_,rfl,?_⟩;rw[kl];refine bF (λc=>?_) (λc=>?_)
   ·have ya:r<g.length:=by have:=eK c;omega
    obtain⟨k,v,M7⟩:∃(k:Nat) (v:Int),g[r]?=U (k,v):=⟨g[r].1,g[r].2,Yc ya⟩;have X5:(k,v)∈g:=Yh M7;have lkv:g.lookup k=U v:=mem_lookup G.nd X5;obtain⟨km,v0,vn⟩:=G.lt _ X5;have X6:=Q _ _ hdH;refine cC ?_;refine⟨_,rfl,_,rfl,bK,_,_,_,rfl,rfl,ak.of pH,Zgz M7,?_⟩;refine ie (Zkh H F L n l d W fn bK x a r k v g) (λMV sS=>?_) ?_
    ·refine⟨_,rfl,d,rfl,.inl ⟨_,.inl X6⟩,_,rfl,by show 0<=sizeLine;exact Yx _,λe0 H7 vg g7 qO=>?_⟩;have fn7:=g7 _ _ u_;have rw7:=g7 _ _ pH;have nf0:e0≠fn:=λz=>by rw[z,u_] at vg;cases vg
     have nr0:e0≠bK:=λz=>by rw[z,pH] at vg;cases vg
     obtain⟨J,T,eal,X7,Zkk,Zkl,X8⟩:∃(J:O) (T:Z O),(aZ kvs (.inr (av l k))).getD (.ref e0)=.ref J/\H7 J=U (.lst (T.map V.ref))/\J≠fn/\J≠bK/\Paired (λe (p:Nat×Z Int)=>∃u,H e=U (.tup [.str (av l p.1),.ref u])/\bN H u p.2) T (L k):=by
      rcases C_.at_ k km with⟨z1,z2⟩|⟨a1,T,w1,w2,w3,w4,w5⟩;·exact⟨e0,[],by rw[z1];rfl,qO,nf0,nr0,by rw[z2];exact .nil⟩
      ·exact⟨a1,T,by rw[w1];rfl,g7 _ _ (Q _ _ w3),cA w3 Ek,cA w3 Vh,w5⟩
     have esl:=c7 X8;refine⟨_,dE (g7 _ _ X6) rfl,J,eal,⟨_,ak.of X7⟩,kz (K:=K) (a:=J) (xs:=T.map V.ref) (CIn H F L n l d W fn bK x a r k v g J T)
      ⟨g,[],o8,o9,Q.trans g7,X7,fn7,rw7,G,by rw[Wf],λq D=>(nomatch D),rfl⟩ (λj B A _ C=>by obtain⟨_,_,_,_,_,h,_,_,_,_,_,_⟩:=C;exact ak.of h) ?_ ?_⟩
     ·rintro j w B A E ⟨R,tl,p8,p9,g8,Lj,X,lW,N,eg,jJ,rfl⟩;rw[Yf] at E;obtain⟨e,ee,rfl⟩:∃e,T[j]?=U e/\V.ref e=w:=by
       cases z:T[j]? with
       |none=>rw[z] at E;cases E
       |some c=>rw[z] at E;exact⟨c,rfl,Ym E⟩
      obtain⟨⟨y,t⟩,X9,u,he,hu⟩:=fK X8 ee;have Lk:hJ F k y t:=(ed _ _ _).mp (Yh X9);obtain⟨_,ym,ft,tl8⟩:=yT gO Lk;have M8:R.lookup k=U v:=by rw[eg];exact A3 lkv
      have vb:v<(t.length:Int):=by rw[tl8];exact vn
      have WA:=N.len;have he8:A e=U (.tup [.str (av l y),.ref u]):=g8 _ _ he;have MY:(L k).take (j+1)=(L k).take j++[(y,t)]:=by rw[Y1,X9];rfl
      refine⟨e,_,rfl,aB.of he8,rfl,_,_,rfl,bu ⟨_,_,rfl,bu ⟨rfl,?_⟩⟩⟩;refine nB (Zki H F n l d W fn bK x a r k y u R J T) (λsR iQ=>?_) ?_
      ·refine⟨_,rfl,_,rfl,fn,_,rfl,dE X (rP lV ym λp m=>(N.lt p m).1),_,rfl,?_⟩;cases ly:R.lookup y with
       |none=>
        refine dq ?_;refine⟨_,rfl,_,rfl,_,rfl,fn,.int v,rfl,dE X (by rw[rP lV km λp m=>(N.lt p m).1,M8];rfl),u,_,_,_,rfl,rfl,aB.of (g8 _ _ hu),SV v0 vb,_,rfl,_,rfl,fn,_,.inr (av l y),rfl,X,rfl,by rw[Zh9];omega,λH9 b9 e9=>?_⟩;have vn0:aZ (gN l R) (.inr (av l y))=aJ:=by rw[rP lV ym λp m=>(N.lt p m).1,ly];rfl
        rw[mj _ vn0] at e9;have vh:=b9 _ _ lW (λz=>fr_ne z.symm);refine⟨_,rfl,.inl ⟨rfl,_,ak.of vh⟩,_,rfl,bK,_,_,rfl,rfl,vh,by rw[Rw];omega,λqE AL qI=>?_⟩;refine iQ _ _ ⟨R++[(y,ap t v)],[(y,ap t v)],ap t v,λc o z=>AL _ _ (b9 _ _ (g8 _ _ z) (cA z Ek)) (cA z Vh),AL _ _ (b9 _ _ Lj Zkk) Zkl,?_,?_,N.add gO Lk M8 ly,rfl,Ov ly,rfl⟩;·rw[AL _ _ e9 fr_ne,gN,gN,Yo];rfl
        ·rw[qI,qT,qT,Yo];rfl
       |some v'=>
        refine bT (aX ?_);exact iQ _ _ ⟨R,[],v',g8,Lj,X,lW,N,by rw[Wf],ly,rfl⟩
      ·rintro B H9 ⟨sZ,M5,v',g9,Zkm,pC,vh,El,M9,lv,rfl⟩;have X_:sZ.lookup k=U v:=by rw[M9];exact A3 M8
       refine⟨_,rfl,_,rfl,fn,.int v',rfl,dE pC (by rw[rP lV ym λp m=>(El.lt p m).1,lv];rfl),_,rfl,_,rfl,_,rfl,fn,.int v,rfl,dE pC (by rw[rP lV km λp m=>(El.lt p m).1,X_];rfl),u,_,_,_,rfl,rfl,aB.of (g9 _ _ hu),SV v0 vb,rfl,_,rfl,?_⟩;refine bF (λc=>?_) (λc=>aX ?_)
       ·refine q1 (El.ZiY Lk X_ lv λz=>?_) H9 g9;rw[z] at c;simp at c
       ·have ev:v'=ap t v:=by
         by_cases z:v'=ap t v;·exact z
         ·exact absurd (by simp[z]) c
        refine⟨sZ,tl++M5,_,_,g9,Zkm,pC,vh,El,by rw[M9,eg,Jw],λq D=>?_,rfl⟩;rw[MY] at D;rcases Yv.mp D with D|D;·rw[M9];exact A3 (jJ q D)
        ·rw[Yn] at D;rw[D,lv,ev]
     ·rintro B A ⟨R,tl,p8,p9,g8,Lj,X,lW,N,eg,jJ,rfl⟩;rw[Ya,esl,Y9] at jJ;exact sS _ _ ⟨R,tl,p8,p9,g8,X,lW,N,eg,jJ,rfl⟩
    ·rintro B A ⟨R,tl,p8,p9,g8,X,lW,N,eg,jJ,rfl⟩;have rr:r<(g++tl).length:=by rw[Yj];exact zl _ ya
     have ge:(g++tl)[r]?=U (k,v):=by rw[Wa ya];exact M7
     have m5:((r:Int)+1)=((r+1:Nat):Int):=rfl
     refine⟨_,rfl,_,_,rfl,rfl,?_⟩;refine⟨⟨R,r+1,U (.str (av l k)),p8,p9,g8,X,lW,N,by rw[eg];exact rr,λr' h'=>?_,rfl⟩,?_⟩
     ·rw[eg];by_cases z:r'=r
      ·subst z;intro p m qq D;rw[ge] at m;cases m;rw[←eg];exact jJ qq D
      ·exact(cl r' (eH (fb h') z)).app (iy h' (mz ya))
     ·show l.length+1-(r+1)<l.length+1-r;omega
   ·have re:¬((r:Int)<(g.length:Int)):=λz=>c (dg z);exact eO _ _ ⟨g,r,o7,o8,o9,Q,u_,G,λr' h'=>cl r' QO,rfl⟩
  ·rintro B H6 Q1 Q2 mo ⟨v1,w1,v2,w2,v3,v4,w3,w4,v5,v6,w5,w6,v7,w7,h⟩;exact⟨v1,w1,v2,w2,v3,v4,w3,w4,v5,v6,w5,w6,v7,w7,mo _ _ h⟩
 rintro B H6 ⟨g,r,o7,o8,o9,Q,u_,G,cl,rfl⟩;refine ie (T9 l F H6 d W fn bK x a r g o7 o8 o9) (λlP eO=>?_) ?_
 ·refine⟨_,rfl,W,rfl,⟨_,ak.of (Q _ _ df)⟩,kz (K:=K) (a:=W) (xs:=as.map V.ref) (λj=>T9 l (F.take j) H6 d W fn bK x a r g o7 o8 o9)
   ⟨rfl,λc hc=>(nomatch hc),aJ,aJ,aJ,aJ,rfl⟩ (λj B A _ C=>by obtain⟨e,_⟩:=C;rw[e];exact ak.of (Q _ _ df)) ?_ ?_⟩
  ·rintro j v B A E ⟨rfl,sd,sY,pG,jK,jL,rfl⟩;rw[Yf] at E;obtain⟨c0,ec,rfl⟩:∃c0,as[j]?=U c0/\V.ref c0=v:=by
    cases e:as[j]? with
    |none=>rw[e] at E;cases E
    |some c=>rw[e] at E;exact⟨c,rfl,Ym E⟩
   obtain⟨c,jH,z,hc⟩:=fK cT ec;have mc:=Yh jH;have oj:F.take (j+1)=F.take j++[c]:=by rw[Y1,jH];rfl
   refine⟨c0,_,rfl,aB.of (Q _ _ hc),rfl,_,_,rfl,bu ⟨_,_,rfl,bu ⟨_,_,rfl,bu ⟨_,_,rfl,bu ⟨rfl,?_⟩⟩⟩⟩⟩;have ev:∀b:cm,decide (V.str c.k=V.str bB)=b->(b=af↔c.k=bB):=λb e=>by
    rw[←e,eJ];exact⟨V.str.inj,λz=>by rw[z]⟩
   have yb:(c.k=bB->∀u,g.lookup c.one=U u->u=c.aN)->∃sY pG jK jL:bq V,(A=A/\∀c∈F.take (j+1),c.k=bB->∀u,g.lookup c.one=U u->u=c.aN)/\True:=λh=>⟨aJ,aJ,aJ,aJ,⟨rfl,λc' m'=>by
    rw[oj] at m';rcases Yv.mp m' with m'|m';·exact sd c' m'
    ·rw[Yn] at m';rw[m'];exact h⟩,trivial⟩
   refine⟨_,rfl,rfl,_,rfl,bF (λcc=>?_) (λcc=>?_)⟩
   ·have sk:=(ev _ rfl).mp cc;have eo:kV (bg l c)=.int c.aN:=by rw[kT sk];rfl
    refine⟨_,rfl,_,rfl,fn,_,rfl,dE u_ (rP lV (gO c mc).one λp m=>(G.lt p m).1),_,rfl,?_⟩;cases lk:g.lookup c.one with
    |none=>
     refine bT (bT (aX ?_));obtain⟨_,_,_,_,⟨_,h⟩,_⟩:=yb λ_ u e=>by rw[lk] at e;cases e
     exact⟨rfl,h,_,_,_,_,rfl⟩
    |some u=>
     refine dq ?_;refine⟨_,rfl,_,rfl,fn,.int u,rfl,dE u_ (by rw[rP lV (gO c mc).one λp m=>(G.lt p m).1,lk];rfl),_,rfl,by rw[eo];rfl,_,rfl,bF (λc2=>?_) (λc2=>aX ?_)⟩
     ·refine q1 (G.Zh5 mc sk lk λz=>?_) A Q;rw[z,eo] at c2;simp at c2
     ·have eu:u=c.aN:=by
       by_cases z:u=c.aN;·exact z
       ·exact absurd (by rw[eo];simp[z]) c2
      obtain⟨_,_,_,_,⟨_,h⟩,_⟩:=yb λ_ u' e=>by rw[lk] at e;rw[←Ym e];exact eu
      exact⟨rfl,h,_,_,_,_,rfl⟩
   ·refine bT (aX ?_);obtain⟨_,_,_,_,⟨_,h⟩,_⟩:=yb λz=>absurd ((ev _ rfl).mpr z) cc;exact⟨rfl,h,_,_,_,_,rfl⟩
  ·rintro B A ⟨rfl,sd,sY,pG,jK,jL,rfl⟩;rw[Ya,J,Y9] at sd;exact eO _ _ ⟨rfl,sd,sY,pG,jK,jL,rfl⟩
 rintro B A ⟨rfl,sd,sY,pG,jK,jL,rfl⟩;exact⟨_,rfl,q2 fn g A Q u_ G (G.done ed cl sd)⟩
inductive Ck(i:Z V)(H:Hp)(Q:VK)(E:XK):Prop
 |mk (h g:O) (a:bC) (b e:Z Int) (F:Z Fc) (x:Nat) (t:i=[.ref h,.ref g,.str (av a x)]) (s:FL H a h F) (m:gS H g b e) (j:(a.map (·.1)).Nodup) (q:∀c∈F,eI b e a.length c) (r:b.length<=8) (o:a.length<=100) (n:F.length<=64) (l:x<a.length) (k:∀(p:O) (d:Hp),H p=aJ->aj H d->d p=U (.lst ((eQ F b.length x).map V.int))->Q (.ref p) d)
inductive Rx(g:Z V)(H:Hp)(Q:VK)(E:XK):Prop
 |mk (a b:O) (d c:Z Int) (l:g=[.ref a,.ref b]) (k:bN H a d) (i:bN H b c) (j:oP d c) (h:∀(p:O) (e:Hp),H p=aJ->aj H e->gS e p d c->Q (.ref p) e)
abbrev zJ:Z ar:=["_law_facts","_law_turns_here","_law_name_here"]
def NY:aT ["_law_facts","_law_turns_here","_law_name_here","_law_nets_here"] zJ (aO GZ):=.a9
open Classical in
def ZgA(F:aR K "_law_room" "_law_room" GZ f fd)(Hk:HasFn P w K mg I 2 "_law_nets" Lh SU)(FQ:HasFn P w K mg I 1 "_law_carried" Li Pj)(R:Bl mg):aI P w K mg I aP 3 f fd zJ Ck:=by
 refine F.o NY λs H l h=>?_;obtain⟨N,v,y,t,X,F,x,rfl,B,E,A,J,j,Vg,W,hx,q⟩:=h;refine⟨_,(aq (ig (i:=3) NY.nd rfl (kv rfl) (aV Hk l (aa (pv 0) (aa (pv 1) ag)))) (au (aL (iZ (x:="_law_at") (fr:=[("_law_nets_here",3),("_law_name_here",2),("_law_facts",0)]) (cl:=[("_law_nets_here",s.heap.objs.size+1+1+1),("_law_name_here",s.heap.objs.size+1+1),("_law_facts",s.heap.objs.size+1)]) rfl (.f_ ⟨rfl,⟨rfl,⟨rfl,trivial⟩⟩⟩ ⟨⟨rfl,.inl rfl,.inl rfl,rfl⟩,⟨⟨rfl,.inl rfl,.inl rfl,rfl⟩,⟨⟨rfl,.inl rfl,.inl rfl,rfl⟩,trivial⟩⟩⟩) (pO rfl R.kB (aa (dJ K R (dD (bG l) (pv 1) bA (λ_ _=>rfl))) ag)) (λ_ _ _ _=>wy (bJ BE (Ko FQ l (by decide) rfl (aa (pv 1) (aa (pv 3) (aa (pv 2) (aa (pv 0) ag))))) mF)) (λ_ _ _ _=>(pv 0)))))),?_⟩;refine cC ?_;refine⟨_,rfl,_,rfl,N,v,y,t,X,F,rfl,B,E,A,J,j,W,λd k L H1 a C_ ed=>?_⟩;obtain⟨_,_,_,u,fq,_,_,_,r⟩:=id E;obtain⟨n,Q⟩:∃n,n=t.length:=⟨_,rfl⟩;have gO:=λc hc=>by exact Q▸(J c hc).ok
 rw[←Q] at r j q;have ul:((bH n).map V.int).length=n:=by rw[Ya,fS]
 refine⟨_,rfl,v,.ref u,rfl,dE (a _ _ fq) rfl,u,_,rfl,.inr (aB.of (a _ _ r)),?_⟩;rw[ul];refine⟨(n:Int),rfl,QO,QO,λD G=>?_⟩;refine Zbh QO G (λi=>decide (∃g,jt n F g/\g x=U (i:Int))) (λi=>V.int (i:Int)) (λi hi T b _ Kt Kf kt kf=>?_) λT b h2=>?_
 ·rw[Aj];have sM:(i:Nat)<n:=QO
  refine⟨_,rfl,_,rfl,_,rfl,_,rfl,H,d,N,k,L,n,y,F,x,(i:Int),rfl,A,C_.same b,ed,(B.same a).same b,gO,j,Vg,W,hx,⟨(qp _),QO⟩,λno o m=>?_,λp gg o m D2 bf cl=>?_⟩
  ·refine⟨rfl,_,rfl,?_⟩;rw[dg (rfl)];exact bT (kf o (g_ no) m)
  ·refine⟨rfl,_,rfl,?_⟩;rw[g_ (λz=>nomatch z)];exact dq ⟨_,rfl,kt _ o (dg ⟨_,cl,bf.hd⟩) m rfl⟩
 ·refine q D T (a.free G) (a.trans b) ?_;rw[h2,Y6];have e:eQ F n x=((List.range n).filter λi:Nat=>decide (∃g,jt n F g/\g x=U (i:Int))).map λi:Nat=>(i:Int):=by
   unfold eQ bH;rw[D3];rfl
  rw[e,Y7];rfl
abbrev Ll:Z ar:=["_law_mother","_law_wife"]
def F_:aT ["_law_mother","_law_wife","_law_father","_law_alone"] Ll (aO Gr):=.a9
def Ze4(F:aR K "_law_turns" "_law_turns" Gr f fd)(N:HasFn P w K mg I 1 "_law_inverse" zI KJ)(GK:HasFn P w K mg I 1 "_law_after" C9 (T4 K))(G:Bl mg):aI P w K mg I aP 2 f fd Ll Rx:=by
 refine F.o F_ λs H A h=>?_;obtain⟨a,b,j,r,rfl,B,T,gl,q⟩:=h;obtain⟨fx,fy,Q,l2,R⟩:=id gl;refine⟨_,(aq (cy 2 F_.nd (aV GK A (aa (pv 1) (aa (pv 0) ag)))) (aq (cy 3 F_.nd (fU (ZN rfl) rfl G.oE oA (aa (fU FX rfl G.kB wj (aa (dJ K G (pv 0)) ag)) ag))) (au (aL (BP (kU bA (aV N A (aa (pv 0) ag)) (kU bA (aV N A (aa (pv 2) ag)) (kU bA (pv 1) (kU bA (pv 3) BO)))) rfl rfl (λz=>nomatch z) (Ju rfl)))))),?_⟩;refine cC ?_;have lv:∀x∈r,0<=x/\x<(j.length:Int):=λx hx=>by rw[Q];exact rE fy hx
 refine⟨_,rfl,_,rfl,b,a,r,j,rfl,aB.of T,aB.of B,lv,QO,λl H1 nl p hl=>?_⟩;refine cC ?_;have el:(j.map V.int).length=j.length:=Ya _;refine⟨_,rfl,a,_,rfl,.inr (aB.of (p _ _ B)),_,rfl,λrg H2 nrg g2 y=>⟨rg,j.length,rfl,by rw[y,el],(dI R (by decide)),λst H3 DO g3 dB=>?_⟩⟩;have D:=g2.trans g3;intro d v;have E:=cK v (.dK []);have L:upd H3 d (.dK []) d=U (.dK []):=aQ;generalize upd H3 d (.dK [])=H4 at E L⊢;have YA:=D.trans E;have u:=p.trans YA;refine⟨_,rfl,a,j,rfl,u _ _ B,(lJ R (by decide)),fx,λi H5 nim g5 Mu=>?_⟩;refine⟨_,rfl,l,bQ j r,rfl,g5 _ _ (YA _ _ hl),by rw[tK];omega,Ip fx fy Q,λg k njf X Mv=>?_⟩;have m:=g5.trans X;refine⟨_,rfl,_,rfl,m _ _ L,[(.inr "mother",.ref i),(.inr "father",.ref g),(.inr "wed",.ref b),(.inr "sibling",.ref st)],rfl,by show 4<=15;decide,?_⟩;have J:aC d k (upd k d (.dK (wQ i g b st))):=aC.put (aC.of (aj.refl _));have YB:upd k d (.dK (wQ i g b st)) d=U (.dK (wQ i g b st)):=aQ;have em:p_ [] [((.inr "mother":Key),V.ref i),(.inr "father",.ref g),(.inr "wed",.ref b),(.inr "sibling",.ref st)]=wQ i g b st:=rfl;rw[em];generalize upd k d (.dK (wQ i g b st))=H7 at J YB⊢;have t:∀{c:O} {zs:Z Int},bN k c zs->c≠d:=λW z=>by rw[bN,z,m _ _ L] at W;cases W
 have n:∀{c:O} {zs:Z Int},bN k c zs->bN H7 c zs:=λh=>J _ _ h (t h);refine q d H7 (p.free (D.free v)) (λc o e=>J _ _ (m _ _ (u _ _ e)) (cA e (p.free (D.free v)))) ⟨i,g,b,st,YB,n (X _ _ Mu),n Mv,n (m _ _ (u _ _ T)),n (m _ _ (E _ _ dB))⟩
theorem FL.get(h:FL H i o F):∃b:Z O,H o=U (.lst (b.map V.ref))/\b.length=F.length/\∀(d:Hp) (j:Nat) (v:V),aj H d->(b.map V.ref)[j]?=U v->∃(a:O) (c:Fc) (z:Int),v=.ref a/\F[j]?=U c/\F.take (j+1)=F.take j++[c]/\d a=U (.tup [.int z,.str c.k,.str (av i c.one),kV (bg i c)]):=by
 obtain⟨b,q,l⟩:=h;refine⟨b,q,c7 l,λd j v g m=>?_⟩;rw[Yf] at m;obtain⟨a,p,rfl⟩:∃a,b[j]?=U a/\V.ref a=v:=by
  cases e:b[j]? with
  |none=>simp_all
  |some c=>simp_all
 obtain⟨c,k,z,n⟩:=fK l p;exact⟨a,c,z,rfl,k,by rw[Y1,k];rfl,g _ _ n⟩
def ir(b:bC)(k a:ar)(o:V)(c:Fc):cm:=decide (c.k=k)&&((decide (av b c.one=a)&&(decide (kV (bg b c)=o)||cM k))||(decide (k="sibling")&&(decide (kV (bg b c)=.str a)&&decide (V.str (av b c.one)=o))))
def kZ(b:bC)(F:Z Fc)(k a:ar)(o:V):cm:=F.any (ir b k a o)||(decide (k="sibling")&&decide (V.str a=o))
def Bt(t:TT)(c:St)(H:Hp)(b:cm):Prop:=∀k:cm->Hp->Prop,(∀a,aj H a->k b a)->t c H k
def Vt(t:TE)(b:St)(H:Hp)(v:V):Prop:=∀k:VK,(∀a,aj H a->k v a)->t b H k
theorem Bt.and(h:Bt t σ H a)(g:∀d,a=af->aj H d->Bt u σ d b):Bt (Uo t u) σ H (a&&b):=λk e=>h _ λl c=>by
 cases a with
 |true=>exact dq (g l rfl c _ λj i=>e j (c.trans i))
 |false=>grind
theorem Bt.or(h:Bt t σ H a)(g:∀d,a=a7->aj H d->Bt u σ d b):Bt (Vu t u) σ H (a||b):=λk e=>h _ λl c=>by
 cases a with
 |true=>grind
 |false=>exact bT (g l rfl c _ λj i=>e j (c.trans i))
def Vt.var(h:σ[i]?=U (U x)):Vt (gn i) σ H x:=λ_ a=>⟨x,h,a H (aj.refl _)⟩
def Vt.c:Vt (tC x) σ H x:=λ_ a=>a H (aj.refl _)
def Vt.test(h:Vt d σ H (.bl b)):Bt (Km d) σ H b:=λk a=>h _ λe c=>⟨b,rfl,a e c⟩
def Vt.eq(g:Vt j σ H x)(e:∀b,aj H b->Vt i σ b y)(c:zp x y=af):Vt (jC Vy j i) σ H (.bl (decide (x=y))):=λk d=>g _ λm a=>e m a _ λl h=>⟨c,d l (a.trans h)⟩
def Vt.ne(g:Vt j σ H x)(e:∀b,aj H b->Vt i σ b y)(c:zp x y=af):Vt (jC Vz j i) σ H (.bl (!decide (x=y))):=λk d=>g _ λm a=>e m a _ λl h=>⟨c,d l (a.trans h)⟩
theorem Vt.Vi(i:Vt m σ H (.bl a))(h:∀g,a=af->aj H g->Vt l σ g (.bl b)):Vt (S_ m l) σ H (.bl (a&&b)):=λk d=>i _ λe c=>⟨a,rfl,by
 cases a with
 |true=>exact dq (h e rfl c _ λn j=>d n (c.trans j))
 |false=>exact bT (d e c)⟩
theorem Vt.orV(h:Vt l σ H (.bl a))(g:∀d,a=a7->aj H d->Vt j σ d (.bl b)):Vt (Up l j) σ H (.bl (a||b)):=λk e=>h _ λn c=>⟨a,rfl,by
 cases a with
 |true=>simp_all
 |false=>exact bT (g n rfl c _ λm i=>e m (c.trans i))⟩
def Vt.KL(c:Vt h σ H (.str k)):Vt (jC (zV K a7) h (zg (iJ (tC (V.str "mother")) (iJ (tC (V.str "father")) jX)))) σ H (.bl (cM k)):=λq b=>c _ λl g=>by
 refine⟨by show 2<=sizeLine;rw[c4];decide,λp i j d a=>⟨p,_,rfl,.inr (aB.of a),rfl,rfl,?_⟩⟩;have e:gI (V.str k) [V.str "mother",V.str "father"]=cM k:=by
  rw[We];unfold gI cM;rw[Jh,Jh,List.any_nil,vm,Em,Em,eJ,eJ];show((("mother":ar)==k)=af\/(("father":ar)==k)=af)↔_
  grind
 exact e▸b i (g.trans d)
def Flat(o:V):Prop:=(∃z,o=.int z)\/∃z,o=.str z
theorem B5(k:Key):Flat (kV k):=by
 cases k with
 |inl z=>exact .inl ⟨z,rfl⟩
 |inr z=>exact .inr ⟨z,rfl⟩
def Bm(b:Flat u)(a:Flat v):zp u v=af:=by
 rcases b with⟨_,rfl⟩|⟨_,rfl⟩<;>rcases a with⟨_,rfl⟩|⟨_,rfl⟩<;>rfl
inductive Qr(b:Z V)(H:Hp)(Q:VK):Prop
 |mk (d:O) (c:bC) (F:Z Fc) (k a:ar) (o:V) (i:b=[.ref d,.str k,.str a,o]) (h:FL H c d F) (g:Flat o) (q:∀e,aj H e->Q (.bl (kZ c F k a o)) e):Qr b H Q
def Ry:Sp:=λa H Q _=>Qr a H Q
inductive Rz(d:Z V)(H:Hp)(Q:VK)(E:XK):Prop
 |mk (b:O) (a:bC) (k:ar) (i j:Nat) (n:d=[.ref b,.str k,.str (av a i),.str (av a j)]) (g:H b=U (.dK (h_ a))) (e:(a.map (·.1)).Nodup) (m:i<a.length) (l:j<a.length) (h:k="mother"\/k="father"\/k="wed"\/k="sibling") (q:∀c,aj H c->Q (.bl (jR k (dF a i) (dF a j))) c)
def Bz(j:bW xs q b):y∈iq b a↔∃c∈b.F,cM c.k=af/\av b.ps c.one=a/\kV (bg b.ps c)=.str y:=by
 constructor
 ·intro h;obtain⟨v,l,rfl⟩:=Ye.mp (h);unfold qb at l;obtain⟨k,_,e⟩:=Jq.mp l;obtain⟨p,g,d,s,i,rfl,r⟩:=Rp j e;have m:p.2.k≠bB:=λz=>by
   rw[z] at d;exact absurd d QK
  exact⟨p.2,Ye.mpr ⟨p,g,rfl⟩,d,i,by rw[iF m];rfl⟩
 ·rintro⟨c,o,d,rfl,i⟩;obtain⟨p,g,rfl⟩:=Ye.mp (o);have n:(([.inr p.2.k,.inr (av b.ps p.2.one)]:Z Key),kV (bg b.ps p.2))∈cP b.ps b.fs:=Ye.mpr ⟨p,Y5.mpr ⟨g,d⟩,rfl⟩;have e:=Rh j.pr n;refine Ye.mpr ⟨.str y,?_,rfl⟩;unfold qb;refine Jq.mpr ⟨p.2.k,?_,by rw[e,i]⟩;unfold cM at d;rw[Em,eJ,eJ] at d;rcases d with z|z<;>rw[z];·exact Yk
  ·exact Yw _ Yk
structure yd(b:BS)(a:ar)(ks:Z ar):Prop where
 nd:ks.Nodup
 sd:∀k∈ks,gf b a k
 ma:a∈ks
def yd.len(u:yd b a e)(c:bW xs h b)(d:a∈b.ps.map (·.1)):e.length<=b.ps.length:=by
 have:=u.nd.length_le_of_subset λk g=>By c d (u.sd k g)
 simp_all
theorem yd.all(u:yd b a c)(j:∀r,r<c.length->∀k,c[r]?=U k->∀p∈iq b k,p∈c)(z:ar):z∈c↔gf b a z:=by
 refine⟨u.sd z,λh=>?_⟩;induction h with
 |refl=>exact u.ma
 |step _ g e=>
  obtain⟨r,d,i⟩:=W0.mp e;exact j r d _ (by rw[Yc d,i]) _ g
inductive Vj(i:Z V)(H:Hp)(Q:VK)(E:XK):Prop
 |mk (e:O) (h g:Z Int) (b:BS) (a:ar) (l:i=[.ref e,.str a]) (k:FL H b.ps e b.F) (ok:bW h g b) (j:a∈b.ps.map (·.1)) (q:∀(p:O) (d:Z ar) (c:Hp),aj H c->c p=U (.lst (d.map V.str))->(∀z,z∈d↔gf b a z)->Q (.ref p) c)
def muU(m:Nat):St->Hp->Nat:=λa _=>match List.getD (α:=bq V) a 3 aJ with|some (V.int z)=>m+1-z.toNat|_=>0
inductive YC(H:Hp)(b:BS)(a:ar)(l d:O)(i:St)(h:Hp):Prop
 |mk (c:Z ar) (r:Nat) (q o n m:bq V) (g:aj H h) (u:h d=U (.lst (c.map V.str))) (s:yd b a c) (t:r<=c.length) (v:∀j,j<r->∀k,c[j]?=U k->∀p∈iq b k,p∈c) (e:i=[U (.ref l),U (.str a),U (.ref d),U (.int (r:Int)),q,o,n,m]):YC H b a l d i h
inductive Na(H:Hp)(b:BS)(a:ar)(n h:O)(r:Nat)(m:Z ar)(k:ar)(j:Nat)(l:St)(i:Hp):Prop
 |mk (d o:Z ar) (t s q p:bq V) (g:aj H i) (v:i h=U (.lst (d.map V.str))) (u:yd b a d) (x:d=m++o) (z:∀c∈b.F.take j,cM c.k=af->av b.ps c.one=k->∀y,kV (bg b.ps c)=.str y->y∈d) (e:l=[U (.ref n),U (.str a),U (.ref h),U (.int (r:Int)),t,s,q,p]):Na H b a n h r m k j l i
def Zcz(h:Flat o):jS o=af:=by
 rcases h with⟨_,rfl⟩|⟨_,rfl⟩<;>rfl
def Pk(a:Z ar):(a.map V.str).all jS=af:=by
 rw[Wv];intro v b;obtain⟨k,_,rfl⟩:=Ye.mp b;rfl
def Lm(y:ar)(ks:Z ar):gI (.str y) (ks.map V.str)=af↔y∈ks:=by
 unfold gI;rw[J1];constructor
 ·rintro⟨v,a,e⟩;obtain⟨k,b,rfl⟩:=Ye.mp a;have:(k==y)=af:=e
  simp_all
 ·intro h;exact⟨.str y,Ye.mpr ⟨y,h,rfl⟩,by show(y==y)=af;rw[beq_iff_eq]⟩
abbrev Ln:Z ar:=["_law_facts","_law_kind","_law_one","_law_other"]
def yw:aT ["_law_facts","_law_kind","_law_one","_law_other","_law_number","_law_had","_law_here","_law_there"] Ln (aO G1):=.a9
def Zbx(F:aR K "_law_told" "_law_told" G1 f fd):aI P w K mg I aP 1 f fd Ln Ry:=by
 refine F.o yw λs H hr h=>?_;obtain⟨y,i,F,k,a,o,rfl,J,B,q⟩:=h;refine⟨_,(aq (gm hI rfl (eS rfl (pv 0)) (jr rfl rfl (bX (bI 4 yw.nd) (bX (bI 5 yw.nd) (bX (bI 6 yw.nd) (bX (bI 7 yw.nd) jo))))) (aq (aW (PW.pt (pw_and (bJ cL (pv 5) (pv 1)) (pw_and (bJ cL (pv 6) (pv 2)) (pw_and1 (PW.pt (pw_or (bJ cL (pv 7) (pv 3)) (pw_or1 (ic (mZ rfl) (pv 1) (dX (aa bA (aa bA ag))) QU)))))))) (au (aL i8)) a_) (au (aW (PW.pt (pw_and (bJ cL (pv 5) (pv 1)) (pw_and (bJ cL (pv 1) bA) (pw_and (bJ cL (pv 7) (pv 2)) (pw_and1 (bJ cL (pv 6) (pv 3))))))) (au (aL i8)) a_)))) (au (aL (rG (fN cL (pv 1) bA) (oG (fN cL (pv 2) (pv 3))))))),?_⟩;obtain⟨as,E,al,T⟩:=J.get;refine ie (λd l=>aj H l/\F.any (ir i k a o)=a7/\∃r p n m:bq V,d=[U (.ref y),U (.str k),U (.str a),U o,r,p,n,m]) (λlP W=>?_) ?_
 ·refine⟨_,rfl,y,rfl,⟨_,ak.of E⟩,kz (λj d l=>aj H l/\(F.take j).any (ir i k a o)=a7/\∃r p n m:bq V,d=[U (.ref y),U (.str k),U (.str a),U o,r,p,n,m])
   ⟨aj.refl _,rfl,aJ,aJ,aJ,aJ,rfl⟩ (λj d l _ C=>by obtain⟨g,_⟩:=C;exact ak.of (g _ _ E)) ?_ ?_⟩
  ·rintro j v d l Q ⟨g,no,r,p,n,m,rfl⟩;obtain⟨X,c,z,rfl,L,G,R⟩:=T l j v g Q;have x:ir i k a o c=af->kZ i F k a o=af:=λh=>by
    unfold kZ;rw[J1.mpr ⟨c,Yh L,h⟩];rfl
   refine⟨X,_,rfl,aB.of R,rfl,_,_,rfl,bu ⟨_,_,rfl,bu ⟨_,_,rfl,bu ⟨_,_,rfl,bu ⟨rfl,?_⟩⟩⟩⟩⟩;refine nB (λd u=>aj H u/\(decide (c.k=k)&&(decide (av i c.one=a)&&(decide (kV (bg i c)=o)||cM k)))=a7/\d=[U (.ref y),U (.str k),U (.str a),U o,U (.int z),U (.str c.k),U (.str (av i c.one)),U (kV (bg i c))]) (λsR N=>?_) ?_
   ·refine(Bt.and (Vt.test (Vt.eq (Vt.var rfl) (λ_ _=>Vt.var rfl) rfl)) λ_ _ _=>Bt.and (Vt.test (Vt.eq (Vt.var rfl) (λ_ _=>Vt.var rfl) rfl)) λ_ _ _=>Bt.or (Vt.test (Vt.eq (Vt.var rfl) (λ_ _=>Vt.var rfl) (Bm (B5 _) B))) λ_ _ _=>Vt.test (Vt.KL (Vt.var rfl))) _ λu t=>?_;rw[e_,e_];refine bF (λb=>?_) (λb=>?_)
    ·have:=x (by unfold ir;rw[Wp] at b⊢;exact⟨b.1,by rw[b.2];rfl⟩);rw[this] at q;exact q u (g.trans t)
    ·exact aX (N _ _ ⟨g.trans t,W3.mpr b,rfl⟩)
   ·rintro d u ⟨t,A,rfl⟩;refine(Bt.and (Vt.test (Vt.eq (Vt.var rfl) (λ_ _=>Vt.var rfl) rfl)) λ_ _ _=>Bt.and (Vt.test (Vt.eq (Vt.var rfl) (λ_ _=>Vt.c) rfl)) λ_ _ _=>Bt.and (Vt.test (Vt.eq (Vt.var rfl) (λ_ _=>Vt.var rfl) (Bm (B5 _) (.inr ⟨_,rfl⟩)))) λ_ _ _=>Vt.test (Vt.eq (Vt.var rfl) (λ_ _=>Vt.var rfl) (Bm (.inr ⟨_,rfl⟩) B))) _ λH8 D=>?_;rw[e_,e_];refine bF (λb=>?_) (λb=>aX ?_)
    ·have:=x (by unfold ir;rw[Wp] at b⊢;exact⟨b.1,by rw[b.2,Bool.or_true]⟩);rw[this] at q;exact q H8 (t.trans D)
    ·refine⟨t.trans D,?_,_,_,_,_,rfl⟩;rw[G,List.any_append,no,DE,Jh,List.any_nil,vm];unfold ir;rw[Bool.and_or_distrib_left,A,DE];exact W3.mpr b
  ·rintro d l ⟨g,no,r,p,n,m,rfl⟩;rw[Ya,al,Y9] at no;exact W _ _ ⟨g,no,r,p,n,m,rfl⟩
 rintro d l ⟨g,no,r,p,n,m,rfl⟩;refine(Vt.Vi (Vt.eq (Vt.var rfl) (λ_ _=>Vt.c) rfl) λ_ _ _=>Vt.eq (Vt.var rfl) (λ_ _=>Vt.var rfl) (Bm (.inr ⟨_,rfl⟩) B)) _ λu t=>?_;have e:=q u (g.trans t);unfold kZ at e;rw[no,DE] at e;rwa[e_]
abbrev Dc:Z ar:=["_law_sides","_law_kind","_law_one","_law_other"]
def ZaY:aT Dc Dc (aO Gs):=.a9
def ZaZ(F:aR K "_law_sided" "_law_sided" Gs f fd):aI P w K mg I aP 1 f fd Dc Rz:=by
 refine F.o ZaY λs H l h=>?_;obtain⟨g,m,k,i,j,rfl,p,n,x,t,d,q⟩:=h;refine⟨_,(aq (aW (bJ cL (pv 1) bA) (au (aL (fN cL (dD (bG l) (pv 0) (pv 3) (λ_ _=>rfl)) bA))) a_) (aq (aW (bJ cL (pv 1) bA) (au (aL (fN cL (dD (bG l) (pv 0) (pv 3) (λ_ _=>rfl)) bA))) a_) (au (aL (Kl (fN mI (pv 1) bA) (oG (rG (fN cL (dD (bG l) (pv 0) (pv 2) (λ_ _=>rfl)) bA) (oG (fN cL (dD (bG l) (pv 0) (pv 3) (λ_ _=>rfl)) bA))))))))),?_⟩;have u:=dE p (oB n t);refine⟨_,rfl,rfl,_,rfl,?_⟩;rw[e_];refine bF (λc=>?_) (λc=>aX ?_)
 ·have e:k="mother":=eK c;refine⟨_,rfl,_,rfl,g,_,rfl,u,rfl,?_⟩;rw[e_];unfold jR at q;rw[bS e] at q;exact q H (aj.refl _)
 have o:k≠"mother":=λz=>c (dg z);refine⟨_,rfl,rfl,_,rfl,?_⟩;rw[e_];refine bF (λc=>?_) (λc=>aX ?_)
 ·have e:k="father":=eK c;refine⟨_,rfl,_,rfl,g,_,rfl,u,rfl,?_⟩;rw[e_];unfold jR at q;rw[bR o,bS e] at q;exact q H (aj.refl _)
 have r:k≠"father":=λz=>c (dg z);have B:(!decide (k="wed"))=decide (k="sibling"):=by
  rcases d with z|z|z|z;·exact absurd z o
  ·exact absurd z r
  ·rw[z];decide+kernel
  ·rw[z];decide+kernel
 refine(Vt.orV (a:=decide (k="sibling")) (b:=decide (dF m i="man")&&decide (dF m j="woman")) ?_ λG _ v=>Vt.Vi (a:=decide (dF m i="man")) ?_ λE _ y=>?_) _ λD A=>?_
 ·rw[←B,←e_];exact Vt.ne (Vt.var rfl) (λ_ _=>Vt.c) rfl
 ·rw[←e_];exact Vt.eq (λk d=>⟨_,rfl,_,rfl,g,_,rfl,dE (v _ _ p) (oB n x),d _ (aj.refl _)⟩) (λ_ _=>Vt.c) rfl
 ·rw[←e_];exact Vt.eq (λk d=>⟨_,rfl,_,rfl,g,_,rfl,dE (y _ _ (v _ _ p)) (oB n t),d _ (aj.refl _)⟩) (λ_ _=>Vt.c) rfl
 ·unfold jR at q;rw[bR o,bR r] at q;exact q D A
abbrev Lo:Z ar:=["_law_facts","_law_name_here"]
def rh:aT ["_law_facts","_law_name_here","_law_row_here","_law_at","_law_number","_law_kind","_law_one","_law_other"] Lo (aO Io):=.a9
def ZdA(F:aR K "_law_up" "_law_up" Io f fd)(bl:Bl mg):aI P w K mg I aP 1 f fd Lo Vj:=by
 refine F.o rh λs H hr h=>?_;obtain⟨N,xs,ys,b,a,rfl,lS,ok,ma,q⟩:=h;refine⟨_,(aq (cy 2 rh.nd (dP (aa (pv 1) ag))) (aq (cy 3 rh.nd aM) (aq (Ig hI (bJ oO (pv 3) (dJ K bl (pv 2))) (aq (gm hI rfl (eS (K:=K) rfl (pv 0)) (jr (K:=K) (n:=4) rfl rfl (bX (bI 4 rh.nd) (bX (bI 5 rh.nd) (bX (bI 6 rh.nd) (bX (bI 7 rh.nd) jo))))) (au (aW (PW.pt (pw_and (ic (mZ (K:=K) rfl) (pv 5) (dX (aa bA (aa bA ag))) QU) (pw_and (bJ cL (pv 6) (bh (iL K) (pv 2) (pv 3))) (pw_and1 (ic (Cc (K:=K) rfl) (pv 7) (pv 2) QU))))) (au (cG (qa (K:=K) rfl (mJ kj l4 lU q0 (pv 2) (aa (pv 7) ag))))) a_))) (au (B6 (i:=3) rh.nd rfl (gR rfl) aM JA)))) (au (aL (pv 2)))))),?_⟩;have sz:(10000:Nat)<=sizeLine:=by rw[c4];decide
 obtain⟨as,df,al,gt⟩:=lS.get;have Nb:=ok.m;refine cC ?_;refine⟨_,rfl,by show 1<=sizeLine;decide,λm H1 AK g1 M6=>?_⟩;refine setC ?_;refine ie (λB Q=>∃ks:Z ar,aj H Q/\Q m=U (.lst (ks.map V.str))/\(∀z,z∈ks↔gf b a z)/\∃o3 o4 o5 o6 o7:bq V,B=[U (.ref N),U (.str a),U (.ref m),o3,o4,o5,o6,o7]) (λlP eO=>?_) ?_
 ·refine Ih (YC H b a N m) (muU b.ps.length) ⟨[a],0,aJ,aJ,aJ,aJ,g1,M6,⟨Y0.mpr ⟨(λz=>nomatch z),Jb⟩,λk W=>by rw[Yn.mp W];exact .refl,Yk⟩,Yx _,λr hr=>absurd hr (Wu _),rfl⟩ ?_ ?_
  ·rintro B Q ⟨ks,r,o4,o5,o6,o7,g6,T,up,rl,cl,rfl⟩;have kl:(ks.map V.str).length=ks.length:=Ya _;have gl:=up.len ok ma;refine⟨_,rfl,_,rfl,m,_,rfl,.inl (ak.of T),_,_,rfl,rfl,_,rfl,?_⟩;rw[kl];refine bF (λc=>?_) (λc=>?_)
   ·have R:r<ks.length:=by have:=eK c;omega
    obtain⟨k,ek⟩:∃k,ks[r]?=U k:=⟨_,Yc R⟩;have mk:k∈ks:=Yh ek;refine ie (Na H b a N m r ks k b.F.length) (λMV sS=>?_) ?_
    ·refine⟨_,rfl,N,rfl,⟨_,ak.of (g6 _ _ df)⟩,kz (K:=K) (a:=N) (xs:=as.map V.ref) (Na H b a N m r ks k) ⟨ks,[],o4,o5,o6,o7,g6,T,up,by rw[Wf],λc hc=>(nomatch hc),rfl⟩ (λj B H8 _ C=>by obtain⟨_,_,_,_,_,_,g,_,_,_,_,_⟩:=C;exact ak.of (g _ _ df)) ?_ ?_⟩
     ·rintro j v B H8 hj ⟨fR,tl,p4,p5,p6,p7,X,L,t,A,jJ,rfl⟩;obtain⟨c0,c,z,rfl,jH,oj,hc⟩:=gt H8 j v X hj;have mc:c∈b.F:=Yh jH;have En:fR[r]?=U k:=by rw[A,Wa R];exact ek
      have WA:=t.len ok ma;refine⟨c0,_,rfl,aB.of hc,rfl,_,_,rfl,bu ⟨_,_,rfl,bu ⟨_,_,rfl,bu ⟨_,_,rfl,bu ⟨rfl,?_⟩⟩⟩⟩⟩;refine(Bt.and (Vt.test (Vt.KL (k:=c.k) (Vt.var rfl))) λHA _ gA=>Bt.and (Vt.test (Vt.eq (x:=.str (av b.ps c.one)) (y:=.str k) (Vt.var rfl) (λHB gB kk W=>⟨_,rfl,_,rfl,m,_,_,_,rfl,rfl,ak.of (gB _ _ (gA _ _ L)),iG (by rw[Yf,En];rfl),W _ (aj.refl _)⟩) rfl)) λHB _ gB=>Vt.test (b:=!gI (kV (bg b.ps c)) (fR.map V.str)) λkk W=>⟨_,rfl,_,rfl,m,_,rfl,.inl (ak.of (gB _ _ (gA _ _ L))),Zcz (B5 _),Pk _,W _ (aj.refl _)⟩) _ λH9 g9=>?_;rw[e_];have yb:∀kO:Z ar,(∀x∈fR,x∈kO)->(cM c.k=af->av b.ps c.one=k->∀y,kV (bg b.ps c)=.str y->y∈kO)->∀c'∈b.F.take (j+1),cM c'.k=af->av b.ps c'.one=k->∀y,kV (bg b.ps c')=.str y->y∈kO:=λkO sub hh c' J G E y D=>by
       rw[oj] at J;rcases Yv.mp J with J|J;·exact sub _ (jJ c' J G E y D)
       ·rw[Yn.mp J] at G E D;exact hh G E y D
      refine bF (λcc=>?_) (λcc=>aX ?_)
      ·rw[Wp,Wp,eJ] at cc;obtain⟨c1,c2,c3⟩:=cc;have ns:c.k≠bB:=λz=>by rw[z] at c1;exact absurd c1 QK
       have eo:kV (bg b.ps c)=.str (av b.ps c.aN.toNat):=by rw[iF ns];rfl
       have vh:=g9 _ _ L;refine⟨_,rfl,.inl ⟨rfl,_,ak.of vh⟩,_,rfl,m,_,_,rfl,rfl,vh,by rw[Ya];exact fI WA (fI Nb (by decide)),λqE AL qI=>?_⟩;have no:av b.ps c.aN.toNat∉fR:=λz=>by
        rw[eo,(Lm _ _).mpr z] at c3;cases c3
       refine⟨fR++[av b.ps c.aN.toNat],tl++[av b.ps c.aN.toNat],_,_,_,_,λd o e=>AL _ _ (g9 _ _ (X _ _ e)) (cA e AK),by rw[qI,Yo,eo];rfl,⟨?_,λx l=>?_,Yt _ t.ma⟩,by rw[A,Jw],yb _ (λx l=>Yt _ l) λ_ _ y hy=>?_,rfl⟩
       ·refine Wr.mpr ⟨t.nd,QS,λu hu w hw z=>?_⟩;rw[Yn] at hw;rw[z,hw] at hu;exact no hu
       ·rcases Yv.mp l with l|l;·exact t.sd x l
        ·rw[Yn.mp l];exact .step (t.sd k (Yh En)) ((Bz ok).mpr ⟨c,mc,c1,c2,eo⟩)
       ·rw[eo] at hy;rw[←V.str.inj hy];exact Yu _ Yk
      ·refine⟨fR,tl,_,_,_,_,X.trans g9,g9 _ _ L,t,A,yb _ (λ_ h=>h) λG E y D=>?_,rfl⟩;rw[G,AE,dg E,AE,D] at cc;by_cases z:y∈fR;·exact z
       ·exact absurd (by rw[W3.mpr (λw=>z ((Lm _ _).mp w))];rfl) cc
     ·simp_all
    ·rintro B H8 ⟨fR,tl,p4,p5,p6,p7,X,L,t,A,jJ,rfl⟩;rw[Y9] at jJ;have En:fR[r]?=U k:=by rw[A,Wa R];exact ek
     refine⟨_,rfl,_,_,rfl,rfl,?_⟩;refine⟨⟨fR,r+1,p4,p5,p6,p7,X,L,t,by rw[A,Yj];exact mz (zl _ R),λr' h' x l p hp=>?_,rfl⟩,?_⟩
     ·by_cases z:r'=r
      ·rw[z,En] at l;cases l;obtain⟨c,mc,G,E,D⟩:=(Bz ok).mp hp;exact jJ c mc G E p D
      ·rw[A,Wa (iy h' (mz R))] at l;rw[A];exact Yt _ (cl r' (eH (fb h') z) x l p hp)
     ·show b.ps.length+1-(r+1)<b.ps.length+1-r;omega
   ·have re:¬((r:Int)<(ks.length:Int)):=λz=>c (dg z);exact eO _ _ ⟨ks,g6,T,up.all (λr' h'=>cl r' QO),_,_,_,_,_,rfl⟩
  ·rintro B Q Q1 Q2 mo ⟨v1,w1,v2,w2,v3,v4,w3,w4,v5,v6,w5,w6,v7,w7,h⟩;exact⟨v1,w1,v2,w2,v3,v4,w3,w4,v5,v6,w5,w6,v7,w7,mo _ _ h⟩
 rintro B Q ⟨ks,g6,T,al,o3,o4,o5,o6,o7,rfl⟩;exact⟨_,rfl,q m ks Q g6 T al⟩
open Classical in
noncomputable def k9 (n:Nat) (b:BS) (c:Fc):ar:=if c.k≠bB/\jR c.k (dF b.ps c.one) (dF b.ps c.aN.toNat)=a7 then"wrong side" else if kZ b.ps b.F c.k (av b.ps c.one) (kV (bg b.ps c))=af then"told twice" else if cM c.k=af/\gf b (av b.ps c.aN.toNat) (av b.ps c.one) then"own elder" else if eQ (b.F++[c]) n c.one=[] then"barred" else""
inductive SW(k:Z V)(H:Hp)(Q:VK)(E:XK):Prop
 |mk (g i e h:O) (a d:Z Int) (b:BS) (c:Fc) (r:k=[.ref g,.ref i,.ref e,.ref h]) (m:H g=U (.dK (h_ b.ps))) (n:FL H b.ps i b.F) (l:gS H e a d) (o:H h=U (.tup [.str c.k,.str (av b.ps c.one),kV (bg b.ps c)])) (ok:bW a d b) (p:eI a d b.ps.length c) (q:∀j,aj H j->Q (.str (k9 a.length b c)) j)
def Zh_(b:eI xs d m c)(a:c.k≠bB):c.k="mother"\/c.k="father"\/c.k="wed"\/c.k="sibling":=by
 have h:=b.wX a
 grind
abbrev Lp:Z ar:=["_law_sides","_law_facts","_law_turns_here","_law_fact_here"]
def A4:aT ["_law_sides","_law_facts","_law_turns_here","_law_fact_here","_law_kind","_law_one","_law_other"] Lp (aO G3):=.a9
open Classical in
theorem Zby(F:aR K "_law_word" "_law_word" G3 f fd)(GL:HasFn P w K mg I 1 "_law_sided" Dc Rz)(Hm:HasFn P w K mg I 1 "_law_told" Ln Ry)(IB:HasFn P w K mg I 1 "_law_up" Lo Vj)(nj:HasFn P w K mg I 3 "_law_room" zJ Ck)(bl:Bl mg):aI P w K mg I aP 4 f fd Lp SW:=by
 refine F.o A4 λs H d h=>?_;obtain⟨v,D,A,ff,y,ys,b,c,rfl,B,Q,J,hc,ok,j,q⟩:=h;have hu:=d.t4;refine⟨_,(aq (oH (pv 3) (jr (K:=K) (n:=3) rfl rfl (bX (bI 4 A4.nd) (bX (bI 5 A4.nd) (bX (bI 6 A4.nd) jo))))) (aq (aW (bJ cL (pv 4) bA) (aq (aW (kC (nv (bG d) (pv 5) (pv 0)) QU) (au (aL bA)) a_) (au (aW (PW.pt (pw_or (bJ oO (pv 6) aM) (pw_or1 (bJ Zio (pv 6) (dJ K bl (dD (bG d) (pv 2) bA (λ_ _=>rfl))))))) (au (aL bA)) a_))) (aq (aW (kC (nv (bG d) (pv 4) (pv 2)) QU) (au (aL bA)) a_) (aq (aW (PW.pt (pw_or (kC (nv (bG d) (pv 5) (pv 0)) QU) (pw_or1 (kC (nv (bG d) (pv 6) (pv 0)) QU)))) (au (aL bA)) a_) (au (aW (i4 (eX (aV GL d (aa (pv 0) (aa (pv 4) (aa (pv 5) (aa (pv 6) ag))))))) (au (aL bA)) a_))))) (aq (aW (eX (aV Hm d (aa (pv 1) (aa (pv 4) (aa (pv 5) (aa (pv 6) ag)))))) (au (aL bA)) a_) (aq (aW (PW.pt (pw_and (ic (mZ (K:=K) rfl) (pv 4) (dX (aa bA (aa bA ag))) QU) (pw_and1 (ic (mZ (K:=K) rfl) (pv 5) (aV IB d (aa (pv 1) (aa (pv 6) ag))) QU)))) (au (aL bA)) a_) (aq (aW (bJ (R6 hu) (aV nj d (aa (bj BQ (pv 1) (dP (aa (dX (aa (bj B7 aM aM) (aa (pv 4) (aa (pv 5) (aa (pv 6) ag))))) ag))) (aa (pv 2) (aa (pv 5) ag)))) (dP ag)) (au (aL bA)) a_) (au (aL bA))))))),?_⟩;have sz:(10000:Nat)<=sizeLine:=by rw[c4];decide
 have one:=j.ok.one;have o:=oB ok.nm one;refine⟨_,rfl,ff,_,rfl,aB.of hc,rfl,_,_,rfl,bu ⟨_,_,rfl,bu ⟨_,_,rfl,bu ⟨rfl,?_⟩⟩⟩⟩;dsimp only;refine nB (λσ H7=>aj H H7/\¬(c.k≠bB/\jR c.k (dF b.ps c.one) (dF b.ps c.aN.toNat)=a7)/\σ=[U (.ref v),U (.ref D),U (.ref A),U (.ref ff),U (.str c.k),U (.str (av b.ps c.one)),U (kV (bg b.ps c))]) (λsR iQ=>?_) ?_
 ·refine⟨_,rfl,rfl,_,rfl,?_⟩;rw[e_];refine bF (λcc=>?_) (λcc=>?_)
  ·have G:c.k=bB:=eK cc;have r:kV (bg b.ps c)=.int c.aN:=by rw[kT G];rfl
   refine⟨_,rfl,_,rfl,v,_,rfl,dE B o,_,rfl,bT (aX ?_)⟩;obtain⟨s0,s1⟩:=j.Le G;obtain⟨_,_,_,u0,W,_,_,_,yc⟩:=id J;refine(Bt.or (a:=decide (c.aN<0)) (b:=decide ((((bH y.length).map V.int).length:Int)<=c.aN)) (λk i=>⟨_,rfl,c.aN,0,r,rfl,_,rfl,i _ (aj.refl _)⟩) λH1 _ o k i=>⟨_,rfl,_,rfl,A,.ref u0,rfl,dE (o _ _ W) rfl,u0,_,rfl,.inr (aB.of (o _ _ yc)),c.aN,_,r,rfl,_,rfl,i _ (aj.refl _)⟩) _ λH2 m=>?_;rw[g_ (Int.not_lt_of_ge s0),g_ (by rw[Ya,fS];exact Int.not_le_of_gt s1)];exact bT (aX (iQ _ _ ⟨m,λz=>z.1 G,rfl⟩))
  ·have g:c.k≠bB:=λz=>cc (dg z);have r:kV (bg b.ps c)=.str (av b.ps c.aN.toNat):=by rw[iF g];rfl
   obtain⟨tk,u,W,vu,_⟩:=J.get (j.wX g);have m:=oB ok.nm (j.ok.gc g).1.2;refine⟨_,rfl,_,rfl,A,_,rfl,dE W vu,_,rfl,bT (aX ?_)⟩;refine(Bt.or (a:=a7) (b:=a7) (λk i=>⟨_,rfl,_,rfl,v,_,rfl,dE B o,_,rfl,i _ (aj.refl _)⟩) λH1 _ o k i=>⟨_,rfl,_,rfl,v,U (.str (dF b.ps c.aN.toNat)),rfl,(by rw[r];exact dE (o _ _ B) m),_,rfl,i _ (aj.refl _)⟩) _ λH2 m=>bT (aX ?_);refine⟨_,rfl,_,rfl,_,rfl,_,rfl,v,b.ps,c.k,c.one,c.aN.toNat,by rw[r];rfl,m _ _ B,ok.nm,one,(j.ok.gc g).1.2,Zh_ j g,λH3 g3=>⟨_,rfl,?_⟩⟩;cases es:jR c.k (dF b.ps c.one) (dF b.ps c.aN.toNat) with
   |true=>exact bT (aX (iQ _ _ ⟨m.trans g3,λz=>by rw[es] at z;exact absurd z.2 QD,rfl⟩))
   |false=>
    refine dq ?_;have e:k9 y.length b c="wrong side":=bS ⟨g,es⟩;rw[e] at q;exact q _ (m.trans g3)
 rintro σ H7 ⟨g7,nw,rfl⟩;refine⟨_,rfl,_,rfl,_,rfl,_,rfl,D,b.ps,b.F,c.k,av b.ps c.one,kV (bg b.ps c),rfl,Q.same g7,B5 _,λH8 g8=>⟨_,rfl,?_⟩⟩;have Nc:=g7.trans g8;unfold k9 at q;rw[bR nw] at q;refine bF (λX=>?_) (λX=>aX ?_)
 ·rw[bS X] at q;exact q _ Nc
 rw[bR X] at q;refine(Bt.and (b:=decide (gf b (av b.ps c.aN.toNat) (av b.ps c.one))) (Vt.test (Vt.KL (k:=c.k) (Vt.var rfl))) λH9 ip T k i=>?_) _ λH9 T=>?_
 ·have g:c.k≠bB:=λz=>by rw[z] at ip;exact absurd ip QK
  have r:kV (bg b.ps c)=.str (av b.ps c.aN.toNat):=by rw[iF g];rfl
  refine⟨_,rfl,_,rfl,_,rfl,D,y,ys,b,av b.ps c.aN.toNat,by rw[r];rfl,Q.same (Nc.trans T),ok,IU (j.ok.gc g).1.2,λp ks H' g' N al=>⟨p,_,rfl,.inl (ak.of N),rfl,Pk _,_,rfl,?_⟩⟩;have e:gI (V.str (av b.ps c.one)) (ks.map V.str)=decide (gf b (av b.ps c.aN.toNat) (av b.ps c.one)):=by
   rw[We,eJ,Lm,al]
  rw[e];exact i _ g'
 have E:=Nc.trans T;refine bF (λx=>?_) (λx=>aX ?_)
 ·rw[Wp,eJ] at x;rw[bS x] at q;exact q _ E
 rw[Wp,eJ] at x;rw[bR x] at q;obtain⟨as,df,cT⟩:=Q.same E;have al:=c7 cT;have fl:=ok.fl;have Fl:b.F.length=b.fs.length:=Ya _;refine⟨_,rfl,_,_,rfl,rfl,_,rfl,_,rfl,_,rfl,by show 4<=sizeLine;decide,λt Ht nt gt Nd=>⟨by show 1<=sizeLine;decide,λl Hl nl R hl=>⟨D,l,_,_,rfl,rfl,R _ _ (gt _ _ df),hl,by rw[Ya];show _+1<=_;omega,λp Hp np gp N=>⟨_,rfl,_,rfl,?_⟩⟩⟩⟩;have Nf:=(gt.trans R).trans gp;refine⟨p,A,b.ps,y,ys,b.F++[c],c.one,rfl,⟨as++[t],by rw[N,Yo];rfl,kQ (F:=Ei Hp b.ps) ⟨-1,gp _ _ (R _ _ Nd)⟩ (L2.Paired.bL cT λ_ _ ⟨z,e⟩=>⟨z,Nf _ _ e⟩)⟩,J.same (E.trans Nf),ok.nm,λc' oW=>?_,ok.gd.2.2.2.2,by have:=ok.m;exact d6 this (by decide),by rw[Yj];show _+1<=64;omega,one,λpr Hr npr gr L=>⟨by show 0<=sizeLine;decide,λe He ne ge he=>⟨pr,e,_,[],rfl,rfl,ak.of (ge _ _ L),ak.of he,_,rfl,?_⟩⟩⟩
 ·rcases Yv.mp oW with h|h
  ·obtain⟨pp,AN,rfl⟩:=Ye.mp (show c'∈b.fs.map (·.2) from h);exact ok.fg pp AN
  ·rw[Yn.mp h];exact j
 have gE:=(E.trans Nf).trans (gr.trans ge);refine bF (λcr=>?_) (λcr=>aX ?_)
 ·rw[bS (eK cr)] at q;exact q _ gE
 ·rw[bR (λz=>cr (dg z))] at q;exact q _ gE
def RA(a b:ar):(L2.rW a b=a/\L2.rX a b=b)\/(L2.rW a b=b/\L2.rX a b=a):=by
 unfold L2.rW L2.rX;by_cases d:b.cps.toList<a.cps.toList;·grind
 ·rw[bR d];by_cases c:a.cps.toList<b.cps.toList;·grind
  ·rw[bR c];have e:a=b:=by
    cases a with|mk ca=>cases b with|mk g=>
     grind
   grind
theorem Qs{b:BS}(h:kZ b.ps b.F c.k (av b.ps c.one) (kV (bg b.ps c))=a7):fP b.ps c∉b.keys/\(cM c.k=af->[.inr c.k,.inr (av b.ps c.one)]∉(cP b.ps b.fs).map (·.1))/\¬(c.k="sibling"/\V.str (av b.ps c.one)=kV (bg b.ps c)):=by
 unfold kZ at h;rw[YD] at h;obtain⟨H,D⟩:=h;have no:∀p∈b.fs,ir b.ps c.k (av b.ps c.one) (kV (bg b.ps c)) p.2=a7:=λp k=>by
  have:=Jv.mp H p.2 (Ye.mpr ⟨p,k,rfl⟩);exact W3.mpr this
 have s:∀{u v:Key},u=v->kV u=kV v:=λe=>by rw[e]
 refine⟨λG=>?_,λF k=>?_,λ⟨g,a⟩=>?_⟩
 ·obtain⟨p,k,e⟩:=Ye.mp G;have n:=no p k;have l:p.2.k=c.k->((av b.ps p.2.one=av b.ps c.one/\bg b.ps p.2=bg b.ps c)\/(c.k="sibling"/\bg b.ps p.2=.inr (av b.ps c.one)/\Sum.inr (av b.ps p.2.one)=bg b.ps c))->False:=λg a=>by
   have:ir b.ps c.k (av b.ps c.one) (kV (bg b.ps c)) p.2=af:=by
    unfold ir;rw[dg g,AE];rcases a with⟨a,d⟩|⟨a,d,J⟩;·rw[dg a,dg (s d)];rfl
    ·rw[dg a,dg (show kV (bg b.ps p.2)=.str (av b.ps c.one) by rw[d];rfl),dg (show V.str (av b.ps p.2.one)=kV (bg b.ps c) by rw[←J];rfl)];simp
   rw[this] at n;cases n
  unfold fP at e;cases j:bg b.ps p.2 with
  |inl t=>
   cases i:bg b.ps c with
   |inl o=>
    rw[j,i] at e;injection e with g e;injection e with a e;injection e with d _;exact l (Wi g) (.inl ⟨Wi a,by rw[j,i,d]⟩)
   |inr o=>
    rw[j,i] at e;unfold keyOf at e;dsimp at e;split at e
    ·injection e with g e;injection e with a e;injection e with d _;cases d
    ·injection e with g e;injection e with a e;injection e with d _;cases d
  |inr t=>
   cases i:bg b.ps c with
   |inl o=>
    rw[j,i] at e;unfold keyOf at e;dsimp at e;split at e
    ·injection e with g e;injection e with a e;injection e with d _;cases d
    ·injection e with g e;injection e with a e;injection e with d _;cases d
   |inr o=>
    rw[j,i] at e;have r:p.2.k=c.k:=by
     unfold keyOf at e;dsimp at e;split at e<;>split at e<;>(injection e with g _;exact Wi g)
    unfold keyOf at e;dsimp at e;rw[r] at e;by_cases m:c.k="sibling"
    ·rw[bS m,bS m] at e;injection e with _ e;injection e with a e;injection e with d _;have a:=Wi a;have d:=Wi d;refine l r ?_;rcases RA (av b.ps p.2.one) t with⟨A,z⟩|⟨A,z⟩<;>rcases RA (av b.ps c.one) o with⟨y,x⟩|⟨y,x⟩<;>rw[A,y] at a<;>rw[z,x] at d;·exact .inl ⟨a,by rw[j,i,d]⟩
     ·exact .inr ⟨m,by rw[j,d],by rw[i,a]⟩
     ·exact .inr ⟨m,by rw[j,a],by rw[i,d]⟩
     ·exact .inl ⟨d,by rw[j,i,a]⟩
    ·rw[bR m,bR m] at e;injection e with _ e;injection e with a e;injection e with d _;exact l r (.inl ⟨Wi a,by rw[j,i,d]⟩)
 ·obtain⟨q,B,e⟩:=Ye.mp k;unfold cP at B;obtain⟨p,k,rfl⟩:=Ye.mp B;obtain⟨E,L⟩:=Y5.mp k;have n:=no p E;injection e with g e;injection e with a _;unfold ir at n;rw[dg (Wi g),dg (Wi a),F] at n;simp at n
 ·rw[dg g,dg a] at D;cases D
def ZdB(e:bW xs i b)(o:eI xs i b.ps.length c)(h:eQ (b.F++[c]) xs.length c.one≠[]):∃f,m8 xs.length b.ps.length f/\∀c'∈b.F++[c],fW f c':=by
 obtain⟨a,m⟩:=List.exists_mem_of_ne_nil _ h;obtain⟨_,g,p,l⟩:=wa.mp m;obtain⟨t,inr,j⟩:=e.lv;have n:∀c'∈b.F++[c],dY xs.length b.ps.length c':=λc' d=>by
  rcases Yv.mp d with h|h
  ·obtain⟨k,q,rfl⟩:=Ye.mp (h);exact(e.fg k q).ok
  ·rw[Yn.mp h];exact o.ok
 obtain⟨f,s,r,_⟩:=F8 n inr (λc' d=>by
  rcases Yv.mp d with h|h;·grind
  ·rw[Yn.mp h];exact .inl rfl) p l
 grind
def IX{a:Z Int}(h:k9 a.length b c=""):¬(c.k≠bB/\jR c.k (dF b.ps c.one) (dF b.ps c.aN.toNat)=a7)/\kZ b.ps b.F c.k (av b.ps c.one) (kV (bg b.ps c))=a7/\¬(cM c.k=af/\gf b (av b.ps c.aN.toNat) (av b.ps c.one))/\eQ (b.F++[c]) a.length c.one≠[]:=by
 unfold k9 at h;by_cases g:c.k≠bB/\jR c.k (dF b.ps c.one) (dF b.ps c.aN.toNat)=a7;·rw[bS g] at h;exact absurd h QK
 rw[bR g] at h;by_cases e:kZ b.ps b.F c.k (av b.ps c.one) (kV (bg b.ps c))=af;·rw[bS e] at h;exact absurd h QK
 rw[bR e] at h;by_cases d:cM c.k=af/\gf b (av b.ps c.aN.toNat) (av b.ps c.one);·rw[bS d] at h;exact absurd h QK
 rw[bR d] at h;by_cases i:eQ (b.F++[c]) a.length c.one=[];·rw[bS i] at h;exact absurd h QK
 simp_all
def BA(g:bW xs d b)(e:eI xs d b.ps.length c)(a:b.fs.length<63)(h:k9 xs.length b c=""):C3 xs d b c:=by
 obtain⟨_,l,_,k⟩:=IX h;obtain⟨j,i,_⟩:=Qs l;exact⟨e,j,i,ZdB g e k,a⟩
def Ze5(i:bW xs d b)(o:eI xs d b.ps.length c)(a:b.fs.length<63)(h:k9 xs.length b c="")(e:c.k≠bB):KH xs d b c:=by
 obtain⟨t,n,m,_⟩:=IX h;obtain⟨s,k,j⟩:=Qs n;have g:=iF (ps:=b.ps) e;refine⟨BA i o a h,e,?_,⟨k,λ_=>⟨?_,λ⟨q,p⟩=>j ⟨q,by rw[g,p];rfl⟩⟩⟩,λl r=>m ⟨l,r⟩⟩;·grind
 ·rwa[←g]
def iW(a:bC):Z V:=a.map λp=>.str p.1
def wF(a:bC):(iW a).length=a.length:=Ya _
def SX(b:0<=z)(h:z<(a.length:Int)):d_ (iW a) z=U (.str (av a z.toNat)):=by
 obtain⟨k,rfl⟩:∃k:Nat,z=(k:Int):=⟨z.toNat,(k8 (qd b))⟩;refine iG ?_;unfold iW av
 simp_all
def zd{n:Nat}(h:0<n):0<=z % (n:Int)/\z % (n:Int)<(n:Int):=⟨W9 _ QO,Wt _ QO⟩
def Vt.IY(d:σ[i]?=U (U (.ref nl)))(c:H nl=U (.lst (iW a)))(g:0<a.length)(n:Vt e σ H (.int z)):Vt (jC (wZ K) (gn i) (jC (rI (λ_ j=>0<j) λi j=>V.int (i % j)) e (nW (zx K) (iJ (gn i) jX)))) σ H (.str (av a (z % (a.length:Int)).toNat)):=λk h=>⟨_,d,n _ λo b=>by
 have l:=wF a;have m:=zd (z:=z) g;exact⟨_,d,nl,_,rfl,.inl (ak.of (b _ _ c)),_,_,rfl,rfl,QO,nl,_,_,_,rfl,rfl,ak.of (b _ _ c),by rw[l];exact SX m.1 m.2,h o b⟩⟩
inductive SY(e:Z V)(H:Hp)(Q:VK)(E:XK):Prop
 |mk (c b:O) (a:bC) (z:Int) (s:ar) (m:e=[.ref c,.ref b,.int z,.str s]) (l:H c=U (.lst (iW a))) (k:H b=U (.dK (h_ a))) (j:(a.map (·.1)).Nodup) (h:0<a.length) (g:a.length<=100) (q:∀i,i<a.length->∀d,aj H d->Q (.str (av a i)) d)
def Ze6(a b:Z Int)(h:0<=d/\d<4):∃(k:ar) (c:Z Int) (w:ar),d_ [V.str "mother",V.str "father",V.str "wed",V.str "sibling"] d=U (.str k)/\(k,c)∈rS a b/\d_ [V.str "woman",V.str "man",V.str "woman",V.str ""] d=U (.str w):=by
 have:d=0\/d=1\/d=2\/d=3:=QO
 rcases this with rfl|rfl|rfl|rfl;·exact⟨_,inv a,_,rfl,QS,rfl⟩
 ·exact⟨_,inv (bQ a b),_,rfl,QS,rfl⟩
 ·exact⟨_,b,_,rfl,QS,rfl⟩
 ·exact⟨_,bH a.length,_,rfl,QS,rfl⟩
inductive S0(l:Z V)(H:Hp)(Q:VK)(E:XK):Prop
 |mk (j i k:O) (a:bC) (b h:Z Int) (p o n m e:Int) (z:l=[.ref j,.ref i,.ref k,.int (b.length:Int)]) (v:H j=U (.lst (iW a))) (u:H i=U (.dK (h_ a))) (t:(a.map (·.1)).Nodup) (s:0<a.length) (r:a.length<=100) (hd:H k=U (.lst ([p,o,n,m,e].map V.int))) (y:0<=e/\e<4) (x:oP b h) (q:∀c,eI b h a.length c->∀(d:O) (g:Hp),H d=aJ->aj H g->g d=U (.tup [.str c.k,.str (av a c.one),kV (bg a c)])->Q (.ref d) g)
abbrev Lq:Z ar:=["_law_names","_law_sides","_law_at","_law_side"]
def NZ:aT ["_law_names","_law_sides","_law_at","_law_side","_law_k"] Lq (aO G4):=.a9
def Zbz(F:aR K "_law_pick" "_law_pick" G4 f fd)(l:Bl mg):aI P w K mg I aP 1 f fd Lq SY:=by
 refine F.o NZ λs H Q h=>?_;obtain⟨r,p,d,z,o,rfl,v,N,L,u,X,q⟩:=h;refine⟨_,(aq (gm hI rfl (pO rfl l.kB (aa (dJ K l (pv 0)) ag)) (bI 4 NZ.nd) (au (aW (PW.pt (pw_or (bJ cL (pv 3) bA) (pw_or1 (bJ cL (dD (bG Q) (pv 1) (bh (iL K) (pv 0) (bj eP (bj iI (pv 2) (pv 4)) (dJ K l (pv 0)))) (λ_ _=>rfl)) (pv 3))))) (au (aL (bh (iL K) (pv 0) (bj eP (bj iI (pv 2) (pv 4)) (dJ K l (pv 0)))))) a_))) (au (aL (bh (iL K) (pv 0) (bj eP (pv 2) (dJ K l (pv 0))))))),?_⟩;have Ep:=wF d;have at_:∀z:Int,(z % (d.length:Int)).toNat<d.length:=λz=>by have:=zd (z:=z) u;omega
 refine ie (λc b=>aj H b/\∃g:bq V,c=[U (.ref r),U (.ref p),U (.int z),U (.str o),g]) (λlP R=>?_) ?_
 ·refine⟨_,rfl,r,_,rfl,.inl (ak.of v),_,rfl,QO,QO,Bf (lo:=0) (n:=(((iW d).length:Nat):Int).toNat) (λ_ c b=>aj H b/\∃g:bq V,c=[U (.ref r),U (.ref p),U (.int z),U (.str o),g]) ⟨aj.refl _,aJ,rfl⟩ ?_ (λc b h=>R _ _ h)⟩;rintro j c b hj ⟨a,g,rfl⟩;rw[Aj];have G:∀m,aj b m->Vt _ _ m _:=λm t=>Vt.IY (K:=K) (i:=0) (σ:=[U (.ref r),U (.ref p),U (.int z),U (.str o),U (.int (j:Int))]) (z:=z+(j:Int)) (e:=jC (su λi j=>V.int (i+j)) (gn 2) (gn 4)) rfl (t _ _ (a _ _ v)) u (λk A=>⟨_,rfl,_,rfl,_,_,rfl,rfl,A _ (aj.refl _)⟩);refine(Bt.or (Vt.test (Vt.eq (Vt.var rfl) (λ_ _=>Vt.c) rfl)) λm _ t=>Vt.test (Vt.eq (x:=.str (dF d ((z+(j:Int)) % (d.length:Int)).toNat)) (y:=.str o) (λk A=>⟨_,rfl,G m t _ λW J=>⟨p,_,rfl,dE (J _ _ (t _ _ (a _ _ N))) (oB L (at_ _)),A W J⟩⟩) (λ_ _=>Vt.var rfl) rfl)) _ λT D=>?_;refine bF (λ_=>?_) (λ_=>aX ⟨a.trans D,_,rfl⟩);exact G T D _ λE B=>q _ (at_ _) E ((a.trans D).trans B)
 rintro c b ⟨a,g,rfl⟩;exact Vt.IY (K:=K) (i:=0) (z:=z) rfl (a _ _ v) u (Vt.var rfl) _ λE B=>q _ (at_ _) E (a.trans B)
abbrev Lr:Z ar:=["_law_names","_law_sides","_law_drawn","_law_size"]
def yx:aT ["_law_names","_law_sides","_law_drawn","_law_size","_law_kind","_law_one","_law_want"] Lr (aO G5):=.a9
def ZbA(F:aR K "_law_fact" "_law_fact" G5 f fd)(Bb:HasFn P w K mg I 1 "_law_pick" Lq SY)(bl:Bl mg):aI P w K mg I aP 2 f fd Lr S0:=by
 refine F.o yx λs H Q h=>?_;obtain⟨r,p,b,c,d,ys,d0,y,d2,d3,d4,rfl,t,N,J,l,E,hd,b4,R,q⟩:=h;refine⟨_,(aq (cy 4 yx.nd (bh (iL K) (dP (aa bA (aa bA (aa bA (aa bA ag))))) (bh (iL K) (pv 2) aM))) (aq (cy 5 yx.nd (bh (iL K) (pv 0) (bj eP (bh (iL K) (pv 2) aM) (dJ K bl (pv 0))))) (aq (aW (bJ Co (bh (iL K) (pv 2) aM) aM) (au (aL (dX (aa bA (aa (pv 5) (aa (bj eP (bh (iL K) (pv 2) aM) (pv 3)) ag)))))) a_) (aq (aW (bJ cL (pv 4) bA) (au (cy 5 yx.nd (aV Bb Q (aa (pv 0) (aa (pv 1) (aa (bh (iL K) (pv 2) aM) (aa bA ag))))))) a_) (aq (cy 6 yx.nd (bh (iL K) (dP (aa bA (aa bA (aa bA (aa bA ag))))) (bh (iL K) (pv 2) aM))) (au (aL (dX (aa (pv 4) (aa (pv 5) (aa (aV Bb Q (aa (pv 0) (aa (pv 1) (aa (bh (iL K) (pv 2) aM) (aa (pv 6) ag))))) ag))))))))))),?_⟩;have sz:(10000:Nat)<=sizeLine:=by rw[c4];decide
 obtain⟨k,tn,wt,ek,e,ew⟩:=Ze6 d ys b4;have at_:∀z:Int,(z % (c.length:Int)).toNat<c.length:=λz=>by have:=zd (z:=z) l;omega
 obtain⟨_,_,_,l2,l8⟩:=id R;have A:(0:Int)<(d.length:Int):=QO
 refine cC ?_;refine⟨by show 4<=sizeLine;decide,λkl H1 nkl m DJ=>⟨_,rfl,b,_,_,_,rfl,rfl,ak.of (m _ _ hd),rfl,kl,_,_,_,rfl,rfl,ak.of DJ,ek,?_⟩⟩;refine cC ?_;have sS:=m _ _ t;refine Vt.IY (K:=K) (i:=0) (z:=y) rfl sS l (λkk e=>⟨_,rfl,b,_,_,_,rfl,rfl,ak.of (m _ _ hd),rfl,e _ (aj.refl _)⟩) _ λH2 g2=>?_;have a:=m.trans g2;refine⟨_,rfl,b,_,_,_,rfl,rfl,ak.of (a _ _ hd),rfl,_,_,rfl,rfl,_,rfl,bF (λ_=>?_) (λ_=>aX ?_)⟩
 ·refine⟨_,rfl,_,rfl,b,_,_,_,rfl,rfl,ak.of (a _ _ hd),rfl,_,rfl,_,_,rfl,rfl,A,by show 3<=sizeLine;decide,λx H3 B v o=>?_⟩;have mm:=zd (z:=d3) (n:=d.length) (iy (qG _) l2);exact q ⟨bB,(y % (c.length:Int)).toNat,d3 % (d.length:Int),[]⟩ ⟨⟨at_ _,λz=>absurd rfl z⟩,.inl rfl,λ_=>mm⟩ x H3 (a.free B) (a.trans v) (by rw[o,kT rfl];rfl)
 have G:k≠bB:=λz=>Zcq (z▸e);refine nB (λD H6=>aj H H6/\∃i:Nat,i<c.length/\D=[U (.ref r),U (.ref p),U (.ref b),U (.int (d.length:Int)),U (.str k),U (.str (av c i)),aJ]) (λsR L=>?_) ?_
 ·refine⟨_,rfl,rfl,_,rfl,bF (λ_=>?_) (λ_=>aX (L _ _ ⟨a,_,at_ _,rfl⟩))⟩;refine⟨_,rfl,_,rfl,_,rfl,b,_,_,_,rfl,rfl,ak.of (a _ _ hd),rfl,r,p,c,y,"man",rfl,a _ _ t,a _ _ N,J,l,E,λi u H3 v=>bu (L _ _ ⟨a.trans v,i,u,rfl⟩)⟩
 rintro D H6 ⟨X,i,u,rfl⟩;refine cC ?_;refine⟨by show 4<=sizeLine;decide,λwl H7 XW W zX=>⟨_,rfl,b,_,_,_,rfl,rfl,ak.of (W _ _ (X _ _ hd)),rfl,wl,_,_,_,rfl,rfl,ak.of zX,ew,?_⟩⟩;have g:=X.trans W;refine⟨_,rfl,_,rfl,_,rfl,_,rfl,_,rfl,b,_,_,_,rfl,rfl,ak.of (g _ _ hd),rfl,_,rfl,r,p,c,d2,wt,rfl,g _ _ t,g _ _ N,J,l,E,λj hj H8 T=>⟨by show 3<=sizeLine;decide,λx H9 B g9 o=>?_⟩⟩;obtain⟨ft,tl⟩:=ZeU R e;exact q ⟨k,i,(j:Int),tn⟩ ⟨⟨u,λ_=>⟨⟨by show(0:Int)<=(j:Int);exact qp _,hj⟩,ft,tl⟩⟩,.inr e,λz=>absurd z G⟩ x H9 (g.free (T.free B)) ((g.trans T).trans g9) (by rw[o,iF G];rfl)
def lX(n:Nat):Z Nat:=if n<10 then[48+n] else[48+n/10,48+n % 10]
def lY(n:Nat):ar:=.ofString (toString (n:Int))
def IZ:∀n<61,(lY n).cps.toList=lX n:=QK
def gT(k z:Nat):Nat:=if z/3 % 3=1 then 9 else(k*z+z) % 5
def lZ(m:Nat):ar:=Txt.mul "q" (m:Int)
def ZgB:∀m<10,(lZ m).cps.toList=List.replicate m 113:=QK
def vv:ar:="abcdefghijklmnopqrstuvwxyz"
def Kh:∀i<26,d_ vv.cps.toList ((i:Nat):Int)=U (97+i):=QK
def qU(i:Nat):ar:=⟨#[97+i]⟩
def dU(z k:Nat):ar:=if z % 3=0 then(qU ((k*7+z) % 26)++lY (k/26))++lZ (gT k z) else if z % 3=1 then(qU (z % 26)++lZ (gT k z))++lY ((k*17+z) % 61) else(qU (z % 26)++lY ((k*17+z) % 61))++lZ (gT k z)
def Ki(k z:Nat):gT k z<10:=by
 unfold gT;split<;>omega
def wJ(a b:ar):(a++b).cps.toList=a.cps.toList++b.cps.toList:=Array.toList_append
def Ib(z k:Nat)(a:k<60):(dU z k).cps.toList=if z % 3=0 then[97+(k*7+z) % 26,48+k/26]++List.replicate (gT k z) 113 else if z % 3=1 then(97+z % 26)::(List.replicate (gT k z) 113++lX ((k*17+z) % 61)) else(97+z % 26)::(lX ((k*17+z) % 61)++List.replicate (gT k z) 113):=by
 have f:=ZgB _ (Ki k z);unfold dU;split
 ·rw[wJ,wJ,f,IZ _ QO];unfold lX;rw[bS (by omega)];rfl
 split
 ·rw[wJ,wJ,f,IZ _ (jG _ (by decide))];rfl
 ·rw[wJ,wJ,f,IZ _ (jG _ (by decide))];rfl
def Ng(l:Z Nat):Nat:=l.foldl (λa c=>10*a+(c-48)) 0
def CB:Ng (lX n)=n:=by
 unfold lX;split
 ·exact(Nat.zero_add _).trans (Nat.add_sub_cancel_left _ _)
 ·show 10*(10*0+(48+n/10-48))+(48+n % 10-48)=n;rw[Nat.add_sub_cancel_left,Nat.add_sub_cancel_left,Nat.mul_zero,Nat.zero_add,Nat.div_add_mod]
def S1(h:n<61):∀c∈lX n,48<=c/\c<58:=by
 unfold lX;intro c m;split at m<;>simp at m<;>omega
def Bc(h:n<61):(lX n).filter (λc=>decide (c<58))=lX n:=J7.mpr λc a=>dg (S1 h c a).2
def Be(m:Nat):(List.replicate m 113).filter (λc=>decide (c<58))=[]:=by
 simp_all
def ZdC(j:k<60)(l:k'<60)(e:dU z k=dU z k'):k=k':=by
 have e:(dU z k).cps.toList=(dU z k').cps.toList:=by rw[e]
 rw[Ib z k j,Ib z k' l] at e;by_cases i:z % 3=0
 ·rw[bS i,bS i] at e;injection e with m e;injection e with a _;omega
 rw[bR i,bR i] at e;have b:(k*17+z) % 61=(k'*17+z) % 61->k=k':=λh=>QO
 by_cases g:z % 3=1
 ·rw[bS g,bS g] at e;injection e with _ e;have a:=dC (List.filter λc=>decide (c<58)) e;rw[Wm,Wm,Be,Be,Bc (jG _ (by decide)),Bc (jG _ (by decide)),WL,WL] at a;have d:=dC Ng a;rw[CB,CB] at d;exact b d
 ·rw[bR g,bR g] at e;injection e with _ e;have a:=dC (List.filter λc=>decide (c<58)) e;rw[Wm,Wm,Be,Be,Bc (jG _ (by decide)),Bc (jG _ (by decide)),Wf,Wf] at a;have d:=dC Ng a;rw[CB,CB] at d;exact b d
def S2:∀i<26,ia pW (97+i)=af/\ia nF (97+i)=af:=QK
def S3:∀i<10,ia nF (48+i)=af:=QK
def Zkp:ia nF 113=af:=QK
def ZcA(l:k<60):ql (dU z k)=af/\(dU z k).length<=12:=by
 have q:=Ki k z;have b:(List.replicate (gT k z) 113).all (ia nF)=af:=Wv.mpr λc d=>by rw[List.eq_of_mem_replicate d];exact Zkp
 have s:∀n,n<61->(lX n).all (ia nF)=af/\(lX n).length<=2:=λn j=>by
  refine⟨Wv.mpr λc d=>?_,?_⟩
  ·have:=S1 j c d;have e:=S3 (c-48) QO
   grind
  ·unfold lX;split<;>simp
 have len:(dU z k).length=(dU z k).cps.toList.length:=rfl;have c:=Ib z k l;have a:∃(i:Nat) (r:Z Nat),i<26/\(dU z k).cps.toList=(97+i)::r/\r.length<=11/\r.all (ia nF)=af:=by
  by_cases m:z % 3=0
  ·rw[bS m] at c;refine⟨_,_,(jG _ (by decide)),c,?_,?_⟩
   ·show((48+k/26)::List.replicate (gT k z) 113).length<=11
    grind
   ·show((48+k/26)::List.replicate (gT k z) 113).all (ia nF)=af;rw[Jm,b,S3 _ QO];rfl
  rw[bR m] at c;have t:=s _ (Nat.mod_lt (k*17+z) (by decide));split at c
  ·exact⟨_,_,Nat.mod_lt _ (by decide),c,by rw[Yj,List.length_replicate];exact Nat.add_le_add (Nat.le_of_lt_succ q) t.2,by rw[List.all_append,b,t.1];rfl⟩
  ·exact⟨_,_,Nat.mod_lt _ (by decide),c,by rw[Yj,List.length_replicate,Nat.add_comm];exact Nat.add_le_add (Nat.le_of_lt_succ q) t.2,by rw[List.all_append,b,t.1];rfl⟩
 obtain⟨i,r,g,e,p,o⟩:=a;have h:(dU z k).length<=12:=by
  grind
 refine⟨?_,h⟩;rw[Pf e,dg h,(S2 i g).1,Jm,(S2 i g).2,o];rfl
def ZgC:∀m<10,(lZ m).length<=9:=QK
def RB:∀n<61,(lY n).length<=2:=QK
def I0(a b:ar):(a++b).length=a.length+b.length:=Array.size_append
inductive S4(a:Z V)(H:Hp)(Q:VK)(E:XK):Prop
 |mk (k z:Nat) (d:a=[.int (k:Int),.int (z:Int)]) (c:k<60) (b:z<97) (q:Q (.str (dU z k)) H)
abbrev Ls:Z ar:=["_law_k","_law_salt"]
def yy:aT ["_law_k","_law_salt","_law_letters","_law_fill","_law_number"] Ls (aO G0):=.a9
def ZbB(F:aR K "_law_name" "_law_name" G0 f fd)(t:Bl mg):aI P w K mg I aP 1 f fd Ls S4:=by
 refine F.o yy λs H Q h=>?_;obtain⟨k,z,rfl,T,N,q⟩:=h;refine⟨_,(aq (cy 2 yy.nd bA) (aq (cy 3 yy.nd (bj Q0 bA (bj eP (bj iI (bj pZ (pv 0) (pv 1)) (pv 1)) aM))) (aq (cy 4 yy.nd (bj eP (bj iI (bj pZ (pv 0) aM) (pv 1)) aM)) (aq (aW (bJ cL (bj eP (bj BD (pv 1) aM) aM) aM) (au (cy 3 yy.nd (bj Q0 bA aM))) a_) (aq (aW (bJ cL (bj eP (pv 1) aM) aM) (au (aL (bj vS (bj vS (bh yX (pv 2) (bj eP (bj iI (bj pZ (pv 0) aM) (pv 1)) aM)) (fU FV rfl t.zf yZ (aa (bj BD (pv 0) aM) ag))) (pv 3)))) a_) (aq (aW (bJ cL (bj eP (pv 1) aM) aM) (au (aL (bj vS (bj vS (bh yX (pv 2) (bj eP (pv 1) aM)) (pv 3)) (fU FV rfl t.zf yZ (aa (pv 4) ag))))) a_) (au (aL (bj vS (bj vS (bh yX (pv 2) (bj eP (pv 1) aM)) (fU FV rfl t.zf yZ (aa (pv 4) ag))) (pv 3)))))))))),?_⟩;have E:wY (k:Int) (z:Int):=.inl ⟨QO,QO⟩;have A:∀j:Int,wY (k:Int) j:=λj=>.inl ⟨QO,QO⟩;have G:KS (z:Int) 3:=⟨(by decide),(by decide)⟩;have p:KS (k:Int) 26:=⟨(by decide),(by decide)⟩;have sz:(10000:Nat)<=sizeLine:=by rw[c4];decide
 have y:((k:Int)*17+(z:Int)) % 61=(((k*17+z) % 61:Nat):Int):=rfl
 have b:((k:Int)*7+(z:Int)) % 26=(((k*7+z) % 26:Nat):Int):=rfl
 have x:(z:Int) % 26=((z % 26:Nat):Int):=rfl
 have o:(k:Int)/26=((k/26:Nat):Int):=rfl
 have D:((k:Int)*(z:Int)+(z:Int)) % 5=(((k*z+z) % 5:Nat):Int):=by rw[Int.natCast_emod,Vk,Int.natCast_mul];rfl
 refine setC ?_;refine cC ?_;refine⟨_,rfl,_,rfl,_,_,rfl,rfl,E,_,rfl,_,_,rfl,rfl,_,_,rfl,rfl,(by decide),"q",(k*z+z) % 5,rfl,dC V.int D,QK,QO,?_⟩;refine cC ?_;refine⟨_,rfl,_,_,rfl,rfl,A _,_,rfl,_,_,rfl,rfl,_,_,rfl,rfl,(by decide),?_⟩;refine nB (λu B=>B=H/\u=[U (.int (k:Int)),U (.int (z:Int)),U (.str vv),U (.str (lZ (gT k z))),U (.int (((k*17+z) % 61:Nat):Int))]) (λJ v=>?_) ?_
 ·refine⟨_,rfl,_,_,rfl,rfl,G,_,_,rfl,rfl,(by decide),rfl,_,rfl,bF (λc=>?_) (λc=>aX ?_)⟩
  ·have c:=V.int.inj (eK c);have r:z/3 % 3=1:=QO
   have m:gT k z=9:=bS r;refine⟨"q",9,rfl,rfl,QK,(by decide),bu (v _ _ ⟨rfl,?_⟩)⟩;rw[m,←y];rfl
  ·have r:¬z/3 % 3=1:=λw=>c (dg (dC V.int QO));have m:gT k z=(k*z+z) % 5:=bR r;refine v _ _ ⟨rfl,?_⟩;rw[m,←y];rfl
 rintro u B ⟨rfl,rfl⟩;have L:=ZgC _ (Ki k z);have d:vv.length<=sizeLine:=Yz (show vv.length<=100 by decide+kernel) (by decide);have g:∀n:Nat,n<61->(n:Int).natAbs.log2<1920:=λn R=>Ji (Nat.log2_le_self _) QO;refine⟨_,rfl,_,_,rfl,rfl,(by decide),rfl,_,rfl,bF (λc=>?_) (λc=>aX ?_)⟩
 ·have a:z % 3=0:=by have:=V.int.inj (eK c);omega
  have ld:=RB (k/26) (fI (V2 _ _) (VJ T));refine⟨_,rfl,_,rfl,_,_,rfl,rfl,A _,_,rfl,_,_,rfl,rfl,_,_,rfl,rfl,(by decide),vv,_,_,rfl,dC V.int b,d,Kh _ (jG _ (by decide)),_,rfl,_,_,rfl,rfl,p,((k/26:Nat):Int),dC (λi=>[V.int i]) o,g _ (fI (V2 _ _) (VJ T)),_,_,rfl,rfl,?_,_,rfl,_,_,rfl,rfl,?_,?_⟩
  ·show 1+(lY (k/26)).length<=sizeLine;exact d6 (xM ld _) (by decide)
  ·show(qU ((k*7+z) % 26)++lY (k/26)).length+(lZ (gT k z)).length<=sizeLine;rw[I0];show 1+_+_<=_;omega
  ·have e:dU z k=(qU ((k*7+z) % 26)++lY (k/26))++lZ (gT k z):=bS a;rw[e] at q;exact q
 have a:¬z % 3=0:=λw=>c (dg (dC V.int QO));have ld:=RB ((k*17+z) % 61) (jG _ (by decide));refine⟨_,rfl,_,_,rfl,rfl,(by decide),rfl,_,rfl,bF (λc=>?_) (λc=>aX ?_)⟩
 ·have l:z % 3=1:=by have:=V.int.inj (eK c);omega
  refine⟨_,rfl,_,rfl,_,_,rfl,rfl,(by decide),vv,_,_,rfl,dC V.int x,d,Kh _ (jG _ (by decide)),_,rfl,_,_,rfl,rfl,?_,_,rfl,_,rfl,g _ (jG _ (by decide)),_,_,rfl,rfl,?_,?_⟩
  ·show 1+(lZ (gT k z)).length<=sizeLine;exact d6 (xM L _) (by decide)
  ·show(qU (z % 26)++lZ (gT k z)).length+(lY ((k*17+z) % 61)).length<=sizeLine;rw[I0];show 1+_+_<=_;omega
  ·have e:dU z k=(qU (z % 26)++lZ (gT k z))++lY ((k*17+z) % 61):=(bR a).trans (bS l);rw[e] at q;exact q
 have l:¬z % 3=1:=λw=>c (dg (dC V.int QO));refine⟨_,rfl,_,rfl,_,_,rfl,rfl,(by decide),vv,_,_,rfl,dC V.int x,d,Kh _ (jG _ (by decide)),_,rfl,_,rfl,g _ (jG _ (by decide)),_,_,rfl,rfl,?_,_,rfl,_,_,rfl,rfl,?_,?_⟩
 ·show 1+(lY ((k*17+z) % 61)).length<=sizeLine;exact d6 (xM ld _) (by decide)
 ·show(qU (z % 26)++lY ((k*17+z) % 61)).length+(lZ (gT k z)).length<=sizeLine;rw[I0];show 1+_+_<=_;omega
 ·have e:dU z k=(qU (z % 26)++lY ((k*17+z) % 61))++lZ (gT k z):=(bR a).trans (bR l);rw[e] at q;exact q
inductive gq(F:Z Fc)(i:Nat):Nat->Prop
 |refl:gq F i i
 |step {x:Nat} {c:Fc}:gq F i x->c∈F->cM c.k=af->c.one=x->gq F i c.aN.toNat
theorem gq.mono(s:∀c∈F,c∈G)(h:gq F i j):gq G i j:=by
 induction h with
 |refl=>exact .refl
 |step _ m p e a=>exact .step a (s _ m) p e
theorem gq.trans(h:gq F i j)(b:gq F j k):gq F i k:=by
 induction b with
 |refl=>exact h
 |step _ m p e a=>exact .step a m p e
def Cm{c:Fc}(p:cM c.k=af):c.k≠bB:=λz=>by
 rw[z] at p;exact absurd p QK
theorem S5(d:bW xs u b)(x:i<b.ps.length)(r:j<b.ps.length):gf b (av b.ps i) (av b.ps j)↔gq b.F i j:=by
 have s:∀c∈b.F,eI xs u b.ps.length c:=λc y=>by
  obtain⟨p,v,rfl⟩:=Ye.mp (y);exact d.fg p v
 constructor
 ·have o:∀{z:ar},gf b (av b.ps i) z->∃k,k<b.ps.length/\z=av b.ps k/\gq b.F i k:=λh=>by
   induction h with
   |refl=>exact⟨i,x,rfl,.refl⟩
   |step _ m l=>
    obtain⟨k,n,rfl,a⟩:=l;obtain⟨c,g,p,A,t⟩:=(Bz d).mp m;have q:=Cm p;rw[iF q] at t;exact⟨_,((s c g).ok.gc q).1.2,(V.str.inj t).symm,.step a g p (tY d.nm (s c g).ok.one n A)⟩
  intro h;obtain⟨k,n,e,a⟩:=o h;rwa[tY d.nm r n e]
 ·intro h;clear r;induction h with
  |refl=>exact .refl
  |step _ m p e l=>exact .step l ((Bz d).mpr ⟨_,m,p,by rw[e],by rw[iF (Cm p)];rfl⟩)
structure iD(ps:bC)(F:Z Fc):Prop where
 pe:∀p∈ps,ql p.1=af/\zc p.2=af/\p.1.length<=1000
 sd:∀c∈F,c.k≠bB->jR c.k (dF ps c.one) (dF ps c.aN.toNat)=af
 un:∀c∈F,∀x∈F,x≠c->ir ps c.k (av ps c.one) (kV (bg ps c)) x=a7
 se:∀c∈F,(decide (c.k="sibling")&&decide (V.str (av ps c.one)=kV (bg ps c)))=a7
 el:∀c∈F,cM c.k=af->¬gq F c.aN.toNat c.one
def iD.nil:iD [] []:=⟨λ_ h=>(nomatch h),λ_ h=>(nomatch h),λ_ h=>(nomatch h),λ_ h=>(nomatch h),λ_ h=>(nomatch h)⟩
def iD.mono(h:iD b F)(s:∀c∈G,c∈F):iD b G:=⟨h.pe,λc m=>h.sd c (s c m),λc m x d=>h.un c (s c m) x (s x d),λc m=>h.se c (s c m),λc m p a=>h.el c (s c m) p (a.mono s)⟩
def Ze7(h:ir d c.k (av d c.one) (kV (bg d c)) x=af):ir d x.k (av d x.one) (kV (bg d x)) c=af:=by
 unfold ir at h⊢;simp[Wp,Em,eJ] at h⊢;obtain⟨g,e⟩:=h;rw[g];refine⟨rfl,e.imp (λ⟨a,b⟩=>⟨a.symm,b.imp k8 id⟩) λ⟨a,b,c⟩=>⟨a,c.symm,b.symm⟩⟩
theorem iD.snoc(h:iD g F)(o:c.k≠bB->jR c.k (dF g c.one) (dF g c.aN.toNat)=af)(l:∀x∈F,ir g c.k (av g c.one) (kV (bg g c)) x=a7)(n:(decide (c.k="sibling")&&decide (V.str (av g c.one)=kV (bg g c)))=a7)(k:cM c.k=af->¬gq F c.aN.toNat c.one):iD g (F++[c]):=by
 have sub:∀x∈F,x∈F++[c]:=λx m=>Yt _ m;have two:∀{x:Fc},x∈F++[c]->x∈F\/x=c:=λm=>(Yv.mp m).imp id Yn.mp;have A:cM c.k=af->∀{y:Nat},gq (F++[c]) c.aN.toNat y->gq F c.aN.toNat y:=λp y a=>by
  induction a with
  |refl=>exact .refl
  |step _ m q e j=>
   rcases two m with m|rfl;·exact .step j m q e
   ·rw[←e] at j;exact absurd j (k p)
 have B:∀{x y:Nat},gq (F++[c]) x y->gq F x y\/(cM c.k=af/\gq F x c.one/\gq (F++[c]) c.aN.toNat y):=λa=>by
  induction a with
  |refl=>exact .inl .refl
  |step _ m q e j=>
   rcases two m with r|rfl;·exact j.imp (λa=>.step a r q e) λ⟨p,a,b⟩=>⟨p,a,.step b m q e⟩
   ·rcases j with a|⟨p,a,_⟩;·exact .inr ⟨q,by rwa[e],.refl⟩
    ·exact .inr ⟨p,a,.refl⟩
 refine⟨h.pe,λd m=>?_,λd m x i ne=>?_,λd m=>?_,λd m p a=>?_⟩
 ·rcases two m with m|rfl;·exact h.sd d m
  ·exact o
 ·rcases two m with m|rfl
  ·rcases two i with i|rfl;·exact h.un d m x i ne
   ·cases e:ir g d.k (av g d.one) (kV (bg g d)) x with
    |false=>rfl
    |true=>exact absurd (Ze7 e) (by rw[l d ‹d∈F›];exact Yi)
  ·rcases two i with i|rfl;·exact l x i
   ·exact absurd rfl ne
 ·rcases two m with m|rfl;·exact h.se d m
  ·exact n
 ·rcases two m with m|rfl
  ·rcases B a with a|⟨q,a,b⟩;·exact h.el d m p a
   ·exact k q ((gq.step (A q b) m p rfl).trans a)
  ·exact k p (A p a)
def RC(h:i<a.length):dF (a++[x]) i=dF a i:=by
 unfold dF;rw[Yg,Yg,Wa h]
def iD.app(h:iD d F)(g:ql x.1=af/\zc x.2=af/\x.1.length<=1000)(a:∀c∈F,dY n d.length c):iD (d++[x]) F:=by
 refine⟨λp m=>(Yv.mp m).elim (h.pe p) λm=>by rwa[Yn.mp m],λc m e=>?_,λc m y b ne=>?_,λc m=>?_,h.el⟩;·rw[RC (a c m).one,RC ((a c m).gc e).1.2];exact h.sd c m e
 ·unfold ir;rw[tU (a c m).one,wq (a c m),tU (a y b).one,wq (a y b)];exact h.un c m y b ne
 ·rw[tU (a c m).one,wq (a c m)];exact h.se c m
def ZcB(h:kZ b F k a o=a7):(∀x∈F,ir b k a o x=a7)/\(decide (k="sibling")&&decide (V.str a=o))=a7:=by
 unfold kZ at h;rw[YD] at h;exact⟨λx m=>W3.mpr (Jv.mp h.1 x m),h.2⟩
theorem iD.word(i:bW xs g b)(d:eI xs g b.ps.length c)(h:iD b.ps b.F)(k:k9 xs.length b c=""):iD b.ps (b.F++[c]):=by
 obtain⟨n,m,l,_⟩:=IX k;obtain⟨u,s⟩:=ZcB m;refine h.snoc (λj=>?_) u s λp a=>l ⟨p,(S5 i (d.ok.gc (Cm p)).1.2 d.ok.one).mpr a⟩;cases e:jR c.k (dF b.ps c.one) (dF b.ps c.aN.toNat) with
 |true=>rfl
 |false=>exact absurd ⟨j,e⟩ n
def ZcC(l:bW xs o b)(j:iD b.ps b.F)(s:bW xs o d)(i:d.ps=b.ps)(e:∀x∈d.F,x∈b.F/\x≠c)(g:c∈b.F):k9 xs.length d c="":=by
 have h:eI xs o b.ps.length c:=by
  obtain⟨p,n,rfl⟩:=Ye.mp (show c∈b.fs.map (·.2) from g);exact l.fg p n
 have t:kZ d.ps d.F c.k (av d.ps c.one) (kV (bg d.ps c))=a7:=by
  unfold kZ;rw[i,YD];exact⟨Jv.mpr λx m=>by rw[j.un c g x (e x m).1 (e x m).2];exact Yi,j.se c g⟩
 obtain⟨f,inr,k⟩:=l.lv;have r:eQ (d.F++[c]) xs.length c.one≠[]:=λz=>by
  have q:∀x∈d.F++[c],x∈b.F:=λx m=>(Yv.mp m).elim (λm=>(e x m).1) λm=>by rwa[Yn.mp m]
  have v:∀x∈d.F++[c],dY xs.length b.ps.length x:=λx m=>by
   obtain⟨p,n,rfl⟩:=Ye.mp (q x m);exact(l.fg p n).ok
  have m:=wa.mpr ⟨inr c.one h.ok.one,F7 v h.ok.one inr λx m=>k x (q x m)⟩;rw[z] at m;cases m
 unfold k9;rw[bR (λz=>by rw[i,j.sd c g z.1] at z;cases z.2),bR (by rw[t];exact Yi),bR (λz=>?_),bR r];have u:=Cm z.1;have a:=(S5 s (by exact i▸(h.ok.gc u).1.2) (by exact i▸h.ok.one)).mp z.2;exact j.el c g z.1 (a.mono λx m=>(e x m).1)
inductive KN(C CL CJ:O)(i:Z V)(H:Hp)(Q:VK)(E:XK):Prop
 |mk (l:BL) (b:BS) (a d:Z Int) (c:Fc) (h:O) (p:i=[.ref l.h,.ref h]) (o:bc H C CL CJ l a d b) (ok:bW a d b) (m:H h=U (.tup [.str c.k,.str (av b.ps c.one),kV (bg b.ps c)])) (n:eI a d b.ps.length c) (j:b.fs.length<63) (k:k9 a.length b c="") (dl:b.dn.length<200) (q:∀(g:BL) (e:Hp),bZ H e l g->bc e C CL CJ g a d (b.zm c)->Q (.int (b.co:Int)) e)
structure iX(C CL CJ:O)(H:Hp)(xs ys:Z Int)(z j:Nat)(td:O)(l:BL)(b:BS)(nl sd fl st:O):Prop where
 ba:bc H C CL CJ l xs ys b
 ok:bW xs ys b
 names:H nl=U (.lst (iW b.ps))
 n1:nl∉l.fp
 c_:H sd=U (.dK (h_ b.ps))
 n2:sd∉l.fp
 facts:∃as:Z O,H fl=U (.lst (as.map V.ref))/\Paired (dt H b.ps) as b.fs
 n3:fl∉l.fp
 tup:H st=U (.tup [.ref nl,.ref sd,.ref fl,.int (b.co:Int)])
 turns:gS H td xs ys
 n4:td∉l.fp
 nm:b.ps.map (·.1)=(List.range b.ps.length).map (dU z)
 so:(b.fs.map (·.1)).Pairwise (·<·)
 cp:b.ps.length<=j
 cf:b.ps.length+b.fs.length<=j
 cd:b.dn.length<=j
 ac:iD b.ps b.F
 cc:b.co<=j
section
variable {H H':Hp}{xs X:Z Int}{z j:Nat}{W:O}{l l':BL}{b:BS}{R Q T st:O}
def iX.same(g:aj H H')(s:iX C CL CJ H xs X z j W l b R Q T st):iX C CL CJ H' xs X z j W l b R Q T st:=
 ⟨s.ba.same g,s.ok,g _ _ s.names,s.n1,g _ _ s.c_,s.n2,let⟨as,c,a⟩:=s.facts;⟨as,g _ _ c,L2.Paired.bL a λ _ _=>g _ _⟩,s.n3,g _ _ s.tup,s.turns.same g,s.n4,s.nm,s.so,s.cp,s.cf,s.cd,s.ac,s.cc⟩
def iX.more(s:iX C CL CJ H xs X z j W l b R Q T st):iX C CL CJ H xs X z (j+1) W l b R Q T st:=
 ⟨s.ba,s.ok,s.names,s.n1,s.c_,s.n2,s.facts,s.n3,s.tup,s.turns,s.n4,s.nm,s.so,Ws s.cp,Ws s.cf,Ws s.cd,s.ac,Ws s.cc⟩
theorem iX.FL(s:iX C CL CJ H xs X z j W l b R Q T st):FL H b.ps T b.F:=by
 obtain⟨a,g,d⟩:=s.facts;refine⟨a,g,?_⟩;have:∀{a:Z O} {fs:Z (Nat×Fc)},Paired (dt H b.ps) a fs->Paired (Ei H b.ps) a (fs.map (·.2)):=λh=>by
  induction h with
  |nil=>exact .nil
  |cons e _ c=>exact .cons ⟨_,e⟩ c
 exact this d
def bZ.off(w:bZ H H' l l')(h:H a=U o)(n:a∉l.fp):H' a=U o/\a∉l'.fp:=
 ⟨w.out _ _ h n,λz=>(w.grow a z).elim n λq=>by rw[h] at q;cases q⟩
def bZ.bN(w:bZ H H' l l')(c:bc H C CL CJ l xs X b)(h:H a=U (.tup us)):H' a=U (.tup us):=w.out _ _ h (c.tup h)
def bZ.gS(w:bZ H H' l l')(a:bc H C CL CJ l xs X b)(h:gS H W xs X)(n:W∉l.fp):gS H' W xs X:=by
 obtain⟨m,f,c,s,k,i,g,e,d⟩:=h;exact⟨m,f,c,s,w.out _ _ k n,w.bN a i,w.bN a g,w.bN a e,w.bN a d⟩
def yI(w:bZ H H' l l')(c:bc H C CL CJ l xs X b)(h:Paired (dt H a) as fs):Paired (dt H' a) as fs:=L2.Paired.bL h λ_ _ e=>w.bN c e
def bc.fresh(c:bc H C CL CJ l xs X b)(h:H a=aJ):a∉l.fp:=λz=>c.there z h
def dt.ext(d:eI xs X c.length p.2)(h:dt H c a p):dt H (c++[(n,s)]) a p:=by
 have e:∀i,i<c.length->av (c++[(n,s)]) i=av c i:=λi m=>by
  unfold av
  grind
 unfold dt d7 at h⊢;have g:bg (c++[(n,s)]) p.2=bg c p.2:=by
  by_cases k:p.2.k=bB;·rw[kT k,kT k]
  ·rw[iF k,iF k,e _ (d.ok.gc k).1.2]
 rwa[e _ d.ok.one,g]
def iX.fresh(s:iX C CL CJ H xs X z j W l b R Q T st)(a:j<60)(iE:ar)(g:zc iE=af):C2 b (dU z b.ps.length) iE:=by
 have c:=s.cp;obtain⟨n,h⟩:=ZcA (k:=b.ps.length) (lJ c a);refine⟨n,g,λm=>?_,(hT (fI c a) (by decide)),(dI h (by decide))⟩;rw[s.nm] at m;obtain⟨i,d,e⟩:=Ye.mp m;have d:=Wj.mp d;have:=ZdC (hT (hT d c) (m6 a)) (lJ c a) e;omega
def nm_more(h:b.ps.map (·.1)=(List.range b.ps.length).map (dU z))(s:ar):(b.ps++[(dU z b.ps.length,s)]).map (·.1)=(List.range (b.ps++[(dU z b.ps.length,s)]).length).map (dU z):=by
 rw[Yo,h,Yj];show _++[dU z b.ps.length]=(List.range (b.ps.length+1)).map (dU z);rw[UT,Yo];rfl
end
inductive RD(C CL CJ:O)(m:Z V)(H:Hp)(Q:VK)(E:XK):Prop
 |mk (g e:Z Int) (z j:Nat) (a:Int) (c:O) (l:BL) (b:BS) (o n s st:O) (y:m=[.ref l.h,.ref st,.int a,.ref c,.int (z:Int)]) (u:iX C CL CJ H g e z j c l b o n s st) (v:z<97) (x:j<60) (q:∀(h:BL) (i:BS) (p r t k:O) (d:Hp),bZ H d l h->iX C CL CJ d g e z (j+1) c h i p r t k->0<i.ps.length->Q (.ref k) d)
theorem ZbC{P Q:α->β->Prop}(h:∀a b,b∈bs->P a b->Q a b)(p:Paired P as bs):Paired Q as bs:=by
 induction p with
 |nil=>exact .nil
 |cons e _ c=>exact .cons (h _ _ Yk e) (c λa b d=>h a b (Yw _ d))
def Oz(a:Z b)(p:b->cm):((List.range a.length).filter λi=>(a[i]?.map p).getD a7).map (λi=>a[i]?)=(a.filter p).map U:=by
 have e:(List.range a.length).map (λi=>a[i]?)=a.map U:=pR a _ _ λ_ _ h=>h
 have h:=D3 (f:=λi=>a[i]?) (l:=List.range a.length) (p:=λo:bq b=>(o.map p).getD a7);rw[e,D3] at h;exact h.symm
theorem RE:∀{l:Z (Nat×α)},(l.map (·.1)).Nodup->∀{p q:Nat×α},p∈l->q∈l->p.1=q.1->p=q
 |[],_,_,_,h,_,_=>nomatch h
 |a::l,b,p,q,g,d,e=>by
  obtain⟨n,c⟩:=Y0.mp (show(a.1::l.map (·.1)).Nodup from b);rcases Ys.mp g with m|j<;>rcases Ys.mp d with k|i;·rw[m,k]
  ·grind
  ·grind
  ·exact RE c j i e
def S6(a:Z Key):(a.map kV).all iS=af:=by
 rw[Wv];intro v b;obtain⟨k,_,rfl⟩:=Ye.mp b;cases k<;>rfl
def ZgD:∃s:ar,d_ [V.str "man",V.str "woman"] (d % 2)=U (.str s)/\zc s=af:=by
 have:d % 2=0\/d % 2=1:=QO
 rcases this with e|e<;>rw[e];·exact⟨_,rfl,QK⟩
 ·exact⟨_,rfl,QK⟩
abbrev zK:Z ar:=["_law_book","_law_fact_here"]
def ZcD:aT zK zK (aO HV):=.a9
def ZcE(F:aR K "_law_put" "_law_put" HV f fd)(x:bY P w K mg I 12 "say" C zH (Kg C CL CJ))(y:bY P w K mg I 12 "tie" C qv (SS C CL CJ)):aI P w K mg I aP 13 f fd zK (KN C CL CJ):=by
 refine F.o ZcD λs H r h=>?_;obtain⟨l,b,m,k,c,d,rfl,j,ok,a,u,e,p,dl,q⟩:=h;refine⟨_,(aq (aW (bJ cL (bh (iT K) (pv 1) aM) bA) (au (aL (cV x r (by decide) (pv 0) (aa (bh (iT K) (pv 1) aM) (aa (bh (iT K) (pv 1) aM) ag))))) a_) (au (aL (cV y r (by decide) (pv 0) (aa (bh (iT K) (pv 1) aM) (aa (bh (iT K) (pv 1) aM) (aa (bh (iT K) (pv 1) aM) ag))))))),?_⟩;obtain⟨v,t⟩:=j.obj;refine⟨_,rfl,d,_,_,_,rfl,rfl,aB.of a,rfl,rfl,_,rfl,?_⟩;rw[e_];refine bF (λi=>?_) (λi=>aX ?_)
 ·have n:=eK i;have g:kV (bg b.ps c)=.int c.aN:=by rw[kT n];rfl
  exact⟨_,rfl,l.h,v,_,rfl,t,rfl,_,rfl,d,_,_,_,rfl,rfl,aB.of a,rfl,_,rfl,d,_,_,_,rfl,rfl,aB.of a,rfl,l,b,m,k,c,by rw[g];rfl,j,ok,⟨BA ok u e p,n⟩,dl,q⟩
 ·have o:=λz=>i (dg z);have g:kV (bg b.ps c)=.str (av b.ps c.aN.toNat):=by rw[iF o];rfl
  exact⟨_,rfl,l.h,v,_,rfl,t,rfl,_,rfl,d,_,_,_,rfl,rfl,aB.of a,rfl,_,rfl,d,_,_,_,rfl,rfl,aB.of a,rfl,_,rfl,d,_,_,_,rfl,rfl,aB.of a,rfl,l,b,m,k,c,by rw[g];rfl,j,ok,Ze5 ok u e p o,dl,q⟩
abbrev Lu:Z ar:=["_law_book","_law_state","_law_cell_here","_law_turns_here","_law_salt"]
def ni:aT ["_law_book","_law_state","_law_cell_here","_law_turns_here","_law_salt","_law_names","_law_sides","_law_facts","_law_after_here","_law_drawn","_law_name_here","_law_side","_law_fact_here","_law_out_here"] Lu (aO G6):=.a9
theorem ZbD(F:aR K "_law_step" "_law_step" G6 f fd)(pM:HasFn P w K mg I 1 "_law_draws" Ah (BN K))(Hn:HasFn P w K mg I 1 "_law_name" Ls S4)(Ho:HasFn P w K mg I 2 "_law_fact" Lr S0)(Hq:HasFn P w K mg I 4 "_law_word" Lp SW)(rp:HasFn P w K mg I 13 "_law_put" zK (KN C CL CJ))(qW:bY P w K mg I 11 "person" C zF (Iz C CL CJ))(yp:bY P w K mg I 11 "take" C uv (SO C CL CJ))(bl:Bl mg):aI P w K mg I aP 14 f fd Lu (RD C CL CJ):=by
 refine F.o ni λs H R h=>?_;obtain⟨xs,W,z,j,cell,td,l,b,nl,sd,fl,st,rfl,r,hz,hj,q⟩:=h;have hu:=R.t4;refine⟨_,(aq (oH (pv 1) (jr (K:=K) (n:=4) rfl rfl (bX (bI 5 ni.nd) (bX (bI 6 ni.nd) (bX (bI 7 ni.nd) (bX (bI 8 ni.nd) jo)))))) (aq (cy 9 ni.nd (aV pM R (aa (pv 2) (aa (dP (aa aM (aa aM (aa aM (aa aM (aa aM ag)))))) ag)))) (aq (aW (PW.pt (pw_or (bJ oO (dJ K bl (pv 5)) aM) (pw_or1 (bJ oO (bh (iL K) (pv 9) aM) aM)))) (aq (cy 10 ni.nd (aV Hn R (aa (dJ K bl (pv 5)) (aa (pv 4) ag)))) (aq (cy 11 ni.nd (bh (iL K) (dP (aa bA (aa bA ag))) (bj eP (bh (iL K) (pv 9) aM) aM))) (aq (cG (cV qW R (by decide) (pv 0) (aa (pv 10) (aa (pv 11) ag)))) (aq (cy 6 ni.nd (fU Zbl rfl bl.Zhd Zf0 (aa (pv 6) ag))) (aq (pS (bG R) (pv 6) (pv 10) (pv 11)) (au (aL (dX (aa (bj BQ (pv 5) (dP (aa (pv 10) ag))) (aa (pv 6) (aa (pv 7) (aa (pv 8) ag)))))))))))) a_) (aq (aW (bJ oO (bh (iL K) (pv 9) aM) aM) (aq (cy 12 ni.nd (aV Ho R (aa (pv 5) (aa (pv 6) (aa (pv 9) (aa (dJ K bl (dD (bG R) (pv 3) bA (λ_ _=>rfl))) ag)))))) (aq (aW (bJ mI (aV Hq R (aa (pv 6) (aa (pv 7) (aa (pv 3) (aa (pv 12) ag))))) bA) (au (aL (pv 1))) a_) (aq (cG (aV rp R (aa (pv 0) (aa (pv 12) ag)))) (au (aL (dX (aa (pv 5) (aa (pv 6) (aa (bj BQ (pv 7) (dP (aa (bj Zfu (dX (aa (pv 8) ag)) (pv 12)) ag))) (aa (bj iI (pv 8) aM) ag)))))))))) a_) (aq (aW (bJ (IL (K:=K) rfl (Sn hu)) (pv 7) (dP ag)) (au (aL (pv 1))) a_) (aq (ig (i:=13) ni.nd rfl (Or.inr rfl) (bh (iL K) (pv 7) (bj eP (bh (iL K) (pv 9) aM) (dJ K bl (pv 7))))) (aq (cG (cV yp R (by decide) (pv 0) (aa (bh (iT K) (pv 13) aM) ag))) (au (aL (dX (aa (pv 5) (aa (pv 6) (aa (iZ (x:="_law_one") (fr:=[("_law_out_here",13)]) (cl:=[("_law_out_here",s.heap.objs.size+1)]) rfl (.f_ ⟨rfl,trivial⟩ ⟨⟨rfl,.inl rfl,.inl rfl,rfl⟩,trivial⟩) (eS (K:=K) rfl (pv 7)) (λ_ _ _ _=>wy (bJ (ZhV (K:=K) rfl hu) (pv 0) (pv 1))) (λ_ _ _ _=>(pv 0))) (aa (pv 8) ag)))))))))))))),?_⟩;have sz:(10000:Nat)<=sizeLine:=by rw[sizeLine_eq];decide
 refine⟨_,rfl,st,_,rfl,aB.of r.tup,rfl,_,_,rfl,bu ⟨_,_,rfl,bu ⟨_,_,rfl,bu ⟨_,_,rfl,bu ⟨rfl,?_⟩⟩⟩⟩⟩;dsimp only;refine cC ?_;refine⟨_,rfl,by show 5<=sizeLine;decide,λpp H1 np g1 E=>⟨cell,pp,[16,61,59,8,4],rfl,ak.of E,by decide,by decide,λdr ds H2 nd g2 h2 bd=>?_⟩⟩;obtain⟨d0,d1,d2,d3,d4,rfl,_,_,_,_,b4⟩:=Zf8 bd;have ib:=g1.trans g2;have s2:=r.same ib;obtain⟨dx,ho⟩:=s2.ba.obj;have Ep:=wF b.ps;have cp:=r.cp;have cf:=r.cf;have cd:=r.cd;have Nb:=r.ok.m;have YH:=r.ok.fl;have ix:∀{i:Int} {v:Int} {H9:Hp},aj H2 H9->d_ ([d0,d1,d2,d3,d4].map V.int) i=U (.int v)->∀σ:St,σ[9]?=U (U (.ref dr))->Vt (jC (wZ K) (gn 9) (tC (V.int i))) σ H9 (.int v):=λg e σ hσ kk hk=>⟨_,hσ,dr,_,_,_,rfl,rfl,ak.of (g _ _ h2),e,hk _ (aj.refl _)⟩;refine(Bt.or (a:=decide (((iW b.ps).length:Int)<2)) (b:=decide (d0<5)) (λkk hk=>⟨_,rfl,nl,_,rfl,.inl (ak.of s2.names),_,_,rfl,rfl,_,rfl,hk _ (aj.refl _)⟩) λH3 _ g3 kk hk=>ix g3 rfl _ rfl _ λH4 B=>⟨_,_,rfl,rfl,_,rfl,hk _ B⟩) _ λH3 g3=>?_;have X:=s2.same g3;have kL:=ib.trans g3;rw[Ep];refine bF (λcc=>?_) (λcc=>aX ?_)
 ·refine cC ?_;refine⟨_,rfl,nl,_,rfl,.inl (ak.of X.names),_,rfl,b.ps.length,z,by rw[Ep];rfl,lJ cp hj,hz,?_⟩;refine cC ?_;obtain⟨sx,es,so⟩:=ZgD (d:=d1);refine⟨by show 2<=sizeLine;decide,λsl H4 MG B hsl=>ix (g3.trans B) rfl _ rfl _ λH5 L=>⟨_,_,rfl,rfl,by decide,sl,_,_,_,rfl,rfl,ak.of (L _ _ hsl),es,?_⟩⟩;have k:=(X.same B).same L;have Et:=(kL.trans B).trans L;obtain⟨Nh,Ni⟩:=k.ba.obj;refine⟨_,rfl,l.h,Nh,_,rfl,Ni,rfl,_,rfl,_,rfl,l,b,xs,W,dU z b.ps.length,sx,rfl,k.ba,k.ok,k.fresh hj sx so,hT (fI cd hj) (by decide),λl' H6 J jM=>?_⟩;have ye:=k.fresh hj sx so;dsimp only;refine cC ?_;have off:=λ{a:O} {o:HO} (h:H5 a=U o) (n:a∉l.fp)=>J.off h n;obtain⟨AR,Dd⟩:=off k.c_ k.n2;obtain⟨AS,De⟩:=off k.names k.n1;obtain⟨A,gU,cT⟩:=k.facts;obtain⟨vw,Lv⟩:=off gU k.n3;refine⟨_,rfl,sd,_,rfl,AR,λs' H7 cR T nX=>?_⟩;have vn:aZ (h_ b.ps) (.inr (dU z b.ps.length))=aJ:=qX λhm=>ye.new (by
   obtain⟨p,E,e⟩:=Ye.mp hm;obtain⟨p',hp',rfl⟩:=Ye.mp E;exact Ye.mpr ⟨p',hp',Wi e⟩)
  refine⟨_,rfl,_,rfl,_,rfl,s',_,.inr (dU z b.ps.length),rfl,nX,rfl,by rw[Ya];exact fI Nb (by decide),λH8 b8 e8=>?_⟩;have N:aj H6 H8:=λc o e=>b8 _ _ (T _ _ e) (cA e cR);rw[mj _ vn] at e8;refine⟨_,rfl,_,rfl,by show 1<=sizeLine;decide,λt H9 nt g9 ht=>⟨nl,t,_,_,rfl,rfl,g9 _ _ (N _ _ AS),ht,by rw[Ep];show _+1<=_;exact ot (fI Nb (by decide)),λn' HA nn' gA xA=>⟨_,rfl,_,rfl,_,rfl,by show 4<=sizeLine;decide,λaS HB DO gB dB=>?_⟩⟩⟩;have AU:=(g9.trans gA).trans gB;have Q:=N.trans AU;have pe:(b.KD (dU z b.ps.length) sx).ps=b.ps++[(dU z b.ps.length,sx)]:=rfl;obtain⟨tm,tf,tw,ts,fq,_⟩:=id k.turns;refine q l' (b.KD (dU z b.ps.length) sx) n' s' fl aS HB ((bZ.after Et J).same Q) ⟨jM.same Q,r.ok.UZ ye.new ye.lim (Yd _) (by rw[Yj];show _+1<=200;omega) (Yx _),?_,((jM.same N).same g9).fresh nn',?_,jM.fresh cR,⟨A,Q _ _ vw,?_⟩,Lv,dB,(J.gS k.ba k.turns k.n4).same Q,(off fq k.n4).2,nm_more r.nm sx,r.so,?_,?_,?_,r.ac.app ⟨ye.U4,ye.side,ye.nl⟩ (λc hc=>by obtain⟨p,E,rfl⟩:=Ye.mp (show c∈b.fs.map (·.2) from hc);exact(r.ok.fg p E).ok),Ws r.cc⟩ (by rw[pe,Yj];exact Nj _)
  ·rw[gB _ _ xA,pe,iW,iW,Yo];rfl
  ·rw[AU _ _ e8,pe];show _=U (HO.dK ((b.ps++[(dU z b.ps.length,sx)]).map _));rw[Yo];rfl
  ·have:=yI J k.ba cT;refine ZbC (λa p E e=>?_) this;exact dt.ext (r.ok.fg p E) (Q _ _ e)
  ·rw[pe,Yj];show _+1<=_;exact m_ cp (by decide)
  ·rw[pe,Yj];show _+1+b.fs.length<=_;omega
  ·show(b.dn++[_]).length<=_;rw[Yj];show _+1<=_;exact m_ cd (by decide)
 have p0:0<b.ps.length:=by
  rw[Em,rZ] at cc;omega
 refine⟨_,rfl,dr,_,_,_,rfl,rfl,ak.of (g3 _ _ h2),rfl,_,_,rfl,rfl,_,rfl,?_⟩;refine bF (λcc2=>?_) (λcc2=>aX ?_)
 ·refine cC ?_;obtain⟨tm,tf,tw,u0,fq,_,_,_,yc⟩:=id X.turns;refine⟨_,rfl,_,rfl,_,rfl,_,rfl,td,.ref u0,rfl,dE fq rfl,u0,_,rfl,.inr (aB.of yc),nl,sd,dr,b.ps,xs,W,d0,d1,d2,d3,d4,by rw[Ya,fS];rfl,X.names,X.c_,r.ok.nm,p0,dI Nb (by decide),g3 _ _ h2,b4,r.ok.gd,λc fg ff H4 Es B vq=>?_⟩;have s4:=X.same B;refine⟨_,rfl,_,rfl,_,rfl,_,rfl,sd,fl,td,ff,xs,W,b,c,rfl,s4.c_,s4.FL,s4.turns,vq,r.ok,fg,λH5 L=>⟨rfl,_,rfl,?_⟩⟩;have k:=s4.same L;have Et:=(kL.trans B).trans L;rw[e_];refine bF (λcw=>?_) (λcw=>aX ?_);·exact⟨_,rfl,q l b nl sd fl st H5 (bZ.of Et) k.more p0⟩
  have hw:k9 xs.length b c="":=by
   by_cases e:k9 xs.length b c="";·exact e
   ·rw[x9 e] at cw;exact absurd rfl cw
  have nf:=BA r.ok fg (by omega) hw;refine⟨_,rfl,_,rfl,l,b,xs,W,c,ff,rfl,k.ba,r.ok,L _ _ vq,fg,by omega,hw,hT (fI cd hj) (by decide),λl' H6 J jM=>?_⟩;have off:=λ{a:O} {o:HO} (h:H5 a=U o) (n:a∉l.fp)=>J.off h n;obtain⟨AR,Dd⟩:=off k.c_ k.n2;obtain⟨AS,De⟩:=off k.names k.n1;obtain⟨A,gU,cT⟩:=k.facts;obtain⟨vw,Lv⟩:=off gU k.n3;have ff6:=J.bN k.ba (L _ _ vq);have al:=c7 cT;refine⟨_,rfl,_,rfl,_,rfl,_,rfl,by show 1<=sizeLine;decide,λt1 H7 nt1 T Nd=>⟨_,rfl,t1,ff,_,_,rfl,rfl,aB.of Nd,aB.of (T _ _ ff6),by simp,by show 1+3<=sizeLine;decide,λe=>(by cases e),λ_ t2 Nk=>?_⟩⟩;obtain⟨H8,e8⟩:∃H8,H8=upd H7 t2 (.tup ([V.int (b.co:Int)]++[V.str c.k,V.str (av b.ps c.one),kV (bg b.ps c)])):=⟨_,rfl⟩;have g8:aj H7 H8:=by rw[e8];exact cK Nk _
  have Eu:dt H8 b.ps t2 (b.co,c):=by
   show H8 t2=_;rw[e8,aQ];rfl
  rw[←e8];have N:=T.trans g8;refine⟨by show 1<=sizeLine;decide,λl1 H9 nl1 g9 hl1=>⟨fl,l1,_,_,rfl,rfl,g9 _ _ (N _ _ vw),hl1,by rw[Ya];show _+1<=_;omega,λdi HA Zkq gA Zkr=>⟨_,rfl,_,_,rfl,rfl,by show 4<=sizeLine;decide,λaS HB DO gB dB=>?_⟩⟩⟩;have AU:=(g9.trans gA).trans gB;have Q:=N.trans AU;obtain⟨tm,tf,tw,ts,Lw,_⟩:=id k.turns;have YI:=r.ok.lt;refine q l' (b.zm c) nl sd di aS HB ((bZ.after Et J).same Q) ⟨jM.same Q,?_,Q _ _ AS,De,Q _ _ AR,Dd,⟨A++[t2],?_,?_⟩,((jM.same N).same g9).fresh Zkq,dB,(J.gS k.ba k.turns k.n4).same Q,(off Lw k.n4).2,r.nm,?_,Ws cp,?_,?_,(by show iD b.ps ((b.fs++[(b.co,c)]).map (·.2));rw[Yo];exact r.ac.word r.ok fg hw),x8 r.cc⟩ p0
  ·exact r.ok.U0 fg (λm=>by
    obtain⟨p,E,e⟩:=Ye.mp m;have:=YI p E;omega) nf.nk nf.np nf.lv (by omega) (co:=b.co+1) (J3 _) (Jf _) (by rw[Yj];show _+1<=200;omega) (Yx _)
  ·rw[gB _ _ Zkr,Yo];rfl
  ·exact kQ (F:=dt HB b.ps) (AU _ _ Eu) (L2.Paired.bL (yI J k.ba cT) λ_ _ e=>Q _ _ e)
  ·show((b.fs++[(b.co,c)]).map (·.1)).Pairwise _;rw[Yo];refine List.pairwise_append.mpr ⟨r.so,by simp,λu hu v hv=>?_⟩;obtain⟨p,E,rfl⟩:=Ye.mp hu;have:v=b.co:=by simpa using hv
   rw[this];exact YI p E
  ·show _+(b.fs++[_]).length<=_;rw[Yj];show b.ps.length+(_+1)<=_;exact x8 cf
  ·show(b.dn++[_]).length<=_;rw[Yj];show _+1<=_;exact m_ cd (by decide)
 obtain⟨A,gU,cT⟩:=X.facts;have al:=c7 cT;refine⟨_,rfl,by show 0<=sizeLine;decide,λe0 H4 vg B qO=>⟨fl,e0,_,rfl,rfl,ak.of (B _ _ gU),ak.of qO,_,rfl,bF (λce=>?_) (λce=>aX ?_)⟩⟩;·exact⟨_,rfl,q l b nl sd fl st H4 (bZ.of (kL.trans B)) (X.same B).more p0⟩
 refine cC ?_;have s4:=X.same B;have f0:0<A.length:=by
  cases e:A with
  |nil=>rw[e] at ce;exact absurd rfl ce
  |cons _ _=>exact Nj _
 have mi:=zd (z:=d1) f0;refine⟨_,rfl,ix (g3.trans B) rfl _ rfl _ λH5 L=>?_⟩;have k:=s4.same L;have Lx:=L _ _ (B _ _ gU);obtain⟨i,ei⟩:∃i:Nat,d1 % (A.length:Int)=(i:Int):=⟨(d1 % (A.length:Int)).toNat,by omega⟩;have hi:i<A.length:=by omega
 obtain⟨ao,YJ⟩:∃ao,A[i]?=U ao:=⟨_,Yc hi⟩;obtain⟨⟨G,c0⟩,YK,M0⟩:=fK cT YJ;have Vl:=L _ _ (B _ _ M0);refine⟨_,rfl,fl,_,rfl,.inl (ak.of Lx),_,_,rfl,rfl,by rw[Ya];omega,fl,_,_,.ref ao,rfl,rfl,ak.of Lx,?_,?_⟩
 ·rw[Ya,ei];exact iG (by rw[Yf,YJ];rfl)
 obtain⟨Nh,Ni⟩:=k.ba.obj;refine⟨_,rfl,l.h,Nh,_,rfl,Ni,rfl,_,rfl,ao,_,_,_,rfl,rfl,aB.of Vl,rfl,l,b,xs,W,G,c0,rfl,k.ba,r.ok,Yh YK,hT (fI cd hj) (by decide),λl' H6 J jM=>?_⟩;have off:=λ{a:O} {o:HO} (h:H5 a=U o) (n:a∉l.fp)=>J.off h n;obtain⟨AR,Dd⟩:=off k.c_ k.n2;obtain⟨AS,De⟩:=off k.names k.n1;obtain⟨vw,Lv⟩:=off Lx k.n3;have Zks:Paired (dt H5 b.ps) A b.fs:=L2.Paired.bL cT λ_ _ e=>L _ _ (B _ _ e);have Vm:=yI J k.ba Zks;have al5:=c7 cT;have ao6:=J.bN k.ba Vl;refine⟨_,rfl,_,rfl,_,rfl,fl,rfl,⟨_,ak.of vw⟩,λD hD=>?_⟩;have qe:∀p∈b.fs,p.1=G->p=(G,c0):=λp E e=>RE r.ok.zs E (Yh YK) e;refine vT (K:=K) (ak.of vw) (by rw[Ya];exact d6 (kS al) (d6 YH (by decide))) hD (λi=>(b.fs[i]?.map λp=>decide (p.1≠G)).getD a7) (λi y _=>∃a,A[i]?=U a/\y=.ref a) (λ_ _ _ _ _ h=>h) (λi v hi H7 T _ Kt Kf kt kf=>?_) λus H7 T h7 pr=>?_
 ·rw[Yf] at hi;obtain⟨a,ea,rfl⟩:∃a,A[i]?=U a/\V.ref a=v:=by
   cases e:A[i]? with
   |none=>rw[e] at hi;cases hi
   |some c=>rw[e] at hi;exact⟨c,rfl,Ym hi⟩
  obtain⟨p,ep,E⟩:=fK Vm ea;have mp:=Yh ep;have pb:(b.fs[i]?.map λp=>decide (p.1≠G)).getD a7=decide (p.1≠G):=by rw[ep];rfl
  rw[pb] at kt kf;refine⟨_,rfl,_,rfl,a,ao,_,_,rfl,rfl,aB.of (T _ _ E),aB.of (T _ _ ao6),S6 _,S6 _,_,rfl,?_⟩;have ed:(!decide ((d7 b.ps p.1 p.2).map kV=(d7 b.ps G c0).map kV))=decide (p.1≠G):=by
   by_cases e:p.1=G
   ·rw[qe p mp e];simp
   ·rw[WH e,x9 (λh=>e ?_)];·rfl
    ·injection h with h1 _;have:=V.int.inj h1;exact l9 this
  show(if(!decide ((d7 b.ps p.1 p.2).map kV=(d7 b.ps G c0).map kV))=af then _ else _);rw[ed];cases e:decide (p.1≠G) with
  |true=>exact dq ⟨_,rfl,kt _ H7 e (aj.refl _) ⟨a,ea,rfl⟩⟩
  |false=>exact bT (kf H7 e (aj.refl _))
 rw[Ya,al5] at pr;obtain⟨fM,rfl,Zkt⟩:∃fM:Z O,us=fM.map V.ref/\Paired (dt H7 b.ps) fM (dh G b.fs):=by
  have aux:∀{W:Z V} {is:Z Nat} {gs:Z (Nat×Fc)},Paired (λy i=>∃a,A[i]?=U a/\y=.ref a) W is->is.map (λi=>b.fs[i]?)=gs.map U->∃A:Z O,W=A.map V.ref/\Paired (dt H7 b.ps) A gs:=by
   intro W is gs pr;induction pr generalizing gs with
   |nil=>
    intro e;cases gs with
    |nil=>exact⟨[],rfl,.nil⟩
    |cons _ _=>cases e
   |cons f _ ih=>
    intro e;cases gs with
    |nil=>cases e
    |cons g gs=>
     obtain⟨a,e1,e2⟩:=f;obtain⟨p,ep,E⟩:=fK Vm e1;injection e with e4 e5;obtain⟨A,r1,r2⟩:=ih e5;exact⟨a::A,by rw[e2,r1];rfl,.cons (by rw[←Ym (ep.symm.trans e4)];exact T _ _ E) r2⟩
  exact aux pr (Oz b.fs λp=>decide (p.1≠G))
 refine⟨_,rfl,by show 4<=sizeLine;decide,λaS H8 DO g8 dB=>?_⟩;have N:=T.trans g8;obtain⟨tm,tf,tw,ts,Lw,_⟩:=id k.turns;have sub:(dh G b.fs).Sublist b.fs:=Xv;refine q l' (b.without G c0) nl sd D aS H8 ((bZ.after (((kL.trans B).trans L)) J).same N) ⟨jM.same N,r.ok.drop G (Yd _) (by rw[Yj];show _+1<=200;omega) (Yx _),N _ _ AS,De,N _ _ AR,Dd,⟨fM,g8 _ _ h7,L2.Paired.bL Zkt λ_ _ e=>g8 _ _ e⟩,jM.fresh hD,dB,(J.gS k.ba k.turns k.n4).same N,(off Lw k.n4).2,r.nm,r.so.sublist (sub.map _),Ws cp,Ws (Yz (WC sub.length_le _) cf),?_,r.ac.mono (λx m=>(sub.map _).subset m),Ws r.cc⟩ p0;show(b.dn++[_]).length<=_;rw[Yj];show _+1<=_;exact m_ cd (by decide)
def bW.nil(b:oP xs a):bW xs a ⟨[],[],0,[],[]⟩:=
 ⟨b,Jb,Yx _,Yx _,λ_ h=>(nomatch h),Jb,λ_ h=>(nomatch h),Jb,Jb,⟨λ_=>0,λ_ h=>absurd h (Wu _),λ_ h=>(nomatch h)⟩,Yx _,Yx _⟩
inductive S7(C CL CJ:O)(k:Z V)(H:Hp)(Q:VK)(E:XK):Prop
 |mk (c a:Z Int) (z:Nat) (e d:O) (l:BL) (b:BS) (i:Z Int) (D:k=[.ref l.h,.ref e,.ref d,.int (z:Int)]) (B:bc H C CL CJ l c a b) (A:b=⟨[],[],0,[],[]⟩) (y:oP c a) (x:H e=U (.lst (i.map V.int))) (s:e∉l.fp) (v:gS H d c a) (r:d∉l.fp) (u:z<97) (t:i.length<=59) (q:∀(h:BL) (p:BS) (m n o j:O) (g:Hp),bZ H g l h->iX C CL CJ g c a z 59 d h p m n o j->Q (.ref j) g)
abbrev Ly:Z ar:=["_law_book","_law_cells","_law_turns_here","_law_salt"]
def A5:aT ["_law_book","_law_cells","_law_turns_here","_law_salt","_law_state","_law_cell_here"] Ly (aO G7):=.a9
def ZbE(F:aR K "_law_grow" "_law_grow" G7 f fd)(Hs:HasFn P w K mg I 14 "_law_step" Lu (RD C CL CJ))(bl:Bl mg):aI P w K mg I aP 15 f fd Ly (S7 C CL CJ):=by
 refine F.o A5 λs H hr h=>?_;obtain⟨y,u,z,L,r,l,b,cs,rfl,N,rfl,gd,T,nc,ht,nt,hz,t,q⟩:=h;refine⟨_,(aq (cy 4 A5.nd (dX (aa (dP ag) (aa tL (aa (dP ag) (aa aM ag)))))) (aq (gm hI rfl (eS (K:=K) rfl (pv 1)) (bI 5 A5.nd) (au (cy 4 A5.nd (aV Hs hr (aa (pv 0) (aa (pv 4) (aa (pv 5) (aa (pv 2) (aa (pv 3) ag))))))))) (au (aL (pv 4))))),?_⟩;have sz:(10000:Nat)<=sizeLine:=by rw[c4];decide
 refine cC ?_;refine⟨by show 0<=sizeLine;decide,λR H1 n1 W h1=>?_⟩;refine λQ H2 n2 G h2=>?_;refine⟨by show 0<=sizeLine;decide,λX H3 n3 E h3=>⟨by show 4<=sizeLine;decide,λst H4 n4 B h4=>?_⟩⟩;have A:=((W.trans G).trans E).trans B;have cQ:=N.same W;have oi:=cQ.same G;have si:iX C CL CJ H4 y u z 0 r l ⟨[],[],0,[],[]⟩ R Q X st:=⟨N.same A,bW.nil gd,B _ _ (E _ _ (G _ _ h1)),N.fresh n1,B _ _ (E _ _ h2),cQ.fresh n2,⟨[],B _ _ h3,.nil⟩,oi.fresh n3,h4,ht.same A,nt,rfl,MM,Yx _,Yx _,Yx _,iD.nil,Yx _⟩;refine ie (λo e=>∃(c:BL) (m:BS) (g i k d:O) (p:bq V),bZ H e l c/\iX C CL CJ e y u z 59 r c m g i k d/\o=[U (.ref l.h),U (.ref L),U (.ref r),U (.int (z:Int)),U (.ref d),p]) (λlP eO=>?_) ?_
 ·refine⟨_,rfl,L,rfl,⟨_,ak.of (A _ _ T)⟩,kz (λj o e=>∃(c:BL) (m:BS) (g i k d:O) (p:bq V),bZ H e l c/\iX C CL CJ e y u z j r c m g i k d/\o=[U (.ref l.h),U (.ref L),U (.ref r),U (.int (z:Int)),U (.ref d),p])
   ⟨l,_,R,Q,X,st,aJ,bZ.of A,si,rfl⟩ (λj o e _ zz=>by obtain⟨_,_,_,_,_,_,_,n,_⟩:=zz;exact ak.of (n.off T nc).1) ?_ ?_⟩
  ·rintro j v o e hj ⟨c,m,g,i,k,d,p,n,a,rfl⟩;obtain⟨x,rfl,hx⟩:=oC hj;have jl:j<cs.length:=(Yl.mp hx).1;refine bu ?_;rw[←n.h];refine⟨_,rfl,_,rfl,_,rfl,_,rfl,_,rfl,y,u,z,j,x,r,c,m,g,i,k,d,rfl,a,hz,(nh (iy jl t)),λl2 b2 MK L8 J fh H7 D s7 _=>bu ⟨l2,b2,MK,L8,J,fh,_,n.trans D,s7,rfl⟩⟩
  ·rintro o e ⟨c,m,g,i,k,d,p,n,a,rfl⟩;rw[Ya] at a;exact eO _ _ ⟨c,m,g,i,k,d,p,n,⟨a.ba,a.ok,a.names,a.n1,a.c_,a.n2,a.facts,a.n3,a.tup,a.turns,a.n4,a.nm,a.so,Yz a.cp t,Yz a.cf t,Yz a.cd t,a.ac,Yz a.cc t⟩,rfl⟩
 rintro o e ⟨c,m,g,i,k,d,p,n,a,rfl⟩;exact⟨_,rfl,q c m g i k d e n a⟩
def mG:At H 3 (.int i) (.int i):=by unfold At;rfl
def Ze8(h:xs.length<=63):(mP xs (U 4) aJ).length<=59:=by
 unfold mP;have e:HT.cF xs.length 0 (U 4)=min 4 xs.length:=HT.Zfs _ _ 4
 exact Nat.le_trans (List.length_take_le' _ _) (by rw[List.length_drop,e];omega)
def RF(h:j<a.length):(iW a)[j]?=U (.str (av a j)):=by
 unfold iW av;rw[Yf,Yc h,Yg,Yc h];rfl
theorem ZcF(d:bW xs l b)(g:i<b.ps.length):∃(r:Int) (rs:Z Int),eQ b.F xs.length i=r::rs:=by
 obtain⟨f,inr,a⟩:=d.lv;have k:∀c∈b.F,dY xs.length b.ps.length c:=λc j=>by
  obtain⟨p,h,rfl⟩:=Ye.mp (j);exact(d.fg p h).ok
 have m:=wa.mpr ⟨inr i g,F7 k g inr a⟩;cases e:eQ b.F xs.length i with
 |nil=>grind
 |cons r rs=>grind
inductive Qt(C CL CJ:O)(d:Z V)(H:Hp)(Q:VK)(E:XK):Prop
 |mk (l:BL) (b:BS) (c a:Z Int) (i:Nat) (j:d=[.ref l.h,.str (av b.ps i)]) (h:bc H C CL CJ l c a b) (e:(b.ps.map (·.1)).Nodup) (g:i<b.ps.length) (q:Q (.int (i:Int)) H)
inductive RG(C CL CJ:O)(h:Z V)(H:Hp)(Q:VK)(E:XK):Prop
 |mk (l:BL) (b:BS) (a e:Z Int) (i:Nat) (m:h=[.ref l.h,.str (av b.ps i)]) (k:bc H C CL CJ l a e b) (ok:bW a e b) (j:i<b.ps.length) (q:∀(c:BL) (d:Hp) (p:O) (g:Hp),bZ H d l c->bc d C CL CJ c a e b->(l.rk≠.ay->d=H/\c=l)->c.rk≠.ay->aj d g->g p=U (.lst ((eQ b.F a.length i).map V.int))->Q (.ref p) g)
def Zo:aT lE lE (aO ER):=.a9
def ZbF(F:aR K "place_of" "Hearth.place_of" ER f fd)(a:fL K C):aI P w K mg I aP 1 f fd lE (Qt C CL CJ):=by
 refine F.o Zo λs H e h=>?_;obtain⟨l,b,o,n,i,rfl,c,k,m,q⟩:=h;refine⟨_,(aq (aW (kC (nv (bG e) (pv 1) (pF K 0)) QU) gY a_) (au (aL (dD (bG e) (pF K 0) (pv 1) (λ_ _=>rfl))))),?_⟩;obtain⟨j,g⟩:=c.obj;have d:=tT k m;exact⟨_,rfl,_,rfl,l.h,C,j,_,_,rfl,g,a.cls,a.tO,rfl,l.pl,U _,rfl,dE c.places d,_,rfl,bT (aX ⟨_,rfl,l.h,C,j,_,_,rfl,g,a.cls,a.tO,rfl,_,rfl,l.pl,_,rfl,dE c.places d,q⟩)⟩
def ZcG:aT uD uD (aO HS):=.a9
def ZcH(F:aR K "open_of" "open_of" HS f fd)(B:bY P w K mg I 8 "joins" C eZ (B4 C CL CJ))(X:bY P w K mg I 1 "place_of" C lE (Qt C CL CJ))(D:bY P w K mg I 2 "open_at" CJ xk (yM CJ)):aI P w K mg I aP 9 f fd uD (RG C CL CJ):=by
 refine F.o ZcG λs H d h=>?_;obtain⟨l,b,a,g,i,rfl,u,ok,J,q⟩:=h;refine⟨_,(au (aL (cV D d (by decide) (oK B d (by decide) (pv 0)) (aa (cV X d (by decide) (pv 0) (aa (pv 1) ag)) ag)))),?_⟩;obtain⟨R,E⟩:=u.obj;refine⟨_,rfl,l.h,R,_,rfl,E,rfl,l,b,a,g,rfl,u,ok,λm n st W c e N e2 o k len gQ x=>?_⟩;obtain⟨Q,G⟩:=o.obj;obtain⟨y,j⟩:=e.obj;rw[c.h] at j;have r:i<st.hd.length:=by rwa[len]
 have one:=k.wf.one ok.gd.2.2.2.2 r;refine⟨n.J,Q,_,rfl,G,rfl,_,rfl,l.h,y,_,rfl,j,rfl,_,rfl,m,b,a,g,i,by rw[c.h];rfl,e,ok.nm,J,n,st,a.length,i,_,_,_,rfl,o,one.hd,one.ld,one.fr,one.gL,one.fZ,λp ns T np L A v t=>?_⟩;rw[k.opn r A v] at t;exact q m W p T c e x (by rw[N];exact λz=>nomatch z) L t
def mulL:Z Int->Int
 |[]=>1
 |a::r=>a*mulL r
theorem Pl(a:Int):∀b:Z Int,mulL (b++[a])=mulL b*a
 |[]=>by show a*1=1*a;rw[Int.mul_comm]
 |x::b=>by show x*mulL (b++[a])=x*mulL b*a;rw[Pl a b,vl]
theorem ZdD(h:xs.Perm ys):mulL xs=mulL ys:=by
 induction h with
 |nil=>rfl
 |cons x _ a=>show x*mulL _=x*mulL _;rw[a]
 |swap x y l=>show y*(x*mulL l)=x*(y*mulL l);rw[←vl,←vl,Int.mul_comm y x]
 |trans _ _ c b=>exact c.trans b
def nG(b:Z Int)(a:Z (Nat×Z Int)):Z Int:=(a.filter λp=>!decide ((p.1:Int)∈b)).map λp=>(p.2.length:Int)
theorem OA{H:Hp}:∀{g:Z O} {c:Z (Nat×Z Int)} {i:Nat} {k:Key} {y:V},Paired (λa (p:Nat×Z Int)=>H a=U (.lst (p.2.map V.int))) g c->(bw (c.map (·.1)) g)[i]?=U (k,y)->∃q a,c[i]?=U q/\k=.inl (q.1:Int)/\y=.ref a/\H a=U (.lst (q.2.map V.int))
 |_,_,i,k,y,.nil,h=>by
  have d:([]:Z (Key×V))[i]?=U (k,y):=h;simp at d
 |a::g,p::c,0,k,y,.cons e t,h=>by
  have d:=h;cases d;exact⟨p,a,rfl,rfl,rfl,e⟩
 |a::g,p::c,i+1,k,y,.cons e t,h=>by
  have d:=h;obtain⟨q,b,l,j⟩:=OA t d;exact⟨q,b,l,j⟩
inductive Qu(C:O)(d:Z V)(H:Hp)(Q:VK)(E:XK):Prop
 |mk (l:JL) (st:JS) (n:Nat) (b:O) (a:Z Int) (e:d=[.ref l.J,.ref b]) (g:cX H C n l st) (h:H b=U (.lst (a.map V.int))) (i:∀p∈st.fr,p.2.length<=1000) (q:∀c,aj H c->Q (.int (mulL (nG a st.fr))) c)
inductive RH(C:O)(b:Z V)(H:Hp)(Q:VK)(E:XK):Prop
 |mk (l:JL) (st:JS) (n:Nat) (e:b=[.ref l.J]) (c:cX H C n l st) (d:∀p∈st.fr,p.2.length<=1000) (q:∀a,aj H a->Q (.int (mulL (st.fr.map λp=>(p.2.length:Int)))) a)
def yh:aT ["self","heads","many","head","sections"] ["self","heads"] (aO EE):=.a9
def ZV(F:aR K "dealt_beside" "Joins.dealt_beside" EE f fd)(E:nC K C)(bl:Bl mg):aI P w K mg I aP 1 f fd ["self","heads"] (Qu C):=by
 refine F.o yh λs H hr h=>?_;obtain⟨l,st,n,t,m,rfl,r,G,fZ,q⟩:=h;refine⟨_,(aq (cy 2 yh.nd aM) (aq (Zbj rfl PassesOwn.never rfl (Zev rfl (pF K 0)) (jr rfl rfl (bX (bI 3 yh.nd) (bX (bI 4 yh.nd) jo))) (au (aW (ic (Cc rfl) (pv 3) (pv 1) QU) (au (B6 (i:=2) yh.nd rfl (Or.inl rfl) (dJ K bl (pv 4)) ZhO)) a_))) (au (aL (pv 2))))),?_⟩;obtain⟨dx,T⟩:=r.obj;refine setC ?_;have pl:=c7 r.free;have dl:(bw (st.fr.map (·.1)) l.cz).length=st.fr.length:=by unfold bw;rw[Ya,Je,Ya];omega
 refine ie (λo A=>aj H A/\∃d b:bq V,o=[U (.ref l.J),U (.ref t),U (.int (mulL (nG m st.fr))),d,b]) (λlP eO=>?_) ?_
 ·refine Zdl (λQ' R=>⟨_,rfl,l.J,C,dx,_,_,rfl,T,E.cls,E.rN,rfl,R⟩) r.frees (λj o=>∃d b:bq V,o=[U (.ref l.J),U (.ref t),U (.int (mulL (nG m (st.fr.take j)))),d,b]) ⟨aJ,aJ,rfl⟩ ?_ ?_
  ·rintro j k y o H' a N rt bk W ⟨d,b,rfl⟩ D X J;obtain⟨p,v,L,rfl,rfl,Q⟩:=OA r.free W;have B:st.fr.take (j+1)=st.fr.take j++[p]:=by rw[Y1,L];rfl
   have x:=D _ _ Q (eG Q r.frees (λz=>by cases z));have u:=D _ _ G (eG G r.frees (λz=>by cases z));refine⟨a,_,rfl,aB.of X,rfl,_,_,rfl,bu ⟨_,_,rfl,bu ⟨rfl,?_⟩⟩⟩;refine⟨_,rfl,_,rfl,t,_,rfl,.inl (ak.of u),rfl,yN m,_,rfl,?_⟩;rw[i2 rfl,show kV (Sum.inl (p.1:Int))=V.int (p.1:Int) from rfl,wC];refine bF (λc=>?_) (λc=>aX (J _ ⟨U (.int (p.1:Int)),U (.ref v),?_⟩))
   ·refine⟨_,rfl,_,rfl,v,_,rfl,.inl (ak.of x),_,_,rfl,rfl,.inr ?_,J _ ⟨U (.int (p.1:Int)),U (.ref v),?_⟩⟩
    ·have:=fZ p (Yh L);rw[Ya];omega
    have e:nG m (st.fr.take (j+1))=nG m (st.fr.take j)++[(p.2.length:Int)]:=by
     unfold nG;rw[B,Wm,Yo]
     congr 1
     rw[Ww,bS c];rfl
    rw[e,Pl,Ya];rfl
   ·have e:nG m (st.fr.take (j+1))=nG m (st.fr.take j):=by
     unfold nG;rw[B,Wm,Yo,Ww,bR c];simp
    rw[e];rfl
  ·rintro o H' ⟨d,b,rfl⟩ g;rw[dl,Y9];exact eO _ _ ⟨g,d,b,rfl⟩
 rintro o A ⟨g,d,b,rfl⟩;exact⟨_,rfl,q A g⟩
def Zaa:aT eZ eZ (aO FH):=.a9
def Ze9(F:aR K "dealt" "Joins.dealt" FH f fd)(t:bY P w K mg I 1 "dealt_beside" C ["self","heads"] (Qu C))(u:Bl mg):aI P w K mg I aP 2 f fd eZ (RH C):=by
 refine F.o Zaa λs H d h=>?_;obtain⟨l,st,n,rfl,a,m,q⟩:=h;refine⟨_,(au (aL (cV t d (by decide) (pv 0) (aa (dP ag) ag)))),?_⟩;obtain⟨o,g⟩:=a.obj;refine⟨_,rfl,l.J,o,_,rfl,g,rfl,by exact Yx _,λi v c b j=>?_⟩;refine⟨l,st,n,i,[],rfl,a.same b,j,m,λr k=>?_⟩;have e:nG [] st.fr=st.fr.map λp=>(p.2.length:Int):=by
  unfold nG;rw[J7.mpr λp _=>by simp]
 exact e▸q r (b.trans k)
open Classical in
noncomputable def uE (a:JS):Z Nat:=(List.range a.hd.length).filter λi=>decide (∀j,j<i->a.ae j≠a.ae i)
open Classical in
def IC:i∈uE st↔i<st.hd.length/\∀j,j<i->st.ae j≠st.ae i:=by
 unfold uE;rw[Y5,Wj,eJ]
theorem Ze_{P:Nat->Prop}:∀{m:Nat},P m->∃i,i<=m/\P i/\∀j,j<i->¬P j:=λ{m} h=>by
 induction m using Nat.strongRecOn with
 |ind m g=>
  by_cases z:∃j,j<m/\P j
  ·obtain⟨j,e,d⟩:=z;obtain⟨i,a,b,c⟩:=g j e d;exact⟨i,(qH (lJ a e)),b,c⟩
  ·exact⟨m,Yd _,h,λj k d=>z ⟨j,k,d⟩⟩
open Classical in
def fr_perm(c:WF n st):(st.fr.map λp=>(p.2.length:Int)).Perm ((uE st).map λi=>((st.b_ (st.ae i)).length:Int)):=by
 have x:((uE st).map st.ae).Perm (st.fr.map (·.1)):=by
  refine(J0 ?_ c.nf).mpr λk=>?_
  ·rw[Wk,Wl];have l:(uE st).Pairwise (·<·):=List.Pairwise.filter _ List.pairwise_lt_range;refine(Xh.mp l).imp ?_;rintro a b ⟨_,q,lt⟩;exact(IC.mp q).2 a lt
  ·rw[Ye];constructor
   ·rintro⟨i,o,rfl⟩;exact A_ (c.d9 (IC.mp o).1).1
   ·intro mk;obtain⟨i,u,e⟩:=c.hf k mk;obtain⟨r,h,g,lst⟩:=Ze_ (P:=λj=>st.ae j=k) (m:=i) e;exact⟨r,IC.mpr ⟨(lJ h u),λj t z=>lst j t (z.trans g)⟩,g⟩
 have d:=x.map λk=>((st.b_ k).length:Int);rw[Y7,Y7] at d;have v:st.fr.map ((λk=>((st.b_ k).length:Int))∘(·.1))=st.fr.map λp=>(p.2.length:Int):=Wo λp s=>by
  show((st.b_ p.1).length:Int)=_;have e:st.b_ p.1=p.2:=by unfold JS.b_;rw[mem_lookup c.nf s];rfl
  rw[e]
 rw[v] at d;exact d.symm
open Classical in
def WF.Zi5(c:WF n st)(j:n<=8):∀p∈st.fr,p.2.length<=1000:=λp d=>by
 obtain⟨i,g,e⟩:=c.hf p.1 (Ye.mpr ⟨p,d,rfl⟩);obtain⟨k,a,b⟩:=c.d9 g;have h:st.b_ (st.ae i)=p.2:=by unfold JS.b_;rw[e,mem_lookup c.nf d];rfl
 rw[h] at a b;have:=yr a b;exact d6 this (d6 j (by decide))
open Classical in
noncomputable def rT (F:Z Fc) (j:Nat):Z Nat:=(List.range j).filter λi=>decide (∀k,k<i->¬dM F k i)
open Classical in
open Classical in
open Classical in
def ZdE:i∈rT F m↔i<m/\∀k,k<i->¬dM F k i:=by
 unfold rT;rw[Y5,Wj,eJ]
noncomputable def r_ (F:Z Fc) (n j:Nat):Int:=mulL ((rT F j).map λi=>((eQ F n i).length:Int))
open Classical in
def ZdF(c:dZ n st F)(b:i<st.hd.length):((st.b_ (st.ae i)).map λz=>(st.bV i).getD z.toNat 0).Perm (eQ F n i):=by
 refine(J0 (c.wf.dist b) (Iu F n i).2).mpr λa=>?_;rw[c.room b,Ye];constructor
 ·rintro⟨z,e,rfl⟩;obtain⟨j,g⟩:=c.live;obtain⟨f,d,q⟩:=yH c.wf g (st.ae i) (st.ae i) z z e e (λ_=>rfl);exact⟨f,d,(q i b).1 rfl⟩
 ·rintro⟨f,⟨s,h⟩,rfl⟩;exact⟨s (st.ae i),(h i b).1,(h i b).2.symm⟩
open Classical in
def Zfa(b:dZ n st F):mulL (st.fr.map λp=>(p.2.length:Int))=r_ F n st.hd.length:=by
 rw[ZdD (fr_perm b.wf)];unfold r_;have g:uE st=rT F st.hd.length:=by
  unfold uE rT;refine Jl λi e=>?_;have d:=Wj.mp e;rw[We,rZ,eJ];exact⟨λh j a c=>h j a ((b.conn j i (nq a d) d).mpr c),λh j a z=>h j a ((b.conn j i (nq a d) d).mp z)⟩
 rw[g]
 congr 1
 refine Wo λi e=>?_;have l:=(ZdF b (ZdE.mp e).1).length_eq;rw[Ya] at l;rw[l]
inductive OB(C CL CJ:O)(g:Z V)(H:Hp)(Q:VK)(E:XK):Prop
 |mk (l:BL) (b:BS) (a d:Z Int) (i:g=[.ref l.h]) (h:bc H C CL CJ l a d b) (ok:bW a d b) (q:∀(e:BL) (c:Hp),bZ H c l e->bc c C CL CJ e a d b->(l.rk≠.ay->aj H c/\e=l)->Q (.int (r_ b.F a.length b.ps.length)) c)
def ZbG:aT ["hearth"] ["hearth"] (aO GX):=.a9
def ZbH(F:aR K "dealings" "dealings" GX f fd)(r:bY P w K mg I 8 "joins" C eZ (B4 C CL CJ))(D:bY P w K mg I 2 "dealt" CJ eZ (RH CJ)):aI P w K mg I aP 9 f fd ["hearth"] (OB C CL CJ):=by
 refine F.o ZbG λs H g h=>?_;obtain⟨l,b,a,n,rfl,m,ok,q⟩:=h;refine⟨_,(au (aL (oK D g (by decide) (oK r g (by decide) (pv 0))))),?_⟩;obtain⟨y,u⟩:=m.obj;refine⟨_,rfl,l.h,y,_,rfl,u,rfl,l,b,a,n,rfl,m,ok,λt d st G o A k j e c len E p=>?_⟩;obtain⟨x,v⟩:=e.obj;refine⟨d.J,x,_,rfl,v,rfl,d,st,a.length,rfl,e,c.wf.Zi5 ok.gd.2.2.2.2,λB i=>?_⟩;rw[Zfa c,len];exact q t B (o.same i) (A.same i) λz=>let⟨k,j⟩:=p z;⟨by rwa[←k],j⟩
open Classical in
def Pm(h:∀c,c∈F↔c∈G)(n i:Nat):eQ F n i=eQ G n i:=by
 have e:∀{F G:Z Fc},(∀c,c∈F↔c∈G)->∀g,jt n F g->jt n G g:=λh g ⟨k,j,d⟩=>⟨λx y t u ⟨c,b,r⟩=>k x y t u ⟨c,(h c).mpr b,r⟩,λc b=>j c ((h c).mpr b),d⟩;unfold eQ;refine Jl λa _=>?_;rw[We,eJ,eJ];exact⟨λ⟨g,c,r⟩=>⟨g,e h g c,r⟩,λ⟨g,c,r⟩=>⟨g,e (λc=>(h c).symm) g c,r⟩⟩
def Pn(h:∀c,c∈F↔c∈G):dM F x y↔dM G x y:=⟨dM.mono λ_ _ _ ⟨c,a,r⟩=>⟨c,(h c).mp a,r⟩,dM.mono λ_ _ _ ⟨c,a,r⟩=>⟨c,(h c).mpr a,r⟩⟩
open Classical in
def Zfb(h:∀c,c∈F↔c∈G)(n m:Nat):r_ F n m=r_ G n m:=by
 have e:rT F m=rT G m:=by
  unfold rT;refine Jl λi _=>?_;rw[We,rZ,eJ];exact⟨λz k a c=>z k a ((Pn h).mpr c),λz k a c=>z k a ((Pn h).mp c)⟩
 unfold r_;rw[e]
 congr 1
 exact Wo λi _=>by rw[Pm h]
def Ew:Key->Dt
 |.inl i=>.int i
 |.inr z=>.str z
def YL(a:bC)(b:Z (Nat×Fc)):Dt:=.lst (b.map λp=>.tup ((d7 a p.1 p.2).map Ew))
def Zia(H:Hp)(m:Nat)(k:Key):At H m (kV k) (Ew k):=by
 cases k<;>(unfold Ew At;rfl)
theorem RI(H:Hp)(m:Nat):∀a:Z Key,Paired (At H m) (a.map kV) (a.map Ew)
 |[]=>.nil
 |k::a=>.cons (Zia H m k) (RI H m a)
theorem RJ(h:H p=U (.lst (as.map V.ref)))(b:Paired (dt H a) as fs)(l:fs.length<=1000):At H 3 (.ref p) (YL a fs):=by
 refine⟨p,_,rfl,h,by rwa[Ya],?_⟩;clear h l;induction b with
 |nil=>exact .nil
 |cons e _ c=>
  exact .cons ⟨_,_,rfl,e,by show 4<=1000;decide,RI H 1 _⟩ c
def Zi6{fs e:Z (Nat×Fc)}(g:e.Perm fs)(d:(e.map (·.1)).Pairwise (·<·))(c:(fs.map (·.1)).Pairwise (·<·)):e=fs:=by
 rw[Wl] at d c;exact z6 (λa b _ _ d c=>QO) d c g
def rF{a:Z Int}(h:H p=U (.lst (a.map V.int)))(l:a.length<=1000):At H 3 (.ref p) (.lst (a.map Dt.int)):=Zhr h (by rwa[Ya]) (QR a)
def Zfc(F:Z Fc)(c:n<=8)(i:Nat):(eQ F n i).length<=1000:=by
 have:=yr (n:=n) (Iu F n i).2 λa b=>(wa.mp b).1;exact d6 this (d6 c (by decide))
inductive OC(C CL CJ:O)(d:Z V)(H:Hp)(Q:VK)(E:XK):Prop
 |mk (l:BL) (b:BS) (c a:Z Int) (g:d=[.ref l.h]) (e:bc H C CL CJ l c a b) (q:Q (.int (b.dn.length:Int)) H)
inductive T_(g:Z V)(H:Hp)(Q:VK)(E:XK):Prop
 |mk (b c:O) (h d:Z Int) (k:Nat) (a:Int) (p:g=[.ref b,.int (k:Int),.ref c,.int a]) (m:H b=U (.lst (h.map V.int))) (j:H c=U (.lst (d.map V.int))) (l:∀n∈d,-1<=n/\n<10^50) (i:-1<=a/\a<10^50) (q:∀(o:Int) (e:Hp),-1<=o/\o<10^50->aj H e->Q (.int o) e)
def Zp:aT eZ eZ (aO ES):=.a9
def ZbI(F:aR K "undoable" "Hearth.undoable" ES f fd)(c:fL K C)(g:Bl mg):aI P w K mg I aP 1 f fd eZ (OC C CL CJ):=by
 refine F.o Zp λs H k h=>?_;obtain⟨l,b,j,i,rfl,a,q⟩:=h;refine⟨_,(au (aL (dJ K g (pF K 0)))),?_⟩;obtain⟨e,d⟩:=a.obj;have dl:=c7 a.lD;refine⟨_,rfl,l.h,C,e,_,_,rfl,d,c.cls,c.Kc,rfl,l.dn,_,rfl,.inl (ak.of a.done),?_⟩;rwa[Ya,dl]
abbrev Lz:Z ar:=["_law_script","_law_k","_law_numbers","_law_after_here"]
def OD:aT ["_law_script","_law_k","_law_numbers","_law_after_here","_law_drawn"] Lz (aO HW):=.a9
theorem Zib(F:aR K "_law_out" "_law_out" HW f fd)(A:HasFn P w K mg I 1 "_law_cell" Ag (JJ K))(pM:HasFn P w K mg I 1 "_law_draws" Ah (BN K))(bl:Bl mg):aI P w K mg I aP 2 f fd Lz T_:=by
 refine F.o OD λs H p h=>?_;obtain⟨v,o,B,d,k,N,rfl,u,J,nb,cb,q⟩:=h;have hu:=p.t4;refine⟨_,(aq (cy 4 OD.nd (aV pM p (aa (bj iI (aV A p (aa (pv 0) (aa (bj iI aM (pv 1)) ag))) (pv 1)) (aa (dP (aa aM (aa aM ag))) ag)))) (aq (aW (bJ cL (bh (iL K) (pv 4) aM) aM) (au (aL (bh (iL K) (dP (aa (Te RS aM) (aa (pv 3) ag))) (bj eP (bh (iL K) (pv 4) aM) aM)))) a_) (aq (aW (PW.pt (pw_and (bJ Co (bh (iL K) (pv 4) aM) aM) (pw_and1 (bJ (Zg4 hu) (pv 2) (dP ag))))) (au (aL (bh (iL K) (pv 2) (bj eP (bh (iL K) (pv 4) aM) (dJ K bl (pv 2)))))) a_) (au (aL (bj eP (aV A p (aa (pv 0) (aa (bj iI aM (pv 1)) ag))) (bj JC aM aM))))))),?_⟩;have sz:(10000:Nat)<=sizeLine:=by rw[c4];decide
 refine cC ?_;refine⟨_,rfl,_,rfl,_,_,rfl,rfl,v,B,4+(k:Int),rfl,ak.of u,QO,λc=>⟨_,rfl,_,_,rfl,rfl,by show 2<=sizeLine;decide,λpl H1 AG g1 cJ=>⟨c+(k:Int),pl,[61,5],rfl,ak.of cJ,QD,QD,λl ds H2 ndr g2 n bd=>?_⟩⟩⟩;obtain⟨b,m,rfl,b0,b1⟩:∃b m,ds=[b,m]/\Bd b 61/\Bd m 5:=by
  cases bd with
  |cons r t=>cases t with|cons r2 X=>cases X;exact⟨_,_,rfl,r,r2⟩
 have g:=g1.trans g2;refine⟨_,rfl,l,_,_,.int m,rfl,rfl,ak.of n,rfl,rfl,_,rfl,bF (λc1=>?_) (λc1=>aX ?_)⟩
 ·have:b % 2=0\/b % 2=1:=QO
  rcases this with e|e;·exact⟨1,rfl,_,rfl,by show 2<=sizeLine;decide,λy i x a z=>⟨_,rfl,l,_,_,.int b,rfl,rfl,ak.of (a _ _ n),rfl,_,_,rfl,rfl,(by show(0:Int)<2;decide),y,_,_,.int (-1),rfl,rfl,ak.of z,by rw[e];rfl,q _ i ⟨QD,QD⟩ (g.trans a)⟩⟩
  ·exact⟨1,rfl,_,rfl,by show 2<=sizeLine;decide,λy i x a z=>⟨_,rfl,l,_,_,.int b,rfl,rfl,ak.of (a _ _ n),rfl,_,_,rfl,rfl,(by show(0:Int)<2;decide),y,_,_,.int N,rfl,rfl,ak.of z,by rw[e];rfl,q _ i cb (g.trans a)⟩⟩
 refine nB (λW H'=>aj H H'/\W=[U (.ref v),U (.int (k:Int)),U (.ref o),U (.int N),U (.ref l)]) (λnx G=>?_) ?_
 ·refine⟨_,rfl,l,_,_,.int m,rfl,rfl,ak.of n,rfl,_,_,rfl,rfl,_,rfl,bF (λc2=>?_) (λc2=>?_)⟩
  ·refine⟨_,rfl,by show 0<=sizeLine;decide,λe0 i vg a qO=>⟨o,e0,d,[],rfl,rfl,ak.of (a _ _ (g _ _ J)),ak.of (xs:=[]) qO,_,rfl,bF (λR=>?_) (λR=>aX (G _ _ ⟨g.trans a,rfl⟩))⟩⟩;have T:=a _ _ (g _ _ J);have l0:0<d.length:=by
    cases d with
    |nil=>cases R
    |cons _ _=>exact Nj _
   have D:(d.map V.int).length=d.length:=Ya _;have L:=W9 b (show(d.length:Int)≠0 by omega);have u:=Wt b (show(0:Int)<(d.length:Int) by omega);obtain⟨j,ej⟩:∃j:Nat,b % (d.length:Int)=(j:Int):=⟨(b % (d.length:Int)).toNat,(k8 (qd L))⟩;have E:j<d.length:=QO
   exact⟨_,rfl,_,rfl,l,_,_,.int b,rfl,rfl,ak.of (a _ _ n),rfl,_,rfl,o,_,rfl,.inl (ak.of T),_,_,rfl,rfl,(by show(0:Int)<_;rw[D];exact Int.lt_of_le_of_lt L u),o,_,_,.int d[j],rfl,rfl,ak.of T,by rw[D,ej];exact iG (by rw[Yf,Yc E];rfl),q _ i (nb _ (Jo E)) (g.trans a)⟩
  ·exact bT (aX (G _ _ ⟨g,rfl⟩))
 rintro _ i ⟨a,rfl⟩;exact⟨_,rfl,_,rfl,_,_,rfl,rfl,v,B,4+(k:Int),rfl,ak.of (a _ _ u),QO,λQ=>⟨_,_,rfl,rfl,⟨QD,QD,QD⟩,_,_,rfl,rfl,(by show(0:Int)<10^50;decide),q _ i ⟨Int.le_trans QD (W9 Q (show(10^50:Int)≠0 by decide)),Wt Q (show(0:Int)<10^50 by decide)⟩ a⟩⟩
inductive Qv(C CL CJ i:O)(g:Z V)(H:Hp)(Q:VK)(E:XK):Prop
 |mk (l:BL) (b:BS) (d a:Z Int) (n:Int) (m:g=[.ref l.h,.int n]) (k:bc H C CL CJ l d a b) (ok:bW d a b) (dl:b.dn.length<200) (big:n.natAbs.log2<1920) (j:∀(z:Nat) (c:Fc),n=(z:Int)->(z,c)∈b.fs->∀(h:BL) (e:Hp),bZ H e l h->bc e C CL CJ h d a (b.without z c)->Q .ay e) (no:(∀p∈b.fs,(p.1:Int)≠n)->XP H i "no fact" E):Qv C CL CJ i g H Q E
def RK(C CL CJ b:O):Sp:=λa H Q E=>Qv C CL CJ b a H Q E
def Zfd(F:aR K "take" "Hearth.take" AY f fd)(a:fL K C)(N:mg "TAKEN_OUT"=U (.int (-1) t1))(R:bY P w K mg I 10 "do_deed" C nQ (yP C CL CJ))(ID:JQ P w K mg I "NoFact" "no fact" X):aI P w K mg I (fY P w) 11 f fd uv (RK C CL CJ X):=by
 refine F.VU ND (λJ H Q E h=>?_) (λbO A q s H J Q E g h=>?_)
 ·obtain⟨l,b,x,u,n,rfl,_⟩:=h;rfl
 obtain⟨l,b,x,u,n,rfl,d,ok,dl,big,o,no⟩:=h;refine⟨_,(aq (aW (kC (nv (bG g) (pv 1) (pF K 0)) QU) (au (Zc6 ID g (by decide) rfl rfl Zix (ZfH (JN g (pv 1))))) a_) (au (cG (cV R g (by decide) (pv 0) (aa (dR (v:=.int (-1)) rfl N ⟨_,rfl⟩) (aa (dD (bG g) (pF K 0) (pv 1) (λ_ _=>rfl)) (aa (pF K 0) ag))))))),?_⟩;obtain⟨j,i⟩:=d.obj;by_cases m:∃p∈b.fs,(p.1:Int)=n
 ·obtain⟨⟨z,c⟩,m,rfl⟩:=m;obtain⟨t,B,G⟩:=B0 d.fact ok.zs m;refine⟨_,rfl,_,rfl,l.h,C,j,_,_,rfl,i,a.cls,a.nA,rfl,l.fc,U (.ref t),rfl,nE d.facts B,_,rfl,bT (aX ?_)⟩;exact⟨_,rfl,l.h,j,_,rfl,i,rfl,_,rfl,l.h,C,j,_,_,rfl,i,a.cls,a.nA,rfl,_,rfl,l.fc,.ref t,rfl,nE d.facts B,_,rfl,l.h,C,j,_,_,rfl,i,a.cls,a.pU,rfl,l,b,_,x,u,t,-1,b.co,d7 b.ps z c,rfl,d,ok,dl,G,.uA z c G m,o z c rfl m⟩
 ·have D:=λp r e=>m ⟨p,r,e⟩;have L:aZ (bw (b.fs.map (·.1)) l.cz) (.inl n)=aJ:=qX λk=>by
   rw[Hh (by rw[Ya];exact(c7 d.fact).symm)] at k;obtain⟨z,T,e⟩:=Ye.mp k;obtain⟨y,W,rfl⟩:=Ye.mp T;obtain⟨p,r,rfl⟩:=Ye.mp W;exact D p r (xP e)
  exact⟨_,rfl,_,rfl,l.h,C,j,_,_,rfl,i,a.cls,a.nA,rfl,l.fc,aJ,rfl,.inl ⟨_,.inl n,.inl d.facts,rfl,L.symm⟩,_,rfl,dq ⟨_,rfl,.inr (.inl ⟨n,rfl,big,_,rfl,Yz (PyProof.Rows.int_text_len_1921 big) (by decide),no D⟩)⟩⟩
inductive Qw(C CL CJ:O)(i:Z V)(H:Hp)(Q:VK)(E:XK):Prop
 |mk (l:BL) (b:BS) (e d:Z Int) (n:Int) (k:i=[.ref l.h,.int n]) (j:bc H C CL CJ l e d b) (ok:bW e d b) (dl:b.dn.length<200) (big:n.natAbs.log2<1920) (h:∀(z:Nat) (c:Fc),n=(z:Int)->(z,c)∈b.fs->∀(g:BL) (a:Hp),bZ H a l g->bc a C CL CJ g e d (b.without z c)->Q (.str "kept") a) (no:(∀p∈b.fs,(p.1:Int)≠n)->∀(p:O) (a:Hp),aj H a->a p=U (.tup [.str "no fact",.bl af])->Q (.ref p) a)
abbrev LA:Z ar:=["_law_book","_law_number"]
def Gb:aT ["_law_book","_law_number","_law_told_here","e"] LA (aO Gu):=.a9
def Zfe(F:aR K "_law_asked" "_law_asked" Gu f fd)(FT:Sl P w K mg I 11 "take" C uv (RK C CL CJ a))(L:mg "KinError"=U (.ref r))(Hu:d5 K r)
  (BB:mg "NoFact"=U (.ref a))(j:d5 K a)(D:dG K a "word")(EN:PySem.W.mroIn K a (.ref r)=U af)(bl:Bl mg):aI P w K mg I aP 13 f fd LA (Qw C CL CJ):=by
 refine F.o Gb @λbO A k vs Q E s H T h=>?_;obtain⟨l,b,G,y,n,rfl,x,ok,dl,big,d,no⟩:=h;have B:=FT;refine⟨_,(au (Zhb (i:=3) ⟨rfl,rfl⟩ Gb.nd rfl rfl rfl L Hu (λpn xe E R ow=>(aq (cy 2 Gb.nd (Zhs B T (by decide) R (pv 0) (aa (pv 1) ag))) (au (aL (Pp (bJ B8 (pv 2) mF) bA bA))))) (λ_=>(au (aL (dX (aa (Zd_ rfl (pv 3)) (aa (iY (Zd9 rfl) rfl bl.NL NG (aa (pv 3) (aa (dR (v:=.ref a) rfl BB rfl) ag))) ag)))))))),?_⟩;obtain⟨dx,X⟩:=x.obj;refine cC ?_;refine⟨_,rfl,l.h,dx,_,rfl,X,rfl,_,rfl,l,b,G,y,n,rfl,x,ok,dl,big,λz c e m N H' J AQ=>?_,λm=>?_⟩;·exact⟨_,rfl,rfl,_,rfl,dq (d z c e m N H' J AQ)⟩
 intro a' o H1 _ _ g e1 u;refine⟨a,o,rfl,rfl,j,EN,λq t=>?_⟩;refine⟨_,rfl,q,a,o,_,_,rfl,t,u,j,D,rfl,?_⟩;refine⟨_,rfl,q,a,o,_,_,_,af,rfl,rfl,t,u,j,Zd8 _,?_⟩;exact⟨QD,λp H4 np g4 W=>no m p H4 (g.trans g4) W⟩
structure Acc(C CL CJ:O)(H:Hp)(xs ys:Z Int)(td:O)(l:BL)(b:BS)(nl sd fl:O):Prop where
 ba:bc H C CL CJ l xs ys b
 ok:bW xs ys b
 ac:iD b.ps b.F
 names:H nl=U (.lst (iW b.ps))
 n1:nl∉l.fp
 c_:H sd=U (.dK (h_ b.ps))
 n2:sd∉l.fp
 facts:∃as:Z O,H fl=U (.lst (as.map V.ref))/\Paired (dt H b.ps) as b.fs
 n3:fl∉l.fp
 turns:gS H td xs ys
 n4:td∉l.fp
 so:(b.fs.map (·.1)).Pairwise (·<·)
section
variable {H:Hp}{xs X:Z Int}{T:O}{l:BL}{b:BS}{R Q W:O}
def iX.acc(s:iX C CL CJ H xs X z j T l b R Q W st):Acc C CL CJ H xs X T l b R Q W:=⟨s.ba,s.ok,s.ac,s.names,s.n1,s.c_,s.n2,s.facts,s.n3,s.turns,s.n4,s.so⟩
def Acc.xv(s:Acc C CL CJ H xs X T l b R Q W)(w:bZ H c l a)(k:bc c C CL CJ a xs X b):Acc C CL CJ c xs X T a b R Q W:=by
 obtain⟨p,j⟩:=w.off s.names s.n1;obtain⟨o,i⟩:=w.off s.c_ s.n2;obtain⟨m,e,d⟩:=s.facts;obtain⟨n,h⟩:=w.off e s.n3;obtain⟨_,_,_,_,g,_⟩:=id s.turns;exact⟨k,s.ok,s.ac,p,j,o,i,⟨m,n,yI w s.ba d⟩,h,w.gS s.ba s.turns s.n4,(w.off g s.n4).2,s.so⟩
def Acc.same(s:Acc C CL CJ H xs X T l b R Q W)(g:aj H a):Acc C CL CJ a xs X T l b R Q W:=s.xv (bZ.of g) (s.ba.same g)
theorem Zi7(h:Paired (dt H a) as fs):Paired (Ei H a) as (fs.map (·.2)):=by
 induction h with
 |nil=>exact .nil
 |cons e _ c=>exact .cons ⟨_,e⟩ c
def Acc.FL(s:Acc C CL CJ H xs X T l b R Q W):FL H b.ps W b.F:=by
 obtain⟨d,c,a⟩:=s.facts;exact⟨d,c,Zi7 a⟩
def bW.good(a:bW xs X b):(∀c∈b.F,eI xs X b.ps.length c)/\b.F.length<=64:=by
 refine⟨λc e=>?_,?_⟩
 ·obtain⟨p,d,rfl⟩:=Ye.mp (e);exact a.fg p d
 ·show(b.fs.map (·.2)).length<=64;rw[Ya];exact Ws a.fl
end
def de.self(a:Own H):de H H:=⟨aj.refl _,a,λx o d e _ n=>by rw[e] at n;cases n⟩
theorem N0{b a:Type}{F:b->a->Prop}:∀{d g:Z b} {c e:Z a},Paired F d c->Paired F g e->Paired F (d++g) (c++e)
 |_,_,_,_,.nil,h=>h
 |_,_,_,_,.cons f t,h=>.cons f (N0 t h)
theorem OE{b a:Type}{F:b->a->Prop}:∀{d:Z b} {c:Z a},Paired F d c->Paired F d.reverse c.reverse
 |_,_,.nil=>.nil
 |_,_,.cons f t=>by rw[Mf,Mf];exact N0 (OE t) (.cons f .nil)
def Zi8(h:i<a.length):a[i]?=U (av a i,dF a i):=by
 unfold av dF
 simp_all
def Zic:∀xs,HO.lst us≠.tup xs:=λ_ z=>nomatch z
def yf(h i g b j a:O)(e d c:bq V):St:=[U (.ref h),U (.ref i),U (.ref g),U (.ref b),U (.ref j),U (.ref a),e,d,c]
inductive RL(C CL CJ:O)(o:Z V)(H:Hp)(Q:VK)(E:XK):Prop
 |mk (c:Nat->Hp) (e d:Z Int) (g:O) (l k:BL) (b:BS) (i h j:O) (r:o=[.ref l.h,.ref k.h,.ref i,.ref h,.ref j,.ref g]) (v:Vw 2 c [] H) (a:Acc C CL CJ (c 0) e d g l b i h j) (p:bc (c 1) C CL CJ k e d ⟨[],[],0,[],[]⟩) (q:∀(m:BL) (n:Hp),m.h=l.h->Acc C CL CJ n e d g m b i h j->Q (.bl af) n)
abbrev LB:Z ar:=["_law_book","_law_other","_law_names","_law_sides","_law_facts","_law_turns_here"]
def yk:aT ["_law_book","_law_other","_law_names","_law_sides","_law_facts","_law_turns_here","_law_name_here","_law_one","_law_room_here"] LB (aO Fm):=.a9
theorem Zff(F:aR K "_law_as_fresh" "_law_as_fresh" Fm f fd)(qW:bY P w K mg I 11 "person" C zF (Iz C CL CJ))(rp:HasFn P w K mg I 13 "_law_put" zK (KN C CL CJ))(jN:HasFn P w K mg I 4 "_law_same" oa (rM 4))(nj:HasFn P w K mg I 3 "_law_room" zJ Ck)(wc:HasFn P w K mg I 9 "open_of" uD (RG C CL CJ))(vX:HasFn P w K mg I 9 "dealings" ["hearth"] (OB C CL CJ))(bl:Bl mg):aI P w K mg I aP 14 f fd LB (RL C CL CJ):=by
 refine F.o yk λs H hr h=>?_;obtain⟨d,r,t,T,l,L,b,N,sd,fl,rfl,v,a,oi,q⟩:=h;have qW:=qW.frame;have rp:=rp.frame;have jN:=jN.frame;have nj:=nj.frame;have wc:=wc.frame;have vX:=vX.frame;refine⟨_,(aq (gm hI rfl (eS (K:=K) rfl (pv 2)) (bI 6 yk.nd) (au (cG (cV qW hr (by decide) (pv 1) (aa (pv 6) (aa (dD (bG hr) (pv 3) (pv 6) (λ_ _=>rfl)) ag)))))) (aq (gm hI rfl (eS (K:=K) rfl (Zf5 (K:=K) rfl (pv 4) (Te RS aM))) (bI 7 yk.nd) (au (cG (aV rp hr (aa (pv 1) (aa (Bp RW (pv 7) (BJ aM) BI) ag)))))) (aq (gm hI rfl (eS (K:=K) rfl (pv 2)) (bI 6 yk.nd) (aq (cy 8 yk.nd (aV nj hr (aa (pv 4) (aa (pv 5) (aa (pv 6) ag))))) (au (aW (PW.pt (pw_or (i4 (eX (aV jN hr (aa (aV wc hr (aa (pv 0) (aa (pv 6) ag))) (aa (pv 8) ag))))) (pw_or1 (i4 (eX (aV jN hr (aa (aV wc hr (aa (pv 1) (aa (pv 6) ag))) (aa (pv 8) ag)))))))) (au (aL i8)) a_)))) (au (aL (aV jN hr (aa (aV vX hr (aa (pv 0) ag)) (aa (aV vX hr (aa (pv 1) ag)) ag)))))))),?_⟩;have sz:(10000:Nat)<=sizeLine:=by rw[c4];decide
 have Nb:=a.ok.m;have YH:=a.ok.fl;have J:0<2:=QD
 have o2:1<2:=QD
 refine ie (λA E=>∃(u:Nat->Hp) (l':BL) (j:BS) (y:bq V),Vw 2 u [] E/\u 0=d 0/\l'.h=L.h/\bc (u 1) C CL CJ l' r t j/\bW r t j/\j.ps=b.ps/\j.fs=[]/\j.dn.length=b.ps.length/\A=yf l.h L.h N sd fl T y aJ aJ) (λlP eO=>?_) ?_
 ·refine⟨_,rfl,N,rfl,⟨_,ak.of ((v.cB 0 J).sub _ _ a.names)⟩,kz (K:=K) (a:=N) (xs:=iW b.ps) (λi A E=>∃(u:Nat->Hp) (l':BL) (j:BS) (y:bq V),Vw 2 u [] E/\u 0=d 0/\l'.h=L.h/\bc (u 1) C CL CJ l' r t j/\bW r t j/\j.ps=b.ps.take i/\j.fs=[]/\j.dn.length=i/\A=yf l.h L.h N sd fl T y aJ aJ)
   ⟨d,L,_,aJ,v,rfl,rfl,oi,bW.nil a.ok.gd,rfl,rfl,rfl,rfl⟩ (λi A E _ zz=>by obtain⟨u,_,_,_,v',R,_⟩:=zz;exact ak.of ((v'.cB 0 J).sub _ _ (by rw[R];exact a.names))) ?_ ?_⟩
  ·rintro i x A H1 hi ⟨U1,l1,j,y,v1,R,X,ba,oq,G,ef,ed,rfl⟩;have im:i<b.ps.length:=by
    have:=(Yl.mp hi).1;rw[wF] at this;exact this
   obtain rfl:V.str (av b.ps i)=x:=Ym ((RF im).symm.trans hi);have ei:=Zi8 im;obtain⟨pf,psd,pl⟩:=a.ac.pe _ (Yh ei);have tk:b.ps.take (i+1)=b.ps.take i++[(av b.ps i,dF b.ps i)]:=by rw[Y1,ei];rfl
   have np:C2 j (av b.ps i) (dF b.ps i):=by
    refine⟨pf,psd,λm=>?_,by rw[G,Y8];omega,pl⟩;rw[G] at m;have nd:((b.ps.take (i+1)).map (·.1)).Nodup:=((VF _ _).map _).nodup a.ok.nm;rw[tk,Yo] at nd;exact(Wr.mp nd).2.2 _ m _ Yk rfl
   refine bu ?_;have Df:aj (d 0) H1:=by rw[←R];exact(v1.cB 0 J).sub
   obtain⟨dx,ho⟩:=ba.obj;rw[X] at ho;refine⟨_,rfl,L.h,dx,_,rfl,(v1.cB 1 o2).sub _ _ ho,rfl,_,rfl,_,rfl,_,rfl,sd,_,rfl,dE (Df _ _ a.c_) (oB a.ok.nm im),U1 1,v1.cB 1 o2,l1,j,r,t,av b.ps i,dF b.ps i,by rw[X];rfl,ba.same cY,oq,np,QO,λl3 W wt iV H2 Q=>?_⟩;obtain⟨U2,rfl,k2,v2⟩:=v1.calls o2 Q;refine⟨U2,l3,_,_,v2,(k2 0 QD).trans R,wt.h.trans X,iV,oq.UZ np.new np.lim (Yd _) (by rw[Yj];show _+1<=200;omega) (Yx _),?_,ef,?_,rfl⟩
   ·show j.ps++[_]=_;rw[G,tk]
   ·show(j.dn++[_]).length=_;rw[Yj,ed];rfl
  ·rintro A H1 ⟨U1,l1,j,y,v1,R,X,ba,oq,G,ef,ed,rfl⟩;rw[wF] at G ed;rw[Y9] at G;exact eO _ _ ⟨U1,l1,j,y,v1,R,X,ba,oq,G,ef,ed,rfl⟩
 rintro A H1 ⟨U1,l1,b1,y,v1,YO,eh1,cQ,YQ,YR,YS,D1,rfl⟩;obtain⟨as,gU,cT⟩:=a.facts;have al:=c7 cT;have par:=OE cT;have ndF:b.F.Nodup:=by
  have e:b.F.map (fP b.ps)=b.keys:=by
   show(b.fs.map (·.2)).map _=_;rw[Y7];rfl
  have k:=a.ok.ky;rw[←e,Wk,Wl] at k;exact Wk.mpr (k.imp λh z=>h (by rw[z]))
 refine ie (λA E=>∃(u:Nat->Hp) (l':BL) (j:BS) (y o7:bq V),Vw 2 u [] E/\u 0=d 0/\l'.h=L.h/\bc (u 1) C CL CJ l' r t j/\bW r t j/\j.ps=b.ps/\(∀c,c∈j.F↔c∈b.F)/\A=yf l.h L.h N sd fl T y o7 aJ) (λlP eO=>?_) ?_
 ·have Df:aj (d 0) H1:=by rw[←YO];exact(v1.cB 0 J).sub
  refine⟨_,rfl,1,rfl,fl,_,rfl,rfl,ak.of (Df _ _ gU),λrv YT=>?_⟩;have v2:=v1.lay (o:=.lst (as.map V.ref).reverse) YT rfl Zic;generalize upd H1 rv _=H2 at v2⊢;refine⟨rv,rfl,⟨_,ak.of (v2.at Yk)⟩,kz (K:=K) (a:=rv) (xs:=(as.map V.ref).reverse) (λi A E=>∃(u:Nat->Hp) (l':BL) (j:BS) (y o7:bq V),Vw 2 u [(rv,.lst (as.map V.ref).reverse)] E/\u 0=d 0/\l'.h=L.h/\bc (u 1) C CL CJ l' r t j/\bW r t j/\j.ps=b.ps/\j.F=(b.fs.reverse.take i).map (·.2)/\j.dn.length=b.ps.length+i/\A=yf l.h L.h N sd fl T y o7 aJ)
   ⟨U1,l1,b1,y,aJ,v2,YO,eh1,cQ,YQ,YR,by show b1.fs.map (·.2)=_;rw[YS];rfl,D1,rfl⟩ (λi A E _ zz=>by obtain⟨_,_,_,_,_,v',_⟩:=zz;exact ak.of (v'.at Yk)) ?_ ?_⟩
  ·clear v2 cQ YQ YR YS D1 YT Df;rintro i x A H3 hi ⟨U3,l3,b3,y,o7,v3,R,X,ba,vy,G,eF,ed,rfl⟩;rw[←YU,Yf] at hi;obtain⟨a0,ea,rfl⟩:∃a0,as.reverse[i]?=U a0/\V.ref a0=x:=by
    cases e:as.reverse[i]? with
    |none=>rw[e] at hi;cases hi
    |some c=>rw[e] at hi;exact⟨c,rfl,Ym hi⟩
   obtain⟨⟨n,c⟩,ph,hp⟩:=fK par ea;have il:i<b.fs.length:=by
    have:=(Yl.mp ea).1;rw[Jn] at this;omega
   have mc:c∈b.F:=Ye.mpr ⟨(n,c),YV.mp (Yh ph),rfl⟩;have tk:b.fs.reverse.take (i+1)=b.fs.reverse.take i++[(n,c)]:=by rw[Y1,ph];rfl
   have Zkv:∀x∈b3.F,x∈b.F/\x≠c:=λx m=>by
    rw[eF] at m;obtain⟨p,hp,rfl⟩:=Ye.mp m;refine⟨Ye.mpr ⟨p,YV.mp (Dn hp),rfl⟩,λz=>?_⟩;have nd:((b.fs.reverse.take (i+1)).map (·.2)).Nodup:=((VF _ _).map _).nodup (by rw[YU];exact(List.reverse_perm _).nodup_iff.mpr ndF);rw[tk,Yo] at nd;exact(Wr.mp nd).2.2 _ m _ Yk z
   have fg:eI r t b3.ps.length c:=by rw[G];exact a.ok.good.1 c mc
   have fl3:b3.fs.length=i:=by
    have e:=dC List.length eF;rw[show b3.F=b3.fs.map (·.2) from rfl,Ya,Ya,Y8,Jn] at e;omega
   have hw:=ZcC a.ok a.ac vy G Zkv mc;have nf:=BA vy fg QO hw;have D2:H3 a0=U (.tup ((d7 b.ps n c).map kV)):=(v3.cB 0 J).sub _ _ (by rw[R];exact hp);refine bu ?_;refine⟨_,rfl,_,rfl,_,rfl,a0,_,rfl,aB.of D2,(λz=>absurd z.1 (by show ¬HT.cF 4 0 (U 1)=0;decide)),λt2 Nk=>?_⟩;have ec:mP ((d7 b.ps n c).map kV) (U 1) aJ=[.str c.k,.str (av b.ps c.one),kV (bg b.ps c)]:=rfl;rw[ec];have v4:=v3.ZjR (xs:=[.str c.k,.str (av b.ps c.one),kV (bg b.ps c)]) Nk;have Eu:upd H3 t2 (.tup [.str c.k,.str (av b.ps c.one),kV (bg b.ps c)]) t2=U (.tup [.str c.k,.str (av b.ps c.one),kV (bg b.ps c)]):=aQ;generalize upd H3 t2 _=H4 at v4 Eu⊢;refine⟨U3 1,v4.cB 1 o2,l3,b3,r,t,c,t2,by rw[X];rfl,ba.same cY,vy,by rw[G];exact Bs (v4.cB 1 o2).sub Eu,fg,QO,hw,QO,λl5 W wt vA H5 Q=>?_⟩;obtain⟨U5,rfl,k5,v5⟩:=v4.calls o2 Q;refine⟨U5,l5,_,_,_,v5,(k5 0 QD).trans R,wt.h.trans X,vA,vy.U0 nf.fg (λmm=>?_) nf.nk nf.np nf.lv QO (co:=b3.co+1) (J3 _) (Jf _) (by rw[Yj];show _+1<=200;omega) (Yx _),G,?_,?_,rfl⟩
   ·obtain⟨pp,AN,e⟩:=Ye.mp mm;have:=vy.lt pp AN;omega
   ·show(b3.fs++[(b3.co,c)]).map (·.2)=_;rw[Yo,tk,Yo,←eF];rfl
   ·show(b3.dn++[_]).length=_;rw[Yj,ed];rfl
  ·rintro A H3 ⟨U3,l3,b3,y,o7,v3,R,X,ba,vy,G,eF,ed,rfl⟩;refine eO _ _ ⟨U3,l3,b3,y,o7,v3.tail,R,X,ba,vy,G,λc=>?_,rfl⟩;rw[eF,Jn,Ya,al,←Jn (as:=b.fs),Y9,YU,YV];exact Iff.rfl
 rintro A H2 ⟨U2,l3,j,y,o7,v2,R,X,ba,oq,G,eF,rfl⟩;have n8:=a.ok.gd.2.2.2.2;have gb:=a.ok.good;have rl:=λi=>Zfc b.F n8 i;have YW:∀i,eQ j.F r.length i=eQ b.F r.length i:=λi=>Pm eF _ _;refine ie (λA E=>(∃y o8:bq V,A=yf l.h L.h N sd fl T y o7 o8)/\((∃(u:Nat->Hp) (D B:BL),Vw 2 u [] E/\D.h=l.h/\Acc C CL CJ (u 0) r t T D b N sd fl/\B.h=L.h/\bc (u 1) C CL CJ B r t j)\/∃D B:BL,Own E/\D.h=l.h/\D.rk≠.ay/\Acc C CL CJ E r t T D b N sd fl/\B.h=L.h/\B.rk≠.ay/\bc E C CL CJ B r t j)) (λlP eO=>?_) ?_
 ·have a2:Acc C CL CJ (U2 0) r t T l b N sd fl:=by rw[R];exact a
  refine⟨_,rfl,N,rfl,⟨_,ak.of ((v2.cB 0 J).sub _ _ a2.names)⟩,kz (K:=K) (a:=N) (xs:=iW b.ps) (λi A E=>(∃y o8:bq V,A=yf l.h L.h N sd fl T y o7 o8)/\((∃(u:Nat->Hp) (D B:BL),Vw 2 u [] E/\D.h=l.h/\Acc C CL CJ (u 0) r t T D b N sd fl/\B.h=L.h/\bc (u 1) C CL CJ B r t j)\/∃D B:BL,Own E/\D.h=l.h/\D.rk≠.ay/\Acc C CL CJ E r t T D b N sd fl/\B.h=L.h/\B.rk≠.ay/\bc E C CL CJ B r t j))
   ⟨⟨y,aJ,rfl⟩,.inl ⟨U2,l,l3,v2,rfl,a2,X,ba⟩⟩ (λi A E _ ⟨_,h⟩=>ak.of (h.elim (λzz=>by obtain⟨u,_,_,v',_,ac,_⟩:=zz;exact(v'.cB 0 J).sub _ _ ac.names) λzz=>by obtain⟨_,_,_,_,_,ac,_⟩:=zz;exact ac.names)) ?_ (λA E h=>eO _ _ h)⟩
  clear v2 ba X a2 R;rintro i x A H3 hi ⟨⟨y,o8,rfl⟩,st⟩;have im:i<b.ps.length:=by
   have:=(Yl.mp hi).1;rw[wF] at this;exact this
  obtain rfl:V.str (av b.ps i)=x:=Ym ((RF im).symm.trans hi);refine bu ?_;refine cC ?_;rcases st with⟨Ua,D,B,va,eA,acc,eB,bb⟩|⟨D,B,own,eA,Ex,acc,eB,Ey,bb⟩
  ·have fQ:=acc.same (cY (H:=H3));refine⟨_,rfl,_,rfl,_,rfl,Ua 0,va.cB 0 J,fl,T,b.ps,r,t,b.F,i,rfl,fQ.FL,fQ.turns,a.ok.nm,gb.1,n8,(dI Nb (by decide)),gb.2,im,λrm W YX g ku Hb Q=>?_⟩;have nrf:=fQ.ba.fresh YX;have Ez:=fQ.same g;obtain⟨Ub,rfl,kb,vb⟩:=va.calls J Q;have at2:=Ez.same (cY (H:=Hb));refine⟨_,rfl,_,rfl,Ub 0,vb.cB 0 J,D,b,r,t,i,by rw[eA];rfl,at2.ba,a.ok,im,λlc V5 p W w5 vA _ rkc g5 hp Hc qV=>?_⟩;have ku:=g5 _ _ (w5.off (cY _ _ ku) nrf).1;have acd:=(at2.xv w5 vA).same g5;obtain⟨Uc,rfl,kc,vc⟩:=vb.calls J qV;refine⟨_,rfl,Uc 0,vc.cB 0 J,_,_,.lst _,3,rfl,rfl,rF (cY _ _ hp) (rl i),rF (cY _ _ ku) (rl i),λW g6 Hd kg=>⟨_,rfl,bT ?_⟩⟩;have ku:=g6 _ _ (cY _ _ ku);have ace:=(acd.same cY).same g6;obtain⟨Ud,rfl,kd,vd⟩:=vc.calls J kg;have e1:Ud 1=Ua 1:=(kd 1 QD).trans ((kc 1 QD).trans (kb 1 QD));rw[←e1] at bb;refine⟨_,rfl,_,rfl,Ud 1,vd.cB 1 o2,B,j,r,t,i,by rw[eB,G];rfl,bb.same cY,oq,by rw[G];exact im,λle V6 p2 W w6 jM _ rke g7 dO He ou=>?_⟩;obtain⟨Ue,rfl,ke,ve⟩:=vd.calls o2 ou;have s0:aj (Ud 0) He:=by rw[←ke 0 QD];exact(ve.cB 0 J).sub
   have s1:=(ve.cB 1 o2).sub;rw[YW] at dO;refine⟨_,rfl,He,de.self ou.own,_,_,.lst _,3,rfl,rfl,rF (cY _ _ (s1 _ _ dO)) (rl i),rF (cY _ _ (s0 _ _ ku)) (rl i),λW g8 Hf lF=>⟨_,rfl,bT (aX ?_)⟩⟩;have sf:=cY.trans (g8.trans lF.cB.sub);exact⟨⟨_,_,rfl⟩,.inr ⟨lc,le,lF.own,w5.h.trans eA,rkc,(ace.same s0).same sf,w6.h.trans eB,rke,((jM.same g7).same s1).same sf⟩⟩
  ·have fQ:=acc.same (cY (H:=H3));refine⟨_,rfl,_,rfl,_,rfl,H3,de.self own,fl,T,b.ps,r,t,b.F,i,rfl,fQ.FL,fQ.turns,a.ok.nm,gb.1,n8,(dI Nb (by decide)),gb.2,im,λrm W _ g ku Hb Q=>?_⟩;have sb:=cY.trans (g.trans Q.cB.sub);have ku:=Q.cB.sub _ _ ku;refine⟨_,rfl,_,rfl,Hb,de.self Q.own,D,b,r,t,i,by rw[eA];rfl,((acc.same sb).same cY).ba,a.ok,im,λlc V5 p W w5 vA sm _ g5 hp Hc qV=>?_⟩;obtain⟨rfl,rfl⟩:=sm Ex;have sc:=cY.trans (g5.trans qV.cB.sub);refine⟨_,rfl,Hc,de.self qV.own,_,_,.lst _,3,rfl,rfl,rF (cY _ _ (qV.cB.sub _ _ hp)) (rl i),rF (cY _ _ (sc _ _ ku)) (rl i),λW g6 Hd kg=>⟨_,rfl,bT ?_⟩⟩;have iE:=cY.trans (g6.trans kg.cB.sub);have s3:=sb.trans (sc.trans iE);refine⟨_,rfl,_,rfl,Hd,de.self kg.own,B,j,r,t,i,by rw[eB,G];rfl,(bb.same s3).same cY,oq,by rw[G];exact im,λle V6 p2 W w6 jM Nm _ g7 dO He ou=>?_⟩;obtain⟨rfl,rfl⟩:=Nm Ey;have se:=cY.trans (g7.trans ou.cB.sub);rw[YW] at dO;refine⟨_,rfl,He,de.self ou.own,_,_,.lst _,3,rfl,rfl,rF (cY _ _ (ou.cB.sub _ _ dO)) (rl i),rF (cY _ _ (se _ _ (iE _ _ (sc _ _ ku)))) (rl i),λW g8 Hf lF=>⟨_,rfl,bT (aX ?_)⟩⟩;have s5:=s3.trans (se.trans (cY.trans (g8.trans lF.cB.sub)));exact⟨⟨_,_,rfl⟩,.inr ⟨_,_,lF.own,eA,Ex,acc.same s5,eB,Ey,bb.same s5⟩⟩
 have ce:r_ j.F r.length j.ps.length=r_ b.F r.length b.ps.length:=by rw[G];exact Zfb eF _ _
 rintro _ H3 ⟨⟨y,o8,rfl⟩,⟨Ua,D,B,va,eA,acc,eB,bb⟩|⟨D,B,own,eA,Ex,acc,eB,Ey,bb⟩⟩
 ·have fQ:=acc.same (cY (H:=H3));refine⟨_,rfl,Ua 0,va.cB 0 J,D,b,r,t,by rw[eA];rfl,fQ.ba,a.ok,λlc W w5 vA _ Hb Q=>?_⟩;have Ez:=fQ.xv w5 vA;obtain⟨Ub,rfl,kb,vb⟩:=va.calls J Q;rw[←kb 1 QD] at bb;refine⟨_,rfl,Ub 1,vb.cB 1 o2,B,j,r,t,by rw[eB];rfl,bb.same cY,oq,λle W w6 jM _ Hc qV=>?_⟩;obtain⟨Uc,rfl,kc,vc⟩:=vb.calls o2 qV;rw[ce];refine⟨λ_=>aJ,de.nil,_,_,.int _,3,rfl,rfl,mG,mG,λW g Hd kg=>q lc Hd (w5.h.trans eA) ?_⟩;rw[←kc 0 QD] at Ez;exact(Ez.same (vc.cB 0 J).sub).same λa o e=>(kg.rest a o rfl e).2
 ·have fQ:=acc.same (cY (H:=H3));refine⟨_,rfl,H3,de.self own,D,b,r,t,by rw[eA];rfl,fQ.ba,a.ok,λlc W w5 vA sm Hb Q=>?_⟩;obtain⟨g1,rfl⟩:=sm Ex;have sb:=cY.trans (g1.trans Q.cB.sub);refine⟨_,rfl,Hb,de.self Q.own,B,j,r,t,by rw[eB];rfl,(bb.same sb).same cY,oq,λle W w6 jM Nm Hc qV=>?_⟩;obtain⟨g2,rfl⟩:=Nm Ey;have sc:=cY.trans (g2.trans qV.cB.sub);rw[ce];exact⟨λ_=>aJ,de.nil,_,_,.int _,3,rfl,rfl,mG,mG,λW g Hd kg=>q _ Hd eA (((acc.same sb).same sc).same λa o e=>(kg.rest a o rfl e).2)⟩
def rowOf(a:bC)(p:Nat×Fc):Z V:=[.str p.2.k,.str (av a p.2.one),kV (bg a p.2)]
def CC(b:BS)(r:Z V):cm:=(b.fs.map (rowOf b.ps)).any λa=>decide (a=r)
def Zid(h:kV k=kV k'):k=k':=by
 cases k<;>cases k'<;>cases h<;>rfl
def ZdG:CC b [.str k,.str a,kV o]=af↔∃p∈b.fs,p.2.k=k/\av b.ps p.2.one=a/\bg b.ps p.2=o:=by
 unfold CC;rw[J1];constructor
 ·rintro⟨r,d,e⟩;obtain⟨p,c,rfl⟩:=Ye.mp d;have e:=eK e;injection e with i e;injection e with h e;injection e with g _;exact⟨p,c,V.str.inj i,V.str.inj h,Zid g⟩
 ·rintro⟨p,c,rfl,rfl,rfl⟩;exact⟨_,Ye.mpr ⟨p,c,rfl⟩,dg rfl⟩
theorem ZgE{H:Hp}{d:bC}{D:O}{l:Z (Nat×Fc)}:∀{c:Z V} {h:Z Nat} {b:Z (Nat×Fc)},Paired (λy i=>∃a p,l[i]?=U p/\y=.ref a/\a≠D/\H a=U (.tup (rowOf d p))) c h->h.map (λi=>l[i]?)=b.map U->∃k:Z O,c=k.map V.ref/\Paired (λa j=>H a=U (.tup j)/\j.all iS=af) k (b.map (rowOf d)):=by
 intro c h b o;induction o generalizing b with
 |nil=>
  intro e;cases b with
  |nil=>exact⟨[],rfl,.nil⟩
  |cons _ _=>cases e
 |cons f _ q=>
  intro e;cases b with
  |nil=>cases e
  |cons g b=>
   obtain⟨a,p,u,t,_,x⟩:=f;injection e with s r;obtain⟨v,n,m⟩:=q r;refine⟨a::v,by rw[t,n];rfl,.cons ⟨by rwa[←(Ym (u.symm.trans s))],?_⟩ m⟩;unfold rowOf;cases bg d g.2<;>rfl
def ZgF(a:Z α):(List.range a.length).map (λi=>a[i]?)=a.map U:=pR a _ _ λ_ _ h=>h
theorem ZcI(t:Paired (dt H k) as fs):∀{c:Z V} {d:Z Nat} {gs:Z (Nat×Fc)},Paired (λy i=>∃a,as[i]?=U a/\y=.ref a) c d->d.map (λi=>fs[i]?)=gs.map U->∃b:Z O,c=b.map V.ref/\Paired (dt H k) b gs:=by
 intro c d gs l;induction l generalizing gs with
 |nil=>
  intro e;cases gs with
  |nil=>exact⟨[],rfl,.nil⟩
  |cons _ _=>cases e
 |cons f _ m=>
  intro e;cases gs with
  |nil=>cases e
  |cons g gs=>
   obtain⟨a,s,r⟩:=f;obtain⟨p,n,u⟩:=fK t s;injection e with q o;obtain⟨b,j,h⟩:=m o;exact⟨a::b,by rw[r,j];rfl,.cons (by rwa[←Ym (n.symm.trans q)]) h⟩
def ZgG(l:bW xs n b)(u:i<b.ps.length)(s:r∈eQ b.F xs.length i)(m:CC b [.str bB,.str (av b.ps i),kV (.inl r)]=a7)(d:b.fs.length<63):KI xs n b ⟨bB,i,r,[]⟩:=by
 obtain⟨o,g,F,v⟩:=wa.mp s;obtain⟨H,inr,a⟩:=l.lv;have B:∀c∈b.F,dY xs.length b.ps.length c:=λc k=>by
  obtain⟨p,j,rfl⟩:=Ye.mp (k);exact(l.fg p j).ok
 obtain⟨f,A,y,x⟩:=F8 B inr (λc k=>.inr (a c k)) F v;refine⟨⟨⟨⟨u,absurd rfl⟩,.inl rfl,λ_=>o⟩,λt=>?_,λz=>absurd z (by show ¬cM bB=af;decide+kernel),⟨f,A,λG q=>?_⟩,d⟩,rfl⟩
 ·obtain⟨p,j,e⟩:=Ye.mp t;have e:keyOf p.2.k (av b.ps p.2.one) (bg b.ps p.2)=[.inr bB,.inr (av b.ps i),.inl r]:=e.trans (by unfold fP;rw[kT rfl];rfl);by_cases h:p.2.k=bB
  ·have J:=e;rw[kT h] at e;injection e with _ e;injection e with E e;injection e with D _;rw[ZdG.mpr ⟨p,j,h,Wi E,by rw[kT h,xP D]⟩] at m;cases m
  ·rw[iF h] at e;unfold keyOf at e
   grind
 ·rcases Yv.mp q with h|h;·exact y G h
  ·rw[Yn.mp h];exact⟨λ_=>x,absurd rfl⟩
theorem Po(q:H s=U (.lst (as.map V.ref)))(j:Paired (dt H y) as fs)(r:fs.length<=1000)(n:H D=aJ)(g:∀h,aj H h->h D=U (.lst ((fs.map λp=>(p.1:Int)).map V.int))->Q (.ref D) h):jv (j_ K s) zw (jC (zr K) (gn 0) (tC (.int 0))) z D H Q:=by
 have x:=c7 j;refine Oe (ak.of q) (by rw[Ya];exact d6 (kS x) r) n (λ_=>af) (λi=>V.int ((fs.map λp=>(p.1:Int)).getD i 0)) (λi v b k d _ A B l _=>kG (dq ?_)) λk d o=>g k d ?_
 ·rw[Yf] at b;obtain⟨a,u,rfl⟩:∃a,as[i]?=U a/\V.ref a=v:=by
   cases e:as[i]? with
   |none=>rw[e] at b;cases b
   |some c=>rw[e] at b;exact⟨c,rfl,Ym b⟩
  obtain⟨p,t,m⟩:=fK j u;exact⟨_,rfl,a,_,_,.int (p.1:Int),rfl,rfl,aB.of (d _ _ m),rfl,l _ _ rfl (aj.refl _) (by rw[Yg,Yf,t];rfl)⟩
 ·rw[o,yB,Ya,x];have e:(List.range fs.length).map (λi=>V.int ((fs.map λp=>(p.1:Int)).getD i 0))=(fs.map λp=>(p.1:Int)).map V.int:=(pR fs _ (V.int∘λp=>(p.1:Int)) λi v h=>by rw[Yg,Yf,h];rfl).trans Y7.symm
  rw[e]
structure oR(C CL CJ:O)(xs ys:Z Int)(td h nl sd s1 nu m wi:O)(ms ns:Z Int)(b:BS)(k:Nat)(l':BL)(b':BS)(di:O)(H:Hp):Prop where
 acc:Acc C CL CJ H xs ys td l' b' nl sd di
 eh:l'.h=h
 ep:b'.ps=b.ps
 ec:b'.co=b.co
 dn:b'.dn.length<=59+k
 fs:b'.fs.length<=b.fs.length
 hs:H s1=U (.lst (ms.map V.int))/\s1∉l'.fp
 hn:H nu=U (.lst (ns.map V.int))/\nu∉l'.fp
 hm:bN H m xs
 hw:bN H wi ys
def oR.xv(s:oR C CL CJ xs a g h nl i s1 j m e ms ns b k l d n H)(w:bZ H H' l c)(o:bc H' C CL CJ c xs a d):oR C CL CJ xs a g h nl i s1 j m e ms ns b k c d n H':=⟨s.acc.xv w o,w.h.trans s.eh,s.ep,s.ec,s.dn,s.fs,w.off s.hs.1 s.hs.2,w.off s.hn.1 s.hn.2,w.bN s.acc.ba s.hm,w.bN s.acc.ba s.hw⟩
def oR.same(s:oR C CL CJ xs a d h nl e s1 i m c ms ns b k j n l H)(g:aj H H'):oR C CL CJ xs a d h nl e s1 i m c ms ns b k j n l H':=s.xv (bZ.of g) (s.acc.ba.same g)
def CD(K:ah):Sp:=λc H Q _=>∃(a:O) (b:Z Int),c=[.ref a]/\ak K H a (b.map V.int)/\b.length<=63/\∀d,Q (.bl af) d
def EA(j m c g h l i q:O)(n z r:Int)(k p o e d b a:bq V):St:=[U (.ref j),U (.int n),U (.ref m),U (.ref c),U (.ref g),U (.int z),U (.ref h),U (.ref l),U (.ref i),U (.ref q),U (.int r),k,p,o,e,d,b,a]
abbrev Dg:Z ar:=["_law_script"]
def fV:aT ["_law_script","_law_size","_law_mother","_law_wife","_law_turns_here","_law_salt","_law_book","_law_names","_law_sides","_law_facts","_law_after_here","_law_numbers","_law_k","_law_out_here","_law_many","_law_due","_law_other","_law_room_here"] Dg (aO uc):=.a9
theorem Zie(F:aR K "law" "law" uc f fd)(oz:HasFn P w K mg I 1 "_law_cell" Ag (JJ K))(Bn:HasFn P w K mg I 2 "_law_row" Lg T3)(GN:HasFn P w K mg I 2 "_law_turns" Ll Rx)(jN:HasFn P w K mg I 4 "_law_same" oa (rM 4))(nj:HasFn P w K mg I 3 "_law_room" zJ Ck)(Hv:HasFn P w K mg I 15 "_law_grow" Ly (S7 C CL CJ))(Ic:HasFn P w K mg I 2 "_law_out" Lz T_)(GO:HasFn P w K mg I 13 "_law_asked" LA (Qw C CL CJ))(Fy:HasFn P w K mg I 14 "_law_as_fresh" LB (RL C CL CJ))(AX:bY P w K mg I 1 "undoable" C eZ (OC C CL CJ))(FU:bY P w K mg I 1 "kept" C eZ (SK C CL CJ))(vL:bY P w K mg I 12 "say" C zH (Kg C CL CJ))
  (we:HasFn P w K mg I 7 "land_of" CU (P7 CL))(wu:qj P w K mg I 1 "Hearth" C C5 (Ro C CL CJ))(bl:Bl mg):aI P w K mg I (fY P w) 16 f fd Dg (CD K):=by
 refine F.VU fV (λvs H Q E h=>?_) (λbO A outer s H vs Q E u h=>?_)
 ·obtain⟨a,X,rfl,_⟩:=h;rfl
 obtain⟨a,X,rfl,hs,hlen,q⟩:=h;have hu:=u.t4;have we:=we.frame.ow;have wu:=wu.frame;refine⟨_,(aq (cy 0 fV.nd (Bp (PL (K:=K) rfl) (pv 0) BI (BJ aM))) (aq (cy 1 fV.nd (bj iI aM (bj eP (aV oz u (aa (pv 0) (aa aM ag))) aM))) (aq (cy 2 fV.nd (aV Bn u (aa (aV oz u (aa (pv 0) (aa aM ag))) (aa (pv 1) ag)))) (aq (cy 3 fV.nd (aV Bn u (aa (aV oz u (aa (pv 0) (aa aM ag))) (aa (pv 1) ag)))) (aq (cy 4 fV.nd (aV GN u (aa (pv 2) (aa (pv 3) ag)))) (aq (cy 5 fV.nd (bj eP (aV oz u (aa (pv 0) (aa aM ag))) aM)) (aq (cy 6 fV.nd (Cv wu u (by decide) rfl (aa (aV we u (aa (pv 2) (aa (pv 3) ag))) ag))) (aq (oH (aV Hv u (aa (pv 6) (aa (Bp (PL (K:=K) rfl) (pv 0) (BJ aM) BI) (aa (pv 4) (aa (pv 5) ag))))) (jr (K:=K) (n:=4) rfl rfl (bX (bI 7 fV.nd) (bX (bI 8 fV.nd) (bX (bI 9 fV.nd) (bX (bI 10 fV.nd) jo)))))) (aq (N7 (i:=11) (x:="_law_one") (fr:=[]) (cl:=[]) rfl fV.nd rfl (gR rfl) (.f_ trivial trivial) (eS (K:=K) rfl (pv 9)) (λ_ _ _ _=>kA) (λ_ _ _ _=>(bh (iT K) (pv 0) aM))) (aq (gm Zjy rfl (pO rfl bl.kB (aa aM ag)) (bI 12 fV.nd) (aq (ig (i:=13) fV.nd rfl (kv rfl) (aV Ic u (aa (pv 0) (aa (pv 12) (aa (pv 11) (aa (pv 10) ag)))))) (aq (cy 14 fV.nd (oK AX u (by decide) (pv 6))) (aq (cy 15 fV.nd (dX (aa bA (aa i8 ag)))) (aq (aW (ic (mZ (K:=K) rfl) (pv 13) (iZ (x:="_law_one") (fr:=[]) (cl:=[]) rfl (.f_ trivial trivial) (eS (K:=K) rfl (pv 9)) (λ_ _ _ _=>kA) (λ_ _ _ _=>(bh (iT K) (pv 0) aM))) QU) (aq (cy 15 fV.nd bA) (au (B6 (i:=14) fV.nd rfl (gR rfl) aM JA))) a_) (aq (N7 (i:=9) (x:="_law_one") (fr:=[("_law_out_here",13)]) (cl:=[("_law_out_here",s.heap.objs.size+1)]) rfl fV.nd rfl (gR rfl) (.f_ ⟨rfl,trivial⟩ ⟨⟨rfl,.inl rfl,.inl rfl,rfl⟩,trivial⟩) (eS (K:=K) rfl (pv 9)) (λ_ _ _ _=>wy (bJ mI (bh (iT K) (pv 0) aM) (pv 1))) (λ_ _ _ _=>(pv 0))) (aq (aW (PW.pt (pw_or (i4 (eX (aV jN u (aa (aV GO u (aa (pv 6) (aa (pv 13) ag))) (aa (pv 15) ag))))) (pw_or1 (i4 (eX (aV jN u (aa (oK AX u (by decide) (pv 6)) (aa (pv 14) ag)))))))) (au (aL i8)) a_) (au (aW (i4 (eX (aV jN u (aa (oK FU u (by decide) (pv 6)) (aa (pv 9) ag))))) (au (aL i8)) a_))))))))) (aq (cy 16 fV.nd (Cv wu u (by decide) rfl (aa (aV we u (aa (pv 2) (aa (pv 3) ag))) ag))) (aq (aW (i4 (eX (aV Fy u (aa (pv 6) (aa (pv 16) (aa (pv 7) (aa (pv 8) (aa (pv 9) (aa (pv 4) ag))))))))) (au (aL i8)) a_) (aq (aW (bJ (IL (K:=K) rfl (Sn hu)) (pv 7) (dP ag)) (au (aL i8)) a_) (aq (cy 17 fV.nd (aV nj u (aa (pv 9) (aa (pv 4) (aa (bh (iL K) (pv 7) aM) ag))))) (aq (aW (ic (ZhW (bG u)) (dX (aa bA (aa (bh (iL K) (pv 7) aM) (aa (bh (iL K) (pv 17) aM) ag)))) (iZ (x:="_law_one") (fr:=[]) (cl:=[]) rfl (.f_ trivial trivial) (eS (K:=K) rfl (pv 9)) (λ_ _ _ _=>kA) (λ_ _ _ _=>(Bp (Zf4 (K:=K) rfl) (pv 0) (BJ aM) BI))) QU) (au (aL i8)) a_) (au (aL (aV jN u (aa (cV vL u (by decide) (pv 6) (aa (bh (iL K) (pv 7) aM) (aa (bh (iL K) (pv 17) aM) ag))) (aa (pv 10) ag)))))))))))))))))))),?_⟩;have sz:(10000:Nat)<=sizeLine:=by rw[c4];decide
 obtain⟨ms,em⟩:=Py X aJ (U 63);have lms:ms.length<=X.length:=by
  have:=Gf (X.map V.int) aJ (U 63);rw[em,Ya,Ya] at this;exact this
 obtain⟨cs,ec⟩:=Py ms (U 4) aJ;have lcs:cs.length<=59:=by
  have:=Ze8 (xs:=ms.map V.int) (by rw[Ya];exact dI lms hlen);rw[ec,Ya] at this;exact this
 refine cC ?_;refine⟨_,rfl,_,rfl,a,_,rfl,hs,λN H0 n1 g0 yg=>?_⟩;rw[em] at yg;refine cC ?_;refine⟨_,rfl,N,ms,0,rfl,ak.of yg,Int.le_refl 0,λc0=>⟨_,_,rfl,rfl,(by show(0:Int)<7;decide),_,_,rfl,rfl,?_⟩⟩;try dsimp only
 have m0:=W9 c0 (show(7:Int)≠0 by decide);have m1:=Wt c0 (show(0:Int)<7 by decide);obtain⟨n,en⟩:∃n:Nat,2+c0 % 7=(n:Int):=⟨(2+c0 % 7).toNat,QO⟩;rw[en];have n2:2<=n:=QO
 have n8:n<=8:=QO
 refine cC ?_;refine⟨_,rfl,N,ms,1,rfl,ak.of yg,QD,λc1=>⟨_,rfl,c1,n,rfl,(iy (qG _) n2),(dI n8 (by decide)),λm B H1 nm g1 hM px=>?_⟩⟩;refine cC ?_;refine⟨_,rfl,N,ms,2,rfl,ak.of (g1 _ _ yg),QD,λc2=>⟨_,rfl,c2,n,rfl,(iy (qG _) n2),(dI n8 (by decide)),λwi ys H2 nw g2 hW py=>?_⟩⟩;have lx:B.length=n:=by rw[px.length_eq,fS]
 have ly:ys.length=n:=by rw[py.length_eq,fS]
 have gd:oP B ys:=⟨tQ px,tQ py,QO,QO,(dI (mD lx) n8)⟩;refine cC ?_;refine⟨_,rfl,_,rfl,m,wi,B,ys,rfl,g2 _ _ hM,hW,gd,λT H3 ntd g3 ht=>?_⟩;have kL:=(g1.trans g2).trans g3;refine cC ?_;refine⟨_,rfl,N,ms,3,rfl,ak.of (kL _ _ yg),QD,λc3=>⟨_,_,rfl,rfl,(by show(0:Int)<97;decide),?_⟩⟩;try dsimp only
 have z0:=W9 c3 (show(97:Int)≠0 by decide);have z1:=Wt c3 (show(0:Int)<97 by decide);obtain⟨z,ez⟩:∃z:Nat,c3 % 97=(z:Int):=⟨(c3 % 97).toNat,(k8 (qd z0))⟩;rw[ez];have hz:z<97:=QO
 refine cC ?_;refine⟨_,rfl,_,rfl,rfl,λZkw=>⟨H3,de.self Zkw,m,wi,B,ys,rfl,cY _ _ (g3 _ _ (g2 _ _ hM)),cY _ _ (g3 _ _ hW),gd.1,gd.2.1,gd.2.2.1,gd.2.2.2.1,gd.2.2.2.2,λLd W4 gw la H4 ou=>λx G nx qK nd=>?_⟩⟩;have g4:aj H3 H4:=cY.trans (gw.trans ou.cB.sub);have la:=la.same ou.cB.sub;have LC:=ou.own.make (C:=C) nx qK (λz=>nd z.symm) [];have Am:upd H4 G (.own x) x=aJ:=by rw[aA (λz=>nd z.symm)];exact nx
 have g5:aj H4 (upd (upd H4 G (.own x)) x (.ins C G [])):=(cK qK _).trans (cK Am _);have YY:upd (upd H4 G (.own x)) x (.ins C G []) x=U (.ins C G []):=aQ;generalize upd (upd H4 G (.own x)) x (.ins C G [])=H5 at LC g5 YY⊢;refine⟨H5,de.self LC,x,G,Ld,B,ys,rfl,cY _ _ YY,(la.same g5).same cY,λl W6 eh D_ b6 ba H6 Nn=>⟨rfl,?_⟩⟩;subst eh;have keep:∀{a:O} {o:HO},H4 a=U o->H6 a=U o/\a∉l.fp:=λ{a o} e=>by
  have na:a≠l.h:=cA e nx;refine⟨Nn.cB.sub _ _ (b6 _ _ (cY _ _ (g5 _ _ e)) na),λz=>?_⟩;have:=D_ a z na;rw[cY _ _ (g5 _ _ e)] at this;cases this
 have ba:=ba.same Nn.cB.sub;have EB:=g4 _ _ (kL _ _ yg);have ht4:=ht.same g4;have xO:=g4 _ _ (g3 _ _ (g2 _ _ hM));have Al:=g4 _ _ (g3 _ _ hW);obtain⟨tm,tf,tw,ts,fq,q1,q2,q3,q4⟩:=ht4;have YZ:gS H6 T B ys:=⟨tm,tf,tw,ts,(keep fq).1,(keep q1).1,(keep q2).1,(keep q3).1,(keep q4).1⟩;refine⟨_,rfl,_,rfl,_,rfl,N,_,rfl,ak.of (keep EB).1,λca H7 nca g7 hca=>⟨_,rfl,_,rfl,B,ys,z,ca,T,l,⟨[],[],0,[],[]⟩,cs,rfl,ba.same g7,rfl,gd,by rw[hca,ec],ba.fresh nca,YZ.same g7,(keep fq).2,hz,lcs,λl2 b R sd fl st H8 wt si=>?_⟩⟩;refine⟨st,_,rfl,aB.of si.tup,rfl,_,_,rfl,bu ⟨_,_,rfl,bu ⟨_,_,rfl,bu ⟨_,_,rfl,bu ⟨rfl,?_⟩⟩⟩⟩⟩;dsimp only;have eh:=wt.h;have Nb:=si.ok.m;have Np:H8 N=U (.lst (ms.map V.int))/\N∉l2.fp:=wt.off (g7 _ _ (keep EB).1) (keep EB).2;have Y_:=wt.bN (ba.same g7) (g7 _ _ (keep xO).1);have Za:=wt.bN (ba.same g7) (g7 _ _ (keep Al).1);have acc:=si.acc;have cd:=si.cd;have cf:=si.cf;obtain⟨as,gU,cT⟩:=acc.facts;have cc:=si.cc;clear ou Nn keep EB xO Al YZ LC;refine cC ?_;refine⟨_,rfl,fl,rfl,⟨_,ak.of gU⟩,λnu Nq=>Po gU cT (d6 (V1 _ _) (d6 cf (by decide))) Nq λH9 g9 h9=>?_⟩;obtain⟨X,en⟩:∃X:Z Int,X=b.fs.map λp=>(p.1:Int):=⟨_,rfl⟩;rw[←en] at h9;have nb:∀n∈X,-1<=n/\n<10^50:=λn hn=>by
  rw[en] at hn;obtain⟨p,J,rfl⟩:=Ye.mp hn;have:=acc.ok.lt p J;omega
 have s0:oR C CL CJ B ys T l.h R sd N nu m wi ms X b 0 l2 b fl H9:=⟨acc.same g9,eh,rfl,rfl,cd,Yd _,⟨g9 _ _ Np.1,Np.2⟩,⟨h9,acc.ba.fresh Nq⟩,g9 _ _ Y_,g9 _ _ Za⟩;have fl0:=acc.ok.fl;clear acc si Np Y_ Za gU cT wt h9 Nq g9;refine ie (λσ H'=>∃(l':BL) (d:BS) (di:O) (jK jL vB vC:bq V),oR C CL CJ B ys T l.h R sd N nu m wi ms X b 5 l' d di H'/\σ=EA N m wi T l.h R sd di n z b.co (U (.ref nu)) jK jL vB vC aJ aJ) (λlP eO=>?_) ?_
 ·refine⟨5,rfl,QD,QD,Bf (lo:=0) (n:=(5:Int).toNat) (λk σ H'=>∃(l':BL) (d:BS) (di:O) (jK jL vB vC:bq V),oR C CL CJ B ys T l.h R sd N nu m wi ms X b k l' d di H'/\σ=EA N m wi T l.h R sd di n z b.co (U (.ref nu)) jK jL vB vC aJ aJ)
   ⟨l2,b,fl,aJ,aJ,aJ,aJ,s0,rfl⟩ ?_ (λσ H' h=>eO _ _ h)⟩
  rintro k σ HA hk ⟨l',d,di,jK,jL,vB,vC,sA,rfl⟩;rw[Aj];have k5:k<5:=hk;have dnk:=sA.dn;refine bu ?_;refine cC ?_;refine⟨_,rfl,_,rfl,_,rfl,_,rfl,N,nu,ms,X,k,(b.co:Int),rfl,sA.hs.1,sA.hn.1,nb,⟨QO,QO⟩,λo HB ob gB=>?_⟩;have sB:=sA.same gB;have big:o.natAbs.log2<1920:=by
   have h:o.natAbs<2^1920:=Y2 (show o.natAbs<10^51 by omega) QK;by_cases z:o.natAbs=0;·rw[z];decide
   ·exact(Nat.log2_lt z).mpr h
  refine cC ?_;obtain⟨G,ho⟩:=sB.acc.ba.obj;rw[sB.eh] at ho;refine⟨_,rfl,l.h,G,_,rfl,ho,rfl,l',d,B,ys,by rw[sB.eh];rfl,sB.acc.ba,?_⟩;refine cC ?_;refine⟨by show 2<=sizeLine;decide,λdu HC MT gC hdu=>?_⟩;have sC:=sB.same gC;obtain⟨as,gU,cT⟩:=sC.acc.facts;have al:=c7 cT;have YH:=sC.acc.ok.fl;refine nB (λσ H'=>aj HC H'/\∃(dv:V) (mv:Int),((∃p∈d.fs,(p.1:Int)=o)->dv=.str "kept"/\mv=(d.dn.length:Int)+1)/\((∀p∈d.fs,(p.1:Int)≠o)->dv=.ref du/\mv=(d.dn.length:Int))/\σ=EA N m wi T l.h R sd di n z b.co (U (.ref nu)) (U (.int (k:Int))) (U (.int o)) (U (.int mv)) (U dv) aJ aJ) (λnx hn=>?_) ?_
  ·refine⟨_,rfl,_,rfl,di,rfl,⟨_,ak.of gU⟩,λD hD=>Po gU cT (dI YH (by decide)) hD λHD gD Nr=>⟨D,_,rfl,.inl (ak.of Nr),rfl,yN _,_,rfl,?_⟩⟩;rw[bR Yi,wC];refine bF (λc=>?_) (λc=>aX (hn _ _ ⟨gD,.ref du,_,λ⟨p,J,e⟩=>absurd (dg (Ye.mpr ⟨p,J,e⟩)) c,λ_=>⟨rfl,rfl⟩,rfl⟩));obtain⟨p,J,e⟩:=Ye.mp (eK c);refine setC ?_;exact⟨_,rfl,_,_,rfl,rfl,hn _ _ ⟨gD,.str "kept",_,λ_=>⟨rfl,rfl⟩,λno=>absurd e (no p J),rfl⟩⟩
  rintro _ HD ⟨gD,dv,mv,dy,dno,rfl⟩;have sD:=sC.same gD;have Vn:=gD _ _ gU;refine cC ?_;refine⟨_,rfl,di,rfl,⟨_,ak.of Vn⟩,λD hD=>?_⟩;refine vT (K:=K) (ak.of Vn) (by rw[Ya];omega) hD (λi=>(d.fs[i]?.map λp=>decide ((p.1:Int)≠o)).getD a7) (λi y H2=>∃a,as[i]?=U a/\y=.ref a) (λ_ _ _ _ _ h=>h) (λi v hi H2 g2 _ Kt Kf kt kf=>?_) λus HE gE hE pr=>?_
  ·rw[Yf] at hi;obtain⟨a,ea,rfl⟩:∃a,as[i]?=U a/\V.ref a=v:=by
    cases e:as[i]? with
    |none=>rw[e] at hi;cases hi
    |some c=>rw[e] at hi;exact⟨c,rfl,Ym hi⟩
   obtain⟨p,Nt,J⟩:=fK cT ea;refine⟨_,rfl,a,_,_,.int (p.1:Int),rfl,rfl,aB.of (g2 _ _ (gD _ _ J)),rfl,_,rfl,rfl,_,rfl,?_⟩;have eb:(!decide (V.int (p.1:Int)=V.int o))=decide ((p.1:Int)≠o):=by
    by_cases c:(p.1:Int)=o;·rw[c,dg rfl,g_ (λz=>z rfl)];rfl
    ·rw[g_ (λz=>c (V.int.inj z)),dg c];rfl
   rw[eb];have ee:(d.fs[i]?.map λp=>decide ((p.1:Int)≠o)).getD a7=decide ((p.1:Int)≠o):=by rw[Nt];rfl
   refine bF (λc=>⟨_,rfl,kt _ H2 (by rw[ee];exact c) (aj.refl _) ⟨a,ea,rfl⟩⟩) (λc=>kf H2 (by rw[ee];exact W3.mpr c) (aj.refl _))
  rw[Ya,al] at pr;have Zb:=gD.trans gE;obtain⟨qN,rfl,Dh⟩:=ZcI (L2.Paired.bL cT λ_ _ e=>Zb _ _ e:Paired (dt HE d.ps) as d.fs) pr (Oz d.fs λp=>decide ((p.1:Int)≠o));have g:=sD.same gE;have nD:D∉l'.fp:=sD.acc.ba.fresh hD;refine nB (λσ H'=>∃(l6:BL) (b6:BS),oR C CL CJ B ys T l.h R sd N nu m wi ms X b (k+1) l6 b6 D H'/\σ=EA N m wi T l.h R sd D n z b.co (U (.ref nu)) (U (.int (k:Int))) (U (.int o)) (U (.int mv)) (U dv) aJ aJ) (λnx hn=>?_) ?_
  ·obtain⟨_,_,_,_,fq,_⟩:=id g.acc.turns;have dnE:=g.dn;have Zc:=g.fs;by_cases yes:∃p∈d.fs,(p.1:Int)=o
   ·obtain⟨rfl,rfl⟩:=dy yes;refine⟨_,rfl,_,rfl,l',d,B,ys,o,by rw[g.eh];rfl,g.acc.ba,g.acc.ok,QO,big,λzz c eo mp l6 HF w6 jM=>?_,λno=>absurd yes (λ⟨p,J,e⟩=>no p J e)⟩;refine⟨_,rfl,_,_,.str "kept",3,rfl,rfl,JP _,JP _,λHG gG=>⟨_,rfl,bT ?_⟩⟩;have Nu:=jM.same gG;have wG:=w6.same gG;obtain⟨AW,lO⟩:=Nu.obj;rw[w6.h,g.eh] at lO;refine⟨_,rfl,l.h,AW,_,rfl,lO,rfl,l6,d.without zz c,B,ys,by rw[w6.h,g.eh];rfl,Nu,?_⟩;have ed:((d.without zz c).dn.length:Int)=(d.dn.length:Int)+1:=by
     show((d.dn++[_]).length:Int)=_;rw[Yj];rfl
    rw[ed];refine⟨_,rfl,_,_,.int _,3,rfl,rfl,mG,mG,λHH gH=>⟨_,rfl,bT (aX (hn _ _ ⟨l6,d.without zz c,?_,rfl⟩))⟩⟩;have ef:d.fs.filter (λp=>decide ((p.1:Int)≠o))=dh zz d.fs:=by
     unfold dh;refine Jl λp _=>?_;rw[eo,We,eJ,eJ];omega
    rw[ef] at Dh;have sub:(dh zz d.fs).Sublist d.fs:=Xv;have wH:=wG.same gH;obtain⟨a1,c1⟩:=wH.off g.acc.names g.acc.n1;obtain⟨a2,c2⟩:=wH.off g.acc.c_ g.acc.n2;obtain⟨a3,c3⟩:=wH.off hE nD;exact⟨⟨Nu.same gH,g.acc.ok.drop zz (Yd _) (by rw[Yj];show _+1<=200;omega) (Yx _),g.acc.ac.mono (λx mx=>(sub.map _).subset mx),a1,c1,a2,c2,⟨qN,a3,yI wH g.acc.ba Dh⟩,c3,wH.gS g.acc.ba g.acc.turns g.acc.n4,(wH.off fq g.acc.n4).2,g.acc.so.sublist (sub.map _)⟩,w6.h.trans g.eh,g.ep,g.ec,QO,Yz sub.length_le Zc,wH.off g.hs.1 g.hs.2,wH.off g.hn.1 g.hn.2,wH.bN g.acc.ba g.hm,wH.bN g.acc.ba g.hw⟩
   ·have no:∀p∈d.fs,(p.1:Int)≠o:=λp J e=>yes ⟨p,J,e⟩;obtain⟨rfl,rfl⟩:=dno no;have at2:∀{H:Hp} {p:O},H p=U (.tup [.str "no fact",.bl af])->At H 3 (.ref p) (.tup [.str "no fact",.bl af]):=λh=>Zhq h QD (.cons (JP _) (.cons (by unfold At;rfl) .nil));refine⟨_,rfl,_,rfl,l',d,B,ys,o,by rw[g.eh];rfl,g.acc.ba,g.acc.ok,QO,big,λzz c eo mp=>absurd eo.symm (no _ mp),λ_ p HF gF J=>?_⟩;refine⟨_,rfl,_,_,.tup _,3,rfl,rfl,at2 J,at2 (gF _ _ (Zb _ _ hdu)),λHG gG=>⟨_,rfl,bT ?_⟩⟩;have sG:=(g.same gF).same gG;obtain⟨AW,lO⟩:=sG.acc.ba.obj;rw[sG.eh] at lO;refine⟨_,rfl,l.h,AW,_,rfl,lO,rfl,l',d,B,ys,by rw[sG.eh];rfl,sG.acc.ba,?_⟩;refine⟨_,rfl,_,_,.int _,3,rfl,rfl,mG,mG,λHH gH=>⟨_,rfl,bT (aX (hn _ _ ⟨l',d,?_,rfl⟩))⟩⟩;have ef:d.fs.filter (λp=>decide ((p.1:Int)≠o))=d.fs:=J7.mpr λp J=>dg (no p J);rw[ef] at Dh;have g6:=(gF.trans gG).trans gH;have L:=g.same g6;exact⟨⟨L.acc.ba,L.acc.ok,L.acc.ac,L.acc.names,L.acc.n1,L.acc.c_,L.acc.n2,⟨qN,g6 _ _ hE,L2.Paired.bL Dh λ_ _ e=>g6 _ _ e⟩,nD,L.acc.turns,L.acc.n4,L.acc.so⟩,L.eh,L.ep,L.ec,(lK dnk),Zc,L.hs,L.hn,L.hm,L.hw⟩
  rintro _ HF ⟨l6,b6,s6,rfl⟩;obtain⟨AW,lO⟩:=s6.acc.ba.obj;rw[s6.eh] at lO;refine⟨_,rfl,l.h,AW,_,rfl,lO,rfl,l6,b6,B,ys,by rw[s6.eh];rfl,s6.acc.ba,s6.acc.ok.zs,s6.acc.ok.fl,λkp ka dN HG MQ gG pm so9 ML pk=>?_⟩;obtain rfl:=Zi6 pm so9 s6.acc.so;have s7:=s6.same gG;obtain⟨as3,h3,p3⟩:=s7.acc.facts;have vw:=s6.acc.ok.fl;exact⟨_,rfl,_,_,YL b6.ps b6.fs,3,rfl,rfl,RJ ML pk (dI vw (by decide)),RJ h3 p3 (dI vw (by decide)),λHH gH=>⟨_,rfl,bT (aX ⟨l6,b6,D,_,_,_,_,s7.same gH,rfl⟩)⟩⟩
 rintro σ H9 ⟨l',d,di,jK,jL,vB,vC,s9,rfl⟩;have z2:0<2:=QD
 have o2:1<2:=QD
 refine cC ?_;refine⟨_,rfl,_,rfl,rfl,λZkx=>⟨λ_=>aJ,de.nil,m,wi,B,ys,rfl,Bs de.nil.sub s9.hm,Bs de.nil.sub s9.hw,gd.1,gd.2.1,gd.2.2.1,gd.2.2.2.1,gd.2.2.2.2,λLd W gw la HA Nv=>λx G nx qK nd=>?_⟩⟩;have v0:Vw 1 (λ_=>H9) [] H9:=⟨λi hi=>de.self Zkx,λi k hi hk ne=>absurd (by omega) ne,λp J=>(nomatch J),Jb⟩;have e1:qJ (λ_=>H9) 1 (λ_=>aJ) 1=λ_=>aJ:=tN;obtain⟨U1,eW,k1,v2⟩:=v0.nil.calls o2 (W:=W) (H':=HA) (by rw[e1];exact Nv);have k1:U1 0=H9:=(k1 0 QD).trans (rL QD);have v3:=v2.make (C:=C) o2 Nv.own nx qK (λz=>nd z.symm) [];have Nx:=(v2.cB 1 o2).sub.free nx;have Ny:=(v2.cB 1 o2).sub.free qK;rw[eW] at Nx Ny;obtain⟨U2,eU⟩:∃U2,U2=qJ U1 1 (upd (upd (U1 1) G (.own x)) x (.ins C G [])):=⟨_,rfl⟩;rw[←eU] at v3;have eV:U2 1=upd (upd W G (.own x)) x (.ins C G []):=by rw[eU,tN,eW]
 have k2:U2 0=H9:=by rw[eU,rL QD];exact k1
 have gW:aj W (U2 1):=λc o e=>by
  rw[eV,aA (cA e Nx),aA (cA e Ny)];exact e
 have DX:U2 1 x=U (.ins C G []):=by rw[eV];exact aQ
 clear eU eV e1 v0;generalize upd (upd HA G (.own x)) x (.ins C G [])=HB at v3⊢;refine⟨U2 1,v3.cB 1 o2,x,G,Ld,B,ys,rfl,cY _ _ DX,(la.same gW).same cY,λl3 W2 eh3 _ _ iV HC Zd=>⟨rfl,?_⟩⟩;subst eh3;obtain⟨U3,rfl,k3,v4⟩:=v3.calls o2 Zd;have a3:Acc C CL CJ (U3 0) B ys T l' d R sd di:=by rw[k3 0 QD,k2];exact s9.acc
 refine⟨_,rfl,_,rfl,_,rfl,_,rfl,_,rfl,_,rfl,U3,B,ys,T,l',l3,d,R,sd,di,by rw[s9.eh];rfl,v4,a3,iV,λl5 HD e5 aD=>⟨_,rfl,bT (aX ?_)⟩⟩;have e5:l5.h=l.h:=e5.trans s9.eh;have dn9:=s9.dn;have m9:=s9.acc.ok.m;have f9:=s9.fs;clear v2 v3 v4 a3 Nv Zd k1 k2 k3 gW DX Nx Ny la;refine⟨_,rfl,by show 0<=sizeLine;decide,λe0 HE vg ge qO=>⟨R,e0,_,rfl,rfl,ak.of (ge _ _ aD.names),ak.of qO,_,rfl,bF (λcn=>q HE) (λcn=>aX ?_)⟩⟩;have p0:0<d.ps.length:=by
  cases e:d.ps with
  |nil=>unfold iW at cn;rw[e] at cn;exact absurd rfl cn
  |cons _ _=>exact Nj _
 have aE:=aD.same ge;have Nz:d_ (iW d.ps) 0=U (.str (av d.ps 0)):=SX (z:=0) (Int.le_refl 0) QO;obtain⟨r,rs,er⟩:=ZcF aE.ok p0;have fQ:d_ ((r::rs).map V.int) 0=U (.int r):=iG (xs:=(r::rs).map V.int) (j:=0) (v:=V.int r) rfl;refine cC ?_;refine⟨_,rfl,_,rfl,_,rfl,R,_,_,_,rfl,rfl,ak.of aE.names,Nz,di,T,d.ps,B,ys,d.F,0,rfl,aE.FL,aE.turns,aE.ok.nm,aE.ok.good.1,gd.2.2.2.2,(dI m9 (by decide)),aE.ok.good.2,p0,λrm HF YX gF ku=>?_⟩;rw[er] at ku;have aF:=aE.same gF;refine⟨_,rfl,R,_,_,_,rfl,rfl,ak.of aF.names,Nz,_,rfl,rm,_,_,.int r,rfl,rfl,ak.of ku,fQ,by show 3<=sizeLine;decide,λt HG nt gG ht=>?_⟩;have aG:=aF.same gG;have Zky:=gG _ _ ku;obtain⟨as,gU,cT⟩:=aG.facts;have al:=c7 cT;refine⟨_,rfl,di,rfl,⟨_,ak.of gU⟩,λD hD=>?_⟩;refine vT (K:=K) (ak.of gU) (by rw[Ya];omega) hD (λ_=>af) (λi y H2=>∃a p,d.fs[i]?=U p/\y=.ref a/\a≠D/\H2 a=U (.tup (rowOf d.ps p))) (λi y H1 H2 br ⟨a,p,e1,e2,e3,e4⟩=>⟨a,p,e1,e2,e3,br _ _ e4 e3⟩) (λi v hi H2 g2 ⟨yz,Nr⟩ Kt Kf kt kf=>kG (dq ?_)) λus HH gH hH pr=>?_
 ·rw[Yf] at hi;obtain⟨a,ea,rfl⟩:∃a,as[i]?=U a/\V.ref a=v:=by
   cases e:as[i]? with
   |none=>rw[e] at hi;cases hi
   |some c=>rw[e] at hi;exact⟨c,rfl,Ym hi⟩
  obtain⟨p,Nt,J⟩:=fK cT ea;refine⟨_,rfl,_,rfl,a,_,rfl,aB.of (g2 _ _ J),λh=>absurd (show HT.cF 4 0 (U 1)=0 from h.1) QD,λp2 qM=>kt _ _ rfl (cK qM _) ⟨p2,p,Nt,rfl,(λw=>by rw[w,Nr] at qM;cases qM),aQ⟩⟩
 rw[yB,Ya,al] at pr;obtain⟨ra,rfl,prr⟩:=ZgE pr (ZgF d.fs);refine⟨t,D,_,ra,_,rfl,rfl,gH _ _ ht,rfl,hH,prr,_,rfl,bF (λcr=>q HH) (λcr=>aX ?_)⟩;have nr:CC d [.str bB,.str (av d.ps 0),kV (.inl r)]=a7:=W3.mpr cr;have so:=ZgG aG.ok p0 (by rw[er];exact Yk) nr QO;have aH:=aG.same gH;obtain⟨dxc,zO⟩:=aH.ba.obj;rw[e5] at zO;refine⟨_,rfl,l.h,dxc,_,rfl,zO,rfl,_,rfl,R,_,_,_,rfl,rfl,ak.of aH.names,Nz,_,rfl,rm,_,_,.int r,rfl,rfl,ak.of (gH _ _ Zky),fQ,l5,d,B,ys,⟨bB,0,r,[]⟩,by rw[e5];rfl,aH.ba,aH.ok,so,(lJ dn9 (by decide)),λl6 HI wI baI=>⟨_,rfl,_,_,.int (b.co:Int),3,rfl,rfl,by rw[s9.ec];exact mG,mG,λHJ gJ=>q HJ⟩⟩
def all_mk{l:PySem.W.OpenLaw}{w:cN}{K:ah}{h:cI}{mg:aU}{fa:O}(X:K.In h)(G:h.Ns mainGlobals mg)(df:mg "law"=U (.ref fa))
  (p1:cv K "is_turn" HP f1)
  (p2:cv K "still" IM f2)
  (p3:cv K "behind" Il f3)
  (p4:cv K "back" JX f4)
  (p5:cv K "check_turn" FY f5)
  (p6:cv K "check_rows" FZ f6)
  (p7:cv K "check_parents" E2 f7)
  (p8:cv K "land_of" HQ f8)
  (p9:cv K "followed" GS f9)
  (p10:cv K "turned_back" FC L5)
  (p11:cv K "lines_up" GU f11)
  (p12:cv K "is_tie" Im f12)
  (p13:cv K "tie_turn" GV f13)
  (p14:cv K "fact_key" GW f14)
  (p15:cv K "keep_fact" Gj f15)
  (p16:cv K "fact_fits" Gk f16)
  (p17:cv K "is_name" HR f17)
  (p18:cv K "check_person" Fg f18)
  (p19:cv K "check_tie" Gm f19)
  (p20:cv K "sides_fit" Gn f20)
  (p21:cv K "told_already" Fh f21)
  (p22:cv K "check_elders" Fi f22)
  (p23:cv K "check_saying" Fj f23)
  (p24:cv K "check_section" E3 f24)
  (p25:cv K "is_person" Gp f25)
  (p26:cv K "open_of" HS f26)
  (p27:cv K "dealings" GX f27)
  (p28:cv K "_law_cell" Om f28)
  (p29:cv K "_law_draws" NU f29)
  (p30:cv K "_law_turn" Oo f30)
  (p31:cv K "_law_row" HU f31)
  (p32:cv K "_law_inverse" FD f32)
  (p33:cv K "_law_after" Gq f33)
  (p34:cv K "_law_turns" Gr f34)
  (p35:cv K "_law_same" A6 f35)
  (p36:cv K "_law_nets" GY f36)
  (p37:cv K "_law_carried" FE f37)
  (p38:cv K "_law_room" GZ f38)
  (p39:cv K "_law_name" G0 f39)
  (p40:cv K "_law_up" Io f40)
  (p41:cv K "_law_told" G1 f41)
  (p42:cv K "_law_sided" Gs f42)
  (p43:cv K "_law_word" G3 f43)
  (p44:cv K "_law_pick" G4 f44)
  (p45:cv K "_law_fact" G5 f45)
  (p46:cv K "_law_put" HV f46)
  (p47:cv K "_law_step" G6 f47)
  (p48:cv K "_law_grow" G7 f48)
  (W:cv K "_law_asked" Gu f49)
  (T:cv K "_law_out" HW f50)
  (R:cv K "_law_as_fresh" Fm f51)
  (Q:cv K "law" uc f52)
  (z:sL K ["len","abs","list","range","tuple","any","all","isinstance","bool","int","str","sorted","min","max","sum","dict","reversed","ValueError"])
  (Zav:nsIn K mainGlobals "LEAST_SIZE"=U (U (.int (2) ZkU)))
  (Za0:nsIn K mainGlobals "MOST_SIZE"=U (U (.int (8) Zk1)))
  (ZW:nsIn K mainGlobals "LONGEST_NAME"=U (U (.int (12) ZkM)))
  (ZdH:nsIn K mainGlobals "PUT_IN"=U (U (.int (1) Zlm)))
  (Za1:nsIn K mainGlobals "TAKEN_OUT"=U (U (.int (-1) Zk2)))
  (Zab:nsIn K mainGlobals "TIE_LETTERS"=U (U (.ref oy)))
  (NF:PyProof.Rows.KTD.tabLook PyProof.Rows.KTD.flatLooks (λb=>K.lookup b) oy [("mother",PyData.str "m"),("father",PyData.str "f"),("wed",PyData.str "w"),("sibling",PyData.str "s")]=af)
  (ZcJ:nsIn K mainGlobals "PARENTS"=U (U (.ref eC)))
  (ZcK:K.lookup eC=U ⟨.type "tuple",Zlh,.seq #[.str "mother" Zk3,.str "father" Zk4] Zli,Zlj⟩)
  (Zif:nsIn K mainGlobals "MAN"=U (U (.str "man" Zlv)))
  (Zfg:nsIn K mainGlobals "WOMAN"=U (U (.str "woman" Zlq)))
  (Zm:nsIn K mainGlobals "LETTERS_OF_NAMES"=U (U (.str "abcdefghijklmnopqrstuvwxyz" ZkB)))
  (Zw:nsIn K mainGlobals "SIGNS_OF_NAMES"=U (U (.str "abcdefghijklmnopqrstuvwxyz0123456789" ZkF)))
  (ZgH:nsIn K mainGlobals "SAID"=U (U (.str "said" Zlr)))
  (ZcL:nsIn K mainGlobals "SIBLING"=U (U (.str "sibling" Zlk)))
  (ZbJ:Af K "KinError" "KinError.__init__" [] E8 A ZbK)
  (GA:Kq K A "__init__" ZbK)
  (ZdI:Af K "NoFact" "NoFact.__init__" [A] FN mw Zln)
  (Zig:Ae K "Land" c)
  (o:wW K c)
  (ZbL:c6 K c "__init__" "Land.__init__" Gv Zla)
  (ZbM:c6 K c "step" "Land.step" Gw Zlb)
  (ZgI:Ae K "Joins" a)
  (n:nC K a)
  (Za2:c6 K a "__init__" "Joins.__init__" F0 Zk5)
  (ZbN:c6 K a "add" "Joins.add" Gx Zlc)
  (ZbO:c6 K a "tie" "Joins.tie" Gy Zld)
  (ZbP:c6 K a "say" "Joins.say" Gz Zle)
  (ZX:c6 K a "open_at" "Joins.open_at" E4 ZkN)
  (Za3:c6 K a "left" "Joins.left" F1 Zk6)
  (ZJ:c6 K a "together" "Joins.together" EV ZkJ)
  (Zaw:c6 K a "pairs" "Joins.pairs" FG ZkV)
  (Zac:c6 K a "narrow" "Joins.narrow" Fn ZkR)
  (Zf:c6 K a "bring_together" "Joins.bring_together" EC Zkz)
  (Za4:c6 K a "move" "Joins.move" F2 Zk7)
  (Zax:c6 K a "dealt" "Joins.dealt" FH ZkW)
  (Zi:c6 K a "dealt_beside" "Joins.dealt_beside" EE ZkA)
  (Zfh:Ae K "Hearth" d)
  (g:fL K d)
  (Zay:c6 K d "__init__" "Hearth.__init__" FI ZkX)
  (ZY:c6 K d "person" "Hearth.person" E5 ZkO)
  (Za5:c6 K d "tie" "Hearth.tie" F3 Zk8)
  (Za6:c6 K d "say" "Hearth.say" F4 Zk9)
  (Zaz:c6 K d "keep" "Hearth.keep" FJ ZkY)
  (NJ:c6 K d "take" "Hearth.take" AY ZkZ)
  (ZZ:c6 K d "people" "Hearth.people" E6 ZkP)
  (ZK:c6 K d "side_of" "Hearth.side_of" EW ZkK)
  (ZaA:c6 K d "kept" "Hearth.kept" FK Zk0)
  (Za7:c6 K d "has" "Hearth.has" F5 Zk_)
  (Zq:c6 K d "parent_of" "Hearth.parent_of" EI ZkD)
  (Zn:c6 K d "parents_of" "Hearth.parents_of" EG ZkC)
  (Zad:c6 K d "joins" "Hearth.joins" Fo ZkS)
  (ZL:c6 K d "do_deed" "Hearth.do_deed" EX ZkL)
  (Zae:c6 K d "shift" "Hearth.shift" Fp ZkT)
  (Z0:c6 K d "put_in" "Hearth.put_in" E7 ZkQ)
  (Zr:c6 K d "note_fact" "Hearth.note_fact" EJ ZkE)
  (Zx:c6 K d "take_out" "Hearth.take_out" EO ZkG)
  (Zy:c6 K d "place_of" "Hearth.place_of" ER ZkH)
  (Zz:c6 K d "undoable" "Hearth.undoable" ES ZkI)
  (EN:PySem.W.mroIn K mw (.ref A)=U af)
  :∃fd:FuncData,(∀(s:bt) (v:aY),BindsTo s fd ⟨[v],[]⟩ [("_law_script",v)])/\∀I:cI,K.In I->I.Ns mainGlobals mg->aI l.prog w K mg I (fY l.prog w) 16 fa fd Dg (CD K):=by
 obtain @⟨od,an,sl,oc,kV,dc,pm,cd,ct,ax,lx,cx,kx⟩:=Q;have e:=df.symm.trans (iu X G ax);cases e;have bl:=z.bl X G;have F6:=iu X G Zav;have GB:=iu X G Za0;have Ft:=iu X G ZW;have B:=iu X G ZdH;have vQ:=iu X G Za1;have vG:=iu X G Zab;have q:=iu X G ZcJ;have p:∀H,aB K H eC [.str "mother",.str "father"]:=λ_=>.inr ⟨_,_,_,ZcK,rfl,rfl,by show 2<=sizeLine;decide,(.cons ⟨_,rfl⟩ (.cons ⟨_,rfl⟩ .nil))⟩;have ue:=iu X G Zif;have tX:=iu X G Zfg;have EL:=iu X G Zm;have E1:=iu X G Zw;have r:=iu X G ZgH;have E:=iu X G ZcL;obtain⟨_,ZcM,G8,Hu,Zll,vU,Zlf⟩:=ZbJ.b X G xK;obtain⟨_,Zfi,Zfj,y,Zfk,BB,x⟩:=ZdI.b X G xH;have Zih:=o.cls;have j:=n.cls;have i:=g.cls;refine⟨fnOf "law" "law" (mC uc) (jq uc) (aO uc) .none kV dc pm an cd ct,λs v=>.of_eq rfl,λI _ _=>?_⟩;have F:=yY (st:=uc) lx cx kx;have D:kK l.prog w K mg I:=⟨X,G⟩;have ID:JQ l.prog w K mg I "NoFact" "no fact" mw:=⟨_,_,Zfk,Zdo Zfi GA (Zbm ZcM bl) G8 vU y x,Zfj,BB,y,x⟩;have oz:=D.d p28 (λ_ F=>Zf6 F bl.Cu);have L:=D.d p29 (λ_ F=>ZeC F bl.ZiD);have v8:=D.d p1 (λ_ F=>Zch F bl);have q5:=D.d p9 (λ_ F=>Zbp F bl);have N:=D.d p10 (λ_ F=>Z7 F bl);have wB:=D.d p2 (λ_ F=>ZeF F bl);have GD:=D.m Zih ZbM (λ_ F=>Zgb F o);have IV:=D.j ZgI Za2 (λ_ F=>ZeJ F n bl);have vD:=D.m j ZJ (λ_ F=>Zbq F n bl);have u:=D.m j ZX (λ_ F=>Zcl F n bl);have vE:=D.m j Zac (λ_ F=>Zdq F n bl);have wo:=D.d p12 (λ_ F=>Zdv F vG NF);have J:=D.d p14 (λ_ F=>Zbu F E bl);have Fe:=D.m i ZZ (λ_ F=>Zdw (CL:=c) (CJ:=a) F g bl);have tE:=D.m i ZK (λ_ F=>Zcs (CL:=c) (CJ:=a) F g bl);have vN:=D.d p25 (λ_ F=>ZaQ F bl);have EM:=D.m i Zq (λ_ F=>ZaR (CL:=c) (CJ:=a) F g);have EH:=D.m i Zn (λ_ F=>Zas (CL:=c) (CJ:=a) F g q p);have FU:=D.m i ZaA (λ_ F=>Zgl (CL:=c) (CJ:=a) F g bl);have H_:=D.d p17 (λ_ F=>Zcv F Ft EL E1 bl);have wu:=D.j Zfh Zay (λ_ F=>Ze2 (CL:=c) (CJ:=a) F g);have GI:=D.d p20 (λ_ F=>ZaT F ue tX E);have Ff:=D.d p24 (λ_ F=>ZI (C:=d) (CL:=c) (CJ:=a) F g o bl);have GK:=D.d p33 (λ_ F=>ZaX F bl);have tG:=D.d p32 (λ_ F=>Zcx F bl);have FQ:=D.d p37 (λ_ F=>Zcy F bl);have Hm:=D.d p41 (λ_ F=>Zbx F);have GL:=D.d p42 (λ_ F=>ZaZ F);have IB:=D.d p40 (λ_ F=>ZdA F bl);have Bb:=D.d p44 (λ_ F=>Zbz F bl);have Hn:=D.d p39 (λ_ F=>ZbB F bl);have EU:=D.m i Zy (λ_ F=>ZbF (CL:=c) (CJ:=a) F g);have EF:=D.m j Zi (λ_ F=>ZV F n bl);have AX:=D.m i Zz (λ_ F=>ZbI (CL:=c) (CJ:=a) F g bl);have Hj:=D.d p30 (λ_ F=>Zf7 F bl.wL bl.kB bl.oE);have jN:HasFn l.prog w K mg I 4 "_law_same" oa (rM 4):=let⟨_,F,b,k,m⟩:=D.p (ps:=oa) p35;⟨_,_,Q4 F b k m bl 4,b,k,m⟩;have tH:=D.d p5 (λ_ F=>ZhZ F v8);have vI:=D.d p6 (λ_ F=>Zf_ F v8 F6 GB bl);have vO:=D.m j ZbN (λ_ F=>Zh0 F n wB bl);have GF:=D.m j ZbP (λ_ F=>Zh1 F u vE bl);have AZ:=D.m j Za4 (λ_ F=>Zgd F n q5 N bl);have FP:=D.m j Zaw (λ_ F=>ZeN F n vD u bl);have vW:=D.d p13 (λ_ F=>Zbs (CL:=c) F vG NF o wo GD);have vK:=D.m i Za7 (λ_ F=>Zh7 (CL:=c) (CJ:=a) F g J);have EK:=D.m i Zr (λ_ F=>Zgq (CL:=c) (CJ:=a) F g q p J);have ET:=D.m i Zx (λ_ F=>Zbv (CL:=c) (CJ:=a) F g q p vN J);have Fu:=D.d p18 (λ_ F=>ZQ (C:=d) (CL:=c) (CJ:=a) F H_ ue tX Fe);have Hi:=D.d p11 (λ_ F=>Zbw (C:=d) (CL:=c) (CJ:=a) F EH);have Bn:=D.d p31 (λ_ F=>Zcw F L Hj bl);have Hk:=D.d p36 (λ_ F=>Zgy F tG bl);have GN:=D.d p34 (λ_ F=>Ze4 F tG GK bl);have Ho:=D.d p45 (λ_ F=>ZbA F Bb bl);have FR:=D.m j Zax (λ_ F=>Ze9 F EF bl);have Ic:=D.d T (λ_ F=>Zib F oz L bl);have wm:=D.d p3 (λ_ F=>ZiW F tH q5 bl);have za:=D.d p4 (λ_ F=>ZiX F tH N bl);have ED:=D.m j Zf (λ_ F=>ZeM F n N AZ bl);have vJ:=D.m j Za3 (λ_ F=>Zge F FP bl);have Fv:=D.d p21 (λ_ F=>Zgu (C:=d) (CL:=c) (CJ:=a) F E q p EM vK);have Fw:=D.d p22 (λ_ F=>ZS (C:=d) (CL:=c) (CJ:=a) F Hi);have Fx:=D.d p23 (λ_ F=>ZU (C:=d) (CL:=c) (CJ:=a) F r tE Ff vK);have nj:=D.d p38 (λ_ F=>ZgA F Hk FQ bl);have E9:=D.d p7 (λ_ F=>Zci F wm bl);have GG:=D.m j ZbO (λ_ F=>Zh4 F n vJ vD ED vE bl);have GH:=D.d p16 (λ_ F=>ZaO (CL:=c) (CJ:=a) F r vW u vJ);have GJ:=D.d p19 (λ_ F=>ZaV (C:=d) (CL:=c) (CJ:=a) F q p wo GI tE Fv Fw);have Hq:=D.d p43 (λ_ F=>Zby F GL Hm IB nj bl);have JZ:=D.j Zig ZbL (λ_ F=>Zga F o vI E9 za wB bl);have vP:=D.d p15 (λ_ F=>ZaN (CL:=c) (CJ:=a) F r vW GF GG);have we:=D.d p8 (λ_ F=>Zck (C:=c) F vI wm JZ);have Fb:=D.m i Z0 (λ_ F=>Zdy (CL:=c) (CJ:=a) F g vN vO EK vP bl);have P:=D.m i Zad (λ_ F=>Ze0 (CL:=c) (CJ:=a) F g o IV vO vP);have Fs:=D.m i Zae (λ_ F=>ZeZ (CL:=c) (CJ:=a) F g B Fb ET);have wc:=D.d p26 (λ_ F=>ZcH (C:=d) (CL:=c) (CJ:=a) F P EU u);have vX:=D.d p27 (λ_ F=>ZbH (C:=d) (CL:=c) (CJ:=a) F P FR);have t:=D.m i ZL (λ_ F=>Zct (CL:=c) (CJ:=a) F g Fs);have qW:=D.m i ZY (λ_ F=>Zdz (CL:=c) (CJ:=a) F g B Fu t);have vH:=D.m i Zaz (λ_ F=>Zgs (CL:=c) (CJ:=a) F g B GH P t);have yp:=D.m i NJ (λ_ F=>Zgt (CL:=c) (CJ:=a) F g vQ t);have FT:=D.mX i NJ (λ_ F=>Zfd (CL:=c) (CJ:=a) F g vQ t ID);have Ga:=D.m i Za5 (λ_ F=>Zgv (CL:=c) (CJ:=a) F g GJ vH);have vL:=D.m i Za6 (λ_ F=>Zgw (CL:=c) (CJ:=a) F g r Fx vH);have GO:=D.d W (λ_ F=>Zfe (C:=d) (CL:=c) (CJ:=a) F FT vU Hu BB y x EN bl);have rp:=D.d p46 (λ_ F=>ZcE (C:=d) (CL:=c) (CJ:=a) F vL Ga);have Hs:=D.d p47 (λ_ F=>ZbD (C:=d) (CL:=c) (CJ:=a) F L Hn Ho Hq rp qW yp bl);have Fy:=D.d R (λ_ F=>Zff (C:=d) (CL:=c) (CJ:=a) F qW rp jN nj wc vX bl);have Hv:=D.d p48 (λ_ F=>ZbE (C:=d) (CL:=c) (CJ:=a) F Hs bl);exact Zie F oz Bn GN jN nj Hv Ic GO Fy AX FU vL we wu bl
def walk{l:PySem.W.OpenLaw}{q:cZ}{b:Z ar}{p:(ar->bq aY)->cI->Prop}{e:cN->cI->Prop}{d:DefRec}{K:Params->ah}(k:l.most=U 63)(g:d.params.defaults=[])
  (n:∀(w:cN) (h:cI),e w h->(K w.params).In h)
  (F:∀(w:cN) (mg:aU) (c:O) (h:cI),(K w.params).In h->h.Ns mainGlobals mg->mg d.name=U (.ref c)->
   ∃fd:FuncData,(∀(s:bt) (u:aY),BindsTo s fd ⟨[u],[]⟩ [("_law_script",u)])/\∀I:cI,(K w.params).In I->I.Ns mainGlobals mg->aI l.prog w (K w.params) mg I (fY l.prog w) 16 c fd Dg (CD (K w.params))):
  PySem.W.WalkO q b p e l.row.toRowW d [] (λf i=>PySem.call f i):=
 L2.Zfy k QD g ⟨rfl,QD,QD,rfl⟩ n F (λ_ _ a j m _ o=>⟨a,j,rfl,o,m,λ_=>rfl⟩) λ_ _ _ _ _ h=>by obtain⟨_,_,_,_,_,_,_,_,_,_,_,_,_,_,z⟩:=h;exact z
end Mj
namespace PySem.W.Fast
def t:True:=⟨⟩
def tw13197566202369426918:=t
def tw15723425038436703842:=t
def tw4171985230374926784:=t
def tw2373296756256446177:=t
def tw13150646091657316321:=t
def tw15710134819189553442:=t
def tw6051221055004367426:=t
def tw11699803701202540322:=t
def tw15859901390390463619:=t
def tw14481938572148439267:=t
def tw9312050355512734979:=t
def tw16205431306614568291:=t
def tw8090232934205554596:=t
def tw14595321892388510823:=t
def tw1364781261134321031:=t
def tw10706459729045598119:=t
def tw4091627285231481128:=t
def tw2671319568142066408:=t
def tw14243586985914899658:=t
def tw1748952640943189323:=t
def tw14822508641664124523:=t
def tw2392233337270676749:=t
def tw17614593363151818413:=t
def tw5098198872643901261:=t
def tw4081657255279057390:=t
def tw10401224475322679918:=t
def tw309808124189811534:=t
def tw18379897619949670318:=t
def tw2055515912413469839:=t
def tw7928512965920269903:=t
def tw11209837601222803023:=t
def tw7845293201717515728:=t
def tw17842591924447239313:=t
def tw17045708810431008049:=t
def tw11425029051614661329:=t
def tw12112358080279144722:=t
def tw14556365352872355666:=t
def tw1409068212370372563:=t
def tw15060555239182947380:=t
def tw8810486617006512500:=t
def tw17765846364552385332:=t
def tw4865998574287210997:=t
def tw9229135372365139286:=t
def tw9526045974930730518:=t
def tw7397894295231920022:=t
def tw2657126839284127799:=t
def tw1471958932799695255:=t
def tw6759581162962759800:=t
def tw13490547099933752536:=t
def tw6090888992826547480:=t
def tw3121284245076281656:=t
def tw16220796381326111096:=t
def tw12660386904685403769:=t
def tw10598444509831225177:=t
def tw10380844050970686618:=t
def tw6970979686707485755:=t
def tw3228985273989132187:=t
def tw513523528307268028:=t
def tw7137848807681829724:=t
def tw9846860760172418079:=t
def tw10650156397218394207:=t
def tw2837362045499000408:=t
def tw17163572352740885627:=t
def tw8674146926823581931:=t
def tw2483140010328589607:=t
def tw1244746612723734103:=t
def tw9053768545030462136:=t
def tw7821799810840607899:=t
def tw17489601596820852873:=t
def tw6964035208882275858:=t
def tw12234370520699080906:=t
def tw7852386963097142326:=t
def tw13416527110163984246:=t
def tw7775713296421739141:=t
def tw14374738101678490552:=t
def tw11484675556638452049:=t
def tw3186075054132295298:=t
def tw10704582136979959654:=t
def tw6367213615943014324:=t
def tw1215967725112370154:=t
def tw1716989558100106030:=t
def tw13127363600375595838:=t
def tw17916396255618688793:=t
def tw14691033334759868801:=t
def tw5631927802895031778:=t
def tw7696895697819276936:=t
def tw7906108604942712341:=t
def tw16654822714197369061:=t
def tw5031828025504940587:=t
def tw6999471635229157102:=t
def tw18081734188475444366:=t
def tw14970465037916080860:=t
def tw13040666322419542581:=t
def tw9698753768519521103:=t
def tw7866796436999518847:=t
def tw15058951025516675772:=t
def tw4279258948868946341:=t
def tw4637599585415290070:=t
def tw6345688382294948738:=t
def tw3271710779145590019:=t
def tw737682150740198477:=t
def tw4669975665840268536:=t
def tw8963457751195901734:=t
def tw7487242884948039532:=t
def tw351752988910866330:=t
def tw16295238806834735294:=t
def tw13110395009530154323:=t
def tw13867467634253747874:=t
def tw12817825355355167838:=t
def tw17631750402312744084:=t
def tw10313052818949126190:=t
def tw11945142975684796191:=t
def tw10219812955558515637:=t
def tw8497873483627366324:=t
def tw17823664776550967379:=t
def tw1393348202329975793:=t
def tw10690000747359000251:=t
def tw9449349973784784599:=t
def tw16611524547395692828:=t
def tw440860311064199965:=t
def tw13731513010076655750:=t
def tw12753965146038360176:=t
def tw8686991729154438779:=t
def tw11002548814354922035:=t
def tw3514823813143790302:=t
def tw8615795679460286437:=t
def tw12502744451728985423:=t
def tw310926839888236580:=t
def tw136169753896727886:=t
def tw8209521626029211021:=t
def tw7583789185147913761:=t
def tw3123897581676012775:=t
def tw9942003613414804707:=t
def tw6876618534768778023:=t
def tw14843490684336290837:=t
def tw7787640655778013356:=t
def tw4963741317268073399:=t
def tw2826797504459310896:=t
def tw13477378436519773123:=t
def tw14606271149054652873:=t
def tw16407431438176049080:=t
def tw1199181049045818875:=t
def tw14149549776065343361:=t
def tw9391714371240804073:=t
def tw10654308819802378541:=t
def tw18251175731691992861:=t
def tw11575838479960495405:=t
def tw16596407809950946321:=t
def tw2540876368718488633:=t
def tw6349344050628592392:=t
def tw16780322144269554589:=t
def tw14345571059976862754:=t
def tw10062164104315632169:=t
def tw10050869476910009344:=t
def tw4763024148248194045:=t
def tw3597809304592429541:=t
def tw13643644366907587574:=t
def tw18408729872694280532:=t
def tw13531956985819084663:=t
def tw7632610657059250481:=t
def tw12657559872391866078:=t
def tw5109530111344693073:=t
def tw5110530382714200604:=t
def tw8643428076233828807:=t
def tw3079121674607159335:=t
def tw6149112416958123836:=t
def tw2833481406821147345:=t
def tw5200122200904312359:=t
def tw14408763375890369828:=t
def tw17536108632186239106:=t
def tw1341230848488772992:=t
def tw11507059236621538743:=t
def tw9462040304840682546:=t
def tw2159375631573374788:=t
def tw8823275619409324079:=t
def tw4759781495255637366:=t
def tw9365684558059714418:=t
def tw13178847973797877886:=t
def tw4370560998565316516:=t
def tw13012150191908779793:=t
def tw7642291998127543152:=t
def tw400742049359591619:=t
def tw12020398331722443028:=t
def tw6260172421158744139:=t
def tw10167259376425964806:=t
def tw6788628912732427887:=t
def tw5906872399330933577:=t
def tw12900301789128460677:=t
def tw278861327003177947:=t
def tw17359406336064349420:=t
def tw2146918205926995217:=t
def tw3041562800618720279:=t
def tw10586310367426905084:=t
def tw5396082619025798179:=t
def tw837728918127013904:=t
def tw9115645117761573884:=t
def tw3298116337299145743:=t
def tw10963913829143305906:=t
def tw14465792801911433360:=t
def tw13531240024579667399:=t
def tw13824716896698074483:=t
def tw12607788527594223802:=t
def tw6258027171121114769:=t
def tw14937064270046767431:=t
def tw13667582464623785423:=t
def tw6022405505418157900:=t
def tw65310242727320490:=t
def tw11403965473789216617:=t
def tw9254077514507306903:=t
def tw4668469820356302037:=t
def tw17335488568168316977:=t
def tw14933971396288750540:=t
def tw11137997202886529037:=t
def tw14033423348642793471:=t
def tw921931756787842016:=t
def tw1491570982033290606:=t
def tw9950653041869151856:=t
def tw11287654813022660191:=t
def tw808027151872564241:=t
def tw1986938713204187936:=t
def tw7998715506914847837:=t
def tw3819673214588699598:=t
def tw6132328021473722211:=t
def tw1128773970682464043:=t
def tw10092850402009520710:=t
def tw15023182169748441715:=t
def tw2114776109256976078:=t
def tw1010258408269795391:=t
def tw13277545171680542850:=t
def tw2819612645928334383:=t
def tw138639993419674387:=t
def tw12192147412595389914:=t
def tw15517697765617737521:=t
def tw12115315805364808651:=t
def tw1279752633721700864:=t
def tw10311407011381227547:=t
def tw11013418177251112812:=t
def tw18293292844821250358:=t
def tw10585250009442740815:=t
def tw14575929329122376959:=t
def tw6060577939539013277:=t
def tw9151560655999856089:=t
def tw9298400613586555548:=t
def tw3344837341784968033:=t
def tw7747274100370600756:=t
def tw8736504475863461820:=t
def tw6721994819801976787:=t
def tw16012573728336945865:=t
def tw14230902692364376066:=t
def tw18031275210831524291:=t
def tw17714030687878435972:=t
def tw16988688085383796822:=t
def tw8367633640837075832:=t
def tw18432469755599092978:=t
def tw913238136629298767:=t
def tw16174879982946269701:=t
def tw8169355450034059616:=t
def tw9163082696145985523:=t
def tw5513504996713578040:=t
def tw17164180271255414957:=t
def tw1875331672185510316:=t
def tw6965464276871489875:=t
def tw13391909331791595030:=t
def tw17940125229022906540:=t
def tw12096761363214434460:=t
def tw8879074310797460266:=t
def tw6101324505217125416:=t
def tw12263016177006397471:=t
def tw959563731704846128:=t
def tw11665534092569521875:=t
def tw5322354357324203638:=t
def tw16663758423769472839:=t
def tw4662658424521185733:=t
def tw15261540105539645426:=t
def tw6949700081383652705:=t
def tw4142709336243249177:=t
def tw53613986556516780:=t
def tw12012326117097362033:=t
def tw13971274704455816265:=t
def tw15076003959891964076:=t
def tw14034010834336073681:=t
def tw1785926470324155747:=t
def tw9740019536550035669:=t
def tw10990469475218800235:=t
def tw11341168375988716936:=t
def tw7473870771433772290:=t
def tw18301786777425181941:=t
def tw17074577018692394999:=t
def tw16602356146535055580:=t
def tw14504634590138532173:=t
def tw9765195909210773122:=t
def tw14881981463565997849:=t
def tw3857591579802258907:=t
def tw4354710912696261472:=t
def tw7965856113887695601:=t
def tw17472314803450094593:=t
def tw2634473108239138015:=t
def tw4200147436380179606:=t
def tw15573855155713187325:=t
def tw14808031445997018135:=t
def tw4520221890649370340:=t
def tw13170573006124967055:=t
def tw9866811791366033625:=t
def tw7302838626968953845:=t
def tw1605750656348735242:=t
def tw13598544059968563291:=t
def tw11059666303622717410:=t
def tw14735847553533860839:=t
def tw1186616271878791350:=t
def tw17719853518355081471:=t
def tw12262733232837836058:=t
def tw15973731827502304727:=t
def tw18225006515795474978:=t
def tw7258767013898159259:=t
def tw2524369259619426225:=t
def tw15270381795065831739:=t
def tw11618620599902266241:=t
def tw394918730147343602:=t
def tw10801714530067353072:=t
def tw9798367951895245713:=t
def tw9397014197694739611:=t
def tw17864722118715294796:=t
def tw12467160958437030872:=t
def tw10974218792861515147:=t
def tw4186245683077409815:=t
def tw12156041091890189877:=t
def tw10144878871393763082:=t
def tw13116489078562194187:=t
def tw7455381351979718919:=t
def tw10773333187509300453:=t
def tw2190334450497213317:=t
def tw3619934591783804872:=t
def tw267021924102162087:=t
def tw9759657504542668208:=t
def tw6174532469874002207:=t
def tw5203458516348911674:=t
def tw13354869477044058567:=t
def tw11624050841348850412:=t
def tw11245271323984526747:=t
def tw512955195072916981:=t
def tw11878910839969338898:=t
def tw15668592034875718402:=t
def tw15729052715118078938:=t
def tw6864300942101444896:=t
def tw11775153435638312680:=t
def tw7021670147114393049:=t
def tw12094394404198000558:=t
def tw6574685679484821664:=t
def tw3286367274507619828:=t
def tw14764665621462219265:=t
def tw194272440622146859:=t
def tw4861299344107324923:=t
def tw11574793994340593824:=t
def tw11221619259104575476:=t
def tw8216012629454388324:=t
def tw8115571565209594063:=t
def tw5095642993352067297:=t
def tw14725685439485464588:=t
def tw16090949178497506334:=t
def tw16024233888481488741:=t
def tw7169191086221967637:=t
def tw6339333795994223530:=t
def tw18076110148839386579:=t
def tw17259350015085700739:=t
def tw16366009051245218273:=t
def tw16101225164862634112:=t
def tw12824651788028337355:=t
def tw12246798421649159477:=t
def tw11610588743308049277:=t
def tw3356872919078759028:=t
def tw12533481487221326715:=t
def tw9405644853840659730:=t
def tw7391900134036113463:=t
def tw2466158433302619952:=t
def tw15640414619984990401:=t
def tw14749214046939249792:=t
def tw11055292763815135831:=t
def tw9582197369091027809:=t
def tw15205603087507003348:=t
def tw3889343135748772069:=t
def tw2155933624012747624:=t
def tw11109405326352178417:=t
def tw14593042319466847656:=t
def tw6441739448676662625:=t
def tw13078933101637317989:=t
def tw7292617864196096652:=t
def tw5927768789273208492:=t
def tw287404939337494876:=t
def tw2843847476075468683:=t
def tw2326859815197372448:=t
def tw1859070770476377915:=t
def tw18409450202401626952:=t
def tw17469578304984089218:=t
def tw16134617695163328820:=t
def tw13491616858604671979:=t
def tw10911906796484354594:=t
def tw2354225245621171301:=t
def tw17951968657925074758:=t
def tw17025220986404818146:=t
def tw17052553664283796105:=t
def tw521462342398103481:=t
def tw10711321974602027293:=t
def tw10115406578446375924:=t
def tw13452019223064751081:=t
def tw17898128756533921815:=t
def tw10407879565963944206:=t
def tw7175221322159838939:=t
def tw8738778936880787306:=t
def tw16620074579297132512:=t
def tw8228788211085483277:=t
def tw416554287069416229:=t
def tw5928507201788400374:=t
def tw2513148096776118945:=t
def tw14709104789944707056:=t
def tw1229102704325693143:=t
def tw7646843673100359898:=t
def tw3811866871420611254:=t
def tw1726829745338632567:=t
def tw11289562673567361613:=t
def tw17248605043255897568:=t
def tw14582963797345183754:=t
def tw17987063432704916426:=t
def tw4585323828677650718:=t
def tw15951017129575777978:=t
def tw7528085426818390412:=t
def tw18248024239552629698:=t
def tw2697736214769088258:=t
def tw3055849165469671194:=t
def tw1828553616803038507:=t
def tw45956283156673266:=t
def tw2977530792924056237:=t
def tw2314964503128704075:=t
def tw2240284804372455504:=t
def tw15651657714914297110:=t
def tw11770788402488689747:=t
def tw10550921937843876332:=t
def tw14621287896154037270:=t
def tw6596021775143149100:=t
def tw12878736489403688977:=t
def tw6945148535198886398:=t
def tw8933931465939039446:=t
def tw658487107944002714:=t
def tw13612364522381657882:=t
def tw1114450925622677612:=t
def tw12084817846515090044:=t
def tw7343360097852635151:=t
def tw9740296020455119820:=t
def tw6024003796718098718:=t
def tw11321944327049461292:=t
def tw14775043578764167299:=t
def tw7117968909589029666:=t
def tw4114229868713500552:=t
def tw325736138004418685:=t
def tw15414050398103192203:=t
def tw8143679375285046600:=t
def tw15329212536900483693:=t
def tw6721094293149996874:=t
def tw4859100138635910238:=t
def tw16771526012189274468:=t
def tw15432396439174890106:=t
def tw15314796834766505599:=t
def tw17115182953926008937:=t
def tw11396629595339336697:=t
def tw3047797148165958629:=t
def tw13552168420300096235:=t
def tw7182317916132275931:=t
def tw15757215583483327280:=t
def tw5651672935349713431:=t
def tw4254662145989029732:=t
def tw16629040393404645987:=t
def tw12374473186346014859:=t
def tw8357824983662569978:=t
def tw517040921124891999:=t
def tw7775050593019200357:=t
def tw17460407003651651079:=t
def tw6463809693221958078:=t
def tw3206288528599745598:=t
def tw2191601125686374357:=t
def tw15888405165420956534:=t
def tw13445443136307448342:=t
def tw6403856160302858484:=t
def tw9405744477166673031:=t
def tw8684943238748966402:=t
def tw389372219426919455:=t
def tw2761115772601157325:=t
def tw10956615487210821916:=t
def tw8078499706170682823:=t
def tw6295101343137720937:=t
def tw5671522634853111770:=t
def tw2218540123390094901:=t
def tw12278359223501238450:=t
def tw8908498985701204033:=t
def tw16227671191432767332:=t
def tw3071678132436436994:=t
def tw2936274982391266294:=t
def tw14001091444698898373:=t
def tw9107586300713545094:=t
def tw840349725248341163:=t
def tw7846723172248546225:=t
def tw6639407017666700932:=t
def tw5070321286710814716:=t
def tw407972421042982317:=t
def tw2938791606464953115:=t
def tw16563108708231309888:=t
def tw10213559855083939960:=t
def tw7255623537238311836:=t
def tw671674004014971997:=t
def tw18020166264231286577:=t
def tw17930145301075402555:=t
def tw16966301891721961458:=t
def tw16051275663673731927:=t
def tw15852815081427652467:=t
def tw12069387747515172949:=t
def tw10670475948179825611:=t
def tw8688299974182800353:=t
def tw8514310480029542370:=t
def tw7796256818910710807:=t
def tw7325721001517183962:=t
def tw5232545353372204980:=t
def tw2853446489659222179:=t
def tw17651377180654885667:=t
def tw15700060771430440994:=t
def tw14595373630309886788:=t
def tw14262414121524429264:=t
def tw14250517595508560936:=t
def tw13682151989346402687:=t
def tw13231625739598336020:=t
def tw12421862398896434848:=t
def tw11401414784031895138:=t
def tw5781419386965569658:=t
def tw17995116205465552187:=t
def tw16829163162105659975:=t
def tw4210366593205712313:=t
def tw16656830176207525420:=t
def tw12163296941661859517:=t
def tw1203044084419547215:=t
def tw9328088461558700736:=t
def tw7794811518080332775:=t
def tw17304935465352100387:=t
def tw16315877411508395176:=t
def tw547495702890847842:=t
def tw2530065679622620336:=t
def tw10745981061219640186:=t
def tw15874538121218110070:=t
def tw9813120729338473135:=t
def tw4777284193184452913:=t
def tw4441591874114632667:=t
def tw2935997596776878609:=t
def tw6883110470982237888:=t
def tw2952513056738283935:=t
def tw9426520291188792629:=t
def tw8888033931027147998:=t
def tw671290418818358668:=t
def tw6329504772342624085:=t
def tw5162092555453203074:=t
def tw4992026231999928275:=t
def tw4851068766544937220:=t
def tw4761289467713550327:=t
def tw3792250868628592807:=t
def tw3776919658289419603:=t
def tw3764525401882076154:=t
def tw2248631848934111780:=t
def tw17956354512484383778:=t
def tw12965847446613850042:=t
def tw12539020308564154582:=t
def tw11311001793219853929:=t
def tw10318088302409946981:=t
def tw10257653681715706163:=t
def tw10072005931002161848:=t
def tw18419955986790940139:=t
def tw9284001291137306621:=t
def tw8887282303587409513:=t
def tw8835948453083375058:=t
def tw8452266328468788342:=t
def tw7506459184033271566:=t
def tw7313904599568536157:=t
def tw693701274969109734:=t
def tw577073569377345216:=t
def tw5718725027273981811:=t
def tw4517019553462827055:=t
def tw4110009288863626036:=t
def tw3842202413760403812:=t
def tw3363011035175661537:=t
def tw3051359180697467594:=t
def tw2626261672923362442:=t
def tw16825922984488392456:=t
def tw16050306585401517123:=t
def tw15555323230826197354:=t
def tw15037499537541682423:=t
def tw14864631626233445739:=t
def tw14550890936251903433:=t
def tw13721718137911270717:=t
def tw12255963404618595557:=t
def tw11606427816987337946:=t
def tw11402169562269513314:=t
def tw10593668528399182206:=t
def tw10246311545789718139:=t
def tw10420171709185967889:=t
def tw9753774844055015464:=t
def tw3388268322590760819:=t
def tw14414000215562969668:=t
def tw7520733580539968906:=t
def tw12778578608722626294:=t
def tw6575895193285221008:=t
def tw5556135485113632701:=t
def tw4913927986576127561:=t
def tw12482909012487021784:=t
def tw9240934539500815123:=t
def tw7486336485830320482:=t
def tw8815956779403477930:=t
def tw81056202856096142:=t
def tw7371327037503052481:=t
def tw7330733919269071719:=t
def tw6370587952940644345:=t
def tw4531242930768209420:=t
def tw4419622028067828308:=t
def tw4328326250398573975:=t
def tw16275989110698318100:=t
def tw12871500305363867349:=t
def tw9787695578611945703:=t
def tw8589418426401023123:=t
def tw4419742823374579592:=t
def tw3740742474332577024:=t
def tw16422748059546946405:=t
def tw15573038466204769201:=t
def tw14167877092818311402:=t
def tw13172784978194909334:=t
def tw11780641474367101548:=t
def tw11150822579538230936:=t
def tw6023443576484163146:=t
def tw4093693166092673704:=t
def tw2869569323034748779:=t
def tw1142664545437604759:=t
def tw6374060458522405251:=t
def tw15708628545509575195:=t
def tw5737300188348776784:=t
def tw4475760418884136518:=t
def tw13097938380895114476:=t
def tw9683257917293339869:=t
def tw4750630713003248115:=t
def tw11265559666612551325:=t
def tw16511766788670327857:=t
def tw13984285989557354369:=t
def tw9529058584152499710:=t
def tw8509333857747308958:=t
def tw780297007720337352:=t
def tw7732237727169542010:=t
def tw7612222348922972636:=t
def tw7345337745598781680:=t
def tw6965314292746683359:=t
def tw6923054537222094460:=t
def tw6762817191997284092:=t
def tw6624551360773130170:=t
def tw6185802529316549041:=t
def tw6049555066288984860:=t
def tw5354155629853871312:=t
def tw3976433870736470254:=t
def tw3965751022873913878:=t
def tw3678108587930808807:=t
def tw18315368336874423037:=t
def tw17346707773693826860:=t
def tw6597617166160576416:=t
def tw2602788062055987450:=t
def tw18335960161393443898:=t
def tw17853805457975463071:=t
def tw14074025441507491634:=t
def tw14972964902412775938:=t
def tw12041457105177651655:=t
def tw2471569632081495629:=t
def tw6346749514809755969:=t
def tw12192301099804176149:=t
def tw14576172544701076753:=t
def tw15512223453630759564:=t
def tw3168288418634027447:=t
def tw3778928989119050615:=t
def tw7474120376417771116:=t
def tw3365286273730575306:=t
def tw7860809653934269339:=t
def tw17701719497366934691:=t
def tw5052228487230815668:=t
def tw14569680598769975285:=t
def tw16478795308459040880:=t
def tw18035304305309002389:=t
def tw8417145521044317999:=t
def tw11269538314067213358:=t
def tw11231645746653672272:=t
def tw13702156238769188733:=t
def tw15455206460535261474:=t
def tw10527960415539543396:=t
def tw2258065226903457564:=t
def tw12899011655035131000:=t
def tw8339588340735316439:=t
def tw14217280865523751002:=t
def tw2162978648069797668:=t
def tw3144017057622076948:=t
def tw12404003114124375849:=t
def tw17571510326492150376:=t
def tw951933982113689420:=t
def tw3060430075722216053:=t
def tw11621820684007638887:=t
def tw11159833847364546852:=t
def tw12680789782600734475:=t
def tw14712182538944683972:=t
def tw3202923725122585773:=t
def tw2708839047732195763:=t
def tw12470555919988444911:=t
def tw15076393099015158972:=t
def tw12014718047344589714:=t
def tw7718871952667103059:=t
def tw13398639043657411959:=t
def tw5508555425129564188:=t
def tw12262666471811050503:=t
def tw4784246812364092138:=t
def tw12238068154592141296:=t
def tw4657180538378431586:=t
def tw2668653341643887979:=t
def tw11549536332116777346:=t
def tw14781962802559049947:=t
def tw8730512740632959877:=t
def tw17775926300811802452:=t
def tw10067964199517717869:=t
def tw10006209348975145568:=t
def tw4143667406408363148:=t
def tw14931863368575922743:=t
def tw15411567607562788536:=t
def tw10538755003660045378:=t
def tw18289946053806504383:=t
def tw17653223914182377229:=t
def tw14971725986701893437:=t
def tw11847816887128306150:=t
def tw1184868969068831561:=t
def tw6532276792616320296:=t
def tw43311584781419148:=t
def tw13258405685372678185:=t
def tw15150035745658913017:=t
def tw233964046662386070:=t
def tw17752613998679470362:=t
def tw15304129451163185661:=t
def tw4121040745847348119:=t
def tw9458675681989518723:=t
def tw2061236668427126729:=t
def tw7202752141065040311:=t
def tw10222251447701060092:=t
def tw10203903689475966776:=t
def tw4031789713100081804:=t
def tw18220034952380355680:=t
def tw12253101774516854934:=t
def tw7143930305264332994:=t
def tw7897537004964651950:=t
def tw13704019725034503819:=t
def tw14960963362975747260:=t
def tw7668866308620089138:=t
def tw7570851982846221503:=t
def tw14423468611365093827:=t
def tw3491140069033883360:=t
def tw6477875089409417495:=t
def tw8438560272839151541:=t
def tw7393619203755354622:=t
def tw17603353361950718756:=t
def tw11838656783124934546:=t
def tw9813768730547890348:=t
def tw1940362702055445880:=t
def tw8852237114486507339:=t
def tw8635258613511909124:=t
def tw8230829851474423471:=t
def tw6835174659547696073:=t
def tw5860885194624016651:=t
def tw3748848793027639239:=t
def tw3406064177405371673:=t
def tw16805523751079974430:=t
def tw16618864382130300979:=t
def tw15215221850622153533:=t
def tw14604398837926789086:=t
def tw14426349702367450844:=t
def tw14051155708512521241:=t
def tw1113983960707165176:=t
def tw10989048598689446096:=t
def tw18386262257853097516:=t
def tw16261654919876426202:=t
def tw7719410642728770475:=t
def tw3730990254791467202:=t
def tw11464394622252163326:=t
def tw6507870410573715504:=t
def tw12953699131003947183:=t
def tw9872215785284598018:=t
def tw14006091055207143662:=t
def tw8910144083444111049:=t
def tw848828926722153880:=t
def tw6890640130770836431:=t
def tw18103977805608654023:=t
def tw12038988164198753663:=t
def tw11772264662050942258:=t
def tw10850643988188491344:=t
def tw9137586512933275274:=t
def tw15606941108962203177:=t
def tw12982093465587774256:=t
def tw8304755182735842213:=t
def tw12470528025090036210:=t
def tw11055738825240230259:=t
def tw10423130271910545396:=t
def tw10315776058463505890:=t
def tw18075631643862910063:=t
def tw16228220933911195326:=t
def tw13652534382342807544:=t
def tw12658423071557919519:=t
def tw10773851477194539054:=t
def tw14693717175265037533:=t
def tw9684872928276672710:=t
def tw8594566685131998618:=t
def tw7338036186941464179:=t
def tw6872952012595673179:=t
def tw4207744581912185618:=t
def tw2999902017124919710:=t
def tw17614502649916841373:=t
def tw17389041868575090210:=t
def tw16653106742560351223:=t
def tw14574421319885986353:=t
def tw14236017605236187344:=t
def tw13217420735511193338:=t
def tw12854951342987223567:=t
def tw12405028860938345907:=t
end PySem.W.Fast
open PySem PySem.W PyProof.Rows
set_option maxRecDepth 100000 in
set_option maxHeartbeats 0 in
theorem PySem.Challenge.cw_kinhearth_k26_taken_out_as_never_told_holds : PySem.Challenge.rw_kinhearth_k26_taken_out_as_never_told.Holds := by
 w_on; o_law; k_head; (case hw=>w_witness2)
 k_fill
 refine Mj.walk (l:=PySem.Challenge.rw_kinhearth_k26_taken_out_as_never_told) rfl rfl (λ w h Y=>kIn_of Y) ?F
 case F=>
  intro w mg fa h KX G zZ
  apply Mj.all_mk KX G zZ <;> repeat' first | k_is | (show _=_; k_is) | kernel_rfl | constructor

