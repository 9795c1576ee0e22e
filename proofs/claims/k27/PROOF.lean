import PyProof.Rows.All
import Wide.All
import OpenK.AllK
import Wide.FinOn
import Lean
import PyProof.EqAt
import PyProof.EqKinds
import PyProof.TupleCall
import PyProof.NeKinds
import PyProof.ConsumeWalk
import PyProof.ListRange
import PyProof.TupleOfSeq
import PyProof.Rows.SortWalk
import PyProof.CompFree
import PySem.Challenge.RW_kinhearth_k27_undone_and_redone
set_option Elab.async false
set_option linter.all false
set_option maxRecDepth 100000
set_option maxHeartbeats 4000000
abbrev ai:=PySem.W.Frag
abbrev bg:=PySem.Value->PySem.Shared->Prop
abbrev aW:=List (PySem.Addr×PySem.Obj)
abbrev aV:=PySem.Str->Option PySem.Value
open PySem
abbrev Z:=@Option.some
abbrev aE:=@Option.none
abbrev af:=true
abbrev a7:=false
abbrev O:=List
abbrev U:=Addr
abbrev aY:=Value
abbrev bR:=Shared
abbrev bS:=Option
abbrev de:=Program
abbrev c5:=World
abbrev cb:=Stmt
abbrev cY:=Heap
abbrev d6:=Around
abbrev c7:=Array
abbrev cm:=Bool
abbrev ar:=Str
abbrev cP:=Expr
open PySem.W (instObj methodObj lookIn plainGet hasDictIn handedIn plainGet_of findObj_own isFn plainOver takerIn set_plain any_some makesIn typeIn emptyDict keepIn specialIn takesIn kitOne kia_one kitx_list kitx_dict callWith_K methodCall_KW callWith_K0 cellsFrom_some fnOf codeIn notCls check_slot KitX osa_eq kitCls findCls subIn nsIn mg_of kIn_of)
open PySem.F (slot_tuple_add excBase_ValueError slot_dict_delitem slot_dict_pop slot_dict_get entry_dict_get plainAttrs_dict type_dict_get slot_dict_eq plainAttrs_list slot_list_pop type_list_pop)
def Ya:=@List.length_map
def Yb:=@Heap.get?_push_of_some
def Yc:=@List.getElem?_eq_getElem
def Yd:=@List.length_append
def Ye:=@Nat.le_refl
def Yf:=@List.getElem?_map
def Yg:=@List.mem_map
def Yh:=@Bool.false_ne_true
def Yi:=@List.map_append
def Yj:=@List.mem_of_getElem?
def Yk:=@List.mem_cons_self
def Yl:=@List.getElem?_eq_some_iff
def Ym:=@List.mem_append_right
def Yn:=@List.getD_eq_getElem?_getD
def Yo:=@Option.some.inj
def Yp:=@List.mem_cons
def Yq:=@List.mem_singleton
def Yr:=@List.size_toArray
def Ys:=@List.mem_append_left
def Yt:=@Heap.lt_size
def Yu:=@Heap.get?_push_size
def Yv:=@List.mem_append
def Yw:=@Nat.zero_le
def Yx:=@List.mem_cons_of_mem
def Yy:=@Nat.le_trans
def Yz:=@List.nodup_cons
def Y0:=@Nat.ne_of_lt
def Y1:=@List.not_mem_nil
def Y2:=@Nat.lt_of_lt_of_le
def Y3:=@List.take_add_one
def Y4:=@List.getElem?_eq_none
def Y5:=@List.mem_filter
def Y6:=@Int.toNat_natCast
def Y7:=@List.map_map
def Y8:=@Array.getD_eq_getD_getElem?
def Y9:=@Heap.get?_update_other
def Wa:=@List.length_take
def Wb:=@Nat.lt_irrefl
def Wc:=@List.append_nil
def Wd:=@List.getElem?_append_left
def We:=@Sum.inr.inj
def Wf:=@List.length_cons
def Wg:=@List.take_length
def Wh:=@Array.length_toList
def Wi:=@Bool.and_eq_true
def Wj:=@List.nodup_append
def Wk:=@Nat.le_succ
def Wl:=@List.filter_append
def Wm:=@Bool.eq_iff_iff
def Wn:=@List.length_filter_le
def Wo:=@Nat.not_lt_zero
def Wp:=@List.all_eq_true
def Wq:=@List.map_cons
def Wr:=@Heap.get?_update_self
def Ws:=@Nat.lt_succ_of_lt
def Wt:=@List.pairwise_map
def Wu:=@List.ext_getElem?
def Wv:=@List.mem_range
def Ww:=@Int.emod_lt_of_pos
def Wx:=@List.mem_iff_getElem
def Wy:=@List.filter_cons
def Wz:=@List.take_of_length_le
def W0:=@Array.getElem?_eq_getElem
def W1:=@List.pairwise_iff_getElem
def W3:=@List.length_replicate
def W4:=@List.lookup_cons
def W5:=@Nat.le_succ_of_le
def W6:=@List.length_set
def W7:=@Int.emod_nonneg
def W8:=@List.map_congr_left
def W9:=@List.nodup_iff_pairwise_ne
def Ja:=@List.any_cons
def Jb:=@Nat.lt_of_le_of_lt
def Jc:=@List.nodup_nil
def Jd:=@Option.isSome_iff_exists
def Je:=@Array.getElem?_setIfInBounds_ne
def Jf:=@List.length_zip
def Jg:=@Nat.ne_of_gt
def Jh:=@List.filterMap_cons
def Ji:=@List.all_cons
def Jj:=@List.filter_eq_self
def Jk:=@Nat.lt_succ_self
def Jl:=@List.mem_filterMap
def Jm:=@List.filter_filter
def Jn:=@Nat.le_of_lt
def Jo:=@Array.getElem?_toList
def Jp:=@Nat.le_of_ble_eq_true
def Jq:=@Heap.get?_push_ne
def Jr:=@Bool.eq_false_iff
def Js:=@List.length_range
def Jt:=@List.append_assoc
def Ju:=@List.getElem?_append_right
def Jv:=@Array.getElem?_eq_some_iff
def Jw:=@Array.perm_iff_toList_perm
def Jx:=@Heap.size_push
def Jy:=@List.any_eq_true
def Jz:=@List.getElem_mem
def J0:=@List.length_drop
def J1:=@List.getElem?_range
def J3:=@Int.toNat_of_nonneg
def J7:=@Array.size_setIfInBounds
def J8:=@List.range_succ
def J9:=@List.filter_cons_of_pos
def D1:=@List.filter_map
def AA:=@Bool.true_and
def X_:=@Nat.add_sub_cancel_left
def V2:=@Array.getElem?_eq_none
def Xk:=@List.eq_nil_or_concat
def Xl:=@List.concat_eq_append
def Vn:=@List.getElem?_set_ne
def DC:=@Bool.false_or
def VU:=@Heap.get?_update_ne
def LO:=@List.find?_cons
def Ao:=@Sum.inl.inj
def M0:=@Bool.or_eq_true
def V6:=@Bool.false_eq_true
def DM:=@Int.zero_add
def WQ:=@List.zip_cons_cons
def Vx:=@List.any_eq_false
def V1:=@Option.isSome_map
def Xg:=@List.filter_congr
def V0:=@List.cons_append
def Xc:=@List.mem_flatMap
def Xm:=@Nat.le_add_right
def Lz:=@Nat.le_of_eq
def VB:=@List.of_mem_zip
def LL:=@Int.ne_of_gt
def VO:=@List.length_nil
def L7:=@List.all_map
def WC:=@List.nil_append
def QO{p:Prop}(h:p:=by omega):p:=h
def QS{p:Prop}(h:p:=by simp):p:=h
def QD{p:Prop}(h:p:=by decide):p:=h
def QU{p:Prop}(h:p:=by with_unfolding_all rfl):p:=h
def QR{p:Prop}(h:p:=by rfl):p:=h
def QK{p:Prop}(h:p:=by decide+kernel):p:=h
def QJ{p:Prop}(h:p:=by kernel_rfl):p:=h
def QG{p:Prop}(h:p:=by grind):p:=h
def QA{p:Prop}(h:p:=by simp_all):p:=h
def bh:=@PySem.wpAny_bind
def cy:=@PySem.wpAny_pure
def bt:=@if_pos
def bu:=@if_neg
def dg:=@decide_eq_true
def dw:=@PySem.sizeLine_eq
def eB:=@of_decide_eq_true
def eR:=@decide_eq_true_iff
def dy:=@PySem.wpAny_mono
def gb:=@decide_eq_false
def jk:=@PySem.F.type_list_append
def jm:=@PySem.F.slot_list_append
def gR:=@PySem.PassesOwn.never
def dJ:=@congrArg
def hP:=@PySem.F.plainAttrs_list
def hV:=@PySem.wpAny_holding
def kG:=@PySem.wpAny_loadPart_at
def gT:=@True.intro
def mh:=@PySem.Calls.callWith_builtin
def fM:=@or_false
def lp:=@PySem.wpAny_truthy_bool
def lr:=@PySem.wpAny_newObj_type
def kI:=@PySem.wpAny_standAt
def mO:=@PySem.wpAny_isSubtype_exc
def fb:=@Or.inl
def mR:=@PySem.tupleKind_room_in1
def m5:=@PySem.Calls.spliced_cons
def kS:=@PySem.wpAny_field
def n7:=@PySem.Calls.evalArgs_plain
def lI:=@PySem.strLen_append
def nh:=@PySem.wpAny_call_entry
def lJ:=@PySem.codeAny_mono
def pz:=@PySem.F.excBase_ValueError
def nq:=@PySem.wpAny_passesOwn
def iS:=@Ne.symm
def mr:=@PySem.call_meetsIn
def gV:=@not_or
def pJ:=@PySem.mem_of_lookup
def sY:=@PySem.wpAny_comprehension_free
def pK:=@PySem.wpAny_Call_Name_kw
def pT:=@PySem.SeqAt.EqAt.int_int
def qb:=@PySem.Calls.spliced_nil
def uU:=@PySem.plainObj_wpAny_Assign_Attribute
def mu:=@PySem.wpAny_call
def jA:=@PySem.W.kia_one
def oa:=@PySem.F.slot_dict_get
def sZ:=@PySem.Obj.data_mapDictKeys
def qd:=@PySem.F.plainAttrs_dict
def hT:=@PySem.W.mg_of
def kv:=@Or.inr
def qD:=@PySem.wpAny_setField
def qK:=@List.Perm.refl
def uX:=@PySem.Calls.call_function_entry
def s_:=@PySem.wpAny_pyIter_list
def tc:=@PySem.wpAny_dictEntries
def th:=@PySem.wpAny_Call_method
def tq:=@PySem.F.slot_dict_delitem
def q7:=@PySem.W.methodCall_KW
def oq:=@PySem.typeIs_str
def oD:=@PySem.call_meets
def tr:=@PySem.wpAny_execs_nil
def tE:=@and_congr_right
def uY:=@PySem.wpAny_notOrdered_dict
def u3:=@PySem.Obj.isFreed_of_fields
def tH:=@PySem.wpAny_loadPart
def tJ:=@PySem.F.entry_dict_get
def u4:=@PySem.codeAny_call_builtin
def t5:=@PySem.wpAny_newList
def rb:=@PySem.wpAny_rule
def ri:=@PySem.W.callWith_K
def u9:=@PySem.wpAny_pyIter_tuple
def u_:=@PySem.SeqAt.EqAt.of_refs
def ve:=@PySem.Obj.data_mapFields
def vg:=@bne_self_eq_false
def vh:=@PySem.Within.cons
def zD:=@PyProof.Rows.slot_tuple_getitem
def rj:=@And.intro
def vi:=@PySem.wpAny_lookBehind
def vj:=@PySem.pastItsLine_dict
def zE:=@PyProof.Rows.callWith_builtin1
def vl:=@PySem.wpAny_tests_nil
def vm:=@Array.Perm.refl
def zP:=@PySem.F.slot_dict_setdefault
def zQ:=@PySem.F.args_dict_delitem_2
def zS:=@PyProof.Rows.callWith_type1
def vr:=@Nat.mul_le_mul
def vt:=@List.take_zero
def zT:=@PySem.F.entry_dict_delitem
def zU:=@PySem.Calls.Name_function_global
def vA:=@PySem.F.type_list_pop
def rn:=@PySem.F.slot_list_pop
def vI:=@PySem.rangeSize_one
def wd:=@Bool.or_false
def zV:=@PySem.F.slot_dict_values
def zW:=@PySem.F.args_tuple_add_2
def z4:=@List.getElem?_take_of_lt
def z7:=@List.Perm.eq_of_pairwise
def z_:=@PySem.wpAny_callSpecial?_slot
def Ae:=@PySem.wpAny_Call_method0_late
def Ag:=@PySem.SeqAt.eq_list_lengthsAt
def Ak:=@PySem.F.entry_tuple_add
def Al:=@PySem.F.args_dict_get_3
def Au:=@PySem.F.args_dict_get_2
def wh:=@PySem.wpAny_nsSet1
def wZ:=@PySem.seqIndex_neg
def xc:=@PySem.codeAny_loop
def xp:=@Nat.zero_add
def V8:=@Nat.succ_pos
def xx:=@List.map_nil
def Av:=@PySem.wpAny_delete_Subscript
def AK:=@PySem.wpAny_Call_method_late
def AR:=@PySem.wpAny_Assign_Subscript
def AS:=@Nat.lt_of_succ_lt_succ
def B1:=@List.getElem?_set_self
def B2:=@PySem.wpAny_isTrue_Compare1
def Cs:=@PySem.wpAny_deleteEach_cons
def um:=@if_false
def uA:=@PySem.W.any_some
def xA:=@PySem.wpAny_noted
def xE:=@PySem.wpAny_letGo
def xN:=@PySem.seqIndex_of
def xU:=@PySem.W.plainGet_of
def Cu:=@PySem.wpAny_updateDictKeys
def CG:=@PySem.wpAny_loadName_local
def CO:=@PySem.wpAny_deleteEach_nil
def CS:=@PySem.lookup_relabel_local
def Di:=@List.replicate_succ'
def Dk:=@List.getElem_toArray
def Dm:=@PySem.Heap.get?_none_of_le
def Du:=@Array.toArray_toList
def Dv:=@PySem.wpAny_loadName_cell
def DA:=@PySem.SeqAt.RcNeAt.tuples
def DI:=@PySem.wpAt_of_wpAny
def DK:=@PySem.evalArgs_none
def DR:=@PySem.Obj.isFreed_of_dict
def V9:=@Nat.add_le_add_left
def D6:=@List.zipIdx_map_fst
def V_:=@List.filter_sublist
def Ee:=@PySem.Heap.SameBut.update
def xV:=@PySem.wpAny_Name
def Ef:=@PySem.wpAny_delItem_slot
def El:=@PySem.wpAny_List_spliced
def G2:=@PySem.findBy_of_findIdx?
def JB:=@PySem.SeqAt.notIn_listAt
def WA:=@PySem.SeqAt.EqAt.str_int
def WB:=@PySem.SeqAt.EqAt.int_str
def JC:=@List.zip_nil_right
def J5:=@PySem.F.slot_tuple_index
def J6:=@PySem.Code.quiet_builtin
def KO:=@PySem.wpAny_sequenceKey
def KY:=@PySem.wpAny_collect_seq
def KZ:=@PySem.wpAny_assign_Name
def LD:=@PySem.slot_dict_getitem
def LQ:=@PySem.richCompare_gives
def L3:=@not_false_eq_true
def L6:=@decide_eq_true_eq
def WD:=@List.Pairwise.nil
def L8:=@Int.emod_eq_of_lt
def L9:=@PySem.Heap.Ns1.of_empty
def L_:=@Array.getElem_mem
def xW:=@PySem.small_one
def Mc:=@PySem.wpAny_madeBy_exc
def Md:=@PySem.wpAny_execs_cons
def Mz:=@PySem.wpAny_Dict_empty
def MC:=@PySem.noFill_tuple_add
def MD:=@Nat.le_of_not_lt
def ME:=@List.nodup_range
def MF:=@PySem.Heap.size_update
def MY:=@PySem.F.entry_list_pop
def MZ:=@PySem.wpAny_loadPart'
def Ng:=@PySem.codeAny_of_tree
def Pe:=@PySem.codeAny_builtin
def Pw:=@PySem.SeqAt.eq_listAt
def SF:=@PySem.SeqAt.EqAt.same
def Tz:=@PySem.wpAt_bind
def TF:=@Option.map_some
def Ud:=@Int.natCast_add
def Uz:=@PySem.wpAny_Compare1
def UK:=@PySem.F.slot_tuple_add
def UL:=@PySem.refuseLoop_ref
def UM:=@PySem.W.cellsFrom_some
def UU:=@Bool.false_and
def Vl:=@Array.size_map
def eH:=@Nat.lt_of_le_of_ne
def eJ:=@Nat.le_of_lt_succ
def eL:=@Nat.le_of_not_lt
def dW:=@Nat.le_trans
def iz:=@Nat.lt_of_lt_of_le
def i1:=@Nat.le_antisymm
def kC:=@Nat.le_succ_of_le
def k8:=@Nat.succ_le_of_lt
def i2:=@Nat.mod_lt
def nG:=@Nat.lt_of_le_of_lt
def lP:=@Int.ofNat.inj
def oO:=@Nat.lt_succ_of_lt
def nP:=@Nat.succ_pos
def my:=@Nat.le_of_eq
def ro:=@Int.natCast_nonneg
def mz:=@Nat.le_refl
def rz:=@Nat.lt_succ_of_le
def rK:=@Nat.le_of_succ_le
def r0:=@Nat.lt_succ_self
def uH:=@Int.toNat_of_nonneg
def x_:=@Nat.le_of_add_le_add_right
def lX:=@Eq.symm
def sm:=@Nat.lt_trans
def sC:=@Nat.le_of_lt
def yF:=@Nat.le_add_right_of_le
def y0:=@Nat.add_sub_of_le
def zi:=@Nat.lt_add_right
def zj:=@Nat.le_add_right
def Vm:=@decide_eq_false
def zl:=@PySem.sizeLine_eq
def VC:=@Nat.add_le_add_right
def WE:=@Nat.add_le_add_left
def WG:=@List.filter_sublist
def Xd:=@decide_eq_true_iff
def VD:=@Nat.pos_of_ne_zero
def VE:=@Nat.ne_zero_of_lt
def Xh:=@List.Pairwise.nil
def VF:=@Nat.succ_le_succ
def VG:=@Nat.min_le_right
def Xq:=@decide_eq_true
def oV:=@Nat.lt_of_lt_of_le
def lg:=@Nat.le_trans
def uN:=@Nat.succ_le_of_lt
def uQ:=@Nat.le_of_lt
def VR:=@Nat.ne_of_gt
def Xr:=@Nat.le_of_eq
def VT:=@Int.ne_of_gt
def Qc3:=@Nat.add_le_add_left
def Qc4:=@List.filter_sublist
def Qc5:=@Int.toNat_of_nonneg
def Qc6:=@decide_eq_true_iff
def Qc7:=@Nat.lt_of_le_of_lt
def Qc8:=@PySem.sizeLine_eq
def Qc9:=@Nat.lt_succ_of_lt
def Qda:=@Nat.le_succ_of_le
def Qdb:=@List.Pairwise.nil
def VX:=@Nat.not_lt_of_le
def Qdd:=@Nat.lt_succ_self
def Xs:=@Nat.lt_add_right
def Qdf:=@Nat.le_of_not_lt
def Qdg:=@Nat.le_add_right
def Qdh:=@decide_eq_false
def Qdi:=@decide_eq_true
namespace L2
open PySem PySem.Spec PyProof.Rows
abbrev Key:=Sum Int ar
def ub:Key->aY->cm
 |.inl k,v=>Value.isInt k v
 |.inr x,v=>Value.isStrOf x v
def YA(w:c5):Key->Int
 |.inl k=>hashInt k
 |.inr x=>hashStr w x
theorem m7:∀{k:Key} {v:aY},ub k v=af->(∃i t,k=Sum.inl i/\v=Value.int i t)\/(∃x t,k=Sum.inr x/\v=Value.str x t)
 |.inl i,v,h=>by
  obtain⟨t,e⟩:=Value.isInt_shape h
  grind
 |.inr x,v,h=>by
  obtain⟨t,e⟩:=Value.isStrOf_shape h
  grind
def YB(i:Int)(t:Tok):ub (.inl i) (.int i t)=af:=by simp[ub,Value.isInt]
def YC(x:ar)(t:Tok):ub (.inr x) (.str x t)=af:=by simp[ub,Value.isStrOf]
def YH(a b:Int):decide ((Sum.inl a:Key)=Sum.inl b)=(a==b):=by
 grind
def YP(a b:ar):decide ((Sum.inr a:Key)=Sum.inr b)=decide (a=b):=by
 grind
def Zgr(a:Int)(b:ar):decide ((Sum.inl a:Key)=Sum.inr b)=a7:=gb (λq=>nomatch q)
def Zgs(a:ar)(b:Int):decide ((Sum.inr a:Key)=Sum.inl b)=a7:=gb (λq=>nomatch q)
def dU(c:de)(w:c5):PySem.KeyKind c w Key where
 is:=ub
 hash:=YA w
 inj:=λv a b m g=>by
  rcases m7 m with⟨i,t,rfl,rfl⟩|⟨x,t,rfl,rfl⟩
  ·rcases m7 g with⟨j,u,rfl,e⟩|⟨y,u,rfl,e⟩;·injection e with d _;rw[d]
   ·exact nomatch e
  ·rcases m7 g with⟨j,u,rfl,e⟩|⟨y,u,rfl,e⟩;·exact nomatch e
   ·injection e with d _;rw[d]
 byValue:=λk v h=>by
  rcases m7 h with⟨i,t,rfl,rfl⟩|⟨x,t,rfl,rfl⟩<;>rfl
 pyHash:=λf h=>by
  rcases m7 f with⟨i,t,rfl,rfl⟩|⟨x,t,rfl,rfl⟩;·exact wpAny_pyHash_int h
  ·exact wpAny_pyHash_str h
 eqBool:=λl f h=>by
  rcases m7 l with⟨i,t,rfl,rfl⟩|⟨x,t,rfl,rfl⟩
  ·rcases m7 f with⟨j,u,rfl,rfl⟩|⟨y,u,rfl,rfl⟩;·rw[YH] at h;exact wpAny_eqBool_int h
   ·rw[Zgr] at h;exact SeqAt.EqAt.int_str i t y u _ _ _ _ h
  ·rcases m7 f with⟨j,u,rfl,rfl⟩|⟨y,u,rfl,rfl⟩;·rw[Zgs] at h;exact SeqAt.EqAt.str_int x t j u _ _ _ _ h
   ·rw[YP] at h;exact wpAny_eqBool_str h
 «strs»:=λk x t v h=>by
  rcases m7 h with⟨i,u,rfl,e⟩|⟨y,u,rfl,e⟩;·exact nomatch e
  ·injection e with d _;subst d;cases v<;>rfl
def Za8(a:de)(w:c5)(i:Int)(t:Tok):(dU a w).is (.inl i) (.int i t)=af:=YB i t
def Za9(a:de)(w:c5)(x:ar)(t:Tok):(dU a w).is (.inr x) (.str x t)=af:=YC x t
inductive V where
 |aA|bl (b:cm)|int (i:Int)|str (x:ar)|kr (b:c7 UInt8)|uK (b:UInt64)|ref (a:U)|ty (n:String)
 deriving DecidableEq
def RelV:V->aY->Prop
 |.aA,u=>u=Value.none
 |.bl b,u=>u=Value.bool b
 |.int i,u=>∃t,u=Value.int i t
 |.str x,u=>∃t,u=Value.str x t
 |.kr b,u=>∃t,u=Value.bytes b t
 |.uK b,u=>∃t,u=Value.float b t
 |.ref a,u=>u=Value.ref a
 |.ty n,u=>u=Value.type n
abbrev Vals:O V->O aY->Prop:=Paired RelV
def Vals.length{a:O V}{b:O aY}(r:Vals a b):a.length=b.length:=Paired.length r
theorem Vals.get:∀{a:O V} {b:O aY} {i:Nat} {x:V},Vals a b->a[i]?=Z x->∃u,b[i]?=Z u/\RelV x u
 |_,_,_,_,.nil,e=>by simp at e
 |_,_,0,_,.cons r _,e=>by simp at e;subst e;exact⟨_,rfl,r⟩
 |_,_,i+1,x,.cons _ t,e=>by
  obtain⟨u,d,c⟩:=Vals.get t (by simpa using e)
  grind
theorem Vals.set{x:V}{u:aY}(r:RelV x u):∀{a:O V} {b:O aY} (i:Nat),Vals a b->Vals (a.set i x) (b.set i u)
 |_,_,_,.nil=>.nil
 |_,_,0,.cons _ t=>.cons r t
 |_,_,i+1,.cons q t=>.cons q (Vals.set r i t)
theorem Vals.append:∀{b a:O V} {d c:O aY},Vals b d->Vals a c->Vals (b++a) (d++c):=by
 intro b a d c h f;induction h with
 |nil=>exact f
 |cons r t e=>exact .cons r e
theorem Vals.take:∀{a:O V} {b:O aY} (n:Nat),Vals a b->Vals (a.take n) (b.take n)
 |_,_,0,_=>.nil
 |_,_,_+1,.nil=>.nil
 |_,_,n+1,.cons r t=>.cons r (Vals.take n t)
theorem Vals.drop:∀{a:O V} {b:O aY} (n:Nat),Vals a b->Vals (a.drop n) (b.drop n)
 |_,_,0,r=>r
 |_,_,_+1,.nil=>.nil
 |_,_,n+1,.cons _ t=>Vals.drop n t
def eU:bS V->bS aY->Prop
 |some v,some u=>RelV v u
 |none,none=>True
 |_,_=>False
def KV{a:Type}:O (a×V)->O (a×aY)->Prop:=Paired λ(p:a×V) (q:a×aY)=>p.1=q.1/\RelV p.2 q.2
def kV:Key->V
 |.inl i=>.int i
 |.inr x=>.str x
inductive HO where
 /--a list-/
 |lst(d:O V)
 /--a tuple(never changes)-/
 |tup(d:O V)
 /--a dict ZhU keys are ints and texts;one ZhU keys are tuples of ints and texts(qG empty one is both)-/
 |dK(c:O (Key×V))|dT(c:O (O Key×V))
 /--a set of ints:aj members,aj size-/
 |set (b:Int->cm) (n:Nat)
 /--an instance of qG class at C,aj dict at g,aj attributes-/
 |ins (C g:U) (fs:O (ar×V))
 /--qG dict of qG instance at x-/
 |own (x:U)
 /--qG dict of an exception-/
 |xd (fs:O (ar×V))
 /--a bound method,f of x-/
 |met (f x:U)
 /--a range object lo,lo+1,.. below e-/
 |ku (lo e:Int)
 /--a ZhV Zk5 is known to qG object (qG RN;a dict while a loop walks it):read,never written while it is so-/
 |cL (o:Obj) (u:HO)
 /--a code ZkT table-/
 |sG (j:c7 aY)
 /--any other ZhV,by ZiG is af of aj one object (a def of Zk1 own:Zk6 a b n:=HO.ext λh=>..)-/
 |ext (i:cY->Prop)
abbrev Hp:=U->bS HO
def upd(H:Hp)(a:U)(o:HO):Hp:=λb=>if b=a then Z o else H b
def aT:upd H a o a=Z o:=by unfold upd;rw[bt rfl]
def aN(h:b≠a):upd H a o b=H b:=by unfold upd;rw[bu h]
def Iz:upd (upd H a o) a u=upd H a u:=by
 funext b;unfold upd;split<;>rfl
def Ta{H:Hp}(h:H a=Z o)(c:H b=Z u)(d:o≠u):a≠b:=by
 intro e;subst e;rw[h] at c;exact d (Yo c)
def cE{H:Hp}(h:H a=Z o)(c:H b=aE):a≠b:=by
 grind
section
variable (P:de)(w:c5)
def ng(h:cY)(a:U)(b:c7 aY):Prop:=∃o,h.get? a=Z o/\o.cls=.type "tuple"/\∃n,o.data=.seq b n/\o.dict=aE
def ng.tup(x:ng h a items):IsTup h a items:=let⟨o,e,c,n,d,_⟩:=x;⟨o,e,c,n,d⟩
def ng.lt(x:ng h a items):a<h.objs.size:=x.tup.lt
def ng.new(h:cY)(items:c7 aY):ng (h.push {cls:=.type "tuple",data:=.seq items}) h.objs.size items:=⟨_,Yu _ rfl,rfl,_,rfl,rfl⟩
def cT(H:Hp)(h:cY)(a:U):HO->Prop
 |.lst b=>b.length<=sizeLine/\∃(d:O aY) (n:Nat),Vals b d/\h.get? a=Z {cls:=.type "list",data:=.seq d.toArray n}
 |.tup b=>b.length<=sizeLine/\∃d:O aY,Vals b d/\ng h a d.toArray
 |.dK kvs=>kvs.length<=sizeLine/\(a==sysModules)=a7/\∃e,KV kvs e/\h.DictOf (dU P w) a e
 |.dT kvs=>kvs.length<=sizeLine/\(a==sysModules)=a7/\∃b:O (O Key×U×aY),
   Paired (λ(p:O Key×V) (q:O Key×U×aY)=>p.1=q.1/\H q.2.1=Z (.tup (p.1.map kV))/\RelV p.2 q.2.2) kvs b/\
   ∃o j k,h.get? a=Z o/\o.ExactDict/\o.data=.dict j k/\j.toList=b.map (entryOfKey (tupleKind (dU P w)))/\(b.map (·.1)).Nodup
 |.set S n=>h.SetOf (intKind P w) a S n
 |.ins C dx fs=>H dx=Z (.own a)/\fs.length<=1000/\dx≠a/\h.get? a=Z (instObj C dx)/\
   ∃c,h.Ns1 dx c/\(∀f,eU (fs.lookup f) (c f))/\PySem.Within c (fs.map (·.1))
 |.own _=>∃o,h.get? a=Z o
 |.xd fs=>∃c,h.Ns1 a c/\∀f,eU (fs.lookup f) (c f)
 |.ku lo hi=>∃t u v,h.get? a=Z {cls:=.type "range",data:=.fields #[.int lo t,.int hi u,.int 1 v]}
 |.cL o u=>h.get? a=Z o/\cT H h a u
 |.sG ps=>h.get? a=Z {cls:=.none,data:=.fields ps}
 |.met f x=>h.get? a=Z (methodObj (.ref f) (.ref x))
 |.ext φ=>φ h/\(∃o,h.get? a=Z o)/\∀i g:cY,φ i->(∀o,i.get? a=Z o->g.get? a=Z o)->φ g
def dq(H:Hp)(h:cY):Prop:=∀a o,H a=Z o->cT P w H h a o
end
theorem cT.lt(x:cT P w H h a o):a<h.objs.size:=by
 cases o with
 |lst xs=>obtain⟨_,_,_,_,e⟩:=x;exact Yt e
 |tup xs=>obtain⟨_,_,_,p⟩:=x;exact p.lt
 |dK b=>obtain⟨_,_,_,_,o,_,_,e,_⟩:=x;exact Yt e
 |dT b=>obtain⟨_,_,_,_,o,_,_,e,_⟩:=x;exact Yt e
 |set S n=>obtain⟨o,_,_,_,e,_⟩:=x;exact Yt e
 |ins C j fs=>obtain⟨_,_,_,e,_⟩:=x;exact Yt e
 |own y=>obtain⟨_,e⟩:=x;exact Yt e
 |xd fs=>obtain⟨_,⟨_,_,_,e,_⟩,_⟩:=x;exact Yt e
 |ku lo i=>obtain⟨_,_,_,e⟩:=x;exact Yt e
 |cL g u=>obtain⟨e,_⟩:=x;exact Yt e
 |sG d=>exact Yt (x)
 |met f y=>exact Yt (x)
 |ext c=>obtain⟨_,⟨_,e⟩,_⟩:=x;exact Yt e
theorem Paired.bA{e d:Type}{F G:e->d->Prop}:∀{c:O e} {l₂:O d},Paired F c l₂->(∀a b,F a b->G a b)->Paired G c l₂:=by
 intro c l₂ h f;induction h with
 |nil=>exact .nil
 |cons r t g=>exact .cons (f _ _ r) g
theorem cT.iQ(x:cT P w H h a o)(k:∀b u,(b=a\/H b=Z (.own a))->h.get? b=Z u->J.get? b=Z u)
  (I:∀b,H b=Z (.own a)->D b=Z (.own a))(G:∀b l,H b=Z (.tup l)->D b=Z (.tup l)):cT P w D J a o:=by
 induction o with
 |lst l=>obtain⟨z,B,n,r,e⟩:=x;exact⟨z,B,n,r,k _ _ (.inl rfl) e⟩
 |tup l=>obtain⟨z,B,r,g,e,c⟩:=x;exact⟨z,B,r,g,k _ _ (.inl rfl) e,c⟩
 |dK A=>obtain⟨z,y,E,r,g,i,j,e,c⟩:=x;exact⟨z,y,E,r,g,i,j,k _ _ (.inl rfl) e,c⟩
 |dT A=>
  obtain⟨z,y,l,r,g,i,j,e,c⟩:=x;exact⟨z,y,l,Paired.bA r λp q z=>⟨z.1,G _ _ z.2.1,z.2.2⟩,g,i,j,k _ _ (.inl rfl) e,c⟩
 |set S n=>obtain⟨g,i,j,t,e,c⟩:=x;exact⟨g,i,j,t,k _ _ (.inl rfl) e,c⟩
 |ins C T fs=>
  obtain⟨d,z,ne,e,s,⟨m,i,j,L,c⟩,r⟩:=x;exact⟨I _ d,z,ne,k _ _ (.inl rfl) e,s,⟨m,i,j,k _ _ (.inr d) L,c⟩,r⟩
 |own y=>obtain⟨g,e⟩:=x;exact⟨g,k _ _ (.inl rfl) e⟩
 |xd fs=>obtain⟨s,⟨m,i,j,e,c⟩,r⟩:=x;exact⟨s,⟨m,i,j,k _ _ (.inl rfl) e,c⟩,r⟩
 |ku lo R=>obtain⟨t,u,v,e⟩:=x;exact⟨t,u,v,k _ _ (.inl rfl) e⟩
 |cL g u F=>obtain⟨e,q⟩:=x;exact⟨k _ _ (.inl rfl) e,F q⟩
 |sG Q=>
  have e:=x;exact k a _ (.inl rfl) e
 |met f y=>
  have e:=x;exact k a _ (.inl rfl) e
 |ext N=>obtain⟨p,⟨o,e⟩,st⟩:=x;exact⟨st _ _ p λo q=>k _ _ (.inl rfl) q,⟨o,k _ _ (.inl rfl) e⟩,st⟩
def dq.lt(x:dq P w H h)(e:H a=Z o):a<h.objs.size:=(x a o e).lt
theorem dq.fresh(x:dq P w H h)(e:h.objs.size<=a):H a=aE:=by
 cases q:H a with
 |none=>rfl
 |some u=>exact absurd (Y2 (x.lt q) e) (Wb _)
def dq.kept(x:dq P w H h)(k:∀b u,h.get? b=Z u->h'.get? b=Z u):dq P w H h':=λa o e=>
 (x a o e).iQ (λ b u _=>k b u) (λ_ q=>q) λ_ _ q=>q
def dq.laid(x:dq P w H h)(k:∀b u,h.get? b=Z u->h'.get? b=Z u)(i:h.objs.size<=a)(d:cT P w (upd H a o) h' a o):dq P w (upd H a o) h':=λb u e=>by
 have f:=x.fresh i;by_cases g:b=a;·subst g;rw[aT] at e;cases e;exact d
 ·rw[aN g] at e;exact(x b u e).iQ (λ c v _=>k c v) (λc q=>by rwa[aN (cE q f)]) λc j q=>by rwa[aN (cE q f)]
def Rd(H:Hp)(a:U)(u:HO):Prop:=H a=Z u\/∃o,H a=Z (.cL o u)
def Rd.ok{P:de}{w:c5}{H:Hp}{h:cY}{a:U}{u:HO}(r:Rd H a u)(x:dq P w H h):cT P w H h a u:=by
 rcases r with r|⟨o,r⟩;·exact x a u r
 ·obtain⟨_,q⟩:=x a _ r;exact q
def zO:bS HO->Prop
 |some (.lst _)=>True
 |some (.dK _)=>True
 |some (.dT _)=>True
 |some (.set _ _)=>True
 |some (.ins _ _ _)=>True
 |some (.ext _)=>True
 |_=>False
def dq.write(t:dq P w H h)(d:zO (H x))(o:e=x\/H e=Z (.own x))(k:∀b u,b≠e->h.get? b=Z u->h'.get? b=Z u)(s:∃u,h'.get? e=Z u)
  (j:cT P w (upd H x n) h' x n):dq P w (upd H x n) h':=λb u q=>by
 have p:∀c y,H c=Z (.own y)->c≠x:=λc y r z=>by subst z;rw[r] at d;exact d
 have l:∀c a,H c=Z (.tup a)->c≠x:=λc a r z=>by subst z;rw[r] at d;exact d
 by_cases g:b=x;·subst g;rw[aT] at q;cases q;exact j
 ·rw[aN g] at q;by_cases i:b=e
  ·have m:H b=Z (.own x):=by
    rcases o with z|z;·exact absurd (i.trans z) g
    ·rwa[i]
   rw[q] at m;cases m;obtain⟨v,A⟩:=s;exact⟨v,by rwa[i]⟩
  ·refine(t b u q).iQ (λc v f r=>k c v ?_ r) (λc r=>by rwa[aN (p c b r)]) λc a r=>by rwa[aN (l c a r)]
   rcases f with rfl|f;·exact i
   ·rintro rfl;rcases o with z|z;·exact p c b f z
    ·rw[f] at z;cases z;exact g rfl
structure Un(fs ex:O U)(H H':Hp)(h h':cY):Prop where
 keep:∀b o,h.get? b=Z o->H b=aE->b∉fs->b∉ex->h'.get? b=Z o
 slot:∀b o,h.get? b=Z o->H b=aE->b∈fs->b∉ex->∃sl,h'.get? b=Z {o with slots:=sl}
 free:∀b o,h.get? b=Z o->H b=aE->b∉ex->H' b=aE
 there:∀b o,h.get? b=Z o->b∉ex->∃o',h'.get? b=Z o'
 ig:∀b xs,H b=Z (.tup xs)->H' b=Z (.tup xs)
 iR:∀b o u,H b=Z (.cL o u)->H' b=Z (.cL o u)
 jo:∀b ps,H b=Z (.sG ps)->∃more,H' b=Z (.sG (ps++more))
section
variable {fs X:O U}{H H1 T:Hp}{h W R h':cY}{a:U}{o:HO}
def Un.any(u:Un fs X H H1 h W)(q:h.get? b=Z c)(n:H b=aE)(d:b∉X):∃f,W.get? b=Z {c with slots:=f}:=by
 by_cases e:b∈fs;·exact u.slot b c q n e d
 ·exact⟨c.slots,u.keep b c q n e d⟩
theorem Un.trans(a:Un fs X H H1 h W)(b:Un fs X H1 T W R):Un fs X H T h R where
 keep:=λc d q n i e=>b.keep c d (a.keep c d q n i e) (a.free c d q n e) i e
 slot:=λc d q n i e=>by
  obtain⟨m,f⟩:=a.slot c d q n i e;obtain⟨s,l⟩:=b.slot c _ f (a.free c d q n e) i e
  grind
 free:=λc d q n e=>by
  obtain⟨j,f⟩:=a.there c d q e;exact b.free c j f (a.free c d q n e) e
 there:=λc d q e=>by
  obtain⟨j,f⟩:=a.there c d q e;exact b.there c j f e
 ig:=λc g q=>b.ig c g (a.ig c g q)
 iR:=λc d g q=>b.iR c d g (a.iR c d g q)
 jo:=λc k q=>by
  obtain⟨r,f⟩:=a.jo c k q;obtain⟨p,l⟩:=b.jo c _ f
  grind
def Un.kept(k:∀b u,h.get? b=Z u->h'.get? b=Z u):Un fs X H H h h':=
 ⟨λb c q _ _ _=>k b c q,λb c q _ _ _=>⟨c.slots,k b c q⟩,λ_ _ _ n _=>n,λb c q _=>⟨c,k b c q⟩,λ_ _ q=>q,λ_ _ _ q=>q,λ_ d q=>⟨#[],by rw[q];simp⟩⟩
def Un.refl:Un fs X H H h h:=Un.kept λ_ _ q=>q
theorem Un.laid(k:∀b u,h.get? b=Z u->h'.get? b=Z u)(e:h.objs.size<=a)(c:H a=aE):Un fs X H (upd H a o) h h' where
 keep:=λb u q _ _ _=>k b u q
 slot:=λb u q _ _ _=>⟨u.slots,k b u q⟩
 free:=λb u q n _=>by rw[aN (Y0 (Y2 (Yt q) e))];exact n
 there:=λb u q _=>⟨u,k b u q⟩
 ig:=λb d q=>by rw[aN (cE q c)];exact q
 iR:=λb u d q=>by rw[aN (cE q c)];exact q
 jo:=λb f q=>⟨#[],by rw[aN (cE q c),q];simp⟩
def Un.write(c:zO (H x))(p:e=x\/H e=Z (.own x))(k:∀b u,b≠e->h.get? b=Z u->h'.get? b=Z u)(l:∃u,h'.get? e=Z u):Un fs X H (upd H x o) h h':=by
 have j:∀b,H b=aE->b≠x:=λb n z=>by subst z;rw[n] at c;exact c
 have f:∀b,H b=aE->b≠e:=λb n z=>by
  grind
 have d:∀b u,H b=Z u->¬zO (Z u)->b≠x:=λb u q i z=>by subst z;rw[q] at c;exact i c
 refine⟨λb u q n _ _=>k b u (f b n) q,λb u q n _ _=>⟨u.slots,k b u (f b n) q⟩,λb u q n _=>by rwa[aN (j b n)],λb u q _=>?_,
  λb g q=>by rwa[aN (d b _ q λz=>z)],λb u g q=>by rwa[aN (d b _ q λz=>z)],λb m q=>⟨#[],by rw[aN (d b _ q λz=>z),q];simp⟩⟩
 grind
end
def xv(h:cY)(H:Hp):O U:=(List.range h.objs.size).filter λa=>(H a).isSome
def qC(h:cY)(H:Hp):cY:=PySem.W.hideAll h (xv h H)
def ZcO(h:cY)(H:Hp):(qC h H).objs.size=h.objs.size:=PySem.W.hideAll_size _ _
def ZdD(e:h.get? b=Z o)(n:H b=aE):(qC h H).get? b=Z o:=
 PySem.W.hideAll_get _ e λa=>by
  have q:=(Y5.mp a).2
  grind
theorem Ze7(e:(qC h H).get? b=Z o):h.get? b=Z o/\H b=aE:=by
 have a:=PySem.W.of_hideAll (xv h H) e;refine⟨a,?_⟩;cases q:H b with
 |none=>rfl
 |some x=>
  have z:(qC h H).get? b=aE:=PySem.W.hideAll_none (xv h H) (Y5.mpr ⟨Wv.mpr (Yt a),by simp[q]⟩)
  grind
structure Mod(K:ai)(mg:aV)(base:cY):Prop where
 qH:K.In base
 glob:base.Ns mainGlobals mg
 blt:∃mb,base.Ns builtinsNs mb/\∀x:ar,x≠"__name__"->mb x=bootBuiltins x
 nolimit:base.NoLimit
structure Cx where
 prog:de
 w:c5
 K:ai
 mg:ar->bS aY
 base:cY
 A:d6
 N:O ar
 dh:bR
 mH:Hp
 env:Env
 outer:O Env
 stack:O Env
 ex:O U
 fn:ar->cm
 calm:cm
 pn:O (U×Obj)
 xe:aY->bR->Prop
abbrev Cx.md(X:Cx):=model X.prog X.w
abbrev kz(X:Cx)(e:cP)(a:O cP):Prop:=starEach (e::a) X.env=(a7,eval e X.env)::starEach a X.env
abbrev lC(X:Cx)(a:Pos)(b:O cP):Prop:=(backTo a (starEach b X.env)).any (·.1)=a7
def cX(l:O Env):O U:=l.filterMap (·.frame)
abbrev Cx.fs(X:Cx):O U:=cX X.outer
def uL(a:Scope)(x:ar):Prop:=a.names.lookup x=Z .local\/a.names.lookup x=Z .cell\/a.names.lookup x=Z .free
def Loc(a:Scope)(x:ar):Prop:=a.names.lookup x=Z .local\/a.names.lookup x=Z .cell
def Look(a:Env)(h:cY)(m:aV)(x:ar)(u:aY):Prop:=
 (a.kindOf x=Z .local/\m x=Z u)\/((a.kindOf x=Z .cell\/a.kindOf x=Z .free)/\∃c,a.cells.lookup x=Z c/\h.IsCell c (Z u))
structure Cx.Ok(X:Cx):Prop where
 mod:Mod X.K X.mg X.base
 kind:X.env.scope.kind=.function
 glob:X.env.globals=mainGlobals
 blt:X.env.builtins=builtinsNs
 above:X.dh.heap.objs.size<=X.env.locals
 inj:∀x y c,X.env.cells.lookup x=Z c->X.env.cells.lookup y=Z c->x=y
 has:∀x,(X.env.kindOf x=Z .cell\/X.env.kindOf x=Z .free)->∃c,X.env.cells.lookup x=Z c
 uM:∀x c,X.fn x=af->X.env.cells.lookup x=Z c->X.dh.heap.objs.size<=c
 hd:X.calm=af->X.A.handled=aE
 frames:X.A.frames=Z X.stack
 xw:X.stack=X.outer\/(X.stack=X.env::X.outer/\X.env.frame=Z X.env.locals)
 sH:∀b∈X.ex,b≠X.env.locals/\∀x c,X.env.cells.lookup x=Z c->c≠b
 bs:∀b o,X.base.get? b=Z o->X.dh.heap.get? b=Z o/\X.mH b=aE
 nO:X.base.objs.size<=X.dh.heap.objs.size
 uo:∀b o,X.base.get? b=Z o->b∉X.ex
 sh:∀b∈X.ex,b∉X.fs
 kj:X.dh.heap.FunFrames X.base X.outer
 qI:∀b∈X.fs,X.mH b=aE
structure Inv(X:Cx)(pins:aW)(σ:O (bS V))(H:Hp)(s:bR):Prop where
 ok:X.Ok
 os:s.os=X.dh.os
 bare:AllBare s.gens
 base:Un X.fs X.ex X.mH H X.dh.heap s.heap
 loc:∃m,s.heap.Ns X.env.locals m/\∀(i:Nat) (x:ar) (v:V),X.N[i]?=Z x->σ[i]?=Z (Z v)->uL X.env.scope x->∃u,RelV v u/\Look X.env s.heap m x u
 cell:∀x c,X.env.cells.lookup x=Z c->∃v,s.heap.IsCell c v
 free:H X.env.locals=aE
 iP:∀x c,X.env.cells.lookup x=Z c->H c=aE
 pin:∀p∈X.pn++pins,s.heap.get? p.1=Z p.2/\H p.1=aE/\p.1≠X.env.locals/\p.1∉X.fs/\∀v,p.2.data≠.cell v
 ay:dq X.prog X.w H s.heap
 len:σ.length=X.N.length
section
variable {X:Cx}{W:aW}{σ:O (bS V)}{H T:Hp}{s:bR}{h':cY}
def Cx.Ok.ZiI(a:X.Ok)(e:X.base.get? b=Z o):b∉X.fs:=λc=>by
 have:=(a.kj.mem c).1
 grind
def Inv.bs(I:Inv X W σ H s):∀b o,X.base.get? b=Z o->s.heap.get? b=Z o/\H b=aE:=λb o e=>
 ⟨I.base.keep b o (I.ok.bs b o e).1 (I.ok.bs b o e).2 (I.ok.ZiI e) (I.ok.uo b o e),I.base.free b o (I.ok.bs b o e).1 (I.ok.bs b o e).2 (I.ok.uo b o e)⟩
def Inv.bk(I:Inv X W σ H s):∀b o,X.base.get? b=Z o->s.heap.get? b=Z o:=λb o e=>(I.bs b o e).1
def Inv.mod(I:Inv X W σ H s):Mod X.K X.mg X.base:=I.ok.mod
def Inv.cG(I:Inv X W σ H s):X.K.In s.heap:=I.ok.mod.qH.keeps I.bk
def Inv.lt(I:Inv X W σ H s):X.env.locals<s.heap.objs.size:=let⟨_,a,_⟩:=I.loc;a.lt
def Inv.sz(I:Inv X W σ H s):X.dh.heap.objs.size<=s.heap.objs.size:=Yy I.ok.above (Jn I.lt)
def Inv.ZiJ(I:Inv X W σ H s)(h:s.heap.objs.size<=a):a∉X.fs:=λc=>by
 obtain⟨_,o,b,_⟩:=I.ok.kj.mem c;exact absurd (Y2 (Yt b) (Yy I.sz h)) (Wb _)
def Inv.qJ(I:Inv X W σ H s):∀x c,X.env.cells.lookup x=Z c->c≠X.env.locals:=λx c e z=>by
 obtain⟨v,o,d,hd⟩:=I.cell x c e;obtain⟨m,⟨b,f,g,a,h,_⟩,_⟩:=I.loc
 grind
theorem Inv.kj(I:Inv X W σ H s):s.heap.FunFrames X.base X.outer:=by
 have all:∀(l:O Env),(∀b∈cX l,b∈X.fs)->X.dh.heap.FunFrames X.base l->s.heap.FunFrames X.base l:=by
  intro l;induction l with
  |nil=>intro _ _;trivial
  |cons env r g=>
   rintro f ⟨k,⟨L,o,a,j,i,hd⟩,h⟩;have d:=f L (by unfold cX;rw[Jh,a];exact Yk);obtain⟨m,e⟩:=I.base.slot L o i (I.ok.qI L d) d λz=>I.ok.sh L z d;exact⟨k,⟨L,_,a,j,e,hd⟩,g (λb c=>f b (by unfold cX;rw[Jh,a];exact Yx _ c)) h⟩
 exact all X.outer (λ_ c=>c) I.ok.kj
def Inv.stack(I:Inv X W σ H s):s.heap.FunFrames X.base X.stack:=by
 rcases I.ok.xw with e|⟨e,b⟩;·exact e▸I.kj
 ·rw[e];obtain⟨m,a,_⟩:=I.loc;refine .cons (by rw[I.ok.kind];decide) b a ?_ I.kj;exact Dm (Yy I.ok.nO I.ok.above)
def Inv.IY(I:Inv X W σ H s):∀b∈cX X.stack,b∈X.env.locals::X.fs:=λb a=>by
 rcases I.ok.xw with e|⟨e,c⟩;·grind
 ·rw[e] at a;unfold cX at a;rw[Jh,c] at a;exact a
def Inv.BE(I:Inv X W σ H s):∀b∈cX X.stack,H b=aE:=λb a=>by
 rcases Yp.mp (I.IY b a) with e|a;·exact e▸I.free
 ·obtain⟨_,o,c,_⟩:=I.ok.kj.mem a;exact I.base.free b o c (I.ok.qI b a) λz=>I.ok.sh b z a
def Inv.step{g':c7 GenState}{t':Nat}{d':Drawn}{ch:O U}(I:Inv X W σ H s)
  (D:∀b∈ch,(b∈X.ex\/X.dh.heap.objs.size<=b)/\b≠X.env.locals/\(∀x c,X.env.cells.lookup x=Z c->c≠b)/\∀p∈X.pn++W,p.1≠b)
  (g:∀b o,b≠X.env.locals->b∉X.fs->b∉ch->s.heap.get? b=Z o->H b=aE->h'.get? b=Z o)
  (w:∀b o,b≠X.env.locals->b∈X.fs->b∉ch->s.heap.get? b=Z o->H b=aE->∃L,h'.get? b=Z {o with slots:=L})(f:∀b o,b∉ch->s.heap.get? b=Z o->H b=aE->T b=aE)
  (y:∀b o,b∉ch->s.heap.get? b=Z o->∃E,h'.get? b=Z E)
  (ig:∀b t,H b=Z (.tup t)->T b=Z (.tup t))(iR:∀b o u,H b=Z (.cL o u)->T b=Z (.cL o u))(jo:∀b G,H b=Z (.sG G)->∃more,T b=Z (.sG (G++more)))
  (ns:∀m,s.heap.Ns X.env.locals m->h'.Ns X.env.locals m)(ay:dq X.prog X.w T h')(hg:AllBare g'):
  Inv X W σ T {s with heap:=h',gens:=g',drawn:=d',toks:=t'}:=by
 have R:∀b o,X.dh.heap.get? b=Z o->b≠X.env.locals:=λb o e=>Y0 (Y2 (Yt e) I.ok.above);have J:∀b o,X.dh.heap.get? b=Z o->b∉X.ex->b∉ch:=λb o e a A=>by
  rcases(D b A).1 with z|z;·exact a z
  ·exact absurd (Y2 (Yt e) z) (Wb _)
 have h:∀x c,X.env.cells.lookup x=Z c->∀v,s.heap.IsCell c v->h'.IsCell c v:=λx c e v ⟨o,B,hd⟩=>by
  have C:=λz=>(D c z).2.2.1 x c e rfl;by_cases Q:c∈X.fs
  ·obtain⟨L,q⟩:=w c o (I.qJ x c e) Q C B (I.iP x c e);exact⟨_,q,hd⟩
  ·exact⟨o,g c o (I.qJ x c e) Q C B (I.iP x c e),hd⟩
 refine⟨I.ok,I.os,hg,⟨λb o e n A a=>?_,λb o e n A a=>?_,λb o e n a=>?_,λb o e a=>?_,λb t e=>ig b t (I.base.ig b t e),λb o t e=>iR b o t (I.base.iR b o t e),λb G e=>?_⟩,?_,λx c e=>?_,?_,λx c e=>?_,λp P=>?_,ay,I.len⟩;·exact g b o (R b o e) A (J b o e a) (I.base.keep b o e n A a) (I.base.free b o e n a)
 ·obtain⟨L,j⟩:=I.base.slot b o e n A a;obtain⟨Vk,F⟩:=w b _ (R b o e) A (J b o e a) j (I.base.free b o e n a);exact⟨Vk,F⟩
 ·obtain⟨E,j⟩:=I.base.there b o e a;exact f b E (J b o e a) j (I.base.free b o e n a)
 ·obtain⟨E,j⟩:=I.base.there b o e a;exact y b E (J b o e a) j
 ·obtain⟨m1,j⟩:=I.base.jo b G e;obtain⟨m2,F⟩:=jo b _ j;exact⟨m1++m2,by rw[F,Array.append_assoc]⟩
 ·obtain⟨m,hn,hl⟩:=I.loc;refine⟨m,ns m hn,λi x v j F e3=>?_⟩;obtain⟨u,r,l⟩:=hl i x v j F e3;refine⟨u,r,?_⟩;rcases l with l|⟨k,c,e,z⟩;·exact .inl l
  ·exact .inr ⟨k,c,e,h x c e _ z⟩
 ·obtain⟨v,z⟩:=I.cell x c e;exact⟨v,h x c e v z⟩
 ·obtain⟨m,⟨o,_,_,B,_⟩,_⟩:=I.loc;exact f _ o (λz=>(D _ z).2.1 rfl) B I.free
 ·obtain⟨v,o,B,hd⟩:=I.cell x c e;exact f c o (λz=>(D c z).2.2.1 x c e rfl) B (I.iP x c e)
 ·obtain⟨e,n,ne,N,d⟩:=I.pin p P;have C:=λz=>(D p.1 z).2.2.2 p P rfl;exact⟨g p.1 p.2 ne N C e n,f p.1 p.2 C e n,ne,N,d⟩
def Inv.un(I:Inv X W σ H s)(u:Un X.fs [] H T s.heap h')(k:dq X.prog X.w T h'):Inv X W σ T {s with heap:=h',toks:=l}:=by
 obtain⟨m,⟨o,v,w,d,r⟩,_⟩:=id I.loc;obtain⟨p,j⟩:=u.any d I.free QS;exact I.step (g':=s.gens) (ch:=[]) (λ_ z=>nomatch z) (λb o _ a _ e n=>u.keep b o e n a QS) (λb o _ a _ e n=>u.slot b o e n a QS) (λb o _ e n=>u.free b o e n QS) (λb o _ e=>u.there b o e QS) u.ig u.iR u.jo (λt i=>by
  obtain⟨q,h,f,c,g⟩:=i;rw[d] at c;cases c;exact⟨_,h,f,j,g⟩) k I.bare
def Inv.call(I:Inv X W σ H s)(u:Un (cX X.stack) ch H T s.heap h')(w:dq X.prog X.w T h')(q:AllBare v)
  (g:∀b∈ch,(b∈X.ex\/X.dh.heap.objs.size<=b)/\b≠X.env.locals/\(∀x c,X.env.cells.lookup x=Z c->c≠b)/\∀p∈X.pn++W,p.1≠b):
  Inv X W σ T {s with heap:=h',gens:=v,drawn:=F,toks:=y}:=by
 obtain⟨m,⟨o,D,E,h,r⟩,_⟩:=id I.loc;obtain⟨A,d⟩:=u.any h I.free λz=>(g _ z).2.1 rfl;exact I.step g (λb o d t a e n=>u.keep b o e n (λz=>(Yp.mp (I.IY b z)).elim d t) a) (λb o _ _ a e n=>u.any e n a) (λb o a e n=>u.free b o e n a) (λb o a e=>u.there b o e a) u.ig u.iR u.jo (λC l=>by
  obtain⟨B,k,i,f,j⟩:=l;rw[h] at f;cases f;exact⟨_,k,i,d,j⟩) w q
def Inv.turned(I:Inv X W σ H s)(k:∀b o,b≠it->s.heap.get? b=Z o->h'.get? b=Z o)(h:H it=aE)(d:it≠X.env.locals)
  (w:it∈X.ex\/X.dh.heap.objs.size<=it)(t:∀x c,X.env.cells.lookup x=Z c->c≠it)(l:∀p∈X.pn++W,p.1≠it):Inv X W σ H {s with heap:=h',toks:=B}:=by
 have f:∀b u,H b=Z u->b≠it:=λb u e z=>by rw[z,h] at e;cases e
 refine I.step (g':=s.gens) (ch:=[it]) (λb j=>?_) (λb o _ _ a e _=>k b o (λz=>a (by simp[z])) e) (λb o _ _ a e _=>⟨o.slots,k b o (λz=>a (by simp[z])) e⟩) (λ_ _ _ _ n=>n)
  (λb o a e=>⟨o,k b o (λz=>a (by simp[z])) e⟩) (λ_ _ e=>e) (λ_ _ _ e=>e) (λb C e=>⟨#[],by rw[e];simp⟩) (λm i=>?_) (λb u e=>?_) I.bare
 ·have e:b=it:=by simpa using j
  subst e;exact⟨w,d,t,l⟩
 ·obtain⟨o,y,A,g,r⟩:=i;exact⟨o,y,A,k _ o (iS d) g,r⟩
 ·refine(I.ay b u e).iQ (λc v a q=>k c v ?_ q) (λ_ q=>q) λ_ _ q=>q;rcases a with z|z;·exact z▸f b u e
  ·exact f c _ z
def Inv.tok(I:Inv X W σ H s)(t:Nat):Inv X W σ H {s with toks:=t}:=I.un Un.refl I.ay
def Inv.kept(I:Inv X W σ H s)(k:∀b u,s.heap.get? b=Z u->h'.get? b=Z u):Inv X W σ H {s with heap:=h',toks:=t'}:=I.un (Un.kept k) (I.ay.kept k)
def Inv.laid(I:Inv X W σ H s)(k:∀b u,s.heap.get? b=Z u->h'.get? b=Z u)(d:s.heap.objs.size<=a)(c:cT X.prog X.w (upd H a o) h' a o):
  Inv X W σ (upd H a o) {s with heap:=h',toks:=t'}:=I.un (Un.laid k d (I.ay.fresh d)) (I.ay.laid k d c)
def Inv.write(I:Inv X W σ H s)(d:zO (H x))(f:e=x\/H e=Z (.own x))(k:∀b u,b≠e->s.heap.get? b=Z u->h'.get? b=Z u)(c:∃u,h'.get? e=Z u)
  (a:cT X.prog X.w (upd H x o) h' x o):Inv X W σ (upd H x o) {s with heap:=h',toks:=t'}:=I.un (Un.write d f k c) (I.ay.write d f k c a)
def Inv.Qi(I:Inv X W σ H s)(h:∀p∈b,s.heap.get? p.1=Z p.2/\H p.1=aE/\p.1≠X.env.locals/\p.1∉X.fs/\∀v,p.2.data≠.cell v):Inv X b σ H s:=
 ⟨I.ok,I.os,I.bare,I.base,I.loc,I.cell,I.free,I.iP,λp a=>(Yv.mp a).elim (λz=>I.pin p (Ys _ z)) (h p),I.ay,I.len⟩
def HX{N:O ar}(c:N.Nodup){i j:Nat}{x:ar}(a:N[i]?=Z x)(b:N[j]?=Z x):i=j:=by
 obtain⟨g,e⟩:=Yl.mp a;obtain⟨f,d⟩:=Yl.mp b;exact(List.getElem_inj c).mp (e.trans d.symm)
def Ot{f:Model}{A:d6}{E:bg}{i:Nat}{x:ar}{v:V}{u:aY}{Q:Unit->bR->Prop}(I:Inv X W σ H s)(hN:X.N.Nodup)(J:X.N[i]?=Z x)(B:Loc X.env.scope x)(r:RelV v u)
  (h:∀s',Inv X W (σ.set i (Z v)) H s'->(∃a,Heap.SameBut a s.heap s'.heap/\(a=X.env.locals\/X.env.cells.lookup x=Z a))->Q () s')(hf:X.fn x=af\/X.env.scope.names.lookup x=Z .local:=by first|exact .inl rfl|exact .inr rfl|assumption):wpAny f A (storeName X.env x u) Q E s:=by
 obtain⟨m,hn,hl⟩:=id I.loc;have ZiK:(X.env.scope.kind==.class||(X.env.scope.kind==.module&&X.env.locals !=X.env.globals))=a7:=by rw[I.ok.kind];rfl
 have Ue:i<σ.length:=by rw[I.len];exact(Yl.mp J).1
 have qJ:=I.qJ;have l:∀{a:U} {h':cY},(∃o,s.heap.get? a=Z o/\H a=aE)->Heap.SameBut a s.heap h'->dq X.prog X.w H h':=λ{a h'} ha g b ob e=>by
  obtain⟨_,_,Tb⟩:=ha;refine(I.ay b ob e).iQ (λc L w q=>(g.2 c ?_).trans q) (λ_ q=>q) λ_ _ q=>q;rintro rfl;rcases w with rfl|w;·rw[Tb] at e;cases e
  ·rw[Tb] at w;cases w
 rcases B with D|D
 ·refine wpAny_storeName_local D hn (λh' xy g=>?_) ZiK;obtain⟨oL,_,_,qL,_⟩:=id hn;refine h _ ⟨I.ok,I.os,I.bare,⟨λb o e n G B=>?_,λb o e n G B=>?_,I.base.free,λb o e B=>?_,I.base.ig,I.base.iR,I.base.jo⟩,⟨_,xy,λj y P t C e3=>?_⟩,λy c e=>?_,I.free,I.iP,λp hp=>?_,l ⟨oL,qL,I.free⟩ g,by simpa using I.len⟩ ⟨_,g,.inl rfl⟩;·exact(g.2 b (Y0 (Y2 (Yt e) I.ok.above))).trans (I.base.keep b o e n G B)
  ·obtain⟨sl,t⟩:=I.base.slot b o e n G B;exact⟨sl,(g.2 b (Y0 (Y2 (Yt e) I.ok.above))).trans t⟩
  ·obtain⟨o',t⟩:=I.base.there b o e B;exact⟨o',(g.2 b (Y0 (Y2 (Yt e) I.ok.above))).trans t⟩
  ·by_cases F:j=i
   ·subst F;rw[J] at t;cases t;rw[B1 Ue] at C;cases C;exact⟨u,r,.inl ⟨D,QS⟩⟩
   ·rw[Vn (iS F)] at C;obtain⟨R,r',q⟩:=hl j y P t C e3;refine⟨R,r',?_⟩;rcases q with⟨k,e⟩|⟨k,c,e,z⟩
    ·refine .inl ⟨k,?_⟩;have:y≠x:=λe=>F (HX hN t (e▸J));simp[this,e]
    ·exact .inr ⟨k,c,e,z.sameBut g (qJ y c e)⟩
  ·obtain⟨L,z⟩:=I.cell y c e;exact⟨L,z.sameBut g (qJ y c e)⟩
  ·obtain⟨e,n,ne,nf,d⟩:=I.pin p hp;exact⟨(g.2 p.1 ne).trans e,n,ne,nf,d⟩
 ·have Lw:X.fn x=af:=by
   rcases hf with z|z;·exact z
   ·rw[z] at D;cases D
  obtain⟨c,w⟩:=I.ok.has x (.inl D);obtain⟨L,z⟩:=I.cell x c w;refine wpAny_storeName_cell I.ok.kind D w z (λh' oW g=>?_);obtain⟨oc,Vo,ZiL⟩:=id z;refine h {s with heap:=h'} ⟨I.ok,I.os,I.bare,⟨λb o e n G B=>?_,λb o e n G B=>?_,I.base.free,λb o e B=>?_,I.base.ig,I.base.iR,I.base.jo⟩,⟨m,hn.sameBut g (iS (qJ x c w)),λj y P t C e3=>?_⟩,λy N e=>?_,I.free,I.iP,λp hp=>?_,l ⟨oc,Vo,I.iP x c w⟩ g,by simpa using I.len⟩ ⟨c,g,.inr w⟩;·exact(g.2 b (Y0 (Y2 (Yt e) (I.ok.uM x c Lw w)))).trans (I.base.keep b o e n G B)
  ·obtain⟨sl,t⟩:=I.base.slot b o e n G B;exact⟨sl,(g.2 b (Y0 (Y2 (Yt e) (I.ok.uM x c Lw w)))).trans t⟩
  ·obtain⟨o',t⟩:=I.base.there b o e B;exact⟨o',(g.2 b (Y0 (Y2 (Yt e) (I.ok.uM x c Lw w)))).trans t⟩
  ·by_cases F:j=i
   ·subst F;rw[J] at t;cases t;rw[B1 Ue] at C;cases C;exact⟨u,r,.inr ⟨.inl D,c,w,oW⟩⟩
   ·rw[Vn (iS F)] at C;obtain⟨R,r',q⟩:=hl j y P t C e3;refine⟨R,r',?_⟩;rcases q with q|⟨k,N,e,z'⟩;·exact .inl q
    ·refine .inr ⟨k,N,e,z'.sameBut g ?_⟩;rintro rfl;exact F (HX hN t (I.ok.inj _ _ _ e w▸J))
  ·by_cases Vp:N=c;·subst Vp;exact⟨_,oW⟩
   ·obtain⟨w2,z2⟩:=I.cell y N e;exact⟨w2,z2.sameBut g Vp⟩
  ·obtain⟨e,n,ne,nf,d⟩:=I.pin p hp;refine⟨(g.2 p.1 ?_).trans e,n,ne,nf,d⟩;intro q;rw[q,Vo] at e;have q':=Yo e;exact d L (by rwa[←q'])
def Bq{a:Model}{A:d6}{E:bg}{i:Nat}{x:ar}{v:V}{u:aY}{Q:Unit->bR->Prop}(I:Inv X W σ H s)(f:X.N.Nodup)(d:X.N[i]?=Z x)(c:Loc X.env.scope x)(r:RelV v u)
  (h:∀b,Inv X W (σ.set i (Z v)) H b->Q () b)(e:X.fn x=af\/X.env.scope.names.lookup x=Z .local:=by first|exact .inl rfl|exact .inr rfl|assumption):wpAny a A (storeName X.env x u) Q E s:=
 Ot I f d c r (λb g _=>h b g) e
def Inv.Kd(I:Inv X W σ H s)(d:s'.os=s.os)(u:Un (cX X.stack) ch H T s.heap s'.heap)(g:dq X.prog X.w T s'.heap)(f:AllBare s'.gens)
  (a:∀b∈ch,(b∈X.ex\/X.dh.heap.objs.size<=b)/\b≠X.env.locals/\(∀x c,X.env.cells.lookup x=Z c->c≠b)/\∀p∈X.pn++W,p.1≠b):Inv X W σ T s':=by
 obtain⟨h',j,k,h,i⟩:=s';have e:=d;subst e;exact I.call u g f a
end
abbrev XK:=aY->bS U->Hp->Prop
abbrev St:=O (bS V)
abbrev VK:=V->Hp->Prop
abbrev TE:=St->Hp->VK->Prop
abbrev TT:=St->Hp->(cm->Hp->Prop)->Prop
abbrev TA:=St->Hp->(O V->Hp->Prop)->Prop
structure Ends where
 nx:St->Hp->Prop
 rt:VK
 bk:St->Hp->Prop:=λ_ _=>False
 ct:St->Hp->Prop:=λ_ _=>False
abbrev TS:=Ends->St->Hp->Prop
inductive Ug(X:Cx)(a:aW)(b:St)(Q:VK)(u:aY)(c:bR):Prop
 |mk (v d) (g:Inv X a b d c) (f:RelV v u) (e:Q v d):Ug X a b Q u c
def EP(X:Cx)(a:aW)(b:St)(Q:VK)(u:aY)(c:bR):Prop:=Ug X a b Q u c
inductive Uh(X:Cx)(a:aW)(b:St)(R:Hp->Prop)(c:bR):Prop
 |mk (d:Hp) (f:Inv X a b d c) (e:R d):Uh X a b R c
def TP(X:Cx)(a:aW)(c:St)(Q:cm->Hp->Prop)(b:cm)(d:bR):Prop:=Uh X a c (Q b) d
inductive Ui(X:Cx)(a:aW)(b:St)(Q:O V->Hp->Prop)(d:O aY)(e:bR):Prop
 |mk (c f) (i:Inv X a b f e) (h:Vals c d) (g:Q c f):Ui X a b Q d e
def AP(X:Cx)(a:aW)(b:St)(Q:O V->Hp->Prop)(c:O aY)(d:bR):Prop:=Ui X a b Q c d
inductive uq(X:Cx)(a:aW)(Q:St->Hp->Prop)(b:bR):Prop
 |mk (c:St) (d:Hp) (f:Inv X a c d b) (e:Q c d):uq X a Q b
inductive Uj(X:Cx)(a:aW)(Q:VK)(u:aY)(b:bR):Prop
 |mk (v:V) (d:St) (c:Hp) (g:Inv X a d c b) (f:RelV v u) (e:Q v c):Uj X a Q u b
def SP(X:Cx)(a:aW)(D:Ends)(f:Flow)(b:bR):Prop:=
 match f with
 |.next=>uq X a D.nx b
 |.brk=>uq X a D.bk b
 |.cont=>uq X a D.ct b
 |.ret u=>Uj X a D.rt u b
def PE(X:Cx)(e:cP)(t:TE):Prop:=
 ∀(a:aW) (s:bR) (b:St) (H:Hp) (Q:VK),Inv X a b H s->t b H Q->wpAny X.md X.A (eval e X.env) (EP X a b Q) X.xe s
def PT(X:Cx)(e:cP)(t:TT):Prop:=
 ∀(a:aW) (s:bR) (b:St) (H:Hp) (Q:cm->Hp->Prop),Inv X a b H s->t b H Q->wpAny X.md X.A (isTrue e X.env (eval e X.env)) (TP X a b Q) X.xe s
def PW(X:Cx)(e:cP)(t:TT):Prop:=
 ∀(b:Sem aY) (a:aW) (s:bR) (c:St) (H:Hp) (Q:cm->Hp->Prop),Inv X a c H s->t c H Q->wpAny X.md X.A (isTrue e X.env b) (TP X a c Q) X.xe s
def PW.pt(h:PW X e t):PT X e t:=h _
def PA(X:Cx)(d:O cP)(t:TA):Prop:=
 ∀(c:Pos) (a:aW) (s:bR) (b:St) (H:Hp) (Q:O V->Hp->Prop),Inv X a b H s->t b H Q->wpAny X.md X.A (spliced (backTo c (starEach d X.env))) (AP X a b Q) X.xe s
def PS(X:Cx)(c:cb)(t:TS):Prop:=
 ∀(a:aW) (s:bR) (b:St) (H:Hp) (D:Ends),Inv X a b H s->t D b H->wpAny X.md X.A (exec c X.env) (SP X a D) X.xe s
def fW(X:Cx)(c:O cb)(t:TS):Prop:=
 ∀(a:aW) (s:bR) (b:St) (H:Hp) (D:Ends),Inv X a b H s->t D b H->wpAny X.md X.A (execs c X.env) (SP X a D) X.xe s
def aB(h:wpAny M A t Q E s)(b:∀a s,Q a s->c a s):wpAny M A t c E s:=dy h b λ_ _ x=>x
section
variable {X:Cx}
inductive RO(i:Nat)(a:St)(H:Hp)(Q:VK):Prop
 |mk (v) (c:a[i]?=Z (Z v)) (b:Q v H):RO i a H Q
def fU(i:Nat):TE:=λa H Q=>RO i a H Q
def tC(v:V):TE:=λ_ H Q=>Q v H
def Zgt{i:Nat}{x:ar}{W:Pos}(q:X.N[i]?=Z x)(k:uL X.env.scope x)(d:(x==("__debug__":ar))=a7:=by decide)(t:(x==("__classdict__":ar))=a7:=by decide):PE X (.Name x W) (fU i):=by
 rintro b s j H Q I ⟨v,e,h⟩;obtain⟨m,n,p⟩:=I.loc;obtain⟨u,r,l⟩:=p i x v q e k;have fin:EP X b j Q u s:=⟨v,H,I,r,h⟩;rcases l with⟨a,o⟩|⟨a,c,f,g⟩;·exact xV (CG I.ok.kind a n o fin) d
 ·rcases a with a|a;·exact xV (Dv I.ok.kind a f g fin) d
  ·exact xV (wpAny_loadName_free I.ok.kind a f g fin t) d
def aI:PE X (.Constant (.int i) j W) (tC (.int i)):=λ_ _ _ H _ I h=>wpAny_Constant_int ⟨.int i,H,I.tok _,⟨_,rfl⟩,h⟩
def gP:PE X (.Constant (.bool b) j W) (tC (.bl b)):=λ_ _ _ H _ I h=>Constant_bool ⟨.bl b,H,I,rfl,h⟩
def mj:PE X (.Constant .none j W) (tC .aA):=λ_ _ _ H _ I h=>Constant_none ⟨.aA,H,I,rfl,h⟩
def bo:PE X (.Constant (.str x) j W) (tC (.str x)):=λ_ _ _ H _ I h=>Calls.Constant_str ⟨.str x,H,I.tok _,⟨_,rfl⟩,h⟩
def Gl(X:Cx)(x:ar):Prop:=X.env.kindOf x=Z .globalImplicit
def wy{E:bg}{a:aW}{s:bR}{b:St}{H:Hp}{x:ar}{u:aY}{W:Pos}{Q:bg}(I:Inv X a b H s)(d:Gl X x)(c:X.mg x=Z u)(h:Q u s)
  (e:(x==("__debug__":ar))=a7:=by decide):wpAny X.md X.A (eval (.Name x W) X.env) Q E s:=
 zU I.ok.kind d (Calls.loadGlobal_global (by exact I.ok.glob▸I.mod.glob.keeps I.bk) c h) e
def yT{E:bg}{a:aW}{s:bR}{b:St}{H:Hp}{x:ar}{u:aY}{W:Pos}{Q:bg}(I:Inv X a b H s)(f:Gl X x)(e:X.mg x=aE)(c:bootBuiltins x=Z u)(h:Q u s)
  (d:x≠"__name__":=by decide)(g:(x==("__debug__":ar))=a7:=by decide):wpAny X.md X.A (eval (.Name x W) X.env) Q E s:=by
 obtain⟨k,j,i⟩:=I.mod.blt;exact zU I.ok.kind f (Calls.loadGlobal_builtin (by exact I.ok.glob▸I.mod.glob.keeps I.bk) e (by exact I.ok.blt▸j.keeps I.bk) ((i x d).trans c) h) g
def dH{x:ar}{v:V}{u:aY}{W:Pos}(b:Gl X x)(a:X.mg x=Z u)(r:RelV v u)(c:(x==("__debug__":ar))=a7:=by decide):PE X (.Name x W) (tC v):=
 λ_ _ _ H _ I h=>wy I b a ⟨v,H,I,r,h⟩ c
def Ze8{x:ar}{v:V}{u:aY}{W:Pos}(d:Gl X x)(c:X.mg x=aE)(a:bootBuiltins x=Z u)(r:RelV v u)(b:x≠"__name__":=by decide)(e:(x==("__debug__":ar))=a7:=by decide):PE X (.Name x W) (tC v):=
 λ_ _ _ H _ I h=>yT I d c a ⟨v,H,I,r,h⟩ b e
variable {a b:cP}{T R:TE}{W:Pos}
def PC(X:Cx)(e:CmpOp)(a b:cP)(t:TE):Prop:=
 ∀(c:aW) (s:bR) (d:St) (H:Hp) (Q:VK),Inv X c d H s->t d H Q->
  wpAny X.md X.A (eval a X.env) (λv g=>wpAny X.md X.A (eval b X.env) (λu f=>wpAny X.md X.A (compareOp e v u) (EP X c d Q) X.xe f) X.xe g) X.xe s
inductive Uk(Q:cm->Hp->Prop)(x:V)(d:Hp):Prop
 |mk (c) (f:x=.bl c) (e:Q c d):Uk Q x d
def tB(t:TE):TT:=λc H Q=>t c H λx d=>Uk Q x d
def Zgu{d:CmpOp}{t:TE}(h:PC X d a b t)(g:behindInMarks d b=a7:=by first|exact i _ QD QD|rfl):PE X (.Compare a [d] [b] W) t:=λc s e H Q I f=>Uz (h c s e H Q I f) g
def kU{f:CmpOp}{t:TE}(h:PC X f a b t)(g:behindInMarks f b=a7:=by first|exact o _ QD QD|rfl):PT X (.Compare a [f] [b] W) (tB t):=by
 intro e s i H Q I m;refine B2 (aB (h e s i H _ I m) λv z g=>aB g λu y n=>aB n λc w j=>?_) g;obtain⟨x,r,p,k,l⟩:=j;obtain⟨d,rfl,q⟩:=l;cases k;exact lp ⟨r,p,q⟩
def dN{e:cP}{t:TE}(h:PE X e t)(m:∀c,isTrue e X.env c=(do let v←c;standAt e.pos;holding [v] (truthy v)):=by intro _;rfl):PT X e (tB t):=by
 intro f s g H Q I l;refine isTrue_plain (aB (h f s g H _ I l) λv p i=>?_) (m _);obtain⟨x,o,n,j,k⟩:=i;obtain⟨d,rfl,q⟩:=k;cases j;exact lp ⟨o,n,q⟩
def Ul(t u:TT):TT:=λd H Q=>t d H λc e=>if c=af then u d e Q else Q a7 e
def Vq(t u:TT):TT:=λd H Q=>t d H λc e=>if c=af then Q af e else u d e Q
def Um(t:TT):TT:=λd H Q=>t d H λc e=>Q (!c) e
theorem pw_and1(g:PT X a tA):PW X (.BoolOp .And [a] W) tA:=by
 intro i d s f H Q I h;refine isTrue_and (aB (g d s f H Q I h) λc j e=>?_);cases c with
 |true=>exact isTrue_and_nil e
 |false=>exact e
theorem pw_or1(g:PT X a tA):PW X (.BoolOp .Or [a] W) tA:=by
 intro i d s f H Q I h;refine isTrue_or (aB (g d s f H Q I h) λc j e=>?_);cases c with
 |false=>exact isTrue_or_nil e
 |true=>exact e
theorem pw_and(o:PT X a l)(n:PW X (.BoolOp .And (b::rest) W) p):PW X (.BoolOp .And (a::b::rest) W) (Ul l p):=by
 intro k d s e H Q I h;refine isTrue_and (aB (o d s e H _ I h) λc m j=>?_);obtain⟨i,g,f⟩:=j;cases c with
 |true=>exact n k d m e i Q g f
 |false=>exact⟨i,g,f⟩
theorem pw_or(o:PT X a l)(n:PW X (.BoolOp .Or (b::rest) W) p):PW X (.BoolOp .Or (a::b::rest) W) (Vq l p):=by
 intro k d s e H Q I h;refine isTrue_or (aB (o d s e H _ I h) λc m j=>?_);obtain⟨i,g,f⟩:=j;cases c with
 |true=>exact⟨i,g,f⟩
 |false=>exact n k d m e i Q g f
def fS(g:PT X a f):PT X (.UnaryOp .Not a W) (Um f):=by
 intro d s e H Q I h;exact isTrue_not (g d s e H (λc i=>Q (!c) i) I h)
def Tc(T R:TE):TE:=λd H Q=>T d H λx e=>∃c,x=.bl c/\if c=af then R d e Q else Q (.bl a7) e
def Uo(T R:TE):TE:=λd H Q=>T d H λx e=>∃c,x=.bl c/\if c=af then Q (.bl af) e else R d e Q
def ZhW(T:TE):TE:=λd H Q=>T d H λx e=>∃c,x=.bl c/\Q (.bl (!c)) e
def kW(h:PE X a t):PE X (.BoolOp op [a] W) t:=λc s d H Q I e=>BoolOp_one (h c s d H Q I e)
theorem qk(n:PE X a T)(m:PE X (.BoolOp .And (b::rest) W) R):PE X (.BoolOp .And (a::b::rest) W) (Tc T R):=by
 intro d s f H Q I h;refine BoolOp_and (aB (n d s f H _ I h) λv k j=>?_);obtain⟨x,i,g,l,e⟩:=j;obtain⟨c,rfl,e⟩:=e;cases l;refine lp ?_;cases c with
 |true=>exact m d k f i Q g e
 |false=>exact⟨.bl a7,i,g,rfl,e⟩
theorem ze(n:PE X a T)(m:PE X (.BoolOp .Or (b::rest) W) R):PE X (.BoolOp .Or (a::b::rest) W) (Uo T R):=by
 intro d s f H Q I h;refine BoolOp_or (aB (n d s f H _ I h) λv k j=>?_);obtain⟨x,i,g,l,e⟩:=j;obtain⟨c,rfl,e⟩:=e;cases l;refine lp ?_;cases c with
 |false=>exact m d k f i Q g e
 |true=>exact⟨.bl af,i,g,rfl,e⟩
def Zgv(j:PE X a T):PE X (.UnaryOp .Not a W) (ZhW T):=by
 intro d s f H Q I h;refine UnaryOp_ (aB (j d s f H _ I h) λv m g=>?_);obtain⟨x,l,k,i,e⟩:=g;obtain⟨c,rfl,e⟩:=e;cases i;exact not_of (lp ⟨.bl (!c),l,k,rfl,e⟩)
def tIf(t:TT)(T R:TE):TE:=λd H Q=>t d H λc e=>if c=af then T d e Q else R d e Q
theorem Pa(n:PT X c m)(p:PE X a T)(o:PE X b R):PE X (.IfExp c a b W) (tIf m T R):=by
 intro e s f H Q I h;refine wpAny_IfExp (aB (n e s f H _ I h) λd g l=>?_);obtain⟨k,j,i⟩:=l;cases d with
 |true=>exact p e g f k Q j i
 |false=>exact o e g f k Q j i
end
def aq(K:ai)(H:Hp)(a:U)(c:O V):Prop:=
 Rd H a (.lst c)\/
  ∃(o:Obj) (b:c7 aY) (n:Nat),K.lookup a=Z o/\o.cls=.type "list"/\o.dict=aE/\o.data=.seq b n/\b.size<=sizeLine/\Vals c b.toList
def az(K:ai)(H:Hp)(a:U)(c:O V):Prop:=
 Rd H a (.tup c)\/
  ∃(o:Obj) (b:c7 aY) (n:Nat),K.lookup a=Z o/\o.cls=.type "tuple"/\o.data=.seq b n/\b.size<=sizeLine/\Vals c b.toList
def ZiM:aY->bS V
 |.none=>Z .aA
 |.bool b=>Z (.bl b)
 |.int i _=>Z (.int i)
 |.str x _=>Z (.str x)
 |.bytes b _=>Z (.kr b)
 |.float b _=>Z (.uK b)
 |.ref a=>Z (.ref a)
 |.type n=>Z (.ty n)
 |_=>aE
theorem RelV.abs(r:RelV x u):ZiM u=Z x:=by
 cases x with
 |aA=>cases r;rfl
 |bl _=>cases r;rfl
 |int _=>obtain⟨t,rfl⟩:=r;rfl
 |str _=>obtain⟨t,rfl⟩:=r;rfl
 |kr _=>obtain⟨t,rfl⟩:=r;rfl
 |uK _=>obtain⟨t,rfl⟩:=r;rfl
 |ref _=>cases r;rfl
 |ty _=>cases r;rfl
def RelV.inj(r:RelV x u)(q:RelV y u):x=y:=Yo (r.abs.symm.trans q.abs)
theorem Vals.inj:∀{a ys:O V} {b:O aY},Vals a b->Vals ys b->a=ys:=by
 intro a ys b h;induction h generalizing ys with
 |nil=>intro c;cases c;rfl
 |cons r t f=>
  intro c;cases c with
  |cons e d=>rw[r.inj e,f d]
def aq.of{K:ai}(h:H a=Z (.lst xs)):aq K H a xs:=.inl (.inl h)
def az.of{K:ai}(h:H a=Z (.tup xs)):az K H a xs:=.inl (.inl h)
def Inv.list(I:Inv X pins σ H s)(h:aq X.K H a xs):∃b:O aY,Vals xs b/\PlainL s.heap a b.toArray/\xs.length<=sizeLine:=by
 rcases h with h|⟨o,b,n,d,f,hd,c,g,r⟩
 ·obtain⟨z,b,n,r,e⟩:=h.ok I.ay;exact⟨b,r,⟨_,n,e,rfl,rfl,rfl⟩,z⟩
 ·refine⟨b.toList,r,⟨o,n,I.cG a o d,f,hd,by simpa using c⟩,?_⟩;have e:=r.length
  grind
def Inv.tuple(I:Inv X pins σ H s)(h:az X.K H a xs):∃b:O aY,Vals xs b/\IsTup s.heap a b.toArray/\xs.length<=sizeLine:=by
 rcases h with h|⟨o,b,n,d,f,c,g,r⟩
 ·obtain⟨z,b,r,p⟩:=h.ok I.ay;exact⟨b,r,p.tup,z⟩
 ·refine⟨b.toList,r,⟨o,I.cG a o d,f,n,by simpa using c⟩,?_⟩;have e:=r.length
  grind
def Inv.ZdF(I:Inv X pins σ H s)(h:aq X.K H a xs)(g:aq X.K H a ys):xs=ys:=by
 obtain⟨j,r,⟨o,n,e,_,_,d⟩,_⟩:=I.list h;obtain⟨nX,f,⟨k,l,b,_,_,c⟩,_⟩:=I.list g;rw[e] at b;cases b;rw[d] at c;injection c with i _;have:j=nX:=by simpa using dJ Array.toList i
 subst this;exact r.inj f
def Inv.ZcP(I:Inv X pins σ H s)(h:az X.K H a xs)(g:az X.K H a ys):xs=ys:=by
 obtain⟨j,r,⟨o,e,_,n,d⟩,_⟩:=I.tuple h;obtain⟨nX,f,⟨k,b,_,l,c⟩,_⟩:=I.tuple g;rw[e] at b;cases b;rw[d] at c;injection c with i _;have:j=nX:=by simpa using dJ Array.toList i
 subst this;exact r.inj f
abbrev Cx.kY(X:Cx)(E:bg):Cx:={X with xe:=E}
abbrev Cx.oX(X:Cx):Cx:=X.kY λ_ _=>False
def Cx.Ok.kY{X:Cx}(a:X.Ok)(E:bg):(X.kY E).Ok:=
 ⟨a.mod,a.kind,a.glob,a.blt,a.above,a.inj,a.has,a.uM,a.hd,a.frames,a.xw,a.sH,a.bs,a.nO,a.uo,a.sh,a.kj,a.qI⟩
def Cx.Ok.rY{X:Cx}(a:(X.kY E).Ok):X.Ok:=
 ⟨a.mod,a.kind,a.glob,a.blt,a.above,a.inj,a.has,a.uM,a.hd,a.frames,a.xw,a.sH,a.bs,a.nO,a.uo,a.sh,a.kj,a.qI⟩
def Inv.kY(I:Inv X pins σ H s)(E:bg):Inv (X.kY E) pins σ H s:=⟨I.ok.kY E,I.os,I.bare,I.base,I.loc,I.cell,I.free,I.iP,I.pin,I.ay,I.len⟩
def Inv.rY(I:Inv (X.kY E) pins σ H s):Inv X pins σ H s:=⟨I.ok.rY,I.os,I.bare,I.base,I.loc,I.cell,I.free,I.iP,I.pin,I.ay,I.len⟩
theorem SP.rY(h:SP (X.kY E) pins D f s'):SP X pins D f s':=by
 cases f with
 |next=>obtain⟨a,b,I,q⟩:=h;exact⟨a,b,I.rY,q⟩
 |brk=>obtain⟨a,b,I,q⟩:=h;exact⟨a,b,I.rY,q⟩
 |cont=>obtain⟨a,b,I,q⟩:=h;exact⟨a,b,I.rY,q⟩
 |ret u=>obtain⟨v,a,b,I,r,q⟩:=h;exact⟨v,a,b,I.rY,r,q⟩
def fW.oX{b:O cb}(h:fW X.oX b t):fW X b t:=λa s c H D I d=>
 dy (h a s c H D (I.kY _) d) (λ_ _ q=>q.rY) λ_ _ z=>False.elim z
section
variable {X:Cx}{st:cb}{t u:TS}{e:cP}{T:TE}{W:Pos}
def Td:TS:=λD a H=>D.nx a H
def ur(t u:TS):TS:=λD a H=>t {D with nx:=u D} a H
def hI{b a:TS}{D}{s H}(h:let c:=a;ur b c D s H):(ur b a) D s H:=h
def me{c b a:TS}{D}{s H}(h:let d:=a;let f:=ur b d;ur c f D s H):(ur c (ur b a)) D s H:=h
def nV{d c b a:TS}{D}{s H}(h:let f:=a;let g:=ur b f;let i:=ur c g;ur d i D s H):(ur d (ur c (ur b a))) D s H:=h
def VY{f d c b a:TS}{D}{s H}(h:let g:=a;let i:=ur b g;let j:=ur c i;let k:=ur d j;ur f k D s H):(ur f (ur d (ur c (ur b a)))) D s H:=h
def V5{g f d c b a:TS}{D}{s H}(h:let i:=a;let j:=ur b i;let k:=ur c j;let l:=ur d k;let m:=ur f l;ur g m D s H):(ur g (ur f (ur d (ur c (ur b a))))) D s H:=h
def zm{i g f d c b a:TS}{D}{s H}(h:let c6:=a;let j:=ur b c6;let k:=ur c j;let l:=ur d k;let m:=ur f l;let n:=ur g m;ur i n D s H):(ur i (ur g (ur f (ur d (ur c (ur b a)))))) D s H:=h
def V7{j i g f d c b a:TS}{D}{s H}(h:let k:=a;let c6:=ur b k;let l:=ur c c6;let m:=ur d l;let n:=ur f m;let o:=ur g n;let p:=ur i o;ur j p D s H):(ur j (ur i (ur g (ur f (ur d (ur c (ur b a))))))) D s H:=h
def zy{l k j i g f d c b a:TS}{D}{s H}(h:let m:=a;let c8:=ur b m;let n:=ur c c8;let c6:=ur d n;let o:=ur f c6;let p:=ur g o;let q:=ur i p;let r:=ur j q;let v:=ur k r;ur l v D s H):(ur l (ur k (ur j (ur i (ur g (ur f (ur d (ur c (ur b a))))))))) D s H:=h
def zA{r q p o n m l k j d c b a:TS}{D}{s H}(h:let f:=a;let g:=ur b f;let i:=ur c g;let v:=ur d i;let c8:=ur j v;let w:=ur k c8;let c6:=ur l w;let x:=ur m c6;let y:=ur n x;let z:=ur o y;let A:=ur p z;let B:=ur q A;ur r B D s H):(ur r (ur q (ur p (ur o (ur n (ur m (ur l (ur k (ur j (ur d (ur c (ur b a)))))))))))) D s H:=h
def aX:fW X [] Td:=λ_ _ a H _ I h=>tr ⟨a,H,I,h⟩
theorem au(g:PS X st t)(d:fW X rest u):fW X (st::rest) (ur t u):=by
 intro a s b H D I h;refine Md (aB (g a s b H {D with nx:=u D} I h) λf c q=>?_);cases f with
 |next=>
  obtain⟨i,k,j,q⟩:=q;exact d a c i k D j q
 |ret v=>exact q
 |brk=>exact q
 |cont=>exact q
theorem av(c:PS X st t):fW X [st] t:=by
 intro a s b H D I h;refine Md (aB (c a s b H D I h) λf d q=>?_);cases f with
 |next=>exact tr q
 |ret v=>exact q
 |brk=>exact q
 |cont=>exact q
def Inv.quiet(I:Inv X pins σ H s):interactive X.env=a7:=by simp[interactive,I.ok.kind]
def ZhX(T:TE):TS:=λD a H=>T a H λ_ b=>D.nx a b
def cv(f:PE X e T)(d:swapsWith e aE W.line X.env=pure a7:=by rfl):PS X (.Expr e W) (ZhX T):=by
 intro a s b H D I h;exact wpAny_Expr_any (aB (f a s b H _ I h) λv j ⟨x,i,g,k,c⟩=>⟨b,i,g,c⟩) I.quiet d
def ZiN(T:TE):TS:=λD a H=>T a H D.rt
def aG(f:PE X e T):PS X (.Return (Z e) W) (ZiN T):=by
 intro a s b H D I h;exact wpAny_Return_some (aB (f a s b H _ I h) λv j ⟨x,i,g,c,d⟩=>⟨x,b,i,g,c,d⟩)
def KA(c:TT)(t u:TS):TS:=λD a H=>c a H λb d=>if b=af then t D a d else u D a d
theorem aR(o:PT X c n)(q:fW X a t)(p:fW X b u):PS X (.If c a b W) (KA n t u):=by
 intro f s g H D I h;refine wpAny_If (aB (o f s g H _ I h) λd i m=>?_);obtain⟨l,k,j⟩:=m;cases d with
 |true=>exact q f i g l D k j
 |false=>exact p f i g l D k j
def Zgw:TS:=λ_ _ _=>False
def gL:fW X a Zgw:=λ_ _ _ _ _ _ h=>h.elim
end
abbrev TG:=V->St->Hp->(St->Hp->Prop)->Prop
abbrev oY:=O V->St->Hp->(St->Hp->Prop)->Prop
def PG(X:Cx)(a:cP)(t:TG):Prop:=
 ∀(b:aW) (s:bR) (c:St) (H:Hp) (v:V) (u:aY) (Q:St->Hp->Prop),Inv X b c H s->RelV v u->t v c H Q->
  wpAny X.md X.A (assign a X.env u) (λ_ d=>uq X b Q d) X.xe s
def zR(X:Cx)(e:O cP)(t:oY):Prop:=
 ∀(a:aW) (s:bR) (b:St) (H:Hp) (c:O V) (d:O aY) (Q:St->Hp->Prop),Inv X a b H s->Vals c d->t c b H Q->
  wpAny X.md X.A (assignInOrder ((assignEach e X.env).map (·.2)) d) (λ_ f=>uq X a Q f) X.xe s
abbrev KC:=V->V->V->Hp->(Hp->Prop)->Prop
def uu(X:Cx)(t:KC):Prop:=
 ∀(a:aW) (s:bR) (b:St) (H:Hp) (o i v:V) (c d u:aY) (Q:Hp->Prop),Inv X a b H s->RelV o c->RelV i d->RelV v u->t o i v H Q->
  wpAny X.md X.A (setItem c d u) (λ_ f=>∃e,Inv X a b e f/\Q e) X.xe s
abbrev Dn:=V->V->Hp->VK->Prop
def Vr(X:Cx)(c:Operator)(t:Dn):Prop:=
 ∀(a:aW) (s:bR) (b:St) (H:Hp) (x y:V) (v u:aY) (Q:VK),Inv X a b H s->RelV x v->RelV y u->t x y H Q->
  wpAny X.md X.A (inplaceOp c v u) (EP X a b Q) X.xe s
section
variable {X:Cx}{W:Pos}
def qv(i:Nat):TG:=λv a H Q=>Q (a.set i (Z v)) H
def rR{i:Nat}{x:ar}(e:X.N.Nodup)(c:X.N[i]?=Z x)(b:Loc X.env.scope x)(d:X.fn x=af\/X.env.scope.names.lookup x=Z .local:=by first|exact .inl rfl|exact .inr rfl|assumption):PG X (.Name x W) (qv i):=by
 intro a s g H v u Q I r h;exact KZ (Bq I e c b r (λj f=>⟨_,H,f,h⟩) d)
def ZiO:oY:=λb a H Q=>b=[]/\Q a H
inductive Qj(t:TG)(u:oY)(b:O V)(a:St)(H:Hp)(Q:St->Hp->Prop):Prop
 |mk (v r) (f:b=v::r) (e:t v a H λc d=>u r c d Q):Qj t u b a H Q
def ZhY(t:TG)(u:oY):oY:=λb a H Q=>Qj t u b a H Q
def gM:zR X [] ZiO:=by
 rintro a s b H c d Q I r ⟨e,h⟩;subst e;exact assignInOrder_nil ⟨b,H,I,h⟩
theorem bw{e:cP}{b:O cP}{t:TG}{u:oY}(l:PG X e t)(k:zR X b u)
  (j:(assignEach (e::b) X.env).map (·.2)=assign e X.env::(assignEach b X.env).map (·.2):=by rfl):zR X (e::b) (ZhY t u):=by
 rintro a s c H p w Q I r ⟨v,q,m,h⟩;subst m;cases r with
 |cons r g=>
  exact j▸assignInOrder_cons (aB (l a s c H _ _ _ I r h) λ_ f ⟨d,o,n,i⟩=>k a f d o _ _ Q n g i)
inductive RP(K:ai)(n:Nat)(t:oY)(v:V)(c:St)(H:Hp)(Q:St->Hp->Prop):Prop
 |mk (a b) (g:v=.ref a) (f:az K H a b) (d:b.length=n) (e:t b c H Q):RP K n t v c H Q
def Up(K:ai)(n:Nat)(t:oY):TG:=λv a H Q=>RP K n t v a H Q
def Zgx{d:O cP}{k:Nat}{t:oY}{n:Nat}(x:X.calm=af)(h:zR X d t)
  (q:(assignEach d X.env).length=n:=by rfl)(z:(assignEach d X.env).findIdx? (·.1)=aE:=by rfl):PG X (.Tuple d k W) (Up X.K n t):=by
 rintro c s g H v u Q I r ⟨a,i,y,p,w,l⟩;subst y;cases r;obtain⟨C,f,m,A⟩:=I.tuple p;exact assign_Tuple_tuple (I.ok.hd x) m (by simp[q,←w,f.length]) z λB j=>h c _ g H i _ Q (I.kept λb o e=>j b o (Y0 (Yt e)) e) (by simpa using f) l
def Uq(b c:TE)(t:KC):TG:=λv a H Q=>b a H λo f=>c a f λi e=>t o i v e λd=>Q a d
def Zgy{o i:cP}{e f:TE}{t:KC}(w:PE X o e)(z:PE X i f)(q:uu X t)
  (J:∀v,assign (.Subscript o i W) X.env v=(do
   let b←holding [v] (eval o X.env);let c←holding [v,b] (eval i X.env)
   standAt W
   holding [v,b,c] (setItem b c v)
   release [v,b,c] []):=by intro _;rfl):PG X (.Subscript o i W) (Uq e f t):=by
 intro a s d H v u Q I r h;exact bh (hV (aB (w a s d H _ I h) λb j ⟨x,F,C,l,p⟩=>bh (hV (aB (z a j d F _ C p) λc g ⟨y,E,B,k,n⟩=>bh (kI (bh (hV (aB (q a g d E x y v b c u _ B l k r n) λ_ G ⟨D,A,m⟩=>wpAny_release ⟨d,D,A,m⟩))))))))
def uv(b:TE)(g:TG):TS:=λD a H=>b a H λx c=>g x a c D.nx
def kg{b e:cP}{d:TE}{g:TG}(o:PE X e d)(n:PG X b g)(m:swapsWithSole [b] e W.line X.env=pure a7:=by rfl)(l:swappedStores [b] e X.env=pure aE:=by rfl)
  (p:(assignEach [b] X.env).map (·.2)=[assign b X.env]:=by rfl):PS X (.Assign [b] e W) (uv d g):=by
 intro a s c H D I h;refine wpAny_Assign_stores (aB (o a s c H _ I h) λv i f=>?_) m l;obtain⟨x,t,r,j,k⟩:=f;exact p▸aB (n a i c t x v _ r j k) λ_ u q=>q
def h_{i:Nat}{x:ar}{e:cP}{c:TE}{a:Pos}(p:X.N.Nodup)(m:X.N[i]?=Z x)(k:Loc X.env.scope x)(o:PE X e c)(l:swapsWith e (Z (.Name x a)) W.line X.env=pure a7:=by rfl)(n:X.fn x=af\/X.env.scope.names.lookup x=Z .local:=by first|exact .inl rfl|exact .inr rfl|assumption):
  PS X (.Assign [.Name x a] e W) (uv c (qv i)):=by
 intro b s d H D I h;refine wpAny_Assign_Name (aB (o b s d H _ I h) λv w f=>?_) l;obtain⟨y,t,r,g,j⟩:=f;exact Bq r p m k g (λu q=>⟨_,t,q,j⟩) n
def ZiP(i:Nat)(c:TE)(b:Dn):TS:=λD a H=>∃x,a[i]?=Z (Z x)/\c a H λy e=>b x y e λz d=>D.nx (a.set i (Z z)) d
def RQ{i:Nat}{x:ar}{e:cP}{o:TE}{f:Operator}{n:Dn}{d:Pos}(R:X.N.Nodup)(p:X.N[i]?=Z x)(g:Loc X.env.scope x)(P:PE X e o)(F:Vr X f n)(N:X.fn x=af\/X.env.scope.names.lookup x=Z .local:=by first|exact .inl rfl|exact .inr rfl|assumption):
  PS X (.AugAssign (.Name x d) f e W) (ZiP i o n):=by
 rintro a s j H D I ⟨v,e1,h⟩;obtain⟨m,G,L⟩:=I.loc;have Lx:uL X.env.scope x:=by rcases g with k|k;exact .inl k;exact .inr (.inl k)
 obtain⟨u,r,l⟩:=L i x v p e1 Lx;refine wpAny_AugAssign_Name ?_;have q:wpAny X.md X.A (eval e X.env) (λw T=>wpAny X.md X.A (inplaceOp f u w) (λr eM=>wpAny X.md X.A (storeName X.env x r) (λ_=>SP X a D .next) X.xe eM) X.xe T) X.xe s:=aB (P a s j H _ I h) λw t ⟨y,H1,I1,B,E⟩=>aB (F a t j H1 v y u w _ I1 r B E) λz s2 ⟨zv,H2,I2,A,C⟩=>Bq I2 R p g A (λs3 I3=>⟨_,H2,I3,C⟩) N;rcases l with⟨b,J⟩|⟨b,c,Q,Cp⟩;·exact CG I.ok.kind b G J q
 ·rcases b with b|b;·exact Dv I.ok.kind b Q Cp q
  ·rcases g with k|k
   ·have:X.env.scope.names.lookup x=Z .free:=b
    grind
   ·have:X.env.scope.names.lookup x=Z .free:=b
    grind
inductive Te(f:Int->Int->Int)(x:V)(y:V)(H:Hp)(Q:VK):Prop
 |mk (i j) (c:x=.int i) (b:y=.int j) (a:Q (.int (f i j)) H):Te f x y H Q
def ipI(f:Int->Int->Int):Dn:=λx y H Q=>Te f x y H Q
def RS:Vr X .Add (ipI λi j=>i+j):=by
 rintro a s f H x y v u Q I c b ⟨i,j,e,d,q⟩;subst e;subst d;obtain⟨t,rfl⟩:=c;obtain⟨g,rfl⟩:=b;exact iadd_int ⟨.int _,H,I.tok _,⟨_,rfl⟩,q⟩
end
def RT(c:TT)(h:TS):TS:=λD a H=>∃W:Nat->St->Hp->Prop,(∃m,W m a H)/\∀m a H,W m a H->
 c a H λb f=>if b=af then ∃N:St->Hp->Prop,(∀e g,N e g->∃d,d<m/\W d e g)/\h {D with nx:=N,ct:=N,bk:=D.nx} a f else D.nx a f
theorem HZ(r:PassesOwn X.md X.A X.env X.xe)(P:PT X c C)(Q:fW X body E):PS X (.While c body [] pos) (RT C E):=by
 intro a s y H D I h;obtain⟨W,⟨L,B⟩,d⟩:=h;refine wpAny_While (codeAny_whileLoop (λn J=>uq X a (W n) J) ?_ L ⟨y,H,I,B⟩);rintro n G ⟨i,x,R,A⟩;refine nq r (aB (P a G i x _ R (d n i x A)) λb F z=>?_);obtain⟨w,u,k⟩:=z;cases b with
 |true=>
  obtain⟨N,t,k⟩:=k;rw[bt rfl];refine nq r (aB (Q a F i w _ u k) λf T j=>?_);cases f with
  |next=>
   obtain⟨e,g,q,m⟩:=j;obtain⟨o,p,l⟩:=t e g m;exact⟨o,p,e,g,q,l⟩
  |cont=>
   obtain⟨e,g,q,m⟩:=j;obtain⟨o,p,l⟩:=t e g m;exact⟨o,p,e,g,q,l⟩
  |brk=>exact j
  |ret v=>exact j
 |false=>
  rw[bu Yh];exact tr ⟨i,w,u,k⟩
structure It where
 go:Nat->Hp->Prop
 sI:Nat->Hp->V->Hp->Prop
 stop:Nat->Hp->Prop
def jq(X:Cx)(a:aW)(H:Hp)(b:U):Prop:=
 H b=aE/\b≠X.env.locals/\b∉X.fs/\(b∈X.ex\/X.dh.heap.objs.size<=b)/\(∀x c,X.env.cells.lookup x=Z c->c≠b)/\∀p∈X.pn++a,p.1≠b
def Inv.sr(I:Inv X pins σ H s)(a:s.heap.objs.size<=b)(f:g b=aE):jq X pins g b:=by
 refine⟨f,Jg (Y2 I.lt a),I.ZiJ a,.inr (Yy I.sz a),λx c e z=>?_,λp d z=>?_⟩
 ·obtain⟨v,q⟩:=I.cell x c e;exact absurd (Y2 q.lt (by rwa[z])) (Wb _)
 ·exact absurd (Y2 (Yt (I.pin p d).1) (by rwa[z])) (Wb _)
structure Turn(P:de)(w:c5)(K:ai)(tg:cP)(J:It)(fp:O U)(it:U)(tn:Nat->cY->Prop):Prop where
 mem:it∈fp
 obj:∀i h,tn i h->∀b∈fp,∃o,h.get? b=Z o/\∀v,o.data≠.cell v
 keep:∀i h h',tn i h->(∀b∈fp,∀o,h.get? b=Z o->h'.get? b=Z o)->tn i h'
 item:∀(X:Cx),X.prog=P->X.w=w->X.K=K->X.calm=af->∀(i:Nat) (pins:aW) (s:bR) (σ:St) (H:Hp) (E:bg),Inv X pins σ H s->(∀b∈fp,jq X pins H b)->tn i s.heap->J.go i H->
  wpAny (model P w) X.A (pyNext (.ref it)) (λr s1=>∃u,r=Z u/\
   wpAny (model P w) X.A (letOwnedTupleGo tg (.ref it) u) (λ_ s2=>∃x H',Inv X pins σ H' s2/\RelV x u/\J.sI i H x H'/\tn (i+1) s2.heap/\∀b∈fp,H' b=aE) E s1) E s
 done:∀(X:Cx),X.prog=P->X.w=w->X.K=K->X.calm=af->∀(i:Nat) (pins:aW) (s:bR) (σ:St) (H:Hp) (E:bg),Inv X pins σ H s->(∀b∈fp,jq X pins H b)->tn i s.heap->J.stop i H->
  wpAny (model P w) X.A (pyNext (.ref it)) (λr s1=>r=aE/\Inv X pins σ H s1) E s
 self:∀(A:d6) (i:Nat) (s:bR) (Q:bg) (E:bg),tn i s.heap->Q (.ref it) s->wpAny (model P w) A (pyIter (.ref it)) Q E s
abbrev TI:=St->Hp->(It->Hp->Prop)->Prop
def Vs(X:Cx)(a:aW)(g:St)(i:cP)(R:It->Hp->Prop)(h:aY)(e:bR):Prop:=
 ∃(f:U) (fp:O U) (d:Nat->cY->Prop) (J:It) (c:Hp),h=.ref f/\Inv X a g c e/\Turn X.prog X.w X.K i J fp f d/\d 0 e.heap/\(∀b∈fp,jq X a c b)/\R J c
def PI(X:Cx)(e b:cP)(d:TI):Prop:=
 ∀(a:aW) (s:bR) (c:St) (H:Hp) (R:It->Hp->Prop),Inv X a c H s->d c H R->
  wpAny X.md X.A (eval b X.env) (λv f=>wpAny X.md X.A (pyIter v) (Vs X a c e R) X.xe f) X.xe s
theorem uc(d:s.heap.get? it=Z o)(g:o.cls=.type n)(f:o.data=.fields b)
    (e:["enumerate","zip","dict_itemiterator","dict_reverseitemiterator","odict_iterator","itertools.zip_longest","itertools.pairwise"].contains n=a7)(a:Q () s):wpAny M A (letOwnedTupleGo c (.ref it) u) Q E s:=by
  unfold letOwnedTupleGo;cases c <;> first
    | exact cy a
    | (cases u <;> first
        | exact cy a
        | (refine bh (wpAny_load d ?_)
           rw [g,f];show wpAny M A (if (["enumerate","zip","dict_itemiterator","dict_reverseitemiterator","odict_iterator","itertools.zip_longest","itertools.pairwise"].contains n&&b[0]? == Z (rawInt _))=af then _ else _) Q E s;rw [bu (by intro h; rw [e,UU] at h; cases h)];exact cy a))
def kA(K:ai)(a:U):It:=
 ⟨λi H=>∃b x,aq K H a b/\b[i]?=Z x,λi H x c=>c=H/\∀b,aq K H a b->b[i]?=Z x,λi H=>∃b,aq K H a b/\b.length<=i⟩
def xB(K:ai)(a:U):It:=
 ⟨λi H=>∃b x,az K H a b/\b[i]?=Z x,λi H x c=>c=H/\∀b,az K H a b->b[i]?=Z x,λi H=>∃b,az K H a b/\b.length<=i⟩
def qM(a:Int)(n:Nat):It:=⟨λi _=>i<n,λi H x b=>b=H/\x=.int (a+i),λi _=>n<=i⟩
theorem Ou{P:de}{w:c5}{K:ai}{N:cP}(a it:U):Turn P w K N (kA K a) [it] it (λi h=>h.IsListIter it a i) where
 mem:=QS
 obj:=λi h st b g=>by
  have e:b=it:=by simpa using g
  obtain⟨o,e,c,d⟩:=st
  grind
 keep:=λi h F st k=>st.at λo e=>k it QS o e
 item:=by
  intro X t q v D i f s J H E I l st r;subst t q v;obtain⟨L,x,j,n⟩:=r;obtain⟨aj,m,p,T⟩:=I.list j;obtain⟨u,hu,R⟩:=m.get n;obtain⟨C,B,f2,A,z,y⟩:=l it QS;refine wpAny_pyNext_list_item st p.isList (by simpa using hu) λF G Q=>?_;obtain⟨o,e,c,d⟩:=id G;exact⟨u,rfl,uc e c d QD ⟨x,H,(I.turned (λb o g e=>(Q.2 b g).trans e) C B A z y),R,⟨rfl,λys W=>by rw[I.ZdF W j];exact n⟩,G,λb g=>(l b g).1⟩⟩
 done:=by
  intro X t q v D i f s J H E I l st r;subst t q v;obtain⟨L,j,n⟩:=r;obtain⟨aj,m,p,T⟩:=I.list j;obtain⟨C,B,f2,A,z,y⟩:=l it QS;have hl:=m.length;exact wpAny_pyNext_list_end (I.ok.hd D) st p.isList (by simp;omega) λF eb=>⟨rfl,I.turned (eb) C B A z y⟩
 self:=λ_ _ _ _ _ st h=>wpAny_pyIter_listiter st h
theorem NS{P:de}{w:c5}{K:ai}{N:cP}(a it:U):Turn P w K N (xB K a) [it] it (λi h=>h.IsTupleIter it a i) where
 mem:=QS
 obj:=λi h st b g=>by
  have e:b=it:=by simpa using g
  obtain⟨o,e,c,d⟩:=st
  grind
 keep:=λi h F st k=>st.at λo e=>k it QS o e
 item:=by
  intro X t q v D i f s J H E I l st r;subst t q v;obtain⟨L,x,j,n⟩:=r;obtain⟨aj,m,p,T⟩:=I.tuple j;obtain⟨u,hu,R⟩:=m.get n;obtain⟨C,B,f2,A,z,y⟩:=l it QS;refine wpAny_pyNext_tuple_item st (p) (by simpa using hu) λF G Q=>?_;obtain⟨o,e,c,d⟩:=id G;exact⟨u,rfl,uc e c d QD ⟨x,H,(I.turned (λb o g e=>(Q.2 b g).trans e) C B A z y),R,⟨rfl,λys W=>by rw[I.ZcP W j];exact n⟩,G,λb g=>(l b g).1⟩⟩
 done:=by
  intro X t q v D i f s J H E I l st r;subst t q v;obtain⟨L,j,n⟩:=r;obtain⟨aj,m,p,T⟩:=I.tuple j;obtain⟨C,B,f2,A,z,y⟩:=l it QS;have hl:=m.length;exact wpAny_pyNext_tuple_end (I.ok.hd D) st (p) (by simp;omega) λF eb=>⟨rfl,I.turned (eb) C B A z y⟩
 self:=λ_ _ _ _ _ st h=>wpAny_pyIter_tupleiter st h
theorem ZbR{P:de}{w:c5}{K:ai}{D:cP}(a:U)(d:Int)(n:Nat):Turn P w K D (qM d n) [a] a (λi h=>IsRangeIter h a (d+(i:Nat)*1) ((n:Int)-(i:Nat)) 1) where
 mem:=QS
 obj:=λi h st b g=>by
  grind
 keep:=λi h A st k=>k a QS _ st
 item:=by
  intro X p j q m i c s C H E I f st l;subst p j q;obtain⟨z,y,J,x,u,r⟩:=f a QS;refine(Walks.range (I.ok.hd m) a d 1 n).item i s _ _ l st λv A N G B F=>?_;obtain⟨t,rfl⟩:=G;refine⟨_,rfl,uc B rfl rfl QD ⟨.int (d+i),H,(I.turned (λb o g e=>F b o (by simpa using g) e) z y x u r),⟨t,?_⟩,⟨rfl,rfl⟩,B,λb g=>(f b g).1⟩⟩;rw[Int.mul_one]
 done:=by
  intro X p j q m i c s C H E I f st l;subst p j q;obtain⟨z,y,J,x,u,r⟩:=f a QS;exact wpAny_pyNext_range_end (I.ok.hd m) st (by have:n<=i:=l;omega) λA L=>⟨rfl,I.turned (L) z y x u r⟩
 self:=λ_ _ _ _ _ st h=>wpAny_pyIter_rangeiter st h
section
variable {X:Cx}{Q:cP}
inductive Qk(K:ai)(R:It->Hp->Prop)(x:V)(b:Hp):Prop
 |mk (a) (f:x=.ref a) (e:(∃c,aq K b a c)) (d:R (kA K a) b):Qk K R x b
def Tf(K:ai)(b:TE):TI:=λa H R=>b a H λx c=>Qk K R x c
inductive RU(K:ai)(R:It->Hp->Prop)(x:V)(b:Hp):Prop
 |mk (a) (f:x=.ref a) (e:(∃c,az K b a c)) (d:R (xB K a) b):RU K R x b
def ZiQ(K:ai)(b:TE):TI:=λa H R=>b a H λx c=>RU K R x c
def Ql(r:PE X l j):PI X Q l (Tf X.K j):=by
 intro c s g H R I h;refine aB (r c s g H _ I h) λv f i=>?_;obtain⟨x,u,d,k,m⟩:=i;obtain⟨a,e,⟨w,n⟩,q⟩:=m;subst e;cases k;obtain⟨A,y,p,z⟩:=d.list n;refine s_ p.isList ⟨f.heap.objs.size,[f.heap.objs.size],_,_,u,rfl,d.kept λ b o=>Yb _,Ou a _,⟨_,Yu _ rfl,rfl,rfl⟩,λb t=>?_,q⟩;have e:b=f.heap.objs.size:=by simpa using t
 subst e;exact d.sr (Ye _) (d.ay.fresh (Ye _))
def IZ(r:PE X l j):PI X Q l (ZiQ X.K j):=by
 intro c s g H R I h;refine aB (r c s g H _ I h) λv f i=>?_;obtain⟨x,u,d,k,m⟩:=i;obtain⟨a,e,⟨w,n⟩,q⟩:=m;subst e;cases k;obtain⟨A,y,p,z⟩:=d.tuple n;refine u9 (p) ⟨f.heap.objs.size,[f.heap.objs.size],_,_,u,rfl,d.kept λ b o=>Yb _,NS a _,⟨_,Yu _ rfl,rfl,rfl⟩,λb t=>?_,q⟩;have e:b=f.heap.objs.size:=by simpa using t
 subst e;exact d.sr (Ye _) (d.ay.fresh (Ye _))
def ZdG{a:aW}{d:St}{H:Hp}{s:bR}{R:It->Hp->Prop}{E:bg}{lo c:Int}{t u v:Tok}{g:Nat}(I:Inv X a d H s)(l:-(2^62)<=lo)(k:lo<2^62)(j:-(2^62)<=c)(i:c<2^62)
  (q:R (qM lo (c-lo).toNat) H):wpAny X.md X.A (pyIter (.ref s.heap.objs.size)) (Vs X a d Q R) E {s with heap:=s.heap.push {cls:=.type "range",data:=.fields #[.int lo t,.int c u,.int 1 v]},toks:=g}:=by
 refine wpAny_pyIter_range (IsRange.new ..) (xW l k j i) ?_;have f:Inv X a d H {s with heap:=s.heap.push {cls:=.type "range",data:=.fields #[.int lo t,.int c u,.int 1 v]},toks:=g}:=I.kept λb o e=>Yb _ e;refine⟨(s.heap.push {cls:=.type "range",data:=.fields #[.int lo t,.int c u,.int 1 v]}).objs.size,[(s.heap.push {cls:=.type "range",data:=.fields #[.int lo t,.int c u,.int 1 v]}).objs.size],_,_,H,rfl,
  f.kept λ b o=>Yb _,ZbR _ lo (c-lo).toNat,?_,λb h=>?_,q⟩
 ·have n:lo+((0:Nat):Int)*1=lo:=QS
  have m:(((c-lo).toNat:Nat):Int)-((0:Nat):Int)=Builtin.Range.rangeSize lo c 1:=by rw[vI];split<;>omega
  rw[n,m];exact Yu _ rfl
 ·have e:b=(s.heap.push {cls:=.type "range",data:=.fields #[.int lo t,.int c u,.int 1 v]}).objs.size:=by simpa using h
  subst e;exact f.sr (Ye _) (f.ay.fresh (Ye _))
inductive Qm(R:It->Hp->Prop)(a:O V)(b:Hp):Prop
 |mk (j:Int) (f:a=[.int j]) (e:-(2^62)<=j) (c:j<2^62) (d:R (qM 0 j.toNat) b):Qm R a b
def ZhZ(c:TA):TI:=λa H R=>c a H λb d=>Qm R b d
theorem pZ{a:cP}{f:TA}{p b:Pos}(u:Gl X "range")(o:X.mg "range"=aE)(v:PA X [a] f)(n:starEach [a] X.env=[(a7,eval a X.env)]:=by rfl):PI X Q (.Call (.Name "range" p) [a] [] b) (ZhZ f):=by
 intro c s g H R I h;refine Call_ (yT I u o boot_range (zS (aB (v b c s g H _ I h) λy z i=>?_) n rfl));obtain⟨x,A,w,l,d⟩:=i;obtain⟨j,e,d,m,q⟩:=d;subst e;cases l with
 |cons r k=>
  cases k;obtain⟨t,rfl⟩:=r;exact call_range_1 (ZdG w (by decide) (by decide) d m (by simpa using q))
def KD(e:TI)(g:TG)(f:TS):TS:=λD a H=>e a H λJ k=>∃W:Nat->Nat->St->Hp->Prop,(∃m,W 0 m a k)/\∀i m a H,W i m a H->
 (J.stop i H/\D.nx a H)\/(J.go i H/\∃N:St->Hp->Prop,(∀d b,N d b->∃c,c<m/\W (i+1) c d b)/\∀x b,J.sI i H x b->g x a b λh j=>f {D with nx:=N,ct:=N,bk:=D.nx} h j)
def rZ(a:O U)(h:cY):O (U×Obj):=a.filterMap λb=>(h.get? b).map λo=>(b,o)
def rG(a:b∈fp)(e:h.get? b=Z o):(b,o)∈rZ fp h:=Jl.mpr ⟨b,a,by rw[e];rfl⟩
theorem ZcQ(a:p∈rZ fp h):p.1∈fp/\h.get? p.1=Z p.2:=by
 obtain⟨b,c,e⟩:=Jl.mp a;cases q:h.get? b with
 |none=>grind
 |some o=>grind
def Inv.pinned(I:Inv X pins σ H s)(c:∀b∈fp,jq X pins H b)(f:∀b∈fp,∃o,s.heap.get? b=Z o/\∀v,o.data≠.cell v):Inv X (pins++rZ fp s.heap) σ H s:=
 I.Qi λp a=>(Yv.mp a).elim (λz=>I.pin p (Ym _ z)) λz=>by
  obtain⟨d,e⟩:=ZcQ z;obtain⟨i,h,g,_⟩:=c p.1 d
  grind
def Inv.wj(I:Inv X (pins++b) σ H s):Inv X pins σ H s:=I.Qi λp a=>I.pin p (Ym _ (Ys _ a))
theorem ia{j:cP}{t:O cb}{wi:TI}{g:TG}{tb:TS}{P:Pos}(A:PassesOwn X.md X.A X.env X.xe)(hc:X.calm=af)(hi:PI X Q j wi)(hg:PG X Q g)(k:fW X t tb)
  (hs:∀x,foldedSetIterable j X.env x=pure x:=by intro _;rfl):PS X (.For Q j t [] P) (KD wi g tb):=by
 intro a s σ H D I h;refine wpAny_For (aB (hi a s σ H _ I h) λv s1 h1=>aB h1 λuO s2 h2=>?_) hs;obtain⟨it,fp,tn,J,H2,e,I2,T,c9,f2,W,⟨m0,w0⟩,w⟩:=h2;subst e;have R:∀{H':Hp},(∀b∈fp,H' b=aE)->∀b∈fp,jq X a H' b:=λhn b k=>⟨hn b k,(f2 b k).2⟩;refine codeAny_forLoop_any (λn s'=>∃i C H',Inv X a C H' s'/\tn i s'.heap/\(∀b∈fp,H' b=aE)/\W i n C H') ?_ m0 ⟨0,σ,H2,I2,c9,λb k=>(f2 b k).1,w0⟩;rintro n s3 ⟨i,B,E,I3,Vu,xC,w3⟩;rcases w i n B E w3 with⟨y,qn⟩|⟨go,N,hN,step⟩
 ·refine nq A (aB (T.done X rfl rfl rfl hc i a s3 B E X.xe I3 (R xC) Vu y) λr s4 F=>?_);obtain⟨hr,I4⟩:=F;subst hr;exact tr ⟨B,E,I4,qn⟩
 ·refine nq A (aB (T.item X rfl rfl rfl hc i a s3 B E X.xe I3 (R xC) Vu go) λr s4 F=>?_);obtain⟨u,hr,h4⟩:=F;subst hr;refine nq A (aB h4 λ_ s5 ⟨x,H5,I5,r5,y5,L,uP⟩=>nq A (aB (hg _ s5 B H5 x u _ (I5.pinned (R uP) (T.obj _ _ L)) r5 (step x H5 y5)) λ_ s6 ⟨Dp,H6,I6,q6⟩=>nq A (aB (k _ s6 Dp H6 _ I6 q6) λf G q=>?_)));have again:∀{c:St} {p:Hp},Inv X (a++rZ fp s5.heap) c p G->N c p->∃m,m<n/\∃i C H',Inv X a C H' G/\tn i G.heap/\(∀b∈fp,H' b=aE)/\W i m C H':=λ{c p} l z=>by
   obtain⟨m',hm,w7⟩:=hN c p z;refine⟨m',hm,i+1,c,p,l.wj,T.keep _ _ _ L λb k o e=>(l.pin (b,o) (Ym _ (Ym _ (rG k e)))).1,λb k=>?_,w7⟩;obtain⟨o,e,d⟩:=T.obj _ _ L b k;exact(l.pin (b,o) (Ym _ (Ym _ (rG k e)))).2.1
  cases f with
  |next=>obtain⟨c,p,l,z⟩:=q;exact again l z
  |cont=>obtain⟨c,p,l,z⟩:=q;exact again l z
  |brk=>obtain⟨c,p,l,q⟩:=q;exact⟨c,p,l.wj,q⟩
  |ret v=>obtain⟨x7,c,p,l,r7,q⟩:=q;exact⟨x7,c,p,l.wj,r7,q⟩
end
def lZ{K:ai}{a:U}{xs:O V}{g:TG}{l:TS}{D:Ends}{b:St}{H:Hp}(c:Nat->St->Hp->Prop)(v:c 0 b H)(t:∀i b H,i<=xs.length->c i b H->aq K H a xs)
  (s:∀i x b H,xs[i]?=Z x->c i b H->g x b H λf k=>l {D with nx:=c (i+1),ct:=c (i+1),bk:=D.nx} f k)(u:∀b H,c xs.length b H->D.nx b H):
  ∃W:Nat->Nat->St->Hp->Prop,(∃m,W 0 m b H)/\∀i m b H,W i m b H->
   ((kA K a).stop i H/\D.nx b H)\/((kA K a).go i H/\∃N:St->Hp->Prop,(∀j d,N j d->∃n,n<m/\W (i+1) n j d)/\∀x d,(kA K a).sI i H x d->g x b d λf k=>l {D with nx:=N,ct:=N,bk:=D.nx} f k):=by
 refine⟨λi m b H=>m=xs.length-i/\i<=xs.length/\c i b H,⟨xs.length,QS,Yw _,v⟩,?_⟩;rintro i m b H ⟨rfl,o,p⟩;have q:=t i b H o p;by_cases h:i<xs.length
 ·refine .inr ⟨⟨xs,xs[i],q,by simp[h]⟩,c (i+1),λj d r=>⟨xs.length-(i+1),QO,rfl,h,r⟩,λx d y=>?_⟩;obtain⟨e,y⟩:=y;subst e;exact s i x b _ (y xs q) p
 ·have e:i=xs.length:=(i1 o (eL h))
  subst e;exact .inl ⟨⟨xs,q,Ye _⟩,u b H p⟩
def Bg{lo:Int}{n:Nat}{g:TG}{k:TS}{D:Ends}{a:St}{H:Hp}(b:Nat->St->Hp->Prop)(s:b 0 a H)
  (t:∀i a H,i<n->b i a H->g (.int (lo+i)) a H λd j=>k {D with nx:=b (i+1),ct:=b (i+1),bk:=D.nx} d j)(r:∀a H,b n a H->D.nx a H):
  ∃W:Nat->Nat->St->Hp->Prop,(∃m,W 0 m a H)/\∀i m a H,W i m a H->
   ((qM lo n).stop i H/\D.nx a H)\/((qM lo n).go i H/\∃N:St->Hp->Prop,(∀h c,N h c->∃l,l<m/\W (i+1) l h c)/\∀x c,(qM lo n).sI i H x c->g x a c λd j=>k {D with nx:=N,ct:=N,bk:=D.nx} d j):=by
 refine⟨λi m a H=>m=n-i/\i<=n/\b i a H,⟨n,QS,Yw _,s⟩,?_⟩;rintro i m a H ⟨rfl,q,p⟩;by_cases f:i<n
 ·refine .inr ⟨f,b (i+1),λh c o=>⟨n-(i+1),QO,rfl,f,o⟩,λx c y=>?_⟩;obtain⟨e,y⟩:=y
  grind
 ·have e:i=n:=(i1 q (eL f))
  subst e;exact .inl ⟨Ye _,r a H p⟩
theorem H_{c:TT}{j:TS}{D:Ends}{a:St}{H:Hp}(i:St->Hp->Prop)(g:St->Hp->Nat)(r:i a H)
  (o:∀a H,i a H->c a H λb e=>if b=af then j {D with nx:=λd f=>i d f/\g d f<g a H,ct:=λd f=>i d f/\g d f<g a H,bk:=D.nx} a e else D.nx a e)
  (h:∀a H Q k,(∀b e,Q b e->k b e)->c a H Q->c a H k):RT c j D a H:=by
 refine⟨λm a H=>m=g a H/\i a H,⟨_,rfl,r⟩,?_⟩;rintro m a H ⟨rfl,p⟩;refine h a H _ _ (λb e q=>?_) (o a H p);cases b with
 |true=>exact⟨_,λd f ⟨n,l⟩=>⟨_,l,rfl,n⟩,q⟩
 |false=>exact q
abbrev R2:=V->V->Hp->VK->Prop
def cM(X:Cx)(f:aY->aY->Sem aY)(r:R2):Prop:=
 ∀(a:aW) (s:bR) (b:St) (H:Hp) (x y:V) (v u:aY) (Q:VK),Inv X a b H s->RelV x v->RelV y u->r x y H Q->
  wpAny X.md X.A (f v u) (EP X a b Q) X.xe s
def Ly(X:Cx)(f:aY->Sem aY)(r:V->Hp->VK->Prop):Prop:=
 ∀(a:aW) (s:bR) (b:St) (H:Hp) (x:V) (v:aY) (Q:VK),Inv X a b H s->RelV x v->r x H Q->
  wpAny X.md X.A (f v) (EP X a b Q) X.xe s
def dk(X:Cx)(f:aY)(r:O V->Hp->VK->Prop):Prop:=
 ∀(a:aW) (s:bR) (b:St) (H:Hp) (c:O V) (d:O aY) (Q:VK),Inv X a b H s->Vals c d->r c H Q->
  wpAny X.md X.A (call f d) (EP X a b Q) X.xe s
def ZiR(X:Cx)(r:V->Hp->(cm->Hp->Prop)->Prop):Prop:=
 ∀(a:aW) (s:bR) (b:St) (H:Hp) (x:V) (v:aY) (Q:cm->Hp->Prop),Inv X a b H s->RelV x v->r x H Q->
  wpAny X.md X.A (truthy v) (TP X a b Q) X.xe s
def ju(r:R2)(c b:TE):TE:=λa H Q=>c a H λx e=>b a e λy d=>r x y d Q
def tUn(r:V->Hp->VK->Prop)(b:TE):TE:=λa H Q=>b a H λx c=>r x c Q
inductive Ur(C:Int->Int->Prop)(g:Int->Int->V)(x:V)(y:V)(H:Hp)(Q:VK):Prop
 |mk (i j) (d:x=.int i) (c:y=.int j) (a:C i j) (b:Q (g i j) H):Ur C g x y H Q
def rI(C:Int->Int->Prop)(g:Int->Int->V):R2:=λx y H Q=>Ur C g x y H Q
inductive Tg(g:Int->Int->V)(x:V)(y:V)(H:Hp)(Q:VK):Prop
 |mk (i j) (c:x=.int i) (b:y=.int j) (a:Q (g i j) H):Tg g x y H Q
def sJ(g:Int->Int->V):R2:=λx y H Q=>Tg g x y H Q
inductive Us(g:Int->V)(x:V)(H:Hp)(Q:VK):Prop
 |mk (i) (b:x=.int i) (a:Q (g i) H):Us g x H Q
def rU(g:Int->V):V->Hp->VK->Prop:=λx H Q=>Us g x H Q
section
variable {X:Cx}
def KG(p:PE X a l)(o:PE X b k){c:aW}{s:bR}{d:St}{H:Hp}{R:V->V->Hp->Prop}(I:Inv X c d H s)
  (h:l d H λx j=>k d j λy e=>R x y e){Q:bg}{f:aY->aY->Sem aY}
  (B:∀v u i x y e,Inv X c d e i->RelV x v->RelV y u->R x y e->wpAny X.md X.A (f v u) Q X.xe i):
  wpAny X.md X.A (eval a X.env) (λv r=>wpAny X.md X.A (eval b X.env) (λu q=>wpAny X.md X.A (f v u) Q X.xe q) X.xe r) X.xe s:=by
 refine aB (p c s d H _ I h) λv m g=>?_;obtain⟨x,j,t,z,n⟩:=g;refine aB (o c m d j _ t n) λu i g=>?_;obtain⟨y,e,C,w,A⟩:=g
 grind
def bj(i:cM X (binaryOp op) r)(k:PE X a f)(j:PE X b e):PE X (.BinOp a op b pos) (ju r f e):=by
 intro c s d H Q I h;exact wpAny_BinOp (KG k j I h λ v u g x y l=>i c g d l x y v u Q)
def zf(i:Ly X (unaryOp op) r)(j:PE X a d):PE X (.UnaryOp op a pos) (tUn r d):=by
 intro b s c H Q I h;exact UnaryOp_ (aB (j b s c H _ I h) λv e ⟨x,l,k,f,g⟩=>i b e c l x v Q k f g)
def Dq{f:aY->aY->Sem aY}{C:Int->Int->Prop}{g:Int->Int->Int}
  (a:∀(i j:Int) (t u:Tok) (s:bR) (Q:bg) (E:bg),C i j->Q (.int (g i j) s.toks) {s with toks:=s.toks+1}->wpAny X.md X.A (f (.int i t) (.int j u)) Q E s):
  cM X f (rI C λi j=>.int (g i j)):=by
 rintro b s k H x y v u Q I e d ⟨i,j,rfl,rfl,h,q⟩;obtain⟨t,rfl⟩:=e;obtain⟨c,rfl⟩:=d;exact a i j t c s _ _ h ⟨.int (g i j),H,I.tok _,⟨_,rfl⟩,q⟩
def Ut{f:aY->aY->Sem aY}{g:Int->Int->Int}
  (a:∀(i j:Int) (t u:Tok) (s:bR) (Q:bg) (E:bg),Q (.int (g i j) s.toks) {s with toks:=s.toks+1}->wpAny X.md X.A (f (.int i t) (.int j u)) Q E s):
  cM X f (sJ λi j=>.int (g i j)):=by
 rintro b s h H x y v u Q I e d ⟨i,j,rfl,rfl,q⟩;obtain⟨t,rfl⟩:=e;obtain⟨c,rfl⟩:=d;exact a i j t c s _ _ ⟨.int (g i j),H,I.tok _,⟨_,rfl⟩,q⟩
def KH{g:Int->Int->cm}
  (a:∀(i j:Int) (t u:Tok) (s:bR) (Q:bg) (E:bg),Q (.bool (g i j)) s->wpAny X.md X.A (f (.int i t) (.int j u)) Q E s):
  cM X f (sJ λi j=>.bl (g i j)):=by
 rintro b s h H x y v u Q I e d ⟨i,j,rfl,rfl,q⟩;obtain⟨t,rfl⟩:=e;obtain⟨c,rfl⟩:=d;exact a i j t c s _ _ ⟨.bl (g i j),H,I,rfl,q⟩
def KI(i j:Int):Prop:=0<j/\j<1073741824
def ZiS(i j:Int):Prop:=0<=j/\j<=1000000/\i.natAbs<2^64
def zu(i j:Int):Prop:=(-(2^64)<i/\i<2^64)\/(-(2^64)<j/\j<2^64)
def zu.ok{i j:Int}(h:zu i j):IntMulOk i j:=by
 rcases h with⟨b,a⟩|⟨b,a⟩;·exact .of_left (intBits_le_64 b a)
 ·exact .of_right (intBits_le_64 b a)
def jg:cM X (binaryOp .Add) (sJ λi j=>.int (i+j)):=Ut λ_ _ _ _ _ _ _ q=>add_int q
def B6:cM X (binaryOp .Sub) (sJ λi j=>.int (i-j)):=Ut λ_ _ _ _ _ _ _ q=>sub_int q
def ql:cM X (binaryOp .Mult) (rI zu λi j=>.int (i*j)):=Dq λ_ _ _ _ _ _ _ a q=>mul_int q a.ok
def BG:cM X (binaryOp .FloorDiv) (rI KI λi j=>.int (i/j)):=Dq λi j _ _ _ _ _ a q=>by
 have b:(0:Int)<j:=a.1;have c:j<1073741824:=a.2;exact floordiv_int (VT b) (by rw[Int.fdiv_eq_ediv_of_nonneg i (Int.le_of_lt b)];exact q) (.inl (PyProof.noPylong_small QO))
def eS:cM X (binaryOp .Mod) (rI (λ_ j=>0<j) λi j=>.int (i % j)):=Dq λi j _ _ _ _ _ a q=>by
 exact mod_int' (VT a) (by rwa[Int.fmod_eq_emod_of_nonneg i (Int.le_of_lt a)])
def RV:cM X (binaryOp .Pow) (rI ZiS λi j=>.int (i^j.toNat)):=Dq λ_ _ _ _ _ _ _ a q=>pow_int_small a.1 a.2.1 a.2.2 q
def unI{f:aY->Sem aY}{g:Int->Int}
  (a:∀(i:Int) (t:Tok) (s:bR) (Q:bg) (E:bg),Q (.int (g i) s.toks) {s with toks:=s.toks+1}->wpAny X.md X.A (f (.int i t)) Q E s):
  Ly X f (rU λi=>.int (g i)):=by
 rintro b s d H x v Q I c ⟨i,rfl,q⟩;obtain⟨t,rfl⟩:=c;exact a i t s _ _ ⟨.int (g i),H,I.tok _,⟨_,rfl⟩,q⟩
def yU:Ly X (unaryOp .USub) (rU λi=>.int (-i)):=unI λ_ _ _ _ _ q=>neg_int q
end
def zw:V->V->cm
 |.aA,.aA=>af|.aA,.int _=>af|.int _,.aA=>af|.aA,.bl _=>af|.bl _,.aA=>af|.aA,.str _=>af|.str _,.aA=>af
 |.int _,.int _=>af|.bl _,.bl _=>af|.str _,.str _=>af|.kr _,.kr _=>af
 |.int _,.str _=>af|.str _,.int _=>af|.bl _,.str _=>af|.str _,.bl _=>af
 |_,_=>a7
def Vv:R2:=λx y H Q=>zw x y=af/\Q (.bl (decide (x=y))) H
def Vw:R2:=λx y H Q=>zw x y=af/\Q (.bl (!decide (x=y))) H
def Qn:decide (V.int i=V.int j)=(i==j):=by
 grind
def RW:decide (V.bl i=V.bl j)=(i==j):=by
 grind
def Qo:decide (V.str i=V.str j)=(i==j):=by
 grind
def Qp:decide (V.kr i=V.kr j)=(i.toList==j.toList):=by
 rw[Wm];simp_all
section
variable {b:cP}
def cO(I:Inv X pins σ H s)(q:Q (.bl k) H)(e:k=a):EP X pins σ Q (.bool a) s:=by
 subst e;exact⟨.bl k,H,I,rfl,q⟩
theorem cD:cM X (compareOp .Eq) Vv:=by
 intro f s g H x y v u Q I e a h;obtain⟨d,q⟩:=h;cases x with
 |aA=>
  cases e;cases y with
  |aA=>cases a;exact PySem.EqNone.eq_none_none (cO I q QS)
  |bl j=>cases a;exact PySem.EqNone.eq_none_bool (cO I q QS)
  |int j=>obtain⟨c,rfl⟩:=a;exact PySem.EqNone.eq_none_int (cO I q QS)
  |str j=>obtain⟨c,rfl⟩:=a;exact PySem.EqNone.eq_none_str (cO I q QS)
  |_=>exact absurd (d) Yh
 |bl i=>
  cases e;cases y with
  |aA=>cases a;exact PySem.EqNone.eq_bool_none (cO I q QS)
  |bl j=>cases a;exact eq_bool (cO I q RW)
  |str j=>obtain⟨c,rfl⟩:=a;exact PySem.EqMixed.eq_bool_str (cO I q QS)
  |_=>exact absurd (d) Yh
 |int i=>
  obtain⟨t,rfl⟩:=e;cases y with
  |aA=>cases a;exact PySem.EqNone.eq_int_none (cO I q QS)
  |int j=>obtain⟨c,rfl⟩:=a;exact eq_int (cO I q Qn)
  |str j=>obtain⟨c,rfl⟩:=a;exact PySem.EqMixed.eq_int_str (cO I q QS)
  |_=>exact absurd (d) Yh
 |str i=>
  obtain⟨t,rfl⟩:=e;cases y with
  |aA=>cases a;exact PySem.EqNone.eq_str_none (cO I q QS)
  |bl j=>cases a;exact PySem.EqMixed.eq_str_bool (cO I q QS)
  |int j=>obtain⟨c,rfl⟩:=a;exact PySem.EqMixed.eq_str_int (cO I q QS)
  |str j=>obtain⟨c,rfl⟩:=a;exact eq_str (cO I q Qo)
  |_=>exact absurd (d) Yh
 |kr i=>
  obtain⟨t,rfl⟩:=e;cases y with
  |kr j=>obtain⟨c,rfl⟩:=a;exact PySem.W.eq_bytes (cO I q Qp)
  |_=>exact absurd (d) Yh
 |_=>cases y<;>exact absurd (d) Yh
theorem nv:cM X (compareOp .NotEq) Vw:=by
 intro f s g H x y v u Q I e a h;obtain⟨d,q⟩:=h;cases x with
 |aA=>
  cases e;cases y with
  |aA=>cases a;exact PySem.EqNone.ne_none_none (cO I q QS)
  |bl j=>cases a;exact PySem.EqNone.ne_none_bool (cO I q QS)
  |int j=>obtain⟨c,rfl⟩:=a;exact PySem.EqNone.ne_none_int (cO I q QS)
  |str j=>obtain⟨c,rfl⟩:=a;exact PySem.EqNone.ne_none_str (cO I q QS)
  |_=>exact absurd (d) Yh
 |bl i=>
  cases e;cases y with
  |aA=>cases a;exact PySem.EqNone.ne_bool_none (cO I q QS)
  |bl j=>cases a;exact ne_bool (cO I q (dJ not RW))
  |str j=>obtain⟨c,rfl⟩:=a;exact PySem.EqMixed.ne_bool_str (cO I q QS)
  |_=>exact absurd (d) Yh
 |int i=>
  obtain⟨t,rfl⟩:=e;cases y with
  |aA=>cases a;exact PySem.EqNone.ne_int_none (cO I q QS)
  |int j=>obtain⟨c,rfl⟩:=a;exact ne_int (cO I q (dJ not Qn))
  |str j=>obtain⟨c,rfl⟩:=a;exact PySem.EqMixed.ne_int_str (cO I q QS)
  |_=>exact absurd (d) Yh
 |str i=>
  obtain⟨t,rfl⟩:=e;cases y with
  |aA=>cases a;exact PySem.EqNone.ne_str_none (cO I q QS)
  |bl j=>cases a;exact PySem.EqMixed.ne_str_bool (cO I q QS)
  |int j=>obtain⟨c,rfl⟩:=a;exact PySem.EqMixed.ne_str_int (cO I q QS)
  |str j=>obtain⟨c,rfl⟩:=a;exact ne_str (cO I q (dJ not Qo))
  |_=>exact absurd (d) Yh
 |kr i=>
  obtain⟨t,rfl⟩:=e;cases y with
  |kr j=>obtain⟨c,rfl⟩:=a;exact PySem.W.ne_bytes (cO I q (dJ not Qp))
  |_=>exact absurd (d) Yh
 |_=>cases y<;>exact absurd (d) Yh
def ny:cM X (compareOp .Lt) (sJ λi j=>.bl (decide (i<j))):=KH λ_ _ _ _ _ _ _ q=>lt_int q
def Ke:cM X (compareOp .Gt) (sJ λi j=>.bl (decide (j<i))):=KH λ_ _ _ _ _ _ _ q=>gt_int q
def Zh0:cM X (compareOp .GtE) (sJ λi j=>.bl (decide (j<=i))):=KH λ_ _ _ _ _ _ _ q=>ge_int q
def ZcR:cM X (compareOp .In) (λx y H Q=>∃i j,x=.str i/\y=.str j/\Q (.bl (!(Builtin.Str.occurrences j i 0 j.length 1).isEmpty)) H):=by
 intro a s e H x y v u Q I d c h;obtain⟨i,j,rfl,rfl,q⟩:=h;obtain⟨t,rfl⟩:=d;obtain⟨f,rfl⟩:=c;exact in_str (cO I q rfl)
theorem B7:cM X (compareOp .Is) (λx y H Q=>y=.aA/\Q (.bl (decide (x=.aA))) H):=by
 intro c s e H x y v u Q I a d h;obtain⟨rfl,q⟩:=h;cases d;refine is_none_gen (cO I q ?_);cases x<;>first
  |(cases a;rfl)
  |(obtain⟨t,rfl⟩:=a;rfl)
theorem BH:cM X (compareOp .IsNot) (λx y H Q=>y=.aA/\Q (.bl (!decide (x=.aA))) H):=by
 rintro c s e H x y v u Q I a d ⟨rfl,q⟩;cases d;refine isnot_none_gen (cO I q ?_);cases x<;>first
  |(cases a;rfl)
  |(obtain⟨t,rfl⟩:=a;rfl)
def ZaA:cM X (compareOp .NotIn) (λx y H Q=>∃i j,x=.str i/\y=.str j/\Q (.bl (!(!(Builtin.Str.occurrences j i 0 j.length 1).isEmpty))) H):=by
 rintro a s e H x y v u Q I d c ⟨i,j,rfl,rfl,q⟩;obtain⟨t,rfl⟩:=d;obtain⟨f,rfl⟩:=c;exact notIn_str (cO I q rfl)
def RX(b:cP){a:CmpOp}(h:a≠.In:=by decide)(c:a≠.NotIn:=by decide):behindInMarks a b=a7:=by
 have e:(a==CmpOp.In)=a7:=by cases a<;>first|rfl|exact absurd rfl h
 have d:(a==CmpOp.NotIn)=a7:=by cases a<;>first|rfl|exact absurd rfl c
 cases b<;>simp[behindInMarks,e,d]
def BI(i:cM X (compareOp op) r)(l:PE X a f)(k:PE X b e)(j:behindInMarks op b=a7):PE X (.Compare a [op] [b] pos) (ju r f e):=by
 intro c s d H Q I h;exact Uz (KG l k I h λ v u g x y m=>i c g d m x y v u Q) j
inductive Qq(Q:cm->Hp->Prop)(x:V)(a:Hp):Prop
 |mk (k) (d:x=.bl k) (c:Q k a):Qq Q x a
def Kg(t:TE):TT:=λa H Q=>t a H λx c=>Qq Q x c
def iO(w:cM X (compareOp op) r)(C:PE X a i)(B:PE X b g)(A:behindInMarks op b=a7):PT X (.Compare a [op] [b] pos) (Kg (ju r i g)):=by
 intro d s f H Q I h;refine B2 (aB (C d s f H _ I h) λv l ⟨x,L,F,o,t⟩=>aB (B d l f L _ F t) λu j ⟨y,J,E,n,q⟩=>
  aB (w d j f J x y v u _ E o n q) λc N ⟨z,G,D,m,k,e,p⟩=>?_) A
 subst e;cases m;exact lp ⟨G,D,p⟩
def CF(K:ai)(x:V)(H:Hp)(k:cm):Prop:=
 match x with
 |.aA=>k=a7
 |.bl b=>k=b
 |.int i=>k=(i !=0)
 |.str y=>y.length<=sizeLine/\k=((y.length:Int)!=0)
 |.kr y=>y.size<=sizeLine/\k=((y.size:Int)!=0)
 |.ref p=>(∃a,aq K H p a/\k=!a.isEmpty)\/(∃a,az K H p a/\k=!a.isEmpty)\/∃c,H p=Z (.dK c)/\k=!c.isEmpty
 |_=>False
def ZbS(r:KV a c):(!c.isEmpty)=!a.isEmpty:=by
 cases r<;>rfl
def NT(r:Vals xs a):(!a.toArray.isEmpty)=!xs.isEmpty:=by
 cases r<;>simp
def t8:(sizeLine:Nat)<2^63:=by rw[dw];decide
theorem Zgz:ZiR X (λx H Q=>∃k,CF X.K x H k/\Q k H):=by
 intro l s A H x v Q I f h;obtain⟨k,e,q⟩:=h;have B:sizeLine=16777216:=dw;cases x with
 |aA=>
  cases f;have a:k=a7:=e;subst a;exact truthy_none ⟨H,I,q⟩
 |bl b=>
  cases f;have a:k=b:=e;subst a;exact lp ⟨H,I,q⟩
 |int i=>
  obtain⟨t,rfl⟩:=f;have a:k=(i !=0):=e;subst a;exact PySem.P.truthy_int ⟨H,I,q⟩
 |str y=>
  obtain⟨t,rfl⟩:=f;obtain⟨o,a⟩:y.length<=sizeLine/\k=((y.length:Int)!=0):=e;subst a;exact PySem.P.truthy_str QO ⟨H,I.tok _,q⟩
 |kr y=>
  obtain⟨t,rfl⟩:=f;obtain⟨o,a⟩:y.size<=sizeLine/\k=((y.size:Int)!=0):=e;subst a;exact PySem.W.truthy_bytes (dW o (by decide)) ⟨H,I.tok _,q⟩
 |ref p=>
  cases f;have a:=e;rcases a with⟨u,g,a⟩|⟨u,g,a⟩|⟨d,g,a⟩
  ·subst a;obtain⟨z,r,j,n⟩:=I.list g;have c:=r.length;exact wpAny_truthy_list j.isList (by simp only[Yr];omega) ⟨H,I.tok _,by rw[NT r];exact q⟩
  ·subst a;obtain⟨z,r,j,n⟩:=I.tuple g;have c:=r.length;exact truthy_tuple j (by simp only[Yr];omega) ⟨H,I.tok _,by rw[NT r];exact q⟩
  ·subst a;obtain⟨n,w,vs,r,m⟩:d.length<=sizeLine/\(p==sysModules)=a7/\∃vs,KV d vs/\s.heap.DictOf (dU X.prog X.w) p vs:=I.ay p _ g;have c:d.length=vs.length:=Paired.length r;exact wpAny_truthy_dict w m QO ⟨H,I.tok _,by rwa[ZbS r]⟩
 |_=>exact(e).elim
def yG(n:PE X a g)(m:∀c,isTrue a X.env c=(do let v←c;standAt a.pos;holding [v] (truthy v))):
  PT X a (λe H Q=>g e H λx f=>∃k,CF X.K x f k/\Q k f):=by
 intro d s e H Q I h;exact isTrue_plain (aB (n d s e H _ I h) λv i ⟨x,p,o,j,l⟩=>Zgz d i e p x v Q o j l) (m _)
def vX:cM X (binaryOp .Add) (λx y H Q=>∃i j,x=.str i/\y=.str j/\i.length+j.length<=sizeLine/\Q (.str (i++j)) H):=by
 rintro a s g H x y v u Q I e d ⟨i,j,rfl,rfl,f,q⟩;obtain⟨t,rfl⟩:=e;obtain⟨c,rfl⟩:=d;exact add_str (λc h=>⟨.str (i++j),H,I.tok _,⟨_,rfl⟩,q⟩) f
theorem vals1(r:Vals [x] us):∃u,us=[u]/\RelV x u:=by
 cases r with
 |cons c a=>cases a;exact⟨_,rfl,c⟩
theorem vals2(r:Vals [x,y] us):∃u w',us=[u,w']/\RelV x u/\RelV y w':=by
 cases r with
 |cons e d=>
  cases d with
  |cons c a=>cases a;exact⟨_,_,rfl,e,c⟩
def Pb:dk X (.builtin "abs") (λa H Q=>∃i,a=[.int i]/\Q (.int (if i<0 then-i else i)) H):=by
 rintro c s d H a e Q I r ⟨i,rfl,q⟩;obtain⟨u,rfl,t,rfl⟩:=vals1 r;exact call_abs_int λu f=>⟨.int (if i<0 then-i else i),H,I.tok _,⟨_,rfl⟩,q⟩
def FO:dk X (.type "str") (λa H Q=>∃i,a=[.int i]/\i.natAbs.log2<1920/\Q (.str (toString i)) H):=by
 rintro c s e H a f Q I r ⟨i,rfl,d,q⟩;obtain⟨u,rfl,t,rfl⟩:=vals1 r;exact PySem.P.str_of_int d ⟨.str _,H,I.tok _,⟨_,rfl⟩,q⟩
end
structure uw(h:cY)(x dx C:U)(mA:aV):Prop where
 obj:h.get? x=Z (instObj C dx)
 ns:h.Ns1 dx mA
 ne:dx≠x
def Hk{h:cY}(n:h.Ns1 m f):∃c,h.get? m=Z c/\∀b,lookIn b c=Z (f b):=by
 obtain⟨o,l,p,i,hd,k,_,j⟩:=n;refine⟨o,i,λb=>?_⟩;have e:=j b;unfold nsFind findBy at e;rw[←Array.find?_toList] at e;unfold lookIn;rw[hd];dsimp;split;·grind
 ·rename_i q
  have a:l.toList.any (·.refKey)=a7:=by
   rw[Vx];intro y g;obtain⟨z,t,d⟩:=k y (Array.mem_toList_iff.mp g);simp[DictEntry.refKey,d]
  grind
def uw.look(I:uw h x f C c):∃b,PySem.W.InstAt h x (instObj C f) C (Z b)/\∀a,lookIn a b=Z (c a):=
 let⟨b,d,e⟩:=Hk I.ns
 ⟨b,⟨I.obj,rfl,rfl,d⟩,e⟩
section
variable {T:de}{w:c5}{A:d6}{E:bg}{s:bR}{K:ai}{x P C f:U}{mA:aV}{W:ar}{v:aY}
def get_map{a:cm}{Q:bg}(X:K.In s.heap)(I:uw s.heap x P C mA)(g:plainGet K C W=af)(e:hasDictIn K C=af)
  (i:PySem.W.findIn K (.ref C) W=Z aE)(c:mA W=Z v)(b:handedIn v=af)(h:Q v {s with toks:=s.toks+1}):
  wpAny (model T w) A (getAttr (.ref x) W a) Q E s:=by
 obtain⟨j,J,d⟩:=I.look;exact PySem.W.get_value X J (xU g).1 (findObj_own e i rfl (by rw[d,c])) b h
def ZdH(X:K.In s.heap)(I:uw s.heap x P C mA)(a:plainGet K C W=af)
  (g:PySem.W.findIn K (.ref C) W=Z (Z (.ref f)))(d:isFn K (.ref f)=af)(c:mA W=aE)(h:Q (.ref f,[.ref x]) s):
  wpAny (model T w) A (getMethod (.ref x) W i) Q E s:=by
 obtain⟨b,J,e⟩:=I.look;exact PySem.W.method_fn X J (xU a).1 (xU a).2 g (beq_iff_eq.mp d) (by show(lookIn W b).map (·.isSome)=Z a7;rw[e,c];rfl) h
def Ze9{d:O ar}{Q:Unit->bR->Prop}(X:K.In s.heap)(I:uw s.heap x P C mA)
  (n:PySem.W.findIn K (.ref C) "__setattr__"=Z (Z (.builtin "object.__setattr__")))(o:plainOver K C=af)(l:takerIn K C W=Z aE)(p:hasDictIn K C=af)
  (k:PySem.Within mA d)(m:d.length<=sizeLine)
  (h:∀a,uw a x P C (λy=>if y=W then Z v else mA y)->Heap.SameBut P s.heap a->Q () {s with heap:=a,toks:=s.toks+2}):
  wpAny (model T w) A (setAttr (.ref x) W v) Q E s:=by
 obtain⟨t,J,z⟩:=I.look;refine set_plain X J n (PySem.W.osa_open X J o l λb=>?_);obtain⟨B,q,r⟩:=uA p;refine bh (cy (bh (bh (tH I.obj (bh (PySem.W.Looks.here (PySem.W.looks_clsIn X q) ?_))))));rw[r];refine cy (bh (cy (bh (wh I.ns λa e c=>?_))));obtain⟨u,F,D,j,i,g⟩:=e.count (vh W v k);exact bh (vi j (by exact i▸vj (Yy g (by rw[Wf];exact Nat.add_le_add m (by decide)))) (cy (h _ ⟨(c.2 _ (iS I.ne)).trans I.obj,e,I.ne⟩ c)))
def ZdI{R:Result->bR->Prop}{b:O aY}{c:O (ar×aY)}(X:K.In s.heap)(e:makesIn K C=af)
  (i:PySem.W.findIn K (.ref C) "__init__"=Z (Z (.ref f)))(j:typeIn K (.ref f)=Z (.type "function"))
  (h:codeAny (model T w) (A.under (.builtin "type.__call__" ⟨.ref C::b,c⟩)) (.call (.ref f) ⟨.ref (s.heap.objs.size+1)::b,c⟩) (PySem.W.InitBack (s.heap.objs.size+1) R)
   {s with heap:=(s.heap.push emptyDict).push (instObj C s.heap.objs.size)}):
  codeAny (model T w) A (.call (.ref C) ⟨b,c⟩) R s:=by
 obtain⟨k,g,d,t,os⟩:=s;exact PySem.W.make_core (PySem.W.makes_of X e) (PySem.W.looks_findIn X i) (λa=>PySem.W.bind_fn X a j) (.inl rfl) h
end
def cV(f:ar)(v:V):O (ar×V)->O (ar×V)
 |[]=>[(f,v)]
 |(g,x)::r=>if g=f then(g,v)::r else(g,x)::cV f v r
theorem F6(f g:ar)(v:V):∀fs:O (ar×V),(cV f v fs).lookup g=if g=f then Z v else fs.lookup g
 |[]=>by
  show List.lookup g [(f,v)]=_
  grind
 |(k,x)::r=>by
  have a:=F6 f g v r;rw[show cV f v ((k,x)::r)=(if k=f then(k,v)::r else(k,x)::cV f v r) from rfl]
  grind
theorem yy(f:ar)(v:V):∀fs:O (ar×V),f∈(cV f v fs).map (·.1)/\∀g,g∈fs.map (·.1)->g∈(cV f v fs).map (·.1)
 |[]=>⟨by simp[cV],λg h=>by simp at h⟩
 |(k,x)::r=>by
  obtain⟨b,a⟩:=yy f v r;rw[show cV f v ((k,x)::r)=(if k=f then(k,v)::r else(k,x)::cV f v r) from rfl]
  grind
theorem F7(f:ar)(v:V):∀fs:O (ar×V),(cV f v fs).length<=fs.length+1
 |[]=>by simp[cV]
 |(k,x)::r=>by
  have a:=F7 f v r;rw[show cV f v ((k,x)::r)=(if k=f then(k,v)::r else(k,x)::cV f v r) from rfl]
  (split<;>simp_all)
theorem eU.some_of(r:eU (Z v) o):∃u,o=Z u/\RelV v u:=by
 cases o with
 |none=>exact(r).elim
 |some u=>exact⟨u,rfl,r⟩
theorem eU.none_of(r:eU aE o):o=aE:=by
 cases o with
 |none=>rfl
 |some u=>exact(r).elim
theorem Ov(r:RelV v u):handedIn u=af:=by
 cases v with
 |aA=>cases(r);rfl
 |bl b=>cases(r);rfl
 |int i=>obtain⟨t,e⟩:=(show ∃t,u=Value.int i t from r);cases e;rfl
 |str x=>obtain⟨t,e⟩:=(show ∃t,u=Value.str x t from r);cases e;rfl
 |kr b=>obtain⟨t,e⟩:=(show ∃t,u=Value.bytes b t from r);cases e;rfl
 |uK b=>obtain⟨t,e⟩:=(show ∃t,u=Value.float b t from r);cases e;rfl
 |ref a=>cases(r);rfl
 |ty n=>cases(r);rfl
def BJ(i:dq P w H h)(e:H a=Z (.ins C c fs)):∃b,uw h a c C b/\(∀f,eU (fs.lookup f) (b f))/\PySem.Within b (fs.map (·.1))/\fs.length<=1000/\H c=Z (.own a):=by
 obtain⟨d,z,ne,g,b,n,r,q⟩:=(i a _ e);exact⟨b,⟨g,n,ne⟩,r,q,z,d⟩
structure ir(K:ai)(C:U):Prop where
 pg:plainGet K C Str.empty=af
 hd:hasDictIn K C=af
 po:plainOver K C=af
 sa:PySem.W.findIn K (.ref C) "__setattr__"=Z (Z (.builtin "object.__setattr__"))
def ir.get{K:ai}(c:ir K C)(f:ar):plainGet K C f=af:=c.pg
def du(K:ai)(C:U)(f:ar):Prop:=PySem.W.findIn K (.ref C) f=Z aE
def du.Zh1{K:ai}(n:du K C f):takerIn K C f=Z aE:=by
 unfold takerIn;rw[n];rfl
structure Meth(K:ai)(C:U)(m:ar)(f:U):Prop where
 at_:PySem.W.findIn K (.ref C) m=Z (Z (.ref f))
 fn:isFn K (.ref f)=af
 kp:keepIn K (.ref f)=af
def ZbT(I:Inv X pins σ H s)(e:H a=Z (.ins C m fs))(c:ir X.K C)(n:du X.K C f)(l:fs.lookup f=Z v)
  (h:∀u g,Inv X pins σ H g->RelV v u->Q u g):wpAny X.md A (getAttr (.ref a) f b) Q E s:=by
 obtain⟨k,d,r,_,_,_⟩:=BJ I.ay e;obtain⟨u,j,i⟩:=eU.some_of (by exact l▸r f);exact get_map I.cG d (c.get f) c.hd n j (Ov i) (h u _ (I.tok _) i)
def GI(I:Inv X pins σ H s)(e:H a=Z (.ins C i fs))(c:ir X.K C)(k:Meth X.K C m g)(l:fs.lookup m=aE)
  (h:Q (.ref g,[.ref a]) s):wpAny X.md A (getMethod (.ref a) m d) Q E s:=by
 obtain⟨f,b,r,_,_,_⟩:=BJ I.ay e;exact ZdH I.cG b (c.get m) k.at_ k.fn (eU.none_of (by exact l▸r m)) h
def NU(I:Inv X pins σ H s)(e:H a=Z (.ins C x fs))(c:ir X.K C)(n:du X.K C f)(F:fs.length<1000)(B:RelV y u)
  (h:∀k,Inv X pins σ (upd H a (.ins C x (cV f y fs))) k->Q () k):wpAny X.md A (setAttr (.ref a) f u) Q E s:=by
 obtain⟨D,d,r,j,_,p⟩:=BJ I.ay e;have m:(fs.map (·.1)).length<=sizeLine:=by rw[Ya,dw];exact uQ (oV F (by decide))
 refine Ze9 I.cG d c.sa c.po n.Zh1 c.hd j m λG i l=>h _ (I.write (by exact e▸gT) (.inr p) (λb q v z=>(l.2 b v).trans z) (let⟨o,_,_,w,_⟩:=i.ns;⟨o,w⟩) ⟨by rwa[aN d.ne],?_,d.ne,i.obj,_,i.ns,λg=>?_,λg t=>?_⟩);·have:=F7 f y fs;exact lg this (uN F)
 ·rw[F6];by_cases q:g=f;·rwa[bt q,bt q]
  ·grind
 ·by_cases q:g=f;·exact q▸(yy f y fs).1
  ·refine(yy f y fs).2 g (j g λz=>t ?_)
   grind
def Inv.made(I:Inv X pins σ H s):Inv X pins σ (upd (upd H s.heap.objs.size (.own (s.heap.objs.size+1))) (s.heap.objs.size+1) (.ins C s.heap.objs.size []))
  {s with heap:=(s.heap.push emptyDict).push (instObj C s.heap.objs.size)}:=by
 have c:(s.heap.push emptyDict).get? s.heap.objs.size=Z emptyDict:=Yu s.heap rfl;have g:((s.heap.push emptyDict).push (instObj C s.heap.objs.size)).get? (s.heap.objs.size+1)=Z (instObj C s.heap.objs.size):=by
  have:=Yu (s.heap.push emptyDict) (o:=instObj C s.heap.objs.size) rfl
  rwa [Jx] at this
 have f:(s.heap.push emptyDict).Ns s.heap.objs.size (λ_=>aE):=⟨emptyDict,#[],_,c,rfl,(λe d=>absurd d QS),λ_=>rfl⟩;have h:=I.laid (a:=s.heap.objs.size) (o:=.own (s.heap.objs.size+1)) (h':=s.heap.push emptyDict) (t':=s.toks) (λb u q=>Yb _ q) (Ye _) ⟨_,c⟩;refine h.laid (λb u q=>Yb _ q) (Lz (Jx _ _)) ?_;have ne:s.heap.objs.size≠s.heap.objs.size+1:=Y0 (Jk _);refine⟨by rw[aN ne,aT],Yw _,ne,g,λ_=>aE,(L9 f).at λ o=>Yb _,λ_=>gT,λ y=>absurd rfl⟩
def Qr(a:attributeBase e f env (eval e env)=eval e env)
  (h:wpAny (model prog w) A (eval e env) (λo b=>wpAny (model prog w) A (getAttr o f af) Q E b) E s):wpAny (model prog w) A (eval (.Attribute e f pos) env) Q E s:=
 Attribute_any_ h (by rw[arm_eval_Attribute,a])
inductive RY(K:ai)(f:ar)(Q:VK)(x:V)(b:Hp):Prop
 |mk (a C c fs v) (j:x=.ref a) (i:b a=Z (.ins C c fs)) (g:ir K C) (h:du K C f) (e:fs.lookup f=Z v) (d:Q v b):RY K f Q x b
def KJ(K:ai)(b:TE)(f:ar):TE:=λa H Q=>b a H λx c=>RY K f Q x c
def ZiT(K:ai)(g e:TE)(f:ar):TS:=λD b H=>e b H λy h=>g b h λx d=>∃a C c fs,x=.ref a/\d a=Z (.ins C c fs)/\ir K C/\du K C f/\fs.length<1000/\
 D.nx b (upd d a (.ins C c (cV f y fs)))
def ZgA(m:PE X e i)(o:attributeBase e f X.env (eval e X.env)=eval e X.env):PE X (.Attribute e f pos) (KJ X.K i f):=by
 intro b s d H Q I h;refine Qr o (aB (m b s d H _ I h) λu B g=>?_);obtain⟨x,y,w,j,a,C,D,fs,v,p,r,c,n,l,q⟩:=g;subst p;obtain rfl:u=Value.ref a:=j;exact ZbT w r c n l λz A t k=>⟨v,y,t,k,q⟩
def yV(w:PE X o i)(t:PE X value g)(v:swapsWith value (Z (.Attribute o f pos')) pos.line X.env=pure a7):PS X (.Assign [.Attribute o f pos'] value pos) (ZiT X.K i g f):=by
 intro b s d H D I h;refine uU (aB (t b s d H _ I h) λu j e=>?_) v;obtain⟨y,G,F,k,q⟩:=e;refine aB (w b j d G _ F q) λr L e=>?_;obtain⟨x,P,E,m,a,C,N,fs,z,A,c,n,l,p⟩:=e;subst z;obtain rfl:r=Value.ref a:=m;exact NU E A c n l k λJ B=>⟨d,_,B,p⟩
section
variable {X:Cx}{W:aW}{σ:St}{H:Hp}{s:bR}{A:d6}{E:bg}{Q:bg}{c:aY}{b:cm}
inductive jQ(K:ai)(H:Hp):V->aY->Prop where
 |aA:jQ K H .aA (.type "NoneType")
 |bl (x:cm):jQ K H (.bl x) (.type "bool")
 |int (i:Int):jQ K H (.int i) (.type "int")
 |str (x:ar):jQ K H (.str x) (.type "str")
 |uK (x:UInt64):jQ K H (.uK x) (.type "float")
 |lst {a:U} {f:O V} (e:H a=Z (.lst f)):jQ K H (.ref a) (.type "list")
 |cL {a:U} {o:Obj} {f:O V} (e:H a=Z (.cL o (.lst f))):jQ K H (.ref a) (.type "list")
 |tup {a:U} {f:O V} (e:H a=Z (.tup f)):jQ K H (.ref a) (.type "tuple")
 |dK {a:U} {d:O (Key×V)} (e:H a=Z (.dK d)):jQ K H (.ref a) (.type "dict")
 |dT {a:U} {d:O (O Key×V)} (e:H a=Z (.dT d)):jQ K H (.ref a) (.type "dict")
 |ins {a C g:U} {fs:O (ar×V)} (e:H a=Z (.ins C g fs)) (j:ir K C) (h:PySem.W.findIn K (.ref C) "__class__"=Z (Z (.builtin "object.__class__")))
   (hn:specialIn K (.builtin "object.__class__") "__get__"=Z (Z (.builtin "getset_descriptor.__get__"))) (VA:takesIn K (.builtin "object.__class__")=Z af)
   (hm:PySem.W.mroIn K C (.type "object")=Z af):jQ K H (.ref a) (.ref C)
theorem ZcS{x:V}{u t:aY}(I:Inv X W σ H s)(f:RelV x u)(r:jQ X.K H x t)(e:kitOne X.K t c=Z b)(h:∀v,Q (.bool b) {s with toks:=v}):
  wpAny X.md A (call (.builtin "isinstance") [u,c]) Q E s:=by
 cases r with
 |aA=>cases(show u=Value.none from f);exact jA PySem.W.kitx_none I.cG gT e (λz=>nomatch z) h
 |bl y=>cases(show u=Value.bool y from f);exact jA PySem.W.kitx_bool I.cG gT e (λz=>nomatch z) h
 |int i=>obtain⟨t,q⟩:=(show ∃t,u=Value.int i t from f);cases q;exact jA PySem.W.kitx_int I.cG gT e (λz=>nomatch z) h
 |str y=>obtain⟨t,q⟩:=(show ∃t,u=Value.str y t from f);cases q;exact jA PySem.W.kitx_str I.cG gT e (λz=>nomatch z) h
 |uK y=>obtain⟨t,q⟩:=(show ∃t,u=Value.float y t from f);cases q;exact jA PySem.W.kitx_float I.cG gT e (λz=>nomatch z) h
 |@lst a l g=>
  cases(show u=Value.ref a from f);obtain⟨_,_,n,_,j⟩:=(show cT X.prog X.w H s.heap a (.lst l) from I.ay a _ g);exact jA kitx_list I.cG ⟨_,j,rfl⟩ e (λz=>nomatch z) h
 |@cL a w l g=>
  cases(show u=Value.ref a from f);obtain⟨_,_,_,n,_,j⟩:=(show cT X.prog X.w H s.heap a (.cL w (.lst l)) from I.ay a _ g);exact jA kitx_list I.cG ⟨_,j,rfl⟩ e (λz=>nomatch z) h
 |@tup a l g=>
  cases(show u=Value.ref a from f);obtain⟨_,_,_,p⟩:=(show cT X.prog X.w H s.heap a (.tup l) from I.ay a _ g);obtain⟨o,j,m,_⟩:=p;exact jA PySem.W.kitx_tuple I.cG ⟨o,j,m⟩ e (λz=>nomatch z) h
 |@dK a k g=>
  cases(show u=Value.ref a from f);obtain⟨_,_,N,_,p⟩:=(show cT X.prog X.w H s.heap a (.dK k) from I.ay a _ g);obtain⟨o,F,G,j,m,_⟩:=p;exact jA kitx_dict I.cG ⟨o,j,m.1⟩ e (λz=>nomatch z) h
 |@dT a k g=>
  cases(show u=Value.ref a from f);obtain⟨_,_,l,_,o,F,G,j,m,_⟩:=(show cT X.prog X.w H s.heap a (.dT k) from I.ay a _ g);exact jA kitx_dict I.cG ⟨o,j,m.1⟩ e (λz=>nomatch z) h
 |@ins a C T fs g cl D B L hm=>
  cases(show u=Value.ref a from f);obtain⟨R,d,_⟩:=BJ I.ay g;obtain⟨P,J,_⟩:=d.look;exact jA (PySem.W.kitx_own (cl.get _) cl.hd D B L hm) I.cG J e (λz=>nomatch z) h
end
structure cW(k:Nat)(A:d6):Prop where
 hd:A.handled=aE
 dp:A.depth+3*k+5<recursionLimit
 un:A.units+16*k+200<cLine
 gd:A.guards=Z []
def cW.mono(r:cW k A)(h:j<=k):cW j A:=⟨r.hd,by have:=r.dp;omega,by have:=r.un;omega,r.gd⟩
def cW.deeper(r:cW (k+1) A)(a:Env):cW k (A.deeper a):=
 ⟨r.hd,by have:=r.dp;show A.depth+1+3*k+5<_;omega,by have:=r.un;show A.units+3+16*k+200<_;omega,r.gd⟩
def ZbU{A:d6}:(A.under (.builtin "type.__call__" ⟨.ref C::us,kw⟩)).depth=A.depth+1:=by
 rfl
def ZbV{A:d6}:(A.under (.builtin "type.__call__" ⟨.ref C::us,kw⟩)).units=A.units+1:=by
 rfl
def cW.make(r:cW (k+1) A)(C:U)(a:O aY)(b:O (ar×aY)):cW k (A.under (.builtin "type.__call__" ⟨.ref C::a,b⟩)):=
 ⟨r.hd,by have:=r.dp;rw[ZbU];omega,by have:=r.un;rw[ZbV];omega,by first|exact r.gd|simpa[Around.under,Code.isGuard,Code.isFrame,guardIds] using r.gd⟩
def cW.depth(r:cW k A):A.depth<recursionLimit:=by have:=r.dp;omega
def cW.units(r:cW k A):A.units+64<cLine:=by have:=r.un;omega
def cW.qm(r:cW k A):A.units<cLine:=by have:=r.un;omega
def jr:TA:=λ_ H Q=>Q [] H
def ib(d:TE)(c:TA):TA:=λa H Q=>d a H λx f=>c a f λb e=>Q (x::b) e
section
variable {X:Cx}{e:cP}{W:O cP}{T:TE}{t:TA}
def ae:PA X [] jr:=λ_ _ _ _ H Q I h=>qb ⟨[],H,I,.nil,h⟩
def aa(n:PE X e T)(m:PA X W t)(l:kz X e W:=by rfl):PA X (e::W) (ib T t):=by
 intro b a s c H Q I h;exact l▸m5 (aB (n a s c H _ I h) λu f ⟨x,r,p,i,k⟩=>aB (m b a f c r _ p k) λv w ⟨d,q,o,g,j⟩=>⟨x::d,q,o,.cons i g,j⟩)
def ZiU(t:TA):TE:=λc H Q=>t c H λa b=>a.length<=sizeLine/\∀p,b p=aE->Q (.ref p) (upd b p (.lst a))
def yW(h:PA X W t):PE X (.List W pos) (ZiU t):=by
 intro a s f H Q I j;refine El (aB (h pos a s f H _ I j) λi c e=>?_);obtain⟨g,k,d,r,z,q⟩:=e;refine⟨by rwa[←r.length],⟨.ref c.heap.objs.size,upd k c.heap.objs.size (.lst g),d.laid (λ b u=>Yb _) (Ye _) ?_,rfl,q _ (d.ay.fresh (Ye _))⟩⟩;exact⟨z,i,0,r,Yu _ rfl⟩
end
abbrev Sp:=O V->Hp->VK->XK->Prop
abbrev lD:=O Env->Hp->bR->XK->aY->bR->Prop
structure ux(P:de)(w:c5)(K:ai)(mg:aV)(base:cY)(A:d6)(outer:O Env)(s:bR)(H:Hp):Prop where
 frames:A.frames=Z outer
 mod:Mod K mg base
 bs:∀b o,base.get? b=Z o->s.heap.get? b=Z o/\H b=aE
 nO:base.objs.size<=s.heap.objs.size
 kj:s.heap.FunFrames base outer
 qI:∀b∈cX outer,H b=aE
 ay:dq P w H s.heap
 bare:AllBare s.gens
def CE(a:O Env)(P:de)(w:c5)(H:Hp)(s:bR)(Q:VK)(u:aY)(b:bR):Prop:=
 ∃v c,b.os=s.os/\AllBare b.gens/\Un (cX a) [] H c s.heap b.heap/\dq P w c b.heap/\RelV v u/\Q v c
def CR(c:lD)(a:O Env)(P:de)(w:c5)(H:Hp)(s:bR)(Q:VK)(E:XK)(r:Result)(b:bR):Prop:=
 match r with
 |.ok (.ret u)=>CE a P w H s Q u b
 |.ok _=>False
 |.error e=>c a H s E e b
structure aF(P:de)(w:c5)(K:ai)(mg:aV)(base:cY)(CX:lD)(k:Nat)(f:U)(fd:FuncData)(ps:O ar)(sp:Sp):Prop where
 len:∀vs H Q E,sp vs H Q E->vs.length=ps.length
 run:∀(A:d6) (outer:O Env) (s:bR) (H:Hp) (args:Args) (us:O aY) (vs:O V) (Q:VK) (E:XK),cW k A->ux P w K mg base A outer s H->BindsTo s fd args (ps.zip us)->Vals vs us->sp vs H Q E->
  codeAny (model P w) A (.call (.ref f) args) (CR CX outer P w H s Q E) s
def ux.make{K:ai}(e:ux P w K b base A outer s H)(C:U)(a:O aY)(c:O (ar×aY)):
  ux P w K b base (A.under (.builtin "type.__call__" ⟨.ref C::a,c⟩)) outer s H:=⟨by first|exact e.frames|(simpa[Around.under,Code.envs,Code.isFrame,pushEnvs] using e.frames),e.mod,e.bs,e.nO,e.kj,e.qI,e.ay,e.bare⟩
def Inv.CH(I:Inv X pins σ H s):ux X.prog X.w X.K X.mg X.base X.A X.stack s H:=
 ⟨I.ok.frames,I.ok.mod,I.bs,Yy I.ok.nO I.sz,I.stack,I.BE,I.ay,I.bare⟩
def Inv.after(I:Inv X pins σ H s)(h:CE X.stack X.prog X.w H s Q u s'):EP X pins σ Q u s':=by
 obtain⟨v,e,os,a,un,c,r,q⟩:=h;obtain⟨i,g,d,t,f⟩:=s';obtain rfl:f=s.os:=os;exact⟨v,e,I.call un c a (λb z=>absurd z QS),r,q⟩
def Cq(c:Sp)(d:O V)(E:XK)(t:TA):TE:=λa H Q=>t a H λb e=>c (b++d) e Q E
def Cr(C:U)(m:ar)(f:Sp)(h:O V)(E:XK)(e:TE)(t:TA):TE:=λb H Q=>e b H λx c=>∃a g fs,x=.ref a/\c a=Z (.ins C g fs)/\fs.lookup m=aE/\
 t b c λd i=>f (x::(d++h)) i Q E
def Th(C:U)(e:Sp)(f:O V)(E:XK)(t:TA):TE:=λc H Q=>t c H λd b=>∀x a,b x=aE->b a=aE->a≠x->
 e (.ref x::(d++f)) (upd (upd b a (.own x)) x (.ins C a [])) (λv g=>v=.aA/\Q (.ref x) g) E
def Binds(K:ai)(d:FuncData)(b:O ar)(c:O aY):Prop:=
 ∀(s:bR) (a:O aY),K.In s.heap->(a++c).length=b.length->BindsTo s d ⟨a,[]⟩ (b.zip (a++c))
def Binds.all{K:ai}(h:∀a:O aY,a.length=b.length->bindArgs fd ⟨a,[]⟩=pure (b.zip a)):Binds K fd b []:=λs a _ c=>by
 rw[Wc] at c⊢;exact .of_eq (h a c)
def Passes(d:lD)(X:Cx)(E:XK):Prop:=∀(a:aW) (c:St) (H:Hp) (s:bR) (e:aY) (b:bR),Inv X a c H s->d X.stack H s E e b->X.xe e b
section
variable {X:Cx}{G:lD}{k:Nat}{f C:U}{J:FuncData}{ps:O ar}{L:Sp}{P:O V}{R:O aY}{E:XK}{x m:ar}{p W T:Pos}{e o:cP}{N:O cP}{D:TE}{t:TA}
theorem B8(F:aF X.prog X.w X.K X.mg X.base G k f J ps L)(g:cW k X.A)(l:Binds X.K J ps R)(j:Vals P R)(d:Passes G X E)
  (I:Inv X pins σ H s)(r:Vals vs us)(h:L (vs++P) H Q E):wpAny X.md X.A (call (.ref f) us) (EP X pins σ Q) X.xe s:=by
 have b:=r.append j;have i:(us++R).length=ps.length:=by exact b.length▸F.len _ _ _ _ h
 refine mu (lJ (F.run X.A X.stack s H ⟨us,[]⟩ (us++R) (vs++P) Q E g I.CH (l s us I.cG i) b h) λr c a=>?_);cases r with
 |error e=>exact d pins σ H s e c I a
 |ok n=>
  cases n with
  |ret u=>exact I.after a
  |next=>exact False.elim a
  |brk=>exact False.elim a
  |cont=>exact False.elim a
def Ze_(F:aF X.prog X.w X.K X.mg X.base G k f J ps L)(g:cW k X.A)(l:Gl X x)(i:X.mg x=Z (.ref f))(j:keepIn X.K (.ref f)=af)(v:Binds X.K J ps R)(u:Vals P R)(d:Passes G X E)
  (w:PA X (e::N) t)(y:(x==("__debug__":ar))=a7:=by decide)(n:kz X e N:=by rfl)(z:lC X W N:=by rfl):
  PE X (.Call (.Name x p) (e::N) [] W) (Cq L P E t):=by
 intro a s c H Q I h;exact pK (wy I l i (ri I.ok.mod.qH j (aB (w W a s c H _ I h) λB s1 ⟨A,H1,b,r,q⟩=>⟨b.cG,B8 F g v u d b r q⟩) n z) y)
def Zfa{B:Sem cm}(he:PE X o D)(c:ir X.K C)(i:Meth X.K C m f)(F:aF X.prog X.w X.K X.mg X.base G k f J ps L)(hr:cW k X.A)(hb:Binds X.K J ps R)(hd:Vals P R)(hx:Passes G X E)(ha:PA X (e::N) t)
  (dI:kz X e N:=by rfl)(cB:lC X W N:=by rfl)
  (ht:eval (.Call (.Attribute o m T) (e::N) [] W) X.env=(do
   let g←eval o X.env
   standAt T.atName
   let(f,first)←holding [g] (getMethod g m B)
   callWith W f first (backTo W (starEach (e::N) X.env)) (backToKw W (keywordEach [] X.env))):=by rfl):
  PE X (.Call (.Attribute o m T) (e::N) [] W) (Cr C m L P E D t):=by
 intro b s d H Q I h;refine q7 (aB (he b s d H _ I h) λu y v=>?_) ht;obtain⟨x,H1,n,z,a,dx,fs,ex,ea,l,q⟩:=v;subst ex;obtain rfl:u=Value.ref a:=z;refine GI n ea c i l ?_;refine ri I.ok.mod.qH i.kp (aB (ha W b y d H1 _ n q) λus s2 p=>?_) dI cB;obtain⟨w,H2,j,r,A⟩:=p;refine⟨j.cG,?_⟩;exact B8 (vs:=.ref a::w) F hr hb hd hx j (.cons rfl r) A
def ZdJ{v:Sem cm}(A:PE X o D)(c:ir X.K C)(i:Meth X.K C m f)(F:aF X.prog X.w X.K X.mg X.base G k f J ps L)(z:cW k X.A)(hb:Binds X.K J ps R)(B:Vals P R)(w:Passes G X E)
  (y:eval (.Call (.Attribute o m T) [] [] W) X.env=(do
   let g←eval o X.env
   standAt T.atName
   let(f,first)←holding [g] (getMethod g m v)
   callWith W f first (backTo W (starEach [] X.env)) (backToKw W (keywordEach [] X.env))):=by rfl):
  PE X (.Call (.Attribute o m T) [] [] W) (Cr C m L P E D jr):=by
 intro b s j H Q I h;refine q7 (aB (A b s j H _ I h) λu s1 n=>?_) y;obtain⟨x,H1,d,r,a,dx,fs,ex,ea,l,q⟩:=n;subst ex;obtain rfl:u=Value.ref a:=r;refine GI d ea c i l ?_;exact callWith_K0 d.cG i.kp (B8 (vs:=[.ref a]) F z hb B w d (.cons rfl .nil) q)
structure Mk(K:ai)(C f:U):Prop where
 makes:makesIn K C=af
 init:PySem.W.findIn K (.ref C) "__init__"=Z (Z (.ref f))
 fn:isFn K (.ref f)=af
 kp:keepIn K (.ref C)=af
theorem ZdK(a:Mk X.K C f)(F:aF X.prog X.w X.K X.mg X.base G k f J ps L)(y:cW (k+1) X.A)(B:Binds X.K J ps R)(A:Vals P R)
  (w:Passes G X E)(I:Inv X pins σ H s)(r:Vals g us)
  (h:∀x c,H x=aE->H c=aE->c≠x->L (.ref x::(g++P)) (upd (upd H c (.own x)) x (.ins C c [])) (λv H2=>v=.aA/\Q (.ref x) H2) E):
  wpAny X.md X.A (call (.ref C) us) (EP X pins σ Q) X.xe s:=by
 have j:=h (s.heap.objs.size+1) s.heap.objs.size (I.ay.fresh (Wk _)) (I.ay.fresh (Ye _)) (Y0 (Jk _));have d:=Inv.made (C:=C) I;have i:Vals (V.ref (s.heap.objs.size+1)::(g++P)) (Value.ref (s.heap.objs.size+1)::(us++R)):=.cons rfl (r.append A);have z:(Value.ref (s.heap.objs.size+1)::us++R).length=ps.length:=by
  have e:=i.length;rw[F.len _ _ _ _ j] at e;exact e.symm
 refine mu (ZdI I.cG a.makes a.init (beq_iff_eq.mp a.fn) (lJ (F.run _ X.stack _ _ ⟨Value.ref (s.heap.objs.size+1)::us,[]⟩ (Value.ref (s.heap.objs.size+1)::(us++R)) _ _ E (y.make C us [])
  (d.CH.make C us []) (B _ (Value.ref (s.heap.objs.size+1)::us) d.cG z) i j) λr l b=>?_))
 cases r with
 |error e=>exact w pins σ _ _ e l d b
 |ok fl=>
  cases fl with
  |ret u=>
   obtain⟨v,H',I3,n,ev,q⟩:=d.after b;subst ev;exact⟨n,⟨V.ref (s.heap.objs.size+1),H',I3,rfl,q⟩⟩
  |next=>exact False.elim b
  |brk=>exact False.elim b
  |cont=>exact False.elim b
def Zfb(a:Mk X.K C f)(F:aF X.prog X.w X.K X.mg X.base G k f J ps L)(i:cW (k+1) X.A)(l:Gl X x)(j:X.mg x=Z (.ref C))(v:Binds X.K J ps R)(u:Vals P R)(g:Passes G X E)
  (w:PA X (e::N) t)(y:(x==("__debug__":ar))=a7:=by decide)(n:kz X e N:=by rfl)(z:lC X W N:=by rfl):
  PE X (.Call (.Name x p) (e::N) [] W) (Th C L P E t):=by
 intro b s d H Q I h;exact pK (wy I l j (ri I.ok.mod.qH a.kp (aB (w W b s d H _ I h) λB s1 D=>by obtain⟨A,H1,c,r,q⟩:=D;exact⟨c.cG,ZdK a F i v u g c r q⟩) n z) y)
end
structure aP(N P:O ar)(sc:Scope):Prop where
 kind:sc.kind=.function
 co:sc.isCoroutine=a7
 gen:sc.isGenerator=a7
 nd:N.Nodup
 pre:N.take P.length=P
 par:∀x∈P,sc.names.lookup x=Z .local\/sc.names.lookup x=Z .cell
 ZgB:∀y∈sc.names,y.2≠.free
theorem Ow{a:ar->bS NameKind}{x:ar}:∀{binds:O (ar×aY)} {m:aV},(∀v,(x,v)∉binds)->bindL a binds m x=m x
 |[],_,_=>rfl
 |(n,v)::r,m,h=>by
  unfold bindL;rw[Ow λw b=>h w (Yx _ b)];split;·grind
  ·rfl
theorem Ox{a:ar->bS NameKind}{x:ar}:∀{binds:O (ar×aY)} {m:aV},(∀v,(x,v)∉binds)->bindC a binds m x=m x
 |[],_,_=>rfl
 |(n,v)::r,m,h=>by
  unfold bindC;rw[Ox λw b=>h w (Yx _ b)];split;·rfl
  ·grind
theorem Oy{a:ar->bS NameKind}{x:ar}{v:aY}:∀{P:O ar} {b:O aY} {i:Nat} {m:aV},P.Nodup->P[i]?=Z x->b[i]?=Z v->a x=Z .local->
  bindL a (P.zip b) m x=Z v
 |[],_,_,_,_,h,_,_=>by simp at h
 |_::_,[],_,_,_,_,h,_=>by simp at h
 |p::P,w::b,0,m,e,d,c,f=>by
  simp at d c;subst d;subst c;show bindL a ((p,w)::P.zip b) m p=_;unfold bindL;rw[Ow λv g=>(Yz.mp e).1 (VB g).1,bt f];simp
 |p::P,w::b,i+1,m,e,d,c,f=>by
  unfold bindL;exact Oy (Yz.mp e).2 (by simpa using d) (by simpa using c) f
theorem Oz{a:ar->bS NameKind}{x:ar}{v:aY}:∀{P:O ar} {b:O aY} {i:Nat} {m:aV},P.Nodup->P[i]?=Z x->b[i]?=Z v->a x≠Z .local->
  bindC a (P.zip b) m x=Z v
 |[],_,_,_,_,h,_,_=>by simp at h
 |_::_,[],_,_,_,_,h,_=>by simp at h
 |p::P,w::b,0,m,e,d,c,f=>by
  simp at d c;subst d;subst c;show bindC a ((p,w)::P.zip b) m p=_;unfold bindC;rw[Ox λv g=>(Yz.mp e).1 (VB g).1,bu f];simp
 |p::P,w::b,i+1,m,e,d,c,f=>by
  unfold bindC;exact Oz (Yz.mp e).2 (by simpa using d) (by simpa using c) f
def start(N:O ar)(a:O V):St:=a.map Z++List.replicate (N.length-a.length) aE
def kZ(g:lD)(P:de)(w:c5)(K:ai)(mg:aV)(base:cY)(N:O ar)(b:ar)(a:Scope)(f:U)(c:aY)(A:d6)(outer:O Env)(s:bR)(H:Hp)(E:XK):Cx where
 prog:=P
 w:=w
 K:=K
 mg:=mg
 base:=base
 A:=A.deeper (envOfC b a s.heap.objs.size f c)
 N:=N
 dh:=s
 mH:=H
 env:=envOfC b a s.heap.objs.size f c
 outer:=outer
 stack:=envOfC b a s.heap.objs.size f c::outer
 ex:=[]
 calm:=af
 fn:=λ_=>af
 pn:=[]
 xe:=λe h=>wpAny (model P w) (A.deeper (envOfC b a s.heap.objs.size f c)) (leaving (envOfC b a s.heap.objs.size f c) e) (λ_ d=>g outer H s E e d) (λi d=>g outer H s E i d) h
def Pc{a:Scope}(h:a.names.lookup x=Z .cell):∃c,(cellsFrom n a.names []).lookup x=Z c:=by
 exact Jd.mp (UM a.names n [] (.inl h))
theorem ZcT{K:ai}
  (d:aP N l scope)(Q:A.handled=aE)(g:ux P w K C base A outer s H)(L:m.length=l.length)(r:Vals m us)
  (x:InCallC s s.heap.objs.size (bindL (envOfC qual scope s.heap.objs.size f cd).kindOf (l.zip us) λ_=>aE) (cellsFrom (s.heap.objs.size+1) scope.names []) (bindC (envOfC qual scope s.heap.objs.size f cd).kindOf (l.zip us) λ_=>aE) s1):
  Inv (kZ T P w K C base N qual scope f cd A outer s H E) [] (start N m) H s1:=by
 have cB:l.length<=N.length:=by have:=dJ List.length d.pre;rw[Wa] at this;omega
 obtain⟨B,W,rfl,F⟩:=x.done;have t:∀b:U,b∉(kZ T P w K C base N qual scope f cd A outer s H E).ex:=λb z=>absurd (show b∈([]:O U) from z) QS;refine⟨⟨g.mod,d.kind,rfl,rfl,Ye _,λy z c B o=>?_,λy j=>?_,λy c _ h=>?_,λ_=>Q,Around.frames_deeper g.frames,.inr ⟨rfl,rfl⟩,λb z=>absurd z (t b),g.bs,g.nO,λb _ _=>t b,λb z=>absurd z (t b),g.kj,g.qI⟩,
  rfl,g.bare,Un.kept F,⟨_,x.toInCall.ns,λi y v B o X=>?_⟩,λy c h=>⟨_,x.cell y c h⟩,g.ay.fresh (Ye _),λy c h=>?_,λp n=>absurd (show p∈([]:aW) from n) QS,g.ay.kept F,?_⟩
 ·exact name_of_addr x.apart (pJ B) (pJ o)
 ·have j:=j;rcases j with j|j;·exact Pc j
  ·exact absurd rfl (d.ZgB _ (pJ j))
 ·exact Jn (x.above y c (pJ h))
 ·have G:i<m.length:=by
   unfold start at o
   grind
  have R:m[i]?=Z v:=by
   unfold start at o;rw[Wd (by simpa using G),Yf] at o;cases e:m[i]? with
   |none=>grind
   |some a=>grind
  obtain⟨u,D,J⟩:=r.get R;have n:l[i]?=Z y:=by
   rwa[←d.pre,z4 (iz G (my L))]
  have I:l.Nodup:=by exact d.pre▸d.nd.sublist (List.take_sublist _ _)
  refine⟨u,J,?_⟩;rcases d.par y (Yj n) with k|k;·exact .inl ⟨k,Oy I n D k⟩
  ·obtain⟨c,e⟩:=Pc k;refine .inr ⟨.inl k,c,e,?_⟩;have q:=x.cell y c e;rw[Oz I n D (by show scope.names.lookup y≠_;rw[k];decide)] at q;exact q
 ·exact g.ay.fresh (Jn (x.above y c (pJ h)))
 ·unfold start;show _=N.length
  grind
theorem Kh{T:lD}{P:de}{w:c5}{K:ai}{L:aV}{i:cY}{k:Nat}{f:U}{m g:ar}{h:Arguments}{j:O cb}{c:Scope}{dV kV F pm z ct oc:aY}{an od:bS U}
  {jv:c7 (bS aY)}{N G:O ar}{sp:Sp}(lk:K.lookup f=Z ⟨oc,od,.func (fnOf m g h j c dV kV F pm an z ct),jv⟩)(fX:codeIn K z g=af)(a:aP N G c)
  (C:∀l H Q E,sp l H Q E->l.length=G.length)
  (qw:∀(A:d6) (d:O Env) (s:bR) (H:Hp) (l:O V) (Q:VK) (E:XK),cW k (A.deeper (envOfC g c s.heap.objs.size f z))->sp l H Q E->
   ∃t,fW (kZ T P w K L i N g c f z A d s H E) j t/\t {nx:=λ_ p=>Q .aA p,rt:=Q} (start N l) H):
  aF P w K L i T (k+1) f (fnOf m g h j c dV kV F pm an z ct) G sp:=by
 refine⟨C,λA d s H args us l Q E hr D hb r mM=>?_⟩;have hl:=C _ _ _ _ mM;have KX:K.In s.heap:=D.mod.qH.keeps λb o e=>(D.bs b o e).1;have X:s.heap.NoLimit:=D.mod.nolimit.keeps λb o e=>(D.bs b o e).1;have Zh2:∀y∈G.zip us,c.names.lookup y.1=Z .local\/(c.names.lookup y.1=Z .cell/\((cellsFrom (s.heap.objs.size+1) c.names []).lookup y.1).isSome=af):=λ⟨n,v⟩ hy=>by
  rcases a.par n (VB hy).1 with q|q;·exact .inl q
  ·exact .inr ⟨q,UM _ _ _ (.inl q)⟩
 refine codeAny_call_function hr.depth (KX _ _ lk) rfl a.co a.gen rfl (PySem.W.codeRec_of KX fX) (hb _ _ _ _ ?_);refine wpAny_newFunctionEnv_cells a.kind Zh2 λenv he s1 x=>?_;subst he;refine⟨X.keeps x.toInCall.keep,codeAny_func ?_⟩;obtain⟨t,ht,hq⟩:=qw A d s H l Q E (hr.deeper _) mM;have I:Inv (kZ T P w K L i N g c f z A d s H E) [] (start N l) H s1:=ZcT a hr.hd D hl r x;refine dy (ht [] s1 (start N l) H _ I hq) (λfl s' B=>?_) λe s' B=>B;have fin:∀{R:St} {p:Hp} {v:V} {u:aY},Inv (kZ T P w K L i N g c f z A d s H E) [] R p s'->RelV v u->Q v p->CE d P w H s Q u s':=
  λ{R p v u} J W q=>⟨v,p,J.os,J.bare,J.base,J.ay,W,q⟩
 cases fl with
 |ret u=>
  obtain⟨v,R,p,J,W,q⟩:=B;exact fin J W q
 |next=>
  obtain⟨R,p,J,q⟩:=B;exact fin (v:=V.aA) (u:=Value.none) J rfl q
 |brk=>
  obtain⟨_,_,_,q⟩:=B;exact False.elim q
 |cont=>
  obtain⟨_,_,_,q⟩:=B;exact False.elim q
section
variable {X:Cx}{x:ar}{p W:Pos}{e:cP}{R:O cP}{t:TA}{id T:String}{r:O V->Hp->VK->Prop}
def nQ(r:O V->Hp->VK->Prop)(t:TA):TE:=λa H Q=>t a H λb c=>r b c Q
def iN(o:dk X (.builtin id) r)(m:Gl X x)(l:X.mg x=aE)(j:bootBuiltins x=Z (.builtin id))(q:PA X (e::R) t)(k:x≠"__name__":=by decide)(u:(x==("__debug__":ar))=a7:=by decide)
  (n:kz X e R:=by rfl)(v:lC X W R:=by rfl):PE X (.Call (.Name x p) (e::R) [] W) (nQ r t):=by
 intro a s b H Q I h;refine pK (yT I m l j ?_ k u);exact zE (aB (q W a s b H _ I h) λd f ⟨c,y,w,g,i⟩=>o a f b y c d Q w g i) n v
def fL(o:dk X (.type T) r)(m:Gl X x)(l:X.mg x=aE)(j:bootBuiltins x=Z (.type T))(q:PA X (e::R) t)(k:x≠"__name__":=by decide)(u:(x==("__debug__":ar))=a7:=by decide)
  (n:kz X e R:=by rfl)(v:lC X W R:=by rfl):PE X (.Call (.Name x p) (e::R) [] W) (nQ r t):=by
 intro a s b H Q I h;refine pK (yT I m l j ?_ k u);exact zS (aB (q W a s b H _ I h) λd f ⟨c,y,w,g,i⟩=>o a f b y c d Q w g i) n v
end
end L2
namespace HT
open PySem PyProof.Rows
section
open PySem.SeqAt
open PySem.AutoSeq1 (wpAny_loadPart')
open PySem.MeetsSeq PySem.MeetsSeq2 PySem.MeetsSeq3
end
section
variable {X:de}{w:c5}{A:d6}{E:bg}{s:bR}
def Zfc{t b:U}{c a:O aY}{Q:bg}(u:IsTup s.heap t c.toArray)(x:IsTup s.heap b a.toArray)(k:c≠[])
  (z:a=[]->Q (.ref t) s)(y:a≠[]->Q (.ref s.heap.objs.size) {s with heap:=s.heap.push {cls:=.type "tuple",data:=.seq (c++a).toArray}})
  (v:c.length+a.length<=sizeLine):wpAny (model X w) A (binaryOp .Add (.ref t) (.ref b)) Q E s:=by
 obtain⟨⟨B,m,o,i⟩,g,l,n,hd⟩:=id u;obtain⟨⟨C,r,data2,q⟩,h,p,j,d⟩:=id x;simp only at l hd p d;subst l hd p d;have e:c.toArray++a.toArray=(c++a).toArray:=QS
 by_cases f:a=[]
 ·exact concat_meets ⟨_,g,rfl⟩ ⟨_,h,rfl⟩ MC seq_tuple_add UK Ak (zW _ _)
   (tuple_addW1 t b c.toArray a.toArray n j m r i q (by simpa using k) (by simp[f])) ⟨g,h,z f⟩
 ·refine concat_meets ⟨_,g,rfl⟩ ⟨_,h,rfl⟩ MC seq_tuple_add UK Ak (zW _ _)
   (tuple_addW2 t b c.toArray a.toArray n j m r i q (by simpa using k) (by simpa using f) (by rwa[Yr,Yr])) ⟨g,h,?_⟩
  exact e▸y f
def cj(n d:Nat):bS Int->Nat
 |none=>d
 |some v=>if v<0 then(v+(n:Int)).toNat else min v.toNat n
def Zfd(n d k:Nat):cj n d (Z (k:Int))=min k n:=by
 show(if(k:Int)<0 then((k:Int)+(n:Int)).toNat else min (k:Int).toNat n)=min k n;rfl
def Qs(v:Int)(n d:Nat):(if v<0 then max (v+(n:Int)) 0 else min v (n:Int))=((cj n d (Z v):Nat):Int):=by
 show(if v<0 then max (v+(n:Int)) 0 else min v (n:Int))=(((if v<0 then(v+(n:Int)).toNat else min v.toNat n):Nat):Int)
 grind
theorem ZbW(a b:bS Int)(n:Nat):Builtin.Slice.sliceAdjust a b 1 (n:Int)=(((cj n 0 a:Nat):Int),((cj n n b:Nat):Int)):=by
 have c:¬((1:Int)<0):=(by decide)
 unfold Builtin.Slice.sliceAdjust;refine Prod.ext ?_ ?_
 ·cases a with
  |none=>rfl
  |some v=>exact Qs v n 0
 ·cases b with
  |none=>rfl
  |some v=>exact Qs v n n
def ZbX(i j:Nat):Builtin.Slice.slicePlaces (i:Int) (j:Int) 1=j-i:=by
 unfold Builtin.Slice.slicePlaces
 grind
theorem NV(p:IsPart v o)(h:Q o s):wpAny (model X w) A (Builtin.Slice.slicePartIndex v) Q E s:=by
 cases p with
 |none=>exact slicePart_none h
 |int i t=>exact slicePart_int h
def Zs{g:U}{f e:aY}{a b:bS Int}{n:Nat}{Q:Int×Int×Nat->bR->Prop}(k:s.heap.IsSliceOf g f e .none)(j:IsPart f a)(i:IsPart e b)
  (h:Q (((cj n 0 a:Nat):Int),1,cj n n b-cj n 0 a) s):wpAny (model X w) A (Builtin.Slice.sliceApplied (.ref g) (pure (n:Int))) Q E s:=by
 obtain⟨os,c,l,d⟩:=id k;refine bh (bh (kS c d rfl (bh (kS c d rfl (bh (kS c d rfl (cy (bh (slicePart_none (bh (NV j (bh (NV i (bh (cy ?_)))))))))))))));show wpAny _ _ (match Builtin.Slice.sliceAdjust a b 1 (n:Int) with|(a,b)=>pure (a,(1:Int),Builtin.Slice.slicePlaces a b 1)) _ _ s;rw[ZbW a b n];show wpAny _ _ (pure (((cj n 0 a:Nat):Int),(1:Int),Builtin.Slice.slicePlaces ((cj n 0 a:Nat):Int) ((cj n n b:Nat):Int) 1)) _ _ s;rw[ZbX];exact cy h
def ZdL(a:c7 aY)(i k:Nat):((List.range k).filterMap λ(m:Nat)=>a[((i:Int)+(m:Int)*1).toNat]?).toArray=((a.toList.drop i).take k).toArray:=by
 have e:(λ(m:Nat)=>a[((i:Int)+(m:Int)*1).toNat]?)=λm=>a[i+m]?:=by
  grind
 rw[e];have:=pick_run a i k;rw[List.filterMap_map] at this;have b:((λx=>a[x]?)∘λx=>i+x)=λm=>a[i+m]?:=rfl
 grind
theorem Zj{t i:U}{a:c7 aY}{g f:aY}{b c:bS Int}{Q:bg}(d:IsTup s.heap t a)(j:s.heap.IsSliceOf i g f .none)(n:IsPart g b)(m:IsPart f c)
  (r:¬(cj a.size 0 b=0/\cj a.size a.size c=a.size))
  (h:Q (.ref s.heap.objs.size) {s with heap:=s.heap.push {cls:=.type "tuple",data:=.seq ((a.toList.drop (cj a.size 0 b)).take (cj a.size a.size c-cj a.size 0 b)).toArray}})
  (o:a.size<=sizeLine):wpAny (model X w) A (getItem (.ref t) (.ref i)) Q E s:=by
 have e:sizeOk (.seq ((a.toList.drop (cj a.size 0 b)).take (cj a.size a.size c-cj a.size 0 b)).toArray):=by
  show((a.toList.drop (cj a.size 0 b)).take (cj a.size a.size c-cj a.size 0 b)).toArray.size<=sizeLine
  grind
 obtain⟨os,l,p,q⟩:=id j;unfold getItem;try with_reducible refine hV ?_
 refine bh (KO d.typeIs QD ?_);refine bh (z_ d.typeIs zD
  (nh zD d.typeIs entry_tuple_getitem ?_ (args_tuple_getitem _ _)))
 show wpAny _ _ (Builtin.Tuple.tupleItemsOf (.ref t)>>=_) _ _ s;refine bh (tupleItemsOf_ d (bh (wpAny_typeOf ⟨os,l,p⟩ (bh (Zs j n m ?_)))));have k:¬((((cj a.size 0 b:Nat):Int)==0&&(1:Int)==1&&(cj a.size a.size c-cj a.size 0 b)==a.size)=af):=by
  grind
 show wpAny _ _ (if(((cj a.size 0 b:Nat):Int)==0&&(1:Int)==1&&(cj a.size a.size c-cj a.size 0 b)==a.size)=af then _ else _) _ _ s;rw[bu k,ZdL];first
  |exact bh (lr (cy ⟨_,rfl,cy h⟩) e)
  |exact bh (lr (bh (cy (cy ⟨_,rfl,cy h⟩))) e)
  |exact bh (bh (lr (cy (cy ⟨_,rfl,cy h⟩)) e))
  |exact bh (bh (lr (cy ⟨_,rfl,cy h⟩) e))
end
end HT
namespace L2
open PySem PySem.Spec PyProof.Rows
abbrev TO:=St->Hp->(bS Int->Hp->Prop)->Prop
def PO(X:Cx)(e:bS cP)(t:TO):Prop:=
 ∀(a:aW) (s:bR) (b:St) (H:Hp) (Q:bS Int->Hp->Prop),Inv X a b H s->t b H Q->
  wpAny X.md X.A (evalPart e X.env) (λu d=>∃o c,Inv X a b c d/\IsPart u o/\Q o c) X.xe s
def Zfe:TO:=λ_ H Q=>Q aE H
inductive Qt(Q:bS Int->Hp->Prop)(x:V)(a:Hp):Prop
 |mk (i) (c:x=.int i) (b:Q (Z i) a):Qt Q x a
def Zh3(t:TE):TO:=λa H Q=>t a H λx b=>Qt Q x b
theorem intsAre_of:∀{a:O aY},Vals (ns.map V.int) a->IntsAre a ns:=by
 induction ns with
 |nil=>intro a r;rw[xx] at r;cases r;exact .nil
 |cons n ns d=>
  intro a r;cases r with
  |cons c b=>
   obtain⟨t,e⟩:=c;subst e;exact .cons n t (d b)
section
variable {X:Cx}{R:TE}{lo W:bS cP}{N P:TO}
def yL:PO X aE Zfe:=by
 intro a s b H Q I h;exact cy ⟨aE,H,I,.none,h⟩
def yM(h:PE X e R):PO X (Z e) (Zh3 R):=by
 intro a s b H Q I g;refine aB (h a s b H _ I g) λu l c=>?_;obtain⟨x,k,j,d,f⟩:=c;obtain⟨i,rfl,q⟩:=f;obtain⟨t,rfl⟩:=d;exact⟨Z i,k,j,.int i t,q⟩
def sM(X:Cx)(r:V->bS Int->bS Int->Hp->VK->Prop):Prop:=
 ∀(a:aW) (s:bR) (b:St) (H:Hp) (x:V) (v d c:aY) (lo W:bS Int) (e:U) (Q:VK),Inv X a b H s->RelV x v->s.heap.IsSliceOf e d c .none->IsPart d lo->IsPart c W->r x lo W H Q->
  ∃T id,typeLookup (.type T) "__getitem__"=pure (Z (.builtin id))/\s.TypeIs v T/\wpAny X.md X.A (getItem v (.ref e)) (EP X a b Q) X.xe s
def tSl(r:V->bS Int->bS Int->Hp->VK->Prop)(R:TE)(N P:TO):TE:=λa H Q=>R a H λx d=>N a d λl c=>P a c λu b=>r x l u b Q
def yH(B:sM X r)(E:PE X e R)(C:PO X lo N)(z:PO X W P):PE X (.Subscript e (.Slice lo W aE p2) pos) (tSl r R N P):=by
 intro a s c H Q I h;refine Subscript_ (aB (E a s c H _ I h) λv m d=>?_);obtain⟨x,H1,I1,n,t⟩:=d;refine wpAny_Slice (aB (C a m c H1 _ I1 t) λi k d=>?_);obtain⟨l,H2,L,y,p⟩:=d;refine aB (z a k c H2 _ L p) λg f d=>?_;obtain⟨u,j,J,w,o⟩:=d;rw[evalPart_none];refine cy ?_;have G:Inv X a c j {f with heap:=f.heap.push {cls:=.type "slice",data:=.fields #[i,g,.none]}}:=J.kept λb ob q=>Yb _ q;obtain⟨T,id,F,A,D⟩:=B a {f with heap:=f.heap.push {cls:=.type "slice",data:=.fields #[i,g,.none]}} c j x v i g l u f.heap.objs.size Q G n (Heap.IsSliceOf.new ..) y w o;exact tail_any A F D QU
def k9(a:O V)(lo W:bS Int):O V:=(a.drop (HT.cj a.length 0 lo)).take (HT.cj a.length a.length W-HT.cj a.length 0 lo)
def F8(a:O V)(lo W:bS Int):(k9 a lo W).length<=a.length:=by
 unfold k9
 grind
def Uu(K:ai):V->bS Int->bS Int->Hp->VK->Prop:=λx lo W H Q=>∃a b,x=.ref a/\az K H a b/\
 ¬(HT.cj b.length 0 lo=0/\HT.cj b.length b.length W=b.length)/\∀p,H p=aE->Q (.ref p) (upd H p (.tup (k9 b lo W)))
def ZgC:sM X (Uu X.K):=by
 rintro e s n H x v p o lo W t Q I g l i h ⟨a,d,rfl,k,w,q⟩;cases g;obtain⟨m,r,f,j⟩:=I.tuple k;have c:m.toArray.size=d.length:=by exact Yr▸r.length.symm
 refine⟨"tuple",_,PyProof.Rows.slot_tuple_getitem.lookup,f.typeIs,HT.Zj f l i h (by rwa[c]) ?_ (by rwa[c])⟩;rw[c];refine⟨.ref s.heap.objs.size,_,I.laid (λ b u=>Yb _) (Ye _) ?_,rfl,q _ (I.ay.fresh (Ye _))⟩;exact⟨Yy (F8 d lo W) j,_,(r.drop (HT.cj d.length 0 lo)).take (HT.cj d.length d.length W-HT.cj d.length 0 lo),ng.new _ _⟩
def Zh4(K:ai):R2:=λx y H Q=>∃a b d c,x=.ref a/\y=.ref b/\az K H a d/\az K H b c/\d≠[]/\d.length+c.length<=sizeLine/\
 (c=[]->Q (.ref a) H)/\(c≠[]->∀p,H p=aE->Q (.ref p) (upd H p (.tup (d++c))))
theorem Vals.IA(r:Vals xs us):us=[]↔xs=[]:=by
 cases r with
 |nil=>simp
 |cons _ _=>simp
def Zff:cM X (binaryOp .Add) (Zh4 X.K):=by
 rintro e s o H x y v u Q I g f ⟨a,b,q,p,rfl,rfl,n,m,l,t,i,h⟩;cases g;cases f;obtain⟨B,d,k,_⟩:=I.tuple n;obtain⟨A,c,j,_⟩:=I.tuple m;refine HT.Zfc k j (λz=>l (d.IA.mp z)) (λz=>⟨.ref a,H,I,rfl,i (c.IA.mp z)⟩) (λz=>⟨.ref s.heap.objs.size,_,I.laid (λ b r=>Yb _) (Ye _) ?_,rfl,h (λw=>z (c.IA.mpr w)) _ (I.ay.fresh (Ye _))⟩) (by rwa[←d.length,←c.length]);exact⟨by rwa[Yd],_,d.append c,ng.new _ _⟩
end
def lF(n:Nat)(i:Int):bS Nat:=if 0<=i then(if i<n then Z i.toNat else aE) else if-(n:Int)<=i then Z (i+n).toNat else aE
def dO{α:Type}(a:O α)(i:Int):bS α:=(lF a.length i).bind λj=>a[j]?
def IB(h:lF n i=Z j):seqIndex? i n=Z j/\j<n/\-(n:Int)<=i/\i<n:=by
 unfold lF at h;by_cases b:0<=i
 ·rw[bt b] at h;by_cases a:i<n
  ·rw[bt a] at h;have e:=Yo h;exact⟨by rw[xN b a,e],QO,QO,a⟩
  ·grind
 ·rw[bu b] at h;by_cases a:-(n:Int)<=i
  ·rw[bt a] at h;have e:=Yo h;exact⟨by rw[wZ QO a,e],QO,a,QO⟩
  ·grind
theorem IC(h:dO xs i=Z v):∃j,seqIndex? i xs.length=Z j/\xs[j]?=Z v/\j<xs.length/\-(xs.length:Int)<=i/\i<xs.length:=by
 unfold dO at h;cases e:lF xs.length i with
 |none=>grind
 |some j=>
  obtain⟨d,c,b,a⟩:=IB e
  grind
def jb{j:Nat}(h:xs[j]?=Z v):dO xs (j:Int)=Z v:=by
 have e:lF xs.length (j:Int)=Z j:=by
  unfold lF
  grind
 unfold dO;rwa[e]
def Qu(b:cP):Prop:=∀o i,subscripted b a7 o i=operate [o,i] (getItem o i)
def jw(X:Cx)(r:R2):Prop:=
 ∀(c a:cP) (b:aW) (s:bR) (d:St) (H:Hp) (x y:V) (v u:aY) (Q:VK),Inv X b d H s->RelV x v->RelV y u->r x y H Q->
  subscripted a a7 v u=operate [v,u] (getItem v u)->wpAny X.md X.A (subscriptTail c a v u) (EP X b d Q) X.xe s
def VH(X:Cx)(id:String)(r:V->O V->Hp->VK->Prop):Prop:=
 ∀(a:aW) (s:bR) (b:St) (H:Hp) (x:V) (c:O V) (v:aY) (d:O aY) (Q:VK),Inv X a b H s->RelV x v->Vals c d->r x c H Q->
  wpAny X.md X.A (call (.builtin id) (v::d)) (EP X a b Q) X.xe s
section
variable {X:Cx}{a b:cP}
def jw.or(h:jw X r)(l:jw X k):jw X (λx y H Q=>r x y H Q\/k x y H Q):=by
 intro c d e s f H x y v u Q I i g q j;rcases q with q|q;·exact h c d e s f H x y v u Q I i g q j
 ·exact l c d e s f H x y v u Q I i g q j
def Ti(l:jw X r)(n:PE X a f)(m:PE X b e)(k:Qu b):PE X (.Subscript a b pos) (ju r f e):=by
 intro c s d H Q I h;exact Subscript_ (KG n m I h λv u g x y p o j i q=>l a b c g d p x y v u Q o j i q (k _ _))
inductive RZ(K:ai)(x:V)(y:V)(H:Hp)(Q:VK):Prop
 |mk (p c i v) (h:x=.ref p) (g:y=.int i) (e:aq K H p c) (f:dO c i=Z v) (d:Q v H):RZ K x y H Q
def uy(K:ai):R2:=λx y H Q=>RZ K x y H Q
inductive R0(K:ai)(x:V)(y:V)(H:Hp)(Q:VK):Prop
 |mk (p c i v) (h:x=.ref p) (g:y=.int i) (e:az K H p c) (f:dO c i=Z v) (d:Q v H):R0 K x y H Q
def CI(K:ai):R2:=λx y H Q=>R0 K x y H Q
inductive R1(x:V)(y:V)(H:Hp)(Q:VK):Prop
 |mk (z i c) (h:x=.str z) (g:y=.int i) (e:z.length<=sizeLine) (f:dO z.cps.toList i=Z c) (d:Q (.str ⟨#[c]⟩) H):R1 x y H Q
def Uv:R2:=λx y H Q=>R1 x y H Q
def ID:jw X (uy X.K):=by
 intro d e c s o H x y v u Q I B A h l;obtain⟨p,N,i,z,rfl,rfl,C,D,q⟩:=h;cases B;obtain⟨t,rfl⟩:=A;obtain⟨L,r,f,P⟩:=I.list C;obtain⟨j,k,G,W,F,E⟩:=IC D;obtain⟨w,n,J⟩:=r.get G;have T:=r.length;have R:=t8;have fin:EP X c o Q w s:=⟨z,H,I,J,q⟩;by_cases m:0<=i
 ·have g:i.toNat=j:=by
   rw[xN m E] at k;exact Yo k
  exact item_listR f.isList m QO (by rw[g];simpa using n) fin l
 ·have g:(i+(L.toArray.size:Int)).toNat=j:=by
   rw[wZ QO F] at k
   grind
  exact subscriptTail_builtinR (x:=w) f.isList.typeIs slot_list_getitem.lookup
   (wpAny_getItem_list_neg f.isList QO (by rw[Yr]<;>omega) QO (by rw[g];simpa using n) ⟨rfl,fin⟩) l
def R3:jw X (CI X.K):=by
 intro c d f s C H x y v u Q I k g h l;obtain⟨p,D,i,z,rfl,rfl,m,n,q⟩:=h;cases k;obtain⟨t,rfl⟩:=g;obtain⟨P,r,e,E⟩:=I.tuple m;obtain⟨j,N,o,L,J,G⟩:=IC n;obtain⟨w,B,A⟩:=r.get o;have F:=t8;exact subscriptTail_builtinR e.typeIs slot_tuple_getitem.lookup
  (getItem_tuple e QO QO (by rwa[Yr,←r.length]) (by simpa using B) ⟨rfl,⟨z,H,I,A,q⟩⟩) l
def yX:jw X Uv:=by
 intro d e f s A H x y v u Q I l k h m;obtain⟨z,i,c,rfl,rfl,C,o,q⟩:=h;obtain⟨t,rfl⟩:=l;obtain⟨B,rfl⟩:=k;obtain⟨j,g,w,E,r,p⟩:=IC o;have n:z.cps.toList.length=z.length:=by simp[Str.length]
 rw[n] at g r p;have D:=t8;exact tail_any (oq s z t) slot_str_getitem.lookup (getItem_str (by
  rw[(gb QO),(gb QO),wd]) (by rw[g];simpa using w) ⟨.str ⟨#[c]⟩,H,I.tok _,⟨_,rfl⟩,q⟩) m
def LA(K:ai):R2:=λx y H Q=>uy K x y H Q\/CI K x y H Q\/Uv x y H Q
def ZgD:jw X (LA X.K):=ID.or (R3.or yX)
def ZbY(c:O aY)(n j:Nat)(u:aY):Obj.mapSeq (·.setIfInBounds j u) {cls:=.type "list",data:=.seq c.toArray n}={cls:=.type "list",data:=.seq (c.set j u).toArray n}:=by
 simp[Obj.mapSeq]
def Inv.lst(I:Inv X pins σ H s)(h:H p=Z (.lst xs)):
  ∃(c:O aY) (n:Nat),Vals xs c/\s.heap.get? p=Z {cls:=.type "list",data:=.seq c.toArray n}/\xs.length<=sizeLine:=by
 obtain⟨z,c,n,r,e⟩:=I.ay p _ h
 grind
def Inv.ZgE{d:aW}{j:St}{H:Hp}{s:bR}{p:U}{m g:O V}{l c:O aY}{n i:Nat}{f:Obj->Obj}(I:Inv X d j H s)(h:H p=Z (.lst m))
  (v:s.heap.get? p=Z {cls:=.type "list",data:=.seq l.toArray n})(k:f {cls:=.type "list",data:=.seq l.toArray n}={cls:=.type "list",data:=.seq c.toArray i})(r:Vals g c)(o:g.length<=sizeLine)(t:Nat):
  Inv X d j (upd H p (.lst g)) {s with heap:=s.heap.update p f,toks:=t}:=by
 have e:(s.heap.update p f).get? p=Z {cls:=.type "list",data:=.seq c.toArray i}:=by
  rw[Wr f v (by rw[k]<;>rfl),k]
 refine I.write (by rw[h];trivial) (.inl rfl) (λb u w q=>(Y9 _ _ (iS w)).trans q) ⟨_,e⟩ ?_;exact⟨o,c,i,r,e⟩
def Zh5:V->V->V->Hp->(Hp->Prop)->Prop:=λo i v H Q=>∃p c k j,o=.ref p/\i=.int k/\H p=Z (.lst c)/\lF c.length k=Z j/\Q (upd H p (.lst (c.set j v)))
def set_list:uu X Zh5:=by
 rintro c s z H o i v G J u Q I C D B ⟨p,A,k,j,rfl,rfl,f,F,q⟩;cases C;obtain⟨t,rfl⟩:=D;obtain⟨x,n,r,d,E⟩:=I.lst f;obtain⟨m,N,l,h⟩:=IB F;have g:=r.length;have L:=t8;have y:Inv X c z (upd H p (.lst (A.set j v))) {s with heap:=s.heap.update p (Obj.mapSeq (·.setIfInBounds j u))}:=
  I.ZgE f d (ZbY x n j u) (r.set B j) (by rw[W6];exact E) s.toks
 by_cases w:0<=k
 ·have e:k.toNat=j:=by
   rw[xN w h] at m
   grind
  exact PySem.W.ki_setAt d w QO (by rw[Yr,←g];exact h) (by rw[e];exact⟨_,y,q⟩)
 ·have e:(k+(x.toArray.size:Int)).toNat=j:=by
   rw[wZ QO l] at m
   grind
  exact PySem.W.ki_setBack d QO (by rw[Yr,←g];exact l) QO (by exact e▸⟨_,y,q⟩)
theorem ZaB(c d:bS Int)(n:Nat):(sliceBounds c d aE n).1=((HT.cj n 0 c:Nat):Int)/\(sliceBounds c d aE n).2.1=((HT.cj n n d:Nat):Int)/\(sliceBounds c d aE n).2.2=1:=by
 refine⟨?_,?_,rfl⟩
 ·cases c with
  |none=>rfl
  |some i=>
   simp[sliceBounds,HT.cj]
   grind
 ·cases d with
  |none=>rfl
  |some i=>
   simp[sliceBounds,HT.cj]
   grind
def Z9(c:O aY)(d e:bS Int):slicePick c.toArray d e aE=((c.drop (HT.cj c.length 0 d)).take (HT.cj c.length c.length e-HT.cj c.length 0 d)).toArray:=by
 obtain⟨h,g,f⟩:=ZaB d e c.toArray.size;unfold slicePick;rw[h,g,f];simp only[sliceRange_one,pick_run]<;>rfl
def ZiV(K:ai):V->bS Int->bS Int->Hp->VK->Prop:=λx lo d H Q=>∃a c,x=.ref a/\aq K H a c/\∀p,H p=aE->Q (.ref p) (upd H p (.lst (k9 c lo d)))
def Zfg:sM X (ZiV X.K):=by
 rintro e s n H x v p o lo g t Q I h m j i ⟨a,c,rfl,l,q⟩;cases h;obtain⟨w,r,f,k⟩:=I.list l;have d:=r.length;refine⟨"list",_,slot_list_getitem.lookup,f.isList.typeIs,wpAny_getItem_list_slice f.isList m j i .none QS ?_ (by rw[Yr]<;>omega)⟩;rw[Z9,←d];refine⟨.ref s.heap.objs.size,_,I.laid (λ b u=>Yb _) (Ye _) ?_,rfl,q _ (I.ay.fresh (Ye _))⟩;exact⟨Yy (F8 c lo g) k,_,0,(r.drop (HT.cj c.length 0 lo)).take (HT.cj c.length c.length g-HT.cj c.length 0 lo),Yu _ rfl⟩
def jM:V->cm
 |.aA=>af
 |.bl _=>af
 |.int _=>af
 |.str _=>af
 |_=>a7
def jx:V->V->cm
 |.aA,.aA=>af
 |.bl a,.bl b=>a==b
 |.bl a,.int b=>(if a then 1 else 0)==b
 |.int a,.bl b=>a==(if b then 1 else 0)
 |.int a,.int b=>a==b
 |.str a,.str b=>a==b
 |_,_=>a7
theorem I0(e:RelV y u)(c:RelV x v)(g:jM y=af)(f:jM x=af):SeqAt.EqAt A s u v (jx y x):=by
 cases y with
 |aA=>
  cases e;cases x with
  |aA=>cases c;exact SF _
  |bl b=>cases c;exact SeqAt.EqAt.none_bool b
  |int b=>obtain⟨t,rfl⟩:=c;exact SeqAt.EqAt.none_int b t
  |str b=>obtain⟨t,rfl⟩:=c;exact SeqAt.EqAt.none_str b t
  |_=>exact absurd (f) Yh
 |bl a=>
  cases e;cases x with
  |aA=>cases c;exact SeqAt.EqAt.bool_none a
  |bl b=>cases c;exact SeqAt.EqAt.bool_bool a b
  |int b=>obtain⟨t,rfl⟩:=c;exact SeqAt.EqAt.bool_int a b t
  |str b=>obtain⟨t,rfl⟩:=c;exact SeqAt.EqAt.bool_str a b t
  |_=>exact absurd (f) Yh
 |int a=>
  obtain⟨d,rfl⟩:=e;cases x with
  |aA=>cases c;exact SeqAt.EqAt.int_none a d
  |bl b=>cases c;exact SeqAt.EqAt.int_bool a d b
  |int b=>obtain⟨t,rfl⟩:=c;exact pT a d b t
  |str b=>obtain⟨t,rfl⟩:=c;exact WB a d b t
  |_=>exact absurd (f) Yh
 |str a=>
  obtain⟨d,rfl⟩:=e;cases x with
  |aA=>cases c;exact SeqAt.EqAt.str_none a d
  |bl b=>cases c;exact SeqAt.EqAt.str_bool a d b
  |int b=>obtain⟨t,rfl⟩:=c;exact WA a d b t
  |str b=>obtain⟨t,rfl⟩:=c;exact SeqAt.EqAt.str_str a d b t
  |_=>exact absurd (f) Yh
 |_=>exact absurd (g) Yh
def iU(x:V)(u:aY):cm:=match u with
 |.none=>jx .aA x
 |.bool b=>jx (.bl b) x
 |.int i _=>jx (.int i) x
 |.str z _=>jx (.str z) x
 |_=>a7
theorem R4(r:RelV y u)(f:jM y=af):iU x u=jx y x:=by
 cases y with
 |aA=>cases r;rfl
 |bl b=>cases r;rfl
 |int i=>obtain⟨t,rfl⟩:=r;rfl
 |str z=>obtain⟨t,rfl⟩:=r;rfl
 |_=>exact absurd (f) Yh
theorem yN{x:V}:∀{c:O V} {d:O aY},Vals c d->c.all jM=af->d.any (iU x)=c.any λy=>jx y x
 |_,_,.nil,_=>rfl
 |y::c,u::d,.cons r t,f=>by
  rw[Ji,Wi] at f;rw[Ja,Ja,R4 r f.1,yN t f.2]
theorem yI(i:RelV x v)(k:jM x=af):∀{d:O V} {e:O aY},Vals d e->d.all jM=af->∀u∈e,SeqAt.EqAt A s u v (iU x u):=by
 intro d e h;induction h with
 |nil=>intro _ u c;cases c
 |cons r t j=>
  intro f g c;rw[Ji,Wi] at f;rcases Yp.mp c with rfl|c;·rw[R4 r f.1];exact I0 r i f.1 k
  ·exact j f.2 g c
def fY(x:V)(c:O V):cm:=c.any λy=>jx y x
def zX(K:ai)(d:cm):R2:=λx y H Q=>∃p c,y=.ref p/\(aq K H p c\/az K H p c)/\jM x=af/\c.all jM=af/\Q (.bl (if d then !fY x c else fY x c)) H
def ZcU:cM X (compareOp .In) (zX X.K a7):=by
 rintro h s l H x y v u Q I g j ⟨p,m,rfl,c,i,fs,q⟩;cases j;rcases c with c|c
 ·obtain⟨d,r,e,k⟩:=I.list c;refine SeqAt.in_listAt (iU x) e.isList (λw f=>yI g i r fs w (by simpa using f)) ⟨.bl _,H,I,rfl,?_⟩;rw[show d.toArray.any (iU x)=d.any (iU x) by simp,yN r fs];exact q
 ·obtain⟨d,r,e,k⟩:=I.tuple c;refine SeqAt.in_tupleAt (iU x) e (λw f=>yI g i r fs w (by simpa using f)) ⟨.bl _,H,I,rfl,?_⟩;rw[show d.toArray.any (iU x)=d.any (iU x) by simp,yN r fs];exact q
def ZaC:cM X (compareOp .NotIn) (zX X.K af):=by
 rintro h s l H x y v u Q I g j ⟨p,m,rfl,c,i,fs,q⟩;cases j;rcases c with c|c
 ·obtain⟨d,r,e,k⟩:=I.list c;refine JB (iU x) e.isList (λw f=>yI g i r fs w (by simpa using f)) ⟨.bl _,H,I,rfl,?_⟩;rw[show d.toArray.any (iU x)=d.any (iU x) by simp,yN r fs];exact q
 ·obtain⟨d,r,e,k⟩:=I.tuple c;refine SeqAt.notIn_tupleAt (iU x) e (λw f=>yI g i r fs w (by simpa using f)) ⟨.bl _,H,I,rfl,?_⟩;rw[show d.toArray.any (iU x)=d.any (iU x) by simp,yN r fs];exact q
def NB:dk X (.builtin "len") (λh H Q=>∃p d,h=[.ref p]/\(aq X.K H p d\/az X.K H p d)/\Q (.int d.length) H):=by
 rintro i s m H h n Q I r ⟨p,d,rfl,e,q⟩;obtain⟨u,rfl,j⟩:=vals1 r;cases j;have o:=t8;rcases e with e|e
 ·obtain⟨l,f,g,k⟩:=I.list e;have c:=f.length;exact Calls.call_len_list g.isList (by simp only[Yr]<;>omega) ⟨.int d.length,H,I.tok _,⟨s.toks+1,by rw[Yr,c]⟩,q⟩
 ·obtain⟨l,f,g,k⟩:=I.tuple e;have c:=f.length;exact len_tuple g (by simp only[Yr]<;>omega) ⟨.int d.length,H,I.tok _,⟨s.toks+1,by rw[Yr,c]⟩,q⟩
def ZaD:dk X (.builtin "len") (λc H Q=>∃z,c=[.str z]/\z.length<=sizeLine/\Q (.int z.length) H):=by
 rintro d s e H c f Q I r ⟨z,rfl,g,q⟩;obtain⟨u,rfl,t,rfl⟩:=vals1 r;have h:=t8;exact len_str QO ⟨.int z.length,H,I.tok _,⟨_,rfl⟩,q⟩
def vJ:dk X (.type "tuple") (λk H Q=>∃p c,k=[.ref p]/\((aq X.K H p c/\∀l,H l=aE->Q (.ref l) (upd H l (.tup c)))\/(az X.K H p c/\Q (.ref p) H))):=by
 rintro d s v H k z Q I r ⟨p,c,rfl,h⟩;obtain⟨u,rfl,w⟩:=vals1 r;cases w;rcases h with⟨g,q⟩|⟨g,q⟩
 ·obtain⟨j,e,f,m⟩:=I.list g;have n:=e.length;refine call_tuple_list f.isList (λi x=>?_) (by simp only[Yr]<;>omega);have t:=I.kept (t':=s.toks) x;have y:Inv X d v (upd H i.objs.size (.tup c)) {s with heap:=i.push {cls:=.type "tuple",data:=.seq j.toArray}}:=
   t.laid (λ b o=>Yb _) (Ye _) (show cT X.prog X.w _ _ _ (.tup c) from⟨m,j,e,ng.new _ _⟩)
  exact⟨.ref i.objs.size,_,y,rfl,q _ (t.ay.fresh (Ye _))⟩
 ·obtain⟨j,e,f,m⟩:=I.tuple g;exact call_tuple_same f ⟨.ref p,H,I,rfl,q⟩
def LB(K:ai)(T:String)(x:V)(H:Hp):Prop:=match x with
 |.str _=>T="str"
 |.int _=>T="int"
 |.ref p=>(T="list"/\∃e,aq K H p e)\/(T="tuple"/\∃o,K.lookup p=Z o/\o.cls=.type "tuple"/\o.dict=aE)\/
   (T="dict"/\((∃d,H p=Z (.dK d))\/∃d,H p=Z (.dT d)))\/(T="set"/\∃c n,H p=Z (.set c n))
 |_=>False
theorem R5(I:Inv X pins σ H s)(r:RelV x v)(h:LB X.K T x H):
  s.TypeIs v T/\∀a,v=.ref a->∃m,s.heap.get? a=Z m/\m.dict=aE:=by
 cases x with
 |str z=>
  obtain⟨t,rfl⟩:=r;cases(show T="str" from h);exact⟨oq s z t,λ_ e=>nomatch e⟩
 |int i=>
  obtain⟨t,rfl⟩:=r;cases(show T="int" from h);exact⟨typeIs_int s i t,λ_ e=>nomatch e⟩
 |ref p=>
  cases r;rcases h with⟨rfl,w,q⟩|⟨rfl,o,f,u,hd⟩|⟨rfl,f⟩|⟨rfl,d,n,f⟩
  ·obtain⟨y,_,l,_⟩:=I.list q;refine⟨l.isList.typeIs,λa e=>?_⟩;obtain⟨o,n,e,c,hd,_⟩:=l
   grind
  ·refine⟨⟨o,I.cG p o f,u⟩,λa e=>?_⟩;cases e;exact⟨o,I.cG _ o f,hd⟩
  ·have z:∃o,s.heap.get? p=Z o/\o.ExactDict:=by
    rcases f with⟨j,f⟩|⟨j,f⟩
    ·obtain⟨_,_,_,_,o,_,_,e,g,_⟩:=I.ay p _ f;exact⟨o,e,g⟩
    ·obtain⟨_,_,_,_,o,_,_,e,g,_⟩:=I.ay p _ f;exact⟨o,e,g⟩
   obtain⟨o,e,g⟩:=z;refine⟨⟨o,e,g.1⟩,λa k=>?_⟩;cases k;exact⟨o,e,g.2.1⟩
  ·obtain⟨o,_,_,_,e,g,_⟩:=I.ay p _ f;refine⟨⟨o,e,g.1⟩,λa k=>?_⟩;cases k;exact⟨o,e,g.2.1⟩
 |_=>exact False.elim h
def KL(K:ai)(T:String)(r:V->O V->Hp->VK->Prop)(N:TE):TE:=λd H Q=>N d H λx c=>LB K T x c/\r x [] c Q
def zY(K:ai)(T:String)(r:V->O V->Hp->VK->Prop)(N:TE)(t:TA):TE:=λc H Q=>N c H λx d=>LB K T x d/\t c d λe f=>r x e f Q
variable {o e:cP}{L:O cP}{N:TE}{t:TA}{W:ar}{R P:Pos}{T id:String}{r:V->O V->Hp->VK->Prop}
def I_(p:PlainAttrs T)(d:Slot T W id)(z:typeOf (.builtin id)=pure (.type "method_descriptor"))(u:VH X id r)(q:PE X o N)
  (l:attributeBase o W X.env (eval o X.env)=eval o X.env:=by rfl)(k:(R.endLine==P.line)=af:=by rfl):PE X (.Call (.Attribute o W R) [] [] P) (KL X.K T r N):=by
 intro c s f H Q I h;refine Ae l k (aB (q c s f H _ I h) λv m j=>?_);obtain⟨x,A,i,g,ty,n⟩:=j;obtain⟨y,w⟩:=R5 i g ty;exact⟨T,id,p,d,z,y,w,mh rfl (DK (u c m f A x [] v [] Q i g .nil n))⟩
def kh(B:PlainAttrs T)(d:Slot T W id)(LC:typeOf (.builtin id)=pure (.type "method_descriptor"))(E:VH X id r)(D:PE X o N)(F:PA X (e::L) t)
  (q:attributeBase o W X.env (eval o X.env)=eval o X.env:=by rfl)
  (KN:((backTo P (starEach (e::L) X.env)).all (λx=>!x.1)&&(backToKw P (keywordEach [] X.env)).all (λx=>x.1.isSome)
   &&decide ((e::L).length+([]:O Keyword).length+(if([]:O Keyword).isEmpty then 0 else 1)<30))=af:=by rfl)
  (p:(R.endLine==P.line)=af:=by rfl)(C:kz X e L:=by rfl)(g:lC X P L:=by rfl):
  PE X (.Call (.Attribute o W R) (e::L) [] P) (zY X.K T r N t):=by
 intro c s f H Q I h;refine AK q KN p rfl (aB (D c s f H _ I h) λv w l=>?_);obtain⟨x,H1,k,i,ty,A⟩:=l;obtain⟨J,G⟩:=R5 k i ty;refine⟨T,id,B,d,LC,J,G,?_⟩;have j:=F P c w f H1 _ k A;rw[C] at j⊢;exact mh (by show(a7||(backTo P (starEach L X.env)).any (·.1))=a7;rw[g]<;>rfl) (n7 (aB j λn u ⟨m,H2,I2,y,z⟩=>E c u f H2 x m v n Q I2 i y z))
end
def mN(X:Cx)(id:String)(r:V->O V->Hp->VK->Prop):Prop:=
 ∀(a:aW) (s:bR) (b:St) (H:Hp) (x:V) (c:O V) (v:aY) (d:O aY) (Q:VK),Inv X a b H s->RelV x v->Vals c d->r x c H Q->
  wpAny X.md X.A (call (.builtin id) (v::d)) (EP X a b Q) X.xe s
theorem Vals.one:∀{x:V} {a:O aY},Vals [x] a->∃u,a=[u]/\RelV x u:=by
 intro x a h;cases h with
 |cons r t=>
  cases t;exact⟨_,rfl,r⟩
theorem Vals.zero:∀{a:O aY},Vals [] a->a=[]
 |_,.nil=>rfl
theorem Vals.dropLast(h:Vals xs us):Vals xs.dropLast us.dropLast:=by
 induction h with
 |nil=>exact .nil
 |cons r t a=>
  cases t with
  |nil=>exact .nil
  |cons q b=>exact .cons r a
theorem Vals.eraseIdx:∀{a:O V} {b:O aY} (i:Nat),Vals a b->Vals (a.eraseIdx i) (b.eraseIdx i)
 |_,_,_,.nil=>.nil
 |_,_,0,.cons _ t=>t
 |_,_,i+1,.cons r t=>.cons r (Vals.eraseIdx i t)
section
variable {X:Cx}{W:aW}{σ:St}{H:Hp}{s:bR}{l:U}{xs T:O V}
def Inv.zx{b a:O aY}{n:Nat}{f:c7 aY->c7 aY}{c:Nat}(I:Inv X W σ H s)(k:H l=Z (.lst xs))
  (e:s.heap.get? l=Z {cls:=.type "list",data:=.seq b.toArray n})(i:f b.toArray=a.toArray)(g:Vals T a)(d:T.length<=sizeLine):
  Inv X W σ (upd H l (.lst T)) {s with heap:=s.heap.update l (Obj.mapSeq f),toks:=c}:=by
 have q:=PySem.IsL.update e f;rw[i] at q;refine I.write (by rw[k];exact trivial) (.inl rfl) (λm u j h=>(Y9 s.heap (Obj.mapSeq f) (iS j)).trans h) ⟨_,q⟩ ?_;exact⟨d,a,_,g,q⟩
def Inv.ZiW(I:Inv X W σ H s)(c:Vals T a)(b:T.length<=sizeLine):
  Inv X W σ (upd H s.heap.objs.size (.lst T)) {s with heap:=s.heap.push {cls:=.type "list",data:=.seq a.toArray},toks:=d}:=
 I.laid (λ _ _=>Yb _) (Ye _) ⟨b,a,0,c,Yu _ rfl⟩
def Inv.fresh(I:Inv X W σ H s):H s.heap.objs.size=aE:=I.ay.fresh (Ye _)
def Inv.su(I:Inv X W σ H s)(b:H l=Z (.lst xs)):xs.length<=sizeLine/\∃(a:O aY) (n:Nat),Vals xs a/\xs.length=a.length/\s.heap.get? l=Z {cls:=.type "list",data:=.seq a.toArray n}:=by
 obtain⟨z,a,n,r,e⟩:=I.ay l _ b;exact⟨z,a,n,r,r.length,e⟩
def ZdM(h:n<=sizeLine):Builtin.List.listTooLong n=a7:=by
 exact gb (VX h)
end
def Zfh:V->O V->Hp->VK->Prop:=λx b H Q=>∃l a y,x=.ref l/\b=[y]/\H l=Z (.lst a)/\a.length<sizeLine/\Q .aA (upd H l (.lst (a++[y])))
def yA:mN X "list.append" Zfh:=by
 intro a s i H x k v m Q I c d h;obtain⟨l,j,y,rfl,rfl,b,o,q⟩:=h;cases c;obtain⟨u,rfl,f⟩:=d.one;obtain⟨z,g,n,r,p,e⟩:=I.su b;refine oD F.slot_list_append ⟨_,e,rfl⟩ F.entry_list_append (F.args_list_append_2 _ _) (PySem.list_append l g.toArray n u (by rw[Yr];omega)) ⟨e,?_⟩;refine⟨.aA,_,I.zx b e QS (r.append (.cons f .nil)) ?_,rfl,q⟩
 grind
def Zfi:V->O V->Hp->VK->Prop:=λx d H Q=>∃l b c a,x=.ref l/\d=[.ref b]/\H l=Z (.lst c)/\H b=Z (.lst a)/\c.length+a.length<=sizeLine/\Q .aA (upd H l (.lst (c++a)))
def ZcV:mN X "list.extend" Zfi:=by
 rintro g s w H x D v E Q I i j ⟨l,b,B,y,rfl,rfl,h,p,G,q⟩;cases i;obtain⟨u,rfl,k⟩:=j.one;cases k;obtain⟨z,c,n,r,J,e⟩:=I.su h;obtain⟨A,d,o,m,C,t⟩:=I.su p;have a:c.toArray.size+d.toArray.size<=sizeLine:=by rw[Yr,Yr];omega
 have f:¬(!c.toArray.isEmpty&&Builtin.List.listTooLong (c.toArray.size+d.toArray.size))=af:=by
  rw[ZdM a,Bool.and_false]
  grind
 refine oD F.slot_list_extend ⟨_,e,rfl⟩ F.entry_list_extend (F.args_list_extend_2 _ _)
  (AutoSeq1.list_extend_list_list_0 l c.toArray n b d.toArray o f (by rw[Yr];exact x_ (yF a)) (kC a)) ⟨e,t,?_⟩
 refine⟨.aA,_,I.zx h e QS (r.append m) ?_,rfl,q⟩
 grind
def ZiX:V->O V->Hp->VK->Prop:=λx b H Q=>∃l a y,x=.ref l/\b=[]/\H l=Z (.lst a)/\a[a.length-1]?=Z y/\Q y (upd H l (.lst a.dropLast))
def ZgG:mN X "list.pop" ZiX:=by
 rintro c s k H x o v p Q I f g ⟨l,m,y,rfl,rfl,d,i,q⟩;cases f;have j:=g.zero;subst j;obtain⟨z,b,n,r,w,e⟩:=I.su d;obtain⟨u,t,h⟩:=r.get i;have a:b.toArray[b.toArray.size-1]?=Z u:=by
  grind
 refine oD rn ⟨_,e,rfl⟩ MY (F.args_list_pop_1 _) (MeetsSeq.list_pop_last l b.toArray n u a (by rw[Yr];omega)) ⟨e,?_⟩;refine⟨y,_,I.zx d e ?_ r.dropLast ?_,h,q⟩;·grind
 ·grind
def ZgH:V->O V->Hp->VK->Prop:=λx b H Q=>∃l a i k y,x=.ref l/\b=[.int i]/\H l=Z (.lst a)/\-(2^63)<=i/\i<2^63/\seqIndex? i a.length=Z k/\a[k]?=Z y/\Q y (upd H l (.lst (a.eraseIdx k)))
def ZdN:mN X "list.pop" ZgH:=by
 rintro a s A H x C v D Q I c d ⟨l,B,i,k,y,rfl,rfl,b,m,j,G,g,q⟩;cases c;obtain⟨u,rfl,f⟩:=d.one;obtain⟨t,rfl⟩:=f;obtain⟨z,p,n,r,h,e⟩:=I.su b;obtain⟨w,E,o⟩:=r.get g;refine oD rn ⟨_,e,rfl⟩ MY (F.args_list_pop_2 _ _)
  (MeetsSeq.list_pop_at l p.toArray n i t k w (fitsIndex_both m j) (by rwa[Yr,←h]) (by rwa[←Jo]) (by rw[Yr];omega)) ⟨e,?_⟩
 refine⟨y,_,I.zx b e ?_ (r.eraseIdx k) ?_,o,q⟩;·grind
 ·grind
def ZgI:V->O V->Hp->VK->Prop:=λx b H Q=>∃l a,x=.ref l/\b=[]/\H l=Z (.lst a)/\Q .aA (upd H l (.lst []))
def ZdO:mN X "list.clear" ZgI:=by
 rintro a s h H x j v k Q I c d ⟨l,i,rfl,rfl,b,q⟩;cases c;have g:=d.zero;subst g;obtain⟨z,f,n,r,m,e⟩:=I.su b;exact oD F.slot_list_clear ⟨_,e,rfl⟩ F.entry_list_clear (F.args_list_clear_1 _) (AutoSeq1.list_clear_list_0 l f.toArray n (by rw[Yr];omega)) ⟨e,⟨.aA,_,I.zx b e rfl .nil (Yw _),rfl,q⟩⟩
def ZiY:R2:=λx y H Q=>∃l b c a,x=.ref l/\y=.ref b/\H l=Z (.lst c)/\H b=Z (.lst a)/\c.length+a.length<=sizeLine/\∀p,H p=aE->Q (.ref p) (upd H p (.lst (c++a)))
def ZgJ:cM X (binaryOp .Add) ZiY:=by
 rintro a s p H x y v u Q I g f ⟨l,b,A,t,rfl,rfl,j,k,i,q⟩;cases g;cases f;obtain⟨z,d,n,r,D,e⟩:=I.su j;obtain⟨w,c,C,h,B,o⟩:=I.su k;refine PySem.P.add_list e o ?_ (by rw[Yr,Yr];omega);have m:d.toArray++c.toArray=(d++c).toArray:=QS
 exact m▸⟨.ref _,_,I.ZiW (r.append h) (by rw[Yd];exact i),rfl,q _ I.fresh⟩
section
set_option maxRecDepth 100000 in
end
end L2
namespace VJ
open PySem PySem.W PySem.Calls PyProof.Rows
theorem ZE:∀(ns:O Int) (c:O aY),WellAll P h c (ns.map WData.int)->IntsAre c ns:=by
 intro ns;induction ns with
 |nil=>
  intro c w;cases w;exact .nil
 |cons n ns d=>
  intro c w;cases w with
  |cons a b=>
   cases a;exact .cons _ _ (d _ b)
theorem ZcW{l:OpenLaw}(o:l.most=Z n)
  (g:l.row.toRowW.claim.pre args=af)(i:WellAll P h vals args):
  ∃a f b,vals=[Value.ref a]/\args=[WData.list (b.map WData.int)]/\h.get? a=Z {cls:=.type "list",data:=.seq f.toArray}/\IntsAre f b/\b.length<=n:=by
 obtain⟨d,r,rfl,s,q⟩:=hasAllW_cons ((pre_splitW g).1);obtain rfl:=hasAllW_nil q;obtain⟨u,rfl,p⟩:=hasW_list s;obtain⟨b,rfl⟩:=items_int p;have c:b.length<=n:=by
  have e:(WTm.not (.lt (.lit (.int (n:Int))) (.len (.arg 0)))).holds [] {args:=[.list (b.map .int)]}=af:=by
   have e:=(holds_andW ((pre_splitW g).2)).1;rw[o] at e;exact e
  have v:=condW_of e (w_not (w_lt w_lit (w_len_list (w_arg rfl))))
  grind
 cases i with
 |cons k j=>
  cases j;cases k with
  |list m t=>exact⟨_,_,b,rfl,rfl,m,ZE b _ t,c⟩
def ZcX(l:OpenLaw)(a:O WData):l.row.toRowW.claim.post a (.bool af) a=af:=
 postW_of
  (by first|rfl|decide|simp[WShape.has])
  (show(WTm.eq .res (.lit (.bool af))).value [] {args:=a,res:=Z (.bool af),after:=a}=Z (.bool (af==af)) from w_eq_bool (w_res rfl) w_lit) rfl
def Za_{l:OpenLaw}{n:Nat}{q:de}{c:O ar}{C:(ar->bS aY)->cY->Prop}{B:c5->cY->Prop}{d:DefRec}
  (L:l.most=Z n)(F:d.params.defaults=[])
  (m:∀(w:c5) (x e:bR) (t v:aV) (k:U) (o:Obj) (pm u h:aY) (a:U) (i:O aY) (s:O Int),
   Ground q c [] C w x t v e.heap->B w e.heap->
   e.heap.get? k=Z o->o.data=.func (docDef d.name d.params d.body d.scope pm u h)->e.heap.CodeRec u d.name->t d.name=Z (.ref k)->
   e.heap.get? a=Z {cls:=.type "list",data:=.seq i.toArray}->IntsAre i s->s.length<=n->e.gens=#[]->
   codeAny (model l.prog w) callerA (.call (.ref k) ⟨[.ref a],[]⟩) (λr p=>r=.ok (.ret (.bool af))/\OldK e.heap p.heap/\p.os=e.os/\AllBare p.gens) e):
  WalkO q c C B l.row.toRowW d [] (λf i=>PySem.call f i):=by
 intro w x e t v G b k o pm u h dV kV J hd X z E Q A y as CK Zk9 H D P;obtain rfl:dV=.none:=Dflts.none z F;obtain rfl:kV=.none:=Dflts.noKw z;obtain⟨a,i,s,rfl,rfl,KP,g,j⟩:=ZcW L CK D;refine enter_call (lJ (m w x e t v k o pm u h a i s G b J (fd_plain hd) X E KP g j Q) λr p I=>?_);obtain⟨rfl,W,T,R⟩:=I;exact⟨.inl ⟨.bool af,.bool af,[],rfl,λ_=>rfl,.bool af,ZcX l _,λ_=>⟨WD,λ_ N=>(nomatch N)⟩⟩,W,T,R⟩
end VJ
namespace L2
open PySem PySem.Spec PyProof.Rows
theorem Hm:∀{vs:O aY} {a:O Int},IntsAre vs a->Vals (a.map V.int) vs:=by
 intro vs a h;induction h with
 |nil=>exact .nil
 |cons n t h b=>exact .cons ⟨t,rfl⟩ b
def KQ(H:Hp):Prop:=∀b,H b=aE\/∃o a,H b=Z (.cL o (.lst a))
theorem ZdP{P:de}{w:c5}{K:ai}{t E:aV}{CX:lD}{k:Nat}{J a:U}{fd:FuncData}{x:ar}{T:Sp}{bN:bR}{j:O aY}{p:O Int}
  (KX:K.In bN.heap)(VL:bN.heap.Ns mainGlobals t)(c:bN.heap.Ns builtinsNs E)(I:∀x:ar,x≠"__name__"->E x=bootBuiltins x)(N:bN.heap.NoLimit)(hg:bN.gens=#[])
  (A:bN.heap.get? a=Z {cls:=.type "list",data:=.seq j.toArray})(hi:IntsAre j p)(hl:p.length<=sizeLine)(hr:cW k callerA)
  (F:∀g:cY,K.In g->g.Ns mainGlobals t->aF P w K t g CX k J fd [x] T)(R:∀(s:bR) (u:aY),BindsTo s fd ⟨[u],[]⟩ [(x,u)])
  (mM:∀H:Hp,KQ H->aq K H a (p.map V.int)->T [.ref a] H (λv _=>v=.bl af) λ_ _ _=>False)
  (LF:∀H e f,CX [] H bN (λ_ _ _=>False) e f->False):
  codeAny (model P w) callerA (.call (.ref J) ⟨[.ref a],[]⟩) (λr f=>r=.ok (.ret (.bool af))/\OldK bN.heap f.heap/\f.os=bN.os/\AllBare f.gens) bN:=by
 have W:=Hm hi;have Q:=hi.length
 --from an abstract heap in Zk2 nothing but X RN may be tracked
 have i:∀H:Hp,KQ H->aq K H a (p.map V.int)->dq P w H bN.heap->(∀b,H b≠aE->b=a)->(H a≠aE->K.lookup a=aE)->
   codeAny (model P w) callerA (.call (.ref J) ⟨[.ref a],[]⟩) (λr f=>r=.ok (.ret (.bool af))/\OldK bN.heap f.heap/\f.os=bN.os/\AllBare f.gens) bN:=by
  intro H hO hS ay hA hK;have Qv:∀{b:U} {o:Obj},bN.heap.get? b=Z o->H b=aE->(qC bN.heap H).get? b=Z o:=λe n=>ZdD e n;have lE:∀{b:U} {o:Obj} {B:c7 DictEntry} {C:Nat},bN.heap.get? b=Z o->o.data=.dict B C->H b=aE:=λ{b o B C} e d=>by
   cases q:H b with
   |none=>rfl
   |some u=>
    have L:b=a:=hA b (by rw[q];simp);subst L;rw[A] at e;cases e;have d':=d;cases d'
  have D:∀{b:U} {m:aV},bN.heap.Ns b m->(qC bN.heap H).Ns b m:=λ{b m} ⟨o,B,C,e,d,r⟩=>⟨o,B,C,Qv e (lE e d),d,r⟩;have VM:=λb o e=>Qv (KX b o e) (by
   cases q:H b with
   |none=>rfl
   |some u=>
    have L:=hA b (by rw[q];simp);subst L;rw[hK (by rw[q];simp)] at e;cases e)
  have hM:Mod K t (qC bN.heap H):=⟨VM,D VL,⟨E,D c,I⟩,let⟨mc,h1,h2⟩:=N;⟨mc,D h1,h2⟩⟩;have e0:ux P w K t (qC bN.heap H) callerA [] bN H:=⟨rfl,hM,λ b o=>Ze7,Lz (ZcO _ _),trivial,λb c=>absurd (show b∈([]:O U) from c) QS,ay,.of_eq hg⟩;refine lJ ((F _ VM (D VL)).run callerA [] bN H ⟨[.ref a],[]⟩ [.ref a] [.ref a] _ _ hr e0 (R bN (.ref a)) (.cons rfl .nil) (mM H hO hS)) λr f h=>?_;cases r with
  |error e=>exact(LF H e f h).elim
  |ok fl=>
   cases fl with
   |next=>exact False.elim h
   |brk=>exact False.elim h
   |cont=>exact False.elim h
   |ret u=>
    obtain⟨v,H',os,y,un,KR,r',q⟩:=h;have q':=q;subst q';obtain rfl:u=Value.bool af:=r';refine⟨rfl,OldK.of_keep λb o e=>?_,os,y⟩;cases q:H b with
    |none=>exact un.keep b o e q (by intro z;exact absurd (show b∈([]:O U) from z) QS) QS
    |some u=>
     rcases hO b with z|⟨ob,xs,z⟩;·rw[q] at z;cases z
     ·have z2:=un.iR b ob _ z;obtain⟨e1,_⟩:=ay b _ z;obtain⟨e2,_⟩:=KR b _ z2;rw[e] at e1;cases e1;exact e2
 cases G:K.lookup a with
 |some o=>
  --X RN is one of X ZkU own objects
  have e:=KX a o G;rw[A] at e;cases e;refine i (λ_=>aE) (λ_=>.inl rfl) (.inr ⟨_,j.toArray,_,G,rfl,rfl,rfl,by rwa[Yr,Q],by simpa using W⟩) (λb u z=>by have l:=z;cases l) (λ b=>absurd rfl) λz=>absurd rfl z
 |none=>
  refine i (λb=>if b=a then Z (.cL {cls:=.type "list",data:=.seq j.toArray} (.lst (p.map V.int))) else aE) (λb=>?_) (.inl (.inr ⟨{cls:=.type "list",data:=.seq j.toArray},bt rfl⟩)) (λb u z=>?_) (λb z=>?_) λ_=>G
  ·by_cases c:b=a;·exact .inr ⟨_,_,bt c⟩
   ·exact .inl (bu c)
  ·by_cases c:b=a
   ·have l:=(bt c).symm.trans z;cases l;subst c;exact⟨A,by rwa[Ya],j,_,W,A⟩
   ·have l:=(bu c).symm.trans z;cases l
  ·by_cases c:b=a;·exact c
   ·exact absurd (bu c) z
def Zfj{l:PySem.W.OpenLaw}{n k:Nat}{q:de}{i:O ar}{XP:(ar->bS aY)->cY->Prop}{B:c5->cY->Prop}{d:DefRec}{K:Params->ai}{D:c5->lD}{A:c5->Sp}{x:ar}
  (P:l.most=Z n)(L:n<=sizeLine)(I:d.params.defaults=[])(N:cW k callerA)
  (T:∀(w:c5) (h:cY),B w h->(K w.params).In h)
  (F:∀(w:c5) (m:aV) (r:U) (h:cY),(K w.params).In h->h.Ns mainGlobals m->m d.name=Z (.ref r)->
   ∃y:FuncData,(∀(s:bR) (u:aY),BindsTo s y ⟨[u],[]⟩ [(x,u)])/\
    ∀c:cY,(K w.params).In c->c.Ns mainGlobals m->aF l.prog w (K w.params) m c (D w) k r y [x] (A w))
  (J:∀(w:c5) (H:Hp) (a:U) (p:O Int),p.length<=n->KQ H->aq (K w.params) H a (p.map V.int)->A w [.ref a] H (λv _=>v=.bl af) λ_ _ _=>False)
  (LF:∀(w:c5) (H:Hp) (s:bR) (e:aY) (t:bR),D w [] H s (λ_ _ _=>False) e t->False):
  PySem.W.WalkO q i XP B l.row.toRowW d [] (λf z=>PySem.call f z):=by
 refine VJ.Za_ P I λw dh bN m mb r o pm cd X a z p G b ho hd fX E KP j g Q=>?_;have C:=T w _ b;obtain⟨y,R,W⟩:=F w m r _ C G.T.g E;exact ZdP C G.T.g G.T.b G.T.builtins G.T.nolimit Q KP j (Yy g L) N W R (λ H=>J w H a p g) λH e t=>LF w H bN e t
def inClass(s:cb)(j:Nat):cb:=match s with
 |.ClassDef _ _ _ body _ _ _ _ _ _ _=>body.getD j (.Pass ⟨0,0,0,0⟩)
 |_=>.Pass ⟨0,0,0,0⟩
def l_(s:cb):Arguments:=match s with
 |.FunctionDef _ a _ _ _ _ _ _ _ _=>a
 |_=>{posonlyargs:=[],args:=[],vararg:=aE,kwonlyargs:=[],kw_defaults:=[],kwarg:=aE,defaults:=[]}
def jd(s:cb):O cb:=match s with
 |.FunctionDef _ _ b _ _ _ _ _ _ _=>b
 |_=>[]
def aH(s:cb):Scope:=match s with
 |.FunctionDef _ _ _ _ _ _ sc _ _ _=>sc
 |_=>{kind:=.function,names:=[],isGenerator:=a7,isCoroutine:=a7}
abbrev aL:lD:=λ_ _ _ _ _ _=>False
abbrev E0:XK:=λ_ _ _=>False
def zg:Passes aL X E0:=λ_ _ _ _ _ _ _ h=>h.elim
structure aM(K:ai)(x qual:ar)(st:cb)(f:U)(fd:FuncData):Prop where
 ex:∃(oc:aY) (od:bS U) (kV doc pm:aY) (an:bS U) (bM ct:aY) (jv:c7 (bS aY)),
  fd=fnOf x qual (l_ st) (jd st) (aH st) .none kV doc pm an bM ct/\K.lookup f=Z ⟨oc,od,.func fd,jv⟩/\codeIn K bM qual=af
 kp:keepIn K (.ref f)=af
section
variable {P:de}{w:c5}{K:ai}{W:aV}{X:cY}
def aM.ok{x c:ar}{e:cb}{f:U}{l:FuncData}{N i:O ar}{k:Nat}{sp:Sp}(F:aM K x c e f l)(a:aP N i (aH e))(j:∀d H Q E,sp d H Q E->d.length=i.length)
  (m:∀(g:aY) (A:d6) (b:O Env) (s:bR) (H:Hp) (d:O V) (Q:VK) (E:XK),cW k (A.deeper (envOfC c (aH e) s.heap.objs.size f g))->sp d H Q E->
   ∃t,fW (kZ aL P w K W X N c (aH e) f g A b s H E).oX (jd e) t/\t {nx:=λ_ v=>Q .aA v,rt:=Q} (start N d) H):aF P w K W X aL (k+1) f l i sp:=by
 obtain⟨z,y,kV,u,pm,D,g,C,B,rfl,o,r⟩:=F.ex;refine Kh o r a j λA b s H d Q E p n=>?_;obtain⟨t,h,q⟩:=m g A b s H d Q E p n;exact⟨t,h.oX,q⟩
def aM.binds{b:cb}(F:aM K x qual b f fd)
  (h:∀(kV a pm:aY) (g:bS U) (e d:aY) (c:O aY),c.length=i.length->bindArgs (fnOf x qual (l_ b) (jd b) (aH b) .none kV a pm g e d) ⟨c,[]⟩=pure (i.zip c)):Binds K fd i []:=by
 obtain⟨k,j,kV,a,pm,g,e,d,m,rfl,l,n⟩:=F.ex;exact .all (h kV a pm g e d)
def yY{x a:ar}{st:cb}{f:U}{m:aY}{j i:bS U}{n:c7 (bS aY)}{g b e d h:aY}(l:K.lookup f=Z ⟨m,j,.func (fnOf x a (l_ st) (jd st) (aH st) .none g b e i d h),n⟩)
  (c:codeIn K d a=af)(k:keepIn K (.ref f)=af):aM K x a st f (fnOf x a (l_ st) (jd st) (aH st) .none g b e i d h):=⟨⟨m,j,g,b,e,i,d,h,n,rfl,l,c⟩,k⟩
end
def bI(a:cW k A):A.units+1<cLine:=Jb (V9 (by decide:1<=64) _) a.units
def kO(h:n<=1000):n<sizeLine:=Jb h QD
section
variable {X:Cx}
def pv(i:Nat){x:ar}{a:Pos}(d:X.N[i]?=Z x:=by rfl)(b:uL X.env.scope x:=by first|exact fb rfl|exact kv (fb rfl)|exact kv (kv rfl))(c:(x==("__debug__":ar))=a7:=by decide)
  (e:(x==("__classdict__":ar))=a7:=by decide):PE X (.Name x a) (fU i):=Zgt d b c e
end
def bQ{A B:Prop}(h:B):if a7=af then A else B:=by
 grind
def cS{A B:Prop}(h:A):if af=af then A else B:=by
 grind
def bF{c A B:Prop}[Decidable c](b:c->A)(a:¬c->B):if c then A else B:=by
 grind
def wM{c A B:Prop}[Decidable c](a:c)(h:B):if(!decide c)=af then A else B:=by
 grind
def ak(H a:Hp):Prop:=∀b o,H b=Z o->a b=Z o
def ak.refl(H:Hp):ak H H:=λ_ _ h=>h
def ak.trans{H d H2:Hp}(a:ak H d)(b:ak d H2):ak H H2:=λc o h=>b c o (a c o h)
theorem ak.free(e:ak H a)(h:a l=Option.none):H l=Option.none:=by
 cases q:H l with
 |none=>rfl
 |some o=>
  rw[e l o q] at h;cases h
def ak.seq{K:ai}(e:ak H b)(h:aq K H a xs):aq K b a xs:=by
 rcases h with(h|⟨o,h⟩)|h;·exact .inl (.inl (e _ _ h))
 ·exact .inl (.inr ⟨o,e _ _ h⟩)
 ·exact .inr h
def rS(a:O (ar×U)):O (ar×U)->Prop
 |[]=>True
 |p::r=>a.lookup p.1=Z p.2/\rS a r
theorem rS.look:∀{d:O (ar×U)},rS cells d->∀(x:ar) (c:U),d.lookup x=Z c->cells.lookup x=Z c
 |[],_,x,c,h=>by simp at h
 |(n,a)::r,b,x,c,h=>by
  rw[W4] at h;cases e:x==n with
  |true=>
   rw[e] at h;rw[(eq_of_beq e),←(Yo h)];exact b.1
  |false=>
   rw[e] at h;exact rS.look b.2 x c h
theorem FP{a:Env}:∀{b:O (ar×NameKind)} {x:ar} {k:NameKind},
  (b.map λ(n,k)=>if(k==NameKind.free&&a.scope.kind==.function&&a.kindOf n==Z .cell) then(n,NameKind.cell) else(n,k)).lookup x=Z k->
  ∃c,(x,c)∈b/\(k=c\/c=.free)
 |[],_,_,h=>by simp at h
 |(n,c)::r,x,k,h=>by
  have h:List.lookup x ((if(c==NameKind.free&&a.scope.kind==.function&&a.kindOf n==Z .cell)=af then(n,NameKind.cell) else(n,c))::(r.map λ(n,k)=>if(k==NameKind.free&&a.scope.kind==.function&&a.kindOf n==Z .cell) then(n,NameKind.cell) else(n,k)))=Z k:=h;by_cases d:(c==NameKind.free&&a.scope.kind==.function&&a.kindOf n==Z .cell)=af
  ·rw[bt d,W4] at h;cases e:x==n with
   |true=>grind
   |false=>
    rw[e] at h;obtain⟨f,m,q⟩:=FP h
    grind
  ·rw[bu d,W4] at h;cases e:x==n with
   |true=>grind
   |false=>
    rw[e] at h;obtain⟨f,m,q⟩:=FP h
    grind
structure R6(X:Cx)(scope:Scope)(cl:O (ar×U))(y:ar)(j:Nat):Prop where
 ix:X.N[j]?=Z y
 out:X.env.kindOf y=Z .cell\/X.env.kindOf y=Z .free
 uR:(relabel scope X.env).names.lookup y=Z .cell\/(relabel scope X.env).names.lookup y=Z .free
 cl:(cl.lookup y).isSome=af
def rT(X:Cx)(a:Scope)(b:O (ar×U)):O (ar×Nat)->Prop
 |[]=>True
 |p::r=>R6 X a b p.1 p.2/\rT X a b r
theorem rT.get:∀{b:O (ar×Nat)} {k:Nat} {p:ar×Nat},rT X scope cl b->b[k]?=Z p->R6 X scope cl p.1 p.2
 |[],k,p,_,h=>by simp at h
 |q::r,0,p,a,h=>by
  have e:q=p:=by simpa using h
  exact e▸a.1
 |q::r,k+1,p,a,h=>rT.get a.2 (by simpa using h)
structure yB(X:Cx)(scope:Scope)(cl:O (ar×U))(x:ar)(fr:O (ar×Nat)):Prop where
 wY:closureFor scope X.env=pure cl
 sub:rS X.env.cells cl
 kind:scope.kind=.function
 names:∀y∈scope.names,y.2=.local->scope.names.lookup y.1=Z .local
 lx:scope.names.lookup x=Z .local
 Ct:∀y∈scope.names,y.2≠.cell
 has:(scope.names.all λy=>!(y.2==.free)||(cl.lookup y.1).isSome)=af
 cX:rT X scope cl fr
 nd:(x::fr.map (·.1)).Nodup
def ic(a:St)(b:O (ar×Nat)):St:=b.map λp=>(a[p.2]?).join
structure rH(X:Cx)(scope:Scope)(cl:O (ar×U))(xs:O ar)(fr:O (ar×Nat)):Prop where
 wY:closureFor scope X.env=pure cl
 sub:rS X.env.cells cl
 kind:scope.kind=.function
 names:∀y∈scope.names,y.2=.local->scope.names.lookup y.1=Z .local
 Ct:∀y∈scope.names,y.2≠.cell
 has:(scope.names.all λy=>!(y.2==.free)||(cl.lookup y.1).isSome)=af
 cX:rT X scope cl fr
 nd:(xs++fr.map (·.1)).Nodup
def c8(X:Cx)(b:O ar)(c:O (ar×Nat))(a:Scope)(e:O (ar×U))(C:U)(s:bR)(H:Hp)(d:O U):Cx where
 prog:=X.prog
 w:=X.w
 K:=X.K
 mg:=X.mg
 base:=X.base
 A:=X.A
 N:=b++c.map (·.1)
 dh:=s
 mH:=H
 env:=compEnvC a e C X.env
 outer:=X.stack
 stack:=X.stack
 ex:=d
 fn:=λ_=>a7
 calm:=X.calm
 pn:=[]
 xe:=λ_ _=>False
theorem ZcY(a:rH X scope cl xs fr)(I:Inv X pins σ H s)(D:C=s.heap.objs.size)(t:∀b∈fp,jq X pins H b)(bT:∀b∈fp,b<s.heap.objs.size)
  (g:∀b o,s.heap.get? b=Z o->E.get? b=Z o)(W:E.Ns C m):Inv (c8 X xs fr scope cl C s H fp) [] (List.replicate xs.length aE++ic σ fr) H {s with heap:=E,toks:=tk}:=by
 have look:=a.sub.look;refine⟨⟨I.ok.mod,a.kind,I.ok.glob,I.ok.blt,by exact D▸Ye _,λy z c d f=>I.ok.inj y z c (look y c d) (look z c f),λy w=>?_,λy c h=>?_,I.ok.hd,I.ok.frames,.inl rfl,λb j=>⟨?_,λy c h=>?_⟩,
   I.bs,Yy I.ok.nO I.sz,λb o e j=>?_,λb j B=>?_,I.stack,I.BE⟩,
  rfl,I.bare,Un.kept g,⟨m,W,λi y v d f h3=>?_⟩,λy c h=>?_,?_,λy c h=>I.iP y c (look y c h),λp T=>absurd (show p∈([]:aW) from T) QS,I.ay.kept g,?_⟩
 ·have w:=w;have fin:∀{k:NameKind},(relabel scope X.env).names.lookup y=Z k->(k=.cell\/k=.free)->∃c,cl.lookup y=Z c:=λ{k} e hk=>by
   obtain⟨R,J,q⟩:=FP e;have A:R=.free:=by
    rcases q with q|q
    ·rcases hk with z|z;·exact absurd (q.symm.trans z) (a.Ct _ J)
     ·exact q.symm.trans z
    ·exact q
   have G:=Wp.mp a.has _ J;rw[A] at G;exact Jd.mp (by simpa using G)
  rcases w with e|e;·exact fin e (.inl rfl)
  ·exact fin e (.inr rfl)
 ·exact absurd (h) Yh
 ·exact λz=>absurd (bT b j) (by rw[z,D];exact Wb _)
 ·exact(t b j).2.2.2.2.1 y c (look y c h)
 ·obtain⟨_,_,_,z,_⟩:=t b j;rcases z with z|z;·exact I.ok.uo b o e z
  ·have d:=Yt e;have f:=I.ok.nO;exact absurd (Y2 d (Yy f z)) (Wb _)
 ·have z:=I.IY b B;rcases Yp.mp z with z|z;·exact(t b j).2.1 z
  ·exact(t b j).2.2.1 z
 ·by_cases L:i<xs.length;·grind
  ·have d:(xs++fr.map (·.1))[i]?=Z y:=d;rw[Ju (MD L)] at d;rw[Ju (by exact W3▸MD L),W3] at f;generalize i-xs.length=k at d f;have f:(fr.map λp=>(σ[p.2]?).join)[k]?=Z (Z v):=f;rw[Yf] at d f;cases e:fr[k]? with
   |none=>rw[e] at d;cases d
   |some p=>
    rw[e] at d f;have e1:p.1=y:=Yo d;have Q:(σ[p.2]?).join=Z v:=Yo f;have F:=a.cX.get e;rw[e1] at F;have e3:σ[p.2]?=Z (Z v):=by
     cases q:σ[p.2]? with
     |none=>rw[q] at Q;cases Q
     |some o=>grind
    obtain⟨m0,_,hl⟩:=I.loc;have Lx:uL X.env.scope y:=by
     rcases F.out with z|z;·exact .inr (.inl z)
     ·exact .inr (.inr z)
    obtain⟨u,r,l⟩:=hl p.2 y v F.ix e3 Lx;refine⟨u,r,.inr ⟨F.uR,?_⟩⟩;obtain⟨c,N⟩:=Jd.mp F.cl;refine⟨c,N,?_⟩;rcases l with⟨n,_⟩|⟨_,c',e',z⟩
    ·rcases F.out with q|q;·rw[q] at n;cases n
     ·rw[q] at n;cases n
    ·have P:=look y c N;rw[e'] at P;cases P;obtain⟨o,x,hd⟩:=z;exact⟨o,g _ _ x,hd⟩
 ·obtain⟨v,o,x,hd⟩:=I.cell y c (look y c h);exact⟨v,o,g _ _ x,hd⟩
 ·exact D▸I.ay.fresh (Ye _)
 ·show(List.replicate xs.length aE++ic σ fr).length=(xs++fr.map (·.1)).length;simp[ic]
abbrev wF(X:Cx)(x:ar)(b:O (ar×Nat))(a:Scope)(d:O (ar×U))(C:U)(s:bR)(H:Hp)(c:O U):Cx:=c8 X [x] b a d C s H c
theorem Y_(I:Nat->bR->Prop)
  (d:∀n s,I n s->wpAny (model prog w) A (pyNext it) (λr i=>match r with
   |none=>R (.ok .next) i
   |some v=>wpAny (model prog w) A (letOwnedTupleGo target it v) (λ_ q=>wpAny (model prog w) A (assign target env v) (λ_ p=>
     wpAny (model prog w) A (forIn ifs af λc r=>if r=af then do let ok←isTrue c env (eval c env);pure (ForInStep.yield ok) else pure (ForInStep.yield r)) (λok g=>
      if ok=af then wpAny (model prog w) A (eval elt env) (λx l=>
       wpAny (model prog w) A (call (.builtin "list.append") [acc,x]) (λ_ k=>∃m,m<n/\I m k) (notedBy (model prog w) A env λe a=>R (.error e) a) l) (notedBy (model prog w) A env λe a=>R (.error e) a) g
      else ∃m,m<n/\I m g) (notedBy (model prog w) A env λe a=>R (.error e) a) p) (notedBy (model prog w) A env λe a=>R (.error e) a) q) (notedBy (model prog w) A env λe a=>R (.error e) a) i) (notedBy (model prog w) A env λe a=>R (.error e) a) s)
  (n:Nat)(h:I n s):codeAny (model prog w) A (.compLoop (.ListComp elt [⟨target,iter,ifs,0⟩] scope pos) 0 it acc env) R s:=by
 refine xc rfl I (λn s z=>xA (bh (kI (bh (dy (d n s z) (λr i o=>?_) λ_ _ b=>b))))) n h;cases r with
 |none=>exact cy o
 |some v=>
  refine bh (dy o (λ_ q f=>bh (dy f (λ_ p y=>bh (dy y (λok g j=>?_) λ_ _ b=>b)) λ_ _ b=>b)) λ_ _ b=>b);cases ok with
  |false=>exact cy ⟨rfl,j⟩
  |true=>
   exact bh (bh (dy j (λx l t=>bh (dy t (λ_ k u=>cy (cy ⟨rfl,u⟩)) λ_ _ b=>b)) λ_ _ b=>b))
def uS(X:Cx)(d:O cP)(t:TT):Prop:=
 ∀(a:aW) (s:bR) (b:St) (H:Hp) (Q:cm->Hp->Prop),Inv X a b H s->t b H Q->
  wpAny X.md X.A (forIn d af λc r=>if r=af then do let ok←isTrue c X.env (eval c X.env);pure (ForInStep.yield ok) else pure (ForInStep.yield r)) (TP X a b Q) X.xe s
def CM:TT:=λ_ H Q=>Q af H
def mf:uS X [] CM:=λ_ _ _ H _ I h=>vl ⟨H,I,h⟩
def yO(h:PT X c t):uS X [c] t:=λa s b H Q I d=>wpAny_tests_one (h a s b H Q I d)
def JA(n:Nat)(J:It)(o:TG)(l:TT)(p:TE)(h:St)(D:U)(H:Hp)(Q:VK):Prop:=
 ∃W:Nat->Nat->O V->Hp->Prop,(∃m,W 0 m [] (upd H D (.lst [])))/\∀i m a H,W i m a H->
  (J.stop i H/\Q (.ref D) H)\/(J.go i H/\∃N:O V->Hp->Prop,(∀g b,N g b->∃e,e<m/\W (i+1) e g b)/\
   ∀v b,J.sI i H v b->∀os:St,os.length=n->o v (os++h) b λd q=>(∃f:St,f.length=n/\d=f++h)/\l d q λc k=>if c=af then p d k λy j=>j D=Z (.lst a)/\a.length<sizeLine/\N (a++[y]) (upd j D (.lst (a++[y]))) else N a k)
def Pd{h:Hp}{s2:bR}{L:U}{g:O U}{A:Nat->cY->Prop}{J:It}{Q:VK}{F:aY->U->Result->bR->Prop}{E:bg}{rest:O Comprehension}(a:rH X d cl xs fr)
  (I2:Inv X pins σ h s2)(T:Turn X.prog X.w X.K tgt J g L A)(c9:A 0 s2.heap)(l:∀b∈g,jq X pins h b)
  (hR:∀D C H H1 m,Inv X pins σ H1 H->H.heap.Ns C m->H1 C=aE->C≠X.env.locals->X.dh.heap.objs.size<=C->(∀y c,X.env.cells.lookup y=Z c->c≠C)->(∀p∈X.pn++pins,p.1≠C)->Q (.ref D) H1->F (.ref D) C (.ok .next) H)
  (hl:∀(D C:U) (s:bR) (x:Hp) (t:bR),h D=aE->x=upd h D (.lst [])->Inv (c8 X xs fr d cl C s x g) [] (List.replicate xs.length aE++ic σ fr) x t->A 0 t.heap->(∀b∈g,x b=aE)->
   (∀B Dp G,Inv (c8 X xs fr d cl C s x g) [] Dp G B->Q (.ref D) G->F (.ref D) C (.ok .next) B)->
   codeAny X.md X.A (.compLoop (.ListComp elt (⟨tgt,iter,ifs,0⟩::rest) d pos) 0 (.ref L) (.ref D) (compEnvC d cl C X.env)) (F (.ref D) C) t):
  wpAny X.md X.A (newList []) (λw t=>wpAny X.md X.A (newFunctionEnv d X.env.globals cl [] X.env.qual aE .none (Z X.env)) (λnK js=>
   codeAny X.md X.A (.compStart (.ListComp elt (⟨tgt,iter,ifs,0⟩::rest) d pos) 0 (.ref L) w {nK with scope:=relabel d X.env}) (F w nK.locals) js) E t) E s2:=by
 refine lr (wpAny_newFunctionEnv a.Ct (by intro y hy;simp at hy) (λij W R=>?_) a.kind);dsimp only at W R⊢;have j:Inv X pins σ (upd h s2.heap.objs.size (.lst [])) {s2 with heap:=s2.heap.push {cls:=.type "list",dict:=aE,data:=.seq ([]:O aY).toArray}}:=
  I2.laid (t':=s2.toks) (λb u e=>Yb _ e) (Ye _) ⟨Yw _,[],0,.nil,Yu _ rfl⟩
 have P:h s2.heap.objs.size=aE:=I2.ay.fresh (Ye _);have Uw:∀b∈g,b<s2.heap.objs.size:=λb f=>by
  obtain⟨o,e,_⟩:=T.obj _ _ c9 b f;exact Yt e
 generalize VN:s2.heap.push {cls:=.type "list",dict:=aE,data:=.seq ([]:O aY).toArray}=k at W R j⊢;have hC:k.objs.size=s2.heap.objs.size+1:=by rw[←VN,Jx]
 have r:∀b o,k.get? b=Z o->ij.get? b=Z o:=λb o e=>R.extBut b o (Y0 (Yt e)) (Yb _ e);have f3:∀b∈g,jq X pins (upd h s2.heap.objs.size (.lst [])) b:=λb f=>by
  have:=Uw b f;exact⟨by rw[aN (Y0 this)];exact(l b f).1,(l b f).2⟩
 have I:∀b∈g,b<k.objs.size:=λb f=>by
  rw[hC];exact Ws (Uw b f)
 have xF:A 0 ij:=T.keep _ _ _ c9 λb f o e=>r b o ((λb o e=>VN▸Yb _ e) b o e);have I4:Inv (c8 X xs fr d cl k.objs.size {s2 with heap:=k} (upd h s2.heap.objs.size (.lst [])) g) [] (List.replicate xs.length aE++ic σ fr) (upd h s2.heap.objs.size (.lst [])) {s2 with heap:=ij,toks:=s2.toks+([]:O (ar×aY)).length}:=
  ZcY a j rfl f3 I r W
 have i:=hl s2.heap.objs.size k.objs.size {s2 with heap:=k} _ {s2 with heap:=ij,toks:=s2.toks+([]:O (ar×aY)).length} P rfl I4 xF (λb f=>(f3 b f).1) λB Dp G n qn=>by
   obtain⟨m,N,_⟩:=n.loc;have I7:=j.Kd n.os n.base n.ay n.bare λb f=>⟨(l b f).2.2.2.1,(l b f).2.1,(l b f).2.2.2.2.1,(l b f).2.2.2.2.2⟩;refine hR _ _ B G m I7 N n.free ?_ ?_ (λy c e z=>?_) (λp hp z=>?_) qn;·exact Jg j.lt
   ·exact j.sz
   ·obtain⟨v,q⟩:=j.cell y c e;exact absurd q.lt (by exact z▸Wb _)
   ·exact absurd (Yt (j.pin p hp).1) (by exact z▸Wb _)
 exact codeAny_compStart_list i (T.self _ 0 _ _ _ xF i)
theorem NW{H2:Hp}{s2:bR}{it:U}{g:O U}{L:Nat->cY->Prop}{J:It}{Q:VK}{RR:aY->U->Result->bR->Prop}{E:bg}
  (hc:X.calm=af)(a:rH X f cl xs fr)(hg:∀C s H g,PG (c8 X xs fr f cl C s H g) B tg)
  (ht:∀C s H g,uS (c8 X xs fr f cl C s H g) ifs tt)(he:∀C s H g,PE (c8 X xs fr f cl C s H g) elt te)
  (I2:Inv X pins σ H2 s2)(T:Turn X.prog X.w X.K B J g it L)(c9:L 0 s2.heap)(f2:∀b∈g,jq X pins H2 b)
  (hw:∀D,H2 D=aE->JA xs.length J tg tt te (ic σ fr) D H2 Q)
  (hR:∀D C s1 H1 m,Inv X pins σ H1 s1->s1.heap.Ns C m->H1 C=aE->C≠X.env.locals->X.dh.heap.objs.size<=C->(∀y c,X.env.cells.lookup y=Z c->c≠C)->(∀p∈X.pn++pins,p.1≠C)->Q (.ref D) H1->RR (.ref D) C (.ok .next) s1):
  wpAny X.md X.A (newList []) (λG eM=>wpAny X.md X.A (newFunctionEnv f X.env.globals cl [] X.env.qual aE .none (Z X.env)) (λnK js=>
   codeAny X.md X.A (.compStart (.ListComp elt [⟨B,iter,ifs,0⟩] f pos) 0 (.ref it) G {nK with scope:=relabel f X.env}) (RR G nK.locals) js) E eM) E s2:=by
 refine Pd (rest:=[]) a I2 T c9 f2 hR λD C s t eM hD e3 I4 xF xC fin=>?_;obtain⟨W,⟨m0,w0⟩,A⟩:=hw D hD;rw[←e3] at w0;refine Y_ (λk s'=>∃i l H' os,os.length=xs.length/\Inv (c8 X xs fr f cl C s t g) [] (os++ic σ fr) H' s'/\L i s'.heap/\(∀b∈g,H' b=aE)/\W i k l H') ?_ m0
  ⟨0,[],_,List.replicate xs.length aE,W3,I4,xF,xC,w0⟩
 rintro n s5 ⟨i,l,H5,os,qO,I,qN,uP,w5⟩;have nI:∀{H':Hp},(∀b∈g,H' b=aE)->∀b∈g,jq (c8 X xs fr f cl C s t g) [] H' b:=λ{H'} hn b j=>
  ⟨hn b j,(I.ok.sH b j).1,I.ok.sh b j,.inl j,(I.ok.sH b j).2,λp hp=>absurd (show p∈([]:aW) from hp) QS⟩
 rcases A i n l H5 w5 with⟨F,qn⟩|⟨go,N,hN,step⟩
 ·refine aB (T.done (c8 X xs fr f cl C s t g) rfl rfl rfl hc i [] s5 _ H5 _ I (nI uP) qN F) λr s6 h=>?_;obtain⟨hr,I6⟩:=h;subst hr;exact fin _ _ _ I6 qn
 ·refine aB (T.item (c8 X xs fr f cl C s t g) rfl rfl rfl hc i [] s5 _ H5 _ I (nI uP) qN go) λr s6 h=>?_;obtain⟨u,hr,h6⟩:=h;subst hr;refine aB h6 λ_ s7 h=>?_;obtain⟨v,H7,I7,r7,y7,uT,LG⟩:=h;have LH:=I7.pinned (nI LG) (T.obj _ _ uT);refine dy (hg _ _ _ _ _ s7 _ H7 v u _ LH r7 (step v H7 y7 os qO)) (λ_ s8 h=>?_) λ _ _=>False.elim;obtain⟨σ8,H8,I8,⟨lG,KS,e8⟩,q8⟩:=h;subst e8;have again:∀{R:St} {q:Hp} {w:bR} {P:O V},R.length=xs.length->Inv (c8 X xs fr f cl C s t g) ([]++rZ g s7.heap) (R++ic σ fr) q w->N P q->
    ∃m,m<n/\∃i l H' os,os.length=xs.length/\Inv (c8 X xs fr f cl C s t g) [] (os++ic σ fr) H' w/\L i w.heap/\(∀b∈g,H' b=aE)/\W i m l H':=λ{R q w P} l1 x n9=>by
   obtain⟨m',hm,w9⟩:=hN P q n9;refine⟨m',hm,i+1,P,q,R,l1,x.wj,T.keep _ _ _ uT λb j o e=>(x.pin (b,o) (Ym _ (Ym _ (rG j e)))).1,λb j=>?_,w9⟩;obtain⟨o,e,d⟩:=T.obj _ _ uT b j;exact(x.pin (b,o) (Ym _ (Ym _ (rG j e)))).2.1
  refine dy (ht _ _ _ _ _ s8 _ H8 _ I8 q8) (λok w h=>?_) λ _ _=>False.elim;obtain⟨q,x,q9⟩:=h;cases ok with
  |false=>
   rw[bu Yh] at q9⊢;exact again KS x q9
  |true=>
   rw[bt rfl];rw[bt rfl] at q9;refine dy (he _ _ _ _ _ w _ q _ x q9) (λu1 LI h=>?_) λ _ _=>False.elim;obtain⟨y,qS,LJ,r10,hD,hz,qT⟩:=h;refine dy (yA (X:=c8 X xs fr f cl C s t g) _ LI _ qS (.ref D) [y] _ [u1] (λ_ H'=>N (l++[y]) H') LJ rfl (.cons r10 .nil) ⟨_,l,y,rfl,rfl,hD,hz,qT⟩) (λ_ LK h=>?_) λ_ _ z=>False.elim z;obtain⟨_,z6,Dw,_,q11⟩:=h;exact again KS Dw q11
def jN(J:It)(j:TT)(k:TE)(f:St)(D:U)(H:Hp)(Q:VK):Prop:=
 ∃W:Nat->Nat->O V->Hp->Prop,(∃m,W 0 m [] (upd H D (.lst [])))/\∀i m a H,W i m a H->
  (J.stop i H/\Q (.ref D) H)\/(J.go i H/\∃N:O V->Hp->Prop,(∀e b,N e b->∃d,d<m/\W (i+1) d e b)/\
   ∀v b,J.sI i H v b->j (Z v::f) b λc h=>if c=af then k (Z v::f) h λy g=>g D=Z (.lst a)/\a.length<sizeLine/\N (a++[y]) (upd g D (.lst (a++[y]))) else N a h)
section
variable {X:Cx}{G P:cP}{x:ar}{A F:Pos}{L:O cP}{R:Scope}{cl:O (ar×U)}{fr:O (ar×Nat)}{B:TT}{w:TE}{σ:St}
theorem OA{f:Hp}{s2:bR}{n:U}{d:O U}{k:Nat->cY->Prop}{J:It}{Q:VK}{r:aY->U->Result->bR->Prop}{E:bg}
  (hc:X.calm=af)(a:yB X R cl x fr)
  (ht:∀C s H d,uS (wF X x fr R cl C s H d) L B)(he:∀C s H d,PE (wF X x fr R cl C s H d) G w)
  (I2:Inv X pins σ f s2)(T:Turn X.prog X.w X.K (.Name x A) J d n k)(c9:k 0 s2.heap)(f2:∀b∈d,jq X pins f b)
  (I:∀D,f D=aE->jN J B w (ic σ fr) D f Q)
  (hR:∀D C g j m,Inv X pins σ j g->g.heap.Ns C m->j C=aE->C≠X.env.locals->X.dh.heap.objs.size<=C->(∀y c,X.env.cells.lookup y=Z c->c≠C)->(∀p∈X.pn++pins,p.1≠C)->Q (.ref D) j->r (.ref D) C (.ok .next) g):
  wpAny X.md X.A (newList []) (λe eM=>wpAny X.md X.A (newFunctionEnv R X.env.globals cl [] X.env.qual aE .none (Z X.env)) (λl u=>
   codeAny X.md X.A (.compStart (.ListComp G [⟨.Name x A,P,L,0⟩] R F) 0 (.ref n) e {l with scope:=relabel R X.env}) (r e l.locals) u) E eM) E s2:=by
 refine NW (xs:=[x]) hc ⟨a.wY,a.sub,a.kind,a.names,a.Ct,a.has,a.cX,a.nd⟩ (λC s H d=>rR (i:=0) a.nd rfl (.inl (CS a.lx)) (.inr (CS a.lx))) ht he I2 T c9 f2 (λD hD=>?_) hR;obtain⟨W,h0,h⟩:=I D hD;refine⟨W,h0,λi m t H p=>?_⟩;rcases h i m t H p with z|⟨z,N,hN,q⟩;·exact .inl z
 ·refine .inr ⟨z,N,hN,λv H' y os hl=>?_⟩;match os,hl with
  |[o],_=>exact⟨⟨[Z v],rfl,rfl⟩,q v H' y⟩
def Tj(b:TI)(fr:O (ar×Nat))(B:TT)(w:TE):TE:=λσ H Q=>b σ H λJ a=>∀D,a D=aE->jN J B w (ic σ fr) D a Q
def jK(o:X.calm=af)(a:yB X R cl x fr)(l:PI X (.Name x A) P c)
  (i:∀C s H fp,uS (wF X x fr R cl C s H fp) L B)(n:∀C s H fp,PE (wF X x fr R cl C s H fp) G w)
  (j:∀x,foldedSetIterable P X.env x=pure x:=by intro _;rfl):PE X (.ListComp G [⟨.Name x A,P,L,0⟩] R F) (Tj c fr B w):=by
 intro b s σ H Q I h;refine sY rfl j a.wY a.kind a.names (aB (l b s σ H _ I h) λv d r=>aB r λuO s2 p=>?_);obtain⟨it,fp,tn,J,H2,e,I2,T,W,z,g⟩:=p;subst e;refine OA o a i n I2 T W z g ?_;intro D C d H1 m I1 k N E y u t q;exact⟨m,k,λh' f=>⟨.ref D,H1,I1.turned (f.extBut) N E (.inr y) u t,rfl,q⟩⟩
def ZbZ(hc:X.calm=af)(hN:X.N.Nodup)(f:X.N[i]?=Z y)(r:Loc X.env.scope y)(b:yB X R cl x fr)(W:PI X (.Name x A) P l)
  (u:∀C s H fp,uS (wF X x fr R cl C s H fp) L B)(he:∀C s H fp,PE (wF X x fr R cl C s H fp) G w)
  (d:swapsWith (.ListComp G [⟨.Name x A,P,L,0⟩] R F) (Z (.Name y py)) j.line X.env=pure af:=by with_unfolding_all rfl)
  (hf:X.fn y=af\/X.env.scope.names.lookup y=Z .local:=by first|exact .inl rfl|exact .inr rfl|assumption)
  (E:∀x,foldedSetIterable P X.env x=pure x:=by intro _;rfl):PS X (.Assign [.Name y py] (.ListComp G [⟨.Name x A,P,L,0⟩] R F) j) (uv (Tj l fr B w) (qv i)):=by
 intro c s σ H D I h;rw[exec_Assign_Name_used _ _ _ _ d];refine bh (kI (bh ?_));show wpAny _ X.A (do let _←comprehension (.ListComp G [⟨.Name x A,P,L,0⟩] R F) R X.env _ (newList []) a7 (eval P X.env) (Z (assign (.Name y py) X.env))) _ _ s;refine bh (dy (sY rfl E b.wY b.kind b.names
  (aB (W c s σ H _ I h) λv o h1=>aB h1 λuO s2 h2=>?_)) (λ_ s' N=>cy (cy N)) λ_ _ e=>e)
 obtain⟨it,fp,tn,J,H2,e,I2,T,c9,f2,t⟩:=h2;subst e;refine OA hc b u he I2 T c9 f2 t ?_;intro Dl C o H1 m I1 Q f0 f1 f3 k f5 q;refine KZ (Ot I1 hN f r (v:=.ref Dl) rfl (λs3 I3 z=>?_) hf);obtain⟨a,n,ha⟩:=z;have g:C≠a:=by
  rcases ha with z|z;·rwa[z]
  ·exact λq=>k _ _ z q.symm
 refine⟨m,Q.sameBut n g,λh' p=>?_⟩;exact⟨_,H1,I3.turned (p.extBut) f0 f1 (.inr f3) k f5,q⟩
end
def Hn{K:ai}(d:Nat->O V->Hp->Prop)(s:d 0 [] (upd H D (.lst [])))(o:∀i b H,i<=xs.length->d i b H->aq K H a xs)
  (w:∀i v b H,xs[i]?=Z v->d i b H->tt (Z v::h) H λc k=>if c=af then l (Z v::h) k λy j=>j D=Z (.lst b)/\b.length<sizeLine/\d (i+1) (b++[y]) (upd j D (.lst (b++[y]))) else d (i+1) b k)
  (r:∀b H,d xs.length b H->Q (.ref D) H):jN (kA K a) tt l h D H Q:=by
 refine⟨λi m b H=>m=xs.length-i/\i<=xs.length/\d i b H,⟨xs.length,QS,Yw _,s⟩,?_⟩;rintro i m b H ⟨rfl,g,p⟩;have q:=o i b H g p;by_cases f:i<xs.length
 ·refine .inr ⟨⟨xs,xs[i],q,by simp[f]⟩,d (i+1),λu t n=>⟨xs.length-(i+1),QO,rfl,f,n⟩,λx t y=>?_⟩;obtain⟨e,y⟩:=y
  grind
 ·have e:i=xs.length:=(i1 g (eL f))
  subst e;exact .inl ⟨⟨xs,q,Ye _⟩,r b H p⟩
def Br{K:ai}(d:Nat->O V->Hp->Prop)(s:d 0 [] (upd H D (.lst [])))(o:∀i b H,i<=xs.length->d i b H->az K H a xs)
  (w:∀i v b H,xs[i]?=Z v->d i b H->tt (Z v::h) H λc k=>if c=af then l (Z v::h) k λy j=>j D=Z (.lst b)/\b.length<sizeLine/\d (i+1) (b++[y]) (upd j D (.lst (b++[y]))) else d (i+1) b k)
  (r:∀b H,d xs.length b H->Q (.ref D) H):jN (xB K a) tt l h D H Q:=by
 refine⟨λi m b H=>m=xs.length-i/\i<=xs.length/\d i b H,⟨xs.length,QS,Yw _,s⟩,?_⟩;rintro i m b H ⟨rfl,g,p⟩;have q:=o i b H g p;by_cases f:i<xs.length
 ·refine .inr ⟨⟨xs,xs[i],q,by simp[f]⟩,d (i+1),λu t n=>⟨xs.length-(i+1),QO,rfl,f,n⟩,λx t y=>?_⟩;obtain⟨e,y⟩:=y
  grind
 ·have e:i=xs.length:=(i1 g (eL f))
  subst e;exact .inl ⟨⟨xs,q,Ye _⟩,r b H p⟩
def yv{lo:Int}{n:Nat}{g:TT}{h:TE}{d:St}{D:U}{H:Hp}{Q:VK}(b:Nat->O V->Hp->Prop)(r:b 0 [] (upd H D (.lst [])))
  (u:∀i a H,i<n->b i a H->g (Z (.int (lo+i))::d) H λc k=>if c=af then h (Z (.int (lo+i))::d) k λy j=>j D=Z (.lst a)/\a.length<sizeLine/\b (i+1) (a++[y]) (upd j D (.lst (a++[y]))) else b (i+1) a k)
  (q:∀a H,b n a H->Q (.ref D) H):jN (qM lo n) g h d D H Q:=by
 refine⟨λi m a H=>m=n-i/\i<=n/\b i a H,⟨n,QS,Yw _,r⟩,?_⟩;rintro i m a H ⟨rfl,o,p⟩;by_cases f:i<n
 ·refine .inr ⟨f,b (i+1),λt s l=>⟨n-(i+1),QO,rfl,f,l⟩,λx s y=>?_⟩;obtain⟨e,y⟩:=y
  grind
 ·have e:i=n:=(i1 o (eL f))
  subst e;exact .inl ⟨Ye _,q a H p⟩
def Zi2(K:ai)(e:TE):TI:=λd H R=>e d H λx b=>∃a,x=.ref a/\((∃c,aq K b a c)/\R (kA K a) b\/(∃c,az K b a c)/\R (xB K a) b)
def ZgK(z:PE X l t):PI X B l (Zi2 X.K t):=by
 intro f s m H R I h;refine aB (z f s m H _ I h) λv d n=>?_;obtain⟨x,k,c,w,g⟩:=n;obtain⟨a,e,g⟩:=g;subst e;cases w;rcases g with⟨⟨r,i⟩,q⟩|⟨⟨r,i⟩,q⟩
 ·obtain⟨A,u,p,y⟩:=c.list i;refine s_ p.isList ⟨d.heap.objs.size,[d.heap.objs.size],_,_,k,rfl,c.kept λ b o=>Yb _,Ou a _,⟨_,Yu _ rfl,rfl,rfl⟩,λb j=>?_,q⟩;have e:b=d.heap.objs.size:=by simpa using j
  subst e;exact c.sr (Ye _) (c.ay.fresh (Ye _))
 ·obtain⟨A,u,p,y⟩:=c.tuple i;refine u9 (p) ⟨d.heap.objs.size,[d.heap.objs.size],_,_,k,rfl,c.kept λ b o=>Yb _,NS a _,⟨_,Yu _ rfl,rfl,rfl⟩,λb j=>?_,q⟩;have e:b=d.heap.objs.size:=by simpa using j
  subst e;exact c.sr (Ye _) (c.ay.fresh (Ye _))
theorem F9:∀{a:O V} {b:O aY},a.length=b.length->(∀(i:Nat) (x:V) (u:aY),a[i]?=Z x->b[i]?=Z u->RelV x u)->Vals a b
 |[],[],_,_=>.nil
 |[],_::_,h,_=>by simp at h
 |_::_,[],h,_=>by simp at h
 |x::a,u::b,h,k=>.cons (k 0 x u rfl rfl) (F9 (by simpa using h) λi y w d c=>k (i+1) y w (by simpa using d) (by simpa using c))
theorem NX:∀{bs:O cm} {a:O aY},Vals (bs.map V.bl) a->a=bs.map Value.bool:=by
 intro bs;induction bs with
 |nil=>intro a r;cases r;rfl
 |cons b bs c=>
  intro a r;rw[Wq] at r;cases r with
  |cons r t=>
   have d:=r;rw[d,c t];rfl
def bG(n:Nat):O Int:=(List.range n).map λi:Nat=>(i:Int)
def fK(n:Nat):(bG n).length=n:=by simp[bG]
def m9(h:i<n):(bG n)[i]?=Z (i:Int):=by
 unfold bG
 grind
def ZdQ(a:O cm):(List.range a.length).any (λi=>a.getD i a7)=a.any id:=by
 rw[Wm,Jy,Jy];constructor
 ·rintro⟨i,c,d⟩;rw[Wv] at c;have e:a.getD i a7=a[i]:=by rw[Yn,Yc c];rfl
  rw[e] at d;exact⟨a[i],Jz c,d⟩
 ·rintro⟨b,d,e⟩;obtain⟨i,c,rfl⟩:=Wx.mp d;refine⟨i,Wv.mpr c,?_⟩
  grind
def ZdR(c:O cm):(List.range c.length).all (λi=>c.getD i a7)=c.all id:=by
 rw[Wm,Wp,Wp];constructor
 ·intro h b d;obtain⟨i,a,rfl⟩:=Wx.mp d;simp_all
 ·intro h i a;rw[Wv] at a;rw[Yn,Yc a];exact h _ (Jz a)
def Zba:∀{a b:O Int},a.length=b.length->(List.range a.length).all (λj=>a.getD j 0==b.getD j 0)=decide (a=b):=by
 intro a b c;rw[Wm,Wp,eR];constructor
 ·intro h;refine List.ext_getElem c λi e d=>?_;simp_all
 ·grind
section
variable {X:Cx}
def Ux(K:ai):O V->Hp->VK->Prop:=λa H Q=>∃(p:U) (bs:O cm),a=[.ref p]/\aq K H p (bs.map V.bl)/\Q (.bl (bs.any id)) H
def Uy(K:ai):O V->Hp->VK->Prop:=λa H Q=>∃(p:U) (bs:O cm),a=[.ref p]/\aq K H p (bs.map V.bl)/\Q (.bl (bs.all id)) H
theorem ZS(l:X.calm=af):dk X (.builtin "any") (Ux X.K):=by
 rintro d s w H x y Q I r ⟨p,bs,rfl,j,q⟩;obtain⟨u,rfl,f⟩:=vals1 r;cases f;obtain⟨E,g,h,B⟩:=I.list j;have e:=NX g;subst e;have c:=h.isList;have t:p<s.heap.objs.size:=by obtain⟨_,e,_⟩:=c;exact Yt e
 refine call_any_walk (s_ c ⟨s.heap.objs.size,_,_,_,_,_,λi=>bs.getD i a7,rfl,Walks.list (show X.A.in1.handled=aE from I.ok.hd l) s.heap.objs.size p (Y0 t) (bs.map Value.bool).toArray,⟨⟨_,Yu _ rfl,rfl,rfl⟩,c.push _⟩,?_,λD z k=>?_⟩)
 ·intro i v A F G m C;have a:(bs.map Value.bool)[i]?=Z v:=by simpa using m
  rw[Yf] at a;cases e:bs[i]? with
  |none=>grind
  |some b=>
   rw[e] at a;have n:=Yo a;subst n;refine lp ?_
   grind
 ·refine⟨.bl (bs.any id),H,I.kept (λb o e=>k b o (by simpa using Y0 (Yt e)) (Yb _ e)),?_,q⟩;show Value.bool _=Value.bool _;have e:(bs.map Value.bool).toArray.size=bs.length:=QS
  rw[e,ZdQ]
theorem ZT(l:X.calm=af):dk X (.builtin "all") (Uy X.K):=by
 rintro d s w H x y Q I r ⟨p,bs,rfl,j,q⟩;obtain⟨u,rfl,f⟩:=vals1 r;cases f;obtain⟨E,g,h,B⟩:=I.list j;have e:=NX g;subst e;have c:=h.isList;have t:p<s.heap.objs.size:=by obtain⟨_,e,_⟩:=c;exact Yt e
 refine call_all_walk (s_ c ⟨s.heap.objs.size,_,_,_,_,_,λi=>bs.getD i a7,rfl,Walks.list (show X.A.in1.handled=aE from I.ok.hd l) s.heap.objs.size p (Y0 t) (bs.map Value.bool).toArray,⟨⟨_,Yu _ rfl,rfl,rfl⟩,c.push _⟩,?_,λD z k=>?_⟩)
 ·intro i v A F G m C;have a:(bs.map Value.bool)[i]?=Z v:=by simpa using m
  rw[Yf] at a;cases e:bs[i]? with
  |none=>grind
  |some b=>
   rw[e] at a;have n:=Yo a;subst n;refine lp ?_
   grind
 ·refine⟨.bl (bs.all id),H,I.kept (λb o e=>k b o (by simpa using Y0 (Yt e)) (Yb _ e)),?_,q⟩;show Value.bool _=Value.bool _;have e:(bs.map Value.bool).toArray.size=bs.length:=QS
  rw[e,ZdR]
inductive R7(K:ai)(a:O V)(H:Hp)(Q:VK):Prop
 |mk (x:V) (t:aY) (c:String) (b:cm) (g:a=[x,.ty c]) (f:jQ K H x t) (d:kitOne K t (.type c)=Z b) (e:Q (.bl b) H):R7 K a H Q
def CN(K:ai):O V->Hp->VK->Prop:=λa H Q=>R7 K a H Q
def Zbb:dk X (.builtin "isinstance") (CN X.K):=by
 rintro a s h H i k Q I r ⟨x,t,c,b,rfl,ty,e,q⟩;obtain⟨u,j,rfl,g,f⟩:=vals2 r;cases f;exact ZcS I g ty e λd=>⟨.bl b,H,I.tok d,rfl,q⟩
def NY(u:T="list"\/T="tuple")
  (p:s.heap.get? l=Z o)(t:o.cls=.type T)(r:o.data=.seq aj.toArray n)(v:IntsAre aj ns)(m:aj.length<64)(f:aj.toArray.size<=sizeLine)
  (h:∀(a g:cY) (out:c7 aY) (c:O Int) (e:Nat),(∀b o,s.heap.get? b=Z o->a.get? b=Z o)->(∀b o,a.get? b=Z o->g.get? b=Z o)->g.get? a.objs.size=Z (seqObj "list" out e)->IntsAre out.toList c->c.Perm ns->c.Pairwise (·<=·)->Q (.ref a.objs.size) {s with heap:=g}):
  wpAny (model prog w) A (call (.builtin "sorted") [.ref l]) Q E s:=by
 refine uX kind_sorted plain_sorted entry_sorted (args_sorted1 _) (bh (cy ?_));refine bh (KY l u p t r (λa k=>bh (t5 ?_)) f);have x:aj.toArray.toList=aj:=QS
 rw[x];have d:(a.push (seqObj "list" aj.toArray 0)).get? a.objs.size=Z (seqObj "list" aj.toArray 0):=Yu _ rfl;refine bh (hV (nh slot_list_sort ⟨_,d,rfl⟩ entry_list_sort (list_sort_tree d v m λout c B z y=>⟨_,rfl,?_⟩) (args_list_sort _)));obtain⟨e,q⟩:=sortedHeap_at d;exact cy ⟨_,rfl,h a _ out c e k (λb C j=>by
  have i:=Yt j;rw[sortedHeap_old (Y0 i) (by rw[size_push'];exact Ws i),Jq _ _ _ (Y0 i)];exact j) q B z y⟩
def IE(K:ai):O V->Hp->VK->Prop:=λc H Q=>∃(p:U) (a:O Int),c=[.ref p]/\(aq K H p (a.map V.int)\/az K H p (a.map V.int))/\a.length<64/\
  ∀(l:U) (b:O Int),H l=aE->b.Perm a->b.Pairwise (·<=·)->Q (.ref l) (upd H l (.lst (b.map V.int)))
def NG:dk X (.builtin "sorted") (IE X.K):=by
 rintro f s w H F G Q I r ⟨p,z,rfl,g,J,q⟩;obtain⟨u,rfl,y⟩:=vals1 r;cases y;have fin:∀(a h:cY) (out:c7 aY) (c:O Int) (e:Nat),(∀b o,s.heap.get? b=Z o->a.get? b=Z o)->(∀b o,a.get? b=Z o->h.get? b=Z o)->h.get? a.objs.size=Z (seqObj "list" out e)->IntsAre out.toList c->c.Perm z->c.Pairwise (·<=·)->
   EP X f w Q (.ref a.objs.size) {s with heap:=h}:=λa h out c e A x B E t D=>by
  have v:=I.kept (t':=s.toks) A;refine⟨.ref a.objs.size,_,v.laid (o:=.lst (c.map V.int)) x (Ye _) ⟨?_,out.toList,e,Hm E,by simpa[seqObj] using B⟩,rfl,q _ c (v.ay.fresh (Ye _)) t D⟩;rw[Ya,t.length_eq];exact Jn (kO (uQ (oV J (by decide))))
 rcases g with g|g
 ·obtain⟨C,d,i,j⟩:=I.list g;obtain⟨o,n,k,m,_,hd⟩:=i;have l:=d.length;rw[Ya] at l;rw[Ya] at j;exact NY (.inl rfl) k m hd (intsAre_of d) QO (by rw[Yr];omega) fin
 ·obtain⟨C,d,i,j⟩:=I.tuple g;obtain⟨o,k,m,n,hd⟩:=i;have l:=d.length;rw[Ya] at l;rw[Ya] at j;exact NY (.inr rfl) k m hd (intsAre_of d) QO (by rw[Yr];omega) fin
def Qw:O V->Hp->VK->Prop:=λa H Q=>∃j:Int,a=[.int j]/\∀p:U,H p=aE->Q (.ref p) (upd H p (.ku 0 j))
def Pf:O V->Hp->VK->Prop:=λa H Q=>∃(p:U) (n:Nat),a=[.ref p]/\H p=Z (.ku 0 (n:Int))/\n<=1000/\∀l:U,H l=aE->Q (.ref l) (upd H l (.lst ((bG n).map V.int)))
def zB(K:ai):O V->Hp->VK->Prop:=λb H Q=>∃(p:U) (a:O V),b=[.ref p]/\(aq K H p a\/az K H p a)/\Q (.int a.length) H
def Zb0:dk X (.builtin "len") (zB X.K):=NB
def A2:dk X (.type "range") Qw:=by
 rintro a s c H d f Q I r ⟨j,rfl,q⟩;obtain⟨u,rfl,t,rfl⟩:=vals1 r;exact call_range_1 ⟨.ref s.heap.objs.size,_,I.laid (o:=.ku 0 j) (λb o e=>Yb _ e) (Ye _) ⟨_,_,_,Yu _ rfl⟩,rfl,q _ (I.ay.fresh (Ye _))⟩
def Fq(w:X.calm=af):dk X (.type "list") Pf:=by
 rintro d s B H C D Q I r ⟨p,n,rfl,j,e,q⟩;obtain⟨u,rfl,h⟩:=vals1 r;cases h;obtain⟨t,u,v,k⟩:=I.ay p _ j;refine call_list_range (I.ok.hd w) k (xW (by decide) (by decide) QO QO) (n:=n) (by rw[vI];split<;>omega) (dW e (by decide)) λF E c A l a f=>⟨.ref s.heap.objs.size,_,I.laid (o:=.lst ((bG n).map V.int)) l (Ye _) ⟨?_,c.toList,A,?_,by simpa using a⟩,rfl,q _ (I.ay.fresh (Ye _))⟩
 ·rw[Ya,fK];exact Jn (kO e)
 ·refine F9 (by rw[Ya,fK];simp[f.1]) λi x u b z=>?_;obtain⟨g,rfl⟩:=f.2 i u (by simpa using z);have m:i<n:=by
   have:=(Yl.mp b).1;rw[Ya,fK] at this;exact this
  rw[Yf,m9 m] at b;have y:=Yo b;subst y;exact⟨g,by rw[show(0:Int)+(i:Int)*1=(i:Int) by omega]⟩
def Qx{a:O Int}(r:Vals (a.map V.int) b)(h:j<b.length):∃t,b[j]=.int (a.getD j 0) t:=by
 have c:=r.length;rw[Ya] at c;have d:j<a.length:=QO
 obtain⟨u,e,t,rfl⟩:=r.get (by rw[Yf,Yc d];rfl)
 grind
def UA(K:ai)(b:cm):R2:=λx y H Q=>∃(p q:U) (a c:O Int),x=.ref p/\y=.ref q/\aq K H p (a.map V.int)/\aq K H q (c.map V.int)/\Q (.bl (if b=af then !decide (a=c) else decide (a=c))) H
def R8(o:X.A.units<cLine):cM X (compareOp .Eq) (UA X.K a7):=by
 rintro i s G H x y v u Q I z w ⟨p,q,a,b,rfl,rfl,d,c,k⟩;cases z;cases w;obtain⟨F,h,m,L⟩:=I.list d;obtain⟨C,g,l,J⟩:=I.list c;have n:=h.length;have A:=g.length;rw[Ya] at n A;by_cases B:a.length=b.length
 ·refine Pw (e:=λj=>a.getD j 0==b.getD j 0) m.isList l.isList (by simp;omega) o (λj d c=>?_) (cO I k ?_)
  ·obtain⟨t,E⟩:=Qx h (by simpa using d);obtain⟨t',D⟩:=Qx g (by simpa using c);have r:F.toArray[j]=.int (a.getD j 0) t:=by simpa using E
   have f:C.toArray[j]=.int (b.getD j 0) t':=by simpa using D
   rw[r,f];exact pT _ _ _ _
  ·rw[bu Yh,Yr,←n,Zba B]
 ·refine Ag m.isList l.isList (by simp;omega) o (cO I k ?_)
  grind
def je(a:St->Hp->Prop)(e:∀c:St->Hp->Prop,(∀b H,a b H->c b H)->t {D with nx:=c} b H)(d:∀b H,a b H->u D b H):ur t u D b H:=e _ d
def mE(d:Gl X x)(c:X.mg x=aE)(a:bootBuiltins x=Z (.type T))(b:x≠"__name__":=by decide)(e:(x==("__debug__":ar))=a7:=by decide):PE X (.Name x pos) (tC (.ty T)):=Ze8 d c a rfl b e
end
def HasFn(P:de)(w:c5)(K:ai)(c:aV)(a:cY)(k:Nat)(x:ar)(b:O ar)(e:Sp):Prop:=
 ∃f d,aF P w K c a aL k f d b e/\Binds K d b []/\keepIn K (.ref f)=af/\c x=Z (.ref f)
section
variable {K:ai}{X:Cx}{k j:Nat}{W:Sp}{x:ar}{ps:O ar}
def Ki(h:HasFn X.prog X.w X.K X.mg X.base k x ps W)(c:cW j X.A)(d:k<=j)(g:Gl X x)(l:PA X (e::es) t)
  (n:(x==("__debug__":ar))=a7:=by decide)(i:kz X e es:=by rfl)(o:lC X pos es:=by rfl):
  PE X (.Call (.Name x p) (e::es) [] pos) (Cq W [] E0 t):=by
 obtain⟨f,q,F,b,a,m⟩:=h;exact Ze_ F (c.mono d) g m a b .nil zg l n i o
def cF(h:H p=aE)(o:HO):ak H (upd H p o):=λb u q=>by rwa[aN (cE q h)]
def ak.jV(e:ak H b)(h:az K H a xs):az K b a xs:=by
 rcases h with(h|⟨o,h⟩)|h;·exact .inl (.inl (e _ _ h))
 ·exact .inl (.inr ⟨o,e _ _ h⟩)
 ·exact .inr h
def ZdS(h:X.K=K):jw X (uy K):=h▸ID
def Zfk(h:X.K=K):jw X (CI K):=h▸R3
def Zfl(h:X.K=K):dk X (.builtin "isinstance") (CN K):=h▸Zbb
def Zi4(h:X.K=K):dk X (.builtin "len") (zB K):=h▸Zb0
def k_(h:Q af H):CM σ H Q:=h
def aS(h:n σ H):Td ⟨n,a,bk,b⟩ σ H:=h
def mn(d:St->Hp->Prop)(h:∀f:St->Hp->Prop,(∀e H,d e H->f e H)->KA c a b {D with nx:=f} e H)(g:∀e H,d e H->u D e H):ur (KA c a b) u D e H:=h _ g
def ZgL(x:Int)(c:0<m)(d:m<=2^62):-(2^64)<x % m/\x % m<2^64:=by
 have a:=W7 x (LL c);have b:=Ww x c;omega
theorem NZ:∀(l:O α) (k:Nat) (h:k<l.length),l.Perm (l[k]::l.eraseIdx k)
 |[],k,h=>absurd h (Wo k)
 |a::r,0,_=>qK _
 |a::r,k+1,h=>(List.Perm.cons a (NZ r k (AS h))).trans (List.Perm.swap _ _ _)
theorem OB(f:α->β):∀(l:O α) (k:Nat),(l.map f).eraseIdx k=(l.eraseIdx k).map f
 |[],_=>rfl
 |_::_,0=>rfl
 |a::r,k+1=>by
  show f a::(r.map f).eraseIdx k=f a::(r.eraseIdx k).map f;rw[OB f r k]
def JD{n:Nat}{i:Int}(b:0<=i)(a:i<n):lF n i=Z i.toNat:=by
 unfold lF
 grind
def oP{a:O Int}{i:Int}(b:0<=i)(c:i<a.length):dO (a.map V.int) i=Z (.int (a.getD i.toNat 0)):=by
 have e:i=((i.toNat:Nat):Int):=(lX (uH b))
 rw[e];refine jb ?_
 grind
theorem m_{a:O Int}{i:Nat}{y:V}(h:(a.map V.int)[i]?=Z y):∃z,y=.int z/\a[i]?=Z z:=by
 rw[Yf] at h;cases e:a[i]? with
 |none=>grind
 |some z=>grind
def Pg(a:O Int)(z:Int):a.map V.int++[V.int z]=(a++[z]).map V.int:=QS
def Ph(a:O Int)(b c:bS Int):∃d:O Int,k9 (a.map V.int) b c=d.map V.int:=by
 refine⟨(a.drop (HT.cj a.length 0 b)).take (HT.cj a.length a.length c-HT.cj a.length 0 b),?_⟩;unfold k9;simp_all
end
def R9:bootBuiltins "abs"=Z (.builtin "abs"):=QK
def ZgM:bootBuiltins "any"=Z (.builtin "any"):=QK
def R_:bootBuiltins "all"=Z (.builtin "all"):=QK
def B9:bootBuiltins "len"=Z (.builtin "len"):=QK
def ZgN:bootBuiltins "min"=Z (.builtin "min"):=QK
def Bh:bootBuiltins "sorted"=Z (.builtin "sorted"):=QK
def Nx:bootBuiltins "isinstance"=Z (.builtin "isinstance"):=QK
def wz:bootBuiltins "list"=Z (.type "list"):=QK
def oH:bootBuiltins "tuple"=Z (.type "tuple"):=QK
def wk:bootBuiltins "range"=Z (.type "range"):=QK
def BK:bootBuiltins "bool"=Z (.type "bool"):=QK
def Sa:bootBuiltins "int"=Z (.type "int"):=QK
def yZ:bootBuiltins "str"=Z (.type "str"):=QK
def Bd(d p:Int):Prop:=0<=d/\d<p
inductive Pj(K:ai)(b:O V)(H:Hp)(Q:VK):Prop
 |mk (a:U) (d:O Int) (k:Int) (h:b=[.ref a,.int k]) (g:aq K H a (d.map V.int)) (e:0<=k) (f:∀c:Int,Q (.int c) H):Pj K b H Q
def Sb(K:ai):Sp:=λa H Q _=>Pj K a H Q
inductive OC(K:ai)(e:O V)(H:Hp)(Q:VK):Prop
 |mk (c:Int) (a:U) (b:O Int) (k:e=[.int c,.ref a]) (j:aq K H a (b.map V.int)) (h:(∀p∈b,0<p/\p<1073741824)) (i:b.length<=60) (g:∀(l:U) (f:O Int) (d:Hp),H l=aE->ak H d->d l=Z (.lst (f.map V.int))->Paired Bd f b->Q (.ref l) d):OC K e H Q
def BM(K:ai):Sp:=λa H Q _=>OC K a H Q
inductive Pk(b:O V)(H:Hp)(Q:VK):Prop
 |mk (c:Int) (n:Nat) (g:b=[.int c,.int (n:Int)]) (f:n<=60) (e:∀(t:U) (d:O Int) (a:Hp),H t=aE->ak H a->a t=Z (.tup (d.map V.int))->d.Perm (bG n)->Q (.ref t) a):Pk b H Q
def Se:Sp:=λa H Q _=>Pk a H Q
def Qy(h:PE X o to)(j:PE X i d)(g:uu X t)(k:PE X e f)
  (p:swapsWithSole [.Subscript o i a] e pos.line X.env=pure a7:=by rfl)(n:swappedStores [.Subscript o i a] e X.env=pure aE:=QR)
  (m:(assignEach [.Subscript o i a] X.env).map (·.2)=[assign (.Subscript o i a) X.env]:=QR)
  (l:∀v,assign (.Subscript o i a) X.env v=(do
   let b←holding [v] (eval o X.env);let c←holding [v,b] (eval i X.env)
   standAt a
   holding [v,b,c] (setItem b c v)
   release [v,b,c] []):=by intro _;rfl):PS X (.Assign [.Subscript o i a] e pos) (uv f (Uq to d t)):=kg k (Zgy h j g l) p n m
def gQ(h:cY)(a C:U)(d:bS U)(c:c7 aY):Prop:=∃b:Obj,h.get? a=Z b/\b.cls=.ref C/\b.dict=d/\b.data=.fields c/\1<c.size
def xo(a C:U)(d:bS U):HO:=.ext λh=>∃b,gQ h a C d b
def N0(a:c7 aY):Prop:=a[1]?=Z Value.none/\a[2]?=Z Value.none/\a.size=6
def xn(a C:U)(d:bS U):HO:=.ext λh=>∃b,gQ h a C d b/\N0 b
def gQ.keep(x:gQ f a C d vs)(k:∀o,f.get? a=Z o->c.get? a=Z o):gQ c a C d vs:=by
 obtain⟨b,e,r⟩:=x;exact⟨b,k _ e,r⟩
def Tn(x:gQ h a C d c):cT P w H h a (xo a C d):=
 ⟨⟨c,x⟩,let⟨f,e,_⟩:=x;⟨f,e⟩,λ_ _ ⟨b,y⟩ k=>⟨b,y.keep k⟩⟩
def Kj(x:gQ h a C d vs)(z:N0 vs):cT P w H h a (xn a C d):=
 ⟨⟨vs,x,z⟩,let⟨c,e,_⟩:=x;⟨c,e⟩,λ_ _ ⟨b,y,q⟩ k=>⟨b,y.keep k,q⟩⟩
def Sf(b:dq P w H h)(e:H a=Z (xo a C d)):∃vs,gQ h a C d vs:=(b a _ e).1
def B_(b:dq P w H h)(e:H a=Z (xn a C d)):∃vs,gQ h a C d vs/\N0 vs:=(b a _ e).1
def xG(d:Nat)(H:Hp)(h:cY)(a:c7 aY):Prop:=
 a[1]?=Z Value.none\/∃T c b,a[1]?=Z (Value.ref T)/\d<=T/\H T=aE/\h.get? T=Z c/\c.data=.fields b/\b[3]?=Z Value.none
def jy(b:cm)(P:de)(w:c5):lD:=λc H s E e f=>∃(a C d:U) (g:Hp) (h:c7 aY),e=.ref a/\s.heap.objs.size<=a/\f.os=s.os/\AllBare f.gens/\Un (cX c) [] H g s.heap f.heap/\dq P w g f.heap/\
 g a=Z (xo a C (Z d))/\gQ f.heap a C (Z d) h/\(xG s.heap.objs.size g f.heap h/\(b=af->h[2]?=Z Value.none))/\E (.ref C) (Z d) g
abbrev sN:=jy af
section
variable {M:Model}{A:d6}{X:bg}{s:bR}
def OD{l:cY}{d:Env}{a:O Env}{L e:U}{v:Obj}{p:c7 aY}{g:aY}{b0:cm}{Q:Unit->bR->Prop}
  (fr:A.frames=Z (d::a))(H:s.heap.FunFrames l (d::a))(hL:d.frame=Z L)(m:s.heap.get? e=Z v)(f:v.data=.fields p)(F:1<p.size)
  (k:∀i T D,(∀b o,b≠e->b∉cX (d::a)->s.heap.get? b=Z o->i.get? b=Z o)->(∀b o,b∈cX (d::a)->s.heap.get? b=Z o->∃t,i.get? b=Z {o with slots:=t})->
   i.get? e=Z {v with data:=.fields (p.setIfInBounds 1 (.ref T))}->s.heap.objs.size<=T->T≠e->i.get? T=Z {cls:=.type "traceback",dict:=aE,data:=.fields D}->D[3]?=Z Value.none->Q () {s with heap:=i}):
  wpAny M A (do let fo←frameOf d;let u←entryPlaceOf L b0;let en←EntryCells.newEntry g fo .none (rawInt L) .none u;setField (.ref e) 1 en) (λ_ R=>wpAny M A (setFlight (.ref e) aE) Q X R) X s:=by
 have out:e∉cX (d::a):=λz=>by
  obtain⟨_,o,q,W⟩:=H.mem z;rw[m] at q;cases q;exact W p f
 refine bh (wpAny_frameOf_fun fr H hL λh r=>bh (wpAny_entryPlaceOf λu ip=>?_));unfold EntryCells.newEntry newFields;refine bh (lr ?_ (ip.sizeOk5 _ _ _ _ _));generalize w:([g,Value.ref L,Value.none,rawInt L,Value.none]++(if u.isEmpty=af then List.replicate 6 Value.none else u)).toArray=n;have G:3<n.size:=by
  rw[←w,Yr,Yd];simp[Wf,VO];exact Xs _ (by decide)
 have N:=(r.2.1 e out).trans m;have lt:=Yt N;have J:=Yb {cls:=.type "traceback",dict:=aE,data:=.fields n} N;refine qD J f F ?_;have P:=ve f (·.setIfInBounds 1 (Value.ref h.objs.size));have I:=Wr (Obj.mapFields (·.setIfInBounds 1 (Value.ref h.objs.size))) J (u3 P);have E:=(Y9 (h.push {cls:=.type "traceback",dict:=aE,data:=.fields n}) (Obj.mapFields (·.setIfInBounds 1 (Value.ref h.objs.size))) (Y0 lt)).trans (Yu h rfl);unfold setFlight;refine bh (kS I P (x:=.ref h.objs.size) (by simp[F]) ?_);rw[bt QS];refine qD E rfl G (k _ h.objs.size (n.setIfInBounds 3 Value.none) ?_ ?_ ?_ (Lz r.1.symm) (Jg lt) ?_ (by simp[G]))
 ·intro b o C B y;have j:=(r.2.1 b B).trans y;rw[Y9 _ _ (Jg (Yt j)),Y9 _ _ (iS C)];exact Yb _ j
 ·intro b o B y;obtain⟨t,j⟩:=r.2.2 b o y;have C:b≠e:=λz=>out (z▸B);refine⟨t,?_⟩;rw[Y9 _ _ (Jg (Yt j)),Y9 _ _ (iS C)];exact Yb _ j
 ·rw[Y9 _ _ (Jg lt),I];obtain⟨c,dd,da,t⟩:=v;cases f;rfl
 ·exact Wr _ E (u3 (ve rfl _))
end
theorem ZdT
  (fr:A.frames=Z (env::outer))(gS:s1.heap.FunFrames base (env::outer))(B:∀b∈cX (env::outer),H1 b=aE)(hL:env.frame=Z L)(cx:jy b P w (env::outer) H1 s1 E e s')
  (k:∀s3,jy b P w (env::outer) H1 s1 E e s3->(∀a,e=.ref a->∃o ws T,s3.heap.get? a=Z o/\o.data=.fields ws/\ws[1]?=Z (Value.ref T))->Q () s3):
  wpAny (model P w) A (noteFrame e env) (λ_ s2=>wpAny (model P w) A (setFlight e aE) Q Er s2) Er s':=by
 obtain⟨a,C,d,D,vs,rfl,lo,os,bare,un,ay,ha,xr,⟨fl,fz⟩,q⟩:=cx;obtain⟨oe,at_,cls,dic,n,sz⟩:=xr;have nx:∀b:U,b∉([]:O U):=λb z=>absurd z QS;have m:s'.heap.FunFrames base (env::outer):=by
  have all:∀l:O Env,(∀b∈cX l,b∈cX (env::outer))->s1.heap.FunFrames base l->s'.heap.FunFrames base l:=by
   intro l;induction l with
   |nil=>exact λ_ _=>trivial
   |cons x r ih=>
    rintro hs ⟨kd,⟨L',o,j,W,f,F⟩,R⟩;have X:L'∈cX (x::r):=by
     unfold cX;rw[Jh,j];exact Yk
    obtain⟨N,v⟩:=un.slot L' o f (B L' (hs _ X)) (hs _ X) (nx _);refine⟨kd,⟨L',_,j,W,v,F⟩,ih (λb h=>hs b ?_) R⟩;unfold cX at h⊢;rw[Jh,j];exact Yx _ h
  exact all _ (λ_ z=>z) gS
 have UB:s1.heap.get? a=aE:=Dm lo;have cJ:∀b∈cX (env::outer),∃o,s'.heap.get? b=Z o/\∀ws,o.data≠.fields ws:=λb h=>(m.mem h).2;have VP:∀b∈cX (env::outer),D b=aE:=λb h=>by
  obtain⟨_,o,f,_⟩:=gS.mem h;exact un.free b o f (B b h) (nx _)
 have frS:∀b∈cX (env::outer),b<s1.heap.objs.size:=λb h=>let⟨_,o,f,_⟩:=gS.mem h;Yt f
 --ZiG is wanted of any Zk_ end
 have fin:∀(h':cY) (T:U) (p:c7 aY),(∀b o,b≠a->b∉cX (env::outer)->s1.heap.objs.size<=b\/D b≠aE\/s'.heap.get? b=Z o->s'.heap.get? b=Z o->(D b≠aE\/b<s1.heap.objs.size)->h'.get? b=Z o)->
   (∀b o,b∈cX (env::outer)->s'.heap.get? b=Z o->∃N,h'.get? b=Z {o with slots:=N})->h'.get? a=Z {oe with data:=.fields (vs.setIfInBounds 1 (.ref T))}->
   s'.heap.objs.size<=T->T≠a->h'.get? T=Z {cls:=.type "traceback",dict:=aE,data:=.fields p}->p[3]?=Z Value.none->jy b P w (env::outer) H1 s1 E (.ref a) {s' with heap:=h'}/\∀a',Value.ref a=.ref a'->∃o ws T,h'.get? a'=Z o/\o.data=.fields ws/\ws[1]?=Z (Value.ref T):=by
  intro h' T p kp N ea lT neT eT t3;have Dx:∀b o,b≠a->b∉cX (env::outer)->s'.heap.get? b=Z o->(D b≠aE\/b<s1.heap.objs.size)->h'.get? b=Z o:=λb o t H I G=>kp b o t H (.inr (.inr I)) I G;have szs:s1.heap.objs.size<=s'.heap.objs.size:=Yy lo (Jn (Yt at_));have nT:D T=aE:=ay.fresh lT;have VQ:gQ h' a C (Z d) (vs.setIfInBounds 1 (.ref T)):=⟨_,ea,cls,dic,rfl,by rw[J7];exact sz⟩;have KR:dq P w D h':=by
   intro b o h;by_cases e1:b=a
   ·subst e1;rw[ha] at h;cases h;exact Tn VQ
   ·have F:b∉cX (env::outer):=λz=>by rw[VP b z] at h;cases h
    have own:∀c,D c=Z (.own b)->c≠a:=λc i z=>by rw[z,ha] at i;cases i
    refine(ay b o h).iQ (λc u i g=>?_) (λc i=>i) (λc xs i=>i);rcases i with rfl|i;·exact Dx _ u e1 F g (.inl (by rw[h];simp))
    ·exact Dx c u (own c i) (λz=>by rw[VP c z] at i;cases i) g (.inl (by rw[i];simp))
  refine⟨?_,λa' e'=>by cases e';exact⟨_,_,T,ea,rfl,by simp[sz]⟩⟩;refine⟨a,C,d,D,_,rfl,lo,os,bare,⟨λb o f W j J=>?_,λb o f W j J=>?_,un.free,λb o f J=>?_,un.ig,un.iR,un.jo⟩,KR,ha,VQ,⟨.inr ⟨T,_,p,by simp[sz],Yy szs lT,nT,eT,rfl,t3⟩,λz=>by rw[Je QD];exact fz z⟩,q⟩
  ·have v:=un.keep b o f W j J;exact Dx b o (λz=>by rw[z,UB] at f;cases f) j v (.inr (Yt f))
  ·obtain⟨s0,v⟩:=un.slot b o f W j J;obtain⟨s2,g3⟩:=N b _ j v;exact⟨s2,g3⟩
  ·obtain⟨o',v⟩:=un.there b o f J;have h:b≠a:=λz=>by rw[z,UB] at f;cases f
   by_cases j:b∈cX (env::outer)
   ·obtain⟨s2,g3⟩:=N b _ j v;exact⟨_,g3⟩
   ·exact⟨o',Dx b o' h j v (.inr (Yt f))⟩
 have hE:(env.frame=Z L):=hL;unfold noteFrame;simp only[hE];refine bh ?_;rcases fl with z|⟨T0,oT,z8,z,lT,LM,g0,d0,t0⟩
 ·refine kS at_ n z ?_;rw[bu QD];refine OD fr m hL at_ n sz λh' T p k1 k2 k3 k4 k5 k6 k7=>(λz=>k _ z.1 z.2) (fin h' T p (λb o t H _ I _=>k1 b o t H I) k2 k3 k4 k5 k6 k7)
 ·refine kS at_ n z ?_;rw[bt QS];have Dy:T0≠a:=λy=>by rw[y,ha] at LM;cases LM
  refine bh (kS g0 d0 t0 ?_);rw[bu (by simp[rawInt])];refine bh (qD g0 d0 (Jv.mp t0).1 ?_);have aJ:∀b,b≠T0->(s'.heap.update T0 (Obj.mapFields (·.setIfInBounds 3 Value.none))).get? b=s'.heap.get? b:=λb h=>Y9 _ _ (iS h);have fT:T0∉cX (env::outer):=λy=>by
   obtain⟨o,f,F⟩:=cJ T0 y;rw[g0] at f;cases f;exact F _ d0
  have szu:(s'.heap.update T0 (Obj.mapFields (·.setIfInBounds 3 Value.none))).objs.size=s'.heap.objs.size:=Heap.size_after_update ..;refine OD (s:={s' with heap:=s'.heap.update T0 (Obj.mapFields (·.setIfInBounds 3 Value.none))}) fr (m.of_keeps λb o f F=>⟨o,(aJ b λy=>by rw[y,g0] at f;cases f;exact F _ d0).trans f,rfl⟩) hL ((aJ a (iS Dy)).trans at_) n sz
   λh' T p k1 k2 k3 k4 k5 k6 k7=>(λz=>k _ z.1 z.2) (fin h' T p (λb o t H _ I G=>?_) (λb o t H=>?_) k3 (by rw[←szu];exact k4) k5 k6 k7)
  ·have nb:b≠T0:=λy=>by
    subst y;rcases G with G|G;·exact G LM
    ·exact absurd lT (Nat.not_le.mpr G)
   exact k1 b o t H ((aJ b nb).trans I)
  ·exact k2 b o t ((aJ b λy=>fT (y▸t)).trans H)
def Qz
  (i:A.frames=Z (env::outer))(h:s1.heap.FunFrames base (env::outer))(a:∀b∈cX (env::outer),H1 b=aE)(g:env.frame=Z L)(j:jy b P w (env::outer) H1 s1 E e s')
  (k:∀d,jy b P w (env::outer) H1 s1 E e d->Q () d):
  wpAny (model P w) A (noteFrame e env) (λ_ f=>wpAny (model P w) A (setFlight e aE) Q l f) l s':=ZdT i h a g j λd c _=>k d c
def xG.mono{a b:Nat}(f:xG a H h vs)(l:b<=a):xG b H h vs:=by
 rcases f with z|⟨T,d,c,g,e,r⟩;·exact .inl z
 ·exact .inr ⟨T,d,c,g,Yy l e,r⟩
def zh(b:cm)(X:Cx)(E:St->XK):Prop:=∀(a:aW) (c:St) (H:Hp) (s:bR) (e:aY) (d:bR),Inv X a c H s->jy b X.prog X.w X.stack H s (E c) e d->X.xe e d
abbrev Kk:=zh af
def Inv.Sg(I:Inv X pins σ H1 s1)(j:jy b X.prog X.w X.stack H1 s1 E e s3):
  ∃(a C d:U) (H':Hp) (c:c7 aY),e=.ref a/\s1.heap.objs.size<=a/\Inv X pins σ H' s3/\H' a=Z (xo a C (Z d))/\gQ s3.heap a C (Z d) c/\(xG s1.heap.objs.size H' s3.heap c/\(b=af->c[2]?=Z Value.none))/\E (.ref C) (Z d) H':=by
 obtain⟨a,C,d,H',c,rfl,lo,os,f,un,k,h,g,i,q⟩:=j;exact⟨a,C,d,H',c,rfl,lo,I.Kd os un k f (λb z=>absurd z QS),h,g,i,q⟩
section
variable {P:de}{w:c5}{K:ai}{L:aV}{R:cY}{N:O ar}{T:ar}{X:Scope}{f:U}{Q:aY}{A:d6}{W:O Env}{s:bR}{H:Hp}{E:XK}
def To{b c:cm}(z:(b||!c)=af:=by decide):zh b (kZ (jy c P w) P w K L R N T X f Q A W s H E) (λ_=>E):=by
 intro g p u t e k I m;show wpAny (model P w) _ (leaving _ e) _ _ k;unfold leaving;refine bh (Qz I.ok.frames I.stack I.BE rfl m λr n=>?_);obtain⟨a,C,d,o,j,rfl,lo,J,l,i,h,q⟩:=I.Sg n;have sz:=I.sz;exact⟨a,C,d,o,j,rfl,Yy sz lo,J.os,J.bare,J.base,J.ay,l,i,⟨h.1.mono sz,λy=>h.2 (by subst y;cases b<;>first|rfl|cases z)⟩,q⟩
def UC:PassesOwn (model P w) (kZ (jy b P w) P w K L R N T X f Q A W s H E).A (kZ (jy b P w) P w K L R N T X f Q A W s H E).env (kZ (jy b P w) P w K L R N T X f Q A W s H E).xe:=
 λe a h=>PassesOwn.leaving e a h
end
section
variable {C:U}{W:Sp}{E:St->XK}{x m:ar}{T:TE}{t:TA}
theorem Zfm(F:aF X.prog X.w X.K X.mg X.base (jy b X.prog X.w) k f fd d W)(l:cW k X.A)(p:Binds X.K fd d ds)(o:Vals g ds)(j:zh b X E)
  (I:Inv X pins σ H s)(r:Vals vs us)(h:W (vs++g) H Q (E σ)):wpAny X.md X.A (call (.ref f) us) (EP X pins σ Q) X.xe s:=by
 have c:=r.append o;have n:(us++ds).length=d.length:=by exact c.length▸F.len _ _ _ _ h
 refine mu (lJ (F.run X.A X.stack s H ⟨us,[]⟩ (us++ds) (vs++g) Q (E σ) l I.CH (p s us I.cG n) c h) λr i a=>?_);cases r with
 |error e=>exact j pins σ H s e i I a
 |ok q=>cases q<;>first|exact I.after a|exact False.elim a
def ZgO(C:U)(m:ar)(W:Sp)(E:St->XK)(T:TE)(t:TA):TE:=λb H Q=>T b H λx c=>∃a e fs,x=.ref a/\c a=Z (.ins C e fs)/\fs.lookup m=aE/\t b c λd f=>W (x::(d++[])) f Q (E b)
end
section
variable {P:de}{w:c5}{K:ai}{W:aV}{X:cY}
def aM.LN{b:cm}{x d:ar}{g:cb}{f:U}{l:FuncData}{N i:O ar}{k:Nat}{sp:Sp}(F:aM K x d g f l)(a:aP N i (aH g))(j:∀e H Q E,sp e H Q E->e.length=i.length)
  (m:∀(h:aY) (A:d6) (c:O Env) (s:bR) (H:Hp) (e:O V) (Q:VK) (E:XK),cW k (A.deeper (envOfC d (aH g) s.heap.objs.size f h))->sp e H Q E->
   ∃t,fW (kZ (jy b P w) P w K W X N d (aH g) f h A c s H E) (jd g) t/\t {nx:=λ_ u=>Q .aA u,rt:=Q} (start N e) H):aF P w K W X (jy b P w) (k+1) f l i sp:=by
 obtain⟨y,v,kV,r,pm,C,h,B,z,rfl,o,q⟩:=F.ex;exact Kh o q a j λA c s H e Q E p n=>m h A c s H e Q E p n
end
structure w8(K:ai)(C f:U):Prop where
 nL:∃(nm q:ar) (N:U) (bs bm:O aY) (sn:O ar) (sub:O aY) (ab:cm) (col:bS cm) (dd:bS U) (k0 k1 k2 k3 k5:bS aY),
  K.lookup C=Z (excClassObj nm q C N bs bm af sn sub ab col dd k0 k1 k2 k3 k5 "ValueError.__new__")
 mP:PySem.W.mroIn K C (.type "ValueError")=Z af
 z9:PySem.W.mroIn K C (.type "BaseException")=Z af
 lE:PySem.W.mroIn K C (.type "AttributeError")=Z a7
 uV:PySem.W.mroIn K C (.type "NameError")=Z a7
 init:PySem.W.findIn K (.ref C) "__init__"=Z (Z (.ref f))
 fn:isFn K (.ref f)=af
 kp:keepIn K (.ref C)=af
def yP{K:ai}
  (l:K.lookup C=Z (excClassObj nm q C N bs bm hd sn sub j col i g f e d c a))(h:PySem.W.mroIn K C v=Z b):(Value.ref C::bm).contains v=b:=by
 unfold PySem.W.mroIn PySem.W.clsIn at h
 grind
section
variable {X:de}{w:c5}{A:d6}{E:bg}{h:cY}{g:c7 GenState}{d:Drawn}{t:Nat}{os:OsState}
variable {y q:ar}{C N:U}{bs W:O aY}{B:cm}{D:O ar}{sub:O aY}{I:cm}{T:bS cm}{F:bS U}{J L P H v:bS aY}
local macro_rules|`(tactic|walk_at "vlu")=>`(tactic|exact excBase_ValueError)
def ZcZ(a:h.get? C=Z (excClassObj y q C N bs W B D sub I T F J L P H v "ValueError.__new__"))(b:(Value.ref C::W).contains (.type "ValueError")=af)
  (z:Q () ⟨h,g,d,t,os⟩):wpAny M A (checkBuiltinCall "ValueError.__new__" ⟨.ref C::rest,[]⟩) Q E ⟨h,g,d,t,os⟩:=by
 have G:=pz;simp[checkBuiltinCall,G.newKind,G.newSplit,G.newRow];repeat (first|refine kG a ?_|(refine mO a ?_;rw[b])|refine wpAny_staticBase_exc a ?_|refine Mc a ?_|simp only[vg,um]|wp_step)
 exact z
def ZdU{R:Result->bR->Prop}{a:O aY}(b:h.get? C=Z (excClassObj y q C N bs W B D sub I T F J L P H v "ValueError.__new__"))(i:(Value.ref C::W).contains (.type "ValueError")=af)
  (k:(Value.ref C::W).contains (.type "AttributeError")=a7)(f:(Value.ref C::W).contains (.type "NameError")=a7)
  (z:R (.ok (.ret (.ref (h.objs.size+1)))) ⟨(h.push {cls:=.type "tuple",data:=.seq a.toArray}).push {cls:=.ref C,data:=.fields #[.ref h.objs.size,.none,.none,.none,.bool a7,.none]},g,d,t,os⟩)(j:a.length<=sizeLine):
  codeAny (model X w) A (.builtin "ValueError.__new__" ⟨.ref C::a,[]⟩) R ⟨h,g,d,t,os⟩:=by
 have G:=pz;have e:=G.ends;refine codeAny_builtinAt G.entry ?_;refine Tz ?_;refine Tz (PySem.wpAt_stack λp c=>DI ?_)
 wp_walk
 refine DI ?_;rw[G.owner];repeat (first|with_reducible refine wpAny_madeHere_exc G.canon b ?_|with_reducible refine kG b ?_|(with_reducible refine mO b ?_;first|rw[i]|rw[k]|rw[f])|wp_step)
 simp_all
def ZdV{a:O aY}{j:U}{Q:Fin->bR->Prop}(c:h.get? C=Z (excClassObj y q C N bs W B D sub I T F J L P H v "ValueError.__new__"))(m:(Value.ref C::W).contains (.type "ValueError")=af)
  (u:(Value.ref C::W).contains (.type "AttributeError")=a7)(n:(Value.ref C::W).contains (.type "NameError")=a7)
  (s:PySem.W.Looks (model X w) h (typeLookup (.ref C) "__init__") (Z (.ref j)))(p:PySem.W.Looks (model X w) h (typeOf (.ref j)) (.type "function"))
  (z:wpAny (model X w) A (call (.ref j) (.ref (h.objs.size+1)::a)) (λr l=>r=.none/\Q (.done (.ret (.ref (h.objs.size+1)))) l) E
   ⟨(h.push {cls:=.type "tuple",data:=.seq a.toArray}).push {cls:=.ref C,data:=.fields #[.ref h.objs.size,.none,.none,.none,.bool a7,.none]},g,d,t,os⟩)(f:a.length<=sizeLine):
  wpAny (model X w) A (Builtin.«type.__call__» ⟨.ref C::a,[]⟩) Q E ⟨h,g,d,t,os⟩:=by
 have G:=pz;repeat (first|with_reducible refine kG c ?_|with_reducible refine Mc c ?_|wp_step)
 refine codeAny_call_builtin_code (J6 _ G.quiet) (ZcZ c m (ZdU c m u n ?_ f));show wpAny _ _ _ _ _ _;have up:∀b o,h.get? b=Z o->((h.push {cls:=.type "tuple",data:=.seq a.toArray}).push {cls:=.ref C,data:=.fields #[.ref h.objs.size,.none,.none,.none,.bool a7,.none]}).get? b=Z o:=
  λb o e=>Yb _ (Yb _ e)
 have i:=up _ _ c;have k:(Value.ref C::W).contains (.ref C)=af:=QS
 unfold isInstance;repeat (first|with_reducible refine kG here ?_|(with_reducible refine mO i ?_;rw[k])|wp_step)
 refine(s.keeps up) _ _ _ _ (λ_ _ e=>e) ?_;refine hV (bh ?_);unfold bindSpecial;refine bh ((p.keeps up) _ _ _ _ (λ_ _ e=>e) ?_);rw[bt QD];refine cy (bh (dy z (λr l R=>?_) λ_ _ x=>x));obtain⟨rfl,hQ⟩:=R
 wp_walk
 exact hQ
def ZdW{a:O aY}{e:U}{Q:bg}(c:h.get? C=Z (excClassObj y q C N bs W B D sub I T F J L P H v "ValueError.__new__"))(j:(Value.ref C::W).contains (.type "ValueError")=af)
  (m:(Value.ref C::W).contains (.type "AttributeError")=a7)(f:(Value.ref C::W).contains (.type "NameError")=a7)
  (l:PySem.W.Looks (model X w) h (typeLookup (.ref C) "__init__") (Z (.ref e)))(k:PySem.W.Looks (model X w) h (typeOf (.ref e)) (.type "function"))
  (z:wpAny (model X w) (A.under (.builtin "type.__call__" ⟨.ref C::a,[]⟩)) (call (.ref e) (.ref (h.objs.size+1)::a)) (λr i=>r=.none/\Q (.ref (h.objs.size+1)) i) E
   ⟨(h.push {cls:=.type "tuple",data:=.seq a.toArray}).push {cls:=.ref C,data:=.fields #[.ref h.objs.size,.none,.none,.none,.bool a7,.none]},g,d,t,os⟩)(b:a.length<=sizeLine):
  wpAny (model X w) A (call (.ref C) a) Q E ⟨h,g,d,t,os⟩:=by
 have o:=tc_lookup;have n:=tc_bind (.ref C);refine mu (Ng ?_);repeat (any_goals (first|assumption|with_reducible refine kG c ?_|wp_step))
 exact⟨rfl,codeAny_call_builtin_at (J6 _ QK) entry_typeCall (wpAny_check_type_call_sub c (ZdV c j m f l k z b))⟩
end
end L2
namespace L2
open PySem PySem.Spec PyProof.Rows
open PySem.W (Looks InstAt looks_findIn looks_typeIn looks_clsIn looks_mroIn looks_find findObj findIn mroIn clsIn)
abbrev qE:O aY:=[.type "ValueError",.type "Exception",.type "BaseException",.type "object"]
structure dP(K:ai)(C:U):Prop where
 nL:∃(nm q:ar) (N:U) (bs:O aY) (cs:O U) (sn:O ar) (sub:O aY) (ab:cm) (col:bS cm) (dd:bS U) (k0 k1 k2 k3 k5:bS aY),
  K.lookup C=Z (excClassObj nm q C N bs (cs.map Value.ref++qE) af sn sub ab col dd k0 k1 k2 k3 k5 "ValueError.__new__")
 ga:findIn K (.ref C) "__getattribute__"=Z (Z (.builtin "BaseException.__getattribute__"))
 gh:findIn K (.ref C) "__getattr__"=Z aE
 sa:findIn K (.ref C) "__setattr__"=Z (Z (.builtin "object.__setattr__"))
 cl:findIn K (.ref C) "__class__"=Z (Z (.builtin "object.__class__"))
 cg:specialIn K (.builtin "object.__class__") "__get__"=Z (Z (.builtin "getset_descriptor.__get__"))
 ct:takesIn K (.builtin "object.__class__")=Z af
def Tp(C:U)(a:O U)(v:aY)(h:qE.contains v=af):(Value.ref C::(a.map Value.ref++qE)).contains v=af:=by
 grind
def dP.mro{K:ai}(x:dP K C)(v:aY)(h:qE.contains v=af):mroIn K C v=Z af:=by
 obtain⟨c,q,N,bs,k,b,sub,m,a,j,i,g,f,e,d,l⟩:=x.nL;unfold PySem.W.mroIn PySem.W.clsIn
 grind
def dP.hd{K:ai}(x:dP K C):hasDictIn K C=af:=by
 obtain⟨c,q,N,bs,j,b,sub,k,a,i,h,g,f,e,d,l⟩:=x.nL;unfold hasDictIn PySem.W.clsIn;rw[l];rfl
def gQ.inst(x:gQ h a C (Z d) l)(e:h.get? d=Z f):∃b,InstAt h a b C (Z f):=by
 obtain⟨c,k,j,i,g,_⟩:=x;refine⟨c,k,j,?_,?_⟩
 ·unfold notCls;rw[g]
 ·rwa[i]
def gQ.Zh9(x:gQ h a C aE g):∃b,InstAt h a b C aE:=by
 obtain⟨c,f,e,i,d,_⟩:=x;refine⟨c,f,e,?_,?_⟩
 ·unfold notCls;rw[d]
 ·grind
section
variable {T:de}{w:c5}{A:d6}{E:bg}{s:bR}{K:ai}{x C:U}{L:Obj}{P:bS Obj}{W:ar}
def Sh(d:K.In s.heap)(I:InstAt s.heap x L C P)(X:dP K C)
  (k:wpAny (model T w) A.in1 (Builtin.«object.__getattribute__» ⟨[.ref x,.str W c],[]⟩) (λfin a=>match fin with|.done f=>R (.ok f) a|.again b=>b.quiet=af/\codeAny (model T w) A b R a) (λe a=>R (.error e) a) s):
  codeAny (model T w) A (.call (.builtin "BaseException.__getattribute__") ⟨[.ref x,.str W c],[]⟩) R s:=by
 have G:=PySem.F.attr_ValueError;exact u4 G.ga.plain PySem.F.entry_bexc_ga (check_slot (i:="BaseException.__getattribute__") (owner:="BaseException") (n:="__getattribute__") QK QK ((I.type).andThen (looks_mroIn d (X.mro _ QD))) (PySem.F.args_bexc_ga _ _) k)
theorem Si{b a:cm}(d:K.In s.heap)(I:InstAt s.heap x L C P)(X:dP K C)
  (k:codeAny (model T w) A (.call (.builtin "BaseException.__getattribute__") ⟨[.ref x,.str W i],[]⟩) (λr c=>match r with|.ok (.ret v)=>handedIn v=af/\Q v c|_=>False) s):
  wpAny (model T w) A (getAttrBy (.ref x) (.str W i) b a) Q E s:=by
 refine hV (bh ((I.type).here (bh ((looks_findIn d X.ga).here ?_))));refine bh ((looks_findIn d X.gh).here (bh (wpAny_attempt (hV ?_))));unfold callGetattribute;rw[bu (by cases a<;>exact Yh)];refine bh (cy (mu (lJ k λr c z=>?_)));cases r with
 |error e=>grind
 |ok f=>
  cases f with
  |ret v=>
   obtain⟨h,g⟩:=z;show wpAny _ _ (handedOut v) _ _ _;rw[PySem.W.handedOut_of h];exact cy g
  |next=>grind
  |brk=>grind
  |cont=>grind
def Zi5{a:cm}{v:aY}{Q:bg}(b:K.In s.heap)(I:InstAt s.heap x L C P)(X:dP K C)(d:findObj K C P W=Z (.value v))(c:handedIn v=af)(q:Q v {s with toks:=s.toks+1}):
  wpAny (model T w) A (getAttr (.ref x) W a) Q E s:=by
 exact bh (wpAny_mkText (Si b I X (Sh b I X (bh (cy (bh (cy (bh ((I.type).at (bh ((looks_find b I d).at (cy (rj c q)))))))))))))
def Zb1{P:Obj}{Q:bS aY->bR->Prop}(a:K.In s.heap)(I:InstAt s.heap x L C (Z P))(X:dP K C)(q:Q (Z (.ref C)) {s with toks:=s.toks+1}):wpAny (model T w) A (getAttr? (.ref x) "__class__") Q E s:=by
 exact bh (wpAny_mkText (bh (wpAny_attempt (Si a I X (Sh a I X (bh (cy (bh (cy (bh ((I.type).here (s:={s with toks:=s.toks+1}) (bh ((looks_find a I (PySem.W.findObj_data (by obtain⟨c,b,_⟩:=uA X.hd;rw[b];rfl) X.cl X.cg X.ct)).here (s:={s with toks:=s.toks+1}) (bh (hV (mu (PySem.W.class_get a I (X.mro _ QD) (cy ⟨rfl,cy q⟩))))))))))))))))))
theorem ZdX{P:Obj}(X:dP K C):KitX K (.ref x) (.ref C) (λh=>∃L,InstAt h x L C (Z P)) where
 ty:=λ_ _ _ ⟨_,I⟩=>I.type
 it:=λ_ _ a _=>by
  obtain⟨d,q,N,bs,r,c,sub,t,b,p,m,j,i,g,f,l⟩:=X.nL;intro H F G B k q;exact bh (tH (k _ _ (a _ _ l)) (cy q))
 ne:=λh u o D n v a e=>by
  obtain⟨d,q,N,bs,r,c,sub,t,b,p,m,j,i,g,f,l⟩:=X.nL;refine Jr.mpr λz=>?_;have z:=Value.ref.inj (beq_iff_eq.mp z);subst z;have y:=dJ Obj.cls (Yo ((a _ _ l).symm.trans e))
  grind
 ca:=λa ⟨_,I⟩ k=>Zb1 a I X k
theorem N1(a:aY):∀b:O U,refuseLoop a "__setattr__" (b.map Value.ref++qE)=pure ()
 |[]=>PySem.F.store_ValueError.passes a
 |c::r=>by
  show refuseLoop a "__setattr__" (.ref c::(r.map Value.ref++qE))=pure ();rw[UL];exact N1 a r
def UD{v:aY}{Q:Unit->bR->Prop}(b:K.In s.heap)(I:InstAt s.heap x L C P)(X:dP K C)(d:findIn K (.ref C) W=Z aE)
  (k:wpAny (model T w) A.in1 (Builtin.ObjectAttr.storeInOwnDict (.ref x) (.ref C) (.str W s.toks) W v a7) (λfin c=>fin=PySem.Fin.done (.ret .none)/\Q () c) (λ_ _=>False) {s with toks:=s.toks+1}):
  wpAny (model T w) A (setAttr (.ref x) W v) Q E s:=by
 have a:=PySem.F.store_object;refine set_plain b I X.sa ?_;have sub:Looks (model T w) s.heap (isInstance (.ref x) (.type "object")) af:=I.type.andThen (looks_mroIn b (X.mro _ QD));refine u4 a.slot.plain a.entry (@check_slot (model T w) _ _ {s with toks:=s.toks+1} "object.__setattr__" "object" "__setattr__" (.ref x) [.str W s.toks,v] [] _ a.kind a.split sub (a.args (.ref x) (.str W s.toks) v) ?_);obtain⟨j,q,N,bs,f,h,i,u,g,t,r,p,o,n,m,l⟩:=X.nL;have e:Looks (model T w) s.heap (mroOf (.ref C)) (.ref C::(f.map Value.ref++qE)):=(looks_clsIn b (by unfold PySem.W.clsIn;rw[l])).andThen .now;rw[osa_eq,refuse_eq];refine bh (bh (I.type.here (s:={s with toks:=s.toks+1}) (bh (e.here (s:={s with toks:=s.toks+1}) ?_))));rw[UL,N1];refine cy (bh (I.type.here (s:={s with toks:=s.toks+1}) (bh ((looks_findIn b d).here (s:={s with toks:=s.toks+1}) (bh (cy ?_))))));refine dy k (λfin c z=>?_) λ_ _ z=>z.elim;obtain⟨rfl,z⟩:=z;exact z
end
def xq(d:U)(b:O (ar×V)):HO:=.ext λh=>∃a,h.Ns1 d a/\(∀f,eU (b.lookup f) (a f))/\PySem.Within a (b.map (·.1))
def Tq(n:h.Ns1 d a)(r:∀f,eU (fs.lookup f) (a f))(b:PySem.Within a (fs.map (·.1))):cT P w H h d (xq d fs):=
 ⟨⟨a,n,r,b⟩,let⟨o,_,_,e,_⟩:=n;⟨o,e⟩,λ_ _ ⟨m,y,q⟩ k=>⟨m,y.at k,q⟩⟩
def JE(b:dq P w H h)(e:H d=Z (xq d fs)):∃a,h.Ns1 d a/\(∀f,eU (fs.lookup f) (a f))/\PySem.Within a (fs.map (·.1)):=(b d _ e).1
def QB{mA:aV}(a:RelV y u)(r:∀g,eU (fs.lookup g) (mA g)):∀g,eU ((cV f y fs).lookup g) (if g=f then Z u else mA g):=λg=>by
 rw[F6];by_cases q:g=f;·rwa[bt q,bt q]
 ·grind
def N3(a:PySem.Within b (fs.map (·.1))):PySem.Within (λg=>if g=f then Z u else b g) ((cV f y fs).map (·.1)):=λg c=>by
 by_cases q:g=f;·exact q▸(yy f y fs).1
 ·refine(yy f y fs).2 g (a g λz=>c ?_)
  grind
section
variable {T:de}{w:c5}{A:d6}{E:bg}{s:bR}{K:ai}{x C:U}{W:ar}{v:aY}{b:cm}{R:Tok}
def Zc0{a:Obj}{d:U}{e:aV}{f:O ar}{Q:PySem.Fin->bR->Prop}(D:K.In s.heap)(X:dP K C)(r:s.heap.get? x=Z a)(z:a.cls=.ref C)(u:a.dict=Z d)(n:s.heap.Ns1 d e)(m:PySem.Within e f)(o:f.length<sizeLine)
  (k:∀c h,c.Ns1 d (λy=>if y=W then Z v else e y)->Heap.SameBut d s.heap c->Q (.done (.ret .none)) {s with heap:=c,toks:=h}):
  wpAny (model T w) A (Builtin.ObjectAttr.storeInOwnDict (.ref x) (.ref C) (.str W R) W v b) Q E s:=by
 obtain⟨F,q,N,H⟩:=a;subst z u;obtain⟨I,B,t⟩:=uA X.hd;refine bh (cy (bh (bh (tH r (bh ((looks_clsIn D B).here ?_))))));rw[t];refine cy (bh (cy (bh (wh n λc g p=>?_))));obtain⟨G,L,J,l,j,i⟩:=g.count (vh W v m);exact bh (vi l (by exact j▸vj (Yy i (by rw[Wf];exact sC (Nat.add_lt_add_right o _)))) (cy (k _ _ g p)))
def Zc1{a:Obj}{i:c7 aY}{Q:PySem.Fin->bR->Prop}(J:K.In s.heap)(X:dP K C)(f:s.heap.get? x=Z a)(g:a.cls=.ref C)(G:a.dict=aE)(D:a.data=.fields i)
  (k:∀d p,d.Ns1 s.heap.objs.size (λy=>if y=W then Z v else aE)->d.get? x=Z {a with dict:=Z s.heap.objs.size}->(∀c o,c≠x->s.heap.get? c=Z o->d.get? c=Z o)->Q (.done (.ret .none)) {s with heap:=d,toks:=p}):
  wpAny (model T w) A (Builtin.ObjectAttr.storeInOwnDict (.ref x) (.ref C) (.str W R) W v b) Q E s:=by
 obtain⟨L,u,VS,z⟩:=a;subst g G D;obtain⟨P,I,B⟩:=uA X.hd;refine bh (cy (bh (bh (tH f (bh ((looks_clsIn J I).here ?_))))));rw[B];have h:=Y0 (Yt f);have n:(s.heap.push {cls:=.type "dict",data:=.dict #[]}).get? x=Z ⟨.ref C,aE,.fields i,z⟩:=Yb _ f;refine bh (wpAny_alloc' (bh (wpAny_update' n (cy ?_))));have H:((s.heap.push {cls:=.type "dict",data:=.dict #[]}).update x λo=>{o with dict:=Z s.heap.objs.size}).get? s.heap.objs.size=Z {cls:=.type "dict",data:=.dict #[]}:=
  (VU _ _ _ _ h.symm).trans (Heap.get?_push_at rfl rfl)
 refine bh (cy (bh (wh (L9 ⟨_,#[],_,H,rfl,λe F=>absurd F QS,λ_=>rfl⟩) λd l j=>?_)));obtain⟨N,Vy,Vz,t,r,q⟩:=l.count (vh W v PySem.Within.nil);refine bh (vi t (by exact r▸vj (Yy q (by rw[Wf,VO,dw];decide))) (cy (k _ _ l ?_ λc o g m=>?_)));·exact(j.2 x h).trans (Wr _ n rfl)
 ·exact(j.2 c (Y0 (Yt m))).trans ((VU _ _ _ _ g).trans (Yb _ m))
end
def Tr(K:ai)(g e:TE)(f:ar):TS:=λ D c H=>e c H λ y h=>g c h λ x b=>∃ a C,x=.ref a/\dP K C/\du K C f /\
  ((b a=Z (xn a C aE)/\∀ d,b d=aE->d≠a->D.nx c (upd (upd b d (xq d [(f,y)])) a (xn a C (Z d)))) \/
   ∃ d fs,b a=Z (xn a C (Z d))/\b d=Z (xq d fs)/\d≠a/\fs.length < 1000/\D.nx c (upd b d (xq d (cV f y fs))))
def Ts(K:ai)(e:TE)(f:ar):TE:=λc H Q=>e c H λx b=>∃a C d fs v,x=.ref a/\b a=Z (xo a C (Z d))/\b d=Z (xq d fs)/\dP K C/\du K C f/\fs.lookup f=Z v/\Q v b
inductive QC(K:ai)(e:O V)(H:Hp)(Q:VK):Prop
 |mk (a C d:U) (fs:O (ar×V)) (c:V) (u:aY) (b:cm) (l:e=[.ref a,c]) (k:RelV c u) (i:H a=Z (xo a C (Z d))) (j:H d=Z (xq d fs)) (h:dP K C) (g:kitOne K (.ref C) u=Z b) (f:Q (.bl b) H):QC K e H Q
def Tt(K:ai):O V->Hp->VK->Prop:=λa H Q=>QC K a H Q
section
variable {X:Cx}{o e W:cP}{f:ar}{R T:Pos}{P N:TE}
def Zfn(ha:PE X o P)(hv:PE X W N)(hs:swapsWith W (Z (.Attribute o f T)) R.line X.env=pure a7:=by rfl):PS X (.Assign [.Attribute o f T] W R) (Tr X.K P N f):=by
 intro p s A H D I h;refine uU (aB (hv p s A H _ I h) λu s1 zq=>?_) hs;obtain⟨y,H1,I1,ry,q⟩:=zq;refine aB (ha p s1 A H1 _ I1 q) λov F zq=>?_;obtain⟨x,H2,l,rx,a,C,Q,E,na,v⟩:=zq;subst Q;obtain rfl:ov=Value.ref a:=rx;rcases v with⟨m,v⟩|⟨d,fs,m,ed,nd,lim,v⟩
 ·obtain⟨vs,r,v1⟩:=B_ l.ay m;obtain⟨ox,J⟩:=r.Zh9;obtain⟨oe,e1,e2,e3,e4,e5⟩:=r;refine UD l.cG J E na (Zc1 l.cG E e1 e2 e3 e4 λh' tk G Q kp=>⟨rfl,?_⟩);have w:=l.ay.fresh (Ye _);have ne:=Jg (Yt e1);refine⟨A,_,?_,v F.heap.objs.size w ne⟩;have hx':gQ h' a C (Z F.heap.objs.size) vs:=⟨_,Q,e2,rfl,e4,e5⟩;refine l.un ⟨λb j i n _ _=>?_,λb j i n fr _=>?_,λb j i n _=>?_,λb j i _=>?_,λb B i=>?_,λb j u i=>?_,λb ps i=>?_⟩ λb j i=>?_;·exact kp b j (λz=>by rw[z,m] at n;cases n) i
  ·exact⟨j.slots,kp b j (λz=>by rw[z,m] at n;cases n) i⟩
  ·rw[aN (λz=>by rw[z,m] at n;cases n),aN (Y0 (Yt i))];exact n
  ·by_cases z:b=a;·exact⟨_,z▸Q⟩
   ·exact⟨j,kp b j z i⟩
  ·rw[aN (λz=>by rw[z,m] at i;cases i),aN (λz=>by rw[z,w] at i;cases i)];exact i
  ·rw[aN (λz=>by rw[z,m] at i;cases i),aN (λz=>by rw[z,w] at i;cases i)];exact i
  ·exact⟨#[],by rw[aN (λz=>by rw[z,m] at i;cases i),aN (λz=>by rw[z,w] at i;cases i),i];simp⟩
  ·by_cases z:b=a
   ·subst z;rw[aT] at i;cases i;exact(λH0=>Kj hx' v1) _
   ·rw[aN z] at i;by_cases z2:b=F.heap.objs.size
    ·subst z2;rw[aT] at i;cases i;exact(λH0=>Tq G (QB (fs:=[]) (mA:=λ_=>aE) ry λg=>trivial) (N3 λ g=>absurd rfl)) _
    ·rw[aN z2] at i;have Dz:∀c t,H2 c=Z t->t=.own b\/(∃B,t=.tup B)->c≠a/\c≠F.heap.objs.size:=λc t k L=>by
      refine⟨λy=>?_,λy=>by rw[y,w] at k;cases k⟩;rw[y,m] at k;cases k;rcases L with L|⟨B,L⟩<;>cases L
     refine(l.ay b j i).iQ (λc u k hg=>?_) (λc k=>?_) λc B k=>?_;·grind
     ·rwa[aN (Dz c _ k (.inl rfl)).1,aN (Dz c _ k (.inl rfl)).2]
     ·rwa[aN (Dz c _ k (.inr ⟨_,rfl⟩)).1,aN (Dz c _ k (.inr ⟨_,rfl⟩)).2]
 ·obtain⟨vs,r,v1⟩:=B_ l.ay m;obtain⟨mA,n1,rl,wi⟩:=JE l.ay ed;obtain⟨od,_,_,lH,_⟩:=id n1;obtain⟨ox,J⟩:=r.inst lH;obtain⟨oe,e1,e2,e3,e4,e5⟩:=r;refine UD l.cG J E na (Zc0 l.cG E e1 e2 e3 n1 wi (by rw[Ya,dw];exact oV lim (by decide)) λh' tk G sb=>⟨rfl,A,_,?_,v⟩);have hd:∃o,h'.get? d=Z o:=let⟨o,_,_,e',_⟩:=G;⟨o,e'⟩;exact l.write (by exact ed▸gT) (.inl rfl) (λb q i z=>(sb.2 b i).trans z) hd (Tq G (QB ry rl) (N3 wi))
def Zfo(B:PE X e P)(D:attributeBase e f X.env (eval e X.env)=eval e X.env:=by rfl):PE X (.Attribute e f R) (Ts X.K P f):=by
 intro b s j H Q I h;refine Qr D (aB (B b s j H _ I h) λu s1 k=>?_);obtain⟨x,L,c,n,a,C,d,fs,v,E,G,F,g,t,l,q⟩:=k;subst E;obtain rfl:u=Value.ref a:=n;obtain⟨vs,m⟩:=Sf c.ay G;obtain⟨mA,w,p,wi⟩:=JE c.ay F;obtain⟨od,z,y⟩:=Hk w;obtain⟨ox,J⟩:=m.inst z;have r:=p f;rw[l] at r;obtain⟨u,A,i⟩:=r.some_of;exact Zi5 c.cG J g (findObj_own g.hd t rfl (by rw[y,A])) (Ov i) ⟨v,L,c.tok _,i,q⟩
def ZaE:dk X (.builtin "isinstance") (Tt X.K):=by
 rintro j s E H F us Q I r ⟨a,C,d,fs,c,u,b,rfl,h,B,A,n,e,q⟩;obtain⟨p,g,rfl,v,i⟩:=vals2 r;obtain rfl:p=Value.ref a:=v;obtain⟨L,m⟩:=Sf I.ay B;obtain⟨mA,x,rl,G⟩:=JE I.ay A;obtain⟨od,y,lk⟩:=Hk x;obtain⟨w,J⟩:=m.inst y;have same:kitOne X.K (.ref C) g=Z b:=by
  have D:g=u:=by
   cases c<;>first|exact(i).trans (h).symm|skip
   all_goals (obtain⟨t1,l⟩:=i;obtain⟨t2,k⟩:=h;subst l;subst k)
   all_goals (exfalso;revert e;simp[kitOne,kitCls])
  rwa[D]
 exact jA (ZdX n) I.cG ⟨w,J⟩ same (λz=>nomatch z) λt=>⟨.bl b,H,I.tok t,rfl,q⟩
end
structure Kl(K:ai)(C:U)(m:ar)(f:U):Prop where
 ga:specialIn K (.ref C) "__getattribute__"=Z (Z (.builtin "type.__getattribute__"))
 rd:PySem.W.readsIn K C (.type "type")=af
 at_:findCls K (.ref C) (.type "type") m=Z (.val (.ref f))
 kp:keepIn K (.ref f)=af
section
variable {X:Cx}{G:lD}{k:Nat}{f C:U}{L:FuncData}{ps:O ar}{N:Sp}{P:O V}{J:O aY}{E:XK}{x m:ar}{p W T:Pos}{e:cP}{R:O cP}{t:TA}
def ZdY{j:Sem cm}(b:Kl X.K C m f)(F:aF X.prog X.w X.K X.mg X.base G k f L ps N)(o:cW k X.A)(u:Gl X x)(q:X.mg x=Z (.ref C))(w:Binds X.K L ps J)(v:Vals P J)(l:Passes G X E)(y:PA X (e::R) t)
  (z:(x==("__debug__":ar))=a7:=by decide)(A:kz X e R:=by rfl)(B:lC X W R:=by rfl)
  (n:eval (.Call (.Attribute (.Name x p) m T) (e::R) [] W) X.env=(do
   let c←eval (.Name x p) X.env
   standAt T.atName
   let(f,first)←holding [c] (getMethod c m j)
   callWith W f first (backTo W (starEach (e::R) X.env)) (backToKw W (keywordEach [] X.env))):=by rfl):
  PE X (.Call (.Attribute (.Name x p) m T) (e::R) [] W) (Cq N P E t):=by
 intro a s g H Q I h;exact q7 (wy I u q (PySem.W.method_cls I.cG b.ga (PySem.W.cls_value I.cG b.rd b.at_ rfl (ri I.ok.mod.qH b.kp (aB (y W a _ g H _ (I.tok (s.toks+1)) h) λus s2 ⟨D,H2,d,r,i⟩=>⟨d.cG,B8 F o w v l d r i⟩) A B))) z) n
end
def JG(K:ai):O V->Hp->VK->Prop:=λb H Q=>∃(a C:U) (y:V),b=[.ref a,y]/\dP K C/\H a=Z (xn a C aE)/\Q .aA H
section
variable {K:ai}
def Zb2(m:K.In s.heap)(X:dP K C)(i:s.heap.get? a=Z c)(f:c.cls=.ref C)(z:Q () s):wpAny M A (checkBuiltinCall "ValueError.__init__" ⟨.ref a::rest,[]⟩) Q E s:=by
 obtain⟨r,q,N,bs,j,o,p,I,k,H,F,D,B,y,w,l⟩:=X.nL;have b:=m _ _ l;have e:=Tp C j (.type "ValueError") QD;have G:=pz;obtain⟨h,g,d,t,os⟩:=s;simp[checkBuiltinCall,G.initKind,G.initSplit,G.initRow];repeat (first|(with_reducible refine kG i ?_;rw[f])|with_reducible refine kG b ?_|(with_reducible refine mO b ?_;rw[e])|wp_step)
 refine wpAny_onRaise ?_;rw[show ∀(u v:String) (n:Nat),Bind.check ⟨.positional,"*","ValueError",.self,[⟨"args",.varPos,a7⟩]⟩ u v n (List.map (λx=>x.fst) ({pos:=Value.ref a::rest}:Args).kw)=pure () from λu v n=>check_star_args _ _ _ _ _ _];exact cy z
end
section
variable {X:Cx}{p W T:Pos}{e:cP}{R:O cP}{t:TA}
def ZdZ(I:Inv X pins σ H s)(r:Vals xs us)(h:JG X.K xs H Q):wpAny X.md X.A (call (.builtin "ValueError.__init__") us) (EP X pins σ Q) X.xe s:=by
 obtain⟨a,C,y,rfl,A,l,q⟩:=h;obtain⟨D,j,rfl,F,r2⟩:=vals2 r;obtain rfl:D=Value.ref a:=F;obtain⟨f,w,i⟩:=B_ I.ay l;obtain⟨L,u,e2,P,d,n⟩:=id w;have G:=pz;refine mu (u4 G.init.plain G.initEntry (Zb2 I.cG A u e2 ?_));unfold Builtin.«BaseException.__init__»;show wpAny _ _ (do let E←newTuple [j];Builtin.BaseException.bexcPut (.ref a) 0 E;ret .none) _ _ _;refine bh ?_;unfold newTuple;refine lr (bh ?_);have k:=Yb {cls:=.type "tuple",dict:=aE,data:=.seq [j].toArray} u;have B:f[0]?=Z f[0]:=W0 (VD (VE n));unfold Builtin.BaseException.bexcPut;refine bh (kS k d B (bh (qD k d (VD (VE n)) ?_)));have fin:EP X pins σ Q Value.none {s with heap:=(s.heap.push {cls:=.type "tuple",dict:=aE,data:=.seq [j].toArray}).update a (Obj.mapFields (·.setIfInBounds 0 (Value.ref s.heap.objs.size)))}:=by
  have v:=ve d (·.setIfInBounds 0 (Value.ref s.heap.objs.size));have m:=Wr (Obj.mapFields (·.setIfInBounds 0 (Value.ref s.heap.objs.size))) k (u3 v);have J:=I.write (x:=a) (e:=a) (o:=xn a C aE) (t':=s.toks) (by exact l▸gT) (.inl rfl)
   (λb o N g=>by rw[Y9 _ _ (iS N)];exact Yb _ g) ⟨_,m⟩
   (Kj ⟨_,m,by rwa[Obj.cls_mapFields],by obtain⟨c,dd,da,sl⟩:=L;cases d;exact P,v,by rwa[J7]⟩ ⟨by rw[Je QD];exact i.1,by rw[Je QD];exact i.2.1,by rw[J7];exact i.2.2⟩)
  have same:upd H a (xn a C aE)=H:=by
   funext b
   by_cases z:b=a;·rw[z,aT,l]
   ·rw[aN z]
  rw[same] at J;exact⟨.aA,H,J,rfl,q⟩
 generalize f[0]=old;cases old<;>first|exact cy (cy fin)|exact xE (cy fin)|exact bh (xE (cy (cy fin)))
def Zfp{K:ai}:findCls K (.type "ValueError") (.type "type") "__init__"=Z (.val (.builtin "ValueError.__init__")):=QJ
def Tu{K:ai}:findIn K (.type "type") "__getattribute__"=Z (Z (.builtin "type.__getattribute__")):=QJ
def ZgP{K:ai}:subIn K (.type "type") (.type "type")=Z af:=QJ
def Tv:typeOf (.type "ValueError")=pure (.type "type"):=QJ
def Zh_:opaqueClassAbove (.type "ValueError")=pure aE:=QJ
def Zfq:bootBuiltins "ValueError"=Z (.type "ValueError"):=QK
def Zc2{a:de}{w:c5}{A:d6}{E:bg}{s:bR}{K:ai}{c:Sem cm}{Q:aY×O aY->bR->Prop}(b:K.In s.heap)(z:Q (.builtin "ValueError.__init__",[]) {s with toks:=s.toks+1}):
  wpAny (model a w) A (getMethod (.type "ValueError") "__init__" c) Q E s:=by
 have d:Looks (model a w) s.heap (specialOf (.type "ValueError") "__getattribute__") (Z (.builtin "type.__getattribute__")):=(Looks.of_pure Tv).andThen (looks_findIn b Tu);unfold getMethod;refine bh (d.here ?_);show wpAny _ _ (if(Manifest.canonical "type.__getattribute__" !="object.__getattribute__")=af then _ else _) _ _ _;rw[bt PySem.W.canon_tga];refine bh (PySem.W.cls_open b (Looks.of_pure Zh_) (Looks.of_pure Tv) Tu (Looks.of_pure rfl) ZgP Zfp ?_);exact cy (PySem.W.handed_on rfl (cy z))
def Zd0{i:Sem cm}(l:Gl X "ValueError")(k:X.mg "ValueError"=aE)(m:PA X (e::R) t)
  (n:kz X e R:=by rfl)(o:lC X W R:=by rfl)
  (j:eval (.Call (.Attribute (.Name "ValueError" p) "__init__" T) (e::R) [] W) X.env=(do
   let b←eval (.Name "ValueError" p) X.env
   standAt T.atName
   let(f,first)←holding [b] (getMethod b "__init__" i)
   callWith W f first (backTo W (starEach (e::R) X.env)) (backToKw W (keywordEach [] X.env))):=by rfl):
  PE X (.Call (.Attribute (.Name "ValueError" p) "__init__" T) (e::R) [] W) (nQ (JG X.K) t):=by
 intro a s c H Q I h;refine q7 (yT I l k Zfq ?_) j;refine Zc2 I.cG ?_;exact zE (aB (m W a _ c H _ (I.tok _) h) λu v ⟨r,w,q,d,g⟩=>ZdZ q d g) n o
end
def ZgQ(C:U)(g:Sp)(h:O V)(E:St->XK)(t:TA):TS:=λ_ b H=>t b H λc f=>c.length<=1000/\∀a,f a=aE->
 g (.ref a::(c++h)) (upd f a (xn a C aE)) (λv e=>v=.aA/\∃d,e a=Z (xn a C (Z d))/\E b (.ref C) (Z d) (upd e a (xo a C (Z d)))) E0
section
variable {X:Cx}{k:Nat}{f C:U}{J:FuncData}{ps:O ar}{L:Sp}{P:O V}{R:O aY}{E:St->XK}{x:ar}{p W Q:Pos}{e:cP}{T:O cP}{t:TA}
theorem Zd1(i:w8 X.K C f)(F:aF X.prog X.w X.K X.mg X.base aL k f J ps L)(hr:cW (k+1) X.A)(B:X.calm=af)(hg:Gl X x)(hm:X.mg x=Z (.ref C))(j:Binds X.K J ps R)(hd:Vals P R)(hx:Kk X E)(ha:PA X (e::T) t)
  (eP:(x==("__debug__":ar))=a7:=by decide)(he:kz X e T:=by rfl)(cB:lC X Q T:=by rfl):
  PS X (.Raise (Z (.Call (.Name x p) (e::T) [] Q)) aE W) (ZgQ C L P E t):=by
 intro w s σ H D I h;rw[arm_exec_Raise];refine bh (kI ?_);show wpAny _ X.A (raiseStmt X.env (Z (do let v←eval (.Call (.Name x p) (e::T) [] Q) X.env;standAt W;pure v)) aE) _ _ s;unfold raiseStmt;refine bh (bh ?_);refine pK (wy I hg hm ?_ eP);refine ri (h₀:=X.base) I.ok.mod.qH i.kp (aB (ha Q w s σ H _ I h) λA l zz=>?_) he cB;obtain⟨vs,H1,I1,r,lim,q⟩:=zz;refine⟨I1.cG,?_⟩;obtain⟨nm,qn,N,bs,bm,sn,sub,ab,col,dd,k0,k1,k2,k3,k5,lk⟩:=i.nL;have kc:=I1.cG _ _ lk;have fr:H1 (l.heap.objs.size+1)=aE:=I1.ay.fresh (Wk _);have hq:=q (l.heap.objs.size+1) fr;have r2:Vals (V.ref (l.heap.objs.size+1)::(vs++P)) (Value.ref (l.heap.objs.size+1)::(A++R)):=.cons rfl (r.append hd);have hl:((Value.ref (l.heap.objs.size+1)::A)++R).length=ps.length:=by
  have z:=r2.length;rw[F.len _ _ _ _ hq] at z;exact z.symm
 have here:((l.heap.push {cls:=.type "tuple",data:=.seq A.toArray}).push {cls:=.ref C,data:=.fields #[.ref l.heap.objs.size,.none,.none,.none,.bool a7,.none]}).get? (l.heap.objs.size+1)=
   Z {cls:=.ref C,data:=.fields #[.ref l.heap.objs.size,.none,.none,.none,.bool a7,.none]}:=by heap_get
 have up:∀b o,l.heap.get? b=Z o->((l.heap.push {cls:=.type "tuple",data:=.seq A.toArray}).push {cls:=.ref C,data:=.fields #[.ref l.heap.objs.size,.none,.none,.none,.bool a7,.none]}).get? b=Z o:=
  λb o z=>Yb _ (Yb _ z)
 have new:cT X.prog X.w (upd H1 (l.heap.objs.size+1) (xn (l.heap.objs.size+1) C aE)) _ (l.heap.objs.size+1) (xn (l.heap.objs.size+1) C aE):=Kj (vs:=#[.ref l.heap.objs.size,.none,.none,.none,.bool a7,.none]) ⟨_,here,rfl,rfl,rfl,by show 1<6;decide⟩ ⟨rfl,rfl,rfl⟩;have I2:=I1.laid (a:=l.heap.objs.size+1) (o:=xn (l.heap.objs.size+1) C aE) (t':=l.toks) up (Wk _) new;have L1:=looks_findIn (M:=model X.prog X.w) I1.cG i.init;have L2:=looks_typeIn (M:=model X.prog X.w) I1.cG (beq_iff_eq.mp i.fn);have ul:A.length<=sizeLine:=by
  rw[←r.length,dw];exact lg lim (by decide)
 obtain⟨m,g1,d1,t1,o1⟩:=l;refine ZdW kc (yP lk i.mP) (yP lk i.lE) (yP lk i.uV) L1 L2 (mu (lJ (F.run _ X.stack _ _ ⟨Value.ref (m.objs.size+1)::A,[]⟩ (Value.ref (m.objs.size+1)::(A++R)) _ _ E0 (hr.make C A [])
  (I2.CH.make C A []) (j _ (Value.ref (m.objs.size+1)::A) I2.cG hl) r2 hq) λr s' jU=>?_)) ul
 cases r with
 |error _=>exact False.elim jU
 |ok fl=>
  cases fl with
  |next=>exact False.elim jU
  |brk=>exact False.elim jU
  |cont=>exact False.elim jU
  |ret u=>
   obtain⟨v,H',Dr,G,un,ay,rv,rfl,d,ea,kY⟩:=jU;obtain rfl:u=Value.none:=rv;refine⟨rfl,bh (kI (cy ?_))⟩;obtain⟨ws,xr,w1,w2,_⟩:=B_ ay ea;obtain⟨oe,e1,e2,e3,e4,e5⟩:=id xr;have I3:Inv X w σ H' s':=I2.Kd (ch:=[]) Dr un ay G λb z=>absurd z QS;have VW:=I3.cG _ _ lk;have z9:=yP lk i.z9;obtain⟨oc,od,VS,jv⟩:=oe;dsimp only at e2 e3 e4;subst e2 e3 e4;have xe:X.xe (.ref (m.objs.size+1)) s':=by
    refine hx w σ H1 ⟨m,g1,d1,t1,o1⟩ _ s' I1 ⟨m.objs.size+1,C,d,upd H' (m.objs.size+1) (xo (m.objs.size+1) C (Z d)),ws,rfl,Wk _,Dr,G,?_,?_,aT,xr,⟨.inl w1,λ_=>w2⟩,kY⟩
    ·have uW:Un (cX X.stack) [] H1 H' m s'.heap:=(Un.laid up (Wk _) fr).trans un;have old:∀b o,m.get? b=Z o->b≠m.objs.size+1:=λb o j=>Y0 (Ws (Yt j));have tk:∀b u,H1 b=Z u->b≠m.objs.size+1:=λb u j z=>by rw[z,fr] at j;cases j
     exact⟨uW.keep,uW.slot,λb o j n x'=>by rw[aN (old b o j)];exact uW.free b o j n x',uW.there,λb xs j=>by rw[aN (tk b _ j)];exact uW.ig b xs j,
      λb o u j=>by rw[aN (tk b _ j)];exact uW.iR b o u j,λb ps j=>by rw[aN (tk b _ j)];exact uW.jo b ps j⟩
    ·intro b o j;by_cases z:b=m.objs.size+1
     ·subst z;rw[aT] at j;cases j;exact Tn xr
     ·rw[aN z] at j;have nz:∀c u,H' c=Z u->(u=.own b\/∃xs,u=.tup xs)->c≠m.objs.size+1:=λc u B hu y=>by
       rw[y,ea] at B;cases B;rcases hu with hu|⟨xs,hu⟩<;>cases hu
      exact(ay b o j).iQ (λ_ _ _ g=>g) (λc B=>by rw[aN (nz c _ B (.inl rfl))];exact B) λc xs B=>by rw[aN (nz c _ B (.inr ⟨_,rfl⟩))];exact B
   have hh:=I.ok.hd B;obtain⟨h',g',d',t',o'⟩:=s';repeat (first|with_reducible refine kG e1 ?_|with_reducible refine kG VW ?_|(with_reducible refine mO VW ?_;rw[z9])|with_reducible refine kS e1 rfl w1 ?_|wp_step)
   exact wpAny_raiseNew_none hh xe
end
abbrev Cx.hand(X:Cx)(a:U):Cx:={X with A:=X.A.mark (Z (.ref a)),calm:=a7}
def Cx.Ok.hand{X:Cx}(b:X.Ok)(a:U):(X.hand a).Ok:=
 ⟨b.mod,b.kind,b.glob,b.blt,b.above,b.inj,b.has,b.uM,λz=>absurd (z) Yh,b.frames,b.xw,b.sH,b.bs,b.nO,b.uo,b.sh,b.kj,b.qI⟩
section
variable {X:Cx}{σ:St}{H:Hp}{s:bR}
def Inv.hand(I:Inv X pins σ H s)(a:U):Inv (X.hand a) pins σ H s:=⟨I.ok.hand a,I.os,I.bare,I.base,I.loc,I.cell,I.free,I.iP,I.pin,I.ay,I.len⟩
def Inv.ZgR(b:X.Ok)(I:Inv (X.hand a).oX pins σ H s):Inv X pins σ H s:=⟨b,I.os,I.bare,I.base,I.loc,I.cell,I.free,I.iP,I.pin,I.ay,I.len⟩
def Inv.y6{a:aW}{b:bg}{c:aW}(d:X.Ok)(I:Inv {X with pn:=X.pn++a,xe:=b} c σ H s):Inv X a σ H s:=
 ⟨d,I.os,I.bare,I.base,I.loc,I.cell,I.free,I.iP,λp e=>I.pin p (Ys _ e),I.ay,I.len⟩
def Inv.ZgS(I:Inv X a σ H s):Inv {X with pn:=X.pn++a,xe:=c} [] σ H s:=
 ⟨⟨I.ok.mod,I.ok.kind,I.ok.glob,I.ok.blt,I.ok.above,I.ok.inj,I.ok.has,I.ok.uM,I.ok.hd,I.ok.frames,I.ok.xw,I.ok.sH,I.ok.bs,I.ok.nO,I.ok.uo,I.ok.sh,I.ok.kj,I.ok.qI⟩,
  I.os,I.bare,I.base,I.loc,I.cell,I.free,I.iP,λp b=>I.pin p (by rw[Wc] at b;exact b),I.ay,I.len⟩
theorem Inv.gone(I:Inv X pins σ H s)(hN:X.N.Nodup)(hi:X.N[i]?=Z n)(hn:s.heap.Ns X.env.locals m)
  (T:∀(i:Nat) (x:ar) (v:V),X.N[i]?=Z x->σ[i]?=Z (Z v)->uL X.env.scope x->∃u,RelV v u/\Look X.env s.heap m x u)
  (R:G.Ns X.env.locals (λx=>if x=n then v else m x))(Q:Heap.SameBut X.env.locals s.heap G):Inv X pins (σ.set i aE) H {s with heap:=G,toks:=t'}:=by
 have h:∀b o,X.dh.heap.get? b=Z o->b≠X.env.locals:=λb o d z=>absurd (Yt (z▸d)) (Nat.not_lt.mpr I.ok.above);have k:∀b o,b≠X.env.locals->s.heap.get? b=Z o->G.get? b=Z o:=λb o d E=>(Q.2 b d).trans E;have xv:∀b u,H b=Z u->b≠X.env.locals:=λb u d z=>by rw[z,I.free] at d;cases d
 refine⟨I.ok,I.os,I.bare,⟨λb o e D f x=>k b o (h b o e) (I.base.keep b o e D f x),λb o e D f x=>?_,I.base.free,λb o e x=>?_,I.base.ig,I.base.iR,I.base.jo⟩,⟨_,R,λj x w N J e3=>?_⟩,λx c e=>?_,I.free,I.iP,λp W=>?_,λb u d=>?_,?_⟩
 ·obtain⟨P,g⟩:=I.base.slot b o e D f x;exact⟨P,k b _ (h b o e) g⟩
 ·obtain⟨L,g⟩:=I.base.there b o e x;exact⟨L,k b L (h b o e) g⟩
 ·by_cases z:i=j
  ·subst z;have a:=J;rw[List.getElem?_set_self'] at a;cases q:σ[i]? with
   |none=>rw[q] at a;cases a
   |some y=>rw[q] at a;cases a
  ·rw[Vn z] at J;obtain⟨u,r,l⟩:=T j x w N J e3;refine⟨u,r,?_⟩;have ne:x≠n:=λy=>z (HX hN hi (y▸N));rcases l with⟨C,B⟩|⟨C,c,B,⟨o,t,A⟩⟩
   ·refine .inl ⟨C,?_⟩;show(if x=n then v else m x)=Z u;rwa[bu ne]
   ·exact .inr ⟨C,c,B,o,k c o (I.qJ x c B) t,A⟩
 ·obtain⟨w,o,t,A⟩:=I.cell x c e;exact⟨w,o,k c o (I.qJ x c e) t,A⟩
 ·obtain⟨C,B,t,A⟩:=I.pin p W;exact⟨k p.1 p.2 t C,B,t,A⟩
 ·refine(I.ay b u d).iQ (λc o F E=>k c o ?_ E) (λ_ q=>q) λ_ _ q=>q;rcases F with rfl|F;·exact xv _ _ d
  ·exact xv _ _ F
 ·rw[W6];exact I.len
end
section
variable {K:ai}
def Zc3(h:K.In s.heap)(G:dP K B)(F:dP K C)(j:gQ s.heap a C d H)(o:mroIn K C (.ref B)=Z b)(z:Q b s):wpAny M A (excMatches (.ref a) (.ref B)) Q E s:=by
 obtain⟨R,q,N,bs,v,I,J,ab,w,dd,k0,k1,k2,k3,k5,l⟩:=G.nL;obtain⟨n,L,N',x,u,k,m,y,D,iV,l0,l1,X,W,T,e⟩:=F.nL;have g:=h _ _ l;have p:=h _ _ e;obtain⟨P,t,r,_⟩:=j;have i:=Tp B v (.type "BaseException") QD;have c:=yP e o;have f:=tc_notTuple;unfold excMatches;repeat (first|(with_reducible refine kG t ?_;rw[r])|with_reducible refine kG g ?_|(with_reducible refine mO g ?_;rw[i])|(with_reducible refine mO p ?_;rw[c])|wp_step)
 cases b<;>(wp_walk;exact z)
def Zfr{l:Nat}(h:gQ s.heap a C d i)(m:xG l H s.heap i)(z:Q () s):wpAny M A (setFlight (.ref a) aE) Q E s:=by
 obtain⟨n,f,q,p,e,o⟩:=h;rcases m with y|⟨T,k,j,y,_,_,c,g,b⟩
 ·refine bh (kS f e y ?_);exact cy z
 ·refine bh (kS f e y ?_);refine qD c g (Jv.mp b).1 ?_;have same:=Heap.update_setField_same s.heap T k j 3 Value.none c g b;simp_all
end
def hX(K:ai)(B:U)(i:Nat)(g:TS)(D:Ends):St->XK:=λf c o H=>∃C d,c=.ref C/\o=Z d/\dP K C/\mroIn K C (.ref B)=Z af/\
 ∀a,H a=Z (xo a C (Z d))->g {nx:=λb e=>D.nx (b.set i aE) e,rt:=D.rt,bk:=λb e=>D.bk (b.set i aE) e,ct:=λb e=>D.ct (b.set i aE) e} (f.set i (Z (.ref a))) H
section
variable {X:Cx}{B:U}{i:Nat}{n x:ar}{W N:O cb}{L:cb}{G T R:Pos}{F:(St->XK)->TS}{P:TS}
theorem ZgT{b:cm}(y:X.stack=X.env::X.outer/\X.env.frame=Z X.env.locals)(hN:X.N.Nodup)(hi:X.N[i]?=Z n)(hl:X.env.scope.names.lookup n=Z .local)(hg:Gl X x)(hm:X.mg x=Z (.ref B))(XB:dP X.K B)
  (hb:∀pn t E,zh b {X with pn:=pn,xe:=t} E->PassesOwn X.md X.A X.env t->fW {X with pn:=pn,xe:=t} W (F E))
  (hh:∀a,fW (X.hand a).oX (L::N) P)(eP:(x==("__debug__":ar))=a7:=by decide):
  PS X (.Try W [.ExceptHandler (Z (.Name x G)) (Z n) (L::N) T] [] [] R) (λD σ H=>F (hX X.K B i P D) D σ H):=by
 intro c s σ H D I h;refine bh (kI (wpAny_tryStmt_except ?_));let t:aY->bR->Prop:=λe A=>wpAny X.md X.A (noteFrame e X.env) (λ_ s2=>wpAny X.md X.A (setFlight e aE) (λ_ s3=>wpAny X.md X.A (handleBy e X.env [.ExceptHandler (Z (.Name x G)) (Z n) (L::N) T]) (SP X c D) X.xe s3) X.xe s2) X.xe A;have px':zh b {X with pn:=X.pn++c,xe:=t} (hX X.K B i P D):=by
  intro Kc l H1 A e s' I' cx;have st:X.A.frames=Z (X.env::X.outer):=by exact y.1▸I.ok.frames
  have f1:A.heap.FunFrames X.base (X.env::X.outer):=by exact y.1▸I'.stack
  have f2:∀b∈cX (X.env::X.outer),H1 b=aE:=by exact y.1▸I'.BE
  refine Qz st f1 f2 y.2 (by rwa[←y.1]) λs3 c3=>?_;rw[←y.1] at c3;obtain⟨a,C,d,o,vs,rfl,lo,J,ea,xr,⟨fl,_⟩,C',d',ec,ed,XC,mt,q⟩:=I'.Sg c3;cases ec;cases ed;have J2:=J.y6 I.ok;refine wpAny_handleBy_cons (codeAny_handlers_test (wy (J2.hand a) hg hm (Zc3 J2.cG XB XC xr mt (codeAny_handlers_suite_as (Zfr xr fl (Bq (v:=.ref a) J2 hN hi (.inl hl) rfl (λs4 J4=>dy (hh a c s4 _ _ _ ((J4.hand a).kY _) (q a ea)) (λf s5 z=>?_) λ _ _=>False.elim) (.inr hl))))) eP)) (by intro z;cases z);have fin:∀{p:St} {r:Hp},Inv (X.hand a).oX c p r s5->∀Q:Unit->bR->Prop,(∀w,Inv X c (p.set i aE) r w->Q () w)->wpAny X.md X.A (do bindName X.env n .none;unbindBehindTheSuite X.env n T) Q X.xe s5:=by
   intro p r j Q k;have g:=Inv.ZgR I.ok j;obtain⟨m,hn,lk⟩:=g.loc;refine wpAny_nameGoes_keeps (hl) hn (by rw[I.ok.kind];rfl) λh' v n2 sb=>k _ (g.gone hN hi hn lk n2 sb)
  cases f with
  |next=>
   obtain⟨p,r,j,z⟩:=z;exact fin j _ λw g=>⟨_,_,g,z⟩
  |brk=>
   obtain⟨p,r,j,z⟩:=z;exact fin j _ λw g=>⟨_,_,g,z⟩
  |cont=>
   obtain⟨p,r,j,z⟩:=z;exact fin j _ λw g=>⟨_,_,g,z⟩
  |ret u=>
   obtain⟨v,p,r,j,rv,z⟩:=z;exact fin j _ λw g=>⟨_,_,_,g,rv,z⟩
 refine dy (hb _ t _ px' (PassesOwn.looking) [] s σ H D I.ZgS h) (λf A z=>?_) λ_ _ z=>z;cases f with
 |next=>
  obtain⟨l,o,J,q⟩:=z;exact cy ⟨l,o,J.y6 I.ok,q⟩
 |brk=>
  obtain⟨l,o,J,q⟩:=z;exact⟨l,o,J.y6 I.ok,q⟩
 |cont=>
  obtain⟨l,o,J,q⟩:=z;exact⟨l,o,J.y6 I.ok,q⟩
 |ret u=>
  obtain⟨v,l,o,J,rv,q⟩:=z;exact⟨v,l,o,J.y6 I.ok,rv,q⟩
end
def Zi6(K:ai)(e:TE):TE:=λd H Q=>e d H λx c=>(∃y:ar,x=.str y/\y.length<=sizeLine/\Q (.str y) c)\/(∃i:Int,x=.int i/\i.natAbs.log2<1920/\Q (.str (toString i)) c)\/
 ∃(a:U) (b:O Int),x=.ref a/\az K c a (b.map V.int)/\(∀n∈b,n.natAbs.log2<1920)/\(PyData.tuple (b.map PyData.int)).shown.length<=sizeLine/\Q (.str (PyData.tuple (b.map PyData.int)).shown) c
theorem Zb3{b:O Int}:∀{a:O aY},Vals (b.map V.int) a->∃as,ReadsAll h a (b.map PyData.int) as:=by
 induction b with
 |nil=>intro a r;cases r;exact⟨[],.nil⟩
 |cons n r e=>
  intro a q;cases q with
  |cons d c=>
   obtain⟨t,rfl⟩:=d;obtain⟨as,z⟩:=e c;exact⟨_,.cons (.int n t) z⟩
theorem Zc4{a:O Int}(h:∀n∈a,n.natAbs.log2<1920):PyData.showableAll (a.map PyData.int)=af:=by
 induction a with
 |nil=>rfl
 |cons n r b=>
  show(decide (n.natAbs.log2<1920)&&PyData.showableAll (r.map PyData.int))=af
  grind
theorem Zbc(a:O Int):PyData.hasDictAll (a.map PyData.int)=a7:=by
 induction a with
 |nil=>rfl
 |cons n r b=>exact b
theorem Zb4(a:O Int):PyData.depthAll (a.map PyData.int)=0:=by
 induction a with
 |nil=>rfl
 |cons n r b=>
  show max (PyData.int n).depth (PyData.depthAll (r.map PyData.int))=0;rw[b];rfl
def Sj(m:cW j X.A)(J:PE X e w):PE X (.FormattedValue e (-1) aE pos) (Zi6 X.K w):=by
 intro b s p H Q I h;refine wpAny_FormattedValue_plain (aB (J b s p H _ I h) λu N v=>?_);obtain⟨x,d,c,f,q⟩:=v;rcases q with⟨y,rfl,D,q⟩|⟨i,rfl,E,q⟩|⟨a,k,rfl,G,A,sz,q⟩
 ·obtain⟨t,rfl⟩:=f;exact wpAny_formatField_str ⟨.str y,d,c,⟨t,rfl⟩,q⟩ ⟨.str y,d,c.tok _,⟨_,rfl⟩,q⟩ D
 ·obtain⟨t,rfl⟩:=f;exact wpAny_formatField_int E ⟨.str (toString i),d,c.tok _,⟨_,rfl⟩,q⟩
 ·obtain rfl:u=Value.ref a:=f;obtain⟨aj,r,⟨o,g,C,n,B⟩,R⟩:=c.tuple G;obtain⟨W,P⟩:=Zb3 r;refine formatField_of_reads (.tuple g C B (by rwa[List.toList_toArray])) (Zc4 A) (λz=>?_) m.gd ?_ (λ_ _ z=>z) (λT u L F=>⟨.str (PyData.tuple (k.map PyData.int)).shown,d,c.kept F,⟨u,rfl⟩,q⟩) sz
  ·have l:PyData.hasDictAll (k.map PyData.int)=af:=z;rw[Zbc] at l;cases l
  ·show X.A.units+(PyData.depthAll (k.map PyData.int)+1+2)<cLine;rw[Zb4];have:=m.un;omega
abbrev TJ:=ar->St->Hp->(ar->Hp->Prop)->Prop
def PJ(X:Cx)(f:O cP)(t:TJ):Prop:=
 ∀(a:aW) (s:bR) (c:St) (H:Hp) (b:ar) (R:ar->Hp->Prop) (Q:ar->bR->Prop),Inv X a c H s->t b c H R->(∀y d e,Inv X a c e d->R y e->Q y d)->PySem.Joins X.md X.A X.xe (evalEach f X.env) b Q s
def Zi7:TJ:=λa _ H R=>R a H
def Zia(d:TE)(c:TJ):TJ:=λa b H R=>d b H λx e=>∃y,x=.str y/\(a++y).length<=sizeLine/\c (a++y) b e R
def Zib(t:TJ):TE:=λa H Q=>t Str.empty a H λy b=>y.length<=sizeLine/\Q (.str y) b
def ZgU:PJ X [] Zi7:=λ_ s _ H a _ _ I h k=>k a s H I h
def IF(n:PE X e g)(m:PJ X p t):PJ X (e::p) (Zia g t):=by
 intro a s c H b R Q I h k;refine aB (n a s c H _ I h) λu i d=>?_;obtain⟨x,v,r,j,y,o,l,q⟩:=d;subst o;obtain⟨f,rfl⟩:=j;exact⟨y,f,rfl,l,m a i c v (b++y) R Q r q k⟩
def Zfs(h:PJ X (e::f::d) t):PE X (.JoinedStr (e::f::d) pos) (Zib t):=by
 intro a s b H Q I c;refine wpAny_JoinedStr (h a s b H Str.empty _ _ I c λy j i g ⟨l,q⟩=>⟨l,.str y,i,g.tok _,⟨_,rfl⟩,q⟩)
end L2
namespace L2
open PySem PySem.Spec PyProof.Rows
structure Bl(mg:aV):Prop where
 Cv:mg "len"=aE
 Zic:mg "abs"=aE
 wG:mg "list"=aE
 ke:mg "range"=aE
 oK:mg "tuple"=aE
 Zid:mg "any"=aE
 Tw:mg "all"=aE
 NC:mg "isinstance"=aE
 Ca:mg "bool"=aE
 Tx:mg "int"=aE
 zk:mg "str"=aE
 Bs:mg "sorted"=aE
 Zie:mg "min"=aE
 Zif:mg "max"=aE
 Zk3:mg "sum"=aE
 ZgV:mg "dict"=aE
 ZkM:mg "reversed"=aE
 ZaF:mg "ValueError"=aE
def Zi8{K:ai}(a:X.calm=af)(h:X.K=K):dk X (.builtin "any") (Ux K):=h▸ZS a
def UE{K:ai}(a:X.calm=af)(h:X.K=K):dk X (.builtin "all") (Uy K):=h▸ZT a
def sortedK{K:ai}(h:X.K=K):dk X (.builtin "sorted") (IE K):=h▸NG
def nS{K:ai}(h:X.K=K):cM X (compareOp .In) (zX K a7):=h▸ZcU
def JH{K:ai}(h:X.K=K):cM X (compareOp .NotIn) (zX K af):=h▸ZaC
def QE{K:ai}(h:X.K=K):jw X (LA K):=h▸ZgD
structure zC(K:ai)(x qual:ar)(st:cb)(f:U)(fd:FuncData):Prop where
 ex:∃(oc:aY) (od:bS U) (dV kV doc pm:aY) (an:bS U) (bM ct:aY) (jv:c7 (bS aY)),
  fd=fnOf x qual (l_ st) (jd st) (aH st) dV kV doc pm an bM ct/\K.lookup f=Z ⟨oc,od,.func fd,jv⟩/\codeIn K bM qual=af
 kp:keepIn K (.ref f)=af
section
variable {P:de}{w:c5}{K:ai}{W:aV}{X:cY}
def zC.ok{x c:ar}{e:cb}{f:U}{l:FuncData}{N i:O ar}{k:Nat}{sp:Sp}(F:zC K x c e f l)(a:aP N i (aH e))(j:∀d H Q E,sp d H Q E->d.length=i.length)
  (m:∀(g:aY) (A:d6) (b:O Env) (s:bR) (H:Hp) (d:O V) (Q:VK) (E:XK),cW k (A.deeper (envOfC c (aH e) s.heap.objs.size f g))->sp d H Q E->
   ∃t,fW (kZ aL P w K W X N c (aH e) f g A b s H E).oX (jd e) t/\t {nx:=λ_ v=>Q .aA v,rt:=Q} (start N d) H):aF P w K W X aL (k+1) f l i sp:=by
 obtain⟨z,y,C,kV,u,pm,G,g,D,B,rfl,o,r⟩:=F.ex;refine Kh o r a j λA b s H d Q E p n=>?_;obtain⟨t,h,q⟩:=m g A b s H d Q E p n;exact⟨t,h.oX,q⟩
end
def Sk{K:ai}:kitOne K (.type "int") (.type "int")=Z af:=QJ
def JI{K:ai}:kitOne K (.type "int") (.type "bool")=Z a7:=QJ
def Sl{K:ai}:kitOne K (.type "bool") (.type "bool")=Z af:=QJ
def ZgW{K:ai}:kitOne K (.type "str") (.type "bool")=Z a7:=QJ
def ZgX{K:ai}:kitOne K (.type "str") (.type "int")=Z a7:=QJ
def Sm{K:ai}:kitOne K (.type "str") (.type "str")=Z af:=QJ
def ZgY{K:ai}:kitOne K (.type "list") (.type "bool")=Z a7:=QJ
def ZgZ{K:ai}:kitOne K (.type "list") (.type "int")=Z a7:=QJ
def Zg0{K:ai}:kitOne K (.type "list") (.type "str")=Z a7:=QJ
def Zg1{K:ai}:kitOne K (.type "list") (.type "list")=Z af:=QJ
def Zg2{K:ai}:kitOne K (.type "list") (.type "tuple")=Z a7:=QJ
def Zg3{K:ai}:kitOne K (.type "tuple") (.type "bool")=Z a7:=QJ
def Zg4{K:ai}:kitOne K (.type "tuple") (.type "int")=Z a7:=QJ
def Zg5{K:ai}:kitOne K (.type "tuple") (.type "str")=Z a7:=QJ
def Zg6{K:ai}:kitOne K (.type "tuple") (.type "list")=Z a7:=QJ
def Zg7{K:ai}:kitOne K (.type "tuple") (.type "tuple")=Z af:=QJ
def Ho(a:O Int)(o:bS Int):(a++o.toList).map V.int=a.map V.int++o.toList.map V.int:=QS
inductive Dt where
 |aA|bl (b:cm)|int (i:Int)|str (x:ar)|lst (a:List Dt)|tup (a:List Dt)
def At(H:Hp):Nat->V->Dt->Prop
 |_,v,.aA=>v=.aA
 |_,v,.bl b=>v=.bl b
 |_,v,.int i=>v=.int i
 |_,v,.str x=>v=.str x
 |0,_,.lst _=>False
 |0,_,.tup _=>False
 |m+1,v,.lst ds=>∃a c,v=.ref a/\H a=Z (.lst c)/\ds.length<=1000/\Paired (At H m) c ds
 |m+1,v,.tup ds=>∃a c,v=.ref a/\H a=Z (.tup c)/\ds.length<=1000/\Paired (At H m) c ds
theorem At.same(g:ak H j):∀{m:Nat} {v:V} {d:Dt},At H m v d->At j m v d
 |_,_,.aA,h=>by unfold At at h⊢;exact h
 |_,_,.bl _,h=>by unfold At at h⊢;exact h
 |_,_,.int _,h=>by unfold At at h⊢;exact h
 |_,_,.str _,h=>by unfold At at h⊢;exact h
 |0,_,.lst _,h=>by unfold At at h;exact h.elim
 |0,_,.tup _,h=>by unfold At at h;exact h.elim
 |m+1,_,.lst _,h=>by
  obtain⟨a,b,e,i,f,c⟩:=h;exact⟨a,b,e,g _ _ i,f,L2.Paired.bA c λ _ _=>At.same g⟩
 |m+1,_,.tup _,h=>by
  obtain⟨a,b,e,i,f,c⟩:=h;exact⟨a,b,e,g _ _ i,f,L2.Paired.bA c λ _ _=>At.same g⟩
section
variable {H:Hp}{m:Nat}
def Zig(b:cm):At H m (.bl b) (.bl b):=by unfold At;rfl
def Cb(i:Int):At H m (.int i) (.int i):=by unfold At;rfl
def r6(x:ar):At H m (.str x) (.str x):=by unfold At;rfl
def JJ(h:H a=Z (.tup xs))(l:ds.length<=1000)(p:Paired (At H m) xs ds):At H (m+1) (.ref a) (.tup ds):=by unfold At;exact⟨a,xs,rfl,h,l,p⟩
def Sn(h:H a=Z (.lst xs))(l:ds.length<=1000)(p:Paired (At H m) xs ds):At H (m+1) (.ref a) (.lst ds):=by unfold At;exact⟨a,xs,rfl,h,l,p⟩
theorem BN:∀a:O Int,Paired (At H m) (a.map V.int) (a.map Dt.int)
 |[]=>.nil
 |n::r=>.cons (Cb n) (BN r)
end
theorem gK:∀{b:O α} {a:O β} {i:Nat} {x:α},Paired F b a->b[i]?=Z x->∃y,a[i]?=Z y/\F x y:=by
 intro b a i x h;induction h generalizing i with
 |nil=>intro e;simp at e
 |cons r t c=>
  intro e;cases i with
  |zero=>
   have e:=Yo (by simpa using e);subst e;exact⟨_,rfl,r⟩
  |succ i=>
   obtain⟨y,f,d⟩:=c (by simpa using e);exact⟨y,by simpa using f,d⟩
theorem cK:∀{b:O α} {a:O β},Paired F b a->b.length=a.length:=by
 intro b a h;induction h with
 |nil=>rfl
 |cons _ _ c=>rw[Wf,Wf,c]
def Pl{i:Nat}(h:xs[i]?=Z x):dO xs (0+(i:Int))=Z x:=by
 rw[show(0:Int)+(i:Int)=(i:Int) from by omega];exact jb h
def XP(H:Hp)(C:U)(c:ar)(E:XK):Prop:=∀(a d:U) (b:Hp),H a=aE->H d=aE->ak H b->b a=Z (xo a C (Z d))->b d=Z (xq d [("word",.str c)])->E (.ref C) (Z d) b
def w8.of{K:ai}{C f:U}(x:dP K C)(a:PySem.W.findIn K (.ref C) "__init__"=Z (Z (.ref f)))(m:isFn K (.ref f)=af)(e:keepIn K (.ref C)=af):w8 K C f:=by
 obtain⟨d,q,N,bs,s,c,sub,p,b,o,k,j,i,h,g,l⟩:=id x.nL;have no:∀n:String,qE.contains (.type n)=a7->PySem.W.mroIn K C (.type n)=Z a7:=λn r=>by
  unfold PySem.W.mroIn PySem.W.clsIn
  grind
 exact⟨⟨d,q,N,bs,_,c,sub,p,b,o,k,j,i,h,g,l⟩,x.mro _ QD,x.mro _ QD,no _ QD,no _ QD,a,m,e⟩
def Pm{K:ai}(C:U):kitOne K (.ref C) (.ref C)=Z af:=by unfold kitOne;rw[bt (beq_self_eq_true _)]
def Zft:O V->Hp->VK->Prop:=λa H Q=>∃(p:U) (n:Nat),a=[.ref p]/\H p=Z (.ku 0 (n:Int))/\n<=1000/\∀l:U,H l=aE->Q (.ref l) (upd H l (.tup ((bG n).map V.int)))
section
variable {X:de}{w:c5}{A:d6}{E:bg}{s:bR}
theorem Zbd{Q:O aY->bR->Prop}{r:U}{n:Nat}{t u v:Tok}(F:A.handled=aE)(l:IsRange s.heap r 0 (n:Int) 1 t u v)(D:n<=1000)
  (k:∀g h (d:c7 aY),(∀b o,s.heap.get? b=Z o->g.get? b=Z o)->ItemsOf (λi v=>∃t,v=.int (0+i*1) t) d n->Q d.toList {s with heap:=g,toks:=h}):
  wpAny (model X w) A (collect (.ref r)) Q E s:=by
 refine bh (wpAny_runValue (Pe PySem.F.entry_proto_collect (bh (lr (cy ⟨plainId_quiet PySem.F.plain_list_iadd _,Pe PySem.F.entry_list_iadd ?_⟩)))));have y:∀s':bR,(∃(g:cY) (h:Nat) (d:c7 aY) (c:Nat),s'={s with heap:=g,toks:=h}/\(∀b o,b≠s.heap.objs.size->(s.heap.push {cls:=.type "list",data:=.seq ([]:O aY).toArray}).get? b=Z o->g.get? b=Z o)/\
   g.get? s.heap.objs.size=Z {cls:=.type "list",dict:=aE,data:=.seq d c,slots:=#[]}/\ItemsOf (λi v=>∃t,v=.int (0+i*1) t) d n)->
   wpAny (model X w) A (match Value.ref s.heap.objs.size with
    |Value.ref a=>do
     match(←load a).data with
      |Data.seq xs _=>pure xs.toList
      |_=>unsupported "internal:collect"
    |_=>unsupported "internal:collect") Q E s':=by
  rintro s' ⟨g,h,d,c,rfl,j,here,m⟩;exact bh (wpAny_load here (cy (k g h d (λb o p=>j b o (Y0 (Yt p)) (Yb _ p)) m)))
 refine dy (wpAny_extend_range (s:={s with heap:=s.heap.push {cls:=.type "list",data:=.seq ([]:O aY).toArray}})
  (R:=λr s'=>r=.ok (.ret (.ref s.heap.objs.size))/\∃(g:cY) (h:Nat) (d:c7 aY) (c:Nat),s'={s with heap:=g,toks:=h}/\(∀b o,b≠s.heap.objs.size->(s.heap.push {cls:=.type "list",data:=.seq ([]:O aY).toArray}).get? b=Z o->g.get? b=Z o)/\
   g.get? s.heap.objs.size=Z {cls:=.type "list",dict:=aE,data:=.seq d c,slots:=#[]}/\ItemsOf (λi v=>∃t,v=.int (0+i*1) t) d n)
  F (Yb _ l) (xW (by decide) (by decide) QO QO) (by rw[vI];split<;>omega) (dW D (by decide)) _ _ 0 (Yu _ rfl) λg h d c j here m=>⟨rfl,g,h,d,c,rfl,j,here,m⟩) (λfin s' z=>?_) λe s' z=>?_
 ·cases fin with
  |done f=>obtain⟨q,x⟩:=z;cases q;exact y _ x
  |again G=>exact⟨z.1,lJ z.2 λr B l=>by obtain⟨rfl,C⟩:=l;exact y B C⟩
 ·cases z.1
def Zfu(r:U)(n:Nat)(t u v:Tok)(y:n<=1000):
  Meets (Builtin.«tuple.__new__» ⟨[.type "tuple",.ref r],[]⟩) (λA R s=>A.handled=aE/\IsRange s.heap r 0 (n:Int) 1 t u v/\∀(a:cY) (f:Nat) (acc:c7 aY),(∀b o,s.heap.get? b=Z o->a.get? b=Z o)->ItemsOf (λi v=>∃t,v=.int (0+i*1) t) acc n->
   R (.ok (.ret (.ref a.objs.size))) {s with heap:=a.push {cls:=.type "tuple",data:=.seq acc},toks:=f}):=
 .of_wp λX w A R s h=>by
  obtain⟨C,g,d,f,os⟩:=s;obtain⟨z,j,q⟩:=h;have sub:=sub_tuple_self;have x:=init_tuple_lookup;have B:=madeHere_tuple;have c:A.in1.handled=aE:=z
  wp_walk using PySem.AutoSeq1.wpAny_loadPart' j,wpAny_typeOf ty,Zbd (A:=A.in1) c j y
  intro a l acc p k;show wpAny _ _ (Builtin.Tuple.tupleExact acc.toList.toArray>>=λv=>ret v) _ _ _;unfold Builtin.Tuple.tupleExact;have m:acc.toList.toArray.size<=sizeLine:=by
   have e:=k.1;rw[dw];simp;exact lg (Xr e) (lg y (by decide))
  refine bh (lr (cy ⟨_,rfl,?_⟩) m);have e:acc.toList.toArray=acc:=QS
  exact e▸q a l acc p k
end
def Nu(D:X.calm=af):dk X (.type "tuple") Zft:=by
 intro c s l H J L Q I r h;obtain⟨p,n,rfl,A,g,q⟩:=h;obtain⟨u,rfl,y⟩:=vals1 r;cases y;obtain⟨t,u,v,B⟩:=I.ay p _ A;refine callType_new PySem.F.called_tuple QD (PySem.F.typeCall_tuple_1 _) (PySem.F.newCall_tuple_1 _) (λobj=>PySem.F.args_object_init_2 obj _) PySem.F.entry_tuple_new (Zfu p n t u v g) ⟨I.ok.hd D,B,λd f a z j=>⟨⟨_,Yu _ rfl,rfl⟩,?_⟩⟩;have k:=I.kept (t':=f) z;have m:Vals ((bG n).map V.int) a.toList:=by
  refine F9 (by rw[Ya,fK];simp[j.1]) λi x u e F=>?_;obtain⟨w,rfl⟩:=j.2 i u (by simpa using F);have C:i<n:=by
   have:=(Yl.mp e).1;rw[Ya,fK] at this;exact this
  rw[Yf,m9 C] at e;have E:=Yo e;subst E;exact⟨w,by rw[show(0:Int)+(i:Int)*1=(i:Int) by omega]⟩
 have G:Inv X c l (upd H d.objs.size (.tup ((bG n).map V.int))) {s with heap:=d.push {cls:=.type "tuple",data:=.seq a},toks:=f}:=
  k.laid (λ b o=>Yb _) (Ye _) (show cT X.prog X.w _ _ _ (.tup _) from⟨by rw[Ya,fK];exact Jn (kO g),a.toList,m,by simpa using ng.new d a⟩)
 exact⟨.ref d.objs.size,_,G,rfl,q _ (k.ay.fresh (Ye _))⟩
inductive QF(K:ai)(c:O V)(H:Hp)(Q:VK):Prop
 |mk (a C:U) (b y:ar) (k:c=[.ref a,.str b,.str y]) (j:H a=Z (xn a C aE)) (h:dP K C) (i:du K C "word") (g:b.length<=100) (f:y.length<=1000000) (e:∀d,H d=aE->d≠a->Q .aA (upd (upd H d (xq d [("word",.str b)])) a (xn a C (Z d)))):QF K c H Q
def TB(K:ai):Sp:=λa H Q _=>QF K a H Q
def TC(b:ar)(c:U):Sp:=λe H Q _=>∃(a:U) (y:ar),e=[.ref a,.str y]/\H a=Z (xn a c aE)/\y.length<=1000000/\
 ∀d,H d=aE->d≠a->Q .aA (upd (upd H d (xq d [("word",.str b)])) a (xn a c (Z d)))
abbrev xH:O ar:=["self","why"]
def Cc(P:de)(w:c5)(K:ai)(b:aV)(a:cY)(x f:ar)(c:U):Prop:=
 ∃d e,w8 K c d/\aF P w K b a aL 2 d e xH (TC f c)/\Binds K e xH []/\b x=Z (.ref c)/\dP K c/\du K c "word"
def tW(c:TE)(R:St->Hp->VK):TE:=λa H Q=>c a H (R a H)/\∀v b,R a H v b->Q v b
def PE.weak(h:PE X e d)(R:St->Hp->VK):PE X e (tW d R):=λa s b H Q I ⟨q,k⟩=>aB (h a s b H (R b H) I q) λ_ _ ⟨v,c,f,r,z⟩=>⟨v,c,f,r,k v c z⟩
def Zfv(c:U)(b:ar)(E:St->XK)(d:TE):TS:=λ_ a H=>d a H λv e=>∃y:ar,v=.str y/\y.length<=1000000/\XP e c b (E a)
def OE{X:Cx}{j:Nat}{x i:ar}{c:U}{E:St->XK}{e:cP}{t:TE}{p k T:Pos}(h:Cc X.prog X.w X.K X.mg X.base x i c)(J:cW j X.A)(L:3<=j)(Q:X.calm=af)(N:Gl X x)(G:Kk X E)(P:PE X e t)
  (R:(x==("__debug__":ar))=a7:=by decide)(w:starEach [e] X.env=[(a7,eval e X.env)]:=by rfl):
  PS X (.Raise (Z (.Call (.Name x p) [e] [] T)) aE k) (Zfv c i E t):=by
 obtain⟨fi,fd,B,F,b,m,W,na⟩:=h;intro f s g H D I q;refine Zd1 B F (J.mono L) Q N m b .nil G (aa (P.weak λg _ v r=>∃y:ar,v=.str y/\y.length<=1000000/\XP r c i (E g)) ae w) R w rfl f s g H D I ⟨q,?_⟩;rintro v r ⟨y,rfl,C,A⟩;refine⟨by show 1<=1000;decide,λa u=>⟨a,y,rfl,aT,C,λd hd l=>⟨rfl,d,aT,?_⟩⟩⟩;have z:r d=aE:=by rw[aN l] at hd;exact hd
 refine A a d _ u z (λb o e=>?_) aT ?_
 ·have n:=cE e u;rwa[aN n,aN n,aN (cE e z),aN n]
 ·rw[aN l,aN l,aT]
def Zd2{K:ai}(h:X.K=K):dk X (.builtin "isinstance") (Tt K):=h▸ZaE
def Zd3{X:Cx}{K:ai}{e:cP}{b:TE}{f:ar}{a:Pos}(h:X.K=K)(c:PE X e b)(d:attributeBase e f X.env (eval e X.env)=eval e X.env:=by rfl):PE X (.Attribute e f a) (Ts K b f):=h▸Zfo c d
end L2
namespace L2
open PySem PySem.Spec PyProof.Rows
open PySem.W (Looks InstAt looks_findIn looks_typeIn looks_clsIn looks_mroIn looks_find findObj findIn mroIn clsIn)
end L2
namespace DB
open L2
def GJ(n:Nat):(bG n).Nodup:=by
 exact List.Pairwise.map _ (λa b h e=>h (lP e)) ME
end DB
namespace L2
open PySem PySem.Spec PyProof.Rows
def Row(K:ai)(H:Hp)(p:U)(a:O Int):Prop:=aq K H p (a.map V.int)\/az K H p (a.map V.int)
def Row.same{K:ai}{H a:Hp}{p:U}{ns:O Int}(e:ak H a)(h:Row K H p ns):Row K a p ns:=by
 rcases h with h|h;·exact .inl (e.seq h)
 ·exact .inr (e.jV h)
def full(a:O Int):cm:=decide (a.Perm (bG a.length))
def rL(h:full ns=af):ns.Perm (bG ns.length):=eB h
def tU(h:ns.Perm (bG n)):full ns=af:=dg (by rwa[h.length_eq,fK])
def Zbe(n:Nat):(bG n).Pairwise (·<=·):=by
 unfold bG;rw[Wt];exact List.pairwise_lt_range.imp λh=>QO
theorem N4:∀{c bs:O Int},c.Perm bs->c.Pairwise (·<=·)->bs.Pairwise (·<=·)->c=bs
 |[],bs,p,_,_=>by
  simp_all
 |a::c,[],p,_,_=>by
  simp_all
 |a::c,b::bs,p,f,d=>by
  rw[List.pairwise_cons] at f d;have e:a=b:=by
   have h:=p.subset Yk;have g:=p.symm.subset Yk
   grind
  subst e;rw[N4 (List.Perm.cons_inv p) f.2 d.2]
def Zbf(p:a.Perm ns)(h:a.Pairwise (·<=·)):decide (a=bG ns.length)=full ns:=by
 unfold full;rw[Wm,eR,eR];constructor;·grind
 ·intro q;exact N4 (p.trans q) h (Zbe _)
def TH(K:ai)(a:cm)(b:TE):TE:=ju (UA K a) (nQ (IE K) (ib b jr)) (nQ Pf (ib (nQ Qw (ib (nQ (zB K) (ib b jr)) jr)) jr))
def Zd4{K:ai}(c:σ[i]?=Z (Z (.ref p)))(d:Row K H p ns)(j:ns.length<64)(q:∀g,ak H g->Q (.bl (if neg=af then !full ns else full ns)) g):
   (TH K neg (fU i)) σ H Q:=by
 refine⟨_,c,p,ns,rfl,d,j,λl f k pm h=>?_⟩;have e:ak H (upd H l (.lst (f.map V.int))):=cF k _;refine⟨_,c,p,ns.map V.int,rfl,Row.same e d,_,rfl,λr a=>⟨r,(ns.map V.int).length,rfl,aT,by rw[Ya];exact uQ (oV j (by decide)),λu b=>?_⟩⟩;have m:=(e.trans (cF a (.ku 0 (((ns.map V.int).length:Nat):Int)))).trans (cF b (.lst ((bG (ns.map V.int).length).map V.int)));refine⟨l,u,f,bG (ns.map V.int).length,rfl,rfl,aq.of ?_,aq.of aT,?_⟩
 ·rw[aN (cE ((cF a _) _ _ aT) b)];exact(cF a _) _ _ aT
 ·rw[Ya,Zbf pm h]
  (split<;>simp_all)
theorem any_false(n:Nat):(List.replicate n a7).any id=a7:=by
 induction n with
 |zero=>rfl
 |succ n a=>grind
section
open PySem.AutoSeq1 (wpAny_loadPart')
open PySem.MeetsSeq PySem.SeqAt
def Z_(l:U)(a:c7 aY)(n:Nat)(J:bS U)(C:c7 (bS aY))(x:aY)(e:aY->cm)(j:Nat)(F:j<a.size)
  (p:e a[j]=af)(z:∀m (L:m<a.size),m<j->e a[m]=a7):
  Meets (Builtin.«tuple.index» ⟨[.ref l,x],[]⟩)
   (λA R s=>s.heap.get? l=Z {cls:=.type "tuple",dict:=J,data:=.seq a n,slots:=C}/\(∀y,y∈a->EqAt A.in1 s y x (e y))/\R (.ok (.ret (.int j s.toks))) {s with toks:=s.toks+1}):=
 .of_wp λf w A R s h=>by
  obtain⟨D,g,d,B,os⟩:=s;obtain⟨E,G,h⟩:=h
  wp_walk using MZ E
  show wpAny _ _ (forIn (m:=Sem) [:min a.size a.size] (aE,()) _) _ _ _;rw[Std.Legacy.Range.forIn_eq_forIn_range'];refine wpAny_forIn_list _ (λc b r=>r=⟨D,g,d,B,os⟩/\∃i,i<=j/\c=List.range' i (a.size-i)) _ ?_ ?_ _ _ ⟨rfl,0,Yw _,QS⟩
  ·rintro k c b r ⟨rfl,i,u,t⟩;have q:i<a.size:=(nG u F)
   obtain⟨rfl,v⟩:k=i/\c=List.range' (i+1) (a.size-(i+1)):=by
    have e:a.size-i=(a.size-(i+1))+1:=QO
    rw[e,List.range'_succ] at t;injection t with I H;exact⟨I,H⟩
   rw[W0 q];refine bh (G _ (L_ q) f w _ _ ?_);rcases Nat.lt_or_ge k j with o|o
   ·rw[z k q o]
    wp_walk
    exact⟨rfl,k+1,(k8 o),v⟩
   ·obtain rfl:k=j:=(i1 u o)
    rw[p]
    wp_walk
    exact⟨_,rfl,h⟩
  ·grind
end
def Zg8(f:TE)(t:TA):TE:=λb H Q=>f b H λx d=>∃(p:U) (a:O Int),x=.ref p/\d p=Z (.tup (a.map V.int))/\t b d λe c=>∃(z:Int) (j:Nat),e=[.int z]/\c p=Z (.tup (a.map V.int))/\a[j]?=Z z/\(∀m,m<j->a[m]?≠Z z)/\Q (.int (j:Int)) c
theorem Zaa:∀{b:O Int} {a:O aY} {j:Nat} (h:j<a.length),Vals (b.map V.int) a->∃n t,b[j]?=Z n/\a[j]=.int n t:=by
 intro b;induction b with
 |nil=>intro a j h r;cases r;simp at h
 |cons n b e=>
  intro a j h r;rw[Wq] at r;cases r with
  |cons r t=>
   cases j with
   |zero=>
    obtain⟨c,rfl⟩:=r;exact⟨n,c,rfl,rfl⟩
   |succ j=>
    obtain⟨d,c,g,f⟩:=e (by simpa using h) t;exact⟨d,c,by simpa using g,by simpa using f⟩
theorem Zc5(a:O Int):(a.map V.int).all jM=af:=by
 induction a with
 |nil=>rfl
 |cons n a b=>rw[Wq,Ji,b];rfl
def NH(ho:PE X o to)(ha:PA X [e] t)
  (ud:attributeBase o "index" X.env (eval o X.env)=eval o X.env:=by rfl)
  (KN:((backTo k (starEach [e] X.env)).all (λx=>!x.1)&&(backToKw k (keywordEach [] X.env)).all (λx=>x.1.isSome)
   &&decide ([e].length+([]:O Keyword).length+(if([]:O Keyword).isEmpty then 0 else 1)<30))=af:=by rfl)
  (ue:(apos.endLine==k.line)=af:=by rfl)(hs:starEach [e] X.env=(a7,eval e X.env)::starEach [] X.env:=by rfl):
  PE X (.Call (.Attribute o "index" apos) [e] [] k) (Zg8 to t):=by
 intro b s q H Q I h;refine AK ud KN ue rfl (aB (ho b s q H _ I h) λv w l=>?_);obtain⟨x,T,R,r1,p,f,ex,hp,q1⟩:=l;subst ex;obtain rfl:v=Value.ref p:=r1;obtain⟨_,_,_,A,g,oc,_,_,od⟩:=(show cT X.prog X.w T w.heap p (.tup (f.map V.int)) from R.ay p _ hp);refine⟨"tuple","tuple.index",F.plainAttrs_tuple,J5,F.type_tuple_index,⟨A,g,oc⟩,λa ea=>by cases ea;exact⟨A,g,od⟩,?_⟩;have E:=ha k b w q T _ R q1;rw[hs] at E⊢;refine mh rfl (n7 ?_);refine aB E λus s2 l=>?_;obtain⟨vs,H2,P,r2,z,j,ev,dB,D,W,q2⟩:=l;subst ev;obtain⟨u,rfl,ru⟩:=r2.one;obtain⟨r,rfl⟩:=ru;obtain⟨_,d,n,⟨cls,dd,J,sl⟩,G,N,n2,L,_⟩:=(P.ay p _ dB);simp only at N L;subst N L;have c:d.length=f.length:=by have:=n.length;rw[Ya] at this;exact lX this
 have VZ:j<d.length:=by exact c▸(Yl.mp D).1
 have C:∀m (i:m<d.length),iU (.int z) d[m]=decide (f[m]?=Z z):=λm i=>by
  obtain⟨B,t',e1,e2⟩:=Zaa i n;rw[e1,e2];show(B==z)=decide (Z B=Z z)
  grind
 refine oD J5 ⟨_,G,rfl⟩ F.entry_tuple_index (F.args_tuple_index_2 _ _) (Z_ p d.toArray n2 dd sl (.int z r) (iU (.int z)) j (by rwa[Yr]) ?_ ?_) ⟨G,?_,?_⟩;·rw[Dk,C j VZ];exact dg D
 ·intro m i bT;rw[Dk,C m (by simpa using i)];exact gb (W m bT)
 ·intro y hy;exact yI (x:=.int z) ⟨r,rfl⟩ rfl n (Zc5 f) y (by simpa using hy)
 ·exact⟨.int _,H2,P.tok _,⟨_,rfl⟩,q2⟩
section
variable {X:Type}[DecidableEq X]
def a9(a:O (X×V))(k:X):bS V:=(a.find? λb=>decide (b.1=k)).map (·.2)
def putK(a:O (X×V))(k:X)(v:V):O (X×V):=
 if(a.any λb=>decide (b.1=k))=af then a.map (λb=>if b.1=k then(b.1,v) else b) else a++[(k,v)]
def gq(a:O (X×V))(k:X):O (X×V):=a.filter λb=>decide (b.1≠k)
def gm{k:X}(e:p.1=k):a9 (p::r) k=Z p.2:=by simp[a9,LO,e]
def fR{k:X}(e:¬p.1=k):a9 (p::r) k=a9 r k:=by simp[a9,LO,e]
theorem wm(k:X):∀a:O (X×V),(a.any λb=>decide (b.1=k))=(a9 a k).isSome
 |[]=>rfl
 |p::r=>by
  rw[Ja];by_cases e:p.1=k;·simp[gm e,dg e,Bool.true_or,Option.isSome_some]
  ·rw[fR e,gb e,DC];exact wm k r
theorem Pn(k j:X)(y:V):∀a:O (X×V),a9 (a.map λb=>if b.1=k then(b.1,y) else b) j=(a9 a j).map λx=>if j=k then y else x
 |[]=>rfl
 |p::r=>by
  have c:=Pn k j y r;rw[Wq];by_cases h:p.1=k
  ·rw[bt h];by_cases e:p.1=j;·rw[gm (p:=(p.1,y)) e,gm e,TF,bt (e.symm.trans h)]
   ·rw[fR (p:=(p.1,y)) e,fR e,c]
  ·rw[bu h];by_cases e:p.1=j;·rw[gm e,gm e,TF,bu (λz=>h (e.trans z))]
   ·rw[fR e,fR e,c]
theorem v_(k j:X)(y:V):∀a:O (X×V),a9 a k=aE->a9 (a++[(k,y)]) j=if j=k then Z y else a9 a j
 |[],_=>by
  by_cases e:k=j;·rw[bt e.symm];exact gm (p:=(k,y)) e
  ·rw[bu (λz=>e z.symm)];exact fR (p:=(k,y)) e
 |p::r,b=>by
  rw[V0];have c:¬p.1=k:=λz=>by rw[gm z] at b;cases b
  rw[fR c] at b;by_cases e:p.1=j;·rw[gm e,gm e,bu (λz=>c (e.trans z))]
  ·rw[fR e,fR e,(v_ k j y r b)]
theorem Zd5(b:O (X×V))(k j:X)(y:V):a9 (putK b k y) j=if j=k then Z y else a9 b j:=by
 unfold putK;by_cases a:(b.any λc=>decide (c.1=k))=af
 ·rw[bt a,Pn];rw[wm] at a;by_cases e:j=k
  ·obtain⟨x,d⟩:=Jd.mp a
   grind
  ·simp_all
 ·rw[bu a];refine v_ k j y b ?_;rw[wm] at a;cases q:a9 b k with
  |none=>rfl
  |some x=>grind
def A3(a:O (X×V))(k:X)(v:V):(putK a k v).length<=a.length+1:=by
 unfold putK
 (split<;>simp_all)
def l4{k:X}(v:V)(h:a9 a k=aE):putK a k v=a++[(k,v)]:=by
 unfold putK;rw[wm,h];rfl
theorem eU.wa(r:eU o u):o.isSome=u.isSome:=by
 cases o with
 |none=>cases u with
  |none=>rfl
  |some _=>exact(r).elim
 |some _=>cases u with
  |none=>exact(r).elim
  |some _=>rfl
theorem eU.getD(r:eU o u)(a:RelV d b):RelV (o.getD d) (u.getD b):=by
 cases o with
 |none=>cases u with
  |none=>exact a
  |some _=>exact(r).elim
 |some _=>cases u with
  |none=>exact(r).elim
  |some _=>exact r
theorem KV.val(r:KV c g)(k:X):eU (a9 c k) (valueAt g k):=by
 unfold KV at r;induction r with
 |nil=>exact gT
 |@cons p q i a h t j=>
  obtain⟨f,l⟩:=h;by_cases e:p.1=k
  ·have d:=f.symm.trans e;have b:valueAt (q::a) k=Z q.2:=by simp[valueAt,LO,d]
   rwa[gm e,b]
  ·have d:¬q.1=k:=λz=>e (f.trans z);have b:valueAt (q::a) k=valueAt a k:=by simp[valueAt,LO,d]
   rwa[fR e,b]
theorem KV.any(r:KV a c)(k:X):(a.any λb=>decide (b.1=k))=c.any λb=>decide (b.1=k):=by
 induction r with
 |nil=>rfl
 |cons h t d=>grind
theorem KV.KU(r:KV b c)(k:X)(e:RelV y u):
  KV (b.map λa=>if a.1=k then(a.1,y) else a) (c.map λa=>if a.1=k then(a.1,u) else a):=by
 induction r with
 |nil=>exact .nil
 |@cons p q g f h t d=>
  refine .cons ?_ d
  grind
def KV.put(r:KV a b)(k:X)(c:RelV y u):KV (putK a k y) (stored b k u):=by
 unfold putK stored;rw[r.any k];by_cases e:(b.any λd=>decide (d.1=k))=af;·rw[bt e,bt e];exact r.KU k c
 ·rw[bu e,bu e];exact Paired.snoc r ⟨rfl,c⟩
theorem KV.drop(r:KV c f)(k:X):KV (gq c k) (without f k):=by
 unfold gq without;induction r with
 |nil=>exact .nil
 |@cons p q m l h t g=>
  obtain⟨d,i⟩:=h;rw[Wy,Wy];by_cases e:p.1=k;·grind
  ·have j:¬q.1=k:=λz=>e (d.trans z);have a:decide (p.1≠k)=af:=by simp[e]
   have b:decide (q.1≠k)=af:=by simp[j]
   rw[bt a,bt b];exact .cons ⟨d,i⟩ g
theorem KV.keys{a:O (X×V)}(r:KV a b):a.map (·.1)=b.map (·.1):=by
 induction r with
 |nil=>rfl
 |cons h t c=>grind
def KV.length(r:KV a b):a.length=b.length:=Paired.length r
def Po(a:O (X×V))(k:X):(gq a k).length<=a.length:=Wn _ _
end
theorem nF(r:RelV (kV k) u):(dU P w).is k u=af:=by
 cases k with
 |inl i=>obtain⟨t,e⟩:=(show ∃t,u=Value.int i t from r);subst e;exact Za8 P w i t
 |inr x=>obtain⟨t,e⟩:=(show ∃t,u=Value.str x t from r);subst e;exact Za9 P w x t
theorem OF:∀{a:O Key} {b:O aY},Vals (a.map kV) b->ItemsAre (dU P w) a b
 |[],_,r=>by rw[xx] at r;cases r;exact .nil
 |k::a,_,r=>by
  cases r with
  |cons h t=>exact .cons (nF h) (OF t)
abbrev KT(H:Hp):O (O Key×V)->O (O Key×U×aY)->Prop:=Paired λp q=>p.1=q.1/\H q.2.1=Z (.tup (p.1.map kV))/\RelV p.2 q.2.2
theorem KT.val(r:KT H c xs)(k:O Key):eU (a9 c k) ((atKey xs k).map (·.2)):=by
 induction r with
 |nil=>exact gT
 |@cons p q g a h t i=>
  obtain⟨f,_,j⟩:=h;by_cases e:p.1=k
  ·have d:=f.symm.trans e;have b:atKey (q::a) k=Z q.2:=by simp[atKey,d]
   rwa[gm e,b]
  ·have d:¬q.1=k:=λz=>e (f.trans z);have b:atKey (q::a) k=atKey a k:=by simp[atKey,d]
   rwa[fR e,b]
theorem KT.KU(r:KT H a xs)(k:O Key)(d:RelV y u):
  KT H (a.map λb=>if b.1=k then(b.1,y) else b) (xs.map (putAt k u)):=by
 induction r with
 |nil=>exact .nil
 |@cons p q f e h t c=>
  refine .cons ?_ c;unfold putAt
  (split<;>simp_all)
def KT.put(r:KT H a xs)(k:O Key)(f:H b=Z (.tup (k.map kV)))(c:RelV y u):
  KT H (putK a k y) (storedH xs k b u):=by
 have e:(a.any λd=>decide (d.1=k))=(atKey xs k).isSome:=by
  rw[wm,(r.val k).wa,V1]
 unfold putK storedH;rw[e];by_cases q:(atKey xs k).isSome=af;·rw[bt q,bt q];exact r.KU k c
 ·rw[bu q,bu q];exact Paired.snoc r ⟨rfl,f,c⟩
def KT.keeps(r:KT H a xs)(d:∀b c,H b=Z (.tup c)->e b=Z (.tup c)):KT e a xs:=
 Paired.bA r λ_ _ z=>⟨z.1,d _ _ z.2.1,z.2.2⟩
def TK(b:dq P w H h)(e:Rd H a u):cT P w H h a u:=e.ok b
def qx(c:dq P w H h)(e:Rd H a (.dK b)):b.length<=sizeLine/\(a==sysModules)=a7/\∃vs,KV b vs/\h.DictOf (dU P w) a vs:=
 TK c e
def mF(c:dq P w H h)(e:H a=Z (.dK b)):b.length<=sizeLine/\(a==sysModules)=a7/\∃vs,KV b vs/\h.DictOf (dU P w) a vs:=qx c (.inl e)
def r8(b:dq P w H h)(e:H a=Z (.tup (c.map kV))):(tupleKind (dU P w)).is h c a:=by
 obtain⟨_,i,r,o,g,f,n,d,_⟩:=(b a _ e);exact⟨o,i.toArray,n,g,f,d,by simpa using OF r⟩
theorem se(d:dq P w H h)(e:Rd H a (.dT b)):b.length<=sizeLine/\(a==sysModules)=a7/\
  ∃xs,KT H b xs/\h.DictOfH (tupleKind (dU P w)) a xs:=by
 obtain⟨z,y,xs,r,o,u,v,s,n,k,j,i⟩:=(TK d e);refine⟨z,y,xs,r,o,u,v,s,n,k,j,λx c=>?_,i⟩;have all:∀{l:O (O Key×V)} {m:O (O Key×U×aY)},KT H l m->∀x∈m,(tupleKind (dU P w)).is h x.1 x.2.1:=by
  intro l m q;induction q with
  |nil=>grind
  |@cons p q B A f t g=>
   intro x c;rcases Yp.mp c with e|c
   ·subst e;exact r8 d (by exact f.1▸f.2.1)
   ·exact g x c
 grind
def TL(c:dq P w H h)(e:H a=Z (.dT b)):b.length<=sizeLine/\(a==sysModules)=a7/\
  ∃xs,KT H b xs/\h.DictOfH (tupleKind (dU P w)) a xs:=se c (.inl e)
def eW(H:Hp)(a:U)(y:V)(r:bS V):Prop:=
 (∃c k,Rd H a (.dK c)/\y=kV k/\r=a9 c k)\/∃c k b,Rd H a (.dT c)/\y=.ref b/\H b=Z (.tup (k.map kV))/\r=a9 c k
def uz(H:Hp)(a:U)(y v:V)(d:Hp):Prop:=
 (∃c k,H a=Z (.dK c)/\y=kV k/\c.length<sizeLine/\d=upd H a (.dK (putK c k v)))\/
 ∃c k b,H a=Z (.dT c)/\y=.ref b/\H b=Z (.tup (k.map kV))/\c.length<sizeLine/\d=upd H a (.dT (putK c k v))
def eW.k{k:Key}(e:H a=Z (.dK b)):eW H a (kV k) (a9 b k):=.inl ⟨b,k,.inl e,rfl,rfl⟩
def eW.t{H:Hp}{a b:U}{c:O (O Key×V)}{k:O Key}(e:H a=Z (.dT c))(d:H b=Z (.tup (k.map kV))):eW H a (.ref b) (a9 c k):=.inr ⟨c,k,b,.inl e,rfl,d,rfl⟩
def uz.k{k:Key}(e:H a=Z (.dK b))(c:b.length<sizeLine):uz H a (kV k) v (upd H a (.dK (putK b k v))):=.inl ⟨b,k,e,rfl,c,rfl⟩
def uz.t{H:Hp}{a b:U}{c:O (O Key×V)}{k:O Key}{v:V}(e:H a=Z (.dT c))(f:H b=Z (.tup (k.map kV)))(d:c.length<sizeLine):
  uz H a (.ref b) v (upd H a (.dT (putK c k v))):=.inr ⟨c,k,b,e,rfl,f,d,rfl⟩
def Inv.big(I:Inv X pins σ H s):sysModules<s.heap.objs.size:=by
 exact sm QD ((I.mod.glob.keeps I.bk).lt)
def Zc6(r:A.units+1<cLine)(I:Inv X pins σ H s)(g:eW H a y (Z v))(q:RelV y u)(h:∀d o,Inv X pins σ H o->RelV v d->Q d o):
  wpAny X.md A (getItem (.ref a) u) Q E s:=by
 rcases g with⟨f,k,e,m,l⟩|⟨f,k,b,e,m,w,l⟩
 ·subst m;obtain⟨z,hd,C,c,n⟩:=qx I.ay e;obtain⟨d,i,j⟩:=eU.some_of (by exact l▸c.val k);exact wpAny_getItem_of (nF q) n.mapOf i (h d _ (I.tok _) j)
 ·subst m;cases(q);obtain⟨z,hd,B,c,n⟩:=se I.ay e;obtain⟨d,i,j⟩:=eU.some_of (by exact l▸c.val k);obtain⟨p,t,x⟩:=Option.map_eq_some_iff.mp i;refine wpAny_getItem_heap (mR r) (r8 I.ay w) n t ?_;exact x▸h d _ (I.tok _) j
def Zi9(n:A.units+1<cLine)(I:Inv X pins σ H s)(g:eW H a y o)(m:RelV y u)(h:∀j,Inv X pins σ H j->Q (.bool o.isSome) j):
  wpAny X.md A (compareOp .In u (.ref a)) Q E s:=by
 rcases g with⟨d,k,e,f,l⟩|⟨d,k,b,e,f,p,l⟩
 ·subst f;obtain⟨z,hd,t,c,i⟩:=qx I.ay e;refine wpAny_in_of (nF m) hd i.mapOf ?_;rw[←(c.val k).wa,←l];exact h _ (I.tok _)
 ·subst f;cases(m);obtain⟨z,hd,r,c,i⟩:=se I.ay e;refine wpAny_in_heap (mR n) (r8 I.ay p) hd i ?_;have q:=(c.val k).wa;rw[V1] at q;rw[←q,←l];exact h _ (I.tok _)
def Zfw(n:A.units+1<cLine)(I:Inv X pins σ H s)(g:eW H a y o)(m:RelV y u)(h:∀j,Inv X pins σ H j->Q (.bool (!o.isSome)) j):
  wpAny X.md A (compareOp .NotIn u (.ref a)) Q E s:=by
 rcases g with⟨d,k,e,f,l⟩|⟨d,k,b,e,f,p,l⟩
 ·subst f;obtain⟨z,hd,t,c,i⟩:=qx I.ay e;refine wpAny_notIn_of (nF m) hd i.mapOf ?_;rw[←(c.val k).wa,←l];exact h _ (I.tok _)
 ·subst f;cases(m);obtain⟨z,hd,r,c,i⟩:=se I.ay e;refine wpAny_notIn_heap (mR n) (r8 I.ay p) hd i ?_;have q:=(c.val k).wa;rw[V1] at q;rw[←q,←l];exact h _ (I.tok _)
def tV(I:Inv X pins σ H s)(f:zO (H a))(g:Heap.SameBut a s.heap d)(h:∃q,d.get? a=Z q)(c:cT X.prog X.w (upd H a e) d a e):
  Inv X pins σ (upd H a e) {s with heap:=d,toks:=j}:=
 I.write f (.inl rfl) (λb q i z=>(g.2 b i).trans z) h c
def y8(z:b.length<=sizeLine)(e:(a==sysModules)=a7)(c:KV b d)(g:f.DictOf (dU P w) a d):
  cT P w h f a (.dK b):=⟨z,e,d,c,g⟩
def OG(L:A.units+1<cLine)(I:Inv X pins σ H s)(g:uz H a y v H')(x:RelV y u)(B:RelV v r)(h:∀w,Inv X pins σ H' w->Q () w):
  wpAny X.md A (setItem (.ref a) u r) Q E s:=by
 rcases g with⟨f,k,e,o,l,p⟩|⟨f,k,b,e,o,D,l,p⟩
 ·subst o p;obtain⟨z,hd,G,d,t⟩:=mF I.ay e;have J:G.length<=sizeLine:=by rwa[←d.length]
  have n:(putK f k v).length<=sizeLine:=by have:=A3 f k v;exact lg this (uN l)
  refine wpAny_setItem_pairs (nF x) t λC i m=>h _ ?_;have N:∃q,C.get? a=Z q:=let⟨q,_,_,j,_⟩:=i;⟨q,j⟩;exact tV I (by exact e▸gT) m N (y8 n hd (d.put k B) i)
 ·subst o p;cases(x);obtain⟨z,hd,F,d,t⟩:=TL I.ay e;have J:F.length<=sizeLine:=by rwa[←Paired.length d]
  have n:(putK f k v).length<=sizeLine:=by have:=A3 f k v;exact lg this (uN l)
  refine wpAny_setItem_heap (mR L) (r8 I.ay D) t λC i m=>h _ ?_;obtain⟨q,es,ep,j,W,T,R,_,P⟩:=i;refine tV I (by exact e▸gT) m ⟨q,j⟩ ⟨n,hd,_,(d.put k D B).keeps λc ys ec=>?_,q,es,ep,j,W,T,R,P⟩;rwa[aN (Ta ec e (λz=>nomatch z))]
def Zc7(I:Inv X pins σ H s)(e:H a=Z (.dK c))(j:RelV (kV k) u)(l:(a9 c k).isSome=af)(h:∀f,Inv X pins σ (upd H a (.dK (gq c k))) f->Q () f):
  wpAny X.md A (delItem (.ref a) u) Q E s:=by
 obtain⟨z,hd,i,b,d⟩:=mF I.ay e;refine Ef d.typeIs QD tq
  (mr tq d.typeIs zT (zQ _ _) (meets_dict_delitem_pairs (dU X.prog X.w) a (nF j)) ⟨i,d,by rw[←b.length];exact z,by rwa[←(b.val k).wa],λp g m=>h _ ?_⟩)
 have o:∃q,p.get? a=Z q:=let⟨q,_,_,n,_⟩:=g;⟨q,n⟩;exact tV I (by exact e▸gT) m o (y8 (Yy (Po c k) z) hd (b.drop k) g)
theorem Zih(I:Inv X pins σ H s)(e:H a=Z (.dK c))(f:RelV (kV k) u)(l:a9 c k=Z v)(m:more=[]\/∃x,more=[x])
  (h:∀d g,Inv X pins σ (upd H a (.dK (gq c k))) g->RelV v d->Q d g):wpAny X.md A (call (.builtin "dict.pop") (.ref a::u::more)) Q E s:=by
 obtain⟨z,hd,o,b,n⟩:=mF I.ay e;obtain⟨d,p,F⟩:=eU.some_of (v:=v) (by exact l▸b.val k);have y:(keyPart u).isSome=af:=by
  cases k with
  |inl i=>obtain⟨t,q⟩:=(show ∃t,u=Value.int i t from f);subst q;rfl
  |inr x=>obtain⟨t,q⟩:=(show ∃t,u=Value.str x t from f);subst q;rfl
 have C:argsOk "dict.pop" ⟨.ref a::u::more,[]⟩:=by
  rcases m with q|⟨x,q⟩;·subst q;exact PySem.F.args_dict_pop_2 _ _
  ·subst q;exact PySem.F.args_dict_pop_3 _ _ _
 refine mr slot_dict_pop n.typeIs PySem.F.entry_dict_pop C (meets_dict_pop_there (dU X.prog X.w) a (nF f) more m y)
  ⟨o,d,n,by rwa[←b.length],p,λD j r=>h d _ ?_ F⟩
 have B:∃q,D.get? a=Z q:=let⟨q,_,_,w,_⟩:=j;⟨q,w⟩;exact tV I (by exact e▸gT) r B (y8 (Yy (Po c k) z) hd (b.drop k) j)
def Zii(I:Inv X pins σ H s)(e:Rd H a (.dK c))(h:∀t d,Inv X pins σ H d->Q (.int c.length t) d):wpAny X.md A (call (.builtin "len") [.ref a]) Q E s:=by
 obtain⟨z,hd,g,b,f⟩:=qx I.ay e;refine call_len_dict hd f (by rw[←b.length];rw[dw] at z;omega) ?_;exact b.length▸h _ _ (I.tok _)
def UG(i:cP):Prop:=∀a b,subscripted i a7 a b=operate [a,b] (getItem a b)
theorem Zfx{a:de}{w:c5}{A:d6}{E:bg}{s:bR}{d:Env}{c b:cP}{f:Pos}{T id:String}{Q:bg}
  (n:typeLookup (.type T) "__getitem__"=pure (Z (.builtin id)))(m:UG b)
  (h:wpAny (model a w) A (eval c d) (λo j=>wpAny (model a w) A (eval b d) (λi eV=>eV.TypeIs o T/\wpAny (model a w) A (getItem o i) Q E eV) E j) E s):
  wpAny (model a w) A (eval (.Subscript c b f) d) Q E s:=by
 refine Subscript_ (dy h (λo j l=>dy l (λi eV e=>?_) λ_ _ x=>x) λ_ _ x=>x);obtain⟨p,e⟩:=e;refine bh (bh (wpAny_specialOf p n ?_));have fin:wpAny (model a w) A (subscripted b a7 o i) (λr g=>wpAny (model a w) A (letTemporaryGo c o r>>=λ_=>pure r) Q E g) E eV:=by
  rw[m o i];exact wpAny_operating (dy e (λr g k=>bh (wpAny_letTemporaryGo (cy k))) λ_ _ x=>x)
 first
  |exact cy (bh fin)
  |exact bh (cy (bh fin))
  |exact bh fin
def Zbg(I:Inv X pins σ H s)(g:eW H a y o):s.TypeIs (.ref a) "dict":=by
 rcases g with⟨c,k,e,_,_⟩|⟨c,k,b,e,_,_,_⟩
 ·obtain⟨_,_,h,_,d⟩:=qx I.ay e;exact d.typeIs
 ·obtain⟨_,_,f,_,d⟩:=se I.ay e;exact d.typeIs
inductive QH(Q:VK)(x:V)(y:V)(b:Hp):Prop
 |mk (a v) (e:x=.ref a) (d:eW b a y (Z v)) (c:Q v b):QH Q x y b
def Zij(c b:TE):TE:=λa H Q=>c a H λx e=>b a e λy d=>QH Q x y d
inductive So(Q:VK)(y:V)(x:V)(b:Hp):Prop
 |mk (a o) (e:x=.ref a) (d:eW b a y o) (c:Q (.bl o.isSome) b):So Q y x b
def Zi_(b c:TE):TE:=λa H Q=>b a H λy e=>c a e λx d=>So Q y x d
inductive OH(Q:VK)(y:V)(x:V)(b:Hp):Prop
 |mk (a o) (e:x=.ref a) (d:eW b a y o) (c:Q (.bl (!o.isSome)) b):OH Q y x b
def Zfy(b c:TE):TE:=λa H Q=>b a H λy e=>c a e λx d=>OH Q y x d
def dt(p:X.A.units+1<cLine)(r:PE X o f)(t:PE X i ty)(q:UG i):PE X (.Subscript o i pos) (Zij f ty):=by
 intro b s d H Q I h;refine Zfx PySem.F.slot_dict_getitem.lookup q (aB (r b s d H _ I h) λu j c=>?_);obtain⟨x,D,B,l,n⟩:=c;refine aB (t b j d D _ B n) λJ G c=>?_;obtain⟨y,C,e,k,a,v,z,g,m⟩:=c;subst z;obtain rfl:u=Value.ref a:=l;exact⟨Zbg e g,Zc6 p e g k λE F A w=>⟨v,C,A,w,m⟩⟩
def Cd(p:X.A.units+1<cLine)(r:PE X i ty)(q:PE X o e):PC X .In i o (Zi_ ty e):=by
 intro b s d H Q I h;refine aB (r b s d H _ I h) λE f c=>?_;obtain⟨y,B,z,j,m⟩:=c;refine aB (q b f d B _ z m) λu D c=>?_;obtain⟨x,A,w,k,a,n,t,g,l⟩:=c;subst t;obtain rfl:u=Value.ref a:=k;exact Zi9 p w g j λC v=>⟨.bl n.isSome,A,v,rfl,l⟩
def oG(p:X.A.units+1<cLine)(r:PE X i ty)(q:PE X o e):PC X .NotIn i o (Zfy ty e):=by
 intro b s d H Q I h;refine aB (r b s d H _ I h) λE f c=>?_;obtain⟨y,B,z,j,m⟩:=c;refine aB (q b f d B _ z m) λu D c=>?_;obtain⟨x,A,w,k,a,n,t,g,l⟩:=c;subst t;obtain rfl:u=Value.ref a:=k;exact Zfw p w g j λC v=>⟨.bl (!n.isSome),A,v,rfl,l⟩
def Pp(h:cY)(a:sysModules<h.objs.size):cT P w H (h.push {cls:=.type "dict",data:=.dict #[]}) h.objs.size (.dK []):=
 ⟨Yw _,beq_eq_false_iff_ne.mpr (iS (Y0 a)),[],.nil,Heap.DictOf.new h⟩
def Zd6(h:cY)(a:sysModules<h.objs.size):cT P w H (h.push {cls:=.type "dict",data:=.dict #[]}) h.objs.size (.dT []):=
 ⟨Yw _,beq_eq_false_iff_ne.mpr (iS (Y0 a)),[],.nil,_,#[],0,Yu _ rfl,⟨rfl,rfl,rfl⟩,rfl,rfl,Jc⟩
def Zg9:TE:=λ_ H Q=>∀p,H p=aE->Q (.ref p) (upd H p (.dK []))
def Zg_:TE:=λ_ H Q=>∀p,H p=aE->Q (.ref p) (upd H p (.dT []))
def Zd7:PE X (.Dict [] [] pos) Zg9:=λa s b H Q I h=>
 Mz ⟨.ref s.heap.objs.size,_,I.laid (λ _ _=>Yb _) (Ye _) (Pp s.heap I.big),rfl,h _ (I.ay.fresh (Ye _))⟩
def Zd8:PE X (.Dict [] [] pos) Zg_:=λa s b H Q I h=>
 Mz ⟨.ref s.heap.objs.size,_,I.laid (λ _ _=>Yb _) (Ye _) (Zd6 s.heap I.big),rfl,h _ (I.ay.fresh (Ye _))⟩
def JK:O (TE×TE)->St->Hp->(O (V×V)->Hp->Prop)->Prop
 |[],_,H,Q=>Q [] H
 |(tk,tv)::r,σ,H,Q=>tk σ H λx d=>tv σ d λy c=>JK r σ c λa b=>Q ((x,y)::a) b
abbrev VV:O (V×V)->O (aY×aY)->Prop:=Paired λp q=>RelV p.1 q.1/\RelV p.2 q.2
def DD(X:Cx)(e:Pos)(c:O (bS cP))(a:O cP)(i:O (TE×TE)):Prop:=
 ∀(b:aW) (s:bR) (d:St) (H:Hp) (Q:O (V×V)->Hp->Prop),Inv X b d H s->JK i d H Q->
  wpAny X.md X.A (evalPairs (pairTrees c a X.env e)) (λh j=>∃f g,Inv X b d g j/\VV f h/\Q f g) X.xe s
def BO:DD X pos [] [] []:=λa s b H Q I h=>pairTrees_nil_walk ⟨[],H,I,.nil,h⟩
def kQ(z:PE X k g)(t:PE X v f)(w:DD X pos r d e):
  DD X pos (Z k::r) (v::d) ((g,f)::e):=λa s b H Q I h=>
 pairTrees_cons_walk (aB (z a s b H _ I h) λu j ⟨x,F,C,m,p⟩=>aB (t a j b F _ C p) λJ i ⟨y,E,B,l,o⟩=>
  aB (w a i b E _ B o) λG L N=>by obtain⟨q,D,A,c,n⟩:=N;exact⟨(x,y)::q,D,A,.cons ⟨m,l⟩ c,n⟩)
def qo(b a:O (Key×V)):O (Key×V):=a.foldl (λc d=>putK c d.1 d.2) b
theorem KV.merge:∀{more:O (Key×V)} {c:O (Key×aY)} {a:O (Key×V)} {b:O (Key×aY)},KV more c->KV a b->KV (qo a more) (merged b c):=by
 intro more c a b r;induction r generalizing a b with
 |nil=>intro q;exact q
 |@cons p q i g h t f=>
  intro d;have e:KV (putK a p.1 p.2) (stored b q.1 q.2):=by
   have:=d.put p.1 h.2
   grind
  exact f e
theorem Ny:∀(more a:O (Key×V)),(qo a more).length<=a.length+more.length
 |[],a=>by show a.length<=a.length+0;exact mz _
 |p::r,a=>by
  have c:=Ny r (putK a p.1 p.2);have b:=A3 a p.1 p.2;show(qo (putK a p.1 p.2) r).length<=_
  grind
theorem N5:∀{d:O (Key×V)} {f:O (aY×aY)},VV (d.map λg=>(kV g.1,g.2)) f->∃e,Carries (dU P w) f e/\KV d e
 |[],_,r=>by rw[xx] at r;cases r;exact⟨[],gT,.nil⟩
 |p::d,_,r=>by
  cases r with
  |@cons a b as bs h t=>
   obtain⟨e,c,q⟩:=N5 t;obtain⟨j,i⟩:=b;exact⟨(p.1,i)::e,⟨nF h.1,rfl,c⟩,.cons ⟨rfl,h.2⟩ q⟩
def Zik(e:O (TE×TE)):TE:=λd H Q=>∀p,H p=aE->JK e d (upd H p (.dK [])) λf c=>c p=Z (.dK [])/\∃a:O (Key×V),f=a.map (λb=>(kV b.1,b.2))/\a.length<=15/\Q (.ref p) (upd c p (.dK (qo [] a)))
def BP(h:DD X pos keys values l)(B:keys.all (·.isSome)=af)(v:keys.length=values.length)(x:keys≠[])
  (f:keys.length<=15):PE X (.Dict keys values pos) (Zik l):=by
 intro a s j H Q I q;refine wpAny_Dict_walk (knd:=dU X.prog X.w) B v x f (aB (h a _ j _ _ (I.laid (λ _ _=>Yb _) (Ye _) (Pp s.heap I.big)) (q _ (I.ay.fresh (Ye s.heap.objs.size)))) λC D L=>?_);obtain⟨E,J,i,d,e,b,y,F,p⟩:=L;subst y;obtain⟨m,c,n⟩:=N5 d;obtain⟨z,hd,k,o,A⟩:=mF i.ay e;cases o;refine⟨m,c,A,λG g t=>⟨.ref s.heap.objs.size,_,?_,rfl,p⟩⟩;have r:(qo [] b).length<=sizeLine:=by
  have w:=Ny b [];rw[VO] at w;rw[dw];omega
 exact tV i (by exact e▸gT) t (let⟨q,_,_,u,_⟩:=g;⟨q,u⟩) (y8 r hd (n.merge .nil) g)
structure M1(X:Cx)(o:cP)(m:ar)(apos:Pos)(e:cP)(cH:Pos):Prop where
 base:attributeBase o m X.env (eval o X.env)=eval o X.env
 jz:((backTo cH (starEach [e] X.env)).all (λx=>!x.1)&&(backToKw cH (keywordEach [] X.env)).all (λx=>x.1.isSome)
  &&decide (([e]:O cP).length+([]:O Keyword).length+(if([]:O Keyword).isEmpty then 0 else 1)<30))=af
 line:(apos.endLine==cH.line)=af
 trees:backTo cH (starEach [e] X.env)=[(a7,eval e X.env)]
structure M2(X:Cx)(o:cP)(m:ar)(apos:Pos)(e f:cP)(cH:Pos):Prop where
 base:attributeBase o m X.env (eval o X.env)=eval o X.env
 jz:((backTo cH (starEach [e,f] X.env)).all (λx=>!x.1)&&(backToKw cH (keywordEach [] X.env)).all (λx=>x.1.isSome)
  &&decide (([e,f]:O cP).length+([]:O Keyword).length+(if([]:O Keyword).isEmpty then 0 else 1)<30))=af
 line:(apos.endLine==cH.line)=af
 trees:backTo cH (starEach [e,f] X.env)=[(a7,eval e X.env),(a7,eval f X.env)]
def Aa(H:Hp)(a:U):Prop:=(∃b,Rd H a (.dK b))\/∃b,Rd H a (.dT b)
def y9(I:Inv X pins σ H s)(d:Aa H a):
  s.TypeIs (.ref a) "dict"/\(∀b,Value.ref a=.ref b->∃c,s.heap.get? b=Z c/\c.dict=aE)/\(a==sysModules)=a7:=by
 rcases d with⟨g,e⟩|⟨g,e⟩
 ·obtain⟨_,hd,k,_,f⟩:=qx I.ay e;refine⟨f.typeIs,λb q=>?_,hd⟩;cases q;obtain⟨c,_,_,i,h,_⟩:=f;exact⟨c,i,h.2.1⟩
 ·obtain⟨_,hd,j,_,f⟩:=se I.ay e;refine⟨f.typeIs,λb q=>?_,hd⟩;cases q;obtain⟨c,_,_,i,h,_⟩:=f;exact⟨c,i,h.2.1⟩
def Zha(q:A.units+1<cLine)(I:Inv X pins σ H s)(g:eW H a y o)(n:RelV y u)(h:∀j m,Inv X pins σ H m->RelV (o.getD .aA) j->Q j m):
  wpAny X.md A (call (.builtin "dict.get") [.ref a,u]) Q E s:=by
 rcases g with⟨f,k,e,i,l⟩|⟨f,k,b,e,i,r,l⟩
 ·subst i;obtain⟨z,hd,t,c,d⟩:=qx I.ay e;refine mr oa d.typeIs tJ (Au _ _) (meets_dict_get (dU X.prog X.w) a (nF n) hd) ⟨_,d.mapOf,h _ _ (I.tok _) ?_⟩;exact l▸(c.val k).getD rfl
 ·subst i;cases(n);obtain⟨z,hd,p,c,d⟩:=se I.ay e;refine mr oa d.typeIs tJ (Au _ _) (meetsH_dict_get (tupleKind (dU X.prog X.w)) a b hd) ⟨mR q,k,p,r8 I.ay r,d,h _ _ (I.tok _) ?_⟩;exact l▸(c.val k).getD rfl
def Zhb(v:A.units+1<cLine)(I:Inv X pins σ H s)(g:eW H a y o)(p:RelV y u)(q:RelV d r)(h:∀m n,Inv X pins σ H n->RelV (o.getD d) m->Q m n):
  wpAny X.md A (call (.builtin "dict.get") [.ref a,u,r]) Q E s:=by
 rcases g with⟨i,k,e,j,l⟩|⟨i,k,b,e,j,w,l⟩
 ·subst j;obtain⟨z,hd,x,c,f⟩:=qx I.ay e;refine mr oa f.typeIs tJ (Al _ _ _) (meets_dict_get_default (dU X.prog X.w) a (nF p) hd r) ⟨_,f.mapOf,h _ _ (I.tok _) ?_⟩;exact l▸(c.val k).getD q
 ·subst j;cases(p);obtain⟨z,hd,t,c,f⟩:=se I.ay e;refine mr oa f.typeIs tJ (Al _ _ _) (meetsH_dict_get_default (tupleKind (dU X.prog X.w)) a b hd r) ⟨mR v,k,t,r8 I.ay w,f,h _ _ (I.tok _) ?_⟩;exact l▸(c.val k).getD q
def Zhc(f e:TE):TE:=λb H Q=>f b H λx d=>∃a,x=.ref a/\Aa d a/\e b d λy c=>∃o,eW c a y o/\Q (o.getD .aA) c
def Zhd(g e f:TE):TE:=λb H Q=>g b H λx d=>∃a,x=.ref a/\Aa d a/\e b d λy h=>f b h λz c=>∃o,eW c a y o/\Q (o.getD z) c
def Zd9(v:X.A.units+1<cLine)(w:PE X o j)(z:PE X e ty)(m:M1 X o "get" apos e C):PE X (.Call (.Attribute o "get" apos) [e] [] C) (Zhc j ty):=by
 intro b s c H Q I h;refine th m.base m.jz m.line qd oa type_dict_get (aB (w b s c H _ I h) λu n i=>?_);obtain⟨x,G,f,q,a,B,d,t⟩:=i;subst B;obtain rfl:u=Value.ref a:=q;obtain⟨l,k,_⟩:=y9 f d;refine⟨l,k,?_⟩;exact m.trees▸mh rfl (n7 (m5 (aB (z b n c G _ f t) λR N ⟨y,F,E,p,P,g,r⟩=>qb (Zha v E g p λJ L D A=>⟨_,F,D,A,r⟩))))
def Zd_(D:X.A.units+1<cLine)(E:PE X o l)(G:PE X e ty)(F:PE X f k)(m:M2 X o "get" apos e f N):PE X (.Call (.Attribute o "get" apos) [e,f] [] N) (Zhd l ty k):=by
 intro b s c H Q I h;refine th m.base m.jz m.line qd oa type_dict_get (aB (E b s c H _ I h) λu r j=>?_);obtain⟨x,H1,i,w,a,L,d,C⟩:=j;subst L;obtain rfl:u=Value.ref a:=w;obtain⟨p,n,_⟩:=y9 i d;refine⟨p,n,?_⟩;rw[m.trees];refine mh rfl (n7 (m5 (aB (G b r c H1 _ i C) λiv q ⟨y,H2,T,v,B⟩=>
  m5 (aB (F b q c H2 _ T B) λfv s3 ⟨z,W,R,t,ov,g,A⟩=>qb ?_))))
 exact Zhb D R g v t λw' s4 P J=>⟨_,W,P,J,A⟩
def wN(P:de)(w:c5)(K:ai)(c:aV)(a:cY)(k:Nat)(x:ar)(C:U)(b:O ar)(e:Sp):Prop:=
 ∃f d,Mk K C f/\aF P w K c a aL k f d b e/\Binds K d b []/\c x=Z (.ref C)
def bZ(P:de)(w:c5)(K:ai)(e:aV)(a:cY)(k:Nat)(m:ar)(C:U)(b:O ar)(d:Sp):Prop:=
 ∃f c,ir K C/\Meth K C m f/\aF P w K e a aL k f c b d/\Binds K c b []
def Ce(P:de)(w:c5)(K:ai)(e:aV)(a:cY)(k:Nat)(m:ar)(C:U)(b:O ar)(d:Sp):Prop:=
 ∃f c,ir K C/\Meth K C m f/\aF P w K e a (sN P w) k f c b d/\Binds K c b []
section
variable {X:Cx}{k j:Nat}{x m:ar}{C:U}{ps:O ar}{Q:Sp}{p W T:Pos}{o e:cP}{R:O cP}{t:TA}{P:TE}
def Km(h:wN X.prog X.w X.K X.mg X.base k x C ps Q)(c:cW j X.A)(g:k+1<=j)(i:Gl X x)(n:PA X (e::R) t)(q:(x==("__debug__":ar))=a7:=by decide)
  (l:kz X e R:=by rfl)(r:lC X W R:=by rfl):PE X (.Call (.Name x p) (e::R) [] W) (Th C Q [] E0 t):=by
 obtain⟨f,s,a,F,b,d⟩:=h;exact Zfb a F (c.mono g) i d b .nil zg n q l r
def cQ(h:bZ X.prog X.w X.K X.mg X.base k m C ps Q)(g:cW j X.A)(n:k<=j)(i:PE X o P)(q:PA X (e::R) t)
  (r:kz X e R:=by rfl)(s:lC X W R:=by rfl)
  (d:eval (.Call (.Attribute o m T) (e::R) [] W) X.env=(do
   let a←eval o X.env
   standAt T.atName
   let(f,first)←holding [a] (getMethod a m u)
   callWith W f first (backTo W (starEach (e::R) X.env)) (backToKw W (keywordEach [] X.env))):=by rfl):
  PE X (.Call (.Attribute o m T) (e::R) [] W) (Cr C m Q [] E0 P t):=by
 obtain⟨f,v,c,l,F,b⟩:=h;exact Zfa i c l F (g.mono n) b .nil zg q r s d
end
def wA{K:ai}(h:X.K=K)(b:PE X e a)(c:attributeBase e f X.env (eval e X.env)=eval e X.env):PE X (.Attribute e f pos) (KJ K a f):=h▸ZgA b c
section
open PySem.AutoSeq1 (wpAny_loadPart')
def Zc8(a b x:Int):(Builtin.Range.rangePlace? a b 1 x).isSome=decide (a<=x/\x<b):=by
 unfold Builtin.Range.rangePlace?
 grind
def Zt(p:U)(f i x:Int)(a b c t:Tok):
  Meets (Builtin.«range.__contains__» ⟨[.ref p,.int x t],[]⟩)
   (λ_ R s=>s.heap.get? p=Z {cls:=.type "range",data:=.fields #[.int f a,.int i b,.int 1 c]}/\R (.ok (.ret (.bool (decide (f<=x/\x<i))))) s):=
 .of_wp λe w A R s h=>by
  obtain⟨l,g,d,k,os⟩:=s;obtain⟨j,h⟩:=h;rw[←Zc8] at h
  wp_walk using MZ j
  grind
end
def Zhe(a:cm):R2:=λx y H Q=>∃(i lo b:Int) (p:U),x=.int i/\y=.ref p/\H p=Z (.ku lo b)/\Q (.bl (if a=af then !decide (lo<=i/\i<b) else decide (lo<=i/\i<b))) H
def ZaG:cM X (compareOp .NotIn) (Zhe af):=by
 rintro d s k H x y v u Q I f e ⟨i,lo,j,p,rfl,rfl,h,q⟩;obtain⟨t,rfl⟩:=f;cases e;obtain⟨a,b,c,g⟩:=(I.ay p _ h);exact SeqRoads2.notIn_meets ⟨_,g,rfl⟩ F.slot_range_contains F.entry_range_contains (F.args_range_contains_2 _ _) (Zt p lo j i a b c t) ⟨g,_,rfl,.bl _,H,I,rfl,q⟩
def vS(p:Nat->cm)(n:Nat):(List.range (n+1)).filter p=(List.range n).filter p++(if p n=af then[n] else[]):=by
 rw[J8,Wl]
 grind
theorem jG{b a:Type}{F:b->a->Prop}:∀{d:O b} {c:O a} {x:b} {y:a},Paired F d c->F x y->Paired F (d++[x]) (c++[y]):=by
 intro d c x y h f;induction h with
 |nil=>exact .cons f .nil
 |cons r t e=>exact .cons r e
theorem F_:∀{b:O α} {a:O β},Paired F b a->b.length=a.length:=by
 intro b a h;induction h with
 |nil=>rfl
 |cons _ _ c=>rw[Wf,Wf,c]
theorem Fs:∀{b:O V} {a:O β},Paired (λx y=>x=f y) b a->b=a.map f:=by
 intro b a h;induction h with
 |nil=>rfl
 |cons r t c=>rw[Wq,←r,←c]
def A7(n:Nat):(List.range n).filter (λ_=>af)=List.range n:=QS
theorem Nz(a:O α)(f:Nat->β)(g:α->β)(h:∀(i:Nat) (v:α),a[i]?=Z v->f i=g v):(List.range a.length).map f=a.map g:=by
 refine Wu λi=>?_;rw[Yf,Yf];cases e:a[i]? with
 |none=>rw[Y4 (by exact Js▸List.getElem?_eq_none_iff.mp e)];rfl
 |some v=>rw[J1 (Yl.mp e).1];exact dJ Z (h i v e)
def aC(D:U)(H a:Hp):Prop:=∀b o,H b=Z o->b≠D->a b=Z o
def aC.of(g:ak H H'):aC D H H':=λb o e _=>g b o e
def aC.put(g:aC D H a):aC D H (upd a D o):=λb u e n=>by rw[aN n];exact g b u e n
def wO(j:TT)(k:TE)(e:St)(D:U)(H:Hp)(v:V)(b:cm)(l:V->Hp->Prop):Prop:=
 ∀d,ak H d->(∃i,d D=Z (.lst i))->∀(f:VK) (g:Hp->Prop),(∀y a,b=af->ak d a->l y a->f y a)->(∀a,b=a7->ak d a->g a)->j (Z v::e) d λc h=>if c=af then k (Z v::e) h f else g h
def yw{K:ai}(C:aq K H a xs)(L:xs.length<=1000)(u:H D=aE)(p:Nat->cm)(l:Nat->V->Hp->Prop)(c:∀i y d x,aC D d x->l i y d->l i y x)
  (k:∀(i:Nat) (v:V),xs[i]?=Z v->wO tt A E D H v (p i) (l i))(G:∀f m,ak H m->m D=Z (.lst f)->Paired (λy i=>l i y m) f ((List.range xs.length).filter p)->Q (.ref D) m):jN (kA K a) tt A E D H Q:=by
 refine Hn (λi f d=>i<=xs.length/\ak H d/\d D=Z (.lst f)/\Paired (λy j=>l j y d) f ((List.range i).filter p)) ⟨Yw _,cF u _,aT,.nil⟩ (λi f d _ ⟨_,g,_,_⟩=>g.seq C) ?_ ?_
 ·rintro i v f d t ⟨_,g,s,n⟩;have w:=(Yl.mp t).1;have J:=F_ n;have F:=Wn p (List.range i);rw[Js] at F;refine k i v t d g ⟨_,s⟩ _ _ (λy I r h B=>⟨h _ _ s,by rw[dw];omega,w,?_,aT,?_⟩) (λI r h=>⟨w,g.trans h,h _ _ s,?_⟩)
  ·intro b o e;rw[aN (cE e u)];exact h _ _ (g _ _ e)
  ·rw[vS,bt r];exact jG (Paired.bA n λz j q=>c _ _ _ _ (aC.put (aC.of h)) q) (c _ _ _ _ (aC.put (aC.of (ak.refl _))) B)
  ·rw[vS,bu (by rw[r];exact Yh),Wc];exact Paired.bA n λz j q=>c _ _ _ _ (aC.of h) q
 ·grind
def Zb5{K:ai}(k:aq K H a xs)(l:xs.length<=1000)(m:H D=aE)(p:Nat->cm)(f:Nat->V)
  (b:∀(i:Nat) (v:V),xs[i]?=Z v->wO tt h n D H v (p i) (λy _=>y=f i))(d:∀c,ak H c->c D=Z (.lst (((List.range xs.length).filter p).map f))->Q (.ref D) c):jN (kA K a) tt h n D H Q:=
 yw k l m p (λi y _=>y=f i) (λ_ _ _ _ _ e=>e) b λo c g q j=>d c g (by rwa[←Fs j])
def Zb6{K:ai}(m:aq K H a xs)(n:xs.length<=1000)(o:H D=aE)(f:V->V)
  (h:∀(i:Nat) (v:V),xs[i]?=Z v->∀c,ak H c->∀e:VK,(∀k,ak c k->e (f v) k)->l (Z v::q) c e)(d:∀b,ak H b->b D=Z (.lst (xs.map f))->Q (.ref D) b):jN (kA K a) CM l q D H Q:=by
 refine Zb5 m n o (λ_=>af) (λi=>f (xs.getD i .aA)) (λi v j c g _ e s r _=>k_ (cS ?_)) λb g p=>d b g ?_;·grind
 ·rw[p,A7,Nz xs (λi=>f (xs.getD i .aA)) f λi v j=>by rw[Yn,j];rfl]
def Zc9{K:ai}(C:az K H a xs)(L:xs.length<=1000)(u:H D=aE)(p:Nat->cm)(l:Nat->V->Hp->Prop)(c:∀i y d x,aC D d x->l i y d->l i y x)
  (k:∀(i:Nat) (v:V),xs[i]?=Z v->wO tt A E D H v (p i) (l i))(G:∀f m,ak H m->m D=Z (.lst f)->Paired (λy i=>l i y m) f ((List.range xs.length).filter p)->Q (.ref D) m):jN (xB K a) tt A E D H Q:=by
 refine Br (λi f d=>i<=xs.length/\ak H d/\d D=Z (.lst f)/\Paired (λy j=>l j y d) f ((List.range i).filter p)) ⟨Yw _,cF u _,aT,.nil⟩ (λi f d _ ⟨_,g,_,_⟩=>g.jV C) ?_ ?_
 ·rintro i v f d t ⟨_,g,s,n⟩;have w:=(Yl.mp t).1;have J:=F_ n;have F:=Wn p (List.range i);rw[Js] at F;refine k i v t d g ⟨_,s⟩ _ _ (λy I r h B=>⟨h _ _ s,by rw[dw];omega,w,?_,aT,?_⟩) (λI r h=>⟨w,g.trans h,h _ _ s,?_⟩)
  ·intro b o e;rw[aN (cE e u)];exact h _ _ (g _ _ e)
  ·rw[vS,bt r];exact jG (Paired.bA n λz j q=>c _ _ _ _ (aC.put (aC.of h)) q) (c _ _ _ _ (aC.put (aC.of (ak.refl _))) B)
  ·rw[vS,bu (by rw[r];exact Yh),Wc];exact Paired.bA n λz j q=>c _ _ _ _ (aC.of h) q
 ·grind
def Zc_{K:ai}(k:az K H a xs)(l:xs.length<=1000)(m:H D=aE)(p:Nat->cm)(f:Nat->V)
  (b:∀(i:Nat) (v:V),xs[i]?=Z v->wO tt h n D H v (p i) (λy _=>y=f i))(d:∀c,ak H c->c D=Z (.lst (((List.range xs.length).filter p).map f))->Q (.ref D) c):jN (xB K a) tt h n D H Q:=
 Zc9 k l m p (λi y _=>y=f i) (λ_ _ _ _ _ e=>e) b λo c g q j=>d c g (by rwa[←Fs j])
def Zbh{v:Int}{n:Nat}{t:TT}{u:TE}{A:St}{D:U}{H:Hp}{Q:VK}(L:n<=1000)(x:H D=aE)(p:Nat->cm)(k:Nat->V->Hp->Prop)(a:∀i y c C,aC D c C->k i y c->k i y C)
  (h:∀i,i<n->wO t u A D H (.int (v+i)) (p i) (k i))(G:∀f l,ak H l->l D=Z (.lst f)->Paired (λy i=>k i y l) f ((List.range n).filter p)->Q (.ref D) l):jN (qM v n) t u A D H Q:=by
 refine yv (λi f c=>i<=n/\ak H c/\c D=Z (.lst f)/\Paired (λy j=>k j y c) f ((List.range i).filter p)) ⟨Yw _,cF x _,aT,.nil⟩ ?_ ?_
 ·rintro i f c w ⟨_,g,s,m⟩;have B:=w;have J:=F_ m;have F:=Wn p (List.range i);rw[Js] at F;refine h i w c g ⟨_,s⟩ _ _ (λy I r d E=>⟨d _ _ s,by rw[dw];omega,B,?_,aT,?_⟩) (λI r d=>⟨B,g.trans d,d _ _ s,?_⟩)
  ·intro b o e;rw[aN (cE e x)];exact d _ _ (g _ _ e)
  ·rw[vS,bt r];exact jG (Paired.bA m λz j q=>a _ _ _ _ (aC.put (aC.of d)) q) (a _ _ _ _ (aC.put (aC.of (ak.refl _))) E)
  ·rw[vS,bu (by rw[r];exact Yh),Wc];exact Paired.bA m λz j q=>a _ _ _ _ (aC.of d) q
 ·grind
def Zbi{j:Int}{n:Nat}{d:TT}{h:TE}{k:St}{D:U}{H:Hp}{Q:VK}(m:n<=1000)(o:H D=aE)(p:Nat->cm)(f:Nat->V)
  (a:∀i,i<n->wO d h k D H (.int (j+i)) (p i) (λy _=>y=f i))(c:∀b,ak H b->b D=Z (.lst (((List.range n).filter p).map f))->Q (.ref D) b):jN (qM j n) d h k D H Q:=
 Zbh m o p (λi y _=>y=f i) (λ_ _ _ _ _ e=>e) a λq b g r l=>c b g (by rwa[←Fs l])
abbrev Nw(H:Hp)(o:HO)(Q:VK):Prop:=∀(p:U) (a:Hp),H p=aE->ak H a->a p=Z o->Q (.ref p) a
def Nw.at(h:Nw H o Q):∀p,H p=aE->Q (.ref p) (upd H p o):=λp a=>h p _ a (cF a o) aT
def zo(t:TA):TE:=λb H Q=>t b H λa c=>a.length<=sizeLine/\Nw c (.tup a) Q
def TM(t:TA):TE:=λb H Q=>t b H λa c=>a.length<=sizeLine/\Nw c (.lst a) Q
section
variable {K:ai}
def df(h:PA X j t):PE X (.Tuple j l pos) (zo t):=by
 intro a s e H Q I i;refine wpAny_Tuple_spliced (aB (h pos a s e H _ I i) λg c ⟨f,k,d,r,z,q⟩=>⟨by rwa[←r.length],⟨.ref c.heap.objs.size,upd k c.heap.objs.size (.tup f),d.laid (λ b u=>Yb _) (Ye _) ?_,rfl,q.at _ (d.ay.fresh (Ye _))⟩⟩);exact⟨z,g,r,⟨_,Yu _ rfl,rfl,_,rfl,rfl⟩⟩
def c6(h:PA X j t):PE X (.List j pos) (TM t):=by
 intro a s e H Q I i;refine El (aB (h pos a s e H _ I i) λg c ⟨f,k,d,r,z,q⟩=>⟨by rwa[←r.length],⟨.ref c.heap.objs.size,upd k c.heap.objs.size (.lst f),d.laid (λ b u=>Yb _) (Ye _) ?_,rfl,q.at _ (d.ay.fresh (Ye _))⟩⟩);exact⟨z,g,0,r,Yu _ rfl⟩
def dk.mono(h:dk X f r)(m:∀a H Q,r' a H Q->r a H Q):dk X f r':=λb s c H a d Q I v q=>h b s c H a d Q I v (m a H Q q)
def cM.mono(h:cM X f r)(m:∀x y H Q,r' x y H Q->r x y H Q):cM X f r':=λa s b H x y v u Q I d c q=>h a s b H x y v u Q I d c (m x y H Q q)
def sM.mono(h:sM X r)(m:∀x lo b H Q,r' x lo b H Q->r x lo b H Q):sM X r':=λa s c H x v e d lo b f Q I g k j i q=>h a s c H x v e d lo b f Q I g k j i (m x lo b H Q q)
inductive N6(a:O V)(H:Hp)(Q:VK):Prop
 |mk (j:Int) (c:a=[.int j]) (b:Nw H (.ku 0 j) Q):N6 a H Q
def Zea:O V->Hp->VK->Prop:=λa H Q=>N6 a H Q
def FQ:dk X (.type "range") Zea:=A2.mono λ_ _ _ a=>by obtain⟨j,e,q⟩:=a;exact⟨j,e,q.at⟩
inductive NI(a:O V)(H:Hp)(Q:VK):Prop
 |mk (p:U) (n:Nat) (e:a=[.ref p]) (d:H p=Z (.ku 0 (n:Int))) (b:n<=1000) (c:Nw H (.lst ((bG n).map V.int)) Q):NI a H Q
def Zda:O V->Hp->VK->Prop:=λa H Q=>NI a H Q
def ZU(b:X.calm=af):dk X (.type "list") Zda:=(Fq b).mono λ_ _ _ a=>by obtain⟨p,n,e,h,l,q⟩:=a;exact⟨p,n,e,h,l,q.at⟩
inductive N7(a:O V)(H:Hp)(Q:VK):Prop
 |mk (p:U) (n:Nat) (e:a=[.ref p]) (d:H p=Z (.ku 0 (n:Int))) (b:n<=1000) (c:Nw H (.tup ((bG n).map V.int)) Q):N7 a H Q
def Zeb:O V->Hp->VK->Prop:=λa H Q=>N7 a H Q
def ZF(b:X.calm=af):dk X (.type "tuple") Zeb:=(Nu b).mono λ_ _ _ a=>by obtain⟨p,n,e,h,l,q⟩:=a;exact⟨p,n,e,h,l,q.at⟩
def Zec(K:ai):O V->Hp->VK->Prop:=λc H Q=>∃(p:U) (a:O Int),c=[.ref p]/\(aq K H p (a.map V.int)\/az K H p (a.map V.int))/\a.length<64/\
  ∀b:O Int,b.Perm a->b.Pairwise (·<=·)->Nw H (.lst (b.map V.int)) Q
def Zed(h:X.K=K):dk X (.builtin "sorted") (Zec K):=h▸NG.mono λ_ _ _ b=>by obtain⟨p,d,e,s,l,q⟩:=b;exact⟨p,d,e,s,l,λa g f pm c=>(q g pm c).at a f⟩
inductive QI(K:ai)(x:V)(c:bS Int)(d:bS Int)(H:Hp)(Q:VK):Prop
 |mk (a b) (g:x=.ref a) (f:aq K H a b) (e:Nw H (.lst (k9 b c d)) Q):QI K x c d H Q
def Zil(K:ai):V->bS Int->bS Int->Hp->VK->Prop:=λx lo a H Q=>QI K x lo a H Q
def Bu(h:X.K=K):sM X (Zil K):=h▸Zfg.mono λ_ _ _ _ _ b=>by obtain⟨a,c,e,s,q⟩:=b;exact⟨a,c,e,s,q.at⟩
def Zim:R2:=λx y H Q=>∃l b c a,x=.ref l/\y=.ref b/\H l=Z (.lst c)/\H b=Z (.lst a)/\c.length+a.length<=sizeLine/\Nw H (.lst (c++a)) Q
def tX:cM X (binaryOp .Add) Zim:=ZgJ.mono λ_ _ _ _ c=>by obtain⟨l,b,d,a,h,g,f,e,z,q⟩:=c;exact⟨l,b,d,a,h,g,f,e,z,q.at⟩
def Zfz:TE:=λ_ H Q=>Nw H (.dK []) Q
def tS:PE X (.Dict [] [] pos) Zfz:=λa s b H Q I q=>Zd7 a s b H Q I q.at
def ZfA:TE:=λ_ H Q=>Nw H (.dT []) Q
def OI:PE X (.Dict [] [] pos) ZfA:=λa s b H Q I q=>Zd8 a s b H Q I q.at
end
abbrev Ch(H:Hp)(a:U)(o:HO)(R:Hp->Prop):Prop:=∀b,aC a H b->b a=Z o->R b
def Ch.at(h:Ch H a o R):R (upd H a o):=h _ (aC.put (aC.of (ak.refl _))) aT
section
variable {X:Cx}
def mN.mono{id:String}(h:mN X id r)(m:∀x a H Q,r' x a H Q->r x a H Q):mN X id r':=λb s c H x a v d Q I e f q=>h b s c H x a v d Q I e f (m x a H Q q)
inductive N8(x:V)(b:O V)(H:Hp)(Q:VK):Prop
 |mk (l a y) (g:x=.ref l) (f:b=[y]) (d:H l=Z (.lst a)) (e:a.length<sizeLine) (c:Ch H l (.lst (a++[y])) (Q .aA)):N8 x b H Q
def Pq:V->O V->Hp->VK->Prop:=λx a H Q=>N8 x a H Q
def oF:mN X "list.append" Pq:=yA.mono λ_ _ _ _ a=>by obtain⟨l,b,y,d,c,h,z,q⟩:=a;exact⟨l,b,y,d,c,h,z,q.at⟩
def Zee:V->O V->Hp->VK->Prop:=λx d H Q=>∃l b c a,x=.ref l/\d=[.ref b]/\H l=Z (.lst c)/\H b=Z (.lst a)/\c.length+a.length<=sizeLine/\Ch H l (.lst (c++a)) (Q .aA)
def Zb7:mN X "list.extend" Zee:=ZcV.mono λ_ _ _ _ c=>by obtain⟨l,b,d,a,h,g,f,e,z,q⟩:=c;exact⟨l,b,d,a,h,g,f,e,z,q.at⟩
def Zin:V->O V->Hp->VK->Prop:=λx b H Q=>∃l a y,x=.ref l/\b=[]/\H l=Z (.lst a)/\a[a.length-1]?=Z y/\Ch H l (.lst a.dropLast) (Q y)
def QL:mN X "list.pop" Zin:=ZgG.mono λ_ _ _ _ a=>by obtain⟨l,b,y,d,c,h,z,q⟩:=a;exact⟨l,b,y,d,c,h,z,q.at⟩
def ZfB:V->O V->Hp->VK->Prop:=λx b H Q=>∃l a,x=.ref l/\b=[]/\H l=Z (.lst a)/\Ch H l (.lst []) (Q .aA)
def Zdb:mN X "list.clear" ZfB:=ZdO.mono λ_ _ _ _ a=>by obtain⟨l,b,d,c,h,q⟩:=a;exact⟨l,b,d,c,h,q.at⟩
def uu.mono(h:uu X t)(m:∀o i v H Q,t' o i v H Q->t o i v H Q):uu X t':=by
 intro a s b H o i x f g v Q I e d c q;exact h a s b H o i x f g v Q I e d c (m _ _ _ _ _ q)
def Zhf:V->V->V->Hp->(Hp->Prop)->Prop:=λo i v H Q=>∃p a k j,o=.ref p/\i=.int k/\H p=Z (.lst a)/\lF a.length k=Z j/\Ch H p (.lst (a.set j v)) Q
def OJ:uu X Zhf:=set_list.mono λ_ _ _ _ _ a=>by obtain⟨p,b,k,j,d,c,h,z,q⟩:=a;exact⟨p,b,k,j,d,c,h,z,q.at⟩
variable {o i W:cP}{N ty P L:TE}{R T:Pos}{f:ar}
inductive Pr(D:Ends)(d:St)(v:V)(x:V)(y:V)(c:Hp):Prop
 |mk (a b k) (l:x=.ref a) (j:c a=Z (.dK b)) (g:y=kV k) (h:b.length<sizeLine) (e:Ch c a (.dK (putK b k v)) (D.nx d)):Pr D d v x y c
def Zhg(N ty P:TE):TS:=λD a H=>P a H λv d=>N a d λx c=>ty a c λy b=>Pr D a v x y b
inductive OK(D:Ends)(e:St)(v:V)(x:V)(y:V)(d:Hp):Prop
 |mk (a b c k) (n:x=.ref a) (m:d a=Z (.dT c)) (j:y=.ref b) (l:d b=Z (.tup (k.map kV))) (h:c.length<sizeLine) (g:Ch d a (.dT (putK c k v)) (D.nx e)):OK D e v x y d
def ZfC(N ty P:TE):TS:=λD a H=>P a H λv d=>N a d λx c=>ty a c λy b=>OK D a v x y b
def qc(A:X.A.units+1<cLine)(C:PE X o N)(E:PE X i ty)(z:PE X W P)(B:swapsWith W (Z (.Subscript o i T)) R.line X.env=pure a7:=by rfl):
  PS X (.Assign [.Subscript o i T] W R) (Zhg N ty P):=by
 intro b s d H D I h;refine AR (aB (z b s d H _ I h) λr g c=>?_) B;obtain⟨v,H1,I1,n,t⟩:=c;refine aB (C b g d H1 _ I1 t) λu e c=>?_;obtain⟨x,H2,I2,m,q⟩:=c;refine aB (E b e d H2 _ I2 q) λiv s3 c=>?_;obtain⟨y,H3,I3,j,a,w,k,J,F,G,l,p⟩:=c;subst J;subst G;obtain rfl:u=Value.ref a:=m;exact OG A I3 (uz.k F l) j n λs4 Q=>⟨d,_,Q,p.at⟩
def OL(B:X.A.units+1<cLine)(E:PE X o N)(F:PE X i ty)(A:PE X W P)(C:swapsWith W (Z (.Subscript o i T)) R.line X.env=pure a7:=by rfl):
  PS X (.Assign [.Subscript o i T] W R) (ZfC N ty P):=by
 intro c s e H D I h;refine AR (aB (A c s e H _ I h) λr j d=>?_) C;obtain⟨v,H1,I1,p,w⟩:=d;refine aB (E c j e H1 _ I1 w) λu g d=>?_;obtain⟨x,H2,I2,n,t⟩:=d;refine aB (F c g e H2 _ I2 t) λiv s3 d=>?_;obtain⟨y,H3,I3,m,a,b,z,k,ex,J,Q,G,l,q⟩:=d;subst ex;subst Q;obtain rfl:u=Value.ref a:=n;exact OG B I3 (uz.t J G l) m p λs4 I4=>⟨e,_,I4,q.at⟩
def Zio(K:ai)(L P:TE)(f:ar):TS:=λD b H=>P b H λy e=>L b e λx d=>∃a C c fs,x=.ref a/\d a=Z (.ins C c fs)/\ir K C/\du K C f/\fs.length<1000/\Ch d a (.ins C c (cV f y fs)) (D.nx b)
def hZ{K:ai}(w:X.K=K)(v:PE X o L)(r:PE X W P)(t:swapsWith W (Z (.Attribute o f T)) R.line X.env=pure a7:=by rfl):PS X (.Assign [.Attribute o f T] W R) (Zio K L P f):=by
 subst w;intro b s d H D I h;refine uU (aB (r b s d H _ I h) λu g e=>?_) t;obtain⟨y,G,F,j,q⟩:=e;refine aB (v b g d G _ F q) λp Q e=>?_;obtain⟨x,H2,E,k,a,C,dx,fs,z,A,c,n,l,m⟩:=e;subst z;obtain rfl:p=Value.ref a:=k;exact NU E A c n l j λJ B=>⟨d,_,B,m.at⟩
end
def Ab(x:ar):It:=⟨λi _=>i<x.length,λi H v a=>a=H/\∃c,x.cps[i]?=Z c/\v=.str ⟨#[c]⟩,λi _=>x.length<=i⟩
theorem ZV{P:de}{w:c5}{K:ai}{B:cP}(it:U)(x:ar)(t:Tok):Turn P w K B (Ab x) [it] it (λi h=>h.IsStrIter it "str_ascii_iterator" x t i) where
 mem:=QS
 obj:=λi h st b f=>by
  have e:b=it:=by simpa using f
  obtain⟨o,e,c,d⟩:=st
  grind
 keep:=λi h y st k=>let⟨o,e,r⟩:=st;⟨o,k it QS o e,r⟩
 item:=by
  intro X F D G v i a s A H E I g st j;obtain⟨q,p,J,n,m,l⟩:=g it QS;have u:=W0 j;refine wpAny_pyNext_ascii_item st u λy z C=>?_;obtain⟨o,e,c,d⟩:=id z;exact⟨_,rfl,uc e c d QD ⟨.str ⟨#[x.cps[i]]⟩,H,(I.turned (λb o f e=>(C.2 b f).trans e) q p n m l),⟨_,rfl⟩,⟨rfl,_,u,rfl⟩,z,λb f=>(g b f).1⟩⟩
 done:=by
  intro X F D G v i a s A H E I g st j;obtain⟨q,p,J,n,m,l⟩:=g it QS;exact wpAny_pyNext_ascii_end (I.ok.hd v) st (V2 j) λy L=>⟨rfl,I.turned (L) q p n m l⟩
 self:=λ_ _ _ _ _ st h=>wpAny_pyIter_striter_ascii st h
theorem Zab{P:de}{w:c5}{K:ai}{B:cP}(it:U)(x:ar)(t:Tok):Turn P w K B (Ab x) [it] it (λi h=>h.IsStrIter it "str_iterator" x t i) where
 mem:=QS
 obj:=λi h st b f=>by
  have e:b=it:=by simpa using f
  obtain⟨o,e,c,d⟩:=st
  grind
 keep:=λi h y st k=>let⟨o,e,r⟩:=st;⟨o,k it QS o e,r⟩
 item:=by
  intro X F D G v i a s A H E I g st j;obtain⟨q,p,J,n,m,l⟩:=g it QS;have u:=W0 j;refine wpAny_pyNext_wide_item st u λy z C=>?_;obtain⟨o,e,c,d⟩:=id z;exact⟨_,rfl,uc e c d QD ⟨.str ⟨#[x.cps[i]]⟩,H,(I.turned (λb o f e=>(C.2 b f).trans e) q p n m l),⟨_,rfl⟩,⟨rfl,_,u,rfl⟩,z,λb f=>(g b f).1⟩⟩
 done:=by
  intro X F D G v i a s A H E I g st j;obtain⟨q,p,J,n,m,l⟩:=g it QS;exact wpAny_pyNext_wide_end (I.ok.hd v) st (V2 j) λy L=>⟨rfl,I.turned (L) q p n m l⟩
 self:=λ_ _ _ _ _ st h=>wpAny_pyIter_striter_wide st h
inductive Sq(R:It->Hp->Prop)(v:V)(a:Hp):Prop
 |mk (x) (c:v=.str x) (b:R (Ab x) a):Sq R v a
def Zja(b:TE):TI:=λa H R=>b a H λv c=>Sq R v c
theorem Zhh(p:PE X l k):PI X u l (Zja k):=by
 intro a s i H R I h;refine aB (p a s i H _ I h) λv c j=>?_;obtain⟨x,f,d,m,n⟩:=j;obtain⟨z,e,q⟩:=n;subst e;obtain⟨t,rfl⟩:=m;have fin:∀b∈[c.heap.objs.size],jq X a f b:=λb r=>by
  have e:b=c.heap.objs.size:=by simpa using r
  subst e;exact d.sr (Ye _) (d.ay.fresh (Ye _))
 cases g:z.cps.all (·<128) with
 |true=>exact wpAny_pyIter_ascii g ⟨c.heap.objs.size,[c.heap.objs.size],_,_,f,rfl,d.kept λb o e=>Yb _ e,ZV _ z t,⟨_,Yu _ rfl,rfl,rfl⟩,fin,q⟩
 |false=>exact wpAny_pyIter_wide g ⟨c.heap.objs.size,[c.heap.objs.size],_,_,f,rfl,d.kept λb o e=>Yb _ e,Zab _ z t,⟨_,Yu _ rfl,rfl,rfl⟩,fin,q⟩
abbrev sg(c:Nat):V:=.str ⟨#[c]⟩
def Zef(d:Nat->O V->Hp->Prop)(q:d 0 [] (upd H D (.lst [])))
  (t:∀(i c:Nat) (a:O V) (H:Hp),x.cps[i]?=Z c->d i a H->tt (Z (sg c)::g) H λb j=>if b=af then k (Z (sg c)::g) j λy h=>h D=Z (.lst a)/\a.length<sizeLine/\d (i+1) (a++[y]) (upd h D (.lst (a++[y]))) else d (i+1) a j)
  (o:∀a H,d x.length a H->Q (.ref D) H):jN (Ab x) tt k g D H Q:=by
 refine⟨λi m a H=>m=x.length-i/\i<=x.length/\d i a H,⟨x.length,QS,Yw _,q⟩,?_⟩;rintro i m a H ⟨rfl,n,p⟩;by_cases f:i<x.length
 ·refine .inr ⟨f,d (i+1),λs r l=>⟨x.length-(i+1),QO,rfl,f,l⟩,λv r y=>?_⟩;obtain⟨e,c,u,rfl⟩:=y
  grind
 ·have e:i=x.length:=(i1 n (eL f))
  subst e;exact .inl ⟨Ye _,o a H p⟩
def Zdc(y:x.length<=100000)(p:H D=aE)(f:Nat->V)
  (d:∀(i c:Nat),x.cps[i]?=Z c->∀a,ak H a->∀s:VK,(∀m,ak a m->s (f c) m)->t (Z (sg c)::v) a s)(l:∀n,ak H n->n D=Z (.lst (x.cps.toList.map f))->Q (.ref D) n):jN (Ab x) CM t v D H Q:=by
 refine Zef (λi h a=>i<=x.length/\ak H a/\a D=Z (.lst h)/\h=(x.cps.toList.take i).map f) ⟨Yw _,cF p _,aT,rfl⟩ ?_ ?_
 ·rintro i c h a j ⟨_,g,k,e⟩;have w:i<x.length:=(Jv.mp j).1;refine k_ (cS (d i c j a g _ λm r=>⟨r _ _ k,?_,w,?_,aT,?_⟩))
  ·rw[e,Ya,Wa,dw];omega
  ·intro b o q;rw[aN (cE q p)];exact r _ _ (g _ _ q)
  ·have u:x.cps.toList[i]?=Z c:=by rw[Jo];exact j
   rw[e,Y3,u,Yi];rfl
 ·rintro h a ⟨_,g,k,e⟩;refine l a g ?_;rw[k,e,Wz (by show x.cps.toList.length<=x.cps.size;simp)]
end L2
namespace L2
open PySem PySem.W PySem.Spec PyProof.Rows
def Zhi:O V->Hp->VK->Prop:=λb H Q=>∃(p:U) (a:O (Key×V)),b=[.ref p]/\H p=Z (.dK a)/\Nw H (.lst (a.map λc=>kV c.1)) Q
theorem Hq:∀{c:O Key} {b:O aY},b.length=c.length->(∀(j:Nat) (v:aY),b[j]?=Z v->∃k,c[j]?=Z k/\(dU P w).is k v=af)->Vals (c.map kV) b
 |[],[],_,_=>.nil
 |k::c,u::b,a,h=>by
  obtain⟨k',e,d⟩:=h 0 u rfl;have g:k=k':=by simpa using e
  subst g;refine .cons ?_ (Hq (by simpa using a) λj v f=>by simpa using h (j+1) v (by simpa using f));rcases m7 (d) with⟨i,t,rfl,rfl⟩|⟨x,t,rfl,rfl⟩;·exact⟨t,rfl⟩
  ·exact⟨t,rfl⟩
 |[],_::_,a,_=>by simp at a
 |_::_,[],a,_=>by simp at a
def Zbj(z:X.calm=af):dk X (.type "list") Zhi:=by
 rintro g s C H D E Q I r ⟨p,b,rfl,y,q⟩;obtain⟨u,rfl,m⟩:=vals1 r;obtain rfl:u=Value.ref p:=m;obtain⟨n,i,l,a,A⟩:=mF I.ay y;obtain⟨W,B⟩:=A.dictAt;have G:=a.length;refine kdl_call (kdl_dict i) (I.ok.hd z) B QO λT F f c t R h=>?_;have d:Vals (b.map λa=>kV a.1) f.toList:=by
  have e:(b.map λa=>kV a.1)=(l.map (·.1)).map kV:=by rw[←a.keys,Y7];rfl
  rw[e];refine Hq (P:=X.prog) (w:=X.w) (by rw[Wh,Ya];exact h.1) λj v N=>?_;obtain⟨k,x,J,L⟩:=h.2 j v (by rwa[←Jo])
  grind
 exact⟨.ref s.heap.objs.size,_,(I.laid (o:=.lst (b.map λa=>kV a.1)) t (Ye _) ⟨by rwa[Ya],f.toList,c,d,by rwa[Du]⟩),rfl,q.at _ (I.ay.fresh (Ye _))⟩
end L2
namespace L2
open PySem PySem.Spec PyProof.Rows
abbrev Cw(D:O (ar×ar)):O (ar×PyData):=D.map λp=>(p.1,PyData.str p.2)
def w_(K:ai)(a:U)(D:O (ar×ar)):Prop:=KTD.tabLook KTD.flatLooks (λb=>K.lookup b) a (Cw D)=af
theorem yC(f:a->b)(k:ar):∀D:O (ar×a),KTD.datumAt k (D.map λp=>(p.1,f p.2))=(KTD.datumAt k D).map f
 |[]=>rfl
 |p::D=>by
  rw[Wq];unfold KTD.datumAt;by_cases e:k=p.1;·simp[e]
  ·simp[e];exact yC f k D
def w_.here{K:ai}(t:w_ K a D)(b:K.In h):KTD.Here h h a ((Cw D).map λp=>(p.1,KTD.Dat.flat p.2)):=
 ⟨KTD.TabOf.text (KTD.tab_of_look (λ_ _=>KTD.flat_of_looks) (b) t),λ_ _ e=>e⟩
def oU(D:O (ar×ar))(z:ar):cm:=(KTD.datumAt z D).isSome
def keys_has(D:O (ar×ar))(z:ar):KTD.inKeys z ((Cw D).map λp=>(p.1,KTD.Dat.flat p.2))=oU D z:=by
 rw[←KTD.isSome_datumAt,yC KTD.Dat.flat,yC PyData.str];unfold oU
 grind
def Zhj(K:ai)(b:cm):R2:=λx y H Q=>∃(z:ar) (a:U) (D:O (ar×ar)),x=.str z/\y=.ref a/\w_ K a D/\Q (.bl (if b=af then !oU D z else oU D z)) H
def Zhk{K:ai}(e:X.K=K):cM X (compareOp .In) (Zhj K a7):=by
 subst e;rintro b s f H x y v u Q I d c ⟨z,a,D,rfl,rfl,t,q⟩;obtain⟨g,rfl⟩:=d;obtain rfl:u=Value.ref a:=c;refine KTD.in_text (t.here I.cG) ?_;rw[keys_has];exact⟨.bl (oU D z),H,I.tok _,rfl,q⟩
def Zhl(K:ai):R2:=λx y H Q=>∃(a:U) (z r:ar) (D:O (ar×ar)),x=.ref a/\y=.str z/\w_ K a D/\KTD.datumAt z D=Z r/\Q (.str r) H
theorem ZfD{K:ai}(A:X.K=K):jw X (Zhl K):=by
 subst A;intro b c f s B H x y v u Q I n m h w;obtain⟨a,z,r,D,rfl,rfl,t,e,q⟩:=h;obtain⟨k,rfl⟩:=m;obtain rfl:v=Value.ref a:=n;have T:=t.here I.cG;refine tail_any T.typeIs slot_dict_getitem.lookup ?_ w;unfold getItem;try with_reducible refine hV ?_
 refine bh (KO T.typeIs QD ?_);refine bh (z_ T.typeIs LD
  (nh LD T.typeIs entry_dict_getitem ?_ (args_dict_getitem _ _)))
 show wpAny _ _ (dictGet a (.str z k)>>=_) _ _ s;have j:KTD.datumAt z ((Cw D).map λp=>(p.1,KTD.Dat.flat p.2))=Z (.flat (.str r)):=by rw[yC KTD.Dat.flat,yC PyData.str,e];rfl
 refine bh (KTD.dictGet_text T (λd v i o=>cy ⟨v,rfl,cy ?_⟩) λg=>by rw[j] at g;cases g);rw[j] at i;cases i;cases o s.heap with
 |str x l=>exact⟨.str r,H,I.tok _,⟨l,rfl⟩,q⟩
def qp(h:bZ X.prog X.w X.K X.mg X.base k m C p sp)(g:cW j X.A)(n:k<=j)(i:PE X o d)
  (e:eval (.Call (.Attribute o m apos) [] [] pos) X.env=(do
   let a←eval o X.env
   standAt apos.atName
   let(f,first)←holding [a] (getMethod a m q)
   callWith pos f first (backTo pos (starEach [] X.env)) (backToKw pos (keywordEach [] X.env))):=by rfl):
  PE X (.Call (.Attribute o m apos) [] [] pos) (Cr C m sp [] E0 d jr):=by
 obtain⟨f,r,c,l,F,b⟩:=h;exact ZdJ i c l F (g.mono n) b .nil zg e
def QM(h:Ce X.prog X.w X.K X.mg X.base k m C J sp)(y:cW j X.A)(A:k<=j)(v:Kk X E)(z:PE X o r)
  (w:eval (.Call (.Attribute o m apos) [] [] pos) X.env=(do
   let g←eval o X.env
   standAt apos.atName
   let(f,first)←holding [g] (getMethod g m L)
   callWith pos f first (backTo pos (starEach [] X.env)) (backToKw pos (keywordEach [] X.env))):=by rfl):
  PE X (.Call (.Attribute o m apos) [] [] pos) (ZgO C m sp E r jr):=by
 obtain⟨f,N,c,i,F,b⟩:=h;intro d s n H Q I h;refine q7 (aB (z d s n H _ I h) λu G p=>?_) w;obtain⟨x,R,e,t,a,P,fs,B,D,l,q⟩:=p;subst B;obtain rfl:u=Value.ref a:=t;exact GI e D c i l (callWith_K0 e.cG i.kp (Zfm (vs:=[.ref a]) F (y.mono A) b .nil v e (.cons rfl .nil) q))
def CP(K:ai)(b:cm):R2:=λx y H Q=>∃(p q:U) (a:O V),x=.ref p/\y=.ref q/\aq K H p a/\aq K H q []/\Q (.bl (if b=af then !a.isEmpty else a.isEmpty)) H
theorem JM(h:X.A.units<cLine):cM X (compareOp .Eq) (CP X.K a7):=by
 rintro d s w H x y v u Q I m l ⟨p,q,i,rfl,rfl,b,t,k⟩;cases m;cases l;obtain⟨D,c,g,B⟩:=I.list b;obtain⟨C,n,f,A⟩:=I.list t;cases n;have o:=c.length;cases i with
 |nil=>
  cases c;exact Pw (e:=λ_=>af) g.isList f.isList rfl h (λj b _=>absurd b QS) (cO I k QS)
 |cons a r=>exact Ag g.isList f.isList (by simp;intro z;subst z;simp at o) h (cO I k QS)
theorem Cf(h:X.A.units<cLine):cM X (compareOp .NotEq) (CP X.K af):=by
 rintro d s w H x y v u Q I m l ⟨p,q,i,rfl,rfl,b,t,k⟩;cases m;cases l;obtain⟨D,c,g,B⟩:=I.list b;obtain⟨C,n,f,A⟩:=I.list t;cases n;have o:=c.length;cases i with
 |nil=>
  cases c;exact SeqAt.RcNeAt.lists (e:=λ_=>af) g.isList f.isList rfl h (λj b _=>absurd b QS) _ _ _ _ (cO I k QS)
 |cons a r=>exact SeqAt.RcNeAt.lists_lengths g.isList f.isList (by simp;intro z;subst z;simp at o) h _ _ _ _ (cO I k QS)
def Zb8:dk X (.builtin "len") (λb H Q=>∃p a,b=[.ref p]/\H p=Z (.dK a)/\Q (.int (a.length:Int)) H):=by
 rintro c s g H b h Q I r ⟨p,a,rfl,e,q⟩;obtain⟨u,rfl,d⟩:=vals1 r;obtain rfl:u=Value.ref p:=d;exact Zii I (.inl e) λt i f=>⟨.int (a.length:Int),H,f,⟨t,rfl⟩,q⟩
def aC.trans(g:aC D H c)(a:aC D c LP):aC D H LP:=λb o e n=>a b o (g b o e n) n
def Out(a:O U)(H c:Hp):Prop:=∀b o,H b=Z o->b∉a->c b=Z o
def Out.of(g:ak H H'):Out fp H H':=λb o e _=>g b o e
def Out.trans(g:Out fp H c)(a:Out fp c LP):Out fp H LP:=λb o e n=>a b o (g b o e n) n
def Out.bar(g:aC a H H')(m:a∈fp):Out fp H H':=λb o e n=>g b o e λz=>n (by rwa[z])
def setC(h:u D (σ.set i (Z v)) H):ur (uv (tC v) (qv i)) u D σ H:=h
def b_(h:a σ H λx b=>u D (σ.set i (Z x)) b):ur (uv a (qv i)) u D σ H:=h
def dm(h:H a=Z (.dK b))(e:a9 b (.inr z)=o):eW H a (.str z) o:=.inl ⟨b,.inr z,.inl h,rfl,e.symm⟩
section
variable {X:Cx}{N R tgt:cP}{xs:O ar}{E:Pos}{P:O cP}{W:Scope}{cl:O (ar×U)}{fr:O (ar×Nat)}{G:TG}{L:TT}{F:TE}{σ:St}
def Zhm(n:Nat)(b:TI)(fr:O (ar×Nat))(G:TG)(L:TT)(F:TE):TE:=λσ H Q=>b σ H λJ a=>∀D,a D=aE->JA n J G L F (ic σ fr) D a Q
def Zeg(p:X.calm=af)(a:rH X W cl xs fr)(n:∀C s H fp,PG (c8 X xs fr W cl C s H fp) tgt G)(l:PI X tgt R c)
  (i:∀C s H fp,uS (c8 X xs fr W cl C s H fp) P L)(o:∀C s H fp,PE (c8 X xs fr W cl C s H fp) N F)
  (j:∀x,foldedSetIterable R X.env x=pure x:=by intro _;rfl):PE X (.ListComp N [⟨tgt,R,P,0⟩] W E) (Zhm xs.length c fr G L F):=by
 intro b s σ H Q I h;refine sY rfl j a.wY a.kind a.names (aB (l b s σ H _ I h) λv d t=>aB t λuO s2 r=>?_);obtain⟨it,fp,tn,J,H2,e,I2,T,c9,z,g⟩:=r;subst e;refine NW p a n i o I2 T c9 z g ?_;intro D C d H1 m I1 k B A y w u q;exact⟨m,k,λh' f=>⟨.ref D,H1,I1.turned (f.extBut) B A (.inr y) w u,rfl,q⟩⟩
end
def Zb9{K:ai}(d:Nat->O V->Hp->Prop)(z:d 0 [] (upd H D (.lst [])))(u:∀i b H,i<=xs.length->d i b H->aq K H a xs)
  (E:∀i v b H,xs[i]?=Z v->d i b H->∀os:St,os.length=n->r v (os++k) H λf A=>(∃h:St,h.length=n/\f=h++k)/\tt f A λc o=>if c=af then s f o λy l=>l D=Z (.lst b)/\b.length<sizeLine/\d (i+1) (b++[y]) (upd l D (.lst (b++[y]))) else d (i+1) b o)
  (w:∀b H,d xs.length b H->Q (.ref D) H):JA n (kA K a) r tt s k D H Q:=by
 refine⟨λi m b H=>m=xs.length-i/\i<=xs.length/\d i b H,⟨xs.length,QS,Yw _,z⟩,?_⟩;rintro i m b H ⟨rfl,j,p⟩;have q:=u i b H j p;by_cases g:i<xs.length
 ·refine .inr ⟨⟨xs,xs[i],q,by simp[g]⟩,d (i+1),λC B t=>⟨xs.length-(i+1),QO,rfl,g,t⟩,λx B y=>?_⟩;obtain⟨e,y⟩:=y
  grind
 ·have e:i=xs.length:=(i1 j (eL g))
  subst e;exact .inl ⟨⟨xs,q,Ye _⟩,w b H p⟩
abbrev sO(c e g d f:cP)(a:Scope)(b:Pos):cP:=.ListComp c [⟨e,g,[],0⟩,⟨d,f,[],0⟩] a b
theorem Zdd(I:Nat->bR->Prop)
  (c:∀n s,I n s->wpAny (model prog w) A (pyNext it) (λr f=>match r with
   |none=>R (.ok .next) f
   |some v=>wpAny (model prog w) A (letOwnedTupleGo g it v) (λ_ o=>wpAny (model prog w) A (assign g env v) (λ_ l=>
     wpAny (model prog w) A (eval elt env) (λx j=>
       wpAny (model prog w) A (call (.builtin "list.append") [acc,x]) (λ_ i=>∃m,m<n/\I m i) (notedBy (model prog w) A env λe a=>R (.error e) a) j) (notedBy (model prog w) A env λe a=>R (.error e) a) l) (notedBy (model prog w) A env λe a=>R (.error e) a) o) (notedBy (model prog w) A env λe a=>R (.error e) a) f) (notedBy (model prog w) A env λe a=>R (.error e) a) s)
  (n:Nat)(h:I n s):codeAny (model prog w) A (.compLoop (sO elt t1 z g y scope pos) 1 it acc env) R s:=by
 refine xc rfl I (λn s u=>xA (bh (kI (bh (dy (c n s u) (λr f k=>?_) λ_ _ b=>b))))) n h;cases r with
 |none=>exact cy k
 |some v=>
  exact bh (dy k (λ_ o d=>bh (dy d (λ_ l t=>bh (vl (bh (bh (dy t (λx j p=>bh (dy p (λ_ i q=>cy (cy ⟨rfl,q⟩)) λ_ _ b=>b)) λ_ _ b=>b))))) λ_ _ b=>b)) λ_ _ b=>b)
theorem Zde(E:∀x,foldedSetIterable g env x=pure x)(I:Nat->bR->Prop)
  (c:∀n s,I n s->wpAny (model prog w) A (pyNext it) (λr i=>match r with
   |none=>R (.ok .next) i
   |some v=>wpAny (model prog w) A (letOwnedTupleGo t1 it v) (λ_ q=>wpAny (model prog w) A (assign t1 env v) (λ_ o=>
     wpAny (model prog w) A (eval g env) (λx p=>wpAny (model prog w) A (pyIter x) (λt k=>
      codeAny (model prog w) A (.compStart (sO elt t1 D B g scope pos) 1 t acc env) (λr j=>match r with|.ok _=>∃m,m<n/\I m j|.error _=>False) k)
      (notedBy (model prog w) A env λe a=>R (.error e) a) p) (notedBy (model prog w) A env λe a=>R (.error e) a) o) (notedBy (model prog w) A env λe a=>R (.error e) a) q) (notedBy (model prog w) A env λe a=>R (.error e) a) i) (notedBy (model prog w) A env λe a=>R (.error e) a) s)
  (n:Nat)(h:I n s):codeAny (model prog w) A (.compLoop (sO elt t1 D B g scope pos) 0 it acc env) R s:=by
 refine xc rfl I (λn s F=>xA (bh (kI (bh (dy (c n s F) (λr i l=>?_) λ_ _ b=>b))))) n h;cases r with
 |none=>exact cy l
 |some v=>
  refine bh (dy l (λ_ q d=>bh (dy d (λ_ o C=>bh (vl (bh (dy C (λx p z=>bh (kI ?_)) λ_ _ b=>b)))) λ_ _ b=>b)) λ_ _ b=>b);rw[E];refine bh (cy (bh (hV (dy z (λt k u=>bh (wpAny_runOwn (lJ u λr j y=>?_))) λ_ _ b=>b))));cases r with
  |error e=>grind
  |ok f=>exact cy ⟨rfl,y⟩
theorem ZaH
  (g:codeAny (model prog w) A (.compLoop (sO elt t1 f d e scope pos) 1 it acc env) R s)
  (h:wpAny (model prog w) A (pyIter it) (λc a=>codeAny (model prog w) A (.compLoop (sO elt t1 f d e scope pos) 1 c acc env) R a) (notedBy (model prog w) A env λx a=>R (.error x) a) s):
  codeAny (model prog w) A (.compStart (sO elt t1 f d e scope pos) 1 it acc env) R s:=by
 refine Ng (wpAny_notedAt (bh (wpAny_askSetting (wpAny_ite ?_))));split
 ·first
   |exact bh (cy (cy (rj rfl g)))
   |exact cy (rj rfl g)
 ·first
   |exact bh (rb (bh (kI (bh (dy h (λc a b=>cy (rj rfl b)) λ_ _ x=>x)))))
   |(refine bh (rb ?_);exact bh (kI (bh (dy h (λc a b=>cy (rj rfl b)) λ_ _ x=>x))))
def JN(n:Nat)(J:It)(E:TG)(C:TI)(B:TG)(A:TE)(h:St)(D:U)(H:Hp)(Q:VK):Prop:=
 ∃W:Nat->Nat->O V->Hp->Prop,(∃m,W 0 m [] (upd H D (.lst [])))/\∀i m p H,W i m p H->
  (J.stop i H/\Q (.ref D) H)\/(J.go i H/\∃N:O V->Hp->Prop,(∀d a,N d a->∃c,c<m/\W (i+1) c d a)/\
   ∀v a,J.sI i H v a->∀os:St,os.length=n->E v (os++h) a λj I=>(∃s:St,s.length=n/\j=s++h)/\C j I λo G=>
    ∃l:Nat->Nat->O V->St->Hp->Prop,(∃g,l 0 g p j G)/\∀e g b k f,l e g b k f->
     (o.stop e f/\(∃q:St,q.length=n/\k=q++h)/\N b f)\/(o.go e f/\∃u:O V->St->Hp->Prop,(∀d t a,u d t a->∃c,c<g/\l (e+1) c d t a)/\
      ∀r x,o.sI e f r x->B r k x λz F=>A z F λy w=>w D=Z (.lst b)/\b.length<sizeLine/\u (b++[y]) z (upd w D (.lst (b++[y])))))
section
variable {X:Cx}{P L g F B:cP}{xs:O ar}{G:Pos}{R:Scope}{cl:O (ar×U)}{fr:O (ar×Nat)}{A w:TG}{t:TI}{l:TE}{σ:St}
def Zb_{H2:Hp}{s2:bR}{it:U}{f:O U}{tn:Nat->cY->Prop}{J:It}{Q:VK}{RR:aY->U->Result->bR->Prop}{E:bg}
  (hc:X.calm=af)(a:rH X R cl xs fr)(hg:∀C s H f,PG (c8 X xs fr R cl C s H f) L A)(LR:∀C s H f,PI (c8 X xs fr R cl C s H f) F B t)(LS:∀C s H f,PG (c8 X xs fr R cl C s H f) F w)(he:∀C s H f,PE (c8 X xs fr R cl C s H f) P l)
  (sL:∀C x,foldedSetIterable B (compEnvC R cl C X.env) x=pure x)
  (I2:Inv X pins σ H2 s2)(T:Turn X.prog X.w X.K L J f it tn)(c9:tn 0 s2.heap)(f2:∀b∈f,jq X pins H2 b)
  (hw:∀D,H2 D=aE->JN xs.length J A t w l (ic σ fr) D H2 Q)
  (hR:∀D C s1 H1 m,Inv X pins σ H1 s1->s1.heap.Ns C m->H1 C=aE->C≠X.env.locals->X.dh.heap.objs.size<=C->(∀y c,X.env.cells.lookup y=Z c->c≠C)->(∀p∈X.pn++pins,p.1≠C)->Q (.ref D) H1->RR (.ref D) C (.ok .next) s1):
  wpAny X.md X.A (newList []) (λacc eM=>wpAny X.md X.A (newFunctionEnv R X.env.globals cl [] X.env.qual aE .none (Z X.env)) (λnK js=>
   codeAny X.md X.A (.compStart (sO P L g F B R G) 0 (.ref it) acc {nK with scope:=relabel R X.env}) (RR acc nK.locals) js) E eM) E s2:=by
 refine Pd (tgt:=L) a I2 T c9 f2 hR λD C s I eM hD e3 I4 xF xC fin=>?_;obtain⟨W,⟨m0,w0⟩,turn⟩:=hw D hD;rw[←e3] at w0;refine Zde (sL _) (λk s'=>∃i ys H' os,os.length=xs.length/\Inv (c8 X xs fr R cl C s I f) [] (os++ic σ fr) H' s'/\tn i s'.heap/\(∀b∈f,H' b=aE)/\W i k ys H') ?_ m0
  ⟨0,[],_,List.replicate xs.length aE,W3,I4,xF,xC,w0⟩
 rintro n s5 ⟨i,ys,H5,os,qO,I5,qN,uP,w5⟩;have nI:∀{H':Hp},(∀b∈f,H' b=aE)->∀b∈f,jq (c8 X xs fr R cl C s I f) [] H' b:=λ{H'} hn b h=>
  ⟨hn b h,(I5.ok.sH b h).1,I5.ok.sh b h,.inl h,(I5.ok.sH b h).2,λp hp=>absurd (show p∈([]:aW) from hp) QS⟩
 rcases turn i n ys H5 w5 with⟨stop,qn⟩|⟨go,N,hN,step⟩
 ·refine aB (T.done (c8 X xs fr R cl C s I f) rfl rfl rfl hc i [] s5 _ H5 _ I5 (nI uP) qN stop) λr s6 q=>?_;obtain⟨hr,I6⟩:=q;subst hr;exact fin _ _ _ I6 qn
 ·refine aB (T.item (c8 X xs fr R cl C s I f) rfl rfl rfl hc i [] s5 _ H5 _ I5 (nI uP) qN go) λr s6 q=>?_;obtain⟨u,hr,h6⟩:=q;subst hr;refine aB h6 λ_ s7 q=>?_;obtain⟨v,H7,I7,r7,y7,uT,LG⟩:=q;have LH:=I7.pinned (nI LG) (T.obj _ _ uT);refine dy (hg _ _ _ _ _ s7 _ H7 v u _ LH r7 (step v H7 y7 os qO)) (λ_ s8 q=>?_) λ _ _=>False.elim;obtain⟨σ8,H8,I8,⟨lG,KS,e8⟩,q8⟩:=q;subst e8;have again:∀{qQ:St} {H9:Hp} {s9:bR} {qR:O V},qQ.length=xs.length->Inv (c8 X xs fr R cl C s I f) ([]++rZ f s7.heap) (qQ++ic σ fr) H9 s9->N qR H9->
    ∃m,m<n/\∃i ys H' os,os.length=xs.length/\Inv (c8 X xs fr R cl C s I f) [] (os++ic σ fr) H' s9/\tn i s9.heap/\(∀b∈f,H' b=aE)/\W i m ys H':=λ{qQ H9 s9 qR} l1 I9 n9=>by
   obtain⟨m',hm,w9⟩:=hN qR H9 n9;refine⟨m',hm,i+1,qR,H9,qQ,l1,I9.wj,T.keep _ _ _ uT λb h o e=>(I9.pin (b,o) (Ym _ (Ym _ (rG h e)))).1,λb h=>?_,w9⟩;obtain⟨o,e,d⟩:=T.obj _ _ uT b h;exact(I9.pin (b,o) (Ym _ (Ym _ (rG h e)))).2.1
  refine dy (LR _ _ _ _ _ s8 _ H8 _ I8 q8) (λx s9 h9=>dy h9 (λuO LI h10=>?_) λ _ _=>False.elim) λ _ _=>False.elim;obtain⟨DE,LU,tn2,J2,qS,qU,LJ,T2,UH,LV,W2,⟨m2,w2⟩,Ziq⟩:=h10;subst qU;have Kn:∀{H':Hp},(∀b∈LU,H' b=aE)->∀b∈LU,jq (c8 X xs fr R cl C s I f) ([]++rZ f s7.heap) H' b:=λhn b h=>⟨hn b h,(LV b h).2⟩;have TN:codeAny X.md X.A (.compLoop (sO P L g F B R G) 1 (.ref DE) (.ref D) (compEnvC R cl C X.env)) (λr nJ=>match r with|.ok _=>∃m,m<n/\∃i ys H' os,os.length=xs.length/\Inv (c8 X xs fr R cl C s I f) [] (os++ic σ fr) H' nJ/\tn i nJ.heap/\(∀b∈f,H' b=aE)/\W i m ys H'|.error _=>False) LI:=by
   refine Zdd (λk s'=>∃j zs aK H',Inv (c8 X xs fr R cl C s I f) ([]++rZ f s7.heap) aK H' s'/\tn2 j s'.heap/\(∀b∈LU,H' b=aE)/\W2 j k zs aK H') ?_ m2 ⟨0,ys,_,qS,LJ,UH,λb h=>(LV b h).1,w2⟩;rintro k LK ⟨j,zs,Zjb,z6,Dw,UI,UJ,w11⟩;rcases Ziq j k zs Zjb z6 w11 with⟨stop,⟨xI,Zjc,e3⟩,qn⟩|⟨go,N2,hN2,Zir⟩
   ·refine aB (T2.done (c8 X xs fr R cl C s I f) rfl rfl rfl hc j _ LK _ z6 _ Dw (Kn UJ) UI stop) λr s12 q=>?_;obtain⟨hr,I12⟩:=q;subst hr;subst e3;exact again Zjc I12 qn
   ·refine aB (T2.item (c8 X xs fr R cl C s I f) rfl rfl rfl hc j _ LK _ z6 _ Dw (Kn UJ) UI go) λr s12 q=>?_;obtain⟨u2,hr,DF⟩:=q;subst hr;refine aB DF λ_ s13 q=>?_;obtain⟨v2,DG,I13,r13,y13,KW,Zjd⟩:=q;have Zje:=I13.pinned (Kn Zjd) (T2.obj _ _ KW);refine dy (LS _ _ _ _ _ s13 _ DG v2 u2 _ Zje r13 (Zir v2 DG y13)) (λ_ s14 q=>?_) λ _ _=>False.elim;obtain⟨Zjf,sP,I14,q14⟩:=q;refine dy (he _ _ _ _ _ s14 _ sP _ I14 q14) (λu1 s15 q=>?_) λ _ _=>False.elim;obtain⟨y,LW,I15,r15,hD,hz,nW⟩:=q;refine dy (yA (X:=c8 X xs fr R cl C s I f) _ s15 _ LW (.ref D) [y] _ [u1] (λ_ H'=>N2 (zs++[y]) Zjf H') I15 rfl (.cons r15 .nil) ⟨_,zs,y,rfl,rfl,hD,hz,nW⟩) (λ_ s16 q=>?_) λ_ _ z=>False.elim z;obtain⟨_,V3,LX,_,q16⟩:=q;obtain⟨m',hm,w16⟩:=hN2 _ _ _ q16;refine⟨m',hm,j+1,_,_,V3,LX.wj,T2.keep _ _ _ KW λb h o e=>(LX.pin (b,o) (Ym _ (Ym _ (rG h e)))).1,λb h=>?_,w16⟩;obtain⟨o,e,d⟩:=T2.obj _ _ KW b h;exact(LX.pin (b,o) (Ym _ (Ym _ (rG h e)))).2.1
  exact ZaH TN (T2.self _ 0 _ _ _ UH TN)
def Zhn(n:Nat)(b:TI)(fr:O (ar×Nat))(A:TG)(t:TI)(w:TG)(l:TE):TE:=λσ H Q=>b σ H λJ a=>∀D,a D=aE->JN n J A t w l (ic σ fr) D a Q
def Zeh(u:X.calm=af)(a:rH X R cl xs fr)(p:∀C s H fp,PG (c8 X xs fr R cl C s H fp) L A)(o:PI X L g c)(LR:∀C s H fp,PI (c8 X xs fr R cl C s H fp) F B t)(LS:∀C s H fp,PG (c8 X xs fr R cl C s H fp) F w)
  (r:∀C s H fp,PE (c8 X xs fr R cl C s H fp) P l)(k:∀x,foldedSetIterable g X.env x=pure x:=by intro _;rfl)(d:∀C x,foldedSetIterable B (compEnvC R cl C X.env) x=pure x:=by intro _ _;rfl):
  PE X (.ListComp P [⟨L,g,[],0⟩,⟨F,B,[],0⟩] R G) (Zhn xs.length c fr A t w l):=by
 intro b s σ H Q I h;refine sY rfl k a.wY a.kind a.names (aB (o b s σ H _ I h) λv f z=>aB z λuO s2 y=>?_);obtain⟨it,fp,tn,J,H2,e,I2,T,c9,f2,j⟩:=y;subst e;refine Zb_ u a p LR LS r d I2 T c9 f2 j ?_;intro D C f H1 m I1 n f0 f1 W N E q;exact⟨m,n,λh' i=>⟨.ref D,H1,I1.turned (i.extBut) f0 f1 (.inr W) N E,rfl,q⟩⟩
end
def gn{K:ai}(h:X.K=K)(b:PE X l a):PI X c l (Tf K a):=h▸Ql b
def gO{X:Cx}{K:ai}{b:Pos}{a:O cP}{k:Nat}{t:oY}{n:Nat}(h:X.K=K)(e:X.calm=af)(d:zR X a t)
  (c:(assignEach a X.env).length=n:=by rfl)(f:(assignEach a X.env).findIdx? (·.1)=aE:=by rfl):PG X (.Tuple a k b) (Up K n t):=h▸Zgx e d c f
def ZfE{K:ai}(h:Nat->O V->Hp->Prop)(h0:h 0 [] (upd H D (.lst [])))(hl:∀i c H,i<=xs.length->h i c H->aq K H a xs)
  (hs:∀i v c H,xs[i]?=Z v->h i c H->∀os:St,os.length=n->C v (os++E) H λt H2=>(∃W:St,W.length=n/\t=W++E)/\B t H2 λJ2 H3=>∃(b:U) (f:O V) (g:Nat->O V->St->Hp->Prop),J2=kA K b/\g 0 c t H3/\
   (∀k c d H,k<=f.length->g k c d H->aq K H b f)/\
   (∀k s c d H,f[k]?=Z s->g k c d H->nU s d H λAd H6=>te Ad H6 λy H7=>H7 D=Z (.lst c)/\c.length<sizeLine/\g (k+1) (c++[y]) Ad (upd H7 D (.lst (c++[y]))))/\
   ∀c d H,g f.length c d H->(∃N:St,N.length=n/\d=N++E)/\h (i+1) c H)
  (hd:∀c H,h xs.length c H->Q (.ref D) H)(I:∀d H (R o:It->Hp->Prop),(∀J H,R J H->o J H)->B d H R->B d H o)(G:∀v d H (R o:St->Hp->Prop),(∀d H,R d H->o d H)->C v d H R->C v d H o):JN n (kA K a) C B nU te E D H Q:=by
 refine⟨λi m c H=>m=xs.length-i/\i<=xs.length/\h i c H,⟨xs.length,QS,Yw _,h0⟩,?_⟩;rintro i m c H ⟨rfl,hi,p⟩;have q:=hl i c H hi p;by_cases F:i<xs.length
 ·refine .inr ⟨⟨xs,xs[i],q,by simp[F]⟩,h (i+1),λiu H' A=>⟨xs.length-(i+1),QO,rfl,F,A⟩,λx H' y os qO=>?_⟩;obtain⟨e,y⟩:=y;subst e;refine G _ _ _ _ _ (λt H2 zz=>?_) (hs i x c _ (y xs q) p os qO);obtain⟨h1,h2⟩:=zz;refine⟨h1,I _ _ _ _ (λJ2 H3 h3=>?_) h2⟩;obtain⟨b,f,g,rfl,w0,wl,ws,P⟩:=h3;refine⟨λk T j l r=>T=f.length-k/\k<=f.length/\g k j l r,⟨f.length,QS,Yw _,w0⟩,?_⟩;rintro k T j l r ⟨rfl,X,w⟩;have z:=wl k j l r X w;by_cases L:k<f.length
  ·refine .inr ⟨⟨f,f[k],z,by simp[L]⟩,g (k+1),λiu aK H' A=>⟨f.length-(k+1),QO,rfl,L,A⟩,λs H5 u=>?_⟩;obtain⟨e2,u⟩:=u;subst e2;exact ws k s j l _ (u f z) w
  ·have e:k=f.length:=(i1 X (eL L))
   subst e;exact .inl ⟨⟨f,z,Ye _⟩,(P j l r w).1,(P j l r w).2⟩
 ·have e:i=xs.length:=(i1 hi (eL F))
  subst e;exact .inl ⟨⟨xs,q,Ye _⟩,hd c H p⟩
section
variable {X:de}{w:c5}{W:Type}[DecidableEq W]{knd:PySem.KeyKind X w W}{A:d6}{E:bg}{s:bR}
theorem YY{d:U}{a:O (W×aY)}{k:W}{f b:aY}{Q:bg}(g:knd.is k f=af)(C:s.heap.DictOf knd d a)
  (t:∀v,valueAt a k=Z v->Q v {s with toks:=s.toks+1})
  (r:valueAt a k=aE->∀q,q.DictOf knd d (stored a k b)->Heap.SameBut d s.heap q->Q b {s with heap:=q,toks:=s.toks+1})
  (B:a.length<=sizeLine):wpAny (model X w) A (dictSetDefault d f b) Q E s:=by
 obtain⟨o,c,H,j,G,hd,u,h,J⟩:=C;have D:c.size<=sizeLine:=by
  have L:=h.length
  grind
 have y:∀x,findBy knd.is c x=valueAt a x:=λx=>by
  rw[←h.find x];simp[findBy]
 unfold dictSetDefault;try with_reducible refine hV ?_
 refine bh (knd.pyHash g (bh (wpAny_dictFind_of g j hd u ?_)));have I:(c.findIdx? λe=>knd.is k e.key)=a.findIdx? λn=>decide (n.1=k):=by
  rw[←h.findIdx k];obtain⟨l⟩:=c;simp
 cases p:c.findIdx? λe=>knd.is k e.key with
 |some i=>
  have m:valueAt a k=(c[i]?).map (·.val):=by rw[←y k,G2,p]
  refine bh (tc j hd ?_);cases F:c[i]? with
  |none=>
   have:=Array.findIdx?_eq_some_iff_findIdx_eq.mp p
   grind
  |some e=>
   rw[F] at m;exact bh (rb (cy (t e.val m)))
 |none=>
  have m:valueAt a k=aE:=by rw[←y k,G2,p]
  have z:¬(a.any λn=>decide (n.1=k))=af:=by
   grind
  refine bh (rb (bh (Cu j hd (cy (r m _ ⟨_,_,H+1,Wr _ j (DR (sZ hd _)),
   G.mapDictKeys _,sZ hd _,u.push g _,?_,?_⟩ (Ee ..))))))
  ·rw[stored,bu z];have:=h.append g (knd.hash k) b
   grind
  ·rw[stored,bu z,Yi,Wj]
   grind
def Zu(g:knd.is k key=af)(m:(d==sysModules)=a7)(a:aY):
  MeetsIn X w (Builtin.«dict.setdefault» ⟨[.ref d,key,a],[]⟩) (λ_ R s=>∃b,s.heap.DictOf knd d b/\b.length<=sizeLine/\
   (∀v,valueAt b k=Z v->R (.ok (.ret v)) {s with toks:=s.toks+1})/\
   (valueAt b k=aE->∀c,c.DictOf knd d (stored b k a)->Heap.SameBut d s.heap c->R (.ok (.ret a)) {s with heap:=c,toks:=s.toks+1})):=
 .of_wp λA R s ⟨b,f,i,o,n⟩=>by
  refine bh (bh (uY f.typeIs (cy ?_)));show wpAny _ _ (if(d==sysModules)=af then _ else(dictSetDefault d key a>>=_)) _ _ s;rw[bu (by rw[m];exact Yh)];exact bh (YY g f (λv j=>cy ⟨v,rfl,o v j⟩) (λl c e h=>cy ⟨a,rfl,n l c e h⟩) i)
end
theorem Zei(I:Inv X pins σ H s)(e:H a=Z (.dK b))(p:RelV (kV k) u)(o:RelV z r)(l:b.length<sizeLine)
  (F:∀v h g,a9 b k=Z v->Inv X pins σ H g->RelV v h->Q h g)(D:∀g,a9 b k=aE->Inv X pins σ (upd H a (.dK (putK b k z))) g->Q r g):
  wpAny X.md A (call (.builtin "dict.setdefault") [.ref a,u,r]) Q E s:=by
 obtain⟨G,hd,i,c,n⟩:=mF I.ay e;have t:i.length<=sizeLine:=by rwa[←c.length]
 have f:=c.val k;refine mr zP n.typeIs PySem.F.entry_dict_setdefault (PySem.F.args_dict_setdefault_3 _ _ _) (Zu (nF p) hd r) ⟨i,n,t,λv m=>?_,λB J j w=>?_⟩
 ·cases d:a9 b k with
  |none=>rw[d,m] at f;cases f
  |some x=>
   rw[d,m] at f;exact F x v _ d (I.tok _) f
 ·have d:a9 b k=aE:=by
   cases d:a9 b k with
   |none=>rfl
   |some x=>rw[d,B] at f;cases f
  have C:(putK b k z).length<=sizeLine:=by have:=A3 b k z;exact lg this (uN l)
  exact D _ d (tV I (by exact e▸gT) w (let⟨q,_,_,y,_⟩:=j;⟨q,y⟩) (y8 C hd (c.put k o) j))
def Ia(h f g:TE):TE:=λc H Q=>h c H λx e=>∃a,x=.ref a/\Aa e a/\f c e λy i=>g c i λz d=>∃b k,d a=Z (.dK b)/\y=kV k/\b.length<sizeLine/\
 (∀v,a9 b k=Z v->Q v d)/\(a9 b k=aE->Ch d a (.dK (b++[(k,z)])) (Q z))
def ZfF(g f:TE):TE:=λc H Q=>g c H λx e=>∃a,x=.ref a/\Aa e a/\f c e λy d=>∃b k v,d a=Z (.dK b)/\y=kV k/\a9 b k=Z v/\Ch d a (.dK (gq b k)) (Q v)
def N9(R:PE X o q)(W:PE X e ty)(T:PE X f p)(m:M2 X o "setdefault" apos e f cH):PE X (.Call (.Attribute o "setdefault" apos) [e,f] [] cH) (Ia q ty p):=by
 intro b s i H Q I h;refine th m.base m.jz m.line qd zP PySem.F.type_dict_setdefault (aB (R b s i H _ I h) λu B n=>?_);obtain⟨x,H1,l,D,a,ex,d,L⟩:=n;subst ex;obtain rfl:u=Value.ref a:=D;obtain⟨t,r,_⟩:=y9 l d;refine⟨t,r,?_⟩;rw[m.trees];refine mh rfl (n7 (m5 (aB (W b B i H1 _ l L) λiv A ⟨y,H2,I2,C,J⟩=>
  m5 (aB (T b A i H2 _ I2 J) λfv s3 ⟨z,H3,I3,j,P,k,ea,ey,N,G,F⟩=>qb ?_))))
 subst ey;refine Zei I3 ea C j N (λv w' w c g E=>⟨v,H3,g,E,G v c⟩) λw c g=>?_;rw[l4 _ c] at g;exact⟨z,_,g,j,(F c).at⟩
def OM(A:PE X o i)(B:PE X e ty)(m:M1 X o "pop" apos e G):PE X (.Call (.Attribute o "pop" apos) [e] [] G) (ZfF i ty):=by
 intro b s c H Q I h;refine th m.base m.jz m.line qd slot_dict_pop PySem.F.type_dict_pop (aB (A b s c H _ I h) λu p g=>?_);obtain⟨x,N,f,r,a,E,d,w⟩:=g;subst E;obtain rfl:u=Value.ref a:=r;obtain⟨n,j,_⟩:=y9 f d;refine⟨n,j,?_⟩;rw[m.trees];refine mh rfl (n7 (m5 (aB (B b p c N _ f w) λW T zz=>?_)));obtain⟨y,H2,L,q,z,k,v,F,D,l,t⟩:=zz;refine qb ?_;subst D;exact Zih L F q l (.inl rfl) λP R J C=>⟨v,_,J,C,t.at⟩
end L2
namespace L2
open PySem PySem.W PySem.Calls PySem.Spec PyProof.Rows
def eX{c:Type}(n:Nat)(P:c->Prop):KasT c->Prop
 |.ret a=>P a
 |.ask i j k=>i<n/\j<n/\∀b,eX n P (k b)
theorem eX.bind{c d:Type}{n:Nat}{P:c->Prop}{Q:d->Prop}{f:c->KasT d}(e:∀a,P a->eX n Q (f a)):∀{t:KasT c},eX n P t->eX n Q (t.bind f)
 |.ret a,h=>e a h
 |.ask _ _ _,h=>⟨h.1,h.2.1,λb=>eX.bind e (h.2.2 b)⟩
def Good(n:Nat)(p:c7 Nat):Prop:=0<n/\p.Perm (List.range n).toArray
def Good.get(g:Good n p)(m:Nat):p.getD m 0<n:=by
 by_cases h:m<p.size
 ·have e:p.getD m 0=p[m]:=by rw[Y8,W0 h];rfl
  rw[e];have:=g.2.mem_iff.mp (L_ h);simpa using this
 ·have e:p.getD m 0=0:=by rw[Y8,V2 (eL h)];rfl
  rw[e];exact g.1
def Good.rev(g:Good n p)(i j:Nat):Good n (kas_rev p i j):=⟨g.1,(mirror_perm p i j _).trans g.2⟩
theorem Ib(g:Good n p):∀f m,eX n (λ_=>True) (kas_asc p f m)
 |0,_=>trivial
 |f+1,m=>⟨g.get m,g.get (m-1),λb=>by
  cases b with
  |true=>(dsimp only;rw[bt rfl]);exact trivial
  |false=>(dsimp only;rw[bu Yh]);exact Ib g f (m+1)⟩
theorem Bi:∀f (p:c7 Nat) m q,Good n p->eX n (λr=>Good n r.1) (kas_desc f p m q)
 |0,_,_,_,g=>g
 |f+1,p,m,q,g=>⟨g.get m,g.get (m-1),λb=>by
  cases b with
  |true=>
   split;·exact Bi f _ _ _ (g.rev _ _)
   ·exact Bi f _ _ _ g
  |false=>
   refine⟨g.get (m-1),g.get m,λd=>?_⟩;cases d with
   |true=>(dsimp only;rw[bt rfl]);exact g
   |false=>(dsimp only;rw[bu Yh]);exact Bi f _ _ _ g⟩
def N_(g:Good n p):eX n (λr=>Good n r.2) (kas_tail3 m k p):=by
 refine eX.bind (λa _=>?_) (Ib (g.rev 0 m) _ _);exact g.rev 0 m
def NA(g:Good n p):eX n (λr=>Good n r.2) (kas_descPart m k p):=by
 refine eX.bind (λr a=>?_) (Bi _ p _ _ g);split;·exact N_ (Good.rev a _ _)
 ·exact N_ a
theorem Oa(g:Good n p):eX n (λr=>Good n r.2) (kas_count k p):=by
 refine eX.bind (λm _=>?_) (Ib g _ _);split;·exact g
 ·split
  ·refine⟨g.get _,g.get _,λb=>?_⟩;cases b with
   |true=>(dsimp only;rw[bt rfl]);exact g
   |false=>(dsimp only;rw[bu Yh]);exact NA (g.rev _ _)
  ·exact NA g
theorem GK(g:Good n p):∀f l r,eX n (λ_=>True) (kas_place p k f l r)
 |0,_,_=>trivial
 |f+1,l,r=>by
  unfold kas_place;split;·exact trivial
  ·refine⟨g.get _,g.get _,λb=>?_⟩;cases b with
   |true=>(dsimp only;rw[bt rfl]);exact GK g f _ _
   |false=>(dsimp only;rw[bu Yh]);exact GK g f _ _
theorem Pt{n:Nat}:∀f (p:c7 Nat) k,Good n p->eX n (Good n) (kas_bin f p k)
 |0,_,_,g=>g
 |f+1,p,k,g=>eX.bind (λl _=>Pt f _ _ ⟨g.1,(bubble_perm p k _).trans g.2⟩) (GK g _ _ _)
def Zdf(h:0<n):eX n (Good n) (kas_sort n):=by
 refine eX.bind (λr a=>?_) (Oa ⟨h,vm _⟩);split;·exact Pt _ _ _ a
 ·exact a
def range_getD(vs:O α)(d:α):(List.range vs.length).map (λi=>vs.getD i d)=vs:=by
 refine Wu λi=>?_
 grind
def Cg(h:cY)(b:O aY):Prop:=∀v∈b,∃(a:U) (o:Obj) (n:Nat) (x y:Int) (t u:Tok),v=.ref a/\h.get? a=Z o/\o.cls=.type "tuple"/\o.data=.seq #[.int x t,.int y u] n
theorem Cg.V4:∀{b:O aY},Cg h b->∃fs:O aY,KatTups h b fs/\fs.length=b.length/\∀v∈fs,∃x t,v=Value.int x t
 |[],_=>⟨[],KatTups.nil,rfl,λ_ h=>by cases h⟩
 |v::b,c=>by
  obtain⟨a,o,n,x,y,t,u,rfl,j,i,g⟩:=c v Yk;obtain⟨fs,e,d,k⟩:=Cg.V4 λz f=>c z (Yx _ f);refine⟨.int x t::fs,KatTups.cons j i g rfl e,by rw[Wf,Wf,d],λv c=>?_⟩
  grind
theorem ON:∀{c:O U} {b:O aY},Vals (c.map V.ref) b->b=c.map Value.ref
 |[],_,.nil=>rfl
 |a::c,u::b,.cons r t=>by
  rw[r,ON t,Wq]
theorem OO:∀a:O U,Vals (a.map V.ref) (a.map Value.ref)
 |[]=>.nil
 |_::a=>.cons rfl (OO a)
def Run{b:Type}(c:Nat->Nat->cm):KasT b->b
 |.ret a=>a
 |.ask i j k=>Run c (k (c i j))
theorem Run.bind:∀t:KasT α,Run lt (t.bind f)=Run lt (f (Run lt t))
 |.ret _=>rfl
 |.ask i j k=>Run.bind (k (lt i j))
theorem eX.run(b:∀i j (C:cm->bR->Prop),i<n->j<n->C (lt i j) s->cmp i j C s):∀{t:KasT α},eX n P t->G (Run lt t) s->t.kasWp cmp G s
 |.ret _,_,a=>a
 |.ask i j k,h,a=>b i j _ h.1 h.2.1 (eX.run b (h.2.2 _) a)
structure lK(n:Nat)(lt:Nat->Nat->cm):Prop where
 trans:∀i j k,i<n->j<n->k<n->lt i j=af->lt j k=af->lt i k=af
 DJ:∀i j,i<n->j<n->i≠j->lt i j=a7->lt j i=af
 Zjh:∀i j,i<n->j<n->lt i j=af->lt j i=a7
def Sd(a:Nat->Nat->cm)(p:c7 Nat)(m:Nat):Prop:=∀i j,i<j->j<m->a (p.getD i 0) (p.getD j 0)=af
def Ds(a:Nat->Nat->cm)(p:c7 Nat)(m:Nat):Prop:=∀i j,i<j->j<m->a (p.getD j 0) (p.getD i 0)=af
def Good.size(g:Good n p):p.size=n:=by
 have:=g.2.size_eq
 grind
def Good.ne(g:Good n p)(h:i<n)(f:j<n)(b:i≠j):p.getD i 0≠p.getD j 0:=by
 have c:p.toList.Nodup:=by
  have:=(Jw.mp g.2).nodup_iff.mpr (by simpa using ME);exact this
 have sz:=g.size;have e:∀k (d:k<n),p.getD k 0=p.toList[k]'(by rw[Wh];omega):=λk d=>by
  simp_all
 have a:=W1.mp c;rw[e i h,e j f];intro z;rcases Nat.lt_or_gt_of_ne b with q|q;·exact a _ _ _ _ q z
 ·exact a _ _ _ _ q z.symm
section
variable {n:Nat}{lt:Nat->Nat->cm}
def QN(L:lK n lt)(g:Good n p)(f:1<=m)(a:Sd lt p m)(h:lt (p.getD (m-1) 0) (p.getD m 0)=af):Sd lt p (m+1):=by
 intro i j b c;by_cases e:j=m
 ·subst e;by_cases d:i=j-1;·rwa[d]
  ·exact L.trans _ _ _ (g.get _) (g.get _) (g.get _) (a i (j-1) QO QO) h
 ·exact a i j b (eH (eJ c) e)
def ZfG(L:lK n lt)(g:Good n p)(f:1<=m)(a:Ds lt p m)(h:lt (p.getD m 0) (p.getD (m-1) 0)=af):Ds lt p (m+1):=by
 intro i j b c;by_cases e:j=m
 ·subst e;by_cases d:i=j-1;·rwa[d]
  ·exact L.trans _ _ _ (g.get _) (g.get _) (g.get _) h (a i (j-1) QO QO)
 ·exact a i j b (eH (eJ c) e)
theorem BQ(L:lK n lt)(g:Good n p):∀f m,1<=m->m+f<=n->Sd lt p m->Sd lt p (Run lt (kas_asc p f m))/\m<=Run lt (kas_asc p f m)/\Run lt (kas_asc p f m)<=m+f
 |0,m,_,_,h=>⟨h,Ye _,Ye _⟩
 |f+1,m,i,k,h=>by
  have e:Run lt (kas_asc p (f+1) m)=Run lt (if lt (p.getD m 0) (p.getD (m-1) 0)=af then KasT.ret m else kas_asc p f (m+1)):=rfl;rw[e];by_cases c:lt (p.getD m 0) (p.getD (m-1) 0)=af
  ·rw[bt c];exact⟨h,Ye _,by show m<=_;exact zj _ _⟩
  ·rw[bu c];have j:lt (p.getD m 0) (p.getD (m-1) 0)=a7:=by cases z:lt (p.getD m 0) (p.getD (m-1) 0) with|true=>exact absurd z c|false=>rfl
   obtain⟨a,b,d⟩:=BQ L g f (m+1) (kC i) QO (QN L g i h (L.DJ _ _ (g.get _) (g.get _) (g.ne QO QO QO) j))
   grind
theorem Pu(L:lK n lt)(g:Good n p):∀f m,1<=m->m+f<=n->Ds lt p m->∃h,Run lt (kas_desc f p m 0)=(p,h,0)/\Ds lt p h/\m<=h/\h<=m+f
 |0,m,_,_,ds=>⟨m,rfl,ds,Ye _,Ye _⟩
 |f+1,m,i,l,ds=>by
  have e:Run lt (kas_desc (f+1) p m 0)=Run lt (if lt (p.getD m 0) (p.getD (m-1) 0)=af then(if 0>0 then kas_desc f (kas_rev p (m-(0+1)) m) (m+1) 0 else kas_desc f p (m+1) 0) else KasT.ask (p.getD (m-1) 0) (p.getD m 0) λd=>if d=af then KasT.ret (p,m,0) else kas_desc f p (m+1) (0+1)):=rfl;rw[e];by_cases c:lt (p.getD m 0) (p.getD (m-1) 0)=af
  ·rw[bt c,bu (by decide)];obtain⟨h,a,b,d,o⟩:=Pu L g f (m+1) (kC i) QO (ZfG L g i ds c)
   grind
  ·rw[bu c];have k:lt (p.getD m 0) (p.getD (m-1) 0)=a7:=by cases z:lt (p.getD m 0) (p.getD (m-1) 0) with|true=>exact absurd z c|false=>rfl
   have j:Run lt (KasT.ask (p.getD (m-1) 0) (p.getD m 0) λd=>if d=af then KasT.ret (p,m,0) else kas_desc f p (m+1) (0+1))=Run lt (if lt (p.getD (m-1) 0) (p.getD m 0)=af then KasT.ret (p,m,0) else kas_desc f p (m+1) (0+1)):=rfl;rw[j,bt (L.DJ _ _ (g.get m) (g.get (m-1)) (g.ne QO QO QO) k)];exact⟨m,rfl,ds,Ye _,(zj _ _)⟩
def QP(a:m<=p.size)(b:i<m):(kas_rev p 0 m).getD i 0=p.getD (m-1-i) 0:=by
 unfold kas_rev;rw[Y8,getElem?_mirror_all a,bt ⟨Yw _,b⟩,←Y8]
 congr 1
 omega
def Zdg(L:lK n lt)(g:Good n p)(l:1<=m)(k:m<=n)(o:Ds lt p m):Good n (Run lt (kas_tail3 m n p)).2/\Sd lt (Run lt (kas_tail3 m n p)).2 (Run lt (kas_tail3 m n p)).1/\m<=(Run lt (kas_tail3 m n p)).1/\(Run lt (kas_tail3 m n p)).1<=n:=by
 have f:Sd lt (kas_rev p 0 m) m:=λi j h d=>by
  rw[QP (by rwa[g.size]) (sm h d),QP (by rwa[g.size]) d];exact o _ _ QO QO
 have e:Run lt (kas_tail3 m n p)=(Run lt (kas_asc (kas_rev p 0 m) (n-m) m),kas_rev p 0 m):=by
  unfold kas_tail3;rw[Run.bind];rfl
 obtain⟨a,b,c⟩:=BQ L (g.rev 0 m) (n-m) m l (my (y0 k)) f;rw[e];exact⟨g.rev 0 m,a,b,QO⟩
def Zdh(L:lK n lt)(g:Good n p):Good n (Run lt (kas_count n p)).2/\Sd lt (Run lt (kas_count n p)).2 (Run lt (kas_count n p)).1/\1<=(Run lt (kas_count n p)).1/\(Run lt (kas_count n p)).1<=n:=by
 have t:=g.1;obtain⟨f,h,E⟩:=BQ L g (n-1) 1 (Ye _) QO (λi j o v=>QO);have e:Run lt (kas_count n p)=Run lt (if(Run lt (kas_asc p (n-1) 1)==n)=af then KasT.ret (Run lt (kas_asc p (n-1) 1),p) else if Run lt (kas_asc p (n-1) 1)>1 then KasT.ask (p.getD 0 0) (p.getD (Run lt (kas_asc p (n-1) 1)-1) 0) λc=>if c=af then KasT.ret (Run lt (kas_asc p (n-1) 1),p) else kas_descPart (Run lt (kas_asc p (n-1) 1)) n (kas_rev p 0 (Run lt (kas_asc p (n-1) 1))) else kas_descPart (Run lt (kas_asc p (n-1) 1)) n p):=by
  unfold kas_count;rw[Run.bind]
 rw[e];generalize k:Run lt (kas_asc p (n-1) 1)=r at f h E;by_cases s:(r==n)=af
 ·rw[bt s];exact⟨g,f,h,by show r<=n;omega⟩
 ·rw[bu s];have B:r≠n:=λz=>s (beq_iff_eq.mpr z);by_cases l:r>1
  ·rw[bt l];have H:Run lt (KasT.ask (p.getD 0 0) (p.getD (r-1) 0) λc=>if c=af then KasT.ret (r,p) else kas_descPart r n (kas_rev p 0 r))=Run lt (if lt (p.getD 0 0) (p.getD (r-1) 0)=af then KasT.ret (r,p) else kas_descPart r n (kas_rev p 0 r)):=rfl;rw[H,bt (f 0 (r-1) (Nat.sub_pos_of_lt l) QO)];exact⟨g,f,h,by show r<=n;omega⟩
  ·rw[bu l];have C:r=1:=(i1 (eL l) h)
   subst C;have hd:lt (p.getD 1 0) (p.getD 0 0)=af:=by
    have:n-1=(n-2)+1:=QO
    rw[this] at k;have G:Run lt (kas_asc p (n-2+1) 1)=Run lt (if lt (p.getD 1 0) (p.getD (1-1) 0)=af then KasT.ret 1 else kas_asc p (n-2) (1+1)):=rfl;rw[G] at k;by_cases c:lt (p.getD 1 0) (p.getD (1-1) 0)=af;·exact c
    ·rw[bu c] at k;have I:lt (p.getD 1 0) (p.getD (1-1) 0)=a7:=by cases z:lt (p.getD 1 0) (p.getD (1-1) 0) with|true=>exact absurd z c|false=>rfl
     have D:=QN L g (Ye _) (λi j o v=>QO) (L.DJ _ _ (g.get _) (g.get _) (g.ne (eH (k8 t) B) t (by decide)) I);obtain⟨_,b,_⟩:=BQ L g (n-2) 2 (by decide) QO D;rw[show 1+1=2 from rfl] at k;omega
   have q:Ds lt p 2:=λi j o v=>by
    obtain rfl:j=1:=QO
    obtain rfl:i=0:=(i1 (eJ o) (Nat.zero_le _))
    exact hd
   obtain⟨u,a,b,c,d⟩:=Pu L g (n-(1+1)) (1+1) (by decide) QO q;have F:Run lt (kas_descPart 1 n p)=Run lt (kas_tail3 u n p):=by
    unfold kas_descPart;rw[Run.bind,a];dsimp only;rw[bu (by decide)]
   rw[F];obtain⟨A,y,x,w⟩:=Zdg L g (m:=u) (rK c) QO b;exact⟨A,y,(rK (dW c x)),w⟩
theorem QQ(L:lK n lt)(g:Good n p)(a:Sd lt p n):∀f m,1<=m->m+f<=n->Run lt (kas_asc p f m)=m+f
 |0,_,_,_=>rfl
 |f+1,m,b,c=>by
  have e:Run lt (kas_asc p (f+1) m)=Run lt (if lt (p.getD m 0) (p.getD (m-1) 0)=af then KasT.ret m else kas_asc p f (m+1)):=rfl;rw[e,bu (by rw[L.Zjh _ _ (g.get _) (g.get _) (a (m-1) m QO QO)];exact Yh),QQ L g a f (m+1) (kC b) QO];exact Nat.add_right_comm _ _ _
def Zdi(L:lK n lt)(g:Good n p)(a:Sd lt p n):Run lt (kas_count n p)=(n,p):=by
 have b:=g.1;unfold kas_count;rw[Run.bind,(QQ L g a (n-1) 1 (Ye _) QO),bt (beq_iff_eq.mpr (y0 (k8 b)))];show(1+(n-1),p)=(n,p)
 grind
theorem Hs(L:lK n lt)(g:Good n p)(u:k<n)(j:Sd lt p k):∀f l r,l<=r->r<=k->r-l<=f->(∀i,i<l->lt (p.getD i 0) (p.getD k 0)=af)->(∀i,r<=i->i<k->lt (p.getD k 0) (p.getD i 0)=af)->
  Run lt (kas_place p k f l r)<=k/\(∀i,i<Run lt (kas_place p k f l r)->lt (p.getD i 0) (p.getD k 0)=af)/\∀i,Run lt (kas_place p k f l r)<=i->i<k->lt (p.getD k 0) (p.getD i 0)=af
 |0,l,r,v,a,x,q,o=>⟨by show l<=k;exact dW v a,q,λi (b:l<=i) h=>o i QO h⟩
 |f+1,l,r,v,a,x,q,o=>by
  rw[kas_place];by_cases c:l≥r
  ·rw[bt c];exact⟨by show l<=k;exact dW v a,q,λi (b:l<=i) h=>o i (dW c b) h⟩
  ·rw[bu c];have w:l<=(l+r)/2:=QO
   have d:(l+r)/2<r:=QO
   generalize(l+r)/2=m at w d;have y:Run lt (KasT.ask (p.getD k 0) (p.getD m 0) λc=>if c=af then kas_place p k f l m else kas_place p k f (m+1) r)=Run lt (if lt (p.getD k 0) (p.getD m 0)=af then kas_place p k f l m else kas_place p k f (m+1) r):=rfl;rw[y];by_cases s:lt (p.getD k 0) (p.getD m 0)=af
   ·rw[bt s];refine Hs L g u j f l m w (sC (iz d a)) QO q λi b h=>?_;by_cases e:i=m;·rwa[e]
    ·exact L.trans _ _ _ (g.get _) (g.get _) (g.get _) s (j m i (eH b (Ne.symm e)) h)
   ·rw[bu s];have A:lt (p.getD k 0) (p.getD m 0)=a7:=by cases z:lt (p.getD k 0) (p.getD m 0) with|true=>exact absurd z s|false=>rfl
    have t:=L.DJ _ _ (g.get k) (g.get m) (g.ne u (oV (oV d a) (uQ u)) (VR (iz d a))) A;refine Hs L g u j f (m+1) r (k8 d) a QO (λi b=>?_) o;by_cases e:i=m;·rwa[e]
    ·exact L.trans _ _ _ (g.get _) (g.get _) (g.get _) (j i m (eH (eJ b) e) (iz d a)) t
theorem QT(L:lK n lt):∀f (p:c7 Nat) k,Good n p->k+f=n->Sd lt p k->Good n (Run lt (kas_bin f p k))/\Sd lt (Run lt (kas_bin f p k)) n
 |0,p,k,g,e,d=>by
  have A:k=n:=e
  refine⟨g,?_⟩;rw[←A];exact d
 |f+1,p,k,g,e,d=>by
  have v:k<n:=QO
  obtain⟨a,b,c⟩:=Hs L g v d k 0 k (Yw _) (Ye _) (mz _) (λi w=>absurd w (Wo _)) (λi D C=>QO);have y:Run lt (kas_bin (f+1) p k)=Run lt (kas_bin f (bubble p k (k-Run lt (kas_place p k k 0 k))) (k+1)):=by
   rw[kas_bin,Run.bind]
  rw[y];generalize Run lt (kas_place p k k 0 k)=l at a b c;have x:Good n (bubble p k (k-l)):=⟨g.1,(bubble_perm p k _).trans g.2⟩;have sz:=g.size;have get:∀i,(bubble p k (k-l)).getD i 0=if i=l then p.getD k 0 else if l<i/\i<=k then p.getD (i-1) 0 else p.getD i 0:=λi=>by
   have h:=getElem?_bubble (xs:=p) (src:=k) QO (k-l) (Nat.sub_le _ _) i;rw[show k-(k-l)=l by omega] at h;rw[Y8,h];by_cases z:i=l;·rw[bt z,bt z,←Y8]
   ·rw[bu z,bu z];by_cases m:l<i/\i<=k;·rw[bt m,bt m,←Y8]
    ·rw[bu m,bu m,←Y8]
  refine QT L f _ (k+1) x QO λi j t B=>?_;rw[get i,get j];by_cases s:i=l
  ·rw[bt s,bu QO,bt QO];exact c (j-1) QO QO
  ·rw[bu s];by_cases r:l<i/\i<=k
   ·rw[bt r,bu QO,bt QO];exact d (i-1) (j-1) QO QO
   ·rw[bu r];have u:i<l:=QO
    by_cases q:j=l;·rw[bt q];exact b i u
    ·rw[bu q];by_cases o:l<j/\j<=k
     ·rw[bt o];exact d i (j-1) QO QO
     ·rw[bu o];exact d i j t QO
def Zej(L:lK n lt)(h:0<n):Good n (Run lt (kas_sort n))/\Sd lt (Run lt (kas_sort n)) n:=by
 obtain⟨a,b,c,d⟩:=Zdh L ⟨h,vm _⟩;have e:Run lt (kas_sort n)=Run lt (if(Run lt (kas_count n (List.toArray (List.range n)))).1<n then kas_bin (n-max (Run lt (kas_count n (List.toArray (List.range n)))).1 1) (Run lt (kas_count n (List.toArray (List.range n)))).2 (max (Run lt (kas_count n (List.toArray (List.range n)))).1 1) else KasT.ret (Run lt (kas_count n (List.toArray (List.range n)))).2):=by
  unfold kas_sort;rw[Run.bind]
 rw[e];generalize Run lt (kas_count n (List.toArray (List.range n)))=r at a b c d;have f:max r.1 1=r.1:=QO
 by_cases z:r.1<n
 ·rw[bt z,f];exact QT L _ _ _ a (y0 d) b
 ·rw[bu z];have:r.1=n:=(i1 d (eL z))
  refine⟨a,?_⟩;rw[this] at b;exact b
end
def jO(p q:Int×Int):Prop:=p.1<q.1\/(p.1=q.1/\p.2<q.2)
def ltB(p q:Int×Int):cm:=if p.1=q.1 then decide (p.2<q.2) else decide (p.1<q.1)
def ltB_iff:ltB p q=af↔jO p q:=by
 unfold ltB jO
 (split<;>simp_all)
def lM(a:O (Int×Int))(i j:Nat):cm:=ltB (a.getD i (0,0)) (a.getD j (0,0))
theorem Zhp(d:c.Nodup):lK c.length (lM c):=by
 have n:∀{p q:Int×Int},ltB p q=a7->¬jO p q:=λ{p q} h z=>by rw[ltB_iff.mpr z] at h;cases h
 refine⟨λi j k _ _ _ m l=>?_,λi j g f ne h=>?_,λi j _ _ h=>?_⟩
 ·have a:=ltB_iff.mp m;have b:=ltB_iff.mp l;refine ltB_iff.mpr ?_;unfold jO at*;omega
 ·refine ltB_iff.mpr ?_;have a:=n h;have e:c.getD i (0,0)≠c.getD j (0,0):=by
   rw[Yn,Yn,Yc g,Yc f];have o:=W1.mp d
   grind
  have r:¬((c.getD i (0,0)).1=(c.getD j (0,0)).1/\(c.getD i (0,0)).2=(c.getD j (0,0)).2):=λz=>e (Prod.ext z.1 z.2);unfold jO at*;omega
 ·cases z:lM c j i with
  |false=>rfl
  |true=>
   have a:=ltB_iff.mp h;have b:=ltB_iff.mp z;unfold jO at a b;omega
def uf(h:cY)(b:O aY)(c:O (Int×Int)):Prop:=Paired (λv (p:Int×Int)=>∃(a:U) (o:Obj) (n:Nat) (t u:Tok),v=.ref a/\h.get? a=Z o/\o.cls=.type "tuple"/\o.data=.seq #[.int p.1 t,.int p.2 u] n) b c
theorem uf.ig(q:uf h vs b):Cg h vs:=by
 intro v a;induction q with
 |nil=>cases a
 |cons f _ c=>grind
def Ga{c a:Type}{F:c->a->Prop}{d:O c}{g:O a}(h:Paired F d g){i:Nat}(j:i<d.length)(x:c)(y:a):F (d.getD i x) (g.getD i y):=by
 obtain⟨b,e,f⟩:=gK h (Yc j)
 grind
section
variable {X:de}{w:c5}{A:d6}{E:bg}{s:bR}
def Zek(f:uf s.heap d e)(x:i<d.length)(v:j<d.length)(b:C (lM e i j) s):kas_ask X w A (tuples' af) d i j C s:=by
 unfold kas_ask;obtain⟨a,o,n,t,u,B,y,I,g⟩:=Ga f x Value.none (0,0);obtain⟨J,F,G,m,l,k,r,H,h⟩:=Ga f v Value.none (0,0);unfold lM at b;rw[B,k];generalize e.getD i (0,0)=p at b g;generalize e.getD j (0,0)=q at b h;refine kat_lt y g r h ?_;unfold ltB at b;refine kat_cons (pT p.1 t q.1 m X w _ _ (kat_go (λc=>kat_yes (kat_cons (pT p.2 u q.2 l X w _ _ (kat_go (λD=>kat_yes (kat_nil ?_)) λD=>kat_no ?_)))) λc=>kat_no ?_));·grind
 ·rw[bt (beq_iff_eq.mp c)] at b;exact kat_one _ _ (lt_int b)
 ·rw[bu (λz=>by rw[beq_iff_eq.mpr z] at c;cases c)] at b;exact kat_lt_int b
def Zhq
  (k:∀c:SortSt,arrOf c=(List.toArray (List.range 64)).map (kas_item it)->failedOf c=aE->Q () c s)
  (h:(kas_count 64 (List.toArray (List.range 64))).kasWp (kas_cmp X w A a it) (λr d=>r=(64,List.toArray (List.range 64))/\d=s) s):kasC (model X w) A E sortRuns' Q (kas_st a it (List.toArray (List.range 64))) s:=by
 have g:(List.toArray (List.range 64)).size=64:=rfl;have b:(arrOf (kas_st a it (List.toArray (List.range 64)))).size=64:=(Vl (f:=kas_item it)).trans g;have i:minRun' 64 64 0=32:=QK
 rw[sortRuns'_eq];refine kasC_bind (kasC_get ?_);(try dsimp only);simp only[b,i];refine kasC_bind (kasC_range ?_);show kasC _ _ _ (forIn (0::1::List.range' 2 62) _ _) _ _ _;refine kasC_cons ?_;(try dsimp only);rw[bu (show ¬(0:Nat)≥64 by decide)];simp only[Nat.sub_zero];refine kasC_bind (kas_count_ (show 1<=64 by decide) (Lz g.symm) (λm l d _ _ _ j=>?_) h);obtain⟨e,rfl⟩:=j;cases e;(try dsimp only);rw[bu (show ¬(64:Nat)<32 by decide)];refine kasC_bind (kasC_get ?_);rw[show(pendingOf (kas_st a it (List.toArray (List.range 64)))).back?=aE from rfl];(try dsimp only);refine kasC_bind (kasC_modify (kasC_pure ?_));show kasC _ _ _ (forIn (1::List.range' 2 62) _ _) _ _ _;refine kasC_cons ?_;(try dsimp only);rw[bt (show(0:Nat)+64≥64 by decide)];refine kasC_pure ?_;(try dsimp only);refine kasC_bind (kasC_range ?_);show kasC _ _ _ (forIn (0::1::List.range' 2 62) _ _) _ _ _;refine kasC_cons ?_;refine kasC_bind (kasC_get ?_);(try dsimp only);rw[bt (show(pendingOf (setPending (kas_st a it (List.toArray (List.range 64))) ((pendingOf (kas_st a it (List.toArray (List.range 64)))).push (0,64,0)))).size<=1 from Ye 1)];refine kasC_pure ?_;(try dsimp only);exact kasC_pure (k _ rfl rfl)
def Zac{R:c7 Nat->Prop}{a:U}{vs:O aY}{n:Nat}{P:PySem.Fin->bR->Prop}(m:s.heap.get? a=Z (seqObj "list" vs.toArray n))(iy:vs.length<=64)
  (J:2<=vs.length->∀j:cY,(∀b o,b≠a->s.heap.get? b=Z o->j.get? b=Z o)->∃t:SortKind,(∀(Q:SortKind->bR->Prop),Q t {s with heap:=j}->wpAny (model X w) A (keyKind' vs.toArray) Q E {s with heap:=j})/\
   ∀D:SortSt->bR->Prop,(∀(p:c7 Nat) (d:SortSt),p.size=vs.length->arrOf d=p.map (kas_item (vs.toArray.zip vs.toArray))->failedOf d=aE->Good vs.length p->R p->D d {s with heap:=j})->wpAny (model X w) A (sortRuns'.run (SortSt.mk' t (vs.toArray.zip vs.toArray) #[] 7 aE)) (λr l=>D r.2 l) E {s with heap:=j})
  (h:∀out:O aY,out.Perm vs->(2<=vs.length->∃p:c7 Nat,Good vs.length p/\R p/\out=p.toList.map λi=>vs.getD i Value.none)->P (.done (.ret .none)) {s with heap:=sortedHeap s.heap a vs out.toArray}):
  wpAny (model X w) A (Builtin.«list.sort» ⟨[.ref a],[]⟩) P E s:=by
 rw[list_sort_plain];have y:a<s.heap.objs.size:=Yt m;refine bh (listItems_at m rfl ?_);refine bh (listUpdate_at m rfl ?_);obtain⟨k,x⟩:∃k,(s.heap.update a (Obj.mapSeq λ_=>#[])).get? a=Z (seqObj "list" #[] k):=⟨_,get?_update_seq m (λ_=>#[])⟩;refine bh (seqEpoch_at x rfl ?_);refine bh (wpAny_newTuple ?_);refine bh (t5 ?_);refine hV ?_;have q:(((s.heap.update a (Obj.mapSeq λ_=>#[])).push (seqObj "tuple" vs.toArray 0)).push (seqObj "list" #[] 0)).get? a=Z (seqObj "list" #[] k):=by
  rw[Jq _ _ _ (by rw[size_push',MF];exact Y0 (Ws y)),Jq _ _ _ (by rw[MF];exact Y0 y)];exact x
 have keep:∀b o,b≠a->s.heap.get? b=Z o->(((s.heap.update a (Obj.mapSeq λ_=>#[])).push (seqObj "tuple" vs.toArray 0)).push (seqObj "list" #[] 0)).get? b=Z o:=λb o F e=>
  Yb _ (Yb _ (by rw[VU _ _ _ _ F];exact e))
 dsimp only;have I:vs.toArray.size=vs.length:=QS
 by_cases f:vs.toArray.size<2
 ·rw[bt f,bt f];refine bh (cy ?_);rw[StateT.run_pure];refine bh (cy ?_);dsimp only;refine bh (seqEpoch_at q rfl ?_);refine bh (listUpdate_at q rfl ?_ (hsz2:=by rw[Vl];show(pairsOf vs).size<=_;rw[pairsOf_size,dw];exact lg iy (by decide)));simp only[vg,V6,um];have e:(arrOf (SortSt.mk' general' (vs.toArray.zip vs.toArray) #[] 7 aE)).map (·.2)=vs.toArray:=by
   grind
  have:=h vs (qK _) (λz=>QO);rw[←e] at this;exact cy this
 ·rw[bu f,bu f];have H:2<=vs.length:=(eL f)
  obtain⟨t,G,v⟩:=J H _ keep;refine bh (G _ ?_);refine bh (dy (v (λd l=>l={s with heap:=((s.heap.update a (Obj.mapSeq λ_=>#[])).push (seqObj "tuple" vs.toArray 0)).push (seqObj "list" #[] 0)}/\∃p:c7 Nat,p.size=vs.length/\arrOf d=p.map (kas_item (vs.toArray.zip vs.toArray))/\failedOf d=aE/\R p/\Good vs.length p) λp d a1 a2 a3 W T=>⟨rfl,p,a1,a2,a3,T,W⟩) ?_ λ_ _ e=>e);rintro⟨⟨⟩,d⟩ l ⟨rfl,p,hp,u,L,N,g⟩;dsimp only;have C:=kat_snds rfl u;have c:(p.toList.map λi=>vs.getD i Value.none).Perm vs:=by
   have k:p.toList.Perm (List.range vs.length):=by
    have:=Jw.mp g.2;simpa using this
   have B:=k.map λi=>vs.getD i Value.none;rw[range_getD] at B;exact B
  refine bh (seqEpoch_at q rfl ?_);refine bh (listUpdate_at q rfl ?_ (hsz2:=by rw[C,Yr,c.length_eq,dw];exact lg iy (by decide)));rw[L];simp[vg,V6,um];have:=h _ c (λ_=>⟨p,g,N,rfl⟩);rw[←C] at this;exact cy this
def Zel(h:b.Pairwise jO):Sd (lM b) (List.toArray (List.range b.length)) b.length:=λi j c a=>by
 have e:∀k,k<b.length->(List.toArray (List.range b.length)).getD k 0=k:=λk d=>by
  simp_all
 rw[e i (sm c a),e j a];refine ltB_iff.mpr ?_;rw[Yn,Yn,Yc (sm c a),Yc a];exact W1.mp h i j (sm c a) a c
def Ziu{m:SortSt->bR->Prop}(x:c.length=64)(u:c.length=f.length)(L:lK c.length (lM f))(t:f.Pairwise jO)(g:∀i j (C:cm->bR->Prop),i<c.length->j<c.length->C (lM f i j) s->kas_ask X w A h c i j C s)
  (v:∀(p:c7 Nat) (d:SortSt),p.size=c.length->arrOf d=p.map (kas_item (c.toArray.zip c.toArray))->failedOf d=aE->Good c.length p->Sd (lM f) p c.length->m d s):wpAny (model X w) A (sortRuns'.run (SortSt.mk' h (c.toArray.zip c.toArray) #[] 7 aE)) (λr e=>m r.2 e) E s:=by
 have l:Good c.length (List.toArray (List.range c.length)):=⟨QO,vm _⟩;have q:Sd (lM f) (List.toArray (List.range c.length)) c.length:=by rw[u];exact Zel t
 rw[kat_ask_eq rfl] at g;have k:(c.toArray.zip c.toArray).size=c.length:=QS
 have y:SortSt.mk' h (c.toArray.zip c.toArray) #[] 7 aE=kas_st h (c.toArray.zip c.toArray) (List.toArray (List.range c.length)):=by
  unfold kas_st;rw[←k,kas_range]
 rw[y];have n:=eX.run (G:=λr e=>r=(c.length,List.toArray (List.range c.length))/\e=s) g (Oa l) ⟨(Zdi L l q),rfl⟩;have o:=λd a b=>v _ d QS a b l q;rw[x] at n o⊢;exact Zhq (Q:=λ_ d e=>m d e) o n
def ZaI(ho:s.heap.get? l=Z o)(hc:o.cls=.type "list")(hd:o.data=.seq aj.toArray n)(N:uf s.heap aj ps)(nd:ps.Nodup)(iy:aj.length<64\/(aj.length=64/\ps.Pairwise jO))(q:aj.toArray.size<=sizeLine)
  (h:∀(d c:cY) (out:O aY) (e:Nat),(∀b o,s.heap.get? b=Z o->d.get? b=Z o)->(∀b o,d.get? b=Z o->c.get? b=Z o)->c.get? d.objs.size=Z (seqObj "list" out.toArray e)->out.Perm aj->(2<=aj.length->∃p:c7 Nat,Good aj.length p/\Sd (lM ps) p aj.length/\out=p.toList.map λi=>aj.getD i Value.none)->Q (.ref d.objs.size) {s with heap:=c}):
  wpAny (model X w) A (call (.builtin "sorted") [.ref l]) Q E s:=by
 refine uX kind_sorted plain_sorted entry_sorted (args_sorted1 _) ?_;unfold Builtin.«sorted»;refine bh (m:=checkCount "sorted" 1 1 _) (cy ?_);refine bh (KY l (.inl rfl) ho hc hd (λd H=>?_) q);refine bh (t5 ?_);have e1:aj.toArray.toList=aj:=QS
 rw[e1];have f:(d.push (seqObj "list" aj.toArray 0)).get? d.objs.size=Z (seqObj "list" aj.toArray 0):=Yu _ rfl;refine bh (hV (nh slot_list_sort ⟨_,f,rfl⟩ entry_list_sort (Zac (R:=λp=>Sd (lM ps) p aj.length) f QO (λr c k=>?_) λout pm eo=>⟨_,rfl,?_⟩) (args_list_sort _)))
 ·have z:uf c aj ps:=L2.Paired.bA N λv p ⟨a,o,n,t,u,e,q1,W,P⟩=>by
   have J:=H _ _ q1;exact⟨a,o,n,t,u,e,k _ _ (Y0 (Yt J)) (Yb _ J),W,P⟩
  obtain⟨fs,k1,k2,k3⟩:=z.ig.V4;have F:=cK z;have ask:∀(B:d6) i j (C:cm->bR->Prop),i<aj.length->j<aj.length->C (lM ps i j) {s with heap:=c}->kas_ask X w B (tuples' af) aj i j C {s with heap:=c}:=λB i j C hi hj hC=>Zek (s:={s with heap:=c}) z hi hj hC;have L:=Zhp nd;rw[←F] at L;refine⟨tuples' af,λQ hQ=>?_,λQ' LZ=>?_⟩
  rotate_left
  ·rcases iy with lt|⟨LY,pw⟩
   ·obtain⟨g,sd⟩:=Zej L (iz (nP _) r);refine kat_run (G:=λp D=>D={s with heap:=c}/\p=Run (lM ps) (kas_sort aj.length)) rfl r lt (λp aO D a1 a2 a3 a4=>?_) (eX.run (ask _) (Zdf (iz (nP _) r)) ⟨rfl,rfl⟩)
    grind
   ·exact Ziu LY F L pw (ask _) LZ
  refine kat_kind (T:=.type "int") k1 QO (λv hv=>?_) QD hQ;obtain⟨x,t,rfl⟩:=k3 v hv;exact .now
 ·obtain⟨e,he⟩:=sortedHeap_at f;exact cy ⟨_,rfl,h d _ out e H (λb ob I=>by
   have y:=Yt I;rw[sortedHeap_old (Y0 y) (by rw[size_push'];exact Ws y),Jq _ _ _ (Y0 y)];exact I) he pm eo⟩
end
def Zem(K:ai):O V->Hp->VK->Prop:=λe H Q=>∃(p:U) (b:O U) (bX:O (Int×Int)),e=[.ref p]/\aq K H p (b.map V.ref)/\Paired (λa (p:Int×Int)=>H a=Z (.tup [.int p.1,.int p.2])) b bX/\bX.Nodup/\(b.length<64\/(b.length=64/\bX.Pairwise jO))/\
 ∀(d:O U) (c:O (Int×Int)),Paired (λa (p:Int×Int)=>H a=Z (.tup [.int p.1,.int p.2])) d c->c.Perm bX->c.Pairwise jO->Nw H (.lst (d.map V.ref)) Q
theorem NJ:∀{a:O c},(∀z∈a,F (f z) (g z))->Paired F (a.map f) (a.map g)
 |[],_=>.nil
 |z::a,h=>.cons (h z Yk) (NJ λz b=>h z (Yx _ b))
theorem Zen{K:ai}(hK:X.K=K):dk X (.builtin "sorted") (Zem K):=by
 subst hK;intro k s J H xs us Q I r h;obtain⟨p,b,bX,rfl,hq,t,nd,iy,q⟩:=h;obtain⟨u,rfl,R⟩:=vals1 r;cases R;obtain⟨aj,W,pl,C⟩:=I.list hq;obtain⟨o,n,ho,hc,_,hd⟩:=pl;have ei:=ON W;subst ei;rw[Ya] at C;have m:=cK t;have N:uf s.heap (b.map Value.ref) bX:=by
  have w:∀{b:O U} {bX:O (Int×Int)},Paired (λa (p:Int×Int)=>H a=Z (.tup [.int p.1,.int p.2])) b bX->uf s.heap (b.map Value.ref) bX:=λ{b bX} h=>by
   induction h with
   |nil=>exact .nil
   |cons v _ ih=>
    refine .cons ?_ ih;obtain⟨eN,T,⟨o2,g1,g2,n2,g3⟩,_⟩:=I.tuple (az.of v);obtain⟨u1,u2,rfl,⟨t1,rfl⟩,⟨t2,rfl⟩⟩:=vals2 T
    grind
  exact w t
 refine ZaI (ps:=bX) ho hc hd N nd (by rwa[Ya]) (by rw[Yr,Ya];exact C) λv h' out e kp L he pm f=>?_;have G:Inv X k J H {s with heap:=v}:=I.kept (t':=s.toks) kp;obtain⟨d,l,x,B,A,pw⟩:∃(d:O U) (l:O (Int×Int)),out=d.map Value.ref/\Paired (λa (p:Int×Int)=>H a=Z (.tup [.int p.1,.int p.2])) d l/\l.Perm bX/\l.Pairwise jO:=by
  by_cases z:2<=(b.map Value.ref).length
  ·have f:=f z;rw[Ya] at f z;obtain⟨P,g,y,f⟩:=f;rw[m] at g y;have F:P.toList.Perm (List.range bX.length):=by
    have:=Jw.mp g.2;simpa using this
   have E:∀i∈P.toList,i<bX.length:=λi c=>Wv.mp (F.subset c);refine⟨P.toList.map λi=>b.getD i 0,P.toList.map λi=>bX.getD i (0,0),?_,NJ λi c=>Ga t (by exact m▸E i c) 0 (0,0),?_,?_⟩
   ·rw[f,Y7];refine W8 λi c=>?_;have:=E i c;show(b.map Value.ref).getD i Value.none=Value.ref (b.getD i 0);rw[Yn,Yf,Yc QO,Yn,Yc QO];rfl
   ·have:=F.map λi=>bX.getD i (0,0);rw[range_getD] at this;exact this
   ·rw[Wt,W1];intro i j c D lL;have sz:=g.size;have gi:P.toList[i]=P.getD i 0:=by
     rw[Wh] at c;simp_all
    have gj:P.toList[j]=P.getD j 0:=by
     rw[Wh] at D;simp_all
    rw[gi,gj];rw[Wh] at D;exact ltB_iff.mp (y i j lL QO)
  ·rw[Ya] at z;have eq:out=b.map Value.ref:=by
    match b,out,z,pm with
    |[],out,_,pm=>exact List.Perm.eq_nil pm
    |[a],out,_,pm=>exact List.Perm.eq_singleton pm
    |_::_::_,_,z,_=>exact absurd QS z
   refine⟨b,bX,eq,t,qK _,?_⟩;match bX,m with
   |[],_=>exact .nil
   |[a],_=>exact List.pairwise_singleton _ _
   |_::_::_,m=>exact absurd m (by simp;omega)
 refine⟨.ref v.objs.size,_,G.laid (o:=.lst (d.map V.ref)) L (Ye _) ⟨?_,out,e,by rw[x];exact OO d,by simpa[seqObj] using he⟩,rfl,(q d l B A pw).at _ (G.ay.fresh (Ye _))⟩;rw[Ya,cK B,A.length_eq];exact Jn (kO QO)
end L2
namespace L2
open PySem PySem.Spec PyProof.Rows
def ni{K:ai}(h:X.K=K)(p:PE X ex (zY X.K T r to t)):PE X ex (zY K T r to t):=h▸p
def IG{K:ai}(h:X.K=K)(p:PE X ex (KL X.K T r to)):PE X ex (KL K T r to):=h▸p
def yD{X:Cx}{K:ai}{a:cP}{d:TE}(h:X.K=K)(p:PT X a (λc H Q=>d c H λx b=>∃k,CF X.K x b k/\Q k b)):PT X a (λc H Q=>d c H λx b=>∃k,CF K x b k/\Q k b):=h▸p
def tY{K:ai}(h:X.K=K)(p:cM X f (CP X.K b)):cM X f (CP K b):=h▸p
def qy(a:Hp)(d:U):Prop:=(∀b,a d≠Z (.tup b))/\(∀o u,a d≠Z (.cL o u))/\∀c,a d≠Z (.sG c)
def Inv.TQ(I:Inv X pins σ H s)(e:H d=Z (.dK c)):qy X.mH d:=
 ⟨(λa z=>by have:=I.base.ig d a z;rw[e] at this;cases this),(λo u z=>by have:=I.base.iR d o u z;rw[e] at this;cases this),(λb z=>by obtain⟨m,h⟩:=I.base.jo d b z;rw[e] at h;cases h)⟩
def Inv.swap(I:Inv X pins σ H s)(e:H d=Z o)(i:qy X.mH d)(y:∀a,o≠.own a)(w:∀f,o≠.tup f)(C:cT X.prog X.w H s.heap d o'):Inv X pins σ (upd H d o') s:=by
 have iQ:∀{a:U} {o1:HO},cT X.prog X.w H s.heap a o1->cT X.prog X.w (upd H d o') s.heap a o1:=λ{a o1} x=>x.iQ (λ_ _ _ z=>z)
  (λb z=>by rw[aN (λq=>y a (Yo (e.symm.trans (by rw[←q];exact z))))];exact z)
  (λb f z=>by rw[aN (λq=>w f (Yo (e.symm.trans (by rwa[←q]))))];exact z)
 have ne:∀{b:U},H b=aE->b≠d:=λ{b} l z=>by rw[z,e] at l;cases l
 refine⟨I.ok,I.os,I.bare,⟨I.base.keep,I.base.slot,λb g q n A=>?_,I.base.there,λb f q=>?_,λb g u q=>?_,λb k q=>?_⟩,I.loc,I.cell,?_,λx c m=>?_,λp B=>?_,λa o1 j=>?_,I.len⟩
 ·have h:=I.base.free b g q n A;rwa[aN (ne h)]
 ·rw[aN (λz=>i.1 f (by rwa[←z]))];exact I.base.ig b f q
 ·rw[aN (λz=>i.2.1 g u (by rwa[←z]))];exact I.base.iR b g u q
 ·rw[aN (λz=>i.2.2 k (by rwa[←z]))];exact I.base.jo b k q
 ·rw[aN (ne I.free)];exact I.free
 ·rw[aN (ne (I.iP x c m))];exact I.iP x c m
 ·obtain⟨v,t,r⟩:=I.pin p B;exact⟨v,by rwa[aN (ne t)],r⟩
 ·by_cases z:a=d
  ·subst z;rw[aT] at j
   grind
  ·rw[aN z] at j;exact iQ (I.ay a o1 j)
def Ziv(h:(dU P w).is k u=af):RelV (kV k) u:=by
 rcases m7 h with⟨i,t,rfl,rfl⟩|⟨x,t,rfl,rfl⟩;·exact⟨t,rfl⟩
 ·exact⟨t,rfl⟩
def Sr:∀{a:O (Key×V)} {b:O (Key×aY)} {i:Nat} {k:Key} {y:V},KV a b->a[i]?=Z (k,y)->∃v,b[i]?=Z (k,v)/\RelV y v:=λ{a b i k y} r h=>by
 obtain⟨q,e,d,c⟩:=gK r h
 grind
def Ci(I:Inv X pins σ H s)(e:H d=Z (.cL f (.dK c)))(h:f.data=.dict m ep):∃a,KV c a/\s.heap.DictAt (dU X.prog X.w) d a ep:=by
 obtain⟨g,_,_,a,b,o,p,n,j,l,i,k⟩:=(I.ay d _ e);rw[g] at j;cases j;rw[h] at i;cases i;exact⟨a,b,f,m,g,l,h,k⟩
def Inv.CQ(I:Inv X pins σ H s)(c:qy X.mH d)(e:H d=Z (.cL g (.dK b))):Inv X pins σ (upd H d (.dK b)) s:=
 I.swap e c (λa z=>by cases z) (λf z=>by cases z) (I.ay d _ e).2
def L4(d:U)(b:Obj)(a:O (Key×V)):It:=⟨λi H=>H d=Z (.cL b (.dK a))/\i<a.length,λi H v c=>c=H/\∃k y,a[i]?=Z (k,y)/\v=kV k,λi H=>H d=Z (.cL b (.dK a))/\a.length<=i⟩
theorem Zdj{P:de}{w:c5}{K:ai}{tg:cP}(it d:U)(G:Obj)(es:c7 DictEntry)(T:Nat)(J:G.data=.dict es T)(a:O (Key×V)):Turn P w K tg (L4 d G a) [it] it (λi h=>h.IsKeyIter it d i a.length T) where
 mem:=QS
 obj:=λi h st b q=>by
  have e:b=it:=by simpa using q
  obtain⟨o,e,c,W⟩:=st
  grind
 keep:=λi h R st k=>let⟨o,e,r⟩:=st;⟨o,k it QS o e,r⟩
 item:=by
  intro X t n u N i g s σ H E I l st p;subst t n u;obtain⟨D,C,f2,B,z,x⟩:=l it QS;obtain⟨m,bT⟩:=p;obtain⟨vs,f,F⟩:=Ci I m J;have j:=f.length;obtain⟨k,y,L⟩:∃k y,a[i]?=Z (k,y):=⟨a[i].1,a[i].2,Yc bT⟩;obtain⟨v,hv,ry⟩:=Sr f L;rw[j] at st;refine wpAny_pyNext_dict_item st F hv λkey R oS aO sb=>?_;obtain⟨o,e,c,W⟩:=id aO;exact⟨_,rfl,uc e c W QD ⟨kV k,H,(I.turned (sb.extBut) D C B z x),Ziv oS,⟨rfl,k,y,L,rfl⟩,by rw[j];exact aO,λb q=>(l b q).1⟩⟩
 done:=by
  intro X t n u N i g s σ H E I l st p;subst t n u;obtain⟨D,C,f2,B,z,x⟩:=l it QS;obtain⟨m,hle⟩:=p;obtain⟨vs,f,F⟩:=Ci I m J;have j:=f.length;rw[j] at st;exact wpAny_pyNext_dict_end (I.ok.hd N) st F (Y4 QO) λR eb=>⟨rfl,I.turned (eb) D C B z x⟩
 self:=λA i s Q E st h=>wpAny_pyIter_keyiter st h
def Ko(g:Hp)(f:TE):TI:=λe H R=>f e H λx c=>∃d a,x=.ref d/\c d=Z (.dK a)/\∀b,qy g d->R (L4 d b a) (upd c d (.cL b (.dK a)))
def ZfH(J:X.mH=H0)(F:PE X l C):PI X tg l (Ko H0 C):=by
 subst J;intro c s n H R I h;refine aB (F c s n H _ I h) λv g y=>?_;obtain⟨x,P,j,D,d,f,L,hd,q⟩:=y;subst L;obtain rfl:v=Value.ref d:=D;obtain⟨T,Q,B,k,N⟩:=mF j.ay hd;obtain⟨i,t,u,m,E,r,A⟩:=id N;have p:=j.TQ hd;refine wpAny_pyIter_dict Q ⟨i,t,m,E,r,A⟩ ?_;have w:Inv X c n P {g with heap:=g.heap.push {cls:=.type "dict_keyiterator",data:=.fields #[.ref d,.int 0 0,.int B.length 0,.int u 0]},toks:=g.toks}:=j.kept λb o e=>Yb _ e;refine⟨g.heap.objs.size,[g.heap.objs.size],_,L4 d i f,_,rfl,(w.swap (o':=.cL i (.dK f)) hd p (λa z=>by cases z) (λW z=>by cases z) ⟨Yb _ m,(w.ay d _ hd)⟩),Zdj _ d i t u r f,⟨_,Yu _ rfl,rfl,by rw[k.length];rfl⟩,λb G=>?_,q i p⟩;have e:b=g.heap.objs.size:=by simpa using G
 subst e;exact j.sr (Ye _) (by rw[aN (Jg (Yt m))];exact j.ay.fresh (Ye _))
def TR(e:Hp)(h:TE)(g:TG)(i:TS):TS:=λD f H=>KD (Ko e h) g i ⟨λj b=>∃d c a,qy e d/\b d=Z (.cL c (.dK a))/\D.nx j (upd b d (.dK a)),λv b=>∃d c a,qy e d/\b d=Z (.cL c (.dK a))/\D.rt v (upd b d (.dK a)),λ_ _=>False,λ_ _=>False⟩ f H
theorem Zca(C:X.mH=H0)(w:PassesOwn X.md X.A X.env X.xe)(A:X.calm=af)(y:PI X k l (Ko H0 n))(z:PG X k g)(B:fW X body o)(t:∀x,foldedSetIterable l X.env x=pure x:=by intro _;rfl):PS X (.For k l body [] pos) (TR H0 n g o):=by
 subst C;intro a s m H D I h;refine aB (ia w A y z B t a s m H _ I h) λf F q=>?_;cases f with
 |next=>obtain⟨i,E,j,d,p,c,b,e,q⟩:=q;exact⟨i,_,j.CQ b e,q⟩
 |brk=>obtain⟨_,_,_,q⟩:=q;exact False.elim q
 |cont=>obtain⟨_,_,_,q⟩:=q;exact False.elim q
 |ret u=>obtain⟨v,i,E,j,r,d,p,c,b,e,q⟩:=q;exact⟨v,i,_,j.CQ b e,r,q⟩
def Zeo(F:∀R:VK,R (.ref d) H1->r σ H R)(C:H1 d=Z (.dK kvs))(n:Nat->St->Hp->Prop)
  (v:∀b,n 0 σ (upd H1 d (.cL b (.dK kvs))))
  (z:∀b i k y j h (N:St->Hp->Prop) (t:VK) (bk:St->Hp->Prop),kvs[i]?=Z (k,y)->n i j h->h d=Z (.cL b (.dK kvs))->(∀l f,n (i+1) l f->f d=Z (.cL b (.dK kvs))->N l f)->g (kV k) j h λG L=>s ⟨N,t,bk,N⟩ G L)
  (I:∀b j h,n kvs.length j h->h d=Z (.cL b (.dK kvs))->D.nx j (upd h d (.dK kvs))):TR P r g s D σ H:=by
 refine F _ ⟨d,kvs,rfl,C,λb w=>⟨λi m j h=>m=kvs.length-i/\i<=kvs.length/\n i j h/\h d=Z (.cL b (.dK kvs)),⟨kvs.length,(Nat.add_zero _),Yw _,v b,aT⟩,?_⟩⟩;rintro i m j h ⟨rfl,B,p,o⟩;by_cases q:i<kvs.length
 ·refine .inr ⟨⟨o,q⟩,λl f=>n (i+1) l f/\f d=Z (.cL b (.dK kvs)),λl f ⟨a,c⟩=>⟨kvs.length-(i+1),QO,rfl,q,a,c⟩,?_⟩;rintro x J ⟨rfl,k,y,A,rfl⟩;exact z b i k y j J (λl f=>n (i+1) l f/\f d=Z (.cL b (.dK kvs))) _ _ A p o λl f u E=>⟨u,E⟩
 ·have e:i=kvs.length:=(i1 B (eL q))
  subst e;exact .inl ⟨⟨o,Ye _⟩,d,b,kvs,w,o,I b _ _ p o⟩
theorem ZfI(r:KT H a xs):xs.map (·.1)=a.map (·.1):=by
 induction r with
 |nil=>rfl
 |cons f _ b=>grind
def ZfJ:bootBuiltins "dict"=Z (.type "dict"):=QK
def L5(d:U)(b:Obj)(a:O (Key×V)):It:=⟨λi H=>H d=Z (.cL b (.dK a))/\i<a.length,λi H v c=>c=H/\∃k,a[i]?=Z (k,v),λi H=>H d=Z (.cL b (.dK a))/\a.length<=i⟩
theorem Zdk{P:de}{w:c5}{K:ai}{tg:cP}(it d:U)(G:Obj)(es:c7 DictEntry)(T:Nat)(J:G.data=.dict es T)(a:O (Key×V)):Turn P w K tg (L5 d G a) [it] it (λi h=>h.IsValIter it d i a.length T) where
 mem:=QS
 obj:=λi h st b q=>by
  have e:b=it:=by simpa using q
  obtain⟨o,e,c,W⟩:=st
  grind
 keep:=λi h R st k=>let⟨o,e,r⟩:=st;⟨o,k it QS o e,r⟩
 item:=by
  intro X t n u N i g s σ H E I l st p;subst t n u;obtain⟨D,C,f2,B,z,x⟩:=l it QS;obtain⟨m,bT⟩:=p;obtain⟨vs,f,F⟩:=Ci I m J;have j:=f.length;obtain⟨k,y,L⟩:∃k y,a[i]?=Z (k,y):=⟨a[i].1,a[i].2,Yc bT⟩;obtain⟨v,hv,ry⟩:=Sr f L;rw[j] at st;refine wpAny_pyNext_values_item st F hv λR aO sb=>?_;obtain⟨o,e,c,W⟩:=id aO;exact⟨_,rfl,uc e c W QD ⟨y,H,(I.turned (sb.extBut) D C B z x),ry,⟨rfl,k,L⟩,by rw[j];exact aO,λb q=>(l b q).1⟩⟩
 done:=by
  intro X t n u N i g s σ H E I l st p;subst t n u;obtain⟨D,C,f2,B,z,x⟩:=l it QS;obtain⟨m,hle⟩:=p;obtain⟨vs,f,F⟩:=Ci I m J;have j:=f.length;rw[j] at st;exact wpAny_pyNext_values_end (I.ok.hd N) st F (Y4 QO) λR eb=>⟨rfl,I.turned (eb) D C B z x⟩
 self:=λA i s Q E st h=>wpAny_pyIter_valiter st h
def Kp(g:Hp)(f:TE):TI:=λe H R=>f e H λx c=>∃d a,x=.ref d/\c d=Z (.dK a)/\∀b,qy g d->R (L5 d b a) (upd c d (.cL b (.dK a)))
def ZfK{X:Cx}{H0:Hp}{Q:cP}{g E:Pos}{o:cP}{A:TE}(h0:X.mH=H0)(ho:PE X o A)(P:attributeBase o "values" X.env (eval o X.env)=eval o X.env:=by rfl)(N:(g.endLine==E.line)=af:=by rfl):PI X Q (.Call (.Attribute o "values" g) [] [] E) (Kp H0 A):=by
 subst h0;intro f s w H R I h;refine Ae P N (aB (ho f s w H _ I h) λv i J=>?_);obtain⟨x,H1,j,r1,d,c,ex,hd,q⟩:=J;subst ex;obtain rfl:v=Value.ref d:=r1;obtain⟨W,T,Af⟩:=y9 j (.inl ⟨c,.inl hd⟩);refine⟨"dict","dict.values",qd,zV,PySem.F.type_dict_values,W,T,mh rfl (DK ?_)⟩;obtain⟨zz,_,y,l,t⟩:=mF j.ay hd;refine mr zV t.typeIs PySem.F.entry_dict_values (PySem.F.args_dict_values_1 _) (meets_dict_values (dU X.prog X.w) d Af) ⟨⟨y,t⟩,?_⟩;obtain⟨k,D,p,m,hx,C,L⟩:=id t;have B:=j.TQ hd;have up:∀b o,i.heap.get? b=Z o->(i.heap.push {cls:=.type "dict_values",data:=.fields #[.ref d]}).get? b=Z o:=λb o e=>Yb _ e;refine wpAny_pyIter_values (knd:=dU X.prog X.w) (d:=d) (ep:=p) ⟨_,Yu _ rfl,rfl,rfl⟩ ⟨k,D,up _ _ m,hx,C,L⟩ ?_;generalize hG:i.heap.push {cls:=.type "dict_values",data:=.fields #[.ref d]}=G at up⊢;have F:Inv X f w H1 {i with heap:=G.push {cls:=.type "dict_valueiterator",data:=.fields #[.ref d,.int 0 0,.int y.length 0,.int p 0]},toks:=i.toks}:=j.kept (t':=i.toks) λb o e=>Yb _ (up b o e);have n:=F.ay d _ hd;have I3:=F.swap (o':=.cL k (.dK c)) hd B (λa z=>by cases z) (λxs z=>by cases z) ⟨Yb _ (up _ _ m),n⟩;have u:i.heap.objs.size<=G.objs.size:=by rw[←hG,Jx];exact zj _ _
 refine⟨G.objs.size,[G.objs.size],_,L5 d k c,_,rfl,I3,Zdk _ d k D p C c,⟨_,Yu _ rfl,rfl,by rw[l.length];rfl⟩,λb hb=>?_,q k B⟩;have e:b=G.objs.size:=by simpa using hb
 subst e;have r:=Yt m;exact j.sr u (by rw[aN (Jg (Y2 r u))];exact j.ay.fresh u)
def TU(e:Hp)(h:TE)(g:TG)(i:TS):TS:=λD f H=>KD (Kp e h) g i ⟨λj b=>∃d c a,qy e d/\b d=Z (.cL c (.dK a))/\D.nx j (upd b d (.dK a)),λv b=>∃d c a,qy e d/\b d=Z (.cL c (.dK a))/\D.rt v (upd b d (.dK a)),λ_ _=>False,λ_ _=>False⟩ f H
theorem Zcb(A:X.mH=H0)(t:PassesOwn X.md X.A X.env X.xe)(y:X.calm=af)(w:PI X k (.Call (.Attribute o "values" apos) [] [] B) (Kp H0 m))(x:PG X k g)(z:fW X body n):
  PS X (.For k (.Call (.Attribute o "values" apos) [] [] B) body [] pos) (TU H0 m g n):=by
 subst A;intro a s l H D I h;refine aB (ia t y w x z (λ_=>rfl) a s l H _ I h) λf E q=>?_;cases f with
 |next=>obtain⟨i,C,j,d,p,c,b,e,q⟩:=q;exact⟨i,_,j.CQ b e,q⟩
 |brk=>obtain⟨_,_,_,q⟩:=q;exact False.elim q
 |cont=>obtain⟨_,_,_,q⟩:=q;exact False.elim q
 |ret u=>obtain⟨v,i,C,j,r,d,p,c,b,e,q⟩:=q;exact⟨v,i,_,j.CQ b e,r,q⟩
def Zep(F:∀R:VK,R (.ref d) H1->r σ H R)(C:H1 d=Z (.dK kvs))(n:Nat->St->Hp->Prop)
  (v:∀b,n 0 σ (upd H1 d (.cL b (.dK kvs))))
  (z:∀b i k y j h (N:St->Hp->Prop) (t:VK) (bk:St->Hp->Prop),kvs[i]?=Z (k,y)->n i j h->h d=Z (.cL b (.dK kvs))->(∀l f,n (i+1) l f->f d=Z (.cL b (.dK kvs))->N l f)->g y j h λG L=>s ⟨N,t,bk,N⟩ G L)
  (I:∀b j h,n kvs.length j h->h d=Z (.cL b (.dK kvs))->D.nx j (upd h d (.dK kvs))):TU P r g s D σ H:=by
 refine F _ ⟨d,kvs,rfl,C,λb w=>⟨λi m j h=>m=kvs.length-i/\i<=kvs.length/\n i j h/\h d=Z (.cL b (.dK kvs)),⟨kvs.length,(Nat.add_zero _),Yw _,v b,aT⟩,?_⟩⟩;rintro i m j h ⟨rfl,B,p,o⟩;by_cases q:i<kvs.length
 ·refine .inr ⟨⟨o,q⟩,λl f=>n (i+1) l f/\f d=Z (.cL b (.dK kvs)),λl f ⟨a,c⟩=>⟨kvs.length-(i+1),QO,rfl,q,a,c⟩,?_⟩;rintro x J ⟨rfl,k,A⟩;exact z b i k x j J (λl f=>n (i+1) l f/\f d=Z (.cL b (.dK kvs))) _ _ A p o λl f u E=>⟨u,E⟩
 ·have e:i=kvs.length:=(i1 B (eL q))
  subst e;exact .inl ⟨⟨o,Ye _⟩,d,b,kvs,w,o,I b _ _ p o⟩
section
variable {W ty:TE}
def Zhr(W ty:TE):TS:=λD c H=>W c H λx e=>ty c e λy d=>∃a b k,x=.ref a/\d a=Z (.dK b)/\y=kV k/\(a9 b k).isSome=af/\Ch d a (.dK (gq b k)) (D.nx c)
def Ic(q:PE X o W)(r:PE X i ty):PS X (.Delete [.Subscript o i J] pos) (Zhr W ty):=by
 intro b s c H D I h;refine wpAny_Delete (Cs (Av (aB (q b s c H _ I h) λu f d=>?_)));obtain⟨x,B,A,j,n⟩:=d;refine aB (r b f c B _ A n) λF E d=>?_;obtain⟨y,G,z,g,a,p,k,v,e,t,l,m⟩:=d;subst v t;obtain rfl:u=Value.ref a:=j;exact Zc7 z e g l λC w=>CO ⟨c,_,w,m.at⟩
theorem Px[DecidableEq α]:∀{a:O (α×β)} {j:Nat} {k:α} {p:β},(a.map (·.1)).Nodup->a[j]?=Z (k,p)->a.eraseIdx j=a.filter λx=>decide (x.1≠k)
 |[],_,_,_,_,h=>rfl
 |x::a,0,k,p,b,h=>by
  have e:x=(k,p):=by simpa using h
  subst e;rw[List.eraseIdx_cons_zero,List.filter_cons_of_neg QS];refine(Jj.mpr λy g=>?_).symm
  grind
 |x::a,j+1,k,p,b,h=>by
  obtain⟨f,d⟩:=Yz.mp (show(x.1::a.map (·.1)).Nodup from b);have c:a[j]?=Z (k,p):=by simpa using h
  rw[List.eraseIdx_cons_succ,Px d c,J9 (by simpa using(λz=>f (by exact z▸Yg.mpr ⟨_,Yj c,rfl⟩)))]
theorem Py(f:α->β):∀(a:O α) (j:Nat),(a.map f).eraseIdx j=(a.eraseIdx j).map f
 |[],_=>rfl
 |_::_,0=>rfl
 |x::a,j+1=>by
  show f x::(a.map f).eraseIdx j=f x::(a.eraseIdx j).map f;rw[Py f a j]
theorem ZfL(k:O Key)(r:KT H a xs):KT H (gq a k) (xs.filter λx=>decide (x.1≠k)):=by
 unfold gq;induction r with
 |nil=>exact .nil
 |@cons p x c xs f t b=>
  by_cases e:p.1=k;·grind
  ·rw[J9 (by simpa using e),J9 (by rw[←f.1];simpa using e)];exact .cons f b
def Zeq{P:de}{w:c5}{A:d6}{E:bg}{s:bR}{d a:U}{b:HeapKind P w (O Key)}{h:O (O Key×U×aY)}{k:O Key}{Q:bS DictEntry->bR->Prop}(c:b.room A)(r:b.is s.heap k a)(D:s.heap.DictOfH b d h)(f:k∈h.map (·.1))(H:h.length<=sizeLine)
  (y:∀e m u,m.DictOfH b d (h.filter λx=>decide (x.1≠k))->Heap.SameBut d s.heap m->Q (Z e) {s with heap:=m,toks:=u}):wpAny (model P w) A (Builtin.Dict.takeOut d (.ref a)) Q E s:=by
 obtain⟨G,n,B,g,z,hd,i,t,q⟩:=D;refine hV (bh (b.pyHash c r (bh (wpAny_dictFind_heap c r g hd i t q (λno=>?_) λj p e=>?_))))
 ·obtain⟨x,l,e⟩:=Yg.mp f;obtain⟨j,v,C⟩:=Wx.mp l;exact absurd (by rw[Yc v,C,←e]) (no j x.2)
 ·have sz:n.size=h.length:=by rw[←Wh,i,Ya]
  refine bh (tc g hd ?_);rw[entry_at i j,e];have o:=Ee s.heap d (Obj.mapDictKeys λx=>x.eraseIdxIfInBounds j);refine bh (Cu g hd (cy (y _ _ _ ⟨_,_,B+1,Wr _ g (DR (sZ hd _)),z.mapDictKeys _,sZ hd _,?_,λx l=>?_,?_⟩ o)) (by rwa[sz]))
  ·rw[←Px q e];have F:(n.eraseIdxIfInBounds j).toList=n.toList.eraseIdx j:=by
    simp_all
   rw[F,i,Py]
  ·exact b.keeps (t x (Y5.mp l).1) g hd o
  ·grind
theorem Zcc(w:A.units+1<cLine)(I:Inv X pins σ H s)(e:H a=Z (.dT d))(J:H b=Z (.tup (k.map kV)))(l:(a9 d k).isSome=af)(h:∀n,Inv X pins σ (upd H a (.dT (gq d k))) n->Q () n):
  wpAny X.md A (delItem (.ref a) (.ref b)) Q E s:=by
 obtain⟨z,r,m,f,i⟩:=TL I.ay e;have R:d.length=m.length:=Paired.length f;have there:k∈m.map (·.1):=by
  rw[ZfI f];cases g:a9 d k with
  |none=>rw[g] at l;cases l
  |some v=>
   unfold a9 at g;cases j:d.find? λu=>decide (u.1=k) with
   |none=>rw[j] at g;cases g
   |some p=>exact Yg.mpr ⟨p,List.mem_of_find?_eq_some j,eB (by simpa using List.find?_some j)⟩
 refine Ef i.typeIs QD tq (nh tq i.typeIs zT ?_ (zQ _ _));unfold Builtin.«dict.__delitem__»;refine bh ?_;unfold Builtin.Dict.dictSlotArgs;refine bh (uY i.typeIs ?_);show wpAny _ _ (pure (Value.ref a,Value.ref b)) _ _ s;refine cy ?_;show wpAny _ _ (Builtin.Dict.takeOut a (.ref b)>>=_) _ _ s;refine bh (Zeq (mR w) (r8 I.ay J) i there QO λen T P L t=>?_);refine bh (xE (cy ⟨.none,rfl,?_⟩));obtain⟨o,D,F,q,C,B,y,_,x⟩:=L;refine h _ (tV I (by exact e▸gT) t ⟨o,q⟩ ⟨Yy (Wn _ _) z,r,_,(ZfL k f).keeps λc N G=>by
   rwa[aN (Ta G e (λz=>nomatch z))],o,D,F,q,C,B,y,x⟩)
def Zhs(W ty:TE):TS:=λD d H=>W d H λx f=>ty d f λy e=>∃a b c k,x=.ref a/\e a=Z (.dT c)/\y=.ref b/\e b=Z (.tup (k.map kV))/\(a9 c k).isSome=af/\Ch e a (.dT (gq c k)) (D.nx d)
def Pz(t:X.A.units+1<cLine)(v:PE X o W)(w:PE X i ty):PS X (.Delete [.Subscript o i P] pos) (Zhs W ty):=by
 intro c s d H D I h;refine wpAny_Delete (Cs (Av (aB (v c s d H _ I h) λu g f=>?_)));obtain⟨x,G,F,m,p⟩:=f;refine aB (w c g d G _ F p) λr L f=>?_;obtain⟨y,N,E,j,a,b,q,k,A,e,z,B,l,n⟩:=f;subst A z;obtain rfl:u=Value.ref a:=m;obtain rfl:r=Value.ref b:=j;exact Zcc t E e B l λJ C=>CO ⟨d,_,C,n.at⟩
end
end L2
namespace L2
open PySem PySem.W PySem.Spec PyProof.Rows
def Zht:O V->Hp->VK->Prop:=λd H Q=>∃(p:U) (a:O (Key×V)) (b:O Int),d=[.ref p]/\H p=Z (.dK a)/\a.map (·.1)=b.map Sum.inl/\b.length<64/\∀c:O Int,c.Perm b->c.Pairwise (·<=·)->Nw H (.lst (c.map V.int)) Q
def Zbk(L:(d==sysModules)=a7)(B:A.handled=aE)
  (G:s.heap.DictAt (dU prog w) d i D)(z:i.map (·.1)=ns.map Sum.inl)(R:i.length<64)
  (h:∀(f p:cY) (m:Nat) (out:c7 aY) (l:O Int) (e:Nat),(∀b o,s.heap.get? b=Z o->f.get? b=Z o)->(∀b o,f.get? b=Z o->p.get? b=Z o)->p.get? f.objs.size=Z (seqObj "list" out e)->IntsAre out.toList l->l.Perm ns->l.Pairwise (·<=·)->Q (.ref f.objs.size) {s with heap:=p,toks:=m}):
  wpAny (model prog w) A (call (.builtin "sorted") [.ref d]) Q E s:=by
 refine uX kind_sorted plain_sorted entry_sorted (args_sorted1 _) ?_;refine bh (cy ?_);have g:i.length<=sizeLine:=by rw[dw];omega
 refine bh (kdu_collect (kdl_dict (kvs:=i) (ep:=D) L) B G g λf m a u n=>?_);have c:Vals ((i.map (·.1)).map kV) a.toList:=by
  refine Hq (P:=prog) (w:=w) (by rw[Wh,Ya];exact n.1) λj v W=>?_;obtain⟨k,x,T,X⟩:=n.2 j v (by rwa[←Jo])
  grind
 have F:(i.map (·.1)).map kV=ns.map V.int:=by rw[z,Y7];rfl
 rw[F] at c;have y:a.toList.length<64:=by rwa[Wh,n.1]
 refine bh (t5 ?_);have r:(f.push (seqObj "list" a.toList.toArray 0)).get? f.objs.size=Z (seqObj "list" a.toList.toArray 0):=by exact Du▸(Yu _ rfl)
 refine bh (hV (nh slot_list_sort ⟨_,r,rfl⟩ entry_list_sort (list_sort_tree r (intsAre_of c) y λout l J I H=>⟨_,rfl,?_⟩) (args_list_sort _)));obtain⟨e,C⟩:=sortedHeap_at r;exact cy ⟨_,rfl,h f _ m out l e u (λb N t=>by
  have q:=Yt t;rw[sortedHeap_old (Y0 q) (by rw[size_push'];exact Ws q),Jq _ _ _ (Y0 q)];exact t) C J I H⟩
def Zad(w:X.calm=af):dk X (.builtin "sorted") Zht:=by
 rintro b s C H D F Q I r ⟨p,a,l,rfl,t,d,N,q⟩;obtain⟨u,rfl,k⟩:=vals1 r;obtain rfl:u=Value.ref p:=k;obtain⟨m,i,E,c,y⟩:=mF I.ay t;obtain⟨R,z⟩:=y.dictAt;have L:=c.length;have J:a.length=l.length:=by have:=dJ List.length d;rwa [Ya,Ya] at this
 refine Zbk i (I.ok.hd w) z (by rw[←c.keys];exact d) QO λx P G out f e n j v B g A=>?_;have h:=I.kept (t':=s.toks) n;refine⟨.ref x.objs.size,_,h.laid (o:=.lst (f.map V.int)) j (Ye _) ⟨?_,out.toList,e,Hm B,by simpa[seqObj] using v⟩,rfl,(q f g A).at _ (h.ay.fresh (Ye _))⟩;rw[Ya,g.length_eq]
 grind
def ZfM:O V->Hp->VK->Prop:=λb H Q=>∃(p:U) (a:O (Key×V)),b=[.ref p]/\H p=Z (.dK a)/\Nw H (.dK a) Q
def Zbl:dk X (.type "dict") ZfM:=by
 rintro d s n H t v Q I r ⟨p,c,rfl,k,q⟩;obtain⟨u,rfl,j⟩:=vals1 r;obtain rfl:u=Value.ref p:=j;obtain⟨a,g,h,f,l⟩:=mF I.ay k;have w:=f.length;exact PySem.kt_call_dict g l QO λx m i=>⟨.ref s.heap.objs.size,_,I.laid (o:=.dK c) (λb o e=>(i.2 b (Y0 (Yt e))).trans (Yb _ e)) (Ye _) ⟨a,beq_eq_false_iff_ne.mpr (iS (Y0 I.big)),h,f,m⟩,rfl,q.at _ (I.ay.fresh (Ye _))⟩
def Zcd(a:Nat->ar)(b:∀i v,P i v->∃t,v=.str (a i) t):CmpOf prog w A .Lt P (λi j=>decide ((a i).cps.toList<(a j).cps.toList)):=λi j d c s Q E f e h=>by
 obtain⟨t,rfl⟩:=b i d f;obtain⟨u,rfl⟩:=b j c e;exact LQ (oq s _ t) (oq s _ u) F.slot_str_lt F.entry_str_lt (F.args_str_lt_2 _ _) (gives_str_lt _ _ t u) (λx=>nomatch x) h
def Zce(a:Nat->ar)(b:∀i v,P i v->∃t,v=.str (a i) t):CmpOf prog w A .Gt P (λi j=>decide ((a j).cps.toList<(a i).cps.toList)):=λi j d c s Q E f e h=>by
 obtain⟨t,rfl⟩:=b i d f;obtain⟨u,rfl⟩:=b j c e;exact LQ (oq s _ t) (oq s _ u) F.slot_str_gt F.entry_str_gt (F.args_str_gt_2 _ _) (gives_str_gt _ _ t u) (λx=>nomatch x) h
def sv(a b:ar):ar:=if b.cps.toList<a.cps.toList then b else a
def sy(a b:ar):ar:=if a.cps.toList<b.cps.toList then b else a
def Zhu{s:bR}:(s.heap.push {cls:=.type "tuple",data:=.seq #[a,b]}).IsTuple s.heap.objs.size #[a,b]:=⟨_,Yu _ rfl,rfl,0,rfl⟩
section
variable {X:de}{w:c5}{A:d6}{E:bg}{s:bR}
theorem QV(i:Nat)(v:aY)(h:(#[Value.str a t,Value.str b u]:c7 aY)[i]?=Z v):∃t',v=.str (([a,b]:O ar).getD i "") t':=by
 match i,h with
 |0,h=>exact⟨t,(Yo h).symm⟩
 |1,h=>exact⟨u,(Yo h).symm⟩
 |i+2,h=>simp at h
def PB{a b:ar}{t u:Tok}{Q:bg}{y:CmpOp}(f:ar->ar->cm)(G:A.handled=aE)
  (r:CmpOf X w A.in1 y (λi v=>(#[Value.str a t,Value.str b u]:c7 aY)[i]?=Z v) λi j=>f (([a,b]:O ar).getD i "") (([a,b]:O ar).getD j ""))
  (h:∀g k t',(∀c o,s.heap.get? c=Z o->g.get? c=Z o)->Q (.str (if f b a=af then b else a) t') {s with heap:=g,toks:=k}):
  wpAny (model X w) A.in1 (pyIter (.ref s.heap.objs.size)) (λC p=>∃I fp x n P St B,C=.ref I/\Walks X w A.in1 I fp x n P St/\St 0 p.heap/\(∀b∈fp,b<p.heap.objs.size)/\0<n/\CmpOf X w A.in1 y P B/\
   ∀v g k,P (argBest B (n-1)) v->(∀b o,b∉x->p.heap.get? b=Z o->g.get? b=Z o)->Q v {p with heap:=g,toks:=k}) E
   {s with heap:=s.heap.push {cls:=.type "tuple",data:=.seq #[.str a t,.str b u]}}:=by
 have z:=Zhu (a:=.str a t) (b:=.str b u) (s:=s);refine u9 z ?_;have d:(s.heap.push {cls:=.type "tuple",data:=.seq #[.str a t,.str b u]}).objs.size=s.heap.objs.size+1:=Jx ..;refine⟨_,[_,s.heap.objs.size],[_],_,_,_,_,rfl,Walks.tuple (A:=A.in1) G _ s.heap.objs.size (by rw[d];exact Y0 (Jk _)) #[.str a t,.str b u],
  ⟨⟨_,Yu _ rfl,rfl,rfl⟩,z.push _⟩,λc q=>?_,QS,r,λv g k H F=>?_⟩
 ·show c<((s.heap.push _).push _).objs.size;rw[Jx,d];rcases Yp.mp q with rfl|q;·rw[d];exact Jk _
  ·rw[Yq.mp q];exact Ws (Jk _)
 ·have l:∀c o,s.heap.get? c=Z o->g.get? c=Z o:=λc o e=>by
   refine F c o (λD=>?_) (Yb _ (Yb _ e));have:=Yt e;rw[Yq.mp D,d] at this;exact Wb _ (Nat.lt_of_succ_lt this)
  have m:(#[Value.str a t,Value.str b u]:c7 aY)[if f b a=af then 1 else 0]?=Z v:=H;obtain⟨t',J⟩:∃t',v=.str (if f b a=af then b else a) t':=by
   by_cases c:f b a=af
   ·rw[bt c] at m⊢;exact⟨u,by simpa using m.symm⟩
   ·rw[bu c] at m⊢;exact⟨t,by simpa using m.symm⟩
  subst J;exact h g k t' l
end
def Zcf(d:X.calm=af):dk X (.builtin "min") (λa H Q=>∃i j:ar,a=[.str i,.str j]/\Q (.str (sv i j)) H):=by
 intro b s e H a g Q I r h;obtain⟨i,j,rfl,q⟩:=h;obtain⟨u,f,rfl,⟨t,rfl⟩,⟨m,rfl⟩⟩:=vals2 r;exact call_min_two (PB (λx y=>decide (x.cps.toList<y.cps.toList)) (I.ok.hd d) (Zcd _ QV) λn l c k=>⟨.str (sv i j),H,I.kept k,⟨c,by unfold sv;simp[L6]⟩,q⟩)
def Zcg(d:X.calm=af):dk X (.builtin "max") (λa H Q=>∃i j:ar,a=[.str i,.str j]/\Q (.str (sy i j)) H):=by
 intro b s e H a g Q I r h;obtain⟨i,j,rfl,q⟩:=h;obtain⟨u,f,rfl,⟨t,rfl⟩,⟨m,rfl⟩⟩:=vals2 r;exact call_max_two (PB (λx y=>decide (y.cps.toList<x.cps.toList)) (I.ok.hd d) (Zce _ QV) λn l c k=>⟨.str (sy i j),H,I.kept k,⟨c,by unfold sy;simp[L6]⟩,q⟩)
def Zhv:bootBuiltins "max"=Z (.builtin "max"):=QK
def QW:cM X (binaryOp .Mult) (λx y H Q=>∃(z:ar) (n:Nat),x=.str z/\y=.int (n:Int)/\z.length<=100/\n<=100/\Q (.str (Txt.mul z (n:Int))) H):=by
 intro a s i H x y v u Q I d c h;obtain⟨z,n,rfl,rfl,e,f,q⟩:=h;obtain⟨t,rfl⟩:=d;obtain⟨j,rfl⟩:=c;have l:z.length*n<=10000:=Yy (vr e f) (by decide);refine PySem.SB.mul ⟨?_,λr _=>?_,λ_ _=>?_⟩ λb k=>⟨.str (Txt.mul z (n:Int)),H,I.tok k,⟨b,rfl⟩,q⟩;·rw[gb QO,gb QO];rfl
 ·have m:(1:Int)<=(n:Int):=QO
  intro g;have p:((2:Int)^63-1)/(n:Int)≥(2^63-1)/100:=by
   refine Int.le_ediv_of_mul_le QO ?_
   grind
  have o:((2:Int)^63-1)/100>100:=QD
  omega
 ·rw[Y6];exact gb (by rw[dw];exact VX (lg l (by decide)))
def iC:V->cm
 |.int _=>af
 |.str _=>af
 |_=>a7
def BR(h:iC x=af):jM x=af:=by cases x<;>first|rfl|cases h
theorem Zhw(d:iC x=af)(c:iC y=af):jx x y=decide (x=y):=by
 cases x with
 |int a=>
  cases y with
  |int b=>
   show(a==b)=_
   grind
  |str b=>rfl
  |_=>cases c
 |str a=>
  cases y with
  |int b=>rfl
  |str b=>
   show(a==b)=_
   grind
  |_=>cases c
 |_=>cases d
theorem Hu:∀{a b:O V},a.length=b.length->a.all iC=af->b.all iC=af->((List.range a.length).all λj=>jx (a.getD j .aA) (b.getD j .aA))=decide (a=b)
 |[],[],_,_,_=>rfl
 |[],_::_,h,_,_=>by simp at h
 |_::_,[],h,_,_=>by simp at h
 |x::a,y::b,h,d,c=>by
  rw[Ji,Wi] at d c;rw[Wf,List.range_succ_eq_map,Ji,L7];have e:((λj=>jx ((x::a).getD j .aA) ((y::b).getD j .aA))∘Nat.succ)=λj=>jx (a.getD j .aA) (b.getD j .aA):=rfl;rw[e,(Hu (by simpa using h) d.2 c.2)];show(jx x y&&_)=_;rw[Zhw d.1 c.1,Wm,Wi,eR,eR,eR,List.cons.injEq]
def Zjj(K:ai)(c:cm):R2:=λx y H Q=>∃(p q:U) (b a:O V),x=.ref p/\y=.ref q/\az K H p b/\az K H q a/\b.all iC=af/\a.all iC=af/\Q (.bl (if c=af then !decide (b=a) else decide (b=a))) H
theorem BU(r:Vals xs us):∀{j:Nat} (h:j<us.length),RelV (xs.getD j .aA) us[j]:=by
 induction r with
 |nil=>intro j h;cases h
 |cons f _ a=>
  intro j h;cases j with
  |zero=>exact f
  |succ j=>exact a (AS h)
def BV{a:O V}(f:a.all iC=af)(h:j<a.length):iC (a.getD j .aA)=af:=by
 grind
def Zhx{K:ai}(G:X.K=K)(F:X.A.units<cLine):cM X (compareOp .NotEq) (Zjj K af):=by
 subst G;intro m s R H x y v u Q I w t h;obtain⟨p,q,g,f,rfl,rfl,b,a,r,o,k⟩:=h;cases w;cases t;obtain⟨d,l,A,W⟩:=I.tuple b;obtain⟨c,i,z,T⟩:=I.tuple a;have C:=l.length;have B:=i.length;show wpAny _ _ (richCompare .NotEq _ _) _ _ _;refine DA (e:=λj=>jx (g.getD j .aA) (f.getD j .aA)) A z F (λj b a=>?_) _ _ _ _ (cO I k ?_)
 ·have E:j<d.length:=by simpa using b
  have D:j<c.length:=by simpa using a
  have L:=BU l E;have J:=BU i D;have P:d.toArray[j]=d[j]:=QS
  have N:c.toArray[j]=c[j]:=QS
  rw[P,N];exact I0 L J (BR (BV r QO)) (BR (BV o QO))
 ·rw[bt rfl,Yr,Yr,←C,←B];by_cases n:g.length=f.length
  ·rw[←n,Nat.min_self,Hu n r o];simp
  ·grind
def ZfN{K:ai}(h:X.K=K):sM X (Uu K):=h▸ZgC
def wQ(H:Hp)(b:O V)(u:aY):cm:=match u with
 |.ref a=>match H a with
  |some (.tup ys)=>decide (ys=b)
  |_=>a7
 |_=>a7
def Zjk(d:cm):R2:=λx y H Q=>∃(p q:U) (c:O V) (f:O U) (e:O (O V)),x=.ref p/\y=.ref q/\H p=Z (.tup c)/\c.all iC=af/\H q=Z (.lst (f.map V.ref))/\Paired (λa b=>H a=Z (.tup b)/\b.all iC=af) f e/\Q (.bl (if d=af then !e.any λb=>decide (b=c) else e.any λb=>decide (b=c))) H
def PD(h:H a=Z (.tup b)):wQ H xs (.ref a)=decide (b=xs):=by
 unfold wQ
 grind
theorem OP:∀{f:O U} {d:O (O V)} {c:O aY},Vals (f.map V.ref) c->Paired (λa b=>H a=Z (.tup b)/\b.all iC=af) f d->c.any (wQ H xs)=d.any λb=>decide (b=xs)
 |_,_,_,v,.nil=>by cases v;rfl
 |a::f,b::d,c,v,.cons e p=>by
  cases v with
  |cons r t=>
   cases r;rw[Ja,Ja,PD e.1,OP t p]
theorem OQ{H:Hp}:∀{f:O U} {g:O (O V)} {d:O aY},Vals (f.map V.ref) d->Paired (λa b=>H a=Z (.tup b)/\b.all iC=af) f g->∀u∈d,∃a b,u=.ref a/\H a=Z (.tup b)/\b.all iC=af
 |_,_,_,v,.nil=>by cases v;intro u c;cases c
 |a::f,b::g,d,v,.cons e p=>by
  cases v with
  |cons r t=>
   cases r;intro u c;rcases Yp.mp c with rfl|c;·grind
   ·exact OQ t p u c
def Zer(v:X.A.units+1<cLine)(I:Inv X pins σ H s)(g:H p=Z (.tup xs))(m:xs.all iC=af)(b:H a=Z (.tup c))(l:c.all iC=af):SeqAt.EqAt X.A.in1 s (.ref a) (.ref p) (decide (c=xs)):=by
 by_cases e:a=p
 ·subst e;have:c=xs:=by
   rw[g] at b;injection b with b;injection b with b;exact b.symm
  rw[dg this];exact SF _
 obtain⟨f,i,o,D⟩:=I.tuple (az.of b);obtain⟨d,h,n,C⟩:=I.tuple (az.of g);have r:=i.length;have q:=h.length;refine u_ e ?_;have E:=SeqAt.RcAt.tuples (A:=X.A.in1) (e:=λj=>jx (c.getD j .aA) (xs.getD j .aA)) o n v (λj g b=>?_)
 ·have w:((List.range (min f.toArray.size d.toArray.size)).all (λj=>jx (c.getD j .aA) (xs.getD j .aA))&&f.toArray.size==d.toArray.size)=decide (c=xs):=by
   rw[Yr,Yr,←r,←q];by_cases k:c.length=xs.length
   ·rw[←k,Nat.min_self,Hu k l m];simp
   ·grind
  rwa[←w]
 ·have u:j<f.length:=by simpa using g
  have t:j<d.length:=by simpa using b
  have y:=BU i u;have x:=BU h t;have B:f.toArray[j]=f[j]:=QS
  have z:d.toArray[j]=d[j]:=QS
  rw[B,z];exact I0 y x (BR (BV l QO)) (BR (BV m QO))
def Zdl(l:X.A.units+1<cLine):cM X (compareOp .NotIn) (Zjk af):=by
 rintro d s z H x y v u Q I h g ⟨p,q,b,D,B,rfl,rfl,n,t,m,c,k⟩;cases h;cases g;obtain⟨f,r,i,C⟩:=I.list (aq.of m);refine JB (wQ H b) i.isList (λw j=>?_) ⟨.bl _,H,I,rfl,?_⟩
 ·obtain⟨a,A,rfl,e,o⟩:=OQ r c w (by simpa using j);rw[PD e];exact Zer l I n t e o
 ·rw[show f.toArray.any (wQ H b)=f.any (wQ H b) by simp,OP r c];exact k
def xJ(g:Nat->aY):Nat->Nat->O aY
 |0,_=>[]
 |n+1,i=>g i::xJ g n (i+1)
theorem JO(g:Nat->aY):∀(b:O aY) (i:Nat),(∀k,b[k]?=Z (g (i+k))\/b.length<=k)->b=xJ g b.length i
 |[],_,_=>rfl
 |a::r,i,h=>by
  have e:a=g i:=by
   rcases h 0 with z|z;·grind
   ·cases z
  refine congr (dJ _ e) (JO g r (i+1) λk=>?_);have:=h (k+1)
  grind
inductive bY(K:ai)(x:ar)(b:cb)(f:U):Prop
 |mk {g m:bS U} {e:c7 (bS aY)} {h kV i pm d j:aY} (a:nsIn K mainGlobals x=Z (Z (.ref f))) (l:K.lookup f=Z ⟨h,g,.func (fnOf x x (l_ b) (jd b) (aH b) .none kV i pm m d j),e⟩) (c:codeIn K d x=af) (k:keepIn K (.ref f)=af):bY K x b f
inductive cR(K:ai)(C:U)(x q:ar)(d:cb)(f:U):Prop
 |mk {h n:bS U} {g:c7 (bS aY)} {i kV j pm e m:aY} (a:PySem.W.findIn K (.ref C) x=Z (Z (.ref f))) (b:isFn K (.ref f)=af) (l:K.lookup f=Z ⟨i,h,.func (fnOf x q (l_ d) (jd d) (aH d) .none kV j pm n e m),g⟩) (c:codeIn K e q=af) (k:keepIn K (.ref f)=af):cR K C x q d f
inductive kF(P:de)(w:c5)(K:ai)(b:aV)(a:cY):Prop
 |mk {h:cY} (X:K.In h) (G:h.Ns mainGlobals b):kF P w K b a
abbrev nZ(x q:ar)(a:cb)(b:O ar):Prop:=∀(kV c pm:aY) (f:bS U) (e d:aY) (g:Nat->aY),bindArgs (fnOf x q (l_ a) (jd a) (aH a) .none kV c pm f e d) ⟨xJ g b.length 0,[]⟩=pure (b.zip (xJ g b.length 0))
def nZ.at{x q:ar}{c:cb}{d:O ar}(b:nZ x q c d)(h f g:aY)(l:bS U)(j i:aY)(a:O aY)(m:a.length=d.length):bindArgs (fnOf x q (l_ c) (jd c) (aH c) .none h f g l j i) ⟨a,[]⟩=pure (d.zip a):=by
 have e:=JO (λk=>a.getD k .none) a 0 λk=>by
  grind
 grind
section
variable {P:de}{w:c5}{K:ai}{T:aV}{W:cY}{C f:U}{x q:ar}{st:cb}{ps:O ar}{n:Nat}{R:Sp}
def kF.p(D:kF P w K T W)(p:bY K x st f)(b:nZ x x st ps:=by intro _ _ _ _ _ _ _;rfl):∃d,aM K x x st f d/\Binds K d ps []/\keepIn K (.ref f)=af/\T x=Z (.ref f):=by
 obtain⟨X,G⟩:=D;obtain⟨a,l,c,k⟩:=p;exact⟨_,yY l c k,(yY l c k).binds (nZ.at b),k,hT X G a⟩
def kF.d(D:kF P w K T W)(p:bY K x st f)(o:∀a,aM K x x st f a->aF P w K T W aL n f a ps R)(b:nZ x x st ps:=by intro _ _ _ _ _ _ _;rfl):HasFn P w K T W n x ps R:=by
 obtain⟨a,F,b,k,m⟩:=D.p p b;exact⟨f,a,o _ F,b,k,m⟩
def cR.p(p:cR K C x q st f)(b:nZ x q st ps):∃d,aM K x q st f d/\Binds K d ps []/\Meth K C x f/\PySem.W.findIn K (.ref C) x=Z (Z (.ref f))/\isFn K (.ref f)=af:=by
 obtain⟨a,e,l,c,k⟩:=p;exact⟨_,yY l c k,(yY l c k).binds (nZ.at b),⟨a,e,k⟩,a,e⟩
def kF.m(_:kF P w K T W)(c:ir K C)(p:cR K C x q st f)(o:∀a,aM K x q st f a->aF P w K T W aL n f a ps R)(b:nZ x q st ps:=by intro _ _ _ _ _ _ _;rfl):bZ P w K T W n x C ps R:=by
 obtain⟨a,F,b,m,_,_⟩:=p.p b;exact⟨f,a,c,m,o _ F,b⟩
def kF.mX(_:kF P w K T W)(c:ir K C)(p:cR K C x q st f)(o:∀a,aM K x q st f a->aF P w K T W (sN P w) n f a ps R)(b:nZ x q st ps:=by intro _ _ _ _ _ _ _;rfl):Ce P w K T W n x C ps R:=by
 obtain⟨a,F,b,m,_,_⟩:=p.p b;exact⟨f,a,c,m,o _ F,b⟩
def kF.i(_:kF P w K T W){y:ar}(m:T y=Z (.ref C))(g:makesIn K C=af)(d:keepIn K (.ref C)=af)(p:cR K C "__init__" q st f)(o:∀c,aM K "__init__" q st f c->aF P w K T W aL n f c ps R)(b:nZ "__init__" q st ps:=by intro _ _ _ _ _ _ _;rfl):wN P w K T W n y C ps R:=by
 obtain⟨c,F,b,_,a,e⟩:=p.p b;exact⟨f,c,⟨g,a,e,d⟩,o _ F,b,m⟩
end
end L2
namespace L2
open PySem PySem.Spec PyProof.Rows
section
variable {X:Cx}
def bV(i:Nat){x:ar}{e:cP}{c:TE}{b a:Pos}(k:X.N.Nodup)(j:PE X e c)(g:X.N[i]?=Z x:=by rfl)(d:Loc X.env.scope x:=by exact fb rfl)(f:swapsWith e (Z (.Name x a)) b.line X.env=pure a7:=by rfl)
  (h:X.fn x=af\/X.env.scope.names.lookup x=Z .local:=by first|exact .inl rfl|exact .inr rfl|assumption):PS X (.Assign [.Name x a] e b) (uv c (qv i)):=h_ k g d j f h
def bc(i:Nat){x:ar}{a:Pos}(e:X.N.Nodup)(c:X.N[i]?=Z x:=by rfl)(b:Loc X.env.scope x:=by exact fb rfl)
  (d:X.fn x=af\/X.env.scope.names.lookup x=Z .local:=by first|exact .inl rfl|exact .inr rfl|assumption):PG X (.Name x a) (qv i):=rR e c b d
def pF(K:ai)(i:Nat){x f:ar}{p a:Pos}(h:X.K=K:=by rfl)(e:X.N[i]?=Z x:=by rfl)(b:uL X.env.scope x:=by first|exact fb rfl|exact kv (fb rfl)|exact kv (kv rfl))(c:(x==("__debug__":ar))=a7:=by decide)
  (g:(x==("__classdict__":ar))=a7:=by decide)(d:attributeBase (.Name x p) f X.env (eval (.Name x p) X.env)=eval (.Name x p) X.env:=QR):PE X (.Attribute (.Name x p) f a) (KJ K (fU i) f):=wA h (pv i e b c g) d
def aZ{k j:Nat}{x:ar}{c:O ar}{b:Sp}{p a:Pos}{e:cP}{es:O cP}{t:TA}(h:HasFn X.prog X.w X.K X.mg X.base k x c b)(d:cW j X.A)(l:PA X (e::es) t)(f:k<=j:=by omega)(g:Gl X x:=by rfl)
  (m:(x==("__debug__":ar))=a7:=by decide)(i:kz X e es:=by rfl)(n:lC X a es:=by rfl):
  PE X (.Call (.Name x p) (e::es) [] a) (Cq b [] E0 t):=Ki h d f g l m i n
def a_{r:R2}{a b:cP}{e d:TE}{c:Pos}(g:jw X r)(i:PE X a e)(h:PE X b d)(f:Qu b:=by exact λ_ _=>rfl):PE X (.Subscript a b c) (ju r e d):=Ti g i h f
end
section
variable {P:de}{w:c5}{K:ai}{W:aV}{X:cY}
def aM.o{x b:ar}{e:cb}{f:U}{j:FuncData}{N g:O ar}{k:Nat}{sp:Sp}(F:aM K x b e f j)(a:aP N g (aH e))
  (m:∀{l:aY} {A:d6} {c:O Env} {d:O V} {Q:VK} {E:XK} (s:bR) (H:Hp),cW k (A.deeper (envOfC b (aH e) s.heap.objs.size f l))->sp d H Q E->
   ∃t,fW (kZ aL P w K W X N b (aH e) f l A c s H E).oX (jd e) t/\t {nx:=λ_ n=>Q .aA n,rt:=Q} (start N d) H)
  (i:∀d H Q E,sp d H Q E->d.length=g.length:=by intro d H Q E h;first|(cases h;subst_vars;rfl)|((repeat obtain⟨_,h⟩:=h);subst_vars;rfl)):aF P w K W X aL (k+1) f j g sp:=F.ok a i λ_ _ _ s H _ _ _=>m s H
end
def aP.a8{N P:O ar}{sc:Scope}(a:sc.kind=.function:=by rfl)(b:sc.isCoroutine=a7:=by rfl)(c:sc.isGenerator=a7:=by rfl)(d:N.Nodup:=by decide+kernel)(e:N.take P.length=P:=by rfl)(f:∀x∈P,sc.names.lookup x=Z .local\/sc.names.lookup x=Z .cell:=by decide+kernel)(g:∀y∈sc.names,y.2≠.free:=by decide+kernel):aP N P sc:=⟨a,b,c,d,e,f,g⟩
def yB.gW{X:Cx}{h:Scope}{cl:O (ar×U)}{x:ar}{fr:O (ar×Nat)}(i:rS X.env.cells cl)(j:rT X h cl fr)(a:closureFor h X.env=pure cl:=by with_unfolding_all rfl)(b:h.kind=.function:=by rfl)(c:∀y∈h.names,y.2=.local->h.names.lookup y.1=Z .local:=by decide+kernel)(d:h.names.lookup x=Z .local:=by rfl)
  (e:∀y∈h.names,y.2≠.cell:=by decide+kernel)(f:(h.names.all λy=>!(y.2==.free)||(cl.lookup y.1).isSome)=af:=by rfl)(g:(x::fr.map (·.1)).Nodup:=by decide+kernel):yB X h cl x fr:=⟨a,i,b,c,d,e,f,j,g⟩
def rH.gW{X:Cx}{d:Scope}{cl:O (ar×U)}{i:O ar}{fr:O (ar×Nat)}(h:rS X.env.cells cl)(j:rT X d cl fr)(a:closureFor d X.env=pure cl:=by with_unfolding_all rfl)(b:d.kind=.function:=by rfl)(c:∀y∈d.names,y.2=.local->d.names.lookup y.1=Z .local:=by decide+kernel)
  (e:∀y∈d.names,y.2≠.cell:=by decide+kernel)(f:(d.names.all λy=>!(y.2==.free)||(cl.lookup y.1).isSome)=af:=by rfl)(g:(i++fr.map (·.1)).Nodup:=by decide+kernel):rH X d cl i fr:=⟨a,h,b,c,e,f,j,g⟩
end L2
namespace L2
open PySem PySem.W PySem.Spec PyProof.Rows
inductive sQ(K:ai):O ar->Prop
 |nil:sQ K []
 |cons {x:ar} {l:O ar} (h:nsIn K mainGlobals x=Z aE) (t:sQ K l):sQ K (x::l)
theorem sQ.at{K:ai}{x:ar}:∀{l:O ar},sQ K l->x∈l->nsIn K mainGlobals x=Z aE
 |_,.cons h t,m=>by
  cases m with
  |head=>exact h
  |tail _ m=>exact t.at m
def sQ.bl{K:ai}(z:sQ K ["len","abs","list","range","tuple","any","all","isinstance","bool","int","str","sorted","min","max","sum","dict","reversed","ValueError"])(X:K.In h)(G:h.Ns mainGlobals mg):Bl mg:=by
 constructor<;>exact PySem.W.mg_none_of X G (z.at QD)
inductive Ah(K:ai)(x:ar)(C:U):Prop
 |mk (a:nsIn K mainGlobals x=Z (Z (.ref C))) (b:makesIn K C=af) (c:keepIn K (.ref C)=af):Ah K x C
def kF.j{P:de}{w:c5}{K:ai}{e:aV}{c:cY}{C f:U}{y q:ar}{d:cb}{ps:O ar}{n:Nat}{sp:Sp}(D:kF P w K e c)(g:Ah K y C)(p:cR K C "__init__" q d f)(o:∀h,aM K "__init__" q d f h->aF P w K e c aL n f h ps sp)(b:nZ "__init__" q d ps:=by intro _ _ _ _ _ _ _;rfl):wN P w K e c n y C ps sp:=by
 obtain⟨a,m,k⟩:=g;exact D.i (let⟨X,G⟩:=D;hT X G a) m k p o b
inductive Ai(K:ai)(x q:ar)(d:O U)(b:cb)(C f:U):Prop
 |mk {N t:U} {r n:ar} {bs sub:O aY} {k:O ar} {F:cm} {c:bS cm} {A:bS U} {y w v u s:bS aY} {o E i:bS U} {m g:c7 (bS aY)} {p kV B pm e D j z:aY} {h:Nat}
  (a:nsIn K mainGlobals x=Z (Z (.ref C))) (l:K.lookup C=Z (excClassObj r n C N bs (d.map Value.ref++qE) af k sub F c A y w v u s "ValueError.__new__"))
  (g1:PySem.W.findIn K (.ref C) "__getattribute__"=Z (Z (.builtin "BaseException.__getattribute__"))) (g2:PySem.W.findIn K (.ref C) "__getattr__"=Z aE) (g3:PySem.W.findIn K (.ref C) "__setattr__"=Z (Z (.builtin "object.__setattr__"))) (g4:PySem.W.findIn K (.ref C) "__class__"=Z (Z (.builtin "object.__class__")))
  (g5:specialIn K (.builtin "object.__class__") "__get__"=Z (Z (.builtin "getset_descriptor.__get__"))) (g6:takesIn K (.builtin "object.__class__")=Z af)
  (ci:PySem.W.findIn K (.ref C) "__init__"=Z (Z (.ref f))) (cn:isFn K (.ref f)=af) (ck:keepIn K (.ref C)=af)
  (fl:K.lookup f=Z ⟨p,o,.func (fnOf "__init__" q (l_ b) (jd b) (aH b) (.ref t) kV B pm E e D),m⟩) (fc:codeIn K e q=af) (fk:keepIn K (.ref f)=af) (ft:K.lookup t=Z ⟨j,i,.seq #[z] h,g⟩)
  (na:PySem.W.findIn K (.ref C) "word"=Z aE):Ai K x q d b C f
abbrev BdE(q:ar)(a:cb)(b:O ar):Prop:=∀(s:bR) (kV c pm i h:aY) (f:bS U) (d:c7 (bS aY)) (e:Nat) (t:U) (l:bS U) (k j:aY) (g:Nat->aY),s.heap.get? t=Z ⟨h,f,.seq #[i] e,d⟩->BindsTo s (fnOf "__init__" q (l_ a) (jd a) (aH a) (.ref t) kV c pm l k j) ⟨xJ g b.length 0,[]⟩ (b.zip (xJ g b.length 0))
def Ai.b{K:ai}{h:cY}{i:aV}{x q:ar}{n:O U}{c:cb}{C f:U}(p:Ai K x q n c C f)(X:K.In h)(G:h.Ns mainGlobals i)(ps:O ar)(b:BdE q c ps:=by intro _ _ _ _ _ _ _ _ _ _ _ _ _ _ z;exact BindsTo.of_defaults rfl z rfl rfl rfl):
  ∃m,zC K "__init__" q c f m/\Binds K m ps []/\dP K C/\w8 K C f/\i x=Z (.ref C)/\du K C "word":=by
 obtain⟨a,l,y,w,v,u,t,r,I,F,H,B,E,D,A,o⟩:=p;have d:dP K C:=⟨⟨_,_,_,_,n,_,_,_,_,_,_,_,_,_,_,l⟩,y,w,v,u,t,r⟩;refine⟨_,⟨⟨_,_,_,_,_,_,_,_,_,_,rfl,B,E⟩,D⟩,λs g J j=>?_,d,w8.of d I F H,hT X G a,o⟩;rw[Wc] at j⊢;have e:=JO (λk=>g.getD k .none) g 0 λk=>by
  grind
 rw[e,j];exact b s _ _ _ _ _ _ _ _ _ _ _ _ _ (J _ _ A)
end L2
namespace L2
open PySem PySem.Spec PyProof.Rows
section
variable {X:Cx}{a b e T:cP}{Q P R N:TE}{p W:Pos}
def di(K:ai)(i:Bl X.mg)(f:PE X e R)(h:X.K=K:=by rfl)(d:Gl X "len":=by rfl)(c:starEach [e] X.env=(a7,eval e X.env)::starEach [] X.env:=by rfl)(g:(backTo W (starEach [] X.env)).any (·.1)=a7:=QR):PE X (.Call (.Name "len" p) [e] [] W) (nQ (zB K) (ib R jr)):=iN (Zi4 h) d i.Cv B9 (aa f ae c) QD QD c g
def mS(K:ai)(k:Bl X.mg)(g:PE X e R)(i:PE X T N)(h:X.K=K:=by rfl)(f:Gl X "isinstance":=by rfl)(d:starEach [T] X.env=(a7,eval T X.env)::starEach [] X.env:=by rfl)(c:starEach [e,T] X.env=(a7,eval e X.env)::starEach [T] X.env:=by rfl)(j:(backTo W (starEach [T] X.env)).any (·.1)=a7:=by rfl):PE X (.Call (.Name "isinstance" p) [e,T] [] W) (nQ (CN K) (ib R (ib N jr))):=iN (Zfl h) f k.NC Nx (aa g (aa i ae d) c) QD QD c j
def iL(K:ai)(h:X.K=K:=by rfl):jw X (uy K):=ZdS h
def iT(K:ai)(h:X.K=K:=by rfl):jw X (CI K):=Zfk h
def bH{c:CmpOp}{r:R2}(d:cM X (compareOp c) r)(h:PE X a Q)(g:PE X b P)(f:behindInMarks c b=a7:=by exact RX _):PT X (.Compare a [c] [b] W) (Kg (ju r Q P)):=iO d h g f
def d7{c:CmpOp}{r:R2}(d:cM X (compareOp c) r)(h:PE X a Q)(g:PE X b P)(f:behindInMarks c b=a7:=by exact RX _):PE X (.Compare a [c] [b] W) (ju r Q P):=BI d h g f
end
def NK(I:Inv X pins σ H s)(i:A.units<cLine)(a:H p=Z (.lst xs))(b:H q=Z (.lst c))(n:xs.length≠c.length):SeqAt.EqAt A s (.ref p) (.ref q) a7:=by
 have ne:p≠q:=λe=>by
  rw[e,b] at a;injection a with e;injection e with e;exact n (by rw[e])
 obtain⟨r,f,h,k⟩:=I.list (aq.of a);obtain⟨o,d,g,j⟩:=I.list (aq.of b);have m:=f.length;have l:=d.length;exact u_ ne (SeqAt.RcAt.lists_lengths h.isList g.isList (by simp;omega) i)
def Zbm(m:(a==sysModules)=a7)(l:(b==sysModules)=a7)(c:s.TypeIs (.ref a) "dict")(d:s.TypeIs (.ref b) "dict")(r:s.heap.get? a=Z j)(f:j.data=.dict o u)(q:s.heap.get? b=Z i)(p:i.data=.dict g t)(n:o.size≠g.size)(k:A.units<cLine):SeqAt.RcAt A s (.ref a) (.ref b) a7:=λe w E Q h=>by
 refine wpAny_richCompare_same_room (op:=.Eq) c d slot_dict_eq (nh slot_dict_eq c PySem.F.entry_dict_eq ?_ (PySem.F.args_dict_eq_2 _ _)) k;refine bh ?_;unfold Builtin.Dict.dictSlotArgs;refine bh (uY c ?_);refine cy ?_;refine bh (wpAny_isInstance d PySem.F.sub_dict_dict ?_);simp[Bool.not_true,V6,um];refine bh (cy (bh (cy ?_)));refine bh ?_;unfold Builtin.Dict.samePairs Builtin.Dict.showsAll;rw[bu (by rw[m];exact Yh),bu (by rw[l];exact Yh)];refine bh (cy (bh (cy ?_)));refine bh (tc r f ?_);dsimp;refine bh (tc q p ?_);rw[bt (by simpa using n)];refine bh (rb (cy ?_));refine cy ⟨_,rfl,?_,?_⟩;·exact λx=>nomatch x
 ·simpa using h
def Zbn(I:Inv X pins σ H s)(v:A.units<cLine)(g:H p=Z (.dK xs))(j:H q=Z (.dK m))(n:xs.length≠m.length):SeqAt.EqAt A s (.ref p) (.ref q) a7:=by
 have ne:p≠q:=λe=>by
  rw[e,j] at g;injection g with e;injection e with e;exact n (by rw[e])
 obtain⟨_,F,b,i,l⟩:=mF I.ay g;obtain⟨_,f,a,h,k⟩:=mF I.ay j;have r:=l.typeIs;have o:=k.typeIs;obtain⟨L,B,N,E,_,t,z,d,_⟩:=l;obtain⟨J,u,G,D,_,C,y,c,_⟩:=k;have x:b.length=B.size:=by rw[←d.length];exact Wh
 have w:a.length=u.size:=by rw[←c.length];exact Wh
 have Q:=i.length;have P:=h.length;exact u_ ne (Zbm F f r o E t D C QO v)
def UN(K:ai):R2:=λ x y H Q=>∃ (p q f d h e c g:U) (l k:Int),x=.ref p/\y=.ref q/\az K H p [.ref f,.ref d,.ref h,.int l]/\az K H q [.ref e,.ref c,.ref g,.int k] /\
  ((f=e/\d=c/\h=g/\l=k/\Q (.bl a7) H)\/(f=e/\d=c/\(∃ b a,H h=Z (.lst b)/\H g=Z (.lst a)/\b.length≠a.length)/\Q (.bl af) H) \/
   ((∃ b a,H f=Z (.lst b)/\H e=Z (.lst a)/\b.length≠a.length)/\(∃ j i,H d=Z (.dK j)/\H c=Z (.dK i)/\j.length≠i.length)/\h=g/\Q (.bl af) H))
def Zhy{K:ai}(h:X.K=K)(R:X.A.units+1<cLine):cM X (compareOp .NotEq) (UN K):=by
 subst h;rintro P s σ H x y v u Q I rx ry ⟨p,q,i,g,r,e,N,W,c,d,rfl,rfl,m,T,k⟩;cases rx;cases ry;obtain⟨aj,r1,p1,z1⟩:=I.tuple m;obtain⟨eN,r2,p2,z2⟩:=I.tuple T;obtain⟨f,rfl⟩:∃t,aj=[.ref i,.ref g,.ref r,.int c t]:=by
  cases r1 with|cons a b=>cases b with|cons a2 b=>cases b with|cons F b=>cases b with|cons E b=>
   cases b;cases a;cases a2;cases F;obtain⟨t,rfl⟩:=E;exact⟨t,rfl⟩
 obtain⟨L,rfl⟩:∃t,eN=[.ref e,.ref N,.ref W,.int d t]:=by
  cases r2 with|cons a b=>cases b with|cons a2 b=>cases b with|cons F b=>cases b with|cons E b=>
   cases b;cases a;cases a2;cases F;obtain⟨t,rfl⟩:=E;exact⟨t,rfl⟩
 show wpAny _ _ (richCompare .NotEq _ _) _ _ _;have G:SeqAt.EqAt X.A.in1 s (.int c f) (.int d L) (c==d):=pT (A:=X.A.in1) (s:=s) c f d L;have J:X.A.in1.units<cLine:=R;have l:∀j,j<(#[Value.ref i,.ref g,.ref r,.int c f]:c7 aY).size->j=0\/j=1\/j=2\/j=3:=λj hj=>by
  have:j<4:=hj;omega
 have o:∀(D C B:cm),SeqAt.EqAt X.A.in1 s (.ref i) (.ref e) D->SeqAt.EqAt X.A.in1 s (.ref g) (.ref N) C->SeqAt.EqAt X.A.in1 s (.ref r) (.ref W) B->SeqAt.RcNeAt X.A s (.ref p) (.ref q) (!((List.range 4).all (λj=>if j=0 then D else if j=1 then C else if j=2 then B else(c==d))&&af)):=λD C B g1 g2 g3=>by
  refine DA p1 p2 (Nat.lt_of_add_lt_add_right (zi _ R)) λj m T=>?_;rcases l j m with rfl|rfl|rfl|rfl;·exact g1
  ·exact g2
  ·exact g3
  ·exact G
 rcases k with⟨rfl,rfl,rfl,rfl,k⟩|⟨rfl,rfl,⟨xs,ys,z,w,n⟩,k⟩|⟨⟨xs,ys,z,w,n⟩,⟨ks,ls,e3,e4,e⟩,rfl,k⟩;·exact o af af af (.same _) (.same _) (.same _) _ _ _ _ (cO I k (by simp[J8]))
 ·exact o af af a7 (.same _) (.same _) (NK I J z w n) _ _ _ _ (cO I k (by simp[J8]))
 ·exact o a7 a7 af (NK I J z w n) (Zbn I J e3 e4 e) (.same _) _ _ _ _ (cO I k (by simp[J8]))
end L2
namespace Ma
open PySem L2
variable {w:c5}{K:PySem.W.Frag}{B:ar->bS aY}{I:cY}{f C CL CJ:U}{fd:FuncData}
def top(i:Nat):cb:=PySem.Challenge.pw_kinhearth_k27_undone_and_redone.main.body.getD i (.Pass ⟨0,0,0,0⟩)
abbrev Hv:cb:=top 20
abbrev IH:cb:=top 21
abbrev Ie:cb:=top 22
abbrev JP:cb:=top 24
abbrev FR:cb:=top 26
abbrev FT:cb:=top 76
abbrev EW:cb:=top 77
abbrev Hw:cb:=top 78
abbrev GL:cb:=top 23
abbrev Ft:cb:=top 25
abbrev GN:cb:=top 2
abbrev Ig:cb:=top 35
abbrev GO:cb:=top 36
abbrev GP:cb:=top 39
abbrev Gb:cb:=top 40
abbrev Gd:cb:=top 41
abbrev Hx:cb:=top 48
abbrev E_:cb:=top 49
abbrev Ge:cb:=top 50
abbrev Gf:cb:=top 51
abbrev Fb:cb:=top 52
abbrev Fd:cb:=top 53
abbrev Fe:cb:=top 54
abbrev EX:cb:=top 55
abbrev Gg:cb:=top 69
abbrev Hy:cb:=top 71
abbrev Ob:cb:=top 80
abbrev NL:cb:=top 81
abbrev Oc:cb:=top 82
abbrev Hz:cb:=top 83
abbrev Fu:cb:=top 84
abbrev Gh:cb:=top 85
abbrev Gi:cb:=top 86
abbrev A8:cb:=top 87
abbrev GQ:cb:=top 88
abbrev Fv:cb:=top 89
abbrev GR:cb:=top 90
abbrev GU:cb:=top 91
abbrev Ih:cb:=top 92
abbrev GV:cb:=top 93
abbrev Gj:cb:=top 94
abbrev GW:cb:=top 95
abbrev GX:cb:=top 96
abbrev GY:cb:=top 97
abbrev HL:cb:=top 98
abbrev GZ:cb:=top 99
abbrev Gk:cb:=top 100
abbrev FU:cb:=top 101
abbrev G0:cb:=top 102
abbrev EE:cb:=top 103
abbrev ug:cb:=top 104
abbrev Gm:cb:=inClass (top 75) 0
abbrev Gn:cb:=inClass (top 75) 1
abbrev FV:cb:=inClass (top 57) 0
abbrev Gp:cb:=inClass (top 57) 1
abbrev Gq:cb:=inClass (top 57) 2
abbrev Gr:cb:=inClass (top 57) 3
abbrev EY:cb:=inClass (top 57) 4
abbrev FW:cb:=inClass (top 57) 5
abbrev EO:cb:=inClass (top 57) 6
abbrev Fw:cb:=inClass (top 57) 8
abbrev Ff:cb:=inClass (top 57) 12
abbrev Et:cb:=inClass (top 57) 13
abbrev FX:cb:=inClass (top 57) 14
abbrev Fx:cb:=inClass (top 68) 0
abbrev EZ:cb:=inClass (top 68) 1
abbrev FY:cb:=inClass (top 68) 2
abbrev FZ:cb:=inClass (top 68) 3
abbrev Fy:cb:=inClass (top 68) 4
abbrev Fz:cb:=inClass (top 68) 5
abbrev E1:cb:=inClass (top 68) 10
abbrev ER:cb:=inClass (top 68) 11
abbrev FA:cb:=inClass (top 68) 12
abbrev F0:cb:=inClass (top 68) 13
abbrev Ey:cb:=inClass (top 68) 17
abbrev Ew:cb:=inClass (top 68) 18
abbrev Fg:cb:=inClass (top 68) 19
abbrev ES:cb:=inClass (top 68) 20
abbrev Fh:cb:=inClass (top 68) 21
abbrev E2:cb:=inClass (top 68) 22
abbrev Ez:cb:=inClass (top 68) 23
abbrev EF:cb:=inClass (top 68) 24
abbrev EG:cb:=inClass (top 68) 16
abbrev EH:cb:=inClass (top 68) 8
abbrev EI:cb:=inClass (top 68) 9
abbrev FC:cb:=inClass (top 68) 6
abbrev FD:cb:=inClass (top 68) 7
abbrev E3:cb:=inClass (top 4) 0
abbrev EA:cb:=inClass (top 18) 0
abbrev TV:cb:=Ob
abbrev Ss:cb:=NL
abbrev TX:cb:=Oc
abbrev xK:O ar:=["self","word","why"]
def Zv:aP xK xK (aH E3):=.a8
def Zbo(F:zC K "__init__" "KinError.__init__" E3 f fd)(o:Bl B):aF P w K B I aL 1 f fd xK (TB K):=by
 refine F.ok Zv (λk H Q E h=>?_) (λr A d s H k Q E i h=>?_)
 ·obtain⟨a,C,b,y,rfl,_⟩:=h;rfl
 obtain⟨a,C,b,y,rfl,j,e,l,m,g,q⟩:=h;refine⟨_,(au (cv (Zd0 rfl o.ZaF (aa (pv 0) (aa (Pa (yD (K:=K) rfl (yG (pv 2) (λ_=>rfl))) (Zfs (IF (Sj i (pv 1)) (IF bo (IF (Sj i (pv 2)) ZgU)))) (pv 1)) ae)))) (av (Zfn (pv 0) (pv 1)))),?_⟩;refine hI ?_;intros;have fin:∀t:ar,JG K [.ref a,.str t] H λ_ H1=>Tr K (fU 0) (fU 1) "word" {nx:=λ_ p=>Q .aA p,rt:=Q} [Z (.ref a),Z (.str b),Z (.str y)] H1:=λt=>
  ⟨a,C,.str t,rfl,e,j,_,rfl,_,rfl,a,C,rfl,e,l,.inl ⟨j,q⟩⟩
 have n:(1000200:Nat)<=sizeLine:=by rw[dw];decide
 refine⟨_,rfl,_,rfl,_,⟨(dW g (by decide)),rfl⟩,?_⟩;refine bF (λc=>?_) (λc=>?_)
 ·refine⟨_,rfl,.inl ⟨b,rfl,(dW m (by decide)),b,rfl,?_,?_⟩⟩
  ·rw[lI];show 0+b.length<=sizeLine;omega
  refine⟨_,rfl,?_,?_⟩
  ·rw[lI,lI];show 0+b.length+2<=sizeLine;omega
  refine⟨_,rfl,.inl ⟨y,rfl,(dW g (by decide)),y,rfl,?_,?_,fin _⟩⟩
  ·rw[lI,lI,lI];show 0+b.length+2+y.length<=sizeLine;omega
  ·rw[lI,lI,lI];show 0+b.length+2+y.length<=sizeLine;omega
 ·exact⟨_,rfl,fin _⟩
def Za:aP xH xH (aH EA):=.a8
def ZW(F:zC K "__init__" "NothingLeft.__init__" EA f fd)(r:Kl K o "__init__" n)(d:aF P w K B I aL 1 n p xK (TB K))(t:Binds K p xK [])(i:B "KinError"=Z (.ref o))(e:dP K c)(j:du K c "word"):
  aF P w K B I aL 2 f fd xH (TC "nothing left" c):=by
 refine F.ok Za (λg H Q E h=>?_) (λu A b s H g Q E l h=>?_)
 ·obtain⟨a,y,rfl,_⟩:=h;rfl
 obtain⟨a,y,rfl,m,k,q⟩:=h;refine⟨_,(av (cv (ZdY r d (l.mono (by decide)) rfl i t .nil zg (aa (pv 0) (aa bo (aa (pv 1) ae)))))),?_⟩;exact⟨_,rfl,_,rfl,a,c,_,y,rfl,m,e,j,QD,k,q⟩
abbrev DL:O ar:=["_law_script","_law_k"]
def Zhz:aP DL DL (aH TV):=⟨rfl,rfl,rfl,QK,rfl,QK,QK⟩
def ZfO(F:aM K "_law_cell" "_law_cell" TV f fd)(j:B "len"=aE):aF P w K B I aL 1 f fd DL (Sb K):=by
 refine F.ok Zhz (λg H Q E h=>?_) (λn A b s H g Q E m h=>?_)
 ·obtain⟨a,i,k,rfl,_⟩:=h;rfl
 obtain⟨a,i,k,rfl,d,l,q⟩:=h;refine⟨_,au (aR (bH ny (pv 1) (iN NB rfl j B9 (aa (pv 0) ae))) (av (aG (Ti ID (pv 0) (pv 1) (λ_ _=>rfl)))) aX)
  (av (aG aI)),?_⟩
 refine⟨_,rfl,_,rfl,a,_,rfl,.inl d,_,_,rfl,rfl,_,rfl,?_⟩;refine bF (λc=>?_) (λc=>?_)
 ·have e:=eB c;rw[(Ya _)] at e;exact⟨_,rfl,_,rfl,a,_,_,_,rfl,rfl,d,oP l e,q _⟩
 ·exact q _
abbrev Aj:O ar:=["_law_cell_here","_law_parts"]
def qi:aP ["_law_cell_here","_law_parts","_law_one","_law_two","_law_six","_law_found","_law_part"] Aj (aH Ss):=⟨rfl,rfl,rfl,QK,rfl,QK,QK⟩
def Zes(F:aM K "_law_draws" "_law_draws" Ss f fd)(X:B "abs"=aE):aF P w K B I aL 1 f fd Aj (BM K):=by
 refine F.ok qi (λvs H Q E h=>?_) (λbM A D s H vs Q E hr h=>?_)
 ·obtain⟨c,a,v,rfl,_⟩:=h;rfl
 obtain⟨c,a,v,rfl,hS,J,hlen,q⟩:=h;refine⟨_,au (aR (bH ny (iN Pb rfl X R9 (aa (pv 0) ae)) (bj RV aI aI))
   (au (h_ (i:=2) qi.nd rfl (fb rfl) (bj eS (bj jg (bj ql (pv 0) aI) aI) aI))
   (au (h_ (i:=3) qi.nd rfl (fb rfl) (bj eS (bj jg (bj jg (bj ql (pv 2) (pv 2)) (bj ql aI (pv 2))) (pv 0)) aI))
   (au (h_ (i:=4) qi.nd rfl (fb rfl) (bj eS (bj jg (bj ql (pv 3) aI) (pv 2)) aI))
   (av (h_ (i:=0) qi.nd rfl (fb rfl) (bj jg (pv 3) (bj ql aI (bj jg (pv 4) (bj ql aI (pv 2))))))))))
   (av (h_ (i:=0) qi.nd rfl (fb rfl) (bj B6 (iN Pb rfl X R9 (aa (pv 0) ae)) (bj RV aI aI)))))
  (au (h_ (i:=5) qi.nd rfl (fb rfl) (yW ae))
  (au (ia gR rfl (Ql (pv 1)) (rR (i:=6) qi.nd rfl (fb rfl))
   (au (cv (kh hP jm jk yA (pv 5) (aa (bj eS (pv 0) (pv 6)) ae)))
   (av (h_ (i:=0) qi.nd rfl (fb rfl) (bj BG (pv 0) (pv 6))))))
  (av (aG (pv 5))))),?_⟩
 refine je (λm H'=>H'=H/\∃R j g d,m=[Z (.int R),Z (.ref a),j,g,d,aE,aE]) (λnx k=>?_) ?_
 ·refine⟨_,rfl,c,rfl,_,_,rfl,rfl,⟨QD,QD,QD⟩,_,_,rfl,rfl,_,rfl,?_⟩;refine bF (λ_=>?_) (λ_=>?_)
  ·refine⟨_,rfl,_,_,rfl,rfl,.inr ⟨QD,QD⟩,_,_,rfl,rfl,_,_,rfl,rfl,(by show(0:Int)<2147483647;decide),?_⟩;refine⟨_,rfl,_,rfl,_,_,rfl,rfl,.inl (ZgL _ QD QD),_,rfl,_,_,rfl,rfl,.inl ⟨QD,QD⟩,_,_,rfl,rfl,_,rfl,_,_,rfl,rfl,_,_,rfl,rfl,(by show(0:Int)<2147483399;decide),?_⟩;refine⟨_,rfl,_,_,rfl,rfl,.inr ⟨QD,QD⟩,_,rfl,_,_,rfl,rfl,_,_,rfl,rfl,(by show(0:Int)<1000000007;decide),?_⟩;refine⟨_,rfl,_,rfl,_,rfl,_,_,rfl,rfl,.inl ⟨QD,QD⟩,_,_,rfl,rfl,_,_,rfl,rfl,.inl ⟨QD,QD⟩,_,_,rfl,rfl,k _ _ ⟨rfl,_,_,_,_,rfl⟩⟩
  ·exact⟨_,rfl,c,rfl,_,_,rfl,rfl,⟨QD,QD,QD⟩,_,_,rfl,rfl,k _ _ ⟨rfl,_,_,_,_,rfl⟩⟩
 ·rintro m T ⟨rfl,R,j,g,d,rfl⟩;refine⟨(by show 0<=sizeLine;decide),λl N=>?_⟩;have W:ak T (upd T l (.lst [])):=cF N _;refine⟨_,rfl,a,rfl,⟨_,W.seq hS⟩,lZ (K:=K) (a:=a) (xs:=v.map V.int) (λi m r=>∃c j g d G n,m=[Z (.int c),Z (.ref a),j,g,d,Z (.ref l),G]/\ak T r/\r l=Z (.lst (n.map V.int))/\Paired Bd n (v.take i))
   ⟨R,j,g,d,aE,[],rfl,W,aT,by rw[vt];exact .nil⟩ (λi m r _ ⟨_,_,_,_,_,_,_,t,_⟩=>t.seq hS) ?_ ?_⟩
  ·rintro i y m r hi ⟨c,j,g,d,G,n,rfl,t,z,u⟩;obtain⟨p,rfl,L⟩:=m_ hi;have d5:i<v.length:=(Yl.mp L).1;obtain⟨x,p1⟩:=J p (Yj L);have dl:=u.length;rw[Wa] at dl;refine⟨_,rfl,.inl ⟨rfl,_,aq.of z⟩,_,rfl,_,rfl,_,_,rfl,rfl,x,l,_,_,rfl,rfl,z,(by rw[Ya];exact kO QO),?_⟩;refine⟨_,rfl,_,rfl,_,_,rfl,rfl,⟨x,p1⟩,?_⟩;refine⟨_,j,g,d,_,n++[c % p],rfl,λb o e=>?_,?_,?_⟩
   ·rw[aN (cE e N)];exact t b o e
   ·rw[aT,Pg]
   ·rw[Y3,L];exact u.snoc ⟨W7 _ (LL x),Ww _ x⟩
  ·rintro m r ⟨c,j,g,d,G,n,rfl,t,z,u⟩;rw[Ya,Wg] at u;exact⟨_,rfl,q l n r N t z u⟩
abbrev Mb:O ar:=["_law_code","_law_size"]
def y_:aP ["_law_code","_law_size","_law_free","_law_found","_law_k"] Mb (aH TX):=⟨rfl,rfl,rfl,QK,rfl,QK,QK⟩
def ZfP(F:aM K "_law_turn" "_law_turn" TX f fd)(mL:B "list"=aE)(G:B "range"=aE)(mT:B "tuple"=aE):aF P w K B I aL 1 f fd Mb Se:=by
 refine F.ok y_ (λW H Q E h=>?_) (λbM A v s H W Q E hr h=>?_)
 ·obtain⟨c,n,rfl,_⟩:=h;rfl
 obtain⟨c,n,rfl,hn,q⟩:=h;refine⟨_,au (h_ (i:=2) y_.nd rfl (fb rfl) (fL (Fq rfl) rfl mL wz (aa (fL A2 rfl G wk (aa (pv 1) ae)) ae)))
  (au (h_ (i:=3) y_.nd rfl (fb rfl) (yW ae))
  (au (ia gR rfl (pZ rfl G (aa (pv 1) ae)) (rR (i:=4) y_.nd rfl (fb rfl))
   (au (cv (kh hP jm jk yA (pv 3) (aa (kh hP rn vA ZdN (pv 2) (aa (bj eS (pv 0) (bj B6 (pv 1) (pv 4))) ae)) ae)))
   (av (h_ (i:=0) y_.nd rfl (fb rfl) (bj BG (pv 0) (bj B6 (pv 1) (pv 4)))))))
  (av (aG (fL vJ rfl mT oH (aa (pv 3) ae)))))),?_⟩
 refine⟨_,rfl,_,rfl,λr X=>?_⟩;refine⟨r,n,rfl,aT,(dW hn (by decide)),λu J=>?_⟩;refine⟨(by show 0<=sizeLine;decide),λl y=>?_⟩;have T:ak H (upd H r (.ku 0 (n:Int))):=cF X _;have R:=T.trans (cF J (.lst ((bG n).map V.int)));have g3:=R.trans (cF y (.lst []));have D:=cE aT y;refine⟨_,rfl,(n:Int),rfl,QO,QO,Bg (λi k d=>∃c x a fs,k=[Z (.int c),Z (.int (n:Int)),Z (.ref u),Z (.ref l),x]/\ak H d/\d u=Z (.lst (fs.map V.int))/\d l=Z (.lst (a.map V.int))/\(a++fs).Perm (bG n)/\a.length=i)
  ⟨c,aE,[],bG n,rfl,g3,by rw[aN D];exact aT,aT,by rw[WC],rfl⟩ ?_ ?_⟩
 ·rintro i k d hi ⟨c,x,a,fs,rfl,g,z,m,pm,dl⟩;have p:=pm.length_eq;rw[Yd,fK,dl] at p;have j:(0:Int)<(n:Int)-(0+(i:Int)):=QO
  have m0:=W7 c (LL j);have m1:=Ww c j;have N:(c % ((n:Int)-(0+(i:Int)))).toNat<fs.length:=QO
  refine⟨_,rfl,.inl ⟨rfl,_,aq.of m⟩,_,rfl,.inl ⟨rfl,_,aq.of z⟩,_,rfl,_,rfl,_,rfl,_,_,rfl,rfl,_,_,rfl,rfl,j,u,_,_,_,.int fs[(c % ((n:Int)-(0+(i:Int)))).toNat],rfl,rfl,z,QO,QO,((IB (JD m0 (by rw[Ya];omega))).1),by rw[Yf,Yc N];rfl,?_⟩;refine⟨l,_,_,rfl,rfl,by rwa[aN D.symm],(by rw[Ya];exact kO QO),?_⟩;refine⟨_,rfl,_,rfl,_,rfl,_,_,rfl,rfl,_,_,rfl,rfl,⟨j,QO⟩,?_⟩;refine⟨_,_,a++[fs[(c % ((n:Int)-(0+(i:Int)))).toNat]],fs.eraseIdx (c % ((n:Int)-(0+(i:Int)))).toNat,rfl,λb o e=>?_,?_,?_,?_,?_⟩
  ·have nl:=cE (R b o e) y;have nu:=cE (T b o e) J;rw[aN nl,aN nu];exact g b o e
  ·rw[aN D,aT,OB]
  ·rw[aT,Pg]
  ·refine List.Perm.trans ?_ pm;rw[Jt];refine List.Perm.append_left a ?_;exact(NZ fs _ N).symm
  ·rw[Yd,List.length_singleton,dl]
 ·rintro k d ⟨c,x,a,fs,rfl,g,z,m,pm,dl⟩;have p:=pm.length_eq;rw[Yd,fK,dl] at p;have e:fs=[]:=List.eq_nil_of_length_eq_zero QO;rw[e,Wc] at pm;refine⟨_,rfl,l,_,rfl,.inl ⟨aq.of m,λt L=>?_⟩⟩;exact q t a _ (g.free L) (g.trans (cF L _)) aT pm
def ZfQ(h:Paired Bd ds [a,b,c,d,e]):∃v w x y z,ds=[v,w,x,y,z]/\Bd v a/\Bd w b/\Bd x c/\Bd y d/\Bd z e:=by
 cases h with|cons l h=>cases h with|cons k h=>cases h with|cons j h=>cases h with|cons i h=>cases h with|cons g h=>
  cases h
  grind
def aU(h:q (σ.set i (Z x)) H):qv i x σ H q:=h
def Su{K:ai}{H:Hp}{p:U}{b:O V}{i:Nat}{x:V}{Q:VK}(a:aq K H p b\/az K H p b)(h:b[i]?=Z x)(q:Q x H):LA K (.ref p) (.int (0+(i:Int))) H Q:=by
 rcases a with a|a;·exact .inl ⟨p,_,_,_,rfl,rfl,a,Pl h,q⟩
 ·exact .inr (.inl ⟨p,_,_,_,rfl,rfl,a,Pl h,q⟩)
def Bv(v:V):decide (v=v)=af:=dg rfl
theorem all_true(n:Nat):(List.replicate n af).all id=af:=by
 induction n with
 |zero=>rfl
 |succ n a=>rw[List.replicate_succ,Ji,a];rfl
inductive PF(m:Nat)(a:O V)(H:Hp)(Q:VK):Prop
 |mk (x y:V) (d:Dt) (k:Nat) (i:a=[x,y]) (h:m=k+1) (e:At H k x d) (g:At H k y d) (c:∀b,ak H b->Q (.bl af) b):PF m a H Q
def qr(m:Nat):Sp:=λa H Q _=>PF m a H Q
section
variable {K:ai}{X:aV}
abbrev mU:O ar:=["_law_found","_law_due"]
def Zbp:aP mU mU (aH A8):=.a8
theorem Zet(F:aM K "_law_same" "_law_same" A8 f fd)(jH:HasFn P w K X I n "_law_same" mU (qr n))(j:Bl X):aF P w K X I aL (n+1) f fd mU (qr (n+1)):=by
 refine F.o Zbp λs H hr h=>?_;obtain⟨x,y,d,k,rfl,ek,l,u,q⟩:=h;obtain rfl:k=n:=(lX (Nat.add_right_cancel ek))
 have hu:=hr.qm;refine⟨_,(au (aR (bH B7 (pv 1) mj) (av (aG (d7 B7 (pv 0) mj))) aX) (au (aR (dN (mS K j (pv 1) (mE rfl j.Ca BK))) (av (aG (qk (mS K j (pv 0) (mE rfl j.Ca BK)) (kW (d7 cD (pv 0) (pv 1)))))) aX) (au (aR (dN (mS K j (pv 1) (mE rfl j.Tx Sa))) (av (aG (qk (mS K j (pv 0) (mE rfl j.Tx Sa)) (qk (Zgv (mS K j (pv 0) (mE rfl j.Ca BK))) (kW (d7 cD (pv 0) (pv 1))))))) aX) (au (aR (dN (mS K j (pv 1) (mE rfl j.zk yZ))) (av (aG (qk (mS K j (pv 0) (mE rfl j.zk yZ)) (kW (d7 cD (pv 0) (pv 1)))))) aX) (au (aR (PW.pt (pw_or (bH nv (mS K j (pv 1) (mE rfl j.wG wz)) (mS K j (pv 0) (mE rfl j.wG wz))) (pw_or1 (bH nv (mS K j (pv 1) (mE rfl j.oK oH)) (mS K j (pv 0) (mE rfl j.oK oH)))))) (av (aG gP)) aX) (au (aR (bH nv (di K j (pv 0)) (di K j (pv 1))) (av (aG gP)) aX) (av (aG (iN (UE (K:=K) rfl rfl) rfl j.Tw R_ (aa (jK (x:="_law_k") (fr:=[("_law_found",0),("_law_due",1)]) (cl:=[("_law_found",s.heap.objs.size+1),("_law_due",s.heap.objs.size+1+1)]) rfl (.gW ⟨rfl,⟨rfl,trivial⟩⟩ ⟨⟨rfl,.inl rfl,.inl rfl,rfl⟩,⟨⟨rfl,.inl rfl,.inl rfl,rfl⟩,trivial⟩⟩) (pZ rfl j.ke (aa (di K j (pv 1)) ae)) (λ_ _ _ _=>mf) (λ_ _ _ _=>(Ki jH hr (mz _) rfl (aa (a_ (QE (K:=K) rfl) (pv 1) (pv 0)) (aa (a_ (QE (K:=K) rfl) (pv 2) (pv 0)) ae))))) ae)))))))))),?_⟩;refine zm ?_;intros;have sq:(∃(p r:U) (A v:O V) (G:O Dt) (t:aY) (b1 b2:cm) (m:Nat),x=.ref p/\y=.ref r/\jQ K H (.ref p) t/\jQ K H (.ref r) t/\kitOne K t (.type "bool")=Z a7/\kitOne K t (.type "int")=Z a7/\kitOne K t (.type "str")=Z a7/\
   kitOne K t (.type "list")=Z b1/\kitOne K t (.type "tuple")=Z b2/\(aq K H p A\/az K H p A)/\(aq K H r v\/az K H r v)/\G.length<=1000/\Paired (At H m) A G/\Paired (At H m) v G/\k=m+1)\/
   (x=.aA/\y=.aA)\/(∃b,x=.bl b/\y=.bl b)\/(∃i,x=.int i/\y=.int i)\/∃z,x=.str z/\y=.str z:=by
  cases d with
  |aA=>unfold At at l u;exact .inr (.inl ⟨l,u⟩)
  |bl b=>unfold At at l u;exact .inr (.inr (.inl ⟨b,l,u⟩))
  |int i=>unfold At at l u;exact .inr (.inr (.inr (.inl ⟨i,l,u⟩)))
  |str z=>unfold At at l u;exact .inr (.inr (.inr (.inr ⟨z,l,u⟩)))
  |lst G=>
   cases k with
   |zero=>unfold At at l;exact l.elim
   |succ m=>
    unfold At at l u;obtain⟨a,A,e0,J,lz,Q⟩:=l;obtain⟨b,v,Me,E,_,N⟩:=u;exact .inl ⟨a,b,A,v,G,.type "list",af,a7,m,e0,Me,.lst J,.lst E,ZgY,ZgZ,Zg0,Zg1,Zg2,.inl (aq.of J),.inl (aq.of E),lz,Q,N,rfl⟩
  |tup G=>
   cases k with
   |zero=>unfold At at l;exact l.elim
   |succ m=>
    unfold At at l u;obtain⟨a,A,e0,J,lz,Q⟩:=l;obtain⟨b,v,Me,E,_,N⟩:=u;exact .inl ⟨a,b,A,v,G,.type "tuple",a7,af,m,e0,Me,.tup J,.tup E,Zg3,Zg4,Zg5,Zg6,Zg7,.inr (az.of J),.inr (az.of E),lz,Q,N,rfl⟩
 clear l u;rcases sq with⟨p,r,A,v,G,t,b1,b2,m,rfl,rfl,T1,T,kb,ki,ksr,kl,kt,hp,hq,hz,Q,N,ek⟩|⟨rfl,rfl⟩|⟨b,rfl,rfl⟩|⟨i,rfl,rfl⟩|⟨z,rfl,rfl⟩
 ·have l1:=cK Q;have l2:=cK N;refine⟨_,rfl,rfl,_,rfl,?_⟩;refine bF (λc=>absurd (eB c) (λz=>nomatch z)) (λ_=>aS ?_);refine⟨_,rfl,_,_,_,a7,rfl,T,kb,_,rfl,bQ (aS ?_)⟩;refine⟨_,rfl,_,_,_,a7,rfl,T,ki,_,rfl,bQ (aS ?_)⟩;refine⟨_,rfl,_,_,_,a7,rfl,T,ksr,_,rfl,bQ (aS ?_)⟩;refine⟨_,rfl,_,_,_,b1,rfl,T,kl,_,rfl,_,_,_,b1,rfl,T1,kl,rfl,_,rfl,wM rfl ?_⟩;refine⟨_,rfl,_,_,_,b2,rfl,T,kt,_,rfl,_,_,_,b2,rfl,T1,kt,rfl,_,rfl,wM rfl (aS ?_)⟩;refine⟨_,rfl,p,_,rfl,hp,_,rfl,r,_,rfl,hq,rfl,_,rfl,wM (by rw[l1,l2]) (aS ?_)⟩;refine⟨_,rfl,r,_,rfl,hq,_,rfl,QO,QO,λD hD=>yv (lo:=0) (n:=((v.length:Nat):Int).toNat)
   (λi W L=>ak H L/\L D=Z (.lst W)/\W=(List.replicate i af).map V.bl) ⟨cF hD _,aT,rfl⟩ ?_ ?_⟩
  ·rintro i W L hi ⟨g,h1,rfl⟩;rw[Y6] at hi;have sq:∀{a:U} {R:O V},(aq K H a R\/az K H a R)->(aq K L a R\/az K L a R):=λ{a R} z=>by
    rcases z with z|z;·exact .inl (g.seq z)
    ·exact .inr (g.jV z)
   have gx:A[i]?=Z A[i]:=Yc QO;have gy:v[i]?=Z v[i]:=Yc hi;obtain⟨d1,J,a1⟩:=gK Q gx;obtain⟨d2,E,a2⟩:=gK N gy;rw[J] at E;cases E;refine k_ (cS ?_);refine⟨_,rfl,_,rfl,Su (sq hp) gx ?_⟩;refine⟨_,rfl,_,rfl,Su (sq hq) gy ?_⟩;refine⟨_,_,d1,m,rfl,ek,a1.same g,a2.same g,λH2 g2=>?_⟩;refine⟨g2 _ _ h1,by rw[Ya,W3];exact kO QO,λb o e=>?_,aT,?_⟩
   ·rw[aN (cE e hD)];exact g2 b o (g b o e)
   ·rw[Di,Yi];rfl
  ·rintro W L ⟨g,h1,e⟩;refine⟨D,_,rfl,aq.of (by rw[h1,e]),?_⟩;rw[all_true];exact q L g
 ·refine⟨_,rfl,rfl,_,rfl,?_⟩;refine bF (λc=>?_) (λc=>absurd (Bv _) c);exact⟨_,rfl,rfl,q H (ak.refl H)⟩
 ·refine⟨_,rfl,rfl,_,rfl,?_⟩;refine bF (λc=>absurd (eB c) (λz=>nomatch z)) (λ_=>aS ?_);refine⟨_,rfl,_,_,_,af,rfl,.bl b,Sl,_,rfl,cS ?_⟩;refine⟨_,rfl,_,_,_,af,rfl,.bl b,Sl,_,rfl,cS ?_⟩;refine⟨_,rfl,_,rfl,rfl,?_⟩;rw[Bv];exact q H (ak.refl H)
 ·refine⟨_,rfl,rfl,_,rfl,?_⟩;refine bF (λc=>absurd (eB c) (λz=>nomatch z)) (λ_=>aS ?_);refine⟨_,rfl,_,_,_,a7,rfl,.int i,JI,_,rfl,bQ (aS ?_)⟩;refine⟨_,rfl,_,_,_,af,rfl,.int i,Sk,_,rfl,cS ?_⟩;refine⟨_,rfl,_,_,_,af,rfl,.int i,Sk,_,rfl,cS ?_⟩;refine⟨_,rfl,_,_,_,a7,rfl,.int i,JI,_,rfl,_,rfl,cS ?_⟩;refine⟨_,rfl,_,rfl,rfl,?_⟩;rw[Bv];exact q H (ak.refl H)
 ·refine⟨_,rfl,rfl,_,rfl,?_⟩;refine bF (λc=>absurd (eB c) (λz=>nomatch z)) (λ_=>aS ?_);refine⟨_,rfl,_,_,_,a7,rfl,.str z,ZgW,_,rfl,bQ (aS ?_)⟩;refine⟨_,rfl,_,_,_,a7,rfl,.str z,ZgX,_,rfl,bQ (aS ?_)⟩;refine⟨_,rfl,_,_,_,af,rfl,.str z,Sm,_,rfl,cS ?_⟩;refine⟨_,rfl,_,_,_,af,rfl,.str z,Sm,_,rfl,cS ?_⟩;refine⟨_,rfl,_,rfl,rfl,?_⟩;rw[Bv];exact q H (ak.refl H)
def same_none:aF P w K X I aL 0 f fd mU (qr 0):=by
 have no:∀a H Q E,¬qr 0 a H Q E:=λa H Q E h=>by
  obtain⟨_,_,_,_,_,z,_⟩:=h;omega
 exact⟨λa H Q E h=>absurd h (no a H Q E),λA b s H c d a Q E _ _ _ _ h=>absurd h (no a H Q E)⟩
theorem QX(F:aM K "_law_same" "_law_same" A8 f fd)(c:Binds K fd mU [])(a:keepIn K (.ref f)=af)(m:X "_law_same"=Z (.ref f))(b:Bl X):
  ∀n:Nat,aF P w K X I aL n f fd mU (qr n)
 |0=>same_none
 |n+1=>Zet F ⟨f,fd,QX F c a m b n,c,a,m⟩ b
end
inductive Sv(K:ai)(b:O V)(H:Hp)(Q:VK):Prop
 |mk (p:U) (a:O Int) (h:b=[.ref p]) (g:Row K H p a) (d:a.length<64) (e:∀c,ak H c->Q (.bl (full a)) c):Sv K b H Q
def K0(K:ai):Sp:=λa H Q _=>Sv K a H Q
def bO(a b:O Int):O Int:=b.map λx=>a.getD x.toNat 0
def rV(h:full a=af)(c:x∈a):0<=x/\x<a.length:=by
 have b:=(rL h).subset c;unfold bG at b;obtain⟨i,d,rfl⟩:=Yg.mp b;have:=Wv.mp d;omega
abbrev jX:O ar:=["row"]
def Zci:aP jX jX (aH Hv):=.a8
def Zcj(F:aM K "is_turn" "is_turn" Hv f fd)(n:Bl B):aF P w K B I aL 1 f fd jX (K0 K):=by
 refine F.o Zci @λbM A G vs Q E s H hr h=>?_;obtain⟨p,r,rfl,N,X,q⟩:=h;have hu:=hr.qm;refine⟨_,(au (aR (dN (iN (Zi8 (K:=K) rfl rfl) rfl n.Zid ZgM (aa (jK (x:="number") (fr:=[]) (cl:=[]) rfl (.gW trivial trivial) (ZgK (pv 0)) (λ_ _ _ _=>mf) (λ_ _ _ _=>(mS K n (pv 0) (mE rfl n.Ca BK)))) ae))) (av (aG gP)) aX) (av (aG (d7 (R8 hu) (iN (sortedK (K:=K) rfl) rfl n.Bs Bh (aa (pv 0) ae)) (fL (Fq rfl) rfl n.wG wz (aa (fL A2 rfl n.ke wk (aa (di K n (pv 0)) ae)) ae)))))),?_⟩;refine hI ?_;intros;have L:(r.map V.int).length=r.length:=Ya _;have k:∀(D:U) (a:Hp),ak H a->a D=Z (.lst ((List.replicate r.length a7).map V.bl))->
   ∃(T:U) (bs:O cm),[V.ref D]=[V.ref T]/\aq K a T (bs.map V.bl)/\tB (tC (V.bl (bs.any id))) [] a (λc W=>if c=af then Q (.bl a7) W else
    (TH K a7 (fU 0)) [Z (.ref p)] W Q):=λD a R m=>by
  refine⟨D,_,rfl,aq.of m,_,rfl,?_⟩;rw[any_false];refine bQ ?_;exact Zd4 rfl (Row.same R N) X λH' g=>q H' (R.trans g)
 have j:∀(D:U),H D=aE->∀(i:Nat) (v:V) (d:O V) (a:Hp),(r.map V.int)[i]?=Z v->(ak H a/\a D=Z (.lst d)/\d=(List.replicate i a7).map V.bl)->
   nQ (CN K) (ib (fU 0) (ib (tC (V.ty "bool")) jr)) [Z v] a λy J=>J D=Z (.lst d)/\d.length<sizeLine/\
    (ak H (upd J D (.lst (d++[y])))/\upd J D (.lst (d++[y])) D=Z (.lst (d++[y]))/\d++[y]=(List.replicate (i+1) a7).map V.bl):=λD l i v d a t ⟨g,m,e⟩=>by
  obtain⟨z,rfl,hz⟩:=m_ t;have d5:i<r.length:=(Yl.mp hz).1;refine⟨_,rfl,_,_,_,a7,rfl,.int z,JI,m,?_,λb o q=>?_,aT,?_⟩
  ·rw[e,Ya,W3];exact kO QO
  ·rw[aN (cE q l)];exact g b o q
  ·rw[e,Di,Yi];rfl
 refine⟨_,rfl,p,rfl,?_⟩;rcases N with u|u
 ·refine .inl ⟨⟨_,u⟩,λD l=>Hn (λi d a=>ak H a/\a D=Z (.lst d)/\d=(List.replicate i a7).map V.bl) ⟨cF l _,aT,rfl⟩ (λi d a _ ⟨g,_,_⟩=>g.seq u) (λi v d a t h=>k_ (cS (j D l i v d a t h))) ?_⟩;rintro d a ⟨g,m,e⟩;exact k D a g (by rw[m,e,L])
 ·refine .inr ⟨⟨_,u⟩,λD l=>Br (λi d a=>ak H a/\a D=Z (.lst d)/\d=(List.replicate i a7).map V.bl) ⟨cF l _,aT,rfl⟩ (λi d a _ ⟨g,_,_⟩=>g.jV u) (λi v d a t h=>k_ (cS (j D l i v d a t h))) ?_⟩;rintro d a ⟨g,m,e⟩;exact k D a g (by rw[m,e,L])
inductive QY(K:ai)(g:O V)(H:Hp)(Q:VK):Prop
 |mk (a b:U) (c d:O Int) (m:g=[.ref a,.ref b]) (l:az K H a (c.map V.int)) (j:az K H b (d.map V.int)) (k:(∀x∈c,0<=x/\x<d.length)) (i:c.length<64) (h:∀(t:U) (e:Hp),H t=aE->ak H e->e t=Z (.tup ((bO d c).map V.int))->Q (.ref t) e):QY K g H Q
def Kq(K:ai):Sp:=λa H Q _=>QY K a H Q
abbrev oZ:O ar:=["first","then"]
def Zbq:aP oZ oZ (aH GL):=.a8
def Zbr(F:aM K "followed" "followed" GL f fd)(N:Bl B):aF P w K B I aL 1 f fd oZ (Kq K):=by
 refine F.o Zbq λs H Q h=>?_;obtain⟨a,b,k,m,rfl,y,L,G,R,q⟩:=h;have E:(bO m k).length=k.length:=by unfold bO;rw[Ya]
 refine⟨_,(av (aG (fL (vJ) rfl N.oK oH (aa (jK (x:="section") (fr:=[("then",1)]) (cl:=[("then",s.heap.objs.size+1)]) rfl (.gW ⟨rfl,trivial⟩ ⟨⟨rfl,.inl rfl,.inl rfl,rfl⟩,trivial⟩) (IZ (pv 0)) (λ_ _ _ _=>mf) (λ_ _ _ _=>(a_ (iT K) (pv 1) (pv 0)))) ae)))),?_⟩;refine⟨_,rfl,a,rfl,⟨_,y⟩,λD u=>Br (λi e g=>ak H g/\g D=Z (.lst e)/\e=((bO m k).take i).map V.int) ⟨cF u _,aT,rfl⟩ (λi e g _ ⟨c,_,_⟩=>c.jV y) ?_ ?_⟩
 ·rintro i v e g J ⟨c,l,j⟩;obtain⟨z,rfl,p⟩:=m_ J;have A:=G z (Yj p);refine k_ (cS ⟨_,rfl,_,rfl,b,_,_,_,rfl,rfl,c.jV L,oP A.1 A.2,l,?_,λd o n=>?_,aT,?_⟩)
  ·rw[j,Ya,Wa,E];exact kO QO
  ·rw[aN (cE n u)];exact c d o n
  ·rw[j,Y3,Ho];unfold bO;rw[Yf,p];rfl
 ·rintro e g ⟨c,l,j⟩;refine⟨D,_,rfl,.inl ⟨aq.of l,λt r=>q t _ (c.free r) (c.trans (cF r _)) ?_⟩⟩;rw[aT,j,Ya,Wz (by rw[E];exact mz _)]
def lq(x:Int):O Int->Nat
 |[]=>0
 |y::r=>if y=x then 0 else lq x r+1
theorem Bw{x:Int}:∀{l:O Int},x∈l->l[lq x l]?=Z x/\∀m,m<lq x l->l[m]?≠Z x
 |[],h=>by cases h
 |y::r,h=>by
  unfold lq;by_cases e:y=x;·grind
  ·rw[bu e];obtain⟨c,b⟩:=Bw ((Yp.mp h).resolve_left λz=>e z.symm);refine⟨by rwa[List.getElem?_cons_succ],λm a=>?_⟩;cases m with
   |zero=>grind
   |succ m=>grind
def Bj(b:l.Nodup)(h:l[k]?=Z x):lq x l=k:=by
 obtain⟨a,c⟩:=Bw (Yj h);exact(List.getElem?_inj (by rcases Yl.mp a with⟨z,_⟩;exact z) b).mp (a.trans h.symm)
def inv(a:O Int):O Int:=(bG a.length).map λi=>(lq i a:Int)
def gk(a:O Int):(inv a).length=a.length:=by unfold inv;rw[Ya,fK]
def BW{i:Nat}(h:i<xs.length):(inv xs)[i]?=Z (lq (i:Int) xs:Int):=by
 unfold inv;rw[Yf,m9 h];rfl
def A9(h:full xs=af):xs.Nodup:=(rL h).nodup_iff.mpr (DB.GJ _)
def PH(h:full xs=af)(a:i<xs.length):(i:Int)∈xs:=(rL h).symm.subset (Yj (m9 a))
def kR(h:full xs=af):full (inv xs)=af:=by
 have p:(xs.map λi=>(lq i xs:Int)).Perm (inv xs):=(rL h).map _;have e:xs.map (λi=>(lq i xs:Int))=bG xs.length:=by
  refine Wu λi=>?_;rw[Yf];by_cases a:i<xs.length
  ·rw[m9 a,Yc a];show Z (lq xs[i] xs:Int)=Z (i:Int);rw[Bj (A9 h) (Yc a)]
  ·rw[Y4 (eL a),Y4 (by rw[fK];exact eL a)];rfl
 rw[e] at p;exact tU p.symm
def inv_inv(h:full xs=af):inv (inv xs)=xs:=by
 refine Wu λi=>?_;by_cases a:i<xs.length
 ·rw[BW (by rwa[gk]),Yc a];have b:=rV h (Jz a);have c:(xs[i]).toNat<xs.length:=QO
  have e:((xs[i].toNat:Nat):Int)=xs[i]:=QO
  have g:(inv xs)[(xs[i]).toNat]?=Z (i:Int):=by rw[BW c,e,Bj (A9 h) (Yc a)]
  rw[Bj (A9 (kR h)) g,e]
 ·rw[Y4 (by rw[gk,gk];exact eL a),Y4 (eL a)]
def PK(a:i<xs.length):(inv xs).take (i+1)=(inv xs).take i++[(lq (i:Int) xs:Int)]:=by
 rw[Y3,BW a];rfl
inductive Sw(d:O V)(H:Hp)(Q:VK):Prop
 |mk (a:U) (b:O Int) (j:d=[.ref a]) (i:H a=Z (.tup (b.map V.int))) (g:b.length<64) (h:full b=af) (e:∀(t:U) (c:Hp),H t=aE->ak H c->c t=Z (.tup ((inv b).map V.int))->Q (.ref t) c):Sw d H Q
def CT:Sp:=λa H Q _=>Sw a H Q
abbrev o_:O ar:=["turn"]
def ZX:aP o_ o_ (aH Ft):=.a8
def ZY(F:aM K "turned_back" "turned_back" Ft f fd)(p:Bl B):aF P w K B I aL 1 f fd o_ CT:=by
 refine F.ok ZX (λJ H Q E h=>?_) (λW A l s N J Q E T h=>?_)
 ·obtain⟨a,b,rfl,_⟩:=h;rfl
 obtain⟨a,b,rfl,z,R,L,q⟩:=h;refine⟨_,(av (aG (fL (vJ) rfl p.oK oH (aa (jK (x:="section") (fr:=[("turn",0)]) (cl:=[("turn",s.heap.objs.size+1)]) rfl (.gW ⟨rfl,trivial⟩ ⟨⟨rfl,.inl rfl,.inl rfl,rfl⟩,trivial⟩) (pZ rfl p.ke (aa (di K p (pv 0)) ae)) (λ_ _ _ _=>mf) (λ_ _ _ _=>(NH (pv 1) (aa (pv 0) ae)))) ae)))),?_⟩;have g:(b.map V.int).length=b.length:=Ya _;refine⟨_,rfl,a,_,rfl,.inr (az.of z),_,rfl,by rw[g];omega,by rw[g];omega,λD y=>yv
   (λi e k=>ak N k/\k D=Z (.lst e)/\e=((inv b).take i).map V.int) ⟨cF y _,aT,rfl⟩ ?_ ?_⟩
 ·rintro i e k m ⟨c,n,j⟩;rw[Y6,g] at m;rw[DM];have u:=Bw (PH L m);have G:=c _ _ z;refine k_ (cS ⟨_,rfl,a,b,rfl,G,_,rfl,(i:Int),lq (i:Int) b,rfl,G,u.1,u.2,n,?_,λd o r=>?_,aT,?_⟩)
  ·rw[j,Ya,Wa,gk];exact kO QO
  ·rw[aN (cE r y)];exact c d o r
  ·rw[j,PK m,Yi];rfl
 ·rintro e k ⟨c,n,j⟩;refine⟨D,_,rfl,.inl ⟨aq.of n,λt v=>q t _ (c.free v) (c.trans (cF v _)) ?_⟩⟩;rw[aT,j,Y6,g,Wz (by rw[gk];exact mz _)]
inductive OR(b:O V)(H:Hp)(Q:VK):Prop
 |mk (n:Nat) (e:b=[.int (n:Int)]) (d:n<=1000) (c:∀(t:U) (a:Hp),H t=aE->ak H a->a t=Z (.tup ((bG n).map V.int))->Q (.ref t) a):OR b H Q
def II:Sp:=λa H Q _=>OR a H Q
def Zeu:aP ["size"] ["size"] (aH IH):=.a8
def Zev(F:aM K "still" "still" IH f fd)(c:Bl B):aF P w K B I aL 1 f fd ["size"] II:=by
 refine F.o Zeu λs H e h=>?_;obtain⟨n,rfl,d,q⟩:=h;refine⟨_,(av (aG (fL (Nu rfl) rfl c.oK oH (aa (fL A2 rfl c.ke wk (aa (pv 0) ae)) ae)))),?_⟩;exact⟨_,rfl,_,rfl,λr a=>⟨r,n,rfl,aT,d,λt b=>q t _ ((cF a _).free b) ((cF a _).trans (cF b _)) aT⟩⟩
inductive QZ(K:ai)(b:O V)(H:Hp)(Q:VK):Prop
 |mk (p:U) (a:O Int) (i:b=[.ref p]) (h:az K H p (a.map V.int)) (e:a.length<64) (g:full a=af) (d:∀c,ak H c->Q .aA c):QZ K b H Q
def Kr(K:ai):Sp:=λa H Q _=>QZ K a H Q
inductive Sx(K:ai)(g:O V)(H:Hp)(Q:VK):Prop
 |mk (a b:U) (c d:O Int) (o:g=[.ref a,.ref b]) (n:az K H a (c.map V.int)) (l:az K H b (d.map V.int)) (m:c.length<64) (k:full c=af) (j:full d=af) (i:c.length=d.length) (h:∀(t:U) (e:Hp),H t=aE->ak H e->e t=Z (.tup ((bO d c).map V.int))->Q (.ref t) e):Sx K g H Q
def K1(K:ai):Sp:=λa H Q _=>Sx K a H Q
inductive Sy(d:O V)(H:Hp)(Q:VK):Prop
 |mk (a:U) (b:O Int) (j:d=[.ref a]) (i:H a=Z (.tup (b.map V.int))) (g:b.length<64) (h:full b=af) (e:∀(t:U) (c:Hp),H t=aE->ak H c->c t=Z (.tup ((inv b).map V.int))->Q (.ref t) c):Sy d H Q
def UO:Sp:=λa H Q _=>Sy a H Q
inductive PL(K:ai)(c:O V)(H:Hp)(Q:VK):Prop
 |mk (l e:U) (d:O U) (n:Nat) (o:c=[.ref l]) (m:aq K H l ((e::d).map V.ref)) (j:2<=n) (k:n<=8) (i:(∀a∈e::d,∃b:O Int,az K H a (b.map V.int)/\b.length=n/\full b=af)) (h:∀g,ak H g->Q .aA g):PL K c H Q
def JQ(K:ai):Sp:=λa H Q _=>PL K a H Q
inductive NM(K:ai)(c:O V)(H:Hp)(Q:VK):Prop
 |mk (m f w:U) (a b:O Int) (o:c=[.ref m,.ref f,.ref w]) (n:az K H m (a.map V.int)) (k:az K H f ((bO a b).map V.int)) (l:az K H w (b.map V.int)) (j:full a=af) (i:full b=af) (h:a.length=b.length) (g:a.length<=8) (e:∀d,ak H d->Q .aA d):NM K c H Q
def OS(K:ai):Sp:=λa H Q _=>NM K a H Q
def tR(b a:O Int):(bO b a).length=a.length:=by unfold bO;rw[Ya]
def Ii(g:full xs=af)(d:full a=af)(e:xs.length=a.length):full (bO xs a)=af:=by
 have c:(bO xs a).Perm ((bG a.length).map λx=>xs.getD x.toNat 0):=(rL d).map _;have h:((bG a.length).map λx=>xs.getD x.toNat 0)=xs:=by
  refine Wu λi=>?_;rw[Yf];by_cases b:i<a.length
  ·rw[m9 b]
   grind
  ·rw[Y4 (by rw[fK];exact eL b),Y4 (dW (my e) (eL b))];rfl
 rw[h] at c;exact tU (c.trans (rL g))
abbrev Ziw(n:Nat)(m f w d:U):O (ar×V):=[("size",.int (n:Int)),("mother",.ref m),("father",.ref f),("wife",.ref w),("steps",.ref d)]
abbrev za(m f w d b c a:U):O (Key×V):=[(.inr "c",.ref m),(.inr "k",.ref f),(.inr "w",.ref w),(.inr "m",.ref d),(.inr "f",.ref b),(.inr "h",.ref c),(.inr "s",.ref a)]
def bU(H:Hp)(a:U)(b:O Int):Prop:=H a=Z (.tup (b.map V.int))
inductive PM(H:Hp)(C L:U)(a b:O Int):Prop
 |mk (h d m f w g c e st:U) (r:H L=Z (.ins C h (Ziw a.length m f w d))) (q:H d=Z (.dK (za m f w g c e st))) (o:bU H m a) (p:bU H f (bO a b)) (n:bU H w b) (l:bU H g (inv a)) (k:bU H c (inv (bO a b))) (j:bU H e (inv b)) (i:bU H st (bG a.length)):PM H C L a b
def jh(H:Hp)(C L:U)(b a:O Int):Prop:=PM H C L b a
def jh.same{H b:Hp}{C L:U}{a ys:O Int}(g:ak H b)(h:jh H C L a ys):jh b C L a ys:=by
 obtain⟨t,d,m,f,w,i,c,e,st,s,r,q,p,o,n,l,k,j⟩:=h;exact⟨t,d,m,f,w,i,c,e,st,g _ _ s,g _ _ r,g _ _ q,g _ _ p,g _ _ o,g _ _ n,g _ _ l,g _ _ k,g _ _ j⟩
inductive PN(C:U)(e:O V)(H:Hp)(Q:VK):Prop
 |mk (x g m f w:U) (a c:O Int) (r:e=[.ref x,.ref m,.ref f,.ref w]) (q:H x=Z (.ins C g [])) (n:bU H m a) (p:bU H f (bO a c)) (l:bU H w c) (k:full a=af) (j:full c=af) (i:a.length=c.length) (h:2<=a.length) (t:a.length<=8) (s:∀d,(∀b o,H b=Z o->b≠x->d b=Z o)->jh d C x a c->Q .aA d):PN C e H Q
def Sz(C:U):Sp:=λa H Q _=>PN C a H Q
inductive Od(C:U)(d:O V)(H:Hp)(Q:VK):Prop
 |mk (m w:U) (a b:O Int) (o:d=[.ref m,.ref w]) (n:bU H m a) (k:bU H w b) (l:full a=af) (j:full b=af) (i:a.length=b.length) (h:2<=a.length) (g:a.length<=8) (e:∀(L:U) (c:Hp),ak H c->jh c C L a b->Q (.ref L) c):Od C d H Q
def PQ(C:U):Sp:=λa H Q _=>Od C a H Q
structure wR(K:ai)(C:U):Prop where
 cls:ir K C
 t9:du K C "size"
 Zew:du K C "mother"
 Zex:du K C "father"
 ZhA:du K C "wife"
 IJ:du K C "steps"
def Zae:aP jX jX (aH FR):=.a8
def ZhB(F:aM K "check_turn" "check_turn" FR f fd)(a:HasFn P w K B I 1 "is_turn" jX (K0 K)):aF P w K B I aL 2 f fd jX (Kr K):=by
 refine F.o Zae λs H d h=>?_;obtain⟨p,b,rfl,e,c,i,q⟩:=h;refine⟨_,(av (aR (fS (dN (aZ a d (aa (pv 0) ae)))) gL aX)),?_⟩;refine⟨_,rfl,p,b,rfl,.inr e,c,λj g=>⟨_,rfl,?_⟩⟩;rw[i];exact bQ (q j g)
def Zdm:aP oZ oZ (aH Ie):=.a8
def Zix(F:aM K "behind" "behind" Ie f fd)(j:HasFn P w K B I 2 "check_turn" jX (Kr K))(x:HasFn P w K B I 1 "followed" oZ (Kq K))(r:Bl B):aF P w K B I aL 3 f fd oZ (K1 K):=by
 refine F.o Zdm λs H d h=>?_;obtain⟨a,b,i,e,rfl,m,l,k,o,J,eq,q⟩:=h;refine⟨_,(au (cv (aZ j d (aa (pv 0) ae))) (au (cv (aZ j d (aa (pv 1) ae))) (au (aR (bH nv (di K r (pv 0)) (di K r (pv 1))) gL aX) (av (aG (aZ x d (aa (pv 0) (aa (pv 1) ae)))))))),?_⟩;refine nV ?_;intros;refine⟨_,rfl,a,i,rfl,m,k,o,λQ n=>?_⟩;refine⟨_,rfl,b,e,rfl,n.jV l,QO,J,λN G=>?_⟩;have g:=n.trans G;have v:=g.jV m;have u:=g.jV l;have p:∀c:O Int,(c.map V.int).length=c.length:=λc=>Ya _;refine⟨_,rfl,a,_,rfl,.inr v,_,rfl,b,_,rfl,.inr u,rfl,_,rfl,wM (by rw[p,p,eq]) (aS ?_)⟩;exact⟨_,rfl,_,rfl,a,b,i,e,rfl,v,u,λz A=>by exact eq▸rV o A,k,λt L y E D=>q t L (g.free y) (g.trans E) D⟩
def ZfR:aP o_ o_ (aH JP):=.a8
def Ziy(F:aM K "back" "back" JP f fd)(j:HasFn P w K B I 2 "check_turn" jX (Kr K))(k:HasFn P w K B I 1 "turned_back" o_ CT)(p:Bl B):aF P w K B I aL 3 f fd o_ UO:=by
 refine F.o ZfR λs H e h=>?_;obtain⟨a,c,rfl,g,d,i,q⟩:=h;refine⟨_,(au (cv (aZ j e (aa (pv 0) ae))) (av (aG (aZ k e (aa (pv 0) ae))))),?_⟩;refine⟨_,rfl,a,c,rfl,az.of g,d,i,λr b=>?_⟩;exact⟨_,rfl,a,c,rfl,b _ _ g,d,i,λt o l n m=>q t o (b.free l) (b.trans n) m⟩
def FE:aP ["rows","size","row"] ["rows"] (aH FT):=.a8
theorem ZfS(F:aM K "check_rows" "check_rows" FT f fd)(A:HasFn P w K B I 1 "is_turn" jX (K0 K))(T:B "LEAST_SIZE"=Z (.int 2 t1))(R:B "MOST_SIZE"=Z (.int 8 X))(x:Bl B):aF P w K B I aL 2 f fd ["rows"] (JQ K):=by
 refine F.o FE λs H G h=>?_;obtain⟨l,c,y,n,rfl,p,n2,n8,b,q⟩:=h;refine⟨_,(au (bV 1 FE.nd (di K x (a_ (iL K) (pv 0) aI))) (au (aR (PW.pt (pw_or (bH ny (pv 1) (dH (v:=.int (2)) rfl T ⟨_,rfl⟩)) (pw_or1 (bH Ke (pv 1) (dH (v:=.int (8)) rfl R ⟨_,rfl⟩))))) gL aX) (av (ia gR rfl (gn (K:=K) rfl (pv 0)) (bc 2 FE.nd) (av (aR (PW.pt (pw_or (bH nv (di K x (pv 2)) (pv 1)) (pw_or1 (fS (dN (aZ A G (aa (pv 2) ae))))))) gL aX)))))),?_⟩;have u:∀k:O Int,(k.map V.int).length=k.length:=λk=>Ya _;obtain⟨W,L,E,f0⟩:=b c Yk;refine⟨_,rfl,l,_,0,.ref c,rfl,rfl,p,jb rfl,c,_,rfl,.inr L,?_⟩;rw[u,E];refine⟨_,rfl,_,_,rfl,rfl,_,rfl,bF (λr=>absurd (eB r) QO) (λ_=>?_)⟩;refine⟨_,rfl,_,_,rfl,rfl,_,rfl,bF (λr=>absurd (eB r) QO) (λ_=>aS ?_)⟩;refine⟨_,rfl,l,rfl,⟨_,p⟩,lZ (λi j d=>ak H d/\∃m:bS V,j=[Z (.ref l),Z (.int (n:Int)),m]) ⟨ak.refl _,aE,rfl⟩ (λi j d _ ⟨g,_⟩=>g.seq p) ?_ ?_⟩
 ·rintro i v j d o ⟨g,m,rfl⟩;rw[Yf] at o;obtain⟨a,J,rfl⟩:∃a,a∈c::y/\V.ref a=v:=by
   cases e:(c::y)[i]? with
   |none=>rw[e] at o;cases o
   |some a=>grind
  obtain⟨z,t,D,Q⟩:=b a J;refine⟨_,rfl,a,_,rfl,.inr (g.jV t),_,rfl,rfl,_,rfl,wM (by rw[u,D]) ?_⟩;refine⟨_,rfl,a,z,rfl,.inr (g.jV t),QO,λH2 N=>⟨_,rfl,?_⟩⟩;rw[Q];exact bQ (aS ⟨g.trans N,_,rfl⟩)
 ·rintro j d ⟨g,m,rfl⟩;exact q d g
abbrev Mf:O ar:=["mother","father","wife"]
def ET:aP ["mother","father","wife","by_mothers","section"] Mf (aH EW):=.a8
def Zck(F:aM K "check_parents" "check_parents" EW f fd)(r:HasFn P w K B I 3 "behind" oZ (K1 K))(p:Bl B):aF P w K B I aL 4 f fd Mf (OS K):=by
 refine F.o ET λs H v h=>?_;obtain⟨m,j,n,b,a,rfl,z,o,y,D,A,eq,J,q⟩:=h;refine⟨_,(au (bV 3 ET.nd (aZ r v (aa (pv 2) (aa (pv 0) ae)))) (av (ia gR rfl (pZ rfl p.ke (aa (di K p (pv 1)) ae)) (bc 4 ET.nd) (av (aR (bH nv (a_ (iT K) (pv 3) (pv 4)) (a_ (iT K) (pv 1) (pv 4))) gL aX))))),?_⟩;refine hI ?_;intros;have k:∀d:O Int,(d.map V.int).length=d.length:=λd=>Ya _;refine⟨_,rfl,_,rfl,n,m,a,b,rfl,y,z,QO,A,D,eq.symm,λt E G g u=>?_⟩;have L:=tR b a;refine⟨_,rfl,j,_,rfl,.inr (g.jV o),_,rfl,by rw[k];omega,by rw[k];omega,Bg
  (λi c l=>l=E/\∃e:bS V,c=[Z (.ref m),Z (.ref j),Z (.ref n),Z (.ref t),e]) ⟨rfl,aE,rfl⟩ ?_ ?_⟩
 ·rintro i c l x ⟨rfl,e,rfl⟩;rw[Y6,k] at x;have at_:dO ((bO b a).map V.int) (0+(i:Int))=Z (.int ((bO b a).getD (0+(i:Int)).toNat 0)):=oP QO QO;refine⟨_,rfl,_,rfl,t,_,_,_,rfl,rfl,az.of u,at_,_,rfl,_,rfl,j,_,_,_,rfl,rfl,g.jV o,at_,rfl,_,rfl,wM rfl (aS ⟨rfl,_,rfl⟩)⟩
 ·rintro c l ⟨rfl,e,rfl⟩;exact q _ g
def xM{f:ar}(h:fs.length<=n):(cV f y fs).length<=n+1:=Yy (F7 f y fs) (VF h)
def fs4(a b c d:V):cV "wife" d (cV "father" c (cV "mother" b (cV "size" a [])))=([("size",a),("mother",b),("father",c),("wife",d)]:O (ar×V)):=rfl
def fs5(a b c d e:V):cV "steps" e [("size",a),("mother",b),("father",c),("wife",d)]=([("size",a),("mother",b),("father",c),("wife",d),("steps",e)]:O (ar×V)):=rfl
def ds7(a b c d e f g:V):qo [] [(.inr "c",a),(.inr "k",b),(.inr "w",c),(.inr "m",d),(.inr "f",e),(.inr "h",f),(.inr "s",g)]=[(.inr "c",a),(.inr "k",b),(.inr "w",c),(.inr "m",d),(.inr "f",e),(.inr "h",f),(.inr "s",g)]:=rfl
abbrev CU:O ar:=["self","mother","father","wife"]
def ZaJ:aP CU CU (aH Gm):=.a8
def ZfT(F:aM K "__init__" "Land.__init__" Gm f fd)(p:wR K C)(vO:HasFn P w K B I 2 "check_rows" ["rows"] (JQ K))(E4:HasFn P w K B I 4 "check_parents" Mf (OS K))
  (zb:HasFn P w K B I 3 "back" o_ UO)(wB:HasFn P w K B I 1 "still" ["size"] II)(bl:Bl B):aF P w K B I aL 5 f fd CU (Sz C):=by
 refine F.o ZaJ λs H y h=>?_;obtain⟨x,k,m,i,c,j,v,rfl,hx,hM,hF,hW,X,W,eq,l2,G,q⟩:=h;refine⟨_,(au (cv (aZ vO y (aa (yW (aa (pv 1) (aa (pv 2) (aa (pv 3) ae)))) ae))) (au (cv (aZ E4 y (aa (pv 1) (aa (pv 2) (aa (pv 3) ae))))) (au (yV (pv 0) (di K bl (pv 1)) rfl) (au (yV (pv 0) (pv 1) rfl) (au (yV (pv 0) (pv 2) rfl) (au (yV (pv 0) (pv 3) rfl) (av (yV (pv 0) (BP (kQ bo (pv 1) (kQ bo (pv 2) (kQ bo (pv 3) (kQ bo (aZ zb y (aa (pv 1) ae)) (kQ bo (aZ zb y (aa (pv 2) ae)) (kQ bo (aZ zb y (aa (pv 3) ae)) (kQ bo (aZ wB y (aa (di K bl (pv 1)) ae)) BO))))))) rfl rfl (λz=>nomatch z) (Jp rfl)) rfl)))))))),?_⟩;refine zm ?_;intros;have el:∀zs:O Int,(zs.map V.int).length=zs.length:=λzs=>Ya _;have WH:=Ii X W eq;have al:=tR j v;refine⟨_,rfl,_,rfl,_,rfl,by show 3<=sizeLine;decide,λl nl=>?_⟩;have T:=cF nl (.lst [.ref m,.ref i,.ref c]);refine⟨l,m,[i,c],j.length,rfl,aq.of aT,l2,G,λa A=>?_,λH2 g2=>?_⟩
 ·rcases Yp.mp A with rfl|A;·exact⟨j,az.of (T _ _ hM),rfl,X⟩
  ·rcases Yp.mp A with rfl|A;·exact⟨bO j v,az.of (T _ _ hF),by rw[al,eq],WH⟩
   ·rw[Yq] at A;subst A;exact⟨v,az.of (T _ _ hW),eq.symm,W⟩
 have Q:=T.trans g2;refine⟨_,rfl,_,rfl,_,rfl,m,i,c,j,v,rfl,az.of (Q _ _ hM),az.of (Q _ _ hF),az.of (Q _ _ hW),X,W,eq,G,λH3 g3=>?_⟩;have g:=Q.trans g3;have DO:=g _ _ hx;have DP:=g _ _ hM;have Mg:=g _ _ hF;have Mh:=g _ _ hW;have nm:m≠x:=λe=>by rw[e,DO] at DP;cases DP
 have nf:i≠x:=λe=>by rw[e,DO] at Mg;cases Mg
 have nw:c≠x:=λe=>by rw[e,DO] at Mh;cases Mh
 refine⟨_,rfl,m,_,rfl,.inr (az.of DP),_,rfl,x,C,k,_,rfl,DO,p.cls,p.t9,by decide,?_⟩;refine⟨_,rfl,_,rfl,x,C,k,_,rfl,aT,p.cls,p.Zew,Jb (xM (Ye 0)) (by decide),?_⟩;refine⟨_,rfl,_,rfl,x,C,k,_,rfl,aT,p.cls,p.Zex,Jb (xM (xM (Ye 0))) (by decide),?_⟩;refine⟨_,rfl,_,rfl,x,C,k,_,rfl,aT,p.cls,p.ZhA,Jb (xM (xM (xM (Ye 0)))) (by decide),?_⟩;rw[Iz,Iz,Iz,el,fs4];have Mi:upd H3 x (.ins C k [("size",.int (j.length:Int)),("mother",.ref m),("father",.ref i),("wife",.ref c)]) x=Z (.ins C k [("size",.int (j.length:Int)),("mother",.ref m),("father",.ref i),("wife",.ref c)]):=aT;have D:∀b o,H3 b=Z o->b≠x->upd H3 x (.ins C k [("size",.int (j.length:Int)),("mother",.ref m),("father",.ref i),("wife",.ref c)]) b=Z o:=λb o e n=>by rw[aN n];exact e
 generalize upd H3 x (.ins C k [("size",.int (j.length:Int)),("mother",.ref m),("father",.ref i),("wife",.ref c)])=H4 at Mi D⊢;have Mj:=D _ _ DP nm;have WI:=D _ _ Mg nf;have WJ:=D _ _ Mh nw;intro d nd;have r:=cF nd (.dK []);have Ml:upd H4 d (.dK []) d=Z (.dK []):=aT;generalize upd H4 d (.dK [])=H5 at r Ml⊢;refine⟨_,rfl,_,rfl,_,rfl,?_⟩;refine⟨_,rfl,m,j,rfl,r _ _ Mj,nG G (by decide),X,λN H6 nim g6 Mm=>?_⟩;refine⟨_,rfl,i,bO j v,rfl,g6 _ _ (r _ _ WI),by omega,WH,λJ H7 njf g7 Mn=>?_⟩;refine⟨_,rfl,c,v,rfl,g7 _ _ (g6 _ _ (r _ _ WJ)),by omega,W,λL H8 niw g8 hiw=>?_⟩;have WK:=(g6.trans g7).trans g8;refine⟨_,rfl,m,_,rfl,.inr (az.of (WK _ _ (r _ _ Mj))),j.length,by rw[el];rfl,dW G (by decide),λst H9 DQ R dI=>?_⟩;have u:=WK.trans R;refine⟨u _ _ Ml,za m i c N J L st,rfl,by show 7<=15;decide,?_⟩;have jY:d≠x:=cE Mi nd |>.symm;have WL:=u _ _ (r _ _ Mi);refine⟨_,rfl,x,C,k,_,rfl,by rw[aN jY.symm];exact WL,p.cls,p.IJ,by show 4<1000;decide,?_⟩;rw[fs5,ds7];have E:∀{b:U} {o:HO},H9 b=Z o->b≠d->b≠x->upd (upd H9 d (.dK (za m i c N J L st))) x (.ins C k [("size",.int (j.length:Int)),("mother",.ref m),("father",.ref i),("wife",.ref c),("steps",.ref d)]) b=Z o:=λ{b o} e n1 n2=>by
  rw[aN n2,aN n1];exact e
 have t:∀{b:U} {zs:O Int},H9 b=Z (.tup (zs.map V.int))->bU (upd (upd H9 d (.dK (za m i c N J L st))) x (.ins C k [("size",.int (j.length:Int)),("mother",.ref m),("father",.ref i),("wife",.ref c),("steps",.ref d)])) b zs:=λ{b zs} e=>
  E e (λz=>by rw[z,u _ _ Ml] at e;cases e) (λz=>by rw[z,WL] at e;cases e)
 refine q _ (λb o e n=>?_) ⟨k,d,m,i,c,N,J,L,st,aT,by rw[aN jY];exact aT,t (u _ _ (r _ _ Mj)),t (u _ _ (r _ _ WI)),t (u _ _ (r _ _ WJ)),t (R _ _ (g8 _ _ (g7 _ _ Mm))),t (R _ _ (g8 _ _ Mn)),t (R _ _ hiw),t dI⟩;have e4:=D _ _ (g _ _ e) n;refine E (u _ _ (r _ _ e4)) (cE e4 nd) n
abbrev CV:O ar:=["mother","wife"]
def Zcl:aP CV CV (aH Hw):=.a8
def Zcm(F:aM K "land_of" "land_of" Hw f fd)(Q:HasFn P w K B I 2 "check_rows" ["rows"] (JQ K))(N:HasFn P w K B I 3 "behind" oZ (K1 K))
  (JR:wN P w K B I 5 "Land" C CU (Sz C)):aF P w K B I aL 7 f fd CV (PQ C):=by
 refine F.o Zcl λs H p h=>?_;obtain⟨m,d,c,n,rfl,t,r,y,v,eq,J,G,q⟩:=h;refine⟨_,(au (cv (aZ Q p (aa (yW (aa (pv 0) (aa (pv 1) ae))) ae))) (av (aG (Km JR p (by decide) rfl (aa (pv 0) (aa (aZ N p (aa (pv 1) (aa (pv 0) ae))) (aa (pv 1) ae))))))),?_⟩;refine hI ?_;intros;refine⟨_,rfl,_,rfl,by show 2<=sizeLine;decide,λl R=>?_⟩;have u:=cF R (.lst [.ref m,.ref d]);refine⟨l,m,[d],c.length,rfl,aq.of aT,J,G,λa i=>?_,λH2 g2=>?_⟩
 ·rcases Yp.mp i with rfl|i;·exact⟨c,az.of (u _ _ t),rfl,y⟩
  ·rw[Yq] at i;subst i;exact⟨n,az.of (u _ _ r),eq.symm,v⟩
 have g:=u.trans g2;refine⟨_,rfl,_,rfl,_,rfl,d,m,n,c,rfl,az.of (g _ _ r),az.of (g _ _ t),QO,v,y,eq.symm,λfa D WM X dz=>?_⟩;have A:=g.trans X;refine⟨_,rfl,λx k E Am ne=>?_⟩;have An:upd D k (.own x) x=aE:=by rw[aN (λz=>ne z.symm)];exact E
 have j:ak D (upd (upd D k (.own x)) x (.ins C k [])):=(cF Am _).trans (cF An _);refine⟨x,k,m,fa,d,c,n,rfl,aT,j _ _ (A _ _ t),j _ _ dz,j _ _ (A _ _ r),y,v,eq,J,G,λH5 W T=>⟨rfl,q x H5 (λb o e=>?_) T⟩⟩;have L:=A _ _ e;exact W b o (j _ _ L) (cE L E)
abbrev Cj(a b:O Int):O (ar×O Int):=[("c",a),("k",bO a b),("w",b),("m",inv a),("f",inv (bO a b)),("h",inv b),("s",bG a.length)]
inductive PR(C:U)(c:O V)(H:Hp)(Q:VK):Prop
 |mk (L:U) (z:ar) (b a d:O Int) (i:c=[.ref L,.str z]) (h:jh H C L b a) (e:(z,d)∈Cj b a) (g:∀t:U,bU H t d->Q (.ref t) H):PR C c H Q
def SA(C:U):Sp:=λa H Q _=>PR C a H Q
def step_at{H:Hp}{a b ns:O Int}{z:ar}{m f w g d e c:U}(h:(z,ns)∈Cj a b)(p:bU H m a)(o:bU H f (bO a b))(n:bU H w b)(l:bU H g (inv a))(k:bU H d (inv (bO a b)))(j:bU H e (inv b))(i:bU H c (bG a.length)):
  ∃t,a9 (za m f w g d e c) (.inr z)=Z (.ref t)/\bU H t ns:=by
 simp[Yp,Y1,fM] at h;rcases h with⟨rfl,rfl⟩|⟨rfl,rfl⟩|⟨rfl,rfl⟩|⟨rfl,rfl⟩|⟨rfl,rfl⟩|⟨rfl,rfl⟩|⟨rfl,rfl⟩;·exact⟨m,rfl,p⟩
 ·exact⟨f,rfl,o⟩
 ·exact⟨w,rfl,n⟩
 ·exact⟨g,rfl,l⟩
 ·exact⟨d,rfl,k⟩
 ·exact⟨e,rfl,j⟩
 ·exact⟨c,rfl,i⟩
abbrev CW:O ar:=["self","letter"]
def ZaK:aP CW CW (aH Gn):=.a8
def ZfU(F:aM K "step" "Land.step" Gn f fd)(a:wR K C):aF P w K B I aL 1 f fd CW (SA C):=by
 refine F.o ZaK λs H b h=>?_;obtain⟨L,z,D,A,G,rfl,i,j,q⟩:=h;refine⟨_,(au (aR (kU (oG (bI b) (pv 1) (pF K 0)) QU) gL aX) (av (aG (dt (bI b) (pF K 0) (pv 1) (λ_ _=>rfl))))),?_⟩;refine hI ?_;intros;obtain⟨e,d,m,R,E,Q,J,N,st,c,y,x,v,u,r,p,o,n⟩:=i;obtain⟨t,k,l⟩:=step_at j x v u r p o n;have g:=k▸eW.k y;exact⟨_,rfl,_,rfl,L,C,e,_,.ref d,rfl,c,a.cls,a.IJ,rfl,d,_,rfl,g,_,rfl,bQ (aS ⟨_,rfl,L,C,e,_,.ref d,rfl,c,a.cls,a.IJ,rfl,_,rfl,d,_,rfl,g,q t l⟩)⟩
structure JS where
 hd:O Nat
 ld:O (O Int)
 mem:O (Nat×O Nat)
 fr:O (Nat×O Int)
structure JL where
 J:U
 ha:U
 la:U
 md:U
 fd:U
 fE:O U
 gv:O U
 cq:O U
def JL.fp(l:JL):O U:=l.J::l.ha::l.la::l.md::l.fd::l.gv
abbrev JF(n:Nat)(c b a fd:U):O (ar×V):=[("size",.int (n:Int)),("heads",.ref c),("leads",.ref b),("members",.ref a),("free",.ref fd)]
def jf5(a b c d e:V):cV "free" e (cV "members" d (cV "leads" c (cV "heads" b (cV "size" a []))))=([("size",a),("heads",b),("leads",c),("members",d),("free",e)]:O (ar×V)):=rfl
abbrev d9(a:O Nat):O V:=a.map λi:Nat=>V.int (i:Int)
def bJ(a:O Nat)(b:O U):O (Key×V):=(a.zip b).map λp=>(.inl (p.1:Int),.ref p.2)
structure cZ(H:Hp)(C:U)(n:Nat)(l:JL)(st:JS):Prop where
 obj:∃dx,H l.J=Z (.ins C dx (JF n l.ha l.la l.md l.fd))
 heads:H l.ha=Z (.lst (d9 st.hd))
 jn:H l.la=Z (.lst (l.fE.map V.ref))
 lead:Paired (λa xs=>H a=Z (.tup (xs.map V.int))) l.fE st.ld
 ko:H l.md=Z (.dK (bJ (st.mem.map (·.1)) l.gv))
 mem:Paired (λa p=>H a=Z (.lst (d9 p.2))) l.gv st.mem
 frees:H l.fd=Z (.dK (bJ (st.fr.map (·.1)) l.cq))
 free:Paired (λa p=>H a=Z (.lst (p.2.map V.int))) l.cq st.fr
 nd:l.fp.Nodup
 out:∀a∈l.cq,a∉l.fp
def cZ.same{H b:Hp}{C:U}{n:Nat}{l:JL}{st:JS}(g:ak H b)(a:cZ H C n l st):cZ b C n l st:=
 ⟨let⟨c,h⟩:=a.obj;⟨c,g _ _ h⟩,g _ _ a.heads,g _ _ a.jn,L2.Paired.bA a.lead λ _ _=>g _ _,g _ _ a.ko,L2.Paired.bA a.mem λ _ _=>g _ _,g _ _ a.frees,L2.Paired.bA a.free λ _ _=>g _ _,a.nd,a.out⟩
theorem yx:∀{a:O α} {b:O β} {x:α},Paired F a b->x∈a->∃y,F x y:=by
 intro a b x p;induction p with
 |nil=>grind
 |cons f t c=>grind
def cZ.ne{H:Hp}{C p:U}{n:Nat}{l:JL}{b:JS}(a:cZ H C n l b)(h:H p=aE):p∉l.fp:=by
 intro z;unfold JL.fp at z;simp[Yp] at z;rcases z with rfl|rfl|rfl|rfl|rfl|z
 ·obtain⟨c,e⟩:=a.obj
  grind
 ·rw[a.heads] at h;cases h
 ·rw[a.jn] at h;cases h
 ·rw[a.ko] at h;cases h
 ·rw[a.frees] at h;cases h
 ·obtain⟨y,e⟩:=yx a.mem z
  grind
theorem p_{g:Type}{H:Hp}{f:g->HO}:∀{as:O U} {c:O (Nat×g)} {k:Nat} {v:g},Paired (λa p=>H a=Z (f p.2)) as c->c.lookup k=Z v->∃a,a∈as/\a9 (bJ (c.map (·.1)) as) (.inl (k:Int))=Z (.ref a)/\H a=Z (f v):=by
 intro as c k v j;induction j with
 |nil=>grind
 |@cons a p as c e t l=>
  intro h;have n:bJ ((p::c).map (·.1)) (a::as)=(Sum.inl (p.1:Int),V.ref a)::bJ (c.map (·.1)) as:=rfl;rw[W4] at h;by_cases d:k=p.1
  ·have i:=beq_iff_eq.mpr d;rw[i] at h;exact⟨a,Yk,gm (by rw[d]),by rwa[←(Yo h)]⟩
  ·have i:=beq_eq_false_iff_ne.mpr d;rw[i] at h;obtain⟨b,m,q,w⟩:=l h;refine⟨b,Yx _ m,?_,w⟩;rw[n,fR (λz=>d (by have:=Ao z;exact lX (lP this)))];exact q
def Zey{q k:Nat}(z:((Sum.inl (q:Int):Key),v).1=.inl (k:Int)):k∈q::ks:=by
 grind
theorem Bk:∀{as:O U} {b:O Nat} {k:Nat},k∉b->a9 (bJ b as) (.inl (k:Int))=aE
 |[],b,k,_=>by unfold bJ;rw[JC];rfl
 |a::as,[],k,_=>rfl
 |a::as,q::b,k,h=>by
  have c:bJ (q::b) (a::as)=(Sum.inl (q:Int),V.ref a)::bJ b as:=rfl;rw[c,fR (λz=>h (Zey z))];exact Bk λz=>h (Yx _ z)
theorem A_:∀{c:O Nat} {as:O U} (k:Nat) (a:U),c.length=as.length->bJ c as++[(.inl (k:Int),.ref a)]=bJ (c++[k]) (as++[a])
 |[],[],_,_,_=>rfl
 |q::c,b::as,k,a,h=>by
  have d:bJ (q::c) (b::as)=(Sum.inl (q:Int),V.ref b)::bJ c as:=rfl;rw[d,V0,(A_ k a (by simpa using h))];rfl
 |[],_::_,_,_,h=>by simp at h
 |_::_,[],_,_,h=>by simp at h
structure oQ(K:ai)(C:U):Prop where
 cls:ir K C
 t9:du K C "size"
 kT:du K C "heads"
 oM:du K C "leads"
 wc:du K C "members"
 t_:du K C "free"
def JS.more(n:Nat)(a:JS):JS:=⟨a.hd++[a.hd.length],a.ld++[bG n],a.mem++[(a.hd.length,[a.hd.length])],a.fr++[(a.hd.length,bG n)]⟩
inductive Q0(C:U)(c:O V)(H:Hp)(Q:VK)(E:XK):Prop
 |mk (x d:U) (n:Nat) (h:c=[.ref x,.int (n:Int)]) (g:H x=Z (.ins C d [])) (e:∀(l:JL) (a:Hp),l.J=x->l.gv=[]->(∀b∈l.fp,b≠x->H b=aE)->aC x H a->cZ a C n l ⟨[],[],[],[]⟩->Q .aA a)
inductive G3(C:U)(c:O V)(H:Hp)(Q:VK)(E:XK):Prop
 |mk (l:JL) (st:JS) (n i j a b:Nat) (k:c=[.ref l.J,.int (i:Int),.int (j:Int)]) (h:cZ H C n l st) (e:st.hd[i]?=Z a) (g:st.hd[j]?=Z b) (d:Q (.bl (decide (a=b))) H)
inductive yJ(C:U)(d:O V)(H:Hp)(Q:VK)(E:XK):Prop
 |mk (l:JL) (st:JS) (n i h:Nat) (t a:O Int) (r:d=[.ref l.J,.int (i:Int)]) (q:cZ H C n l st) (m:st.hd[i]?=some h) (o:st.ld[i]?=some t) (k:st.fr.lookup h=some a) (j:(∀z∈a,0<=z/\z<t.length)) (g:a.length<64) (e:∀(p:U) (b:O Int) (c:Hp),H p=none->ak H c->b.Perm (a.map λz=>t.getD z.toNat 0)->b.Pairwise (·<=·)->c p=Z (.lst (b.map V.int))->Q (.ref p) c)
inductive Ks(C:U)(d:O V)(H:Hp)(Q:VK)(E:XK):Prop
 |mk (l:JL) (st:JS) (n:Nat) (p:d=[.ref l.J]) (o:cZ H C n l st) (k:n<=1000) (m:st.hd.length<1000) (j:st.mem.length<=st.hd.length) (i:st.fr.length<=st.hd.length) (h:st.ld.length=st.hd.length) (g:st.hd.length∉st.mem.map (·.1)) (e:st.hd.length∉st.fr.map (·.1)) (q:∀(a:JL) (c:Hp),a.J=l.J->Out l.fp H c->(∀b∈a.fp,b∈l.fp\/H b=aE)->cZ c C n a (st.more n)->Q (.int (st.hd.length:Int)) c)
def qj{i h:Nat}(e:is[i]?=Z h):dO (d9 is) (i:Int)=Z (.int (h:Int)):=jb (by rw[Yf,e];rfl)
abbrev CY:O ar:=["self","size"]
def Zaf:aP CY CY (aH FV):=.a8
theorem Zez(F:aM K "__init__" "Joins.__init__" FV f fd)(c:oQ K C)(bl:Bl B):aF P w K B I aL 1 f fd CY (Q0 C):=by
 refine F.o Zaf λs H hr h=>?_;obtain⟨x,j,n,rfl,hx,q⟩:=h;refine⟨_,(au (hZ (K:=K) rfl (pv 0) (pv 1)) (au (hZ (K:=K) rfl (pv 0) (c6 ae)) (au (hZ (K:=K) rfl (pv 0) (c6 ae)) (au (hZ (K:=K) rfl (pv 0) tS) (av (hZ (K:=K) rfl (pv 0) tS)))))),?_⟩;refine VY ?_;intros;refine⟨_,rfl,_,rfl,x,C,j,[],rfl,hx,c.cls,c.t9,by show 0<1000;decide,λH1 N h1=>?_⟩;refine⟨by show 0<=sizeLine;exact Yw _,λp H2 E G e2=>⟨_,rfl,x,C,j,_,rfl,G _ _ h1,c.cls,c.kT,by show 1<1000;decide,λH3 L h3=>?_⟩⟩;refine⟨by show 0<=sizeLine;exact Yw _,λla H4 m v e4=>⟨_,rfl,x,C,j,_,rfl,v _ _ h3,c.cls,c.oM,by show 2<1000;decide,λH5 A h5=>?_⟩⟩;refine λmd H6 i r e6=>⟨_,rfl,x,C,j,_,rfl,r _ _ h5,c.cls,c.wc,by show 3<1000;decide,λH7 u h7=>?_⟩;refine λfe H8 g g8 e8=>⟨_,rfl,x,C,j,_,rfl,g8 _ _ h7,c.cls,c.t_,by show 4<1000;decide,λH9 b9 h9=>?_⟩;rw[jf5] at h9;have W:aC x H8 H9:=b9;have X:aC x H6 H9:=u.trans ((aC.of g8).trans W);have k4:aC x H4 H9:=A.trans ((aC.of r).trans X);have k2:aC x H2 H9:=L.trans ((aC.of v).trans k4);have k0:aC x H H9:=N.trans ((aC.of G).trans k2);have l:p≠x:=λz=>by rw[z,h1] at E;cases E
 have t:la≠x:=λz=>by rw[z,h3] at m;cases m
 have y:md≠x:=λz=>by rw[z,h5] at i;cases i
 have J:fe≠x:=λz=>by rw[z,h7] at g;cases g
 have i3:=L _ _ e2 l;have i5:=A _ _ (v _ _ i3) l;have i7:=u _ _ (r _ _ i5) l;have j5:=A _ _ e4 t;have j7:=u _ _ (r _ _ j5) t;have l7:=u _ _ e6 y;have a1:p≠la:=λz=>by rw[←z,i3] at m;cases m
 have a2:p≠md:=λz=>by rw[←z,i5] at i;cases i
 have a3:p≠fe:=λz=>by rw[←z,i7] at g;cases g
 have a4:la≠md:=λz=>by rw[←z,j5] at i;cases i
 have a5:la≠fe:=λz=>by rw[←z,j7] at g;cases g
 have a6:md≠fe:=λz=>by rw[←z,l7] at g;cases g
 have D:∀{b:U} {Q:Hp},aC x H Q->b≠x->Q b=aE->H b=aE:=λ{b Q} k d n=>by
  cases e:H b with
  |none=>rfl
  |some o=>rw[k b o e d] at n;cases n
 have T:aC x H H3:=N.trans ((aC.of G).trans L);have R:aC x H H5:=T.trans ((aC.of v).trans A);have t7:aC x H H7:=R.trans ((aC.of r).trans u);refine q ⟨x,p,la,md,fe,[],[],[]⟩ H9 rfl rfl (λb hb nb=>?_) k0 ⟨⟨j,h9⟩,k2 _ _ e2 l,k4 _ _ e4 t,.nil,X _ _ e6 y,.nil,W _ _ e8 J,.nil,?_,λa sT=>by cases sT⟩
 ·simp only[JL.fp,Yp,Y1,fM] at hb;rcases hb with rfl|rfl|rfl|rfl|rfl;·exact absurd rfl nb
  ·exact D N l E
  ·exact D T t m
  ·exact D R y i
  ·exact D t7 J g
 ·simp only[JL.fp,Yz,Yp,Y1,fM,gV,L3,Jc,and_true];exact⟨⟨λz=>l z.symm,λz=>t z.symm,λz=>y z.symm,λz=>J z.symm⟩,⟨a1,a2,a3⟩,⟨a4,a5⟩,a6⟩
abbrev sA:O ar:=["self","one","other"]
def Zk:aP sA sA (aH EO):=.a8
def Zbs(F:aM K "together" "Joins.together" EO f fd)(c:oQ K C)(v:Bl B):aF P w K B I aL 1 f fd sA (G3 C):=by
 refine F.o Zk @λx A d t Q E s H u h=>?_;obtain⟨l,st,n,i,j,a,b,rfl,g,r,p,q⟩:=h;refine⟨_,(av (aG (d7 cD (a_ (iL K) (pF K 0) (pv 1)) (a_ (iL K) (pF K 0) (pv 2))))),?_⟩;obtain⟨m,k⟩:=g.obj;have o:Q (.bl (decide (V.int (a:Int)=V.int (b:Int)))) H:=by
  have e:decide (V.int (a:Int)=V.int (b:Int))=decide (a=b):=by
   rw[Wm,eR,eR];exact⟨λz=>by have:=V.int.inj z;exact lP this,λz=>by rw[z]⟩
  rwa[e]
 exact⟨_,rfl,l.J,C,m,_,_,rfl,k,c.cls,c.kT,rfl,_,rfl,l.ha,_,_,_,rfl,rfl,aq.of g.heads,qj r,_,rfl,l.J,C,m,_,_,rfl,k,c.cls,c.kT,rfl,_,rfl,l.ha,_,_,_,rfl,rfl,aq.of g.heads,qj p,rfl,o⟩
def eI{H:Hp}(h:H a=Z o)(e:H b=Z c)(d:o≠c):a≠b:=λz=>by
 grind
def ZeA(a:O Nat)(k:Nat):d9 (a++[k])=d9 a++[.int (k:Int)]:=Yi
def tP{H:Hp}(h:H a=Z o)(c:H b=aE):b≠a:=λz=>by
 grind
theorem jG{b a:Type}{F:b->a->Prop}{x:b}{y:a}(f:F x y){d:O b}{c:O a}(h:Paired F d c):Paired F (d++[x]) (c++[y]):=by
 induction h with
 |nil=>exact .cons f .nil
 |cons r t e=>exact .cons r e
theorem we{e d:Type}{F:e->d->Prop}:∀{c:O e} {i:O d},Paired F c i->Paired (λa b=>F a b/\a∈c) c i
 |_,_,.nil=>.nil
 |_,_,.cons g t=>.cons ⟨g,Yk⟩ (L2.Paired.bA (we t) λ_ _ h=>⟨h.1,Yx _ h.2⟩)
def qt(h:H a=Z (.dK b))(e:a9 b (.inl (k:Int))=o):eW H a (.int (k:Int)) o:=.inl ⟨b,.inl (k:Int),.inl h,rfl,e.symm⟩
abbrev xf:O ar:=["self","one"]
def Nr:aP ["self","one","lead"] xf (aH EY):=.a8
def Zcn(F:aM K "open_at" "Joins.open_at" EY f fd)(b:oQ K C)(bl:Bl B):aF P w K B I aL 2 f fd xf (yJ C):=by
 refine F.o Nr λs H T h=>?_;obtain⟨l,st,n,i,h,t,d,rfl,a,hi,R,hf,L,iy,q⟩:=h;refine⟨_,(au (h_ (i:=2) Nr.nd rfl (kv rfl) (a_ (iL K) (pF K 0) (pv 1))) (av (aG (iN (Zed (K:=K) rfl) rfl bl.Bs Bh (aa (jK (x:="section") (fr:=[("lead",2)]) (cl:=[("lead",s.heap.objs.size+1)]) rfl (.gW ⟨rfl,trivial⟩ ⟨⟨rfl,.inl rfl,.inl rfl,rfl⟩,trivial⟩) (gn (K:=K) rfl (dt (bI T) (pF K 0) (a_ (iL K) (pF K 0) (pv 1)) (λ_ _=>rfl))) (λ_ _ _ _=>mf) (λ_ _ _ _=>(a_ (iT K) (pv 1) (pv 0)))) ae))))),?_⟩;refine hI ?_;intros;obtain⟨o,g⟩:=a.obj;obtain⟨fa,WN,G,A⟩:=p_ (f:=λv:O Int=>HO.lst (v.map V.int)) a.free hf;obtain⟨c,m,Mo⟩:∃c,l.fE[i]?=Z c/\H c=Z (.tup (t.map V.int)):=by
  have W:=cK a.lead;have d5:i<l.fE.length:=by exact W▸(Yl.mp R).1
  obtain⟨y,ey,u⟩:=gK a.lead (Yc d5)
  grind
 have Mp:dO (l.fE.map V.ref) (i:Int)=Z (.ref c):=jb (by rw[Yf,m];rfl);refine b_ ?_;refine⟨_,rfl,l.J,C,o,_,_,rfl,g,b.cls,b.oM,rfl,_,rfl,l.la,_,_,_,rfl,rfl,aq.of a.jn,Mp,?_⟩;refine⟨_,rfl,l.J,C,o,_,_,rfl,g,b.cls,b.t_,rfl,_,rfl,l.J,C,o,_,_,rfl,g,b.cls,b.kT,rfl,_,rfl,l.ha,_,_,_,rfl,rfl,aq.of a.heads,qj hi,l.fd,_,rfl,qt a.frees G,fa,rfl,⟨_,aq.of A⟩,λD hD=>Zb6 (aq.of A) (by rw[Ya];omega) hD (λv=>match v with|.int z=>.int (t.getD z.toNat 0)|_=>.aA) (λj v X r e Kt k=>?_) λr e h1=>?_⟩
 ·obtain⟨z,rfl,Q⟩:=m_ X;have E:=L z (Yj Q);exact⟨_,rfl,_,rfl,c,_,_,_,rfl,rfl,az.of (e _ _ Mo),oP E.1 E.2,k r (ak.refl _)⟩
 ·have u:r D=Z (.lst ((d.map λz=>t.getD z.toNat 0).map V.int)):=by
   rw[h1,Y7,Y7];rfl
  exact⟨D,_,rfl,.inl (aq.of u),by rwa[Ya],λcI pm J p H2 N g2 h2=>q p cI H2 (e.free N) (e.trans g2) pm J h2⟩
abbrev dE:O ar:=["self"]
abbrev zF:O ar:=["self","number"]
def ND:aP zF dE (aH Gp):=.a8
theorem ZhC(F:aM K "add" "Joins.add" Gp f fd)(d:oQ K C)(wB:HasFn P w K B I 1 "still" ["size"] II)(bl:Bl B):aF P w K B I aL 2 f fd dE (Ks C):=by
 refine F.o ND λs H hr h=>?_;obtain⟨l,st,n,rfl,c,hn,lh,lm,lf,ll,nm,nf,q⟩:=h;refine⟨_,(au (bV 1 ND.nd (di K bl (pF K 0))) (au (cv (ni (K:=K) rfl (kh hP jm jk oF (pF K 0) (aa (pv 1) ae)))) (au (cv (ni (K:=K) rfl (kh hP jm jk oF (pF K 0) (aa (aZ wB hr (aa (pF K 0) ae)) ae)))) (au (qc (bI hr) (pF K 0) (pv 1) (c6 (aa (pv 1) ae))) (au (qc (bI hr) (pF K 0) (pv 1) (fL (ZU rfl) rfl bl.wG wz (aa (fL FQ rfl bl.ke wk (aa (pF K 0) ae)) ae))) (av (aG (pv 1)))))))),?_⟩;have sz:(10000:Nat)<=sizeLine:=by rw[dw];decide
 obtain⟨A,ho⟩:=c.obj;have hl:(d9 st.hd).length=st.hd.length:=Ya _;have pl1:=cK c.lead;have Mq:=cK c.mem;have DS:=cK c.free;have W:=c.nd;simp only[JL.fp,Yz,Yp,gV] at W;obtain⟨⟨x1,x2,x3,x4,x5⟩,⟨R,Q,y3,y4⟩,⟨z1,z2,z3⟩,⟨w1,w2⟩,v1,v2⟩:=W;have dl:∀{ks:O Nat} {as:O U},(bJ ks as).length<=as.length:=λ{ks as}=>by unfold bJ;rw[Ya,Jf];exact VG _ _
 refine b_ ?_;refine⟨_,rfl,l.J,C,A,_,_,rfl,ho,d.cls,d.kT,rfl,l.ha,_,rfl,.inl (aq.of c.heads),?_⟩;rw[hl];refine⟨_,rfl,l.J,C,A,_,_,rfl,ho,d.cls,d.kT,rfl,.inl ⟨rfl,_,aq.of c.heads⟩,_,rfl,l.ha,_,_,rfl,rfl,c.heads,by rw[hl];omega,λH1 v e1=>?_⟩;have o1:=v _ _ ho x1;have X:=v _ _ c.jn (λz=>R z.symm);refine⟨_,rfl,l.J,C,A,_,_,rfl,o1,d.cls,d.oM,rfl,.inl ⟨rfl,_,aq.of X⟩,_,rfl,l.J,C,A,_,_,rfl,o1,d.cls,d.t9,rfl,n,rfl,hn,λt H2 nt k ht=>?_⟩;refine⟨l.la,_,_,rfl,rfl,k _ _ X,by rw[Ya];omega,λH3 u e3=>?_⟩;have o3:=u _ _ (k _ _ o1) x2;have m3:=u _ _ (k _ _ (v _ _ c.ko (λz=>Q z.symm))) (λz=>z1 z.symm);refine⟨_,rfl,by show 1<=sizeLine;decide,λm H4 J j em=>?_⟩;have o4:=j _ _ o3;refine⟨_,rfl,l.J,C,A,_,_,rfl,o4,d.cls,d.wc,rfl,_,rfl,l.md,_,.inl (st.hd.length:Int),rfl,j _ _ m3,rfl,?_,λH5 g e5=>?_⟩
 ·have:=dl (ks:=st.mem.map (·.1)) (as:=l.gv);omega
 have T:=g _ _ o4 x3;refine⟨_,rfl,l.J,C,A,_,_,rfl,T,d.cls,d.t9,rfl,(n:Int),rfl,λr D nr x er=>⟨r,n,rfl,er,hn,λfa H7 WM g7 ef=>?_⟩⟩;have DT:=x.trans g7;have f5:=g _ _ (j _ _ (u _ _ (k _ _ (v _ _ c.frees (λz=>y3 z.symm))) (λz=>z2 z.symm))) (λz=>w1 z.symm);refine⟨_,rfl,l.J,C,A,_,_,rfl,DT _ _ T,d.cls,d.t_,rfl,_,rfl,l.fd,_,.inl (st.hd.length:Int),rfl,DT _ _ f5,rfl,?_,λi b8 e8=>?_⟩
 ·have:=dl (ks:=st.fr.map (·.1)) (as:=l.cq);omega
 have keep:∀b o,H b=Z o->b≠l.ha->b≠l.la->b≠l.md->b≠l.fd->i b=Z o:=λb o e n1 n2 n3 n4=>b8 _ _ (DT _ _ (g _ _ (j _ _ (u _ _ (k _ _ (v _ _ e n1)) n2)) n3)) n4;rw[l4 _ (Bk nm),A_ _ _ (by rw[Ya];exact lX Mq)] at e5;rw[l4 _ (Bk nf),A_ _ _ (by rw[Ya];exact lX DS)] at e8;have Mr:H m=aE:=by
  cases e:H m with
  |none=>rfl
  |some o=>
   have hm1:m≠l.ha:=λz=>by rw[z,u _ _ (k _ _ e1) R] at J;cases J
   have hm2:m≠l.la:=λz=>by rw[z,e3] at J;cases J
   rw[u _ _ (k _ _ (v _ _ e hm1)) hm2] at J;cases J
 have en:=c.ne Mr;have Ms:fa∉l.fp/\fa≠m:=by
  have G:D fa=aE:=WM;have h5:∀b o,H b=Z o->b≠l.ha->b≠l.la->b≠l.md->D b=Z o:=λb o e n1 n2 n3=>x _ _ (g _ _ (j _ _ (u _ _ (k _ _ (v _ _ e n1)) n2)) n3);have f1:D l.ha=Z _:=x _ _ (g _ _ (j _ _ (u _ _ (k _ _ e1) R)) Q);have f2:D l.la=Z _:=x _ _ (g _ _ (j _ _ e3) z1);have f3:D l.md=Z _:=x _ _ e5;have f4:D m=Z _:=x _ _ (g _ _ em (λz=>en (by rw[z];simp[JL.fp])));have f5':D l.fd=Z _:=x _ _ f5;have f6:D l.J=Z _:=x _ _ T;refine⟨λz=>?_,tP f4 G⟩;simp only[JL.fp,Yp] at z;rcases z with z|z|z|z|z|z;·exact tP f6 G z
  ·exact tP f1 G z
  ·exact tP f2 G z
  ·exact tP f3 G z
  ·exact tP f5' G z
  ·obtain⟨y,ey⟩:=yx c.mem z;refine tP (h5 _ _ ey ?_ ?_ ?_) G rfl;·exact λq=>y4 (by rw[←q];exact z)
   ·exact λq=>z3 (by rw[←q];exact z)
   ·exact λq=>w2 (by rw[←q];exact z)
 have kt:∀a∈l.fE,∀E:O Int,H a=Z (.tup (E.map V.int))->i a=Z (.tup (E.map V.int)):=λa _ E e=>keep a _ e (eI e c.heads (λz=>by cases z)) (eI e c.jn (λz=>by cases z)) (eI e c.ko (λz=>by cases z)) (eI e c.frees (λz=>by cases z));have L:∀b o,H5 b=Z o->b≠l.fd->i b=Z o:=λb o e n=>b8 _ _ (DT _ _ e) n;have nmd:m≠l.md:=λz=>en (by rw[z];simp[JL.fp]);have nmf:m≠l.fd:=λz=>en (by rw[z];simp[JL.fp]);have ntf:t≠l.fd:=λz=>by
  have:=v _ _ c.frees (λz=>y3 z.symm);rw[←z,nt] at this;cases this
 have Mt:t≠l.la:=λz=>by rw[←z,nt] at X;cases X
 have WO:t≠l.md:=λz=>by
  have:=v _ _ c.ko (λz=>Q z.symm);rw[←z,nt] at this;cases this
 refine⟨_,rfl,q ⟨l.J,l.ha,l.la,l.md,l.fd,l.fE++[t],l.gv++[m],l.cq++[fa]⟩ i rfl (λb o e N=>?_) (λb hb=>?_) ⟨⟨A,L _ _ T x4⟩,?_,?_,?_,?_,?_,?_,?_,?_,?_⟩⟩
 ·simp only[JL.fp,Yp,gV] at N;exact keep b o e N.2.1 N.2.2.1 N.2.2.2.1 N.2.2.2.2.1
 ·simp only[JL.fp,Yp,Yv,Y1,fM] at hb⊢;rcases hb with h|h|h|h|h|h|h;·exact .inl (.inl h)
  ·exact .inl (.inr (.inl h))
  ·exact .inl (.inr (.inr (.inl h)))
  ·exact .inl (.inr (.inr (.inr (.inl h))))
  ·exact .inl (.inr (.inr (.inr (.inr (.inl h)))))
  ·exact .inl (.inr (.inr (.inr (.inr (.inr h)))))
  ·rw[h];exact .inr Mr
 ·show i l.ha=Z (.lst (d9 (st.hd++[st.hd.length])));rw[L _ _ (g _ _ (j _ _ (u _ _ (k _ _ e1) R)) Q) y3,ZeA]
 ·show i l.la=Z (.lst ((l.fE++[t]).map V.ref));rw[L _ _ (g _ _ (j _ _ e3) z1) z2,Yi];rfl
 ·exact jG (F:=λa (E:O Int)=>i a=Z (.tup (E.map V.int))) (L _ _ (g _ _ (j _ _ (u _ _ ht Mt)) WO) ntf) (L2.Paired.bA (we c.lead) λa E h=>kt a h.2 E h.1)
 ·show i l.md=Z (.dK (bJ ((st.mem++[(st.hd.length,[st.hd.length])]).map (·.1)) (l.gv++[m])));rw[L _ _ e5 w1,Yi];rfl
 ·refine jG (F:=λa (p:Nat×O Nat)=>i a=Z (.lst (d9 p.2))) (L _ _ (g _ _ em nmd) nmf) (L2.Paired.bA (we c.mem) λa p h=>keep a _ h.1 ?_ ?_ ?_ ?_);·exact λz=>y4 (by rw[←z];exact h.2)
  ·exact λz=>z3 (by rw[←z];exact h.2)
  ·exact λz=>w2 (by rw[←z];exact h.2)
  ·exact λz=>v1 (by rw[←z];exact h.2)
 ·show i l.fd=Z (.dK (bJ ((st.fr++[(st.hd.length,bG n)]).map (·.1)) (l.cq++[fa])));rw[e8,Yi];rfl
 ·have nfd:fa≠l.fd:=λz=>Ms.1 (by rw[z];simp[JL.fp]);refine jG (F:=λa (p:Nat×O Int)=>i a=Z (.lst (p.2.map V.int))) (b8 _ _ ef nfd) (L2.Paired.bA (we c.free) λa p h=>?_);have no:=c.out a h.2;simp only[JL.fp,Yp,gV] at no;exact keep a _ h.1 no.2.1 no.2.2.1 no.2.2.2.1 no.2.2.2.2.1
 ·have W:=c.nd;have e0:JL.fp ⟨l.J,l.ha,l.la,l.md,l.fd,l.fE++[t],l.gv++[m],l.cq++[fa]⟩=l.fp++[m]:=rfl;rw[e0,Wj];refine⟨W,QS,λa ha b hb=>?_⟩;have eb:b=m:=by simpa using hb
  intro z;rw[z,eb] at ha;exact en ha
 ·intro a ha;have e0:JL.fp ⟨l.J,l.ha,l.la,l.md,l.fd,l.fE++[t],l.gv++[m],l.cq++[fa]⟩=l.fp++[m]:=rfl;rw[e0,Yv];have sT:a∈l.cq++[fa]:=ha;rcases Yv.mp sT with h|h
  ·rintro(z|z);·exact c.out a h z
   ·have e:a=m:=by simpa using z
    obtain⟨y,ey⟩:=yx c.free h;rw[e,Mr] at ey;cases ey
  ·have e:a=fa:=by simpa using h
   rw[e];rintro(z|z);·exact Ms.1 z
   ·exact Ms.2 (by simpa using z)
def Zco{K:ai}{a:U}{ns:O Int}{t:TT}{u:TE}{r:St}{D:U}{H:Hp}{Q:VK}(N:aq K H a (ns.map V.int))(T:ns.length<=1000)(x:H D=aE)(p:Int->cm)(g:Int->V)
  (k:∀z∈ns,∀d,ak H d->∀(E:VK) (F:Hp->Prop),(p z=af->∀h,ak d h->E (g z) h)->(p z=a7->∀h,ak d h->F h)->t (Z (.int z)::r) d λc G=>if c=af then u (Z (.int z)::r) G E else F G)
  (R:∀s,ak H s->s D=Z (.lst ((ns.filter p).map g))->Q (.ref D) s):jN (kA K a) t u r D H Q:=by
 refine Hn (λi j d=>i<=ns.length/\ak H d/\d D=Z (.lst j)/\j=((ns.take i).filter p).map g) ⟨Yw _,cF x _,aT,rfl⟩ (λi j d _ ⟨_,m,_,_⟩=>m.seq N) ?_ ?_
 ·rintro i v j d P ⟨_,m,y,e⟩;obtain⟨z,rfl,n⟩:=m_ P;have A:=(Yl.mp n).1;have J:j.length<sizeLine:=by
   have:=Wn p (ns.take i);rw[Wa] at this;rw[e,Ya,dw];omega
  refine k z (Yj n) d m _ _ (λL h l=>⟨l _ _ y,J,A,λb o q=>?_,aT,?_⟩) (λL h l=>⟨A,m.trans l,l _ _ y,?_⟩)
  ·rw[aN (cE q x)];exact l _ _ (m _ _ q)
  ·rw[e,Y3,n,Wl,Yi]
   grind
  ·rw[e,Y3,n,Wl,Yi]
   grind
 ·grind
theorem BX(x:Int):∀a:O Int,fY (.int x) (a.map V.int)=decide (x∈a)
 |[]=>rfl
 |s::a=>by
  have b:=BX x a;unfold fY at b⊢;rw[Wq,Ja,b];show((s==x)||decide (x∈a))=_
  grind
def Ij(a:O Int):(a.map V.int).all jM=af:=by
 rw[L7,Wp];intro p _;rfl
def jR(a:O Nat)(b:O U)(h:Nat)(c:U):O U:=(a.zip b).map λp=>if p.1=h then c else p.2
theorem OT(h:Nat)(a':U):∀{b:O Nat} {as:O U},b.length=as.length->(bJ b as).map (λc=>if c.1=(.inl (h:Int):Key) then(c.1,V.ref a') else c)=bJ b (jR b as h a')
 |[],[],_=>rfl
 |k::b,a::as,e=>by
  have d:=OT h a' (by simpa using e);have j:bJ (k::b) (a::as)=(Sum.inl (k:Int),V.ref a)::bJ b as:=rfl;have i:jR (k::b) (a::as) h a'=(if k=h then a' else a)::jR b as h a':=rfl;have g:bJ (k::b) ((if k=h then a' else a)::jR b as h a')=(Sum.inl (k:Int),V.ref (if k=h then a' else a))::bJ b (jR b as h a'):=rfl
  grind
 |[],_::_,e=>rfl
 |_::_,[],e=>rfl
def ZeB{h:Nat}(e:b.length=as.length)(d:a9 (bJ b as) (.inl (h:Int))=Z (.ref a)):putK (bJ b as) (.inl (h:Int)) (.ref c)=bJ b (jR b as h c):=by
 unfold putK;rw[bt (by rw[wm,d];rfl)];exact OT h c e
def eY{a:Type}(h:Nat)(v:a)(b:O (Nat×a)):O (Nat×a):=b.map λp=>if p.1=h then(p.1,v) else p
theorem tT{b:Type}(h:Nat)(v:b):∀a:O (Nat×b),(eY h v a).map (·.1)=a.map (·.1)
 |[]=>rfl
 |p::a=>by
  have c:=tT h v a;show(if p.1=h then(p.1,v) else p).1::(eY h v a).map (·.1)=_
  grind
theorem Zcp{v:α}(g:∀k,G m (k,v)):∀{d:O U} {c:O (Nat×α)},Paired F d c->(∀a p,F a p->a∈d->G a p)->Paired G (jR (c.map (·.1)) d h m) (eY h v c):=by
 intro d c e;induction e with
 |nil=>intro _;exact .nil
 |@cons a p d c f t i=>
  intro k;refine .cons ?_ (i λb q l j=>k b q l (Yx _ j))
  grind
theorem PU{h:Nat}{e b:U}:∀{d:O Nat} {c:O U},b∈jR d c h e->b=e\/b∈c
 |[],_,m=>by unfold jR at m;simp at m
 |_::_,[],m=>by unfold jR at m;simp at m
 |k::d,a::c,m=>by
  rcases Yp.mp m with z|z;·grind
  ·rcases PU z with w|w;·exact .inl w
   ·grind
def JS.mG(a:JS)(h:Nat)(v:O Int):JS:={a with fr:=eY h v a.fr}
structure uB(st:JS)(i h:Nat)(t fI:O Int):Prop where
 hd:st.hd[i]?=Z h
 ld:st.ld[i]?=Z t
 fr:st.fr.lookup h=Z fI
 fZ:∀z∈fI,0<=z/\z<t.length
 jz:fI.length<64
 dist:(fI.map λz=>t.getD z.toNat 0).Nodup
inductive Ik(K:ai)(C:U)(g:O V)(H:Hp)(Q:VK)(E:XK):Prop
 |mk (l:JL) (st:JS) (n i h:Nat) (t a d:O Int) (e:U) (q:g=[.ref l.J,.int (i:Int),.ref e]) (p:cZ H C n l st) (m:uB st i h t a) (o:st.fr.length<1000) (k:aq K H e (d.map V.int)) (j:∀(b:JL) (c:Hp),b.J=l.J->b.fp=l.fp->Out l.fp H c->cZ c C n b (st.mG h (a.filter λz=>decide (t.getD z.toNat 0∈d)))->Q .aA c)
abbrev CZ:O ar:=["self","one","sections"]
def E5:aP ["self","one","sections","lead","head"] CZ (aH Ff):=.a8
def Zdn(F:aM K "narrow" "Joins.narrow" Ff f fd)(g:oQ K C)(bl:Bl B):aF P w K B I aL 2 f fd CZ (Ik K C):=by
 refine F.o E5 λs H hr h=>?_;obtain⟨l,st,n,i,h,t,r,E,sl,rfl,d,one,lf,J,q⟩:=h;refine⟨_,(au (h_ (i:=3) E5.nd rfl (kv rfl) (a_ (iL K) (pF K 0) (pv 1))) (au (bV 4 E5.nd (a_ (iL K) (pF K 0) (pv 1))) (av (qc (bI hr) (pF K 0) (pv 4) (jK (x:="section") (fr:=[("sections",2),("lead",3)]) (cl:=[("sections",s.heap.objs.size+1),("lead",s.heap.objs.size+1+1)]) rfl (.gW ⟨rfl,⟨rfl,trivial⟩⟩ ⟨⟨rfl,.inl rfl,.inl rfl,rfl⟩,⟨⟨rfl,.inl rfl,.inl rfl,rfl⟩,trivial⟩⟩) (gn (K:=K) rfl (dt (bI hr) (pF K 0) (pv 4) (λ_ _=>rfl))) (λ_ _ _ _=>yO (iO (nS (K:=K) rfl) (a_ (iT K) (pv 2) (pv 0)) (pv 1) QU)) (λ_ _ _ _=>(pv 0))))))),?_⟩;refine me ?_;intros;have sz:(10000:Nat)<=sizeLine:=by rw[dw];decide
 obtain⟨A,u⟩:=d.obj;obtain⟨fa,WN,W,dz⟩:=p_ (f:=λv:O Int=>HO.lst (v.map V.int)) d.free one.fr;obtain⟨m,L,Mo⟩:∃m,l.fE[i]?=Z m/\H m=Z (.tup (t.map V.int)):=by
  have hl:=cK d.lead;have d5:i<l.fE.length:=by rw[hl];exact(Yl.mp one.ld).1
  obtain⟨y,ey,hy⟩:=gK d.lead (Yc d5);rw[one.ld] at ey;cases ey;exact⟨_,Yc d5,hy⟩
 have Mp:dO (l.fE.map V.ref) (i:Int)=Z (.ref m):=jb (by rw[Yf,L];rfl);have DS:=cK d.free;refine b_ ?_;refine⟨_,rfl,l.J,C,A,_,_,rfl,u,g.cls,g.oM,rfl,_,rfl,l.la,_,_,_,rfl,rfl,aq.of d.jn,Mp,?_⟩;refine b_ ?_;refine⟨_,rfl,l.J,C,A,_,_,rfl,u,g.cls,g.kT,rfl,_,rfl,l.ha,_,_,_,rfl,rfl,aq.of d.heads,qj one.hd,?_⟩;refine⟨_,rfl,l.J,C,A,_,_,rfl,u,g.cls,g.t_,rfl,_,rfl,l.fd,_,rfl,qt d.frees W,fa,rfl,⟨_,aq.of dz⟩,λD hD=>Zco (ns:=r) (aq.of dz) (by have:=one.jz;omega) hD (λz=>decide (t.getD z.toNat 0∈E)) V.int (λz hz R j Kt Kf kt kf=>?_) λR j h1=>?_⟩
 ·have bz:=one.fZ z hz;refine⟨_,rfl,_,rfl,m,_,_,_,rfl,rfl,az.of (j _ _ Mo),oP bz.1 bz.2,_,rfl,sl,_,rfl,.inl (j.seq J),rfl,Ij E,_,rfl,?_⟩;rw[bu Yh,BX];refine bF (λc=>?_) (λc=>?_);·exact⟨_,rfl,kt c R (ak.refl _)⟩
  ·exact kf (by cases e:decide (t.getD z.toNat 0∈E) with|true=>exact absurd e c|false=>rfl) R (ak.refl _)
 ·refine⟨_,rfl,l.J,C,A,_,_,rfl,j _ _ u,g.cls,g.t_,rfl,_,rfl,l.fd,_,.inl (h:Int),rfl,j _ _ d.frees,rfl,?_,λQ N e2=>?_⟩
  ·unfold bJ;rw[Ya,Jf,Ya];omega
  rw[ZeB (by rw[Ya];exact DS.symm) W] at e2;have X:=d.nd;have T:l.fd∈l.fp:=by simp[JL.fp]
  simp only[JL.fp,Yz,Yp,gV] at X;obtain⟨⟨x1,x2,x3,x4,x5⟩,⟨y1,y2,y3,y4⟩,⟨z1,z2,z3⟩,⟨w1,w2⟩,v1,v2⟩:=X;have keep:∀b o,H b=Z o->b≠l.fd->Q b=Z o:=λb o e nb=>N _ _ (j _ _ e) nb;have nD:D∉l.fp:=d.ne hD;have G:D≠l.fd:=λz=>nD (by rw[z];exact T);refine q ⟨l.J,l.ha,l.la,l.md,l.fd,l.fE,l.gv,jR (st.fr.map (·.1)) l.cq h D⟩ Q rfl rfl ((Out.of j).trans (Out.bar N T)) ⟨⟨A,keep _ _ u x4⟩,keep _ _ d.heads y3,keep _ _ d.jn z2,L2.Paired.bA d.lead λa xs e=>keep a _ e (eI e d.frees (λz=>by cases z)),keep _ _ d.ko w1,L2.Paired.bA (we d.mem) λa p e=>keep a _ e.1 (λz=>v1 (by rw[←z];exact e.2)),?_,?_,d.nd,λa ha=>?_⟩
  ·show Q l.fd=Z (.dK (bJ ((eY h _ st.fr).map (·.1)) _));rw[tT];exact e2
  ·exact Zcp (λk=>N _ _ h1 G) d.free λa p e ma=>keep a _ e (λz=>d.out a ma (by rw[z];exact T))
  ·rcases PU ha with rfl|z;·exact nD
   ·exact d.out a z
inductive TY(C:U)(e:O V)(H:Hp)(Q:VK)(E:XK):Prop
 |mk (l:JL) (st:JS) (n i h:Nat) (t b:O Int) (a:Int) (p:e=[.ref l.J,.int (i:Int),.int a]) (o:cZ H C n l st) (k:uB st i h t b) (m:st.fr.length<1000) (j:(a∈b.map (λz=>t.getD z.toNat 0)->∀(d:JL) (c:Hp),d.J=l.J->d.fp=l.fp->Out l.fp H c->cZ c C n d (st.mG h (b.filter λz=>decide (t.getD z.toNat 0∈[a])))->Q (.bl af) c)) (g:(a∉b.map (λz=>t.getD z.toNat 0)->∀c,ak H c->Q (.bl a7) c))
abbrev C0:O ar:=["self","one","section"]
def ZaL:aP C0 C0 (aH Gr):=.a8
def ZhD(F:aM K "say" "Joins.say" Gr f fd)(D:bZ P w K B I 2 "open_at" C xf (yJ C))(o:bZ P w K B I 2 "narrow" C CZ (Ik K C))(bl:Bl B):aF P w K B I aL 3 f fd C0 (TY C):=by
 refine F.o ZaL λs H g h=>?_;obtain⟨l,st,n,i,h,t,b,a,rfl,e,one,y,v,u⟩:=h;refine⟨_,(au (aR (iO (JH rfl) (pv 2) (cQ D g (by decide) (pv 0) (aa (pv 1) ae)) QU) (av (aG gP)) aX) (au (cv (cQ o g (by decide) (pv 0) (aa (pv 1) (aa (c6 (aa (pv 2) ae)) ae)))) (av (aG gP)))),?_⟩;refine me ?_;intros;obtain⟨m,j⟩:=e.obj;refine⟨_,rfl,_,rfl,l.J,m,_,rfl,j,rfl,_,rfl,l,st,n,i,h,t,b,rfl,e,one.hd,one.ld,one.fr,one.fZ,one.jz,λp ns R W d pm T L=>⟨p,_,rfl,.inl (aq.of L),rfl,Ij ns,_,rfl,?_⟩⟩;rw[bt rfl,BX];refine bF (λc=>?_) (λc=>aS ?_)
 ·refine u (λz=>?_) R d;rw[dg (pm.symm.subset z)] at c;cases c
 ·have r:a∈ns:=by
   by_cases z:a∈ns;·exact z
   ·rw[gb z] at c;exact absurd rfl c
  refine⟨_,rfl,l.J,m,_,rfl,d _ _ j,rfl,_,rfl,_,rfl,by show 1<=sizeLine;rw[dw];decide,λq H2 X k N=>?_⟩;exact⟨l,st,n,i,h,t,b,[a],q,rfl,(e.same d).same k,one,y,aq.of N,λA Q G E x J=>v (pm.subset r) A Q G E ((Out.of (d.trans k)).trans x) J⟩
def eA(a:O Nat)(b:O U)(h:Nat):O U:=((a.zip b).filter λp=>decide (p.1≠h)).map (·.2)
def cz{a:Type}(h:Nat)(b:O (Nat×a)):O (Nat×a):=b.filter λp=>decide (p.1≠h)
theorem Ba(h:Nat):∀{b:O Nat} {as:O U},b.length=as.length->gq (bJ b as) (.inl (h:Int))=bJ (b.filter λk=>decide (k≠h)) (eA b as h)
 |[],[],_=>rfl
 |k::b,a::as,e=>by
  have c:=Ba h (by simpa using e);have i:bJ (k::b) (a::as)=(Sum.inl (k:Int),V.ref a)::bJ b as:=rfl;unfold gq at c⊢;rw[i,Wy,Wy];have g:eA (k::b) (a::as) h=(if decide (k≠h)=af then(a::eA b as h) else eA b as h):=by
   unfold eA;rw[WQ,Wy];split<;>rfl
  rw[g,c];by_cases z:k=h;·grind
  ·have d:¬((Sum.inl (k:Int):Key)=.inl (h:Int)):=λw=>z (by have:=Ao w;exact lP this);rw[bt (by simp[d]),bt (by simp[z]),bt (by simp[z])];rfl
 |[],_::_,e=>rfl
 |_::_,[],e=>by simp at e
theorem qf{b:Type}(h:Nat):∀a:O (Nat×b),(cz h a).map (·.1)=(a.map (·.1)).filter λk=>decide (k≠h)
 |[]=>rfl
 |p::a=>by
  have c:=qf h a;unfold cz at c⊢
  grind
theorem G4:∀{d:O U} {c:O (Nat×α)},Paired F d c->(∀a p,F a p->a∈d->p.1≠h->G a p)->Paired G (eA (c.map (·.1)) d h) (cz h c):=by
 intro d c e;induction e with
 |nil=>intro _;exact .nil
 |@cons a p d c f t i=>
  intro k;have n:eA ((p::c).map (·.1)) (a::d) h=(if decide (p.1≠h)=af then(a::eA (c.map (·.1)) d h) else eA (c.map (·.1)) d h):=by
   unfold eA;rw[Wq,WQ,Wy];split<;>rfl
  have m:cz h (p::c)=(if decide (p.1≠h)=af then(p::cz h c) else cz h c):=by
   unfold cz
   grind
  rw[n,m];by_cases z:p.1=h;·grind
  ·rw[bt (by simp[z]),bt (by simp[z])];exact .cons (k a p f Yk z) (i λb q l j g=>k b q l (Yx _ j) g)
theorem Bx{h:Nat}:∀{ks:O Nat} {as:O U},(eA ks as h).Sublist as
 |[],as=>by
  unfold eA;simp_all
 |_::_,[]=>by
  unfold eA;simp_all
 |k::ks,a::as=>by
  have b:=Bx (h:=h) (ks:=ks) (as:=as);have c:eA (k::ks) (a::as) h=(if decide (k≠h)=af then(a::eA ks as h) else eA ks as h):=by
   unfold eA;rw[WQ,Wy];split<;>rfl
  grind
theorem vZ{a:Type}{h k:Nat}(b:k≠h):∀{ps:O (Nat×a)},(cz h ps).lookup k=ps.lookup k
 |[]=>rfl
 |p::ps=>by
  have c:=vZ b (ps:=ps);have d:cz h (p::ps)=(if decide (p.1≠h)=af then(p::cz h ps) else cz h ps):=by
   unfold cz
   grind
  grind
theorem Zcq{i:Type}{F G:U->Nat×i->Prop}{h:Nat}{m:U}{v:i}(j:∀k,G m (k,v)):∀{as:O U} {ps:O (Nat×i)},Paired F as ps->as.Nodup->(ps.map (·.1)).Nodup->a9 (bJ (ps.map (·.1)) as) (.inl (h:Int))=Z (.ref m)->(∀a p,F a p->a∈as->a≠m->G a p)->Paired G as (eY h v ps):=by
 intro as ps s;induction s with
 |nil=>intro _ _ e _;cases e
 |@cons a p as ps f t o=>
  intro d l e k;have g:bJ ((p::ps).map (·.1)) (a::as)=(Sum.inl (p.1:Int),V.ref a)::bJ (ps.map (·.1)) as:=rfl;have H:eY h v (p::ps)=(if p.1=h then(p.1,v) else p)::eY h v ps:=rfl;rw[Yz] at d;rw[Wq,Yz] at l;rw[H];by_cases z:p.1=h
  ·rw[g,gm (by rw[z])] at e;have r:=V.ref.inj (Yo e);have same:eY h v ps=ps:=by
    unfold eY;refine(W8 λq A=>?_).trans (List.map_id _);rw[bu λw=>l.1 (by rw[z,←w];exact Yg.mpr ⟨q,A,rfl⟩)];rfl
   rw[bt z,same,r];refine .cons (j p.1) (L2.Paired.bA (we t) λb q c=>k b q c.1 (Yx _ c.2) λw=>d.1 (by rw[r,←w];exact c.2))
  ·rw[g,fR (p:=((Sum.inl (p.1:Int):Key),V.ref a)) (λw=>z (by have:=Ao w;exact lP this))] at e;rw[bu z];have J:a≠m:=λw=>by
    have:∀{n:O Nat} {bs:O U},a9 (bJ n bs) (.inl (h:Int))=Z (.ref m)->m∈bs:=λ{n}=>by
     induction n with
     |nil=>intro bs q;unfold bJ at q;rw[List.zip_nil_left] at q;cases q
     |cons x xs o=>
      intro bs q;cases bs with
      |nil=>unfold bJ at q;rw[JC] at q;cases q
      |cons b bs=>
       have g:bJ (x::xs) (b::bs)=(Sum.inl (x:Int),V.ref b)::bJ xs bs:=rfl;rw[g] at q;by_cases y:x=h
       ·rw[gm (by rw[y])] at q;have E:=V.ref.inj (Yo q);rw[E];exact Yk
       ·rw[fR (λw=>y (by have:=Ao w;exact lP this))] at q;exact Yx _ (o q)
    exact d.1 (by exact w▸this e)
   exact .cons (k a p f Yk J) (o d.2 l.2 e λb q D c u=>k b q D (Yx _ c) u)
def qW(b:O Int)(a:O (O Int))(i:Nat):O (O Int):=a.set i (bO (a.getD i []) b)
def jL(b a:O Int):(bO b a).length=a.length:=by unfold bO;rw[Ya]
def ZhE(j:∀x∈xs,0<=x/\x<n)(d:∀y∈a,0<=y/\y<xs.length):∀z∈bO xs a,0<=z/\z<n:=λz c=>by
 obtain⟨y,b,rfl⟩:=Yg.mp c;obtain⟨i,h⟩:=d y b;have g:y.toNat<xs.length:=QO
 have e:xs.getD y.toNat 0=xs[y.toNat]:=by rw[Yn,Yc g];rfl
 simp_all
def kX(d:Nat)(b:O Nat)(c:O Nat):O Nat:=b.foldl (λa i=>a.set i d) c
def ie(c:O Int)(a:O Nat)(b:O (O Int)):O (O Int):=a.foldl (qW c) b
def JS.mv(a:JS)(d c:Nat)(e b:O Nat)(g:O Int):JS:=⟨kX d b a.hd,ie g b a.ld,eY d (e++b) (cz c a.mem),cz c a.fr⟩
inductive SD(C:U)(r:O V)(H:Hp)(Q:VK)(E:XK):Prop
 |mk (l:JL) (st:JS) (n a b d h:Nat) (q p e s:O Int) (o:U) (g j:O Nat) (X:r=[.ref l.J,.int (a:Int),.int (b:Int),.ref o]) (W:cZ H C n l st) (R:H o=Z (.tup (e.map V.int))) (T:n<=8) (P:e.length=n) (N:full e=af) (L:st.hd[a]?=Z d) (J:st.hd[b]?=Z h) (G:st.ld[a]?=Z q) (DN:st.ld[b]?=Z p) (K2:(∀t∈st.ld,full t=af/\t.length=n)) (UP:st.ld.length=st.hd.length) (F:st.mem.lookup d=Z g) (D:st.mem.lookup h=Z j) (A:st.fr.lookup d=Z s) (z:d≠h) (y:(∀i∈g,i<st.hd.length)) (x:g.length+j.length<=1000) (v:(st.mem.map (·.1)).Nodup) (u:∀(k:JL) (m:Hp),k.J=l.J->(∀c∈k.fp,c∈l.fp)->Out l.fp H m->cZ m C n k (st.mv h d j g (bO (inv q) (bO e p)))->Q .aA m)
theorem yk{b e:Type}{g:O b->e->O b}(h:∀a i,(g a i).length=a.length):∀(d:O e) (c:O b),(d.foldl g c).length=c.length
 |[],_=>rfl
 |i::d,c=>by
  rw[List.foldl_cons,yk h d,h]
def Oe{a:O β}(h:a[j]?=Z i)(b:O α):(a.take (j+1)).foldl g b=g ((a.take j).foldl g b) i:=by
 rw[Y3,h,List.foldl_append];rfl
def ZfV(a:O Nat)(i k:Nat):(d9 a).set i (.int (k:Int))=d9 (a.set i k):=by
 simp_all
theorem Of{b a:Type}{F:b->a->Prop}{x:b}{y:a}(f:F x y):∀{d:O b} {c:O a} (i:Nat),Paired F d c->Paired F (d.set i x) (c.set i y)
 |_,_,_,.nil=>.nil
 |_,_,0,.cons _ t=>.cons f t
 |_,_,i+1,.cons g t=>.cons g (Of f i t)
def rN(g:full xs=af)(d:full a=af)(e:xs.length=a.length):full (bO xs a)=af:=by
 have c:(bO xs a).Perm ((bG a.length).map λx=>xs.getD x.toNat 0):=(rL d).map _;have h:((bG a.length).map λx=>xs.getD x.toNat 0)=xs:=by
  refine Wu λi=>?_;rw[Yf];by_cases b:i<a.length
  ·rw[m9 b]
   grind
  ·rw[Y4 (by rw[fK];exact eL b),Y4 (dW (my e) (eL b))];rfl
 rw[h] at c;exact tU (c.trans (rL g))
inductive Ku(k:Hp)(l:JL)(j:O Nat)(d:O (O Int))(n:Nat)(h:bS V->St)(g:St)(b:Hp):Prop
 |mk (i:O U) (p:bS V) (v:b l.ha=some (.lst (d9 j))) (u:b l.la=some (.lst (i.map V.ref))) (s:Paired (λa (m:O Int)=>b a=Z (.tup (m.map V.int))) i d) (r:∀t∈d,full t=af/\t.length=n) (q:∀c o,k c=Z o->c≠l.ha->c≠l.la->b c=Z o) (e:g=h p):Ku k l j d n h g b
def UQ(l:JL)(a b i j:Int)(c e d h:U)(g:bS V):St:=[Z (.ref l.J),Z (.int a),Z (.int b),Z (.ref c),Z (.int i),Z (.int j),Z (.ref e),Z (.ref d),Z (.ref h),g]
abbrev K3:O ar:=["self","mover","stayer","turn"]
def tL:aP ["self","mover","stayer","turn","head","old_head","to_mover","to_old_head","moved","number"] K3 (aH FX):=.a8
theorem ZfW(F:aM K "move" "Joins.move" FX f fd)(r:oQ K C)(rJ:HasFn P w K B I 1 "followed" oZ (Kq K))(pV:HasFn P w K B I 1 "turned_back" o_ CT)(bl:Bl B):aF P w K B I aL 2 f fd K3 (SD C):=by
 refine F.o tL λs H hr h=>?_;obtain⟨l,st,n,a,b,A,hb,ta,tb,tn,fm,tu,g,mb,rfl,d,hu,n8,tl,ft,hA,hB,lA,lB,fl,ll,mA,mB,fA,neq,min,lm,ndk,q⟩:=h;refine⟨_,(au (bV 4 tL.nd (a_ (iL K) (pF K 0) (pv 2))) (au (bV 5 tL.nd (a_ (iL K) (pF K 0) (pv 1))) (au (bV 6 tL.nd (aZ rJ hr (aa (a_ (iL K) (pF K 0) (pv 2)) (aa (pv 3) ae)))) (au (bV 7 tL.nd (aZ rJ hr (aa (pv 6) (aa (aZ pV hr (aa (a_ (iL K) (pF K 0) (pv 1)) ae)) ae)))) (au (bV 8 tL.nd (OM (pF K 0) (pv 5) ⟨rfl,rfl,rfl,rfl⟩)) (au (cv (OM (pF K 0) (pv 5) ⟨rfl,rfl,rfl,rfl⟩)) (au (ia gR rfl (gn (K:=K) rfl (pv 8)) (bc 9 tL.nd) (au (Qy (pF K 0) (pv 9) OJ (pv 4)) (av (Qy (pF K 0) (pv 9) OJ (aZ rJ hr (aa (pv 7) (aa (a_ (iL K) (pF K 0) (pv 9)) ae))))))) (av (cv (ni (K:=K) rfl (kh hP PySem.F.slot_list_extend PySem.F.type_list_extend Zb7 (dt (bI hr) (pF K 0) (pv 4) (λ_ _=>rfl)) (aa (pv 8) ae)))))))))))),?_⟩;refine V7 ?_;intros;have sz:(10000:Nat)<=sizeLine:=by rw[dw];decide
 obtain⟨N,ho⟩:=d.obj;have zp:∀{i:Nat} {t:O Int},st.ld[i]?=Z t->∃x,l.fE[i]?=Z x/\H x=Z (.tup (t.map V.int)):=λ{i t} ht=>by
  have hl:=cK d.lead;have d5:i<l.fE.length:=by rw[hl];exact(Yl.mp ht).1
  obtain⟨y,ey,hy⟩:=gK d.lead (Yc d5);rw[ht] at ey;cases ey;exact⟨_,Yc d5,hy⟩
 obtain⟨xa,exa,Mu⟩:=zp lA;obtain⟨xb,exb,Mv⟩:=zp lB;have ata:dO (l.fE.map V.ref) (a:Int)=Z (.ref xa):=jb (by rw[Yf,exa];rfl);have atb:dO (l.fE.map V.ref) (b:Int)=Z (.ref xb):=jb (by rw[Yf,exb];rfl);obtain⟨WR,lta⟩:=fl ta (Yj lA);obtain⟨Mw,Mx⟩:=fl tb (Yj lB);obtain⟨mo,Ap,vmo,WS⟩:=p_ (f:=λv:O Nat=>HO.lst (d9 v)) d.mem mA;obtain⟨ms,mms,vms,hms⟩:=p_ (f:=λv:O Nat=>HO.lst (d9 v)) d.mem mB;obtain⟨fo,mfo,vfo,hfo⟩:=p_ (f:=λv:O Int=>HO.lst (v.map V.int)) d.free fA;have Mq:=cK d.mem;have DS:=cK d.free;have nd:=d.nd;have DU:∀{x:U},x∈l.gv->x∈l.fp:=λ{x} h=>by simp[JL.fp,h]
 simp only[JL.fp,Yz,Yp,gV] at nd;obtain⟨⟨x1,x2,x3,x4,x5⟩,⟨y1,y2,y3,y4⟩,⟨z1,z2,z3⟩,⟨w1,w2⟩,v1,v2⟩:=nd;refine b_ ?_;refine⟨_,rfl,l.J,C,N,_,_,rfl,ho,r.cls,r.kT,rfl,_,rfl,l.ha,_,_,_,rfl,rfl,aq.of d.heads,qj hB,?_⟩;refine b_ ?_;refine⟨_,rfl,l.J,C,N,_,_,rfl,ho,r.cls,r.kT,rfl,_,rfl,l.ha,_,_,_,rfl,rfl,aq.of d.heads,qj hA,?_⟩;refine b_ ?_;refine⟨_,rfl,l.J,C,N,_,_,rfl,ho,r.cls,r.oM,rfl,_,rfl,l.la,_,_,_,rfl,rfl,aq.of d.jn,atb,_,rfl,xb,tu,tb,tn,rfl,az.of Mv,az.of hu,λx R=>by rw[tl,←Mx];exact rV Mw R,QO,λtm H1 WO g1 htm=>?_⟩;refine b_ ?_;refine⟨_,rfl,_,rfl,l.J,C,N,_,_,rfl,g1 _ _ ho,r.cls,r.oM,rfl,_,rfl,l.la,_,_,_,rfl,rfl,aq.of (g1 _ _ d.jn),ata,xa,ta,rfl,g1 _ _ Mu,QO,WR,λti H2 nti g2 DV=>?_⟩;refine⟨tm,ti,bO tn tb,inv ta,rfl,az.of (g2 _ _ htm),az.of DV,?_,by rw[jL];omega,λto H3 DW g3 WT=>?_⟩
 ·rw[gk,lta];exact ZhE (n:=n) (λx R=>by rw[←tl];exact rV ft R) (λy hy=>by rw[tl,←Mx];exact rV Mw hy)
 have kH:=(g1.trans g2).trans g3;generalize Zjo:bO (inv ta) (bO tn tb)=D at WT q;have xg:full D=af/\D.length=n:=by
  rw[←Zjo];refine⟨rN (kR WR) (rN ft Mw QO) (by rw[gk,jL];omega),by rw[jL,jL];exact Mx⟩
 refine b_ ?_;refine⟨_,rfl,l.J,C,N,_,_,rfl,kH _ _ ho,r.cls,r.wc,rfl,l.md,rfl,.inl ⟨_,.inl (kH _ _ d.ko)⟩,_,rfl,_,.inl (A:Int),.ref mo,kH _ _ d.ko,rfl,vmo,λH4 b4 e4=>?_⟩;rw[Ba A (by rw[Ya];exact Mq.symm)] at e4;have o4:=b4 _ _ (kH _ _ ho) x3;have f4:=b4 _ _ (kH _ _ d.frees) (λz=>w1 z.symm);refine⟨_,rfl,l.J,C,N,_,_,rfl,o4,r.cls,r.t_,rfl,l.fd,rfl,.inl ⟨_,.inl f4⟩,_,rfl,_,.inl (A:Int),.ref fo,f4,rfl,vfo,λH5 b5 e5=>?_⟩;rw[Ba A (by rw[Ya];exact DS.symm)] at e5;have L:∀c o,H c=Z o->c≠l.md->c≠l.fd->H5 c=Z o:=λc o e J Q=>b5 _ _ (b4 _ _ (kH _ _ e) J) Q;have e45:H5 l.md=Z _:=b5 _ _ e4 w1;have X:∀{x:U},x∈l.gv->x≠l.ha/\x≠l.la/\x≠l.md/\x≠l.fd:=λ{x} R=>⟨λz=>y4 (by rw[←z];exact R),λz=>z3 (by rw[←z];exact R),λz=>w2 (by rw[←z];exact R),λz=>v1 (by rw[←z];exact R)⟩;have WU:=L _ _ WS (X Ap).2.2.1 (X Ap).2.2.2;have xO:H5 to=Z (.tup (D.map V.int)):=by
  have J:to≠l.md:=λz=>by rw[z,g1.trans g2 _ _ d.ko] at DW;cases DW
  have Q:to≠l.fd:=λz=>by rw[z,g1.trans g2 _ _ d.frees] at DW;cases DW
  exact b5 _ _ (b4 _ _ WT J) Q
 dsimp only;have My:(d9 g).length=g.length:=Ya _;have hlen:∀is:O Nat,(kX hb is st.hd).length=st.hd.length:=λis=>yk (λ_ _=>W6) is st.hd;have Zjp:∀is:O Nat,(ie D is st.ld).length=st.ld.length:=λis=>yk (λ_ _=>by unfold qW;exact W6) is st.ld;refine je (Ku H5 l (kX hb g st.hd) (ie D g st.ld) n (UQ l a b hb A tu tm to mo)) (λqX gZ=>?_) ?_
 ·refine⟨_,rfl,mo,rfl,⟨_,aq.of WU⟩,lZ (K:=K) (a:=mo) (xs:=d9 g) (λj=>Ku H5 l (kX hb (g.take j) st.hd) (ie D (g.take j) st.ld) n (UQ l a b hb A tu tm to mo))
   ⟨l.fE,aE,L _ _ d.heads y2 y3,L _ _ d.jn z1 z2,L2.Paired.bA d.lead λc xs e=>L c _ e (eI e d.ko (λz=>by cases z)) (eI e d.frees (λz=>by cases z)),fl,λc o e _ _=>e,rfl⟩
   (λj σ H6 _ ⟨_,_,_,_,_,_,G,_⟩=>aq.of (G _ _ WU (X Ap).1 (X Ap).2.1)) ?_ ?_⟩
  ·rintro j v σ H6 hj ⟨E,o9,T,k2,k3,k4,G,rfl⟩;rw[Yf] at hj;obtain⟨i,mi,rfl⟩:∃i,g[j]?=Z i/\V.int (i:Int)=v:=by
    cases e:g[j]? with
    |none=>rw[e] at hj;cases hj
    |some i=>rw[e] at hj;exact⟨i,rfl,Yo hj⟩
   have hi:=min i (Yj mi);have il:i<(ie D (g.take j) st.ld).length:=by rw[Zjp];omega
   have Zk4:=cK k3;obtain⟨t,et,DV⟩:=gK k3 (Yc (show i<E.length by omega));obtain⟨ftt,WV⟩:=k4 t (Yj et);have oJ:=G _ _ (L _ _ ho x3 x4) x1 x2;have ixh:lF (d9 (kX hb (g.take j) st.hd)).length (i:Int)=Z i:=by
    rw[JD (ro _) (by rw[Ya,hlen];omega),Y6]
   have ixl:lF (E.map V.ref).length (i:Int)=Z i:=by
    rw[JD (ro _) (by rw[Ya];omega),Y6]
   refine aU ?_;refine⟨_,rfl,_,rfl,l.J,C,N,_,_,rfl,oJ,r.cls,r.kT,rfl,_,rfl,l.ha,_,_,i,rfl,rfl,T,ixh,λH7 b7 e7=>?_⟩;have WW:=b7 _ _ oJ x1;have Aq:=b7 _ _ k2 (λz=>y1 z.symm);have to7:H7 to=Z (.tup (D.map V.int)):=b7 _ _ (G _ _ xO (eI xO (L _ _ d.heads y2 y3) (λz=>by cases z)) (eI xO (L _ _ d.jn z1 z2) (λz=>by cases z))) (eI (G _ _ xO (eI xO (L _ _ d.heads y2 y3) (λz=>by cases z)) (eI xO (L _ _ d.jn z1 z2) (λz=>by cases z))) T (λz=>by cases z));have x7:H7 E[i]=Z (.tup (t.map V.int)):=b7 _ _ DV (eI DV T (λz=>by cases z));have atx:dO (E.map V.ref) (i:Int)=Z (.ref E[i]):=jb (by rw[Yf,Yc (show i<E.length by omega)];rfl);refine⟨_,rfl,_,rfl,l.J,C,N,_,_,rfl,WW,r.cls,r.oM,rfl,_,rfl,l.la,_,_,_,rfl,rfl,aq.of Aq,atx,to,E[i],D,t,rfl,az.of to7,az.of x7,λx R=>by rw[WV,←xg.2];exact rV xg.1 R,by have:=xg.2;omega,λtt H8 WX g8 htt=>?_⟩;refine⟨_,rfl,l.J,C,N,_,_,rfl,g8 _ _ WW,r.cls,r.oM,rfl,_,rfl,l.la,_,_,i,rfl,rfl,g8 _ _ Aq,ixl,λH9 b9 e9=>?_⟩;have gt:(ie D (g.take j) st.ld).getD i []=t:=by rw[Yn,et];rfl
   have eh:kX hb (g.take (j+1)) st.hd=(kX hb (g.take j) st.hd).set i hb:=Oe mi st.hd;have el:ie D (g.take (j+1)) st.ld=(ie D (g.take j) st.ld).set i (bO t D):=by
    have e1:ie D (g.take (j+1)) st.ld=qW D (ie D (g.take j) st.ld) i:=Oe mi st.ld;rw[e1,←gt];rfl
   have Mt:tt≠l.la:=λz=>by rw[z,Aq] at WX;cases WX
   have h9:∀c o,H6 c=Z o->c≠l.ha->c≠l.la->H9 c=Z o:=λc o e J Q=>b9 _ _ (g8 _ _ (b7 _ _ e J)) Q;refine⟨E.set i tt,_,?_,?_,?_,?_,λc o e J Q=>h9 c o (G c o e J Q) J Q,rfl⟩
   ·rw[eh,←ZfV];exact b9 _ _ (g8 _ _ e7) y1
   ·rw[e9,List.map_set]
   ·rw[el];exact Of (F:=λa (xs:O Int)=>H9 a=Z (.tup (xs.map V.int))) (b9 _ _ htt Mt) i (L2.Paired.bA k3 λc xs e=>h9 c _ e (eI e T (λz=>by cases z)) (eI e k2 (λz=>by cases z)))
   ·intro u Ar;rw[el] at Ar;rcases List.mem_or_eq_of_mem_set Ar with z|z;·exact k4 u z
    ·rw[z];exact⟨rN ftt xg.1 (by rw[WV,xg.2]),by rw[jL];exact xg.2⟩
  ·rintro σ H6 ⟨E,o9,T,k2,k3,k4,G,rfl⟩;rw[My,Wg] at T k3 k4;exact gZ _ _ ⟨E,o9,T,k2,k3,k4,G,rfl⟩
 rintro σ H6 ⟨E,o9,T,k2,k3,k4,G,rfl⟩;have oJ:=G _ _ (L _ _ ho x3 x4) x1 x2;have WY:=G _ _ e45 (λz=>y2 z.symm) (λz=>z1 z.symm);have fd6:=G _ _ e5 (λz=>y3 z.symm) (λz=>z2 z.symm);have DX:=X mms;have DY:=X Ap;have zr:∀c o,H c=Z o->c≠l.ha->c≠l.la->c≠l.md->c≠l.fd->H6 c=Z o:=λc o e J Q n3 n4=>G _ _ (L _ _ e n3 n4) J Q;have ms6:=zr _ _ hms DX.1 DX.2.1 DX.2.2.1 DX.2.2.2;have mo6:=zr _ _ WS DY.1 DY.2.1 DY.2.2.1 DY.2.2.2;have WZ:Paired (λc (p:Nat×O Nat)=>H6 c=Z (.lst (d9 p.2))/\c∈l.gv) (eA (st.mem.map (·.1)) l.gv A) (cz A st.mem):=G4 d.mem λc p e mc _=>by
  obtain⟨q1,q2,q3,q4⟩:=X mc;exact⟨zr _ _ e q1 q2 q3 q4,mc⟩
 have lkB:(cz A st.mem).lookup hb=Z mb:=by rw[vZ (λz=>neq z.symm)];exact mB
 obtain⟨xP,Zjq,K4,K5⟩:=p_ (f:=λv:O Nat=>HO.lst (d9 v)) (L2.Paired.bA WZ λ_ _ h=>h.1) lkB;rw[qf] at K4;have Cy:xP∈l.gv:=Bx.subset Zjq;refine⟨_,rfl,l.J,C,N,_,_,rfl,oJ,r.cls,r.wc,rfl,_,rfl,l.md,.ref xP,rfl,qt WY K4,.inl ⟨rfl,_,aq.of K5⟩,_,rfl,xP,mo,_,_,rfl,rfl,K5,mo6,by rw[My,Ya];omega,λH7 b7 e7=>?_⟩;obtain⟨r1,r2,r3,r4⟩:=X Cy;have sub:=Bx (h:=A) (ks:=st.mem.map (·.1)) (as:=l.gv);have Zjr:=Bx (h:=A) (ks:=st.fr.map (·.1)) (as:=l.cq);have W_:∀c∈JL.fp ⟨l.J,l.ha,l.la,l.md,l.fd,E,eA (st.mem.map (·.1)) l.gv A,eA (st.fr.map (·.1)) l.cq A⟩,c∈l.fp:=λc hc=>by
  simp only[JL.fp,Yp] at hc⊢;rcases hc with h|h|h|h|h|h;·exact .inl h
  ·exact .inr (.inl h)
  ·exact .inr (.inr (.inl h))
  ·exact .inr (.inr (.inr (.inl h)))
  ·exact .inr (.inr (.inr (.inr (.inl h))))
  ·exact .inr (.inr (.inr (.inr (.inr (sub.subset h)))))
 have W:∀c o,H6 c=Z o->c≠xP->H7 c=Z o:=λc o e J=>b7 _ _ e J;refine q ⟨l.J,l.ha,l.la,l.md,l.fd,E,eA (st.mem.map (·.1)) l.gv A,eA (st.fr.map (·.1)) l.cq A⟩ H7 rfl W_ (λc o e nc=>?_) ⟨⟨N,W _ _ oJ (λz=>x5 (by rw[z];exact Cy))⟩,W _ _ T (λz=>r1 z.symm),W _ _ k2 (λz=>r2 z.symm),L2.Paired.bA k3 λc xs e=>W c _ e (eI e K5 (λz=>by cases z)),?_,?_,?_,?_,?_,λc hc z=>?_⟩
 ·simp only[JL.fp,Yp,gV] at nc;exact W _ _ (zr _ _ e nc.2.1 nc.2.2.1 nc.2.2.2.1 nc.2.2.2.2.1) (λz=>nc.2.2.2.2.2 (by rw[z];exact Cy))
 ·show H7 l.md=Z (.dK (bJ ((eY hb (mb++g) (cz A st.mem)).map (·.1)) _));rw[tT,qf];exact W _ _ WY (λz=>r3 z.symm)
 ·refine Zcq (F:=λc (p:Nat×O Nat)=>H6 c=Z (.lst (d9 p.2))/\c∈l.gv) (m:=xP) (λk=>?_) WZ (sub.nodup v2) ?_ (by rw[qf];exact K4) λc p e _ nc=>W _ _ e.1 nc
  ·show H7 xP=Z (.lst (d9 (mb++g)));rw[e7,d9,d9,d9,Yi]
  ·rw[qf];exact ndk.filter _
 ·show H7 l.fd=Z (.dK (bJ ((cz A st.fr).map (·.1)) _));rw[qf];exact W _ _ fd6 (λz=>r4 z.symm)
 ·refine G4 d.free λc p e mc _=>?_;have no:=d.out c mc;simp only[JL.fp,Yp,gV] at no;exact W _ _ (zr _ _ e no.2.1 no.2.2.1 no.2.2.2.1 no.2.2.2.2.1) (λz=>no.2.2.2.2.2 (by rw[z];exact Cy))
 ·have e0:(JL.fp ⟨l.J,l.ha,l.la,l.md,l.fd,E,eA (st.mem.map (·.1)) l.gv A,eA (st.fr.map (·.1)) l.cq A⟩).Sublist l.fp:=(((((sub.cons₂ l.fd).cons₂ l.md).cons₂ l.la).cons₂ l.ha).cons₂ l.J);exact e0.nodup d.nd
 ·exact d.out c (Zjr.subset hc) (W_ c z)
structure UR(st:JS)(n a b ha hb:Nat)(ta tb fma As:O Int)(ma mb:O Nat):Prop where
 hA:st.hd[a]?=Z ha
 hB:st.hd[b]?=Z hb
 lA:st.ld[a]?=Z ta
 lB:st.ld[b]?=Z tb
 fl:∀t∈st.ld,full t=af/\t.length=n
 ll:st.ld.length=st.hd.length
 mA:st.mem.lookup ha=Z ma
 mB:st.mem.lookup hb=Z mb
 fA:st.fr.lookup ha=Z fma
 fB:st.fr.lookup hb=Z As
 ne:ha≠hb
 iA:∀i∈ma,i<st.hd.length
 iB:∀i∈mb,i<st.hd.length
 lm:ma.length+mb.length<=1000
 nd:(st.mem.map (·.1)).Nodup
inductive Q4(C:U)(s:O V)(H:Hp)(Q:VK)(E:XK):Prop
 |mk (l:JL) (st:JS) (n a b m k:Nat) (g e d o t:O Int) (r:U) (i h:O Nat) (F:s=[.ref l.J,.int (a:Int),.int (b:Int),.ref r]) (D:cZ H C n l st) (z:H r=Z (.tup (d.map V.int))) (A:n<=8) (y:d.length=n) (x:full d=af) (v:UR st n a b m k g e o t i h) (u:∀(j:JL) (p:JS) (q:Hp),j.J=l.J->(∀c∈j.fp,c∈l.fp)->Out l.fp H q->cZ q C n j p->(p=st.mv k m h i (bO (inv g) (bO (inv d) e))\/p=st.mv m k i h (bO (inv e) (bO d g)))->Q .aA q)
abbrev mI:O ar:=["self","one","other","turn"]
def YW:aP mI mI (aH Et):=.a8
def ZeC(F:aM K "bring_together" "Joins.bring_together" Et f fd)(d:oQ K C)(pV:HasFn P w K B I 1 "turned_back" o_ CT)(AY:bZ P w K B I 2 "move" C K3 (SD C))(bl:Bl B):aF P w K B I aL 3 f fd mI (Q4 C):=by
 refine F.o YW λs H i h=>?_;obtain⟨l,st,n,a,b,ha,X,N,L,m,A,As,J,T,R,rfl,c,W,Q,tl,y,two,q⟩:=h;refine⟨_,(av (aR (bH ny (di K bl (dt (bI i) (pF K 0) (a_ (iL K) (pF K 0) (pv 1)) (λ_ _=>rfl))) (di K bl (dt (bI i) (pF K 0) (a_ (iL K) (pF K 0) (pv 2)) (λ_ _=>rfl)))) (av (cv (cQ AY i (by decide) (pv 0) (aa (pv 1) (aa (pv 2) (aa (aZ pV i (aa (pv 3) ae)) ae)))))) (av (cv (cQ AY i (by decide) (pv 0) (aa (pv 2) (aa (pv 1) (aa (pv 3) ae)))))))),?_⟩;obtain⟨g,e⟩:=c.obj;obtain⟨G,mxa,k,Mu⟩:=p_ (f:=λv:O Nat=>HO.lst (d9 v)) c.mem two.mA;obtain⟨E,mxb,j,Mv⟩:=p_ (f:=λv:O Nat=>HO.lst (d9 v)) c.mem two.mB;refine⟨_,rfl,l.J,C,g,_,_,rfl,e,d.cls,d.wc,rfl,_,rfl,l.J,C,g,_,_,rfl,e,d.cls,d.kT,rfl,_,rfl,l.ha,_,_,_,rfl,rfl,aq.of c.heads,qj two.hA,l.md,.ref G,rfl,qt c.ko k,G,_,rfl,.inl (aq.of Mu),?_⟩;refine⟨_,rfl,l.J,C,g,_,_,rfl,e,d.cls,d.wc,rfl,_,rfl,l.J,C,g,_,_,rfl,e,d.cls,d.kT,rfl,_,rfl,l.ha,_,_,_,rfl,rfl,aq.of c.heads,qj two.hB,l.md,.ref E,rfl,qt c.ko j,E,_,rfl,.inl (aq.of Mv),_,_,rfl,rfl,_,rfl,bF (λ_=>?_) (λ_=>?_)⟩
 ·refine⟨_,rfl,l.J,g,_,rfl,e,rfl,_,rfl,_,rfl,_,rfl,J,m,rfl,W,QO,y,λtv H1 ntv g1 x=>?_⟩;refine⟨l,st,n,a,b,ha,X,N,L,inv m,A,tv,T,R,rfl,c.same g1,x,Q,by rwa[gk],kR y,two.hA,two.hB,two.lA,two.lB,two.fl,two.ll,two.mA,two.mB,two.fA,two.ne,two.iA,two.lm,two.nd,λp D t r o u=>q p _ D t r ((Out.of g1).trans o) u (.inl rfl)⟩
 ·refine⟨_,rfl,l.J,g,_,rfl,e,rfl,_,rfl,_,rfl,_,rfl,?_⟩;exact⟨l,st,n,b,a,X,ha,L,N,m,As,J,R,T,rfl,c,W,Q,tl,y,two.hB,two.hA,two.lB,two.lA,two.fl,two.ll,two.mB,two.mA,two.fB,(λz=>two.ne z.symm),two.iB,by have:=two.lm;omega,two.nd,λp D t r o u=>q p _ D t r o u (.inr rfl)⟩
def TZ(H:Hp)(c:O U)(b:O (Int×Int)):Prop:=Paired (λa (p:Int×Int)=>H a=Z (.tup [.int p.1,.int p.2])) c b
def jP(g e:Nat)(b a c d:O Int):O (Int×Int):=if g=e then c.map λz=>(b.getD z.toNat 0,a.getD z.toNat 0) else(c.map λz=>b.getD z.toNat 0).flatMap λx=>d.map λz=>(x,a.getD z.toNat 0)
inductive Q5(C:U)(m:O V)(H:Hp)(Q:VK)(E:XK):Prop
 |mk (l:JL) (st:JS) (n i j h g:Nat) (c b e d:O Int) (t:m=[.ref l.J,.int (i:Int),.int (j:Int)]) (s:cZ H C n l st) (q:uB st i h c e) (r:uB st j g b d) (o:∀(p:U) (k:O U) (bX:O (Int×Int)) (a:Hp),H p=aE->ak H a->a p=Z (.lst (k.map V.ref))->TZ a k bX->bX.Perm (jP h g c b e d)->bX.Pairwise jO->Q (.ref p) a)
inductive JT(C:U)(r:O V)(H:Hp)(Q:VK)(E:XK):Prop
 |mk (l:JL) (st:JS) (n i j g e:Nat) (b a d c h:O Int) (o:U) (A:r=[.ref l.J,.int (i:Int),.int (j:Int),.ref o]) (z:cZ H C n l st) (x:uB st i g b d) (y:uB st j e a c) (v:H o=some (.tup (h.map V.int))) (u:(∀q∈jP g e b a d c,0<=q.1/\q.1<h.length)) (t:(jP g e b a d c).length<=1000) (s:∀(p:U) (k:O Int) (m:Hp),H p=none->ak H m->m p=some (.lst (k.map V.int))->k.Perm (((jP g e b a d c).filter λq=>decide (h.getD q.1.toNat 0=q.2)).map (·.1))->k.Pairwise (·<·)->Q (.ref p) m)
def Zag:aP mI mI (aH FW):=.a8
theorem ZfX(F:aM K "left" "Joins.left" FW f fd)(FG:bZ P w K B I 3 "pairs" C sA (Q5 C))(bl:Bl B):aF P w K B I aL 4 f fd mI (JT C):=by
 refine F.o Zag λs H hr h=>?_;obtain⟨l,st,n,i,j,hi,hj,ti,tj,si,sj,d,tu,rfl,ja,o1,o2,hu,fZ,jz,q⟩:=h;refine⟨_,(av (aG (Zeg (xs:=["first","second"]) (fr:=[("turn",3)]) (cl:=[("turn",s.heap.objs.size+1)]) rfl (.gW ⟨rfl,trivial⟩ ⟨⟨rfl,.inl rfl,.inl rfl,rfl⟩,trivial⟩) (λ_ _ _ _=>(gO (K:=K) (n:=2) rfl rfl (bw (rR (i:=0) (show(["first","second","turn"]:O ar).Nodup by decide+kernel) rfl (fb rfl)) (bw (rR (i:=1) (show(["first","second","turn"]:O ar).Nodup by decide+kernel) rfl (fb rfl)) gM)))) (gn (K:=K) rfl (cQ FG hr (by decide) (pv 0) (aa (pv 1) (aa (pv 2) ae)))) (λ_ _ _ _=>yO (bH cD (a_ (iT K) (pv 2) (pv 0)) (pv 1))) (λ_ _ _ _=>(pv 0))))),?_⟩;obtain⟨dx,ho⟩:=ja.obj;refine⟨_,rfl,l.J,dx,_,rfl,ho,rfl,_,rfl,_,rfl,l,st,n,i,j,hi,hj,ti,tj,si,sj,rfl,ja,o1,o2,λp J bX H1 np R hp X pm pw=>?_⟩;have pl:=cK X;have al:(J.map V.ref).length=bX.length:=by rwa[Ya]
 have US:=pm.length_eq;refine⟨p,rfl,⟨_,aq.of hp⟩,λD Q=>Zb9 (xs:=J.map V.ref) (λk m r=>k<=bX.length/\ak H1 r/\r D=Z (.lst m)/\m=((bX.take k).filter λq=>decide (d.getD q.1.toNat 0=q.2)).map λq=>V.int q.1) ⟨Yw _,cF Q _,aT,rfl⟩ (λk m r _ ⟨_,g,_,_⟩=>aq.of (g _ _ hp)) ?_ ?_⟩
 ·rintro k v m r t ⟨_,g,G,u⟩ os qO;obtain⟨E,A,rfl⟩:∃E A,os=[E,A]:=by
   match os,qO with
   |[E,A],_=>exact⟨E,A,rfl⟩
  rw[Yf] at t;obtain⟨c,ec,rfl⟩:∃c,J[k]?=Z c/\V.ref c=v:=by
   cases e:J[k]? with
   |none=>rw[e] at t;cases t
   |some c=>rw[e] at t;exact⟨c,rfl,Yo t⟩
  obtain⟨⟨x,y⟩,W,L⟩:=gK X ec;have kl:k<bX.length:=(Yl.mp W).1;have bx:=fZ (x,y) (pm.subset (Yj W));have N:=g _ _ L;have yl:m.length<sizeLine:=by
   have:=Wn (λq:Int×Int=>decide (d.getD q.1.toNat 0=q.2)) (bX.take k);rw[Wa] at this;rw[u,Ya,dw];omega
  refine⟨c,_,rfl,az.of N,rfl,_,_,rfl,aU ⟨_,_,rfl,aU ⟨rfl,⟨[Z (.int x),Z (.int y)],rfl,rfl⟩,?_⟩⟩⟩;refine⟨_,rfl,_,rfl,tu,_,_,_,rfl,rfl,az.of (g _ _ (R _ _ hu)),oP bx.1 bx.2,_,rfl,rfl,_,rfl,?_⟩;have ed:decide (V.int (d.getD x.toNat 0)=V.int y)=decide (d.getD x.toNat 0=y):=by
   rw[Wm,eR,eR];exact⟨V.int.inj,λz=>by rw[z]⟩
  rw[ed];have et:∀(b:cm),decide (d.getD x.toNat 0=y)=b->((bX.take (k+1)).filter λq=>decide (d.getD q.1.toNat 0=q.2)).map (λq=>V.int q.1)=m++(if b=af then[V.int x] else[]):=λb eb=>by
   rw[u,Y3,W,Wl,Yi]
   congr 1
   show([((x,y):Int×Int)].filter _).map _=_;rw[Wy,eb];cases b<;>rfl
  refine bF (λT=>?_) (λT=>?_)
  ·refine⟨_,rfl,G,yl,kl,λb o e=>?_,aT,?_⟩
   ·rw[aN (cE e Q)];exact g _ _ e
   ·rw[et af T];rfl
  ·refine⟨kl,g,G,?_⟩;rw[et a7 (by cases e:decide (d.getD x.toNat 0=y) with|true=>exact absurd e T|false=>rfl)];simp
 ·rintro m r ⟨_,g,G,u⟩;rw[al,Wg] at u;refine q D ((bX.filter λq=>decide (d.getD q.1.toNat 0=q.2)).map (·.1)) r (R.free Q) (R.trans g) (by rw[G,u,Y7];rfl) ((pm.filter _).map _) ?_;rw[Wt];refine(List.Pairwise.and_mem.mp (pw.filter _)).imp ?_;rintro a b ⟨ma,mb,lt⟩;have e1:=eB (Y5.mp ma).2;have e2:=eB (Y5.mp mb).2;rcases lt with lt|⟨e,lt⟩;·exact lt
  ·rw[←e1,←e2,e] at lt;exact absurd lt (Int.lt_irrefl _)
theorem ZhF:∀{c:O V} {d:O Nat},Paired (λy k=>∃a,y=V.ref a/\H a=Z (.tup [.int (g k).1,.int (g k).2])) c d->∃b:O U,c=b.map V.ref/\TZ H b (d.map g):=by
 intro c d i;induction i with
 |nil=>exact⟨[],rfl,.nil⟩
 |cons z t j=>
  obtain⟨a,e,h⟩:=z;obtain⟨b,m,l⟩:=j;exact⟨a::b,by rw[e,m];rfl,.cons h l⟩
def map_range(g:Int->α)(a:O Int):(List.range a.length).map (λk=>g (a.getD k 0))=a.map g:=by
 have b:(List.range a.length).map (λk=>g (a.getD k 0))=((List.range a.length).map λk=>a.getD k 0).map g:=by rw[Y7];rfl
 rw[b,(range_getD a 0)]
def UT(D:U)(H:Hp)(c:O U)(b:O (Int×Int)):Prop:=Paired (λa (p:Int×Int)=>a≠D/\H a=Z (.tup [.int p.1,.int p.2])) c b
theorem Il{d c e:Type}(g:d->c->e)(b:O c):∀a:O d,(a.flatMap λx=>b.map (g x)).length=a.length*b.length
 |[]=>QS
 |x::a=>by rw[List.flatMap_cons,Yd,Il g b a,Ya,Wf,Nat.succ_mul];exact Nat.add_comm _ _
def Zdo{a β c:Type}{g:a->O c}{b:O a}{i:Nat}{x:a}(h:b[i]?=Z x):(b.take (i+1)).flatMap g=(b.take i).flatMap g++g x:=by
 rw[Y3,h,List.flatMap_append];simp
def OU{a:O Int}(b:a.Pairwise (·<=·))(c:a.Nodup):a.Pairwise (·<·):=by
 refine(List.Pairwise.and b (W9.mp c)).imp ?_
 grind
def ZfY(x:Int){a:O Int}(b:a.Pairwise (·<·)):(a.map λy=>((x,y):Int×Int)).Pairwise jO:=by
 rw[Wt];exact b.imp λh=>.inr ⟨rfl,h⟩
def ZfZ{a:O Int}(c:a.Pairwise (·<·))(e:a[k]?=Z x)(d:y∈a.take k):y<x:=by
 obtain⟨i,b,rfl⟩:=Wx.mp d;obtain⟨g,rfl⟩:=Yl.mp e;rw[Wa] at b;rw[List.getElem_take];exact W1.mp c i k (iz b (VG _ _)) g (iz b (Nat.min_le_left _ _))
def Fi:aP ["self","one","other","here","there"] sA (aH Fw):=.a8
theorem ZeD(F:aM K "pairs" "Joins.pairs" Fw f fd)(X:oQ K C)(vE:bZ P w K B I 1 "together" C sA (G3 C))(kN:bZ P w K B I 2 "open_at" C xf (yJ C))(bl:Bl B):aF P w K B I aL 3 f fd sA (Q5 C):=by
 refine F.o Fi λs H hr h=>?_;obtain⟨l,st,n,i,j,hi,hj,ti,Q,u,sj,rfl,L,E,A,q⟩:=h;refine⟨_,(au (aR (fS (dN (cQ vE hr (by decide) (pv 0) (aa (pv 1) (aa (pv 2) ae))))) (av (aG (Zeh (xs:=["first","second"]) (fr:=[("self",0),("other",2)]) (cl:=[("self",s.heap.objs.size+1),("other",s.heap.objs.size+1+1)]) rfl (.gW ⟨rfl,⟨rfl,trivial⟩⟩ ⟨⟨rfl,.inl rfl,.inl rfl,rfl⟩,⟨⟨rfl,.inl rfl,.inl rfl,rfl⟩,trivial⟩⟩) (λ_ _ _ _=>(rR (i:=0) (show(["first","second","self","other"]:O ar).Nodup by decide+kernel) rfl (fb rfl))) (gn (K:=K) rfl (cQ kN hr (by decide) (pv 0) (aa (pv 1) ae))) (λ_ _ _ _=>(gn (K:=K) rfl (cQ kN hr (by decide) (pv 2) (aa (pv 3) ae)))) (λ_ _ _ _=>(rR (i:=1) (show(["first","second","self","other"]:O ar).Nodup by decide+kernel) rfl (fb rfl))) (λ_ _ _ _=>(df (aa (pv 0) (aa (pv 1) ae))))))) aX) (au (h_ (i:=3) Fi.nd rfl (kv rfl) (a_ (iL K) (pF K 0) (pv 1))) (au (h_ (i:=4) Fi.nd rfl (kv rfl) (a_ (iL K) (pF K 0) (pv 2))) (av (aG (iN (Zen (K:=K) rfl) rfl bl.Bs Bh (aa (jK (x:="section") (fr:=[("there",4),("here",3)]) (cl:=[("there",s.heap.objs.size+1+1+1+1),("here",s.heap.objs.size+1+1+1)]) rfl (.gW ⟨rfl,⟨rfl,trivial⟩⟩ ⟨⟨rfl,.inl rfl,.inl rfl,rfl⟩,⟨⟨rfl,.inl rfl,.inl rfl,rfl⟩,trivial⟩⟩) (gn (K:=K) rfl (dt (bI hr) (pF K 0) (a_ (iL K) (pF K 0) (pv 1)) (λ_ _=>rfl))) (λ_ _ _ _=>mf) (λ_ _ _ _=>(df (aa (a_ (iT K) (pv 2) (pv 0)) (aa (a_ (iT K) (pv 1) (pv 0)) ae))))) ae))))))),?_⟩;refine nV ?_;intros;obtain⟨dx,ho⟩:=L.obj;have f1:=E.jz;have f2:=A.jz;refine⟨_,rfl,l.J,dx,_,rfl,ho,rfl,_,rfl,_,rfl,l,st,n,i,j,hi,hj,rfl,L,E.hd,A.hd,_,rfl,?_⟩;by_cases eh:hi=hj
 ·rw[dg eh];refine bQ (aS ?_);have es:u=sj:=by have a:=E.fr;have b:=A.fr;rw[eh,b] at a;exact(Yo a).symm
  have zp:∀{k:Nat} {t:O Int},st.ld[k]?=Z t->∃x,l.fE[k]?=Z x/\H x=Z (.tup (t.map V.int)):=λ{k t} ht=>by
   have hl:=cK L.lead;have d5:k<l.fE.length:=by rw[hl];exact(Yl.mp ht).1
   obtain⟨y,ey,hy⟩:=gK L.lead (Yc d5);rw[ht] at ey;cases ey;exact⟨_,Yc d5,hy⟩
  obtain⟨xi,exi,hxi⟩:=zp E.ld;obtain⟨xj,exj,hxj⟩:=zp A.ld;have ati:dO (l.fE.map V.ref) (i:Int)=Z (.ref xi):=jb (by rw[Yf,exi];rfl);have atj:dO (l.fE.map V.ref) (j:Int)=Z (.ref xj):=jb (by rw[Yf,exj];rfl);obtain⟨fa,WN,vf,dz⟩:=p_ (f:=λv:O Int=>HO.lst (v.map V.int)) L.free E.fr;refine b_ ?_;refine⟨_,rfl,l.J,C,dx,_,_,rfl,ho,X.cls,X.oM,rfl,_,rfl,l.la,_,_,_,rfl,rfl,aq.of L.jn,ati,?_⟩;refine b_ ?_;refine⟨_,rfl,l.J,C,dx,_,_,rfl,ho,X.cls,X.oM,rfl,_,rfl,l.la,_,_,_,rfl,rfl,aq.of L.jn,atj,?_⟩;refine⟨_,rfl,l.J,C,dx,_,_,rfl,ho,X.cls,X.t_,rfl,_,rfl,l.J,C,dx,_,_,rfl,ho,X.cls,X.kT,rfl,_,rfl,l.ha,_,_,_,rfl,rfl,aq.of L.heads,qj E.hd,l.fd,_,rfl,qt L.frees vf,fa,rfl,⟨_,aq.of dz⟩,λD hD=>yw (xs:=u.map V.int) (aq.of dz) (by rw[Ya];omega) hD (λ_=>af) (λk y H1=>∃a,y=V.ref a/\a≠D/\H1 a=Z (.tup [.int (ti.getD (u.getD k 0).toNat 0),.int (Q.getD (u.getD k 0).toNat 0)])) (λk y H1 J b ⟨a,e1,e2,e3⟩=>⟨a,e1,e2,b _ _ e3 e2⟩) (λk v hk H1 N MA Kt Kf kt kf=>?_) λys H1 N h1 pr=>?_⟩
  ·obtain⟨z,rfl,hz⟩:=m_ hk;have gz:u.getD k 0=z:=by rw[Yn,hz];rfl
   have b1:=E.fZ z (Yj hz);have b2:=A.fZ z (by rw[←es];exact Yj hz);refine k_ (cS ?_);refine⟨_,rfl,_,rfl,xi,_,_,_,rfl,rfl,az.of (N _ _ hxi),oP b1.1 b1.2,_,rfl,_,rfl,xj,_,_,_,rfl,rfl,az.of (N _ _ hxj),oP b2.1 b2.2,by show 2<=sizeLine;rw[dw];decide,λa J na G ha=>?_⟩;obtain⟨ys,MA⟩:=MA;exact kt _ J rfl G ⟨a,rfl,(λz=>by rw[z,MA] at na;cases na),by rw[gz];exact ha⟩
  ·rw[A7,Ya] at pr;obtain⟨as,eas,dM⟩:=ZhF (g:=λk=>(ti.getD (u.getD k 0).toNat 0,Q.getD (u.getD k 0).toNat 0)) (L2.Paired.bA pr λy k ⟨a,e1,e2,e3⟩=>⟨a,e1,e3⟩);have em:(List.range u.length).map (λk=>((ti.getD (u.getD k 0).toNat 0,Q.getD (u.getD k 0).toNat 0):Int×Int))=u.map λz=>(ti.getD z.toNat 0,Q.getD z.toNat 0):=map_range (λz=>(ti.getD z.toNat 0,Q.getD z.toNat 0)) u;rw[em] at dM;have al:=cK dM;rw[Ya] at al;rw[eas] at h1;have ndp:(u.map λz=>((ti.getD z.toNat 0,Q.getD z.toNat 0):Int×Int)).Nodup:=by
    have d:=E.dist;rw[W9,Wt] at d⊢;exact d.imp λh e=>h (dJ (·.1) e)
   refine⟨D,as,_,rfl,aq.of h1,dM,ndp,.inl (nG (my al) f1),λfD nM pr2 p2 pw p J np G hp=>?_⟩;refine q p fD nM J (N.free np) (N.trans G) hp (L2.Paired.bA pr2 λ_ _ e=>G _ _ e) ?_ pw;unfold jP;rw[bt eh];exact p2
 ·rw[gb eh];refine cS ?_;refine⟨_,rfl,l.J,dx,_,rfl,ho,rfl,_,rfl,l,st,n,i,hi,ti,u,rfl,L,E.hd,E.ld,E.fr,E.fZ,E.jz,λp T H1 np N pm srt hp=>?_⟩;have nl:=pm.length_eq;rw[Ya] at nl;have sns:=OU srt (pm.nodup_iff.mpr E.dist);refine⟨p,rfl,⟨_,aq.of hp⟩,λD hD=>ZfE (xs:=T.map V.int) (λk ys J=>k<=T.length/\ak H1 J/\J D=Z (.lst ys)/\∃(as:O U) (bX:O (Int×Int)),ys=as.map V.ref/\UT D J as bX/\bX.Perm ((T.take k).flatMap λx=>sj.map λz=>(x,Q.getD z.toNat 0))/\bX.Pairwise jO/\∀p∈bX,p.1∈T.take k) ⟨Yw _,cF hD _,aT,[],[],rfl,.nil,.nil,.nil,λ_ h=>(nomatch h)⟩ (λk ys J _ ⟨_,G,_⟩=>aq.of (G _ _ hp)) ?_ ?_ ?_ (λv σ H R R' m h=>m _ _ h)⟩
  ·rintro k v ys J hk ⟨kl,G,h2,as,bX,ey,pa,pp,pw,pin⟩ os qO;obtain⟨u1,u2,rfl⟩:∃u1 u2,os=[u1,u2]:=by
    match os,qO with
    |[u1,u2],_=>exact⟨u1,u2,rfl⟩
   obtain⟨x,rfl,hx⟩:=m_ hk;have kl':k<T.length:=(Yl.mp hx).1;refine aU ⟨⟨[Z (.int x),u2],rfl,rfl⟩,?_⟩;refine⟨_,rfl,l.J,dx,_,rfl,G _ _ (N _ _ ho),rfl,_,rfl,l,st,n,j,hj,Q,sj,rfl,L.same (N.trans G),A.hd,A.ld,A.fr,A.fZ,A.jz,λp2 u5 H3 mV g3 MB Zjs dB=>?_⟩;have iX:=MB.length_eq;rw[Ya] at iX;have Zjt:=OU Zjs (MB.nodup_iff.mpr A.dist);have pD:p2≠D:=λz=>by rw[z,h2] at mV;cases mV
   have US:=pp.length_eq;rw[Il (λx z=>((x,Q.getD z.toNat 0):Int×Int)) sj (T.take k),Wa] at US;have Zlk:=cK pa;have Zll:min k T.length*sj.length<=64*64:=vr QO (sC f2);refine⟨p2,rfl,⟨_,aq.of dB⟩,p2,u5.map V.int,λk2 gU σ H4=>k2<=u5.length/\ak H1 H4/\H4 D=Z (.lst gU)/\H4 p2=Z (.lst (u5.map V.int))/\(∃A,σ=[Z (.int x),A]++_)/\∃(qY:O U) (xh:O (Int×Int)),gU=qY.map V.ref/\UT D H4 qY xh/\xh=bX++(u5.take k2).map λy=>(x,y),rfl,⟨Yw _,G.trans g3,g3 _ _ h2,dB,⟨u2,rfl⟩,as,bX,ey,L2.Paired.bA pa λ_ _ e=>⟨e.1,g3 _ _ e.2⟩,QS⟩,λk2 gU σ H4 _ ⟨_,_,_,e,_⟩=>aq.of e,?_,?_⟩
   ·rintro k2 v2 gU σ H4 hk2 ⟨k2l,g4,h4,e4,⟨Xa,rfl⟩,qY,xh,DZ,u6,u7⟩;obtain⟨y,rfl,hy⟩:=m_ hk2;have Zju:k2<u5.length:=(Yl.mp hy).1;have Xb:=cK u6;rw[u7,Yd,Ya,Wa] at Xb;refine aU ⟨_,rfl,_,rfl,by show 2<=sizeLine;rw[dw];decide,λa H5 na g5 ha=>⟨g5 _ _ h4,by rw[DZ,Ya,Xb,dw];have:=A.jz;omega,Zju,?_,aT,?_,⟨Z (.int y),rfl⟩,qY++[a],xh++[(x,y)],by rw[DZ,Yi];rfl,?_,?_⟩⟩
    ·intro b o e;rw[aN (cE e hD)];exact g5 _ _ (g4 _ _ e)
    ·rw[aN pD];exact g5 _ _ e4
    ·have aD:a≠D:=λz=>by rw[z,h4] at na;cases na
     exact jG (F:=λa (p:Int×Int)=>a≠D/\upd H5 D _ a=Z (.tup [.int p.1,.int p.2])) ⟨aD,by rw[aN aD];exact ha⟩ (L2.Paired.bA u6 λb p e=>⟨e.1,by rw[aN e.1];exact g5 _ _ e.2⟩)
    ·rw[u7,Y3,hy,Yi,Jt];rfl
   ·rintro gU σ H4 ⟨_,g4,h4,e4,⟨Xa,rfl⟩,qY,xh,DZ,u6,u7⟩;rw[Ya,Wg] at u7;refine⟨⟨[Z (.int x),Xa],rfl,rfl⟩,kl',g4,h4,qY,xh,DZ,u6,?_,?_,λp W=>?_⟩
    ·rw[u7,Zdo (β:=Int) hx];refine pp.append ?_;have:=MB.map λy:Int=>((x,y):Int×Int);rw[Y7] at this;exact this
    ·rw[u7];refine List.pairwise_append.mpr ⟨pw,ZfY x Zjt,λp W q' mq=>.inl ?_⟩;obtain⟨y,_,rfl⟩:=Yg.mp mq;exact ZfZ sns hx (pin p W)
    ·rw[u7] at W;rw[Y3,hx];rcases Yv.mp W with W|W;·exact Ys _ (pin p W)
     ·obtain⟨y,_,rfl⟩:=Yg.mp W;exact Ym _ Yk
  ·rintro ys J ⟨_,G,h2,as,bX,ey,pa,pp,pw,_⟩;rw[Ya,Wg] at pp;rw[ey] at h2;refine q D as bX J (N.free hD) (N.trans G) h2 (L2.Paired.bA pa λ_ _ e=>e.2) (pp.trans ?_) pw;unfold jP;rw[bu eh];exact pm.flatMap_right _
  ·rintro σ H R R' m ⟨x1,e1,x2,x3,x4,e2,e3,e4,x5,e5,l,st,n,i,h,t,fI,e6,j1,j2,j3,j4,j5,j6,k⟩;refine⟨x1,e1,x2,x3,x4,e2,e3,e4,x5,e5,l,st,n,i,h,t,fI,e6,j1,j2,j3,j4,j5,j6,λp T H' a b c d e=>?_⟩;obtain⟨a,e,s,r⟩:=k p T H' a b c d e;exact⟨a,e,s,m _ _ r⟩
def ap(t:O Int)(z:Int):Int:=t.getD z.toNat 0
def JU(a:0<=z)(h:z<t.length):t[z.toNat]?=Z (ap t z):=by
 unfold ap
 grind
def nH(a:full t=af)(b:t.length=n){z:Int}(h:0<=z/\z<n):0<=ap t z/\ap t z<n:=by
 have:=rV a (Yj (JU h.1 QO));omega
def wC(a:full t=af)(c:t.length=n){z:Int}(h:0<=z/\z<n):ap (inv t) (ap t z)=z:=by
 have b:=nH a c h;have d:=BW (xs:=t) (i:=(ap t z).toNat) QO;rw[(J3 b.1),Bj (A9 a) (JU h.1 QO)] at d;have e:ap (inv t) (ap t z)=((z.toNat:Nat):Int):=by
  show(inv t).getD (ap t z).toNat 0=_
  grind
 grind
def Q6(a:full t=af)(b:t.length=n){z:Int}(h:0<=z/\z<n):ap t (ap (inv t) z)=z:=by
 have:=wC (kR a) (by rwa[gk]) h;rw[inv_inv a] at this;exact this
def Ck(c:full t=af)(b:t.length=n){z z':Int}(h:0<=z/\z<n)(d:0<=z'/\z'<n)(e:ap t z=ap t z'):z=z':=by
 have a:=wC c b h;rw[e,wC c b d] at a;exact a.symm
def Cm(h:0<=z/\z<a.length):ap (bO xs a) z=ap xs (ap a z):=by
 show(bO xs a).getD z.toNat 0=_;unfold bO;rw[Yn,Yf,(JU h.1 h.2)];rfl
def JS.ag(a:JS)(i:Nat):Nat:=a.hd.getD i 0
def JS.bW(a:JS)(i:Nat):O Int:=a.ld.getD i []
def JS.cJ(a:JS)(h:Nat):O Int:=(a.fr.lookup h).getD []
def dv(a:JS)(f:Nat->Int):Prop:=∃s:Nat->Int,∀i,i<a.hd.length->s (a.ag i)∈a.cJ (a.ag i)/\f i=ap (a.bW i) (s (a.ag i))
structure WF(n:Nat)(st:JS):Prop where
 ll:st.ld.length=st.hd.length
 fl:∀t∈st.ld,full t=af/\t.length=n
 fr:∀i,i<st.hd.length->∃fI,st.fr.lookup (st.ag i)=Z fI/\fI.Nodup/\∀z∈fI,0<=z/\z<(n:Int)
 mem:∀i,i<st.hd.length->∃ms,st.mem.lookup (st.ag i)=Z ms/\ms.Nodup/\∀k,k∈ms↔k<st.hd.length/\st.ag k=st.ag i
 nm:(st.mem.map (·.1)).Nodup
 lm:∀k∈st.mem.map (·.1),k<st.hd.length
 nf:(st.fr.map (·.1)).Nodup
 lf:∀k∈st.fr.map (·.1),k<st.hd.length
 hf:∀k∈st.fr.map (·.1),∃i,i<st.hd.length/\st.ag i=k
def yn{a:O Nat}(b:a.Nodup)(h:∀x∈a,x<m):a.length<=m:=by
 have l:=b.length_le_of_subset λx c=>Wv.mpr (h x c)
 grind
def AZ{c:O Int}{n:Nat}(d:c.Nodup)(h:∀x∈c,0<=x/\x<(n:Int)):c.length<=n:=by
 have l:=d.length_le_of_subset (l₂:=bG n) λx e=>by
  obtain⟨a,b⟩:=h x e;have:=Yj (m9 (n:=n) (i:=x.toNat) QO)
  grind
 rwa [fK] at l
theorem G5{b:Type}:∀{a:O (Nat×b)} {k:Nat} {v:b},a.lookup k=Z v->k∈a.map (·.1)
 |[],_,_,h=>by simp at h
 |p::a,k,v,h=>by
  rw[W4] at h;by_cases e:k=p.1;·grind
  ·rw[beq_eq_false_iff_ne.mpr e] at h;exact Yx _ (G5 h)
theorem A4{a:Type}(h:Nat)(v:a)(k:Nat):∀ps:O (Nat×a),(eY h v ps).lookup k=if k=h then(ps.lookup h).map λ_=>v else ps.lookup k
 |[]=>by show([]:O (Nat×a)).lookup k=_;simp
 |p::ps=>by
  have b:=A4 h v k ps;have c:eY h v (p::ps)=(if p.1=h then(p.1,v) else p)::eY h v ps:=rfl
  grind
section
variable {n:Nat}{st:JS}
def yQ(h:i<st.hd.length):st.hd[i]?=Z (st.ag i):=by
 unfold JS.ag;rw[Yn,Yc h];rfl
def WF.Cn(a:WF n st)(h:i<st.hd.length):st.ld[i]?=Z (st.bW i):=by
 unfold JS.bW;rw[Yn,Yc (by rwa[a.ll])];rfl
def WF.lN(a:WF n st)(h:i<st.hd.length):full (st.bW i)=af/\(st.bW i).length=n:=a.fl _ (Yj (a.Cn h))
def WF.d_(c:WF n st)(h:i<st.hd.length):st.fr.lookup (st.ag i)=Z (st.cJ (st.ag i))/\(st.cJ (st.ag i)).Nodup/\∀z∈st.cJ (st.ag i),0<=z/\z<(n:Int):=by
 obtain⟨fI,e,a,b⟩:=c.fr i h;have d:st.cJ (st.ag i)=fI:=by unfold JS.cJ;rw[e];rfl
 grind
def WF.dist(c:WF n st)(h:i<st.hd.length):((st.cJ (st.ag i)).map λz=>(st.bW i).getD z.toNat 0).Nodup:=by
 obtain⟨e,a,b⟩:=c.d_ h;rw[W9,Wt];refine(List.Pairwise.and_mem.mp (W9.mp a)).imp ?_;rintro u v ⟨d,mv,ne⟩ z;exact ne (Ck (c.lN h).1 (c.lN h).2 (b u d) (b v mv) z)
def WF.one(c:WF n st)(g:n<=8){i:Nat}(h:i<st.hd.length):uB st i (st.ag i) (st.bW i) (st.cJ (st.ag i)):=by
 obtain⟨e,a,b⟩:=c.d_ h;have:=AZ a b;refine⟨yQ h,c.Cn h,e,λz d=>by rw[(c.lN h).2];exact b z d,QO,c.dist h⟩
def WF.two(a:WF n st)(g:i<st.hd.length)(e:j<st.hd.length)(s:st.hd.length<=400)(p:st.ag i≠st.ag j):∃d c,UR st n i j (st.ag i) (st.ag j) (st.bW i) (st.bW j) (st.cJ (st.ag i)) (st.cJ (st.ag j)) d c/\(d.Nodup/\∀k,k∈d↔k<st.hd.length/\st.ag k=st.ag i)/\(c.Nodup/\∀k,k∈c↔k<st.hd.length/\st.ag k=st.ag j):=by
 obtain⟨d,r,o,l⟩:=a.mem i g;obtain⟨c,q,m,h⟩:=a.mem j e;have u:=yn o λk b=>((l k).mp b).1;have t:=yn m λk b=>((h k).mp b).1;exact⟨d,c,⟨yQ g,yQ e,a.Cn g,a.Cn e,a.fl,a.ll,r,q,(a.d_ g).1,(a.d_ e).1,p,λk b=>((l k).mp b).1,λk b=>((h k).mp b).1,QO,a.nm⟩,⟨o,l⟩,m,h⟩
def WF.Cz(a:WF n st):st.fr.length<=st.hd.length:=by
 have:=yn a.nf a.lf
 grind
def WF.SE(a:WF n st):st.mem.length<=st.hd.length:=by
 have:=yn a.nm a.lm
 grind
def wf0:WF n ⟨[],[],[],[]⟩:=⟨rfl,λ_ h=>(nomatch h),λ_ h=>absurd h (Wo _),λ_ h=>absurd h (Wo _),.nil,λ_ h=>(nomatch h),.nil,λ_ h=>(nomatch h),λ_ h=>(nomatch h)⟩
theorem HM(st:JS)(h k:Nat)(v:O Int)(a:st.fr.lookup h≠aE):(st.mG h v).cJ k=if k=h then v else st.cJ k:=by
 show((eY h v st.fr).lookup k).getD []=_;rw[A4];by_cases e:k=h
 ·rw[bt e,bt e];cases b:st.fr.lookup h with
  |none=>grind
  |some x=>rfl
 ·rw[bu e,bu e];rfl
def WF.mG(c:WF n st)(h:i<st.hd.length):WF n (st.mG (st.ag i) ((st.cJ (st.ag i)).filter p)):=by
 refine⟨c.ll,c.fl,λk g=>?_,c.mem,c.nm,c.lm,?_,?_,?_⟩
 ·obtain⟨e,a,b⟩:=c.d_ g;show ∃d,(eY _ _ st.fr).lookup (st.ag k)=Z d/\_;rw[A4]
  grind
 ·show((eY _ _ st.fr).map (·.1)).Nodup;rw[tT];exact c.nf
 ·show ∀k∈(eY _ _ st.fr).map (·.1),_;rw[tT];exact c.lf
 ·show ∀k∈(eY _ _ st.fr).map (·.1),_;rw[tT];exact c.hf
def yq(j:WF n st)(g:i<st.hd.length)(ss:O Int)(f:Nat->Int):dv (st.mG (st.ag i) ((st.cJ (st.ag i)).filter λz=>decide ((st.bW i).getD z.toNat 0∈ss))) f↔dv st f/\f i∈ss:=by
 have e:st.fr.lookup (st.ag i)≠aE:=by rw[(j.d_ g).1];exact λz=>nomatch z
 constructor
 ·rintro⟨s,h⟩;have c:∀k,k<st.hd.length->s (st.ag k)∈st.cJ (st.ag k)/\f k=ap (st.bW k) (s (st.ag k)):=λk c=>by
   obtain⟨a,b⟩:=h k c;refine⟨?_,b⟩;have d:s (st.ag k)∈(st.mG (st.ag i) ((st.cJ (st.ag i)).filter λz=>decide ((st.bW i).getD z.toNat 0∈ss))).cJ (st.ag k):=a;rw[HM st _ _ _ e] at d
   grind
  refine⟨⟨s,c⟩,?_⟩;obtain⟨a,b⟩:=h i g;have d:s (st.ag i)∈(st.mG (st.ag i) ((st.cJ (st.ag i)).filter λz=>decide ((st.bW i).getD z.toNat 0∈ss))).cJ (st.ag i):=a;rw[HM st _ _ _ e,bt rfl] at d;rw[b];exact eB (Y5.mp d).2
 ·rintro⟨⟨s,h⟩,m⟩;refine⟨s,λk c=>?_⟩;obtain⟨a,b⟩:=h k c;refine⟨?_,b⟩;show s (st.ag k)∈(st.mG (st.ag i) ((st.cJ (st.ag i)).filter λz=>decide ((st.bW i).getD z.toNat 0∈ss))).cJ (st.ag k);rw[HM st _ _ _ e];by_cases z:st.ag k=st.ag i
  ·rw[bt z];rw[z] at a⊢;refine Y5.mpr ⟨a,dg ?_⟩;rw[((h i g).2)] at m;exact m
  ·grind
def Bm(l:WF n st){f:Nat->Int}(d:dv st f)(g c:Nat)(b a:Int)(p:b∈st.cJ g)(o:a∈st.cJ c)(m:g=c->b=a):∃i,dv st i/\∀k,k<st.hd.length->(st.ag k=g->i k=ap (st.bW k) b)/\(st.ag k=c->i k=ap (st.bW k) a):=by
 obtain⟨s,h⟩:=d;refine⟨λk=>ap (st.bW k) ((λq=>if q=g then b else if q=c then a else s q) (st.ag k)),⟨λq=>if q=g then b else if q=c then a else s q,λk j=>⟨?_,rfl⟩⟩,λk j=>⟨λe=>?_,λe=>?_⟩⟩;·grind
 ·grind
 ·grind
def yK(m:WF n st)(k:i<st.hd.length)(g:j<st.hd.length){f:Nat->Int}(d:dv st f):(f i,f j)∈jP (st.ag i) (st.ag j) (st.bW i) (st.bW j) (st.cJ (st.ag i)) (st.cJ (st.ag j)):=by
 obtain⟨s,h⟩:=d;obtain⟨c,b⟩:=h i k;obtain⟨l,a⟩:=h j g;unfold jP;by_cases e:st.ag i=st.ag j
 ·rw[bt e];refine Yg.mpr ⟨s (st.ag i),c,?_⟩;rw[b,a,←e];rfl
 ·rw[bu e];refine Xc.mpr ⟨f i,Yg.mpr ⟨_,c,b.symm⟩,Yg.mpr ⟨_,l,?_⟩⟩;rw[a];rfl
def PV(b:WF n st)(h:i<st.hd.length)(g:j<st.hd.length)(a:∃f,dv st f)(m:(x,y)∈jP (st.ag i) (st.ag j) (st.bW i) (st.bW j) (st.cJ (st.ag i)) (st.cJ (st.ag j))):∃f,dv st f/\f i=x/\f j=y:=by
 obtain⟨E,l⟩:=a;unfold jP at m;by_cases e:st.ag i=st.ag j
 ·rw[bt e] at m;obtain⟨z,c,k⟩:=Yg.mp m;obtain⟨f,d,q⟩:=Bm b l (st.ag i) (st.ag i) z z c c (λ_=>rfl);exact⟨f,d,((q i h).1 rfl).trans (dJ (·.1) k),((q j g).1 e.symm).trans (dJ (·.2) k)⟩
 ·rw[bu e] at m;obtain⟨D,t,s⟩:=Xc.mp m;obtain⟨r,A,v⟩:=Yg.mp t;obtain⟨p,u,o⟩:=Yg.mp s;obtain⟨f,d,q⟩:=Bm b l (st.ag i) (st.ag j) r p A u (λz=>absurd z e);exact⟨f,d,(((q i h).1 rfl).trans v).trans (dJ (·.1) o),((q j g).2 rfl).trans (dJ (·.2) o)⟩
end
theorem OV(a:Nat):∀(mv:O Nat) (hd:O Nat) (i:Nat),i<hd.length->(kX a mv hd)[i]?=if i∈mv then Z a else hd[i]?
 |[],hd,i,h=>rfl
 |k::mv,hd,i,h=>by
  have b:=OV a mv (hd.set k a) i (by rw[W6];exact h);have c:kX a (k::mv) hd=kX a mv (hd.set k a):=rfl
  grind
theorem OW(a:O Int):∀(mv:O Nat) (ld:O (O Int)) (i:Nat),mv.Nodup->i<ld.length->(ie a mv ld)[i]?=if i∈mv then Z (bO (ld.getD i []) a) else ld[i]?
 |[],ld,i,_,h=>rfl
 |k::mv,ld,i,b,h=>by
  obtain⟨e,c⟩:=Yz.mp b;have d:ie a (k::mv) ld=ie a mv (qW a ld k):=rfl;rw[d,(OW a mv (qW a ld k) i c (by unfold qW;rwa[W6]))];by_cases m:i∈mv
  ·unfold qW
   grind
  ·rw[bu m];unfold qW
   grind
def OX(c:Nat)(b a:O Nat):(kX c b a).length=a.length:=yk (λ_ _=>W6) b a
def OY(c:O Int)(b:O Nat)(a:O (O Int)):(ie c b a).length=a.length:=yk (λ_ _=>by unfold qW;exact W6) b a
section
variable {st:JS}
def r9(j:WF n st)(d:∀k,k∈c↔k<st.hd.length/\st.ag k=st.ag a)(h:O Int)(g:i<st.hd.length):(st.mv (st.ag b) (st.ag a) mb c h).ag i=if st.ag i=st.ag a then st.ag b else st.ag i:=by
 show(kX (st.ag b) c st.hd).getD i 0=_;rw[Yn,OV _ _ _ _ g];by_cases e:st.ag i=st.ag a;·grind
 ·rw[bu (λz=>e ((d i).mp z).2),bu e,←Yn];rfl
def JV(g:WF n st)(h:b.Nodup)(d:∀k,k∈b↔k<st.hd.length/\st.ag k=st.ag a)(c:O Int)(l:Nat)(j:i<st.hd.length):(st.mv l (st.ag a) mb b c).bW i=if st.ag i=st.ag a then bO (st.bW i) c else st.bW i:=by
 show(ie c b st.ld).getD i []=_;rw[Yn,OW _ _ _ _ h (by rwa[g.ll])];by_cases e:st.ag i=st.ag a;·rw[bt ((d i).mpr ⟨j,e⟩),bt e];rfl
 ·rw[bu (λz=>e ((d i).mp z).2),bu e,←Yn];rfl
def SG(c a:Nat)(d:O Int)(b:h≠a):(st.mv c a e g d).cJ h=st.cJ h:=by
 show((cz a st.fr).lookup h).getD []=_;rw[vZ b];rfl
def zc(a b:Nat)(c:O Int):(st.mv a b d e c).hd.length=st.hd.length:=OX _ _ _
def WF.mv(c:WF n st)(W:a<st.hd.length)(G:b<st.hd.length)(E:st.ag a≠st.ag b)(D:j.Nodup)(o:∀k,k∈j↔k<st.hd.length/\st.ag k=st.ag a)(Q:d.Nodup)(R:∀k,k∈d↔k<st.hd.length/\st.ag k=st.ag b)(L:st.mem.lookup (st.ag b)=Z d)(H:full h=af)(A:h.length=n):WF n (st.mv (st.ag b) (st.ag a) d j h):=by
 have len:(st.mv (st.ag b) (st.ag a) d j h).hd.length=st.hd.length:=zc _ _ _;have y:∀k,k<st.hd.length->(if st.ag k=st.ag a then st.ag b else st.ag k)≠st.ag a:=λk l=>by
  grind
 have u:(st.mv (st.ag b) (st.ag a) d j h).mem.map (·.1)=(st.mem.map (·.1)).filter λk=>decide (k≠st.ag a):=by
  show(eY _ _ (cz _ st.mem)).map (·.1)=_;rw[tT,qf]
 have p:(st.mv (st.ag b) (st.ag a) d j h).fr.map (·.1)=(st.fr.map (·.1)).filter λk=>decide (k≠st.ag a):=qf _ _;refine⟨?_,λt F=>?_,λi g=>?_,λi g=>?_,?_,?_,?_,?_,?_⟩
 ·show(ie _ _ _).length=(kX _ _ _).length;rw[OY,OX];exact c.ll
 ·obtain⟨i,g,rfl⟩:=Wx.mp F;have v:i<st.hd.length:=by
   have:(ie h j st.ld).length=st.ld.length:=OY _ _ _;have X:i<(ie h j st.ld).length:=g;have:=c.ll;omega
  have e:=JV (mb:=d) c D o h (st.ag b) v;have N:(st.mv (st.ag b) (st.ag a) d j h).bW i=(st.mv (st.ag b) (st.ag a) d j h).ld[i]:=by
   unfold JS.bW;rw[Yn,Yc g];rfl
  rw[←N,e];obtain⟨x,J⟩:=c.lN v;by_cases z:st.ag i=st.ag a;·rw[bt z];exact⟨rN x H QO,by rw[jL];exact A⟩
  ·rw[bu z];exact⟨x,J⟩
 ·rw[len] at g;rw[r9 (mb:=d) c o h g];show ∃m,(cz (st.ag a) st.fr).lookup _=Z m/\_;rw[vZ (y i g)];by_cases e:st.ag i=st.ag a;·rw[bt e];exact⟨_,c.d_ G⟩
  ·rw[bu e];exact⟨_,c.d_ g⟩
 ·rw[len] at g;rw[r9 (mb:=d) c o h g];show ∃q,(eY (st.ag b) (d++j) (cz (st.ag a) st.mem)).lookup _=Z q/\_;rw[A4,vZ (y i g),vZ (λz=>E z.symm),L];have iff:∀k,k<st.hd.length->((st.mv (st.ag b) (st.ag a) d j h).ag k=(if st.ag k=st.ag a then st.ag b else st.ag k)):=λk l=>r9 (mb:=d) c o h l;by_cases e:(if st.ag i=st.ag a then st.ag b else st.ag i)=st.ag b
  ·rw[bt e];refine⟨_,rfl,?_,λk=>?_⟩;·grind
   ·grind
  ·have P:¬st.ag i=st.ag a:=λz=>e (bt z);rw[bu P] at e⊢;rw[bu e];obtain⟨q,s,r,T⟩:=c.mem i g
   grind
 ·rw[u];exact c.nm.filter _
 ·rw[u,len];exact λk l=>c.lm k (Y5.mp l).1
 ·rw[p];exact c.nf.filter _
 ·rw[p,len];exact λk l=>c.lf k (Y5.mp l).1
 ·rw[p,len];intro k l;obtain⟨s,r⟩:=Y5.mp l;obtain⟨i,g,e⟩:=c.hf k s;refine⟨i,g,?_⟩;rw[r9 (mb:=d) c o h g,bu (λz=>eB r (e.symm.trans z))];exact e
def Q7(g:WF n st)(t:a<st.hd.length)(j:b<st.hd.length)(m:st.ag a≠st.ag b)(J:L.Nodup)(p:∀k,k∈L↔k<st.hd.length/\st.ag k=st.ag a)(N:full l=af)(H:l.length=n)(f:Nat->Int):
  dv (st.mv (st.ag b) (st.ag a) mb L (bO (inv (st.bW a)) (bO l (st.bW b)))) f↔∃s:Nat->Int,(∀i,i<st.hd.length->(0<=s (st.ag i)/\s (st.ag i)<(n:Int))/\(st.ag i≠st.ag a->s (st.ag i)∈st.cJ (st.ag i))/\f i=ap (st.bW i) (s (st.ag i)))/\f a=ap l (f b):=by
 obtain⟨D,y⟩:=g.lN t;obtain⟨P,o⟩:=g.lN j;have fi:=kR D;have X:(inv (st.bW a)).length=n:=by rw[gk];exact y
 generalize Q:bO (inv (st.bW a)) (bO l (st.bW b))=d;have G:∀z:Int,0<=z/\z<(n:Int)->ap d z=ap (inv (st.bW a)) (ap l (ap (st.bW b) z)):=λz r=>by
  rw[←Q,Cm (by rw[jL,o];exact r),Cm (by rwa[o])]
 have F:∀z:Int,0<=z/\z<(n:Int)->0<=ap d z/\ap d z<(n:Int):=λz r=>by
  rw[G z r];exact nH fi X (nH N H (nH P o r))
 have R:d.length=n:=by rwa[←Q,jL,jL]
 constructor
 ·rintro⟨s,h⟩;have u:=λi c=>by
   have x:=h i (by rwa[zc]);rw[r9 g p d c,JV g J p d _ c,SG] at x;·exact x
   ·by_cases e:st.ag i=st.ag a;·rw[bt e];exact λz=>m z.symm
    ·rwa[bu e]
  have A:=u b j;rw[bu (λz=>m z.symm),bu (λz=>m z.symm)] at A;have v:=(g.d_ j).2.2 _ A.1;have eq:∀i,i<st.hd.length->f i=ap (st.bW i) (if st.ag i=st.ag a then ap d (s (st.ag b)) else s (st.ag i)):=λi c=>by
   have x:=(u i c).2;by_cases e:st.ag i=st.ag a
   ·rw[bt e,bt e,Cm (by rw[R];exact v)] at x;rw[bt e];exact x
   ·rw[bu e,bu e] at x;rw[bu e];exact x
  refine⟨λq=>if q=st.ag a then ap d (s (st.ag b)) else s q,λi c=>⟨?_,λe=>?_,eq i c⟩,?_⟩
  ·show 0<=(if st.ag i=st.ag a then _ else _)/\(if st.ag i=st.ag a then _ else _)<_;by_cases e:st.ag i=st.ag a;·rw[bt e];exact F _ v
   ·rw[bu e];have x:=(u i c).1;rw[bu e] at x;exact(g.d_ c).2.2 _ x
  ·show(if st.ag i=st.ag a then _ else _)∈_;have x:=(u i c).1;rw[bu e] at x;rwa[bu e]
  ·rw[eq a t,bt rfl,G _ v,Q6 D y (nH N H (nH P o v)),A.2]
 ·rintro⟨s,h,ef⟩;have T:=(h b j).1;have W:=(h a t).1;have E:ap d (s (st.ag b))=s (st.ag a):=by
   rw[G _ T,←(h b j).2.2,←ef,(h a t).2.2,wC D y W]
  refine⟨s,λi c=>?_⟩;rw[zc] at c;rw[r9 g p d c,JV g J p d _ c,SG]
  ·by_cases e:st.ag i=st.ag a
   ·rw[bt e,bt e];refine⟨(h b j).2.1 (λz=>m z.symm),?_⟩;rw[Cm (by rwa[R]),E,←e];exact(h i c).2.2
   ·rw[bu e,bu e];exact⟨(h i c).2.1 e,(h i c).2.2⟩
  ·by_cases e:st.ag i=st.ag a;·rw[bt e];exact λz=>m z.symm
   ·rwa[bu e]
end
section
variable {st:JS}{i j:Nat}{ns:O Int}
def PX{P:O (Int×Int)}(b:ns.Perm ((P.filter λq=>decide (a.getD q.1.toNat 0=q.2)).map (·.1)))(x:Int):x∈ns↔(x,ap a x)∈P:=by
 rw[b.mem_iff,Yg];constructor
 ·rintro⟨⟨u,v⟩,m,rfl⟩;obtain⟨d,c⟩:=Y5.mp m;have e:ap a u=v:=eB c;rw[e];exact d
 ·intro m;exact⟨_,Y5.mpr ⟨m,dg rfl⟩,rfl⟩
abbrev JS.bX(st:JS)(i j:Nat):O (Int×Int):=jP (st.ag i) (st.ag j) (st.bW i) (st.bW j) (st.cJ (st.ag i)) (st.cJ (st.ag j))
def HN(d:st.ag i≠st.ag j)(m:(x,y)∈st.bX i j):(∃z∈st.cJ (st.ag i),ap (st.bW i) z=x)/\∃z∈st.cJ (st.ag j),ap (st.bW j) z=y:=by
 unfold JS.bX jP at m;rw[bu d] at m;obtain⟨n,g,e⟩:=Xc.mp m;obtain⟨c,l,k⟩:=Yg.mp g;obtain⟨b,h,a⟩:=Yg.mp e;exact⟨⟨c,l,k.trans (dJ (·.1) a)⟩,b,h,(dJ (·.2) a)⟩
def SH(a:WF n st)(c:i<st.hd.length)(m:(x,y)∈st.bX i j):0<=x/\x<(n:Int):=by
 obtain⟨h,g⟩:=a.lN c;by_cases e:st.ag i=st.ag j
 ·unfold JS.bX jP at m;rw[bt e] at m;obtain⟨z,b,d⟩:=Yg.mp m;have k:ap (st.bW i) z=x:=dJ (·.1) d;rw[←k];exact nH h g ((a.d_ c).2.2 z b)
 ·obtain⟨⟨z,b,d⟩,_⟩:=HN e m;exact d▸nH h g ((a.d_ c).2.2 z b)
def Q8(c:WF n st)(h:n<=8)(g:i<st.hd.length)(d:j<st.hd.length):(st.bX i j).length<=64:=by
 have a:=AZ (c.d_ g).2.1 (c.d_ g).2.2;have b:=AZ (c.d_ d).2.1 (c.d_ d).2.2;unfold JS.bX jP;by_cases e:st.ag i=st.ag j;·grind
 ·rw[bu e,Il (λ(x z:Int)=>((x,(st.bW j).getD z.toNat 0):Int×Int)),Ya];exact Yy (vr (show _<=8 by omega) (show _<=8 by omega)) (by decide)
def ZeE(b:WF n st)(a:i<st.hd.length)(k:j<st.hd.length)(e:st.ag i=st.ag j)(q:∀x,x∈ns↔(x,ap g x)∈st.bX i j)(f:Nat->Int):dv st f/\f i∈ns↔dv st f/\f j=ap g (f i):=by
 refine tE λd=>?_;constructor
 ·intro m;have c:=(q _).mp m;obtain⟨s,h⟩:=d;unfold JS.bX jP at c;rw[bt e] at c;obtain⟨z,p,o⟩:=Yg.mp c;have u:ap (st.bW j) z=ap g (f i):=dJ (·.2) o;obtain⟨t,r⟩:=b.lN a;have l:=(b.d_ a).2.2;rw[(h j k).2,←e,←(Ck t r (l z p) (l _ (h i a).1) ((dJ (·.1) o).trans (h i a).2)),u]
 ·intro m;have:=yK b a k d
  grind
def Zf0(b:WF n st)(a:i<st.hd.length)(g:j<st.hd.length)(q:st.ag i≠st.ag j)(D:t.Nodup)(G:∀k,k∈t↔k<st.hd.length/\st.ag k=st.ag i)(o:full l=af)(p:l.length=n)(r:∀x,x∈ns↔(x,ap l x)∈st.bX i j)(f:Nat->Int):
  dv (st.mv (st.ag j) (st.ag i) N t (bO (inv (st.bW i)) (bO (inv l) (st.bW j)))) f/\f i∈ns↔dv st f/\f j=ap l (f i):=by
 rw[Q7 b a g q D G (kR o) (by rwa[gk])];obtain⟨v,u⟩:=b.lN a;obtain⟨H,F⟩:=b.lN g;constructor
 ·rintro⟨⟨s,h,L⟩,m⟩;obtain⟨⟨z,E,J⟩,_⟩:=HN q ((r _).mp m);have P:=Ck v u ((b.d_ a).2.2 z E) (h i a).1 (J.trans (h i a).2.2);refine⟨⟨s,λk c=>⟨?_,(h k c).2.2⟩⟩,?_⟩;·grind
  ·have y:0<=f j/\f j<(n:Int):=by rw[(h j g).2.2];exact nH H F (h j g).1
   rw[L,Q6 o p y]
 ·rintro⟨d,e⟩;have m:=yK b a g d;rw[e] at m;obtain⟨s,h⟩:=d;refine⟨⟨s,λk c=>⟨(b.d_ c).2.2 _ (h k c).1,λ_=>(h k c).1,(h k c).2⟩,?_⟩,(r _).mpr m⟩;have A:0<=f i/\f i<(n:Int):=by rw[(h i a).2];exact nH v u ((b.d_ a).2.2 _ (h i a).1)
  rw[e,wC o p A]
def Zf1(c:WF n st)(q:i<st.hd.length)(b:j<st.hd.length)(l:st.ag i≠st.ag j)(t:p.Nodup)(u:∀k,k∈p↔k<st.hd.length/\st.ag k=st.ag j)(D:full g=af)(v:g.length=n)(o:∀x,x∈ns↔(x,ap g x)∈st.bX i j)(f:Nat->Int):
  dv (st.mv (st.ag i) (st.ag j) G p (bO (inv (st.bW j)) (bO g (st.bW i)))) f/\f i∈ns↔dv st f/\f j=ap g (f i):=by
 rw[Q7 c b q (λz=>l z.symm) t u D v];obtain⟨E,A⟩:=c.lN b;constructor
 ·rintro⟨⟨s,h,r⟩,m⟩;obtain⟨_,z,y,F⟩:=HN l ((o _).mp m);have H:=Ck E A ((c.d_ b).2.2 z y) (h j b).1 ((F.trans r.symm).trans (h j b).2.2);refine⟨⟨s,λk a=>⟨?_,(h k a).2.2⟩⟩,r⟩
  grind
 ·rintro⟨d,e⟩;have m:=yK c q b d;rw[e] at m;obtain⟨s,h⟩:=d;exact⟨⟨s,λk a=>⟨(c.d_ a).2.2 _ (h k a).1,λ_=>(h k a).1,(h k a).2⟩,e⟩,(o _).mpr m⟩
end
def ua(b d:JS)(i j:Nat):Prop:=∀a c,a<b.hd.length->c<b.hd.length->(d.ag a=d.ag c↔b.ag a=b.ag c\/(b.ag a=b.ag i/\b.ag c=b.ag j)\/(b.ag a=b.ag j/\b.ag c=b.ag i))
def ZeF(e:st.ag i=st.ag j):ua st st i j:=λa c _ _=>⟨.inl,λh=>h.elim id λh=>h.elim (λh=>h.1.trans (e.trans h.2.symm)) λh=>h.1.trans (e.symm.trans h.2.symm)⟩
def SI(d:WF n st)(e:∀k,k∈g↔k<st.hd.length/\st.ag k=st.ag a)(c:O Int)(j:st.ag a≠st.ag b):ua st (st.mv (st.ag b) (st.ag a) l g c) a b:=λx y i h=>by
 rw[r9 d e c i,r9 d e c h]
 grind
def ua.symm(h:ua st e j i):ua st e i j:=λa c d b=>(h a c d b).trans (or_congr Iff.rfl or_comm)
structure SJ(n:Nat)(st aO:JS)(b:cm)(i j:Nat)(tn:O Int):Prop where
 wf:WF n aO
 len:aO.hd.length=st.hd.length
 yes:b=af->(∃f,dv aO f)/\∀f,dv aO f↔dv st f/\f j=ap tn (f i)
 no:b=a7->aO=st/\∀f,dv st f->f j≠ap tn (f i)
 xD:b=af->ua st aO i j
inductive T3(C:U)(k:O V)(H:Hp)(Q:VK)(E:XK):Prop
 |mk (l:JL) (st:JS) (n i j:Nat) (a:O Int) (g:U) (v:k=[.ref l.J,.int (i:Int),.int (j:Int),.ref g]) (u:cZ H C n l st) (s:WF n st) (t:(∃f,dv st f)) (r:n<=8) (q:st.hd.length<=400) (p:i<st.hd.length) (o:j<st.hd.length) (m:H g=Z (.tup (a.map V.int))) (z:full a=af) (y:a.length=n) (x:∀(b:cm) (d:JL) (h:JS) (e:Hp),d.J=l.J->(∀c∈d.fp,c∈l.fp)->Out l.fp H e->cZ e C n d h->SJ n st h b i j a->Q (.bl b) e)
def NF:aP ["self","one","other","turn","sections"] mI (aH Gq):=.a8
theorem ZhG(F:aM K "tie" "Joins.tie" Gq f fd)(jc:oQ K C)(vP:bZ P w K B I 4 "left" C mI (JT C))(vE:bZ P w K B I 1 "together" C sA (G3 C))(Eu:bZ P w K B I 3 "bring_together" C mI (Q4 C))(vG:bZ P w K B I 2 "narrow" C CZ (Ik K C))(bl:Bl B):aF P w K B I aL 5 f fd mI (T3 C):=by
 refine F.o NF λs H hr h=>?_;obtain⟨l,st,n,i,j,tn,X,rfl,D,g,L,G,m4,k,t,hu,R,tl,q⟩:=h;refine⟨_,(au (bV 4 NF.nd (cQ vP hr (by decide) (pv 0) (aa (pv 1) (aa (pv 2) (aa (pv 3) ae))))) (au (aR (fS (yD (K:=K) rfl (yG (pv 4) (λ_=>rfl)))) (av (aG gP)) aX) (au (aR (fS (dN (cQ vE hr (by decide) (pv 0) (aa (pv 1) (aa (pv 2) ae))))) (av (cv (cQ Eu hr (by decide) (pv 0) (aa (pv 1) (aa (pv 2) (aa (pv 3) ae)))))) aX) (au (cv (cQ vG hr (by decide) (pv 0) (aa (pv 1) (aa (pv 4) ae)))) (av (aG gP)))))),?_⟩;refine VY ?_;intros;obtain⟨dx,ho⟩:=D.obj;have pf:=Q8 g G k t;refine b_ ?_;refine⟨_,rfl,l.J,dx,_,rfl,ho,rfl,_,rfl,_,rfl,_,rfl,l,st,n,i,j,_,_,_,_,_,_,tn,X,rfl,D,g.one G k,g.one G t,hu,λp Q=>by rw[tl];exact SH g k (x:=p.1) (y:=p.2) Q,Yy pf (by decide),λp ns H1 np u Q pm _=>?_⟩;have J:=PX pm;refine mn (λσ E=>σ=[Z (.ref l.J),Z (.int (i:Int)),Z (.int (j:Int)),Z (.ref X),Z (.ref p)]/\E=H1/\ns≠[]) (λnx hn=>?_) ?_
 ·refine⟨_,rfl,_,.inl ⟨_,aq.of Q,rfl⟩,?_⟩;refine bF (λc=>?_) (λc=>aS (hn _ _ ⟨rfl,rfl,λz=>?_⟩))
  ·have e:ns=[]:=by
    cases ns with
    |nil=>rfl
    |cons a r=>cases c
   refine q a7 l st H1 rfl (λ_ h=>h) (Out.of u) (D.same u) ⟨g,rfl,(λz=>nomatch z),λ_=>⟨rfl,λf d z=>?_⟩,(λz=>nomatch z)⟩;have m:=yK g k t d;rw[z] at m;have:=(J _).mpr m;rw[e] at this;cases this
  ·rw[z] at c;exact c rfl
 rintro _ _ ⟨rfl,rfl,nne⟩;refine mn (λσ E=>σ=[Z (.ref l.J),Z (.int (i:Int)),Z (.int (j:Int)),Z (.ref X),Z (.ref p)]/\∃(A:JL) (v:JS),A.J=l.J/\(∀c∈A.fp,c∈l.fp)/\Out l.fp H E/\cZ E C n A v/\E p=Z (.lst (ns.map V.int))/\WF n v/\v.hd.length=st.hd.length/\(∀f,dv v f/\f i∈ns↔dv st f/\f j=ap tn (f i))/\ua st v i j) (λnx hn=>?_) ?_
 ·refine⟨_,rfl,l.J,dx,_,rfl,u _ _ ho,rfl,_,rfl,_,rfl,l,st,n,i,j,_,_,rfl,D.same u,yQ k,yQ t,_,rfl,?_⟩;refine bF (λc=>?_) (λc=>aS (hn _ _ ⟨rfl,l,st,rfl,λ_ h=>h,Out.of u,D.same u,Q,g,rfl,?_,?_⟩))
  ·have ne:st.ag i≠st.ag j:=λz=>by
    rw[dg z] at c;cases c
   obtain⟨ma,mb,two,⟨ph,iY⟩,xQ,W⟩:=g.two k t m4 ne;refine⟨_,rfl,l.J,dx,_,rfl,u _ _ ho,rfl,_,rfl,_,rfl,_,rfl,l,st,n,i,j,_,_,_,_,tn,_,_,X,ma,mb,rfl,D.same u,u _ _ hu,G,tl,R,two,λA v E N k2 o2 j2 es=>hn _ _ ⟨rfl,A,v,N,k2,(Out.of u).trans o2,j2,o2 _ _ Q (D.ne np),?_⟩⟩;obtain⟨fi,li⟩:=g.lN k;obtain⟨fj,lj⟩:=g.lN t;rcases es with rfl|rfl;·exact⟨g.mv k t ne ph iY xQ W two.mB (rN (kR fi) (rN (kR R) fj (by rw[gk];omega)) (by rw[gk,jL];omega)) (by rwa[jL,jL]),zc _ _ _,Zf0 g k t ne ph iY R tl J,SI g iY _ ne⟩
   ·exact⟨g.mv t k (λz=>ne z.symm) xQ W ph iY two.mA (rN (kR fj) (rN R fi QO) (by rw[gk,jL];omega)) (by rwa[jL,jL]),zc _ _ _,Zf1 g k t ne xQ W R tl J,(SI g W _ (λz=>ne z.symm)).symm⟩
  ·have e:st.ag i=st.ag j:=by
    by_cases z:st.ag i=st.ag j;·exact z
    ·rw[gb z] at c;exact absurd rfl c
   exact ZeE g k t e J
  ·have e:st.ag i=st.ag j:=by
    by_cases z:st.ag i=st.ag j;·exact z
    ·rw[gb z] at c;exact absurd rfl c
   exact ZeF e
 rintro _ E ⟨rfl,A,v,N,k2,o2,j2,dB,T,xk,iff,hdj⟩;obtain⟨sU,uZ⟩:=j2.obj;have D0:i<v.hd.length:=by rwa[xk]
 have fl:=T.Cz;refine⟨_,rfl,A.J,sU,_,by rw[N],uZ,rfl,_,rfl,_,rfl,A,v,n,i,_,_,_,ns,p,by rw[N];rfl,j2,T.one G D0,QO,aq.of dB,λl2 H3 k3 k4 o3 j3=>?_⟩;refine q af l2 _ H3 (k3.trans N) (λc hc=>k2 c (by rw[←k4];exact hc)) (λb o e nb=>o3 _ _ (o2 _ _ e nb) λz=>nb (k2 b z)) j3 ⟨T.mG D0,xk,λ_=>⟨?_,λf=>?_⟩,(λz=>nomatch z),λ_=>hdj⟩
 ·obtain⟨x,mx⟩:∃x,x∈ns:=by
   cases ns with
   |nil=>exact absurd rfl nne
   |cons a r=>exact⟨a,Yk⟩
  obtain⟨f,d,e1,e2⟩:=PV g k t L ((J x).mp mx);refine⟨f,(yq T D0 ns f).mpr ((iff f).mpr ⟨d,?_⟩)⟩;rw[e2,e1]
 ·exact(yq T D0 ns f).trans (iff f)
def qz(a b:O Int):Prop:=full a=af/\full b=af/\a.length=b.length/\2<=a.length/\a.length<=8
def Zcr(g:qz xs d)(h:(z,ns)∈Cj xs d):full ns=af/\ns.length=xs.length:=by
 obtain⟨b,a,e,_,_⟩:=g;have c:=Ii b a e;simp[Yp,Y1,fM,Prod.mk.injEq] at h;rcases h with⟨rfl,rfl⟩|⟨rfl,rfl⟩|⟨rfl,rfl⟩|⟨rfl,rfl⟩|⟨rfl,rfl⟩|⟨rfl,rfl⟩|⟨rfl,rfl⟩;·exact⟨b,rfl⟩
 ·exact⟨c,by rw[tR];exact e.symm⟩
 ·exact⟨a,e.symm⟩
 ·exact⟨kR b,gk _⟩
 ·exact⟨kR c,by rw[gk,tR];exact e.symm⟩
 ·exact⟨kR a,by rw[gk];exact e.symm⟩
 ·exact⟨tU (qK _),fK _⟩
structure Fc where
 k:ar
 one:Nat
 aJ:Int
 tn:O Int
abbrev bC:ar:="said"
def gu(F:O Fc)(x y:Nat)(t:O Int):Prop:=∃c∈F,c.k≠bC/\((c.one=x/\c.aJ.toNat=y/\t=c.tn)\/(c.aJ.toNat=x/\c.one=y/\t=inv c.tn))
def ji(n:Nat)(F:O Fc)(g:Nat->bS Int):Prop:=(∀x y t u,gu F x y t->g x=Z u->g y=Z (ap t u))/\(∀c∈F,c.k=bC->∀u,g c.one=Z u->u=c.aJ)/\∀k v,g k=Z v->0<=v/\v<(n:Int)
structure dR(n m:Nat)(c:Fc):Prop where
 one:c.one<m
 iD:c.k≠bC->(0<=c.aJ/\c.aJ.toNat<m)/\full c.tn=af/\c.tn.length=n
def uC(L:Nat->O (Nat×O Int))(x:Nat)(p:Nat×O Int):Nat->O (Nat×O Int):=λz=>if z=x then L x++[p] else L z
def v_{k k':Key}(h:a9 a k=aE):a9 (a++[(k,v)]) k'=if k'=k then Z v else a9 a k':=by
 rw[←l4 v h];exact Zd5 _ _ _ _
def PY:q∈uC L x p z↔q∈L z\/(z=x/\q=p):=by
 unfold uC;by_cases e:z=x
 ·rw[bt e,Yv,e];simp
 ·rw[bu e];simp[e]
def ZeG:¬gu [] x y t:=λ⟨_,m,_⟩=>nomatch m
def rO:gu (F++[c]) x y t↔gu F x y t\/(c.k≠bC/\((c.one=x/\c.aJ.toNat=y/\t=c.tn)\/(c.aJ.toNat=x/\c.one=y/\t=inv c.tn))):=by
 constructor
 ·rintro⟨a,m,d,b⟩;rcases Yv.mp m with m|m;·exact .inl ⟨a,m,d,b⟩
  ·rw[Yq] at m;subst m;exact .inr ⟨d,b⟩
 ·rintro(⟨a,m,h⟩|h);·exact⟨a,Ys _ m,h⟩
  ·exact⟨c,Ym _ Yk,h⟩
theorem lookup_mem:∀{a:O (Nat×α)} {k:Nat} {v:α},a.lookup k=Z v->(k,v)∈a
 |[],_,_,h=>by simp at h
 |p::a,k,v,h=>by
  rw[W4] at h;by_cases e:k=p.1;·grind
  ·rw[beq_eq_false_iff_ne.mpr e] at h;exact Yx _ (lookup_mem h)
theorem mem_lookup:∀{a:O (Nat×α)} {k:Nat} {v:α},(a.map (·.1)).Nodup->(k,v)∈a->a.lookup k=Z v
 |p::a,k,v,b,h=>by
  obtain⟨d,c⟩:=Yz.mp (show(p.1::a.map (·.1)).Nodup from b);rw[W4];rcases Yp.mp h with h|h;·grind
  ·have e:k≠p.1:=λz=>d (by rw[←z];exact Yg.mpr ⟨_,h,rfl⟩);rw[beq_eq_false_iff_ne.mpr e];exact mem_lookup c h
def Bb{k:Nat}(h:a.lookup k=Z v):(a++[q]).lookup k=Z v:=by
 grind
def Og{k:Nat}(h:a.lookup k=aE):(a++[(k,v)]).lookup k=Z v:=by
 grind
def yR(a:∀c∈F,dR n m c)(e:gu F x y t):x<m/\y<m/\full t=af/\t.length=n:=by
 obtain⟨c,b,i,h⟩:=e;obtain⟨⟨l,d⟩,j,k⟩:=(a c b).iD i;have g:=(a c b).one;rcases h with⟨rfl,rfl,rfl⟩|⟨rfl,rfl,rfl⟩;·grind
 ·exact⟨d,g,kR j,by rwa[gk]⟩
inductive dY(F:O Fc)(x:Nat):Nat->Prop
 |refl:dY F x x
 |step {y z:Nat} {t:O Int}:dY F x y->gu F y z t->dY F x z
structure BF(F:O Fc)(n m x:Nat)(a:Int)(g:O (Nat×Int)):Prop where
 nd:(g.map (·.1)).Nodup
 lt:∀p∈g,p.1<m/\0<=p.2/\p.2<(n:Int)
 hd:g.lookup x=Z a
 snd:∀g',ji n F g'->g' x=Z a->∀p∈g,g' p.1=Z p.2
 conn:∀p∈g,dY F x p.1
section
variable {n:Nat}{g:O (Nat×Int)}
def bf0(c:x<m)(d:0<=a/\a<(n:Int)):BF F n m x a [(x,a)]:=by
 refine⟨QS,λp b=>?_,QS,λe _ h p b=>?_,λp b=>?_⟩;·grind
 ·grind
 ·rw[Yq] at b;exact b▸.refl
def BF.len(b:BF F n m x a g):g.length<=m:=by
 have:=yn b.nd λk d=>by
  obtain⟨p,c,rfl⟩:=Yg.mp d;exact(b.lt p c).1
 grind
def BF.add(b:BF F n m x a g)(o:∀c∈F,dR n m c)(e:gu F k y t)(q:g.lookup k=Z v)(s:g.lookup y=aE):BF F n m x a (g++[(y,ap t v)]):=by
 obtain⟨_,j,r,l⟩:=yR o e;have mk:=lookup_mem q;refine⟨?_,λp d=>?_,Bb b.hd,λi c h p d=>?_,λp d=>?_⟩
 ·rw[Yi];refine Wj.mpr ⟨b.nd,QS,λu D w A z=>?_⟩
  grind
 ·rcases Yv.mp d with d|d;·exact b.lt p d
  ·rw[Yq] at d;exact d▸⟨j,nH r l (b.lt _ mk).2⟩
 ·rcases Yv.mp d with d|d;·exact b.snd i c h p d
  ·rw[Yq] at d;exact d▸c.1 k y t v e (b.snd i c h _ mk)
 ·rcases Yv.mp d with d|d;·exact b.conn p d
  ·rw[Yq] at d;exact d▸.step (b.conn _ mk) e
def BF.Ziz(b:BF F n m x a g)(e:gu F k y t)(l:g.lookup k=Z v)(j:g.lookup y=Z i)(o:i≠ap t v):¬∃d,ji n F d/\d x=Z a:=by
 rintro⟨d,c,h⟩;have q:=b.snd d c h _ (lookup_mem j);have p:=c.1 k y t v e (b.snd d c h _ (lookup_mem l))
 grind
def BF.ZhH(b:BF F n m x a g)(k:c∈F)(i:c.k=bC)(l:g.lookup c.one=Z v)(j:v≠c.aJ):¬∃d,ji n F d/\d x=Z a:=by
 rintro⟨d,e,h⟩;exact j (e.2.1 c k i v (b.snd d e h _ (lookup_mem l)))
def Cl(L:Nat->O (Nat×O Int))(g:O (Nat×Int))(r:Nat):Prop:=∀p,g[r]?=Z p->∀q∈L p.1,g.lookup q.1=Z (ap q.2 p.2)
def BF.done(b:BF F n m x a g)(o:∀x y t,(y,t)∈L x↔gu F x y t)(p:∀r,r<g.length->Cl L g r)(i:∀c∈F,c.k=bC->∀u,g.lookup c.one=Z u->u=c.aJ):ji n F (λk=>g.lookup k):=by
 refine⟨λk y t u e j=>?_,i,λk v h=>(b.lt _ (lookup_mem h)).2⟩;obtain⟨r,d,l⟩:=Wx.mp (lookup_mem j);have:=p r d (k,u) (by rw[Yc d,l]) (y,t) ((o _ _ _).mpr e);exact this
end
def A5{a:Type}{b c:O (Nat×a)}{k:Nat}{v:a}(h:b.lookup k=Z v):(b++c).lookup k=Z v:=by
 grind
def Cl.app(b:r<g.length)(c:Cl L g r):Cl L (g++e) r:=λp a q d=>by
 rw[Wd b] at a;exact A5 (c p a q d)
open Classical in
noncomputable def fN (F:O Fc) (n x:Nat):O Int:=(bG n).filter λa=>decide (∃g,ji n F g/\g x=Z a)
def fO(f:Nat->Int)(c:Fc):Prop:=(c.k=bC->f c.one=c.aJ)/\(c.k≠bC->f c.aJ.toNat=ap c.tn (f c.one))
def mW(n m:Nat)(f:Nat->Int):Prop:=∀i,i<m->0<=f i/\f i<(n:Int)
structure dZ(n:Nat)(st:JS)(F:O Fc):Prop where
 wf:WF n st
 eC:∀c∈F,dR n st.hd.length c
 iff:∀f,dv st f↔mW n st.hd.length f/\∀c∈F,fO f c
 live:∃f,dv st f
 conn:∀i j,i<st.hd.length->j<st.hd.length->(st.ag i=st.ag j↔dY F i j)
def Zah{f:Nat->Int}(j:∀c∈F,dR n m c)(inr:mW n m f)(d:∀c∈F,fO f c):∃g,ji n F g/\∀x,x<m->g x=Z (f x):=by
 refine⟨λi=>if i<m then Z (f i) else aE,⟨λu v t a e o=>?_,λc b D u o=>?_,λk v G=>?_⟩,λx E=>bt E⟩
 ·obtain⟨J,y,_,_⟩:=yR j e;obtain⟨c,b,l,h⟩:=e;have s:=(d c b).2 l;obtain⟨_,H,A⟩:=(j c b).iD l;have p:f u=a:=by
   grind
  show(if v<m then Z (f v) else aE)=_;rw[bt y];rcases h with⟨rfl,rfl,rfl⟩|⟨rfl,rfl,rfl⟩;·rw[s,p]
  ·rw[←p,s,wC H A (inr _ (j c b).one)]
 ·have q:(if c.one<m then Z (f c.one) else aE)=Z u:=o;rw[bt (j c b).one] at q;rw[←Yo q];exact(d c b).1 D
 ·have r:(if k<m then Z (f k) else aE)=Z v:=G;by_cases z:k<m
  ·rw[bt z] at r;rw[←Yo r];exact inr k z
  ·grind
def ZaM{f:Nat->Int}(b:∀c∈F,dR n m c)(d:x<m)(inr:mW n m f)(a:∀c∈F,fO f c):∃g,ji n F g/\g x=Z (f x):=by
 obtain⟨g,c,h⟩:=Zah b inr a
 grind
theorem Zai(t:∀c∈F,dR n m c)(inr:mW n m f0)(b:∀c∈F,c.one=x\/fO f0 c)(j:ji n F g)(q:g x=Z a):∃f,mW n m f/\(∀c∈F,fO f c)/\f x=a/\∀i,f i=(g i).getD (f0 i):=by
 refine⟨λi=>(g i).getD (f0 i),λi r=>?_,λc d=>⟨λp=>?_,λk=>?_⟩,by show(g x).getD _=a;rw[q];rfl,λ_=>rfl⟩
 ·show 0<=(g i).getD (f0 i)/\(g i).getD (f0 i)<_;cases e:g i with
  |none=>exact inr i r
  |some v=>exact j.2.2 i v e
 ·show(g c.one).getD (f0 c.one)=_;cases e:g c.one with
  |none=>
   rcases b c d with h|h;·grind
   ·exact h.1 p
  |some v=>exact j.2.1 c d p v e
 ·show(g c.aJ.toNat).getD (f0 c.aJ.toNat)=ap c.tn ((g c.one).getD (f0 c.one));have o:gu F c.one c.aJ.toNat c.tn:=⟨c,d,k,.inl ⟨rfl,rfl,rfl⟩⟩;have l:gu F c.aJ.toNat c.one (inv c.tn):=⟨c,d,k,.inr ⟨rfl,rfl,rfl⟩⟩;cases e:g c.one with
  |some v=>
   rw[j.1 _ _ _ v o e];rfl
  |none=>
   have s:g c.aJ.toNat=aE:=by
    cases z:g c.aJ.toNat with
    |none=>rfl
    |some v=>rw[j.1 _ _ _ v l z] at e;cases e
   rw[s];rcases b c d with h|h;·grind
   ·exact h.2 k
def F2(d:∀c∈F,dR n m c)(inr:mW n m f0)(b:∀c∈F,c.one=x\/fO f0 c)(h:ji n F g)(e:g x=Z a):∃f,mW n m f/\(∀c∈F,fO f c)/\f x=a:=by
 obtain⟨f,k,j,i,_⟩:=Zai d inr b h e
 grind
open Classical in
def Bn:a∈fN F n x↔(0<=a/\a<(n:Int))/\∃g,ji n F g/\g x=Z a:=by
 unfold fN;rw[Y5,eR];refine and_congr_left λ_=>?_;unfold bG;rw[Yg];constructor
 ·rintro⟨i,b,rfl⟩;have:=Wv.mp b;omega
 ·intro h;exact⟨a.toNat,Wv.mpr QO,J3 h.1⟩
section
variable {n x:Nat}{st:JS}{F:O Fc}
def dZ.room(b:dZ n st F)(k:x<st.hd.length)(a:Int):a∈fN F n x↔∃f,dv st f/\f x=a:=by
 rw[Bn];constructor
 ·rintro⟨_,g,r,h⟩;obtain⟨p,q⟩:=b.live;obtain⟨o,l⟩:=(b.iff p).mp q;obtain⟨f,i,j,e⟩:=F2 b.eC o (λc m=>.inr (l c m)) r h;exact⟨f,(b.iff f).mpr ⟨i,j⟩,e⟩
 ·rintro⟨f,d,rfl⟩;obtain⟨i,j⟩:=(b.iff f).mp d;exact⟨i x k,ZaM b.eC k i j⟩
def dZ.put(h:dZ n st F)(l:dR n st.hd.length c)(g:WF n b)(a:b.hd.length=st.hd.length)(d:∃f,dv b f)(iff:∀f,dv b f↔dv st f/\fO f c)(m:∀i j,i<st.hd.length->j<st.hd.length->(b.ag i=b.ag j↔dY (F++[c]) i j)):dZ n b (F++[c]):=by
 refine⟨g,λk e=>?_,λf=>?_,d,by rwa[a]⟩
 ·rw[a];rcases Yv.mp e with e|e;·exact h.eC k e
  ·grind
 ·rw[iff,h.iff,a,and_assoc]
  grind
def PZ(F:O Fc)(n x:Nat):(fN F n x).Pairwise (·<=·)/\(fN F n x).Nodup:=by
 have a:(bG n).Pairwise (·<=·):=by
  unfold bG;rw[Wt];exact List.pairwise_lt_range.imp λh=>QO
 exact⟨a.filter _,(DB.GJ n).filter _⟩
def dZ.opn(e:dZ n st F)(c:x<st.hd.length)(j:ns.Perm ((st.cJ (st.ag x)).map λz=>(st.bW x).getD z.toNat 0))(i:ns.Pairwise (·<=·)):ns=fN F n x:=by
 obtain⟨l,k⟩:=PZ F n x;refine z7 (λa b _ _ p o=>QO) i l (j.trans ((List.perm_ext_iff_of_nodup ((e.wf.dist c)) k).mpr λa=>?_));rw[e.room c,Yg];constructor
 ·rintro⟨z,g,rfl⟩;obtain⟨r,m⟩:=e.live;obtain⟨f,d,q⟩:=Bm e.wf m (st.ag x) (st.ag x) z z g g (λ_=>rfl);exact⟨f,d,(q x c).1 rfl⟩
 ·rintro⟨f,⟨s,h⟩,rfl⟩;exact⟨s (st.ag x),(h x c).1,(h x c).2.symm⟩
def l9(a:i<st.hd.length):(st.more n).ag i=st.ag i:=by
 show(st.hd++[_]).getD i 0=st.hd.getD i 0
 grind
def qa:(st.more n).ag st.hd.length=st.hd.length:=by
 show(st.hd++[_]).getD _ 0=_;simp
def P0(a:WF n st)(b:i<st.hd.length):(st.more n).bW i=st.bW i:=by
 show(st.ld++[_]).getD i []=st.ld.getD i [];rw[Yn,Wd (by rwa[a.ll]),←Yn]
def OZ(a:WF n st):(st.more n).bW st.hd.length=bG n:=by
 show(st.ld++[_]).getD _ []=_;rw[←a.ll];simp
theorem Gv{b:Type}{a:O (Nat×b)}{k:Nat}{v:b}(h:k∉a.map (·.1)):(a++[(k,v)]).lookup k=Z v:=by
 refine Og ?_;cases e:a.lookup k with
 |none=>rfl
 |some x=>exact absurd (G5 e) h
def jJ:(st.more n).hd.length=st.hd.length+1:=by
 show(st.hd++[_]).length=_;simp
def Zdp(n:Nat):full (bG n)=af/\(bG n).length=n:=⟨tU (qK (bG n)),fK n⟩
def Q9(h:0<=z/\z<(n:Int)):ap (bG n) z=z:=by
 show(bG n).getD z.toNat 0=z;rw[Yn,m9 QO]
 grind
def Im:z∈bG n↔0<=z/\z<(n:Int):=by
 unfold bG;rw[Yg];constructor;·grind
 ·intro h;exact⟨z.toNat,Wv.mpr QO,J3 h.1⟩
def WF.zG(a:WF n st)(b:i<st.hd.length):st.ag i<st.hd.length:=a.lf _ (G5 (a.d_ b).1)
def WF.more(c:WF n st):WF n (st.more n):=by
 have p:st.hd.length∉st.mem.map (·.1):=λz=>Wb _ (c.lm _ z);have q:=λz=>Wb _ (c.lf _ z);have s:(st.more n).mem.map (·.1)=st.mem.map (·.1)++[st.hd.length]:=by
  show(st.mem++[(st.hd.length,[st.hd.length])]).map (·.1)=_;rw[Yi];rfl
 have o:(st.more n).fr.map (·.1)=st.fr.map (·.1)++[st.hd.length]:=by
  show(st.fr++[(st.hd.length,bG n)]).map (·.1)=_;rw[Yi];rfl
 have r:∀{m:O Nat},m.Nodup->st.hd.length∉m->(m++[st.hd.length]).Nodup:=λ{m} h E=>Wj.mpr ⟨h,QS,λu v w A z=>by
  have:w=st.hd.length:=by simpa using A
  rw[z,this] at v;exact E v⟩
 refine⟨?_,λt D=>?_,λi d=>?_,λi d=>?_,?_,?_,?_,?_,?_⟩
 ·show(st.ld++[_]).length=(st.hd++[_]).length;rw[Yd,Yd,c.ll];rfl
 ·rcases Yv.mp (D) with h|h;·exact c.fl t h
  ·rw[Yq] at h;exact h▸Zdp n
 ·rw[jJ] at d;by_cases z:i=st.hd.length
  ·rw[z,qa];exact⟨bG n,Gv q,DB.GJ n,λ z=>Im.mp⟩
  ·rw[l9 (eH (eJ d) z)];exact⟨_,Bb (c.d_ (eH (eJ d) z)).1,(c.d_ (eH (eJ d) z)).2⟩
 ·rw[jJ] at d;by_cases z:i=st.hd.length
  ·rw[z,qa];refine⟨[st.hd.length],Gv p,QS,λk=>?_⟩;rw[Yq,jJ];constructor
   ·rintro rfl;exact⟨(r0 _),qa⟩
   ·rintro⟨g,j⟩;by_cases w:k=st.hd.length;·exact w
    ·rw[l9 (eH (eJ g) w)] at j;have:=c.zG (i:=k) (eH (eJ g) w);omega
  ·obtain⟨y,e,a,b⟩:=c.mem i (eH (eJ d) z);rw[l9 (eH (eJ d) z)];refine⟨y,Bb e,a,λk=>?_⟩;rw[b,jJ];constructor
   ·rintro⟨g,j⟩;exact⟨(oO g),by rwa[l9 g]⟩
   ·rintro⟨g,j⟩;by_cases w:k=st.hd.length
    ·rw[w,qa] at j;have:=c.zG (i:=i) (eH (eJ d) z);omega
    ·rw[l9 (eH (eJ g) w)] at j;exact⟨(eH (eJ g) w),j⟩
 ·exact s▸r c.nm p
 ·rw[s,jJ];intro k l;rcases Yv.mp l with h|h;·have:=c.lm k h;exact oO this
  ·rw[Yq] at h;exact rz (my h)
 ·exact o▸r c.nf q
 ·rw[o,jJ];intro k l;rcases Yv.mp l with h|h;·have:=c.lf k h;exact oO this
  ·rw[Yq] at h;exact rz (my h)
 ·rw[o,jJ];intro k l;rcases Yv.mp l with h|h
  ·obtain⟨i,d,e⟩:=c.hf k h;exact⟨i,(oO d),by rwa[l9 d]⟩
  ·rw[Yq] at h;exact⟨st.hd.length,(r0 _),by rw[qa,h]⟩
def O0(c:WF n st)(f:Nat->Int):dv (st.more n) f↔dv st f/\(0<=f st.hd.length/\f st.hd.length<(n:Int)):=by
 have g:(st.more n).cJ st.hd.length=bG n:=by
  show((st.fr++[(st.hd.length,bG n)]).lookup st.hd.length).getD []=_;rw[Gv (λz=>Wb _ (c.lf _ z))];rfl
 have e:∀i,i<st.hd.length->(st.more n).cJ (st.ag i)=st.cJ (st.ag i):=λi a=>by
  show((st.fr++[(st.hd.length,bG n)]).lookup _).getD []=_;rw[Bb (c.d_ a).1];rfl
 constructor
 ·rintro⟨s,h⟩;refine⟨⟨s,λi a=>?_⟩,?_⟩
  ·have x:=h i (by rw[jJ];exact oO a);rw[l9 a,P0 c a,e i a] at x;exact x
  ·have x:=h st.hd.length (by rw[jJ];exact r0 _);rw[qa,OZ c,g] at x;have b:=Im.mp x.1;rwa[x.2,Q9 b]
 ·rintro⟨⟨s,h⟩,b⟩;refine⟨λq=>if q=st.hd.length then f st.hd.length else s q,λi a=>?_⟩;rw[jJ] at a;by_cases z:i=st.hd.length
  ·rw[z,qa,OZ c,g];show(if st.hd.length=st.hd.length then _ else _)∈_/\f st.hd.length=ap _ (if st.hd.length=st.hd.length then _ else _);rw[bt rfl,Q9 b];exact⟨Im.mpr b,rfl⟩
  ·have d:i<st.hd.length:=(eH (eJ a) z)
   have:=c.zG d;rw[l9 d,P0 c d,e i d]
   grind
theorem Zf2(a:∀c∈F,dR n m c)(h:dY F x y)(b:x<m):y<m:=by
 cases h with
 |refl=>exact b
 |step _ e=>exact(yR a e).2.1
theorem dZ.more(a:dZ n st F)(v:0<n):dZ n (st.more n) F:=by
 refine⟨a.wf.more,λc r=>?_,λf=>?_,?_,λi j d m=>?_⟩
 ·have ok:=a.eC c r;exact jJ▸⟨Ws ok.one,λp=>⟨⟨(ok.iD p).1.1,Ws (ok.iD p).1.2⟩,(ok.iD p).2⟩⟩
 ·rw[O0 a.wf,a.iff,jJ];constructor
  ·rintro⟨⟨o,q⟩,y⟩;refine⟨λi d=>?_,q⟩;by_cases z:i=st.hd.length;·rwa[z]
   ·exact o i (eH (eJ d) z)
  ·rintro⟨o,q⟩;exact⟨⟨λi d=>o i (oO d),q⟩,o _ (r0 _)⟩
 ·obtain⟨u,s,h⟩:=a.live;refine⟨λi=>if i=st.hd.length then 0 else u i,(O0 a.wf _).mpr ⟨⟨s,λi d=>?_⟩,?_⟩⟩;·grind
  ·grind
 ·rw[jJ] at d m;by_cases l:i=st.hd.length
  ·by_cases g:j=st.hd.length;·rw[l,g];exact⟨λ_=>.refl,λ_=>rfl⟩
   ·rw[l,qa,l9 (eH (eJ m) g)];have:=a.wf.zG (i:=j) (eH (eJ m) g);refine⟨λz=>QO,λz=>?_⟩;have b:∀{k:Nat},dY F st.hd.length k->k=st.hd.length:=λ{k} h=>by
     induction h with
     |refl=>rfl
     |step _ e t=>rw[t] at e;exact absurd (yR a.eC e).1 (Wb _)
    exact absurd (b z) g
  ·by_cases g:j=st.hd.length
   ·rw[g,qa,l9 (eH (eJ d) l)];have:=a.wf.zG (i:=i) (eH (eJ d) l);refine⟨λz=>QO,λz=>?_⟩;have:=Zf2 a.eC z (eH (eJ d) l);omega
   ·rw[l9 (eH (eJ d) l),l9 (eH (eJ m) g)];exact a.conn i j (eH (eJ d) l) (eH (eJ m) g)
def ZiA:dZ n ⟨[],[],[],[]⟩ []:=⟨wf0,λ_ h=>(nomatch h),λf=>⟨λ_=>⟨λ_ h=>absurd h (Wo _),λ_ h=>(nomatch h)⟩,λ_=>⟨λ_=>0,λ_ h=>absurd h (Wo _)⟩⟩,⟨λ_=>0,λ_=>0,λ_ h=>absurd h (Wo _)⟩,λ_ _ h=>absurd h (Wo _)⟩
end
theorem dY.mono(h:∀x y t,gu F x y t->gu G x y t)(c:dY F x y):dY G x y:=by
 induction c with
 |refl=>exact .refl
 |step _ e a=>exact .step a (h _ _ _ e)
theorem dY.trans(c:dY F x y)(d:dY F y z):dY F x z:=by
 induction d with
 |refl=>exact c
 |step _ e a=>exact .step a e
def Zdq(h:c.k=bC):dY (F++[c]) x y↔dY F x y:=
 ⟨dY.mono λ_ _ _ e=>(rO.mp e).elim id λz=>absurd h z.1,dY.mono λ_ _ _ e=>rO.mpr (.inl e)⟩
theorem ZeH(h:c.k≠bC):dY (F++[c]) x y↔dY F x y\/(dY F x c.one/\dY F c.aJ.toNat y)\/(dY F x c.aJ.toNat/\dY F c.one y):=by
 have up:∀{x y:Nat},dY F x y->dY (F++[c]) x y:=λd=>d.mono λ_ _ _ e=>rO.mpr (.inl e);have j:gu (F++[c]) c.one c.aJ.toNat c.tn:=rO.mpr (.inr ⟨h,.inl ⟨rfl,rfl,rfl⟩⟩);have i:gu (F++[c]) c.aJ.toNat c.one (inv c.tn):=rO.mpr (.inr ⟨h,.inr ⟨rfl,rfl,rfl⟩⟩);constructor
 ·intro d;induction d with
  |refl=>exact .inl .refl
  |step _ e g=>
   rcases rO.mp e with e|⟨_,⟨rfl,rfl,_⟩|⟨rfl,rfl,_⟩⟩
   ·rcases g with a|⟨a,b⟩|⟨a,b⟩;·exact .inl (.step a e)
    ·exact .inr (.inl ⟨a,.step b e⟩)
    ·exact .inr (.inr ⟨a,.step b e⟩)
   ·rcases g with a|⟨a,b⟩|⟨a,b⟩;·exact .inr (.inl ⟨a,.refl⟩)
    ·exact .inr (.inl ⟨a,.refl⟩)
    ·exact .inl a
   ·rcases g with a|⟨a,b⟩|⟨a,b⟩;·exact .inr (.inr ⟨a,.refl⟩)
    ·exact .inl a
    ·exact .inr (.inr ⟨a,.refl⟩)
 ·rintro(a|⟨a,b⟩|⟨a,b⟩);·exact up a
  ·exact((up a).step j).trans (up b)
  ·exact((up a).step i).trans (up b)
section
variable {n i j:Nat}{st X:JS}{F:O Fc}{k:ar}{tn:O Int}{b:cm}
def ZeI(a:dZ n st F)(c:SJ n st X b i j tn)(o:k≠bC)(p:dR n st.hd.length ⟨k,i,(j:Int),tn⟩):(b=af->dZ n X (F++[⟨k,i,(j:Int),tn⟩]))/\(b=a7->dZ n X F/\∀f,dv X f->¬fO f ⟨k,i,(j:Int),tn⟩):=by
 have g:∀f,fO f ⟨k,i,(j:Int),tn⟩↔f j=ap tn (f i):=λf=>⟨λh=>by have:=h.2 o;rwa [show((⟨k,i,(j:Int),tn⟩:Fc).aJ.toNat)=j from Y6 j] at this,λh=>⟨λz=>absurd z o,λ_=>by rwa[show((⟨k,i,(j:Int),tn⟩:Fc).aJ.toNat)=j from Y6 j]⟩⟩;refine⟨λe=>?_,λe=>?_⟩
 ·obtain⟨s,iff⟩:=c.yes e;have r:=p.one;have q:j<st.hd.length:=by
   have:=(p.iD o).1.2
   rwa [show((⟨k,i,(j:Int),tn⟩:Fc).aJ.toNat)=j from Y6 j] at this
  refine a.put p c.wf c.len s (λf=>by rw[iff,g]) λx y m l=>?_;rw[c.xD e x y m l,ZeH o,show((⟨k,i,(j:Int),tn⟩:Fc).aJ.toNat)=j from Y6 j,a.conn x y m l,a.conn x i m r,a.conn x j m q,←a.conn j y q l,←a.conn i y r l];exact or_congr_right (or_congr (tE λ_=>eq_comm) (tE λ_=>eq_comm))
 ·obtain⟨t,no⟩:=c.no e;exact t▸⟨a,λf d z=>no f d ((g f).mp z)⟩
def Q_(c:dZ n st F)(e:i<st.hd.length)(m:a∈(st.cJ (st.ag i)).map λz=>(st.bW i).getD z.toNat 0):dZ n (st.mG (st.ag i) ((st.cJ (st.ag i)).filter λz=>decide ((st.bW i).getD z.toNat 0∈[a]))) (F++[⟨bC,i,a,tn⟩]):=by
 refine c.put ⟨e,absurd rfl⟩ (c.wf.mG e) rfl ?_ (λf=>?_) λx y o l=>?_
 ·obtain⟨z,g,rfl⟩:=Yg.mp m;obtain⟨r,p⟩:=c.live;obtain⟨f,d,q⟩:=Bm c.wf p (st.ag i) (st.ag i) z z g g (λ_=>rfl);exact⟨f,(yq c.wf e _ f).mpr ⟨d,by rw[(q i e).1 rfl];exact Yk⟩⟩
 ·rw[yq c.wf e,Yq];refine tE λ_=>?_;exact⟨λh=>⟨λ_=>h,absurd rfl⟩,λh=>h.1 rfl⟩
 ·rw[Zdq rfl];exact c.conn x y o l
def ZhI(g:dZ n st F)(c:i<st.hd.length)(m:a∉(st.cJ (st.ag i)).map λz=>(st.bW i).getD z.toNat 0)(f:Nat->Int)(d:dv st f):¬fO f ⟨bC,i,a,tn⟩:=by
 obtain⟨s,h⟩:=d;intro z;have e:f i=a:=z.1 rfl;refine m (Yg.mpr ⟨s (st.ag i),(h i c).1,?_⟩);rw[←e,(h i c).2];rfl
end
abbrev bL:=O (ar×ar)
def aw(a:bL)(i:Nat):ar:=(a.getD i ("","")).1
def bp(a:bL)(c:Fc):Key:=if c.k=bC then .inl c.aJ else .inr (aw a c.aJ.toNat)
def dG(a:bL)(z:Nat)(c:Fc):O Key:=[.inl (z:Int),.inr c.k,.inr (aw a c.one),bp a c]
def keyOf(k a:ar):Key->O Key
 |.inl b=>[.inr k,.inr a,.inl b]
 |.inr b=>if k="sibling" then[.inr k,.inr (L2.sv a b),.inr (L2.sy a b)] else[.inr k,.inr a,.inr b]
def eF(a:bL)(c:Fc):O Key:=keyOf c.k (aw a c.one) (bp a c)
def cU(k:ar):cm:=decide (k="mother")||decide (k="father")
def fQ(a:bL)(b:O (Nat×Fc)):O (O Key×V):=b.map λp=>(eF a p.2,.int (p.1:Int))
def cC(a:bL)(b:O (Nat×Fc)):O (O Key×V):=(b.filter λp=>cU p.2.k).map λp=>([.inr p.2.k,.inr (aw a p.2.one)],kV (bp a p.2))
def g_(a:bL):O (Key×V):=a.zipIdx.map λp=>(.inr p.1.1,.int (p.2:Int))
structure dF where
 way:Int
 row:O Key
 c0:Nat
 c1:Nat
def mw(H:Hp)(a:U)(d:dF):Prop:=∃r,H a=Z (.tup [.int d.way,.ref r,.int (d.c0:Int),.int (d.c1:Int)])/\H r=Z (.tup (d.row.map kV))
structure BS where
 ps:bL
 fs:O (Nat×Fc)
 co:Nat
 dn:O dF
 un:O dF
def BS.F(b:BS):O Fc:=b.fs.map (·.2)
structure BL where
 h:U
 L:U
 sd:U
 pl:U
 fc:U
 kn:U
 pr:U
 dn:U
 un:U
 rk:V
 cq:O U
 c_:O U
 fh:O U
 eG:O U
def BL.own(l:BL):O U:=[l.h,l.sd,l.pl,l.fc,l.kn,l.pr,l.dn,l.un]
def BL.fp(l:BL):O U:=l.own++l.eG
structure eK(K:ai)(C:U):Prop where
 cls:ir K C
 wH:du K C "land"
 rW:du K C "sides"
 rP:du K C "places"
 rX:du K C "facts"
 BY:du K C "known"
 wg:du K C "parents"
 rQ:du K C "coming"
 wJ:du K C "done"
 wq:du K C "undone"
 iM:du K C "reckoned"
abbrev HF(L b e h g d:U)(j:Int)(i a:U)(c:V):O (ar×V):=[("land",.ref L),("sides",.ref b),("places",.ref e),("facts",.ref h),("known",.ref g),("parents",.ref d),("coming",.int j),("done",.ref i),("undone",.ref a),("reckoned",c)]
def Zjw(a b c d e f g h i j:V):cV "reckoned" j (cV "undone" i (cV "done" h (cV "coming" g (cV "parents" f (cV "known" e (cV "facts" d (cV "places" c (cV "sides" b (cV "land" a [])))))))))=
  ([("land",a),("sides",b),("places",c),("facts",d),("known",e),("parents",f),("coming",g),("done",h),("undone",i),("reckoned",j)]:O (ar×V)):=rfl
abbrev fF(a:bL):O (Key×V):=a.map λp=>(.inr p.1,.str p.2)
inductive uD(H:Hp)(CJ:U)(n:Nat)(l:BL)(b:BS):Prop
 |no (e:l.rk=.aA) (d:l.eG=[])
 |at_ (c:JL) (st:JS) (e:l.rk=.ref c.J) (d:l.eG=c.fp) (h:cZ H CJ n c st) (g:dZ n st b.F) (len:st.hd.length=b.ps.length) (i:∀a∈l.own,a∉c.fp)
structure bB(H:Hp)(C CL CJ:U)(l:BL)(xs ys:O Int)(b:BS):Prop where
 obj:∃dx,H l.h=Z (.ins C dx (HF l.L l.sd l.pl l.fc l.kn l.pr (b.co:Int) l.dn l.un l.rk))
 land:∀H',Out l.fp H H'->jh H' CL l.L xs ys
 cA:H l.sd=Z (.dK (fF b.ps))
 places:H l.pl=Z (.dK (g_ b.ps))
 facts:H l.fc=Z (.dK (bJ (b.fs.map (·.1)) l.cq))
 fact:Paired (λa (p:Nat×Fc)=>H a=Z (.tup ((dG b.ps p.1 p.2).map kV))) l.cq b.fs
 known:H l.kn=Z (.dT (fQ b.ps b.fs))
 parents:H l.pr=Z (.dT (cC b.ps b.fs))
 done:H l.dn=Z (.lst (l.c_.map V.ref))
 ik:Paired (mw H) l.c_ b.dn
 fq:H l.un=Z (.lst (l.fh.map V.ref))
 jj:Paired (mw H) l.fh b.un
 uh:uD H CJ xs.length l b
 nd:l.own.Nodup
def mw.out(o:Out fp H g)(t:∀a e,H a=Z (.tup e)->a∉fp)(h:mw H a d):mw g a d:=by
 obtain⟨r,c,b⟩:=h;exact⟨r,o _ _ c (t _ _ c),o _ _ b (t _ _ b)⟩
def cZ.off(j:cZ H C n l st)(h:H a=Z (.tup xs)):a∉l.fp:=by
 intro z;unfold JL.fp at z;simp[Yp] at z;rcases z with rfl|rfl|rfl|rfl|rfl|z
 ·obtain⟨b,e⟩:=j.obj
  grind
 ·rw[j.heads] at h;cases h
 ·rw[j.jn] at h;cases h
 ·rw[j.ko] at h;cases h
 ·rw[j.frees] at h;cases h
 ·obtain⟨y,e⟩:=yx j.mem z
  grind
theorem cZ.iQ(j:cZ H C n l st)(o:Out fp H g)(v:∀a∈fp,a∉l.fp)(s:∀a∈fp,a∉l.cq)(t:∀a q,H a=Z (.tup q)->a∉fp):cZ g C n l st:=by
 have k:∀{a:U} {u:HO},H a=Z u->a∈l.fp->g a=Z u:=λ{a u} e m=>o _ _ e λz=>v _ z m;obtain⟨r,e⟩:=j.obj;refine⟨⟨r,k e (by simp[JL.fp])⟩,k j.heads (by simp[JL.fp]),k j.jn (by simp[JL.fp]),L2.Paired.bA j.lead λa x h=>o _ _ h (t _ _ h),k j.ko (by simp[JL.fp]),?_,k j.frees (by simp[JL.fp]),?_,j.nd,j.out⟩
 ·have d:∀{b:O U} {ps:O (Nat×O Nat)},Paired (λa p=>H a=Z (.lst (d9 p.2))) b ps->(∀a∈b,a∈l.fp)->Paired (λa p=>g a=Z (.lst (d9 p.2))) b ps:=by
   intro b ps p;induction p with
   |nil=>intro _;exact .nil
   |cons f _ i=>intro m;exact .cons (k f (m _ Yk)) (i λa c=>m a (Yx _ c))
  exact d j.mem λa c=>by simp[JL.fp,c]
 ·have d:∀{b:O U} {ps:O (Nat×O Int)},Paired (λa p=>H a=Z (.lst (p.2.map V.int))) b ps->(∀a∈b,a∈l.cq)->Paired (λa p=>g a=Z (.lst (p.2.map V.int))) b ps:=by
   intro b ps p;induction p with
   |nil=>intro _;exact .nil
   |cons f _ i=>intro m;exact .cons (o _ _ f λz=>s _ z (m _ Yk)) (i λa c=>m a (Yx _ c))
  exact d j.free λa c=>c
section
variable {H:Hp}{l:BL}{b:BS}
def bB.landAt(h:bB H C CL CJ l xs ys b):jh H CL l.L xs ys:=h.land H (Out.of (ak.refl _))
theorem bB.tup(h:bB H C CL CJ l xs g b)(e:H a=Z (.tup us)):a∉l.fp:=by
 intro z;unfold BL.fp BL.own at z;rcases Yv.mp z with z|z
 ·simp[Yp,Y1,fM] at z;rcases z with rfl|rfl|rfl|rfl|rfl|rfl|rfl|rfl
  ·obtain⟨j,q⟩:=h.obj
   grind
  ·rw[h.cA] at e;cases e
  ·rw[h.places] at e;cases e
  ·rw[h.facts] at e;cases e
  ·rw[h.known] at e;cases e
  ·rw[h.parents] at e;cases e
  ·rw[h.done] at e;cases e
  ·rw[h.fq] at e;cases e
 ·cases h.uh with
  |no _ c=>grind
  |at_ i st _ c d=>rw[c] at z;exact d.off e z
theorem bB.there(h:bB H C CL CJ l xs g b)(z:a∈l.fp):H a≠aE:=by
 intro e;unfold BL.fp BL.own at z;rcases Yv.mp z with z|z
 ·simp[Yp,Y1,fM] at z;rcases z with rfl|rfl|rfl|rfl|rfl|rfl|rfl|rfl
  ·obtain⟨j,q⟩:=h.obj
   grind
  ·rw[h.cA] at e;cases e
  ·rw[h.places] at e;cases e
  ·rw[h.facts] at e;cases e
  ·rw[h.known] at e;cases e
  ·rw[h.parents] at e;cases e
  ·rw[h.done] at e;cases e
  ·rw[h.fq] at e;cases e
 ·cases h.uh with
  |no _ c=>grind
  |at_ i st _ c d=>rw[c] at z;exact d.ne e z
theorem uD.same(g:ak H k)(h:uD H CJ n l b):uD k CJ n l b:=by
 cases h with
 |no c a=>exact .no c a
 |at_ e st c a i d len j=>exact .at_ e st c a (i.same g) d len j
def bB.same(g:ak H k)(h:bB H C CL CJ l xs d b):bB k C CL CJ l xs d b:=
 ⟨let⟨i,e⟩:=h.obj;⟨i,g _ _ e⟩,λj o=>h.land j ((Out.of g).trans o),g _ _ h.cA,g _ _ h.places,g _ _ h.facts,L2.Paired.bA h.fact λ _ _=>g _ _,g _ _ h.known,g _ _ h.parents,g _ _ h.done,L2.Paired.bA h.ik λ_ _ ⟨r,c,a⟩=>⟨r,g _ _ c,g _ _ a⟩,g _ _ h.fq,L2.Paired.bA h.jj λ_ _ ⟨r,c,a⟩=>⟨r,g _ _ c,g _ _ a⟩,h.uh.same g,h.nd⟩
def eZ(d c:O U)(H:Hp):Prop:=∀a∈c,a∈d\/H a=aE
def eZ.refl(a:O U)(H:Hp):eZ a a H:=λ_ h=>.inl h
def Io(o:Out fp H H1)(g:eZ fp c H)(d:Out c H1 H2):Out fp H H2:=λa u e n=>d _ _ (o _ _ e n) λz=>(g a z).elim n λq=>by rw[e] at q;cases q
theorem eZ.trans(g:eZ fp d H)(o:Out fp H H1)(h:eZ d c H1):eZ fp c H:=λa z=>by
 rcases h a z with q|q;·exact g a q
 ·by_cases m:a∈fp;·exact .inl m
  ·right
   cases e:H a with
   |none=>rfl
   |some u=>rw[o _ _ e m] at q;cases q
def eZ.same(s:ak H H1)(d:eZ fp c H1):eZ fp c H:=λa z=>(d a z).imp id λq=>s.free q
def ZeJ(c:dZ n st F)(m:(k,a)∈st.fr):a≠[]:=by
 obtain⟨i,g,e⟩:=c.wf.hf k (Yg.mpr ⟨_,m,rfl⟩);obtain⟨f,s,d⟩:=c.live;have q:=(d i g).1;unfold JS.cJ at q;rw[e,(mem_lookup c.wf.nf m)] at q
 grind
theorem Zf3(A:cZ H CJ n z st)(v:dZ n st b.F)(h:∃W t,H l.h=Z (.ins C W t))(R:∃k,H l.sd=Z (.dK k))(Q:∃k,H l.pl=Z (.dK k))(P:∃k,H l.fc=Z (.dK k))(N:∃k,H l.kn=Z (.dT k))(L:∃k,H l.pr=Z (.dT k))(J:∃c:O U,H l.dn=Z (.lst (c.map V.ref)))(G:∃c:O U,H l.un=Z (.lst (c.map V.ref))):∀a∈l.own,a∉z.cq:=by
 intro a g F;obtain⟨p,E,e⟩:∃p∈st.fr,H a=Z (.lst (p.2.map V.int)):=by
  have j:∀{c:O U} {d:O (Nat×O Int)},Paired (λa p=>H a=Z (.lst (p.2.map V.int))) c d->a∈c->∃p∈d,H a=Z (.lst (p.2.map V.int)):=by
   intro c d u;induction u with
   |nil=>intro h;cases h
   |cons f _ D=>
    intro h;rcases Yp.mp h with rfl|h;·exact⟨_,Yk,f⟩
    ·obtain⟨q,m,e⟩:=D h;exact⟨q,Yx _ m,e⟩
  exact j A.free F
 have ne:=ZeJ v (k:=p.1) E;have lst:∀c:O U,H a=Z (.lst (c.map V.ref))->False:=λc q=>by
  rw[q] at e;have i:c.map V.ref=p.2.map V.int:=by injection e with e;injection e
  cases o:p.2 with
  |nil=>exact ne o
  |cons x r=>
   rw[o] at i;cases c with
   |nil=>cases i
   |cons y s=>injection i with T _;cases T
 unfold BL.own at g;simp[Yp,Y1,fM] at g;rcases g with rfl|rfl|rfl|rfl|rfl|rfl|rfl|rfl;·obtain⟨_,_,q⟩:=h;rw[q] at e;cases e
 ·obtain⟨_,q⟩:=R;rw[q] at e;cases e
 ·obtain⟨_,q⟩:=Q;rw[q] at e;cases e
 ·obtain⟨_,q⟩:=P;rw[q] at e;cases e
 ·obtain⟨_,q⟩:=N;rw[q] at e;cases e
 ·obtain⟨_,q⟩:=L;rw[q] at e;cases e
 ·obtain⟨_,q⟩:=J;exact lst _ q
 ·obtain⟨_,q⟩:=G;exact lst _ q
def bB.JW(h:bB H C CL CJ l xs j b)(g:cZ H CJ xs.length d st)(c:dZ xs.length st b.F):∀a∈l.own,a∉d.cq:=
 Zf3 g c (let⟨i,e⟩:=h.obj;⟨i,_,e⟩) ⟨_,h.cA⟩ ⟨_,h.places⟩ ⟨_,h.facts⟩ ⟨_,h.known⟩ ⟨_,h.parents⟩ ⟨_,h.done⟩ ⟨_,h.fq⟩
def bB.build(h:bB H C CL CJ l xs z b)(v:l'.h=l.h)(x:l'.L=l.L)(n:l'.sd=l.sd)(r:l'.pl=l.pl)(t:l'.fc=l.fc)(s:l'.kn=l.kn)(q:l'.pr=l.pr)(u:l'.dn=l.dn)(m:l'.un=l.un)(o:Out l.fp H c)(g:eZ l.fp l'.fp H)
  (E:∃L,c l.h=Z (.ins C L (HF l.L l.sd l.pl l.fc l.kn l.pr (b'.co:Int) l.dn l.un l'.rk)))(Q:c l.sd=Z (.dK (fF b'.ps)))(i:c l.pl=Z (.dK (g_ b'.ps)))(k:c l.fc=Z (.dK (bJ (b'.fs.map (·.1)) l'.cq)))
  (e:Paired (λa (p:Nat×Fc)=>c a=Z (.tup ((dG b'.ps p.1 p.2).map kV))) l'.cq b'.fs)(j:c l.kn=Z (.dT (fQ b'.ps b'.fs)))(d:c l.pr=Z (.dT (cC b'.ps b'.fs)))
  (y:c l.dn=Z (.lst (l'.c_.map V.ref)))(J:Paired (mw c) l'.c_ b'.dn)(P:c l.un=Z (.lst (l'.fh.map V.ref)))(G:Paired (mw c) l'.fh b'.un)(A:uD c CJ xs.length l' b'):bB c C CL CJ l' xs z b':=by
 have D:l'.own=l.own:=by unfold BL.own;rw[v,n,r,t,s,q,u,m]
 refine⟨?_,λN F=>?_,by rwa[n],by rwa[r],by rwa[t],e,by rwa[s],by rwa[q],by rwa[u],J,by rwa[m],G,A,by exact D▸h.nd⟩;·rwa[v,x,n,r,t,s,q,u,m]
 ·exact x▸h.land N (Io o g F)
theorem bB.owned(h:bB H C CL CJ l xs L b)(F:l'.h=l.h)(G:l'.L=l.L)(s:l'.sd=l.sd)(v:l'.pl=l.pl)(y:l'.fc=l.fc)(x:l'.kn=l.kn)(t:l'.pr=l.pr)(A:l'.dn=l.dn)(r:l'.un=l.un)
  (D:(l'.rk=l.rk/\l'.eG=l.eG/\b'.F=b.F/\b'.ps.length=b.ps.length)\/(l'.rk=.aA/\l'.eG=[]))(o:Out l.own H H')
  (Q:∃dx,H' l.h=Z (.ins C dx (HF l.L l.sd l.pl l.fc l.kn l.pr (b'.co:Int) l.dn l.un l'.rk)))(cA:H' l.sd=Z (.dK (fF b'.ps)))(j:H' l.pl=Z (.dK (g_ b'.ps)))(q:H' l.fc=Z (.dK (bJ (b'.fs.map (·.1)) l'.cq)))
  (d:Paired (λa (p:Nat×Fc)=>H' a=Z (.tup ((dG b'.ps p.1 p.2).map kV))) l'.cq b'.fs)(m:H' l.kn=Z (.dT (fQ b'.ps b'.fs)))(c:H' l.pr=Z (.dT (cC b'.ps b'.fs)))
  (J:H' l.dn=Z (.lst (l'.c_.map V.ref)))(ik:Paired (mw H') l'.c_ b'.dn)(fq:H' l.un=Z (.lst (l'.fh.map V.ref)))(X:Paired (mw H') l'.fh b'.un):bB H' C CL CJ l' xs L b'/\eZ l.fp l'.fp H:=by
 have k:l'.own=l.own:=by unfold BL.own;rw[F,s,v,y,x,t,A,r]
 have sub:∀a∈l'.fp,a∈l.fp:=λa z=>by
  unfold BL.fp at z⊢;rw[k] at z;rcases D with⟨_,e,_⟩|⟨_,e⟩;·rw[e] at z;exact z
  ·rw[e,Wc] at z;exact Ys _ z
 have of:Out l.fp H H':=λa u e n=>o _ _ e λz=>n (Ys _ z);refine⟨⟨?_,λH2 R=>?_,by rwa[s],by rwa[v],by rwa[y],d,by rwa[x],by rwa[t],by rwa[A],ik,by rwa[r],X,?_,by exact k▸h.nd⟩,λa z=>.inl (sub a z)⟩;·rwa[F,G,s,v,y,x,t,A,r]
 ·exact G▸h.land H2 (Io of (λa z=>.inl (sub a z)) R)
 ·rcases D with⟨i,g,P,N⟩|⟨i,g⟩
  ·cases h.uh with
   |no e1 e2=>exact .no (by rwa[i]) (by rwa[g])
   |at_ W st e1 e2 E T len gw=>
    exact .at_ W st (by rwa[i]) (by rwa[g]) (E.iQ o gw (h.JW E T) λa us e=>λz=>h.tup e (Ys _ z)) (by rwa[P]) (by rwa[N]) (by rwa[k])
  ·exact .no i g
end
abbrev sD:O (ar×ar):=[("mother","m"),("father","f"),("wed","w"),("sibling","s")]
abbrev sf(a b:O Int):O (ar×O Int):=[("mother",inv a),("father",inv (bO a b)),("wed",b),("sibling",bG a.length)]
structure fC(xs ys:O Int)(m:Nat)(c:Fc):Prop where
 ok:dR xs.length m c
 kind:c.k=bC\/(c.k,c.tn)∈sf xs ys
 K6:c.k=bC->0<=c.aJ/\c.aJ<(xs.length:Int)
def Zcs:(bC,a)∉sf xs ys:=by
 intro h;simp[Yp,Y1,fM] at h;rcases h with⟨h,_⟩|⟨h,_⟩|⟨h,_⟩|⟨h,_⟩<;>exact absurd h QK
def F3(h:(k,a)∈sf xs ys):∃r,PyProof.Rows.KTD.datumAt k sD=Z r/\(r,a)∈Cj xs ys:=by
 simp[Yp,Y1,fM] at h;rcases h with⟨rfl,rfl⟩|⟨rfl,rfl⟩|⟨rfl,rfl⟩|⟨rfl,rfl⟩;·exact⟨"m",QK,QS⟩
 ·exact⟨"f",QK,QS⟩
 ·exact⟨"w",QK,QS⟩
 ·exact⟨"s",QK,QS⟩
def fC.wU(g:fC xs ys m c)(h:c.k≠bC):(c.k,c.tn)∈sf xs ys:=g.kind.resolve_left h
def ZeK(d:qz xs b)(h:(k,a)∈sf xs b):full a=af/\a.length=xs.length:=by
 obtain⟨r,_,c⟩:=F3 h;exact Zcr d c
theorem tZ(b:(a.map (·.1)).Nodup)(d:i<a.length):a9 (g_ a) (.inr (aw a i))=Z (.int (i:Int)):=by
 have g:∀(a:bL) (k i:Nat),(a.map (·.1)).Nodup->i<a.length->a9 ((a.zipIdx k).map λp=>((.inr p.1.1:Key),V.int (p.2:Int))) (.inr (aw a i))=Z (.int ((k+i:Nat):Int)):=by
  intro a;induction a with
  |nil=>intro k i _ h;cases h
  |cons p a n=>
   intro k i b d;obtain⟨l,j⟩:=Yz.mp (show(p.1::a.map (·.1)).Nodup from b);rw[List.zipIdx_cons,Wq];cases i with
   |zero=>exact gm rfl
   |succ i=>
    have c:i<a.length:=by simpa using d
    have e:aw (p::a) (i+1)=aw a i:=rfl;have m:aw a i∈a.map (·.1):=by
     unfold aw;rw[Yn,Yc c];exact Yg.mpr ⟨_,Jz c,rfl⟩
    rw[e,fR (λz=>l (by rwa[We z])),n (k+1) i j c]
    congr 2
    omega
 have:=g a 0 i b d
 rwa [xp] at this
def kP(h:c.k=bC):bp a c=.inl c.aJ:=bt h
def i_(h:c.k≠bC):bp ps c=.inr (aw ps c.aJ.toNat):=bu h
inductive IK(a:O V)(H:Hp)(Q:VK)(E:XK):Prop
 |mk (k:ar) (c:a=[.str k]) (b:Q (.bl (oU sD k)) H)
inductive HP(CL:U)(d:O V)(H:Hp)(Q:VK)(E:XK):Prop
 |mk (L:U) (k:ar) (b a c:O Int) (i:d=[.ref L,.str k]) (h:jh H CL L b a) (e:(k,c)∈sf b a) (g:∀t:U,bU H t c->Q (.ref t) H)
inductive CA(c:O V)(H:Hp)(Q:VK)(E:XK):Prop
 |mk (k a:ar) (o:Key) (g:c=[.str k,.str a,kV o]) (e:k="sibling"->∃b,o=.inr b) (d:Nw H (.tup ((keyOf k a o).map kV)) Q)
inductive P1(CL CJ:U)(k:O V)(H:Hp)(Q:VK):Prop
 |mk (e:JL) (st:JS) (L l m:U) (b g:O Int) (d:bL) (F:O Fc) (z:Nat) (c:Fc) (D:k=[.ref e.J,.ref L,.ref l,.ref m]) (t:cZ H CJ b.length e st) (o:dZ b.length st F) (s:jh H CL L b g) (y:qz b g) (u:H l=Z (.dK (g_ d))) (n:(d.map (·.1)).Nodup) (len:st.hd.length=d.length) (p:d.length<=100) (x:H m=Z (.tup ((dG d z c).map kV))) (A:fC b g d.length c) (r:∃f,dv st f/\fO f c)
   (q:∀(v:V) (h:JL) (i:JS) (j:Hp),h.J=e.J->(∀a∈h.fp,a∈e.fp)->Out e.fp H j->cZ j CJ b.length h i->dZ b.length i (F++[c])->i.hd.length=st.hd.length->Q v j):P1 CL CJ k H Q
def IL(CL CJ:U):Sp:=λa H Q _=>P1 CL CJ a H Q
inductive Ra(CL CJ:U)(g:O V)(H:Hp)(Q:VK):Prop
 |mk (i:JL) (st:JS) (L h j:U) (b e:O Int) (a:bL) (F:O Fc) (z:Nat) (c:Fc) (t:g=[.ref i.J,.ref L,.ref h,.ref j]) (o:cZ H CJ b.length i st) (l:dZ b.length st F) (n:jh H CL L b e) (r:qz b e) (p:H h=Z (.dK (g_ a))) (k:(a.map (·.1)).Nodup) (len:st.hd.length=a.length) (m:a.length<=100) (q:H j=Z (.tup ((dG a z c).map kV))) (s:fC b e a.length c)
   (q1:(∃f,dv st f/\fO f c)->∀d,ak H d->Q (.bl af) d) (q2:(∀f,dv st f->¬fO f c)->∀d,ak H d->Q (.bl a7) d):Ra CL CJ g H Q
def SK(CL CJ:U):Sp:=λa H Q _=>Ra CL CJ a H Q
def BZ:∀b:cm,decide (V.str k=V.str bC)=b->(b=af↔k=bC):=λb e=>by
 grind
def Zdr:aP ["kind"] ["kind"] (aH Ig):=.a8
def Zds(F:aM K "is_tie" "is_tie" Ig f fd)(b:B "TIE_LETTERS"=Z (.ref a))(c:w_ K a sD):aF P w K B I aL 1 f fd ["kind"] IK:=by
 refine F.o Zdr λs H d h=>?_;obtain⟨k,rfl,q⟩:=h;refine⟨_,(av (aG (BI (Zhk (K:=K) rfl) (pv 0) (dH (v:=.ref a) rfl b rfl) QU))),?_⟩;exact⟨_,rfl,k,a,sD,rfl,rfl,c,q⟩
abbrev zH:O ar:=["land","kind"]
def Zbt:aP zH zH (aH GO):=.a8
def Zbu(F:aM K "tie_turn" "tie_turn" GO f fd)(l:B "TIE_LETTERS"=Z (.ref a))(n:w_ K a sD)(D:wR K CL)(j:HasFn P w K B I 1 "is_tie" ["kind"] IK)(y:bZ P w K B I 1 "step" CL CW (SA CL)):aF P w K B I aL 2 f fd zH (HP CL):=by
 refine F.o Zbt λs H c h=>?_;obtain⟨L,k,i,g,m,rfl,b,t,q⟩:=h;refine⟨_,(au (aR (fS (dN (aZ j c (aa (pv 1) ae)))) gL aX) (av (aG (cQ y c (by decide) (pv 0) (aa (a_ (ZfD (K:=K) rfl) (dH (v:=.ref a) rfl l rfl) (pv 1)) ae))))),?_⟩;refine hI ?_;intros;obtain⟨r,e,p⟩:=F3 t;have o:oU sD k=af:=by unfold oU;rw[e];rfl
 obtain⟨x,d,A,E,z,N,G,J,st,u,_⟩:=id b;refine⟨_,rfl,k,rfl,_,rfl,?_⟩;rw[o];refine bQ (aS ?_);exact⟨_,rfl,L,x,_,rfl,u,rfl,_,rfl,a,k,r,sD,rfl,rfl,n,e,L,r,i,g,m,rfl,b,p,q⟩
abbrev xl:O ar:=["kind","one","other"]
def Zbv:aP xl xl (aH GP):=.a8
theorem Zbw(F:aM K "fact_key" "fact_key" GP f fd)(g:B "SIBLING"=Z (.str "sibling" t1))(d:Bl B):aF P w K B I aL 1 f fd xl CA:=by
 refine F.o Zbv λs H l h=>?_;obtain⟨k,a,o,rfl,j,q⟩:=h;refine⟨_,(au (aR (bH cD (pv 0) (dH (v:=.str "sibling") rfl g ⟨_,rfl⟩)) (av (aG (df (aa (pv 0) (aa (iN (Zcf rfl) rfl d.Zie ZgN (aa (pv 1) (aa (pv 2) ae))) (aa (iN (Zcg rfl) rfl d.Zif Zhv (aa (pv 1) (aa (pv 2) ae))) ae)))))) aX) (av (aG (df (aa (pv 0) (aa (pv 1) (aa (pv 2) ae))))))),?_⟩;refine⟨_,rfl,rfl,_,rfl,?_⟩;by_cases e:k="sibling"
 ·obtain⟨b,rfl⟩:=j e;rw[dg (by rw[e])];refine⟨_,rfl,_,rfl,_,rfl,_,_,rfl,_,rfl,_,rfl,_,_,rfl,by show 3<=sizeLine;decide,?_⟩;have c:keyOf k a (.inr b)=[.inr k,.inr (L2.sv a b),.inr (L2.sy a b)]:=bt e;rw[c] at q;exact q
 ·rw[gb (λz=>e (V.str.inj z))];refine⟨_,rfl,_,rfl,_,rfl,by show 3<=sizeLine;decide,?_⟩;have c:(keyOf k a o).map kV=[.str k,.str a,kV o]:=by
   cases o with
   |inl i=>rfl
   |inr b=>
    have:keyOf k a (.inr b)=[.inr k,.inr a,.inr b]:=bu e;rw[this];rfl
  rw[c] at q;exact q
abbrev uE:O ar:=["joins","land","places","fact"]
abbrev UW:O ar:=["joins","land","places","fact","number","kind","one","other"]
def yo:aP UW uE (aH Gb):=.a8
theorem ZaN(F:aM K "keep_fact" "keep_fact" Gb f fd)(mC:B "SAID"=Z (.str "said" t1))(v8:HasFn P w K B I 2 "tie_turn" zH (HP CL))(Gx:bZ P w K B I 3 "say" CJ C0 (TY CJ))(Gy:bZ P w K B I 5 "tie" CJ mI (T3 CJ)):aF P w K B I aL 6 f fd uE (IL CL CJ):=by
 refine F.o yo λs H g h=>?_;obtain⟨i,st,L,u,fa,l,ys,m,FF,z,c,rfl,E,d,la,gd,J,nd,len,m4,hf,k,lv,q⟩:=h;refine⟨_,(au (kg (pv 3) (gO (K:=K) rfl rfl (bw (bc 4 yo.nd) (bw (bc 5 yo.nd) (bw (bc 6 yo.nd) (bw (bc 7 yo.nd) gM)))))) (au (aR (bH cD (pv 5) (dH (v:=.str "said") rfl mC ⟨_,rfl⟩)) (av (aG (cQ Gx g (by decide) (pv 0) (aa (dt (bI g) (pv 2) (pv 6) (λ_ _=>rfl)) (aa (pv 7) ae))))) aX) (av (aG (cQ Gy g (by decide) (pv 0) (aa (dt (bI g) (pv 2) (pv 6) (λ_ _=>rfl)) (aa (dt (bI g) (pv 2) (pv 7) (λ_ _=>rfl)) (aa (aZ v8 g (aa (pv 1) (aa (pv 5) ae))) ae)))))))),?_⟩;refine me ?_;intros;obtain⟨dx,ho⟩:=E.obj;have p1:=tZ nd k.ok.one;have n8:=gd.2.2.2.2;have j:c.one<st.hd.length:=by exact len▸k.ok.one
 refine⟨_,rfl,fa,_,rfl,az.of hf,rfl,_,_,rfl,aU ⟨_,_,rfl,aU ⟨_,_,rfl,aU ⟨_,_,rfl,aU ⟨rfl,?_⟩⟩⟩⟩⟩;refine⟨_,rfl,rfl,_,rfl,bF (λT=>?_) (λT=>aS ?_)⟩
 ·have e:=(BZ _ rfl).mp T;have N:kV (bp m c)=.int c.aJ:=by rw[kP e];rfl
  refine⟨_,rfl,i.J,dx,_,rfl,ho,rfl,_,rfl,_,rfl,u,_,rfl,dm J p1,_,rfl,?_⟩;have one:=d.wf.one n8 j;have Aw:=d.wf.Cz;obtain⟨f0,R,r⟩:=lv;obtain⟨p,h0⟩:=id R;have mm:c.aJ∈(st.cJ (st.ag c.one)).map (λz=>(st.bW c.one).getD z.toNat 0):=Yg.mpr ⟨p (st.ag c.one),(h0 c.one j).1,by rw[←r.1 e,(h0 c.one j).2];rfl⟩;refine⟨i,st,l.length,c.one,_,_,_,c.aJ,?_,E,one,QO,λ_ y X D A x G=>?_,absurd mm⟩
  ·show[V.ref i.J,V.int (c.one:Int),kV (bp m c)]=_;rw[N]
  ·have n:c=⟨bC,c.one,c.aJ,c.tn⟩:=by rw[←e]
   refine q _ y _ X D (λa ha=>by rw[A] at ha;exact ha) x G ?_ rfl;exact n▸Q_ d j mm
 ·have e:=λz=>T ((BZ _ rfl).mpr z);obtain⟨⟨o0,om⟩,ft,tl⟩:=k.ok.iD e;have N:kV (bp m c)=.str (aw m c.aJ.toNat):=by rw[i_ e];rfl
  have p2:=tZ nd om;have hj:c.aJ.toNat<st.hd.length:=by rwa[len]
  refine⟨_,rfl,i.J,dx,_,rfl,ho,rfl,_,rfl,_,rfl,u,_,rfl,dm J p1,_,rfl,_,rfl,u,.int (c.aJ.toNat:Int),rfl,?_,_,rfl,_,rfl,L,c.k,l,ys,c.tn,rfl,la,k.wU e,λt ht=>?_⟩
  ·exact N▸dm J p2
  refine⟨i,st,l.length,c.one,c.aJ.toNat,c.tn,t,rfl,E,d.wf,d.live,n8,QO,j,hj,ht,ft,tl,λb y aO X D A x G o=>?_⟩;have n:c=⟨c.k,c.one,(c.aJ.toNat:Int),c.tn⟩:=by rw[J3 o0]
  have W:dR l.length st.hd.length ⟨c.k,c.one,(c.aJ.toNat:Int),c.tn⟩:=by rw[←n,len];exact k.ok
  obtain⟨tm,tf⟩:=ZeI d o e W;have Q:b=af:=by
   cases Q:b with
   |true=>rfl
   |false=>
    obtain⟨f0,R,r⟩:=lv;obtain⟨es,no⟩:=o.no Q;exact absurd (r.2 e) (no f0 R)
  refine q _ y aO X D A x G ?_ o.len;have:=tm Q;rw[←n] at this;exact this
def yp:aP UW uE (aH Gd):=.a8
theorem ZaO(F:aM K "fact_fits" "fact_fits" Gd f fd)(mC:B "SAID"=Z (.str "said" t1))(v8:HasFn P w K B I 2 "tie_turn" zH (HP CL))(kN:bZ P w K B I 2 "open_at" CJ xf (yJ CJ))(vP:bZ P w K B I 4 "left" CJ mI (JT CJ)):aF P w K B I aL 5 f fd uE (SK CL CJ):=by
 refine F.o yp @λbM A X vs Q E s H k h=>?_;obtain⟨J,st,L,D,fa,u,ys,i,FF,z,c,rfl,ja,b,la,gd,o,nd,len,m4,hf,R,q1,q2⟩:=h;have hu:=k.qm;refine⟨_,(au (kg (pv 3) (gO (K:=K) (n:=4) rfl rfl (bw (bc 4 yp.nd) (bw (bc 5 yp.nd) (bw (bc 6 yp.nd) (bw (bc 7 yp.nd) gM)))))) (au (aR (bH cD (pv 5) (dH (v:=.str "said") rfl mC ⟨_,rfl⟩)) (av (aG (BI (nS (K:=K) rfl) (pv 7) (cQ kN k (by decide) (pv 0) (aa (dt (bI k) (pv 2) (pv 6) (λ_ _=>rfl)) ae)) QU))) aX) (av (aG (d7 (tY (K:=K) rfl (Cf hu)) (cQ vP k (by decide) (pv 0) (aa (dt (bI k) (pv 2) (pv 6) (λ_ _=>rfl)) (aa (dt (bI k) (pv 2) (pv 7) (λ_ _=>rfl)) (aa (aZ v8 k (aa (pv 1) (aa (pv 5) ae))) ae)))) (c6 ae)))))),?_⟩;refine me ?_;intros;obtain⟨dx,ho⟩:=ja.obj;have p1:=tZ nd R.ok.one;have G:u.length<=8:=gd.2.2.2.2;have g:c.one<st.hd.length:=by rw[len];exact R.ok.one
 refine⟨_,rfl,fa,_,rfl,az.of hf,rfl,_,_,rfl,aU ⟨_,_,rfl,aU ⟨_,_,rfl,aU ⟨_,_,rfl,aU ⟨rfl,?_⟩⟩⟩⟩⟩;refine⟨_,rfl,rfl,_,rfl,bF (λcc=>?_) (λcc=>aS ?_)⟩
 ·have e:c.k=bC:=(BZ _ rfl).mp cc;have T:kV (bp i c)=.int c.aJ:=by rw[kP e];rfl
  have one:=b.wf.one G g;refine⟨_,rfl,_,rfl,J.J,dx,_,rfl,ho,rfl,_,rfl,_,rfl,D,_,rfl,dm o p1,J,st,u.length,c.one,_,_,_,rfl,ja,one.hd,one.ld,one.fr,one.fZ,one.jz,λp j W np q pm so jW=>⟨p,_,rfl,.inl (aq.of jW),?_,Ij j,?_⟩⟩
  ·show jM (kV (bp i c))=af;rw[T];rfl
  show Q (.bl (if(a7:cm)=af then !fY (kV (bp i c)) (j.map V.int) else fY (kV (bp i c)) (j.map V.int))) W;rw[bu Yh,T,BX];have ec:c=⟨bC,c.one,c.aJ,c.tn⟩:=by rw[←e]
  by_cases m:c.aJ∈j
  ·rw[dg m];refine q1 ?_ W q;have Xe:=Q_ (tn:=c.tn) b g (pm.subset m);obtain⟨f,d⟩:=Xe.live;obtain⟨_,s⟩:=(Xe.iff f).mp d;refine⟨f,((yq b.wf g _ f).mp d).1,?_⟩;rw[ec];exact s _ (Ym _ Yk)
  ·rw[gb m];refine q2 (λf d=>?_) W q;rw[ec];exact ZhI b g (λz=>m (pm.symm.subset z)) f d
 ·have e:c.k≠bC:=λz=>cc ((BZ _ rfl).mpr z);obtain⟨⟨o0,om⟩,ft,tl⟩:=R.ok.iD e;have T:kV (bp i c)=.str (aw i c.aJ.toNat):=by rw[i_ e];rfl
  have p2:=tZ nd om;have N:c.aJ.toNat<st.hd.length:=by rw[len];exact om
  have pf:=Q8 b.wf G g N;refine⟨_,rfl,J.J,dx,_,rfl,ho,rfl,_,rfl,_,rfl,D,_,rfl,dm o p1,_,rfl,_,rfl,D,.int (c.aJ.toNat:Int),rfl,?_,_,rfl,_,rfl,L,c.k,u,ys,c.tn,rfl,la,R.wU e,λt ht=>?_⟩
  ·show eW H D (kV (bp i c)) _;rw[T];exact dm o p2
  refine⟨J,st,u.length,c.one,c.aJ.toNat,_,_,_,_,_,_,c.tn,t,rfl,ja,b.wf.one G g,b.wf.one G N,ht,λp o=>by rw[tl];exact SH b.wf g (x:=p.1) (y:=p.2) o,Yy pf (by decide),λp j W np q jW pm _=>?_⟩;have ms:=PX pm;refine⟨by show 0<=sizeLine;exact Yw _,λe0 H2 n2 g2 Ax=>?_⟩;refine⟨p,e0,j.map V.int,rfl,rfl,aq.of (g2 _ _ jW),aq.of Ax,?_⟩;rw[bt rfl];have l:∀f,fO f c↔f c.aJ.toNat=ap c.tn (f c.one):=λf=>⟨λh=>h.2 e,λh=>⟨λz=>absurd z e,λ_=>h⟩⟩;cases j with
  |nil=>
   refine q2 (λf d z=>?_) H2 (q.trans g2);have m:=yK b.wf g N d;rw[(l f).mp z] at m;exact absurd ((ms _).mpr m) (λz=>nomatch z)
  |cons a r=>
   refine q1 ?_ H2 (q.trans g2);have m:=(ms a).mp Yk;obtain⟨f,d,e1,e2⟩:=PV b.wf g N b.live m;exact⟨f,d,(l f).mpr (by rw[e1,e2])⟩
def BS.keys(b:BS):O (O Key):=b.fs.map λp=>eF b.ps p.2
def BS.told(b:BS)(k:O Key):cm:=(a9 (fQ b.ps b.fs) k).isSome
structure bP(xs ys:O Int)(b:BS):Prop where
 gd:qz xs ys
 nm:(b.ps.map (·.1)).Nodup
 m:b.ps.length<=64
 fl:b.fs.length<=63
 fg:∀p∈b.fs,fC xs ys b.ps.length p.2
 zs:(b.fs.map (·.1)).Nodup
 lt:∀p∈b.fs,p.1<b.co
 ky:b.keys.Nodup
 pr:((cC b.ps b.fs).map (·.1)).Nodup
 lv:∃f,mW xs.length b.ps.length f/\∀c∈b.F,fO f c
 dl:b.dn.length<=200
 ul:b.un.length<=200
structure bq(H H':Hp)(l l':BL):Prop where
 h:l'.h=l.h
 out:Out l.fp H H'
 grow:eZ l.fp l'.fp H
def bq.of(g:ak H a):bq H a l l:=⟨rfl,Out.of g,eZ.refl _ _⟩
def bq.trans(a:bq H H1 l l1)(b:bq H1 c l1 l2):bq H c l l2:=⟨b.h.trans a.h,Io a.out a.grow b.out,a.grow.trans a.out b.grow⟩
def bq.same(a:bq H H1 l l1)(g:ak H1 b):bq H b l l1:=⟨a.h,a.out.trans (Out.of g),a.grow⟩
def bq.after(g:ak H H1)(a:bq H1 b l l1):bq H b l l1:=⟨a.h,(Out.of g).trans a.out,a.grow.same g⟩
theorem wx[DecidableEq b](a:O (b×V))(k:b):(a9 a k).isSome=af↔k∈a.map (·.1):=by
 induction a with
 |nil=>exact⟨(λz=>nomatch z),(λz=>nomatch z)⟩
 |cons p r c=>
  by_cases e:p.1=k
  ·rw[gm e]
   grind
  ·rw[fR e,c]
   grind
theorem tO[DecidableEq b]{k:b}(h:k∉a.map (·.1)):a9 a k=aE:=by
 cases e:a9 a k with
 |none=>rfl
 |some v=>exact absurd ((wx a k).mp (by rw[e];rfl)) h
theorem Rb[DecidableEq b]{k:b}(c:(a.map (·.1)).Nodup)(h:(k,v)∈a):a9 a k=Z v:=by
 induction a with
 |nil=>cases h
 |cons p r g=>
  obtain⟨e,d⟩:=Yz.mp (show(p.1::r.map (·.1)).Nodup from c);rcases Yp.mp h with h|h;·exact h▸gm rfl
  ·rw[fR (λz=>e (by exact z▸Yg.mpr ⟨_,h,rfl⟩))];exact g d h
def IM(h:i<a.length):aw a i∈a.map (·.1):=by
 unfold aw
 grind
inductive Ip(C CL CJ:U)(d:O V)(H:Hp)(Q:VK)(E:XK):Prop
 |mk (l:BL) (b:BS) (c a:O Int) (h:d=[.ref l.h]) (g:bB H C CL CJ l c a b) (e:Nw H (.lst (b.ps.map λp=>V.str p.1)) Q)
inductive By(C CL CJ:U)(d:O V)(H:Hp)(Q:VK)(E:XK):Prop
 |mk (l:BL) (b:BS) (c a:O Int) (z:ar) (v:V) (i:d=[.ref l.h,.str z]) (h:bB H C CL CJ l c a b) (e:a9 (fF b.ps) (.inr z)=Z v) (g:Q v H)
inductive Kv(C CL CJ:U)(g:O V)(H:Hp)(Q:VK)(E:XK):Prop
 |mk (l:BL) (b:BS) (e d:O Int) (k a:ar) (o:Key) (m:g=[.ref l.h,.str k,.str a,kV o]) (j:bB H C CL CJ l e d b) (h:k="sibling"->∃b,o=.inr b) (i:∀c,ak H c->Q (.bl (b.told (keyOf k a o))) c)
inductive Oh(C CL CJ:U)(g:O V)(H:Hp)(Q:VK)(E:XK):Prop
 |mk (l:BL) (b:BS) (e d:O Int) (k a:ar) (j:g=[.ref l.h,.str k,.str a]) (i:bB H C CL CJ l e d b) (h:∀c,ak H c->Q ((a9 (cC b.ps b.fs) [.inr k,.inr a]).getD .aA) c)
abbrev jt:O ar:=["mother","father"]
def qu(b:BS)(a:ar):O V:=jt.filterMap λk=>a9 (cC b.ps b.fs) [.inr k,.inr a]
def ZeL(g:Nat->bS V):((List.range 2).filter λi=>(g i).isSome).map (λi=>(g i).getD .aA)=[g 0,g 1].filterMap id:=by
 show(([0,1]:O Nat).filter _).map _=_
 grind
def P2(b:BS)(k:O Key):b.told k=af↔k∈b.keys:=by
 unfold BS.told;rw[wx];unfold fQ BS.keys
 grind
inductive NN(C CL CJ:U)(g:O V)(H:Hp)(Q:VK)(E:XK):Prop
 |mk (l:BL) (b:BS) (e d:O Int) (a:ar) (j:g=[.ref l.h,.str a]) (i:bB H C CL CJ l e d b) (h:∀(p:U) (c:Hp),H p=aE->ak H c->c p=Z (.lst (qu b a))->Q (.ref p) c)
def dC(H:Hp)(b:bL)(a:U)(p:Nat×Fc):Prop:=H a=Z (.tup ((dG b p.1 p.2).map kV))
inductive SM(C CL CJ:U)(h:O V)(H:Hp)(Q:VK)(E:XK):Prop
 |mk (l:BL) (b:BS) (g e:O Int) (n:h=[.ref l.h]) (m:bB H C CL CJ l g e b) (i:(b.fs.map (·.1)).Nodup) (j:b.fs.length<=63) (k:∀(p:U) (d:O U) (c:O (Nat×Fc)) (a:Hp),H p=aE->ak H a->c.Perm b.fs->(c.map (·.1)).Pairwise (·<·)->a p=Z (.lst (d.map V.ref))->Paired (dC a b.ps) d c->Q (.ref p) a)
def G6(K:ai):Sp:=λb H Q _=>∃(r:U) (a:O V),b=[.ref r]/\az K H r a/\Q (.bl (decide (a.length=2))) H
theorem IP:∀{as:O U} {fs:O (Nat×Fc)} {p:Nat×Fc},Paired (dC H ps) as fs->(fs.map (·.1)).Nodup->p∈fs->∃a,a9 (bJ (fs.map (·.1)) as) (.inl (p.1:Int))=Z (.ref a)/\dC H ps a p:=by
 intro as fs p b;induction b with
 |nil=>grind
 |@cons a q as fs f t i=>
  intro c h;obtain⟨g,d⟩:=Yz.mp (show(q.1::fs.map (·.1)).Nodup from c);have l:bJ ((q::fs).map (·.1)) (a::as)=(Sum.inl (q.1:Int),V.ref a)::bJ (fs.map (·.1)) as:=rfl;rw[l];rcases Yp.mp h with rfl|h;·exact⟨a,gm rfl,f⟩
  ·obtain⟨n,k,j⟩:=i d h;refine⟨n,?_,j⟩;rw[fR (λz=>g (by
    have e:=Ao z;have m:q.1=p.1:=(lP e)
    exact m▸Yg.mpr ⟨_,h,rfl⟩))]
   exact k
theorem Oi:∀{b:O Nat} {as:O U},b.length=as.length->(bJ b as).map (·.1)=(b.map λk:Nat=>(k:Int)).map Sum.inl
 |[],[],_=>rfl
 |k::b,a::as,h=>by
  have c:bJ (k::b) (a::as)=(Sum.inl (k:Int),V.ref a)::bJ b as:=rfl;rw[c,Wq,Oi (by simpa using h)];rfl
 |[],_::_,h=>rfl
 |_::_,[],h=>by simp at h
theorem Zct(t:(fs.map (·.1)).Nodup)(d:c.Perm ((fs.map (·.1)).map λk:Nat=>(k:Int)))(r:c.Pairwise (·<=·)):∃b:O (Nat×Fc),b.Perm fs/\(b.map (·.1)).Pairwise (·<·)/\c=(b.map (·.1)).map λk:Nat=>(k:Int):=by
 have o:∀{c:O Int} {fs:O (Nat×Fc)},c.Perm ((fs.map (·.1)).map λk:Nat=>(k:Int))->∃b:O (Nat×Fc),b.Perm fs/\c=(b.map (·.1)).map λk:Nat=>(k:Int):=by
  intro c;induction c with
  |nil=>
   intro fs d;have:=d.symm.eq_nil;have e:fs=[]:=by simpa using this
   exact⟨[],by rw[e],rfl⟩
  |cons a c u=>
   intro fs d;have s:a∈(fs.map (·.1)).map λk:Nat=>(k:Int):=d.subset Yk;rw[Y7] at s;obtain⟨p,v,rfl⟩:=Yg.mp s;obtain⟨l,j,rfl⟩:=List.append_of_mem v;have m:c.Perm (((l++j).map (·.1)).map λk:Nat=>(k:Int)):=by
    have x:(((l++p::j).map (·.1)).map λk:Nat=>(k:Int)).Perm ((p.1:Int)::((l++j).map (·.1)).map λk:Nat=>(k:Int)):=by
     have:=(List.perm_middle (a:=p) (l₁:=l) (l₂:=j)).map λq:Nat×Fc=>((q.1:Nat):Int);simpa[Y7,Function.comp_def] using this
    exact(d.trans x).cons_inv
   obtain⟨b,i,g⟩:=u m;exact⟨p::b,(i.cons p).trans List.perm_middle.symm,by rw[g];rfl⟩
 obtain⟨b,i,g⟩:=o d;refine⟨b,i,?_,g⟩;have n:=(i.map _).nodup_iff.mpr t;rw[g,Wt] at r;exact(r.and n).imp λh=>by
  omega
def Zw:aP dE dE (aH E1):=.a8
def Zdt(F:aM K "people" "Hearth.people" E1 f fd)(a:eK K C)(k:Bl B):aF P w K B I aL 1 f fd dE (Ip C CL CJ):=by
 refine F.o Zw λs H r h=>?_;obtain⟨l,b,o,n,rfl,c,q⟩:=h;refine⟨_,(av (aG (fL (Zbj rfl) rfl k.wG wz (aa (pF K 0) ae)))),?_⟩;obtain⟨j,i⟩:=c.obj;refine⟨_,rfl,l.h,C,j,_,_,rfl,i,a.cls,a.rW,rfl,l.sd,_,rfl,c.cA,λp m d g e=>q p m d g ?_⟩;rw[e,Y7];rfl
abbrev kq:O ar:=["self","name"]
def Zl:aP kq kq (aH ER):=.a8
def Zcu(F:aM K "side_of" "Hearth.side_of" ER f fd)(a:eK K C)(m:Bl B):aF P w K B I aL 1 f fd kq (By C CL CJ):=by
 refine F.o Zl λs H d h=>?_;obtain⟨l,b,k,j,z,v,rfl,c,g,q⟩:=h;refine⟨_,(au (aR (kU (oG (bI d) (pv 1) (pF K 0)) QU) gL aX) (av (aG (dt (bI d) (pF K 0) (pv 1) (λ_ _=>rfl))))),?_⟩;obtain⟨i,e⟩:=c.obj;exact⟨_,rfl,_,rfl,l.h,C,i,_,_,rfl,e,a.cls,a.rW,rfl,l.sd,Z v,rfl,dm c.cA g,_,rfl,bQ (aS ⟨_,rfl,l.h,C,i,_,_,rfl,e,a.cls,a.rW,rfl,_,rfl,l.sd,v,rfl,dm c.cA g,q⟩)⟩
def ZaP:aP jX jX (aH Gg):=.a8
def ZaQ(F:aM K "is_person" "is_person" Gg f fd)(c:Bl B):aF P w K B I aL 1 f fd jX (G6 K):=by
 refine F.o ZaP λs H d h=>?_;obtain⟨r,a,rfl,b,q⟩:=h;refine⟨_,(av (aG (d7 cD (di K c (pv 0)) aI))),?_⟩;refine⟨_,rfl,r,a,rfl,.inr b,rfl,?_⟩;have e:decide (V.int (a.length:Int)=V.int 2)=decide (a.length=2):=by
  rw[Wm,eR,eR];exact⟨λz=>by have:=V.int.inj z;exact lP this,λz=>by rw[z];rfl⟩
 rw[←e] at q;exact q
abbrev qF:O ar:=["self","kind","one","other"]
def Zaj:aP qF qF (aH F0):=.a8
def ZhJ(F:aM K "has" "Hearth.has" F0 f fd)(e:eK K C)(i:HasFn P w K B I 1 "fact_key" xl CA):aF P w K B I aL 2 f fd qF (Kv C CL CJ):=by
 refine F.o Zaj λs H d h=>?_;obtain⟨l,b,v,u,k,a,o,rfl,g,j,q⟩:=h;refine⟨_,(av (aG (Zgu (Cd (bI d) (aZ i d (aa (pv 1) (aa (pv 2) (aa (pv 3) ae)))) (pF K 0)) QU))),?_⟩;refine⟨_,rfl,_,rfl,_,rfl,k,a,o,rfl,j,λp t x c m=>?_⟩;obtain⟨r,n⟩:=g.obj;refine⟨_,rfl,l.h,C,r,_,_,rfl,c _ _ n,e.cls,e.BY,rfl,l.kn,_,rfl,eW.t (c _ _ g.known) m,?_⟩;exact q t c
abbrev C1:O ar:=["self","kind","name"]
def Zb:aP C1 C1 (aH Ey):=.a8
def ZaR(F:aM K "parent_of" "Hearth.parent_of" Ey f fd)(d:eK K C):aF P w K B I aL 1 f fd C1 (Oh C CL CJ):=by
 refine F.o Zb λs H g h=>?_;obtain⟨l,b,r,o,k,a,rfl,c,q⟩:=h;refine⟨_,(av (aG (Zd9 (bI g) (pF K 0) (df (aa (pv 1) (aa (pv 2) ae))) ⟨rfl,rfl,rfl,rfl⟩))),?_⟩;obtain⟨m,j⟩:=c.obj;refine⟨_,rfl,l.h,C,m,_,_,rfl,j,d.cls,d.wg,rfl,l.pr,rfl,.inr ⟨_,.inl c.parents⟩,_,rfl,_,rfl,by show 2<=sizeLine;decide,λp n t e i=>?_⟩;exact⟨_,eW.t (k:=[.inr k,.inr a]) (e _ _ c.parents) i,q n e⟩
def YZ:aP kq kq (aH Ew):=.a8
theorem Zak(F:aM K "parents_of" "Hearth.parents_of" Ew f fd)(j:eK K C)(Q:B "PARENTS"=Z (.ref o))(t:∀H,az K H o (jt.map V.str)):aF P w K B I aL 1 f fd kq (NN C CL CJ):=by
 refine F.o YZ λs H y h=>?_;obtain⟨l,b,xs,ys,a,rfl,r,q⟩:=h;refine⟨_,(av (aG (jK (x:="kind") (fr:=[("self",0),("name",1)]) (cl:=[("self",s.heap.objs.size+1),("name",s.heap.objs.size+1+1)]) rfl (.gW ⟨rfl,⟨rfl,trivial⟩⟩ ⟨⟨rfl,.inl rfl,.inl rfl,rfl⟩,⟨⟨rfl,.inl rfl,.inl rfl,rfl⟩,trivial⟩⟩) (IZ (dH (v:=.ref o) rfl Q rfl)) (λ_ _ _ _=>yO (kU (Cd (bI y) (df (aa (pv 0) (aa (pv 2) ae))) (wA (K:=K) rfl (pv 1) rfl)) QU)) (λ_ _ _ _=>(dt (bI y) (wA (K:=K) rfl (pv 1) rfl) (df (aa (pv 0) (aa (pv 2) ae))) (λ_ _=>rfl)))))),?_⟩;obtain⟨J,E⟩:=r.obj;let val:Nat->bS V:=λi=>a9 (cC b.ps b.fs) [.inr (jt.getD i ""),.inr a];refine⟨o,rfl,⟨_,t _⟩,λD A=>Zc_ (t _) QD A (λi=>(val i).isSome) (λi=>(val i).getD .aA) (λi v c L g _ Kt Kf m n=>?_) λL g T=>q D L A g ?_⟩
 ·obtain⟨k,rfl,X⟩:∃k:ar,v=.str k/\jt.getD i ""=k:=by
   match i,c with
   |0,c=>exact⟨"mother",(Yo c).symm,rfl⟩
   |1,c=>exact⟨"father",(Yo c).symm,rfl⟩
   |i+2,c=>simp at c
  have W:val i=a9 (cC b.ps b.fs) [.inr k,.inr a]:=by show a9 (cC b.ps b.fs) [.inr (jt.getD i ""),.inr a]=_;rw[X]
  refine⟨_,rfl,_,rfl,by show 2<=sizeLine;decide,λp H2 np d R=>?_⟩;refine⟨_,rfl,l.h,C,J,_,_,rfl,d _ _ (g _ _ E),j.cls,j.wg,rfl,l.pr,_,rfl,eW.t (k:=[.inr k,.inr a]) (d _ _ (g _ _ r.parents)) R,_,rfl,?_⟩;rw[W] at m n;cases e:a9 (cC b.ps b.fs) [.inr k,.inr a] with
  |none=>
   rw[e] at n;exact bQ (n H2 rfl d)
  |some u=>
   rw[e] at m;refine cS ?_;refine⟨_,rfl,l.h,C,J,_,_,rfl,d _ _ (g _ _ E),j.cls,j.wg,rfl,_,rfl,_,rfl,by show 2<=sizeLine;decide,λp3 H3 N G Xf=>?_⟩;refine⟨l.pr,u,rfl,?_,m u H3 rfl (d.trans G) rfl⟩;have z:=eW.t (k:=[.inr k,.inr a]) (G _ _ (d _ _ (g _ _ r.parents))) Xf;rw[e] at z;exact z
 ·rw[T];have e:((List.range (jt.map V.str).length).filter λi=>(val i).isSome).map (λi=>(val i).getD .aA)=qu b a:=by
   exact ZeL val
  rw[e]
def ZZ:aP dE dE (aH FA):=.a8
theorem Zf4(F:aM K "kept" "Hearth.kept" FA f fd)(u:eK K C)(bl:Bl B):aF P w K B I aL 1 f fd dE (SM C CL CJ):=by
 refine F.o ZZ λs H hr h=>?_;obtain⟨l,b,xs,t,rfl,r,X,fl,q⟩:=h;refine⟨_,(av (aG (jK (x:="number") (fr:=[("self",0)]) (cl:=[("self",s.heap.objs.size+1)]) rfl (.gW ⟨rfl,trivial⟩ ⟨⟨rfl,.inl rfl,.inl rfl,rfl⟩,trivial⟩) (gn (K:=K) rfl (iN (Zad rfl) rfl bl.Bs Bh (aa (pF K 0) ae))) (λ_ _ _ _=>mf) (λ_ _ _ _=>(dt (bI hr) (wA (K:=K) rfl (pv 1) rfl) (pv 0) (λ_ _=>rfl)))))),?_⟩;obtain⟨dx,h1⟩:=r.obj;have al:(b.fs.map (·.1)).length=l.cq.length:=by rw[Ya];exact(cK r.fact).symm
 refine⟨_,rfl,l.h,C,dx,_,_,rfl,h1,u.cls,u.rX,rfl,l.fc,_,(b.fs.map (·.1)).map (λk:Nat=>(k:Int)),rfl,r.facts,Oi al,by rw[Ya,Ya];exact rz fl,λns pm so p H1 np A hp=>?_⟩;obtain⟨aQ,J,q2,q3⟩:=Zct X pm so;have n_:aQ.length<=63:=by rw[J.length_eq];exact fl
 subst q3;have nl:(((aQ.map (·.1)).map λk:Nat=>(k:Int)).map V.int).length=aQ.length:=by rw[Ya,Ya,Ya]
 refine⟨p,rfl,⟨_,aq.of hp⟩,λD Q=>?_⟩;refine yw (aq.of hp) QO Q (λ_=>af) (λi y m=>∃a c,aQ[i]?=Z c/\y=.ref a/\dC m b.ps a c/\dC H b.ps a c) (λi y m H3 br ⟨a,c,o,n,e3,G⟩=>⟨a,c,o,n,br _ _ e3 (λz=>by
   have:=A _ _ G;rw[z,Q] at this;cases this),G⟩) (λi v d m T _ Kt Kf kt _=>k_ (cS ?_)) λfD m T h2 c=>?_
 ·rw[Yf,Yf,Yf] at d;cases E:aQ[i]? with
  |none=>rw[E] at d;cases d
  |some L=>
   rw[E] at d;obtain rfl:V.int (L.1:Int)=v:=Yo d;obtain⟨a,o,n⟩:=IP r.fact X (J.subset (Yj E));have R:=A.trans T;refine⟨_,rfl,l.h,C,dx,_,_,rfl,R _ _ h1,u.cls,u.rX,rfl,_,rfl,l.fc,.ref a,rfl,qt (R _ _ r.facts) o,kt _ m rfl (ak.refl _) ⟨a,L,E,rfl,R _ _ n,n⟩⟩
 ·rw[A7,nl] at c;obtain⟨j,ea,pa⟩:∃j:O U,fD=j.map V.ref/\Paired (dC m b.ps) j aQ:=by
   have W:∀{t:O V} {N:O Nat} {gs:O (Nat×Fc)},Paired (λy i=>∃a c,aQ[i]?=Z c/\y=.ref a/\dC m b.ps a c/\dC H b.ps a c) t N->N.map (λi=>aQ[i]?)=gs.map Z->∃j:O U,t=j.map V.ref/\Paired (dC m b.ps) j gs:=by
    intro t N gs c;induction c generalizing gs with
    |nil=>
     intro e;cases gs with
     |nil=>exact⟨[],rfl,.nil⟩
     |cons _ _=>cases e
    |cons f _ ih=>
     intro e;cases gs with
     |nil=>cases e
     |cons g gs=>
      obtain⟨a,L,o,n,e3,_⟩:=f;injection e with G e5;obtain⟨j,r1,r2⟩:=ih e5;exact⟨a::j,by rw[n,r1];rfl,.cons (by rwa[←Yo (o.symm.trans G)]) r2⟩
   refine W c (Wu λi=>?_);rw[Yf,Yf];by_cases d:i<aQ.length;·rw[J1 d,Yc d];exact dJ Z (Yc d)
   ·rw[Y4 (by rw[Js];exact eL d),Y4 (eL d)];rfl
  subst ea;exact q D j aQ m (A.free Q) (A.trans T) J q2 h2 pa
def B0(h:i<a.length):aw (a++[x]) i=aw a i:=by
 unfold aw
 grind
def Iq(b:dR n a.length c):bp (a++[x]) c=bp a c:=by
 unfold bp;by_cases e:c.k=bC;·grind
 ·rw[bu e,bu e,B0 (b.iD e).1.2]
def Rc(b:dR n a.length c):dG (a++[x]) z c=dG a z c:=by
 unfold dG;rw[Iq b,B0 b.one]
def Rf(b:dR n a.length c):eF (a++[x]) c=eF a c:=by
 unfold eF;rw[Iq b,B0 b.one]
def Rg(b:∀p∈fs,dR n a.length p.2):fQ (a++[x]) fs=fQ a fs:=by
 exact W8 λp c=>by rw[Rf (b p c)]
def IQ(b:∀p∈fs,dR n a.length p.2):cC (a++[x]) fs=cC a fs:=by
 exact W8 λp c=>by
  have o:=b p (Y5.mp c).1;rw[Iq o,B0 o.one]
def Rh(a:bL)(n s:ar):fF (a++[(n,s)])=fF a++[(.inr n,.str s)]:=Yi
def Ri(a:bL)(x:ar×ar):g_ (a++[x])=g_ a++[(.inr x.1,.int (a.length:Int))]:=by
 unfold g_
 grind
def ZeM(a:bL)(b:O (Nat×Fc))(z:Nat)(c:Fc):fQ a (b++[(z,c)])=fQ a b++[(eF a c,.int (z:Int))]:=Yi
def Ir(h:cU c.k=af):cC a (fs++[(z,c)])=cC a fs++[([.inr c.k,.inr (aw a c.one)],kV (bp a c))]:=by
 unfold cC
 grind
def P4(h:cU c.k=a7):cC a (fs++[(z,c)])=cC a fs:=by
 unfold cC
 grind
def B3(k:ar):fY (.str k) (jt.map V.str)=cU k:=by
 show((("mother":ar)==k)||((("father":ar)==k)||a7))=(decide (k="mother")||decide (k="father"))
 grind
theorem NO{c e d:Type}[DecidableEq e][DecidableEq d]{f:c->e}{g:c->d}:∀{b:O c} {x:c},(b.map f).Nodup->(b.map g).Nodup->x∈b->b.filter (λy=>decide (f y≠f x))=b.filter (λy=>decide (g y≠g x)):=by
 intro b x l k j;have inj:∀{i:Type} {h:c->i},(b.map h).Nodup->∀y∈b,h y=h x->y=x:=by
  induction b with
  |nil=>cases j
  |cons a r m=>grind
 refine Xg λy n=>?_
 grind
def ZeN(b:(fs.map (·.1)).Nodup)(d:(fs.map λp=>eF a p.2).Nodup)(m:(z,c)∈fs):gq (fQ a fs) (eF a c)=fQ a (cz z fs):=by
 unfold fQ gq cz;rw[D1];exact dJ _ (NO d b m)
def ZeO(d:(fs.map (·.1)).Nodup)(b:((cC a fs).map (·.1)).Nodup)(m:(z,c)∈fs)(h:cU c.k=af):gq (cC a fs) [.inr c.k,.inr (aw a c.one)]=cC a (cz z fs):=by
 unfold cC at b⊢;rw[Y7] at b;unfold gq cz;rw[D1,Jm];have e:=NO b (d.sublist (List.filter_sublist.map _)) (Y5.mpr ⟨m,h⟩);rw[Jm,Jm] at e;rw[Jm];exact dJ _ (e.trans (dJ (fs.filter ·) (funext λp=>Bool.and_comm _ _)))
theorem Zdu(d:(fs.map (·.1)).Nodup)(m:(z,c)∈fs)(h:cU c.k=a7):cC g fs=cC g (cz z fs):=by
 unfold cC cz;rw[Jm];refine dJ _ (Xg λp i=>?_);by_cases e:p.1=z
 ·have:p=(z,c):=by
   have b:∀{fs:O (Nat×Fc)},(fs.map (·.1)).Nodup->p∈fs->(z,c)∈fs->p=(z,c):=by
    induction fs with
    |nil=>grind
    |cons a r j=>grind
   exact b d i m
  grind
 ·grind
inductive Move(a d:O Int)(H:Hp)(r:U)(b:BS):Int->BS->Prop
 |pin (n s:ar) (h:H r=Z (.tup [.str n,.str s])) (new:n∉b.ps.map (·.1)) (g:b.ps.length<64):Move a d H r b 1 {b with ps:=b.ps++[(n,s)]}
 |fin (z:Nat) (c:Fc) (h:dC H b.ps r (z,c)) (q:fC a d b.ps.length c) (j:z∉b.fs.map (·.1)) (l:eF b.ps c∉b.keys) (k:cU c.k=af->[.inr c.k,.inr (aw b.ps c.one)]∉(cC b.ps b.fs).map (·.1)) (o:∃f,mW a.length b.ps.length f/\∀i∈b.F++[c],fO f i) (g:b.fs.length<63):Move a d H r b 1 {b with fs:=b.fs++[(z,c)]}
 |jS (z:Nat) (c:Fc) (h:dC H b.ps r (z,c)) (m:(z,c)∈b.fs):Move a d H r b (-1) {b with fs:=cz z b.fs}
 |xm (n s:ar) (e:bL) (h:H r=Z (.tup [.str n,.str s])) (t:b.ps=e++[(n,s)]) (new:n∉e.map (·.1)) (u:∀p∈b.fs,dR a.length e.length p.2):Move a d H r b (-1) {b with ps:=e}
theorem Move.out{w:Int}(m:Move xs e H r b w b')(k:∀d,H r=Z (.tup d)->p r=Z (.tup d)):Move xs e p r b w b':=by
 cases m with
 |pin n s a new lim=>exact .pin n s (k _ a) new lim
 |fin z c a i g h np lv lim=>exact .fin z c (k _ a) i g h np lv lim
 |jS z c a m=>exact .jS z c (k _ a) m
 |xm n s l a j new o=>exact .xm n s l (k _ a) j new o
theorem Move.CB{w:Int}(m:Move xs g H r b w p)(e d:O dF):Move xs g H r {b with dn:=e,un:=d} w {p with dn:=e,un:=d}:=by
 cases m with
 |pin n s a new lim=>exact .pin n s a new lim
 |fin z c a j h i np lv lim=>exact .fin z c a j h i np lv lim
 |jS z c a m=>exact .jS z c a m
 |xm n s l a k new o=>exact .xm n s l a k new o
inductive Rj(C CL CJ:U)(e:O V)(H:Hp)(Q:VK):Prop
 |mk (l:BL) (b:BS) (h g:O Int) (d:U) (z:Nat) (c:Fc) (p:e=[.ref l.h,.ref d]) (o:bB H C CL CJ l h g b) (m:dC H b.ps d (z,c)) (i:z∉b.fs.map (·.1)) (k:eF b.ps c∉b.keys) (j:cU c.k=af->[.inr c.k,.inr (aw b.ps c.one)]∉(cC b.ps b.fs).map (·.1)) (n:b.fs.length<=63)
   (q:∀a,Out [l.fc,l.kn,l.pr] H a->a l.fc=Z (.dK (bJ ((b.fs++[(z,c)]).map (·.1)) (l.cq++[d])))->a l.kn=Z (.dT (fQ b.ps (b.fs++[(z,c)])))->a l.pr=Z (.dT (cC b.ps (b.fs++[(z,c)])))->Q .aA a):Rj C CL CJ e H Q
def SN(C CL CJ:U):Sp:=λa H Q _=>Rj C CL CJ a H Q
inductive Rk(C CL CJ:U)(h:O V)(H:Hp)(Q:VK)(E:XK):Prop
 |mk (l:BL) (b g:BS) (c a:O Int) (r:U) (j:h=[.ref l.h,.ref r]) (i:bB H C CL CJ l c a b) (ok:bP c a b) (mv:Move c a H r b 1 g) (q:∀(e:BL) (d:Hp),bq H d l e->bB d C CL CJ e c a g->Q .aA d)
inductive O1(C CL CJ:U)(h:O V)(H:Hp)(Q:VK)(E:XK):Prop
 |mk (l:BL) (b g:BS) (c a:O Int) (r:U) (j:h=[.ref l.h,.ref r]) (i:bB H C CL CJ l c a b) (ok:bP c a b) (mv:Move c a H r b (-1) g) (q:∀(e:BL) (d:Hp),bq H d l e->bB d C CL CJ e c a g->Q .aA d)
inductive B4(C CL CJ:U)(i:O V)(H:Hp)(Q:VK)(E:XK):Prop
 |mk (l:BL) (b h:BS) (c a:O Int) (r:U) (w:Int) (g:Nat) (k:i=[.ref l.h,.int w,.ref r,.int (g:Int)]) (j:bB H C CL CJ l c a b) (ok:bP c a b) (mv:Move c a H r b w h) (q:∀(e:BL) (d:Hp),bq H d l e->bB d C CL CJ e c a {h with co:=g}->Q .aA d)
inductive Bz(C CL CJ:U)(j:O V)(H:Hp)(Q:VK)(E:XK):Prop
 |mk (l:BL) (b i:BS) (d c:O Int) (r:U) (w:Int) (e:Nat) (a:O Key) (n:j=[.ref l.h,.int w,.ref r,.int (e:Int)]) (m:bB H C CL CJ l d c b) (ok:bP d c b) (dl:b.dn.length<200) (k:H r=Z (.tup (a.map kV))) (mv:Move d c H r b w i) (q:∀(h:BL) (g:Hp),bq H g l h->bB g C CL CJ h d c {i with co:=e,dn:=b.dn++[⟨w,a,b.co,e⟩],un:=[]}->Q .aA g)
def Rl{c:Fc}(e:c.k="sibling"):∃b,bp a c=.inr b:=⟨_,i_ (by rw[e];decide+kernel)⟩
abbrev uF:O ar:=["self","fact"]
abbrev UX:O ar:=["self","fact","number","kind","one","other"]
def yf:aP UX uF (aH Ez):=.a8
theorem Zf5(F:aM K "note_fact" "Hearth.note_fact" Ez f fd)(g:eK K C)(jI:B "PARENTS"=Z (.ref G))(qP:∀H,az K H G (jt.map V.str))(pX:HasFn P w K B I 1 "fact_key" xl CA):aF P w K B I aL 2 f fd uF (SN C CL CJ):=by
 refine F.o yf λs H k h=>?_;obtain⟨l,b,xs,ys,D,z,c,rfl,d,hf,nz,nk,np,fl,q⟩:=h;refine⟨_,(au (kg (pv 1) (gO (K:=K) (n:=4) rfl rfl (bw (bc 2 yf.nd) (bw (bc 3 yf.nd) (bw (bc 4 yf.nd) (bw (bc 5 yf.nd) gM)))))) (au (qc (bI k) (pF K 0) (pv 2) (pv 1)) (au (OL (bI k) (pF K 0) (aZ pX k (aa (pv 3) (aa (pv 4) (aa (pv 5) ae)))) (pv 2)) (av (aR (iO (nS (K:=K) rfl) (pv 3) (dH (v:=.ref G) rfl jI rfl) QU) (av (OL (bI k) (pF K 0) (df (aa (pv 3) (aa (pv 4) ae))) (pv 5))) aX))))),?_⟩;refine nV ?_;intros;obtain⟨E,i⟩:=d.obj;have sz:(10000:Nat)<=sizeLine:=by rw[dw];decide
 have al:(b.fs.map (·.1)).length=l.cq.length:=by rw[Ya];exact(cK d.fact).symm
 have D2:l.h≠l.fc:=eI i d.facts (λz=>by cases z);have x:l.h≠l.kn:=eI i d.known (λz=>by cases z);have W:l.kn≠l.fc:=eI d.known d.facts (λz=>by cases z);have N:l.pr≠l.fc:=eI d.parents d.facts (λz=>by cases z);have X:l.pr≠l.kn:=λe=>by
  have:=d.nd;unfold BL.own at this;simp[e] at this
 refine⟨_,rfl,D,_,rfl,az.of hf,rfl,_,_,rfl,aU ⟨_,_,rfl,aU ⟨_,_,rfl,aU ⟨_,_,rfl,aU ⟨rfl,?_⟩⟩⟩⟩⟩;refine⟨_,rfl,_,rfl,l.h,C,E,_,_,rfl,i,g.cls,g.rX,rfl,_,rfl,l.fc,_,.inl (z:Int),rfl,d.facts,rfl,by unfold bJ;rw[Ya,Jf,Ya];omega,λH1 L R=>?_⟩;have vz:a9 (bJ (b.fs.map (·.1)) l.cq) (.inl (z:Int))=aE:=Bk nz;rw[l4 _ vz,A_ z D al] at R;refine⟨_,rfl,_,rfl,l.h,C,E,_,_,rfl,L _ _ i D2,g.cls,g.BY,rfl,_,rfl,_,rfl,_,rfl,c.k,aw b.ps c.one,bp b.ps c,rfl,λe=>Rl e,λp H2 mV A dB=>?_⟩;refine⟨l.kn,p,_,eF b.ps c,rfl,A _ _ (L _ _ d.known W),rfl,dB,by unfold fQ;rw[Ya];omega,λu T j=>?_⟩;have vk:a9 (fQ b.ps b.fs) (eF b.ps c)=aE:=tO (by
  have:(fQ b.ps b.fs).map (·.1)=b.keys:=by unfold fQ BS.keys;rw[Y7];rfl
  rw[this];exact nk)
 rw[l4 _ vk] at j
 replace j:u l.kn=Z (.dT (fQ b.ps (b.fs++[(z,c)]))):=by rw[ZeM];exact j
 have y:∀{a:U} {o:HO},H a=Z o->a≠l.fc->a≠l.kn->u a=Z o:=λ{a o} e n1 n2=>T _ _ (A _ _ (L _ _ e n1)) n2;have Q:u l.fc=Z (.dK (bJ ((b.fs++[(z,c)]).map (·.1)) (l.cq++[D]))):=by
  have:=T _ _ (A _ _ R) (λz=>W z.symm);rw[this,Yi];rfl
 have Ay:=y d.parents N X;refine⟨_,rfl,G,_,rfl,.inr (qP _),rfl,rfl,_,rfl,?_⟩;dsimp only;rw[bu Yh,show fY (kV (Sum.inr c.k)) (jt.map V.str)=cU c.k from B3 c.k];refine bF (λt=>?_) (λt=>aS ?_)
 ·refine⟨_,rfl,_,rfl,l.h,C,E,_,_,rfl,y i D2 x,g.cls,g.wg,rfl,_,rfl,_,rfl,by show 2<=sizeLine;decide,λp4 H4 np4 m MH=>?_⟩;refine⟨l.pr,p4,_,[.inr c.k,.inr (aw b.ps c.one)],rfl,m _ _ Ay,rfl,MH,?_,λH5 J r=>?_⟩
  ·unfold cC;rw[Ya];have:=Wn (λp:Nat×Fc=>cU p.2.k) b.fs;omega
  have vp:a9 (cC b.ps b.fs) [.inr c.k,.inr (aw b.ps c.one)]=aE:=tO (np t);rw[l4 _ vp] at r
  replace r:H5 l.pr=Z (.dT (cC b.ps (b.fs++[(z,c)]))):=by rw[Ir t];exact r
  refine q H5 (λa o e n=>?_) (J _ _ (m _ _ Q) (λz=>N z.symm)) (J _ _ (m _ _ j) (λz=>X z.symm)) r;simp only[Yp,Y1,fM,gV] at n;exact J _ _ (m _ _ (y e n.1 n.2.1)) n.2.2
 ·have ef:cU c.k=a7:=by
   cases e:cU c.k with
   |true=>exact absurd e t
   |false=>rfl
  refine q u (λa o e n=>?_) Q j (by rw[P4 ef];exact Ay)
  grind
theorem SO{l:BL}{H g:Hp}{c d:JL}(i:l.eG=c.fp)(o:Out l.own H g)(h:eZ c.fp d.fp g):eZ l.fp ({l with eG:=d.fp}:BL).fp H:=λa z=>by
 rcases Yv.mp (z) with q|q;·exact .inl (Ys _ q)
 ·rcases h a q with m|m;·exact .inl (Ym _ (by rwa[i]))
  ·by_cases b:a∈l.own;·exact .inl (Ys _ b)
   ·right
    cases e:H a with
    |none=>rfl
    |some u=>rw[o _ _ e b] at m;cases m
def T4{l:BL}{b:JL}(d:l.eG=b.fp)(o:Out l.own H H1)(c:Out b.fp H1 H2):Out l.fp H H2:=λa u e n=>c _ _ (o _ _ e λz=>n (Ys _ z)) λz=>n (Ym _ (by rwa[d]))
def oN{l:BL}(o:Out l.own H H1):Out l.fp H H1:=λa u e n=>o _ _ e λz=>n (Ys _ z)
abbrev xt:O ar:=["self","row"]
def EU:aP ["self","row","name","side"] xt (aH E2):=.a8
theorem Zdv(F:aM K "put_in" "Hearth.put_in" E2 f fd)(i:eK K C)(vT:HasFn P w K B I 1 "is_person" jX (G6 K))(vU:bZ P w K B I 2 "add" CJ dE (Ks CJ))(EB:bZ P w K B I 2 "note_fact" C uF (SN C CL CJ))(vV:HasFn P w K B I 6 "keep_fact" uE (IL CL CJ))(bl:Bl B):aF P w K B I aL 8 f fd xt (Rk C CL CJ):=by
 refine F.o EU @λbM A outer vs Q E s H hr h=>?_;obtain⟨l,b,b',N,ys,r,rfl,d,ok,mv,q⟩:=h;refine⟨_,(av (aR (dN (aZ vT hr (aa (pv 1) ae))) (au (kg (pv 1) (gO (K:=K) (n:=2) rfl rfl (bw (bc 2 EU.nd) (bw (bc 3 EU.nd) gM)))) (au (qc (bI hr) (pF K 0) (pv 2) (iN (Zb8) rfl bl.Cv B9 (aa (pF K 0) ae))) (au (qc (bI hr) (pF K 0) (pv 2) (pv 3)) (av (aR (bH BH (pF K 0) mj) (av (cv (qp vU hr (by decide) (pF K 0)))) aX))))) (au (cv (cQ EB hr (by decide) (pv 0) (aa (pv 1) ae))) (av (aR (bH BH (pF K 0) mj) (av (cv (aZ vV hr (aa (pF K 0) (aa (pF K 0) (aa (pF K 0) (aa (pv 1) ae))))))) aX))))),?_⟩;obtain⟨D,h1⟩:=d.obj;have sz:(10000:Nat)<=sizeLine:=by rw[dw];decide
 have nd:=d.nd;unfold BL.own at nd;have Xi:=nd;simp only[Yz,Yp,Y1,fM,gV] at Xi;obtain⟨⟨jC,cB,hU,kJ,mY,jD,jZ⟩,⟨qZ,pj,pq,pA,og,oh⟩,⟨oi,pB,pC,oj,oo⟩,_⟩:=Xi;have uG:∀p∈b.fs,dR N.length b.ps.length p.2:=λp hp=>(ok.fg p hp).ok;cases mv with
 |pin n s hR new lim=>
  refine⟨_,rfl,r,_,rfl,az.of hR,_,rfl,cS ?_⟩;refine⟨_,rfl,r,_,rfl,az.of hR,rfl,_,_,rfl,aU ⟨_,_,rfl,aU ⟨rfl,?_⟩⟩⟩;have kl:(fF b.ps).length=b.ps.length:=Ya _;have pl':(g_ b.ps).length=b.ps.length:=by unfold g_;rw[Ya,List.length_zipIdx]
  refine⟨_,rfl,l.h,C,D,_,_,rfl,h1,i.cls,i.rW,rfl,l.sd,_,rfl,d.cA,_,rfl,l.h,C,D,_,_,rfl,h1,i.cls,i.rP,rfl,_,rfl,l.pl,_,.inr n,rfl,d.places,rfl,QO,λH1 b1 e1=>?_⟩;have Kw:(g_ b.ps).map (·.1)=b.ps.map λp=>(.inr p.1:Key):=by
   unfold g_;rw[Y7];have:(λp:(ar×ar)×Nat=>((.inr p.1.1:Key),V.int (p.2:Int)).1)=(λp:ar×ar=>(.inr p.1:Key))∘Prod.fst:=rfl;show b.ps.zipIdx.map (λp:(ar×ar)×Nat=>((.inr p.1.1:Key),V.int (p.2:Int)).1)=_;rw[this,←Y7,D6]
  have zI:∀{ks:O Key},ks=(b.ps.map λp=>(.inr p.1:Key))->(.inr n:Key)∉ks:=λ{ks} e z=>by
   rw[e] at z;obtain⟨p,hp,ep⟩:=Yg.mp z;exact new (Yg.mpr ⟨p,hp,We ep⟩)
  have vp:a9 (g_ b.ps) (.inr n)=aE:=tO (zI Kw);have vs':a9 (fF b.ps) (.inr n)=aE:=tO (zI (by show(b.ps.map _).map _=_;rw[Y7];rfl));rw[l4 _ vp,kl] at e1;refine⟨_,rfl,_,rfl,l.h,C,D,_,_,rfl,b1 _ _ h1 cB,i.cls,i.rW,rfl,_,rfl,l.sd,_,.inr n,rfl,b1 _ _ d.cA qZ,rfl,QO,λH2 b2 e2=>?_⟩;rw[l4 _ vs'] at e2;have j:∀{a:U} {o:HO},H a=Z o->a≠l.pl->a≠l.sd->H2 a=Z o:=λ{a o} e n1 n2=>b2 _ _ (b1 _ _ e n1) n2;have J:Out l.own H H2:=λa u e na=>j e (λz=>na (by rw[z];simp[BL.own])) (λz=>na (by rw[z];simp[BL.own]));have s2:H2 l.sd=Z (.dK (fF (b.ps++[(n,s)]))):=by rw[Rh];exact e2
  have p2:H2 l.pl=Z (.dK (g_ (b.ps++[(n,s)]))):=by rw[Ri];exact b2 _ _ e1 (λz=>qZ z.symm)
  have R:=j h1 cB jC;have tp:∀{a:U} {G:O V} {H3:Hp},Out l.fp H H3->H a=Z (.tup G)->H3 a=Z (.tup G):=λo e=>o _ _ e (d.tup e);have mk:∀(x:BL) (H3:Hp),x={l with eG:=x.eG}->Out l.fp H H3->eZ l.fp x.fp H->(∀a u,H2 a=Z u->a∈l.own->H3 a=Z u)->uD H3 CJ N.length x {b with ps:=b.ps++[(n,s)]}->Q .aA H3:=λx H3 t o g k rk=>by
   refine q x H3 ⟨by rw[t],o,g⟩ ?_;refine d.build (l':=x) (b':={b with ps:=b.ps++[(n,s)]}) (by rw[t]) (by rw[t]) (by rw[t]) (by rw[t]) (by rw[t]) (by rw[t]) (by rw[t]) (by rw[t]) (by rw[t]) o g ⟨D,?_⟩ (k _ _ s2 (by simp[BL.own])) (k _ _ p2 (by simp[BL.own])) ?_ ?_ ?_ ?_ ?_ ?_ ?_ ?_ rk
   ·have:x.rk=l.rk:=by rw[t]
    rw[this];exact k _ _ R (by simp[BL.own])
   ·have:x.cq=l.cq:=by rw[t]
    rw[this];exact k _ _ (j d.facts (λz=>oi z.symm) (λz=>pj z.symm)) (by simp[BL.own])
   ·have:x.cq=l.cq:=by rw[t]
    rw[this];have aux:∀{as:O U} {fs:O (Nat×Fc)},Paired (λa (p:Nat×Fc)=>H a=Z (.tup ((dG b.ps p.1 p.2).map kV))) as fs->(∀p∈fs,dR N.length b.ps.length p.2)->Paired (λa (p:Nat×Fc)=>H3 a=Z (.tup ((dG (b.ps++[(n,s)]) p.1 p.2).map kV))) as fs:=by
     intro as fs pr;induction pr with
     |nil=>intro _;exact .nil
     |cons f _ ih=>intro m;exact .cons (by rw[Rc (m _ Yk)];exact tp o f) (ih λp hp=>m p (Yx _ hp))
    exact aux d.fact uG
   ·show H3 l.kn=Z (.dT (fQ (b.ps++[(n,s)]) b.fs));rw[Rg uG];exact k _ _ (j d.known (λz=>pB z.symm) (λz=>pq z.symm)) (by simp[BL.own])
   ·show H3 l.pr=Z (.dT (cC (b.ps++[(n,s)]) b.fs));rw[IQ uG];exact k _ _ (j d.parents (λz=>pC z.symm) (λz=>pA z.symm)) (by simp[BL.own])
   ·have:x.c_=l.c_:=by rw[t]
    rw[this];exact k _ _ (j d.done (λz=>oj z.symm) (λz=>og z.symm)) (by simp[BL.own])
   ·have:x.c_=l.c_:=by rw[t]
    rw[this];exact L2.Paired.bA d.ik λ_ _ e=>e.out o λa G e=>d.tup e
   ·have:x.fh=l.fh:=by rw[t]
    rw[this];exact k _ _ (j d.fq (λz=>oo z.symm) (λz=>oh z.symm)) (by simp[BL.own])
   ·have:x.fh=l.fh:=by rw[t]
    rw[this];exact L2.Paired.bA d.jj λ_ _ e=>e.out o λa G e=>d.tup e
  cases hj:d.uh with
  |no L W=>
   rw[L] at R;refine⟨_,rfl,l.h,C,D,_,_,rfl,R,i.cls,i.iM,rfl,rfl,_,rfl,bQ (aS ?_)⟩;exact mk l H2 rfl (oN J) (eZ.refl _ _) (λ_ _ e _=>e) (.no L W)
  |at_ jl st L W ja X len gw=>
   have T:=R;rw[L] at T;have D3:=ja.iQ J gw (d.JW ja X) λa G e z=>d.tup e (Ys _ z);obtain⟨dj,ej⟩:=D3.obj;have wf:=X.wf;have ml:=wf.SE;have Aw:=wf.Cz;have n8:N.length<=8:=ok.gd.2.2.2.2;refine⟨_,rfl,l.h,C,D,_,_,rfl,T,i.cls,i.iM,rfl,rfl,_,rfl,cS ?_⟩;refine⟨_,rfl,l.h,C,D,_,_,rfl,T,i.cls,i.iM,rfl,jl.J,dj,_,rfl,ej,rfl,jl,st,N.length,rfl,D3,(dW n8 (by decide)),QO,ml,Aw,wf.ll,λz=>Wb _ (wf.lm _ z),λz=>Wb _ (wf.lf _ z),λiE H3 k1 o3 gr MI=>?_⟩;refine mk {l with eG:=iE.fp} H3 rfl (T4 W J o3) (SO W J gr) (λa u e m=>o3 _ _ e (gw a m)) ?_;refine .at_ iE _ (by rw[k1];exact L) rfl MI (X.more (by have:=ok.gd.2.2.2.1;omega)) ?_ λa m z=>?_;·rw[jJ,len,Yd];rfl
   ·rcases gr a z with y|y;·exact gw a m y
    ·have:=d.there (a:=a) (Ys _ m);have:H2 a≠aE:=by
      have m':a∈l.own:=m;unfold BL.own at m';simp only[Yp,Y1,fM] at m';rcases m' with rfl|rfl|rfl|rfl|rfl|rfl|rfl|rfl;·rw[R];exact λz=>nomatch z
      ·rw[s2];exact λz=>nomatch z
      ·rw[p2];exact λz=>nomatch z
      ·rw[j d.facts (λz=>oi z.symm) (λz=>pj z.symm)];exact λz=>nomatch z
      ·rw[j d.known (λz=>pB z.symm) (λz=>pq z.symm)];exact λz=>nomatch z
      ·rw[j d.parents (λz=>pC z.symm) (λz=>pA z.symm)];exact λz=>nomatch z
      ·rw[j d.done (λz=>oj z.symm) (λz=>og z.symm)];exact λz=>nomatch z
      ·rw[j d.fq (λz=>oo z.symm) (λz=>oh z.symm)];exact λz=>nomatch z
     exact this y
 |fin z c hR fg nz nk np lv lim=>
  refine⟨_,rfl,r,_,rfl,az.of hR,_,rfl,bQ ?_⟩;refine⟨_,rfl,l.h,D,_,rfl,h1,rfl,_,rfl,l,b,N,ys,r,z,c,rfl,d,hR,nz,nk,np,(sC lim),λH1 o1 f1 k1 p1=>?_⟩;have j:∀{a:U} {o:HO},H a=Z o->a≠l.fc->a≠l.kn->a≠l.pr->H1 a=Z o:=λ{a o} e n1 n2 n3=>o1 _ _ e (by simp[n1,n2,n3]);have J:Out l.own H H1:=λa u e na=>j e (λz=>na (by rw[z];simp[BL.own])) (λz=>na (by rw[z];simp[BL.own])) (λz=>na (by rw[z];simp[BL.own]));have R:=j h1 hU kJ mY;have Xj:=nd;simp only[Yz,Yp,Y1,fM,gV] at Xj;obtain⟨_,_,_,⟨va,vc,pE,gS⟩,⟨xR,q0,q5⟩,⟨q_,rh⟩,_⟩:=Xj;have s2:=j d.cA pj pq pA;have p2:=j d.places oi pB pC;have d2:=j d.done (λz=>pE z.symm) (λz=>q0 z.symm) (λz=>q_ z.symm);have u2:=j d.fq (λz=>gS z.symm) (λz=>q5 z.symm) (λz=>rh z.symm);have tp:∀{a:U} {G:O V} {H3:Hp},Out l.fp H H3->H a=Z (.tup G)->H3 a=Z (.tup G):=λo e=>o _ _ e (d.tup e);have mk:∀(jf:O U) (H3:Hp),Out l.fp H H3->eZ l.fp ({l with cq:=l.cq++[r],eG:=jf}:BL).fp H->(∀a u,H1 a=Z u->a∈l.own->H3 a=Z u)->uD H3 CJ N.length {l with cq:=l.cq++[r],eG:=jf} {b with fs:=b.fs++[(z,c)]}->Q .aA H3:=λjf H3 o g k rk=>by
   refine q {l with cq:=l.cq++[r],eG:=jf} H3 ⟨rfl,o,g⟩ ?_;refine d.build (l':={l with cq:=l.cq++[r],eG:=jf}) (b':={b with fs:=b.fs++[(z,c)]}) rfl rfl rfl rfl rfl rfl rfl rfl rfl o g ⟨D,k _ _ R (by simp[BL.own])⟩ (k _ _ s2 (by simp[BL.own])) (k _ _ p2 (by simp[BL.own])) (k _ _ f1 (by simp[BL.own])) ?_ (k _ _ k1 (by simp[BL.own])) (k _ _ p1 (by simp[BL.own])) (k _ _ d2 (by simp[BL.own])) (L2.Paired.bA d.ik λ_ _ e=>e.out o λa G e=>d.tup e) (k _ _ u2 (by simp[BL.own])) (L2.Paired.bA d.jj λ_ _ e=>e.out o λa G e=>d.tup e) rk;exact jG (F:=λa (p:Nat×Fc)=>H3 a=Z (.tup ((dG b.ps p.1 p.2).map kV))) (tp o hR) (L2.Paired.bA d.fact λ_ _ e=>tp o e)
  cases hj:d.uh with
  |no L W=>
   rw[L] at R;refine⟨_,rfl,l.h,C,D,_,_,rfl,R,i.cls,i.iM,rfl,rfl,_,rfl,bQ (aS ?_)⟩;exact mk l.eG H1 (oN J) (eZ.refl _ _) (λ_ _ e _=>e) (.no L W)
  |at_ jl st L W ja X len gw=>
   have T:=R;rw[L] at T;have D3:=ja.iQ J gw (d.JW ja X) λa G e z=>d.tup e (Ys _ z);have la2:jh H1 CL l.L N ys:=d.land H1 (oN J);refine⟨_,rfl,l.h,C,D,_,_,rfl,T,i.cls,i.iM,rfl,rfl,_,rfl,cS ?_⟩;refine⟨_,rfl,l.h,C,D,_,_,rfl,T,i.cls,i.iM,rfl,_,rfl,l.h,C,D,_,_,rfl,T,i.cls,i.wH,rfl,_,rfl,l.h,C,D,_,_,rfl,T,i.cls,i.rP,rfl,_,rfl,jl,st,l.L,l.pl,r,N,ys,b.ps,b.F,z,c,rfl,D3,X,la2,ok.gd,p2,ok.nm,len,by have:=ok.m;omega,tp (oN J) hR,fg,?_,λv iE aO H3 e1 sub o3 MI me3 Zjz=>?_⟩
   ·obtain⟨f0,i0,s0⟩:=lv;exact⟨f0,(X.iff f0).mpr ⟨by rw[len];exact i0,λc' m'=>s0 c' (Ys _ m')⟩,s0 c (Ym _ Yk)⟩
   have gr:eZ jl.fp iE.fp H1:=λa z=>.inl (sub a z);refine mk iE.fp H3 (T4 W J o3) (SO W J gr) (λa u e m=>o3 _ _ e (gw a m)) ?_;refine .at_ iE aO (by rw[e1];exact L) rfl MI ?_ (by rw[Zjz];exact len) λa m z=>gw a m (sub a z);show dZ N.length aO ((b.fs++[(z,c)]).map (·.2));rw[Yi];exact me3
def BA{l b:BL}(d:b.own=l.own)(c:b.eG=[]):eZ l.fp b.fp H:=λa z=>.inl (by
 unfold BL.fp at z;rw[d,c,Wc] at z;exact Ys _ z)
def Oj[DecidableEq a]{k:a}(n:k∉kvs.map (·.1)):gq (kvs++[(k,v)]) k=kvs:=by
 unfold gq;have e:kvs.filter (λb=>decide (b.1≠k))=kvs:=Jj.mpr λp c=>dg λz=>n (by rw[←z];exact Yg.mpr ⟨p,c,rfl⟩);rw[Wl,e];simp
def yg:aP ["self","row","number","kind","one","other"] xt (aH EF):=.a8
theorem Zbx(F:aM K "take_out" "Hearth.take_out" EF f fd)(g:eK K C)(jI:B "PARENTS"=Z (.ref dX))(qP:∀H,az K H dX (jt.map V.str))(vT:HasFn P w K B I 1 "is_person" jX (G6 K))(pX:HasFn P w K B I 1 "fact_key" xl CA):aF P w K B I aL 2 f fd xt (O1 C CL CJ):=by
 refine F.o yg @λbM A outer vs Q E s H hr h=>?_;obtain⟨l,b,b',xs,ys,r,rfl,d,ok,mv,q⟩:=h;refine⟨_,(au (aR (dN (aZ vT hr (aa (pv 1) ae))) (au (Ic (pF K 0) (a_ (iT K) (pv 1) aI)) (av (Ic (pF K 0) (a_ (iT K) (pv 1) aI)))) (au (kg (pv 1) (gO (K:=K) (n:=4) rfl rfl (bw (bc 2 yg.nd) (bw (bc 3 yg.nd) (bw (bc 4 yg.nd) (bw (bc 5 yg.nd) gM)))))) (au (Ic (pF K 0) (pv 2)) (au (Pz (bI hr) (pF K 0) (aZ pX hr (aa (pv 3) (aa (pv 4) (aa (pv 5) ae))))) (av (aR (iO (nS (K:=K) rfl) (pv 3) (dH (v:=.ref dX) rfl jI rfl) QU) (av (Pz (bI hr) (pF K 0) (df (aa (pv 3) (aa (pv 4) ae))))) aX)))))) (av (hZ (K:=K) rfl (pv 0) mj))),?_⟩;refine hI ?_;intros;obtain⟨t,N⟩:=d.obj;have sz:(10000:Nat)<=sizeLine:=by rw[dw];decide
 have nd:=d.nd;unfold BL.own at nd;simp only[Yz,Yp,Y1,fM,gV] at nd;obtain⟨⟨jC,cB,hU,kJ,mY,jD,jZ⟩,⟨qZ,pj,pq,pA,og,oh⟩,⟨oi,pB,pC,oj,oo⟩,⟨va,vc,pE,gS⟩,⟨xR,q0,q5⟩,⟨q_,rh⟩,_⟩:=nd;cases mv with
 |xm n s i L eb new eC=>
  have kp:fF b.ps=fF i++[(.inr n,.str s)]:=by rw[eb];exact Rh i n s
  have kl:g_ b.ps=g_ i++[(.inr n,.int (i.length:Int))]:=by rw[eb];exact Ri i (n,s)
  have Kw:(g_ i).map (·.1)=i.map λp=>(.inr p.1:Key):=by
   unfold g_;rw[Y7];have:(λp:(ar×ar)×Nat=>((.inr p.1.1:Key),V.int (p.2:Int)).1)=(λp:ar×ar=>(.inr p.1:Key))∘Prod.fst:=rfl;show i.zipIdx.map (λp:(ar×ar)×Nat=>((.inr p.1.1:Key),V.int (p.2:Int)).1)=_;rw[this,←Y7,D6]
  have zI:∀{ks:O Key},ks=(i.map λp=>(.inr p.1:Key))->(.inr n:Key)∉ks:=λ{ks} e z=>by
   rw[e] at z;obtain⟨p,hp,ep⟩:=Yg.mp z;exact new (Yg.mpr ⟨p,hp,We ep⟩)
  have G:=zI (ks:=(fF i).map (·.1)) (by show(i.map _).map _=_;rw[Y7];rfl);have D:=zI Kw;refine⟨_,rfl,r,_,rfl,az.of L,_,rfl,cS ?_⟩;refine⟨_,rfl,l.h,C,t,_,_,rfl,N,g.cls,g.rW,rfl,_,rfl,r,_,_,_,rfl,rfl,az.of L,rfl,l.sd,_,.inr n,rfl,d.cA,rfl,(wx _ _).mpr (by rw[kp];simp),λH1 R e1=>?_⟩;rw[kp,Oj G] at e1;refine⟨_,rfl,l.h,C,t,_,_,rfl,R _ _ N jC,g.cls,g.rP,rfl,_,rfl,r,_,_,_,rfl,rfl,az.of (R _ _ L λz=>by rw[z,d.cA] at L;cases L),rfl,l.pl,_,.inr n,rfl,R _ _ d.places (λz=>qZ z.symm),rfl,(wx _ _).mpr (by rw[kl];simp),λH2 b2 e2=>?_⟩;rw[kl,Oj D] at e2;have k2:∀{a:U} {o:HO},H a=Z o->a≠l.sd->a≠l.pl->H2 a=Z o:=λ{a o} e G D=>b2 _ _ (R _ _ e G) D;refine⟨_,rfl,l.h,C,t,_,rfl,k2 N jC cB,g.cls,g.iM,by show 10<1000;decide,λH6 k T=>?_⟩;have j:∀{a:U} {o:HO},H a=Z o->a≠l.sd->a≠l.pl->a≠l.h->H6 a=Z o:=λ{a o} e G D n3=>k _ _ (k2 e G D) n3;have o6:Out l.own H H6:=λa u e J=>j e (λz=>J (by rw[z];simp[BL.own])) (λz=>J (by rw[z];simp[BL.own])) (λz=>J (by rw[z];simp[BL.own]));have of:=oN o6;have tp:∀{a:U} {y:O V},H a=Z (.tup y)->H6 a=Z (.tup y):=λe=>of _ _ e (d.tup e);refine q {l with rk:=.aA,eG:=[]} H6 ⟨rfl,of,BA rfl rfl⟩ ?_;refine d.build (l':={l with rk:=.aA,eG:=[]}) (b':={b with ps:=i}) rfl rfl rfl rfl rfl rfl rfl rfl rfl of (BA rfl rfl) ⟨t,T⟩ (k _ _ (b2 _ _ e1 qZ) (λz=>jC z.symm)) (k _ _ e2 (λz=>cB z.symm)) (j d.facts (λz=>pj z.symm) (λz=>oi z.symm) (λz=>hU z.symm)) ?_ ?_ ?_ (j d.done (λz=>og z.symm) (λz=>oj z.symm) (λz=>jD z.symm)) (L2.Paired.bA d.ik λ_ _ e=>e.out of λa y e=>d.tup e) (j d.fq (λz=>oh z.symm) (λz=>oo z.symm) (λz=>jZ z.symm)) (L2.Paired.bA d.jj λ_ _ e=>e.out of λa y e=>d.tup e) (.no rfl rfl)
  ·have aux:∀{as:O U} {fs:O (Nat×Fc)},Paired (λa (p:Nat×Fc)=>H a=Z (.tup ((dG b.ps p.1 p.2).map kV))) as fs->(∀p∈fs,dR xs.length i.length p.2)->Paired (λa (p:Nat×Fc)=>H6 a=Z (.tup ((dG i p.1 p.2).map kV))) as fs:=by
    intro as fs pr;induction pr with
    |nil=>intro _;exact .nil
    |cons f _ ih=>intro m;exact .cons (by rw[←Rc (x:=(n,s)) (m _ Yk),←eb];exact tp f) (ih λp hp=>m p (Yx _ hp))
   exact aux d.fact eC
  ·show H6 l.kn=Z (.dT (fQ i b.fs));rw[←Rg (x:=(n,s)) eC,←eb];exact j d.known (λz=>pq z.symm) (λz=>pB z.symm) (λz=>kJ z.symm)
  ·show H6 l.pr=Z (.dT (cC i b.fs));rw[←IQ (x:=(n,s)) eC,←eb];exact j d.parents (λz=>pA z.symm) (λz=>pC z.symm) (λz=>mY z.symm)
 |jS z c L m=>
  have al:(b.fs.map (·.1)).length=l.cq.length:=by rw[Ya];exact(cK d.fact).symm
  obtain⟨fa,D4,_⟩:=IP (H:=H) (ps:=b.ps) d.fact ok.zs m;have ZiB:(fQ b.ps b.fs).map (·.1)=b.keys:=by unfold fQ BS.keys;rw[Y7];rfl
  refine⟨_,rfl,r,_,rfl,az.of L,_,rfl,bQ ?_⟩;refine⟨_,rfl,r,_,rfl,az.of L,rfl,_,_,rfl,aU ⟨_,_,rfl,aU ⟨_,_,rfl,aU ⟨_,_,rfl,aU ⟨rfl,?_⟩⟩⟩⟩⟩;refine⟨_,rfl,l.h,C,t,_,_,rfl,N,g.cls,g.rX,rfl,_,rfl,l.fc,_,.inl (z:Int),rfl,d.facts,rfl,by rw[D4];rfl,λH1 R e1=>?_⟩;rw[Ba z al,←qf] at e1;refine⟨_,rfl,l.h,C,t,_,_,rfl,R _ _ N hU,g.cls,g.BY,rfl,_,rfl,_,rfl,_,rfl,c.k,aw b.ps c.one,bp b.ps c,rfl,λe=>Rl e,λp H2 mV g2 dB=>?_⟩;refine⟨l.kn,p,_,eF b.ps c,rfl,g2 _ _ (R _ _ d.known (λz=>va z.symm)),rfl,dB,(wx _ _).mpr (by rw[ZiB];exact Yg.mpr ⟨_,m,rfl⟩),λH3 b3 e3=>?_⟩;rw[ZeN ok.zs ok.ky m] at e3;have k3:∀{a:U} {o:HO},H a=Z o->a≠l.fc->a≠l.kn->H3 a=Z o:=λ{a o} e G D=>b3 _ _ (g2 _ _ (R _ _ e G)) D;have ef3:=b3 _ _ (g2 _ _ e1) va;have Ay:=k3 d.parents (λz=>vc z.symm) (λz=>xR z.symm);have last:∀W,(∀{a:U} {o:HO},H3 a=Z o->a≠l.pr->W a=Z o)->W l.pr=Z (.dT (cC b.ps (cz z b.fs)))->∀H6,aC l.h W H6->H6 l.h=Z (.ins C t (HF l.L l.sd l.pl l.fc l.kn l.pr (b.co:Int) l.dn l.un .aA))->Q .aA H6:=λW X e5 H6 k T=>by
   have j:∀{a:U} {o:HO},H a=Z o->a≠l.fc->a≠l.kn->a≠l.pr->a≠l.h->H6 a=Z o:=λ{a o} e G D n3 n4=>k _ _ (X (k3 e G D) n3) n4;have o6:Out l.own H H6:=λa u e J=>j e (λz=>J (by rw[z];simp[BL.own])) (λz=>J (by rw[z];simp[BL.own])) (λz=>J (by rw[z];simp[BL.own])) (λz=>J (by rw[z];simp[BL.own]));have of:=oN o6;have tp:∀{a:U} {y:O V},H a=Z (.tup y)->H6 a=Z (.tup y):=λe=>of _ _ e (d.tup e);refine q {l with rk:=.aA,eG:=[],cq:=eA (b.fs.map (·.1)) l.cq z} H6 ⟨rfl,of,BA rfl rfl⟩ ?_;exact d.build (l':={l with rk:=.aA,eG:=[],cq:=eA (b.fs.map (·.1)) l.cq z}) (b':={b with fs:=cz z b.fs}) rfl rfl rfl rfl rfl rfl rfl rfl rfl of (BA rfl rfl) ⟨t,T⟩ (j d.cA pj pq pA (λz=>jC z.symm)) (j d.places oi pB pC (λz=>cB z.symm)) (k _ _ (X ef3 vc) (λz=>hU z.symm)) (G4 d.fact λa p e _ _=>tp e) (k _ _ (X e3 xR) (λz=>kJ z.symm)) (k _ _ e5 (λz=>mY z.symm)) (j d.done (λz=>pE z.symm) (λz=>q0 z.symm) (λz=>q_ z.symm) (λz=>jD z.symm)) (L2.Paired.bA d.ik λ_ _ e=>e.out of λa y e=>d.tup e) (j d.fq (λz=>gS z.symm) (λz=>q5 z.symm) (λz=>rh z.symm) (λz=>jZ z.symm)) (L2.Paired.bA d.jj λ_ _ e=>e.out of λa y e=>d.tup e) (.no rfl rfl)
  refine⟨_,rfl,dX,_,rfl,.inr (qP _),rfl,rfl,_,rfl,?_⟩;dsimp only;rw[bu Yh,show fY (kV (Sum.inr c.k)) (jt.map V.str)=cU c.k from B3 c.k];refine bF (λcc=>?_) (λcc=>aS ?_)
  ·refine⟨_,rfl,l.h,C,t,_,_,rfl,k3 N hU kJ,g.cls,g.wg,rfl,_,rfl,_,rfl,by show 2<=sizeLine;decide,λp4 H4 np4 g4 MH=>?_⟩;refine⟨l.pr,p4,_,[.inr c.k,.inr (aw b.ps c.one)],rfl,g4 _ _ Ay,rfl,MH,(wx _ _).mpr ?_,λW b5 e5=>?_⟩
   ·unfold cC;rw[Y7];exact Yg.mpr ⟨(z,c),Y5.mpr ⟨m,cc⟩,rfl⟩
   rw[ZeO ok.zs ok.pr m cc] at e5;have X:∀{a:U} {o:HO},H3 a=Z o->a≠l.pr->W a=Z o:=λ{a o} e n=>b5 _ _ (g4 _ _ e) n;refine⟨_,rfl,l.h,C,t,_,rfl,X (k3 N hU kJ) mY,g.cls,g.iM,by show 10<1000;decide,λH6 k T=>?_⟩;exact last W X e5 H6 k T
  ·have ef:cU c.k=a7:=by
    cases e:cU c.k with
    |true=>exact absurd e cc
    |false=>rfl
   refine⟨_,rfl,l.h,C,t,_,rfl,k3 N hU kJ,g.cls,g.iM,by show 10<1000;decide,λH6 k T=>?_⟩;exact last H3 (λe _=>e) (by rw[←Zdu ok.zs m ef];exact Ay) H6 k T
abbrev mJ:O ar:=["self","way","row","coming"]
def ZG:aP mJ mJ (aH Fh):=.a8
def ZeP(F:aM K "shift" "Hearth.shift" Fh f fd)(x:eK K C)(qg:B "PUT_IN"=Z (.int 1 t1))(E6:bZ P w K B I 8 "put_in" C xt (Rk C CL CJ))(EJ:bZ P w K B I 2 "take_out" C xt (O1 C CL CJ)):aF P w K B I aL 9 f fd mJ (B4 C CL CJ):=by
 refine F.o ZG @λbM A D vs Q E s H T h=>?_;obtain⟨l,b,n,t,p,r,N,J,rfl,L,ok,mv,q⟩:=h;refine⟨_,(au (aR (bH cD (pv 1) (dH (v:=.int (1)) rfl qg ⟨_,rfl⟩)) (av (cv (cQ E6 T (by decide) (pv 0) (aa (pv 2) ae)))) (av (cv (cQ EJ T (by decide) (pv 0) (aa (pv 2) ae))))) (av (hZ (K:=K) rfl (pv 0) (pv 3)))),?_⟩;refine hI ?_;intros;obtain⟨dx,W⟩:=L.obj;have last:∀(c:BL) (g:Hp),bq H g l c->bB g C CL CJ c t p n->∀(i:U) (H2:Hp),g c.h=Z (.ins C i (HF c.L c.sd c.pl c.fc c.kn c.pr (n.co:Int) c.dn c.un c.rk))->aC c.h g H2->H2 c.h=Z (.ins C i (HF c.L c.sd c.pl c.fc c.kn c.pr (J:Int) c.dn c.un c.rk))->Q .aA H2:=λc g m d i H2 o j e2=>by
  have G:=d.nd;unfold BL.own at G;simp only[Yz,Yp,Y1,fM,gV] at G;obtain⟨⟨jC,cB,hU,kJ,mY,jD,jZ⟩,_⟩:=G;have R:Out c.own g H2:=λa u e na=>j _ _ e (λz=>na (by rw[z];simp[BL.own]));have of:=oN R;have xS:=(d.owned (b':={n with co:=J}) rfl rfl rfl rfl rfl rfl rfl rfl rfl (.inl ⟨rfl,rfl,rfl,rfl⟩) R ⟨i,e2⟩ (j _ _ d.cA (λz=>jC z.symm)) (j _ _ d.places (λz=>cB z.symm)) (j _ _ d.facts (λz=>hU z.symm)) (L2.Paired.bA d.fact λ_ _ e=>(λe=>of _ _ e (d.tup e)) e) (j _ _ d.known (λz=>kJ z.symm)) (j _ _ d.parents (λz=>mY z.symm)) (j _ _ d.done (λz=>jD z.symm)) (L2.Paired.bA d.ik λ_ _ e=>e.out of λ a us=>d.tup) (j _ _ d.fq (λz=>jZ z.symm)) (L2.Paired.bA d.jj λ_ _ e=>e.out of λa us e=>d.tup e)).1;exact q c H2 (m.trans ⟨rfl,of,eZ.refl _ _⟩) xS
 have X:∀(c:BL) (g:Hp),bq H g l c->bB g C CL CJ c t p n->∃i,g l.h=Z (.ins C i (HF c.L c.sd c.pl c.fc c.kn c.pr (n.co:Int) c.dn c.un c.rk))/\∀H2,aC l.h g H2->H2 l.h=Z (.ins C i (HF c.L c.sd c.pl c.fc c.kn c.pr (J:Int) c.dn c.un c.rk))->Q .aA H2:=λc g m d=>by
  obtain⟨i,o⟩:=d.obj;have eh:=m.h
  grind
 have y:N=1\/N=-1:=by cases mv<;>first|exact .inl rfl|exact .inr rfl
 rcases y with rfl|rfl
 ·refine⟨_,rfl,rfl,_,rfl,cS ?_⟩;refine⟨_,rfl,l.h,dx,_,rfl,W,rfl,_,rfl,l,b,n,t,p,r,rfl,L,ok,mv,λc g m d=>?_⟩;obtain⟨i,o,k⟩:=X c g m d;exact⟨_,rfl,_,rfl,l.h,C,i,_,rfl,o,x.cls,x.rQ,by show 10<1000;decide,k⟩
 ·refine⟨_,rfl,rfl,_,rfl,bQ ?_⟩;refine⟨_,rfl,l.h,dx,_,rfl,W,rfl,_,rfl,l,b,n,t,p,r,rfl,L,ok,mv,λc g m d=>?_⟩;obtain⟨i,o,k⟩:=X c g m d;exact⟨_,rfl,_,rfl,l.h,C,i,_,rfl,o,x.cls,x.rQ,by show 10<1000;decide,k⟩
def Zm:aP mJ mJ (aH ES):=.a8
def Zcv(F:aM K "do_deed" "Hearth.do_deed" ES f fd)(g:eK K C)(pU:bZ P w K B I 9 "shift" C mJ (B4 C CL CJ)):aF P w K B I aL 10 f fd mJ (Bz C CL CJ):=by
 refine F.o Zm λs H hr h=>?_;obtain⟨l,b,b',X,W,r,E,R,x,rfl,c,ok,dl,hR,mv,q⟩:=h;refine⟨_,(au (cv (ni (K:=K) rfl (kh hP jm jk oF (pF K 0) (aa (df (aa (pv 1) (aa (pv 2) (aa (pF K 0) (aa (pv 3) ae))))) ae)))) (au (cv (IG (K:=K) rfl (I_ hP PySem.F.slot_list_clear PySem.F.type_list_clear Zdb (pF K 0)))) (av (cv (cQ pU hr (by decide) (pv 0) (aa (pv 1) (aa (pv 2) (aa (pv 3) ae)))))))),?_⟩;obtain⟨j,i⟩:=c.obj;have sz:(10000:Nat)<=sizeLine:=by rw[dw];decide
 have y:=c.nd;unfold BL.own at y;simp only[Yz,Yp,Y1,fM,gV] at y;obtain⟨⟨jC,cB,hU,kJ,mY,A,N⟩,⟨qZ,pj,pq,pA,og,oh⟩,⟨oi,pB,pC,oj,oo⟩,⟨va,vc,pE,gS⟩,⟨xR,q0,q5⟩,⟨q_,rh⟩,G,_⟩:=y;have dal:=cK c.ik;refine⟨_,rfl,l.h,C,j,_,_,rfl,i,g.cls,g.wJ,rfl,.inl ⟨rfl,_,aq.of c.done⟩,?_⟩;refine⟨_,rfl,_,rfl,_,rfl,l.h,C,j,_,_,rfl,i,g.cls,g.rQ,rfl,_,rfl,by show 4<=sizeLine;decide,λp H1 m n e1=>?_⟩;refine⟨l.dn,_,_,rfl,rfl,n _ _ c.done,by rw[Ya];omega,λH2 t e2=>?_⟩;have a1:=t _ _ (n _ _ i) A;have T:=t _ _ (n _ _ c.fq) (λz=>G z.symm);refine⟨_,rfl,l.h,C,j,_,_,rfl,a1,g.cls,g.wq,rfl,.inl ⟨rfl,_,aq.of T⟩,l.un,_,rfl,rfl,T,λH3 D e3=>?_⟩;have d:∀{a:U} {o:HO},H a=Z o->a≠l.dn->a≠l.un->H3 a=Z o:=λ{a o} e n1 n2=>D _ _ (t _ _ (n _ _ e) n1) n2;have J:Out l.own H H3:=λa u e L=>d e (λz=>L (by rw[z];simp[BL.own])) (λz=>L (by rw[z];simp[BL.own]));have of:=oN J;have v:∀{a:U} {k:O V},H a=Z (.tup k)->H3 a=Z (.tup k):=λe=>of _ _ e (c.tup e);have pu:p≠l.un:=λz=>by rw[z,c.fq] at m;cases m
 have ed:H3 l.dn=Z (.lst ((l.c_++[p]).map V.ref)):=by rw[Yi];exact D _ _ e2 G
 have Q:=(c.owned (l':={l with c_:=l.c_++[p],fh:=[]}) (b':={b with dn:=b.dn++[⟨E,x,b.co,R⟩],un:=[]}) rfl rfl rfl rfl rfl rfl rfl rfl rfl (.inl ⟨rfl,rfl,rfl,rfl⟩) J ⟨j,d i A N⟩ (d c.cA og oh) (d c.places oj oo) (d c.facts pE gS) (L2.Paired.bA c.fact λ_ _ e=>v e) (d c.known q0 q5) (d c.parents q_ rh) ed (jG (F:=mw H3) ⟨r,D _ _ (t _ _ e1 (λz=>by rw[z,c.done] at m;cases m)) pu,v hR⟩ (L2.Paired.bA c.ik λ_ _ e=>e.out of λa k e=>c.tup e)) e3 .nil);have h3:=d i A N;refine⟨_,rfl,l.h,j,_,rfl,h3,rfl,_,rfl,_,rfl,_,rfl,{l with c_:=l.c_++[p],fh:=[]},_,_,X,W,r,E,R,rfl,Q.1,⟨ok.gd,ok.nm,ok.m,ok.fl,ok.fg,ok.zs,ok.lt,ok.ky,ok.pr,ok.lv,by show(b.dn++[_]).length<=200;rw[Yd];show b.dn.length+1<=200;exact k8 dl,Yw _⟩,((mv.CB _ _).out λk e=>v e),λl' H4 wt Az=>?_⟩;exact q l' H4 (bq.trans (l1:={l with c_:=l.c_++[p],fh:=[]}) ⟨rfl,of,Q.2⟩ wt) Az
inductive Rm(C CL CJ j:U)(g:O V)(H:Hp)(Q:VK)(E:XK):Prop
 |mk (l:BL) (b:BS) (e c:O Int) (o:g=[.ref l.h]) (n:bB H C CL CJ l e c b) (ok:bP e c b) (m:b.un.length<200)
   (yes:∀(i:O dF) (d:dF),b.dn=i++[d]->∃k:BS,(∀a r,a r=Z (.tup (d.row.map kV))->Move e c a r {b with dn:=i,un:=b.un++[d]} (-d.way) k)/\∀(h:BL) (a:Hp),bq H a l h->bB a C CL CJ h e c {k with co:=d.c0}->Q .aA a) (no:b.dn=[]->XP H j "nothing left" E):Rm C CL CJ j g H Q E
def SQ(C CL CJ b:U):Sp:=λa H Q E=>Rm C CL CJ b a H Q E
inductive Rn(C CL CJ i:U)(g:O V)(H:Hp)(Q:VK)(E:XK):Prop
 |mk (l:BL) (b:BS) (e c:O Int) (m:g=[.ref l.h]) (k:bB H C CL CJ l e c b) (ok:bP e c b) (dl:b.dn.length<200)
   (yes:∀(un:O dF) (d:dF),b.un=un++[d]->∃j:BS,(∀a r,a r=Z (.tup (d.row.map kV))->Move e c a r {b with dn:=b.dn++[d],un:=un} d.way j)/\∀(h:BL) (a:Hp),bq H a l h->bB a C CL CJ h e c {j with co:=d.c1}->Q .aA a) (no:b.un=[]->XP H i "nothing left" E):Rn C CL CJ i g H Q E
def SR(C CL CJ b:U):Sp:=λa H Q E=>Rn C CL CJ b a H Q E
inductive Ol(C CL CJ:U)(d:O V)(H:Hp)(Q:VK)(E:XK):Prop
 |mk (l:BL) (b:BS) (c a:O Int) (g:d=[.ref l.h]) (e:bB H C CL CJ l c a b) (q:Q (.int (b.dn.length:Int)) H)
inductive Om(C CL CJ:U)(d:O V)(H:Hp)(Q:VK)(E:XK):Prop
 |mk (l:BL) (b:BS) (c a:O Int) (g:d=[.ref l.h]) (e:bB H C CL CJ l c a b) (q:Q (.int (b.un.length:Int)) H)
theorem NP(p:Paired R as (bs++[y])):∃c a,as=c++[a]/\Paired R c bs/\R a y:=by
 induction bs generalizing as with
 |nil=>cases p with|cons r t=>cases t;exact⟨[],_,rfl,.nil,r⟩
 |cons b bs g=>
  cases p with
  |cons r t=>
   obtain⟨c,a,rfl,d,e⟩:=g t;exact⟨_::c,a,rfl,.cons r d,e⟩
def Ze:aP dE dE (aH EH):=.a8
def Zby(F:aM K "undoable" "Hearth.undoable" EH f fd)(c:eK K C)(g:Bl B):aF P w K B I aL 1 f fd dE (Ol C CL CJ):=by
 refine F.o Ze λs H k h=>?_;obtain⟨l,b,j,i,rfl,a,q⟩:=h;refine⟨_,(av (aG (di K g (pF K 0)))),?_⟩;obtain⟨e,d⟩:=a.obj;have dl:=cK a.ik;refine⟨_,rfl,l.h,C,e,_,_,rfl,d,c.cls,c.wJ,rfl,l.dn,_,rfl,.inl (aq.of a.done),?_⟩;rwa[Ya,dl]
def Zf:aP dE dE (aH EI):=.a8
def Zbz(F:aM K "redoable" "Hearth.redoable" EI f fd)(c:eK K C)(g:Bl B):aF P w K B I aL 1 f fd dE (Om C CL CJ):=by
 refine F.o Zf λs H k h=>?_;obtain⟨l,b,j,i,rfl,a,q⟩:=h;refine⟨_,(av (aG (di K g (pF K 0)))),?_⟩;obtain⟨e,d⟩:=a.obj;have dl:=cK a.jj;refine⟨_,rfl,l.h,C,e,_,_,rfl,d,c.cls,c.wq,rfl,l.un,_,rfl,.inl (aq.of a.fq),?_⟩;rwa[Ya,dl]
abbrev UY:O ar:=["self","way","row","ahead","behind"]
def yh:aP UY dE (aH FC):=.a8
def ZeQ(F:aM K "undo" "Hearth.undo" FC f fd)(m:eK K C)(pU:bZ P w K B I 9 "shift" C mJ (B4 C CL CJ))(vL:Cc P w K B I "NothingLeft" "nothing left" cN):aF P w K B I (sN P w) 10 f fd dE (SQ C CL CJ cN):=by
 refine F.LN yh (λvs H Q E h=>?_) (λbM A R s H vs Q E hr h=>?_)
 ·obtain⟨l,b,xs,ys,rfl,_⟩:=h;rfl
 obtain⟨l,b,xs,ys,rfl,g,ok,ul,G,no⟩:=h;refine⟨_,(au (aR (fS (yD (K:=K) rfl (yG (pF K 0) (λ_=>rfl)))) (av (OE vL hr (by decide) rfl rfl To bo)) aX) (au (kg (IG (K:=K) rfl (I_ hP rn vA QL (pF K 0))) (gO (K:=K) (n:=4) rfl rfl (bw (bc 1 yh.nd) (bw (bc 2 yh.nd) (bw (bc 3 yh.nd) (bw (bc 4 yh.nd) gM)))))) (au (cv (ni (K:=K) rfl (kh hP jm jk oF (pF K 0) (aa (df (aa (pv 1) (aa (pv 2) (aa (pv 3) (aa (pv 4) ae))))) ae)))) (av (cv (cQ pU hr (by decide) (pv 0) (aa (zf yU (pv 1)) (aa (pv 2) (aa (pv 3) ae))))))))),?_⟩;refine nV ?_;intros;obtain⟨t,v⟩:=g.obj;have sz:(10000:Nat)<=sizeLine:=by rw[dw];decide
 have T:=g.nd;unfold BL.own at T;simp only[Yz,Yp,Y1,fM,gV] at T;obtain⟨⟨jC,cB,hU,kJ,mY,jD,jZ⟩,⟨qZ,pj,pq,pA,og,oh⟩,⟨oi,pB,pC,oj,oo⟩,⟨va,vc,pE,gS⟩,⟨xR,q0,q5⟩,⟨q_,rh⟩,sV,_⟩:=T;refine⟨_,rfl,l.h,C,t,_,_,rfl,v,m.cls,m.wJ,rfl,_,.inl ⟨_,aq.of g.done,rfl⟩,?_⟩;rcases Xk b.dn with k|⟨dn,d,k⟩
 ·have x:l.c_=[]:=by
   have:=cK g.ik;rw[k] at this;exact List.length_eq_zero_iff.mp this
  rw[x];exact cS ⟨_,rfl,QD,no k⟩
 rw[Xl] at k;have pd:=g.ik;rw[k] at pd;obtain⟨y,da,x,MJ,r,qV,zJ⟩:=NP pd;obtain⟨b',mv,q⟩:=G dn d k;rw[x];refine bF (λc=>absurd c QS) (λ_=>aS ?_);have J:=g.done;rw[x] at J;have nt:∀{a:U} {i:O V},H a=Z (.tup i)->a≠l.dn/\a≠l.un:=λ{a i} e=>⟨λz=>(by rw[z,g.done] at e;cases e),λz=>(by rw[z,g.fq] at e;cases e)⟩;refine⟨_,rfl,l.h,C,t,_,_,rfl,v,m.cls,m.wJ,rfl,.inl ⟨rfl,_,aq.of J⟩,l.dn,_,.ref da,rfl,rfl,J,QS,λH1 D e2=>?_⟩;have K7:=D _ _ qV (nt qV).1;refine⟨da,_,rfl,az.of K7,rfl,_,_,rfl,aU ⟨_,_,rfl,aU ⟨_,_,rfl,aU ⟨_,_,rfl,aU ⟨rfl,?_⟩⟩⟩⟩⟩;have L:=D _ _ g.fq (λz=>sV z.symm);have ual:=cK g.jj;refine⟨_,rfl,l.h,C,t,_,_,rfl,D _ _ v jD,m.cls,m.wq,rfl,.inl ⟨rfl,_,aq.of L⟩,_,rfl,_,rfl,_,rfl,_,rfl,by show 4<=sizeLine;decide,λp H2 np W hp=>?_⟩;refine⟨l.un,_,_,rfl,rfl,W _ _ L,by rw[Ya];omega,λH3 X e3=>?_⟩;have j:∀{a:U} {o:HO},H a=Z o->a≠l.dn->a≠l.un->H3 a=Z o:=λ{a o} e n1 n2=>X _ _ (W _ _ (D _ _ e n1)) n2;have o3:Out l.own H H3:=λa u e na=>j e (λz=>na (by rw[z];simp[BL.own])) (λz=>na (by rw[z];simp[BL.own]));have of:=oN o3;have N:∀{a:U} {i:O V},H a=Z (.tup i)->H3 a=Z (.tup i):=λe=>of _ _ e (g.tup e);have pu:p≠l.un:=λz=>by rw[z,L] at np;cases np
 have ed:H3 l.dn=Z (.lst (y.map V.ref)):=by
  have:=X _ _ (W _ _ e2) sV;rw[this,Yi];simp
 have eu:H3 l.un=Z (.lst ((l.fh++[p]).map V.ref)):=by rw[Yi];exact e3
 have h3:=j v jD jZ;have iF:=(g.owned (l':={l with c_:=y,fh:=l.fh++[p]}) (b':={b with dn:=dn,un:=b.un++[d]}) rfl rfl rfl rfl rfl rfl rfl rfl rfl (.inl ⟨rfl,rfl,rfl,rfl⟩) o3 ⟨t,h3⟩ (j g.cA og oh) (j g.places oj oo) (j g.facts pE gS) (L2.Paired.bA g.fact λ_ _ e=>N e) (j g.known q0 q5) (j g.parents q_ rh) ed (L2.Paired.bA MJ λ_ _ e=>e.out of λa i e=>g.tup e) eu (jG (F:=mw H3) ⟨r,X _ _ hp pu,N zJ⟩ (L2.Paired.bA g.jj λ_ _ e=>e.out of λa i e=>g.tup e)));have ll:=ok.dl;rw[k,Yd] at ll;exact⟨_,rfl,l.h,t,_,rfl,h3,rfl,_,rfl,_,rfl,_,rfl,_,rfl,{l with c_:=y,fh:=l.fh++[p]},_,b',xs,ys,r,-d.way,d.c0,rfl,iF.1,⟨ok.gd,ok.nm,ok.m,ok.fl,ok.fg,ok.zs,ok.lt,ok.ky,ok.pr,ok.lv,Yy (Xm _ _) ll,by show(b.un++[d]).length<=200;rw[Yd];show _+1<=200;exact k8 ul⟩,mv H3 r (N zJ),λl' H4 wt Az=>q l' H4 (bq.trans (l1:={l with c_:=y,fh:=l.fh++[p]}) ⟨rfl,of,iF.2⟩ wt) Az⟩
def yi:aP UY dE (aH FD):=.a8
def ZeR(F:aM K "redo" "Hearth.redo" FD f fd)(m:eK K C)(pU:bZ P w K B I 9 "shift" C mJ (B4 C CL CJ))(vL:Cc P w K B I "NothingLeft" "nothing left" cN):aF P w K B I (sN P w) 10 f fd dE (SR C CL CJ cN):=by
 refine F.LN yi (λvs H Q E h=>?_) (λbM A R s H vs Q E hr h=>?_)
 ·obtain⟨l,b,xs,ys,rfl,_⟩:=h;rfl
 obtain⟨l,b,xs,ys,rfl,g,ok,ul,G,no⟩:=h;refine⟨_,(au (aR (fS (yD (K:=K) rfl (yG (pF K 0) (λ_=>rfl)))) (av (OE vL hr (by decide) rfl rfl To bo)) aX) (au (kg (IG (K:=K) rfl (I_ hP rn vA QL (pF K 0))) (gO (K:=K) (n:=4) rfl rfl (bw (bc 1 yi.nd) (bw (bc 2 yi.nd) (bw (bc 3 yi.nd) (bw (bc 4 yi.nd) gM)))))) (au (cv (ni (K:=K) rfl (kh hP jm jk oF (pF K 0) (aa (df (aa (pv 1) (aa (pv 2) (aa (pv 3) (aa (pv 4) ae))))) ae)))) (av (cv (cQ pU hr (by decide) (pv 0) (aa (pv 1) (aa (pv 2) (aa (pv 4) ae))))))))),?_⟩;refine nV ?_;intros;obtain⟨t,v⟩:=g.obj;have sz:(10000:Nat)<=sizeLine:=by rw[dw];decide
 have T:=g.nd;unfold BL.own at T;simp only[Yz,Yp,Y1,fM,gV] at T;obtain⟨⟨jC,cB,hU,kJ,mY,jD,jZ⟩,⟨qZ,pj,pq,pA,og,oh⟩,⟨oi,pB,pC,oj,oo⟩,⟨va,vc,pE,gS⟩,⟨xR,q0,q5⟩,⟨q_,rh⟩,sV,_⟩:=T;refine⟨_,rfl,l.h,C,t,_,_,rfl,v,m.cls,m.wq,rfl,_,.inl ⟨_,aq.of g.fq,rfl⟩,?_⟩;rcases Xk b.un with k|⟨un,d,k⟩
 ·have x:l.fh=[]:=by
   have:=cK g.jj;rw[k] at this;exact List.length_eq_zero_iff.mp this
  rw[x];exact cS ⟨_,rfl,QD,no k⟩
 rw[Xl] at k;have pd:=g.jj;rw[k] at pd;obtain⟨y,da,x,MJ,r,qV,zJ⟩:=NP pd;obtain⟨b',mv,q⟩:=G un d k;rw[x];refine bF (λc=>absurd c QS) (λ_=>aS ?_);have J:=g.fq;rw[x] at J;have nt:∀{a:U} {i:O V},H a=Z (.tup i)->a≠l.dn/\a≠l.un:=λ{a i} e=>⟨λz=>(by rw[z,g.done] at e;cases e),λz=>(by rw[z,g.fq] at e;cases e)⟩;refine⟨_,rfl,l.h,C,t,_,_,rfl,v,m.cls,m.wq,rfl,.inl ⟨rfl,_,aq.of J⟩,l.un,_,.ref da,rfl,rfl,J,QS,λH1 D e2=>?_⟩;have K7:=D _ _ qV (nt qV).2;refine⟨da,_,rfl,az.of K7,rfl,_,_,rfl,aU ⟨_,_,rfl,aU ⟨_,_,rfl,aU ⟨_,_,rfl,aU ⟨rfl,?_⟩⟩⟩⟩⟩;have L:=D _ _ g.done sV;have ual:=cK g.ik;refine⟨_,rfl,l.h,C,t,_,_,rfl,D _ _ v jZ,m.cls,m.wJ,rfl,.inl ⟨rfl,_,aq.of L⟩,_,rfl,_,rfl,_,rfl,_,rfl,by show 4<=sizeLine;decide,λp H2 np W hp=>?_⟩;refine⟨l.dn,_,_,rfl,rfl,W _ _ L,by rw[Ya];omega,λH3 X e3=>?_⟩;have j:∀{a:U} {o:HO},H a=Z o->a≠l.dn->a≠l.un->H3 a=Z o:=λ{a o} e n1 n2=>X _ _ (W _ _ (D _ _ e n2)) n1;have o3:Out l.own H H3:=λa u e na=>j e (λz=>na (by rw[z];simp[BL.own])) (λz=>na (by rw[z];simp[BL.own]));have of:=oN o3;have N:∀{a:U} {i:O V},H a=Z (.tup i)->H3 a=Z (.tup i):=λe=>of _ _ e (g.tup e);have pu:p≠l.dn:=λz=>by rw[z,L] at np;cases np
 have ed:H3 l.un=Z (.lst (y.map V.ref)):=by
  have:=X _ _ (W _ _ e2) (λz=>sV z.symm);rw[this,Yi];simp
 have eu:H3 l.dn=Z (.lst ((l.c_++[p]).map V.ref)):=by rw[Yi];exact e3
 have h3:=j v jD jZ;have iF:=(g.owned (l':={l with c_:=l.c_++[p],fh:=y}) (b':={b with dn:=b.dn++[d],un:=un}) rfl rfl rfl rfl rfl rfl rfl rfl rfl (.inl ⟨rfl,rfl,rfl,rfl⟩) o3 ⟨t,h3⟩ (j g.cA og oh) (j g.places oj oo) (j g.facts pE gS) (L2.Paired.bA g.fact λ_ _ e=>N e) (j g.known q0 q5) (j g.parents q_ rh) eu (jG (F:=mw H3) ⟨r,X _ _ hp pu,N zJ⟩ (L2.Paired.bA g.ik λ_ _ e=>e.out of λa i e=>g.tup e)) ed (L2.Paired.bA MJ λ_ _ e=>e.out of λa i e=>g.tup e));have ll:=ok.ul;rw[k,Yd] at ll;exact⟨_,rfl,l.h,t,_,rfl,h3,rfl,_,rfl,_,rfl,_,rfl,{l with c_:=l.c_++[p],fh:=y},_,b',xs,ys,r,d.way,d.c1,rfl,iF.1,⟨ok.gd,ok.nm,ok.m,ok.fl,ok.fg,ok.zs,ok.lt,ok.ky,ok.pr,ok.lv,by show(b.dn++[d]).length<=200;rw[Yd];show _+1<=200;exact k8 ul,Yy (Xm _ _) ll⟩,mv H3 r (N zJ),λl' H4 wt Az=>q l' H4 (bq.trans (l1:={l with c_:=l.c_++[p],fh:=y}) ⟨rfl,of,iF.2⟩ wt) Az⟩
def cZ.ZjA(j:cZ H C n l st)(h:a∈l.cq):∃b,H a=Z (.lst b):=by
 obtain⟨p,e⟩:=yx j.free h
 grind
def cZ.vd(j:cZ H C n l st)(e:H a=Z o)(p:∀c,o≠.lst c)(m:∀c,o≠.tup c)(r:a∉l.fp)(i:aC a H k):cZ k C n l st:=by
 refine j.iQ (fp:=[a]) (λb u g h=>i _ _ g λz=>h (by rw[z];exact Yk)) (λb d=>?_) (λb d z=>?_) λb c g z=>?_;·grind
 ·rw[Yq.mp d] at z;obtain⟨c,q⟩:=j.ZjA z
  grind
 ·grind
inductive qA(H:Hp)(C CJ g d:U)(l:BL)(b:BS)(n:Nat)(J:U)(F:O Fc)(m:Nat)(c:Hp):Prop
 |mk (e:JL) (st:JS) (j:e.J=J) (keep:∀a u,H a=Z u->a≠l.h->a≠d->c a=Z u) (obj:c l.h=Z (.ins C g (HF l.L l.sd l.pl l.fc l.kn l.pr (b.co:Int) l.dn l.un (.ref J)))) (i:cZ c CJ n e st) (h:dZ n st F) (len:st.hd.length=m) (new:∀a∈e.fp,H a=aE):qA H C CJ g d l b n J F m c
def qA.vd(j:qA H C CJ E d l b n J F m i)(y:H c≠aE)(e:i c=Z o)(p:∀g,o≠.lst g)(k:∀g,o≠.tup g)(q:c≠l.h)(h:aC c i H7)(G:∀u,H d=Z u->d≠c->d≠l.h->H7 d=Z u):qA H C CJ E c l b n J F m H7:=by
 obtain⟨v,st,D,keep,obj,x,t,len,new⟩:=j;refine⟨v,st,D,λa u A s r=>?_,h _ _ obj (λz=>q z.symm),x.vd e p k (λz=>y (new _ z)) h,t,len,new⟩;by_cases z:a=d;·grind
 ·exact h _ _ (keep a u A s z) r
theorem O2:∀{c:O Nat} {as:O U} {i:Nat} {k:Key} {y:V},(bJ c as)[i]?=Z (k,y)->∃a,as[i]?=Z a/\y=.ref a
 |[],as,i,k,y,h=>by
  unfold bJ at h;simp at h
 |_::_,[],i,k,y,h=>by
  unfold bJ at h;simp at h
 |q::c,a::as,0,k,y,h=>by
  injection(Yo h) with _ e
  grind
 |q::c,a::as,i+1,k,y,h=>by
  have g:bJ (q::c) (a::as)=(Sum.inl (q:Int),V.ref a)::bJ c as:=rfl;rw[g] at h;have d:(bJ c as)[i]?=Z (k,y):=by simpa using h
  obtain⟨b,j,e⟩:=O2 d
  grind
inductive IS(C CL CJ:U)(i:O V)(H:Hp)(Q:VK)(E:XK):Prop
 |mk (l:BL) (b:BS) (d h:O Int) (k:i=[.ref l.h]) (j:bB H C CL CJ l d h b) (ok:bP d h b) (q:∀(c:BL) (e:JL) (st:JS) (g:Hp),bq H g l c->bB g C CL CJ c d h b->c.rk=.ref e.J->c.eG=e.fp->cZ g CJ d.length e st->dZ d.length st b.F->st.hd.length=b.ps.length->(∀a∈c.own,a∉e.fp)->(l.rk≠.aA->g=H/\c=l)->Q (.ref e.J) g)
def E7:aP ["self","name","fact"] dE (aH Fg):=.a8
theorem ZeS(F:aM K "joins" "Hearth.joins" Fg f fd)(p:eK K C)(lc:wR K CL)(IT:wN P w K B I 1 "Joins" CJ CY (Q0 CJ))(vU:bZ P w K B I 2 "add" CJ dE (Ks CJ))(vV:HasFn P w K B I 6 "keep_fact" uE (IL CL CJ)):aF P w K B I aL 8 f fd dE (IS C CL CJ):=by
 refine F.o E7 λs H hr h=>?_;obtain⟨l,b,X,ys,rfl,g,ok,q⟩:=h;refine⟨_,(au (aR (bH B7 (pF K 0) mj) (au (hZ (K:=K) rfl (pv 0) (Km IT hr (by decide) rfl (aa (wA (K:=K) rfl (pF K 0) rfl) ae))) (au (Zca (H0:=H) rfl gR rfl (ZfH (H0:=H) rfl (pF K 0)) (bc 1 E7.nd) (av (cv (qp vU hr (by decide) (pF K 0))))) (av (Zcb (H0:=H) rfl gR rfl (ZfK (H0:=H) rfl (pF K 0)) (bc 2 E7.nd) (av (cv (aZ vV hr (aa (pF K 0) (aa (pF K 0) (aa (pF K 0) (aa (pv 2) ae))))))))))) aX) (av (aG (pF K 0)))),?_⟩;obtain⟨t,h1⟩:=g.obj;have n8:X.length<=8:=ok.gd.2.2.2.2;have n0:0<X.length:=by have:=ok.gd.2.2.2.1;omega
 have nd:=g.nd;unfold BL.own at nd;simp only[Yz,Yp,Y1,fM,gV] at nd;obtain⟨⟨jC,cB,hU,kJ,mY,jD,jZ⟩,⟨qZ,pj,pq,pA,og,oh⟩,⟨oi,pB,pC,oj,oo⟩,⟨va,vc,pE,gS⟩,_⟩:=nd;cases hj:g.uh with
 |at_ j st j1 j2 Q G len gw=>
  have mQ:=h1;rw[j1] at mQ;refine⟨_,rfl,l.h,C,t,_,_,rfl,mQ,p.cls,p.iM,rfl,rfl,_,rfl,bQ (aS ?_)⟩;exact⟨_,rfl,l.h,C,t,_,_,rfl,mQ,p.cls,p.iM,rfl,q l j st H (bq.of (ak.refl _)) g j1 j2 Q G len gw λ_=>⟨rfl,rfl⟩⟩
 |no j1 j2=>
  have mQ:=h1;rw[j1] at mQ;refine mn (λσ H6=>∃(J:U) (D A:bS V),σ=[Z (.ref l.h),D,A]/\qA H C CJ t l.h l b X.length J b.F b.ps.length H6) (λnx hn=>?_) ?_
  ·refine⟨_,rfl,l.h,C,t,_,_,rfl,mQ,p.cls,p.iM,rfl,rfl,_,rfl,cS ?_⟩;obtain⟨dL,dS,mo,lO,wi,im,jf,iw,L0,hL,_⟩:=g.landAt;refine⟨_,rfl,l.h,C,t,_,_,rfl,mQ,p.cls,p.wH,rfl,l.L,CL,dL,_,_,rfl,hL,lc.cls,lc.t9,rfl,λx D5 sW Am nd2=>?_⟩;have An:upd H D5 (.own x) x=aE:=by rw[aN (λz=>nd2 z.symm)];exact sW
   have Xn:ak H (upd (upd H D5 (.own x)) x (.ins CJ D5 [])):=(cF Am _).trans (cF An _);refine⟨x,D5,X.length,rfl,aT,λMK H2 eJ1 em1 fr1 b2 ja1=>⟨rfl,?_⟩⟩;have f1:∀a∈MK.fp,H a=aE:=λa ha=>by
    by_cases z:a=x;·rw[z];exact sW
    ·exact Xn.free (fr1 a ha z)
   have g2:ak H H2:=λa o e=>b2 _ _ (Xn _ _ e) (cE e sW);refine⟨_,rfl,l.h,C,t,_,rfl,g2 _ _ mQ,p.cls,p.iM,by show 10<1000;decide,λH3 b3 e3=>?_⟩;have Xo:H3 l.h=Z (.ins C t (HF l.L l.sd l.pl l.fc l.kn l.pr (b.co:Int) l.dn l.un (.ref x))):=e3;have D2:l.h∉MK.fp:=λz=>by have:=f1 _ z;rw[h1] at this;cases this
   have jm3:qA H C CJ t l.h l b X.length x [] 0 H3:=⟨MK,_,eJ1,λa u e n1 _=>b3 _ _ (g2 _ _ e) n1,Xo,ja1.vd (g2 _ _ mQ) (λE z=>nomatch z) (λE z=>nomatch z) D2 b3,ZiA,rfl,f1⟩;have s3:H3 l.sd=Z (.dK (fF b.ps)):=b3 _ _ (g2 _ _ g.cA) (λz=>jC z.symm);dsimp only;refine je (λσ H6=>∃D A:bS V,σ=[Z (.ref l.h),D,A]/\qA H C CJ t l.h l b X.length x [] b.ps.length H6) (λML sX=>?_) ?_
   ·refine Zeo (d:=l.sd) (kvs:=fF b.ps) (H1:=H3) (λR r=>⟨_,rfl,l.h,C,t,_,_,rfl,Xo,p.cls,p.rW,rfl,r⟩) s3 (λi σ H6=>∃D A:bS V,σ=[Z (.ref l.h),D,A]/\qA H C CJ t l.sd l b X.length x [] i H6) (λod=>⟨aE,aE,rfl,jm3.vd (by rw[g.cA];exact λz=>nomatch z) s3 (λE z=>nomatch z) (λE z=>nomatch z) (λz=>jC z.symm) (aC.put (aC.of (ak.refl _))) (λu _ _ z=>absurd rfl z)⟩) ?_ ?_
    ·rintro od i k y aK H6 N rt bk hk ⟨D,A,rfl,L⟩ fz hN;obtain⟨j,st,T,keep,obj,Q,G,len,new⟩:=L;have il:i<b.ps.length:=by
      have:=(Yl.mp hk).1
      rwa [Ya] at this
     have im:=ok.m;obtain⟨dj,ej⟩:=Q.obj;have wf:=G.wf;have ml:=wf.SE;have Aw:=wf.Cz;refine aU ?_;refine⟨_,rfl,l.h,C,t,_,_,rfl,obj,p.cls,p.iM,rfl,j.J,dj,_,by rw[T],ej,rfl,j,st,X.length,by rw[T];rfl,Q,(dW n8 (by decide)),QO,ml,Aw,wf.ll,λz=>Wb _ (wf.lm _ z),λz=>Wb _ (wf.lf _ z),λiE H7 k1 o7 gr ja7=>?_⟩;have W:∀{a:U} {u:HO},H a=Z u->a∉j.fp:=λ{a u} e z=>by rw[new _ z] at e;cases e
     refine hN _ _ ⟨_,_,rfl,iE,_,k1.trans T,λa u e n1 n2=>o7 _ _ (keep a u e n1 n2) (W e),o7 _ _ obj (W h1),ja7,G.more n0,by rw[jJ,len],λa z=>?_⟩ (o7 _ _ fz (W g.cA));rcases gr a z with y|y;·exact new a y
     ·cases e:H a with
      |none=>rfl
      |some u=>
       by_cases z1:a=l.h;·rw[z1,obj] at y;cases y
       ·by_cases z2:a=l.sd;·rw[z2,fz] at y;cases y
        ·rw[keep a u e z1 z2] at y;cases y
    ·rintro od aK H6 ⟨D,A,rfl,L⟩ fz;rw[Ya] at L;refine sX _ _ ⟨D,A,rfl,?_⟩;obtain⟨j,st,T,keep,obj,Q,G,len,new⟩:=L;have W:l.sd∉j.fp:=λz=>by have:=new _ z;rw[g.cA] at this;cases this
     refine⟨j,st,T,λa u e n1 _=>?_,by rw[aN jC];exact obj,Q.vd fz (λE z=>nomatch z) (λE z=>nomatch z) W (aC.put (aC.of (ak.refl _))),G,len,new⟩;by_cases z:a=l.sd
     ·subst z;rw[aT];rw[g.cA] at e;exact e
     ·rw[aN z];exact keep a u e n1 z
   ·rintro σ H6 ⟨D,A,rfl,L⟩;obtain⟨jl0,Zlm,eJ0,ZiC,ZjB,ja0,me0,len0,Zln⟩:=id L;have f6:H6 l.fc=Z (.dK (bJ (b.fs.map (·.1)) l.cq)):=ZiC _ _ g.facts (λz=>hU z.symm) (λz=>hU z.symm);have al:=cK g.fact;refine Zep (d:=l.fc) (kvs:=bJ (b.fs.map (·.1)) l.cq) (H1:=H6) (λR r=>⟨_,rfl,l.h,C,t,_,_,rfl,ZjB,p.cls,p.rX,rfl,r⟩) f6 (λi σ H6=>∃D A:bS V,σ=[Z (.ref l.h),D,A]/\qA H C CJ t l.fc l b X.length x (b.F.take i) b.ps.length H6) (λod=>⟨D,A,rfl,L.vd (by rw[g.facts];exact λz=>nomatch z) f6 (λE z=>nomatch z) (λE z=>nomatch z) (λz=>hU z.symm) (aC.put (aC.of (ak.refl _))) (λu _ _ z=>absurd rfl z)⟩) ?_ ?_
    ·rintro od i k y aK H7 N rt bk hk ⟨D,A,rfl,L⟩ fz hN;obtain⟨fa,efa,rfl⟩:=O2 hk;obtain⟨⟨z,c⟩,Xp,dz⟩:=gK g.fact efa;have mzc:=Yj Xp;obtain⟨j,st,T,keep,obj,Q,G,len,new⟩:=L;have W:∀{a:U} {u:HO},H a=Z u->a∉j.fp:=λ{a u} e z=>by rw[new _ z] at e;cases e
     have of:Out l.fp H H7:=λa u e n=>keep a u e (λz=>n (by rw[z];simp[BL.fp,BL.own])) (λz=>n (by rw[z];simp[BL.fp,BL.own]));have fg:=ok.fg _ mzc;have im:=ok.m;have ec:b.F[i]?=Z c:=by unfold BS.F;rw[Yf,Xp];rfl
     have tk:b.F.take (i+1)=b.F.take i++[c]:=by rw[Y3,ec];rfl
     refine aU ?_;refine⟨_,rfl,l.h,C,t,_,_,rfl,obj,p.cls,p.iM,rfl,_,rfl,l.h,C,t,_,_,rfl,obj,p.cls,p.wH,rfl,_,rfl,l.h,C,t,_,_,rfl,obj,p.cls,p.rP,rfl,_,rfl,j,st,l.L,l.pl,fa,X,ys,b.ps,b.F.take i,z,c,by rw[T];rfl,Q,G,g.land H7 of,ok.gd,keep _ _ g.places (λz=>cB z.symm) oi,ok.nm,len,(dW im (by decide)),of _ _ dz (g.tup dz),fg,?_,λv iE aO H8 e1 sub o8 ja8 me8 ZjC=>?_⟩
     ·obtain⟨f0,i0,s0⟩:=ok.lv;exact⟨f0,(G.iff f0).mpr ⟨by rw[len];exact i0,λc' m'=>s0 c' (List.mem_of_mem_take m')⟩,s0 c (Yj ec)⟩
     ·refine hN _ _ ⟨_,_,rfl,iE,aO,e1.trans T,λa u e n1 n2=>o8 _ _ (keep a u e n1 n2) (W e),o8 _ _ obj (W h1),ja8,by rw[tk];exact me8,ZjC.trans len,λa z=>new a (sub a z)⟩ (o8 _ _ fz (W g.facts))
    ·rintro od aK H7 ⟨D,A,rfl,L⟩ fz;have dl:(bJ (b.fs.map (·.1)) l.cq).length=b.F.length:=by
      unfold bJ BS.F;rw[Ya,Jf,Ya,Ya];omega
     rw[dl,Wg] at L;refine hn _ _ ⟨x,D,A,rfl,?_⟩;obtain⟨j,st,T,keep,obj,Q,G,len,new⟩:=L;have W:l.fc∉j.fp:=λz=>by have:=new _ z;rw[g.facts] at this;cases this
     refine⟨j,st,T,λa u e n1 _=>?_,by rw[aN hU];exact obj,Q.vd fz (λE z=>nomatch z) (λE z=>nomatch z) W (aC.put (aC.of (ak.refl _))),G,len,new⟩;by_cases z:a=l.fc
     ·subst z;rw[aT];rw[g.facts] at e;exact e
     ·rw[aN z];exact keep a u e n1 z
  ·rintro σ H6 ⟨J,D,A,rfl,L⟩;obtain⟨j,st,T,keep,obj,Q,G,len,new⟩:=L;refine⟨_,rfl,l.h,C,t,_,_,rfl,obj,p.cls,p.iM,rfl,?_⟩;have k6:∀{a:U} {u:HO},H a=Z u->a≠l.h->H6 a=Z u:=λ{a u} e n=>keep a u e n n;have of:Out l.fp H H6:=λa u e n=>k6 e (λz=>n (by rw[z];simp[BL.fp,BL.own]));have tp:∀{a:U} {E:O V},H a=Z (.tup E)->H6 a=Z (.tup E):=λe=>of _ _ e (g.tup e);have gr:eZ l.fp ({l with rk:=.ref j.J,eG:=j.fp}:BL).fp H:=λa z=>by
    rcases Yv.mp (show a∈l.own++j.fp from z) with y|y;·exact .inl (Ys _ y)
    ·exact .inr (new a y)
   have gw:∀a∈l.own,a∉j.fp:=λa m z=>g.there (Ys _ m) (new a z);subst T;refine q {l with rk:=.ref j.J,eG:=j.fp} j st H6 ⟨rfl,of,gr⟩ ?_ rfl rfl Q G len gw λz=>absurd j1 z;exact g.build (l':={l with rk:=.ref j.J,eG:=j.fp}) (b':=b) rfl rfl rfl rfl rfl rfl rfl rfl rfl of gr ⟨t,obj⟩ (k6 g.cA (λz=>jC z.symm)) (k6 g.places (λz=>cB z.symm)) (k6 g.facts (λz=>hU z.symm)) (L2.Paired.bA g.fact λ_ _ e=>tp e) (k6 g.known (λz=>kJ z.symm)) (k6 g.parents (λz=>mY z.symm)) (k6 g.done (λz=>jD z.symm)) (L2.Paired.bA g.ik λ_ _ e=>e.out of λa E e=>g.tup e) (k6 g.fq (λz=>jZ z.symm)) (L2.Paired.bA g.jj λ_ _ e=>e.out of λa E e=>g.tup e) (.at_ j st rfl rfl Q G len gw)
def gG(z:ar)(c:Nat):cm:=!(Builtin.Str.occurrences z ⟨#[c]⟩ 0 z.length 1).isEmpty
abbrev qh:ar:="abcdefghijklmnopqrstuvwxyz"
abbrev nj:ar:="abcdefghijklmnopqrstuvwxyz0123456789"
def ui(z:ar):cm:=match z.cps.toList with
 |[]=>a7
 |c::r=>decide (z.length<=12)&&(gG qh c&&(c::r).all (gG nj))
def ZjD(v:ar):v.cps.toList.length=v.length:=by simp[Str.length]
def Zf6{z:ar}(h:z.cps.toList=[]):z="":=by
 cases z with|mk a=>cases a with|mk l=>cases h;rfl
def ZeT(h:z.cps.toList=[]):ui z=a7:=by unfold ui;rw[h]
def O3(h:z.cps.toList=c::r):ui z=(decide (z.length<=12)&&(gG qh c&&(c::r).all (gG nj))):=by unfold ui;rw[h]
def P5:Sp:=λb H Q _=>∃z:ar,b=[.str z]/\z.length<=1000/\∀a,ak H a->Q (.bl (ui z)) a
def Zcw:aP ["text"] ["text"] (aH Hx):=.a8
theorem Zcx(F:aM K "is_name" "is_name" Hx f fd)(x:B "LONGEST_NAME"=Z (.int 12 t1))(A:B "LETTERS_OF_NAMES"=Z (.str "abcdefghijklmnopqrstuvwxyz" G))(y:B "SIGNS_OF_NAMES"=Z (.str "abcdefghijklmnopqrstuvwxyz0123456789" t3))(l:Bl B):
  aF P w K B I aL 1 f fd ["text"] P5:=by
 refine F.o Zcw λs H J h=>?_;obtain⟨z,rfl,d,q⟩:=h;refine⟨_,(au (aR (PW.pt (pw_or (bH cD (pv 0) bo) (pw_or (bH Ke (iN (ZaD) rfl l.Cv B9 (aa (pv 0) ae)) (dH (v:=.int (12)) rfl x ⟨_,rfl⟩)) (pw_or1 (iO ZaA (a_ yX (pv 0) aI) (dH (v:=.str "abcdefghijklmnopqrstuvwxyz") rfl A ⟨_,rfl⟩) QU))))) (av (aG gP)) aX) (av (aG (iN (UE (K:=K) rfl rfl) rfl l.Tw R_ (aa (jK (fr:=[]) (cl:=[]) rfl (.gW trivial trivial) (Zhh (pv 0)) (λ_ _ _ _=>mf) (λ_ _ _ _=>(BI ZcR (pv 0) (dH (v:=.str "abcdefghijklmnopqrstuvwxyz0123456789") rfl y ⟨_,rfl⟩) QU))) ae))))),?_⟩;have sz:(10000:Nat)<=sizeLine:=by rw[dw];decide
 cases a:z.cps.toList with
 |nil=>
  have e:=Zf6 a;rw[ZeT a] at q;refine⟨_,rfl,rfl,_,rfl,bF (λ_=>?_) (λc=>absurd (dg (by rw[e])) c)⟩;exact q H (ak.refl H)
 |cons c r=>
  have n:=ZjD z;rw[a,Wf] at n;rw[O3 a] at q;refine⟨_,rfl,rfl,_,rfl,bF (λb=>?_) (λ_=>?_)⟩
  ·have e:=V.str.inj (eB b);have t:(Str.ofString "").cps.toList=[]:=QK
   rw[e,t] at a;cases a
  refine⟨_,rfl,z,rfl,(dW d (by decide)),_,_,rfl,rfl,_,rfl,bF (λb=>?_) (λb=>?_)⟩
  ·have m:=eB b;rw[gb (by omega:¬z.length<=12)] at q;exact q H (ak.refl H)
  have E:z.length<=12:=by
   grind
  rw[dg E,AA] at q;refine⟨_,rfl,_,_,_,rfl,rfl,(dW d (by decide)),jb (by rw[a];rfl),_,_,rfl,rfl,_,rfl,bF (λb=>?_) (λb=>aS ?_)⟩
  ·have m:gG qh c=a7:=by
    have z:(!gG qh c)=af:=b;cases e:gG qh c;·rfl
    ·rw[e] at z;cases z
   rw[m,UU] at q;exact q H (ak.refl H)
  have u:gG qh c=af:=by
   cases e:gG qh c;·exact absurd (show(!gG qh c)=af by rw[e];rfl) b
   ·rfl
  rw[u,AA,←a] at q;refine⟨_,rfl,z,rfl,λD o=>Zdc (dW d (by decide)) o (λc=>V.bl (gG nj c)) (λi c L g j N k=>?_) λg j p=>?_⟩;·exact⟨_,rfl,_,_,rfl,rfl,k g (ak.refl _)⟩
  ·refine⟨D,z.cps.toList.map (gG nj),rfl,aq.of (by rw[p,Y7];rfl),?_⟩;exact L7▸q g j
def dR.more(h:dR n m c)(l:m<=g):dR n g c:=⟨by have:=h.one;exact iz this l,λe=>by obtain⟨⟨a,b⟩,d⟩:=h.iD e;exact⟨⟨a,(iz b l)⟩,d⟩⟩
def fC.more(h:fC xs a m c)(l:m<=b):fC xs a b c:=⟨h.ok.more l,h.kind,h.K6⟩
def ZhK{f g:Nat->Int}(a:dR n m c)(e:∀i,i<m->g i=f i)(s:fO f c):fO g c:=⟨λh=>by rw[e _ a.one];exact s.1 h,λh=>by rw[e _ a.one,e _ (a.iD h).1.2];exact s.2 h⟩
section
variable {xs X:O Int}{b:BS}
def bP.ZjE(a:bP xs X b)(l:n∉b.ps.map (·.1))(o:b.ps.length<64)(r:b.co<=y)(x:t.length<=200)(j:un.length<=200):bP xs X {b with ps:=b.ps++[(n,s)],co:=y,dn:=t,un:=un}:=by
 have e:=λp d=>(a.fg p d).ok;have len:(b.ps++[(n,s)]).length=b.ps.length+1:=by rw[Yd];rfl
 refine⟨a.gd,?_,by show(b.ps++[(n,s)]).length<=64;omega,a.fl,λp d=>?_,a.zs,λp d=>Y2 (a.lt p d) r,?_,?_,?_,x,j⟩
 ·show((b.ps++[(n,s)]).map (·.1)).Nodup;rw[Yi];refine Wj.mpr ⟨a.nm,QS,λu D v A z=>?_⟩
  grind
 ·exact len▸(a.fg p d).more (Wk _)
 ·show(b.fs.map λp=>eF (b.ps++[(n,s)]) p.2).Nodup;rw[(W8 λp d=>by rw[Rf (e p d)])];exact a.ky
 ·show((cC (b.ps++[(n,s)]) b.fs).map (·.1)).Nodup;rw[IQ e];exact a.pr
 ·obtain⟨f,q,k⟩:=a.lv;refine⟨λi=>if i<b.ps.length then f i else 0,λi g=>?_,λc m=>?_⟩
  ·show 0<=(if i<b.ps.length then f i else 0)/\(if i<b.ps.length then f i else 0)<(xs.length:Int);by_cases h:i<b.ps.length;·rw[bt h];exact q i h
   ·rw[bu h];have:=a.gd.2.2.2.1
    grind
  ·obtain⟨p,d,rfl⟩:=Yg.mp m;exact ZhK (e p d) (λi g=>bt g) (k _ m)
theorem bP.ZjF(d:bP xs X b)(L:fC xs X b.ps.length c)(n:z∉b.fs.map (·.1))(q:eF b.ps c∉b.keys)(o:cU c.k=af->[.inr c.k,.inr (aw b.ps c.one)]∉(cC b.ps b.fs).map (·.1))(r:∃f,mW xs.length b.ps.length f/\∀g∈b.F++[c],fO f g)(s:b.fs.length<63)(A:b.co<=co)(H:z<co)(G:F.length<=200)(j:un.length<=200):bP xs X {b with fs:=b.fs++[(z,c)],co:=co,dn:=F,un:=un}:=by
 have snoc:∀{h:Type} {l:O h} {x:h},l.Nodup->x∉l->(l++[x]).Nodup:=λ{h l x} E D=>Wj.mpr ⟨E,QS,λu J v y e=>by
  have:v=x:=by simpa using y
  exact D (by rwa[←this,←e])⟩
 refine⟨d.gd,d.nm,d.m,by show(b.fs++[(z,c)]).length<=63;rwa[Yd],λp a=>?_,?_,λp a=>?_,?_,?_,?_,G,j⟩
 ·rcases Yv.mp a with a|a;·exact d.fg p a
  ·rwa[Yq.mp a]
 ·show((b.fs++[(z,c)]).map (·.1)).Nodup;exact Yi▸snoc d.zs n
 ·rcases Yv.mp a with a|a;·exact Y2 (d.lt p a) A
  ·rwa[Yq.mp a]
 ·show((b.fs++[(z,c)]).map λp=>eF b.ps p.2).Nodup;exact Yi▸snoc d.ky q
 ·show((cC b.ps (b.fs++[(z,c)])).map (·.1)).Nodup;cases e:cU c.k with
  |true=>rw[Ir e,Yi];exact snoc d.pr (o e)
  |false=>rw[P4 e];exact d.pr
 ·obtain⟨f,t,k⟩:=r;refine⟨f,t,λg m=>k g ?_⟩;have i:g∈(b.fs++[(z,c)]).map (·.2):=m;rw[Yi] at i;exact i
def bP.drop(a:bP xs X b)(z:Nat)(i:b.co<=l)(k:j.length<=200)(e:un.length<=200):bP xs X {b with fs:=cz z b.fs,co:=l,dn:=j,un:=un}:=by
 have sub:(cz z b.fs).Sublist b.fs:=V_;refine⟨a.gd,a.nm,a.m,Yy sub.length_le a.fl,λp d=>a.fg p (sub.subset d),a.zs.sublist (sub.map _),λp d=>Y2 (a.lt p (sub.subset d)) i,a.ky.sublist (sub.map _),?_,?_,k,e⟩
 ·show((cC b.ps (cz z b.fs)).map (·.1)).Nodup;refine a.pr.sublist ?_;unfold cC
  grind
 ·obtain⟨f,h,g⟩:=a.lv;exact⟨f,h,λc m=>g c ((sub.map _).subset m)⟩
end
def BS.zt(b:BS)(n s:ar):BS:={b with ps:=b.ps++[(n,s)],co:=b.co,dn:=b.dn++[⟨1,[.inr n,.inr s],b.co,b.co⟩],un:=[]}
def BS.wV(b:BS)(c:Fc):BS:={b with fs:=b.fs++[(b.co,c)],co:=b.co+1,dn:=b.dn++[⟨1,dG b.ps b.co c,b.co,b.co+1⟩],un:=[]}
def BS.without(b:BS)(z:Nat)(c:Fc):BS:={b with fs:=cz z b.fs,co:=b.co,dn:=b.dn++[⟨-1,dG b.ps z c,b.co,b.co⟩],un:=[]}
def JX(s:ar):cm:=fY (.str s) [.str "man",.str "woman"]
structure xu(b:BS)(n s:ar):Prop where
 UZ:ui n=af
 side:JX s=af
 new:n∉b.ps.map (·.1)
 lim:b.ps.length<64
 nl:n.length<=1000
structure uI(xs ys:O Int)(b:BS)(c:Fc):Prop where
 fg:fC xs ys b.ps.length c
 nk:eF b.ps c∉b.keys
 np:cU c.k=af->[.inr c.k,.inr (aw b.ps c.one)]∉(cC b.ps b.fs).map (·.1)
 lv:∃f,mW xs.length b.ps.length f/\∀c'∈b.F++[c],fO f c'
 lim:b.fs.length<63
inductive P6(C CL CJ:U)(e:O V)(H:Hp)(Q:VK)(E:XK):Prop
 |mk (l:BL) (b:BS) (d c:O Int) (n s:ar) (i:e=[.ref l.h,.str n,.str s]) (h:bB H C CL CJ l d c b) (g:xu b n s) (q:∀a,ak H a->Q .aA a)
inductive P7(C CL CJ:U)(g:O V)(H:Hp)(Q:VK)(E:XK):Prop
 |mk (l:BL) (b:BS) (c a:O Int) (n s:ar) (j:g=[.ref l.h,.str n,.str s]) (i:bB H C CL CJ l c a b) (ok:bP c a b) (h:xu b n s) (dl:b.dn.length<200) (q:∀(e:BL) (d:Hp),bq H d l e->bB d C CL CJ e c a (b.zt n s)->Q .aA d)
inductive JY(C CL CJ:U)(i:O V)(H:Hp)(Q:VK)(E:XK):Prop
 |mk (l:BL) (b:BS) (d a:O Int) (h:U) (c:Fc) (n:i=[.ref l.h,.ref h]) (m:bB H C CL CJ l d a b) (ok:bP d a b) (k:dC H b.ps h (b.co,c)) (j:uI d a b c) (dl:b.dn.length<200) (q:∀(g:BL) (e:Hp),bq H e l g->bB e C CL CJ g d a (b.wV c)->Q (.int (b.co:Int)) e)
inductive SS(C CL CJ:U)(h:O V)(H:Hp)(Q:VK)(E:XK):Prop
 |mk (l:BL) (b:BS) (d a:O Int) (z:Nat) (c:Fc) (j:h=[.ref l.h,.int (z:Int)]) (i:bB H C CL CJ l d a b) (ok:bP d a b) (m:(z,c)∈b.fs) (dl:b.dn.length<200) (q:∀(g:BL) (e:Hp),bq H e l g->bB e C CL CJ g d a (b.without z c)->Q .aA e)
inductive Ro(C CL CJ:U)(e:O V)(H:Hp)(Q:VK)(E:XK):Prop
 |mk (x g L:U) (d c:O Int) (j:e=[.ref x,.ref L]) (i:H x=Z (.ins C g [])) (h:jh H CL L d c) (q:∀(l:BL) (b:Hp),l.h=x->(∀a∈l.fp,a≠x->H a=aE)->aC x H b->bB b C CL CJ l d c ⟨[],[],0,[],[]⟩->Q .aA b)
def jh.free(g:jh H CL L xs ys)(A:∀a∈fp,H a=aE\/∃C b,H a=Z (.ins C b []))(o:Out fp H c):jh c CL L xs ys:=by
 obtain⟨b,d,m,f,w,j,h,i,st,y,x,v,t,s,r,q,p,l⟩:=g;have k:∀{a:U} {u:HO},H a=Z u->(∀C b,u≠.ins C b [])->c a=Z u:=λ{a u} e n=>o _ _ e λz=>by
  grind
 exact⟨b,d,m,f,w,j,h,i,st,k y (λ_ _ z=>by cases z),k x (λ_ _ z=>by cases z),k v (λ_ _ z=>by cases z),k t (λ_ _ z=>by cases z),k s (λ_ _ z=>by cases z),k r (λ_ _ z=>by cases z),k q (λ_ _ z=>by cases z),k p (λ_ _ z=>by cases z),k l (λ_ _ z=>by cases z)⟩
abbrev C2:O ar:=["hearth","name","side"]
def ZH:aP C2 C2 (aH E_):=.a8
def ZI(F:aM K "check_person" "check_person" E_ f fd)(Q:HasFn P w K B I 1 "is_name" ["text"] P5)(o:B "MAN"=Z (.str "man" t1))(r:B "WOMAN"=Z (.str "woman" T))(m:bZ P w K B I 1 "people" C dE (Ip C CL CJ)):aF P w K B I aL 2 f fd C2 (P6 C CL CJ):=by
 refine F.o ZH λs H e h=>?_;obtain⟨l,b,k,j,n,s,rfl,N,a,q⟩:=h;refine⟨_,(au (aR (PW.pt (pw_or (fS (dN (aZ Q e (aa (pv 1) ae)))) (pw_or1 (iO (JH (K:=K) rfl) (pv 2) (df (aa (dH (v:=.str "man") rfl o ⟨_,rfl⟩) (aa (dH (v:=.str "woman") rfl r ⟨_,rfl⟩) ae))) QU)))) gL aX) (av (aR (iO (nS rfl) (pv 1) (qp m e (by decide) (pv 0)) QU) gL aX))),?_⟩;refine hI ?_;intros;have sz:(10000:Nat)<=sizeLine:=by rw[dw];decide
 refine⟨_,rfl,n,rfl,a.nl,λH1 E=>⟨_,rfl,?_⟩⟩;rw[a.UZ];refine bQ ?_;refine⟨_,rfl,by show 2<=sizeLine;decide,λp X W D c=>⟨p,_,rfl,.inr (az.of c),rfl,rfl,_,rfl,?_⟩⟩;have t:fY (.str s) [.str "man",.str "woman"]=af:=a.side;dsimp only;rw[bt rfl,t];refine bQ (aS ?_);have g:=E.trans D;have d:=N.same g;obtain⟨J,y⟩:=d.obj;refine⟨_,rfl,_,rfl,l.h,J,_,rfl,y,rfl,l,b,k,j,rfl,d,λu R x A L=>?_⟩;have G:(b.ps.map λp=>V.str p.1).all jM=af:=by
  rw[L7,Wp];intro p _;rfl
 refine⟨u,_,rfl,.inl (aq.of L),rfl,G,_,rfl,?_⟩;try dsimp only
 have no:fY (.str n) (b.ps.map λp=>V.str p.1)=a7:=by
  unfold fY;rw[List.any_map,Vx];intro p c z;have i:(p.1==n)=af:=z;exact a.new (by rw[←eq_of_beq i];exact Yg.mpr ⟨p,c,rfl⟩)
 rw[bu Yh,no];exact bQ (aS (q R (g.trans A)))
abbrev C3:O ar:=["self","name","side"]
def Zx:aP C3 C3 (aH EZ):=.a8
def Zdw(F:aM K "person" "Hearth.person" EZ f fd)(i:eK K C)(x:B "PUT_IN"=Z (.int 1 t1))(E:HasFn P w K B I 2 "check_person" C2 (P6 C CL CJ))(y:bZ P w K B I 10 "do_deed" C mJ (Bz C CL CJ)):aF P w K B I aL 11 f fd C3 (P7 C CL CJ):=by
 refine F.o Zx λs H g h=>?_;obtain⟨l,b,e,d,n,s,rfl,t,ok,a,dl,q⟩:=h;refine⟨_,(au (cv (aZ E g (aa (pv 0) (aa (pv 1) (aa (pv 2) ae))))) (av (cv (cQ y g (by decide) (pv 0) (aa (dH (v:=.int (1)) rfl x ⟨_,rfl⟩) (aa (df (aa (pv 1) (aa (pv 2) ae))) (aa (pF K 0) ae))))))),?_⟩;refine hI ?_;intros;refine⟨_,rfl,_,rfl,_,rfl,l,b,e,d,n,s,rfl,t,a,λL m=>?_⟩;have p:=t.same m;obtain⟨o,k⟩:=p.obj;refine⟨_,rfl,l.h,o,_,rfl,k,rfl,_,rfl,_,rfl,by show 2<=sizeLine;decide,λr J G c j=>?_⟩;refine⟨_,rfl,l.h,C,o,_,_,rfl,c _ _ k,i.cls,i.rQ,rfl,l,b,_,e,d,r,1,b.co,[.inr n,.inr s],rfl,p.same c,ok,dl,j,.pin n s j a.new a.lim,λz D u A=>?_⟩;exact q z D (bq.after (m.trans c) u) A
def yj:aP UX uF (aH Fy):=.a8
def Zf7(F:aM K "keep" "Hearth.keep" Fy f fd)(j:eK K C)(R:B "PUT_IN"=Z (.int 1 t1))(Gz:HasFn P w K B I 5 "fact_fits" uE (SK CL CJ))(Q:bZ P w K B I 8 "joins" C dE (IS C CL CJ))(T:bZ P w K B I 10 "do_deed" C mJ (Bz C CL CJ)):aF P w K B I aL 11 f fd uF (JY C CL CJ):=by
 refine F.o yj λs H u h=>?_;obtain⟨l,b,o,n,y,c,rfl,A,ok,x,d,dl,q⟩:=h;refine⟨_,(au (kg (pv 1) (gO (K:=K) rfl rfl (bw (bc 2 yj.nd) (bw (bc 3 yj.nd) (bw (bc 4 yj.nd) (bw (bc 5 yj.nd) gM)))))) (au (aR (fS (dN (aZ Gz u (aa (qp Q u (by decide) (pv 0)) (aa (pF K 0) (aa (pF K 0) (aa (pv 1) ae))))))) gL aX) (au (cv (cQ T u (by decide) (pv 0) (aa (dH (v:=.int (1)) rfl R ⟨_,rfl⟩) (aa (pv 1) (aa (bj jg (pv 2) aI) ae))))) (av (aG (pv 2)))))),?_⟩;obtain⟨dx,h1⟩:=A.obj;refine⟨_,rfl,y,_,rfl,az.of x,rfl,_,_,rfl,aU ⟨_,_,rfl,aU ⟨_,_,rfl,aU ⟨_,_,rfl,aU ⟨rfl,?_⟩⟩⟩⟩⟩;refine⟨_,rfl,l.h,dx,_,rfl,h1,rfl,l,b,o,n,rfl,A,ok,λa jl st H1 g m r1 r2 ja E len gw _=>?_⟩;obtain⟨i,e1⟩:=m.obj;have t:H1 l.h=Z (.ins C i (HF a.L a.sd a.pl a.fc a.kn a.pr (b.co:Int) a.dn a.un a.rk)):=by rwa[←g.h]
 have L:=g.out _ _ x (A.tup x);have im:=ok.m;refine⟨_,rfl,l.h,C,i,_,_,rfl,t,j.cls,j.wH,rfl,_,rfl,l.h,C,i,_,_,rfl,t,j.cls,j.rP,rfl,_,rfl,jl,st,a.L,a.pl,y,o,n,b.ps,b.F,b.co,c,rfl,ja,E,m.landAt,ok.gd,m.places,ok.nm,len,(dW im (by decide)),L,d.fg,λ_ H2 k=>?_,λno=>?_⟩
 ·refine⟨_,rfl,bQ (aS ?_)⟩;have N:=m.same k;have J:=k _ _ L;have W:b.co∉b.fs.map (·.1):=λz=>by
   obtain⟨p,hp,e⟩:=Yg.mp z;have:=ok.lt p hp;omega
  refine⟨_,rfl,l.h,i,_,rfl,k _ _ t,rfl,_,rfl,_,rfl,_,_,rfl,rfl,a,b,_,o,n,y,1,b.co+1,dG b.ps b.co c,?_,N,ok,dl,J,.fin b.co c J d.fg W d.nk d.np d.lv d.lim,λl' H3 r iF=>?_⟩;·rw[g.h];rfl
  ·exact⟨_,rfl,q l' H3 ((g.same k).trans r) iF⟩
 ·obtain⟨G,i0,D⟩:=d.lv;exact absurd (D c (Ym _ Yk)) (no G ((E.iff G).mpr ⟨by rwa[len],λc' X=>D c' (Ys _ X)⟩))
def Z0:aP zF zF (aH Fz):=.a8
def Zf8(F:aM K "take" "Hearth.take" Fz f fd)(a:eK K C)(A:B "TAKEN_OUT"=Z (.int (-1) t1))(t:bZ P w K B I 10 "do_deed" C mJ (Bz C CL CJ)):aF P w K B I aL 11 f fd zF (SS C CL CJ):=by
 refine F.o Z0 λs H i h=>?_;obtain⟨l,b,p,o,z,c,rfl,d,ok,m,dl,q⟩:=h;refine⟨_,(au (aR (kU (oG (bI i) (pv 1) (pF K 0)) QU) gL aX) (av (cv (cQ t i (by decide) (pv 0) (aa (dH (v:=.int (-1)) rfl A ⟨_,rfl⟩) (aa (dt (bI i) (pF K 0) (pv 1) (λ_ _=>rfl)) (aa (pF K 0) ae))))))),?_⟩;refine hI ?_;intros;obtain⟨g,e⟩:=d.obj;obtain⟨j,n,k⟩:=IP d.fact ok.zs m;refine⟨_,rfl,_,rfl,l.h,C,g,_,_,rfl,e,a.cls,a.rX,rfl,l.fc,Z (.ref j),rfl,qt d.facts n,_,rfl,bQ (aS ?_)⟩;refine⟨_,rfl,l.h,g,_,rfl,e,rfl,_,rfl,l.h,C,g,_,_,rfl,e,a.cls,a.rX,rfl,_,rfl,l.fc,.ref j,rfl,qt d.facts n,_,rfl,l.h,C,g,_,_,rfl,e,a.cls,a.rQ,rfl,l,b,_,p,o,j,-1,b.co,dG b.ps z c,rfl,d,ok,dl,k,.jS z c k m,λu y r x=>?_⟩;exact q u y r x
abbrev C4:O ar:=["self","land"]
def Z1:aP C4 C4 (aH Fx):=.a8
theorem ZeU(F:aM K "__init__" "Hearth.__init__" Fx f fd)(b:eK K C):aF P w K B I aL 1 f fd C4 (Ro C CL CJ):=by
 refine F.o Z1 λs H hr h=>?_;obtain⟨x,g,L,xs,ys,rfl,hx,la,q⟩:=h;refine⟨_,(au (hZ (K:=K) rfl (pv 0) (pv 1)) (au (hZ (K:=K) rfl (pv 0) tS) (au (hZ (K:=K) rfl (pv 0) tS) (au (hZ (K:=K) rfl (pv 0) tS) (au (hZ (K:=K) rfl (pv 0) OI) (au (hZ (K:=K) rfl (pv 0) OI) (au (hZ (K:=K) rfl (pv 0) aI) (au (hZ (K:=K) rfl (pv 0) (c6 ae)) (au (hZ (K:=K) rfl (pv 0) (c6 ae)) (av (hZ (K:=K) rfl (pv 0) mj))))))))))),?_⟩;refine zy ?_;intros;refine⟨_,rfl,_,rfl,x,C,g,[],rfl,hx,b.cls,b.wH,by show 0<1000;decide,λH1 b1 h1=>?_⟩;refine λsd Q n2 g2 G=>⟨_,rfl,x,C,g,_,rfl,g2 _ _ h1,b.cls,b.rW,by show 1<1000;decide,λH3 b3 h3=>?_⟩;refine λpl H4 n4 g4 W=>⟨_,rfl,x,C,g,_,rfl,g4 _ _ h3,b.cls,b.rP,by show 2<1000;decide,λH5 b5 h5=>?_⟩;refine λfc H6 n6 g6 e6=>⟨_,rfl,x,C,g,_,rfl,g6 _ _ h5,b.cls,b.rX,by show 3<1000;decide,λH7 b7 h7=>?_⟩;refine λkn H8 R T e8=>⟨_,rfl,x,C,g,_,rfl,T _ _ h7,b.cls,b.BY,by show 4<1000;decide,λH9 N h9=>?_⟩;refine λpr qS D A qU=>⟨_,rfl,x,C,g,_,rfl,A _ _ h9,b.cls,b.wg,by show 5<1000;decide,λz6 y h11=>?_⟩;refine⟨_,rfl,x,C,g,_,rfl,h11,b.cls,b.rQ,by show 6<1000;decide,λxT v DF=>?_⟩;refine⟨by show 0<=sizeLine;exact Yw _,λdn DG p r Xt=>⟨_,rfl,x,C,g,_,rfl,r _ _ DF,b.cls,b.wJ,by show 7<1000;decide,λsP m Xu=>?_⟩⟩;refine⟨by show 0<=sizeLine;exact Yw _,λun LW j Xv e15=>⟨_,rfl,x,C,g,_,rfl,Xv _ _ Xu,b.cls,b.wq,by show 8<1000;decide,λV3 b16 h16=>?_⟩⟩;refine⟨_,rfl,x,C,g,_,rfl,h16,b.cls,b.iM,by show 9<1000;decide,λrp b17 Xw=>?_⟩;rw[Zjw] at Xw;have Xx:aC x LW rp:=b16.trans b17;have Xy:aC x DG rp:=m.trans ((aC.of Xv).trans Xx);have Xz:aC x qS rp:=y.trans (v.trans ((aC.of r).trans Xy));have j8:aC x H8 rp:=N.trans ((aC.of A).trans Xz);have j6:aC x H6 rp:=b7.trans ((aC.of T).trans j8);have j4:aC x H4 rp:=b5.trans ((aC.of g6).trans j6);have j2:aC x Q rp:=b3.trans ((aC.of g4).trans j4);have j0:aC x H rp:=b1.trans ((aC.of g2).trans j2);have i3:aC x H H3:=b1.trans ((aC.of g2).trans b3);have i5:aC x H H5:=i3.trans ((aC.of g4).trans b5);have i7:aC x H H7:=i5.trans ((aC.of g6).trans b7);have i9:aC x H H9:=i7.trans ((aC.of T).trans N);have i12:aC x H xT:=i9.trans ((aC.of A).trans (y.trans v));have i14:aC x H sP:=i12.trans ((aC.of r).trans m);have E:∀{a:U} {H':Hp},aC x H H'->a≠x->H' a=aE->H a=aE:=λ{a H'} k d n=>by
  cases e:H a with
  |none=>rfl
  |some o=>rw[k a o e d] at n;cases n
 have t:sd≠x:=λz=>by rw[z,h1] at n2;cases n2
 have J:pl≠x:=λz=>by rw[z,h3] at n4;cases n4
 have X:fc≠x:=λz=>by rw[z,h5] at n6;cases n6
 have d8:kn≠x:=λz=>by rw[z,h7] at R;cases R
 have D7:pr≠x:=λz=>by rw[z,h9] at D;cases D
 have MM:dn≠x:=λz=>by rw[z,DF] at p;cases p
 have XA:un≠x:=λz=>by rw[z,Xu] at j;cases j
 have ne:∀{a c:U} {Ha Hc:Hp} {o:HO},Ha a=Z o->aC x Ha Hc->a≠x->Hc c=aE->a≠c:=λ{a c Ha Hc o} e k d n z=>by rw[←z,k a o e d] at n;cases n
 have k24:aC x Q H3:=b3;have XD:aC x Q H5:=b3.trans ((aC.of g4).trans b5);have XE:aC x Q H7:=XD.trans ((aC.of g6).trans b7);have U2:aC x Q H9:=XE.trans ((aC.of T).trans N);have U3:aC x Q xT:=U2.trans ((aC.of A).trans (y.trans v));have ZjG:aC x Q sP:=U3.trans ((aC.of r).trans m);have XF:aC x H4 H7:=b5.trans ((aC.of g6).trans b7);have U4:aC x H4 H9:=XF.trans ((aC.of T).trans N);have U5:aC x H4 xT:=U4.trans ((aC.of A).trans (y.trans v));have ZjH:aC x H4 sP:=U5.trans ((aC.of r).trans m);have U6:aC x H6 H9:=b7.trans ((aC.of T).trans N);have U7:aC x H6 xT:=U6.trans ((aC.of A).trans (y.trans v));have ZjI:aC x H6 sP:=U7.trans ((aC.of r).trans m);have U8:aC x H8 xT:=N.trans ((aC.of A).trans (y.trans v));have ZjJ:aC x H8 sP:=U8.trans ((aC.of r).trans m);have T5:aC x qS xT:=y.trans v;have ZiD:aC x qS sP:=T5.trans ((aC.of r).trans m);let l:BL:=⟨x,L,sd,pl,fc,kn,pr,dn,un,.aA,[],[],[],[]⟩;have D8:∀a∈l.fp,a≠x->H a=aE:=λa ha i=>by
  have sT:a∈[x,sd,pl,fc,kn,pr,dn,un]:=by
   have:l.fp=[x,sd,pl,fc,kn,pr,dn,un]:=rfl;rw[this] at ha;exact ha
  simp only[Yp,Y1,fM] at sT;rcases sT with rfl|rfl|rfl|rfl|rfl|rfl|rfl|rfl;·exact absurd rfl i
  ·exact E b1 i n2
  ·exact E i3 i n4
  ·exact E i5 i n6
  ·exact E i7 i R
  ·exact E i9 i D
  ·exact E i12 i p
  ·exact E i14 i j
 refine q l rp rfl D8 j0 ⟨⟨g,Xw⟩,λH' o=>?_,j2 _ _ G t,j4 _ _ W J,j6 _ _ e6 X,.nil,j8 _ _ e8 d8,Xz _ _ qU D7,Xy _ _ Xt MM,.nil,Xx _ _ e15 XA,.nil,.no rfl rfl,?_⟩
 ·refine la.free (fp:=l.fp) (λa ha=>?_) λa u e i=>o _ _ (j0 _ _ e λz=>i (by rw[z];exact Yk)) i;by_cases z:a=x;·rw[z];exact .inr ⟨C,g,hx⟩
  ·exact .inl (D8 a ha z)
 ·show[x,sd,pl,fc,kn,pr,dn,un].Nodup;simp only[Yz,Yp,Y1,fM,gV,L3,Jc,and_true];exact⟨⟨t.symm,J.symm,X.symm,d8.symm,D7.symm,MM.symm,XA.symm⟩,⟨ne G k24 t n4,ne G XD t n6,ne G XE t R,ne G U2 t D,ne G U3 t p,ne G ZjG t j⟩,⟨ne W b5 J n6,ne W XF J R,ne W U4 J D,ne W U5 J p,ne W ZjH J j⟩,⟨ne e6 b7 X R,ne e6 U6 X D,ne e6 U7 X p,ne e6 ZjI X j⟩,⟨ne e8 N d8 D,ne e8 U8 d8 p,ne e8 ZjJ d8 j⟩,⟨ne qU T5 D7 p,ne qU ZiD D7 j⟩,ne Xt m MM j⟩
def strOf:V->ar
 |.str s=>s
 |_=>""
def fV(b:BS)(a:ar):O ar:=(qu b a).map strOf
inductive fG(b:BS)(a:ar):ar->Prop
 |refl:fG b a a
 |step {x y:ar}:fG b a x->y∈fV b x->fG b a y
theorem Rp(i:bP xs u b)(h:a9 (cC b.ps b.fs) [.inr k,.inr a]=Z v):∃p∈b.fs,cU p.2.k=af/\p.2.k=k/\aw b.ps p.2.one=a/\v=.str (aw b.ps p.2.aJ.toNat)/\p.2.aJ.toNat<b.ps.length:=by
 have m:([.inr k,.inr a],v)∈cC b.ps b.fs:=by
  unfold a9 at h;cases x:(cC b.ps b.fs).find? λj=>decide (j.1=[.inr k,.inr a]) with
  |none=>grind
  |some q=>grind
 obtain⟨p,l,e⟩:=Yg.mp m;obtain⟨g,c⟩:=Y5.mp l;injection e with t s;injection t with r o;injection o with n _;have d:p.2.k≠bC:=λz=>by
  rw[z] at c;exact absurd c QK
 refine⟨p,g,c,We r,We n,?_,((i.fg p g).ok.iD d).1.2⟩;rw[←s,i_ d];rfl
def Oo(d:bP xs i b)(a:ar):qu b a=(fV b a).map V.str/\(∀s∈fV b a,s∈b.ps.map (·.1))/\(fV b a).length<=2:=by
 have all:∀v∈qu b a,∃s,v=.str s/\s∈b.ps.map (·.1):=λv c=>by
  obtain⟨k,_,e⟩:=Jl.mp c;obtain⟨p,_,_,_,_,h,l⟩:=Rp d e;exact⟨_,h,IM l⟩
 refine⟨?_,λs g=>?_,?_⟩
 ·unfold fV;rw[Y7];refine(List.map_id _).symm.trans (W8 λv c=>?_);obtain⟨s,rfl,_⟩:=all v c;rfl
 ·obtain⟨v,c,rfl⟩:=Yg.mp g;obtain⟨s,rfl,m⟩:=all v c;exact m
 ·unfold fV qu
  grind
def iZ(a:O ar)(b:O U):O (Key×V):=(a.zip b).map λp=>(.inr p.1,.ref p.2)
theorem P8:∀{b:O ar} {as:O U},b.length=as.length->(iZ b as).map (·.1)=b.map Sum.inr
 |[],[],_=>rfl
 |k::b,a::as,h=>by
  have c:iZ (k::b) (a::as)=(Sum.inr k,V.ref a)::iZ b as:=rfl;rw[c,Wq,P8 (by simpa using h)];rfl
 |[],_::_,h=>rfl
 |_::_,[],h=>by simp at h
theorem P9:∀{b:O ar} {as:O U} (k:ar) (a:U),b.length=as.length->iZ b as++[(.inr k,.ref a)]=iZ (b++[k]) (as++[a])
 |[],[],_,_,_=>rfl
 |q::b,c::as,k,a,h=>by
  have d:iZ (q::b) (c::as)=(Sum.inr q,V.ref c)::iZ b as:=rfl;rw[d,V0,P9 k a (by simpa using h)];rfl
 |[],_::_,_,_,h=>by simp at h
 |_::_,[],_,_,h=>by simp at h
theorem IU:∀{b:O ar} {as:O U} {k:ar},b.length=as.length->k∈b->∃a∈as,a9 (iZ b as) (.inr k)=Z (.ref a)
 |[],_,_,_,h=>by cases h
 |q::b,c::as,k,d,h=>by
  have g:iZ (q::b) (c::as)=(Sum.inr q,V.ref c)::iZ b as:=rfl;rw[g];by_cases e:q=k;·exact⟨c,Yk,gm (by rw[e])⟩
  ·rcases Yp.mp h with h|h;·grind
   ·obtain⟨a,m,v⟩:=IU (by simpa using d) h;exact⟨a,Yx _ m,by rwa[fR (λz=>e (We z))]⟩
 |_::_,[],_,h,_=>by simp at h
def Iu(b:a.length=as.length)(h:k∉a):a9 (iZ a as) (.inr k)=aE:=tO (by
 rw[P8 b];intro z;obtain⟨q,c,e⟩:=Yg.mp z;exact h (by rwa[←We e]))
structure sE(H H6:Hp)(ln:U)(ks:O ar)(as:O U):Prop where
 same:ak H H6
 at_:H6 ln=Z (.dK (iZ ks as))
 len:ks.length=as.length
 lst:∀a∈as,∃us:O V,H6 a=Z (.lst us)/\us.length<=ks.length/\a≠ln
 nd:ks.Nodup
def HR(g:bP xs e b){c:O ar}(d:c.Nodup)(a:∀k∈c,k∈b.ps.map (·.1)):c.length<=b.ps.length:=by
 have:=d.length_le_of_subset a
 grind
theorem BB(c:bP xs e b)(d:a∈b.ps.map (·.1))(h:fG b a z):z∈b.ps.map (·.1):=by
 cases h with
 |refl=>exact d
 |step _ m=>exact(Oo c _).2.1 _ m
inductive Rq(C CL CJ:U)(h:O V)(H:Hp)(Q:VK)(E:XK):Prop
 |mk (l:BL) (b:BS) (d c:O Int) (a:ar) (m:h=[.ref l.h,.str a]) (k:bB H C CL CJ l d c b) (ok:bP d c b) (j:a∈b.ps.map (·.1)) (q:∀(p:U) (e:O ar) (i:O U) (g:Hp),sE H g p e i->(∀z,z∈e↔fG b a z)->Q (.ref p) g)
def zK(b:U)(N:Nat):St->Hp->Nat:=λa H=>(match H b with|some (.dK kvs)=>2*(N-kvs.length)|_=>0)+(match List.getD (α:=bS V) a 3 aE with|some (V.ref nw)=>(match H nw with|some (.lst (_::_))=>1|_=>0)|_=>0)
inductive XG(H:Hp)(b:BS)(a:ar)(h g:U)(l:St)(j:Hp):Prop
 |mk (c d:O ar) (q:O U) (i:U) (o n m:bS V) (v:sE H j g c q) (x:j i=Z (.lst (d.map V.str))) (t:i≠g) (sub:∀k∈d,k∈c) (y:∀k∈c,k∉d->∀p∈fV b k,p∈c) (s:∀k∈c,fG b a k) (u:a∈c) (r:d.length<=64) (e:l=[Z (.ref h),Z (.str a),Z (.ref g),Z (.ref i),o,n,m]):XG H b a h g l j
inductive MN(H:Hp)(b:BS)(a:ar)(h g d c:U)(o m:O ar)(j:Nat)(n:St)(l:Hp):Prop
 |mk (i fs:O ar) (q:O U) (s r:bS V) (v:sE H l g i q) (x:l d=Z (.lst (m.map V.str))) (y:l c=Z (.lst (fs.map V.str))) (u:d≠g/\c≠g/\c≠d) (D:c∉q) (z:i=o++fs) (A:∀k∈m.take j,∀p∈fV b k,p∈i) (t:∀k∈i,fG b a k) (e:n=[Z (.ref h),Z (.str a),Z (.ref g),Z (.ref d),Z (.ref c),s,r]):MN H b a h g d c o m j n l
inductive XH(H:Hp)(b:BS)(a:ar)(h g l d:U)(s q:O ar)(j:Nat)(c:ar)(o:U)(i:Nat)(r:St)(n:Hp):Prop
 |mk (m fs:O ar) (t:O U) (u:bS V) (y:sE H n g m t) (A:n l=Z (.lst (q.map V.str))) (D:n d=Z (.lst (fs.map V.str))) (z:n o=Z (.lst ((fV b c).map V.str))) (x:l≠g/\d≠g/\d≠l/\o≠g/\o≠d) (J:d∉t) (E:m=s++fs) (G:∀k∈q.take j,∀p∈fV b k,p∈m) (F:∀p∈(fV b c).take i,p∈m) (v:∀k∈m,fG b a k) (e:r=[Z (.ref h),Z (.str a),Z (.ref g),Z (.ref l),Z (.ref d),Z (.str c),u]):XH H b a h g l d s q j c o i r n
abbrev uJ:O ar:=["hearth","name"]
def tQ:aP ["hearth","name","lines","newest","further","one","parent"] uJ (aH GN):=.a8
theorem ZbA(F:aM K "lines_up" "lines_up" GN f fd)(Ex:bZ P w K B I 1 "parents_of" C kq (NN C CL CJ)):aF P w K B I aL 2 f fd uJ (Rq C CL CJ):=by
 refine F.o tQ λs H hr h=>?_;obtain⟨l,b,xs,ys,a,rfl,ba,ok,ma,q⟩:=h;refine⟨_,(au (bV 2 tQ.nd (BP (kQ (pv 1) (c6 (aa (pv 1) ae)) BO) rfl rfl (λz=>nomatch z) (Jp rfl))) (au (bV 3 tQ.nd (c6 (aa (pv 1) ae))) (au (HZ gR (yD (K:=K) rfl (yG (pv 3) (λ_=>rfl))) (au (bV 4 tQ.nd (c6 ae)) (au (ia gR rfl (gn (K:=K) rfl (pv 3)) (bc 5 tQ.nd) (av (ia gR rfl (gn (K:=K) rfl (cQ Ex hr (by decide) (pv 0) (aa (pv 5) ae))) (bc 6 tQ.nd) (av (aR (kU (oG (bI hr) (pv 6) (pv 2)) QU) (au (qc (bI hr) (pv 2) (pv 6) (bj tX (dt (bI hr) (pv 2) (pv 5) (λ_ _=>rfl)) (c6 (aa (pv 6) ae)))) (av (cv (ni (K:=K) rfl (kh hP jm jk oF (pv 4) (aa (pv 6) ae)))))) aX))))) (av (bV 3 tQ.nd (pv 4)))))) (av (aG (pv 2)))))),?_⟩;refine nV ?_;intros;have sz:(10000:Nat)<=sizeLine:=by rw[dw];decide
 have im:=ok.m;refine b_ ?_;refine λln XI=>⟨_,rfl,_,rfl,by show 1<=sizeLine;decide,λll H0 XJ g0 hll=>?_⟩;refine⟨g0 _ _ aT,[(.inr a,.ref ll)],rfl,(by show 1<=15;decide),?_⟩;obtain⟨H1,tD⟩:∃H1,H1=upd H0 ln (.dK (qo [] [(.inr a,.ref ll)])):=⟨_,rfl⟩;rw[←tD];have XM:ll≠ln:=λz=>by rw[z,aT] at XJ;cases XJ
 have g1:ak H H1:=λc o e=>by
  have nc:=cE e XI;rw[tD,aN nc];exact g0 _ _ (by rw[aN nc];exact e)
 have XN:sE H H1 ln [a] [ll]:=⟨g1,by rw[tD,aT];rfl,rfl,λc L=>by
  rw[Yq.mp L];exact⟨[.str a],by rw[tD,aN XM];exact hll,Ye _,XM⟩,QS⟩
 refine b_ ?_;refine⟨_,rfl,by show 1<=sizeLine;decide,λnw H2 XO g2 hnw=>?_⟩;have XQ:nw≠ln:=λz=>by rw[z,XN.at_] at XO;cases XO
 have Kx:∀{Ha Hb:Hp} {y:O ar} {as:O U},sE H Ha ln y as->ak Ha Hb->sE H Hb ln y as:=λD g=>⟨D.same.trans g,g _ _ D.at_,D.len,λc L=>by obtain⟨R,e,z,n⟩:=D.lst c L;exact⟨R,g _ _ e,z,n⟩,D.nd⟩;refine je (λJ H6=>∃y as,sE H H6 ln y as/\(∀z,z∈y↔fG b a z)/\∃o3 o4 o5 o6:bS V,J=[Z (.ref l.h),Z (.str a),Z (.ref ln),o3,o4,o5,o6]) (λqX gZ=>?_) ?_
 ·refine H_ (XG H b a l.h ln) (zK ln 100) ⟨[a],[a],[ll],nw,aE,aE,aE,Kx XN g2,hnw,XQ,λ_ h=>h,λk d no=>absurd d no,λk d=>by rw[Yq.mp d];exact .refl,Yk,by show 1<=64;decide,rfl⟩ ?_ ?_
  ·rintro J H6 ⟨y,E,as,nw,o4,o5,o6,D,hn,nn,sub,cl,sd,XR,u5,rfl⟩;have kf:y.length<=64:=Yy (HR ok D.nd λk d=>BB ok ma (sd k d)) im;refine⟨_,rfl,_,.inl ⟨_,aq.of hn,rfl⟩,?_⟩;refine bF (λc=>?_) (λc=>?_)
   ·have ZjK:E≠[]:=λz=>by rw[z] at c;cases c
    have mu0:zK ln 100 [Z (.ref l.h),Z (.str a),Z (.ref ln),Z (.ref nw),o4,o5,o6] H6=2*(100-y.length)+1:=by
     unfold zK;have kl:(iZ y as).length=y.length:=by unfold iZ;rw[Ya,Jf];have:=D.len;omega
     have g3:List.getD (α:=bS V) [Z (.ref l.h),Z (.str a),Z (.ref ln),Z (.ref nw),o4,o5,o6] 3 aE=Z (.ref nw):=rfl;rw[D.at_,g3];dsimp only;rw[hn,kl];cases E with
     |nil=>exact absurd rfl ZjK
     |cons x r=>rfl
    refine b_ ?_;refine⟨by show 0<=sizeLine;exact Yw _,λfu H7 X g7 hfu=>?_⟩;have Aq:=Kx D g7;have fln:fu≠ln:=λz=>by rw[z,D.at_] at X;cases X
    have fnw:fu≠nw:=λz=>by rw[z,hn] at X;cases X
    refine je (MN H b a l.h ln nw fu y E E.length) (λML sX=>?_) ?_
    ·refine⟨_,rfl,nw,rfl,⟨_,aq.of (g7 _ _ hn)⟩,lZ (K:=K) (a:=nw) (xs:=E.map V.str) (MN H b a l.h ln nw fu y E) ⟨y,[],as,o5,o6,Aq,g7 _ _ hn,hfu,⟨nn,fln,fnw⟩,(λz=>by obtain⟨R,e,_⟩:=D.lst _ z;rw[X] at e;cases e),by rw[Wc],λk d=>(by rw[vt] at d;cases d),sd,rfl⟩ (λj J H8 _ ⟨_,_,_,_,_,_,h,_,_,_,_,_,_,_⟩=>aq.of h) ?_ ?_⟩
     ·rintro j v J H8 hj ⟨fH,fs,D9,p5,p6,N,XS,kK,AB,XT,Q,jE,D_,rfl⟩;rw[Yf] at hj;obtain⟨one,e1,rfl⟩:∃one,E[j]?=Z one/\V.str one=v:=by
       cases z:E[j]? with
       |none=>rw[z] at hj;cases hj
       |some o=>rw[z] at hj;exact⟨o,rfl,Yo hj⟩
      have MO:E.take (j+1)=E.take j++[one]:=by rw[Y3,e1];rfl
      have ZkZ:one∈fH:=by rw[Q];exact Ys _ (sub _ (Yj e1))
      have XU:=ba.same N.same;obtain⟨dx8,h8⟩:=XU.obj;obtain⟨pe,pin,Mq⟩:=Oo ok one;refine aU ?_;refine⟨_,rfl,l.h,dx8,_,rfl,h8,rfl,_,rfl,l,b,xs,ys,one,rfl,XU,λpl H9 AD g9 cB=>?_⟩;rw[pe] at cB;have pln:pl≠ln:=λz=>by rw[z,N.at_] at AD;cases AD
      have plf:pl≠fu:=λz=>by rw[z,kK] at AD;cases AD
      refine⟨pl,rfl,⟨_,aq.of cB⟩,lZ (K:=K) (a:=pl) (xs:=(fV b one).map V.str) (XH H b a l.h ln nw fu y E j one pl) ⟨fH,fs,D9,p6,Kx N g9,g9 _ _ XS,g9 _ _ kK,cB,⟨AB.1,AB.2.1,AB.2.2,pln,plf⟩,XT,Q,jE,λp t=>(by rw[vt] at t;cases t),D_,rfl⟩ (λi J HA _ ⟨_,_,_,_,_,_,_,h,_,_,_,_,_,_,_⟩=>aq.of h) ?_ ?_⟩
      ·rintro i v J HA hi ⟨kL,AE,Ea,q6,A,Eb,pG,MP,G,AF,W,Ec,AG,T,rfl⟩;rw[Yf] at hi;obtain⟨par,e2,rfl⟩:∃par,(fV b one)[i]?=Z par/\V.str par=v:=by
        cases z:(fV b one)[i]? with
        |none=>rw[z] at hi;cases hi
        |some o=>rw[z] at hi;exact⟨o,rfl,Yo hi⟩
       have mp:=Yj e2;have XW:(fV b one).take (i+1)=(fV b one).take i++[par]:=by rw[Y3,e2];rfl
       have U9:one∈kL:=by rw[W];exact Ys _ (sub _ (Yj e1))
       have kf9:kL.length<=64:=Yy (HR ok A.nd λk d=>BB ok ma (T k d)) im;refine aU ?_;by_cases uR:par∈kL
       ·obtain⟨ap,_,vp⟩:=IU A.len uR;refine⟨_,rfl,_,rfl,ln,Z (.ref ap),rfl,dm A.at_ vp,_,rfl,bQ (aS ?_)⟩;refine⟨kL,AE,Ea,_,A,Eb,pG,MP,G,AF,W,Ec,λp t=>?_,T,rfl⟩;rw[XW] at t;rcases Yv.mp t with t|t;·exact AG p t
        ·rw[Yq.mp t];exact uR
       ·obtain⟨ao,mao,vo⟩:=IU A.len U9;obtain⟨R,MQ,ul,aon⟩:=A.lst ao mao;refine⟨_,rfl,_,rfl,ln,aE,rfl,dm A.at_ (Iu A.len uR),_,rfl,cS ?_⟩;refine⟨_,rfl,_,rfl,ln,.ref ao,rfl,dm A.at_ vo,_,rfl,by show 1<=sizeLine;decide,λe1l HB neb gB heB=>?_⟩;refine⟨ao,e1l,R,_,rfl,rfl,gB _ _ MQ,heB,by show R.length+1<=sizeLine;omega,λnl HC MR gC hnl=>?_⟩;have XX:=gB.trans gC;refine⟨_,rfl,_,rfl,ln,_,.inr par,rfl,XX _ _ A.at_,rfl,?_,λHD bD eD=>?_⟩;·unfold iZ;rw[Ya,Jf];omega
        rw[l4 _ (Iu A.len uR),P9 par nl A.len] at eD;have U_:nl≠ln:=λz=>by rw[z,gB _ _ A.at_] at MR;cases MR
        have kD:∀{c:U} {o:HO},HA c=Z o->c≠ln->HD c=Z o:=λ{c o} e n=>bD _ _ (XX _ _ e) n;have XY:HA nl=aE:=gB.free MR;refine⟨_,rfl,.inl ⟨rfl,_,aq.of (kD pG G.2.1)⟩,_,rfl,fu,_,_,rfl,rfl,kD pG G.2.1,?_,λHE bE eE=>?_⟩
        ·rw[Ya];have:AE.length<=kL.length:=by rw[W,Yd];exact Nat.le_add_left _ _
         omega
        have kE:∀{c:U} {o:HO},HA c=Z o->c≠ln->c≠fu->HE c=Z o:=λ{c o} e n1 n2=>bE _ _ (kD e n1) n2;have Va:nl≠fu:=λz=>by rw[z,pG] at XY;cases XY
        refine⟨kL++[par],AE++[par],Ea++[nl],_,⟨λc o e=>?_,bE _ _ eD (λz=>G.2.1 z.symm),by rw[Yd,Yd,A.len];rfl,λc L=>?_,?_⟩,kE Eb G.1 (λz=>G.2.2.1 z.symm),?_,kE MP G.2.2.2.1 G.2.2.2.2,G,(λz=>by rcases Yv.mp z with z|z;exact AF z;exact Va (Yq.mp z).symm),by rw[W,Jt],λk d p t=>Ys _ (Ec k d p t),λp t=>?_,λk d=>?_,rfl⟩
        ·have nc:=cE e XI;have ncf:c≠fu:=cE e ((D.same.free X));exact kE (A.same _ _ e) nc ncf
        ·rcases Yv.mp L with L|L
         ·obtain⟨us',e',z',n'⟩:=A.lst c L;have cf:c≠fu:=λz=>AF (by rw[←z];exact L);exact⟨us',kE e' n' cf,by rw[Yd];exact kC z',n'⟩
         ·rw[Yq.mp L];exact⟨R++[.str par],bE _ _ (bD _ _ hnl U_) Va,by rw[Yd,Yd];show R.length+1<=kL.length+1;omega,U_⟩
        ·refine Wj.mpr ⟨A.nd,QS,λu hu v hv z=>?_⟩;have:v=par:=by simpa using hv
         exact uR (by rw[←this,←z];exact hu)
        ·rw[eE,Yi];rfl
        ·rw[XW] at t;rcases Yv.mp t with t|t;·exact Ys _ (AG p t)
         ·rw[Yq.mp t];exact Ym _ Yk
        ·rcases Yv.mp d with d|d;·exact T k d
         ·rw[Yq.mp d];exact .step (T one U9) mp
      ·rintro J HA ⟨kL,AE,Ea,q6,A,Eb,pG,MP,G,AF,W,Ec,AG,T,rfl⟩;rw[Ya,Wg] at AG;refine⟨kL,AE,Ea,_,_,A,Eb,pG,⟨G.1,G.2.1,G.2.2.1⟩,AF,W,λk d=>?_,T,rfl⟩;rw[MO] at d;rcases Yv.mp d with d|d;·exact Ec k d
       ·rw[Yq.mp d];exact AG
     ·rintro J H8 h8;rw[Ya] at h8;exact sX _ _ h8
    ·rintro J H8 ⟨fH,fs,D9,p5,p6,N,XS,kK,AB,XT,Q,jE,D_,rfl⟩;rw[Wg] at jE;refine⟨_,rfl,?_⟩;have kf8:fH.length<=64:=Yy (HR ok N.nd λk d=>BB ok ma (D_ k d)) im;have XZ:fH.length=y.length+fs.length:=by rw[Q,Yd]
     refine⟨⟨fH,fs,D9,fu,_,_,_,N,kK,AB.2.1,λk d=>by rw[Q];exact Ym _ d,λk d no p t=>?_,D_,by rw[Q];exact Ys _ XR,QO,rfl⟩,?_⟩
     ·rw[Q] at d;rcases Yv.mp d with d|d
      ·by_cases z:k∈E;·exact jE k z p t
       ·rw[Q];exact Ys _ (cl k d z p t)
      ·exact absurd d no
     ·rw[mu0];show zK ln 100 [Z (.ref l.h),Z (.str a),Z (.ref ln),Z (.ref fu),Z (.ref fu),p5,p6] H8<_;unfold zK;have kl:(iZ fH D9).length=fH.length:=by unfold iZ;rw[Ya,Jf];have:=N.len;omega
      have g3:List.getD (α:=bS V) [Z (.ref l.h),Z (.str a),Z (.ref ln),Z (.ref fu),Z (.ref fu),p5,p6] 3 aE=Z (.ref fu):=rfl;rw[N.at_,g3];dsimp only;rw[kK,kl];cases fs with
      |nil=>
       show 2*(100-fH.length)+0<_;have:fH.length=y.length+0:=XZ;omega
      |cons x r=>
       show 2*(100-fH.length)+1<_;have:fH.length=y.length+(r.length+1):=XZ;omega
   ·have nse:E=[]:=by
     cases E with
     |nil=>rfl
     |cons x r=>exact absurd rfl c
    subst nse;refine gZ _ _ ⟨y,as,D,λz=>⟨λh=>sd z h,λh=>?_⟩,_,_,_,_,rfl⟩;induction h with
    |refl=>exact XR
    |step _ m ih=>exact cl _ ih (λz=>nomatch z) _ m
  ·rintro J H6 Q1 Q2 mo ⟨v1,w1,v2,w2,h⟩;exact⟨v1,w1,v2,w2,mo _ _ h⟩
 ·rintro J H6 ⟨y,as,D,iff,o3,o4,o5,o6,rfl⟩;exact⟨_,rfl,q ln y as H6 D iff⟩
def f_(a:bL)(i:Nat):ar:=(a.getD i ("","")).2
def oI(d:(a.map (·.1)).Nodup)(c:i<a.length):a9 (fF a) (.inr (aw a i))=Z (.str (f_ a i)):=by
 have b:((fF a).map (·.1)).Nodup:=by
  grind
 refine Rb b (Yg.mpr ⟨a[i],Jz c,?_⟩);unfold aw f_
 grind
def mD(k h t:ar):cm:=if k="mother" then decide (t="woman") else if k="father" then decide (t="man") else decide (k="sibling")||(decide (h="man")&&decide (t="woman"))
inductive Rr(a:O V)(H:Hp)(Q:VK)(E:XK):Prop
 |mk (k h t:ar) (b:a=[.str k,.str h,.str t]) (q:Q (.bl (mD k h t)) H)
structure SU(b:BS)(k a:ar)(o:ar):Prop where
 par:cU k=af->[.inr k,.inr a]∉(cC b.ps b.fs).map (·.1)
 aJ:cU k=a7->keyOf k a (.inr o)∉b.keys/\¬(k="sibling"/\a=o)
inductive SV(C CL CJ:U)(g:O V)(H:Hp)(Q:VK)(E:XK):Prop
 |mk (l:BL) (b:BS) (e d:O Int) (k a o:ar) (i:g=[.ref l.h,.str k,.str a,.str o]) (h:bB H C CL CJ l e d b) (un:SU b k a o) (q:∀c,ak H c->Q (.bl a7) c)
inductive P_(C CL CJ:U)(h:O V)(H:Hp)(Q:VK)(E:XK):Prop
 |mk (l:BL) (b:BS) (d c:O Int) (e a:ar) (k:h=[.ref l.h,.str e,.str a]) (j:bB H C CL CJ l d c b) (ok:bP d c b) (i:a∈b.ps.map (·.1)) (no:¬fG b a e) (q:∀g,ak H g->Q .aA g)
structure wW(xs ys:O Int)(b:BS)(c:Fc):Prop where
 nf:uI xs ys b c
 ns:c.k≠bC
 cA:mD c.k (f_ b.ps c.one) (f_ b.ps c.aJ.toNat)=af
 un:SU b c.k (aw b.ps c.one) (aw b.ps c.aJ.toNat)
 el:cU c.k=af->¬fG b (aw b.ps c.aJ.toNat) (aw b.ps c.one)
inductive Qa(C CL CJ:U)(g:O V)(H:Hp)(Q:VK)(E:XK):Prop
 |mk (l:BL) (b:BS) (d a:O Int) (c:Fc) (j:g=[.ref l.h,.str c.k,.str (aw b.ps c.one),.str (aw b.ps c.aJ.toNat)]) (i:bB H C CL CJ l d a b) (ok:bP d a b) (h:wW d a b c) (q:∀e,ak H e->Q .aA e)
inductive SW(C CL CJ:U)(h:O V)(H:Hp)(Q:VK)(E:XK):Prop
 |mk (l:BL) (b:BS) (d a:O Int) (c:Fc) (k:h=[.ref l.h,.str c.k,.str (aw b.ps c.one),.str (aw b.ps c.aJ.toNat)]) (j:bB H C CL CJ l d a b) (ok:bP d a b) (i:wW d a b c) (dl:b.dn.length<200) (q:∀(g:BL) (e:Hp),bq H e l g->bB e C CL CJ g d a (b.wV c)->Q (.int (b.co:Int)) e)
structure uk(xs ys:O Int)(b:BS)(c:Fc):Prop where
 nf:uI xs ys b c
 sk:c.k=bC
inductive Qb(C CL CJ:U)(g:O V)(H:Hp)(Q:VK)(E:XK):Prop
 |mk (l:BL) (b:BS) (d a:O Int) (c:Fc) (j:g=[.ref l.h,.str (aw b.ps c.one),.int c.aJ]) (i:bB H C CL CJ l d a b) (ok:bP d a b) (h:uk d a b c) (q:∀e,ak H e->Q .aA e)
inductive O4(C CL CJ:U)(e:O V)(H:Hp)(Q:VK)(E:XK):Prop
 |mk (l:BL) (b:BS) (a d:O Int) (i:Int) (j:e=[.ref l.h,.int i]) (h:bB H C CL CJ l a d b) (g:0<=i/\i<(a.length:Int)) (q:∀c,ak H c->Q .aA c)
inductive JZ(C CL CJ:U)(h:O V)(H:Hp)(Q:VK)(E:XK):Prop
 |mk (l:BL) (b:BS) (d a:O Int) (c:Fc) (k:h=[.ref l.h,.str (aw b.ps c.one),.int c.aJ]) (j:bB H C CL CJ l d a b) (ok:bP d a b) (i:uk d a b c) (dl:b.dn.length<200) (q:∀(g:BL) (e:Hp),bq H e l g->bB e C CL CJ g d a (b.wV c)->Q (.int (b.co:Int)) e)
def eO(x y:ar):decide (V.str x=V.str y)=decide (x=y):=by
 grind
abbrev C5:O ar:=["kind","here","there"]
def ZaS:aP C5 C5 (aH Gf):=.a8
theorem ZaT(F:aM K "sides_fit" "sides_fit" Gf f fd)(c:B "MAN"=Z (.str "man" t1))(d:B "WOMAN"=Z (.str "woman" m))(i:B "SIBLING"=Z (.str "sibling" t3)):aF P w K B I aL 1 f fd C5 Rr:=by
 refine F.o ZaS λs H n h=>?_;obtain⟨k,h,t,rfl,q⟩:=h;refine⟨_,(au (aR (bH cD (pv 0) bo) (av (aG (d7 cD (pv 2) (dH (v:=.str "woman") rfl d ⟨_,rfl⟩)))) aX) (au (aR (bH cD (pv 0) bo) (av (aG (d7 cD (pv 2) (dH (v:=.str "man") rfl c ⟨_,rfl⟩)))) aX) (av (aG (ze (d7 cD (pv 0) (dH (v:=.str "sibling") rfl i ⟨_,rfl⟩)) (kW (qk (d7 cD (pv 1) (dH (v:=.str "man") rfl c ⟨_,rfl⟩)) (kW (d7 cD (pv 2) (dH (v:=.str "woman") rfl d ⟨_,rfl⟩)))))))))),?_⟩;unfold mD at q;refine⟨_,rfl,rfl,_,rfl,?_⟩;rw[eO];refine bF (λa=>?_) (λa=>aS ?_)
 ·rw[bt (eB a)] at q;refine⟨_,rfl,rfl,?_⟩;rwa[eO]
 ·rw[bu (λz=>a (dg z))] at q;refine⟨_,rfl,rfl,_,rfl,?_⟩;rw[eO];refine bF (λb=>?_) (λb=>aS ?_)
  ·rw[bt (eB b)] at q;refine⟨_,rfl,rfl,?_⟩;rwa[eO]
  ·rw[bu (λz=>b (dg z))] at q;refine⟨_,rfl,rfl,_,rfl,?_⟩;rw[eO];refine bF (λl=>?_) (λl=>?_);·grind
   ·have j:decide (k="sibling")=a7:=by
     cases e:decide (k="sibling") with
     |true=>grind
     |false=>rfl
    rw[j,DC] at q;refine⟨_,rfl,rfl,_,rfl,?_⟩;rw[eO];refine bF (λg=>?_) (λg=>?_)
    ·rw[g,AA] at q;refine⟨_,rfl,rfl,?_⟩;rwa[eO]
    ·grind
abbrev sF:O ar:=["hearth","kind","one","other"]
def ZJ:aP sF sF (aH Fb):=.a8
theorem Zf9(F:aM K "told_already" "told_already" Fb f fd)(D:B "SIBLING"=Z (.str "sibling" t1))(J:B "PARENTS"=Z (.ref g))(E:∀H,az K H g (jt.map V.str))(L:bZ P w K B I 1 "parent_of" C C1 (Oh C CL CJ))(x:bZ P w K B I 2 "has" C qF (Kv C CL CJ)):aF P w K B I aL 3 f fd sF (SV C CL CJ):=by
 refine F.o ZJ λs H p h=>?_;obtain⟨l,b,n,m,k,a,o,rfl,j,un,q⟩:=h;refine⟨_,(au (aR (iO (nS (K:=K) rfl) (pv 1) (dH (v:=.ref g) rfl J rfl) QU) (av (aG (d7 BH (cQ L p (by decide) (pv 0) (aa (pv 1) (aa (pv 2) ae))) mj))) aX) (av (aG (ze (cQ x p (by decide) (pv 0) (aa (pv 1) (aa (pv 2) (aa (pv 3) ae)))) (kW (qk (d7 cD (pv 1) (dH (v:=.str "sibling") rfl D ⟨_,rfl⟩)) (kW (d7 cD (pv 2) (pv 3))))))))),?_⟩;refine hI ?_;intros;obtain⟨t,r⟩:=j.obj;refine⟨_,rfl,g,_,rfl,.inr (E _),rfl,rfl,_,rfl,?_⟩;try dsimp only
 rw[bu Yh,B3 k];refine bF (λi=>?_) (λi=>aS ?_)
 ·refine⟨_,rfl,l.h,t,_,rfl,r,rfl,_,rfl,_,rfl,l,b,n,m,k,a,rfl,j,λd c=>?_⟩;rw[tO (un.par i)];exact⟨rfl,q d c⟩
 ·have G:cU k=a7:=by
   cases e:cU k with
   |true=>exact absurd e i
   |false=>rfl
  obtain⟨A,y⟩:=un.aJ G;refine⟨_,rfl,l.h,t,_,rfl,r,rfl,_,rfl,_,rfl,_,rfl,l,b,n,m,k,a,.inr o,rfl,j,λ_=>⟨o,rfl⟩,λd c=>⟨_,rfl,?_⟩⟩;have e:b.told (keyOf k a (.inr o))=a7:=by
   cases e:b.told (keyOf k a (.inr o)) with
   |true=>exact absurd ((P2 _ _).mp e) A
   |false=>rfl
  rw[e];refine bQ ?_;refine⟨_,rfl,rfl,_,rfl,?_⟩;rw[eO];refine bF (λu=>?_) (λu=>?_)
  ·refine⟨_,rfl,_,rfl,rfl,?_⟩;rw[eO,gb (λz=>y ⟨eB u,z⟩)];exact q d c
  ·exact q d c
abbrev K8:O ar:=["hearth","child","parent"]
def Nt:aP ["hearth","child","parent","lines"] K8 (aH Fd):=.a8
def ZK(F:aM K "check_elders" "check_elders" Fd f fd)(o:HasFn P w K B I 2 "lines_up" uJ (Rq C CL CJ)):aF P w K B I aL 4 f fd K8 (P_ C CL CJ):=by
 refine F.o Nt λs H c h=>?_;obtain⟨l,b,e,d,k,g,rfl,m,ok,j,no,q⟩:=h;refine⟨_,(au (bV 3 Nt.nd (aZ o c (aa (pv 0) (aa (pv 2) ae)))) (av (aR (kU (Cd (bI c) (pv 1) (pv 3)) QU) gL aX))),?_⟩;refine hI ?_;intros;refine⟨_,rfl,_,rfl,l,b,e,d,g,rfl,m,ok,j,λp r t n a iff=>aU ?_⟩;have i:=λz=>no ((iff k).mp z);exact⟨_,rfl,_,rfl,p,aE,rfl,dm a.at_ (Iu a.len i),_,rfl,bQ (aS (q n a.same))⟩
def ZaU:aP sF sF (aH Ge):=.a8
def ZaV(F:aM K "check_tie" "check_tie" Ge f fd)(y:B "PARENTS"=Z (.ref k))(x:∀H,az K H k (jt.map V.str))(u:HasFn P w K B I 1 "is_tie" ["kind"] IK)(J:HasFn P w K B I 1 "sides_fit" C5 Rr)(n:bZ P w K B I 1 "side_of" C kq (By C CL CJ))(N:HasFn P w K B I 3 "told_already" sF (SV C CL CJ))(L:HasFn P w K B I 4 "check_elders" K8 (P_ C CL CJ)):aF P w K B I aL 6 f fd sF (Qa C CL CJ):=by
 refine F.o ZaU λs H d h=>?_;obtain⟨l,b,i,g,c,rfl,e,ok,a,q⟩:=h;refine⟨_,(au (aR (fS (dN (aZ u d (aa (pv 1) ae)))) gL aX) (au (aR (fS (dN (aZ J d (aa (pv 1) (aa (cQ n d (by decide) (pv 0) (aa (pv 2) ae)) (aa (cQ n d (by decide) (pv 0) (aa (pv 3) ae)) ae)))))) gL aX) (au (aR (dN (aZ N d (aa (pv 0) (aa (pv 1) (aa (pv 2) (aa (pv 3) ae)))))) gL aX) (av (aR (iO (nS (K:=K) rfl) (pv 1) (dH (v:=.ref k) rfl y rfl) QU) (av (cv (aZ L d (aa (pv 0) (aa (pv 2) (aa (pv 3) ae)))))) aX))))),?_⟩;obtain⟨p,o⟩:=e.obj;obtain⟨r,D,Q⟩:=F3 (a.nf.fg.wU a.ns);have z:oU sD c.k=af:=by unfold oU;rw[D];rfl
 have m:=(a.nf.fg.ok.iD a.ns).1.2;refine⟨_,rfl,c.k,rfl,_,rfl,?_⟩;rw[z];refine⟨_,rfl,_,rfl,l.h,p,_,rfl,o,rfl,_,rfl,l,b,i,g,_,_,rfl,e,oI ok.nm a.nf.fg.ok.one,⟨_,rfl,l.h,p,_,rfl,o,rfl,_,rfl,l,b,i,g,_,_,rfl,e,oI ok.nm m,⟨c.k,_,_,rfl,_,rfl,?_⟩⟩⟩;rw[a.cA];refine⟨_,rfl,_,rfl,_,rfl,_,rfl,l,b,i,g,c.k,_,_,rfl,e,a.un,λG j=>⟨_,rfl,bQ (aS ⟨_,rfl,k,_,rfl,.inr (x _),rfl,rfl,_,rfl,?_⟩)⟩⟩;rw[bu Yh,B3 c.k];refine bF (λt=>⟨_,rfl,_,rfl,_,rfl,l,b,i,g,_,_,rfl,e.same j,ok,IM m,a.el t,λE A=>q E (j.trans A)⟩) (λt=>aS (q G j))
abbrev C6:O ar:=["hearth","section"]
def Zy:aP C6 C6 (aH EX):=.a8
def Zz(F:aM K "check_section" "check_section" EX f fd)(c:eK K C)(a:wR K CL)(r:Bl B):aF P w K B I aL 1 f fd C6 (O4 C CL CJ):=by
 refine F.o Zy λs H J h=>?_;obtain⟨l,b,v,u,i,rfl,d,g,q⟩:=h;refine⟨_,(av (aR (iO ZaG (pv 1) (fL FQ rfl r.ke wk (aa (wA rfl (pF K 0) rfl) ae)) QU) gL aX)),?_⟩;obtain⟨n,k⟩:=d.obj;obtain⟨o,L,z,A,x,G,D,E,N,j,_⟩:=d.landAt;refine⟨_,rfl,_,rfl,l.h,C,n,_,_,rfl,k,c.cls,c.wH,rfl,l.L,CL,o,_,_,rfl,j,a.cls,a.t9,rfl,_,rfl,λp t y m e=>?_⟩;refine⟨_,_,_,p,rfl,rfl,e,_,rfl,?_⟩;rw[bt rfl,dg g];exact bQ (aS (q t m))
abbrev C7:O ar:=["hearth","name","section"]
def ZL:aP C7 C7 (aH Fe):=.a8
theorem ZM(F:aM K "check_saying" "check_saying" Fe f fd)(r:B "SAID"=Z (.str "said" t1))(p:bZ P w K B I 1 "side_of" C kq (By C CL CJ))(y:HasFn P w K B I 1 "check_section" C6 (O4 C CL CJ))(o:bZ P w K B I 2 "has" C qF (Kv C CL CJ)):aF P w K B I aL 3 f fd C7 (Qb C CL CJ):=by
 refine F.o ZL λs H j h=>?_;obtain⟨l,b,i,g,c,rfl,d,ok,a,q⟩:=h;refine⟨_,(au (cv (cQ p j (by decide) (pv 0) (aa (pv 1) ae))) (au (cv (aZ y j (aa (pv 0) (aa (pv 2) ae)))) (av (aR (dN (cQ o j (by decide) (pv 0) (aa (dH (v:=.str "said") rfl r ⟨_,rfl⟩) (aa (pv 1) (aa (pv 2) ae))))) gL aX)))),?_⟩;refine me ?_;intros;obtain⟨n,m⟩:=d.obj;refine⟨_,rfl,l.h,n,_,rfl,m,rfl,_,rfl,l,b,i,g,_,_,rfl,d,oI ok.nm a.nf.fg.ok.one,⟨_,rfl,_,rfl,l,b,i,g,c.aJ,rfl,d,a.nf.fg.K6 a.sk,λA k=>⟨_,rfl,l.h,n,_,rfl,k _ _ m,rfl,_,rfl,_,rfl,l,b,i,g,"said",aw b.ps c.one,.inl c.aJ,rfl,d.same k,(λz=>absurd z QK),λx t=>⟨_,rfl,?_⟩⟩⟩⟩;have u:keyOf "said" (aw b.ps c.one) (.inl c.aJ)=eF b.ps c:=by
  unfold eF;rw[kP a.sk,a.sk]
 have e:b.told (keyOf "said" (aw b.ps c.one) (.inl c.aJ))=a7:=by
  cases e:b.told (keyOf "said" (aw b.ps c.one) (.inl c.aJ)) with
  |true=>exact absurd ((P2 _ _).mp e) (by exact u▸a.nf.nk)
  |false=>rfl
 exact e▸bQ (aS (q x (k.trans t)))
def Zal:aP qF qF (aH FY):=.a8
def Zf_(F:aM K "tie" "Hearth.tie" FY f fd)(i:eK K C)(D:HasFn P w K B I 6 "check_tie" sF (Qa C CL CJ))(v:bZ P w K B I 11 "keep" C uF (JY C CL CJ)):aF P w K B I aL 12 f fd qF (SW C CL CJ):=by
 refine F.o Zal λs H g h=>?_;obtain⟨l,b,e,d,c,rfl,p,ok,a,dl,q⟩:=h;refine⟨_,(au (cv (aZ D g (aa (pv 0) (aa (pv 1) (aa (pv 2) (aa (pv 3) ae)))))) (av (aG (cQ v g (by decide) (pv 0) (aa (df (aa (pF K 0) (aa (pv 1) (aa (pv 2) (aa (pv 3) ae))))) ae))))),?_⟩;refine hI ?_;intros;refine⟨_,rfl,_,rfl,_,rfl,_,rfl,l,b,e,d,c,rfl,p,ok,a,λJ m=>?_⟩;have o:=p.same m;obtain⟨n,j⟩:=o.obj;refine⟨_,rfl,l.h,n,_,rfl,j,rfl,_,rfl,l.h,C,n,_,_,rfl,j,i.cls,i.rQ,rfl,_,rfl,_,rfl,_,rfl,by show 4<=sizeLine;decide,λr t E k G=>?_⟩;have z:dC t b.ps r (b.co,c):=by
  show t r=Z (.tup ((dG b.ps b.co c).map kV));unfold dG;rwa[i_ a.ns]
 refine⟨l,b,e,d,r,c,rfl,o.same k,ok,z,a.nf,dl,λx A u y=>q x A (bq.after (m.trans k) u) y⟩
abbrev zL:O ar:=["self","name","section"]
def Zam:aP zL zL (aH FZ):=.a8
def Zga(F:aM K "say" "Hearth.say" FZ f fd)(i:eK K C)(y:B "SAID"=Z (.str "said" t1))(G:HasFn P w K B I 3 "check_saying" C7 (Qb C CL CJ))(x:bZ P w K B I 11 "keep" C uF (JY C CL CJ)):aF P w K B I aL 12 f fd zL (JZ C CL CJ):=by
 refine F.o Zam λs H g h=>?_;obtain⟨l,b,e,d,c,rfl,p,ok,a,dl,q⟩:=h;refine⟨_,(au (cv (aZ G g (aa (pv 0) (aa (pv 1) (aa (pv 2) ae))))) (av (aG (cQ x g (by decide) (pv 0) (aa (df (aa (pF K 0) (aa (dH (v:=.str "said") rfl y ⟨_,rfl⟩) (aa (pv 1) (aa (pv 2) ae))))) ae))))),?_⟩;refine hI ?_;intros;refine⟨_,rfl,_,rfl,_,rfl,l,b,e,d,c,rfl,p,ok,a,λN m=>?_⟩;have o:=p.same m;obtain⟨n,j⟩:=o.obj;refine⟨_,rfl,l.h,n,_,rfl,j,rfl,_,rfl,l.h,C,n,_,_,rfl,j,i.cls,i.rQ,rfl,_,rfl,_,rfl,by show 4<=sizeLine;decide,λr t J k L=>?_⟩;have D:dC t b.ps r (b.co,c):=by
  show t r=Z (.tup ((dG b.ps b.co c).map kV));unfold dG;rwa[kP a.sk,a.sk]
 refine⟨l,b,e,d,r,c,rfl,o.same k,ok,D,a.nf,dl,λz E u A=>q z E (bq.after (m.trans k) u) A⟩
def pH(n:Nat)(d:Int):O Int:=(List.range n).map λi:Nat=>((i:Int)+d) % (n:Int)
def rot_length(n:Nat)(d:Int):(pH n d).length=n:=by simp[pH]
def ZeV(q:0<n)(d:Int):(pH n d).Perm (bG n):=by
 have g:(0:Int)<(n:Int):=QO
 have j:=W7 d (LL g);have p:=Ww d g;obtain⟨r,k⟩:∃r:Nat,d % (n:Int)=(r:Int):=⟨(d % (n:Int)).toNat,(lX (uH j))⟩;have o:r<n:=QO
 have e:pH n d=(bG n).drop r++(bG n).take r:=by
  refine Wu λi=>?_;have a:=fK n;by_cases c:i<n
  ·have b:(pH n d)[i]?=Z (((i:Int)+d) % (n:Int)):=by
    unfold pH;rw[Yf,J1 c];rfl
   have l:((i:Int)+d) % (n:Int)=((r:Int)+(i:Int)) % (n:Int):=by
    rw[Int.add_comm,←Int.emod_add_emod,k]
   rw[b,l];by_cases h:r+i<n;·rw[Wd (by rw[J0,a];omega),List.getElem?_drop,m9 h,L8 QO QO,Ud]
   ·rw[Ju (by rw[J0,a];omega),J0,a,z4 QO,m9 (Nat.sub_lt_of_lt c)];have m:(r:Int)+(i:Int)=((i-(n-r):Nat):Int)+(n:Int)*1:=QO
    rw[m,Int.add_mul_emod_self_left,L8 (ro _) QO]
  ·rw[Y4 (by rw[rot_length];exact eL c),Y4 (by rw[Yd,J0,Wa,a];omega)]
 exact e▸List.perm_append_comm.trans (by rw[List.take_append_drop])
inductive Rt(b:O V)(H:Hp)(Q:VK):Prop
 |mk (c:Int) (n:Nat) (i:b=[.int c,.int (n:Int)]) (h:0<n) (e:n<=60) (g:∀(t:U) (d:O Int) (a:Hp),H t=aE->ak H a->bU a t d->d.Perm (bG n)->Q (.ref t) a):Rt b H Q
def T6:Sp:=λa H Q _=>Rt a H Q
inductive Ru(K:ai)(g:O V)(H:Hp)(Q:VK):Prop
 |mk (a b:U) (c d:O Int) (n:g=[.ref a,.ref b]) (m:az K H a (c.map V.int)) (j:az K H b (d.map V.int)) (k:(∀x∈c,0<=x/\x<d.length)) (i:c.length<=60) (h:∀(l:U) (e:Hp),H l=aE->ak H e->bU e l (bO d c)->Q (.ref l) e):Ru K g H Q
def T7(K:ai):Sp:=λa H Q _=>Ru K a H Q
def Zgb(h:Paired Bd ds [a,b]):∃v w,ds=[v,w]/\Bd v a/\Bd w b:=by
 cases h with|cons d h=>cases h with|cons c h=>
  cases h;exact⟨_,_,rfl,d,c⟩
abbrev K9:O ar:=["_law_cell_here","_law_size"]
def Oq:aP ["_law_cell_here","_law_size","_law_drawn"] K9 (aH Hz):=.a8
def Zcy(F:aM K "_law_row" "_law_row" Hz f fd)(J:HasFn P w K B I 1 "_law_draws" Aj (BM K))(G8:HasFn P w K B I 1 "_law_turn" Mb Se)(E:Bl B):
  aF P w K B I aL 2 f fd K9 T6:=by
 refine F.o Oq λs H y h=>?_;obtain⟨c,n,rfl,Q,r,q⟩:=h;refine⟨_,(au (h_ (i:=2) Oq.nd rfl (kv rfl) (aZ J y (aa (pv 0) (aa (yW (aa aI (aa aI ae))) ae)))) (au (aR (bH cD (a_ (iL K) (pv 2) aI) aI) (av (aG (fL (vJ) rfl E.oK oH (aa (jK (fr:=[("_law_size",1),("_law_drawn",2)]) (cl:=[("_law_size",s.heap.objs.size+1),("_law_drawn",s.heap.objs.size+1+1)]) rfl (.gW ⟨rfl,⟨rfl,trivial⟩⟩ ⟨⟨rfl,.inl rfl,.inl rfl,rfl⟩,⟨⟨rfl,.inl rfl,.inl rfl,rfl⟩,trivial⟩⟩) (pZ rfl E.ke (aa (pv 1) ae)) (λ_ _ _ _=>mf) (λ_ _ _ _=>(bj eS (bj jg (pv 0) (a_ (iL K) (pv 2) aI)) (pv 1)))) ae)))) aX) (av (aG (aZ G8 y (aa (a_ (iL K) (pv 2) aI) (aa (pv 1) ae))))))),?_⟩;refine me ?_;intros;refine⟨_,rfl,QD,λp N=>?_⟩;refine⟨c,p,[3,40320],rfl,aq.of aT,QD,QD,λdl ds H1 nd T v X=>?_⟩;obtain⟨W,a,rfl,⟨a0,a0'⟩,⟨a1,a1'⟩⟩:=Zgb X;have g:=(cF N _).trans T;have m:(0:Int)<(n:Int):=QO
 refine⟨_,rfl,dl,_,0,.int W,rfl,rfl,aq.of v,rfl,rfl,_,rfl,bF (λ_=>?_) (λ_=>aS ?_)⟩
 ·refine⟨_,rfl,(n:Int),rfl,QO,QO,λD A=>yv (λi j e=>ak H1 e/\e D=Z (.lst j)/\j=((pH n a).take i).map V.int) ⟨cF A _,aT,rfl⟩ ?_ ?_⟩
  ·rintro i j e z ⟨b,u,k⟩;rw[Y6] at z;rw[DM];refine k_ (cS ⟨_,rfl,_,rfl,dl,_,1,.int a,rfl,rfl,aq.of (b _ _ v),rfl,_,_,rfl,rfl,_,rfl,_,_,rfl,rfl,m,u,?_,λd o x=>?_,aT,?_⟩)
   ·rw[k,Ya,Wa,rot_length];exact kO QO
   ·rw[aN (cE x A)];exact b d o x
   ·have R:(pH n a)[i]?=Z (((i:Int)+a) % (n:Int)):=by
     unfold pH;rw[Yf,J1 z];rfl
    rw[k,Y3,Ho,R];rfl
  ·rintro j e ⟨b,u,k⟩;rw[Y6,Wz (by rw[rot_length];exact mz _)] at k;refine⟨D,_,rfl,.inl ⟨aq.of u,λt l=>q t (pH n a) _ (g.free (b.free l)) ((g.trans b).trans (cF l _)) ?_ (ZeV Q a)⟩⟩;show upd e t (.tup j) t=_;rw[aT,k]
 ·exact⟨_,rfl,dl,_,1,.int a,rfl,rfl,aq.of v,rfl,_,rfl,a,n,rfl,r,λt G e L b l pm=>q t G e (g.free L) (g.trans b) l pm⟩
abbrev C8:O ar:=["_law_first","_law_then"]
def ZaW:aP C8 C8 (aH Gh):=.a8
def ZaX(F:aM K "_law_after" "_law_after" Gh f fd)(L:Bl B):aF P w K B I aL 1 f fd C8 (T7 K):=by
 refine F.o ZaW λs H N h=>?_;obtain⟨a,b,A,y,rfl,r,J,E,Q,q⟩:=h;refine⟨_,(av (aG (fL (vJ) rfl L.oK oH (aa (jK (x:="_law_one") (fr:=[("_law_then",1)]) (cl:=[("_law_then",s.heap.objs.size+1)]) rfl (.gW ⟨rfl,trivial⟩ ⟨⟨rfl,.inl rfl,.inl rfl,rfl⟩,trivial⟩) (IZ (pv 0)) (λ_ _ _ _=>mf) (λ_ _ _ _=>(a_ (iT K) (pv 1) (pv 0)))) ae)))),?_⟩;refine⟨_,rfl,a,rfl,⟨_,r⟩,λD p=>Br (λi e g=>ak H g/\g D=Z (.lst e)/\e=((bO y A).take i).map V.int) ⟨cF p _,aT,rfl⟩ (λi e g _ ⟨c,_,_⟩=>c.jV r) ?_ ?_⟩
 ·rintro i v e g G ⟨c,k,j⟩;obtain⟨z,rfl,m⟩:=m_ G;have u:=E z (Yj m);refine k_ (cS ⟨_,rfl,_,rfl,b,_,_,_,rfl,rfl,c.jV J,oP u.1 u.2,k,?_,λd o l=>?_,aT,?_⟩)
  ·rw[j,Ya,Wa,tR];exact kO QO
  ·rw[aN (cE l p)];exact c d o l
  ·rw[j,Y3,Ho];unfold bO;rw[Yf,m];rfl
 ·rintro e g ⟨c,k,j⟩;refine⟨D,_,rfl,.inl ⟨aq.of k,λt n=>q t _ (c.free n) (c.trans (cF n _)) ?_⟩⟩;show upd g t (.tup e) t=_;rw[aT,j,Ya,Wz (by rw[tR];exact mz _)]
inductive Rv(d:O V)(H:Hp)(Q:VK):Prop
 |mk (a:U) (b:O Int) (j:d=[.ref a]) (i:bU H a b) (g:b.length<64) (h:full b=af) (e:∀(t:U) (c:Hp),H t=aE->ak H c->bU c t (inv b)->Q (.ref t) c):Rv d H Q
def Ky:Sp:=λa H Q _=>Rv a H Q
abbrev zM:O ar:=["_law_turn_here"]
def Z2:aP zM zM (aH Fu):=.a8
def Zcz(F:aM K "_law_inverse" "_law_inverse" Fu f fd)(n:Bl B):aF P w K B I aL 1 f fd zM Ky:=by
 refine F.o Z2 λs H G h=>?_;obtain⟨a,c,rfl,y,E,A,q⟩:=h;refine⟨_,(av (aG (fL (vJ) rfl n.oK oH (aa (jK (x:="_law_at") (fr:=[("_law_turn_here",0)]) (cl:=[("_law_turn_here",s.heap.objs.size+1)]) rfl (.gW ⟨rfl,trivial⟩ ⟨⟨rfl,.inl rfl,.inl rfl,rfl⟩,trivial⟩) (pZ rfl n.ke (aa (di K n (pv 0)) ae)) (λ_ _ _ _=>mf) (λ_ _ _ _=>(NH (pv 1) (aa (pv 0) ae)))) ae)))),?_⟩;have j:(c.map V.int).length=c.length:=Ya _;refine⟨_,rfl,a,_,rfl,.inr (az.of y),_,rfl,by rw[j];omega,by rw[j];omega,λD v=>yv
   (λi b g=>ak H g/\g D=Z (.lst b)/\b=((inv c).take i).map V.int) ⟨cF v _,aT,rfl⟩ ?_ ?_⟩
 ·rintro i b g l ⟨e,m,k⟩;rw[Y6,j] at l;rw[DM];have r:=Bw (PH A l);have z:=e _ _ y;refine k_ (cS ⟨_,rfl,a,c,rfl,z,_,rfl,(i:Int),lq (i:Int) c,rfl,z,r.1,r.2,m,?_,λd o p=>?_,aT,?_⟩)
  ·rw[k,Ya,Wa,gk];exact kO QO
  ·rw[aN (cE p v)];exact e d o p
  ·rw[k,PK l,Yi];rfl
 ·rintro b g ⟨e,m,k⟩;refine⟨D,_,rfl,.inl ⟨aq.of m,λt u=>q t _ (e.free u) (e.trans (cF u _)) ?_⟩⟩;show upd g t (.tup b) t=_;rw[aT,k,Y6,j,Wz (by rw[gk];exact mz _)]
structure jT(H0 H:Hp)(ps:bL)(d:U)(b:Nat)(kvs:O (Key×V))(L:Nat->O (Nat×O Int)):Prop where
 dict:H d=Z (.dK kvs)
 len:kvs.length<=b
 new:H0 d=aE
 at_:∀x:Nat,x<ps.length->(a9 kvs (.inr (aw ps x))=aE/\L x=[])\/∃(a:U) (es:O U),a9 kvs (.inr (aw ps x))=Z (.ref a)/\H0 a=aE/\H a=Z (.lst (es.map V.ref))/\(L x).length<=b/\Paired (λe (p:Nat×O Int)=>∃u,H e=Z (.tup [.str (aw ps p.1),.ref u])/\bU H u p.2) es (L x)
 inj:∀(x y:Nat) (a:U),x<ps.length->y<ps.length->a9 kvs (.inr (aw ps x))=Z (.ref a)->a9 kvs (.inr (aw ps y))=Z (.ref a)->x=y
def yS(b:(a.map (·.1)).Nodup)(d:i<a.length)(c:j<a.length)(e:aw a i=aw a j):i=j:=by
 have g:=tZ b d;rw[e,tZ b c] at g
 grind
def jT.same(g:ak H s)(h:jT r H e d b c L):jT r s e d b c L:=by
 refine⟨g _ _ h.dict,h.len,h.new,λx i=>?_,h.inj⟩;rcases h.at_ x i with z|⟨a,o,n,m,l,k,j⟩;·exact .inl z
 ·exact .inr ⟨a,o,n,m,g _ _ l,k,L2.Paired.bA j λ_ _ ⟨u,q,p⟩=>⟨u,g _ _ q,g _ _ p⟩⟩
def jT.app(h:jT H0 H i d b l L)(hx:x<i.length)(J:a9 l (.inr (aw i x))=Z (.ref a))(j:H a=Z (.lst ys))(P:H e=Z (.tup [.str (aw i y),.ref u]))(N:bU H u t)(k:aC a H r)(X:r a=Z (.lst (ys++[.ref e]))):jT H0 r i d (b+1) l (uC L x (y,t)):=by
 have m:∀{c:U} {G:O V},H c=Z (.tup G)->c≠a:=λ{c G} hc=>eI hc j (λz=>by cases z);refine⟨k _ _ h.dict (eI h.dict j (λz=>by cases z)),by have:=h.len;exact kC this,h.new,λz s=>?_,h.inj⟩;have R:∀{g:O U} {qs:O (Nat×O Int)},Paired (λe (p:Nat×O Int)=>∃u,H e=Z (.tup [.str (aw i p.1),.ref u])/\bU H u p.2) g qs->Paired (λe (p:Nat×O Int)=>∃u,r e=Z (.tup [.str (aw i p.1),.ref u])/\bU r u p.2) g qs:=λ{g qs} hp=>L2.Paired.bA hp λ_ _ ⟨u,W,T⟩=>⟨u,k _ _ W (m W),k _ _ T (m T)⟩;by_cases E:z=x
 ·subst E;rcases h.at_ z s with⟨F,_⟩|⟨o,g,n,D,A,Q,v⟩;·grind
  ·obtain rfl:o=a:=V.ref.inj (Yo (n.symm.trans J));rw[A] at j;obtain rfl:g.map V.ref=ys:=by injection j with j;injection j
   refine .inr ⟨o,g++[e],n,D,by rw[X,Yi];rfl,?_,?_⟩;·unfold uC;rw[bt rfl,Yd];show(L z).length+1<=b+1;omega
   ·unfold uC;rw[bt rfl];exact jG ⟨u,k _ _ P (m P),k _ _ (N) (m (N))⟩ (R v)
 ·unfold uC;rw[bu E];rcases h.at_ z s with F|⟨o,g,n,D,A,Q,v⟩;·exact .inl F
  ·refine .inr ⟨o,g,n,D,k _ _ A (λq=>E (h.inj z x a s hx (by rwa[←q]) J)),(kC Q),R v⟩
def jT.neu(hb:jT H0 Hb l d b i L)(A:(l.map (·.1)).Nodup)(E:x<l.length)(g:ak Hb H)(np:Hb p=aE)(Ed:H0 p=aE)(N:a9 i (.inr (aw l x))=aE)(X:H p=Z (.lst []))(F:aC d H H')(Dj:H' d=Z (.dK (i++[(.inr (aw l x),.ref p)]))):jT H0 H' l d (b+1) (i++[(.inr (aw l x),.ref p)]) L:=by
 have h:=hb.same g;have T:∀{c:U} {r:O V},H c=Z (.tup r)->c≠d:=λ{c r} P=>eI P h.dict (λz=>by cases z);have W:∀{c:U} {r:O V},H c=Z (.lst r)->c≠d:=λ{c r} P=>eI P h.dict (λz=>by cases z);refine⟨Dj,by rw[Yd];have:=h.len;show i.length+1<=b+1;omega,h.new,λz v=>?_,λo n a J D k j=>?_⟩
 ·rw[v_ N];by_cases Q:z=x
  ·rw[bt (by rw[Q])];rcases h.at_ z v with⟨_,n⟩|⟨a1,R,m,_⟩;·exact .inr ⟨p,[],rfl,Ed,F _ _ X (W X),by exact n▸Yw _,by exact n▸.nil⟩
   ·rw[Q,N] at m;cases m
  ·rw[bu (λq=>Q (yS A v E (We q)))];rcases h.at_ z v with o|⟨a1,R,m,h2,y,h4,h5⟩;·exact .inl o
   ·exact .inr ⟨a1,R,m,h2,F _ _ y (W y),(kC h4),L2.Paired.bA h5 λ_ _ ⟨u,k,j⟩=>⟨u,F _ _ k (T k),F _ _ j (T j)⟩⟩
 ·have t:∀{z:Nat},z<l.length->a9 i (.inr (aw l z))=Z (.ref p)->False:=λ{z} v e=>by
   rcases hb.at_ z v with⟨o,_⟩|⟨a1,R,m,h2,y,_⟩;·rw[o] at e;cases e
   ·rw[e] at m;obtain rfl:p=a1:=V.ref.inj (Yo m);rw[np] at y;cases y
  rw[v_ N] at k j;by_cases G:o=x
  ·by_cases s:n=x;·rw[G,s]
   ·rw[bt (by rw[G])] at k;rw[bu (λq=>s (yS A D E (We q))),←k] at j;exact absurd j (t D)
  ·rw[bu (λq=>G (yS A J E (We q)))] at k;by_cases s:n=x
   ·rw[bt (by rw[s])] at j;rw[←j] at k;exact absurd k (t J)
   ·rw[bu (λq=>s (yS A D E (We q)))] at j;exact h.inj _ _ a J D k j
def O5(h2:∀H Q,Q (.ref d) H->fU 2 σ H Q)(nd:(ps.map (·.1)).Nodup)(F:x<ps.length)(hi:∀H Q,Q (.str (aw ps x)) H->fU i σ H Q)(hk:∀H Q,Q (.str (aw ps y)) H->fU k σ H Q)(h:jT n H ps d b m L)(g:ak n H)(lb:b<1000)
  (hx:∀(D:Hp) (Q1:VK),ak n D->(∀(u:U) (H2:Hp),ak D H2->bU H2 u t->Q1 (.ref u) H2)->tx σ D Q1)(q:∀(v:V) (W:O (Key×V)) (X:Hp),ak n X->jT n X ps d (b+2) W (uC L x (y,t))->Q v X):zY K "list" Pq (Ia (fU 2) (fU i) (TM jr)) (ib (zo (ib (fU k) (ib tx jr))) jr) σ H Q:=by
 have sz:(10000:Nat)<=sizeLine:=by rw[dw];decide
 have ln:=h.len;unfold zY Ia;refine h2 _ _ ⟨d,rfl,.inl ⟨_,.inl h.dict⟩,hi _ _ ⟨by show 0<=sizeLine;exact Yw _,λp D np j J=>⟨m,.inr (aw ps x),j _ _ h.dict,rfl,QO,λv r=>?_,λr H2 T e2=>?_⟩⟩⟩
 ·rcases h.at_ x F with⟨z1,_⟩|⟨a,es,h3,h4,P,h6,h7⟩;·grind
  obtain rfl:v=.ref a:=Yo (r.symm.trans h3);have pl:=cK h7;refine⟨.inl ⟨rfl,_,aq.of (j _ _ P)⟩,?_⟩;unfold ib zo;refine hk _ _ (hx _ _ (g.trans j) λu H2 g2 G=>⟨by show 2<=sizeLine;decide,λe H3 ne s N=>?_⟩);have A:=(j.trans g2).trans s;refine⟨a,_,_,rfl,rfl,A _ _ P,by rw[Ya];omega,λH4 b4 e4=>?_⟩;have l:=(h.same A).app F h3 (A _ _ P) N (s _ _ G) b4 e4;exact q _ _ H4 (λc o e=>b4 _ _ (A _ _ (g _ _ e)) (cE e h4)) ⟨l.dict,by have:=l.len;exact kC this,l.new,λz hz=>by
   rcases l.at_ z hz with w|⟨a,es,w1,w2,w3,w4,w5⟩;·exact .inl w
   ·exact .inr ⟨a,es,w1,w2,w3,(kC w4),w5⟩,l.inj⟩
 ·have Ed:=g.free np;have R:=T _ _ J (eI J (j _ _ h.dict) (λz=>by cases z));have gg:ak n H2:=λc o e=>T _ _ (j _ _ (g _ _ e)) (cE e h.new);refine⟨.inl ⟨rfl,_,aq.of R⟩,?_⟩;unfold ib zo;refine hk _ _ (hx _ _ gg λu H3 s G=>⟨by show 2<=sizeLine;decide,λe H4 ne g4 N=>?_⟩);have E:=s.trans g4;refine⟨p,_,_,rfl,rfl,E _ _ R,by show 0<sizeLine;decide,λH5 b5 e5=>?_⟩;have vx:a9 (m++[(Sum.inr (aw ps x),V.ref p)]) (.inr (aw ps x))=Z (.ref p):=by rw[v_ r,bt rfl]
  exact q _ _ H5 (λc o e=>b5 _ _ (E _ _ (gg _ _ e)) (cE e Ed)) (((h.neu nd F j np Ed r J T e2).same E).app F vx (E _ _ R) N (g4 _ _ G) b5 e5)
def MS(H:Hp)(b:bL)(a:U)(c:Fc):Prop:=∃z:Int,H a=Z (.tup [.int z,.str c.k,.str (aw b c.one),kV (bp b c)])
def FL(H:Hp)(b:bL)(c:U)(F:O Fc):Prop:=∃a:O U,H c=Z (.lst (a.map V.ref))/\Paired (MS H b) a F
abbrev wL(m f w s:U):O (Key×V):=[(.inr "mother",.ref m),(.inr "father",.ref f),(.inr "wed",.ref w),(.inr "sibling",.ref s)]
def gc(H:Hp)(c:U)(a b:O Int):Prop:=∃m f w s:U,H c=Z (.dK (wL m f w s))/\bU H m (inv a)/\bU H f (inv (bO a b))/\bU H w b/\bU H s (bG a.length)
def FL.same(g:ak H j)(h:FL H a d F):FL j a d F:=by
 obtain⟨i,c,b⟩:=h;exact⟨i,g _ _ c,L2.Paired.bA b λ_ _ ⟨z,e⟩=>⟨z,g _ _ e⟩⟩
def gc.same(g:ak H j)(h:gc H a xs ys):gc j a xs ys:=by
 obtain⟨m,f,w,s,i,e,d,c,b⟩:=h;exact⟨m,f,w,s,g _ _ i,g _ _ e,g _ _ d,g _ _ c,g _ _ b⟩
def gc.get(h:gc H j xs i)(m:(k,tn)∈sf xs i):∃e u,H j=Z (.dK e)/\a9 e (.inr k)=Z (.ref u)/\bU H u tn:=by
 obtain⟨a,b,c,d,g,p,o,n,l⟩:=h;simp[Yp,Y1,fM] at m;rcases m with⟨rfl,rfl⟩|⟨rfl,rfl⟩|⟨rfl,rfl⟩|⟨rfl,rfl⟩;·exact⟨_,a,g,rfl,p⟩
 ·exact⟨_,b,g,rfl,o⟩
 ·exact⟨_,c,g,rfl,n⟩
 ·exact⟨_,d,g,rfl,l⟩
inductive SX(k:O V)(H:Hp)(Q:VK)(E:XK):Prop
 |mk (j i:U) (a:bL) (b h:O Int) (F:O Fc) (s:k=[.ref j,.ref i]) (r:FL H a j F) (m:gc H i b h) (l:(a.map (·.1)).Nodup) (p:∀c∈F,fC b h a.length c) (q:b.length<=8) (o:F.length<=64) (n:∀(d:U) (e:O (Key×V)) (L:Nat->O (Nat×O Int)) (g:Hp),ak H g->jT H g a d 300 e L->(∀x y t,(y,t)∈L x↔gu F x y t)->Q (.ref d) g)
abbrev K_:O ar:=["_law_facts","_law_turns_here"]
def vW:aP ["_law_facts","_law_turns_here","_law_found","_law_number","_law_kind","_law_one","_law_other"] K_ (aH GQ):=.a8
theorem Zgc(F:aM K "_law_nets" "_law_nets" GQ f fd)(tM:HasFn P w K B I 1 "_law_inverse" zM Ky)(bl:Bl B):aF P w K B I aL 2 f fd K_ SX:=by
 refine F.o vW λs H hr h=>?_;obtain⟨R,J,D,xs,ys,F,rfl,lO,ht,lQ,fgA,n8,Eg,q⟩:=h;refine⟨_,(au (bV 2 vW.nd tS) (au (ia gR rfl (gn (K:=K) rfl (pv 0)) (gO (K:=K) (n:=4) rfl rfl (bw (bc 3 vW.nd) (bw (bc 4 vW.nd) (bw (bc 5 vW.nd) (bw (bc 6 vW.nd) gM))))) (av (aR (bH nv (pv 4) bo) (au (cv (ni (K:=K) rfl (kh hP jm jk oF (N9 (pv 2) (pv 5) (c6 ae) ⟨rfl,rfl,rfl,rfl⟩) (aa (df (aa (pv 6) (aa (dt (bI hr) (pv 1) (pv 4) (λ_ _=>rfl)) ae))) ae)))) (av (cv (ni (K:=K) rfl (kh hP jm jk oF (N9 (pv 2) (pv 6) (c6 ae) ⟨rfl,rfl,rfl,rfl⟩) (aa (df (aa (pv 5) (aa (aZ tM hr (aa (dt (bI hr) (pv 1) (pv 4) (λ_ _=>rfl)) ae)) ae))) ae)))))) aX))) (av (aG (pv 2))))),?_⟩;refine me ?_;intros;refine b_ ?_;refine λd H1 nd g1 hd=>?_;obtain⟨as,dz,dM⟩:=id lO;have al:=cK dM;have sz:(10000:Nat)<=sizeLine:=by rw[dw];decide
 refine je (λl k=>∃(i:O (Key×V)) (L:Nat->O (Nat×O Int)) (r p o m:bS V),ak H k/\jT H k D d 300 i L/\(∀x y t,(y,t)∈L x↔gu F x y t)/\l=[Z (.ref R),Z (.ref J),Z (.ref d),r,p,o,m]) (λqX gZ=>?_) ?_
 ·refine⟨_,rfl,R,rfl,⟨_,aq.of (g1 _ _ dz)⟩,lZ (K:=K) (a:=R) (xs:=as.map V.ref) (λj l k=>∃(i:O (Key×V)) (L:Nat->O (Nat×O Int)) (r p o m:bS V),ak H k/\jT H k D d (4*j) i L/\(∀x y t,(y,t)∈L x↔gu (F.take j) x y t)/\l=[Z (.ref R),Z (.ref J),Z (.ref d),r,p,o,m])
   ⟨[],λ_=>[],aE,aE,aE,aE,g1,⟨hd,Ye _,nd,λx _=>.inl ⟨rfl,rfl⟩,λ_ _ _ _ _ e=>(nomatch e)⟩,λx y t=>⟨λz=>(nomatch z),λz=>absurd z ZeG⟩,rfl⟩
   (λj l k _ ⟨_,_,_,_,_,_,g,_⟩=>aq.of (g _ _ dz)) ?_ ?_⟩
  ·rintro j v l k E ⟨i,L,r,p,o,m,g,ne,A,rfl⟩;rw[Yf] at E;obtain⟨T,ec,rfl⟩:∃T,as[j]?=Z T/\V.ref T=v:=by
    cases e:as[j]? with
    |none=>rw[e] at E;cases E
    |some c=>rw[e] at E;exact⟨c,rfl,Yo E⟩
   obtain⟨c,jB,z,hc⟩:=gK dM ec;have mc:=Yj jB;have fg:=fgA c mc;have ok:=fg.ok;have jl:j<F.length:=(Yl.mp jB).1;have tF:F.take (j+1)=F.take j++[c]:=by rw[Y3,jB];rfl
   refine⟨T,_,rfl,az.of (g _ _ hc),rfl,_,_,rfl,aU ⟨_,_,rfl,aU ⟨_,_,rfl,aU ⟨_,_,rfl,aU ⟨rfl,?_⟩⟩⟩⟩⟩;have ev:∀b:cm,decide (V.str c.k=V.str bC)=b->(b=af↔c.k=bC):=λb e=>by
    rw[←e,eR];exact⟨V.str.inj,λz=>by rw[z]⟩
   refine⟨_,rfl,rfl,_,rfl,?_⟩;refine bF (λG=>?_) (λG=>aS ?_)
   ·have ns:c.k≠bC:=λz=>by
     rw[(ev _ rfl).mpr z] at G;cases G
    obtain⟨tk,u,eQ,vu,hu⟩:=ht.get (fg.wU ns);obtain⟨⟨o0,om⟩,ft,tl⟩:=ok.iD ns;have eo:kV (bp D c)=.str (aw D c.aJ.toNat):=by rw[i_ ns];rfl
    refine O5 (ps:=D) (x:=c.one) (y:=c.aJ.toNat) (t:=c.tn) (λ_ _ h=>⟨_,rfl,h⟩) lQ ok.one (λ_ _ h=>⟨_,rfl,h⟩) (λ_ _ h=>⟨_,rfl,by rw[eo];exact h⟩) ne g QO (λH2 Q2 Q k2=>⟨_,rfl,_,rfl,J,.ref u,rfl,dm (Q _ _ eQ) vu,k2 u H2 (ak.refl _) (Q _ _ hu)⟩) λv2 Zlo H2 Q n2=>?_;refine O5 (ps:=D) (x:=c.aJ.toNat) (y:=c.one) (t:=inv c.tn) (λ_ _ h=>⟨_,rfl,h⟩) lQ om (λ_ _ h=>⟨_,rfl,by rw[eo];exact h⟩) (λ_ _ h=>⟨_,rfl,h⟩) n2 Q QO (λH3 Q3 N k3=>⟨_,rfl,_,rfl,J,.ref u,rfl,dm (N _ _ eQ) vu,u,c.tn,rfl,N _ _ hu,QO,ft,λw H4 _ g4 hw=>k3 w H4 g4 hw⟩) λv3 ZjM H3 N n3=>?_;refine⟨ZjM,_,_,_,_,_,N,n3,λx y t=>?_,rfl⟩;rw[tF,rO,PY,PY,A]
    grind
   ·have sd:c.k=bC:=by
     by_cases z:c.k=bC;·exact z
     ·cases e:decide (V.str c.k=V.str bC) with
      |true=>exact absurd ((ev _ e).mp rfl) z
      |false=>rw[e] at G;exact absurd rfl G
    refine⟨i,L,_,_,_,_,g,⟨ne.dict,by have:=ne.len;exact yF this,ne.new,λz hz=>?_,ne.inj⟩,λx y t=>?_,rfl⟩
    ·rcases ne.at_ z hz with w|⟨a,es,w1,w2,X,w4,W⟩;·exact .inl w
     ·exact .inr ⟨a,es,w1,w2,X,(yF w4),W⟩
    ·rw[tF,rO,A];exact⟨.inl,λh=>h.elim id λz=>absurd sd z.1⟩
  ·rintro l k ⟨i,L,r,p,o,m,g,ne,A,rfl⟩;rw[Ya,al] at ne;rw[Ya,al,Wg] at A;refine gZ _ _ ⟨i,L,r,p,o,m,g,⟨ne.dict,by have:=ne.len;omega,ne.new,λz hz=>?_,ne.inj⟩,A,rfl⟩;rcases ne.at_ z hz with w|⟨a,es,w1,w2,X,w4,W⟩;·exact .inl w
   ·exact .inr ⟨a,es,w1,w2,X,QO,W⟩
 rintro l k ⟨i,L,r,p,o,m,g,ne,A,rfl⟩;exact⟨_,rfl,q d i L k g ne A⟩
def SY{t:O Int}{z:Int}(a:0<=z)(h:z<t.length):dO (t.map V.int) z=Z (.int (ap t z)):=oP a h
def gN(a:bL)(g:O (Nat×Int)):O (Key×V):=g.map λp=>(.inr (aw a p.1),.int p.2)
def rq(a:bL)(g:O (Nat×Int)):O V:=g.map λp=>.str (aw a p.1)
def ZhL(a:bL)(g:O (Nat×Int)):(gN a g).length=g.length:=Ya _
def Rw(a:bL)(g:O (Nat×Int)):(rq a g).length=g.length:=Ya _
theorem r_(b:(a.map (·.1)).Nodup)(c:k<a.length):∀{g:O (Nat×Int)},(∀p∈g,p.1<a.length)->a9 (gN a g) (.inr (aw a k))=(g.lookup k).map V.int
 |[],_=>rfl
 |p::g,lt=>by
  have h:gN a (p::g)=(Sum.inr (aw a p.1),V.int p.2)::gN a g:=rfl;rw[h,W4];by_cases e:k=p.1
  ·rw[beq_iff_eq.mpr e,gm (by rw[e])];rfl
  ·rw[beq_eq_false_iff_ne.mpr e,fR (λz=>e (yS b c (lt p Yk) (We (show(Sum.inr (aw a p.1):Key)=Sum.inr (aw a k) from z)).symm))];exact r_ b c λq d=>lt q (Yx _ d)
def Zgd{r k:Nat}(h:g[r]?=Z (k,v)):dO (rq a g) (r:Int)=Z (.str (aw a k)):=jb (by unfold rq;rw[Yf,h];rfl)
def xX(b:bL)(d l k n:U)(x:Nat)(a:Int)(r:Nat)(g e c j m i h:bS V):St:=[Z (.ref d),Z (.ref l),Z (.str (aw b x)),Z (.int a),Z (.ref k),Z (.ref n),Z (.int (r:Int)),g,e,c,j,m,i,h]
def muC(m:Nat):St->Hp->Nat:=λa _=>match List.getD (α:=bS V) a 6 aE with|some (V.int z)=>m+1-z.toNat|_=>0
inductive T8(H:Hp)(F:O Fc)(L:Nat->O (Nat×O Int))(n:Nat)(b:bL)(d k e h:U)(x:Nat)(a:Int)(i:St)(c:Hp):Prop
 |mk (g:O (Nat×Int)) (r:Nat) (o m l:bS V) (y:ak H c) (v:c e=Z (.dK (gN b g))) (t:c h=Z (.lst (rq b g))) (u:BF F n b.length x a g) (s:r<=g.length) (q:(∀j,j<r->Cl L g j)) (p:i=xX b d k e h x a r o m l aE aE aE aE):T8 H F L n b d k e h x a i c
def ZjN(H:Hp)(F:O Fc)(L:Nat->O (Nat×O Int))(n:Nat)(c:bL)(d g e h:U)(x:Nat)(a:Int)(b:St)(i:Hp):Prop:=T8 H F L n c d g e h x a b i
inductive T9(H:Hp)(F:O Fc)(L:Nat->O (Nat×O Int))(n:Nat)(b:bL)(d j c k:U)(x:Nat)(a:Int)(h:St)(e:Hp):Prop
 |mk (g:O (Nat×Int)) (r:Nat) (o m l:bS V) (u:ak H e) (t:e c=Z (.dK (gN b g))) (q:BF F n b.length x a g) (s:(∀i,i<g.length->Cl L g i)) (p:h=xX b d j c k x a r o m l aE aE aE aE):T9 H F L n b d j c k x a h e
def ZjO(H:Hp)(F:O Fc)(L:Nat->O (Nat×O Int))(n:Nat)(c:bL)(d g e h:U)(x:Nat)(a:Int)(b:St)(i:Hp):Prop:=T9 H F L n c d g e h x a b i
inductive Vb(H:Hp)(F:O Fc)(L:Nat->O (Nat×O Int))(n:Nat)(b:bL)(d m h i:U)(x:Nat)(a:Int)(r k:Nat)(v:Int)(g:O (Nat×Int))(p:U)(o:O U)(j:Nat)(l:St)(e:Hp):Prop
 |mk (c s:O (Nat×Int)) (u t:bS V) (N:ak H e) (J:e p=Z (.lst (o.map V.ref))) (E:e h=Z (.dK (gN b c))) (G:e i=Z (.lst (rq b c))) (D:BF F n b.length x a c) (A:c=g++s) (z:(∀q∈(L k).take j,c.lookup q.1=Z (ap q.2 v))) (y:l=xX b d m h i x a r (Z (.str (aw b k))) u t aE aE aE aE):Vb H F L n b d m h i x a r k v g p o j l e
def CIn(H:Hp)(F:O Fc)(L:Nat->O (Nat×O Int))(n:Nat)(c:bL)(d h e l:U)(x:Nat)(a:Int)(r k:Nat)(v:Int)(g:O (Nat×Int))(m:U)(i:O U)(j:Nat)(b:St)(o:Hp):Prop:=Vb H F L n c d h e l x a r k v g m i j b o
inductive T_(H:Hp)(F:O Fc)(L:Nat->O (Nat×O Int))(n:Nat)(b:bL)(d l h i:U)(x:Nat)(a:Int)(r k:Nat)(v:Int)(g:O (Nat×Int))(j:St)(e:Hp):Prop
 |mk (c m:O (Nat×Int)) (p o:bS V) (D:ak H e) (A:e h=Z (.dK (gN b c))) (y:e i=Z (.lst (rq b c))) (z:BF F n b.length x a c) (u:c=g++m) (t:(∀q∈L k,c.lookup q.1=Z (ap q.2 v))) (s:j=xX b d l h i x a r (Z (.str (aw b k))) p o aE aE aE aE):T_ H F L n b d l h i x a r k v g j e
def ZjP(H:Hp)(F:O Fc)(L:Nat->O (Nat×O Int))(n:Nat)(c:bL)(d h e i:U)(x:Nat)(a:Int)(r k:Nat)(v:Int)(g:O (Nat×Int))(b:St)(j:Hp):Prop:=T_ H F L n c d h e i x a r k v g b j
inductive Ua(H:Hp)(F:O Fc)(n:Nat)(b:bL)(d l g h:U)(x:Nat)(a:Int)(r k y:Nat)(u:U)(j:O (Nat×Int))(o:U)(m:O U)(i:St)(e:Hp):Prop
 |mk (c q:O (Nat×Int)) (p:Int) (G:ak H e) (E:e o=Z (.lst (m.map V.ref))) (A:e g=Z (.dK (gN b c))) (D:e h=Z (.lst (rq b c))) (z:BF F n b.length x a c) (v:c=j++q) (t:c.lookup y=Z p) (s:i=xX b d l g h x a r (Z (.str (aw b k))) (Z (.str (aw b y))) (Z (.ref u)) aE aE aE aE):Ua H F n b d l g h x a r k y u j o m i e
def ZjQ(H:Hp)(F:O Fc)(n:Nat)(c:bL)(d h g j:U)(x:Nat)(a:Int)(r k y:Nat)(u:U)(e:O (Nat×Int))(l:U)(i:O U)(b:St)(m:Hp):Prop:=Ua H F n c d h g j x a r k y u e l i b m
def Ub(e:bL)(F:O Fc)(t:Hp)(d o n q:U)(x:Nat)(a:Int)(r:Nat)(g:O (Nat×Int))(j i h:bS V)(b:St)(s:Hp):Prop:=s=t/\(∀c∈F,c.k=bC->∀u,g.lookup c.one=Z u->u=c.aJ)/\∃m p l k:bS V,b=xX e d o n q x a r j i h m p l k
inductive O6(j:O V)(H:Hp)(Q:VK)(E:XK):Prop
 |mk (l:Hp) (d i:U) (h:O (Key×V)) (L:Nat->O (Nat×O Int)) (n:Nat) (b:bL) (F:O Fc) (x:Nat) (a:Int) (D:j=[.ref d,.ref i,.str (aw b x),.int a]) (o:(b.map (·.1)).Nodup) (A:jT l H b d 300 h L) (v:(∀x y t,(y,t)∈L x↔gu F x y t)) (z:FL H b i F) (u:(∀c∈F,dR n b.length c)) (s:n<=8) (r:b.length<=100) (q:F.length<=64) (m:x<b.length) (N:(0<=a/\a<(n:Int))) (J:((¬∃g,ji n F g/\g x=some a)->∀e,ak H e->Q .aA e)) (G:∀(p:U) (g:O (Nat×Int)) (e:Hp),ak H e->e p=some (.dK (gN b g))->BF F n b.length x a g->ji n F (λk=>g.lookup k)->Q (.ref p) e)
abbrev La:O ar:=["_law_nets_here","_law_facts","_law_name_here","_law_section"]
def lY:aP ["_law_nets_here","_law_facts","_law_name_here","_law_section","_law_found","_law_row_here","_law_at","_law_here","_law_that","_law_turn_here","_law_number","_law_kind","_law_one","_law_said"] La (aH Fv):=.a8
theorem ZcA(F:aM K "_law_carried" "_law_carried" Fv f fd)(bl:Bl B):aF P w K B I aL 1 f fd La O6:=by
 refine F.o lY λs H hr h=>?_;obtain⟨H0,d,X,kvs,L,n,l,F,x,a,rfl,lQ,C9,ed,lO,eC,n8,Vc,Eg,hx,ZjR,q1,q2⟩:=h;refine⟨_,(au (bV 4 lY.nd (BP (kQ (pv 2) (pv 3) BO) rfl rfl (λz=>nomatch z) (Jp rfl))) (au (bV 5 lY.nd (c6 (aa (pv 2) ae))) (au (bV 6 lY.nd aI) (au (HZ gR (bH ny (pv 6) (di K bl (pv 5))) (au (bV 7 lY.nd (a_ (iL K) (pv 5) (pv 6))) (au (ia gR rfl (gn (K:=K) rfl (Zd_ (bI hr) (pv 0) (pv 7) (c6 ae) ⟨rfl,rfl,rfl,rfl⟩)) (gO (K:=K) (n:=2) rfl rfl (bw (bc 8 lY.nd) (bw (bc 9 lY.nd) gM))) (au (aR (kU (oG (bI hr) (pv 8) (pv 4)) QU) (au (qc (bI hr) (pv 4) (pv 8) (a_ (iT K) (pv 9) (dt (bI hr) (pv 4) (pv 7) (λ_ _=>rfl)))) (av (cv (ni (K:=K) rfl (kh hP jm jk oF (pv 5) (aa (pv 8) ae)))))) aX) (av (aR (bH nv (dt (bI hr) (pv 4) (pv 8) (λ_ _=>rfl)) (a_ (iT K) (pv 9) (dt (bI hr) (pv 4) (pv 7) (λ_ _=>rfl)))) (av (aG mj)) aX)))) (av (RQ (i:=6) lY.nd rfl (fb rfl) aI RS))))) (au (ia gR rfl (gn (K:=K) rfl (pv 1)) (gO (K:=K) (n:=4) rfl rfl (bw (bc 10 lY.nd) (bw (bc 11 lY.nd) (bw (bc 12 lY.nd) (bw (bc 13 lY.nd) gM))))) (av (aR (PW.pt (pw_and (bH cD (pv 11) bo) (pw_and (kU (Cd (bI hr) (pv 12) (pv 4)) QU) (pw_and1 (bH nv (dt (bI hr) (pv 4) (pv 12) (λ_ _=>rfl)) (pv 13)))))) (av (aG mj)) aX))) (av (aG (pv 4)))))))),?_⟩;refine V5 ?_;intros;refine b_ ?_;refine λfn Eh=>⟨_,rfl,_,rfl,aT,[(.inr (aw l x),.int a)],rfl,(by show 1<=15;decide),?_⟩;obtain⟨H1,tD⟩:∃H1,H1=upd (upd H fn (.dK [])) fn (.dK (qo [] [(.inr (aw l x),.int a)])):=⟨_,rfl⟩;have g1:ak H H1:=λb o e=>by rw[tD,aN (cE e Eh),aN (cE e Eh)];exact e
 have h1:H1 fn=Z (.dK (gN l [(x,a)])):=by rw[tD,aT];rfl
 rw[←tD];refine b_ ?_;refine⟨_,rfl,by show 1<=sizeLine;rw[dw];decide,λbK H2 AH g2 MU=>?_⟩;refine setC ?_;have Vd:=g1.free AH;have fr_ne:fn≠bK:=λz=>by rw[←z,h1] at AH;cases AH
 have sz:(10000:Nat)<=sizeLine:=by rw[dw];decide
 have hdH:=C9.dict;obtain⟨as,dz,dM⟩:=id lO;have N:=cK dM;refine je (ZjO H F L n l d X fn bK x a) (λqX gZ=>?_) ?_
 ·refine H_ (ZjN H F L n l d X fn bK x a) (muC l.length)
   ⟨[(x,a)],0,aE,aE,aE,g1.trans g2,g2 _ _ h1,MU,bf0 hx ZjR,Yw _,λ_ z=>absurd z (Wo _),rfl⟩ ?_ ?_
  ·rintro D H6 ⟨g,r,o7,o8,o9,R,vq,pI,J,rl,cl,rfl⟩;have kl:=Rw l g;have gl:=J.len;refine⟨_,rfl,_,rfl,bK,_,rfl,.inl (aq.of pI),_,_,rfl,rfl,_,rfl,?_⟩;rw[kl];refine bF (λc=>?_) (λc=>?_)
   ·have xY:r<g.length:=by have:=eB c;omega
    obtain⟨k,v,MV⟩:∃(k:Nat) (v:Int),g[r]?=Z (k,v):=⟨g[r].1,g[r].2,Yc xY⟩;have X0:(k,v)∈g:=Yj MV;have lkv:g.lookup k=Z v:=mem_lookup J.nd X0;obtain⟨km,v0,vn⟩:=J.lt _ X0;have X1:=R _ _ hdH;refine b_ ?_;refine⟨_,rfl,_,rfl,bK,_,_,_,rfl,rfl,aq.of pI,Zgd MV,?_⟩;refine je (ZjP H F L n l d X fn bK x a r k v g) (λML sX=>?_) ?_
    ·refine⟨_,rfl,d,rfl,.inl ⟨_,.inl X1⟩,_,rfl,by show 0<=sizeLine;exact Yw _,λe0 H7 AI g7 Ax=>?_⟩;have fn7:=g7 _ _ vq;have rw7:=g7 _ _ pI;have nf0:e0≠fn:=λz=>by rw[z,vq] at AI;cases AI
     have nr0:e0≠bK:=λz=>by rw[z,pI] at AI;cases AI
     obtain⟨N,W,eal,X2,ZjS,ZjT,X3⟩:∃(N:U) (W:O U),(a9 kvs (.inr (aw l k))).getD (.ref e0)=.ref N/\H7 N=Z (.lst (W.map V.ref))/\N≠fn/\N≠bK/\Paired (λe (p:Nat×O Int)=>∃u,H e=Z (.tup [.str (aw l p.1),.ref u])/\bU H u p.2) W (L k):=by
      rcases C9.at_ k km with⟨z1,z2⟩|⟨a1,W,w1,w2,w3,w4,w5⟩;·exact⟨e0,[],by rw[z1];rfl,Ax,nf0,nr0,by rw[z2];exact .nil⟩
      ·exact⟨a1,W,by rw[w1];rfl,g7 _ _ (R _ _ w3),cE w3 Eh,cE w3 Vd,w5⟩
     have esl:=cK X3;refine⟨_,dm (g7 _ _ X1) rfl,N,eal,⟨_,aq.of X2⟩,lZ (K:=K) (a:=N) (xs:=W.map V.ref) (CIn H F L n l d X fn bK x a r k v g N W)
      ⟨g,[],o8,o9,R.trans g7,X2,fn7,rw7,J,by rw[Wc],λq E=>(nomatch E),rfl⟩ (λj D A _ ⟨_,_,_,_,_,h,_,_,_,_,_,_⟩=>aq.of h) ?_ ?_⟩
     ·rintro j w D A G ⟨T,tl,p8,p9,g8,Lb,kK,lR,Q,eg,jE,rfl⟩;rw[Yf] at G;obtain⟨e,ee,rfl⟩:∃e,W[j]?=Z e/\V.ref e=w:=by
       cases z:W[j]? with
       |none=>rw[z] at G;cases G
       |some c=>rw[z] at G;exact⟨c,rfl,Yo G⟩
      obtain⟨⟨y,t⟩,X4,u,he,hu⟩:=gK X3 ee;have Lc:gu F k y t:=(ed _ _ _).mp (Yj X4);obtain⟨_,ym,ft,tl8⟩:=yR eC Lc;have MW:T.lookup k=Z v:=by rw[eg];exact A5 lkv
      have vb:v<(t.length:Int):=by rw[tl8];exact vn
      have gl8:=Q.len;have he8:A e=Z (.tup [.str (aw l y),.ref u]):=g8 _ _ he;have MO:(L k).take (j+1)=(L k).take j++[(y,t)]:=by rw[Y3,X4];rfl
      refine⟨e,_,rfl,az.of he8,rfl,_,_,rfl,aU ⟨_,_,rfl,aU ⟨rfl,?_⟩⟩⟩;refine mn (ZjQ H F n l d X fn bK x a r k y u T N W) (λsW iq=>?_) ?_
      ·refine⟨_,rfl,_,rfl,fn,_,rfl,dm kK (r_ lQ ym λp m=>(Q.lt p m).1),_,rfl,?_⟩;cases ly:T.lookup y with
       |none=>
        refine cS ?_;refine⟨_,rfl,_,rfl,_,rfl,fn,.int v,rfl,dm kK (by rw[r_ lQ km λp m=>(Q.lt p m).1,MW];rfl),u,_,_,_,rfl,rfl,az.of (g8 _ _ hu),SY v0 vb,_,rfl,_,rfl,fn,_,.inr (aw l y),rfl,kK,rfl,by rw[ZhL];omega,λH9 b9 e9=>?_⟩;have vn0:a9 (gN l T) (.inr (aw l y))=aE:=by rw[r_ lQ ym λp m=>(Q.lt p m).1,ly];rfl
        rw[l4 _ vn0] at e9;have vv:=b9 _ _ lR (λz=>fr_ne z.symm);refine⟨_,rfl,.inl ⟨rfl,_,aq.of vv⟩,_,rfl,bK,_,_,rfl,rfl,vv,by rw[Rw];omega,λqS AJ qU=>?_⟩;refine iq _ _ ⟨T++[(y,ap t v)],[(y,ap t v)],ap t v,λc o z=>AJ _ _ (b9 _ _ (g8 _ _ z) (cE z Eh)) (cE z Vd),AJ _ _ (b9 _ _ Lb ZjS) ZjT,?_,?_,Q.add eC Lc MW ly,rfl,Og ly,rfl⟩;·rw[AJ _ _ e9 fr_ne,gN,gN,Yi];rfl
        ·rw[qU,rq,rq,Yi];rfl
       |some v'=>
        refine bQ (aS ?_);exact iq _ _ ⟨T,[],v',g8,Lb,kK,lR,Q,by rw[Wc],ly,rfl⟩
      ·rintro D H9 ⟨tG,MT,v',g9,ZjU,pG,vv,Ei,MX,lv,rfl⟩;have X5:tG.lookup k=Z v:=by rw[MX];exact A5 MW
       refine⟨_,rfl,_,rfl,fn,.int v',rfl,dm pG (by rw[r_ lQ ym λp m=>(Ei.lt p m).1,lv];rfl),_,rfl,_,rfl,_,rfl,fn,.int v,rfl,dm pG (by rw[r_ lQ km λp m=>(Ei.lt p m).1,X5];rfl),u,_,_,_,rfl,rfl,az.of (g9 _ _ hu),SY v0 vb,rfl,_,rfl,?_⟩;refine bF (λc=>?_) (λc=>aS ?_)
       ·refine q1 (Ei.Ziz Lc X5 lv λz=>?_) H9 g9;rw[z] at c;simp at c
       ·have ev:v'=ap t v:=by
         by_cases z:v'=ap t v;·exact z
         ·exact absurd (by simp[z]) c
        refine⟨tG,tl++MT,_,_,g9,ZjU,pG,vv,Ei,by rw[MX,eg,Jt],λq E=>?_,rfl⟩;rw[MO] at E;rcases Yv.mp E with E|E;·rw[MX];exact A5 (jE q E)
        ·rw[Yq] at E;rw[E,lv,ev]
     ·rintro D A ⟨T,tl,p8,p9,g8,Lb,kK,lR,Q,eg,jE,rfl⟩;rw[Ya,esl,Wg] at jE;exact sX _ _ ⟨T,tl,p8,p9,g8,kK,lR,Q,eg,jE,rfl⟩
    ·rintro D A ⟨T,tl,p8,p9,g8,kK,lR,Q,eg,jE,rfl⟩;have rr:r<(g++tl).length:=by rw[Yd];exact zi _ xY
     have ge:(g++tl)[r]?=Z (k,v):=by rw[Wd xY];exact MV
     have mQ:((r:Int)+1)=((r+1:Nat):Int):=rfl
     refine⟨_,rfl,_,_,rfl,rfl,?_⟩;refine⟨⟨T,r+1,Z (.str (aw l k)),p8,p9,g8,kK,lR,Q,by rw[eg];exact rr,λr' h'=>?_,rfl⟩,?_⟩
     ·rw[eg];by_cases z:r'=r
      ·subst z;intro p m qq E;rw[ge] at m;cases m;rw[←eg];exact jE qq E
      ·exact(cl r' (eH (eJ h') z)).app (iz h' (k8 xY))
     ·show l.length+1-(r+1)<l.length+1-r;omega
   ·have re:¬((r:Int)<(g.length:Int)):=λz=>c (dg z);exact gZ _ _ ⟨g,r,o7,o8,o9,R,vq,J,λr' h'=>cl r' QO,rfl⟩
  ·rintro D H6 Q1 Q2 mo ⟨v1,w1,v2,w2,v3,v4,w3,w4,v5,v6,w5,w6,v7,w7,h⟩;exact⟨v1,w1,v2,w2,v3,v4,w3,w4,v5,v6,w5,w6,v7,w7,mo _ _ h⟩
 rintro D H6 ⟨g,r,o7,o8,o9,R,vq,J,cl,rfl⟩;refine je (Ub l F H6 d X fn bK x a r g o7 o8 o9) (λqX gZ=>?_) ?_
 ·refine⟨_,rfl,X,rfl,⟨_,aq.of (R _ _ dz)⟩,lZ (K:=K) (a:=X) (xs:=as.map V.ref) (λj=>Ub l (F.take j) H6 d X fn bK x a r g o7 o8 o9)
   ⟨rfl,λc hc=>(nomatch hc),aE,aE,aE,aE,rfl⟩ (λj D A _ ⟨e,_⟩=>by rw[e];exact aq.of (R _ _ dz)) ?_ ?_⟩
  ·rintro j v D A G ⟨rfl,sd,iG,fJ,iH,iI,rfl⟩;rw[Yf] at G;obtain⟨c0,ec,rfl⟩:∃c0,as[j]?=Z c0/\V.ref c0=v:=by
    cases e:as[j]? with
    |none=>rw[e] at G;cases G
    |some c=>rw[e] at G;exact⟨c,rfl,Yo G⟩
   obtain⟨c,jB,z,hc⟩:=gK dM ec;have mc:=Yj jB;have tF:F.take (j+1)=F.take j++[c]:=by rw[Y3,jB];rfl
   refine⟨c0,_,rfl,az.of (R _ _ hc),rfl,_,_,rfl,aU ⟨_,_,rfl,aU ⟨_,_,rfl,aU ⟨_,_,rfl,aU ⟨rfl,?_⟩⟩⟩⟩⟩;have ev:∀b:cm,decide (V.str c.k=V.str bC)=b->(b=af↔c.k=bC):=λb e=>by
    rw[←e,eR];exact⟨V.str.inj,λz=>by rw[z]⟩
   have xZ:(c.k=bC->∀u,g.lookup c.one=Z u->u=c.aJ)->∃iG fJ iH iI:bS V,(A=A/\∀c∈F.take (j+1),c.k=bC->∀u,g.lookup c.one=Z u->u=c.aJ)/\True:=λh=>⟨aE,aE,aE,aE,⟨rfl,λc' m'=>by
    rw[tF] at m';rcases Yv.mp m' with m'|m';·exact sd c' m'
    ·rw[Yq] at m';rw[m'];exact h⟩,trivial⟩
   refine⟨_,rfl,rfl,_,rfl,bF (λcc=>?_) (λcc=>?_)⟩
   ·have sk:=(ev _ rfl).mp cc;have eo:kV (bp l c)=.int c.aJ:=by rw[kP sk];rfl
    refine⟨_,rfl,_,rfl,fn,_,rfl,dm vq (r_ lQ (eC c mc).one λp m=>(J.lt p m).1),_,rfl,?_⟩;cases lk:g.lookup c.one with
    |none=>
     refine bQ (bQ (aS ?_));obtain⟨_,_,_,_,⟨_,h⟩,_⟩:=xZ λ_ u e=>by rw[lk] at e;cases e
     exact⟨rfl,h,_,_,_,_,rfl⟩
    |some u=>
     refine cS ?_;refine⟨_,rfl,_,rfl,fn,.int u,rfl,dm vq (by rw[r_ lQ (eC c mc).one λp m=>(J.lt p m).1,lk];rfl),_,rfl,by rw[eo];rfl,_,rfl,bF (λc2=>?_) (λc2=>aS ?_)⟩
     ·refine q1 (J.ZhH mc sk lk λz=>?_) A R;rw[z,eo] at c2;simp at c2
     ·have eu:u=c.aJ:=by
       by_cases z:u=c.aJ;·exact z
       ·exact absurd (by rw[eo];simp[z]) c2
      obtain⟨_,_,_,_,⟨_,h⟩,_⟩:=xZ λ_ u' e=>by rw[lk] at e;rw[←Yo e];exact eu
      exact⟨rfl,h,_,_,_,_,rfl⟩
   ·refine bQ (aS ?_);obtain⟨_,_,_,_,⟨_,h⟩,_⟩:=xZ λz=>absurd ((ev _ rfl).mpr z) cc;exact⟨rfl,h,_,_,_,_,rfl⟩
  ·rintro D A ⟨rfl,sd,iG,fJ,iH,iI,rfl⟩;rw[Ya,N,Wg] at sd;exact gZ _ _ ⟨rfl,sd,iG,fJ,iH,iI,rfl⟩
 rintro D A ⟨rfl,sd,iG,fJ,iH,iI,rfl⟩;exact⟨_,rfl,q2 fn g A R vq J (J.done ed cl sd)⟩
inductive Co(i:O V)(H:Hp)(Q:VK)(E:XK):Prop
 |mk (h g:U) (a:bL) (b e:O Int) (F:O Fc) (x:Nat) (t:i=[.ref h,.ref g,.str (aw a x)]) (s:FL H a h F) (m:gc H g b e) (j:(a.map (·.1)).Nodup) (q:∀c∈F,fC b e a.length c) (r:b.length<=8) (o:a.length<=100) (n:F.length<=64) (l:x<a.length) (k:∀(p:U) (d:Hp),H p=aE->ak H d->d p=Z (.lst ((fN F b.length x).map V.int))->Q (.ref p) d)
inductive Rx(g:O V)(H:Hp)(Q:VK)(E:XK):Prop
 |mk (a b:U) (d c:O Int) (l:g=[.ref a,.ref b]) (k:bU H a d) (i:bU H b c) (j:qz d c) (h:∀(p:U) (e:Hp),H p=aE->ak H e->gc e p d c->Q (.ref p) e)
abbrev zN:O ar:=["_law_facts","_law_turns_here","_law_name_here"]
def NQ:aP ["_law_facts","_law_turns_here","_law_name_here","_law_nets_here"] zN (aH GR):=.a8
open Classical in
def Zge(F:aM K "_law_room" "_law_room" GR f fd)(G9:HasFn P w K B I 2 "_law_nets" K_ SX)(FH:HasFn P w K B I 1 "_law_carried" La O6)(T:Bl B):aF P w K B I aL 3 f fd zN Co:=by
 refine F.o NQ λs H l h=>?_;obtain⟨Q,v,y,r,ys,F,x,rfl,E,G,A,N,j,Vc,X,hx,q⟩:=h;refine⟨_,(au (h_ (i:=3) NQ.nd rfl (kv rfl) (aZ G9 l (aa (pv 0) (aa (pv 1) ae)))) (av (aG (jK (x:="_law_at") (fr:=[("_law_nets_here",3),("_law_name_here",2),("_law_facts",0)]) (cl:=[("_law_nets_here",s.heap.objs.size+1+1+1),("_law_name_here",s.heap.objs.size+1+1),("_law_facts",s.heap.objs.size+1)]) rfl (.gW ⟨rfl,⟨rfl,⟨rfl,trivial⟩⟩⟩ ⟨⟨rfl,.inl rfl,.inl rfl,rfl⟩,⟨⟨rfl,.inl rfl,.inl rfl,rfl⟩,⟨⟨rfl,.inl rfl,.inl rfl,rfl⟩,trivial⟩⟩⟩) (pZ rfl T.ke (aa (di K T (dt (bI l) (pv 1) bo (λ_ _=>rfl))) ae)) (λ_ _ _ _=>yO (bH BH (Ki FH l (by decide) rfl (aa (pv 1) (aa (pv 3) (aa (pv 2) (aa (pv 0) ae))))) mj)) (λ_ _ _ _=>(pv 0)))))),?_⟩;refine b_ ?_;refine⟨_,rfl,_,rfl,Q,v,y,r,ys,F,rfl,E,G,A,N,j,X,λd k L H1 a C9 ed=>?_⟩;obtain⟨_,_,_,u,eQ,_,_,_,t⟩:=id G;obtain⟨n,R⟩:∃n,n=r.length:=⟨_,rfl⟩;have eC:=λc hc=>by exact R▸(N c hc).ok
 rw[←R] at t j q;have ul:((bG n).map V.int).length=n:=by rw[Ya,fK]
 refine⟨_,rfl,v,.ref u,rfl,dm (a _ _ eQ) rfl,u,_,rfl,.inr (az.of (a _ _ t)),?_⟩;rw[ul];refine⟨(n:Int),rfl,QO,QO,λD J=>?_⟩;refine Zbi QO J (λi=>decide (∃g,ji n F g/\g x=Z (i:Int))) (λi=>V.int (i:Int)) (λi hi W b _ Kt Kf kt kf=>?_) λW b h2=>?_
 ·rw[DM];have sS:(i:Nat)<n:=QO
  refine⟨_,rfl,_,rfl,_,rfl,_,rfl,H,d,Q,k,L,n,y,F,x,(i:Int),rfl,A,C9.same b,ed,(E.same a).same b,eC,j,Vc,X,hx,⟨(ro _),QO⟩,λno o m=>?_,λp gg o m Xf bf cl=>?_⟩
  ·refine⟨rfl,_,rfl,?_⟩;rw[dg (rfl)];exact bQ (kf o (gb no) m)
  ·refine⟨rfl,_,rfl,?_⟩;rw[gb (λz=>nomatch z)];exact cS ⟨_,rfl,kt _ o (dg ⟨_,cl,bf.hd⟩) m rfl⟩
 ·refine q D W (a.free J) (a.trans b) ?_;rw[h2,Y6];have e:fN F n x=((List.range n).filter λi:Nat=>decide (∃g,ji n F g/\g x=Z (i:Int))).map λi:Nat=>(i:Int):=by
   unfold fN bG;rw[D1];rfl
  rw[e,Y7];rfl
abbrev Le:O ar:=["_law_mother","_law_wife"]
def F4:aP ["_law_mother","_law_wife","_law_father","_law_alone"] Le (aH Gi):=.a8
def ZeW(F:aM K "_law_turns" "_law_turns" Gi f fd)(Q:HasFn P w K B I 1 "_law_inverse" zM Ky)(GD:HasFn P w K B I 1 "_law_after" C8 (T7 K))(G:Bl B):aF P w K B I aL 2 f fd Le Rx:=by
 refine F.o F4 λs H y h=>?_;obtain⟨a,b,j,r,rfl,A,W,gl,q⟩:=h;obtain⟨fx,fy,R,l2,T⟩:=id gl;refine⟨_,(au (bV 2 F4.nd (aZ GD y (aa (pv 1) (aa (pv 0) ae)))) (au (bV 3 F4.nd (fL (ZF rfl) rfl G.oK oH (aa (fL FQ rfl G.ke wk (aa (di K G (pv 0)) ae)) ae))) (av (aG (BP (kQ bo (aZ Q y (aa (pv 0) ae)) (kQ bo (aZ Q y (aa (pv 2) ae)) (kQ bo (pv 1) (kQ bo (pv 3) BO)))) rfl rfl (λz=>nomatch z) (Jp rfl)))))),?_⟩;refine me ?_;intros;refine b_ ?_;have lv:∀x∈r,0<=x/\x<(j.length:Int):=λx hx=>by rw[R];exact rV fy hx
 refine⟨_,rfl,_,rfl,b,a,r,j,rfl,az.of W,az.of A,lv,QO,λl H1 nl p hl=>?_⟩;refine b_ ?_;have el:(j.map V.int).length=j.length:=Ya _;refine⟨_,rfl,a,_,rfl,.inr (az.of (p _ _ A)),_,rfl,λrg H2 nrg g2 v=>⟨rg,j.length,rfl,by rw[v,el],(dW T (by decide)),λst H3 DQ g3 dI=>?_⟩⟩;have E:=g2.trans g3;intro d u;have D:=cF u (.dK []);have N:upd H3 d (.dK []) d=Z (.dK []):=aT;generalize upd H3 d (.dK [])=H4 at D N⊢;have X6:=E.trans D;have L:=p.trans X6;refine⟨_,rfl,a,j,rfl,L _ _ A,(nG T (by decide)),fx,λi H5 nim g5 Mm=>?_⟩;refine⟨_,rfl,l,bO j r,rfl,g5 _ _ (X6 _ _ hl),by rw[tR];omega,Ii fx fy R,λg k njf g6 Mn=>?_⟩;have m:=g5.trans g6;refine⟨_,rfl,_,rfl,m _ _ N,[(.inr "mother",.ref i),(.inr "father",.ref g),(.inr "wed",.ref b),(.inr "sibling",.ref st)],rfl,by show 4<=15;decide,?_⟩;have J:aC d k (upd k d (.dK (wL i g b st))):=aC.put (aC.of (ak.refl _));have X7:upd k d (.dK (wL i g b st)) d=Z (.dK (wL i g b st)):=aT;have em:qo [] [((.inr "mother":Key),V.ref i),(.inr "father",.ref g),(.inr "wed",.ref b),(.inr "sibling",.ref st)]=wL i g b st:=rfl;rw[em];generalize upd k d (.dK (wL i g b st))=H7 at J X7⊢;have t:∀{c:U} {zs:O Int},bU k c zs->c≠d:=λX z=>by rw[bU,z,m _ _ N] at X;cases X
 have n:∀{c:U} {zs:O Int},bU k c zs->bU H7 c zs:=λh=>J _ _ h (t h);refine q d H7 (p.free (E.free u)) (λc o e=>J _ _ (m _ _ (L _ _ e)) (cE e (p.free (E.free u)))) ⟨i,g,b,st,X7,n (g6 _ _ Mm),n Mn,n (m _ _ (L _ _ W)),n (m _ _ (D _ _ dI))⟩
theorem FL.get(h:FL H i o F):∃b:O U,H o=Z (.lst (b.map V.ref))/\b.length=F.length/\∀(d:Hp) (j:Nat) (v:V),ak H d->(b.map V.ref)[j]?=Z v->∃(a:U) (c:Fc) (z:Int),v=.ref a/\F[j]?=Z c/\F.take (j+1)=F.take j++[c]/\d a=Z (.tup [.int z,.str c.k,.str (aw i c.one),kV (bp i c)]):=by
 obtain⟨b,q,l⟩:=h;refine⟨b,q,cK l,λd j v g m=>?_⟩;rw[Yf] at m;obtain⟨a,p,rfl⟩:∃a,b[j]?=Z a/\V.ref a=v:=by
  cases e:b[j]? with
  |none=>grind
  |some c=>grind
 obtain⟨c,k,z,n⟩:=gK l p;exact⟨a,c,z,rfl,k,by rw[Y3,k];rfl,g _ _ n⟩
def nN(b:bL)(k a:ar)(o:V)(c:Fc):cm:=decide (c.k=k)&&((decide (aw b c.one=a)&&(decide (kV (bp b c)=o)||cU k))||(decide (k="sibling")&&(decide (kV (bp b c)=.str a)&&decide (V.str (aw b c.one)=o))))
def qB(b:bL)(F:O Fc)(k a:ar)(o:V):cm:=F.any (nN b k a o)||(decide (k="sibling")&&decide (V.str a=o))
def Bt(t:TT)(c:St)(H:Hp)(b:cm):Prop:=∀k:cm->Hp->Prop,(∀a,ak H a->k b a)->t c H k
def Vt(t:TE)(b:St)(H:Hp)(v:V):Prop:=∀k:VK,(∀a,ak H a->k v a)->t b H k
theorem Bt.and(h:Bt t σ H a)(g:∀d,a=af->ak H d->Bt u σ d b):Bt (Ul t u) σ H (a&&b):=λk e=>h _ λl c=>by
 cases a with
 |true=>exact cS (g l rfl c _ λj i=>e j (c.trans i))
 |false=>grind
theorem Bt.or(h:Bt t σ H a)(g:∀d,a=a7->ak H d->Bt u σ d b):Bt (Vq t u) σ H (a||b):=λk e=>h _ λl c=>by
 cases a with
 |true=>grind
 |false=>exact bQ (g l rfl c _ λj i=>e j (c.trans i))
def Bt.not(c:Bt t σ H a):Bt (Um t) σ H (!a):=λk b=>c _ λe d=>b e d
def Vt.var(h:σ[i]?=Z (Z x)):Vt (fU i) σ H x:=λ_ a=>⟨x,h,a H (ak.refl _)⟩
def Vt.c:Vt (tC x) σ H x:=λ_ a=>a H (ak.refl _)
def Vt.test(h:Vt d σ H (.bl b)):Bt (Kg d) σ H b:=λk a=>h _ λe c=>⟨b,rfl,a e c⟩
def Vt.eq(g:Vt j σ H x)(e:∀b,ak H b->Vt i σ b y)(c:zw x y=af):Vt (ju Vv j i) σ H (.bl (decide (x=y))):=λk d=>g _ λm a=>e m a _ λl h=>⟨c,d l (a.trans h)⟩
def Vt.ne(g:Vt j σ H x)(e:∀b,ak H b->Vt i σ b y)(c:zw x y=af):Vt (ju Vw j i) σ H (.bl (!decide (x=y))):=λk d=>g _ λm a=>e m a _ λl h=>⟨c,d l (a.trans h)⟩
theorem Vt.Lf(i:Vt m σ H (.bl a))(h:∀g,a=af->ak H g->Vt l σ g (.bl b)):Vt (Tc m l) σ H (.bl (a&&b)):=λk d=>i _ λe c=>⟨a,rfl,by
 cases a with
 |true=>exact cS (h e rfl c _ λn j=>d n (c.trans j))
 |false=>exact bQ (d e c)⟩
theorem Vt.X8(h:Vt l σ H (.bl a))(g:∀d,a=a7->ak H d->Vt j σ d (.bl b)):Vt (Uo l j) σ H (.bl (a||b)):=λk e=>h _ λn c=>⟨a,rfl,by
 cases a with
 |true=>grind
 |false=>exact bQ (g n rfl c _ λm i=>e m (c.trans i))⟩
def Vt.Kz(c:Vt h σ H (.str k)):Vt (ju (zX K a7) h (zo (ib (tC (V.str "mother")) (ib (tC (V.str "father")) jr)))) σ H (.bl (cU k)):=λq b=>c _ λl g=>by
 refine⟨by show 2<=sizeLine;rw[dw];decide,λp i j d a=>⟨p,_,rfl,.inr (az.of a),rfl,rfl,?_⟩⟩;have e:fY (V.str k) [V.str "mother",V.str "father"]=cU k:=by
  rw[Wm];unfold fY cU;rw[Ja,Ja,List.any_nil,wd,M0,M0,eR,eR];show((("mother":ar)==k)=af\/(("father":ar)==k)=af)↔_
  grind
 exact e▸b i (g.trans d)
def Flat(o:V):Prop:=(∃z,o=.int z)\/∃z,o=.str z
theorem B5(k:Key):Flat (kV k):=by
 cases k with
 |inl z=>exact .inl ⟨z,rfl⟩
 |inr z=>exact .inr ⟨z,rfl⟩
def Bo(b:Flat u)(a:Flat v):zw u v=af:=by
 rcases b with⟨_,rfl⟩|⟨_,rfl⟩<;>rcases a with⟨_,rfl⟩|⟨_,rfl⟩<;>rfl
inductive Qc(b:O V)(H:Hp)(Q:VK):Prop
 |mk (d:U) (c:bL) (F:O Fc) (k a:ar) (o:V) (i:b=[.ref d,.str k,.str a,o]) (h:FL H c d F) (g:Flat o) (q:∀e,ak H e->Q (.bl (qB c F k a o)) e):Qc b H Q
def Ry:Sp:=λa H Q _=>Qc a H Q
inductive Rz(d:O V)(H:Hp)(Q:VK)(E:XK):Prop
 |mk (b:U) (a:bL) (k:ar) (i j:Nat) (n:d=[.ref b,.str k,.str (aw a i),.str (aw a j)]) (g:H b=Z (.dK (fF a))) (e:(a.map (·.1)).Nodup) (m:i<a.length) (l:j<a.length) (h:k="mother"\/k="father"\/k="wed"\/k="sibling") (q:∀c,ak H c->Q (.bl (mD k (f_ a i) (f_ a j))) c)
def BC(j:bP xs q b):y∈fV b a↔∃c∈b.F,cU c.k=af/\aw b.ps c.one=a/\kV (bp b.ps c)=.str y:=by
 constructor
 ·intro h;obtain⟨v,l,rfl⟩:=Yg.mp (h);unfold qu at l;obtain⟨k,_,e⟩:=Jl.mp l;obtain⟨p,g,d,s,i,rfl,r⟩:=Rp j e;have m:p.2.k≠bC:=λz=>by
   rw[z] at d;exact absurd d QK
  exact⟨p.2,Yg.mpr ⟨p,g,rfl⟩,d,i,by rw[i_ m];rfl⟩
 ·rintro⟨c,o,d,rfl,i⟩;obtain⟨p,g,rfl⟩:=Yg.mp (o);have n:(([.inr p.2.k,.inr (aw b.ps p.2.one)]:O Key),kV (bp b.ps p.2))∈cC b.ps b.fs:=Yg.mpr ⟨p,Y5.mpr ⟨g,d⟩,rfl⟩;have e:=Rb j.pr n;refine Yg.mpr ⟨.str y,?_,rfl⟩;unfold qu;refine Jl.mpr ⟨p.2.k,?_,by rw[e,i]⟩;unfold cU at d;rw[M0,eR,eR] at d;rcases d with z|z<;>rw[z];·exact Yk
  ·exact Yx _ Yk
structure x8(b:BS)(a:ar)(ks:O ar):Prop where
 nd:ks.Nodup
 sd:∀k∈ks,fG b a k
 ma:a∈ks
def x8.len(u:x8 b a e)(c:bP xs h b)(d:a∈b.ps.map (·.1)):e.length<=b.ps.length:=by
 have:=u.nd.length_le_of_subset λk g=>BB c d (u.sd k g)
 grind
theorem x8.all(u:x8 b a c)(j:∀r,r<c.length->∀k,c[r]?=Z k->∀p∈fV b k,p∈c)(z:ar):z∈c↔fG b a z:=by
 refine⟨u.sd z,λh=>?_⟩;induction h with
 |refl=>exact u.ma
 |step _ g e=>
  obtain⟨r,d,i⟩:=Wx.mp e;exact j r d _ (by rw[Yc d,i]) _ g
inductive Ve(i:O V)(H:Hp)(Q:VK)(E:XK):Prop
 |mk (e:U) (h g:O Int) (b:BS) (a:ar) (l:i=[.ref e,.str a]) (k:FL H b.ps e b.F) (ok:bP h g b) (j:a∈b.ps.map (·.1)) (q:∀(p:U) (d:O ar) (c:Hp),ak H c->c p=Z (.lst (d.map V.str))->(∀z,z∈d↔fG b a z)->Q (.ref p) c)
def muU(m:Nat):St->Hp->Nat:=λa _=>match List.getD (α:=bS V) a 3 aE with|some (V.int z)=>m+1-z.toNat|_=>0
inductive X9(H:Hp)(b:BS)(a:ar)(l d:U)(i:St)(h:Hp):Prop
 |mk (c:O ar) (r:Nat) (q o n m:bS V) (g:ak H h) (t:h d=Z (.lst (c.map V.str))) (up:x8 b a c) (s:r<=c.length) (u:∀j,j<r->∀k,c[j]?=Z k->∀p∈fV b k,p∈c) (e:i=[Z (.ref l),Z (.str a),Z (.ref d),Z (.int (r:Int)),q,o,n,m]):X9 H b a l d i h
inductive M3(H:Hp)(b:BS)(a:ar)(n h:U)(r:Nat)(m:O ar)(k:ar)(j:Nat)(l:St)(i:Hp):Prop
 |mk (d o:O ar) (t s q p:bS V) (g:ak H i) (u:i h=Z (.lst (d.map V.str))) (up:x8 b a d) (v:d=m++o) (x:∀c∈b.F.take j,cU c.k=af->aw b.ps c.one=k->∀y,kV (bp b.ps c)=.str y->y∈d) (e:l=[Z (.ref n),Z (.str a),Z (.ref h),Z (.int (r:Int)),t,s,q,p]):M3 H b a n h r m k j l i
def ZcB(h:Flat o):jM o=af:=by
 rcases h with⟨_,rfl⟩|⟨_,rfl⟩<;>rfl
def O7(a:O ar):(a.map V.str).all jM=af:=by
 rw[Wp];intro v b;obtain⟨k,_,rfl⟩:=Yg.mp b;rfl
def Lg(y:ar)(ks:O ar):fY (.str y) (ks.map V.str)=af↔y∈ks:=by
 unfold fY;rw[Jy];constructor
 ·rintro⟨v,a,e⟩;obtain⟨k,b,rfl⟩:=Yg.mp a;have:(k==y)=af:=e
  grind
 ·intro h;exact⟨.str y,Yg.mpr ⟨y,h,rfl⟩,by show(y==y)=af;rw[beq_iff_eq]⟩
abbrev Lh:O ar:=["_law_facts","_law_kind","_law_one","_law_other"]
def yr:aP ["_law_facts","_law_kind","_law_one","_law_other","_law_number","_law_had","_law_here","_law_there"] Lh (aH GV):=.a8
def ZbB(F:aM K "_law_told" "_law_told" GV f fd):aF P w K B I aL 1 f fd Lh Ry:=by
 refine F.o yr λs H hr h=>?_;obtain⟨y,i,F,k,a,o,rfl,L,D,q⟩:=h;refine⟨_,(au (ia gR rfl (gn rfl (pv 0)) (gO rfl rfl (bw (bc 4 yr.nd) (bw (bc 5 yr.nd) (bw (bc 6 yr.nd) (bw (bc 7 yr.nd) gM))))) (au (aR (PW.pt (pw_and (bH cD (pv 5) (pv 1)) (pw_and (bH cD (pv 6) (pv 2)) (pw_and1 (PW.pt (pw_or (bH cD (pv 7) (pv 3)) (pw_or1 (iO (nS rfl) (pv 1) (df (aa bo (aa bo ae))) QU)))))))) (av (aG gP)) aX) (av (aR (PW.pt (pw_and (bH cD (pv 5) (pv 1)) (pw_and (bH cD (pv 1) bo) (pw_and (bH cD (pv 7) (pv 2)) (pw_and1 (bH cD (pv 6) (pv 3))))))) (av (aG gP)) aX)))) (av (aG (qk (d7 cD (pv 1) bo) (kW (d7 cD (pv 2) (pv 3))))))),?_⟩;obtain⟨as,G,al,W⟩:=L.get;refine je (λd l=>ak H l/\F.any (nN i k a o)=a7/\∃r p n m:bS V,d=[Z (.ref y),Z (.str k),Z (.str a),Z o,r,p,n,m]) (λqX X=>?_) ?_
 ·refine⟨_,rfl,y,rfl,⟨_,aq.of G⟩,lZ (λj d l=>ak H l/\(F.take j).any (nN i k a o)=a7/\∃r p n m:bS V,d=[Z (.ref y),Z (.str k),Z (.str a),Z o,r,p,n,m])
   ⟨ak.refl _,rfl,aE,aE,aE,aE,rfl⟩ (λj d l _ ⟨g,_⟩=>aq.of (g _ _ G)) ?_ ?_⟩
  ·rintro j v d l R ⟨g,no,r,p,n,m,rfl⟩;obtain⟨c0,c,z,rfl,N,J,T⟩:=W l j v g R;have x:nN i k a o c=af->qB i F k a o=af:=λh=>by
    unfold qB;rw[Jy.mpr ⟨c,Yj N,h⟩];rfl
   refine⟨c0,_,rfl,az.of T,rfl,_,_,rfl,aU ⟨_,_,rfl,aU ⟨_,_,rfl,aU ⟨_,_,rfl,aU ⟨rfl,?_⟩⟩⟩⟩⟩;refine mn (λd u=>ak H u/\(decide (c.k=k)&&(decide (aw i c.one=a)&&(decide (kV (bp i c)=o)||cU k)))=a7/\d=[Z (.ref y),Z (.str k),Z (.str a),Z o,Z (.int z),Z (.str c.k),Z (.str (aw i c.one)),Z (kV (bp i c))]) (λsW Q=>?_) ?_
   ·refine(Bt.and (Vt.test (Vt.eq (Vt.var rfl) (λ_ _=>Vt.var rfl) rfl)) λ_ _ _=>Bt.and (Vt.test (Vt.eq (Vt.var rfl) (λ_ _=>Vt.var rfl) rfl)) λ_ _ _=>Bt.or (Vt.test (Vt.eq (Vt.var rfl) (λ_ _=>Vt.var rfl) (Bo (B5 _) D))) λ_ _ _=>Vt.test (Vt.Kz (Vt.var rfl))) _ λu t=>?_;rw[eO,eO];refine bF (λb=>?_) (λb=>?_)
    ·have:=x (by unfold nN;rw[Wi] at b⊢;exact⟨b.1,by rw[b.2];rfl⟩);rw[this] at q;exact q u (g.trans t)
    ·exact aS (Q _ _ ⟨g.trans t,Jr.mpr b,rfl⟩)
   ·rintro d u ⟨t,A,rfl⟩;refine(Bt.and (Vt.test (Vt.eq (Vt.var rfl) (λ_ _=>Vt.var rfl) rfl)) λ_ _ _=>Bt.and (Vt.test (Vt.eq (Vt.var rfl) (λ_ _=>Vt.c) rfl)) λ_ _ _=>Bt.and (Vt.test (Vt.eq (Vt.var rfl) (λ_ _=>Vt.var rfl) (Bo (B5 _) (.inr ⟨_,rfl⟩)))) λ_ _ _=>Vt.test (Vt.eq (Vt.var rfl) (λ_ _=>Vt.var rfl) (Bo (.inr ⟨_,rfl⟩) D))) _ λH8 E=>?_;rw[eO,eO];refine bF (λb=>?_) (λb=>aS ?_)
    ·have:=x (by unfold nN;rw[Wi] at b⊢;exact⟨b.1,by rw[b.2,Bool.or_true]⟩);rw[this] at q;exact q H8 (t.trans E)
    ·refine⟨t.trans E,?_,_,_,_,_,rfl⟩;rw[J,List.any_append,no,DC,Ja,List.any_nil,wd];unfold nN;rw[Bool.and_or_distrib_left,A,DC];exact Jr.mpr b
  ·rintro d l ⟨g,no,r,p,n,m,rfl⟩;rw[Ya,al,Wg] at no;exact X _ _ ⟨g,no,r,p,n,m,rfl⟩
 rintro d l ⟨g,no,r,p,n,m,rfl⟩;refine(Vt.Lf (Vt.eq (Vt.var rfl) (λ_ _=>Vt.c) rfl) λ_ _ _=>Vt.eq (Vt.var rfl) (λ_ _=>Vt.var rfl) (Bo (.inr ⟨_,rfl⟩) D)) _ λu t=>?_;have e:=q u (g.trans t);unfold qB at e;rw[no,DC] at e;rwa[eO]
abbrev C_:O ar:=["_law_sides","_law_kind","_law_one","_law_other"]
def ZaY:aP C_ C_ (aH Gj):=.a8
def ZaZ(F:aM K "_law_sided" "_law_sided" Gj f fd):aF P w K B I aL 1 f fd C_ Rz:=by
 refine F.o ZaY λs H l h=>?_;obtain⟨g,m,k,i,j,rfl,p,n,x,t,d,q⟩:=h;refine⟨_,(au (aR (bH cD (pv 1) bo) (av (aG (d7 cD (dt (bI l) (pv 0) (pv 3) (λ_ _=>rfl)) bo))) aX) (au (aR (bH cD (pv 1) bo) (av (aG (d7 cD (dt (bI l) (pv 0) (pv 3) (λ_ _=>rfl)) bo))) aX) (av (aG (ze (d7 nv (pv 1) bo) (kW (qk (d7 cD (dt (bI l) (pv 0) (pv 2) (λ_ _=>rfl)) bo) (kW (d7 cD (dt (bI l) (pv 0) (pv 3) (λ_ _=>rfl)) bo))))))))),?_⟩;have u:=dm p (oI n t);refine⟨_,rfl,rfl,_,rfl,?_⟩;rw[eO];refine bF (λc=>?_) (λc=>aS ?_)
 ·have e:k="mother":=eB c;refine⟨_,rfl,_,rfl,g,_,rfl,u,rfl,?_⟩;rw[eO];unfold mD at q;rw[bt e] at q;exact q H (ak.refl _)
 have o:k≠"mother":=λz=>c (dg z);refine⟨_,rfl,rfl,_,rfl,?_⟩;rw[eO];refine bF (λc=>?_) (λc=>aS ?_)
 ·have e:k="father":=eB c;refine⟨_,rfl,_,rfl,g,_,rfl,u,rfl,?_⟩;rw[eO];unfold mD at q;rw[bu o,bt e] at q;exact q H (ak.refl _)
 have r:k≠"father":=λz=>c (dg z);have D:(!decide (k="wed"))=decide (k="sibling"):=by
  rcases d with z|z|z|z;·exact absurd z o
  ·exact absurd z r
  ·rw[z];decide+kernel
  ·rw[z];decide+kernel
 refine(Vt.X8 (a:=decide (k="sibling")) (b:=decide (f_ m i="man")&&decide (f_ m j="woman")) ?_ λJ _ v=>Vt.Lf (a:=decide (f_ m i="man")) ?_ λG _ y=>?_) _ λE A=>?_
 ·rw[←D,←eO];exact Vt.ne (Vt.var rfl) (λ_ _=>Vt.c) rfl
 ·rw[←eO];exact Vt.eq (λk d=>⟨_,rfl,_,rfl,g,_,rfl,dm (v _ _ p) (oI n x),d _ (ak.refl _)⟩) (λ_ _=>Vt.c) rfl
 ·rw[←eO];exact Vt.eq (λk d=>⟨_,rfl,_,rfl,g,_,rfl,dm (y _ _ (v _ _ p)) (oI n t),d _ (ak.refl _)⟩) (λ_ _=>Vt.c) rfl
 ·unfold mD at q;rw[bu o,bu r] at q;exact q E A
abbrev Li:O ar:=["_law_facts","_law_name_here"]
def rM:aP ["_law_facts","_law_name_here","_law_row_here","_law_at","_law_number","_law_kind","_law_one","_law_other"] Li (aH Ih):=.a8
def Zdx(F:aM K "_law_up" "_law_up" Ih f fd)(bl:Bl B):aF P w K B I aL 1 f fd Li Ve:=by
 refine F.o rM λs H hr h=>?_;obtain⟨Q,xs,ys,b,a,rfl,lO,ok,ma,q⟩:=h;refine⟨_,(au (bV 2 rM.nd (c6 (aa (pv 1) ae))) (au (bV 3 rM.nd aI) (au (HZ gR (bH ny (pv 3) (di K bl (pv 2))) (au (ia gR rfl (gn (K:=K) rfl (pv 0)) (gO (K:=K) (n:=4) rfl rfl (bw (bc 4 rM.nd) (bw (bc 5 rM.nd) (bw (bc 6 rM.nd) (bw (bc 7 rM.nd) gM))))) (av (aR (PW.pt (pw_and (iO (nS (K:=K) rfl) (pv 5) (df (aa bo (aa bo ae))) QU) (pw_and (bH cD (pv 6) (a_ (iL K) (pv 2) (pv 3))) (pw_and1 (iO (JH (K:=K) rfl) (pv 7) (pv 2) QU))))) (av (cv (ni (K:=K) rfl (kh hP jm jk oF (pv 2) (aa (pv 7) ae))))) aX))) (av (RQ (i:=3) rM.nd rfl (fb rfl) aI RS)))) (av (aG (pv 2)))))),?_⟩;refine nV ?_;intros;have sz:(10000:Nat)<=sizeLine:=by rw[dw];decide
 obtain⟨as,dz,al,gt⟩:=lO.get;have Ej:=ok.m;refine b_ ?_;refine⟨_,rfl,by show 1<=sizeLine;decide,λm H1 AH g1 MU=>?_⟩;refine setC ?_;refine je (λD R=>∃ks:O ar,ak H R/\R m=Z (.lst (ks.map V.str))/\(∀z,z∈ks↔fG b a z)/\∃o3 o4 o5 o6 o7:bS V,D=[Z (.ref Q),Z (.str a),Z (.ref m),o3,o4,o5,o6,o7]) (λqX gZ=>?_) ?_
 ·refine H_ (X9 H b a Q m) (muU b.ps.length) ⟨[a],0,aE,aE,aE,aE,g1,MU,⟨Yz.mpr ⟨(λz=>nomatch z),Jc⟩,λk X=>by rw[Yq.mp X];exact .refl,Yk⟩,Yw _,λr hr=>absurd hr (Wo _),rfl⟩ ?_ ?_
  ·rintro D R ⟨ks,r,o4,o5,o6,o7,g6,W,up,rl,cl,rfl⟩;have kl:(ks.map V.str).length=ks.length:=Ya _;have gl:=up.len ok ma;refine⟨_,rfl,_,rfl,m,_,rfl,.inl (aq.of W),_,_,rfl,rfl,_,rfl,?_⟩;rw[kl];refine bF (λc=>?_) (λc=>?_)
   ·have T:r<ks.length:=by have:=eB c;omega
    obtain⟨k,ek⟩:∃k,ks[r]?=Z k:=⟨_,Yc T⟩;have mk:k∈ks:=Yj ek;refine je (M3 H b a Q m r ks k b.F.length) (λML sX=>?_) ?_
    ·refine⟨_,rfl,Q,rfl,⟨_,aq.of (g6 _ _ dz)⟩,lZ (K:=K) (a:=Q) (xs:=as.map V.ref) (M3 H b a Q m r ks k) ⟨ks,[],o4,o5,o6,o7,g6,W,up,by rw[Wc],λc hc=>(nomatch hc),rfl⟩ (λj D H8 _ ⟨_,_,_,_,_,_,g,_,_,_,_,_⟩=>aq.of (g _ _ dz)) ?_ ?_⟩
     ·rintro j v D H8 hj ⟨fH,tl,p4,p5,p6,p7,g8,N,t,A,jE,rfl⟩;obtain⟨c0,c,z,rfl,jB,tF,hc⟩:=gt H8 j v g8 hj;have mc:c∈b.F:=Yj jB;have Ek:fH[r]?=Z k:=by rw[A,Wd T];exact ek
      have gl8:=t.len ok ma;refine⟨c0,_,rfl,az.of hc,rfl,_,_,rfl,aU ⟨_,_,rfl,aU ⟨_,_,rfl,aU ⟨_,_,rfl,aU ⟨rfl,?_⟩⟩⟩⟩⟩;refine(Bt.and (Vt.test (Vt.Kz (k:=c.k) (Vt.var rfl))) λHA _ gA=>Bt.and (Vt.test (Vt.eq (x:=.str (aw b.ps c.one)) (y:=.str k) (Vt.var rfl) (λHB gB kk X=>⟨_,rfl,_,rfl,m,_,_,_,rfl,rfl,aq.of (gB _ _ (gA _ _ N)),jb (by rw[Yf,Ek];rfl),X _ (ak.refl _)⟩) rfl)) λHB _ gB=>Vt.test (b:=!fY (kV (bp b.ps c)) (fH.map V.str)) λkk X=>⟨_,rfl,_,rfl,m,_,rfl,.inl (aq.of (gB _ _ (gA _ _ N))),ZcB (B5 _),O7 _,X _ (ak.refl _)⟩) _ λH9 g9=>?_;rw[eO];have xZ:∀kL:O ar,(∀x∈fH,x∈kL)->(cU c.k=af->aw b.ps c.one=k->∀y,kV (bp b.ps c)=.str y->y∈kL)->∀c'∈b.F.take (j+1),cU c'.k=af->aw b.ps c'.one=k->∀y,kV (bp b.ps c')=.str y->y∈kL:=λkL sub hh c' L J G y E=>by
       rw[tF] at L;rcases Yv.mp L with L|L;·exact sub _ (jE c' L J G y E)
       ·rw[Yq.mp L] at J G E;exact hh J G y E
      refine bF (λcc=>?_) (λcc=>aS ?_)
      ·rw[Wi,Wi,eR] at cc;obtain⟨c1,c2,c3⟩:=cc;have ns:c.k≠bC:=λz=>by rw[z] at c1;exact absurd c1 QK
       have eo:kV (bp b.ps c)=.str (aw b.ps c.aJ.toNat):=by rw[i_ ns];rfl
       have vv:=g9 _ _ N;refine⟨_,rfl,.inl ⟨rfl,_,aq.of vv⟩,_,rfl,m,_,_,rfl,rfl,vv,by rw[Ya];omega,λqS AJ qU=>?_⟩;have no:aw b.ps c.aJ.toNat∉fH:=λz=>by
        rw[eo,(Lg _ _).mpr z] at c3;cases c3
       refine⟨fH++[aw b.ps c.aJ.toNat],tl++[aw b.ps c.aJ.toNat],_,_,_,_,λd o e=>AJ _ _ (g9 _ _ (g8 _ _ e)) (cE e AH),by rw[qU,Yi,eo];rfl,⟨?_,λx l=>?_,Ys _ t.ma⟩,by rw[A,Jt],xZ _ (λx l=>Ys _ l) λ_ _ y hy=>?_,rfl⟩
       ·refine Wj.mpr ⟨t.nd,QS,λu hu w hw z=>?_⟩;rw[Yq] at hw;rw[z,hw] at hu;exact no hu
       ·rcases Yv.mp l with l|l;·exact t.sd x l
        ·rw[Yq.mp l];exact .step (t.sd k (Yj Ek)) ((BC ok).mpr ⟨c,mc,c1,c2,eo⟩)
       ·rw[eo] at hy;rw[←V.str.inj hy];exact Ym _ Yk
      ·refine⟨fH,tl,_,_,_,_,g8.trans g9,g9 _ _ N,t,A,xZ _ (λ_ h=>h) λJ G y E=>?_,rfl⟩;rw[J,AA,dg G,AA,E] at cc;by_cases z:y∈fH;·exact z
       ·exact absurd (by rw[Jr.mpr (λw=>z ((Lg _ _).mp w))];rfl) cc
     ·grind
    ·rintro D H8 ⟨fH,tl,p4,p5,p6,p7,g8,N,t,A,jE,rfl⟩;rw[Wg] at jE;have Ek:fH[r]?=Z k:=by rw[A,Wd T];exact ek
     refine⟨_,rfl,_,_,rfl,rfl,?_⟩;refine⟨⟨fH,r+1,p4,p5,p6,p7,g8,N,t,by rw[A,Yd];exact k8 (zi _ T),λr' h' x l p hp=>?_,rfl⟩,?_⟩
     ·by_cases z:r'=r
      ·rw[z,Ek] at l;cases l;obtain⟨c,mc,J,G,E⟩:=(BC ok).mp hp;exact jE c mc J G p E
      ·rw[A,Wd (iz h' (k8 T))] at l;rw[A];exact Ys _ (cl r' (eH (eJ h') z) x l p hp)
     ·show b.ps.length+1-(r+1)<b.ps.length+1-r;omega
   ·have re:¬((r:Int)<(ks.length:Int)):=λz=>c (dg z);exact gZ _ _ ⟨ks,g6,W,up.all (λr' h'=>cl r' QO),_,_,_,_,_,rfl⟩
  ·rintro D R Q1 Q2 mo ⟨v1,w1,v2,w2,v3,v4,w3,w4,v5,v6,w5,w6,v7,w7,h⟩;exact⟨v1,w1,v2,w2,v3,v4,w3,w4,v5,v6,w5,w6,v7,w7,mo _ _ h⟩
 rintro D R ⟨ks,g6,W,al,o3,o4,o5,o6,o7,rfl⟩;exact⟨_,rfl,q m ks R g6 W al⟩
open Classical in
noncomputable def oR (n:Nat) (b:BS) (c:Fc):ar:=if c.k≠bC/\mD c.k (f_ b.ps c.one) (f_ b.ps c.aJ.toNat)=a7 then"wrong side" else if qB b.ps b.F c.k (aw b.ps c.one) (kV (bp b.ps c))=af then"told twice" else if cU c.k=af/\fG b (aw b.ps c.aJ.toNat) (aw b.ps c.one) then"own elder" else if fN (b.F++[c]) n c.one=[] then"barred" else""
inductive S0(k:O V)(H:Hp)(Q:VK)(E:XK):Prop
 |mk (g i e h:U) (a d:O Int) (b:BS) (c:Fc) (r:k=[.ref g,.ref i,.ref e,.ref h]) (m:H g=Z (.dK (fF b.ps))) (n:FL H b.ps i b.F) (l:gc H e a d) (o:H h=Z (.tup [.str c.k,.str (aw b.ps c.one),kV (bp b.ps c)])) (ok:bP a d b) (p:fC a d b.ps.length c) (q:∀j,ak H j->Q (.str (oR a.length b c)) j)
def ZhM(b:fC xs d m c)(a:c.k≠bC):c.k="mother"\/c.k="father"\/c.k="wed"\/c.k="sibling":=by
 have h:=b.wU a
 grind
abbrev Lj:O ar:=["_law_sides","_law_facts","_law_turns_here","_law_fact_here"]
def A6:aP ["_law_sides","_law_facts","_law_turns_here","_law_fact_here","_law_kind","_law_one","_law_other"] Lj (aH GW):=.a8
open Classical in
theorem ZbC(F:aM K "_law_word" "_law_word" GW f fd)(GF:HasFn P w K B I 1 "_law_sided" C_ Rz)(G_:HasFn P w K B I 1 "_law_told" Lh Ry)(Iv:HasFn P w K B I 1 "_law_up" Li Ve)(pY:HasFn P w K B I 3 "_law_room" zN Co)(bl:Bl B):aF P w K B I aL 4 f fd Lj S0:=by
 refine F.o A6 λs H d h=>?_;obtain⟨v,E,A,ff,y,ys,b,c,rfl,D,R,L,hc,ok,j,q⟩:=h;have hu:=d.qm;refine⟨_,(au (kg (pv 3) (gO (K:=K) (n:=3) rfl rfl (bw (bc 4 A6.nd) (bw (bc 5 A6.nd) (bw (bc 6 A6.nd) gM))))) (au (aR (bH cD (pv 4) bo) (au (aR (kU (oG (bI d) (pv 5) (pv 0)) QU) (av (aG bo)) aX) (av (aR (PW.pt (pw_or (bH ny (pv 6) aI) (pw_or1 (bH Zh0 (pv 6) (di K bl (dt (bI d) (pv 2) bo (λ_ _=>rfl))))))) (av (aG bo)) aX))) (au (aR (kU (oG (bI d) (pv 4) (pv 2)) QU) (av (aG bo)) aX) (au (aR (PW.pt (pw_or (kU (oG (bI d) (pv 5) (pv 0)) QU) (pw_or1 (kU (oG (bI d) (pv 6) (pv 0)) QU)))) (av (aG bo)) aX) (av (aR (fS (dN (aZ GF d (aa (pv 0) (aa (pv 4) (aa (pv 5) (aa (pv 6) ae))))))) (av (aG bo)) aX))))) (au (aR (dN (aZ G_ d (aa (pv 1) (aa (pv 4) (aa (pv 5) (aa (pv 6) ae)))))) (av (aG bo)) aX) (au (aR (PW.pt (pw_and (iO (nS (K:=K) rfl) (pv 4) (df (aa bo (aa bo ae))) QU) (pw_and1 (iO (nS (K:=K) rfl) (pv 5) (aZ Iv d (aa (pv 1) (aa (pv 6) ae))) QU)))) (av (aG bo)) aX) (au (aR (bH (R8 hu) (aZ pY d (aa (bj tX (pv 1) (c6 (aa (df (aa (bj B6 aI aI) (aa (pv 4) (aa (pv 5) (aa (pv 6) ae))))) ae))) (aa (pv 2) (aa (pv 5) ae)))) (c6 ae)) (av (aG bo)) aX) (av (aG bo))))))),?_⟩;refine V5 ?_;intros;have sz:(10000:Nat)<=sizeLine:=by rw[dw];decide
 have one:=j.ok.one;have o:=oI ok.nm one;refine⟨_,rfl,ff,_,rfl,az.of hc,rfl,_,_,rfl,aU ⟨_,_,rfl,aU ⟨_,_,rfl,aU ⟨rfl,?_⟩⟩⟩⟩;dsimp only;refine mn (λσ H7=>ak H H7/\¬(c.k≠bC/\mD c.k (f_ b.ps c.one) (f_ b.ps c.aJ.toNat)=a7)/\σ=[Z (.ref v),Z (.ref E),Z (.ref A),Z (.ref ff),Z (.str c.k),Z (.str (aw b.ps c.one)),Z (kV (bp b.ps c))]) (λsW iq=>?_) ?_
 ·refine⟨_,rfl,rfl,_,rfl,?_⟩;rw[eO];refine bF (λcc=>?_) (λcc=>?_)
  ·have J:c.k=bC:=eB cc;have r:kV (bp b.ps c)=.int c.aJ:=by rw[kP J];rfl
   refine⟨_,rfl,_,rfl,v,_,rfl,dm D o,_,rfl,bQ (aS ?_)⟩;obtain⟨s0,s1⟩:=j.K6 J;obtain⟨_,_,_,u0,X,_,_,_,x6⟩:=id L;refine(Bt.or (a:=decide (c.aJ<0)) (b:=decide ((((bG y.length).map V.int).length:Int)<=c.aJ)) (λk i=>⟨_,rfl,c.aJ,0,r,rfl,_,rfl,i _ (ak.refl _)⟩) λH1 _ o k i=>⟨_,rfl,_,rfl,A,.ref u0,rfl,dm (o _ _ X) rfl,u0,_,rfl,.inr (az.of (o _ _ x6)),c.aJ,_,r,rfl,_,rfl,i _ (ak.refl _)⟩) _ λH2 m=>?_;rw[gb (Int.not_lt_of_ge s0),gb (by rw[Ya,fK];exact Int.not_le_of_gt s1)];exact bQ (aS (iq _ _ ⟨m,λz=>z.1 J,rfl⟩))
  ·have g:c.k≠bC:=λz=>cc (dg z);have r:kV (bp b.ps c)=.str (aw b.ps c.aJ.toNat):=by rw[i_ g];rfl
   obtain⟨tk,u,X,vu,_⟩:=L.get (j.wU g);have m:=oI ok.nm (j.ok.iD g).1.2;refine⟨_,rfl,_,rfl,A,_,rfl,dm X vu,_,rfl,bQ (aS ?_)⟩;refine(Bt.or (a:=a7) (b:=a7) (λk i=>⟨_,rfl,_,rfl,v,_,rfl,dm D o,_,rfl,i _ (ak.refl _)⟩) λH1 _ o k i=>⟨_,rfl,_,rfl,v,Z (.str (f_ b.ps c.aJ.toNat)),rfl,(by rw[r];exact dm (o _ _ D) m),_,rfl,i _ (ak.refl _)⟩) _ λH2 m=>bQ (aS ?_);refine⟨_,rfl,_,rfl,_,rfl,_,rfl,v,b.ps,c.k,c.one,c.aJ.toNat,by rw[r];rfl,m _ _ D,ok.nm,one,(j.ok.iD g).1.2,ZhM j g,λH3 g3=>⟨_,rfl,?_⟩⟩;cases es:mD c.k (f_ b.ps c.one) (f_ b.ps c.aJ.toNat) with
   |true=>exact bQ (aS (iq _ _ ⟨m.trans g3,λz=>by rw[es] at z;exact absurd z.2 QD,rfl⟩))
   |false=>
    refine cS ?_;have e:oR y.length b c="wrong side":=bt ⟨g,es⟩;rw[e] at q;exact q _ (m.trans g3)
 rintro σ H7 ⟨g7,nw,rfl⟩;refine⟨_,rfl,_,rfl,_,rfl,_,rfl,E,b.ps,b.F,c.k,aw b.ps c.one,kV (bp b.ps c),rfl,R.same g7,B5 _,λH8 g8=>⟨_,rfl,?_⟩⟩;have M4:=g7.trans g8;unfold oR at q;rw[bu nw] at q;refine bF (λct=>?_) (λct=>aS ?_)
 ·rw[bt ct] at q;exact q _ M4
 rw[bu ct] at q;refine(Bt.and (b:=decide (fG b (aw b.ps c.aJ.toNat) (aw b.ps c.one))) (Vt.test (Vt.Kz (k:=c.k) (Vt.var rfl))) λH9 ip W k i=>?_) _ λH9 W=>?_
 ·have g:c.k≠bC:=λz=>by rw[z] at ip;exact absurd ip QK
  have r:kV (bp b.ps c)=.str (aw b.ps c.aJ.toNat):=by rw[i_ g];rfl
  refine⟨_,rfl,_,rfl,_,rfl,E,y,ys,b,aw b.ps c.aJ.toNat,by rw[r];rfl,R.same (M4.trans W),ok,IM (j.ok.iD g).1.2,λp ks H' g' Q al=>⟨p,_,rfl,.inl (aq.of Q),rfl,O7 _,_,rfl,?_⟩⟩;have e:fY (V.str (aw b.ps c.one)) (ks.map V.str)=decide (fG b (aw b.ps c.aJ.toNat) (aw b.ps c.one)):=by
   rw[Wm,eR,Lg,al]
  rw[e];exact i _ g'
 have G:=M4.trans W;refine bF (λx=>?_) (λx=>aS ?_)
 ·rw[Wi,eR] at x;rw[bt x] at q;exact q _ G
 rw[Wi,eR] at x;rw[bu x] at q;obtain⟨as,dz,dM⟩:=R.same G;have al:=cK dM;have fl:=ok.fl;have Fl:b.F.length=b.fs.length:=Ya _;refine⟨_,rfl,_,_,rfl,rfl,_,rfl,_,rfl,_,rfl,by show 4<=sizeLine;decide,λt Ht nt gt M5=>⟨by show 1<=sizeLine;decide,λl Hl nl T hl=>⟨E,l,_,_,rfl,rfl,T _ _ (gt _ _ dz),hl,by rw[Ya];show _+1<=_;omega,λp Hp np gp Q=>⟨_,rfl,_,rfl,?_⟩⟩⟩⟩;have M6:=(gt.trans T).trans gp;refine⟨p,A,b.ps,y,ys,b.F++[c],c.one,rfl,⟨as++[t],by rw[Q,Yi];rfl,jG (F:=MS Hp b.ps) ⟨-1,gp _ _ (T _ _ M5)⟩ (L2.Paired.bA dM λ_ _ ⟨z,e⟩=>⟨z,M6 _ _ e⟩)⟩,L.same (G.trans M6),ok.nm,λc' oW=>?_,ok.gd.2.2.2.2,by have:=ok.m;omega,by rw[Yd];show _+1<=64;omega,one,λpr Hr npr gr N=>⟨by show 0<=sizeLine;decide,λe He ne ge he=>⟨pr,e,_,[],rfl,rfl,aq.of (ge _ _ N),aq.of he,_,rfl,?_⟩⟩⟩
 ·rcases Yv.mp oW with h|h
  ·obtain⟨pp,rB,rfl⟩:=Yg.mp (show c'∈b.fs.map (·.2) from h);exact ok.fg pp rB
  ·rw[Yq.mp h];exact j
 have gE:=(G.trans M6).trans (gr.trans ge);refine bF (λcr=>?_) (λcr=>aS ?_)
 ·rw[bt (eB cr)] at q;exact q _ gE
 ·rw[bu (λz=>cr (dg z))] at q;exact q _ gE
def RA(a b:ar):(L2.sv a b=a/\L2.sy a b=b)\/(L2.sv a b=b/\L2.sy a b=a):=by
 unfold L2.sv L2.sy;by_cases d:b.cps.toList<a.cps.toList;·grind
 ·rw[bu d];by_cases c:a.cps.toList<b.cps.toList;·grind
  ·rw[bu c];have e:a=b:=by
    cases a with|mk ca=>cases b with|mk g=>
     grind
   grind
theorem Qd{b:BS}(h:qB b.ps b.F c.k (aw b.ps c.one) (kV (bp b.ps c))=a7):eF b.ps c∉b.keys/\(cU c.k=af->[.inr c.k,.inr (aw b.ps c.one)]∉(cC b.ps b.fs).map (·.1))/\¬(c.k="sibling"/\V.str (aw b.ps c.one)=kV (bp b.ps c)):=by
 unfold qB at h;rw[Bool.or_eq_false_iff] at h;obtain⟨J,E⟩:=h;have no:∀p∈b.fs,nN b.ps c.k (aw b.ps c.one) (kV (bp b.ps c)) p.2=a7:=λp k=>by
  have:=Vx.mp J p.2 (Yg.mpr ⟨p,k,rfl⟩);exact Jr.mpr this
 have s:∀{u v:Key},u=v->kV u=kV v:=λe=>by rw[e]
 refine⟨λH=>?_,λG k=>?_,λ⟨g,a⟩=>?_⟩
 ·obtain⟨p,k,e⟩:=Yg.mp H;have n:=no p k;have l:p.2.k=c.k->((aw b.ps p.2.one=aw b.ps c.one/\bp b.ps p.2=bp b.ps c)\/(c.k="sibling"/\bp b.ps p.2=.inr (aw b.ps c.one)/\Sum.inr (aw b.ps p.2.one)=bp b.ps c))->False:=λg a=>by
   have:nN b.ps c.k (aw b.ps c.one) (kV (bp b.ps c)) p.2=af:=by
    unfold nN;rw[dg g,AA];rcases a with⟨a,d⟩|⟨a,d,L⟩;·rw[dg a,dg (s d)];rfl
    ·rw[dg a,dg (show kV (bp b.ps p.2)=.str (aw b.ps c.one) by rw[d];rfl),dg (show V.str (aw b.ps p.2.one)=kV (bp b.ps c) by rw[←L];rfl)];simp
   rw[this] at n;cases n
  unfold eF at e;cases j:bp b.ps p.2 with
  |inl t=>
   cases i:bp b.ps c with
   |inl o=>
    rw[j,i] at e;injection e with g e;injection e with a e;injection e with d _;exact l (We g) (.inl ⟨We a,by rw[j,i,d]⟩)
   |inr o=>
    rw[j,i] at e;unfold keyOf at e;dsimp at e;split at e
    ·injection e with g e;injection e with a e;injection e with d _;cases d
    ·injection e with g e;injection e with a e;injection e with d _;cases d
  |inr t=>
   cases i:bp b.ps c with
   |inl o=>
    rw[j,i] at e;unfold keyOf at e;dsimp at e;split at e
    ·injection e with g e;injection e with a e;injection e with d _;cases d
    ·injection e with g e;injection e with a e;injection e with d _;cases d
   |inr o=>
    rw[j,i] at e;have r:p.2.k=c.k:=by
     unfold keyOf at e;dsimp at e;split at e<;>split at e<;>(injection e with g _;exact We g)
    unfold keyOf at e;dsimp at e;rw[r] at e;by_cases m:c.k="sibling"
    ·rw[bt m,bt m] at e;injection e with _ e;injection e with a e;injection e with d _;have a:=We a;have d:=We d;refine l r ?_;rcases RA (aw b.ps p.2.one) t with⟨A,z⟩|⟨A,z⟩<;>rcases RA (aw b.ps c.one) o with⟨y,x⟩|⟨y,x⟩<;>rw[A,y] at a<;>rw[z,x] at d;·exact .inl ⟨a,by rw[j,i,d]⟩
     ·exact .inr ⟨m,by rw[j,d],by rw[i,a]⟩
     ·exact .inr ⟨m,by rw[j,a],by rw[i,d]⟩
     ·exact .inl ⟨d,by rw[j,i,a]⟩
    ·rw[bu m,bu m] at e;injection e with _ e;injection e with a e;injection e with d _;exact l r (.inl ⟨We a,by rw[j,i,d]⟩)
 ·obtain⟨q,D,e⟩:=Yg.mp k;unfold cC at D;obtain⟨p,k,rfl⟩:=Yg.mp D;obtain⟨F,N⟩:=Y5.mp k;have n:=no p F;injection e with g e;injection e with a _;unfold nN at n;rw[dg (We g),dg (We a),G] at n;simp at n
 ·rw[dg g,dg a] at E;cases E
def Zdy(e:bP xs i b)(o:fC xs i b.ps.length c)(h:fN (b.F++[c]) xs.length c.one≠[]):∃f,mW xs.length b.ps.length f/\∀c'∈b.F++[c],fO f c':=by
 obtain⟨a,n⟩:=List.exists_mem_of_ne_nil _ h;obtain⟨_,g,q,m⟩:=Bn.mp n;obtain⟨t,inr,j⟩:=e.lv;have p:∀c'∈b.F++[c],dR xs.length b.ps.length c':=λc' d=>by
  rcases Yv.mp d with h|h
  ·obtain⟨l,k,rfl⟩:=Yg.mp (h);exact(e.fg l k).ok
  ·rw[Yq.mp h];exact o.ok
 obtain⟨f,s,r,_⟩:=F2 p inr (λc' d=>by
  rcases Yv.mp d with h|h;·grind
  ·rw[Yq.mp h];exact .inl rfl) q m
 grind
def RB{a:O Int}(h:oR a.length b c=""):¬(c.k≠bC/\mD c.k (f_ b.ps c.one) (f_ b.ps c.aJ.toNat)=a7)/\qB b.ps b.F c.k (aw b.ps c.one) (kV (bp b.ps c))=a7/\¬(cU c.k=af/\fG b (aw b.ps c.aJ.toNat) (aw b.ps c.one))/\fN (b.F++[c]) a.length c.one≠[]:=by
 unfold oR at h;by_cases g:c.k≠bC/\mD c.k (f_ b.ps c.one) (f_ b.ps c.aJ.toNat)=a7;·rw[bt g] at h;exact absurd h QK
 rw[bu g] at h;by_cases e:qB b.ps b.F c.k (aw b.ps c.one) (kV (bp b.ps c))=af;·rw[bt e] at h;exact absurd h QK
 rw[bu e] at h;by_cases d:cU c.k=af/\fG b (aw b.ps c.aJ.toNat) (aw b.ps c.one);·rw[bt d] at h;exact absurd h QK
 rw[bu d] at h;by_cases i:fN (b.F++[c]) a.length c.one=[];·rw[bt i] at h;exact absurd h QK
 grind
def Iw(g:bP xs d b)(e:fC xs d b.ps.length c)(a:b.fs.length<63)(h:oR xs.length b c=""):uI xs d b c:=by
 obtain⟨_,l,_,k⟩:=RB h;obtain⟨j,i,_⟩:=Qd l;exact⟨e,j,i,Zdy g e k,a⟩
def ZeX(i:bP xs d b)(o:fC xs d b.ps.length c)(a:b.fs.length<63)(h:oR xs.length b c="")(e:c.k≠bC):wW xs d b c:=by
 obtain⟨t,n,m,_⟩:=RB h;obtain⟨s,k,j⟩:=Qd n;have g:=i_ (ps:=b.ps) e;refine⟨Iw i o a h,e,?_,⟨k,λ_=>⟨?_,λ⟨q,p⟩=>j ⟨q,by rw[g,p];rfl⟩⟩⟩,λl r=>m ⟨l,r⟩⟩;·grind
 ·rwa[←g]
def iJ(a:bL):O V:=a.map λp=>.str p.1
def t6(a:bL):(iJ a).length=a.length:=Ya _
def J_(b:0<=z)(h:z<(a.length:Int)):dO (iJ a) z=Z (.str (aw a z.toNat)):=by
 obtain⟨k,rfl⟩:∃k:Nat,z=(k:Int):=⟨z.toNat,(lX (uH b))⟩;refine jb ?_;unfold iJ aw
 grind
def zd{n:Nat}(h:0<n):0<=z % (n:Int)/\z % (n:Int)<(n:Int):=⟨W7 _ QO,Ww _ QO⟩
def Vt.IV(d:σ[i]?=Z (Z (.ref nl)))(c:H nl=Z (.lst (iJ a)))(g:0<a.length)(n:Vt e σ H (.int z)):Vt (ju (uy K) (fU i) (ju (rI (λ_ j=>0<j) λi j=>V.int (i % j)) e (nQ (zB K) (ib (fU i) jr)))) σ H (.str (aw a (z % (a.length:Int)).toNat)):=λk h=>⟨_,d,n _ λo b=>by
 have l:=t6 a;have m:=zd (z:=z) g;exact⟨_,d,nl,_,rfl,.inl (aq.of (b _ _ c)),_,_,rfl,rfl,QO,nl,_,_,_,rfl,rfl,aq.of (b _ _ c),by rw[l];exact J_ m.1 m.2,h o b⟩⟩
inductive S1(e:O V)(H:Hp)(Q:VK)(E:XK):Prop
 |mk (c b:U) (a:bL) (z:Int) (s:ar) (l:e=[.ref c,.ref b,.int z,.str s]) (k:H c=Z (.lst (iJ a))) (j:H b=Z (.dK (fF a))) (h:(a.map (·.1)).Nodup) (g:0<a.length) (pm:a.length<=100) (q:∀i,i<a.length->∀d,ak H d->Q (.str (aw a i)) d)
def ZeY(a b:O Int)(h:0<=d/\d<4):∃(k:ar) (c:O Int) (w:ar),dO [V.str "mother",V.str "father",V.str "wed",V.str "sibling"] d=Z (.str k)/\(k,c)∈sf a b/\dO [V.str "woman",V.str "man",V.str "woman",V.str ""] d=Z (.str w):=by
 have:d=0\/d=1\/d=2\/d=3:=QO
 rcases this with rfl|rfl|rfl|rfl;·exact⟨_,inv a,_,rfl,QS,rfl⟩
 ·exact⟨_,inv (bO a b),_,rfl,QS,rfl⟩
 ·exact⟨_,b,_,rfl,QS,rfl⟩
 ·exact⟨_,bG a.length,_,rfl,QS,rfl⟩
inductive S2(l:O V)(H:Hp)(Q:VK)(E:XK):Prop
 |mk (j i k:U) (a:bL) (b h:O Int) (p o n m e:Int) (y:l=[.ref j,.ref i,.ref k,.int (b.length:Int)]) (u:H j=Z (.lst (iJ a))) (t:H i=Z (.dK (fF a))) (s:(a.map (·.1)).Nodup) (r:0<a.length) (pm:a.length<=100) (hd:H k=Z (.lst ([p,o,n,m,e].map V.int))) (x:0<=e/\e<4) (v:qz b h) (q:∀c,fC b h a.length c->∀(d:U) (g:Hp),H d=aE->ak H g->g d=Z (.tup [.str c.k,.str (aw a c.one),kV (bp a c)])->Q (.ref d) g)
abbrev Lk:O ar:=["_law_names","_law_sides","_law_at","_law_side"]
def NR:aP ["_law_names","_law_sides","_law_at","_law_side","_law_k"] Lk (aH GX):=.a8
def ZbD(F:aM K "_law_pick" "_law_pick" GX f fd)(l:Bl B):aF P w K B I aL 1 f fd Lk S1:=by
 refine F.o NR λs H R h=>?_;obtain⟨r,p,d,z,o,rfl,v,Q,N,u,pm,q⟩:=h;refine⟨_,(au (ia gR rfl (pZ rfl l.ke (aa (di K l (pv 0)) ae)) (bc 4 NR.nd) (av (aR (PW.pt (pw_or (bH cD (pv 3) bo) (pw_or1 (bH cD (dt (bI R) (pv 1) (a_ (iL K) (pv 0) (bj eS (bj jg (pv 2) (pv 4)) (di K l (pv 0)))) (λ_ _=>rfl)) (pv 3))))) (av (aG (a_ (iL K) (pv 0) (bj eS (bj jg (pv 2) (pv 4)) (di K l (pv 0)))))) aX))) (av (aG (a_ (iL K) (pv 0) (bj eS (pv 2) (di K l (pv 0))))))),?_⟩;have pL:=t6 d;have at_:∀z:Int,(z % (d.length:Int)).toNat<d.length:=λz=>by have:=zd (z:=z) u;omega
 refine je (λc b=>ak H b/\∃g:bS V,c=[Z (.ref r),Z (.ref p),Z (.int z),Z (.str o),g]) (λqX T=>?_) ?_
 ·refine⟨_,rfl,r,_,rfl,.inl (aq.of v),_,rfl,QO,QO,Bg (lo:=0) (n:=(((iJ d).length:Nat):Int).toNat) (λ_ c b=>ak H b/\∃g:bS V,c=[Z (.ref r),Z (.ref p),Z (.int z),Z (.str o),g]) ⟨ak.refl _,aE,rfl⟩ ?_ (λc b h=>T _ _ h)⟩;rintro j c b hj ⟨a,g,rfl⟩;rw[DM];have J:∀m,ak b m->Vt _ _ m _:=λm t=>Vt.IV (K:=K) (i:=0) (σ:=[Z (.ref r),Z (.ref p),Z (.int z),Z (.str o),Z (.int (j:Int))]) (z:=z+(j:Int)) (e:=ju (sJ λi j=>V.int (i+j)) (fU 2) (fU 4)) rfl (t _ _ (a _ _ v)) u (λk A=>⟨_,rfl,_,rfl,_,_,rfl,rfl,A _ (ak.refl _)⟩);refine(Bt.or (Vt.test (Vt.eq (Vt.var rfl) (λ_ _=>Vt.c) rfl)) λm _ t=>Vt.test (Vt.eq (x:=.str (f_ d ((z+(j:Int)) % (d.length:Int)).toNat)) (y:=.str o) (λk A=>⟨_,rfl,J m t _ λX L=>⟨p,_,rfl,dm (L _ _ (t _ _ (a _ _ Q))) (oI N (at_ _)),A X L⟩⟩) (λ_ _=>Vt.var rfl) rfl)) _ λW E=>?_;refine bF (λ_=>?_) (λ_=>aS ⟨a.trans E,_,rfl⟩);exact J W E _ λG D=>q _ (at_ _) G ((a.trans E).trans D)
 rintro c b ⟨a,g,rfl⟩;exact Vt.IV (K:=K) (i:=0) (z:=z) rfl (a _ _ v) u (Vt.var rfl) _ λG D=>q _ (at_ _) G (a.trans D)
abbrev Ll:O ar:=["_law_names","_law_sides","_law_drawn","_law_size"]
def yt:aP ["_law_names","_law_sides","_law_drawn","_law_size","_law_kind","_law_one","_law_want"] Ll (aH GY):=.a8
def ZbE(F:aM K "_law_fact" "_law_fact" GY f fd)(Bc:HasFn P w K B I 1 "_law_pick" Lk S1)(bl:Bl B):aF P w K B I aL 2 f fd Ll S2:=by
 refine F.o yt λs H Q h=>?_;obtain⟨r,p,b,c,d,ys,d0,y,d2,d3,d4,rfl,t,N,J,l,pm,hd,b4,R,q⟩:=h;refine⟨_,(au (bV 4 yt.nd (a_ (iL K) (c6 (aa bo (aa bo (aa bo (aa bo ae))))) (a_ (iL K) (pv 2) aI))) (au (bV 5 yt.nd (a_ (iL K) (pv 0) (bj eS (a_ (iL K) (pv 2) aI) (di K bl (pv 0))))) (au (aR (bH Ke (a_ (iL K) (pv 2) aI) aI) (av (aG (df (aa bo (aa (pv 5) (aa (bj eS (a_ (iL K) (pv 2) aI) (pv 3)) ae)))))) aX) (au (aR (bH cD (pv 4) bo) (av (bV 5 yt.nd (aZ Bc Q (aa (pv 0) (aa (pv 1) (aa (a_ (iL K) (pv 2) aI) (aa bo ae))))))) aX) (au (bV 6 yt.nd (a_ (iL K) (c6 (aa bo (aa bo (aa bo (aa bo ae))))) (a_ (iL K) (pv 2) aI))) (av (aG (df (aa (pv 4) (aa (pv 5) (aa (aZ Bc Q (aa (pv 0) (aa (pv 1) (aa (a_ (iL K) (pv 2) aI) (aa (pv 6) ae))))) ae))))))))))),?_⟩;have sz:(10000:Nat)<=sizeLine:=by rw[dw];decide
 obtain⟨k,tn,wt,ek,e,ew⟩:=ZeY d ys b4;have at_:∀z:Int,(z % (c.length:Int)).toNat<c.length:=λz=>by have:=zd (z:=z) l;omega
 obtain⟨_,_,_,l2,l8⟩:=id R;have A:(0:Int)<(d.length:Int):=QO
 refine b_ ?_;refine⟨by show 4<=sizeLine;decide,λkl H1 nkl m DH=>⟨_,rfl,b,_,_,_,rfl,rfl,aq.of (m _ _ hd),rfl,kl,_,_,_,rfl,rfl,aq.of DH,ek,?_⟩⟩;refine b_ ?_;have sX:=m _ _ t;refine Vt.IV (K:=K) (i:=0) (z:=y) rfl sX l (λkk e=>⟨_,rfl,b,_,_,_,rfl,rfl,aq.of (m _ _ hd),rfl,e _ (ak.refl _)⟩) _ λH2 g2=>?_;have a:=m.trans g2;refine⟨_,rfl,b,_,_,_,rfl,rfl,aq.of (a _ _ hd),rfl,_,_,rfl,rfl,_,rfl,bF (λ_=>?_) (λ_=>aS ?_)⟩
 ·refine⟨_,rfl,_,rfl,b,_,_,_,rfl,rfl,aq.of (a _ _ hd),rfl,_,rfl,_,_,rfl,rfl,A,by show 3<=sizeLine;decide,λx H3 D v o=>?_⟩;have mm:=zd (z:=d3) (n:=d.length) (iz (nP _) l2);exact q ⟨bC,(y % (c.length:Int)).toNat,d3 % (d.length:Int),[]⟩ ⟨⟨at_ _,λz=>absurd rfl z⟩,.inl rfl,λ_=>mm⟩ x H3 (a.free D) (a.trans v) (by rw[o,kP rfl];rfl)
 have G:k≠bC:=λz=>Zcs (z▸e);refine mn (λE H6=>ak H H6/\∃i:Nat,i<c.length/\E=[Z (.ref r),Z (.ref p),Z (.ref b),Z (.int (d.length:Int)),Z (.str k),Z (.str (aw c i)),aE]) (λsW L=>?_) ?_
 ·refine⟨_,rfl,rfl,_,rfl,bF (λ_=>?_) (λ_=>aS (L _ _ ⟨a,_,at_ _,rfl⟩))⟩;refine⟨_,rfl,_,rfl,_,rfl,b,_,_,_,rfl,rfl,aq.of (a _ _ hd),rfl,r,p,c,y,"man",rfl,a _ _ t,a _ _ N,J,l,pm,λi u H3 v=>aU (L _ _ ⟨a.trans v,i,u,rfl⟩)⟩
 rintro E H6 ⟨X,i,u,rfl⟩;refine b_ ?_;refine⟨by show 4<=sizeLine;decide,λwl H7 XQ W zZ=>⟨_,rfl,b,_,_,_,rfl,rfl,aq.of (W _ _ (X _ _ hd)),rfl,wl,_,_,_,rfl,rfl,aq.of zZ,ew,?_⟩⟩;have g:=X.trans W;refine⟨_,rfl,_,rfl,_,rfl,_,rfl,_,rfl,b,_,_,_,rfl,rfl,aq.of (g _ _ hd),rfl,_,rfl,r,p,c,d2,wt,rfl,g _ _ t,g _ _ N,J,l,pm,λj hj H8 T=>⟨by show 3<=sizeLine;decide,λx H9 D g9 o=>?_⟩⟩;obtain⟨ft,tl⟩:=ZeK R e;exact q ⟨k,i,(j:Int),tn⟩ ⟨⟨u,λ_=>⟨⟨by show(0:Int)<=(j:Int);exact ro _,hj⟩,ft,tl⟩⟩,.inr e,λz=>absurd z G⟩ x H9 (g.free (T.free D)) ((g.trans T).trans g9) (by rw[o,i_ G];rfl)
def lS(n:Nat):O Nat:=if n<10 then[48+n] else[48+n/10,48+n % 10]
def lU(n:Nat):ar:=.ofString (toString (n:Int))
def IW:∀n<61,(lU n).cps.toList=lS n:=QK
def gf(k z:Nat):Nat:=if z/3 % 3=1 then 9 else(k*z+z) % 5
def lV(m:Nat):ar:=Txt.mul "q" (m:Int)
def Zgf:∀m<10,(lV m).cps.toList=List.replicate m 113:=QK
def vy:ar:="abcdefghijklmnopqrstuvwxyz"
def Ka:∀i<26,dO vy.cps.toList ((i:Nat):Int)=Z (97+i):=QK
def rC(i:Nat):ar:=⟨#[97+i]⟩
def dA(z k:Nat):ar:=if z % 3=0 then(rC ((k*7+z) % 26)++lU (k/26))++lV (gf k z) else if z % 3=1 then(rC (z % 26)++lV (gf k z))++lU ((k*17+z) % 61) else(rC (z % 26)++lU ((k*17+z) % 61))++lV (gf k z)
def Kb(k z:Nat):gf k z<10:=by
 unfold gf;split<;>omega
def wD(a b:ar):(a++b).cps.toList=a.cps.toList++b.cps.toList:=Array.toList_append
def HS(z k:Nat)(a:k<60):(dA z k).cps.toList=if z % 3=0 then[97+(k*7+z) % 26,48+k/26]++List.replicate (gf k z) 113 else if z % 3=1 then(97+z % 26)::(List.replicate (gf k z) 113++lS ((k*17+z) % 61)) else(97+z % 26)::(lS ((k*17+z) % 61)++List.replicate (gf k z) 113):=by
 have f:=Zgf _ (Kb k z);unfold dA;split
 ·rw[wD,wD,f,IW _ QO];unfold lS;rw[bt QO];rfl
 split
 ·rw[wD,wD,f,IW _ (i2 _ (by decide))];rfl
 ·rw[wD,wD,f,IW _ (i2 _ (by decide))];rfl
def M7(l:O Nat):Nat:=l.foldl (λa c=>10*a+(c-48)) 0
def CC:M7 (lS n)=n:=by
 unfold lS;split;·exact(xp _).trans (X_ _ _)
 ·show 10*(10*0+(48+n/10-48))+(48+n % 10-48)=n;rw[X_,X_,Nat.mul_zero,xp,Nat.div_add_mod]
def S3(h:n<61):∀c∈lS n,48<=c/\c<58:=by
 unfold lS
 grind
def Be(h:n<61):(lS n).filter (λc=>decide (c<58))=lS n:=Jj.mpr λc a=>dg (S3 h c a).2
def Bf(m:Nat):(List.replicate m 113).filter (λc=>decide (c<58))=[]:=by
 grind
def Zdz(j:k<60)(l:k'<60)(e:dA z k=dA z k'):k=k':=by
 have e:(dA z k).cps.toList=(dA z k').cps.toList:=by rw[e]
 rw[HS z k j,HS z k' l] at e;by_cases i:z % 3=0
 ·rw[bt i,bt i] at e;injection e with m e;injection e with a _;omega
 rw[bu i,bu i] at e;have b:(k*17+z) % 61=(k'*17+z) % 61->k=k':=λh=>QO
 by_cases g:z % 3=1
 ·rw[bt g,bt g] at e;injection e with _ e;have a:=dJ (List.filter λc=>decide (c<58)) e;rw[Wl,Wl,Bf,Bf,Be (i2 _ (by decide)),Be (i2 _ (by decide)),WC,WC] at a;have d:=dJ M7 a;rw[CC,CC] at d;exact b d
 ·rw[bu g,bu g] at e;injection e with _ e;have a:=dJ (List.filter λc=>decide (c<58)) e;rw[Wl,Wl,Bf,Bf,Be (i2 _ (by decide)),Be (i2 _ (by decide)),Wc,Wc] at a;have d:=dJ M7 a;rw[CC,CC] at d;exact b d
def S4:∀i<26,gG qh (97+i)=af/\gG nj (97+i)=af:=QK
def S5:∀i<10,gG nj (48+i)=af:=QK
def ZjX:gG nj 113=af:=QK
def ZcC(l:k<60):ui (dA z k)=af/\(dA z k).length<=12:=by
 have q:=Kb k z;have b:(List.replicate (gf k z) 113).all (gG nj)=af:=Wp.mpr λc d=>by rw[List.eq_of_mem_replicate d];exact ZjX
 have s:∀n,n<61->(lS n).all (gG nj)=af/\(lS n).length<=2:=λn j=>by
  refine⟨Wp.mpr λc d=>?_,?_⟩
  ·have:=S3 j c d;have e:=S5 (c-48) QO
   grind
  ·unfold lS;split<;>simp
 have len:(dA z k).length=(dA z k).cps.toList.length:=rfl;have c:=HS z k l;have a:∃(i:Nat) (r:O Nat),i<26/\(dA z k).cps.toList=(97+i)::r/\r.length<=11/\r.all (gG nj)=af:=by
  by_cases m:z % 3=0
  ·rw[bt m] at c;refine⟨_,_,(i2 _ (by decide)),c,?_,?_⟩
   ·show((48+k/26)::List.replicate (gf k z) 113).length<=11
    grind
   ·show((48+k/26)::List.replicate (gf k z) 113).all (gG nj)=af;rw[Ji,b,S5 _ QO];rfl
  grind
 obtain⟨i,r,g,e,p,o⟩:=a;have h:(dA z k).length<=12:=by
  grind
 refine⟨?_,h⟩;rw[O3 e,dg h,(S4 i g).1,Ji,(S4 i g).2,o];rfl
def Zgg:∀m<10,(lV m).length<=9:=QK
def RC:∀n<61,(lU n).length<=2:=QK
def IX(a b:ar):(a++b).length=a.length+b.length:=Array.size_append
inductive S6(a:O V)(H:Hp)(Q:VK)(E:XK):Prop
 |mk (k z:Nat) (d:a=[.int (k:Int),.int (z:Int)]) (c:k<60) (b:z<97) (q:Q (.str (dA z k)) H)
abbrev Lm:O ar:=["_law_k","_law_salt"]
def yu:aP ["_law_k","_law_salt","_law_letters","_law_fill","_law_number"] Lm (aH GU):=.a8
def ZbF(F:aM K "_law_name" "_law_name" GU f fd)(t:Bl B):aF P w K B I aL 1 f fd Lm S6:=by
 refine F.o yu λs H R h=>?_;obtain⟨k,z,rfl,W,Q,q⟩:=h;refine⟨_,(au (bV 2 yu.nd bo) (au (bV 3 yu.nd (bj QW bo (bj eS (bj jg (bj ql (pv 0) (pv 1)) (pv 1)) aI))) (au (bV 4 yu.nd (bj eS (bj jg (bj ql (pv 0) aI) (pv 1)) aI)) (au (aR (bH cD (bj eS (bj BG (pv 1) aI) aI) aI) (av (bV 3 yu.nd (bj QW bo aI))) aX) (au (aR (bH cD (bj eS (pv 1) aI) aI) (av (aG (bj vX (bj vX (a_ yX (pv 2) (bj eS (bj jg (bj ql (pv 0) aI) (pv 1)) aI)) (fL FO rfl t.zk yZ (aa (bj BG (pv 0) aI) ae))) (pv 3)))) aX) (au (aR (bH cD (bj eS (pv 1) aI) aI) (av (aG (bj vX (bj vX (a_ yX (pv 2) (bj eS (pv 1) aI)) (pv 3)) (fL FO rfl t.zk yZ (aa (pv 4) ae))))) aX) (av (aG (bj vX (bj vX (a_ yX (pv 2) (bj eS (pv 1) aI)) (fL FO rfl t.zk yZ (aa (pv 4) ae))) (pv 3)))))))))),?_⟩;have G:zu (k:Int) (z:Int):=.inl ⟨QO,QO⟩;have A:∀j:Int,zu (k:Int) j:=λj=>.inl ⟨QO,QO⟩;have J:KI (z:Int) 3:=⟨(by decide),(by decide)⟩;have p:KI (k:Int) 26:=⟨(by decide),(by decide)⟩;have sz:(10000:Nat)<=sizeLine:=by rw[dw];decide
 have y:((k:Int)*17+(z:Int)) % 61=(((k*17+z) % 61:Nat):Int):=rfl
 have b:((k:Int)*7+(z:Int)) % 26=(((k*7+z) % 26:Nat):Int):=rfl
 have x:(z:Int) % 26=((z % 26:Nat):Int):=rfl
 have o:(k:Int)/26=((k/26:Nat):Int):=rfl
 have E:((k:Int)*(z:Int)+(z:Int)) % 5=(((k*z+z) % 5:Nat):Int):=by rw[Int.natCast_emod,Ud,Int.natCast_mul];rfl
 refine setC ?_;refine b_ ?_;refine⟨_,rfl,_,rfl,_,_,rfl,rfl,G,_,rfl,_,_,rfl,rfl,_,_,rfl,rfl,(by decide),"q",(k*z+z) % 5,rfl,dJ V.int E,QK,QO,?_⟩;refine b_ ?_;refine⟨_,rfl,_,_,rfl,rfl,A _,_,rfl,_,_,rfl,rfl,_,_,rfl,rfl,(by decide),?_⟩;refine mn (λu D=>D=H/\u=[Z (.int (k:Int)),Z (.int (z:Int)),Z (.str vy),Z (.str (lV (gf k z))),Z (.int (((k*17+z) % 61:Nat):Int))]) (λL v=>?_) ?_
 ·refine⟨_,rfl,_,_,rfl,rfl,J,_,_,rfl,rfl,(by decide),rfl,_,rfl,bF (λc=>?_) (λc=>aS ?_)⟩
  ·have c:=V.int.inj (eB c);have r:z/3 % 3=1:=QO
   have m:gf k z=9:=bt r;refine⟨"q",9,rfl,rfl,QK,(by decide),aU (v _ _ ⟨rfl,?_⟩)⟩;rw[m,←y];rfl
  ·have r:¬z/3 % 3=1:=λw=>c (dg (dJ V.int QO));have m:gf k z=(k*z+z) % 5:=bu r;refine v _ _ ⟨rfl,?_⟩;rw[m,←y];rfl
 rintro u D ⟨rfl,rfl⟩;have N:=Zgg _ (Kb k z);have d:vy.length<=sizeLine:=Yy (show vy.length<=100 by decide+kernel) (by decide);have g:∀n:Nat,n<61->(n:Int).natAbs.log2<1920:=λn T=>Jb (Nat.log2_le_self _) QO;refine⟨_,rfl,_,_,rfl,rfl,(by decide),rfl,_,rfl,bF (λc=>?_) (λc=>aS ?_)⟩
 ·have a:z % 3=0:=by have:=V.int.inj (eB c);omega
  have ld:=RC (k/26) QO;refine⟨_,rfl,_,rfl,_,_,rfl,rfl,A _,_,rfl,_,_,rfl,rfl,_,_,rfl,rfl,(by decide),vy,_,_,rfl,dJ V.int b,d,Ka _ (i2 _ (by decide)),_,rfl,_,_,rfl,rfl,p,((k/26:Nat):Int),dJ (λi=>[V.int i]) o,g _ QO,_,_,rfl,rfl,?_,_,rfl,_,_,rfl,rfl,?_,?_⟩
  ·show 1+(lU (k/26)).length<=sizeLine;omega
  ·show(rC ((k*7+z) % 26)++lU (k/26)).length+(lV (gf k z)).length<=sizeLine;rw[IX];show 1+_+_<=_;omega
  ·have e:dA z k=(rC ((k*7+z) % 26)++lU (k/26))++lV (gf k z):=bt a;rw[e] at q;exact q
 have a:¬z % 3=0:=λw=>c (dg (dJ V.int QO));have ld:=RC ((k*17+z) % 61) (i2 _ (by decide));refine⟨_,rfl,_,_,rfl,rfl,(by decide),rfl,_,rfl,bF (λc=>?_) (λc=>aS ?_)⟩
 ·have l:z % 3=1:=by have:=V.int.inj (eB c);omega
  refine⟨_,rfl,_,rfl,_,_,rfl,rfl,(by decide),vy,_,_,rfl,dJ V.int x,d,Ka _ (i2 _ (by decide)),_,rfl,_,_,rfl,rfl,?_,_,rfl,_,rfl,g _ (i2 _ (by decide)),_,_,rfl,rfl,?_,?_⟩
  ·show 1+(lV (gf k z)).length<=sizeLine;omega
  ·show(rC (z % 26)++lV (gf k z)).length+(lU ((k*17+z) % 61)).length<=sizeLine;rw[IX];show 1+_+_<=_;omega
  ·have e:dA z k=(rC (z % 26)++lV (gf k z))++lU ((k*17+z) % 61):=(bu a).trans (bt l);rw[e] at q;exact q
 have l:¬z % 3=1:=λw=>c (dg (dJ V.int QO));refine⟨_,rfl,_,rfl,_,_,rfl,rfl,(by decide),vy,_,_,rfl,dJ V.int x,d,Ka _ (i2 _ (by decide)),_,rfl,_,rfl,g _ (i2 _ (by decide)),_,_,rfl,rfl,?_,_,rfl,_,_,rfl,rfl,?_,?_⟩
 ·show 1+(lU ((k*17+z) % 61)).length<=sizeLine;omega
 ·show(rC (z % 26)++lU ((k*17+z) % 61)).length+(lV (gf k z)).length<=sizeLine;rw[IX];show 1+_+_<=_;omega
 ·have e:dA z k=(rC (z % 26)++lU ((k*17+z) % 61))++lV (gf k z):=(bu a).trans (bu l);rw[e] at q;exact q
def fP(H:Hp)(C CL CJ:U)(l:BL)(d c:O Int)(b:BS):Prop:=∃a:O (Nat×Fc),a.Perm b.fs/\bB H C CL CJ l d c {b with fs:=a}
section
variable {xs X:O Int}{b:BS}
def fP.obj(h:fP H C CL CJ l xs X b):∃a,H l.h=Z (.ins C a (HF l.L l.sd l.pl l.fc l.kn l.pr (b.co:Int) l.dn l.un l.rk)):=let⟨_,_,e⟩:=h;e.obj
def fP.same(g:ak H a)(h:fP H C CL CJ l xs X b):fP a C CL CJ l xs X b:=let⟨f,p,e⟩:=h;⟨f,p,e.same g⟩
def fP.tup(h:fP H C CL CJ l xs X b)(e:H a=Z (.tup us)):a∉l.fp:=let⟨_,_,q⟩:=h;q.tup e
def fP.fresh(h:fP H C CL CJ l xs X b)(e:H a=aE):a∉l.fp:=λz=>let⟨_,_,q⟩:=h;q.there z e
variable {W:O (Nat×Fc)}
def uI.pm(a:W.Perm b.fs)(n:uI xs X b c):uI xs X {b with fs:=W} c:=
 ⟨n.fg,λz=>n.nk ((a.map λp:Nat×Fc=>eF b.ps p.2).subset z),λp z=>n.np p ((((a.filter _).map _).map _).subset z),let⟨f,i,s⟩:=n.lv;⟨f,i,λd m=>s d (by
  rcases Yv.mp m with m|m;·exact Ys _ ((a.map _).subset m)
  ·exact Ym _ m)⟩,by exact a.length_eq▸n.lim⟩
def bP.pm(d:W.Perm b.fs)(a:bP xs X b):bP xs X {b with fs:=W}:=
 ⟨a.gd,a.nm,a.m,by exact d.length_eq▸a.fl,λp e=>a.fg p (d.subset e),(d.map _).nodup_iff.mpr a.zs,λp e=>a.lt p (d.subset e),(d.map λp:Nat×Fc=>eF b.ps p.2).nodup_iff.mpr a.ky,(((d.filter _).map _).map _).nodup_iff.mpr a.pr,let⟨f,i,s⟩:=a.lv;⟨f,i,λc m=>s c ((d.map _).subset m)⟩,a.dl,a.ul⟩
def Zgh(d:W.Perm b.fs)(g:bP xs X b):z∈fV {b with fs:=W} a↔z∈fV b a:=by
 rw[BC (g.pm d),BC g];exact⟨λ⟨c,m,e⟩=>⟨c,(d.map _).subset m,e⟩,λ⟨c,m,e⟩=>⟨c,(d.symm.map _).subset m,e⟩⟩
theorem fG.pm(c:W.Perm b.fs)(d:bP xs X b){a z:ar}(h:fG {b with fs:=W} a z):fG b a z:=by
 induction h with
 |refl=>exact .refl
 |step _ m e=>exact .step e ((Zgh c d).mp m)
def wW.pm(a:W.Perm b.fs)(d:bP xs X b)(n:wW xs X b c):wW xs X {b with fs:=W} c:=
 ⟨n.nf.pm a,n.ns,n.cA,⟨λp z=>n.un.par p ((((a.filter _).map _).map _).subset z),λp=>⟨λz=>(n.un.aJ p).1 ((a.map λp:Nat×Fc=>eF b.ps p.2).subset z),(n.un.aJ p).2⟩⟩,λp z=>n.el p (z.pm a d)⟩
def uk.pm(a:W.Perm b.fs)(n:uk xs X b c):uk xs X {b with fs:=W} c:=⟨n.nf.pm a,n.sk⟩
def xu.pm(h:xu b n s):xu {b with fs:=W} n s:=⟨h.UZ,h.side,h.new,h.lim,h.nl⟩
def ZhN(a:W.Perm b.fs)(z:Nat):(cz z W).Perm (cz z b.fs):=a.filter _
end
inductive Uc(C CL CJ:U)(i:O V)(H:Hp)(Q:VK)(E:XK):Prop
 |mk (l:BL) (b:BS) (a d:O Int) (c:Fc) (h:U) (p:i=[.ref l.h,.ref h]) (o:fP H C CL CJ l a d b) (ok:bP a d b) (m:H h=Z (.tup [.str c.k,.str (aw b.ps c.one),kV (bp b.ps c)])) (n:fC a d b.ps.length c) (j:b.fs.length<63) (k:oR a.length b c="") (dl:b.dn.length<200) (q:∀(g:BL) (e:Hp),bq H e l g->fP e C CL CJ g a d (b.wV c)->Q (.int (b.co:Int)) e)
structure dD(C CL CJ:U)(H:Hp)(xs ys:O Int)(z j:Nat)(td:U)(l:BL)(b:BS)(nl sd fl st:U):Prop where
 ba:fP H C CL CJ l xs ys b
 ok:bP xs ys b
 names:H nl=Z (.lst (iJ b.ps))
 n1:nl∉l.fp
 cA:H sd=Z (.dK (fF b.ps))
 n2:sd∉l.fp
 facts:∃as:O U,H fl=Z (.lst (as.map V.ref))/\Paired (dC H b.ps) as b.fs
 n3:fl∉l.fp
 tup:H st=Z (.tup [.ref nl,.ref sd,.ref fl,.int (b.co:Int)])
 turns:gc H td xs ys
 n4:td∉l.fp
 nm:b.ps.map (·.1)=(List.range b.ps.length).map (dA z)
 so:(b.fs.map (·.1)).Pairwise (·<·)
 cp:b.ps.length<=j
 cf:b.ps.length+b.fs.length<=j
 cd:b.dn.length<=j
section
variable {H W:Hp}{xs X:O Int}{z j:Nat}{T:U}{l l':BL}{b:BS}{P Q R st:U}
def dD.same(g:ak H W)(s:dD C CL CJ H xs X z j T l b P Q R st):dD C CL CJ W xs X z j T l b P Q R st:=
 ⟨s.ba.same g,s.ok,g _ _ s.names,s.n1,g _ _ s.cA,s.n2,let⟨as,c,a⟩:=s.facts;⟨as,g _ _ c,L2.Paired.bA a λ _ _=>g _ _⟩,s.n3,g _ _ s.tup,s.turns.same g,s.n4,s.nm,s.so,s.cp,s.cf,s.cd⟩
def dD.more(s:dD C CL CJ H xs X z j T l b P Q R st):dD C CL CJ H xs X z (j+1) T l b P Q R st:=
 ⟨s.ba,s.ok,s.names,s.n1,s.cA,s.n2,s.facts,s.n3,s.tup,s.turns,s.n4,s.nm,s.so,W5 s.cp,W5 s.cf,W5 s.cd⟩
theorem dD.FL(s:dD C CL CJ H xs X z j T l b P Q R st):FL H b.ps R b.F:=by
 obtain⟨a,g,d⟩:=s.facts;refine⟨a,g,?_⟩;have:∀{a:O U} {fs:O (Nat×Fc)},Paired (dC H b.ps) a fs->Paired (MS H b.ps) a (fs.map (·.2)):=λh=>by
  induction h with
  |nil=>exact .nil
  |cons e _ c=>exact .cons ⟨_,e⟩ c
 exact this d
def bq.off(w:bq H W l l')(h:H a=Z o)(n:a∉l.fp):W a=Z o/\a∉l'.fp:=
 ⟨w.out _ _ h n,λz=>(w.grow a z).elim n λq=>by rw[h] at q;cases q⟩
def bq.bU(w:bq H W l l')(c:fP H C CL CJ l xs X b)(h:H a=Z (.tup us)):W a=Z (.tup us):=w.out _ _ h (c.tup h)
def bq.gc(w:bq H W l l')(a:fP H C CL CJ l xs X b)(h:gc H T xs X)(n:T∉l.fp):gc W T xs X:=by
 obtain⟨m,f,c,s,k,i,g,e,d⟩:=h;exact⟨m,f,c,s,w.out _ _ k n,w.bU a i,w.bU a g,w.bU a e,w.bU a d⟩
def yE(w:bq H W l l')(c:fP H C CL CJ l xs X b)(h:Paired (dC H a) as fs):Paired (dC W a) as fs:=L2.Paired.bA h λ_ _ e=>w.bU c e
def dC.ext(d:fC xs X c.length p.2)(h:dC H c a p):dC H (c++[(n,s)]) a p:=by
 have e:∀i,i<c.length->aw (c++[(n,s)]) i=aw c i:=λi m=>by
  unfold aw
  grind
 unfold dC dG at h⊢;have g:bp (c++[(n,s)]) p.2=bp c p.2:=by
  by_cases k:p.2.k=bC;·rw[kP k,kP k]
  ·rw[i_ k,i_ k,e _ (d.ok.iD k).1.2]
 rwa[e _ d.ok.one,g]
def dD.fresh(s:dD C CL CJ H xs X z j T l b P Q R st)(a:j<60)(tI:ar)(g:JX tI=af):xu b (dA z b.ps.length) tI:=by
 have c:=s.cp;obtain⟨n,h⟩:=ZcC (k:=b.ps.length) (nG c a);refine⟨n,g,λm=>?_,QO,(dW h (by decide))⟩;rw[s.nm] at m;obtain⟨i,d,e⟩:=Yg.mp m;have d:=Wv.mp d;have:=Zdz QO (nG c a) e;omega
def nm_more(h:b.ps.map (·.1)=(List.range b.ps.length).map (dA z))(s:ar):(b.ps++[(dA z b.ps.length,s)]).map (·.1)=(List.range (b.ps++[(dA z b.ps.length,s)]).length).map (dA z):=by
 rw[Yi,h,Yd];show _++[dA z b.ps.length]=(List.range (b.ps.length+1)).map (dA z);rw[J8,Yi];rfl
end
inductive Dd(b:BS)(d a e g:U):BS->U->U->U->U->Prop
 |aA:Dd b d a e g b d a e g
 |pin (n s:ar) (k j h:U):Dd b d a e g (b.zt n s) k j e h
 |fin (c:Fc) (i h:U):Dd b d a e g (b.wV c) d a i h
 |jS (z:Nat) (c:Fc) (m:(z,c)∈b.fs) (i h:U):Dd b d a e g (b.without z c) d a i h
inductive RD(C CL CJ:U)(t:O V)(H:Hp)(Q:VK)(E:XK):Prop
 |mk (h g:O Int) (z j:Nat) (a:Int) (c:U) (l:BL) (b:BS) (m k p st:U) (y:t=[.ref l.h,.ref st,.int a,.ref c,.int (z:Int)]) (u:dD C CL CJ H h g z j c l b m k p st) (v:z<97) (x:j<60) (q:∀(o:BL) (r:BS) (s i n d:U) (e:Hp),bq H e l o->dD C CL CJ e h g z (j+1) c o r s i n d->Dd b m k p st r s i n d->Q (.ref d) e)
theorem ZbG{P Q:α->β->Prop}(h:∀a b,b∈bs->P a b->Q a b)(p:Paired P as bs):Paired Q as bs:=by
 induction p with
 |nil=>exact .nil
 |cons e _ c=>exact .cons (h _ _ Yk e) (c λa b d=>h a b (Yx _ d))
def ZcD(a:O b)(p:b->cm):((List.range a.length).filter λi=>(a[i]?.map p).getD a7).map (λi=>a[i]?)=(a.filter p).map Z:=by
 have e:(List.range a.length).map (λi=>a[i]?)=a.map Z:=Wu λi=>by
  grind
 have h:=D1 (f:=λi=>a[i]?) (l:=List.range a.length) (p:=λo:bS b=>(o.map p).getD a7);rw[e,D1] at h;exact h.symm
theorem RE:∀{l:O (Nat×α)},(l.map (·.1)).Nodup->∀{p q:Nat×α},p∈l->q∈l->p.1=q.1->p=q
 |[],_,_,_,h,_,_=>nomatch h
 |a::l,b,p,q,g,d,e=>by
  obtain⟨n,c⟩:=Yz.mp (show(a.1::l.map (·.1)).Nodup from b);rcases Yp.mp g with m|j<;>rcases Yp.mp d with k|i;·rw[m,k]
  ·grind
  ·grind
  ·exact RE c j i e
def S7(a:O Key):(a.map kV).all iC=af:=by
 rw[Wp];intro v b;obtain⟨k,_,rfl⟩:=Yg.mp b;cases k<;>rfl
def Zgi:∃s:ar,dO [V.str "man",V.str "woman"] (d % 2)=Z (.str s)/\JX s=af:=by
 have:d % 2=0\/d % 2=1:=QO
 rcases this with e|e<;>rw[e];·exact⟨_,rfl,QK⟩
 ·exact⟨_,rfl,QK⟩
abbrev Dc:O ar:=["_law_book","_law_fact_here"]
def ZcE:aP Dc Dc (aH HL):=.a8
def ZcF(F:aM K "_law_put" "_law_put" HL f fd)(J:bZ P w K B I 12 "say" C zL (JZ C CL CJ))(L:bZ P w K B I 12 "tie" C qF (SW C CL CJ)):aF P w K B I aL 13 f fd Dc (Uc C CL CJ):=by
 refine F.o ZcE λs H v h=>?_;obtain⟨l,b,p,o,c,d,rfl,E,ok,a,y,e,u,dl,q⟩:=h;refine⟨_,(au (aR (bH cD (a_ (iT K) (pv 1) aI) bo) (av (aG (cQ J v (by decide) (pv 0) (aa (a_ (iT K) (pv 1) aI) (aa (a_ (iT K) (pv 1) aI) ae))))) aX) (av (aG (cQ L v (by decide) (pv 0) (aa (a_ (iT K) (pv 1) aI) (aa (a_ (iT K) (pv 1) aI) (aa (a_ (iT K) (pv 1) aI) ae))))))),?_⟩;refine hI ?_;intros;obtain⟨A,x⟩:=E.obj;obtain⟨G,pm,D⟩:=E;refine⟨_,rfl,d,_,_,_,rfl,rfl,az.of a,rfl,rfl,_,rfl,?_⟩;rw[eO];refine bF (λm=>?_) (λm=>aS ?_)
 ·have r:=eB m;have k:kV (bp b.ps c)=.int c.aJ:=by rw[kP r];rfl
  exact⟨_,rfl,l.h,A,_,rfl,x,rfl,_,rfl,d,_,_,_,rfl,rfl,az.of a,rfl,_,rfl,d,_,_,_,rfl,rfl,az.of a,rfl,l,{b with fs:=G},p,o,c,by rw[k];rfl,D,ok.pm pm,(uk.mk (Iw ok y e u) r).pm pm,dl,λj n g i=>q j n g ⟨_,pm.append_right _,i⟩⟩
 ·have t:=λz=>m (dg z);have k:kV (bp b.ps c)=.str (aw b.ps c.aJ.toNat):=by rw[i_ t];rfl
  exact⟨_,rfl,l.h,A,_,rfl,x,rfl,_,rfl,d,_,_,_,rfl,rfl,az.of a,rfl,_,rfl,d,_,_,_,rfl,rfl,az.of a,rfl,_,rfl,d,_,_,_,rfl,rfl,az.of a,rfl,l,{b with fs:=G},p,o,c,by rw[k];rfl,D,ok.pm pm,(ZeX ok y e u t).pm pm ok,dl,λj n g i=>q j n g ⟨_,pm.append_right _,i⟩⟩
abbrev Ln:O ar:=["_law_book","_law_state","_law_cell_here","_law_turns_here","_law_salt"]
def m8:aP ["_law_book","_law_state","_law_cell_here","_law_turns_here","_law_salt","_law_names","_law_sides","_law_facts","_law_after_here","_law_drawn","_law_name_here","_law_side","_law_fact_here","_law_out"] Ln (aH GZ):=.a8
theorem ZbH(F:aM K "_law_step" "_law_step" GZ f fd)(pW:HasFn P w K B I 1 "_law_draws" Aj (BM K))(Hd:HasFn P w K B I 1 "_law_name" Lm S6)(Hf:HasFn P w K B I 2 "_law_fact" Ll S2)(Hg:HasFn P w K B I 4 "_law_word" Lj S0)(HU:HasFn P w K B I 13 "_law_put" Dc (Uc C CL CJ))(E9:bZ P w K B I 11 "person" C C3 (P7 C CL CJ))(FI:bZ P w K B I 11 "take" C zF (SS C CL CJ))(bl:Bl B):aF P w K B I aL 14 f fd Ln (RD C CL CJ):=by
 refine F.o m8 λs H W h=>?_;obtain⟨xs,T,z,j,cell,td,l,b,nl,sd,fl,st,rfl,r,hz,hj,q⟩:=h;have hu:=W.qm;refine⟨_,(au (kg (pv 1) (gO (K:=K) (n:=4) rfl rfl (bw (bc 5 m8.nd) (bw (bc 6 m8.nd) (bw (bc 7 m8.nd) (bw (bc 8 m8.nd) gM)))))) (au (bV 9 m8.nd (aZ pW W (aa (pv 2) (aa (c6 (aa aI (aa aI (aa aI (aa aI (aa aI ae)))))) ae)))) (au (aR (PW.pt (pw_or (bH ny (di K bl (pv 5)) aI) (pw_or1 (bH ny (a_ (iL K) (pv 9) aI) aI)))) (au (bV 10 m8.nd (aZ Hd W (aa (di K bl (pv 5)) (aa (pv 4) ae)))) (au (bV 11 m8.nd (a_ (iL K) (c6 (aa bo (aa bo ae))) (bj eS (a_ (iL K) (pv 9) aI) aI))) (au (cv (cQ E9 W (by decide) (pv 0) (aa (pv 10) (aa (pv 11) ae)))) (au (bV 6 m8.nd (fL Zbl rfl bl.ZgV ZfJ (aa (pv 6) ae))) (au (qc (bI W) (pv 6) (pv 10) (pv 11)) (av (aG (df (aa (bj tX (pv 5) (c6 (aa (pv 10) ae))) (aa (pv 6) (aa (pv 7) (aa (pv 8) ae)))))))))))) aX) (au (aR (bH ny (a_ (iL K) (pv 9) aI) aI) (au (bV 12 m8.nd (aZ Hf W (aa (pv 5) (aa (pv 6) (aa (pv 9) (aa (di K bl (dt (bI W) (pv 3) bo (λ_ _=>rfl))) ae)))))) (au (aR (bH nv (aZ Hg W (aa (pv 6) (aa (pv 7) (aa (pv 3) (aa (pv 12) ae))))) bo) (av (aG (pv 1))) aX) (au (cv (aZ HU W (aa (pv 0) (aa (pv 12) ae)))) (av (aG (df (aa (pv 5) (aa (pv 6) (aa (bj tX (pv 7) (c6 (aa (bj Zff (df (aa (pv 8) ae)) (pv 12)) ae))) (aa (bj jg (pv 8) aI) ae)))))))))) aX) (au (aR (bH (tY (K:=K) rfl (JM hu)) (pv 7) (c6 ae)) (av (aG (pv 1))) aX) (au (h_ (i:=13) m8.nd rfl (Or.inr rfl) (a_ (iL K) (pv 7) (bj eS (a_ (iL K) (pv 9) aI) (di K bl (pv 7))))) (au (cv (cQ FI W (by decide) (pv 0) (aa (a_ (iT K) (pv 13) aI) ae))) (av (aG (df (aa (pv 5) (aa (pv 6) (aa (jK (x:="_law_one") (fr:=[("_law_out",13)]) (cl:=[("_law_out",s.heap.objs.size+1)]) rfl (.gW ⟨rfl,trivial⟩ ⟨⟨rfl,.inl rfl,.inl rfl,rfl⟩,trivial⟩) (gn (K:=K) rfl (pv 7)) (λ_ _ _ _=>yO (bH (Zhx (K:=K) rfl hu) (pv 0) (pv 1))) (λ_ _ _ _=>(pv 0))) (aa (pv 8) ae)))))))))))))),?_⟩;refine V7 ?_;intros;have sz:(10000:Nat)<=sizeLine:=by rw[zl];decide
 refine⟨_,rfl,st,_,rfl,az.of r.tup,rfl,_,_,rfl,aU ⟨_,_,rfl,aU ⟨_,_,rfl,aU ⟨_,_,rfl,aU ⟨rfl,?_⟩⟩⟩⟩⟩;dsimp only;refine b_ ?_;refine⟨_,rfl,by show 5<=sizeLine;decide,λpp H1 np g1 L=>⟨cell,pp,[16,61,59,8,4],rfl,aq.of L,by decide,by decide,λdr ds H2 nd g2 h2 bd=>?_⟩⟩;obtain⟨d0,d1,d2,d3,d4,rfl,_,_,_,_,b4⟩:=ZfQ bd;have mZ:=g1.trans g2;have s2:=r.same mZ;obtain⟨dx,ho⟩:=s2.ba.obj;have pL:=t6 b.ps;have cp:=r.cp;have cf:=r.cf;have cd:=r.cd;have Ej:=r.ok.m;have YD:=r.ok.fl;have ix:∀{i:Int} {v:Int} {H9:Hp},ak H2 H9->dO ([d0,d1,d2,d3,d4].map V.int) i=Z (.int v)->∀σ:St,σ[9]?=Z (Z (.ref dr))->Vt (ju (uy K) (fU 9) (tC (V.int i))) σ H9 (.int v):=λg e σ M8 kk hk=>⟨_,M8,dr,_,_,_,rfl,rfl,aq.of (g _ _ h2),e,hk _ (ak.refl _)⟩;refine(Bt.or (a:=decide (((iJ b.ps).length:Int)<2)) (b:=decide (d0<5)) (λkk hk=>⟨_,rfl,nl,_,rfl,.inl (aq.of s2.names),_,_,rfl,rfl,_,rfl,hk _ (ak.refl _)⟩) λH3 _ g3 kk hk=>ix g3 rfl _ rfl _ λH4 G=>⟨_,_,rfl,rfl,_,rfl,hk _ G⟩) _ λH3 g3=>?_;have s3:=s2.same g3;have kH:=mZ.trans g3;rw[pL];refine bF (λcc=>?_) (λcc=>aS ?_)
 ·refine b_ ?_;refine⟨_,rfl,nl,_,rfl,.inl (aq.of s3.names),_,rfl,b.ps.length,z,by rw[pL];rfl,nG cp hj,hz,?_⟩;refine b_ ?_;obtain⟨sx,es,so⟩:=Zgi (d:=d1);refine⟨by show 2<=sizeLine;decide,λsl H4 My G hsl=>ix (g3.trans G) rfl _ rfl _ λH5 N=>⟨_,_,rfl,rfl,by decide,sl,_,_,_,rfl,rfl,aq.of (N _ _ hsl),es,?_⟩⟩;have k:=(s3.same G).same N;have En:=(kH.trans G).trans N;obtain⟨M9,M_⟩:=k.ba.obj;obtain⟨f5,kM,rD⟩:=k.ba;refine⟨_,rfl,l.h,M9,_,rfl,M_,rfl,_,rfl,_,rfl,l,{b with fs:=f5},xs,T,dA z b.ps.length,sx,rfl,rD,k.ok.pm kM,(k.fresh hj sx so).pm,by show b.dn.length<200;omega,λl' H6 J Na=>?_⟩;have lW:fP H6 C CL CJ l' xs T (b.zt (dA z b.ps.length) sx):=⟨f5,kM,Na⟩;have Nb:=k.fresh hj sx so;dsimp only;refine b_ ?_;have off:=λ{a:U} {o:HO} (h:H5 a=Z o) (n:a∉l.fp)=>J.off h n;obtain⟨AM,De⟩:=off k.cA k.n2;obtain⟨AN,Df⟩:=off k.names k.n1;obtain⟨A,ot,dM⟩:=k.facts;obtain⟨x9,Lo⟩:=off ot k.n3;refine⟨_,rfl,sd,_,rfl,AM,λs' H7 cI X nR=>?_⟩;have vn:a9 (fF b.ps) (.inr (dA z b.ps.length))=aE:=tO λhm=>Nb.new (by
   obtain⟨p,L,e⟩:=Yg.mp hm;obtain⟨p',AO,rfl⟩:=Yg.mp L;exact Yg.mpr ⟨p',AO,We e⟩)
  refine⟨_,rfl,_,rfl,_,rfl,s',_,.inr (dA z b.ps.length),rfl,nR,rfl,by rw[Ya];omega,λH8 b8 e8=>?_⟩;have Q:ak H6 H8:=λc o e=>b8 _ _ (X _ _ e) (cE e cI);rw[l4 _ vn] at e8;refine⟨_,rfl,_,rfl,by show 1<=sizeLine;decide,λt H9 nt g9 ht=>⟨nl,t,_,_,rfl,rfl,g9 _ _ (Q _ _ AN),ht,by rw[pL];show _+1<=_;omega,λn' HA nn' gA xy=>⟨_,rfl,_,rfl,_,rfl,by show 4<=sizeLine;decide,λaO HB DQ gB dI=>?_⟩⟩⟩;have AQ:=(g9.trans gA).trans gB;have R:=Q.trans AQ;have pe:(b.zt (dA z b.ps.length) sx).ps=b.ps++[(dA z b.ps.length,sx)]:=rfl;obtain⟨tm,tf,tw,ts,eQ,_⟩:=id k.turns;refine q l' (b.zt (dA z b.ps.length) sx) n' s' fl aO HB ((bq.after En J).same R) ⟨lW.same R,r.ok.ZjE Nb.new Nb.lim (Ye _) (by rw[Yd];show _+1<=200;omega) (Yw _),?_,((lW.same Q).same g9).fresh nn',?_,lW.fresh cI,⟨A,R _ _ x9,?_⟩,Lo,dI,(J.gc k.ba k.turns k.n4).same R,(off eQ k.n4).2,nm_more r.nm sx,r.so,?_,?_,?_⟩ (.pin _ _ _ _ _)
  ·rw[gB _ _ xy,pe,iJ,iJ,Yi];rfl
  ·rw[AQ _ _ e8,pe];show _=Z (HO.dK ((b.ps++[(dA z b.ps.length,sx)]).map _));rw[Yi];rfl
  ·have:=yE J k.ba dM;refine ZbG (λa p L e=>?_) this;exact dC.ext (r.ok.fg p L) (R _ _ e)
  ·rw[pe,Yd];show _+1<=_;omega
  ·rw[pe,Yd];show _+1+b.fs.length<=_;omega
  ·show(b.dn++[_]).length<=_;rw[Yd];show _+1<=_;omega
 have p0:0<b.ps.length:=by
  rw[M0,Xd] at cc;omega
 refine⟨_,rfl,dr,_,_,_,rfl,rfl,aq.of (g3 _ _ h2),rfl,_,_,rfl,rfl,_,rfl,?_⟩;refine bF (λcc2=>?_) (λcc2=>aS ?_)
 ·refine b_ ?_;obtain⟨tm,tf,tw,u0,eQ,_,_,_,x6⟩:=id s3.turns;refine⟨_,rfl,_,rfl,_,rfl,_,rfl,td,.ref u0,rfl,dm eQ rfl,u0,_,rfl,.inr (az.of x6),nl,sd,dr,b.ps,xs,T,d0,d1,d2,d3,d4,by rw[Ya,fK];rfl,s3.names,s3.cA,r.ok.nm,p0,dW Ej (by decide),g3 _ _ h2,b4,r.ok.gd,λc fg ff H4 Em G vw=>?_⟩;have s4:=s3.same G;refine⟨_,rfl,_,rfl,_,rfl,_,rfl,sd,fl,td,ff,xs,T,b,c,rfl,s4.cA,s4.FL,s4.turns,vw,r.ok,fg,λH5 N=>⟨rfl,_,rfl,?_⟩⟩;have k:=s4.same N;have En:=(kH.trans G).trans N;rw[eO];refine bF (λcw=>?_) (λcw=>aS ?_);·exact⟨_,rfl,q l b nl sd fl st H5 (bq.of En) k.more .aA⟩
  have hw:oR xs.length b c="":=by
   by_cases e:oR xs.length b c="";·exact e
   ·rw[Vm e] at cw;exact absurd rfl cw
  have nf:=Iw r.ok fg (by omega) hw;refine⟨_,rfl,_,rfl,l,b,xs,T,c,ff,rfl,k.ba,r.ok,N _ _ vw,fg,by omega,hw,by omega,λl' H6 J lW=>?_⟩;have off:=λ{a:U} {o:HO} (h:H5 a=Z o) (n:a∉l.fp)=>J.off h n;obtain⟨AM,De⟩:=off k.cA k.n2;obtain⟨AN,Df⟩:=off k.names k.n1;obtain⟨A,ot,dM⟩:=k.facts;obtain⟨x9,Lo⟩:=off ot k.n3;have ff6:=J.bU k.ba (N _ _ vw);have al:=cK dM;refine⟨_,rfl,_,rfl,_,rfl,_,rfl,by show 1<=sizeLine;decide,λt1 H7 nt1 X M5=>⟨_,rfl,t1,ff,_,_,rfl,rfl,az.of M5,az.of (X _ _ ff6),by simp,by show 1+3<=sizeLine;decide,λe=>(by cases e),λ_ t2 nt2=>?_⟩⟩;obtain⟨H8,e8⟩:∃H8,H8=upd H7 t2 (.tup ([V.int (b.co:Int)]++[V.str c.k,V.str (aw b.ps c.one),kV (bp b.ps c)])):=⟨_,rfl⟩;have g8:ak H7 H8:=by rw[e8];exact cF nt2 _
  have ht2:dC H8 b.ps t2 (b.co,c):=by
   show H8 t2=_;rw[e8,aT];rfl
  rw[←e8];have Q:=X.trans g8;refine⟨by show 1<=sizeLine;decide,λl1 H9 j9 g9 hl1=>⟨fl,l1,_,_,rfl,rfl,g9 _ _ (Q _ _ x9),hl1,by rw[Ya];show _+1<=_;omega,λn_ HA ZjY gA ZjZ=>⟨_,rfl,_,_,rfl,rfl,by show 4<=sizeLine;decide,λaO HB DQ gB dI=>?_⟩⟩⟩;have AQ:=(g9.trans gA).trans gB;have R:=Q.trans AQ;obtain⟨tm,tf,tw,ts,Lp,_⟩:=id k.turns;have YE:=r.ok.lt;refine q l' (b.wV c) nl sd n_ aO HB ((bq.after En J).same R) ⟨lW.same R,?_,R _ _ AN,Df,R _ _ AM,De,⟨A++[t2],?_,?_⟩,((lW.same Q).same g9).fresh ZjY,dI,(J.gc k.ba k.turns k.n4).same R,(off Lp k.n4).2,r.nm,?_,W5 cp,?_,?_⟩ (.fin _ _ _)
  ·exact r.ok.ZjF fg (λm=>by
    obtain⟨p,L,e⟩:=Yg.mp m;have:=YE p L;omega) nf.nk nf.np nf.lv (by omega) (co:=b.co+1) (Wk _) (Jk _) (by rw[Yd];show _+1<=200;omega) (Yw _)
  ·rw[gB _ _ ZjZ,Yi];rfl
  ·exact jG (F:=dC HB b.ps) (AQ _ _ ht2) (L2.Paired.bA (yE J k.ba dM) λ_ _ e=>R _ _ e)
  ·show((b.fs++[(b.co,c)]).map (·.1)).Pairwise _;rw[Yi];refine List.pairwise_append.mpr ⟨r.so,by simp,λu hu v hv=>?_⟩;obtain⟨p,L,rfl⟩:=Yg.mp hu;have:v=b.co:=by simpa using hv
   rw[this];exact YE p L
  ·show _+(b.fs++[_]).length<=_;rw[Yd];show b.ps.length+(_+1)<=_;exact VF cf
  ·show(b.dn++[_]).length<=_;rw[Yd];show _+1<=_;omega
 obtain⟨A,ot,dM⟩:=s3.facts;have al:=cK dM;refine⟨_,rfl,by show 0<=sizeLine;decide,λe0 H4 AI G Ax=>⟨fl,e0,_,rfl,rfl,aq.of (G _ _ ot),aq.of Ax,_,rfl,bF (λce=>?_) (λce=>aS ?_)⟩⟩;·exact⟨_,rfl,q l b nl sd fl st H4 (bq.of (kH.trans G)) (s3.same G).more .aA⟩
 refine b_ ?_;have s4:=s3.same G;have f0:0<A.length:=by
  cases e:A with
  |nil=>rw[e] at ce;exact absurd rfl ce
  |cons _ _=>exact nP _
 have mi:=zd (z:=d1) f0;refine⟨_,rfl,ix (g3.trans G) rfl _ rfl _ λH5 N=>?_⟩;have k:=s4.same N;have Lq:=N _ _ (G _ _ ot);obtain⟨i,ei⟩:∃i:Nat,d1 % (A.length:Int)=(i:Int):=⟨(d1 % (A.length:Int)).toNat,by omega⟩;have hi:i<A.length:=by omega
 obtain⟨ao,YF⟩:∃ao,A[i]?=Z ao:=⟨_,Yc hi⟩;obtain⟨⟨E,c0⟩,Nc,MQ⟩:=gK dM YF;have Vf:=N _ _ (G _ _ MQ);refine⟨_,rfl,fl,_,rfl,.inl (aq.of Lq),_,_,rfl,rfl,by rw[Ya];omega,fl,_,_,.ref ao,rfl,rfl,aq.of Lq,?_,?_⟩
 ·rw[Ya,ei];exact jb (by rw[Yf,YF];rfl)
 obtain⟨M9,M_⟩:=k.ba.obj;obtain⟨f5,kM,rD⟩:=k.ba;refine⟨_,rfl,l.h,M9,_,rfl,M_,rfl,_,rfl,ao,_,_,_,rfl,rfl,az.of Vf,rfl,l,{b with fs:=f5},xs,T,E,c0,rfl,rD,r.ok.pm kM,kM.symm.subset (Yj Nc),by show b.dn.length<200;omega,λl' H6 J Na=>?_⟩;have lW:fP H6 C CL CJ l' xs T (b.without E c0):=⟨_,ZhN kM E,Na⟩;have off:=λ{a:U} {o:HO} (h:H5 a=Z o) (n:a∉l.fp)=>J.off h n;obtain⟨AM,De⟩:=off k.cA k.n2;obtain⟨AN,Df⟩:=off k.names k.n1;obtain⟨x9,Lo⟩:=off Lq k.n3;have Zj0:Paired (dC H5 b.ps) A b.fs:=L2.Paired.bA dM λ_ _ e=>N _ _ (G _ _ e);have Vg:=yE J k.ba Zj0;have al5:=cK dM;have ao6:=J.bU k.ba Vf;refine⟨_,rfl,_,rfl,_,rfl,fl,rfl,⟨_,aq.of x9⟩,λD hD=>?_⟩;have qe:∀p∈b.fs,p.1=E->p=(E,c0):=λp L e=>RE r.ok.zs L (Yj Nc) e;refine yw (K:=K) (aq.of x9) (by rw[Ya];omega) hD (λi=>(b.fs[i]?.map λp=>decide (p.1≠E)).getD a7) (λi y _=>∃a,A[i]?=Z a/\y=.ref a) (λ_ _ _ _ _ h=>h) (λi v hi H7 X _ Kt Kf kt kf=>?_) λus H7 X h7 pr=>?_
 ·rw[Yf] at hi;obtain⟨a,ea,rfl⟩:∃a,A[i]?=Z a/\V.ref a=v:=by
   cases e:A[i]? with
   |none=>rw[e] at hi;cases hi
   |some c=>rw[e] at hi;exact⟨c,rfl,Yo hi⟩
  obtain⟨p,ep,L⟩:=gK Vg ea;have mp:=Yj ep;have pb:(b.fs[i]?.map λp=>decide (p.1≠E)).getD a7=decide (p.1≠E):=by rw[ep];rfl
  rw[pb] at kt kf;refine⟨_,rfl,_,rfl,a,ao,_,_,rfl,rfl,az.of (X _ _ L),az.of (X _ _ ao6),S7 _,S7 _,_,rfl,?_⟩;have ed:(!decide ((dG b.ps p.1 p.2).map kV=(dG b.ps E c0).map kV))=decide (p.1≠E):=by
   by_cases e:p.1=E
   ·rw[qe p mp e];simp
   ·rw[Xq e,Vm (λh=>e ?_)];·rfl
    ·injection h with h1 _;have:=V.int.inj h1;exact lP this
  show(if(!decide ((dG b.ps p.1 p.2).map kV=(dG b.ps E c0).map kV))=af then _ else _);rw[ed];cases e:decide (p.1≠E) with
  |true=>exact cS ⟨_,rfl,kt _ H7 e (ak.refl _) ⟨a,ea,rfl⟩⟩
  |false=>exact bQ (kf H7 e (ak.refl _))
 rw[Ya,al5] at pr;obtain⟨fD,rfl,Zj1⟩:∃fD:O U,us=fD.map V.ref/\Paired (dC H7 b.ps) fD (cz E b.fs):=by
  have aux:∀{T:O V} {is:O Nat} {gs:O (Nat×Fc)},Paired (λy i=>∃a,A[i]?=Z a/\y=.ref a) T is->is.map (λi=>b.fs[i]?)=gs.map Z->∃A:O U,T=A.map V.ref/\Paired (dC H7 b.ps) A gs:=by
   intro T is gs pr;induction pr generalizing gs with
   |nil=>
    intro e;cases gs with
    |nil=>exact⟨[],rfl,.nil⟩
    |cons _ _=>cases e
   |cons f _ ih=>
    intro e;cases gs with
    |nil=>cases e
    |cons g gs=>
     obtain⟨a,e1,e2⟩:=f;obtain⟨p,ep,L⟩:=gK Vg e1;injection e with e4 e5;obtain⟨A,r1,r2⟩:=ih e5;exact⟨a::A,by rw[e2,r1];rfl,.cons (by rw[←Yo (ep.symm.trans e4)];exact X _ _ L) r2⟩
  exact aux pr (ZcD b.fs λp=>decide (p.1≠E))
 refine⟨_,rfl,by show 4<=sizeLine;decide,λaO H8 DQ g8 dI=>?_⟩;have Q:=X.trans g8;obtain⟨tm,tf,tw,ts,Lp,_⟩:=id k.turns;have sub:(cz E b.fs).Sublist b.fs:=WG;refine q l' (b.without E c0) nl sd D aO H8 ((bq.after (((kH.trans G).trans N)) J).same Q) ⟨lW.same Q,r.ok.drop E (Ye _) (by rw[Yd];show _+1<=200;omega) (Yw _),Q _ _ AN,Df,Q _ _ AM,De,⟨fD,g8 _ _ h7,L2.Paired.bA Zj1 λ_ _ e=>g8 _ _ e⟩,lW.fresh hD,dI,(J.gc k.ba k.turns k.n4).same Q,(off Lp k.n4).2,r.nm,r.so.sublist (sub.map _),W5 cp,W5 (Yy (WE sub.length_le _) cf),?_⟩ (.jS _ _ (Yj Nc) _ _);show(b.dn++[_]).length<=_;rw[Yd];show _+1<=_;omega
def bP.nil(b:qz xs a):bP xs a ⟨[],[],0,[],[]⟩:=
 ⟨b,Jc,Yw _,Yw _,λ_ h=>(nomatch h),Jc,λ_ h=>(nomatch h),Jc,Jc,⟨λ_=>0,λ_ h=>absurd h (Wo _),λ_ h=>(nomatch h)⟩,Yw _,Yw _⟩
def dD.e_(s:dD C CL CJ H xs a z j e l b nl g k st)(w:bq H d l c)(q:fP d C CL CJ c xs a b):dD C CL CJ d xs a z j e c b nl g k st:=by
 obtain⟨v,p⟩:=w.off s.names s.n1;obtain⟨u,o⟩:=w.off s.cA s.n2;obtain⟨r,i,h⟩:=s.facts;obtain⟨t,n⟩:=w.off i s.n3;obtain⟨_,_,_,_,m,_⟩:=id s.turns;exact⟨q,s.ok,v,p,u,o,⟨r,t,yE w s.ba h⟩,n,w.bU s.ba s.tup,w.gc s.ba s.turns s.n4,(w.off m s.n4).2,s.nm,s.so,s.cp,s.cf,s.cd⟩
def dD.good(s:dD C CL CJ H xs a z j g l b nl h i st):(∀c∈b.F,fC xs a b.ps.length c)/\b.F.length<=64:=by
 refine⟨λc e=>?_,?_⟩
 ·obtain⟨p,d,rfl⟩:=Yg.mp (e);exact s.ok.fg p d
 ·show(b.fs.map (·.2)).length<=64;rw[Ya];exact W5 s.ok.fl
def Cb:At H 3 (.int i) (.int i):=by unfold At;rfl
def dD.up(s:dD C CL CJ H xs a z j c l b nl d e st)(h:j<=k):dD C CL CJ H xs a z k c l b nl d e st:=
 ⟨s.ba,s.ok,s.names,s.n1,s.cA,s.n2,s.facts,s.n3,s.tup,s.turns,s.n4,s.nm,s.so,Yy s.cp h,Yy s.cf h,Yy s.cd h⟩
inductive Qe(C CL CJ:U)(d:O V)(H:Hp)(Q:VK)(E:XK):Prop
 |mk (l:BL) (b:BS) (c a:O Int) (i:Nat) (j:d=[.ref l.h,.str (aw b.ps i)]) (h:bB H C CL CJ l c a b) (e:(b.ps.map (·.1)).Nodup) (g:i<b.ps.length) (q:Q (.int (i:Int)) H)
inductive RF(C CL CJ:U)(h:O V)(H:Hp)(Q:VK)(E:XK):Prop
 |mk (l:BL) (b:BS) (c d:O Int) (i:Nat) (m:h=[.ref l.h,.str (aw b.ps i)]) (k:bB H C CL CJ l c d b) (ok:bP c d b) (j:i<b.ps.length) (q:∀(e:BL) (a:Hp) (p:U) (g:Hp),bq H a l e->bB a C CL CJ e c d b->(l.rk≠.aA->a=H/\e=l)->a p=aE->ak a g->g p=Z (.lst ((fN b.F c.length i).map V.int))->Q (.ref p) g)
def Zg:aP kq kq (aH EG):=.a8
def ZbI(F:aM K "place_of" "Hearth.place_of" EG f fd)(a:eK K C):aF P w K B I aL 1 f fd kq (Qe C CL CJ):=by
 refine F.o Zg λs H e h=>?_;obtain⟨l,b,o,n,i,rfl,c,k,m,q⟩:=h;refine⟨_,(au (aR (kU (oG (bI e) (pv 1) (pF K 0)) QU) gL aX) (av (aG (dt (bI e) (pF K 0) (pv 1) (λ_ _=>rfl))))),?_⟩;refine hI ?_;intros;obtain⟨j,g⟩:=c.obj;have d:=tZ k m;exact⟨_,rfl,_,rfl,l.h,C,j,_,_,rfl,g,a.cls,a.rP,rfl,l.pl,Z _,rfl,dm c.places d,_,rfl,bQ (aS ⟨_,rfl,l.h,C,j,_,_,rfl,g,a.cls,a.rP,rfl,_,rfl,l.pl,_,rfl,dm c.places d,q⟩)⟩
def ZcG:aP uJ uJ (aH Hy):=.a8
def ZcH(F:aM K "open_of" "open_of" Hy f fd)(v:bZ P w K B I 8 "joins" C dE (IS C CL CJ))(W:bZ P w K B I 1 "place_of" C kq (Qe C CL CJ))(D:bZ P w K B I 2 "open_at" CJ xf (yJ CJ)):aF P w K B I aL 9 f fd uJ (RF C CL CJ):=by
 refine F.o ZcG λs H d h=>?_;obtain⟨l,b,a,g,i,rfl,u,ok,J,q⟩:=h;refine⟨_,(av (aG (cQ D d (by decide) (qp v d (by decide) (pv 0)) (aa (cQ W d (by decide) (pv 0) (aa (pv 1) ae)) ae)))),?_⟩;obtain⟨Q,E⟩:=u.obj;refine⟨_,rfl,l.h,Q,_,rfl,E,rfl,l,b,a,g,rfl,u,ok,λm n st T c e e1 e2 o k len gw y=>?_⟩;obtain⟨N,G⟩:=o.obj;obtain⟨z,j⟩:=e.obj;rw[c.h] at j;have r:i<st.hd.length:=by rwa[len]
 have one:=k.wf.one ok.gd.2.2.2.2 r;refine⟨n.J,N,_,rfl,G,rfl,_,rfl,l.h,z,_,rfl,j,rfl,_,rfl,m,b,a,g,i,by rw[c.h];rfl,e,ok.nm,J,n,st,a.length,i,_,_,_,rfl,o,one.hd,one.ld,one.fr,one.fZ,one.jz,λp X R A L pm x t=>?_⟩;rw[k.opn r pm x] at t;exact q m T p R c e y A L t
def Eo:Key->Dt
 |.inl i=>.int i
 |.inr z=>.str z
def YG(a:bL)(b:O (Nat×Fc)):Dt:=.lst (b.map λp=>.tup ((dG a p.1 p.2).map Eo))
def ZhO(H:Hp)(m:Nat)(k:Key):At H m (kV k) (Eo k):=by
 cases k<;>(unfold Eo At;rfl)
theorem RG(H:Hp)(m:Nat):∀a:O Key,Paired (At H m) (a.map kV) (a.map Eo)
 |[]=>.nil
 |k::a=>.cons (ZhO H m k) (RG H m a)
theorem RH(h:H p=Z (.lst (as.map V.ref)))(b:Paired (dC H a) as fs)(l:fs.length<=1000):At H 3 (.ref p) (YG a fs):=by
 refine⟨p,_,rfl,h,by rwa[Ya],?_⟩;clear h l;induction b with
 |nil=>exact .nil
 |cons e _ c=>
  exact .cons ⟨_,_,rfl,e,by show 4<=1000;decide,RG H 1 _⟩ c
def ZiE{fs e:O (Nat×Fc)}(g:e.Perm fs)(d:(e.map (·.1)).Pairwise (·<·))(c:(fs.map (·.1)).Pairwise (·<·)):e=fs:=by
 rw[Wt] at d c;exact z7 (λa b _ _ d c=>QO) d c g
theorem S8{H:Hp}{m:Nat}:∀a:bL,Paired (At H m) (iJ a) (a.map λp=>Dt.str p.1)
 |[]=>.nil
 |p::a=>.cons (r6 _) (S8 a)
def O8(h:H p=Z (.lst (iJ a)))(l:a.length<=1000):At H 3 (.ref p) (.lst (a.map λp=>.str p.1)):=Sn h (by rwa[Ya]) (S8 a)
def RI{a:O Int}(h:H p=Z (.lst (a.map V.int)))(l:a.length<=1000):At H 3 (.ref p) (.lst (a.map Dt.int)):=Sn h (by rwa[Ya]) (BN a)
def ZeZ(F:O Fc)(c:n<=8)(i:Nat):(fN F n i).length<=1000:=by
 have:=AZ (n:=n) (PZ F n i).2 λa b=>(Bn.mp b).1;omega
structure GS where
 ps:bL
 fs:O (Nat×Fc)
 co:Nat
def BS.gs(b:BS):GS:=⟨b.ps,b.fs,b.co⟩
def GS.bs(g:GS)(b a:O dF):BS:=⟨g.ps,g.fs,g.co,b,a⟩
inductive ou:dF->GS->GS->Prop
 |pin {b:bL} {fs:O (Nat×Fc)} {a:Nat} (n s:ar):ou ⟨1,[.inr n,.inr s],a,a⟩ ⟨b,fs,a⟩ ⟨b++[(n,s)],fs,a⟩
 |fin {b:bL} {fs:O (Nat×Fc)} {a:Nat} (c:Fc):ou ⟨1,dG b a c,a,a+1⟩ ⟨b,fs,a⟩ ⟨b,fs++[(a,c)],a+1⟩
 |jS {b:bL} {fs:O (Nat×Fc)} {a:Nat} (z:Nat) (c:Fc) (m:(z,c)∈fs):ou ⟨-1,dG b z c,a,a⟩ ⟨b,fs,a⟩ ⟨b,cz z fs,a⟩
def Ze0{c:Fc}(h:z∉fs.map (·.1)):cz z (fs++[(z,c)])=fs:=by
 unfold cz;have e:fs.filter (λp=>decide (p.1≠z))=fs:=Jj.mpr λp a=>dg λq=>h (by rw[←q];exact Yg.mpr ⟨p,a,rfl⟩);rw[Wl,e];simp
theorem Qf:∀{fs:O (Nat×Fc)} {z:Nat} {c:Fc},(fs.map (·.1)).Nodup->(z,c)∈fs->(cz z fs++[(z,c)]).Perm fs
 |[],_,_,_,h=>nomatch h
 |p::fs,z,c,b,h=>by
  obtain⟨a,d⟩:=Yz.mp (show(p.1::fs.map (·.1)).Nodup from b);unfold cz;rw[Wy];rcases Yp.mp h with rfl|h
  ·rw[bu QS];have e:fs.filter (λp=>decide (p.1≠z))=fs:=Jj.mpr λp g=>dg λq=>a (by rw[←q];exact Yg.mpr ⟨p,g,rfl⟩);rw[e];exact List.perm_append_comm
  ·have ne:p.1≠z:=λq=>a (by rw[q];exact Yg.mpr ⟨_,h,rfl⟩);rw[bt (dg ne)];exact(Qf d h).cons p
def RJ(u:bP xs q ⟨d,gs,A,[],[]⟩)(t:(a++[(z,c)]).Perm gs)(v:H r=Z (.tup ((dG d z c).map kV))):Move xs q H r ⟨d,a,co,y,un⟩ 1 ⟨d,a++[(z,c)],co,y,un⟩:=by
 have b:=u.pm t;have g:((a++[(z,c)]).map (·.1)).Nodup:=b.zs;have k:((a++[(z,c)]).map λp=>eF d p.2).Nodup:=b.ky;have j:((cC d (a++[(z,c)])).map (·.1)).Nodup:=b.pr;have n:(a++[(z,c)]).length<=63:=b.fl;have last:∀{e:Type} {l:O e} {x:e},(l++[x]).Nodup->x∉l:=λh m=>(Wj.mp h).2.2 _ m _ Yk rfl;rw[Yi] at g k;rw[Yd] at n;refine .fin z c v (b.fg (z,c) (Ym _ Yk)) (last g) (last k) (λp=>?_) ?_ (by show a.length<63;have:[(z,c)].length=1:=rfl;exact rz (x_ n))
 ·rw[Ir p,Yi] at j;exact last j
 ·obtain⟨f,i,s⟩:=b.lv;exact⟨f,i,λo m=>s o (by
   show o∈(a++[(z,c)]).map (·.2);rw[Yi];exact m)⟩
theorem ou.back(s:ou d g l)(h:bP xs o (g.bs [] []))(x:bP xs o (l.bs [] []))(a:b.Perm l.fs):d.c0=g.co/\∃q:O (Nat×Fc),q.Perm g.fs/\∀H r,H r=Z (.tup (d.row.map kV))->Move xs o H r ⟨l.ps,b,co,v,un⟩ (-d.way) ⟨g.ps,q,co,v,un⟩:=by
 cases s with
 |pin n s=>
  refine⟨rfl,b,a,λH r j=>.xm n s _ j rfl (λm=>?_) λp k=>(h.fg p (a.subset k)).ok⟩;have i:=x.nm;unfold GS.bs at i;dsimp at i;rw[Yi] at i;exact(Wj.mp i).2.2 _ m _ Yk rfl
 |@fin y fs pM c=>
  have u:pM∉fs.map (·.1):=λm=>by
   obtain⟨p,k,e⟩:=Yg.mp m;have:p.1<pM:=h.lt p k;omega
  refine⟨rfl,cz pM b,?_,λH r j=>.jS pM c j (a.symm.subset (Ym _ Yk))⟩;have:(cz pM b).Perm (cz pM (fs++[(pM,c)])):=a.filter _;rw[Ze0 u] at this;exact this
 |jS z c m=>
  have t:=(a.append_right [(z,c)]).trans (Qf h.zs m);exact⟨rfl,b++[(z,c)],t,λ H r=>RJ h t⟩
theorem ou.on(s:ou d g e)(u:bP xs l (g.bs [] []))(k:bP xs l (e.bs [] []))(a:j.Perm g.fs):d.c1=e.co/\∃q:O (Nat×Fc),q.Perm e.fs/\∀H r,H r=Z (.tup (d.row.map kV))->Move xs l H r ⟨g.ps,j,co,t,un⟩ d.way ⟨e.ps,q,co,t,un⟩:=by
 cases s with
 |@pin h fs o n s=>
  refine⟨rfl,j,a,λH r i=>.pin n s i (λm=>?_) ?_⟩
  ·have b:=k.nm;unfold GS.bs at b;dsimp at b;rw[Yi] at b;exact(Wj.mp b).2.2 _ m _ Yk rfl
  ·have m:(h++[(n,s)]).length<=64:=k.m;rw[Yd] at m;show h.length<64;have:[(n,s)].length=1:=rfl;exact rz (x_ m)
 |@fin h fs o c=>
  have p:=a.append_right [(o,c)];exact⟨rfl,_,p,λ H r=>RJ k p⟩
 |jS z c m=>exact⟨rfl,cz z j,a.filter _,λH r i=>.jS z c i (a.symm.subset m)⟩
structure Ac(xs ys:O Int)(z j:Nat)(H:Hp)(l:BL)(g:GS)(nl sd fl st:U):Prop where
 ok:bP xs ys (g.bs [] [])
 names:H nl=Z (.lst (iJ g.ps))
 n1:nl∉l.fp
 cA:H sd=Z (.dK (fF g.ps))
 n2:sd∉l.fp
 facts:∃as:O U,H fl=Z (.lst (as.map V.ref))/\Paired (dC H g.ps) as g.fs
 n3:fl∉l.fp
 tup:H st=Z (.tup [.ref nl,.ref sd,.ref fl,.int (g.co:Int)])
 nm:g.ps.map (·.1)=(List.range g.ps.length).map (dA z)
 so:(g.fs.map (·.1)).Pairwise (·<·)
 cf:g.ps.length+g.fs.length<=j
inductive mK(c b:O Int)(z j:Nat)(H:Hp)(l:BL):O U->O dF->GS->Prop
 |nil (g:GS):mK c b z j H l [] [] g
 |snoc {i:O U} {h:O dF} {g e:GS} {d:dF} {m k n st:U} (p:mK c b z j H l i h g) (a:Ac c b z j H l g m k n st) (s:ou d g e):mK c b z j H l (i++[st]) (h++[d]) e
inductive m6(c b:O Int)(z j:Nat)(H:Hp)(l:BL):O U->O dF->GS->Prop
 |nil (g:GS):m6 c b z j H l [] [] g
 |snoc {h:O U} {un:O dF} {g e:GS} {d:dF} {k i m st:U} (p:m6 c b z j H l h un e) (a:Ac c b z j H l e k i m st) (s:ou d g e):m6 c b z j H l (h++[st]) (un++[d]) g
def bP.CB(a:bP xs c b)(g:e.length<=200)(d:un.length<=200):bP xs c {b with dn:=e,un:=un}:=⟨a.gd,a.nm,a.m,a.fl,a.fg,a.zs,a.lt,a.ky,a.pr,a.lv,g,d⟩
def dD.ac(s:dD C CL CJ H xs a z j e l b nl c d st):Ac xs a z j H l b.gs nl c d st:=⟨s.ok.CB (Yw _) (Yw _),s.names,s.n1,s.cA,s.n2,s.facts,s.n3,s.tup,s.nm,s.so,s.cf⟩
def Ac.YI(a:Ac xs b z j H l g nl i n st)(o:fP H C CL CJ l xs b (g.bs c un))(e:c.length<=j)(h:un.length<=200)(m:j<=200)(t:gc H d xs b)(k:d∉l.fp):dD C CL CJ H xs b z j d l (g.bs c un) nl i n st:=
 ⟨o,(a.ok.CB (Yy e m) h:bP xs b (g.bs c un)),a.names,a.n1,a.cA,a.n2,a.facts,a.n3,a.tup,t,k,a.nm,a.so,Yy (Xm _ _) a.cf,a.cf,e⟩
def Ac.e_(w:bq H u l h)(d:fP H C CL CJ l xs c b)(a:Ac xs c z j H l g nl e m st):Ac xs c z j u h g nl e m st:=by
 obtain⟨t,p⟩:=w.off a.names a.n1;obtain⟨s,o⟩:=w.off a.cA a.n2;obtain⟨q,k,i⟩:=a.facts;obtain⟨r,n⟩:=w.off k a.n3;exact⟨a.ok,t,p,s,o,⟨q,r,yE w d i⟩,n,w.bU d a.tup,a.nm,a.so,a.cf⟩
def Ac.up(a:Ac xs b z j H l g nl c d st)(h:j<=k):Ac xs b z k H l g nl c d st:=⟨a.ok,a.names,a.n1,a.cA,a.n2,a.facts,a.n3,a.tup,a.nm,a.so,Yy a.cf h⟩
theorem mK.e_(w:bq H m l d)(i:fP H C CL CJ l xs c b)(h:j<=k)(p:mK xs c z j H l as ds g):mK xs c z k m d as ds g:=by
 induction p with
 |nil g=>exact .nil g
 |snoc _ a s e=>exact .snoc e ((a.e_ w i).up h) s
theorem m6.e_(w:bq H m l d)(i:fP H C CL CJ l xs c b)(h:j<=k)(p:m6 xs c z j H l as ds g):m6 xs c z k m d as ds g:=by
 induction p with
 |nil g=>exact .nil g
 |snoc _ a s e=>exact .snoc e ((a.e_ w i).up h) s
theorem mK.len(p:mK xs c z j H l as ds g):as.length=ds.length:=by
 induction p with
 |nil g=>rfl
 |snoc _ a s b=>rw[Yd,Yd,b];rfl
theorem m6.len(p:m6 xs c z j H l as ds g):as.length=ds.length:=by
 induction p with
 |nil g=>rfl
 |snoc _ a s b=>rw[Yd,Yd,b];rfl
def BD{l a:O α}(h:l++[x]=a++[y]):l=a/\x=y:=by
 have e:=List.append_inj' h rfl;exact⟨e.1,by injection e.2⟩
theorem mK.last(p:mK xs c z j H l as (ds++[d]) g):∃h b m k n st,as=h++[st]/\mK xs c z j H l h ds b/\Ac xs c z j H l b m k n st/\ou d b g:=by
 obtain⟨i,e⟩:∃i,i=ds++[d]:=⟨_,rfl⟩;rw[←e] at p;cases p with
 |nil g=>simp at e
 |snoc p a s=>
  obtain⟨rfl,rfl⟩:=BD e;exact⟨_,_,_,_,_,_,rfl,p,a,s⟩
theorem m6.last(p:m6 xs b z j H l as (ds++[d]) g):∃c g0 k i m st,as=c++[st]/\m6 xs b z j H l c ds g0/\Ac xs b z j H l g0 k i m st/\ou d g g0:=by
 obtain⟨h,e⟩:∃h,h=ds++[d]:=⟨_,rfl⟩;rw[←e] at p;cases p with
 |nil g=>simp at e
 |snoc p a s=>
  obtain⟨rfl,rfl⟩:=BD e;exact⟨_,_,_,_,_,_,rfl,p,a,s⟩
structure iK(C CL CJ:U)(H:Hp)(xs ys:O Int)(z j:Nat)(td:U)(l:BL)(b:BS)(nl sd fl st:U)(as us:O U):Prop where
 si:dD C CL CJ H xs ys z j td l b nl sd fl st
 pa:mK xs ys z j H l as b.dn b.gs
 fu:m6 xs ys z j H l us b.un b.gs
 cu:b.un.length<=j
inductive Qg(C CL CJ:U)(j:O V)(H:Hp)(Q:VK):Prop
 |mk (l:BL) (b:BS) (e c:O Int) (i:cm) (o:j=[.ref l.h,.bl i]) (n:bB H C CL CJ l e c b) (ok:bP e c b) (dl:b.dn.length<200) (m:b.un.length<200)
   (back:i=a7->∀(k:O dF) (d:dF),b.dn=k++[d]->∃h:BS,(∀a r,a r=Z (.tup (d.row.map kV))->Move e c a r {b with dn:=k,un:=b.un++[d]} (-d.way) h)/\∀(g:BL) (a:Hp),bq H a l g->bB a C CL CJ g e c {h with co:=d.c0}->Q (.str "done") a)
   (on:i=af->∀(un:O dF) (d:dF),b.un=un++[d]->∃h:BS,(∀a r,a r=Z (.tup (d.row.map kV))->Move e c a r {b with dn:=b.dn++[d],un:=un} d.way h)/\∀(g:BL) (a:Hp),bq H a l g->bB a C CL CJ g e c {h with co:=d.c1}->Q (.str "done") a)
   (no:(if i then b.un else b.dn)=[]->∀(p:U) (a:Hp),ak H a->a p=Z (.tup [.str "nothing left",.bl af])->Q (.ref p) a):Qg C CL CJ j H Q
def RK(C CL CJ:U):Sp:=λa H Q _=>Qg C CL CJ a H Q
abbrev Lr:O ar:=["_law_book","_law_redone"]
def A0:aP ["_law_book","_law_redone","_law_told_here","e"] Lr (aH Gk):=.a8
theorem Ze1(F:aM K "_law_moved" "_law_moved" Gk f fd)(FJ:Ce P w K B I 10 "undo" C dE (SQ C CL CJ a))(FK:Ce P w K B I 10 "redo" C dE (SR C CL CJ a))(vY:B "KinError"=Z (.ref X))(Hh:dP K X)
  (AX:B "NothingLeft"=Z (.ref a))(j:dP K a)(W:du K a "word")(AW:PySem.W.mroIn K a (.ref X)=Z af)(bl:Bl B):aF P w K B I aL 12 f fd Lr (RK C CL CJ):=by
 refine F.o A0 @λbM A t vs Q E s H hr h=>?_;obtain⟨l,b,T,R,rd,rfl,z,ok,dl,ul,back,on,no⟩:=h;have J:=FJ;have G:=FK;refine⟨_,(av (ZgT (i:=3) ⟨rfl,rfl⟩ A0.nd rfl rfl rfl vY Hh (λpn xe E hx ow=>(au (aR (dN (pv 1)) (av (bV 2 A0.nd (QM G hr (by decide) hx (pv 0)))) (av (bV 2 A0.nd (QM J hr (by decide) hx (pv 0))))) (av (aG (Pa (bH B7 (pv 2) mj) bo bo))))) (λ_=>(av (aG (df (aa (Zd3 rfl (pv 3)) (aa (iN (Zd2 rfl) rfl bl.NC Nx (aa (pv 3) (aa (dH (v:=.ref a) rfl AX rfl) ae))) ae)))))))),?_⟩;obtain⟨dx,ho⟩:=z.obj;cases rd with
 |true=>
  refine⟨_,rfl,af,rfl,cS ?_⟩;refine b_ ?_;refine⟨_,rfl,l.h,dx,_,rfl,ho,rfl,l,b,T,R,rfl,z,ok,dl,λun d e=>?_,λe=>?_⟩
  ·obtain⟨D,mv,q⟩:=on rfl un d e;exact⟨D,mv,λu N o r=>⟨_,rfl,rfl,_,rfl,cS (q u N o r)⟩⟩
  intro a' c H1 _ _ g e1 n;refine⟨a,c,rfl,rfl,j,AW,λk m=>?_⟩;refine⟨_,rfl,k,a,c,_,_,rfl,m,n,j,W,rfl,?_⟩;refine⟨_,rfl,k,a,c,_,_,_,af,rfl,rfl,m,n,j,Pm _,?_⟩;exact⟨QD,λp L np y x=>no e p L (g.trans y) x⟩
 |false=>
  refine⟨_,rfl,a7,rfl,bQ ?_⟩;refine b_ ?_;refine⟨_,rfl,l.h,dx,_,rfl,ho,rfl,l,b,T,R,rfl,z,ok,ul,λdn d e=>?_,λe=>?_⟩
  ·obtain⟨D,mv,q⟩:=back rfl dn d e;exact⟨D,mv,λu N o r=>⟨_,rfl,rfl,_,rfl,cS (q u N o r)⟩⟩
  intro a' c H1 _ _ g e1 n;refine⟨a,c,rfl,rfl,j,AW,λk m=>?_⟩;refine⟨_,rfl,k,a,c,_,_,rfl,m,n,j,W,rfl,?_⟩;refine⟨_,rfl,k,a,c,_,_,_,af,rfl,rfl,m,n,j,Pm _,?_⟩;exact⟨QD,λp L np y x=>no e p L (g.trans y) x⟩
def Qh(xs:O V)(x:V):k9 (xs++[x]) aE (Z (-1))=xs:=by
 unfold k9;have l:(xs++[x]).length=xs.length+1:=by rw[Yd];rfl
 have e:HT.cj (xs++[x]).length (xs++[x]).length (Z (-1))=xs.length:=by
  show(if(-1:Int)<0 then((-1:Int)+((xs++[x]).length:Int)).toNat else min ((-1:Int)).toNat (xs++[x]).length)=_;rw[bt QD,l];omega
 rw[e];show List.take (xs.length-0) ((xs++[x]).drop 0)=xs;simp
def RL(a:O α)(x:α):dO (a++[x]) (-1)=Z x:=by
 unfold dO lF;rw[Yd,bu QD,bt (by simp;omega)];show(a++[x])[((-1:Int)+((a.length+1:Nat):Int)).toNat]?=Z x;rw[show((-1:Int)+((a.length+1:Nat):Int)).toNat=a.length by omega];simp
inductive RM(k:O V)(H:Hp)(Q:VK):Prop
 |mk (h:cm) (i j st:U) (g e:O U) (t:k=[.bl h,.ref i,.ref st,.ref j]) (s:H i=Z (.lst (g.map V.ref))) (r:H j=Z (.lst (e.map V.ref))) (q:g.length<=200) (o:e.length<=200)
   (on:h=af->∀l u,e=l++[u]->∀(p d c:U) (b:Hp),H d=aE->H c=aE->ak H b->b d=Z (.lst ((g++[st]).map V.ref))->b c=Z (.lst (l.map V.ref))->b p=Z (.tup [.str "done",.ref d,.ref u,.ref c])->Q (.ref p) b)
   (back:h=a7->∀m a,g=m++[a]->∀(p d c:U) (b:Hp),H d=aE->H c=aE->ak H b->b d=Z (.lst (m.map V.ref))->b c=Z (.lst ((e++[st]).map V.ref))->b p=Z (.tup [.str "done",.ref d,.ref a,.ref c])->Q (.ref p) b)
   (no:(if h then e else g)=[]->∀(p n:U) (b:Hp),ak H b->b n=Z (.tup [.str "nothing left",.bl af])->b p=Z (.tup [.ref n,.ref i,.ref st,.ref j])->Q (.ref p) b):RM k H Q
def S9:Sp:=λa H Q _=>RM a H Q
abbrev Dg:O ar:=["_law_redone","_law_past","_law_state","_law_ahead"]
def ZbJ:aP Dg Dg (aH G0):=.a8
theorem Zgj(F:aM K "_law_went" "_law_went" G0 f fd)(bl:Bl B):aF P w K B I aL 1 f fd Dg S9:=by
 refine F.o ZbJ λs H hr h=>?_;obtain⟨m,E,L,st,as,us,rfl,h1,h2,l1,l2,on,back,no⟩:=h;have hu:=hr.qm;refine⟨_,(au (aR (PW.pt (pw_and (dN (pv 0)) (pw_and1 (bH (tY (K:=K) rfl (Cf hu)) (pv 3) (c6 ae))))) (av (aG (df (aa bo (aa (bj tX (pv 1) (c6 (aa (pv 2) ae))) (aa (a_ (iL K) (pv 3) (zf yU aI)) (aa (yH (Bu (K:=K) rfl) (pv 3) yL (yM (zf yU aI))) ae))))))) aX) (au (aR (PW.pt (pw_and (fS (dN (pv 0))) (pw_and1 (bH (tY (K:=K) rfl (Cf hu)) (pv 1) (c6 ae))))) (av (aG (df (aa bo (aa (yH (Bu (K:=K) rfl) (pv 1) yL (yM (zf yU aI))) (aa (a_ (iL K) (pv 1) (zf yU aI)) (aa (bj tX (pv 3) (c6 (aa (pv 2) ae))) ae))))))) aX) (av (aG (df (aa (df (aa bo (aa gP ae))) (aa (pv 1) (aa (pv 2) (aa (pv 3) ae))))))))),?_⟩;refine me ?_;intros;have sz:(10000:Nat)<=sizeLine:=by rw[zl];omega
 have v:∀{l:O U},(!(l.map V.ref).isEmpty)=af->∃N x,l=N++[x]:=λ{l} h=>by
  rcases Xk l with e|⟨N,x,e⟩;·rw[e] at h;cases h
  ·exact⟨N,x,by rw[e,Xl]⟩
 have Vh:∀{l:O U},¬(!(l.map V.ref).isEmpty)=af->l=[]:=λ{l} h=>by
  cases l with
  |nil=>rfl
  |cons a r=>exact absurd rfl h
 refine(Bt.and (a:=m) (b:=!(us.map V.ref).isEmpty) (show Bt (tB (fU 0)) _ _ _ from λk a=>⟨_,rfl,m,rfl,a _ (ak.refl _)⟩) λH1 _ j=>Vt.test λkk W=>⟨_,rfl,by show 0<=sizeLine;omega,λA H2 n2 g kB=>⟨L,A,_,rfl,rfl,aq.of (g _ _ (j _ _ h2)),aq.of (xs:=[]) kB,W _ g⟩⟩) _ λH1 j=>?_;refine bF (λc=>?_) (λc=>aS ?_)
 ·rw[Wi] at c;obtain⟨pN,u,rfl⟩:=v c.2;have z:=j _ _ h1;have y:=j _ _ h2;rw[Yi] at y;refine⟨_,rfl,_,rfl,by show 1<=sizeLine;omega,λt H2 nt g T=>⟨E,t,_,_,rfl,rfl,g _ _ z,T,by rw[Ya];show _+1<=_;omega,λR H3 o d k=>?_⟩⟩;have J:=g.trans d;refine⟨_,rfl,_,rfl,L,_,_,.ref u,rfl,rfl,aq.of (J _ _ y),RL _ _,_,rfl,_,rfl,_,rfl,L,_,rfl,aq.of (J _ _ y),λQ H4 n4 i G=>?_⟩;rw[show[u].map V.ref=[V.ref u] from rfl,Qh] at G;refine⟨by show 4<=sizeLine;omega,λp H5 n5 n X=>on c.1 pN u rfl p R Q H5 ((j.trans g).free o) ((j.trans J).free n4) ((j.trans J).trans (i.trans n)) ?_ (n _ _ G) X⟩;rw[n _ _ (i _ _ k),Yi];rfl
 refine(Bt.and (a:=!m) (b:=!(as.map V.ref).isEmpty) (Bt.not (show Bt (tB (fU 0)) _ _ _ from λk a=>⟨_,rfl,m,rfl,a _ (ak.refl _)⟩)) λH2 _ g=>Vt.test λkk W=>⟨_,rfl,by show 0<=sizeLine;omega,λA H3 o d k=>⟨E,A,_,rfl,rfl,aq.of (d _ _ (g _ _ (j _ _ h1))),aq.of (xs:=[]) k,W _ d⟩⟩) _ λH2 g=>?_;refine bF (λD=>?_) (λD=>aS ?_)
 ·rw[Wi] at D;obtain⟨jF,a,rfl⟩:=v D.2;have rf:m=a7:=by cases m with|true=>exact absurd D.1 (by decide)|false=>rfl
  have q:=j.trans g;have z:=q _ _ h1;have y:=q _ _ h2;rw[Yi] at z;refine⟨_,rfl,_,rfl,_,rfl,E,_,rfl,aq.of z,λR H3 o d k=>?_⟩;rw[show[a].map V.ref=[V.ref a] from rfl,Qh] at k;refine⟨_,rfl,_,rfl,E,_,_,.ref a,rfl,rfl,aq.of (d _ _ z),RL _ _,_,rfl,_,rfl,by show 1<=sizeLine;omega,λt H4 nt i T=>⟨L,t,_,_,rfl,rfl,i _ _ (d _ _ y),T,by rw[Ya];show _+1<=_;omega,λQ H5 n5 n X=>?_⟩⟩;refine⟨by show 4<=sizeLine;omega,λp H6 n6 g6 h6=>back rf jF a rfl p R Q H6 (q.free o) (((q.trans d).trans i).free n5) ((q.trans d).trans ((i.trans n).trans g6)) (g6 _ _ (n _ _ (i _ _ k))) ?_ h6⟩;rw[g6 _ _ X,Yi];rfl
 have A:(if m then us else as)=[]:=by
  cases m with
  |true=>exact Vh (by simpa using c)
  |false=>exact Vh (by simpa using D)
 exact⟨by show 2<=sizeLine;omega,λdd H3 o d k=>⟨_,rfl,_,rfl,_,rfl,by show 4<=sizeLine;omega,λp H4 n4 i G=>no A p dd H4 ((j.trans g).trans (d.trans i)) (i _ _ k) G⟩⟩
def ya(h:∀b,b=u->ur a b D σ H):ur a u D σ H:=h u rfl
def O9(a:b.Perm F)(h:ji n F g):ji n b g:=⟨λx y t u e=>h.1 x y t u (let⟨c,m,r⟩:=e;⟨c,a.subset m,r⟩),λc m=>h.2.1 c (a.subset m),h.2.2⟩
open Classical in
def Ze2(b:c.Perm F)(n x:Nat):fN c n x=fN F n x:=by
 unfold fN;refine Xg λa _=>?_;rw[Wm,eR,eR];exact⟨λ⟨g,h,e⟩=>⟨g,O9 b.symm h,e⟩,λ⟨g,h,e⟩=>⟨g,O9 b h,e⟩⟩
inductive O_(C CL CJ:U)(s:O V)(H:Hp)(Q:VK)(E:XK):Prop
 |mk (e d:O Int) (z j:Nat) (a:U) (l:BL) (b:BS) (m h o st i r:U) (p g:O U) (k:Int) (A:s=[.ref l.h,.ref st,.ref i,.ref r,.ref a,.int k]) (t:dD C CL CJ H e d z j a l b m h o st) (v:H i=Z (.lst (p.map V.ref))) (u:H r=Z (.lst (g.map V.ref))) (y:p.length=b.dn.length) (x:g.length=b.un.length) (q:∀(n:BL) (c:Hp),bq H c l n->dD C CL CJ c e d z j a n b m h o st->Q (.bl af) c)
def Nd(h b d j a:U)(k:Int)(e c g:U)(i:Int)(o:bS V):St:=[Z (.ref h),Z (.ref b),Z (.ref d),Z (.ref j),Z (.ref a),Z (.int k),Z (.ref e),Z (.ref c),Z (.ref g),Z (.int i),o]
abbrev Ls:O ar:=["_law_book","_law_state","_law_past","_law_ahead","_law_turns_here","_law_at"]
def vN:aP ["_law_book","_law_state","_law_past","_law_ahead","_law_turns_here","_law_at","_law_names","_law_sides","_law_facts","_law_after_here","_law_name_here"] Ls (aH FU):=.a8
theorem ZdA(F:aM K "_law_stands" "_law_stands" FU f fd)(N:HasFn P w K B I 4 "_law_same" mU (qr 4))(pY:HasFn P w K B I 3 "_law_room" zN Co)(HV:HasFn P w K B I 9 "open_of" uJ (RF C CL CJ))(vF:bZ P w K B I 1 "people" C dE (Ip C CL CJ))(FN:bZ P w K B I 1 "kept" C dE (SM C CL CJ))(oB:bZ P w K B I 1 "side_of" C kq (By C CL CJ))(EL:bZ P w K B I 1 "undoable" C dE (Ol C CL CJ))(EM:bZ P w K B I 1 "redoable" C dE (Om C CL CJ))(bl:Bl B):aF P w K B I aL 10 f fd Ls (O_ C CL CJ):=by
 refine F.o vN λs H a h=>?_;obtain⟨n,u,z,j,T,l,b,E,W,fl,st,X,ah,as,us,k,rfl,m,G,hq,e1,e2,q⟩:=h;have hu:=a.qm;refine⟨_,(au (kg (pv 1) (gO rfl rfl (bw (bc 6 vN.nd) (bw (bc 7 vN.nd) (bw (bc 8 vN.nd) (bw (bc 9 vN.nd) gM)))))) (au (aR (PW.pt (pw_or (fS (dN (aZ N a (aa (qp vF a QO (pv 0)) (aa (pv 6) ae))))) (pw_or1 (fS (dN (aZ N a (aa (qp FN a QO (pv 0)) (aa (pv 8) ae)))))))) (av (aG gP)) aX) (au (aR (fS (dN (aZ N a (aa (df (aa (qp EL a (by decide) (pv 0)) (aa (qp EM a (by decide) (pv 0)) ae))) (aa (df (aa (di K bl (pv 2)) (aa (di K bl (pv 3)) ae))) ae))))) (av (aG gP)) aX) (au (aR (bH (tY rfl (JM hu)) (pv 6) (c6 ae)) (av (aG gP)) aX) (au (bV 10 vN.nd (a_ (iL K) (pv 6) (bj eS (pv 5) (di K bl (pv 6))))) (au (aR (fS (dN (aZ N a (aa (cQ oB a QO (pv 0) (aa (pv 10) ae)) (aa (dt (bI a) (pv 7) (pv 10) (λ_ _=>rfl)) ae))))) (av (aG gP)) aX) (av (aG (aZ N a (aa (aZ HV a (aa (pv 0) (aa (pv 10) ae))) (aa (aZ pY a (aa (pv 8) (aa (pv 4) (aa (pv 10) ae)))) ae))))))))))),?_⟩;refine zm ?_;intros;have sz:(10000:Nat)<=sizeLine:=by rw[dw];omega
 have ok:=m.ok;have Ej:=ok.m;have YD:=ok.fl;refine⟨_,rfl,st,_,rfl,az.of m.tup,rfl,_,_,rfl,aU ⟨_,_,rfl,aU ⟨_,_,rfl,aU ⟨_,_,rfl,aU ⟨rfl,?_⟩⟩⟩⟩⟩;dsimp only;have n8:=ok.gd.2.2.2.2;refine ya λU0 y=>?_;refine mn (λD R=>ak H R/\D=Nd l.h st X ah T k E W fl b.co aE) (λnx Q=>?_) ?_
 ·obtain⟨A,v⟩:=m.ba.obj;obtain⟨g,pm,r⟩:=m.ba;refine⟨_,rfl,l.h,A,_,rfl,v,rfl,l,{b with fs:=g},n,u,rfl,r,λp H1 np x G=>?_⟩;refine⟨_,rfl,_,_,.lst _,3,rfl,rfl,O8 G (show b.ps.length<=1000 by omega),O8 (x _ _ m.names) (show b.ps.length<=1000 by omega),λH2 o=>⟨_,rfl,bQ ?_⟩⟩;have gX:=x.trans o;have bb2:=r.same gX;obtain⟨as,ot,dM⟩:=(m.same gX).facts;refine⟨_,rfl,l.h,A,_,rfl,gX _ _ v,rfl,l,{b with fs:=g},n,u,rfl,bb2,(ok.pm pm).zs,(ok.pm pm).fl,λkp ka fs2 H3 MG d pm9 so9 hk pk=>?_⟩;obtain rfl:=ZiE (pm9.trans pm) so9 m.so;exact⟨_,rfl,_,_,YG b.ps b.fs,3,rfl,rfl,RH hk pk (dW YD (by decide)),RH (d _ _ ot) (L2.Paired.bA dM λ_ _ e=>d _ _ e) (dW YD (by decide)),λH4 t=>⟨_,rfl,bQ (aS (Q _ _ ⟨(gX.trans d).trans t,rfl⟩))⟩⟩
 subst y;rintro D H1 ⟨x,rfl⟩;have s1:=m.same x;refine ya λU0 y=>?_;refine mn (λD R=>ak H R/\D=Nd l.h st X ah T k E W fl b.co aE) (λnx Q=>?_) ?_
 ·obtain⟨A,v⟩:=s1.ba.obj;obtain⟨g,pm,r⟩:=s1.ba;refine⟨_,rfl,l.h,A,_,rfl,v,rfl,l,{b with fs:=g},n,u,rfl,r,?_⟩;refine⟨_,rfl,l.h,A,_,rfl,v,rfl,l,{b with fs:=g},n,u,rfl,r,by show 2<=sizeLine;decide,λp1 H2 n2 o h2=>?_⟩;refine⟨_,rfl,X,_,rfl,.inl (aq.of (o _ _ (x _ _ G))),_,rfl,ah,_,rfl,.inl (aq.of (o _ _ (x _ _ hq))),by show 2<=sizeLine;decide,λp2 H3 n3 d h3=>?_⟩;rw[Ya,Ya,e1,e2] at h3;exact⟨_,_,.tup [.int (b.dn.length:Int),.int (b.un.length:Int)],3,rfl,rfl,JJ (d _ _ h2) (by show 2<=1000;decide) (BN [(b.dn.length:Int),(b.un.length:Int)]),JJ h3 (by show 2<=1000;decide) (BN [(b.dn.length:Int),(b.un.length:Int)]),λH4 t=>⟨_,rfl,bQ (aS (Q _ _ ⟨x.trans ((o.trans d).trans t),rfl⟩))⟩⟩
 subst y;rintro _ H2 ⟨o,rfl⟩;have s2:=m.same o;have pL:=t6 b.ps;refine⟨_,rfl,by show 0<=sizeLine;decide,λy H3 n3 d h3=>⟨E,y,_,rfl,rfl,aq.of (d _ _ s2.names),aq.of (xs:=[]) h3,_,rfl,bF (λc=>?_) (λc=>aS ?_)⟩⟩;·exact q l H3 (bq.of (o.trans d)) (s2.same d)
 have L:=s2.same d;have p0:0<b.ps.length:=by
  cases e:b.ps with
  |nil=>unfold iJ at c;rw[e] at c;exact absurd rfl c
  |cons _ _=>exact V8 _
 have m0:=W7 k (show(b.ps.length:Int)≠0 by omega);have m1:=Ww k (show(0:Int)<(b.ps.length:Int) by omega);refine b_ ?_;refine⟨_,rfl,_,rfl,_,rfl,E,_,rfl,.inl (aq.of L.names),_,_,rfl,rfl,by rw[pL];exact Int.lt_of_le_of_lt m0 m1,E,_,_,_,rfl,rfl,aq.of L.names,by rw[pL];exact J_ m0 m1,?_⟩;obtain⟨i,ei⟩:∃i,i=(k % (b.ps.length:Int)).toNat:=⟨_,rfl⟩;have im:i<b.ps.length:=QO
 rw[←ei];have sg:=oI ok.nm im;refine ya λU0 y=>?_;refine mn (λD R=>ak H R/\D=Nd l.h st X ah T k E W fl b.co (Z (.str (aw b.ps i)))) (λnx Q=>?_) ?_
 ·obtain⟨A,v⟩:=L.ba.obj;obtain⟨g,pm,r⟩:=L.ba;refine⟨_,rfl,l.h,A,_,rfl,v,rfl,_,rfl,l,{b with fs:=g},n,u,aw b.ps i,_,rfl,r,sg,_,rfl,_,rfl,W,_,rfl,dm L.cA sg,_,_,.str _,3,rfl,rfl,r6 _,r6 _,λH4 t=>⟨_,rfl,bQ (aS (Q _ _ ⟨(o.trans d).trans t,rfl⟩))⟩⟩
 subst y;rintro _ H4 ⟨t,rfl⟩;have s4:=m.same t;obtain⟨g,pm,r⟩:=s4.ba;refine⟨_,rfl,_,rfl,l,{b with fs:=g},n,u,i,rfl,r,ok.pm pm,im,λl5 H5 p H6 w5 ba5 _ _ g6 G=>?_⟩;have J:=(s4.e_ w5 ⟨g,pm,ba5⟩).same g6;rw[show fN ({b with fs:=g}:BS).F n.length i=fN b.F n.length i from Ze2 (pm.map _) _ _] at G;refine⟨_,rfl,_,rfl,_,rfl,fl,T,b.ps,n,u,b.F,i,rfl,J.FL,J.turns,ok.nm,J.good.1,n8,(dW Ej (by decide)),J.good.2,im,λrm H7 _ g7 Ep=>?_⟩;have rl:=ZeZ b.F n8 i;exact⟨_,_,.lst _,3,rfl,rfl,RI (g7 _ _ G) rl,RI Ep rl,λH8 g8=>q l5 H8 (bq.after t ((w5.same g6).same (g7.trans g8))) (J.same (g7.trans g8))⟩
def rowOf(a:bL)(p:Nat×Fc):O V:=[.str p.2.k,.str (aw a p.2.one),kV (bp a p.2)]
def wX(b:BS)(r:O V):cm:=(b.fs.map (rowOf b.ps)).any λa=>decide (a=r)
def ZhP(h:kV k=kV k'):k=k':=by
 cases k<;>cases k'<;>cases h<;>rfl
def ZdB:wX b [.str k,.str a,kV o]=af↔∃p∈b.fs,p.2.k=k/\aw b.ps p.2.one=a/\bp b.ps p.2=o:=by
 unfold wX;rw[Jy];constructor
 ·rintro⟨r,d,e⟩;obtain⟨p,c,rfl⟩:=Yg.mp d;have e:=eB e;injection e with i e;injection e with h e;injection e with g _;exact⟨p,c,V.str.inj i,V.str.inj h,ZhP g⟩
 ·rintro⟨p,c,rfl,rfl,rfl⟩;exact⟨_,Yg.mpr ⟨p,c,rfl⟩,dg rfl⟩
theorem Zgk{H:Hp}{c:bL}{D:U}{k:O (Nat×Fc)}:∀{b:O V} {d:O Nat} {gs:O (Nat×Fc)},Paired (λy i=>∃a p,k[i]?=Z p/\y=.ref a/\a≠D/\H a=Z (.tup (rowOf c p))) b d->d.map (λi=>k[i]?)=gs.map Z->∃j:O U,b=j.map V.ref/\Paired (λa h=>H a=Z (.tup h)/\h.all iC=af) j (gs.map (rowOf c)):=by
 intro b d gs n;induction n generalizing gs with
 |nil=>
  intro e;cases gs with
  |nil=>exact⟨[],rfl,.nil⟩
  |cons _ _=>cases e
 |cons f _ o=>
  intro e;cases gs with
  |nil=>cases e
  |cons g gs=>
   obtain⟨a,p,t,s,_,v⟩:=f;injection e with r q;obtain⟨u,m,l⟩:=o q;refine⟨a::u,by rw[s,m];rfl,.cons ⟨by rwa[←(Yo (t.symm.trans r))],?_⟩ l⟩;unfold rowOf;cases bp c g.2<;>rfl
def Zgl(a:O α):(List.range a.length).map (λi=>a[i]?)=a.map Z:=Nz a _ _ λ_ _ h=>h
def Zgm(l:bP xs n b)(u:i<b.ps.length)(s:r∈fN b.F xs.length i)(m:wX b [.str bC,.str (aw b.ps i),kV (.inl r)]=a7)(d:b.fs.length<63):uk xs n b ⟨bC,i,r,[]⟩:=by
 obtain⟨o,g,G,v⟩:=Bn.mp s;obtain⟨J,inr,a⟩:=l.lv;have D:∀c∈b.F,dR xs.length b.ps.length c:=λc k=>by
  obtain⟨p,j,rfl⟩:=Yg.mp (k);exact(l.fg p j).ok
 obtain⟨f,A,y,x⟩:=F2 D inr (λc k=>.inr (a c k)) G v;refine⟨⟨⟨⟨u,absurd rfl⟩,.inl rfl,λ_=>o⟩,λt=>?_,λz=>absurd z (by show ¬cU bC=af;decide+kernel),⟨f,A,λH q=>?_⟩,d⟩,rfl⟩
 ·obtain⟨p,j,e⟩:=Yg.mp t;have e:keyOf p.2.k (aw b.ps p.2.one) (bp b.ps p.2)=[.inr bC,.inr (aw b.ps i),.inl r]:=e.trans (by unfold eF;rw[kP rfl];rfl);by_cases h:p.2.k=bC
  ·have L:=e;rw[kP h] at e;injection e with _ e;injection e with F e;injection e with E _;rw[ZdB.mpr ⟨p,j,h,We F,by rw[kP h,Ao E]⟩] at m;cases m
  ·rw[i_ h] at e;unfold keyOf at e
   grind
 ·rcases Yv.mp q with h|h;·exact y H h
  ·rw[Yq.mp h];exact⟨λ_=>x,absurd rfl⟩
inductive S_(C CL CJ:U)(e:O V)(H:Hp)(Q:VK)(E:XK):Prop
 |mk (d c:O Int) (z j:Nat) (a:U) (l:BL) (b:BS) (h g k st:U) (p:e=[.ref l.h,.ref st,.ref a]) (n:dD C CL CJ H d c z j a l b h g k st) (o:0<b.ps.length) (i:j<=60) (q:∀m,Q (.bl af) m)
abbrev Lu:O ar:=["_law_book","_law_state","_law_turns_here"]
def tK:aP ["_law_book","_law_state","_law_turns_here","_law_names","_law_sides","_law_facts","_law_after_here","_law_rows","_law_at"] Lu (aH EE):=.a8
theorem Z3(F:aM K "_law_next_number" "_law_next_number" EE f fd)(jH:HasFn P w K B I 4 "_law_same" mU (qr 4))(pY:HasFn P w K B I 3 "_law_room" zN Co)(vR:bZ P w K B I 12 "say" C zL (JZ C CL CJ))(bl:Bl B):aF P w K B I aL 13 f fd Lu (S_ C CL CJ):=by
 refine F.o tK λs H u h=>?_;obtain⟨T,J,z,j,td,l,b,L,sd,fl,st,rfl,k,p0,j60,q⟩:=h;have hu:=u.qm;refine⟨_,(au (kg (pv 1) (gO (K:=K) (n:=4) rfl rfl (bw (bc 3 tK.nd) (bw (bc 4 tK.nd) (bw (bc 5 tK.nd) (bw (bc 6 tK.nd) gM)))))) (au (ZbZ (i:=7) (x:="_law_one") (fr:=[]) (cl:=[]) rfl tK.nd rfl (fb rfl) (.gW trivial trivial) (gn (K:=K) rfl (pv 5)) (λ_ _ _ _=>mf) (λ_ _ _ _=>(yH (ZfN (K:=K) rfl) (pv 0) (yM aI) yL))) (au (ia gR rfl (gn (K:=K) rfl (aZ pY u (aa (pv 5) (aa (pv 2) (aa (a_ (iL K) (pv 3) aI) ae))))) (bc 8 tK.nd) (av (aR (iO (Zdl (bI u)) (df (aa bo (aa (a_ (iL K) (pv 3) aI) (aa (pv 8) ae)))) (pv 7) QU) (av (aG (aZ jH u (aa (cQ vR u (by decide) (pv 0) (aa (a_ (iL K) (pv 3) aI) (aa (pv 8) ae))) (aa (pv 6) ae))))) aX))) (av (aG gP))))),?_⟩;have sz:(10000:Nat)<=sizeLine:=by rw[dw];decide
 have ok:=k.ok;have Ej:=ok.m;have YD:=ok.fl;have cf:=k.cf;have cd:=k.cd;refine⟨_,rfl,st,_,rfl,az.of k.tup,rfl,_,_,rfl,aU ⟨_,_,rfl,aU ⟨_,_,rfl,aU ⟨_,_,rfl,aU ⟨rfl,?_⟩⟩⟩⟩⟩;dsimp only;have Nf:dO (iJ b.ps) 0=Z (.str (aw b.ps 0)):=J_ (z:=0) (Int.le_refl 0) QO;obtain⟨as,ot,dM⟩:=k.facts;have al:=cK dM;refine⟨_,rfl,fl,rfl,⟨_,aq.of ot⟩,λD hD=>?_⟩;refine yw (K:=K) (aq.of ot) (by rw[Ya];omega) hD (λ_=>af) (λi y A=>∃a p,b.fs[i]?=Z p/\y=.ref a/\a≠D/\A a=Z (.tup (rowOf b.ps p))) (λi y H1 A br ⟨a,p,e1,e2,e3,e4⟩=>⟨a,p,e1,e2,e3,br _ _ e4 e3⟩) (λi v d A Q ⟨yz,hD2⟩ Kt Kf kt kf=>k_ (cS ?_)) λus HH gH hH pr=>?_
 ·rw[Yf] at d;obtain⟨a,ea,rfl⟩:∃a,as[i]?=Z a/\V.ref a=v:=by
   cases e:as[i]? with
   |none=>rw[e] at d;cases d
   |some c=>rw[e] at d;exact⟨c,rfl,Yo d⟩
  obtain⟨p,epp,hp⟩:=gK dM ea;refine⟨_,rfl,_,rfl,a,_,rfl,az.of (Q _ _ hp),λh=>absurd (show HT.cj 4 0 (Z 1)=0 from h.1) QD,λp2 mV=>kt _ _ rfl (cF mV _) ⟨p2,p,epp,rfl,(λw=>by rw[w,hD2] at mV;cases mV),aT⟩⟩
 rw[A7,Ya,al] at pr;obtain⟨ra,rfl,X⟩:=Zgk pr (Zgl b.fs);have m:=k.same gH;dsimp only;refine je (λ_ _=>True) (λnx hn=>?_) (λ_ E _=>q E);refine⟨_,rfl,_,rfl,_,rfl,L,_,_,_,rfl,rfl,aq.of m.names,Nf,fl,td,b.ps,T,J,b.F,0,rfl,m.FL,m.turns,ok.nm,m.good.1,ok.gd.2.2.2.2,(dW Ej (by decide)),m.good.2,p0,λrm A nrm Q Ep=>?_⟩;refine⟨rm,rfl,⟨_,aq.of Ep⟩,lZ (K:=K) (a:=rm) (xs:=(fN b.F T.length 0).map V.int) (λi G E=>ak A E/\∃o,G=[Z (.ref l.h),Z (.ref st),Z (.ref td),Z (.ref L),Z (.ref sd),Z (.ref fl),Z (.int (b.co:Int)),Z (.ref D),o]) ⟨ak.refl _,_,rfl⟩ (λi G E _ ⟨g,_⟩=>aq.of (g _ _ Ep)) ?_ (λG E _=>hn _ _ trivial)⟩;rintro i v G H3 d ⟨g3,o,rfl⟩;obtain⟨r,rfl,sR⟩:=m_ d;have s3:=m.same (Q.trans g3);have dQ:=Q.trans g3;refine aU ?_;refine⟨_,rfl,L,_,_,_,rfl,rfl,aq.of s3.names,Nf,_,rfl,by show 3<=sizeLine;decide,λt H4 nt N ht=>?_⟩;refine⟨_,rfl,t,D,_,ra,_,rfl,rfl,ht,rfl,N _ _ (dQ _ _ hH),L2.Paired.bA X λ_ _ e=>⟨N _ _ (dQ _ _ e.1),e.2⟩,_,rfl,bF (λR=>?_) (λR=>aS ⟨g3.trans N,_,rfl⟩)⟩;have nr:wX b [.str bC,.str (aw b.ps 0),kV (.inl r)]=a7:=by
  cases e:wX b [.str bC,.str (aw b.ps 0),kV (.inl r)] with
  |false=>rfl
  |true=>
   unfold wX at e;rw[bt rfl] at R;rw[show(b.fs.map (rowOf b.ps)).any (λJ=>decide (J=[V.str "said",V.str (aw b.ps 0),V.int r]))=af from e] at R;cases R
 have so:=Zgm ok p0 (Yj sR) nr QO;have W:=s3.same N;obtain⟨dx,ho⟩:=W.ba.obj;obtain⟨aQ,pm,bb⟩:=W.ba;exact⟨_,rfl,l.h,dx,_,rfl,ho,rfl,_,rfl,L,_,_,_,rfl,rfl,aq.of W.names,Nf,_,rfl,l,{b with fs:=aQ},T,J,⟨bC,0,r,[]⟩,rfl,bb,ok.pm pm,so.pm pm,by show b.dn.length<200;omega,λl6 HI wI baI=>⟨_,rfl,_,_,.int (b.co:Int),3,rfl,rfl,Cb,Cb,λHJ gJ=>q HJ⟩⟩
def CD(K:ai):Sp:=λc H Q _=>∃(a:U) (b:O Int),c=[.ref a]/\aq K H a (b.map V.int)/\b.length<=63/\∀d,Q (.bl af) d
def Ze3(h:xs.length<=63):(k9 xs (Z 3) aE).length<=60:=by
 unfold k9;have e:HT.cj xs.length 0 (Z 3)=min 3 xs.length:=HT.Zfd _ _ 3;exact Yy (List.length_take_le' _ _) (by rw[J0,e];omega)
def iK.e_(h:iK C CL CJ H xs c z j d l b nl e i st as us)(w:bq H m l g)(s:dD C CL CJ m xs c z j d g b nl e i st)(a:j<=k):iK C CL CJ m xs c z k d g b nl e i st as us:=
 ⟨s.up a,h.pa.e_ w h.si.ba a,h.fu.e_ w h.si.ba a,Yy h.cu a⟩
def iK.back(h:iK C CL CJ H xs k z j A l b nl T X st as us)(D:Q.Perm b.fs)(F:j<200)(e:b.dn=p++[d]):∃i a n m o y,as=i++[a]/\(∀c r,c r=Z (.tup (d.row.map kV))->Move xs k c r ⟨b.ps,Q,b.co,p,b.un++[d]⟩ (-d.way) y)/\
  ∀(g:BL) (c:Hp),bq H c l g->bB c C CL CJ g xs k {y with co:=d.c0}->∃P,iK C CL CJ c xs k z (j+1) A g P n m o a i (us++[st]):=by
 have t:=h.pa;rw[e] at t;obtain⟨i,u,n,m,o,a,J,E,ac,s⟩:=t.last;obtain⟨G,q,R,mv⟩:=s.back ac.ok h.si.ac.ok D;obtain⟨_,_,_,_,L,_⟩:=id h.si.turns;have v:=h.si.cd;have N:=h.cu;rw[e,Yd] at v;have W:[d].length=1:=rfl;refine⟨i,a,n,m,o,⟨u.ps,q,b.co,p,b.un++[d]⟩,J,mv,λg c w x=>⟨u.bs p (b.un++[d]),?_,E.e_ w h.si.ba (Wk j),.snoc (h.fu.e_ w h.si.ba (Wk j)) ((h.si.ac.e_ w h.si.ba).up (Wk j)) s,by show(b.un++[d]).length<=_;rw[Yd];exact VC N _⟩⟩;refine((ac.e_ w h.si.ba).up (Wk j)).YI ⟨q,R,?_⟩ (kC (rK v)) (by rw[Yd];omega) F (w.gc h.si.ba h.si.turns h.si.n4) (w.off L h.si.n4).2;rw[G] at x;exact x
def iK.on(h:iK C CL CJ H xs i z j y l b nl Q T st as us)(A:N.Perm b.fs)(q:j<200)(e:b.un=un++[d]):∃pN a m k n x,us=pN++[a]/\(∀c r,c r=Z (.tup (d.row.map kV))->Move xs i c r ⟨b.ps,N,b.co,b.dn++[d],un⟩ d.way x)/\
  ∀(g:BL) (c:Hp),bq H c l g->bB c C CL CJ g xs i {x with co:=d.c1}->∃L,iK C CL CJ c xs i z (j+1) y g L m k n a (as++[st]) pN:=by
 have u:=h.fu;rw[e] at u;obtain⟨pN,t,m,k,n,a,F,D,ac,s⟩:=u.last;obtain⟨E,p,P,mv⟩:=s.on h.si.ac.ok ac.ok A;obtain⟨_,_,_,_,G,_⟩:=id h.si.turns;have J:=h.si.cd;have o:=h.cu;rw[e,Yd] at o;have R:[d].length=1:=rfl;refine⟨pN,a,m,k,n,⟨t.ps,p,b.co,b.dn++[d],un⟩,F,mv,λg c w v=>⟨t.bs (b.dn++[d]) un,?_,.snoc (h.pa.e_ w h.si.ba (Wk j)) ((h.si.ac.e_ w h.si.ba).up (Wk j)) s,D.e_ w h.si.ba (Wk j),by show un.length<=_;exact kC (rK o)⟩⟩;refine((ac.e_ w h.si.ba).up (Wk j)).YI ⟨p,P,?_⟩ (by rw[Yd];exact VC J _) (dW (rK o) (sC q)) q (w.gc h.si.ba h.si.turns h.si.n4) (w.off G h.si.n4).2;rw[E] at v;exact v
def Ze4(h:(z,c)∈fs):(cz z fs).length≠fs.length:=λe=>by
 unfold cz at e;have:=List.length_filter_eq_length_iff.mp e (z,c) h;simp at this
theorem iK.did(h:iK C CL CJ H xs r z j u l b nl i q st as e)(w:bq H d l D)(a:dD C CL CJ d xs r z (j+1) u D J o p k G)(W:Dd b nl i q st J o p k G):
  (J=b/\o=nl/\p=i/\k=q/\G=st/\iK C CL CJ d xs r z (j+1) u D b nl i q st as e)\/
  (iK C CL CJ d xs r z (j+1) u D J o p k G (as++[st]) []/\((o=nl/\p=i/\∃e g,d k=Z (.lst e)/\d q=Z (.lst g)/\e.length≠g.length)\/
   ((∃e g,d o=Z (.lst e)/\d nl=Z (.lst g)/\e.length≠g.length)/\(∃P N,d p=Z (.dK P)/\d i=Z (.dK N)/\P.length≠N.length)/\k=q))):=by
 have ac:=(h.si.ac.e_ w h.si.ba).up (Wk j);have v:=h.pa.e_ w h.si.ba (Wk j);have t:∀{L:Type} (l:O L) (x:L),(l++[x]).length≠l.length:=λl x=>by rw[Yd];show l.length+1≠_;exact VR (r0 _)
 cases W with
 |aA=>exact .inl ⟨rfl,rfl,rfl,rfl,rfl,h.e_ w ⟨a.ba,h.si.ok,a.names,a.n1,a.cA,a.n2,a.facts,a.n3,a.tup,a.turns,a.n4,a.nm,a.so,h.si.cp,h.si.cf,h.si.cd⟩ (Wk j)⟩
 |pin n s AL tI Q=>
  exact .inr ⟨⟨a,.snoc v ac (.pin n s),.nil _,Yw _⟩,.inr ⟨⟨_,_,a.names,ac.names,by rw[t6,t6];exact t _ _⟩,⟨_,_,a.cA,ac.cA,by rw[Ya,Ya];exact t _ _⟩,rfl⟩⟩
 |fin c T Q=>
  obtain⟨a1,F,A⟩:=a.facts;obtain⟨X,E,y⟩:=ac.facts;exact .inr ⟨⟨a,.snoc v ac (.fin c),.nil _,Yw _⟩,.inl ⟨rfl,rfl,_,_,F,E,by rw[Ya,Ya,cK A,cK y];exact t _ _⟩⟩
 |jS R c m T Q=>
  obtain⟨a1,F,A⟩:=a.facts;obtain⟨X,E,y⟩:=ac.facts;exact .inr ⟨⟨a,.snoc v ac (.jS R c m),.nil _,Yw _⟩,.inl ⟨rfl,rfl,_,_,F,E,by rw[Ya,Ya,cK A,cK y];exact Ze4 m⟩⟩
def Nh(e:U)(n:Int)(m a c:U)(z:Int)(h d i p:U)(l o k j g b:bS V):St:=[Z (.ref e),Z (.int n),Z (.ref m),Z (.ref a),Z (.ref c),Z (.int z),Z (.ref h),Z (.ref d),Z (.ref i),Z (.ref p),l,o,k,j,g,b]
inductive VI(C CL CJ r m p c h:U)(n:Int)(o k:O Int)(z j:Nat)(v:Hp)(s:BL)(t:bS V)(i:St)(a:Hp):Prop
 |mk (l:BL) (b:BS) (D y H st d g:U) (u q:O U) (G F E A x:bS V) (w:bq v a s l) (Q:iK C CL CJ a o k z j c l b D y H st u q) (P:a d=Z (.lst (u.map V.ref))) (L:d∉l.fp) (N:a g=Z (.lst (q.map V.ref))) (J:g∉l.fp) (e:i=Nh r n m p c (z:Int) h st d g G t F E A x):VI C CL CJ r m p c h n o k z j v s t i a
def iK.same{C CL CJ:U}{H o:Hp}{c a:O Int}{z j:Nat}{d:U}{l:BL}{b:BS}{k i m e:U}{n us:O U}(g:ak H o)(h:iK C CL CJ H c a z j d l b k i m e n us):iK C CL CJ o c a z j d l b k i m e n us:=h.e_ (bq.of g) (h.si.same g) (Ye _)
abbrev Dh:O ar:=["_law_script"]
def fw:aP ["_law_script","_law_size","_law_mother","_law_wife","_law_turns_here","_law_salt","_law_book","_law_state","_law_past","_law_ahead","_law_cell_here","_law_drawn","_law_redone","_law_due","_law_fresh","_law_k"] Dh (aH ug):=.a8
theorem ZhQ(F:aM K "law" "law" ug f fd)(v9:HasFn P w K B I 1 "_law_cell" DL (Sb K))(pW:HasFn P w K B I 1 "_law_draws" Aj (BM K))(Bp:HasFn P w K B I 2 "_law_row" K9 T6)(GG:HasFn P w K B I 2 "_law_turns" Le Rx)(jH:HasFn P w K B I 4 "_law_same" mU (qr 4))(Hi:HasFn P w K B I 14 "_law_step" Ln (RD C CL CJ))(GH:HasFn P w K B I 12 "_law_moved" Lr (RK C CL CJ))(A1:HasFn P w K B I 10 "_law_stands" Ls (O_ C CL CJ))(Hj:HasFn P w K B I 1 "_law_went" Dg S9)(EN:HasFn P w K B I 13 "_law_next_number" Lu (S_ C CL CJ))
  (HW:HasFn P w K B I 7 "land_of" CV (PQ CL))(Iy:wN P w K B I 1 "Hearth" C C4 (Ro C CL CJ))(bl:Bl B):aF P w K B I (sN P w) 16 f fd Dh (CD K):=by
 refine F.LN fw (λvs H Q E h=>?_) (λbM A outer s H vs Q E L h=>?_)
 ·obtain⟨a,ns,rfl,_⟩:=h;rfl
 obtain⟨a,ns,rfl,hs,hlen,q⟩:=h;have hu:=L.qm;refine⟨_,(au (bV 0 fw.nd (yH (Bu (K:=K) rfl) (pv 0) yL (yM aI))) (au (bV 1 fw.nd (bj jg aI (bj eS (aZ v9 L (aa (pv 0) (aa aI ae))) aI))) (au (bV 2 fw.nd (aZ Bp L (aa (aZ v9 L (aa (pv 0) (aa aI ae))) (aa (pv 1) ae)))) (au (bV 3 fw.nd (aZ Bp L (aa (aZ v9 L (aa (pv 0) (aa aI ae))) (aa (pv 1) ae)))) (au (bV 4 fw.nd (aZ GG L (aa (pv 2) (aa (pv 3) ae)))) (au (bV 5 fw.nd (bj eS (aZ v9 L (aa (pv 0) (aa aI ae))) aI)) (au (bV 6 fw.nd (Km Iy L (by decide) rfl (aa (aZ HW L (aa (pv 2) (aa (pv 3) ae))) ae))) (au (bV 7 fw.nd (df (aa (c6 ae) (aa tS (aa (c6 ae) (aa aI ae)))))) (au (bV 8 fw.nd (c6 ae)) (au (bV 9 fw.nd (c6 ae)) (au (ia UC rfl (gn (K:=K) rfl (yH (Bu (K:=K) rfl) (pv 0) (yM aI) yL)) (bc 10 fw.nd) (au (bV 11 fw.nd (aZ pW L (aa (bj jg (pv 10) aI) (aa (c6 (aa aI (aa aI ae))) ae)))) (au (aR (bH ny (a_ (iL K) (pv 11) aI) aI) (au (bV 12 fw.nd (ze (d7 cD (a_ (iL K) (pv 11) aI) aI) (kW (qk (d7 cD (a_ (iL K) (pv 11) aI) aI) (kW (d7 (tY (K:=K) rfl (Cf hu)) (pv 9) (c6 ae))))))) (au (kg (aZ Hj L (aa (pv 12) (aa (pv 8) (aa (pv 7) (aa (pv 9) ae))))) (gO (K:=K) (n:=4) rfl rfl (bw (bc 13 fw.nd) (bw (bc 8 fw.nd) (bw (bc 7 fw.nd) (bw (bc 9 fw.nd) gM)))))) (av (aR (fS (dN (aZ jH L (aa (aZ GH L (aa (pv 6) (aa (pv 12) ae))) (aa (pv 13) ae))))) (av (aG gP)) aX)))) (au (bV 14 fw.nd (aZ Hi L (aa (pv 6) (aa (pv 7) (aa (pv 10) (aa (pv 4) (aa (pv 5) ae))))))) (au (aR (bH (Zhy (K:=K) rfl (bI L)) (pv 14) (pv 7)) (au (bV 8 fw.nd (bj tX (pv 8) (c6 (aa (pv 7) ae)))) (av (bV 9 fw.nd (c6 ae)))) aX) (av (bV 7 fw.nd (pv 14)))))) (av (aR (fS (dN (aZ A1 L (aa (pv 6) (aa (pv 7) (aa (pv 8) (aa (pv 9) (aa (pv 4) (aa (a_ (iL K) (pv 11) aI) ae))))))))) (av (aG gP)) aX))))) (au (ia UC rfl (pZ rfl bl.ke (aa (di K bl (a_ (iT K) (pv 7) aI)) ae)) (bc 15 fw.nd) (av (aR (fS (dN (aZ A1 L (aa (pv 6) (aa (pv 7) (aa (pv 8) (aa (pv 9) (aa (pv 4) (aa (pv 15) ae))))))))) (av (aG gP)) aX))) (av (aG (ze (d7 (tY (K:=K) rfl (JM hu)) (a_ (iT K) (pv 7) aI) (c6 ae)) (kW (aZ EN L (aa (pv 6) (aa (pv 7) (aa (pv 4) ae)))))))))))))))))))),?_⟩;refine zA ?_;intros;have sz:(10000:Nat)<=sizeLine:=by rw[zl];decide
 obtain⟨ms,em⟩:=Ph ns aE (Z 63);have lms:ms.length<=ns.length:=by
  have:=F8 (ns.map V.int) aE (Z 63);rw[em,Ya,Ya] at this;exact this
 obtain⟨cs,ec⟩:=Ph ms (Z 3) aE;have lcs:cs.length<=60:=by
  have:=Ze3 (xs:=ms.map V.int) (by rw[Ya];exact dW lms hlen);rw[ec,Ya] at this;exact this
 refine b_ ?_;refine⟨_,rfl,_,rfl,a,_,rfl,hs,λs1 H0 n1 g0 yb=>?_⟩;rw[em] at yb;refine b_ ?_;refine⟨_,rfl,s1,ms,0,rfl,aq.of yb,Int.le_refl 0,λc0=>⟨_,_,rfl,rfl,(by show(0:Int)<7;decide),_,_,rfl,rfl,?_⟩⟩;try dsimp only
 have m0:=W7 c0 (show(7:Int)≠0 by decide);have m1:=Ww c0 (show(0:Int)<7 by decide);obtain⟨n,en⟩:∃n:Nat,2+c0 % 7=(n:Int):=⟨(2+c0 % 7).toNat,by omega⟩;rw[en];have n2:2<=n:=by omega
 have n8:n<=8:=by omega
 refine b_ ?_;refine⟨_,rfl,s1,ms,1,rfl,aq.of yb,by decide,λc1=>⟨_,rfl,c1,n,rfl,iz (nP _) n2,dW n8 (by decide),λm J H1 nm g1 hM px=>?_⟩⟩;refine b_ ?_;refine⟨_,rfl,s1,ms,2,rfl,aq.of (g1 _ _ yb),by decide,λc2=>⟨_,rfl,c2,n,rfl,iz (nP _) n2,dW n8 (by decide),λwi ys H2 nw g2 hW py=>?_⟩⟩;have lx:J.length=n:=by rw[px.length_eq,fK]
 have ly:ys.length=n:=by rw[py.length_eq,fK]
 have gd:qz J ys:=⟨tU px,tU py,by omega,by omega,dW (my lx) n8⟩;refine b_ ?_;refine⟨_,rfl,_,rfl,m,wi,J,ys,rfl,g2 _ _ hM,hW,gd,λtd H3 ntd W ht=>?_⟩;have kH:=(g1.trans g2).trans W;refine b_ ?_;refine⟨_,rfl,s1,ms,3,rfl,aq.of (kH _ _ yb),by decide,λc3=>⟨_,_,rfl,rfl,(by show(0:Int)<97;decide),?_⟩⟩;try dsimp only
 have z0:=W7 c3 (show(97:Int)≠0 by decide);have z1:=Ww c3 (show(0:Int)<97 by decide);obtain⟨z,ez⟩:∃z:Nat,c3 % 97=(z:Int):=⟨(c3 % 97).toNat,lX (uH z0)⟩;rw[ez];have hz:z<97:=by omega
 refine b_ ?_;refine⟨_,rfl,_,rfl,m,wi,J,ys,rfl,W _ _ (g2 _ _ hM),W _ _ hW,gd.1,gd.2.1,gd.2.2.1,gd.2.2.2.1,gd.2.2.2.2,λLd H4 g4 la=>λx dx nx Am nd=>?_⟩;have An:upd H4 dx (.own x) x=aE:=by rw[aN (λz=>nd z.symm)];exact nx
 obtain⟨H5,e5⟩:∃H5,H5=upd (upd H4 dx (.own x)) x (.ins C dx []):=⟨_,rfl⟩;have T:ak H4 H5:=by rw[e5];exact(cF Am _).trans (cF An _)
 have hx5:H5 x=Z (.ins C dx []):=by rw[e5];exact aT
 rw[←e5];refine⟨x,dx,Ld,J,ys,rfl,hx5,la.same T,λl H6 eh D8 b6 ba=>⟨rfl,?_⟩⟩;subst eh;have keep:∀{a:U} {o:HO},H4 a=Z o->H6 a=Z o/\a∉l.fp:=λ{a o} e=>by
  have na:a≠l.h:=cE e nx;refine⟨b6 _ _ (T _ _ e) na,λz=>?_⟩;have:=D8 a z na;rw[T _ _ e] at this;cases this
 have hs4:=g4 _ _ (kH _ _ yb);have ht4:=ht.same g4;obtain⟨tm,tf,tw,ts,eQ,q1,q2,q3,q4⟩:=ht4;have ht6:gc H6 td J ys:=⟨tm,tf,tw,ts,(keep eQ).1,(keep q1).1,(keep q2).1,(keep q3).1,(keep q4).1⟩;refine b_ ?_;refine⟨by show 0<=sizeLine;decide,λnl HY nY gY hY=>?_⟩;refine λsd HA nA gA hA=>?_;refine⟨by show 0<=sizeLine;decide,λfl HB nB gB hB=>⟨by show 4<=sizeLine;decide,λst HC nC gC hC=>?_⟩⟩;have Ni:=((gY.trans gA).trans gB).trans gC;have YJ:=ba.same gY;have baA:=YJ.same gA;have Nj:=ba.same Ni;have si:dD C CL CJ HC J ys z 0 td l ⟨[],[],0,[],[]⟩ nl sd fl st:=⟨⟨[],.refl _,Nj⟩,bP.nil gd,gC _ _ (gB _ _ (gA _ _ hY)),λzz=>ba.there zz nY,gC _ _ (gB _ _ hA),λzz=>YJ.there zz nA,⟨[],gC _ _ hB,.nil⟩,λzz=>baA.there zz nB,hC,ht6.same Ni,(keep eQ).2,rfl,Xh,Yw _,Yw _,Yw _⟩;refine b_ ?_;refine⟨by show 0<=sizeLine;decide,λpa HD nD gD hD=>?_⟩;refine b_ ?_;refine⟨by show 0<=sizeLine;decide,λah HE nE gE hE=>?_⟩;have YK:=gD.trans gE;have YL:iK C CL CJ HE J ys z 0 td l ⟨[],[],0,[],[]⟩ nl sd fl st [] []:=⟨si.same YK,.nil _,.nil _,Yw _⟩;have npa:pa∉l.fp:=λzz=>Nj.there zz nD;have nah:ah∉l.fp:=λzz=>(Nj.same gD).there zz nE;have hsE:=YK _ _ (Ni _ _ (keep hs4).1);refine ya λU1 Nk=>?_;refine je (λG H'=>∃fJ,VI C CL CJ s1 m wi td l.h n J ys z 60 HE l fJ G H') (λqX gZ=>?_) ?_
 ·refine⟨_,rfl,_,rfl,s1,_,rfl,aq.of hsE,λca HF nca gF Nl=>⟨ca,rfl,⟨_,aq.of Nl⟩,?_⟩⟩;rw[ec] at Nl;have nc:ca∉l.fp:=YL.si.ba.fresh nca;refine lZ (K:=K) (a:=ca) (xs:=cs.map V.int) (λj G H'=>ak HE HF/\∃fJ,VI C CL CJ s1 m wi td l.h n J ys z j HF l fJ G H') ⟨gF,_,⟨l,_,nl,sd,fl,st,pa,ah,[],[],aE,aE,aE,aE,aE,bq.of (ak.refl _),YL.same gF,gF _ _ (gE _ _ hD),npa,gF _ _ hE,nah,rfl⟩⟩ (λj G H' _ ⟨_,_,⟨_,_,_,_,_,_,_,_,_,_,_,_,_,_,_,wt,_,_,_,_,_,_⟩⟩=>aq.of (wt.off Nl nc).1) ?_ ?_
  ·rintro j v G HG hj ⟨_,fJ,⟨l1,y,j9,pO,pP,X,pQ,pR,as,us,iG,iH,iI,rE,vB,wt,R,jW,yc,AU,yd,rfl⟩⟩;obtain⟨x,rfl,hx⟩:=m_ hj;have jl:j<cs.length:=(Yl.mp hx).1;have e1:l1.h=l.h:=wt.h;refine aU ?_;refine b_ ?_;refine⟨_,rfl,_,_,rfl,rfl,by show 2<=sizeLine;decide,λpl HI AD gI cB=>⟨x+7,pl,[13,61],rfl,aq.of cB,by decide,by decide,λdr ds HJ ndr gJ AV bd=>?_⟩⟩;obtain⟨d0,d1,rfl⟩:∃d0 d1,ds=[d0,d1]:=by
    cases bd with
    |cons r t=>cases t with|cons r2 t2=>cases t2;exact⟨_,_,rfl⟩
   have vC:=gI.trans gJ;have hJ:=R.same vC;have Nm:=vC _ _ jW;have Es:=vC _ _ AU;have Lv:dr∉l1.fp:=(R.si.ba.same gI).fresh ndr;have la:=R.pa.len;have lu:=R.fu.len;have cd:=R.si.cd;have cu:=R.cu;refine ya λU0 e0=>?_;refine mn (λG H'=>VI C CL CJ s1 m wi td l.h n J ys z (j+1) HF l (Z (.ref dr)) G H'/\H' dr=Z (.lst [.int d0,.int d1])) (λnx hn=>?_) ?_
   ·refine⟨_,rfl,dr,_,_,_,rfl,rfl,aq.of AV,rfl,_,_,rfl,rfl,_,rfl,bF (λc4=>?_) (λc4=>?_)⟩
    ·refine b_ ?_;have ix:∀{H9:Hp},ak HJ H9->∀G:St,G[11]?=Z (Z (.ref dr))->Vt (ju (uy K) (fU 11) (tC (V.int 0))) G H9 (.int d0):=λg G M8 kk hk=>⟨_,M8,dr,_,_,_,rfl,rfl,aq.of (g _ _ AV),rfl,hk _ (ak.refl _)⟩;refine Vt.X8 (a:=decide (V.int d0=.int 0)) (b:=decide (V.int d0=.int 1)&&!(us.map V.ref).isEmpty) (Vt.eq (ix (ak.refl _) _ rfl) (λ_ _=>Vt.c) rfl) (λH1 _ g1=>Vt.Lf (Vt.eq (ix g1 _ rfl) (λ_ _=>Vt.c) rfl) λH2 _ g2 kk hk=>⟨_,rfl,by show 0<=sizeLine;decide,λz0 H3 n3 W h3=>⟨pR,z0,_,rfl,rfl,aq.of (W _ _ (g2 _ _ (g1 _ _ Es))),aq.of (xs:=[]) h3,hk _ W⟩⟩) _ λH3 W=>?_;obtain⟨rd,erd⟩:∃rd:cm,rd=(decide (V.int d0=.int 0)||(decide (V.int d0=.int 1)&&!(us.map V.ref).isEmpty)):=⟨_,rfl⟩;rw[←erd];have vD:=hJ.same W;have Vi:=W _ _ AV;refine⟨_,rfl,_,rfl,_,rfl,_,rfl,rd,pQ,pR,X,as,us,rfl,W _ _ Nm,W _ _ Es,by omega,by omega,λer pN u eu p i4 i6 H5 n5 n6 T AO jU rB=>?_,λer jF u eu p i4 i6 H5 n5 n6 T AO jU rB=>?_,λe0 p dd H5 T hdd rB=>?_⟩
     ·subst er;have pS:=vD.same T;obtain⟨f5,kM,rD⟩:=pS.si.ba;have Nn:=vD.si.ba.fresh n5;have Np:=vD.si.ba.fresh n6;refine⟨p,_,rfl,az.of rB,rfl,_,_,rfl,aU ⟨_,_,rfl,aU ⟨_,_,rfl,aU ⟨_,_,rfl,aU ⟨rfl,?_⟩⟩⟩⟩⟩;refine⟨_,rfl,_,rfl,l1,{y with fs:=f5},J,ys,af,by rw[e1];rfl,rD,pS.si.ok.pm kM,by show y.dn.length<200;omega,by show y.un.length<200;omega,(λh=>nomatch h),λ_ un d eun=>?_,λe=>?_⟩
      ·obtain⟨us1,a1,oy,oz,oA,b',e9,mv,k⟩:=pS.on kM (by omega) (show y.un=un++[d] from eun);obtain⟨rfl,rfl⟩:=BD (eu.symm.trans e9);refine⟨b',mv,λD H6 w6 lW=>?_⟩;obtain⟨b2,h6⟩:=k D H6 w6 lW;obtain⟨q1,q2⟩:=w6.off AO Nn;obtain⟨q3,q4⟩:=w6.off jU Np;exact⟨_,rfl,_,_,.str "done",3,rfl,rfl,r6 _,r6 _,λH7 N=>⟨_,rfl,bQ (aS (hn _ _ ⟨⟨D,b2,oy,oz,oA,u,i4,i6,_,_,_,_,_,_,_,(wt.trans (bq.after ((vC.trans W).trans T) w6)).same N,h6.same N,N _ _ q1,q2,N _ _ q3,q4,rfl⟩,N _ _ (w6.off (T _ _ Vi) Lv).1⟩))⟩⟩
      ·rw[if_pos rfl] at e;have e:y.un=[]:=e;rw[e,eu] at lu;simp at lu
     ·subst er;have pS:=vD.same T;obtain⟨f5,kM,rD⟩:=pS.si.ba;have Nn:=vD.si.ba.fresh n5;have Np:=vD.si.ba.fresh n6;refine⟨p,_,rfl,az.of rB,rfl,_,_,rfl,aU ⟨_,_,rfl,aU ⟨_,_,rfl,aU ⟨_,_,rfl,aU ⟨rfl,?_⟩⟩⟩⟩⟩;refine⟨_,rfl,_,rfl,l1,{y with fs:=f5},J,ys,a7,by rw[e1];rfl,rD,pS.si.ok.pm kM,by show y.dn.length<200;omega,by show y.un.length<200;omega,λ_ dn d rF=>?_,(λh=>nomatch h),λe=>?_⟩
      ·obtain⟨us1,a1,oy,oz,oA,b',e9,mv,k⟩:=pS.back kM (by omega) (show y.dn=dn++[d] from rF);obtain⟨rfl,rfl⟩:=BD (eu.symm.trans e9);refine⟨b',mv,λD H6 w6 lW=>?_⟩;obtain⟨b2,h6⟩:=k D H6 w6 lW;obtain⟨q1,q2⟩:=w6.off AO Nn;obtain⟨q3,q4⟩:=w6.off jU Np;exact⟨_,rfl,_,_,.str "done",3,rfl,rfl,r6 _,r6 _,λH7 N=>⟨_,rfl,bQ (aS (hn _ _ ⟨⟨D,b2,oy,oz,oA,u,i4,i6,_,_,_,_,_,_,_,(wt.trans (bq.after ((vC.trans W).trans T) w6)).same N,h6.same N,N _ _ q1,q2,N _ _ q3,q4,rfl⟩,N _ _ (w6.off (T _ _ Vi) Lv).1⟩))⟩⟩
      ·rw[if_neg Yh] at e;have e:y.dn=[]:=e;rw[e,eu] at la;simp at la
     ·have pS:=vD.same T;obtain⟨f5,kM,rD⟩:=pS.si.ba;have dat:∀{H:Hp} {p:U},H p=Z (.tup [.str "nothing left",.bl af])->At H 3 (.ref p) (.tup [.str "nothing left",.bl af]):=λh=>JJ h (by show 2<=1000;decide) (.cons (r6 _) (.cons (Zig _) .nil));refine⟨p,_,rfl,az.of rB,rfl,_,_,rfl,aU ⟨_,_,rfl,aU ⟨_,_,rfl,aU ⟨_,_,rfl,aU ⟨rfl,?_⟩⟩⟩⟩⟩;refine⟨_,rfl,_,rfl,l1,{y with fs:=f5},J,ys,rd,by rw[e1];rfl,rD,pS.si.ok.pm kM,by show y.dn.length<200;omega,by show y.un.length<200;omega,λer dn d rF=>?_,λer dn d rF=>?_,λ_ p2 H6 g6 dB=>?_⟩
      ·subst er;have rF:y.dn=dn++[d]:=rF;rw[if_neg Yh] at e0;rw[e0,rF] at la;simp at la
      ·subst er;have rF:y.un=dn++[d]:=rF;rw[if_pos rfl] at e0;rw[e0,rF] at lu;simp at lu
      ·have ye:=(W.trans T).trans g6;exact⟨_,rfl,_,_,.tup [.str "nothing left",.bl af],3,rfl,rfl,dat dB,dat (g6 _ _ hdd),λH7 N=>⟨_,rfl,bQ (aS (hn _ _ ⟨⟨l1,y,j9,pO,pP,X,pQ,pR,as,us,_,_,_,_,_,wt.same (vC.trans (ye.trans N)),(hJ.same (ye.trans N)).e_ (bq.of (ak.refl _)) (hJ.same (ye.trans N)).si (Wk j),(ye.trans N) _ _ Nm,yc,(ye.trans N) _ _ Es,yd,rfl⟩,(ye.trans N) _ _ AV⟩))⟩⟩
    ·refine b_ ?_;refine⟨_,rfl,_,rfl,_,rfl,_,rfl,_,rfl,J,ys,z,j,x,td,l1,y,j9,pO,pP,X,by rw[e1];rfl,hJ.si,hz,iz jl lcs,λD b2 iX iW j_ c9 HK wK sK dd=>?_⟩;have tupK:=wK.bU hJ.si.ba hJ.si.tup;obtain⟨q1,q2⟩:=wK.off Nm yc;obtain⟨q3,q4⟩:=wK.off Es yd;have Vj:=(wK.off AV Lv).1;have YM:=wt.trans (bq.after vC wK);rcases hJ.did wK sK dd with⟨rfl,rfl,rfl,rfl,rfl,hK⟩|⟨hK,ne⟩
     ·refine⟨_,rfl,_,rfl,c9,c9,iX,iW,j_,iX,iW,j_,_,_,rfl,rfl,az.of sK.tup,az.of tupK,.inl ⟨rfl,rfl,rfl,rfl,_,rfl,bQ (aS ?_)⟩⟩;exact⟨_,rfl,hn _ _ ⟨⟨D,b2,iX,iW,j_,c9,pQ,pR,as,us,_,_,_,_,_,YM,hK,q1,q2,q3,q4,rfl⟩,Vj⟩⟩
     ·have go:∀(kk:V->Hp->Prop),kk (.bl af) HK->UN K (.ref c9) (.ref X) HK kk:=λkk hk=>⟨c9,X,iX,iW,j_,j9,pO,pP,_,_,rfl,rfl,az.of sK.tup,az.of tupK,by
       rcases ne with⟨r1,r2,r3⟩|⟨r1,r2,r3⟩;·exact .inr (.inl ⟨r1,r2,r3,hk⟩)
       ·exact .inr (.inr ⟨r1,r2,r3,hk⟩)⟩
      refine⟨_,rfl,_,rfl,go _ ⟨_,rfl,cS ?_⟩⟩;refine b_ ?_;refine⟨_,rfl,_,rfl,by show 1<=sizeLine;decide,λt H4 nt g4 ht=>⟨pQ,t,_,_,rfl,rfl,g4 _ _ q1,ht,by rw[Ya];show _+1<=_;omega,λi4 H5 n5 T h5=>?_⟩⟩;refine b_ ?_;refine⟨by show 0<=sizeLine;decide,λi6 H6 n6 g6 h6=>?_⟩;have rA:=(g4.trans T).trans g6;refine⟨_,rfl,hn _ _ ⟨⟨D,b2,iX,iW,j_,c9,i4,i6,as++[X],[],_,_,_,_,_,YM.same rA,hK.same rA,?_,(hK.si.ba.same g4).fresh n5,h6,(hK.si.ba.same (g4.trans T)).fresh n6,rfl⟩,rA _ _ Vj⟩⟩;rw[g6 _ _ h5,Yi];rfl
   subst e0;rintro _ HK ⟨⟨D,b2,iX,iW,j_,c9,u6,YN,qY,YO,YQ,YR,YS,YT,YU,w2,h2,dB,mV,Nq,YV,rfl⟩,Zj2⟩;exact⟨_,rfl,_,rfl,_,rfl,_,rfl,_,rfl,_,rfl,dr,_,_,.int d1,rfl,rfl,aq.of Zj2,rfl,J,ys,z,j+1,td,D,b2,iX,iW,j_,c9,u6,YN,qY,YO,d1,by rw[w2.h];rfl,h2.si,dB,Nq,h2.pa.len,h2.fu.len,λl3 H3 w3 s3=>⟨_,rfl,bQ (aS ⟨gF,_,⟨l3,b2,iX,iW,j_,c9,u6,YN,qY,YO,_,_,_,_,_,w2.trans w3,h2.e_ w3 s3 (Ye _),(w3.off dB mV).1,(w3.off dB mV).2,(w3.off Nq YV).1,(w3.off Nq YV).2,rfl⟩⟩)⟩⟩
  ·rintro G HG ⟨gEF,fJ,⟨l1,y,j9,pO,pP,X,pQ,pR,as,us,iG,iH,iI,rE,vB,wt,R,jW,yc,AU,yd,rfl⟩⟩;rw[Ya] at R;exact gZ _ _ ⟨fJ,⟨l1,y,j9,pO,pP,X,pQ,pR,as,us,iG,iH,iI,rE,vB,bq.after gEF wt,R.e_ (bq.of (ak.refl _)) R.si lcs,jW,yc,AU,yd,rfl⟩⟩
 subst Nk;rintro G HG ⟨fJ,⟨l1,y,j9,pO,pP,X,pQ,pR,as,us,iG,iH,iI,rE,vB,wt,R,jW,yc,AU,yd,rfl⟩⟩;have e1:l1.h=l.h:=wt.h;have Ej:=R.si.ok.m;have pL:=t6 y.ps;refine ya λU1 Nk=>?_;refine je (λG H'=>∃(D:BL) (o:bS V),D.h=l.h/\dD C CL CJ H' J ys z 60 td D y j9 pO pP X/\G=Nh s1 n m wi td (z:Int) l.h X pQ pR iG fJ iH iI rE o) (λqX gZ=>?_) ?_
 ·refine⟨_,rfl,X,_,_,.ref j9,rfl,rfl,az.of R.si.tup,rfl,j9,_,rfl,.inl (aq.of R.si.names),_,rfl,by rw[pL];omega,by rw[pL];omega,Bg (lo:=0) (n:=(((iJ y.ps).length:Nat):Int).toNat) (λi G H'=>∃(D:BL) (o:bS V),bq HG H' l1 D/\dD C CL CJ H' J ys z 60 td D y j9 pO pP X/\G=Nh s1 n m wi td (z:Int) l.h X pQ pR iG fJ iH iI rE o) ⟨l1,_,bq.of (ak.refl _),R.si,rfl⟩ ?_ ?_⟩
  ·rintro i G H2 hi ⟨D,o,w2,s2,rfl⟩;refine aU ?_;exact⟨_,rfl,_,rfl,_,rfl,_,rfl,_,rfl,_,rfl,J,ys,z,60,td,D,y,j9,pO,pP,X,pQ,pR,as,us,_,by rw[w2.h,e1];rfl,s2,(w2.off jW yc).1,(w2.off AU yd).1,R.pa.len,R.fu.len,λl3 H3 w3 s3=>⟨_,rfl,bQ (aS ⟨l3,_,w2.trans w3,s3,rfl⟩)⟩⟩
  ·rintro G H2 ⟨D,o,w2,s2,rfl⟩;exact gZ _ _ ⟨D,o,w2.h.trans e1,s2,rfl⟩
 subst Nk;rintro G H2 ⟨D,o,e2,s2,rfl⟩;refine⟨_,rfl,X,_,_,.ref j9,rfl,rfl,az.of s2.tup,rfl,by show 0<=sizeLine;decide,λz0 H3 n3 W h3=>⟨j9,z0,_,rfl,rfl,aq.of (W _ _ s2.names),aq.of (xs:=[]) h3,_,rfl,bF (λc=>q H3) (λc=>?_)⟩⟩;have p0:0<y.ps.length:=by
  cases e:y.ps with
  |nil=>unfold iJ at c;rw[e] at c;exact absurd rfl c
  |cons _ _=>exact nP _
 exact⟨_,rfl,_,rfl,_,rfl,J,ys,z,60,td,D,y,j9,pO,pP,X,by rw[e2];rfl,s2.same W,p0,Ye _,λH4=>q H4⟩
def all_mk{l:PySem.W.OpenLaw}{w:c5}{K:ai}{h:cY}{B:aV}{fa:U}(X:K.In h)(G:h.Ns mainGlobals B)(dz:B "law"=Z (.ref fa))
  (p1:bY K "is_turn" Hv f1)
  (p2:bY K "still" IH f2)
  (p3:bY K "behind" Ie f3)
  (p4:bY K "back" JP f4)
  (p5:bY K "check_turn" FR f5)
  (p6:bY K "check_rows" FT f6)
  (p7:bY K "check_parents" EW f7)
  (p8:bY K "land_of" Hw f8)
  (p9:bY K "followed" GL f9)
  (YQ:bY K "turned_back" Ft LV)
  (p11:bY K "lines_up" GN f11)
  (YR:bY K "is_tie" Ig f12)
  (YS:bY K "tie_turn" GO f13)
  (YT:bY K "fact_key" GP f14)
  (YU:bY K "keep_fact" Gb f15)
  (p16:bY K "fact_fits" Gd f16)
  (p17:bY K "is_name" Hx f17)
  (p18:bY K "check_person" E_ f18)
  (p19:bY K "check_tie" Ge f19)
  (p20:bY K "sides_fit" Gf f20)
  (p21:bY K "told_already" Fb f21)
  (p22:bY K "check_elders" Fd f22)
  (p23:bY K "check_saying" Fe f23)
  (p24:bY K "check_section" EX f24)
  (p25:bY K "is_person" Gg f25)
  (p26:bY K "open_of" Hy f26)
  (p27:bY K "_law_cell" Ob f27)
  (p28:bY K "_law_draws" NL f28)
  (p29:bY K "_law_turn" Oc f29)
  (p30:bY K "_law_row" Hz f30)
  (p31:bY K "_law_inverse" Fu f31)
  (p32:bY K "_law_after" Gh f32)
  (p33:bY K "_law_turns" Gi f33)
  (p34:bY K "_law_same" A8 f34)
  (p35:bY K "_law_nets" GQ f35)
  (p36:bY K "_law_carried" Fv f36)
  (p37:bY K "_law_room" GR f37)
  (p38:bY K "_law_name" GU f38)
  (p39:bY K "_law_up" Ih f39)
  (p40:bY K "_law_told" GV f40)
  (p41:bY K "_law_sided" Gj f41)
  (p42:bY K "_law_word" GW f42)
  (p43:bY K "_law_pick" GX f43)
  (p44:bY K "_law_fact" GY f44)
  (p45:bY K "_law_put" HL f45)
  (p46:bY K "_law_step" GZ f46)
  (p47:bY K "_law_moved" Gk f47)
  (p48:bY K "_law_stands" FU f48)
  (W:bY K "_law_went" G0 f49)
  (T:bY K "_law_next_number" EE f50)
  (R:bY K "law" ug f51)
  (z:sQ K ["len","abs","list","range","tuple","any","all","isinstance","bool","int","str","sorted","min","max","sum","dict","reversed","ValueError"])
  (Zap:nsIn K mainGlobals "LEAST_SIZE"=Z (Z (.int (2) Zko)))
  (Za0:nsIn K mainGlobals "MOST_SIZE"=Z (Z (.int (8) Zkw)))
  (ZN:nsIn K mainGlobals "LONGEST_NAME"=Z (Z (.int (12) Zkf)))
  (ZdC:nsIn K mainGlobals "PUT_IN"=Z (Z (.int (1) ZkS)))
  (Za1:nsIn K mainGlobals "TAKEN_OUT"=Z (Z (.int (-1) Zkx)))
  (Z4:nsIn K mainGlobals "TIE_LETTERS"=Z (Z (.ref oC)))
  (Nv:PyProof.Rows.KTD.tabLook PyProof.Rows.KTD.flatLooks (λb=>K.lookup b) oC [("mother",PyData.str "m"),("father",PyData.str "f"),("wed",PyData.str "w"),("sibling",PyData.str "s")]=af)
  (ZcI:nsIn K mainGlobals "PARENTS"=Z (Z (.ref dX)))
  (ZcJ:K.lookup dX=Z ⟨.type "tuple",ZkN,.seq #[.str "mother" Zky,.str "father" Zkz] ZkO,ZkP⟩)
  (ZhR:nsIn K mainGlobals "MAN"=Z (Z (.str "man" Zk0)))
  (Ze5:nsIn K mainGlobals "WOMAN"=Z (Z (.str "woman" ZkV)))
  (Zc:nsIn K mainGlobals "LETTERS_OF_NAMES"=Z (Z (.str "abcdefghijklmnopqrstuvwxyz" Zj4)))
  (Zn:nsIn K mainGlobals "SIGNS_OF_NAMES"=Z (Z (.str "abcdefghijklmnopqrstuvwxyz0123456789" Zj8)))
  (Zgn:nsIn K mainGlobals "SAID"=Z (Z (.str "said" ZkW)))
  (ZcK:nsIn K mainGlobals "SIBLING"=Z (Z (.str "sibling" ZkQ)))
  (ZbK:Ai K "KinError" "KinError.__init__" [] E3 x ZbL)
  (Gs:Kl K x "__init__" ZbL)
  (Z5:Ai K "NothingLeft" "NothingLeft.__init__" [x] EA i8 Zkk)
  (ZhS:Ah K "Land" c)
  (o:wR K c)
  (ZbM:cR K c "__init__" "Land.__init__" Gm ZkG)
  (ZbN:cR K c "step" "Land.step" Gn ZkH)
  (Zgo:Ah K "Joins" a)
  (n:oQ K a)
  (Za2:cR K a "__init__" "Joins.__init__" FV ZkA)
  (ZbO:cR K a "add" "Joins.add" Gp ZkI)
  (ZbP:cR K a "tie" "Joins.tie" Gq ZkJ)
  (ZbQ:cR K a "say" "Joins.say" Gr ZkK)
  (ZO:cR K a "open_at" "Joins.open_at" EY Zkg)
  (Za3:cR K a "left" "Joins.left" FW ZkB)
  (ZA:cR K a "together" "Joins.together" EO Zkc)
  (Zaq:cR K a "pairs" "Joins.pairs" Fw Zkp)
  (Z6:cR K a "narrow" "Joins.narrow" Ff Zkl)
  (YX:cR K a "bring_together" "Joins.bring_together" Et Zj3)
  (Za4:cR K a "move" "Joins.move" FX ZkC)
  (Ze6:Ah K "Hearth" d)
  (g:eK K d)
  (Zar:cR K d "__init__" "Hearth.__init__" Fx Zkq)
  (ZP:cR K d "person" "Hearth.person" EZ Zkh)
  (Za5:cR K d "tie" "Hearth.tie" FY ZkD)
  (Za6:cR K d "say" "Hearth.say" FZ ZkE)
  (Zas:cR K d "keep" "Hearth.keep" Fy Zkr)
  (Zat:cR K d "take" "Hearth.take" Fz Zks)
  (ZQ:cR K d "people" "Hearth.people" E1 Zki)
  (ZC:cR K d "side_of" "Hearth.side_of" ER Zkd)
  (Zau:cR K d "kept" "Hearth.kept" FA Zkt)
  (Za7:cR K d "has" "Hearth.has" F0 ZkF)
  (Zh:cR K d "parent_of" "Hearth.parent_of" Ey Zj6)
  (Zd:cR K d "parents_of" "Hearth.parents_of" Ew Zj5)
  (Z7:cR K d "joins" "Hearth.joins" Fg Zkm)
  (ZD:cR K d "do_deed" "Hearth.do_deed" ES Zke)
  (Z8:cR K d "shift" "Hearth.shift" Fh Zkn)
  (ZR:cR K d "put_in" "Hearth.put_in" E2 Zkj)
  (Zi:cR K d "note_fact" "Hearth.note_fact" Ez Zj7)
  (Zo:cR K d "take_out" "Hearth.take_out" EF Zj9)
  (Zp:cR K d "place_of" "Hearth.place_of" EG Zj_)
  (Zq:cR K d "undoable" "Hearth.undoable" EH Zka)
  (Zr:cR K d "redoable" "Hearth.redoable" EI Zkb)
  (Zav:cR K d "undo" "Hearth.undo" FC Zku)
  (Zaw:cR K d "redo" "Hearth.redo" FD Zkv)
  (AW:PySem.W.mroIn K i8 (.ref x)=Z af)
  :∃fd:FuncData,(∀(s:bR) (v:aY),BindsTo s fd ⟨[v],[]⟩ [("_law_script",v)])/\∀I:cY,K.In I->I.Ns mainGlobals B->aF l.prog w K B I (sN l.prog w) 16 fa fd Dh (CD K):=by
 obtain @⟨od,an,sl,oc,kV,dc,pm,cd,ct,ax,lx,cx,kx⟩:=R;have e:=dz.symm.trans (hT X G ax);cases e;have bl:=z.bl X G;have F1:=hT X G Zap;have Gu:=hT X G Za0;have Fj:=hT X G ZN;have y:=hT X G ZdC;have GA:=hT X G Za1;have vK:=hT X G Z4;have q:=hT X G ZcI;have p:∀H,az K H dX [.str "mother",.str "father"]:=λ_=>.inr ⟨_,_,_,ZcJ,rfl,rfl,by show 2<=sizeLine;decide,(.cons ⟨_,rfl⟩ (.cons ⟨_,rfl⟩ .nil))⟩;have uj:=hT X G ZhR;have t4:=hT X G Ze5;have EC:=hT X G Zc;have EV:=hT X G Zn;have r:=hT X G Zgn;have A:=hT X G ZcK;obtain⟨_,ZcL,G1,Hh,ZkR,vY,ZkL⟩:=ZbK.b X G xK;obtain⟨_,Zax,Zay,oE,Zaz,AX,u⟩:=Z5.b X G xH;have ZhT:=o.cls;have j:=n.cls;have i:=g.cls;refine⟨fnOf "law" "law" (l_ ug) (jd ug) (aH ug) .none kV dc pm an cd ct,λs v=>.of_eq rfl,λI _ _=>?_⟩;have F:=yY (st:=ug) lx cx kx;have D:kF l.prog w K B I:=⟨X,G⟩;have vL:Cc l.prog w K B I "NothingLeft" "nothing left" i8:=⟨_,_,Zaz,ZW Zax Gs (Zbo ZcL bl) G1 vY oE u,Zay,AX,oE,u⟩;have v9:=D.d p27 (λ_ F=>ZfO F bl.Cv);have L:=D.d p28 (λ_ F=>Zes F bl.Zic);have wb:=D.d p1 (λ_ F=>Zcj F bl);have rJ:=D.d p9 (λ_ F=>Zbr F bl);have N:=D.d YQ (λ_ F=>ZY F bl);have wB:=D.d p2 (λ_ F=>Zev F bl);have Gw:=D.m ZhT ZbN (λ_ F=>ZfU F o);have IT:=D.j Zgo Za2 (λ_ F=>Zez F n bl);have vE:=D.m j ZA (λ_ F=>Zbs F n bl);have t:=D.m j ZO (λ_ F=>Zcn F n bl);have vG:=D.m j Z6 (λ_ F=>Zdn F n bl);have wu:=D.d YR (λ_ F=>Zds F vK Nv);have J:=D.d YT (λ_ F=>Zbw F A bl);have vF:=D.m i ZQ (λ_ F=>Zdt (CL:=c) (CJ:=a) F g bl);have oB:=D.m i ZC (λ_ F=>Zcu (CL:=c) (CJ:=a) F g bl);have vT:=D.d p25 (λ_ F=>ZaQ F bl);have ED:=D.m i Zh (λ_ F=>ZaR (CL:=c) (CJ:=a) F g);have Ex:=D.m i Zd (λ_ F=>Zak (CL:=c) (CJ:=a) F g q p);have FN:=D.m i Zau (λ_ F=>Zf4 (CL:=c) (CJ:=a) F g bl);have EL:=D.m i Zq (λ_ F=>Zby (CL:=c) (CJ:=a) F g bl);have EM:=D.m i Zr (λ_ F=>Zbz (CL:=c) (CJ:=a) F g bl);have HQ:=D.d p17 (λ_ F=>Zcx F Fj EC EV bl);have Iy:=D.j Ze6 Zar (λ_ F=>ZeU (CL:=c) (CJ:=a) F g);have GB:=D.d p20 (λ_ F=>ZaT F uj t4 A);have E8:=D.d p24 (λ_ F=>Zz (C:=d) (CL:=c) (CJ:=a) F g o bl);have GD:=D.d p32 (λ_ F=>ZaX F bl);have tM:=D.d p31 (λ_ F=>Zcz F bl);have FH:=D.d p36 (λ_ F=>ZcA F bl);have G_:=D.d p40 (λ_ F=>ZbB F);have GF:=D.d p41 (λ_ F=>ZaZ F);have Iv:=D.d p39 (λ_ F=>Zdx F bl);have Bc:=D.d p43 (λ_ F=>ZbD F bl);have Hd:=D.d p38 (λ_ F=>ZbF F bl);have EK:=D.m i Zp (λ_ F=>ZbI (CL:=c) (CJ:=a) F g);have Hj:=D.d W (λ_ F=>Zgj F bl);have G8:=D.d p29 (λ_ F=>ZfP F bl.wG bl.ke bl.oK);have jH:HasFn l.prog w K B I 4 "_law_same" mU (qr 4):=let⟨_,F,b,k,m⟩:=D.p (ps:=mU) p34;⟨_,_,QX F b k m bl 4,b,k,m⟩;have tN:=D.d p5 (λ_ F=>ZhB F wb);have vO:=D.d p6 (λ_ F=>ZfS F wb F1 Gu bl);have vU:=D.m j ZbO (λ_ F=>ZhC F n wB bl);have Gx:=D.m j ZbQ (λ_ F=>ZhD F t vG bl);have AY:=D.m j Za4 (λ_ F=>ZfW F n rJ N bl);have FG:=D.m j Zaq (λ_ F=>ZeD F n vE t bl);have v8:=D.d YS (λ_ F=>Zbu (CL:=c) F vK Nv o wu Gw);have vQ:=D.m i Za7 (λ_ F=>ZhJ (CL:=c) (CJ:=a) F g J);have EB:=D.m i Zi (λ_ F=>Zf5 (CL:=c) (CJ:=a) F g q p J);have EJ:=D.m i Zo (λ_ F=>Zbx (CL:=c) (CJ:=a) F g q p vT J);have Fm:=D.d p18 (λ_ F=>ZI (C:=d) (CL:=c) (CJ:=a) F HQ uj t4 vF);have G7:=D.d p11 (λ_ F=>ZbA (C:=d) (CL:=c) (CJ:=a) F Ex);have Bp:=D.d p30 (λ_ F=>Zcy F L G8 bl);have G9:=D.d p35 (λ_ F=>Zgc F tM bl);have GG:=D.d p33 (λ_ F=>ZeW F tM GD bl);have Hf:=D.d p44 (λ_ F=>ZbE F Bc bl);have wo:=D.d p3 (λ_ F=>Zix F tN rJ bl);have zb:=D.d p4 (λ_ F=>Ziy F tN N bl);have Eu:=D.m j YX (λ_ F=>ZeC F n N AY bl);have vP:=D.m j Za3 (λ_ F=>ZfX F FG bl);have Fn:=D.d p21 (λ_ F=>Zf9 (C:=d) (CL:=c) (CJ:=a) F A q p ED vQ);have Fo:=D.d p22 (λ_ F=>ZK (C:=d) (CL:=c) (CJ:=a) F G7);have Fp:=D.d p23 (λ_ F=>ZM (C:=d) (CL:=c) (CJ:=a) F r oB E8 vQ);have E:=D.d p37 (λ_ F=>Zge F G9 FH bl);have E4:=D.d p7 (λ_ F=>Zck F wo bl);have Gy:=D.m j ZbP (λ_ F=>ZhG F n vP vE Eu vG bl);have Gz:=D.d p16 (λ_ F=>ZaO (CL:=c) (CJ:=a) F r v8 t vP);have GC:=D.d p19 (λ_ F=>ZaV (C:=d) (CL:=c) (CJ:=a) F q p wu GB oB Fn Fo);have Hg:=D.d p42 (λ_ F=>ZbC F GF G_ Iv E bl);have JR:=D.j ZhS ZbM (λ_ F=>ZfT F o vO E4 zb wB bl);have vV:=D.d YU (λ_ F=>ZaN (CL:=c) (CJ:=a) F r v8 Gx Gy);have HW:=D.d p8 (λ_ F=>Zcm (C:=c) F vO wo JR);have E6:=D.m i ZR (λ_ F=>Zdv (CL:=c) (CJ:=a) F g vT vU EB vV bl);have vH:=D.m i Z7 (λ_ F=>ZeS (CL:=c) (CJ:=a) F g o IT vU vV);have P:=D.m i Z8 (λ_ F=>ZeP (CL:=c) (CJ:=a) F g y E6 EJ);have HV:=D.d p26 (λ_ F=>ZcH (C:=d) (CL:=c) (CJ:=a) F vH EK t);have Q:=D.m i ZD (λ_ F=>Zcv (CL:=c) (CJ:=a) F g P);have FJ:=D.mX i Zav (λ_ F=>ZeQ (CL:=c) (CJ:=a) F g P vL);have FK:=D.mX i Zaw (λ_ F=>ZeR (CL:=c) (CJ:=a) F g P vL);have A1:=D.d p48 (λ_ F=>ZdA (C:=d) (CL:=c) (CJ:=a) F jH E HV vF FN oB EL EM bl);have E9:=D.m i ZP (λ_ F=>Zdw (CL:=c) (CJ:=a) F g y Fm Q);have vM:=D.m i Zas (λ_ F=>Zf7 (CL:=c) (CJ:=a) F g y Gz vH Q);have FI:=D.m i Zat (λ_ F=>Zf8 (CL:=c) (CJ:=a) F g GA Q);have GH:=D.d p47 (λ_ F=>Ze1 (C:=d) (CL:=c) (CJ:=a) F FJ FK vY Hh AX oE u AW bl);have F5:=D.m i Za5 (λ_ F=>Zf_ (CL:=c) (CJ:=a) F g GC vM);have vR:=D.m i Za6 (λ_ F=>Zga (CL:=c) (CJ:=a) F g r Fp vM);have HU:=D.d p45 (λ_ F=>ZcF (C:=d) (CL:=c) (CJ:=a) F vR F5);have EN:=D.d T (λ_ F=>Z3 (C:=d) (CL:=c) (CJ:=a) F jH E vR bl);have Hi:=D.d p46 (λ_ F=>ZbH (C:=d) (CL:=c) (CJ:=a) F L Hd Hf Hg HU E9 FI bl);exact ZhQ F v9 L Bp GG jH Hi GH A1 Hj EN HW Iy bl
def walk{l:PySem.W.OpenLaw}{q:de}{b:O ar}{p:(ar->bS aY)->cY->Prop}{e:c5->cY->Prop}{d:DefRec}{K:Params->ai}(k:l.most=Z 63)(g:d.params.defaults=[])
  (n:∀(w:c5) (h:cY),e w h->(K w.params).In h)
  (F:∀(w:c5) (B:aV) (c:U) (h:cY),(K w.params).In h->h.Ns mainGlobals B->B d.name=Z (.ref c)->
   ∃fd:FuncData,(∀(s:bR) (u:aY),BindsTo s fd ⟨[u],[]⟩ [("_law_script",u)])/\∀I:cY,(K w.params).In I->I.Ns mainGlobals B->aF l.prog w (K w.params) B I (sN l.prog w) 16 c fd Dh (CD (K w.params))):
  PySem.W.WalkO q b p e l.row.toRowW d [] (λf i=>PySem.call f i):=
 L2.Zfj k QD g ⟨rfl,QD,QD,rfl⟩ n F (λ_ _ a j m _ o=>⟨a,j,rfl,o,m,λ_=>rfl⟩) λ_ _ _ _ _ h=>by obtain⟨_,_,_,_,_,_,_,_,_,_,_,_,_,_,z⟩:=h;exact z
end Ma
namespace PySem.W.Fast
def t:True:=⟨⟩
def tw9313569684453302636:=t
def tw17918363709184825451:=t
def tw1652336559946399014:=t
def tw13559166368694978662:=t
def tw6636758127461127659:=t
def tw13498510633803201897:=t
def tw14961588002608842718:=t
def tw6622943170420213571:=t
def tw1708219878716230592:=t
def tw8266973854452627637:=t
def tw10704973316205462164:=t
def tw11474852978637125715:=t
def tw3630670468982371041:=t
def tw16007236695509436201:=t
def tw11731235177665333221:=t
def tw9418124271461534063:=t
def tw306457552033251931:=t
def tw18107225547583004325:=t
def tw540513162516129253:=t
def tw1901036105433131867:=t
def tw15338800638513010296:=t
def tw9325606728659684476:=t
def tw7645667925712341426:=t
def tw11584744671659124482:=t
def tw6664006285371522900:=t
def tw455796114723468993:=t
def tw6682666861951956464:=t
def tw5248382918920289001:=t
def tw11841292164438722814:=t
def tw10080850352115291:=t
def tw3754428953876462771:=t
def tw12527283474434253305:=t
def tw11171750556811877643:=t
def tw8812616041368492654:=t
def tw5441751186699040896:=t
def tw14923137574035835929:=t
def tw17891030447844073322:=t
def tw2966938610549097640:=t
def tw3821046876449711223:=t
def tw7111235428173173825:=t
def tw2357295796593379903:=t
def tw12763153651942878536:=t
def tw12860435327444965868:=t
def tw11865198832123788919:=t
def tw1026886049737800163:=t
def tw15989339456195099496:=t
def tw15329683208575588622:=t
def tw11725018702502293909:=t
def tw7244365681320973396:=t
def tw10296743774472646053:=t
def tw9003522649878752851:=t
def tw5632830959738843017:=t
def tw1328665789062041312:=t
def tw16118168826640755774:=t
def tw7002727561982817183:=t
def tw16092592097320431461:=t
def tw1548942638980888574:=t
def tw10031499006944846703:=t
def tw17008054993104929886:=t
def tw4575482188815157512:=t
def tw5370324891033138065:=t
def tw6346238641642038173:=t
def tw17843013115748413720:=t
def tw6424295238697182061:=t
def tw4666829902744802886:=t
def tw14395021886350894273:=t
def tw10568069315780157332:=t
def tw8062297862787036735:=t
def tw17238111357762864457:=t
def tw4676728073511083800:=t
def tw17269258324160872024:=t
def tw1389062416579002479:=t
def tw157301185997746607:=t
def tw12144220882999578127:=t
def tw7509822493247764881:=t
def tw13998083900605056224:=t
def tw13323015808073192426:=t
def tw2578617335222367690:=t
def tw8922926066280697674:=t
def tw1894029816207435669:=t
def tw6594704984555201488:=t
def tw8867754707214542748:=t
def tw14516540519597045694:=t
def tw16996416335817136479:=t
def tw17672851301729906240:=t
def tw9763941966763758733:=t
def tw492166488405066288:=t
def tw13871502917649877952:=t
def tw11614501785422109983:=t
def tw4904855604145521502:=t
def tw193665667313962436:=t
def tw425168033592897941:=t
def tw5008216321982606841:=t
def tw1059592650245920263:=t
def tw13881156537730776853:=t
def tw17961376959086861790:=t
def tw8717558279848349151:=t
def tw9937198915469922304:=t
def tw16180496504032477882:=t
def tw11205337767763545606:=t
def tw16746739252041747085:=t
def tw5020202493565948259:=t
def tw2063065966155548915:=t
def tw9781395752310949777:=t
def tw10348590988175986611:=t
def tw13157291858067361790:=t
def tw9685238506106025694:=t
def tw357524447425991508:=t
def tw6394651458693503883:=t
def tw18158695807115438889:=t
def tw16993489801756334252:=t
def tw15985728752106043985:=t
def tw303519618012847366:=t
def tw2678499288507922839:=t
def tw18088696834195264366:=t
def tw6000323241409448862:=t
def tw4257599424997915244:=t
def tw6041950867007906782:=t
def tw298852804023540388:=t
def tw3537402326494729941:=t
def tw17155173768682856877:=t
def tw11702379150764822838:=t
def tw14722382477741732192:=t
def tw14424404154094892425:=t
def tw13408350252802772617:=t
def tw17978988740543471082:=t
def tw14345474362931922393:=t
def tw16810458071222045267:=t
def tw8407593442420362432:=t
def tw97546771015740793:=t
def tw7403749923137060522:=t
def tw4384392888030633223:=t
def tw4159123229707504086:=t
def tw11897223956341703570:=t
def tw10095228276350634699:=t
def tw8177619219271221232:=t
def tw17250502964743890465:=t
def tw7615919749507674464:=t
def tw13555873682799341970:=t
def tw16019776724764544456:=t
def tw8418325283643448250:=t
def tw3501995919381771576:=t
def tw2831551539890292630:=t
def tw6698625731694999903:=t
def tw2390778401830550259:=t
def tw15709919257336468803:=t
def tw9489346612701596938:=t
def tw17456180914182850217:=t
def tw9368882279172584958:=t
def tw9995237569289751564:=t
def tw10465592716579085462:=t
def tw13107253737892905641:=t
def tw3306885185200813599:=t
def tw3276577663278488465:=t
def tw15801940302949170890:=t
def tw17047736474524305327:=t
def tw13274226959721097552:=t
def tw954967192009395943:=t
def tw18293072010440998438:=t
def tw10948056406851274920:=t
def tw11289080400405435988:=t
def tw13870266520179026434:=t
def tw4721763433583116248:=t
def tw13721863949716939518:=t
def tw8642060008807014895:=t
def tw4550927860007553836:=t
def tw17271850621009885984:=t
def tw17486873760530127097:=t
def tw8410990501006345886:=t
def tw9034439529975242217:=t
def tw14992351646886411842:=t
def tw12666608340355068317:=t
def tw10712674056198170856:=t
def tw9098668826898410253:=t
def tw7016048217048944351:=t
def tw8017592395841972363:=t
def tw6221024745728061085:=t
def tw8026540246746894409:=t
def tw17874268518842869480:=t
def tw8254915441863038975:=t
def tw6204858562223306707:=t
def tw12629038170048505987:=t
def tw13860372778972368459:=t
def tw18259981993448591777:=t
def tw2280201871350294695:=t
def tw15754288665076192346:=t
def tw18135484200282738417:=t
def tw7830939034925194150:=t
def tw3744857291029566786:=t
def tw6387843018753261508:=t
def tw2148028557860474806:=t
def tw15355374096226676935:=t
def tw1489260695325771214:=t
def tw13211337463311933510:=t
def tw8706002995290668363:=t
def tw10656790227635143718:=t
def tw1799918500847344569:=t
def tw7477263324692910432:=t
def tw11142110110004776179:=t
def tw8563112460925543087:=t
def tw10644454466306495522:=t
def tw12820840744354402431:=t
def tw8705228760377296984:=t
def tw16507113268258688648:=t
def tw7493719797326176491:=t
def tw9317260155534904099:=t
def tw5856034608909217026:=t
def tw5268018293719427758:=t
def tw2474418332663019901:=t
def tw1311852114526609128:=t
def tw6996128985886028162:=t
def tw7107365748646712609:=t
def tw13079423995738072505:=t
def tw5087417324090212376:=t
def tw6928436282533114279:=t
def tw16138082804743735071:=t
def tw3859700405765495711:=t
def tw15475222530050622845:=t
def tw2335819152739714208:=t
def tw14380844747910604962:=t
def tw16232692917825592894:=t
def tw14767264234091696360:=t
def tw9332913565201132861:=t
def tw1532231716329173416:=t
def tw3887634611184962243:=t
def tw4250539278844634390:=t
def tw13295904746365774231:=t
def tw139183197199757316:=t
def tw8428253415065931886:=t
def tw3488953024468718246:=t
def tw13588374397428305700:=t
def tw12928369002124797836:=t
def tw10522787217717980397:=t
def tw13217904228614183264:=t
def tw12430040089525379965:=t
def tw14457788827163683184:=t
def tw13634928948898150913:=t
def tw12182803943542041615:=t
def tw16901779445878677015:=t
def tw9182368564237497195:=t
def tw3151136839497542548:=t
def tw12194828609234346093:=t
def tw9092588559631156559:=t
def tw16260764623376206905:=t
def tw3101458249445031242:=t
def tw4825091409988039174:=t
def tw12060944842180084834:=t
def tw11650890631863826181:=t
def tw7792656026745747526:=t
def tw3561063005087352551:=t
def tw8988850859263967574:=t
def tw8900908096687976409:=t
def tw2738901328585368472:=t
def tw12970781317520884574:=t
def tw13824336992176753062:=t
def tw17590858447012330410:=t
def tw7987573072615850971:=t
def tw9394972296524465679:=t
def tw6094578688753357030:=t
def tw5779569078750786123:=t
def tw575385005986300542:=t
def tw5262307115603968763:=t
def tw12782807953185594247:=t
def tw8423385331806303718:=t
def tw3633872332295019946:=t
def tw5755607538893312192:=t
def tw4976331062119270752:=t
def tw8474562138885825301:=t
def tw1549118809743523707:=t
def tw7238512454546543195:=t
def tw5911951150179481150:=t
def tw738760500064185043:=t
def tw8623014363722463575:=t
def tw5318260619729939251:=t
def tw541042178842296125:=t
def tw11575916163950251100:=t
def tw18492502472374078:=t
def tw5209346330270025869:=t
def tw1228782975093992332:=t
def tw9725113271080225983:=t
def tw10905473656526033954:=t
def tw18294766651375282807:=t
def tw12386350240669346054:=t
def tw6828603961515851013:=t
def tw17865438968497609489:=t
def tw7451228093857096887:=t
def tw2526251627035414417:=t
def tw3278379831673517142:=t
def tw3488713357230334625:=t
def tw10129695619261395900:=t
def tw5053857344077577932:=t
def tw6952740208819895097:=t
def tw6634968933238937165:=t
def tw12153277817441033596:=t
def tw18392354663312728238:=t
def tw3861313587616002424:=t
def tw2666784436106984054:=t
def tw17818155267175507658:=t
def tw7773852306453521397:=t
def tw17998985367489672052:=t
def tw845584645681441925:=t
def tw13208913449352666595:=t
def tw3810146080840407352:=t
def tw13658715366966652690:=t
def tw4637740564231260567:=t
def tw2012706154908728106:=t
def tw10964682129185562733:=t
def tw13724579826476497324:=t
def tw12905074862482173640:=t
def tw4964716504196451914:=t
def tw5026276030672555680:=t
def tw12081339154857212596:=t
def tw194933141000804988:=t
def tw15634724868003960805:=t
def tw3737070574703981743:=t
def tw12685300279380177267:=t
def tw1331686745512550496:=t
def tw7420066154825618724:=t
def tw13320618330766965091:=t
def tw16055229114275411577:=t
def tw17567159201932778521:=t
def tw2521085848201921951:=t
def tw2644168367327194436:=t
def tw1758854637308322055:=t
def tw8820151363537726946:=t
def tw6665323772597609367:=t
def tw1756979697342567706:=t
def tw252197101095603634:=t
def tw17252548632873056939:=t
def tw15883234026069369307:=t
def tw1770045148769880219:=t
def tw13651221683865770302:=t
def tw17740898511575074844:=t
def tw247913856608741030:=t
def tw2014356020239568930:=t
def tw16937539528242069337:=t
def tw2721618174144052850:=t
def tw1313954960158533372:=t
def tw16629590400571072742:=t
def tw9089694154907749468:=t
def tw13224619270044229593:=t
def tw2935881077179493197:=t
def tw11595643775911214814:=t
def tw9291920183693837678:=t
def tw14534493984054697290:=t
def tw15238321236318403056:=t
def tw3753096257765773155:=t
def tw4335787336380958901:=t
def tw11396264744565563348:=t
def tw13290136636407227728:=t
def tw4861801970293638352:=t
def tw2740053991304406448:=t
def tw8005401977055249095:=t
def tw12150406287261368155:=t
def tw11745487167261130945:=t
def tw4940343982826207267:=t
def tw1003513507292931299:=t
def tw5678010572230985987:=t
def tw16894665089940115108:=t
def tw17959394270437763940:=t
def tw17402460417408353957:=t
def tw16858026578978681605:=t
def tw1369866447335935686:=t
def tw6518533493374300263:=t
def tw1464172576423592327:=t
def tw14187617940737939975:=t
def tw16185096031667312615:=t
def tw17751230510575389736:=t
def tw8947296011079973257:=t
def tw4042581907437956585:=t
def tw18208195189512700457:=t
def tw14883607435393515658:=t
def tw14764034991168446794:=t
def tw11455197518975101898:=t
def tw12054626096005832939:=t
def tw3629512336930869803:=t
def tw14362259016349724812:=t
def tw15196129628606127468:=t
def tw8302996610129648334:=t
def tw11379568009546161038:=t
def tw3436344607354907919:=t
def tw7859888445511341423:=t
def tw880105008201530416:=t
def tw8263467990238249104:=t
def tw7319253885588399346:=t
def tw17923859538424107378:=t
def tw12642282170343731762:=t
def tw9334302405905701586:=t
def tw10713148481587091731:=t
def tw8284737583430926195:=t
def tw6288207995487996180:=t
def tw13939401128594256468:=t
def tw17431840998530798260:=t
def tw10788218588798737236:=t
def tw14660493434355812340:=t
def tw1979413188612972565:=t
def tw5457518162409913109:=t
def tw1276555519301172886:=t
def tw9144604408606816247:=t
def tw5465729741975611480:=t
def tw1993437709726007128:=t
def tw3425831202154009432:=t
def tw3164913699912041368:=t
def tw9491235279460376763:=t
def tw16030693359692649851:=t
def tw1785733267668577659:=t
def tw10243715091261315580:=t
def tw14957352146547125469:=t
def tw1404794249853856509:=t
def tw8794604737514289406:=t
def tw3909947592262583582:=t
def tw11093995163937068798:=t
def tw12516838889808116383:=t
def tw7053363245130117428:=t
def tw15518117363505490767:=t
def tw17313971686201416735:=t
def tw4161916208765297315:=t
def tw4841347058818030484:=t
def tw10791284119948504115:=t
def tw15983610550415554671:=t
def tw483745663681613741:=t
def tw5211875460910173838:=t
def tw13429400770097637563:=t
def tw13339980727775252746:=t
def tw10177706858746989452:=t
def tw9542411971770780081:=t
def tw5496467822476720733:=t
def tw6970436449927586687:=t
def tw3143304138838231300:=t
def tw3100717557217736542:=t
def tw5405993533471615753:=t
def tw9574640387363690456:=t
def tw16370325750029420313:=t
def tw9962291400160986885:=t
def tw13049186482003586402:=t
def tw17826089709458378513:=t
def tw9978825860650176827:=t
def tw17203453132643686779:=t
def tw17934557147823215285:=t
def tw6476998517533345704:=t
def tw14424736323729764698:=t
def tw3052699312603036177:=t
def tw2991775449176519794:=t
def tw9094724362315210519:=t
def tw13288791235860559361:=t
def tw9876362136453845969:=t
def tw14551216097878904816:=t
def tw16371129194507455213:=t
def tw14743033860971898491:=t
def tw11789370594773920891:=t
def tw15343901688576792446:=t
def tw14323148418512533375:=t
def tw8058899423060371768:=t
def tw1202740088985208105:=t
def tw12368659177312166279:=t
def tw13346863337792266828:=t
def tw1920162025641317318:=t
def tw3336118301256345570:=t
def tw10952941202775122015:=t
def tw498500561065876218:=t
def tw16102829569201884057:=t
def tw8383514596236046722:=t
def tw7224712632473928120:=t
def tw2685551573401170606:=t
def tw1850802121047771096:=t
def tw14834514789720977331:=t
def tw9703990606701515664:=t
def tw15654182734478353495:=t
def tw7144070005750938997:=t
def tw11513521330858179284:=t
def tw12184340151791740791:=t
def tw10914526696816368796:=t
def tw14221448918454216595:=t
def tw15333719494053653714:=t
def tw14589337938213999282:=t
def tw6370979318369800021:=t
def tw3276819568743751772:=t
def tw12017728252374385767:=t
def tw5240419122872091191:=t
def tw10012778919430992048:=t
def tw15587736780882474533:=t
def tw9028421648073277843:=t
def tw2971372853458564512:=t
def tw7226228976176559005:=t
def tw2036910853621478483:=t
def tw3886572961665609965:=t
def tw8694581514987575244:=t
def tw2364896532266056673:=t
def tw14395877589988742157:=t
def tw11950047567335293698:=t
def tw17141349100298674305:=t
def tw8676019979802160788:=t
def tw8417195376690684586:=t
def tw16583581860122392926:=t
def tw17338850974639867581:=t
def tw9379672100907974553:=t
def tw8566442018129793929:=t
def tw6255990020821223467:=t
def tw18144591963941343559:=t
def tw4305032389572236602:=t
def tw17465771138503856638:=t
def tw4697184875105509508:=t
def tw16460474062885327520:=t
def tw15013222976289856419:=t
def tw9800773583055179597:=t
def tw2991234380843232734:=t
def tw8560349619037688517:=t
def tw659791866248226790:=t
def tw2866059938146547875:=t
def tw2201276704653904249:=t
def tw14742327959546732817:=t
def tw2110315840410542748:=t
def tw10919644233769432871:=t
def tw15999972582504929834:=t
def tw13700074949044124511:=t
def tw15609224262691529335:=t
def tw7524564740489525989:=t
def tw17195348803463642848:=t
def tw5062269539328078576:=t
def tw8681630747792213827:=t
def tw13348705049202236072:=t
def tw5798845203414113595:=t
def tw12674285512048602524:=t
def tw4284639192725084192:=t
def tw6240318662989781411:=t
def tw9030607486458021125:=t
def tw597575064085227273:=t
def tw7855870189122071443:=t
def tw6642131256453282248:=t
def tw17950521834984606126:=t
def tw10189915107835731279:=t
def tw8322172739249159640:=t
def tw3553003408693042735:=t
def tw4955301724089448739:=t
def tw380345499201277989:=t
def tw10529538057761383089:=t
def tw3160899410247092118:=t
def tw16424375035635645103:=t
def tw15781762177858382488:=t
def tw16633937060778446067:=t
def tw11947486674173389735:=t
def tw7002935778853408720:=t
def tw4970648334839710730:=t
def tw12166145387287818135:=t
def tw14952919316555010883:=t
def tw10419119600510052142:=t
def tw18346995798378630241:=t
def tw14337165758575989391:=t
def tw16777986850697794507:=t
def tw3663503188057534535:=t
def tw7331884240013286339:=t
def tw12733062061930500726:=t
def tw12523193849168418915:=t
def tw7039210644556071356:=t
def tw15902780374481044965:=t
def tw11037664062192657564:=t
def tw6836525683526720883:=t
def tw2169567108003160225:=t
def tw12844198447382377298:=t
def tw13547325964719966124:=t
def tw13039863276151948722:=t
def tw6566490070719516678:=t
def tw10282381743464066466:=t
def tw1173732437587177862:=t
def tw5141757228286106267:=t
def tw11233745008513313212:=t
def tw5972794535780164071:=t
def tw13976954612060378:=t
def tw16833238252814781079:=t
def tw1599366343205879760:=t
def tw10218995211431654632:=t
def tw10601981833885286382:=t
def tw4321972062904762718:=t
def tw15507465830543035852:=t
def tw59594403498579045:=t
def tw14217162160723311099:=t
def tw16511396640520298495:=t
def tw2579501723654854712:=t
def tw4738915972969300207:=t
def tw8158687742196684192:=t
def tw15308635557762299469:=t
def tw11374556366107427314:=t
def tw2183756694421477348:=t
def tw3352249075931848395:=t
def tw7373826022213063189:=t
def tw13281805561724254189:=t
def tw3343894534524453146:=t
def tw17075720066942307952:=t
def tw14492786052198284293:=t
def tw3143035229586301322:=t
def tw4429601881198477338:=t
def tw11400634703607666320:=t
def tw12011445474227949024:=t
def tw14473155383918359831:=t
def tw16761109636244554469:=t
def tw11891069045325591199:=t
def tw5991430193244552304:=t
def tw2535011849774212832:=t
def tw2065597090816454748:=t
def tw14117201099328700072:=t
def tw15935012540881007159:=t
def tw16352090131486011503:=t
def tw11365441245633429397:=t
def tw684022914328531988:=t
def tw1167039633433560620:=t
def tw12870001505768490893:=t
def tw9853651334841948400:=t
def tw9931597078820337416:=t
def tw13411115641094801857:=t
def tw15127288467669099374:=t
def tw14309204613241470491:=t
def tw16911359332803408087:=t
def tw13658515335310573105:=t
def tw6898070548876802117:=t
def tw10293303831674124618:=t
def tw11555515713091884072:=t
def tw10047449921475137270:=t
def tw7812544885825377515:=t
def tw6341999316797265118:=t
def tw13297731461474102453:=t
def tw14024768167897075168:=t
def tw13825643720819896502:=t
def tw17728980457631540912:=t
def tw16767994745292482998:=t
def tw4287325213428247945:=t
def tw10664479902115727601:=t
def tw2510880640907083373:=t
def tw16488236162556319719:=t
def tw9268043966234899835:=t
def tw14002286253837142104:=t
def tw9408840979641786323:=t
def tw12268961400964225016:=t
def tw17405860726229966526:=t
def tw1338856032958568448:=t
def tw17699567203234475049:=t
def tw14563548983162981537:=t
def tw2603290509176577667:=t
def tw8953660430315933072:=t
def tw5084490346238980427:=t
def tw5618736038071264862:=t
def tw16488455430194447005:=t
def tw567816391371988211:=t
def tw434215067894683486:=t
def tw5025010634809211769:=t
def tw4607364376171715265:=t
def tw16949526649672388100:=t
def tw11285136881164846609:=t
def tw16924387992009996572:=t
def tw3582824162057675717:=t
def tw7956996286442213367:=t
def tw6926243477237568214:=t
def tw4734242112678238261:=t
def tw2860598152970955466:=t
def tw15094051232241018924:=t
def tw13366962959180018525:=t
def tw12837535656377063671:=t
def tw11244916072635375806:=t
def tw10201320783767080495:=t
def tw11065765535120691114:=t
def tw3647195694658173107:=t
def tw13185654278013566791:=t
def tw12859514922702547244:=t
def tw4514370707332743076:=t
def tw2304224728864967520:=t
def tw10958585654117364913:=t
def tw14376574033586554374:=t
def tw5145064649401330931:=t
def tw6719986955388717678:=t
def tw13222474403997504792:=t
def tw951186532827810936:=t
def tw10375754583410544097:=t
def tw16714817156171663922:=t
def tw4587384439502505522:=t
def tw13757480188007679805:=t
def tw1429649583212410752:=t
def tw17729642685375350799:=t
def tw12645996315687893940:=t
def tw7655099346450285476:=t
def tw16934254624736409374:=t
def tw7958397979327331038:=t
def tw6863123663504738090:=t
def tw2165741982625671296:=t
def tw6632022876825455318:=t
def tw1811466753249844504:=t
def tw4825504500759077251:=t
def tw12423549696730747732:=t
def tw15754299827347451057:=t
def tw15460132425761617440:=t
def tw14768919785518657516:=t
def tw1911723889436927772:=t
def tw16932232684430983631:=t
def tw5925775979605827214:=t
def tw2629076581090632472:=t
def tw10033675571516516957:=t
def tw6675300795684894606:=t
def tw5610587981048871388:=t
def tw10047441686964869954:=t
def tw14997309753370485249:=t
def tw813355136600831424:=t
def tw2352938530929068459:=t
def tw7243462138674836243:=t
def tw13536740736099008796:=t
def tw13328029095892957814:=t
def tw3952801686780561896:=t
def tw13976873540453940077:=t
def tw7241265708210739011:=t
def tw8727579356249240396:=t
def tw15177492275685564467:=t
def tw13501898944868155484:=t
def tw13242290226747292996:=t
def tw11456210047629033451:=t
def tw13250448459725700204:=t
def tw151044905163471615:=t
def tw7264879782001640550:=t
def tw15156404217143424868:=t
def tw13601922610555604860:=t
def tw9195378590628048375:=t
def tw771668234507777031:=t
def tw6182608040533826495:=t
def tw3705069008288808213:=t
def tw2482132472624344908:=t
def tw16639905473140987649:=t
def tw15318514007815742486:=t
def tw9768268233199995155:=t
def tw7256760341149380149:=t
def tw3561692870077979125:=t
def tw12148935237868749687:=t
def tw113654176333868140:=t
def tw16663569637773802732:=t
def tw5823389488104859364:=t
def tw14297036138209097151:=t
def tw7615586329577891769:=t
def tw8902529385211308561:=t
end PySem.W.Fast
open PySem PySem.W PyProof.Rows
set_option maxRecDepth 100000 in
set_option maxHeartbeats 0 in
theorem PySem.Challenge.cw_kinhearth_k27_undone_and_redone_holds : PySem.Challenge.rw_kinhearth_k27_undone_and_redone.Holds := by
 w_on; o_law; k_head; (case hw=>w_witness2)
 k_fill
 refine Ma.walk (l:=PySem.Challenge.rw_kinhearth_k27_undone_and_redone) rfl rfl (λ w h Y=>kIn_of Y) ?F
 case F=>
  intro w mg fa h KX G z5
  apply Ma.all_mk KX G z5 <;> repeat' first | k_is | (show _=_; k_is) | kernel_rfl | constructor

