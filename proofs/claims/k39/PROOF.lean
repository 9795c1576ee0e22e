import PyProof.Rows.All
import Wide.All
import OpenK.AllK
import Wide.FinOn
import Lean
import PyProof.EqAt
import PyProof.EqKinds
import PyProof.TupleCall
import PyProof.NeKinds
import PyProof.ConsumeWalk
import PyProof.ListRange
import PyProof.TupleOfSeq
import PyProof.Rows.SortWalk
import PyProof.CompFree
import PySem.Challenge.RW_kinhearth_k39_what_a_tie_would_leave
set_option Elab.async false
set_option linter.all false
set_option maxRecDepth 100000
set_option maxHeartbeats 4000000
abbrev ah:=PySem.W.Frag
abbrev bg:=PySem.Value->PySem.Shared->Prop
abbrev a9:=List (PySem.Addr×PySem.Obj)
abbrev aS:=PySem.Str->Option PySem.Value
open PySem
abbrev U:=@Option.some
abbrev aG:=@Option.none
abbrev af:=true
abbrev a8:=false
abbrev O:=List
abbrev Z:=Addr
abbrev a7:=Value
abbrev cb:=Shared
abbrev bR:=Option
abbrev dv:=Program
abbrev dg:=World
abbrev cj:=Stmt
abbrev cO:=Heap
abbrev fI:=Around
abbrev dt:=Array
abbrev cm:=Bool
abbrev ar:=Str
abbrev cM:=Expr
open PySem.W (instObj methodObj lookIn plainGet hasDictIn handedIn plainGet_of findObj_own isFn plainOver takerIn set_plain any_some makesIn typeIn emptyDict keepIn specialIn takesIn kitOne kia_one kitx_list kitx_dict callWith_K methodCall_KW cellsFrom_some fnOf codeIn notCls check_slot KitX osa_eq kitCls findCls subIn nsIn mg_of kIn_of)
open PySem.F (slot_tuple_add excBase_ValueError slot_dict_delitem slot_dict_pop slot_dict_get entry_dict_get plainAttrs_dict type_dict_get plainAttrs_list)
def Ya:=@List.length_map
def Yb:=@Heap.get?_push_of_some
def Yc:=@List.getElem?_eq_getElem
def Yd:=@Nat.le_refl
def Ye:=@List.getElem?_map
def Yf:=@List.mem_map
def Yg:=@List.mem_of_getElem?
def Yh:=@Bool.false_ne_true
def Yi:=@List.getD_eq_getElem?_getD
def Yj:=@List.getElem?_eq_some_iff
def Yk:=@List.mem_cons_self
def Yl:=@List.length_append
def Ym:=@List.mem_singleton
def Yn:=@Option.some.inj
def Yo:=@List.map_append
def Yp:=@Heap.get?_push_size
def Yq:=@List.mem_cons
def Yr:=@Heap.lt_size
def Ys:=@List.mem_append_right
def Yt:=@List.mem_append_left
def Yu:=@List.mem_append
def Yv:=@List.size_toArray
def Yw:=@List.mem_cons_of_mem
def Yx:=@Nat.zero_le
def Yy:=@Nat.ne_of_lt
def Yz:=@Nat.le_trans
def Y0:=@List.nodup_cons
def Y1:=@List.take_add_one
def Y2:=@Nat.lt_of_lt_of_le
def Y3:=@List.not_mem_nil
def Y4:=@List.getElem?_eq_none
def Y5:=@List.mem_filter
def Y6:=@Int.toNat_natCast
def Y7:=@List.map_map
def Y8:=@List.take_length
def Y9:=@Array.getD_eq_getD_getElem?
def Wa:=@Heap.get?_update_other
def Wb:=@List.length_take
def Wc:=@Nat.lt_irrefl
def Wd:=@Bool.eq_iff_iff
def We:=@List.append_nil
def Wf:=@List.filter_append
def Wg:=@List.getElem?_append_left
def Wh:=@Sum.inr.inj
def Wi:=@List.length_cons
def Wj:=@List.filter_cons
def Wk:=@List.length_filter_le
def Wl:=@List.nodup_iff_pairwise_ne
def Wm:=@List.mem_range
def Wn:=@Nat.not_lt_zero
def Wo:=@List.map_congr_left
def Wp:=@Bool.and_eq_true
def Wq:=@List.all_eq_true
def Wr:=@List.pairwise_map
def Ws:=@List.map_cons
def Wt:=@Array.length_toList
def Wu:=@Heap.get?_update_self
def Wv:=@Nat.lt_succ_of_lt
def Ww:=@List.ext_getElem?
def Wx:=@List.mem_iff_getElem
def Wy:=@List.lookup_cons
def Wz:=@List.take_of_length_le
def W0:=@List.nodup_append
def W1:=@Array.getElem?_eq_getElem
def W3:=@List.pairwise_iff_getElem
def W4:=@List.length_replicate
def W5:=@Int.emod_lt_of_pos
def W6:=@Nat.le_succ_of_le
def W7:=@List.length_set
def W8:=@List.length_zip
def W9:=@List.perm_ext_iff_of_nodup
def Ja:=@Nat.ne_of_gt
def Jb:=@Nat.lt_of_le_of_lt
def Jc:=@List.filter_filter
def Jd:=@List.nodup_nil
def Je:=@Option.isSome_iff_exists
def Jf:=@Heap.get?_push_ne
def Jg:=@Int.emod_nonneg
def Jh:=@List.filterMap_cons
def Ji:=@List.all_cons
def Jj:=@List.getElem?_range
def Jk:=@Nat.lt_succ_self
def Jl:=@List.getElem_mem
def Jm:=@Heap.size_push
def Jn:=@List.mem_filterMap
def Jo:=@Nat.le_of_lt
def Jp:=@Array.getElem?_toList
def Jq:=@Nat.le_of_ble_eq_true
def Jr:=@List.any_cons
def Js:=@Bool.eq_false_iff
def Jt:=@List.length_range
def Ju:=@List.append_assoc
def Jv:=@List.filter_congr
def Jw:=@List.getElem?_append_right
def Jx:=@Array.getElem?_eq_some_iff
def Jy:=@Array.perm_iff_toList_perm
def Jz:=@List.length_drop
def J0:=@List.filter_eq_self
def J1:=@Int.toNat_of_nonneg
def J3:=@List.filter_cons_of_pos
def J7:=@List.filter_map
def J8:=@Bool.true_and
def J9:=@Bool.or_eq_true
def Zq:=@Nat.add_sub_cancel_left
def Xo:=@Array.getElem?_eq_none
def yd:=@Nat.le_succ
def X1:=@List.Pairwise.and_mem
def Mw:=@List.any_eq_true
def WD:=@List.getElem?_set_ne
def D4:=@Bool.false_or
def EY:=@Int.mul_assoc
def Mm:=@List.of_mem_zip
def Xg:=@Heap.get?_update_ne
def Mz:=@List.find?_cons
def MA:=@List.range_succ
def ZC:=@List.getElem_of_mem
def Ec:=@Int.zero_add
def XO:=@List.zip_cons_cons
def EX:=@Nat.succ_pos
def WM:=@List.any_eq_false
def Xn:=@Option.isSome_map
def ZA:=@Bool.not_eq_true'
def Eg:=@Sum.inl.inj
def Xm:=@List.cons_append
def X4:=@List.mem_flatMap
def Ml:=@Nat.le_of_eq
def Mx:=@Int.ne_of_gt
def Xa:=@List.length_nil
def MS:=@List.all_map
def Xy:=@List.nil_append
def QO{p:Prop}(h:p:=by omega):p:=h
def QS{p:Prop}(h:p:=by simp):p:=h
def QD{p:Prop}(h:p:=by decide):p:=h
def QU{p:Prop}(h:p:=by with_unfolding_all rfl):p:=h
def QR{p:Prop}(h:p:=by rfl):p:=h
def QK{p:Prop}(h:p:=by decide+kernel):p:=h
def QJ{p:Prop}(h:p:=by kernel_rfl):p:=h
def QG{p:Prop}(h:p:=by grind):p:=h
def QA{p:Prop}(h:p:=by simp_all):p:=h
def bo:=@PySem.wpAny_bind
def cq:=@PySem.wpAny_pure
def bt:=@if_neg
def bS:=@if_pos
def d6:=@decide_eq_true
def gI:=@decide_eq_true_iff
def fb:=@of_decide_eq_true
def dU:=@PySem.sizeLine_eq
def g_:=@decide_eq_false
def eF:=@PySem.wpAny_mono
def hY:=@PySem.PassesOwn.never
def eH:=@congrArg
def lp:=@PySem.F.type_list_append
def lr:=@PySem.F.slot_list_append
def i2:=@PySem.wpAny_holding
def lW:=@PySem.Calls.callWith_builtin
def jo:=@PySem.F.plainAttrs_list
def kS:=@PySem.wpAny_loadPart_at
def ik:=@True.intro
def hI:=@or_false
def l3:=@PySem.wpAny_truthy_bool
def me:=@PySem.wpAny_newObj_type
def kZ:=@PySem.wpAny_standAt
def m9:=@PySem.wpAny_isSubtype_exc
def hP:=@Or.inl
def nh:=@PySem.tupleKind_room_in1
def nA:=@PySem.Calls.spliced_cons
def k8:=@PySem.wpAny_field
def ou:=@PySem.Calls.evalArgs_plain
def mf:=@PySem.strLen_append
def nB:=@PySem.wpAny_call_entry
def mh:=@PySem.codeAny_mono
def mj:=@PySem.call_meetsIn
def oz:=@PySem.wpAny_Call_Name_kw
def pz:=@PySem.F.excBase_ValueError
def nD:=@PySem.wpAny_passesOwn
def jm:=@Ne.symm
def pT:=@PySem.mem_of_lookup
def sq:=@PySem.wpAny_comprehension_free
def oB:=@PySem.F.plainAttrs_dict
def iz:=@not_or
def pU:=@PySem.Calls.spliced_nil
def uZ:=@PySem.plainObj_wpAny_Assign_Attribute
def mz:=@PySem.wpAny_call
def jH:=@PySem.W.kia_one
def oD:=@PySem.F.slot_dict_get
def sS:=@PySem.Obj.data_mapDictKeys
def iC:=@PySem.W.mg_of
def kO:=@Or.inr
def nS:=@PySem.W.callWith_K
def qd:=@PySem.wpAny_setField
def qh:=@List.Perm.refl
def tc:=@PySem.SeqAt.EqAt.int_int
def vi:=@PySem.Calls.call_function_entry
def th:=@PySem.wpAny_pyIter_list
def tq:=@PySem.wpAny_Call_method
def tr:=@PySem.F.slot_dict_delitem
def qj:=@PySem.W.methodCall_KW
def vj:=@PySem.wpAny_Call_method0_late
def pj:=@PySem.typeIs_str
def tJ:=@PySem.wpAny_execs_nil
def tP:=@and_congr_right
def vl:=@PySem.Obj.isFreed_of_fields
def tQ:=@PySem.wpAny_loadPart
def tR:=@PySem.F.entry_dict_get
def vm:=@PySem.codeAny_call_builtin
def vr:=@PySem.evalArgs_none
def tT:=@PySem.wpAny_newList
def Al:=@PySem.F.slot_dict_itemiterator_iter
def qJ:=@PySem.call_meets
def vt:=@PySem.wpAny_pyIter_tuple
def vv:=@PySem.Obj.data_mapFields
def vD:=@bne_self_eq_false
def vG:=@PySem.Within.cons
def Am:=@PyProof.Rows.slot_tuple_getitem
def ra:=@And.intro
def vH:=@PySem.wpAny_lookBehind
def vI:=@PySem.pastItsLine_dict
def Ao:=@PyProof.Rows.callWith_builtin1
def X7:=@congr
def vJ:=@PySem.wpAny_tests_nil
def vK:=@Array.Perm.refl
def Ap:=@PySem.F.slot_dict_setdefault
def Aq:=@PySem.F.args_dict_delitem_2
def Ar:=@PyProof.Rows.callWith_type1
def tV:=@PySem.wpAny_rule
def vN:=@Nat.mul_le_mul
def vV:=@List.take_zero
def AE:=@PySem.F.entry_dict_delitem
def AJ:=@PySem.Calls.Name_function_global
def vW:=@PySem.rangeSize_one
def vX:=@Bool.or_false
def AK:=@PySem.F.slot_dict_values
def AM:=@PySem.F.args_tuple_add_2
def AN:=@List.getElem?_take_of_lt
def YC:=@List.Perm.eq_of_pairwise
def AO:=@Array.size_setIfInBounds
def AX:=@PySem.wpAny_callSpecial?_slot
def Bc:=@PySem.SeqAt.eq_list_lengthsAt
def B1:=@PySem.F.slot_dict_items
def B2:=@PySem.F.entry_tuple_add
def CS:=@PySem.F.args_dict_get_3
def CV:=@PySem.F.args_dict_get_2
def wh:=@PySem.wpAny_nsSet1
def xc:=@PySem.seqIndex_neg
def xm:=@PySem.codeAny_loop
def xp:=@Nat.zero_add
def xP:=@List.map_nil
def x9:=@Int.mul_comm
def Dd:=@PySem.wpAny_delete_Subscript
def Df:=@PySem.wpAny_Call_method_late
def DN:=@PySem.wpAny_Assign_Subscript
def DP:=@Nat.lt_of_succ_lt_succ
def DQ:=@List.getElem?_set_self
def DR:=@PySem.wpAny_notOrdered_dict
def DS:=@PySem.wpAny_isTrue_Compare1
def DX:=@PySem.wpAny_deleteEach_cons
def tX:=@PySem.W.any_some
def ya:=@PySem.wpAny_noted
def yf:=@PySem.wpAny_letGo
def yi:=@PySem.seqIndex_of
def yp:=@PySem.W.plainGet_of
def yr:=@List.map_id
def DY:=@PySem.wpAny_updateDictKeys
def D9:=@PySem.wpAny_loadName_local
def Ea:=@PySem.wpAny_deleteEach_nil
def Eh:=@PySem.lookup_relabel_local
def ED:=@List.replicate_succ'
def EN:=@List.getElem_toArray
def EO:=@PySem.Heap.get?_none_of_le
def G2:=@Array.toArray_toList
def HX:=@PySem.wpAny_loadName_cell
def J5:=@PySem.wpAt_of_wpAny
def J6:=@PySem.Obj.isFreed_of_dict
def YD:=@Nat.add_le_add_left
def YE:=@List.filter_sublist
def Kv:=@PySem.Heap.SameBut.update
def yD:=@PySem.wpAny_Name
def Kw:=@PySem.wpAny_delItem_slot
def LG:=@PySem.wpAny_List_spliced
def LN:=@PySem.findBy_of_findIdx?
def YP:=@PySem.SeqAt.EqAt.str_int
def Zr:=@PySem.SeqAt.EqAt.int_str
def MC:=@List.zip_nil_right
def MM:=@PySem.F.slot_tuple_index
def MV:=@PySem.Code.quiet_builtin
def MW:=@Bool.false_eq_true
def Ni:=@PySem.wpAny_sequenceKey
def Nm:=@PySem.wpAny_dictEntries
def Nn:=@PySem.wpAny_collect_seq
def Np:=@PySem.wpAny_assign_Name
def Nq:=@PySem.slot_dict_getitem
def NM:=@PySem.richCompare_gives
def NS:=@not_false_eq_true
def Pe:=@decide_eq_true_eq
def Pw:=@List.Pairwise.nil
def SF:=@Int.emod_eq_of_lt
def TF:=@PySem.Heap.Ns1.of_empty
def UI:=@Array.getElem_mem
def yE:=@PySem.small_one
def U9:=@PySem.wpAny_madeBy_exc
def Vp:=@PySem.wpAny_execs_cons
def Vz:=@PySem.wpAny_Dict_empty
def VA:=@PySem.noFill_tuple_add
def VB:=@Nat.le_of_not_lt
def VJ:=@List.nodup_range
def V8:=@PySem.Heap.size_update
def WB:=@PySem.wpAny_loadPart'
def WC:=@PySem.codeAny_of_tree
def WR:=@PySem.codeAny_builtin
def WS:=@PySem.SeqAt.eq_listAt
def WT:=@PySem.wpAt_bind
def WU:=@Option.map_some
def WV:=@Int.natCast_add
def yF:=@if_false
def Xd:=@PySem.wpAny_Compare1
def Xf:=@PySem.F.slot_tuple_add
def Xi:=@PySem.refuseLoop_ref
def Xj:=@PySem.W.cellsFrom_some
def Xk:=@Bool.false_and
def Xr:=@Array.size_map
def gb:=@Nat.lt_of_le_of_ne
def gc:=@Nat.le_of_lt_succ
def gV:=@Nat.le_of_not_lt
def eL:=@Nat.le_trans
def hT:=@Nat.lt_of_lt_of_le
def i_:=@Nat.le_antisymm
def lL:=@Nat.lt_of_le_of_lt
def lM:=@Nat.le_succ_of_le
def jn:=@Nat.le_of_eq
def mr:=@Nat.lt_succ_of_lt
def mR:=@Nat.succ_le_of_lt
def jq:=@Nat.mod_lt
def nV:=@Int.natCast_nonneg
def mu:=@Int.ofNat.inj
def m6:=@Nat.le_refl
def n7:=@Nat.lt_trans
def ri:=@decide_eq_true
def t5:=@Nat.le_add_right_of_le
def rn:=@Nat.lt_succ_self
def um:=@decide_eq_false
def uG:=@Int.toNat_of_nonneg
def yM:=@decide_eq_true_iff
def uT:=@Nat.le_add_right
def my:=@Eq.symm
def rz:=@Nat.succ_pos
def r0:=@Nat.le_of_lt
def y0:=@Nat.lt_succ_of_le
def zi:=@Nat.add_sub_of_le
def Zs:=@List.Perm.eq_of_pairwise
def zj:=@Nat.add_zero
def zl:=@Int.le_of_lt
def zr:=@PySem.sizeLine_eq
def Zt:=@Nat.add_le_add_left
def Zz:=@List.filter_sublist
def Xs:=@Nat.pos_of_ne_zero
def QcQ:=@of_decide_eq_true
def Xt:=@Nat.ne_zero_of_lt
def Xu:=@Nat.le_of_succ_le
def Xv:=@Nat.succ_le_succ
def Xw:=@Nat.min_le_right
def Xx:=@Nat.lt_add_right
def Xz:=@Int.not_lt_of_ge
def z6:=@if_pos
def z7:=@Or.inl
def lg:=@Nat.le_trans
def pq:=@Nat.lt_of_lt_of_le
def sm:=@Nat.succ_le_of_lt
def uY:=@Nat.le_of_lt
def Qc2:=@List.Perm.eq_of_pairwise
def Qc3:=@Nat.le_of_eq
def XA:=@Int.ne_of_gt
def Qc5:=@Nat.add_le_add_left
def Qc6:=@List.filter_sublist
def Qc7:=@Int.toNat_of_nonneg
def Qc8:=@decide_eq_true_iff
def Qc9:=@Nat.lt_of_le_of_lt
def Qda:=@of_decide_eq_true
def Qdb:=@PySem.sizeLine_eq
def Qdc:=@Nat.lt_succ_of_lt
def Qdd:=@Nat.le_succ_of_le
def XD:=@Nat.not_lt_of_le
def Qdf:=@Nat.min_le_right
def Qdg:=@Nat.lt_succ_self
def Qdh:=@Nat.lt_add_right
def Qdi:=@Nat.le_of_not_lt
def Qdj:=@decide_eq_false
def Qdk:=@decide_eq_true
namespace L2
open PySem PySem.Spec PyProof.Rows
abbrev Key:=Sum Int ar
def uE:Key->a7->cm
 |.inl k,v=>Value.isInt k v
 |.inr x,v=>Value.isStrOf x v
def Zjv(w:dg):Key->Int
 |.inl k=>hashInt k
 |.inr x=>hashStr w x
theorem nC:∀{k:Key} {v:a7},uE k v=af->(∃i t,k=Sum.inl i/\v=Value.int i t)\/(∃x t,k=Sum.inr x/\v=Value.str x t)
 |.inl i,v,h=>by
  obtain⟨t,e⟩:=Value.isInt_shape h
  simp_all
 |.inr x,v,h=>by
  obtain⟨t,e⟩:=Value.isStrOf_shape h
  simp_all
def ZdE(i:Int)(t:Tok):uE (.inl i) (.int i t)=af:=by simp[uE,Value.isInt]
def ZdF(x:ar)(t:Tok):uE (.inr x) (.str x t)=af:=by simp[uE,Value.isStrOf]
def Zhc(a b:Int):decide ((Sum.inl a:Key)=Sum.inl b)=(a==b):=by
 grind
def Zhd(a b:ar):decide ((Sum.inr a:Key)=Sum.inr b)=decide (a=b):=by
 simp_all
def Zhe(a:Int)(b:ar):decide ((Sum.inl a:Key)=Sum.inr b)=a8:=g_ (λq=>nomatch q)
def Zhf(a:ar)(b:Int):decide ((Sum.inr a:Key)=Sum.inl b)=a8:=g_ (λq=>nomatch q)
def dW(c:dv)(w:dg):PySem.KeyKind c w Key where
 is:=uE
 hash:=Zjv w
 inj:=λv a b m g=>by
  rcases nC m with⟨i,t,rfl,rfl⟩|⟨x,t,rfl,rfl⟩
  ·rcases nC g with⟨j,u,rfl,e⟩|⟨y,u,rfl,e⟩;·injection e with d _;rw[d]
   ·exact nomatch e
  ·rcases nC g with⟨j,u,rfl,e⟩|⟨y,u,rfl,e⟩;·exact nomatch e
   ·injection e with d _;rw[d]
 byValue:=λk v h=>by
  rcases nC h with⟨i,t,rfl,rfl⟩|⟨x,t,rfl,rfl⟩<;>rfl
 pyHash:=λf h=>by
  rcases nC f with⟨i,t,rfl,rfl⟩|⟨x,t,rfl,rfl⟩;·exact wpAny_pyHash_int h
  ·exact wpAny_pyHash_str h
 eqBool:=λl f h=>by
  rcases nC l with⟨i,t,rfl,rfl⟩|⟨x,t,rfl,rfl⟩
  ·rcases nC f with⟨j,u,rfl,rfl⟩|⟨y,u,rfl,rfl⟩;·rw[Zhc] at h;exact wpAny_eqBool_int h
   ·rw[Zhe] at h;exact SeqAt.EqAt.int_str i t y u _ _ _ _ h
  ·rcases nC f with⟨j,u,rfl,rfl⟩|⟨y,u,rfl,rfl⟩;·rw[Zhf] at h;exact SeqAt.EqAt.str_int x t j u _ _ _ _ h
   ·rw[Zhd] at h;exact wpAny_eqBool_str h
 «strs»:=λk x t v h=>by
  rcases nC h with⟨i,u,rfl,e⟩|⟨y,u,rfl,e⟩;·exact nomatch e
  ·injection e with d _;subst d;cases v<;>rfl
def ZbX(a:dv)(w:dg)(i:Int)(t:Tok):(dW a w).is (.inl i) (.int i t)=af:=ZdE i t
def ZbY(a:dv)(w:dg)(x:ar)(t:Tok):(dW a w).is (.inr x) (.str x t)=af:=ZdF x t
inductive V where
 |aE|bl (b:cm)|int (i:Int)|str (x:ar)|kI (b:dt UInt8)|vd (b:UInt64)|ref (a:Z)|ty (n:String)
 deriving DecidableEq
def RelV:V->a7->Prop
 |.aE,u=>u=Value.none
 |.bl b,u=>u=Value.bool b
 |.int i,u=>∃t,u=Value.int i t
 |.str x,u=>∃t,u=Value.str x t
 |.kI b,u=>∃t,u=Value.bytes b t
 |.vd b,u=>∃t,u=Value.float b t
 |.ref a,u=>u=Value.ref a
 |.ty n,u=>u=Value.type n
abbrev Vals:O V->O a7->Prop:=Paired RelV
def Vals.length{a:O V}{b:O a7}(r:Vals a b):a.length=b.length:=Paired.length r
theorem Vals.get:∀{a:O V} {b:O a7} {i:Nat} {x:V},Vals a b->a[i]?=U x->∃u,b[i]?=U u/\RelV x u
 |_,_,_,_,.nil,e=>by simp at e
 |_,_,0,_,.cons r _,e=>by simp at e;subst e;exact⟨_,rfl,r⟩
 |_,_,i+1,x,.cons _ t,e=>by
  obtain⟨u,d,c⟩:=Vals.get t (by simpa using e)
  simp_all
theorem Vals.set{x:V}{u:a7}(r:RelV x u):∀{a:O V} {b:O a7} (i:Nat),Vals a b->Vals (a.set i x) (b.set i u)
 |_,_,_,.nil=>.nil
 |_,_,0,.cons _ t=>.cons r t
 |_,_,i+1,.cons q t=>.cons q (Vals.set r i t)
theorem Vals.append:∀{b a:O V} {d c:O a7},Vals b d->Vals a c->Vals (b++a) (d++c):=by
 intro b a d c h f;induction h with
 |nil=>exact f
 |cons r t e=>exact .cons r e
theorem Vals.take:∀{a:O V} {b:O a7} (n:Nat),Vals a b->Vals (a.take n) (b.take n)
 |_,_,0,_=>.nil
 |_,_,_+1,.nil=>.nil
 |_,_,n+1,.cons r t=>.cons r (Vals.take n t)
theorem Vals.drop:∀{a:O V} {b:O a7} (n:Nat),Vals a b->Vals (a.drop n) (b.drop n)
 |_,_,0,r=>r
 |_,_,_+1,.nil=>.nil
 |_,_,n+1,.cons _ t=>Vals.drop n t
def fh:bR V->bR a7->Prop
 |some v,some u=>RelV v u
 |none,none=>True
 |_,_=>False
def KV{a:Type}:O (a×V)->O (a×a7)->Prop:=Paired λ(p:a×V) (q:a×a7)=>p.1=q.1/\RelV p.2 q.2
def kV:Key->V
 |.inl i=>.int i
 |.inr x=>.str x
inductive HO where
 /--a list-/
 |lst(d:O V)
 /--a tuple(never changes)-/
 |tup(d:O V)
 /--a dict ZiK keys are ints and texts;one ZiK keys are tuples of ints and texts(qL empty one is both)-/
 |dK(c:O (Key×V))|dT(c:O (O Key×V))
 /--a set of ints:ak members,ak size-/
 |set (b:Int->cm) (n:Nat)
 /--an instance of qL class at C,ak dict at g,ak attributes-/
 |ins (C g:Z) (fs:O (ar×V))
 /--qL dict of qL instance at x-/
 |own (x:Z)
 /--qL dict of an exception-/
 |xd (fs:O (ar×V))
 /--a bound method,f of x-/
 |met (f x:Z)
 /--a range object lo,lo+1,.. below e-/
 |kJ (lo e:Int)
 /--a ZiL Zl1 is known to qL object (qL SS;a dict while a loop walks it):read,never written while it is so-/
 |bU (o:Obj) (u:HO)
 /--a code ZlP table-/
 |sV (j:dt a7)
 /--any other ZiL,by Zjw is af of ak one object (a def of ZlX own:Zl2 a b n:=HO.ext λh=>..)-/
 |ext (i:cO->Prop)
abbrev Hp:=Z->bR HO
def upd(H:Hp)(a:Z)(o:HO):Hp:=λb=>if b=a then U o else H b
def aU:upd H a o a=U o:=by unfold upd;rw[bS rfl]
def aK(h:b≠a):upd H a o b=H b:=by unfold upd;rw[bt h]
def JY:upd (upd H a o) a u=upd H a u:=by
 funext b;unfold upd;split<;>rfl
def Uk{H:Hp}(h:H a=U o)(c:H b=U u)(d:o≠u):a≠b:=by
 intro e;subst e;rw[h] at c;exact d (Yn c)
def cA{H:Hp}(h:H a=U o)(c:H b=aG):a≠b:=by
 grind
section
variable (P:dv)(w:dg)
def mK(h:cO)(a:Z)(b:dt a7):Prop:=∃o,h.get? a=U o/\o.cls=.type "tuple"/\∃n,o.data=.seq b n/\o.dict=aG
def mK.tup(x:mK h a items):IsTup h a items:=let⟨o,e,c,n,d,_⟩:=x;⟨o,e,c,n,d⟩
def mK.lt(x:mK h a items):a<h.objs.size:=x.tup.lt
def mK.new(h:cO)(items:dt a7):mK (h.push {cls:=.type "tuple",data:=.seq items}) h.objs.size items:=⟨_,Yp _ rfl,rfl,_,rfl,rfl⟩
def cP(H:Hp)(h:cO)(a:Z):HO->Prop
 |.lst b=>b.length<=sizeLine/\∃(d:O a7) (n:Nat),Vals b d/\h.get? a=U {cls:=.type "list",data:=.seq d.toArray n}
 |.tup b=>b.length<=sizeLine/\∃d:O a7,Vals b d/\mK h a d.toArray
 |.dK kvs=>kvs.length<=sizeLine/\(a==sysModules)=a8/\∃e,KV kvs e/\h.DictOf (dW P w) a e
 |.dT kvs=>kvs.length<=sizeLine/\(a==sysModules)=a8/\∃b:O (O Key×Z×a7),
   Paired (λ(p:O Key×V) (q:O Key×Z×a7)=>p.1=q.1/\H q.2.1=U (.tup (p.1.map kV))/\RelV p.2 q.2.2) kvs b/\
   ∃o j k,h.get? a=U o/\o.ExactDict/\o.data=.dict j k/\j.toList=b.map (entryOfKey (tupleKind (dW P w)))/\(b.map (·.1)).Nodup
 |.set S n=>h.SetOf (intKind P w) a S n
 |.ins C dx fs=>H dx=U (.own a)/\fs.length<=1000/\dx≠a/\h.get? a=U (instObj C dx)/\
   ∃c,h.Ns1 dx c/\(∀f,fh (fs.lookup f) (c f))/\PySem.Within c (fs.map (·.1))
 |.own _=>∃o,h.get? a=U o
 |.xd fs=>∃c,h.Ns1 a c/\∀f,fh (fs.lookup f) (c f)
 |.kJ lo hi=>∃t u v,h.get? a=U {cls:=.type "range",data:=.fields #[.int lo t,.int hi u,.int 1 v]}
 |.bU o u=>h.get? a=U o/\cP H h a u
 |.sV ps=>h.get? a=U {cls:=.none,data:=.fields ps}
 |.met f x=>h.get? a=U (methodObj (.ref f) (.ref x))
 |.ext φ=>φ h/\(∃o,h.get? a=U o)/\∀i g:cO,φ i->(∀o,i.get? a=U o->g.get? a=U o)->φ g
def dw(H:Hp)(h:cO):Prop:=∀a o,H a=U o->cP P w H h a o
end
theorem cP.lt(x:cP P w H h a o):a<h.objs.size:=by
 cases o with
 |lst xs=>obtain⟨_,_,_,_,e⟩:=x;exact Yr e
 |tup xs=>obtain⟨_,_,_,p⟩:=x;exact p.lt
 |dK b=>obtain⟨_,_,_,_,o,_,_,e,_⟩:=x;exact Yr e
 |dT b=>obtain⟨_,_,_,_,o,_,_,e,_⟩:=x;exact Yr e
 |set S n=>obtain⟨o,_,_,_,e,_⟩:=x;exact Yr e
 |ins C j fs=>obtain⟨_,_,_,e,_⟩:=x;exact Yr e
 |own y=>obtain⟨_,e⟩:=x;exact Yr e
 |xd fs=>obtain⟨_,⟨_,_,_,e,_⟩,_⟩:=x;exact Yr e
 |kJ lo i=>obtain⟨_,_,_,e⟩:=x;exact Yr e
 |bU g u=>obtain⟨e,_⟩:=x;exact Yr e
 |sV d=>exact Yr (x)
 |met f y=>exact Yr (x)
 |ext c=>obtain⟨_,⟨_,e⟩,_⟩:=x;exact Yr e
theorem Paired.bI{e d:Type}{F G:e->d->Prop}:∀{c:O e} {l₂:O d},Paired F c l₂->(∀a b,F a b->G a b)->Paired G c l₂:=by
 intro c l₂ h f;induction h with
 |nil=>exact .nil
 |cons r t g=>exact .cons (f _ _ r) g
theorem cP.i6(x:cP P w H h a o)(k:∀b u,(b=a\/H b=U (.own a))->h.get? b=U u->J.get? b=U u)
  (I:∀b,H b=U (.own a)->D b=U (.own a))(G:∀b l,H b=U (.tup l)->D b=U (.tup l)):cP P w D J a o:=by
 induction o with
 |lst l=>obtain⟨z,B,n,r,e⟩:=x;exact⟨z,B,n,r,k _ _ (.inl rfl) e⟩
 |tup l=>obtain⟨z,B,r,g,e,c⟩:=x;exact⟨z,B,r,g,k _ _ (.inl rfl) e,c⟩
 |dK A=>obtain⟨z,y,E,r,g,i,j,e,c⟩:=x;exact⟨z,y,E,r,g,i,j,k _ _ (.inl rfl) e,c⟩
 |dT A=>
  obtain⟨z,y,l,r,g,i,j,e,c⟩:=x;exact⟨z,y,l,Paired.bI r λp q z=>⟨z.1,G _ _ z.2.1,z.2.2⟩,g,i,j,k _ _ (.inl rfl) e,c⟩
 |set S n=>obtain⟨g,i,j,t,e,c⟩:=x;exact⟨g,i,j,t,k _ _ (.inl rfl) e,c⟩
 |ins C T fs=>
  obtain⟨d,z,ne,e,s,⟨m,i,j,L,c⟩,r⟩:=x;exact⟨I _ d,z,ne,k _ _ (.inl rfl) e,s,⟨m,i,j,k _ _ (.inr d) L,c⟩,r⟩
 |own y=>obtain⟨g,e⟩:=x;exact⟨g,k _ _ (.inl rfl) e⟩
 |xd fs=>obtain⟨s,⟨m,i,j,e,c⟩,r⟩:=x;exact⟨s,⟨m,i,j,k _ _ (.inl rfl) e,c⟩,r⟩
 |kJ lo R=>obtain⟨t,u,v,e⟩:=x;exact⟨t,u,v,k _ _ (.inl rfl) e⟩
 |bU g u F=>obtain⟨e,q⟩:=x;exact⟨k _ _ (.inl rfl) e,F q⟩
 |sV Q=>
  have e:=x;exact k a _ (.inl rfl) e
 |met f y=>
  have e:=x;exact k a _ (.inl rfl) e
 |ext N=>obtain⟨p,⟨o,e⟩,st⟩:=x;exact⟨st _ _ p λo q=>k _ _ (.inl rfl) q,⟨o,k _ _ (.inl rfl) e⟩,st⟩
def dw.lt(x:dw P w H h)(e:H a=U o):a<h.objs.size:=(x a o e).lt
theorem dw.fresh(x:dw P w H h)(e:h.objs.size<=a):H a=aG:=by
 cases q:H a with
 |none=>rfl
 |some u=>exact absurd (Y2 (x.lt q) e) (Wc _)
def dw.kept(x:dw P w H h)(k:∀b u,h.get? b=U u->h'.get? b=U u):dw P w H h':=λa o e=>
 (x a o e).i6 (λ b u _=>k b u) (λ_ q=>q) λ_ _ q=>q
def dw.laid(x:dw P w H h)(k:∀b u,h.get? b=U u->h'.get? b=U u)(i:h.objs.size<=a)(d:cP P w (upd H a o) h' a o):dw P w (upd H a o) h':=λb u e=>by
 have f:=x.fresh i;by_cases g:b=a;·subst g;rw[aU] at e;cases e;exact d
 ·rw[aK g] at e;exact(x b u e).i6 (λ c v _=>k c v) (λc q=>by rwa[aK (cA q f)]) λc j q=>by rwa[aK (cA q f)]
def Rd(H:Hp)(a:Z)(u:HO):Prop:=H a=U u\/∃o,H a=U (.bU o u)
def Rd.ok{P:dv}{w:dg}{H:Hp}{h:cO}{a:Z}{u:HO}(r:Rd H a u)(x:dw P w H h):cP P w H h a u:=by
 rcases r with r|⟨o,r⟩;·exact x a u r
 ·obtain⟨_,q⟩:=x a _ r;exact q
def Ak:bR HO->Prop
 |some (.lst _)=>True
 |some (.dK _)=>True
 |some (.dT _)=>True
 |some (.set _ _)=>True
 |some (.ins _ _ _)=>True
 |some (.ext _)=>True
 |_=>False
def dw.write(s:dw P w H h)(d:Ak (H x))(o:e=x\/H e=U (.own x))(k:∀b u,b≠e->h.get? b=U u->h'.get? b=U u)(t:∃u,h'.get? e=U u)
  (j:cP P w (upd H x n) h' x n):dw P w (upd H x n) h':=λb u q=>by
 have p:∀c y,H c=U (.own y)->c≠x:=λc y r z=>by subst z;rw[r] at d;exact d
 have l:∀c a,H c=U (.tup a)->c≠x:=λc a r z=>by subst z;rw[r] at d;exact d
 by_cases g:b=x;·subst g;rw[aU] at q;cases q;exact j
 ·rw[aK g] at q;by_cases i:b=e
  ·have m:H b=U (.own x):=by
    rcases o with z|z;·exact absurd (i.trans z) g
    ·rwa[i]
   rw[q] at m;cases m;obtain⟨v,A⟩:=t;exact⟨v,by rwa[i]⟩
  ·refine(s b u q).i6 (λc v f r=>k c v ?_ r) (λc r=>by rwa[aK (p c b r)]) λc a r=>by rwa[aK (l c a r)]
   rcases f with rfl|f;·exact i
   ·rintro rfl;rcases o with z|z;·exact p c b f z
    ·rw[f] at z;cases z;exact g rfl
structure Un(fs ex:O Z)(H H':Hp)(h h':cO):Prop where
 keep:∀b o,h.get? b=U o->H b=aG->b∉fs->b∉ex->h'.get? b=U o
 slot:∀b o,h.get? b=U o->H b=aG->b∈fs->b∉ex->∃sl,h'.get? b=U {o with slots:=sl}
 free:∀b o,h.get? b=U o->H b=aG->b∉ex->H' b=aG
 there:∀b o,h.get? b=U o->b∉ex->∃o',h'.get? b=U o'
 iN:∀b xs,H b=U (.tup xs)->H' b=U (.tup xs)
 i8:∀b o u,H b=U (.bU o u)->H' b=U (.bU o u)
 jz:∀b ps,H b=U (.sV ps)->∃more,H' b=U (.sV (ps++more))
section
variable {fs X:O Z}{H H1 T:Hp}{h W R h':cO}{a:Z}{o:HO}
def Un.any(u:Un fs X H H1 h W)(q:h.get? b=U c)(n:H b=aG)(d:b∉X):∃f,W.get? b=U {c with slots:=f}:=by
 by_cases e:b∈fs;·exact u.slot b c q n e d
 ·exact⟨c.slots,u.keep b c q n e d⟩
theorem Un.trans(a:Un fs X H H1 h W)(b:Un fs X H1 T W R):Un fs X H T h R where
 keep:=λc d q n i e=>b.keep c d (a.keep c d q n i e) (a.free c d q n e) i e
 slot:=λc d q n i e=>by
  obtain⟨m,f⟩:=a.slot c d q n i e;obtain⟨s,l⟩:=b.slot c _ f (a.free c d q n e) i e
  grind
 free:=λc d q n e=>by
  obtain⟨j,f⟩:=a.there c d q e;exact b.free c j f (a.free c d q n e) e
 there:=λc d q e=>by
  obtain⟨j,f⟩:=a.there c d q e;exact b.there c j f e
 iN:=λc g q=>b.iN c g (a.iN c g q)
 i8:=λc d g q=>b.i8 c d g (a.i8 c d g q)
 jz:=λc k q=>by
  obtain⟨r,f⟩:=a.jz c k q;obtain⟨p,l⟩:=b.jz c _ f
  grind
def Un.kept(k:∀b u,h.get? b=U u->h'.get? b=U u):Un fs X H H h h':=
 ⟨λb c q _ _ _=>k b c q,λb c q _ _ _=>⟨c.slots,k b c q⟩,λ_ _ _ n _=>n,λb c q _=>⟨c,k b c q⟩,λ_ _ q=>q,λ_ _ _ q=>q,λ_ d q=>⟨#[],by rw[q];simp⟩⟩
def Un.refl:Un fs X H H h h:=Un.kept λ_ _ q=>q
theorem Un.laid(k:∀b u,h.get? b=U u->h'.get? b=U u)(e:h.objs.size<=a)(c:H a=aG):Un fs X H (upd H a o) h h' where
 keep:=λb u q _ _ _=>k b u q
 slot:=λb u q _ _ _=>⟨u.slots,k b u q⟩
 free:=λb u q n _=>by rw[aK (Yy (Y2 (Yr q) e))];exact n
 there:=λb u q _=>⟨u,k b u q⟩
 iN:=λb d q=>by rw[aK (cA q c)];exact q
 i8:=λb u d q=>by rw[aK (cA q c)];exact q
 jz:=λb f q=>⟨#[],by rw[aK (cA q c),q];simp⟩
def Un.write(c:Ak (H x))(m:e=x\/H e=U (.own x))(k:∀b u,b≠e->h.get? b=U u->h'.get? b=U u)(p:∃u,h'.get? e=U u):Un fs X H (upd H x o) h h':=by
 have j:∀b,H b=aG->b≠x:=λb n z=>by subst z;rw[n] at c;exact c
 have f:∀b,H b=aG->b≠e:=λb n z=>by
  grind
 have d:∀b u,H b=U u->¬Ak (U u)->b≠x:=λb u q i z=>by subst z;rw[q] at c;exact i c
 refine⟨λb u q n _ _=>k b u (f b n) q,λb u q n _ _=>⟨u.slots,k b u (f b n) q⟩,λb u q n _=>by rwa[aK (j b n)],λb u q _=>?_,
  λb g q=>by rwa[aK (d b _ q λz=>z)],λb u g q=>by rwa[aK (d b _ q λz=>z)],λb l q=>⟨#[],by rw[aK (d b _ q λz=>z),q];simp⟩⟩
 grind
end
def x6(h:cO)(H:Hp):O Z:=(List.range h.objs.size).filter λa=>(H a).isSome
def qH(h:cO)(H:Hp):cO:=PySem.W.hideAll h (x6 h H)
def ZdG(h:cO)(H:Hp):(qH h H).objs.size=h.objs.size:=PySem.W.hideAll_size _ _
def ZeE(e:h.get? b=U o)(n:H b=aG):(qH h H).get? b=U o:=
 PySem.W.hideAll_get _ e λa=>by
  have q:=(Y5.mp a).2
  grind
theorem Zf0(e:(qH h H).get? b=U o):h.get? b=U o/\H b=aG:=by
 have a:=PySem.W.of_hideAll (x6 h H) e;refine⟨a,?_⟩;cases q:H b with
 |none=>rfl
 |some x=>
  have z:(qH h H).get? b=aG:=PySem.W.hideAll_none (x6 h H) (Y5.mpr ⟨Wm.mpr (Yr a),by simp[q]⟩)
  grind
structure Mod(K:ah)(mg:aS)(base:cO):Prop where
 n_:K.In base
 glob:base.Ns mainGlobals mg
 blt:∃mb,base.Ns builtinsNs mb/\∀x:ar,x≠"__name__"->mb x=bootBuiltins x
 nolimit:base.NoLimit
structure Cx where
 prog:dv
 w:dg
 K:ah
 mg:ar->bR a7
 base:cO
 A:fI
 N:O ar
 di:cb
 kA:Hp
 env:Env
 outer:O Env
 stack:O Env
 ex:O Z
 fn:ar->cm
 calm:cm
 pn:O (Z×Obj)
 xe:a7->cb->Prop
abbrev Cx.md(X:Cx):=model X.prog X.w
abbrev jb(X:Cx)(e:cM)(a:O cM):Prop:=starEach (e::a) X.env=(a8,eval e X.env)::starEach a X.env
abbrev jE(X:Cx)(a:Pos)(b:O cM):Prop:=(backTo a (starEach b X.env)).any (·.1)=a8
def cX(l:O Env):O Z:=l.filterMap (·.frame)
abbrev Cx.fs(X:Cx):O Z:=cX X.outer
def ve(a:Scope)(x:ar):Prop:=a.names.lookup x=U .local\/a.names.lookup x=U .cell\/a.names.lookup x=U .free
def Loc(a:Scope)(x:ar):Prop:=a.names.lookup x=U .local\/a.names.lookup x=U .cell
def Look(a:Env)(h:cO)(m:aS)(x:ar)(u:a7):Prop:=
 (a.kindOf x=U .local/\m x=U u)\/((a.kindOf x=U .cell\/a.kindOf x=U .free)/\∃c,a.cells.lookup x=U c/\h.IsCell c (U u))
structure Cx.Ok(X:Cx):Prop where
 mod:Mod X.K X.mg X.base
 kind:X.env.scope.kind=.function
 glob:X.env.globals=mainGlobals
 blt:X.env.builtins=builtinsNs
 above:X.di.heap.objs.size<=X.env.locals
 inj:∀x y c,X.env.cells.lookup x=U c->X.env.cells.lookup y=U c->x=y
 has:∀x,(X.env.kindOf x=U .cell\/X.env.kindOf x=U .free)->∃c,X.env.cells.lookup x=U c
 vg:∀x c,X.fn x=af->X.env.cells.lookup x=U c->X.di.heap.objs.size<=c
 hd:X.calm=af->X.A.handled=aG
 frames:X.A.frames=U X.stack
 x8:X.stack=X.outer\/(X.stack=X.env::X.outer/\X.env.frame=U X.env.locals)
 sW:∀b∈X.ex,b≠X.env.locals/\∀x c,X.env.cells.lookup x=U c->c≠b
 bs:∀b o,X.base.get? b=U o->X.di.heap.get? b=U o/\X.kA b=aG
 oa:X.base.objs.size<=X.di.heap.objs.size
 uO:∀b o,X.base.get? b=U o->b∉X.ex
 sC:∀b∈X.ex,b∉X.fs
 kB:X.di.heap.FunFrames X.base X.outer
 qM:∀b∈X.fs,X.kA b=aG
structure Inv(X:Cx)(pins:a9)(σ:O (bR V))(H:Hp)(s:cb):Prop where
 ok:X.Ok
 os:s.os=X.di.os
 bare:AllBare s.gens
 base:Un X.fs X.ex X.kA H X.di.heap s.heap
 loc:∃m,s.heap.Ns X.env.locals m/\∀(i:Nat) (x:ar) (v:V),X.N[i]?=U x->σ[i]?=U (U v)->ve X.env.scope x->∃u,RelV v u/\Look X.env s.heap m x u
 cell:∀x c,X.env.cells.lookup x=U c->∃v,s.heap.IsCell c v
 free:H X.env.locals=aG
 i4:∀x c,X.env.cells.lookup x=U c->H c=aG
 pin:∀p∈X.pn++pins,s.heap.get? p.1=U p.2/\H p.1=aG/\p.1≠X.env.locals/\p.1∉X.fs/\∀v,p.2.data≠.cell v
 ay:dw X.prog X.w H s.heap
 len:σ.length=X.N.length
section
variable {X:Cx}{W:a9}{σ:O (bR V)}{H T:Hp}{s:cb}{h':cO}
def Cx.Ok.Zjy(a:X.Ok)(e:X.base.get? b=U o):b∉X.fs:=λc=>by
 have:=(a.kB.mem c).1
 grind
def Inv.bs(I:Inv X W σ H s):∀b o,X.base.get? b=U o->s.heap.get? b=U o/\H b=aG:=λb o e=>
 ⟨I.base.keep b o (I.ok.bs b o e).1 (I.ok.bs b o e).2 (I.ok.Zjy e) (I.ok.uO b o e),I.base.free b o (I.ok.bs b o e).1 (I.ok.bs b o e).2 (I.ok.uO b o e)⟩
def Inv.bk(I:Inv X W σ H s):∀b o,X.base.get? b=U o->s.heap.get? b=U o:=λb o e=>(I.bs b o e).1
def Inv.mod(I:Inv X W σ H s):Mod X.K X.mg X.base:=I.ok.mod
def Inv.cD(I:Inv X W σ H s):X.K.In s.heap:=I.ok.mod.n_.keeps I.bk
def Inv.lt(I:Inv X W σ H s):X.env.locals<s.heap.objs.size:=let⟨_,a,_⟩:=I.loc;a.lt
def Inv.sz(I:Inv X W σ H s):X.di.heap.objs.size<=s.heap.objs.size:=Yz I.ok.above (Jo I.lt)
def Inv.Zjz(I:Inv X W σ H s)(h:s.heap.objs.size<=a):a∉X.fs:=λc=>by
 obtain⟨_,o,b,_⟩:=I.ok.kB.mem c;exact absurd (Y2 (Yr b) (Yz I.sz h)) (Wc _)
def Inv.qN(I:Inv X W σ H s):∀x c,X.env.cells.lookup x=U c->c≠X.env.locals:=λx c e z=>by
 obtain⟨v,o,d,hd⟩:=I.cell x c e;obtain⟨m,⟨b,f,g,a,h,_⟩,_⟩:=I.loc
 grind
theorem Inv.kB(I:Inv X W σ H s):s.heap.FunFrames X.base X.outer:=by
 have all:∀(l:O Env),(∀b∈cX l,b∈X.fs)->X.di.heap.FunFrames X.base l->s.heap.FunFrames X.base l:=by
  intro l;induction l with
  |nil=>intro _ _;trivial
  |cons env r g=>
   rintro f ⟨k,⟨L,o,a,j,i,hd⟩,h⟩;have d:=f L (by unfold cX;rw[Jh,a];exact Yk);obtain⟨m,e⟩:=I.base.slot L o i (I.ok.qM L d) d λz=>I.ok.sC L z d;exact⟨k,⟨L,_,a,j,e,hd⟩,g (λb c=>f b (by unfold cX;rw[Jh,a];exact Yw _ c)) h⟩
 exact all X.outer (λ_ c=>c) I.ok.kB
def Inv.stack(I:Inv X W σ H s):s.heap.FunFrames X.base X.stack:=by
 rcases I.ok.x8 with e|⟨e,b⟩;·exact e▸I.kB
 ·rw[e];obtain⟨m,a,_⟩:=I.loc;refine .cons (by rw[I.ok.kind];decide) b a ?_ I.kB;exact EO (Yz I.ok.oa I.ok.above)
def Inv.Kp(I:Inv X W σ H s):∀b∈cX X.stack,b∈X.env.locals::X.fs:=λb a=>by
 rcases I.ok.x8 with e|⟨e,c⟩;·grind
 ·rw[e] at a;unfold cX at a;rw[Jh,c] at a;exact a
def Inv.Ca(I:Inv X W σ H s):∀b∈cX X.stack,H b=aG:=λb a=>by
 rcases Yq.mp (I.Kp b a) with e|a;·exact e▸I.free
 ·obtain⟨_,o,c,_⟩:=I.ok.kB.mem a;exact I.base.free b o c (I.ok.qM b a) λz=>I.ok.sC b z a
def Inv.step{g':dt GenState}{t':Nat}{d':Drawn}{ch:O Z}(I:Inv X W σ H s)
  (C:∀b∈ch,(b∈X.ex\/X.di.heap.objs.size<=b)/\b≠X.env.locals/\(∀x c,X.env.cells.lookup x=U c->c≠b)/\∀p∈X.pn++W,p.1≠b)
  (g:∀b o,b≠X.env.locals->b∉X.fs->b∉ch->s.heap.get? b=U o->H b=aG->h'.get? b=U o)
  (w:∀b o,b≠X.env.locals->b∈X.fs->b∉ch->s.heap.get? b=U o->H b=aG->∃L,h'.get? b=U {o with slots:=L})(f:∀b o,b∉ch->s.heap.get? b=U o->H b=aG->T b=aG)
  (y:∀b o,b∉ch->s.heap.get? b=U o->∃D,h'.get? b=U D)
  (iN:∀b t,H b=U (.tup t)->T b=U (.tup t))(i8:∀b o u,H b=U (.bU o u)->T b=U (.bU o u))(jz:∀b G,H b=U (.sV G)->∃more,T b=U (.sV (G++more)))
  (ns:∀m,s.heap.Ns X.env.locals m->h'.Ns X.env.locals m)(ay:dw X.prog X.w T h')(hg:AllBare g'):
  Inv X W σ T {s with heap:=h',gens:=g',drawn:=d',toks:=t'}:=by
 have R:∀b o,X.di.heap.get? b=U o->b≠X.env.locals:=λb o e=>Yy (Y2 (Yr e) I.ok.above);have J:∀b o,X.di.heap.get? b=U o->b∉X.ex->b∉ch:=λb o e a A=>by
  rcases(C b A).1 with z|z;·exact a z
  ·exact absurd (Y2 (Yr e) z) (Wc _)
 have h:∀x c,X.env.cells.lookup x=U c->∀v,s.heap.IsCell c v->h'.IsCell c v:=λx c e v ⟨o,B,hd⟩=>by
  have F:=λz=>(C c z).2.2.1 x c e rfl;by_cases Q:c∈X.fs
  ·obtain⟨L,q⟩:=w c o (I.qN x c e) Q F B (I.i4 x c e);exact⟨_,q,hd⟩
  ·exact⟨o,g c o (I.qN x c e) Q F B (I.i4 x c e),hd⟩
 refine⟨I.ok,I.os,hg,⟨λb o e n A a=>?_,λb o e n A a=>?_,λb o e n a=>?_,λb o e a=>?_,λb t e=>iN b t (I.base.iN b t e),λb o t e=>i8 b o t (I.base.i8 b o t e),λb G e=>?_⟩,?_,λx c e=>?_,?_,λx c e=>?_,λp P=>?_,ay,I.len⟩;·exact g b o (R b o e) A (J b o e a) (I.base.keep b o e n A a) (I.base.free b o e n a)
 ·obtain⟨L,j⟩:=I.base.slot b o e n A a;obtain⟨WA,E⟩:=w b _ (R b o e) A (J b o e a) j (I.base.free b o e n a);exact⟨WA,E⟩
 ·obtain⟨D,j⟩:=I.base.there b o e a;exact f b D (J b o e a) j (I.base.free b o e n a)
 ·obtain⟨D,j⟩:=I.base.there b o e a;exact y b D (J b o e a) j
 ·obtain⟨m1,j⟩:=I.base.jz b G e;obtain⟨m2,E⟩:=jz b _ j;exact⟨m1++m2,by rw[E,Array.append_assoc]⟩
 ·obtain⟨m,hn,hl⟩:=I.loc;refine⟨m,ns m hn,λi x v j E e3=>?_⟩;obtain⟨u,r,l⟩:=hl i x v j E e3;refine⟨u,r,?_⟩;rcases l with l|⟨k,c,e,z⟩;·exact .inl l
  ·exact .inr ⟨k,c,e,h x c e _ z⟩
 ·obtain⟨v,z⟩:=I.cell x c e;exact⟨v,h x c e v z⟩
 ·obtain⟨m,⟨o,_,_,B,_⟩,_⟩:=I.loc;exact f _ o (λz=>(C _ z).2.1 rfl) B I.free
 ·obtain⟨v,o,B,hd⟩:=I.cell x c e;exact f c o (λz=>(C c z).2.2.1 x c e rfl) B (I.i4 x c e)
 ·obtain⟨e,n,ne,N,d⟩:=I.pin p P;have F:=λz=>(C p.1 z).2.2.2 p P rfl;exact⟨g p.1 p.2 ne N F e n,f p.1 p.2 F e n,ne,N,d⟩
def Inv.un(I:Inv X W σ H s)(u:Un X.fs [] H T s.heap h')(i:dw X.prog X.w T h'):Inv X W σ T {s with heap:=h',toks:=l}:=by
 obtain⟨m,⟨o,v,w,d,r⟩,_⟩:=id I.loc;obtain⟨p,h⟩:=u.any d I.free QS;exact I.step (g':=s.gens) (ch:=[]) (λ_ z=>nomatch z) (λb o _ a _ e n=>u.keep b o e n a QS) (λb o _ a _ e n=>u.slot b o e n a QS) (λb o _ e n=>u.free b o e n QS) (λb o _ e=>u.there b o e QS) u.iN u.i8 u.jz (λt g=>by
  obtain⟨q,k,j,c,f⟩:=g;rw[d] at c;cases c;exact⟨_,k,j,h,f⟩) i I.bare
def Inv.call(I:Inv X W σ H s)(u:Un (cX X.stack) ch H T s.heap h')(t:dw X.prog X.w T h')(k:AllBare q)
  (g:∀b∈ch,(b∈X.ex\/X.di.heap.objs.size<=b)/\b≠X.env.locals/\(∀x c,X.env.cells.lookup x=U c->c≠b)/\∀p∈X.pn++W,p.1≠b):
  Inv X W σ T {s with heap:=h',gens:=q,drawn:=F,toks:=y}:=by
 obtain⟨m,⟨o,D,E,h,r⟩,_⟩:=id I.loc;obtain⟨A,d⟩:=u.any h I.free λz=>(g _ z).2.1 rfl;exact I.step g (λb o d l a e n=>u.keep b o e n (λz=>(Yq.mp (I.Kp b z)).elim d l) a) (λb o _ _ a e n=>u.any e n a) (λb o a e n=>u.free b o e n a) (λb o a e=>u.there b o e a) u.iN u.i8 u.jz (λC j=>by
  obtain⟨B,w,v,f,i⟩:=j;rw[h] at f;cases f;exact⟨_,w,v,d,i⟩) t k
def Inv.turned(I:Inv X W σ H s)(k:∀b o,b≠it->s.heap.get? b=U o->h'.get? b=U o)(h:H it=aG)(d:it≠X.env.locals)
  (w:it∈X.ex\/X.di.heap.objs.size<=it)(t:∀x c,X.env.cells.lookup x=U c->c≠it)(l:∀p∈X.pn++W,p.1≠it):Inv X W σ H {s with heap:=h',toks:=B}:=by
 have f:∀b u,H b=U u->b≠it:=λb u e z=>by rw[z,h] at e;cases e
 refine I.step (g':=s.gens) (ch:=[it]) (λb j=>?_) (λb o _ _ a e _=>k b o (λz=>a (by simp[z])) e) (λb o _ _ a e _=>⟨o.slots,k b o (λz=>a (by simp[z])) e⟩) (λ_ _ _ _ n=>n)
  (λb o a e=>⟨o,k b o (λz=>a (by simp[z])) e⟩) (λ_ _ e=>e) (λ_ _ _ e=>e) (λb C e=>⟨#[],by rw[e];simp⟩) (λm i=>?_) (λb u e=>?_) I.bare
 ·have e:b=it:=by simpa using j
  subst e;exact⟨w,d,t,l⟩
 ·obtain⟨o,y,A,g,r⟩:=i;exact⟨o,y,A,k _ o (jm d) g,r⟩
 ·refine(I.ay b u e).i6 (λc v a q=>k c v ?_ q) (λ_ q=>q) λ_ _ q=>q;rcases a with z|z;·exact z▸f b u e
  ·exact f c _ z
def Inv.tok(I:Inv X W σ H s)(t:Nat):Inv X W σ H {s with toks:=t}:=I.un Un.refl I.ay
def Inv.kept(I:Inv X W σ H s)(k:∀b u,s.heap.get? b=U u->h'.get? b=U u):Inv X W σ H {s with heap:=h',toks:=t'}:=I.un (Un.kept k) (I.ay.kept k)
def Inv.laid(I:Inv X W σ H s)(k:∀b u,s.heap.get? b=U u->h'.get? b=U u)(d:s.heap.objs.size<=a)(c:cP X.prog X.w (upd H a o) h' a o):
  Inv X W σ (upd H a o) {s with heap:=h',toks:=t'}:=I.un (Un.laid k d (I.ay.fresh d)) (I.ay.laid k d c)
def Inv.write(I:Inv X W σ H s)(c:Ak (H x))(d:e=x\/H e=U (.own x))(k:∀b u,b≠e->s.heap.get? b=U u->h'.get? b=U u)(f:∃u,h'.get? e=U u)
  (a:cP X.prog X.w (upd H x o) h' x o):Inv X W σ (upd H x o) {s with heap:=h',toks:=t'}:=I.un (Un.write c d k f) (I.ay.write c d k f a)
def Inv.Rm(I:Inv X W σ H s)(h:∀p∈b,s.heap.get? p.1=U p.2/\H p.1=aG/\p.1≠X.env.locals/\p.1∉X.fs/\∀v,p.2.data≠.cell v):Inv X b σ H s:=
 ⟨I.ok,I.os,I.bare,I.base,I.loc,I.cell,I.free,I.i4,λp a=>(Yu.mp a).elim (λz=>I.pin p (Yt _ z)) (h p),I.ay,I.len⟩
def I0{N:O ar}(c:N.Nodup){i j:Nat}{x:ar}(a:N[i]?=U x)(b:N[j]?=U x):i=j:=by
 obtain⟨g,e⟩:=Yj.mp a;obtain⟨f,d⟩:=Yj.mp b;exact(List.getElem_inj c).mp (e.trans d.symm)
def Pj{f:Model}{A:fI}{E:bg}{i:Nat}{x:ar}{v:V}{u:a7}{Q:Unit->cb->Prop}(I:Inv X W σ H s)(hN:X.N.Nodup)(J:X.N[i]?=U x)(B:Loc X.env.scope x)(r:RelV v u)
  (h:∀s',Inv X W (σ.set i (U v)) H s'->(∃a,Heap.SameBut a s.heap s'.heap/\(a=X.env.locals\/X.env.cells.lookup x=U a))->Q () s')(hf:X.fn x=af\/X.env.scope.names.lookup x=U .local:=by first|exact .inl rfl|exact .inr rfl|assumption):wpAny f A (storeName X.env x u) Q E s:=by
 obtain⟨m,hn,hl⟩:=id I.loc;have ZjA:(X.env.scope.kind==.class||(X.env.scope.kind==.module&&X.env.locals !=X.env.globals))=a8:=by rw[I.ok.kind];rfl
 have U_:i<σ.length:=by rw[I.len];exact(Yj.mp J).1
 have qN:=I.qN;have l:∀{a:Z} {h':cO},(∃o,s.heap.get? a=U o/\H a=aG)->Heap.SameBut a s.heap h'->dw X.prog X.w H h':=λ{a h'} ha g b ob e=>by
  obtain⟨_,_,Ul⟩:=ha;refine(I.ay b ob e).i6 (λc L w q=>(g.2 c ?_).trans q) (λ_ q=>q) λ_ _ q=>q;rintro rfl;rcases w with rfl|w;·rw[Ul] at e;cases e
  ·rw[Ul] at w;cases w
 rcases B with D|D
 ·refine wpAny_storeName_local D hn (λh' x_ g=>?_) ZjA;obtain⟨oL,_,_,qO,_⟩:=id hn;refine h _ ⟨I.ok,I.os,I.bare,⟨λb o e n G B=>?_,λb o e n G B=>?_,I.base.free,λb o e B=>?_,I.base.iN,I.base.i8,I.base.jz⟩,⟨_,x_,λj y P t C e3=>?_⟩,λy c e=>?_,I.free,I.i4,λp hp=>?_,l ⟨oL,qO,I.free⟩ g,by simpa using I.len⟩ ⟨_,g,.inl rfl⟩;·exact(g.2 b (Yy (Y2 (Yr e) I.ok.above))).trans (I.base.keep b o e n G B)
  ·obtain⟨sl,t⟩:=I.base.slot b o e n G B;exact⟨sl,(g.2 b (Yy (Y2 (Yr e) I.ok.above))).trans t⟩
  ·obtain⟨o',t⟩:=I.base.there b o e B;exact⟨o',(g.2 b (Yy (Y2 (Yr e) I.ok.above))).trans t⟩
  ·by_cases F:j=i
   ·subst F;rw[J] at t;cases t;rw[DQ U_] at C;cases C;exact⟨u,r,.inl ⟨D,QS⟩⟩
   ·rw[WD (jm F)] at C;obtain⟨R,r',q⟩:=hl j y P t C e3;refine⟨R,r',?_⟩;rcases q with⟨k,e⟩|⟨k,c,e,z⟩
    ·refine .inl ⟨k,?_⟩;have:y≠x:=λe=>F (I0 hN t (e▸J));simp[this,e]
    ·exact .inr ⟨k,c,e,z.sameBut g (qN y c e)⟩
  ·obtain⟨L,z⟩:=I.cell y c e;exact⟨L,z.sameBut g (qN y c e)⟩
  ·obtain⟨e,n,ne,nf,d⟩:=I.pin p hp;exact⟨(g.2 p.1 ne).trans e,n,ne,nf,d⟩
 ·have Mh:X.fn x=af:=by
   rcases hf with z|z;·exact z
   ·rw[z] at D;cases D
  obtain⟨c,w⟩:=I.ok.has x (.inl D);obtain⟨L,z⟩:=I.cell x c w;refine wpAny_storeName_cell I.ok.kind D w z (λh' sX g=>?_);obtain⟨oc,WE,ZjB⟩:=id z;refine h {s with heap:=h'} ⟨I.ok,I.os,I.bare,⟨λb o e n G B=>?_,λb o e n G B=>?_,I.base.free,λb o e B=>?_,I.base.iN,I.base.i8,I.base.jz⟩,⟨m,hn.sameBut g (jm (qN x c w)),λj y P t C e3=>?_⟩,λy N e=>?_,I.free,I.i4,λp hp=>?_,l ⟨oc,WE,I.i4 x c w⟩ g,by simpa using I.len⟩ ⟨c,g,.inr w⟩;·exact(g.2 b (Yy (Y2 (Yr e) (I.ok.vg x c Mh w)))).trans (I.base.keep b o e n G B)
  ·obtain⟨sl,t⟩:=I.base.slot b o e n G B;exact⟨sl,(g.2 b (Yy (Y2 (Yr e) (I.ok.vg x c Mh w)))).trans t⟩
  ·obtain⟨o',t⟩:=I.base.there b o e B;exact⟨o',(g.2 b (Yy (Y2 (Yr e) (I.ok.vg x c Mh w)))).trans t⟩
  ·by_cases F:j=i
   ·subst F;rw[J] at t;cases t;rw[DQ U_] at C;cases C;exact⟨u,r,.inr ⟨.inl D,c,w,sX⟩⟩
   ·rw[WD (jm F)] at C;obtain⟨R,r',q⟩:=hl j y P t C e3;refine⟨R,r',?_⟩;rcases q with q|⟨k,N,e,z'⟩;·exact .inl q
    ·refine .inr ⟨k,N,e,z'.sameBut g ?_⟩;rintro rfl;exact F (I0 hN t (I.ok.inj _ _ _ e w▸J))
  ·by_cases WG:N=c;·subst WG;exact⟨_,sX⟩
   ·obtain⟨w2,z2⟩:=I.cell y N e;exact⟨w2,z2.sameBut g WG⟩
  ·obtain⟨e,n,ne,nf,d⟩:=I.pin p hp;refine⟨(g.2 p.1 ?_).trans e,n,ne,nf,d⟩;intro q;rw[q,WE] at e;have q':=Yn e;exact d L (by rwa[←q'])
def BU{a:Model}{A:fI}{E:bg}{i:Nat}{x:ar}{v:V}{u:a7}{Q:Unit->cb->Prop}(I:Inv X W σ H s)(f:X.N.Nodup)(d:X.N[i]?=U x)(c:Loc X.env.scope x)(r:RelV v u)
  (h:∀b,Inv X W (σ.set i (U v)) H b->Q () b)(e:X.fn x=af\/X.env.scope.names.lookup x=U .local:=by first|exact .inl rfl|exact .inr rfl|assumption):wpAny a A (storeName X.env x u) Q E s:=
 Pj I f d c r (λb g _=>h b g) e
def Inv.K8(I:Inv X W σ H s)(d:s'.os=s.os)(u:Un (cX X.stack) ch H T s.heap s'.heap)(g:dw X.prog X.w T s'.heap)(f:AllBare s'.gens)
  (a:∀b∈ch,(b∈X.ex\/X.di.heap.objs.size<=b)/\b≠X.env.locals/\(∀x c,X.env.cells.lookup x=U c->c≠b)/\∀p∈X.pn++W,p.1≠b):Inv X W σ T s':=by
 obtain⟨h',j,k,h,i⟩:=s';have e:=d;subst e;exact I.call u g f a
end
abbrev XK:=a7->bR Z->Hp->Prop
abbrev St:=O (bR V)
abbrev VK:=V->Hp->Prop
abbrev TE:=St->Hp->VK->Prop
abbrev TT:=St->Hp->(cm->Hp->Prop)->Prop
abbrev TA:=St->Hp->(O V->Hp->Prop)->Prop
structure Ends where
 nx:St->Hp->Prop
 rt:VK
 bk:St->Hp->Prop:=λ_ _=>False
 ct:St->Hp->Prop:=λ_ _=>False
abbrev TS:=Ends->St->Hp->Prop
inductive Va(X:Cx)(a:a9)(b:St)(Q:VK)(u:a7)(c:cb):Prop
 |mk (v d) (f:Inv X a b d c) (g:RelV v u) (e:Q v d):Va X a b Q u c
def EP(X:Cx)(a:a9)(b:St)(Q:VK)(u:a7)(c:cb):Prop:=Va X a b Q u c
inductive Vb(X:Cx)(a:a9)(b:St)(R:Hp->Prop)(c:cb):Prop
 |mk (d:Hp) (e:Inv X a b d c) (f:R d):Vb X a b R c
def TP(X:Cx)(a:a9)(c:St)(Q:cm->Hp->Prop)(b:cm)(d:cb):Prop:=Vb X a c (Q b) d
inductive Vc(X:Cx)(a:a9)(b:St)(Q:O V->Hp->Prop)(d:O a7)(e:cb):Prop
 |mk (c f) (h:Inv X a b f e) (i:Vals c d) (g:Q c f):Vc X a b Q d e
def AP(X:Cx)(a:a9)(b:St)(Q:O V->Hp->Prop)(c:O a7)(d:cb):Prop:=Vc X a b Q c d
inductive uP(X:Cx)(a:a9)(Q:St->Hp->Prop)(b:cb):Prop
 |mk (c:St) (d:Hp) (e:Inv X a c d b) (f:Q c d):uP X a Q b
inductive Vd(X:Cx)(a:a9)(Q:VK)(u:a7)(b:cb):Prop
 |mk (v:V) (d:St) (c:Hp) (f:Inv X a d c b) (g:RelV v u) (e:Q v c):Vd X a Q u b
def SP(X:Cx)(a:a9)(D:Ends)(f:Flow)(b:cb):Prop:=
 match f with
 |.next=>uP X a D.nx b
 |.brk=>uP X a D.bk b
 |.cont=>uP X a D.ct b
 |.ret u=>Vd X a D.rt u b
def PE(X:Cx)(e:cM)(t:TE):Prop:=
 ∀(a:a9) (s:cb) (b:St) (H:Hp) (Q:VK),Inv X a b H s->t b H Q->wpAny X.md X.A (eval e X.env) (EP X a b Q) X.xe s
def PT(X:Cx)(e:cM)(t:TT):Prop:=
 ∀(a:a9) (s:cb) (b:St) (H:Hp) (Q:cm->Hp->Prop),Inv X a b H s->t b H Q->wpAny X.md X.A (isTrue e X.env (eval e X.env)) (TP X a b Q) X.xe s
def PW(X:Cx)(e:cM)(t:TT):Prop:=
 ∀(b:Sem a7) (a:a9) (s:cb) (c:St) (H:Hp) (Q:cm->Hp->Prop),Inv X a c H s->t c H Q->wpAny X.md X.A (isTrue e X.env b) (TP X a c Q) X.xe s
def PW.pt(h:PW X e t):PT X e t:=h _
def PA(X:Cx)(d:O cM)(t:TA):Prop:=
 ∀(c:Pos) (a:a9) (s:cb) (b:St) (H:Hp) (Q:O V->Hp->Prop),Inv X a b H s->t b H Q->wpAny X.md X.A (spliced (backTo c (starEach d X.env))) (AP X a b Q) X.xe s
def PS(X:Cx)(c:cj)(t:TS):Prop:=
 ∀(a:a9) (s:cb) (b:St) (H:Hp) (D:Ends),Inv X a b H s->t D b H->wpAny X.md X.A (exec c X.env) (SP X a D) X.xe s
def fQ(X:Cx)(c:O cj)(t:TS):Prop:=
 ∀(a:a9) (s:cb) (b:St) (H:Hp) (D:Ends),Inv X a b H s->t D b H->wpAny X.md X.A (execs c X.env) (SP X a D) X.xe s
def aA(h:wpAny M A t Q E s)(b:∀a s,Q a s->c a s):wpAny M A t c E s:=eF h b λ_ _ x=>x
section
variable {X:Cx}
inductive SU(i:Nat)(a:St)(H:Hp)(Q:VK):Prop
 |mk (v) (b:a[i]?=U (U v)) (c:Q v H):SU i a H Q
def gX(i:Nat):TE:=λa H Q=>SU i a H Q
def tC(v:V):TE:=λ_ H Q=>Q v H
def Zhg{i:Nat}{x:ar}{W:Pos}(q:X.N[i]?=U x)(k:ve X.env.scope x)(d:(x==("__debug__":ar))=a8:=by decide)(t:(x==("__classdict__":ar))=a8:=by decide):PE X (.Name x W) (gX i):=by
 rintro b s j H Q I ⟨v,e,h⟩;obtain⟨m,n,p⟩:=I.loc;obtain⟨u,r,l⟩:=p i x v q e k;have fin:EP X b j Q u s:=⟨v,H,I,r,h⟩;rcases l with⟨a,o⟩|⟨a,c,f,g⟩;·exact yD (D9 I.ok.kind a n o fin) d
 ·rcases a with a|a;·exact yD (HX I.ok.kind a f g fin) d
  ·exact yD (wpAny_loadName_free I.ok.kind a f g fin t) d
def aw:PE X (.Constant (.int i) j W) (tC (.int i)):=λ_ _ _ H _ I h=>wpAny_Constant_int ⟨.int i,H,I.tok _,⟨_,rfl⟩,h⟩
def ku:PE X (.Constant (.bool b) j W) (tC (.bl b)):=λ_ _ _ H _ I h=>Constant_bool ⟨.bl b,H,I,rfl,h⟩
def nL:PE X (.Constant .none j W) (tC .aE):=λ_ _ _ H _ I h=>Constant_none ⟨.aE,H,I,rfl,h⟩
def aV:PE X (.Constant (.str x) j W) (tC (.str x)):=λ_ _ _ H _ I h=>Calls.Constant_str ⟨.str x,H,I.tok _,⟨_,rfl⟩,h⟩
def Gl(X:Cx)(x:ar):Prop:=X.env.kindOf x=U .globalImplicit
def uj{E:bg}{a:a9}{s:cb}{b:St}{H:Hp}{x:ar}{u:a7}{W:Pos}{Q:bg}(I:Inv X a b H s)(d:Gl X x)(c:X.mg x=U u)(h:Q u s)
  (e:(x==("__debug__":ar))=a8:=by decide):wpAny X.md X.A (eval (.Name x W) X.env) Q E s:=
 AJ I.ok.kind d (Calls.loadGlobal_global (by exact I.ok.glob▸I.mod.glob.keeps I.bk) c h) e
def zH{E:bg}{a:a9}{s:cb}{b:St}{H:Hp}{x:ar}{u:a7}{W:Pos}{Q:bg}(I:Inv X a b H s)(f:Gl X x)(e:X.mg x=aG)(c:bootBuiltins x=U u)(h:Q u s)
  (d:x≠"__name__":=by decide)(g:(x==("__debug__":ar))=a8:=by decide):wpAny X.md X.A (eval (.Name x W) X.env) Q E s:=by
 obtain⟨k,j,i⟩:=I.mod.blt;exact AJ I.ok.kind f (Calls.loadGlobal_builtin (by exact I.ok.glob▸I.mod.glob.keeps I.bk) e (by exact I.ok.blt▸j.keeps I.bk) ((i x d).trans c) h) g
def dA{x:ar}{v:V}{u:a7}{W:Pos}(b:Gl X x)(a:X.mg x=U u)(r:RelV v u)(c:(x==("__debug__":ar))=a8:=by decide):PE X (.Name x W) (tC v):=
 λ_ _ _ H _ I h=>uj I b a ⟨v,H,I,r,h⟩ c
def Zf1{x:ar}{v:V}{u:a7}{W:Pos}(d:Gl X x)(c:X.mg x=aG)(a:bootBuiltins x=U u)(r:RelV v u)(b:x≠"__name__":=by decide)(e:(x==("__debug__":ar))=a8:=by decide):PE X (.Name x W) (tC v):=
 λ_ _ _ H _ I h=>zH I d c a ⟨v,H,I,r,h⟩ b e
variable {a b:cM}{T R:TE}{W:Pos}
def PC(X:Cx)(e:CmpOp)(a b:cM)(t:TE):Prop:=
 ∀(c:a9) (s:cb) (d:St) (H:Hp) (Q:VK),Inv X c d H s->t d H Q->
  wpAny X.md X.A (eval a X.env) (λv g=>wpAny X.md X.A (eval b X.env) (λu f=>wpAny X.md X.A (compareOp e v u) (EP X c d Q) X.xe f) X.xe g) X.xe s
inductive Ve(Q:cm->Hp->Prop)(x:V)(d:Hp):Prop
 |mk (c) (e:x=.bl c) (f:Q c d):Ve Q x d
def tB(t:TE):TT:=λc H Q=>t c H λx d=>Ve Q x d
def Zhh{d:CmpOp}{t:TE}(h:PC X d a b t)(g:behindInMarks d b=a8:=by first|exact i _ QD QD|rfl):PE X (.Compare a [d] [b] W) t:=λc s e H Q I f=>Xd (h c s e H Q I f) g
def jU{f:CmpOp}{t:TE}(h:PC X f a b t)(g:behindInMarks f b=a8:=by first|exact o _ QD QD|rfl):PT X (.Compare a [f] [b] W) (tB t):=by
 intro e s i H Q I m;refine DS (aA (h e s i H _ I m) λv z g=>aA g λu y n=>aA n λc w j=>?_) g;obtain⟨x,r,p,k,l⟩:=j;obtain⟨d,rfl,q⟩:=l;cases k;exact l3 ⟨r,p,q⟩
def e_{e:cM}{t:TE}(h:PE X e t)(m:∀c,isTrue e X.env c=(do let v←c;standAt e.pos;holding [v] (truthy v)):=by intro _;rfl):PT X e (tB t):=by
 intro f s g H Q I l;refine isTrue_plain (aA (h f s g H _ I l) λv p i=>?_) (m _);obtain⟨x,o,n,j,k⟩:=i;obtain⟨d,rfl,q⟩:=k;cases j;exact l3 ⟨o,n,q⟩
def Vf(t u:TT):TT:=λd H Q=>t d H λc e=>if c=af then u d e Q else Q a8 e
def WH(t u:TT):TT:=λd H Q=>t d H λc e=>if c=af then Q af e else u d e Q
def ZjC(t:TT):TT:=λd H Q=>t d H λc e=>Q (!c) e
theorem pw_and1(g:PT X a tA):PW X (.BoolOp .And [a] W) tA:=by
 intro i d s f H Q I h;refine isTrue_and (aA (g d s f H Q I h) λc j e=>?_);cases c with
 |true=>exact isTrue_and_nil e
 |false=>exact e
theorem pw_or1(g:PT X a tA):PW X (.BoolOp .Or [a] W) tA:=by
 intro i d s f H Q I h;refine isTrue_or (aA (g d s f H Q I h) λc j e=>?_);cases c with
 |false=>exact isTrue_or_nil e
 |true=>exact e
theorem pw_and(o:PT X a l)(n:PW X (.BoolOp .And (b::rest) W) p):PW X (.BoolOp .And (a::b::rest) W) (Vf l p):=by
 intro k d s e H Q I h;refine isTrue_and (aA (o d s e H _ I h) λc m j=>?_);obtain⟨i,g,f⟩:=j;cases c with
 |true=>exact n k d m e i Q g f
 |false=>exact⟨i,g,f⟩
theorem pw_or(o:PT X a l)(n:PW X (.BoolOp .Or (b::rest) W) p):PW X (.BoolOp .Or (a::b::rest) W) (WH l p):=by
 intro k d s e H Q I h;refine isTrue_or (aA (o d s e H _ I h) λc m j=>?_);obtain⟨i,g,f⟩:=j;cases c with
 |true=>exact⟨i,g,f⟩
 |false=>exact n k d m e i Q g f
def ju(g:PT X a f):PT X (.UnaryOp .Not a W) (ZjC f):=by
 intro d s e H Q I h;exact isTrue_not (g d s e H (λc i=>Q (!c) i) I h)
def Um(T R:TE):TE:=λd H Q=>T d H λx e=>∃c,x=.bl c/\if c=af then R d e Q else Q (.bl a8) e
def Vg(T R:TE):TE:=λd H Q=>T d H λx e=>∃c,x=.bl c/\if c=af then Q (.bl af) e else R d e Q
def ZiM(T:TE):TE:=λd H Q=>T d H λx e=>∃c,x=.bl c/\Q (.bl (!c)) e
def nM(h:PE X a t):PE X (.BoolOp op [a] W) t:=λc s d H Q I e=>BoolOp_one (h c s d H Q I e)
theorem qp(n:PE X a T)(m:PE X (.BoolOp .And (b::rest) W) R):PE X (.BoolOp .And (a::b::rest) W) (Um T R):=by
 intro d s f H Q I h;refine BoolOp_and (aA (n d s f H _ I h) λv k j=>?_);obtain⟨x,i,g,l,e⟩:=j;obtain⟨c,rfl,e⟩:=e;cases l;refine l3 ?_;cases c with
 |true=>exact m d k f i Q g e
 |false=>exact⟨.bl a8,i,g,rfl,e⟩
theorem K9(n:PE X a T)(m:PE X (.BoolOp .Or (b::rest) W) R):PE X (.BoolOp .Or (a::b::rest) W) (Vg T R):=by
 intro d s f H Q I h;refine BoolOp_or (aA (n d s f H _ I h) λv k j=>?_);obtain⟨x,i,g,l,e⟩:=j;obtain⟨c,rfl,e⟩:=e;cases l;refine l3 ?_;cases c with
 |false=>exact m d k f i Q g e
 |true=>exact⟨.bl af,i,g,rfl,e⟩
def Zhi(j:PE X a T):PE X (.UnaryOp .Not a W) (ZiM T):=by
 intro d s f H Q I h;refine UnaryOp_ (aA (j d s f H _ I h) λv m g=>?_);obtain⟨x,l,k,i,e⟩:=g;obtain⟨c,rfl,e⟩:=e;cases i;exact not_of (l3 ⟨.bl (!c),l,k,rfl,e⟩)
def tIf(t:TT)(T R:TE):TE:=λd H Q=>t d H λc e=>if c=af then T d e Q else R d e Q
theorem ZeG(n:PT X c m)(p:PE X a T)(o:PE X b R):PE X (.IfExp c a b W) (tIf m T R):=by
 intro e s f H Q I h;refine wpAny_IfExp (aA (n e s f H _ I h) λd g l=>?_);obtain⟨k,j,i⟩:=l;cases d with
 |true=>exact p e g f k Q j i
 |false=>exact o e g f k Q j i
end
def aq(K:ah)(H:Hp)(a:Z)(c:O V):Prop:=
 Rd H a (.lst c)\/
  ∃(o:Obj) (b:dt a7) (n:Nat),K.lookup a=U o/\o.cls=.type "list"/\o.dict=aG/\o.data=.seq b n/\b.size<=sizeLine/\Vals c b.toList
def az(K:ah)(H:Hp)(a:Z)(c:O V):Prop:=
 Rd H a (.tup c)\/
  ∃(o:Obj) (b:dt a7) (n:Nat),K.lookup a=U o/\o.cls=.type "tuple"/\o.data=.seq b n/\b.size<=sizeLine/\Vals c b.toList
def ZjD:a7->bR V
 |.none=>U .aE
 |.bool b=>U (.bl b)
 |.int i _=>U (.int i)
 |.str x _=>U (.str x)
 |.bytes b _=>U (.kI b)
 |.float b _=>U (.vd b)
 |.ref a=>U (.ref a)
 |.type n=>U (.ty n)
 |_=>aG
theorem RelV.abs(r:RelV x u):ZjD u=U x:=by
 cases x with
 |aE=>cases r;rfl
 |bl _=>cases r;rfl
 |int _=>obtain⟨t,rfl⟩:=r;rfl
 |str _=>obtain⟨t,rfl⟩:=r;rfl
 |kI _=>obtain⟨t,rfl⟩:=r;rfl
 |vd _=>obtain⟨t,rfl⟩:=r;rfl
 |ref _=>cases r;rfl
 |ty _=>cases r;rfl
def RelV.inj(r:RelV x u)(q:RelV y u):x=y:=Yn (r.abs.symm.trans q.abs)
theorem Vals.inj:∀{a ys:O V} {b:O a7},Vals a b->Vals ys b->a=ys:=by
 intro a ys b h;induction h generalizing ys with
 |nil=>intro c;cases c;rfl
 |cons r t f=>
  intro c;cases c with
  |cons e d=>rw[r.inj e,f d]
def aq.of{K:ah}(h:H a=U (.lst xs)):aq K H a xs:=.inl (.inl h)
def az.of{K:ah}(h:H a=U (.tup xs)):az K H a xs:=.inl (.inl h)
def Inv.list(I:Inv X pins σ H s)(h:aq X.K H a xs):∃b:O a7,Vals xs b/\PlainL s.heap a b.toArray/\xs.length<=sizeLine:=by
 rcases h with h|⟨o,b,n,d,f,hd,c,g,r⟩
 ·obtain⟨z,b,n,r,e⟩:=h.ok I.ay;exact⟨b,r,⟨_,n,e,rfl,rfl,rfl⟩,z⟩
 ·refine⟨b.toList,r,⟨o,n,I.cD a o d,f,hd,by simpa using c⟩,?_⟩;have e:=r.length
  simp_all
def Inv.tuple(I:Inv X pins σ H s)(h:az X.K H a xs):∃b:O a7,Vals xs b/\IsTup s.heap a b.toArray/\xs.length<=sizeLine:=by
 rcases h with h|⟨o,b,n,d,f,c,g,r⟩
 ·obtain⟨z,b,r,p⟩:=h.ok I.ay;exact⟨b,r,p.tup,z⟩
 ·refine⟨b.toList,r,⟨o,I.cD a o d,f,n,by simpa using c⟩,?_⟩;have e:=r.length
  simp_all
def Inv.ZeH(I:Inv X pins σ H s)(h:aq X.K H a xs)(g:aq X.K H a ys):xs=ys:=by
 obtain⟨j,r,⟨o,n,e,_,_,d⟩,_⟩:=I.list h;obtain⟨og,f,⟨k,l,b,_,_,c⟩,_⟩:=I.list g;rw[e] at b;cases b;rw[d] at c;injection c with i _;have:j=og:=by simpa using eH Array.toList i
 subst this;exact r.inj f
def Inv.ZdH(I:Inv X pins σ H s)(h:az X.K H a xs)(g:az X.K H a ys):xs=ys:=by
 obtain⟨j,r,⟨o,e,_,n,d⟩,_⟩:=I.tuple h;obtain⟨og,f,⟨k,b,_,l,c⟩,_⟩:=I.tuple g;rw[e] at b;cases b;rw[d] at c;injection c with i _;have:j=og:=by simpa using eH Array.toList i
 subst this;exact r.inj f
abbrev Cx.lu(X:Cx)(E:bg):Cx:={X with xe:=E}
abbrev Cx.pA(X:Cx):Cx:=X.lu λ_ _=>False
def Cx.Ok.lu{X:Cx}(a:X.Ok)(E:bg):(X.lu E).Ok:=
 ⟨a.mod,a.kind,a.glob,a.blt,a.above,a.inj,a.has,a.vg,a.hd,a.frames,a.x8,a.sW,a.bs,a.oa,a.uO,a.sC,a.kB,a.qM⟩
def Cx.Ok.rZ{X:Cx}(a:(X.lu E).Ok):X.Ok:=
 ⟨a.mod,a.kind,a.glob,a.blt,a.above,a.inj,a.has,a.vg,a.hd,a.frames,a.x8,a.sW,a.bs,a.oa,a.uO,a.sC,a.kB,a.qM⟩
def Inv.lu(I:Inv X pins σ H s)(E:bg):Inv (X.lu E) pins σ H s:=⟨I.ok.lu E,I.os,I.bare,I.base,I.loc,I.cell,I.free,I.i4,I.pin,I.ay,I.len⟩
def Inv.rZ(I:Inv (X.lu E) pins σ H s):Inv X pins σ H s:=⟨I.ok.rZ,I.os,I.bare,I.base,I.loc,I.cell,I.free,I.i4,I.pin,I.ay,I.len⟩
theorem SP.rZ(h:SP (X.lu E) pins D f s'):SP X pins D f s':=by
 cases f with
 |next=>obtain⟨a,b,I,q⟩:=h;exact⟨a,b,I.rZ,q⟩
 |brk=>obtain⟨a,b,I,q⟩:=h;exact⟨a,b,I.rZ,q⟩
 |cont=>obtain⟨a,b,I,q⟩:=h;exact⟨a,b,I.rZ,q⟩
 |ret u=>obtain⟨v,a,b,I,r,q⟩:=h;exact⟨v,a,b,I.rZ,r,q⟩
def fQ.pA{b:O cj}(h:fQ X.pA b t):fQ X b t:=λa s c H D I d=>
 eF (h a s c H D (I.lu _) d) (λ_ _ q=>q.rZ) λ_ _ z=>False.elim z
section
variable {X:Cx}{st:cj}{t u:TS}{e:cM}{T:TE}{W:Pos}
def Uo:TS:=λD a H=>D.nx a H
def z4(t u:TS):TS:=λD a H=>t {D with nx:=u D} a H
def aW:fQ X [] Uo:=λ_ _ a H _ I h=>tJ ⟨a,H,I,h⟩
theorem aj(g:PS X st t)(d:fQ X rest u):fQ X (st::rest) (z4 t u):=by
 intro a s b H D I h;refine Vp (aA (g a s b H {D with nx:=u D} I h) λf c q=>?_);cases f with
 |next=>
  obtain⟨i,k,j,q⟩:=q;exact d a c i k D j q
 |ret v=>exact q
 |brk=>exact q
 |cont=>exact q
theorem au(c:PS X st t):fQ X [st] t:=by
 intro a s b H D I h;refine Vp (aA (c a s b H D I h) λf d q=>?_);cases f with
 |next=>exact tJ q
 |ret v=>exact q
 |brk=>exact q
 |cont=>exact q
def ZiN:TS:=λD a H=>D.ct a H
def ZbZ:PS X (.Continue W) ZiN:=λ_ _ a H _ I h=>wpAny_Continue ⟨a,H,I,h⟩
def Inv.quiet(I:Inv X pins σ H s):interactive X.env=a8:=by simp[interactive,I.ok.kind]
def ZiO(T:TE):TS:=λD a H=>T a H λ_ b=>D.nx a b
def cE(f:PE X e T)(d:swapsWith e aG W.line X.env=pure a8:=by rfl):PS X (.Expr e W) (ZiO T):=by
 intro a s b H D I h;exact wpAny_Expr_any (aA (f a s b H _ I h) λv j ⟨x,i,g,k,c⟩=>⟨b,i,g,c⟩) I.quiet d
def ZjE(T:TE):TS:=λD a H=>T a H D.rt
def aH(f:PE X e T):PS X (.Return (U e) W) (ZjE T):=by
 intro a s b H D I h;exact wpAny_Return_some (aA (f a s b H _ I h) λv j ⟨x,i,g,c,d⟩=>⟨x,b,i,g,c,d⟩)
def Lx(c:TT)(t u:TS):TS:=λD a H=>c a H λb d=>if b=af then t D a d else u D a d
theorem aR(o:PT X c n)(q:fQ X a t)(p:fQ X b u):PS X (.If c a b W) (Lx n t u):=by
 intro f s g H D I h;refine wpAny_If (aA (o f s g H _ I h) λd i m=>?_);obtain⟨l,k,j⟩:=m;cases d with
 |true=>exact q f i g l D k j
 |false=>exact p f i g l D k j
def Zhj:TS:=λ_ _ _=>False
def ia:fQ X a Zhj:=λ_ _ _ _ _ _ h=>h.elim
end
abbrev TG:=V->St->Hp->(St->Hp->Prop)->Prop
abbrev pB:=O V->St->Hp->(St->Hp->Prop)->Prop
def PG(X:Cx)(a:cM)(t:TG):Prop:=
 ∀(b:a9) (s:cb) (c:St) (H:Hp) (v:V) (u:a7) (Q:St->Hp->Prop),Inv X b c H s->RelV v u->t v c H Q->
  wpAny X.md X.A (assign a X.env u) (λ_ d=>uP X b Q d) X.xe s
def An(X:Cx)(e:O cM)(t:pB):Prop:=
 ∀(a:a9) (s:cb) (b:St) (H:Hp) (c:O V) (d:O a7) (Q:St->Hp->Prop),Inv X a b H s->Vals c d->t c b H Q->
  wpAny X.md X.A (assignInOrder ((assignEach e X.env).map (·.2)) d) (λ_ f=>uP X a Q f) X.xe s
abbrev Ly:=V->V->V->Hp->(Hp->Prop)->Prop
def uQ(X:Cx)(t:Ly):Prop:=
 ∀(a:a9) (s:cb) (b:St) (H:Hp) (o i v:V) (c d u:a7) (Q:Hp->Prop),Inv X a b H s->RelV o c->RelV i d->RelV v u->t o i v H Q->
  wpAny X.md X.A (setItem c d u) (λ_ f=>∃e,Inv X a b e f/\Q e) X.xe s
abbrev DT:=V->V->Hp->VK->Prop
def Mi(X:Cx)(c:Operator)(t:DT):Prop:=
 ∀(a:a9) (s:cb) (b:St) (H:Hp) (x y:V) (v u:a7) (Q:VK),Inv X a b H s->RelV x v->RelV y u->t x y H Q->
  wpAny X.md X.A (inplaceOp c v u) (EP X a b Q) X.xe s
section
variable {X:Cx}{W:Pos}
def qz(i:Nat):TG:=λv a H Q=>Q (a.set i (U v)) H
def rT{i:Nat}{x:ar}(e:X.N.Nodup)(c:X.N[i]?=U x)(b:Loc X.env.scope x)(d:X.fn x=af\/X.env.scope.names.lookup x=U .local:=by first|exact .inl rfl|exact .inr rfl|assumption):PG X (.Name x W) (qz i):=by
 intro a s g H v u Q I r h;exact Np (BU I e c b r (λj f=>⟨_,H,f,h⟩) d)
def ZjF:pB:=λb a H Q=>b=[]/\Q a H
inductive Rn(t:TG)(u:pB)(b:O V)(a:St)(H:Hp)(Q:St->Hp->Prop):Prop
 |mk (v r) (e:b=v::r) (f:t v a H λc d=>u r c d Q):Rn t u b a H Q
def ZiP(t:TG)(u:pB):pB:=λb a H Q=>Rn t u b a H Q
def jr:An X [] ZjF:=by
 rintro a s b H c d Q I r ⟨e,h⟩;subst e;exact assignInOrder_nil ⟨b,H,I,h⟩
theorem bX{e:cM}{b:O cM}{t:TG}{u:pB}(l:PG X e t)(k:An X b u)
  (j:(assignEach (e::b) X.env).map (·.2)=assign e X.env::(assignEach b X.env).map (·.2):=by rfl):An X (e::b) (ZiP t u):=by
 rintro a s c H p w Q I r ⟨v,q,m,h⟩;subst m;cases r with
 |cons r g=>
  exact j▸assignInOrder_cons (aA (l a s c H _ _ _ I r h) λ_ f ⟨d,o,n,i⟩=>k a f d o _ _ Q n g i)
inductive SV(K:ah)(n:Nat)(t:pB)(v:V)(c:St)(H:Hp)(Q:St->Hp->Prop):Prop
 |mk (a b) (f:v=.ref a) (g:az K H a b) (d:b.length=n) (e:t b c H Q):SV K n t v c H Q
def Vh(K:ah)(n:Nat)(t:pB):TG:=λv a H Q=>SV K n t v a H Q
def Zhk{d:O cM}{k:Nat}{t:pB}{n:Nat}(x:X.calm=af)(h:An X d t)
  (q:(assignEach d X.env).length=n:=by rfl)(z:(assignEach d X.env).findIdx? (·.1)=aG:=by rfl):PG X (.Tuple d k W) (Vh X.K n t):=by
 rintro c s g H v u Q I r ⟨a,i,y,p,w,l⟩;subst y;cases r;obtain⟨C,f,m,A⟩:=I.tuple p;exact assign_Tuple_tuple (I.ok.hd x) m (by simp[q,←w,f.length]) z λB j=>h c _ g H i _ Q (I.kept λb o e=>j b o (Yy (Yr e)) e) (by simpa using f) l
def Vi(b c:TE)(t:Ly):TG:=λv a H Q=>b a H λo f=>c a f λi e=>t o i v e λd=>Q a d
def Zhl{o i:cM}{e f:TE}{t:Ly}(w:PE X o e)(z:PE X i f)(q:uQ X t)
  (J:∀v,assign (.Subscript o i W) X.env v=(do
   let b←holding [v] (eval o X.env);let c←holding [v,b] (eval i X.env)
   standAt W
   holding [v,b,c] (setItem b c v)
   release [v,b,c] []):=by intro _;rfl):PG X (.Subscript o i W) (Vi e f t):=by
 intro a s d H v u Q I r h;exact bo (i2 (aA (w a s d H _ I h) λb j ⟨x,F,C,l,p⟩=>bo (i2 (aA (z a j d F _ C p) λc g ⟨y,E,B,k,n⟩=>bo (kZ (bo (i2 (aA (q a g d E x y v b c u _ B l k r n) λ_ G ⟨D,A,m⟩=>wpAny_release ⟨d,D,A,m⟩))))))))
def uR(b:TE)(g:TG):TS:=λD a H=>b a H λx c=>g x a c D.nx
def oU{b e:cM}{d:TE}{g:TG}(o:PE X e d)(n:PG X b g)(m:swapsWithSole [b] e W.line X.env=pure a8:=by rfl)(l:swappedStores [b] e X.env=pure aG:=by rfl)
  (p:(assignEach [b] X.env).map (·.2)=[assign b X.env]:=by rfl):PS X (.Assign [b] e W) (uR d g):=by
 intro a s c H D I h;refine wpAny_Assign_stores (aA (o a s c H _ I h) λv i f=>?_) m l;obtain⟨x,t,r,j,k⟩:=f;exact p▸aA (n a i c t x v _ r j k) λ_ u q=>q
def iF{i:Nat}{x:ar}{e:cM}{c:TE}{a:Pos}(p:X.N.Nodup)(m:X.N[i]?=U x)(k:Loc X.env.scope x)(o:PE X e c)(l:swapsWith e (U (.Name x a)) W.line X.env=pure a8:=by rfl)(n:X.fn x=af\/X.env.scope.names.lookup x=U .local:=by first|exact .inl rfl|exact .inr rfl|assumption):
  PS X (.Assign [.Name x a] e W) (uR c (qz i)):=by
 intro b s d H D I h;refine wpAny_Assign_Name (aA (o b s d H _ I h) λv w f=>?_) l;obtain⟨y,t,r,g,j⟩:=f;exact BU r p m k g (λu q=>⟨_,t,q,j⟩) n
def ZjG(i:Nat)(c:TE)(b:DT):TS:=λD a H=>∃x,a[i]?=U (U x)/\c a H λy e=>b x y e λz d=>D.nx (a.set i (U z)) d
def Kq{i:Nat}{x:ar}{e:cM}{o:TE}{f:Operator}{n:DT}{d:Pos}(R:X.N.Nodup)(p:X.N[i]?=U x)(g:Loc X.env.scope x)(P:PE X e o)(F:Mi X f n)(N:X.fn x=af\/X.env.scope.names.lookup x=U .local:=by first|exact .inl rfl|exact .inr rfl|assumption):
  PS X (.AugAssign (.Name x d) f e W) (ZjG i o n):=by
 rintro a s j H D I ⟨v,e1,h⟩;obtain⟨m,G,L⟩:=I.loc;have Mj:ve X.env.scope x:=by rcases g with k|k;exact .inl k;exact .inr (.inl k)
 obtain⟨u,r,l⟩:=L i x v p e1 Mj;refine wpAny_AugAssign_Name ?_;have q:wpAny X.md X.A (eval e X.env) (λw T=>wpAny X.md X.A (inplaceOp f u w) (λr eU=>wpAny X.md X.A (storeName X.env x r) (λ_=>SP X a D .next) X.xe eU) X.xe T) X.xe s:=aA (P a s j H _ I h) λw t ⟨y,H1,I1,B,E⟩=>aA (F a t j H1 v y u w _ I1 r B E) λz s2 ⟨zv,H2,I2,A,C⟩=>BU I2 R p g A (λs3 I3=>⟨_,H2,I3,C⟩) N;rcases l with⟨b,J⟩|⟨b,c,Q,CN⟩;·exact D9 I.ok.kind b G J q
 ·rcases b with b|b;·exact HX I.ok.kind b Q CN q
  ·rcases g with k|k
   ·have:X.env.scope.names.lookup x=U .free:=b
    grind
   ·have:X.env.scope.names.lookup x=U .free:=b
    grind
inductive Up(f:Int->Int->Int)(x:V)(y:V)(H:Hp)(Q:VK):Prop
 |mk (i j) (b:x=.int i) (c:y=.int j) (a:Q (.int (f i j)) H):Up f x y H Q
def ipI(f:Int->Int->Int):DT:=λx y H Q=>Up f x y H Q
def SW:Mi X .Add (ipI λi j=>i+j):=by
 rintro a s f H x y v u Q I c b ⟨i,j,e,d,q⟩;subst e;subst d;obtain⟨t,rfl⟩:=c;obtain⟨g,rfl⟩:=b;exact iadd_int ⟨.int _,H,I.tok _,⟨_,rfl⟩,q⟩
end
def SX(c:TT)(h:TS):TS:=λD a H=>∃W:Nat->St->Hp->Prop,(∃m,W m a H)/\∀m a H,W m a H->
 c a H λb f=>if b=af then ∃N:St->Hp->Prop,(∀e g,N e g->∃d,d<m/\W d e g)/\h {D with nx:=N,ct:=N,bk:=D.nx} a f else D.nx a f
theorem I_(r:PassesOwn X.md X.A X.env X.xe)(P:PT X c C)(Q:fQ X body E):PS X (.While c body [] pos) (SX C E):=by
 intro a s y H D I h;obtain⟨W,⟨L,B⟩,d⟩:=h;refine wpAny_While (codeAny_whileLoop (λn J=>uP X a (W n) J) ?_ L ⟨y,H,I,B⟩);rintro n G ⟨i,x,R,A⟩;refine nD r (aA (P a G i x _ R (d n i x A)) λb F z=>?_);obtain⟨w,u,k⟩:=z;cases b with
 |true=>
  obtain⟨N,t,k⟩:=k;rw[bS rfl];refine nD r (aA (Q a F i w _ u k) λf T j=>?_);cases f with
  |next=>
   obtain⟨e,g,q,m⟩:=j;obtain⟨o,p,l⟩:=t e g m;exact⟨o,p,e,g,q,l⟩
  |cont=>
   obtain⟨e,g,q,m⟩:=j;obtain⟨o,p,l⟩:=t e g m;exact⟨o,p,e,g,q,l⟩
  |brk=>exact j
  |ret v=>exact j
 |false=>
  rw[bt Yh];exact tJ ⟨i,w,u,k⟩
structure It where
 go:Nat->Hp->Prop
 sY:Nat->Hp->V->Hp->Prop
 stop:Nat->Hp->Prop
def jA(X:Cx)(a:a9)(H:Hp)(b:Z):Prop:=
 H b=aG/\b≠X.env.locals/\b∉X.fs/\(b∈X.ex\/X.di.heap.objs.size<=b)/\(∀x c,X.env.cells.lookup x=U c->c≠b)/\∀p∈X.pn++a,p.1≠b
def Inv.qI(I:Inv X pins σ H s)(a:s.heap.objs.size<=b)(f:g b=aG):jA X pins g b:=by
 refine⟨f,Ja (Y2 I.lt a),I.Zjz a,.inr (Yz I.sz a),λx c e z=>?_,λp d z=>?_⟩
 ·obtain⟨v,q⟩:=I.cell x c e;exact absurd (Y2 q.lt (by rwa[z])) (Wc _)
 ·exact absurd (Y2 (Yr (I.pin p d).1) (by rwa[z])) (Wc _)
structure Turn(P:dv)(w:dg)(K:ah)(tg:cM)(J:It)(fp:O Z)(it:Z)(tn:Nat->cO->Prop):Prop where
 mem:it∈fp
 obj:∀i h,tn i h->∀b∈fp,∃o,h.get? b=U o/\∀v,o.data≠.cell v
 keep:∀i h h',tn i h->(∀b∈fp,∀o,h.get? b=U o->h'.get? b=U o)->tn i h'
 item:∀(X:Cx),X.prog=P->X.w=w->X.K=K->X.calm=af->∀(i:Nat) (pins:a9) (s:cb) (σ:St) (H:Hp) (E:bg),Inv X pins σ H s->(∀b∈fp,jA X pins H b)->tn i s.heap->J.go i H->
  wpAny (model P w) X.A (pyNext (.ref it)) (λr s1=>∃u,r=U u/\
   wpAny (model P w) X.A (letOwnedTupleGo tg (.ref it) u) (λ_ s2=>∃x H',Inv X pins σ H' s2/\RelV x u/\J.sY i H x H'/\tn (i+1) s2.heap/\∀b∈fp,H' b=aG) E s1) E s
 done:∀(X:Cx),X.prog=P->X.w=w->X.K=K->X.calm=af->∀(i:Nat) (pins:a9) (s:cb) (σ:St) (H:Hp) (E:bg),Inv X pins σ H s->(∀b∈fp,jA X pins H b)->tn i s.heap->J.stop i H->
  wpAny (model P w) X.A (pyNext (.ref it)) (λr s1=>r=aG/\Inv X pins σ H s1) E s
 self:∀(A:fI) (i:Nat) (s:cb) (Q:bg) (E:bg),tn i s.heap->Q (.ref it) s->wpAny (model P w) A (pyIter (.ref it)) Q E s
abbrev TI:=St->Hp->(It->Hp->Prop)->Prop
def WI(X:Cx)(a:a9)(g:St)(i:cM)(R:It->Hp->Prop)(h:a7)(e:cb):Prop:=
 ∃(f:Z) (fp:O Z) (d:Nat->cO->Prop) (J:It) (c:Hp),h=.ref f/\Inv X a g c e/\Turn X.prog X.w X.K i J fp f d/\d 0 e.heap/\(∀b∈fp,jA X a c b)/\R J c
def PI(X:Cx)(e b:cM)(d:TI):Prop:=
 ∀(a:a9) (s:cb) (c:St) (H:Hp) (R:It->Hp->Prop),Inv X a c H s->d c H R->
  wpAny X.md X.A (eval b X.env) (λv f=>wpAny X.md X.A (pyIter v) (WI X a c e R) X.xe f) X.xe s
theorem uF(d:s.heap.get? it=U o)(g:o.cls=.type n)(f:o.data=.fields b)
    (e:["enumerate","zip","dict_itemiterator","dict_reverseitemiterator","odict_iterator","itertools.zip_longest","itertools.pairwise"].contains n=a8)(a:Q () s):wpAny M A (letOwnedTupleGo c (.ref it) u) Q E s:=by
  unfold letOwnedTupleGo;cases c <;> first
    | exact cq a
    | (cases u <;> first
        | exact cq a
        | (refine bo (wpAny_load d ?_)
           rw [g,f];show wpAny M A (if (["enumerate","zip","dict_itemiterator","dict_reverseitemiterator","odict_iterator","itertools.zip_longest","itertools.pairwise"].contains n&&b[0]? == U (rawInt _))=af then _ else _) Q E s;rw [bt (by intro h; rw [e,Xk] at h; cases h)];exact cq a))
def kK(K:ah)(a:Z):It:=
 ⟨λi H=>∃b x,aq K H a b/\b[i]?=U x,λi H x c=>c=H/\∀b,aq K H a b->b[i]?=U x,λi H=>∃b,aq K H a b/\b.length<=i⟩
def yb(K:ah)(a:Z):It:=
 ⟨λi H=>∃b x,az K H a b/\b[i]?=U x,λi H x c=>c=H/\∀b,az K H a b->b[i]?=U x,λi H=>∃b,az K H a b/\b.length<=i⟩
def qQ(a:Int)(n:Nat):It:=⟨λi _=>i<n,λi H x b=>b=H/\x=.int (a+i),λi _=>n<=i⟩
theorem Pk{P:dv}{w:dg}{K:ah}{N:cM}(a it:Z):Turn P w K N (kK K a) [it] it (λi h=>h.IsListIter it a i) where
 mem:=QS
 obj:=λi h st b g=>by
  have e:b=it:=by simpa using g
  obtain⟨o,e,c,d⟩:=st
  simp_all
 keep:=λi h F st k=>st.at λo e=>k it QS o e
 item:=by
  intro X t q v D i f s J H E I l st r;subst t q v;obtain⟨L,x,j,n⟩:=r;obtain⟨ak,m,p,T⟩:=I.list j;obtain⟨u,hu,R⟩:=m.get n;obtain⟨C,B,f2,A,z,y⟩:=l it QS;refine wpAny_pyNext_list_item st p.isList (by simpa using hu) λF G Q=>?_;obtain⟨o,e,c,d⟩:=id G;exact⟨u,rfl,uF e c d QD ⟨x,H,(I.turned (λb o g e=>(Q.2 b g).trans e) C B A z y),R,⟨rfl,λys W=>by rw[I.ZeH W j];exact n⟩,G,λb g=>(l b g).1⟩⟩
 done:=by
  intro X t q v D i f s J H E I l st r;subst t q v;obtain⟨L,j,n⟩:=r;obtain⟨ak,m,p,T⟩:=I.list j;obtain⟨C,B,f2,A,z,y⟩:=l it QS;have hl:=m.length;exact wpAny_pyNext_list_end (I.ok.hd D) st p.isList (by simp;omega) λF eb=>⟨rfl,I.turned (eb) C B A z y⟩
 self:=λ_ _ _ _ _ st h=>wpAny_pyIter_listiter st h
theorem OG{P:dv}{w:dg}{K:ah}{N:cM}(a it:Z):Turn P w K N (yb K a) [it] it (λi h=>h.IsTupleIter it a i) where
 mem:=QS
 obj:=λi h st b g=>by
  have e:b=it:=by simpa using g
  obtain⟨o,e,c,d⟩:=st
  grind
 keep:=λi h F st k=>st.at λo e=>k it QS o e
 item:=by
  intro X t q v D i f s J H E I l st r;subst t q v;obtain⟨L,x,j,n⟩:=r;obtain⟨ak,m,p,T⟩:=I.tuple j;obtain⟨u,hu,R⟩:=m.get n;obtain⟨C,B,f2,A,z,y⟩:=l it QS;refine wpAny_pyNext_tuple_item st (p) (by simpa using hu) λF G Q=>?_;obtain⟨o,e,c,d⟩:=id G;exact⟨u,rfl,uF e c d QD ⟨x,H,(I.turned (λb o g e=>(Q.2 b g).trans e) C B A z y),R,⟨rfl,λys W=>by rw[I.ZdH W j];exact n⟩,G,λb g=>(l b g).1⟩⟩
 done:=by
  intro X t q v D i f s J H E I l st r;subst t q v;obtain⟨L,j,n⟩:=r;obtain⟨ak,m,p,T⟩:=I.tuple j;obtain⟨C,B,f2,A,z,y⟩:=l it QS;have hl:=m.length;exact wpAny_pyNext_tuple_end (I.ok.hd D) st (p) (by simp;omega) λF eb=>⟨rfl,I.turned (eb) C B A z y⟩
 self:=λ_ _ _ _ _ st h=>wpAny_pyIter_tupleiter st h
theorem ZcH{P:dv}{w:dg}{K:ah}{D:cM}(a:Z)(d:Int)(n:Nat):Turn P w K D (qQ d n) [a] a (λi h=>IsRangeIter h a (d+(i:Nat)*1) ((n:Int)-(i:Nat)) 1) where
 mem:=QS
 obj:=λi h st b g=>by
  simp_all
 keep:=λi h A st k=>k a QS _ st
 item:=by
  intro X p j q m i c s C H E I f st l;subst p j q;obtain⟨z,y,J,x,u,r⟩:=f a QS;refine(Walks.range (I.ok.hd m) a d 1 n).item i s _ _ l st λv A N G B F=>?_;obtain⟨t,rfl⟩:=G;refine⟨_,rfl,uF B rfl rfl QD ⟨.int (d+i),H,(I.turned (λb o g e=>F b o (by simpa using g) e) z y x u r),⟨t,?_⟩,⟨rfl,rfl⟩,B,λb g=>(f b g).1⟩⟩;rw[Int.mul_one]
 done:=by
  intro X p j q m i c s C H E I f st l;subst p j q;obtain⟨z,y,J,x,u,r⟩:=f a QS;exact wpAny_pyNext_range_end (I.ok.hd m) st (by have:n<=i:=l;omega) λA L=>⟨rfl,I.turned (L) z y x u r⟩
 self:=λ_ _ _ _ _ st h=>wpAny_pyIter_rangeiter st h
section
variable {X:Cx}{Q:cM}
inductive Ro(K:ah)(R:It->Hp->Prop)(x:V)(b:Hp):Prop
 |mk (a) (e:x=.ref a) (f:(∃c,aq K b a c)) (d:R (kK K a) b):Ro K R x b
def Uq(K:ah)(b:TE):TI:=λa H R=>b a H λx c=>Ro K R x c
inductive SY(K:ah)(R:It->Hp->Prop)(x:V)(b:Hp):Prop
 |mk (a) (e:x=.ref a) (f:(∃c,az K b a c)) (d:R (yb K a) b):SY K R x b
def ZjH(K:ah)(b:TE):TI:=λa H R=>b a H λx c=>SY K R x c
def Rp(r:PE X l j):PI X Q l (Uq X.K j):=by
 intro c s g H R I h;refine aA (r c s g H _ I h) λv f i=>?_;obtain⟨x,u,d,k,m⟩:=i;obtain⟨a,e,⟨w,n⟩,q⟩:=m;subst e;cases k;obtain⟨A,y,p,z⟩:=d.list n;refine th p.isList ⟨f.heap.objs.size,[f.heap.objs.size],_,_,u,rfl,d.kept λ b o=>Yb _,Pk a _,⟨_,Yp _ rfl,rfl,rfl⟩,λb t=>?_,q⟩;have e:b=f.heap.objs.size:=by simpa using t
 subst e;exact d.qI (Yd _) (d.ay.fresh (Yd _))
def Kr(r:PE X l j):PI X Q l (ZjH X.K j):=by
 intro c s g H R I h;refine aA (r c s g H _ I h) λv f i=>?_;obtain⟨x,u,d,k,m⟩:=i;obtain⟨a,e,⟨w,n⟩,q⟩:=m;subst e;cases k;obtain⟨A,y,p,z⟩:=d.tuple n;refine vt (p) ⟨f.heap.objs.size,[f.heap.objs.size],_,_,u,rfl,d.kept λ b o=>Yb _,OG a _,⟨_,Yp _ rfl,rfl,rfl⟩,λb t=>?_,q⟩;have e:b=f.heap.objs.size:=by simpa using t
 subst e;exact d.qI (Yd _) (d.ay.fresh (Yd _))
def ZeI{a:a9}{d:St}{H:Hp}{s:cb}{R:It->Hp->Prop}{E:bg}{lo c:Int}{t u v:Tok}{g:Nat}(I:Inv X a d H s)(l:-(2^62)<=lo)(k:lo<2^62)(j:-(2^62)<=c)(i:c<2^62)
  (q:R (qQ lo (c-lo).toNat) H):wpAny X.md X.A (pyIter (.ref s.heap.objs.size)) (WI X a d Q R) E {s with heap:=s.heap.push {cls:=.type "range",data:=.fields #[.int lo t,.int c u,.int 1 v]},toks:=g}:=by
 refine wpAny_pyIter_range (IsRange.new ..) (yE l k j i) ?_;have f:Inv X a d H {s with heap:=s.heap.push {cls:=.type "range",data:=.fields #[.int lo t,.int c u,.int 1 v]},toks:=g}:=I.kept λb o e=>Yb _ e;refine⟨(s.heap.push {cls:=.type "range",data:=.fields #[.int lo t,.int c u,.int 1 v]}).objs.size,[(s.heap.push {cls:=.type "range",data:=.fields #[.int lo t,.int c u,.int 1 v]}).objs.size],_,_,H,rfl,
  f.kept λ b o=>Yb _,ZcH _ lo (c-lo).toNat,?_,λb h=>?_,q⟩
 ·have n:lo+((0:Nat):Int)*1=lo:=QS
  have m:(((c-lo).toNat:Nat):Int)-((0:Nat):Int)=Builtin.Range.rangeSize lo c 1:=by rw[vW];split<;>omega
  rw[n,m];exact Yp _ rfl
 ·have e:b=(s.heap.push {cls:=.type "range",data:=.fields #[.int lo t,.int c u,.int 1 v]}).objs.size:=by simpa using h
  subst e;exact f.qI (Yd _) (f.ay.fresh (Yd _))
inductive Rq(R:It->Hp->Prop)(a:O V)(b:Hp):Prop
 |mk (j:Int) (e:a=[.int j]) (f:-(2^62)<=j) (c:j<2^62) (d:R (qQ 0 j.toNat) b):Rq R a b
def ZiQ(c:TA):TI:=λa H R=>c a H λb d=>Rq R b d
theorem rL{a:cM}{f:TA}{p b:Pos}(u:Gl X "range")(o:X.mg "range"=aG)(v:PA X [a] f)(n:starEach [a] X.env=[(a8,eval a X.env)]:=by rfl):PI X Q (.Call (.Name "range" p) [a] [] b) (ZiQ f):=by
 intro c s g H R I h;refine Call_ (zH I u o boot_range (Ar (aA (v b c s g H _ I h) λy z i=>?_) n rfl));obtain⟨x,A,w,l,d⟩:=i;obtain⟨j,e,d,m,q⟩:=d;subst e;cases l with
 |cons r k=>
  cases k;obtain⟨t,rfl⟩:=r;exact call_range_1 (ZeI w (by decide) (by decide) d m (by simpa using q))
def C4(e:TI)(g:TG)(f:TS):TS:=λD a H=>e a H λJ k=>∃W:Nat->Nat->St->Hp->Prop,(∃m,W 0 m a k)/\∀i m a H,W i m a H->
 (J.stop i H/\D.nx a H)\/(J.go i H/\∃N:St->Hp->Prop,(∀d b,N d b->∃c,c<m/\W (i+1) c d b)/\∀x b,J.sY i H x b->g x a b λh j=>f {D with nx:=N,ct:=N,bk:=D.nx} h j)
def r6(a:O Z)(h:cO):O (Z×Obj):=a.filterMap λb=>(h.get? b).map λo=>(b,o)
def rE(a:b∈fp)(e:h.get? b=U o):(b,o)∈r6 fp h:=Jn.mpr ⟨b,a,by rw[e];rfl⟩
theorem ZdI(a:p∈r6 fp h):p.1∈fp/\h.get? p.1=U p.2:=by
 obtain⟨b,c,e⟩:=Jn.mp a;cases q:h.get? b with
 |none=>grind
 |some o=>grind
def Inv.pinned(I:Inv X pins σ H s)(c:∀b∈fp,jA X pins H b)(f:∀b∈fp,∃o,s.heap.get? b=U o/\∀v,o.data≠.cell v):Inv X (pins++r6 fp s.heap) σ H s:=
 I.Rm λp a=>(Yu.mp a).elim (λz=>I.pin p (Ys _ z)) λz=>by
  obtain⟨d,e⟩:=ZdI z;obtain⟨i,h,g,_⟩:=c p.1 d
  grind
def Inv.xg(I:Inv X (pins++b) σ H s):Inv X pins σ H s:=I.Rm λp a=>I.pin p (Ys _ (Yt _ a))
theorem ic{j:cM}{t:O cj}{wi:TI}{g:TG}{tb:TS}{P:Pos}(A:PassesOwn X.md X.A X.env X.xe)(hc:X.calm=af)(hi:PI X Q j wi)(hg:PG X Q g)(k:fQ X t tb)
  (hs:∀x,foldedSetIterable j X.env x=pure x:=by intro _;rfl):PS X (.For Q j t [] P) (C4 wi g tb):=by
 intro a s σ H D I h;refine wpAny_For (aA (hi a s σ H _ I h) λv s1 h1=>aA h1 λvh s2 h2=>?_) hs;obtain⟨it,fp,tn,J,H2,e,I2,T,eW,f2,W,⟨m0,w0⟩,w⟩:=h2;subst e;have R:∀{H':Hp},(∀b∈fp,H' b=aG)->∀b∈fp,jA X a H' b:=λhn b k=>⟨hn b k,(f2 b k).2⟩;refine codeAny_forLoop_any (λn s'=>∃i C H',Inv X a C H' s'/\tn i s'.heap/\(∀b∈fp,H' b=aG)/\W i n C H') ?_ m0 ⟨0,σ,H2,I2,eW,λb k=>(f2 b k).1,w0⟩;rintro n s3 ⟨i,B,E,I3,WJ,yc,w3⟩;rcases w i n B E w3 with⟨y,qn⟩|⟨go,N,hN,step⟩
 ·refine nD A (aA (T.done X rfl rfl rfl hc i a s3 B E X.xe I3 (R yc) WJ y) λr s4 F=>?_);obtain⟨hr,I4⟩:=F;subst hr;exact tJ ⟨B,E,I4,qn⟩
 ·refine nD A (aA (T.item X rfl rfl rfl hc i a s3 B E X.xe I3 (R yc) WJ go) λr s4 F=>?_);obtain⟨u,hr,h4⟩:=F;subst hr;refine nD A (aA h4 λ_ s5 ⟨x,H5,I5,r5,y5,L,vq⟩=>nD A (aA (hg _ s5 B H5 x u _ (I5.pinned (R vq) (T.obj _ _ L)) r5 (step x H5 y5)) λ_ s6 ⟨DU,H6,I6,q6⟩=>nD A (aA (k _ s6 DU H6 _ I6 q6) λf G q=>?_)));have again:∀{c:St} {p:Hp},Inv X (a++r6 fp s5.heap) c p G->N c p->∃m,m<n/\∃i C H',Inv X a C H' G/\tn i G.heap/\(∀b∈fp,H' b=aG)/\W i m C H':=λ{c p} l z=>by
   obtain⟨m',hm,w7⟩:=hN c p z;refine⟨m',hm,i+1,c,p,l.xg,T.keep _ _ _ L λb k o e=>(l.pin (b,o) (Ys _ (Ys _ (rE k e)))).1,λb k=>?_,w7⟩;obtain⟨o,e,d⟩:=T.obj _ _ L b k;exact(l.pin (b,o) (Ys _ (Ys _ (rE k e)))).2.1
  cases f with
  |next=>obtain⟨c,p,l,z⟩:=q;exact again l z
  |cont=>obtain⟨c,p,l,z⟩:=q;exact again l z
  |brk=>obtain⟨c,p,l,q⟩:=q;exact⟨c,p,l.xg,q⟩
  |ret v=>obtain⟨x7,c,p,l,r7,q⟩:=q;exact⟨x7,c,p,l.xg,r7,q⟩
end
def kW{K:ah}{a:Z}{xs:O V}{g:TG}{l:TS}{D:Ends}{b:St}{H:Hp}(c:Nat->St->Hp->Prop)(v:c 0 b H)(t:∀i b H,i<=xs.length->c i b H->aq K H a xs)
  (s:∀i x b H,xs[i]?=U x->c i b H->g x b H λf k=>l {D with nx:=c (i+1),ct:=c (i+1),bk:=D.nx} f k)(u:∀b H,c xs.length b H->D.nx b H):
  ∃W:Nat->Nat->St->Hp->Prop,(∃m,W 0 m b H)/\∀i m b H,W i m b H->
   ((kK K a).stop i H/\D.nx b H)\/((kK K a).go i H/\∃N:St->Hp->Prop,(∀j d,N j d->∃n,n<m/\W (i+1) n j d)/\∀x d,(kK K a).sY i H x d->g x b d λf k=>l {D with nx:=N,ct:=N,bk:=D.nx} f k):=by
 refine⟨λi m b H=>m=xs.length-i/\i<=xs.length/\c i b H,⟨xs.length,QS,Yx _,v⟩,?_⟩;rintro i m b H ⟨rfl,o,p⟩;have q:=t i b H o p;by_cases h:i<xs.length
 ·refine .inr ⟨⟨xs,xs[i],q,by simp[h]⟩,c (i+1),λj d r=>⟨xs.length-(i+1),QO,rfl,h,r⟩,λx d y=>?_⟩;obtain⟨e,y⟩:=y;subst e;exact s i x b _ (y xs q) p
 ·have e:i=xs.length:=(i_ o (gV h))
  subst e;exact .inl ⟨⟨xs,q,Yd _⟩,u b H p⟩
def Io{lo:Int}{n:Nat}{g:TG}{k:TS}{D:Ends}{a:St}{H:Hp}(b:Nat->St->Hp->Prop)(s:b 0 a H)
  (t:∀i a H,i<n->b i a H->g (.int (lo+i)) a H λd j=>k {D with nx:=b (i+1),ct:=b (i+1),bk:=D.nx} d j)(r:∀a H,b n a H->D.nx a H):
  ∃W:Nat->Nat->St->Hp->Prop,(∃m,W 0 m a H)/\∀i m a H,W i m a H->
   ((qQ lo n).stop i H/\D.nx a H)\/((qQ lo n).go i H/\∃N:St->Hp->Prop,(∀h c,N h c->∃l,l<m/\W (i+1) l h c)/\∀x c,(qQ lo n).sY i H x c->g x a c λd j=>k {D with nx:=N,ct:=N,bk:=D.nx} d j):=by
 refine⟨λi m a H=>m=n-i/\i<=n/\b i a H,⟨n,QS,Yx _,s⟩,?_⟩;rintro i m a H ⟨rfl,q,p⟩;by_cases f:i<n
 ·refine .inr ⟨f,b (i+1),λh c o=>⟨n-(i+1),QO,rfl,f,o⟩,λx c y=>?_⟩;obtain⟨e,y⟩:=y
  simp_all
 ·have e:i=n:=(i_ q (gV f))
  subst e;exact .inl ⟨Yd _,r a H p⟩
theorem JA{c:TT}{j:TS}{D:Ends}{a:St}{H:Hp}(i:St->Hp->Prop)(g:St->Hp->Nat)(r:i a H)
  (o:∀a H,i a H->c a H λb e=>if b=af then j {D with nx:=λd f=>i d f/\g d f<g a H,ct:=λd f=>i d f/\g d f<g a H,bk:=D.nx} a e else D.nx a e)
  (h:∀a H Q k,(∀b e,Q b e->k b e)->c a H Q->c a H k):SX c j D a H:=by
 refine⟨λm a H=>m=g a H/\i a H,⟨_,rfl,r⟩,?_⟩;rintro m a H ⟨rfl,p⟩;refine h a H _ _ (λb e q=>?_) (o a H p);cases b with
 |true=>exact⟨_,λd f ⟨n,l⟩=>⟨_,l,rfl,n⟩,q⟩
 |false=>exact q
abbrev R2:=V->V->Hp->VK->Prop
def cL(X:Cx)(f:a7->a7->Sem a7)(r:R2):Prop:=
 ∀(a:a9) (s:cb) (b:St) (H:Hp) (x y:V) (v u:a7) (Q:VK),Inv X a b H s->RelV x v->RelV y u->r x y H Q->
  wpAny X.md X.A (f v u) (EP X a b Q) X.xe s
def dm(X:Cx)(f:a7)(r:O V->Hp->VK->Prop):Prop:=
 ∀(a:a9) (s:cb) (b:St) (H:Hp) (c:O V) (d:O a7) (Q:VK),Inv X a b H s->Vals c d->r c H Q->
  wpAny X.md X.A (call f d) (EP X a b Q) X.xe s
def ZjI(X:Cx)(r:V->Hp->(cm->Hp->Prop)->Prop):Prop:=
 ∀(a:a9) (s:cb) (b:St) (H:Hp) (x:V) (v:a7) (Q:cm->Hp->Prop),Inv X a b H s->RelV x v->r x H Q->
  wpAny X.md X.A (truthy v) (TP X a b Q) X.xe s
def ke(r:R2)(c b:TE):TE:=λa H Q=>c a H λx e=>b a e λy d=>r x y d Q
inductive Vj(C:Int->Int->Prop)(g:Int->Int->V)(x:V)(y:V)(H:Hp)(Q:VK):Prop
 |mk (i j) (c:x=.int i) (d:y=.int j) (a:C i j) (b:Q (g i j) H):Vj C g x y H Q
def rI(C:Int->Int->Prop)(g:Int->Int->V):R2:=λx y H Q=>Vj C g x y H Q
inductive Ur(g:Int->Int->V)(x:V)(y:V)(H:Hp)(Q:VK):Prop
 |mk (i j) (b:x=.int i) (c:y=.int j) (a:Q (g i j) H):Ur g x y H Q
def sZ(g:Int->Int->V):R2:=λx y H Q=>Ur g x y H Q
section
variable {X:Cx}
def Lz(p:PE X a l)(o:PE X b k){c:a9}{s:cb}{d:St}{H:Hp}{R:V->V->Hp->Prop}(I:Inv X c d H s)
  (h:l d H λx j=>k d j λy e=>R x y e){Q:bg}{f:a7->a7->Sem a7}
  (B:∀v u i x y e,Inv X c d e i->RelV x v->RelV y u->R x y e->wpAny X.md X.A (f v u) Q X.xe i):
  wpAny X.md X.A (eval a X.env) (λv r=>wpAny X.md X.A (eval b X.env) (λu q=>wpAny X.md X.A (f v u) Q X.xe q) X.xe r) X.xe s:=by
 refine aA (p c s d H _ I h) λv m g=>?_;obtain⟨x,j,t,z,n⟩:=g;refine aA (o c m d j _ t n) λu i g=>?_;obtain⟨y,e,C,w,A⟩:=g
 grind
def aZ(i:cL X (binaryOp op) r)(k:PE X a f)(j:PE X b e):PE X (.BinOp a op b pos) (ke r f e):=by
 intro c s d H Q I h;exact wpAny_BinOp (Lz k j I h λ v u g x y l=>i c g d l x y v u Q)
def DV{f:a7->a7->Sem a7}{C:Int->Int->Prop}{g:Int->Int->Int}
  (a:∀(i j:Int) (t u:Tok) (s:cb) (Q:bg) (E:bg),C i j->Q (.int (g i j) s.toks) {s with toks:=s.toks+1}->wpAny X.md X.A (f (.int i t) (.int j u)) Q E s):
  cL X f (rI C λi j=>.int (g i j)):=by
 rintro b s k H x y v u Q I e d ⟨i,j,rfl,rfl,h,q⟩;obtain⟨t,rfl⟩:=e;obtain⟨c,rfl⟩:=d;exact a i j t c s _ _ h ⟨.int (g i j),H,I.tok _,⟨_,rfl⟩,q⟩
def Vk{f:a7->a7->Sem a7}{g:Int->Int->Int}
  (a:∀(i j:Int) (t u:Tok) (s:cb) (Q:bg) (E:bg),Q (.int (g i j) s.toks) {s with toks:=s.toks+1}->wpAny X.md X.A (f (.int i t) (.int j u)) Q E s):
  cL X f (sZ λi j=>.int (g i j)):=by
 rintro b s h H x y v u Q I e d ⟨i,j,rfl,rfl,q⟩;obtain⟨t,rfl⟩:=e;obtain⟨c,rfl⟩:=d;exact a i j t c s _ _ ⟨.int (g i j),H,I.tok _,⟨_,rfl⟩,q⟩
def LA{g:Int->Int->cm}
  (a:∀(i j:Int) (t u:Tok) (s:cb) (Q:bg) (E:bg),Q (.bool (g i j)) s->wpAny X.md X.A (f (.int i t) (.int j u)) Q E s):
  cL X f (sZ λi j=>.bl (g i j)):=by
 rintro b s h H x y v u Q I e d ⟨i,j,rfl,rfl,q⟩;obtain⟨t,rfl⟩:=e;obtain⟨c,rfl⟩:=d;exact a i j t c s _ _ ⟨.bl (g i j),H,I,rfl,q⟩
def LB(i j:Int):Prop:=0<j/\j<1073741824
def ZjJ(i j:Int):Prop:=0<=j/\j<=1000000/\i.natAbs<2^64
def xM(i j:Int):Prop:=(-(2^64)<i/\i<2^64)\/(-(2^64)<j/\j<2^64)
def xM.ok{i j:Int}(h:xM i j):IntMulOk i j:=by
 rcases h with⟨b,a⟩|⟨b,a⟩;·exact .of_left (intBits_le_64 b a)
 ·exact .of_right (intBits_le_64 b a)
def iG:cL X (binaryOp .Add) (sZ λi j=>.int (i+j)):=Vk λ_ _ _ _ _ _ _ q=>add_int q
def Ct:cL X (binaryOp .Sub) (sZ λi j=>.int (i-j)):=Vk λ_ _ _ _ _ _ _ q=>sub_int q
def nN:cL X (binaryOp .Mult) (rI xM λi j=>.int (i*j)):=DV λ_ _ _ _ _ _ _ a q=>mul_int q a.ok
def Cb:cL X (binaryOp .FloorDiv) (rI LB λi j=>.int (i/j)):=DV λi j _ _ _ _ _ a q=>by
 have b:(0:Int)<j:=a.1;have c:j<1073741824:=a.2;exact floordiv_int (XA b) (by rw[Int.fdiv_eq_ediv_of_nonneg i (zl b)];exact q) (.inl (PyProof.noPylong_small QO))
def dO:cL X (binaryOp .Mod) (rI (λ_ j=>0<j) λi j=>.int (i % j)):=DV λi j _ _ _ _ _ a q=>by
 exact mod_int' (XA a) (by rwa[Int.fmod_eq_emod_of_nonneg i (zl a)])
def S0:cL X (binaryOp .Pow) (rI ZjJ λi j=>.int (i^j.toNat)):=DV λ_ _ _ _ _ _ _ a q=>pow_int_small a.1 a.2.1 a.2.2 q
end
def z5:V->V->cm
 |.aE,.aE=>af|.aE,.int _=>af|.int _,.aE=>af|.aE,.bl _=>af|.bl _,.aE=>af|.aE,.str _=>af|.str _,.aE=>af
 |.int _,.int _=>af|.bl _,.bl _=>af|.str _,.str _=>af|.kI _,.kI _=>af
 |.int _,.str _=>af|.str _,.int _=>af|.bl _,.str _=>af|.str _,.bl _=>af
 |_,_=>a8
def WK:R2:=λx y H Q=>z5 x y=af/\Q (.bl (decide (x=y))) H
def WL:R2:=λx y H Q=>z5 x y=af/\Q (.bl (!decide (x=y))) H
def Rr:decide (V.int i=V.int j)=(i==j):=by
 grind
def S1:decide (V.bl i=V.bl j)=(i==j):=by
 grind
def Rt:decide (V.str i=V.str j)=(i==j):=by
 grind
def Ru:decide (V.kI i=V.kI j)=(i.toList==j.toList):=by
 rw[Wd];simp_all
section
variable {b:cM}
def cR(I:Inv X pins σ H s)(q:Q (.bl k) H)(e:k=a):EP X pins σ Q (.bool a) s:=by
 subst e;exact⟨.bl k,H,I,rfl,q⟩
theorem bZ:cL X (compareOp .Eq) WK:=by
 intro f s g H x y v u Q I e a h;obtain⟨d,q⟩:=h;cases x with
 |aE=>
  cases e;cases y with
  |aE=>cases a;exact PySem.EqNone.eq_none_none (cR I q QS)
  |bl j=>cases a;exact PySem.EqNone.eq_none_bool (cR I q QS)
  |int j=>obtain⟨c,rfl⟩:=a;exact PySem.EqNone.eq_none_int (cR I q QS)
  |str j=>obtain⟨c,rfl⟩:=a;exact PySem.EqNone.eq_none_str (cR I q QS)
  |_=>exact absurd (d) Yh
 |bl i=>
  cases e;cases y with
  |aE=>cases a;exact PySem.EqNone.eq_bool_none (cR I q QS)
  |bl j=>cases a;exact eq_bool (cR I q S1)
  |str j=>obtain⟨c,rfl⟩:=a;exact PySem.EqMixed.eq_bool_str (cR I q QS)
  |_=>exact absurd (d) Yh
 |int i=>
  obtain⟨t,rfl⟩:=e;cases y with
  |aE=>cases a;exact PySem.EqNone.eq_int_none (cR I q QS)
  |int j=>obtain⟨c,rfl⟩:=a;exact eq_int (cR I q Rr)
  |str j=>obtain⟨c,rfl⟩:=a;exact PySem.EqMixed.eq_int_str (cR I q QS)
  |_=>exact absurd (d) Yh
 |str i=>
  obtain⟨t,rfl⟩:=e;cases y with
  |aE=>cases a;exact PySem.EqNone.eq_str_none (cR I q QS)
  |bl j=>cases a;exact PySem.EqMixed.eq_str_bool (cR I q QS)
  |int j=>obtain⟨c,rfl⟩:=a;exact PySem.EqMixed.eq_str_int (cR I q QS)
  |str j=>obtain⟨c,rfl⟩:=a;exact eq_str (cR I q Rt)
  |_=>exact absurd (d) Yh
 |kI i=>
  obtain⟨t,rfl⟩:=e;cases y with
  |kI j=>obtain⟨c,rfl⟩:=a;exact PySem.W.eq_bytes (cR I q Ru)
  |_=>exact absurd (d) Yh
 |_=>cases y<;>exact absurd (d) Yh
theorem k9:cL X (compareOp .NotEq) WL:=by
 intro f s g H x y v u Q I e a h;obtain⟨d,q⟩:=h;cases x with
 |aE=>
  cases e;cases y with
  |aE=>cases a;exact PySem.EqNone.ne_none_none (cR I q QS)
  |bl j=>cases a;exact PySem.EqNone.ne_none_bool (cR I q QS)
  |int j=>obtain⟨c,rfl⟩:=a;exact PySem.EqNone.ne_none_int (cR I q QS)
  |str j=>obtain⟨c,rfl⟩:=a;exact PySem.EqNone.ne_none_str (cR I q QS)
  |_=>exact absurd (d) Yh
 |bl i=>
  cases e;cases y with
  |aE=>cases a;exact PySem.EqNone.ne_bool_none (cR I q QS)
  |bl j=>cases a;exact ne_bool (cR I q (eH not S1))
  |str j=>obtain⟨c,rfl⟩:=a;exact PySem.EqMixed.ne_bool_str (cR I q QS)
  |_=>exact absurd (d) Yh
 |int i=>
  obtain⟨t,rfl⟩:=e;cases y with
  |aE=>cases a;exact PySem.EqNone.ne_int_none (cR I q QS)
  |int j=>obtain⟨c,rfl⟩:=a;exact ne_int (cR I q (eH not Rr))
  |str j=>obtain⟨c,rfl⟩:=a;exact PySem.EqMixed.ne_int_str (cR I q QS)
  |_=>exact absurd (d) Yh
 |str i=>
  obtain⟨t,rfl⟩:=e;cases y with
  |aE=>cases a;exact PySem.EqNone.ne_str_none (cR I q QS)
  |bl j=>cases a;exact PySem.EqMixed.ne_str_bool (cR I q QS)
  |int j=>obtain⟨c,rfl⟩:=a;exact PySem.EqMixed.ne_str_int (cR I q QS)
  |str j=>obtain⟨c,rfl⟩:=a;exact ne_str (cR I q (eH not Rt))
  |_=>exact absurd (d) Yh
 |kI i=>
  obtain⟨t,rfl⟩:=e;cases y with
  |kI j=>obtain⟨c,rfl⟩:=a;exact PySem.W.ne_bytes (cR I q (eH not Ru))
  |_=>exact absurd (d) Yh
 |_=>cases y<;>exact absurd (d) Yh
def nP:cL X (compareOp .Lt) (sZ λi j=>.bl (decide (i<j))):=LA λ_ _ _ _ _ _ _ q=>lt_int q
def CO:cL X (compareOp .Gt) (sZ λi j=>.bl (decide (j<i))):=LA λ_ _ _ _ _ _ _ q=>gt_int q
def ZiR:cL X (compareOp .GtE) (sZ λi j=>.bl (decide (j<=i))):=LA λ_ _ _ _ _ _ _ q=>ge_int q
def ZdJ:cL X (compareOp .In) (λx y H Q=>∃i j,x=.str i/\y=.str j/\Q (.bl (!(Builtin.Str.occurrences j i 0 j.length 1).isEmpty)) H):=by
 intro a s e H x y v u Q I d c h;obtain⟨i,j,rfl,rfl,q⟩:=h;obtain⟨t,rfl⟩:=d;obtain⟨f,rfl⟩:=c;exact in_str (cR I q rfl)
theorem Ks:cL X (compareOp .Is) (λx y H Q=>y=.aE/\Q (.bl (decide (x=.aE))) H):=by
 intro c s e H x y v u Q I a d h;obtain⟨rfl,q⟩:=h;cases d;refine is_none_gen (cR I q ?_);cases x<;>first
  |(cases a;rfl)
  |(obtain⟨t,rfl⟩:=a;rfl)
theorem Cc:cL X (compareOp .IsNot) (λx y H Q=>y=.aE/\Q (.bl (!decide (x=.aE))) H):=by
 rintro c s e H x y v u Q I a d ⟨rfl,q⟩;cases d;refine isnot_none_gen (cR I q ?_);cases x<;>first
  |(cases a;rfl)
  |(obtain⟨t,rfl⟩:=a;rfl)
def Zbo:cL X (compareOp .NotIn) (λx y H Q=>∃i j,x=.str i/\y=.str j/\Q (.bl (!(!(Builtin.Str.occurrences j i 0 j.length 1).isEmpty))) H):=by
 rintro a s e H x y v u Q I d c ⟨i,j,rfl,rfl,q⟩;obtain⟨t,rfl⟩:=d;obtain⟨f,rfl⟩:=c;exact notIn_str (cR I q rfl)
def S2(b:cM){a:CmpOp}(h:a≠.In:=by decide)(c:a≠.NotIn:=by decide):behindInMarks a b=a8:=by
 have e:(a==CmpOp.In)=a8:=by cases a<;>first|rfl|exact absurd rfl h
 have d:(a==CmpOp.NotIn)=a8:=by cases a<;>first|rfl|exact absurd rfl c
 cases b<;>simp[behindInMarks,e,d]
def Cd(i:cL X (compareOp op) r)(l:PE X a f)(k:PE X b e)(j:behindInMarks op b=a8):PE X (.Compare a [op] [b] pos) (ke r f e):=by
 intro c s d H Q I h;exact Xd (Lz l k I h λ v u g x y m=>i c g d m x y v u Q) j
inductive Rv(Q:cm->Hp->Prop)(x:V)(a:Hp):Prop
 |mk (k) (c:x=.bl k) (d:Q k a):Rv Q x a
def K_(t:TE):TT:=λa H Q=>t a H λx c=>Rv Q x c
def fY(w:cL X (compareOp op) r)(C:PE X a i)(B:PE X b g)(A:behindInMarks op b=a8):PT X (.Compare a [op] [b] pos) (K_ (ke r i g)):=by
 intro d s f H Q I h;refine DS (aA (C d s f H _ I h) λv l ⟨x,L,F,o,t⟩=>aA (B d l f L _ F t) λu j ⟨y,J,E,n,q⟩=>
  aA (w d j f J x y v u _ E o n q) λc N ⟨z,G,D,m,k,e,p⟩=>?_) A
 subst e;cases m;exact l3 ⟨G,D,p⟩
def C5(K:ah)(x:V)(H:Hp)(k:cm):Prop:=
 match x with
 |.aE=>k=a8
 |.bl b=>k=b
 |.int i=>k=(i !=0)
 |.str y=>y.length<=sizeLine/\k=((y.length:Int)!=0)
 |.kI y=>y.size<=sizeLine/\k=((y.size:Int)!=0)
 |.ref p=>(∃a,aq K H p a/\k=!a.isEmpty)\/(∃a,az K H p a/\k=!a.isEmpty)\/∃c,H p=U (.dK c)/\k=!c.isEmpty
 |_=>False
def ZcI(r:KV a c):(!c.isEmpty)=!a.isEmpty:=by
 cases r<;>rfl
def OH(r:Vals xs a):(!a.toArray.isEmpty)=!xs.isEmpty:=by
 cases r<;>simp
def uB:(sizeLine:Nat)<2^63:=by rw[dU];decide
theorem Zhm:ZjI X (λx H Q=>∃k,C5 X.K x H k/\Q k H):=by
 intro l s A H x v Q I f h;obtain⟨k,e,q⟩:=h;have B:sizeLine=16777216:=dU;cases x with
 |aE=>
  cases f;have a:k=a8:=e;subst a;exact truthy_none ⟨H,I,q⟩
 |bl b=>
  cases f;have a:k=b:=e;subst a;exact l3 ⟨H,I,q⟩
 |int i=>
  obtain⟨t,rfl⟩:=f;have a:k=(i !=0):=e;subst a;exact PySem.P.truthy_int ⟨H,I,q⟩
 |str y=>
  obtain⟨t,rfl⟩:=f;obtain⟨o,a⟩:y.length<=sizeLine/\k=((y.length:Int)!=0):=e;subst a;exact PySem.P.truthy_str QO ⟨H,I.tok _,q⟩
 |kI y=>
  obtain⟨t,rfl⟩:=f;obtain⟨o,a⟩:y.size<=sizeLine/\k=((y.size:Int)!=0):=e;subst a;exact PySem.W.truthy_bytes (eL o (by decide)) ⟨H,I.tok _,q⟩
 |ref p=>
  cases f;have a:=e;rcases a with⟨u,g,a⟩|⟨u,g,a⟩|⟨d,g,a⟩
  ·subst a;obtain⟨z,r,j,n⟩:=I.list g;have c:=r.length;exact wpAny_truthy_list j.isList (by simp only[Yv];omega) ⟨H,I.tok _,by rw[OH r];exact q⟩
  ·subst a;obtain⟨z,r,j,n⟩:=I.tuple g;have c:=r.length;exact truthy_tuple j (by simp only[Yv];omega) ⟨H,I.tok _,by rw[OH r];exact q⟩
  ·subst a;obtain⟨n,w,vs,r,m⟩:d.length<=sizeLine/\(p==sysModules)=a8/\∃vs,KV d vs/\s.heap.DictOf (dW X.prog X.w) p vs:=I.ay p _ g;have c:d.length=vs.length:=Paired.length r;exact wpAny_truthy_dict w m QO ⟨H,I.tok _,by rwa[ZcI r]⟩
 |_=>exact(e).elim
def JB(n:PE X a g)(m:∀c,isTrue a X.env c=(do let v←c;standAt a.pos;holding [v] (truthy v))):
  PT X a (λe H Q=>g e H λx f=>∃k,C5 X.K x f k/\Q k f):=by
 intro d s e H Q I h;exact isTrue_plain (aA (n d s e H _ I h) λv i b=>by obtain⟨x,p,o,j,l⟩:=b;exact Zhm d i e p x v Q o j l) (m _)
def wN:cL X (binaryOp .Add) (λx y H Q=>∃i j,x=.str i/\y=.str j/\i.length+j.length<=sizeLine/\Q (.str (i++j)) H):=by
 rintro a s g H x y v u Q I e d ⟨i,j,rfl,rfl,f,q⟩;obtain⟨t,rfl⟩:=e;obtain⟨c,rfl⟩:=d;exact add_str (λc h=>⟨.str (i++j),H,I.tok _,⟨_,rfl⟩,q⟩) f
theorem vals1(r:Vals [x] us):∃u,us=[u]/\RelV x u:=by
 cases r with
 |cons c a=>cases a;exact⟨_,rfl,c⟩
theorem vals2(r:Vals [x,y] us):∃u w',us=[u,w']/\RelV x u/\RelV y w':=by
 cases r with
 |cons e d=>
  cases d with
  |cons c a=>cases a;exact⟨_,_,rfl,e,c⟩
def Qe:dm X (.builtin "abs") (λa H Q=>∃i,a=[.int i]/\Q (.int (if i<0 then-i else i)) H):=by
 rintro c s d H a e Q I r ⟨i,rfl,q⟩;obtain⟨u,rfl,t,rfl⟩:=vals1 r;exact call_abs_int λu f=>⟨.int (if i<0 then-i else i),H,I.tok _,⟨_,rfl⟩,q⟩
def Gq:dm X (.type "str") (λa H Q=>∃i,a=[.int i]/\i.natAbs.log2<1920/\Q (.str (toString i)) H):=by
 rintro c s e H a f Q I r ⟨i,rfl,d,q⟩;obtain⟨u,rfl,t,rfl⟩:=vals1 r;exact PySem.P.str_of_int d ⟨.str _,H,I.tok _,⟨_,rfl⟩,q⟩
end
structure uS(h:cO)(x dx C:Z)(mA:aS):Prop where
 obj:h.get? x=U (instObj C dx)
 ns:h.Ns1 dx mA
 ne:dx≠x
def Ip{h:cO}(n:h.Ns1 m f):∃c,h.get? m=U c/\∀b,lookIn b c=U (f b):=by
 obtain⟨o,l,p,i,hd,k,_,j⟩:=n;refine⟨o,i,λb=>?_⟩;have e:=j b;unfold nsFind findBy at e;rw[←Array.find?_toList] at e;unfold lookIn;rw[hd];dsimp;split;·grind
 ·rename_i q
  have a:l.toList.any (·.refKey)=a8:=by
   rw[WM];intro y g;obtain⟨z,t,d⟩:=k y (Array.mem_toList_iff.mp g);simp[DictEntry.refKey,d]
  grind
def uS.look(I:uS h x f C c):∃b,PySem.W.InstAt h x (instObj C f) C (U b)/\∀a,lookIn a b=U (c a):=
 let⟨b,d,e⟩:=Ip I.ns
 ⟨b,⟨I.obj,rfl,rfl,d⟩,e⟩
section
variable {T:dv}{w:dg}{A:fI}{E:bg}{s:cb}{K:ah}{x P C f:Z}{mA:aS}{W:ar}{v:a7}
def get_map{a:cm}{Q:bg}(X:K.In s.heap)(I:uS s.heap x P C mA)(g:plainGet K C W=af)(e:hasDictIn K C=af)
  (i:PySem.W.findIn K (.ref C) W=U aG)(c:mA W=U v)(b:handedIn v=af)(h:Q v {s with toks:=s.toks+1}):
  wpAny (model T w) A (getAttr (.ref x) W a) Q E s:=by
 obtain⟨j,J,d⟩:=I.look;exact PySem.W.get_value X J (yp g).1 (findObj_own e i rfl (by rw[d,c])) b h
def ZeJ(X:K.In s.heap)(I:uS s.heap x P C mA)(a:plainGet K C W=af)
  (g:PySem.W.findIn K (.ref C) W=U (U (.ref f)))(d:isFn K (.ref f)=af)(c:mA W=aG)(h:Q (.ref f,[.ref x]) s):
  wpAny (model T w) A (getMethod (.ref x) W i) Q E s:=by
 obtain⟨b,J,e⟩:=I.look;exact PySem.W.method_fn X J (yp a).1 (yp a).2 g (beq_iff_eq.mp d) (by show(lookIn W b).map (·.isSome)=U a8;rw[e,c];rfl) h
def Zf2{d:O ar}{Q:Unit->cb->Prop}(X:K.In s.heap)(I:uS s.heap x P C mA)
  (k:PySem.W.findIn K (.ref C) "__setattr__"=U (U (.builtin "object.__setattr__")))(l:plainOver K C=af)(i:takerIn K C W=U aG)(m:hasDictIn K C=af)
  (g:PySem.Within mA d)(j:d.length<=sizeLine)
  (h:∀a,uS a x P C (λy=>if y=W then U v else mA y)->Heap.SameBut P s.heap a->Q () {s with heap:=a,toks:=s.toks+2}):
  wpAny (model T w) A (setAttr (.ref x) W v) Q E s:=by
 obtain⟨t,J,z⟩:=I.look;refine set_plain X J k (PySem.W.osa_open X J l i λb=>?_);obtain⟨B,n,o⟩:=tX m;refine bo (cq (bo (bo (tQ I.obj (bo (PySem.W.Looks.here (PySem.W.looks_clsIn X n) ?_))))));rw[o];refine cq (bo (cq (bo (wh I.ns λa e c=>?_))));obtain⟨u,F,D,r,q,p⟩:=e.count (vG W v g);exact bo (vH r (by exact q▸vI (Yz p (by rw[Wi];exact Nat.add_le_add j (by decide)))) (cq (h _ ⟨(c.2 _ (jm I.ne)).trans I.obj,e,I.ne⟩ c)))
def ZeK{R:Result->cb->Prop}{b:O a7}{c:O (ar×a7)}(X:K.In s.heap)(e:makesIn K C=af)
  (i:PySem.W.findIn K (.ref C) "__init__"=U (U (.ref f)))(j:typeIn K (.ref f)=U (.type "function"))
  (h:codeAny (model T w) (A.under (.builtin "type.__call__" ⟨.ref C::b,c⟩)) (.call (.ref f) ⟨.ref (s.heap.objs.size+1)::b,c⟩) (PySem.W.InitBack (s.heap.objs.size+1) R)
   {s with heap:=(s.heap.push emptyDict).push (instObj C s.heap.objs.size)}):
  codeAny (model T w) A (.call (.ref C) ⟨b,c⟩) R s:=by
 obtain⟨k,g,d,t,os⟩:=s;exact PySem.W.make_core (PySem.W.makes_of X e) (PySem.W.looks_findIn X i) (λa=>PySem.W.bind_fn X a j) (.inl rfl) h
end
def cS(f:ar)(v:V):O (ar×V)->O (ar×V)
 |[]=>[(f,v)]
 |(g,x)::r=>if g=f then(g,v)::r else(g,x)::cS f v r
theorem GI(f g:ar)(v:V):∀fs:O (ar×V),(cS f v fs).lookup g=if g=f then U v else fs.lookup g
 |[]=>by
  show List.lookup g [(f,v)]=_
  grind
 |(k,x)::r=>by
  have a:=GI f g v r;rw[show cS f v ((k,x)::r)=(if k=f then(k,v)::r else(k,x)::cS f v r) from rfl]
  grind
theorem zk(f:ar)(v:V):∀fs:O (ar×V),f∈(cS f v fs).map (·.1)/\∀g,g∈fs.map (·.1)->g∈(cS f v fs).map (·.1)
 |[]=>⟨by simp[cS],λg h=>by simp at h⟩
 |(k,x)::r=>by
  obtain⟨b,a⟩:=zk f v r;rw[show cS f v ((k,x)::r)=(if k=f then(k,v)::r else(k,x)::cS f v r) from rfl]
  grind
theorem GJ(f:ar)(v:V):∀fs:O (ar×V),(cS f v fs).length<=fs.length+1
 |[]=>by simp[cS]
 |(k,x)::r=>by
  have a:=GJ f v r;rw[show cS f v ((k,x)::r)=(if k=f then(k,v)::r else(k,x)::cS f v r) from rfl]
  (split<;>simp_all)
theorem fh.some_of(r:fh (U v) o):∃u,o=U u/\RelV v u:=by
 cases o with
 |none=>exact(r).elim
 |some u=>exact⟨u,rfl,r⟩
theorem fh.none_of(r:fh aG o):o=aG:=by
 cases o with
 |none=>rfl
 |some u=>exact(r).elim
theorem Pl(r:RelV v u):handedIn u=af:=by
 cases v with
 |aE=>cases(r);rfl
 |bl b=>cases(r);rfl
 |int i=>obtain⟨t,e⟩:=(show ∃t,u=Value.int i t from r);cases e;rfl
 |str x=>obtain⟨t,e⟩:=(show ∃t,u=Value.str x t from r);cases e;rfl
 |kI b=>obtain⟨t,e⟩:=(show ∃t,u=Value.bytes b t from r);cases e;rfl
 |vd b=>obtain⟨t,e⟩:=(show ∃t,u=Value.float b t from r);cases e;rfl
 |ref a=>cases(r);rfl
 |ty n=>cases(r);rfl
def Ce(i:dw P w H h)(e:H a=U (.ins C c fs)):∃b,uS h a c C b/\(∀f,fh (fs.lookup f) (b f))/\PySem.Within b (fs.map (·.1))/\fs.length<=1000/\H c=U (.own a):=by
 obtain⟨d,z,ne,g,b,n,r,q⟩:=(i a _ e);exact⟨b,⟨g,n,ne⟩,r,q,z,d⟩
structure gZ(K:ah)(C:Z):Prop where
 pg:plainGet K C Str.empty=af
 hd:hasDictIn K C=af
 po:plainOver K C=af
 sa:PySem.W.findIn K (.ref C) "__setattr__"=U (U (.builtin "object.__setattr__"))
def gZ.get{K:ah}(c:gZ K C)(f:ar):plainGet K C f=af:=c.pg
def c9(K:ah)(C:Z)(f:ar):Prop:=PySem.W.findIn K (.ref C) f=U aG
def c9.ZiS{K:ah}(n:c9 K C f):takerIn K C f=U aG:=by
 unfold takerIn;rw[n];rfl
structure Meth(K:ah)(C:Z)(m:ar)(f:Z):Prop where
 at_:PySem.W.findIn K (.ref C) m=U (U (.ref f))
 fn:isFn K (.ref f)=af
 kp:keepIn K (.ref f)=af
def ZcJ(I:Inv X pins σ H s)(e:H a=U (.ins C m fs))(c:gZ X.K C)(n:c9 X.K C f)(l:fs.lookup f=U v)
  (h:∀u g,Inv X pins σ H g->RelV v u->Q u g):wpAny X.md A (getAttr (.ref a) f b) Q E s:=by
 obtain⟨k,d,r,_,_,_⟩:=Ce I.ay e;obtain⟨u,j,i⟩:=fh.some_of (by exact l▸r f);exact get_map I.cD d (c.get f) c.hd n j (Pl i) (h u _ (I.tok _) i)
def Hj(I:Inv X pins σ H s)(e:H a=U (.ins C i fs))(c:gZ X.K C)(k:Meth X.K C m g)(l:fs.lookup m=aG)
  (h:Q (.ref g,[.ref a]) s):wpAny X.md A (getMethod (.ref a) m d) Q E s:=by
 obtain⟨f,b,r,_,_,_⟩:=Ce I.ay e;exact ZeJ I.cD b (c.get m) k.at_ k.fn (fh.none_of (by exact l▸r m)) h
def OI(I:Inv X pins σ H s)(e:H a=U (.ins C x fs))(c:gZ X.K C)(n:c9 X.K C f)(F:fs.length<1000)(B:RelV y u)
  (h:∀k,Inv X pins σ (upd H a (.ins C x (cS f y fs))) k->Q () k):wpAny X.md A (setAttr (.ref a) f u) Q E s:=by
 obtain⟨D,d,r,j,_,p⟩:=Ce I.ay e;have m:(fs.map (·.1)).length<=sizeLine:=by rw[Ya,dU];exact uY (pq F (by decide))
 refine Zf2 I.cD d c.sa c.po n.ZiS c.hd j m λG i l=>h _ (I.write (by exact e▸ik) (.inr p) (λb q v z=>(l.2 b v).trans z) (let⟨o,_,_,w,_⟩:=i.ns;⟨o,w⟩) ⟨by rwa[aK d.ne],?_,d.ne,i.obj,_,i.ns,λg=>?_,λg t=>?_⟩);·have:=GJ f y fs;exact lg this (sm F)
 ·rw[GI];by_cases q:g=f;·rwa[bS q,bS q]
  ·grind
 ·by_cases q:g=f;·exact q▸(zk f y fs).1
  ·refine(zk f y fs).2 g (j g λz=>t ?_)
   grind
def Inv.made(I:Inv X pins σ H s):Inv X pins σ (upd (upd H s.heap.objs.size (.own (s.heap.objs.size+1))) (s.heap.objs.size+1) (.ins C s.heap.objs.size []))
  {s with heap:=(s.heap.push emptyDict).push (instObj C s.heap.objs.size)}:=by
 have c:(s.heap.push emptyDict).get? s.heap.objs.size=U emptyDict:=Yp s.heap rfl;have g:((s.heap.push emptyDict).push (instObj C s.heap.objs.size)).get? (s.heap.objs.size+1)=U (instObj C s.heap.objs.size):=by
  have:=Yp (s.heap.push emptyDict) (o:=instObj C s.heap.objs.size) rfl
  rwa [Jm] at this
 have f:(s.heap.push emptyDict).Ns s.heap.objs.size (λ_=>aG):=⟨emptyDict,#[],_,c,rfl,(λe d=>absurd d QS),λ_=>rfl⟩;have h:=I.laid (a:=s.heap.objs.size) (o:=.own (s.heap.objs.size+1)) (h':=s.heap.push emptyDict) (t':=s.toks) (λb u q=>Yb _ q) (Yd _) ⟨_,c⟩;refine h.laid (λb u q=>Yb _ q) (Ml (Jm _ _)) ?_;have ne:s.heap.objs.size≠s.heap.objs.size+1:=Yy (Jk _);refine⟨by rw[aK ne,aU],Yx _,ne,g,λ_=>aG,(TF f).at λ o=>Yb _,λ_=>ik,λ y=>absurd rfl⟩
def Rw(a:attributeBase e f env (eval e env)=eval e env)
  (h:wpAny (model prog w) A (eval e env) (λo b=>wpAny (model prog w) A (getAttr o f af) Q E b) E s):wpAny (model prog w) A (eval (.Attribute e f pos) env) Q E s:=
 Attribute_any_ h (by rw[arm_eval_Attribute,a])
inductive S3(K:ah)(f:ar)(Q:VK)(x:V)(b:Hp):Prop
 |mk (a C c fs v) (i:x=.ref a) (j:b a=U (.ins C c fs)) (g:gZ K C) (h:c9 K C f) (e:fs.lookup f=U v) (d:Q v b):S3 K f Q x b
def LC(K:ah)(b:TE)(f:ar):TE:=λa H Q=>b a H λx c=>S3 K f Q x c
def ZjK(K:ah)(g e:TE)(f:ar):TS:=λD b H=>e b H λy h=>g b h λx d=>∃a C c fs,x=.ref a/\d a=U (.ins C c fs)/\gZ K C/\c9 K C f/\fs.length<1000/\
 D.nx b (upd d a (.ins C c (cS f y fs)))
def Zhn(m:PE X e i)(o:attributeBase e f X.env (eval e X.env)=eval e X.env):PE X (.Attribute e f pos) (LC X.K i f):=by
 intro b s d H Q I h;refine Rw o (aA (m b s d H _ I h) λu B g=>?_);obtain⟨x,y,w,j,a,C,D,fs,v,p,r,c,n,l,q⟩:=g;subst p;obtain rfl:u=Value.ref a:=j;exact ZcJ w r c n l λz A t k=>⟨v,y,t,k,q⟩
def zI(w:PE X o i)(t:PE X value g)(v:swapsWith value (U (.Attribute o f pos')) pos.line X.env=pure a8):PS X (.Assign [.Attribute o f pos'] value pos) (ZjK X.K i g f):=by
 intro b s d H D I h;refine uZ (aA (t b s d H _ I h) λu j e=>?_) v;obtain⟨y,G,F,k,q⟩:=e;refine aA (w b j d G _ F q) λr L e=>?_;obtain⟨x,P,E,m,a,C,N,fs,z,A,c,n,l,p⟩:=e;subst z;obtain rfl:r=Value.ref a:=m;exact OI E A c n l k λJ B=>⟨d,_,B,p⟩
section
variable {X:Cx}{W:a9}{σ:St}{H:Hp}{s:cb}{A:fI}{E:bg}{Q:bg}{c:a7}{b:cm}
inductive jY(K:ah)(H:Hp):V->a7->Prop where
 |aE:jY K H .aE (.type "NoneType")
 |bl (x:cm):jY K H (.bl x) (.type "bool")
 |int (i:Int):jY K H (.int i) (.type "int")
 |str (x:ar):jY K H (.str x) (.type "str")
 |vd (x:UInt64):jY K H (.vd x) (.type "float")
 |lst {a:Z} {f:O V} (e:H a=U (.lst f)):jY K H (.ref a) (.type "list")
 |bU {a:Z} {o:Obj} {f:O V} (e:H a=U (.bU o (.lst f))):jY K H (.ref a) (.type "list")
 |tup {a:Z} {f:O V} (e:H a=U (.tup f)):jY K H (.ref a) (.type "tuple")
 |dK {a:Z} {d:O (Key×V)} (e:H a=U (.dK d)):jY K H (.ref a) (.type "dict")
 |dT {a:Z} {d:O (O Key×V)} (e:H a=U (.dT d)):jY K H (.ref a) (.type "dict")
 |ins {a C g:Z} {fs:O (ar×V)} (e:H a=U (.ins C g fs)) (j:gZ K C) (h:PySem.W.findIn K (.ref C) "__class__"=U (U (.builtin "object.__class__")))
   (hn:specialIn K (.builtin "object.__class__") "__get__"=U (U (.builtin "getset_descriptor.__get__"))) (WQ:takesIn K (.builtin "object.__class__")=U af)
   (hm:PySem.W.mroIn K C (.type "object")=U af):jY K H (.ref a) (.ref C)
theorem ZdK{x:V}{u t:a7}(I:Inv X W σ H s)(f:RelV x u)(r:jY X.K H x t)(e:kitOne X.K t c=U b)(h:∀v,Q (.bool b) {s with toks:=v}):
  wpAny X.md A (call (.builtin "isinstance") [u,c]) Q E s:=by
 cases r with
 |aE=>cases(show u=Value.none from f);exact jH PySem.W.kitx_none I.cD ik e (λz=>nomatch z) h
 |bl y=>cases(show u=Value.bool y from f);exact jH PySem.W.kitx_bool I.cD ik e (λz=>nomatch z) h
 |int i=>obtain⟨t,q⟩:=(show ∃t,u=Value.int i t from f);cases q;exact jH PySem.W.kitx_int I.cD ik e (λz=>nomatch z) h
 |str y=>obtain⟨t,q⟩:=(show ∃t,u=Value.str y t from f);cases q;exact jH PySem.W.kitx_str I.cD ik e (λz=>nomatch z) h
 |vd y=>obtain⟨t,q⟩:=(show ∃t,u=Value.float y t from f);cases q;exact jH PySem.W.kitx_float I.cD ik e (λz=>nomatch z) h
 |@lst a l g=>
  cases(show u=Value.ref a from f);obtain⟨_,_,n,_,j⟩:=(show cP X.prog X.w H s.heap a (.lst l) from I.ay a _ g);exact jH kitx_list I.cD ⟨_,j,rfl⟩ e (λz=>nomatch z) h
 |@bU a w l g=>
  cases(show u=Value.ref a from f);obtain⟨_,_,_,n,_,j⟩:=(show cP X.prog X.w H s.heap a (.bU w (.lst l)) from I.ay a _ g);exact jH kitx_list I.cD ⟨_,j,rfl⟩ e (λz=>nomatch z) h
 |@tup a l g=>
  cases(show u=Value.ref a from f);obtain⟨_,_,_,p⟩:=(show cP X.prog X.w H s.heap a (.tup l) from I.ay a _ g);obtain⟨o,j,m,_⟩:=p;exact jH PySem.W.kitx_tuple I.cD ⟨o,j,m⟩ e (λz=>nomatch z) h
 |@dK a k g=>
  cases(show u=Value.ref a from f);obtain⟨_,_,N,_,p⟩:=(show cP X.prog X.w H s.heap a (.dK k) from I.ay a _ g);obtain⟨o,F,G,j,m,_⟩:=p;exact jH kitx_dict I.cD ⟨o,j,m.1⟩ e (λz=>nomatch z) h
 |@dT a k g=>
  cases(show u=Value.ref a from f);obtain⟨_,_,l,_,o,F,G,j,m,_⟩:=(show cP X.prog X.w H s.heap a (.dT k) from I.ay a _ g);exact jH kitx_dict I.cD ⟨o,j,m.1⟩ e (λz=>nomatch z) h
 |@ins a C T fs g cl D B L hm=>
  cases(show u=Value.ref a from f);obtain⟨R,d,_⟩:=Ce I.ay g;obtain⟨P,J,_⟩:=d.look;exact jH (PySem.W.kitx_own (cl.get _) cl.hd D B L hm) I.cD J e (λz=>nomatch z) h
end
structure cK(k:Nat)(A:fI):Prop where
 hd:A.handled=aG
 dp:A.depth+3*k+5<recursionLimit
 un:A.units+16*k+200<cLine
 gd:A.guards=U []
def cK.mono(r:cK k A)(h:j<=k):cK j A:=⟨r.hd,by have:=r.dp;omega,by have:=r.un;omega,r.gd⟩
def cK.deeper(r:cK (k+1) A)(a:Env):cK k (A.deeper a):=
 ⟨r.hd,by have:=r.dp;show A.depth+1+3*k+5<_;omega,by have:=r.un;show A.units+3+16*k+200<_;omega,r.gd⟩
def ZcK{A:fI}:(A.under (.builtin "type.__call__" ⟨.ref C::us,kw⟩)).depth=A.depth+1:=by
 rfl
def ZcL{A:fI}:(A.under (.builtin "type.__call__" ⟨.ref C::us,kw⟩)).units=A.units+1:=by
 rfl
def cK.make(r:cK (k+1) A)(C:Z)(a:O a7)(b:O (ar×a7)):cK k (A.under (.builtin "type.__call__" ⟨.ref C::a,b⟩)):=
 ⟨r.hd,by have:=r.dp;rw[ZcK];omega,by have:=r.un;rw[ZcL];omega,by first|exact r.gd|simpa[Around.under,Code.isGuard,Code.isFrame,guardIds] using r.gd⟩
def cK.depth(r:cK k A):A.depth<recursionLimit:=by have:=r.dp;omega
def cK.units(r:cK k A):A.units+64<cLine:=by have:=r.un;omega
def cK.r8(r:cK k A):A.units<cLine:=by have:=r.un;omega
def jZ:TA:=λ_ H Q=>Q [] H
def iI(d:TE)(c:TA):TA:=λa H Q=>d a H λx f=>c a f λb e=>Q (x::b) e
section
variable {X:Cx}{e:cM}{W:O cM}{T:TE}{t:TA}
def ae:PA X [] jZ:=λ_ _ _ _ H Q I h=>pU ⟨[],H,I,.nil,h⟩
def aa(n:PE X e T)(m:PA X W t)(l:jb X e W:=by rfl):PA X (e::W) (iI T t):=by
 intro b a s c H Q I h;exact l▸nA (aA (n a s c H _ I h) λu f ⟨x,r,p,i,k⟩=>aA (m b a f c r _ p k) λv w ⟨d,q,o,g,j⟩=>⟨x::d,q,o,.cons i g,j⟩)
def ZjL(t:TA):TE:=λc H Q=>t c H λa b=>a.length<=sizeLine/\∀p,b p=aG->Q (.ref p) (upd b p (.lst a))
def zJ(h:PA X W t):PE X (.List W pos) (ZjL t):=by
 intro a s f H Q I j;refine LG (aA (h pos a s f H _ I j) λi c ⟨g,k,d,r,z,q⟩=>⟨by rwa[←r.length],⟨.ref c.heap.objs.size,upd k c.heap.objs.size (.lst g),d.laid (λ b u=>Yb _) (Yd _) ?_,rfl,q _ (d.ay.fresh (Yd _))⟩⟩);exact⟨z,i,0,r,Yp _ rfl⟩
end
abbrev Sp:=O V->Hp->VK->XK->Prop
abbrev lG:=O Env->Hp->cb->XK->a7->cb->Prop
structure uU(P:dv)(w:dg)(K:ah)(mg:aS)(base:cO)(A:fI)(outer:O Env)(s:cb)(H:Hp):Prop where
 frames:A.frames=U outer
 mod:Mod K mg base
 bs:∀b o,base.get? b=U o->s.heap.get? b=U o/\H b=aG
 oa:base.objs.size<=s.heap.objs.size
 kB:s.heap.FunFrames base outer
 qM:∀b∈cX outer,H b=aG
 ay:dw P w H s.heap
 bare:AllBare s.gens
def CE(a:O Env)(P:dv)(w:dg)(H:Hp)(s:cb)(Q:VK)(u:a7)(b:cb):Prop:=
 ∃v c,b.os=s.os/\AllBare b.gens/\Un (cX a) [] H c s.heap b.heap/\dw P w c b.heap/\RelV v u/\Q v c
def CR(c:lG)(a:O Env)(P:dv)(w:dg)(H:Hp)(s:cb)(Q:VK)(E:XK)(r:Result)(b:cb):Prop:=
 match r with
 |.ok (.ret u)=>CE a P w H s Q u b
 |.ok _=>False
 |.error e=>c a H s E e b
structure aB(P:dv)(w:dg)(K:ah)(mg:aS)(base:cO)(CX:lG)(k:Nat)(f:Z)(fd:FuncData)(ps:O ar)(sp:Sp):Prop where
 len:∀vs H Q E,sp vs H Q E->vs.length=ps.length
 run:∀(A:fI) (outer:O Env) (s:cb) (H:Hp) (args:Args) (us:O a7) (vs:O V) (Q:VK) (E:XK),cK k A->uU P w K mg base A outer s H->BindsTo s fd args (ps.zip us)->Vals vs us->sp vs H Q E->
  codeAny (model P w) A (.call (.ref f) args) (CR CX outer P w H s Q E) s
def uU.make{K:ah}(e:uU P w K b base A outer s H)(C:Z)(a:O a7)(c:O (ar×a7)):
  uU P w K b base (A.under (.builtin "type.__call__" ⟨.ref C::a,c⟩)) outer s H:=⟨by first|exact e.frames|(simpa[Around.under,Code.envs,Code.isFrame,pushEnvs] using e.frames),e.mod,e.bs,e.oa,e.kB,e.qM,e.ay,e.bare⟩
def Inv.C6(I:Inv X pins σ H s):uU X.prog X.w X.K X.mg X.base X.A X.stack s H:=
 ⟨I.ok.frames,I.ok.mod,I.bs,Yz I.ok.oa I.sz,I.stack,I.Ca,I.ay,I.bare⟩
def Inv.after(I:Inv X pins σ H s)(h:CE X.stack X.prog X.w H s Q u s'):EP X pins σ Q u s':=by
 obtain⟨v,e,os,a,un,c,r,q⟩:=h;obtain⟨i,g,d,t,f⟩:=s';obtain rfl:f=s.os:=os;exact⟨v,e,I.call un c a (λb z=>absurd z QS),r,q⟩
def CP(c:Sp)(d:O V)(E:XK)(t:TA):TE:=λa H Q=>t a H λb e=>c (b++d) e Q E
def CQ(C:Z)(m:ar)(f:Sp)(h:O V)(E:XK)(e:TE)(t:TA):TE:=λb H Q=>e b H λx c=>∃a g fs,x=.ref a/\c a=U (.ins C g fs)/\fs.lookup m=aG/\
 t b c λd i=>f (x::(d++h)) i Q E
def Us(C:Z)(e:Sp)(f:O V)(E:XK)(t:TA):TE:=λc H Q=>t c H λd b=>∀x a,b x=aG->b a=aG->a≠x->
 e (.ref x::(d++f)) (upd (upd b a (.own x)) x (.ins C a [])) (λv g=>v=.aE/\Q (.ref x) g) E
def Binds(K:ah)(d:FuncData)(b:O ar)(c:O a7):Prop:=
 ∀(s:cb) (a:O a7),K.In s.heap->(a++c).length=b.length->BindsTo s d ⟨a,[]⟩ (b.zip (a++c))
def Binds.all{K:ah}(h:∀a:O a7,a.length=b.length->bindArgs fd ⟨a,[]⟩=pure (b.zip a)):Binds K fd b []:=λs a _ c=>by
 rw[We] at c⊢;exact .of_eq (h a c)
def Passes(d:lG)(X:Cx)(E:XK):Prop:=∀(a:a9) (c:St) (H:Hp) (s:cb) (e:a7) (b:cb),Inv X a c H s->d X.stack H s E e b->X.xe e b
section
variable {X:Cx}{G:lG}{k:Nat}{f C:Z}{L:FuncData}{ps:O ar}{J:Sp}{N:O V}{R:O a7}{E:XK}{x m:ar}{p W T:Pos}{e o:cM}{P:O cM}{D:TE}{t:TA}
theorem Cu(F:aB X.prog X.w X.K X.mg X.base G k f L ps J)(g:cK k X.A)(l:Binds X.K L ps R)(j:Vals N R)(d:Passes G X E)
  (I:Inv X pins σ H s)(r:Vals vs us)(h:J (vs++N) H Q E):wpAny X.md X.A (call (.ref f) us) (EP X pins σ Q) X.xe s:=by
 have b:=r.append j;have i:(us++R).length=ps.length:=by exact b.length▸F.len _ _ _ _ h
 refine mz (mh (F.run X.A X.stack s H ⟨us,[]⟩ (us++R) (vs++N) Q E g I.C6 (l s us I.cD i) b h) λr c a=>?_);cases r with
 |error e=>exact d pins σ H s e c I a
 |ok n=>
  cases n with
  |ret u=>exact I.after a
  |next=>exact False.elim a
  |brk=>exact False.elim a
  |cont=>exact False.elim a
def Zf3(F:aB X.prog X.w X.K X.mg X.base G k f L ps J)(g:cK k X.A)(l:Gl X x)(i:X.mg x=U (.ref f))(j:keepIn X.K (.ref f)=af)(v:Binds X.K L ps R)(u:Vals N R)(d:Passes G X E)
  (w:PA X (e::P) t)(y:(x==("__debug__":ar))=a8:=by decide)(n:jb X e P:=by rfl)(z:jE X W P:=by rfl):
  PE X (.Call (.Name x p) (e::P) [] W) (CP J N E t):=by
 intro a s c H Q I h;exact oz (uj I l i (nS I.ok.mod.n_ j (aA (w W a s c H _ I h) λB s1 ⟨A,H1,b,r,q⟩=>⟨b.cD,Cu F g v u d b r q⟩) n z) y)
def Zf4{B:Sem cm}(he:PE X o D)(c:gZ X.K C)(i:Meth X.K C m f)(F:aB X.prog X.w X.K X.mg X.base G k f L ps J)(hr:cK k X.A)(hb:Binds X.K L ps R)(hd:Vals N R)(hx:Passes G X E)(ha:PA X (e::P) t)
  (dB:jb X e P:=by rfl)(cz:jE X W P:=by rfl)
  (ht:eval (.Call (.Attribute o m T) (e::P) [] W) X.env=(do
   let g←eval o X.env
   standAt T.atName
   let(f,first)←holding [g] (getMethod g m B)
   callWith W f first (backTo W (starEach (e::P) X.env)) (backToKw W (keywordEach [] X.env))):=by rfl):
  PE X (.Call (.Attribute o m T) (e::P) [] W) (CQ C m J N E D t):=by
 intro b s d H Q I h;refine qj (aA (he b s d H _ I h) λu y v=>?_) ht;obtain⟨x,H1,n,z,a,dx,fs,ex,ea,l,q⟩:=v;subst ex;obtain rfl:u=Value.ref a:=z;refine Hj n ea c i l ?_;refine nS I.ok.mod.n_ i.kp (aA (ha W b y d H1 _ n q) λus s2 p=>?_) dB cz;obtain⟨w,H2,j,r,A⟩:=p;refine⟨j.cD,?_⟩;exact Cu (vs:=.ref a::w) F hr hb hd hx j (.cons rfl r) A
def ZeL{v:Sem cm}(A:PE X o D)(c:gZ X.K C)(i:Meth X.K C m f)(F:aB X.prog X.w X.K X.mg X.base G k f L ps J)(z:cK k X.A)(hb:Binds X.K L ps R)(B:Vals N R)(w:Passes G X E)
  (y:eval (.Call (.Attribute o m T) [] [] W) X.env=(do
   let g←eval o X.env
   standAt T.atName
   let(f,first)←holding [g] (getMethod g m v)
   callWith W f first (backTo W (starEach [] X.env)) (backToKw W (keywordEach [] X.env))):=by rfl):
  PE X (.Call (.Attribute o m T) [] [] W) (CQ C m J N E D jZ):=by
 intro b s j H Q I h;refine qj (aA (A b s j H _ I h) λu s1 n=>?_) y;obtain⟨x,H1,d,r,a,dx,fs,ex,ea,l,q⟩:=n;subst ex;obtain rfl:u=Value.ref a:=r;refine Hj d ea c i l ?_;exact PySem.W.callWith_K0 d.cD i.kp (Cu (vs:=[.ref a]) F z hb B w d (.cons rfl .nil) q)
structure Mk(K:ah)(C f:Z):Prop where
 makes:makesIn K C=af
 init:PySem.W.findIn K (.ref C) "__init__"=U (U (.ref f))
 fn:isFn K (.ref f)=af
 kp:keepIn K (.ref C)=af
theorem ZeM(a:Mk X.K C f)(F:aB X.prog X.w X.K X.mg X.base G k f L ps J)(y:cK (k+1) X.A)(B:Binds X.K L ps R)(A:Vals N R)
  (w:Passes G X E)(I:Inv X pins σ H s)(r:Vals g us)
  (h:∀x c,H x=aG->H c=aG->c≠x->J (.ref x::(g++N)) (upd (upd H c (.own x)) x (.ins C c [])) (λv H2=>v=.aE/\Q (.ref x) H2) E):
  wpAny X.md X.A (call (.ref C) us) (EP X pins σ Q) X.xe s:=by
 have j:=h (s.heap.objs.size+1) s.heap.objs.size (I.ay.fresh (yd _)) (I.ay.fresh (Yd _)) (Yy (Jk _));have d:=Inv.made (C:=C) I;have i:Vals (V.ref (s.heap.objs.size+1)::(g++N)) (Value.ref (s.heap.objs.size+1)::(us++R)):=.cons rfl (r.append A);have z:(Value.ref (s.heap.objs.size+1)::us++R).length=ps.length:=by
  have e:=i.length;rw[F.len _ _ _ _ j] at e;exact e.symm
 refine mz (ZeK I.cD a.makes a.init (beq_iff_eq.mp a.fn) (mh (F.run _ X.stack _ _ ⟨Value.ref (s.heap.objs.size+1)::us,[]⟩ (Value.ref (s.heap.objs.size+1)::(us++R)) _ _ E (y.make C us [])
  (d.C6.make C us []) (B _ (Value.ref (s.heap.objs.size+1)::us) d.cD z) i j) λr l b=>?_))
 cases r with
 |error e=>exact w pins σ _ _ e l d b
 |ok fl=>
  cases fl with
  |ret u=>
   obtain⟨v,H',I3,n,ev,q⟩:=d.after b;subst ev;exact⟨n,⟨V.ref (s.heap.objs.size+1),H',I3,rfl,q⟩⟩
  |next=>exact False.elim b
  |brk=>exact False.elim b
  |cont=>exact False.elim b
def Zf5(a:Mk X.K C f)(F:aB X.prog X.w X.K X.mg X.base G k f L ps J)(i:cK (k+1) X.A)(l:Gl X x)(j:X.mg x=U (.ref C))(v:Binds X.K L ps R)(u:Vals N R)(g:Passes G X E)
  (w:PA X (e::P) t)(y:(x==("__debug__":ar))=a8:=by decide)(n:jb X e P:=by rfl)(z:jE X W P:=by rfl):
  PE X (.Call (.Name x p) (e::P) [] W) (Us C J N E t):=by
 intro b s d H Q I h;exact oz (uj I l j (nS I.ok.mod.n_ a.kp (aA (w W b s d H _ I h) λB s1 D=>by obtain⟨A,H1,c,r,q⟩:=D;exact⟨c.cD,ZeM a F i v u g c r q⟩) n z) y)
end
structure aP(N P:O ar)(sc:Scope):Prop where
 kind:sc.kind=.function
 co:sc.isCoroutine=a8
 gen:sc.isGenerator=a8
 nd:N.Nodup
 pre:N.take P.length=P
 par:∀x∈P,sc.names.lookup x=U .local\/sc.names.lookup x=U .cell
 Zho:∀y∈sc.names,y.2≠.free
theorem Pm{a:ar->bR NameKind}{x:ar}:∀{binds:O (ar×a7)} {m:aS},(∀v,(x,v)∉binds)->bindL a binds m x=m x
 |[],_,_=>rfl
 |(n,v)::r,m,h=>by
  unfold bindL;rw[Pm λw b=>h w (Yw _ b)];split;·grind
  ·rfl
theorem Pn{a:ar->bR NameKind}{x:ar}:∀{binds:O (ar×a7)} {m:aS},(∀v,(x,v)∉binds)->bindC a binds m x=m x
 |[],_,_=>rfl
 |(n,v)::r,m,h=>by
  unfold bindC;rw[Pn λw b=>h w (Yw _ b)];split;·rfl
  ·grind
theorem Po{a:ar->bR NameKind}{x:ar}{v:a7}:∀{P:O ar} {b:O a7} {i:Nat} {m:aS},P.Nodup->P[i]?=U x->b[i]?=U v->a x=U .local->
  bindL a (P.zip b) m x=U v
 |[],_,_,_,_,h,_,_=>by simp at h
 |_::_,[],_,_,_,_,h,_=>by simp at h
 |p::P,w::b,0,m,e,d,c,f=>by
  simp at d c;subst d;subst c;show bindL a ((p,w)::P.zip b) m p=_;unfold bindL;rw[Pm λv g=>(Y0.mp e).1 (Mm g).1,bS f];simp
 |p::P,w::b,i+1,m,e,d,c,f=>by
  unfold bindL;exact Po (Y0.mp e).2 (by simpa using d) (by simpa using c) f
theorem Pp{a:ar->bR NameKind}{x:ar}{v:a7}:∀{P:O ar} {b:O a7} {i:Nat} {m:aS},P.Nodup->P[i]?=U x->b[i]?=U v->a x≠U .local->
  bindC a (P.zip b) m x=U v
 |[],_,_,_,_,h,_,_=>by simp at h
 |_::_,[],_,_,_,_,h,_=>by simp at h
 |p::P,w::b,0,m,e,d,c,f=>by
  simp at d c;subst d;subst c;show bindC a ((p,w)::P.zip b) m p=_;unfold bindC;rw[Pn λv g=>(Y0.mp e).1 (Mm g).1,bt f];simp
 |p::P,w::b,i+1,m,e,d,c,f=>by
  unfold bindC;exact Pp (Y0.mp e).2 (by simpa using d) (by simpa using c) f
def start(N:O ar)(a:O V):St:=a.map U++List.replicate (N.length-a.length) aG
def lC(g:lG)(P:dv)(w:dg)(K:ah)(mg:aS)(base:cO)(N:O ar)(b:ar)(a:Scope)(f:Z)(c:a7)(A:fI)(outer:O Env)(s:cb)(H:Hp)(E:XK):Cx where
 prog:=P
 w:=w
 K:=K
 mg:=mg
 base:=base
 A:=A.deeper (envOfC b a s.heap.objs.size f c)
 N:=N
 di:=s
 kA:=H
 env:=envOfC b a s.heap.objs.size f c
 outer:=outer
 stack:=envOfC b a s.heap.objs.size f c::outer
 ex:=[]
 calm:=af
 fn:=λ_=>af
 pn:=[]
 xe:=λe h=>wpAny (model P w) (A.deeper (envOfC b a s.heap.objs.size f c)) (leaving (envOfC b a s.heap.objs.size f c) e) (λ_ d=>g outer H s E e d) (λi d=>g outer H s E i d) h
def Qf{a:Scope}(h:a.names.lookup x=U .cell):∃c,(cellsFrom n a.names []).lookup x=U c:=by
 exact Je.mp (Xj a.names n [] (.inl h))
theorem ZdL{K:ah}
  (d:aP N l scope)(Q:A.handled=aG)(g:uU P w K C base A outer s H)(L:m.length=l.length)(r:Vals m us)
  (x:InCallC s s.heap.objs.size (bindL (envOfC qual scope s.heap.objs.size f cd).kindOf (l.zip us) λ_=>aG) (cellsFrom (s.heap.objs.size+1) scope.names []) (bindC (envOfC qual scope s.heap.objs.size f cd).kindOf (l.zip us) λ_=>aG) s1):
  Inv (lC T P w K C base N qual scope f cd A outer s H E) [] (start N m) H s1:=by
 have cz:l.length<=N.length:=by have:=eH List.length d.pre;rw[Wb] at this;omega
 obtain⟨B,W,rfl,F⟩:=x.done;have t:∀b:Z,b∉(lC T P w K C base N qual scope f cd A outer s H E).ex:=λb z=>absurd (show b∈([]:O Z) from z) QS;refine⟨⟨g.mod,d.kind,rfl,rfl,Yd _,λy z c B o=>?_,λy j=>?_,λy c _ h=>?_,λ_=>Q,Around.frames_deeper g.frames,.inr ⟨rfl,rfl⟩,λb z=>absurd z (t b),g.bs,g.oa,λb _ _=>t b,λb z=>absurd z (t b),g.kB,g.qM⟩,
  rfl,g.bare,Un.kept F,⟨_,x.toInCall.ns,λi y v B o X=>?_⟩,λy c h=>⟨_,x.cell y c h⟩,g.ay.fresh (Yd _),λy c h=>?_,λp n=>absurd (show p∈([]:a9) from n) QS,g.ay.kept F,?_⟩
 ·exact name_of_addr x.apart (pT B) (pT o)
 ·have j:=j;rcases j with j|j;·exact Qf j
  ·exact absurd rfl (d.Zho _ (pT j))
 ·exact Jo (x.above y c (pT h))
 ·have G:i<m.length:=by
   unfold start at o
   grind
  have R:m[i]?=U v:=by
   unfold start at o;rw[Wg (by simpa using G),Ye] at o;cases e:m[i]? with
   |none=>simp_all
   |some a=>simp_all
  obtain⟨u,D,J⟩:=r.get R;have n:l[i]?=U y:=by
   rwa[←d.pre,AN (hT G (jn L))]
  have I:l.Nodup:=by exact d.pre▸d.nd.sublist (List.take_sublist _ _)
  refine⟨u,J,?_⟩;rcases d.par y (Yg n) with k|k;·exact .inl ⟨k,Po I n D k⟩
  ·obtain⟨c,e⟩:=Qf k;refine .inr ⟨.inl k,c,e,?_⟩;have q:=x.cell y c e;rw[Pp I n D (by show scope.names.lookup y≠_;rw[k];decide)] at q;exact q
 ·exact g.ay.fresh (Jo (x.above y c (pT h)))
 ·unfold start;show _=N.length
  simp_all
theorem La{T:lG}{P:dv}{w:dg}{K:ah}{L:aS}{i:cO}{k:Nat}{f:Z}{m g:ar}{h:Arguments}{j:O cj}{c:Scope}{dV kV F pm z ct oc:a7}{an od:bR Z}
  {jF:dt (bR a7)}{N G:O ar}{sp:Sp}(lk:K.lookup f=U ⟨oc,od,.func (fnOf m g h j c dV kV F pm an z ct),jF⟩)(fZ:codeIn K z g=af)(a:aP N G c)
  (C:∀l H Q E,sp l H Q E->l.length=G.length)
  (qA:∀(A:fI) (d:O Env) (s:cb) (H:Hp) (l:O V) (Q:VK) (E:XK),cK k (A.deeper (envOfC g c s.heap.objs.size f z))->sp l H Q E->
   ∃t,fQ (lC T P w K L i N g c f z A d s H E) j t/\t {nx:=λ_ p=>Q .aE p,rt:=Q} (start N l) H):
  aB P w K L i T (k+1) f (fnOf m g h j c dV kV F pm an z ct) G sp:=by
 refine⟨C,λA d s H args us l Q E hr D hb r mZ=>?_⟩;have hl:=C _ _ _ _ mZ;have KX:K.In s.heap:=D.mod.n_.keeps λb o e=>(D.bs b o e).1;have X:s.heap.NoLimit:=D.mod.nolimit.keeps λb o e=>(D.bs b o e).1;have ZiT:∀y∈G.zip us,c.names.lookup y.1=U .local\/(c.names.lookup y.1=U .cell/\((cellsFrom (s.heap.objs.size+1) c.names []).lookup y.1).isSome=af):=λ⟨n,v⟩ hy=>by
  rcases a.par n (Mm hy).1 with q|q;·exact .inl q
  ·exact .inr ⟨q,Xj _ _ _ (.inl q)⟩
 refine codeAny_call_function hr.depth (KX _ _ lk) rfl a.co a.gen rfl (PySem.W.codeRec_of KX fZ) (hb _ _ _ _ ?_);refine wpAny_newFunctionEnv_cells a.kind ZiT λenv he s1 x=>?_;subst he;refine⟨X.keeps x.toInCall.keep,codeAny_func ?_⟩;obtain⟨t,ht,hq⟩:=qA A d s H l Q E (hr.deeper _) mZ;have I:Inv (lC T P w K L i N g c f z A d s H E) [] (start N l) H s1:=ZdL a hr.hd D hl r x;refine eF (ht [] s1 (start N l) H _ I hq) (λfl s' B=>?_) λe s' B=>B;have fin:∀{R:St} {p:Hp} {v:V} {u:a7},Inv (lC T P w K L i N g c f z A d s H E) [] R p s'->RelV v u->Q v p->CE d P w H s Q u s':=
  λ{R p v u} J W q=>⟨v,p,J.os,J.bare,J.base,J.ay,W,q⟩
 cases fl with
 |ret u=>
  obtain⟨v,R,p,J,W,q⟩:=B;exact fin J W q
 |next=>
  obtain⟨R,p,J,q⟩:=B;exact fin (v:=V.aE) (u:=Value.none) J rfl q
 |brk=>
  obtain⟨_,_,_,q⟩:=B;exact False.elim q
 |cont=>
  obtain⟨_,_,_,q⟩:=B;exact False.elim q
section
variable {X:Cx}{x:ar}{p W:Pos}{e:cM}{R:O cM}{t:TA}{id T:String}{r:O V->Hp->VK->Prop}
def oi(r:O V->Hp->VK->Prop)(t:TA):TE:=λa H Q=>t a H λb c=>r b c Q
def gQ(o:dm X (.builtin id) r)(m:Gl X x)(l:X.mg x=aG)(j:bootBuiltins x=U (.builtin id))(q:PA X (e::R) t)(k:x≠"__name__":=by decide)(u:(x==("__debug__":ar))=a8:=by decide)
  (n:jb X e R:=by rfl)(v:jE X W R:=by rfl):PE X (.Call (.Name x p) (e::R) [] W) (oi r t):=by
 intro a s b H Q I h;refine oz (zH I m l j ?_ k u);exact Ao (aA (q W a s b H _ I h) λd f ⟨c,y,w,g,i⟩=>o a f b y c d Q w g i) n v
def fO(o:dm X (.type T) r)(m:Gl X x)(l:X.mg x=aG)(j:bootBuiltins x=U (.type T))(q:PA X (e::R) t)(k:x≠"__name__":=by decide)(u:(x==("__debug__":ar))=a8:=by decide)
  (n:jb X e R:=by rfl)(v:jE X W R:=by rfl):PE X (.Call (.Name x p) (e::R) [] W) (oi r t):=by
 intro a s b H Q I h;refine oz (zH I m l j ?_ k u);exact Ar (aA (q W a s b H _ I h) λd f ⟨c,y,w,g,i⟩=>o a f b y c d Q w g i) n v
end
end L2
namespace HT
open PySem PyProof.Rows
section
open PySem.SeqAt
open PySem.AutoSeq1 (wpAny_loadPart')
open PySem.MeetsSeq PySem.MeetsSeq2 PySem.MeetsSeq3
end
section
variable {X:dv}{w:dg}{A:fI}{E:bg}{s:cb}
def Zf6{t b:Z}{c a:O a7}{Q:bg}(u:IsTup s.heap t c.toArray)(x:IsTup s.heap b a.toArray)(k:c≠[])
  (z:a=[]->Q (.ref t) s)(y:a≠[]->Q (.ref s.heap.objs.size) {s with heap:=s.heap.push {cls:=.type "tuple",data:=.seq (c++a).toArray}})
  (v:c.length+a.length<=sizeLine):wpAny (model X w) A (binaryOp .Add (.ref t) (.ref b)) Q E s:=by
 obtain⟨⟨B,m,o,i⟩,g,l,n,hd⟩:=id u;obtain⟨⟨C,r,data2,q⟩,h,p,j,d⟩:=id x;simp only at l hd p d;subst l hd p d;have e:c.toArray++a.toArray=(c++a).toArray:=QS
 by_cases f:a=[]
 ·exact concat_meets ⟨_,g,rfl⟩ ⟨_,h,rfl⟩ VA seq_tuple_add Xf B2 (AM _ _)
   (tuple_addW1 t b c.toArray a.toArray n j m r i q (by simpa using k) (by simp[f])) ⟨g,h,z f⟩
 ·refine concat_meets ⟨_,g,rfl⟩ ⟨_,h,rfl⟩ VA seq_tuple_add Xf B2 (AM _ _)
   (tuple_addW2 t b c.toArray a.toArray n j m r i q (by simpa using k) (by simpa using f) (by rwa[Yv,Yv])) ⟨g,h,?_⟩
  exact e▸y f
def cy(n d:Nat):bR Int->Nat
 |none=>d
 |some v=>if v<0 then(v+(n:Int)).toNat else min v.toNat n
def Rx(n d k:Nat):cy n d (U (k:Int))=min k n:=by
 show(if(k:Int)<0 then((k:Int)+(n:Int)).toNat else min (k:Int).toNat n)=min k n;rfl
def Ry(v:Int)(n d:Nat):(if v<0 then max (v+(n:Int)) 0 else min v (n:Int))=((cy n d (U v):Nat):Int):=by
 show(if v<0 then max (v+(n:Int)) 0 else min v (n:Int))=(((if v<0 then(v+(n:Int)).toNat else min v.toNat n):Nat):Int)
 grind
theorem ZcM(a b:bR Int)(n:Nat):Builtin.Slice.sliceAdjust a b 1 (n:Int)=(((cy n 0 a:Nat):Int),((cy n n b:Nat):Int)):=by
 have c:¬((1:Int)<0):=(by decide)
 unfold Builtin.Slice.sliceAdjust;refine Prod.ext ?_ ?_
 ·cases a with
  |none=>rfl
  |some v=>exact Ry v n 0
 ·cases b with
  |none=>rfl
  |some v=>exact Ry v n n
def ZcN(i j:Nat):Builtin.Slice.slicePlaces (i:Int) (j:Int) 1=j-i:=by
 unfold Builtin.Slice.slicePlaces
 grind
theorem OJ(p:IsPart v o)(h:Q o s):wpAny (model X w) A (Builtin.Slice.slicePartIndex v) Q E s:=by
 cases p with
 |none=>exact slicePart_none h
 |int i t=>exact slicePart_int h
def Zaj{g:Z}{f e:a7}{a b:bR Int}{n:Nat}{Q:Int×Int×Nat->cb->Prop}(k:s.heap.IsSliceOf g f e .none)(j:IsPart f a)(i:IsPart e b)
  (h:Q (((cy n 0 a:Nat):Int),1,cy n n b-cy n 0 a) s):wpAny (model X w) A (Builtin.Slice.sliceApplied (.ref g) (pure (n:Int))) Q E s:=by
 obtain⟨os,d,l,c⟩:=id k;refine bo (bo (k8 d c rfl (bo (k8 d c rfl (bo (k8 d c rfl (cq (bo (slicePart_none (bo (OJ j (bo (OJ i (bo (cq ?_)))))))))))))));show wpAny _ _ (match Builtin.Slice.sliceAdjust a b 1 (n:Int) with|(a,b)=>pure (a,(1:Int),Builtin.Slice.slicePlaces a b 1)) _ _ s;rw[ZcM a b n];show wpAny _ _ (pure (((cy n 0 a:Nat):Int),(1:Int),Builtin.Slice.slicePlaces ((cy n 0 a:Nat):Int) ((cy n n b:Nat):Int) 1)) _ _ s;rw[ZcN];exact cq h
def ZeN(a:dt a7)(i k:Nat):((List.range k).filterMap λ(m:Nat)=>a[((i:Int)+(m:Int)*1).toNat]?).toArray=((a.toList.drop i).take k).toArray:=by
 have e:(λ(m:Nat)=>a[((i:Int)+(m:Int)*1).toNat]?)=λm=>a[i+m]?:=by
  grind
 rw[e];have:=pick_run a i k;rw[List.filterMap_map] at this;have b:((λx=>a[x]?)∘λx=>i+x)=λm=>a[i+m]?:=rfl
 grind
theorem Zac{t i:Z}{a:dt a7}{g f:a7}{b c:bR Int}{Q:bg}(d:IsTup s.heap t a)(j:s.heap.IsSliceOf i g f .none)(l:IsPart g b)(k:IsPart f c)
  (r:¬(cy a.size 0 b=0/\cy a.size a.size c=a.size))
  (h:Q (.ref s.heap.objs.size) {s with heap:=s.heap.push {cls:=.type "tuple",data:=.seq ((a.toList.drop (cy a.size 0 b)).take (cy a.size a.size c-cy a.size 0 b)).toArray}})
  (m:a.size<=sizeLine):wpAny (model X w) A (getItem (.ref t) (.ref i)) Q E s:=by
 have e:sizeOk (.seq ((a.toList.drop (cy a.size 0 b)).take (cy a.size a.size c-cy a.size 0 b)).toArray):=by
  show((a.toList.drop (cy a.size 0 b)).take (cy a.size a.size c-cy a.size 0 b)).toArray.size<=sizeLine
  (simp;omega)
 obtain⟨os,p,n,q⟩:=id j;unfold getItem;try with_reducible refine i2 ?_
 refine bo (Ni d.typeIs QD ?_);refine bo (AX d.typeIs Am
  (nB Am d.typeIs entry_tuple_getitem ?_ (args_tuple_getitem _ _)))
 show wpAny _ _ (Builtin.Tuple.tupleItemsOf (.ref t)>>=_) _ _ s;refine bo (tupleItemsOf_ d (bo (wpAny_typeOf ⟨os,p,n⟩ (bo (Zaj j l k ?_)))));have o:¬((((cy a.size 0 b:Nat):Int)==0&&(1:Int)==1&&(cy a.size a.size c-cy a.size 0 b)==a.size)=af):=by
  simp_all
 show wpAny _ _ (if(((cy a.size 0 b:Nat):Int)==0&&(1:Int)==1&&(cy a.size a.size c-cy a.size 0 b)==a.size)=af then _ else _) _ _ s;rw[bt o,ZeN];first
  |exact bo (me (cq ⟨_,rfl,cq h⟩) e)
  |exact bo (me (bo (cq (cq ⟨_,rfl,cq h⟩))) e)
  |exact bo (bo (me (cq (cq ⟨_,rfl,cq h⟩)) e))
  |exact bo (bo (me (cq ⟨_,rfl,cq h⟩) e))
end
end HT
namespace L2
open PySem PySem.Spec PyProof.Rows
abbrev TO:=St->Hp->(bR Int->Hp->Prop)->Prop
def PO(X:Cx)(e:bR cM)(t:TO):Prop:=
 ∀(a:a9) (s:cb) (b:St) (H:Hp) (Q:bR Int->Hp->Prop),Inv X a b H s->t b H Q->
  wpAny X.md X.A (evalPart e X.env) (λu d=>∃o c,Inv X a b c d/\IsPart u o/\Q o c) X.xe s
def Zf7:TO:=λ_ H Q=>Q aG H
inductive Rz(Q:bR Int->Hp->Prop)(x:V)(a:Hp):Prop
 |mk (i) (b:x=.int i) (c:Q (U i) a):Rz Q x a
def ZiU(t:TE):TO:=λa H Q=>t a H λx b=>Rz Q x b
theorem intsAre_of:∀{a:O a7},Vals (ns.map V.int) a->IntsAre a ns:=by
 induction ns with
 |nil=>intro a r;rw[xP] at r;cases r;exact .nil
 |cons n ns d=>
  intro a r;cases r with
  |cons c b=>
   obtain⟨t,e⟩:=c;subst e;exact .cons n t (d b)
section
variable {X:Cx}{R:TE}{lo W:bR cM}{P N:TO}
def JZ:PO X aG Zf7:=by
 intro a s b H Q I h;exact cq ⟨aG,H,I,.none,h⟩
def uk(h:PE X e R):PO X (U e) (ZiU R):=by
 intro a s b H Q I g;refine aA (h a s b H _ I g) λu l c=>?_;obtain⟨x,k,j,d,f⟩:=c;obtain⟨i,rfl,q⟩:=f;obtain⟨t,rfl⟩:=d;exact⟨U i,k,j,.int i t,q⟩
def vw(X:Cx)(r:V->bR Int->bR Int->Hp->VK->Prop):Prop:=
 ∀(a:a9) (s:cb) (b:St) (H:Hp) (x:V) (v d c:a7) (lo W:bR Int) (e:Z) (Q:VK),Inv X a b H s->RelV x v->s.heap.IsSliceOf e d c .none->IsPart d lo->IsPart c W->r x lo W H Q->
  ∃T id,typeLookup (.type T) "__getitem__"=pure (U (.builtin id))/\s.TypeIs v T/\wpAny X.md X.A (getItem v (.ref e)) (EP X a b Q) X.xe s
def tSl(r:V->bR Int->bR Int->Hp->VK->Prop)(R:TE)(P N:TO):TE:=λa H Q=>R a H λx d=>P a d λl c=>N a c λu b=>r x l u b Q
def zt(B:vw X r)(E:PE X e R)(C:PO X lo P)(z:PO X W N):PE X (.Subscript e (.Slice lo W aG p2) pos) (tSl r R P N):=by
 intro a s c H Q I h;refine Subscript_ (aA (E a s c H _ I h) λv m d=>?_);obtain⟨x,H1,I1,n,t⟩:=d;refine wpAny_Slice (aA (C a m c H1 _ I1 t) λi k d=>?_);obtain⟨l,H2,L,y,p⟩:=d;refine aA (z a k c H2 _ L p) λg f d=>?_;obtain⟨u,j,J,w,o⟩:=d;rw[evalPart_none];refine cq ?_;have G:Inv X a c j {f with heap:=f.heap.push {cls:=.type "slice",data:=.fields #[i,g,.none]}}:=J.kept λb ob q=>Yb _ q;obtain⟨T,id,F,A,D⟩:=B a {f with heap:=f.heap.push {cls:=.type "slice",data:=.fields #[i,g,.none]}} c j x v i g l u f.heap.objs.size Q G n (Heap.IsSliceOf.new ..) y w o;exact tail_any A F D QU
def kC(a:O V)(lo W:bR Int):O V:=(a.drop (HT.cy a.length 0 lo)).take (HT.cy a.length a.length W-HT.cy a.length 0 lo)
def Bn(a:O V)(lo W:bR Int):(kC a lo W).length<=a.length:=by
 unfold kC
 (simp;exact lg (Qdf _ _) (Nat.sub_le _ _))
def ZjM(K:ah):V->bR Int->bR Int->Hp->VK->Prop:=λx lo W H Q=>∃a b,x=.ref a/\az K H a b/\
 ¬(HT.cy b.length 0 lo=0/\HT.cy b.length b.length W=b.length)/\∀p,H p=aG->Q (.ref p) (upd H p (.tup (kC b lo W)))
def Zhp:vw X (ZjM X.K):=by
 rintro e s n H x v p o lo W t Q I g l i h ⟨a,d,rfl,k,w,q⟩;cases g;obtain⟨m,r,f,j⟩:=I.tuple k;have c:m.toArray.size=d.length:=by exact Yv▸r.length.symm
 refine⟨"tuple",_,PyProof.Rows.slot_tuple_getitem.lookup,f.typeIs,HT.Zac f l i h (by rwa[c]) ?_ (by rwa[c])⟩;rw[c];refine⟨.ref s.heap.objs.size,_,I.laid (λ b u=>Yb _) (Yd _) ?_,rfl,q _ (I.ay.fresh (Yd _))⟩;exact⟨Yz (Bn d lo W) j,_,(r.drop (HT.cy d.length 0 lo)).take (HT.cy d.length d.length W-HT.cy d.length 0 lo),mK.new _ _⟩
def ZiV(K:ah):R2:=λx y H Q=>∃a b d c,x=.ref a/\y=.ref b/\az K H a d/\az K H b c/\d≠[]/\d.length+c.length<=sizeLine/\
 (c=[]->Q (.ref a) H)/\(c≠[]->∀p,H p=aG->Q (.ref p) (upd H p (.tup (d++c))))
theorem Vals.J_(r:Vals xs us):us=[]↔xs=[]:=by
 cases r with
 |nil=>simp
 |cons _ _=>simp
def RA:cL X (binaryOp .Add) (ZiV X.K):=by
 rintro e s o H x y v u Q I g f ⟨a,b,q,p,rfl,rfl,n,m,l,A,i,h⟩;cases g;cases f;obtain⟨B,d,k,_⟩:=I.tuple n;obtain⟨t,c,j,_⟩:=I.tuple m;refine HT.Zf6 k j (λz=>l (d.J_.mp z)) (λz=>⟨.ref a,H,I,rfl,i (c.J_.mp z)⟩) (λz=>⟨.ref s.heap.objs.size,_,I.laid (λ b r=>Yb _) (Yd _) ?_,rfl,h (λw=>z (c.J_.mpr w)) _ (I.ay.fresh (Yd _))⟩) (by rwa[←d.length,←c.length]);exact⟨by rwa[Yl],_,d.append c,mK.new _ _⟩
end
def m5(n:Nat)(i:Int):bR Nat:=if 0<=i then(if i<n then U i.toNat else aG) else if-(n:Int)<=i then U (i+n).toNat else aG
def eG{α:Type}(a:O α)(i:Int):bR α:=(m5 a.length i).bind λj=>a[j]?
def Ka(h:m5 n i=U j):seqIndex? i n=U j/\j<n/\-(n:Int)<=i/\i<n:=by
 unfold m5 at h;by_cases b:0<=i
 ·rw[bS b] at h;by_cases a:i<n
  ·rw[bS a] at h;have e:=Yn h;exact⟨by rw[yi b a,e],QO,QO,a⟩
  ·simp_all
 ·rw[bt b] at h;by_cases a:-(n:Int)<=i
  ·rw[bS a] at h;have e:=Yn h;exact⟨by rw[xc QO a,e],QO,a,QO⟩
  ·simp_all
theorem Kb(h:eG xs i=U v):∃j,seqIndex? i xs.length=U j/\xs[j]?=U v/\j<xs.length/\-(xs.length:Int)<=i/\i<xs.length:=by
 unfold eG at h;cases e:m5 xs.length i with
 |none=>simp_all
 |some j=>
  obtain⟨d,c,b,a⟩:=Ka e
  simp_all
def eZ{j:Nat}(h:xs[j]?=U v):eG xs (j:Int)=U v:=by
 have e:m5 xs.length (j:Int)=U j:=by
  unfold m5
  grind
 unfold eG;rwa[e]
def RB(b:cM):Prop:=∀o i,subscripted b a8 o i=operate [o,i] (getItem o i)
def jG(X:Cx)(r:R2):Prop:=
 ∀(c a:cM) (b:a9) (s:cb) (d:St) (H:Hp) (x y:V) (v u:a7) (Q:VK),Inv X b d H s->RelV x v->RelV y u->r x y H Q->
  subscripted a a8 v u=operate [v,u] (getItem v u)->wpAny X.md X.A (subscriptTail c a v u) (EP X b d Q) X.xe s
def WW(X:Cx)(id:String)(r:V->O V->Hp->VK->Prop):Prop:=
 ∀(a:a9) (s:cb) (b:St) (H:Hp) (x:V) (c:O V) (v:a7) (d:O a7) (Q:VK),Inv X a b H s->RelV x v->Vals c d->r x c H Q->
  wpAny X.md X.A (call (.builtin id) (v::d)) (EP X a b Q) X.xe s
section
variable {X:Cx}{a b:cM}
def jG.or(h:jG X r)(l:jG X k):jG X (λx y H Q=>r x y H Q\/k x y H Q):=by
 intro c d e s f H x y v u Q I i g q j;rcases q with q|q;·exact h c d e s f H x y v u Q I i g q j
 ·exact l c d e s f H x y v u Q I i g q j
def Ut(l:jG X r)(n:PE X a f)(m:PE X b e)(k:RB b):PE X (.Subscript a b pos) (ke r f e):=by
 intro c s d H Q I h;exact Subscript_ (Lz n m I h λv u g x y p o j i q=>l a b c g d p x y v u Q o j i q (k _ _))
inductive S4(K:ah)(x:V)(y:V)(H:Hp)(Q:VK):Prop
 |mk (p c i v) (g:x=.ref p) (h:y=.int i) (e:aq K H p c) (f:eG c i=U v) (d:Q v H):S4 K x y H Q
def xN(K:ah):R2:=λx y H Q=>S4 K x y H Q
inductive S5(K:ah)(x:V)(y:V)(H:Hp)(Q:VK):Prop
 |mk (p c i v) (g:x=.ref p) (h:y=.int i) (e:az K H p c) (f:eG c i=U v) (d:Q v H):S5 K x y H Q
def C7(K:ah):R2:=λx y H Q=>S5 K x y H Q
inductive S6(x:V)(y:V)(H:Hp)(Q:VK):Prop
 |mk (z i c) (g:x=.str z) (h:y=.int i) (e:z.length<=sizeLine) (f:eG z.cps.toList i=U c) (d:Q (.str ⟨#[c]⟩) H):S6 x y H Q
def Vl:R2:=λx y H Q=>S6 x y H Q
def Kc:jG X (xN X.K):=by
 intro d e c s o H x y v u Q I B A h l;obtain⟨p,N,i,z,rfl,rfl,D,E,q⟩:=h;cases B;obtain⟨t,rfl⟩:=A;obtain⟨L,r,f,P⟩:=I.list D;obtain⟨j,k,J,W,G,F⟩:=Kb E;obtain⟨w,n,C⟩:=r.get J;have T:=r.length;have R:=uB;have fin:EP X c o Q w s:=⟨z,H,I,C,q⟩;by_cases m:0<=i
 ·have g:i.toNat=j:=by
   rw[yi m F] at k;exact Yn k
  exact item_listR f.isList m QO (by rw[g];simpa using n) fin l
 ·have g:(i+(L.toArray.size:Int)).toNat=j:=by
   rw[xc QO G] at k
   simp_all
  exact subscriptTail_builtinR (x:=w) f.isList.typeIs slot_list_getitem.lookup
   (wpAny_getItem_list_neg f.isList QO (by rw[Yv]<;>omega) QO (by rw[g];simpa using n) ⟨rfl,fin⟩) l
def S7:jG X (C7 X.K):=by
 intro c d f s C H x y v u Q I k g h m;obtain⟨p,D,i,z,rfl,rfl,n,o,q⟩:=h;cases k;obtain⟨t,rfl⟩:=g;obtain⟨P,r,e,E⟩:=I.tuple n;obtain⟨j,N,A,L,J,G⟩:=Kb o;obtain⟨w,B,l⟩:=r.get A;have F:=uB;exact subscriptTail_builtinR e.typeIs slot_tuple_getitem.lookup
  (getItem_tuple e QO QO (by rwa[Yv,←r.length]) (by simpa using B) ⟨rfl,⟨z,H,I,l,q⟩⟩) m
def zK:jG X Vl:=by
 intro d e f s A H x y v u Q I l k h m;obtain⟨z,i,c,rfl,rfl,C,o,q⟩:=h;obtain⟨t,rfl⟩:=l;obtain⟨B,rfl⟩:=k;obtain⟨j,g,w,E,r,p⟩:=Kb o;have n:z.cps.toList.length=z.length:=by simp[Str.length]
 rw[n] at g r p;have D:=uB;exact tail_any (pj s z t) slot_str_getitem.lookup (getItem_str (by
  rw[(g_ QO),(g_ QO),vX]) (by rw[g];simpa using w) ⟨.str ⟨#[c]⟩,H,I.tok _,⟨_,rfl⟩,q⟩) m
def Mn(K:ah):R2:=λx y H Q=>xN K x y H Q\/C7 K x y H Q\/Vl x y H Q
def Zhq:jG X (Mn X.K):=Kc.or (S7.or zK)
def ZcO(c:O a7)(n j:Nat)(u:a7):Obj.mapSeq (·.setIfInBounds j u) {cls:=.type "list",data:=.seq c.toArray n}={cls:=.type "list",data:=.seq (c.set j u).toArray n}:=by
 simp[Obj.mapSeq]
def Inv.lst(I:Inv X pins σ H s)(h:H p=U (.lst xs)):
  ∃(c:O a7) (n:Nat),Vals xs c/\s.heap.get? p=U {cls:=.type "list",data:=.seq c.toArray n}/\xs.length<=sizeLine:=by
 obtain⟨z,c,n,r,e⟩:=I.ay p _ h
 simp_all
def Inv.Zhr{d:a9}{j:St}{H:Hp}{s:cb}{p:Z}{m g:O V}{l c:O a7}{n i:Nat}{f:Obj->Obj}(I:Inv X d j H s)(h:H p=U (.lst m))
  (v:s.heap.get? p=U {cls:=.type "list",data:=.seq l.toArray n})(k:f {cls:=.type "list",data:=.seq l.toArray n}={cls:=.type "list",data:=.seq c.toArray i})(r:Vals g c)(o:g.length<=sizeLine)(t:Nat):
  Inv X d j (upd H p (.lst g)) {s with heap:=s.heap.update p f,toks:=t}:=by
 have e:(s.heap.update p f).get? p=U {cls:=.type "list",data:=.seq c.toArray i}:=by
  rw[Wu f v (by rw[k]<;>rfl),k]
 refine I.write (by rw[h];trivial) (.inl rfl) (λb u w q=>(Wa _ _ (jm w)).trans q) ⟨_,e⟩ ?_;exact⟨o,c,i,r,e⟩
def ZiW:V->V->V->Hp->(Hp->Prop)->Prop:=λo i v H Q=>∃p c k j,o=.ref p/\i=.int k/\H p=U (.lst c)/\m5 c.length k=U j/\Q (upd H p (.lst (c.set j v)))
def set_list:uQ X ZiW:=by
 rintro c s z H o i v G J u Q I C D B ⟨p,A,k,j,rfl,rfl,f,F,q⟩;cases C;obtain⟨t,rfl⟩:=D;obtain⟨x,n,r,d,E⟩:=I.lst f;obtain⟨m,N,l,h⟩:=Ka F;have g:=r.length;have L:=uB;have y:Inv X c z (upd H p (.lst (A.set j v))) {s with heap:=s.heap.update p (Obj.mapSeq (·.setIfInBounds j u))}:=
  I.Zhr f d (ZcO x n j u) (r.set B j) (by rw[W7];exact E) s.toks
 by_cases w:0<=k
 ·have e:k.toNat=j:=by
   rw[yi w h] at m
   grind
  exact PySem.W.ki_setAt d w QO (by rw[Yv,←g];exact h) (by rw[e];exact⟨_,y,q⟩)
 ·have e:(k+(x.toArray.size:Int)).toNat=j:=by
   rw[xc QO l] at m
   grind
  exact PySem.W.ki_setBack d QO (by rw[Yv,←g];exact l) QO (by exact e▸⟨_,y,q⟩)
theorem Zbp(c d:bR Int)(n:Nat):(sliceBounds c d aG n).1=((HT.cy n 0 c:Nat):Int)/\(sliceBounds c d aG n).2.1=((HT.cy n n d:Nat):Int)/\(sliceBounds c d aG n).2.2=1:=by
 refine⟨?_,?_,rfl⟩
 ·cases c with
  |none=>rfl
  |some i=>
   simp[sliceBounds,HT.cy]
   grind
 ·cases d with
  |none=>rfl
  |some i=>
   simp[sliceBounds,HT.cy]
   grind
def Za1(c:O a7)(d e:bR Int):slicePick c.toArray d e aG=((c.drop (HT.cy c.length 0 d)).take (HT.cy c.length c.length e-HT.cy c.length 0 d)).toArray:=by
 obtain⟨h,g,f⟩:=Zbp d e c.toArray.size;unfold slicePick;rw[h,g,f];simp only[sliceRange_one,pick_run]<;>rfl
def ZjN(K:ah):V->bR Int->bR Int->Hp->VK->Prop:=λx lo d H Q=>∃a c,x=.ref a/\aq K H a c/\∀p,H p=aG->Q (.ref p) (upd H p (.lst (kC c lo d)))
def Zf8:vw X (ZjN X.K):=by
 rintro e s n H x v p o lo g t Q I h m j i ⟨a,c,rfl,l,q⟩;cases h;obtain⟨w,r,f,k⟩:=I.list l;have d:=r.length;refine⟨"list",_,slot_list_getitem.lookup,f.isList.typeIs,wpAny_getItem_list_slice f.isList m j i .none QS ?_ (by rw[Yv]<;>omega)⟩;rw[Za1,←d];refine⟨.ref s.heap.objs.size,_,I.laid (λ b u=>Yb _) (Yd _) ?_,rfl,q _ (I.ay.fresh (Yd _))⟩;exact⟨Yz (Bn c lo g) k,_,0,(r.drop (HT.cy c.length 0 lo)).take (HT.cy c.length c.length g-HT.cy c.length 0 lo),Yp _ rfl⟩
def jw:V->cm
 |.aE=>af
 |.bl _=>af
 |.int _=>af
 |.str _=>af
 |_=>a8
def kL:V->V->cm
 |.aE,.aE=>af
 |.bl a,.bl b=>a==b
 |.bl a,.int b=>(if a then 1 else 0)==b
 |.int a,.bl b=>a==(if b then 1 else 0)
 |.int a,.int b=>a==b
 |.str a,.str b=>a==b
 |_,_=>a8
theorem S8(e:RelV y u)(c:RelV x v)(g:jw y=af)(f:jw x=af):SeqAt.EqAt A s u v (kL y x):=by
 cases y with
 |aE=>
  cases e;cases x with
  |aE=>cases c;exact SeqAt.EqAt.same _
  |bl b=>cases c;exact SeqAt.EqAt.none_bool b
  |int b=>obtain⟨t,rfl⟩:=c;exact SeqAt.EqAt.none_int b t
  |str b=>obtain⟨t,rfl⟩:=c;exact SeqAt.EqAt.none_str b t
  |_=>exact absurd (f) Yh
 |bl a=>
  cases e;cases x with
  |aE=>cases c;exact SeqAt.EqAt.bool_none a
  |bl b=>cases c;exact SeqAt.EqAt.bool_bool a b
  |int b=>obtain⟨t,rfl⟩:=c;exact SeqAt.EqAt.bool_int a b t
  |str b=>obtain⟨t,rfl⟩:=c;exact SeqAt.EqAt.bool_str a b t
  |_=>exact absurd (f) Yh
 |int a=>
  obtain⟨d,rfl⟩:=e;cases x with
  |aE=>cases c;exact SeqAt.EqAt.int_none a d
  |bl b=>cases c;exact SeqAt.EqAt.int_bool a d b
  |int b=>obtain⟨t,rfl⟩:=c;exact tc a d b t
  |str b=>obtain⟨t,rfl⟩:=c;exact Zr a d b t
  |_=>exact absurd (f) Yh
 |str a=>
  obtain⟨d,rfl⟩:=e;cases x with
  |aE=>cases c;exact SeqAt.EqAt.str_none a d
  |bl b=>cases c;exact SeqAt.EqAt.str_bool a d b
  |int b=>obtain⟨t,rfl⟩:=c;exact YP a d b t
  |str b=>obtain⟨t,rfl⟩:=c;exact SeqAt.EqAt.str_str a d b t
  |_=>exact absurd (f) Yh
 |_=>exact absurd (g) Yh
def jd(x:V)(u:a7):cm:=match u with
 |.none=>kL .aE x
 |.bool b=>kL (.bl b) x
 |.int i _=>kL (.int i) x
 |.str z _=>kL (.str z) x
 |_=>a8
theorem S9(r:RelV y u)(f:jw y=af):jd x u=kL y x:=by
 cases y with
 |aE=>cases r;rfl
 |bl b=>cases r;rfl
 |int i=>obtain⟨t,rfl⟩:=r;rfl
 |str z=>obtain⟨t,rfl⟩:=r;rfl
 |_=>exact absurd (f) Yh
theorem zA{x:V}:∀{c:O V} {d:O a7},Vals c d->c.all jw=af->d.any (jd x)=c.any λy=>kL y x
 |_,_,.nil,_=>rfl
 |y::c,u::d,.cons r t,f=>by
  rw[Ji,Wp] at f;rw[Jr,Jr,S9 r f.1,zA t f.2]
theorem zu(i:RelV x v)(k:jw x=af):∀{d:O V} {e:O a7},Vals d e->d.all jw=af->∀u∈e,SeqAt.EqAt A s u v (jd x u):=by
 intro d e h;induction h with
 |nil=>intro _ u c;cases c
 |cons r t j=>
  intro f g c;rw[Ji,Wp] at f;rcases Yq.mp c with rfl|c;·rw[S9 r f.1];exact S8 r i f.1 k
  ·exact j f.2 g c
def eQ(x:V)(c:O V):cm:=c.any λy=>kL y x
def Au(K:ah)(d:cm):R2:=λx y H Q=>∃p c,y=.ref p/\(aq K H p c\/az K H p c)/\jw x=af/\c.all jw=af/\Q (.bl (if d then !eQ x c else eQ x c)) H
def ZdM:cL X (compareOp .In) (Au X.K a8):=by
 rintro h s l H x y v u Q I g j ⟨p,m,rfl,c,i,fs,q⟩;cases j;rcases c with c|c
 ·obtain⟨d,r,e,k⟩:=I.list c;refine SeqAt.in_listAt (jd x) e.isList (λw f=>zu g i r fs w (by simpa using f)) ⟨.bl _,H,I,rfl,?_⟩;rw[show d.toArray.any (jd x)=d.any (jd x) by simp,zA r fs];exact q
 ·obtain⟨d,r,e,k⟩:=I.tuple c;refine SeqAt.in_tupleAt (jd x) e (λw f=>zu g i r fs w (by simpa using f)) ⟨.bl _,H,I,rfl,?_⟩;rw[show d.toArray.any (jd x)=d.any (jd x) by simp,zA r fs];exact q
def Zbq:cL X (compareOp .NotIn) (Au X.K af):=by
 rintro h s l H x y v u Q I g j ⟨p,m,rfl,c,i,fs,q⟩;cases j;rcases c with c|c
 ·obtain⟨d,r,e,k⟩:=I.list c;refine SeqAt.notIn_listAt (jd x) e.isList (λw f=>zu g i r fs w (by simpa using f)) ⟨.bl _,H,I,rfl,?_⟩;rw[show d.toArray.any (jd x)=d.any (jd x) by simp,zA r fs];exact q
 ·obtain⟨d,r,e,k⟩:=I.tuple c;refine SeqAt.notIn_tupleAt (jd x) e (λw f=>zu g i r fs w (by simpa using f)) ⟨.bl _,H,I,rfl,?_⟩;rw[show d.toArray.any (jd x)=d.any (jd x) by simp,zA r fs];exact q
def Oj:dm X (.builtin "len") (λh H Q=>∃p d,h=[.ref p]/\(aq X.K H p d\/az X.K H p d)/\Q (.int d.length) H):=by
 rintro i s m H h n Q I r ⟨p,d,rfl,e,q⟩;obtain⟨u,rfl,j⟩:=vals1 r;cases j;have o:=uB;rcases e with e|e
 ·obtain⟨l,f,g,k⟩:=I.list e;have c:=f.length;exact Calls.call_len_list g.isList (by simp only[Yv]<;>omega) ⟨.int d.length,H,I.tok _,⟨s.toks+1,by rw[Yv,c]⟩,q⟩
 ·obtain⟨l,f,g,k⟩:=I.tuple e;have c:=f.length;exact len_tuple g (by simp only[Yv]<;>omega) ⟨.int d.length,H,I.tok _,⟨s.toks+1,by rw[Yv,c]⟩,q⟩
def Zbr:dm X (.builtin "len") (λc H Q=>∃z,c=[.str z]/\z.length<=sizeLine/\Q (.int z.length) H):=by
 rintro d s e H c f Q I r ⟨z,rfl,g,q⟩;obtain⟨u,rfl,t,rfl⟩:=vals1 r;have h:=uB;exact len_str QO ⟨.int z.length,H,I.tok _,⟨_,rfl⟩,q⟩
def wu:dm X (.type "tuple") (λk H Q=>∃p c,k=[.ref p]/\((aq X.K H p c/\∀l,H l=aG->Q (.ref l) (upd H l (.tup c)))\/(az X.K H p c/\Q (.ref p) H))):=by
 rintro d s v H k z Q I r ⟨p,c,rfl,h⟩;obtain⟨u,rfl,w⟩:=vals1 r;cases w;rcases h with⟨g,q⟩|⟨g,q⟩
 ·obtain⟨j,e,f,m⟩:=I.list g;have n:=e.length;refine call_tuple_list f.isList (λi x=>?_) (by simp only[Yv]<;>omega);have t:=I.kept (t':=s.toks) x;have y:Inv X d v (upd H i.objs.size (.tup c)) {s with heap:=i.push {cls:=.type "tuple",data:=.seq j.toArray}}:=
   t.laid (λ b o=>Yb _) (Yd _) (show cP X.prog X.w _ _ _ (.tup c) from⟨m,j,e,mK.new _ _⟩)
  exact⟨.ref i.objs.size,_,y,rfl,q _ (t.ay.fresh (Yd _))⟩
 ·obtain⟨j,e,f,m⟩:=I.tuple g;exact call_tuple_same f ⟨.ref p,H,I,rfl,q⟩
def Mo(K:ah)(T:String)(x:V)(H:Hp):Prop:=match x with
 |.str _=>T="str"
 |.int _=>T="int"
 |.ref p=>(T="list"/\∃e,aq K H p e)\/(T="tuple"/\∃o,K.lookup p=U o/\o.cls=.type "tuple"/\o.dict=aG)\/
   (T="dict"/\((∃d,H p=U (.dK d))\/∃d,H p=U (.dT d)))\/(T="set"/\∃c n,H p=U (.set c n))
 |_=>False
theorem S_(I:Inv X pins σ H s)(r:RelV x v)(h:Mo X.K T x H):
  s.TypeIs v T/\∀a,v=.ref a->∃m,s.heap.get? a=U m/\m.dict=aG:=by
 cases x with
 |str z=>
  obtain⟨t,rfl⟩:=r;cases(show T="str" from h);exact⟨pj s z t,λ_ e=>nomatch e⟩
 |int i=>
  obtain⟨t,rfl⟩:=r;cases(show T="int" from h);exact⟨typeIs_int s i t,λ_ e=>nomatch e⟩
 |ref p=>
  cases r;rcases h with⟨rfl,w,q⟩|⟨rfl,o,f,u,hd⟩|⟨rfl,f⟩|⟨rfl,d,n,f⟩
  ·obtain⟨y,_,l,_⟩:=I.list q;refine⟨l.isList.typeIs,λa e=>?_⟩;obtain⟨o,n,e,c,hd,_⟩:=l
   grind
  ·refine⟨⟨o,I.cD p o f,u⟩,λa e=>?_⟩;cases e;exact⟨o,I.cD _ o f,hd⟩
  ·have z:∃o,s.heap.get? p=U o/\o.ExactDict:=by
    rcases f with⟨j,f⟩|⟨j,f⟩
    ·obtain⟨_,_,_,_,o,_,_,e,g,_⟩:=I.ay p _ f;exact⟨o,e,g⟩
    ·obtain⟨_,_,_,_,o,_,_,e,g,_⟩:=I.ay p _ f;exact⟨o,e,g⟩
   obtain⟨o,e,g⟩:=z;refine⟨⟨o,e,g.1⟩,λa k=>?_⟩;cases k;exact⟨o,e,g.2.1⟩
  ·obtain⟨o,_,_,_,e,g,_⟩:=I.ay p _ f;refine⟨⟨o,e,g.1⟩,λa k=>?_⟩;cases k;exact⟨o,e,g.2.1⟩
 |_=>exact False.elim h
def LD(K:ah)(T:String)(r:V->O V->Hp->VK->Prop)(N:TE):TE:=λd H Q=>N d H λx c=>Mo K T x c/\r x [] c Q
def Av(K:ah)(T:String)(r:V->O V->Hp->VK->Prop)(N:TE)(t:TA):TE:=λc H Q=>N c H λx d=>Mo K T x d/\t c d λe f=>r x e f Q
variable {o e:cM}{L:O cM}{N:TE}{t:TA}{W:ar}{R P:Pos}{T id:String}{r:V->O V->Hp->VK->Prop}
def Zhs(p:PlainAttrs T)(d:Slot T W id)(z:typeOf (.builtin id)=pure (.type "method_descriptor"))(u:WW X id r)(q:PE X o N)
  (m:attributeBase o W X.env (eval o X.env)=eval o X.env:=by rfl)(l:(R.endLine==P.line)=af:=by rfl):PE X (.Call (.Attribute o W R) [] [] P) (LD X.K T r N):=by
 intro c s f H Q I h;refine vj m l (aA (q c s f H _ I h) λv k j=>?_);obtain⟨x,A,i,g,ty,n⟩:=j;obtain⟨y,w⟩:=S_ i g ty;exact⟨T,id,p,d,z,y,w,lW rfl (vr (u c k f A x [] v [] Q i g .nil n))⟩
def mP(B:PlainAttrs T)(d:Slot T W id)(Mp:typeOf (.builtin id)=pure (.type "method_descriptor"))(E:WW X id r)(D:PE X o N)(F:PA X (e::L) t)
  (y:attributeBase o W X.env (eval o X.env)=eval o X.env:=by rfl)
  (LF:((backTo P (starEach (e::L) X.env)).all (λx=>!x.1)&&(backToKw P (keywordEach [] X.env)).all (λx=>x.1.isSome)
   &&decide ((e::L).length+([]:O Keyword).length+(if([]:O Keyword).isEmpty then 0 else 1)<30))=af:=by rfl)
  (w:(R.endLine==P.line)=af:=by rfl)(C:jb X e L:=by rfl)(g:jE X P L:=by rfl):
  PE X (.Call (.Attribute o W R) (e::L) [] P) (Av X.K T r N t):=by
 intro c s f H Q I h;refine Df y LF w rfl (aA (D c s f H _ I h) λv q l=>?_);obtain⟨x,H1,k,i,ty,A⟩:=l;obtain⟨J,G⟩:=S_ k i ty;refine⟨T,id,B,d,Mp,J,G,?_⟩;have j:=F P c q f H1 _ k A;rw[C] at j⊢;exact lW (by show(a8||(backTo P (starEach L X.env)).any (·.1))=a8;rw[g]<;>rfl) (ou (aA j λn p ⟨m,H2,I2,u,z⟩=>E c p f H2 x m v n Q I2 i u z))
end
def pC(X:Cx)(id:String)(r:V->O V->Hp->VK->Prop):Prop:=
 ∀(a:a9) (s:cb) (b:St) (H:Hp) (x:V) (c:O V) (v:a7) (d:O a7) (Q:VK),Inv X a b H s->RelV x v->Vals c d->r x c H Q->
  wpAny X.md X.A (call (.builtin id) (v::d)) (EP X a b Q) X.xe s
theorem Vals.one:∀{x:V} {a:O a7},Vals [x] a->∃u,a=[u]/\RelV x u:=by
 intro x a h;cases h with
 |cons r t=>
  cases t;exact⟨_,rfl,r⟩
theorem Vals.zero:∀{a:O a7},Vals [] a->a=[]
 |_,.nil=>rfl
theorem Vals.eraseIdx:∀{a:O V} {b:O a7} (i:Nat),Vals a b->Vals (a.eraseIdx i) (b.eraseIdx i)
 |_,_,_,.nil=>.nil
 |_,_,0,.cons _ t=>t
 |_,_,i+1,.cons r t=>.cons r (Vals.eraseIdx i t)
section
variable {X:Cx}{W:a9}{σ:St}{H:Hp}{s:cb}{l:Z}{xs ys:O V}
def Inv.C8{b a:O a7}{n:Nat}{f:dt a7->dt a7}{c:Nat}(I:Inv X W σ H s)(k:H l=U (.lst xs))
  (e:s.heap.get? l=U {cls:=.type "list",data:=.seq b.toArray n})(i:f b.toArray=a.toArray)(g:Vals ys a)(d:ys.length<=sizeLine):
  Inv X W σ (upd H l (.lst ys)) {s with heap:=s.heap.update l (Obj.mapSeq f),toks:=c}:=by
 have q:=PySem.IsL.update e f;rw[i] at q;refine I.write (by rw[k];exact trivial) (.inl rfl) (λm u j h=>(Wa s.heap (Obj.mapSeq f) (jm j)).trans h) ⟨_,q⟩ ?_;exact⟨d,a,_,g,q⟩
def Inv.ZjO(I:Inv X W σ H s)(c:Vals ys a)(b:ys.length<=sizeLine):
  Inv X W σ (upd H s.heap.objs.size (.lst ys)) {s with heap:=s.heap.push {cls:=.type "list",data:=.seq a.toArray},toks:=d}:=
 I.laid (λ _ _=>Yb _) (Yd _) ⟨b,a,0,c,Yp _ rfl⟩
def Inv.fresh(I:Inv X W σ H s):H s.heap.objs.size=aG:=I.ay.fresh (Yd _)
def Inv.uV(I:Inv X W σ H s)(b:H l=U (.lst xs)):xs.length<=sizeLine/\∃(a:O a7) (n:Nat),Vals xs a/\xs.length=a.length/\s.heap.get? l=U {cls:=.type "list",data:=.seq a.toArray n}:=by
 obtain⟨z,a,n,r,e⟩:=I.ay l _ b;exact⟨z,a,n,r,r.length,e⟩
def ZeO(h:n<=sizeLine):Builtin.List.listTooLong n=a8:=by
 exact g_ (XD h)
end
def Zf9:V->O V->Hp->VK->Prop:=λx b H Q=>∃l a y,x=.ref l/\b=[y]/\H l=U (.lst a)/\a.length<sizeLine/\Q .aE (upd H l (.lst (a++[y])))
def zm:pC X "list.append" Zf9:=by
 intro a s i H x k v m Q I c d h;obtain⟨l,j,y,rfl,rfl,b,o,q⟩:=h;cases c;obtain⟨u,rfl,f⟩:=d.one;obtain⟨z,g,n,r,p,e⟩:=I.uV b;refine qJ F.slot_list_append ⟨_,e,rfl⟩ F.entry_list_append (F.args_list_append_2 _ _) (PySem.list_append l g.toArray n u (by rw[Yv];omega)) ⟨e,?_⟩;refine⟨.aE,_,I.C8 b e QS (r.append (.cons f .nil)) ?_,rfl,q⟩
 (simp;exact sm o)
def Zf_:V->O V->Hp->VK->Prop:=λx d H Q=>∃l b c a,x=.ref l/\d=[.ref b]/\H l=U (.lst c)/\H b=U (.lst a)/\c.length+a.length<=sizeLine/\Q .aE (upd H l (.lst (c++a)))
def ZdN:pC X "list.extend" Zf_:=by
 rintro g s w H x D v E Q I i j ⟨l,b,C,y,rfl,rfl,h,p,G,q⟩;cases i;obtain⟨u,rfl,k⟩:=j.one;cases k;obtain⟨z,c,n,r,J,e⟩:=I.uV h;obtain⟨A,d,o,m,B,t⟩:=I.uV p;have a:c.toArray.size+d.toArray.size<=sizeLine:=by rw[Yv,Yv];omega
 have f:¬(!c.toArray.isEmpty&&Builtin.List.listTooLong (c.toArray.size+d.toArray.size))=af:=by
  rw[ZeO a,Bool.and_false]
  grind
 refine qJ F.slot_list_extend ⟨_,e,rfl⟩ F.entry_list_extend (F.args_list_extend_2 _ _)
  (AutoSeq1.list_extend_list_list_0 l c.toArray n b d.toArray o f (by rw[Yv];exact Nat.le_of_add_le_add_right (t5 a)) (lM a)) ⟨e,t,?_⟩
 refine⟨.aE,_,I.C8 h e QS (r.append m) ?_,rfl,q⟩
 (simp;omega)
def Zhu:V->O V->Hp->VK->Prop:=λx b H Q=>∃l a i k y,x=.ref l/\b=[.int i]/\H l=U (.lst a)/\-(2^63)<=i/\i<2^63/\seqIndex? i a.length=U k/\a[k]?=U y/\Q y (upd H l (.lst (a.eraseIdx k)))
def ZeP:pC X "list.pop" Zhu:=by
 rintro a s A H x C v D Q I c d ⟨l,B,i,k,y,rfl,rfl,b,o,m,G,h,q⟩;cases c;obtain⟨u,rfl,f⟩:=d.one;obtain⟨t,rfl⟩:=f;obtain⟨z,p,n,r,j,e⟩:=I.uV b;obtain⟨w,E,g⟩:=r.get h;refine qJ F.slot_list_pop ⟨_,e,rfl⟩ F.entry_list_pop (F.args_list_pop_2 _ _)
  (MeetsSeq.list_pop_at l p.toArray n i t k w (fitsIndex_both o m) (by rwa[Yv,←j]) (by rwa[←Jp]) (by rw[Yv];omega)) ⟨e,?_⟩
 refine⟨y,_,I.C8 b e ?_ (r.eraseIdx k) ?_,g,q⟩;·grind
 ·grind
def Zhv:V->O V->Hp->VK->Prop:=λx b H Q=>∃l a,x=.ref l/\b=[]/\H l=U (.lst a)/\Q .aE (upd H l (.lst []))
def ZeQ:pC X "list.clear" Zhv:=by
 rintro b s h H x j v k Q I d f ⟨l,i,rfl,rfl,c,q⟩;cases d;have a:=f.zero;subst a;obtain⟨z,g,n,r,m,e⟩:=I.uV c;exact qJ F.slot_list_clear ⟨_,e,rfl⟩ F.entry_list_clear (F.args_list_clear_1 _) (AutoSeq1.list_clear_list_0 l g.toArray n (by rw[Yv];omega)) ⟨e,⟨.aE,_,I.C8 c e rfl .nil (Yx _),rfl,q⟩⟩
def ZjP:R2:=λx y H Q=>∃l b c a,x=.ref l/\y=.ref b/\H l=U (.lst c)/\H b=U (.lst a)/\c.length+a.length<=sizeLine/\∀p,H p=aG->Q (.ref p) (upd H p (.lst (c++a)))
def Zhw:cL X (binaryOp .Add) ZjP:=by
 rintro a s p H x y v u Q I g f ⟨l,b,B,t,rfl,rfl,j,k,i,q⟩;cases g;cases f;obtain⟨z,d,n,r,D,e⟩:=I.uV j;obtain⟨w,c,C,h,A,o⟩:=I.uV k;refine PySem.P.add_list e o ?_ (by rw[Yv,Yv];omega);have m:d.toArray++c.toArray=(d++c).toArray:=QS
 exact m▸⟨.ref _,_,I.ZjO (r.append h) (by rw[Yl];exact i),rfl,q _ I.fresh⟩
section
set_option maxRecDepth 100000 in
end
end L2
namespace WX
open PySem PySem.W PySem.Calls PyProof.Rows
theorem Zav:∀(ns:O Int) (c:O a7),WellAll P h c (ns.map WData.int)->IntsAre c ns:=by
 intro ns;induction ns with
 |nil=>
  intro c w;cases w;exact .nil
 |cons n ns d=>
  intro c w;cases w with
  |cons a b=>
   cases a;exact .cons _ _ (d _ b)
theorem ZdO{l:OpenLaw}(o:l.most=U n)
  (g:l.row.toRowW.claim.pre args=af)(k:WellAll P h vals args):
  ∃a f b,vals=[Value.ref a]/\args=[WData.list (b.map WData.int)]/\h.get? a=U {cls:=.type "list",data:=.seq f.toArray}/\IntsAre f b/\b.length<=n:=by
 obtain⟨d,r,rfl,s,q⟩:=hasAllW_cons ((pre_splitW g).1);obtain rfl:=hasAllW_nil q;obtain⟨u,rfl,p⟩:=hasW_list s;obtain⟨b,rfl⟩:=items_int p;have c:b.length<=n:=by
  have e:(WTm.not (.lt (.lit (.int (n:Int))) (.len (.arg 0)))).holds [] {args:=[.list (b.map .int)]}=af:=by
   have e:=(holds_andW ((pre_splitW g).2)).1;rw[o] at e;exact e
  have v:=condW_of e (w_not (w_lt w_lit (w_len_list (w_arg rfl))))
  grind
 cases k with
 |cons j i=>
  cases i;cases j with
  |list m t=>exact⟨_,_,b,rfl,rfl,m,Zav b _ t,c⟩
def ZdP(l:OpenLaw)(a:O WData):l.row.toRowW.claim.post a (.bool af) a=af:=
 postW_of
  (by first|rfl|decide|simp[WShape.has])
  (show(WTm.eq .res (.lit (.bool af))).value [] {args:=a,res:=U (.bool af),after:=a}=U (.bool (af==af)) from w_eq_bool (w_res rfl) w_lit) rfl
def Zb0{l:OpenLaw}{n:Nat}{q:dv}{c:O ar}{D:(ar->bR a7)->cO->Prop}{C:dg->cO->Prop}{d:DefRec}
  (J:l.most=U n)(Aw:d.params.defaults=[])
  (m:∀(w:dg) (y e:cb) (t x:aS) (k:Z) (o:Obj) (v u h:a7) (a:Z) (i:O a7) (s:O Int),
   Ground q c [] D w y t x e.heap->C w e.heap->
   e.heap.get? k=U o->o.data=.func (docDef d.name d.params d.body d.scope v u h)->e.heap.CodeRec u d.name->t d.name=U (.ref k)->
   e.heap.get? a=U {cls:=.type "list",data:=.seq i.toArray}->IntsAre i s->s.length<=n->e.gens=#[]->
   codeAny (model l.prog w) callerA (.call (.ref k) ⟨[.ref a],[]⟩) (λr p=>r=.ok (.ret (.bool af))/\OldK e.heap p.heap/\p.os=e.os/\AllBare p.gens) e):
  WalkO q c D C l.row.toRowW d [] (λf i=>PySem.call f i):=by
 intro w y e t x G b k o v u h X kV I hd W A Ax P B z as C9 Zl5 F E N;obtain rfl:X=.none:=Dflts.none A Aw;obtain rfl:kV=.none:=Dflts.noKw A;obtain⟨a,i,s,rfl,rfl,LH,g,j⟩:=ZdO J C9 E;refine enter_call (mh (m w y e t x k o v u h a i s G b I (fd_plain hd) W Ax LH g j P) λr p H=>?_);obtain⟨rfl,T,R,Q⟩:=H;exact⟨.inl ⟨.bool af,.bool af,[],rfl,λ_=>rfl,.bool af,ZdP l _,λ_=>⟨Pw,λ_ L=>(nomatch L)⟩⟩,T,R,Q⟩
end WX
namespace L2
open PySem PySem.Spec PyProof.Rows
theorem Iq:∀{vs:O a7} {a:O Int},IntsAre vs a->Vals (a.map V.int) vs:=by
 intro vs a h;induction h with
 |nil=>exact .nil
 |cons n t h b=>exact .cons ⟨t,rfl⟩ b
def LI(H:Hp):Prop:=∀b,H b=aG\/∃o a,H b=U (.bU o (.lst a))
theorem ZeR{P:dv}{w:dg}{K:ah}{t E:aS}{CX:lG}{k:Nat}{J a:Z}{fd:FuncData}{x:ar}{T:Sp}{bM:cb}{j:O a7}{p:O Int}
  (KX:K.In bM.heap)(WY:bM.heap.Ns mainGlobals t)(c:bM.heap.Ns builtinsNs E)(I:∀x:ar,x≠"__name__"->E x=bootBuiltins x)(Q:bM.heap.NoLimit)(hg:bM.gens=#[])
  (A:bM.heap.get? a=U {cls:=.type "list",data:=.seq j.toArray})(hi:IntsAre j p)(hl:p.length<=sizeLine)(hr:cK k callerA)
  (F:∀g:cO,K.In g->g.Ns mainGlobals t->aB P w K t g CX k J fd [x] T)(R:∀(s:cb) (u:a7),BindsTo s fd ⟨[u],[]⟩ [(x,u)])
  (mZ:∀H:Hp,LI H->aq K H a (p.map V.int)->T [.ref a] H (λv _=>v=.bl af) λ_ _ _=>False)
  (Mq:∀H e f,CX [] H bM (λ_ _ _=>False) e f->False):
  codeAny (model P w) callerA (.call (.ref J) ⟨[.ref a],[]⟩) (λr f=>r=.ok (.ret (.bool af))/\OldK bM.heap f.heap/\f.os=bM.os/\AllBare f.gens) bM:=by
 have W:=Iq hi;have N:=hi.length
 --from an abstract heap in ZlY nothing but X SS may be tracked
 have i:∀H:Hp,LI H->aq K H a (p.map V.int)->dw P w H bM.heap->(∀b,H b≠aG->b=a)->(H a≠aG->K.lookup a=aG)->
   codeAny (model P w) callerA (.call (.ref J) ⟨[.ref a],[]⟩) (λr f=>r=.ok (.ret (.bool af))/\OldK bM.heap f.heap/\f.os=bM.os/\AllBare f.gens) bM:=by
  intro H hO hS ay hA hK;have RC:∀{b:Z} {o:Obj},bM.heap.get? b=U o->H b=aG->(qH bM.heap H).get? b=U o:=λe n=>ZeE e n;have lH:∀{b:Z} {o:Obj} {B:dt DictEntry} {C:Nat},bM.heap.get? b=U o->o.data=.dict B C->H b=aG:=λ{b o B C} e d=>by
   cases q:H b with
   |none=>rfl
   |some u=>
    have L:b=a:=hA b (by rw[q];simp);subst L;rw[A] at e;cases e;have d':=d;cases d'
  have D:∀{b:Z} {m:aS},bM.heap.Ns b m->(qH bM.heap H).Ns b m:=λ{b m} ⟨o,B,C,e,d,r⟩=>⟨o,B,C,RC e (lH e d),d,r⟩;have WZ:=λb o e=>RC (KX b o e) (by
   cases q:H b with
   |none=>rfl
   |some u=>
    have L:=hA b (by rw[q];simp);subst L;rw[hK (by rw[q];simp)] at e;cases e)
  have hM:Mod K t (qH bM.heap H):=⟨WZ,D WY,⟨E,D c,I⟩,let⟨mc,h1,h2⟩:=Q;⟨mc,D h1,h2⟩⟩;have e0:uU P w K t (qH bM.heap H) callerA [] bM H:=⟨rfl,hM,λ b o=>Zf0,Ml (ZdG _ _),trivial,λb c=>absurd (show b∈([]:O Z) from c) QS,ay,.of_eq hg⟩;refine mh ((F _ WZ (D WY)).run callerA [] bM H ⟨[.ref a],[]⟩ [.ref a] [.ref a] _ _ hr e0 (R bM (.ref a)) (.cons rfl .nil) (mZ H hO hS)) λr f h=>?_;cases r with
  |error e=>exact(Mq H e f h).elim
  |ok fl=>
   cases fl with
   |next=>exact False.elim h
   |brk=>exact False.elim h
   |cont=>exact False.elim h
   |ret u=>
    obtain⟨v,H',os,y,un,LJ,r',q⟩:=h;have q':=q;subst q';obtain rfl:u=Value.bool af:=r';refine⟨rfl,OldK.of_keep λb o e=>?_,os,y⟩;cases q:H b with
    |none=>exact un.keep b o e q (by intro z;exact absurd (show b∈([]:O Z) from z) QS) QS
    |some u=>
     rcases hO b with z|⟨ob,xs,z⟩;·rw[q] at z;cases z
     ·have z2:=un.i8 b ob _ z;obtain⟨e1,_⟩:=ay b _ z;obtain⟨e2,_⟩:=LJ b _ z2;rw[e] at e1;cases e1;exact e2
 cases G:K.lookup a with
 |some o=>
  --X SS is one of X ZlQ own objects
  have e:=KX a o G;rw[A] at e;cases e;refine i (λ_=>aG) (λ_=>.inl rfl) (.inr ⟨_,j.toArray,_,G,rfl,rfl,rfl,by rwa[Yv,N],by simpa using W⟩) (λb u z=>by have l:=z;cases l) (λ b=>absurd rfl) λz=>absurd rfl z
 |none=>
  refine i (λb=>if b=a then U (.bU {cls:=.type "list",data:=.seq j.toArray} (.lst (p.map V.int))) else aG) (λb=>?_) (.inl (.inr ⟨{cls:=.type "list",data:=.seq j.toArray},bS rfl⟩)) (λb u z=>?_) (λb z=>?_) λ_=>G
  ·by_cases c:b=a;·exact .inr ⟨_,_,bS c⟩
   ·exact .inl (bt c)
  ·by_cases c:b=a
   ·have l:=(bS c).symm.trans z;cases l;subst c;exact⟨A,by rwa[Ya],j,_,W,A⟩
   ·have l:=(bt c).symm.trans z;cases l
  ·by_cases c:b=a;·exact c
   ·exact absurd (bt c) z
def Zga{l:PySem.W.OpenLaw}{n k:Nat}{q:dv}{i:O ar}{X:(ar->bR a7)->cO->Prop}{B:dg->cO->Prop}{d:DefRec}{K:Params->ah}{D:dg->lG}{A:dg->Sp}{x:ar}
  (J:l.most=U n)(R:n<=sizeLine)(Aw:d.params.defaults=[])(I:cK k callerA)
  (P:∀(w:dg) (h:cO),B w h->(K w.params).In h)
  (F:∀(w:dg) (m:aS) (r:Z) (h:cO),(K w.params).In h->h.Ns mainGlobals m->m d.name=U (.ref r)->
   ∃y:FuncData,(∀(s:cb) (u:a7),BindsTo s y ⟨[u],[]⟩ [(x,u)])/\
    ∀c:cO,(K w.params).In c->c.Ns mainGlobals m->aB l.prog w (K w.params) m c (D w) k r y [x] (A w))
  (E:∀(w:dg) (H:Hp) (a:Z) (p:O Int),p.length<=n->LI H->aq (K w.params) H a (p.map V.int)->A w [.ref a] H (λv _=>v=.bl af) λ_ _ _=>False)
  (Mq:∀(w:dg) (H:Hp) (s:cb) (e:a7) (t:cb),D w [] H s (λ_ _ _=>False) e t->False):
  PySem.W.WalkO q i X B l.row.toRowW d [] (λf z=>PySem.call f z):=by
 refine WX.Zb0 J Aw λw di W m mb r o pm cd T a z p G b ho hd fZ Ax LH j g L=>?_;have C:=P w _ b;obtain⟨y,N,Q⟩:=F w m r _ C G.T.g Ax;exact ZeR C G.T.g G.T.b G.T.builtins G.T.nolimit L LH j (Yz g R) I Q N (λ H=>E w H a p g) λH e t=>Mq w H W e t
def inClass(s:cj)(j:Nat):cj:=match s with
 |.ClassDef _ _ _ body _ _ _ _ _ _ _=>body.getD j (.Pass ⟨0,0,0,0⟩)
 |_=>.Pass ⟨0,0,0,0⟩
def mJ(s:cj):Arguments:=match s with
 |.FunctionDef _ a _ _ _ _ _ _ _ _=>a
 |_=>{posonlyargs:=[],args:=[],vararg:=aG,kwonlyargs:=[],kw_defaults:=[],kwarg:=aG,defaults:=[]}
def js(s:cj):O cj:=match s with
 |.FunctionDef _ _ b _ _ _ _ _ _ _=>b
 |_=>[]
def aJ(s:cj):Scope:=match s with
 |.FunctionDef _ _ _ _ _ _ sc _ _ _=>sc
 |_=>{kind:=.function,names:=[],isGenerator:=a8,isCoroutine:=a8}
abbrev aL:lG:=λ_ _ _ _ _ _=>False
abbrev E0:XK:=λ_ _ _=>False
def xH:Passes aL X E0:=λ_ _ _ _ _ _ _ h=>h.elim
structure aM(K:ah)(x qual:ar)(st:cj)(f:Z)(fd:FuncData):Prop where
 ex:∃(oc:a7) (od:bR Z) (kV doc pm:a7) (an:bR Z) (bw ct:a7) (jF:dt (bR a7)),
  fd=fnOf x qual (mJ st) (js st) (aJ st) .none kV doc pm an bw ct/\K.lookup f=U ⟨oc,od,.func fd,jF⟩/\codeIn K bw qual=af
 kp:keepIn K (.ref f)=af
section
variable {P:dv}{w:dg}{K:ah}{W:aS}{X:cO}
def aM.ok{x c:ar}{e:cj}{f:Z}{l:FuncData}{N i:O ar}{k:Nat}{sp:Sp}(F:aM K x c e f l)(a:aP N i (aJ e))(j:∀d H Q E,sp d H Q E->d.length=i.length)
  (m:∀(g:a7) (A:fI) (b:O Env) (s:cb) (H:Hp) (d:O V) (Q:VK) (E:XK),cK k (A.deeper (envOfC c (aJ e) s.heap.objs.size f g))->sp d H Q E->
   ∃t,fQ (lC aL P w K W X N c (aJ e) f g A b s H E).pA (js e) t/\t {nx:=λ_ v=>Q .aE v,rt:=Q} (start N d) H):aB P w K W X aL (k+1) f l i sp:=by
 obtain⟨B,z,kV,u,y,G,g,D,C,rfl,o,r⟩:=F.ex;refine La o r a j λA b s H d Q E p n=>?_;obtain⟨t,h,q⟩:=m g A b s H d Q E p n;exact⟨t,h.pA,q⟩
def aM.binds{b:cj}(F:aM K x qual b f fd)
  (h:∀(kV a d:a7) (i:bR Z) (g e:a7) (c:O a7),c.length=j.length->bindArgs (fnOf x qual (mJ b) (js b) (aJ b) .none kV a d i g e) ⟨c,[]⟩=pure (j.zip c)):Binds K fd j []:=by
 obtain⟨l,k,kV,a,d,i,g,e,n,rfl,m,o⟩:=F.ex;exact .all (h kV a d i g e)
def zL{x a:ar}{st:cj}{f:Z}{m:a7}{j i:bR Z}{n:dt (bR a7)}{g b e d h:a7}(l:K.lookup f=U ⟨m,j,.func (fnOf x a (mJ st) (js st) (aJ st) .none g b e i d h),n⟩)
  (c:codeIn K d a=af)(k:keepIn K (.ref f)=af):aM K x a st f (fnOf x a (mJ st) (js st) (aJ st) .none g b e i d h):=⟨⟨m,j,g,b,e,i,d,h,n,rfl,l,c⟩,k⟩
end
def bF(a:cK k A):A.units+1<cLine:=Jb (YD (by decide:1<=64) _) a.units
def kU(h:n<=1000):n<sizeLine:=Jb h QD
section
variable {X:Cx}
def pv(i:Nat){x:ar}{a:Pos}(d:X.N[i]?=U x:=by rfl)(b:ve X.env.scope x:=by first|exact hP rfl|exact kO (hP rfl)|exact kO (kO rfl))(c:(x==("__debug__":ar))=a8:=by decide)
  (e:(x==("__classdict__":ar))=a8:=by decide):PE X (.Name x a) (gX i):=Zhg d b c e
end
def bW{A B:Prop}(h:B):if a8=af then A else B:=by
 grind
def cZ{A B:Prop}(h:A):if af=af then A else B:=by
 grind
def bc{c A B:Prop}[Decidable c](b:c->A)(a:¬c->B):if c then A else B:=by
 simp_all
def xI{c A B:Prop}[Decidable c](a:c)(h:B):if(!decide c)=af then A else B:=by
 grind
def ai(H a:Hp):Prop:=∀b o,H b=U o->a b=U o
def ai.refl(H:Hp):ai H H:=λ_ _ h=>h
def ai.trans{H d H2:Hp}(a:ai H d)(b:ai d H2):ai H H2:=λc o h=>b c o (a c o h)
theorem ai.free(e:ai H a)(h:a l=Option.none):H l=Option.none:=by
 cases q:H l with
 |none=>rfl
 |some o=>
  rw[e l o q] at h;cases h
def ai.seq{K:ah}(e:ai H b)(h:aq K H a xs):aq K b a xs:=by
 rcases h with(h|⟨o,h⟩)|h;·exact .inl (.inl (e _ _ h))
 ·exact .inl (.inr ⟨o,e _ _ h⟩)
 ·exact .inr h
def rU(a:O (ar×Z)):O (ar×Z)->Prop
 |[]=>True
 |p::r=>a.lookup p.1=U p.2/\rU a r
theorem rU.look:∀{d:O (ar×Z)},rU cells d->∀(x:ar) (c:Z),d.lookup x=U c->cells.lookup x=U c
 |[],_,x,c,h=>by simp at h
 |(n,a)::r,b,x,c,h=>by
  rw[Wy] at h;cases e:x==n with
  |true=>
   rw[e] at h;rw[(eq_of_beq e),←(Yn h)];exact b.1
  |false=>
   rw[e] at h;exact rU.look b.2 x c h
theorem Gr{a:Env}:∀{b:O (ar×NameKind)} {x:ar} {k:NameKind},
  (b.map λ(n,k)=>if(k==NameKind.free&&a.scope.kind==.function&&a.kindOf n==U .cell) then(n,NameKind.cell) else(n,k)).lookup x=U k->
  ∃c,(x,c)∈b/\(k=c\/c=.free)
 |[],_,_,h=>by simp at h
 |(n,c)::r,x,k,h=>by
  have h:List.lookup x ((if(c==NameKind.free&&a.scope.kind==.function&&a.kindOf n==U .cell)=af then(n,NameKind.cell) else(n,c))::(r.map λ(n,k)=>if(k==NameKind.free&&a.scope.kind==.function&&a.kindOf n==U .cell) then(n,NameKind.cell) else(n,k)))=U k:=h;by_cases d:(c==NameKind.free&&a.scope.kind==.function&&a.kindOf n==U .cell)=af
  ·rw[bS d,Wy] at h;cases e:x==n with
   |true=>grind
   |false=>
    rw[e] at h;obtain⟨f,m,q⟩:=Gr h
    grind
  ·rw[bt d,Wy] at h;cases e:x==n with
   |true=>grind
   |false=>
    rw[e] at h;obtain⟨f,m,q⟩:=Gr h
    grind
structure Ta(X:Cx)(scope:Scope)(cl:O (ar×Z))(y:ar)(j:Nat):Prop where
 ix:X.N[j]?=U y
 out:X.env.kindOf y=U .cell\/X.env.kindOf y=U .free
 vA:(relabel scope X.env).names.lookup y=U .cell\/(relabel scope X.env).names.lookup y=U .free
 cl:(cl.lookup y).isSome=af
def rV(X:Cx)(a:Scope)(b:O (ar×Z)):O (ar×Nat)->Prop
 |[]=>True
 |p::r=>Ta X a b p.1 p.2/\rV X a b r
theorem rV.get:∀{b:O (ar×Nat)} {k:Nat} {p:ar×Nat},rV X scope cl b->b[k]?=U p->Ta X scope cl p.1 p.2
 |[],k,p,_,h=>by simp at h
 |q::r,0,p,a,h=>by
  have e:q=p:=by simpa using h
  exact e▸a.1
 |q::r,k+1,p,a,h=>rV.get a.2 (by simpa using h)
structure zo(X:Cx)(scope:Scope)(cl:O (ar×Z))(x:ar)(fr:O (ar×Nat)):Prop where
 xO:closureFor scope X.env=pure cl
 sub:rU X.env.cells cl
 kind:scope.kind=.function
 names:∀y∈scope.names,y.2=.local->scope.names.lookup y.1=U .local
 lx:scope.names.lookup x=U .local
 CT:∀y∈scope.names,y.2≠.cell
 has:(scope.names.all λy=>!(y.2==.free)||(cl.lookup y.1).isSome)=af
 cX:rV X scope cl fr
 nd:(x::fr.map (·.1)).Nodup
def iJ(a:St)(b:O (ar×Nat)):St:=b.map λp=>(a[p.2]?).join
structure rF(X:Cx)(scope:Scope)(cl:O (ar×Z))(xs:O ar)(fr:O (ar×Nat)):Prop where
 xO:closureFor scope X.env=pure cl
 sub:rU X.env.cells cl
 kind:scope.kind=.function
 names:∀y∈scope.names,y.2=.local->scope.names.lookup y.1=U .local
 CT:∀y∈scope.names,y.2≠.cell
 has:(scope.names.all λy=>!(y.2==.free)||(cl.lookup y.1).isSome)=af
 cX:rV X scope cl fr
 nd:(xs++fr.map (·.1)).Nodup
def c8(X:Cx)(b:O ar)(c:O (ar×Nat))(a:Scope)(e:O (ar×Z))(C:Z)(s:cb)(H:Hp)(d:O Z):Cx where
 prog:=X.prog
 w:=X.w
 K:=X.K
 mg:=X.mg
 base:=X.base
 A:=X.A
 N:=b++c.map (·.1)
 di:=s
 kA:=H
 env:=compEnvC a e C X.env
 outer:=X.stack
 stack:=X.stack
 ex:=d
 fn:=λ_=>a8
 calm:=X.calm
 pn:=[]
 xe:=λ_ _=>False
theorem ZdQ(a:rF X scope cl xs fr)(I:Inv X pins σ H s)(D:C=s.heap.objs.size)(t:∀b∈fp,jA X pins H b)(bJ:∀b∈fp,b<s.heap.objs.size)
  (g:∀b o,s.heap.get? b=U o->E.get? b=U o)(W:E.Ns C m):Inv (c8 X xs fr scope cl C s H fp) [] (List.replicate xs.length aG++iJ σ fr) H {s with heap:=E,toks:=tk}:=by
 have look:=a.sub.look;refine⟨⟨I.ok.mod,a.kind,I.ok.glob,I.ok.blt,by exact D▸Yd _,λy z c d f=>I.ok.inj y z c (look y c d) (look z c f),λy w=>?_,λy c h=>?_,I.ok.hd,I.ok.frames,.inl rfl,λb j=>⟨?_,λy c h=>?_⟩,
   I.bs,Yz I.ok.oa I.sz,λb o e j=>?_,λb j B=>?_,I.stack,I.Ca⟩,
  rfl,I.bare,Un.kept g,⟨m,W,λi y v d f h3=>?_⟩,λy c h=>?_,?_,λy c h=>I.i4 y c (look y c h),λp T=>absurd (show p∈([]:a9) from T) QS,I.ay.kept g,?_⟩
 ·have w:=w;have fin:∀{k:NameKind},(relabel scope X.env).names.lookup y=U k->(k=.cell\/k=.free)->∃c,cl.lookup y=U c:=λ{k} e hk=>by
   obtain⟨R,J,q⟩:=Gr e;have A:R=.free:=by
    rcases q with q|q
    ·rcases hk with z|z;·exact absurd (q.symm.trans z) (a.CT _ J)
     ·exact q.symm.trans z
    ·exact q
   have G:=Wq.mp a.has _ J;rw[A] at G;exact Je.mp (by simpa using G)
  rcases w with e|e;·exact fin e (.inl rfl)
  ·exact fin e (.inr rfl)
 ·exact absurd (h) Yh
 ·exact λz=>absurd (bJ b j) (by rw[z,D];exact Wc _)
 ·exact(t b j).2.2.2.2.1 y c (look y c h)
 ·obtain⟨_,_,_,z,_⟩:=t b j;rcases z with z|z;·exact I.ok.uO b o e z
  ·have d:=Yr e;have f:=I.ok.oa;exact absurd (Y2 d (Yz f z)) (Wc _)
 ·have z:=I.Kp b B;rcases Yq.mp z with z|z;·exact(t b j).2.1 z
  ·exact(t b j).2.2.1 z
 ·by_cases L:i<xs.length;·grind
  ·have d:(xs++fr.map (·.1))[i]?=U y:=d;rw[Jw (VB L)] at d;rw[Jw (by exact W4▸VB L),W4] at f;generalize i-xs.length=k at d f;have f:(fr.map λp=>(σ[p.2]?).join)[k]?=U (U v):=f;rw[Ye] at d f;cases e:fr[k]? with
   |none=>rw[e] at d;cases d
   |some p=>
    rw[e] at d f;have e1:p.1=y:=Yn d;have Q:(σ[p.2]?).join=U v:=Yn f;have F:=a.cX.get e;rw[e1] at F;have e3:σ[p.2]?=U (U v):=by
     cases q:σ[p.2]? with
     |none=>rw[q] at Q;cases Q
     |some o=>simp_all
    obtain⟨m0,_,hl⟩:=I.loc;have Mj:ve X.env.scope y:=by
     rcases F.out with z|z;·exact .inr (.inl z)
     ·exact .inr (.inr z)
    obtain⟨u,r,l⟩:=hl p.2 y v F.ix e3 Mj;refine⟨u,r,.inr ⟨F.vA,?_⟩⟩;obtain⟨c,N⟩:=Je.mp F.cl;refine⟨c,N,?_⟩;rcases l with⟨n,_⟩|⟨_,c',e',z⟩
    ·rcases F.out with q|q;·rw[q] at n;cases n
     ·rw[q] at n;cases n
    ·have P:=look y c N;rw[e'] at P;cases P;obtain⟨o,x,hd⟩:=z;exact⟨o,g _ _ x,hd⟩
 ·obtain⟨v,o,x,hd⟩:=I.cell y c (look y c h);exact⟨v,o,g _ _ x,hd⟩
 ·exact D▸I.ay.fresh (Yd _)
 ·show(List.replicate xs.length aG++iJ σ fr).length=(xs++fr.map (·.1)).length;simp[iJ]
abbrev xB(X:Cx)(x:ar)(b:O (ar×Nat))(a:Scope)(d:O (ar×Z))(C:Z)(s:cb)(H:Hp)(c:O Z):Cx:=c8 X [x] b a d C s H c
theorem Z3(I:Nat->cb->Prop)
  (d:∀n s,I n s->wpAny (model prog w) A (pyNext it) (λr i=>match r with
   |none=>R (.ok .next) i
   |some v=>wpAny (model prog w) A (letOwnedTupleGo target it v) (λ_ q=>wpAny (model prog w) A (assign target env v) (λ_ p=>
     wpAny (model prog w) A (forIn ifs af λc r=>if r=af then do let ok←isTrue c env (eval c env);pure (ForInStep.yield ok) else pure (ForInStep.yield r)) (λok g=>
      if ok=af then wpAny (model prog w) A (eval elt env) (λx l=>
       wpAny (model prog w) A (call (.builtin "list.append") [acc,x]) (λ_ k=>∃m,m<n/\I m k) (notedBy (model prog w) A env λe a=>R (.error e) a) l) (notedBy (model prog w) A env λe a=>R (.error e) a) g
      else ∃m,m<n/\I m g) (notedBy (model prog w) A env λe a=>R (.error e) a) p) (notedBy (model prog w) A env λe a=>R (.error e) a) q) (notedBy (model prog w) A env λe a=>R (.error e) a) i) (notedBy (model prog w) A env λe a=>R (.error e) a) s)
  (n:Nat)(h:I n s):codeAny (model prog w) A (.compLoop (.ListComp elt [⟨target,iter,ifs,0⟩] scope pos) 0 it acc env) R s:=by
 refine xm rfl I (λn s z=>ya (bo (kZ (bo (eF (d n s z) (λr i o=>?_) λ_ _ b=>b))))) n h;cases r with
 |none=>exact cq o
 |some v=>
  refine bo (eF o (λ_ q f=>bo (eF f (λ_ p y=>bo (eF y (λok g j=>?_) λ_ _ b=>b)) λ_ _ b=>b)) λ_ _ b=>b);cases ok with
  |false=>exact cq ⟨rfl,j⟩
  |true=>
   exact bo (bo (eF j (λx l u=>bo (eF u (λ_ k t=>cq (cq ⟨rfl,t⟩)) λ_ _ b=>b)) λ_ _ b=>b))
def vB(X:Cx)(d:O cM)(t:TT):Prop:=
 ∀(a:a9) (s:cb) (b:St) (H:Hp) (Q:cm->Hp->Prop),Inv X a b H s->t b H Q->
  wpAny X.md X.A (forIn d af λc r=>if r=af then do let ok←isTrue c X.env (eval c X.env);pure (ForInStep.yield ok) else pure (ForInStep.yield r)) (TP X a b Q) X.xe s
def C_:TT:=λ_ H Q=>Q af H
def nI:vB X [] C_:=λ_ _ _ H _ I h=>vJ ⟨H,I,h⟩
def xu(h:PT X c t):vB X [c] t:=λa s b H Q I d=>wpAny_tests_one (h a s b H Q I d)
def Ku(n:Nat)(J:It)(o:TG)(l:TT)(p:TE)(h:St)(D:Z)(H:Hp)(Q:VK):Prop:=
 ∃W:Nat->Nat->O V->Hp->Prop,(∃m,W 0 m [] (upd H D (.lst [])))/\∀i m a H,W i m a H->
  (J.stop i H/\Q (.ref D) H)\/(J.go i H/\∃N:O V->Hp->Prop,(∀g b,N g b->∃e,e<m/\W (i+1) e g b)/\
   ∀v b,J.sY i H v b->∀os:St,os.length=n->o v (os++h) b λd q=>(∃f:St,f.length=n/\d=f++h)/\l d q λc k=>if c=af then p d k λy j=>j D=U (.lst a)/\a.length<sizeLine/\N (a++[y]) (upd j D (.lst (a++[y]))) else N a k)
def Qg{h:Hp}{s2:cb}{L:Z}{g:O Z}{A:Nat->cO->Prop}{J:It}{Q:VK}{F:a7->Z->Result->cb->Prop}{E:bg}{rest:O Comprehension}(a:rF X d cl xs fr)
  (I2:Inv X pins σ h s2)(T:Turn X.prog X.w X.K tgt J g L A)(eW:A 0 s2.heap)(l:∀b∈g,jA X pins h b)
  (hR:∀D C H H1 m,Inv X pins σ H1 H->H.heap.Ns C m->H1 C=aG->C≠X.env.locals->X.di.heap.objs.size<=C->(∀y c,X.env.cells.lookup y=U c->c≠C)->(∀p∈X.pn++pins,p.1≠C)->Q (.ref D) H1->F (.ref D) C (.ok .next) H)
  (hl:∀(D C:Z) (s:cb) (x:Hp) (t:cb),h D=aG->x=upd h D (.lst [])->Inv (c8 X xs fr d cl C s x g) [] (List.replicate xs.length aG++iJ σ fr) x t->A 0 t.heap->(∀b∈g,x b=aG)->
   (∀B DU G,Inv (c8 X xs fr d cl C s x g) [] DU G B->Q (.ref D) G->F (.ref D) C (.ok .next) B)->
   codeAny X.md X.A (.compLoop (.ListComp elt (⟨tgt,iter,ifs,0⟩::rest) d pos) 0 (.ref L) (.ref D) (compEnvC d cl C X.env)) (F (.ref D) C) t):
  wpAny X.md X.A (newList []) (λw t=>wpAny X.md X.A (newFunctionEnv d X.env.globals cl [] X.env.qual aG .none (U X.env)) (λnZ jC=>
   codeAny X.md X.A (.compStart (.ListComp elt (⟨tgt,iter,ifs,0⟩::rest) d pos) 0 (.ref L) w {nZ with scope:=relabel d X.env}) (F w nZ.locals) jC) E t) E s2:=by
 refine me (wpAny_newFunctionEnv a.CT (by intro y hy;simp at hy) (λiO W R=>?_) a.kind);dsimp only at W R⊢;have j:Inv X pins σ (upd h s2.heap.objs.size (.lst [])) {s2 with heap:=s2.heap.push {cls:=.type "list",dict:=aG,data:=.seq ([]:O a7).toArray}}:=
  I2.laid (t':=s2.toks) (λb u e=>Yb _ e) (Yd _) ⟨Yx _,[],0,.nil,Yp _ rfl⟩
 have P:h s2.heap.objs.size=aG:=I2.ay.fresh (Yd _);have Vm:∀b∈g,b<s2.heap.objs.size:=λb f=>by
  obtain⟨o,e,_⟩:=T.obj _ _ eW b f;exact Yr e
 generalize W_:s2.heap.push {cls:=.type "list",dict:=aG,data:=.seq ([]:O a7).toArray}=k at W R j⊢;have hC:k.objs.size=s2.heap.objs.size+1:=by rw[←W_,Jm]
 have r:∀b o,k.get? b=U o->iO.get? b=U o:=λb o e=>R.extBut b o (Yy (Yr e)) (Yb _ e);have f3:∀b∈g,jA X pins (upd h s2.heap.objs.size (.lst [])) b:=λb f=>by
  have:=Vm b f;exact⟨by rw[aK (Yy this)];exact(l b f).1,(l b f).2⟩
 have I:∀b∈g,b<k.objs.size:=λb f=>by
  rw[hC];exact Wv (Vm b f)
 have yg:A 0 iO:=T.keep _ _ _ eW λb f o e=>r b o ((λb o e=>W_▸Yb _ e) b o e);have I4:Inv (c8 X xs fr d cl k.objs.size {s2 with heap:=k} (upd h s2.heap.objs.size (.lst [])) g) [] (List.replicate xs.length aG++iJ σ fr) (upd h s2.heap.objs.size (.lst [])) {s2 with heap:=iO,toks:=s2.toks+([]:O (ar×a7)).length}:=
  ZdQ a j rfl f3 I r W
 have i:=hl s2.heap.objs.size k.objs.size {s2 with heap:=k} _ {s2 with heap:=iO,toks:=s2.toks+([]:O (ar×a7)).length} P rfl I4 yg (λb f=>(f3 b f).1) λB DU G n qn=>by
   obtain⟨m,N,_⟩:=n.loc;have I7:=j.K8 n.os n.base n.ay n.bare λb f=>⟨(l b f).2.2.2.1,(l b f).2.1,(l b f).2.2.2.2.1,(l b f).2.2.2.2.2⟩;refine hR _ _ B G m I7 N n.free ?_ ?_ (λy c e z=>?_) (λp hp z=>?_) qn;·exact Ja j.lt
   ·exact j.sz
   ·obtain⟨v,q⟩:=j.cell y c e;exact absurd q.lt (by exact z▸Wc _)
   ·exact absurd (Yr (j.pin p hp).1) (by exact z▸Wc _)
 exact codeAny_compStart_list i (T.self _ 0 _ _ _ yg i)
theorem OK{H2:Hp}{s2:cb}{it:Z}{g:O Z}{L:Nat->cO->Prop}{J:It}{Q:VK}{RR:a7->Z->Result->cb->Prop}{E:bg}
  (hc:X.calm=af)(a:rF X f cl xs fr)(hg:∀C s H g,PG (c8 X xs fr f cl C s H g) B tg)
  (ht:∀C s H g,vB (c8 X xs fr f cl C s H g) ifs tt)(he:∀C s H g,PE (c8 X xs fr f cl C s H g) elt te)
  (I2:Inv X pins σ H2 s2)(T:Turn X.prog X.w X.K B J g it L)(eW:L 0 s2.heap)(f2:∀b∈g,jA X pins H2 b)
  (hw:∀D,H2 D=aG->Ku xs.length J tg tt te (iJ σ fr) D H2 Q)
  (hR:∀D C s1 H1 m,Inv X pins σ H1 s1->s1.heap.Ns C m->H1 C=aG->C≠X.env.locals->X.di.heap.objs.size<=C->(∀y c,X.env.cells.lookup y=U c->c≠C)->(∀p∈X.pn++pins,p.1≠C)->Q (.ref D) H1->RR (.ref D) C (.ok .next) s1):
  wpAny X.md X.A (newList []) (λG eU=>wpAny X.md X.A (newFunctionEnv f X.env.globals cl [] X.env.qual aG .none (U X.env)) (λnZ jC=>
   codeAny X.md X.A (.compStart (.ListComp elt [⟨B,iter,ifs,0⟩] f pos) 0 (.ref it) G {nZ with scope:=relabel f X.env}) (RR G nZ.locals) jC) E eU) E s2:=by
 refine Qg (rest:=[]) a I2 T eW f2 hR λD C s t eU hD e3 I4 yg yc fin=>?_;obtain⟨W,⟨m0,w0⟩,A⟩:=hw D hD;rw[←e3] at w0;refine Z3 (λk s'=>∃i l H' os,os.length=xs.length/\Inv (c8 X xs fr f cl C s t g) [] (os++iJ σ fr) H' s'/\L i s'.heap/\(∀b∈g,H' b=aG)/\W i k l H') ?_ m0
  ⟨0,[],_,List.replicate xs.length aG,W4,I4,yg,yc,w0⟩
 rintro n s5 ⟨i,l,H5,os,qS,I,qR,vq,w5⟩;have nX:∀{H':Hp},(∀b∈g,H' b=aG)->∀b∈g,jA (c8 X xs fr f cl C s t g) [] H' b:=λ{H'} hn b j=>
  ⟨hn b j,(I.ok.sW b j).1,I.ok.sC b j,.inl j,(I.ok.sW b j).2,λp hp=>absurd (show p∈([]:a9) from hp) QS⟩
 rcases A i n l H5 w5 with⟨F,qn⟩|⟨go,N,hN,step⟩
 ·refine aA (T.done (c8 X xs fr f cl C s t g) rfl rfl rfl hc i [] s5 _ H5 _ I (nX vq) qR F) λr s6 h=>?_;obtain⟨hr,I6⟩:=h;subst hr;exact fin _ _ _ I6 qn
 ·refine aA (T.item (c8 X xs fr f cl C s t g) rfl rfl rfl hc i [] s5 _ H5 _ I (nX vq) qR go) λr s6 h=>?_;obtain⟨u,hr,h6⟩:=h;subst hr;refine aA h6 λ_ s7 h=>?_;obtain⟨v,H7,I7,r7,y7,vC,Mr⟩:=h;have Ms:=I7.pinned (nX Mr) (T.obj _ _ vC);refine eF (hg _ _ _ _ _ s7 _ H7 v u _ Ms r7 (step v H7 y7 os qS)) (λ_ s8 h=>?_) λ _ _=>False.elim;obtain⟨σ8,H8,I8,⟨lI,LK,e8⟩,q8⟩:=h;subst e8;have again:∀{R:St} {q:Hp} {w:cb} {P:O V},R.length=xs.length->Inv (c8 X xs fr f cl C s t g) ([]++r6 g s7.heap) (R++iJ σ fr) q w->N P q->
    ∃m,m<n/\∃i l H' os,os.length=xs.length/\Inv (c8 X xs fr f cl C s t g) [] (os++iJ σ fr) H' w/\L i w.heap/\(∀b∈g,H' b=aG)/\W i m l H':=λ{R q w P} l1 x n9=>by
   obtain⟨m',hm,w9⟩:=hN P q n9;refine⟨m',hm,i+1,P,q,R,l1,x.xg,T.keep _ _ _ vC λb j o e=>(x.pin (b,o) (Ys _ (Ys _ (rE j e)))).1,λb j=>?_,w9⟩;obtain⟨o,e,d⟩:=T.obj _ _ vC b j;exact(x.pin (b,o) (Ys _ (Ys _ (rE j e)))).2.1
  refine eF (ht _ _ _ _ _ s8 _ H8 _ I8 q8) (λok w h=>?_) λ _ _=>False.elim;obtain⟨q,x,q9⟩:=h;cases ok with
  |false=>
   rw[bt Yh] at q9⊢;exact again LK x q9
  |true=>
   rw[bS rfl];rw[bS rfl] at q9;refine eF (he _ _ _ _ _ w _ q _ x q9) (λu1 Mt h=>?_) λ _ _=>False.elim;obtain⟨y,qV,Mu,r10,hD,hz,qW⟩:=h;refine eF (zm (X:=c8 X xs fr f cl C s t g) _ Mt _ qV (.ref D) [y] _ [u1] (λ_ H'=>N (l++[y]) H') Mu rfl (.cons r10 .nil) ⟨_,l,y,rfl,rfl,hD,hz,qW⟩) (λ_ Mv h=>?_) λ_ _ z=>False.elim z;obtain⟨_,Ay,DZ,_,q11⟩:=h;exact again LK DZ q11
def jW(J:It)(j:TT)(k:TE)(f:St)(D:Z)(H:Hp)(Q:VK):Prop:=
 ∃W:Nat->Nat->O V->Hp->Prop,(∃m,W 0 m [] (upd H D (.lst [])))/\∀i m a H,W i m a H->
  (J.stop i H/\Q (.ref D) H)\/(J.go i H/\∃N:O V->Hp->Prop,(∀e b,N e b->∃d,d<m/\W (i+1) d e b)/\
   ∀v b,J.sY i H v b->j (U v::f) b λc h=>if c=af then k (U v::f) h λy g=>g D=U (.lst a)/\a.length<sizeLine/\N (a++[y]) (upd g D (.lst (a++[y]))) else N a h)
section
variable {X:Cx}{G P:cM}{x:ar}{w F:Pos}{L:O cM}{R:Scope}{cl:O (ar×Z)}{fr:O (ar×Nat)}{B:TT}{A:TE}{σ:St}
theorem Pq{f:Hp}{s2:cb}{n:Z}{d:O Z}{k:Nat->cO->Prop}{J:It}{Q:VK}{r:a7->Z->Result->cb->Prop}{E:bg}
  (hc:X.calm=af)(a:zo X R cl x fr)
  (ht:∀C s H d,vB (xB X x fr R cl C s H d) L B)(he:∀C s H d,PE (xB X x fr R cl C s H d) G A)
  (I2:Inv X pins σ f s2)(T:Turn X.prog X.w X.K (.Name x w) J d n k)(eW:k 0 s2.heap)(f2:∀b∈d,jA X pins f b)
  (I:∀D,f D=aG->jW J B A (iJ σ fr) D f Q)
  (hR:∀D C g j m,Inv X pins σ j g->g.heap.Ns C m->j C=aG->C≠X.env.locals->X.di.heap.objs.size<=C->(∀y c,X.env.cells.lookup y=U c->c≠C)->(∀p∈X.pn++pins,p.1≠C)->Q (.ref D) j->r (.ref D) C (.ok .next) g):
  wpAny X.md X.A (newList []) (λe eU=>wpAny X.md X.A (newFunctionEnv R X.env.globals cl [] X.env.qual aG .none (U X.env)) (λl u=>
   codeAny X.md X.A (.compStart (.ListComp G [⟨.Name x w,P,L,0⟩] R F) 0 (.ref n) e {l with scope:=relabel R X.env}) (r e l.locals) u) E eU) E s2:=by
 refine OK (xs:=[x]) hc ⟨a.xO,a.sub,a.kind,a.names,a.CT,a.has,a.cX,a.nd⟩ (λC s H d=>rT (i:=0) a.nd rfl (.inl (Eh a.lx)) (.inr (Eh a.lx))) ht he I2 T eW f2 (λD hD=>?_) hR;obtain⟨W,h0,h⟩:=I D hD;refine⟨W,h0,λi m t H p=>?_⟩;rcases h i m t H p with z|⟨z,N,hN,q⟩;·exact .inl z
 ·refine .inr ⟨z,N,hN,λv H' y os hl=>?_⟩;match os,hl with
  |[o],_=>exact⟨⟨[U v],rfl,rfl⟩,q v H' y⟩
def Uu(b:TI)(fr:O (ar×Nat))(B:TT)(A:TE):TE:=λσ H Q=>b σ H λJ a=>∀D,a D=aG->jW J B A (iJ σ fr) D a Q
def jS(o:X.calm=af)(a:zo X R cl x fr)(l:PI X (.Name x w) P c)
  (i:∀C s H fp,vB (xB X x fr R cl C s H fp) L B)(n:∀C s H fp,PE (xB X x fr R cl C s H fp) G A)
  (j:∀x,foldedSetIterable P X.env x=pure x:=by intro _;rfl):PE X (.ListComp G [⟨.Name x w,P,L,0⟩] R F) (Uu c fr B A):=by
 intro b s σ H Q I h;refine sq rfl j a.xO a.kind a.names (aA (l b s σ H _ I h) λv d r=>aA r λvh s2 p=>?_);obtain⟨it,fp,tn,J,H2,e,I2,T,W,z,g⟩:=p;subst e;refine Pq o a i n I2 T W z g ?_;intro D C d H1 m I1 k N E y u t q;exact⟨m,k,λh' f=>⟨.ref D,H1,I1.turned (f.extBut) N E (.inr y) u t,rfl,q⟩⟩
def ZcP(hc:X.calm=af)(hN:X.N.Nodup)(f:X.N[i]?=U y)(r:Loc X.env.scope y)(b:zo X R cl x fr)(W:PI X (.Name x w) P l)
  (u:∀C s H fp,vB (xB X x fr R cl C s H fp) L B)(he:∀C s H fp,PE (xB X x fr R cl C s H fp) G A)
  (d:swapsWith (.ListComp G [⟨.Name x w,P,L,0⟩] R F) (U (.Name y py)) j.line X.env=pure af:=by with_unfolding_all rfl)
  (hf:X.fn y=af\/X.env.scope.names.lookup y=U .local:=by first|exact .inl rfl|exact .inr rfl|assumption)
  (E:∀x,foldedSetIterable P X.env x=pure x:=by intro _;rfl):PS X (.Assign [.Name y py] (.ListComp G [⟨.Name x w,P,L,0⟩] R F) j) (uR (Uu l fr B A) (qz i)):=by
 intro c s σ H D I h;rw[exec_Assign_Name_used _ _ _ _ d];refine bo (kZ (bo ?_));show wpAny _ X.A (do let _←comprehension (.ListComp G [⟨.Name x w,P,L,0⟩] R F) R X.env _ (newList []) a8 (eval P X.env) (U (assign (.Name y py) X.env))) _ _ s;refine bo (eF (sq rfl E b.xO b.kind b.names
  (aA (W c s σ H _ I h) λv o h1=>aA h1 λvh s2 h2=>?_)) (λ_ s' N=>cq (cq N)) λ_ _ e=>e)
 obtain⟨it,fp,tn,J,H2,e,I2,T,eW,f2,t⟩:=h2;subst e;refine Pq hc b u he I2 T eW f2 t ?_;intro Dl C o H1 m I1 Q f0 f1 f3 k f5 q;refine Np (Pj I1 hN f r (v:=.ref Dl) rfl (λs3 I3 z=>?_) hf);obtain⟨a,n,ha⟩:=z;have g:C≠a:=by
  rcases ha with z|z;·rwa[z]
  ·exact λq=>k _ _ z q.symm
 refine⟨m,Q.sameBut n g,λh' p=>?_⟩;exact⟨_,H1,I3.turned (p.extBut) f0 f1 (.inr f3) k f5,q⟩
end
def Ir{K:ah}(d:Nat->O V->Hp->Prop)(s:d 0 [] (upd H D (.lst [])))(o:∀i b H,i<=xs.length->d i b H->aq K H a xs)
  (w:∀i v b H,xs[i]?=U v->d i b H->tt (U v::h) H λc k=>if c=af then l (U v::h) k λy j=>j D=U (.lst b)/\b.length<sizeLine/\d (i+1) (b++[y]) (upd j D (.lst (b++[y]))) else d (i+1) b k)
  (r:∀b H,d xs.length b H->Q (.ref D) H):jW (kK K a) tt l h D H Q:=by
 refine⟨λi m b H=>m=xs.length-i/\i<=xs.length/\d i b H,⟨xs.length,QS,Yx _,s⟩,?_⟩;rintro i m b H ⟨rfl,g,p⟩;have q:=o i b H g p;by_cases f:i<xs.length
 ·refine .inr ⟨⟨xs,xs[i],q,by simp[f]⟩,d (i+1),λu t n=>⟨xs.length-(i+1),QO,rfl,f,n⟩,λx t y=>?_⟩;obtain⟨e,y⟩:=y
  grind
 ·have e:i=xs.length:=(i_ g (gV f))
  subst e;exact .inl ⟨⟨xs,q,Yd _⟩,r b H p⟩
def BV{K:ah}(d:Nat->O V->Hp->Prop)(s:d 0 [] (upd H D (.lst [])))(o:∀i b H,i<=xs.length->d i b H->az K H a xs)
  (w:∀i v b H,xs[i]?=U v->d i b H->tt (U v::h) H λc k=>if c=af then l (U v::h) k λy j=>j D=U (.lst b)/\b.length<sizeLine/\d (i+1) (b++[y]) (upd j D (.lst (b++[y]))) else d (i+1) b k)
  (r:∀b H,d xs.length b H->Q (.ref D) H):jW (yb K a) tt l h D H Q:=by
 refine⟨λi m b H=>m=xs.length-i/\i<=xs.length/\d i b H,⟨xs.length,QS,Yx _,s⟩,?_⟩;rintro i m b H ⟨rfl,g,p⟩;have q:=o i b H g p;by_cases f:i<xs.length
 ·refine .inr ⟨⟨xs,xs[i],q,by simp[f]⟩,d (i+1),λu t n=>⟨xs.length-(i+1),QO,rfl,f,n⟩,λx t y=>?_⟩;obtain⟨e,y⟩:=y
  grind
 ·have e:i=xs.length:=(i_ g (gV f))
  subst e;exact .inl ⟨⟨xs,q,Yd _⟩,r b H p⟩
def zd{lo:Int}{n:Nat}{g:TT}{h:TE}{d:St}{D:Z}{H:Hp}{Q:VK}(b:Nat->O V->Hp->Prop)(r:b 0 [] (upd H D (.lst [])))
  (u:∀i a H,i<n->b i a H->g (U (.int (lo+i))::d) H λc k=>if c=af then h (U (.int (lo+i))::d) k λy j=>j D=U (.lst a)/\a.length<sizeLine/\b (i+1) (a++[y]) (upd j D (.lst (a++[y]))) else b (i+1) a k)
  (q:∀a H,b n a H->Q (.ref D) H):jW (qQ lo n) g h d D H Q:=by
 refine⟨λi m a H=>m=n-i/\i<=n/\b i a H,⟨n,QS,Yx _,r⟩,?_⟩;rintro i m a H ⟨rfl,o,p⟩;by_cases f:i<n
 ·refine .inr ⟨f,b (i+1),λt s l=>⟨n-(i+1),QO,rfl,f,l⟩,λx s y=>?_⟩;obtain⟨e,y⟩:=y
  simp_all
 ·have e:i=n:=(i_ o (gV f))
  subst e;exact .inl ⟨Yd _,q a H p⟩
def ZjT(K:ah)(e:TE):TI:=λd H R=>e d H λx b=>∃a,x=.ref a/\((∃c,aq K b a c)/\R (kK K a) b\/(∃c,az K b a c)/\R (yb K a) b)
def Zhx(z:PE X l t):PI X B l (ZjT X.K t):=by
 intro f s m H R I h;refine aA (z f s m H _ I h) λv d n=>?_;obtain⟨x,k,c,w,g⟩:=n;obtain⟨a,e,g⟩:=g;subst e;cases w;rcases g with⟨⟨r,i⟩,q⟩|⟨⟨r,i⟩,q⟩
 ·obtain⟨A,u,p,y⟩:=c.list i;refine th p.isList ⟨d.heap.objs.size,[d.heap.objs.size],_,_,k,rfl,c.kept λ b o=>Yb _,Pk a _,⟨_,Yp _ rfl,rfl,rfl⟩,λb j=>?_,q⟩;have e:b=d.heap.objs.size:=by simpa using j
  subst e;exact c.qI (Yd _) (c.ay.fresh (Yd _))
 ·obtain⟨A,u,p,y⟩:=c.tuple i;refine vt (p) ⟨d.heap.objs.size,[d.heap.objs.size],_,_,k,rfl,c.kept λ b o=>Yb _,OG a _,⟨_,Yp _ rfl,rfl,rfl⟩,λb j=>?_,q⟩;have e:b=d.heap.objs.size:=by simpa using j
  subst e;exact c.qI (Yd _) (c.ay.fresh (Yd _))
theorem GK:∀{a:O V} {b:O a7},a.length=b.length->(∀(i:Nat) (x:V) (u:a7),a[i]?=U x->b[i]?=U u->RelV x u)->Vals a b
 |[],[],_,_=>.nil
 |[],_::_,h,_=>by simp at h
 |_::_,[],h,_=>by simp at h
 |x::a,u::b,h,k=>.cons (k 0 x u rfl rfl) (GK (by simpa using h) λi y w d c=>k (i+1) y w (by simpa using d) (by simpa using c))
theorem OL:∀{bs:O cm} {a:O a7},Vals (bs.map V.bl) a->a=bs.map Value.bool:=by
 intro bs;induction bs with
 |nil=>intro a r;cases r;rfl
 |cons b bs c=>
  intro a r;rw[Ws] at r;cases r with
  |cons r t=>
   have d:=r;rw[d,c t];rfl
def bB(n:Nat):O Int:=(List.range n).map λi:Nat=>(i:Int)
def fN(n:Nat):(bB n).length=n:=by simp[bB]
def nH(h:i<n):(bB n)[i]?=U (i:Int):=by
 unfold bB
 simp_all
def ZeS(a:O cm):(List.range a.length).any (λi=>a.getD i a8)=a.any id:=by
 rw[Wd,Mw,Mw];constructor
 ·rintro⟨i,c,d⟩;rw[Wm] at c;have e:a.getD i a8=a[i]:=by rw[Yi,Yc c];rfl
  rw[e] at d;exact⟨a[i],Jl c,d⟩
 ·rintro⟨b,d,e⟩;obtain⟨i,c,rfl⟩:=Wx.mp d;refine⟨i,Wm.mpr c,?_⟩
  simp_all
def ZeT(c:O cm):(List.range c.length).all (λi=>c.getD i a8)=c.all id:=by
 rw[Wd,Wq,Wq];constructor
 ·intro h b d;obtain⟨i,a,rfl⟩:=Wx.mp d;simp_all
 ·intro h i a;rw[Wm] at a;rw[Yi,Yc a];exact h _ (Jl a)
def Zb1:∀{a b:O Int},a.length=b.length->(List.range a.length).all (λj=>a.getD j 0==b.getD j 0)=decide (a=b):=by
 intro a b c;rw[Wd,Wq,gI];constructor
 ·intro h;refine List.ext_getElem c λi e d=>?_;simp_all
 ·grind
section
variable {X:Cx}
def Vn(K:ah):O V->Hp->VK->Prop:=λa H Q=>∃(p:Z) (bs:O cm),a=[.ref p]/\aq K H p (bs.map V.bl)/\Q (.bl (bs.any id)) H
def Vo(K:ah):O V->Hp->VK->Prop:=λa H Q=>∃(p:Z) (bs:O cm),a=[.ref p]/\aq K H p (bs.map V.bl)/\Q (.bl (bs.all id)) H
theorem ZaM(l:X.calm=af):dm X (.builtin "any") (Vn X.K):=by
 rintro d s w H x y Q I r ⟨p,bs,rfl,j,q⟩;obtain⟨u,rfl,f⟩:=vals1 r;cases f;obtain⟨E,g,h,B⟩:=I.list j;have e:=OL g;subst e;have c:=h.isList;have t:p<s.heap.objs.size:=by obtain⟨_,e,_⟩:=c;exact Yr e
 refine call_any_walk (th c ⟨s.heap.objs.size,_,_,_,_,_,λi=>bs.getD i a8,rfl,Walks.list (show X.A.in1.handled=aG from I.ok.hd l) s.heap.objs.size p (Yy t) (bs.map Value.bool).toArray,⟨⟨_,Yp _ rfl,rfl,rfl⟩,c.push _⟩,?_,λD z k=>?_⟩)
 ·intro i v A F G m C;have a:(bs.map Value.bool)[i]?=U v:=by simpa using m
  rw[Ye] at a;cases e:bs[i]? with
  |none=>simp_all
  |some b=>
   rw[e] at a;have n:=Yn a;subst n;refine l3 ?_
   simp_all
 ·refine⟨.bl (bs.any id),H,I.kept (λb o e=>k b o (by simpa using Yy (Yr e)) (Yb _ e)),?_,q⟩;show Value.bool _=Value.bool _;have e:(bs.map Value.bool).toArray.size=bs.length:=QS
  rw[e,ZeS]
theorem ZaN(l:X.calm=af):dm X (.builtin "all") (Vo X.K):=by
 rintro d s w H x y Q I r ⟨p,bs,rfl,j,q⟩;obtain⟨u,rfl,f⟩:=vals1 r;cases f;obtain⟨E,g,h,B⟩:=I.list j;have e:=OL g;subst e;have c:=h.isList;have t:p<s.heap.objs.size:=by obtain⟨_,e,_⟩:=c;exact Yr e
 refine call_all_walk (th c ⟨s.heap.objs.size,_,_,_,_,_,λi=>bs.getD i a8,rfl,Walks.list (show X.A.in1.handled=aG from I.ok.hd l) s.heap.objs.size p (Yy t) (bs.map Value.bool).toArray,⟨⟨_,Yp _ rfl,rfl,rfl⟩,c.push _⟩,?_,λD z k=>?_⟩)
 ·intro i v A F G m C;have a:(bs.map Value.bool)[i]?=U v:=by simpa using m
  rw[Ye] at a;cases e:bs[i]? with
  |none=>simp_all
  |some b=>
   rw[e] at a;have n:=Yn a;subst n;refine l3 ?_
   simp_all
 ·refine⟨.bl (bs.all id),H,I.kept (λb o e=>k b o (by simpa using Yy (Yr e)) (Yb _ e)),?_,q⟩;show Value.bool _=Value.bool _;have e:(bs.map Value.bool).toArray.size=bs.length:=QS
  rw[e,ZeT]
inductive Tb(K:ah)(a:O V)(H:Hp)(Q:VK):Prop
 |mk (x:V) (t:a7) (c:String) (b:cm) (f:a=[x,.ty c]) (g:jY K H x t) (d:kitOne K t (.type c)=U b) (e:Q (.bl b) H):Tb K a H Q
def Dc(K:ah):O V->Hp->VK->Prop:=λa H Q=>Tb K a H Q
def Zb2:dm X (.builtin "isinstance") (Dc X.K):=by
 rintro a s h H i k Q I r ⟨x,t,c,b,rfl,ty,e,q⟩;obtain⟨u,j,rfl,g,f⟩:=vals2 r;cases f;exact ZdK I g ty e λd=>⟨.bl b,H,I.tok d,rfl,q⟩
def OM(u:T="list"\/T="tuple")
  (p:s.heap.get? l=U o)(t:o.cls=.type T)(r:o.data=.seq ak.toArray n)(v:IntsAre ak ns)(m:ak.length<64)(f:ak.toArray.size<=sizeLine)
  (h:∀(a g:cO) (out:dt a7) (c:O Int) (e:Nat),(∀b o,s.heap.get? b=U o->a.get? b=U o)->(∀b o,a.get? b=U o->g.get? b=U o)->g.get? a.objs.size=U (seqObj "list" out e)->IntsAre out.toList c->c.Perm ns->c.Pairwise (·<=·)->Q (.ref a.objs.size) {s with heap:=g}):
  wpAny (model prog w) A (call (.builtin "sorted") [.ref l]) Q E s:=by
 refine vi kind_sorted plain_sorted entry_sorted (args_sorted1 _) (bo (cq ?_));refine bo (Nn l u p t r (λa k=>bo (tT ?_)) f);have x:ak.toArray.toList=ak:=QS
 rw[x];have d:(a.push (seqObj "list" ak.toArray 0)).get? a.objs.size=U (seqObj "list" ak.toArray 0):=Yp _ rfl;refine bo (i2 (nB slot_list_sort ⟨_,d,rfl⟩ entry_list_sort (list_sort_tree d v m λout c B z y=>⟨_,rfl,?_⟩) (args_list_sort _)));obtain⟨e,q⟩:=sortedHeap_at d;exact cq ⟨_,rfl,h a _ out c e k (λb C j=>by
  have i:=Yr j;rw[sortedHeap_old (Yy i) (by rw[size_push'];exact Wv i),Jf _ _ _ (Yy i)];exact j) q B z y⟩
def Kd(K:ah):O V->Hp->VK->Prop:=λc H Q=>∃(p:Z) (a:O Int),c=[.ref p]/\(aq K H p (a.map V.int)\/az K H p (a.map V.int))/\a.length<64/\
  ∀(l:Z) (b:O Int),H l=aG->b.Perm a->b.Pairwise (·<=·)->Q (.ref l) (upd H l (.lst (b.map V.int)))
def Ot:dm X (.builtin "sorted") (Kd X.K):=by
 rintro f s w H F G Q I r ⟨p,y,rfl,g,J,q⟩;obtain⟨u,rfl,x⟩:=vals1 r;cases x;have fin:∀(a h:cO) (out:dt a7) (c:O Int) (e:Nat),(∀b o,s.heap.get? b=U o->a.get? b=U o)->(∀b o,a.get? b=U o->h.get? b=U o)->h.get? a.objs.size=U (seqObj "list" out e)->IntsAre out.toList c->c.Perm y->c.Pairwise (·<=·)->
   EP X f w Q (.ref a.objs.size) {s with heap:=h}:=λa h out c e z E A D t C=>by
  have v:=I.kept (t':=s.toks) z;refine⟨.ref a.objs.size,_,v.laid (o:=.lst (c.map V.int)) E (Yd _) ⟨?_,out.toList,e,Iq D,by simpa[seqObj] using A⟩,rfl,q _ c (v.ay.fresh (Yd _)) t C⟩;rw[Ya,t.length_eq];exact Jo (kU QO)
 rcases g with g|g
 ·obtain⟨B,d,i,j⟩:=I.list g;obtain⟨o,n,k,m,_,hd⟩:=i;have l:=d.length;rw[Ya] at l;rw[Ya] at j;exact OM (.inl rfl) k m hd (intsAre_of d) QO (by rw[Yv];omega) fin
 ·obtain⟨B,d,i,j⟩:=I.tuple g;obtain⟨o,k,m,n,hd⟩:=i;have l:=d.length;rw[Ya] at l;rw[Ya] at j;exact OM (.inr rfl) k m hd (intsAre_of d) QO (by rw[Yv];omega) fin
def RD:O V->Hp->VK->Prop:=λa H Q=>∃j:Int,a=[.int j]/\∀p:Z,H p=aG->Q (.ref p) (upd H p (.kJ 0 j))
def Qh:O V->Hp->VK->Prop:=λa H Q=>∃(p:Z) (n:Nat),a=[.ref p]/\H p=U (.kJ 0 (n:Int))/\n<=1000/\∀l:Z,H l=aG->Q (.ref l) (upd H l (.lst ((bB n).map V.int)))
def z8(K:ah):O V->Hp->VK->Prop:=λb H Q=>∃(p:Z) (a:O V),b=[.ref p]/\(aq K H p a\/az K H p a)/\Q (.int a.length) H
def ZcQ:dm X (.builtin "len") (z8 X.K):=Oj
def Bo:dm X (.type "range") RD:=by
 rintro a s c H d f Q I r ⟨j,rfl,q⟩;obtain⟨u,rfl,t,rfl⟩:=vals1 r;exact call_range_1 ⟨.ref s.heap.objs.size,_,I.laid (o:=.kJ 0 j) (λb o e=>Yb _ e) (Yd _) ⟨_,_,_,Yp _ rfl⟩,rfl,q _ (I.ay.fresh (Yd _))⟩
def F7(w:X.calm=af):dm X (.type "list") Qh:=by
 rintro d s B H C D Q I r ⟨p,n,rfl,j,e,q⟩;obtain⟨u,rfl,h⟩:=vals1 r;cases h;obtain⟨t,u,v,k⟩:=I.ay p _ j;refine call_list_range (I.ok.hd w) k (yE (by decide) (by decide) QO QO) (n:=n) (by rw[vW];split<;>omega) (eL e (by decide)) λF E c A l a f=>⟨.ref s.heap.objs.size,_,I.laid (o:=.lst ((bB n).map V.int)) l (Yd _) ⟨?_,c.toList,A,?_,by simpa using a⟩,rfl,q _ (I.ay.fresh (Yd _))⟩
 ·rw[Ya,fN];exact Jo (kU e)
 ·refine GK (by rw[Ya,fN];simp[f.1]) λi x u b z=>?_;obtain⟨g,rfl⟩:=f.2 i u (by simpa using z);have m:i<n:=by
   have:=(Yj.mp b).1;rw[Ya,fN] at this;exact this
  rw[Ye,nH m] at b;have y:=Yn b;subst y;exact⟨g,by rw[show(0:Int)+(i:Int)*1=(i:Int) by omega]⟩
def RE{a:O Int}(r:Vals (a.map V.int) b)(h:j<b.length):∃t,b[j]=.int (a.getD j 0) t:=by
 have c:=r.length;rw[Ya] at c;have d:j<a.length:=QO
 obtain⟨u,e,t,rfl⟩:=r.get (by rw[Ye,Yc d];rfl)
 simp_all
def Vq(K:ah)(b:cm):R2:=λx y H Q=>∃(p q:Z) (a c:O Int),x=.ref p/\y=.ref q/\aq K H p (a.map V.int)/\aq K H q (c.map V.int)/\Q (.bl (if b=af then !decide (a=c) else decide (a=c))) H
def Tc(o:X.A.units<cLine):cL X (compareOp .Eq) (Vq X.K a8):=by
 rintro i s G H x y v u Q I z w ⟨p,q,a,b,rfl,rfl,d,c,k⟩;cases z;cases w;obtain⟨F,h,m,L⟩:=I.list d;obtain⟨B,g,l,J⟩:=I.list c;have n:=h.length;have A:=g.length;rw[Ya] at n A;by_cases C:a.length=b.length
 ·refine WS (e:=λj=>a.getD j 0==b.getD j 0) m.isList l.isList (by simp;omega) o (λj d c=>?_) (cR I k ?_)
  ·obtain⟨t,E⟩:=RE h (by simpa using d);obtain⟨t',D⟩:=RE g (by simpa using c);have r:F.toArray[j]=.int (a.getD j 0) t:=by simpa using E
   have f:B.toArray[j]=.int (b.getD j 0) t':=by simpa using D
   rw[r,f];exact tc _ _ _ _
  ·rw[bt Yh,Yv,←n,Zb1 C]
 ·refine Bc m.isList l.isList (by simp;omega) o (cR I k ?_)
  grind
def ib(a:St->Hp->Prop)(e:∀c:St->Hp->Prop,(∀b H,a b H->c b H)->t {D with nx:=c} b H)(d:∀b H,a b H->u D b H):z4 t u D b H:=e _ d
def mQ(d:Gl X x)(c:X.mg x=aG)(a:bootBuiltins x=U (.type T))(b:x≠"__name__":=by decide)(e:(x==("__debug__":ar))=a8:=by decide):PE X (.Name x pos) (tC (.ty T)):=Zf1 d c a rfl b e
end
def HasFn(P:dv)(w:dg)(K:ah)(c:aS)(a:cO)(k:Nat)(x:ar)(b:O ar)(e:Sp):Prop:=
 ∃f d,aB P w K c a aL k f d b e/\Binds K d b []/\keepIn K (.ref f)=af/\c x=U (.ref f)
section
variable {K:ah}{X:Cx}{k j:Nat}{W:Sp}{x:ar}{ps:O ar}
def Lb(h:HasFn X.prog X.w X.K X.mg X.base k x ps W)(c:cK j X.A)(d:k<=j)(g:Gl X x)(l:PA X (e::es) t)
  (n:(x==("__debug__":ar))=a8:=by decide)(i:jb X e es:=by rfl)(o:jE X pos es:=by rfl):
  PE X (.Call (.Name x p) (e::es) [] pos) (CP W [] E0 t):=by
 obtain⟨f,q,F,b,a,m⟩:=h;exact Zf3 F (c.mono d) g m a b .nil xH l n i o
def cC(h:H p=aG)(o:HO):ai H (upd H p o):=λb u q=>by rwa[aK (cA q h)]
def ai.kg(e:ai H b)(h:az K H a xs):az K b a xs:=by
 rcases h with(h|⟨o,h⟩)|h;·exact .inl (.inl (e _ _ h))
 ·exact .inl (.inr ⟨o,e _ _ h⟩)
 ·exact .inr h
def ZeU(h:X.K=K):jG X (xN K):=h▸Kc
def Zgb(h:X.K=K):jG X (C7 K):=h▸S7
def Zgc(h:X.K=K):dm X (.builtin "isinstance") (Dc K):=h▸Zb2
def ZjV(h:X.K=K):dm X (.builtin "len") (z8 K):=h▸ZcQ
def mV(h:Q af H):C_ σ H Q:=h
def aT(h:n σ H):Uo ⟨n,a,bk,b⟩ σ H:=h
def jV(d:St->Hp->Prop)(h:∀f:St->Hp->Prop,(∀e H,d e H->f e H)->Lx c a b {D with nx:=f} e H)(g:∀e H,d e H->u D e H):z4 (Lx c a b) u D e H:=h _ g
def Zhy(x:Int)(c:0<m)(d:m<=2^62):-(2^64)<x % m/\x % m<2^64:=by
 have a:=Jg x (Mx c);have b:=W5 x c;omega
theorem ON:∀(l:O α) (k:Nat) (h:k<l.length),l.Perm (l[k]::l.eraseIdx k)
 |[],k,h=>absurd h (Wn k)
 |a::r,0,_=>qh _
 |a::r,k+1,h=>(List.Perm.cons a (ON r k (DP h))).trans (List.Perm.swap _ _ _)
theorem Pr(f:α->β):∀(l:O α) (k:Nat),(l.map f).eraseIdx k=(l.eraseIdx k).map f
 |[],_=>rfl
 |_::_,0=>rfl
 |a::r,k+1=>by
  show f a::(r.map f).eraseIdx k=f a::(r.eraseIdx k).map f;rw[Pr f r k]
def Kx{n:Nat}{i:Int}(b:0<=i)(a:i<n):m5 n i=U i.toNat:=by
 unfold m5
 simp_all
def oV{a:O Int}{i:Int}(b:0<=i)(c:i<a.length):eG (a.map V.int) i=U (.int (a.getD i.toNat 0)):=by
 have e:i=((i.toNat:Nat):Int):=(my (uG b))
 rw[e];refine eZ ?_
 grind
theorem nJ{a:O Int}{i:Nat}{y:V}(h:(a.map V.int)[i]?=U y):∃z,y=.int z/\a[i]?=U z:=by
 rw[Ye] at h;cases e:a[i]? with
 |none=>simp_all
 |some z=>simp_all
def Qi(a:O Int)(z:Int):a.map V.int++[V.int z]=(a++[z]).map V.int:=QS
def BW(a:O Int)(b c:bR Int):∃d:O Int,kC (a.map V.int) b c=d.map V.int:=by
 refine⟨(a.drop (HT.cy a.length 0 b)).take (HT.cy a.length a.length c-HT.cy a.length 0 b),?_⟩;unfold kC;simp_all
end
def Td:bootBuiltins "abs"=U (.builtin "abs"):=QK
def Zhz:bootBuiltins "any"=U (.builtin "any"):=QK
def Te:bootBuiltins "all"=U (.builtin "all"):=QK
def Cv:bootBuiltins "len"=U (.builtin "len"):=QK
def ZhA:bootBuiltins "min"=U (.builtin "min"):=QK
def BH:bootBuiltins "sorted"=U (.builtin "sorted"):=QK
def yW:bootBuiltins "isinstance"=U (.builtin "isinstance"):=QK
def xv:bootBuiltins "list"=U (.type "list"):=QK
def oN:bootBuiltins "tuple"=U (.type "tuple"):=QK
def xh:bootBuiltins "range"=U (.type "range"):=QK
def Cf:bootBuiltins "bool"=U (.type "bool"):=QK
def Tf:bootBuiltins "int"=U (.type "int"):=QK
def zM:bootBuiltins "str"=U (.type "str"):=QK
def Bd(d p:Int):Prop:=0<=d/\d<p
inductive Qj(K:ah)(b:O V)(H:Hp)(Q:VK):Prop
 |mk (a:Z) (d:O Int) (k:Int) (g:b=[.ref a,.int k]) (h:aq K H a (d.map V.int)) (e:0<=k) (f:∀c:Int,Q (.int c) H):Qj K b H Q
def Tg(K:ah):Sp:=λa H Q _=>Qj K a H Q
inductive Pt(K:ah)(e:O V)(H:Hp)(Q:VK):Prop
 |mk (c:Int) (a:Z) (b:O Int) (j:e=[.int c,.ref a]) (k:aq K H a (b.map V.int)) (h:(∀p∈b,0<p/\p<1073741824)) (i:b.length<=60) (g:∀(l:Z) (f:O Int) (d:Hp),H l=aG->ai H d->d l=U (.lst (f.map V.int))->Paired Bd f b->Q (.ref l) d):Pt K e H Q
def zB(K:ah):Sp:=λa H Q _=>Pt K a H Q
inductive Qk(b:O V)(H:Hp)(Q:VK):Prop
 |mk (c:Int) (n:Nat) (f:b=[.int c,.int (n:Int)]) (g:n<=60) (e:∀(t:Z) (d:O Int) (a:Hp),H t=aG->ai H a->a t=U (.tup (d.map V.int))->d.Perm (bB n)->Q (.ref t) a):Qk b H Q
def Th:Sp:=λa H Q _=>Qk a H Q
def RF(h:PE X o to)(j:PE X i d)(g:uQ X t)(k:PE X e f)
  (p:swapsWithSole [.Subscript o i a] e pos.line X.env=pure a8:=by rfl)(n:swappedStores [.Subscript o i a] e X.env=pure aG:=QR)
  (m:(assignEach [.Subscript o i a] X.env).map (·.2)=[assign (.Subscript o i a) X.env]:=QR)
  (l:∀v,assign (.Subscript o i a) X.env v=(do
   let b←holding [v] (eval o X.env);let c←holding [v,b] (eval i X.env)
   standAt a
   holding [v,b,c] (setItem b c v)
   release [v,b,c] []):=by intro _;rfl):PS X (.Assign [.Subscript o i a] e pos) (uR f (Vi to d t)):=oU k (Zhl h j g l) p n m
def ig(h:cO)(a C:Z)(d:bR Z)(c:dt a7):Prop:=∃b:Obj,h.get? a=U b/\b.cls=.ref C/\b.dict=d/\b.data=.fields c/\1<c.size
def xo(a C:Z)(d:bR Z):HO:=.ext λh=>∃b,ig h a C d b
def xn(a C:Z)(d:bR Z):HO:=.ext λh=>∃b,ig h a C d b/\b[1]?=U Value.none
def ig.keep(x:ig f a C d vs)(k:∀o,f.get? a=U o->c.get? a=U o):ig c a C d vs:=by
 obtain⟨b,e,r⟩:=x;exact⟨b,k _ e,r⟩
def Uv(x:ig h a C d c):cP P w H h a (xo a C d):=
 ⟨⟨c,x⟩,let⟨f,e,_⟩:=x;⟨f,e⟩,λ_ _ ⟨b,y⟩ k=>⟨b,y.keep k⟩⟩
def Lc(x:ig h a C d vs)(z:vs[1]?=U Value.none):cP P w H h a (xn a C d):=
 ⟨⟨vs,x,z⟩,let⟨c,e,_⟩:=x;⟨c,e⟩,λ_ _ ⟨b,y,q⟩ k=>⟨b,y.keep k,q⟩⟩
def Ti(b:dw P w H h)(e:H a=U (xo a C d)):∃vs,ig h a C d vs:=(b a _ e).1
def Cw(c:dw P w H h)(e:H a=U (xn a C d)):∃b,ig h a C d b/\b[1]?=U Value.none:=(c a _ e).1
def yh(d:Nat)(H:Hp)(h:cO)(a:dt a7):Prop:=
 a[1]?=U Value.none\/∃T c b,a[1]?=U (Value.ref T)/\d<=T/\H T=aG/\h.get? T=U c/\c.data=.fields b/\b[3]?=U Value.none
inductive Uw(P:dv)(w:dg)(b:O Env)(H:Hp)(s:cb)(E:XK)(e:a7)(c:cb):Prop
 |mk (a C d:Z) (f:Hp) (g:dt a7) (p:e=.ref a) (q:s.heap.objs.size<=a) (n:c.os=s.os) (o:AllBare c.gens) (m:Un (cX b) [] H f s.heap c.heap) (l:dw P w f c.heap) (k:f a=U (xo a C (U d))) (j:ig c.heap a C (U d) g) (i:yh s.heap.objs.size f c.heap g) (h:E (.ref C) (U d) f):Uw P w b H s E e c
def eK(P:dv)(w:dg):lG:=λa H s E e b=>Uw P w a H s E e b
section
variable {M:Model}{A:fI}{X:bg}{s:cb}
def Pu{l:cO}{d:Env}{a:O Env}{L e:Z}{u:Obj}{n:dt a7}{g:a7}{b0:cm}{Q:Unit->cb->Prop}
  (fr:A.frames=U (d::a))(G:s.heap.FunFrames l (d::a))(hL:d.frame=U L)(m:s.heap.get? e=U u)(f:u.data=.fields n)(F:1<n.size)
  (k:∀i T D,(∀b o,b≠e->b∉cX (d::a)->s.heap.get? b=U o->i.get? b=U o)->(∀b o,b∈cX (d::a)->s.heap.get? b=U o->∃r,i.get? b=U {o with slots:=r})->
   i.get? e=U {u with data:=.fields (n.setIfInBounds 1 (.ref T))}->s.heap.objs.size<=T->T≠e->i.get? T=U {cls:=.type "traceback",dict:=aG,data:=.fields D}->D[3]?=U Value.none->Q () {s with heap:=i}):
  wpAny M A (do let fo←frameOf d;let t←entryPlaceOf L b0;let en←EntryCells.newEntry g fo .none (rawInt L) .none t;setField (.ref e) 1 en) (λ_ R=>wpAny M A (setFlight (.ref e) aG) Q X R) X s:=by
 have out:e∉cX (d::a):=λz=>by
  obtain⟨_,o,q,W⟩:=G.mem z;rw[m] at q;cases q;exact W n f
 refine bo (wpAny_frameOf_fun fr G hL λh p=>bo (wpAny_entryPlaceOf λt ip=>?_));unfold EntryCells.newEntry newFields;refine bo (me ?_ (ip.sizeOk5 _ _ _ _ _));generalize w:([g,Value.ref L,Value.none,rawInt L,Value.none]++(if t.isEmpty=af then List.replicate 6 Value.none else t)).toArray=v;have H:3<v.size:=by
  rw[←w,Yv,Yl];simp[Wi,Xa];exact Qdh _ (by decide)
 have N:=(p.2.1 e out).trans m;have lt:=Yr N;have J:=Yb {cls:=.type "traceback",dict:=aG,data:=.fields v} N;refine qd J f F ?_;have P:=vv f (·.setIfInBounds 1 (Value.ref h.objs.size));have I:=Wu (Obj.mapFields (·.setIfInBounds 1 (Value.ref h.objs.size))) J (vl P);have E:=(Wa (h.push {cls:=.type "traceback",dict:=aG,data:=.fields v}) (Obj.mapFields (·.setIfInBounds 1 (Value.ref h.objs.size))) (Yy lt)).trans (Yp h rfl);unfold setFlight;refine bo (k8 I P (x:=.ref h.objs.size) (by simp[F]) ?_);rw[bS QS];refine qd E rfl H (k _ h.objs.size (v.setIfInBounds 3 Value.none) ?_ ?_ ?_ (Ml p.1.symm) (Ja lt) ?_ (by simp[H]))
 ·intro b o C B y;have j:=(p.2.1 b B).trans y;rw[Wa _ _ (Ja (Yr j)),Wa _ _ (jm C)];exact Yb _ j
 ·intro b o B y;obtain⟨r,j⟩:=p.2.2 b o y;have C:b≠e:=λz=>out (z▸B);refine⟨r,?_⟩;rw[Wa _ _ (Ja (Yr j)),Wa _ _ (jm C)];exact Yb _ j
 ·rw[Wa _ _ (Ja lt),I];obtain⟨c,dd,da,r⟩:=u;cases f;rfl
 ·exact Wu _ E (vl (vv rfl _))
end
theorem RG
  (fr:A.frames=U (env::outer))(lD:s1.heap.FunFrames base (env::outer))(B:∀b∈cX (env::outer),H1 b=aG)(hL:env.frame=U L)(cx:eK P w (env::outer) H1 s1 E e s')
  (k:∀s3,eK P w (env::outer) H1 s1 E e s3->Q () s3):
  wpAny (model P w) A (noteFrame e env) (λ_ s2=>wpAny (model P w) A (setFlight e aG) Q Er s2) Er s':=by
 obtain⟨a,C,d,D,vs,rfl,lo,os,bare,un,ay,ha,xr,fl,q⟩:=cx;obtain⟨oe,at_,cls,dic,n,sz⟩:=xr;have nx:∀b:Z,b∉([]:O Z):=λb z=>absurd z QS;have m:s'.heap.FunFrames base (env::outer):=by
  have all:∀l:O Env,(∀b∈cX l,b∈cX (env::outer))->s1.heap.FunFrames base l->s'.heap.FunFrames base l:=by
   intro l;induction l with
   |nil=>exact λ_ _=>trivial
   |cons x r ih=>
    rintro hs ⟨kd,⟨L',o,j,W,f,F⟩,R⟩;have X:L'∈cX (x::r):=by
     unfold cX;rw[Jh,j];exact Yk
    obtain⟨N,v⟩:=un.slot L' o f (B L' (hs _ X)) (hs _ X) (nx _);refine⟨kd,⟨L',_,j,W,v,F⟩,ih (λb h=>hs b ?_) R⟩;unfold cX at h⊢;rw[Jh,j];exact Yw _ h
  exact all _ (λ_ z=>z) lD
 have Vr:s1.heap.get? a=aG:=EO lo;have bQ:∀b∈cX (env::outer),∃o,s'.heap.get? b=U o/\∀ws,o.data≠.fields ws:=λb h=>(m.mem h).2;have Xb:∀b∈cX (env::outer),D b=aG:=λb h=>by
  obtain⟨_,o,f,_⟩:=lD.mem h;exact un.free b o f (B b h) (nx _)
 have frS:∀b∈cX (env::outer),b<s1.heap.objs.size:=λb h=>let⟨_,o,f,_⟩:=lD.mem h;Yr f
 --Zjw is wanted of any Zl6 end
 have fin:∀(h':cO) (T:Z) (p:dt a7),(∀b o,b≠a->b∉cX (env::outer)->s1.heap.objs.size<=b\/D b≠aG\/s'.heap.get? b=U o->s'.heap.get? b=U o->(D b≠aG\/b<s1.heap.objs.size)->h'.get? b=U o)->
   (∀b o,b∈cX (env::outer)->s'.heap.get? b=U o->∃N,h'.get? b=U {o with slots:=N})->h'.get? a=U {oe with data:=.fields (vs.setIfInBounds 1 (.ref T))}->
   s'.heap.objs.size<=T->T≠a->h'.get? T=U {cls:=.type "traceback",dict:=aG,data:=.fields p}->p[3]?=U Value.none->eK P w (env::outer) H1 s1 E (.ref a) {s' with heap:=h'}:=by
  intro h' T p kp N ea lT neT eT t3;have D0:∀b o,b≠a->b∉cX (env::outer)->s'.heap.get? b=U o->(D b≠aG\/b<s1.heap.objs.size)->h'.get? b=U o:=λb o t H I G=>kp b o t H (.inr (.inr I)) I G;have szs:s1.heap.objs.size<=s'.heap.objs.size:=Yz lo (Jo (Yr at_));have nT:D T=aG:=ay.fresh lT;have Xc:ig h' a C (U d) (vs.setIfInBounds 1 (.ref T)):=⟨_,ea,cls,dic,rfl,by rw[AO];exact sz⟩;have LJ:dw P w D h':=by
   intro b o h;by_cases e1:b=a
   ·subst e1;rw[ha] at h;cases h;exact Uv Xc
   ·have F:b∉cX (env::outer):=λz=>by rw[Xb b z] at h;cases h
    have own:∀c,D c=U (.own b)->c≠a:=λc i z=>by rw[z,ha] at i;cases i
    refine(ay b o h).i6 (λc u i g=>?_) (λc i=>i) (λc xs i=>i);rcases i with rfl|i;·exact D0 _ u e1 F g (.inl (by rw[h];simp))
    ·exact D0 c u (own c i) (λz=>by rw[Xb c z] at i;cases i) g (.inl (by rw[i];simp))
  refine⟨a,C,d,D,_,rfl,lo,os,bare,⟨λb o f W j J=>?_,λb o f W j J=>?_,un.free,λb o f J=>?_,un.iN,un.i8,un.jz⟩,LJ,ha,Xc,.inr ⟨T,_,p,by simp[sz],Yz szs lT,nT,eT,rfl,t3⟩,q⟩
  ·have v:=un.keep b o f W j J;exact D0 b o (λz=>by rw[z,Vr] at f;cases f) j v (.inr (Yr f))
  ·obtain⟨s0,v⟩:=un.slot b o f W j J;obtain⟨s2,g3⟩:=N b _ j v;exact⟨s2,g3⟩
  ·obtain⟨o',v⟩:=un.there b o f J;have h:b≠a:=λz=>by rw[z,Vr] at f;cases f
   by_cases j:b∈cX (env::outer)
   ·obtain⟨s2,g3⟩:=N b _ j v;exact⟨_,g3⟩
   ·exact⟨o',D0 b o' h j v (.inr (Yr f))⟩
 have hE:(env.frame=U L):=hL;unfold noteFrame;simp only[hE];refine bo ?_;rcases fl with z|⟨T0,oT,AA,z,lT,My,g0,d0,t0⟩
 ·refine k8 at_ n z ?_;rw[bt QD];refine Pu fr m hL at_ n sz λh' T p k1 k2 k3 k4 k5 k6 k7=>k _ (fin h' T p (λb o t H _ I _=>k1 b o t H I) k2 k3 k4 k5 k6 k7)
 ·refine k8 at_ n z ?_;rw[bS QS];have D1:T0≠a:=λy=>by rw[y,ha] at My;cases My
  refine bo (k8 g0 d0 t0 ?_);rw[bt (by simp[rawInt])];refine bo (qd g0 d0 (Jx.mp t0).1 ?_);have aN:∀b,b≠T0->(s'.heap.update T0 (Obj.mapFields (·.setIfInBounds 3 Value.none))).get? b=s'.heap.get? b:=λb h=>Wa _ _ (jm h);have fT:T0∉cX (env::outer):=λy=>by
   obtain⟨o,f,F⟩:=bQ T0 y;rw[g0] at f;cases f;exact F _ d0
  have szu:(s'.heap.update T0 (Obj.mapFields (·.setIfInBounds 3 Value.none))).objs.size=s'.heap.objs.size:=Heap.size_after_update ..;refine Pu (s:={s' with heap:=s'.heap.update T0 (Obj.mapFields (·.setIfInBounds 3 Value.none))}) fr (m.of_keeps λb o f F=>⟨o,(aN b λy=>by rw[y,g0] at f;cases f;exact F _ d0).trans f,rfl⟩) hL ((aN a (jm D1)).trans at_) n sz
   λh' T p k1 k2 k3 k4 k5 k6 k7=>k _ (fin h' T p (λb o t H _ I G=>?_) (λb o t H=>?_) k3 (by rw[←szu];exact k4) k5 k6 k7)
  ·have nb:b≠T0:=λy=>by
    subst y;rcases G with G|G;·exact G My
    ·exact absurd lT (Nat.not_le.mpr G)
   exact k1 b o t H ((aN b nb).trans I)
  ·exact k2 b o t ((aN b λy=>fT (y▸t)).trans H)
def yh.mono{a b:Nat}(f:yh a H h vs)(l:b<=a):yh b H h vs:=by
 rcases f with z|⟨T,d,c,g,e,r⟩;·exact .inl z
 ·exact .inr ⟨T,d,c,g,Yz l e,r⟩
def qD(X:Cx)(E:St->XK):Prop:=∀(a:a9) (b:St) (H:Hp) (s:cb) (e:a7) (c:cb),Inv X a b H s->eK X.prog X.w X.stack H s (E b) e c->X.xe e c
def Inv.Tj(I:Inv X pins σ H1 s1)(j:eK X.prog X.w X.stack H1 s1 E e s3):
  ∃(a C d:Z) (H':Hp) (f:dt a7),e=.ref a/\s1.heap.objs.size<=a/\Inv X pins σ H' s3/\H' a=U (xo a C (U d))/\ig s3.heap a C (U d) f/\yh s1.heap.objs.size H' s3.heap f/\E (.ref C) (U d) H':=by
 obtain⟨a,C,d,H',f,rfl,lo,os,c,un,k,h,g,i,q⟩:=j;exact⟨a,C,d,H',f,rfl,lo,I.K8 os un k c (λb z=>absurd z QS),h,g,i,q⟩
section
variable {K:ah}
def sv:qD (lC (eK P w) P w K r base N qual scope f cd A outer s H E) (λ_=>E):=by
 intro b n t p e h I k;show wpAny (model P w) _ (leaving _ e) _ _ h;unfold leaving;refine bo (RG I.ok.frames I.stack I.Ca rfl k λo l=>?_);obtain⟨a,C,d,m,g,rfl,lo,J,i,c,j,q⟩:=I.Tj l;have sz:=I.sz;exact⟨a,C,d,m,g,rfl,Yz sz lo,J.os,J.bare,J.base,J.ay,i,c,j.mono sz,q⟩
def ZjW:PassesOwn (model P w) (lC (eK P w) P w K a base N qual scope f cd A outer s H E).A (lC (eK P w) P w K a base N qual scope f cd A outer s H E).env (lC (eK P w) P w K a base N qual scope f cd A outer s H E).xe:=
 λe b h=>PassesOwn.leaving e b h
end
def ZhB(c:Sp)(d:O V)(E:St->XK)(t:TA):TE:=λa H Q=>t a H λb e=>c (b++d) e Q (E a)
def xQ(P:dv)(w:dg)(K:ah)(c:aS)(a:cO)(k:Nat)(x:ar)(b:O ar)(e:Sp):Prop:=
 ∃f d,aB P w K c a (eK P w) k f d b e/\Binds K d b []/\keepIn K (.ref f)=af/\c x=U (.ref f)
section
variable {X:Cx}{k j:Nat}{f C:Z}{N:FuncData}{ps:O ar}{P:Sp}{E:St->XK}{x m:ar}{p W T:Pos}{e o:cM}{R:O cM}{L:TE}{t:TA}
theorem RH(F:aB X.prog X.w X.K X.mg X.base (eK X.prog X.w) k f N ps P)(i:cK k X.A)(q:Binds X.K N ps ds)(n:Vals c ds)(g:qD X E)
  (I:Inv X pins σ H s)(r:Vals vs us)(h:P (vs++c) H Q (E σ)):wpAny X.md X.A (call (.ref f) us) (EP X pins σ Q) X.xe s:=by
 have b:=r.append n;have l:(us++ds).length=ps.length:=by exact b.length▸F.len _ _ _ _ h
 refine mz (mh (F.run X.A X.stack s H ⟨us,[]⟩ (us++ds) (vs++c) Q (E σ) i I.C6 (q s us I.cD l) b h) λr d a=>?_);cases r with
 |error e=>exact g pins σ H s e d I a
 |ok u=>cases u<;>first|exact I.after a|exact False.elim a
def Cy(h:xQ X.prog X.w X.K X.mg X.base k x ps P)(l:cK j X.A)(u:k<=j)(i:qD X E)(v:Gl X x)(y:PA X (e::R) t)
  (z:(x==("__debug__":ar))=a8:=by decide)(w:jb X e R:=by rfl)(A:jE X W R:=by rfl):
  PE X (.Call (.Name x p) (e::R) [] W) (ZhB P [] E t):=by
 obtain⟨f,N,F,b,g,n⟩:=h;intro a s d H Q I h;exact oz (uj I v n (nS I.ok.mod.n_ g (aA (y W a s d H _ I h) λD G ⟨B,J,c,r,q⟩=>⟨c.cD,RH F (l.mono u) b .nil i c r q⟩) w A) z)
def Tn(C:Z)(m:ar)(P:Sp)(E:St->XK)(L:TE)(t:TA):TE:=λb H Q=>L b H λx c=>∃a g fs,x=.ref a/\c a=U (.ins C g fs)/\fs.lookup m=aG/\t b c λd h=>P (x::(d++[])) h Q (E b)
def ZeV{D:Sem cm}(he:PE X o L)(c:gZ X.K C)(i:Meth X.K C m f)(F:aB X.prog X.w X.K X.mg X.base (eK X.prog X.w) k f N ps P)(hr:cK k X.A)(hb:Binds X.K N ps [])(G:qD X E)(ha:PA X (e::R) t)
  (dB:jb X e R:=by rfl)(cz:jE X W R:=by rfl)
  (J:eval (.Call (.Attribute o m T) (e::R) [] W) X.env=(do
   let g←eval o X.env
   standAt T.atName
   let(f,first)←holding [g] (getMethod g m D)
   callWith W f first (backTo W (starEach (e::R) X.env)) (backToKw W (keywordEach [] X.env))):=by rfl):
  PE X (.Call (.Attribute o m T) (e::R) [] W) (Tn C m P E L t):=by
 intro b s d H Q I h;refine qj (aA (he b s d H _ I h) λu z w=>?_) J;obtain⟨x,H1,v,A,a,dx,fs,ex,ea,l,q⟩:=w;subst ex;obtain rfl:u=Value.ref a:=A;exact Hj v ea c i l (nS I.ok.mod.n_ i.kp (aA (ha W b z d H1 _ v q) λus s2 ⟨y,H2,n,r,B⟩=>⟨n.cD,RH (vs:=.ref a::y) F hr hb .nil G n (.cons rfl r) B⟩) dB cz)
end
section
variable {P:dv}{w:dg}{K:ah}{W:aS}{X:cO}
def aM.AB{x c:ar}{e:cj}{f:Z}{j:FuncData}{N h:O ar}{k:Nat}{sp:Sp}(F:aM K x c e f j)(a:aP N h (aJ e))(i:∀d H Q E,sp d H Q E->d.length=h.length)
  (l:∀(g:a7) (A:fI) (b:O Env) (s:cb) (H:Hp) (d:O V) (Q:VK) (E:XK),cK k (A.deeper (envOfC c (aJ e) s.heap.objs.size f g))->sp d H Q E->
   ∃t,fQ (lC (eK P w) P w K W X N c (aJ e) f g A b s H E) (js e) t/\t {nx:=λ_ r=>Q .aE r,rt:=Q} (start N d) H):aB P w K W X (eK P w) (k+1) f j h sp:=by
 obtain⟨y,v,kV,q,u,C,g,B,z,rfl,n,p⟩:=F.ex;exact La n p a i λA b s H d Q E o m=>l g A b s H d Q E o m
end
structure xR(K:ah)(C f:Z):Prop where
 mW:∃(nm q:ar) (N:Z) (bs bm:O a7) (sn:O ar) (sub:O a7) (ab:cm) (col:bR cm) (dd:bR Z) (k0 k1 k2 k3 k5:bR a7),
  K.lookup C=U (excClassObj nm q C N bs bm af sn sub ab col dd k0 k1 k2 k3 k5 "ValueError.__new__")
 m7:PySem.W.mroIn K C (.type "ValueError")=U af
 AD:PySem.W.mroIn K C (.type "BaseException")=U af
 lH:PySem.W.mroIn K C (.type "AttributeError")=U a8
 vE:PySem.W.mroIn K C (.type "NameError")=U a8
 init:PySem.W.findIn K (.ref C) "__init__"=U (U (.ref f))
 fn:isFn K (.ref f)=af
 kp:keepIn K (.ref C)=af
def zC{K:ah}
  (l:K.lookup C=U (excClassObj nm q C N bs bm hd sn sub j col i g f e d c a))(h:PySem.W.mroIn K C v=U b):(Value.ref C::bm).contains v=b:=by
 unfold PySem.W.mroIn PySem.W.clsIn at h
 simp_all
section
variable {X:dv}{w:dg}{A:fI}{E:bg}{h:cO}{g:dt GenState}{d:Drawn}{t:Nat}{os:OsState}
variable {L q:ar}{C N:Z}{bs W:O a7}{F:cm}{y:O ar}{sub:O a7}{v:cm}{T:bR cm}{J:bR Z}{I H P B D:bR a7}
local macro_rules|`(tactic|walk_at "vlu")=>`(tactic|exact excBase_ValueError)
def ZdR(a:h.get? C=U (excClassObj L q C N bs W F y sub v T J I H P B D "ValueError.__new__"))(b:(Value.ref C::W).contains (.type "ValueError")=af)
  (z:Q () ⟨h,g,d,t,os⟩):wpAny M A (checkBuiltinCall "ValueError.__new__" ⟨.ref C::rest,[]⟩) Q E ⟨h,g,d,t,os⟩:=by
 have G:=pz;simp[checkBuiltinCall,G.newKind,G.newSplit,G.newRow];repeat (first|refine kS a ?_|(refine m9 a ?_;rw[b])|refine wpAny_staticBase_exc a ?_|refine U9 a ?_|simp only[vD,yF]|wp_step)
 exact z
def ZeW{R:Result->cb->Prop}{a:O a7}(b:h.get? C=U (excClassObj L q C N bs W F y sub v T J I H P B D "ValueError.__new__"))(i:(Value.ref C::W).contains (.type "ValueError")=af)
  (k:(Value.ref C::W).contains (.type "AttributeError")=a8)(f:(Value.ref C::W).contains (.type "NameError")=a8)
  (z:R (.ok (.ret (.ref (h.objs.size+1)))) ⟨(h.push {cls:=.type "tuple",data:=.seq a.toArray}).push {cls:=.ref C,data:=.fields #[.ref h.objs.size,.none,.none,.none,.bool a8,.none]},g,d,t,os⟩)(j:a.length<=sizeLine):
  codeAny (model X w) A (.builtin "ValueError.__new__" ⟨.ref C::a,[]⟩) R ⟨h,g,d,t,os⟩:=by
 have G:=pz;have e:=G.ends;refine codeAny_builtinAt G.entry ?_;refine WT ?_;refine WT (PySem.wpAt_stack λp c=>J5 ?_)
 wp_walk
 refine J5 ?_;rw[G.owner];repeat (first|with_reducible refine wpAny_madeHere_exc G.canon b ?_|with_reducible refine kS b ?_|(with_reducible refine m9 b ?_;first|rw[i]|rw[k]|rw[f])|wp_step)
 simp_all
def ZeX{a:O a7}{k:Z}{Q:Fin->cb->Prop}(c:h.get? C=U (excClassObj L q C N bs W F y sub v T J I H P B D "ValueError.__new__"))(n:(Value.ref C::W).contains (.type "ValueError")=af)
  (R:(Value.ref C::W).contains (.type "AttributeError")=a8)(p:(Value.ref C::W).contains (.type "NameError")=a8)
  (u:PySem.W.Looks (model X w) h (typeLookup (.ref C) "__init__") (U (.ref k)))(s:PySem.W.Looks (model X w) h (typeOf (.ref k)) (.type "function"))
  (z:wpAny (model X w) A (call (.ref k) (.ref (h.objs.size+1)::a)) (λr m=>r=.none/\Q (.done (.ret (.ref (h.objs.size+1)))) m) E
   ⟨(h.push {cls:=.type "tuple",data:=.seq a.toArray}).push {cls:=.ref C,data:=.fields #[.ref h.objs.size,.none,.none,.none,.bool a8,.none]},g,d,t,os⟩)(i:a.length<=sizeLine):
  wpAny (model X w) A (Builtin.«type.__call__» ⟨.ref C::a,[]⟩) Q E ⟨h,g,d,t,os⟩:=by
 have G:=pz;repeat (first|with_reducible refine kS c ?_|with_reducible refine U9 c ?_|wp_step)
 refine codeAny_call_builtin_code (MV _ G.quiet) (ZdR c n (ZeW c n R p ?_ i));show wpAny _ _ _ _ _ _;have f:∀b o,h.get? b=U o->((h.push {cls:=.type "tuple",data:=.seq a.toArray}).push {cls:=.ref C,data:=.fields #[.ref h.objs.size,.none,.none,.none,.bool a8,.none]}).get? b=U o:=
  λb o e=>Yb _ (Yb _ e)
 have j:=f _ _ c;have l:(Value.ref C::W).contains (.ref C)=af:=QS
 unfold isInstance;repeat (first|with_reducible refine kS here ?_|(with_reducible refine m9 j ?_;rw[l])|wp_step)
 refine(u.keeps f) _ _ _ _ (λ_ _ e=>e) ?_;refine i2 (bo ?_);unfold bindSpecial;refine bo ((s.keeps f) _ _ _ _ (λ_ _ e=>e) ?_);rw[bS QD];refine cq (bo (eF z (λr m hr=>?_) λ_ _ x=>x));obtain⟨rfl,hQ⟩:=hr
 wp_walk
 exact hQ
def ZeY{a:O a7}{e:Z}{Q:bg}(c:h.get? C=U (excClassObj L q C N bs W F y sub v T J I H P B D "ValueError.__new__"))(j:(Value.ref C::W).contains (.type "ValueError")=af)
  (m:(Value.ref C::W).contains (.type "AttributeError")=a8)(f:(Value.ref C::W).contains (.type "NameError")=a8)
  (l:PySem.W.Looks (model X w) h (typeLookup (.ref C) "__init__") (U (.ref e)))(k:PySem.W.Looks (model X w) h (typeOf (.ref e)) (.type "function"))
  (z:wpAny (model X w) (A.under (.builtin "type.__call__" ⟨.ref C::a,[]⟩)) (call (.ref e) (.ref (h.objs.size+1)::a)) (λr i=>r=.none/\Q (.ref (h.objs.size+1)) i) E
   ⟨(h.push {cls:=.type "tuple",data:=.seq a.toArray}).push {cls:=.ref C,data:=.fields #[.ref h.objs.size,.none,.none,.none,.bool a8,.none]},g,d,t,os⟩)(b:a.length<=sizeLine):
  wpAny (model X w) A (call (.ref C) a) Q E ⟨h,g,d,t,os⟩:=by
 have o:=tc_lookup;have n:=tc_bind (.ref C);refine mz (WC ?_);repeat (any_goals (first|assumption|with_reducible refine kS c ?_|wp_step))
 exact⟨rfl,codeAny_call_builtin_at (MV _ QK) entry_typeCall (wpAny_check_type_call_sub c (ZeX c j m f l k z b))⟩
end
end L2
namespace L2
open PySem PySem.Spec PyProof.Rows
open PySem.W (Looks InstAt looks_findIn looks_typeIn looks_clsIn looks_mroIn looks_find findObj findIn mroIn clsIn)
abbrev o_:O a7:=[.type "ValueError",.type "Exception",.type "BaseException",.type "object"]
structure dz(K:ah)(C:Z):Prop where
 mW:∃(nm q:ar) (N:Z) (bs:O a7) (cs:O Z) (sn:O ar) (sub:O a7) (ab:cm) (col:bR cm) (dd:bR Z) (k0 k1 k2 k3 k5:bR a7),
  K.lookup C=U (excClassObj nm q C N bs (cs.map Value.ref++o_) af sn sub ab col dd k0 k1 k2 k3 k5 "ValueError.__new__")
 ga:findIn K (.ref C) "__getattribute__"=U (U (.builtin "BaseException.__getattribute__"))
 gh:findIn K (.ref C) "__getattr__"=U aG
 sa:findIn K (.ref C) "__setattr__"=U (U (.builtin "object.__setattr__"))
 cl:findIn K (.ref C) "__class__"=U (U (.builtin "object.__class__"))
 cg:specialIn K (.builtin "object.__class__") "__get__"=U (U (.builtin "getset_descriptor.__get__"))
 ct:takesIn K (.builtin "object.__class__")=U af
def Ux(C:Z)(a:O Z)(v:a7)(h:o_.contains v=af):(Value.ref C::(a.map Value.ref++o_)).contains v=af:=by
 grind
def dz.mro{K:ah}(x:dz K C)(v:a7)(h:o_.contains v=af):mroIn K C v=U af:=by
 obtain⟨c,q,N,bs,k,b,sub,m,a,j,i,g,f,e,d,l⟩:=x.mW;unfold PySem.W.mroIn PySem.W.clsIn
 grind
def dz.hd{K:ah}(x:dz K C):hasDictIn K C=af:=by
 obtain⟨c,q,N,bs,j,b,sub,k,a,i,h,g,f,e,d,l⟩:=x.mW;unfold hasDictIn PySem.W.clsIn;rw[l];rfl
def ig.inst(x:ig h a C (U d) l)(e:h.get? d=U f):∃b,InstAt h a b C (U f):=by
 obtain⟨c,k,j,i,g,_⟩:=x;refine⟨c,k,j,?_,?_⟩
 ·unfold notCls;rw[g]
 ·rwa[i]
def ig.Zi0(x:ig h a C aG g):∃b,InstAt h a b C aG:=by
 obtain⟨c,f,e,i,d,_⟩:=x;refine⟨c,f,e,?_,?_⟩
 ·unfold notCls;rw[d]
 ·grind
section
variable {W:dv}{w:dg}{A:fI}{E:bg}{s:cb}{K:ah}{x C:Z}{L:Obj}{P:bR Obj}{T:ar}
def To(d:K.In s.heap)(I:InstAt s.heap x L C P)(X:dz K C)
  (k:wpAny (model W w) A.in1 (Builtin.«object.__getattribute__» ⟨[.ref x,.str T c],[]⟩) (λfin a=>match fin with|.done f=>R (.ok f) a|.again b=>b.quiet=af/\codeAny (model W w) A b R a) (λe a=>R (.error e) a) s):
  codeAny (model W w) A (.call (.builtin "BaseException.__getattribute__") ⟨[.ref x,.str T c],[]⟩) R s:=by
 have G:=PySem.F.attr_ValueError;exact vm G.ga.plain PySem.F.entry_bexc_ga (check_slot (i:="BaseException.__getattribute__") (owner:="BaseException") (n:="__getattribute__") QK QK ((I.type).andThen (looks_mroIn d (X.mro _ QD))) (PySem.F.args_bexc_ga _ _) k)
theorem Tp{b a:cm}(d:K.In s.heap)(I:InstAt s.heap x L C P)(X:dz K C)
  (k:codeAny (model W w) A (.call (.builtin "BaseException.__getattribute__") ⟨[.ref x,.str T i],[]⟩) (λr c=>match r with|.ok (.ret v)=>handedIn v=af/\Q v c|_=>False) s):
  wpAny (model W w) A (getAttrBy (.ref x) (.str T i) b a) Q E s:=by
 refine i2 (bo ((I.type).here (bo ((looks_findIn d X.ga).here ?_))));refine bo ((looks_findIn d X.gh).here (bo (wpAny_attempt (i2 ?_))));unfold callGetattribute;rw[bt (by cases a<;>exact Yh)];refine bo (cq (mz (mh k λr c z=>?_)));cases r with
 |error e=>grind
 |ok f=>
  cases f with
  |ret v=>
   obtain⟨h,g⟩:=z;show wpAny _ _ (handedOut v) _ _ _;rw[PySem.W.handedOut_of h];exact cq g
  |next=>grind
  |brk=>grind
  |cont=>grind
def ZjX{a:cm}{v:a7}{Q:bg}(b:K.In s.heap)(I:InstAt s.heap x L C P)(X:dz K C)(d:findObj K C P T=U (.value v))(c:handedIn v=af)(q:Q v {s with toks:=s.toks+1}):
  wpAny (model W w) A (getAttr (.ref x) T a) Q E s:=by
 exact bo (wpAny_mkText (Tp b I X (To b I X (bo (cq (bo (cq (bo ((I.type).at (bo ((looks_find b I d).at (cq (ra c q)))))))))))))
def ZcR{P:Obj}{Q:bR a7->cb->Prop}(a:K.In s.heap)(I:InstAt s.heap x L C (U P))(X:dz K C)(q:Q (U (.ref C)) {s with toks:=s.toks+1}):wpAny (model W w) A (getAttr? (.ref x) "__class__") Q E s:=by
 exact bo (wpAny_mkText (bo (wpAny_attempt (Tp a I X (To a I X (bo (cq (bo (cq (bo ((I.type).here (s:={s with toks:=s.toks+1}) (bo ((looks_find a I (PySem.W.findObj_data (by obtain⟨c,b,_⟩:=tX X.hd;rw[b];rfl) X.cl X.cg X.ct)).here (s:={s with toks:=s.toks+1}) (bo (i2 (mz (PySem.W.class_get a I (X.mro _ QD) (cq ⟨rfl,cq q⟩))))))))))))))))))
theorem ZeZ{P:Obj}(X:dz K C):KitX K (.ref x) (.ref C) (λh=>∃L,InstAt h x L C (U P)) where
 ty:=λ_ _ _ ⟨_,I⟩=>I.type
 it:=λ_ _ a _=>by
  obtain⟨d,q,N,bs,r,c,sub,t,b,p,m,j,i,g,f,l⟩:=X.mW;intro H F G B k q;exact bo (tQ (k _ _ (a _ _ l)) (cq q))
 ne:=λh u o D n v a e=>by
  obtain⟨d,q,N,bs,r,c,sub,t,b,p,m,j,i,g,f,l⟩:=X.mW;refine Js.mpr λz=>?_;have z:=Value.ref.inj (beq_iff_eq.mp z);subst z;have y:=eH Obj.cls (Yn ((a _ _ l).symm.trans e))
  grind
 ca:=λa ⟨_,I⟩ k=>ZcR a I X k
theorem OO(a:a7):∀b:O Z,refuseLoop a "__setattr__" (b.map Value.ref++o_)=pure ()
 |[]=>PySem.F.store_ValueError.passes a
 |c::r=>by
  show refuseLoop a "__setattr__" (.ref c::(r.map Value.ref++o_))=pure ();rw[Xi];exact OO a r
def Vs{v:a7}{Q:Unit->cb->Prop}(b:K.In s.heap)(I:InstAt s.heap x L C P)(X:dz K C)(d:findIn K (.ref C) T=U aG)
  (k:wpAny (model W w) A.in1 (Builtin.ObjectAttr.storeInOwnDict (.ref x) (.ref C) (.str T s.toks) T v a8) (λfin c=>fin=PySem.Fin.done (.ret .none)/\Q () c) (λ_ _=>False) {s with toks:=s.toks+1}):
  wpAny (model W w) A (setAttr (.ref x) T v) Q E s:=by
 have a:=PySem.F.store_object;refine set_plain b I X.sa ?_;have sub:Looks (model W w) s.heap (isInstance (.ref x) (.type "object")) af:=I.type.andThen (looks_mroIn b (X.mro _ QD));refine vm a.slot.plain a.entry (@check_slot (model W w) _ _ {s with toks:=s.toks+1} "object.__setattr__" "object" "__setattr__" (.ref x) [.str T s.toks,v] [] _ a.kind a.split sub (a.args (.ref x) (.str T s.toks) v) ?_);obtain⟨j,q,N,bs,f,h,i,u,g,t,r,p,o,n,m,l⟩:=X.mW;have e:Looks (model W w) s.heap (mroOf (.ref C)) (.ref C::(f.map Value.ref++o_)):=(looks_clsIn b (by unfold PySem.W.clsIn;rw[l])).andThen .now;rw[osa_eq,refuse_eq];refine bo (bo (I.type.here (s:={s with toks:=s.toks+1}) (bo (e.here (s:={s with toks:=s.toks+1}) ?_))));rw[Xi,OO];refine cq (bo (I.type.here (s:={s with toks:=s.toks+1}) (bo ((looks_findIn b d).here (s:={s with toks:=s.toks+1}) (bo (cq ?_))))));refine eF k (λfin c z=>?_) λ_ _ z=>z.elim;obtain⟨rfl,z⟩:=z;exact z
end
def xq(d:Z)(b:O (ar×V)):HO:=.ext λh=>∃a,h.Ns1 d a/\(∀f,fh (b.lookup f) (a f))/\PySem.Within a (b.map (·.1))
def Uy(n:h.Ns1 d a)(r:∀f,fh (fs.lookup f) (a f))(b:PySem.Within a (fs.map (·.1))):cP P w H h d (xq d fs):=
 ⟨⟨a,n,r,b⟩,let⟨o,_,_,e,_⟩:=n;⟨o,e⟩,λ_ _ ⟨m,y,q⟩ k=>⟨m,y.at k,q⟩⟩
def Ky(b:dw P w H h)(e:H d=U (xq d fs)):∃a,h.Ns1 d a/\(∀f,fh (fs.lookup f) (a f))/\PySem.Within a (fs.map (·.1)):=(b d _ e).1
def RI{mA:aS}(a:RelV y u)(r:∀g,fh (fs.lookup g) (mA g)):∀g,fh ((cS f y fs).lookup g) (if g=f then U u else mA g):=λg=>by
 rw[GI];by_cases q:g=f;·rwa[bS q,bS q]
 ·simp_all
def OP(a:PySem.Within b (fs.map (·.1))):PySem.Within (λg=>if g=f then U u else b g) ((cS f y fs).map (·.1)):=λg c=>by
 by_cases q:g=f;·exact q▸(zk f y fs).1
 ·refine(zk f y fs).2 g (a g λz=>c ?_)
  grind
section
variable {T:dv}{w:dg}{A:fI}{E:bg}{s:cb}{K:ah}{x C:Z}{W:ar}{v:a7}{b:cm}{R:Tok}
def ZdS{a:Obj}{d:Z}{e:aS}{f:O ar}{Q:PySem.Fin->cb->Prop}(t:K.In s.heap)(X:dz K C)(m:s.heap.get? x=U a)(q:a.cls=.ref C)(p:a.dict=U d)(n:s.heap.Ns1 d e)(h:PySem.Within e f)(i:f.length<sizeLine)
  (k:∀c D,c.Ns1 d (λy=>if y=W then U v else e y)->Heap.SameBut d s.heap c->Q (.done (.ret .none)) {s with heap:=c,toks:=D}):
  wpAny (model T w) A (Builtin.ObjectAttr.storeInOwnDict (.ref x) (.ref C) (.str W R) W v b) Q E s:=by
 obtain⟨F,l,J,H⟩:=a;subst q p;obtain⟨I,r,o⟩:=tX X.hd;refine bo (cq (bo (bo (tQ m (bo ((looks_clsIn t r).here ?_))))));rw[o];refine cq (bo (cq (bo (wh n λc g j=>?_))));obtain⟨G,N,L,B,z,u⟩:=g.count (vG W v h);exact bo (vH B (by exact z▸vI (Yz u (by rw[Wi];exact r0 (Nat.add_lt_add_right i _)))) (cq (k _ _ g j)))
def ZdT{a:Obj}{i:dt a7}{Q:PySem.Fin->cb->Prop}(F:K.In s.heap)(X:dz K C)(f:s.heap.get? x=U a)(g:a.cls=.ref C)(z:a.dict=aG)(t:a.data=.fields i)
  (k:∀d J,d.Ns1 s.heap.objs.size (λy=>if y=W then U v else aG)->d.get? x=U {a with dict:=U s.heap.objs.size}->(∀c o,c≠x->s.heap.get? c=U o->d.get? c=U o)->Q (.done (.ret .none)) {s with heap:=d,toks:=J}):
  wpAny (model T w) A (Builtin.ObjectAttr.storeInOwnDict (.ref x) (.ref C) (.str W R) W v b) Q E s:=by
 obtain⟨L,p,Xe,q⟩:=a;subst g z t;obtain⟨P,D,r⟩:=tX X.hd;refine bo (cq (bo (bo (tQ f (bo ((looks_clsIn F D).here ?_))))));rw[r];have h:=Yy (Yr f);have n:(s.heap.push {cls:=.type "dict",data:=.dict #[]}).get? x=U ⟨.ref C,aG,.fields i,q⟩:=Yb _ f;refine bo (wpAny_alloc' (bo (wpAny_update' n (cq ?_))));have B:((s.heap.push {cls:=.type "dict",data:=.dict #[]}).update x λo=>{o with dict:=U s.heap.objs.size}).get? s.heap.objs.size=U {cls:=.type "dict",data:=.dict #[]}:=
  (Xg _ _ _ _ h.symm).trans (Heap.get?_push_at rfl rfl)
 refine bo (cq (bo (wh (TF ⟨_,#[],_,B,rfl,λe u=>absurd u QS,λ_=>rfl⟩) λd l j=>?_)));obtain⟨N,WN,WO,I,H,G⟩:=l.count (vG W v PySem.Within.nil);refine bo (vH I (by exact H▸vI (Yz G (by rw[Wi,Xa,dU];decide))) (cq (k _ _ l ?_ λc o g m=>?_)));·exact(j.2 x h).trans (Wu _ n rfl)
 ·exact(j.2 c (Yy (Yr m))).trans ((Xg _ _ _ _ g).trans (Yb _ m))
end
def Uz(K:ah)(g e:TE)(f:ar):TS:=λ D c H=>e c H λ y h=>g c h λ x b=>∃ a C,x=.ref a/\dz K C/\c9 K C f /\
  ((b a=U (xn a C aG)/\∀ d,b d=aG->d≠a->D.nx c (upd (upd b d (xq d [(f,y)])) a (xn a C (U d)))) \/
   ∃ d fs,b a=U (xn a C (U d))/\b d=U (xq d fs)/\d≠a/\fs.length < 1000/\D.nx c (upd b d (xq d (cS f y fs))))
def UA(K:ah)(e:TE)(f:ar):TE:=λc H Q=>e c H λx b=>∃a C d fs v,x=.ref a/\b a=U (xo a C (U d))/\b d=U (xq d fs)/\dz K C/\c9 K C f/\fs.lookup f=U v/\Q v b
inductive RJ(K:ah)(e:O V)(H:Hp)(Q:VK):Prop
 |mk (a C d:Z) (fs:O (ar×V)) (c:V) (u:a7) (b:cm) (k:e=[.ref a,c]) (l:RelV c u) (i:H a=U (xo a C (U d))) (j:H d=U (xq d fs)) (h:dz K C) (g:kitOne K (.ref C) u=U b) (f:Q (.bl b) H):RJ K e H Q
def UB(K:ah):O V->Hp->VK->Prop:=λa H Q=>RJ K a H Q
section
variable {X:Cx}{o e W:cM}{f:ar}{R T:Pos}{P N:TE}
def Zgd(ha:PE X o P)(hv:PE X W N)(hs:swapsWith W (U (.Attribute o f T)) R.line X.env=pure a8:=by rfl):PS X (.Assign [.Attribute o f T] W R) (Uz X.K P N f):=by
 intro p s A H D I h;refine uZ (aA (hv p s A H _ I h) λu s1 zq=>?_) hs;obtain⟨y,H1,I1,ry,q⟩:=zq;refine aA (ha p s1 A H1 _ I1 q) λov F zq=>?_;obtain⟨x,H2,l,rx,a,C,Q,E,na,v⟩:=zq;subst Q;obtain rfl:ov=Value.ref a:=rx;rcases v with⟨m,v⟩|⟨d,fs,m,ed,nd,lim,v⟩
 ·obtain⟨vs,r,v1⟩:=Cw l.ay m;obtain⟨ox,J⟩:=r.Zi0;obtain⟨oe,e1,e2,e3,e4,e5⟩:=r;refine Vs l.cD J E na (ZdT l.cD E e1 e2 e3 e4 λh' tk G Q kp=>⟨rfl,?_⟩);have w:=l.ay.fresh (Yd _);have ne:=Ja (Yr e1);refine⟨A,_,?_,v F.heap.objs.size w ne⟩;have hx':ig h' a C (U F.heap.objs.size) vs:=⟨_,Q,e2,rfl,e4,e5⟩;refine l.un ⟨λb j i n _ _=>?_,λb j i n fr _=>?_,λb j i n _=>?_,λb j i _=>?_,λb B i=>?_,λb j u i=>?_,λb ps i=>?_⟩ λb j i=>?_;·exact kp b j (λz=>by rw[z,m] at n;cases n) i
  ·exact⟨j.slots,kp b j (λz=>by rw[z,m] at n;cases n) i⟩
  ·rw[aK (λz=>by rw[z,m] at n;cases n),aK (Yy (Yr i))];exact n
  ·by_cases z:b=a;·exact⟨_,z▸Q⟩
   ·exact⟨j,kp b j z i⟩
  ·rw[aK (λz=>by rw[z,m] at i;cases i),aK (λz=>by rw[z,w] at i;cases i)];exact i
  ·rw[aK (λz=>by rw[z,m] at i;cases i),aK (λz=>by rw[z,w] at i;cases i)];exact i
  ·exact⟨#[],by rw[aK (λz=>by rw[z,m] at i;cases i),aK (λz=>by rw[z,w] at i;cases i),i];simp⟩
  ·by_cases z:b=a
   ·subst z;rw[aU] at i;cases i;exact(λH0=>Lc hx' v1) _
   ·rw[aK z] at i;by_cases z2:b=F.heap.objs.size
    ·subst z2;rw[aU] at i;cases i;exact(λH0=>Uy G (RI (fs:=[]) (mA:=λ_=>aG) ry λg=>trivial) (OP λ g=>absurd rfl)) _
    ·rw[aK z2] at i;have D2:∀c t,H2 c=U t->t=.own b\/(∃B,t=.tup B)->c≠a/\c≠F.heap.objs.size:=λc t k L=>by
      refine⟨λy=>?_,λy=>by rw[y,w] at k;cases k⟩;rw[y,m] at k;cases k;rcases L with L|⟨B,L⟩<;>cases L
     refine(l.ay b j i).i6 (λc u k hg=>?_) (λc k=>?_) λc B k=>?_;·grind
     ·rwa[aK (D2 c _ k (.inl rfl)).1,aK (D2 c _ k (.inl rfl)).2]
     ·rwa[aK (D2 c _ k (.inr ⟨_,rfl⟩)).1,aK (D2 c _ k (.inr ⟨_,rfl⟩)).2]
 ·obtain⟨vs,r,v1⟩:=Cw l.ay m;obtain⟨mA,n1,rl,wi⟩:=Ky l.ay ed;obtain⟨od,_,_,je,_⟩:=id n1;obtain⟨ox,J⟩:=r.inst je;obtain⟨oe,e1,e2,e3,e4,e5⟩:=r;refine Vs l.cD J E na (ZdS l.cD E e1 e2 e3 n1 wi (by rw[Ya,dU];exact pq lim (by decide)) λh' tk G sb=>⟨rfl,A,_,?_,v⟩);have hd:∃o,h'.get? d=U o:=let⟨o,_,_,e',_⟩:=G;⟨o,e'⟩;exact l.write (by exact ed▸ik) (.inl rfl) (λb q i z=>(sb.2 b i).trans z) hd (Uy G (RI ry rl) (OP wi))
def Zge(B:PE X e P)(D:attributeBase e f X.env (eval e X.env)=eval e X.env:=by rfl):PE X (.Attribute e f R) (UA X.K P f):=by
 intro b s j H Q I h;refine Rw D (aA (B b s j H _ I h) λu s1 k=>?_);obtain⟨x,L,c,n,a,C,d,fs,v,E,G,F,g,t,l,q⟩:=k;subst E;obtain rfl:u=Value.ref a:=n;obtain⟨vs,m⟩:=Ti c.ay G;obtain⟨mA,w,p,wi⟩:=Ky c.ay F;obtain⟨od,z,y⟩:=Ip w;obtain⟨ox,J⟩:=m.inst z;have r:=p f;rw[l] at r;obtain⟨u,A,i⟩:=r.some_of;exact ZjX c.cD J g (findObj_own g.hd t rfl (by rw[y,A])) (Pl i) ⟨v,L,c.tok _,i,q⟩
def Zbs:dm X (.builtin "isinstance") (UB X.K):=by
 rintro j s E H F us Q I r ⟨a,C,d,fs,c,u,b,rfl,h,B,A,n,e,q⟩;obtain⟨p,g,rfl,v,i⟩:=vals2 r;obtain rfl:p=Value.ref a:=v;obtain⟨L,m⟩:=Ti I.ay B;obtain⟨mA,x,rl,G⟩:=Ky I.ay A;obtain⟨od,y,lk⟩:=Ip x;obtain⟨w,J⟩:=m.inst y;have same:kitOne X.K (.ref C) g=U b:=by
  have D:g=u:=by
   cases c<;>first|exact(i).trans (h).symm|skip
   all_goals (obtain⟨t1,l⟩:=i;obtain⟨t2,k⟩:=h;subst l;subst k)
   all_goals (exfalso;revert e;simp[kitOne,kitCls])
  rwa[D]
 exact jH (ZeZ n) I.cD ⟨w,J⟩ same (λz=>nomatch z) λt=>⟨.bl b,H,I.tok t,rfl,q⟩
end
structure CU(K:ah)(C:Z)(m:ar)(f:Z):Prop where
 ga:specialIn K (.ref C) "__getattribute__"=U (U (.builtin "type.__getattribute__"))
 rd:PySem.W.readsIn K C (.type "type")=af
 at_:findCls K (.ref C) (.type "type") m=U (.val (.ref f))
 kp:keepIn K (.ref f)=af
section
variable {X:Cx}{G:lG}{k:Nat}{f C:Z}{P:FuncData}{ps:O ar}{J:Sp}{N:O V}{L:O a7}{E:XK}{x m:ar}{p W T:Pos}{e:cM}{R:O cM}{t:TA}
def Ql{j:Sem cm}(b:CU X.K C m f)(F:aB X.prog X.w X.K X.mg X.base G k f P ps J)(o:cK k X.A)(u:Gl X x)(q:X.mg x=U (.ref C))(w:Binds X.K P ps L)(v:Vals N L)(l:Passes G X E)(y:PA X (e::R) t)
  (z:(x==("__debug__":ar))=a8:=by decide)(A:jb X e R:=by rfl)(B:jE X W R:=by rfl)
  (n:eval (.Call (.Attribute (.Name x p) m T) (e::R) [] W) X.env=(do
   let c←eval (.Name x p) X.env
   standAt T.atName
   let(f,first)←holding [c] (getMethod c m j)
   callWith W f first (backTo W (starEach (e::R) X.env)) (backToKw W (keywordEach [] X.env))):=by rfl):
  PE X (.Call (.Attribute (.Name x p) m T) (e::R) [] W) (CP J N E t):=by
 intro a s g H Q I h;exact qj (uj I u q (PySem.W.method_cls I.cD b.ga (PySem.W.cls_value I.cD b.rd b.at_ rfl (nS I.ok.mod.n_ b.kp (aA (y W a _ g H _ (I.tok (s.toks+1)) h) λus s2 ⟨D,H2,d,r,i⟩=>⟨d.cD,Cu F o w v l d r i⟩) A B))) z) n
end
def Kz(K:ah):O V->Hp->VK->Prop:=λb H Q=>∃(a C:Z) (y:V),b=[.ref a,y]/\dz K C/\H a=U (xn a C aG)/\Q .aE H
section
variable {K:ah}
def ZcS(m:K.In s.heap)(X:dz K C)(i:s.heap.get? a=U c)(f:c.cls=.ref C)(z:Q () s):wpAny M A (checkBuiltinCall "ValueError.__init__" ⟨.ref a::rest,[]⟩) Q E s:=by
 obtain⟨r,q,N,bs,j,o,p,I,k,H,F,D,B,y,w,l⟩:=X.mW;have b:=m _ _ l;have e:=Ux C j (.type "ValueError") QD;have G:=pz;obtain⟨h,g,d,t,os⟩:=s;simp[checkBuiltinCall,G.initKind,G.initSplit,G.initRow];repeat (first|(with_reducible refine kS i ?_;rw[f])|with_reducible refine kS b ?_|(with_reducible refine m9 b ?_;rw[e])|wp_step)
 refine wpAny_onRaise ?_;rw[show ∀(u v:String) (n:Nat),Bind.check ⟨.positional,"*","ValueError",.self,[⟨"args",.varPos,a8⟩]⟩ u v n (List.map (λx=>x.fst) ({pos:=Value.ref a::rest}:Args).kw)=pure () from λu v n=>check_star_args _ _ _ _ _ _];exact cq z
end
section
variable {X:Cx}{p W T:Pos}{e:cM}{R:O cM}{t:TA}
def Ze0(I:Inv X pins σ H s)(r:Vals xs us)(h:Kz X.K xs H Q):wpAny X.md X.A (call (.builtin "ValueError.__init__") us) (EP X pins σ Q) X.xe s:=by
 obtain⟨a,C,y,rfl,w,k,q⟩:=h;obtain⟨B,i,rfl,E,r2⟩:=vals2 r;obtain rfl:B=Value.ref a:=E;obtain⟨f,v,v1⟩:=Cw I.ay k;obtain⟨F,n,P,N,d,m⟩:=id v;have G:=pz;refine mz (vm G.init.plain G.initEntry (ZcS I.cD w n P ?_));unfold Builtin.«BaseException.__init__»;show wpAny _ _ (do let D←newTuple [i];Builtin.BaseException.bexcPut (.ref a) 0 D;ret .none) _ _ _;refine bo ?_;unfold newTuple;refine me (bo ?_);have j:=Yb {cls:=.type "tuple",dict:=aG,data:=.seq [i].toArray} n;have A:f[0]?=U f[0]:=W1 (Xs (Xt m));unfold Builtin.BaseException.bexcPut;refine bo (k8 j d A (bo (qd j d (Xs (Xt m)) ?_)));have fin:EP X pins σ Q Value.none {s with heap:=(s.heap.push {cls:=.type "tuple",dict:=aG,data:=.seq [i].toArray}).update a (Obj.mapFields (·.setIfInBounds 0 (Value.ref s.heap.objs.size)))}:=by
  have u:=vv d (·.setIfInBounds 0 (Value.ref s.heap.objs.size));have l:=Wu (Obj.mapFields (·.setIfInBounds 0 (Value.ref s.heap.objs.size))) j (vl u);have J:=I.write (x:=a) (e:=a) (o:=xn a C aG) (t':=s.toks) (by exact k▸ik) (.inl rfl)
   (λb o L g=>by rw[Wa _ _ (jm L)];exact Yb _ g) ⟨_,l⟩
   (Lc ⟨_,l,by rwa[Obj.cls_mapFields],by obtain⟨c,dd,da,sl⟩:=F;cases d;exact N,u,by rwa[AO]⟩ (by rwa[Array.getElem?_setIfInBounds_ne QD]))
  have same:upd H a (xn a C aG)=H:=by
   funext b
   by_cases z:b=a;·rw[z,aU,k]
   ·rw[aK z]
  rw[same] at J;exact⟨.aE,H,J,rfl,q⟩
 generalize f[0]=old;cases old<;>first|exact cq (cq fin)|exact yf (cq fin)|exact bo (yf (cq (cq fin)))
def Zgf{K:ah}:findCls K (.type "ValueError") (.type "type") "__init__"=U (.val (.builtin "ValueError.__init__")):=QJ
def UC{K:ah}:findIn K (.type "type") "__getattribute__"=U (U (.builtin "type.__getattribute__")):=QJ
def ZhC{K:ah}:subIn K (.type "type") (.type "type")=U af:=QJ
def UD:typeOf (.type "ValueError")=pure (.type "type"):=QJ
def Zi1:opaqueClassAbove (.type "ValueError")=pure aG:=QJ
def Zgg:bootBuiltins "ValueError"=U (.type "ValueError"):=QK
def ZdU{a:dv}{w:dg}{A:fI}{E:bg}{s:cb}{K:ah}{c:Sem cm}{Q:a7×O a7->cb->Prop}(b:K.In s.heap)(z:Q (.builtin "ValueError.__init__",[]) {s with toks:=s.toks+1}):
  wpAny (model a w) A (getMethod (.type "ValueError") "__init__" c) Q E s:=by
 have d:Looks (model a w) s.heap (specialOf (.type "ValueError") "__getattribute__") (U (.builtin "type.__getattribute__")):=(Looks.of_pure UD).andThen (looks_findIn b UC);unfold getMethod;refine bo (d.here ?_);show wpAny _ _ (if(Manifest.canonical "type.__getattribute__" !="object.__getattribute__")=af then _ else _) _ _ _;rw[bS PySem.W.canon_tga];refine bo (PySem.W.cls_open b (Looks.of_pure Zi1) (Looks.of_pure UD) UC (Looks.of_pure rfl) ZhC Zgf ?_);exact cq (PySem.W.handed_on rfl (cq z))
def Ze1{i:Sem cm}(l:Gl X "ValueError")(k:X.mg "ValueError"=aG)(m:PA X (e::R) t)
  (n:jb X e R:=by rfl)(o:jE X W R:=by rfl)
  (j:eval (.Call (.Attribute (.Name "ValueError" p) "__init__" T) (e::R) [] W) X.env=(do
   let b←eval (.Name "ValueError" p) X.env
   standAt T.atName
   let(f,first)←holding [b] (getMethod b "__init__" i)
   callWith W f first (backTo W (starEach (e::R) X.env)) (backToKw W (keywordEach [] X.env))):=by rfl):
  PE X (.Call (.Attribute (.Name "ValueError" p) "__init__" T) (e::R) [] W) (oi (Kz X.K) t):=by
 intro a s c H Q I h;refine qj (zH I l k Zgg ?_) j;refine ZdU I.cD ?_;exact Ao (aA (m W a _ c H _ (I.tok _) h) λu v ⟨r,w,q,d,g⟩=>Ze0 q d g) n o
end
def ZhD(C:Z)(g:Sp)(h:O V)(E:St->XK)(t:TA):TS:=λ_ b H=>t b H λc f=>c.length<=1000/\∀a,f a=aG->
 g (.ref a::(c++h)) (upd f a (xn a C aG)) (λv e=>v=.aE/\∃d,e a=U (xn a C (U d))/\E b (.ref C) (U d) (upd e a (xo a C (U d)))) E0
section
variable {X:Cx}{k:Nat}{f C:Z}{L:FuncData}{ps:O ar}{J:Sp}{P:O V}{R:O a7}{E:St->XK}{x:ar}{p T Q:Pos}{e:cM}{W:O cM}{t:TA}
theorem Ze2(i:xR X.K C f)(F:aB X.prog X.w X.K X.mg X.base aL k f L ps J)(hr:cK (k+1) X.A)(B:X.calm=af)(hg:Gl X x)(hm:X.mg x=U (.ref C))(j:Binds X.K L ps R)(hd:Vals P R)(hx:qD X E)(ha:PA X (e::W) t)
  (fK:(x==("__debug__":ar))=a8:=by decide)(he:jb X e W:=by rfl)(cz:jE X Q W:=by rfl):
  PS X (.Raise (U (.Call (.Name x p) (e::W) [] Q)) aG T) (ZhD C J P E t):=by
 intro w s σ H D I h;rw[arm_exec_Raise];refine bo (kZ ?_);show wpAny _ X.A (raiseStmt X.env (U (do let v←eval (.Call (.Name x p) (e::W) [] Q) X.env;standAt T;pure v)) aG) _ _ s;unfold raiseStmt;refine bo (bo ?_);refine oz (uj I hg hm ?_ fK);refine nS (h₀:=X.base) I.ok.mod.n_ i.kp (aA (ha Q w s σ H _ I h) λA l zz=>?_) he cz;obtain⟨vs,H1,I1,r,lim,q⟩:=zz;refine⟨I1.cD,?_⟩;obtain⟨nm,qn,N,bs,bm,sn,sub,ab,col,dd,k0,k1,k2,k3,k5,lk⟩:=i.mW;have kc:=I1.cD _ _ lk;have fr:H1 (l.heap.objs.size+1)=aG:=I1.ay.fresh (yd _);have hq:=q (l.heap.objs.size+1) fr;have r2:Vals (V.ref (l.heap.objs.size+1)::(vs++P)) (Value.ref (l.heap.objs.size+1)::(A++R)):=.cons rfl (r.append hd);have hl:((Value.ref (l.heap.objs.size+1)::A)++R).length=ps.length:=by
  have z:=r2.length;rw[F.len _ _ _ _ hq] at z;exact z.symm
 have here:((l.heap.push {cls:=.type "tuple",data:=.seq A.toArray}).push {cls:=.ref C,data:=.fields #[.ref l.heap.objs.size,.none,.none,.none,.bool a8,.none]}).get? (l.heap.objs.size+1)=
   U {cls:=.ref C,data:=.fields #[.ref l.heap.objs.size,.none,.none,.none,.bool a8,.none]}:=by heap_get
 have up:∀b o,l.heap.get? b=U o->((l.heap.push {cls:=.type "tuple",data:=.seq A.toArray}).push {cls:=.ref C,data:=.fields #[.ref l.heap.objs.size,.none,.none,.none,.bool a8,.none]}).get? b=U o:=
  λb o z=>Yb _ (Yb _ z)
 have new:cP X.prog X.w (upd H1 (l.heap.objs.size+1) (xn (l.heap.objs.size+1) C aG)) _ (l.heap.objs.size+1) (xn (l.heap.objs.size+1) C aG):=Lc (vs:=#[.ref l.heap.objs.size,.none,.none,.none,.bool a8,.none]) ⟨_,here,rfl,rfl,rfl,by show 1<6;decide⟩ rfl;have I2:=I1.laid (a:=l.heap.objs.size+1) (o:=xn (l.heap.objs.size+1) C aG) (t':=l.toks) up (yd _) new;have L1:=looks_findIn (M:=model X.prog X.w) I1.cD i.init;have L2:=looks_typeIn (M:=model X.prog X.w) I1.cD (beq_iff_eq.mp i.fn);have ul:A.length<=sizeLine:=by
  rw[←r.length,dU];exact lg lim (by decide)
 obtain⟨m,g1,d1,t1,o1⟩:=l;refine ZeY kc (zC lk i.m7) (zC lk i.lH) (zC lk i.vE) L1 L2 (mz (mh (F.run _ X.stack _ _ ⟨Value.ref (m.objs.size+1)::A,[]⟩ (Value.ref (m.objs.size+1)::(A++R)) _ _ E0 (hr.make C A [])
  (I2.C6.make C A []) (j _ (Value.ref (m.objs.size+1)::A) I2.cD hl) r2 hq) λr s' oh=>?_)) ul
 cases r with
 |error _=>exact False.elim oh
 |ok fl=>
  cases fl with
  |next=>exact False.elim oh
  |brk=>exact False.elim oh
  |cont=>exact False.elim oh
  |ret u=>
   obtain⟨v,H',DW,G,un,ay,rv,rfl,d,ea,lu⟩:=oh;obtain rfl:u=Value.none:=rv;refine⟨rfl,bo (kZ (cq ?_))⟩;obtain⟨ws,xr,w1⟩:=Cw ay ea;obtain⟨oe,e1,e2,e3,e4,e5⟩:=id xr;have I3:Inv X w σ H' s':=I2.K8 (ch:=[]) DW un ay G λb z=>absurd z QS;have Xh:=I3.cD _ _ lk;have AD:=zC lk i.AD;obtain⟨oc,od,Xe,jF⟩:=oe;dsimp only at e2 e3 e4;subst e2 e3 e4;have xe:X.xe (.ref (m.objs.size+1)) s':=by
    refine hx w σ H1 ⟨m,g1,d1,t1,o1⟩ _ s' I1 ⟨m.objs.size+1,C,d,upd H' (m.objs.size+1) (xo (m.objs.size+1) C (U d)),ws,rfl,yd _,DW,G,?_,?_,aU,xr,.inl w1,lu⟩
    ·have vF:Un (cX X.stack) [] H1 H' m s'.heap:=(Un.laid up (yd _) fr).trans un;have old:∀b o,m.get? b=U o->b≠m.objs.size+1:=λb o j=>Yy (Wv (Yr j));have tk:∀b u,H1 b=U u->b≠m.objs.size+1:=λb u j z=>by rw[z,fr] at j;cases j
     exact⟨vF.keep,vF.slot,λb o j n x'=>by rw[aK (old b o j)];exact vF.free b o j n x',vF.there,λb xs j=>by rw[aK (tk b _ j)];exact vF.iN b xs j,
      λb o u j=>by rw[aK (tk b _ j)];exact vF.i8 b o u j,λb ps j=>by rw[aK (tk b _ j)];exact vF.jz b ps j⟩
    ·intro b o j;by_cases z:b=m.objs.size+1
     ·subst z;rw[aU] at j;cases j;exact Uv xr
     ·rw[aK z] at j;have nz:∀c u,H' c=U u->(u=.own b\/∃xs,u=.tup xs)->c≠m.objs.size+1:=λc u B hu y=>by
       rw[y,ea] at B;cases B;rcases hu with hu|⟨xs,hu⟩<;>cases hu
      exact(ay b o j).i6 (λ_ _ _ g=>g) (λc B=>by rw[aK (nz c _ B (.inl rfl))];exact B) λc xs B=>by rw[aK (nz c _ B (.inr ⟨_,rfl⟩))];exact B
   have hh:=I.ok.hd B;obtain⟨h',g',d',t',o'⟩:=s';repeat (first|with_reducible refine kS e1 ?_|with_reducible refine kS Xh ?_|(with_reducible refine m9 Xh ?_;rw[AD])|with_reducible refine k8 e1 rfl w1 ?_|wp_step)
   exact wpAny_raiseNew_none hh xe
end
abbrev Cx.hand(X:Cx)(a:Z):Cx:={X with A:=X.A.mark (U (.ref a)),calm:=a8}
def Cx.Ok.hand{X:Cx}(b:X.Ok)(a:Z):(X.hand a).Ok:=
 ⟨b.mod,b.kind,b.glob,b.blt,b.above,b.inj,b.has,b.vg,λz=>absurd (z) Yh,b.frames,b.x8,b.sW,b.bs,b.oa,b.uO,b.sC,b.kB,b.qM⟩
section
variable {X:Cx}{σ:St}{H:Hp}{s:cb}
def Inv.hand(I:Inv X pins σ H s)(a:Z):Inv (X.hand a) pins σ H s:=⟨I.ok.hand a,I.os,I.bare,I.base,I.loc,I.cell,I.free,I.i4,I.pin,I.ay,I.len⟩
def Inv.ZhE(b:X.Ok)(I:Inv (X.hand a).pA pins σ H s):Inv X pins σ H s:=⟨b,I.os,I.bare,I.base,I.loc,I.cell,I.free,I.i4,I.pin,I.ay,I.len⟩
def Inv.zN{a:a9}{b:bg}{c:a9}(d:X.Ok)(I:Inv {X with pn:=X.pn++a,xe:=b} c σ H s):Inv X a σ H s:=
 ⟨d,I.os,I.bare,I.base,I.loc,I.cell,I.free,I.i4,λp e=>I.pin p (Yt _ e),I.ay,I.len⟩
def Inv.ZhF(I:Inv X a σ H s):Inv {X with pn:=X.pn++a,xe:=c} [] σ H s:=
 ⟨⟨I.ok.mod,I.ok.kind,I.ok.glob,I.ok.blt,I.ok.above,I.ok.inj,I.ok.has,I.ok.vg,I.ok.hd,I.ok.frames,I.ok.x8,I.ok.sW,I.ok.bs,I.ok.oa,I.ok.uO,I.ok.sC,I.ok.kB,I.ok.qM⟩,
  I.os,I.bare,I.base,I.loc,I.cell,I.free,I.i4,λp b=>I.pin p (by rw[We] at b;exact b),I.ay,I.len⟩
theorem Inv.gone(I:Inv X pins σ H s)(hN:X.N.Nodup)(hi:X.N[i]?=U n)(hn:s.heap.Ns X.env.locals m)
  (T:∀(i:Nat) (x:ar) (v:V),X.N[i]?=U x->σ[i]?=U (U v)->ve X.env.scope x->∃u,RelV v u/\Look X.env s.heap m x u)
  (R:G.Ns X.env.locals (λx=>if x=n then v else m x))(Q:Heap.SameBut X.env.locals s.heap G):Inv X pins (σ.set i aG) H {s with heap:=G,toks:=t'}:=by
 have h:∀b o,X.di.heap.get? b=U o->b≠X.env.locals:=λb o d z=>absurd (Yr (z▸d)) (Nat.not_lt.mpr I.ok.above);have k:∀b o,b≠X.env.locals->s.heap.get? b=U o->G.get? b=U o:=λb o d E=>(Q.2 b d).trans E;have x6:∀b u,H b=U u->b≠X.env.locals:=λb u d z=>by rw[z,I.free] at d;cases d
 refine⟨I.ok,I.os,I.bare,⟨λb o e D f x=>k b o (h b o e) (I.base.keep b o e D f x),λb o e D f x=>?_,I.base.free,λb o e x=>?_,I.base.iN,I.base.i8,I.base.jz⟩,⟨_,R,λj x w N J e3=>?_⟩,λx c e=>?_,I.free,I.i4,λp W=>?_,λb u d=>?_,?_⟩
 ·obtain⟨P,g⟩:=I.base.slot b o e D f x;exact⟨P,k b _ (h b o e) g⟩
 ·obtain⟨L,g⟩:=I.base.there b o e x;exact⟨L,k b L (h b o e) g⟩
 ·by_cases z:i=j
  ·subst z;have a:=J;rw[List.getElem?_set_self'] at a;cases q:σ[i]? with
   |none=>rw[q] at a;cases a
   |some y=>rw[q] at a;cases a
  ·rw[WD z] at J;obtain⟨u,r,l⟩:=T j x w N J e3;refine⟨u,r,?_⟩;have ne:x≠n:=λy=>z (I0 hN hi (y▸N));rcases l with⟨C,B⟩|⟨C,c,B,⟨o,t,A⟩⟩
   ·refine .inl ⟨C,?_⟩;show(if x=n then v else m x)=U u;rwa[bt ne]
   ·exact .inr ⟨C,c,B,o,k c o (I.qN x c B) t,A⟩
 ·obtain⟨w,o,t,A⟩:=I.cell x c e;exact⟨w,o,k c o (I.qN x c e) t,A⟩
 ·obtain⟨C,B,t,A⟩:=I.pin p W;exact⟨k p.1 p.2 t C,B,t,A⟩
 ·refine(I.ay b u d).i6 (λc o F E=>k c o ?_ E) (λ_ q=>q) λ_ _ q=>q;rcases F with rfl|F;·exact x6 _ _ d
  ·exact x6 _ _ F
 ·rw[W7];exact I.len
end
section
variable {K:ah}
def ZdV(h:K.In s.heap)(F:dz K B)(D:dz K C)(i:ig s.heap a C d H)(n:mroIn K C (.ref B)=U b)(z:Q b s):wpAny M A (excMatches (.ref a) (.ref B)) Q E s:=by
 obtain⟨R,q,N,bs,u,I,J,ab,v,dd,k0,k1,k2,k3,k5,l⟩:=F.mW;obtain⟨m,L,N',w,t,j,k,x,y,jg,l0,l1,X,W,T,e⟩:=D.mW;have g:=h _ _ l;have o:=h _ _ e;obtain⟨P,r,p,_⟩:=i;have G:=Ux B u (.type "BaseException") QD;have c:=zC e n;have f:=tc_notTuple;unfold excMatches;repeat (first|(with_reducible refine kS r ?_;rw[p])|with_reducible refine kS g ?_|(with_reducible refine m9 g ?_;rw[G])|(with_reducible refine m9 o ?_;rw[c])|wp_step)
 cases b<;>(wp_walk;exact z)
def Zgh{l:Nat}(h:ig s.heap a C d i)(m:yh l H s.heap i)(z:Q () s):wpAny M A (setFlight (.ref a) aG) Q E s:=by
 obtain⟨n,f,q,p,e,o⟩:=h;rcases m with y|⟨T,k,j,y,_,_,c,g,b⟩
 ·refine bo (k8 f e y ?_);exact cq z
 ·refine bo (k8 f e y ?_);refine qd c g (Jx.mp b).1 ?_;have same:=Heap.update_setField_same s.heap T k j 3 Value.none c g b;simp_all
end
def hX(K:ah)(B:Z)(i:Nat)(g:TS)(D:Ends):St->XK:=λf c o H=>∃C d,c=.ref C/\o=U d/\dz K C/\mroIn K C (.ref B)=U af/\
 ∀a,H a=U (xo a C (U d))->g {nx:=λb e=>D.nx (b.set i aG) e,rt:=D.rt,bk:=λb e=>D.bk (b.set i aG) e,ct:=λb e=>D.ct (b.set i aG) e} (f.set i (U (.ref a))) H
section
variable {X:Cx}{B:Z}{i:Nat}{n x:ar}{W N:O cj}{L:cj}{G R P:Pos}{F:(St->XK)->TS}{T:TS}
theorem Tq(y:X.stack=X.env::X.outer/\X.env.frame=U X.env.locals)(hN:X.N.Nodup)(hi:X.N[i]?=U n)(hl:X.env.scope.names.lookup n=U .local)(hg:Gl X x)(hm:X.mg x=U (.ref B))(XB:dz X.K B)
  (hb:∀pn t E,qD {X with pn:=pn,xe:=t} E->PassesOwn X.md X.A X.env t->fQ {X with pn:=pn,xe:=t} W (F E))
  (hh:∀a,fQ (X.hand a).pA (L::N) T)(fK:(x==("__debug__":ar))=a8:=by decide):
  PS X (.Try W [.ExceptHandler (U (.Name x G)) (U n) (L::N) R] [] [] P) (λD σ H=>F (hX X.K B i T D) D σ H):=by
 intro c s σ H D I h;refine bo (kZ (wpAny_tryStmt_except ?_));let t:a7->cb->Prop:=λe A=>wpAny X.md X.A (noteFrame e X.env) (λ_ s2=>wpAny X.md X.A (setFlight e aG) (λ_ s3=>wpAny X.md X.A (handleBy e X.env [.ExceptHandler (U (.Name x G)) (U n) (L::N) R]) (SP X c D) X.xe s3) X.xe s2) X.xe A;have px':qD {X with pn:=X.pn++c,xe:=t} (hX X.K B i T D):=by
  intro K7 l H1 A e s' I' cx;have st:X.A.frames=U (X.env::X.outer):=by exact y.1▸I.ok.frames
  have f1:A.heap.FunFrames X.base (X.env::X.outer):=by exact y.1▸I'.stack
  have f2:∀b∈cX (X.env::X.outer),H1 b=aG:=by exact y.1▸I'.Ca
  refine RG st f1 f2 y.2 (by rwa[←y.1]) λs3 c3=>?_;rw[←y.1] at c3;obtain⟨a,C,d,o,vs,rfl,lo,J,ea,xr,fl,C',d',ec,ed,XC,mt,q⟩:=I'.Tj c3;cases ec;cases ed;have J2:=J.zN I.ok;refine wpAny_handleBy_cons (codeAny_handlers_test (uj (J2.hand a) hg hm (ZdV J2.cD XB XC xr mt (codeAny_handlers_suite_as (Zgh xr fl (BU (v:=.ref a) J2 hN hi (.inl hl) rfl (λs4 J4=>eF (hh a c s4 _ _ _ ((J4.hand a).lu _) (q a ea)) (λf s5 z=>?_) λ _ _=>False.elim) (.inr hl))))) fK)) (by intro z;cases z);have fin:∀{p:St} {r:Hp},Inv (X.hand a).pA c p r s5->∀Q:Unit->cb->Prop,(∀w,Inv X c (p.set i aG) r w->Q () w)->wpAny X.md X.A (do bindName X.env n .none;unbindBehindTheSuite X.env n R) Q X.xe s5:=by
   intro p r j Q k;have g:=Inv.ZhE I.ok j;obtain⟨m,hn,lk⟩:=g.loc;refine wpAny_nameGoes_keeps (hl) hn (by rw[I.ok.kind];rfl) λh' v n2 sb=>k _ (g.gone hN hi hn lk n2 sb)
  cases f with
  |next=>
   obtain⟨p,r,j,z⟩:=z;exact fin j _ λw g=>⟨_,_,g,z⟩
  |brk=>
   obtain⟨p,r,j,z⟩:=z;exact fin j _ λw g=>⟨_,_,g,z⟩
  |cont=>
   obtain⟨p,r,j,z⟩:=z;exact fin j _ λw g=>⟨_,_,g,z⟩
  |ret u=>
   obtain⟨v,p,r,j,rv,z⟩:=z;exact fin j _ λw g=>⟨_,_,_,g,rv,z⟩
 refine eF (hb _ t _ px' (PassesOwn.looking) [] s σ H D I.ZhF h) (λf A z=>?_) λ_ _ z=>z;cases f with
 |next=>
  obtain⟨l,o,J,q⟩:=z;exact cq ⟨l,o,J.zN I.ok,q⟩
 |brk=>
  obtain⟨l,o,J,q⟩:=z;exact⟨l,o,J.zN I.ok,q⟩
 |cont=>
  obtain⟨l,o,J,q⟩:=z;exact⟨l,o,J.zN I.ok,q⟩
 |ret u=>
  obtain⟨v,l,o,J,rv,q⟩:=z;exact⟨v,l,o,J.zN I.ok,rv,q⟩
end
def ZjY(K:ah)(e:TE):TE:=λd H Q=>e d H λx c=>(∃y:ar,x=.str y/\y.length<=sizeLine/\Q (.str y) c)\/(∃i:Int,x=.int i/\i.natAbs.log2<1920/\Q (.str (toString i)) c)\/
 ∃(a:Z) (b:O Int),x=.ref a/\az K c a (b.map V.int)/\(∀n∈b,n.natAbs.log2<1920)/\(PyData.tuple (b.map PyData.int)).shown.length<=sizeLine/\Q (.str (PyData.tuple (b.map PyData.int)).shown) c
theorem ZcT{b:O Int}:∀{a:O a7},Vals (b.map V.int) a->∃as,ReadsAll h a (b.map PyData.int) as:=by
 induction b with
 |nil=>intro a r;cases r;exact⟨[],.nil⟩
 |cons n r e=>
  intro a q;cases q with
  |cons d c=>
   obtain⟨t,rfl⟩:=d;obtain⟨as,z⟩:=e c;exact⟨_,.cons (.int n t) z⟩
theorem ZdW{a:O Int}(h:∀n∈a,n.natAbs.log2<1920):PyData.showableAll (a.map PyData.int)=af:=by
 induction a with
 |nil=>rfl
 |cons n r b=>
  show(decide (n.natAbs.log2<1920)&&PyData.showableAll (r.map PyData.int))=af
  simp_all
theorem Zb3(a:O Int):PyData.hasDictAll (a.map PyData.int)=a8:=by
 induction a with
 |nil=>rfl
 |cons n r b=>exact b
theorem ZcU(a:O Int):PyData.depthAll (a.map PyData.int)=0:=by
 induction a with
 |nil=>rfl
 |cons n r b=>
  show max (PyData.int n).depth (PyData.depthAll (r.map PyData.int))=0;rw[b];rfl
def Tr(m:cK j X.A)(J:PE X e w):PE X (.FormattedValue e (-1) aG pos) (ZjY X.K w):=by
 intro b s p H Q I h;refine wpAny_FormattedValue_plain (aA (J b s p H _ I h) λu N v=>?_);obtain⟨x,d,c,f,q⟩:=v;rcases q with⟨y,rfl,D,q⟩|⟨i,rfl,E,q⟩|⟨a,k,rfl,G,A,sz,q⟩
 ·obtain⟨t,rfl⟩:=f;exact wpAny_formatField_str ⟨.str y,d,c,⟨t,rfl⟩,q⟩ ⟨.str y,d,c.tok _,⟨_,rfl⟩,q⟩ D
 ·obtain⟨t,rfl⟩:=f;exact wpAny_formatField_int E ⟨.str (toString i),d,c.tok _,⟨_,rfl⟩,q⟩
 ·obtain rfl:u=Value.ref a:=f;obtain⟨ak,r,⟨o,g,C,n,B⟩,R⟩:=c.tuple G;obtain⟨W,P⟩:=ZcT r;refine formatField_of_reads (.tuple g C B (by rwa[List.toList_toArray])) (ZdW A) (λz=>?_) m.gd ?_ (λ_ _ z=>z) (λT u L F=>⟨.str (PyData.tuple (k.map PyData.int)).shown,d,c.kept F,⟨u,rfl⟩,q⟩) sz
  ·have l:PyData.hasDictAll (k.map PyData.int)=af:=z;rw[Zb3] at l;cases l
  ·show X.A.units+(PyData.depthAll (k.map PyData.int)+1+2)<cLine;rw[ZcU];have:=m.un;omega
abbrev TJ:=ar->St->Hp->(ar->Hp->Prop)->Prop
def PJ(X:Cx)(f:O cM)(t:TJ):Prop:=
 ∀(a:a9) (s:cb) (c:St) (H:Hp) (b:ar) (R:ar->Hp->Prop) (Q:ar->cb->Prop),Inv X a c H s->t b c H R->(∀y d e,Inv X a c e d->R y e->Q y d)->PySem.Joins X.md X.A X.xe (evalEach f X.env) b Q s
def ZjZ:TJ:=λa _ H R=>R a H
def Zi2(d:TE)(c:TJ):TJ:=λa b H R=>d b H λx e=>∃y,x=.str y/\(a++y).length<=sizeLine/\c (a++y) b e R
def Zi3(t:TJ):TE:=λa H Q=>t Str.empty a H λy b=>y.length<=sizeLine/\Q (.str y) b
def ZhG:PJ X [] ZjZ:=λ_ s _ H a _ _ I h k=>k a s H I h
def Ke(n:PE X e g)(m:PJ X p t):PJ X (e::p) (Zi2 g t):=by
 intro a s c H b R Q I h k;refine aA (n a s c H _ I h) λu i d=>?_;obtain⟨x,v,r,j,y,o,l,q⟩:=d;subst o;obtain⟨f,rfl⟩:=j;exact⟨y,f,rfl,l,m a i c v (b++y) R Q r q k⟩
def Zgi(h:PJ X (e::f::d) t):PE X (.JoinedStr (e::f::d) pos) (Zi3 t):=by
 intro a s b H Q I c;refine wpAny_JoinedStr (h a s b H Str.empty _ _ I c λy j i g ⟨l,q⟩=>⟨l,.str y,i,g.tok _,⟨_,rfl⟩,q⟩)
end L2
namespace L2
open PySem PySem.Spec PyProof.Rows
structure Bl(mg:aS):Prop where
 CW:mg "len"=aG
 Zi4:mg "abs"=aG
 xC:mg "list"=aG
 kY:mg "range"=aG
 oQ:mg "tuple"=aG
 Zi5:mg "any"=aG
 UE:mg "all"=aG
 yY:mg "isinstance"=aG
 Cz:mg "bool"=aG
 UG:mg "int"=aG
 zU:mg "str"=aG
 BX:mg "sorted"=aG
 Zi6:mg "min"=aG
 Zi7:mg "max"=aG
 ZlZ:mg "sum"=aG
 ZhH:mg "dict"=aG
 ZlH:mg "reversed"=aG
 Zbt:mg "ValueError"=aG
def Zj0{K:ah}(a:X.calm=af)(h:X.K=K):dm X (.builtin "any") (Vn K):=h▸ZaM a
def Vu{K:ah}(a:X.calm=af)(h:X.K=K):dm X (.builtin "all") (Vo K):=h▸ZaN a
def sortedK{K:ah}(h:X.K=K):dm X (.builtin "sorted") (Kd K):=h▸Ot
def lJ{K:ah}(h:X.K=K):cL X (compareOp .In) (Au K a8):=h▸ZdM
def xD{K:ah}(h:X.K=K):cL X (compareOp .NotIn) (Au K af):=h▸Zbq
def RK{K:ah}(h:X.K=K):jG X (Mn K):=h▸Zhq
structure xS(K:ah)(x qual:ar)(st:cj)(f:Z)(fd:FuncData):Prop where
 ex:∃(oc:a7) (od:bR Z) (dV kV doc pm:a7) (an:bR Z) (bw ct:a7) (jF:dt (bR a7)),
  fd=fnOf x qual (mJ st) (js st) (aJ st) dV kV doc pm an bw ct/\K.lookup f=U ⟨oc,od,.func fd,jF⟩/\codeIn K bw qual=af
 kp:keepIn K (.ref f)=af
section
variable {P:dv}{w:dg}{K:ah}{W:aS}{X:cO}
def xS.ok{x c:ar}{e:cj}{f:Z}{l:FuncData}{N i:O ar}{k:Nat}{sp:Sp}(F:xS K x c e f l)(a:aP N i (aJ e))(j:∀d H Q E,sp d H Q E->d.length=i.length)
  (m:∀(g:a7) (A:fI) (b:O Env) (s:cb) (H:Hp) (d:O V) (Q:VK) (E:XK),cK k (A.deeper (envOfC c (aJ e) s.heap.objs.size f g))->sp d H Q E->
   ∃t,fQ (lC aL P w K W X N c (aJ e) f g A b s H E).pA (js e) t/\t {nx:=λ_ v=>Q .aE v,rt:=Q} (start N d) H):aB P w K W X aL (k+1) f l i sp:=by
 obtain⟨B,z,D,kV,u,y,I,g,G,C,rfl,o,r⟩:=F.ex;refine La o r a j λA b s H d Q E p n=>?_;obtain⟨t,h,q⟩:=m g A b s H d Q E p n;exact⟨t,h.pA,q⟩
end
def Ts{K:ah}:kitOne K (.type "int") (.type "int")=U af:=QJ
def KA{K:ah}:kitOne K (.type "int") (.type "bool")=U a8:=QJ
def Tt{K:ah}:kitOne K (.type "bool") (.type "bool")=U af:=QJ
def ZhI{K:ah}:kitOne K (.type "str") (.type "bool")=U a8:=QJ
def ZhJ{K:ah}:kitOne K (.type "str") (.type "int")=U a8:=QJ
def Tu{K:ah}:kitOne K (.type "str") (.type "str")=U af:=QJ
def ZhK{K:ah}:kitOne K (.type "list") (.type "bool")=U a8:=QJ
def ZhL{K:ah}:kitOne K (.type "list") (.type "int")=U a8:=QJ
def ZhM{K:ah}:kitOne K (.type "list") (.type "str")=U a8:=QJ
def ZhN{K:ah}:kitOne K (.type "list") (.type "list")=U af:=QJ
def ZhO{K:ah}:kitOne K (.type "list") (.type "tuple")=U a8:=QJ
def ZhP{K:ah}:kitOne K (.type "tuple") (.type "bool")=U a8:=QJ
def ZhQ{K:ah}:kitOne K (.type "tuple") (.type "int")=U a8:=QJ
def ZhR{K:ah}:kitOne K (.type "tuple") (.type "str")=U a8:=QJ
def ZhS{K:ah}:kitOne K (.type "tuple") (.type "list")=U a8:=QJ
def ZhT{K:ah}:kitOne K (.type "tuple") (.type "tuple")=U af:=QJ
def Iu(a:O Int)(o:bR Int):(a++o.toList).map V.int=a.map V.int++o.toList.map V.int:=QS
inductive Dt where
 |aE|bl (b:cm)|int (i:Int)|str (x:ar)|lst (a:List Dt)|tup (a:List Dt)
def At(H:Hp):Nat->V->Dt->Prop
 |_,v,.aE=>v=.aE
 |_,v,.bl b=>v=.bl b
 |_,v,.int i=>v=.int i
 |_,v,.str x=>v=.str x
 |0,_,.lst _=>False
 |0,_,.tup _=>False
 |m+1,v,.lst ds=>∃a c,v=.ref a/\H a=U (.lst c)/\ds.length<=1000/\Paired (At H m) c ds
 |m+1,v,.tup ds=>∃a c,v=.ref a/\H a=U (.tup c)/\ds.length<=1000/\Paired (At H m) c ds
theorem At.same(g:ai H j):∀{m:Nat} {v:V} {d:Dt},At H m v d->At j m v d
 |_,_,.aE,h=>by unfold At at h⊢;exact h
 |_,_,.bl _,h=>by unfold At at h⊢;exact h
 |_,_,.int _,h=>by unfold At at h⊢;exact h
 |_,_,.str _,h=>by unfold At at h⊢;exact h
 |0,_,.lst _,h=>by unfold At at h;exact h.elim
 |0,_,.tup _,h=>by unfold At at h;exact h.elim
 |m+1,_,.lst _,h=>by
  obtain⟨a,b,e,i,f,c⟩:=h;exact⟨a,b,e,g _ _ i,f,L2.Paired.bI c λ _ _=>At.same g⟩
 |m+1,_,.tup _,h=>by
  obtain⟨a,b,e,i,f,c⟩:=h;exact⟨a,b,e,g _ _ i,f,L2.Paired.bI c λ _ _=>At.same g⟩
section
variable {H:Hp}{m:Nat}
def UH(b:cm):At H m (.bl b) (.bl b):=by unfold At;rfl
def r9(i:Int):At H m (.int i) (.int i):=by unfold At;rfl
def ZhU(x:ar):At H m (.str x) (.str x):=by unfold At;rfl
def ZhV(h:H a=U (.tup xs))(l:ds.length<=1000)(p:Paired (At H m) xs ds):At H (m+1) (.ref a) (.tup ds):=by unfold At;exact⟨a,xs,rfl,h,l,p⟩
def ZhW(h:H a=U (.lst xs))(l:ds.length<=1000)(p:Paired (At H m) xs ds):At H (m+1) (.ref a) (.lst ds):=by unfold At;exact⟨a,xs,rfl,h,l,p⟩
theorem RL:∀a:O Int,Paired (At H m) (a.map V.int) (a.map Dt.int)
 |[]=>.nil
 |n::r=>.cons (r9 n) (RL r)
end
theorem fU:∀{b:O α} {a:O β} {i:Nat} {x:α},Paired F b a->b[i]?=U x->∃y,a[i]?=U y/\F x y:=by
 intro b a i x h;induction h generalizing i with
 |nil=>intro e;simp at e
 |cons r t c=>
  intro e;cases i with
  |zero=>
   have e:=Yn (by simpa using e);subst e;exact⟨_,rfl,r⟩
  |succ i=>
   obtain⟨y,f,d⟩:=c (by simpa using e);exact⟨y,by simpa using f,d⟩
theorem de:∀{b:O α} {a:O β},Paired F b a->b.length=a.length:=by
 intro b a h;induction h with
 |nil=>rfl
 |cons _ _ c=>rw[Wi,Wi,c]
def Qm{i:Nat}(h:xs[i]?=U x):eG xs (0+(i:Int))=U x:=by
 rw[show(0:Int)+(i:Int)=(i:Int) from by omega];exact eZ h
def XP(H:Hp)(C:Z)(c:ar)(E:XK):Prop:=∀(a d:Z) (b:Hp),H a=aG->H d=aG->ai H b->b a=U (xo a C (U d))->b d=U (xq d [("word",.str c)])->E (.ref C) (U d) b
def xR.of{K:ah}{C f:Z}(x:dz K C)(a:PySem.W.findIn K (.ref C) "__init__"=U (U (.ref f)))(m:isFn K (.ref f)=af)(e:keepIn K (.ref C)=af):xR K C f:=by
 obtain⟨d,q,N,bs,s,c,sub,p,b,o,k,j,i,h,g,l⟩:=id x.mW;have no:∀n:String,o_.contains (.type n)=a8->PySem.W.mroIn K C (.type n)=U a8:=λn r=>by
  unfold PySem.W.mroIn PySem.W.clsIn
  simp_all
 exact⟨⟨d,q,N,bs,_,c,sub,p,b,o,k,j,i,h,g,l⟩,x.mro _ QD,x.mro _ QD,no _ QD,no _ QD,a,m,e⟩
def BY{K:ah}(C:Z):kitOne K (.ref C) (.ref C)=U af:=by unfold kitOne;rw[bS (beq_self_eq_true _)]
def BI{K:ah}(x:dz K B)(e:C≠B)(h:PySem.W.mroIn K C (.ref B)=U b):kitOne K (.ref C) (.ref B)=U b:=by
 obtain⟨d,q,N,bs,f,c,sub,j,a,r,p,o,n,m,k,l⟩:=x.mW;unfold kitOne;rw[bt (λz=>e (Value.ref.inj (beq_iff_eq.mp z)))];unfold kitCls;have i:PySem.W.clsIn K B=U {name:=d,bases:=bs,mro:=.ref B::(f.map Value.ref++o_),ns:=N,qualname:=q,hasDict:=af,slotNames:=c,subclasses:=sub,abstract:=j,collection:=a,hasDel:=a8}:=by
  unfold PySem.W.clsIn;rw[l]
 have g:typeIn K (.ref B)=U (.type "type"):=by
  show(K.lookup B).map (·.cls)=_;rw[l];rfl
 dsimp;rw[bS (by rw[i,g];rfl)];exact h
def Zgj:O V->Hp->VK->Prop:=λa H Q=>∃(p:Z) (n:Nat),a=[.ref p]/\H p=U (.kJ 0 (n:Int))/\n<=1000/\∀l:Z,H l=aG->Q (.ref l) (upd H l (.tup ((bB n).map V.int)))
section
variable {X:dv}{w:dg}{A:fI}{E:bg}{s:cb}
theorem Zb4{Q:O a7->cb->Prop}{r:Z}{n:Nat}{t u v:Tok}(F:A.handled=aG)(l:IsRange s.heap r 0 (n:Int) 1 t u v)(D:n<=1000)
  (k:∀g h (d:dt a7),(∀b o,s.heap.get? b=U o->g.get? b=U o)->ItemsOf (λi v=>∃t,v=.int (0+i*1) t) d n->Q d.toList {s with heap:=g,toks:=h}):
  wpAny (model X w) A (collect (.ref r)) Q E s:=by
 refine bo (wpAny_runValue (WR PySem.F.entry_proto_collect (bo (me (cq ⟨plainId_quiet PySem.F.plain_list_iadd _,WR PySem.F.entry_list_iadd ?_⟩)))));have y:∀s':cb,(∃(g:cO) (h:Nat) (d:dt a7) (c:Nat),s'={s with heap:=g,toks:=h}/\(∀b o,b≠s.heap.objs.size->(s.heap.push {cls:=.type "list",data:=.seq ([]:O a7).toArray}).get? b=U o->g.get? b=U o)/\
   g.get? s.heap.objs.size=U {cls:=.type "list",dict:=aG,data:=.seq d c,slots:=#[]}/\ItemsOf (λi v=>∃t,v=.int (0+i*1) t) d n)->
   wpAny (model X w) A (match Value.ref s.heap.objs.size with
    |Value.ref a=>do
     match(←load a).data with
      |Data.seq xs _=>pure xs.toList
      |_=>unsupported "internal:collect"
    |_=>unsupported "internal:collect") Q E s':=by
  rintro s' ⟨g,h,d,c,rfl,j,here,m⟩;exact bo (wpAny_load here (cq (k g h d (λb o p=>j b o (Yy (Yr p)) (Yb _ p)) m)))
 refine eF (wpAny_extend_range (s:={s with heap:=s.heap.push {cls:=.type "list",data:=.seq ([]:O a7).toArray}})
  (R:=λr s'=>r=.ok (.ret (.ref s.heap.objs.size))/\∃(g:cO) (h:Nat) (d:dt a7) (c:Nat),s'={s with heap:=g,toks:=h}/\(∀b o,b≠s.heap.objs.size->(s.heap.push {cls:=.type "list",data:=.seq ([]:O a7).toArray}).get? b=U o->g.get? b=U o)/\
   g.get? s.heap.objs.size=U {cls:=.type "list",dict:=aG,data:=.seq d c,slots:=#[]}/\ItemsOf (λi v=>∃t,v=.int (0+i*1) t) d n)
  F (Yb _ l) (yE (by decide) (by decide) QO QO) (by rw[vW];split<;>omega) (eL D (by decide)) _ _ 0 (Yp _ rfl) λg h d c j here m=>⟨rfl,g,h,d,c,rfl,j,here,m⟩) (λfin s' z=>?_) λe s' z=>?_
 ·cases fin with
  |done f=>obtain⟨q,x⟩:=z;cases q;exact y _ x
  |again G=>exact⟨z.1,mh z.2 λr B l=>by obtain⟨rfl,C⟩:=l;exact y B C⟩
 ·cases z.1
def Zgk(r:Z)(n:Nat)(t u v:Tok)(x:n<=1000):
  Meets (Builtin.«tuple.__new__» ⟨[.type "tuple",.ref r],[]⟩) (λA R s=>A.handled=aG/\IsRange s.heap r 0 (n:Int) 1 t u v/\∀(a:cO) (f:Nat) (acc:dt a7),(∀b o,s.heap.get? b=U o->a.get? b=U o)->ItemsOf (λi v=>∃t,v=.int (0+i*1) t) acc n->
   R (.ok (.ret (.ref a.objs.size))) {s with heap:=a.push {cls:=.type "tuple",data:=.seq acc},toks:=f}):=
 .of_wp λX w A R s h=>by
  obtain⟨C,g,d,f,os⟩:=s;obtain⟨y,j,q⟩:=h;have sub:=sub_tuple_self;have p:=init_tuple_lookup;have B:=madeHere_tuple;have c:A.in1.handled=aG:=y
  wp_walk using PySem.AutoSeq1.wpAny_loadPart' j,wpAny_typeOf ty,Zb4 (A:=A.in1) c j x
  intro a z acc m k;show wpAny _ _ (Builtin.Tuple.tupleExact acc.toList.toArray>>=λv=>ret v) _ _ _;unfold Builtin.Tuple.tupleExact;have l:acc.toList.toArray.size<=sizeLine:=by
   have e:=k.1;rw[dU];simp;exact lg (Qc3 e) (lg x (by decide))
  refine bo (me (cq ⟨_,rfl,?_⟩) l);have e:acc.toList.toArray=acc:=QS
  exact e▸q a z acc m k
end
def Of(E:X.calm=af):dm X (.type "tuple") Zgj:=by
 intro c s m H L N Q I r h;obtain⟨p,n,rfl,B,j,q⟩:=h;obtain⟨u,rfl,z⟩:=vals1 r;cases z;obtain⟨t,u,v,C⟩:=I.ay p _ B;refine callType_new PySem.F.called_tuple QD (PySem.F.typeCall_tuple_1 _) (PySem.F.newCall_tuple_1 _) (λe=>PySem.F.args_object_init_2 e _) PySem.F.entry_tuple_new (Zgk p n t u v j) ⟨I.ok.hd E,C,λd g a A k=>⟨⟨_,Yp _ rfl,rfl⟩,?_⟩⟩;have l:=I.kept (t':=g) A;have w:Vals ((bB n).map V.int) a.toList:=by
  refine GK (by rw[Ya,fN];simp[k.1]) λi x u f G=>?_;obtain⟨y,rfl⟩:=k.2 i u (by simpa using G);have D:i<n:=by
   have:=(Yj.mp f).1;rw[Ya,fN] at this;exact this
  rw[Ye,nH D] at f;have F:=Yn f;subst F;exact⟨y,by rw[show(0:Int)+(i:Int)*1=(i:Int) by omega]⟩
 have J:Inv X c m (upd H d.objs.size (.tup ((bB n).map V.int))) {s with heap:=d.push {cls:=.type "tuple",data:=.seq a},toks:=g}:=
  l.laid (λ b o=>Yb _) (Yd _) (show cP X.prog X.w _ _ _ (.tup _) from⟨by rw[Ya,fN];exact Jo (kU j),a.toList,w,by simpa using mK.new d a⟩)
 exact⟨.ref d.objs.size,_,J,rfl,q _ (l.ay.fresh (Yd _))⟩
inductive RM(K:ah)(c:O V)(H:Hp)(Q:VK):Prop
 |mk (a C:Z) (b y:ar) (j:c=[.ref a,.str b,.str y]) (k:H a=U (xn a C aG)) (h:dz K C) (i:c9 K C "word") (g:b.length<=100) (f:y.length<=1000000) (e:∀d,H d=aG->d≠a->Q .aE (upd (upd H d (xq d [("word",.str b)])) a (xn a C (U d)))):RM K c H Q
def Le(K:ah):Sp:=λa H Q _=>RM K a H Q
def Lf(b:ar)(c:Z):Sp:=λe H Q _=>∃(a:Z) (y:ar),e=[.ref a,.str y]/\H a=U (xn a c aG)/\y.length<=1000000/\
 ∀d,H d=aG->d≠a->Q .aE (upd (upd H d (xq d [("word",.str b)])) a (xn a c (U d)))
abbrev pE:O ar:=["self","why"]
def zO(P:dv)(w:dg)(K:ah)(b:aS)(a:cO)(x f:ar)(c:Z):Prop:=
 ∃d e,xR K c d/\aB P w K b a aL 2 d e pE (Lf f c)/\Binds K e pE []/\b x=U (.ref c)/\dz K c/\c9 K c "word"
def tW(c:TE)(R:St->Hp->VK):TE:=λa H Q=>c a H (R a H)/\∀v b,R a H v b->Q v b
def PE.weak(h:PE X e d)(R:St->Hp->VK):PE X e (tW d R):=λa s b H Q I ⟨q,k⟩=>aA (h a s b H (R b H) I q) λ_ _ ⟨v,c,f,r,z⟩=>⟨v,c,f,r,k v c z⟩
def Zgl(c:Z)(b:ar)(E:St->XK)(d:TE):TS:=λ_ a H=>d a H λv e=>∃y:ar,v=.str y/\y.length<=1000000/\XP e c b (E a)
def Px{X:Cx}{j:Nat}{x i:ar}{c:Z}{E:St->XK}{e:cM}{t:TE}{p k T:Pos}(h:zO X.prog X.w X.K X.mg X.base x i c)(J:cK j X.A)(L:3<=j)(Q:X.calm=af)(N:Gl X x)(G:qD X E)(P:PE X e t)
  (R:(x==("__debug__":ar))=a8:=by decide)(w:starEach [e] X.env=[(a8,eval e X.env)]:=by rfl):
  PS X (.Raise (U (.Call (.Name x p) [e] [] T)) aG k) (Zgl c i E t):=by
 obtain⟨fi,fd,B,F,b,m,W,na⟩:=h;intro f s g H D I q;refine Ze2 B F (J.mono L) Q N m b .nil G (aa (P.weak λg _ v r=>∃y:ar,v=.str y/\y.length<=1000000/\XP r c i (E g)) ae w) R w rfl f s g H D I ⟨q,?_⟩;rintro v r ⟨y,rfl,C,A⟩;refine⟨by show 1<=1000;decide,λa u=>⟨a,y,rfl,aU,C,λd hd l=>⟨rfl,d,aU,?_⟩⟩⟩;have z:r d=aG:=by rw[aK l] at hd;exact hd
 refine A a d _ u z (λb o e=>?_) aU ?_
 ·have n:=cA e u;rwa[aK n,aK n,aK (cA e z),aK n]
 ·rw[aK l,aK l,aU]
def BZ{K:ah}(h:X.K=K):dm X (.builtin "isinstance") (UB K):=h▸Zbs
def Qn{X:Cx}{K:ah}{e:cM}{b:TE}{f:ar}{a:Pos}(h:X.K=K)(c:PE X e b)(d:attributeBase e f X.env (eval e X.env)=eval e X.env:=by rfl):PE X (.Attribute e f a) (UA K b f):=h▸Zge c d
end L2
namespace L2
open PySem PySem.Spec PyProof.Rows
open PySem.W (Looks InstAt looks_findIn looks_typeIn looks_clsIn looks_mroIn looks_find findObj findIn mroIn clsIn)
def CA{X:Cx}{k j:Nat}{m:ar}{C:Z}{n:O ar}{l:Sp}{E:St->XK}{a d:Pos}{o e:cM}{es:O cM}{t:TA}{i:TE}{q:Sem cm}(h:∃f g,gZ X.K C/\Meth X.K C m f/\aB X.prog X.w X.K X.mg X.base (eK X.prog X.w) k f g n l/\Binds X.K g n [])(u:cK j X.A)(x:k<=j)(r:qD X E)(v:PE X o i)(y:PA X (e::es) t)
  (z:jb X e es:=by rfl)(A:jE X a es:=by rfl)
  (s:eval (.Call (.Attribute o m d) (e::es) [] a) X.env=(do
   let p←eval o X.env
   standAt d.atName
   let(f,first)←holding [p] (getMethod p m q)
   callWith a f first (backTo a (starEach (e::es) X.env)) (backToKw a (keywordEach [] X.env))):=by rfl):
  PE X (.Call (.Attribute o m d) (e::es) [] a) (Tn C m l E i t):=by
 obtain⟨f,g,c,w,F,b⟩:=h;exact ZeV v c w F (u.mono x) b r y z A s
end L2
namespace D3
open L2
def Hk(n:Nat):(bB n).Nodup:=by
 exact List.Pairwise.map _ (λa b h e=>h (mu e)) VJ
end D3
namespace L2
open PySem PySem.Spec PyProof.Rows
def Row(K:ah)(H:Hp)(p:Z)(a:O Int):Prop:=aq K H p (a.map V.int)\/az K H p (a.map V.int)
def Row.same{K:ah}{H a:Hp}{p:Z}{ns:O Int}(e:ai H a)(h:Row K H p ns):Row K a p ns:=by
 rcases h with h|h;·exact .inl (e.seq h)
 ·exact .inr (e.kg h)
def full(a:O Int):cm:=decide (a.Perm (bB a.length))
def rM(h:full ns=af):ns.Perm (bB ns.length):=fb h
def uo(h:ns.Perm (bB n)):full ns=af:=d6 (by rwa[h.length_eq,fN])
def Zb5(n:Nat):(bB n).Pairwise (·<=·):=by
 unfold bB;rw[Wr];exact List.pairwise_lt_range.imp λh=>QO
theorem OQ:∀{c bs:O Int},c.Perm bs->c.Pairwise (·<=·)->bs.Pairwise (·<=·)->c=bs
 |[],bs,p,_,_=>by
  simp_all
 |a::c,[],p,_,_=>by
  simp_all
 |a::c,b::bs,p,f,d=>by
  rw[List.pairwise_cons] at f d;have e:a=b:=by
   have h:=p.subset Yk;have g:=p.symm.subset Yk
   grind
  subst e;rw[OQ (List.Perm.cons_inv p) f.2 d.2]
def Zb6(p:a.Perm ns)(h:a.Pairwise (·<=·)):decide (a=bB ns.length)=full ns:=by
 unfold full;rw[Wd,gI,gI];constructor;·grind
 ·intro q;exact OQ (p.trans q) h (Zb5 _)
def UJ(K:ah)(a:cm)(b:TE):TE:=ke (Vq K a) (oi (Kd K) (iI b jZ)) (oi Qh (iI (oi RD (iI (oi (z8 K) (iI b jZ)) jZ)) jZ))
def Ze3{K:ah}(c:σ[i]?=U (U (.ref p)))(d:Row K H p ns)(k:ns.length<64)(q:∀g,ai H g->Q (.bl (if neg=af then !full ns else full ns)) g):
   (UJ K neg (gX i)) σ H Q:=by
 refine⟨_,c,p,ns,rfl,d,k,λl f m j h=>?_⟩;have e:ai H (upd H l (.lst (f.map V.int))):=cC m _;refine⟨_,c,p,ns.map V.int,rfl,Row.same e d,_,rfl,λr a=>⟨r,(ns.map V.int).length,rfl,aU,by rw[Ya];exact uY (pq k (by decide)),λu b=>?_⟩⟩;have n:=(e.trans (cC a (.kJ 0 (((ns.map V.int).length:Nat):Int)))).trans (cC b (.lst ((bB (ns.map V.int).length).map V.int)));refine⟨l,u,f,bB (ns.map V.int).length,rfl,rfl,aq.of ?_,aq.of aU,?_⟩
 ·rw[aK (cA ((cC a _) _ _ aU) b)];exact(cC a _) _ _ aU
 ·rw[Ya,Zb6 j h]
  simp_all
theorem any_false(n:Nat):(List.replicate n a8).any id=a8:=by
 induction n with
 |zero=>rfl
 |succ n a=>simp_all
section
open PySem.AutoSeq1 (wpAny_loadPart')
open PySem.MeetsSeq PySem.SeqAt
def Za2(l:Z)(a:dt a7)(n:Nat)(I:bR Z)(B:dt (bR a7))(x:a7)(e:a7->cm)(j:Nat)(E:j<a.size)
  (p:e a[j]=af)(J:∀m (L:m<a.size),m<j->e a[m]=a8):
  Meets (Builtin.«tuple.index» ⟨[.ref l,x],[]⟩)
   (λA R s=>s.heap.get? l=U {cls:=.type "tuple",dict:=I,data:=.seq a n,slots:=B}/\(∀y,y∈a->EqAt A.in1 s y x (e y))/\R (.ok (.ret (.int j s.toks))) {s with toks:=s.toks+1}):=
 .of_wp λf w A R s h=>by
  obtain⟨C,g,d,z,os⟩:=s;obtain⟨D,F,h⟩:=h
  wp_walk using WB D
  show wpAny _ _ (forIn (m:=Sem) [:min a.size a.size] (aG,()) _) _ _ _;rw[Std.Legacy.Range.forIn_eq_forIn_range'];refine wpAny_forIn_list _ (λc b r=>r=⟨C,g,d,z,os⟩/\∃i,i<=j/\c=List.range' i (a.size-i)) _ ?_ ?_ _ _ ⟨rfl,0,Yx _,QS⟩
  ·rintro k c b r ⟨rfl,i,u,t⟩;have q:i<a.size:=(lL u E)
   obtain⟨rfl,v⟩:k=i/\c=List.range' (i+1) (a.size-(i+1)):=by
    have e:a.size-i=(a.size-(i+1))+1:=QO
    rw[e,List.range'_succ] at t;injection t with H G;exact⟨H,G⟩
   rw[W1 q];refine bo (F _ (UI q) f w _ _ ?_);rcases Nat.lt_or_ge k j with o|o
   ·rw[J k q o]
    wp_walk
    exact⟨rfl,k+1,(mR o),v⟩
   ·obtain rfl:k=j:=(i_ u o)
    rw[p]
    wp_walk
    exact⟨_,rfl,h⟩
  ·(simp;omega)
end
def ZhX(f:TE)(t:TA):TE:=λb H Q=>f b H λx d=>∃(p:Z) (a:O Int),x=.ref p/\d p=U (.tup (a.map V.int))/\t b d λe c=>∃(z:Int) (j:Nat),e=[.int z]/\c p=U (.tup (a.map V.int))/\a[j]?=U z/\(∀m,m<j->a[m]?≠U z)/\Q (.int (j:Int)) c
theorem Za3:∀{b:O Int} {a:O a7} {j:Nat} (h:j<a.length),Vals (b.map V.int) a->∃n t,b[j]?=U n/\a[j]=.int n t:=by
 intro b;induction b with
 |nil=>intro a j h r;cases r;simp at h
 |cons n b e=>
  intro a j h r;rw[Ws] at r;cases r with
  |cons r t=>
   cases j with
   |zero=>
    obtain⟨c,rfl⟩:=r;exact⟨n,c,rfl,rfl⟩
   |succ j=>
    obtain⟨d,c,g,f⟩:=e (by simpa using h) t;exact⟨d,c,by simpa using g,by simpa using f⟩
theorem ZdX(a:O Int):(a.map V.int).all jw=af:=by
 induction a with
 |nil=>rfl
 |cons n a b=>rw[Ws,Ji,b];rfl
def Ou(ho:PE X o to)(ha:PA X [e] t)
  (qB:attributeBase o "index" X.env (eval o X.env)=eval o X.env:=by rfl)
  (LF:((backTo k (starEach [e] X.env)).all (λx=>!x.1)&&(backToKw k (keywordEach [] X.env)).all (λx=>x.1.isSome)
   &&decide ([e].length+([]:O Keyword).length+(if([]:O Keyword).isEmpty then 0 else 1)<30))=af:=by rfl)
  (qC:(apos.endLine==k.line)=af:=by rfl)(hs:starEach [e] X.env=(a8,eval e X.env)::starEach [] X.env:=by rfl):
  PE X (.Call (.Attribute o "index" apos) [e] [] k) (ZhX to t):=by
 intro b s q H Q I h;refine Df qB LF qC rfl (aA (ho b s q H _ I h) λv w l=>?_);obtain⟨x,T,R,r1,p,f,ex,hp,q1⟩:=l;subst ex;obtain rfl:v=Value.ref p:=r1;obtain⟨_,_,_,A,g,oc,_,_,od⟩:=(show cP X.prog X.w T w.heap p (.tup (f.map V.int)) from R.ay p _ hp);refine⟨"tuple","tuple.index",F.plainAttrs_tuple,MM,F.type_tuple_index,⟨A,g,oc⟩,λa ea=>by cases ea;exact⟨A,g,od⟩,?_⟩;have E:=ha k b w q T _ R q1;rw[hs] at E⊢;refine lW rfl (ou ?_);refine aA E λus s2 l=>?_;obtain⟨vs,H2,P,r2,z,j,ev,dJ,D,As,q2⟩:=l;subst ev;obtain⟨u,rfl,ru⟩:=r2.one;obtain⟨r,rfl⟩:=ru;obtain⟨_,d,n,⟨cls,dd,J,W⟩,G,N,n2,L,_⟩:=(P.ay p _ dJ);simp only at N L;subst N L;have c:d.length=f.length:=by have:=n.length;rw[Ya] at this;exact my this
 have Xl:j<d.length:=by exact c▸(Yj.mp D).1
 have C:∀m (i:m<d.length),jd (.int z) d[m]=decide (f[m]?=U z):=λm i=>by
  obtain⟨B,t',e1,e2⟩:=Za3 i n;rw[e1,e2];show(B==z)=decide (U B=U z)
  grind
 refine qJ MM ⟨_,G,rfl⟩ F.entry_tuple_index (F.args_tuple_index_2 _ _) (Za2 p d.toArray n2 dd W (.int z r) (jd (.int z)) j (by rwa[Yv]) ?_ ?_) ⟨G,?_,?_⟩;·rw[EN,C j Xl];exact d6 D
 ·intro m i bJ;rw[EN,C m (by simpa using i)];exact g_ (As m bJ)
 ·intro y hy;exact zu (x:=.int z) ⟨r,rfl⟩ rfl n (ZdX f) y (by simpa using hy)
 ·exact⟨.int _,H2,P.tok _,⟨_,rfl⟩,q2⟩
section
variable {X:Type}[DecidableEq X]
def aX(a:O (X×V))(k:X):bR V:=(a.find? λb=>decide (b.1=k)).map (·.2)
def putK(a:O (X×V))(k:X)(v:V):O (X×V):=
 if(a.any λb=>decide (b.1=k))=af then a.map (λb=>if b.1=k then(b.1,v) else b) else a++[(k,v)]
def iK(a:O (X×V))(k:X):O (X×V):=a.filter λb=>decide (b.1≠k)
def gU{k:X}(e:p.1=k):aX (p::r) k=U p.2:=by simp[aX,Mz,e]
def fW{k:X}(e:¬p.1=k):aX (p::r) k=aX r k:=by simp[aX,Mz,e]
theorem xk(k:X):∀a:O (X×V),(a.any λb=>decide (b.1=k))=(aX a k).isSome
 |[]=>rfl
 |p::r=>by
  rw[Jr];by_cases e:p.1=k;·simp[gU e,d6 e,Bool.true_or,Option.isSome_some]
  ·rw[fW e,g_ e,D4];exact xk k r
theorem Qo(k j:X)(y:V):∀a:O (X×V),aX (a.map λb=>if b.1=k then(b.1,y) else b) j=(aX a j).map λx=>if j=k then y else x
 |[]=>rfl
 |p::r=>by
  have c:=Qo k j y r;rw[Ws];by_cases h:p.1=k
  ·rw[bS h];by_cases e:p.1=j;·rw[gU (p:=(p.1,y)) e,gU e,WU,bS (e.symm.trans h)]
   ·rw[fW (p:=(p.1,y)) e,fW e,c]
  ·rw[bt h];by_cases e:p.1=j;·rw[gU e,gU e,WU,bt (λz=>h (e.trans z))]
   ·rw[fW e,fW e,c]
theorem wX(k j:X)(y:V):∀a:O (X×V),aX a k=aG->aX (a++[(k,y)]) j=if j=k then U y else aX a j
 |[],_=>by
  by_cases e:k=j;·rw[bS e.symm];exact gU (p:=(k,y)) e
  ·rw[bt (λz=>e z.symm)];exact fW (p:=(k,y)) e
 |p::r,b=>by
  rw[Xm];have c:¬p.1=k:=λz=>by rw[gU z] at b;cases b
  rw[fW c] at b;by_cases e:p.1=j;·rw[gU e,gU e,bt (λz=>c (e.trans z))]
  ·rw[fW e,fW e,(wX k j y r b)]
theorem Qp(b:O (X×V))(k j:X)(y:V):aX (putK b k y) j=if j=k then U y else aX b j:=by
 unfold putK;by_cases a:(b.any λc=>decide (c.1=k))=af
 ·rw[bS a,Qo];rw[xk] at a;by_cases e:j=k
  ·obtain⟨x,d⟩:=Je.mp a
   grind
  ·simp_all
 ·rw[bt a];refine wX k j y b ?_;rw[xk] at a;cases q:aX b k with
  |none=>rfl
  |some x=>grind
def y9(a:O (X×V))(k:X)(v:V):(putK a k v).length<=a.length+1:=by
 unfold putK
 (split<;>simp_all)
def mH{k:X}(v:V)(h:aX a k=aG):putK a k v=a++[(k,v)]:=by
 unfold putK;rw[xk,h];rfl
theorem fh.wY(r:fh o u):o.isSome=u.isSome:=by
 cases o with
 |none=>cases u with
  |none=>rfl
  |some _=>exact(r).elim
 |some _=>cases u with
  |none=>exact(r).elim
  |some _=>rfl
theorem fh.getD(r:fh o u)(a:RelV d b):RelV (o.getD d) (u.getD b):=by
 cases o with
 |none=>cases u with
  |none=>exact a
  |some _=>exact(r).elim
 |some _=>cases u with
  |none=>exact(r).elim
  |some _=>exact r
theorem KV.val(r:KV c g)(k:X):fh (aX c k) (valueAt g k):=by
 unfold KV at r;induction r with
 |nil=>exact ik
 |@cons p q i a h t j=>
  obtain⟨f,l⟩:=h;by_cases e:p.1=k
  ·have d:=f.symm.trans e;have b:valueAt (q::a) k=U q.2:=by simp[valueAt,Mz,d]
   rwa[gU e,b]
  ·have d:¬q.1=k:=λz=>e (f.trans z);have b:valueAt (q::a) k=valueAt a k:=by simp[valueAt,Mz,d]
   rwa[fW e,b]
theorem KV.any(r:KV a c)(k:X):(a.any λb=>decide (b.1=k))=c.any λb=>decide (b.1=k):=by
 induction r with
 |nil=>rfl
 |cons h t d=>simp_all
theorem KV.LL(r:KV b c)(k:X)(e:RelV y u):
  KV (b.map λa=>if a.1=k then(a.1,y) else a) (c.map λa=>if a.1=k then(a.1,u) else a):=by
 induction r with
 |nil=>exact .nil
 |@cons p q g f h t d=>
  refine .cons ?_ d
  grind
def KV.put(r:KV a b)(k:X)(c:RelV y u):KV (putK a k y) (stored b k u):=by
 unfold putK stored;rw[r.any k];by_cases e:(b.any λd=>decide (d.1=k))=af;·rw[bS e,bS e];exact r.LL k c
 ·rw[bt e,bt e];exact Paired.snoc r ⟨rfl,c⟩
theorem KV.drop(r:KV c f)(k:X):KV (iK c k) (without f k):=by
 unfold iK without;induction r with
 |nil=>exact .nil
 |@cons p q m l h t g=>
  obtain⟨d,i⟩:=h;rw[Wj,Wj];by_cases e:p.1=k;·simp_all
  ·have j:¬q.1=k:=λz=>e (d.trans z);have a:decide (p.1≠k)=af:=by simp[e]
   have b:decide (q.1≠k)=af:=by simp[j]
   rw[bS a,bS b];exact .cons ⟨d,i⟩ g
theorem KV.keys{a:O (X×V)}(r:KV a b):a.map (·.1)=b.map (·.1):=by
 induction r with
 |nil=>rfl
 |cons h t c=>simp_all
def KV.length(r:KV a b):a.length=b.length:=Paired.length r
def Qq(a:O (X×V))(k:X):(iK a k).length<=a.length:=Wk _ _
end
theorem nQ(r:RelV (kV k) u):(dW P w).is k u=af:=by
 cases k with
 |inl i=>obtain⟨t,e⟩:=(show ∃t,u=Value.int i t from r);subst e;exact ZbX P w i t
 |inr x=>obtain⟨t,e⟩:=(show ∃t,u=Value.str x t from r);subst e;exact ZbY P w x t
theorem Py:∀{a:O Key} {b:O a7},Vals (a.map kV) b->ItemsAre (dW P w) a b
 |[],_,r=>by rw[xP] at r;cases r;exact .nil
 |k::a,_,r=>by
  cases r with
  |cons h t=>exact .cons (nQ h) (Py t)
abbrev KT(H:Hp):O (O Key×V)->O (O Key×Z×a7)->Prop:=Paired λp q=>p.1=q.1/\H q.2.1=U (.tup (p.1.map kV))/\RelV p.2 q.2.2
theorem KT.val(r:KT H c xs)(k:O Key):fh (aX c k) ((atKey xs k).map (·.2)):=by
 induction r with
 |nil=>exact ik
 |@cons p q g a h t i=>
  obtain⟨f,_,j⟩:=h;by_cases e:p.1=k
  ·have d:=f.symm.trans e;have b:atKey (q::a) k=U q.2:=by simp[atKey,d]
   rwa[gU e,b]
  ·have d:¬q.1=k:=λz=>e (f.trans z);have b:atKey (q::a) k=atKey a k:=by simp[atKey,d]
   rwa[fW e,b]
theorem KT.LL(r:KT H a xs)(k:O Key)(d:RelV y u):
  KT H (a.map λb=>if b.1=k then(b.1,y) else b) (xs.map (putAt k u)):=by
 induction r with
 |nil=>exact .nil
 |@cons p q f e h t c=>
  refine .cons ?_ c;unfold putAt
  (split<;>simp_all)
def KT.put(r:KT H a xs)(k:O Key)(f:H b=U (.tup (k.map kV)))(c:RelV y u):
  KT H (putK a k y) (storedH xs k b u):=by
 have e:(a.any λd=>decide (d.1=k))=(atKey xs k).isSome:=by
  rw[xk,(r.val k).wY,Xn]
 unfold putK storedH;rw[e];by_cases q:(atKey xs k).isSome=af;·rw[bS q,bS q];exact r.LL k c
 ·rw[bt q,bt q];exact Paired.snoc r ⟨rfl,f,c⟩
def KT.keeps(r:KT H a xs)(d:∀b c,H b=U (.tup c)->e b=U (.tup c)):KT e a xs:=
 Paired.bI r λ_ _ z=>⟨z.1,d _ _ z.2.1,z.2.2⟩
def UK(b:dw P w H h)(e:Rd H a u):cP P w H h a u:=e.ok b
def qE(c:dw P w H h)(e:Rd H a (.dK b)):b.length<=sizeLine/\(a==sysModules)=a8/\∃vs,KV b vs/\h.DictOf (dW P w) a vs:=
 UK c e
def nR(c:dw P w H h)(e:H a=U (.dK b)):b.length<=sizeLine/\(a==sysModules)=a8/\∃vs,KV b vs/\h.DictOf (dW P w) a vs:=qE c (.inl e)
def r_(b:dw P w H h)(e:H a=U (.tup (c.map kV))):(tupleKind (dW P w)).is h c a:=by
 obtain⟨_,i,r,o,g,f,n,d,_⟩:=(b a _ e);exact⟨o,i.toArray,n,g,f,d,by simpa using Py r⟩
theorem sy(d:dw P w H h)(e:Rd H a (.dT b)):b.length<=sizeLine/\(a==sysModules)=a8/\
  ∃xs,KT H b xs/\h.DictOfH (tupleKind (dW P w)) a xs:=by
 obtain⟨z,y,xs,r,o,u,v,s,n,k,j,i⟩:=(UK d e);refine⟨z,y,xs,r,o,u,v,s,n,k,j,λx c=>?_,i⟩;have all:∀{l:O (O Key×V)} {m:O (O Key×Z×a7)},KT H l m->∀x∈m,(tupleKind (dW P w)).is h x.1 x.2.1:=by
  intro l m q;induction q with
  |nil=>grind
  |@cons p q B A f t g=>
   intro x c;rcases Yq.mp c with e|c
   ·subst e;exact r_ d (by exact f.1▸f.2.1)
   ·exact g x c
 grind
def UL(c:dw P w H h)(e:H a=U (.dT b)):b.length<=sizeLine/\(a==sysModules)=a8/\
  ∃xs,KT H b xs/\h.DictOfH (tupleKind (dW P w)) a xs:=sy c (.inl e)
def fw(H:Hp)(a:Z)(y:V)(r:bR V):Prop:=
 (∃c k,Rd H a (.dK c)/\y=kV k/\r=aX c k)\/∃c k b,Rd H a (.dT c)/\y=.ref b/\H b=U (.tup (k.map kV))/\r=aX c k
def uW(H:Hp)(a:Z)(y v:V)(d:Hp):Prop:=
 (∃c k,H a=U (.dK c)/\y=kV k/\c.length<sizeLine/\d=upd H a (.dK (putK c k v)))\/
 ∃c k b,H a=U (.dT c)/\y=.ref b/\H b=U (.tup (k.map kV))/\c.length<sizeLine/\d=upd H a (.dT (putK c k v))
def fw.k{k:Key}(e:H a=U (.dK b)):fw H a (kV k) (aX b k):=.inl ⟨b,k,.inl e,rfl,rfl⟩
def fw.t{H:Hp}{a b:Z}{c:O (O Key×V)}{k:O Key}(e:H a=U (.dT c))(d:H b=U (.tup (k.map kV))):fw H a (.ref b) (aX c k):=.inr ⟨c,k,b,.inl e,rfl,d,rfl⟩
def uW.k{k:Key}(e:H a=U (.dK b))(c:b.length<sizeLine):uW H a (kV k) v (upd H a (.dK (putK b k v))):=.inl ⟨b,k,e,rfl,c,rfl⟩
def uW.t{H:Hp}{a b:Z}{c:O (O Key×V)}{k:O Key}{v:V}(e:H a=U (.dT c))(f:H b=U (.tup (k.map kV)))(d:c.length<sizeLine):
  uW H a (.ref b) v (upd H a (.dT (putK c k v))):=.inr ⟨c,k,b,e,rfl,f,d,rfl⟩
def Inv.big(I:Inv X pins σ H s):sysModules<s.heap.objs.size:=by
 exact n7 QD ((I.mod.glob.keeps I.bk).lt)
def ZdY(r:A.units+1<cLine)(I:Inv X pins σ H s)(g:fw H a y (U v))(q:RelV y u)(h:∀d o,Inv X pins σ H o->RelV v d->Q d o):
  wpAny X.md A (getItem (.ref a) u) Q E s:=by
 rcases g with⟨f,k,e,m,l⟩|⟨f,k,b,e,m,w,l⟩
 ·subst m;obtain⟨z,hd,C,c,n⟩:=qE I.ay e;obtain⟨d,j,i⟩:=fh.some_of (by exact l▸c.val k);exact wpAny_getItem_of (nQ q) n.mapOf j (h d _ (I.tok _) i)
 ·subst m;cases(q);obtain⟨z,hd,B,c,n⟩:=sy I.ay e;obtain⟨d,j,i⟩:=fh.some_of (by exact l▸c.val k);obtain⟨p,t,x⟩:=Option.map_eq_some_iff.mp j;refine wpAny_getItem_heap (nh r) (r_ I.ay w) n t ?_;exact x▸h d _ (I.tok _) i
def Zj1(n:A.units+1<cLine)(I:Inv X pins σ H s)(g:fw H a y o)(m:RelV y u)(h:∀j,Inv X pins σ H j->Q (.bool o.isSome) j):
  wpAny X.md A (compareOp .In u (.ref a)) Q E s:=by
 rcases g with⟨d,k,e,f,l⟩|⟨d,k,b,e,f,p,l⟩
 ·subst f;obtain⟨z,hd,t,c,i⟩:=qE I.ay e;refine wpAny_in_of (nQ m) hd i.mapOf ?_;rw[←(c.val k).wY,←l];exact h _ (I.tok _)
 ·subst f;cases(m);obtain⟨z,hd,r,c,i⟩:=sy I.ay e;refine wpAny_in_heap (nh n) (r_ I.ay p) hd i ?_;have q:=(c.val k).wY;rw[Xn] at q;rw[←q,←l];exact h _ (I.tok _)
def Zgm(n:A.units+1<cLine)(I:Inv X pins σ H s)(g:fw H a y o)(m:RelV y u)(h:∀j,Inv X pins σ H j->Q (.bool (!o.isSome)) j):
  wpAny X.md A (compareOp .NotIn u (.ref a)) Q E s:=by
 rcases g with⟨d,k,e,f,l⟩|⟨d,k,b,e,f,p,l⟩
 ·subst f;obtain⟨z,hd,t,c,i⟩:=qE I.ay e;refine wpAny_notIn_of (nQ m) hd i.mapOf ?_;rw[←(c.val k).wY,←l];exact h _ (I.tok _)
 ·subst f;cases(m);obtain⟨z,hd,r,c,i⟩:=sy I.ay e;refine wpAny_notIn_heap (nh n) (r_ I.ay p) hd i ?_;have q:=(c.val k).wY;rw[Xn] at q;rw[←q,←l];exact h _ (I.tok _)
def uq(I:Inv X pins σ H s)(f:Ak (H a))(g:Heap.SameBut a s.heap d)(h:∃q,d.get? a=U q)(c:cP X.prog X.w (upd H a e) d a e):
  Inv X pins σ (upd H a e) {s with heap:=d,toks:=j}:=
 I.write f (.inl rfl) (λb q i z=>(g.2 b i).trans z) h c
def zP(z:b.length<=sizeLine)(e:(a==sysModules)=a8)(c:KV b d)(g:f.DictOf (dW P w) a d):
  cP P w h f a (.dK b):=⟨z,e,d,c,g⟩
def Pz(L:A.units+1<cLine)(I:Inv X pins σ H s)(g:uW H a y v H')(x:RelV y u)(B:RelV v r)(h:∀w,Inv X pins σ H' w->Q () w):
  wpAny X.md A (setItem (.ref a) u r) Q E s:=by
 rcases g with⟨f,k,e,o,l,p⟩|⟨f,k,b,e,o,D,l,p⟩
 ·subst o p;obtain⟨z,hd,G,d,t⟩:=nR I.ay e;have J:G.length<=sizeLine:=by rwa[←d.length]
  have n:(putK f k v).length<=sizeLine:=by have:=y9 f k v;exact lg this (sm l)
  refine wpAny_setItem_pairs (nQ x) t λC i m=>h _ ?_;have N:∃q,C.get? a=U q:=let⟨q,_,_,j,_⟩:=i;⟨q,j⟩;exact uq I (by exact e▸ik) m N (zP n hd (d.put k B) i)
 ·subst o p;cases(x);obtain⟨z,hd,F,d,t⟩:=UL I.ay e;have J:F.length<=sizeLine:=by rwa[←Paired.length d]
  have n:(putK f k v).length<=sizeLine:=by have:=y9 f k v;exact lg this (sm l)
  refine wpAny_setItem_heap (nh L) (r_ I.ay D) t λC i m=>h _ ?_;obtain⟨q,es,ep,j,W,T,R,_,P⟩:=i;refine uq I (by exact e▸ik) m ⟨q,j⟩ ⟨n,hd,_,(d.put k D B).keeps λc ys ec=>?_,q,es,ep,j,W,T,R,P⟩;rwa[aK (Uk ec e (λz=>nomatch z))]
def ZdZ(I:Inv X pins σ H s)(e:H a=U (.dK c))(j:RelV (kV k) u)(l:(aX c k).isSome=af)(h:∀f,Inv X pins σ (upd H a (.dK (iK c k))) f->Q () f):
  wpAny X.md A (delItem (.ref a) u) Q E s:=by
 obtain⟨z,hd,i,b,d⟩:=nR I.ay e;refine Kw d.typeIs QD tr
  (mj tr d.typeIs AE (Aq _ _) (meets_dict_delitem_pairs (dW X.prog X.w) a (nQ j)) ⟨i,d,by rw[←b.length];exact z,by rwa[←(b.val k).wY],λp g m=>h _ ?_⟩)
 have o:∃q,p.get? a=U q:=let⟨q,_,_,n,_⟩:=g;⟨q,n⟩;exact uq I (by exact e▸ik) m o (zP (Yz (Qq c k) z) hd (b.drop k) g)
theorem Zi8(I:Inv X pins σ H s)(e:H a=U (.dK c))(f:RelV (kV k) u)(l:aX c k=U v)(m:more=[]\/∃x,more=[x])
  (h:∀d g,Inv X pins σ (upd H a (.dK (iK c k))) g->RelV v d->Q d g):wpAny X.md A (call (.builtin "dict.pop") (.ref a::u::more)) Q E s:=by
 obtain⟨z,hd,o,b,n⟩:=nR I.ay e;obtain⟨d,r,p⟩:=fh.some_of (v:=v) (by exact l▸b.val k);have B:(keyPart u).isSome=af:=by
  cases k with
  |inl i=>obtain⟨t,q⟩:=(show ∃t,u=Value.int i t from f);subst q;rfl
  |inr x=>obtain⟨t,q⟩:=(show ∃t,u=Value.str x t from f);subst q;rfl
 have D:argsOk "dict.pop" ⟨.ref a::u::more,[]⟩:=by
  rcases m with q|⟨x,q⟩;·subst q;exact PySem.F.args_dict_pop_2 _ _
  ·subst q;exact PySem.F.args_dict_pop_3 _ _ _
 refine mj slot_dict_pop n.typeIs PySem.F.entry_dict_pop D (meets_dict_pop_there (dW X.prog X.w) a (nQ f) more m B)
  ⟨o,d,n,by rwa[←b.length],r,λF j w=>h d _ ?_ p⟩
 have C:∃q,F.get? a=U q:=let⟨q,_,_,y,_⟩:=j;⟨q,y⟩;exact uq I (by exact e▸ik) w C (zP (Yz (Qq c k) z) hd (b.drop k) j)
def Zi9(I:Inv X pins σ H s)(e:Rd H a (.dK c))(h:∀t d,Inv X pins σ H d->Q (.int c.length t) d):wpAny X.md A (call (.builtin "len") [.ref a]) Q E s:=by
 obtain⟨z,hd,g,b,f⟩:=qE I.ay e;refine call_len_dict hd f (by rw[←b.length];rw[dU] at z;omega) ?_;exact b.length▸h _ _ (I.tok _)
def Vv(i:cM):Prop:=∀a b,subscripted i a8 a b=operate [a,b] (getItem a b)
theorem Zgn{a:dv}{w:dg}{A:fI}{E:bg}{s:cb}{d:Env}{c b:cM}{f:Pos}{T id:String}{Q:bg}
  (n:typeLookup (.type T) "__getitem__"=pure (U (.builtin id)))(m:Vv b)
  (h:wpAny (model a w) A (eval c d) (λo j=>wpAny (model a w) A (eval b d) (λi fq=>fq.TypeIs o T/\wpAny (model a w) A (getItem o i) Q E fq) E j) E s):
  wpAny (model a w) A (eval (.Subscript c b f) d) Q E s:=by
 refine Subscript_ (eF h (λo j l=>eF l (λi fq e=>?_) λ_ _ x=>x) λ_ _ x=>x);obtain⟨p,e⟩:=e;refine bo (bo (wpAny_specialOf p n ?_));have fin:wpAny (model a w) A (subscripted b a8 o i) (λr g=>wpAny (model a w) A (letTemporaryGo c o r>>=λ_=>pure r) Q E g) E fq:=by
  rw[m o i];exact wpAny_operating (eF e (λr g k=>bo (wpAny_letTemporaryGo (cq k))) λ_ _ x=>x)
 first
  |exact cq (bo fin)
  |exact bo (cq (bo fin))
  |exact bo fin
def Zb7(I:Inv X pins σ H s)(g:fw H a y o):s.TypeIs (.ref a) "dict":=by
 rcases g with⟨c,k,e,_,_⟩|⟨c,k,b,e,_,_,_⟩
 ·obtain⟨_,_,h,_,d⟩:=qE I.ay e;exact d.typeIs
 ·obtain⟨_,_,f,_,d⟩:=sy I.ay e;exact d.typeIs
inductive RN(Q:VK)(x:V)(y:V)(b:Hp):Prop
 |mk (a v) (d:x=.ref a) (e:fw b a y (U v)) (c:Q v b):RN Q x y b
def Zi_(c b:TE):TE:=λa H Q=>c a H λx e=>b a e λy d=>RN Q x y d
inductive Tv(Q:VK)(y:V)(x:V)(b:Hp):Prop
 |mk (a o) (d:x=.ref a) (e:fw b a y o) (c:Q (.bl o.isSome) b):Tv Q y x b
def Zj2(b c:TE):TE:=λa H Q=>b a H λy e=>c a e λx d=>Tv Q y x d
inductive PB(Q:VK)(y:V)(x:V)(b:Hp):Prop
 |mk (a o) (d:x=.ref a) (e:fw b a y o) (c:Q (.bl (!o.isSome)) b):PB Q y x b
def Zgo(b c:TE):TE:=λa H Q=>b a H λy e=>c a e λx d=>PB Q y x d
def dF(q:X.A.units+1<cLine)(t:PE X o f)(w:PE X i ty)(r:Vv i):PE X (.Subscript o i pos) (Zi_ f ty):=by
 intro b s d H Q I h;refine Zgn PySem.F.slot_dict_getitem.lookup r (aA (t b s d H _ I h) λu j c=>?_);obtain⟨x,D,B,l,n⟩:=c;refine aA (w b j d D _ B n) λJ G c=>?_;obtain⟨y,C,e,k,a,v,z,g,m⟩:=c;subst z;obtain rfl:u=Value.ref a:=l;exact⟨Zb7 e g,ZdY q e g k λE F A p=>⟨v,C,A,p,m⟩⟩
def CB(p:X.A.units+1<cLine)(r:PE X i ty)(q:PE X o e):PC X .In i o (Zj2 ty e):=by
 intro b s d H Q I h;refine aA (r b s d H _ I h) λE f c=>?_;obtain⟨y,B,z,j,m⟩:=c;refine aA (q b f d B _ z m) λu D c=>?_;obtain⟨x,A,w,k,a,n,t,g,l⟩:=c;subst t;obtain rfl:u=Value.ref a:=k;exact Zj1 p w g j λC v=>⟨.bl n.isSome,A,v,rfl,l⟩
def mG(p:X.A.units+1<cLine)(r:PE X i ty)(q:PE X o e):PC X .NotIn i o (Zgo ty e):=by
 intro b s d H Q I h;refine aA (r b s d H _ I h) λE f c=>?_;obtain⟨y,B,z,j,m⟩:=c;refine aA (q b f d B _ z m) λu D c=>?_;obtain⟨x,A,w,k,a,n,t,g,l⟩:=c;subst t;obtain rfl:u=Value.ref a:=k;exact Zgm p w g j λC v=>⟨.bl (!n.isSome),A,v,rfl,l⟩
def Qr(h:cO)(a:sysModules<h.objs.size):cP P w H (h.push {cls:=.type "dict",data:=.dict #[]}) h.objs.size (.dK []):=
 ⟨Yx _,beq_eq_false_iff_ne.mpr (jm (Yy a)),[],.nil,Heap.DictOf.new h⟩
def Ze4(h:cO)(a:sysModules<h.objs.size):cP P w H (h.push {cls:=.type "dict",data:=.dict #[]}) h.objs.size (.dT []):=
 ⟨Yx _,beq_eq_false_iff_ne.mpr (jm (Yy a)),[],.nil,_,#[],0,Yp _ rfl,⟨rfl,rfl,rfl⟩,rfl,rfl,Jd⟩
def ZhY:TE:=λ_ H Q=>∀p,H p=aG->Q (.ref p) (upd H p (.dK []))
def ZhZ:TE:=λ_ H Q=>∀p,H p=aG->Q (.ref p) (upd H p (.dT []))
def Ze5:PE X (.Dict [] [] pos) ZhY:=λa s b H Q I h=>
 Vz ⟨.ref s.heap.objs.size,_,I.laid (λ _ _=>Yb _) (Yd _) (Qr s.heap I.big),rfl,h _ (I.ay.fresh (Yd _))⟩
def Ze6:PE X (.Dict [] [] pos) ZhZ:=λa s b H Q I h=>
 Vz ⟨.ref s.heap.objs.size,_,I.laid (λ _ _=>Yb _) (Yd _) (Ze4 s.heap I.big),rfl,h _ (I.ay.fresh (Yd _))⟩
def KC:O (TE×TE)->St->Hp->(O (V×V)->Hp->Prop)->Prop
 |[],_,H,Q=>Q [] H
 |(tk,tv)::r,σ,H,Q=>tk σ H λx d=>tv σ d λy c=>KC r σ c λa b=>Q ((x,y)::a) b
abbrev VV:O (V×V)->O (a7×a7)->Prop:=Paired λp q=>RelV p.1 q.1/\RelV p.2 q.2
def D5(X:Cx)(e:Pos)(c:O (bR cM))(a:O cM)(i:O (TE×TE)):Prop:=
 ∀(b:a9) (s:cb) (d:St) (H:Hp) (Q:O (V×V)->Hp->Prop),Inv X b d H s->KC i d H Q->
  wpAny X.md X.A (evalPairs (pairTrees c a X.env e)) (λh j=>∃f g,Inv X b d g j/\VV f h/\Q f g) X.xe s
def Cg:D5 X pos [] [] []:=λa s b H Q I h=>pairTrees_nil_walk ⟨[],H,I,.nil,h⟩
def kX(z:PE X k g)(t:PE X v f)(w:D5 X pos r d e):
  D5 X pos (U k::r) (v::d) ((g,f)::e):=λa s b H Q I h=>
 pairTrees_cons_walk (aA (z a s b H _ I h) λu j ⟨x,F,C,m,p⟩=>aA (t a j b F _ C p) λJ i ⟨y,E,B,l,o⟩=>
  aA (w a i b E _ B o) λG L N=>by obtain⟨q,D,A,c,n⟩:=N;exact⟨(x,y)::q,D,A,.cons ⟨m,l⟩ c,n⟩)
def qr(b a:O (Key×V)):O (Key×V):=a.foldl (λc d=>putK c d.1 d.2) b
theorem KV.merge:∀{more:O (Key×V)} {c:O (Key×a7)} {a:O (Key×V)} {b:O (Key×a7)},KV more c->KV a b->KV (qr a more) (merged b c):=by
 intro more c a b r;induction r generalizing a b with
 |nil=>intro q;exact q
 |@cons p q i g h t f=>
  intro d;have e:KV (putK a p.1 p.2) (stored b q.1 q.2):=by
   have:=d.put p.1 h.2
   grind
  exact f e
theorem Oh:∀(more a:O (Key×V)),(qr a more).length<=a.length+more.length
 |[],a=>by show a.length<=a.length+0;exact m6 _
 |p::r,a=>by
  have c:=Oh r (putK a p.1 p.2);have b:=y9 a p.1 p.2;show(qr (putK a p.1 p.2) r).length<=_
  grind
theorem OR:∀{d:O (Key×V)} {f:O (a7×a7)},VV (d.map λg=>(kV g.1,g.2)) f->∃e,Carries (dW P w) f e/\KV d e
 |[],_,r=>by rw[xP] at r;cases r;exact⟨[],ik,.nil⟩
 |p::d,_,r=>by
  cases r with
  |@cons a b as bs h t=>
   obtain⟨e,c,q⟩:=OR t;obtain⟨j,i⟩:=b;exact⟨(p.1,i)::e,⟨nQ h.1,rfl,c⟩,.cons ⟨rfl,h.2⟩ q⟩
def Zja(e:O (TE×TE)):TE:=λd H Q=>∀p,H p=aG->KC e d (upd H p (.dK [])) λf c=>c p=U (.dK [])/\∃a:O (Key×V),f=a.map (λb=>(kV b.1,b.2))/\a.length<=15/\Q (.ref p) (upd c p (.dK (qr [] a)))
def Ci(h:D5 X pos keys values l)(B:keys.all (·.isSome)=af)(v:keys.length=values.length)(x:keys≠[])
  (f:keys.length<=15):PE X (.Dict keys values pos) (Zja l):=by
 intro a s j H Q I q;refine wpAny_Dict_walk (knd:=dW X.prog X.w) B v x f (aA (h a _ j _ _ (I.laid (λ _ _=>Yb _) (Yd _) (Qr s.heap I.big)) (q _ (I.ay.fresh (Yd s.heap.objs.size)))) λC D L=>?_);obtain⟨E,J,i,d,e,b,y,F,p⟩:=L;subst y;obtain⟨m,c,n⟩:=OR d;obtain⟨z,hd,k,o,A⟩:=nR i.ay e;cases o;refine⟨m,c,A,λG g t=>⟨.ref s.heap.objs.size,_,?_,rfl,p⟩⟩;have r:(qr [] b).length<=sizeLine:=by
  have w:=Oh b [];rw[Xa] at w;rw[dU];omega
 exact uq i (by exact e▸ik) t (let⟨q,_,_,u,_⟩:=g;⟨q,u⟩) (zP r hd (n.merge .nil) g)
structure M1(X:Cx)(o:cM)(m:ar)(apos:Pos)(e:cM)(cv:Pos):Prop where
 base:attributeBase o m X.env (eval o X.env)=eval o X.env
 f_:((backTo cv (starEach [e] X.env)).all (λx=>!x.1)&&(backToKw cv (keywordEach [] X.env)).all (λx=>x.1.isSome)
  &&decide (([e]:O cM).length+([]:O Keyword).length+(if([]:O Keyword).isEmpty then 0 else 1)<30))=af
 line:(apos.endLine==cv.line)=af
 trees:backTo cv (starEach [e] X.env)=[(a8,eval e X.env)]
structure M2(X:Cx)(o:cM)(m:ar)(apos:Pos)(e f:cM)(cv:Pos):Prop where
 base:attributeBase o m X.env (eval o X.env)=eval o X.env
 f_:((backTo cv (starEach [e,f] X.env)).all (λx=>!x.1)&&(backToKw cv (keywordEach [] X.env)).all (λx=>x.1.isSome)
  &&decide (([e,f]:O cM).length+([]:O Keyword).length+(if([]:O Keyword).isEmpty then 0 else 1)<30))=af
 line:(apos.endLine==cv.line)=af
 trees:backTo cv (starEach [e,f] X.env)=[(a8,eval e X.env),(a8,eval f X.env)]
def AF(H:Hp)(a:Z):Prop:=(∃b,Rd H a (.dK b))\/∃b,Rd H a (.dT b)
def xE(I:Inv X pins σ H s)(d:AF H a):
  s.TypeIs (.ref a) "dict"/\(∀b,Value.ref a=.ref b->∃c,s.heap.get? b=U c/\c.dict=aG)/\(a==sysModules)=a8:=by
 rcases d with⟨g,e⟩|⟨g,e⟩
 ·obtain⟨_,hd,k,_,f⟩:=qE I.ay e;refine⟨f.typeIs,λb q=>?_,hd⟩;cases q;obtain⟨c,_,_,i,h,_⟩:=f;exact⟨c,i,h.2.1⟩
 ·obtain⟨_,hd,j,_,f⟩:=sy I.ay e;refine⟨f.typeIs,λb q=>?_,hd⟩;cases q;obtain⟨c,_,_,i,h,_⟩:=f;exact⟨c,i,h.2.1⟩
def Zh0(q:A.units+1<cLine)(I:Inv X pins σ H s)(g:fw H a y o)(n:RelV y u)(h:∀j m,Inv X pins σ H m->RelV (o.getD .aE) j->Q j m):
  wpAny X.md A (call (.builtin "dict.get") [.ref a,u]) Q E s:=by
 rcases g with⟨f,k,e,i,l⟩|⟨f,k,b,e,i,r,l⟩
 ·subst i;obtain⟨z,hd,t,c,d⟩:=qE I.ay e;refine mj oD d.typeIs tR (CV _ _) (meets_dict_get (dW X.prog X.w) a (nQ n) hd) ⟨_,d.mapOf,h _ _ (I.tok _) ?_⟩;exact l▸(c.val k).getD rfl
 ·subst i;cases(n);obtain⟨z,hd,p,c,d⟩:=sy I.ay e;refine mj oD d.typeIs tR (CV _ _) (meetsH_dict_get (tupleKind (dW X.prog X.w)) a b hd) ⟨nh q,k,p,r_ I.ay r,d,h _ _ (I.tok _) ?_⟩;exact l▸(c.val k).getD rfl
def Zh1(v:A.units+1<cLine)(I:Inv X pins σ H s)(g:fw H a y o)(p:RelV y u)(q:RelV d r)(h:∀m n,Inv X pins σ H n->RelV (o.getD d) m->Q m n):
  wpAny X.md A (call (.builtin "dict.get") [.ref a,u,r]) Q E s:=by
 rcases g with⟨i,k,e,j,l⟩|⟨i,k,b,e,j,w,l⟩
 ·subst j;obtain⟨z,hd,x,c,f⟩:=qE I.ay e;refine mj oD f.typeIs tR (CS _ _ _) (meets_dict_get_default (dW X.prog X.w) a (nQ p) hd r) ⟨_,f.mapOf,h _ _ (I.tok _) ?_⟩;exact l▸(c.val k).getD q
 ·subst j;cases(p);obtain⟨z,hd,t,c,f⟩:=sy I.ay e;refine mj oD f.typeIs tR (CS _ _ _) (meetsH_dict_get_default (tupleKind (dW X.prog X.w)) a b hd r) ⟨nh v,k,t,r_ I.ay w,f,h _ _ (I.tok _) ?_⟩;exact l▸(c.val k).getD q
def Zh2(f e:TE):TE:=λb H Q=>f b H λx d=>∃a,x=.ref a/\AF d a/\e b d λy c=>∃o,fw c a y o/\Q (o.getD .aE) c
def Zh3(g e f:TE):TE:=λb H Q=>g b H λx d=>∃a,x=.ref a/\AF d a/\e b d λy h=>f b h λz c=>∃o,fw c a y o/\Q (o.getD z) c
def Ze7(w:X.A.units+1<cLine)(z:PE X o j)(A:PE X e ty)(m:M1 X o "get" apos e C):PE X (.Call (.Attribute o "get" apos) [e] [] C) (Zh2 j ty):=by
 intro b s c H Q I h;refine tq m.base m.f_ m.line oB oD type_dict_get (aA (z b s c H _ I h) λu n i=>?_);obtain⟨x,G,f,q,a,B,d,t⟩:=i;subst B;obtain rfl:u=Value.ref a:=q;obtain⟨l,k,_⟩:=xE f d;refine⟨l,k,?_⟩;exact m.trees▸lW rfl (ou (nA (aA (A b n c G _ f t) λR N ⟨y,F,E,p,P,g,r⟩=>pU (Zh0 w E g p λJ L D v=>⟨_,F,D,v,r⟩))))
def Ze8(E:X.A.units+1<cLine)(F:PE X o l)(J:PE X e ty)(G:PE X f k)(m:M2 X o "get" apos e f N):PE X (.Call (.Attribute o "get" apos) [e,f] [] N) (Zh3 l ty k):=by
 intro b s c H Q I h;refine tq m.base m.f_ m.line oB oD type_dict_get (aA (F b s c H _ I h) λu r j=>?_);obtain⟨x,H1,i,w,a,L,d,C⟩:=j;subst L;obtain rfl:u=Value.ref a:=w;obtain⟨p,n,_⟩:=xE i d;refine⟨p,n,?_⟩;rw[m.trees];refine lW rfl (ou (nA (aA (J b r c H1 _ i C) λiv q ⟨y,H2,T,v,B⟩=>
  nA (aA (G b q c H2 _ T B) λfv s3 ⟨z,W,R,t,ov,g,A⟩=>pU ?_))))
 exact Zh1 E R g v t λw' s4 P D=>⟨_,W,P,D,A⟩
def xJ(P:dv)(w:dg)(K:ah)(c:aS)(a:cO)(k:Nat)(x:ar)(C:Z)(b:O ar)(e:Sp):Prop:=
 ∃f d,Mk K C f/\aB P w K c a aL k f d b e/\Binds K d b []/\c x=U (.ref C)
def b_(P:dv)(w:dg)(K:ah)(e:aS)(a:cO)(k:Nat)(m:ar)(C:Z)(b:O ar)(d:Sp):Prop:=
 ∃f c,gZ K C/\Meth K C m f/\aB P w K e a aL k f c b d/\Binds K c b []
def KD(P:dv)(w:dg)(K:ah)(e:aS)(a:cO)(k:Nat)(m:ar)(C:Z)(b:O ar)(d:Sp):Prop:=
 ∃f c,gZ K C/\Meth K C m f/\aB P w K e a (eK P w) k f c b d/\Binds K c b []
section
variable {X:Cx}{k j:Nat}{x m:ar}{C:Z}{ps:O ar}{Q:Sp}{p W T:Pos}{o e:cM}{R:O cM}{t:TA}{P:TE}
def Lg(h:xJ X.prog X.w X.K X.mg X.base k x C ps Q)(c:cK j X.A)(g:k+1<=j)(i:Gl X x)(n:PA X (e::R) t)(q:(x==("__debug__":ar))=a8:=by decide)
  (l:jb X e R:=by rfl)(r:jE X W R:=by rfl):PE X (.Call (.Name x p) (e::R) [] W) (Us C Q [] E0 t):=by
 obtain⟨f,s,a,F,b,d⟩:=h;exact Zf5 a F (c.mono g) i d b .nil xH n q l r
def cJ(h:b_ X.prog X.w X.K X.mg X.base k m C ps Q)(g:cK j X.A)(n:k<=j)(i:PE X o P)(q:PA X (e::R) t)
  (r:jb X e R:=by rfl)(s:jE X W R:=by rfl)
  (d:eval (.Call (.Attribute o m T) (e::R) [] W) X.env=(do
   let a←eval o X.env
   standAt T.atName
   let(f,first)←holding [a] (getMethod a m u)
   callWith W f first (backTo W (starEach (e::R) X.env)) (backToKw W (keywordEach [] X.env))):=by rfl):
  PE X (.Call (.Attribute o m T) (e::R) [] W) (CQ C m Q [] E0 P t):=by
 obtain⟨f,v,c,l,F,b⟩:=h;exact Zf4 i c l F (g.mono n) b .nil xH q r s d
end
def xw{K:ah}(h:X.K=K)(b:PE X e a)(c:attributeBase e f X.env (eval e X.env)=eval e X.env):PE X (.Attribute e f pos) (LC K a f):=h▸Zhn b c
section
open PySem.AutoSeq1 (wpAny_loadPart')
def Zd0(a b x:Int):(Builtin.Range.rangePlace? a b 1 x).isSome=decide (a<=x/\x<b):=by
 unfold Builtin.Range.rangePlace?
 grind
def Zak(p:Z)(f i x:Int)(a b c t:Tok):
  Meets (Builtin.«range.__contains__» ⟨[.ref p,.int x t],[]⟩)
   (λ_ R s=>s.heap.get? p=U {cls:=.type "range",data:=.fields #[.int f a,.int i b,.int 1 c]}/\R (.ok (.ret (.bool (decide (f<=x/\x<i))))) s):=
 .of_wp λe w A R s h=>by
  obtain⟨l,g,d,k,os⟩:=s;obtain⟨j,h⟩:=h;rw[←Zd0] at h
  wp_walk using WB j
  simp_all
end
def Zh4(a:cm):R2:=λx y H Q=>∃(i lo b:Int) (p:Z),x=.int i/\y=.ref p/\H p=U (.kJ lo b)/\Q (.bl (if a=af then !decide (lo<=i/\i<b) else decide (lo<=i/\i<b))) H
def Zbu:cL X (compareOp .NotIn) (Zh4 af):=by
 rintro d s k H x y v u Q I f e ⟨i,lo,j,p,rfl,rfl,h,q⟩;obtain⟨t,rfl⟩:=f;cases e;obtain⟨a,b,c,g⟩:=(I.ay p _ h);exact SeqRoads2.notIn_meets ⟨_,g,rfl⟩ F.slot_range_contains F.entry_range_contains (F.args_range_contains_2 _ _) (Zak p lo j i a b c t) ⟨g,_,rfl,.bl _,H,I,rfl,q⟩
def wD(p:Nat->cm)(n:Nat):(List.range (n+1)).filter p=(List.range n).filter p++(if p n=af then[n] else[]):=by
 rw[MA,Wf]
 grind
theorem kq{b a:Type}{F:b->a->Prop}:∀{d:O b} {c:O a} {x:b} {y:a},Paired F d c->F x y->Paired F (d++[x]) (c++[y]):=by
 intro d c x y h f;induction h with
 |nil=>exact .cons f .nil
 |cons r t e=>exact .cons r e
theorem GL:∀{b:O α} {a:O β},Paired F b a->b.length=a.length:=by
 intro b a h;induction h with
 |nil=>rfl
 |cons _ _ c=>rw[Wi,Wi,c]
theorem F8:∀{b:O V} {a:O β},Paired (λx y=>x=f y) b a->b=a.map f:=by
 intro b a h;induction h with
 |nil=>rfl
 |cons r t c=>rw[Ws,←r,←c]
def Hm(n:Nat):(List.range n).filter (λ_=>af)=List.range n:=QS
theorem Za4(a:O α)(f:Nat->β)(g:α->β)(h:∀(i:Nat) (v:α),a[i]?=U v->f i=g v):(List.range a.length).map f=a.map g:=by
 refine Ww λi=>?_;rw[Ye,Ye];cases e:a[i]? with
 |none=>rw[Y4 (by exact Jt▸List.getElem?_eq_none_iff.mp e)];rfl
 |some v=>rw[Jj (Yj.mp e).1];exact eH U (h i v e)
def aF(D:Z)(H a:Hp):Prop:=∀b o,H b=U o->b≠D->a b=U o
def aF.of(g:ai H H'):aF D H H':=λb o e _=>g b o e
def aF.put(g:aF D H a):aF D H (upd a D o):=λb u e n=>by rw[aK n];exact g b u e n
def xK(j:TT)(k:TE)(e:St)(D:Z)(H:Hp)(v:V)(b:cm)(l:V->Hp->Prop):Prop:=
 ∀d,ai H d->(∃i,d D=U (.lst i))->∀(f:VK) (g:Hp->Prop),(∀y a,b=af->ai d a->l y a->f y a)->(∀a,b=a8->ai d a->g a)->j (U v::e) d λc h=>if c=af then k (U v::e) h f else g h
def ze{K:ah}(C:aq K H a xs)(L:xs.length<=1000)(u:H D=aG)(p:Nat->cm)(l:Nat->V->Hp->Prop)(c:∀i y d x,aF D d x->l i y d->l i y x)
  (k:∀(i:Nat) (v:V),xs[i]?=U v->xK tt A E D H v (p i) (l i))(G:∀f m,ai H m->m D=U (.lst f)->Paired (λy i=>l i y m) f ((List.range xs.length).filter p)->Q (.ref D) m):jW (kK K a) tt A E D H Q:=by
 refine Ir (λi f d=>i<=xs.length/\ai H d/\d D=U (.lst f)/\Paired (λy j=>l j y d) f ((List.range i).filter p)) ⟨Yx _,cC u _,aU,.nil⟩ (λi f d _ R=>by obtain⟨_,g,_,_⟩:=R;exact g.seq C) ?_ ?_
 ·rintro i v f d t ⟨_,g,s,n⟩;have w:=(Yj.mp t).1;have J:=GL n;have F:=Wk p (List.range i);rw[Jt] at F;refine k i v t d g ⟨_,s⟩ _ _ (λy I r h B=>⟨h _ _ s,by rw[dU];omega,w,?_,aU,?_⟩) (λI r h=>⟨w,g.trans h,h _ _ s,?_⟩)
  ·intro b o e;rw[aK (cA e u)];exact h _ _ (g _ _ e)
  ·rw[wD,bS r];exact kq (Paired.bI n λz j q=>c _ _ _ _ (aF.put (aF.of h)) q) (c _ _ _ _ (aF.put (aF.of (ai.refl _))) B)
  ·rw[wD,bt (by rw[r];exact Yh),We];exact Paired.bI n λz j q=>c _ _ _ _ (aF.of h) q
 ·(simp;omega)
def ZcV{K:ah}(k:aq K H a xs)(l:xs.length<=1000)(m:H D=aG)(p:Nat->cm)(f:Nat->V)
  (b:∀(i:Nat) (v:V),xs[i]?=U v->xK tt h n D H v (p i) (λy _=>y=f i))(d:∀c,ai H c->c D=U (.lst (((List.range xs.length).filter p).map f))->Q (.ref D) c):jW (kK K a) tt h n D H Q:=
 ze k l m p (λi y _=>y=f i) (λ_ _ _ _ _ e=>e) b λo c g q j=>d c g (by rwa[←F8 j])
def ZcW{K:ah}(m:aq K H a xs)(n:xs.length<=1000)(o:H D=aG)(f:V->V)
  (h:∀(i:Nat) (v:V),xs[i]?=U v->∀c,ai H c->∀e:VK,(∀k,ai c k->e (f v) k)->l (U v::q) c e)(d:∀b,ai H b->b D=U (.lst (xs.map f))->Q (.ref D) b):jW (kK K a) C_ l q D H Q:=by
 refine ZcV m n o (λ_=>af) (λi=>f (xs.getD i .aE)) (λi v j c g _ e s r _=>mV (cZ ?_)) λb g p=>d b g ?_;·grind
 ·rw[p,Hm,Za4 xs (λi=>f (xs.getD i .aE)) f λi v j=>by rw[Yi,j];rfl]
def Zd1{K:ah}(C:az K H a xs)(L:xs.length<=1000)(u:H D=aG)(p:Nat->cm)(l:Nat->V->Hp->Prop)(c:∀i y d x,aF D d x->l i y d->l i y x)
  (k:∀(i:Nat) (v:V),xs[i]?=U v->xK tt A E D H v (p i) (l i))(G:∀f m,ai H m->m D=U (.lst f)->Paired (λy i=>l i y m) f ((List.range xs.length).filter p)->Q (.ref D) m):jW (yb K a) tt A E D H Q:=by
 refine BV (λi f d=>i<=xs.length/\ai H d/\d D=U (.lst f)/\Paired (λy j=>l j y d) f ((List.range i).filter p)) ⟨Yx _,cC u _,aU,.nil⟩ (λi f d _ ⟨_,g,_,_⟩=>g.kg C) ?_ ?_
 ·rintro i v f d t ⟨_,g,s,n⟩;have w:=(Yj.mp t).1;have J:=GL n;have F:=Wk p (List.range i);rw[Jt] at F;refine k i v t d g ⟨_,s⟩ _ _ (λy I r h B=>⟨h _ _ s,by rw[dU];omega,w,?_,aU,?_⟩) (λI r h=>⟨w,g.trans h,h _ _ s,?_⟩)
  ·intro b o e;rw[aK (cA e u)];exact h _ _ (g _ _ e)
  ·rw[wD,bS r];exact kq (Paired.bI n λz j q=>c _ _ _ _ (aF.put (aF.of h)) q) (c _ _ _ _ (aF.put (aF.of (ai.refl _))) B)
  ·rw[wD,bt (by rw[r];exact Yh),We];exact Paired.bI n λz j q=>c _ _ _ _ (aF.of h) q
 ·simp_all
def Zd2{K:ah}(k:az K H a xs)(l:xs.length<=1000)(m:H D=aG)(p:Nat->cm)(f:Nat->V)
  (b:∀(i:Nat) (v:V),xs[i]?=U v->xK tt h n D H v (p i) (λy _=>y=f i))(d:∀c,ai H c->c D=U (.lst (((List.range xs.length).filter p).map f))->Q (.ref D) c):jW (yb K a) tt h n D H Q:=
 Zd1 k l m p (λi y _=>y=f i) (λ_ _ _ _ _ e=>e) b λo c g q j=>d c g (by rwa[←F8 j])
def Zb8{v:Int}{n:Nat}{t:TT}{u:TE}{A:St}{D:Z}{H:Hp}{Q:VK}(L:n<=1000)(x:H D=aG)(p:Nat->cm)(k:Nat->V->Hp->Prop)(a:∀i y c C,aF D c C->k i y c->k i y C)
  (h:∀i,i<n->xK t u A D H (.int (v+i)) (p i) (k i))(G:∀f l,ai H l->l D=U (.lst f)->Paired (λy i=>k i y l) f ((List.range n).filter p)->Q (.ref D) l):jW (qQ v n) t u A D H Q:=by
 refine zd (λi f c=>i<=n/\ai H c/\c D=U (.lst f)/\Paired (λy j=>k j y c) f ((List.range i).filter p)) ⟨Yx _,cC x _,aU,.nil⟩ ?_ ?_
 ·rintro i f c w ⟨_,g,s,m⟩;have B:=w;have J:=GL m;have F:=Wk p (List.range i);rw[Jt] at F;refine h i w c g ⟨_,s⟩ _ _ (λy I r d E=>⟨d _ _ s,by rw[dU];omega,B,?_,aU,?_⟩) (λI r d=>⟨B,g.trans d,d _ _ s,?_⟩)
  ·intro b o e;rw[aK (cA e x)];exact d _ _ (g _ _ e)
  ·rw[wD,bS r];exact kq (Paired.bI m λz j q=>a _ _ _ _ (aF.put (aF.of d)) q) (a _ _ _ _ (aF.put (aF.of (ai.refl _))) E)
  ·rw[wD,bt (by rw[r];exact Yh),We];exact Paired.bI m λz j q=>a _ _ _ _ (aF.of d) q
 ·simp_all
def Zb9{j:Int}{n:Nat}{d:TT}{h:TE}{k:St}{D:Z}{H:Hp}{Q:VK}(m:n<=1000)(o:H D=aG)(p:Nat->cm)(f:Nat->V)
  (a:∀i,i<n->xK d h k D H (.int (j+i)) (p i) (λy _=>y=f i))(c:∀b,ai H b->b D=U (.lst (((List.range n).filter p).map f))->Q (.ref D) b):jW (qQ j n) d h k D H Q:=
 Zb8 m o p (λi y _=>y=f i) (λ_ _ _ _ _ e=>e) a λq b g r l=>c b g (by rwa[←F8 l])
abbrev Nw(H:Hp)(o:HO)(Q:VK):Prop:=∀(p:Z) (a:Hp),H p=aG->ai H a->a p=U o->Q (.ref p) a
def Nw.at(h:Nw H o Q):∀p,H p=aG->Q (.ref p) (upd H p o):=λp a=>h p _ a (cC a o) aU
def zV(t:TA):TE:=λb H Q=>t b H λa c=>a.length<=sizeLine/\Nw c (.tup a) Q
def UM(t:TA):TE:=λb H Q=>t b H λa c=>a.length<=sizeLine/\Nw c (.lst a) Q
section
variable {K:ah}
def cU(h:PA X j t):PE X (.Tuple j l pos) (zV t):=by
 intro a s e H Q I i;refine wpAny_Tuple_spliced (aA (h pos a s e H _ I i) λg c ⟨f,k,d,r,z,q⟩=>⟨by rwa[←r.length],⟨.ref c.heap.objs.size,upd k c.heap.objs.size (.tup f),d.laid (λ b u=>Yb _) (Yd _) ?_,rfl,q.at _ (d.ay.fresh (Yd _))⟩⟩);exact⟨z,g,r,⟨_,Yp _ rfl,rfl,_,rfl,rfl⟩⟩
def cV(h:PA X j t):PE X (.List j pos) (UM t):=by
 intro a s e H Q I i;refine LG (aA (h pos a s e H _ I i) λg c ⟨f,k,d,r,z,q⟩=>⟨by rwa[←r.length],⟨.ref c.heap.objs.size,upd k c.heap.objs.size (.lst f),d.laid (λ b u=>Yb _) (Yd _) ?_,rfl,q.at _ (d.ay.fresh (Yd _))⟩⟩);exact⟨z,g,0,r,Yp _ rfl⟩
def dm.mono(h:dm X f r)(m:∀a H Q,r' a H Q->r a H Q):dm X f r':=λb s c H a d Q I v q=>h b s c H a d Q I v (m a H Q q)
def cL.mono(h:cL X f r)(m:∀x y H Q,r' x y H Q->r x y H Q):cL X f r':=λa s b H x y v u Q I d c q=>h a s b H x y v u Q I d c (m x y H Q q)
def vw.mono(h:vw X r)(m:∀x lo b H Q,r' x lo b H Q->r x lo b H Q):vw X r':=λa s c H x v e d lo b f Q I g k j i q=>h a s c H x v e d lo b f Q I g k j i (m x lo b H Q q)
inductive OS(a:O V)(H:Hp)(Q:VK):Prop
 |mk (j:Int) (b:a=[.int j]) (c:Nw H (.kJ 0 j) Q):OS a H Q
def Ze9:O V->Hp->VK->Prop:=λa H Q=>OS a H Q
def Gs:dm X (.type "range") Ze9:=Bo.mono λ_ _ _ a=>by obtain⟨j,e,q⟩:=a;exact⟨j,e,q.at⟩
inductive Ov(a:O V)(H:Hp)(Q:VK):Prop
 |mk (p:Z) (n:Nat) (d:a=[.ref p]) (e:H p=U (.kJ 0 (n:Int))) (b:n<=1000) (c:Nw H (.lst ((bB n).map V.int)) Q):Ov a H Q
def Zd3:O V->Hp->VK->Prop:=λa H Q=>Ov a H Q
def ZaO(b:X.calm=af):dm X (.type "list") Zd3:=(F7 b).mono λ_ _ _ a=>by obtain⟨p,n,e,h,l,q⟩:=a;exact⟨p,n,e,h,l,q.at⟩
inductive OT(a:O V)(H:Hp)(Q:VK):Prop
 |mk (p:Z) (n:Nat) (d:a=[.ref p]) (e:H p=U (.kJ 0 (n:Int))) (b:n<=1000) (c:Nw H (.tup ((bB n).map V.int)) Q):OT a H Q
def Ze_:O V->Hp->VK->Prop:=λa H Q=>OT a H Q
def Zaw(b:X.calm=af):dm X (.type "tuple") Ze_:=(Of b).mono λ_ _ _ a=>by obtain⟨p,n,e,h,l,q⟩:=a;exact⟨p,n,e,h,l,q.at⟩
def Zfa(K:ah):O V->Hp->VK->Prop:=λc H Q=>∃(p:Z) (a:O Int),c=[.ref p]/\(aq K H p (a.map V.int)\/az K H p (a.map V.int))/\a.length<64/\
  ∀b:O Int,b.Perm a->b.Pairwise (·<=·)->Nw H (.lst (b.map V.int)) Q
def Zfb(h:X.K=K):dm X (.builtin "sorted") (Zfa K):=h▸Ot.mono λ_ _ _ b=>by obtain⟨p,f,e,s,l,q⟩:=b;exact⟨p,f,e,s,l,λa i g d c=>(q i d c).at a g⟩
inductive RO(K:ah)(x:V)(c:bR Int)(d:bR Int)(H:Hp)(Q:VK):Prop
 |mk (a b) (f:x=.ref a) (g:aq K H a b) (e:Nw H (.lst (kC b c d)) Q):RO K x c d H Q
def Zjb(K:ah):V->bR Int->bR Int->Hp->VK->Prop:=λx lo a H Q=>RO K x lo a H Q
def B0(h:X.K=K):vw X (Zjb K):=h▸Zf8.mono λ_ _ _ _ _ b=>by obtain⟨a,c,e,s,q⟩:=b;exact⟨a,c,e,s,q.at⟩
def Zjc:R2:=λx y H Q=>∃l b c a,x=.ref l/\y=.ref b/\H l=U (.lst c)/\H b=U (.lst a)/\c.length+a.length<=sizeLine/\Nw H (.lst (c++a)) Q
def rW:cL X (binaryOp .Add) Zjc:=Zhw.mono λ_ _ _ _ c=>by obtain⟨l,b,d,a,h,g,f,e,z,q⟩:=c;exact⟨l,b,d,a,h,g,f,e,z,q.at⟩
def Zgp:TE:=λ_ H Q=>Nw H (.dK []) Q
def rN:PE X (.Dict [] [] pos) Zgp:=λa s b H Q I q=>Ze5 a s b H Q I q.at
def Zgq:TE:=λ_ H Q=>Nw H (.dT []) Q
def PD:PE X (.Dict [] [] pos) Zgq:=λa s b H Q I q=>Ze6 a s b H Q I q.at
end
abbrev Ch(H:Hp)(a:Z)(o:HO)(R:Hp->Prop):Prop:=∀b,aF a H b->b a=U o->R b
def Ch.at(h:Ch H a o R):R (upd H a o):=h _ (aF.put (aF.of (ai.refl _))) aU
section
variable {X:Cx}
def pC.mono{id:String}(h:pC X id r)(m:∀x a H Q,r' x a H Q->r x a H Q):pC X id r':=λb s c H x a v d Q I e f q=>h b s c H x a v d Q I e f (m x a H Q q)
inductive OU(x:V)(b:O V)(H:Hp)(Q:VK):Prop
 |mk (l a y) (f:x=.ref l) (g:b=[y]) (d:H l=U (.lst a)) (e:a.length<sizeLine) (c:Ch H l (.lst (a++[y])) (Q .aE)):OU x b H Q
def Qs:V->O V->Hp->VK->Prop:=λx a H Q=>OU x a H Q
def rG:pC X "list.append" Qs:=zm.mono λ_ _ _ _ a=>by obtain⟨l,b,y,d,c,h,z,q⟩:=a;exact⟨l,b,y,d,c,h,z,q.at⟩
def Zfc:V->O V->Hp->VK->Prop:=λx d H Q=>∃l b c a,x=.ref l/\d=[.ref b]/\H l=U (.lst c)/\H b=U (.lst a)/\c.length+a.length<=sizeLine/\Ch H l (.lst (c++a)) (Q .aE)
def ZcX:pC X "list.extend" Zfc:=ZdN.mono λ_ _ _ _ c=>by obtain⟨l,b,d,a,h,g,f,e,z,q⟩:=c;exact⟨l,b,d,a,h,g,f,e,z,q.at⟩
def Zgr:V->O V->Hp->VK->Prop:=λx b H Q=>∃l a,x=.ref l/\b=[]/\H l=U (.lst a)/\Ch H l (.lst []) (Q .aE)
def Zd4:pC X "list.clear" Zgr:=ZeQ.mono λ_ _ _ _ a=>by obtain⟨l,b,d,c,h,q⟩:=a;exact⟨l,b,d,c,h,q.at⟩
def uQ.mono(h:uQ X t)(m:∀o i v H Q,t' o i v H Q->t o i v H Q):uQ X t':=by
 intro a s b H o i x f g v Q I e d c q;exact h a s b H o i x f g v Q I e d c (m _ _ _ _ _ q)
def Zh5:V->V->V->Hp->(Hp->Prop)->Prop:=λo i v H Q=>∃p a k j,o=.ref p/\i=.int k/\H p=U (.lst a)/\m5 a.length k=U j/\Ch H p (.lst (a.set j v)) Q
def PF:uQ X Zh5:=set_list.mono λ_ _ _ _ _ a=>by obtain⟨p,b,k,j,d,c,h,z,q⟩:=a;exact⟨p,b,k,j,d,c,h,z,q.at⟩
variable {o i W:cM}{td ty P N:TE}{R T:Pos}{f:ar}
inductive Qt(D:Ends)(d:St)(v:V)(x:V)(y:V)(c:Hp):Prop
 |mk (a b k) (j:x=.ref a) (l:c a=U (.dK b)) (g:y=kV k) (h:b.length<sizeLine) (e:Ch c a (.dK (putK b k v)) (D.nx d)):Qt D d v x y c
def Zh6(td ty P:TE):TS:=λD a H=>P a H λv d=>td a d λx c=>ty a c λy b=>Qt D a v x y b
inductive PH(D:Ends)(e:St)(v:V)(x:V)(y:V)(d:Hp):Prop
 |mk (a b c k) (m:x=.ref a) (n:d a=U (.dT c)) (j:y=.ref b) (l:d b=U (.tup (k.map kV))) (h:c.length<sizeLine) (g:Ch d a (.dT (putK c k v)) (D.nx e)):PH D e v x y d
def Zgs(td ty P:TE):TS:=λD a H=>P a H λv d=>td a d λx c=>ty a c λy b=>PH D a v x y b
def oO(A:X.A.units+1<cLine)(C:PE X o td)(E:PE X i ty)(z:PE X W P)(B:swapsWith W (U (.Subscript o i T)) R.line X.env=pure a8:=by rfl):
  PS X (.Assign [.Subscript o i T] W R) (Zh6 td ty P):=by
 intro b s d H D I h;refine DN (aA (z b s d H _ I h) λr g c=>?_) B;obtain⟨v,H1,I1,n,t⟩:=c;refine aA (C b g d H1 _ I1 t) λu e c=>?_;obtain⟨x,H2,I2,m,q⟩:=c;refine aA (E b e d H2 _ I2 q) λiv s3 c=>?_;obtain⟨y,H3,Q,j,a,w,k,J,F,G,l,p⟩:=c;subst J;subst G;obtain rfl:u=Value.ref a:=m;exact Pz A Q (uW.k F l) j n λs4 L=>⟨d,_,L,p.at⟩
def PK(B:X.A.units+1<cLine)(E:PE X o td)(F:PE X i ty)(A:PE X W P)(C:swapsWith W (U (.Subscript o i T)) R.line X.env=pure a8:=by rfl):
  PS X (.Assign [.Subscript o i T] W R) (Zgs td ty P):=by
 intro c s e H D I h;refine DN (aA (A c s e H _ I h) λr j d=>?_) C;obtain⟨v,H1,I1,p,w⟩:=d;refine aA (E c j e H1 _ I1 w) λu g d=>?_;obtain⟨x,H2,I2,n,t⟩:=d;refine aA (F c g e H2 _ I2 t) λiv s3 d=>?_;obtain⟨y,H3,I3,m,a,b,z,k,Q,J,L,G,l,q⟩:=d;subst Q;subst L;obtain rfl:u=Value.ref a:=n;exact Pz B I3 (uW.t J G l) m p λs4 I4=>⟨e,_,I4,q.at⟩
def Zjd(K:ah)(N P:TE)(f:ar):TS:=λD b H=>P b H λy e=>N b e λx d=>∃a C c fs,x=.ref a/\d a=U (.ins C c fs)/\gZ K C/\c9 K C f/\fs.length<1000/\Ch d a (.ins C c (cS f y fs)) (D.nx b)
def iD{K:ah}(w:X.K=K)(v:PE X o N)(r:PE X W P)(t:swapsWith W (U (.Attribute o f T)) R.line X.env=pure a8:=by rfl):PS X (.Assign [.Attribute o f T] W R) (Zjd K N P f):=by
 subst w;intro b s d H D I h;refine uZ (aA (r b s d H _ I h) λu g e=>?_) t;obtain⟨y,G,F,j,q⟩:=e;refine aA (v b g d G _ F q) λp L e=>?_;obtain⟨x,H2,E,k,a,C,Q,fs,z,A,c,n,l,m⟩:=e;subst z;obtain rfl:p=Value.ref a:=k;exact OI E A c n l j λJ B=>⟨d,_,B,m.at⟩
end
def AG(x:ar):It:=⟨λi _=>i<x.length,λi H v a=>a=H/\∃c,x.cps[i]?=U c/\v=.str ⟨#[c]⟩,λi _=>x.length<=i⟩
theorem ZaP{P:dv}{w:dg}{K:ah}{B:cM}(it:Z)(x:ar)(t:Tok):Turn P w K B (AG x) [it] it (λi h=>h.IsStrIter it "str_ascii_iterator" x t i) where
 mem:=QS
 obj:=λi h st b f=>by
  have e:b=it:=by simpa using f
  obtain⟨o,e,c,d⟩:=st
  grind
 keep:=λi h y st k=>let⟨o,e,r⟩:=st;⟨o,k it QS o e,r⟩
 item:=by
  intro X F D G v i a s A H E I g st j;obtain⟨q,p,J,n,m,l⟩:=g it QS;have u:=W1 j;refine wpAny_pyNext_ascii_item st u λy z C=>?_;obtain⟨o,e,c,d⟩:=id z;exact⟨_,rfl,uF e c d QD ⟨.str ⟨#[x.cps[i]]⟩,H,(I.turned (λb o f e=>(C.2 b f).trans e) q p n m l),⟨_,rfl⟩,⟨rfl,_,u,rfl⟩,z,λb f=>(g b f).1⟩⟩
 done:=by
  intro X F D G v i a s A H E I g st j;obtain⟨q,p,J,n,m,l⟩:=g it QS;exact wpAny_pyNext_ascii_end (I.ok.hd v) st (Xo j) λy L=>⟨rfl,I.turned (L) q p n m l⟩
 self:=λ_ _ _ _ _ st h=>wpAny_pyIter_striter_ascii st h
theorem Za5{P:dv}{w:dg}{K:ah}{B:cM}(it:Z)(x:ar)(t:Tok):Turn P w K B (AG x) [it] it (λi h=>h.IsStrIter it "str_iterator" x t i) where
 mem:=QS
 obj:=λi h st b f=>by
  have e:b=it:=by simpa using f
  obtain⟨o,e,c,d⟩:=st
  grind
 keep:=λi h y st k=>let⟨o,e,r⟩:=st;⟨o,k it QS o e,r⟩
 item:=by
  intro X F D G v i a s A H E I g st j;obtain⟨q,p,J,n,m,l⟩:=g it QS;have u:=W1 j;refine wpAny_pyNext_wide_item st u λy z C=>?_;obtain⟨o,e,c,d⟩:=id z;exact⟨_,rfl,uF e c d QD ⟨.str ⟨#[x.cps[i]]⟩,H,(I.turned (λb o f e=>(C.2 b f).trans e) q p n m l),⟨_,rfl⟩,⟨rfl,_,u,rfl⟩,z,λb f=>(g b f).1⟩⟩
 done:=by
  intro X F D G v i a s A H E I g st j;obtain⟨q,p,J,n,m,l⟩:=g it QS;exact wpAny_pyNext_wide_end (I.ok.hd v) st (Xo j) λy L=>⟨rfl,I.turned (L) q p n m l⟩
 self:=λ_ _ _ _ _ st h=>wpAny_pyIter_striter_wide st h
inductive Tw(R:It->Hp->Prop)(v:V)(a:Hp):Prop
 |mk (x) (b:v=.str x) (c:R (AG x) a):Tw R v a
def Zj3(b:TE):TI:=λa H R=>b a H λv c=>Tw R v c
theorem Zh7(p:PE X l k):PI X u l (Zj3 k):=by
 intro a s i H R I h;refine aA (p a s i H _ I h) λv c j=>?_;obtain⟨x,f,d,m,n⟩:=j;obtain⟨z,e,q⟩:=n;subst e;obtain⟨t,rfl⟩:=m;have fin:∀b∈[c.heap.objs.size],jA X a f b:=λb r=>by
  have e:b=c.heap.objs.size:=by simpa using r
  subst e;exact d.qI (Yd _) (d.ay.fresh (Yd _))
 cases g:z.cps.all (·<128) with
 |true=>exact wpAny_pyIter_ascii g ⟨c.heap.objs.size,[c.heap.objs.size],_,_,f,rfl,d.kept λb o e=>Yb _ e,ZaP _ z t,⟨_,Yp _ rfl,rfl,rfl⟩,fin,q⟩
 |false=>exact wpAny_pyIter_wide g ⟨c.heap.objs.size,[c.heap.objs.size],_,_,f,rfl,d.kept λb o e=>Yb _ e,Za5 _ z t,⟨_,Yp _ rfl,rfl,rfl⟩,fin,q⟩
abbrev sg(c:Nat):V:=.str ⟨#[c]⟩
def Zfd(d:Nat->O V->Hp->Prop)(q:d 0 [] (upd H D (.lst [])))
  (t:∀(i c:Nat) (a:O V) (H:Hp),x.cps[i]?=U c->d i a H->tt (U (sg c)::g) H λb j=>if b=af then k (U (sg c)::g) j λy h=>h D=U (.lst a)/\a.length<sizeLine/\d (i+1) (a++[y]) (upd h D (.lst (a++[y]))) else d (i+1) a j)
  (o:∀a H,d x.length a H->Q (.ref D) H):jW (AG x) tt k g D H Q:=by
 refine⟨λi m a H=>m=x.length-i/\i<=x.length/\d i a H,⟨x.length,QS,Yx _,q⟩,?_⟩;rintro i m a H ⟨rfl,n,p⟩;by_cases f:i<x.length
 ·refine .inr ⟨f,d (i+1),λs r l=>⟨x.length-(i+1),QO,rfl,f,l⟩,λv r y=>?_⟩;obtain⟨e,c,u,rfl⟩:=y
  simp_all
 ·have e:i=x.length:=(i_ n (gV f))
  subst e;exact .inl ⟨Yd _,o a H p⟩
def Zd5(y:x.length<=100000)(p:H D=aG)(f:Nat->V)
  (d:∀(i c:Nat),x.cps[i]?=U c->∀a,ai H a->∀s:VK,(∀m,ai a m->s (f c) m)->t (U (sg c)::v) a s)(l:∀n,ai H n->n D=U (.lst (x.cps.toList.map f))->Q (.ref D) n):jW (AG x) C_ t v D H Q:=by
 refine Zfd (λi h a=>i<=x.length/\ai H a/\a D=U (.lst h)/\h=(x.cps.toList.take i).map f) ⟨Yx _,cC p _,aU,rfl⟩ ?_ ?_
 ·rintro i c h a j ⟨_,g,k,e⟩;have w:i<x.length:=(Jx.mp j).1;refine mV (cZ (d i c j a g _ λm r=>⟨r _ _ k,?_,w,?_,aU,?_⟩))
  ·rw[e,Ya,Wb,dU];omega
  ·intro b o q;rw[aK (cA q p)];exact r _ _ (g _ _ q)
  ·have u:x.cps.toList[i]?=U c:=by rw[Jp];exact j
   rw[e,Y1,u,Yo];rfl
 ·rintro h a ⟨_,g,k,e⟩;refine l a g ?_;rw[k,e,Wz (by show x.cps.toList.length<=x.cps.size;simp)]
end L2
namespace L2
open PySem PySem.W PySem.Spec PyProof.Rows
def Zh8:O V->Hp->VK->Prop:=λb H Q=>∃(p:Z) (a:O (Key×V)),b=[.ref p]/\H p=U (.dK a)/\Nw H (.lst (a.map λc=>kV c.1)) Q
theorem Iv:∀{c:O Key} {b:O a7},b.length=c.length->(∀(j:Nat) (v:a7),b[j]?=U v->∃k,c[j]?=U k/\(dW P w).is k v=af)->Vals (c.map kV) b
 |[],[],_,_=>.nil
 |k::c,u::b,a,h=>by
  obtain⟨k',e,d⟩:=h 0 u rfl;have g:k=k':=by simpa using e
  subst g;refine .cons ?_ (Iv (by simpa using a) λj v f=>by simpa using h (j+1) v (by simpa using f));rcases nC (d) with⟨i,t,rfl,rfl⟩|⟨x,t,rfl,rfl⟩;·exact⟨t,rfl⟩
  ·exact⟨t,rfl⟩
 |[],_::_,a,_=>by simp at a
 |_::_,[],a,_=>by simp at a
def Zb_(z:X.calm=af):dm X (.type "list") Zh8:=by
 rintro g s C H D E Q I r ⟨p,b,rfl,y,q⟩;obtain⟨u,rfl,m⟩:=vals1 r;obtain rfl:u=Value.ref p:=m;obtain⟨n,i,l,a,A⟩:=nR I.ay y;obtain⟨W,B⟩:=A.dictAt;have G:=a.length;refine kdl_call (kdl_dict i) (I.ok.hd z) B QO λT F f c t R h=>?_;have d:Vals (b.map λa=>kV a.1) f.toList:=by
  have e:(b.map λa=>kV a.1)=(l.map (·.1)).map kV:=by rw[←a.keys,Y7];rfl
  rw[e];refine Iv (P:=X.prog) (w:=X.w) (by rw[Wt,Ya];exact h.1) λj v N=>?_;obtain⟨k,x,J,L⟩:=h.2 j v (by rwa[←Jp])
  simp_all
 exact⟨.ref s.heap.objs.size,_,(I.laid (o:=.lst (b.map λa=>kV a.1)) t (Yd _) ⟨by rwa[Ya],f.toList,c,d,by rwa[G2]⟩),rfl,q.at _ (I.ay.fresh (Yd _))⟩
end L2
namespace L2
open PySem PySem.Spec PyProof.Rows
abbrev CY(D:O (ar×ar)):O (ar×PyData):=D.map λp=>(p.1,PyData.str p.2)
def uX(K:ah)(a:Z)(D:O (ar×ar)):Prop:=KTD.tabLook KTD.flatLooks (λb=>K.lookup b) a (CY D)=af
theorem zp(f:a->b)(k:ar):∀D:O (ar×a),KTD.datumAt k (D.map λp=>(p.1,f p.2))=(KTD.datumAt k D).map f
 |[]=>rfl
 |p::D=>by
  rw[Ws];unfold KTD.datumAt;by_cases e:k=p.1;·simp[e]
  ·simp[e];exact zp f k D
def uX.here{K:ah}(t:uX K a D)(b:K.In h):KTD.Here h h a ((CY D).map λp=>(p.1,KTD.Dat.flat p.2)):=
 ⟨KTD.TabOf.text (KTD.tab_of_look (λ_ _=>KTD.flat_of_looks) (b) t),λ_ _ e=>e⟩
def dM(D:O (ar×ar))(z:ar):cm:=(KTD.datumAt z D).isSome
def keys_has(D:O (ar×ar))(z:ar):KTD.inKeys z ((CY D).map λp=>(p.1,KTD.Dat.flat p.2))=dM D z:=by
 rw[←KTD.isSome_datumAt,zp KTD.Dat.flat,zp PyData.str];unfold dM
 grind
def Zh9(K:ah)(b:cm):R2:=λx y H Q=>∃(z:ar) (a:Z) (D:O (ar×ar)),x=.str z/\y=.ref a/\uX K a D/\Q (.bl (if b=af then !dM D z else dM D z)) H
def Zh_{K:ah}(e:X.K=K):cL X (compareOp .In) (Zh9 K a8):=by
 subst e;rintro b s f H x y v u Q I d c ⟨z,a,D,rfl,rfl,t,q⟩;obtain⟨g,rfl⟩:=d;obtain rfl:u=Value.ref a:=c;refine KTD.in_text (t.here I.cD) ?_;rw[keys_has];exact⟨.bl (dM D z),H,I.tok _,rfl,q⟩
def Zia(K:ah):R2:=λx y H Q=>∃(a:Z) (z r:ar) (D:O (ar×ar)),x=.ref a/\y=.str z/\uX K a D/\KTD.datumAt z D=U r/\Q (.str r) H
theorem RP{K:ah}(A:X.K=K):jG X (Zia K):=by
 subst A;intro b c f s B H x y v u Q I n m h w;obtain⟨a,z,r,D,rfl,rfl,t,e,q⟩:=h;obtain⟨k,rfl⟩:=m;obtain rfl:v=Value.ref a:=n;have T:=t.here I.cD;refine tail_any T.typeIs slot_dict_getitem.lookup ?_ w;unfold getItem;try with_reducible refine i2 ?_
 refine bo (Ni T.typeIs QD ?_);refine bo (AX T.typeIs Nq
  (nB Nq T.typeIs entry_dict_getitem ?_ (args_dict_getitem _ _)))
 show wpAny _ _ (dictGet a (.str z k)>>=_) _ _ s;have j:KTD.datumAt z ((CY D).map λp=>(p.1,KTD.Dat.flat p.2))=U (.flat (.str r)):=by rw[zp KTD.Dat.flat,zp PyData.str,e];rfl
 refine bo (KTD.dictGet_text T (λd v i o=>cq ⟨v,rfl,cq ?_⟩) λg=>by rw[j] at g;cases g);rw[j] at i;cases i;cases o s.heap with
 |str x l=>exact⟨.str r,H,I.tok _,⟨l,rfl⟩,q⟩
def qt(h:b_ X.prog X.w X.K X.mg X.base k m C p sp)(g:cK j X.A)(n:k<=j)(i:PE X o d)
  (e:eval (.Call (.Attribute o m apos) [] [] pos) X.env=(do
   let a←eval o X.env
   standAt apos.atName
   let(f,first)←holding [a] (getMethod a m q)
   callWith pos f first (backTo pos (starEach [] X.env)) (backToKw pos (keywordEach [] X.env))):=by rfl):
  PE X (.Call (.Attribute o m apos) [] [] pos) (CQ C m sp [] E0 d jZ):=by
 obtain⟨f,r,c,l,F,b⟩:=h;exact ZeL i c l F (g.mono n) b .nil xH e
def De(K:ah)(b:cm):R2:=λx y H Q=>∃(p q:Z) (a:O V),x=.ref p/\y=.ref q/\aq K H p a/\aq K H q []/\Q (.bl (if b=af then !a.isEmpty else a.isEmpty)) H
theorem KG(h:X.A.units<cLine):cL X (compareOp .Eq) (De X.K a8):=by
 rintro d s w H x y v u Q I m l ⟨p,q,i,rfl,rfl,b,t,k⟩;cases m;cases l;obtain⟨D,c,g,B⟩:=I.list b;obtain⟨C,n,f,A⟩:=I.list t;cases n;have o:=c.length;cases i with
 |nil=>
  cases c;exact WS (e:=λ_=>af) g.isList f.isList rfl h (λj b _=>absurd b QS) (cR I k QS)
 |cons a r=>exact Bc g.isList f.isList (by simp;intro z;subst z;simp at o) h (cR I k QS)
theorem Tx(h:X.A.units<cLine):cL X (compareOp .NotEq) (De X.K af):=by
 rintro d s w H x y v u Q I m l ⟨p,q,i,rfl,rfl,b,t,k⟩;cases m;cases l;obtain⟨D,c,g,B⟩:=I.list b;obtain⟨C,n,f,A⟩:=I.list t;cases n;have o:=c.length;cases i with
 |nil=>
  cases c;exact SeqAt.RcNeAt.lists (e:=λ_=>af) g.isList f.isList rfl h (λj b _=>absurd b QS) _ _ _ _ (cR I k QS)
 |cons a r=>exact SeqAt.RcNeAt.lists_lengths g.isList f.isList (by simp;intro z;subst z;simp at o) h _ _ _ _ (cR I k QS)
def ZcY:dm X (.builtin "len") (λb H Q=>∃p a,b=[.ref p]/\H p=U (.dK a)/\Q (.int (a.length:Int)) H):=by
 rintro c s g H b h Q I r ⟨p,a,rfl,e,q⟩;obtain⟨u,rfl,d⟩:=vals1 r;obtain rfl:u=Value.ref p:=d;exact Zi9 I (.inl e) λt i f=>⟨.int (a.length:Int),H,f,⟨t,rfl⟩,q⟩
def aF.trans(g:aF D H c)(a:aF D c MB):aF D H MB:=λb o e n=>a b o (g b o e n) n
def Out(a:O Z)(H c:Hp):Prop:=∀b o,H b=U o->b∉a->c b=U o
def Out.of(g:ai H H'):Out fp H H':=λb o e _=>g b o e
def Out.trans(g:Out fp H c)(a:Out fp c MB):Out fp H MB:=λb o e n=>a b o (g b o e n) n
def Out.bar(g:aF a H H')(m:a∈fp):Out fp H H':=λb o e n=>g b o e λz=>n (by rwa[z])
def setC(h:u D (σ.set i (U v)) H):z4 (uR (tC v) (qz i)) u D σ H:=h
def bN(h:a σ H λx b=>u D (σ.set i (U x)) b):z4 (uR a (qz i)) u D σ H:=h
def dh(h:H a=U (.dK b))(e:aX b (.inr z)=o):fw H a (.str z) o:=.inl ⟨b,.inr z,.inl h,rfl,e.symm⟩
section
variable {X:Cx}{N R tgt:cM}{xs:O ar}{E:Pos}{P:O cM}{W:Scope}{cl:O (ar×Z)}{fr:O (ar×Nat)}{L:TG}{G:TT}{F:TE}{σ:St}
def Zib(n:Nat)(b:TI)(fr:O (ar×Nat))(L:TG)(G:TT)(F:TE):TE:=λσ H Q=>b σ H λJ a=>∀D,a D=aG->Ku n J L G F (iJ σ fr) D a Q
def Zfe(p:X.calm=af)(a:rF X W cl xs fr)(n:∀C s H fp,PG (c8 X xs fr W cl C s H fp) tgt L)(l:PI X tgt R c)
  (i:∀C s H fp,vB (c8 X xs fr W cl C s H fp) P G)(o:∀C s H fp,PE (c8 X xs fr W cl C s H fp) N F)
  (j:∀x,foldedSetIterable R X.env x=pure x:=by intro _;rfl):PE X (.ListComp N [⟨tgt,R,P,0⟩] W E) (Zib xs.length c fr L G F):=by
 intro b s σ H Q I h;refine sq rfl j a.xO a.kind a.names (aA (l b s σ H _ I h) λv d t=>aA t λvh s2 r=>?_);obtain⟨it,fp,tn,J,H2,e,I2,T,eW,z,g⟩:=r;subst e;refine OK p a n i o I2 T eW z g ?_;intro D C d H1 m I1 k B A y w u q;exact⟨m,k,λh' f=>⟨.ref D,H1,I1.turned (f.extBut) B A (.inr y) w u,rfl,q⟩⟩
end
def ZcZ{K:ah}(d:Nat->O V->Hp->Prop)(z:d 0 [] (upd H D (.lst [])))(u:∀i b H,i<=xs.length->d i b H->aq K H a xs)
  (E:∀i v b H,xs[i]?=U v->d i b H->∀os:St,os.length=n->r v (os++k) H λf A=>(∃h:St,h.length=n/\f=h++k)/\tt f A λc o=>if c=af then s f o λy l=>l D=U (.lst b)/\b.length<sizeLine/\d (i+1) (b++[y]) (upd l D (.lst (b++[y]))) else d (i+1) b o)
  (w:∀b H,d xs.length b H->Q (.ref D) H):Ku n (kK K a) r tt s k D H Q:=by
 refine⟨λi m b H=>m=xs.length-i/\i<=xs.length/\d i b H,⟨xs.length,QS,Yx _,z⟩,?_⟩;rintro i m b H ⟨rfl,j,p⟩;have q:=u i b H j p;by_cases g:i<xs.length
 ·refine .inr ⟨⟨xs,xs[i],q,by simp[g]⟩,d (i+1),λC B t=>⟨xs.length-(i+1),QO,rfl,g,t⟩,λx B y=>?_⟩;obtain⟨e,y⟩:=y
  grind
 ·have e:i=xs.length:=(i_ j (gV g))
  subst e;exact .inl ⟨⟨xs,q,Yd _⟩,w b H p⟩
abbrev tD(c e g d f:cM)(a:Scope)(b:Pos):cM:=.ListComp c [⟨e,g,[],0⟩,⟨d,f,[],0⟩] a b
theorem Zd6(I:Nat->cb->Prop)
  (c:∀n s,I n s->wpAny (model prog w) A (pyNext it) (λr f=>match r with
   |none=>R (.ok .next) f
   |some v=>wpAny (model prog w) A (letOwnedTupleGo g it v) (λ_ o=>wpAny (model prog w) A (assign g env v) (λ_ l=>
     wpAny (model prog w) A (eval elt env) (λx j=>
       wpAny (model prog w) A (call (.builtin "list.append") [acc,x]) (λ_ i=>∃m,m<n/\I m i) (notedBy (model prog w) A env λe a=>R (.error e) a) j) (notedBy (model prog w) A env λe a=>R (.error e) a) l) (notedBy (model prog w) A env λe a=>R (.error e) a) o) (notedBy (model prog w) A env λe a=>R (.error e) a) f) (notedBy (model prog w) A env λe a=>R (.error e) a) s)
  (n:Nat)(h:I n s):codeAny (model prog w) A (.compLoop (tD elt t1 z g y scope pos) 1 it acc env) R s:=by
 refine xm rfl I (λn s u=>ya (bo (kZ (bo (eF (c n s u) (λr f k=>?_) λ_ _ b=>b))))) n h;cases r with
 |none=>exact cq k
 |some v=>
  exact bo (eF k (λ_ o d=>bo (eF d (λ_ l t=>bo (vJ (bo (bo (eF t (λx j q=>bo (eF q (λ_ i p=>cq (cq ⟨rfl,p⟩)) λ_ _ b=>b)) λ_ _ b=>b))))) λ_ _ b=>b)) λ_ _ b=>b)
theorem Zd7(E:∀x,foldedSetIterable g env x=pure x)(I:Nat->cb->Prop)
  (c:∀n s,I n s->wpAny (model prog w) A (pyNext it) (λr i=>match r with
   |none=>R (.ok .next) i
   |some v=>wpAny (model prog w) A (letOwnedTupleGo t1 it v) (λ_ q=>wpAny (model prog w) A (assign t1 env v) (λ_ o=>
     wpAny (model prog w) A (eval g env) (λx p=>wpAny (model prog w) A (pyIter x) (λt k=>
      codeAny (model prog w) A (.compStart (tD elt t1 D B g scope pos) 1 t acc env) (λr j=>match r with|.ok _=>∃m,m<n/\I m j|.error _=>False) k)
      (notedBy (model prog w) A env λe a=>R (.error e) a) p) (notedBy (model prog w) A env λe a=>R (.error e) a) o) (notedBy (model prog w) A env λe a=>R (.error e) a) q) (notedBy (model prog w) A env λe a=>R (.error e) a) i) (notedBy (model prog w) A env λe a=>R (.error e) a) s)
  (n:Nat)(h:I n s):codeAny (model prog w) A (.compLoop (tD elt t1 D B g scope pos) 0 it acc env) R s:=by
 refine xm rfl I (λn s F=>ya (bo (kZ (bo (eF (c n s F) (λr i l=>?_) λ_ _ b=>b))))) n h;cases r with
 |none=>exact cq l
 |some v=>
  refine bo (eF l (λ_ q d=>bo (eF d (λ_ o C=>bo (vJ (bo (eF C (λx p z=>bo (kZ ?_)) λ_ _ b=>b)))) λ_ _ b=>b)) λ_ _ b=>b);rw[E];refine bo (cq (bo (i2 (eF z (λt k y=>bo (wpAny_runOwn (mh y λr j u=>?_))) λ_ _ b=>b))));cases r with
  |error e=>simp_all
  |ok f=>exact cq ⟨rfl,u⟩
theorem Zbv
  (g:codeAny (model prog w) A (.compLoop (tD elt t1 f d e scope pos) 1 it acc env) R s)
  (h:wpAny (model prog w) A (pyIter it) (λc a=>codeAny (model prog w) A (.compLoop (tD elt t1 f d e scope pos) 1 c acc env) R a) (notedBy (model prog w) A env λx a=>R (.error x) a) s):
  codeAny (model prog w) A (.compStart (tD elt t1 f d e scope pos) 1 it acc env) R s:=by
 refine WC (wpAny_notedAt (bo (wpAny_askSetting (wpAny_ite ?_))));split
 ·first
   |exact bo (cq (cq (ra rfl g)))
   |exact cq (ra rfl g)
 ·first
   |exact bo (tV (bo (kZ (bo (eF h (λc a b=>cq (ra rfl b)) λ_ _ x=>x)))))
   |(refine bo (tV ?_);exact bo (kZ (bo (eF h (λc a b=>cq (ra rfl b)) λ_ _ x=>x))))
def KH(n:Nat)(J:It)(E:TG)(C:TI)(B:TG)(A:TE)(h:St)(D:Z)(H:Hp)(Q:VK):Prop:=
 ∃W:Nat->Nat->O V->Hp->Prop,(∃m,W 0 m [] (upd H D (.lst [])))/\∀i m p H,W i m p H->
  (J.stop i H/\Q (.ref D) H)\/(J.go i H/\∃N:O V->Hp->Prop,(∀d a,N d a->∃c,c<m/\W (i+1) c d a)/\
   ∀v a,J.sY i H v a->∀os:St,os.length=n->E v (os++h) a λj I=>(∃s:St,s.length=n/\j=s++h)/\C j I λo G=>
    ∃l:Nat->Nat->O V->St->Hp->Prop,(∃g,l 0 g p j G)/\∀e g b k f,l e g b k f->
     (o.stop e f/\(∃q:St,q.length=n/\k=q++h)/\N b f)\/(o.go e f/\∃u:O V->St->Hp->Prop,(∀d t a,u d t a->∃c,c<g/\l (e+1) c d t a)/\
      ∀r x,o.sY e f r x->B r k x λz F=>A z F λy w=>w D=U (.lst b)/\b.length<sizeLine/\u (b++[y]) z (upd w D (.lst (b++[y])))))
section
variable {X:Cx}{P L g G B:cM}{xs:O ar}{F:Pos}{R:Scope}{cl:O (ar×Z)}{fr:O (ar×Nat)}{A t:TG}{l:TI}{w:TE}{σ:St}
def Zc0{H2:Hp}{s2:cb}{it:Z}{f:O Z}{tn:Nat->cO->Prop}{J:It}{Q:VK}{RR:a7->Z->Result->cb->Prop}{E:bg}
  (hc:X.calm=af)(a:rF X R cl xs fr)(hg:∀C s H f,PG (c8 X xs fr R cl C s H f) L A)(oq:∀C s H f,PI (c8 X xs fr R cl C s H f) G B l)(MD:∀C s H f,PG (c8 X xs fr R cl C s H f) G t)(he:∀C s H f,PE (c8 X xs fr R cl C s H f) P w)
  (s_:∀C x,foldedSetIterable B (compEnvC R cl C X.env) x=pure x)
  (I2:Inv X pins σ H2 s2)(T:Turn X.prog X.w X.K L J f it tn)(eW:tn 0 s2.heap)(f2:∀b∈f,jA X pins H2 b)
  (hw:∀D,H2 D=aG->KH xs.length J A l t w (iJ σ fr) D H2 Q)
  (hR:∀D C s1 H1 m,Inv X pins σ H1 s1->s1.heap.Ns C m->H1 C=aG->C≠X.env.locals->X.di.heap.objs.size<=C->(∀y c,X.env.cells.lookup y=U c->c≠C)->(∀p∈X.pn++pins,p.1≠C)->Q (.ref D) H1->RR (.ref D) C (.ok .next) s1):
  wpAny X.md X.A (newList []) (λacc eU=>wpAny X.md X.A (newFunctionEnv R X.env.globals cl [] X.env.qual aG .none (U X.env)) (λnZ jC=>
   codeAny X.md X.A (.compStart (tD P L g G B R F) 0 (.ref it) acc {nZ with scope:=relabel R X.env}) (RR acc nZ.locals) jC) E eU) E s2:=by
 refine Qg (tgt:=L) a I2 T eW f2 hR λD C s I eU hD e3 I4 yg yc fin=>?_;obtain⟨W,⟨m0,w0⟩,turn⟩:=hw D hD;rw[←e3] at w0;refine Zd7 (s_ _) (λk s'=>∃i ys H' os,os.length=xs.length/\Inv (c8 X xs fr R cl C s I f) [] (os++iJ σ fr) H' s'/\tn i s'.heap/\(∀b∈f,H' b=aG)/\W i k ys H') ?_ m0
  ⟨0,[],_,List.replicate xs.length aG,W4,I4,yg,yc,w0⟩
 rintro n s5 ⟨i,ys,H5,os,qS,I5,qR,vq,w5⟩;have nX:∀{H':Hp},(∀b∈f,H' b=aG)->∀b∈f,jA (c8 X xs fr R cl C s I f) [] H' b:=λ{H'} hn b h=>
  ⟨hn b h,(I5.ok.sW b h).1,I5.ok.sC b h,.inl h,(I5.ok.sW b h).2,λp hp=>absurd (show p∈([]:a9) from hp) QS⟩
 rcases turn i n ys H5 w5 with⟨stop,qn⟩|⟨go,N,hN,step⟩
 ·refine aA (T.done (c8 X xs fr R cl C s I f) rfl rfl rfl hc i [] s5 _ H5 _ I5 (nX vq) qR stop) λr s6 q=>?_;obtain⟨hr,I6⟩:=q;subst hr;exact fin _ _ _ I6 qn
 ·refine aA (T.item (c8 X xs fr R cl C s I f) rfl rfl rfl hc i [] s5 _ H5 _ I5 (nX vq) qR go) λr s6 q=>?_;obtain⟨u,hr,h6⟩:=q;subst hr;refine aA h6 λ_ s7 q=>?_;obtain⟨v,H7,I7,r7,y7,vC,Mr⟩:=q;have Ms:=I7.pinned (nX Mr) (T.obj _ _ vC);refine eF (hg _ _ _ _ _ s7 _ H7 v u _ Ms r7 (step v H7 y7 os qS)) (λ_ s8 q=>?_) λ _ _=>False.elim;obtain⟨σ8,H8,I8,⟨lI,LK,e8⟩,q8⟩:=q;subst e8;have again:∀{qT:St} {H9:Hp} {s9:cb} {qU:O V},qT.length=xs.length->Inv (c8 X xs fr R cl C s I f) ([]++r6 f s7.heap) (qT++iJ σ fr) H9 s9->N qU H9->
    ∃m,m<n/\∃i ys H' os,os.length=xs.length/\Inv (c8 X xs fr R cl C s I f) [] (os++iJ σ fr) H' s9/\tn i s9.heap/\(∀b∈f,H' b=aG)/\W i m ys H':=λ{qT H9 s9 qU} l1 I9 n9=>by
   obtain⟨m',hm,w9⟩:=hN qU H9 n9;refine⟨m',hm,i+1,qU,H9,qT,l1,I9.xg,T.keep _ _ _ vC λb h o e=>(I9.pin (b,o) (Ys _ (Ys _ (rE h e)))).1,λb h=>?_,w9⟩;obtain⟨o,e,d⟩:=T.obj _ _ vC b h;exact(I9.pin (b,o) (Ys _ (Ys _ (rE h e)))).2.1
  refine eF (oq _ _ _ _ _ s8 _ H8 _ I8 q8) (λx s9 h9=>eF h9 (λvh Mt h10=>?_) λ _ _=>False.elim) λ _ _=>False.elim;obtain⟨D6,ME,AI,J2,qV,qY,Mu,T2,Vw,MF,W2,⟨m2,w2⟩,Zje⟩:=h10;subst qY;have Lh:∀{H':Hp},(∀b∈ME,H' b=aG)->∀b∈ME,jA (c8 X xs fr R cl C s I f) ([]++r6 f s7.heap) H' b:=λhn b h=>⟨hn b h,(MF b h).2⟩;have UN:codeAny X.md X.A (.compLoop (tD P L g G B R F) 1 (.ref D6) (.ref D) (compEnvC R cl C X.env)) (λr nY=>match r with|.ok _=>∃m,m<n/\∃i ys H' os,os.length=xs.length/\Inv (c8 X xs fr R cl C s I f) [] (os++iJ σ fr) H' nY/\tn i nY.heap/\(∀b∈f,H' b=aG)/\W i m ys H'|.error _=>False) Mt:=by
   refine Zd6 (λk s'=>∃j zs aC H',Inv (c8 X xs fr R cl C s I f) ([]++r6 f s7.heap) aC H' s'/\AI j s'.heap/\(∀b∈ME,H' b=aG)/\W2 j k zs aC H') ?_ m2 ⟨0,ys,_,qV,Mu,Vw,λb h=>(MF b h).1,w2⟩;rintro k Mv ⟨j,zs,Zj4,Ay,DZ,Vx,Vy,w11⟩;rcases Zje j k zs Zj4 Ay w11 with⟨stop,⟨yj,Zj5,e3⟩,qn⟩|⟨go,N2,hN2,Zjf⟩
   ·refine aA (T2.done (c8 X xs fr R cl C s I f) rfl rfl rfl hc j _ Mv _ Ay _ DZ (Lh Vy) Vx stop) λr s12 q=>?_;obtain⟨hr,I12⟩:=q;subst hr;subst e3;exact again Zj5 I12 qn
   ·refine aA (T2.item (c8 X xs fr R cl C s I f) rfl rfl rfl hc j _ Mv _ Ay _ DZ (Lh Vy) Vx go) λr s12 q=>?_;obtain⟨u2,hr,D7⟩:=q;subst hr;refine aA D7 λ_ s13 q=>?_;obtain⟨v2,D8,I13,r13,y13,LM,Zj6⟩:=q;have Zj7:=I13.pinned (Lh Zj6) (T2.obj _ _ LM);refine eF (MD _ _ _ _ _ s13 _ D8 v2 u2 _ Zj7 r13 (Zjf v2 D8 y13)) (λ_ s14 q=>?_) λ _ _=>False.elim;obtain⟨Zj8,tE,I14,q14⟩:=q;refine eF (he _ _ _ _ _ s14 _ tE _ I14 q14) (λu1 s15 q=>?_) λ _ _=>False.elim;obtain⟨y,MG,I15,r15,hD,hz,ot⟩:=q;refine eF (zm (X:=c8 X xs fr R cl C s I f) _ s15 _ MG (.ref D) [y] _ [u1] (λ_ H'=>N2 (zs++[y]) Zj8 H') I15 rfl (.cons r15 .nil) ⟨_,zs,y,rfl,rfl,hD,hz,ot⟩) (λ_ s16 q=>?_) λ_ _ z=>False.elim z;obtain⟨_,Xp,MH,_,q16⟩:=q;obtain⟨m',hm,w16⟩:=hN2 _ _ _ q16;refine⟨m',hm,j+1,_,_,Xp,MH.xg,T2.keep _ _ _ LM λb h o e=>(MH.pin (b,o) (Ys _ (Ys _ (rE h e)))).1,λb h=>?_,w16⟩;obtain⟨o,e,d⟩:=T2.obj _ _ LM b h;exact(MH.pin (b,o) (Ys _ (Ys _ (rE h e)))).2.1
  exact Zbv UN (T2.self _ 0 _ _ _ Vw UN)
def Zic(n:Nat)(b:TI)(fr:O (ar×Nat))(A:TG)(l:TI)(t:TG)(w:TE):TE:=λσ H Q=>b σ H λJ a=>∀D,a D=aG->KH n J A l t w (iJ σ fr) D a Q
def Zff(y:X.calm=af)(a:rF X R cl xs fr)(r:∀C s H fp,PG (c8 X xs fr R cl C s H fp) L A)(p:PI X L g c)(i:∀C s H fp,PI (c8 X xs fr R cl C s H fp) G B l)(MD:∀C s H fp,PG (c8 X xs fr R cl C s H fp) G t)
  (u:∀C s H fp,PE (c8 X xs fr R cl C s H fp) P w)(n:∀x,foldedSetIterable g X.env x=pure x:=by intro _;rfl)(d:∀C x,foldedSetIterable B (compEnvC R cl C X.env) x=pure x:=by intro _ _;rfl):
  PE X (.ListComp P [⟨L,g,[],0⟩,⟨G,B,[],0⟩] R F) (Zic xs.length c fr A l t w):=by
 intro b s σ H Q I h;refine sq rfl n a.xO a.kind a.names (aA (p b s σ H _ I h) λv f E=>aA E λvh s2 z=>?_);obtain⟨it,fp,tn,J,H2,e,I2,T,eW,f2,k⟩:=z;subst e;refine Zc0 y a r i MD u d I2 T eW f2 k ?_;intro D C f H1 m I1 o f0 f1 f3 W N q;exact⟨m,o,λh' j=>⟨.ref D,H1,I1.turned (j.extBut) f0 f1 (.inr f3) W N,rfl,q⟩⟩
end
def fX{K:ah}(h:X.K=K)(b:PE X l a):PI X c l (Uq K a):=h▸Rp b
def jt{X:Cx}{K:ah}{b:Pos}{a:O cM}{k:Nat}{t:pB}{n:Nat}(h:X.K=K)(e:X.calm=af)(d:An X a t)
  (c:(assignEach a X.env).length=n:=by rfl)(f:(assignEach a X.env).findIdx? (·.1)=aG:=by rfl):PG X (.Tuple a k b) (Vh K n t):=h▸Zhk e d c f
def Zgt{K:ah}(h:Nat->O V->Hp->Prop)(h0:h 0 [] (upd H D (.lst [])))(hl:∀i c H,i<=xs.length->h i c H->aq K H a xs)
  (hs:∀i v c H,xs[i]?=U v->h i c H->∀os:St,os.length=n->E v (os++F) H λt H2=>(∃W:St,W.length=n/\t=W++F)/\C t H2 λJ2 H3=>∃(b:Z) (f:O V) (g:Nat->O V->St->Hp->Prop),J2=kK K b/\g 0 c t H3/\
   (∀k c d H,k<=f.length->g k c d H->aq K H b f)/\
   (∀k s c d H,f[k]?=U s->g k c d H->oo s d H λAH H6=>te AH H6 λy H7=>H7 D=U (.lst c)/\c.length<sizeLine/\g (k+1) (c++[y]) AH (upd H7 D (.lst (c++[y]))))/\
   ∀c d H,g f.length c d H->(∃N:St,N.length=n/\d=N++F)/\h (i+1) c H)
  (hd:∀c H,h xs.length c H->Q (.ref D) H)(L:∀d H (R o:It->Hp->Prop),(∀J H,R J H->o J H)->C d H R->C d H o)(I:∀v d H (R o:St->Hp->Prop),(∀d H,R d H->o d H)->E v d H R->E v d H o):KH n (kK K a) E C oo te F D H Q:=by
 refine⟨λi m c H=>m=xs.length-i/\i<=xs.length/\h i c H,⟨xs.length,QS,Yx _,h0⟩,?_⟩;rintro i m c H ⟨rfl,hi,p⟩;have q:=hl i c H hi p;by_cases G:i<xs.length
 ·refine .inr ⟨⟨xs,xs[i],q,by simp[G]⟩,h (i+1),λiQ H' B=>⟨xs.length-(i+1),QO,rfl,G,B⟩,λx H' y os qS=>?_⟩;obtain⟨e,y⟩:=y;subst e;refine I _ _ _ _ _ (λt H2 zz=>?_) (hs i x c _ (y xs q) p os qS);obtain⟨h1,h2⟩:=zz;refine⟨h1,L _ _ _ _ (λJ2 H3 h3=>?_) h2⟩;obtain⟨b,f,g,rfl,w0,wl,ws,P⟩:=h3;refine⟨λk T j l r=>T=f.length-k/\k<=f.length/\g k j l r,⟨f.length,QS,Yx _,w0⟩,?_⟩;rintro k T j l r ⟨rfl,X,w⟩;have A:=wl k j l r X w;by_cases z:k<f.length
  ·refine .inr ⟨⟨f,f[k],A,by simp[z]⟩,g (k+1),λiQ aC H' B=>⟨f.length-(k+1),QO,rfl,z,B⟩,λs H5 u=>?_⟩;obtain⟨e2,u⟩:=u;subst e2;exact ws k s j l _ (u f A) w
  ·have e:k=f.length:=(i_ X (gV z))
   subst e;exact .inl ⟨⟨f,A,Yd _⟩,(P j l r w).1,(P j l r w).2⟩
 ·have e:i=xs.length:=(i_ hi (gV G))
  subst e;exact .inl ⟨⟨xs,q,Yd _⟩,hd c H p⟩
section
variable {X:dv}{w:dg}{W:Type}[DecidableEq W]{knd:PySem.KeyKind X w W}{A:fI}{E:bg}{s:cb}
theorem Z0{d:Z}{a:O (W×a7)}{k:W}{f b:a7}{Q:bg}(g:knd.is k f=af)(C:s.heap.DictOf knd d a)
  (t:∀v,valueAt a k=U v->Q v {s with toks:=s.toks+1})
  (r:valueAt a k=aG->∀q,q.DictOf knd d (stored a k b)->Heap.SameBut d s.heap q->Q b {s with heap:=q,toks:=s.toks+1})
  (B:a.length<=sizeLine):wpAny (model X w) A (dictSetDefault d f b) Q E s:=by
 obtain⟨o,c,H,j,G,hd,u,h,J⟩:=C;have D:c.size<=sizeLine:=by
  have L:=h.length
  grind
 have y:∀x,findBy knd.is c x=valueAt a x:=λx=>by
  rw[←h.find x];simp[findBy]
 unfold dictSetDefault;try with_reducible refine i2 ?_
 refine bo (knd.pyHash g (bo (wpAny_dictFind_of g j hd u ?_)));have I:(c.findIdx? λe=>knd.is k e.key)=a.findIdx? λn=>decide (n.1=k):=by
  rw[←h.findIdx k];obtain⟨l⟩:=c;simp
 cases p:c.findIdx? λe=>knd.is k e.key with
 |some i=>
  have m:valueAt a k=(c[i]?).map (·.val):=by rw[←y k,LN,p]
  refine bo (Nm j hd ?_);cases F:c[i]? with
  |none=>
   have:=Array.findIdx?_eq_some_iff_findIdx_eq.mp p
   grind
  |some e=>
   rw[F] at m;exact bo (tV (cq (t e.val m)))
 |none=>
  have m:valueAt a k=aG:=by rw[←y k,LN,p]
  have z:¬(a.any λn=>decide (n.1=k))=af:=by
   grind
  refine bo (tV (bo (DY j hd (cq (r m _ ⟨_,_,H+1,Wu _ j (J6 (sS hd _)),
   G.mapDictKeys _,sS hd _,u.push g _,?_,?_⟩ (Kv ..))))))
  ·rw[stored,bt z];have:=h.append g (knd.hash k) b
   grind
  ·rw[stored,bt z,Yo,W0]
   grind
def Zal(h:knd.is k key=af)(m:(d==sysModules)=a8)(a:a7):
  MeetsIn X w (Builtin.«dict.setdefault» ⟨[.ref d,key,a],[]⟩) (λ_ R s=>∃b,s.heap.DictOf knd d b/\b.length<=sizeLine/\
   (∀v,valueAt b k=U v->R (.ok (.ret v)) {s with toks:=s.toks+1})/\
   (valueAt b k=aG->∀c,c.DictOf knd d (stored b k a)->Heap.SameBut d s.heap c->R (.ok (.ret a)) {s with heap:=c,toks:=s.toks+1})):=
 .of_wp λA R s ⟨b,f,i,o,n⟩=>by
  refine bo (bo (DR f.typeIs (cq ?_)));show wpAny _ _ (if(d==sysModules)=af then _ else(dictSetDefault d key a>>=_)) _ _ s;rw[bt (by rw[m];exact Yh)];exact bo (Z0 h f (λv j=>cq ⟨v,rfl,o v j⟩) (λl c e g=>cq ⟨a,rfl,n l c e g⟩) i)
end
theorem Zfg(I:Inv X pins σ H s)(e:H a=U (.dK b))(p:RelV (kV k) u)(o:RelV z r)(l:b.length<sizeLine)
  (F:∀v h g,aX b k=U v->Inv X pins σ H g->RelV v h->Q h g)(D:∀g,aX b k=aG->Inv X pins σ (upd H a (.dK (putK b k z))) g->Q r g):
  wpAny X.md A (call (.builtin "dict.setdefault") [.ref a,u,r]) Q E s:=by
 obtain⟨G,hd,i,c,n⟩:=nR I.ay e;have t:i.length<=sizeLine:=by rwa[←c.length]
 have f:=c.val k;refine mj Ap n.typeIs PySem.F.entry_dict_setdefault (PySem.F.args_dict_setdefault_3 _ _ _) (Zal (nQ p) hd r) ⟨i,n,t,λv m=>?_,λB J j w=>?_⟩
 ·cases d:aX b k with
  |none=>rw[d,m] at f;cases f
  |some x=>
   rw[d,m] at f;exact F x v _ d (I.tok _) f
 ·have d:aX b k=aG:=by
   cases d:aX b k with
   |none=>rfl
   |some x=>rw[d,B] at f;cases f
  have C:(putK b k z).length<=sizeLine:=by have:=y9 b k z;exact lg this (sm l)
  exact D _ d (uq I (by exact e▸ik) w (let⟨q,_,_,y,_⟩:=j;⟨q,y⟩) (zP C hd (c.put k o) j))
def JC(h f g:TE):TE:=λc H Q=>h c H λx e=>∃a,x=.ref a/\AF e a/\f c e λy i=>g c i λz d=>∃b k,d a=U (.dK b)/\y=kV k/\b.length<sizeLine/\
 (∀v,aX b k=U v->Q v d)/\(aX b k=aG->Ch d a (.dK (b++[(k,z)])) (Q z))
def Zgu(g f:TE):TE:=λc H Q=>g c H λx e=>∃a,x=.ref a/\AF e a/\f c e λy d=>∃b k v,d a=U (.dK b)/\y=kV k/\aX b k=U v/\Ch d a (.dK (iK b k)) (Q v)
def OV(R:PE X o q)(W:PE X e ty)(T:PE X f p)(m:M2 X o "setdefault" apos e f cv):PE X (.Call (.Attribute o "setdefault" apos) [e,f] [] cv) (JC q ty p):=by
 intro b s i H Q I h;refine tq m.base m.f_ m.line oB Ap PySem.F.type_dict_setdefault (aA (R b s i H _ I h) λu B n=>?_);obtain⟨x,H1,l,D,a,ex,d,L⟩:=n;subst ex;obtain rfl:u=Value.ref a:=D;obtain⟨t,r,_⟩:=xE l d;refine⟨t,r,?_⟩;rw[m.trees];refine lW rfl (ou (nA (aA (W b B i H1 _ l L) λiv A ⟨y,H2,I2,C,J⟩=>
  nA (aA (T b A i H2 _ I2 J) λfv s3 ⟨z,H3,I3,j,P,k,ea,ey,N,G,F⟩=>pU ?_))))
 subst ey;refine Zfg I3 ea C j N (λv w' w c g E=>⟨v,H3,g,E,G v c⟩) λw c g=>?_;rw[mH _ c] at g;exact⟨z,_,g,j,(F c).at⟩
def PL(B:PE X o i)(C:PE X e ty)(m:M1 X o "pop" apos e G):PE X (.Call (.Attribute o "pop" apos) [e] [] G) (Zgu i ty):=by
 intro b s c H Q I h;refine tq m.base m.f_ m.line oB slot_dict_pop PySem.F.type_dict_pop (aA (B b s c H _ I h) λu p g=>?_);obtain⟨x,N,f,r,a,E,d,w⟩:=g;subst E;obtain rfl:u=Value.ref a:=r;obtain⟨n,j,_⟩:=xE f d;refine⟨n,j,?_⟩;rw[m.trees];refine lW rfl (ou (nA (aA (C b p c N _ f w) λW T zz=>?_)));obtain⟨y,H2,L,q,z,k,v,F,D,l,t⟩:=zz;refine pU ?_;subst D;exact Zi8 L F q l (.inl rfl) λP R J A=>⟨v,_,J,A,t.at⟩
end L2
namespace L2
open PySem PySem.W PySem.Calls PySem.Spec PyProof.Rows
def fC{c:Type}(n:Nat)(P:c->Prop):KasT c->Prop
 |.ret a=>P a
 |.ask i j k=>i<n/\j<n/\∀b,fC n P (k b)
theorem fC.bind{c d:Type}{n:Nat}{P:c->Prop}{Q:d->Prop}{f:c->KasT d}(e:∀a,P a->fC n Q (f a)):∀{t:KasT c},fC n P t->fC n Q (t.bind f)
 |.ret a,h=>e a h
 |.ask _ _ _,h=>⟨h.1,h.2.1,λb=>fC.bind e (h.2.2 b)⟩
def Good(n:Nat)(p:dt Nat):Prop:=0<n/\p.Perm (List.range n).toArray
def Good.get(g:Good n p)(m:Nat):p.getD m 0<n:=by
 by_cases h:m<p.size
 ·have e:p.getD m 0=p[m]:=by rw[Y9,W1 h];rfl
  rw[e];have:=g.2.mem_iff.mp (UI h);simpa using this
 ·have e:p.getD m 0=0:=by rw[Y9,Xo (gV h)];rfl
  rw[e];exact g.1
def Good.rev(g:Good n p)(i j:Nat):Good n (kas_rev p i j):=⟨g.1,(mirror_perm p i j _).trans g.2⟩
theorem JD(g:Good n p):∀f m,fC n (λ_=>True) (kas_asc p f m)
 |0,_=>trivial
 |f+1,m=>⟨g.get m,g.get (m-1),λb=>by
  cases b with
  |true=>(dsimp only;rw[bS rfl]);exact trivial
  |false=>(dsimp only;rw[bt Yh]);exact JD g f (m+1)⟩
theorem BJ:∀f (p:dt Nat) m q,Good n p->fC n (λr=>Good n r.1) (kas_desc f p m q)
 |0,_,_,_,g=>g
 |f+1,p,m,q,g=>⟨g.get m,g.get (m-1),λb=>by
  cases b with
  |true=>
   split;·exact BJ f _ _ _ (g.rev _ _)
   ·exact BJ f _ _ _ g
  |false=>
   refine⟨g.get (m-1),g.get m,λd=>?_⟩;cases d with
   |true=>(dsimp only;rw[bS rfl]);exact g
   |false=>(dsimp only;rw[bt Yh]);exact BJ f _ _ _ g⟩
def OW(g:Good n p):fC n (λr=>Good n r.2) (kas_tail3 m k p):=by
 refine fC.bind (λa _=>?_) (JD (g.rev 0 m) _ _);exact g.rev 0 m
def Oi(g:Good n p):fC n (λr=>Good n r.2) (kas_descPart m k p):=by
 refine fC.bind (λr a=>?_) (BJ _ p _ _ g);split;·exact OW (Good.rev a _ _)
 ·exact OW a
theorem OX(g:Good n p):fC n (λr=>Good n r.2) (kas_count k p):=by
 refine fC.bind (λm _=>?_) (JD g _ _);split;·exact g
 ·split
  ·refine⟨g.get _,g.get _,λb=>?_⟩;cases b with
   |true=>(dsimp only;rw[bS rfl]);exact g
   |false=>(dsimp only;rw[bt Yh]);exact Oi (g.rev _ _)
  ·exact Oi g
theorem Hn(g:Good n p):∀f l r,fC n (λ_=>True) (kas_place p k f l r)
 |0,_,_=>trivial
 |f+1,l,r=>by
  unfold kas_place;split;·exact trivial
  ·refine⟨g.get _,g.get _,λb=>?_⟩;cases b with
   |true=>(dsimp only;rw[bS rfl]);exact Hn g f _ _
   |false=>(dsimp only;rw[bt Yh]);exact Hn g f _ _
theorem Qu{n:Nat}:∀f (p:dt Nat) k,Good n p->fC n (Good n) (kas_bin f p k)
 |0,_,_,g=>g
 |f+1,p,k,g=>fC.bind (λl _=>Qu f _ _ ⟨g.1,(bubble_perm p k _).trans g.2⟩) (Hn g _ _ _)
def Zd8(h:0<n):fC n (Good n) (kas_sort n):=by
 refine fC.bind (λr a=>?_) (OX ⟨h,vK _⟩);split;·exact Qu _ _ _ a
 ·exact a
def range_getD(vs:O α)(d:α):(List.range vs.length).map (λi=>vs.getD i d)=vs:=by
 refine Ww λi=>?_
 grind
def CC(h:cO)(b:O a7):Prop:=∀v∈b,∃(a:Z) (o:Obj) (n:Nat) (x y:Int) (t u:Tok),v=.ref a/\h.get? a=U o/\o.cls=.type "tuple"/\o.data=.seq #[.int x t,.int y u] n
theorem CC.Xq:∀{b:O a7},CC h b->∃fs:O a7,KatTups h b fs/\fs.length=b.length/\∀v∈fs,∃x t,v=Value.int x t
 |[],_=>⟨[],KatTups.nil,rfl,λ_ h=>by cases h⟩
 |v::b,c=>by
  obtain⟨a,o,n,x,y,t,u,rfl,j,i,g⟩:=c v Yk;obtain⟨fs,e,d,k⟩:=CC.Xq λz f=>c z (Yw _ f);refine⟨.int x t::fs,KatTups.cons j i g rfl e,by rw[Wi,Wi,d],λv c=>?_⟩
  grind
theorem PM:∀{c:O Z} {b:O a7},Vals (c.map V.ref) b->b=c.map Value.ref
 |[],_,.nil=>rfl
 |a::c,u::b,.cons r t=>by
  rw[r,PM t,Ws]
theorem PN:∀a:O Z,Vals (a.map V.ref) (a.map Value.ref)
 |[]=>.nil
 |_::a=>.cons rfl (PN a)
def Run{b:Type}(c:Nat->Nat->cm):KasT b->b
 |.ret a=>a
 |.ask i j k=>Run c (k (c i j))
theorem Run.bind:∀t:KasT α,Run lt (t.bind f)=Run lt (f (Run lt t))
 |.ret _=>rfl
 |.ask i j k=>Run.bind (k (lt i j))
theorem fC.run(b:∀i j (C:cm->cb->Prop),i<n->j<n->C (lt i j) s->cmp i j C s):∀{t:KasT α},fC n P t->G (Run lt t) s->t.kasWp cmp G s
 |.ret _,_,a=>a
 |.ask i j k,h,a=>b i j _ h.1 h.2.1 (fC.run b (h.2.2 _) a)
structure lO(n:Nat)(lt:Nat->Nat->cm):Prop where
 trans:∀i j k,i<n->j<n->k<n->lt i j=af->lt j k=af->lt i k=af
 D_:∀i j,i<n->j<n->i≠j->lt i j=a8->lt j i=af
 Zj_:∀i j,i<n->j<n->lt i j=af->lt j i=a8
def Sd(a:Nat->Nat->cm)(p:dt Nat)(m:Nat):Prop:=∀i j,i<j->j<m->a (p.getD i 0) (p.getD j 0)=af
def Ds(a:Nat->Nat->cm)(p:dt Nat)(m:Nat):Prop:=∀i j,i<j->j<m->a (p.getD j 0) (p.getD i 0)=af
def Good.size(g:Good n p):p.size=n:=by
 have:=g.2.size_eq
 grind
def Good.ne(g:Good n p)(h:i<n)(f:j<n)(b:i≠j):p.getD i 0≠p.getD j 0:=by
 have c:p.toList.Nodup:=by
  have:=(Jy.mp g.2).nodup_iff.mpr (by simpa using VJ);exact this
 have sz:=g.size;have e:∀k (d:k<n),p.getD k 0=p.toList[k]'(by rw[Wt];omega):=λk d=>by
  simp_all
 have a:=W3.mp c;rw[e i h,e j f];intro z;rcases Nat.lt_or_gt_of_ne b with q|q;·exact a _ _ _ _ q z
 ·exact a _ _ _ _ q z.symm
section
variable {n:Nat}{lt:Nat->Nat->cm}
def RQ(L:lO n lt)(g:Good n p)(f:1<=m)(a:Sd lt p m)(h:lt (p.getD (m-1) 0) (p.getD m 0)=af):Sd lt p (m+1):=by
 intro i j b c;by_cases e:j=m
 ·subst e;by_cases d:i=j-1;·rwa[d]
  ·exact L.trans _ _ _ (g.get _) (g.get _) (g.get _) (a i (j-1) QO QO) h
 ·exact a i j b (gb (gc c) e)
def Zgv(L:lO n lt)(g:Good n p)(f:1<=m)(a:Ds lt p m)(h:lt (p.getD m 0) (p.getD (m-1) 0)=af):Ds lt p (m+1):=by
 intro i j b c;by_cases e:j=m
 ·subst e;by_cases d:i=j-1;·rwa[d]
  ·exact L.trans _ _ _ (g.get _) (g.get _) (g.get _) h (a i (j-1) QO QO)
 ·exact a i j b (gb (gc c) e)
theorem Cj(L:lO n lt)(g:Good n p):∀f m,1<=m->m+f<=n->Sd lt p m->Sd lt p (Run lt (kas_asc p f m))/\m<=Run lt (kas_asc p f m)/\Run lt (kas_asc p f m)<=m+f
 |0,m,_,_,h=>⟨h,Yd _,Yd _⟩
 |f+1,m,i,k,h=>by
  have e:Run lt (kas_asc p (f+1) m)=Run lt (if lt (p.getD m 0) (p.getD (m-1) 0)=af then KasT.ret m else kas_asc p f (m+1)):=rfl;rw[e];by_cases c:lt (p.getD m 0) (p.getD (m-1) 0)=af
  ·rw[bS c];exact⟨h,Yd _,by show m<=_;exact uT _ _⟩
  ·rw[bt c];have j:lt (p.getD m 0) (p.getD (m-1) 0)=a8:=by cases z:lt (p.getD m 0) (p.getD (m-1) 0) with|true=>exact absurd z c|false=>rfl
   obtain⟨a,b,d⟩:=Cj L g f (m+1) (lM i) QO (RQ L g i h (L.D_ _ _ (g.get _) (g.get _) (g.ne QO QO QO) j))
   grind
theorem Qv(L:lO n lt)(g:Good n p):∀f m,1<=m->m+f<=n->Ds lt p m->∃h,Run lt (kas_desc f p m 0)=(p,h,0)/\Ds lt p h/\m<=h/\h<=m+f
 |0,m,_,_,ds=>⟨m,rfl,ds,Yd _,Yd _⟩
 |f+1,m,i,l,ds=>by
  have e:Run lt (kas_desc (f+1) p m 0)=Run lt (if lt (p.getD m 0) (p.getD (m-1) 0)=af then(if 0>0 then kas_desc f (kas_rev p (m-(0+1)) m) (m+1) 0 else kas_desc f p (m+1) 0) else KasT.ask (p.getD (m-1) 0) (p.getD m 0) λd=>if d=af then KasT.ret (p,m,0) else kas_desc f p (m+1) (0+1)):=rfl;rw[e];by_cases c:lt (p.getD m 0) (p.getD (m-1) 0)=af
  ·rw[bS c,bt (by decide)];obtain⟨h,a,b,d,o⟩:=Qv L g f (m+1) (lM i) QO (Zgv L g i ds c)
   grind
  ·rw[bt c];have k:lt (p.getD m 0) (p.getD (m-1) 0)=a8:=by cases z:lt (p.getD m 0) (p.getD (m-1) 0) with|true=>exact absurd z c|false=>rfl
   have j:Run lt (KasT.ask (p.getD (m-1) 0) (p.getD m 0) λd=>if d=af then KasT.ret (p,m,0) else kas_desc f p (m+1) (0+1))=Run lt (if lt (p.getD (m-1) 0) (p.getD m 0)=af then KasT.ret (p,m,0) else kas_desc f p (m+1) (0+1)):=rfl;rw[j,bS (L.D_ _ _ (g.get m) (g.get (m-1)) (g.ne QO QO QO) k)];exact⟨m,rfl,ds,Yd _,(uT _ _)⟩
def RS(a:m<=p.size)(b:i<m):(kas_rev p 0 m).getD i 0=p.getD (m-1-i) 0:=by
 unfold kas_rev;rw[Y9,getElem?_mirror_all a,z6 ⟨Yx _,b⟩,←Y9]
 congr 1
 omega
def Zd9(L:lO n lt)(g:Good n p)(l:1<=m)(k:m<=n)(o:Ds lt p m):Good n (Run lt (kas_tail3 m n p)).2/\Sd lt (Run lt (kas_tail3 m n p)).2 (Run lt (kas_tail3 m n p)).1/\m<=(Run lt (kas_tail3 m n p)).1/\(Run lt (kas_tail3 m n p)).1<=n:=by
 have f:Sd lt (kas_rev p 0 m) m:=λi j h d=>by
  rw[RS (by rwa[g.size]) (n7 h d),RS (by rwa[g.size]) d];exact o _ _ QO QO
 have e:Run lt (kas_tail3 m n p)=(Run lt (kas_asc (kas_rev p 0 m) (n-m) m),kas_rev p 0 m):=by
  unfold kas_tail3;rw[Run.bind];rfl
 obtain⟨a,b,c⟩:=Cj L (g.rev 0 m) (n-m) m l (jn (zi k)) f;rw[e];exact⟨g.rev 0 m,a,b,QO⟩
def Zd_(L:lO n lt)(g:Good n p):Good n (Run lt (kas_count n p)).2/\Sd lt (Run lt (kas_count n p)).2 (Run lt (kas_count n p)).1/\1<=(Run lt (kas_count n p)).1/\(Run lt (kas_count n p)).1<=n:=by
 have t:=g.1;obtain⟨f,h,D⟩:=Cj L g (n-1) 1 (Yd _) QO (λi j o v=>QO);have e:Run lt (kas_count n p)=Run lt (if(Run lt (kas_asc p (n-1) 1)==n)=af then KasT.ret (Run lt (kas_asc p (n-1) 1),p) else if Run lt (kas_asc p (n-1) 1)>1 then KasT.ask (p.getD 0 0) (p.getD (Run lt (kas_asc p (n-1) 1)-1) 0) λc=>if c=af then KasT.ret (Run lt (kas_asc p (n-1) 1),p) else kas_descPart (Run lt (kas_asc p (n-1) 1)) n (kas_rev p 0 (Run lt (kas_asc p (n-1) 1))) else kas_descPart (Run lt (kas_asc p (n-1) 1)) n p):=by
  unfold kas_count;rw[Run.bind]
 rw[e];generalize k:Run lt (kas_asc p (n-1) 1)=r at f h D;by_cases s:(r==n)=af
 ·rw[bS s];exact⟨g,f,h,by show r<=n;omega⟩
 ·rw[bt s];have B:r≠n:=λz=>s (beq_iff_eq.mpr z);by_cases l:r>1
  ·rw[bS l];have G:Run lt (KasT.ask (p.getD 0 0) (p.getD (r-1) 0) λc=>if c=af then KasT.ret (r,p) else kas_descPart r n (kas_rev p 0 r))=Run lt (if lt (p.getD 0 0) (p.getD (r-1) 0)=af then KasT.ret (r,p) else kas_descPart r n (kas_rev p 0 r)):=rfl;rw[G,bS (f 0 (r-1) (Nat.sub_pos_of_lt l) QO)];exact⟨g,f,h,by show r<=n;omega⟩
  ·rw[bt l];have C:r=1:=(i_ (gV l) h)
   subst C;have hd:lt (p.getD 1 0) (p.getD 0 0)=af:=by
    have:n-1=(n-2)+1:=QO
    rw[this] at k;have F:Run lt (kas_asc p (n-2+1) 1)=Run lt (if lt (p.getD 1 0) (p.getD (1-1) 0)=af then KasT.ret 1 else kas_asc p (n-2) (1+1)):=rfl;rw[F] at k;by_cases c:lt (p.getD 1 0) (p.getD (1-1) 0)=af;·exact c
    ·rw[bt c] at k;have H:lt (p.getD 1 0) (p.getD (1-1) 0)=a8:=by cases z:lt (p.getD 1 0) (p.getD (1-1) 0) with|true=>exact absurd z c|false=>rfl
     have I:=RQ L g (Yd _) (λi j o v=>QO) (L.D_ _ _ (g.get _) (g.get _) (g.ne (gb (mR t) B) t (by decide)) H);obtain⟨_,b,_⟩:=Cj L g (n-2) 2 (by decide) QO I;rw[show 1+1=2 from rfl] at k;omega
   have q:Ds lt p 2:=λi j o v=>by
    obtain rfl:j=1:=QO
    obtain rfl:i=0:=(i_ (gc o) (Nat.zero_le _))
    exact hd
   obtain⟨u,a,b,c,d⟩:=Qv L g (n-(1+1)) (1+1) (by decide) QO q;have E:Run lt (kas_descPart 1 n p)=Run lt (kas_tail3 u n p):=by
    unfold kas_descPart;rw[Run.bind,a];dsimp only;rw[bt (by decide)]
   rw[E];obtain⟨A,y,x,w⟩:=Zd9 L g (m:=u) (Xu c) QO b;exact⟨A,y,(Xu (eL c x)),w⟩
theorem RT(L:lO n lt)(g:Good n p)(a:Sd lt p n):∀f m,1<=m->m+f<=n->Run lt (kas_asc p f m)=m+f
 |0,_,_,_=>rfl
 |f+1,m,b,c=>by
  have e:Run lt (kas_asc p (f+1) m)=Run lt (if lt (p.getD m 0) (p.getD (m-1) 0)=af then KasT.ret m else kas_asc p f (m+1)):=rfl;rw[e,bt (by rw[L.Zj_ _ _ (g.get _) (g.get _) (a (m-1) m QO QO)];exact Yh),RT L g a f (m+1) (lM b) QO];exact Nat.add_right_comm _ _ _
def Zea(L:lO n lt)(g:Good n p)(a:Sd lt p n):Run lt (kas_count n p)=(n,p):=by
 have b:=g.1;unfold kas_count;rw[Run.bind,(RT L g a (n-1) 1 (Yd _) QO),bS (beq_iff_eq.mpr (zi (mR b)))];show(1+(n-1),p)=(n,p)
 grind
theorem Iw(L:lO n lt)(g:Good n p)(u:k<n)(j:Sd lt p k):∀f l r,l<=r->r<=k->r-l<=f->(∀i,i<l->lt (p.getD i 0) (p.getD k 0)=af)->(∀i,r<=i->i<k->lt (p.getD k 0) (p.getD i 0)=af)->
  Run lt (kas_place p k f l r)<=k/\(∀i,i<Run lt (kas_place p k f l r)->lt (p.getD i 0) (p.getD k 0)=af)/\∀i,Run lt (kas_place p k f l r)<=i->i<k->lt (p.getD k 0) (p.getD i 0)=af
 |0,l,r,v,a,x,q,o=>⟨by show l<=k;exact eL v a,q,λi (b:l<=i) h=>o i QO h⟩
 |f+1,l,r,v,a,x,q,o=>by
  rw[kas_place];by_cases c:l≥r
  ·rw[bS c];exact⟨by show l<=k;exact eL v a,q,λi (b:l<=i) h=>o i (eL c b) h⟩
  ·rw[bt c];have w:l<=(l+r)/2:=QO
   have d:(l+r)/2<r:=QO
   generalize(l+r)/2=m at w d;have y:Run lt (KasT.ask (p.getD k 0) (p.getD m 0) λc=>if c=af then kas_place p k f l m else kas_place p k f (m+1) r)=Run lt (if lt (p.getD k 0) (p.getD m 0)=af then kas_place p k f l m else kas_place p k f (m+1) r):=rfl;rw[y];by_cases s:lt (p.getD k 0) (p.getD m 0)=af
   ·rw[bS s];refine Iw L g u j f l m w (r0 (hT d a)) QO q λi b h=>?_;by_cases e:i=m;·rwa[e]
    ·exact L.trans _ _ _ (g.get _) (g.get _) (g.get _) s (j m i (gb b (Ne.symm e)) h)
   ·rw[bt s];have A:lt (p.getD k 0) (p.getD m 0)=a8:=by cases z:lt (p.getD k 0) (p.getD m 0) with|true=>exact absurd z s|false=>rfl
    have t:=L.D_ _ _ (g.get k) (g.get m) (g.ne u (pq (pq d a) (uY u)) (Nat.ne_of_gt (hT d a))) A;refine Iw L g u j f (m+1) r (mR d) a QO (λi b=>?_) o;by_cases e:i=m;·rwa[e]
    ·exact L.trans _ _ _ (g.get _) (g.get _) (g.get _) (j i m (gb (gc b) e) (hT d a)) t
theorem RU(L:lO n lt):∀f (p:dt Nat) k,Good n p->k+f=n->Sd lt p k->Good n (Run lt (kas_bin f p k))/\Sd lt (Run lt (kas_bin f p k)) n
 |0,p,k,g,e,d=>by
  have A:k=n:=e
  refine⟨g,?_⟩;rw[←A];exact d
 |f+1,p,k,g,e,d=>by
  have v:k<n:=QO
  obtain⟨a,b,c⟩:=Iw L g v d k 0 k (Yx _) (Yd _) (m6 _) (λi w=>absurd w (Wn _)) (λi D C=>QO);have y:Run lt (kas_bin (f+1) p k)=Run lt (kas_bin f (bubble p k (k-Run lt (kas_place p k k 0 k))) (k+1)):=by
   rw[kas_bin,Run.bind]
  rw[y];generalize Run lt (kas_place p k k 0 k)=l at a b c;have x:Good n (bubble p k (k-l)):=⟨g.1,(bubble_perm p k _).trans g.2⟩;have sz:=g.size;have get:∀i,(bubble p k (k-l)).getD i 0=if i=l then p.getD k 0 else if l<i/\i<=k then p.getD (i-1) 0 else p.getD i 0:=λi=>by
   have h:=getElem?_bubble (xs:=p) (src:=k) QO (k-l) (Nat.sub_le _ _) i;rw[show k-(k-l)=l by omega] at h;rw[Y9,h];by_cases z:i=l;·rw[bS z,bS z,←Y9]
   ·rw[bt z,bt z];by_cases m:l<i/\i<=k;·rw[bS m,bS m,←Y9]
    ·rw[bt m,bt m,←Y9]
  refine RU L f _ (k+1) x QO λi j t B=>?_;rw[get i,get j];by_cases s:i=l
  ·rw[bS s,bt QO,bS QO];exact c (j-1) QO QO
  ·rw[bt s];by_cases r:l<i/\i<=k
   ·rw[bS r,bt QO,bS QO];exact d (i-1) (j-1) QO QO
   ·rw[bt r];have u:i<l:=QO
    by_cases q:j=l;·rw[bS q];exact b i u
    ·rw[bt q];by_cases o:l<j/\j<=k
     ·rw[bS o];exact d i (j-1) QO QO
     ·rw[bt o];exact d i j t QO
def Zfh(L:lO n lt)(h:0<n):Good n (Run lt (kas_sort n))/\Sd lt (Run lt (kas_sort n)) n:=by
 obtain⟨a,b,c,d⟩:=Zd_ L ⟨h,vK _⟩;have e:Run lt (kas_sort n)=Run lt (if(Run lt (kas_count n (List.toArray (List.range n)))).1<n then kas_bin (n-max (Run lt (kas_count n (List.toArray (List.range n)))).1 1) (Run lt (kas_count n (List.toArray (List.range n)))).2 (max (Run lt (kas_count n (List.toArray (List.range n)))).1 1) else KasT.ret (Run lt (kas_count n (List.toArray (List.range n)))).2):=by
  unfold kas_sort;rw[Run.bind]
 rw[e];generalize Run lt (kas_count n (List.toArray (List.range n)))=r at a b c d;have f:max r.1 1=r.1:=QO
 by_cases z:r.1<n
 ·rw[bS z,f];exact RU L _ _ _ a (zi d) b
 ·rw[bt z];have:r.1=n:=(i_ d (gV z))
  refine⟨a,?_⟩;rw[this] at b;exact b
end
def jX(p q:Int×Int):Prop:=p.1<q.1\/(p.1=q.1/\p.2<q.2)
def ltB(p q:Int×Int):cm:=if p.1=q.1 then decide (p.2<q.2) else decide (p.1<q.1)
def ltB_iff:ltB p q=af↔jX p q:=by
 unfold ltB jX
 (split<;>simp_all)
def lQ(a:O (Int×Int))(i j:Nat):cm:=ltB (a.getD i (0,0)) (a.getD j (0,0))
theorem Zie(d:c.Nodup):lO c.length (lQ c):=by
 have n:∀{p q:Int×Int},ltB p q=a8->¬jX p q:=λ{p q} h z=>by rw[ltB_iff.mpr z] at h;cases h
 refine⟨λi j k _ _ _ m l=>?_,λi j g f ne h=>?_,λi j _ _ h=>?_⟩
 ·have a:=ltB_iff.mp m;have b:=ltB_iff.mp l;refine ltB_iff.mpr ?_;unfold jX at*;omega
 ·refine ltB_iff.mpr ?_;have a:=n h;have e:c.getD i (0,0)≠c.getD j (0,0):=by
   rw[Yi,Yi,Yc g,Yc f];have o:=W3.mp d
   grind
  have r:¬((c.getD i (0,0)).1=(c.getD j (0,0)).1/\(c.getD i (0,0)).2=(c.getD j (0,0)).2):=λz=>e (Prod.ext z.1 z.2);unfold jX at*;omega
 ·cases z:lQ c j i with
  |false=>rfl
  |true=>
   have a:=ltB_iff.mp h;have b:=ltB_iff.mp z;unfold jX at a b;omega
def uH(h:cO)(b:O a7)(c:O (Int×Int)):Prop:=Paired (λv (p:Int×Int)=>∃(a:Z) (o:Obj) (n:Nat) (t u:Tok),v=.ref a/\h.get? a=U o/\o.cls=.type "tuple"/\o.data=.seq #[.int p.1 t,.int p.2 u] n) b c
theorem uH.iN(q:uH h vs b):CC h vs:=by
 intro v a;induction q with
 |nil=>cases a
 |cons f _ c=>grind
def GN{c a:Type}{F:c->a->Prop}{d:O c}{g:O a}(h:Paired F d g){i:Nat}(j:i<d.length)(x:c)(y:a):F (d.getD i x) (g.getD i y):=by
 obtain⟨b,e,f⟩:=fU h (Yc j)
 simp_all
section
variable {X:dv}{w:dg}{A:fI}{E:bg}{s:cb}
def Zfi(f:uH s.heap d e)(x:i<d.length)(v:j<d.length)(b:C (lQ e i j) s):kas_ask X w A (tuples' af) d i j C s:=by
 unfold kas_ask;obtain⟨a,o,n,t,u,B,y,I,g⟩:=GN f x Value.none (0,0);obtain⟨J,F,G,m,l,k,r,H,h⟩:=GN f v Value.none (0,0);unfold lQ at b;rw[B,k];generalize e.getD i (0,0)=p at b g;generalize e.getD j (0,0)=q at b h;refine kat_lt y g r h ?_;unfold ltB at b;refine kat_cons (tc p.1 t q.1 m X w _ _ (kat_go (λc=>kat_yes (kat_cons (tc p.2 u q.2 l X w _ _ (kat_go (λD=>kat_yes (kat_nil ?_)) λD=>kat_no ?_)))) λc=>kat_no ?_));·simp_all
 ·rw[bS (beq_iff_eq.mp c)] at b;exact kat_one _ _ (lt_int b)
 ·rw[bt (λz=>by rw[beq_iff_eq.mpr z] at c;cases c)] at b;exact kat_lt_int b
def Zif
  (k:∀c:SortSt,arrOf c=(List.toArray (List.range 64)).map (kas_item it)->failedOf c=aG->Q () c s)
  (h:(kas_count 64 (List.toArray (List.range 64))).kasWp (kas_cmp X w A a it) (λr d=>r=(64,List.toArray (List.range 64))/\d=s) s):kasC (model X w) A E sortRuns' Q (kas_st a it (List.toArray (List.range 64))) s:=by
 have g:(List.toArray (List.range 64)).size=64:=rfl;have b:(arrOf (kas_st a it (List.toArray (List.range 64)))).size=64:=(Xr (f:=kas_item it)).trans g;have i:minRun' 64 64 0=32:=QK
 rw[sortRuns'_eq];refine kasC_bind (kasC_get ?_);(try dsimp only);simp only[b,i];refine kasC_bind (kasC_range ?_);show kasC _ _ _ (forIn (0::1::List.range' 2 62) _ _) _ _ _;refine kasC_cons ?_;(try dsimp only);rw[bt (show ¬(0:Nat)≥64 by decide)];simp only[Nat.sub_zero];refine kasC_bind (kas_count_ (show 1<=64 by decide) (Ml g.symm) (λm l d _ _ _ j=>?_) h);obtain⟨e,rfl⟩:=j;cases e;(try dsimp only);rw[bt (show ¬(64:Nat)<32 by decide)];refine kasC_bind (kasC_get ?_);rw[show(pendingOf (kas_st a it (List.toArray (List.range 64)))).back?=aG from rfl];(try dsimp only);refine kasC_bind (kasC_modify (kasC_pure ?_));show kasC _ _ _ (forIn (1::List.range' 2 62) _ _) _ _ _;refine kasC_cons ?_;(try dsimp only);rw[bS (show(0:Nat)+64≥64 by decide)];refine kasC_pure ?_;(try dsimp only);refine kasC_bind (kasC_range ?_);show kasC _ _ _ (forIn (0::1::List.range' 2 62) _ _) _ _ _;refine kasC_cons ?_;refine kasC_bind (kasC_get ?_);(try dsimp only);rw[bS (show(pendingOf (setPending (kas_st a it (List.toArray (List.range 64))) ((pendingOf (kas_st a it (List.toArray (List.range 64)))).push (0,64,0)))).size<=1 from Yd 1)];refine kasC_pure ?_;(try dsimp only);exact kasC_pure (k _ rfl rfl)
def Za6{R:dt Nat->Prop}{a:Z}{vs:O a7}{n:Nat}{P:PySem.Fin->cb->Prop}(m:s.heap.get? a=U (seqObj "list" vs.toArray n))(iR:vs.length<=64)
  (J:2<=vs.length->∀j:cO,(∀b o,b≠a->s.heap.get? b=U o->j.get? b=U o)->∃t:SortKind,(∀(Q:SortKind->cb->Prop),Q t {s with heap:=j}->wpAny (model X w) A (keyKind' vs.toArray) Q E {s with heap:=j})/\
   ∀D:SortSt->cb->Prop,(∀(p:dt Nat) (d:SortSt),p.size=vs.length->arrOf d=p.map (kas_item (vs.toArray.zip vs.toArray))->failedOf d=aG->Good vs.length p->R p->D d {s with heap:=j})->wpAny (model X w) A (sortRuns'.run (SortSt.mk' t (vs.toArray.zip vs.toArray) #[] 7 aG)) (λr l=>D r.2 l) E {s with heap:=j})
  (h:∀out:O a7,out.Perm vs->(2<=vs.length->∃p:dt Nat,Good vs.length p/\R p/\out=p.toList.map λi=>vs.getD i Value.none)->P (.done (.ret .none)) {s with heap:=sortedHeap s.heap a vs out.toArray}):
  wpAny (model X w) A (Builtin.«list.sort» ⟨[.ref a],[]⟩) P E s:=by
 rw[list_sort_plain];have y:a<s.heap.objs.size:=Yr m;refine bo (listItems_at m rfl ?_);refine bo (listUpdate_at m rfl ?_);obtain⟨k,x⟩:∃k,(s.heap.update a (Obj.mapSeq λ_=>#[])).get? a=U (seqObj "list" #[] k):=⟨_,get?_update_seq m (λ_=>#[])⟩;refine bo (seqEpoch_at x rfl ?_);refine bo (wpAny_newTuple ?_);refine bo (tT ?_);refine i2 ?_;have q:(((s.heap.update a (Obj.mapSeq λ_=>#[])).push (seqObj "tuple" vs.toArray 0)).push (seqObj "list" #[] 0)).get? a=U (seqObj "list" #[] k):=by
  rw[Jf _ _ _ (by rw[size_push',V8];exact Yy (Wv y)),Jf _ _ _ (by rw[V8];exact Yy y)];exact x
 have keep:∀b o,b≠a->s.heap.get? b=U o->(((s.heap.update a (Obj.mapSeq λ_=>#[])).push (seqObj "tuple" vs.toArray 0)).push (seqObj "list" #[] 0)).get? b=U o:=λb o F e=>
  Yb _ (Yb _ (by rw[Xg _ _ _ _ F];exact e))
 dsimp only;have I:vs.toArray.size=vs.length:=QS
 by_cases f:vs.toArray.size<2
 ·rw[bS f,bS f];refine bo (cq ?_);rw[StateT.run_pure];refine bo (cq ?_);dsimp only;refine bo (seqEpoch_at q rfl ?_);refine bo (listUpdate_at q rfl ?_ (hsz2:=by rw[Xr];show(pairsOf vs).size<=_;rw[pairsOf_size,dU];exact lg iR (by decide)));simp only[vD,MW,yF];have e:(arrOf (SortSt.mk' general' (vs.toArray.zip vs.toArray) #[] 7 aG)).map (·.2)=vs.toArray:=by
   grind
  have:=h vs (qh _) (λz=>QO);rw[←e] at this;exact cq this
 ·rw[bt f,bt f];have G:2<=vs.length:=(gV f)
  obtain⟨t,H,v⟩:=J G _ keep;refine bo (H _ ?_);refine bo (eF (v (λd l=>l={s with heap:=((s.heap.update a (Obj.mapSeq λ_=>#[])).push (seqObj "tuple" vs.toArray 0)).push (seqObj "list" #[] 0)}/\∃p:dt Nat,p.size=vs.length/\arrOf d=p.map (kas_item (vs.toArray.zip vs.toArray))/\failedOf d=aG/\R p/\Good vs.length p) λp d a1 a2 a3 W T=>⟨rfl,p,a1,a2,a3,T,W⟩) ?_ λ_ _ e=>e);rintro⟨⟨⟩,d⟩ l ⟨rfl,p,hp,u,L,N,g⟩;dsimp only;have C:=kat_snds rfl u;have c:(p.toList.map λi=>vs.getD i Value.none).Perm vs:=by
   have k:p.toList.Perm (List.range vs.length):=by
    have:=Jy.mp g.2;simpa using this
   have B:=k.map λi=>vs.getD i Value.none;rw[range_getD] at B;exact B
  refine bo (seqEpoch_at q rfl ?_);refine bo (listUpdate_at q rfl ?_ (hsz2:=by rw[C,Yv,c.length_eq,dU];exact lg iR (by decide)));rw[L];simp[vD,MW,yF];have:=h _ c (λ_=>⟨p,g,N,rfl⟩);rw[←C] at this;exact cq this
def Zfj(h:b.Pairwise jX):Sd (lQ b) (List.toArray (List.range b.length)) b.length:=λi j c a=>by
 have e:∀k,k<b.length->(List.toArray (List.range b.length)).getD k 0=k:=λk d=>by
  simp_all
 rw[e i (n7 c a),e j a];refine ltB_iff.mpr ?_;rw[Yi,Yi,Yc (n7 c a),Yc a];exact W3.mp h i j (n7 c a) a c
def Zji{m:SortSt->cb->Prop}(y:c.length=64)(u:c.length=f.length)(L:lO c.length (lQ f))(t:f.Pairwise jX)(g:∀i j (C:cm->cb->Prop),i<c.length->j<c.length->C (lQ f i j) s->kas_ask X w A h c i j C s)
  (x:∀(p:dt Nat) (d:SortSt),p.size=c.length->arrOf d=p.map (kas_item (c.toArray.zip c.toArray))->failedOf d=aG->Good c.length p->Sd (lQ f) p c.length->m d s):wpAny (model X w) A (sortRuns'.run (SortSt.mk' h (c.toArray.zip c.toArray) #[] 7 aG)) (λr e=>m r.2 e) E s:=by
 have l:Good c.length (List.toArray (List.range c.length)):=⟨QO,vK _⟩;have q:Sd (lQ f) (List.toArray (List.range c.length)) c.length:=by rw[u];exact Zfj t
 rw[kat_ask_eq rfl] at g;have k:(c.toArray.zip c.toArray).size=c.length:=QS
 have v:SortSt.mk' h (c.toArray.zip c.toArray) #[] 7 aG=kas_st h (c.toArray.zip c.toArray) (List.toArray (List.range c.length)):=by
  unfold kas_st;rw[←k,kas_range]
 rw[v];have n:=fC.run (G:=λr e=>r=(c.length,List.toArray (List.range c.length))/\e=s) g (OX l) ⟨(Zea L l q),rfl⟩;have o:=λd a b=>x _ d QS a b l q;rw[y] at n o⊢;exact Zif (Q:=λ_ d e=>m d e) o n
def Zbw(ho:s.heap.get? l=U o)(hc:o.cls=.type "list")(hd:o.data=.seq ak.toArray n)(N:uH s.heap ak ps)(nd:ps.Nodup)(iR:ak.length<64\/(ak.length=64/\ps.Pairwise jX))(q:ak.toArray.size<=sizeLine)
  (h:∀(d c:cO) (out:O a7) (e:Nat),(∀b o,s.heap.get? b=U o->d.get? b=U o)->(∀b o,d.get? b=U o->c.get? b=U o)->c.get? d.objs.size=U (seqObj "list" out.toArray e)->out.Perm ak->(2<=ak.length->∃p:dt Nat,Good ak.length p/\Sd (lQ ps) p ak.length/\out=p.toList.map λi=>ak.getD i Value.none)->Q (.ref d.objs.size) {s with heap:=c}):
  wpAny (model X w) A (call (.builtin "sorted") [.ref l]) Q E s:=by
 refine vi kind_sorted plain_sorted entry_sorted (args_sorted1 _) ?_;unfold Builtin.«sorted»;refine bo (m:=checkCount "sorted" 1 1 _) (cq ?_);refine bo (Nn l (.inl rfl) ho hc hd (λd H=>?_) q);refine bo (tT ?_);have e1:ak.toArray.toList=ak:=QS
 rw[e1];have f:(d.push (seqObj "list" ak.toArray 0)).get? d.objs.size=U (seqObj "list" ak.toArray 0):=Yp _ rfl;refine bo (i2 (nB slot_list_sort ⟨_,f,rfl⟩ entry_list_sort (Za6 (R:=λp=>Sd (lQ ps) p ak.length) f QO (λr c k=>?_) λout pm eo=>⟨_,rfl,?_⟩) (args_list_sort _)))
 ·have z:uH c ak ps:=L2.Paired.bI N λv p ⟨a,o,n,t,u,e,q1,W,P⟩=>by
   have J:=H _ _ q1;exact⟨a,o,n,t,u,e,k _ _ (Yy (Yr J)) (Yb _ J),W,P⟩
  obtain⟨fs,k1,k2,k3⟩:=z.iN.Xq;have F:=de z;have ask:∀(B:fI) i j (C:cm->cb->Prop),i<ak.length->j<ak.length->C (lQ ps i j) {s with heap:=c}->kas_ask X w B (tuples' af) ak i j C {s with heap:=c}:=λB i j C hi hj hC=>Zfi (s:={s with heap:=c}) z hi hj hC;have L:=Zie nd;rw[←F] at L;refine⟨tuples' af,λQ hQ=>?_,λQ' MK=>?_⟩
  rotate_left
  ·rcases iR with lt|⟨MJ,pw⟩
   ·obtain⟨g,sd⟩:=Zfh L (hT (rz _) r);refine kat_run (G:=λp D=>D={s with heap:=c}/\p=Run (lQ ps) (kas_sort ak.length)) rfl r lt (λp aO D a1 a2 a3 a4=>?_) (fC.run (ask _) (Zd8 (hT (rz _) r)) ⟨rfl,rfl⟩)
    grind
   ·exact Zji MJ F L pw (ask _) MK
  refine kat_kind (T:=.type "int") k1 QO (λv hv=>?_) QD hQ;obtain⟨x,t,rfl⟩:=k3 v hv;exact .now
 ·obtain⟨e,he⟩:=sortedHeap_at f;exact cq ⟨_,rfl,h d _ out e H (λb ob I=>by
   have y:=Yr I;rw[sortedHeap_old (Yy y) (by rw[size_push'];exact Wv y),Jf _ _ _ (Yy y)];exact I) he pm eo⟩
end
def Zfk(K:ah):O V->Hp->VK->Prop:=λd H Q=>∃(p:Z) (b:O Z) (bK:O (Int×Int)),d=[.ref p]/\aq K H p (b.map V.ref)/\Paired (λa (p:Int×Int)=>H a=U (.tup [.int p.1,.int p.2])) b bK/\bK.Nodup/\(b.length<64\/(b.length=64/\bK.Pairwise jX))/\
 ∀(c:O Z) (lE:O (Int×Int)),Paired (λa (p:Int×Int)=>H a=U (.tup [.int p.1,.int p.2])) c lE->lE.Perm bK->lE.Pairwise jX->Nw H (.lst (c.map V.ref)) Q
theorem Ow:∀{a:O c},(∀z∈a,F (f z) (g z))->Paired F (a.map f) (a.map g)
 |[],_=>.nil
 |z::a,h=>.cons (h z Yk) (Ow λz b=>h z (Yw _ b))
theorem Zfl{K:ah}(hK:X.K=K):dm X (.builtin "sorted") (Zfk K):=by
 subst hK;intro l s J H xs us Q I r h;obtain⟨p,b,bK,rfl,hq,t,nd,iR,q⟩:=h;obtain⟨u,rfl,N⟩:=vals1 r;cases N;obtain⟨ak,T,pl,C⟩:=I.list hq;obtain⟨o,n,ho,hc,_,hd⟩:=pl;have ei:=PM T;subst ei;rw[Ya] at C;have m:=de t;have L:uH s.heap (b.map Value.ref) bK:=by
  have w:∀{b:O Z} {bK:O (Int×Int)},Paired (λa (p:Int×Int)=>H a=U (.tup [.int p.1,.int p.2])) b bK->uH s.heap (b.map Value.ref) bK:=λ{b bK} h=>by
   induction h with
   |nil=>exact .nil
   |cons v _ ih=>
    refine .cons ?_ ih;obtain⟨jB,R,⟨o2,g1,g2,n2,g3⟩,_⟩:=I.tuple (az.of v);obtain⟨u1,u2,rfl,⟨t1,rfl⟩,⟨t2,rfl⟩⟩:=vals2 R
    simp_all
  exact w t
 refine Zbw (ps:=bK) ho hc hd L nd (by rwa[Ya]) (by rw[Yv,Ya];exact C) λv h' out e kp Az he k f=>?_;have G:Inv X l J H {s with heap:=v}:=I.kept (t':=s.toks) kp;obtain⟨d,lE,x,B,A,W⟩:∃(d:O Z) (lE:O (Int×Int)),out=d.map Value.ref/\Paired (λa (p:Int×Int)=>H a=U (.tup [.int p.1,.int p.2])) d lE/\lE.Perm bK/\lE.Pairwise jX:=by
  by_cases z:2<=(b.map Value.ref).length
  ·have f:=f z;rw[Ya] at f z;obtain⟨P,g,y,f⟩:=f;rw[m] at g y;have F:P.toList.Perm (List.range bK.length):=by
    have:=Jy.mp g.2;simpa using this
   have E:∀i∈P.toList,i<bK.length:=λi c=>Wm.mp (F.subset c);refine⟨P.toList.map λi=>b.getD i 0,P.toList.map λi=>bK.getD i (0,0),?_,Ow λi c=>GN t (by exact m▸E i c) 0 (0,0),?_,?_⟩
   ·rw[f,Y7];refine Wo λi c=>?_;have:=E i c;show(b.map Value.ref).getD i Value.none=Value.ref (b.getD i 0);rw[Yi,Ye,Yc QO,Yi,Yc QO];rfl
   ·have:=F.map λi=>bK.getD i (0,0);rw[range_getD] at this;exact this
   ·rw[Wr,W3];intro i j c D lP;have sz:=g.size;have gi:P.toList[i]=P.getD i 0:=by
     rw[Wt] at c;simp_all
    have gj:P.toList[j]=P.getD j 0:=by
     rw[Wt] at D;simp_all
    rw[gi,gj];rw[Wt] at D;exact ltB_iff.mp (y i j lP QO)
  ·rw[Ya] at z;have eq:out=b.map Value.ref:=by
    match b,out,z,k with
    |[],out,_,k=>exact List.Perm.eq_nil k
    |[a],out,_,k=>exact List.Perm.eq_singleton k
    |_::_::_,_,z,_=>exact absurd QS z
   refine⟨b,bK,eq,t,qh _,?_⟩;match bK,m with
   |[],_=>exact .nil
   |[a],_=>exact List.pairwise_singleton _ _
   |_::_::_,m=>exact absurd m (by simp;omega)
 refine⟨.ref v.objs.size,_,G.laid (o:=.lst (d.map V.ref)) Az (Yd _) ⟨?_,out,e,by rw[x];exact PN d,by simpa[seqObj] using he⟩,rfl,(q d lE B A W).at _ (G.ay.fresh (Yd _))⟩;rw[Ya,de B,A.length_eq];exact Jo (kU QO)
end L2
namespace L2
open PySem PySem.Spec PyProof.Rows
def qu{K:ah}(h:X.K=K)(p:PE X ex (Av X.K T r to t)):PE X ex (Av K T r to t):=h▸p
def Zgw{K:ah}(h:X.K=K)(p:PE X ex (LD X.K T r to)):PE X ex (LD K T r to):=h▸p
def Iy{X:Cx}{K:ah}{a:cM}{d:TE}(h:X.K=K)(p:PT X a (λc H Q=>d c H λx b=>∃k,C5 X.K x b k/\Q k b)):PT X a (λc H Q=>d c H λx b=>∃k,C5 K x b k/\Q k b):=h▸p
def zD{K:ah}(h:X.K=K)(p:cL X f (De X.K b)):cL X f (De K b):=h▸p
def mS(a:Hp)(d:Z):Prop:=(∀b,a d≠U (.tup b))/\(∀o u,a d≠U (.bU o u))/\∀c,a d≠U (.sV c)
def Inv.Li(I:Inv X pins σ H s)(e:H d=U (.dK c)):mS X.kA d:=
 ⟨(λa z=>by have:=I.base.iN d a z;rw[e] at this;cases this),(λo u z=>by have:=I.base.i8 d o u z;rw[e] at this;cases this),(λb z=>by obtain⟨m,h⟩:=I.base.jz d b z;rw[e] at h;cases h)⟩
def Inv.swap(I:Inv X pins σ H s)(e:H d=U o)(i:mS X.kA d)(y:∀a,o≠.own a)(w:∀f,o≠.tup f)(C:cP X.prog X.w H s.heap d o'):Inv X pins σ (upd H d o') s:=by
 have i6:∀{a:Z} {o1:HO},cP X.prog X.w H s.heap a o1->cP X.prog X.w (upd H d o') s.heap a o1:=λ{a o1} x=>x.i6 (λ_ _ _ z=>z)
  (λb z=>by rw[aK (λq=>y a (Yn (e.symm.trans (by rw[←q];exact z))))];exact z)
  (λb f z=>by rw[aK (λq=>w f (Yn (e.symm.trans (by rwa[←q]))))];exact z)
 have ne:∀{b:Z},H b=aG->b≠d:=λ{b} l z=>by rw[z,e] at l;cases l
 refine⟨I.ok,I.os,I.bare,⟨I.base.keep,I.base.slot,λb g q n A=>?_,I.base.there,λb f q=>?_,λb g u q=>?_,λb k q=>?_⟩,I.loc,I.cell,?_,λx c m=>?_,λp B=>?_,λa o1 j=>?_,I.len⟩
 ·have h:=I.base.free b g q n A;rwa[aK (ne h)]
 ·rw[aK (λz=>i.1 f (by rwa[←z]))];exact I.base.iN b f q
 ·rw[aK (λz=>i.2.1 g u (by rwa[←z]))];exact I.base.i8 b g u q
 ·rw[aK (λz=>i.2.2 k (by rwa[←z]))];exact I.base.jz b k q
 ·rw[aK (ne I.free)];exact I.free
 ·rw[aK (ne (I.i4 x c m))];exact I.i4 x c m
 ·obtain⟨v,t,r⟩:=I.pin p B;exact⟨v,by rwa[aK (ne t)],r⟩
 ·by_cases z:a=d
  ·subst z;rw[aU] at j
   grind
  ·rw[aK z] at j;exact i6 (I.ay a o1 j)
def MN(d:Z)(c:Obj)(b:O (Key×V)):It:=⟨λi H=>H d=U (.bU c (.dK b))/\i<b.length,λi H v e=>∃a k y,b[i]?=U (k,y)/\H a=aG/\v=.ref a/\e=upd H a (.tup [kV k,y]),λi H=>H d=U (.bU c (.dK b))/\b.length<=i⟩
def UO(h:(dW P w).is k u=af):RelV (kV k) u:=by
 rcases nC h with⟨i,t,rfl,rfl⟩|⟨x,t,rfl,rfl⟩;·exact⟨t,rfl⟩
 ·exact⟨t,rfl⟩
def KI:∀{a:O (Key×V)} {b:O (Key×a7)} {i:Nat} {k:Key} {y:V},KV a b->a[i]?=U (k,y)->∃v,b[i]?=U (k,v)/\RelV y v:=λ{a b i k y} r h=>by
 obtain⟨q,e,d,c⟩:=fU r h
 grind
def xF(I:Inv X pins σ H s)(e:H d=U (.bU f (.dK c)))(h:f.data=.dict m ep):∃a,KV c a/\s.heap.DictAt (dW X.prog X.w) d a ep:=by
 obtain⟨g,_,_,a,b,o,p,n,j,l,i,k⟩:=(I.ay d _ e);rw[g] at j;cases j;rw[h] at i;cases i;exact⟨a,b,f,m,g,l,h,k⟩
def Z4:entryFor table "dict_itemiterator.__iter__"=U Builtin.«dict_keyiterator.__iter__»:=entryFor_alias (id':="dict_keyiterator.__iter__") QJ rfl QK QJ
theorem Zc1{P:dv}{w:dg}{K:ah}{l:O cM}{x1:Nat}{p:Pos}(it d:Z)(W:Obj)(es:dt DictEntry)(ep:Nat)(hU:W.data=.dict es ep)(a:O (Key×V)):Turn P w K (.Tuple l x1 p) (MN d W a) [it] it (λi h=>∃ok j,IsItemIter h it d i a.length ep ok j) where
 mem:=QS
 obj:=λi h st b g=>by
  grind
 keep:=λi h h' st k=>let⟨ok,j,e⟩:=st;⟨ok,j,k it QS _ e⟩
 item:=by
  intro X B r C hc i f s T H E I u st t;subst B r C;obtain⟨n,L,f2,J,G,F⟩:=u it QS;obtain⟨ok,j,st⟩:=st;obtain⟨q,bJ⟩:=t;obtain⟨vs,c,N⟩:=xF I q hU;have m:=c.length;obtain⟨k,y,hk⟩:∃k y,a[i]?=U (k,y):=⟨a[i].1,a[i].2,Yc bJ⟩;obtain⟨v,hv,ry⟩:=KI c hk;rw[m] at st;have VC:=Yr st;refine wpAny_pyNext_items_item st N hv λkey h' mU out Zl9 hsz keep=>⟨_,rfl,wpAny_letOwnedTupleGo_items out λD R sb=>?_⟩;have sz:(2:Nat)<=sizeLine:=by rw[dU];decide
  have I1:Inv X f T (upd H s.heap.objs.size (.tup [kV k,y])) {s with heap:=D,toks:=s.toks}:=Inv.turned (s:={s with heap:=s.heap.push {cls:=.type "tuple",data:=.seq #[key,v]},toks:=s.toks}) (I.laid (λb o e=>Yb _ e) (Yd _) ⟨sz,[key,v],.cons (UO mU) (.cons ry .nil),mK.new _ _⟩) (λb o g e=>by
   refine(sb.2 b g).trans ?_;by_cases z:b=s.heap.objs.size
   ·subst z;rw[Yp _ rfl] at e
    grind
   ·rw[Jf _ _ _ z] at e;exact keep b o g e) (by rw[aK (Yy VC)];exact n) L J G F
  refine⟨.ref s.heap.objs.size,_,I1,rfl,⟨_,k,y,hk,I.ay.fresh (Yd _),rfl,rfl⟩,⟨key,v,by rw[m];exact R⟩,λb g=>?_⟩;have e:b=it:=by simpa using g
  subst e;rw[aK (Yy VC)];exact n
 done:=by
  intro X B r C hc i f s T H E I u st t;subst B r C;obtain⟨n,L,f2,J,G,F⟩:=u it QS;obtain⟨ok,j,st⟩:=st;obtain⟨q,hle⟩:=t;obtain⟨vs,c,N⟩:=xF I q hU;have m:=c.length;rw[m] at st;exact wpAny_pyNext_items_end (I.ok.hd hc) st N (Y4 QO) λh' eb=>⟨rfl,I.turned (λb o g e=>eb b o g e) n L J G F⟩
 self:=λA i s Q E st h=>by
  obtain⟨ok,j,st⟩:=st;have x:s.TypeIs (.ref it) "dict_itemiterator":=⟨_,st,rfl⟩;exact wpAny_pyIter_slot x Al (nB Al x Z4 (cq ⟨_,rfl,"dict_itemiterator",_,x,PySem.F.slot_dict_itemiterator_next.lookup,h⟩) (PySem.F.args_dict_itemiterator_iter_1 _))
def KJ(g:Hp)(f:TE):TI:=λe H R=>f e H λx c=>∃d a,x=.ref d/\c d=U (.dK a)/\∀b,mS g d->R (MN d b a) (upd c d (.bU b (.dK a)))
def Zfm{X:Cx}{L:Hp}{l:O cM}{P:Nat}{r g F:Pos}{o:cM}{B:TE}(h0:X.kA=L)(ho:PE X o B)(qB:attributeBase o "items" X.env (eval o X.env)=eval o X.env:=by rfl)(qC:(g.endLine==F.line)=af:=by rfl):PI X (.Tuple l P r) (.Call (.Attribute o "items" g) [] [] F) (KJ L B):=by
 subst h0;intro f s y H R I h;refine vj qB qC (aA (ho f s y H _ I h) λv i N=>?_);obtain⟨x,H1,j,r1,d,c,ex,hd,q⟩:=N;subst ex;obtain rfl:v=Value.ref d:=r1;obtain⟨t1,W,Q⟩:=xE j (.inl ⟨c,.inl hd⟩);refine⟨"dict","dict.items",oB,B1,PySem.F.type_dict_items,t1,W,lW rfl (vr ?_)⟩;obtain⟨zz,_,A,p,w⟩:=nR j.ay hd;refine mj B1 w.typeIs PySem.F.entry_dict_items (PySem.F.args_dict_items_1 _) (meets_dict_items (dW X.prog X.w) d Q) ⟨⟨A,w⟩,?_⟩;obtain⟨k,E,u,t,hx,D,T⟩:=id w;have C:=j.Li hd;have m:∀b o,i.heap.get? b=U o->(i.heap.push {cls:=.type "dict_items",data:=.fields #[.ref d]}).get? b=U o:=λb o e=>Yb _ e;refine wpAny_pyIter_items (knd:=dW X.prog X.w) (d:=d) (ep:=u) ⟨_,Yp _ rfl,rfl,rfl⟩ ⟨k,E,m _ _ t,hx,D,T⟩ ?_;generalize hG:i.heap.push {cls:=.type "dict_items",data:=.fields #[.ref d]}=G at m⊢;have J:Inv X f y H1 {i with heap:=G.push {cls:=.type "dict_itemiterator",data:=.fields #[.none,.bool a8,.ref d,.int 0 0,.int A.length 0,.int u 0,.none,.none]},toks:=i.toks}:=j.kept (t':=i.toks) λb o e=>Yb _ (m b o e);have MO:=J.ay d _ hd;have I3:=J.swap (o':=.bU k (.dK c)) hd C (λa z=>by cases z) (λxs z=>by cases z) ⟨Yb _ (m _ _ t),MO⟩;have n:i.heap.objs.size<=G.objs.size:=by rw[←hG,Jm];exact uT _ _
 refine⟨G.objs.size,[G.objs.size],_,MN d k c,_,rfl,I3,Zc1 _ d k E u D c,⟨.none,.none,?_⟩,λb hb=>?_,q k C⟩
 ·show(G.push _).get? G.objs.size=_;exact p.length▸Yp _ rfl
 ·have e:b=G.objs.size:=by simpa using hb
  subst e;have MP:=Yr t;exact j.qI n (by rw[aK (Ja (Y2 MP n))];exact j.ay.fresh n)
def Tz(e:Hp)(h:TE)(g:TG)(i:TS):TS:=λD f H=>C4 (KJ e h) g i ⟨λj b=>∃d c a,mS e d/\b d=U (.bU c (.dK a))/\D.nx j (upd b d (.dK a)),λv b=>∃d c a,mS e d/\b d=U (.bU c (.dK a))/\D.rt v (upd b d (.dK a)),λ_ _=>False,λ_ _=>False⟩ f H
def Inv.xT(I:Inv X pins σ H s)(c:mS X.kA d)(e:H d=U (.bU g (.dK b))):Inv X pins σ (upd H d (.dK b)) s:=
 I.swap e c (λa z=>by cases z) (λf z=>by cases z) (I.ay d _ e).2
theorem Zca(C:X.kA=m)(x:PassesOwn X.md X.A X.env X.xe)(A:X.calm=af)(y:PI X (.Tuple elts k l) (.Call (.Attribute o "items" apos) [] [] E) (KJ m p))(z:PG X (.Tuple elts k l) g)(B:fQ X body t):
  PS X (.For (.Tuple elts k l) (.Call (.Attribute o "items" apos) [] [] E) body [] pos) (Tz m p g t):=by
 subst C;intro a s n H D I h;refine aA (ic x A y z B (λ_=>rfl) a s n H _ I h) λf G q=>?_;cases f with
 |next=>obtain⟨i,F,j,d,w,c,b,e,q⟩:=q;exact⟨i,_,j.xT b e,q⟩
 |brk=>obtain⟨_,_,_,q⟩:=q;exact False.elim q
 |cont=>obtain⟨_,_,_,q⟩:=q;exact False.elim q
 |ret u=>obtain⟨v,i,F,j,r,d,w,c,b,e,q⟩:=q;exact⟨v,i,_,j.xT b e,r,q⟩
def Zeb(X:∀Q:VK,Q (.ref d) H->F σ H Q)(B:H d=U (.dK f))(q:Nat->St->Prop)(L:q 0 σ)
  (R:∀i k y j h a (N:St->Hp->Prop) (I:VK) (bk:St->Hp->Prop),f[i]?=U (k,y)->q i j->(∀b o,H b=U o->b≠d->h b=U o)->h a=U (.tup [kV k,y])->(∀l,q (i+1) l->N l h)->g (.ref a) j h λdC H2=>G ⟨N,I,bk,N⟩ dC H2)
  (E:∀j h,q f.length j->ai H h->D.nx j h):Tz H0 F g G D σ H:=by
 refine X _ ⟨d,f,rfl,B,λs P=>⟨λi m j h=>m=f.length-i/\i<=f.length/\q i j/\(∀b o,H b=U o->b≠d->h b=U o)/\h d=U (.bU s (.dK f)),⟨f.length,(zj _),Yx _,L,λb o e n=>by rwa[aK n],aU⟩,?_⟩⟩;rintro i m j h ⟨rfl,W,p,w,u⟩;by_cases A:i<f.length
 ·refine .inr ⟨⟨u,A⟩,λl r=>q (i+1) l/\(∀b o,H b=U o->b≠d->r b=U o)/\r d=U (.bU s (.dK f)),λl r ⟨a,b,c⟩=>⟨f.length-(i+1),QO,rfl,A,a,b,c⟩,?_⟩;rintro x H4 ⟨a,k,y,T,t,rfl,rfl⟩;have v:d≠a:=λz=>by rw[←z,u] at t;cases t
  have C:∀b o,H b=U o->b≠d->upd h a (.tup [kV k,y]) b=U o:=λb o e n=>by rw[aK (λz=>by rw[←z,w b o e n] at t;cases t)];exact w b o e n
  exact R i k y j _ a (λl r=>q (i+1) l/\(∀b o,H b=U o->b≠d->r b=U o)/\r d=U (.bU s (.dK f))) _ _ T p C aU λl J=>⟨J,C,by rwa[aK v]⟩
 ·have e:i=f.length:=(i_ W (gV A))
  subst e;refine .inl ⟨⟨u,Yd _⟩,d,s,f,P,u,E _ _ p λb o e=>?_⟩;by_cases z:b=d;·subst z;rw[aU];rw[B] at e;exact e
  ·rw[aK z];exact w b o e z
def Zig:Mi X .Mult (λx y H Q=>∃i j,x=.int i/\y=.int j/\xM i j/\Q (.int (i*j)) H):=by
 rintro a s g H x y v u Q I c b ⟨i,j,f,e,d,q⟩;subst f;subst e;obtain⟨t,rfl⟩:=c;obtain⟨h,rfl⟩:=b;exact imul_int ⟨.int _,H,I.tok _,⟨_,rfl⟩,q⟩ d.ok
def MQ(d:Z)(b:Obj)(a:O (Key×V)):It:=⟨λi H=>H d=U (.bU b (.dK a))/\i<a.length,λi H v c=>c=H/\∃k y,a[i]?=U (k,y)/\v=kV k,λi H=>H d=U (.bU b (.dK a))/\a.length<=i⟩
theorem Zec{P:dv}{w:dg}{K:ah}{tg:cM}(it d:Z)(G:Obj)(es:dt DictEntry)(T:Nat)(N:G.data=.dict es T)(a:O (Key×V)):Turn P w K tg (MQ d G a) [it] it (λi h=>h.IsKeyIter it d i a.length T) where
 mem:=QS
 obj:=λi h st b q=>by
  have e:b=it:=by simpa using q
  obtain⟨o,e,c,W⟩:=st
  simp_all
 keep:=λi h R st k=>let⟨o,e,r⟩:=st;⟨o,k it QS o e,r⟩
 item:=by
  intro X t n u L i g s σ H E I l st p;subst t n u;obtain⟨D,C,f2,B,z,x⟩:=l it QS;obtain⟨m,bJ⟩:=p;obtain⟨vs,f,F⟩:=xF I m N;have j:=f.length;obtain⟨k,y,J⟩:∃k y,a[i]?=U (k,y):=⟨a[i].1,a[i].2,Yc bJ⟩;obtain⟨v,hv,ry⟩:=KI f J;rw[j] at st;refine wpAny_pyNext_dict_item st F hv λkey R mU aO sb=>?_;obtain⟨o,e,c,W⟩:=id aO;exact⟨_,rfl,uF e c W QD ⟨kV k,H,(I.turned (sb.extBut) D C B z x),UO mU,⟨rfl,k,y,J,rfl⟩,by rw[j];exact aO,λb q=>(l b q).1⟩⟩
 done:=by
  intro X t n u L i g s σ H E I l st p;subst t n u;obtain⟨D,C,f2,B,z,x⟩:=l it QS;obtain⟨m,hle⟩:=p;obtain⟨vs,f,F⟩:=xF I m N;have j:=f.length;rw[j] at st;exact wpAny_pyNext_dict_end (I.ok.hd L) st F (Y4 QO) λR eb=>⟨rfl,I.turned (eb) D C B z x⟩
 self:=λA i s Q E st h=>wpAny_pyIter_keyiter st h
def Lj(g:Hp)(f:TE):TI:=λe H R=>f e H λx c=>∃d a,x=.ref d/\c d=U (.dK a)/\∀b,mS g d->R (MQ d b a) (upd c d (.bU b (.dK a)))
def RV(L:X.kA=H0)(G:PE X l D):PI X tg l (Lj H0 D):=by
 subst L;intro c s n H R I h;refine aA (G c s n H _ I h) λv g y=>?_;obtain⟨x,Q,j,E,d,f,N,hd,q⟩:=y;subst N;obtain rfl:v=Value.ref d:=E;obtain⟨T,B,A,k,P⟩:=nR j.ay hd;obtain⟨i,t,u,m,F,r,C⟩:=id P;have p:=j.Li hd;refine wpAny_pyIter_dict B ⟨i,t,m,F,r,C⟩ ?_;have w:Inv X c n Q {g with heap:=g.heap.push {cls:=.type "dict_keyiterator",data:=.fields #[.ref d,.int 0 0,.int A.length 0,.int u 0]},toks:=g.toks}:=j.kept λb o e=>Yb _ e;refine⟨g.heap.objs.size,[g.heap.objs.size],_,MQ d i f,_,rfl,(w.swap (o':=.bU i (.dK f)) hd p (λa z=>by cases z) (λW z=>by cases z) ⟨Yb _ m,(w.ay d _ hd)⟩),Zec _ d i t u r f,⟨_,Yp _ rfl,rfl,by rw[k.length];rfl⟩,λb J=>?_,q i p⟩;have e:b=g.heap.objs.size:=by simpa using J
 subst e;exact j.qI (Yd _) (by rw[aK (Ja (Yr m))];exact j.ay.fresh (Yd _))
def Lk(e:Hp)(h:TE)(g:TG)(i:TS):TS:=λD f H=>C4 (Lj e h) g i ⟨λj b=>∃d c a,mS e d/\b d=U (.bU c (.dK a))/\D.nx j (upd b d (.dK a)),λv b=>∃d c a,mS e d/\b d=U (.bU c (.dK a))/\D.rt v (upd b d (.dK a)),λ_ _=>False,λ_ _=>False⟩ f H
theorem OY(C:X.kA=H0)(w:PassesOwn X.md X.A X.env X.xe)(A:X.calm=af)(y:PI X k l (Lj H0 n))(z:PG X k g)(B:fQ X body o)(t:∀x,foldedSetIterable l X.env x=pure x:=by intro _;rfl):PS X (.For k l body [] pos) (Lk H0 n g o):=by
 subst C;intro a s m H D I h;refine aA (ic w A y z B t a s m H _ I h) λf F q=>?_;cases f with
 |next=>obtain⟨i,E,j,d,p,c,b,e,q⟩:=q;exact⟨i,_,j.xT b e,q⟩
 |brk=>obtain⟨_,_,_,q⟩:=q;exact False.elim q
 |cont=>obtain⟨_,_,_,q⟩:=q;exact False.elim q
 |ret u=>obtain⟨v,i,E,j,r,d,p,c,b,e,q⟩:=q;exact⟨v,i,_,j.xT b e,r,q⟩
def Qw(F:∀R:VK,R (.ref d) H1->td σ H R)(C:H1 d=U (.dK kvs))(n:Nat->St->Hp->Prop)
  (v:∀b,n 0 σ (upd H1 d (.bU b (.dK kvs))))
  (z:∀b i k y j h (N:St->Hp->Prop) (t:VK) (bk:St->Hp->Prop),kvs[i]?=U (k,y)->n i j h->h d=U (.bU b (.dK kvs))->(∀l f,n (i+1) l f->f d=U (.bU b (.dK kvs))->N l f)->g (kV k) j h λG J=>s ⟨N,t,bk,N⟩ G J)
  (r:∀b j h,n kvs.length j h->h d=U (.bU b (.dK kvs))->D.nx j (upd h d (.dK kvs))):Lk L td g s D σ H:=by
 refine F _ ⟨d,kvs,rfl,C,λb w=>⟨λi m j h=>m=kvs.length-i/\i<=kvs.length/\n i j h/\h d=U (.bU b (.dK kvs)),⟨kvs.length,(zj _),Yx _,v b,aU⟩,?_⟩⟩;rintro i m j h ⟨rfl,B,p,o⟩;by_cases q:i<kvs.length
 ·refine .inr ⟨⟨o,q⟩,λl f=>n (i+1) l f/\f d=U (.bU b (.dK kvs)),λl f ⟨a,c⟩=>⟨kvs.length-(i+1),QO,rfl,q,a,c⟩,?_⟩;rintro x I ⟨rfl,k,y,A,rfl⟩;exact z b i k y j I (λl f=>n (i+1) l f/\f d=U (.bU b (.dK kvs))) _ _ A p o λl f u E=>⟨u,E⟩
 ·have e:i=kvs.length:=(i_ B (gV q))
  subst e;exact .inl ⟨⟨o,Yd _⟩,d,b,kvs,w,o,r b _ _ p o⟩
def Zed(G:Z->Hp->O (Key×V)->Prop)(v:∀R:VK,(∀d b a,G d b a->R (.ref d) b)->o σ H R)
  (t:∀d b a,G d b a->b d=U (.dK a)/\∃f:Nat->St->Hp->Prop,(∀e,f 0 σ (upd b d (.bU e (.dK a))))/\
   (∀e i k y j c (N:St->Hp->Prop) (q:VK) (bk:St->Hp->Prop),a[i]?=U (k,y)->f i j c->c d=U (.bU e (.dK a))->(∀m l,f (i+1) m l->l d=U (.bU e (.dK a))->N m l)->g (kV k) j c λw x=>p ⟨N,q,bk,N⟩ w x)/\
   ∀e j c,f a.length j c->c d=U (.bU e (.dK a))->D.nx j (upd c d (.dK a))):Lk z o g p D σ H:=
 v _ λd b a u=>by
  obtain⟨hd,f,r,s,n⟩:=t d b a u;exact Qw (td:=λ_ _ R=>R (.ref d) b) (H:=H) (λ_ h=>h) hd f r s n
theorem Zgx(r:KT H a xs):xs.map (·.1)=a.map (·.1):=by
 induction r with
 |nil=>rfl
 |cons f _ b=>simp_all
def Zgy:bootBuiltins "dict"=U (.type "dict"):=QK
def MR(d:Z)(b:Obj)(a:O (Key×V)):It:=⟨λi H=>H d=U (.bU b (.dK a))/\i<a.length,λi H v c=>c=H/\∃k,a[i]?=U (k,v),λi H=>H d=U (.bU b (.dK a))/\a.length<=i⟩
theorem Zee{P:dv}{w:dg}{K:ah}{tg:cM}(it d:Z)(G:Obj)(es:dt DictEntry)(T:Nat)(N:G.data=.dict es T)(a:O (Key×V)):Turn P w K tg (MR d G a) [it] it (λi h=>h.IsValIter it d i a.length T) where
 mem:=QS
 obj:=λi h st b q=>by
  have e:b=it:=by simpa using q
  obtain⟨o,e,c,W⟩:=st
  grind
 keep:=λi h R st k=>let⟨o,e,r⟩:=st;⟨o,k it QS o e,r⟩
 item:=by
  intro X t n u L i g s σ H E I l st p;subst t n u;obtain⟨D,C,f2,B,z,x⟩:=l it QS;obtain⟨m,bJ⟩:=p;obtain⟨vs,f,F⟩:=xF I m N;have j:=f.length;obtain⟨k,y,J⟩:∃k y,a[i]?=U (k,y):=⟨a[i].1,a[i].2,Yc bJ⟩;obtain⟨v,hv,ry⟩:=KI f J;rw[j] at st;refine wpAny_pyNext_values_item st F hv λR aO sb=>?_;obtain⟨o,e,c,W⟩:=id aO;exact⟨_,rfl,uF e c W QD ⟨y,H,(I.turned (sb.extBut) D C B z x),ry,⟨rfl,k,J⟩,by rw[j];exact aO,λb q=>(l b q).1⟩⟩
 done:=by
  intro X t n u L i g s σ H E I l st p;subst t n u;obtain⟨D,C,f2,B,z,x⟩:=l it QS;obtain⟨m,hle⟩:=p;obtain⟨vs,f,F⟩:=xF I m N;have j:=f.length;rw[j] at st;exact wpAny_pyNext_values_end (I.ok.hd L) st F (Y4 QO) λR eb=>⟨rfl,I.turned (eb) D C B z x⟩
 self:=λA i s Q E st h=>wpAny_pyIter_valiter st h
def Ll(g:Hp)(f:TE):TI:=λe H R=>f e H λx c=>∃d a,x=.ref d/\c d=U (.dK a)/\∀b,mS g d->R (MR d b a) (upd c d (.bU b (.dK a)))
def Zgz{X:Cx}{H0:Hp}{N:cM}{g D:Pos}{o:cM}{y:TE}(h0:X.kA=H0)(ho:PE X o y)(qB:attributeBase o "values" X.env (eval o X.env)=eval o X.env:=by rfl)(W:(g.endLine==D.line)=af:=by rfl):PI X N (.Call (.Attribute o "values" g) [] [] D) (Ll H0 y):=by
 subst h0;intro f s u H R I h;refine vj qB W (aA (ho f s u H _ I h) λv i F=>?_);obtain⟨x,H1,j,T,d,c,ex,hd,q⟩:=F;subst ex;obtain rfl:v=Value.ref d:=T;obtain⟨Q,P,J⟩:=xE j (.inl ⟨c,.inl hd⟩);refine⟨"dict","dict.values",oB,AK,PySem.F.type_dict_values,Q,P,lW rfl (vr ?_)⟩;obtain⟨zz,_,w,n,t⟩:=nR j.ay hd;refine mj AK t.typeIs PySem.F.entry_dict_values (PySem.F.args_dict_values_1 _) (meets_dict_values (dW X.prog X.w) d J) ⟨⟨w,t⟩,?_⟩;obtain⟨k,C,r,p,hx,B,L⟩:=id t;have A:=j.Li hd;have l:∀b o,i.heap.get? b=U o->(i.heap.push {cls:=.type "dict_values",data:=.fields #[.ref d]}).get? b=U o:=λb o e=>Yb _ e;refine wpAny_pyIter_values (knd:=dW X.prog X.w) (d:=d) (ep:=r) ⟨_,Yp _ rfl,rfl,rfl⟩ ⟨k,C,l _ _ p,hx,B,L⟩ ?_;generalize hG:i.heap.push {cls:=.type "dict_values",data:=.fields #[.ref d]}=G at l⊢;have E:Inv X f u H1 {i with heap:=G.push {cls:=.type "dict_valueiterator",data:=.fields #[.ref d,.int 0 0,.int w.length 0,.int r 0]},toks:=i.toks}:=j.kept (t':=i.toks) λb o e=>Yb _ (l b o e);have MO:=E.ay d _ hd;have I3:=E.swap (o':=.bU k (.dK c)) hd A (λa z=>by cases z) (λxs z=>by cases z) ⟨Yb _ (l _ _ p),MO⟩;have m:i.heap.objs.size<=G.objs.size:=by rw[←hG,Jm];exact uT _ _
 refine⟨G.objs.size,[G.objs.size],_,MR d k c,_,rfl,I3,Zee _ d k C r B c,⟨_,Yp _ rfl,rfl,by rw[n.length];rfl⟩,λb hb=>?_,q k A⟩;have e:b=G.objs.size:=by simpa using hb
 subst e;have MP:=Yr p;exact j.qI m (by rw[aK (Ja (Y2 MP m))];exact j.ay.fresh m)
def UP(e:Hp)(h:TE)(g:TG)(i:TS):TS:=λD f H=>C4 (Ll e h) g i ⟨λj b=>∃d c a,mS e d/\b d=U (.bU c (.dK a))/\D.nx j (upd b d (.dK a)),λv b=>∃d c a,mS e d/\b d=U (.bU c (.dK a))/\D.rt v (upd b d (.dK a)),λ_ _=>False,λ_ _=>False⟩ f H
theorem Zc2(A:X.kA=H0)(t:PassesOwn X.md X.A X.env X.xe)(y:X.calm=af)(w:PI X k (.Call (.Attribute o "values" apos) [] [] B) (Ll H0 m))(x:PG X k g)(z:fQ X body n):
  PS X (.For k (.Call (.Attribute o "values" apos) [] [] B) body [] pos) (UP H0 m g n):=by
 subst A;intro a s l H D I h;refine aA (ic t y w x z (λ_=>rfl) a s l H _ I h) λf E q=>?_;cases f with
 |next=>obtain⟨i,C,j,d,p,c,b,e,q⟩:=q;exact⟨i,_,j.xT b e,q⟩
 |brk=>obtain⟨_,_,_,q⟩:=q;exact False.elim q
 |cont=>obtain⟨_,_,_,q⟩:=q;exact False.elim q
 |ret u=>obtain⟨v,i,C,j,r,d,p,c,b,e,q⟩:=q;exact⟨v,i,_,j.xT b e,r,q⟩
def Zfn(G:∀R:VK,R (.ref d) H1->s σ H R)(E:H1 d=U (.dK kvs))(n:Nat->St->Hp->Prop)
  (w:∀b,n 0 σ (upd H1 d (.bU b (.dK kvs))))
  (A:∀b i k y j h (N:St->Hp->Prop) (u:VK) (bk:St->Hp->Prop),kvs[i]?=U (k,y)->n i j h->h d=U (.bU b (.dK kvs))->(∀l f,n (i+1) l f->f d=U (.bU b (.dK kvs))->N l f)->g y j h λI L=>t ⟨N,u,bk,N⟩ I L)
  (r:∀b j h,n kvs.length j h->h d=U (.bU b (.dK kvs))->D.nx j (upd h d (.dK kvs))):UP P s g t D σ H:=by
 refine G _ ⟨d,kvs,rfl,E,λb z=>⟨λi m j h=>m=kvs.length-i/\i<=kvs.length/\n i j h/\h d=U (.bU b (.dK kvs)),⟨kvs.length,(zj _),Yx _,w b,aU⟩,?_⟩⟩;rintro i m j h ⟨rfl,C,p,o⟩;by_cases q:i<kvs.length
 ·refine .inr ⟨⟨o,q⟩,λl f=>n (i+1) l f/\f d=U (.bU b (.dK kvs)),λl f ⟨a,c⟩=>⟨kvs.length-(i+1),QO,rfl,q,a,c⟩,?_⟩;rintro x J ⟨rfl,k,B⟩;exact A b i k x j J (λl f=>n (i+1) l f/\f d=U (.bU b (.dK kvs))) _ _ B p o λl f v F=>⟨v,F⟩
 ·have e:i=kvs.length:=(i_ C (gV q))
  subst e;exact .inl ⟨⟨o,Yd _⟩,d,b,kvs,z,o,r b _ _ p o⟩
section
variable {td ty:TE}
def Zih(td ty:TE):TS:=λD c H=>td c H λx e=>ty c e λy d=>∃a b k,x=.ref a/\d a=U (.dK b)/\y=kV k/\(aX b k).isSome=af/\Ch d a (.dK (iK b k)) (D.nx c)
def Zfo(q:PE X o td)(r:PE X i ty):PS X (.Delete [.Subscript o i C] pos) (Zih td ty):=by
 intro b s c H D I h;refine wpAny_Delete (DX (Dd (aA (q b s c H _ I h) λu f d=>?_)));obtain⟨x,B,A,j,n⟩:=d;refine aA (r b f c B _ A n) λG F d=>?_;obtain⟨y,J,z,g,a,p,k,v,e,t,l,m⟩:=d;subst v t;obtain rfl:u=Value.ref a:=j;exact ZdZ z e g l λE w=>Ea ⟨c,_,w,m.at⟩
theorem Qx[DecidableEq α]:∀{a:O (α×β)} {j:Nat} {k:α} {p:β},(a.map (·.1)).Nodup->a[j]?=U (k,p)->a.eraseIdx j=a.filter λx=>decide (x.1≠k)
 |[],_,_,_,_,h=>rfl
 |x::a,0,k,p,b,h=>by
  have e:x=(k,p):=by simpa using h
  subst e;rw[List.eraseIdx_cons_zero,List.filter_cons_of_neg QS];refine(J0.mpr λy g=>?_).symm
  grind
 |x::a,j+1,k,p,b,h=>by
  obtain⟨f,d⟩:=Y0.mp (show(x.1::a.map (·.1)).Nodup from b);have c:a[j]?=U (k,p):=by simpa using h
  rw[List.eraseIdx_cons_succ,Qx d c,J3 (by simpa using(λz=>f (by exact z▸Yf.mpr ⟨_,Yg c,rfl⟩)))]
theorem Qy(f:α->β):∀(a:O α) (j:Nat),(a.map f).eraseIdx j=(a.eraseIdx j).map f
 |[],_=>rfl
 |_::_,0=>rfl
 |x::a,j+1=>by
  show f x::(a.map f).eraseIdx j=f x::(a.eraseIdx j).map f;rw[Qy f a j]
theorem ZgA(k:O Key)(r:KT H a xs):KT H (iK a k) (xs.filter λx=>decide (x.1≠k)):=by
 unfold iK;induction r with
 |nil=>exact .nil
 |@cons p x c xs f t b=>
  by_cases e:p.1=k;·simp_all
  ·rw[J3 (by simpa using e),J3 (by rw[←f.1];simpa using e)];exact .cons f b
def Zfp{P:dv}{w:dg}{A:fI}{E:bg}{s:cb}{d a:Z}{b:HeapKind P w (O Key)}{h:O (O Key×Z×a7)}{k:O Key}{Q:bR DictEntry->cb->Prop}(c:b.room A)(r:b.is s.heap k a)(D:s.heap.DictOfH b d h)(f:k∈h.map (·.1))(H:h.length<=sizeLine)
  (y:∀e m u,m.DictOfH b d (h.filter λx=>decide (x.1≠k))->Heap.SameBut d s.heap m->Q (U e) {s with heap:=m,toks:=u}):wpAny (model P w) A (Builtin.Dict.takeOut d (.ref a)) Q E s:=by
 obtain⟨G,n,B,g,z,hd,i,t,q⟩:=D;refine i2 (bo (b.pyHash c r (bo (wpAny_dictFind_heap c r g hd i t q (λno=>?_) λj p e=>?_))))
 ·obtain⟨x,l,e⟩:=Yf.mp f;obtain⟨j,v,C⟩:=Wx.mp l;exact absurd (by rw[Yc v,C,←e]) (no j x.2)
 ·have sz:n.size=h.length:=by rw[←Wt,i,Ya]
  refine bo (Nm g hd ?_);rw[entry_at i j,e];have o:=Kv s.heap d (Obj.mapDictKeys λx=>x.eraseIdxIfInBounds j);refine bo (DY g hd (cq (y _ _ _ ⟨_,_,B+1,Wu _ g (J6 (sS hd _)),z.mapDictKeys _,sS hd _,?_,λx l=>?_,?_⟩ o)) (by rwa[sz]))
  ·rw[←Qx q e];have F:(n.eraseIdxIfInBounds j).toList=n.toList.eraseIdx j:=by
    simp_all
   rw[F,i,Qy]
  ·exact b.keeps (t x (Y5.mp l).1) g hd o
  ·grind
theorem Zc3(w:A.units+1<cLine)(I:Inv X pins σ H s)(e:H a=U (.dT d))(J:H b=U (.tup (k.map kV)))(l:(aX d k).isSome=af)(h:∀n,Inv X pins σ (upd H a (.dT (iK d k))) n->Q () n):
  wpAny X.md A (delItem (.ref a) (.ref b)) Q E s:=by
 obtain⟨z,r,m,f,i⟩:=UL I.ay e;have R:d.length=m.length:=Paired.length f;have there:k∈m.map (·.1):=by
  rw[Zgx f];cases g:aX d k with
  |none=>rw[g] at l;cases l
  |some v=>
   unfold aX at g;cases j:d.find? λu=>decide (u.1=k) with
   |none=>rw[j] at g;cases g
   |some p=>exact Yf.mpr ⟨p,List.mem_of_find?_eq_some j,fb (by simpa using List.find?_some j)⟩
 refine Kw i.typeIs QD tr (nB tr i.typeIs AE ?_ (Aq _ _));unfold Builtin.«dict.__delitem__»;refine bo ?_;unfold Builtin.Dict.dictSlotArgs;refine bo (DR i.typeIs ?_);show wpAny _ _ (pure (Value.ref a,Value.ref b)) _ _ s;refine cq ?_;show wpAny _ _ (Builtin.Dict.takeOut a (.ref b)>>=_) _ _ s;refine bo (Zfp (nh w) (r_ I.ay J) i there QO λW T P L t=>?_);refine bo (yf (cq ⟨.none,rfl,?_⟩));obtain⟨o,D,F,q,C,B,y,_,x⟩:=L;refine h _ (uq I (by exact e▸ik) t ⟨o,q⟩ ⟨Yz (Wk _ _) z,r,_,(ZgA k f).keeps λc N G=>by
   rwa[aK (Uk G e (λz=>nomatch z))],o,D,F,q,C,B,y,x⟩)
def Zii(td ty:TE):TS:=λD d H=>td d H λx f=>ty d f λy e=>∃a b c k,x=.ref a/\e a=U (.dT c)/\y=.ref b/\e b=U (.tup (k.map kV))/\(aX c k).isSome=af/\Ch e a (.dT (iK c k)) (D.nx d)
def Qz(t:X.A.units+1<cLine)(v:PE X o td)(w:PE X i ty):PS X (.Delete [.Subscript o i J] pos) (Zii td ty):=by
 intro c s d H D I h;refine wpAny_Delete (DX (Dd (aA (v c s d H _ I h) λu g f=>?_)));obtain⟨x,G,F,m,p⟩:=f;refine aA (w c g d G _ F p) λr N f=>?_;obtain⟨y,P,E,j,a,b,q,k,A,e,z,B,l,n⟩:=f;subst A z;obtain rfl:u=Value.ref a:=m;obtain rfl:r=Value.ref b:=j;exact Zc3 t E e B l λL C=>Ea ⟨d,_,C,n.at⟩
end
end L2
namespace L2
open PySem PySem.W PySem.Spec PyProof.Rows
def Zij:O V->Hp->VK->Prop:=λd H Q=>∃(p:Z) (a:O (Key×V)) (b:O Int),d=[.ref p]/\H p=U (.dK a)/\a.map (·.1)=b.map Sum.inl/\b.length<64/\∀c:O Int,c.Perm b->c.Pairwise (·<=·)->Nw H (.lst (c.map V.int)) Q
def Zcb(u:(d==sysModules)=a8)(C:A.handled=aG)
  (H:s.heap.DictAt (dW prog w) d i F)(B:i.map (·.1)=ns.map Sum.inl)(R:i.length<64)
  (h:∀(f p:cO) (m:Nat) (out:dt a7) (l:O Int) (e:Nat),(∀b o,s.heap.get? b=U o->f.get? b=U o)->(∀b o,f.get? b=U o->p.get? b=U o)->p.get? f.objs.size=U (seqObj "list" out e)->IntsAre out.toList l->l.Perm ns->l.Pairwise (·<=·)->Q (.ref f.objs.size) {s with heap:=p,toks:=m}):
  wpAny (model prog w) A (call (.builtin "sorted") [.ref d]) Q E s:=by
 refine vi kind_sorted plain_sorted entry_sorted (args_sorted1 _) ?_;refine bo (cq ?_);have g:i.length<=sizeLine:=by rw[dU];exact uY (pq R (by decide))
 refine bo (kdu_collect (kdl_dict (kvs:=i) (ep:=F) u) C H g λf m a y n=>?_);have c:Vals ((i.map (·.1)).map kV) a.toList:=by
  refine Iv (P:=prog) (w:=w) (by rw[Wt,Ya];exact n.1) λj v W=>?_;obtain⟨k,x,T,X⟩:=n.2 j v (by rwa[←Jp])
  grind
 have G:(i.map (·.1)).map kV=ns.map V.int:=by rw[B,Y7];rfl
 rw[G] at c;have z:a.toList.length<64:=by rwa[Wt,n.1]
 refine bo (tT ?_);have r:(f.push (seqObj "list" a.toList.toArray 0)).get? f.objs.size=U (seqObj "list" a.toList.toArray 0):=by exact G2▸(Yp _ rfl)
 refine bo (i2 (nB slot_list_sort ⟨_,r,rfl⟩ entry_list_sort (list_sort_tree r (intsAre_of c) z λout l L J I=>⟨_,rfl,?_⟩) (args_list_sort _)));obtain⟨e,D⟩:=sortedHeap_at r;exact cq ⟨_,rfl,h f _ m out l e y (λb N t=>by
  have q:=Yr t;rw[sortedHeap_old (Yy q) (by rw[size_push'];exact Wv q),Jf _ _ _ (Yy q)];exact t) D L J I⟩
def Za7(v:X.calm=af):dm X (.builtin "sorted") Zij:=by
 rintro b s C H D F Q I r ⟨p,a,k,rfl,n,d,N,q⟩;obtain⟨u,rfl,j⟩:=vals1 r;obtain rfl:u=Value.ref p:=j;obtain⟨l,i,E,c,x⟩:=nR I.ay n;obtain⟨R,y⟩:=x.dictAt;have L:=c.length;have J:a.length=k.length:=by have:=eH List.length d;rwa [Ya,Ya] at this
 refine Zcb i (I.ok.hd v) y (by rw[←c.keys];exact d) QO λw P G out f e m B t A g z=>?_;have h:=I.kept (t':=s.toks) m;refine⟨.ref w.objs.size,_,h.laid (o:=.lst (f.map V.int)) B (Yd _) ⟨?_,out.toList,e,Iq A,by simpa[seqObj] using t⟩,rfl,(q f g z).at _ (h.ay.fresh (Yd _))⟩;rw[Ya,g.length_eq]
 simp_all
def ZgB:O V->Hp->VK->Prop:=λb H Q=>∃(p:Z) (a:O (Key×V)),b=[.ref p]/\H p=U (.dK a)/\Nw H (.dK a) Q
def Zcc:dm X (.type "dict") ZgB:=by
 rintro d s n H t v Q I r ⟨p,c,rfl,k,q⟩;obtain⟨u,rfl,j⟩:=vals1 r;obtain rfl:u=Value.ref p:=j;obtain⟨a,g,h,f,l⟩:=nR I.ay k;have w:=f.length;exact PySem.kt_call_dict g l QO λx m i=>⟨.ref s.heap.objs.size,_,I.laid (o:=.dK c) (λb o e=>(i.2 b (Yy (Yr e))).trans (Yb _ e)) (Yd _) ⟨a,beq_eq_false_iff_ne.mpr (jm (Yy I.big)),h,f,m⟩,rfl,q.at _ (I.ay.fresh (Yd _))⟩
def Zc4(a:Nat->ar)(b:∀i v,P i v->∃t,v=.str (a i) t):CmpOf prog w A .Lt P (λi j=>decide ((a i).cps.toList<(a j).cps.toList)):=λi j d c s Q E f e h=>by
 obtain⟨t,rfl⟩:=b i d f;obtain⟨u,rfl⟩:=b j c e;exact NM (pj s _ t) (pj s _ u) F.slot_str_lt F.entry_str_lt (F.args_str_lt_2 _ _) (gives_str_lt _ _ t u) (λx=>nomatch x) h
def Zc5(a:Nat->ar)(b:∀i v,P i v->∃t,v=.str (a i) t):CmpOf prog w A .Gt P (λi j=>decide ((a j).cps.toList<(a i).cps.toList)):=λi j d c s Q E f e h=>by
 obtain⟨t,rfl⟩:=b i d f;obtain⟨u,rfl⟩:=b j c e;exact NM (pj s _ t) (pj s _ u) F.slot_str_gt F.entry_str_gt (F.args_str_gt_2 _ _) (gives_str_gt _ _ t u) (λx=>nomatch x) h
def sH(a b:ar):ar:=if b.cps.toList<a.cps.toList then b else a
def sJ(a b:ar):ar:=if a.cps.toList<b.cps.toList then b else a
def Zik{s:cb}:(s.heap.push {cls:=.type "tuple",data:=.seq #[a,b]}).IsTuple s.heap.objs.size #[a,b]:=⟨_,Yp _ rfl,rfl,0,rfl⟩
section
variable {X:dv}{w:dg}{A:fI}{E:bg}{s:cb}
theorem RW(i:Nat)(v:a7)(h:(#[Value.str a t,Value.str b u]:dt a7)[i]?=U v):∃t',v=.str (([a,b]:O ar).getD i "") t':=by
 match i,h with
 |0,h=>exact⟨t,(Yn h).symm⟩
 |1,h=>exact⟨u,(Yn h).symm⟩
 |i+2,h=>simp at h
def QA{a b:ar}{t u:Tok}{Q:bg}{y:CmpOp}(f:ar->ar->cm)(G:A.handled=aG)
  (r:CmpOf X w A.in1 y (λi v=>(#[Value.str a t,Value.str b u]:dt a7)[i]?=U v) λi j=>f (([a,b]:O ar).getD i "") (([a,b]:O ar).getD j ""))
  (h:∀g k t',(∀c o,s.heap.get? c=U o->g.get? c=U o)->Q (.str (if f b a=af then b else a) t') {s with heap:=g,toks:=k}):
  wpAny (model X w) A.in1 (pyIter (.ref s.heap.objs.size)) (λC p=>∃I fp x n P St B,C=.ref I/\Walks X w A.in1 I fp x n P St/\St 0 p.heap/\(∀b∈fp,b<p.heap.objs.size)/\0<n/\CmpOf X w A.in1 y P B/\
   ∀v g k,P (argBest B (n-1)) v->(∀b o,b∉x->p.heap.get? b=U o->g.get? b=U o)->Q v {p with heap:=g,toks:=k}) E
   {s with heap:=s.heap.push {cls:=.type "tuple",data:=.seq #[.str a t,.str b u]}}:=by
 have z:=Zik (a:=.str a t) (b:=.str b u) (s:=s);refine vt z ?_;have d:(s.heap.push {cls:=.type "tuple",data:=.seq #[.str a t,.str b u]}).objs.size=s.heap.objs.size+1:=Jm ..;refine⟨_,[_,s.heap.objs.size],[_],_,_,_,_,rfl,Walks.tuple (A:=A.in1) G _ s.heap.objs.size (by rw[d];exact Yy (Jk _)) #[.str a t,.str b u],
  ⟨⟨_,Yp _ rfl,rfl,rfl⟩,z.push _⟩,λc q=>?_,QS,r,λv g k H F=>?_⟩
 ·show c<((s.heap.push _).push _).objs.size;rw[Jm,d];rcases Yq.mp q with rfl|q;·rw[d];exact Jk _
  ·rw[Ym.mp q];exact Wv (Jk _)
 ·have l:∀c o,s.heap.get? c=U o->g.get? c=U o:=λc o e=>by
   refine F c o (λD=>?_) (Yb _ (Yb _ e));have:=Yr e;rw[Ym.mp D,d] at this;exact Wc _ (Nat.lt_of_succ_lt this)
  have m:(#[Value.str a t,Value.str b u]:dt a7)[if f b a=af then 1 else 0]?=U v:=H;obtain⟨t',J⟩:∃t',v=.str (if f b a=af then b else a) t':=by
   by_cases c:f b a=af
   ·rw[bS c] at m⊢;exact⟨u,by simpa using m.symm⟩
   ·rw[bt c] at m⊢;exact⟨t,by simpa using m.symm⟩
  subst J;exact h g k t' l
end
def Zc6(d:X.calm=af):dm X (.builtin "min") (λa H Q=>∃i j:ar,a=[.str i,.str j]/\Q (.str (sH i j)) H):=by
 intro b s e H a g Q I r h;obtain⟨i,j,rfl,q⟩:=h;obtain⟨u,f,rfl,⟨t,rfl⟩,⟨m,rfl⟩⟩:=vals2 r;exact call_min_two (QA (λx y=>decide (x.cps.toList<y.cps.toList)) (I.ok.hd d) (Zc4 _ RW) λn l c k=>⟨.str (sH i j),H,I.kept k,⟨c,by unfold sH;simp[Pe]⟩,q⟩)
def Zc7(d:X.calm=af):dm X (.builtin "max") (λa H Q=>∃i j:ar,a=[.str i,.str j]/\Q (.str (sJ i j)) H):=by
 intro b s e H a g Q I r h;obtain⟨i,j,rfl,q⟩:=h;obtain⟨u,f,rfl,⟨t,rfl⟩,⟨m,rfl⟩⟩:=vals2 r;exact call_max_two (QA (λx y=>decide (y.cps.toList<x.cps.toList)) (I.ok.hd d) (Zc5 _ RW) λn l c k=>⟨.str (sJ i j),H,I.kept k,⟨c,by unfold sJ;simp[Pe]⟩,q⟩)
def Zil:bootBuiltins "max"=U (.builtin "max"):=QK
def RX:cL X (binaryOp .Mult) (λx y H Q=>∃(z:ar) (n:Nat),x=.str z/\y=.int (n:Int)/\z.length<=100/\n<=100/\Q (.str (Txt.mul z (n:Int))) H):=by
 intro a s i H x y v u Q I d c h;obtain⟨z,n,rfl,rfl,e,f,q⟩:=h;obtain⟨t,rfl⟩:=d;obtain⟨j,rfl⟩:=c;have l:z.length*n<=10000:=Yz (vN e f) (by decide);refine PySem.SB.mul ⟨?_,λr _=>?_,λ_ _=>?_⟩ λb k=>⟨.str (Txt.mul z (n:Int)),H,I.tok k,⟨b,rfl⟩,q⟩;·rw[g_ QO,g_ QO];rfl
 ·have m:(1:Int)<=(n:Int):=QO
  intro g;have p:((2:Int)^63-1)/(n:Int)≥(2^63-1)/100:=by
   refine Int.le_ediv_of_mul_le QO ?_
   grind
  have o:((2:Int)^63-1)/100>100:=QD
  omega
 ·rw[Y6];exact g_ (by rw[dU];exact XD (lg l (by decide)))
def pG:V->cm
 |.int _=>af
 |.str _=>af
 |_=>a8
def RY(h:pG x=af):jw x=af:=by cases x<;>first|rfl|cases h
theorem Zim(d:pG x=af)(c:pG y=af):kL x y=decide (x=y):=by
 cases x with
 |int a=>
  cases y with
  |int b=>
   show(a==b)=_
   grind
  |str b=>rfl
  |_=>cases c
 |str a=>
  cases y with
  |int b=>rfl
  |str b=>
   show(a==b)=_
   grind
  |_=>cases c
 |_=>cases d
theorem PQ:∀{a b:O V},a.length=b.length->a.all pG=af->b.all pG=af->((List.range a.length).all λj=>kL (a.getD j .aE) (b.getD j .aE))=decide (a=b)
 |[],[],_,_,_=>rfl
 |[],_::_,h,_,_=>by simp at h
 |_::_,[],h,_,_=>by simp at h
 |x::a,y::b,h,d,c=>by
  rw[Ji,Wp] at d c;rw[Wi,List.range_succ_eq_map,Ji,MS];have e:((λj=>kL ((x::a).getD j .aE) ((y::b).getD j .aE))∘Nat.succ)=λj=>kL (a.getD j .aE) (b.getD j .aE):=rfl;rw[e,(PQ (by simpa using h) d.2 c.2)];show(kL x y&&_)=_;rw[Zim d.1 c.1,Wd,Wp,gI,gI,gI,List.cons.injEq]
def Zkc(K:ah)(c:cm):R2:=λx y H Q=>∃(p q:Z) (b a:O V),x=.ref p/\y=.ref q/\az K H p b/\az K H q a/\b.all pG=af/\a.all pG=af/\Q (.bl (if c=af then !decide (b=a) else decide (b=a))) H
theorem RZ(r:Vals xs us):∀{j:Nat} (h:j<us.length),RelV (xs.getD j .aE) us[j]:=by
 induction r with
 |nil=>intro j h;cases h
 |cons f _ a=>
  intro j h;cases j with
  |zero=>exact f
  |succ j=>exact a (DP h)
def R0{a:O V}(f:a.all pG=af)(h:j<a.length):pG (a.getD j .aE)=af:=by
 simp_all
def Zin{K:ah}(G:X.K=K)(F:X.A.units<cLine):cL X (compareOp .NotEq) (Zkc K af):=by
 subst G;intro m s R H x y v u Q I w t h;obtain⟨p,q,g,f,rfl,rfl,c,b,r,o,k⟩:=h;cases w;cases t;obtain⟨d,l,A,W⟩:=I.tuple c;obtain⟨a,i,z,T⟩:=I.tuple b;have C:=l.length;have B:=i.length;show wpAny _ _ (richCompare .NotEq _ _) _ _ _;refine SeqAt.RcNeAt.tuples (e:=λj=>kL (g.getD j .aE) (f.getD j .aE)) A z F (λj c b=>?_) _ _ _ _ (cR I k ?_)
 ·have E:j<d.length:=by simpa using c
  have D:j<a.length:=by simpa using b
  have L:=RZ l E;have J:=RZ i D;have P:d.toArray[j]=d[j]:=QS
  have N:a.toArray[j]=a[j]:=QS
  rw[P,N];exact S8 L J (RY (R0 r QO)) (RY (R0 o QO))
 ·rw[bS rfl,Yv,Yv,←C,←B];by_cases n:g.length=f.length
  ·rw[←n,Nat.min_self,PQ n r o];simp
  ·grind
def yk(g:Nat->a7):Nat->Nat->O a7
 |0,_=>[]
 |n+1,i=>g i::yk g n (i+1)
theorem KL(g:Nat->a7):∀(b:O a7) (i:Nat),(∀k,b[k]?=U (g (i+k))\/b.length<=k)->b=yk g b.length i
 |[],_,_=>rfl
 |a::r,i,h=>by
  have e:a=g i:=by
   rcases h 0 with z|z;·grind
   ·cases z
  refine X7 (eH _ e) (KL g r (i+1) λk=>?_);have:=h (k+1)
  grind
inductive bT(K:ah)(x:ar)(b:cj)(f:Z):Prop
 |mk {h n:bR Z} {e:dt (bR a7)} {i kV j g d m:a7} (a:nsIn K mainGlobals x=U (U (.ref f))) (l:K.lookup f=U ⟨i,h,.func (fnOf x x (mJ b) (js b) (aJ b) .none kV j g n d m),e⟩) (c:codeIn K d x=af) (k:keepIn K (.ref f)=af):bT K x b f
inductive cQ(K:ah)(C:Z)(x q:ar)(d:cj)(f:Z):Prop
 |mk {i o:bR Z} {g:dt (bR a7)} {j kV m h e n:a7} (a:PySem.W.findIn K (.ref C) x=U (U (.ref f))) (b:isFn K (.ref f)=af) (l:K.lookup f=U ⟨j,i,.func (fnOf x q (mJ d) (js d) (aJ d) .none kV m h o e n),g⟩) (c:codeIn K e q=af) (k:keepIn K (.ref f)=af):cQ K C x q d f
inductive jI(P:dv)(w:dg)(K:ah)(b:aS)(a:cO):Prop
 |mk {h:cO} (X:K.In h) (G:h.Ns mainGlobals b):jI P w K b a
abbrev ng(x q:ar)(a:cj)(b:O ar):Prop:=∀(kV c d:a7) (h:bR Z) (f e:a7) (g:Nat->a7),bindArgs (fnOf x q (mJ a) (js a) (aJ a) .none kV c d h f e) ⟨yk g b.length 0,[]⟩=pure (b.zip (yk g b.length 0))
def ng.at{x q:ar}{c:cj}{d:O ar}(b:ng x q c d)(h f g:a7)(l:bR Z)(j i:a7)(a:O a7)(m:a.length=d.length):bindArgs (fnOf x q (mJ c) (js c) (aJ c) .none h f g l j i) ⟨a,[]⟩=pure (d.zip a):=by
 have e:=KL (λk=>a.getD k .none) a 0 λk=>by
  grind
 grind
section
variable {P:dv}{w:dg}{K:ah}{T:aS}{W:cO}{C f:Z}{x q:ar}{st:cj}{ps:O ar}{n:Nat}{R:Sp}
def jI.p(D:jI P w K T W)(p:bT K x st f)(b:ng x x st ps:=by intro _ _ _ _ _ _ _;rfl):∃d,aM K x x st f d/\Binds K d ps []/\keepIn K (.ref f)=af/\T x=U (.ref f):=by
 obtain⟨X,G⟩:=D;obtain⟨a,l,c,k⟩:=p;exact⟨_,zL l c k,(zL l c k).binds (ng.at b),k,iC X G a⟩
def jI.d(D:jI P w K T W)(p:bT K x st f)(o:∀a,aM K x x st f a->aB P w K T W aL n f a ps R)(b:ng x x st ps:=by intro _ _ _ _ _ _ _;rfl):HasFn P w K T W n x ps R:=by
 obtain⟨a,F,b,k,m⟩:=D.p p b;exact⟨f,a,o _ F,b,k,m⟩
def jI.dX(D:jI P w K T W)(p:bT K x st f)(o:∀a,aM K x x st f a->aB P w K T W (eK P w) n f a ps R)(b:ng x x st ps:=by intro _ _ _ _ _ _ _;rfl):xQ P w K T W n x ps R:=by
 obtain⟨a,F,b,k,m⟩:=D.p p b;exact⟨f,a,o _ F,b,k,m⟩
def cQ.p(p:cQ K C x q st f)(b:ng x q st ps):∃d,aM K x q st f d/\Binds K d ps []/\Meth K C x f/\PySem.W.findIn K (.ref C) x=U (U (.ref f))/\isFn K (.ref f)=af:=by
 obtain⟨a,e,l,c,k⟩:=p;exact⟨_,zL l c k,(zL l c k).binds (ng.at b),⟨a,e,k⟩,a,e⟩
def jI.m(_:jI P w K T W)(c:gZ K C)(p:cQ K C x q st f)(o:∀a,aM K x q st f a->aB P w K T W aL n f a ps R)(b:ng x q st ps:=by intro _ _ _ _ _ _ _;rfl):b_ P w K T W n x C ps R:=by
 obtain⟨a,F,b,m,_,_⟩:=p.p b;exact⟨f,a,c,m,o _ F,b⟩
def jI.mX(_:jI P w K T W)(c:gZ K C)(p:cQ K C x q st f)(o:∀a,aM K x q st f a->aB P w K T W (eK P w) n f a ps R)(b:ng x q st ps:=by intro _ _ _ _ _ _ _;rfl):KD P w K T W n x C ps R:=by
 obtain⟨a,F,b,m,_,_⟩:=p.p b;exact⟨f,a,c,m,o _ F,b⟩
def jI.i(_:jI P w K T W){y:ar}(m:T y=U (.ref C))(g:makesIn K C=af)(d:keepIn K (.ref C)=af)(p:cQ K C "__init__" q st f)(o:∀c,aM K "__init__" q st f c->aB P w K T W aL n f c ps R)(b:ng "__init__" q st ps:=by intro _ _ _ _ _ _ _;rfl):xJ P w K T W n y C ps R:=by
 obtain⟨c,F,b,_,a,e⟩:=p.p b;exact⟨f,c,⟨g,a,e,d⟩,o _ F,b,m⟩
end
end L2
namespace L2
open PySem PySem.Spec PyProof.Rows
section
variable {X:Cx}
def bh(i:Nat){x:ar}{e:cM}{c:TE}{b a:Pos}(k:X.N.Nodup)(j:PE X e c)(g:X.N[i]?=U x:=by rfl)(d:Loc X.env.scope x:=by exact hP rfl)(f:swapsWith e (U (.Name x a)) b.line X.env=pure a8:=by rfl)
  (h:X.fn x=af\/X.env.scope.names.lookup x=U .local:=by first|exact .inl rfl|exact .inr rfl|assumption):PS X (.Assign [.Name x a] e b) (uR c (qz i)):=iF k g d j f h
def bG(i:Nat){x:ar}{a:Pos}(e:X.N.Nodup)(c:X.N[i]?=U x:=by rfl)(b:Loc X.env.scope x:=by exact hP rfl)
  (d:X.fn x=af\/X.env.scope.names.lookup x=U .local:=by first|exact .inl rfl|exact .inr rfl|assumption):PG X (.Name x a) (qz i):=rT e c b d
def pF(K:ah)(i:Nat){x f:ar}{p a:Pos}(h:X.K=K:=by rfl)(e:X.N[i]?=U x:=by rfl)(b:ve X.env.scope x:=by first|exact hP rfl|exact kO (hP rfl)|exact kO (kO rfl))(c:(x==("__debug__":ar))=a8:=by decide)
  (g:(x==("__classdict__":ar))=a8:=by decide)(d:attributeBase (.Name x p) f X.env (eval (.Name x p) X.env)=eval (.Name x p) X.env:=QR):PE X (.Attribute (.Name x p) f a) (LC K (gX i) f):=xw h (pv i e b c g) d
def aQ{k j:Nat}{x:ar}{c:O ar}{b:Sp}{p a:Pos}{e:cM}{es:O cM}{t:TA}(h:HasFn X.prog X.w X.K X.mg X.base k x c b)(d:cK j X.A)(l:PA X (e::es) t)(f:k<=j:=by omega)(g:Gl X x:=by rfl)
  (m:(x==("__debug__":ar))=a8:=by decide)(i:jb X e es:=by rfl)(n:jE X a es:=by rfl):
  PE X (.Call (.Name x p) (e::es) [] a) (CP b [] E0 t):=Lb h d f g l m i n
def aI{r:R2}{a b:cM}{e d:TE}{c:Pos}(g:jG X r)(i:PE X a e)(h:PE X b d)(f:RB b:=by exact λ_ _=>rfl):PE X (.Subscript a b c) (ke r e d):=Ut g i h f
end
section
variable {P:dv}{w:dg}{K:ah}{W:aS}{X:cO}
def aM.o{x b:ar}{e:cj}{f:Z}{j:FuncData}{N g:O ar}{k:Nat}{sp:Sp}(F:aM K x b e f j)(a:aP N g (aJ e))
  (m:∀{l:a7} {A:fI} {c:O Env} {d:O V} {Q:VK} {E:XK} (s:cb) (H:Hp),cK k (A.deeper (envOfC b (aJ e) s.heap.objs.size f l))->sp d H Q E->
   ∃t,fQ (lC aL P w K W X N b (aJ e) f l A c s H E).pA (js e) t/\t {nx:=λ_ n=>Q .aE n,rt:=Q} (start N d) H)
  (i:∀d H Q E,sp d H Q E->d.length=g.length:=by intro d H Q E h;first|(cases h;subst_vars;rfl)|((repeat obtain⟨_,h⟩:=h);subst_vars;rfl)):aB P w K W X aL (k+1) f j g sp:=F.ok a i λ_ _ _ s H _ _ _=>m s H
end
def aP.aY{N P:O ar}{sc:Scope}(a:sc.kind=.function:=by rfl)(b:sc.isCoroutine=a8:=by rfl)(c:sc.isGenerator=a8:=by rfl)(d:N.Nodup:=by decide+kernel)(e:N.take P.length=P:=by rfl)(f:∀x∈P,sc.names.lookup x=U .local\/sc.names.lookup x=U .cell:=by decide+kernel)(g:∀y∈sc.names,y.2≠.free:=by decide+kernel):aP N P sc:=⟨a,b,c,d,e,f,g⟩
def zo.ir{X:Cx}{h:Scope}{cl:O (ar×Z)}{x:ar}{fr:O (ar×Nat)}(i:rU X.env.cells cl)(j:rV X h cl fr)(a:closureFor h X.env=pure cl:=by with_unfolding_all rfl)(b:h.kind=.function:=by rfl)(c:∀y∈h.names,y.2=.local->h.names.lookup y.1=U .local:=by decide+kernel)(d:h.names.lookup x=U .local:=by rfl)
  (e:∀y∈h.names,y.2≠.cell:=by decide+kernel)(f:(h.names.all λy=>!(y.2==.free)||(cl.lookup y.1).isSome)=af:=by rfl)(g:(x::fr.map (·.1)).Nodup:=by decide+kernel):zo X h cl x fr:=⟨a,i,b,c,d,e,f,j,g⟩
def rF.ir{X:Cx}{d:Scope}{cl:O (ar×Z)}{i:O ar}{fr:O (ar×Nat)}(h:rU X.env.cells cl)(j:rV X d cl fr)(a:closureFor d X.env=pure cl:=by with_unfolding_all rfl)(b:d.kind=.function:=by rfl)(c:∀y∈d.names,y.2=.local->d.names.lookup y.1=U .local:=by decide+kernel)
  (e:∀y∈d.names,y.2≠.cell:=by decide+kernel)(f:(d.names.all λy=>!(y.2==.free)||(cl.lookup y.1).isSome)=af:=by rfl)(g:(i++fr.map (·.1)).Nodup:=by decide+kernel):rF X d cl i fr:=⟨a,h,b,c,e,f,j,g⟩
end L2
namespace L2
open PySem PySem.W PySem.Spec PyProof.Rows
inductive tG(K:ah):O ar->Prop
 |nil:tG K []
 |cons {x:ar} {l:O ar} (h:nsIn K mainGlobals x=U aG) (t:tG K l):tG K (x::l)
theorem tG.at{K:ah}{x:ar}:∀{l:O ar},tG K l->x∈l->nsIn K mainGlobals x=U aG
 |_,.cons h t,m=>by
  cases m with
  |head=>exact h
  |tail _ m=>exact t.at m
def tG.bl{K:ah}(z:tG K ["len","abs","list","range","tuple","any","all","isinstance","bool","int","str","sorted","min","max","sum","dict","reversed","ValueError"])(X:K.In h)(G:h.Ns mainGlobals mg):Bl mg:=by
 constructor<;>exact PySem.W.mg_none_of X G (z.at QD)
inductive AL(K:ah)(x:ar)(C:Z):Prop
 |mk (a:nsIn K mainGlobals x=U (U (.ref C))) (b:makesIn K C=af) (c:keepIn K (.ref C)=af):AL K x C
def jI.j{P:dv}{w:dg}{K:ah}{e:aS}{c:cO}{C f:Z}{y q:ar}{d:cj}{ps:O ar}{n:Nat}{sp:Sp}(D:jI P w K e c)(g:AL K y C)(p:cQ K C "__init__" q d f)(o:∀h,aM K "__init__" q d f h->aB P w K e c aL n f h ps sp)(b:ng "__init__" q d ps:=by intro _ _ _ _ _ _ _;rfl):xJ P w K e c n y C ps sp:=by
 obtain⟨a,m,k⟩:=g;exact D.i (let⟨X,G⟩:=D;iC X G a) m k p o b
inductive yn(K:ah)(x q:ar)(d:O Z)(b:cj)(C f:Z):Prop
 |mk {N t:Z} {s n:ar} {bs sub:O a7} {k:O ar} {G:cm} {c:bR cm} {B:bR Z} {z y w v u:bR a7} {p F i:bR Z} {m g:dt (bR a7)} {r kV D o e E j A:a7} {h:Nat}
  (a:nsIn K mainGlobals x=U (U (.ref C))) (l:K.lookup C=U (excClassObj s n C N bs (d.map Value.ref++o_) af k sub G c B z y w v u "ValueError.__new__"))
  (g1:PySem.W.findIn K (.ref C) "__getattribute__"=U (U (.builtin "BaseException.__getattribute__"))) (g2:PySem.W.findIn K (.ref C) "__getattr__"=U aG) (g3:PySem.W.findIn K (.ref C) "__setattr__"=U (U (.builtin "object.__setattr__"))) (g4:PySem.W.findIn K (.ref C) "__class__"=U (U (.builtin "object.__class__")))
  (g5:specialIn K (.builtin "object.__class__") "__get__"=U (U (.builtin "getset_descriptor.__get__"))) (g6:takesIn K (.builtin "object.__class__")=U af)
  (ci:PySem.W.findIn K (.ref C) "__init__"=U (U (.ref f))) (cn:isFn K (.ref f)=af) (ck:keepIn K (.ref C)=af)
  (fl:K.lookup f=U ⟨r,p,.func (fnOf "__init__" q (mJ b) (js b) (aJ b) (.ref t) kV D o F e E),m⟩) (fc:codeIn K e q=af) (fk:keepIn K (.ref f)=af) (ft:K.lookup t=U ⟨j,i,.seq #[A] h,g⟩)
  (na:PySem.W.findIn K (.ref C) "word"=U aG):yn K x q d b C f
abbrev BdE(q:ar)(a:cj)(b:O ar):Prop:=∀(s:cb) (kV c i j h:a7) (f:bR Z) (d:dt (bR a7)) (e:Nat) (t:Z) (m:bR Z) (l k:a7) (g:Nat->a7),s.heap.get? t=U ⟨h,f,.seq #[j] e,d⟩->BindsTo s (fnOf "__init__" q (mJ a) (js a) (aJ a) (.ref t) kV c i m l k) ⟨yk g b.length 0,[]⟩ (b.zip (yk g b.length 0))
def yn.b{K:ah}{h:cO}{i:aS}{x q:ar}{n:O Z}{c:cj}{C f:Z}(p:yn K x q n c C f)(X:K.In h)(G:h.Ns mainGlobals i)(ps:O ar)(b:BdE q c ps:=by intro _ _ _ _ _ _ _ _ _ _ _ _ _ _ z;exact BindsTo.of_defaults rfl z rfl rfl rfl):
  ∃m,xS K "__init__" q c f m/\Binds K m ps []/\dz K C/\xR K C f/\i x=U (.ref C)/\c9 K C "word":=by
 obtain⟨a,l,y,w,v,u,t,r,I,F,H,B,E,D,A,o⟩:=p;have d:dz K C:=⟨⟨_,_,_,_,n,_,_,_,_,_,_,_,_,_,_,l⟩,y,w,v,u,t,r⟩;refine⟨_,⟨⟨_,_,_,_,_,_,_,_,_,_,rfl,B,E⟩,D⟩,λs g J j=>?_,d,xR.of d I F H,iC X G a,o⟩;rw[We] at j⊢;have e:=KL (λk=>g.getD k .none) g 0 λk=>by
  grind
 rw[e,j];exact b s _ _ _ _ _ _ _ _ _ _ _ _ _ (J _ _ A)
end L2
namespace L2
open PySem PySem.Spec PyProof.Rows
section
variable {X:Cx}{a b e T:cM}{R P Q N:TE}{p W:Pos}
def cT(K:ah)(i:Bl X.mg)(f:PE X e Q)(h:X.K=K:=by rfl)(d:Gl X "len":=by rfl)(c:starEach [e] X.env=(a8,eval e X.env)::starEach [] X.env:=by rfl)(g:(backTo W (starEach [] X.env)).any (·.1)=a8:=QR):PE X (.Call (.Name "len" p) [e] [] W) (oi (z8 K) (iI Q jZ)):=gQ (ZjV h) d i.CW Cv (aa f ae c) QD QD c g
def ni(K:ah)(k:Bl X.mg)(g:PE X e Q)(i:PE X T N)(h:X.K=K:=by rfl)(f:Gl X "isinstance":=by rfl)(d:starEach [T] X.env=(a8,eval T X.env)::starEach [] X.env:=by rfl)(c:starEach [e,T] X.env=(a8,eval e X.env)::starEach [T] X.env:=by rfl)(j:(backTo W (starEach [T] X.env)).any (·.1)=a8:=by rfl):PE X (.Call (.Name "isinstance" p) [e,T] [] W) (oi (Dc K) (iI Q (iI N jZ))):=gQ (Zgc h) f k.yY yW (aa g (aa i ae d) c) QD QD c j
def iL(K:ah)(h:X.K=K:=by rfl):jG X (xN K):=ZeU h
def iT(K:ah)(h:X.K=K:=by rfl):jG X (C7 K):=Zgb h
def bp{c:CmpOp}{r:R2}(d:cL X (compareOp c) r)(h:PE X a R)(g:PE X b P)(f:behindInMarks c b=a8:=by exact S2 _):PT X (.Compare a [c] [b] W) (K_ (ke r R P)):=fY d h g f
def eY{c:CmpOp}{r:R2}(d:cL X (compareOp c) r)(h:PE X a R)(g:PE X b P)(f:behindInMarks c b=a8:=by exact S2 _):PE X (.Compare a [c] [b] W) (ke r R P):=Cd d h g f
end
end L2
namespace MT
open PySem L2
variable {w:dg}{K:PySem.W.Frag}{mg:ar->bR a7}{I:cO}{f C CL CJ:Z}{fd:FuncData}
def top(i:Nat):cj:=PySem.Challenge.pw_kinhearth_k39_what_a_tie_would_leave.main.body.getD i (.Pass ⟨0,0,0,0⟩)
abbrev Iz:cj:=top 19
abbrev Kg:cj:=top 20
abbrev JE:cj:=top 21
abbrev KN:cj:=top 23
abbrev Gu:cj:=top 25
abbrev Gv:cj:=top 78
abbrev Fx:cj:=top 79
abbrev IA:cj:=top 80
abbrev Ho:cj:=top 22
abbrev F9:cj:=top 24
abbrev Hq:cj:=top 2
abbrev JG:cj:=top 34
abbrev Bw:cj:=top 35
abbrev Hs:cj:=top 38
abbrev GO:cj:=top 39
abbrev GP:cj:=top 40
abbrev IB:cj:=top 47
abbrev FQ:cj:=top 48
abbrev GQ:cj:=top 49
abbrev GR:cj:=top 50
abbrev FR:cj:=top 51
abbrev FT:cj:=top 52
abbrev FU:cj:=top 53
abbrev Fy:cj:=top 54
abbrev GS:cj:=top 73
abbrev IC:cj:=top 56
abbrev ID:cj:=top 57
abbrev Hu:cj:=top 59
abbrev OZ:cj:=top 82
abbrev Ox:cj:=top 83
abbrev O0:cj:=top 84
abbrev IE:cj:=top 85
abbrev F_:cj:=top 86
abbrev GU:cj:=top 87
abbrev GV:cj:=top 88
abbrev Bx:cj:=top 89
abbrev Hv:cj:=top 90
abbrev Ga:cj:=top 91
abbrev Hw:cj:=top 93
abbrev Hx:cj:=top 94
abbrev JH:cj:=top 95
abbrev Hy:cj:=top 96
abbrev GW:cj:=top 97
abbrev Hz:cj:=top 98
abbrev HH:cj:=top 99
abbrev By:cj:=top 100
abbrev IF:cj:=top 101
abbrev HU:cj:=top 102
abbrev HV:cj:=top 103
abbrev HW:cj:=top 92
abbrev GX:cj:=top 105
abbrev IG:cj:=top 104
abbrev GY:cj:=top 106
abbrev Gb:cj:=top 107
abbrev uI:cj:=top 108
abbrev GZ:cj:=inClass (top 77) 0
abbrev G0:cj:=inClass (top 77) 1
abbrev Gw:cj:=inClass (top 61) 0
abbrev G1:cj:=inClass (top 61) 1
abbrev G3:cj:=inClass (top 61) 2
abbrev G4:cj:=inClass (top 61) 3
abbrev Fz:cj:=inClass (top 61) 4
abbrev Gx:cj:=inClass (top 61) 5
abbrev Fq:cj:=inClass (top 61) 6
abbrev Gd:cj:=inClass (top 61) 8
abbrev FV:cj:=inClass (top 61) 12
abbrev E8:cj:=inClass (top 61) 13
abbrev Gy:cj:=inClass (top 61) 14
abbrev Ge:cj:=inClass (top 61) 9
abbrev E_:cj:=inClass (top 61) 11
abbrev Fe:cj:=inClass (top 61) 10
abbrev Gf:cj:=inClass (top 72) 0
abbrev FA:cj:=inClass (top 72) 1
abbrev Gz:cj:=inClass (top 72) 2
abbrev GA:cj:=inClass (top 72) 3
abbrev Gg:cj:=inClass (top 72) 4
abbrev Gh:cj:=inClass (top 72) 5
abbrev FC:cj:=inClass (top 72) 10
abbrev Fs:cj:=inClass (top 72) 11
abbrev Gi:cj:=inClass (top 72) 12
abbrev GB:cj:=inClass (top 72) 13
abbrev Ff:cj:=inClass (top 72) 17
abbrev Fb:cj:=inClass (top 72) 18
abbrev FW:cj:=inClass (top 72) 19
abbrev Ft:cj:=inClass (top 72) 20
abbrev FX:cj:=inClass (top 72) 21
abbrev FD:cj:=inClass (top 72) 22
abbrev Fg:cj:=inClass (top 72) 23
abbrev Fn:cj:=inClass (top 72) 24
abbrev Fo:cj:=inClass (top 72) 16
abbrev FE:cj:=inClass (top 4) 0
abbrev FG:cj:=inClass (top 11) 0
abbrev FY:cj:=inClass (top 8) 0
abbrev UQ:cj:=OZ
abbrev TB:cj:=Ox
abbrev UR:cj:=O0
abbrev tH:O ar:=["self","word","why"]
def Zam:aP tH tH (aJ FE):=.aY
def Oy(F:xS K "__init__" "KinError.__init__" FE f fd)(o:Bl mg):aB P w K mg I aL 1 f fd tH (Le K):=by
 refine F.ok Zam (λk H Q E h=>?_) (λr A d s H k Q E i h=>?_)
 ·obtain⟨a,C,b,y,rfl,_⟩:=h;rfl
 obtain⟨a,C,b,y,rfl,j,e,l,m,g,q⟩:=h;refine⟨_,(aj (cE (Ze1 rfl o.Zbt (aa (pv 0) (aa (ZeG (Iy (K:=K) rfl (JB (pv 2) (λ_=>rfl))) (Zgi (Ke (Tr i (pv 1)) (Ke aV (Ke (Tr i (pv 2)) ZhG)))) (pv 1)) ae)))) (au (Zgd (pv 0) (pv 1)))),?_⟩;have fin:∀t:ar,Kz K [.ref a,.str t] H λ_ H1=>Uz K (gX 0) (gX 1) "word" {nx:=λ_ p=>Q .aE p,rt:=Q} [U (.ref a),U (.str b),U (.str y)] H1:=λt=>
  ⟨a,C,.str t,rfl,e,j,_,rfl,_,rfl,a,C,rfl,e,l,.inl ⟨j,q⟩⟩
 have n:(1000200:Nat)<=sizeLine:=by rw[dU];decide
 refine⟨_,rfl,_,rfl,_,⟨eL g (by decide),rfl⟩,?_⟩;refine bc (λc=>?_) (λc=>?_)
 ·refine⟨_,rfl,.inl ⟨b,rfl,eL m (by decide),b,rfl,?_,?_⟩⟩
  ·rw[mf];show 0+b.length<=sizeLine;omega
  refine⟨_,rfl,?_,?_⟩
  ·rw[mf,mf];show 0+b.length+2<=sizeLine;omega
  refine⟨_,rfl,.inl ⟨y,rfl,eL g (by decide),y,rfl,?_,?_,fin _⟩⟩
  ·rw[mf,mf,mf];show 0+b.length+2+y.length<=sizeLine;omega
  ·rw[mf,mf,mf];show 0+b.length+2+y.length<=sizeLine;omega
 ·exact⟨_,rfl,fin _⟩
def Zan:aP pE pE (aJ FG):=.aY
def Zcd(F:xS K "__init__" "NoPerson.__init__" FG f fd)(g:CU K p "__init__" o)(r:aB P w K mg I aL 1 o t tH (Le K))(e:Binds K t tH [])(k:mg "KinError"=U (.ref p))(d:dz K c)(j:c9 K c "word"):
  aB P w K mg I aL 2 f fd pE (Lf "no person" c):=by
 refine F.ok Zan (λi H Q E h=>?_) (λu A b s H i Q E m h=>?_)
 ·obtain⟨a,y,rfl,_⟩:=h;rfl
 obtain⟨a,y,rfl,n,l,q⟩:=h;refine⟨_,(au (cE (Ql g r (m.mono (by decide)) rfl k e .nil xH (aa (pv 0) (aa aV (aa (pv 1) ae)))))),?_⟩;exact⟨_,rfl,_,rfl,a,c,_,y,rfl,n,d,j,by decide,l,q⟩
def Zax:aP pE pE (aJ FY):=.aY
def Zc8(F:xS K "__init__" "BadWord.__init__" FY f fd)(g:CU K p "__init__" o)(r:aB P w K mg I aL 1 o t tH (Le K))(e:Binds K t tH [])(k:mg "KinError"=U (.ref p))(d:dz K c)(j:c9 K c "word"):
  aB P w K mg I aL 2 f fd pE (Lf "no word" c):=by
 refine F.ok Zax (λi H Q E h=>?_) (λu A b s H i Q E m h=>?_)
 ·obtain⟨a,y,rfl,_⟩:=h;rfl
 obtain⟨a,y,rfl,n,l,q⟩:=h;refine⟨_,(au (cE (Ql g r (m.mono (by decide)) rfl k e .nil xH (aa (pv 0) (aa aV (aa (pv 1) ae)))))),?_⟩;exact⟨_,rfl,_,rfl,a,c,_,y,rfl,n,d,j,by decide,l,q⟩
abbrev Eb:O ar:=["_law_script","_law_k"]
def Zio:aP Eb Eb (aJ UQ):=⟨rfl,rfl,rfl,by decide+kernel,rfl,by decide+kernel,by decide+kernel⟩
def ZgC(F:aM K "_law_cell" "_law_cell" UQ f fd)(j:mg "len"=aG):aB P w K mg I aL 1 f fd Eb (Tg K):=by
 refine F.ok Zio (λg H Q E h=>?_) (λn A b s H g Q E m h=>?_)
 ·obtain⟨a,i,k,rfl,_⟩:=h;rfl
 obtain⟨a,i,k,rfl,d,l,q⟩:=h;refine⟨_,aj (aR (bp nP (pv 1) (gQ Oj rfl j Cv (aa (pv 0) ae))) (au (aH (Ut Kc (pv 0) (pv 1) (λ_ _=>rfl)))) aW)
  (au (aH aw)),?_⟩
 refine⟨_,rfl,_,rfl,a,_,rfl,.inl d,_,_,rfl,rfl,_,rfl,?_⟩;refine bc (λc=>?_) (λc=>?_)
 ·have e:=fb c;rw[(Ya _)] at e;exact⟨_,rfl,_,rfl,a,_,_,_,rfl,rfl,d,oV l e,q _⟩
 ·exact q _
abbrev yo:O ar:=["_law_cell_here","_law_parts"]
def qo:aP ["_law_cell_here","_law_parts","_law_one","_law_two","_law_six","_law_found","_law_part"] yo (aJ TB):=⟨rfl,rfl,rfl,by decide+kernel,rfl,by decide+kernel,by decide+kernel⟩
def Zfq(F:aM K "_law_draws" "_law_draws" TB f fd)(W:mg "abs"=aG):aB P w K mg I aL 1 f fd yo (zB K):=by
 refine F.ok qo (λvs H Q E h=>?_) (λbw A B s H vs Q E hr h=>?_)
 ·obtain⟨c,a,v,rfl,_⟩:=h;rfl
 obtain⟨c,a,v,rfl,hS,G,X,q⟩:=h;refine⟨_,aj (aR (bp nP (gQ Qe rfl W Td (aa (pv 0) ae)) (aZ S0 aw aw))
   (aj (iF (i:=2) qo.nd rfl (hP rfl) (aZ dO (aZ iG (aZ nN (pv 0) aw) aw) aw))
   (aj (iF (i:=3) qo.nd rfl (hP rfl) (aZ dO (aZ iG (aZ iG (aZ nN (pv 2) (pv 2)) (aZ nN aw (pv 2))) (pv 0)) aw))
   (aj (iF (i:=4) qo.nd rfl (hP rfl) (aZ dO (aZ iG (aZ nN (pv 3) aw) (pv 2)) aw))
   (au (iF (i:=0) qo.nd rfl (hP rfl) (aZ iG (pv 3) (aZ nN aw (aZ iG (pv 4) (aZ nN aw (pv 2))))))))))
   (au (iF (i:=0) qo.nd rfl (hP rfl) (aZ Ct (gQ Qe rfl W Td (aa (pv 0) ae)) (aZ S0 aw aw)))))
  (aj (iF (i:=5) qo.nd rfl (hP rfl) (zJ ae))
  (aj (ic hY rfl (Rp (pv 1)) (rT (i:=6) qo.nd rfl (hP rfl))
   (aj (cE (mP jo lr lp zm (pv 5) (aa (aZ dO (pv 0) (pv 6)) ae)))
   (au (iF (i:=0) qo.nd rfl (hP rfl) (aZ Cb (pv 0) (pv 6))))))
  (au (aH (pv 5))))),?_⟩
 refine ib (λm H'=>H'=H/\∃N j g d,m=[U (.int N),U (.ref a),j,g,d,aG,aG]) (λnx k=>?_) ?_
 ·refine⟨_,rfl,c,rfl,_,_,rfl,rfl,⟨by decide,by decide,by decide⟩,_,_,rfl,rfl,_,rfl,?_⟩;refine bc (λ_=>?_) (λ_=>?_)
  ·refine⟨_,rfl,_,_,rfl,rfl,.inr ⟨by decide,by decide⟩,_,_,rfl,rfl,_,_,rfl,rfl,(by show(0:Int)<2147483647;decide),?_⟩;refine⟨_,rfl,_,rfl,_,_,rfl,rfl,.inl (Zhy _ (by decide) (by decide)),_,rfl,_,_,rfl,rfl,.inl ⟨by decide,by decide⟩,_,_,rfl,rfl,_,rfl,_,_,rfl,rfl,_,_,rfl,rfl,(by show(0:Int)<2147483399;decide),?_⟩;refine⟨_,rfl,_,_,rfl,rfl,.inr ⟨by decide,by decide⟩,_,rfl,_,_,rfl,rfl,_,_,rfl,rfl,(by show(0:Int)<1000000007;decide),?_⟩;refine⟨_,rfl,_,rfl,_,rfl,_,_,rfl,rfl,.inl ⟨by decide,by decide⟩,_,_,rfl,rfl,_,_,rfl,rfl,.inl ⟨by decide,by decide⟩,_,_,rfl,rfl,k _ _ ⟨rfl,_,_,_,_,rfl⟩⟩
  ·exact⟨_,rfl,c,rfl,_,_,rfl,rfl,⟨by decide,by decide,by decide⟩,_,_,rfl,rfl,k _ _ ⟨rfl,_,_,_,_,rfl⟩⟩
 ·rintro m R ⟨rfl,N,j,g,d,rfl⟩;refine⟨(by show 0<=sizeLine;decide),λl L=>?_⟩;have T:ai R (upd R l (.lst [])):=cC L _;refine⟨_,rfl,a,rfl,⟨_,T.seq hS⟩,kW (K:=K) (a:=a) (xs:=v.map V.int) (λi m r=>∃c j g d D n,m=[U (.int c),U (.ref a),j,g,d,U (.ref l),D]/\ai R r/\r l=U (.lst (n.map V.int))/\Paired Bd n (v.take i))
   ⟨N,j,g,d,aG,[],rfl,T,aU,by rw[vV];exact .nil⟩ (λi m r _ ⟨_,_,_,_,_,_,_,t,_⟩=>t.seq hS) ?_ ?_⟩
  ·rintro i y m r hi ⟨c,j,g,d,D,n,rfl,t,z,u⟩;obtain⟨p,rfl,J⟩:=nJ hi;have eM:i<v.length:=(Yj.mp J).1;obtain⟨x,p1⟩:=G p (Yg J);have dl:=u.length;rw[Wb] at dl;refine⟨_,rfl,.inl ⟨rfl,_,aq.of z⟩,_,rfl,_,rfl,_,_,rfl,rfl,x,l,_,_,rfl,rfl,z,(by rw[Ya];exact kU (by omega)),?_⟩;refine⟨_,rfl,_,rfl,_,_,rfl,rfl,⟨x,p1⟩,?_⟩;refine⟨_,j,g,d,_,n++[c % p],rfl,λb o e=>?_,?_,?_⟩
   ·rw[aK (cA e L)];exact t b o e
   ·rw[aU,Qi]
   ·rw[Y1,J];exact u.snoc ⟨Jg _ (Mx x),W5 _ x⟩
  ·rintro m r ⟨c,j,g,d,D,n,rfl,t,z,u⟩;rw[Ya,Y8] at u;exact⟨_,rfl,q l n r L t z u⟩
abbrev MU:O ar:=["_law_code","_law_size"]
def zQ:aP ["_law_code","_law_size","_law_free","_law_found","_law_k"] MU (aJ UR):=⟨rfl,rfl,rfl,by decide+kernel,rfl,by decide+kernel,by decide+kernel⟩
def ZgD(F:aM K "_law_turn" "_law_turn" UR f fd)(mL:mg "list"=aG)(G:mg "range"=aG)(mT:mg "tuple"=aG):aB P w K mg I aL 1 f fd MU Th:=by
 refine F.ok zQ (λX H Q E h=>?_) (λbw A x s H X Q E hr h=>?_)
 ·obtain⟨c,n,rfl,_⟩:=h;rfl
 obtain⟨c,n,rfl,hn,q⟩:=h;refine⟨_,aj (iF (i:=2) zQ.nd rfl (hP rfl) (fO (F7 rfl) rfl mL xv (aa (fO Bo rfl G xh (aa (pv 1) ae)) ae)))
  (aj (iF (i:=3) zQ.nd rfl (hP rfl) (zJ ae))
  (aj (ic hY rfl (rL rfl G (aa (pv 1) ae)) (rT (i:=4) zQ.nd rfl (hP rfl))
   (aj (cE (mP jo lr lp zm (pv 3) (aa (mP jo PySem.F.slot_list_pop PySem.F.type_list_pop ZeP (pv 2) (aa (aZ dO (pv 0) (aZ Ct (pv 1) (pv 4))) ae)) ae)))
   (au (iF (i:=0) zQ.nd rfl (hP rfl) (aZ Cb (pv 0) (aZ Ct (pv 1) (pv 4)))))))
  (au (aH (fO wu rfl mT oN (aa (pv 3) ae)))))),?_⟩
 refine⟨_,rfl,_,rfl,λr W=>?_⟩;refine⟨r,n,rfl,aU,eL hn (by decide),λu J=>?_⟩;refine⟨(by show 0<=sizeLine;decide),λl z=>?_⟩;have T:ai H (upd H r (.kJ 0 (n:Int))):=cC W _;have R:=T.trans (cC J (.lst ((bB n).map V.int)));have g3:=R.trans (cC z (.lst []));have D:=cA aU z;refine⟨_,rfl,(n:Int),rfl,by omega,by omega,Io (λi m g=>∃c y a fs,m=[U (.int c),U (.int (n:Int)),U (.ref u),U (.ref l),y]/\ai H g/\g u=U (.lst (fs.map V.int))/\g l=U (.lst (a.map V.int))/\(a++fs).Perm (bB n)/\a.length=i)
  ⟨c,aG,[],bB n,rfl,g3,by rw[aK D];exact aU,aU,by rw[Xy],rfl⟩ ?_ ?_⟩
 ·rintro i m g hi ⟨c,y,a,fs,rfl,j,B,p,d,dl⟩;have v:=d.length_eq;rw[Yl,fN,dl] at v;have k:(0:Int)<(n:Int)-(0+(i:Int)):=by omega
  have m0:=Jg c (Mx k);have m1:=W5 c k;have N:(c % ((n:Int)-(0+(i:Int)))).toNat<fs.length:=by omega
  refine⟨_,rfl,.inl ⟨rfl,_,aq.of p⟩,_,rfl,.inl ⟨rfl,_,aq.of B⟩,_,rfl,_,rfl,_,rfl,_,_,rfl,rfl,_,_,rfl,rfl,k,u,_,_,_,.int fs[(c % ((n:Int)-(0+(i:Int)))).toNat],rfl,rfl,B,by omega,by omega,((Ka (Kx m0 (by rw[Ya];omega))).1),by rw[Ye,Yc N];rfl,?_⟩;refine⟨l,_,_,rfl,rfl,by rwa[aK D.symm],(by rw[Ya];exact kU (by omega)),?_⟩;refine⟨_,rfl,_,rfl,_,rfl,_,_,rfl,rfl,_,_,rfl,rfl,⟨k,by omega⟩,?_⟩;refine⟨_,_,a++[fs[(c % ((n:Int)-(0+(i:Int)))).toNat]],fs.eraseIdx (c % ((n:Int)-(0+(i:Int)))).toNat,rfl,λb o e=>?_,?_,?_,?_,?_⟩
  ·have nl:=cA (R b o e) z;have nu:=cA (T b o e) J;rw[aK nl,aK nu];exact j b o e
  ·rw[aK D,aU,Pr]
  ·rw[aU,Qi]
  ·refine List.Perm.trans ?_ d;rw[Ju];refine List.Perm.append_left a ?_;exact(ON fs _ N).symm
  ·rw[Yl,List.length_singleton,dl]
 ·rintro m g ⟨c,y,a,fs,rfl,j,B,p,d,dl⟩;have v:=d.length_eq;rw[Yl,fN,dl] at v;have e:fs=[]:=List.eq_nil_of_length_eq_zero (by omega);rw[e,We] at d;refine⟨_,rfl,l,_,rfl,.inl ⟨aq.of p,λt L=>?_⟩⟩;exact q t a _ (j.free L) (j.trans (cC L _)) aU d
def ZgE(h:Paired Bd ds [a,b,c,d,e]):∃v w x y z,ds=[v,w,x,y,z]/\Bd v a/\Bd w b/\Bd x c/\Bd y d/\Bd z e:=by
 cases h with|cons l h=>cases h with|cons k h=>cases h with|cons j h=>cases h with|cons i h=>cases h with|cons g h=>
  cases h
  grind
def a_(h:q (σ.set i (U x)) H):qz i x σ H q:=h
def TC{K:ah}{H:Hp}{p:Z}{b:O V}{i:Nat}{x:V}{Q:VK}(a:aq K H p b\/az K H p b)(h:b[i]?=U x)(q:Q x H):Mn K (.ref p) (.int (0+(i:Int))) H Q:=by
 rcases a with a|a;·exact .inl ⟨p,_,_,_,rfl,rfl,a,Qm h,q⟩
 ·exact .inr (.inl ⟨p,_,_,_,rfl,rfl,a,Qm h,q⟩)
def B3(v:V):decide (v=v)=af:=d6 rfl
theorem all_true(n:Nat):(List.replicate n af).all id=af:=by
 induction n with
 |zero=>rfl
 |succ n a=>rw[List.replicate_succ,Ji,a];rfl
inductive QB(m:Nat)(a:O V)(H:Hp)(Q:VK):Prop
 |mk (x y:V) (d:Dt) (k:Nat) (h:a=[x,y]) (i:m=k+1) (e:At H k x d) (g:At H k y d) (c:∀b,ai H b->Q (.bl af) b):QB m a H Q
def uC(m:Nat):Sp:=λa H Q _=>QB m a H Q
section
variable {K:ah}{X:aS}
abbrev pH:O ar:=["_law_found","_law_due"]
def Zce:aP pH pH (aJ Bx):=.aY
theorem Zfr(F:aM K "_law_same" "_law_same" Bx f fd)(nG:HasFn P w K X I n "_law_same" pH (uC n))(j:Bl X):aB P w K X I aL (n+1) f fd pH (uC (n+1)):=by
 refine F.o Zce λs H hr h=>?_;obtain⟨x,y,d,k,rfl,ek,l,u,q⟩:=h;obtain rfl:k=n:=my (Nat.add_right_cancel ek)
 have hu:=hr.r8;refine⟨_,(aj (aR (bp Ks (pv 1) nL) (au (aH (eY Ks (pv 0) nL))) aW) (aj (aR (e_ (ni K j (pv 1) (mQ rfl j.Cz Cf))) (au (aH (qp (ni K j (pv 0) (mQ rfl j.Cz Cf)) (nM (eY bZ (pv 0) (pv 1)))))) aW) (aj (aR (e_ (ni K j (pv 1) (mQ rfl j.UG Tf))) (au (aH (qp (ni K j (pv 0) (mQ rfl j.UG Tf)) (qp (Zhi (ni K j (pv 0) (mQ rfl j.Cz Cf))) (nM (eY bZ (pv 0) (pv 1))))))) aW) (aj (aR (e_ (ni K j (pv 1) (mQ rfl j.zU zM))) (au (aH (qp (ni K j (pv 0) (mQ rfl j.zU zM)) (nM (eY bZ (pv 0) (pv 1)))))) aW) (aj (aR (PW.pt (pw_or (bp k9 (ni K j (pv 1) (mQ rfl j.xC xv)) (ni K j (pv 0) (mQ rfl j.xC xv))) (pw_or1 (bp k9 (ni K j (pv 1) (mQ rfl j.oQ oN)) (ni K j (pv 0) (mQ rfl j.oQ oN)))))) (au (aH ku)) aW) (aj (aR (bp k9 (cT K j (pv 0)) (cT K j (pv 1))) (au (aH ku)) aW) (au (aH (gQ (Vu (K:=K) rfl rfl) rfl j.UE Te (aa (jS (x:="_law_k") (fr:=[("_law_found",0),("_law_due",1)]) (cl:=[("_law_found",s.heap.objs.size+1),("_law_due",s.heap.objs.size+1+1)]) rfl (.ir ⟨rfl,⟨rfl,trivial⟩⟩ ⟨⟨rfl,.inl rfl,.inl rfl,rfl⟩,⟨⟨rfl,.inl rfl,.inl rfl,rfl⟩,trivial⟩⟩) (rL rfl j.kY (aa (cT K j (pv 1)) ae)) (λ_ _ _ _=>nI) (λ_ _ _ _=>(Lb nG hr (m6 _) rfl (aa (aI (RK (K:=K) rfl) (pv 1) (pv 0)) (aa (aI (RK (K:=K) rfl) (pv 2) (pv 0)) ae))))) ae)))))))))),?_⟩;have W:(∃(p r:Z) (A v:O V) (E:O Dt) (t:a7) (b1 b2:cm) (m:Nat),x=.ref p/\y=.ref r/\jY K H (.ref p) t/\jY K H (.ref r) t/\kitOne K t (.type "bool")=U a8/\kitOne K t (.type "int")=U a8/\kitOne K t (.type "str")=U a8/\
   kitOne K t (.type "list")=U b1/\kitOne K t (.type "tuple")=U b2/\(aq K H p A\/az K H p A)/\(aq K H r v\/az K H r v)/\E.length<=1000/\Paired (At H m) A E/\Paired (At H m) v E/\k=m+1)\/
   (x=.aE/\y=.aE)\/(∃b,x=.bl b/\y=.bl b)\/(∃i,x=.int i/\y=.int i)\/∃z,x=.str z/\y=.str z:=by
  cases d with
  |aE=>unfold At at l u;exact .inr (.inl ⟨l,u⟩)
  |bl b=>unfold At at l u;exact .inr (.inr (.inl ⟨b,l,u⟩))
  |int i=>unfold At at l u;exact .inr (.inr (.inr (.inl ⟨i,l,u⟩)))
  |str z=>unfold At at l u;exact .inr (.inr (.inr (.inr ⟨z,l,u⟩)))
  |lst E=>
   cases k with
   |zero=>unfold At at l;exact l.elim
   |succ m=>
    unfold At at l u;obtain⟨a,A,e0,G,lz,N⟩:=l;obtain⟨b,v,MX,B,_,L⟩:=u;exact .inl ⟨a,b,A,v,E,.type "list",af,a8,m,e0,MX,.lst G,.lst B,ZhK,ZhL,ZhM,ZhN,ZhO,.inl (aq.of G),.inl (aq.of B),lz,N,L,rfl⟩
  |tup E=>
   cases k with
   |zero=>unfold At at l;exact l.elim
   |succ m=>
    unfold At at l u;obtain⟨a,A,e0,G,lz,N⟩:=l;obtain⟨b,v,MX,B,_,L⟩:=u;exact .inl ⟨a,b,A,v,E,.type "tuple",a8,af,m,e0,MX,.tup G,.tup B,ZhP,ZhQ,ZhR,ZhS,ZhT,.inr (az.of G),.inr (az.of B),lz,N,L,rfl⟩
 clear l u;rcases W with⟨p,r,A,v,E,t,b1,b2,m,rfl,rfl,T1,R,kb,ki,ksr,kl,kt,hp,hq,hz,N,L,ek⟩|⟨rfl,rfl⟩|⟨b,rfl,rfl⟩|⟨i,rfl,rfl⟩|⟨z,rfl,rfl⟩
 ·have l1:=de N;have l2:=de L;refine⟨_,rfl,rfl,_,rfl,?_⟩;refine bc (λc=>absurd (fb c) (λz=>nomatch z)) (λ_=>aT ?_);refine⟨_,rfl,_,_,_,a8,rfl,R,kb,_,rfl,bW (aT ?_)⟩;refine⟨_,rfl,_,_,_,a8,rfl,R,ki,_,rfl,bW (aT ?_)⟩;refine⟨_,rfl,_,_,_,a8,rfl,R,ksr,_,rfl,bW (aT ?_)⟩;refine⟨_,rfl,_,_,_,b1,rfl,R,kl,_,rfl,_,_,_,b1,rfl,T1,kl,rfl,_,rfl,xI rfl ?_⟩;refine⟨_,rfl,_,_,_,b2,rfl,R,kt,_,rfl,_,_,_,b2,rfl,T1,kt,rfl,_,rfl,xI rfl (aT ?_)⟩;refine⟨_,rfl,p,_,rfl,hp,_,rfl,r,_,rfl,hq,rfl,_,rfl,xI (by rw[l1,l2]) (aT ?_)⟩;refine⟨_,rfl,r,_,rfl,hq,_,rfl,by omega,by omega,λD hD=>zd (lo:=0) (n:=((v.length:Nat):Int).toNat)
   (λi T J=>ai H J/\J D=U (.lst T)/\T=(List.replicate i af).map V.bl) ⟨cC hD _,aU,rfl⟩ ?_ ?_⟩
  ·rintro i T J hi ⟨g,h1,rfl⟩;rw[Y6] at hi;have W:∀{a:Z} {Q:O V},(aq K H a Q\/az K H a Q)->(aq K J a Q\/az K J a Q):=λ{a Q} z=>by
    rcases z with z|z;·exact .inl (g.seq z)
    ·exact .inr (g.kg z)
   have gx:A[i]?=U A[i]:=Yc (by omega);have gy:v[i]?=U v[i]:=Yc hi;obtain⟨d1,G,a1⟩:=fU N gx;obtain⟨d2,B,a2⟩:=fU L gy;rw[G] at B;cases B;refine mV (cZ ?_);refine⟨_,rfl,_,rfl,TC (W hp) gx ?_⟩;refine⟨_,rfl,_,rfl,TC (W hq) gy ?_⟩;refine⟨_,_,d1,m,rfl,ek,a1.same g,a2.same g,λH2 g2=>?_⟩;refine⟨g2 _ _ h1,by rw[Ya,W4];exact kU (by omega),λb o e=>?_,aU,?_⟩
   ·rw[aK (cA e hD)];exact g2 b o (g b o e)
   ·rw[ED,Yo];rfl
  ·rintro T J ⟨g,h1,e⟩;refine⟨D,_,rfl,aq.of (by rw[h1,e]),?_⟩;rw[all_true];exact q J g
 ·refine⟨_,rfl,rfl,_,rfl,?_⟩;refine bc (λc=>?_) (λc=>absurd (B3 _) c);exact⟨_,rfl,rfl,q H (ai.refl H)⟩
 ·refine⟨_,rfl,rfl,_,rfl,?_⟩;refine bc (λc=>absurd (fb c) (λz=>nomatch z)) (λ_=>aT ?_);refine⟨_,rfl,_,_,_,af,rfl,.bl b,Tt,_,rfl,cZ ?_⟩;refine⟨_,rfl,_,_,_,af,rfl,.bl b,Tt,_,rfl,cZ ?_⟩;refine⟨_,rfl,_,rfl,rfl,?_⟩;rw[B3];exact q H (ai.refl H)
 ·refine⟨_,rfl,rfl,_,rfl,?_⟩;refine bc (λc=>absurd (fb c) (λz=>nomatch z)) (λ_=>aT ?_);refine⟨_,rfl,_,_,_,a8,rfl,.int i,KA,_,rfl,bW (aT ?_)⟩;refine⟨_,rfl,_,_,_,af,rfl,.int i,Ts,_,rfl,cZ ?_⟩;refine⟨_,rfl,_,_,_,af,rfl,.int i,Ts,_,rfl,cZ ?_⟩;refine⟨_,rfl,_,_,_,a8,rfl,.int i,KA,_,rfl,_,rfl,cZ ?_⟩;refine⟨_,rfl,_,rfl,rfl,?_⟩;rw[B3];exact q H (ai.refl H)
 ·refine⟨_,rfl,rfl,_,rfl,?_⟩;refine bc (λc=>absurd (fb c) (λz=>nomatch z)) (λ_=>aT ?_);refine⟨_,rfl,_,_,_,a8,rfl,.str z,ZhI,_,rfl,bW (aT ?_)⟩;refine⟨_,rfl,_,_,_,a8,rfl,.str z,ZhJ,_,rfl,bW (aT ?_)⟩;refine⟨_,rfl,_,_,_,af,rfl,.str z,Tu,_,rfl,cZ ?_⟩;refine⟨_,rfl,_,_,_,af,rfl,.str z,Tu,_,rfl,cZ ?_⟩;refine⟨_,rfl,_,rfl,rfl,?_⟩;rw[B3];exact q H (ai.refl H)
def same_none:aB P w K X I aL 0 f fd pH (uC 0):=by
 have no:∀a H Q E,¬uC 0 a H Q E:=λa H Q E h=>by
  obtain⟨_,_,_,_,_,z,_⟩:=h;omega
 exact⟨λa H Q E h=>absurd h (no a H Q E),λA b s H c d a Q E _ _ _ _ h=>absurd h (no a H Q E)⟩
theorem R1(F:aM K "_law_same" "_law_same" Bx f fd)(c:Binds K fd pH [])(a:keepIn K (.ref f)=af)(m:X "_law_same"=U (.ref f))(b:Bl X):
  ∀n:Nat,aB P w K X I aL n f fd pH (uC n)
 |0=>same_none
 |n+1=>Zfr F ⟨f,fd,R1 F c a m b n,c,a,m⟩ b
end
inductive TH(K:ah)(b:O V)(H:Hp)(Q:VK):Prop
 |mk (p:Z) (a:O Int) (g:b=[.ref p]) (h:Row K H p a) (d:a.length<64) (e:∀c,ai H c->Q (.bl (full a)) c):TH K b H Q
def LO(K:ah):Sp:=λa H Q _=>TH K a H Q
def bL(a b:O Int):O Int:=b.map λx=>a.getD x.toNat 0
def rX(h:full a=af)(c:x∈a):0<=x/\x<a.length:=by
 have b:=(rM h).subset c;unfold bB at b;obtain⟨i,d,rfl⟩:=Yf.mp b;have:=Wm.mp d;omega
abbrev kh:O ar:=["row"]
def Zc9:aP kh kh (aJ Iz):=.aY
def Zc_(F:aM K "is_turn" "is_turn" Iz f fd)(n:Bl mg):aB P w K mg I aL 1 f fd kh (LO K):=by
 refine F.o Zc9 @λbw A B vs Q E s H hr h=>?_;obtain⟨p,r,rfl,L,W,q⟩:=h;have hu:=hr.r8;refine⟨_,(aj (aR (e_ (gQ (Zj0 (K:=K) rfl rfl) rfl n.Zi5 Zhz (aa (jS (x:="number") (fr:=[]) (cl:=[]) rfl (.ir trivial trivial) (Zhx (pv 0)) (λ_ _ _ _=>nI) (λ_ _ _ _=>(ni K n (pv 0) (mQ rfl n.Cz Cf)))) ae))) (au (aH ku)) aW) (au (aH (eY (Tc hu) (gQ (sortedK (K:=K) rfl) rfl n.BX BH (aa (pv 0) ae)) (fO (F7 rfl) rfl n.xC xv (aa (fO Bo rfl n.kY xh (aa (cT K n (pv 0)) ae)) ae)))))),?_⟩;have J:(r.map V.int).length=r.length:=Ya _;have k:∀(D:Z) (a:Hp),ai H a->a D=U (.lst ((List.replicate r.length a8).map V.bl))->
   ∃(R:Z) (bs:O cm),[V.ref D]=[V.ref R]/\aq K a R (bs.map V.bl)/\tB (tC (V.bl (bs.any id))) [] a (λc T=>if c=af then Q (.bl a8) T else
    (UJ K a8 (gX 0)) [U (.ref p)] T Q):=λD a N m=>by
  refine⟨D,_,rfl,aq.of m,_,rfl,?_⟩;rw[any_false];refine bW ?_;exact Ze3 rfl (Row.same N L) W λH' g=>q H' (N.trans g)
 have j:∀(D:Z),H D=aG->∀(i:Nat) (v:V) (d:O V) (a:Hp),(r.map V.int)[i]?=U v->(ai H a/\a D=U (.lst d)/\d=(List.replicate i a8).map V.bl)->
   oi (Dc K) (iI (gX 0) (iI (tC (V.ty "bool")) jZ)) [U v] a λy G=>G D=U (.lst d)/\d.length<sizeLine/\
    (ai H (upd G D (.lst (d++[y])))/\upd G D (.lst (d++[y])) D=U (.lst (d++[y]))/\d++[y]=(List.replicate (i+1) a8).map V.bl):=λD l i v d a t ⟨g,m,e⟩=>by
  obtain⟨z,rfl,X⟩:=nJ t;have eM:i<r.length:=(Yj.mp X).1;refine⟨_,rfl,_,_,_,a8,rfl,.int z,KA,m,?_,λb o q=>?_,aU,?_⟩
  ·rw[e,Ya,W4];exact kU (by omega)
  ·rw[aK (cA q l)];exact g b o q
  ·rw[e,ED,Yo];rfl
 refine⟨_,rfl,p,rfl,?_⟩;rcases L with u|u
 ·refine .inl ⟨⟨_,u⟩,λD l=>Ir (λi d a=>ai H a/\a D=U (.lst d)/\d=(List.replicate i a8).map V.bl) ⟨cC l _,aU,rfl⟩ (λi d a _ ⟨g,_,_⟩=>g.seq u) (λi v d a t h=>mV (cZ (j D l i v d a t h))) ?_⟩;rintro d a ⟨g,m,e⟩;exact k D a g (by rw[m,e,J])
 ·refine .inr ⟨⟨_,u⟩,λD l=>BV (λi d a=>ai H a/\a D=U (.lst d)/\d=(List.replicate i a8).map V.bl) ⟨cC l _,aU,rfl⟩ (λi d a _ ⟨g,_,_⟩=>g.kg u) (λi v d a t h=>mV (cZ (j D l i v d a t h))) ?_⟩;rintro d a ⟨g,m,e⟩;exact k D a g (by rw[m,e,J])
inductive R3(K:ah)(g:O V)(H:Hp)(Q:VK):Prop
 |mk (a b:Z) (c d:O Int) (l:g=[.ref a,.ref b]) (m:az K H a (c.map V.int)) (j:az K H b (d.map V.int)) (k:(∀x∈c,0<=x/\x<d.length)) (i:c.length<64) (h:∀(t:Z) (e:Hp),H t=aG->ai H e->e t=U (.tup ((bL d c).map V.int))->Q (.ref t) e):R3 K g H Q
def Lm(K:ah):Sp:=λa H Q _=>R3 K a H Q
abbrev pI:O ar:=["first","then"]
def Zcf:aP pI pI (aJ Ho):=.aY
def Zcg(F:aM K "followed" "followed" Ho f fd)(L:Bl mg):aB P w K mg I aL 1 f fd pI (Lm K):=by
 refine F.o Zcf λs H N h=>?_;obtain⟨a,b,k,m,rfl,y,J,E,Q,q⟩:=h;have B:(bL m k).length=k.length:=by unfold bL;rw[Ya]
 refine⟨_,(au (aH (fO (wu) rfl L.oQ oN (aa (jS (x:="section") (fr:=[("then",1)]) (cl:=[("then",s.heap.objs.size+1)]) rfl (.ir ⟨rfl,trivial⟩ ⟨⟨rfl,.inl rfl,.inl rfl,rfl⟩,trivial⟩) (Kr (pv 0)) (λ_ _ _ _=>nI) (λ_ _ _ _=>(aI (iT K) (pv 1) (pv 0)))) ae)))),?_⟩;refine⟨_,rfl,a,rfl,⟨_,y⟩,λD u=>BV (λi e g=>ai H g/\g D=U (.lst e)/\e=((bL m k).take i).map V.int) ⟨cC u _,aU,rfl⟩ (λi e g _ ⟨c,_,_⟩=>c.kg y) ?_ ?_⟩
 ·rintro i v e g G ⟨c,l,j⟩;obtain⟨z,rfl,p⟩:=nJ G;have A:=E z (Yg p);refine mV (cZ ⟨_,rfl,_,rfl,b,_,_,_,rfl,rfl,c.kg J,oV A.1 A.2,l,?_,λd o n=>?_,aU,?_⟩)
  ·rw[j,Ya,Wb,B];exact kU (by omega)
  ·rw[aK (cA n u)];exact c d o n
  ·rw[j,Y1,Iu];unfold bL;rw[Ye,p];rfl
 ·rintro e g ⟨c,l,j⟩;refine⟨D,_,rfl,.inl ⟨aq.of l,λt r=>q t _ (c.free r) (c.trans (cC r _)) ?_⟩⟩;rw[aU,j,Ya,Wz (by rw[B];exact m6 _)]
def lF(x:Int):O Int->Nat
 |[]=>0
 |y::r=>if y=x then 0 else lF x r+1
theorem B4{x:Int}:∀{l:O Int},x∈l->l[lF x l]?=U x/\∀m,m<lF x l->l[m]?≠U x
 |[],h=>by cases h
 |y::r,h=>by
  unfold lF;by_cases e:y=x;·grind
  ·rw[bt e];obtain⟨c,b⟩:=B4 ((Yq.mp h).resolve_left λz=>e z.symm);refine⟨by rwa[List.getElem?_cons_succ],λm a=>?_⟩;cases m with
   |zero=>grind
   |succ m=>grind
def BK(b:l.Nodup)(h:l[k]?=U x):lF x l=k:=by
 obtain⟨a,c⟩:=B4 (Yg h);exact(List.getElem?_inj (by rcases Yj.mp a with⟨z,_⟩;exact z) b).mp (a.trans h.symm)
def inv(a:O Int):O Int:=(bB a.length).map λi=>(lF i a:Int)
def fV(a:O Int):(inv a).length=a.length:=by unfold inv;rw[Ya,fN]
def Ck{i:Nat}(h:i<xs.length):(inv xs)[i]?=U (lF (i:Int) xs:Int):=by
 unfold inv;rw[Ye,nH h];rfl
def Bz(h:full xs=af):xs.Nodup:=(rM h).nodup_iff.mpr (D3.Hk _)
def QC(h:full xs=af)(a:i<xs.length):(i:Int)∈xs:=(rM h).symm.subset (Yg (nH a))
def kr(h:full xs=af):full (inv xs)=af:=by
 have p:(xs.map λi=>(lF i xs:Int)).Perm (inv xs):=(rM h).map _;have e:xs.map (λi=>(lF i xs:Int))=bB xs.length:=by
  refine Ww λi=>?_;rw[Ye];by_cases a:i<xs.length
  ·rw[nH a,Yc a];show U (lF xs[i] xs:Int)=U (i:Int);rw[BK (Bz h) (Yc a)]
  ·rw[Y4 (gV a),Y4 (by rw[fN];exact gV a)];rfl
 rw[e] at p;exact uo p.symm
def inv_inv(h:full xs=af):inv (inv xs)=xs:=by
 refine Ww λi=>?_;by_cases a:i<xs.length
 ·rw[Ck (by rwa[fV]),Yc a];have b:=rX h (Jl a);have c:(xs[i]).toNat<xs.length:=by omega
  have e:((xs[i].toNat:Nat):Int)=xs[i]:=by omega
  have g:(inv xs)[(xs[i]).toNat]?=U (i:Int):=by rw[Ck c,e,BK (Bz h) (Yc a)]
  rw[BK (Bz (kr h)) g,e]
 ·rw[Y4 (by rw[fV,fV];exact gV a),Y4 (gV a)]
def QD(a:i<xs.length):(inv xs).take (i+1)=(inv xs).take i++[(lF (i:Int) xs:Int)]:=by
 rw[Y1,Ck a];rfl
inductive TK(d:O V)(H:Hp)(Q:VK):Prop
 |mk (a:Z) (b:O Int) (i:d=[.ref a]) (j:H a=U (.tup (b.map V.int))) (g:b.length<64) (h:full b=af) (e:∀(t:Z) (c:Hp),H t=aG->ai H c->c t=U (.tup ((inv b).map V.int))->Q (.ref t) c):TK d H Q
def Dg:Sp:=λa H Q _=>TK a H Q
abbrev pJ:O ar:=["turn"]
def ZaQ:aP pJ pJ (aJ F9):=.aY
def ZaR(F:aM K "turned_back" "turned_back" F9 f fd)(p:Bl mg):aB P w K mg I aL 1 f fd pJ Dg:=by
 refine F.ok ZaQ (λG H Q E h=>?_) (λT A l s L G Q E R h=>?_)
 ·obtain⟨a,b,rfl,_⟩:=h;rfl
 obtain⟨a,b,rfl,z,N,J,q⟩:=h;refine⟨_,(au (aH (fO (wu) rfl p.oQ oN (aa (jS (x:="section") (fr:=[("turn",0)]) (cl:=[("turn",s.heap.objs.size+1)]) rfl (.ir ⟨rfl,trivial⟩ ⟨⟨rfl,.inl rfl,.inl rfl,rfl⟩,trivial⟩) (rL rfl p.kY (aa (cT K p (pv 0)) ae)) (λ_ _ _ _=>nI) (λ_ _ _ _=>(Ou (pv 1) (aa (pv 0) ae)))) ae)))),?_⟩;have g:(b.map V.int).length=b.length:=Ya _;refine⟨_,rfl,a,_,rfl,.inr (az.of z),_,rfl,by rw[g];omega,by rw[g];omega,λD y=>zd
   (λi e k=>ai L k/\k D=U (.lst e)/\e=((inv b).take i).map V.int) ⟨cC y _,aU,rfl⟩ ?_ ?_⟩
 ·rintro i e k m ⟨c,n,j⟩;rw[Y6,g] at m;rw[Ec];have u:=B4 (QC J m);have B:=c _ _ z;refine mV (cZ ⟨_,rfl,a,b,rfl,B,_,rfl,(i:Int),lF (i:Int) b,rfl,B,u.1,u.2,n,?_,λd o r=>?_,aU,?_⟩)
  ·rw[j,Ya,Wb,fV];exact kU (by omega)
  ·rw[aK (cA r y)];exact c d o r
  ·rw[j,QD m,Yo];rfl
 ·rintro e k ⟨c,n,j⟩;refine⟨D,_,rfl,.inl ⟨aq.of n,λt v=>q t _ (c.free v) (c.trans (cC v _)) ?_⟩⟩;rw[aU,j,Y6,g,Wz (by rw[fV];exact m6 _)]
inductive PR(b:O V)(H:Hp)(Q:VK):Prop
 |mk (n:Nat) (d:b=[.int (n:Int)]) (e:n<=1000) (c:∀(t:Z) (a:Hp),H t=aG->ai H a->a t=U (.tup ((bB n).map V.int))->Q (.ref t) a):PR b H Q
def Kh:Sp:=λa H Q _=>PR a H Q
def Zfs:aP ["size"] ["size"] (aJ Kg):=.aY
def Zft(F:aM K "still" "still" Kg f fd)(c:Bl mg):aB P w K mg I aL 1 f fd ["size"] Kh:=by
 refine F.o Zfs λs H e h=>?_;obtain⟨n,rfl,d,q⟩:=h;refine⟨_,(au (aH (fO (Of rfl) rfl c.oQ oN (aa (fO Bo rfl c.kY xh (aa (pv 0) ae)) ae)))),?_⟩;exact⟨_,rfl,_,rfl,λr a=>⟨r,n,rfl,aU,d,λt b=>q t _ ((cC a _).free b) ((cC a _).trans (cC b _)) aU⟩⟩
inductive R4(K:ah)(b:O V)(H:Hp)(Q:VK):Prop
 |mk (p:Z) (a:O Int) (h:b=[.ref p]) (i:az K H p (a.map V.int)) (e:a.length<64) (g:full a=af) (d:∀c,ai H c->Q .aE c):R4 K b H Q
def Ln(K:ah):Sp:=λa H Q _=>R4 K a H Q
inductive TL(K:ah)(g:O V)(H:Hp)(Q:VK):Prop
 |mk (a b:Z) (c d:O Int) (n:g=[.ref a,.ref b]) (o:az K H a (c.map V.int)) (l:az K H b (d.map V.int)) (m:c.length<64) (k:full c=af) (j:full d=af) (i:c.length=d.length) (h:∀(t:Z) (e:Hp),H t=aG->ai H e->e t=U (.tup ((bL d c).map V.int))->Q (.ref t) e):TL K g H Q
def LP(K:ah):Sp:=λa H Q _=>TL K a H Q
inductive TM(d:O V)(H:Hp)(Q:VK):Prop
 |mk (a:Z) (b:O Int) (i:d=[.ref a]) (j:H a=U (.tup (b.map V.int))) (g:b.length<64) (h:full b=af) (e:∀(t:Z) (c:Hp),H t=aG->ai H c->c t=U (.tup ((inv b).map V.int))->Q (.ref t) c):TM d H Q
def VD:Sp:=λa H Q _=>TM a H Q
inductive QE(K:ah)(c:O V)(H:Hp)(Q:VK):Prop
 |mk (l e:Z) (d:O Z) (n:Nat) (m:c=[.ref l]) (o:aq K H l ((e::d).map V.ref)) (j:2<=n) (k:n<=8) (i:(∀a∈e::d,∃b:O Int,az K H a (b.map V.int)/\b.length=n/\full b=af)) (h:∀g,ai H g->Q .aE g):QE K c H Q
def KO(K:ah):Sp:=λa H Q _=>QE K a H Q
inductive Oz(K:ah)(c:O V)(H:Hp)(Q:VK):Prop
 |mk (m f w:Z) (a b:O Int) (n:c=[.ref m,.ref f,.ref w]) (o:az K H m (a.map V.int)) (k:az K H f ((bL a b).map V.int)) (l:az K H w (b.map V.int)) (j:full a=af) (i:full b=af) (h:a.length=b.length) (g:a.length<=8) (e:∀d,ai H d->Q .aE d):Oz K c H Q
def PU(K:ah):Sp:=λa H Q _=>Oz K a H Q
def uf(b a:O Int):(bL b a).length=a.length:=by unfold bL;rw[Ya]
def JI(g:full xs=af)(d:full a=af)(e:xs.length=a.length):full (bL xs a)=af:=by
 have c:(bL xs a).Perm ((bB a.length).map λx=>xs.getD x.toNat 0):=(rM d).map _;have h:((bB a.length).map λx=>xs.getD x.toNat 0)=xs:=by
  refine Ww λi=>?_;rw[Ye];by_cases b:i<a.length
  ·rw[nH b]
   grind
  ·rw[Y4 (by rw[fN];exact gV b),Y4 (eL (jn e) (gV b))];rfl
 rw[h] at c;exact uo (c.trans (rM g))
abbrev Zjj(n:Nat)(m f w d:Z):O (ar×V):=[("size",.int (n:Int)),("mother",.ref m),("father",.ref f),("wife",.ref w),("steps",.ref d)]
abbrev zR(m f w d b c a:Z):O (Key×V):=[(.inr "c",.ref m),(.inr "k",.ref f),(.inr "w",.ref w),(.inr "m",.ref d),(.inr "f",.ref b),(.inr "h",.ref c),(.inr "s",.ref a)]
def bO(H:Hp)(a:Z)(b:O Int):Prop:=H a=U (.tup (b.map V.int))
inductive QF(H:Hp)(C L:Z)(a b:O Int):Prop
 |mk (h d m f w g c e st:Z) (q:H L=U (.ins C h (Zjj a.length m f w d))) (r:H d=U (.dK (zR m f w g c e st))) (o:bO H m a) (p:bO H f (bL a b)) (n:bO H w b) (l:bO H g (inv a)) (k:bO H c (inv (bL a b))) (j:bO H e (inv b)) (i:bO H st (bB a.length)):QF H C L a b
def iY(H:Hp)(C L:Z)(b a:O Int):Prop:=QF H C L b a
def iY.same{H b:Hp}{C L:Z}{a ys:O Int}(g:ai H b)(h:iY H C L a ys):iY b C L a ys:=by
 obtain⟨t,d,m,f,w,i,c,e,st,s,r,q,p,o,n,l,k,j⟩:=h;exact⟨t,d,m,f,w,i,c,e,st,g _ _ s,g _ _ r,g _ _ q,g _ _ p,g _ _ o,g _ _ n,g _ _ l,g _ _ k,g _ _ j⟩
inductive QG(C:Z)(e:O V)(H:Hp)(Q:VK):Prop
 |mk (x g m f w:Z) (a c:O Int) (r:e=[.ref x,.ref m,.ref f,.ref w]) (s:H x=U (.ins C g [])) (p:bO H m a) (q:bO H f (bL a c)) (n:bO H w c) (l:full a=af) (k:full c=af) (j:a.length=c.length) (i:2<=a.length) (h:a.length<=8) (t:∀d,(∀b o,H b=U o->b≠x->d b=U o)->iY d C x a c->Q .aE d):QG C e H Q
def TN(C:Z):Sp:=λa H Q _=>QG C a H Q
inductive O1(C:Z)(d:O V)(H:Hp)(Q:VK):Prop
 |mk (m w:Z) (a b:O Int) (n:d=[.ref m,.ref w]) (o:bO H m a) (k:bO H w b) (l:full a=af) (j:full b=af) (i:a.length=b.length) (h:2<=a.length) (g:a.length<=8) (e:∀(L:Z) (c:Hp),ai H c->iY c C L a b->Q (.ref L) c):O1 C d H Q
def QH(C:Z):Sp:=λa H Q _=>O1 C a H Q
structure uJ(K:ah)(C:Z):Prop where
 cls:gZ K C
 uD:c9 K C "size"
 Zfu:c9 K C "mother"
 Zfv:c9 K C "father"
 Ziq:c9 K C "wife"
 Ki:c9 K C "steps"
def Za8:aP kh kh (aJ Gu):=.aY
def Zir(F:aM K "check_turn" "check_turn" Gu f fd)(a:HasFn P w K mg I 1 "is_turn" kh (LO K)):aB P w K mg I aL 2 f fd kh (Ln K):=by
 refine F.o Za8 λs H d h=>?_;obtain⟨p,b,rfl,e,c,i,q⟩:=h;refine⟨_,(au (aR (ju (e_ (aQ a d (aa (pv 0) ae)))) ia aW)),?_⟩;refine⟨_,rfl,p,b,rfl,.inr e,c,λj g=>⟨_,rfl,?_⟩⟩;rw[i];exact bW (q j g)
def Zef:aP pI pI (aJ JE):=.aY
def Zjk(F:aM K "behind" "behind" JE f fd)(j:HasFn P w K mg I 2 "check_turn" kh (Ln K))(x:HasFn P w K mg I 1 "followed" pI (Lm K))(r:Bl mg):aB P w K mg I aL 3 f fd pI (LP K):=by
 refine F.o Zef λs H d h=>?_;obtain⟨a,b,i,e,rfl,m,l,k,o,G,eq,q⟩:=h;refine⟨_,(aj (cE (aQ j d (aa (pv 0) ae))) (aj (cE (aQ j d (aa (pv 1) ae))) (aj (aR (bp k9 (cT K r (pv 0)) (cT K r (pv 1))) ia aW) (au (aH (aQ x d (aa (pv 0) (aa (pv 1) ae)))))))),?_⟩;refine⟨_,rfl,a,i,rfl,m,k,o,λN n=>?_⟩;refine⟨_,rfl,b,e,rfl,n.kg l,by omega,G,λL E=>?_⟩;have g:=n.trans E;have v:=g.kg m;have u:=g.kg l;have p:∀c:O Int,(c.map V.int).length=c.length:=λc=>Ya _;refine⟨_,rfl,a,_,rfl,.inr v,_,rfl,b,_,rfl,.inr u,rfl,_,rfl,xI (by rw[p,p,eq]) (aT ?_)⟩;exact⟨_,rfl,_,rfl,a,b,i,e,rfl,v,u,λz A=>by exact eq▸rX o A,k,λt J y D B=>q t J (g.free y) (g.trans D) B⟩
def ZgF:aP pJ pJ (aJ KN):=.aY
def Zjl(F:aM K "back" "back" KN f fd)(j:HasFn P w K mg I 2 "check_turn" kh (Ln K))(k:HasFn P w K mg I 1 "turned_back" pJ Dg)(p:Bl mg):aB P w K mg I aL 3 f fd pJ VD:=by
 refine F.o ZgF λs H e h=>?_;obtain⟨a,c,rfl,g,d,i,q⟩:=h;refine⟨_,(aj (cE (aQ j e (aa (pv 0) ae))) (au (aH (aQ k e (aa (pv 0) ae))))),?_⟩;refine⟨_,rfl,a,c,rfl,az.of g,d,i,λr b=>?_⟩;exact⟨_,rfl,a,c,rfl,b _ _ g,d,i,λt o l n m=>q t o (b.free l) (b.trans n) m⟩
def Gj:aP ["rows","size","row"] ["rows"] (aJ Gv):=.aY
theorem ZgG(F:aM K "check_rows" "check_rows" Gv f fd)(A:HasFn P w K mg I 1 "is_turn" kh (LO K))(Q:mg "LEAST_SIZE"=U (.int 2 t1))(R:mg "MOST_SIZE"=U (.int 8 W))(x:Bl mg):aB P w K mg I aL 2 f fd ["rows"] (KO K):=by
 refine F.o Gj λs H E h=>?_;obtain⟨l,c,y,n,rfl,p,n2,X,b,q⟩:=h;refine⟨_,(aj (bh 1 Gj.nd (cT K x (aI (iL K) (pv 0) aw))) (aj (aR (PW.pt (pw_or (bp nP (pv 1) (dA (v:=.int (2)) rfl Q ⟨_,rfl⟩)) (pw_or1 (bp CO (pv 1) (dA (v:=.int (8)) rfl R ⟨_,rfl⟩))))) ia aW) (au (ic hY rfl (fX (K:=K) rfl (pv 0)) (bG 2 Gj.nd) (au (aR (PW.pt (pw_or (bp k9 (cT K x (pv 2)) (pv 1)) (pw_or1 (ju (e_ (aQ A E (aa (pv 2) ae))))))) ia aW)))))),?_⟩;have u:∀k:O Int,(k.map V.int).length=k.length:=λk=>Ya _;obtain⟨T,J,D,f0⟩:=b c Yk;refine⟨_,rfl,l,_,0,.ref c,rfl,rfl,p,eZ rfl,c,_,rfl,.inr J,?_⟩;rw[u,D];refine⟨_,rfl,_,_,rfl,rfl,_,rfl,bc (λr=>absurd (fb r) (by omega)) (λ_=>?_)⟩;refine⟨_,rfl,_,_,rfl,rfl,_,rfl,bc (λr=>absurd (fb r) (by omega)) (λ_=>aT ?_)⟩;refine⟨_,rfl,l,rfl,⟨_,p⟩,kW (λi j d=>ai H d/\∃m:bR V,j=[U (.ref l),U (.int (n:Int)),m]) ⟨ai.refl _,aG,rfl⟩ (λi j d _ ⟨g,_⟩=>g.seq p) ?_ ?_⟩
 ·rintro i v j d o ⟨g,m,rfl⟩;rw[Ye] at o;obtain⟨a,G,rfl⟩:∃a,a∈c::y/\V.ref a=v:=by
   cases e:(c::y)[i]? with
   |none=>rw[e] at o;cases o
   |some a=>grind
  obtain⟨z,t,B,N⟩:=b a G;refine⟨_,rfl,a,_,rfl,.inr (g.kg t),_,rfl,rfl,_,rfl,xI (by rw[u,B]) ?_⟩;refine⟨_,rfl,a,z,rfl,.inr (g.kg t),by omega,λH2 L=>⟨_,rfl,?_⟩⟩;rw[N];exact bW (aT ⟨g.trans L,_,rfl⟩)
 ·rintro j d ⟨g,m,rfl⟩;exact q d g
abbrev MY:O ar:=["mother","father","wife"]
def Fu:aP ["mother","father","wife","by_mothers","section"] MY (aJ Fx):=.aY
def Zda(F:aM K "check_parents" "check_parents" Fx f fd)(r:HasFn P w K mg I 3 "behind" pI (LP K))(p:Bl mg):aB P w K mg I aL 4 f fd MY (PU K):=by
 refine F.o Fu λs H v h=>?_;obtain⟨m,j,n,b,a,rfl,z,o,y,B,A,eq,G,q⟩:=h;refine⟨_,(aj (bh 3 Fu.nd (aQ r v (aa (pv 2) (aa (pv 0) ae)))) (au (ic hY rfl (rL rfl p.kY (aa (cT K p (pv 1)) ae)) (bG 4 Fu.nd) (au (aR (bp k9 (aI (iT K) (pv 3) (pv 4)) (aI (iT K) (pv 1) (pv 4))) ia aW))))),?_⟩;have k:∀d:O Int,(d.map V.int).length=d.length:=λd=>Ya _;refine⟨_,rfl,_,rfl,n,m,a,b,rfl,y,z,by omega,A,B,eq.symm,λt D E g u=>?_⟩;have J:=uf b a;refine⟨_,rfl,j,_,rfl,.inr (g.kg o),_,rfl,by rw[k];omega,by rw[k];omega,Io
  (λi c l=>l=D/\∃e:bR V,c=[U (.ref m),U (.ref j),U (.ref n),U (.ref t),e]) ⟨rfl,aG,rfl⟩ ?_ ?_⟩
 ·rintro i c l x ⟨rfl,e,rfl⟩;rw[Y6,k] at x;have at_:eG ((bL b a).map V.int) (0+(i:Int))=U (.int ((bL b a).getD (0+(i:Int)).toNat 0)):=oV (by omega) (by omega);refine⟨_,rfl,_,rfl,t,_,_,_,rfl,rfl,az.of u,at_,_,rfl,_,rfl,j,_,_,_,rfl,rfl,g.kg o,at_,rfl,_,rfl,xI rfl (aT ⟨rfl,_,rfl⟩)⟩
 ·rintro c l ⟨rfl,e,rfl⟩;exact q _ g
def yq{f:ar}(h:fs.length<=n):(cS f y fs).length<=n+1:=Yz (GJ f y fs) (Xv h)
def fs4(a b c d:V):cS "wife" d (cS "father" c (cS "mother" b (cS "size" a [])))=([("size",a),("mother",b),("father",c),("wife",d)]:O (ar×V)):=rfl
def fs5(a b c d e:V):cS "steps" e [("size",a),("mother",b),("father",c),("wife",d)]=([("size",a),("mother",b),("father",c),("wife",d),("steps",e)]:O (ar×V)):=rfl
def ds7(a b c d e f g:V):qr [] [(.inr "c",a),(.inr "k",b),(.inr "w",c),(.inr "m",d),(.inr "f",e),(.inr "h",f),(.inr "s",g)]=[(.inr "c",a),(.inr "k",b),(.inr "w",c),(.inr "m",d),(.inr "f",e),(.inr "h",f),(.inr "s",g)]:=rfl
abbrev Dh:O ar:=["self","mother","father","wife"]
def Zbx:aP Dh Dh (aJ GZ):=.aY
def ZgH(F:aM K "__init__" "Land.__init__" GZ f fd)(p:uJ K C)(wz:HasFn P w K mg I 2 "check_rows" ["rows"] (KO K))(FH:HasFn P w K mg I 4 "check_parents" MY (PU K))
  (zS:HasFn P w K mg I 3 "back" pJ VD)(xx:HasFn P w K mg I 1 "still" ["size"] Kh)(bl:Bl mg):aB P w K mg I aL 5 f fd Dh (TN C):=by
 refine F.o Zbx λs H y h=>?_;obtain⟨x,k,m,i,c,j,v,rfl,hx,hM,hF,hW,T,R,eq,l2,E,q⟩:=h;refine⟨_,(aj (cE (aQ wz y (aa (zJ (aa (pv 1) (aa (pv 2) (aa (pv 3) ae)))) ae))) (aj (cE (aQ FH y (aa (pv 1) (aa (pv 2) (aa (pv 3) ae))))) (aj (zI (pv 0) (cT K bl (pv 1)) rfl) (aj (zI (pv 0) (pv 1) rfl) (aj (zI (pv 0) (pv 2) rfl) (aj (zI (pv 0) (pv 3) rfl) (au (zI (pv 0) (Ci (kX aV (pv 1) (kX aV (pv 2) (kX aV (pv 3) (kX aV (aQ zS y (aa (pv 1) ae)) (kX aV (aQ zS y (aa (pv 2) ae)) (kX aV (aQ zS y (aa (pv 3) ae)) (kX aV (aQ xx y (aa (cT K bl (pv 1)) ae)) Cg))))))) rfl rfl (λz=>nomatch z) (Jq rfl)) rfl)))))))),?_⟩;have el:∀zs:O Int,(zs.map V.int).length=zs.length:=λzs=>Ya _;have XE:=JI T R eq;have al:=uf j v;refine⟨_,rfl,_,rfl,_,rfl,by show 3<=sizeLine;decide,λl nl=>?_⟩;have Q:=cC nl (.lst [.ref m,.ref i,.ref c]);refine⟨l,m,[i,c],j.length,rfl,aq.of aU,l2,E,λa A=>?_,λH2 g2=>?_⟩
 ·rcases Yq.mp A with rfl|A;·exact⟨j,az.of (Q _ _ hM),rfl,T⟩
  ·rcases Yq.mp A with rfl|A;·exact⟨bL j v,az.of (Q _ _ hF),by rw[al,eq],XE⟩
   ·rw[Ym] at A;subst A;exact⟨v,az.of (Q _ _ hW),eq.symm,R⟩
 have D:=Q.trans g2;refine⟨_,rfl,_,rfl,_,rfl,m,i,c,j,v,rfl,az.of (D _ _ hM),az.of (D _ _ hF),az.of (D _ _ hW),T,R,eq,E,λX g3=>?_⟩;have g:=D.trans g3;have Ed:=g _ _ hx;have Ee:=g _ _ hM;have MZ:=g _ _ hF;have M0:=g _ _ hW;have nm:m≠x:=λe=>by rw[e,Ed] at Ee;cases Ee
 have nf:i≠x:=λe=>by rw[e,Ed] at MZ;cases MZ
 have nw:c≠x:=λe=>by rw[e,Ed] at M0;cases M0
 refine⟨_,rfl,m,_,rfl,.inr (az.of Ee),_,rfl,x,C,k,_,rfl,Ed,p.cls,p.uD,by decide,?_⟩;refine⟨_,rfl,_,rfl,x,C,k,_,rfl,aU,p.cls,p.Zfu,Jb (yq (Yd 0)) (by decide),?_⟩;refine⟨_,rfl,_,rfl,x,C,k,_,rfl,aU,p.cls,p.Zfv,Jb (yq (yq (Yd 0))) (by decide),?_⟩;refine⟨_,rfl,_,rfl,x,C,k,_,rfl,aU,p.cls,p.Ziq,Jb (yq (yq (yq (Yd 0)))) (by decide),?_⟩;rw[JY,JY,JY,el,fs4];have M3:upd X x (.ins C k [("size",.int (j.length:Int)),("mother",.ref m),("father",.ref i),("wife",.ref c)]) x=U (.ins C k [("size",.int (j.length:Int)),("mother",.ref m),("father",.ref i),("wife",.ref c)]):=aU;have B:∀b o,X b=U o->b≠x->upd X x (.ins C k [("size",.int (j.length:Int)),("mother",.ref m),("father",.ref i),("wife",.ref c)]) b=U o:=λb o e n=>by rw[aK n];exact e
 generalize upd X x (.ins C k [("size",.int (j.length:Int)),("mother",.ref m),("father",.ref i),("wife",.ref c)])=H4 at M3 B⊢;have M4:=B _ _ Ee nm;have XF:=B _ _ MZ nf;have XG:=B _ _ M0 nw;intro d nd;have r:=cC nd (.dK []);have M5:upd H4 d (.dK []) d=U (.dK []):=aU;generalize upd H4 d (.dK [])=H5 at r M5⊢;refine⟨_,rfl,_,rfl,_,rfl,?_⟩;refine⟨_,rfl,m,j,rfl,r _ _ M4,lL E (by decide),T,λL H6 nim g6 M6=>?_⟩;refine⟨_,rfl,i,bL j v,rfl,g6 _ _ (r _ _ XF),by omega,XE,λG H7 njf g7 M7=>?_⟩;refine⟨_,rfl,c,v,rfl,g7 _ _ (g6 _ _ (r _ _ XG)),by omega,R,λJ H8 niw g8 hiw=>?_⟩;have XH:=(g6.trans g7).trans g8;refine⟨_,rfl,m,_,rfl,.inr (az.of (XH _ _ (r _ _ M4))),j.length,by rw[el];rfl,eL E (by decide),λst W Ef N dB=>?_⟩;have t:=XH.trans N;refine⟨t _ _ M5,zR m i c L G J st,rfl,by show 7<=15;decide,?_⟩;have kj:d≠x:=cA M3 nd |>.symm;have XI:=t _ _ (r _ _ M3);refine⟨_,rfl,x,C,k,_,rfl,by rw[aK kj.symm];exact XI,p.cls,p.Ki,by show 4<1000;decide,?_⟩;rw[fs5,ds7];have key:∀{b:Z} {o:HO},W b=U o->b≠d->b≠x->upd (upd W d (.dK (zR m i c L G J st))) x (.ins C k [("size",.int (j.length:Int)),("mother",.ref m),("father",.ref i),("wife",.ref c),("steps",.ref d)]) b=U o:=λ{b o} e n1 n2=>by
  rw[aK n2,aK n1];exact e
 have u:∀{b:Z} {zs:O Int},W b=U (.tup (zs.map V.int))->bO (upd (upd W d (.dK (zR m i c L G J st))) x (.ins C k [("size",.int (j.length:Int)),("mother",.ref m),("father",.ref i),("wife",.ref c),("steps",.ref d)])) b zs:=λ{b zs} e=>
  key e (λz=>by rw[z,t _ _ M5] at e;cases e) (λz=>by rw[z,XI] at e;cases e)
 refine q _ (λb o e n=>?_) ⟨k,d,m,i,c,L,G,J,st,aU,by rw[aK kj];exact aU,u (t _ _ (r _ _ M4)),u (t _ _ (r _ _ XF)),u (t _ _ (r _ _ XG)),u (N _ _ (g8 _ _ (g7 _ _ M6))),u (N _ _ (g8 _ _ M7)),u (N _ _ hiw),u dB⟩;have e4:=B _ _ (g _ _ e) n;refine key (t _ _ (r _ _ e4)) (cA e4 nd) n
abbrev Di:O ar:=["mother","wife"]
def Zdb:aP Di Di (aJ IA):=.aY
def Zdc(F:aM K "land_of" "land_of" IA f fd)(N:HasFn P w K mg I 2 "check_rows" ["rows"] (KO K))(L:HasFn P w K mg I 3 "behind" pI (LP K))
  (KP:xJ P w K mg I 5 "Land" C Dh (TN C)):aB P w K mg I aL 7 f fd Di (QH C):=by
 refine F.o Zdb λs H p h=>?_;obtain⟨m,d,c,n,rfl,t,r,A,y,eq,G,E,q⟩:=h;refine⟨_,(aj (cE (aQ N p (aa (zJ (aa (pv 0) (aa (pv 1) ae))) ae))) (au (aH (Lg KP p (by decide) rfl (aa (pv 0) (aa (aQ L p (aa (pv 1) (aa (pv 0) ae))) (aa (pv 1) ae))))))),?_⟩;refine⟨_,rfl,_,rfl,by show 2<=sizeLine;decide,λl Q=>?_⟩;have v:=cC Q (.lst [.ref m,.ref d]);refine⟨l,m,[d],c.length,rfl,aq.of aU,G,E,λa i=>?_,λH2 X=>?_⟩
 ·rcases Yq.mp i with rfl|i;·exact⟨c,az.of (v _ _ t),rfl,A⟩
  ·rw[Ym] at i;subst i;exact⟨n,az.of (v _ _ r),eq.symm,y⟩
 have g:=v.trans X;refine⟨_,rfl,_,rfl,_,rfl,d,m,n,c,rfl,az.of (g _ _ r),az.of (g _ _ t),by omega,y,A,eq.symm,λfa B XJ W cY=>?_⟩;have u:=g.trans W;refine⟨_,rfl,λx k D AQ ne=>?_⟩;have AR:upd B k (.own x) x=aG:=by rw[aK (λz=>ne z.symm)];exact D
 have j:ai B (upd (upd B k (.own x)) x (.ins C k [])):=(cC AQ _).trans (cC AR _);refine⟨x,k,m,fa,d,c,n,rfl,aU,j _ _ (u _ _ t),j _ _ cY,j _ _ (u _ _ r),A,y,eq,G,E,λH5 T R=>⟨rfl,q x H5 (λb o e=>?_) R⟩⟩;have J:=u _ _ e;exact T b o (j _ _ J) (cA J D)
abbrev CD(a b:O Int):O (ar×O Int):=[("c",a),("k",bL a b),("w",b),("m",inv a),("f",inv (bL a b)),("h",inv b),("s",bB a.length)]
inductive QI(C:Z)(c:O V)(H:Hp)(Q:VK):Prop
 |mk (L:Z) (z:ar) (b a d:O Int) (h:c=[.ref L,.str z]) (i:iY H C L b a) (e:(z,d)∈CD b a) (g:∀t:Z,bO H t d->Q (.ref t) H):QI C c H Q
def KQ(C:Z):Sp:=λa H Q _=>QI C a H Q
def step_at{H:Hp}{a b ns:O Int}{z:ar}{m f w g d e c:Z}(h:(z,ns)∈CD a b)(p:bO H m a)(o:bO H f (bL a b))(n:bO H w b)(l:bO H g (inv a))(k:bO H d (inv (bL a b)))(j:bO H e (inv b))(i:bO H c (bB a.length)):
  ∃t,aX (zR m f w g d e c) (.inr z)=U (.ref t)/\bO H t ns:=by
 simp[Yq,Y3,hI] at h;rcases h with⟨rfl,rfl⟩|⟨rfl,rfl⟩|⟨rfl,rfl⟩|⟨rfl,rfl⟩|⟨rfl,rfl⟩|⟨rfl,rfl⟩|⟨rfl,rfl⟩;·exact⟨m,rfl,p⟩
 ·exact⟨f,rfl,o⟩
 ·exact⟨w,rfl,n⟩
 ·exact⟨g,rfl,l⟩
 ·exact⟨d,rfl,k⟩
 ·exact⟨e,rfl,j⟩
 ·exact⟨c,rfl,i⟩
abbrev Aa:O ar:=["self","letter"]
def Zby:aP Aa Aa (aJ G0):=.aY
def ZgI(F:aM K "step" "Land.step" G0 f fd)(a:uJ K C):aB P w K mg I aL 1 f fd Aa (KQ C):=by
 refine F.o Zby λs H b h=>?_;obtain⟨L,z,B,A,E,rfl,i,j,q⟩:=h;refine⟨_,(aj (aR (jU (mG (bF b) (pv 1) (pF K 0)) (by with_unfolding_all rfl)) ia aW) (au (aH (dF (bF b) (pF K 0) (pv 1) (λ_ _=>rfl))))),?_⟩;obtain⟨e,d,m,Q,D,N,G,J,st,c,y,x,v,u,r,p,o,n⟩:=i;obtain⟨t,k,l⟩:=step_at j x v u r p o n;have g:=k▸fw.k y;exact⟨_,rfl,_,rfl,L,C,e,_,.ref d,rfl,c,a.cls,a.Ki,rfl,d,_,rfl,g,_,rfl,bW (aT ⟨_,rfl,L,C,e,_,.ref d,rfl,c,a.cls,a.Ki,rfl,_,rfl,d,_,rfl,g,q t l⟩)⟩
structure JS where
 hd:O Nat
 ld:O (O Int)
 mem:O (Nat×O Nat)
 fr:O (Nat×O Int)
structure JL where
 J:Z
 ha:Z
 la:Z
 md:Z
 fd:Z
 fL:O Z
 hV:O Z
 bY:O Z
def JL.fp(l:JL):O Z:=l.J::l.ha::l.la::l.md::l.fd::l.hV
abbrev JF(n:Nat)(c b a fd:Z):O (ar×V):=[("size",.int (n:Int)),("heads",.ref c),("leads",.ref b),("members",.ref a),("free",.ref fd)]
def jf5(a b c d e:V):cS "free" e (cS "members" d (cS "leads" c (cS "heads" b (cS "size" a []))))=([("size",a),("heads",b),("leads",c),("members",d),("free",e)]:O (ar×V)):=rfl
abbrev eN(a:O Nat):O V:=a.map λi:Nat=>V.int (i:Int)
def bq(a:O Nat)(b:O Z):O (Key×V):=(a.zip b).map λp=>(.inl (p.1:Int),.ref p.2)
structure cH(H:Hp)(C:Z)(n:Nat)(l:JL)(st:JS):Prop where
 obj:∃dx,H l.J=U (.ins C dx (JF n l.ha l.la l.md l.fd))
 heads:H l.ha=U (.lst (eN st.hd))
 jx:H l.la=U (.lst (l.fL.map V.ref))
 lead:Paired (λa xs=>H a=U (.tup (xs.map V.int))) l.fL st.ld
 kF:H l.md=U (.dK (bq (st.mem.map (·.1)) l.hV))
 mem:Paired (λa p=>H a=U (.lst (eN p.2))) l.hV st.mem
 frees:H l.fd=U (.dK (bq (st.fr.map (·.1)) l.bY))
 free:Paired (λa p=>H a=U (.lst (p.2.map V.int))) l.bY st.fr
 nd:l.fp.Nodup
 out:∀a∈l.bY,a∉l.fp
def cH.same{H b:Hp}{C:Z}{n:Nat}{l:JL}{st:JS}(g:ai H b)(a:cH H C n l st):cH b C n l st:=
 ⟨let⟨c,h⟩:=a.obj;⟨c,g _ _ h⟩,g _ _ a.heads,g _ _ a.jx,L2.Paired.bI a.lead λ _ _=>g _ _,g _ _ a.kF,L2.Paired.bI a.mem λ _ _=>g _ _,g _ _ a.frees,L2.Paired.bI a.free λ _ _=>g _ _,a.nd,a.out⟩
theorem zf:∀{a:O α} {b:O β} {x:α},Paired F a b->x∈a->∃y,F x y:=by
 intro a b x p;induction p with
 |nil=>grind
 |cons f t c=>grind
def cH.ne{H:Hp}{C p:Z}{n:Nat}{l:JL}{b:JS}(a:cH H C n l b)(h:H p=aG):p∉l.fp:=by
 intro z;unfold JL.fp at z;simp[Yq] at z;rcases z with rfl|rfl|rfl|rfl|rfl|z
 ·obtain⟨c,e⟩:=a.obj
  grind
 ·rw[a.heads] at h;cases h
 ·rw[a.jx] at h;cases h
 ·rw[a.kF] at h;cases h
 ·rw[a.frees] at h;cases h
 ·obtain⟨y,e⟩:=zf a.mem z
  grind
theorem qf{g:Type}{H:Hp}{f:g->HO}:∀{as:O Z} {c:O (Nat×g)} {k:Nat} {v:g},Paired (λa p=>H a=U (f p.2)) as c->c.lookup k=U v->∃a,a∈as/\aX (bq (c.map (·.1)) as) (.inl (k:Int))=U (.ref a)/\H a=U (f v):=by
 intro as c k v j;induction j with
 |nil=>grind
 |@cons a p as c e t l=>
  intro h;have n:bq ((p::c).map (·.1)) (a::as)=(Sum.inl (p.1:Int),V.ref a)::bq (c.map (·.1)) as:=rfl;rw[Wy] at h;by_cases d:k=p.1
  ·have i:=beq_iff_eq.mpr d;rw[i] at h;exact⟨a,Yk,gU (by rw[d]),by rwa[←(Yn h)]⟩
  ·have i:=beq_eq_false_iff_ne.mpr d;rw[i] at h;obtain⟨b,m,q,w⟩:=l h;refine⟨b,Yw _ m,?_,w⟩;rw[n,fW (λz=>d (by have:=Eg z;exact my (mu this)))];exact q
def Zfw{q k:Nat}(z:((Sum.inl (q:Int):Key),v).1=.inl (k:Int)):k∈q::ks:=by
 grind
theorem BM:∀{as:O Z} {b:O Nat} {k:Nat},k∉b->aX (bq b as) (.inl (k:Int))=aG
 |[],b,k,_=>by unfold bq;rw[MC];rfl
 |a::as,[],k,_=>rfl
 |a::as,q::b,k,h=>by
  have c:bq (q::b) (a::as)=(Sum.inl (q:Int),V.ref a)::bq b as:=rfl;rw[c,fW (λz=>h (Zfw z))];exact BM λz=>h (Yw _ z)
theorem BA:∀{c:O Nat} {as:O Z} (k:Nat) (a:Z),c.length=as.length->bq c as++[(.inl (k:Int),.ref a)]=bq (c++[k]) (as++[a])
 |[],[],_,_,_=>rfl
 |q::c,b::as,k,a,h=>by
  have d:bq (q::c) (b::as)=(Sum.inl (q:Int),V.ref b)::bq c as:=rfl;rw[d,Xm,(BA k a (by simpa using h))];rfl
 |[],_::_,_,_,h=>by simp at h
 |_::_,[],_,_,h=>by simp at h
structure mM(K:ah)(C:Z):Prop where
 cls:gZ K C
 uD:c9 K C "size"
 jT:c9 K C "heads"
 oR:c9 K C "leads"
 w8:c9 K C "members"
 se:c9 K C "free"
def JS.more(n:Nat)(a:JS):JS:=⟨a.hd++[a.hd.length],a.ld++[bB n],a.mem++[(a.hd.length,[a.hd.length])],a.fr++[(a.hd.length,bB n)]⟩
inductive R5(C:Z)(c:O V)(H:Hp)(Q:VK)(E:XK):Prop
 |mk (x d:Z) (n:Nat) (g:c=[.ref x,.int (n:Int)]) (h:H x=U (.ins C d [])) (e:∀(l:JL) (a:Hp),l.J=x->l.hV=[]->(∀b∈l.fp,b≠x->H b=aG)->aF x H a->cH a C n l ⟨[],[],[],[]⟩->Q .aE a)
inductive HY(C:Z)(c:O V)(H:Hp)(Q:VK)(E:XK):Prop
 |mk (l:JL) (st:JS) (n i j a b:Nat) (h:c=[.ref l.J,.int (i:Int),.int (j:Int)]) (k:cH H C n l st) (e:st.hd[i]?=U a) (g:st.hd[j]?=U b) (d:Q (.bl (decide (a=b))) H)
inductive B5(C:Z)(d:O V)(H:Hp)(Q:VK)(E:XK):Prop
 |mk (l:JL) (st:JS) (n i h:Nat) (t a:O Int) (q:d=[.ref l.J,.int (i:Int)]) (r:cH H C n l st) (m:st.hd[i]?=some h) (o:st.ld[i]?=some t) (k:st.fr.lookup h=some a) (j:(∀z∈a,0<=z/\z<t.length)) (g:a.length<64) (e:∀(p:Z) (b:O Int) (c:Hp),H p=none->ai H c->b.Perm (a.map λz=>t.getD z.toNat 0)->b.Pairwise (·<=·)->c p=U (.lst (b.map V.int))->Q (.ref p) c)
inductive Lo(C:Z)(d:O V)(H:Hp)(Q:VK)(E:XK):Prop
 |mk (l:JL) (st:JS) (n:Nat) (p:d=[.ref l.J]) (q:cH H C n l st) (m:n<=1000) (o:st.hd.length<1000) (k:st.mem.length<=st.hd.length) (j:st.fr.length<=st.hd.length) (i:st.ld.length=st.hd.length) (h:st.hd.length∉st.mem.map (·.1)) (g:st.hd.length∉st.fr.map (·.1)) (e:∀(a:JL) (c:Hp),a.J=l.J->Out l.fp H c->(∀b∈a.fp,b∈l.fp\/H b=aG)->cH c C n a (st.more n)->Q (.int (st.hd.length:Int)) c)
def nK{i h:Nat}(e:is[i]?=U h):eG (eN is) (i:Int)=U (.int (h:Int)):=eZ (by rw[Ye,e];rfl)
abbrev Dj:O ar:=["self","size"]
def Za9:aP Dj Dj (aJ Gw):=.aY
theorem Zfx(F:aM K "__init__" "Joins.__init__" Gw f fd)(c:mM K C)(bl:Bl mg):aB P w K mg I aL 1 f fd Dj (R5 C):=by
 refine F.o Za9 λs H hr h=>?_;obtain⟨x,j,n,rfl,hx,q⟩:=h;refine⟨_,(aj (iD (K:=K) rfl (pv 0) (pv 1)) (aj (iD (K:=K) rfl (pv 0) (cV ae)) (aj (iD (K:=K) rfl (pv 0) (cV ae)) (aj (iD (K:=K) rfl (pv 0) rN) (au (iD (K:=K) rfl (pv 0) rN)))))),?_⟩;refine⟨_,rfl,_,rfl,x,C,j,[],rfl,hx,c.cls,c.uD,by show 0<1000;decide,λH1 L h1=>?_⟩;refine⟨by show 0<=sizeLine;exact Yx _,λp H2 D E e2=>⟨_,rfl,x,C,j,_,rfl,E _ _ h1,c.cls,c.jT,by show 1<1000;decide,λH3 J h3=>?_⟩⟩;refine⟨by show 0<=sizeLine;exact Yx _,λla H4 m v e4=>⟨_,rfl,x,C,j,_,rfl,v _ _ h3,c.cls,c.oR,by show 2<1000;decide,λH5 A h5=>?_⟩⟩;refine λmd H6 i r e6=>⟨_,rfl,x,C,j,_,rfl,r _ _ h5,c.cls,c.w8,by show 3<1000;decide,λH7 u h7=>?_⟩;refine λfe H8 g g8 e8=>⟨_,rfl,x,C,j,_,rfl,g8 _ _ h7,c.cls,c.se,by show 4<1000;decide,λH9 b9 h9=>?_⟩;rw[jf5] at h9;have T:aF x H8 H9:=b9;have W:aF x H6 H9:=u.trans ((aF.of g8).trans T);have X:aF x H4 H9:=A.trans ((aF.of r).trans W);have k2:aF x H2 H9:=J.trans ((aF.of v).trans X);have k0:aF x H H9:=L.trans ((aF.of E).trans k2);have l:p≠x:=λz=>by rw[z,h1] at D;cases D
 have t:la≠x:=λz=>by rw[z,h3] at m;cases m
 have y:md≠x:=λz=>by rw[z,h5] at i;cases i
 have G:fe≠x:=λz=>by rw[z,h7] at g;cases g
 have i3:=J _ _ e2 l;have i5:=A _ _ (v _ _ i3) l;have i7:=u _ _ (r _ _ i5) l;have j5:=A _ _ e4 t;have j7:=u _ _ (r _ _ j5) t;have l7:=u _ _ e6 y;have a1:p≠la:=λz=>by rw[←z,i3] at m;cases m
 have a2:p≠md:=λz=>by rw[←z,i5] at i;cases i
 have a3:p≠fe:=λz=>by rw[←z,i7] at g;cases g
 have a4:la≠md:=λz=>by rw[←z,j5] at i;cases i
 have a5:la≠fe:=λz=>by rw[←z,j7] at g;cases g
 have a6:md≠fe:=λz=>by rw[←z,l7] at g;cases g
 have B:∀{b:Z} {N:Hp},aF x H N->b≠x->N b=aG->H b=aG:=λ{b N} k d n=>by
  cases e:H b with
  |none=>rfl
  |some o=>rw[k b o e d] at n;cases n
 have R:aF x H H3:=L.trans ((aF.of E).trans J);have Q:aF x H H5:=R.trans ((aF.of v).trans A);have t7:aF x H H7:=Q.trans ((aF.of r).trans u);refine q ⟨x,p,la,md,fe,[],[],[]⟩ H9 rfl rfl (λb hb nb=>?_) k0 ⟨⟨j,h9⟩,k2 _ _ e2 l,X _ _ e4 t,.nil,W _ _ e6 y,.nil,T _ _ e8 G,.nil,?_,λa tK=>by cases tK⟩
 ·simp only[JL.fp,Yq,Y3,hI] at hb;rcases hb with rfl|rfl|rfl|rfl|rfl;·exact absurd rfl nb
  ·exact B L l D
  ·exact B R t m
  ·exact B Q y i
  ·exact B t7 G g
 ·simp only[JL.fp,Y0,Yq,Y3,hI,iz,NS,Jd,and_true];exact⟨⟨λz=>l z.symm,λz=>t z.symm,λz=>y z.symm,λz=>G z.symm⟩,⟨a1,a2,a3⟩,⟨a4,a5⟩,a6⟩
abbrev sO:O ar:=["self","one","other"]
def Zad:aP sO sO (aJ Fq):=.aY
def Zch(F:aM K "together" "Joins.together" Fq f fd)(c:mM K C)(x:Bl mg):aB P w K mg I aL 1 f fd sO (HY C):=by
 refine F.o Zad @λv A d t Q E s H u h=>?_;obtain⟨l,st,n,i,j,a,b,rfl,g,r,p,q⟩:=h;refine⟨_,(au (aH (eY bZ (aI (iL K) (pF K 0) (pv 1)) (aI (iL K) (pF K 0) (pv 2))))),?_⟩;obtain⟨m,k⟩:=g.obj;have o:Q (.bl (decide (V.int (a:Int)=V.int (b:Int)))) H:=by
  have e:decide (V.int (a:Int)=V.int (b:Int))=decide (a=b):=by
   rw[Wd,gI,gI];exact⟨λz=>by have:=V.int.inj z;exact mu this,λz=>by rw[z]⟩
  rwa[e]
 exact⟨_,rfl,l.J,C,m,_,_,rfl,k,c.cls,c.jT,rfl,_,rfl,l.ha,_,_,_,rfl,rfl,aq.of g.heads,nK r,_,rfl,l.J,C,m,_,_,rfl,k,c.cls,c.jT,rfl,_,rfl,l.ha,_,_,_,rfl,rfl,aq.of g.heads,nK p,rfl,o⟩
def eA{H:Hp}(h:H a=U o)(e:H b=U c)(d:o≠c):a≠b:=λz=>by
 grind
def Zfy(a:O Nat)(k:Nat):eN (a++[k])=eN a++[.int (k:Int)]:=Yo
def uc{H:Hp}(h:H a=U o)(c:H b=aG):b≠a:=λz=>by
 grind
theorem kq{b a:Type}{F:b->a->Prop}{x:b}{y:a}(f:F x y){d:O b}{c:O a}(h:Paired F d c):Paired F (d++[x]) (c++[y]):=by
 induction h with
 |nil=>exact .cons f .nil
 |cons r t e=>exact .cons r e
theorem w_{e d:Type}{F:e->d->Prop}:∀{c:O e} {i:O d},Paired F c i->Paired (λa b=>F a b/\a∈c) c i
 |_,_,.nil=>.nil
 |_,_,.cons g t=>.cons ⟨g,Yk⟩ (L2.Paired.bI (w_ t) λ_ _ h=>⟨h.1,Yw _ h.2⟩)
def qv(h:H a=U (.dK b))(e:aX b (.inl (k:Int))=o):fw H a (.int (k:Int)) o:=.inl ⟨b,.inl (k:Int),.inl h,rfl,e.symm⟩
abbrev Ab:O ar:=["self","one"]
def Od:aP ["self","one","lead"] Ab (aJ Fz):=.aY
def Zdd(F:aM K "open_at" "Joins.open_at" Fz f fd)(b:mM K C)(bl:Bl mg):aB P w K mg I aL 2 f fd Ab (B5 C):=by
 refine F.o Od λs H T h=>?_;obtain⟨l,st,n,i,h,t,d,rfl,a,hi,R,hf,G,iR,q⟩:=h;refine⟨_,(aj (iF (i:=2) Od.nd rfl (kO rfl) (aI (iL K) (pF K 0) (pv 1))) (au (aH (gQ (Zfb (K:=K) rfl) rfl bl.BX BH (aa (jS (x:="section") (fr:=[("lead",2)]) (cl:=[("lead",s.heap.objs.size+1)]) rfl (.ir ⟨rfl,trivial⟩ ⟨⟨rfl,.inl rfl,.inl rfl,rfl⟩,trivial⟩) (fX (K:=K) rfl (dF (bF T) (pF K 0) (aI (iL K) (pF K 0) (pv 1)) (λ_ _=>rfl))) (λ_ _ _ _=>nI) (λ_ _ _ _=>(aI (iT K) (pv 1) (pv 0)))) ae))))),?_⟩;obtain⟨o,g⟩:=a.obj;obtain⟨fa,XM,E,A⟩:=qf (f:=λv:O Int=>HO.lst (v.map V.int)) a.free hf;obtain⟨c,m,M8⟩:∃c,l.fL[i]?=U c/\H c=U (.tup (t.map V.int)):=by
  have W:=de a.lead;have eM:i<l.fL.length:=by exact W▸(Yj.mp R).1
  obtain⟨y,ey,u⟩:=fU a.lead (Yc eM)
  grind
 have M9:eG (l.fL.map V.ref) (i:Int)=U (.ref c):=eZ (by rw[Ye,m];rfl);refine bN ?_;refine⟨_,rfl,l.J,C,o,_,_,rfl,g,b.cls,b.oR,rfl,_,rfl,l.la,_,_,_,rfl,rfl,aq.of a.jx,M9,?_⟩;refine⟨_,rfl,l.J,C,o,_,_,rfl,g,b.cls,b.se,rfl,_,rfl,l.J,C,o,_,_,rfl,g,b.cls,b.jT,rfl,_,rfl,l.ha,_,_,_,rfl,rfl,aq.of a.heads,nK hi,l.fd,_,rfl,qv a.frees E,fa,rfl,⟨_,aq.of A⟩,λD hD=>ZcW (aq.of A) (by rw[Ya];omega) hD (λv=>match v with|.int z=>.int (t.getD z.toNat 0)|_=>.aE) (λj v X r e Kt k=>?_) λr e h1=>?_⟩
 ·obtain⟨z,rfl,Q⟩:=nJ X;have B:=G z (Yg Q);exact⟨_,rfl,_,rfl,c,_,_,_,rfl,rfl,az.of (e _ _ M8),oV B.1 B.2,k r (ai.refl _)⟩
 ·have u:r D=U (.lst ((d.map λz=>t.getD z.toNat 0).map V.int)):=by
   rw[h1,Y7,Y7];rfl
  exact⟨D,_,rfl,.inl (aq.of u),by rwa[Ya],λcG L J p H2 N g2 h2=>q p cG H2 (e.free N) (e.trans g2) L J h2⟩
abbrev fP:O ar:=["self"]
abbrev Ac:O ar:=["self","number"]
def Ol:aP Ac fP (aJ G1):=.aY
theorem Zis(F:aM K "add" "Joins.add" G1 f fd)(d:mM K C)(xx:HasFn P w K mg I 1 "still" ["size"] Kh)(bl:Bl mg):aB P w K mg I aL 2 f fd fP (Lo C):=by
 refine F.o Ol λs H hr h=>?_;obtain⟨l,st,n,rfl,c,hn,lh,lm,lf,ll,nm,nf,q⟩:=h;refine⟨_,(aj (bh 1 Ol.nd (cT K bl (pF K 0))) (aj (cE (qu (K:=K) rfl (mP jo lr lp rG (pF K 0) (aa (pv 1) ae)))) (aj (cE (qu (K:=K) rfl (mP jo lr lp rG (pF K 0) (aa (aQ xx hr (aa (pF K 0) ae)) ae)))) (aj (oO (bF hr) (pF K 0) (pv 1) (cV (aa (pv 1) ae))) (aj (oO (bF hr) (pF K 0) (pv 1) (fO (ZaO rfl) rfl bl.xC xv (aa (fO Gs rfl bl.kY xh (aa (pF K 0) ae)) ae))) (au (aH (pv 1)))))))),?_⟩;have sz:(10000:Nat)<=sizeLine:=by rw[dU];decide
 obtain⟨A,ho⟩:=c.obj;have hl:(eN st.hd).length=st.hd.length:=Ya _;have pl1:=de c.lead;have M_:=de c.mem;have Ei:=de c.free;have T:=c.nd;simp only[JL.fp,Y0,Yq,iz] at T;obtain⟨⟨x1,x2,x3,x4,x5⟩,⟨Q,N,y3,y4⟩,⟨z1,z2,z3⟩,⟨w1,w2⟩,v1,v2⟩:=T;have dl:∀{ks:O Nat} {as:O Z},(bq ks as).length<=as.length:=λ{ks as}=>by unfold bq;rw[Ya,W8];exact Xw _ _
 refine bN ?_;refine⟨_,rfl,l.J,C,A,_,_,rfl,ho,d.cls,d.jT,rfl,l.ha,_,rfl,.inl (aq.of c.heads),?_⟩;rw[hl];refine⟨_,rfl,l.J,C,A,_,_,rfl,ho,d.cls,d.jT,rfl,.inl ⟨rfl,_,aq.of c.heads⟩,_,rfl,l.ha,_,_,rfl,rfl,c.heads,by rw[hl];omega,λH1 v e1=>?_⟩;have o1:=v _ _ ho x1;have W:=v _ _ c.jx (λz=>Q z.symm);refine⟨_,rfl,l.J,C,A,_,_,rfl,o1,d.cls,d.oR,rfl,.inl ⟨rfl,_,aq.of W⟩,_,rfl,l.J,C,A,_,_,rfl,o1,d.cls,d.uD,rfl,n,rfl,hn,λt H2 nt k ht=>?_⟩;refine⟨l.la,_,_,rfl,rfl,k _ _ W,by rw[Ya];omega,λH3 u e3=>?_⟩;have o3:=u _ _ (k _ _ o1) x2;have m3:=u _ _ (k _ _ (v _ _ c.kF (λz=>N z.symm))) (λz=>z1 z.symm);refine⟨_,rfl,by show 1<=sizeLine;decide,λm H4 G j em=>?_⟩;have o4:=j _ _ o3;refine⟨_,rfl,l.J,C,A,_,_,rfl,o4,d.cls,d.w8,rfl,_,rfl,l.md,_,.inl (st.hd.length:Int),rfl,j _ _ m3,rfl,?_,λH5 g e5=>?_⟩
 ·have:=dl (ks:=st.mem.map (·.1)) (as:=l.hV);omega
 have R:=g _ _ o4 x3;refine⟨_,rfl,l.J,C,A,_,_,rfl,R,d.cls,d.uD,rfl,(n:Int),rfl,λr B nr x er=>⟨r,n,rfl,er,hn,λfa H7 XJ g7 ef=>?_⟩⟩;have Ej:=x.trans g7;have f5:=g _ _ (j _ _ (u _ _ (k _ _ (v _ _ c.frees (λz=>y3 z.symm))) (λz=>z2 z.symm))) (λz=>w1 z.symm);refine⟨_,rfl,l.J,C,A,_,_,rfl,Ej _ _ R,d.cls,d.se,rfl,_,rfl,l.fd,_,.inl (st.hd.length:Int),rfl,Ej _ _ f5,rfl,?_,λi b8 e8=>?_⟩
 ·have:=dl (ks:=st.fr.map (·.1)) (as:=l.bY);omega
 have keep:∀b o,H b=U o->b≠l.ha->b≠l.la->b≠l.md->b≠l.fd->i b=U o:=λb o e n1 n2 n3 n4=>b8 _ _ (Ej _ _ (g _ _ (j _ _ (u _ _ (k _ _ (v _ _ e n1)) n2)) n3)) n4;rw[mH _ (BM nm),BA _ _ (by rw[Ya];exact my M_)] at e5;rw[mH _ (BM nf),BA _ _ (by rw[Ya];exact my Ei)] at e8;have Na:H m=aG:=by
  cases e:H m with
  |none=>rfl
  |some o=>
   have hm1:m≠l.ha:=λz=>by rw[z,u _ _ (k _ _ e1) Q] at G;cases G
   have hm2:m≠l.la:=λz=>by rw[z,e3] at G;cases G
   rw[u _ _ (k _ _ (v _ _ e hm1)) hm2] at G;cases G
 have en:=c.ne Na;have Nb:fa∉l.fp/\fa≠m:=by
  have E:B fa=aG:=XJ;have h5:∀b o,H b=U o->b≠l.ha->b≠l.la->b≠l.md->B b=U o:=λb o e n1 n2 n3=>x _ _ (g _ _ (j _ _ (u _ _ (k _ _ (v _ _ e n1)) n2)) n3);have f1:B l.ha=U _:=x _ _ (g _ _ (j _ _ (u _ _ (k _ _ e1) Q)) N);have f2:B l.la=U _:=x _ _ (g _ _ (j _ _ e3) z1);have f3:B l.md=U _:=x _ _ e5;have f4:B m=U _:=x _ _ (g _ _ em (λz=>en (by rw[z];simp[JL.fp])));have f5':B l.fd=U _:=x _ _ f5;have f6:B l.J=U _:=x _ _ R;refine⟨λz=>?_,uc f4 E⟩;simp only[JL.fp,Yq] at z;rcases z with z|z|z|z|z|z;·exact uc f6 E z
  ·exact uc f1 E z
  ·exact uc f2 E z
  ·exact uc f3 E z
  ·exact uc f5' E z
  ·obtain⟨y,ey⟩:=zf c.mem z;refine uc (h5 _ _ ey ?_ ?_ ?_) E rfl;·exact λq=>y4 (by rw[←q];exact z)
   ·exact λq=>z3 (by rw[←q];exact z)
   ·exact λq=>w2 (by rw[←q];exact z)
 have kt:∀a∈l.fL,∀D:O Int,H a=U (.tup (D.map V.int))->i a=U (.tup (D.map V.int)):=λa _ D e=>keep a _ e (eA e c.heads (λz=>by cases z)) (eA e c.jx (λz=>by cases z)) (eA e c.kF (λz=>by cases z)) (eA e c.frees (λz=>by cases z));have J:∀b o,H5 b=U o->b≠l.fd->i b=U o:=λb o e n=>b8 _ _ (Ej _ _ e) n;have nmd:m≠l.md:=λz=>en (by rw[z];simp[JL.fp]);have nmf:m≠l.fd:=λz=>en (by rw[z];simp[JL.fp]);have ntf:t≠l.fd:=λz=>by
  have:=v _ _ c.frees (λz=>y3 z.symm);rw[←z,nt] at this;cases this
 have Nc:t≠l.la:=λz=>by rw[←z,nt] at W;cases W
 have XN:t≠l.md:=λz=>by
  have:=v _ _ c.kF (λz=>N z.symm);rw[←z,nt] at this;cases this
 refine⟨_,rfl,q ⟨l.J,l.ha,l.la,l.md,l.fd,l.fL++[t],l.hV++[m],l.bY++[fa]⟩ i rfl (λb o e L=>?_) (λb X=>?_) ⟨⟨A,J _ _ R x4⟩,?_,?_,?_,?_,?_,?_,?_,?_,?_⟩⟩
 ·simp only[JL.fp,Yq,iz] at L;exact keep b o e L.2.1 L.2.2.1 L.2.2.2.1 L.2.2.2.2.1
 ·simp only[JL.fp,Yq,Yu,Y3,hI] at X⊢;rcases X with h|h|h|h|h|h|h;·exact .inl (.inl h)
  ·exact .inl (.inr (.inl h))
  ·exact .inl (.inr (.inr (.inl h)))
  ·exact .inl (.inr (.inr (.inr (.inl h))))
  ·exact .inl (.inr (.inr (.inr (.inr (.inl h)))))
  ·exact .inl (.inr (.inr (.inr (.inr (.inr h)))))
  ·rw[h];exact .inr Na
 ·show i l.ha=U (.lst (eN (st.hd++[st.hd.length])));rw[J _ _ (g _ _ (j _ _ (u _ _ (k _ _ e1) Q)) N) y3,Zfy]
 ·show i l.la=U (.lst ((l.fL++[t]).map V.ref));rw[J _ _ (g _ _ (j _ _ e3) z1) z2,Yo];rfl
 ·exact kq (F:=λa (D:O Int)=>i a=U (.tup (D.map V.int))) (J _ _ (g _ _ (j _ _ (u _ _ ht Nc)) XN) ntf) (L2.Paired.bI (w_ c.lead) λa D h=>kt a h.2 D h.1)
 ·show i l.md=U (.dK (bq ((st.mem++[(st.hd.length,[st.hd.length])]).map (·.1)) (l.hV++[m])));rw[J _ _ e5 w1,Yo];rfl
 ·refine kq (F:=λa (p:Nat×O Nat)=>i a=U (.lst (eN p.2))) (J _ _ (g _ _ em nmd) nmf) (L2.Paired.bI (w_ c.mem) λa p h=>keep a _ h.1 ?_ ?_ ?_ ?_);·exact λz=>y4 (by rw[←z];exact h.2)
  ·exact λz=>z3 (by rw[←z];exact h.2)
  ·exact λz=>w2 (by rw[←z];exact h.2)
  ·exact λz=>v1 (by rw[←z];exact h.2)
 ·show i l.fd=U (.dK (bq ((st.fr++[(st.hd.length,bB n)]).map (·.1)) (l.bY++[fa])));rw[e8,Yo];rfl
 ·have nfd:fa≠l.fd:=λz=>Nb.1 (by rw[z];simp[JL.fp]);refine kq (F:=λa (p:Nat×O Int)=>i a=U (.lst (p.2.map V.int))) (b8 _ _ ef nfd) (L2.Paired.bI (w_ c.free) λa p h=>?_);have no:=c.out a h.2;simp only[JL.fp,Yq,iz] at no;exact keep a _ h.1 no.2.1 no.2.2.1 no.2.2.2.1 no.2.2.2.2.1
 ·have T:=c.nd;have e0:JL.fp ⟨l.J,l.ha,l.la,l.md,l.fd,l.fL++[t],l.hV++[m],l.bY++[fa]⟩=l.fp++[m]:=rfl;rw[e0,W0];refine⟨T,by simp,λa ha b X=>?_⟩;have eb:b=m:=by simpa using X
  intro z;rw[z,eb] at ha;exact en ha
 ·intro a ha;have e0:JL.fp ⟨l.J,l.ha,l.la,l.md,l.fd,l.fL++[t],l.hV++[m],l.bY++[fa]⟩=l.fp++[m]:=rfl;rw[e0,Yu];have tK:a∈l.bY++[fa]:=ha;rcases Yu.mp tK with h|h
  ·rintro(z|z);·exact c.out a h z
   ·have e:a=m:=by simpa using z
    obtain⟨y,ey⟩:=zf c.free h;rw[e,Na] at ey;cases ey
  ·have e:a=fa:=by simpa using h
   rw[e];rintro(z|z);·exact Nb.1 z
   ·exact Nb.2 (by simpa using z)
def Zde{K:ah}{a:Z}{ns:O Int}{t:TT}{u:TE}{r:St}{D:Z}{H:Hp}{Q:VK}(L:aq K H a (ns.map V.int))(R:ns.length<=1000)(x:H D=aG)(p:Int->cm)(g:Int->V)
  (k:∀z∈ns,∀d,ai H d->∀(B:VK) (E:Hp->Prop),(p z=af->∀h,ai d h->B (g z) h)->(p z=a8->∀h,ai d h->E h)->t (U (.int z)::r) d λc F=>if c=af then u (U (.int z)::r) F B else E F)
  (P:∀s,ai H s->s D=U (.lst ((ns.filter p).map g))->Q (.ref D) s):jW (kK K a) t u r D H Q:=by
 refine Ir (λi j d=>i<=ns.length/\ai H d/\d D=U (.lst j)/\j=((ns.take i).filter p).map g) ⟨Yx _,cC x _,aU,rfl⟩ (λi j d _ ⟨_,m,_,_⟩=>m.seq L) ?_ ?_
 ·rintro i v j d N ⟨_,m,y,e⟩;obtain⟨z,rfl,n⟩:=nJ N;have A:=(Yj.mp n).1;have G:j.length<sizeLine:=by
   have:=Wk p (ns.take i);rw[Wb] at this;rw[e,Ya,dU];omega
  refine k z (Yg n) d m _ _ (λJ h l=>⟨l _ _ y,G,A,λb o q=>?_,aU,?_⟩) (λJ h l=>⟨A,m.trans l,l _ _ y,?_⟩)
  ·rw[aK (cA q x)];exact l _ _ (m _ _ q)
  ·rw[e,Y1,n,Wf,Yo]
   grind
  ·rw[e,Y1,n,Wf,Yo]
   grind
 ·grind
theorem zE(x:Int):∀a:O Int,eQ (.int x) (a.map V.int)=decide (x∈a)
 |[]=>rfl
 |s::a=>by
  have b:=zE x a;unfold eQ at b⊢;rw[Ws,Jr,b];show((s==x)||decide (x∈a))=_
  grind
def B6(a:O Int):(a.map V.int).all jw=af:=by
 rw[MS,Wq];intro p _;rfl
def j9(a:O Nat)(b:O Z)(h:Nat)(c:Z):O Z:=(a.zip b).map λp=>if p.1=h then c else p.2
theorem PV(h:Nat)(a':Z):∀{b:O Nat} {as:O Z},b.length=as.length->(bq b as).map (λc=>if c.1=(.inl (h:Int):Key) then(c.1,V.ref a') else c)=bq b (j9 b as h a')
 |[],[],_=>rfl
 |k::b,a::as,e=>by
  have d:=PV h a' (by simpa using e);have j:bq (k::b) (a::as)=(Sum.inl (k:Int),V.ref a)::bq b as:=rfl;have i:j9 (k::b) (a::as) h a'=(if k=h then a' else a)::j9 b as h a':=rfl;have g:bq (k::b) ((if k=h then a' else a)::j9 b as h a')=(Sum.inl (k:Int),V.ref (if k=h then a' else a))::bq b (j9 b as h a'):=rfl
  grind
 |[],_::_,e=>rfl
 |_::_,[],e=>rfl
def Zfz{h:Nat}(e:b.length=as.length)(d:aX (bq b as) (.inl (h:Int))=U (.ref a)):putK (bq b as) (.inl (h:Int)) (.ref c)=bq b (j9 b as h c):=by
 unfold putK;rw[bS (by rw[xk,d];rfl)];exact PV h c e
def dQ{a:Type}(h:Nat)(v:a)(b:O (Nat×a)):O (Nat×a):=b.map λp=>if p.1=h then(p.1,v) else p
theorem uh{b:Type}(h:Nat)(v:b):∀a:O (Nat×b),(dQ h v a).map (·.1)=a.map (·.1)
 |[]=>rfl
 |p::a=>by
  have c:=uh h v a;show(if p.1=h then(p.1,v) else p).1::(dQ h v a).map (·.1)=_
  grind
theorem Zdf{v:α}(g:∀k,G m (k,v)):∀{d:O Z} {c:O (Nat×α)},Paired F d c->(∀a p,F a p->a∈d->G a p)->Paired G (j9 (c.map (·.1)) d h m) (dQ h v c):=by
 intro d c e;induction e with
 |nil=>intro _;exact .nil
 |@cons a p d c f t i=>
  intro k;refine .cons ?_ (i λb q l j=>k b q l (Yw _ j))
  grind
theorem QJ{h:Nat}{e b:Z}:∀{d:O Nat} {c:O Z},b∈j9 d c h e->b=e\/b∈c
 |[],_,m=>by unfold j9 at m;simp at m
 |_::_,[],m=>by unfold j9 at m;simp at m
 |k::d,a::c,m=>by
  rcases Yq.mp m with z|z;·grind
  ·rcases QJ z with w|w;·exact .inl w
   ·grind
def JS.kz(a:JS)(h:Nat)(v:O Int):JS:={a with fr:=dQ h v a.fr}
structure u3(st:JS)(i h:Nat)(t hH:O Int):Prop where
 hd:st.hd[i]?=U h
 ld:st.ld[i]?=U t
 fr:st.fr.lookup h=U hH
 hJ:∀z∈hH,0<=z/\z<t.length
 f_:hH.length<64
 dist:(hH.map λz=>t.getD z.toNat 0).Nodup
inductive JJ(K:ah)(C:Z)(g:O V)(H:Hp)(Q:VK)(E:XK):Prop
 |mk (l:JL) (st:JS) (n i h:Nat) (t a d:O Int) (e:Z) (p:g=[.ref l.J,.int (i:Int),.ref e]) (q:cH H C n l st) (m:u3 st i h t a) (o:st.fr.length<1000) (k:aq K H e (d.map V.int)) (j:∀(b:JL) (c:Hp),b.J=l.J->b.fp=l.fp->Out l.fp H c->cH c C n b (st.kz h (a.filter λz=>decide (t.getD z.toNat 0∈d)))->Q .aE c)
abbrev Dk:O ar:=["self","one","sections"]
def FI:aP ["self","one","sections","lead","head"] Dk (aJ FV):=.aY
def Zeg(F:aM K "narrow" "Joins.narrow" FV f fd)(g:mM K C)(bl:Bl mg):aB P w K mg I aL 2 f fd Dk (JJ K C):=by
 refine F.o FI λs H hr h=>?_;obtain⟨l,st,n,i,h,t,r,B,sl,rfl,d,one,lf,G,q⟩:=h;refine⟨_,(aj (iF (i:=3) FI.nd rfl (kO rfl) (aI (iL K) (pF K 0) (pv 1))) (aj (bh 4 FI.nd (aI (iL K) (pF K 0) (pv 1))) (au (oO (bF hr) (pF K 0) (pv 4) (jS (x:="section") (fr:=[("sections",2),("lead",3)]) (cl:=[("sections",s.heap.objs.size+1),("lead",s.heap.objs.size+1+1)]) rfl (.ir ⟨rfl,⟨rfl,trivial⟩⟩ ⟨⟨rfl,.inl rfl,.inl rfl,rfl⟩,⟨⟨rfl,.inl rfl,.inl rfl,rfl⟩,trivial⟩⟩) (fX (K:=K) rfl (dF (bF hr) (pF K 0) (pv 4) (λ_ _=>rfl))) (λ_ _ _ _=>xu (fY (lJ (K:=K) rfl) (aI (iT K) (pv 2) (pv 0)) (pv 1) (by with_unfolding_all rfl))) (λ_ _ _ _=>(pv 0))))))),?_⟩;have sz:(10000:Nat)<=sizeLine:=by rw[dU];decide
 obtain⟨A,u⟩:=d.obj;obtain⟨fa,XM,T,cY⟩:=qf (f:=λv:O Int=>HO.lst (v.map V.int)) d.free one.fr;obtain⟨m,J,M8⟩:∃m,l.fL[i]?=U m/\H m=U (.tup (t.map V.int)):=by
  have hl:=de d.lead;have eM:i<l.fL.length:=by rw[hl];exact(Yj.mp one.ld).1
  obtain⟨y,ey,hy⟩:=fU d.lead (Yc eM);rw[one.ld] at ey;cases ey;exact⟨_,Yc eM,hy⟩
 have M9:eG (l.fL.map V.ref) (i:Int)=U (.ref m):=eZ (by rw[Ye,J];rfl);have Ei:=de d.free;refine bN ?_;refine⟨_,rfl,l.J,C,A,_,_,rfl,u,g.cls,g.oR,rfl,_,rfl,l.la,_,_,_,rfl,rfl,aq.of d.jx,M9,?_⟩;refine bN ?_;refine⟨_,rfl,l.J,C,A,_,_,rfl,u,g.cls,g.jT,rfl,_,rfl,l.ha,_,_,_,rfl,rfl,aq.of d.heads,nK one.hd,?_⟩;refine⟨_,rfl,l.J,C,A,_,_,rfl,u,g.cls,g.se,rfl,_,rfl,l.fd,_,rfl,qv d.frees T,fa,rfl,⟨_,aq.of cY⟩,λD hD=>Zde (ns:=r) (aq.of cY) (by have:=one.f_;omega) hD (λz=>decide (t.getD z.toNat 0∈B)) V.int (λz hz Q j Kt Kf kt kf=>?_) λQ j h1=>?_⟩
 ·have bz:=one.hJ z hz;refine⟨_,rfl,_,rfl,m,_,_,_,rfl,rfl,az.of (j _ _ M8),oV bz.1 bz.2,_,rfl,sl,_,rfl,.inl (j.seq G),rfl,B6 B,_,rfl,?_⟩;rw[bt Yh,zE];refine bc (λc=>?_) (λc=>?_);·exact⟨_,rfl,kt c Q (ai.refl _)⟩
  ·exact kf (by cases e:decide (t.getD z.toNat 0∈B) with|true=>exact absurd e c|false=>rfl) Q (ai.refl _)
 ·refine⟨_,rfl,l.J,C,A,_,_,rfl,j _ _ u,g.cls,g.se,rfl,_,rfl,l.fd,_,.inl (h:Int),rfl,j _ _ d.frees,rfl,?_,λN L e2=>?_⟩
  ·unfold bq;rw[Ya,W8,Ya];omega
  rw[Zfz (by rw[Ya];exact Ei.symm) T] at e2;have W:=d.nd;have R:l.fd∈l.fp:=by simp[JL.fp]
  simp only[JL.fp,Y0,Yq,iz] at W;obtain⟨⟨x1,x2,x3,x4,x5⟩,⟨y1,y2,y3,y4⟩,⟨z1,z2,z3⟩,⟨w1,w2⟩,v1,v2⟩:=W;have keep:∀b o,H b=U o->b≠l.fd->N b=U o:=λb o e nb=>L _ _ (j _ _ e) nb;have X:D∉l.fp:=d.ne hD;have E:D≠l.fd:=λz=>X (by rw[z];exact R);refine q ⟨l.J,l.ha,l.la,l.md,l.fd,l.fL,l.hV,j9 (st.fr.map (·.1)) l.bY h D⟩ N rfl rfl ((Out.of j).trans (Out.bar L R)) ⟨⟨A,keep _ _ u x4⟩,keep _ _ d.heads y3,keep _ _ d.jx z2,L2.Paired.bI d.lead λa xs e=>keep a _ e (eA e d.frees (λz=>by cases z)),keep _ _ d.kF w1,L2.Paired.bI (w_ d.mem) λa p e=>keep a _ e.1 (λz=>v1 (by rw[←z];exact e.2)),?_,?_,d.nd,λa ha=>?_⟩
  ·show N l.fd=U (.dK (bq ((dQ h _ st.fr).map (·.1)) _));rw[uh];exact e2
  ·exact Zdf (λk=>L _ _ h1 E) d.free λa p e ma=>keep a _ e (λz=>d.out a ma (by rw[z];exact R))
  ·rcases QJ ha with rfl|z;·exact X
   ·exact d.out a z
inductive US(C:Z)(e:O V)(H:Hp)(Q:VK)(E:XK):Prop
 |mk (l:JL) (st:JS) (n i h:Nat) (t b:O Int) (a:Int) (o:e=[.ref l.J,.int (i:Int),.int a]) (p:cH H C n l st) (k:u3 st i h t b) (m:st.fr.length<1000) (j:(a∈b.map (λz=>t.getD z.toNat 0)->∀(d:JL) (c:Hp),d.J=l.J->d.fp=l.fp->Out l.fp H c->cH c C n d (st.kz h (b.filter λz=>decide (t.getD z.toNat 0∈[a])))->Q (.bl af) c)) (g:(a∉b.map (λz=>t.getD z.toNat 0)->∀c,ai H c->Q (.bl a8) c))
abbrev Dm:O ar:=["self","one","section"]
def Zbz:aP Dm Dm (aJ G4):=.aY
def Zit(F:aM K "say" "Joins.say" G4 f fd)(y:b_ P w K mg I 2 "open_at" C Ab (B5 C))(q:b_ P w K mg I 2 "narrow" C Dk (JJ K C))(bl:Bl mg):aB P w K mg I aL 3 f fd Dm (US C):=by
 refine F.o Zbz λs H j h=>?_;obtain⟨l,st,n,i,h,t,b,a,rfl,e,one,B,x,v⟩:=h;refine⟨_,(aj (aR (fY (xD rfl) (pv 2) (cJ y j (by decide) (pv 0) (aa (pv 1) ae)) (by with_unfolding_all rfl)) (au (aH ku)) aW) (aj (cE (cJ q j (by decide) (pv 0) (aa (pv 1) (aa (cV (aa (pv 2) ae)) ae)))) (au (aH ku)))),?_⟩;obtain⟨o,k⟩:=e.obj;refine⟨_,rfl,_,rfl,l.J,o,_,rfl,k,rfl,_,rfl,l,st,n,i,h,t,b,rfl,e,one.hd,one.ld,one.fr,one.hJ,one.f_,λp ns R W d g T L=>⟨p,_,rfl,.inl (aq.of L),rfl,B6 ns,_,rfl,?_⟩⟩;rw[bS rfl,zE];refine bc (λc=>?_) (λc=>aT ?_)
 ·refine v (λz=>?_) R d;rw[d6 (g.symm.subset z)] at c;cases c
 ·have r:a∈ns:=by
   by_cases z:a∈ns;·exact z
   ·rw[g_ z] at c;exact absurd rfl c
  refine⟨_,rfl,l.J,o,_,rfl,d _ _ k,rfl,_,rfl,_,rfl,by show 1<=sizeLine;rw[dU];decide,λu H2 X m N=>?_⟩;exact⟨l,st,n,i,h,t,b,[a],u,rfl,(e.same d).same m,one,B,aq.of N,λD Q G E A J=>x (g.subset r) D Q G E ((Out.of (d.trans m)).trans A) J⟩
def eP(a:O Nat)(b:O Z)(h:Nat):O Z:=((a.zip b).filter λp=>decide (p.1≠h)).map (·.2)
def c7{a:Type}(h:Nat)(b:O (Nat×a)):O (Nat×a):=b.filter λp=>decide (p.1≠h)
theorem BB(h:Nat):∀{b:O Nat} {as:O Z},b.length=as.length->iK (bq b as) (.inl (h:Int))=bq (b.filter λk=>decide (k≠h)) (eP b as h)
 |[],[],_=>rfl
 |k::b,a::as,e=>by
  have c:=BB h (by simpa using e);have i:bq (k::b) (a::as)=(Sum.inl (k:Int),V.ref a)::bq b as:=rfl;unfold iK at c⊢;rw[i,Wj,Wj];have g:eP (k::b) (a::as) h=(if decide (k≠h)=af then(a::eP b as h) else eP b as h):=by
   unfold eP;rw[XO,Wj];split<;>rfl
  rw[g,c];by_cases z:k=h;·grind
  ·have d:¬((Sum.inl (k:Int):Key)=.inl (h:Int)):=λw=>z (by have:=Eg w;exact mu this);rw[bS (by simp[d]),bS (by simp[z]),bS (by simp[z])];rfl
 |[],_::_,e=>rfl
 |_::_,[],e=>by simp at e
theorem qi{b:Type}(h:Nat):∀a:O (Nat×b),(c7 h a).map (·.1)=(a.map (·.1)).filter λk=>decide (k≠h)
 |[]=>rfl
 |p::a=>by
  have c:=qi h a;unfold c7 at c⊢
  grind
theorem HZ:∀{d:O Z} {c:O (Nat×α)},Paired F d c->(∀a p,F a p->a∈d->p.1≠h->G a p)->Paired G (eP (c.map (·.1)) d h) (c7 h c):=by
 intro d c e;induction e with
 |nil=>intro _;exact .nil
 |@cons a p d c f t i=>
  intro k;have n:eP ((p::c).map (·.1)) (a::d) h=(if decide (p.1≠h)=af then(a::eP (c.map (·.1)) d h) else eP (c.map (·.1)) d h):=by
   unfold eP;rw[Ws,XO,Wj];split<;>rfl
  have m:c7 h (p::c)=(if decide (p.1≠h)=af then(p::c7 h c) else c7 h c):=by
   unfold c7
   grind
  rw[n,m];by_cases z:p.1=h;·grind
  ·rw[bS (by simp[z]),bS (by simp[z])];exact .cons (k a p f Yk z) (i λb q l j g=>k b q l (Yw _ j) g)
theorem B7{h:Nat}:∀{ks:O Nat} {as:O Z},(eP ks as h).Sublist as
 |[],as=>by
  unfold eP;simp_all
 |_::_,[]=>by
  unfold eP;simp_all
 |k::ks,a::as=>by
  have b:=B7 (h:=h) (ks:=ks) (as:=as);have c:eP (k::ks) (a::as) h=(if decide (k≠h)=af then(a::eP ks as h) else eP ks as h):=by
   unfold eP;rw[XO,Wj];split<;>rfl
  grind
theorem wR{a:Type}{h k:Nat}(b:k≠h):∀{ps:O (Nat×a)},(c7 h ps).lookup k=ps.lookup k
 |[]=>rfl
 |p::ps=>by
  have c:=wR b (ps:=ps);have d:c7 h (p::ps)=(if decide (p.1≠h)=af then(p::c7 h ps) else c7 h ps):=by
   unfold c7
   grind
  grind
theorem Zdg{i:Type}{F G:Z->Nat×i->Prop}{h:Nat}{m:Z}{v:i}(j:∀k,G m (k,v)):∀{as:O Z} {ps:O (Nat×i)},Paired F as ps->as.Nodup->(ps.map (·.1)).Nodup->aX (bq (ps.map (·.1)) as) (.inl (h:Int))=U (.ref m)->(∀a p,F a p->a∈as->a≠m->G a p)->Paired G as (dQ h v ps):=by
 intro as ps s;induction s with
 |nil=>intro _ _ e _;cases e
 |@cons a p as ps f t o=>
  intro d l e k;have g:bq ((p::ps).map (·.1)) (a::as)=(Sum.inl (p.1:Int),V.ref a)::bq (ps.map (·.1)) as:=rfl;have E:dQ h v (p::ps)=(if p.1=h then(p.1,v) else p)::dQ h v ps:=rfl;rw[Y0] at d;rw[Ws,Y0] at l;rw[E];by_cases z:p.1=h
  ·rw[g,gU (by rw[z])] at e;have r:=V.ref.inj (Yn e);have same:dQ h v ps=ps:=by
    unfold dQ;refine(Wo λq A=>?_).trans (yr _);rw[bt λw=>l.1 (by rw[z,←w];exact Yf.mpr ⟨q,A,rfl⟩)];rfl
   rw[bS z,same,r];refine .cons (j p.1) (L2.Paired.bI (w_ t) λb q c=>k b q c.1 (Yw _ c.2) λw=>d.1 (by rw[r,←w];exact c.2))
  ·rw[g,fW (p:=((Sum.inl (p.1:Int):Key),V.ref a)) (λw=>z (by have:=Eg w;exact mu this))] at e;rw[bt z];have H:a≠m:=λw=>by
    have:∀{n:O Nat} {bs:O Z},aX (bq n bs) (.inl (h:Int))=U (.ref m)->m∈bs:=λ{n}=>by
     induction n with
     |nil=>intro bs q;unfold bq at q;rw[List.zip_nil_left] at q;cases q
     |cons x xs o=>
      intro bs q;cases bs with
      |nil=>unfold bq at q;rw[MC] at q;cases q
      |cons b bs=>
       have g:bq (x::xs) (b::bs)=(Sum.inl (x:Int),V.ref b)::bq xs bs:=rfl;rw[g] at q;by_cases y:x=h
       ·rw[gU (by rw[y])] at q;have D:=V.ref.inj (Yn q);rw[D];exact Yk
       ·rw[fW (λw=>y (by have:=Eg w;exact mu this))] at q;exact Yw _ (o q)
    exact d.1 (by exact w▸this e)
   exact .cons (k a p f Yk H) (o d.2 l.2 e λb q B c u=>k b q B (Yw _ c) u)
def qZ(a:O Int)(b:O (O Int))(i:Nat):O (O Int):=b.set i (bL (b.getD i []) a)
def iE(b a:O Int):(bL b a).length=a.length:=by unfold bL;rw[Ya]
def Ziu(j:∀x∈xs,0<=x/\x<n)(d:∀y∈a,0<=y/\y<xs.length):∀z∈bL xs a,0<=z/\z<n:=λz c=>by
 obtain⟨y,b,rfl⟩:=Yf.mp c;obtain⟨i,h⟩:=d y b;have g:y.toNat<xs.length:=by omega
 have e:xs.getD y.toNat 0=xs[y.toNat]:=by rw[Yi,Yc g];rfl
 simp_all
def k_(d:Nat)(b:O Nat)(c:O Nat):O Nat:=b.foldl (λa i=>a.set i d) c
def iM(a:O Int)(b:O Nat)(c:O (O Int)):O (O Int):=b.foldl (qZ a) c
def JS.mv(a:JS)(e d:Nat)(g c:O Nat)(b:O Int):JS:=⟨k_ e c a.hd,iM b c a.ld,dQ e (g++c) (c7 d a.mem),c7 d a.fr⟩
inductive TQ(C:Z)(r:O V)(H:Hp)(Q:VK)(E:XK):Prop
 |mk (l:JL) (st:JS) (n a b d h:Nat) (q p e s:O Int) (o:Z) (g j:O Nat) (W:r=[.ref l.J,.int (a:Int),.int (b:Int),.ref o]) (X:cH H C n l st) (R:H o=U (.tup (e.map V.int))) (T:n<=8) (P:e.length=n) (N:full e=af) (L:st.hd[a]?=U d) (J:st.hd[b]?=U h) (G:st.ld[a]?=U q) (F:st.ld[b]?=U p) (LQ:(∀t∈st.ld,full t=af/\t.length=n)) (VE:st.ld.length=st.hd.length) (D:st.mem.lookup d=U g) (B:st.mem.lookup h=U j) (A:st.fr.lookup d=U s) (z:d≠h) (y:(∀i∈g,i<st.hd.length)) (x:g.length+j.length<=1000) (v:(st.mem.map (·.1)).Nodup) (u:∀(k:JL) (m:Hp),k.J=l.J->(∀c∈k.fp,c∈l.fp)->Out l.fp H m->cH m C n k (st.mv h d j g (bL (inv q) (bL e p)))->Q .aE m)
theorem yX{b e:Type}{g:O b->e->O b}(h:∀a i,(g a i).length=a.length):∀(d:O e) (c:O b),(d.foldl g c).length=c.length
 |[],_=>rfl
 |i::d,c=>by
  rw[List.foldl_cons,yX h d,h]
def O2{a:O β}(h:a[j]?=U i)(b:O α):(a.take (j+1)).foldl g b=g ((a.take j).foldl g b) i:=by
 rw[Y1,h,List.foldl_append];rfl
def ZgJ(a:O Nat)(i k:Nat):(eN a).set i (.int (k:Int))=eN (a.set i k):=by
 simp_all
theorem O3{b a:Type}{F:b->a->Prop}{x:b}{y:a}(f:F x y):∀{d:O b} {c:O a} (i:Nat),Paired F d c->Paired F (d.set i x) (c.set i y)
 |_,_,_,.nil=>.nil
 |_,_,0,.cons _ t=>.cons f t
 |_,_,i+1,.cons g t=>.cons g (O3 f i t)
def oP(g:full xs=af)(d:full a=af)(e:xs.length=a.length):full (bL xs a)=af:=by
 have c:(bL xs a).Perm ((bB a.length).map λx=>xs.getD x.toNat 0):=(rM d).map _;have h:((bB a.length).map λx=>xs.getD x.toNat 0)=xs:=by
  refine Ww λi=>?_;rw[Ye];by_cases b:i<a.length
  ·rw[nH b]
   grind
  ·rw[Y4 (by rw[fN];exact gV b),Y4 (eL (jn e) (gV b))];rfl
 rw[h] at c;exact uo (c.trans (rM g))
inductive Lp(k:Hp)(l:JL)(j:O Nat)(d:O (O Int))(n:Nat)(h:bR V->St)(g:St)(b:Hp):Prop
 |mk (i:O Z) (p:bR V) (v:b l.ha=some (.lst (eN j))) (u:b l.la=some (.lst (i.map V.ref))) (s:Paired (λa (m:O Int)=>b a=U (.tup (m.map V.int))) i d) (r:∀t∈d,full t=af/\t.length=n) (q:∀c o,k c=U o->c≠l.ha->c≠l.la->b c=U o) (e:g=h p):Lp k l j d n h g b
def VF(l:JL)(a b i j:Int)(c e d h:Z)(g:bR V):St:=[U (.ref l.J),U (.int a),U (.int b),U (.ref c),U (.int i),U (.int j),U (.ref e),U (.ref d),U (.ref h),g]
abbrev LR:O ar:=["self","mover","stayer","turn"]
def t8:aP ["self","mover","stayer","turn","head","old_head","to_mover","to_old_head","moved","number"] LR (aJ Gy):=.aY
theorem ZgK(F:aM K "move" "Joins.move" Gy f fd)(A:mM K C)(rH:HasFn P w K mg I 1 "followed" pI (Lm K))(pZ:HasFn P w K mg I 1 "turned_back" pJ Dg)(bl:Bl mg):aB P w K mg I aL 2 f fd LR (TQ C):=by
 refine F.o t8 λs H hr h=>?_;obtain⟨l,st,n,a,b,B,hb,ta,tb,tn,fm,tu,r,mb,rfl,g,hu,n8,tl,ft,hA,hB,lA,lB,fl,ll,mA,mB,fA,neq,min,lm,ndk,q⟩:=h;refine⟨_,(aj (bh 4 t8.nd (aI (iL K) (pF K 0) (pv 2))) (aj (bh 5 t8.nd (aI (iL K) (pF K 0) (pv 1))) (aj (bh 6 t8.nd (aQ rH hr (aa (aI (iL K) (pF K 0) (pv 2)) (aa (pv 3) ae)))) (aj (bh 7 t8.nd (aQ rH hr (aa (pv 6) (aa (aQ pZ hr (aa (aI (iL K) (pF K 0) (pv 1)) ae)) ae)))) (aj (bh 8 t8.nd (PL (pF K 0) (pv 5) ⟨rfl,rfl,rfl,rfl⟩)) (aj (cE (PL (pF K 0) (pv 5) ⟨rfl,rfl,rfl,rfl⟩)) (aj (ic hY rfl (fX (K:=K) rfl (pv 8)) (bG 9 t8.nd) (aj (RF (pF K 0) (pv 9) PF (pv 4)) (au (RF (pF K 0) (pv 9) PF (aQ rH hr (aa (pv 7) (aa (aI (iL K) (pF K 0) (pv 9)) ae))))))) (au (cE (qu (K:=K) rfl (mP jo PySem.F.slot_list_extend PySem.F.type_list_extend ZcX (dF (bF hr) (pF K 0) (pv 4) (λ_ _=>rfl)) (aa (pv 8) ae)))))))))))),?_⟩;have sz:(10000:Nat)<=sizeLine:=by rw[dU];decide
 obtain⟨L,ho⟩:=g.obj;have zW:∀{i:Nat} {t:O Int},st.ld[i]?=U t->∃x,l.fL[i]?=U x/\H x=U (.tup (t.map V.int)):=λ{i t} ht=>by
  have hl:=de g.lead;have eM:i<l.fL.length:=by rw[hl];exact(Yj.mp ht).1
  obtain⟨y,ey,hy⟩:=fU g.lead (Yc eM);rw[ht] at ey;cases ey;exact⟨_,Yc eM,hy⟩
 obtain⟨xa,exa,Nd⟩:=zW lA;obtain⟨xb,exb,Nf⟩:=zW lB;have ata:eG (l.fL.map V.ref) (a:Int)=U (.ref xa):=eZ (by rw[Ye,exa];rfl);have atb:eG (l.fL.map V.ref) (b:Int)=U (.ref xb):=eZ (by rw[Ye,exb];rfl);obtain⟨XQ,lta⟩:=fl ta (Yg lA);obtain⟨Ng,Nh⟩:=fl tb (Yg lB);obtain⟨mo,AS,vmo,XR⟩:=qf (f:=λv:O Nat=>HO.lst (eN v)) g.mem mA;obtain⟨ms,mms,vms,hms⟩:=qf (f:=λv:O Nat=>HO.lst (eN v)) g.mem mB;obtain⟨fo,mfo,vfo,hfo⟩:=qf (f:=λv:O Int=>HO.lst (v.map V.int)) g.free fA;have M_:=de g.mem;have Ei:=de g.free;have nd:=g.nd;have Ek:∀{x:Z},x∈l.hV->x∈l.fp:=λ{x} h=>by simp[JL.fp,h]
 simp only[JL.fp,Y0,Yq,iz] at nd;obtain⟨⟨x1,x2,x3,x4,x5⟩,⟨y1,y2,y3,y4⟩,⟨z1,z2,z3⟩,⟨w1,w2⟩,v1,v2⟩:=nd;refine bN ?_;refine⟨_,rfl,l.J,C,L,_,_,rfl,ho,A.cls,A.jT,rfl,_,rfl,l.ha,_,_,_,rfl,rfl,aq.of g.heads,nK hB,?_⟩;refine bN ?_;refine⟨_,rfl,l.J,C,L,_,_,rfl,ho,A.cls,A.jT,rfl,_,rfl,l.ha,_,_,_,rfl,rfl,aq.of g.heads,nK hA,?_⟩;refine bN ?_;refine⟨_,rfl,l.J,C,L,_,_,rfl,ho,A.cls,A.oR,rfl,_,rfl,l.la,_,_,_,rfl,rfl,aq.of g.jx,atb,_,rfl,xb,tu,tb,tn,rfl,az.of Nf,az.of hu,λx Q=>by rw[tl,←Nh];exact rX Ng Q,by omega,λtm H1 XN g1 htm=>?_⟩;refine bN ?_;refine⟨_,rfl,_,rfl,l.J,C,L,_,_,rfl,g1 _ _ ho,A.cls,A.oR,rfl,_,rfl,l.la,_,_,_,rfl,rfl,aq.of (g1 _ _ g.jx),ata,xa,ta,rfl,g1 _ _ Nd,by omega,XQ,λti H2 nti g2 El=>?_⟩;refine⟨tm,ti,bL tn tb,inv ta,rfl,az.of (g2 _ _ htm),az.of El,?_,by rw[iE];omega,λto H3 Em g3 XS=>?_⟩
 ·rw[fV,lta];exact Ziu (n:=n) (λx Q=>by rw[←tl];exact rX ft Q) (λy hy=>by rw[tl,←Nh];exact rX Ng hy)
 have kM:=(g1.trans g2).trans g3;generalize Zkd:bL (inv ta) (bL tn tb)=d at XS q;have xU:full d=af/\d.length=n:=by
  rw[←Zkd];refine⟨oP (kr XQ) (oP ft Ng (by omega)) (by rw[fV,iE];omega),by rw[iE,iE];exact Nh⟩
 refine bN ?_;refine⟨_,rfl,l.J,C,L,_,_,rfl,kM _ _ ho,A.cls,A.w8,rfl,l.md,rfl,.inl ⟨_,.inl (kM _ _ g.kF)⟩,_,rfl,_,.inl (B:Int),.ref mo,kM _ _ g.kF,rfl,vmo,λH4 b4 e4=>?_⟩;rw[BB B (by rw[Ya];exact M_.symm)] at e4;have o4:=b4 _ _ (kM _ _ ho) x3;have f4:=b4 _ _ (kM _ _ g.frees) (λz=>w1 z.symm);refine⟨_,rfl,l.J,C,L,_,_,rfl,o4,A.cls,A.se,rfl,l.fd,rfl,.inl ⟨_,.inl f4⟩,_,rfl,_,.inl (B:Int),.ref fo,f4,rfl,vfo,λH5 b5 e5=>?_⟩;rw[BB B (by rw[Ya];exact Ei.symm)] at e5;have J:∀c o,H c=U o->c≠l.md->c≠l.fd->H5 c=U o:=λc o e G N=>b5 _ _ (b4 _ _ (kM _ _ e) G) N;have e45:H5 l.md=U _:=b5 _ _ e4 w1;have W:∀{x:Z},x∈l.hV->x≠l.ha/\x≠l.la/\x≠l.md/\x≠l.fd:=λ{x} Q=>⟨λz=>y4 (by rw[←z];exact Q),λz=>z3 (by rw[←z];exact Q),λz=>w2 (by rw[←z];exact Q),λz=>v1 (by rw[←z];exact Q)⟩;have XT:=J _ _ XR (W AS).2.2.1 (W AS).2.2.2;have yt:H5 to=U (.tup (d.map V.int)):=by
  have G:to≠l.md:=λz=>by rw[z,g1.trans g2 _ _ g.kF] at Em;cases Em
  have N:to≠l.fd:=λz=>by rw[z,g1.trans g2 _ _ g.frees] at Em;cases Em
  exact b5 _ _ (b4 _ _ XS G) N
 dsimp only;have En:(eN r).length=r.length:=Ya _;have hlen:∀is:O Nat,(k_ hb is st.hd).length=st.hd.length:=λis=>yX (λ_ _=>W7) is st.hd;have Zke:∀is:O Nat,(iM d is st.ld).length=st.ld.length:=λis=>yX (λ_ _=>by unfold qZ;exact W7) is st.ld;refine ib (Lp H5 l (k_ hb r st.hd) (iM d r st.ld) n (VF l a b hb B tu tm to mo)) (λkN dD=>?_) ?_
 ·refine⟨_,rfl,mo,rfl,⟨_,aq.of XT⟩,kW (K:=K) (a:=mo) (xs:=eN r) (λj=>Lp H5 l (k_ hb (r.take j) st.hd) (iM d (r.take j) st.ld) n (VF l a b hb B tu tm to mo))
   ⟨l.fL,aG,J _ _ g.heads y2 y3,J _ _ g.jx z1 z2,L2.Paired.bI g.lead λc xs e=>J c _ e (eA e g.kF (λz=>by cases z)) (eA e g.frees (λz=>by cases z)),fl,λc o e _ _=>e,rfl⟩
   (λj σ H6 _ ⟨_,_,_,_,_,_,E,_⟩=>aq.of (E _ _ XT (W AS).1 (W AS).2.1)) ?_ ?_⟩
  ·rintro j v σ H6 hj ⟨D,o9,R,k2,k3,k4,E,rfl⟩;rw[Ye] at hj;obtain⟨i,mi,rfl⟩:∃i,r[j]?=U i/\V.int (i:Int)=v:=by
    cases e:r[j]? with
    |none=>rw[e] at hj;cases hj
    |some i=>rw[e] at hj;exact⟨i,rfl,Yn hj⟩
   have hi:=min i (Yg mi);have il:i<(iM d (r.take j) st.ld).length:=by rw[Zke];omega
   have Zl0:=de k3;obtain⟨t,et,El⟩:=fU k3 (Yc (show i<D.length by omega));obtain⟨ftt,XU⟩:=k4 t (Yg et);have oJ:=E _ _ (J _ _ ho x3 x4) x1 x2;have ixh:m5 (eN (k_ hb (r.take j) st.hd)).length (i:Int)=U i:=by
    rw[Kx (nV _) (by rw[Ya,hlen];omega),Y6]
   have ixl:m5 (D.map V.ref).length (i:Int)=U i:=by
    rw[Kx (nV _) (by rw[Ya];omega),Y6]
   refine a_ ?_;refine⟨_,rfl,_,rfl,l.J,C,L,_,_,rfl,oJ,A.cls,A.jT,rfl,_,rfl,l.ha,_,_,i,rfl,rfl,R,ixh,λH7 b7 e7=>?_⟩;have XW:=b7 _ _ oJ x1;have AU:=b7 _ _ k2 (λz=>y1 z.symm);have to7:H7 to=U (.tup (d.map V.int)):=b7 _ _ (E _ _ yt (eA yt (J _ _ g.heads y2 y3) (λz=>by cases z)) (eA yt (J _ _ g.jx z1 z2) (λz=>by cases z))) (eA (E _ _ yt (eA yt (J _ _ g.heads y2 y3) (λz=>by cases z)) (eA yt (J _ _ g.jx z1 z2) (λz=>by cases z))) R (λz=>by cases z));have x7:H7 D[i]=U (.tup (t.map V.int)):=b7 _ _ El (eA El R (λz=>by cases z));have atx:eG (D.map V.ref) (i:Int)=U (.ref D[i]):=eZ (by rw[Ye,Yc (show i<D.length by omega)];rfl);refine⟨_,rfl,_,rfl,l.J,C,L,_,_,rfl,XW,A.cls,A.oR,rfl,_,rfl,l.la,_,_,_,rfl,rfl,aq.of AU,atx,to,D[i],d,t,rfl,az.of to7,az.of x7,λx Q=>by rw[XU,←xU.2];exact rX xU.1 Q,by have:=xU.2;omega,λtt H8 XX g8 htt=>?_⟩;refine⟨_,rfl,l.J,C,L,_,_,rfl,g8 _ _ XW,A.cls,A.oR,rfl,_,rfl,l.la,_,_,i,rfl,rfl,g8 _ _ AU,ixl,λH9 b9 e9=>?_⟩;have gt:(iM d (r.take j) st.ld).getD i []=t:=by rw[Yi,et];rfl
   have eh:k_ hb (r.take (j+1)) st.hd=(k_ hb (r.take j) st.hd).set i hb:=O2 mi st.hd;have el:iM d (r.take (j+1)) st.ld=(iM d (r.take j) st.ld).set i (bL t d):=by
    have e1:iM d (r.take (j+1)) st.ld=qZ d (iM d (r.take j) st.ld) i:=O2 mi st.ld;rw[e1,←gt];rfl
   have Nc:tt≠l.la:=λz=>by rw[z,AU] at XX;cases XX
   have h9:∀c o,H6 c=U o->c≠l.ha->c≠l.la->H9 c=U o:=λc o e G N=>b9 _ _ (g8 _ _ (b7 _ _ e G)) N;refine⟨D.set i tt,_,?_,?_,?_,?_,λc o e G N=>h9 c o (E c o e G N) G N,rfl⟩
   ·rw[eh,←ZgJ];exact b9 _ _ (g8 _ _ e7) y1
   ·rw[e9,List.map_set]
   ·rw[el];exact O3 (F:=λa (xs:O Int)=>H9 a=U (.tup (xs.map V.int))) (b9 _ _ htt Nc) i (L2.Paired.bI k3 λc xs e=>h9 c _ e (eA e R (λz=>by cases z)) (eA e k2 (λz=>by cases z)))
   ·intro u AV;rw[el] at AV;rcases List.mem_or_eq_of_mem_set AV with z|z;·exact k4 u z
    ·rw[z];exact⟨oP ftt xU.1 (by rw[XU,xU.2]),by rw[iE];exact xU.2⟩
  ·rintro σ H6 ⟨D,o9,R,k2,k3,k4,E,rfl⟩;rw[En,Y8] at R k3 k4;exact dD _ _ ⟨D,o9,R,k2,k3,k4,E,rfl⟩
 rintro σ H6 ⟨D,o9,R,k2,k3,k4,E,rfl⟩;have oJ:=E _ _ (J _ _ ho x3 x4) x1 x2;have XY:=E _ _ e45 (λz=>y2 z.symm) (λz=>z1 z.symm);have fd6:=E _ _ e5 (λz=>y3 z.symm) (λz=>z2 z.symm);have Eo:=W mms;have Ep:=W AS;have zX:∀c o,H c=U o->c≠l.ha->c≠l.la->c≠l.md->c≠l.fd->H6 c=U o:=λc o e G N n3 n4=>E _ _ (J _ _ e n3 n4) G N;have ms6:=zX _ _ hms Eo.1 Eo.2.1 Eo.2.2.1 Eo.2.2.2;have mo6:=zX _ _ XR Ep.1 Ep.2.1 Ep.2.2.1 Ep.2.2.2;have XZ:Paired (λc (p:Nat×O Nat)=>H6 c=U (.lst (eN p.2))/\c∈l.hV) (eP (st.mem.map (·.1)) l.hV B) (c7 B st.mem):=HZ g.mem λc p e mc _=>by
  obtain⟨q1,q2,q3,q4⟩:=W mc;exact⟨zX _ _ e q1 q2 q3 q4,mc⟩
 have lkB:(c7 B st.mem).lookup hb=U mb:=by rw[wR (λz=>neq z.symm)];exact mB
 obtain⟨yu,Zkf,LS,LU⟩:=qf (f:=λv:O Nat=>HO.lst (eN v)) (L2.Paired.bI XZ λ_ _ h=>h.1) lkB;rw[qi] at LS;have CZ:yu∈l.hV:=B7.subset Zkf;refine⟨_,rfl,l.J,C,L,_,_,rfl,oJ,A.cls,A.w8,rfl,_,rfl,l.md,.ref yu,rfl,qv XY LS,.inl ⟨rfl,_,aq.of LU⟩,_,rfl,yu,mo,_,_,rfl,rfl,LU,mo6,by rw[En,Ya];omega,λH7 b7 e7=>?_⟩;obtain⟨r1,r2,r3,r4⟩:=W CZ;have sub:=B7 (h:=B) (ks:=st.mem.map (·.1)) (as:=l.hV);have Zkg:=B7 (h:=B) (ks:=st.fr.map (·.1)) (as:=l.bY);have X0:∀c∈JL.fp ⟨l.J,l.ha,l.la,l.md,l.fd,D,eP (st.mem.map (·.1)) l.hV B,eP (st.fr.map (·.1)) l.bY B⟩,c∈l.fp:=λc hc=>by
  simp only[JL.fp,Yq] at hc⊢;rcases hc with h|h|h|h|h|h;·exact .inl h
  ·exact .inr (.inl h)
  ·exact .inr (.inr (.inl h))
  ·exact .inr (.inr (.inr (.inl h)))
  ·exact .inr (.inr (.inr (.inr (.inl h))))
  ·exact .inr (.inr (.inr (.inr (.inr (sub.subset h)))))
 have T:∀c o,H6 c=U o->c≠yu->H7 c=U o:=λc o e G=>b7 _ _ e G;refine q ⟨l.J,l.ha,l.la,l.md,l.fd,D,eP (st.mem.map (·.1)) l.hV B,eP (st.fr.map (·.1)) l.bY B⟩ H7 rfl X0 (λc o e X=>?_) ⟨⟨L,T _ _ oJ (λz=>x5 (by rw[z];exact CZ))⟩,T _ _ R (λz=>r1 z.symm),T _ _ k2 (λz=>r2 z.symm),L2.Paired.bI k3 λc xs e=>T c _ e (eA e LU (λz=>by cases z)),?_,?_,?_,?_,?_,λc hc z=>?_⟩
 ·simp only[JL.fp,Yq,iz] at X;exact T _ _ (zX _ _ e X.2.1 X.2.2.1 X.2.2.2.1 X.2.2.2.2.1) (λz=>X.2.2.2.2.2 (by rw[z];exact CZ))
 ·show H7 l.md=U (.dK (bq ((dQ hb (mb++r) (c7 B st.mem)).map (·.1)) _));rw[uh,qi];exact T _ _ XY (λz=>r3 z.symm)
 ·refine Zdg (F:=λc (p:Nat×O Nat)=>H6 c=U (.lst (eN p.2))/\c∈l.hV) (m:=yu) (λk=>?_) XZ (sub.nodup v2) ?_ (by rw[qi];exact LS) λc p e _ X=>T _ _ e.1 X
  ·show H7 yu=U (.lst (eN (mb++r)));rw[e7,eN,eN,eN,Yo]
  ·rw[qi];exact ndk.filter _
 ·show H7 l.fd=U (.dK (bq ((c7 B st.fr).map (·.1)) _));rw[qi];exact T _ _ fd6 (λz=>r4 z.symm)
 ·refine HZ g.free λc p e mc _=>?_;have no:=g.out c mc;simp only[JL.fp,Yq,iz] at no;exact T _ _ (zX _ _ e no.2.1 no.2.2.1 no.2.2.2.1 no.2.2.2.2.1) (λz=>no.2.2.2.2.2 (by rw[z];exact CZ))
 ·have e0:(JL.fp ⟨l.J,l.ha,l.la,l.md,l.fd,D,eP (st.mem.map (·.1)) l.hV B,eP (st.fr.map (·.1)) l.bY B⟩).Sublist l.fp:=(((((sub.cons₂ l.fd).cons₂ l.md).cons₂ l.la).cons₂ l.ha).cons₂ l.J);exact e0.nodup g.nd
 ·exact g.out c (Zkg.subset hc) (X0 c z)
structure VG(st:JS)(n a b ha hb:Nat)(ta tb fma AW:O Int)(ma mb:O Nat):Prop where
 hA:st.hd[a]?=U ha
 hB:st.hd[b]?=U hb
 lA:st.ld[a]?=U ta
 lB:st.ld[b]?=U tb
 fl:∀t∈st.ld,full t=af/\t.length=n
 ll:st.ld.length=st.hd.length
 mA:st.mem.lookup ha=U ma
 mB:st.mem.lookup hb=U mb
 fA:st.fr.lookup ha=U fma
 fB:st.fr.lookup hb=U AW
 ne:ha≠hb
 iA:∀i∈ma,i<st.hd.length
 iB:∀i∈mb,i<st.hd.length
 lm:ma.length+mb.length<=1000
 nd:(st.mem.map (·.1)).Nodup
inductive R6(C:Z)(s:O V)(H:Hp)(Q:VK)(E:XK):Prop
 |mk (l:JL) (st:JS) (n a b m k:Nat) (g e d o t:O Int) (r:Z) (i h:O Nat) (B:s=[.ref l.J,.int (a:Int),.int (b:Int),.ref r]) (D:cH H C n l st) (z:H r=U (.tup (d.map V.int))) (A:n<=8) (y:d.length=n) (x:full d=af) (v:VG st n a b m k g e o t i h) (u:∀(j:JL) (p:JS) (q:Hp),j.J=l.J->(∀c∈j.fp,c∈l.fp)->Out l.fp H q->cH q C n j p->(p=st.mv k m h i (bL (inv g) (bL (inv d) e))\/p=st.mv m k i h (bL (inv e) (bL d g)))->Q .aE q)
abbrev iP:O ar:=["self","one","other","turn"]
def ZY:aP iP iP (aJ E8):=.aY
def ZfA(F:aM K "bring_together" "Joins.bring_together" E8 f fd)(d:mM K C)(pZ:HasFn P w K mg I 1 "turned_back" pJ Dg)(Bm:b_ P w K mg I 2 "move" C LR (TQ C))(bl:Bl mg):aB P w K mg I aL 3 f fd iP (R6 C):=by
 refine F.o ZY λs H i h=>?_;obtain⟨l,st,n,a,b,X,W,L,J,m,A,AW,G,R,Q,rfl,c,T,N,tl,y,two,q⟩:=h;refine⟨_,(au (aR (bp nP (cT K bl (dF (bF i) (pF K 0) (aI (iL K) (pF K 0) (pv 1)) (λ_ _=>rfl))) (cT K bl (dF (bF i) (pF K 0) (aI (iL K) (pF K 0) (pv 2)) (λ_ _=>rfl)))) (au (cE (cJ Bm i (by decide) (pv 0) (aa (pv 1) (aa (pv 2) (aa (aQ pZ i (aa (pv 3) ae)) ae)))))) (au (cE (cJ Bm i (by decide) (pv 0) (aa (pv 2) (aa (pv 1) (aa (pv 3) ae)))))))),?_⟩;obtain⟨g,e⟩:=c.obj;obtain⟨E,mxa,k,Nd⟩:=qf (f:=λv:O Nat=>HO.lst (eN v)) c.mem two.mA;obtain⟨D,mxb,j,Nf⟩:=qf (f:=λv:O Nat=>HO.lst (eN v)) c.mem two.mB;refine⟨_,rfl,l.J,C,g,_,_,rfl,e,d.cls,d.w8,rfl,_,rfl,l.J,C,g,_,_,rfl,e,d.cls,d.jT,rfl,_,rfl,l.ha,_,_,_,rfl,rfl,aq.of c.heads,nK two.hA,l.md,.ref E,rfl,qv c.kF k,E,_,rfl,.inl (aq.of Nd),?_⟩;refine⟨_,rfl,l.J,C,g,_,_,rfl,e,d.cls,d.w8,rfl,_,rfl,l.J,C,g,_,_,rfl,e,d.cls,d.jT,rfl,_,rfl,l.ha,_,_,_,rfl,rfl,aq.of c.heads,nK two.hB,l.md,.ref D,rfl,qv c.kF j,D,_,rfl,.inl (aq.of Nf),_,_,rfl,rfl,_,rfl,bc (λ_=>?_) (λ_=>?_)⟩
 ·refine⟨_,rfl,l.J,g,_,rfl,e,rfl,_,rfl,_,rfl,_,rfl,G,m,rfl,T,by omega,y,λtv H1 ntv g1 x=>?_⟩;refine⟨l,st,n,a,b,X,W,L,J,inv m,A,tv,R,Q,rfl,c.same g1,x,N,by rwa[fV],kr y,two.hA,two.hB,two.lA,two.lB,two.fl,two.ll,two.mA,two.mB,two.fA,two.ne,two.iA,two.lm,two.nd,λp B t r o u=>q p _ B t r ((Out.of g1).trans o) u (.inl rfl)⟩
 ·refine⟨_,rfl,l.J,g,_,rfl,e,rfl,_,rfl,_,rfl,_,rfl,?_⟩;exact⟨l,st,n,b,a,W,X,J,L,m,AW,G,Q,R,rfl,c,T,N,tl,y,two.hB,two.hA,two.lB,two.lA,two.fl,two.ll,two.mB,two.mA,two.fB,(λz=>two.ne z.symm),two.iB,by have:=two.lm;omega,two.nd,λp B t r o u=>q p _ B t r o u (.inr rfl)⟩
def UT(H:Hp)(c:O Z)(b:O (Int×Int)):Prop:=Paired (λa (p:Int×Int)=>H a=U (.tup [.int p.1,.int p.2])) c b
def jy(g e:Nat)(b a c d:O Int):O (Int×Int):=if g=e then c.map λz=>(b.getD z.toNat 0,a.getD z.toNat 0) else(c.map λz=>b.getD z.toNat 0).flatMap λx=>d.map λz=>(x,a.getD z.toNat 0)
inductive R7(C:Z)(m:O V)(H:Hp)(Q:VK)(E:XK):Prop
 |mk (l:JL) (st:JS) (n i j h g:Nat) (c b e d:O Int) (s:m=[.ref l.J,.int (i:Int),.int (j:Int)]) (t:cH H C n l st) (q:u3 st i h c e) (r:u3 st j g b d) (o:∀(p:Z) (k:O Z) (bK:O (Int×Int)) (a:Hp),H p=aG->ai H a->a p=U (.lst (k.map V.ref))->UT a k bK->bK.Perm (jy h g c b e d)->bK.Pairwise jX->Q (.ref p) a)
inductive zT(C:Z)(r:O V)(H:Hp)(Q:VK)(E:XK):Prop
 |mk (l:JL) (st:JS) (n i j g e:Nat) (b a d c h:O Int) (o:Z) (z:r=[.ref l.J,.int (i:Int),.int (j:Int),.ref o]) (A:cH H C n l st) (x:u3 st i g b d) (y:u3 st j e a c) (v:H o=some (.tup (h.map V.int))) (u:(∀q∈jy g e b a d c,0<=q.1/\q.1<h.length)) (t:(jy g e b a d c).length<=1000) (s:∀(p:Z) (k:O Int) (m:Hp),H p=none->ai H m->m p=some (.lst (k.map V.int))->k.Perm (((jy g e b a d c).filter λq=>decide (h.getD q.1.toNat 0=q.2)).map (·.1))->k.Pairwise (·<·)->Q (.ref p) m)
def Za_:aP iP iP (aJ Gx):=.aY
theorem ZgL(F:aM K "left" "Joins.left" Gx f fd)(Gk:b_ P w K mg I 3 "pairs" C sO (R7 C))(bl:Bl mg):aB P w K mg I aL 4 f fd iP (zT C):=by
 refine F.o Za_ λs H hr h=>?_;obtain⟨l,st,n,i,j,hi,hj,ti,tj,si,sj,d,tu,rfl,ja,o1,o2,hu,hJ,f_,q⟩:=h;refine⟨_,(au (aH (Zfe (xs:=["first","second"]) (fr:=[("turn",3)]) (cl:=[("turn",s.heap.objs.size+1)]) rfl (.ir ⟨rfl,trivial⟩ ⟨⟨rfl,.inl rfl,.inl rfl,rfl⟩,trivial⟩) (λ_ _ _ _=>(jt (K:=K) (n:=2) rfl rfl (bX (rT (i:=0) (show(["first","second","turn"]:O ar).Nodup by decide+kernel) rfl (z7 rfl)) (bX (rT (i:=1) (show(["first","second","turn"]:O ar).Nodup by decide+kernel) rfl (hP rfl)) jr)))) (fX (K:=K) rfl (cJ Gk hr (by decide) (pv 0) (aa (pv 1) (aa (pv 2) ae)))) (λ_ _ _ _=>xu (bp bZ (aI (iT K) (pv 2) (pv 0)) (pv 1))) (λ_ _ _ _=>(pv 0))))),?_⟩;obtain⟨dx,ho⟩:=ja.obj;refine⟨_,rfl,l.J,dx,_,rfl,ho,rfl,_,rfl,_,rfl,l,st,n,i,j,hi,hj,ti,tj,si,sj,rfl,ja,o1,o2,λp G bK H1 np R hp X J pw=>?_⟩;have pl:=de X;have al:(G.map V.ref).length=bK.length:=by rwa[Ya]
 have VH:=J.length_eq;refine⟨p,rfl,⟨_,aq.of hp⟩,λD Q=>ZcZ (xs:=G.map V.ref) (λk m r=>k<=bK.length/\ai H1 r/\r D=U (.lst m)/\m=((bK.take k).filter λq=>decide (d.getD q.1.toNat 0=q.2)).map λq=>V.int q.1) ⟨Yx _,cC Q _,aU,rfl⟩ (λk m r _ ⟨_,g,_,_⟩=>aq.of (g _ _ hp)) ?_ ?_⟩
 ·rintro k v m r t ⟨_,g,E,u⟩ os qS;obtain⟨B,A,rfl⟩:∃B A,os=[B,A]:=by
   match os,qS with
   |[B,A],_=>exact⟨B,A,rfl⟩
  rw[Ye] at t;obtain⟨c,ec,rfl⟩:∃c,G[k]?=U c/\V.ref c=v:=by
   cases e:G[k]? with
   |none=>rw[e] at t;cases t
   |some c=>rw[e] at t;exact⟨c,rfl,Yn t⟩
  obtain⟨⟨x,y⟩,W,L⟩:=fU X ec;have kl:k<bK.length:=(Yj.mp W).1;have bx:=hJ (x,y) (J.subset (Yg W));have N:=g _ _ L;have yl:m.length<sizeLine:=by
   have:=Wk (λq:Int×Int=>decide (d.getD q.1.toNat 0=q.2)) (bK.take k);rw[Wb] at this;rw[u,Ya,dU];omega
  refine⟨c,_,rfl,az.of N,rfl,_,_,rfl,a_ ⟨_,_,rfl,a_ ⟨rfl,⟨[U (.int x),U (.int y)],rfl,rfl⟩,?_⟩⟩⟩;refine⟨_,rfl,_,rfl,tu,_,_,_,rfl,rfl,az.of (g _ _ (R _ _ hu)),oV bx.1 bx.2,_,rfl,rfl,_,rfl,?_⟩;have ed:decide (V.int (d.getD x.toNat 0)=V.int y)=decide (d.getD x.toNat 0=y):=by
   rw[Wd,gI,yM];exact⟨V.int.inj,λz=>by rw[z]⟩
  rw[ed];have et:∀(b:cm),decide (d.getD x.toNat 0=y)=b->((bK.take (k+1)).filter λq=>decide (d.getD q.1.toNat 0=q.2)).map (λq=>V.int q.1)=m++(if b=af then[V.int x] else[]):=λb eb=>by
   rw[u,Y1,W,Wf,Yo]
   congr 1
   show([((x,y):Int×Int)].filter _).map _=_;rw[Wj,eb];cases b<;>rfl
  refine bc (λT=>?_) (λT=>?_)
  ·refine⟨_,rfl,E,yl,kl,λb o e=>?_,aU,?_⟩
   ·rw[aK (cA e Q)];exact g _ _ e
   ·rw[et af T];rfl
  ·refine⟨kl,g,E,?_⟩;rw[et a8 (by cases e:decide (d.getD x.toNat 0=y) with|true=>exact absurd e T|false=>rfl)];simp
 ·rintro m r ⟨_,g,E,u⟩;rw[al,Y8] at u;refine q D ((bK.filter λq=>decide (d.getD q.1.toNat 0=q.2)).map (·.1)) r (R.free Q) (R.trans g) (by rw[E,u,Y7];rfl) ((J.filter _).map _) ?_;rw[Wr];refine(X1.mp (pw.filter _)).imp ?_;rintro a b ⟨ma,mb,lt⟩;have e1:=fb (Y5.mp ma).2;have e2:=fb (Y5.mp mb).2;rcases lt with lt|⟨e,lt⟩;·exact lt
  ·rw[←e1,←e2,e] at lt;exact absurd lt (Int.lt_irrefl _)
theorem Ziv:∀{c:O V} {d:O Nat},Paired (λy k=>∃a,y=V.ref a/\H a=U (.tup [.int (g k).1,.int (g k).2])) c d->∃b:O Z,c=b.map V.ref/\UT H b (d.map g):=by
 intro c d i;induction i with
 |nil=>exact⟨[],rfl,.nil⟩
 |cons z t j=>
  obtain⟨a,e,h⟩:=z;obtain⟨b,m,l⟩:=j;exact⟨a::b,by rw[e,m];rfl,.cons h l⟩
def map_range(g:Int->α)(a:O Int):(List.range a.length).map (λk=>g (a.getD k 0))=a.map g:=by
 have b:(List.range a.length).map (λk=>g (a.getD k 0))=((List.range a.length).map λk=>a.getD k 0).map g:=by rw[Y7];rfl
 rw[b,(range_getD a 0)]
def VI(D:Z)(H:Hp)(c:O Z)(b:O (Int×Int)):Prop:=Paired (λa (p:Int×Int)=>a≠D/\H a=U (.tup [.int p.1,.int p.2])) c b
theorem JK{d c e:Type}(g:d->c->e)(b:O c):∀a:O d,(a.flatMap λx=>b.map (g x)).length=a.length*b.length
 |[]=>by simp
 |x::a=>by rw[List.flatMap_cons,Yl,JK g b a,Ya,Wi,Nat.succ_mul];exact Nat.add_comm _ _
def Zeh{a β c:Type}{g:a->O c}{b:O a}{i:Nat}{x:a}(h:b[i]?=U x):(b.take (i+1)).flatMap g=(b.take i).flatMap g++g x:=by
 rw[Y1,h,List.flatMap_append];simp
def PX{a:O Int}(b:a.Pairwise (·<=·))(c:a.Nodup):a.Pairwise (·<·):=by
 refine(List.Pairwise.and b (Wl.mp c)).imp ?_
 grind
def ZgM(x:Int){a:O Int}(b:a.Pairwise (·<·)):(a.map λy=>((x,y):Int×Int)).Pairwise jX:=by
 rw[Wr];exact b.imp λh=>.inr ⟨rfl,h⟩
def ZgN{a:O Int}(c:a.Pairwise (·<·))(e:a[k]?=U x)(d:y∈a.take k):y<x:=by
 obtain⟨i,b,rfl⟩:=Wx.mp d;obtain⟨g,rfl⟩:=Yj.mp e;rw[Wb] at b;rw[List.getElem_take];exact W3.mp c i k (hT b (Xw _ _)) g (hT b (Nat.min_le_left _ _))
def FZ:aP ["self","one","other","here","there"] sO (aJ Gd):=.aY
theorem ZfB(F:aM K "pairs" "Joins.pairs" Gd f fd)(W:mM K C)(wo:b_ P w K mg I 1 "together" C sO (HY C))(oH:b_ P w K mg I 2 "open_at" C Ab (B5 C))(bl:Bl mg):aB P w K mg I aL 3 f fd sO (R7 C):=by
 refine F.o FZ λs H hr h=>?_;obtain⟨l,st,n,i,j,hi,hj,ti,N,u,sj,rfl,J,B,A,q⟩:=h;refine⟨_,(aj (aR (ju (e_ (cJ wo hr (by decide) (pv 0) (aa (pv 1) (aa (pv 2) ae))))) (au (aH (Zff (xs:=["first","second"]) (fr:=[("self",0),("other",2)]) (cl:=[("self",s.heap.objs.size+1),("other",s.heap.objs.size+1+1)]) rfl (.ir ⟨rfl,⟨rfl,trivial⟩⟩ ⟨⟨rfl,.inl rfl,.inl rfl,rfl⟩,⟨⟨rfl,.inl rfl,.inl rfl,rfl⟩,trivial⟩⟩) (λ_ _ _ _=>(rT (i:=0) (show(["first","second","self","other"]:O ar).Nodup by decide+kernel) rfl (hP rfl))) (fX (K:=K) rfl (cJ oH hr (by decide) (pv 0) (aa (pv 1) ae))) (λ_ _ _ _=>(fX (K:=K) rfl (cJ oH hr (by decide) (pv 2) (aa (pv 3) ae)))) (λ_ _ _ _=>(rT (i:=1) (show(["first","second","self","other"]:O ar).Nodup by decide+kernel) rfl (hP rfl))) (λ_ _ _ _=>(cU (aa (pv 0) (aa (pv 1) ae))))))) aW) (aj (iF (i:=3) FZ.nd rfl (kO rfl) (aI (iL K) (pF K 0) (pv 1))) (aj (iF (i:=4) FZ.nd rfl (kO rfl) (aI (iL K) (pF K 0) (pv 2))) (au (aH (gQ (Zfl (K:=K) rfl) rfl bl.BX BH (aa (jS (x:="section") (fr:=[("there",4),("here",3)]) (cl:=[("there",s.heap.objs.size+1+1+1+1),("here",s.heap.objs.size+1+1+1)]) rfl (.ir ⟨rfl,⟨rfl,trivial⟩⟩ ⟨⟨rfl,.inl rfl,.inl rfl,rfl⟩,⟨⟨rfl,.inl rfl,.inl rfl,rfl⟩,trivial⟩⟩) (fX (K:=K) rfl (dF (bF hr) (pF K 0) (aI (iL K) (pF K 0) (pv 1)) (λ_ _=>rfl))) (λ_ _ _ _=>nI) (λ_ _ _ _=>(cU (aa (aI (iT K) (pv 2) (pv 0)) (aa (aI (iT K) (pv 1) (pv 0)) ae))))) ae))))))),?_⟩;obtain⟨dx,ho⟩:=J.obj;have f1:=B.f_;have f2:=A.f_;refine⟨_,rfl,l.J,dx,_,rfl,ho,rfl,_,rfl,_,rfl,l,st,n,i,j,hi,hj,rfl,J,B.hd,A.hd,_,rfl,?_⟩;by_cases eh:hi=hj
 ·rw[d6 eh];refine bW (aT ?_);have es:u=sj:=by have a:=B.fr;have b:=A.fr;rw[eh,b] at a;exact(Yn a).symm
  have zW:∀{k:Nat} {t:O Int},st.ld[k]?=U t->∃x,l.fL[k]?=U x/\H x=U (.tup (t.map V.int)):=λ{k t} ht=>by
   have hl:=de J.lead;have eM:k<l.fL.length:=by rw[hl];exact(Yj.mp ht).1
   obtain⟨y,ey,hy⟩:=fU J.lead (Yc eM);rw[ht] at ey;cases ey;exact⟨_,Yc eM,hy⟩
  obtain⟨xi,exi,hxi⟩:=zW B.ld;obtain⟨xj,exj,hxj⟩:=zW A.ld;have ati:eG (l.fL.map V.ref) (i:Int)=U (.ref xi):=eZ (by rw[Ye,exi];rfl);have atj:eG (l.fL.map V.ref) (j:Int)=U (.ref xj):=eZ (by rw[Ye,exj];rfl);obtain⟨fa,XM,vf,cY⟩:=qf (f:=λv:O Int=>HO.lst (v.map V.int)) J.free B.fr;refine bN ?_;refine⟨_,rfl,l.J,C,dx,_,_,rfl,ho,W.cls,W.oR,rfl,_,rfl,l.la,_,_,_,rfl,rfl,aq.of J.jx,ati,?_⟩;refine bN ?_;refine⟨_,rfl,l.J,C,dx,_,_,rfl,ho,W.cls,W.oR,rfl,_,rfl,l.la,_,_,_,rfl,rfl,aq.of J.jx,atj,?_⟩;refine⟨_,rfl,l.J,C,dx,_,_,rfl,ho,W.cls,W.se,rfl,_,rfl,l.J,C,dx,_,_,rfl,ho,W.cls,W.jT,rfl,_,rfl,l.ha,_,_,_,rfl,rfl,aq.of J.heads,nK B.hd,l.fd,_,rfl,qv J.frees vf,fa,rfl,⟨_,aq.of cY⟩,λD hD=>ze (xs:=u.map V.int) (aq.of cY) (by rw[Ya];omega) hD (λ_=>af) (λk y H1=>∃a,y=V.ref a/\a≠D/\H1 a=U (.tup [.int (ti.getD (u.getD k 0).toNat 0),.int (N.getD (u.getD k 0).toNat 0)])) (λk y H1 G b ⟨a,e1,e2,e3⟩=>⟨a,e1,e2,b _ _ e3 e2⟩) (λk v hk H1 L Nj Kt Kf kt kf=>?_) λys H1 L h1 pr=>?_⟩
  ·obtain⟨z,rfl,hz⟩:=nJ hk;have gz:u.getD k 0=z:=by rw[Yi,hz];rfl
   have b1:=B.hJ z (Yg hz);have b2:=A.hJ z (by rw[←es];exact Yg hz);refine mV (cZ ?_);refine⟨_,rfl,_,rfl,xi,_,_,_,rfl,rfl,az.of (L _ _ hxi),oV b1.1 b1.2,_,rfl,_,rfl,xj,_,_,_,rfl,rfl,az.of (L _ _ hxj),oV b2.1 b2.2,by show 2<=sizeLine;rw[dU];decide,λa G na E ha=>?_⟩;obtain⟨ys,Nj⟩:=Nj;exact kt _ G rfl E ⟨a,rfl,(λz=>by rw[z,Nj] at na;cases na),by rw[gz];exact ha⟩
  ·rw[Hm,Ya] at pr;obtain⟨X,eas,dE⟩:=Ziv (g:=λk=>(ti.getD (u.getD k 0).toNat 0,N.getD (u.getD k 0).toNat 0)) (L2.Paired.bI pr λy k ⟨a,e1,e2,e3⟩=>⟨a,e1,e3⟩);have em:(List.range u.length).map (λk=>((ti.getD (u.getD k 0).toNat 0,N.getD (u.getD k 0).toNat 0):Int×Int))=u.map λz=>(ti.getD z.toNat 0,N.getD z.toNat 0):=map_range (λz=>(ti.getD z.toNat 0,N.getD z.toNat 0)) u;rw[em] at dE;have al:=de dE;rw[Ya] at al;rw[eas] at h1;have ndp:(u.map λz=>((ti.getD z.toNat 0,N.getD z.toNat 0):Int×Int)).Nodup:=by
    have d:=B.dist;rw[Wl,Wr] at d⊢;exact d.imp λh e=>h (eH (·.1) e)
   refine⟨D,X,_,rfl,aq.of h1,dE,ndp,.inl (lL (jn al) f1),λiS lE pr2 p2 pw p G np E hp=>?_⟩;refine q p iS lE G (L.free np) (L.trans E) hp (L2.Paired.bI pr2 λ_ _ e=>E _ _ e) ?_ pw;unfold jy;rw[bS eh];exact p2
 ·rw[g_ eh];refine cZ ?_;refine⟨_,rfl,l.J,dx,_,rfl,ho,rfl,_,rfl,l,st,n,i,hi,ti,u,rfl,J,B.hd,B.ld,B.fr,B.hJ,B.f_,λp Q H1 np L pm srt hp=>?_⟩;have nl:=pm.length_eq;rw[Ya] at nl;have sns:=PX srt (pm.nodup_iff.mpr B.dist);refine⟨p,rfl,⟨_,aq.of hp⟩,λD hD=>Zgt (xs:=Q.map V.int) (λk ys G=>k<=Q.length/\ai H1 G/\G D=U (.lst ys)/\∃(X:O Z) (bK:O (Int×Int)),ys=X.map V.ref/\VI D G X bK/\bK.Perm ((Q.take k).flatMap λx=>sj.map λz=>(x,N.getD z.toNat 0))/\bK.Pairwise jX/\∀p∈bK,p.1∈Q.take k) ⟨Yx _,cC hD _,aU,[],[],rfl,.nil,.nil,.nil,λ_ h=>(nomatch h)⟩ (λk ys G _ ⟨_,E,_⟩=>aq.of (E _ _ hp)) ?_ ?_ ?_ (λv σ H R R' m h=>m _ _ h)⟩
  ·rintro k v ys G hk ⟨kl,E,h2,X,bK,ey,pa,pp,pw,pin⟩ os qS;obtain⟨u1,u2,rfl⟩:∃u1 u2,os=[u1,u2]:=by
    match os,qS with
    |[u1,u2],_=>exact⟨u1,u2,rfl⟩
   obtain⟨x,rfl,hx⟩:=nJ hk;have kl':k<Q.length:=(Yj.mp hx).1;refine a_ ⟨⟨[U (.int x),u2],rfl,rfl⟩,?_⟩;refine⟨_,rfl,l.J,dx,_,rfl,E _ _ (L _ _ ho),rfl,_,rfl,l,st,n,j,hj,N,sj,rfl,J.same (L.trans E),A.hd,A.ld,A.fr,A.hJ,A.f_,λp2 vL H3 yv g3 Nk Zkh dJ=>?_⟩;have Nl:=Nk.length_eq;rw[Ya] at Nl;have Zki:=PX Zkh (Nk.nodup_iff.mpr A.dist);have pD:p2≠D:=λz=>by rw[z,h2] at yv;cases yv
   have VH:=pp.length_eq;rw[JK (λx z=>((x,N.getD z.toNat 0):Int×Int)) sj (Q.take k),Wb] at VH;have Zmh:=de pa;have Zmi:min k Q.length*sj.length<=64*64:=vN (by omega) (r0 f2);refine⟨p2,rfl,⟨_,aq.of dJ⟩,p2,vL.map V.int,λk2 iq σ H4=>k2<=vL.length/\ai H1 H4/\H4 D=U (.lst iq)/\H4 p2=U (.lst (vL.map V.int))/\(∃A,σ=[U (.int x),A]++_)/\∃(yw:O Z) (xV:O (Int×Int)),iq=yw.map V.ref/\VI D H4 yw xV/\xV=bK++(vL.take k2).map λy=>(x,y),rfl,⟨Yx _,E.trans g3,g3 _ _ h2,dJ,⟨u2,rfl⟩,X,bK,ey,L2.Paired.bI pa λ_ _ e=>⟨e.1,g3 _ _ e.2⟩,by simp⟩,λk2 iq σ H4 _ ⟨_,_,_,e,_⟩=>aq.of e,?_,?_⟩
   ·rintro k2 v2 iq σ H4 pK ⟨k2l,g4,h4,e4,⟨X2,rfl⟩,yw,xV,Es,Et,vM⟩;obtain⟨y,rfl,hy⟩:=nJ pK;have Zkj:k2<vL.length:=(Yj.mp hy).1;have X3:=de Et;rw[vM,Yl,Ya,Wb] at X3;refine a_ ⟨_,rfl,_,rfl,by show 2<=sizeLine;rw[dU];decide,λa H5 na g5 ha=>⟨g5 _ _ h4,by rw[Es,Ya,X3,dU];have:=A.f_;omega,Zkj,?_,aU,?_,⟨U (.int y),rfl⟩,yw++[a],xV++[(x,y)],by rw[Es,Yo];rfl,?_,?_⟩⟩
    ·intro b o e;rw[aK (cA e hD)];exact g5 _ _ (g4 _ _ e)
    ·rw[aK pD];exact g5 _ _ e4
    ·have aD:a≠D:=λz=>by rw[z,h4] at na;cases na
     exact kq (F:=λa (p:Int×Int)=>a≠D/\upd H5 D _ a=U (.tup [.int p.1,.int p.2])) ⟨aD,by rw[aK aD];exact ha⟩ (L2.Paired.bI Et λb p e=>⟨e.1,by rw[aK e.1];exact g5 _ _ e.2⟩)
    ·rw[vM,Y1,hy,Yo,Ju];rfl
   ·rintro iq σ H4 ⟨_,g4,h4,e4,⟨X2,rfl⟩,yw,xV,Es,Et,vM⟩;rw[Ya,Y8] at vM;refine⟨⟨[U (.int x),X2],rfl,rfl⟩,kl',g4,h4,yw,xV,Es,Et,?_,?_,λp T=>?_⟩
    ·rw[vM,Zeh (β:=Int) hx];refine pp.append ?_;have:=Nk.map λy:Int=>((x,y):Int×Int);rw[Y7] at this;exact this
    ·rw[vM];refine List.pairwise_append.mpr ⟨pw,ZgM x Zki,λp T q' mq=>.inl ?_⟩;obtain⟨y,_,rfl⟩:=Yf.mp mq;exact ZgN sns hx (pin p T)
    ·rw[vM] at T;rw[Y1,hx];rcases Yu.mp T with T|T;·exact Yt _ (pin p T)
     ·obtain⟨y,_,rfl⟩:=Yf.mp T;exact Ys _ Yk
  ·rintro ys G ⟨_,E,h2,X,bK,ey,pa,pp,pw,_⟩;rw[Ya,Y8] at pp;rw[ey] at h2;refine q D X bK G (L.free hD) (L.trans E) h2 (L2.Paired.bI pa λ_ _ e=>e.2) (pp.trans ?_) pw;unfold jy;rw[bt eh];exact pm.flatMap_right _
  ·rintro σ H R R' m ⟨x1,e1,x2,x3,x4,e2,e3,e4,x5,e5,l,st,n,i,h,t,hH,e6,j1,j2,j3,j4,j5,j6,k⟩;refine⟨x1,e1,x2,x3,x4,e2,e3,e4,x5,e5,l,st,n,i,h,t,hH,e6,j1,j2,j3,j4,j5,j6,λp Q H' a b c d e=>?_⟩;obtain⟨a,e,s,r⟩:=k p Q H' a b c d e;exact⟨a,e,s,m _ _ r⟩
def ap(t:O Int)(z:Int):Int:=t.getD z.toNat 0
def KR(a:0<=z)(h:z<t.length):t[z.toNat]?=U (ap t z):=by
 unfold ap
 grind
def nU(a:full t=af)(b:t.length=n){z:Int}(h:0<=z/\z<n):0<=ap t z/\ap t z<n:=by
 have:=rX a (Yg (KR h.1 (by omega)));omega
def xy(a:full t=af)(c:t.length=n){z:Int}(h:0<=z/\z<n):ap (inv t) (ap t z)=z:=by
 have b:=nU a c h;have d:=Ck (xs:=t) (i:=(ap t z).toNat) (by omega);rw[(J1 b.1),BK (Bz a) (KR h.1 (by omega))] at d;have e:ap (inv t) (ap t z)=((z.toNat:Nat):Int):=by
  show(inv t).getD (ap t z).toNat 0=_
  grind
 grind
def R8(a:full t=af)(b:t.length=n){z:Int}(h:0<=z/\z<n):ap t (ap (inv t) z)=z:=by
 have:=xy (kr a) (by rwa[fV]) h;rw[inv_inv a] at this;exact this
def CF(c:full t=af)(b:t.length=n){z z':Int}(h:0<=z/\z<n)(d:0<=z'/\z'<n)(e:ap t z=ap t z'):z=z':=by
 have a:=xy c b h;rw[e,xy c b d] at a;exact a.symm
def CG(h:0<=z/\z<a.length):ap (bL xs a) z=ap xs (ap a z):=by
 show(bL xs a).getD z.toNat 0=_;unfold bL;rw[Yi,Ye,(KR h.1 h.2)];rfl
def JS.ag(a:JS)(i:Nat):Nat:=a.hd.getD i 0
def JS.bC(a:JS)(i:Nat):O Int:=a.ld.getD i []
def JS.bQ(a:JS)(h:Nat):O Int:=(a.fr.lookup h).getD []
def dk(a:JS)(f:Nat->Int):Prop:=∃s:Nat->Int,∀i,i<a.hd.length->s (a.ag i)∈a.bQ (a.ag i)/\f i=ap (a.bC i) (s (a.ag i))
structure WF(n:Nat)(st:JS):Prop where
 ll:st.ld.length=st.hd.length
 fl:∀t∈st.ld,full t=af/\t.length=n
 fr:∀i,i<st.hd.length->∃hH,st.fr.lookup (st.ag i)=U hH/\hH.Nodup/\∀z∈hH,0<=z/\z<(n:Int)
 mem:∀i,i<st.hd.length->∃ms,st.mem.lookup (st.ag i)=U ms/\ms.Nodup/\∀k,k∈ms↔k<st.hd.length/\st.ag k=st.ag i
 nm:(st.mem.map (·.1)).Nodup
 lm:∀k∈st.mem.map (·.1),k<st.hd.length
 nf:(st.fr.map (·.1)).Nodup
 lf:∀k∈st.fr.map (·.1),k<st.hd.length
 hf:∀k∈st.fr.map (·.1),∃i,i<st.hd.length/\st.ag i=k
def yZ{a:O Nat}(b:a.Nodup)(h:∀x∈a,x<m):a.length<=m:=by
 have l:=b.length_le_of_subset λx c=>Wm.mpr (h x c)
 grind
def wB{c:O Int}{n:Nat}(d:c.Nodup)(h:∀x∈c,0<=x/\x<(n:Int)):c.length<=n:=by
 have l:=d.length_le_of_subset (l₂:=bB n) λx e=>by
  obtain⟨a,b⟩:=h x e;have:=Yg (nH (n:=n) (i:=x.toNat) (by omega))
  grind
 rwa [fN] at l
theorem zg{b:Type}:∀{a:O (Nat×b)} {k:Nat} {v:b},a.lookup k=U v->k∈a.map (·.1)
 |[],_,_,h=>by simp at h
 |p::a,k,v,h=>by
  rw[Wy] at h;by_cases e:k=p.1;·grind
  ·rw[beq_eq_false_iff_ne.mpr e] at h;exact Yw _ (zg h)
theorem Bp{a:Type}(h:Nat)(v:a)(k:Nat):∀ps:O (Nat×a),(dQ h v ps).lookup k=if k=h then(ps.lookup h).map λ_=>v else ps.lookup k
 |[]=>by show([]:O (Nat×a)).lookup k=_;simp
 |p::ps=>by
  have b:=Bp h v k ps;have c:dQ h v (p::ps)=(if p.1=h then(p.1,v) else p)::dQ h v ps:=rfl
  grind
section
variable {n:Nat}{st:JS}
def ur(h:i<st.hd.length):st.hd[i]?=U (st.ag i):=by
 unfold JS.ag;rw[Yi,Yc h];rfl
def WF.CH(a:WF n st)(h:i<st.hd.length):st.ld[i]?=U (st.bC i):=by
 unfold JS.bC;rw[Yi,Yc (by rwa[a.ll])];rfl
def WF.ko(a:WF n st)(h:i<st.hd.length):full (st.bC i)=af/\(st.bC i).length=n:=a.fl _ (Yg (a.CH h))
def WF.d7(c:WF n st)(h:i<st.hd.length):st.fr.lookup (st.ag i)=U (st.bQ (st.ag i))/\(st.bQ (st.ag i)).Nodup/\∀z∈st.bQ (st.ag i),0<=z/\z<(n:Int):=by
 obtain⟨hH,e,a,b⟩:=c.fr i h;have d:st.bQ (st.ag i)=hH:=by unfold JS.bQ;rw[e];rfl
 grind
def WF.dist(c:WF n st)(h:i<st.hd.length):((st.bQ (st.ag i)).map λz=>(st.bC i).getD z.toNat 0).Nodup:=by
 obtain⟨e,a,b⟩:=c.d7 h;rw[Wl,Wr];refine(X1.mp (Wl.mp a)).imp ?_;rintro u v ⟨d,mv,ne⟩ z;exact ne (CF (c.ko h).1 (c.ko h).2 (b u d) (b v mv) z)
def WF.one(c:WF n st)(g:n<=8){i:Nat}(h:i<st.hd.length):u3 st i (st.ag i) (st.bC i) (st.bQ (st.ag i)):=by
 obtain⟨e,a,b⟩:=c.d7 h;have:=wB a b;refine⟨ur h,c.CH h,e,λz d=>by rw[(c.ko h).2];exact b z d,by omega,c.dist h⟩
def WF.two(a:WF n st)(g:i<st.hd.length)(e:j<st.hd.length)(s:st.hd.length<=400)(p:st.ag i≠st.ag j):∃d c,VG st n i j (st.ag i) (st.ag j) (st.bC i) (st.bC j) (st.bQ (st.ag i)) (st.bQ (st.ag j)) d c/\(d.Nodup/\∀k,k∈d↔k<st.hd.length/\st.ag k=st.ag i)/\(c.Nodup/\∀k,k∈c↔k<st.hd.length/\st.ag k=st.ag j):=by
 obtain⟨d,r,o,l⟩:=a.mem i g;obtain⟨c,q,m,h⟩:=a.mem j e;have u:=yZ o λk b=>((l k).mp b).1;have t:=yZ m λk b=>((h k).mp b).1;exact⟨d,c,⟨ur g,ur e,a.CH g,a.CH e,a.fl,a.ll,r,q,(a.d7 g).1,(a.d7 e).1,p,λk b=>((l k).mp b).1,λk b=>((h k).mp b).1,by omega,a.nm⟩,⟨o,l⟩,m,h⟩
def WF.C0(a:WF n st):st.fr.length<=st.hd.length:=by
 have:=yZ a.nf a.lf
 grind
def WF.TR(a:WF n st):st.mem.length<=st.hd.length:=by
 have:=yZ a.nm a.lm
 grind
def wf0:WF n ⟨[],[],[],[]⟩:=⟨rfl,λ_ h=>(nomatch h),λ_ h=>absurd h (Wn _),λ_ h=>absurd h (Wn _),.nil,λ_ h=>(nomatch h),.nil,λ_ h=>(nomatch h),λ_ h=>(nomatch h)⟩
theorem IH(st:JS)(h k:Nat)(v:O Int)(a:st.fr.lookup h≠aG):(st.kz h v).bQ k=if k=h then v else st.bQ k:=by
 show((dQ h v st.fr).lookup k).getD []=_;rw[Bp];by_cases e:k=h
 ·rw[bS e,bS e];cases b:st.fr.lookup h with
  |none=>grind
  |some x=>rfl
 ·rw[bt e,bt e];rfl
def WF.kz(c:WF n st)(h:i<st.hd.length):WF n (st.kz (st.ag i) ((st.bQ (st.ag i)).filter p)):=by
 refine⟨c.ll,c.fl,λk g=>?_,c.mem,c.nm,c.lm,?_,?_,?_⟩
 ·obtain⟨e,a,b⟩:=c.d7 g;show ∃d,(dQ _ _ st.fr).lookup (st.ag k)=U d/\_;rw[Bp]
  grind
 ·show((dQ _ _ st.fr).map (·.1)).Nodup;rw[uh];exact c.nf
 ·show ∀k∈(dQ _ _ st.fr).map (·.1),_;rw[uh];exact c.lf
 ·show ∀k∈(dQ _ _ st.fr).map (·.1),_;rw[uh];exact c.hf
def ud(j:WF n st)(g:i<st.hd.length)(ss:O Int)(f:Nat->Int):dk (st.kz (st.ag i) ((st.bQ (st.ag i)).filter λz=>decide ((st.bC i).getD z.toNat 0∈ss))) f↔dk st f/\f i∈ss:=by
 have e:st.fr.lookup (st.ag i)≠aG:=by rw[(j.d7 g).1];exact λz=>nomatch z
 constructor
 ·rintro⟨s,h⟩;have c:∀k,k<st.hd.length->s (st.ag k)∈st.bQ (st.ag k)/\f k=ap (st.bC k) (s (st.ag k)):=λk c=>by
   obtain⟨a,b⟩:=h k c;refine⟨?_,b⟩;have d:s (st.ag k)∈(st.kz (st.ag i) ((st.bQ (st.ag i)).filter λz=>decide ((st.bC i).getD z.toNat 0∈ss))).bQ (st.ag k):=a;rw[IH st _ _ _ e] at d
   grind
  refine⟨⟨s,c⟩,?_⟩;obtain⟨a,b⟩:=h i g;have d:s (st.ag i)∈(st.kz (st.ag i) ((st.bQ (st.ag i)).filter λz=>decide ((st.bC i).getD z.toNat 0∈ss))).bQ (st.ag i):=a;rw[IH st _ _ _ e,bS rfl] at d;rw[b];exact fb (Y5.mp d).2
 ·rintro⟨⟨s,h⟩,m⟩;refine⟨s,λk c=>?_⟩;obtain⟨a,b⟩:=h k c;refine⟨?_,b⟩;show s (st.ag k)∈(st.kz (st.ag i) ((st.bQ (st.ag i)).filter λz=>decide ((st.bC i).getD z.toNat 0∈ss))).bQ (st.ag k);rw[IH st _ _ _ e];by_cases z:st.ag k=st.ag i
  ·rw[bS z];rw[z] at a⊢;refine Y5.mpr ⟨a,d6 ?_⟩;rw[((h i g).2)] at m;exact m
  ·grind
def BN(l:WF n st){f:Nat->Int}(d:dk st f)(g c:Nat)(b a:Int)(p:b∈st.bQ g)(o:a∈st.bQ c)(m:g=c->b=a):∃i,dk st i/\∀k,k<st.hd.length->(st.ag k=g->i k=ap (st.bC k) b)/\(st.ag k=c->i k=ap (st.bC k) a):=by
 obtain⟨s,h⟩:=d;refine⟨λk=>ap (st.bC k) ((λq=>if q=g then b else if q=c then a else s q) (st.ag k)),⟨λq=>if q=g then b else if q=c then a else s q,λk j=>⟨?_,rfl⟩⟩,λk j=>⟨λe=>?_,λe=>?_⟩⟩;·grind
 ·grind
 ·grind
def xt(m:WF n st)(k:i<st.hd.length)(g:j<st.hd.length){f:Nat->Int}(d:dk st f):(f i,f j)∈jy (st.ag i) (st.ag j) (st.bC i) (st.bC j) (st.bQ (st.ag i)) (st.bQ (st.ag j)):=by
 obtain⟨s,h⟩:=d;obtain⟨c,b⟩:=h i k;obtain⟨l,a⟩:=h j g;unfold jy;by_cases e:st.ag i=st.ag j
 ·rw[bS e];refine Yf.mpr ⟨s (st.ag i),c,?_⟩;rw[b,a,←e];rfl
 ·rw[bt e];refine X4.mpr ⟨f i,Yf.mpr ⟨_,c,b.symm⟩,Yf.mpr ⟨_,l,?_⟩⟩;rw[a];rfl
def B8(b:WF n st)(h:i<st.hd.length)(g:j<st.hd.length)(a:∃f,dk st f)(m:(x,y)∈jy (st.ag i) (st.ag j) (st.bC i) (st.bC j) (st.bQ (st.ag i)) (st.bQ (st.ag j))):∃f,dk st f/\f i=x/\f j=y:=by
 obtain⟨D,l⟩:=a;unfold jy at m;by_cases e:st.ag i=st.ag j
 ·rw[bS e] at m;obtain⟨z,c,k⟩:=Yf.mp m;obtain⟨f,d,q⟩:=BN b l (st.ag i) (st.ag i) z z c c (λ_=>rfl);exact⟨f,d,((q i h).1 rfl).trans (eH (·.1) k),((q j g).1 e.symm).trans (eH (·.2) k)⟩
 ·rw[bt e] at m;obtain⟨B,t,s⟩:=X4.mp m;obtain⟨r,A,v⟩:=Yf.mp t;obtain⟨p,u,o⟩:=Yf.mp s;obtain⟨f,d,q⟩:=BN b l (st.ag i) (st.ag j) r p A u (λz=>absurd z e);exact⟨f,d,(((q i h).1 rfl).trans v).trans (eH (·.1) o),((q j g).2 rfl).trans (eH (·.2) o)⟩
end
theorem PY(a:Nat):∀(mv:O Nat) (hd:O Nat) (i:Nat),i<hd.length->(k_ a mv hd)[i]?=if i∈mv then U a else hd[i]?
 |[],hd,i,h=>rfl
 |k::mv,hd,i,h=>by
  have b:=PY a mv (hd.set k a) i (by rw[W7];exact h);have c:k_ a (k::mv) hd=k_ a mv (hd.set k a):=rfl
  grind
theorem PZ(a:O Int):∀(mv:O Nat) (ld:O (O Int)) (i:Nat),mv.Nodup->i<ld.length->(iM a mv ld)[i]?=if i∈mv then U (bL (ld.getD i []) a) else ld[i]?
 |[],ld,i,_,h=>rfl
 |k::mv,ld,i,b,h=>by
  obtain⟨e,c⟩:=Y0.mp b;have d:iM a (k::mv) ld=iM a mv (qZ a ld k):=rfl;rw[d,(PZ a mv (qZ a ld k) i c (by unfold qZ;rwa[W7]))];by_cases m:i∈mv
  ·unfold qZ
   grind
  ·rw[bt m];unfold qZ
   grind
def P0(c:Nat)(b a:O Nat):(k_ c b a).length=a.length:=yX (λ_ _=>W7) b a
def P1(a:O Int)(c:O Nat)(b:O (O Int)):(iM a c b).length=b.length:=yX (λ_ _=>by unfold qZ;exact W7) c b
section
variable {st:JS}
def qw(j:WF n st)(g:∀k,k∈d↔k<st.hd.length/\st.ag k=st.ag a)(c:O Int)(h:i<st.hd.length):(st.mv (st.ag b) (st.ag a) mb d c).ag i=if st.ag i=st.ag a then st.ag b else st.ag i:=by
 show(k_ (st.ag b) d st.hd).getD i 0=_;rw[Yi,PY _ _ _ _ h];by_cases e:st.ag i=st.ag a;·grind
 ·rw[bt (λz=>e ((g i).mp z).2),bt e,←Yi];rfl
def CI(g:WF n st)(h:c.Nodup)(d:∀k,k∈c↔k<st.hd.length/\st.ag k=st.ag a)(b:O Int)(l:Nat)(j:i<st.hd.length):(st.mv l (st.ag a) mb c b).bC i=if st.ag i=st.ag a then bL (st.bC i) b else st.bC i:=by
 show(iM b c st.ld).getD i []=_;rw[Yi,PZ _ _ _ _ h (by rwa[g.ll])];by_cases e:st.ag i=st.ag a;·rw[bS ((d i).mpr ⟨j,e⟩),bS e];rfl
 ·rw[bt (λz=>e ((d i).mp z).2),bt e,←Yi];rfl
def KS(d b:Nat)(a:O Int)(c:h≠b):(st.mv d b e g a).bQ h=st.bQ h:=by
 show((c7 b st.fr).lookup h).getD []=_;rw[wR c];rfl
def xG(b c:Nat)(a:O Int):(st.mv b c d e a).hd.length=st.hd.length:=P0 _ _ _
def WF.mv(d:WF n st)(T:a<st.hd.length)(F:b<st.hd.length)(D:st.ag a≠st.ag b)(B:j.Nodup)(o:∀k,k∈j↔k<st.hd.length/\st.ag k=st.ag a)(P:g.Nodup)(R:∀k,k∈g↔k<st.hd.length/\st.ag k=st.ag b)(J:st.mem.lookup (st.ag b)=U g)(G:full c=af)(A:c.length=n):WF n (st.mv (st.ag b) (st.ag a) g j c):=by
 have len:(st.mv (st.ag b) (st.ag a) g j c).hd.length=st.hd.length:=xG _ _ _;have y:∀k,k<st.hd.length->(if st.ag k=st.ag a then st.ag b else st.ag k)≠st.ag a:=λk l=>by
  grind
 have v:(st.mv (st.ag b) (st.ag a) g j c).mem.map (·.1)=(st.mem.map (·.1)).filter λk=>decide (k≠st.ag a):=by
  show(dQ _ _ (c7 _ st.mem)).map (·.1)=_;rw[uh,qi]
 have p:(st.mv (st.ag b) (st.ag a) g j c).fr.map (·.1)=(st.fr.map (·.1)).filter λk=>decide (k≠st.ag a):=qi _ _;refine⟨?_,λt E=>?_,λi h=>?_,λi h=>?_,?_,?_,?_,?_,?_⟩
 ·show(iM _ _ _).length=(k_ _ _ _).length;rw[P1,P0];exact d.ll
 ·obtain⟨i,h,rfl⟩:=Wx.mp E;have u:i<st.hd.length:=by
   have:(iM c j st.ld).length=st.ld.length:=P1 _ _ _;have W:i<(iM c j st.ld).length:=h;have:=d.ll;omega
  have e:=CI (mb:=g) d B o c (st.ag b) u;have L:(st.mv (st.ag b) (st.ag a) g j c).bC i=(st.mv (st.ag b) (st.ag a) g j c).ld[i]:=by
   unfold JS.bC;rw[Yi,Yc h];rfl
  rw[←L,e];obtain⟨x,H⟩:=d.ko u;by_cases z:st.ag i=st.ag a;·rw[bS z];exact⟨oP x G (by omega),by rw[iE];exact A⟩
  ·rw[bt z];exact⟨x,H⟩
 ·rw[len] at h;rw[qw (mb:=g) d o c h];show ∃m,(c7 (st.ag a) st.fr).lookup _=U m/\_;rw[wR (y i h)];by_cases e:st.ag i=st.ag a;·rw[bS e];exact⟨_,d.d7 F⟩
  ·rw[bt e];exact⟨_,d.d7 h⟩
 ·rw[len] at h;rw[qw (mb:=g) d o c h];show ∃q,(dQ (st.ag b) (g++j) (c7 (st.ag a) st.mem)).lookup _=U q/\_;rw[Bp,wR (y i h),wR (λz=>D z.symm),J];have iff:∀k,k<st.hd.length->((st.mv (st.ag b) (st.ag a) g j c).ag k=(if st.ag k=st.ag a then st.ag b else st.ag k)):=λk l=>qw (mb:=g) d o c l;by_cases e:(if st.ag i=st.ag a then st.ag b else st.ag i)=st.ag b
  ·rw[bS e];refine⟨_,rfl,?_,λk=>?_⟩;·grind
   ·grind
  ·have N:¬st.ag i=st.ag a:=λz=>e (bS z);rw[bt N] at e⊢;rw[bt e];obtain⟨q,s,r,Q⟩:=d.mem i h
   grind
 ·rw[v];exact d.nm.filter _
 ·rw[v,len];exact λk l=>d.lm k (Y5.mp l).1
 ·rw[p];exact d.nf.filter _
 ·rw[p,len];exact λk l=>d.lf k (Y5.mp l).1
 ·rw[p,len];intro k l;obtain⟨s,r⟩:=Y5.mp l;obtain⟨i,h,e⟩:=d.hf k s;refine⟨i,h,?_⟩;rw[qw (mb:=g) d o c h,bt (λz=>fb r (e.symm.trans z))];exact e
def R9(g:WF n st)(u:a<st.hd.length)(j:b<st.hd.length)(m:st.ag a≠st.ag b)(H:J.Nodup)(p:∀k,k∈J↔k<st.hd.length/\st.ag k=st.ag a)(L:full l=af)(G:l.length=n)(f:Nat->Int):
  dk (st.mv (st.ag b) (st.ag a) mb J (bL (inv (st.bC a)) (bL l (st.bC b)))) f↔∃s:Nat->Int,(∀i,i<st.hd.length->(0<=s (st.ag i)/\s (st.ag i)<(n:Int))/\(st.ag i≠st.ag a->s (st.ag i)∈st.bQ (st.ag i))/\f i=ap (st.bC i) (s (st.ag i)))/\f a=ap l (f b):=by
 obtain⟨B,y⟩:=g.ko u;obtain⟨N,o⟩:=g.ko j;have X:=kr B;have W:(inv (st.bC a)).length=n:=by rw[fV];exact y
 generalize P:bL (inv (st.bC a)) (bL l (st.bC b))=c;have F:∀z:Int,0<=z/\z<(n:Int)->ap c z=ap (inv (st.bC a)) (ap l (ap (st.bC b) z)):=λz r=>by
  rw[←P,CG (by rw[iE,o];exact r),CG (by rwa[o])]
 have E:∀z:Int,0<=z/\z<(n:Int)->0<=ap c z/\ap c z<(n:Int):=λz r=>by
  rw[F z r];exact nU X W (nU L G (nU N o r))
 have Q:c.length=n:=by rwa[←P,iE,iE]
 constructor
 ·rintro⟨s,h⟩;have v:=λi d=>by
   have x:=h i (by rwa[xG]);rw[qw g p c d,CI g H p c _ d,KS] at x;·exact x
   ·by_cases e:st.ag i=st.ag a;·rw[bS e];exact λz=>m z.symm
    ·rwa[bt e]
  have A:=v b j;rw[bt (λz=>m z.symm),bt (λz=>m z.symm)] at A;have t:=(g.d7 j).2.2 _ A.1;have eq:∀i,i<st.hd.length->f i=ap (st.bC i) (if st.ag i=st.ag a then ap c (s (st.ag b)) else s (st.ag i)):=λi d=>by
   have x:=(v i d).2;by_cases e:st.ag i=st.ag a
   ·rw[bS e,bS e,CG (by rw[Q];exact t)] at x;rw[bS e];exact x
   ·rw[bt e,bt e] at x;rw[bt e];exact x
  refine⟨λq=>if q=st.ag a then ap c (s (st.ag b)) else s q,λi d=>⟨?_,λe=>?_,eq i d⟩,?_⟩
  ·show 0<=(if st.ag i=st.ag a then _ else _)/\(if st.ag i=st.ag a then _ else _)<_;by_cases e:st.ag i=st.ag a;·rw[bS e];exact E _ t
   ·rw[bt e];have x:=(v i d).1;rw[bt e] at x;exact(g.d7 d).2.2 _ x
  ·show(if st.ag i=st.ag a then _ else _)∈_;have x:=(v i d).1;rw[bt e] at x;rwa[bt e]
  ·rw[eq a u,bS rfl,F _ t,R8 B y (nU L G (nU N o t)),A.2]
 ·rintro⟨s,h,ef⟩;have R:=(h b j).1;have T:=(h a u).1;have D:ap c (s (st.ag b))=s (st.ag a):=by
   rw[F _ R,←(h b j).2.2,←ef,(h a u).2.2,xy B y T]
  refine⟨s,λi d=>?_⟩;rw[xG] at d;rw[qw g p c d,CI g H p c _ d,KS]
  ·by_cases e:st.ag i=st.ag a
   ·rw[bS e,bS e];refine⟨(h b j).2.1 (λz=>m z.symm),?_⟩;rw[CG (by rwa[Q]),D,←e];exact(h i d).2.2
   ·rw[bt e,bt e];exact⟨(h i d).2.1 e,(h i d).2.2⟩
  ·by_cases e:st.ag i=st.ag a;·rw[bS e];exact λz=>m z.symm
   ·rwa[bt e]
end
section
variable {st:JS}{i j:Nat}{ns:O Int}
def JM{P:O (Int×Int)}(b:ns.Perm ((P.filter λq=>decide (a.getD q.1.toNat 0=q.2)).map (·.1)))(x:Int):x∈ns↔(x,ap a x)∈P:=by
 rw[b.mem_iff,Yf];constructor
 ·rintro⟨⟨u,v⟩,m,rfl⟩;obtain⟨d,c⟩:=Y5.mp m;have e:ap a u=v:=fb c;rw[e];exact d
 ·intro m;exact⟨_,Y5.mpr ⟨m,d6 rfl⟩,rfl⟩
abbrev JS.bK(st:JS)(i j:Nat):O (Int×Int):=jy (st.ag i) (st.ag j) (st.bC i) (st.bC j) (st.bQ (st.ag i)) (st.bQ (st.ag j))
def BO(d:st.ag i≠st.ag j)(m:(x,y)∈st.bK i j):(∃z∈st.bQ (st.ag i),ap (st.bC i) z=x)/\∃z∈st.bQ (st.ag j),ap (st.bC j) z=y:=by
 unfold JS.bK jy at m;rw[bt d] at m;obtain⟨n,g,e⟩:=X4.mp m;obtain⟨c,l,k⟩:=Yf.mp g;obtain⟨b,h,a⟩:=Yf.mp e;exact⟨⟨c,l,k.trans (eH (·.1) a)⟩,b,h,(eH (·.2) a)⟩
def CK(a:WF n st)(c:i<st.hd.length)(m:(x,y)∈st.bK i j):0<=x/\x<(n:Int):=by
 obtain⟨h,g⟩:=a.ko c;by_cases e:st.ag i=st.ag j
 ·unfold JS.bK jy at m;rw[bS e] at m;obtain⟨z,b,d⟩:=Yf.mp m;have k:ap (st.bC i) z=x:=eH (·.1) d;rw[←k];exact nU h g ((a.d7 c).2.2 z b)
 ·obtain⟨⟨z,b,d⟩,_⟩:=BO e m;exact d▸nU h g ((a.d7 c).2.2 z b)
def Cm(c:WF n st)(h:n<=8)(g:i<st.hd.length)(d:j<st.hd.length):(st.bK i j).length<=64:=by
 have a:=wB (c.d7 g).2.1 (c.d7 g).2.2;have b:=wB (c.d7 d).2.1 (c.d7 d).2.2;unfold JS.bK jy;by_cases e:st.ag i=st.ag j;·grind
 ·rw[bt e,JK (λ(x z:Int)=>((x,(st.bC j).getD z.toNat 0):Int×Int)),Ya];exact Yz (vN (show _<=8 by omega) (show _<=8 by omega)) (by decide)
def QK(b:WF n st)(a:i<st.hd.length)(k:j<st.hd.length)(e:st.ag i=st.ag j)(q:∀x,x∈ns↔(x,ap g x)∈st.bK i j)(f:Nat->Int):dk st f/\f i∈ns↔dk st f/\f j=ap g (f i):=by
 refine tP λd=>?_;constructor
 ·intro m;have c:=(q _).mp m;obtain⟨s,h⟩:=d;unfold JS.bK jy at c;rw[bS e] at c;obtain⟨z,p,o⟩:=Yf.mp c;have u:ap (st.bC j) z=ap g (f i):=eH (·.2) o;obtain⟨t,r⟩:=b.ko a;have l:=(b.d7 a).2.2;rw[(h j k).2,←e,←(CF t r (l z p) (l _ (h i a).1) ((eH (·.1) o).trans (h i a).2)),u]
 ·intro m;have:=xt b a k d
  grind
def ZgO(b:WF n st)(a:i<st.hd.length)(g:j<st.hd.length)(q:st.ag i≠st.ag j)(B:t.Nodup)(F:∀k,k∈t↔k<st.hd.length/\st.ag k=st.ag i)(o:full l=af)(p:l.length=n)(r:∀x,x∈ns↔(x,ap l x)∈st.bK i j)(f:Nat->Int):
  dk (st.mv (st.ag j) (st.ag i) L t (bL (inv (st.bC i)) (bL (inv l) (st.bC j)))) f/\f i∈ns↔dk st f/\f j=ap l (f i):=by
 rw[R9 b a g q B F (kr o) (by rwa[fV])];obtain⟨v,u⟩:=b.ko a;obtain⟨G,E⟩:=b.ko g;constructor
 ·rintro⟨⟨s,h,J⟩,m⟩;obtain⟨⟨z,D,H⟩,_⟩:=BO q ((r _).mp m);have N:=CF v u ((b.d7 a).2.2 z D) (h i a).1 (H.trans (h i a).2.2);refine⟨⟨s,λk c=>⟨?_,(h k c).2.2⟩⟩,?_⟩;·grind
  ·have y:0<=f j/\f j<(n:Int):=by rw[(h j g).2.2];exact nU G E (h j g).1
   rw[J,R8 o p y]
 ·rintro⟨d,e⟩;have m:=xt b a g d;rw[e] at m;obtain⟨s,h⟩:=d;refine⟨⟨s,λk c=>⟨(b.d7 c).2.2 _ (h k c).1,λ_=>(h k c).1,(h k c).2⟩,?_⟩,(r _).mpr m⟩;have A:0<=f i/\f i<(n:Int):=by rw[(h i a).2];exact nU v u ((b.d7 a).2.2 _ (h i a).1)
  rw[e,xy o p A]
def R_(c:WF n st)(q:i<st.hd.length)(b:j<st.hd.length)(l:st.ag i≠st.ag j)(u:p.Nodup)(y:∀k,k∈p↔k<st.hd.length/\st.ag k=st.ag j)(B:full g=af)(t:g.length=n)(o:∀x,x∈ns↔(x,ap g x)∈st.bK i j)(f:Nat->Int):
  dk (st.mv (st.ag i) (st.ag j) F p (bL (inv (st.bC j)) (bL g (st.bC i)))) f/\f i∈ns↔dk st f/\f j=ap g (f i):=by
 rw[R9 c b q (λz=>l z.symm) u y B t];obtain⟨D,A⟩:=c.ko b;constructor
 ·rintro⟨⟨s,h,r⟩,m⟩;obtain⟨_,z,v,E⟩:=BO l ((o _).mp m);have G:=CF D A ((c.d7 b).2.2 z v) (h j b).1 ((E.trans r.symm).trans (h j b).2.2);refine⟨⟨s,λk a=>⟨?_,(h k a).2.2⟩⟩,r⟩
  grind
 ·rintro⟨d,e⟩;have m:=xt c q b d;rw[e] at m;obtain⟨s,h⟩:=d;exact⟨⟨s,λk a=>⟨(c.d7 a).2.2 _ (h k a).1,λ_=>(h k a).1,(h k a).2⟩,e⟩,(o _).mpr m⟩
end
def sf(b d:JS)(i j:Nat):Prop:=∀a c,a<b.hd.length->c<b.hd.length->(d.ag a=d.ag c↔b.ag a=b.ag c\/(b.ag a=b.ag i/\b.ag c=b.ag j)\/(b.ag a=b.ag j/\b.ag c=b.ag i))
def QL(e:st.ag i=st.ag j):sf st st i j:=λa c _ _=>⟨.inl,λh=>h.elim id λh=>h.elim (λh=>h.1.trans (e.trans h.2.symm)) λh=>h.1.trans (e.symm.trans h.2.symm)⟩
def KU(d:WF n st)(e:∀k,k∈g↔k<st.hd.length/\st.ag k=st.ag a)(c:O Int)(j:st.ag a≠st.ag b):sf st (st.mv (st.ag b) (st.ag a) l g c) a b:=λx y i h=>by
 rw[qw d e c i,qw d e c h]
 grind
def sf.symm(h:sf st e j i):sf st e i j:=λa c d b=>(h a c d b).trans (or_congr Iff.rfl or_comm)
structure KW(n:Nat)(st aO:JS)(b:cm)(i j:Nat)(tn:O Int):Prop where
 wf:WF n aO
 len:aO.hd.length=st.hd.length
 yes:b=af->(∃f,dk aO f)/\∀f,dk aO f↔dk st f/\f j=ap tn (f i)
 no:b=a8->aO=st/\∀f,dk st f->f j≠ap tn (f i)
 ye:b=af->sf st aO i j
inductive UU(C:Z)(k:O V)(H:Hp)(Q:VK)(E:XK):Prop
 |mk (l:JL) (st:JS) (n i j:Nat) (a:O Int) (g:Z) (v:k=[.ref l.J,.int (i:Int),.int (j:Int),.ref g]) (x:cH H C n l st) (t:WF n st) (u:(∃f,dk st f)) (s:n<=8) (r:st.hd.length<=400) (q:i<st.hd.length) (p:j<st.hd.length) (o:H g=U (.tup (a.map V.int))) (m:full a=af) (z:a.length=n) (y:∀(b:cm) (d:JL) (h:JS) (e:Hp),d.J=l.J->(∀c∈d.fp,c∈l.fp)->Out l.fp H e->cH e C n d h->KW n st h b i j a->Q (.bl b) e)
def Om:aP ["self","one","other","turn","sections"] iP (aJ G3):=.aY
theorem Ziw(F:aM K "tie" "Joins.tie" G3 f fd)(jc:mM K C)(mE:b_ P w K mg I 4 "left" C iP (zT C))(wo:b_ P w K mg I 1 "together" C sO (HY C))(E9:b_ P w K mg I 3 "bring_together" C iP (R6 C))(wq:b_ P w K mg I 2 "narrow" C Dk (JJ K C))(bl:Bl mg):aB P w K mg I aL 5 f fd iP (UU C):=by
 refine F.o Om λs H hr h=>?_;obtain⟨l,st,n,i,j,tn,T,rfl,B,g,L,G,m4,k,t,hu,R,W,q⟩:=h;refine⟨_,(aj (bh 4 Om.nd (cJ mE hr (by decide) (pv 0) (aa (pv 1) (aa (pv 2) (aa (pv 3) ae))))) (aj (aR (ju (Iy (K:=K) rfl (JB (pv 4) (λ_=>rfl)))) (au (aH ku)) aW) (aj (aR (ju (e_ (cJ wo hr (by decide) (pv 0) (aa (pv 1) (aa (pv 2) ae))))) (au (cE (cJ E9 hr (by decide) (pv 0) (aa (pv 1) (aa (pv 2) (aa (pv 3) ae)))))) aW) (aj (cE (cJ wq hr (by decide) (pv 0) (aa (pv 1) (aa (pv 4) ae)))) (au (aH ku)))))),?_⟩;obtain⟨dx,ho⟩:=B.obj;have pf:=Cm g G k t;refine bN ?_;refine⟨_,rfl,l.J,dx,_,rfl,ho,rfl,_,rfl,_,rfl,_,rfl,l,st,n,i,j,_,_,_,_,_,_,tn,T,rfl,B,g.one G k,g.one G t,hu,λp Q=>by rw[W];exact CK g k (x:=p.1) (y:=p.2) Q,Yz pf (by decide),λp ns H1 np u Q pm _=>?_⟩;have J:=JM pm;refine jV (λσ D=>σ=[U (.ref l.J),U (.int (i:Int)),U (.int (j:Int)),U (.ref T),U (.ref p)]/\D=H1/\ns≠[]) (λnx hn=>?_) ?_
 ·refine⟨_,rfl,_,.inl ⟨_,aq.of Q,rfl⟩,?_⟩;refine bc (λc=>?_) (λc=>aT (hn _ _ ⟨rfl,rfl,λz=>?_⟩))
  ·have e:ns=[]:=by
    cases ns with
    |nil=>rfl
    |cons a r=>cases c
   refine q a8 l st H1 rfl (λ_ h=>h) (Out.of u) (B.same u) ⟨g,rfl,(λz=>nomatch z),λ_=>⟨rfl,λf d z=>?_⟩,(λz=>nomatch z)⟩;have m:=xt g k t d;rw[z] at m;have:=(J _).mpr m;rw[e] at this;cases this
  ·rw[z] at c;exact c rfl
 rintro _ _ ⟨rfl,rfl,tL⟩;refine jV (λσ D=>σ=[U (.ref l.J),U (.int (i:Int)),U (.int (j:Int)),U (.ref T),U (.ref p)]/\∃(A:JL) (v:JS),A.J=l.J/\(∀c∈A.fp,c∈l.fp)/\Out l.fp H D/\cH D C n A v/\D p=U (.lst (ns.map V.int))/\WF n v/\v.hd.length=st.hd.length/\(∀f,dk v f/\f i∈ns↔dk st f/\f j=ap tn (f i))/\sf st v i j) (λnx hn=>?_) ?_
 ·refine⟨_,rfl,l.J,dx,_,rfl,u _ _ ho,rfl,_,rfl,_,rfl,l,st,n,i,j,_,_,rfl,B.same u,ur k,ur t,_,rfl,?_⟩;refine bc (λc=>?_) (λc=>aT (hn _ _ ⟨rfl,l,st,rfl,λ_ h=>h,Out.of u,B.same u,Q,g,rfl,?_,?_⟩))
  ·have ne:st.ag i≠st.ag j:=λz=>by
    rw[d6 z] at c;cases c
   obtain⟨ma,mb,two,⟨nj,iu⟩,pM,lR⟩:=g.two k t m4 ne;refine⟨_,rfl,l.J,dx,_,rfl,u _ _ ho,rfl,_,rfl,_,rfl,_,rfl,l,st,n,i,j,_,_,_,_,tn,_,_,T,ma,mb,rfl,B.same u,u _ _ hu,G,W,R,two,λA v D N k2 X j2 es=>hn _ _ ⟨rfl,A,v,N,k2,(Out.of u).trans X,j2,X _ _ Q (B.ne np),?_⟩⟩;obtain⟨fi,li⟩:=g.ko k;obtain⟨fj,lj⟩:=g.ko t;rcases es with rfl|rfl;·exact⟨g.mv k t ne nj iu pM lR two.mB (oP (kr fi) (oP (kr R) fj (by rw[fV];omega)) (by rw[fV,iE];omega)) (by rwa[iE,iE]),xG _ _ _,ZgO g k t ne nj iu R W J,KU g iu _ ne⟩
   ·exact⟨g.mv t k (λz=>ne z.symm) pM lR nj iu two.mA (oP (kr fj) (oP R fi (by omega)) (by rw[fV,iE];omega)) (by rwa[iE,iE]),xG _ _ _,R_ g k t ne pM lR R W J,(KU g lR _ (λz=>ne z.symm)).symm⟩
  ·have e:st.ag i=st.ag j:=by
    by_cases z:st.ag i=st.ag j;·exact z
    ·rw[g_ z] at c;exact absurd rfl c
   exact QK g k t e J
  ·have e:st.ag i=st.ag j:=by
    by_cases z:st.ag i=st.ag j;·exact z
    ·rw[g_ z] at c;exact absurd rfl c
   exact QL e
 rintro _ D ⟨rfl,A,v,N,k2,X,j2,dJ,E,Ad,iff,Nr⟩;obtain⟨nv,m_⟩:=j2.obj;have lS:i<v.hd.length:=by rwa[Ad]
 have fl:=E.C0;refine⟨_,rfl,A.J,nv,_,by rw[N],m_,rfl,_,rfl,_,rfl,A,v,n,i,_,_,_,ns,p,by rw[N];rfl,j2,E.one G lS,by omega,aq.of dJ,λl2 H3 k3 k4 o3 j3=>?_⟩;refine q af l2 _ H3 (k3.trans N) (λc hc=>k2 c (by rw[←k4];exact hc)) (λb o e nb=>o3 _ _ (X _ _ e nb) λz=>nb (k2 b z)) j3 ⟨E.kz lS,Ad,λ_=>⟨?_,λf=>?_⟩,(λz=>nomatch z),λ_=>Nr⟩
 ·obtain⟨x,mx⟩:∃x,x∈ns:=by
   cases ns with
   |nil=>exact absurd rfl tL
   |cons a r=>exact⟨a,Yk⟩
  obtain⟨f,d,e1,e2⟩:=B8 g k t L ((J x).mp mx);refine⟨f,(ud E lS ns f).mpr ((iff f).mpr ⟨d,?_⟩)⟩;rw[e2,e1]
 ·exact(ud E lS ns f).trans (iff f)
def lq(a b:O Int):Prop:=full a=af/\full b=af/\a.length=b.length/\2<=a.length/\a.length<=8
def Zdh(g:lq xs d)(h:(z,ns)∈CD xs d):full ns=af/\ns.length=xs.length:=by
 obtain⟨b,a,e,_,_⟩:=g;have c:=JI b a e;simp[Yq,Y3,hI,Prod.mk.injEq] at h;rcases h with⟨rfl,rfl⟩|⟨rfl,rfl⟩|⟨rfl,rfl⟩|⟨rfl,rfl⟩|⟨rfl,rfl⟩|⟨rfl,rfl⟩|⟨rfl,rfl⟩;·exact⟨b,rfl⟩
 ·exact⟨c,by rw[uf];exact e.symm⟩
 ·exact⟨a,e.symm⟩
 ·exact⟨kr b,fV _⟩
 ·exact⟨kr c,by rw[fV,uf];exact e.symm⟩
 ·exact⟨kr a,by rw[fV];exact e.symm⟩
 ·exact⟨uo (qh _),fN _⟩
structure Fc where
 k:ar
 one:Nat
 aN:Int
 tn:O Int
abbrev bj:ar:="said"
def gY(F:O Fc)(x y:Nat)(t:O Int):Prop:=∃c∈F,c.k≠bj/\((c.one=x/\c.aN.toNat=y/\t=c.tn)\/(c.aN.toNat=x/\c.one=y/\t=inv c.tn))
def iH(n:Nat)(F:O Fc)(g:Nat->bR Int):Prop:=(∀x y t u,gY F x y t->g x=U u->g y=U (ap t u))/\(∀c∈F,c.k=bj->∀u,g c.one=U u->u=c.aN)/\∀k v,g k=U v->0<=v/\v<(n:Int)
structure dZ(n m:Nat)(c:Fc):Prop where
 one:c.one<m
 iy:c.k≠bj->(0<=c.aN/\c.aN.toNat<m)/\full c.tn=af/\c.tn.length=n
def u4(L:Nat->O (Nat×O Int))(x:Nat)(p:Nat×O Int):Nat->O (Nat×O Int):=λz=>if z=x then L x++[p] else L z
def wX{k k':Key}(h:aX a k=aG):aX (a++[(k,v)]) k'=if k'=k then U v else aX a k':=by
 rw[←mH v h];exact Qp _ _ _ _
def QM:q∈u4 L x p z↔q∈L z\/(z=x/\q=p):=by
 unfold u4;by_cases e:z=x
 ·rw[bS e,Yu,e];simp
 ·rw[bt e];simp[e]
def ZfC:¬gY [] x y t:=λ⟨_,m,_⟩=>nomatch m
def rQ:gY (F++[c]) x y t↔gY F x y t\/(c.k≠bj/\((c.one=x/\c.aN.toNat=y/\t=c.tn)\/(c.aN.toNat=x/\c.one=y/\t=inv c.tn))):=by
 constructor
 ·rintro⟨a,m,d,b⟩;rcases Yu.mp m with m|m;·exact .inl ⟨a,m,d,b⟩
  ·rw[Ym] at m;subst m;exact .inr ⟨d,b⟩
 ·rintro(⟨a,m,h⟩|h);·exact⟨a,Yt _ m,h⟩
  ·exact⟨c,Ys _ Yk,h⟩
theorem lookup_mem:∀{a:O (Nat×α)} {k:Nat} {v:α},a.lookup k=U v->(k,v)∈a
 |[],_,_,h=>by simp at h
 |p::a,k,v,h=>by
  rw[Wy] at h;by_cases e:k=p.1;·grind
  ·rw[beq_eq_false_iff_ne.mpr e] at h;exact Yw _ (lookup_mem h)
theorem mem_lookup:∀{a:O (Nat×α)} {k:Nat} {v:α},(a.map (·.1)).Nodup->(k,v)∈a->a.lookup k=U v
 |p::a,k,v,b,h=>by
  obtain⟨d,c⟩:=Y0.mp (show(p.1::a.map (·.1)).Nodup from b);rw[Wy];rcases Yq.mp h with h|h;·grind
  ·have e:k≠p.1:=λz=>d (by rw[←z];exact Yf.mpr ⟨_,h,rfl⟩);rw[beq_eq_false_iff_ne.mpr e];exact mem_lookup c h
theorem Zay:∀{a:O (Nat×α)} {k:Nat},a.lookup k=aG->k∉a.map (·.1)
 |p::a,k,h=>by
  grind
 |[],_,_=>λz=>nomatch z
def BC{k:Nat}(h:a.lookup k=U v):(a++[q]).lookup k=U v:=by
 grind
def O4{k:Nat}(h:a.lookup k=aG):(a++[(k,v)]).lookup k=U v:=by
 grind
def zF(a:∀c∈F,dZ n m c)(e:gY F x y t):x<m/\y<m/\full t=af/\t.length=n:=by
 obtain⟨c,b,i,h⟩:=e;obtain⟨⟨l,d⟩,j,k⟩:=(a c b).iy i;have g:=(a c b).one;rcases h with⟨rfl,rfl,rfl⟩|⟨rfl,rfl,rfl⟩;·grind
 ·exact⟨d,g,kr j,by rwa[fV]⟩
inductive c_(F:O Fc)(x:Nat):Nat->Prop
 |refl:c_ F x x
 |step {y z:Nat} {t:O Int}:c_ F x y->gY F y z t->c_ F x z
structure BF(F:O Fc)(n m x:Nat)(a:Int)(g:O (Nat×Int)):Prop where
 nd:(g.map (·.1)).Nodup
 lt:∀p∈g,p.1<m/\0<=p.2/\p.2<(n:Int)
 hd:g.lookup x=U a
 snd:∀g',iH n F g'->g' x=U a->∀p∈g,g' p.1=U p.2
 conn:∀p∈g,c_ F x p.1
section
variable {n:Nat}{g:O (Nat×Int)}
def bf0(c:x<m)(d:0<=a/\a<(n:Int)):BF F n m x a [(x,a)]:=by
 refine⟨by simp,λp b=>?_,by simp,λe _ h p b=>?_,λp b=>?_⟩;·grind
 ·grind
 ·rw[Ym] at b;exact b▸.refl
def BF.len(b:BF F n m x a g):g.length<=m:=by
 have:=yZ b.nd λk d=>by
  obtain⟨p,c,rfl⟩:=Yf.mp d;exact(b.lt p c).1
 grind
def BF.add(b:BF F n m x a g)(o:∀c∈F,dZ n m c)(e:gY F k y t)(q:g.lookup k=U v)(s:g.lookup y=aG):BF F n m x a (g++[(y,ap t v)]):=by
 obtain⟨_,j,r,l⟩:=zF o e;have mk:=lookup_mem q;refine⟨?_,λp d=>?_,BC b.hd,λi c h p d=>?_,λp d=>?_⟩
 ·rw[Yo];refine W0.mpr ⟨b.nd,by simp,λu B w A z=>?_⟩
  grind
 ·rcases Yu.mp d with d|d;·exact b.lt p d
  ·rw[Ym] at d;exact d▸⟨j,nU r l (b.lt _ mk).2⟩
 ·rcases Yu.mp d with d|d;·exact b.snd i c h p d
  ·rw[Ym] at d;exact d▸c.1 k y t v e (b.snd i c h _ mk)
 ·rcases Yu.mp d with d|d;·exact b.conn p d
  ·rw[Ym] at d;exact d▸.step (b.conn _ mk) e
def BF.Zjm(b:BF F n m x a g)(e:gY F k y t)(l:g.lookup k=U v)(j:g.lookup y=U i)(o:i≠ap t v):¬∃d,iH n F d/\d x=U a:=by
 rintro⟨d,c,h⟩;have q:=b.snd d c h _ (lookup_mem j);have p:=c.1 k y t v e (b.snd d c h _ (lookup_mem l))
 grind
def BF.Zix(b:BF F n m x a g)(k:c∈F)(i:c.k=bj)(l:g.lookup c.one=U v)(j:v≠c.aN):¬∃d,iH n F d/\d x=U a:=by
 rintro⟨d,e,h⟩;exact j (e.2.1 c k i v (b.snd d e h _ (lookup_mem l)))
def Cl(L:Nat->O (Nat×O Int))(g:O (Nat×Int))(r:Nat):Prop:=∀p,g[r]?=U p->∀q∈L p.1,g.lookup q.1=U (ap q.2 p.2)
def BF.done(b:BF F n m x a g)(o:∀x y t,(y,t)∈L x↔gY F x y t)(p:∀r,r<g.length->Cl L g r)(i:∀c∈F,c.k=bj->∀u,g.lookup c.one=U u->u=c.aN):iH n F (λk=>g.lookup k):=by
 refine⟨λk y t u e j=>?_,i,λk v h=>(b.lt _ (lookup_mem h)).2⟩;obtain⟨r,d,l⟩:=Wx.mp (lookup_mem j);have:=p r d (k,u) (by rw[Yc d,l]) (y,t) ((o _ _ _).mpr e);exact this
end
def Bq{a:Type}{b c:O (Nat×a)}{k:Nat}{v:a}(h:b.lookup k=U v):(b++c).lookup k=U v:=by
 grind
def Cl.app(b:r<g.length)(c:Cl L g r):Cl L (g++e) r:=λp a q d=>by
 rw[Wg b] at a;exact Bq (c p a q d)
theorem BF.key(b:BF F n m x a g)(i:iH n F (λk=>g.lookup k))(k:Nat):(∃v,g.lookup k=U v)↔c_ F x k:=by
 constructor
 ·rintro⟨v,h⟩;exact b.conn _ (lookup_mem h)
 ·intro c;induction c with
  |refl=>exact⟨a,b.hd⟩
  |step _ e d=>
   obtain⟨v,h⟩:=d;exact⟨_,i.1 _ _ _ v e h⟩
open Classical in
noncomputable def dG (F:O Fc) (n x:Nat):O Int:=(bB n).filter λa=>decide (∃g,iH n F g/\g x=U a)
def fH(f:Nat->Int)(c:Fc):Prop:=(c.k=bj->f c.one=c.aN)/\(c.k≠bj->f c.aN.toNat=ap c.tn (f c.one))
def ny(n m:Nat)(f:Nat->Int):Prop:=∀i,i<m->0<=f i/\f i<(n:Int)
structure dR(n:Nat)(st:JS)(F:O Fc):Prop where
 wf:WF n st
 jh:∀c∈F,dZ n st.hd.length c
 iff:∀f,dk st f↔ny n st.hd.length f/\∀c∈F,fH f c
 live:∃f,dk st f
 conn:∀i j,i<st.hd.length->j<st.hd.length->(st.ag i=st.ag j↔c_ F i j)
def Zba{f:Nat->Int}(j:∀c∈F,dZ n m c)(inr:ny n m f)(d:∀c∈F,fH f c):∃g,iH n F g/\∀x,x<m->g x=U (f x):=by
 refine⟨λi=>if i<m then U (f i) else aG,⟨λu v t a e o=>?_,λc b B u o=>?_,λk v E=>?_⟩,λx D=>bS D⟩
 ·obtain⟨H,y,_,_⟩:=zF j e;obtain⟨c,b,l,h⟩:=e;have s:=(d c b).2 l;obtain⟨_,G,A⟩:=(j c b).iy l;have p:f u=a:=by
   grind
  show(if v<m then U (f v) else aG)=_;rw[bS y];rcases h with⟨rfl,rfl,rfl⟩|⟨rfl,rfl,rfl⟩;·rw[s,p]
  ·rw[←p,s,xy G A (inr _ (j c b).one)]
 ·have q:(if c.one<m then U (f c.one) else aG)=U u:=o;rw[bS (j c b).one] at q;rw[←Yn q];exact(d c b).1 B
 ·have r:(if k<m then U (f k) else aG)=U v:=E;by_cases z:k<m
  ·rw[bS z] at r;rw[←Yn r];exact inr k z
  ·grind
def Oo{f:Nat->Int}(b:∀c∈F,dZ n m c)(d:x<m)(inr:ny n m f)(a:∀c∈F,fH f c):∃g,iH n F g/\g x=U (f x):=by
 obtain⟨g,c,h⟩:=Zba b inr a
 grind
theorem Zbb(t:∀c∈F,dZ n m c)(inr:ny n m f0)(b:∀c∈F,c.one=x\/fH f0 c)(j:iH n F g)(q:g x=U a):∃f,ny n m f/\(∀c∈F,fH f c)/\f x=a/\∀i,f i=(g i).getD (f0 i):=by
 refine⟨λi=>(g i).getD (f0 i),λi r=>?_,λc d=>⟨λp=>?_,λk=>?_⟩,by show(g x).getD _=a;rw[q];rfl,λ_=>rfl⟩
 ·show 0<=(g i).getD (f0 i)/\(g i).getD (f0 i)<_;cases e:g i with
  |none=>exact inr i r
  |some v=>exact j.2.2 i v e
 ·show(g c.one).getD (f0 c.one)=_;cases e:g c.one with
  |none=>
   rcases b c d with h|h;·grind
   ·exact h.1 p
  |some v=>exact j.2.1 c d p v e
 ·show(g c.aN.toNat).getD (f0 c.aN.toNat)=ap c.tn ((g c.one).getD (f0 c.one));have o:gY F c.one c.aN.toNat c.tn:=⟨c,d,k,.inl ⟨rfl,rfl,rfl⟩⟩;have l:gY F c.aN.toNat c.one (inv c.tn):=⟨c,d,k,.inr ⟨rfl,rfl,rfl⟩⟩;cases e:g c.one with
  |some v=>
   rw[j.1 _ _ _ v o e];rfl
  |none=>
   have s:g c.aN.toNat=aG:=by
    cases z:g c.aN.toNat with
    |none=>rfl
    |some v=>rw[j.1 _ _ _ v l z] at e;cases e
   rw[s];rcases b c d with h|h;·grind
   ·exact h.2 k
def GD(d:∀c∈F,dZ n m c)(inr:ny n m f0)(b:∀c∈F,c.one=x\/fH f0 c)(h:iH n F g)(e:g x=U a):∃f,ny n m f/\(∀c∈F,fH f c)/\f x=a:=by
 obtain⟨f,k,j,i,_⟩:=Zbb d inr b h e
 grind
open Classical in
def rO:a∈dG F n x↔(0<=a/\a<(n:Int))/\∃g,iH n F g/\g x=U a:=by
 unfold dG;rw[Y5,gI];refine and_congr_left λ_=>?_;unfold bB;rw[Yf];constructor
 ·rintro⟨i,b,rfl⟩;have:=Wm.mp b;omega
 ·intro h;exact⟨a.toNat,Wm.mpr (by omega),J1 h.1⟩
section
variable {n x:Nat}{st:JS}{F:O Fc}
def dR.room(b:dR n st F)(k:x<st.hd.length)(a:Int):a∈dG F n x↔∃f,dk st f/\f x=a:=by
 rw[rO];constructor
 ·rintro⟨_,g,r,h⟩;obtain⟨p,q⟩:=b.live;obtain⟨o,l⟩:=(b.iff p).mp q;obtain⟨f,i,j,e⟩:=GD b.jh o (λc m=>.inr (l c m)) r h;exact⟨f,(b.iff f).mpr ⟨i,j⟩,e⟩
 ·rintro⟨f,d,rfl⟩;obtain⟨i,j⟩:=(b.iff f).mp d;exact⟨i x k,Oo b.jh k i j⟩
def dR.put(h:dR n st F)(l:dZ n st.hd.length c)(g:WF n b)(a:b.hd.length=st.hd.length)(d:∃f,dk b f)(iff:∀f,dk b f↔dk st f/\fH f c)(m:∀i j,i<st.hd.length->j<st.hd.length->(b.ag i=b.ag j↔c_ (F++[c]) i j)):dR n b (F++[c]):=by
 refine⟨g,λk e=>?_,λf=>?_,d,by rwa[a]⟩
 ·rw[a];rcases Yu.mp e with e|e;·exact h.jh k e
  ·grind
 ·rw[iff,h.iff,a,and_assoc]
  grind
def zw(F:O Fc)(n x:Nat):(dG F n x).Pairwise (·<=·)/\(dG F n x).Nodup:=by
 have a:(bB n).Pairwise (·<=·):=by
  unfold bB;rw[Wr];exact List.pairwise_lt_range.imp λh=>by omega
 exact⟨a.filter _,(D3.Hk n).filter _⟩
def mI(a:i<st.hd.length):(st.more n).ag i=st.ag i:=by
 show(st.hd++[_]).getD i 0=st.hd.getD i 0
 grind
def qg:(st.more n).ag st.hd.length=st.hd.length:=by
 show(st.hd++[_]).getD _ 0=_;simp
def QN(a:WF n st)(b:i<st.hd.length):(st.more n).bC i=st.bC i:=by
 show(st.ld++[_]).getD i []=st.ld.getD i [];rw[Yi,Wg (by rwa[a.ll]),←Yi]
def P2(a:WF n st):(st.more n).bC st.hd.length=bB n:=by
 show(st.ld++[_]).getD _ []=_;rw[←a.ll];simp
theorem G6{b:Type}{a:O (Nat×b)}{k:Nat}{v:b}(h:k∉a.map (·.1)):(a++[(k,v)]).lookup k=U v:=by
 refine O4 ?_;cases e:a.lookup k with
 |none=>rfl
 |some x=>exact absurd (zg e) h
def jR:(st.more n).hd.length=st.hd.length+1:=by
 show(st.hd++[_]).length=_;simp
def Zei(n:Nat):full (bB n)=af/\(bB n).length=n:=⟨uo (qh (bB n)),fN n⟩
def Sa(h:0<=z/\z<(n:Int)):ap (bB n) z=z:=by
 show(bB n).getD z.toNat 0=z;rw[Yi,nH (by omega)]
 grind
def JN:z∈bB n↔0<=z/\z<(n:Int):=by
 unfold bB;rw[Yf];constructor;·grind
 ·intro h;exact⟨z.toNat,Wm.mpr (by omega),J1 h.1⟩
def WF.Ae(a:WF n st)(b:i<st.hd.length):st.ag i<st.hd.length:=a.lf _ (zg (a.d7 b).1)
def WF.more(c:WF n st):WF n (st.more n):=by
 have p:st.hd.length∉st.mem.map (·.1):=λz=>Wc _ (c.lm _ z);have q:=λz=>Wc _ (c.lf _ z);have s:(st.more n).mem.map (·.1)=st.mem.map (·.1)++[st.hd.length]:=by
  show(st.mem++[(st.hd.length,[st.hd.length])]).map (·.1)=_;rw[Yo];rfl
 have o:(st.more n).fr.map (·.1)=st.fr.map (·.1)++[st.hd.length]:=by
  show(st.fr++[(st.hd.length,bB n)]).map (·.1)=_;rw[Yo];rfl
 have r:∀{m:O Nat},m.Nodup->st.hd.length∉m->(m++[st.hd.length]).Nodup:=λ{m} h D=>W0.mpr ⟨h,by simp,λu v w A z=>by
  have:w=st.hd.length:=by simpa using A
  rw[z,this] at v;exact D v⟩
 refine⟨?_,λt B=>?_,λi d=>?_,λi d=>?_,?_,?_,?_,?_,?_⟩
 ·show(st.ld++[_]).length=(st.hd++[_]).length;rw[Yl,Yl,c.ll];rfl
 ·rcases Yu.mp (B) with h|h;·exact c.fl t h
  ·rw[Ym] at h;exact h▸Zei n
 ·rw[jR] at d;by_cases z:i=st.hd.length
  ·rw[z,qg];exact⟨bB n,G6 q,D3.Hk n,λ z=>JN.mp⟩
  ·rw[mI (gb (gc d) z)];exact⟨_,BC (c.d7 (gb (gc d) z)).1,(c.d7 (gb (gc d) z)).2⟩
 ·rw[jR] at d;by_cases z:i=st.hd.length
  ·rw[z,qg];refine⟨[st.hd.length],G6 p,by simp,λk=>?_⟩;rw[Ym,jR];constructor
   ·rintro rfl;exact⟨rn _,qg⟩
   ·rintro⟨g,j⟩;by_cases w:k=st.hd.length;·exact w
    ·rw[mI (gb (gc g) w)] at j;have:=c.Ae (i:=k) (gb (gc g) w);omega
  ·obtain⟨y,e,a,b⟩:=c.mem i (gb (gc d) z);rw[mI (gb (gc d) z)];refine⟨y,BC e,a,λk=>?_⟩;rw[b,jR];constructor
   ·rintro⟨g,j⟩;exact⟨mr g,by rwa[mI g]⟩
   ·rintro⟨g,j⟩;by_cases w:k=st.hd.length
    ·rw[w,qg] at j;have:=c.Ae (i:=i) (gb (gc d) z);omega
    ·rw[mI (gb (gc g) w)] at j;exact⟨gb (gc g) w,j⟩
 ·exact s▸r c.nm p
 ·rw[s,jR];intro k l;rcases Yu.mp l with h|h;·have:=c.lm k h;exact mr this
  ·rw[Ym] at h;exact y0 (jn h)
 ·exact o▸r c.nf q
 ·rw[o,jR];intro k l;rcases Yu.mp l with h|h;·have:=c.lf k h;exact mr this
  ·rw[Ym] at h;exact y0 (jn h)
 ·rw[o,jR];intro k l;rcases Yu.mp l with h|h
  ·obtain⟨i,d,e⟩:=c.hf k h;exact⟨i,mr d,by rwa[mI d]⟩
  ·rw[Ym] at h;exact⟨st.hd.length,rn _,by rw[qg,h]⟩
def P4(c:WF n st)(f:Nat->Int):dk (st.more n) f↔dk st f/\(0<=f st.hd.length/\f st.hd.length<(n:Int)):=by
 have g:(st.more n).bQ st.hd.length=bB n:=by
  show((st.fr++[(st.hd.length,bB n)]).lookup st.hd.length).getD []=_;rw[G6 (λz=>Wc _ (c.lf _ z))];rfl
 have e:∀i,i<st.hd.length->(st.more n).bQ (st.ag i)=st.bQ (st.ag i):=λi a=>by
  show((st.fr++[(st.hd.length,bB n)]).lookup _).getD []=_;rw[BC (c.d7 a).1];rfl
 constructor
 ·rintro⟨s,h⟩;refine⟨⟨s,λi a=>?_⟩,?_⟩
  ·have x:=h i (by rw[jR];exact mr a);rw[mI a,QN c a,e i a] at x;exact x
  ·have x:=h st.hd.length (by rw[jR];exact rn _);rw[qg,P2 c,g] at x;have b:=JN.mp x.1;rwa[x.2,Sa b]
 ·rintro⟨⟨s,h⟩,b⟩;refine⟨λq=>if q=st.hd.length then f st.hd.length else s q,λi a=>?_⟩;rw[jR] at a;by_cases z:i=st.hd.length
  ·rw[z,qg,P2 c,g];show(if st.hd.length=st.hd.length then _ else _)∈_/\f st.hd.length=ap _ (if st.hd.length=st.hd.length then _ else _);rw[bS rfl,Sa b];exact⟨JN.mpr b,rfl⟩
  ·have d:i<st.hd.length:=gb (gc a) z
   have:=c.Ae d;rw[mI d,QN c d,e i d]
   grind
theorem ZgP(a:∀c∈F,dZ n m c)(h:c_ F x y)(b:x<m):y<m:=by
 cases h with
 |refl=>exact b
 |step _ e=>exact(zF a e).2.1
theorem dR.more(a:dR n st F)(v:0<n):dR n (st.more n) F:=by
 refine⟨a.wf.more,λc r=>?_,λf=>?_,?_,λi j d m=>?_⟩
 ·have ok:=a.jh c r;exact jR▸⟨Wv ok.one,λp=>⟨⟨(ok.iy p).1.1,Wv (ok.iy p).1.2⟩,(ok.iy p).2⟩⟩
 ·rw[P4 a.wf,a.iff,jR];constructor
  ·rintro⟨⟨o,q⟩,y⟩;refine⟨λi d=>?_,q⟩;by_cases z:i=st.hd.length;·rwa[z]
   ·exact o i (gb (gc d) z)
  ·rintro⟨o,q⟩;exact⟨⟨λi d=>o i (mr d),q⟩,o _ (rn _)⟩
 ·obtain⟨u,s,h⟩:=a.live;refine⟨λi=>if i=st.hd.length then 0 else u i,(P4 a.wf _).mpr ⟨⟨s,λi d=>?_⟩,?_⟩⟩;·grind
  ·grind
 ·rw[jR] at d m;by_cases l:i=st.hd.length
  ·by_cases g:j=st.hd.length;·rw[l,g];exact⟨λ_=>.refl,λ_=>rfl⟩
   ·rw[l,qg,mI (gb (gc m) g)];have:=a.wf.Ae (i:=j) (gb (gc m) g);refine⟨λz=>by omega,λz=>?_⟩;have b:∀{k:Nat},c_ F st.hd.length k->k=st.hd.length:=λ{k} h=>by
     induction h with
     |refl=>rfl
     |step _ e t=>rw[t] at e;exact absurd (zF a.jh e).1 (Wc _)
    exact absurd (b z) g
  ·by_cases g:j=st.hd.length
   ·rw[g,qg,mI (gb (gc d) l)];have:=a.wf.Ae (i:=i) (gb (gc d) l);refine⟨λz=>by omega,λz=>?_⟩;have:=ZgP a.jh z (gb (gc d) l);omega
   ·rw[mI (gb (gc d) l),mI (gb (gc m) g)];exact a.conn i j (gb (gc d) l) (gb (gc m) g)
def Zjn:dR n ⟨[],[],[],[]⟩ []:=⟨wf0,λ_ h=>(nomatch h),λf=>⟨λ_=>⟨λ_ h=>absurd h (Wn _),λ_ h=>(nomatch h)⟩,λ_=>⟨λ_=>0,λ_ h=>absurd h (Wn _)⟩⟩,⟨λ_=>0,λ_=>0,λ_ h=>absurd h (Wn _)⟩,λ_ _ h=>absurd h (Wn _)⟩
end
theorem c_.mono(h:∀x y t,gY F x y t->gY G x y t)(c:c_ F x y):c_ G x y:=by
 induction c with
 |refl=>exact .refl
 |step _ e a=>exact .step a (h _ _ _ e)
theorem c_.trans(c:c_ F x y)(d:c_ F y z):c_ F x z:=by
 induction d with
 |refl=>exact c
 |step _ e a=>exact .step a e
def Zej(h:c.k=bj):c_ (F++[c]) x y↔c_ F x y:=
 ⟨c_.mono λ_ _ _ e=>(rQ.mp e).elim id λz=>absurd h z.1,c_.mono λ_ _ _ e=>rQ.mpr (.inl e)⟩
theorem ZfD(h:c.k≠bj):c_ (F++[c]) x y↔c_ F x y\/(c_ F x c.one/\c_ F c.aN.toNat y)\/(c_ F x c.aN.toNat/\c_ F c.one y):=by
 have g:∀{x y:Nat},c_ F x y->c_ (F++[c]) x y:=λd=>d.mono λ_ _ _ e=>rQ.mpr (.inl e);have k:gY (F++[c]) c.one c.aN.toNat c.tn:=rQ.mpr (.inr ⟨h,.inl ⟨rfl,rfl,rfl⟩⟩);have j:gY (F++[c]) c.aN.toNat c.one (inv c.tn):=rQ.mpr (.inr ⟨h,.inr ⟨rfl,rfl,rfl⟩⟩);constructor
 ·intro d;induction d with
  |refl=>exact .inl .refl
  |step _ e i=>
   rcases rQ.mp e with e|⟨_,⟨rfl,rfl,_⟩|⟨rfl,rfl,_⟩⟩
   ·rcases i with a|⟨a,b⟩|⟨a,b⟩;·exact .inl (.step a e)
    ·exact .inr (.inl ⟨a,.step b e⟩)
    ·exact .inr (.inr ⟨a,.step b e⟩)
   ·rcases i with a|⟨a,b⟩|⟨a,b⟩;·exact .inr (.inl ⟨a,.refl⟩)
    ·exact .inr (.inl ⟨a,.refl⟩)
    ·exact .inl a
   ·rcases i with a|⟨a,b⟩|⟨a,b⟩;·exact .inr (.inr ⟨a,.refl⟩)
    ·exact .inl a
    ·exact .inr (.inr ⟨a,.refl⟩)
 ·rintro(a|⟨a,b⟩|⟨a,b⟩);·exact g a
  ·exact((g a).step k).trans (g b)
  ·exact((g a).step j).trans (g b)
section
variable {n i j:Nat}{st X:JS}{F:O Fc}{k:ar}{tn:O Int}{b:cm}
def X5(a:dR n st F)(c:KW n st X b i j tn)(o:k≠bj)(p:dZ n st.hd.length ⟨k,i,(j:Int),tn⟩):(b=af->dR n X (F++[⟨k,i,(j:Int),tn⟩]))/\(b=a8->dR n X F/\∀f,dk X f->¬fH f ⟨k,i,(j:Int),tn⟩):=by
 have g:∀f,fH f ⟨k,i,(j:Int),tn⟩↔f j=ap tn (f i):=λf=>⟨λh=>by have:=h.2 o;rwa [show((⟨k,i,(j:Int),tn⟩:Fc).aN.toNat)=j from Y6 j] at this,λh=>⟨λz=>absurd z o,λ_=>by rwa[show((⟨k,i,(j:Int),tn⟩:Fc).aN.toNat)=j from Y6 j]⟩⟩;refine⟨λe=>?_,λe=>?_⟩
 ·obtain⟨s,iff⟩:=c.yes e;have r:=p.one;have q:j<st.hd.length:=by
   have:=(p.iy o).1.2
   rwa [show((⟨k,i,(j:Int),tn⟩:Fc).aN.toNat)=j from Y6 j] at this
  refine a.put p c.wf c.len s (λf=>by rw[iff,g]) λx y m l=>?_;rw[c.ye e x y m l,ZfD o,show((⟨k,i,(j:Int),tn⟩:Fc).aN.toNat)=j from Y6 j,a.conn x y m l,a.conn x i m r,a.conn x j m q,←a.conn j y q l,←a.conn i y r l];exact or_congr_right (or_congr (tP λ_=>eq_comm) (tP λ_=>eq_comm))
 ·obtain⟨t,no⟩:=c.no e;exact t▸⟨a,λf d z=>no f d ((g f).mp z)⟩
def Sb(c:dR n st F)(e:i<st.hd.length)(m:a∈(st.bQ (st.ag i)).map λz=>(st.bC i).getD z.toNat 0):dR n (st.kz (st.ag i) ((st.bQ (st.ag i)).filter λz=>decide ((st.bC i).getD z.toNat 0∈[a]))) (F++[⟨bj,i,a,tn⟩]):=by
 refine c.put ⟨e,absurd rfl⟩ (c.wf.kz e) rfl ?_ (λf=>?_) λx y o l=>?_
 ·obtain⟨z,g,rfl⟩:=Yf.mp m;obtain⟨r,p⟩:=c.live;obtain⟨f,d,q⟩:=BN c.wf p (st.ag i) (st.ag i) z z g g (λ_=>rfl);exact⟨f,(ud c.wf e _ f).mpr ⟨d,by rw[(q i e).1 rfl];exact Yk⟩⟩
 ·rw[ud c.wf e,Ym];refine tP λ_=>?_;exact⟨λh=>⟨λ_=>h,absurd rfl⟩,λh=>h.1 rfl⟩
 ·rw[Zej rfl];exact c.conn x y o l
def Ziy(g:dR n st F)(c:i<st.hd.length)(m:a∉(st.bQ (st.ag i)).map λz=>(st.bC i).getD z.toNat 0)(f:Nat->Int)(d:dk st f):¬fH f ⟨bj,i,a,tn⟩:=by
 obtain⟨s,h⟩:=d;intro z;have e:f i=a:=z.1 rfl;refine m (Yf.mpr ⟨s (st.ag i),(h i c).1,?_⟩);rw[←e,(h i c).2];rfl
end
abbrev bA:=O (ar×ar)
def av(a:bA)(i:Nat):ar:=(a.getD i ("","")).1
def bu(a:bA)(c:Fc):Key:=if c.k=bj then .inl c.aN else .inr (av a c.aN.toNat)
def eS(a:bA)(z:Nat)(c:Fc):O Key:=[.inl (z:Int),.inr c.k,.inr (av a c.one),bu a c]
def keyOf(k a:ar):Key->O Key
 |.inl b=>[.inr k,.inr a,.inl b]
 |.inr b=>if k="sibling" then[.inr k,.inr (L2.sH a b),.inr (L2.sJ a b)] else[.inr k,.inr a,.inr b]
def gf(a:bA)(c:Fc):O Key:=keyOf c.k (av a c.one) (bu a c)
def cW(k:ar):cm:=decide (k="mother")||decide (k="father")
def gm(a:bA)(b:O (Nat×Fc)):O (O Key×V):=b.map λp=>(gf a p.2,.int (p.1:Int))
def cF(a:bA)(b:O (Nat×Fc)):O (O Key×V):=(b.filter λp=>cW p.2.k).map λp=>([.inr p.2.k,.inr (av a p.2.one)],kV (bu a p.2))
def jJ(a:bA):O (Key×V):=a.zipIdx.map λp=>(.inr p.1.1,.int (p.2:Int))
structure Dn where
 way:Int
 row:O Key
 c0:Nat
 c1:Nat
def oW(H:Hp)(a:Z)(d:Dn):Prop:=∃r,H a=U (.tup [.int d.way,.ref r,.int (d.c0:Int),.int (d.c1:Int)])/\H r=U (.tup (d.row.map kV))
structure BS where
 ps:bA
 fs:O (Nat×Fc)
 co:Nat
 dn:O Dn
 un:O Dn
def BS.F(b:BS):O Fc:=b.fs.map (·.2)
structure BL where
 h:Z
 L:Z
 sd:Z
 pl:Z
 fc:Z
 kn:Z
 pr:Z
 dn:Z
 un:Z
 rk:V
 bY:O Z
 ji:O Z
 lU:O Z
 fE:O Z
def BL.own(l:BL):O Z:=[l.h,l.sd,l.pl,l.fc,l.kn,l.pr,l.dn,l.un]
def BL.fp(l:BL):O Z:=l.own++l.fE
structure fG(K:ah)(C:Z):Prop where
 cls:gZ K C
 sr:c9 K C "land"
 uu:c9 K C "sides"
 rR:c9 K C "places"
 rY:c9 K C "facts"
 Cn:c9 K C "known"
 xf:c9 K C "parents"
 rS:c9 K C "coming"
 TU:c9 K C "done"
 QP:c9 K C "undone"
 jk:c9 K C "reckoned"
abbrev HF(L b e h g d:Z)(j:Int)(i a:Z)(c:V):O (ar×V):=[("land",.ref L),("sides",.ref b),("places",.ref e),("facts",.ref h),("known",.ref g),("parents",.ref d),("coming",.int j),("done",.ref i),("undone",.ref a),("reckoned",c)]
def Zkl(a b c d e f g h i j:V):cS "reckoned" j (cS "undone" i (cS "done" h (cS "coming" g (cS "parents" f (cS "known" e (cS "facts" d (cS "places" c (cS "sides" b (cS "land" a [])))))))))=
  ([("land",a),("sides",b),("places",c),("facts",d),("known",e),("parents",f),("coming",g),("done",h),("undone",i),("reckoned",j)]:O (ar×V)):=rfl
abbrev gn(a:bA):O (Key×V):=a.map λp=>(.inr p.1,.str p.2)
inductive u5(H:Hp)(CJ:Z)(n:Nat)(l:BL)(b:BS):Prop
 |no (e:l.rk=.aE) (d:l.fE=[])
 |at_ (c:JL) (st:JS) (e:l.rk=.ref c.J) (d:l.fE=c.fp) (h:cH H CJ n c st) (g:dR n st b.F) (len:st.hd.length=b.ps.length) (i:∀a∈l.own,a∉c.fp)
structure bb(H:Hp)(C CL CJ:Z)(l:BL)(xs ys:O Int)(b:BS):Prop where
 obj:∃dx,H l.h=U (.ins C dx (HF l.L l.sd l.pl l.fc l.kn l.pr (b.co:Int) l.dn l.un l.rk))
 land:∀H',Out l.fp H H'->iY H' CL l.L xs ys
 dq:H l.sd=U (.dK (gn b.ps))
 places:H l.pl=U (.dK (jJ b.ps))
 facts:H l.fc=U (.dK (bq (b.fs.map (·.1)) l.bY))
 fact:Paired (λa (p:Nat×Fc)=>H a=U (.tup ((eS b.ps p.1 p.2).map kV))) l.bY b.fs
 known:H l.kn=U (.dT (gm b.ps b.fs))
 parents:H l.pr=U (.dT (cF b.ps b.fs))
 done:H l.dn=U (.lst (l.ji.map V.ref))
 mY:Paired (oW H) l.ji b.dn
 jv:H l.un=U (.lst (l.lU.map V.ref))
 oX:Paired (oW H) l.lU b.un
 uK:u5 H CJ xs.length l b
 nd:l.own.Nodup
def oW.out(o:Out fp H g)(t:∀a e,H a=U (.tup e)->a∉fp)(h:oW H a d):oW g a d:=by
 obtain⟨r,c,b⟩:=h;exact⟨r,o _ _ c (t _ _ c),o _ _ b (t _ _ b)⟩
def cH.off(j:cH H C n l st)(h:H a=U (.tup xs)):a∉l.fp:=by
 intro z;unfold JL.fp at z;simp[Yq] at z;rcases z with rfl|rfl|rfl|rfl|rfl|z
 ·obtain⟨b,e⟩:=j.obj
  grind
 ·rw[j.heads] at h;cases h
 ·rw[j.jx] at h;cases h
 ·rw[j.kF] at h;cases h
 ·rw[j.frees] at h;cases h
 ·obtain⟨y,e⟩:=zf j.mem z
  grind
theorem cH.i6(j:cH H C n l st)(o:Out fp H g)(v:∀a∈fp,a∉l.fp)(s:∀a∈fp,a∉l.bY)(t:∀a q,H a=U (.tup q)->a∉fp):cH g C n l st:=by
 have k:∀{a:Z} {u:HO},H a=U u->a∈l.fp->g a=U u:=λ{a u} e m=>o _ _ e λz=>v _ z m;obtain⟨r,e⟩:=j.obj;refine⟨⟨r,k e (by simp[JL.fp])⟩,k j.heads (by simp[JL.fp]),k j.jx (by simp[JL.fp]),L2.Paired.bI j.lead λa x h=>o _ _ h (t _ _ h),k j.kF (by simp[JL.fp]),?_,k j.frees (by simp[JL.fp]),?_,j.nd,j.out⟩
 ·have d:∀{b:O Z} {ps:O (Nat×O Nat)},Paired (λa p=>H a=U (.lst (eN p.2))) b ps->(∀a∈b,a∈l.fp)->Paired (λa p=>g a=U (.lst (eN p.2))) b ps:=by
   intro b ps p;induction p with
   |nil=>intro _;exact .nil
   |cons f _ i=>intro m;exact .cons (k f (m _ Yk)) (i λa c=>m a (Yw _ c))
  exact d j.mem λa c=>by simp[JL.fp,c]
 ·have d:∀{b:O Z} {ps:O (Nat×O Int)},Paired (λa p=>H a=U (.lst (p.2.map V.int))) b ps->(∀a∈b,a∈l.bY)->Paired (λa p=>g a=U (.lst (p.2.map V.int))) b ps:=by
   intro b ps p;induction p with
   |nil=>intro _;exact .nil
   |cons f _ i=>intro m;exact .cons (o _ _ f λz=>s _ z (m _ Yk)) (i λa c=>m a (Yw _ c))
  exact d j.free λa c=>c
section
variable {H:Hp}{l:BL}{b:BS}
def bb.landAt(h:bb H C CL CJ l xs ys b):iY H CL l.L xs ys:=h.land H (Out.of (ai.refl _))
theorem bb.tup(h:bb H C CL CJ l xs g b)(e:H a=U (.tup us)):a∉l.fp:=by
 intro z;unfold BL.fp BL.own at z;rcases Yu.mp z with z|z
 ·simp[Yq,Y3,hI] at z;rcases z with rfl|rfl|rfl|rfl|rfl|rfl|rfl|rfl
  ·obtain⟨j,q⟩:=h.obj
   grind
  ·rw[h.dq] at e;cases e
  ·rw[h.places] at e;cases e
  ·rw[h.facts] at e;cases e
  ·rw[h.known] at e;cases e
  ·rw[h.parents] at e;cases e
  ·rw[h.done] at e;cases e
  ·rw[h.jv] at e;cases e
 ·cases h.uK with
  |no _ c=>grind
  |at_ i st _ c d=>rw[c] at z;exact d.off e z
theorem bb.there(h:bb H C CL CJ l xs g b)(z:a∈l.fp):H a≠aG:=by
 intro e;unfold BL.fp BL.own at z;rcases Yu.mp z with z|z
 ·simp[Yq,Y3,hI] at z;rcases z with rfl|rfl|rfl|rfl|rfl|rfl|rfl|rfl
  ·obtain⟨j,q⟩:=h.obj
   grind
  ·rw[h.dq] at e;cases e
  ·rw[h.places] at e;cases e
  ·rw[h.facts] at e;cases e
  ·rw[h.known] at e;cases e
  ·rw[h.parents] at e;cases e
  ·rw[h.done] at e;cases e
  ·rw[h.jv] at e;cases e
 ·cases h.uK with
  |no _ c=>grind
  |at_ i st _ c d=>rw[c] at z;exact d.ne e z
theorem u5.same(g:ai H k)(h:u5 H CJ n l b):u5 k CJ n l b:=by
 cases h with
 |no c a=>exact .no c a
 |at_ e st c a i d len j=>exact .at_ e st c a (i.same g) d len j
def bb.same(g:ai H k)(h:bb H C CL CJ l xs d b):bb k C CL CJ l xs d b:=
 ⟨let⟨i,e⟩:=h.obj;⟨i,g _ _ e⟩,λj o=>h.land j ((Out.of g).trans o),g _ _ h.dq,g _ _ h.places,g _ _ h.facts,L2.Paired.bI h.fact λ _ _=>g _ _,g _ _ h.known,g _ _ h.parents,g _ _ h.done,L2.Paired.bI h.mY λ_ _ ⟨r,c,a⟩=>⟨r,g _ _ c,g _ _ a⟩,g _ _ h.jv,L2.Paired.bI h.oX λ_ _ ⟨r,c,a⟩=>⟨r,g _ _ c,g _ _ a⟩,h.uK.same g,h.nd⟩
def fD(d c:O Z)(H:Hp):Prop:=∀a∈c,a∈d\/H a=aG
def fD.refl(a:O Z)(H:Hp):fD a a H:=λ_ h=>.inl h
def JO(o:Out fp H H1)(g:fD fp c H)(d:Out c H1 H2):Out fp H H2:=λa u e n=>d _ _ (o _ _ e n) λz=>(g a z).elim n λq=>by rw[e] at q;cases q
theorem fD.trans(g:fD fp d H)(o:Out fp H H1)(h:fD d c H1):fD fp c H:=λa z=>by
 rcases h a z with q|q;·exact g a q
 ·by_cases m:a∈fp;·exact .inl m
  ·right
   cases e:H a with
   |none=>rfl
   |some u=>rw[o _ _ e m] at q;cases q
def fD.same(s:ai H H1)(d:fD fp c H1):fD fp c H:=λa z=>(d a z).imp id λq=>s.free q
def ZfE(c:dR n st F)(m:(k,a)∈st.fr):a≠[]:=by
 obtain⟨i,g,e⟩:=c.wf.hf k (Yf.mpr ⟨_,m,rfl⟩);obtain⟨f,s,d⟩:=c.live;have q:=(d i g).1;unfold JS.bQ at q;rw[e,(mem_lookup c.wf.nf m)] at q
 grind
theorem ZgQ(A:cH H CJ n z st)(v:dR n st b.F)(h:∃T t,H l.h=U (.ins C T t))(Q:∃k,H l.sd=U (.dK k))(P:∃k,H l.pl=U (.dK k))(N:∃k,H l.fc=U (.dK k))(L:∃k,H l.kn=U (.dT k))(J:∃k,H l.pr=U (.dT k))(G:∃c:O Z,H l.dn=U (.lst (c.map V.ref)))(F:∃c:O Z,H l.un=U (.lst (c.map V.ref))):∀a∈l.own,a∉z.bY:=by
 intro a g E;obtain⟨p,D,e⟩:∃p∈st.fr,H a=U (.lst (p.2.map V.int)):=by
  have j:∀{c:O Z} {d:O (Nat×O Int)},Paired (λa p=>H a=U (.lst (p.2.map V.int))) c d->a∈c->∃p∈d,H a=U (.lst (p.2.map V.int)):=by
   intro c d u;induction u with
   |nil=>intro h;cases h
   |cons f _ B=>
    intro h;rcases Yq.mp h with rfl|h;·exact⟨_,Yk,f⟩
    ·obtain⟨q,m,e⟩:=B h;exact⟨q,Yw _ m,e⟩
  exact j A.free E
 have ne:=ZfE v (k:=p.1) D;have lst:∀c:O Z,H a=U (.lst (c.map V.ref))->False:=λc q=>by
  rw[q] at e;have i:c.map V.ref=p.2.map V.int:=by injection e with e;injection e
  cases o:p.2 with
  |nil=>exact ne o
  |cons x r=>
   rw[o] at i;cases c with
   |nil=>cases i
   |cons y s=>injection i with R _;cases R
 unfold BL.own at g;simp[Yq,Y3,hI] at g;rcases g with rfl|rfl|rfl|rfl|rfl|rfl|rfl|rfl;·obtain⟨_,_,q⟩:=h;rw[q] at e;cases e
 ·obtain⟨_,q⟩:=Q;rw[q] at e;cases e
 ·obtain⟨_,q⟩:=P;rw[q] at e;cases e
 ·obtain⟨_,q⟩:=N;rw[q] at e;cases e
 ·obtain⟨_,q⟩:=L;rw[q] at e;cases e
 ·obtain⟨_,q⟩:=J;rw[q] at e;cases e
 ·obtain⟨_,q⟩:=G;exact lst _ q
 ·obtain⟨_,q⟩:=F;exact lst _ q
def bb.KY(h:bb H C CL CJ l xs j b)(g:cH H CJ xs.length d st)(c:dR xs.length st b.F):∀a∈l.own,a∉d.bY:=
 ZgQ g c (let⟨i,e⟩:=h.obj;⟨i,_,e⟩) ⟨_,h.dq⟩ ⟨_,h.places⟩ ⟨_,h.facts⟩ ⟨_,h.known⟩ ⟨_,h.parents⟩ ⟨_,h.done⟩ ⟨_,h.jv⟩
def bb.build(h:bb H C CL CJ l xs z b)(v:l'.h=l.h)(x:l'.L=l.L)(n:l'.sd=l.sd)(r:l'.pl=l.pl)(t:l'.fc=l.fc)(s:l'.kn=l.kn)(q:l'.pr=l.pr)(u:l'.dn=l.dn)(m:l'.un=l.un)(o:Out l.fp H c)(g:fD l.fp l'.fp H)
  (D:∃J,c l.h=U (.ins C J (HF l.L l.sd l.pl l.fc l.kn l.pr (b'.co:Int) l.dn l.un l'.rk)))(P:c l.sd=U (.dK (gn b'.ps)))(i:c l.pl=U (.dK (jJ b'.ps)))(k:c l.fc=U (.dK (bq (b'.fs.map (·.1)) l'.bY)))
  (e:Paired (λa (p:Nat×Fc)=>c a=U (.tup ((eS b'.ps p.1 p.2).map kV))) l'.bY b'.fs)(j:c l.kn=U (.dT (gm b'.ps b'.fs)))(d:c l.pr=U (.dT (cF b'.ps b'.fs)))
  (y:c l.dn=U (.lst (l'.ji.map V.ref)))(G:Paired (oW c) l'.ji b'.dn)(N:c l.un=U (.lst (l'.lU.map V.ref)))(E:Paired (oW c) l'.lU b'.un)(A:u5 c CJ xs.length l' b'):bb c C CL CJ l' xs z b':=by
 have B:l'.own=l.own:=by unfold BL.own;rw[v,n,r,t,s,q,u,m]
 refine⟨?_,λL F=>?_,by rwa[n],by rwa[r],by rwa[t],e,by rwa[s],by rwa[q],by rwa[u],G,by rwa[m],E,A,by exact B▸h.nd⟩;·rwa[v,x,n,r,t,s,q,u,m]
 ·exact x▸h.land L (JO o g F)
theorem bb.owned(h:bb H C CL CJ l xs J b)(E:l'.h=l.h)(F:l'.L=l.L)(s:l'.sd=l.sd)(v:l'.pl=l.pl)(y:l'.fc=l.fc)(x:l'.kn=l.kn)(t:l'.pr=l.pr)(A:l'.dn=l.dn)(r:l'.un=l.un)
  (B:(l'.rk=l.rk/\l'.fE=l.fE/\b'.F=b.F/\b'.ps.length=b.ps.length)\/(l'.rk=.aE/\l'.fE=[]))(o:Out l.own H H')
  (P:∃dx,H' l.h=U (.ins C dx (HF l.L l.sd l.pl l.fc l.kn l.pr (b'.co:Int) l.dn l.un l'.rk)))(dq:H' l.sd=U (.dK (gn b'.ps)))(j:H' l.pl=U (.dK (jJ b'.ps)))(q:H' l.fc=U (.dK (bq (b'.fs.map (·.1)) l'.bY)))
  (d:Paired (λa (p:Nat×Fc)=>H' a=U (.tup ((eS b'.ps p.1 p.2).map kV))) l'.bY b'.fs)(m:H' l.kn=U (.dT (gm b'.ps b'.fs)))(c:H' l.pr=U (.dT (cF b'.ps b'.fs)))
  (G:H' l.dn=U (.lst (l'.ji.map V.ref)))(W:Paired (oW H') l'.ji b'.dn)(jv:H' l.un=U (.lst (l'.lU.map V.ref)))(Q:Paired (oW H') l'.lU b'.un):bb H' C CL CJ l' xs J b'/\fD l.fp l'.fp H:=by
 have k:l'.own=l.own:=by unfold BL.own;rw[E,s,v,y,x,t,A,r]
 have sub:∀a∈l'.fp,a∈l.fp:=λa z=>by
  unfold BL.fp at z⊢;rw[k] at z;rcases B with⟨_,e,_⟩|⟨_,e⟩;·rw[e] at z;exact z
  ·rw[e,We] at z;exact Yt _ z
 have of:Out l.fp H H':=λa u e n=>o _ _ e λz=>n (Yt _ z);refine⟨⟨?_,λH2 R=>?_,by rwa[s],by rwa[v],by rwa[y],d,by rwa[x],by rwa[t],by rwa[A],W,by rwa[r],Q,?_,by exact k▸h.nd⟩,λa z=>.inl (sub a z)⟩;·rwa[E,F,s,v,y,x,t,A,r]
 ·exact F▸h.land H2 (JO of (λa z=>.inl (sub a z)) R)
 ·rcases B with⟨i,g,N,L⟩|⟨i,g⟩
  ·cases h.uK with
   |no e1 e2=>exact .no (by rwa[i]) (by rwa[g])
   |at_ X st e1 e2 D T len fR=>
    exact .at_ X st (by rwa[i]) (by rwa[g]) (D.i6 o fR (h.KY D T) λa us e=>λz=>h.tup e (Yt _ z)) (by rwa[N]) (by rwa[L]) (by rwa[k])
  ·exact .no i g
end
abbrev d9:O (ar×ar):=[("mother","m"),("father","f"),("wed","w"),("sibling","s")]
abbrev ie(a b:O Int):O (ar×O Int):=[("mother",inv a),("father",inv (bL a b)),("wed",b),("sibling",bB a.length)]
structure eB(xs ys:O Int)(m:Nat)(c:Fc):Prop where
 ok:dZ xs.length m c
 kind:c.k=bj\/(c.k,c.tn)∈ie xs ys
 LV:c.k=bj->0<=c.aN/\c.aN<(xs.length:Int)
def O5:(bj,b)∉ie xs ys:=by
 intro h;simp[Yq,Y3,hI] at h;rcases h with⟨h,_⟩|⟨h,_⟩|⟨h,_⟩|⟨h,_⟩<;>exact absurd h (by decide+kernel)
def ua(h:(k,a)∈ie xs ys):∃r,PyProof.Rows.KTD.datumAt k d9=U r/\(r,a)∈CD xs ys:=by
 simp[Yq,Y3,hI] at h;rcases h with⟨rfl,rfl⟩|⟨rfl,rfl⟩|⟨rfl,rfl⟩|⟨rfl,rfl⟩;·exact⟨"m",by decide+kernel,by simp⟩
 ·exact⟨"f",by decide+kernel,by simp⟩
 ·exact⟨"w",by decide+kernel,by simp⟩
 ·exact⟨"s",by decide+kernel,by simp⟩
def eB.uL(g:eB xs ys m c)(h:c.k≠bj):(c.k,c.tn)∈ie xs ys:=g.kind.resolve_left h
def zx(d:lq xs b)(h:(k,a)∈ie xs b):full a=af/\a.length=xs.length:=by
 obtain⟨r,_,c⟩:=ua h;exact Zdh d c
theorem uv(b:(a.map (·.1)).Nodup)(d:i<a.length):aX (jJ a) (.inr (av a i))=U (.int (i:Int)):=by
 have g:∀(a:bA) (k i:Nat),(a.map (·.1)).Nodup->i<a.length->aX ((a.zipIdx k).map λp=>((.inr p.1.1:Key),V.int (p.2:Int))) (.inr (av a i))=U (.int ((k+i:Nat):Int)):=by
  intro a;induction a with
  |nil=>intro k i _ h;cases h
  |cons p a n=>
   intro k i b d;obtain⟨l,j⟩:=Y0.mp (show(p.1::a.map (·.1)).Nodup from b);rw[List.zipIdx_cons,Ws];cases i with
   |zero=>exact gU rfl
   |succ i=>
    have c:i<a.length:=by simpa using d
    have e:av (p::a) (i+1)=av a i:=rfl;have m:av a i∈a.map (·.1):=by
     unfold av;rw[Yi,Yc c];exact Yf.mpr ⟨_,Jl c,rfl⟩
    rw[e,fW (λz=>l (by rwa[Wh z])),n (k+1) i j c]
    congr 2
    omega
 have:=g a 0 i b d
 rwa [xp] at this
def oM(h:c.k=bj):bu a c=.inl c.aN:=bS h
def iX(h:c.k≠bj):bu ps c=.inr (av ps c.aN.toNat):=bt h
inductive Co(a:O V)(H:Hp)(Q:VK)(E:XK):Prop
 |mk (k:ar) (b:a=[.str k]) (c:Q (.bl (dM d9 k)) H)
inductive II(CL:Z)(d:O V)(H:Hp)(Q:VK)(E:XK):Prop
 |mk (L:Z) (k:ar) (b a c:O Int) (h:d=[.ref L,.str k]) (i:iY H CL L b a) (e:(k,c)∈ie b a) (g:∀t:Z,bO H t c->Q (.ref t) H)
inductive C1(c:O V)(H:Hp)(Q:VK)(E:XK):Prop
 |mk (k a:ar) (o:Key) (e:c=[.str k,.str a,kV o]) (g:k="sibling"->∃b,o=.inr b) (d:Nw H (.tup ((keyOf k a o).map kV)) Q)
inductive QQ(CL CJ:Z)(k:O V)(H:Hp)(Q:VK):Prop
 |mk (e:JL) (st:JS) (L l m:Z) (b g:O Int) (d:bA) (F:O Fc) (z:Nat) (c:Fc) (B:k=[.ref e.J,.ref L,.ref l,.ref m]) (t:cH H CJ b.length e st) (o:dR b.length st F) (s:iY H CL L b g) (y:lq b g) (u:H l=U (.dK (jJ d))) (n:(d.map (·.1)).Nodup) (len:st.hd.length=d.length) (p:d.length<=100) (x:H m=U (.tup ((eS d z c).map kV))) (A:eB b g d.length c) (r:∃f,dk st f/\fH f c)
   (q:∀(v:V) (h:JL) (i:JS) (j:Hp),h.J=e.J->(∀a∈h.fp,a∈e.fp)->Out e.fp H j->cH j CJ b.length h i->dR b.length i (F++[c])->i.hd.length=st.hd.length->Q v j):QQ CL CJ k H Q
def Kj(CL CJ:Z):Sp:=λa H Q _=>QQ CL CJ a H Q
inductive Se(CL CJ:Z)(g:O V)(H:Hp)(Q:VK):Prop
 |mk (i:JL) (st:JS) (L h j:Z) (b e:O Int) (a:bA) (F:O Fc) (z:Nat) (c:Fc) (t:g=[.ref i.J,.ref L,.ref h,.ref j]) (o:cH H CJ b.length i st) (l:dR b.length st F) (n:iY H CL L b e) (r:lq b e) (p:H h=U (.dK (jJ a))) (k:(a.map (·.1)).Nodup) (len:st.hd.length=a.length) (m:a.length<=100) (q:H j=U (.tup ((eS a z c).map kV))) (s:eB b e a.length c)
   (q1:(∃f,dk st f/\fH f c)->∀d,ai H d->Q (.bl af) d) (q2:(∀f,dk st f->¬fH f c)->∀d,ai H d->Q (.bl a8) d):Se CL CJ g H Q
def TV(CL CJ:Z):Sp:=λa H Q _=>Se CL CJ a H Q
def Cp:∀b:cm,decide (V.str k=V.str bj)=b->(b=af↔k=bj):=λb e=>by
 grind
def Zek:aP ["kind"] ["kind"] (aJ JG):=.aY
def Zel(F:aM K "is_tie" "is_tie" JG f fd)(c:mg "TIE_LETTERS"=U (.ref a))(b:uX K a d9):aB P w K mg I aL 1 f fd ["kind"] Co:=by
 refine F.o Zek λs H d h=>?_;obtain⟨k,rfl,q⟩:=h;refine⟨_,(au (aH (Cd (Zh_ (K:=K) rfl) (pv 0) (dA (v:=.ref a) rfl c rfl) (by with_unfolding_all rfl)))),?_⟩;exact⟨_,rfl,k,a,d9,rfl,rfl,b,q⟩
abbrev sT:O ar:=["land","kind"]
def OA:aP sT sT (aJ Bw):=.aY
def Zci(F:aM K "tie_turn" "tie_turn" Bw f fd)(o:mg "TIE_LETTERS"=U (.ref a))(m:uX K a d9)(B:uJ K CL)(n:HasFn P w K mg I 1 "is_tie" ["kind"] Co)(j:b_ P w K mg I 1 "step" CL Aa (KQ CL)):aB P w K mg I aL 2 f fd sT (II CL):=by
 refine F.o OA λs H c h=>?_;obtain⟨L,k,i,g,l,rfl,b,u,q⟩:=h;refine⟨_,(aj (aR (ju (e_ (aQ n c (aa (pv 1) ae)))) ia aW) (au (aH (cJ j c (by decide) (pv 0) (aa (aI (RP (K:=K) rfl) (dA (v:=.ref a) rfl o rfl) (pv 1)) ae))))),?_⟩;obtain⟨r,e,t⟩:=ua u;have p:dM d9 k=af:=by unfold dM;rw[e];rfl
 obtain⟨y,d,A,J,z,G,D,E,st,x,_⟩:=id b;refine⟨_,rfl,k,rfl,_,rfl,?_⟩;rw[p];refine bW (aT ?_);exact⟨_,rfl,L,y,_,rfl,x,rfl,_,rfl,a,k,r,d9,rfl,rfl,m,e,L,r,i,g,l,rfl,b,t,q⟩
abbrev xW:O ar:=["kind","one","other"]
def Zcj:aP xW xW (aJ Hs):=.aY
theorem Zck(F:aM K "fact_key" "fact_key" Hs f fd)(g:mg "SIBLING"=U (.str "sibling" t1))(d:Bl mg):aB P w K mg I aL 1 f fd xW C1:=by
 refine F.o Zcj λs H l h=>?_;obtain⟨k,a,o,rfl,j,q⟩:=h;refine⟨_,(aj (aR (bp bZ (pv 0) (dA (v:=.str "sibling") rfl g ⟨_,rfl⟩)) (au (aH (cU (aa (pv 0) (aa (gQ (Zc6 rfl) rfl d.Zi6 ZhA (aa (pv 1) (aa (pv 2) ae))) (aa (gQ (Zc7 rfl) rfl d.Zi7 Zil (aa (pv 1) (aa (pv 2) ae))) ae)))))) aW) (au (aH (cU (aa (pv 0) (aa (pv 1) (aa (pv 2) ae))))))),?_⟩;refine⟨_,rfl,rfl,_,rfl,?_⟩;by_cases e:k="sibling"
 ·obtain⟨b,rfl⟩:=j e;rw[d6 (by rw[e])];refine⟨_,rfl,_,rfl,_,rfl,_,_,rfl,_,rfl,_,rfl,_,_,rfl,by show 3<=sizeLine;decide,?_⟩;have c:keyOf k a (.inr b)=[.inr k,.inr (L2.sH a b),.inr (L2.sJ a b)]:=bS e;rw[c] at q;exact q
 ·rw[g_ (λz=>e (V.str.inj z))];refine⟨_,rfl,_,rfl,_,rfl,by show 3<=sizeLine;decide,?_⟩;have c:(keyOf k a o).map kV=[.str k,.str a,kV o]:=by
   cases o with
   |inl i=>rfl
   |inr b=>
    have:keyOf k a (.inr b)=[.inr k,.inr a,.inr b]:=bt e;rw[this];rfl
  rw[c] at q;exact q
abbrev u6:O ar:=["joins","land","places","fact"]
abbrev VL:O ar:=["joins","land","places","fact","number","kind","one","other"]
def y6:aP VL u6 (aJ GO):=.aY
theorem ZbA(F:aM K "keep_fact" "keep_fact" GO f fd)(mN:mg "SAID"=U (.str "said" t1))(oK:HasFn P w K mg I 2 "tie_turn" sT (II CL))(G7:b_ P w K mg I 3 "say" CJ Dm (US CJ))(G8:b_ P w K mg I 5 "tie" CJ iP (UU CJ)):aB P w K mg I aL 6 f fd u6 (Kj CL CJ):=by
 refine F.o y6 λs H g h=>?_;obtain⟨i,st,L,u,fa,l,ys,m,FF,z,c,rfl,D,d,la,gd,G,nd,len,m4,hf,k,lv,q⟩:=h;refine⟨_,(aj (oU (pv 3) (jt (K:=K) rfl rfl (bX (bG 4 y6.nd) (bX (bG 5 y6.nd) (bX (bG 6 y6.nd) (bX (bG 7 y6.nd) jr)))))) (aj (aR (bp bZ (pv 5) (dA (v:=.str "said") rfl mN ⟨_,rfl⟩)) (au (aH (cJ G7 g (by decide) (pv 0) (aa (dF (bF g) (pv 2) (pv 6) (λ_ _=>rfl)) (aa (pv 7) ae))))) aW) (au (aH (cJ G8 g (by decide) (pv 0) (aa (dF (bF g) (pv 2) (pv 6) (λ_ _=>rfl)) (aa (dF (bF g) (pv 2) (pv 7) (λ_ _=>rfl)) (aa (aQ oK g (aa (pv 1) (aa (pv 5) ae))) ae)))))))),?_⟩;obtain⟨dx,ho⟩:=D.obj;have X:=uv nd k.ok.one;have n8:=gd.2.2.2.2;have j:c.one<st.hd.length:=by exact len▸k.ok.one
 refine⟨_,rfl,fa,_,rfl,az.of hf,rfl,_,_,rfl,a_ ⟨_,_,rfl,a_ ⟨_,_,rfl,a_ ⟨_,_,rfl,a_ ⟨rfl,?_⟩⟩⟩⟩⟩;refine⟨_,rfl,rfl,_,rfl,bc (λR=>?_) (λR=>aT ?_)⟩
 ·have e:=(Cp _ rfl).mp R;have J:kV (bu m c)=.int c.aN:=by rw[oM e];rfl
  refine⟨_,rfl,i.J,dx,_,rfl,ho,rfl,_,rfl,_,rfl,u,_,rfl,dh G X,_,rfl,?_⟩;have one:=d.wf.one n8 j;have AY:=d.wf.C0;obtain⟨f0,Q,r⟩:=lv;obtain⟨p,h0⟩:=id Q;have mm:c.aN∈(st.bQ (st.ag c.one)).map (λz=>(st.bC c.one).getD z.toNat 0):=Yf.mpr ⟨p (st.ag c.one),(h0 c.one j).1,by rw[←r.1 e,(h0 c.one j).2];rfl⟩;refine⟨i,st,l.length,c.one,_,_,_,c.aN,?_,D,one,by omega,λ_ y W B A x E=>?_,absurd mm⟩
  ·show[V.ref i.J,V.int (c.one:Int),kV (bu m c)]=_;rw[J]
  ·have n:c=⟨bj,c.one,c.aN,c.tn⟩:=by rw[←e]
   refine q _ y _ W B (λa ha=>by rw[A] at ha;exact ha) x E ?_ rfl;exact n▸Sb d j mm
 ·have e:=λz=>R ((Cp _ rfl).mpr z);obtain⟨⟨o0,om⟩,ft,tl⟩:=k.ok.iy e;have J:kV (bu m c)=.str (av m c.aN.toNat):=by rw[iX e];rfl
  have p2:=uv nd om;have hj:c.aN.toNat<st.hd.length:=by rwa[len]
  refine⟨_,rfl,i.J,dx,_,rfl,ho,rfl,_,rfl,_,rfl,u,_,rfl,dh G X,_,rfl,_,rfl,u,.int (c.aN.toNat:Int),rfl,?_,_,rfl,_,rfl,L,c.k,l,ys,c.tn,rfl,la,k.uL e,λt ht=>?_⟩
  ·exact J▸dh G p2
  refine⟨i,st,l.length,c.one,c.aN.toNat,c.tn,t,rfl,D,d.wf,d.live,n8,by omega,j,hj,ht,ft,tl,λb y aO W B A x E o=>?_⟩;have n:c=⟨c.k,c.one,(c.aN.toNat:Int),c.tn⟩:=by rw[J1 o0]
  have T:dZ l.length st.hd.length ⟨c.k,c.one,(c.aN.toNat:Int),c.tn⟩:=by rw[←n,len];exact k.ok
  obtain⟨tm,tf⟩:=X5 d o e T;have N:b=af:=by
   cases N:b with
   |true=>rfl
   |false=>
    obtain⟨f0,Q,r⟩:=lv;obtain⟨es,no⟩:=o.no N;exact absurd (r.2 e) (no f0 Q)
  refine q _ y aO W B A x E ?_ o.len;have:=tm N;rw[←n] at this;exact this
def y8:aP VL u6 (aJ GP):=.aY
theorem ZbB(F:aM K "fact_fits" "fact_fits" GP f fd)(mN:mg "SAID"=U (.str "said" t1))(oK:HasFn P w K mg I 2 "tie_turn" sT (II CL))(oH:b_ P w K mg I 2 "open_at" CJ Ab (B5 CJ))(mE:b_ P w K mg I 4 "left" CJ iP (zT CJ)):aB P w K mg I aL 5 f fd u6 (TV CL CJ):=by
 refine F.o y8 @λbw A X vs Q E s H k h=>?_;obtain⟨J,st,L,D,fa,u,ys,i,FF,z,c,rfl,ja,b,la,gd,o,nd,len,m4,hf,R,q1,q2⟩:=h;have hu:=k.r8;refine⟨_,(aj (oU (pv 3) (jt (K:=K) (n:=4) rfl rfl (bX (bG 4 y8.nd) (bX (bG 5 y8.nd) (bX (bG 6 y8.nd) (bX (bG 7 y8.nd) jr)))))) (aj (aR (bp bZ (pv 5) (dA (v:=.str "said") rfl mN ⟨_,rfl⟩)) (au (aH (Cd (lJ (K:=K) rfl) (pv 7) (cJ oH k (by decide) (pv 0) (aa (dF (bF k) (pv 2) (pv 6) (λ_ _=>rfl)) ae)) (by with_unfolding_all rfl)))) aW) (au (aH (eY (zD (K:=K) rfl (Tx hu)) (cJ mE k (by decide) (pv 0) (aa (dF (bF k) (pv 2) (pv 6) (λ_ _=>rfl)) (aa (dF (bF k) (pv 2) (pv 7) (λ_ _=>rfl)) (aa (aQ oK k (aa (pv 1) (aa (pv 5) ae))) ae)))) (cV ae)))))),?_⟩;obtain⟨dx,ho⟩:=ja.obj;have p1:=uv nd R.ok.one;have G:u.length<=8:=gd.2.2.2.2;have g:c.one<st.hd.length:=by rw[len];exact R.ok.one
 refine⟨_,rfl,fa,_,rfl,az.of hf,rfl,_,_,rfl,a_ ⟨_,_,rfl,a_ ⟨_,_,rfl,a_ ⟨_,_,rfl,a_ ⟨rfl,?_⟩⟩⟩⟩⟩;refine⟨_,rfl,rfl,_,rfl,bc (λcc=>?_) (λcc=>aT ?_)⟩
 ·have e:c.k=bj:=(Cp _ rfl).mp cc;have T:kV (bu i c)=.int c.aN:=by rw[oM e];rfl
  have one:=b.wf.one G g;refine⟨_,rfl,_,rfl,J.J,dx,_,rfl,ho,rfl,_,rfl,_,rfl,D,_,rfl,dh o p1,J,st,u.length,c.one,_,_,_,rfl,ja,one.hd,one.ld,one.fr,one.hJ,one.f_,λp j W np q B so lK=>⟨p,_,rfl,.inl (aq.of lK),?_,B6 j,?_⟩⟩
  ·show jw (kV (bu i c))=af;rw[T];rfl
  show Q (.bl (if(a8:cm)=af then !eQ (kV (bu i c)) (j.map V.int) else eQ (kV (bu i c)) (j.map V.int))) W;rw[bt Yh,T,zE];have ec:c=⟨bj,c.one,c.aN,c.tn⟩:=by rw[←e]
  by_cases m:c.aN∈j
  ·rw[d6 m];refine q1 ?_ W q;have Eu:=Sb (tn:=c.tn) b g (B.subset m);obtain⟨f,d⟩:=Eu.live;obtain⟨_,s⟩:=(Eu.iff f).mp d;refine⟨f,((ud b.wf g _ f).mp d).1,?_⟩;rw[ec];exact s _ (Ys _ Yk)
  ·rw[g_ m];refine q2 (λf d=>?_) W q;rw[ec];exact Ziy b g (λz=>m (B.symm.subset z)) f d
 ·have e:c.k≠bj:=λz=>cc ((Cp _ rfl).mpr z);obtain⟨⟨o0,om⟩,ft,tl⟩:=R.ok.iy e;have T:kV (bu i c)=.str (av i c.aN.toNat):=by rw[iX e];rfl
  have p2:=uv nd om;have N:c.aN.toNat<st.hd.length:=by rw[len];exact om
  have pf:=Cm b.wf G g N;refine⟨_,rfl,J.J,dx,_,rfl,ho,rfl,_,rfl,_,rfl,D,_,rfl,dh o p1,_,rfl,_,rfl,D,.int (c.aN.toNat:Int),rfl,?_,_,rfl,_,rfl,L,c.k,u,ys,c.tn,rfl,la,R.uL e,λt ht=>?_⟩
  ·show fw H D (kV (bu i c)) _;rw[T];exact dh o p2
  refine⟨J,st,u.length,c.one,c.aN.toNat,_,_,_,_,_,_,c.tn,t,rfl,ja,b.wf.one G g,b.wf.one G N,ht,λp o=>by rw[tl];exact CK b.wf g (x:=p.1) (y:=p.2) o,Yz pf (by decide),λp j W np q lK B _=>?_⟩;have ms:=JM B;refine⟨by show 0<=sizeLine;exact Yx _,λe0 H2 n2 g2 q0=>?_⟩;refine⟨p,e0,j.map V.int,rfl,rfl,aq.of (g2 _ _ lK),aq.of q0,?_⟩;rw[bS rfl];have l:∀f,fH f c↔f c.aN.toNat=ap c.tn (f c.one):=λf=>⟨λh=>h.2 e,λh=>⟨λz=>absurd z e,λ_=>h⟩⟩;cases j with
  |nil=>
   refine q2 (λf d z=>?_) H2 (q.trans g2);have m:=xt b.wf g N d;rw[(l f).mp z] at m;exact absurd ((ms _).mpr m) (λz=>nomatch z)
  |cons a r=>
   refine q1 ?_ H2 (q.trans g2);have m:=(ms a).mp Yk;obtain⟨f,d,e1,e2⟩:=B8 b.wf g N b.live m;exact⟨f,d,(l f).mpr (by rw[e1,e2])⟩
def BS.keys(b:BS):O (O Key):=b.fs.map λp=>gf b.ps p.2
def BS.told(b:BS)(k:O Key):cm:=(aX (gm b.ps b.fs) k).isSome
structure cI(xs ys:O Int)(b:BS):Prop where
 gd:lq xs ys
 nm:(b.ps.map (·.1)).Nodup
 m:b.ps.length<=64
 fl:b.fs.length<=63
 fg:∀p∈b.fs,eB xs ys b.ps.length p.2
 zs:(b.fs.map (·.1)).Nodup
 lt:∀p∈b.fs,p.1<b.co
 ky:b.keys.Nodup
 pr:((cF b.ps b.fs).map (·.1)).Nodup
 lv:∃f,ny xs.length b.ps.length f/\∀c∈b.F,fH f c
 dl:b.dn.length<=200
 ul:b.un.length<=200
structure bP(H H':Hp)(l l':BL):Prop where
 h:l'.h=l.h
 out:Out l.fp H H'
 grow:fD l.fp l'.fp H
def bP.of(g:ai H a):bP H a l l:=⟨rfl,Out.of g,fD.refl _ _⟩
def bP.trans(a:bP H H1 l l1)(b:bP H1 c l1 l2):bP H c l l2:=⟨b.h.trans a.h,JO a.out a.grow b.out,a.grow.trans a.out b.grow⟩
def bP.same(a:bP H H1 l l1)(g:ai H1 b):bP H b l l1:=⟨a.h,a.out.trans (Out.of g),a.grow⟩
def bP.after(g:ai H H1)(a:bP H1 b l l1):bP H b l l1:=⟨a.h,(Out.of g).trans a.out,a.grow.same g⟩
theorem zy[DecidableEq b](a:O (b×V))(k:b):(aX a k).isSome=af↔k∈a.map (·.1):=by
 induction a with
 |nil=>exact⟨(λz=>nomatch z),(λz=>nomatch z)⟩
 |cons p r c=>
  by_cases e:p.1=k
  ·rw[gU e]
   grind
  ·rw[fW e,c]
   grind
theorem rC[DecidableEq b]{k:b}(h:k∉a.map (·.1)):aX a k=aG:=by
 cases e:aX a k with
 |none=>rfl
 |some v=>exact absurd ((zy a k).mp (by rw[e];rfl)) h
theorem Sf[DecidableEq b]{k:b}(c:(a.map (·.1)).Nodup)(h:(k,v)∈a):aX a k=U v:=by
 induction a with
 |nil=>cases h
 |cons p r g=>
  obtain⟨e,d⟩:=Y0.mp (show(p.1::r.map (·.1)).Nodup from c);rcases Yq.mp h with h|h;·exact h▸gU rfl
  ·rw[fW (λz=>e (by exact z▸Yf.mpr ⟨_,h,rfl⟩))];exact g d h
def uw(h:i<a.length):av a i∈a.map (·.1):=by
 unfold av
 grind
inductive QR(C CL CJ:Z)(d:O V)(H:Hp)(Q:VK)(E:XK):Prop
 |mk (l:BL) (b:BS) (c a:O Int) (g:d=[.ref l.h]) (h:bb H C CL CJ l c a b) (e:Nw H (.lst (b.ps.map λp=>V.str p.1)) Q)
inductive JP(C CL CJ:Z)(d:O V)(H:Hp)(Q:VK)(E:XK):Prop
 |mk (l:BL) (b:BS) (c a:O Int) (z:ar) (v:V) (h:d=[.ref l.h,.str z]) (i:bb H C CL CJ l c a b) (e:aX (gn b.ps) (.inr z)=U v) (g:Q v H)
inductive Lq(C CL CJ:Z)(g:O V)(H:Hp)(Q:VK)(E:XK):Prop
 |mk (l:BL) (b:BS) (e d:O Int) (k a:ar) (o:Key) (j:g=[.ref l.h,.str k,.str a,kV o]) (m:bb H C CL CJ l e d b) (h:k="sibling"->∃b,o=.inr b) (i:∀c,ai H c->Q (.bl (b.told (keyOf k a o))) c)
inductive O6(C CL CJ:Z)(g:O V)(H:Hp)(Q:VK)(E:XK):Prop
 |mk (l:BL) (b:BS) (e d:O Int) (k a:ar) (i:g=[.ref l.h,.str k,.str a]) (j:bb H C CL CJ l e d b) (h:∀c,ai H c->Q ((aX (cF b.ps b.fs) [.inr k,.inr a]).getD .aE) c)
abbrev jD:O ar:=["mother","father"]
def qx(b:BS)(a:ar):O V:=jD.filterMap λk=>aX (cF b.ps b.fs) [.inr k,.inr a]
def ZfF(g:Nat->bR V):((List.range 2).filter λi=>(g i).isSome).map (λi=>(g i).getD .aE)=[g 0,g 1].filterMap id:=by
 show(([0,1]:O Nat).filter _).map _=_
 grind
def QS(b:BS)(k:O Key):b.told k=af↔k∈b.keys:=by
 unfold BS.told;rw[zy];unfold gm BS.keys
 grind
inductive OB(C CL CJ:Z)(g:O V)(H:Hp)(Q:VK)(E:XK):Prop
 |mk (l:BL) (b:BS) (e d:O Int) (a:ar) (i:g=[.ref l.h,.str a]) (j:bb H C CL CJ l e d b) (h:∀(p:Z) (c:Hp),H p=aG->ai H c->c p=U (.lst (qx b a))->Q (.ref p) c)
def dP(H:Hp)(b:bA)(a:Z)(p:Nat×Fc):Prop:=H a=U (.tup ((eS b p.1 p.2).map kV))
inductive TX(C CL CJ:Z)(h:O V)(H:Hp)(Q:VK)(E:XK):Prop
 |mk (l:BL) (b:BS) (g e:O Int) (m:h=[.ref l.h]) (n:bb H C CL CJ l g e b) (i:(b.fs.map (·.1)).Nodup) (j:b.fs.length<=63) (k:∀(p:Z) (d:O Z) (c:O (Nat×Fc)) (a:Hp),H p=aG->ai H a->c.Perm b.fs->(c.map (·.1)).Pairwise (·<·)->a p=U (.lst (d.map V.ref))->Paired (dP a b.ps) d c->Q (.ref p) a)
def H_(K:ah):Sp:=λb H Q _=>∃(r:Z) (a:O V),b=[.ref r]/\az K H r a/\Q (.bl (decide (a.length=2))) H
theorem Kk:∀{as:O Z} {fs:O (Nat×Fc)} {p:Nat×Fc},Paired (dP H ps) as fs->(fs.map (·.1)).Nodup->p∈fs->∃a,aX (bq (fs.map (·.1)) as) (.inl (p.1:Int))=U (.ref a)/\dP H ps a p:=by
 intro as fs p b;induction b with
 |nil=>grind
 |@cons a q as fs f t i=>
  intro c h;obtain⟨g,d⟩:=Y0.mp (show(q.1::fs.map (·.1)).Nodup from c);have l:bq ((q::fs).map (·.1)) (a::as)=(Sum.inl (q.1:Int),V.ref a)::bq (fs.map (·.1)) as:=rfl;rw[l];rcases Yq.mp h with rfl|h;·exact⟨a,gU rfl,f⟩
  ·obtain⟨n,k,j⟩:=i d h;refine⟨n,?_,j⟩;rw[fW (λz=>g (by
    have e:=Eg z;have m:q.1=p.1:=mu e
    exact m▸Yf.mpr ⟨_,h,rfl⟩))]
   exact k
theorem O7:∀{b:O Nat} {as:O Z},b.length=as.length->(bq b as).map (·.1)=(b.map λk:Nat=>(k:Int)).map Sum.inl
 |[],[],_=>rfl
 |k::b,a::as,h=>by
  have c:bq (k::b) (a::as)=(Sum.inl (k:Int),V.ref a)::bq b as:=rfl;rw[c,Ws,O7 (by simpa using h)];rfl
 |[],_::_,h=>rfl
 |_::_,[],h=>by simp at h
theorem Zdi(t:(fs.map (·.1)).Nodup)(d:c.Perm ((fs.map (·.1)).map λk:Nat=>(k:Int)))(r:c.Pairwise (·<=·)):∃b:O (Nat×Fc),b.Perm fs/\(b.map (·.1)).Pairwise (·<·)/\c=(b.map (·.1)).map λk:Nat=>(k:Int):=by
 have o:∀{c:O Int} {fs:O (Nat×Fc)},c.Perm ((fs.map (·.1)).map λk:Nat=>(k:Int))->∃b:O (Nat×Fc),b.Perm fs/\c=(b.map (·.1)).map λk:Nat=>(k:Int):=by
  intro c;induction c with
  |nil=>
   intro fs d;have:=d.symm.eq_nil;have e:fs=[]:=by simpa using this
   exact⟨[],by rw[e],rfl⟩
  |cons a c u=>
   intro fs d;have s:a∈(fs.map (·.1)).map λk:Nat=>(k:Int):=d.subset Yk;rw[Y7] at s;obtain⟨p,v,rfl⟩:=Yf.mp s;obtain⟨l,j,rfl⟩:=List.append_of_mem v;have m:c.Perm (((l++j).map (·.1)).map λk:Nat=>(k:Int)):=by
    have x:(((l++p::j).map (·.1)).map λk:Nat=>(k:Int)).Perm ((p.1:Int)::((l++j).map (·.1)).map λk:Nat=>(k:Int)):=by
     have:=(List.perm_middle (a:=p) (l₁:=l) (l₂:=j)).map λq:Nat×Fc=>((q.1:Nat):Int);simpa[Y7,Function.comp_def] using this
    exact(d.trans x).cons_inv
   obtain⟨b,i,g⟩:=u m;exact⟨p::b,(i.cons p).trans List.perm_middle.symm,by rw[g];rfl⟩
 obtain⟨b,i,g⟩:=o d;refine⟨b,i,?_,g⟩;have n:=(i.map _).nodup_iff.mpr t;rw[g,Wr] at r;exact(r.and n).imp λh=>by
  omega
def Zao:aP fP fP (aJ FC):=.aY
def Zem(F:aM K "people" "Hearth.people" FC f fd)(a:fG K C)(k:Bl mg):aB P w K mg I aL 1 f fd fP (QR C CL CJ):=by
 refine F.o Zao λs H r h=>?_;obtain⟨l,b,o,n,rfl,c,q⟩:=h;refine⟨_,(au (aH (fO (Zb_ rfl) rfl k.xC xv (aa (pF K 0) ae)))),?_⟩;obtain⟨j,i⟩:=c.obj;refine⟨_,rfl,l.h,C,j,_,_,rfl,i,a.cls,a.uu,rfl,l.sd,_,rfl,c.dq,λp m d g e=>q p m d g ?_⟩;rw[e,Y7];rfl
abbrev kG:O ar:=["self","name"]
def Zae:aP kG kG (aJ Fs):=.aY
def Zdj(F:aM K "side_of" "Hearth.side_of" Fs f fd)(a:fG K C)(m:Bl mg):aB P w K mg I aL 1 f fd kG (JP C CL CJ):=by
 refine F.o Zae λs H d h=>?_;obtain⟨l,b,k,j,z,v,rfl,c,g,q⟩:=h;refine⟨_,(aj (aR (jU (mG (bF d) (pv 1) (pF K 0)) (by with_unfolding_all rfl)) ia aW) (au (aH (dF (bF d) (pF K 0) (pv 1) (λ_ _=>rfl))))),?_⟩;obtain⟨i,e⟩:=c.obj;exact⟨_,rfl,_,rfl,l.h,C,i,_,_,rfl,e,a.cls,a.uu,rfl,l.sd,U v,rfl,dh c.dq g,_,rfl,bW (aT ⟨_,rfl,l.h,C,i,_,_,rfl,e,a.cls,a.uu,rfl,_,rfl,l.sd,v,rfl,dh c.dq g,q⟩)⟩
def ZbC:aP kh kh (aJ GS):=.aY
def ZbD(F:aM K "is_person" "is_person" GS f fd)(c:Bl mg):aB P w K mg I aL 1 f fd kh (H_ K):=by
 refine F.o ZbC λs H d h=>?_;obtain⟨r,a,rfl,b,q⟩:=h;refine⟨_,(au (aH (eY bZ (cT K c (pv 0)) aw))),?_⟩;refine⟨_,rfl,r,a,rfl,.inr b,rfl,?_⟩;have e:decide (V.int (a.length:Int)=V.int 2)=decide (a.length=2):=by
  rw[Wd,gI,gI];exact⟨λz=>by have:=V.int.inj z;exact mu this,λz=>by rw[z];rfl⟩
 rw[←e] at q;exact q
abbrev qK:O ar:=["self","kind","one","other"]
def Zbc:aP qK qK (aJ GB):=.aY
def Ziz(F:aM K "has" "Hearth.has" GB f fd)(e:fG K C)(i:HasFn P w K mg I 1 "fact_key" xW C1):aB P w K mg I aL 2 f fd qK (Lq C CL CJ):=by
 refine F.o Zbc λs H d h=>?_;obtain⟨l,b,v,u,k,a,o,rfl,g,j,q⟩:=h;refine⟨_,(au (aH (Zhh (CB (bF d) (aQ i d (aa (pv 1) (aa (pv 2) (aa (pv 3) ae)))) (pF K 0)) (by with_unfolding_all rfl)))),?_⟩;refine⟨_,rfl,_,rfl,_,rfl,k,a,o,rfl,j,λp t x c m=>?_⟩;obtain⟨r,n⟩:=g.obj;refine⟨_,rfl,l.h,C,r,_,_,rfl,c _ _ n,e.cls,e.Cn,rfl,l.kn,_,rfl,fw.t (c _ _ g.known) m,?_⟩;exact q t c
abbrev Dp:O ar:=["self","kind","name"]
def Z5:aP Dp Dp (aJ Ff):=.aY
def ZbE(F:aM K "parent_of" "Hearth.parent_of" Ff f fd)(d:fG K C):aB P w K mg I aL 1 f fd Dp (O6 C CL CJ):=by
 refine F.o Z5 λs H g h=>?_;obtain⟨l,b,r,o,k,a,rfl,c,q⟩:=h;refine⟨_,(au (aH (Ze7 (bF g) (pF K 0) (cU (aa (pv 1) (aa (pv 2) ae))) ⟨rfl,rfl,rfl,rfl⟩))),?_⟩;obtain⟨m,j⟩:=c.obj;refine⟨_,rfl,l.h,C,m,_,_,rfl,j,d.cls,d.xf,rfl,l.pr,rfl,.inr ⟨_,.inl c.parents⟩,_,rfl,_,rfl,by show 2<=sizeLine;decide,λp n t e i=>?_⟩;exact⟨_,fw.t (k:=[.inr k,.inr a]) (e _ _ c.parents) i,q n e⟩
def Z1:aP kG kG (aJ Fb):=.aY
theorem Zbd(F:aM K "parents_of" "Hearth.parents_of" Fb f fd)(j:fG K C)(N:mg "PARENTS"=U (.ref o))(t:∀H,az K H o (jD.map V.str)):aB P w K mg I aL 1 f fd kG (OB C CL CJ):=by
 refine F.o Z1 λs H y h=>?_;obtain⟨l,b,xs,ys,a,rfl,r,q⟩:=h;refine⟨_,(au (aH (jS (x:="kind") (fr:=[("self",0),("name",1)]) (cl:=[("self",s.heap.objs.size+1),("name",s.heap.objs.size+1+1)]) rfl (.ir ⟨rfl,⟨rfl,trivial⟩⟩ ⟨⟨rfl,.inl rfl,.inl rfl,rfl⟩,⟨⟨rfl,.inl rfl,.inl rfl,rfl⟩,trivial⟩⟩) (Kr (dA (v:=.ref o) rfl N rfl)) (λ_ _ _ _=>xu (jU (CB (bF y) (cU (aa (pv 0) (aa (pv 2) ae))) (xw (K:=K) rfl (pv 1) rfl)) (by with_unfolding_all rfl))) (λ_ _ _ _=>(dF (bF y) (xw (K:=K) rfl (pv 1) rfl) (cU (aa (pv 0) (aa (pv 2) ae))) (λ_ _=>rfl)))))),?_⟩;obtain⟨G,B⟩:=r.obj;let val:Nat->bR V:=λi=>aX (cF b.ps b.fs) [.inr (jD.getD i ""),.inr a];refine⟨o,rfl,⟨_,t _⟩,λD A=>Zd2 (t _) (by decide) A (λi=>(val i).isSome) (λi=>(val i).getD .aE) (λi v c J g _ Kt Kf m n=>?_) λJ g R=>q D J A g ?_⟩
 ·obtain⟨k,rfl,W⟩:∃k:ar,v=.str k/\jD.getD i ""=k:=by
   match i,c with
   |0,c=>exact⟨"mother",(Yn c).symm,rfl⟩
   |1,c=>exact⟨"father",(Yn c).symm,rfl⟩
   |i+2,c=>simp at c
  have T:val i=aX (cF b.ps b.fs) [.inr k,.inr a]:=by show aX (cF b.ps b.fs) [.inr (jD.getD i ""),.inr a]=_;rw[W]
  refine⟨_,rfl,_,rfl,by show 2<=sizeLine;decide,λp H2 np d Q=>?_⟩;refine⟨_,rfl,l.h,C,G,_,_,rfl,d _ _ (g _ _ B),j.cls,j.xf,rfl,l.pr,_,rfl,fw.t (k:=[.inr k,.inr a]) (d _ _ (g _ _ r.parents)) Q,_,rfl,?_⟩;rw[T] at m n;cases e:aX (cF b.ps b.fs) [.inr k,.inr a] with
  |none=>
   rw[e] at n;exact bW (n H2 rfl d)
  |some u=>
   rw[e] at m;refine cZ ?_;refine⟨_,rfl,l.h,C,G,_,_,rfl,d _ _ (g _ _ B),j.cls,j.xf,rfl,_,rfl,_,rfl,by show 2<=sizeLine;decide,λp3 H3 L E X=>?_⟩;refine⟨l.pr,u,rfl,?_,m u H3 rfl (d.trans E) rfl⟩;have z:=fw.t (k:=[.inr k,.inr a]) (E _ _ (d _ _ (g _ _ r.parents))) X;rw[e] at z;exact z
 ·rw[R];have e:((List.range (jD.map V.str).length).filter λi=>(val i).isSome).map (λi=>(val i).getD .aE)=qx b a:=by
   exact ZfF val
  rw[e]
def ZaS:aP fP fP (aJ Gi):=.aY
theorem ZgR(F:aM K "kept" "Hearth.kept" Gi f fd)(u:fG K C)(bl:Bl mg):aB P w K mg I aL 1 f fd fP (TX C CL CJ):=by
 refine F.o ZaS λs H hr h=>?_;obtain⟨l,b,xs,t,rfl,r,W,fl,q⟩:=h;refine⟨_,(au (aH (jS (x:="number") (fr:=[("self",0)]) (cl:=[("self",s.heap.objs.size+1)]) rfl (.ir ⟨rfl,trivial⟩ ⟨⟨rfl,.inl rfl,.inl rfl,rfl⟩,trivial⟩) (fX (K:=K) rfl (gQ (Za7 rfl) rfl bl.BX BH (aa (pF K 0) ae))) (λ_ _ _ _=>nI) (λ_ _ _ _=>(dF (bF hr) (xw (K:=K) rfl (pv 1) rfl) (pv 0) (λ_ _=>rfl)))))),?_⟩;obtain⟨dx,h1⟩:=r.obj;have al:(b.fs.map (·.1)).length=l.bY.length:=by rw[Ya];exact(de r.fact).symm
 refine⟨_,rfl,l.h,C,dx,_,_,rfl,h1,u.cls,u.rY,rfl,l.fc,_,(b.fs.map (·.1)).map (λk:Nat=>(k:Int)),rfl,r.facts,O7 al,by rw[Ya,Ya];exact y0 fl,λns pm so p H1 np A X=>?_⟩;obtain⟨dI,J,q2,q3⟩:=Zdi W pm so;have jK:dI.length<=63:=by rw[J.length_eq];exact fl
 subst q3;have nl:(((dI.map (·.1)).map λk:Nat=>(k:Int)).map V.int).length=dI.length:=by rw[Ya,Ya,Ya]
 refine⟨p,rfl,⟨_,aq.of X⟩,λD Q=>?_⟩;refine ze (aq.of X) (by omega) Q (λ_=>af) (λi y m=>∃a c,dI[i]?=U c/\y=.ref a/\dP m b.ps a c/\dP H b.ps a c) (λi y m H3 br ⟨a,c,o,n,e3,E⟩=>⟨a,c,o,n,br _ _ e3 (λz=>by
   have:=A _ _ E;rw[z,Q] at this;cases this),E⟩) (λi v d m R _ Kt Kf kt _=>mV (cZ ?_)) λiS m R h2 c=>?_
 ·rw[Ye,Ye,Ye] at d;cases B:dI[i]? with
  |none=>rw[B] at d;cases d
  |some L=>
   rw[B] at d;obtain rfl:V.int (L.1:Int)=v:=Yn d;obtain⟨a,o,n⟩:=Kk r.fact W (J.subset (Yg B));have G:=A.trans R;refine⟨_,rfl,l.h,C,dx,_,_,rfl,G _ _ h1,u.cls,u.rY,rfl,_,rfl,l.fc,.ref a,rfl,qv (G _ _ r.facts) o,kt _ m rfl (ai.refl _) ⟨a,L,B,rfl,G _ _ n,n⟩⟩
 ·rw[Hm,nl] at c;obtain⟨j,ea,pa⟩:∃j:O Z,iS=j.map V.ref/\Paired (dP m b.ps) j dI:=by
   have T:∀{t:O V} {N:O Nat} {gs:O (Nat×Fc)},Paired (λy i=>∃a c,dI[i]?=U c/\y=.ref a/\dP m b.ps a c/\dP H b.ps a c) t N->N.map (λi=>dI[i]?)=gs.map U->∃j:O Z,t=j.map V.ref/\Paired (dP m b.ps) j gs:=by
    intro t N gs c;induction c generalizing gs with
    |nil=>
     intro e;cases gs with
     |nil=>exact⟨[],rfl,.nil⟩
     |cons _ _=>cases e
    |cons f _ ih=>
     intro e;cases gs with
     |nil=>cases e
     |cons g gs=>
      obtain⟨a,L,o,n,e3,_⟩:=f;injection e with E e5;obtain⟨j,r1,r2⟩:=ih e5;exact⟨a::j,by rw[n,r1];rfl,.cons (by rwa[←Yn (o.symm.trans E)]) r2⟩
   refine T c (Ww λi=>?_);rw[Ye,Ye];by_cases d:i<dI.length;·rw[Jj d,Yc d];exact eH U (Yc d)
   ·rw[Y4 (by rw[Jt];exact gV d),Y4 (gV d)];rfl
  subst ea;exact q D j dI m (A.free Q) (A.trans R) J q2 h2 pa
def Cq(h:i<a.length):av (a++[x]) i=av a i:=by
 unfold av
 grind
def JQ(b:dZ n a.length c):bu (a++[x]) c=bu a c:=by
 unfold bu;by_cases e:c.k=bj;·grind
 ·rw[bt e,bt e,Cq (b.iy e).1.2]
def ZgS(b:dZ n a.length c):eS (a++[x]) z c=eS a z c:=by
 unfold eS;rw[JQ b,Cq b.one]
def Sg(b:dZ n a.length c):gf (a++[x]) c=gf a c:=by
 unfold gf;rw[JQ b,Cq b.one]
def ZgT(b:∀p∈fs,dZ n a.length p.2):gm (a++[x]) fs=gm a fs:=by
 exact Wo λp c=>by rw[Sg (b p c)]
def Sh(b:∀p∈fs,dZ n a.length p.2):cF (a++[x]) fs=cF a fs:=by
 exact Wo λp c=>by
  have o:=b p (Y5.mp c).1;rw[JQ o,Cq o.one]
def ZgU(a:bA)(n s:ar):gn (a++[(n,s)])=gn a++[(.inr n,.str s)]:=Yo
def ZgV(a:bA)(x:ar×ar):jJ (a++[x])=jJ a++[(.inr x.1,.int (a.length:Int))]:=by
 unfold jJ
 grind
def ZfG(a:bA)(b:O (Nat×Fc))(z:Nat)(c:Fc):gm a (b++[(z,c)])=gm a b++[(gf a c,.int (z:Int))]:=Yo
def QT(h:cW c.k=af):cF a (fs++[(z,c)])=cF a fs++[([.inr c.k,.inr (av a c.one)],kV (bu a c))]:=by
 unfold cF
 grind
def QU(h:cW c.k=a8):cF a (fs++[(z,c)])=cF a fs:=by
 unfold cF
 grind
def Cr(k:ar):eQ (.str k) (jD.map V.str)=cW k:=by
 show((("mother":ar)==k)||((("father":ar)==k)||a8))=(decide (k="mother")||decide (k="father"))
 grind
theorem OC{c e d:Type}[DecidableEq e][DecidableEq d]{f:c->e}{g:c->d}:∀{b:O c} {x:c},(b.map f).Nodup->(b.map g).Nodup->x∈b->b.filter (λy=>decide (f y≠f x))=b.filter (λy=>decide (g y≠g x)):=by
 intro b x l k j;have inj:∀{i:Type} {h:c->i},(b.map h).Nodup->∀y∈b,h y=h x->y=x:=by
  induction b with
  |nil=>cases j
  |cons a r m=>grind
 refine Jv λy n=>?_
 grind
def ZfH(b:(fs.map (·.1)).Nodup)(d:(fs.map λp=>gf a p.2).Nodup)(m:(z,c)∈fs):iK (gm a fs) (gf a c)=gm a (c7 z fs):=by
 unfold gm iK c7;rw[J7];exact eH _ (OC d b m)
def ZfI(d:(fs.map (·.1)).Nodup)(b:((cF a fs).map (·.1)).Nodup)(m:(z,c)∈fs)(h:cW c.k=af):iK (cF a fs) [.inr c.k,.inr (av a c.one)]=cF a (c7 z fs):=by
 unfold cF at b⊢;rw[Y7] at b;unfold iK c7;rw[J7,Jc];have e:=OC b (d.sublist (List.filter_sublist.map _)) (Y5.mpr ⟨m,h⟩);rw[Jc,Jc] at e;rw[Jc];exact eH _ (e.trans (eH (fs.filter ·) (funext λp=>Bool.and_comm _ _)))
theorem Zen(d:(fs.map (·.1)).Nodup)(m:(z,c)∈fs)(h:cW c.k=a8):cF g fs=cF g (c7 z fs):=by
 unfold cF c7;rw[Jc];refine eH _ (Jv λp i=>?_);by_cases e:p.1=z
 ·have:p=(z,c):=by
   have b:∀{fs:O (Nat×Fc)},(fs.map (·.1)).Nodup->p∈fs->(z,c)∈fs->p=(z,c):=by
    induction fs with
    |nil=>grind
    |cons a r j=>grind
   exact b d i m
  grind
 ·grind
inductive Move(a d:O Int)(H:Hp)(r:Z)(b:BS):Int->BS->Prop
 |pin (n s:ar) (g:H r=U (.tup [.str n,.str s])) (new:n∉b.ps.map (·.1)) (e:b.ps.length<64):Move a d H r b 1 {b with ps:=b.ps++[(n,s)]}
 |fin (z:Nat) (c:Fc) (g:dP H b.ps r (z,c)) (o:eB a d b.ps.length c) (i:z∉b.fs.map (·.1)) (k:gf b.ps c∉b.keys) (j:cW c.k=af->[.inr c.k,.inr (av b.ps c.one)]∉(cF b.ps b.fs).map (·.1)) (l:∃f,ny a.length b.ps.length f/\∀h∈b.F++[c],fH f h) (e:b.fs.length<63):Move a d H r b 1 {b with fs:=b.fs++[(z,c)]}
 |xX (z:Nat) (c:Fc) (g:dP H b.ps r (z,c)) (m:(z,c)∈b.fs):Move a d H r b (-1) {b with fs:=c7 z b.fs}
theorem Move.out{w:Int}(m:Move xs e H r b w b')(k:∀d,H r=U (.tup d)->j r=U (.tup d)):Move xs e j r b w b':=by
 cases m with
 |pin n s a new lim=>exact .pin n s (k _ a) new lim
 |fin z c a i g h np lv lim=>exact .fin z c (k _ a) i g h np lv lim
 |xX z c a m=>exact .xX z c (k _ a) m
theorem Move.Zjo{w:Int}(m:Move xs g H r b w k)(e d:O Dn):Move xs g H r {b with dn:=e,un:=d} w {k with dn:=e,un:=d}:=by
 cases m with
 |pin n s a new lim=>exact .pin n s a new lim
 |fin z c a j h i np lv lim=>exact .fin z c a j h i np lv lim
 |xX z c a m=>exact .xX z c a m
inductive Si(C CL CJ:Z)(e:O V)(H:Hp)(Q:VK):Prop
 |mk (l:BL) (b:BS) (h g:O Int) (d:Z) (z:Nat) (c:Fc) (p:e=[.ref l.h,.ref d]) (o:bb H C CL CJ l h g b) (m:dP H b.ps d (z,c)) (i:z∉b.fs.map (·.1)) (k:gf b.ps c∉b.keys) (j:cW c.k=af->[.inr c.k,.inr (av b.ps c.one)]∉(cF b.ps b.fs).map (·.1)) (n:b.fs.length<=63)
   (q:∀a,Out [l.fc,l.kn,l.pr] H a->a l.fc=U (.dK (bq ((b.fs++[(z,c)]).map (·.1)) (l.bY++[d])))->a l.kn=U (.dT (gm b.ps (b.fs++[(z,c)])))->a l.pr=U (.dT (cF b.ps (b.fs++[(z,c)])))->Q .aE a):Si C CL CJ e H Q
def TY(C CL CJ:Z):Sp:=λa H Q _=>Si C CL CJ a H Q
inductive Sj(C CL CJ:Z)(h:O V)(H:Hp)(Q:VK)(E:XK):Prop
 |mk (l:BL) (b g:BS) (c a:O Int) (r:Z) (j:h=[.ref l.h,.ref r]) (i:bb H C CL CJ l c a b) (ok:cI c a b) (mv:Move c a H r b 1 g) (q:∀(e:BL) (d:Hp),bP H d l e->bb d C CL CJ e c a g->Q .aE d)
inductive P5(C CL CJ:Z)(h:O V)(H:Hp)(Q:VK)(E:XK):Prop
 |mk (l:BL) (b g:BS) (c a:O Int) (r:Z) (j:h=[.ref l.h,.ref r]) (i:bb H C CL CJ l c a b) (ok:cI c a b) (mv:Move c a H r b (-1) g) (q:∀(e:BL) (d:Hp),bP H d l e->bb d C CL CJ e c a g->Q .aE d)
inductive Sk(C CL CJ:Z)(i:O V)(H:Hp)(Q:VK)(E:XK):Prop
 |mk (l:BL) (b h:BS) (c a:O Int) (r:Z) (w:Int) (g:Nat) (k:i=[.ref l.h,.int w,.ref r,.int (g:Int)]) (j:bb H C CL CJ l c a b) (ok:cI c a b) (mv:Move c a H r b w h) (q:∀(e:BL) (d:Hp),bP H d l e->bb d C CL CJ e c a {h with co:=g}->Q .aE d)
inductive B9(C CL CJ:Z)(j:O V)(H:Hp)(Q:VK)(E:XK):Prop
 |mk (l:BL) (b i:BS) (d c:O Int) (r:Z) (w:Int) (e:Nat) (a:O Key) (n:j=[.ref l.h,.int w,.ref r,.int (e:Int)]) (m:bb H C CL CJ l d c b) (ok:cI d c b) (dl:b.dn.length<200) (k:H r=U (.tup (a.map kV))) (mv:Move d c H r b w i) (q:∀(h:BL) (g:Hp),bP H g l h->bb g C CL CJ h d c {i with co:=e,dn:=b.dn++[⟨w,a,b.co,e⟩],un:=[]}->Q .aE g)
def Sl{c:Fc}(e:c.k="sibling"):∃b,bu a c=.inr b:=⟨_,iX (by rw[e];decide+kernel)⟩
abbrev u7:O ar:=["self","fact"]
abbrev VM:O ar:=["self","fact","number","kind","one","other"]
def yT:aP VM u7 (aJ Fg):=.aY
theorem ZgW(F:aM K "note_fact" "Hearth.note_fact" Fg f fd)(g:fG K C)(jQ:mg "PARENTS"=U (.ref D))(qP:∀H,az K H D (jD.map V.str))(qa:HasFn P w K mg I 1 "fact_key" xW C1):aB P w K mg I aL 2 f fd u7 (TY C CL CJ):=by
 refine F.o yT λs H k h=>?_;obtain⟨l,b,xs,ys,B,z,c,rfl,d,hf,nz,nk,np,fl,q⟩:=h;refine⟨_,(aj (oU (pv 1) (jt (K:=K) (n:=4) rfl rfl (bX (bG 2 yT.nd) (bX (bG 3 yT.nd) (bX (bG 4 yT.nd) (bX (bG 5 yT.nd) jr)))))) (aj (oO (bF k) (pF K 0) (pv 2) (pv 1)) (aj (PK (bF k) (pF K 0) (aQ qa k (aa (pv 3) (aa (pv 4) (aa (pv 5) ae)))) (pv 2)) (au (aR (fY (lJ (K:=K) rfl) (pv 3) (dA (v:=.ref D) rfl jQ rfl) (by with_unfolding_all rfl)) (au (PK (bF k) (pF K 0) (cU (aa (pv 3) (aa (pv 4) ae))) (pv 5))) aW))))),?_⟩;obtain⟨E,i⟩:=d.obj;have sz:(10000:Nat)<=sizeLine:=by rw[dU];decide
 have al:(b.fs.map (·.1)).length=l.bY.length:=by rw[Ya];exact(de d.fact).symm
 have Ew:l.h≠l.fc:=eA i d.facts (λz=>by cases z);have x:l.h≠l.kn:=eA i d.known (λz=>by cases z);have T:l.kn≠l.fc:=eA d.known d.facts (λz=>by cases z);have L:l.pr≠l.fc:=eA d.parents d.facts (λz=>by cases z);have W:l.pr≠l.kn:=λe=>by
  have:=d.nd;unfold BL.own at this;simp[e] at this
 refine⟨_,rfl,B,_,rfl,az.of hf,rfl,_,_,rfl,a_ ⟨_,_,rfl,a_ ⟨_,_,rfl,a_ ⟨_,_,rfl,a_ ⟨rfl,?_⟩⟩⟩⟩⟩;refine⟨_,rfl,_,rfl,l.h,C,E,_,_,rfl,i,g.cls,g.rY,rfl,_,rfl,l.fc,_,.inl (z:Int),rfl,d.facts,rfl,by unfold bq;rw[Ya,W8,Ya];omega,λH1 J Q=>?_⟩;have vz:aX (bq (b.fs.map (·.1)) l.bY) (.inl (z:Int))=aG:=BM nz;rw[mH _ vz,BA z B al] at Q;refine⟨_,rfl,_,rfl,l.h,C,E,_,_,rfl,J _ _ i Ew,g.cls,g.Cn,rfl,_,rfl,_,rfl,_,rfl,c.k,av b.ps c.one,bu b.ps c,rfl,λe=>Sl e,λp H2 yv A dJ=>?_⟩;refine⟨l.kn,p,_,gf b.ps c,rfl,A _ _ (J _ _ d.known T),rfl,dJ,by unfold gm;rw[Ya];omega,λu R j=>?_⟩;have vk:aX (gm b.ps b.fs) (gf b.ps c)=aG:=rC (by
  have:(gm b.ps b.fs).map (·.1)=b.keys:=by unfold gm BS.keys;rw[Y7];rfl
  rw[this];exact nk)
 rw[mH _ vk] at j
 replace j:u l.kn=U (.dT (gm b.ps (b.fs++[(z,c)]))):=by rw[ZfG];exact j
 have y:∀{a:Z} {o:HO},H a=U o->a≠l.fc->a≠l.kn->u a=U o:=λ{a o} e n1 n2=>R _ _ (A _ _ (J _ _ e n1)) n2;have N:u l.fc=U (.dK (bq ((b.fs++[(z,c)]).map (·.1)) (l.bY++[B]))):=by
  have:=R _ _ (A _ _ Q) (λz=>T z.symm);rw[this,Yo];rfl
 have AZ:=y d.parents L W;refine⟨_,rfl,D,_,rfl,.inr (qP _),rfl,rfl,_,rfl,?_⟩;dsimp only;rw[bt Yh,show eQ (kV (Sum.inr c.k)) (jD.map V.str)=cW c.k from Cr c.k];refine bc (λt=>?_) (λt=>aT ?_)
 ·refine⟨_,rfl,_,rfl,l.h,C,E,_,_,rfl,y i Ew x,g.cls,g.xf,rfl,_,rfl,_,rfl,by show 2<=sizeLine;decide,λp4 H4 np4 m Nu=>?_⟩;refine⟨l.pr,p4,_,[.inr c.k,.inr (av b.ps c.one)],rfl,m _ _ AZ,rfl,Nu,?_,λX G r=>?_⟩
  ·unfold cF;rw[Ya];have:=Wk (λp:Nat×Fc=>cW p.2.k) b.fs;omega
  have vp:aX (cF b.ps b.fs) [.inr c.k,.inr (av b.ps c.one)]=aG:=rC (np t);rw[mH _ vp] at r
  replace r:X l.pr=U (.dT (cF b.ps (b.fs++[(z,c)]))):=by rw[QT t];exact r
  refine q X (λa o e n=>?_) (G _ _ (m _ _ N) (λz=>L z.symm)) (G _ _ (m _ _ j) (λz=>W z.symm)) r;simp only[Yq,Y3,hI,iz] at n;exact G _ _ (m _ _ (y e n.1 n.2.1)) n.2.2
 ·have ef:cW c.k=a8:=by
   cases e:cW c.k with
   |true=>exact absurd e t
   |false=>rfl
  refine q u (λa o e n=>?_) N j (by rw[QU ef];exact AZ)
  grind
theorem TZ{l:BL}{H g:Hp}{c d:JL}(i:l.fE=c.fp)(o:Out l.own H g)(h:fD c.fp d.fp g):fD l.fp ({l with fE:=d.fp}:BL).fp H:=λa z=>by
 rcases Yu.mp (z) with q|q;·exact .inl (Yt _ q)
 ·rcases h a q with m|m;·exact .inl (Ys _ (by rwa[i]))
  ·by_cases b:a∈l.own;·exact .inl (Yt _ b)
   ·right
    cases e:H a with
    |none=>rfl
    |some u=>rw[o _ _ e b] at m;cases m
def UW{l:BL}{b:JL}(d:l.fE=b.fp)(o:Out l.own H H1)(c:Out b.fp H1 H2):Out l.fp H H2:=λa u e n=>c _ _ (o _ _ e λz=>n (Yt _ z)) λz=>n (Ys _ (by rwa[d]))
def ux{l:BL}(o:Out l.own H H1):Out l.fp H H1:=λa u e n=>o _ _ e λz=>n (Yt _ z)
abbrev xY:O ar:=["self","row"]
def Fv:aP ["self","row","name","side"] xY (aJ FD):=.aY
theorem Zeo(F:aM K "put_in" "Hearth.put_in" FD f fd)(i:fG K C)(wI:HasFn P w K mg I 1 "is_person" kh (H_ K))(wJ:b_ P w K mg I 2 "add" CJ fP (Lo CJ))(Fh:b_ P w K mg I 2 "note_fact" C u7 (TY C CL CJ))(wK:HasFn P w K mg I 6 "keep_fact" u6 (Kj CL CJ))(bl:Bl mg):aB P w K mg I aL 8 f fd xY (Sj C CL CJ):=by
 refine F.o Fv @λbw A outer vs Q E s H hr h=>?_;obtain⟨l,b,b',L,ys,r,rfl,d,ok,mv,q⟩:=h;refine⟨_,(au (aR (e_ (aQ wI hr (aa (pv 1) ae))) (aj (oU (pv 1) (jt (K:=K) (n:=2) rfl rfl (bX (bG 2 Fv.nd) (bX (bG 3 Fv.nd) jr)))) (aj (oO (bF hr) (pF K 0) (pv 2) (gQ (ZcY) rfl bl.CW Cv (aa (pF K 0) ae))) (aj (oO (bF hr) (pF K 0) (pv 2) (pv 3)) (au (aR (bp Cc (pF K 0) nL) (au (cE (qt wJ hr (by decide) (pF K 0)))) aW))))) (aj (cE (cJ Fh hr (by decide) (pv 0) (aa (pv 1) ae))) (au (aR (bp Cc (pF K 0) nL) (au (cE (aQ wK hr (aa (pF K 0) (aa (pF K 0) (aa (pF K 0) (aa (pv 1) ae))))))) aW))))),?_⟩;obtain⟨B,h1⟩:=d.obj;have sz:(10000:Nat)<=sizeLine:=by rw[dU];decide
 have nd:=d.nd;unfold BL.own at nd;have X8:=nd;simp only[Y0,Yq,Y3,hI,iz] at X8;obtain⟨⟨lV,cz,jM,oy,q5,pN,q_⟩,⟨A0,vO,vP,vQ,yx,yy⟩,⟨tN,vR,vS,yz,yA⟩,_⟩:=X8;have u9:∀p∈b.fs,dZ L.length b.ps.length p.2:=λp hp=>(ok.fg p hp).ok;cases mv with
 |pin n s X new lim=>
  refine⟨_,rfl,r,_,rfl,az.of X,_,rfl,cZ ?_⟩;refine⟨_,rfl,r,_,rfl,az.of X,rfl,_,_,rfl,a_ ⟨_,_,rfl,a_ ⟨rfl,?_⟩⟩⟩;have kl:(gn b.ps).length=b.ps.length:=Ya _;have pl':(jJ b.ps).length=b.ps.length:=by unfold jJ;rw[Ya,List.length_zipIdx]
  refine⟨_,rfl,l.h,C,B,_,_,rfl,h1,i.cls,i.uu,rfl,l.sd,_,rfl,d.dq,_,rfl,l.h,C,B,_,_,rfl,h1,i.cls,i.rR,rfl,_,rfl,l.pl,_,.inr n,rfl,d.places,rfl,by omega,λH1 b1 e1=>?_⟩;have Zjp:(jJ b.ps).map (·.1)=b.ps.map λp=>(.inr p.1:Key):=by
   unfold jJ;rw[Y7];have:(λp:(ar×ar)×Nat=>((.inr p.1.1:Key),V.int (p.2:Int)).1)=(λp:ar×ar=>(.inr p.1:Key))∘Prod.fst:=rfl;show b.ps.zipIdx.map (λp:(ar×ar)×Nat=>((.inr p.1.1:Key),V.int (p.2:Int)).1)=_;rw[this,←Y7,List.zipIdx_map_fst]
  have VN:∀{ks:O Key},ks=(b.ps.map λp=>(.inr p.1:Key))->(.inr n:Key)∉ks:=λ{ks} e z=>by
   rw[e] at z;obtain⟨p,hp,ep⟩:=Yf.mp z;exact new (Yf.mpr ⟨p,hp,Wh ep⟩)
  have vp:aX (jJ b.ps) (.inr n)=aG:=rC (VN Zjp);have vs':aX (gn b.ps) (.inr n)=aG:=rC (VN (by show(b.ps.map _).map _=_;rw[Y7];rfl));rw[mH _ vp,kl] at e1;refine⟨_,rfl,_,rfl,l.h,C,B,_,_,rfl,b1 _ _ h1 cz,i.cls,i.uu,rfl,_,rfl,l.sd,_,.inr n,rfl,b1 _ _ d.dq A0,rfl,by omega,λH2 b2 e2=>?_⟩;rw[mH _ vs'] at e2;have j:∀{a:Z} {o:HO},H a=U o->a≠l.pl->a≠l.sd->H2 a=U o:=λ{a o} e n1 n2=>b2 _ _ (b1 _ _ e n1) n2;have G:Out l.own H H2:=λa u e na=>j e (λz=>na (by rw[z];simp[BL.own])) (λz=>na (by rw[z];simp[BL.own]));have s2:H2 l.sd=U (.dK (gn (b.ps++[(n,s)]))):=by rw[ZgU];exact e2
  have p2:H2 l.pl=U (.dK (jJ (b.ps++[(n,s)]))):=by rw[ZgV];exact b2 _ _ e1 (λz=>A0 z.symm)
  have N:=j h1 cz lV;have tp:∀{a:Z} {D:O V} {H3:Hp},Out l.fp H H3->H a=U (.tup D)->H3 a=U (.tup D):=λo e=>o _ _ e (d.tup e);have mk:∀(x:BL) (H3:Hp),x={l with fE:=x.fE}->Out l.fp H H3->fD l.fp x.fp H->(∀a u,H2 a=U u->a∈l.own->H3 a=U u)->u5 H3 CJ L.length x {b with ps:=b.ps++[(n,s)]}->Q .aE H3:=λx H3 t o g k rk=>by
   refine q x H3 ⟨by rw[t],o,g⟩ ?_;refine d.build (l':=x) (b':={b with ps:=b.ps++[(n,s)]}) (by rw[t]) (by rw[t]) (by rw[t]) (by rw[t]) (by rw[t]) (by rw[t]) (by rw[t]) (by rw[t]) (by rw[t]) o g ⟨B,?_⟩ (k _ _ s2 (by simp[BL.own])) (k _ _ p2 (by simp[BL.own])) ?_ ?_ ?_ ?_ ?_ ?_ ?_ ?_ rk
   ·have:x.rk=l.rk:=by rw[t]
    rw[this];exact k _ _ N (by simp[BL.own])
   ·have:x.bY=l.bY:=by rw[t]
    rw[this];exact k _ _ (j d.facts (λz=>tN z.symm) (λz=>vO z.symm)) (by simp[BL.own])
   ·have:x.bY=l.bY:=by rw[t]
    rw[this];have aux:∀{as:O Z} {fs:O (Nat×Fc)},Paired (λa (p:Nat×Fc)=>H a=U (.tup ((eS b.ps p.1 p.2).map kV))) as fs->(∀p∈fs,dZ L.length b.ps.length p.2)->Paired (λa (p:Nat×Fc)=>H3 a=U (.tup ((eS (b.ps++[(n,s)]) p.1 p.2).map kV))) as fs:=by
     intro as fs pr;induction pr with
     |nil=>intro _;exact .nil
     |cons f _ ih=>intro m;exact .cons (by rw[ZgS (m _ Yk)];exact tp o f) (ih λp hp=>m p (Yw _ hp))
    exact aux d.fact u9
   ·show H3 l.kn=U (.dT (gm (b.ps++[(n,s)]) b.fs));rw[ZgT u9];exact k _ _ (j d.known (λz=>vR z.symm) (λz=>vP z.symm)) (by simp[BL.own])
   ·show H3 l.pr=U (.dT (cF (b.ps++[(n,s)]) b.fs));rw[Sh u9];exact k _ _ (j d.parents (λz=>vS z.symm) (λz=>vQ z.symm)) (by simp[BL.own])
   ·have:x.ji=l.ji:=by rw[t]
    rw[this];exact k _ _ (j d.done (λz=>yz z.symm) (λz=>yx z.symm)) (by simp[BL.own])
   ·have:x.ji=l.ji:=by rw[t]
    rw[this];exact L2.Paired.bI d.mY λ_ _ e=>e.out o λa D e=>d.tup e
   ·have:x.lU=l.lU:=by rw[t]
    rw[this];exact k _ _ (j d.jv (λz=>yA z.symm) (λz=>yy z.symm)) (by simp[BL.own])
   ·have:x.lU=l.lU:=by rw[t]
    rw[this];exact L2.Paired.bI d.oX λ_ _ e=>e.out o λa D e=>d.tup e
  cases hj:d.uK with
  |no J T=>
   rw[J] at N;refine⟨_,rfl,l.h,C,B,_,_,rfl,N,i.cls,i.jk,rfl,rfl,_,rfl,bW (aT ?_)⟩;exact mk l H2 rfl (ux G) (fD.refl _ _) (λ_ _ e _=>e) (.no J T)
  |at_ jl st J T ja W len fR=>
   have R:=N;rw[J] at R;have Ex:=ja.i6 G fR (d.KY ja W) λa D e z=>d.tup e (Yt _ z);obtain⟨dj,ej⟩:=Ex.obj;have wf:=W.wf;have ml:=wf.TR;have AY:=wf.C0;have n8:L.length<=8:=ok.gd.2.2.2.2;refine⟨_,rfl,l.h,C,B,_,_,rfl,R,i.cls,i.jk,rfl,rfl,_,rfl,cZ ?_⟩;refine⟨_,rfl,l.h,C,B,_,_,rfl,R,i.cls,i.jk,rfl,jl.J,dj,_,rfl,ej,rfl,jl,st,L.length,rfl,Ex,eL n8 (by decide),by omega,ml,AY,wf.ll,λz=>Wc _ (wf.lm _ z),λz=>Wc _ (wf.lf _ z),λiU H3 k1 o3 gr Nv=>?_⟩;refine mk {l with fE:=iU.fp} H3 rfl (UW T G o3) (TZ T G gr) (λa u e m=>o3 _ _ e (fR a m)) ?_;refine .at_ iU _ (by rw[k1];exact J) rfl Nv (W.more (by have:=ok.gd.2.2.2.1;omega)) ?_ λa m z=>?_;·rw[jR,len,Yl];rfl
   ·rcases gr a z with y|y;·exact fR a m y
    ·have:=d.there (a:=a) (Yt _ m);have:H2 a≠aG:=by
      have m':a∈l.own:=m;unfold BL.own at m';simp only[Yq,Y3,hI] at m';rcases m' with rfl|rfl|rfl|rfl|rfl|rfl|rfl|rfl;·rw[N];exact λz=>nomatch z
      ·rw[s2];exact λz=>nomatch z
      ·rw[p2];exact λz=>nomatch z
      ·rw[j d.facts (λz=>tN z.symm) (λz=>vO z.symm)];exact λz=>nomatch z
      ·rw[j d.known (λz=>vR z.symm) (λz=>vP z.symm)];exact λz=>nomatch z
      ·rw[j d.parents (λz=>vS z.symm) (λz=>vQ z.symm)];exact λz=>nomatch z
      ·rw[j d.done (λz=>yz z.symm) (λz=>yx z.symm)];exact λz=>nomatch z
      ·rw[j d.jv (λz=>yA z.symm) (λz=>yy z.symm)];exact λz=>nomatch z
     exact this y
 |fin z c X fg nz nk np lv lim=>
  refine⟨_,rfl,r,_,rfl,az.of X,_,rfl,bW ?_⟩;refine⟨_,rfl,l.h,B,_,rfl,h1,rfl,_,rfl,l,b,L,ys,r,z,c,rfl,d,X,nz,nk,np,r0 lim,λH1 o1 f1 k1 p1=>?_⟩;have j:∀{a:Z} {o:HO},H a=U o->a≠l.fc->a≠l.kn->a≠l.pr->H1 a=U o:=λ{a o} e n1 n2 n3=>o1 _ _ e (by simp[n1,n2,n3]);have G:Out l.own H H1:=λa u e na=>j e (λz=>na (by rw[z];simp[BL.own])) (λz=>na (by rw[z];simp[BL.own])) (λz=>na (by rw[z];simp[BL.own]));have N:=j h1 jM oy q5;have X9:=nd;simp only[Y0,Yq,Y3,hI,iz] at X9;obtain⟨_,_,_,⟨A1,A2,yB,lD⟩,⟨Ey,A3,A4⟩,⟨A5,A6⟩,_⟩:=X9;have s2:=j d.dq vO vP vQ;have p2:=j d.places tN vR vS;have d2:=j d.done (λz=>yB z.symm) (λz=>A3 z.symm) (λz=>A5 z.symm);have u2:=j d.jv (λz=>lD z.symm) (λz=>A4 z.symm) (λz=>A6 z.symm);have tp:∀{a:Z} {D:O V} {H3:Hp},Out l.fp H H3->H a=U (.tup D)->H3 a=U (.tup D):=λo e=>o _ _ e (d.tup e);have mk:∀(jf:O Z) (H3:Hp),Out l.fp H H3->fD l.fp ({l with bY:=l.bY++[r],fE:=jf}:BL).fp H->(∀a u,H1 a=U u->a∈l.own->H3 a=U u)->u5 H3 CJ L.length {l with bY:=l.bY++[r],fE:=jf} {b with fs:=b.fs++[(z,c)]}->Q .aE H3:=λjf H3 o g k rk=>by
   refine q {l with bY:=l.bY++[r],fE:=jf} H3 ⟨rfl,o,g⟩ ?_;refine d.build (l':={l with bY:=l.bY++[r],fE:=jf}) (b':={b with fs:=b.fs++[(z,c)]}) rfl rfl rfl rfl rfl rfl rfl rfl rfl o g ⟨B,k _ _ N (by simp[BL.own])⟩ (k _ _ s2 (by simp[BL.own])) (k _ _ p2 (by simp[BL.own])) (k _ _ f1 (by simp[BL.own])) ?_ (k _ _ k1 (by simp[BL.own])) (k _ _ p1 (by simp[BL.own])) (k _ _ d2 (by simp[BL.own])) (L2.Paired.bI d.mY λ_ _ e=>e.out o λa D e=>d.tup e) (k _ _ u2 (by simp[BL.own])) (L2.Paired.bI d.oX λ_ _ e=>e.out o λa D e=>d.tup e) rk;exact kq (F:=λa (p:Nat×Fc)=>H3 a=U (.tup ((eS b.ps p.1 p.2).map kV))) (tp o X) (L2.Paired.bI d.fact λ_ _ e=>tp o e)
  cases hj:d.uK with
  |no J T=>
   rw[J] at N;refine⟨_,rfl,l.h,C,B,_,_,rfl,N,i.cls,i.jk,rfl,rfl,_,rfl,bW (aT ?_)⟩;exact mk l.fE H1 (ux G) (fD.refl _ _) (λ_ _ e _=>e) (.no J T)
  |at_ jl st J T ja W len fR=>
   have R:=N;rw[J] at R;have Ex:=ja.i6 G fR (d.KY ja W) λa D e z=>d.tup e (Yt _ z);have la2:iY H1 CL l.L L ys:=d.land H1 (ux G);refine⟨_,rfl,l.h,C,B,_,_,rfl,R,i.cls,i.jk,rfl,rfl,_,rfl,cZ ?_⟩;refine⟨_,rfl,l.h,C,B,_,_,rfl,R,i.cls,i.jk,rfl,_,rfl,l.h,C,B,_,_,rfl,R,i.cls,i.sr,rfl,_,rfl,l.h,C,B,_,_,rfl,R,i.cls,i.rR,rfl,_,rfl,jl,st,l.L,l.pl,r,L,ys,b.ps,b.F,z,c,rfl,Ex,W,la2,ok.gd,p2,ok.nm,len,by have:=ok.m;omega,tp (ux G) X,fg,?_,λv iU aO H3 e1 sub o3 Nv me3 Zko=>?_⟩
   ·obtain⟨f0,i0,s0⟩:=lv;exact⟨f0,(W.iff f0).mpr ⟨by rw[len];exact i0,λc' m'=>s0 c' (Yt _ m')⟩,s0 c (Ys _ Yk)⟩
   have gr:fD jl.fp iU.fp H1:=λa z=>.inl (sub a z);refine mk iU.fp H3 (UW T G o3) (TZ T G gr) (λa u e m=>o3 _ _ e (fR a m)) ?_;refine .at_ iU aO (by rw[e1];exact J) rfl Nv ?_ (by rw[Zko];exact len) λa m z=>fR a m (sub a z);show dR L.length aO ((b.fs++[(z,c)]).map (·.2));rw[Yo];exact me3
def QV{l b:BL}(d:b.own=l.own)(c:b.fE=[]):fD l.fp b.fp H:=λa z=>.inl (by
 unfold BL.fp at z;rw[d,c,We] at z;exact Yt _ z)
def yU:aP ["self","row","number","kind","one","other"] xY (aJ Fn):=.aY
theorem Zcl(F:aM K "take_out" "Hearth.take_out" Fn f fd)(g:fG K C)(jQ:mg "PARENTS"=U (.ref eI))(qP:∀H,az K H eI (jD.map V.str))(wI:HasFn P w K mg I 1 "is_person" kh (H_ K))(qa:HasFn P w K mg I 1 "fact_key" xW C1):aB P w K mg I aL 2 f fd xY (P5 C CL CJ):=by
 refine F.o yU @λbw A outer vs Q E s H T h=>?_;obtain⟨l,b,b',xs,ys,r,rfl,d,ok,mv,q⟩:=h;refine⟨_,(aj (aR (e_ (aQ wI T (aa (pv 1) ae))) ia (aj (oU (pv 1) (jt (K:=K) (n:=4) rfl rfl (bX (bG 2 yU.nd) (bX (bG 3 yU.nd) (bX (bG 4 yU.nd) (bX (bG 5 yU.nd) jr)))))) (aj (Zfo (pF K 0) (pv 2)) (aj (Qz (bF T) (pF K 0) (aQ qa T (aa (pv 3) (aa (pv 4) (aa (pv 5) ae))))) (au (aR (fY (lJ (K:=K) rfl) (pv 3) (dA (v:=.ref eI) rfl jQ rfl) (by with_unfolding_all rfl)) (au (Qz (bF T) (pF K 0) (cU (aa (pv 3) (aa (pv 4) ae))))) aW)))))) (au (iD (K:=K) rfl (pv 0) nL))),?_⟩;obtain⟨k,G⟩:=d.obj;have sz:(10000:Nat)<=sizeLine:=by rw[dU];decide
 have nd:=d.nd;unfold BL.own at nd;simp only[Y0,Yq,Y3,hI,iz] at nd;obtain⟨⟨lV,cz,D,N,q5,pN,q_⟩,⟨A0,vO,vP,vQ,yx,yy⟩,⟨tN,vR,vS,yz,yA⟩,⟨A1,A2,yB,lD⟩,⟨Ey,A3,A4⟩,⟨A5,A6⟩,_⟩:=nd;cases mv with
 |xX z c hR m=>
  have al:(b.fs.map (·.1)).length=l.bY.length:=by rw[Ya];exact(de d.fact).symm
  obtain⟨fa,Ez,_⟩:=Kk (H:=H) (ps:=b.ps) d.fact ok.zs m;have Zjq:(gm b.ps b.fs).map (·.1)=b.keys:=by unfold gm BS.keys;rw[Y7];rfl
  refine⟨_,rfl,r,_,rfl,az.of hR,_,rfl,bW ?_⟩;refine⟨_,rfl,r,_,rfl,az.of hR,rfl,_,_,rfl,a_ ⟨_,_,rfl,a_ ⟨_,_,rfl,a_ ⟨_,_,rfl,a_ ⟨rfl,?_⟩⟩⟩⟩⟩;refine⟨_,rfl,l.h,C,k,_,_,rfl,G,g.cls,g.rY,rfl,_,rfl,l.fc,_,.inl (z:Int),rfl,d.facts,rfl,by rw[Ez];rfl,λH1 b1 e1=>?_⟩;rw[BB z al,←qi] at e1;refine⟨_,rfl,l.h,C,k,_,_,rfl,b1 _ _ G D,g.cls,g.Cn,rfl,_,rfl,_,rfl,_,rfl,c.k,av b.ps c.one,bu b.ps c,rfl,λe=>Sl e,λp H2 yv g2 dJ=>?_⟩;refine⟨l.kn,p,_,gf b.ps c,rfl,g2 _ _ (b1 _ _ d.known (λz=>A1 z.symm)),rfl,dJ,(zy _ _).mpr (by rw[Zjq];exact Yf.mpr ⟨_,m,rfl⟩),λH3 b3 e3=>?_⟩;rw[ZfH ok.zs ok.ky m] at e3;have B:∀{a:Z} {o:HO},H a=U o->a≠l.fc->a≠l.kn->H3 a=U o:=λ{a o} e n1 n2=>b3 _ _ (g2 _ _ (b1 _ _ e n1)) n2;have ef3:=b3 _ _ (g2 _ _ e1) A1;have AZ:=B d.parents (λz=>A2 z.symm) (λz=>Ey z.symm);have i:∀t,(∀{a:Z} {o:HO},H3 a=U o->a≠l.pr->t a=U o)->t l.pr=U (.dT (cF b.ps (c7 z b.fs)))->∀H6,aF l.h t H6->H6 l.h=U (.ins C k (HF l.L l.sd l.pl l.fc l.kn l.pr (b.co:Int) l.dn l.un .aE))->Q .aE H6:=λt x W H6 j J=>by
   have y:∀{a:Z} {o:HO},H a=U o->a≠l.fc->a≠l.kn->a≠l.pr->a≠l.h->H6 a=U o:=λ{a o} e n1 n2 n3 n4=>j _ _ (x (B e n1 n2) n3) n4;have o6:Out l.own H H6:=λa u e R=>y e (λz=>R (by rw[z];simp[BL.own])) (λz=>R (by rw[z];simp[BL.own])) (λz=>R (by rw[z];simp[BL.own])) (λz=>R (by rw[z];simp[BL.own]));have of:=ux o6;have tp:∀{a:Z} {L:O V},H a=U (.tup L)->H6 a=U (.tup L):=λe=>of _ _ e (d.tup e);refine q {l with rk:=.aE,fE:=[],bY:=eP (b.fs.map (·.1)) l.bY z} H6 ⟨rfl,of,QV rfl rfl⟩ ?_;exact d.build (l':={l with rk:=.aE,fE:=[],bY:=eP (b.fs.map (·.1)) l.bY z}) (b':={b with fs:=c7 z b.fs}) rfl rfl rfl rfl rfl rfl rfl rfl rfl of (QV rfl rfl) ⟨k,J⟩ (y d.dq vO vP vQ (λz=>lV z.symm)) (y d.places tN vR vS (λz=>cz z.symm)) (j _ _ (x ef3 A2) (λz=>D z.symm)) (HZ d.fact λa p e _ _=>tp e) (j _ _ (x e3 Ey) (λz=>N z.symm)) (j _ _ W (λz=>q5 z.symm)) (y d.done (λz=>yB z.symm) (λz=>A3 z.symm) (λz=>A5 z.symm) (λz=>pN z.symm)) (L2.Paired.bI d.mY λ_ _ e=>e.out of λa L e=>d.tup e) (y d.jv (λz=>lD z.symm) (λz=>A4 z.symm) (λz=>A6 z.symm) (λz=>q_ z.symm)) (L2.Paired.bI d.oX λ_ _ e=>e.out of λa L e=>d.tup e) (.no rfl rfl)
  refine⟨_,rfl,eI,_,rfl,.inr (qP _),rfl,rfl,_,rfl,?_⟩;dsimp only;rw[bt Yh,show eQ (kV (Sum.inr c.k)) (jD.map V.str)=cW c.k from Cr c.k];refine bc (λX=>?_) (λX=>aT ?_)
  ·refine⟨_,rfl,l.h,C,k,_,_,rfl,B G D N,g.cls,g.xf,rfl,_,rfl,_,rfl,by show 2<=sizeLine;decide,λp4 H4 np4 g4 Nu=>?_⟩;refine⟨l.pr,p4,_,[.inr c.k,.inr (av b.ps c.one)],rfl,g4 _ _ AZ,rfl,Nu,(zy _ _).mpr ?_,λt b5 W=>?_⟩
   ·unfold cF;rw[Y7];exact Yf.mpr ⟨(z,c),Y5.mpr ⟨m,X⟩,rfl⟩
   rw[ZfI ok.zs ok.pr m X] at W;have x:∀{a:Z} {o:HO},H3 a=U o->a≠l.pr->t a=U o:=λ{a o} e n=>b5 _ _ (g4 _ _ e) n;refine⟨_,rfl,l.h,C,k,_,rfl,x (B G D N) q5,g.cls,g.jk,by show 10<1000;decide,λH6 j J=>?_⟩;exact i t x W H6 j J
  ·have ef:cW c.k=a8:=by
    cases e:cW c.k with
    |true=>exact absurd e X
    |false=>rfl
   refine⟨_,rfl,l.h,C,k,_,rfl,B G D N,g.cls,g.jk,by show 10<1000;decide,λH6 j J=>?_⟩;exact i H3 (λe _=>e) (by rw[←Zen ok.zs m ef];exact AZ) H6 j J
abbrev pd:O ar:=["self","way","row","coming"]
def Zaz:aP pd pd (aJ FX):=.aY
def ZfJ(F:aM K "shift" "Hearth.shift" FX f fd)(x:fG K C)(qk:mg "PUT_IN"=U (.int 1 t1))(FJ:b_ P w K mg I 8 "put_in" C xY (Sj C CL CJ))(Fp:b_ P w K mg I 2 "take_out" C xY (P5 C CL CJ)):aB P w K mg I aL 9 f fd pd (Sk C CL CJ):=by
 refine F.o Zaz @λbw A B vs Q E s H T h=>?_;obtain⟨l,b,n,t,p,r,L,G,rfl,J,ok,mv,q⟩:=h;refine⟨_,(aj (aR (bp bZ (pv 1) (dA (v:=.int (1)) rfl qk ⟨_,rfl⟩)) (au (cE (cJ FJ T (by decide) (pv 0) (aa (pv 2) ae)))) (au (cE (cJ Fp T (by decide) (pv 0) (aa (pv 2) ae))))) (au (iD (K:=K) rfl (pv 0) (pv 3)))),?_⟩;obtain⟨dx,W⟩:=J.obj;have R:∀(c:BL) (g:Hp),bP H g l c->bb g C CL CJ c t p n->∀(i:Z) (H2:Hp),g c.h=U (.ins C i (HF c.L c.sd c.pl c.fc c.kn c.pr (n.co:Int) c.dn c.un c.rk))->aF c.h g H2->H2 c.h=U (.ins C i (HF c.L c.sd c.pl c.fc c.kn c.pr (G:Int) c.dn c.un c.rk))->Q .aE H2:=λc g m d i H2 o j e2=>by
  have D:=d.nd;unfold BL.own at D;simp only[Y0,Yq,Y3,hI,iz] at D;obtain⟨⟨lV,cz,jM,oy,q5,pN,q_⟩,_⟩:=D;have N:Out c.own g H2:=λa u e na=>j _ _ e (λz=>na (by rw[z];simp[BL.own]));have of:=ux N;have tO:=(d.owned (b':={n with co:=G}) rfl rfl rfl rfl rfl rfl rfl rfl rfl (.inl ⟨rfl,rfl,rfl,rfl⟩) N ⟨i,e2⟩ (j _ _ d.dq (λz=>lV z.symm)) (j _ _ d.places (λz=>cz z.symm)) (j _ _ d.facts (λz=>jM z.symm)) (L2.Paired.bI d.fact λ_ _ e=>(λe=>of _ _ e (d.tup e)) e) (j _ _ d.known (λz=>oy z.symm)) (j _ _ d.parents (λz=>q5 z.symm)) (j _ _ d.done (λz=>pN z.symm)) (L2.Paired.bI d.mY λ_ _ e=>e.out of λ a us=>d.tup) (j _ _ d.jv (λz=>q_ z.symm)) (L2.Paired.bI d.oX λ_ _ e=>e.out of λa us e=>d.tup e)).1;exact q c H2 (m.trans ⟨rfl,of,fD.refl _ _⟩) tO
 have X:∀(c:BL) (g:Hp),bP H g l c->bb g C CL CJ c t p n->∃i,g l.h=U (.ins C i (HF c.L c.sd c.pl c.fc c.kn c.pr (n.co:Int) c.dn c.un c.rk))/\∀H2,aF l.h g H2->H2 l.h=U (.ins C i (HF c.L c.sd c.pl c.fc c.kn c.pr (G:Int) c.dn c.un c.rk))->Q .aE H2:=λc g m d=>by
  obtain⟨i,o⟩:=d.obj;have eh:=m.h
  grind
 have y:L=1\/L=-1:=by cases mv<;>first|exact .inl rfl|exact .inr rfl
 rcases y with rfl|rfl
 ·refine⟨_,rfl,rfl,_,rfl,cZ ?_⟩;refine⟨_,rfl,l.h,dx,_,rfl,W,rfl,_,rfl,l,b,n,t,p,r,rfl,J,ok,mv,λc g m d=>?_⟩;obtain⟨i,o,k⟩:=X c g m d;exact⟨_,rfl,_,rfl,l.h,C,i,_,rfl,o,x.cls,x.rS,by show 10<1000;decide,k⟩
 ·refine⟨_,rfl,rfl,_,rfl,bW ?_⟩;refine⟨_,rfl,l.h,dx,_,rfl,W,rfl,_,rfl,l,b,n,t,p,r,rfl,J,ok,mv,λc g m d=>?_⟩;obtain⟨i,o,k⟩:=X c g m d;exact⟨_,rfl,_,rfl,l.h,C,i,_,rfl,o,x.cls,x.rS,by show 10<1000;decide,k⟩
def Zaf:aP pd pd (aJ Ft):=.aY
def Zdk(F:aM K "do_deed" "Hearth.do_deed" Ft f fd)(g:fG K C)(F0:b_ P w K mg I 9 "shift" C pd (Sk C CL CJ)):aB P w K mg I aL 10 f fd pd (B9 C CL CJ):=by
 refine F.o Zaf λs H hr h=>?_;obtain⟨l,b,b',xs,ys,r,D,N,x,rfl,c,ok,dl,hR,mv,q⟩:=h;refine⟨_,(aj (cE (qu (K:=K) rfl (mP jo lr lp rG (pF K 0) (aa (cU (aa (pv 1) (aa (pv 2) (aa (pF K 0) (aa (pv 3) ae))))) ae)))) (aj (cE (Zgw (K:=K) rfl (Zhs jo PySem.F.slot_list_clear PySem.F.type_list_clear Zd4 (pF K 0)))) (au (cE (cJ F0 hr (by decide) (pv 0) (aa (pv 1) (aa (pv 2) (aa (pv 3) ae)))))))),?_⟩;obtain⟨j,i⟩:=c.obj;have sz:(10000:Nat)<=sizeLine:=by rw[dU];decide
 have A:=c.nd;unfold BL.own at A;simp only[Y0,Yq,Y3,hI,iz] at A;obtain⟨⟨lV,cz,jM,oy,q5,y,E⟩,⟨A0,vO,vP,vQ,X,W⟩,⟨tN,vR,vS,T,yA⟩,⟨A1,A2,yB,lD⟩,⟨Ey,A3,A4⟩,⟨A5,A6⟩,R,_⟩:=A;have dal:=de c.mY;refine⟨_,rfl,l.h,C,j,_,_,rfl,i,g.cls,g.TU,rfl,.inl ⟨rfl,_,aq.of c.done⟩,?_⟩;refine⟨_,rfl,_,rfl,_,rfl,l.h,C,j,_,_,rfl,i,g.cls,g.rS,rfl,_,rfl,by show 4<=sizeLine;decide,λp H1 m n e1=>?_⟩;refine⟨l.dn,_,_,rfl,rfl,n _ _ c.done,by rw[Ya];omega,λH2 t e2=>?_⟩;have a1:=t _ _ (n _ _ i) y;have Q:=t _ _ (n _ _ c.jv) (λz=>R z.symm);refine⟨_,rfl,l.h,C,j,_,_,rfl,a1,g.cls,g.QP,rfl,.inl ⟨rfl,_,aq.of Q⟩,l.un,_,rfl,rfl,Q,λH3 B e3=>?_⟩;have d:∀{a:Z} {o:HO},H a=U o->a≠l.dn->a≠l.un->H3 a=U o:=λ{a o} e n1 n2=>B _ _ (t _ _ (n _ _ e) n1) n2;have G:Out l.own H H3:=λa u e J=>d e (λz=>J (by rw[z];simp[BL.own])) (λz=>J (by rw[z];simp[BL.own]));have of:=ux G;have v:∀{a:Z} {k:O V},H a=U (.tup k)->H3 a=U (.tup k):=λe=>of _ _ e (c.tup e);have pu:p≠l.un:=λz=>by rw[z,c.jv] at m;cases m
 have ed:H3 l.dn=U (.lst ((l.ji++[p]).map V.ref)):=by rw[Yo];exact B _ _ e2 R
 have L:=(c.owned (l':={l with ji:=l.ji++[p],lU:=[]}) (b':={b with dn:=b.dn++[⟨D,x,b.co,N⟩],un:=[]}) rfl rfl rfl rfl rfl rfl rfl rfl rfl (.inl ⟨rfl,rfl,rfl,rfl⟩) G ⟨j,d i y E⟩ (d c.dq X W) (d c.places T yA) (d c.facts yB lD) (L2.Paired.bI c.fact λ_ _ e=>v e) (d c.known A3 A4) (d c.parents A5 A6) ed (kq (F:=oW H3) ⟨r,B _ _ (t _ _ e1 (λz=>by rw[z,c.done] at m;cases m)) pu,v hR⟩ (L2.Paired.bI c.mY λ_ _ e=>e.out of λa k e=>c.tup e)) e3 .nil);have h3:=d i y E;refine⟨_,rfl,l.h,j,_,rfl,h3,rfl,_,rfl,_,rfl,_,rfl,{l with ji:=l.ji++[p],lU:=[]},_,_,xs,ys,r,D,N,rfl,L.1,⟨ok.gd,ok.nm,ok.m,ok.fl,ok.fg,ok.zs,ok.lt,ok.ky,ok.pr,ok.lv,by show(b.dn++[_]).length<=200;rw[Yl];show b.dn.length+1<=200;exact mR dl,Yx _⟩,((mv.Zjo _ _).out λk e=>v e),λl' H4 wt Nx=>?_⟩;exact q l' H4 (bP.trans (l1:={l with ji:=l.ji++[p],lU:=[]}) ⟨rfl,of,L.2⟩ wt) Nx
def cH.Zkp(j:cH H C n l st)(h:a∈l.bY):∃b,H a=U (.lst b):=by
 obtain⟨p,e⟩:=zf j.free h
 grind
def cH.vT(j:cH H C n l st)(e:H a=U o)(p:∀c,o≠.lst c)(m:∀c,o≠.tup c)(r:a∉l.fp)(i:aF a H k):cH k C n l st:=by
 refine j.i6 (fp:=[a]) (λb u g h=>i _ _ g λz=>h (by rw[z];exact Yk)) (λb d=>?_) (λb d z=>?_) λb c g z=>?_;·grind
 ·rw[Ym.mp d] at z;obtain⟨c,q⟩:=j.Zkp z
  grind
 ·grind
inductive qF(H:Hp)(C CJ g d:Z)(l:BL)(b:BS)(n:Nat)(J:Z)(F:O Fc)(m:Nat)(c:Hp):Prop
 |mk (e:JL) (st:JS) (k:e.J=J) (keep:∀a u,H a=U u->a≠l.h->a≠d->c a=U u) (h:c l.h=U (.ins C g (HF l.L l.sd l.pl l.fc l.kn l.pr (b.co:Int) l.dn l.un (.ref J)))) (j:cH c CJ n e st) (i:dR n st F) (len:st.hd.length=m) (new:∀a∈e.fp,H a=aG):qF H C CJ g d l b n J F m c
def qF.vT(j:qF H C CJ E d l b n J F m k)(A:H c≠aG)(e:k c=U o)(q:∀g,o≠.lst g)(p:∀g,o≠.tup g)(r:c≠l.h)(i:aF c k H7)(G:∀u,H d=U u->d≠c->d≠l.h->H7 d=U u):qF H C CJ E c l b n J F m H7:=by
 obtain⟨x,st,D,keep,h,y,v,len,new⟩:=j;refine⟨x,st,D,λa u B t s=>?_,i _ _ h (λz=>r z.symm),y.vT e q p (λz=>A (new _ z)) i,v,len,new⟩;by_cases z:a=d;·grind
 ·exact i _ _ (keep a u B t z) s
theorem P6:∀{c:O Nat} {as:O Z} {i:Nat} {k:Key} {y:V},(bq c as)[i]?=U (k,y)->∃a,as[i]?=U a/\y=.ref a
 |[],as,i,k,y,h=>by
  unfold bq at h;simp at h
 |_::_,[],i,k,y,h=>by
  unfold bq at h;simp at h
 |q::c,a::as,0,k,y,h=>by
  injection(Yn h) with _ e
  grind
 |q::c,a::as,i+1,k,y,h=>by
  have g:bq (q::c) (a::as)=(Sum.inl (q:Int),V.ref a)::bq c as:=rfl;rw[g] at h;have d:(bq c as)[i]?=U (k,y):=by simpa using h
  obtain⟨b,j,e⟩:=P6 d
  grind
inductive zG(C CL CJ:Z)(i:O V)(H:Hp)(Q:VK)(E:XK):Prop
 |mk (l:BL) (b:BS) (d h:O Int) (k:i=[.ref l.h]) (j:bb H C CL CJ l d h b) (ok:cI d h b) (q:∀(c:BL) (e:JL) (st:JS) (g:Hp),bP H g l c->bb g C CL CJ c d h b->c.rk=.ref e.J->c.fE=e.fp->cH g CJ d.length e st->dR d.length st b.F->st.hd.length=b.ps.length->(∀a∈c.own,a∉e.fp)->(l.rk≠.aE->g=H/\c=l)->Q (.ref e.J) g)
def FK:aP ["self","name","fact"] fP (aJ FW):=.aY
theorem ZfK(F:aM K "joins" "Hearth.joins" FW f fd)(t:fG K C)(lc:uJ K CL)(Kl:xJ P w K mg I 1 "Joins" CJ Dj (R5 CJ))(wJ:b_ P w K mg I 2 "add" CJ fP (Lo CJ))(wK:HasFn P w K mg I 6 "keep_fact" u6 (Kj CL CJ)):aB P w K mg I aL 8 f fd fP (zG C CL CJ):=by
 refine F.o FK λs H hr h=>?_;obtain⟨l,b,X,ys,rfl,g,ok,q⟩:=h;refine⟨_,(aj (aR (bp Ks (pF K 0) nL) (aj (iD (K:=K) rfl (pv 0) (Lg Kl hr (by decide) rfl (aa (xw (K:=K) rfl (pF K 0) rfl) ae))) (aj (OY (H0:=H) rfl hY rfl (RV (H0:=H) rfl (pF K 0)) (bG 1 FK.nd) (au (cE (qt wJ hr (by decide) (pF K 0))))) (au (Zc2 (H0:=H) rfl hY rfl (Zgz (H0:=H) rfl (pF K 0)) (bG 2 FK.nd) (au (cE (aQ wK hr (aa (pF K 0) (aa (pF K 0) (aa (pF K 0) (aa (pv 2) ae))))))))))) aW) (au (aH (pF K 0)))),?_⟩;obtain⟨A,h1⟩:=g.obj;have n8:X.length<=8:=ok.gd.2.2.2.2;have n0:0<X.length:=by have:=ok.gd.2.2.2.1;omega
 have nd:=g.nd;unfold BL.own at nd;simp only[Y0,Yq,Y3,hI,iz] at nd;obtain⟨⟨lV,cz,jM,oy,q5,pN,q_⟩,⟨A0,vO,vP,vQ,yx,yy⟩,⟨tN,vR,vS,yz,yA⟩,⟨A1,A2,yB,lD⟩,_⟩:=nd;cases hj:g.uK with
 |at_ p st j1 j2 Q G len fR=>
  have m8:=h1;rw[j1] at m8;refine⟨_,rfl,l.h,C,A,_,_,rfl,m8,t.cls,t.jk,rfl,rfl,_,rfl,bW (aT ?_)⟩;exact⟨_,rfl,l.h,C,A,_,_,rfl,m8,t.cls,t.jk,rfl,q l p st H (bP.of (ai.refl _)) g j1 j2 Q G len fR λ_=>⟨rfl,rfl⟩⟩
 |no j1 j2=>
  have m8:=h1;rw[j1] at m8;refine jV (λσ H6=>∃(J:Z) (D B:bR V),σ=[U (.ref l.h),D,B]/\qF H C CJ A l.h l b X.length J b.F b.ps.length H6) (λnx hn=>?_) ?_
  ·refine⟨_,rfl,l.h,C,A,_,_,rfl,m8,t.cls,t.jk,rfl,rfl,_,rfl,cZ ?_⟩;obtain⟨dL,dS,mo,fF,wi,im,jf,iw,ML,hL,_⟩:=g.landAt;refine⟨_,rfl,l.h,C,A,_,_,rfl,m8,t.cls,t.sr,rfl,l.L,CL,dL,_,_,rfl,hL,lc.cls,lc.uD,rfl,λx EB pO AQ EC=>?_⟩;have AR:upd H EB (.own x) x=aG:=by rw[aK (λz=>EC z.symm)];exact pO
   have X_:ai H (upd (upd H EB (.own x)) x (.ins CJ EB [])):=(cC AQ _).trans (cC AR _);refine⟨x,EB,X.length,rfl,aU,λNy H2 eJ1 em1 fr1 b2 ja1=>⟨rfl,?_⟩⟩;have f1:∀a∈Ny.fp,H a=aG:=λa ha=>by
    by_cases z:a=x;·rw[z];exact pO
    ·exact X_.free (fr1 a ha z)
   have g2:ai H H2:=λa o e=>b2 _ _ (X_ _ _ e) (cA e pO);refine⟨_,rfl,l.h,C,A,_,rfl,g2 _ _ m8,t.cls,t.jk,by show 10<1000;decide,λH3 b3 e3=>?_⟩;have YA:H3 l.h=U (.ins C A (HF l.L l.sd l.pl l.fc l.kn l.pr (b.co:Int) l.dn l.un (.ref x))):=e3;have Ew:l.h∉Ny.fp:=λz=>by have:=f1 _ z;rw[h1] at this;cases this
   have jm3:qF H C CJ A l.h l b X.length x [] 0 H3:=⟨Ny,_,eJ1,λa u e n1 _=>b3 _ _ (g2 _ _ e) n1,YA,ja1.vT (g2 _ _ m8) (λE z=>nomatch z) (λE z=>nomatch z) Ew b3,Zjn,rfl,f1⟩;have s3:H3 l.sd=U (.dK (gn b.ps)):=b3 _ _ (g2 _ _ g.dq) (λz=>lV z.symm);dsimp only;refine ib (λσ H6=>∃D B:bR V,σ=[U (.ref l.h),D,B]/\qF H C CJ A l.h l b X.length x [] b.ps.length H6) (λvU fS=>?_) ?_
   ·refine Qw (d:=l.sd) (kvs:=gn b.ps) (H1:=H3) (λR r=>⟨_,rfl,l.h,C,A,_,_,rfl,YA,t.cls,t.uu,rfl,r⟩) s3 (λi σ H6=>∃D B:bR V,σ=[U (.ref l.h),D,B]/\qF H C CJ A l.sd l b X.length x [] i H6) (λod=>⟨aG,aG,rfl,jm3.vT (by rw[g.dq];exact λz=>nomatch z) s3 (λE z=>nomatch z) (λE z=>nomatch z) (λz=>lV z.symm) (aF.put (aF.of (ai.refl _))) (λu _ _ z=>absurd rfl z)⟩) ?_ ?_
    ·rintro od i k y aC H6 N rt bk hk ⟨D,B,rfl,L⟩ fz hN;obtain⟨p,st,T,keep,j,Q,G,len,new⟩:=L;have il:i<b.ps.length:=by
      have:=(Yj.mp hk).1
      rwa [Ya] at this
     have im:=ok.m;obtain⟨dj,ej⟩:=Q.obj;have wf:=G.wf;have ml:=wf.TR;have AY:=wf.C0;refine a_ ?_;refine⟨_,rfl,l.h,C,A,_,_,rfl,j,t.cls,t.jk,rfl,p.J,dj,_,by rw[T],ej,rfl,p,st,X.length,by rw[T];rfl,Q,eL n8 (by decide),by omega,ml,AY,wf.ll,λz=>Wc _ (wf.lm _ z),λz=>Wc _ (wf.lf _ z),λiU H7 k1 o7 gr ja7=>?_⟩;have W:∀{a:Z} {u:HO},H a=U u->a∉p.fp:=λ{a u} e z=>by rw[new _ z] at e;cases e
     refine hN _ _ ⟨_,_,rfl,iU,_,k1.trans T,λa u e n1 n2=>o7 _ _ (keep a u e n1 n2) (W e),o7 _ _ j (W h1),ja7,G.more n0,by rw[jR,len],λa z=>?_⟩ (o7 _ _ fz (W g.dq));rcases gr a z with y|y;·exact new a y
     ·cases e:H a with
      |none=>rfl
      |some u=>
       by_cases z1:a=l.h;·rw[z1,j] at y;cases y
       ·by_cases z2:a=l.sd;·rw[z2,fz] at y;cases y
        ·rw[keep a u e z1 z2] at y;cases y
    ·rintro od aC H6 ⟨D,B,rfl,L⟩ fz;rw[Ya] at L;refine fS _ _ ⟨D,B,rfl,?_⟩;obtain⟨p,st,T,keep,j,Q,G,len,new⟩:=L;have W:l.sd∉p.fp:=λz=>by have:=new _ z;rw[g.dq] at this;cases this
     refine⟨p,st,T,λa u e n1 _=>?_,by rw[aK lV];exact j,Q.vT fz (λE z=>nomatch z) (λE z=>nomatch z) W (aF.put (aF.of (ai.refl _))),G,len,new⟩;by_cases z:a=l.sd
     ·subst z;rw[aU];rw[g.dq] at e;exact e
     ·rw[aK z];exact keep a u e n1 z
   ·rintro σ H6 ⟨D,B,rfl,L⟩;obtain⟨jl0,Zmj,eJ0,Zjr,Zkq,ja0,me0,len0,Zmk⟩:=id L;have f6:H6 l.fc=U (.dK (bq (b.fs.map (·.1)) l.bY)):=Zjr _ _ g.facts (λz=>jM z.symm) (λz=>jM z.symm);have al:=de g.fact;refine Zfn (d:=l.fc) (kvs:=bq (b.fs.map (·.1)) l.bY) (H1:=H6) (λR r=>⟨_,rfl,l.h,C,A,_,_,rfl,Zkq,t.cls,t.rY,rfl,r⟩) f6 (λi σ H6=>∃D B:bR V,σ=[U (.ref l.h),D,B]/\qF H C CJ A l.fc l b X.length x (b.F.take i) b.ps.length H6) (λod=>⟨D,B,rfl,L.vT (by rw[g.facts];exact λz=>nomatch z) f6 (λE z=>nomatch z) (λE z=>nomatch z) (λz=>jM z.symm) (aF.put (aF.of (ai.refl _))) (λu _ _ z=>absurd rfl z)⟩) ?_ ?_
    ·rintro od i k y aC H7 N rt bk hk ⟨D,B,rfl,L⟩ fz hN;obtain⟨fa,efa,rfl⟩:=P6 hk;obtain⟨⟨z,c⟩,YB,cY⟩:=fU g.fact efa;have mzc:=Yg YB;obtain⟨p,st,T,keep,j,Q,G,len,new⟩:=L;have W:∀{a:Z} {u:HO},H a=U u->a∉p.fp:=λ{a u} e z=>by rw[new _ z] at e;cases e
     have of:Out l.fp H H7:=λa u e n=>keep a u e (λz=>n (by rw[z];simp[BL.fp,BL.own])) (λz=>n (by rw[z];simp[BL.fp,BL.own]));have fg:=ok.fg _ mzc;have im:=ok.m;have ec:b.F[i]?=U c:=by unfold BS.F;rw[Ye,YB];rfl
     have tk:b.F.take (i+1)=b.F.take i++[c]:=by rw[Y1,ec];rfl
     refine a_ ?_;refine⟨_,rfl,l.h,C,A,_,_,rfl,j,t.cls,t.jk,rfl,_,rfl,l.h,C,A,_,_,rfl,j,t.cls,t.sr,rfl,_,rfl,l.h,C,A,_,_,rfl,j,t.cls,t.rR,rfl,_,rfl,p,st,l.L,l.pl,fa,X,ys,b.ps,b.F.take i,z,c,by rw[T];rfl,Q,G,g.land H7 of,ok.gd,keep _ _ g.places (λz=>cz z.symm) tN,ok.nm,len,eL im (by decide),of _ _ cY (g.tup cY),fg,?_,λv iU aO H8 e1 sub o8 ja8 me8 Zkr=>?_⟩
     ·obtain⟨f0,i0,s0⟩:=ok.lv;exact⟨f0,(G.iff f0).mpr ⟨by rw[len];exact i0,λc' m'=>s0 c' (List.mem_of_mem_take m')⟩,s0 c (Yg ec)⟩
     ·refine hN _ _ ⟨_,_,rfl,iU,aO,e1.trans T,λa u e n1 n2=>o8 _ _ (keep a u e n1 n2) (W e),o8 _ _ j (W h1),ja8,by rw[tk];exact me8,Zkr.trans len,λa z=>new a (sub a z)⟩ (o8 _ _ fz (W g.facts))
    ·rintro od aC H7 ⟨D,B,rfl,L⟩ fz;have dl:(bq (b.fs.map (·.1)) l.bY).length=b.F.length:=by
      unfold bq BS.F;rw[Ya,W8,Ya,Ya];omega
     rw[dl,Y8] at L;refine hn _ _ ⟨x,D,B,rfl,?_⟩;obtain⟨p,st,T,keep,j,Q,G,len,new⟩:=L;have W:l.fc∉p.fp:=λz=>by have:=new _ z;rw[g.facts] at this;cases this
     refine⟨p,st,T,λa u e n1 _=>?_,by rw[aK jM];exact j,Q.vT fz (λE z=>nomatch z) (λE z=>nomatch z) W (aF.put (aF.of (ai.refl _))),G,len,new⟩;by_cases z:a=l.fc
     ·subst z;rw[aU];rw[g.facts] at e;exact e
     ·rw[aK z];exact keep a u e n1 z
  ·rintro σ H6 ⟨J,D,B,rfl,L⟩;obtain⟨p,st,T,keep,j,Q,G,len,new⟩:=L;refine⟨_,rfl,l.h,C,A,_,_,rfl,j,t.cls,t.jk,rfl,?_⟩;have k6:∀{a:Z} {u:HO},H a=U u->a≠l.h->H6 a=U u:=λ{a u} e n=>keep a u e n n;have of:Out l.fp H H6:=λa u e n=>k6 e (λz=>n (by rw[z];simp[BL.fp,BL.own]));have tp:∀{a:Z} {E:O V},H a=U (.tup E)->H6 a=U (.tup E):=λe=>of _ _ e (g.tup e);have gr:fD l.fp ({l with rk:=.ref p.J,fE:=p.fp}:BL).fp H:=λa z=>by
    rcases Yu.mp (show a∈l.own++p.fp from z) with y|y;·exact .inl (Yt _ y)
    ·exact .inr (new a y)
   have fR:∀a∈l.own,a∉p.fp:=λa m z=>g.there (Yt _ m) (new a z);subst T;refine q {l with rk:=.ref p.J,fE:=p.fp} p st H6 ⟨rfl,of,gr⟩ ?_ rfl rfl Q G len fR λz=>absurd j1 z;exact g.build (l':={l with rk:=.ref p.J,fE:=p.fp}) (b':=b) rfl rfl rfl rfl rfl rfl rfl rfl rfl of gr ⟨A,j⟩ (k6 g.dq (λz=>lV z.symm)) (k6 g.places (λz=>cz z.symm)) (k6 g.facts (λz=>jM z.symm)) (L2.Paired.bI g.fact λ_ _ e=>tp e) (k6 g.known (λz=>oy z.symm)) (k6 g.parents (λz=>q5 z.symm)) (k6 g.done (λz=>pN z.symm)) (L2.Paired.bI g.mY λ_ _ e=>e.out of λa E e=>g.tup e) (k6 g.jv (λz=>q_ z.symm)) (L2.Paired.bI g.oX λ_ _ e=>e.out of λa E e=>g.tup e) (.at_ p st rfl rfl Q G len fR)
def hZ(z:ar)(c:Nat):cm:=!(Builtin.Str.occurrences z ⟨#[c]⟩ 0 z.length 1).isEmpty
abbrev ql:ar:="abcdefghijklmnopqrstuvwxyz"
abbrev nO:ar:="abcdefghijklmnopqrstuvwxyz0123456789"
def uM(z:ar):cm:=match z.cps.toList with
 |[]=>a8
 |c::r=>decide (z.length<=12)&&(hZ ql c&&(c::r).all (hZ nO))
def Zks(v:ar):v.cps.toList.length=v.length:=by simp[Str.length]
def ZgX{z:ar}(h:z.cps.toList=[]):z="":=by
 cases z with|mk a=>cases a with|mk l=>cases h;rfl
def ZfL(h:z.cps.toList=[]):uM z=a8:=by unfold uM;rw[h]
def P7(h:z.cps.toList=c::r):uM z=(decide (z.length<=12)&&(hZ ql c&&(c::r).all (hZ nO))):=by unfold uM;rw[h]
def QW:Sp:=λb H Q _=>∃z:ar,b=[.str z]/\z.length<=1000/\∀a,ai H a->Q (.bl (uM z)) a
def Zdl:aP ["text"] ["text"] (aJ IB):=.aY
theorem Zdm(F:aM K "is_name" "is_name" IB f fd)(A:mg "LONGEST_NAME"=U (.int 12 t1))(y:mg "LETTERS_OF_NAMES"=U (.str "abcdefghijklmnopqrstuvwxyz" E))(x:mg "SIGNS_OF_NAMES"=U (.str "abcdefghijklmnopqrstuvwxyz0123456789" t3))(l:Bl mg):
  aB P w K mg I aL 1 f fd ["text"] QW:=by
 refine F.o Zdl λs H G h=>?_;obtain⟨z,rfl,d,q⟩:=h;refine⟨_,(aj (aR (PW.pt (pw_or (bp bZ (pv 0) aV) (pw_or (bp CO (gQ (Zbr) rfl l.CW Cv (aa (pv 0) ae)) (dA (v:=.int (12)) rfl A ⟨_,rfl⟩)) (pw_or1 (fY Zbo (aI zK (pv 0) aw) (dA (v:=.str "abcdefghijklmnopqrstuvwxyz") rfl y ⟨_,rfl⟩) (by with_unfolding_all rfl)))))) (au (aH ku)) aW) (au (aH (gQ (Vu (K:=K) rfl rfl) rfl l.UE Te (aa (jS (fr:=[]) (cl:=[]) rfl (.ir trivial trivial) (Zh7 (pv 0)) (λ_ _ _ _=>nI) (λ_ _ _ _=>(Cd ZdJ (pv 0) (dA (v:=.str "abcdefghijklmnopqrstuvwxyz0123456789") rfl x ⟨_,rfl⟩) (by with_unfolding_all rfl)))) ae))))),?_⟩;have sz:(10000:Nat)<=sizeLine:=by rw[dU];decide
 cases a:z.cps.toList with
 |nil=>
  have e:=ZgX a;rw[ZfL a] at q;refine⟨_,rfl,rfl,_,rfl,bc (λ_=>?_) (λc=>absurd (d6 (by rw[e])) c)⟩;exact q H (ai.refl H)
 |cons c r=>
  have n:=Zks z;rw[a,Wi] at n;rw[P7 a] at q;refine⟨_,rfl,rfl,_,rfl,bc (λb=>?_) (λ_=>?_)⟩
  ·have e:=V.str.inj (fb b);have t:(Str.ofString "").cps.toList=[]:=by decide+kernel
   rw[e,t] at a;cases a
  refine⟨_,rfl,z,rfl,eL d (by decide),_,_,rfl,rfl,_,rfl,bc (λb=>?_) (λb=>?_)⟩
  ·have m:=fb b;rw[g_ (by omega:¬z.length<=12)] at q;exact q H (ai.refl H)
  have B:z.length<=12:=by
   grind
  rw[d6 B,J8] at q;refine⟨_,rfl,_,_,_,rfl,rfl,eL d (by decide),eZ (by rw[a];rfl),_,_,rfl,rfl,_,rfl,bc (λb=>?_) (λb=>aT ?_)⟩
  ·have m:hZ ql c=a8:=by
    have z:(!hZ ql c)=af:=b;cases e:hZ ql c;·rfl
    ·rw[e] at z;cases z
   rw[m,Xk] at q;exact q H (ai.refl H)
  have u:hZ ql c=af:=by
   cases e:hZ ql c;·exact absurd (show(!hZ ql c)=af by rw[e];rfl) b
   ·rfl
  rw[u,J8,←a] at q;refine⟨_,rfl,z,rfl,λD o=>Zd5 (eL d (by decide)) o (λc=>V.bl (hZ nO c)) (λi c J g j L k=>?_) λg j p=>?_⟩;·exact⟨_,rfl,_,_,rfl,rfl,k g (ai.refl _)⟩
  ·refine⟨D,z.cps.toList.map (hZ nO),rfl,aq.of (by rw[p,Y7];rfl),?_⟩;exact MS▸q g j
def dZ.more(h:dZ n m c)(l:m<=g):dZ n g c:=⟨by have:=h.one;exact hT this l,λe=>by obtain⟨⟨a,b⟩,d⟩:=h.iy e;exact⟨⟨a,hT b l⟩,d⟩⟩
def eB.more(h:eB xs a m c)(l:m<=b):eB xs a b c:=⟨h.ok.more l,h.kind,h.LV⟩
def ZiA{f g:Nat->Int}(a:dZ n m c)(e:∀i,i<m->g i=f i)(s:fH f c):fH g c:=⟨λh=>by rw[e _ a.one];exact s.1 h,λh=>by rw[e _ a.one,e _ (a.iy h).1.2];exact s.2 h⟩
section
variable {xs ys:O Int}{b:BS}
def cI.Zkt(a:cI xs ys b)(l:n∉b.ps.map (·.1))(o:b.ps.length<64)(r:b.co<=y)(x:t.length<=200)(j:un.length<=200):cI xs ys {b with ps:=b.ps++[(n,s)],co:=y,dn:=t,un:=un}:=by
 have e:=λp d=>(a.fg p d).ok;have len:(b.ps++[(n,s)]).length=b.ps.length+1:=by rw[Yl];rfl
 refine⟨a.gd,?_,by show(b.ps++[(n,s)]).length<=64;omega,a.fl,λp d=>?_,a.zs,λp d=>Y2 (a.lt p d) r,?_,?_,?_,x,j⟩
 ·show((b.ps++[(n,s)]).map (·.1)).Nodup;rw[Yo];refine W0.mpr ⟨a.nm,by simp,λu B v A z=>?_⟩
  grind
 ·exact len▸(a.fg p d).more (yd _)
 ·show(b.fs.map λp=>gf (b.ps++[(n,s)]) p.2).Nodup;rw[(Wo λp d=>by rw[Sg (e p d)])];exact a.ky
 ·show((cF (b.ps++[(n,s)]) b.fs).map (·.1)).Nodup;rw[Sh e];exact a.pr
 ·obtain⟨f,q,k⟩:=a.lv;refine⟨λi=>if i<b.ps.length then f i else 0,λi g=>?_,λc m=>?_⟩
  ·show 0<=(if i<b.ps.length then f i else 0)/\(if i<b.ps.length then f i else 0)<(xs.length:Int);by_cases h:i<b.ps.length;·rw[bS h];exact q i h
   ·rw[bt h];have:=a.gd.2.2.2.1
    grind
  ·obtain⟨p,d,rfl⟩:=Yf.mp m;exact ZiA (e p d) (λi g=>bS g) (k _ m)
theorem cI.Zku(g:cI xs ys b)(L:eB xs ys b.ps.length c)(o:z∉b.fs.map (·.1))(r:gf b.ps c∉b.keys)(q:cW c.k=af->[.inr c.k,.inr (av b.ps c.one)]∉(cF b.ps b.fs).map (·.1))(s:∃f,ny xs.length b.ps.length f/\∀h∈b.F++[c],fH f h)(t:b.fs.length<63)(B:b.co<=co)(H:z<co)(G:F.length<=200)(k:un.length<=200):cI xs ys {b with fs:=b.fs++[(z,c)],co:=co,dn:=F,un:=un}:=by
 have a:∀{i:Type} {l:O i} {x:i},l.Nodup->x∉l->(l++[x]).Nodup:=λ{i l x} E D=>W0.mpr ⟨E,by simp,λu J v A e=>by
  have:v=x:=by simpa using A
  exact D (by rwa[←this,←e])⟩
 refine⟨g.gd,g.nm,g.m,by show(b.fs++[(z,c)]).length<=63;rwa[Yl],λp d=>?_,?_,λp d=>?_,?_,?_,?_,G,k⟩
 ·rcases Yu.mp d with d|d;·exact g.fg p d
  ·rwa[Ym.mp d]
 ·show((b.fs++[(z,c)]).map (·.1)).Nodup;exact Yo▸a g.zs o
 ·rcases Yu.mp d with d|d;·exact Y2 (g.lt p d) B
  ·rwa[Ym.mp d]
 ·show((b.fs++[(z,c)]).map λp=>gf b.ps p.2).Nodup;exact Yo▸a g.ky r
 ·show((cF b.ps (b.fs++[(z,c)])).map (·.1)).Nodup;cases e:cW c.k with
  |true=>rw[QT e,Yo];exact a g.pr (q e)
  |false=>rw[QU e];exact g.pr
 ·obtain⟨f,y,n⟩:=s;refine⟨f,y,λh m=>n h ?_⟩;have j:h∈(b.fs++[(z,c)]).map (·.2):=m;rw[Yo] at j;exact j
def cI.drop(a:cI xs ys b)(z:Nat)(i:b.co<=l)(k:j.length<=200)(e:un.length<=200):cI xs ys {b with fs:=c7 z b.fs,co:=l,dn:=j,un:=un}:=by
 have sub:(c7 z b.fs).Sublist b.fs:=YE;refine⟨a.gd,a.nm,a.m,Yz sub.length_le a.fl,λp d=>a.fg p (sub.subset d),a.zs.sublist (sub.map _),λp d=>Y2 (a.lt p (sub.subset d)) i,a.ky.sublist (sub.map _),?_,?_,k,e⟩
 ·show((cF b.ps (c7 z b.fs)).map (·.1)).Nodup;refine a.pr.sublist ?_;unfold cF
  grind
 ·obtain⟨f,h,g⟩:=a.lv;exact⟨f,h,λc m=>g c ((sub.map _).subset m)⟩
end
def BS.Lr(b:BS)(n s:ar):BS:={b with ps:=b.ps++[(n,s)],co:=b.co,dn:=b.dn++[⟨1,[.inr n,.inr s],b.co,b.co⟩],un:=[]}
def BS.zY(b:BS)(c:Fc):BS:={b with fs:=b.fs++[(b.co,c)],co:=b.co+1,dn:=b.dn++[⟨1,eS b.ps b.co c,b.co,b.co+1⟩],un:=[]}
def BS.without(b:BS)(z:Nat)(c:Fc):BS:={b with fs:=c7 z b.fs,co:=b.co,dn:=b.dn++[⟨-1,eS b.ps z c,b.co,b.co⟩],un:=[]}
def KZ(s:ar):cm:=eQ (.str s) [.str "man",.str "woman"]
structure LW(b:BS)(n s:ar):Prop where
 Zkv:uM n=af
 side:KZ s=af
 new:n∉b.ps.map (·.1)
 lim:b.ps.length<64
 nl:n.length<=1000
structure Dq(xs ys:O Int)(b:BS)(c:Fc):Prop where
 fg:eB xs ys b.ps.length c
 nk:gf b.ps c∉b.keys
 np:cW c.k=af->[.inr c.k,.inr (av b.ps c.one)]∉(cF b.ps b.fs).map (·.1)
 lv:∃f,ny xs.length b.ps.length f/\∀c'∈b.F++[c],fH f c'
 lim:b.fs.length<63
inductive QX(C CL CJ:Z)(e:O V)(H:Hp)(Q:VK)(E:XK):Prop
 |mk (l:BL) (b:BS) (d c:O Int) (n s:ar) (i:e=[.ref l.h,.str n,.str s]) (h:bb H C CL CJ l d c b) (g:LW b n s) (q:∀a,ai H a->Q .aE a)
inductive QY(C CL CJ:Z)(g:O V)(H:Hp)(Q:VK)(E:XK):Prop
 |mk (l:BL) (b:BS) (c a:O Int) (n s:ar) (j:g=[.ref l.h,.str n,.str s]) (i:bb H C CL CJ l c a b) (ok:cI c a b) (h:LW b n s) (dl:b.dn.length<200) (q:∀(e:BL) (d:Hp),bP H d l e->bb d C CL CJ e c a (b.Lr n s)->Q .aE d)
inductive K0(C CL CJ:Z)(i:O V)(H:Hp)(Q:VK)(E:XK):Prop
 |mk (l:BL) (b:BS) (d a:O Int) (h:Z) (c:Fc) (n:i=[.ref l.h,.ref h]) (m:bb H C CL CJ l d a b) (ok:cI d a b) (k:dP H b.ps h (b.co,c)) (j:Dq d a b c) (dl:b.dn.length<200) (q:∀(g:BL) (e:Hp),bP H e l g->bb e C CL CJ g d a (b.zY c)->Q (.int (b.co:Int)) e)
inductive T3(C CL CJ:Z)(h:O V)(H:Hp)(Q:VK)(E:XK):Prop
 |mk (l:BL) (b:BS) (d a:O Int) (z:Nat) (c:Fc) (j:h=[.ref l.h,.int (z:Int)]) (i:bb H C CL CJ l d a b) (ok:cI d a b) (m:(z,c)∈b.fs) (dl:b.dn.length<200) (q:∀(g:BL) (e:Hp),bP H e l g->bb e C CL CJ g d a (b.without z c)->Q .aE e)
inductive Sm(C CL CJ:Z)(e:O V)(H:Hp)(Q:VK)(E:XK):Prop
 |mk (x g L:Z) (d c:O Int) (j:e=[.ref x,.ref L]) (i:H x=U (.ins C g [])) (h:iY H CL L d c) (q:∀(l:BL) (b:Hp),l.h=x->(∀a∈l.fp,a≠x->H a=aG)->aF x H b->bb b C CL CJ l d c ⟨[],[],0,[],[]⟩->Q .aE b)
def iY.free(g:iY H CL L xs ys)(A:∀a∈fp,H a=aG\/∃C b,H a=U (.ins C b []))(o:Out fp H c):iY c CL L xs ys:=by
 obtain⟨b,d,m,f,w,j,h,i,st,y,x,v,t,s,r,q,p,l⟩:=g;have k:∀{a:Z} {u:HO},H a=U u->(∀C b,u≠.ins C b [])->c a=U u:=λ{a u} e n=>o _ _ e λz=>by
  grind
 exact⟨b,d,m,f,w,j,h,i,st,k y (λ_ _ z=>by cases z),k x (λ_ _ z=>by cases z),k v (λ_ _ z=>by cases z),k t (λ_ _ z=>by cases z),k s (λ_ _ z=>by cases z),k r (λ_ _ z=>by cases z),k q (λ_ _ z=>by cases z),k p (λ_ _ z=>by cases z),k l (λ_ _ z=>by cases z)⟩
abbrev Dr:O ar:=["hearth","name","side"]
def ZaA:aP Dr Dr (aJ FQ):=.aY
def ZaB(F:aM K "check_person" "check_person" FQ f fd)(L:HasFn P w K mg I 1 "is_name" ["text"] QW)(o:mg "MAN"=U (.str "man" t1))(m:mg "WOMAN"=U (.str "woman" T))(Q:b_ P w K mg I 1 "people" C fP (QR C CL CJ)):aB P w K mg I aL 2 f fd Dr (QX C CL CJ):=by
 refine F.o ZaA λs H e h=>?_;obtain⟨l,b,k,j,n,s,rfl,J,a,q⟩:=h;refine⟨_,(aj (aR (PW.pt (pw_or (ju (e_ (aQ L e (aa (pv 1) ae)))) (pw_or1 (fY (xD (K:=K) rfl) (pv 2) (cU (aa (dA (v:=.str "man") rfl o ⟨_,rfl⟩) (aa (dA (v:=.str "woman") rfl m ⟨_,rfl⟩) ae))) (by with_unfolding_all rfl))))) ia aW) (au (aR (fY (lJ rfl) (pv 1) (qt Q e (by decide) (pv 0)) (by with_unfolding_all rfl)) ia aW))),?_⟩;have sz:(10000:Nat)<=sizeLine:=by rw[dU];decide
 refine⟨_,rfl,n,rfl,a.nl,λX B=>⟨_,rfl,?_⟩⟩;rw[a.Zkv];refine bW ?_;refine⟨_,rfl,by show 2<=sizeLine;decide,λp W R A c=>⟨p,_,rfl,.inr (az.of c),rfl,rfl,_,rfl,?_⟩⟩;have r:eQ (.str s) [.str "man",.str "woman"]=af:=a.side;dsimp only;rw[bS rfl,r];refine bW (aT ?_);have g:=B.trans A;have d:=J.same g;obtain⟨E,x⟩:=d.obj;refine⟨_,rfl,_,rfl,l.h,E,_,rfl,x,rfl,l,b,k,j,rfl,d,λt N u y G=>?_⟩;have D:(b.ps.map λp=>V.str p.1).all jw=af:=by
  rw[MS,Wq];intro p _;rfl
 refine⟨t,_,rfl,.inl (aq.of G),rfl,D,_,rfl,?_⟩;try dsimp only
 have no:eQ (.str n) (b.ps.map λp=>V.str p.1)=a8:=by
  unfold eQ;rw[List.any_map,WM];intro p c z;have i:(p.1==n)=af:=z;exact a.new (by rw[←eq_of_beq i];exact Yf.mpr ⟨p,c,rfl⟩)
 rw[bt Yh,no];exact bW (aT (q N (g.trans y)))
abbrev Du:O ar:=["self","name","side"]
def Zap:aP Du Du (aJ FA):=.aY
def Zep(F:aM K "person" "Hearth.person" FA f fd)(i:fG K C)(x:mg "PUT_IN"=U (.int 1 t1))(D:HasFn P w K mg I 2 "check_person" Dr (QX C CL CJ))(y:b_ P w K mg I 10 "do_deed" C pd (B9 C CL CJ)):aB P w K mg I aL 11 f fd Du (QY C CL CJ):=by
 refine F.o Zap λs H g h=>?_;obtain⟨l,b,e,d,n,s,rfl,p,ok,a,dl,q⟩:=h;refine⟨_,(aj (cE (aQ D g (aa (pv 0) (aa (pv 1) (aa (pv 2) ae))))) (au (cE (cJ y g (by decide) (pv 0) (aa (dA (v:=.int (1)) rfl x ⟨_,rfl⟩) (aa (cU (aa (pv 1) (aa (pv 2) ae))) (aa (pF K 0) ae))))))),?_⟩;refine⟨_,rfl,_,rfl,_,rfl,l,b,e,d,n,s,rfl,p,a,λJ m=>?_⟩;have t:=p.same m;obtain⟨o,k⟩:=t.obj;refine⟨_,rfl,l.h,o,_,rfl,k,rfl,_,rfl,_,rfl,by show 2<=sizeLine;decide,λr G E c j=>?_⟩;refine⟨_,rfl,l.h,C,o,_,_,rfl,c _ _ k,i.cls,i.rS,rfl,l,b,_,e,d,r,1,b.co,[.inr n,.inr s],rfl,t.same c,ok,dl,j,.pin n s j a.new a.lim,λA B u z=>?_⟩;exact q A B (bP.after (m.trans c) u) z
def yV:aP VM u7 (aJ Gg):=.aY
def ZgY(F:aM K "keep" "Hearth.keep" Gg f fd)(j:fG K C)(N:mg "PUT_IN"=U (.int 1 t1))(G9:HasFn P w K mg I 5 "fact_fits" u6 (TV CL CJ))(W:b_ P w K mg I 8 "joins" C fP (zG C CL CJ))(Q:b_ P w K mg I 10 "do_deed" C pd (B9 C CL CJ)):aB P w K mg I aL 11 f fd u7 (K0 C CL CJ):=by
 refine F.o yV λs H u h=>?_;obtain⟨l,b,o,n,y,c,rfl,A,ok,x,d,dl,q⟩:=h;refine⟨_,(aj (oU (pv 1) (jt (K:=K) rfl rfl (bX (bG 2 yV.nd) (bX (bG 3 yV.nd) (bX (bG 4 yV.nd) (bX (bG 5 yV.nd) jr)))))) (aj (aR (ju (e_ (aQ G9 u (aa (qt W u (by decide) (pv 0)) (aa (pF K 0) (aa (pF K 0) (aa (pv 1) ae))))))) ia aW) (aj (cE (cJ Q u (by decide) (pv 0) (aa (dA (v:=.int (1)) rfl N ⟨_,rfl⟩) (aa (pv 1) (aa (aZ iG (pv 2) aw) ae))))) (au (aH (pv 2)))))),?_⟩;obtain⟨dx,h1⟩:=A.obj;refine⟨_,rfl,y,_,rfl,az.of x,rfl,_,_,rfl,a_ ⟨_,_,rfl,a_ ⟨_,_,rfl,a_ ⟨_,_,rfl,a_ ⟨rfl,?_⟩⟩⟩⟩⟩;refine⟨_,rfl,l.h,dx,_,rfl,h1,rfl,l,b,o,n,rfl,A,ok,λa jl st H1 g m r1 r2 ja D len fR _=>?_⟩;obtain⟨i,e1⟩:=m.obj;have t:H1 l.h=U (.ins C i (HF a.L a.sd a.pl a.fc a.kn a.pr (b.co:Int) a.dn a.un a.rk)):=by rwa[←g.h]
 have J:=g.out _ _ x (A.tup x);have im:=ok.m;refine⟨_,rfl,l.h,C,i,_,_,rfl,t,j.cls,j.sr,rfl,_,rfl,l.h,C,i,_,_,rfl,t,j.cls,j.rR,rfl,_,rfl,jl,st,a.L,a.pl,y,o,n,b.ps,b.F,b.co,c,rfl,ja,D,m.landAt,ok.gd,m.places,ok.nm,len,eL im (by decide),J,d.fg,λ_ H2 k=>?_,λno=>?_⟩
 ·refine⟨_,rfl,bW (aT ?_)⟩;have L:=m.same k;have G:=k _ _ J;have R:b.co∉b.fs.map (·.1):=λz=>by
   obtain⟨p,hp,e⟩:=Yf.mp z;have:=ok.lt p hp;omega
  refine⟨_,rfl,l.h,i,_,rfl,k _ _ t,rfl,_,rfl,_,rfl,_,_,rfl,rfl,a,b,_,o,n,y,1,b.co+1,eS b.ps b.co c,?_,L,ok,dl,G,.fin b.co c G d.fg R d.nk d.np d.lv d.lim,λl' H3 r T=>?_⟩;·rw[g.h];rfl
  ·exact⟨_,rfl,q l' H3 ((g.same k).trans r) T⟩
 ·obtain⟨E,i0,B⟩:=d.lv;exact absurd (B c (Ys _ Yk)) (no E ((D.iff E).mpr ⟨by rwa[len],λc' X=>B c' (Yt _ X)⟩))
def ZaT:aP Ac Ac (aJ Gh):=.aY
def ZgZ(F:aM K "take" "Hearth.take" Gh f fd)(a:fG K C)(A:mg "TAKEN_OUT"=U (.int (-1) t1))(t:b_ P w K mg I 10 "do_deed" C pd (B9 C CL CJ)):aB P w K mg I aL 11 f fd Ac (T3 C CL CJ):=by
 refine F.o ZaT λs H i h=>?_;obtain⟨l,b,p,o,z,c,rfl,d,ok,m,dl,q⟩:=h;refine⟨_,(aj (aR (jU (mG (bF i) (pv 1) (pF K 0)) (by with_unfolding_all rfl)) ia aW) (au (cE (cJ t i (by decide) (pv 0) (aa (dA (v:=.int (-1)) rfl A ⟨_,rfl⟩) (aa (dF (bF i) (pF K 0) (pv 1) (λ_ _=>rfl)) (aa (pF K 0) ae))))))),?_⟩;obtain⟨g,e⟩:=d.obj;obtain⟨j,n,k⟩:=Kk d.fact ok.zs m;refine⟨_,rfl,_,rfl,l.h,C,g,_,_,rfl,e,a.cls,a.rY,rfl,l.fc,U (.ref j),rfl,qv d.facts n,_,rfl,bW (aT ?_)⟩;refine⟨_,rfl,l.h,g,_,rfl,e,rfl,_,rfl,l.h,C,g,_,_,rfl,e,a.cls,a.rY,rfl,_,rfl,l.fc,.ref j,rfl,qv d.facts n,_,rfl,l.h,C,g,_,_,rfl,e,a.cls,a.rS,rfl,l,b,_,p,o,j,-1,b.co,eS b.ps z c,rfl,d,ok,dl,k,.xX z c k m,λx y r u=>?_⟩;exact q x y r u
abbrev Dv:O ar:=["self","land"]
def ZaU:aP Dv Dv (aJ Gf):=.aY
theorem ZfM(F:aM K "__init__" "Hearth.__init__" Gf f fd)(b:fG K C):aB P w K mg I aL 1 f fd Dv (Sm C CL CJ):=by
 refine F.o ZaU λs H hr h=>?_;obtain⟨x,g,L,xs,ys,rfl,hx,la,q⟩:=h;refine⟨_,(aj (iD (K:=K) rfl (pv 0) (pv 1)) (aj (iD (K:=K) rfl (pv 0) rN) (aj (iD (K:=K) rfl (pv 0) rN) (aj (iD (K:=K) rfl (pv 0) rN) (aj (iD (K:=K) rfl (pv 0) PD) (aj (iD (K:=K) rfl (pv 0) PD) (aj (iD (K:=K) rfl (pv 0) aw) (aj (iD (K:=K) rfl (pv 0) (cV ae)) (aj (iD (K:=K) rfl (pv 0) (cV ae)) (au (iD (K:=K) rfl (pv 0) nL))))))))))),?_⟩;refine⟨_,rfl,_,rfl,x,C,g,[],rfl,hx,b.cls,b.sr,by show 0<1000;decide,λH1 b1 h1=>?_⟩;refine λsd N n2 g2 E=>⟨_,rfl,x,C,g,_,rfl,g2 _ _ h1,b.cls,b.uu,by show 1<1000;decide,λH3 b3 h3=>?_⟩;refine λpl H4 n4 g4 T=>⟨_,rfl,x,C,g,_,rfl,g4 _ _ h3,b.cls,b.rR,by show 2<1000;decide,λH5 b5 h5=>?_⟩;refine λfc H6 n6 g6 e6=>⟨_,rfl,x,C,g,_,rfl,g6 _ _ h5,b.cls,b.rY,by show 3<1000;decide,λH7 X h7=>?_⟩;refine λkn H8 Q R e8=>⟨_,rfl,x,C,g,_,rfl,R _ _ h7,b.cls,b.Cn,by show 4<1000;decide,λH9 J h9=>?_⟩;refine λpr qV B A qY=>⟨_,rfl,x,C,g,_,rfl,A _ _ h9,b.cls,b.xf,by show 5<1000;decide,λAy y h11=>?_⟩;refine⟨_,rfl,x,C,g,_,rfl,h11,b.cls,b.rS,by show 6<1000;decide,λyC v D7=>?_⟩;refine⟨by show 0<=sizeLine;exact Yx _,λdn D8 p r YF=>⟨_,rfl,x,C,g,_,rfl,r _ _ D7,b.cls,b.TU,by show 7<1000;decide,λtE m YG=>?_⟩⟩;refine⟨by show 0<=sizeLine;exact Yx _,λun MG j YH e15=>⟨_,rfl,x,C,g,_,rfl,YH _ _ YG,b.cls,b.QP,by show 8<1000;decide,λXp b16 h16=>?_⟩⟩;refine⟨_,rfl,x,C,g,_,rfl,h16,b.cls,b.jk,by show 9<1000;decide,λrb b17 YI=>?_⟩;rw[Zkl] at YI;have YJ:aF x MG rb:=b16.trans b17;have YK:aF x D8 rb:=m.trans ((aF.of YH).trans YJ);have YL:aF x qV rb:=y.trans (v.trans ((aF.of r).trans YK));have j8:aF x H8 rb:=J.trans ((aF.of A).trans YL);have j6:aF x H6 rb:=X.trans ((aF.of R).trans j8);have j4:aF x H4 rb:=b5.trans ((aF.of g6).trans j6);have j2:aF x N rb:=b3.trans ((aF.of g4).trans j4);have j0:aF x H rb:=b1.trans ((aF.of g2).trans j2);have i3:aF x H H3:=b1.trans ((aF.of g2).trans b3);have i5:aF x H H5:=i3.trans ((aF.of g4).trans b5);have i7:aF x H H7:=i5.trans ((aF.of g6).trans X);have i9:aF x H H9:=i7.trans ((aF.of R).trans J);have i12:aF x H yC:=i9.trans ((aF.of A).trans (y.trans v));have i14:aF x H tE:=i12.trans ((aF.of r).trans m);have D:∀{a:Z} {H':Hp},aF x H H'->a≠x->H' a=aG->H a=aG:=λ{a H'} k d n=>by
  cases e:H a with
  |none=>rfl
  |some o=>rw[k a o e d] at n;cases n
 have t:sd≠x:=λz=>by rw[z,h1] at n2;cases n2
 have G:pl≠x:=λz=>by rw[z,h3] at n4;cases n4
 have W:fc≠x:=λz=>by rw[z,h5] at n6;cases n6
 have d8:kn≠x:=λz=>by rw[z,h7] at Q;cases Q
 have EE:pr≠x:=λz=>by rw[z,h9] at B;cases B
 have Nz:dn≠x:=λz=>by rw[z,D7] at p;cases p
 have YM:un≠x:=λz=>by rw[z,YG] at j;cases j
 have ne:∀{a c:Z} {Ha Hc:Hp} {o:HO},Ha a=U o->aF x Ha Hc->a≠x->Hc c=aG->a≠c:=λ{a c Ha Hc o} e k d n z=>by rw[←z,k a o e d] at n;cases n
 have k24:aF x N H3:=b3;have YN:aF x N H5:=b3.trans ((aF.of g4).trans b5);have YO:aF x N H7:=YN.trans ((aF.of g6).trans X);have VO:aF x N H9:=YO.trans ((aF.of R).trans J);have VP:aF x N yC:=VO.trans ((aF.of A).trans (y.trans v));have Zkw:aF x N tE:=VP.trans ((aF.of r).trans m);have YQ:aF x H4 H7:=b5.trans ((aF.of g6).trans X);have VQ:aF x H4 H9:=YQ.trans ((aF.of R).trans J);have VR:aF x H4 yC:=VQ.trans ((aF.of A).trans (y.trans v));have Zkx:aF x H4 tE:=VR.trans ((aF.of r).trans m);have VS:aF x H6 H9:=X.trans ((aF.of R).trans J);have VT:aF x H6 yC:=VS.trans ((aF.of A).trans (y.trans v));have Zky:aF x H6 tE:=VT.trans ((aF.of r).trans m);have VU:aF x H8 yC:=J.trans ((aF.of A).trans (y.trans v));have Zkz:aF x H8 tE:=VU.trans ((aF.of r).trans m);have UX:aF x qV yC:=y.trans v;have Zjs:aF x qV tE:=UX.trans ((aF.of r).trans m);let l:BL:=⟨x,L,sd,pl,fc,kn,pr,dn,un,.aE,[],[],[],[]⟩;have EF:∀a∈l.fp,a≠x->H a=aG:=λa ha i=>by
  have tK:a∈[x,sd,pl,fc,kn,pr,dn,un]:=by
   have:l.fp=[x,sd,pl,fc,kn,pr,dn,un]:=rfl;rw[this] at ha;exact ha
  simp only[Yq,Y3,hI] at tK;rcases tK with rfl|rfl|rfl|rfl|rfl|rfl|rfl|rfl;·exact absurd rfl i
  ·exact D b1 i n2
  ·exact D i3 i n4
  ·exact D i5 i n6
  ·exact D i7 i Q
  ·exact D i9 i B
  ·exact D i12 i p
  ·exact D i14 i j
 refine q l rb rfl EF j0 ⟨⟨g,YI⟩,λH' o=>?_,j2 _ _ E t,j4 _ _ T G,j6 _ _ e6 W,.nil,j8 _ _ e8 d8,YL _ _ qY EE,YK _ _ YF Nz,.nil,YJ _ _ e15 YM,.nil,.no rfl rfl,?_⟩
 ·refine la.free (fp:=l.fp) (λa ha=>?_) λa u e i=>o _ _ (j0 _ _ e λz=>i (by rw[z];exact Yk)) i;by_cases z:a=x;·rw[z];exact .inr ⟨C,g,hx⟩
  ·exact .inl (EF a ha z)
 ·show[x,sd,pl,fc,kn,pr,dn,un].Nodup;simp only[Y0,Yq,Y3,hI,iz,NS,Jd,and_true];exact⟨⟨t.symm,G.symm,W.symm,d8.symm,EE.symm,Nz.symm,YM.symm⟩,⟨ne E k24 t n4,ne E YN t n6,ne E YO t Q,ne E VO t B,ne E VP t p,ne E Zkw t j⟩,⟨ne T b5 G n6,ne T YQ G Q,ne T VQ G B,ne T VR G p,ne T Zkx G j⟩,⟨ne e6 X W Q,ne e6 VS W B,ne e6 VT W p,ne e6 Zky W j⟩,⟨ne e8 J d8 B,ne e8 VU d8 p,ne e8 Zkz d8 j⟩,⟨ne qY UX EE p,ne qY Zjs EE j⟩,ne YF m Nz j⟩
def strOf:V->ar
 |.str s=>s
 |_=>""
def ij(b:BS)(a:ar):O ar:=(qx b a).map strOf
inductive h_(b:BS)(a:ar):ar->Prop
 |refl:h_ b a a
 |step {x y:ar}:h_ b a x->y∈ij b x->h_ b a y
theorem Sn(i:cI xs u b)(h:aX (cF b.ps b.fs) [.inr k,.inr a]=U v):∃p∈b.fs,cW p.2.k=af/\p.2.k=k/\av b.ps p.2.one=a/\v=.str (av b.ps p.2.aN.toNat)/\p.2.aN.toNat<b.ps.length:=by
 have m:([.inr k,.inr a],v)∈cF b.ps b.fs:=by
  unfold aX at h;cases x:(cF b.ps b.fs).find? λj=>decide (j.1=[.inr k,.inr a]) with
  |none=>grind
  |some q=>grind
 obtain⟨p,l,e⟩:=Yf.mp m;obtain⟨g,c⟩:=Y5.mp l;injection e with t s;injection t with r o;injection o with n _;have d:p.2.k≠bj:=λz=>by
  rw[z] at c;exact absurd c (by decide+kernel)
 refine⟨p,g,c,Wh r,Wh n,?_,((i.fg p g).ok.iy d).1.2⟩;rw[←s,iX d];rfl
def O8(d:cI xs i b)(a:ar):qx b a=(ij b a).map V.str/\(∀s∈ij b a,s∈b.ps.map (·.1))/\(ij b a).length<=2:=by
 have all:∀v∈qx b a,∃s,v=.str s/\s∈b.ps.map (·.1):=λv c=>by
  obtain⟨k,_,e⟩:=Jn.mp c;obtain⟨p,_,_,_,_,h,l⟩:=Sn d e;exact⟨_,h,uw l⟩
 refine⟨?_,λs g=>?_,?_⟩
 ·unfold ij;rw[Y7];refine(yr _).symm.trans (Wo λv c=>?_);obtain⟨s,rfl,_⟩:=all v c;rfl
 ·obtain⟨v,c,rfl⟩:=Yf.mp g;obtain⟨s,rfl,m⟩:=all v c;exact m
 ·unfold ij qx
  grind
def jj(a:O ar)(b:O Z):O (Key×V):=(a.zip b).map λp=>(.inr p.1,.ref p.2)
theorem QZ:∀{b:O ar} {as:O Z},b.length=as.length->(jj b as).map (·.1)=b.map Sum.inr
 |[],[],_=>rfl
 |k::b,a::as,h=>by
  have c:jj (k::b) (a::as)=(Sum.inr k,V.ref a)::jj b as:=rfl;rw[c,Ws,QZ (by simpa using h)];rfl
 |[],_::_,h=>rfl
 |_::_,[],h=>by simp at h
theorem Q0:∀{b:O ar} {as:O Z} (k:ar) (a:Z),b.length=as.length->jj b as++[(.inr k,.ref a)]=jj (b++[k]) (as++[a])
 |[],[],_,_,_=>rfl
 |q::b,c::as,k,a,h=>by
  have d:jj (q::b) (c::as)=(Sum.inr q,V.ref c)::jj b as:=rfl;rw[d,Xm,Q0 k a (by simpa using h)];rfl
 |[],_::_,_,_,h=>by simp at h
 |_::_,[],_,_,h=>by simp at h
theorem Km:∀{b:O ar} {as:O Z} {k:ar},b.length=as.length->k∈b->∃a∈as,aX (jj b as) (.inr k)=U (.ref a)
 |[],_,_,_,h=>by cases h
 |q::b,c::as,k,d,h=>by
  have g:jj (q::b) (c::as)=(Sum.inr q,V.ref c)::jj b as:=rfl;rw[g];by_cases e:q=k;·exact⟨c,Yk,gU (by rw[e])⟩
  ·rcases Yq.mp h with h|h;·grind
   ·obtain⟨a,m,v⟩:=Km (by simpa using d) h;exact⟨a,Yw _ m,by rwa[fW (λz=>e (Wh z))]⟩
 |_::_,[],_,h,_=>by simp at h
def JR(b:a.length=as.length)(h:k∉a):aX (jj a as) (.inr k)=aG:=rC (by
 rw[QZ b];intro z;obtain⟨q,c,e⟩:=Yf.mp z;exact h (by rwa[←Wh e]))
structure sU(H H6:Hp)(ln:Z)(ks:O ar)(as:O Z):Prop where
 same:ai H H6
 at_:H6 ln=U (.dK (jj ks as))
 len:ks.length=as.length
 lst:∀a∈as,∃us:O V,H6 a=U (.lst us)/\us.length<=ks.length/\a≠ln
 nd:ks.Nodup
def IK(g:cI xs e b){c:O ar}(d:c.Nodup)(a:∀k∈c,k∈b.ps.map (·.1)):c.length<=b.ps.length:=by
 have:=d.length_le_of_subset a
 grind
theorem B_(c:cI xs e b)(d:a∈b.ps.map (·.1))(h:h_ b a z):z∈b.ps.map (·.1):=by
 cases h with
 |refl=>exact d
 |step _ m=>exact(O8 c _).2.1 _ m
inductive So(C CL CJ:Z)(h:O V)(H:Hp)(Q:VK)(E:XK):Prop
 |mk (l:BL) (b:BS) (d c:O Int) (a:ar) (m:h=[.ref l.h,.str a]) (k:bb H C CL CJ l d c b) (ok:cI d c b) (j:a∈b.ps.map (·.1)) (q:∀(p:Z) (e:O ar) (i:O Z) (g:Hp),sU H g p e i->(∀z,z∈e↔h_ b a z)->Q (.ref p) g)
def Af(b:Z)(N:Nat):St->Hp->Nat:=λa H=>(match H b with|some (.dK kvs)=>2*(N-kvs.length)|_=>0)+(match List.getD (α:=bR V) a 3 aG with|some (V.ref nw)=>(match H nw with|some (.lst (_::_))=>1|_=>0)|_=>0)
inductive YR(H:Hp)(b:BS)(a:ar)(h g:Z)(l:St)(j:Hp):Prop
 |mk (c d:O ar) (q:O Z) (i:Z) (o n m:bR V) (v:sU H j g c q) (x:j i=U (.lst (d.map V.str))) (t:i≠g) (sub:∀k∈d,k∈c) (y:∀k∈c,k∉d->∀p∈ij b k,p∈c) (s:∀k∈c,h_ b a k) (u:a∈c) (r:d.length<=64) (e:l=[U (.ref h),U (.str a),U (.ref g),U (.ref i),o,n,m]):YR H b a h g l j
inductive NA(H:Hp)(b:BS)(a:ar)(h g d c:Z)(o m:O ar)(j:Nat)(n:St)(l:Hp):Prop
 |mk (i fs:O ar) (q:O Z) (s r:bR V) (v:sU H l g i q) (x:l d=U (.lst (m.map V.str))) (y:l c=U (.lst (fs.map V.str))) (u:d≠g/\c≠g/\c≠d) (B:c∉q) (z:i=o++fs) (A:∀k∈m.take j,∀p∈ij b k,p∈i) (t:∀k∈i,h_ b a k) (e:n=[U (.ref h),U (.str a),U (.ref g),U (.ref d),U (.ref c),s,r]):NA H b a h g d c o m j n l
inductive YS(H:Hp)(b:BS)(a:ar)(h g l d:Z)(s q:O ar)(j:Nat)(c:ar)(o:Z)(i:Nat)(r:St)(n:Hp):Prop
 |mk (m fs:O ar) (t:O Z) (u:bR V) (y:sU H n g m t) (A:n l=U (.lst (q.map V.str))) (B:n d=U (.lst (fs.map V.str))) (z:n o=U (.lst ((ij b c).map V.str))) (x:l≠g/\d≠g/\d≠l/\o≠g/\o≠d) (G:d∉t) (D:m=s++fs) (F:∀k∈q.take j,∀p∈ij b k,p∈m) (E:∀p∈(ij b c).take i,p∈m) (v:∀k∈m,h_ b a k) (e:r=[U (.ref h),U (.str a),U (.ref g),U (.ref l),U (.ref d),U (.str c),u]):YS H b a h g l d s q j c o i r n
abbrev LX:O ar:=["hearth","name"]
def ue:aP ["hearth","name","lines","newest","further","one","parent"] LX (aJ Hq):=.aY
theorem Zcm(F:aM K "lines_up" "lines_up" Hq f fd)(Fd:b_ P w K mg I 1 "parents_of" C kG (OB C CL CJ)):aB P w K mg I aL 2 f fd LX (So C CL CJ):=by
 refine F.o ue λs H hr h=>?_;obtain⟨l,b,xs,ys,a,rfl,ba,ok,ma,q⟩:=h;refine⟨_,(aj (bh 2 ue.nd (Ci (kX (pv 1) (cV (aa (pv 1) ae)) Cg) rfl rfl (λz=>nomatch z) (Jq rfl))) (aj (bh 3 ue.nd (cV (aa (pv 1) ae))) (aj (I_ hY (Iy (K:=K) rfl (JB (pv 3) (λ_=>rfl))) (aj (bh 4 ue.nd (cV ae)) (aj (ic hY rfl (fX (K:=K) rfl (pv 3)) (bG 5 ue.nd) (au (ic hY rfl (fX (K:=K) rfl (cJ Fd hr (by decide) (pv 0) (aa (pv 5) ae))) (bG 6 ue.nd) (au (aR (jU (mG (bF hr) (pv 6) (pv 2)) (by with_unfolding_all rfl)) (aj (oO (bF hr) (pv 2) (pv 6) (aZ rW (dF (bF hr) (pv 2) (pv 5) (λ_ _=>rfl)) (cV (aa (pv 6) ae)))) (au (cE (qu (K:=K) rfl (mP jo lr lp rG (pv 4) (aa (pv 6) ae)))))) aW))))) (au (bh 3 ue.nd (pv 4)))))) (au (aH (pv 2)))))),?_⟩;have sz:(10000:Nat)<=sizeLine:=by rw[dU];decide
 have im:=ok.m;refine bN ?_;refine λln YT=>⟨_,rfl,_,rfl,by show 1<=sizeLine;decide,λll H0 YU g0 hll=>?_⟩;refine⟨g0 _ _ aU,[(.inr a,.ref ll)],rfl,(by show 1<=15;decide),?_⟩;obtain⟨H1,tS⟩:∃H1,H1=upd H0 ln (.dK (qr [] [(.inr a,.ref ll)])):=⟨_,rfl⟩;rw[←tS];have YV:ll≠ln:=λz=>by rw[z,aU] at YU;cases YU
 have g1:ai H H1:=λc o e=>by
  have nc:=cA e YT;rw[tS,aK nc];exact g0 _ _ (by rw[aK nc];exact e)
 have YW:sU H H1 ln [a] [ll]:=⟨g1,by rw[tS,aU];rfl,rfl,λc J=>by
  rw[Ym.mp J];exact⟨[.str a],by rw[tS,aK YV];exact hll,Yd _,YV⟩,by simp⟩
 refine bN ?_;refine⟨_,rfl,by show 1<=sizeLine;decide,λnw H2 YX g2 hnw=>?_⟩;have NB:nw≠ln:=λz=>by rw[z,YW.at_] at YX;cases YX
 have Ls:∀{Ha Hb:Hp} {y:O ar} {as:O Z},sU H Ha ln y as->ai Ha Hb->sU H Hb ln y as:=λB g=>⟨B.same.trans g,g _ _ B.at_,B.len,λc J=>by obtain⟨Q,e,z,n⟩:=B.lst c J;exact⟨Q,g _ _ e,z,n⟩,B.nd⟩;refine ib (λG H6=>∃y as,sU H H6 ln y as/\(∀z,z∈y↔h_ b a z)/\∃o3 o4 o5 o6:bR V,G=[U (.ref l.h),U (.str a),U (.ref ln),o3,o4,o5,o6]) (λkN dD=>?_) ?_
 ·refine JA (YR H b a l.h ln) (Af ln 100) ⟨[a],[a],[ll],nw,aG,aG,aG,Ls YW g2,hnw,NB,λ_ h=>h,λk d no=>absurd d no,λk d=>by rw[Ym.mp d];exact .refl,Yk,by show 1<=64;decide,rfl⟩ ?_ ?_
  ·rintro G H6 ⟨y,D,as,nw,o4,o5,o6,B,hn,nn,sub,cl,sd,YY,vL,rfl⟩;have kf:y.length<=64:=Yz (IK ok B.nd λk d=>B_ ok ma (sd k d)) im;refine⟨_,rfl,_,.inl ⟨_,aq.of hn,rfl⟩,?_⟩;refine bc (λc=>?_) (λc=>?_)
   ·have ZkA:D≠[]:=λz=>by rw[z] at c;cases c
    have mu0:Af ln 100 [U (.ref l.h),U (.str a),U (.ref ln),U (.ref nw),o4,o5,o6] H6=2*(100-y.length)+1:=by
     unfold Af;have kl:(jj y as).length=y.length:=by unfold jj;rw[Ya,W8];have:=B.len;omega
     have g3:List.getD (α:=bR V) [U (.ref l.h),U (.str a),U (.ref ln),U (.ref nw),o4,o5,o6] 3 aG=U (.ref nw):=rfl;rw[B.at_,g3];dsimp only;rw[hn,kl];cases D with
     |nil=>exact absurd rfl ZkA
     |cons x r=>rfl
    refine bN ?_;refine⟨by show 0<=sizeLine;exact Yx _,λfu H7 W g7 hfu=>?_⟩;have AU:=Ls B g7;have fln:fu≠ln:=λz=>by rw[z,B.at_] at W;cases W
    have fnw:fu≠nw:=λz=>by rw[z,hn] at W;cases W
    refine ib (NA H b a l.h ln nw fu y D D.length) (λvU fS=>?_) ?_
    ·refine⟨_,rfl,nw,rfl,⟨_,aq.of (g7 _ _ hn)⟩,kW (K:=K) (a:=nw) (xs:=D.map V.str) (NA H b a l.h ln nw fu y D) ⟨y,[],as,o5,o6,AU,g7 _ _ hn,hfu,⟨nn,fln,fnw⟩,(λz=>by obtain⟨Q,e,_⟩:=B.lst _ z;rw[W] at e;cases e),by rw[We],λk d=>(by rw[vV] at d;cases d),sd,rfl⟩ (λj G H8 _ ⟨_,_,_,_,_,_,h,_,_,_,_,_,_,_⟩=>aq.of h) ?_ ?_⟩
     ·rintro j v G H8 hj ⟨fM,fs,EG,p5,p6,L,YZ,kP,A7,Y_,N,jN,EH,rfl⟩;rw[Ye] at hj;obtain⟨one,e1,rfl⟩:∃one,D[j]?=U one/\V.str one=v:=by
       cases z:D[j]? with
       |none=>rw[z] at hj;cases hj
       |some o=>rw[z] at hj;exact⟨o,rfl,Yn hj⟩
      have NC:D.take (j+1)=D.take j++[one]:=by rw[Y1,e1];rfl
      have ZlV:one∈fM:=by rw[N];exact Yt _ (sub _ (Yg e1))
      have Za:=ba.same L.same;obtain⟨dx8,h8⟩:=Za.obj;obtain⟨pe,pin,M_⟩:=O8 ok one;refine a_ ?_;refine⟨_,rfl,l.h,dx8,_,rfl,h8,rfl,_,rfl,l,b,xs,ys,one,rfl,Za,λpl H9 EI g9 cz=>?_⟩;rw[pe] at cz;have pln:pl≠ln:=λz=>by rw[z,L.at_] at EI;cases EI
      have plf:pl≠fu:=λz=>by rw[z,kP] at EI;cases EI
      refine⟨pl,rfl,⟨_,aq.of cz⟩,kW (K:=K) (a:=pl) (xs:=(ij b one).map V.str) (YS H b a l.h ln nw fu y D j one pl) ⟨fM,fs,EG,p6,Ls L g9,g9 _ _ YZ,g9 _ _ kP,cz,⟨A7.1,A7.2.1,A7.2.2,pln,plf⟩,Y_,N,jN,λp t=>(by rw[vV] at t;cases t),EH,rfl⟩ (λi G HA _ ⟨_,_,_,_,_,_,_,h,_,_,_,_,_,_,_⟩=>aq.of h) ?_ ?_⟩
      ·rintro i v G HA hi ⟨kQ,A8,EJ,q6,A,EK,X,ND,E,A9,T,EL,A_,R,rfl⟩;rw[Ye] at hi;obtain⟨par,e2,rfl⟩:∃par,(ij b one)[i]?=U par/\V.str par=v:=by
        cases z:(ij b one)[i]? with
        |none=>rw[z] at hi;cases hi
        |some o=>rw[z] at hi;exact⟨o,rfl,Yn hi⟩
       have mp:=Yg e2;have Zb:(ij b one).take (i+1)=(ij b one).take i++[par]:=by rw[Y1,e2];rfl
       have VW:one∈kQ:=by rw[T];exact Yt _ (sub _ (Yg e1))
       have kf9:kQ.length<=64:=Yz (IK ok A.nd λk d=>B_ ok ma (R k d)) im;refine a_ ?_;by_cases vA:par∈kQ
       ·obtain⟨ap,_,vp⟩:=Km A.len vA;refine⟨_,rfl,_,rfl,ln,U (.ref ap),rfl,dh A.at_ vp,_,rfl,bW (aT ?_)⟩;refine⟨kQ,A8,EJ,_,A,EK,X,ND,E,A9,T,EL,λp t=>?_,R,rfl⟩;rw[Zb] at t;rcases Yu.mp t with t|t;·exact A_ p t
        ·rw[Ym.mp t];exact vA
       ·obtain⟨ao,mao,vo⟩:=Km A.len VW;obtain⟨Q,NF,ul,aon⟩:=A.lst ao mao;refine⟨_,rfl,_,rfl,ln,aG,rfl,dh A.at_ (JR A.len vA),_,rfl,cZ ?_⟩;refine⟨_,rfl,_,rfl,ln,.ref ao,rfl,dh A.at_ vo,_,rfl,by show 1<=sizeLine;decide,λe1l HB neb gB heB=>?_⟩;refine⟨ao,e1l,Q,_,rfl,rfl,gB _ _ NF,heB,by show Q.length+1<=sizeLine;omega,λnl HC NG gC hnl=>?_⟩;have Zc:=gB.trans gC;refine⟨_,rfl,_,rfl,ln,_,.inr par,rfl,Zc _ _ A.at_,rfl,?_,λHD bD eD=>?_⟩;·unfold jj;rw[Ya,W8];omega
        rw[mH _ (JR A.len vA),Q0 par nl A.len] at eD;have VX:nl≠ln:=λz=>by rw[z,gB _ _ A.at_] at NG;cases NG
        have kD:∀{c:Z} {o:HO},HA c=U o->c≠ln->HD c=U o:=λ{c o} e n=>bD _ _ (Zc _ _ e) n;have Zd:HA nl=aG:=gB.free NG;refine⟨_,rfl,.inl ⟨rfl,_,aq.of (kD X E.2.1)⟩,_,rfl,fu,_,_,rfl,rfl,kD X E.2.1,?_,λHE bE eE=>?_⟩
        ·rw[Ya];have:A8.length<=kQ.length:=by rw[T,Yl];exact Nat.le_add_left _ _
         omega
        have kE:∀{c:Z} {o:HO},HA c=U o->c≠ln->c≠fu->HE c=U o:=λ{c o} e n1 n2=>bE _ _ (kD e n1) n2;have VY:nl≠fu:=λz=>by rw[z,X] at Zd;cases Zd
        refine⟨kQ++[par],A8++[par],EJ++[nl],_,⟨λc o e=>?_,bE _ _ eD (λz=>E.2.1 z.symm),by rw[Yl,Yl,A.len];rfl,λc J=>?_,?_⟩,kE EK E.1 (λz=>E.2.2.1 z.symm),?_,kE ND E.2.2.2.1 E.2.2.2.2,E,(λz=>by rcases Yu.mp z with z|z;exact A9 z;exact VY (Ym.mp z).symm),by rw[T,Ju],λk d p t=>Yt _ (EL k d p t),λp t=>?_,λk d=>?_,rfl⟩
        ·have nc:=cA e YT;have ncf:c≠fu:=cA e ((B.same.free W));exact kE (A.same _ _ e) nc ncf
        ·rcases Yu.mp J with J|J
         ·obtain⟨us',e',z',n'⟩:=A.lst c J;have cf:c≠fu:=λz=>A9 (by rw[←z];exact J);exact⟨us',kE e' n' cf,by rw[Yl];exact lM z',n'⟩
         ·rw[Ym.mp J];exact⟨Q++[.str par],bE _ _ (bD _ _ hnl VX) VY,by rw[Yl,Yl];show Q.length+1<=kQ.length+1;omega,VX⟩
        ·refine W0.mpr ⟨A.nd,by simp,λu hu v hv z=>?_⟩;have:v=par:=by simpa using hv
         exact vA (by rw[←this,←z];exact hu)
        ·rw[eE,Yo];rfl
        ·rw[Zb] at t;rcases Yu.mp t with t|t;·exact Yt _ (A_ p t)
         ·rw[Ym.mp t];exact Ys _ Yk
        ·rcases Yu.mp d with d|d;·exact R k d
         ·rw[Ym.mp d];exact .step (R one VW) mp
      ·rintro G HA ⟨kQ,A8,EJ,q6,A,EK,X,ND,E,A9,T,EL,A_,R,rfl⟩;rw[Ya,Y8] at A_;refine⟨kQ,A8,EJ,_,_,A,EK,X,⟨E.1,E.2.1,E.2.2.1⟩,A9,T,λk d=>?_,R,rfl⟩;rw[NC] at d;rcases Yu.mp d with d|d;·exact EL k d
       ·rw[Ym.mp d];exact A_
     ·rintro G H8 h8;rw[Ya] at h8;exact fS _ _ h8
    ·rintro G H8 ⟨fM,fs,EG,p5,p6,L,YZ,kP,A7,Y_,N,jN,EH,rfl⟩;rw[Y8] at jN;refine⟨_,rfl,?_⟩;have kf8:fM.length<=64:=Yz (IK ok L.nd λk d=>B_ ok ma (EH k d)) im;have Ze:fM.length=y.length+fs.length:=by rw[N,Yl]
     refine⟨⟨fM,fs,EG,fu,_,_,_,L,kP,A7.2.1,λk d=>by rw[N];exact Ys _ d,λk d no p t=>?_,EH,by rw[N];exact Yt _ YY,by omega,rfl⟩,?_⟩
     ·rw[N] at d;rcases Yu.mp d with d|d
      ·by_cases z:k∈D;·exact jN k z p t
       ·rw[N];exact Yt _ (cl k d z p t)
      ·exact absurd d no
     ·rw[mu0];show Af ln 100 [U (.ref l.h),U (.str a),U (.ref ln),U (.ref fu),U (.ref fu),p5,p6] H8<_;unfold Af;have kl:(jj fM EG).length=fM.length:=by unfold jj;rw[Ya,W8];have:=L.len;omega
      have g3:List.getD (α:=bR V) [U (.ref l.h),U (.str a),U (.ref ln),U (.ref fu),U (.ref fu),p5,p6] 3 aG=U (.ref fu):=rfl;rw[L.at_,g3];dsimp only;rw[kP,kl];cases fs with
      |nil=>
       show 2*(100-fM.length)+0<_;have:fM.length=y.length+0:=Ze;omega
      |cons x r=>
       show 2*(100-fM.length)+1<_;have:fM.length=y.length+(r.length+1):=Ze;omega
   ·have nse:D=[]:=by
     cases D with
     |nil=>rfl
     |cons x r=>exact absurd rfl c
    subst nse;refine dD _ _ ⟨y,as,B,λz=>⟨λh=>sd z h,λh=>?_⟩,_,_,_,_,rfl⟩;induction h with
    |refl=>exact YY
    |step _ m ih=>exact cl _ ih (λz=>nomatch z) _ m
  ·rintro G H6 Q1 Q2 mo ⟨v1,w1,v2,w2,h⟩;exact⟨v1,w1,v2,w2,mo _ _ h⟩
 ·rintro G H6 ⟨y,as,B,iff,o3,o4,o5,o6,rfl⟩;exact⟨_,rfl,q ln y as H6 B iff⟩
def gq(a:bA)(i:Nat):ar:=(a.getD i ("","")).2
def qm(d:(a.map (·.1)).Nodup)(c:i<a.length):aX (gn a) (.inr (av a i))=U (.str (gq a i)):=by
 have b:((gn a).map (·.1)).Nodup:=by
  grind
 refine Sf b (Yf.mpr ⟨a[i],Jl c,?_⟩);unfold av gq
 grind
def mO(k h t:ar):cm:=if k="mother" then decide (t="woman") else if k="father" then decide (t="man") else decide (k="sibling")||(decide (h="man")&&decide (t="woman"))
inductive Sq(a:O V)(H:Hp)(Q:VK)(E:XK):Prop
 |mk (k h t:ar) (b:a=[.str k,.str h,.str t]) (q:Q (.bl (mO k h t)) H)
structure T4(b:BS)(k a:ar)(o:ar):Prop where
 par:cW k=af->[.inr k,.inr a]∉(cF b.ps b.fs).map (·.1)
 aN:cW k=a8->keyOf k a (.inr o)∉b.keys/\¬(k="sibling"/\a=o)
inductive T5(C CL CJ:Z)(g:O V)(H:Hp)(Q:VK)(E:XK):Prop
 |mk (l:BL) (b:BS) (e d:O Int) (k a o:ar) (i:g=[.ref l.h,.str k,.str a,.str o]) (h:bb H C CL CJ l e d b) (un:T4 b k a o) (q:∀c,ai H c->Q (.bl a8) c)
inductive Q4(C CL CJ:Z)(h:O V)(H:Hp)(Q:VK)(E:XK):Prop
 |mk (l:BL) (b:BS) (d c:O Int) (e a:ar) (k:h=[.ref l.h,.str e,.str a]) (j:bb H C CL CJ l d c b) (ok:cI d c b) (i:a∈b.ps.map (·.1)) (no:¬h_ b a e) (q:∀g,ai H g->Q .aE g)
structure Lu(xs ys:O Int)(b:BS)(c:Fc):Prop where
 nf:Dq xs ys b c
 ns:c.k≠bj
 dq:mO c.k (gq b.ps c.one) (gq b.ps c.aN.toNat)=af
 un:T4 b c.k (av b.ps c.one) (av b.ps c.aN.toNat)
 el:cW c.k=af->¬h_ b (av b.ps c.aN.toNat) (av b.ps c.one)
inductive Q5(C CL CJ:Z)(g:O V)(H:Hp)(Q:VK)(E:XK):Prop
 |mk (l:BL) (b:BS) (d a:O Int) (c:Fc) (j:g=[.ref l.h,.str c.k,.str (av b.ps c.one),.str (av b.ps c.aN.toNat)]) (i:bb H C CL CJ l d a b) (ok:cI d a b) (h:Lu d a b c) (q:∀e,ai H e->Q .aE e)
inductive T6(C CL CJ:Z)(h:O V)(H:Hp)(Q:VK)(E:XK):Prop
 |mk (l:BL) (b:BS) (d a:O Int) (c:Fc) (k:h=[.ref l.h,.str c.k,.str (av b.ps c.one),.str (av b.ps c.aN.toNat)]) (j:bb H C CL CJ l d a b) (ok:cI d a b) (i:Lu d a b c) (dl:b.dn.length<200) (q:∀(g:BL) (e:Hp),bP H e l g->bb e C CL CJ g d a (b.zY c)->Q (.int (b.co:Int)) e)
structure UY(xs ys:O Int)(b:BS)(c:Fc):Prop where
 nf:Dq xs ys b c
 sk:c.k=bj
inductive Q6(C CL CJ:Z)(g:O V)(H:Hp)(Q:VK)(E:XK):Prop
 |mk (l:BL) (b:BS) (d a:O Int) (c:Fc) (j:g=[.ref l.h,.str (av b.ps c.one),.int c.aN]) (i:bb H C CL CJ l d a b) (ok:cI d a b) (h:UY d a b c) (q:∀e,ai H e->Q .aE e)
inductive P8(C CL CJ:Z)(e:O V)(H:Hp)(Q:VK)(E:XK):Prop
 |mk (l:BL) (b:BS) (a d:O Int) (i:Int) (j:e=[.ref l.h,.int i]) (h:bb H C CL CJ l a d b) (g:0<=i/\i<(a.length:Int)) (q:∀c,ai H c->Q .aE c)
inductive T7(C CL CJ:Z)(h:O V)(H:Hp)(Q:VK)(E:XK):Prop
 |mk (l:BL) (b:BS) (d a:O Int) (c:Fc) (k:h=[.ref l.h,.str (av b.ps c.one),.int c.aN]) (j:bb H C CL CJ l d a b) (ok:cI d a b) (i:UY d a b c) (dl:b.dn.length<200) (q:∀(g:BL) (e:Hp),bP H e l g->bb e C CL CJ g d a (b.zY c)->Q (.int (b.co:Int)) e)
def dY(x y:ar):decide (V.str x=V.str y)=decide (x=y):=by
 grind
abbrev Dw:O ar:=["kind","here","there"]
def ZbF:aP Dw Dw (aJ GR):=.aY
theorem ZbG(F:aM K "sides_fit" "sides_fit" GR f fd)(d:mg "MAN"=U (.str "man" t1))(c:mg "WOMAN"=U (.str "woman" m))(i:mg "SIBLING"=U (.str "sibling" t3)):aB P w K mg I aL 1 f fd Dw Sq:=by
 refine F.o ZbF λs H n h=>?_;obtain⟨k,h,t,rfl,q⟩:=h;refine⟨_,(aj (aR (bp bZ (pv 0) aV) (au (aH (eY bZ (pv 2) (dA (v:=.str "woman") rfl c ⟨_,rfl⟩)))) aW) (aj (aR (bp bZ (pv 0) aV) (au (aH (eY bZ (pv 2) (dA (v:=.str "man") rfl d ⟨_,rfl⟩)))) aW) (au (aH (K9 (eY bZ (pv 0) (dA (v:=.str "sibling") rfl i ⟨_,rfl⟩)) (nM (qp (eY bZ (pv 1) (dA (v:=.str "man") rfl d ⟨_,rfl⟩)) (nM (eY bZ (pv 2) (dA (v:=.str "woman") rfl c ⟨_,rfl⟩)))))))))),?_⟩;unfold mO at q;refine⟨_,rfl,rfl,_,rfl,?_⟩;rw[dY];refine bc (λa=>?_) (λa=>aT ?_)
 ·rw[bS (fb a)] at q;refine⟨_,rfl,rfl,?_⟩;rwa[dY]
 ·rw[bt (λz=>a (d6 z))] at q;refine⟨_,rfl,rfl,_,rfl,?_⟩;rw[dY];refine bc (λb=>?_) (λb=>aT ?_)
  ·rw[bS (fb b)] at q;refine⟨_,rfl,rfl,?_⟩;rwa[dY]
  ·rw[bt (λz=>b (d6 z))] at q;refine⟨_,rfl,rfl,_,rfl,?_⟩;rw[dY];refine bc (λl=>?_) (λl=>?_);·grind
   ·have j:decide (k="sibling")=a8:=by
     cases e:decide (k="sibling") with
     |true=>grind
     |false=>rfl
    rw[j,D4] at q;refine⟨_,rfl,rfl,_,rfl,?_⟩;rw[dY];refine bc (λg=>?_) (λg=>?_)
    ·rw[g,J8] at q;refine⟨_,rfl,rfl,?_⟩;rwa[dY]
    ·grind
abbrev kH:O ar:=["hearth","kind","one","other"]
def ZaC:aP kH kH (aJ FR):=.aY
theorem Zg0(F:aM K "told_already" "told_already" FR f fd)(B:mg "SIBLING"=U (.str "sibling" t1))(G:mg "PARENTS"=U (.ref g))(D:∀H,az K H g (jD.map V.str))(J:b_ P w K mg I 1 "parent_of" C Dp (O6 C CL CJ))(x:b_ P w K mg I 2 "has" C qK (Lq C CL CJ)):aB P w K mg I aL 3 f fd kH (T5 C CL CJ):=by
 refine F.o ZaC λs H p h=>?_;obtain⟨l,b,n,m,k,a,o,rfl,j,un,q⟩:=h;refine⟨_,(aj (aR (fY (lJ (K:=K) rfl) (pv 1) (dA (v:=.ref g) rfl G rfl) (by with_unfolding_all rfl)) (au (aH (eY Cc (cJ J p (by decide) (pv 0) (aa (pv 1) (aa (pv 2) ae))) nL))) aW) (au (aH (K9 (cJ x p (by decide) (pv 0) (aa (pv 1) (aa (pv 2) (aa (pv 3) ae)))) (nM (qp (eY bZ (pv 1) (dA (v:=.str "sibling") rfl B ⟨_,rfl⟩)) (nM (eY bZ (pv 2) (pv 3))))))))),?_⟩;obtain⟨t,r⟩:=j.obj;refine⟨_,rfl,g,_,rfl,.inr (D _),rfl,rfl,_,rfl,?_⟩;try dsimp only
 rw[bt Yh,Cr k];refine bc (λi=>?_) (λi=>aT ?_)
 ·refine⟨_,rfl,l.h,t,_,rfl,r,rfl,_,rfl,_,rfl,l,b,n,m,k,a,rfl,j,λd c=>?_⟩;rw[rC (un.par i)];exact⟨rfl,q d c⟩
 ·have E:cW k=a8:=by
   cases e:cW k with
   |true=>exact absurd e i
   |false=>rfl
  obtain⟨A,y⟩:=un.aN E;refine⟨_,rfl,l.h,t,_,rfl,r,rfl,_,rfl,_,rfl,_,rfl,l,b,n,m,k,a,.inr o,rfl,j,λ_=>⟨o,rfl⟩,λd c=>⟨_,rfl,?_⟩⟩;have e:b.told (keyOf k a (.inr o))=a8:=by
   cases e:b.told (keyOf k a (.inr o)) with
   |true=>exact absurd ((QS _ _).mp e) A
   |false=>rfl
  rw[e];refine bW ?_;refine⟨_,rfl,rfl,_,rfl,?_⟩;rw[dY];refine bc (λu=>?_) (λu=>?_)
  ·refine⟨_,rfl,_,rfl,rfl,?_⟩;rw[dY,g_ (λz=>y ⟨fb u,z⟩)];exact q d c
  ·exact q d c
abbrev LY:O ar:=["hearth","child","parent"]
def Oe:aP ["hearth","child","parent","lines"] LY (aJ FT):=.aY
def ZaD(F:aM K "check_elders" "check_elders" FT f fd)(n:HasFn P w K mg I 2 "lines_up" LX (So C CL CJ)):aB P w K mg I aL 4 f fd LY (Q4 C CL CJ):=by
 refine F.o Oe λs H c h=>?_;obtain⟨l,b,e,d,k,g,rfl,m,ok,j,no,q⟩:=h;refine⟨_,(aj (bh 3 Oe.nd (aQ n c (aa (pv 0) (aa (pv 2) ae)))) (au (aR (jU (CB (bF c) (pv 1) (pv 3)) (by with_unfolding_all rfl)) ia aW))),?_⟩;refine⟨_,rfl,_,rfl,l,b,e,d,g,rfl,m,ok,j,λp r t o a iff=>a_ ?_⟩;have i:=λz=>no ((iff k).mp z);exact⟨_,rfl,_,rfl,p,aG,rfl,dh a.at_ (JR a.len i),_,rfl,bW (aT (q o a.same))⟩
def ZbH:aP kH kH (aJ GQ):=.aY
def ZbI(F:aM K "check_tie" "check_tie" GQ f fd)(y:mg "PARENTS"=U (.ref k))(x:∀H,az K H k (jD.map V.str))(u:HasFn P w K mg I 1 "is_tie" ["kind"] Co)(D:HasFn P w K mg I 1 "sides_fit" Dw Sq)(m:b_ P w K mg I 1 "side_of" C kG (JP C CL CJ))(L:HasFn P w K mg I 3 "told_already" kH (T5 C CL CJ))(J:HasFn P w K mg I 4 "check_elders" LY (Q4 C CL CJ)):aB P w K mg I aL 6 f fd kH (Q5 C CL CJ):=by
 refine F.o ZbH λs H d h=>?_;obtain⟨l,b,i,g,c,rfl,e,ok,a,q⟩:=h;refine⟨_,(aj (aR (ju (e_ (aQ u d (aa (pv 1) ae)))) ia aW) (aj (aR (ju (e_ (aQ D d (aa (pv 1) (aa (cJ m d (by decide) (pv 0) (aa (pv 2) ae)) (aa (cJ m d (by decide) (pv 0) (aa (pv 3) ae)) ae)))))) ia aW) (aj (aR (e_ (aQ L d (aa (pv 0) (aa (pv 1) (aa (pv 2) (aa (pv 3) ae)))))) ia aW) (au (aR (fY (lJ (K:=K) rfl) (pv 1) (dA (v:=.ref k) rfl y rfl) (by with_unfolding_all rfl)) (au (cE (aQ J d (aa (pv 0) (aa (pv 2) (aa (pv 3) ae)))))) aW))))),?_⟩;obtain⟨p,o⟩:=e.obj;obtain⟨r,B,N⟩:=ua (a.nf.fg.uL a.ns);have z:dM d9 c.k=af:=by unfold dM;rw[B];rfl
 have n:=(a.nf.fg.ok.iy a.ns).1.2;refine⟨_,rfl,c.k,rfl,_,rfl,?_⟩;rw[z];refine⟨_,rfl,_,rfl,l.h,p,_,rfl,o,rfl,_,rfl,l,b,i,g,_,_,rfl,e,qm ok.nm a.nf.fg.ok.one,⟨_,rfl,l.h,p,_,rfl,o,rfl,_,rfl,l,b,i,g,_,_,rfl,e,qm ok.nm n,⟨c.k,_,_,rfl,_,rfl,?_⟩⟩⟩;rw[a.dq];refine⟨_,rfl,_,rfl,_,rfl,_,rfl,l,b,i,g,c.k,_,_,rfl,e,a.un,λG j=>⟨_,rfl,bW (aT ⟨_,rfl,k,_,rfl,.inr (x _),rfl,rfl,_,rfl,?_⟩)⟩⟩;rw[bt Yh,Cr c.k];refine bc (λt=>⟨_,rfl,_,rfl,_,rfl,l,b,i,g,_,_,rfl,e.same j,ok,uw n,a.el t,λE A=>q E (j.trans A)⟩) (λt=>aT (q G j))
abbrev Dx:O ar:=["hearth","section"]
def Zaq:aP Dx Dx (aJ Fy):=.aY
def Zar(F:aM K "check_section" "check_section" Fy f fd)(c:fG K C)(a:uJ K CL)(r:Bl mg):aB P w K mg I aL 1 f fd Dx (P8 C CL CJ):=by
 refine F.o Zaq λs H E h=>?_;obtain⟨l,b,v,u,i,rfl,d,g,q⟩:=h;refine⟨_,(au (aR (fY Zbu (pv 1) (fO Gs rfl r.kY xh (aa (xw rfl (pF K 0) rfl) ae)) (by with_unfolding_all rfl)) ia aW)),?_⟩;obtain⟨n,k⟩:=d.obj;obtain⟨o,J,z,G,x,D,A,B,L,j,_⟩:=d.landAt;refine⟨_,rfl,_,rfl,l.h,C,n,_,_,rfl,k,c.cls,c.sr,rfl,l.L,CL,o,_,_,rfl,j,a.cls,a.uD,rfl,_,rfl,λp t y m e=>?_⟩;refine⟨_,_,_,p,rfl,rfl,e,_,rfl,?_⟩;rw[bS rfl,d6 g];exact bW (aT (q t m))
abbrev Dy:O ar:=["hearth","name","section"]
def ZaE:aP Dy Dy (aJ FU):=.aY
theorem ZaF(F:aM K "check_saying" "check_saying" FU f fd)(r:mg "SAID"=U (.str "said" t1))(p:b_ P w K mg I 1 "side_of" C kG (JP C CL CJ))(y:HasFn P w K mg I 1 "check_section" Dx (P8 C CL CJ))(o:b_ P w K mg I 2 "has" C qK (Lq C CL CJ)):aB P w K mg I aL 3 f fd Dy (Q6 C CL CJ):=by
 refine F.o ZaE λs H j h=>?_;obtain⟨l,b,i,g,c,rfl,d,ok,a,q⟩:=h;refine⟨_,(aj (cE (cJ p j (by decide) (pv 0) (aa (pv 1) ae))) (aj (cE (aQ y j (aa (pv 0) (aa (pv 2) ae)))) (au (aR (e_ (cJ o j (by decide) (pv 0) (aa (dA (v:=.str "said") rfl r ⟨_,rfl⟩) (aa (pv 1) (aa (pv 2) ae))))) ia aW)))),?_⟩;obtain⟨n,m⟩:=d.obj;refine⟨_,rfl,l.h,n,_,rfl,m,rfl,_,rfl,l,b,i,g,_,_,rfl,d,qm ok.nm a.nf.fg.ok.one,⟨_,rfl,_,rfl,l,b,i,g,c.aN,rfl,d,a.nf.fg.LV a.sk,λA k=>⟨_,rfl,l.h,n,_,rfl,k _ _ m,rfl,_,rfl,_,rfl,l,b,i,g,"said",av b.ps c.one,.inl c.aN,rfl,d.same k,(λz=>absurd z (by decide+kernel)),λx t=>⟨_,rfl,?_⟩⟩⟩⟩;have u:keyOf "said" (av b.ps c.one) (.inl c.aN)=gf b.ps c:=by
  unfold gf;rw[oM a.sk,a.sk]
 have e:b.told (keyOf "said" (av b.ps c.one) (.inl c.aN))=a8:=by
  cases e:b.told (keyOf "said" (av b.ps c.one) (.inl c.aN)) with
  |true=>exact absurd ((QS _ _).mp e) (by exact u▸a.nf.nk)
  |false=>rfl
 exact e▸bW (aT (q x (k.trans t)))
def Zbe:aP qK qK (aJ Gz):=.aY
def Zg1(F:aM K "tie" "Hearth.tie" Gz f fd)(i:fG K C)(A:HasFn P w K mg I 6 "check_tie" kH (Q5 C CL CJ))(u:b_ P w K mg I 11 "keep" C u7 (K0 C CL CJ)):aB P w K mg I aL 12 f fd qK (T6 C CL CJ):=by
 refine F.o Zbe λs H g h=>?_;obtain⟨l,b,e,d,c,rfl,o,ok,a,dl,q⟩:=h;refine⟨_,(aj (cE (aQ A g (aa (pv 0) (aa (pv 1) (aa (pv 2) (aa (pv 3) ae)))))) (au (aH (cJ u g (by decide) (pv 0) (aa (cU (aa (pF K 0) (aa (pv 1) (aa (pv 2) (aa (pv 3) ae))))) ae))))),?_⟩;refine⟨_,rfl,_,rfl,_,rfl,_,rfl,l,b,e,d,c,rfl,o,ok,a,λG m=>?_⟩;have p:=o.same m;obtain⟨n,j⟩:=p.obj;refine⟨_,rfl,l.h,n,_,rfl,j,rfl,_,rfl,l.h,C,n,_,_,rfl,j,i.cls,i.rS,rfl,_,rfl,_,rfl,_,rfl,by show 4<=sizeLine;decide,λr t D k E=>?_⟩;have z:dP t b.ps r (b.co,c):=by
  show t r=U (.tup ((eS b.ps b.co c).map kV));unfold eS;rwa[iX a.ns]
 refine⟨l,b,e,d,r,c,rfl,p.same k,ok,z,a.nf,dl,λy B v x=>q y B (bP.after (m.trans k) v) x⟩
abbrev Dz:O ar:=["self","name","section"]
def Zbf:aP Dz Dz (aJ GA):=.aY
def Zg2(F:aM K "say" "Hearth.say" GA f fd)(i:fG K C)(z:mg "SAID"=U (.str "said" t1))(E:HasFn P w K mg I 3 "check_saying" Dy (Q6 C CL CJ))(u:b_ P w K mg I 11 "keep" C u7 (K0 C CL CJ)):aB P w K mg I aL 12 f fd Dz (T7 C CL CJ):=by
 refine F.o Zbf λs H g h=>?_;obtain⟨l,b,e,d,c,rfl,o,ok,a,dl,q⟩:=h;refine⟨_,(aj (cE (aQ E g (aa (pv 0) (aa (pv 1) (aa (pv 2) ae))))) (au (aH (cJ u g (by decide) (pv 0) (aa (cU (aa (pF K 0) (aa (dA (v:=.str "said") rfl z ⟨_,rfl⟩) (aa (pv 1) (aa (pv 2) ae))))) ae))))),?_⟩;refine⟨_,rfl,_,rfl,_,rfl,l,b,e,d,c,rfl,o,ok,a,λL m=>?_⟩;have p:=o.same m;obtain⟨n,j⟩:=p.obj;refine⟨_,rfl,l.h,n,_,rfl,j,rfl,_,rfl,l.h,C,n,_,_,rfl,j,i.cls,i.rS,rfl,_,rfl,_,rfl,by show 4<=sizeLine;decide,λr t G k J=>?_⟩;have B:dP t b.ps r (b.co,c):=by
  show t r=U (.tup ((eS b.ps b.co c).map kV));unfold eS;rwa[oM a.sk,a.sk]
 refine⟨l,b,e,d,r,c,rfl,p.same k,ok,B,a.nf,dl,λA D x y=>q A D (bP.after (m.trans k) x) y⟩
def pQ(n:Nat)(d:Int):O Int:=(List.range n).map λi:Nat=>((i:Int)+d) % (n:Int)
def rot_length(n:Nat)(d:Int):(pQ n d).length=n:=by simp[pQ]
def ZfN(q:0<n)(d:Int):(pQ n d).Perm (bB n):=by
 have g:(0:Int)<(n:Int):=by omega
 have j:=Jg d (Mx g);have p:=W5 d g;obtain⟨r,k⟩:∃r:Nat,d % (n:Int)=(r:Int):=⟨(d % (n:Int)).toNat,my (uG j)⟩;have o:r<n:=by omega
 have e:pQ n d=(bB n).drop r++(bB n).take r:=by
  refine Ww λi=>?_;have a:=fN n;by_cases c:i<n
  ·have b:(pQ n d)[i]?=U (((i:Int)+d) % (n:Int)):=by
    unfold pQ;rw[Ye,Jj c];rfl
   have l:((i:Int)+d) % (n:Int)=((r:Int)+(i:Int)) % (n:Int):=by
    rw[Int.add_comm,←Int.emod_add_emod,k]
   rw[b,l];by_cases h:r+i<n;·rw[Wg (by rw[Jz,a];omega),List.getElem?_drop,nH h,SF (by omega) (by omega),WV]
   ·rw[Jw (by rw[Jz,a];omega),Jz,a,AN (by omega),nH (Nat.sub_lt_of_lt c)];have m:(r:Int)+(i:Int)=((i-(n-r):Nat):Int)+(n:Int)*1:=by omega
    rw[m,Int.add_mul_emod_self_left,SF (nV _) (by omega)]
  ·rw[Y4 (by rw[rot_length];exact gV c),Y4 (by rw[Yl,Jz,Wb,a];omega)]
 exact e▸List.perm_append_comm.trans (by rw[List.take_append_drop])
inductive Sr(b:O V)(H:Hp)(Q:VK):Prop
 |mk (c:Int) (n:Nat) (h:b=[.int c,.int (n:Int)]) (i:0<n) (e:n<=60) (g:∀(t:Z) (d:O Int) (a:Hp),H t=aG->ai H a->bO a t d->d.Perm (bB n)->Q (.ref t) a):Sr b H Q
def UZ:Sp:=λa H Q _=>Sr a H Q
inductive Ss(K:ah)(g:O V)(H:Hp)(Q:VK):Prop
 |mk (a b:Z) (c d:O Int) (m:g=[.ref a,.ref b]) (n:az K H a (c.map V.int)) (j:az K H b (d.map V.int)) (k:(∀x∈c,0<=x/\x<d.length)) (i:c.length<=60) (h:∀(l:Z) (e:Hp),H l=aG->ai H e->bO e l (bL d c)->Q (.ref l) e):Ss K g H Q
def U0(K:ah):Sp:=λa H Q _=>Ss K a H Q
def Zg3(h:Paired Bd ds [a,b]):∃v w,ds=[v,w]/\Bd v a/\Bd w b:=by
 cases h with|cons d h=>cases h with|cons c h=>
  cases h;exact⟨_,_,rfl,d,c⟩
abbrev LZ:O ar:=["_law_cell_here","_law_size"]
def O9:aP ["_law_cell_here","_law_size","_law_drawn"] LZ (aJ IE):=.aY
def Zdn(F:aM K "_law_row" "_law_row" IE f fd)(N:HasFn P w K mg I 1 "_law_draws" yo (zB K))(Ib:HasFn P w K mg I 1 "_law_turn" MU Th)(B:Bl mg):
  aB P w K mg I aL 2 f fd LZ UZ:=by
 refine F.o O9 λs H y h=>?_;obtain⟨c,n,rfl,Q,r,q⟩:=h;refine⟨_,(aj (iF (i:=2) O9.nd rfl (kO rfl) (aQ N y (aa (pv 0) (aa (zJ (aa aw (aa aw ae))) ae)))) (aj (aR (bp bZ (aI (iL K) (pv 2) aw) aw) (au (aH (fO (wu) rfl B.oQ oN (aa (jS (fr:=[("_law_size",1),("_law_drawn",2)]) (cl:=[("_law_size",s.heap.objs.size+1),("_law_drawn",s.heap.objs.size+1+1)]) rfl (.ir ⟨rfl,⟨rfl,trivial⟩⟩ ⟨⟨rfl,.inl rfl,.inl rfl,rfl⟩,⟨⟨rfl,.inl rfl,.inl rfl,rfl⟩,trivial⟩⟩) (rL rfl B.kY (aa (pv 1) ae)) (λ_ _ _ _=>nI) (λ_ _ _ _=>(aZ dO (aZ iG (pv 0) (aI (iL K) (pv 2) aw)) (pv 1)))) ae)))) aW) (au (aH (aQ Ib y (aa (aI (iL K) (pv 2) aw) (aa (pv 1) ae))))))),?_⟩;refine⟨_,rfl,by decide,λp L=>?_⟩;refine⟨c,p,[3,40320],rfl,aq.of aU,by decide,by decide,λdl ds H1 nd T v X=>?_⟩;obtain⟨W,a,rfl,⟨a0,a0'⟩,⟨a1,a1'⟩⟩:=Zg3 X;have g:=(cC L _).trans T;have m:(0:Int)<(n:Int):=by omega
 refine⟨_,rfl,dl,_,0,.int W,rfl,rfl,aq.of v,rfl,rfl,_,rfl,bc (λ_=>?_) (λ_=>aT ?_)⟩
 ·refine⟨_,rfl,(n:Int),rfl,by omega,by omega,λD A=>zd (λi j e=>ai H1 e/\e D=U (.lst j)/\j=((pQ n a).take i).map V.int) ⟨cC A _,aU,rfl⟩ ?_ ?_⟩
  ·rintro i j e z ⟨b,u,k⟩;rw[Y6] at z;rw[Ec];refine mV (cZ ⟨_,rfl,_,rfl,dl,_,1,.int a,rfl,rfl,aq.of (b _ _ v),rfl,_,_,rfl,rfl,_,rfl,_,_,rfl,rfl,m,u,?_,λd o x=>?_,aU,?_⟩)
   ·rw[k,Ya,Wb,rot_length];exact kU (by omega)
   ·rw[aK (cA x A)];exact b d o x
   ·have R:(pQ n a)[i]?=U (((i:Int)+a) % (n:Int)):=by
     unfold pQ;rw[Ye,Jj z];rfl
    rw[k,Y1,Iu,R];rfl
  ·rintro j e ⟨b,u,k⟩;rw[Y6,Wz (by rw[rot_length];exact m6 _)] at k;refine⟨D,_,rfl,.inl ⟨aq.of u,λt l=>q t (pQ n a) _ (g.free (b.free l)) ((g.trans b).trans (cC l _)) ?_ (ZfN Q a)⟩⟩;show upd e t (.tup j) t=_;rw[aU,k]
 ·exact⟨_,rfl,dl,_,1,.int a,rfl,rfl,aq.of v,rfl,_,rfl,a,n,rfl,r,λt E e J b l G=>q t E e (g.free J) (g.trans b) l G⟩
abbrev DA:O ar:=["_law_first","_law_then"]
def ZbJ:aP DA DA (aJ GU):=.aY
def ZbK(F:aM K "_law_after" "_law_after" GU f fd)(J:Bl mg):aB P w K mg I aL 1 f fd DA (U0 K):=by
 refine F.o ZbJ λs H L h=>?_;obtain⟨a,b,A,y,rfl,r,G,B,N,q⟩:=h;refine⟨_,(au (aH (fO (wu) rfl J.oQ oN (aa (jS (x:="_law_one") (fr:=[("_law_then",1)]) (cl:=[("_law_then",s.heap.objs.size+1)]) rfl (.ir ⟨rfl,trivial⟩ ⟨⟨rfl,.inl rfl,.inl rfl,rfl⟩,trivial⟩) (Kr (pv 0)) (λ_ _ _ _=>nI) (λ_ _ _ _=>(aI (iT K) (pv 1) (pv 0)))) ae)))),?_⟩;refine⟨_,rfl,a,rfl,⟨_,r⟩,λD p=>BV (λi e g=>ai H g/\g D=U (.lst e)/\e=((bL y A).take i).map V.int) ⟨cC p _,aU,rfl⟩ (λi e g _ ⟨c,_,_⟩=>c.kg r) ?_ ?_⟩
 ·rintro i v e g E ⟨c,k,j⟩;obtain⟨z,rfl,m⟩:=nJ E;have u:=B z (Yg m);refine mV (cZ ⟨_,rfl,_,rfl,b,_,_,_,rfl,rfl,c.kg G,oV u.1 u.2,k,?_,λd o l=>?_,aU,?_⟩)
  ·rw[j,Ya,Wb,uf];exact kU (by omega)
  ·rw[aK (cA l p)];exact c d o l
  ·rw[j,Y1,Iu];unfold bL;rw[Ye,m];rfl
 ·rintro e g ⟨c,k,j⟩;refine⟨D,_,rfl,.inl ⟨aq.of k,λt n=>q t _ (c.free n) (c.trans (cC n _)) ?_⟩⟩;show upd g t (.tup e) t=_;rw[aU,j,Ya,Wz (by rw[uf];exact m6 _)]
inductive Su(d:O V)(H:Hp)(Q:VK):Prop
 |mk (a:Z) (b:O Int) (i:d=[.ref a]) (j:bO H a b) (g:b.length<64) (h:full b=af) (e:∀(t:Z) (c:Hp),H t=aG->ai H c->bO c t (inv b)->Q (.ref t) c):Su d H Q
def Lv:Sp:=λa H Q _=>Su a H Q
abbrev Ag:O ar:=["_law_turn_here"]
def ZaV:aP Ag Ag (aJ F_):=.aY
def Zdo(F:aM K "_law_inverse" "_law_inverse" F_ f fd)(n:Bl mg):aB P w K mg I aL 1 f fd Ag Lv:=by
 refine F.o ZaV λs H E h=>?_;obtain⟨a,c,rfl,y,B,A,q⟩:=h;refine⟨_,(au (aH (fO (wu) rfl n.oQ oN (aa (jS (x:="_law_at") (fr:=[("_law_turn_here",0)]) (cl:=[("_law_turn_here",s.heap.objs.size+1)]) rfl (.ir ⟨rfl,trivial⟩ ⟨⟨rfl,.inl rfl,.inl rfl,rfl⟩,trivial⟩) (rL rfl n.kY (aa (cT K n (pv 0)) ae)) (λ_ _ _ _=>nI) (λ_ _ _ _=>(Ou (pv 1) (aa (pv 0) ae)))) ae)))),?_⟩;have j:(c.map V.int).length=c.length:=Ya _;refine⟨_,rfl,a,_,rfl,.inr (az.of y),_,rfl,by rw[j];omega,by rw[j];omega,λD v=>zd
   (λi b g=>ai H g/\g D=U (.lst b)/\b=((inv c).take i).map V.int) ⟨cC v _,aU,rfl⟩ ?_ ?_⟩
 ·rintro i b g l ⟨e,m,k⟩;rw[Y6,j] at l;rw[Ec];have r:=B4 (QC A l);have z:=e _ _ y;refine mV (cZ ⟨_,rfl,a,c,rfl,z,_,rfl,(i:Int),lF (i:Int) c,rfl,z,r.1,r.2,m,?_,λd o p=>?_,aU,?_⟩)
  ·rw[k,Ya,Wb,fV];exact kU (by omega)
  ·rw[aK (cA p v)];exact e d o p
  ·rw[k,QD l,Yo];rfl
 ·rintro b g ⟨e,m,k⟩;refine⟨D,_,rfl,.inl ⟨aq.of m,λt u=>q t _ (e.free u) (e.trans (cC u _)) ?_⟩⟩;show upd g t (.tup b) t=_;rw[aU,k,Y6,j,Wz (by rw[fV];exact m6 _)]
structure j_(H0 H:Hp)(ps:bA)(d:Z)(b:Nat)(kvs:O (Key×V))(L:Nat->O (Nat×O Int)):Prop where
 dict:H d=U (.dK kvs)
 len:kvs.length<=b
 new:H0 d=aG
 at_:∀x:Nat,x<ps.length->(aX kvs (.inr (av ps x))=aG/\L x=[])\/∃(a:Z) (es:O Z),aX kvs (.inr (av ps x))=U (.ref a)/\H0 a=aG/\H a=U (.lst (es.map V.ref))/\(L x).length<=b/\Paired (λe (p:Nat×O Int)=>∃u,H e=U (.tup [.str (av ps p.1),.ref u])/\bO H u p.2) es (L x)
 inj:∀(x y:Nat) (a:Z),x<ps.length->y<ps.length->aX kvs (.inr (av ps x))=U (.ref a)->aX kvs (.inr (av ps y))=U (.ref a)->x=y
def oS(b:(a.map (·.1)).Nodup)(d:i<a.length)(c:j<a.length)(e:av a i=av a j):i=j:=by
 have g:=uv b d;rw[e,uv b c] at g
 grind
def j_.same(g:ai H s)(h:j_ r H e d b c L):j_ r s e d b c L:=by
 refine⟨g _ _ h.dict,h.len,h.new,λx i=>?_,h.inj⟩;rcases h.at_ x i with z|⟨a,o,n,m,l,k,j⟩;·exact .inl z
 ·exact .inr ⟨a,o,n,m,g _ _ l,k,L2.Paired.bI j λ_ _ ⟨u,q,p⟩=>⟨u,g _ _ q,g _ _ p⟩⟩
def j_.app(h:j_ H0 H i d b l L)(X:x<i.length)(G:aX l (.inr (av i x))=U (.ref a))(j:H a=U (.lst ys))(N:H e=U (.tup [.str (av i y),.ref u]))(J:bO H u t)(k:aF a H r)(W:r a=U (.lst (ys++[.ref e]))):j_ H0 r i d (b+1) l (u4 L x (y,t)):=by
 have m:∀{c:Z} {F:O V},H c=U (.tup F)->c≠a:=λ{c F} hc=>eA hc j (λz=>by cases z);refine⟨k _ _ h.dict (eA h.dict j (λz=>by cases z)),by have:=h.len;exact lM this,h.new,λz s=>?_,h.inj⟩;have Q:∀{g:O Z} {qs:O (Nat×O Int)},Paired (λe (p:Nat×O Int)=>∃u,H e=U (.tup [.str (av i p.1),.ref u])/\bO H u p.2) g qs->Paired (λe (p:Nat×O Int)=>∃u,r e=U (.tup [.str (av i p.1),.ref u])/\bO r u p.2) g qs:=λ{g qs} hp=>L2.Paired.bI hp λ_ _ ⟨u,T,R⟩=>⟨u,k _ _ T (m T),k _ _ R (m R)⟩;by_cases D:z=x
 ·subst D;rcases h.at_ z s with⟨E,_⟩|⟨o,g,n,B,A,P,v⟩;·grind
  ·obtain rfl:o=a:=V.ref.inj (Yn (n.symm.trans G));rw[A] at j;obtain rfl:g.map V.ref=ys:=by injection j with j;injection j
   refine .inr ⟨o,g++[e],n,B,by rw[W,Yo];rfl,?_,?_⟩;·unfold u4;rw[bS rfl,Yl];show(L z).length+1<=b+1;omega
   ·unfold u4;rw[bS rfl];exact kq ⟨u,k _ _ N (m N),k _ _ (J) (m (J))⟩ (Q v)
 ·unfold u4;rw[bt D];rcases h.at_ z s with E|⟨o,g,n,B,A,P,v⟩;·exact .inl E
  ·refine .inr ⟨o,g,n,B,k _ _ A (λq=>D (h.inj z x a s X (by rwa[←q]) G)),lM P,Q v⟩
def j_.neu(X:j_ H0 Hb l d b i L)(A:(l.map (·.1)).Nodup)(D:x<l.length)(g:ai Hb H)(np:Hb p=aG)(EM:H0 p=aG)(J:aX i (.inr (av l x))=aG)(W:H p=U (.lst []))(E:aF d H H')(DO:H' d=U (.dK (i++[(.inr (av l x),.ref p)]))):j_ H0 H' l d (b+1) (i++[(.inr (av l x),.ref p)]) L:=by
 have h:=X.same g;have R:∀{c:Z} {r:O V},H c=U (.tup r)->c≠d:=λ{c r} N=>eA N h.dict (λz=>by cases z);have T:∀{c:Z} {r:O V},H c=U (.lst r)->c≠d:=λ{c r} N=>eA N h.dict (λz=>by cases z);refine⟨DO,by rw[Yl];have:=h.len;show i.length+1<=b+1;omega,h.new,λz v=>?_,λo n a G B k j=>?_⟩
 ·rw[wX J];by_cases P:z=x
  ·rw[bS (by rw[P])];rcases h.at_ z v with⟨_,n⟩|⟨a1,Q,m,_⟩;·exact .inr ⟨p,[],rfl,EM,E _ _ W (T W),by exact n▸Yx _,by exact n▸.nil⟩
   ·rw[P,J] at m;cases m
  ·rw[bt (λq=>P (oS A v D (Wh q)))];rcases h.at_ z v with o|⟨a1,Q,m,h2,y,h4,h5⟩;·exact .inl o
   ·exact .inr ⟨a1,Q,m,h2,E _ _ y (T y),lM h4,L2.Paired.bI h5 λ_ _ ⟨u,k,j⟩=>⟨u,E _ _ k (R k),E _ _ j (R j)⟩⟩
 ·have t:∀{z:Nat},z<l.length->aX i (.inr (av l z))=U (.ref p)->False:=λ{z} v e=>by
   rcases X.at_ z v with⟨o,_⟩|⟨a1,Q,m,h2,y,_⟩;·rw[o] at e;cases e
   ·rw[e] at m;obtain rfl:p=a1:=V.ref.inj (Yn m);rw[np] at y;cases y
  rw[wX J] at k j;by_cases F:o=x
  ·by_cases s:n=x;·rw[F,s]
   ·rw[bS (by rw[F])] at k;rw[bt (λq=>s (oS A B D (Wh q))),←k] at j;exact absurd j (t B)
  ·rw[bt (λq=>F (oS A G D (Wh q)))] at k;by_cases s:n=x
   ·rw[bS (by rw[s])] at j;rw[←j] at k;exact absurd k (t G)
   ·rw[bt (λq=>s (oS A B D (Wh q)))] at j;exact h.inj _ _ a G B k j
def P9(h2:∀H Q,Q (.ref d) H->gX 2 σ H Q)(nd:(ps.map (·.1)).Nodup)(E:x<ps.length)(hi:∀H Q,Q (.str (av ps x)) H->gX i σ H Q)(hk:∀H Q,Q (.str (av ps y)) H->gX k σ H Q)(h:j_ n H ps d b m L)(g:ai n H)(lb:b<1000)
  (hx:∀(B:Hp) (Q1:VK),ai n B->(∀(u:Z) (H2:Hp),ai B H2->bO H2 u t->Q1 (.ref u) H2)->tx σ B Q1)(q:∀(v:V) (T:O (Key×V)) (W:Hp),ai n W->j_ n W ps d (b+2) T (u4 L x (y,t))->Q v W):Av K "list" Qs (JC (gX 2) (gX i) (UM jZ)) (iI (zV (iI (gX k) (iI tx jZ))) jZ) σ H Q:=by
 have sz:(10000:Nat)<=sizeLine:=by rw[dU];decide
 have ln:=h.len;unfold Av JC;refine h2 _ _ ⟨d,rfl,.inl ⟨_,.inl h.dict⟩,hi _ _ ⟨by show 0<=sizeLine;exact Yx _,λp B X j G=>⟨m,.inr (av ps x),j _ _ h.dict,rfl,by omega,λv r=>?_,λr H2 R e2=>?_⟩⟩⟩
 ·rcases h.at_ x E with⟨z1,_⟩|⟨a,es,h3,h4,N,h6,h7⟩;·grind
  obtain rfl:v=.ref a:=Yn (r.symm.trans h3);have pl:=de h7;refine⟨.inl ⟨rfl,_,aq.of (j _ _ N)⟩,?_⟩;unfold iI zV;refine hk _ _ (hx _ _ (g.trans j) λu H2 g2 F=>⟨by show 2<=sizeLine;decide,λe H3 ne A J=>?_⟩);have s:=(j.trans g2).trans A;refine⟨a,_,_,rfl,rfl,s _ _ N,by rw[Ya];omega,λH4 b4 e4=>?_⟩;have l:=(h.same s).app E h3 (s _ _ N) J (A _ _ F) b4 e4;exact q _ _ H4 (λc o e=>b4 _ _ (s _ _ (g _ _ e)) (cA e h4)) ⟨l.dict,by have:=l.len;exact lM this,l.new,λz hz=>by
   rcases l.at_ z hz with w|⟨a,es,w1,w2,w3,w4,w5⟩;·exact .inl w
   ·exact .inr ⟨a,es,w1,w2,w3,lM w4,w5⟩,l.inj⟩
 ·have EM:=g.free X;have P:=R _ _ G (eA G (j _ _ h.dict) (λz=>by cases z));have gg:ai n H2:=λc o e=>R _ _ (j _ _ (g _ _ e)) (cA e h.new);refine⟨.inl ⟨rfl,_,aq.of P⟩,?_⟩;unfold iI zV;refine hk _ _ (hx _ _ gg λu H3 A F=>⟨by show 2<=sizeLine;decide,λe H4 ne g4 J=>?_⟩);have D:=A.trans g4;refine⟨p,_,_,rfl,rfl,D _ _ P,by show 0<sizeLine;decide,λH5 b5 e5=>?_⟩;have vx:aX (m++[(Sum.inr (av ps x),V.ref p)]) (.inr (av ps x))=U (.ref p):=by rw[wX r,bS rfl]
  exact q _ _ H5 (λc o e=>b5 _ _ (D _ _ (gg _ _ e)) (cA e EM)) (((h.neu nd E j X EM r G R e2).same D).app E vx (D _ _ P) J (g4 _ _ F) b5 e5)
def ER(H:Hp)(b:bA)(a:Z)(c:Fc):Prop:=∃z:Int,H a=U (.tup [.int z,.str c.k,.str (av b c.one),kV (bu b c)])
def FL(H:Hp)(b:bA)(c:Z)(F:O Fc):Prop:=∃a:O Z,H c=U (.lst (a.map V.ref))/\Paired (ER H b) a F
abbrev oY(m f w s:Z):O (Key×V):=[(.inr "mother",.ref m),(.inr "father",.ref f),(.inr "wed",.ref w),(.inr "sibling",.ref s)]
def gu(H:Hp)(c:Z)(a b:O Int):Prop:=∃m f w s:Z,H c=U (.dK (oY m f w s))/\bO H m (inv a)/\bO H f (inv (bL a b))/\bO H w b/\bO H s (bB a.length)
def FL.same(g:ai H j)(h:FL H a d F):FL j a d F:=by
 obtain⟨i,c,b⟩:=h;exact⟨i,g _ _ c,L2.Paired.bI b λ_ _ ⟨z,e⟩=>⟨z,g _ _ e⟩⟩
def gu.same(g:ai H j)(h:gu H a xs ys):gu j a xs ys:=by
 obtain⟨m,f,w,s,i,e,d,c,b⟩:=h;exact⟨m,f,w,s,g _ _ i,g _ _ e,g _ _ d,g _ _ c,g _ _ b⟩
def gu.get(h:gu H j xs i)(m:(k,tn)∈ie xs i):∃e u,H j=U (.dK e)/\aX e (.inr k)=U (.ref u)/\bO H u tn:=by
 obtain⟨a,b,c,d,g,p,o,n,l⟩:=h;simp[Yq,Y3,hI] at m;rcases m with⟨rfl,rfl⟩|⟨rfl,rfl⟩|⟨rfl,rfl⟩|⟨rfl,rfl⟩;·exact⟨_,a,g,rfl,p⟩
 ·exact⟨_,b,g,rfl,o⟩
 ·exact⟨_,c,g,rfl,n⟩
 ·exact⟨_,d,g,rfl,l⟩
inductive K1(k:O V)(H:Hp)(Q:VK)(E:XK):Prop
 |mk (j i:Z) (a:bA) (b h:O Int) (F:O Fc) (r:k=[.ref j,.ref i]) (s:FL H a j F) (m:gu H i b h) (l:(a.map (·.1)).Nodup) (p:∀c∈F,eB b h a.length c) (q:b.length<=8) (o:F.length<=64) (n:∀(d:Z) (e:O (Key×V)) (L:Nat->O (Nat×O Int)) (g:Hp),ai H g->j_ H g a d 300 e L->(∀x y t,(y,t)∈L x↔gY F x y t)->Q (.ref d) g)
abbrev DB:O ar:=["_law_facts","_law_turns_here"]
def wL:aP ["_law_facts","_law_turns_here","_law_found","_law_number","_law_kind","_law_one","_law_other"] DB (aJ Hv):=.aY
theorem Zg4(F:aM K "_law_nets" "_law_nets" Hv f fd)(t9:HasFn P w K mg I 1 "_law_inverse" Ag Lv)(bl:Bl mg):aB P w K mg I aL 2 f fd DB K1:=by
 refine F.o wL λs H hr h=>?_;obtain⟨Q,G,B,xs,ys,F,rfl,fF,ht,gv,ES,n8,lX,q⟩:=h;refine⟨_,(aj (bh 2 wL.nd rN) (aj (ic hY rfl (fX (K:=K) rfl (pv 0)) (jt (K:=K) (n:=4) rfl rfl (bX (bG 3 wL.nd) (bX (bG 4 wL.nd) (bX (bG 5 wL.nd) (bX (bG 6 wL.nd) jr))))) (au (aR (bp k9 (pv 4) aV) (aj (cE (qu (K:=K) rfl (mP jo lr lp rG (OV (pv 2) (pv 5) (cV ae) ⟨rfl,rfl,rfl,rfl⟩) (aa (cU (aa (pv 6) (aa (dF (bF hr) (pv 1) (pv 4) (λ_ _=>rfl)) ae))) ae)))) (au (cE (qu (K:=K) rfl (mP jo lr lp rG (OV (pv 2) (pv 6) (cV ae) ⟨rfl,rfl,rfl,rfl⟩) (aa (cU (aa (pv 5) (aa (aQ t9 hr (aa (dF (bF hr) (pv 1) (pv 4) (λ_ _=>rfl)) ae)) ae))) ae)))))) aW))) (au (aH (pv 2))))),?_⟩;refine bN ?_;refine λd H1 nd g1 hd=>?_;obtain⟨as,cY,dE⟩:=id fF;have al:=de dE;have sz:(10000:Nat)<=sizeLine:=by rw[dU];decide
 refine ib (λl k=>∃(i:O (Key×V)) (L:Nat->O (Nat×O Int)) (r p o m:bR V),ai H k/\j_ H k B d 300 i L/\(∀x y t,(y,t)∈L x↔gY F x y t)/\l=[U (.ref Q),U (.ref G),U (.ref d),r,p,o,m]) (λkN dD=>?_) ?_
 ·refine⟨_,rfl,Q,rfl,⟨_,aq.of (g1 _ _ cY)⟩,kW (K:=K) (a:=Q) (xs:=as.map V.ref) (λj l k=>∃(i:O (Key×V)) (L:Nat->O (Nat×O Int)) (r p o m:bR V),ai H k/\j_ H k B d (4*j) i L/\(∀x y t,(y,t)∈L x↔gY (F.take j) x y t)/\l=[U (.ref Q),U (.ref G),U (.ref d),r,p,o,m])
   ⟨[],λ_=>[],aG,aG,aG,aG,g1,⟨hd,Yd _,nd,λx _=>.inl ⟨rfl,rfl⟩,λ_ _ _ _ _ e=>(nomatch e)⟩,λx y t=>⟨λz=>(nomatch z),λz=>absurd z ZfC⟩,rfl⟩
   (λj l k _ ⟨_,_,_,_,_,_,g,_⟩=>aq.of (g _ _ cY)) ?_ ?_⟩
  ·rintro j v l k D ⟨i,L,r,p,o,m,g,ne,A,rfl⟩;rw[Ye] at D;obtain⟨R,ec,rfl⟩:∃R,as[j]?=U R/\V.ref R=v:=by
    cases e:as[j]? with
    |none=>rw[e] at D;cases D
    |some c=>rw[e] at D;exact⟨c,rfl,Yn D⟩
   obtain⟨c,jL,z,hc⟩:=fU dE ec;have mc:=Yg jL;have fg:=ES c mc;have ok:=fg.ok;have jl:j<F.length:=(Yj.mp jL).1;have lY:F.take (j+1)=F.take j++[c]:=by rw[Y1,jL];rfl
   refine⟨R,_,rfl,az.of (g _ _ hc),rfl,_,_,rfl,a_ ⟨_,_,rfl,a_ ⟨_,_,rfl,a_ ⟨_,_,rfl,a_ ⟨rfl,?_⟩⟩⟩⟩⟩;have ev:∀b:cm,decide (V.str c.k=V.str bj)=b->(b=af↔c.k=bj):=λb e=>by
    rw[←e,gI];exact⟨V.str.inj,λz=>by rw[z]⟩
   refine⟨_,rfl,rfl,_,rfl,?_⟩;refine bc (λE=>?_) (λE=>aT ?_)
   ·have ns:c.k≠bj:=λz=>by
     rw[(ev _ rfl).mpr z] at E;cases E
    obtain⟨tk,u,eX,vu,hu⟩:=ht.get (fg.uL ns);obtain⟨⟨o0,om⟩,ft,tl⟩:=ok.iy ns;have eo:kV (bu B c)=.str (av B c.aN.toNat):=by rw[iX ns];rfl
    refine P9 (ps:=B) (x:=c.one) (y:=c.aN.toNat) (t:=c.tn) (λ_ _ h=>⟨_,rfl,h⟩) gv ok.one (λ_ _ h=>⟨_,rfl,h⟩) (λ_ _ h=>⟨_,rfl,by rw[eo];exact h⟩) ne g (by omega) (λH2 Q2 N k2=>⟨_,rfl,_,rfl,G,.ref u,rfl,dh (N _ _ eX) vu,k2 u H2 (ai.refl _) (N _ _ hu)⟩) λv2 Zml H2 N n2=>?_;refine P9 (ps:=B) (x:=c.aN.toNat) (y:=c.one) (t:=inv c.tn) (λ_ _ h=>⟨_,rfl,h⟩) gv om (λ_ _ h=>⟨_,rfl,by rw[eo];exact h⟩) (λ_ _ h=>⟨_,rfl,h⟩) n2 N (by omega) (λH3 Q3 J k3=>⟨_,rfl,_,rfl,G,.ref u,rfl,dh (J _ _ eX) vu,u,c.tn,rfl,J _ _ hu,by omega,ft,λw H4 _ g4 hw=>k3 w H4 g4 hw⟩) λv3 ZkC H3 J n3=>?_;refine⟨ZkC,_,_,_,_,_,J,n3,λx y t=>?_,rfl⟩;rw[lY,rQ,QM,QM,A]
    grind
   ·have sd:c.k=bj:=by
     by_cases z:c.k=bj;·exact z
     ·cases e:decide (V.str c.k=V.str bj) with
      |true=>exact absurd ((ev _ e).mp rfl) z
      |false=>rw[e] at E;exact absurd rfl E
    refine⟨i,L,_,_,_,_,g,⟨ne.dict,by have:=ne.len;exact t5 this,ne.new,λz hz=>?_,ne.inj⟩,λx y t=>?_,rfl⟩
    ·rcases ne.at_ z hz with w|⟨a,es,w1,X,W,w4,T⟩;·exact .inl w
     ·exact .inr ⟨a,es,w1,X,W,t5 w4,T⟩
    ·rw[lY,rQ,A];exact⟨.inl,λh=>h.elim id λz=>absurd sd z.1⟩
  ·rintro l k ⟨i,L,r,p,o,m,g,ne,A,rfl⟩;rw[Ya,al] at ne;rw[Ya,al,Y8] at A;refine dD _ _ ⟨i,L,r,p,o,m,g,⟨ne.dict,by have:=ne.len;omega,ne.new,λz hz=>?_,ne.inj⟩,A,rfl⟩;rcases ne.at_ z hz with w|⟨a,es,w1,X,W,w4,T⟩;·exact .inl w
   ·exact .inr ⟨a,es,w1,X,W,by omega,T⟩
 rintro l k ⟨i,L,r,p,o,m,g,ne,A,rfl⟩;exact⟨_,rfl,q d i L k g ne A⟩
def T8{t:O Int}{z:Int}(a:0<=z)(h:z<t.length):eG (t.map V.int) z=U (.int (ap t z)):=oV a h
def gN(a:bA)(g:O (Nat×Int)):O (Key×V):=g.map λp=>(.inr (av a p.1),.int p.2)
def rf(a:bA)(g:O (Nat×Int)):O V:=g.map λp=>.str (av a p.1)
def T9(a:bA)(g:O (Nat×Int)):(gN a g).length=g.length:=Ya _
def Sv(a:bA)(g:O (Nat×Int)):(rf a g).length=g.length:=Ya _
theorem qy(b:(a.map (·.1)).Nodup)(c:k<a.length):∀{g:O (Nat×Int)},(∀p∈g,p.1<a.length)->aX (gN a g) (.inr (av a k))=(g.lookup k).map V.int
 |[],_=>rfl
 |p::g,lt=>by
  have h:gN a (p::g)=(Sum.inr (av a p.1),V.int p.2)::gN a g:=rfl;rw[h,Wy];by_cases e:k=p.1
  ·rw[beq_iff_eq.mpr e,gU (by rw[e])];rfl
  ·rw[beq_eq_false_iff_ne.mpr e,fW (λz=>e (oS b c (lt p Yk) (Wh (show(Sum.inr (av a p.1):Key)=Sum.inr (av a k) from z)).symm))];exact qy b c λq d=>lt q (Yw _ d)
def Zg5{r k:Nat}(h:g[r]?=U (k,v)):eG (rf a g) (r:Int)=U (.str (av a k)):=eZ (by unfold rf;rw[Ye,h];rfl)
def yG(b:bA)(d m l n:Z)(x:Nat)(a:Int)(r:Nat)(h g e i c k j:bR V):St:=[U (.ref d),U (.ref m),U (.str (av b x)),U (.int a),U (.ref l),U (.ref n),U (.int (r:Int)),h,g,e,i,c,k,j]
def muC(m:Nat):St->Hp->Nat:=λa _=>match List.getD (α:=bR V) a 6 aG with|some (V.int z)=>m+1-z.toNat|_=>0
inductive U1(H:Hp)(F:O Fc)(L:Nat->O (Nat×O Int))(n:Nat)(b:bA)(d k e h:Z)(x:Nat)(a:Int)(i:St)(c:Hp):Prop
 |mk (g:O (Nat×Int)) (r:Nat) (o m l:bR V) (v:ai H c) (y:c e=U (.dK (gN b g))) (t:c h=U (.lst (rf b g))) (u:BF F n b.length x a g) (s:r<=g.length) (q:(∀j,j<r->Cl L g j)) (p:i=yG b d k e h x a r o m l aG aG aG aG):U1 H F L n b d k e h x a i c
def ZkD(H:Hp)(F:O Fc)(L:Nat->O (Nat×O Int))(n:Nat)(c:bA)(d g e h:Z)(x:Nat)(a:Int)(b:St)(i:Hp):Prop:=U1 H F L n c d g e h x a b i
inductive U2(H:Hp)(F:O Fc)(L:Nat->O (Nat×O Int))(n:Nat)(b:bA)(d j c k:Z)(x:Nat)(a:Int)(h:St)(e:Hp):Prop
 |mk (g:O (Nat×Int)) (r:Nat) (o m l:bR V) (t:ai H e) (u:e c=U (.dK (gN b g))) (q:BF F n b.length x a g) (s:(∀i,i<g.length->Cl L g i)) (p:h=yG b d j c k x a r o m l aG aG aG aG):U2 H F L n b d j c k x a h e
def ZkE(H:Hp)(F:O Fc)(L:Nat->O (Nat×O Int))(n:Nat)(c:bA)(d g e h:Z)(x:Nat)(a:Int)(b:St)(i:Hp):Prop:=U2 H F L n c d g e h x a b i
inductive VZ(H:Hp)(F:O Fc)(L:Nat->O (Nat×O Int))(n:Nat)(b:bA)(d m h i:Z)(x:Nat)(a:Int)(r k:Nat)(v:Int)(g:O (Nat×Int))(p:Z)(o:O Z)(j:Nat)(l:St)(e:Hp):Prop
 |mk (c s:O (Nat×Int)) (u t:bR V) (G:ai H e) (J:e p=U (.lst (o.map V.ref))) (D:e h=U (.dK (gN b c))) (E:e i=U (.lst (rf b c))) (B:BF F n b.length x a c) (A:c=g++s) (z:(∀q∈(L k).take j,c.lookup q.1=U (ap q.2 v))) (y:l=yG b d m h i x a r (U (.str (av b k))) u t aG aG aG aG):VZ H F L n b d m h i x a r k v g p o j l e
def CIn(H:Hp)(F:O Fc)(L:Nat->O (Nat×O Int))(n:Nat)(c:bA)(d h e l:Z)(x:Nat)(a:Int)(r k:Nat)(v:Int)(g:O (Nat×Int))(m:Z)(i:O Z)(j:Nat)(b:St)(o:Hp):Prop:=VZ H F L n c d h e l x a r k v g m i j b o
inductive U3(H:Hp)(F:O Fc)(L:Nat->O (Nat×O Int))(n:Nat)(b:bA)(d l h i:Z)(x:Nat)(a:Int)(r k:Nat)(v:Int)(g:O (Nat×Int))(j:St)(e:Hp):Prop
 |mk (c m:O (Nat×Int)) (p o:bR V) (A:ai H e) (B:e h=U (.dK (gN b c))) (y:e i=U (.lst (rf b c))) (z:BF F n b.length x a c) (u:c=g++m) (t:(∀q∈L k,c.lookup q.1=U (ap q.2 v))) (s:j=yG b d l h i x a r (U (.str (av b k))) p o aG aG aG aG):U3 H F L n b d l h i x a r k v g j e
def ZkF(H:Hp)(F:O Fc)(L:Nat->O (Nat×O Int))(n:Nat)(c:bA)(d h e i:Z)(x:Nat)(a:Int)(r k:Nat)(v:Int)(g:O (Nat×Int))(b:St)(j:Hp):Prop:=U3 H F L n c d h e i x a r k v g b j
inductive U4(H:Hp)(F:O Fc)(n:Nat)(b:bA)(d l g h:Z)(x:Nat)(a:Int)(r k y:Nat)(u:Z)(j:O (Nat×Int))(o:Z)(m:O Z)(i:St)(e:Hp):Prop
 |mk (c q:O (Nat×Int)) (p:Int) (D:ai H e) (E:e o=U (.lst (m.map V.ref))) (A:e g=U (.dK (gN b c))) (B:e h=U (.lst (rf b c))) (z:BF F n b.length x a c) (v:c=j++q) (t:c.lookup y=U p) (s:i=yG b d l g h x a r (U (.str (av b k))) (U (.str (av b y))) (U (.ref u)) aG aG aG aG):U4 H F n b d l g h x a r k y u j o m i e
def ZkG(H:Hp)(F:O Fc)(n:Nat)(c:bA)(d h g j:Z)(x:Nat)(a:Int)(r k y:Nat)(u:Z)(e:O (Nat×Int))(l:Z)(i:O Z)(b:St)(m:Hp):Prop:=U4 H F n c d h g j x a r k y u e l i b m
def U5(e:bA)(F:O Fc)(t:Hp)(d p o q:Z)(x:Nat)(a:Int)(r:Nat)(g:O (Nat×Int))(k j i:bR V)(b:St)(s:Hp):Prop:=s=t/\(∀c∈F,c.k=bj->∀u,g.lookup c.one=U u->u=c.aN)/\∃l h n m:bR V,b=yG e d p o q x a r k j i l h n m
inductive IL(j:O V)(H:Hp)(Q:VK)(E:XK):Prop
 |mk (l:Hp) (d i:Z) (h:O (Key×V)) (L:Nat->O (Nat×O Int)) (n:Nat) (b:bA) (F:O Fc) (x:Nat) (a:Int) (B:j=[.ref d,.ref i,.str (av b x),.int a]) (q:(b.map (·.1)).Nodup) (D:j_ l H b d 300 h L) (z:(∀x y t,(y,t)∈L x↔gY F x y t)) (A:FL H b i F) (v:(∀c∈F,dZ n b.length c)) (u:n<=8) (s:b.length<=100) (r:F.length<=64) (o:x<b.length) (m:(0<=a/\a<(n:Int))) (J:((¬∃g,iH n F g/\g x=some a)->∀e,ai H e->Q .aE e)) (G:∀(p:Z) (g:O (Nat×Int)) (e:Hp),ai H e->e p=some (.dK (gN b g))->BF F n b.length x a g->iH n F (λk=>g.lookup k)->Q (.ref p) e)
abbrev DC:O ar:=["_law_nets_here","_law_facts","_law_name_here","_law_section"]
def mD:aP ["_law_nets_here","_law_facts","_law_name_here","_law_section","_law_found","_law_row_here","_law_at","_law_here","_law_that","_law_turn_here","_law_number","_law_kind","_law_one","_law_said"] DC (aJ Ga):=.aY
theorem Zdp(F:aM K "_law_carried" "_law_carried" Ga f fd)(bl:Bl mg):aB P w K mg I aL 1 f fd DC IL:=by
 refine F.o mD λs H hr h=>?_;obtain⟨H0,d,W,kvs,L,n,l,F,x,a,rfl,gv,xZ,ed,fF,jh,n8,u_,lX,hx,ZkH,q1,q2⟩:=h;refine⟨_,(aj (bh 4 mD.nd (Ci (kX (pv 2) (pv 3) Cg) rfl rfl (λz=>nomatch z) (Jq rfl))) (aj (bh 5 mD.nd (cV (aa (pv 2) ae))) (aj (bh 6 mD.nd aw) (aj (I_ hY (bp nP (pv 6) (cT K bl (pv 5))) (aj (bh 7 mD.nd (aI (iL K) (pv 5) (pv 6))) (aj (ic hY rfl (fX (K:=K) rfl (Ze8 (bF hr) (pv 0) (pv 7) (cV ae) ⟨rfl,rfl,rfl,rfl⟩)) (jt (K:=K) (n:=2) rfl rfl (bX (bG 8 mD.nd) (bX (bG 9 mD.nd) jr))) (aj (aR (jU (mG (bF hr) (pv 8) (pv 4)) (by with_unfolding_all rfl)) (aj (oO (bF hr) (pv 4) (pv 8) (aI (iT K) (pv 9) (dF (bF hr) (pv 4) (pv 7) (λ_ _=>rfl)))) (au (cE (qu (K:=K) rfl (mP jo lr lp rG (pv 5) (aa (pv 8) ae)))))) aW) (au (aR (bp k9 (dF (bF hr) (pv 4) (pv 8) (λ_ _=>rfl)) (aI (iT K) (pv 9) (dF (bF hr) (pv 4) (pv 7) (λ_ _=>rfl)))) (au (aH nL)) aW)))) (au (Kq (i:=6) mD.nd rfl (hP rfl) aw SW))))) (aj (ic hY rfl (fX (K:=K) rfl (pv 1)) (jt (K:=K) (n:=4) rfl rfl (bX (bG 10 mD.nd) (bX (bG 11 mD.nd) (bX (bG 12 mD.nd) (bX (bG 13 mD.nd) jr))))) (au (aR (PW.pt (pw_and (bp bZ (pv 11) aV) (pw_and (jU (CB (bF hr) (pv 12) (pv 4)) (by with_unfolding_all rfl)) (pw_and1 (bp k9 (dF (bF hr) (pv 4) (pv 12) (λ_ _=>rfl)) (pv 13)))))) (au (aH nL)) aW))) (au (aH (pv 4)))))))),?_⟩;refine bN ?_;refine λfn ET=>⟨_,rfl,_,rfl,aU,[(.inr (av l x),.int a)],rfl,(by show 1<=15;decide),?_⟩;obtain⟨H1,tS⟩:∃H1,H1=upd (upd H fn (.dK [])) fn (.dK (qr [] [(.inr (av l x),.int a)])):=⟨_,rfl⟩;have g1:ai H H1:=λb o e=>by rw[tS,aK (cA e ET),aK (cA e ET)];exact e
 have h1:H1 fn=U (.dK (gN l [(x,a)])):=by rw[tS,aU];rfl
 rw[←tS];refine bN ?_;refine⟨_,rfl,by show 1<=sizeLine;rw[dU];decide,λbH H2 Ba g2 NI=>?_⟩;refine setC ?_;have V0:=g1.free Ba;have fr_ne:fn≠bH:=λz=>by rw[←z,h1] at Ba;cases Ba
 have sz:(10000:Nat)<=sizeLine:=by rw[dU];decide
 have hdH:=xZ.dict;obtain⟨as,cY,dE⟩:=id fF;have J:=de dE;refine ib (ZkE H F L n l d W fn bH x a) (λkN dD=>?_) ?_
 ·refine JA (ZkD H F L n l d W fn bH x a) (muC l.length)
   ⟨[(x,a)],0,aG,aG,aG,g1.trans g2,g2 _ _ h1,NI,bf0 hx ZkH,Yx _,λ_ z=>absurd z (Wn _),rfl⟩ ?_ ?_
  ·rintro B H6 ⟨g,r,o7,o8,o9,Q,vY,pS,G,rl,cl,rfl⟩;have kl:=Sv l g;have gl:=G.len;refine⟨_,rfl,_,rfl,bH,_,rfl,.inl (aq.of pS),_,_,rfl,rfl,_,rfl,?_⟩;rw[kl];refine bc (λc=>?_) (λc=>?_)
   ·have yH:r<g.length:=by have:=fb c;omega
    obtain⟨k,v,NJ⟩:∃(k:Nat) (v:Int),g[r]?=U (k,v):=⟨g[r].1,g[r].2,Yc yH⟩;have Zf:(k,v)∈g:=Yg NJ;have lkv:g.lookup k=U v:=mem_lookup G.nd Zf;obtain⟨km,v0,vn⟩:=G.lt _ Zf;have Zg:=Q _ _ hdH;refine bN ?_;refine⟨_,rfl,_,rfl,bH,_,_,_,rfl,rfl,aq.of pS,Zg5 NJ,?_⟩;refine ib (ZkF H F L n l d W fn bH x a r k v g) (λvU fS=>?_) ?_
    ·refine⟨_,rfl,d,rfl,.inl ⟨_,.inl Zg⟩,_,rfl,by show 0<=sizeLine;exact Yx _,λe0 H7 vZ g7 q0=>?_⟩;have fn7:=g7 _ _ vY;have rw7:=g7 _ _ pS;have nf0:e0≠fn:=λz=>by rw[z,vY] at vZ;cases vZ
     have nr0:e0≠bH:=λz=>by rw[z,pS] at vZ;cases vZ
     obtain⟨J,T,eal,Zh,ZkI,ZkJ,Zi⟩:∃(J:Z) (T:O Z),(aX kvs (.inr (av l k))).getD (.ref e0)=.ref J/\H7 J=U (.lst (T.map V.ref))/\J≠fn/\J≠bH/\Paired (λe (p:Nat×O Int)=>∃u,H e=U (.tup [.str (av l p.1),.ref u])/\bO H u p.2) T (L k):=by
      rcases xZ.at_ k km with⟨z1,z2⟩|⟨a1,T,w1,w2,w3,w4,w5⟩;·exact⟨e0,[],by rw[z1];rfl,q0,nf0,nr0,by rw[z2];exact .nil⟩
      ·exact⟨a1,T,by rw[w1];rfl,g7 _ _ (Q _ _ w3),cA w3 ET,cA w3 V0,w5⟩
     have esl:=de Zi;refine⟨_,dh (g7 _ _ Zg) rfl,J,eal,⟨_,aq.of Zh⟩,kW (K:=K) (a:=J) (xs:=T.map V.ref) (CIn H F L n l d W fn bH x a r k v g J T)
      ⟨g,[],o8,o9,Q.trans g7,Zh,fn7,rw7,G,by rw[We],λq D=>(nomatch D),rfl⟩ (λj B A _ ⟨_,_,_,_,_,h,_,_,_,_,_,_⟩=>aq.of h) ?_ ?_⟩
     ·rintro j w B A E ⟨R,tl,p8,p9,g8,L0,X,lZ,N,eg,jN,rfl⟩;rw[Ye] at E;obtain⟨e,ee,rfl⟩:∃e,T[j]?=U e/\V.ref e=w:=by
       cases z:T[j]? with
       |none=>rw[z] at E;cases E
       |some c=>rw[z] at E;exact⟨c,rfl,Yn E⟩
      obtain⟨⟨y,t⟩,Zj,u,he,hu⟩:=fU Zi ee;have L3:gY F k y t:=(ed _ _ _).mp (Yg Zj);obtain⟨_,ym,ft,tl8⟩:=zF jh L3;have NK:R.lookup k=U v:=by rw[eg];exact Bq lkv
      have vb:v<(t.length:Int):=by rw[tl8];exact vn
      have gl8:=N.len;have he8:A e=U (.tup [.str (av l y),.ref u]):=g8 _ _ he;have NC:(L k).take (j+1)=(L k).take j++[(y,t)]:=by rw[Y1,Zj];rfl
      refine⟨e,_,rfl,az.of he8,rfl,_,_,rfl,a_ ⟨_,_,rfl,a_ ⟨rfl,?_⟩⟩⟩;refine jV (ZkG H F n l d W fn bH x a r k y u R J T) (λpO fJ=>?_) ?_
      ·refine⟨_,rfl,_,rfl,fn,_,rfl,dh X (qy gv ym λp m=>(N.lt p m).1),_,rfl,?_⟩;cases ly:R.lookup y with
       |none=>
        refine cZ ?_;refine⟨_,rfl,_,rfl,_,rfl,fn,.int v,rfl,dh X (by rw[qy gv km λp m=>(N.lt p m).1,NK];rfl),u,_,_,_,rfl,rfl,az.of (g8 _ _ hu),T8 v0 vb,_,rfl,_,rfl,fn,_,.inr (av l y),rfl,X,rfl,by rw[T9];omega,λH9 b9 e9=>?_⟩;have vn0:aX (gN l R) (.inr (av l y))=aG:=by rw[qy gv ym λp m=>(N.lt p m).1,ly];rfl
        rw[mH _ vn0] at e9;have v8:=b9 _ _ lZ (λz=>fr_ne z.symm);refine⟨_,rfl,.inl ⟨rfl,_,aq.of v8⟩,_,rfl,bH,_,_,rfl,rfl,v8,by rw[Sv];omega,λqV Bb qY=>?_⟩;refine fJ _ _ ⟨R++[(y,ap t v)],[(y,ap t v)],ap t v,λc o z=>Bb _ _ (b9 _ _ (g8 _ _ z) (cA z ET)) (cA z V0),Bb _ _ (b9 _ _ L0 ZkI) ZkJ,?_,?_,N.add jh L3 NK ly,rfl,O4 ly,rfl⟩;·rw[Bb _ _ e9 fr_ne,gN,gN,Yo];rfl
        ·rw[qY,rf,rf,Yo];rfl
       |some v'=>
        refine bW (aT ?_);exact fJ _ _ ⟨R,[],v',g8,L0,X,lZ,N,by rw[We],ly,rfl⟩
      ·rintro B H9 ⟨tU,NH,v',g9,ZkK,pP,v8,EU,NL,lv,rfl⟩;have Zk:tU.lookup k=U v:=by rw[NL];exact Bq NK
       refine⟨_,rfl,_,rfl,fn,.int v',rfl,dh pP (by rw[qy gv ym λp m=>(EU.lt p m).1,lv];rfl),_,rfl,_,rfl,_,rfl,fn,.int v,rfl,dh pP (by rw[qy gv km λp m=>(EU.lt p m).1,Zk];rfl),u,_,_,_,rfl,rfl,az.of (g9 _ _ hu),T8 v0 vb,rfl,_,rfl,?_⟩;refine bc (λc=>?_) (λc=>aT ?_)
       ·refine q1 (EU.Zjm L3 Zk lv λz=>?_) H9 g9;rw[z] at c;simp at c
       ·have ev:v'=ap t v:=by
         by_cases z:v'=ap t v;·exact z
         ·exact absurd (by simp[z]) c
        refine⟨tU,tl++NH,_,_,g9,ZkK,pP,v8,EU,by rw[NL,eg,Ju],λq D=>?_,rfl⟩;rw[NC] at D;rcases Yu.mp D with D|D;·rw[NL];exact Bq (jN q D)
        ·rw[Ym] at D;rw[D,lv,ev]
     ·rintro B A ⟨R,tl,p8,p9,g8,L0,X,lZ,N,eg,jN,rfl⟩;rw[Ya,esl,Y8] at jN;exact fS _ _ ⟨R,tl,p8,p9,g8,X,lZ,N,eg,jN,rfl⟩
    ·rintro B A ⟨R,tl,p8,p9,g8,X,lZ,N,eg,jN,rfl⟩;have rr:r<(g++tl).length:=by rw[Yl];exact Xx _ yH
     have ge:(g++tl)[r]?=U (k,v):=by rw[Wg yH];exact NJ
     have m8:((r:Int)+1)=((r+1:Nat):Int):=rfl
     refine⟨_,rfl,_,_,rfl,rfl,?_⟩;refine⟨⟨R,r+1,U (.str (av l k)),p8,p9,g8,X,lZ,N,by rw[eg];exact rr,λr' h'=>?_,rfl⟩,?_⟩
     ·rw[eg];by_cases z:r'=r
      ·subst z;intro p m qq D;rw[ge] at m;cases m;rw[←eg];exact jN qq D
      ·exact(cl r' (gb (gc h') z)).app (hT h' (mR yH))
     ·show l.length+1-(r+1)<l.length+1-r;omega
   ·have re:¬((r:Int)<(g.length:Int)):=λz=>c (d6 z);exact dD _ _ ⟨g,r,o7,o8,o9,Q,vY,G,λr' h'=>cl r' (by omega),rfl⟩
  ·rintro B H6 Q1 Q2 mo ⟨v1,w1,v2,w2,v3,v4,w3,w4,v5,v6,w5,w6,v7,w7,h⟩;exact⟨v1,w1,v2,w2,v3,v4,w3,w4,v5,v6,w5,w6,v7,w7,mo _ _ h⟩
 rintro B H6 ⟨g,r,o7,o8,o9,Q,vY,G,cl,rfl⟩;refine ib (U5 l F H6 d W fn bH x a r g o7 o8 o9) (λkN dD=>?_) ?_
 ·refine⟨_,rfl,W,rfl,⟨_,aq.of (Q _ _ cY)⟩,kW (K:=K) (a:=W) (xs:=as.map V.ref) (λj=>U5 l (F.take j) H6 d W fn bH x a r g o7 o8 o9)
   ⟨rfl,λc hc=>(nomatch hc),aG,aG,aG,aG,rfl⟩ (λj B A _ ⟨e,_⟩=>by rw[e];exact aq.of (Q _ _ cY)) ?_ ?_⟩
  ·rintro j v B A E ⟨rfl,sd,kR,pR,iV,iW,rfl⟩;rw[Ye] at E;obtain⟨c0,ec,rfl⟩:∃c0,as[j]?=U c0/\V.ref c0=v:=by
    cases e:as[j]? with
    |none=>rw[e] at E;cases E
    |some c=>rw[e] at E;exact⟨c,rfl,Yn E⟩
   obtain⟨c,jL,z,hc⟩:=fU dE ec;have mc:=Yg jL;have lY:F.take (j+1)=F.take j++[c]:=by rw[Y1,jL];rfl
   refine⟨c0,_,rfl,az.of (Q _ _ hc),rfl,_,_,rfl,a_ ⟨_,_,rfl,a_ ⟨_,_,rfl,a_ ⟨_,_,rfl,a_ ⟨rfl,?_⟩⟩⟩⟩⟩;have ev:∀b:cm,decide (V.str c.k=V.str bj)=b->(b=af↔c.k=bj):=λb e=>by
    rw[←e,gI];exact⟨V.str.inj,λz=>by rw[z]⟩
   have yI:(c.k=bj->∀u,g.lookup c.one=U u->u=c.aN)->∃kR pR iV iW:bR V,(A=A/\∀c∈F.take (j+1),c.k=bj->∀u,g.lookup c.one=U u->u=c.aN)/\True:=λh=>⟨aG,aG,aG,aG,⟨rfl,λc' m'=>by
    rw[lY] at m';rcases Yu.mp m' with m'|m';·exact sd c' m'
    ·rw[Ym] at m';rw[m'];exact h⟩,trivial⟩
   refine⟨_,rfl,rfl,_,rfl,bc (λcc=>?_) (λcc=>?_)⟩
   ·have sk:=(ev _ rfl).mp cc;have eo:kV (bu l c)=.int c.aN:=by rw[oM sk];rfl
    refine⟨_,rfl,_,rfl,fn,_,rfl,dh vY (qy gv (jh c mc).one λp m=>(G.lt p m).1),_,rfl,?_⟩;cases lk:g.lookup c.one with
    |none=>
     refine bW (bW (aT ?_));obtain⟨_,_,_,_,⟨_,h⟩,_⟩:=yI λ_ u e=>by rw[lk] at e;cases e
     exact⟨rfl,h,_,_,_,_,rfl⟩
    |some u=>
     refine cZ ?_;refine⟨_,rfl,_,rfl,fn,.int u,rfl,dh vY (by rw[qy gv (jh c mc).one λp m=>(G.lt p m).1,lk];rfl),_,rfl,by rw[eo];rfl,_,rfl,bc (λc2=>?_) (λc2=>aT ?_)⟩
     ·refine q1 (G.Zix mc sk lk λz=>?_) A Q;rw[z,eo] at c2;simp at c2
     ·have eu:u=c.aN:=by
       by_cases z:u=c.aN;·exact z
       ·exact absurd (by rw[eo];simp[z]) c2
      obtain⟨_,_,_,_,⟨_,h⟩,_⟩:=yI λ_ u' e=>by rw[lk] at e;rw[←Yn e];exact eu
      exact⟨rfl,h,_,_,_,_,rfl⟩
   ·refine bW (aT ?_);obtain⟨_,_,_,_,⟨_,h⟩,_⟩:=yI λz=>absurd ((ev _ rfl).mpr z) cc;exact⟨rfl,h,_,_,_,_,rfl⟩
  ·rintro B A ⟨rfl,sd,kR,pR,iV,iW,rfl⟩;rw[Ya,J,Y8] at sd;exact dD _ _ ⟨rfl,sd,kR,pR,iV,iW,rfl⟩
 rintro B A ⟨rfl,sd,kR,pR,iV,iW,rfl⟩;exact⟨_,rfl,q2 fn g A Q vY G (G.done ed cl sd)⟩
inductive CM(i:O V)(H:Hp)(Q:VK)(E:XK):Prop
 |mk (h g:Z) (a:bA) (b e:O Int) (F:O Fc) (x:Nat) (s:i=[.ref h,.ref g,.str (av a x)]) (t:FL H a h F) (l:gu H g b e) (j:(a.map (·.1)).Nodup) (q:∀c∈F,eB b e a.length c) (r:b.length<=8) (o:a.length<=100) (n:F.length<=64) (m:x<a.length) (k:∀(p:Z) (d:Hp),H p=aG->ai H d->d p=U (.lst ((dG F b.length x).map V.int))->Q (.ref p) d)
inductive Sw(g:O V)(H:Hp)(Q:VK)(E:XK):Prop
 |mk (a b:Z) (d c:O Int) (k:g=[.ref a,.ref b]) (l:bO H a d) (i:bO H b c) (j:lq d c) (h:∀(p:Z) (e:Hp),H p=aG->ai H e->gu e p d c->Q (.ref p) e)
abbrev Ah:O ar:=["_law_facts","_law_turns_here","_law_name_here"]
def OD:aP ["_law_facts","_law_turns_here","_law_name_here","_law_nets_here"] Ah (aJ Hw):=.aY
open Classical in
def Zg6(F:aM K "_law_room" "_law_room" Hw f fd)(wU:HasFn P w K mg I 2 "_law_nets" DB K1)(wy:HasFn P w K mg I 1 "_law_carried" DC IL)(T:Bl mg):aB P w K mg I aL 3 f fd Ah CM:=by
 refine F.o OD λs H l h=>?_;obtain⟨N,v,y,t,X,F,x,rfl,Q,B,G,J,j,u_,A,hx,q⟩:=h;refine⟨_,(aj (iF (i:=3) OD.nd rfl (kO rfl) (aQ wU l (aa (pv 0) (aa (pv 1) ae)))) (au (aH (jS (x:="_law_at") (fr:=[("_law_nets_here",3),("_law_name_here",2),("_law_facts",0)]) (cl:=[("_law_nets_here",s.heap.objs.size+1+1+1),("_law_name_here",s.heap.objs.size+1+1),("_law_facts",s.heap.objs.size+1)]) rfl (.ir ⟨rfl,⟨rfl,⟨rfl,trivial⟩⟩⟩ ⟨⟨rfl,.inl rfl,.inl rfl,rfl⟩,⟨⟨rfl,.inl rfl,.inl rfl,rfl⟩,⟨⟨rfl,.inl rfl,.inl rfl,rfl⟩,trivial⟩⟩⟩) (rL rfl T.kY (aa (cT K T (dF (bF l) (pv 1) aV (λ_ _=>rfl))) ae)) (λ_ _ _ _=>xu (bp Cc (Lb wy l (by decide) rfl (aa (pv 1) (aa (pv 3) (aa (pv 2) (aa (pv 0) ae))))) nL)) (λ_ _ _ _=>(pv 0)))))),?_⟩;refine bN ?_;refine⟨_,rfl,_,rfl,N,v,y,t,X,F,rfl,Q,B,G,J,j,A,λd k L H1 a xZ ed=>?_⟩;obtain⟨_,_,_,u,eX,_,_,_,r⟩:=id B;obtain⟨n,R⟩:∃n,n=t.length:=⟨_,rfl⟩;have jh:=λc hc=>by exact R▸(J c hc).ok
 rw[←R] at r j q;have ul:((bB n).map V.int).length=n:=by rw[Ya,fN]
 refine⟨_,rfl,v,.ref u,rfl,dh (a _ _ eX) rfl,u,_,rfl,.inr (az.of (a _ _ r)),?_⟩;rw[ul];refine⟨(n:Int),rfl,by omega,by omega,λD E=>?_⟩;refine Zb9 (by omega) E (λi=>decide (∃g,iH n F g/\g x=U (i:Int))) (λi=>V.int (i:Int)) (λi hi W b _ Kt Kf kt kf=>?_) λW b h2=>?_
 ·rw[Ec];have tI:(i:Nat)<n:=by omega
  refine⟨_,rfl,_,rfl,_,rfl,_,rfl,H,d,N,k,L,n,y,F,x,(i:Int),rfl,G,xZ.same b,ed,(Q.same a).same b,jh,j,u_,A,hx,⟨nV _,by omega⟩,λno o m=>?_,λp gg o m X6 bf cl=>?_⟩
  ·refine⟨rfl,_,rfl,?_⟩;rw[d6 (rfl)];exact bW (kf o (g_ no) m)
  ·refine⟨rfl,_,rfl,?_⟩;rw[g_ (λz=>nomatch z)];exact cZ ⟨_,rfl,kt _ o (d6 ⟨_,cl,bf.hd⟩) m rfl⟩
 ·refine q D W (a.free E) (a.trans b) ?_;rw[h2,Y6];have e:dG F n x=((List.range n).filter λi:Nat=>decide (∃g,iH n F g/\g x=U (i:Int))).map λi:Nat=>(i:Int):=by
   unfold dG bB;rw[J7];rfl
  rw[e,Y7];rfl
abbrev L4:O ar:=["_law_mother","_law_wife"]
def GF:aP ["_law_mother","_law_wife","_law_father","_law_alone"] L4 (aJ GV):=.aY
def ZfO(F:aM K "_law_turns" "_law_turns" GV f fd)(N:HasFn P w K mg I 1 "_law_inverse" Ag Lv)(Hg:HasFn P w K mg I 1 "_law_after" DA (U0 K))(G:Bl mg):aB P w K mg I aL 2 f fd L4 Sw:=by
 refine F.o GF λs H A h=>?_;obtain⟨a,b,j,r,rfl,B,T,gl,q⟩:=h;obtain⟨fx,fy,Q,l2,R⟩:=id gl;refine⟨_,(aj (bh 2 GF.nd (aQ Hg A (aa (pv 1) (aa (pv 0) ae)))) (aj (bh 3 GF.nd (fO (Zaw rfl) rfl G.oQ oN (aa (fO Gs rfl G.kY xh (aa (cT K G (pv 0)) ae)) ae))) (au (aH (Ci (kX aV (aQ N A (aa (pv 0) ae)) (kX aV (aQ N A (aa (pv 2) ae)) (kX aV (pv 1) (kX aV (pv 3) Cg)))) rfl rfl (λz=>nomatch z) (Jq rfl)))))),?_⟩;refine bN ?_;have lv:∀x∈r,0<=x/\x<(j.length:Int):=λx hx=>by rw[Q];exact rX fy hx
 refine⟨_,rfl,_,rfl,b,a,r,j,rfl,az.of T,az.of B,lv,by omega,λl H1 nl p hl=>?_⟩;refine bN ?_;have el:(j.map V.int).length=j.length:=Ya _;refine⟨_,rfl,a,_,rfl,.inr (az.of (p _ _ B)),_,rfl,λrg H2 nrg g2 y=>⟨rg,j.length,rfl,by rw[y,el],eL R (by decide),λst H3 Ef g3 dB=>?_⟩⟩;have D:=g2.trans g3;intro d v;have E:=cC v (.dK []);have L:upd H3 d (.dK []) d=U (.dK []):=aU;generalize upd H3 d (.dK [])=H4 at E L⊢;have Zl:=D.trans E;have u:=p.trans Zl;refine⟨_,rfl,a,j,rfl,u _ _ B,lL R (by decide),fx,λi H5 nim g5 M6=>?_⟩;refine⟨_,rfl,l,bL j r,rfl,g5 _ _ (Zl _ _ hl),by rw[uf];omega,JI fx fy Q,λg k njf X M7=>?_⟩;have m:=g5.trans X;refine⟨_,rfl,_,rfl,m _ _ L,[(.inr "mother",.ref i),(.inr "father",.ref g),(.inr "wed",.ref b),(.inr "sibling",.ref st)],rfl,by show 4<=15;decide,?_⟩;have J:aF d k (upd k d (.dK (oY i g b st))):=aF.put (aF.of (ai.refl _));have Zm:upd k d (.dK (oY i g b st)) d=U (.dK (oY i g b st)):=aU;have em:qr [] [((.inr "mother":Key),V.ref i),(.inr "father",.ref g),(.inr "wed",.ref b),(.inr "sibling",.ref st)]=oY i g b st:=rfl;rw[em];generalize upd k d (.dK (oY i g b st))=H7 at J Zm⊢;have t:∀{c:Z} {zs:O Int},bO k c zs->c≠d:=λW z=>by rw[bO,z,m _ _ L] at W;cases W
 have n:∀{c:Z} {zs:O Int},bO k c zs->bO H7 c zs:=λh=>J _ _ h (t h);refine q d H7 (p.free (D.free v)) (λc o e=>J _ _ (m _ _ (u _ _ e)) (cA e (p.free (D.free v)))) ⟨i,g,b,st,Zm,n (X _ _ M6),n M7,n (m _ _ (u _ _ T)),n (m _ _ (E _ _ dB))⟩
theorem FL.get(h:FL H i o F):∃b:O Z,H o=U (.lst (b.map V.ref))/\b.length=F.length/\∀(d:Hp) (j:Nat) (v:V),ai H d->(b.map V.ref)[j]?=U v->∃(a:Z) (c:Fc) (z:Int),v=.ref a/\F[j]?=U c/\F.take (j+1)=F.take j++[c]/\d a=U (.tup [.int z,.str c.k,.str (av i c.one),kV (bu i c)]):=by
 obtain⟨b,q,l⟩:=h;refine⟨b,q,de l,λd j v g m=>?_⟩;rw[Ye] at m;obtain⟨a,p,rfl⟩:∃a,b[j]?=U a/\V.ref a=v:=by
  cases e:b[j]? with
  |none=>grind
  |some c=>grind
 obtain⟨c,k,z,n⟩:=fU l p;exact⟨a,c,z,rfl,k,by rw[Y1,k];rfl,g _ _ n⟩
def n5(b:bA)(k a:ar)(o:V)(c:Fc):cm:=decide (c.k=k)&&((decide (av b c.one=a)&&(decide (kV (bu b c)=o)||cW k))||(decide (k="sibling")&&(decide (kV (bu b c)=.str a)&&decide (V.str (av b c.one)=o))))
def qG(b:bA)(F:O Fc)(k a:ar)(o:V):cm:=F.any (n5 b k a o)||(decide (k="sibling")&&decide (V.str a=o))
def Bt(t:TT)(c:St)(H:Hp)(b:cm):Prop:=∀k:cm->Hp->Prop,(∀a,ai H a->k b a)->t c H k
def Vt(t:TE)(b:St)(H:Hp)(v:V):Prop:=∀k:VK,(∀a,ai H a->k v a)->t b H k
theorem Bt.and(h:Bt t σ H a)(g:∀d,a=af->ai H d->Bt u σ d b):Bt (Vf t u) σ H (a&&b):=λk e=>h _ λl c=>by
 cases a with
 |true=>exact cZ (g l rfl c _ λj i=>e j (c.trans i))
 |false=>grind
theorem Bt.or(h:Bt t σ H a)(g:∀d,a=a8->ai H d->Bt u σ d b):Bt (WH t u) σ H (a||b):=λk e=>h _ λl c=>by
 cases a with
 |true=>grind
 |false=>exact bW (g l rfl c _ λj i=>e j (c.trans i))
def Vt.var(h:σ[i]?=U (U x)):Vt (gX i) σ H x:=λ_ a=>⟨x,h,a H (ai.refl _)⟩
def Vt.c:Vt (tC x) σ H x:=λ_ a=>a H (ai.refl _)
def Vt.test(h:Vt d σ H (.bl b)):Bt (K_ d) σ H b:=λk a=>h _ λe c=>⟨b,rfl,a e c⟩
def Vt.eq(g:Vt j σ H x)(e:∀b,ai H b->Vt i σ b y)(c:z5 x y=af):Vt (ke WK j i) σ H (.bl (decide (x=y))):=λk d=>g _ λm a=>e m a _ λl h=>⟨c,d l (a.trans h)⟩
def Vt.ne(g:Vt j σ H x)(e:∀b,ai H b->Vt i σ b y)(c:z5 x y=af):Vt (ke WL j i) σ H (.bl (!decide (x=y))):=λk d=>g _ λm a=>e m a _ λl h=>⟨c,d l (a.trans h)⟩
theorem Vt.V1(i:Vt m σ H (.bl a))(h:∀g,a=af->ai H g->Vt l σ g (.bl b)):Vt (Um m l) σ H (.bl (a&&b)):=λk d=>i _ λe c=>⟨a,rfl,by
 cases a with
 |true=>exact cZ (h e rfl c _ λn j=>d n (c.trans j))
 |false=>exact bW (d e c)⟩
theorem Vt.orV(h:Vt l σ H (.bl a))(g:∀d,a=a8->ai H d->Vt j σ d (.bl b)):Vt (Vg l j) σ H (.bl (a||b)):=λk e=>h _ λn c=>⟨a,rfl,by
 cases a with
 |true=>grind
 |false=>exact bW (g n rfl c _ λm i=>e m (c.trans i))⟩
def Vt.Lw(c:Vt h σ H (.str k)):Vt (ke (Au K a8) h (zV (iI (tC (V.str "mother")) (iI (tC (V.str "father")) jZ)))) σ H (.bl (cW k)):=λq b=>c _ λl g=>by
 refine⟨by show 2<=sizeLine;rw[dU];decide,λp i j d a=>⟨p,_,rfl,.inr (az.of a),rfl,rfl,?_⟩⟩;have e:eQ (V.str k) [V.str "mother",V.str "father"]=cW k:=by
  rw[Wd];unfold eQ cW;rw[Jr,Jr,List.any_nil,vX,J9,J9,gI,gI];show((("mother":ar)==k)=af\/(("father":ar)==k)=af)↔_
  grind
 exact e▸b i (g.trans d)
def Flat(o:V):Prop:=(∃z,o=.int z)\/∃z,o=.str z
theorem Cs(k:Key):Flat (kV k):=by
 cases k with
 |inl z=>exact .inl ⟨z,rfl⟩
 |inr z=>exact .inr ⟨z,rfl⟩
def BP(b:Flat u)(a:Flat v):z5 u v=af:=by
 rcases b with⟨_,rfl⟩|⟨_,rfl⟩<;>rcases a with⟨_,rfl⟩|⟨_,rfl⟩<;>rfl
inductive Q7(b:O V)(H:Hp)(Q:VK):Prop
 |mk (d:Z) (c:bA) (F:O Fc) (k a:ar) (o:V) (h:b=[.ref d,.str k,.str a,o]) (i:FL H c d F) (g:Flat o) (q:∀e,ai H e->Q (.bl (qG c F k a o)) e):Q7 b H Q
def Sx:Sp:=λa H Q _=>Q7 a H Q
inductive Sy(d:O V)(H:Hp)(Q:VK)(E:XK):Prop
 |mk (b:Z) (a:bA) (k:ar) (i j:Nat) (n:d=[.ref b,.str k,.str (av a i),.str (av a j)]) (g:H b=U (.dK (gn a))) (e:(a.map (·.1)).Nodup) (m:i<a.length) (l:j<a.length) (h:k="mother"\/k="father"\/k="wed"\/k="sibling") (q:∀c,ai H c->Q (.bl (mO k (gq a i) (gq a j))) c)
def Q8(j:cI xs q b):y∈ij b a↔∃c∈b.F,cW c.k=af/\av b.ps c.one=a/\kV (bu b.ps c)=.str y:=by
 constructor
 ·intro h;obtain⟨v,l,rfl⟩:=Yf.mp (h);unfold qx at l;obtain⟨k,_,e⟩:=Jn.mp l;obtain⟨p,g,d,s,i,rfl,r⟩:=Sn j e;have m:p.2.k≠bj:=λz=>by
   rw[z] at d;exact absurd d (by decide+kernel)
  exact⟨p.2,Yf.mpr ⟨p,g,rfl⟩,d,i,by rw[iX m];rfl⟩
 ·rintro⟨c,o,d,rfl,i⟩;obtain⟨p,g,rfl⟩:=Yf.mp (o);have n:(([.inr p.2.k,.inr (av b.ps p.2.one)]:O Key),kV (bu b.ps p.2))∈cF b.ps b.fs:=Yf.mpr ⟨p,Y5.mpr ⟨g,d⟩,rfl⟩;have e:=Sf j.pr n;refine Yf.mpr ⟨.str y,?_,rfl⟩;unfold qx;refine Jn.mpr ⟨p.2.k,?_,by rw[e,i]⟩;unfold cW at d;rw[J9,gI,gI] at d;rcases d with z|z<;>rw[z];·exact Yk
  ·exact Yw _ Yk
structure yK(b:BS)(a:ar)(ks:O ar):Prop where
 nd:ks.Nodup
 sd:∀k∈ks,h_ b a k
 ma:a∈ks
def yK.len(u:yK b a e)(c:cI xs h b)(d:a∈b.ps.map (·.1)):e.length<=b.ps.length:=by
 have:=u.nd.length_le_of_subset λk g=>B_ c d (u.sd k g)
 grind
theorem yK.all(u:yK b a c)(j:∀r,r<c.length->∀k,c[r]?=U k->∀p∈ij b k,p∈c)(z:ar):z∈c↔h_ b a z:=by
 refine⟨u.sd z,λh=>?_⟩;induction h with
 |refl=>exact u.ma
 |step _ g e=>
  obtain⟨r,d,i⟩:=Wx.mp e;exact j r d _ (by rw[Yc d,i]) _ g
inductive V2(i:O V)(H:Hp)(Q:VK)(E:XK):Prop
 |mk (e:Z) (h g:O Int) (b:BS) (a:ar) (k:i=[.ref e,.str a]) (l:FL H b.ps e b.F) (ok:cI h g b) (j:a∈b.ps.map (·.1)) (q:∀(p:Z) (d:O ar) (c:Hp),ai H c->c p=U (.lst (d.map V.str))->(∀z,z∈d↔h_ b a z)->Q (.ref p) c)
def muU(m:Nat):St->Hp->Nat:=λa _=>match List.getD (α:=bR V) a 3 aG with|some (V.int z)=>m+1-z.toNat|_=>0
inductive Zn(H:Hp)(b:BS)(a:ar)(l d:Z)(i:St)(h:Hp):Prop
 |mk (c:O ar) (r:Nat) (q o n m:bR V) (g:ai H h) (u:h d=U (.lst (c.map V.str))) (s:yK b a c) (t:r<=c.length) (v:∀j,j<r->∀k,c[j]?=U k->∀p∈ij b k,p∈c) (e:i=[U (.ref l),U (.str a),U (.ref d),U (.int (r:Int)),q,o,n,m]):Zn H b a l d i h
inductive NN(H:Hp)(b:BS)(a:ar)(n h:Z)(r:Nat)(m:O ar)(k:ar)(j:Nat)(l:St)(i:Hp):Prop
 |mk (d o:O ar) (t s q p:bR V) (g:ai H i) (v:i h=U (.lst (d.map V.str))) (u:yK b a d) (x:d=m++o) (z:∀c∈b.F.take j,cW c.k=af->av b.ps c.one=k->∀y,kV (bu b.ps c)=.str y->y∈d) (e:l=[U (.ref n),U (.str a),U (.ref h),U (.int (r:Int)),t,s,q,p]):NN H b a n h r m k j l i
def Zdq(h:Flat o):jw o=af:=by
 rcases h with⟨_,rfl⟩|⟨_,rfl⟩<;>rfl
def P_(a:O ar):(a.map V.str).all jw=af:=by
 rw[Wq];intro v b;obtain⟨k,_,rfl⟩:=Yf.mp b;rfl
def DD(y:ar)(ks:O ar):eQ (.str y) (ks.map V.str)=af↔y∈ks:=by
 unfold eQ;rw[Mw];constructor
 ·rintro⟨v,a,e⟩;obtain⟨k,b,rfl⟩:=Yf.mp a;have:(k==y)=af:=e
  grind
 ·intro h;exact⟨.str y,Yf.mpr ⟨y,h,rfl⟩,by show(y==y)=af;rw[beq_iff_eq]⟩
abbrev L5:O ar:=["_law_facts","_law_kind","_law_one","_law_other"]
def y_:aP ["_law_facts","_law_kind","_law_one","_law_other","_law_number","_law_had","_law_here","_law_there"] L5 (aJ Hy):=.aY
def Zcn(F:aM K "_law_told" "_law_told" Hy f fd):aB P w K mg I aL 1 f fd L5 Sx:=by
 refine F.o y_ λs H hr h=>?_;obtain⟨y,i,F,k,a,o,rfl,T,B,q⟩:=h;refine⟨_,(aj (ic hY rfl (fX rfl (pv 0)) (jt rfl rfl (bX (bG 4 y_.nd) (bX (bG 5 y_.nd) (bX (bG 6 y_.nd) (bX (bG 7 y_.nd) jr))))) (aj (aR (PW.pt (pw_and (bp bZ (pv 5) (pv 1)) (pw_and (bp bZ (pv 6) (pv 2)) (pw_and1 (PW.pt (pw_or (bp bZ (pv 7) (pv 3)) (pw_or1 (fY (lJ rfl) (pv 1) (cU (aa aV (aa aV ae))) (by with_unfolding_all rfl))))))))) (au (aH ku)) aW) (au (aR (PW.pt (pw_and (bp bZ (pv 5) (pv 1)) (pw_and (bp bZ (pv 1) aV) (pw_and (bp bZ (pv 7) (pv 2)) (pw_and1 (bp bZ (pv 6) (pv 3))))))) (au (aH ku)) aW)))) (au (aH (qp (eY bZ (pv 1) aV) (nM (eY bZ (pv 2) (pv 3))))))),?_⟩;obtain⟨as,E,al,Q⟩:=T.get;refine ib (λd l=>ai H l/\F.any (n5 i k a o)=a8/\∃r p n m:bR V,d=[U (.ref y),U (.str k),U (.str a),U o,r,p,n,m]) (λkN W=>?_) ?_
 ·refine⟨_,rfl,y,rfl,⟨_,aq.of E⟩,kW (λj d l=>ai H l/\(F.take j).any (n5 i k a o)=a8/\∃r p n m:bR V,d=[U (.ref y),U (.str k),U (.str a),U o,r,p,n,m])
   ⟨ai.refl _,rfl,aG,aG,aG,aG,rfl⟩ (λj d l _ ⟨g,_⟩=>aq.of (g _ _ E)) ?_ ?_⟩
  ·rintro j v d l L ⟨g,no,r,p,n,m,rfl⟩;obtain⟨X,c,z,rfl,J,G,N⟩:=Q l j v g L;have x:n5 i k a o c=af->qG i F k a o=af:=λh=>by
    unfold qG;rw[Mw.mpr ⟨c,Yg J,h⟩];rfl
   refine⟨X,_,rfl,az.of N,rfl,_,_,rfl,a_ ⟨_,_,rfl,a_ ⟨_,_,rfl,a_ ⟨_,_,rfl,a_ ⟨rfl,?_⟩⟩⟩⟩⟩;refine jV (λd u=>ai H u/\(decide (c.k=k)&&(decide (av i c.one=a)&&(decide (kV (bu i c)=o)||cW k)))=a8/\d=[U (.ref y),U (.str k),U (.str a),U o,U (.int z),U (.str c.k),U (.str (av i c.one)),U (kV (bu i c))]) (λpO R=>?_) ?_
   ·refine(Bt.and (Vt.test (Vt.eq (Vt.var rfl) (λ_ _=>Vt.var rfl) rfl)) λ_ _ _=>Bt.and (Vt.test (Vt.eq (Vt.var rfl) (λ_ _=>Vt.var rfl) rfl)) λ_ _ _=>Bt.or (Vt.test (Vt.eq (Vt.var rfl) (λ_ _=>Vt.var rfl) (BP (Cs _) B))) λ_ _ _=>Vt.test (Vt.Lw (Vt.var rfl))) _ λu t=>?_;rw[dY,dY];refine bc (λb=>?_) (λb=>?_)
    ·have:=x (by unfold n5;rw[Wp] at b⊢;exact⟨b.1,by rw[b.2];rfl⟩);rw[this] at q;exact q u (g.trans t)
    ·exact aT (R _ _ ⟨g.trans t,Js.mpr b,rfl⟩)
   ·rintro d u ⟨t,A,rfl⟩;refine(Bt.and (Vt.test (Vt.eq (Vt.var rfl) (λ_ _=>Vt.var rfl) rfl)) λ_ _ _=>Bt.and (Vt.test (Vt.eq (Vt.var rfl) (λ_ _=>Vt.c) rfl)) λ_ _ _=>Bt.and (Vt.test (Vt.eq (Vt.var rfl) (λ_ _=>Vt.var rfl) (BP (Cs _) (.inr ⟨_,rfl⟩)))) λ_ _ _=>Vt.test (Vt.eq (Vt.var rfl) (λ_ _=>Vt.var rfl) (BP (.inr ⟨_,rfl⟩) B))) _ λH8 D=>?_;rw[dY,dY];refine bc (λb=>?_) (λb=>aT ?_)
    ·have:=x (by unfold n5;rw[Wp] at b⊢;exact⟨b.1,by rw[b.2,Bool.or_true]⟩);rw[this] at q;exact q H8 (t.trans D)
    ·refine⟨t.trans D,?_,_,_,_,_,rfl⟩;rw[G,List.any_append,no,D4,Jr,List.any_nil,vX];unfold n5;rw[Bool.and_or_distrib_left,A,D4];exact Js.mpr b
  ·rintro d l ⟨g,no,r,p,n,m,rfl⟩;rw[Ya,al,Y8] at no;exact W _ _ ⟨g,no,r,p,n,m,rfl⟩
 rintro d l ⟨g,no,r,p,n,m,rfl⟩;refine(Vt.V1 (Vt.eq (Vt.var rfl) (λ_ _=>Vt.c) rfl) λ_ _ _=>Vt.eq (Vt.var rfl) (λ_ _=>Vt.var rfl) (BP (.inr ⟨_,rfl⟩) B)) _ λu t=>?_;have e:=q u (g.trans t);unfold qG at e;rw[no,D4] at e;rwa[dY]
abbrev DE:O ar:=["_law_sides","_law_kind","_law_one","_law_other"]
def ZbL:aP DE DE (aJ GW):=.aY
def ZbM(F:aM K "_law_sided" "_law_sided" GW f fd):aB P w K mg I aL 1 f fd DE Sy:=by
 refine F.o ZbL λs H l h=>?_;obtain⟨g,m,k,i,j,rfl,p,n,x,t,d,q⟩:=h;refine⟨_,(aj (aR (bp bZ (pv 1) aV) (au (aH (eY bZ (dF (bF l) (pv 0) (pv 3) (λ_ _=>rfl)) aV))) aW) (aj (aR (bp bZ (pv 1) aV) (au (aH (eY bZ (dF (bF l) (pv 0) (pv 3) (λ_ _=>rfl)) aV))) aW) (au (aH (K9 (eY k9 (pv 1) aV) (nM (qp (eY bZ (dF (bF l) (pv 0) (pv 2) (λ_ _=>rfl)) aV) (nM (eY bZ (dF (bF l) (pv 0) (pv 3) (λ_ _=>rfl)) aV))))))))),?_⟩;have u:=dh p (qm n t);refine⟨_,rfl,rfl,_,rfl,?_⟩;rw[dY];refine bc (λc=>?_) (λc=>aT ?_)
 ·have e:k="mother":=fb c;refine⟨_,rfl,_,rfl,g,_,rfl,u,rfl,?_⟩;rw[dY];unfold mO at q;rw[bS e] at q;exact q H (ai.refl _)
 have o:k≠"mother":=λz=>c (d6 z);refine⟨_,rfl,rfl,_,rfl,?_⟩;rw[dY];refine bc (λc=>?_) (λc=>aT ?_)
 ·have e:k="father":=fb c;refine⟨_,rfl,_,rfl,g,_,rfl,u,rfl,?_⟩;rw[dY];unfold mO at q;rw[bt o,bS e] at q;exact q H (ai.refl _)
 have r:k≠"father":=λz=>c (d6 z);have B:(!decide (k="wed"))=decide (k="sibling"):=by
  rcases d with z|z|z|z;·exact absurd z o
  ·exact absurd z r
  ·rw[z];decide+kernel
  ·rw[z];decide+kernel
 refine(Vt.orV (a:=decide (k="sibling")) (b:=decide (gq m i="man")&&decide (gq m j="woman")) ?_ λG _ v=>Vt.V1 (a:=decide (gq m i="man")) ?_ λE _ y=>?_) _ λD A=>?_
 ·rw[←B,←dY];exact Vt.ne (Vt.var rfl) (λ_ _=>Vt.c) rfl
 ·rw[←dY];exact Vt.eq (λk d=>⟨_,rfl,_,rfl,g,_,rfl,dh (v _ _ p) (qm n x),d _ (ai.refl _)⟩) (λ_ _=>Vt.c) rfl
 ·rw[←dY];exact Vt.eq (λk d=>⟨_,rfl,_,rfl,g,_,rfl,dh (y _ _ (v _ _ p)) (qm n t),d _ (ai.refl _)⟩) (λ_ _=>Vt.c) rfl
 ·unfold mO at q;rw[bt o,bt r] at q;exact q D A
abbrev L6:O ar:=["_law_facts","_law_name_here"]
def rP:aP ["_law_facts","_law_name_here","_law_row_here","_law_at","_law_number","_law_kind","_law_one","_law_other"] L6 (aJ JH):=.aY
def Zeq(F:aM K "_law_up" "_law_up" JH f fd)(bl:Bl mg):aB P w K mg I aL 1 f fd L6 V2:=by
 refine F.o rP λs H hr h=>?_;obtain⟨N,xs,ys,b,a,rfl,fF,ok,ma,q⟩:=h;refine⟨_,(aj (bh 2 rP.nd (cV (aa (pv 1) ae))) (aj (bh 3 rP.nd aw) (aj (I_ hY (bp nP (pv 3) (cT K bl (pv 2))) (aj (ic hY rfl (fX (K:=K) rfl (pv 0)) (jt (K:=K) (n:=4) rfl rfl (bX (bG 4 rP.nd) (bX (bG 5 rP.nd) (bX (bG 6 rP.nd) (bX (bG 7 rP.nd) jr))))) (au (aR (PW.pt (pw_and (fY (lJ (K:=K) rfl) (pv 5) (cU (aa aV (aa aV ae))) (by with_unfolding_all rfl)) (pw_and (bp bZ (pv 6) (aI (iL K) (pv 2) (pv 3))) (pw_and1 (fY (xD (K:=K) rfl) (pv 7) (pv 2) (by with_unfolding_all rfl)))))) (au (cE (qu (K:=K) rfl (mP jo lr lp rG (pv 2) (aa (pv 7) ae))))) aW))) (au (Kq (i:=3) rP.nd rfl (hP rfl) aw SW)))) (au (aH (pv 2)))))),?_⟩;have sz:(10000:Nat)<=sizeLine:=by rw[dU];decide
 obtain⟨as,cY,al,gt⟩:=fF.get;have Zo:=ok.m;refine bN ?_;refine⟨_,rfl,by show 1<=sizeLine;decide,λm H1 Ba g1 NI=>?_⟩;refine setC ?_;refine ib (λB Q=>∃ks:O ar,ai H Q/\Q m=U (.lst (ks.map V.str))/\(∀z,z∈ks↔h_ b a z)/\∃o3 o4 o5 o6 o7:bR V,B=[U (.ref N),U (.str a),U (.ref m),o3,o4,o5,o6,o7]) (λkN dD=>?_) ?_
 ·refine JA (Zn H b a N m) (muU b.ps.length) ⟨[a],0,aG,aG,aG,aG,g1,NI,⟨Y0.mpr ⟨(λz=>nomatch z),Jd⟩,λk W=>by rw[Ym.mp W];exact .refl,Yk⟩,Yx _,λr hr=>absurd hr (Wn _),rfl⟩ ?_ ?_
  ·rintro B Q ⟨ks,r,o4,o5,o6,o7,g6,T,up,rl,cl,rfl⟩;have kl:(ks.map V.str).length=ks.length:=Ya _;have gl:=up.len ok ma;refine⟨_,rfl,_,rfl,m,_,rfl,.inl (aq.of T),_,_,rfl,rfl,_,rfl,?_⟩;rw[kl];refine bc (λc=>?_) (λc=>?_)
   ·have R:r<ks.length:=by have:=fb c;omega
    obtain⟨k,ek⟩:∃k,ks[r]?=U k:=⟨_,Yc R⟩;have mk:k∈ks:=Yg ek;refine ib (NN H b a N m r ks k b.F.length) (λvU fS=>?_) ?_
    ·refine⟨_,rfl,N,rfl,⟨_,aq.of (g6 _ _ cY)⟩,kW (K:=K) (a:=N) (xs:=as.map V.ref) (NN H b a N m r ks k) ⟨ks,[],o4,o5,o6,o7,g6,T,up,by rw[We],λc hc=>(nomatch hc),rfl⟩ (λj B H8 _ ⟨_,_,_,_,_,_,g,_,_,_,_,_⟩=>aq.of (g _ _ cY)) ?_ ?_⟩
     ·rintro j v B H8 hj ⟨fM,tl,p4,p5,p6,p7,X,L,t,A,jN,rfl⟩;obtain⟨c0,c,z,rfl,jL,lY,hc⟩:=gt H8 j v X hj;have mc:c∈b.F:=Yg jL;have EV:fM[r]?=U k:=by rw[A,Wg R];exact ek
      have gl8:=t.len ok ma;refine⟨c0,_,rfl,az.of hc,rfl,_,_,rfl,a_ ⟨_,_,rfl,a_ ⟨_,_,rfl,a_ ⟨_,_,rfl,a_ ⟨rfl,?_⟩⟩⟩⟩⟩;refine(Bt.and (Vt.test (Vt.Lw (k:=c.k) (Vt.var rfl))) λHA _ gA=>Bt.and (Vt.test (Vt.eq (x:=.str (av b.ps c.one)) (y:=.str k) (Vt.var rfl) (λHB gB kk W=>⟨_,rfl,_,rfl,m,_,_,_,rfl,rfl,aq.of (gB _ _ (gA _ _ L)),eZ (by rw[Ye,EV];rfl),W _ (ai.refl _)⟩) rfl)) λHB _ gB=>Vt.test (b:=!eQ (kV (bu b.ps c)) (fM.map V.str)) λkk W=>⟨_,rfl,_,rfl,m,_,rfl,.inl (aq.of (gB _ _ (gA _ _ L))),Zdq (Cs _),P_ _,W _ (ai.refl _)⟩) _ λH9 g9=>?_;rw[dY];have yI:∀kQ:O ar,(∀x∈fM,x∈kQ)->(cW c.k=af->av b.ps c.one=k->∀y,kV (bu b.ps c)=.str y->y∈kQ)->∀c'∈b.F.take (j+1),cW c'.k=af->av b.ps c'.one=k->∀y,kV (bu b.ps c')=.str y->y∈kQ:=λkQ sub hh c' J G E y D=>by
       rw[lY] at J;rcases Yu.mp J with J|J;·exact sub _ (jN c' J G E y D)
       ·rw[Ym.mp J] at G E D;exact hh G E y D
      refine bc (λcc=>?_) (λcc=>aT ?_)
      ·rw[Wp,Wp,gI] at cc;obtain⟨c1,c2,c3⟩:=cc;have ns:c.k≠bj:=λz=>by rw[z] at c1;exact absurd c1 (by decide+kernel)
       have eo:kV (bu b.ps c)=.str (av b.ps c.aN.toNat):=by rw[iX ns];rfl
       have v8:=g9 _ _ L;refine⟨_,rfl,.inl ⟨rfl,_,aq.of v8⟩,_,rfl,m,_,_,rfl,rfl,v8,by rw[Ya];omega,λqV Bb qY=>?_⟩;have no:av b.ps c.aN.toNat∉fM:=λz=>by
        rw[eo,(DD _ _).mpr z] at c3;cases c3
       refine⟨fM++[av b.ps c.aN.toNat],tl++[av b.ps c.aN.toNat],_,_,_,_,λd o e=>Bb _ _ (g9 _ _ (X _ _ e)) (cA e Ba),by rw[qY,Yo,eo];rfl,⟨?_,λx l=>?_,Yt _ t.ma⟩,by rw[A,Ju],yI _ (λx l=>Yt _ l) λ_ _ y hy=>?_,rfl⟩
       ·refine W0.mpr ⟨t.nd,by simp,λu hu w hw z=>?_⟩;rw[Ym] at hw;rw[z,hw] at hu;exact no hu
       ·rcases Yu.mp l with l|l;·exact t.sd x l
        ·rw[Ym.mp l];exact .step (t.sd k (Yg EV)) ((Q8 ok).mpr ⟨c,mc,c1,c2,eo⟩)
       ·rw[eo] at hy;rw[←V.str.inj hy];exact Ys _ Yk
      ·refine⟨fM,tl,_,_,_,_,X.trans g9,g9 _ _ L,t,A,yI _ (λ_ h=>h) λG E y D=>?_,rfl⟩;rw[G,J8,d6 E,J8,D] at cc;by_cases z:y∈fM;·exact z
       ·exact absurd (by rw[Js.mpr (λw=>z ((DD _ _).mp w))];rfl) cc
     ·grind
    ·rintro B H8 ⟨fM,tl,p4,p5,p6,p7,X,L,t,A,jN,rfl⟩;rw[Y8] at jN;have EV:fM[r]?=U k:=by rw[A,Wg R];exact ek
     refine⟨_,rfl,_,_,rfl,rfl,?_⟩;refine⟨⟨fM,r+1,p4,p5,p6,p7,X,L,t,by rw[A,Yl];exact mR (Xx _ R),λr' h' x l p hp=>?_,rfl⟩,?_⟩
     ·by_cases z:r'=r
      ·rw[z,EV] at l;cases l;obtain⟨c,mc,G,E,D⟩:=(Q8 ok).mp hp;exact jN c mc G E p D
      ·rw[A,Wg (hT h' (mR R))] at l;rw[A];exact Yt _ (cl r' (gb (gc h') z) x l p hp)
     ·show b.ps.length+1-(r+1)<b.ps.length+1-r;omega
   ·have re:¬((r:Int)<(ks.length:Int)):=λz=>c (d6 z);exact dD _ _ ⟨ks,g6,T,up.all (λr' h'=>cl r' (by omega)),_,_,_,_,_,rfl⟩
  ·rintro B Q Q1 Q2 mo ⟨v1,w1,v2,w2,v3,v4,w3,w4,v5,v6,w5,w6,v7,w7,h⟩;exact⟨v1,w1,v2,w2,v3,v4,w3,w4,v5,v6,w5,w6,v7,w7,mo _ _ h⟩
 rintro B Q ⟨ks,g6,T,al,o3,o4,o5,o6,o7,rfl⟩;exact⟨_,rfl,q m ks Q g6 T al⟩
open Classical in
noncomputable def oZ (n:Nat) (b:BS) (c:Fc):ar:=if c.k≠bj/\mO c.k (gq b.ps c.one) (gq b.ps c.aN.toNat)=a8 then"wrong side" else if qG b.ps b.F c.k (av b.ps c.one) (kV (bu b.ps c))=af then"told twice" else if cW c.k=af/\h_ b (av b.ps c.aN.toNat) (av b.ps c.one) then"own elder" else if dG (b.F++[c]) n c.one=[] then"barred" else""
inductive T_(k:O V)(H:Hp)(Q:VK)(E:XK):Prop
 |mk (g i e h:Z) (a d:O Int) (b:BS) (c:Fc) (r:k=[.ref g,.ref i,.ref e,.ref h]) (m:H g=U (.dK (gn b.ps))) (n:FL H b.ps i b.F) (l:gu H e a d) (o:H h=U (.tup [.str c.k,.str (av b.ps c.one),kV (bu b.ps c)])) (ok:cI a d b) (p:eB a d b.ps.length c) (q:∀j,ai H j->Q (.str (oZ a.length b c)) j)
def ZiB(b:eB xs d m c)(a:c.k≠bj):c.k="mother"\/c.k="father"\/c.k="wed"\/c.k="sibling":=by
 have h:=b.uL a
 grind
abbrev L7:O ar:=["_law_sides","_law_facts","_law_turns_here","_law_fact_here"]
def Br:aP ["_law_sides","_law_facts","_law_turns_here","_law_fact_here","_law_kind","_law_one","_law_other"] L7 (aJ Hz):=.aY
open Classical in
theorem Zco(F:aM K "_law_word" "_law_word" Hz f fd)(Hh:HasFn P w K mg I 1 "_law_sided" DE Sy)(Ic:HasFn P w K mg I 1 "_law_told" L5 Sx)(JT:HasFn P w K mg I 1 "_law_up" L6 V2)(qb:HasFn P w K mg I 3 "_law_room" Ah CM)(bl:Bl mg):aB P w K mg I aL 4 f fd L7 T_:=by
 refine F.o Br λs H d h=>?_;obtain⟨v,E,B,ff,y,ys,b,c,rfl,D,Q,J,hc,ok,j,q⟩:=h;have hu:=d.r8;refine⟨_,(aj (oU (pv 3) (jt (K:=K) (n:=3) rfl rfl (bX (bG 4 Br.nd) (bX (bG 5 Br.nd) (bX (bG 6 Br.nd) jr))))) (aj (aR (bp bZ (pv 4) aV) (aj (aR (jU (mG (bF d) (pv 5) (pv 0)) (by with_unfolding_all rfl)) (au (aH aV)) aW) (au (aR (PW.pt (pw_or (bp nP (pv 6) aw) (pw_or1 (bp ZiR (pv 6) (cT K bl (dF (bF d) (pv 2) aV (λ_ _=>rfl))))))) (au (aH aV)) aW))) (aj (aR (jU (mG (bF d) (pv 4) (pv 2)) (by with_unfolding_all rfl)) (au (aH aV)) aW) (aj (aR (PW.pt (pw_or (jU (mG (bF d) (pv 5) (pv 0)) (by with_unfolding_all rfl)) (pw_or1 (jU (mG (bF d) (pv 6) (pv 0)) (by with_unfolding_all rfl))))) (au (aH aV)) aW) (au (aR (ju (e_ (aQ Hh d (aa (pv 0) (aa (pv 4) (aa (pv 5) (aa (pv 6) ae))))))) (au (aH aV)) aW))))) (aj (aR (e_ (aQ Ic d (aa (pv 1) (aa (pv 4) (aa (pv 5) (aa (pv 6) ae)))))) (au (aH aV)) aW) (aj (aR (PW.pt (pw_and (fY (lJ (K:=K) rfl) (pv 4) (cU (aa aV (aa aV ae))) (by with_unfolding_all rfl)) (pw_and1 (fY (lJ (K:=K) rfl) (pv 5) (aQ JT d (aa (pv 1) (aa (pv 6) ae))) (by with_unfolding_all rfl))))) (au (aH aV)) aW) (aj (aR (bp (Tc hu) (aQ qb d (aa (aZ rW (pv 1) (cV (aa (cU (aa (aZ Ct aw aw) (aa (pv 4) (aa (pv 5) (aa (pv 6) ae))))) ae))) (aa (pv 2) (aa (pv 5) ae)))) (cV ae)) (au (aH aV)) aW) (au (aH aV))))))),?_⟩;have sz:(10000:Nat)<=sizeLine:=by rw[dU];decide
 have one:=j.ok.one;have o:=qm ok.nm one;refine⟨_,rfl,ff,_,rfl,az.of hc,rfl,_,_,rfl,a_ ⟨_,_,rfl,a_ ⟨_,_,rfl,a_ ⟨rfl,?_⟩⟩⟩⟩;dsimp only;refine jV (λσ H7=>ai H H7/\¬(c.k≠bj/\mO c.k (gq b.ps c.one) (gq b.ps c.aN.toNat)=a8)/\σ=[U (.ref v),U (.ref E),U (.ref B),U (.ref ff),U (.str c.k),U (.str (av b.ps c.one)),U (kV (bu b.ps c))]) (λpO fJ=>?_) ?_
 ·refine⟨_,rfl,rfl,_,rfl,?_⟩;rw[dY];refine bc (λcc=>?_) (λcc=>?_)
  ·have G:c.k=bj:=fb cc;have r:kV (bu b.ps c)=.int c.aN:=by rw[oM G];rfl
   refine⟨_,rfl,_,rfl,v,_,rfl,dh D o,_,rfl,bW (aT ?_)⟩;obtain⟨s0,s1⟩:=j.LV G;obtain⟨_,_,_,u0,W,_,_,_,yJ⟩:=id J;refine(Bt.or (a:=decide (c.aN<0)) (b:=decide ((((bB y.length).map V.int).length:Int)<=c.aN)) (λk i=>⟨_,rfl,c.aN,0,r,rfl,_,rfl,i _ (ai.refl _)⟩) λH1 _ o k i=>⟨_,rfl,_,rfl,B,.ref u0,rfl,dh (o _ _ W) rfl,u0,_,rfl,.inr (az.of (o _ _ yJ)),c.aN,_,r,rfl,_,rfl,i _ (ai.refl _)⟩) _ λH2 m=>?_;rw[g_ (Xz s0),g_ (by rw[Ya,fN];exact Int.not_le_of_gt s1)];exact bW (aT (fJ _ _ ⟨m,λz=>z.1 G,rfl⟩))
  ·have g:c.k≠bj:=λz=>cc (d6 z);have r:kV (bu b.ps c)=.str (av b.ps c.aN.toNat):=by rw[iX g];rfl
   obtain⟨tk,u,W,vu,_⟩:=J.get (j.uL g);have m:=qm ok.nm (j.ok.iy g).1.2;refine⟨_,rfl,_,rfl,B,_,rfl,dh W vu,_,rfl,bW (aT ?_)⟩;refine(Bt.or (a:=a8) (b:=a8) (λk i=>⟨_,rfl,_,rfl,v,_,rfl,dh D o,_,rfl,i _ (ai.refl _)⟩) λH1 _ o k i=>⟨_,rfl,_,rfl,v,U (.str (gq b.ps c.aN.toNat)),rfl,(by rw[r];exact dh (o _ _ D) m),_,rfl,i _ (ai.refl _)⟩) _ λH2 m=>bW (aT ?_);refine⟨_,rfl,_,rfl,_,rfl,_,rfl,v,b.ps,c.k,c.one,c.aN.toNat,by rw[r];rfl,m _ _ D,ok.nm,one,(j.ok.iy g).1.2,ZiB j g,λH3 g3=>⟨_,rfl,?_⟩⟩;cases es:mO c.k (gq b.ps c.one) (gq b.ps c.aN.toNat) with
   |true=>exact bW (aT (fJ _ _ ⟨m.trans g3,λz=>by rw[es] at z;exact absurd z.2 (by decide),rfl⟩))
   |false=>
    refine cZ ?_;have e:oZ y.length b c="wrong side":=bS ⟨g,es⟩;rw[e] at q;exact q _ (m.trans g3)
 rintro σ H7 ⟨g7,nw,rfl⟩;refine⟨_,rfl,_,rfl,_,rfl,_,rfl,E,b.ps,b.F,c.k,av b.ps c.one,kV (bu b.ps c),rfl,Q.same g7,Cs _,λH8 g8=>⟨_,rfl,?_⟩⟩;have NO:=g7.trans g8;unfold oZ at q;rw[bt nw] at q;refine bc (λX=>?_) (λX=>aT ?_)
 ·rw[bS X] at q;exact q _ NO
 rw[bt X] at q;refine(Bt.and (b:=decide (h_ b (av b.ps c.aN.toNat) (av b.ps c.one))) (Vt.test (Vt.Lw (k:=c.k) (Vt.var rfl))) λH9 ip T k i=>?_) _ λH9 T=>?_
 ·have g:c.k≠bj:=λz=>by rw[z] at ip;exact absurd ip (by decide+kernel)
  have r:kV (bu b.ps c)=.str (av b.ps c.aN.toNat):=by rw[iX g];rfl
  refine⟨_,rfl,_,rfl,_,rfl,E,y,ys,b,av b.ps c.aN.toNat,by rw[r];rfl,Q.same (NO.trans T),ok,uw (j.ok.iy g).1.2,λp ks H' g' N al=>⟨p,_,rfl,.inl (aq.of N),rfl,P_ _,_,rfl,?_⟩⟩;have e:eQ (V.str (av b.ps c.one)) (ks.map V.str)=decide (h_ b (av b.ps c.aN.toNat) (av b.ps c.one)):=by
   rw[Wd,gI,DD,al]
  rw[e];exact i _ g'
 have A:=NO.trans T;refine bc (λx=>?_) (λx=>aT ?_)
 ·rw[Wp,gI] at x;rw[bS x] at q;exact q _ A
 rw[Wp,gI] at x;rw[bt x] at q;obtain⟨as,cY,dE⟩:=Q.same A;have al:=de dE;have fl:=ok.fl;have Fl:b.F.length=b.fs.length:=Ya _;refine⟨_,rfl,_,_,rfl,rfl,_,rfl,_,rfl,_,rfl,by show 4<=sizeLine;decide,λt Ht nt gt Be=>⟨by show 1<=sizeLine;decide,λl Hl nl R hl=>⟨E,l,_,_,rfl,rfl,R _ _ (gt _ _ cY),hl,by rw[Ya];show _+1<=_;omega,λp Hp np gp N=>⟨_,rfl,_,rfl,?_⟩⟩⟩⟩;have NP:=(gt.trans R).trans gp;refine⟨p,B,b.ps,y,ys,b.F++[c],c.one,rfl,⟨as++[t],by rw[N,Yo];rfl,kq (F:=ER Hp b.ps) ⟨-1,gp _ _ (R _ _ Be)⟩ (L2.Paired.bI dE λ_ _ ⟨z,e⟩=>⟨z,NP _ _ e⟩)⟩,J.same (A.trans NP),ok.nm,λc' sX=>?_,ok.gd.2.2.2.2,by have:=ok.m;omega,by rw[Yl];show _+1<=64;omega,one,λpr Hr npr gr L=>⟨by show 0<=sizeLine;decide,λe He ne ge he=>⟨pr,e,_,[],rfl,rfl,aq.of (ge _ _ L),aq.of he,_,rfl,?_⟩⟩⟩
 ·rcases Yu.mp sX with h|h
  ·obtain⟨pp,NQ,rfl⟩:=Yf.mp (show c'∈b.fs.map (·.2) from h);exact ok.fg pp NQ
  ·rw[Ym.mp h];exact j
 have gE:=(A.trans NP).trans (gr.trans ge);refine bc (λcr=>?_) (λcr=>aT ?_)
 ·rw[bS (fb cr)] at q;exact q _ gE
 ·rw[bt (λz=>cr (d6 z))] at q;exact q _ gE
def Sz(a b:ar):(L2.sH a b=a/\L2.sJ a b=b)\/(L2.sH a b=b/\L2.sJ a b=a):=by
 unfold L2.sH L2.sJ;by_cases d:b.cps.toList<a.cps.toList;·grind
 ·rw[bt d];by_cases c:a.cps.toList<b.cps.toList;·grind
  ·rw[bt c];have e:a=b:=by
    cases a with|mk ca=>cases b with|mk g=>
     grind
   grind
theorem Q9{b:BS}(h:qG b.ps b.F c.k (av b.ps c.one) (kV (bu b.ps c))=a8):gf b.ps c∉b.keys/\(cW c.k=af->[.inr c.k,.inr (av b.ps c.one)]∉(cF b.ps b.fs).map (·.1))/\¬(c.k="sibling"/\V.str (av b.ps c.one)=kV (bu b.ps c)):=by
 unfold qG at h;rw[Bool.or_eq_false_iff] at h;obtain⟨H,D⟩:=h;have no:∀p∈b.fs,n5 b.ps c.k (av b.ps c.one) (kV (bu b.ps c)) p.2=a8:=λp k=>by
  have:=WM.mp H p.2 (Yf.mpr ⟨p,k,rfl⟩);exact Js.mpr this
 have s:∀{u v:Key},u=v->kV u=kV v:=λe=>by rw[e]
 refine⟨λG=>?_,λF k=>?_,λ⟨g,a⟩=>?_⟩
 ·obtain⟨p,k,e⟩:=Yf.mp G;have n:=no p k;have l:p.2.k=c.k->((av b.ps p.2.one=av b.ps c.one/\bu b.ps p.2=bu b.ps c)\/(c.k="sibling"/\bu b.ps p.2=.inr (av b.ps c.one)/\Sum.inr (av b.ps p.2.one)=bu b.ps c))->False:=λg a=>by
   have:n5 b.ps c.k (av b.ps c.one) (kV (bu b.ps c)) p.2=af:=by
    unfold n5;rw[d6 g,J8];rcases a with⟨a,d⟩|⟨a,d,J⟩;·rw[d6 a,d6 (s d)];rfl
    ·rw[d6 a,d6 (show kV (bu b.ps p.2)=.str (av b.ps c.one) by rw[d];rfl),d6 (show V.str (av b.ps p.2.one)=kV (bu b.ps c) by rw[←J];rfl)];simp
   rw[this] at n;cases n
  unfold gf at e;cases j:bu b.ps p.2 with
  |inl t=>
   cases i:bu b.ps c with
   |inl o=>
    rw[j,i] at e;injection e with g e;injection e with a e;injection e with d _;exact l (Wh g) (.inl ⟨Wh a,by rw[j,i,d]⟩)
   |inr o=>
    rw[j,i] at e;unfold keyOf at e;dsimp at e;split at e
    ·injection e with g e;injection e with a e;injection e with d _;cases d
    ·injection e with g e;injection e with a e;injection e with d _;cases d
  |inr t=>
   cases i:bu b.ps c with
   |inl o=>
    rw[j,i] at e;unfold keyOf at e;dsimp at e;split at e
    ·injection e with g e;injection e with a e;injection e with d _;cases d
    ·injection e with g e;injection e with a e;injection e with d _;cases d
   |inr o=>
    rw[j,i] at e;have r:p.2.k=c.k:=by
     unfold keyOf at e;dsimp at e;split at e<;>split at e<;>(injection e with g _;exact Wh g)
    unfold keyOf at e;dsimp at e;rw[r] at e;by_cases m:c.k="sibling"
    ·rw[bS m,bS m] at e;injection e with _ e;injection e with a e;injection e with d _;have a:=Wh a;have d:=Wh d;refine l r ?_;rcases Sz (av b.ps p.2.one) t with⟨A,z⟩|⟨A,z⟩<;>rcases Sz (av b.ps c.one) o with⟨y,x⟩|⟨y,x⟩<;>rw[A,y] at a<;>rw[z,x] at d;·exact .inl ⟨a,by rw[j,i,d]⟩
     ·exact .inr ⟨m,by rw[j,d],by rw[i,a]⟩
     ·exact .inr ⟨m,by rw[j,a],by rw[i,d]⟩
     ·exact .inl ⟨d,by rw[j,i,a]⟩
    ·rw[bt m,bt m] at e;injection e with _ e;injection e with a e;injection e with d _;exact l r (.inl ⟨Wh a,by rw[j,i,d]⟩)
 ·obtain⟨q,B,e⟩:=Yf.mp k;unfold cF at B;obtain⟨p,k,rfl⟩:=Yf.mp B;obtain⟨E,L⟩:=Y5.mp k;have n:=no p E;injection e with g e;injection e with a _;unfold n5 at n;rw[d6 (Wh g),d6 (Wh a),F] at n;simp at n
 ·rw[d6 g,d6 a] at D;cases D
def Zer(e:cI xs i b)(o:eB xs i b.ps.length c)(h:dG (b.F++[c]) xs.length c.one≠[]):∃f,ny xs.length b.ps.length f/\∀c'∈b.F++[c],fH f c':=by
 obtain⟨a,n⟩:=List.exists_mem_of_ne_nil _ h;obtain⟨_,g,p,m⟩:=rO.mp n;obtain⟨t,inr,j⟩:=e.lv;have l:∀c'∈b.F++[c],dZ xs.length b.ps.length c':=λc' d=>by
  rcases Yu.mp d with h|h
  ·obtain⟨k,q,rfl⟩:=Yf.mp (h);exact(e.fg k q).ok
  ·rw[Ym.mp h];exact o.ok
 obtain⟨f,s,r,_⟩:=GD l inr (λc' d=>by
  rcases Yu.mp d with h|h;·grind
  ·rw[Ym.mp h];exact .inl rfl) p m
 grind
def SA{a:O Int}(h:oZ a.length b c=""):¬(c.k≠bj/\mO c.k (gq b.ps c.one) (gq b.ps c.aN.toNat)=a8)/\qG b.ps b.F c.k (av b.ps c.one) (kV (bu b.ps c))=a8/\¬(cW c.k=af/\h_ b (av b.ps c.aN.toNat) (av b.ps c.one))/\dG (b.F++[c]) a.length c.one≠[]:=by
 unfold oZ at h;by_cases g:c.k≠bj/\mO c.k (gq b.ps c.one) (gq b.ps c.aN.toNat)=a8;·rw[bS g] at h;exact absurd h (by decide+kernel)
 rw[bt g] at h;by_cases e:qG b.ps b.F c.k (av b.ps c.one) (kV (bu b.ps c))=af;·rw[bS e] at h;exact absurd h (by decide+kernel)
 rw[bt e] at h;by_cases d:cW c.k=af/\h_ b (av b.ps c.aN.toNat) (av b.ps c.one);·rw[bS d] at h;exact absurd h (by decide+kernel)
 rw[bt d] at h;by_cases i:dG (b.F++[c]) a.length c.one=[];·rw[bS i] at h;exact absurd h (by decide+kernel)
 grind
def JU(g:cI xs d b)(e:eB xs d b.ps.length c)(a:b.fs.length<63)(h:oZ xs.length b c=""):Dq xs d b c:=by
 obtain⟨_,l,_,k⟩:=SA h;obtain⟨j,i,_⟩:=Q9 l;exact⟨e,j,i,Zer g e k,a⟩
def ZfP(i:cI xs d b)(o:eB xs d b.ps.length c)(a:b.fs.length<63)(h:oZ xs.length b c="")(e:c.k≠bj):Lu xs d b c:=by
 obtain⟨t,n,m,_⟩:=SA h;obtain⟨s,k,j⟩:=Q9 n;have g:=iX (ps:=b.ps) e;refine⟨JU i o a h,e,?_,⟨k,λ_=>⟨?_,λ⟨q,p⟩=>j ⟨q,by rw[g,p];rfl⟩⟩⟩,λl r=>m ⟨l,r⟩⟩;·grind
 ·rwa[←g]
def d_(a:bA):O V:=a.map λp=>.str p.1
def uz(a:bA):(d_ a).length=a.length:=Ya _
def ZiC(b:0<=z)(h:z<(a.length:Int)):eG (d_ a) z=U (.str (av a z.toNat)):=by
 obtain⟨k,rfl⟩:∃k:Nat,z=(k:Int):=⟨z.toNat,my (uG b)⟩;refine eZ ?_;unfold d_ av
 grind
def su{n:Nat}(h:0<n):0<=z % (n:Int)/\z % (n:Int)<(n:Int):=⟨Jg _ (by omega),W5 _ (by omega)⟩
def Vt.uA(d:σ[i]?=U (U (.ref nl)))(c:H nl=U (.lst (d_ a)))(g:0<a.length)(n:Vt e σ H (.int z)):Vt (ke (xN K) (gX i) (ke (rI (λ_ j=>0<j) λi j=>V.int (i % j)) e (oi (z8 K) (iI (gX i) jZ)))) σ H (.str (av a (z % (a.length:Int)).toNat)):=λk h=>⟨_,d,n _ λo b=>by
 have l:=uz a;have m:=su (z:=z) g;exact⟨_,d,nl,_,rfl,.inl (aq.of (b _ _ c)),_,_,rfl,rfl,by omega,nl,_,_,_,rfl,rfl,aq.of (b _ _ c),by rw[l];exact ZiC m.1 m.2,h o b⟩⟩
inductive K2(e:O V)(H:Hp)(Q:VK)(E:XK):Prop
 |mk (c b:Z) (a:bA) (z:Int) (s:ar) (m:e=[.ref c,.ref b,.int z,.str s]) (l:H c=U (.lst (d_ a))) (k:H b=U (.dK (gn a))) (j:(a.map (·.1)).Nodup) (h:0<a.length) (g:a.length<=100) (q:∀i,i<a.length->∀d,ai H d->Q (.str (av a i)) d)
def Q_(a b:O Int)(h:0<=d/\d<4):∃(k:ar) (c:O Int) (w:ar),eG [V.str "mother",V.str "father",V.str "wed",V.str "sibling"] d=U (.str k)/\(k,c)∈ie a b/\eG [V.str "woman",V.str "man",V.str "woman",V.str ""] d=U (.str w):=by
 have:d=0\/d=1\/d=2\/d=3:=by omega
 rcases this with rfl|rfl|rfl|rfl;·exact⟨_,inv a,_,rfl,by simp,rfl⟩
 ·exact⟨_,inv (bL a b),_,rfl,by simp,rfl⟩
 ·exact⟨_,b,_,rfl,by simp,rfl⟩
 ·exact⟨_,bB a.length,_,rfl,by simp,rfl⟩
inductive Ua(l:O V)(H:Hp)(Q:VK)(E:XK):Prop
 |mk (j i k:Z) (a:bA) (b h:O Int) (p o n m e:Int) (z:l=[.ref j,.ref i,.ref k,.int (b.length:Int)]) (v:H j=U (.lst (d_ a))) (u:H i=U (.dK (gn a))) (t:(a.map (·.1)).Nodup) (s:0<a.length) (r:a.length<=100) (hd:H k=U (.lst ([p,o,n,m,e].map V.int))) (y:0<=e/\e<4) (x:lq b h) (q:∀c,eB b h a.length c->∀(d:Z) (g:Hp),H d=aG->ai H g->g d=U (.tup [.str c.k,.str (av a c.one),kV (bu a c)])->Q (.ref d) g)
abbrev DF:O ar:=["_law_names","_law_sides","_law_at","_law_side"]
def OE:aP ["_law_names","_law_sides","_law_at","_law_side","_law_k"] DF (aJ HH):=.aY
def Zcp(F:aM K "_law_pick" "_law_pick" HH f fd)(l:Bl mg):aB P w K mg I aL 1 f fd DF K2:=by
 refine F.o OE λs H Q h=>?_;obtain⟨r,p,d,z,o,rfl,v,N,L,u,X,q⟩:=h;refine⟨_,(aj (ic hY rfl (rL rfl l.kY (aa (cT K l (pv 0)) ae)) (bG 4 OE.nd) (au (aR (PW.pt (pw_or (bp bZ (pv 3) aV) (pw_or1 (bp bZ (dF (bF Q) (pv 1) (aI (iL K) (pv 0) (aZ dO (aZ iG (pv 2) (pv 4)) (cT K l (pv 0)))) (λ_ _=>rfl)) (pv 3))))) (au (aH (aI (iL K) (pv 0) (aZ dO (aZ iG (pv 2) (pv 4)) (cT K l (pv 0)))))) aW))) (au (aH (aI (iL K) (pv 0) (aZ dO (pv 2) (cT K l (pv 0))))))),?_⟩;have EW:=uz d;have at_:∀z:Int,(z % (d.length:Int)).toNat<d.length:=λz=>by have:=su (z:=z) u;omega
 refine ib (λc b=>ai H b/\∃g:bR V,c=[U (.ref r),U (.ref p),U (.int z),U (.str o),g]) (λkN R=>?_) ?_
 ·refine⟨_,rfl,r,_,rfl,.inl (aq.of v),_,rfl,by omega,by omega,Io (lo:=0) (n:=(((d_ d).length:Nat):Int).toNat) (λ_ c b=>ai H b/\∃g:bR V,c=[U (.ref r),U (.ref p),U (.int z),U (.str o),g]) ⟨ai.refl _,aG,rfl⟩ ?_ (λc b h=>R _ _ h)⟩;rintro j c b hj ⟨a,g,rfl⟩;rw[Ec];have G:∀m,ai b m->Vt _ _ m _:=λm t=>Vt.uA (K:=K) (i:=0) (σ:=[U (.ref r),U (.ref p),U (.int z),U (.str o),U (.int (j:Int))]) (z:=z+(j:Int)) (e:=ke (sZ λi j=>V.int (i+j)) (gX 2) (gX 4)) rfl (t _ _ (a _ _ v)) u (λk A=>⟨_,rfl,_,rfl,_,_,rfl,rfl,A _ (ai.refl _)⟩);refine(Bt.or (Vt.test (Vt.eq (Vt.var rfl) (λ_ _=>Vt.c) rfl)) λm _ t=>Vt.test (Vt.eq (x:=.str (gq d ((z+(j:Int)) % (d.length:Int)).toNat)) (y:=.str o) (λk A=>⟨_,rfl,G m t _ λW J=>⟨p,_,rfl,dh (J _ _ (t _ _ (a _ _ N))) (qm L (at_ _)),A W J⟩⟩) (λ_ _=>Vt.var rfl) rfl)) _ λT D=>?_;refine bc (λ_=>?_) (λ_=>aT ⟨a.trans D,_,rfl⟩);exact G T D _ λE B=>q _ (at_ _) E ((a.trans D).trans B)
 rintro c b ⟨a,g,rfl⟩;exact Vt.uA (K:=K) (i:=0) (z:=z) rfl (a _ _ v) u (Vt.var rfl) _ λE B=>q _ (at_ _) E (a.trans B)
abbrev Ai:O ar:=["_law_names","_law_sides","_law_drawn","_law_size"]
def oI:aP ["_law_names","_law_sides","_law_drawn","_law_size","_law_kind","_law_one","_law_want"] Ai (aJ By):=.aY
def Zcq(F:aM K "_law_fact" "_law_fact" By f fd)(D:HasFn P w K mg I 1 "_law_pick" DF K2)(bl:Bl mg):aB P w K mg I aL 2 f fd Ai Ua:=by
 refine F.o oI λs H N h=>?_;obtain⟨t,p,b,c,d,ys,d0,A,d2,d3,d4,rfl,u,L,J,l,E,hd,b4,Q,q⟩:=h;refine⟨_,(aj (bh 4 oI.nd (aI (iL K) (cV (aa aV (aa aV (aa aV (aa aV ae))))) (aI (iL K) (pv 2) aw))) (aj (bh 5 oI.nd (aI (iL K) (pv 0) (aZ dO (aI (iL K) (pv 2) aw) (cT K bl (pv 0))))) (aj (aR (bp CO (aI (iL K) (pv 2) aw) aw) (au (aH (cU (aa aV (aa (pv 5) (aa (aZ dO (aI (iL K) (pv 2) aw) (pv 3)) ae)))))) aW) (aj (aR (bp bZ (pv 4) aV) (au (bh 5 oI.nd (aQ D N (aa (pv 0) (aa (pv 1) (aa (aI (iL K) (pv 2) aw) (aa aV ae))))))) aW) (aj (bh 6 oI.nd (aI (iL K) (cV (aa aV (aa aV (aa aV (aa aV ae))))) (aI (iL K) (pv 2) aw))) (au (aH (cU (aa (pv 4) (aa (pv 5) (aa (aQ D N (aa (pv 0) (aa (pv 1) (aa (aI (iL K) (pv 2) aw) (aa (pv 6) ae))))) ae))))))))))),?_⟩;have sz:(10000:Nat)<=sizeLine:=by rw[dU];decide
 obtain⟨k,tn,wt,ek,g,ew⟩:=Q_ d ys b4;have at_:∀z:Int,(z % (c.length:Int)).toNat<c.length:=λz=>by have:=su (z:=z) l;omega
 obtain⟨_,_,_,l2,l8⟩:=id Q;have V3:(0:Int)<(d.length:Int):=by omega
 refine bN ?_;refine⟨by show 4<=sizeLine;decide,λkl H1 Zp m tF=>⟨_,rfl,b,_,_,_,rfl,rfl,aq.of (m _ _ hd),rfl,kl,_,_,_,rfl,rfl,aq.of tF,ek,?_⟩⟩;refine bN ?_;have fS:=m _ _ u;refine Vt.uA (K:=K) (i:=0) (z:=A) rfl fS l (λkk g=>⟨_,rfl,b,_,_,_,rfl,rfl,aq.of (m _ _ hd),rfl,g _ (ai.refl _)⟩) _ λH2 g2=>?_;have a:=m.trans g2;refine⟨_,rfl,b,_,_,_,rfl,rfl,aq.of (a _ _ hd),rfl,_,_,rfl,rfl,_,rfl,bc (λ_=>?_) (λ_=>aT ?_)⟩
 ·refine⟨_,rfl,_,rfl,b,_,_,_,rfl,rfl,aq.of (a _ _ hd),rfl,_,rfl,_,_,rfl,rfl,V3,by show 3<=sizeLine;decide,λy H3 o x r=>?_⟩;have mm:=su (z:=d3) (n:=d.length) (hT (rz _) l2);exact q ⟨bj,(A % (c.length:Int)).toNat,d3 % (d.length:Int),[]⟩ ⟨⟨at_ _,λz=>absurd rfl z⟩,.inl rfl,λ_=>mm⟩ y H3 (a.free o) (a.trans x) (by rw[r,oM rfl];rfl)
 have G:k≠bj:=λz=>O5 (z▸g);refine jV (λB H6=>ai H H6/\∃i:Nat,i<c.length/\B=[U (.ref t),U (.ref p),U (.ref b),U (.int (d.length:Int)),U (.str k),U (.str (av c i)),aG]) (λpO X=>?_) ?_
 ·refine⟨_,rfl,rfl,_,rfl,bc (λ_=>?_) (λ_=>aT (X _ _ ⟨a,_,at_ _,rfl⟩))⟩;refine⟨_,rfl,_,rfl,_,rfl,b,_,_,_,rfl,rfl,aq.of (a _ _ hd),rfl,t,p,c,A,"man",rfl,a _ _ u,a _ _ L,J,l,E,λi v H3 x=>a_ (X _ _ ⟨a.trans x,i,v,rfl⟩)⟩
 rintro B H6 ⟨W,i,v,rfl⟩;refine bN ?_;refine⟨by show 4<=sizeLine;decide,λwl H7 NB T vy=>⟨_,rfl,b,_,_,_,rfl,rfl,aq.of (T _ _ (W _ _ hd)),rfl,wl,_,_,_,rfl,rfl,aq.of vy,ew,?_⟩⟩;have e:=W.trans T;refine⟨_,rfl,_,rfl,_,rfl,_,rfl,_,rfl,b,_,_,_,rfl,rfl,aq.of (e _ _ hd),rfl,_,rfl,t,p,c,d2,wt,rfl,e _ _ u,e _ _ L,J,l,E,λj hj H8 R=>⟨by show 3<=sizeLine;decide,λy H9 o g9 r=>?_⟩⟩;obtain⟨ft,tl⟩:=zx Q g;exact q ⟨k,i,(j:Int),tn⟩ ⟨⟨v,λ_=>⟨⟨by show(0:Int)<=(j:Int);exact nV _,hj⟩,ft,tl⟩⟩,.inr g,λz=>absurd z G⟩ y H9 (e.free (R.free o)) ((e.trans R).trans g9) (by rw[r,iX G];rfl)
def l6(n:Nat):O Nat:=if n<10 then[48+n] else[48+n/10,48+n % 10]
def l9(n:Nat):ar:=.ofString (toString (n:Int))
def Kn:∀n<61,(l9 n).cps.toList=l6 n:=by decide+kernel
def gH(k z:Nat):Nat:=if z/3 % 3=1 then 9 else(k*z+z) % 5
def l_(m:Nat):ar:=Txt.mul "q" (m:Int)
def Zg7:∀m<10,(l_ m).cps.toList=List.replicate m 113:=by decide+kernel
def wa:ar:="abcdefghijklmnopqrstuvwxyz"
def K3:∀i<26,eG wa.cps.toList ((i:Nat):Int)=U (97+i):=by decide+kernel
def rh(i:Nat):ar:=⟨#[97+i]⟩
def dH(z k:Nat):ar:=if z % 3=0 then(rh ((k*7+z) % 26)++l9 (k/26))++l_ (gH k z) else if z % 3=1 then(rh (z % 26)++l_ (gH k z))++l9 ((k*17+z) % 61) else(rh (z % 26)++l9 ((k*17+z) % 61))++l_ (gH k z)
def K4(k z:Nat):gH k z<10:=by
 unfold gH;split<;>omega
def xA(a b:ar):(a++b).cps.toList=a.cps.toList++b.cps.toList:=Array.toList_append
def IM(z k:Nat)(a:k<60):(dH z k).cps.toList=if z % 3=0 then[97+(k*7+z) % 26,48+k/26]++List.replicate (gH k z) 113 else if z % 3=1 then(97+z % 26)::(List.replicate (gH k z) 113++l6 ((k*17+z) % 61)) else(97+z % 26)::(l6 ((k*17+z) % 61)++List.replicate (gH k z) 113):=by
 have f:=Zg7 _ (K4 k z);unfold dH;split
 ·rw[xA,xA,f,Kn _ (by omega)];unfold l6;rw[z6 (by omega)];rfl
 split
 ·rw[xA,xA,f,Kn _ (jq _ (by decide))];rfl
 ·rw[xA,xA,f,Kn _ (jq _ (by decide))];rfl
def NR(l:O Nat):Nat:=l.foldl (λa c=>10*a+(c-48)) 0
def C2:NR (l6 n)=n:=by
 unfold l6;split;·exact(xp _).trans (Zq _ _)
 ·show 10*(10*0+(48+n/10-48))+(48+n % 10-48)=n;rw[Zq,Zq,Nat.mul_zero,xp,Nat.div_add_mod]
def Ub(h:n<61):∀c∈l6 n,48<=c/\c<58:=by
 unfold l6
 grind
def BD(h:n<61):(l6 n).filter (λc=>decide (c<58))=l6 n:=J0.mpr λc a=>d6 (Ub h c a).2
def BE(m:Nat):(List.replicate m 113).filter (λc=>decide (c<58))=[]:=by
 grind
def Zes(i:k<60)(j:k'<60)(e:dH z k=dH z k'):k=k':=by
 have e:(dH z k).cps.toList=(dH z k').cps.toList:=by rw[e]
 rw[IM z k i,IM z k' j] at e;by_cases g:z % 3=0
 ·rw[bS g,bS g] at e;injection e with l e;injection e with a _;omega
 rw[bt g,bt g] at e;have key:(k*17+z) % 61=(k'*17+z) % 61->k=k':=λh=>by omega
 by_cases d:z % 3=1
 ·rw[bS d,bS d] at e;injection e with _ e;have a:=eH (List.filter λc=>decide (c<58)) e;rw[Wf,Wf,BE,BE,BD (jq _ (by decide)),BD (jq _ (by decide)),Xy,Xy] at a;have b:=eH NR a;rw[C2,C2] at b;exact key b
 ·rw[bt d,bt d] at e;injection e with _ e;have a:=eH (List.filter λc=>decide (c<58)) e;rw[Wf,Wf,BE,BE,BD (jq _ (by decide)),BD (jq _ (by decide)),We,We] at a;have b:=eH NR a;rw[C2,C2] at b;exact key b
def Uc:∀i<26,hZ ql (97+i)=af/\hZ nO (97+i)=af:=by decide+kernel
def Ud:∀i<10,hZ nO (48+i)=af:=by decide+kernel
def ZkM:hZ nO 113=af:=by decide+kernel
def O_(l:k<60):uM (dH z k)=af/\(dH z k).length<=12:=by
 have q:=K4 k z;have b:(List.replicate (gH k z) 113).all (hZ nO)=af:=Wq.mpr λc d=>by rw[List.eq_of_mem_replicate d];exact ZkM
 have s:∀n,n<61->(l6 n).all (hZ nO)=af/\(l6 n).length<=2:=λn j=>by
  refine⟨Wq.mpr λc d=>?_,?_⟩
  ·have:=Ub j c d;have e:=Ud (c-48) (by omega)
   grind
  ·unfold l6;split<;>simp
 have len:(dH z k).length=(dH z k).cps.toList.length:=rfl;have c:=IM z k l;have a:∃(i:Nat) (r:O Nat),i<26/\(dH z k).cps.toList=(97+i)::r/\r.length<=11/\r.all (hZ nO)=af:=by
  by_cases m:z % 3=0
  ·rw[bS m] at c;refine⟨_,_,jq _ (by decide),c,?_,?_⟩
   ·show((48+k/26)::List.replicate (gH k z) 113).length<=11
    grind
   ·show((48+k/26)::List.replicate (gH k z) 113).all (hZ nO)=af;rw[Ji,b,Ud _ (by omega)];rfl
  grind
 obtain⟨i,r,g,e,p,o⟩:=a;have h:(dH z k).length<=12:=by
  grind
 refine⟨?_,h⟩;rw[P7 e,d6 h,(Uc i g).1,Ji,(Uc i g).2,o];rfl
def Zg8:∀m<10,(l_ m).length<=9:=by decide+kernel
def SD:∀n<61,(l9 n).length<=2:=by decide+kernel
def Ko(a b:ar):(a++b).length=a.length+b.length:=Array.size_append
inductive Ue(a:O V)(H:Hp)(Q:VK)(E:XK):Prop
 |mk (k z:Nat) (d:a=[.int (k:Int),.int (z:Int)]) (c:k<60) (b:z<97) (q:Q (.str (dH z k)) H)
abbrev L8:O ar:=["_law_k","_law_salt"]
def zb:aP ["_law_k","_law_salt","_law_letters","_law_fill","_law_number"] L8 (aJ Hx):=.aY
def Zcr(F:aM K "_law_name" "_law_name" Hx f fd)(t:Bl mg):aB P w K mg I aL 1 f fd L8 Ue:=by
 refine F.o zb λs H Q h=>?_;obtain⟨k,z,rfl,T,N,q⟩:=h;refine⟨_,(aj (bh 2 zb.nd aV) (aj (bh 3 zb.nd (aZ RX aV (aZ dO (aZ iG (aZ nN (pv 0) (pv 1)) (pv 1)) aw))) (aj (bh 4 zb.nd (aZ dO (aZ iG (aZ nN (pv 0) aw) (pv 1)) aw)) (aj (aR (bp bZ (aZ dO (aZ Cb (pv 1) aw) aw) aw) (au (bh 3 zb.nd (aZ RX aV aw))) aW) (aj (aR (bp bZ (aZ dO (pv 1) aw) aw) (au (aH (aZ wN (aZ wN (aI zK (pv 2) (aZ dO (aZ iG (aZ nN (pv 0) aw) (pv 1)) aw)) (fO Gq rfl t.zU zM (aa (aZ Cb (pv 0) aw) ae))) (pv 3)))) aW) (aj (aR (bp bZ (aZ dO (pv 1) aw) aw) (au (aH (aZ wN (aZ wN (aI zK (pv 2) (aZ dO (pv 1) aw)) (pv 3)) (fO Gq rfl t.zU zM (aa (pv 4) ae))))) aW) (au (aH (aZ wN (aZ wN (aI zK (pv 2) (aZ dO (pv 1) aw)) (fO Gq rfl t.zU zM (aa (pv 4) ae))) (pv 3)))))))))),?_⟩;have E:xM (k:Int) (z:Int):=.inl ⟨by omega,by omega⟩;have A:∀j:Int,xM (k:Int) j:=λj=>.inl ⟨by omega,by omega⟩;have G:LB (z:Int) 3:=⟨by decide,by decide⟩;have p:LB (k:Int) 26:=⟨by decide,by decide⟩;have sz:(10000:Nat)<=sizeLine:=by rw[dU];decide
 have y:((k:Int)*17+(z:Int)) % 61=(((k*17+z) % 61:Nat):Int):=rfl
 have b:((k:Int)*7+(z:Int)) % 26=(((k*7+z) % 26:Nat):Int):=rfl
 have x:(z:Int) % 26=((z % 26:Nat):Int):=rfl
 have o:(k:Int)/26=((k/26:Nat):Int):=rfl
 have D:((k:Int)*(z:Int)+(z:Int)) % 5=(((k*z+z) % 5:Nat):Int):=by rw[Int.natCast_emod,WV,Int.natCast_mul];rfl
 refine setC ?_;refine bN ?_;refine⟨_,rfl,_,rfl,_,_,rfl,rfl,E,_,rfl,_,_,rfl,rfl,_,_,rfl,rfl,by decide,"q",(k*z+z) % 5,rfl,eH V.int D,by decide+kernel,by omega,?_⟩;refine bN ?_;refine⟨_,rfl,_,_,rfl,rfl,A _,_,rfl,_,_,rfl,rfl,_,_,rfl,rfl,by decide,?_⟩;refine jV (λu B=>B=H/\u=[U (.int (k:Int)),U (.int (z:Int)),U (.str wa),U (.str (l_ (gH k z))),U (.int (((k*17+z) % 61:Nat):Int))]) (λJ v=>?_) ?_
 ·refine⟨_,rfl,_,_,rfl,rfl,G,_,_,rfl,rfl,by decide,rfl,_,rfl,bc (λc=>?_) (λc=>aT ?_)⟩
  ·have c:=V.int.inj (fb c);have r:z/3 % 3=1:=by omega
   have m:gH k z=9:=bS r;refine⟨"q",9,rfl,rfl,by decide+kernel,by decide,a_ (v _ _ ⟨rfl,?_⟩)⟩;rw[m,←y];rfl
  ·have r:¬z/3 % 3=1:=λw=>c (d6 (eH V.int (by omega)));have m:gH k z=(k*z+z) % 5:=bt r;refine v _ _ ⟨rfl,?_⟩;rw[m,←y];rfl
 rintro u B ⟨rfl,rfl⟩;have L:=Zg8 _ (K4 k z);have d:wa.length<=sizeLine:=Yz (show wa.length<=100 by decide+kernel) (by decide);have g:∀n:Nat,n<61->(n:Int).natAbs.log2<1920:=λn R=>Jb (Nat.log2_le_self _) (by omega);refine⟨_,rfl,_,_,rfl,rfl,by decide,rfl,_,rfl,bc (λc=>?_) (λc=>aT ?_)⟩
 ·have a:z % 3=0:=by have:=V.int.inj (fb c);omega
  have ld:=SD (k/26) (by omega);refine⟨_,rfl,_,rfl,_,_,rfl,rfl,A _,_,rfl,_,_,rfl,rfl,_,_,rfl,rfl,by decide,wa,_,_,rfl,eH V.int b,d,K3 _ (jq _ (by decide)),_,rfl,_,_,rfl,rfl,p,((k/26:Nat):Int),eH (λi=>[V.int i]) o,g _ (by omega),_,_,rfl,rfl,?_,_,rfl,_,_,rfl,rfl,?_,?_⟩
  ·show 1+(l9 (k/26)).length<=sizeLine;omega
  ·show(rh ((k*7+z) % 26)++l9 (k/26)).length+(l_ (gH k z)).length<=sizeLine;rw[Ko];show 1+_+_<=_;omega
  ·have e:dH z k=(rh ((k*7+z) % 26)++l9 (k/26))++l_ (gH k z):=bS a;rw[e] at q;exact q
 have a:¬z % 3=0:=λw=>c (d6 (eH V.int (by omega)));have ld:=SD ((k*17+z) % 61) (jq _ (by decide));refine⟨_,rfl,_,_,rfl,rfl,by decide,rfl,_,rfl,bc (λc=>?_) (λc=>aT ?_)⟩
 ·have l:z % 3=1:=by have:=V.int.inj (fb c);omega
  refine⟨_,rfl,_,rfl,_,_,rfl,rfl,by decide,wa,_,_,rfl,eH V.int x,d,K3 _ (jq _ (by decide)),_,rfl,_,_,rfl,rfl,?_,_,rfl,_,rfl,g _ (jq _ (by decide)),_,_,rfl,rfl,?_,?_⟩
  ·show 1+(l_ (gH k z)).length<=sizeLine;omega
  ·show(rh (z % 26)++l_ (gH k z)).length+(l9 ((k*17+z) % 61)).length<=sizeLine;rw[Ko];show 1+_+_<=_;omega
  ·have e:dH z k=(rh (z % 26)++l_ (gH k z))++l9 ((k*17+z) % 61):=(bt a).trans (bS l);rw[e] at q;exact q
 have l:¬z % 3=1:=λw=>c (d6 (eH V.int (by omega)));refine⟨_,rfl,_,rfl,_,_,rfl,rfl,by decide,wa,_,_,rfl,eH V.int x,d,K3 _ (jq _ (by decide)),_,rfl,_,rfl,g _ (jq _ (by decide)),_,_,rfl,rfl,?_,_,rfl,_,_,rfl,rfl,?_,?_⟩
 ·show 1+(l9 ((k*17+z) % 61)).length<=sizeLine;omega
 ·show(rh (z % 26)++l9 ((k*17+z) % 61)).length+(l_ (gH k z)).length<=sizeLine;rw[Ko];show 1+_+_<=_;omega
 ·have e:dH z k=(rh (z % 26)++l9 ((k*17+z) % 61))++l_ (gH k z):=(bt a).trans (bt l);rw[e] at q;exact q
inductive U6(C CL CJ:Z)(i:O V)(H:Hp)(Q:VK)(E:XK):Prop
 |mk (l:BL) (b:BS) (a d:O Int) (c:Fc) (h:Z) (p:i=[.ref l.h,.ref h]) (o:bb H C CL CJ l a d b) (ok:cI a d b) (m:H h=U (.tup [.str c.k,.str (av b.ps c.one),kV (bu b.ps c)])) (n:eB a d b.ps.length c) (j:b.fs.length<63) (k:oZ a.length b c="") (dl:b.dn.length<200) (q:∀(g:BL) (e:Hp),bP H e l g->bb e C CL CJ g a d (b.zY c)->Q (.int (b.co:Int)) e)
def lN{a u:TS}{D:Ends}{c:St}{H:Hp}(h:∀b:TS,b=u->z4 a b D c H):z4 a u D c H:=h u rfl
def zc3{a b c u:TS}{D:Ends}{e:St}{H:Hp}(h:∀d:TS,d=u->z4 a (z4 b (z4 c d)) D e H):z4 a (z4 b (z4 c u)) D e H:=h u rfl
def zc7{a b c d e f g u:TS}{D:Ends}{j:St}{H:Hp}(h:∀i:TS,i=u->z4 a (z4 b (z4 c (z4 d (z4 e (z4 f (z4 g i)))))) D j H):z4 a (z4 b (z4 c (z4 d (z4 e (z4 f (z4 g u)))))) D j H:=h u rfl
structure eO(C CL CJ:Z)(H:Hp)(xs ys:O Int)(z j:Nat)(td:Z)(l:BL)(b:BS)(nl sd fl st:Z):Prop where
 ba:bb H C CL CJ l xs ys b
 ok:cI xs ys b
 names:H nl=U (.lst (d_ b.ps))
 n1:nl∉l.fp
 dq:H sd=U (.dK (gn b.ps))
 n2:sd∉l.fp
 facts:∃as:O Z,H fl=U (.lst (as.map V.ref))/\Paired (dP H b.ps) as b.fs
 n3:fl∉l.fp
 tup:H st=U (.tup [.ref nl,.ref sd,.ref fl,.int (b.co:Int)])
 turns:gu H td xs ys
 n4:td∉l.fp
 nm:b.ps.map (·.1)=(List.range b.ps.length).map (dH z)
 so:(b.fs.map (·.1)).Pairwise (·<·)
 cp:b.ps.length<=j
 cf:b.ps.length+b.fs.length<=j
 cd:b.dn.length<=j
section
variable {H X:Hp}{xs ys:O Int}{z j:Nat}{td:Z}{l l':BL}{b:BS}{R T W st:Z}
def eO.same(g:ai H X)(s:eO C CL CJ H xs ys z j td l b R T W st):eO C CL CJ X xs ys z j td l b R T W st:=
 ⟨s.ba.same g,s.ok,g _ _ s.names,s.n1,g _ _ s.dq,s.n2,let⟨as,c,a⟩:=s.facts;⟨as,g _ _ c,L2.Paired.bI a λ _ _=>g _ _⟩,s.n3,g _ _ s.tup,s.turns.same g,s.n4,s.nm,s.so,s.cp,s.cf,s.cd⟩
def eO.more(s:eO C CL CJ H xs ys z j td l b R T W st):eO C CL CJ H xs ys z (j+1) td l b R T W st:=
 ⟨s.ba,s.ok,s.names,s.n1,s.dq,s.n2,s.facts,s.n3,s.tup,s.turns,s.n4,s.nm,s.so,W6 s.cp,W6 s.cf,W6 s.cd⟩
theorem eO.FL(s:eO C CL CJ H xs ys z j td l b R T W st):FL H b.ps W b.F:=by
 obtain⟨a,g,d⟩:=s.facts;refine⟨a,g,?_⟩;have:∀{a:O Z} {fs:O (Nat×Fc)},Paired (dP H b.ps) a fs->Paired (ER H b.ps) a (fs.map (·.2)):=λh=>by
  induction h with
  |nil=>exact .nil
  |cons e _ c=>exact .cons ⟨_,e⟩ c
 exact this d
def bP.off(w:bP H X l l')(h:H a=U o)(n:a∉l.fp):X a=U o/\a∉l'.fp:=
 ⟨w.out _ _ h n,λz=>(w.grow a z).elim n λq=>by rw[h] at q;cases q⟩
def bP.bO(w:bP H X l l')(c:bb H C CL CJ l xs ys b)(h:H a=U (.tup us)):X a=U (.tup us):=w.out _ _ h (c.tup h)
def bP.gu(w:bP H X l l')(a:bb H C CL CJ l xs ys b)(h:gu H td xs ys)(n:td∉l.fp):gu X td xs ys:=by
 obtain⟨m,f,c,s,k,i,g,e,d⟩:=h;exact⟨m,f,c,s,w.out _ _ k n,w.bO a i,w.bO a g,w.bO a e,w.bO a d⟩
def BQ(w:bP H X l l')(c:bb H C CL CJ l xs ys b)(h:Paired (dP H a) as fs):Paired (dP X a) as fs:=L2.Paired.bI h λ_ _ e=>w.bO c e
def bb.fresh(c:bb H C CL CJ l xs ys b)(h:H a=aG):a∉l.fp:=λz=>c.there z h
def dP.ext(d:eB xs ys c.length p.2)(h:dP H c a p):dP H (c++[(n,s)]) a p:=by
 have e:∀i,i<c.length->av (c++[(n,s)]) i=av c i:=λi m=>by
  unfold av
  grind
 unfold dP eS at h⊢;have g:bu (c++[(n,s)]) p.2=bu c p.2:=by
  by_cases k:p.2.k=bj;·rw[oM k,oM k]
  ·rw[iX k,iX k,e _ (d.ok.iy k).1.2]
 rwa[e _ d.ok.one,g]
def eO.fresh(s:eO C CL CJ H xs ys z j td l b R T W st)(a:j<60)(jO:ar)(g:KZ jO=af):LW b (dH z b.ps.length) jO:=by
 have c:=s.cp;obtain⟨n,h⟩:=O_ (k:=b.ps.length) (lL c a);refine⟨n,g,λm=>?_,by omega,eL h (by decide)⟩;rw[s.nm] at m;obtain⟨i,d,e⟩:=Yf.mp m;have d:=Wm.mp d;have:=Zes (by omega) (lL c a) e;omega
def nm_more(h:b.ps.map (·.1)=(List.range b.ps.length).map (dH z))(s:ar):(b.ps++[(dH z b.ps.length,s)]).map (·.1)=(List.range (b.ps++[(dH z b.ps.length,s)]).length).map (dH z):=by
 rw[Yo,h,Yl];show _++[dH z b.ps.length]=(List.range (b.ps.length+1)).map (dH z);rw[MA,Yo];rfl
end
inductive SE(C CL CJ:Z)(m:O V)(H:Hp)(Q:VK)(E:XK):Prop
 |mk (g e:O Int) (z j:Nat) (a:Int) (c:Z) (l:BL) (b:BS) (o n t st:Z) (y:m=[.ref l.h,.ref st,.int a,.ref c,.int (z:Int)]) (u:eO C CL CJ H g e z j c l b o n t st) (v:z<97) (x:j<60) (q:∀(h:BL) (i:BS) (p r s k:Z) (d:Hp),bP H d l h->eO C CL CJ d g e z (j+1) c h i p r s k->0<i.ps.length->Q (.ref k) d)
theorem Zcs{P Q:α->β->Prop}(h:∀a b,b∈bs->P a b->Q a b)(p:Paired P as bs):Paired Q as bs:=by
 induction p with
 |nil=>exact .nil
 |cons e _ c=>exact .cons (h _ _ Yk e) (c λa b d=>h a b (Yw _ d))
def Zdr(a:O b)(p:b->cm):((List.range a.length).filter λi=>(a[i]?.map p).getD a8).map (λi=>a[i]?)=(a.filter p).map U:=by
 have e:(List.range a.length).map (λi=>a[i]?)=a.map U:=Ww λi=>by
  grind
 have h:=J7 (f:=λi=>a[i]?) (l:=List.range a.length) (p:=λo:bR b=>(o.map p).getD a8);rw[e,J7] at h;exact h.symm
theorem SG:∀{l:O (Nat×α)},(l.map (·.1)).Nodup->∀{p q:Nat×α},p∈l->q∈l->p.1=q.1->p=q
 |[],_,_,_,h,_,_=>nomatch h
 |a::l,b,p,q,g,d,e=>by
  obtain⟨n,c⟩:=Y0.mp (show(a.1::l.map (·.1)).Nodup from b);rcases Yq.mp g with m|j<;>rcases Yq.mp d with k|i;·rw[m,k]
  ·grind
  ·grind
  ·exact SG c j i e
def Ug(a:O Key):(a.map kV).all pG=af:=by
 rw[Wq];intro v b;obtain⟨k,_,rfl⟩:=Yf.mp b;cases k<;>rfl
def Zg9:∃s:ar,eG [V.str "man",V.str "woman"] (d % 2)=U (.str s)/\KZ s=af:=by
 have:d % 2=0\/d % 2=1:=by omega
 rcases this with e|e<;>rw[e];·exact⟨_,rfl,by decide+kernel⟩
 ·exact⟨_,rfl,by decide+kernel⟩
abbrev ph:O ar:=["_law_book","_law_fact_here"]
def Zds:aP ph ph (aJ IF):=.aY
def Zdt(F:aM K "_law_put" "_law_put" IF f fd)(y:b_ P w K mg I 12 "say" C Dz (T7 C CL CJ))(x:b_ P w K mg I 12 "tie" C qK (T6 C CL CJ)):aB P w K mg I aL 13 f fd ph (U6 C CL CJ):=by
 refine F.o Zds λs H r h=>?_;obtain⟨l,b,m,k,c,d,rfl,j,ok,a,u,e,p,dl,q⟩:=h;refine⟨_,(aj (aR (bp bZ (aI (iT K) (pv 1) aw) aV) (au (aH (cJ y r (by decide) (pv 0) (aa (aI (iT K) (pv 1) aw) (aa (aI (iT K) (pv 1) aw) ae))))) aW) (au (aH (cJ x r (by decide) (pv 0) (aa (aI (iT K) (pv 1) aw) (aa (aI (iT K) (pv 1) aw) (aa (aI (iT K) (pv 1) aw) ae))))))),?_⟩;obtain⟨v,t⟩:=j.obj;refine⟨_,rfl,d,_,_,_,rfl,rfl,az.of a,rfl,rfl,_,rfl,?_⟩;rw[dY];refine bc (λi=>?_) (λi=>aT ?_)
 ·have n:=fb i;have g:kV (bu b.ps c)=.int c.aN:=by rw[oM n];rfl
  exact⟨_,rfl,l.h,v,_,rfl,t,rfl,_,rfl,d,_,_,_,rfl,rfl,az.of a,rfl,_,rfl,d,_,_,_,rfl,rfl,az.of a,rfl,l,b,m,k,c,by rw[g];rfl,j,ok,⟨JU ok u e p,n⟩,dl,q⟩
 ·have o:=λz=>i (d6 z);have g:kV (bu b.ps c)=.str (av b.ps c.aN.toNat):=by rw[iX o];rfl
  exact⟨_,rfl,l.h,v,_,rfl,t,rfl,_,rfl,d,_,_,_,rfl,rfl,az.of a,rfl,_,rfl,d,_,_,_,rfl,rfl,az.of a,rfl,_,rfl,d,_,_,_,rfl,rfl,az.of a,rfl,l,b,m,k,c,by rw[g];rfl,j,ok,ZfP ok u e p o,dl,q⟩
abbrev L9:O ar:=["_law_book","_law_state","_law_cell_here","_law_turns_here","_law_salt"]
def nF:aP ["_law_book","_law_state","_law_cell_here","_law_turns_here","_law_salt","_law_names","_law_sides","_law_facts","_law_after_here","_law_drawn","_law_name_here","_law_side","_law_fact_here","_law_out"] L9 (aJ HU):=.aY
theorem Zct(F:aM K "_law_step" "_law_step" HU f fd)(nE:HasFn P w K mg I 1 "_law_draws" yo (zB K))(Ie:HasFn P w K mg I 1 "_law_name" L8 Ue)(zh:HasFn P w K mg I 2 "_law_fact" Ai Ua)(Ig:HasFn P w K mg I 4 "_law_word" L7 T_)(IP:HasFn P w K mg I 13 "_law_put" ph (U6 C CL CJ))(FP:b_ P w K mg I 11 "person" C Du (QY C CL CJ))(Gm:b_ P w K mg I 11 "take" C Ac (T3 C CL CJ))(bl:Bl mg):aB P w K mg I aL 14 f fd L9 (SE C CL CJ):=by
 refine F.o nF λs H R h=>?_;obtain⟨xs,W,z,j,cell,td,l,b,nl,sd,fl,st,rfl,r,hz,hj,q⟩:=h;have hu:=R.r8;refine⟨_,(aj (oU (pv 1) (jt (K:=K) (n:=4) rfl rfl (bX (bG 5 nF.nd) (bX (bG 6 nF.nd) (bX (bG 7 nF.nd) (bX (bG 8 nF.nd) jr)))))) (aj (bh 9 nF.nd (aQ nE R (aa (pv 2) (aa (cV (aa aw (aa aw (aa aw (aa aw (aa aw ae)))))) ae)))) (aj (aR (PW.pt (pw_or (bp nP (cT K bl (pv 5)) aw) (pw_or1 (bp nP (aI (iL K) (pv 9) aw) aw)))) (aj (bh 10 nF.nd (aQ Ie R (aa (cT K bl (pv 5)) (aa (pv 4) ae)))) (aj (bh 11 nF.nd (aI (iL K) (cV (aa aV (aa aV ae))) (aZ dO (aI (iL K) (pv 9) aw) aw))) (aj (cE (cJ FP R (by decide) (pv 0) (aa (pv 10) (aa (pv 11) ae)))) (aj (bh 6 nF.nd (fO Zcc rfl bl.ZhH Zgy (aa (pv 6) ae))) (aj (oO (bF R) (pv 6) (pv 10) (pv 11)) (au (aH (cU (aa (aZ rW (pv 5) (cV (aa (pv 10) ae))) (aa (pv 6) (aa (pv 7) (aa (pv 8) ae)))))))))))) aW) (aj (aR (bp nP (aI (iL K) (pv 9) aw) aw) (aj (bh 12 nF.nd (aQ zh R (aa (pv 5) (aa (pv 6) (aa (pv 9) (aa (cT K bl (dF (bF R) (pv 3) aV (λ_ _=>rfl))) ae)))))) (aj (aR (bp k9 (aQ Ig R (aa (pv 6) (aa (pv 7) (aa (pv 3) (aa (pv 12) ae))))) aV) (au (aH (pv 1))) aW) (aj (cE (aQ IP R (aa (pv 0) (aa (pv 12) ae)))) (au (aH (cU (aa (pv 5) (aa (pv 6) (aa (aZ rW (pv 7) (cV (aa (aZ RA (cU (aa (pv 8) ae)) (pv 12)) ae))) (aa (aZ iG (pv 8) aw) ae)))))))))) aW) (aj (aR (bp (zD (K:=K) rfl (KG hu)) (pv 7) (cV ae)) (au (aH (pv 1))) aW) (aj (iF (i:=13) nF.nd rfl (Or.inr rfl) (aI (iL K) (pv 7) (aZ dO (aI (iL K) (pv 9) aw) (cT K bl (pv 7))))) (aj (cE (cJ Gm R (by decide) (pv 0) (aa (aI (iT K) (pv 13) aw) ae))) (au (aH (cU (aa (pv 5) (aa (pv 6) (aa (jS (x:="_law_one") (fr:=[("_law_out",13)]) (cl:=[("_law_out",s.heap.objs.size+1)]) rfl (.ir ⟨rfl,trivial⟩ ⟨⟨rfl,.inl rfl,.inl rfl,rfl⟩,trivial⟩) (fX (K:=K) rfl (pv 7)) (λ_ _ _ _=>xu (bp (Zin (K:=K) rfl hu) (pv 0) (pv 1))) (λ_ _ _ _=>(pv 0))) (aa (pv 8) ae)))))))))))))),?_⟩;have sz:(10000:Nat)<=sizeLine:=by rw[zr];decide
 refine⟨_,rfl,st,_,rfl,az.of r.tup,rfl,_,_,rfl,a_ ⟨_,_,rfl,a_ ⟨_,_,rfl,a_ ⟨_,_,rfl,a_ ⟨rfl,?_⟩⟩⟩⟩⟩;dsimp only;refine lN λqU qE=>?_;refine bN ?_;refine⟨_,rfl,by show 5<=sizeLine;decide,λpp H1 np g1 J=>⟨cell,pp,[16,61,59,8,4],rfl,aq.of J,by decide,by decide,λdr ds H2 nd g2 h2 bd=>?_⟩⟩;obtain⟨d0,d1,d2,d3,d4,rfl,_,_,_,_,b4⟩:=ZgE bd;have gw:=g1.trans g2;have s2:=r.same gw;obtain⟨dx,ho⟩:=s2.ba.obj;have EW:=uz b.ps;have cp:=r.cp;have cf:=r.cf;have cd:=r.cd;have Zo:=r.ok.m;have Zu:=r.ok.fl;have ix:∀{i:Int} {v:Int} {H9:Hp},ai H2 H9->eG ([d0,d1,d2,d3,d4].map V.int) i=U (.int v)->∀σ:St,σ[9]?=U (U (.ref dr))->Vt (ke (xN K) (gX 9) (tC (V.int i))) σ H9 (.int v):=λg e σ hσ kk hk=>⟨_,hσ,dr,_,_,_,rfl,rfl,aq.of (g _ _ h2),e,hk _ (ai.refl _)⟩;subst qE;refine lN λqV qF=>?_;refine(Bt.or (a:=decide (((d_ b.ps).length:Int)<2)) (b:=decide (d0<5)) (λkk hk=>⟨_,rfl,nl,_,rfl,.inl (aq.of s2.names),_,_,rfl,rfl,_,rfl,hk _ (ai.refl _)⟩) λH3 _ g3 kk hk=>ix g3 rfl _ rfl _ λH4 B=>⟨_,_,rfl,rfl,_,rfl,hk _ B⟩) _ λH3 g3=>?_;have X:=s2.same g3;have kM:=gw.trans g3;rw[EW];refine bc (λcc=>?_) (λcc=>aT ?_)
 ·refine bN ?_;refine⟨_,rfl,nl,_,rfl,.inl (aq.of X.names),_,rfl,b.ps.length,z,by rw[EW];rfl,lL cp hj,hz,?_⟩;refine bN ?_;obtain⟨sx,es,so⟩:=Zg9 (d:=d1);refine⟨by show 2<=sizeLine;decide,λsl H4 En B NT=>ix (g3.trans B) rfl _ rfl _ λH5 L=>⟨_,_,rfl,rfl,by decide,sl,_,_,_,rfl,rfl,aq.of (L _ _ NT),es,?_⟩⟩;have k:=(X.same B).same L;have tY:=(kM.trans B).trans L;obtain⟨NU,NV⟩:=k.ba.obj;refine⟨_,rfl,l.h,NU,_,rfl,NV,rfl,_,rfl,_,rfl,l,b,xs,W,dH z b.ps.length,sx,rfl,k.ba,k.ok,k.fresh hj sx so,by omega,λl' H6 G rm=>?_⟩;have NW:=k.fresh hj sx so;dsimp only;refine bN ?_;have off:=λ{a:Z} {o:HO} (h:H5 a=U o) (n:a∉l.fp)=>G.off h n;obtain⟨Bf,DG⟩:=off k.dq k.n2;obtain⟨Bg,DH⟩:=off k.names k.n1;obtain⟨A,pV,dE⟩:=k.facts;obtain⟨yL,L_⟩:=off pV k.n3;refine⟨_,rfl,sd,_,rfl,Bf,λs' H7 cG T oj=>?_⟩;have vn:aX (gn b.ps) (.inr (dH z b.ps.length))=aG:=rC λhm=>NW.new (by
   obtain⟨p,J,e⟩:=Yf.mp hm;obtain⟨p',hp',rfl⟩:=Yf.mp J;exact Yf.mpr ⟨p',hp',Wh e⟩)
  refine⟨_,rfl,_,rfl,_,rfl,s',_,.inr (dH z b.ps.length),rfl,oj,rfl,by rw[Ya];omega,λH8 b8 e8=>?_⟩;have N:ai H6 H8:=λc o e=>b8 _ _ (T _ _ e) (cA e cG);rw[mH _ vn] at e8;refine⟨_,rfl,_,rfl,by show 1<=sizeLine;decide,λt H9 nt g9 ht=>⟨nl,t,_,_,rfl,rfl,g9 _ _ (N _ _ Bg),ht,by rw[EW];show _+1<=_;omega,λn' HA nn' gA x_=>⟨_,rfl,_,rfl,_,rfl,by show 4<=sizeLine;decide,λaO HB Ef gB dB=>?_⟩⟩⟩;have mn:=(g9.trans gA).trans gB;have Q:=N.trans mn;have pe:(b.Lr (dH z b.ps.length) sx).ps=b.ps++[(dH z b.ps.length,sx)]:=rfl;obtain⟨tm,tf,tw,ts,eX,_⟩:=id k.turns;refine q l' (b.Lr (dH z b.ps.length) sx) n' s' fl aO HB ((bP.after tY G).same Q) ⟨rm.same Q,r.ok.Zkt NW.new NW.lim (Yd _) (by rw[Yl];show _+1<=200;omega) (Yx _),?_,((rm.same N).same g9).fresh nn',?_,rm.fresh cG,⟨A,Q _ _ yL,?_⟩,L_,dB,(G.gu k.ba k.turns k.n4).same Q,(off eX k.n4).2,nm_more r.nm sx,r.so,?_,?_,?_⟩ (by rw[pe,Yl];exact EX _)
  ·rw[gB _ _ x_,pe,d_,d_,Yo];rfl
  ·rw[mn _ _ e8,pe];show _=U (HO.dK ((b.ps++[(dH z b.ps.length,sx)]).map _));rw[Yo];rfl
  ·have:=BQ G k.ba dE;refine Zcs (λa p J e=>?_) this;exact dP.ext (r.ok.fg p J) (Q _ _ e)
  ·rw[pe,Yl];show _+1<=_;omega
  ·rw[pe,Yl];show _+1+b.fs.length<=_;omega
  ·show(b.dn++[_]).length<=_;rw[Yl];show _+1<=_;omega
 have p0:0<b.ps.length:=by
  rw[J9,yM] at cc;omega
 subst qF;refine lN λqW qG=>?_;refine⟨_,rfl,dr,_,_,_,rfl,rfl,aq.of (g3 _ _ h2),rfl,_,_,rfl,rfl,_,rfl,?_⟩;refine bc (λcc2=>?_) (λcc2=>aT ?_)
 ·refine bN ?_;obtain⟨tm,tf,tw,u0,eX,_,_,_,yJ⟩:=id X.turns;refine⟨_,rfl,_,rfl,_,rfl,_,rfl,td,.ref u0,rfl,dh eX rfl,u0,_,rfl,.inr (az.of yJ),nl,sd,dr,b.ps,xs,W,d0,d1,d2,d3,d4,by rw[Ya,fN];rfl,X.names,X.dq,r.ok.nm,p0,eL Zo (by decide),g3 _ _ h2,b4,r.ok.gd,λc fg ff H4 v_ B oA=>?_⟩;have s4:=X.same B;refine⟨_,rfl,_,rfl,_,rfl,_,rfl,sd,fl,td,ff,xs,W,b,c,rfl,s4.dq,s4.FL,s4.turns,oA,r.ok,fg,λH5 L=>⟨rfl,_,rfl,?_⟩⟩;have k:=s4.same L;have tY:=(kM.trans B).trans L;rw[dY];refine bc (λcw=>?_) (λcw=>aT ?_);·exact⟨_,rfl,q l b nl sd fl st H5 (bP.of tY) k.more p0⟩
  have hw:oZ xs.length b c="":=by
   by_cases e:oZ xs.length b c="";·exact e
   ·rw[um e] at cw;exact absurd rfl cw
  have nf:=JU r.ok fg (by omega) hw;refine⟨_,rfl,_,rfl,l,b,xs,W,c,ff,rfl,k.ba,r.ok,L _ _ oA,fg,by omega,hw,by omega,λl' H6 G rm=>?_⟩;have off:=λ{a:Z} {o:HO} (h:H5 a=U o) (n:a∉l.fp)=>G.off h n;obtain⟨Bf,DG⟩:=off k.dq k.n2;obtain⟨Bg,DH⟩:=off k.names k.n1;obtain⟨A,pV,dE⟩:=k.facts;obtain⟨yL,L_⟩:=off pV k.n3;have ff6:=G.bO k.ba (L _ _ oA);have al:=de dE;refine⟨_,rfl,_,rfl,_,rfl,_,rfl,by show 1<=sizeLine;decide,λt1 H7 nt1 T Be=>⟨_,rfl,t1,ff,_,_,rfl,rfl,az.of Be,az.of (T _ _ ff6),by simp,by show 1+3<=sizeLine;decide,λe=>(by cases e),λ_ t2 wb=>?_⟩⟩;obtain⟨H8,e8⟩:∃H8,H8=upd H7 t2 (.tup ([V.int (b.co:Int)]++[V.str c.k,V.str (av b.ps c.one),kV (bu b.ps c)])):=⟨_,rfl⟩;have g8:ai H7 H8:=by rw[e8];exact cC wb _
  have oC:dP H8 b.ps t2 (b.co,c):=by
   show H8 t2=_;rw[e8,aU];rfl
  rw[←e8];have N:=T.trans g8;refine⟨by show 1<=sizeLine;decide,λl1 H9 nl1 g9 hl1=>⟨fl,l1,_,_,rfl,rfl,g9 _ _ (N _ _ yL),hl1,by rw[Ya];show _+1<=_;omega,λjK HA ZkN gA ZkO=>⟨_,rfl,_,_,rfl,rfl,by show 4<=sizeLine;decide,λaO HB Ef gB dB=>?_⟩⟩⟩;have mn:=(g9.trans gA).trans gB;have Q:=N.trans mn;obtain⟨tm,tf,tw,ts,Ma,_⟩:=id k.turns;have Zv:=r.ok.lt;refine q l' (b.zY c) nl sd jK aO HB ((bP.after tY G).same Q) ⟨rm.same Q,?_,Q _ _ Bg,DH,Q _ _ Bf,DG,⟨A++[t2],?_,?_⟩,((rm.same N).same g9).fresh ZkN,dB,(G.gu k.ba k.turns k.n4).same Q,(off Ma k.n4).2,r.nm,?_,W6 cp,?_,?_⟩ p0
  ·exact r.ok.Zku fg (λm=>by
    obtain⟨p,J,e⟩:=Yf.mp m;have:=Zv p J;omega) nf.nk nf.np nf.lv (by omega) (co:=b.co+1) (yd _) (Jk _) (by rw[Yl];show _+1<=200;omega) (Yx _)
  ·rw[gB _ _ ZkO,Yo];rfl
  ·exact kq (F:=dP HB b.ps) (mn _ _ oC) (L2.Paired.bI (BQ G k.ba dE) λ_ _ e=>Q _ _ e)
  ·show((b.fs++[(b.co,c)]).map (·.1)).Pairwise _;rw[Yo];refine List.pairwise_append.mpr ⟨r.so,by simp,λu hu v hv=>?_⟩;obtain⟨p,J,rfl⟩:=Yf.mp hu;have:v=b.co:=by simpa using hv
   rw[this];exact Zv p J
  ·show _+(b.fs++[_]).length<=_;rw[Yl];show b.ps.length+(_+1)<=_;exact Xv cf
  ·show(b.dn++[_]).length<=_;rw[Yl];show _+1<=_;omega
 obtain⟨A,pV,dE⟩:=X.facts;have al:=de dE;subst qG;refine lN λqX qH=>?_;refine⟨_,rfl,by show 0<=sizeLine;decide,λe0 H4 vZ B q0=>⟨fl,e0,_,rfl,rfl,aq.of (B _ _ pV),aq.of q0,_,rfl,bc (λce=>?_) (λce=>aT ?_)⟩⟩;·exact⟨_,rfl,q l b nl sd fl st H4 (bP.of (kM.trans B)) (X.same B).more p0⟩
 subst qH;refine bN ?_;have s4:=X.same B;have f0:0<A.length:=by
  cases e:A with
  |nil=>rw[e] at ce;exact absurd rfl ce
  |cons _ _=>exact EX _
 have mi:=su (z:=d1) f0;refine⟨_,rfl,ix (g3.trans B) rfl _ rfl _ λH5 L=>?_⟩;have k:=s4.same L;have Mb:=L _ _ (B _ _ pV);obtain⟨i,ei⟩:∃i:Nat,d1 % (A.length:Int)=(i:Int):=⟨(d1 % (A.length:Int)).toNat,by omega⟩;have hi:i<A.length:=by omega
 obtain⟨ao,Zw⟩:∃ao,A[i]?=U ao:=⟨_,Yc hi⟩;obtain⟨⟨E,c0⟩,Zx,NF⟩:=fU dE Zw;have V4:=L _ _ (B _ _ NF);refine⟨_,rfl,fl,_,rfl,.inl (aq.of Mb),_,_,rfl,rfl,by rw[Ya];omega,fl,_,_,.ref ao,rfl,rfl,aq.of Mb,?_,?_⟩
 ·rw[Ya,ei];exact eZ (by rw[Ye,Zw];rfl)
 obtain⟨NU,NV⟩:=k.ba.obj;refine⟨_,rfl,l.h,NU,_,rfl,NV,rfl,_,rfl,ao,_,_,_,rfl,rfl,az.of V4,rfl,l,b,xs,W,E,c0,rfl,k.ba,r.ok,Yg Zx,by omega,λl' H6 G rm=>?_⟩;have off:=λ{a:Z} {o:HO} (h:H5 a=U o) (n:a∉l.fp)=>G.off h n;obtain⟨Bf,DG⟩:=off k.dq k.n2;obtain⟨Bg,DH⟩:=off k.names k.n1;obtain⟨yL,L_⟩:=off Mb k.n3;have ZkP:Paired (dP H5 b.ps) A b.fs:=L2.Paired.bI dE λ_ _ e=>L _ _ (B _ _ e);have V5:=BQ G k.ba ZkP;have al5:=de dE;have ao6:=G.bO k.ba V4;refine⟨_,rfl,_,rfl,_,rfl,fl,rfl,⟨_,aq.of yL⟩,λD hD=>?_⟩;have qe:∀p∈b.fs,p.1=E->p=(E,c0):=λp J e=>SG r.ok.zs J (Yg Zx) e;refine ze (K:=K) (aq.of yL) (by rw[Ya];omega) hD (λi=>(b.fs[i]?.map λp=>decide (p.1≠E)).getD a8) (λi y _=>∃a,A[i]?=U a/\y=.ref a) (λ_ _ _ _ _ h=>h) (λi v hi H7 T _ Kt Kf kt kf=>?_) λus H7 T h7 pr=>?_
 ·rw[Ye] at hi;obtain⟨a,ea,rfl⟩:∃a,A[i]?=U a/\V.ref a=v:=by
   cases e:A[i]? with
   |none=>rw[e] at hi;cases hi
   |some c=>rw[e] at hi;exact⟨c,rfl,Yn hi⟩
  obtain⟨p,ep,J⟩:=fU V5 ea;have mp:=Yg ep;have pb:(b.fs[i]?.map λp=>decide (p.1≠E)).getD a8=decide (p.1≠E):=by rw[ep];rfl
  rw[pb] at kt kf;refine⟨_,rfl,_,rfl,a,ao,_,_,rfl,rfl,az.of (T _ _ J),az.of (T _ _ ao6),Ug _,Ug _,_,rfl,?_⟩;have ed:(!decide ((eS b.ps p.1 p.2).map kV=(eS b.ps E c0).map kV))=decide (p.1≠E):=by
   by_cases e:p.1=E
   ·rw[qe p mp e];simp
   ·rw[ri e,um (λh=>e ?_)];·rfl
    ·injection h with h1 _;have:=V.int.inj h1;exact mu this
  show(if(!decide ((eS b.ps p.1 p.2).map kV=(eS b.ps E c0).map kV))=af then _ else _);rw[ed];cases e:decide (p.1≠E) with
  |true=>exact cZ ⟨_,rfl,kt _ H7 e (ai.refl _) ⟨a,ea,rfl⟩⟩
  |false=>exact bW (kf H7 e (ai.refl _))
 rw[Ya,al5] at pr;obtain⟨iS,rfl,ZkQ⟩:∃iS:O Z,us=iS.map V.ref/\Paired (dP H7 b.ps) iS (c7 E b.fs):=by
  have aux:∀{W:O V} {is:O Nat} {gs:O (Nat×Fc)},Paired (λy i=>∃a,A[i]?=U a/\y=.ref a) W is->is.map (λi=>b.fs[i]?)=gs.map U->∃A:O Z,W=A.map V.ref/\Paired (dP H7 b.ps) A gs:=by
   intro W is gs pr;induction pr generalizing gs with
   |nil=>
    intro e;cases gs with
    |nil=>exact⟨[],rfl,.nil⟩
    |cons _ _=>cases e
   |cons f _ ih=>
    intro e;cases gs with
    |nil=>cases e
    |cons g gs=>
     obtain⟨a,e1,e2⟩:=f;obtain⟨p,ep,J⟩:=fU V5 e1;injection e with e4 e5;obtain⟨A,r1,r2⟩:=ih e5;exact⟨a::A,by rw[e2,r1];rfl,.cons (by rw[←Yn (ep.symm.trans e4)];exact T _ _ J) r2⟩
  exact aux pr (Zdr b.fs λp=>decide (p.1≠E))
 refine⟨_,rfl,by show 4<=sizeLine;decide,λaO H8 Ef g8 dB=>?_⟩;have N:=T.trans g8;obtain⟨tm,tf,tw,ts,Ma,_⟩:=id k.turns;have sub:(c7 E b.fs).Sublist b.fs:=Zz;refine q l' (b.without E c0) nl sd D aO H8 ((bP.after (((kM.trans B).trans L)) G).same N) ⟨rm.same N,r.ok.drop E (Yd _) (by rw[Yl];show _+1<=200;omega) (Yx _),N _ _ Bg,DH,N _ _ Bf,DG,⟨iS,g8 _ _ h7,L2.Paired.bI ZkQ λ_ _ e=>g8 _ _ e⟩,rm.fresh hD,dB,(G.gu k.ba k.turns k.n4).same N,(off Ma k.n4).2,r.nm,r.so.sublist (sub.map _),W6 cp,W6 (Yz (Zt sub.length_le _) cf),?_⟩ p0;show(b.dn++[_]).length<=_;rw[Yl];show _+1<=_;omega
def cI.nil(b:lq xs a):cI xs a ⟨[],[],0,[],[]⟩:=
 ⟨b,Jd,Yx _,Yx _,λ_ h=>(nomatch h),Jd,λ_ h=>(nomatch h),Jd,Jd,⟨λ_=>0,λ_ h=>absurd h (Wn _),λ_ h=>(nomatch h)⟩,Yx _,Yx _⟩
inductive Uh(C CL CJ:Z)(k:O V)(H:Hp)(Q:VK)(E:XK):Prop
 |mk (c a:O Int) (z:Nat) (e d:Z) (l:BL) (b:BS) (i:O Int) (D:k=[.ref l.h,.ref e,.ref d,.int (z:Int)]) (B:bb H C CL CJ l c a b) (A:b=⟨[],[],0,[],[]⟩) (y:lq c a) (x:H e=U (.lst (i.map V.int))) (s:e∉l.fp) (v:gu H d c a) (r:d∉l.fp) (u:z<97) (t:i.length<=59) (q:∀(h:BL) (p:BS) (m n o j:Z) (g:Hp),bP H g l h->eO C CL CJ g c a z 59 d h p m n o j->Q (.ref j) g)
abbrev Mc:O ar:=["_law_book","_law_cells","_law_turns_here","_law_salt"]
def Bs:aP ["_law_book","_law_cells","_law_turns_here","_law_salt","_law_state","_law_cell_here"] Mc (aJ HV):=.aY
def Zcu(F:aM K "_law_grow" "_law_grow" HV f fd)(Ih:HasFn P w K mg I 14 "_law_step" L9 (SE C CL CJ))(bl:Bl mg):aB P w K mg I aL 15 f fd Mc (Uh C CL CJ):=by
 refine F.o Bs λs H hr h=>?_;obtain⟨u,t,z,L,r,l,b,cs,rfl,N,rfl,gd,T,nc,ht,nt,hz,A,q⟩:=h;refine⟨_,(aj (bh 4 Bs.nd (cU (aa (cV ae) (aa rN (aa (cV ae) (aa aw ae)))))) (aj (ic hY rfl (fX (K:=K) rfl (pv 1)) (bG 5 Bs.nd) (au (bh 4 Bs.nd (aQ Ih hr (aa (pv 0) (aa (pv 4) (aa (pv 5) (aa (pv 2) (aa (pv 3) ae))))))))) (au (aH (pv 4))))),?_⟩;have sz:(10000:Nat)<=sizeLine:=by rw[dU];decide
 refine bN ?_;refine⟨by show 0<=sizeLine;decide,λR H1 n1 W h1=>?_⟩;refine λQ H2 n2 G h2=>?_;refine⟨by show 0<=sizeLine;decide,λX H3 n3 E h3=>⟨by show 4<=sizeLine;decide,λst H4 n4 B h4=>?_⟩⟩;have y:=((W.trans G).trans E).trans B;have bV:=N.same W;have tO:=bV.same G;have si:eO C CL CJ H4 u t z 0 r l ⟨[],[],0,[],[]⟩ R Q X st:=⟨N.same y,cI.nil gd,B _ _ (E _ _ (G _ _ h1)),N.fresh n1,B _ _ (E _ _ h2),bV.fresh n2,⟨[],B _ _ h3,.nil⟩,tO.fresh n3,h4,ht.same y,nt,rfl,Pw,Yx _,Yx _,Yx _⟩;refine ib (λo e=>∃(c:BL) (m:BS) (g i k d:Z) (p:bR V),bP H e l c/\eO C CL CJ e u t z 59 r c m g i k d/\o=[U (.ref l.h),U (.ref L),U (.ref r),U (.int (z:Int)),U (.ref d),p]) (λkN dD=>?_) ?_
 ·refine⟨_,rfl,L,rfl,⟨_,aq.of (y _ _ T)⟩,kW (λj o e=>∃(c:BL) (m:BS) (g i k d:Z) (p:bR V),bP H e l c/\eO C CL CJ e u t z j r c m g i k d/\o=[U (.ref l.h),U (.ref L),U (.ref r),U (.int (z:Int)),U (.ref d),p])
   ⟨l,_,R,Q,X,st,aG,bP.of y,si,rfl⟩ (λj o e _ ⟨_,_,_,_,_,_,_,n,_⟩=>aq.of (n.off T nc).1) ?_ ?_⟩
  ·rintro j v o e hj ⟨c,m,g,i,k,d,p,n,a,rfl⟩;obtain⟨x,rfl,hx⟩:=nJ hj;have jl:j<cs.length:=(Yj.mp hx).1;refine a_ ?_;rw[←n.h];refine⟨_,rfl,_,rfl,_,rfl,_,rfl,_,rfl,u,t,z,j,x,r,c,m,g,i,k,d,rfl,a,hz,mr (hT jl A),λl2 b2 Nl MI J eW H7 D s7 _=>a_ ⟨l2,b2,Nl,MI,J,eW,_,n.trans D,s7,rfl⟩⟩
  ·rintro o e ⟨c,m,g,i,k,d,p,n,a,rfl⟩;rw[Ya] at a;exact dD _ _ ⟨c,m,g,i,k,d,p,n,⟨a.ba,a.ok,a.names,a.n1,a.dq,a.n2,a.facts,a.n3,a.tup,a.turns,a.n4,a.nm,a.so,Yz a.cp A,Yz a.cf A,Yz a.cd A⟩,rfl⟩
 rintro o e ⟨c,m,g,i,k,d,p,n,a,rfl⟩;exact⟨_,rfl,q c m g i k d e n a⟩
def eO.va(s:eO C CL CJ H xs a z j e l b nl g k st)(w:bP H d l c)(q:bb d C CL CJ c xs a b):eO C CL CJ d xs a z j e c b nl g k st:=by
 obtain⟨v,p⟩:=w.off s.names s.n1;obtain⟨u,o⟩:=w.off s.dq s.n2;obtain⟨r,i,h⟩:=s.facts;obtain⟨t,n⟩:=w.off i s.n3;obtain⟨_,_,_,_,m,_⟩:=id s.turns;exact⟨q,s.ok,v,p,u,o,⟨r,t,BQ w s.ba h⟩,n,w.bO s.ba s.tup,w.gu s.ba s.turns s.n4,(w.off m s.n4).2,s.nm,s.so,s.cp,s.cf,s.cd⟩
def eO.good(s:eO C CL CJ H xs a z j g l b nl h i st):(∀c∈b.F,eB xs a b.ps.length c)/\b.F.length<=64:=by
 refine⟨λc e=>?_,?_⟩
 ·obtain⟨p,d,rfl⟩:=Yf.mp (e);exact s.ok.fg p d
 ·show(b.fs.map (·.2)).length<=64;rw[Ya];exact W6 s.ok.fl
def r9:At H 3 (.int i) (.int i):=by unfold At;rfl
def ZfQ(h:xs.length<=63):(kC xs (U 4) aG).length<=59:=by
 unfold kC;have e:HT.cy xs.length 0 (U 4)=min 4 xs.length:=HT.Rx _ _ 4;exact Yz (List.length_take_le' _ _) (by rw[Jz,e];omega)
def eO.nam(s:eO C CL CJ H xs c z j d l b nl g h st)(a:i<b.ps.length):av b.ps i=dH z i:=by
 have e:(b.ps.map (·.1))[i]?=((List.range b.ps.length).map (dH z))[i]?:=by rw[s.nm]
 rw[Ye,Ye,Jj a,Yc a] at e;rw[av,Yi,Yc a];exact Yn e
def eO.len(s:eO C CL CJ H xs d z j e l b nl g h st)(c:j<=60)(a:i<b.ps.length):(av b.ps i).length<=1000:=by
 rw[s.nam a];have:=(O_ (z:=z) (k:=i) (by have:=s.cp;omega)).2;omega
def SH(h:j<a.length):(d_ a)[j]?=U (.str (av a j)):=by
 unfold d_ av;rw[Ye,Yc h,Yi,Yc h];rfl
def mulL:O Int->Int
 |[]=>1
 |a::r=>a*mulL r
theorem IQ(a:Int):∀b:O Int,mulL (b++[a])=mulL b*a
 |[]=>by show a*1=1*a;rw[x9]
 |x::b=>by show x*mulL (b++[a])=x*mulL b*a;rw[IQ a b,EY]
theorem Zet(h:xs.Perm ys):mulL xs=mulL ys:=by
 induction h with
 |nil=>rfl
 |cons x _ a=>show x*mulL _=x*mulL _;rw[a]
 |swap x y l=>show y*(x*mulL l)=x*(y*mulL l);rw[←EY,←EY,x9 y x]
 |trans _ _ c b=>exact c.trans b
def iZ(b:O Int)(a:O (Nat×O Int)):O Int:=(a.filter λp=>!decide ((p.1:Int)∈b)).map λp=>(p.2.length:Int)
theorem Pa{H:Hp}:∀{g:O Z} {c:O (Nat×O Int)} {i:Nat} {k:Key} {y:V},Paired (λa (p:Nat×O Int)=>H a=U (.lst (p.2.map V.int))) g c->(bq (c.map (·.1)) g)[i]?=U (k,y)->∃q a,c[i]?=U q/\k=.inl (q.1:Int)/\y=.ref a/\H a=U (.lst (q.2.map V.int))
 |_,_,i,k,y,.nil,h=>by
  have d:([]:O (Key×V))[i]?=U (k,y):=h;simp at d
 |a::g,p::c,0,k,y,.cons e t,h=>by
  have d:=h;cases d;exact⟨p,a,rfl,rfl,rfl,e⟩
 |a::g,p::c,i+1,k,y,.cons e t,h=>by
  have d:=h;obtain⟨q,b,l,j⟩:=Pa t d;exact⟨q,b,l,j⟩
inductive JV(C:Z)(d:O V)(H:Hp)(Q:VK)(E:XK):Prop
 |mk (l:JL) (st:JS) (n:Nat) (b:Z) (a:O Int) (e:d=[.ref l.J,.ref b]) (g:cH H C n l st) (h:H b=U (.lst (a.map V.int))) (i:∀p∈st.fr,p.2.length<=1000) (q:∀c,ai H c->Q (.int (mulL (iZ a st.fr))) c)
inductive SI(C:Z)(b:O V)(H:Hp)(Q:VK)(E:XK):Prop
 |mk (l:JL) (st:JS) (n:Nat) (e:b=[.ref l.J]) (c:cH H C n l st) (d:∀p∈st.fr,p.2.length<=1000) (q:∀a,ai H a->Q (.int (mulL (st.fr.map λp=>(p.2.length:Int)))) a)
abbrev DI:O ar:=["self","heads"]
def yS:aP ["self","heads","many","head","sections"] DI (aJ E_):=.aY
def ZaG(F:aM K "dealt_beside" "Joins.dealt_beside" E_ f fd)(E:mM K C)(bl:Bl mg):aB P w K mg I aL 1 f fd DI (JV C):=by
 refine F.o yS λs H hr h=>?_;obtain⟨l,st,n,t,m,rfl,r,G,f_,q⟩:=h;refine⟨_,(aj (bh 2 yS.nd aw) (aj (Zca rfl PassesOwn.never rfl (Zfm rfl (pF K 0)) (jt rfl rfl (bX (bG 3 yS.nd) (bX (bG 4 yS.nd) jr))) (au (aR (fY (xD rfl) (pv 3) (pv 1) (by with_unfolding_all rfl)) (au (Kq (i:=2) yS.nd rfl (z7 rfl) (cT K bl (pv 4)) Zig)) aW))) (au (aH (pv 2))))),?_⟩;obtain⟨dx,T⟩:=r.obj;refine setC ?_;have pl:=de r.free;have dl:(bq (st.fr.map (·.1)) l.bY).length=st.fr.length:=by unfold bq;rw[Ya,W8,Ya];omega
 refine ib (λo A=>ai H A/\∃d b:bR V,o=[U (.ref l.J),U (.ref t),U (.int (mulL (iZ m st.fr))),d,b]) (λkN dD=>?_) ?_
 ·refine Zeb (λQ' R=>⟨_,rfl,l.J,C,dx,_,_,rfl,T,E.cls,E.se,rfl,R⟩) r.frees (λj o=>∃d b:bR V,o=[U (.ref l.J),U (.ref t),U (.int (mulL (iZ m (st.fr.take j)))),d,b]) ⟨aG,aG,rfl⟩ ?_ ?_
  ·rintro j k y o H' a N rt bk W ⟨d,b,rfl⟩ D X J;obtain⟨p,v,L,rfl,rfl,Q⟩:=Pa r.free W;have B:st.fr.take (j+1)=st.fr.take j++[p]:=by rw[Y1,L];rfl
   have x:=D _ _ Q (eA Q r.frees (λz=>by cases z));have u:=D _ _ G (eA G r.frees (λz=>by cases z));refine⟨a,_,rfl,az.of X,rfl,_,_,rfl,a_ ⟨_,_,rfl,a_ ⟨rfl,?_⟩⟩⟩;refine⟨_,rfl,_,rfl,t,_,rfl,.inl (aq.of u),rfl,B6 m,_,rfl,?_⟩;rw[z6 rfl,show kV (Sum.inl (p.1:Int))=V.int (p.1:Int) from rfl,zE];refine bc (λc=>?_) (λc=>aT (J _ ⟨U (.int (p.1:Int)),U (.ref v),?_⟩))
   ·refine⟨_,rfl,_,rfl,v,_,rfl,.inl (aq.of x),_,_,rfl,rfl,.inr ?_,J _ ⟨U (.int (p.1:Int)),U (.ref v),?_⟩⟩
    ·have:=f_ p (Yg L);rw[Ya];omega
    have e:iZ m (st.fr.take (j+1))=iZ m (st.fr.take j)++[(p.2.length:Int)]:=by
     unfold iZ;rw[B,Wf,Yo]
     congr 1
     rw[Wj,bS c];rfl
    rw[e,IQ,Ya];rfl
   ·have e:iZ m (st.fr.take (j+1))=iZ m (st.fr.take j):=by
     unfold iZ;rw[B,Wf,Yo,Wj,bt c];simp
    rw[e];rfl
  ·rintro o H' ⟨d,b,rfl⟩ g;rw[dl,Y8];exact dD _ _ ⟨g,d,b,rfl⟩
 rintro o A ⟨g,d,b,rfl⟩;exact⟨_,rfl,q A g⟩
def ZaW:aP fP fP (aJ Ge):=.aY
def ZfR(F:aM K "dealt" "Joins.dealt" Ge f fd)(c:b_ P w K mg I 1 "dealt_beside" C DI (JV C))(u:Bl mg):aB P w K mg I aL 2 f fd fP (SI C):=by
 refine F.o ZaW λs H g h=>?_;obtain⟨l,st,n,rfl,a,o,q⟩:=h;refine⟨_,(au (aH (cJ c g (by decide) (pv 0) (aa (cV ae) ae)))),?_⟩;obtain⟨r,i⟩:=a.obj;refine⟨_,rfl,l.J,r,_,rfl,i,rfl,by exact Yx _,λj v d b k=>?_⟩;refine⟨l,st,n,j,[],rfl,a.same b,k,o,λt m=>?_⟩;have e:iZ [] st.fr=st.fr.map λp=>(p.2.length:Int):=by
  unfold iZ;rw[J0.mpr λp _=>by simp]
 exact e▸q t (b.trans m)
open Classical in
noncomputable def vc (a:JS):O Nat:=(List.range a.hd.length).filter λi=>decide (∀j,j<i->a.ag j≠a.ag i)
open Classical in
def JW:i∈vc st↔i<st.hd.length/\∀j,j<i->st.ag j≠st.ag i:=by
 unfold vc;rw[Y5,Wm,gI]
theorem Ra{P:Nat->Prop}:∀{m:Nat},P m->∃i,i<=m/\P i/\∀j,j<i->¬P j:=λ{m} h=>by
 induction m using Nat.strongRecOn with
 |ind m g=>
  by_cases z:∃j,j<m/\P j
  ·obtain⟨j,e,d⟩:=z;obtain⟨i,a,b,c⟩:=g j e d;exact⟨i,r0 (lL a e),b,c⟩
  ·exact⟨m,Yd _,h,λj k d=>z ⟨j,k,d⟩⟩
open Classical in
def fr_perm(c:WF n st):(st.fr.map λp=>(p.2.length:Int)).Perm ((vc st).map λi=>((st.bQ (st.ag i)).length:Int)):=by
 have x:((vc st).map st.ag).Perm (st.fr.map (·.1)):=by
  refine(W9 ?_ c.nf).mpr λk=>?_
  ·rw[Wl,Wr];have l:(vc st).Pairwise (·<·):=List.Pairwise.filter _ List.pairwise_lt_range;refine(X1.mp l).imp ?_;rintro a b ⟨_,q,lt⟩;exact(JW.mp q).2 a lt
  ·rw[Yf];constructor
   ·rintro⟨i,o,rfl⟩;exact zg (c.d7 (JW.mp o).1).1
   ·intro mk;obtain⟨i,u,e⟩:=c.hf k mk;obtain⟨r,h,g,lst⟩:=Ra (P:=λj=>st.ag j=k) (m:=i) e;exact⟨r,JW.mpr ⟨lL h u,λj t z=>lst j t (z.trans g)⟩,g⟩
 have d:=x.map λk=>((st.bQ k).length:Int);rw[Y7,Y7] at d;have v:st.fr.map ((λk=>((st.bQ k).length:Int))∘(·.1))=st.fr.map λp=>(p.2.length:Int):=Wo λp s=>by
  show((st.bQ p.1).length:Int)=_;have e:st.bQ p.1=p.2:=by unfold JS.bQ;rw[mem_lookup c.nf s];rfl
  rw[e]
 rw[v] at d;exact d.symm
open Classical in
def WF.U7(c:WF n st)(j:n<=8):∀p∈st.fr,p.2.length<=1000:=λp d=>by
 obtain⟨i,g,e⟩:=c.hf p.1 (Yf.mpr ⟨p,d,rfl⟩);obtain⟨k,a,b⟩:=c.d7 g;have h:st.bQ (st.ag i)=p.2:=by unfold JS.bQ;rw[e,mem_lookup c.nf d];rfl
 rw[h] at a b;have:=wB a b;omega
inductive Rb(C:Z)(g:O V)(H:Hp)(Q:VK)(E:XK):Prop
 |mk (l:JL) (st:JS) (n i j:Nat) (a:O Int) (c:Z) (e:g=[.ref l.J,.int (i:Int),.int (j:Int),.ref c]) (o:cH H C n l st) (h:WF n st) (m:n<=8) (s:i<st.hd.length) (r:j<st.hd.length) (p:H c=some (.tup (a.map V.int))) (k:a.length=n) (q:∀(b:O Int) (d:Hp),ai H d->b.Perm (((st.bK i j).filter λq=>decide (a.getD q.1.toNat 0=q.2)).map (·.1))->b.Pairwise (·<·)->Q (.int ((b.length:Int)*mulL (iZ [(st.ag i:Int),(st.ag j:Int)] st.fr))) d)
def Z6:aP iP iP (aJ Fe):=.aY
def Zbg(F:aM K "dealt_with" "Joins.dealt_with" Fe f fd)(e:mM K C)(L:b_ P w K mg I 4 "left" C iP (zT C))(A:b_ P w K mg I 1 "dealt_beside" C DI (JV C))(W:Bl mg):aB P w K mg I aL 5 f fd iP (Rb C):=by
 refine F.o Z6 λs H x h=>?_;obtain⟨l,st,n,i,j,o,B,rfl,c,b,d,k,u,N,D,q⟩:=h;refine⟨_,(au (aH (aZ nN (cT K W (cJ L x (by decide) (pv 0) (aa (pv 1) (aa (pv 2) (aa (pv 3) ae))))) (cJ A x (by decide) (pv 0) (aa (cV (aa (aI (iL K) (pF K 0) (pv 1)) (aa (aI (iL K) (pF K 0) (pv 2)) ae))) ae))))),?_⟩;obtain⟨m,g⟩:=c.obj;have G:=Cm b d k u;have sz:(10000:Nat)<=sizeLine:=by rw[dU];decide
 refine⟨_,rfl,l.J,m,_,rfl,g,rfl,_,rfl,_,rfl,_,rfl,l,st,n,i,j,_,_,_,_,_,_,o,B,rfl,c,b.one d k,b.one d u,N,λp t=>by rw[D];exact CK b k t,Yz G (by decide),λp r H1 np a t v E=>?_⟩;refine⟨p,_,rfl,.inl (aq.of t),?_⟩;rw[Ya];have nl:r.length<=64:=by
  have y:=v.length_eq;rw[Ya] at y;have h2:=Wk (λq:Int×Int=>decide (o.getD q.1.toNat 0=q.2)) (st.bK i j);have h3:((st.bK i j).filter λq:Int×Int=>decide (o.getD q.1.toNat 0=q.2)).length=r.length:=y.symm;omega
 refine⟨_,rfl,l.J,m,_,rfl,a _ _ g,rfl,_,rfl,l.J,C,m,_,_,rfl,a _ _ g,e.cls,e.jT,rfl,_,rfl,l.ha,_,_,_,rfl,rfl,aq.of (a _ _ c.heads),nK (ur k),?_⟩;refine⟨_,rfl,l.J,C,m,_,_,rfl,a _ _ g,e.cls,e.jT,rfl,_,rfl,l.ha,_,_,_,rfl,rfl,aq.of (a _ _ c.heads),nK (ur u),by show 2<=sizeLine;decide,λQ H2 J z R=>?_⟩;refine⟨l,st,n,Q,[(st.ag i:Int),(st.ag j:Int)],rfl,(c.same a).same z,R,b.U7 d,λX T=>?_⟩;exact⟨_,_,rfl,rfl,.inl ⟨by omega,by omega⟩,q r X ((a.trans z).trans T) v E⟩
inductive Ui(l:O V)(H:Hp)(Q:VK)(E:XK):Prop
 |mk (j i:Z) (b:bA) (d h:O Int) (F:O Fc) (x:Nat) (a:Int) (z:l=[.ref j,.ref i,.str (av b x),.int a]) (A:FL H b j F) (r:gu H i d h) (o:(b.map (·.1)).Nodup) (v:∀c∈F,eB d h b.length c) (y:d.length<=8) (u:b.length<=100) (t:F.length<=64) (s:x<b.length) (q:0<=a/\a<(d.length:Int)) (n:∃g,iH d.length F g/\g x=some a) (m:∀(p:Z) (g:O (Nat×Int)) (e:Hp),ai H e->e p=some (.dK (gN b g))->BF F d.length b.length x a g->iH d.length F (λk=>g.lookup k)->Q (.ref p) e)
abbrev DJ:O ar:=["_law_facts","_law_turns_here","_law_name_here","_law_section"]
def Zcv:aP DJ DJ (aJ HW):=.aY
def Zg_(F:aM K "_law_good" "_law_good" HW f fd)(B:HasFn P w K mg I 2 "_law_nets" DB K1)(A:HasFn P w K mg I 1 "_law_carried" DC IL):aB P w K mg I aL 3 f fd DJ Ui:=by
 refine F.o Zcv λs H n h=>?_;obtain⟨u,E,k,j,y,F,x,a,rfl,v,J,o,t,l,D,m,G,i,b,q⟩:=h;refine⟨_,(au (aH (aQ A n (aa (aQ B n (aa (pv 0) (aa (pv 1) ae))) (aa (pv 0) (aa (pv 2) (aa (pv 3) ae))))))),?_⟩;refine⟨_,rfl,_,rfl,u,E,k,j,y,F,rfl,v,J,o,t,l,m,λd e L H1 r z T=>?_⟩;exact⟨_,rfl,_,rfl,_,rfl,H,d,u,e,L,j.length,k,F,x,a,rfl,o,z,T,v.same r,λc Q=>(t c Q).ok,l,D,m,G,i,absurd b,λp g H2 R N X W=>q p g H2 (r.trans R) N X W⟩
open Classical in
noncomputable def nW (F:O Fc) (j:Nat):O Nat:=(List.range j).filter λi=>decide (∀k,k<i->¬c_ F k i)
open Classical in
def Zeu(h:∀k,k<j->¬c_ F k j):nW F (j+1)=nW F j++[j]:=by
 unfold nW;rw[MA,Wf,Wj,bS (d6 h)];rfl
open Classical in
def ZfS(h:¬∀k,k<j->¬c_ F k j):nW F (j+1)=nW F j:=by
 unfold nW;rw[MA,Wf,Wj,bt (by rw[g_ h];exact Yh)];simp
open Classical in
def IS:i∈nW F m↔i<m/\∀k,k<i->¬c_ F k i:=by
 unfold nW;rw[Y5,Wm,gI]
theorem IT:∀{a:O Int},(0:Int)∈a->mulL a=0
 |x::a,h=>by
  show x*mulL a=0;rcases Yq.mp h with rfl|h;·exact Int.zero_mul _
  ·rw[IT h];exact Int.mul_zero _
noncomputable def eV (F:O Fc) (n j:Nat):Int:=mulL ((nW F j).map λi=>((dG F n i).length:Int))
open Classical in
def Zev(c:dR n st F)(b:i<st.hd.length):((st.bQ (st.ag i)).map λz=>(st.bC i).getD z.toNat 0).Perm (dG F n i):=by
 refine(W9 (c.wf.dist b) (zw F n i).2).mpr λa=>?_;rw[c.room b,Yf];constructor
 ·rintro⟨z,e,rfl⟩;obtain⟨j,g⟩:=c.live;obtain⟨f,d,q⟩:=BN c.wf g (st.ag i) (st.ag i) z z e e (λ_=>rfl);exact⟨f,d,(q i b).1 rfl⟩
 ·rintro⟨f,⟨s,h⟩,rfl⟩;exact⟨s (st.ag i),(h i b).1,(h i b).2.symm⟩
open Classical in
def Rc(b:dR n st F):mulL (st.fr.map λp=>(p.2.length:Int))=eV F n st.hd.length:=by
 rw[Zet (fr_perm b.wf)];unfold eV;have g:vc st=nW F st.hd.length:=by
  unfold vc nW;refine Jv λi e=>?_;have d:=Wm.mp e;rw[Wd,yM,gI];exact⟨λh j a c=>h j a ((b.conn j i (n7 a d) d).mpr c),λh j a z=>h j a ((b.conn j i (n7 a d) d).mp z)⟩
 rw[g]
 congr 1
 refine Wo λi e=>?_;have l:=(Zev b (IS.mp e).1).length_eq;rw[Ya] at l;rw[l]
inductive Pb(C CL CJ:Z)(g:O V)(H:Hp)(Q:VK)(E:XK):Prop
 |mk (l:BL) (b:BS) (a c:O Int) (i:g=[.ref l.h]) (h:bb H C CL CJ l a c b) (ok:cI a c b) (q:∀(e:BL) (d:Hp),bP H d l e->bb d C CL CJ e a c b->Q (.int (eV b.F a.length b.ps.length)) d)
def Zcw:aP ["hearth"] ["hearth"] (aJ Hu):=.aY
def Zcx(F:aM K "dealings" "dealings" Hu f fd)(n:b_ P w K mg I 8 "joins" C fP (zG C CL CJ))(y:b_ P w K mg I 2 "dealt" CJ fP (SI CJ)):aB P w K mg I aL 9 f fd ["hearth"] (Pb C CL CJ):=by
 refine F.o Zcw λs H g h=>?_;obtain⟨l,b,a,k,rfl,j,ok,q⟩:=h;refine⟨_,(au (aH (qt y g (by decide) (qt n g (by decide) (pv 0))))),?_⟩;obtain⟨u,p⟩:=j.obj;refine⟨_,rfl,l.h,u,_,rfl,p,rfl,l,b,a,k,rfl,j,ok,λo d st D m v B A e c len z _=>?_⟩;obtain⟨t,r⟩:=e.obj;refine⟨d.J,t,_,rfl,r,rfl,d,st,a.length,rfl,e,c.wf.U7 ok.gd.2.2.2.2,λx i=>?_⟩;rw[Rc c,len];exact q o x (m.same i) (v.same i)
inductive Rf(k:O V)(H:Hp)(Q:VK)(E:XK):Prop
 |mk (i g h:Z) (a:bA) (b d:O Int) (F:O Fc) (e:k=[.ref i,.ref g,.ref h]) (t:FL H a i F) (p:gu H g b d) (m:(a.map (·.1)).Nodup) (s:∀c∈F,eB b d a.length c) (n:b.length<=8) (l:a.length<=100) (o:F.length<=64) (r:H h=U (.lst (d_ a))) (q:∀j,ai H j->Q (.int (eV F b.length a.length)) j)
def EZ(h a g b:Z)(v:Int)(e d c:bR V):St:=[U (.ref h),U (.ref a),U (.ref g),U (.int v),U (.ref b),e,d,c]
inductive Md(c:bA)(H:Hp)(F:O Fc)(n:Nat)(l i k b:Z)(j:Nat)(h:St)(d:Hp):Prop
 |mk (a:O (Key×V)) (p o m:bR V) (g:ai H d) (q:d b=U (.dK a)) (len:a.length<=100*j) (seen:∀x:Nat,x<c.length->(aX a (.inr (av c x))≠aG↔∃r,r<j/\c_ F r x)) (e:h=EZ l i k b (eV F n j) p o m):Md c H F n l i k b j h d
inductive V6(i:bA)(v:Hp)(F:O Fc)(n:Nat)(u m s h d:Z)(j b:Nat)(t:O Nat)(q p:bR V)(l:St)(k:Hp):Prop
 |mk (a:O (Key×V)) (y:bR V) (g:∀c o,v c=U o->c≠d->c≠h->k c=U o) (z:k h=U (.dK a)) (len:a.length<=b) (seen:∀x:Nat,x<i.length->(aX a (.inr (av i x))≠aG↔(∃r,r<j/\c_ F r x)\/x∈t)) (e:l=EZ u m s h (eV F n j) q p y):V6 i v F n u m s h d j b t q p l k
abbrev Me:O ar:=["_law_facts","_law_turns_here","_law_names"]
def ub:aP ["_law_facts","_law_turns_here","_law_names","_law_found","_law_seen","_law_name_here","_law_room_here","_law_one"] Me (aJ GX):=.aY
theorem Zew(F:aM K "_law_dealt" "_law_dealt" GX f fd)(qb:HasFn P w K mg I 3 "_law_room" Ah CM)(Ii:HasFn P w K mg I 3 "_law_good" DJ Ui)(bl:Bl mg):aB P w K mg I aL 4 f fd Me Rf:=by
 refine F.o ub λs H hr h=>?_;obtain⟨fa,Q,T,b,xs,ys,F,rfl,fF,ht,gv,fg,n8,u_,lX,hn,q⟩:=h;obtain⟨n,J⟩:∃n,n=xs.length:=⟨_,rfl⟩;obtain⟨m,t⟩:∃m,m=b.length:=⟨_,rfl⟩;have jh:∀c∈F,dZ n m c:=λc hc=>by rw[J,t];exact(fg c hc).ok
 rw[←J,←t] at q;rw[←t] at u_;rw[←J] at n8;have hu:=hr.r8;refine⟨_,(aj (bh 3 ub.nd aw) (aj (bh 4 ub.nd rN) (aj (ic hY rfl (fX (K:=K) rfl (pv 2)) (bG 5 ub.nd) (au (aR (jU (mG (bF hr) (pv 5) (pv 4)) (by with_unfolding_all rfl)) (aj (bh 6 ub.nd (aQ qb hr (aa (pv 0) (aa (pv 1) (aa (pv 5) ae))))) (aj (aR (bp (zD (K:=K) rfl (KG hu)) (pv 6) (cV ae)) (au (aH aw)) aW) (aj (OY (H0:=H) rfl hY rfl (RV (H0:=H) rfl (aQ Ii hr (aa (pv 0) (aa (pv 1) (aa (pv 5) (aa (aI (iL K) (pv 6) aw) ae)))))) (bG 7 ub.nd) (au (oO (bF hr) (pv 4) (pv 7) ku))) (au (bh 3 ub.nd (aZ nN (pv 3) (cT K bl (pv 6)))))))) aW))) (au (aH (pv 3)))))),?_⟩;have sz:(100000:Nat)<=sizeLine:=by rw[dU];decide
 refine setC ?_;refine bN ?_;refine λsd H1 nsd g1 lV=>?_;refine ib (Md b H F n fa Q T sd m) (λkN dD=>?_) ?_
 ·refine⟨_,rfl,T,rfl,⟨_,aq.of (g1 _ _ hn)⟩,kW (K:=K) (a:=T) (xs:=d_ b) (Md b H F n fa Q T sd)
   ⟨[],aG,aG,aG,g1,lV,Yd _,λx _=>⟨λz=>absurd rfl z,λ⟨r,h,_⟩=>absurd h (Wn _)⟩,rfl⟩ (λj σ H6 _ ⟨_,_,_,_,g,_,_,_,_⟩=>aq.of (g _ _ hn)) ?_ (λσ H6 h=>dD _ _ (by rw[uz,←t] at h;exact h))⟩
  rintro j v σ H6 hj ⟨kvs,o5,o6,o7,g6,E1,z9,seen,rfl⟩;have W:j<m:=by
   have:=(Yj.mp hj).1;rw[uz] at this;omega
  obtain rfl:V.str (av b j)=v:=Yn ((SH (hT W (jn t))).symm.trans hj);refine a_ ?_;refine⟨_,rfl,_,rfl,sd,_,rfl,dh E1 rfl,_,rfl,?_⟩;cases ev:aX kvs (.inr (av b j)) with
  |some y=>
   refine bW (aT ?_);obtain⟨r,rj,cr⟩:=(seen j (hT W (jn t))).mp (by rw[ev];exact λz=>nomatch z);have NX:eV F n (j+1)=eV F n j:=by unfold eV;rw[ZfS (λh=>h r rj cr)]
   refine⟨kvs,_,_,_,g6,E1,t5 z9,λx E=>?_,by rw[NX];rfl⟩;rw[seen x E];constructor
   ·rintro⟨r',h1,D⟩;exact⟨r',mr h1,D⟩
   ·rintro⟨r',h1,D⟩;by_cases z:r'=j;·exact⟨r,rj,cr.trans (by rw[←z];exact D)⟩
    ·exact⟨r',gb (gc h1) z,D⟩
  |none=>
   refine cZ ?_;have rep:∀k,k<j->¬c_ F k j:=λk X c=>(seen j (hT W (jn t))).mpr ⟨k,X,c⟩ ev;refine bN ?_;refine⟨_,rfl,_,rfl,_,rfl,fa,Q,b,xs,ys,F,j,rfl,fF.same g6,ht.same g6,gv,fg,by omega,by omega,lX,hT W (jn t),λB H7 Zy g7 NY=>?_⟩;rw[←J] at NY;refine jV (λσ H8=>σ=EZ fa Q T sd (eV F n j) (U (.str (av b j))) (U (.ref B)) o7/\ai H7 H8/\dG F n j≠[]) (λvU fS=>?_) ?_
   ·refine⟨_,rfl,by show 0<=sizeLine;decide,λle H8 nle g8 hle=>⟨B,le,_,rfl,rfl,aq.of (g8 _ _ NY),aq.of (xs:=[]) hle,_,rfl,?_⟩⟩;rw[bt Yh,List.isEmpty_map];refine bc (λcc=>?_) (λcc=>aT (fS _ _ ⟨rfl,g8,λz=>cc (by rw[z];rfl)⟩));have er:dG F n j=[]:=by
     cases e:dG F n j with
     |nil=>rfl
     |cons _ _=>rw[e] at cc;cases cc
    have ez:eV F n m=0:=IT (Yf.mpr ⟨j,IS.mpr ⟨W,rep⟩,by rw[er];rfl⟩);have:=q H8 ((g6.trans g7).trans g8);rw[ez] at this;exact this
   rintro _ H8 ⟨rfl,g8,rne⟩;have NZ:=(g6.trans g7).trans g8;obtain⟨u,R,eR⟩:∃u R,dG F n j=u::R:=by
    cases e:dG F n j with
    |nil=>exact absurd e rne
    |cons u R=>exact⟨u,R,rfl⟩
   obtain⟨uin,yes⟩:=rO.mp (show u∈dG F n j by rw[eR];exact Yk);have DK:=g8 _ _ NY;have N0:=g8 _ _ (g7 _ _ E1);refine ib (λσ A=>ai H A/\A B=U (.lst ((dG F n j).map V.int))/\∃(kvs:O (Key×V)) (o7:bR V),A sd=U (.dK kvs)/\kvs.length<=100*(j+1)/\(∀x:Nat,x<b.length->(aX kvs (.inr (av b x))≠aG↔∃r,r<j+1/\c_ F r x))/\σ=EZ fa Q T sd (eV F n j) (U (.str (av b j))) (U (.ref B)) o7) (λpO fJ=>?_) ?_
   ·refine Zed (λd A kv=>∃l:O (Nat×Int),ai H8 A/\A d=U (.dK kv)/\kv=gN b l/\BF F n m j u l/\iH n F (λk=>l.lookup k)) (λR hR=>?_) ?_
    ·refine⟨_,rfl,_,rfl,_,rfl,_,rfl,B,_,_,.int u,rfl,rfl,aq.of (by rw[eR] at DK;exact DK),eZ (j:=0) rfl,fa,Q,b,xs,ys,F,j,u,rfl,fF.same NZ,ht.same NZ,gv,fg,by omega,by omega,lX,hT W (jn t),by rw[←J];exact uin,by rw[←J];exact yes,λdp l A G hdp L cl=>?_⟩;rw[←J,←t] at L;rw[←J] at cl;exact hR dp A (gN b l) ⟨l,G,hdp,rfl,L,cl⟩
    ·rintro d A kv ⟨l,G,hd,rfl,L,cl⟩;have gll:=L.len;have oE:=G _ _ N0;have gg9:=NZ.trans G;have Mf:sd≠d:=λz=>by
      rw[z,hd] at oE;have e:gN b l=kvs:=by injection oE with h;injection h
      rw[←e,qy gv (hT W (jn t)) λp hp=>by rw[←t];exact(L.lt p hp).1,L.hd] at ev;cases ev
     refine⟨hd,λi=>V6 b A F n fa Q T sd d j (100*j+i) ((l.take i).map (·.1)) (U (.str (av b j))) (U (.ref B)),λod=>?_,?_,?_⟩;·exact⟨kvs,o7,λc o e n1 _=>by rw[aK n1];exact e,by rw[aK Mf];exact oE,z9,λx E=>by rw[seen x E];simp,rfl⟩
     ·rintro od i k y aC H' N rt bk X ⟨E2,q7,gk,N1,V7,zZ,rfl⟩ fz hN;rw[gN,Ye] at X;obtain⟨⟨k0,v0⟩,ek⟩:∃p,l[i]?=U p:=by
       cases e:l[i]? with
       |none=>rw[e] at X;cases X
       |some p=>exact⟨p,rfl⟩
      rw[ek] at X;cases X;have il:i<l.length:=(Yj.mp ek).1;have lY:l.take (i+1)=l.take i++[(k0,v0)]:=by rw[Y1,ek];rfl
      refine a_ ?_;have k0m:k0<b.length:=by rw[←t];exact(L.lt _ (Yg ek)).1
      refine⟨_,rfl,_,rfl,sd,E2,.inr (av b k0),rfl,N1,rfl,by omega,λH2 b2 e2=>?_⟩;refine hN _ _ ⟨_,_,λc o e n1 n2=>b2 _ _ (gk c o e n1 n2) n2,e2,?_,λx E=>?_,rfl⟩ (b2 _ _ fz (λz=>Mf z.symm))
      ·have:=y9 E2 (.inr (av b k0)) (.bl true);omega
      ·rw[Qp,lY,Yo,Yu];by_cases z:x=k0
       ·rw[bS (by rw[z])];exact⟨λ_=>.inr (.inr (by rw[z];exact Yk)),λ_ z=>nomatch z⟩
       ·rw[bt (λw=>z (oS gv E k0m (Wh w))),zZ x E];constructor
        ·rintro(h|h);·exact .inl h
         ·exact .inr (.inl h)
        ·rintro(h|h|h);·exact .inl h
         ·exact .inr h
         ·exact absurd (by simpa using h) z
     ·rintro od aC H' ⟨E2,q7,gk,N1,V7,zZ,rfl⟩ fz;rw[T9] at V7 zZ;rw[Y8] at zZ;have kp:∀c o,A c=U o->c≠sd->upd H' d (.dK (gN b l)) c=U o:=λc o e n2=>by
       by_cases z:c=d;·subst z;rw[aU];rw[hd] at e;exact e
       ·rw[aK z];exact gk c o e z n2
      have Zy:B≠sd:=eA (G _ _ DK) oE (λz=>by cases z);refine fJ _ _ ⟨λc o e=>kp c o (gg9 _ _ e) (cA e nsd),kp _ _ (G _ _ DK) Zy,E2,q7,by rw[aK Mf];exact N1,by omega,λx E=>?_,rfl⟩;rw[zZ x E];have key:=L.key cl x;have mem:x∈l.map (·.1)↔∃v,l.lookup x=U v:=⟨λh=>by
       cases e:l.lookup x with
       |none=>exact absurd h (Zay e)
       |some v=>exact⟨v,rfl⟩,λ⟨v,h⟩=>zg h⟩
      rw[mem,key];constructor
      ·rintro(⟨r,h1,D⟩|h);·exact⟨r,mr h1,D⟩
       ·exact⟨j,rn _,h⟩
      ·rintro⟨r,h1,D⟩;by_cases z:r=j;·exact .inr (by rw[←z];exact D)
       ·exact .inl ⟨r,gb (gc h1) z,D⟩
   rintro _ A ⟨G,ZkT,ZkU,p7,oE,ZkV,Zjt,rfl⟩;refine⟨_,rfl,_,rfl,B,_,rfl,.inl (aq.of ZkT),_,_,rfl,rfl,.inr ?_,?_⟩
   ·rw[Ya];have rl8:(dG F n j).length<=8:=by
     have:=wB (n:=n) (zw F n j).2 λa ha=>(rO.mp ha).1;exact eL this n8
    omega
   ·have NX:eV F n (j+1)=eV F n j*((dG F n j).length:Int):=by unfold eV;rw[Zeu rep,Yo];exact IQ _ _
    refine⟨ZkU,U (.str (av b j)),U (.ref B),p7,G,oE,ZkV,Zjt,?_⟩;rw[NX,Ya];rfl
 rintro _ H6 ⟨kvs,o5,o6,o7,g6,E1,z9,seen,rfl⟩;exact⟨_,rfl,q H6 g6⟩
theorem Zex(c:c_ F x y)(h:dG F n y=[]):dG F n x=[]:=by
 refine List.eq_nil_iff_forall_not_mem.mpr λa m=>?_;obtain⟨_,g,i,l⟩:=rO.mp m;have:∃b,g y=U b:=by
  clear h;induction c with
  |refl=>exact⟨a,l⟩
  |step _ e k=>
   obtain⟨b,d⟩:=k;exact⟨_,i.1 _ _ _ b e d⟩
 obtain⟨b,d⟩:=this;have j:=rO.mpr ⟨i.2.2 y b d,g,i,d⟩;rw[h] at j;cases j
def ZfT(d:i<m)(h:dG F n i=[]):eV F n m=0:=by
 obtain⟨r,b,a,lst⟩:=Ra (P:=λj=>c_ F j i) (m:=i) .refl;refine IT (Yf.mpr ⟨r,IS.mpr ⟨lL b d,λk e c=>lst k e (c.trans a)⟩,?_⟩);rw[Zex a h];rfl
theorem Rg{k:Nat}{v w:O Int}:∀{ps:O (Nat×O Int)},(ps.map (·.1)).Nodup->ps.lookup k=U w->mulL ((dQ k v ps).map λp=>(p.2.length:Int))=(v.length:Int)*mulL ((ps.filter λp=>!decide (p.1=k)).map λp=>(p.2.length:Int))
 |p::ps,c,h=>by
  obtain⟨b,d⟩:=Y0.mp (show(p.1::ps.map (·.1)).Nodup from c);have j:dQ k v (p::ps)=(if p.1=k then(p.1,v) else p)::dQ k v ps:=rfl;rw[j,Wj];by_cases e:p.1=k
  ·rw[bS e,bt (by rw[d6 e];exact Yh)];have g:dQ k v ps=ps:=by
    unfold dQ;refine(Wo λq a=>?_).trans (yr _);rw[bt (λz=>b (by rw[e,←z];exact Yf.mpr ⟨q,a,rfl⟩))];rfl
   have i:ps.filter (λp=>!decide (p.1=k))=ps:=J0.mpr λq a=>by
    rw[g_ (λz=>b (by rw[e,←z];exact Yf.mpr ⟨q,a,rfl⟩))];rfl
   rw[g,i];rfl
  ·rw[bt e,bS (by rw[g_ e];rfl)];rw[Wy,beq_eq_false_iff_ne.mpr (λz=>e z.symm)] at h;show(p.2.length:Int)*mulL ((dQ k v ps).map _)=(v.length:Int)*((p.2.length:Int)*mulL _);rw[Rg d h,←EY,←EY,x9 (p.2.length:Int)]
def dR.lE(a:dR n st F)(c:x<st.hd.length)(b:y<st.hd.length):(u,v)∈st.bK x y↔∃f,dk st f/\f x=u/\f y=v:=by
 constructor;·exact B8 a.wf c b a.live
 ·rintro⟨f,d,rfl,rfl⟩;exact xt a.wf c b d
section
variable {n i j:Nat}{st X:JS}{F:O Fc}{tn ns:O Int}{k:ar}
theorem Rh(m:dR n st F)(s:i<st.hd.length)(P:j<st.hd.length)(N:k≠bj)(J:dZ n st.hd.length ⟨k,i,(j:Int),tn⟩)(u:∀x,x∈ns↔(x,ap tn x)∈st.bK i j)(G:ns.Pairwise (·<·))(E:ns≠[])
  (b:WF n X)(D:X.hd.length=st.hd.length)(B:∀f,dk X f/\f i∈ns↔dk st f/\f j=ap tn (f i))(Nr:sf st X i j)(T:X.ag i=st.ag i)(R:X.bC i=st.bC i)(y:X.bQ (st.ag i)=st.bQ (st.ag i))
  (Q:(X.fr.filter λp=>!decide (p.1=st.ag i)).map (λp=>(p.2.length:Int))=iZ [(st.ag i:Int),(st.ag j:Int)] st.fr):(ns.length:Int)*mulL (iZ [(st.ag i:Int),(st.ag j:Int)] st.fr)=eV (F++[⟨k,i,(j:Int),tn⟩]) n st.hd.length:=by
 have o:i<X.hd.length:=by rw[D];exact s
 have t:KW n st (X.kz (X.ag i) ((X.bQ (X.ag i)).filter λz=>decide ((X.bC i).getD z.toNat 0∈ns))) af i j tn:=by
  refine⟨b.kz o,D,λ_=>⟨?_,λf=>(ud b o ns f).trans (B f)⟩,(λz=>nomatch z),λ_=>Nr⟩;obtain⟨x,L⟩:∃x,x∈ns:=by
   cases ns with
   |nil=>exact absurd rfl E
   |cons a r=>exact⟨a,Yk⟩
  obtain⟨f,d,e1,e2⟩:=B8 m.wf s P m.live ((u x).mp L);exact⟨f,(ud b o ns f).mpr ((B f).mpr ⟨d,by rw[e2,e1]⟩)⟩
 have Eu:=(X5 m t N J).1 rfl;have A:=Rc Eu;rw[t.len] at A;rw[←A];show _=mulL ((dQ (X.ag i) _ X.fr).map _);rw[Rg b.nf (b.d7 o).1,T,Q]
 congr 1
 have H:(((X.bQ (st.ag i)).filter λz=>decide ((X.bC i).getD z.toNat 0∈ns)).map λz=>(st.bC i).getD z.toNat 0).Perm ns:=by
  have q:(((X.bQ (st.ag i)).filter λz=>decide ((X.bC i).getD z.toNat 0∈ns)).map λz=>(st.bC i).getD z.toNat 0).Nodup:=by
   exact y▸(List.filter_sublist.map _).nodup (m.wf.dist s)
  have EC:ns.Nodup:=by rw[Wl];exact G.imp λh=>Int.ne_of_lt h
  refine(W9 q EC).mpr λa=>?_;rw[Yf,R,y];constructor
  ·rintro⟨z,c,rfl⟩;exact fb (Y5.mp c).2
  ·intro v;have g:=(u a).mp v;have ex:∃z∈st.bQ (st.ag i),ap (st.bC i) z=a:=by
    by_cases e:st.ag i=st.ag j
    ·unfold JS.bK jy at g;rw[bS e] at g;obtain⟨z,c,W⟩:=Yf.mp g;exact⟨z,c,eH (·.1) W⟩
    ·exact(BO e g).1
   obtain⟨z,c,rfl⟩:=ex;exact⟨z,Y5.mpr ⟨c,d6 v⟩,rfl⟩
 have l:=H.length_eq;rw[Ya] at l;rw[←l]
def SJ(l:dR n st F)(m:i<st.hd.length)(o:j<st.hd.length)(N:st.hd.length<=400)(D:full tn=af)(E:tn.length=n)(x:k≠bj)(J:ns.Perm (((st.bK i j).filter λq=>decide (tn.getD q.1.toNat 0=q.2)).map (·.1)))(v:ns.Pairwise (·<·)):
  (ns.length:Int)*mulL (iZ [(st.ag i:Int),(st.ag j:Int)] st.fr)=eV (F++[⟨k,i,(j:Int),tn⟩]) n st.hd.length/\ns=dG (F++[⟨k,i,(j:Int),tn⟩]) n i:=by
 have s:=JM J;have ok:dZ n st.hd.length ⟨k,i,(j:Int),tn⟩:=⟨m,λ_=>⟨⟨by show(0:Int)<=(j:Int);exact nV _,by show((j:Int)).toNat<_;omega⟩,D,E⟩⟩;have r:∀f,fH f ⟨k,i,(j:Int),tn⟩↔f j=ap tn (f i):=λf=>⟨λh=>by have:=h.2 x;rwa [show((⟨k,i,(j:Int),tn⟩:Fc).aN.toNat)=j from Y6 j] at this,λh=>⟨λz=>absurd z x,λ_=>by rw[show((⟨k,i,(j:Int),tn⟩:Fc).aN.toNat)=j from Y6 j];exact h⟩⟩;have G:∀c'∈F++[⟨k,i,(j:Int),tn⟩],dZ n st.hd.length c':=λc' c=>by
  rcases Yu.mp c with c|c;·exact l.jh c' c
  ·rw[Ym] at c;rwa[c]
 have room:ns=dG (F++[⟨k,i,(j:Int),tn⟩]) n i:=by
  refine Zs (λa b _ _ h1 h2=>by omega) (v.imp λh=>zl h) (zw _ n i).1 ((W9 (by rw[Wl];exact v.imp λh=>Int.ne_of_lt h) (zw _ n i).2).mpr λa=>?_);rw[s,l.lE m o,rO];constructor
  ·rintro⟨f,d,rfl,e⟩;obtain⟨inr,u⟩:=(l.iff f).mp d;refine⟨inr i m,Oo G m inr λc' c=>?_⟩;rcases Yu.mp c with c|c;·exact u c' c
   ·rw[Ym] at c;exact c▸(r f).mpr e
  ·rintro⟨_,g,cl,T⟩;obtain⟨f0,d0⟩:=l.live;obtain⟨R,H⟩:=(l.iff f0).mp d0;obtain⟨f,Q,u,e⟩:=GD G R (λc' c=>by
    rcases Yu.mp c with c|c;·exact .inr (H c' c)
    ·rw[Ym] at c;exact c▸.inl rfl) cl T
   refine⟨f,(l.iff f).mpr ⟨Q,λc' c=>u c' (Yt _ c)⟩,e,?_⟩;have:=(r f).mp (u _ (Ys _ Yk));rw[this,e]
 refine⟨?_,room⟩;by_cases A:ns=[]
 ·rw[ZfT m (by rwa[←room]),A];exact Int.zero_mul _
 by_cases e:st.ag i=st.ag j
 ·refine Rh l m o x ok s v A l.wf rfl (QK l.wf m o e s) (QL e) rfl rfl rfl ?_;unfold iZ
  congr 1
  refine Jv λp _=>?_;rw[←e]
  congr 1
  rw[Wd,gI,gI];simp[Yq,Y3,hI,or_self];omega
 ·obtain⟨ma,mb,two,⟨L,P⟩,B,t⟩:=l.wf.two m o N e;obtain⟨fi,li⟩:=l.wf.ko m;obtain⟨W,lj⟩:=l.wf.ko o;have y:=l.wf.mv o m (λz=>e z.symm) B t L P two.mA (oP (kr W) (oP D fi (by omega)) (by rw[fV,iE];omega)) (by rwa[iE,iE]);refine Rh l m o x ok s v A y (xG _ _ _) (R_ l.wf m o e B t D E s) ((KU l.wf t _ (λz=>e z.symm)).symm) ?_ ?_ (KS _ _ _ e) ?_;·rw[qw l.wf t _ m,bt e]
  ·rw[CI l.wf B t _ _ m,if_neg e]
  ·show((c7 (st.ag j) st.fr).filter _).map _=_;unfold c7 iZ;rw[Jc]
   congr 1
   refine Jv λp _=>?_;rw[Wd];simp[Wp,ZA,decide_eq_false_iff_not,gI,Yq,Y3,hI,iz];omega
end
inductive Pc(C CL CJ c:Z)(a:O V)(H:Hp)(Q:VK)(E:XK):Prop
 |mk (l:BL) (b:BS) (g d:O Int) (z:ar) (m:a=[.ref l.h,.str z]) (k:bb H C CL CJ l g d b) (h:(b.ps.map (·.1)).Nodup) (j:z.length<=1000) (e:∀i,i<b.ps.length->z=av b.ps i->Q (.int (i:Int)) H) (no:z∉b.ps.map (·.1)->XP H c "no person" E):Pc C CL CJ c a H Q E
def IU(C CL CJ b:Z):Sp:=λa H Q E=>Pc C CL CJ b a H Q E
def K5(h:z∈b.map (·.1)):∃i,i<b.length/\z=av b i:=by
 obtain⟨i,a,e⟩:=ZC h;rw[Ya] at a;refine⟨i,a,?_⟩;rw[←e,List.getElem_map,av,Yi,Yc a];rfl
def ZfU(h:z∉b.map (·.1)):aX (jJ b) (.inr z)=aG:=rC λm=>h (by
 obtain⟨p,c,e⟩:=Yf.mp m;obtain⟨⟨q,i⟩,a,rfl⟩:=Yf.mp c;exact Yf.mpr ⟨q,(Mm (by rw[List.zipIdx_eq_zip_range'] at a;exact a)).1,Wh e⟩)
def Z9:aP kG kG (aJ Fo):=.aY
def Zcy(F:aM K "place_of" "Hearth.place_of" Fo f fd)(a:fG K C)(x:zO P w K mg I "NoPerson" "no person" v):aB P w K mg I (eK P w) 4 f fd kG (IU C CL CJ v):=by
 refine F.AB Z9 (λr H Q E h=>?_) (λy A e s H r Q E g h=>?_)
 ·obtain⟨l,b,q,p,z,rfl,_⟩:=h;rfl
 obtain⟨l,b,q,p,z,rfl,c,t,u,d,no⟩:=h;refine⟨_,(aj (aR (jU (mG (bF g) (pv 1) (pF K 0)) (by with_unfolding_all rfl)) (au (Px x g (by decide) rfl rfl sv (pv 1))) aW) (au (aH (dF (bF g) (pF K 0) (pv 1) (λ_ _=>rfl))))),?_⟩;obtain⟨k,j⟩:=c.obj;by_cases m:z∈b.ps.map (·.1)
 ·obtain⟨i,o,rfl⟩:=K5 m;have n:=uv t o;exact⟨_,rfl,_,rfl,l.h,C,k,_,_,rfl,j,a.cls,a.rR,rfl,l.pl,U _,rfl,dh c.places n,_,rfl,bW (aT ⟨_,rfl,l.h,C,k,_,_,rfl,j,a.cls,a.rR,rfl,_,rfl,l.pl,_,rfl,dh c.places n,d i o rfl⟩)⟩
 ·exact⟨_,rfl,_,rfl,l.h,C,k,_,_,rfl,j,a.cls,a.rR,rfl,l.pl,aG,rfl,dh c.places (ZfU m),_,rfl,cZ ⟨_,rfl,z,rfl,eL u (by decide),no m⟩⟩
def Pd(h:dM d9 k=af):∃e,(k,e)∈ie xs ys:=by
 unfold dM d9 at h;simp[PyProof.Rows.KTD.datumAt] at h;by_cases d:k="mother";·subst d;exact⟨_,.head _⟩
 by_cases c:k="father";·subst c;exact⟨_,.tail _ (.head _)⟩
 by_cases b:k="wed";·subst b;exact⟨_,.tail _ (.tail _ (.head _))⟩
 by_cases a:k="sibling";·subst a;exact⟨_,.tail _ (.tail _ (.tail _ (.head _)))⟩
 rw[bt d,bt c,bt b,bt a] at h;cases h
def zc(h:(k,c)∈ie xs b):k≠bj:=by
 rintro rfl;simp at h;rcases h with⟨e,_⟩|⟨e,_⟩|⟨e,_⟩|⟨e,_⟩<;>exact absurd e (by decide+kernel)
inductive OF(CL e:Z)(c:O V)(H:Hp)(Q:VK)(E:XK):Prop
 |mk (L:Z) (k:ar) (b a:O Int) (j:c=[.ref L,.str k]) (i:iY H CL L b a) (h:k.length<=1000) (g:∀d,(k,d)∈ie b a->∀t:Z,bO H t d->Q (.ref t) H) (no:dM d9 k=a8->XP H e "no word" E):OF CL e c H Q E
def Ik(CL b:Z):Sp:=λa H Q E=>OF CL b a H Q E
inductive Qa(C CL CJ n o:Z)(h:O V)(H:Hp)(Q:VK)(E:XK):Prop
 |mk (l:BL) (b:BS) (c d:O Int) (k y z:ar) (u:h=[.ref l.h,.str k,.str y,.str z]) (t:bb H C CL CJ l c d b) (ok:cI c d b) (s:k.length<=1000) (r:y.length<=1000) (q:z.length<=1000)
  (yes:∀i j m,(k,m)∈ie c d->i<b.ps.length->j<b.ps.length->y=av b.ps i->z=av b.ps j->∀(e:BL) (a:Hp) (p:Z) (g:Hp),bP H a l e->bb a C CL CJ e c d b->a p=aG->ai a g->g p=U (.lst ((dG (b.F++[⟨k,i,(j:Int),m⟩]) c.length i).map V.int))->Q (.ref p) g)
  (oF:dM d9 k=a8->XP H o "no word" E)
  (mw:dM d9 k=af->y∉b.ps.map (·.1)\/z∉b.ps.map (·.1)->∀(e:BL) (a:Hp),bP H a l e->bb a C CL CJ e c d b->XP a n "no person" E):Qa C CL CJ n o h H Q E
def Ri(C CL CJ b c:Z):Sp:=λa H Q E=>Qa C CL CJ b c a H Q E
inductive Qb(C CL CJ m n:Z)(g:O V)(H:Hp)(Q:VK)(E:XK):Prop
 |mk (l:BL) (b:BS) (c d:O Int) (k y z:ar) (t:g=[.ref l.h,.str k,.str y,.str z]) (s:bb H C CL CJ l c d b) (ok:cI c d b) (r:k.length<=1000) (q:y.length<=1000) (p:z.length<=1000)
  (yes:∀i j h,(k,h)∈ie c d->i<b.ps.length->j<b.ps.length->y=av b.ps i->z=av b.ps j->∀(e:BL) (a:Hp) (o:Hp),bP H a l e->bb a C CL CJ e c d b->ai a o->Q (.int (eV (b.F++[⟨k,i,(j:Int),h⟩]) c.length b.ps.length)) o)
  (oF:dM d9 k=a8->XP H n "no word" E)
  (mw:dM d9 k=af->y∉b.ps.map (·.1)\/z∉b.ps.map (·.1)->∀(e:BL) (a:Hp),bP H a l e->bb a C CL CJ e c d b->XP a m "no person" E):Qb C CL CJ m n g H Q E
def Rj(C CL CJ b c:Z):Sp:=λa H Q E=>Qb C CL CJ b c a H Q E
theorem ZbN(F:aM K "tie_turn" "tie_turn" Bw f fd)(u:mg "TIE_LETTERS"=U (.ref c))(q:uX K c d9)(T:uJ K CL)(t:HasFn P w K mg I 1 "is_tie" ["kind"] Co)(o:b_ P w K mg I 1 "step" CL Aa (KQ CL))(J:zO P w K mg I "BadWord" "no word" G):aB P w K mg I (eK P w) 4 f fd sT (Ik CL G):=by
 refine F.AB OA (λp H Q E h=>?_) (λbw A b s H p Q E e h=>?_)
 ·obtain⟨L,k,i,g,rfl,_⟩:=h;rfl
 obtain⟨L,k,i,g,rfl,l,x,a,no⟩:=h;refine⟨_,(aj (aR (ju (e_ (aQ t e (aa (pv 1) ae)))) (au (Px J e (by decide) rfl rfl sv (pv 1))) aW) (au (aH (cJ o e (by decide) (pv 0) (aa (aI (RP (K:=K) rfl) (dA (v:=.ref c) rfl u rfl) (pv 1)) ae))))),?_⟩;obtain⟨B,d,R,fF,N,im,W,X,st,z,_⟩:=id l;refine⟨_,rfl,k,rfl,_,rfl,?_⟩;cases m:dM d9 k with
 |true=>
  obtain⟨j,n⟩:=Pd m;obtain⟨r,D,y⟩:=ua n;exact bW (aT ⟨_,rfl,L,B,_,rfl,z,rfl,_,rfl,c,k,r,d9,rfl,rfl,q,D,L,r,i,g,j,rfl,l,y,a j n⟩)
 |false=>exact cZ ⟨_,rfl,k,rfl,eL x (by decide),no m⟩
abbrev V9:O ar:=["hearth","kind","one","other","turn"]
def Pf:aP V9 kH (aJ IC):=.aY
def Zdu(F:aM K "left_to" "left_to" IC f fd)(hc:fG K C)(wV:xQ P w K mg I 4 "tie_turn" sT (Ik CL cB))(mC:b_ P w K mg I 8 "joins" C fP (zG C CL CJ))(W:KD P w K mg I 4 "place_of" C kG (IU C CL CJ cN))(mE:b_ P w K mg I 4 "left" CJ iP (zT CJ)):aB P w K mg I (eK P w) 9 f fd kH (Ri C CL CJ cN cB):=by
 refine F.AB Pf (λvs H Q E h=>?_) (λbw A D s H vs Q E o h=>?_)
 ·obtain⟨l,b,c,e,k,y,z,rfl,_⟩:=h;rfl
 obtain⟨l,b,c,e,k,y,z,rfl,v,ok,lk,ly,lz,x,oF,mw⟩:=h;have oK:=wV;refine⟨_,(aj (bh 4 Pf.nd (Cy oK o (by decide) sv rfl (aa (pF K 0) (aa (pv 1) ae)))) (au (aH (cJ mE o (by decide) (qt mC o (by decide) (pv 0)) (aa (CA W o (by decide) sv (pv 0) (aa (pv 2) ae)) (aa (CA W o (by decide) sv (pv 0) (aa (pv 3) ae)) (aa (pv 4) ae))))))),?_⟩;obtain⟨dx,ho⟩:=v.obj;refine⟨_,rfl,l.h,C,dx,_,_,rfl,ho,hc.cls,hc.sr,rfl,_,rfl,l.L,k,c,e,rfl,v.landAt,lk,λT u t ht=>?_,oF⟩;refine a_ ?_;refine⟨_,rfl,l.h,dx,_,rfl,ho,rfl,l,b,c,e,rfl,v,ok,λn jl st R a d e1 e2 ja g len fR _=>?_⟩;obtain⟨dy,hj⟩:=ja.obj;obtain⟨nv,J⟩:=d.obj;rw[a.h] at J;have X:dM d9 k=af:=by
  obtain⟨r,dr,_⟩:=ua u;unfold dM;rw[dr];rfl
 refine⟨jl.J,dy,_,rfl,hj,rfl,_,rfl,l.h,nv,_,rfl,J,rfl,_,rfl,n,b,c,e,y,by rw[a.h];rfl,d,ok.nm,ly,λi hi ey=>?_,λm=>mw X (.inl m) n R a d⟩;refine⟨_,rfl,l.h,nv,_,rfl,J,rfl,_,rfl,n,b,c,e,z,by rw[a.h];rfl,d,ok.nm,lz,λj rp ez=>?_,λm=>mw X (.inr m) n R a d⟩;have q:i<st.hd.length:=by rwa[len]
 have B:j<st.hd.length:=by rwa[len]
 have G:=ok.gd.2.2.2.2;have t1:=(a.off ht (v.tup ht)).1;have N:=zx ok.gd u;have pf:=Cm g.wf G q B;refine⟨_,rfl,jl,st,c.length,i,j,_,_,_,_,_,_,T,t,rfl,ja,g.wf.one G q,g.wf.one G B,t1,λp L=>by rw[N.2];exact CK g.wf q L,Yz pf (by decide),λp ns H2 np g2 L pm so=>?_⟩;have r:=(SJ g q B (by rw[len];have:=ok.m;omega) N.1 N.2 (zc u) pm so).2;refine x i j T u hi rp ey ez n R p H2 a d np g2 ?_;rw[L,r]
def Pg:aP V9 kH (aJ ID):=.aY
def Zdv(F:aM K "left_by" "left_by" ID f fd)(hc:fG K C)(wV:xQ P w K mg I 4 "tie_turn" sT (Ik CL cB))(mC:b_ P w K mg I 8 "joins" C fP (zG C CL CJ))(J:KD P w K mg I 4 "place_of" C kG (IU C CL CJ cN))(Fm:b_ P w K mg I 5 "dealt_with" CJ iP (Rb CJ)):aB P w K mg I (eK P w) 9 f fd kH (Rj C CL CJ cN cB):=by
 refine F.AB Pg (λvs H Q E h=>?_) (λbw A u s H vs Q E n h=>?_)
 ·obtain⟨l,b,c,e,k,y,z,rfl,_⟩:=h;rfl
 obtain⟨l,b,c,e,k,y,z,rfl,p,ok,lk,ly,lz,q,oF,T⟩:=h;have oK:=wV;refine⟨_,(aj (bh 4 Pg.nd (Cy oK n (by decide) sv rfl (aa (pF K 0) (aa (pv 1) ae)))) (au (aH (cJ Fm n (by decide) (qt mC n (by decide) (pv 0)) (aa (CA J n (by decide) sv (pv 0) (aa (pv 2) ae)) (aa (CA J n (by decide) sv (pv 0) (aa (pv 3) ae)) (aa (pv 4) ae))))))),?_⟩;obtain⟨dx,ho⟩:=p.obj;refine⟨_,rfl,l.h,C,dx,_,_,rfl,ho,hc.cls,hc.sr,rfl,_,rfl,l.L,k,c,e,rfl,p.landAt,lk,λG o t ht=>?_,oF⟩;refine a_ ?_;refine⟨_,rfl,l.h,dx,_,rfl,ho,rfl,l,b,c,e,rfl,p,ok,λg X st B a d e1 e2 ja W len fR _=>?_⟩;obtain⟨dy,hj⟩:=ja.obj;obtain⟨R,v⟩:=d.obj;rw[a.h] at v;have L:dM d9 k=af:=by
  obtain⟨r,dr,_⟩:=ua o;unfold dM;rw[dr];rfl
 refine⟨X.J,dy,_,rfl,hj,rfl,_,rfl,l.h,R,_,rfl,v,rfl,_,rfl,g,b,c,e,y,by rw[a.h];rfl,d,ok.nm,ly,λi hi ey=>?_,λm=>T L (.inl m) g B a d⟩;refine⟨_,rfl,l.h,R,_,rfl,v,rfl,_,rfl,g,b,c,e,z,by rw[a.h];rfl,d,ok.nm,lz,λj rp ez=>?_,λm=>T L (.inr m) g B a d⟩;have N:i<st.hd.length:=by rwa[len]
 have D:j<st.hd.length:=by rwa[len]
 have n8:=ok.gd.2.2.2.2;have t1:=(a.off ht (p.tup ht)).1;have x:=zx ok.gd o;refine⟨_,rfl,X,st,c.length,i,j,G,t,rfl,ja,W.wf,n8,N,D,t1,x.2,λns H2 g2 pm so=>?_⟩;have r:=(SJ W N D (by rw[len];have:=ok.m;omega) x.1 x.2 (zc o) pm so).1;rw[r,len];exact q i j G o hi rp ey ez g B H2 a d g2
inductive SK(C CL CJ:Z)(h:O V)(H:Hp)(Q:VK):Prop
 |mk (l:BL) (b:BS) (d e:O Int) (k y z:ar) (u:Z) (t:h=[.ref l.h,.ref u]) (r:H u=U (.tup [.str k,.str y,.str z])) (s:bb H C CL CJ l d e b) (ok:cI d e b) (q:k.length<=1000) (o:y.length<=1000) (n:z.length<=1000)
  (yes:∀i j m,(k,m)∈ie d e->i<b.ps.length->j<b.ps.length->y=av b.ps i->z=av b.ps j->∀(g:BL) (c:Hp) (p:Z) (a:Hp),bP H c l g->bb c C CL CJ g d e b->c p=aG->ai c a->a p=U (.lst ((dG (b.F++[⟨k,i,(j:Int),m⟩]) d.length i).map V.int))->Q (.ref p) a)
  (oF:dM d9 k=a8->∀(p:Z) (a:Hp),ai H a->a p=U (.tup [.str "no word",.bl af,.bl a8])->Q (.ref p) a)
  (mw:dM d9 k=af->y∉b.ps.map (·.1)\/z∉b.ps.map (·.1)->∀(g:BL) (c:Hp) (p:Z) (a:Hp),bP H c l g->bb c C CL CJ g d e b->ai c a->a p=U (.tup [.str "no person",.bl a8,.bl af])->Q (.ref p) a):SK C CL CJ h H Q
def Uj(C CL CJ:Z):Sp:=λa H Q _=>SK C CL CJ a H Q
inductive Qc(C CL CJ:Z)(h:O V)(H:Hp)(Q:VK):Prop
 |mk (l:BL) (b:BS) (d e:O Int) (k y z:ar) (u:Z) (t:h=[.ref l.h,.ref u]) (r:H u=U (.tup [.str k,.str y,.str z])) (s:bb H C CL CJ l d e b) (ok:cI d e b) (q:k.length<=1000) (o:y.length<=1000) (n:z.length<=1000)
  (yes:∀i j m,(k,m)∈ie d e->i<b.ps.length->j<b.ps.length->y=av b.ps i->z=av b.ps j->∀(g:BL) (c:Hp) (a:Hp),bP H c l g->bb c C CL CJ g d e b->ai c a->Q (.int (eV (b.F++[⟨k,i,(j:Int),m⟩]) d.length b.ps.length)) a)
  (oF:dM d9 k=a8->∀(p:Z) (a:Hp),ai H a->a p=U (.tup [.str "no word",.bl af,.bl a8])->Q (.ref p) a)
  (mw:dM d9 k=af->y∉b.ps.map (·.1)\/z∉b.ps.map (·.1)->∀(g:BL) (c:Hp) (p:Z) (a:Hp),bP H c l g->bb c C CL CJ g d e b->ai c a->a p=U (.tup [.str "no person",.bl a8,.bl af])->Q (.ref p) a):Qc C CL CJ h H Q
def Rk(C CL CJ:Z):Sp:=λa H Q _=>Qc C CL CJ a H Q
abbrev V_:O ar:=["_law_book","_law_fact_here","e"]
def Oq:aP V_ ph (aJ GY):=.aY
def ZfV(F:aM K "_law_asked" "_law_asked" GY f fd)(IW:xQ P w K mg I 9 "left_to" kH (Ri C CL CJ a df))(mF:mg "KinError"=U (.ref r))(wW:dz K r)
  (ug:mg "NoPerson"=U (.ref a))(q:dz K a)(rD:c9 K a "word")(wg:PySem.W.mroIn K a (.ref r)=U af)(ui:mg "BadWord"=U (.ref df))(o:dz K df)(rK:c9 K df "word")(wj:PySem.W.mroIn K df (.ref r)=U af)(G:PySem.W.mroIn K a (.ref df)=U a8)(wk:PySem.W.mroIn K df (.ref a)=U a8)(X:PySem.W.mroIn K df (.ref df)=U af)(R:Bl mg):aB P w K mg I aL 12 f fd ph (Uj C CL CJ):=by
 refine F.o Oq @λbw A D vs Q E s H hr h=>?_;obtain⟨l,b,W,T,k,y,z,u,rfl,hu,ba,ok,lk,ly,lz,t,oF,mw⟩:=h;have ne:a≠df:=λe=>by rw[e,X] at G;cases G
 refine⟨_,(au (Tq (B:=r) (i:=2) ⟨rfl,rfl⟩ Oq.nd rfl rfl rfl mF wW (λpn xe E hx ow=>(au (aH (Cy IW hr (by decide) hx rfl (aa (pv 0) (aa (aI (iT K) (pv 1) aw) (aa (aI (iT K) (pv 1) aw) (aa (aI (iT K) (pv 1) aw) ae)))))))) (λ_=>(au (aH (cU (aa (Qn (K:=K) rfl (pv 2)) (aa (gQ (BZ (K:=K) rfl) rfl R.yY yW (aa (pv 2) (aa (dA (v:=.ref df) rfl ui rfl) ae))) (aa (gQ (BZ (K:=K) rfl) rfl R.yY yW (aa (pv 2) (aa (dA (v:=.ref a) rfl ug rfl) ae))) ae))))))))),?_⟩;have x:=az.of (K:=K) hu;refine⟨_,rfl,_,rfl,u,_,0,_,rfl,rfl,x,by rfl,_,rfl,u,_,1,_,rfl,rfl,x,by rfl,_,rfl,u,_,2,_,rfl,rfl,x,by rfl,l,b,W,T,k,y,z,rfl,ba,ok,lk,ly,lz,t,λm=>?_,λm h l' H0 w1 bV=>?_⟩
 ·intro a' c H1 _ _ g e1 n;refine⟨df,c,rfl,rfl,o,wj,λd j=>?_⟩;refine⟨_,rfl,d,df,c,_,_,rfl,j,n,o,rK,rfl,?_⟩;refine⟨_,rfl,d,df,c,_,_,_,af,rfl,rfl,j,n,o,BY _,?_⟩;refine⟨_,rfl,d,df,c,_,_,_,a8,rfl,rfl,j,n,o,BI q ne.symm wk,?_⟩;exact⟨by decide,λp N np L J=>oF m p N (g.trans L) J⟩
 ·intro a' c H1 _ _ g e1 n;refine⟨a,c,rfl,rfl,q,wg,λd j=>?_⟩;refine⟨_,rfl,d,a,c,_,_,rfl,j,n,q,rD,rfl,?_⟩;refine⟨_,rfl,d,a,c,_,_,_,a8,rfl,rfl,j,n,q,BI o ne G,?_⟩;refine⟨_,rfl,d,a,c,_,_,_,af,rfl,rfl,j,n,q,BY _,?_⟩;exact⟨by decide,λp N np L J=>mw m h l' H0 p N w1 bV (g.trans L) J⟩
def Og:aP V_ ph (aJ Gb):=.aY
def Zdw(F:aM K "_law_counted" "_law_counted" Gb f fd)(IX:xQ P w K mg I 9 "left_by" kH (Rj C CL CJ a df))(mF:mg "KinError"=U (.ref r))(wW:dz K r)
  (ug:mg "NoPerson"=U (.ref a))(q:dz K a)(rD:c9 K a "word")(wg:PySem.W.mroIn K a (.ref r)=U af)(ui:mg "BadWord"=U (.ref df))(o:dz K df)(rK:c9 K df "word")(wj:PySem.W.mroIn K df (.ref r)=U af)(G:PySem.W.mroIn K a (.ref df)=U a8)(wk:PySem.W.mroIn K df (.ref a)=U a8)(X:PySem.W.mroIn K df (.ref df)=U af)(R:Bl mg):aB P w K mg I aL 12 f fd ph (Rk C CL CJ):=by
 refine F.o Og @λbw A D vs Q E s H hr h=>?_;obtain⟨l,b,W,T,k,y,z,u,rfl,hu,ba,ok,lk,ly,lz,t,oF,mw⟩:=h;have ne:a≠df:=λe=>by rw[e,X] at G;cases G
 refine⟨_,(au (Tq (B:=r) (i:=2) ⟨rfl,rfl⟩ Og.nd rfl rfl rfl mF wW (λpn xe E hx ow=>(au (aH (Cy IX hr (by decide) hx rfl (aa (pv 0) (aa (aI (iT K) (pv 1) aw) (aa (aI (iT K) (pv 1) aw) (aa (aI (iT K) (pv 1) aw) ae)))))))) (λ_=>(au (aH (cU (aa (Qn (K:=K) rfl (pv 2)) (aa (gQ (BZ (K:=K) rfl) rfl R.yY yW (aa (pv 2) (aa (dA (v:=.ref df) rfl ui rfl) ae))) (aa (gQ (BZ (K:=K) rfl) rfl R.yY yW (aa (pv 2) (aa (dA (v:=.ref a) rfl ug rfl) ae))) ae))))))))),?_⟩;have x:=az.of (K:=K) hu;refine⟨_,rfl,_,rfl,u,_,0,_,rfl,rfl,x,by rfl,_,rfl,u,_,1,_,rfl,rfl,x,by rfl,_,rfl,u,_,2,_,rfl,rfl,x,by rfl,l,b,W,T,k,y,z,rfl,ba,ok,lk,ly,lz,t,λm=>?_,λm h l' H0 w1 bV=>?_⟩
 ·intro a' c H1 _ _ g e1 n;refine⟨df,c,rfl,rfl,o,wj,λd j=>?_⟩;refine⟨_,rfl,d,df,c,_,_,rfl,j,n,o,rK,rfl,?_⟩;refine⟨_,rfl,d,df,c,_,_,_,af,rfl,rfl,j,n,o,BY _,?_⟩;refine⟨_,rfl,d,df,c,_,_,_,a8,rfl,rfl,j,n,o,BI q ne.symm wk,?_⟩;exact⟨by decide,λp N np L J=>oF m p N (g.trans L) J⟩
 ·intro a' c H1 _ _ g e1 n;refine⟨a,c,rfl,rfl,q,wg,λd j=>?_⟩;refine⟨_,rfl,d,a,c,_,_,rfl,j,n,q,rD,rfl,?_⟩;refine⟨_,rfl,d,a,c,_,_,_,a8,rfl,rfl,j,n,q,BI o ne G,?_⟩;refine⟨_,rfl,d,a,c,_,_,_,af,rfl,rfl,j,n,q,BY _,?_⟩;exact⟨by decide,λp N np L J=>mw m h l' H0 p N w1 bV (g.trans L) J⟩
def Qd(h:(k,c)∈ie xs b):k.length<=1000:=by
 simp at h;rcases h with⟨rfl,_⟩|⟨rfl,_⟩|⟨rfl,_⟩|⟨rfl,_⟩<;>decide+kernel
inductive SM(o:O V)(H:Hp)(Q:VK)(E:XK):Prop
 |mk (h g l:Z) (a:bA) (e n:O Int) (m u s p c:Int) (r:O Int) (F:o=[.ref h,.ref g,.ref l,.int (e.length:Int)]) (A:H h=U (.lst (d_ a))) (z:H g=U (.dK (gn a))) (y:(a.map (·.1)).Nodup) (x:0<a.length) (v:a.length<=100) (hd:H l=U (.lst ((m::u::s::p::c::r).map V.int))) (D:0<=c/\c<4) (t:m<=12) (B:lq e n) (q:∀(k:ar) (i j:Nat),i<a.length->j<a.length->∀(b:Z) (d:Hp),H b=aG->ai H d->d b=U (.tup [.str k,.str (av a i),.str (av a j)])->k.length<=1000->Q (.ref b) d)
def ZbO(F:aM K "_law_fact" "_law_fact" By f fd)(y:HasFn P w K mg I 1 "_law_pick" DF K2)(bl:Bl mg):aB P w K mg I aL 2 f fd Ai SM:=by
 refine F.o oI λs H E h=>?_;obtain⟨o,n,a,b,m,R,d0,d1,d2,d3,d4,r,rfl,p,D,B,g,A,hd,b4,v,gd,q⟩:=h;refine⟨_,(aj (bh 4 oI.nd (aI (iL K) (cV (aa aV (aa aV (aa aV (aa aV ae))))) (aI (iL K) (pv 2) aw))) (aj (bh 5 oI.nd (aI (iL K) (pv 0) (aZ dO (aI (iL K) (pv 2) aw) (cT K bl (pv 0))))) (aj (aR (bp CO (aI (iL K) (pv 2) aw) aw) (au (aH (cU (aa aV (aa (pv 5) (aa (aZ dO (aI (iL K) (pv 2) aw) (pv 3)) ae)))))) aW) (aj (aR (bp bZ (pv 4) aV) (au (bh 5 oI.nd (aQ y E (aa (pv 0) (aa (pv 1) (aa (aI (iL K) (pv 2) aw) (aa aV ae))))))) aW) (aj (bh 6 oI.nd (aI (iL K) (cV (aa aV (aa aV (aa aV (aa aV ae))))) (aI (iL K) (pv 2) aw))) (au (aH (cU (aa (pv 4) (aa (pv 5) (aa (aQ y E (aa (pv 0) (aa (pv 1) (aa (aI (iL K) (pv 2) aw) (aa (pv 6) ae))))) ae))))))))))),?_⟩;have sz:(10000:Nat)<=sizeLine:=by rw[dU];decide
 obtain⟨k,tn,T,ek,t,ew⟩:=Q_ m R b4;have at_:∀z:Int,(z % (b.length:Int)).toNat<b.length:=λz=>by have:=su (z:=z) g;omega
 obtain⟨_,_,_,l2,l8⟩:=id gd;have V3:(0:Int)<(m.length:Int):=by omega
 refine bN ?_;refine⟨by show 4<=sizeLine;decide,λkl H1 Zp l tF=>⟨_,rfl,a,_,_,_,rfl,rfl,aq.of (l _ _ hd),eZ rfl,kl,_,_,_,rfl,rfl,aq.of tF,ek,?_⟩⟩;refine bN ?_;have fS:=l _ _ p;refine Vt.uA rfl fS g (λkk t=>⟨_,rfl,a,_,_,_,rfl,rfl,aq.of (l _ _ hd),eZ rfl,t _ (ai.refl _)⟩) _ λH2 g2=>?_;have d:=l.trans g2;refine⟨_,rfl,a,_,_,_,rfl,rfl,aq.of (d _ _ hd),eZ rfl,_,_,rfl,rfl,_,rfl,bc (λc=>absurd (fb c) (Xz v)) (λ_=>aT ?_)⟩;refine jV (λx Q=>ai H Q/\∃i:Nat,i<b.length/\x=[U (.ref o),U (.ref n),U (.ref a),U (.int (m.length:Int)),U (.str k),U (.str (av b i)),aG]) (λpO N=>?_) ?_
 ·refine⟨_,rfl,rfl,_,rfl,bc (λ_=>?_) (λ_=>aT (N _ _ ⟨d,_,at_ _,rfl⟩))⟩;refine⟨_,rfl,_,rfl,_,rfl,a,_,_,_,rfl,rfl,aq.of (d _ _ hd),eZ rfl,o,n,b,d1,"man",rfl,d _ _ p,d _ _ D,B,g,A,λi u H3 g3=>a_ (N _ _ ⟨d.trans g3,i,u,rfl⟩)⟩
 rintro x Q ⟨L,i,u,rfl⟩;refine bN ?_;refine⟨by show 4<=sizeLine;decide,λW H7 NB J X=>⟨_,rfl,a,_,_,_,rfl,rfl,aq.of (J _ _ (L _ _ hd)),eZ rfl,W,_,_,_,rfl,rfl,aq.of X,ew,?_⟩⟩;have e:=L.trans J;refine⟨_,rfl,_,rfl,_,rfl,_,rfl,_,rfl,a,_,_,_,rfl,rfl,aq.of (e _ _ hd),eZ rfl,_,rfl,o,n,b,d2,T,rfl,e _ _ p,e _ _ D,B,g,A,λj hj H8 G=>⟨by show 3<=sizeLine;decide,λff H9 v_ g9 oA=>?_⟩⟩;exact q k i j u hj ff H9 (e.free (G.free v_)) ((e.trans G).trans g9) oA (Qd t)
def K6(h:0<L.length):∃v,eG L (d % (L.length:Int))=U v/\v∈L:=by
 have m:=su (z:=d) h;obtain⟨k,e⟩:∃k:Nat,d % (L.length:Int)=(k:Int):=⟨(d % (L.length:Int)).toNat,by omega⟩;have a:k<L.length:=by omega
 exact⟨L[k],by exact e▸eZ (Yc a),Jl a⟩
def Zey(c:∀i,i<b.length->(av b i).length<=1000):∀v∈d_ b++[.str "stranger",.str "",.str "Q"],∃s:ar,v=.str s/\s.length<=1000:=by
 intro v m;rcases Yu.mp m with m|m
 ·obtain⟨i,a,e⟩:=ZC m;rw[uz] at a;exact⟨_,(Yn ((Yc _).symm.trans (SH a)))▸e.symm,c i a⟩
 ·simp at m;rcases m with rfl|rfl|rfl;·exact⟨_,rfl,by decide+kernel⟩
  ·exact⟨_,rfl,by decide+kernel⟩
  ·exact⟨_,rfl,by decide+kernel⟩
def z_(h:Paired Bd ds [a,b,c,d,e,g]):∃v w x y z t,ds=[v,w,x,y,z,t]/\Bd v a/\Bd y d/\Bd z e:=by
 cases h with|cons l h=>cases h with|cons k h=>cases h with|cons j h=>cases h with|cons i h=>cases h with|cons u h=>cases h with|cons m h=>
  cases h
  exact⟨_,_,_,_,_,_,rfl,l,i,u⟩
inductive Aj(z:Int)(h d j:Z)(n:Int)(l c:Z)(e i:bR V)(m:Hp)(b:St)(a:Hp):Prop
 |mk (t:Z) (k x y:ar) (g:bR V) (u:ai m a) (s:a t=U (.tup [.str k,.str x,.str y])) (r:k.length<=1000) (q:x.length<=1000) (p:y.length<=1000) (o:b=[U (.int z),U (.ref h),U (.ref d),U (.ref j),U (.int n),U (.ref l),U (.ref t),U (.ref c),g,e,i])
inductive U8(K:ah)(l:O V)(H:Hp)(Q:VK)(E:XK):Prop
 |mk (z:Int) (h g j:Z) (a:bA) (b e:O Int) (F:O Fc) (D:l=[.int z,.ref h,.ref g,.ref j,.int (b.length:Int)]) (u:H h=U (.lst (d_ a))) (t:H g=U (.dK (gn a))) (r:(a.map (·.1)).Nodup) (o:0<a.length) (n:a.length<=64) (m:∀i,i<a.length->(av a i).length<=1000) (B:FL H a j F) (A:∀c∈F,eB b e a.length c) (s:F.length<=64) (v:lq b e) (q:∀(p:Z) (k x y:ar) (d:Hp),ai H d->d p=U (.tup [.str k,.str x,.str y])->k.length<=1000->x.length<=1000->y.length<=1000->Q (.ref p) d)
abbrev Mg:O ar:=["_law_cell_here","_law_names","_law_sides","_law_facts","_law_size"]
def kT:aP ["_law_cell_here","_law_names","_law_sides","_law_facts","_law_size","_law_drawn","_law_fact_here","_law_strangers","_law_kind","_law_ties","_law_here"] Mg (aJ IG):=.aY
theorem ZiD(F:aM K "_law_any" "_law_any" IG f fd)(nE:HasFn P w K mg I 1 "_law_draws" yo (zB K))(Il:HasFn P w K mg I 2 "_law_fact" Ai SM)(bl:Bl mg):aB P w K mg I aL 3 f fd Mg (U8 K):=by
 refine F.o kT @λbw A outer vs Q E s H hr h=>?_;obtain⟨z,nl,sd,fa,ps,xs,ys,F,rfl,hn,hs,nd,p0,pm,sh,fF,fg,lX,gd,q⟩:=h;have hu:=hr.r8;have zh:=Il;refine⟨_,(aj (bh 5 kT.nd (aQ nE hr (aa (pv 0) (aa (cV (aa aw (aa aw (aa aw (aa aw (aa aw (aa aw ae))))))) ae)))) (aj (bh 6 kT.nd (aQ zh hr (aa (pv 1) (aa (pv 2) (aa (aZ rW (cV (aa aw ae)) (zt (B0 (K:=K) rfl) (pv 5) (uk aw) JZ)) (aa (pv 4) ae)))))) (aj (bh 7 kT.nd (aZ rW (pv 1) (cV (aa aV (aa aV (aa aV ae)))))) (aj (aR (bp nP (aI (iL K) (pv 5) aw) aw) (aj (bh 8 kT.nd (aI (iL K) (cV (aa aV (aa aV (aa aV (aa aV (aa aV (aa aV (aa aV (aa aV ae))))))))) (aI (iL K) (pv 5) aw))) (au (bh 6 kT.nd (cU (aa (pv 8) (aa (aI (iL K) (pv 7) (aZ dO (aI (iL K) (pv 5) aw) (cT K bl (pv 7)))) (aa (aI (iL K) (pv 7) (aZ dO (aI (iL K) (pv 5) aw) (cT K bl (pv 7)))) ae))))))) aW) (aj (aR (fY (lJ (K:=K) rfl) (aI (iL K) (pv 5) aw) (cU (aa aw (aa aw ae))) (by with_unfolding_all rfl)) (au (bh 6 kT.nd (cU (aa (aI (iT K) (pv 6) aw) (aa (aI (iL K) (pv 1) (aZ dO (aI (iL K) (pv 5) aw) (cT K bl (pv 1)))) (aa (aI (iL K) (pv 1) (aZ dO (aI (iL K) (pv 5) aw) (cT K bl (pv 1)))) ae)))))) aW) (aj (ZcP (i:=9) (x:="_law_one") (fr:=[]) (cl:=[]) rfl kT.nd rfl (z7 rfl) (.ir trivial trivial) (fX (K:=K) rfl (pv 3)) (λ_ _ _ _=>xu (bp k9 (aI (iT K) (pv 0) aw) aV)) (λ_ _ _ _=>(pv 0))) (aj (aR (PW.pt (pw_and (fY (lJ (K:=K) rfl) (aI (iL K) (pv 5) aw) (cU (aa aw (aa aw (aa aw ae)))) (by with_unfolding_all rfl)) (pw_and1 (bp (zD (K:=K) rfl (Tx hu)) (pv 9) (cV ae))))) (aj (bh 10 kT.nd (aI (iL K) (pv 9) (aZ dO (aI (iL K) (pv 5) aw) (cT K bl (pv 9))))) (aj (bh 6 kT.nd (zt Zhp (pv 10) (uk aw) JZ)) (aj (aR (bp bZ (aI (iL K) (pv 5) aw) aw) (au (bh 6 kT.nd (cU (aa (aI (iT K) (pv 10) aw) (aa (aI (iT K) (pv 10) aw) (aa (aI (iT K) (pv 10) aw) ae)))))) aW) (au (aR (bp bZ (aI (iL K) (pv 5) aw) aw) (au (bh 6 kT.nd (cU (aa (aI (iT K) (pv 10) aw) (aa (aI (iT K) (pv 10) aw) (aa (aI (iL K) (pv 1) (aZ dO (aI (iL K) (pv 5) aw) (cT K bl (pv 1)))) ae)))))) aW))))) aW) (aj (aR (bp bZ (aI (iL K) (pv 5) aw) aw) (au (bh 6 kT.nd (cU (aa (aI (iT K) (pv 6) aw) (aa (aI (iT K) (pv 6) aw) (aa (aI (iT K) (pv 6) aw) ae)))))) aW) (au (aH (pv 6))))))))))),?_⟩;have sz:(10000:Nat)<=sizeLine:=by rw[zr];decide
 refine zc3 λqU qE=>?_;refine bN ?_;refine⟨_,rfl,by show 6<=sizeLine;decide,λpp H1 np g1 hp=>⟨z,pp,[11,61,59,8,4,13],rfl,aq.of hp,by decide,by decide,λb ds H2 EC g2 h2 bd=>?_⟩⟩;obtain⟨d0,R,X,n,d4,d5,rfl,b0,b3,b4⟩:=z_ bd
 have gw:=g1.trans g2;refine bN ?_;refine⟨_,rfl,_,rfl,by show 1<=sizeLine;decide,λza H3 nza g3 hza=>?_⟩;refine⟨_,rfl,_,rfl,b,_,rfl,aq.of (g3 _ _ h2),λcu H4 ncu g4 hcu=>?_⟩;refine⟨za,cu,_,_,rfl,rfl,g4 _ _ hza,hcu,by show 1+5<=sizeLine;decide,λdr2 H5 Zmm g5 ZkW=>?_⟩;have tY:=((gw.trans g3).trans g4).trans g5;refine⟨_,rfl,nl,sd,dr2,ps,xs,ys,0,R,X,n,d4,[d5],rfl,tY _ _ hn,tY _ _ hs,nd,p0,eL pm (by decide),by rw[ZkW];rfl,b4,by decide,gd,λk i j hi hj ff H6 v_ g6 oA o=>?_⟩;have E3:=tY.trans g6;have h6:=(((g3.trans g4).trans g5).trans g6) _ _ h2;refine bN ?_;refine⟨_,rfl,by show 3<=sizeLine;decide,λsa H7 nsa g7 hsa=>⟨nl,sa,_,_,rfl,rfl,g7 _ _ (E3 _ _ hn),hsa,by rw[uz];show _+3<=_;omega,λsl H8 En g8 NT=>?_⟩⟩;dsimp only;have L:=Zey sh;subst qE;refine jV (Aj z nl sd fa (xs.length:Int) b sl aG aG H8) (λkN W=>?_) ?_
 ·refine⟨_,rfl,b,_,_,_,rfl,rfl,aq.of ((g7.trans g8) _ _ h6),rfl,_,_,rfl,rfl,_,rfl,bc (λ_=>?_) (λ_=>aT (W _ _ ⟨ff,k,_,_,aG,ai.refl _,(g7.trans g8) _ _ oA,o,sh i hi,sh j hj,rfl⟩))⟩;refine bN ?_;have kd:∃kd:ar,eG [V.str "mother",V.str "father",V.str "wed",V.str "sibling",V.str "said",V.str "wife",V.str "",V.str "Wed"] n=U (.str kd)/\kd.length<=1000:=by
   have:n=0\/n=1\/n=2\/n=3\/n=4\/n=5\/n=6\/n=7:=by unfold Bd at b3;omega
   rcases this with rfl|rfl|rfl|rfl|rfl|rfl|rfl|rfl<;>exact⟨_,rfl,by decide+kernel⟩
  obtain⟨kd,ek,lkd⟩:=kd;refine⟨by show 8<=sizeLine;decide,λkl H9 Zp J tF=>⟨_,rfl,b,_,_,_,rfl,rfl,aq.of (J _ _ ((g7.trans g8) _ _ h6)),rfl,kl,_,_,_,rfl,rfl,aq.of tF,ek,?_⟩⟩;have hL:0<(d_ ps++[V.str "stranger",V.str "",V.str "Q"]).length:=by rw[Yl];exact EX _
  obtain⟨v1,e1,m1⟩:=K6 (d:=R) hL;obtain⟨x1,rfl,lx1⟩:=L v1 m1;obtain⟨v2,e2,m2⟩:=K6 (d:=X) hL;obtain⟨x2,rfl,lx2⟩:=L v2 m2;have ZD:=aq.of (K:=K) (J _ _ ((g7.trans g8) _ _ h6));have oE:=aq.of (K:=K) (J _ _ NT);have pL:(0:Int)<((d_ ps++[V.str "stranger",V.str "",V.str "Q"]).length:Int):=Int.natCast_pos.mpr hL;exact⟨_,rfl,_,rfl,_,rfl,b,_,_,_,rfl,rfl,ZD,rfl,_,rfl,sl,_,rfl,.inl oE,_,_,rfl,rfl,pL,sl,_,_,_,rfl,rfl,oE,e1,_,rfl,_,rfl,b,_,_,_,rfl,rfl,ZD,rfl,_,rfl,sl,_,rfl,.inl oE,_,_,rfl,rfl,pL,sl,_,_,_,rfl,rfl,oE,e2,by show 3<=sizeLine;decide,λt HA nt B l=>a_ (W _ _ ⟨t,kd,x1,x2,_,J.trans B,l,lkd,lx1,lx2,rfl⟩)⟩
 rintro σ H9 ⟨t,k,x,y,r,J,l,o,u,N,rfl⟩;have rq:∀{H':Hp},ai H8 H'->aq K H' b ([d0,R,X,n,d4,d5].map V.int):=λg=>aq.of (g _ _ ((g7.trans g8) _ _ h6));have N3:∀{H':Hp},ai H8 H'->H' nl=U (.lst (d_ ps)):=λg=>g _ _ ((g7.trans g8) _ _ (E3 _ _ hn));have at_:∀z:Int,(z % (ps.length:Int)).toNat<ps.length:=λz=>by have:=su (z:=z) p0;omega
 refine jV (Aj z nl sd fa (xs.length:Int) b sl aG aG H8) (λkN W=>?_) ?_
 ·refine⟨_,rfl,b,_,_,_,rfl,rfl,rq J,rfl,by show 2<=sizeLine;decide,λq1 HA ZE B yN=>⟨q1,_,rfl,.inr (az.of yN),rfl,rfl,_,rfl,bc (λ_=>?_) (λ_=>aT (W _ _ ⟨t,k,x,y,r,J.trans B,B _ _ l,o,u,N,rfl⟩))⟩⟩;have yO:=J.trans B;refine⟨_,rfl,t,_,_,_,rfl,rfl,az.of (B _ _ l),rfl,?_⟩;refine Vt.uA (K:=K) (i:=1) (z:=R) rfl (N3 yO) p0 (λkk hk=>⟨_,rfl,b,_,_,_,rfl,rfl,rq yO,rfl,hk _ (ai.refl _)⟩) _ λHB G=>?_;have mn:=yO.trans G;refine Vt.uA (K:=K) (i:=1) (z:=X) rfl (N3 mn) p0 (λkk hk=>⟨_,rfl,b,_,_,_,rfl,rfl,rq mn,rfl,hk _ (ai.refl _)⟩) _ λHC T=>?_;exact⟨by show 3<=sizeLine;decide,λt2 HD wb gD oC=>a_ (W _ _ ⟨t2,k,_,_,r,(mn.trans T).trans gD,oC,o,sh _ (at_ R),sh _ (at_ X),rfl⟩)⟩
 clear l o u N J;rintro σ H9 ⟨t,k,x,y,r,J,l,o,u,N,rfl⟩;refine lN λqU qE=>?_;refine bN ?_;obtain⟨as,cY,dE⟩:FL H9 ps fa F:=by
  obtain⟨as,h1,h2⟩:=fF;have v9:=(E3.trans (g7.trans g8)).trans J;exact⟨as,v9 _ _ h1,L2.Paired.bI h2 λ_ _ ⟨z',e⟩=>⟨z',v9 _ _ e⟩⟩
 have al:=de dE;refine⟨_,rfl,fa,rfl,⟨_,aq.of cY⟩,λD hD=>?_⟩;refine ze (K:=K) (aq.of cY) (by rw[Ya];omega) hD (λi=>(F[i]?.map λc=>decide (c.k≠bj)).getD a8) (λi y _=>∃a c,as[i]?=U a/\F[i]?=U c/\c.k≠bj/\y=.ref a) (λ_ _ _ _ _ h=>h) (λi v hi HA B _ Kt Kf kt kf=>?_) λus HA B hA pr=>?_
 ·rw[Ye] at hi;obtain⟨a,ea,rfl⟩:∃a,as[i]?=U a/\V.ref a=v:=by
   cases e:as[i]? with
   |none=>rw[e] at hi;cases hi
   |some c=>rw[e] at hi;exact⟨c,rfl,Yn hi⟩
  obtain⟨c,ec,zz,hz⟩:=fU dE ea;have pb:(F[i]?.map λc=>decide (c.k≠bj)).getD a8=decide (c.k≠bj):=by rw[ec];rfl
  rw[pb] at kt kf;refine⟨_,rfl,a,_,_,_,rfl,rfl,az.of (B _ _ hz),rfl,rfl,_,rfl,?_⟩;have dd:(!decide (V.str c.k=V.str "said"))=decide (c.k≠bj):=by
   by_cases h:c.k=bj;·rw[ri (show V.str c.k=V.str "said" from congrArg V.str h),um (λz=>z h)];rfl
   ·rw[um (λz=>h (V.str.inj z)),ri h];rfl
  show(if(!decide (V.str c.k=V.str "said"))=af then _ else _);rw[dd];exact bc (λcc=>⟨_,rfl,kt _ HA cc (ai.refl _) ⟨a,c,ea,ec,QcQ cc,rfl⟩⟩) (λcc=>kf HA (by cases e:decide (c.k≠bj) with
   |true=>exact absurd e cc
   |false=>rfl) (ai.refl _))
 have all:∀v∈us,∃(a:Z) (zz:Int) (k x y:ar),v=.ref a/\HA a=U (.tup [.int zz,.str k,.str x,.str y])/\k.length<=1000/\x.length<=1000/\y.length<=1000:=by
  intro v m;obtain⟨i,hi,e⟩:=ZC m;obtain⟨i',_,a,c,ea,ec,nk,rfl⟩:=fU pr (show us[i]?=U v by rw[←e];exact Yc hi);obtain⟨c',ec',zz,hz⟩:=fU dE ea;obtain rfl:=Yn (ec.symm.trans ec');have g:=fg c (Yg ec);rw[iX nk] at hz;exact⟨a,zz,_,_,_,rfl,B _ _ hz,Qd (g.uL nk),sh _ g.ok.one,sh _ (g.ok.iy nk).1.2⟩
 have yO:=J.trans B;subst qE;refine jV (λσ H'=>∃kR,Aj z nl sd fa (xs.length:Int) b sl (U (.ref D)) kR H8 σ H') (λkN W=>?_) ?_
 ·refine⟨_,rfl,b,_,_,_,rfl,rfl,rq yO,rfl,by show 3<=sizeLine;decide,λq1 HB ZE G yN=>⟨q1,_,rfl,.inr (az.of yN),rfl,rfl,_,rfl,?_⟩⟩;have mn:=yO.trans G;refine bc (λ_=>⟨_,rfl,by show 0<=sizeLine;decide,λe0 HC vZ T q0=>⟨D,e0,_,rfl,rfl,aq.of (T _ _ (G _ _ hA)),aq.of q0,_,rfl,bc (λce=>?_) (λ_=>aT (W _ _ ⟨_,t,k,x,y,r,mn.trans T,T _ _ (G _ _ (B _ _ l)),o,u,N,rfl⟩))⟩⟩) (λ_=>bW (aT (W _ _ ⟨_,t,k,x,y,r,mn,G _ _ (B _ _ l),o,u,N,rfl⟩)));have ZF:=mn.trans T;have u0:0<us.length:=by
   cases e:us with
   |nil=>rw[e] at ce;cases ce
   |cons _ _=>exact EX _
  obtain⟨v2,e2,m2⟩:=K6 (d:=X) u0;obtain⟨a,zz,k',x',y',rfl,ha,N4,N5,ZG⟩:=all v2 m2;have ZH:=aq.of (K:=K) (T _ _ (G _ _ hA));refine bN ?_;refine⟨_,rfl,_,rfl,b,_,_,_,rfl,rfl,rq ZF,rfl,_,rfl,D,_,rfl,.inl ZH,_,_,rfl,rfl,Int.natCast_pos.mpr u0,D,_,_,_,rfl,rfl,ZH,e2,?_⟩;have ZI:=T _ _ (G _ _ ha);refine bN ?_;refine⟨_,rfl,_,rfl,a,_,rfl,az.of ZI,(λh=>absurd h.1 (show ¬HT.cy 4 0 (U 1)=0 by decide)),λp np=>?_⟩;obtain⟨HD,eD⟩:∃HD,HD=upd HC p (.tup [.str k',.str x',.str y']):=⟨_,rfl⟩;have gD:ai HC HD:=by rw[eD];exact cC np _
  have hp:HD p=U (.tup [.str k',.str x',.str y']):=by rw[eD];exact aU
  have eC:kC [V.int zz,V.str k',V.str x',V.str y'] (U 1) aG=[V.str k',V.str x',V.str y']:=rfl;rw[eC,←eD];have ZJ:=ZF.trans gD;have E4:=gD _ _ ZI;refine jV (Aj z nl sd fa (xs.length:Int) b sl (U (.ref D)) (U (.ref a)) HD) (λvU fS=>?_) ?_
  ·refine⟨_,rfl,b,_,_,_,rfl,rfl,rq ZJ,rfl,rfl,_,rfl,bc (λ_=>?_) (λ_=>aT (fS _ _ ⟨p,k',x',y',r,ai.refl _,hp,N4,N5,ZG,rfl⟩))⟩;exact⟨_,rfl,a,_,_,_,rfl,rfl,az.of E4,rfl,_,rfl,a,_,_,_,rfl,rfl,az.of E4,rfl,_,rfl,a,_,_,_,rfl,rfl,az.of E4,rfl,by show 3<=sizeLine;decide,λt2 HE wb gE oC=>a_ (fS _ _ ⟨t2,k',y',x',r,gE,oC,N4,ZG,N5,rfl⟩)⟩
  rintro σ HE ⟨t,k,x,y,r,gE,l,o,u,N,rfl⟩;have Bh:=ZJ.trans gE;refine⟨_,rfl,b,_,_,_,rfl,rfl,rq Bh,rfl,rfl,_,rfl,bc (λ_=>?_) (λ_=>aT (W _ _ ⟨_,t,k,x,y,r,Bh,l,o,u,N,rfl⟩))⟩;have ZK:=gE _ _ E4;refine⟨_,rfl,a,_,_,_,rfl,rfl,az.of ZK,rfl,_,rfl,a,_,_,_,rfl,rfl,az.of ZK,rfl,?_⟩;refine Vt.uA (K:=K) (i:=1) (z:=R) rfl (N3 Bh) p0 (λkk hk=>⟨_,rfl,b,_,_,_,rfl,rfl,rq Bh,rfl,hk _ (ai.refl _)⟩) _ λHF gF=>?_;exact⟨by show 3<=sizeLine;decide,λt2 HG wb gG oC=>a_ (W _ _ ⟨_,t2,k',x',_,r,(Bh.trans gF).trans gG,oC,N4,N5,sh _ (at_ R),rfl⟩)⟩
 rintro σ HB ⟨kR,t,k,x,y,r,G,l,o,u,N,rfl⟩;have g0:ai H H8:=E3.trans (g7.trans g8);refine jV (Aj z nl sd fa (xs.length:Int) b sl (U (.ref D)) kR H8) (λvU fS=>?_) ?_
 ·refine⟨_,rfl,b,_,_,_,rfl,rfl,rq G,rfl,rfl,_,rfl,bc (λ_=>?_) (λ_=>aT (fS _ _ ⟨t,k,x,y,r,G,l,o,u,N,rfl⟩))⟩;exact⟨_,rfl,t,_,_,_,rfl,rfl,az.of l,rfl,_,rfl,t,_,_,_,rfl,rfl,az.of l,rfl,_,rfl,t,_,_,_,rfl,rfl,az.of l,rfl,by show 3<=sizeLine;decide,λt2 HE wb gE oC=>a_ (fS _ _ ⟨t2,k,x,x,r,G.trans gE,oC,o,u,u,rfl⟩)⟩
 rintro σ HC ⟨t,k,x,y,r,T,l,o,u,N,rfl⟩;exact⟨_,rfl,q t k x y HC (g0.trans T) l o u N⟩
def E5:Key->Dt
 |.inl i=>.int i
 |.inr z=>.str z
def ZL(a:bA)(b:O (Nat×Fc)):Dt:=.lst (b.map λp=>.tup ((eS a p.1 p.2).map E5))
def ZiE(H:Hp)(m:Nat)(k:Key):At H m (kV k) (E5 k):=by
 cases k<;>(unfold E5 At;rfl)
theorem SN(H:Hp)(m:Nat):∀a:O Key,Paired (At H m) (a.map kV) (a.map E5)
 |[]=>.nil
 |k::a=>.cons (ZiE H m k) (SN H m a)
theorem SO(h:H p=U (.lst (as.map V.ref)))(b:Paired (dP H a) as fs)(l:fs.length<=1000):At H 3 (.ref p) (ZL a fs):=by
 refine⟨p,_,rfl,h,by rwa[Ya],?_⟩;clear h l;induction b with
 |nil=>exact .nil
 |cons e _ c=>
  exact .cons ⟨_,_,rfl,e,by show 4<=1000;decide,SN H 1 _⟩ c
def Zju{fs e:O (Nat×Fc)}(g:e.Perm fs)(d:(e.map (·.1)).Pairwise (·<·))(c:(fs.map (·.1)).Pairwise (·<·)):e=fs:=by
 rw[Wr] at d c;exact YC (λa b _ _ d c=>by omega) d c g
def SQ{a:O Int}(h:H p=U (.lst (a.map V.int)))(l:a.length<=1000):At H 3 (.ref p) (.lst (a.map Dt.int)):=ZhW h (by rwa[Ya]) (RL a)
def Rl(F:O Fc)(c:n<=8)(i:Nat):(dG F n i).length<=1000:=by
 have:=wB (n:=n) (zw F n i).2 λa b=>(rO.mp b).1;omega
def SR(a:(k,d)∈ie xs c):dM d9 k=af:=by
 obtain⟨r,b,_⟩:=ua a;unfold dM;rw[b];rfl
def ZiF{m f w s:Z}:(aX (oY m f w s) (.inr k)).isSome=dM d9 k:=by
 rw[Wd,zy];constructor
 ·intro h;have:k="mother"\/k="father"\/k="wed"\/k="sibling":=by simpa[oY] using h
  rcases this with rfl|rfl|rfl|rfl<;>rfl
 ·intro h;obtain⟨a,h⟩:=Pd (xs:=[]) (ys:=[]) h;simp at h;rcases h with⟨rfl,_⟩|⟨rfl,_⟩|⟨rfl,_⟩|⟨rfl,_⟩<;>simp[oY]
def nm_in:eQ (.str x) (d_ a)=af↔x∈a.map (·.1):=by
 have e:d_ a=(a.map (·.1)).map V.str:=by unfold d_;rw[Y7];rfl
 rw[e,DD]
def FL.va(w:bP H m l g)(j:bb H C CL CJ l xs o b)(h:FL H d a F)(n:a∉l.fp):FL m d a F/\a∉g.fp:=by
 obtain⟨k,c,i⟩:=h;exact⟨⟨k,(w.off c n).1,L2.Paired.bI i λ_ _ ⟨z,e⟩=>⟨z,w.bO j e⟩⟩,(w.off c n).2⟩
def Zez:(kC xs (U 4) (U 50)).length<=59:=by
 unfold kC;have e:HT.cy xs.length xs.length (U 50)=min 50 xs.length:=HT.Rx _ _ 50;exact Yz (List.length_take_le _ _) (by rw[e];omega)
def ZfW(c:lq xs b)(a:(k,d)∈ie xs b)(e:i<m)(g:j<m):eB xs b m ⟨k,i,(j:Int),d⟩:=
 ⟨⟨e,λ_=>⟨⟨by show(0:Int)<=(j:Int);exact nV _,by show((j:Int)).toNat<_;omega⟩,(zx c a).1,(zx c a).2⟩⟩,.inr a,λz=>absurd z (zc a)⟩
def ZfX(a:bA):(d_ a).all jw=af:=by
 rw[Wq];intro v b;obtain⟨p,_,rfl⟩:=Yf.mp b;rfl
def C3(K:ah):Sp:=λc H Q _=>∃(a:Z) (b:O Int),c=[.ref a]/\aq K H a (b.map V.int)/\b.length<=63/\∀d,Q (.bl af) d
def N6(d m a b h k c p:Z)(n z q:Int)(j o l e i g:bR V):St:=[U (.ref d),U (.int n),U (.ref m),U (.ref a),U (.ref b),U (.int z),U (.ref h),U (.ref k),U (.ref c),U (.ref p),U (.int q),j,o,l,e,i,g]
abbrev DL:O ar:=["_law_script"]
def gW:aP ["_law_script","_law_size","_law_mother","_law_wife","_law_turns_here","_law_salt","_law_book","_law_names","_law_sides","_law_facts","_law_after_here","_law_count","_law_cell_here","_law_fact_here","_law_word_here","_law_due","_law_rows"] DL (aJ uI):=.aY
inductive zQ9(C CL CJ:Z)(G:Hp)(l:BL)(r o:O Int)(z:Nat)(T:Z)(b:BS)(W i j t N m s h:Z)(n:Int)(X:St)(H:Hp):Prop
 |mk (u:BL) (a c d e g:bR V) (p:bP G H l u) (q:eO C CL CJ H r o z 59 T u b W i j t) (k:X=N6 N m s T h W i j n z b.co (U (.int (eV b.F r.length b.ps.length))) a c d e g)
inductive zW9(b:BS)(G:Hp)(k j i:ar)(N m l T h W o r:Z)(n z q:Int)(c d t f g:bR V)(X:St)(H:Hp):Prop
 |mk (p:ai G H) (a:ar) (w:(a="no word"/\dM d9 k=a8)\/(a="no person"/\dM d9 k=af/\(j∉b.ps.map (·.1)\/i∉b.ps.map (·.1)))\/(a=""/\dM d9 k=af/\j∈b.ps.map (·.1)/\i∈b.ps.map (·.1))) (e:X=N6 N m l T h W o r n z q c d t (U (.str a)) f g)
theorem ZiG(F:aM K "law" "law" uI f fd)(qc:HasFn P w K mg I 1 "_law_cell" Eb (Tg K))(nE:HasFn P w K mg I 1 "_law_draws" yo (zB K))(BR:HasFn P w K mg I 2 "_law_row" LZ UZ)(Hi:HasFn P w K mg I 2 "_law_turns" L4 Sw)(nG:HasFn P w K mg I 4 "_law_same" pH (uC 4))(qb:HasFn P w K mg I 3 "_law_room" Ah CM)(Im:HasFn P w K mg I 15 "_law_grow" Mc (Uh C CL CJ))(IY:HasFn P w K mg I 3 "_law_any" Mg (U8 K))(Bu:HasFn P w K mg I 4 "_law_dealt" Me Rf)(Bv:HasFn P w K mg I 12 "_law_asked" ph (Uj C CL CJ))(Bk:HasFn P w K mg I 12 "_law_counted" ph (Rk C CL CJ))(BG:HasFn P w K mg I 9 "dealings" ["hearth"] (Pb C CL CJ))
  (IZ:HasFn P w K mg I 7 "land_of" Di (QH CL))(JX:xJ P w K mg I 1 "Hearth" C Dv (Sm C CL CJ))(Gp:b_ P w K mg I 1 "kept" C fP (TX C CL CJ))(bl:Bl mg):aB P w K mg I (eK P w) 16 f fd DL (C3 K):=by
 refine F.AB gW (λvs H Q E h=>?_) (λbw A outer s H vs Q E g h=>?_)
 ·obtain⟨a,ns,rfl,_⟩:=h;rfl
 obtain⟨a,ns,rfl,hs,hlen,q⟩:=h;have hu:=g.r8;refine⟨_,(aj (bh 0 gW.nd (zt (B0 (K:=K) rfl) (pv 0) JZ (uk aw))) (aj (bh 1 gW.nd (aZ iG aw (aZ dO (aQ qc g (aa (pv 0) (aa aw ae))) aw))) (aj (bh 2 gW.nd (aQ BR g (aa (aQ qc g (aa (pv 0) (aa aw ae))) (aa (pv 1) ae)))) (aj (bh 3 gW.nd (aQ BR g (aa (aQ qc g (aa (pv 0) (aa aw ae))) (aa (pv 1) ae)))) (aj (bh 4 gW.nd (aQ Hi g (aa (pv 2) (aa (pv 3) ae)))) (aj (bh 5 gW.nd (aZ dO (aQ qc g (aa (pv 0) (aa aw ae))) aw)) (aj (bh 6 gW.nd (Lg JX g (by decide) rfl (aa (aQ IZ g (aa (pv 2) (aa (pv 3) ae))) ae))) (aj (oU (aQ Im g (aa (pv 6) (aa (zt (B0 (K:=K) rfl) (pv 0) (uk aw) (uk aw)) (aa (pv 4) (aa (pv 5) ae))))) (jt (K:=K) (n:=4) rfl rfl (bX (bG 7 gW.nd) (bX (bG 8 gW.nd) (bX (bG 9 gW.nd) (bX (bG 10 gW.nd) jr)))))) (aj (aR (bp (zD (K:=K) rfl (KG hu)) (pv 7) (cV ae)) (au (aH (aQ nG g (aa (aQ BG g (aa (pv 6) ae)) (aa aw ae))))) aW) (aj (bh 11 gW.nd (aQ Bu g (aa (pv 9) (aa (pv 4) (aa (pv 7) ae))))) (aj (ic ZjW rfl (fX (K:=K) rfl (aZ rW (zt (B0 (K:=K) rfl) (pv 0) (uk aw) (uk aw)) (cV (aa (aZ iG (aQ qc g (aa (pv 0) (aa aw ae))) aw) (aa (aZ iG (aQ qc g (aa (pv 0) (aa aw ae))) aw) (aa (aZ iG (aQ qc g (aa (pv 0) (aa aw ae))) aw) ae)))))) (bG 12 gW.nd) (aj (bh 13 gW.nd (aQ IY g (aa (pv 12) (aa (pv 7) (aa (pv 8) (aa (pv 9) (aa (pv 1) ae))))))) (aj (bh 14 gW.nd aV) (aj (aR (jU (mG (bF g) (aI (iT K) (pv 13) aw) (pv 4)) (by with_unfolding_all rfl)) (au (bh 14 gW.nd aV)) (au (aR (PW.pt (pw_or (fY (xD (K:=K) rfl) (aI (iT K) (pv 13) aw) (pv 7) (by with_unfolding_all rfl)) (pw_or1 (fY (xD (K:=K) rfl) (aI (iT K) (pv 13) aw) (pv 7) (by with_unfolding_all rfl))))) (au (bh 14 gW.nd aV)) aW))) (aj (aR (bp k9 (pv 14) aV) (aj (bh 15 gW.nd (cU (aa (pv 14) (aa (eY bZ (pv 14) aV) (aa (eY bZ (pv 14) aV) ae))))) (aj (aR (PW.pt (pw_or (ju (e_ (aQ nG g (aa (aQ Bv g (aa (pv 6) (aa (pv 13) ae))) (aa (pv 15) ae))))) (pw_or1 (ju (e_ (aQ nG g (aa (aQ Bk g (aa (pv 6) (aa (pv 13) ae))) (aa (pv 15) ae)))))))) (au (aH ku)) aW) (au ZbZ))) aW) (aj (bh 16 gW.nd (aZ rW (pv 9) (cV (aa (aZ RA (cU (aa (pv 10) ae)) (pv 13)) ae)))) (aj (aR (ju (e_ (aQ nG g (aa (aQ Bv g (aa (pv 6) (aa (pv 13) ae))) (aa (aQ qb g (aa (pv 16) (aa (pv 4) (aa (aI (iT K) (pv 13) aw) ae)))) ae))))) (au (aH ku)) aW) (au (aR (ju (e_ (aQ nG g (aa (aQ Bk g (aa (pv 6) (aa (pv 13) ae))) (aa (aQ Bu g (aa (pv 16) (aa (pv 4) (aa (pv 7) ae)))) ae))))) (au (aH ku)) aW))))))))) (au (aH (qp (aQ nG g (aa (qt Gp g (by decide) (pv 6)) (aa (pv 9) ae))) (nM (aQ nG g (aa (aQ BG g (aa (pv 6) ae)) (aa (pv 11) ae)))))))))))))))))),?_⟩;refine zc7 λqU qE=>?_;have sz:(10000:Nat)<=sizeLine:=by rw[zr];decide
 obtain⟨D,em⟩:=BW ns aG (U 63);have lms:D.length<=ns.length:=by
  have:=Bn (ns.map V.int) aG (U 63);rw[em,Ya,Ya] at this;exact this
 obtain⟨cs,ec⟩:=BW D (U 4) aG;have lcs:cs.length<=59:=by
  have:=ZfQ (xs:=D.map V.int) (by rw[Ya];exact eL lms hlen);rw[ec,Ya] at this;exact this
 refine bN ?_;refine⟨_,rfl,_,rfl,a,_,rfl,hs,λN H0 n1 g0 yP=>?_⟩;rw[em] at yP;refine bN ?_;refine⟨_,rfl,N,D,0,rfl,aq.of yP,Int.le_refl 0,λc0=>⟨_,_,rfl,rfl,(by show(0:Int)<7;decide),_,_,rfl,rfl,?_⟩⟩;try dsimp only
 have m0:=Jg c0 (show(7:Int)≠0 by decide);have m1:=W5 c0 (show(0:Int)<7 by decide);obtain⟨n,en⟩:∃n:Nat,2+c0 % 7=(n:Int):=⟨(2+c0 % 7).toNat,by omega⟩;rw[en];have n2:2<=n:=by omega
 have n8:n<=8:=by omega
 refine bN ?_;refine⟨_,rfl,N,D,1,rfl,aq.of yP,by decide,λc1=>⟨_,rfl,c1,n,rfl,hT (rz _) n2,eL n8 (by decide),λm r H1 nm g1 hM px=>?_⟩⟩;refine bN ?_;refine⟨_,rfl,N,D,2,rfl,aq.of (g1 _ _ yP),by decide,λc2=>⟨_,rfl,c2,n,rfl,hT (rz _) n2,eL n8 (by decide),λwi ys H2 nw g2 hW py=>?_⟩⟩;have lx:r.length=n:=by rw[px.length_eq,fN]
 have ly:ys.length=n:=by rw[py.length_eq,fN]
 have gd:lq r ys:=⟨uo px,uo py,by omega,by omega,eL (jn lx) n8⟩;refine bN ?_;refine⟨_,rfl,_,rfl,m,wi,r,ys,rfl,g2 _ _ hM,hW,gd,λT H3 ntd g3 ht=>?_⟩;have kM:=(g1.trans g2).trans g3;refine bN ?_;refine⟨_,rfl,N,D,3,rfl,aq.of (kM _ _ yP),by decide,λc3=>⟨_,_,rfl,rfl,(by show(0:Int)<97;decide),?_⟩⟩;try dsimp only
 have z0:=Jg c3 (show(97:Int)≠0 by decide);have z1:=W5 c3 (show(0:Int)<97 by decide);obtain⟨z,ez⟩:∃z:Nat,c3 % 97=(z:Int):=⟨(c3 % 97).toNat,my (uG z0)⟩;rw[ez];have hz:z<97:=by omega
 refine bN ?_;refine⟨_,rfl,_,rfl,m,wi,r,ys,rfl,g3 _ _ (g2 _ _ hM),g3 _ _ hW,gd.1,gd.2.1,gd.2.2.1,gd.2.2.2.1,gd.2.2.2.2,λLd H4 g4 la=>λx dx nx AQ nd=>?_⟩;have AR:upd H4 dx (.own x) x=aG:=by rw[aK (λz=>nd z.symm)];exact nx
 obtain⟨H5,e5⟩:∃H5,H5=upd (upd H4 dx (.own x)) x (.ins C dx []):=⟨_,rfl⟩;have g5:ai H4 H5:=by rw[e5];exact(cC AQ _).trans (cC AR _)
 have hx5:H5 x=U (.ins C dx []):=by rw[e5];exact aU
 rw[←e5];refine⟨x,dx,Ld,r,ys,rfl,hx5,la.same g5,λl H6 eh EF b6 ba=>⟨rfl,?_⟩⟩;subst eh;have keep:∀{a:Z} {o:HO},H4 a=U o->H6 a=U o/\a∉l.fp:=λ{a o} e=>by
  have na:a≠l.h:=cA e nx;refine⟨b6 _ _ (g5 _ _ e) na,λz=>?_⟩;have:=EF a z na;rw[g5 _ _ e] at this;cases this
 have N7:=g4 _ _ (kM _ _ yP);have ht4:=ht.same g4;obtain⟨tm,tf,tw,ts,eX,q1,q2,q3,q4⟩:=ht4;have ht6:gu H6 T r ys:=⟨tm,tf,tw,ts,(keep eX).1,(keep q1).1,(keep q2).1,(keep q3).1,(keep q4).1⟩;obtain⟨ZM,ZN⟩:=BW D (U 4) (U 50);have l46:ZM.length<=59:=by
  have:=Zez (xs:=D.map V.int);rw[ZN,Ya] at this;exact this
 subst qE;refine⟨_,rfl,_,rfl,_,rfl,_,rfl,N,_,rfl,aq.of (keep N7).1,λca H7 nca g7 hca=>⟨_,rfl,_,rfl,r,ys,z,ca,T,l,⟨[],[],0,[],[]⟩,ZM,rfl,ba.same g7,rfl,gd,by rw[hca,ZN],ba.fresh nca,ht6.same g7,(keep eX).2,hz,l46,λl2 b W sd fl st H8 wt si=>?_⟩⟩;refine⟨st,_,rfl,az.of si.tup,rfl,_,_,rfl,a_ ⟨_,_,rfl,a_ ⟨_,_,rfl,a_ ⟨_,_,rfl,a_ ⟨rfl,?_⟩⟩⟩⟩⟩;dsimp only;have eh:=wt.h;have Zo:=si.ok.m;have ok:=si.ok;have Bi:=gd.2.2.2.2;have f59:b.F.length<=59:=by
  have:=si.cf;show(b.fs.map (·.2)).length<=59;rw[Ya];omega
 obtain⟨N0,ns8⟩:=wt.off (g7 _ _ (keep N7).1) (keep N7).2;have tZ:∀{H:Hp} {p:Z} {a:ar} {c d:cm},H p=U (.tup [.str a,.bl c,.bl d])->At H 3 (.ref p) (.tup [.str a,.bl c,.bl d]):=λh=>ZhV h (by show 3<=1000;decide) (.cons (ZhU _) (.cons (UH _) (.cons (UH _) .nil)));refine⟨_,rfl,by show 0<=sizeLine;decide,λe0 H9 vZ g9 q0=>⟨W,e0,_,rfl,rfl,aq.of (g9 _ _ si.names),aq.of q0,_,rfl,bc (λce=>?_) (λce=>aT ?_)⟩⟩
 ·have p0:b.ps.length=0:=by
   cases e:b.ps with
   |nil=>rfl
   |cons _ _=>rw[e] at ce;cases ce
  have s9:=si.same g9;exact⟨_,rfl,l2,b,r,ys,by rw[eh];rfl,s9.ba,ok,λu HA wA baA=>⟨_,_,.int 1,3,rfl,rfl,by rw[p0];exact r9,r9,λHB _=>q HB⟩⟩
 have p0:0<b.ps.length:=by
  cases e:b.ps with
  |nil=>rw[e] at ce;exact absurd rfl ce
  |cons _ _=>exact EX _
 have s9:=si.same g9;refine bN ?_;refine⟨_,rfl,_,rfl,_,rfl,fl,T,W,b.ps,r,ys,b.F,rfl,s9.FL,s9.turns,ok.nm,s9.good.1,Bi,eL Zo (by decide),s9.good.2,s9.names,λHA gA=>?_⟩;have sA:=s9.same gA;have ZO:=gA _ _ (g9 _ _ N0);refine ib (λX H'=>∃(u:BL) (iV iW rA pW pX:bR V),u.h=l.h/\eO C CL CJ H' r ys z 59 T u b W sd fl st/\X=N6 N m wi T l.h W sd fl n z b.co (U (.int (eV b.F r.length b.ps.length))) iV iW rA pW pX) (λkN dD=>?_) ?_
 ·obtain⟨N8,ZP⟩:=BW D (U 50) (U 60);have l60:N8.length<=63:=by
   have:=Bn (D.map V.int) (U 50) (U 60);rw[ZP,Ya,Ya] at this;omega
  refine⟨_,rfl,_,rfl,_,rfl,N,_,rfl,aq.of ZO,λq1 HB ZE gB yN=>?_⟩;rw[ZP] at yN;have N9:=gB _ _ ZO;refine⟨_,rfl,N,D,4,rfl,aq.of N9,by decide,λc4=>⟨_,_,rfl,rfl,_,rfl,N,D,5,rfl,aq.of N9,by decide,λc5=>⟨_,_,rfl,rfl,_,rfl,N,D,6,rfl,aq.of N9,by decide,λc6=>⟨_,_,rfl,rfl,by show 3<=sizeLine;decide,λq2 HC nq2 gC hq2=>⟨q1,q2,_,_,rfl,rfl,gC _ _ yN,hq2,by rw[Ya];show _+3<=_;omega,λq3 HD nq3 gD hq3=>?_⟩⟩⟩⟩⟩;have hq:HD q3=U (.lst ((N8++[c4+1,c5+2,c6+3]).map V.int)):=by rw[hq3,Yo];rfl
  have gAD:=(gB.trans gC).trans gD;have sD:=sA.same gAD;have nq:q3∉l2.fp:=(sA.same (gB.trans gC)).ba.fresh nq3;refine⟨q3,rfl,⟨_,aq.of hq⟩,kW (K:=K) (a:=q3) (xs:=(N8++[c4+1,c5+2,c6+3]).map V.int) (λj=>zQ9 C CL CJ HD l2 r ys z T b W sd fl st N m wi l.h n)
   ⟨l2,aG,aG,aG,aG,aG,bP.of (ai.refl _),sD,rfl⟩ (λj X H' _ ⟨_,_,_,_,_,_,w3,_,_⟩=>aq.of (w3.off hq nq).1) ?_ ?_⟩
  ·rintro j v X HE hj ⟨u,iV,iW,rA,pW,pX,wE,sE,rfl⟩;obtain⟨x,rfl,hx⟩:=nJ hj;refine a_ ?_;refine lN λqU qE=>?_;refine bN ?_;have e3:u.h=l.h:=wE.h.trans eh;refine⟨_,rfl,_,rfl,_,rfl,_,rfl,_,rfl,x,W,sd,fl,b.ps,r,ys,b.F,by rw[lx];rfl,sE.names,sE.dq,ok.nm,p0,Zo,λi hi=>sE.len (by decide) hi,sE.FL,sE.good.1,sE.good.2,gd,λt k y1 y2 HF gF ht lk yQ yR=>?_⟩;have sF:=sE.same gF;subst qE;refine bN ?_;refine ib (zW9 b HF k y1 y2 N m wi T l.h W sd fl n z b.co (U (.int (eV b.F r.length b.ps.length))) (U (.int x)) (U (.ref t)) pW pX) (λvU fS=>?_) ?_
   ·obtain⟨tm,tf,tw,ts,ZkX,_⟩:=id sF.turns;refine⟨_,rfl,t,_,_,_,rfl,rfl,az.of ht,rfl,_,rfl,T,_,rfl,dh ZkX rfl,_,rfl,?_⟩;have hh:=ZiF (k:=k) (m:=tm) (f:=tf) (w:=tw) (s:=ts);cases ev:aX (oY tm tf tw ts) (.inr k) with
    |none=>
     rw[ev] at hh;exact cZ (a_ (fS _ _ ⟨ai.refl _,"no word",.inl ⟨rfl,hh.symm⟩,rfl⟩))
    |some y=>
     rw[ev] at hh;refine bW ?_;have nf:=ZfX b.ps;refine(Bt.or (a:=!eQ (.str y1) (d_ b.ps)) (b:=!eQ (.str y2) (d_ b.ps)) (λkk G=>⟨_,rfl,t,_,_,_,rfl,rfl,az.of ht,rfl,_,rfl,W,_,rfl,.inl (aq.of sF.names),rfl,nf,_,rfl,G _ (ai.refl _)⟩) λHG _ gG kk G=>⟨_,rfl,t,_,_,_,rfl,rfl,az.of (gG _ _ ht),rfl,_,rfl,W,_,rfl,.inl (aq.of (gG _ _ sF.names)),rfl,nf,_,rfl,G _ (ai.refl _)⟩) _ λHG gG=>?_;refine bc (λL=>a_ (fS _ _ ⟨gG,"no person",.inr (.inl ⟨rfl,hh.symm,?_⟩),rfl⟩)) (λL=>aT (fS _ _ ⟨gG,"",.inr (.inr ⟨rfl,hh.symm,?_,?_⟩),rfl⟩))
     ·rw[J9,ZA,ZA] at L;rcases L with h|h;·exact .inl λm=>by rw[nm_in.mpr m] at h;cases h
      ·exact .inr λm=>by rw[nm_in.mpr m] at h;cases h
     ·refine nm_in.mp ?_;cases e:eQ (.str y1) (d_ b.ps) with
      |true=>rfl
      |false=>rw[e] at L;exact absurd rfl L
     ·refine nm_in.mp ?_;cases e:eQ (.str y2) (d_ b.ps) with
      |true=>rfl
      |false=>rw[e,Bool.not_false,Bool.or_true] at L;exact absurd rfl L
   rintro X HG ⟨gG,wd,hw,rfl⟩;have sG:=sF.same gG;have wc:=gG _ _ ht;have wG:=(wE.same gF).same gG;rcases hw with⟨rfl,no⟩|⟨rfl,R,no⟩|⟨rfl,R,N_,Oa⟩
   ·refine lN λqU _=>?_;refine⟨_,rfl,rfl,_,rfl,bc (λ_=>?_) (λL=>absurd (by rw[dY];decide+kernel) L)⟩;refine bN ?_;refine⟨_,rfl,_,rfl,rfl,_,rfl,rfl,by show 3<=sizeLine;decide,λdu HI EA J Ob=>?_⟩;have DM:HI du=U (.tup [.str "no word",.bl af,.bl a8]):=by
     rw[Ob,ri rfl,show decide (V.str "no word"=V.str "no person")=a8 by rw[dY];decide+kernel]
    have sI:=sG.same J;refine⟨_,rfl,_,rfl,u,b,r,ys,k,y1,y2,t,by rw[e3];rfl,J _ _ wc,sI.ba,ok,lk,yQ,yR,λi j B G=>absurd (no.symm.trans (SR G)) (by decide),λ_ p1 HJ gJ lK=>?_,λh=>absurd (no.symm.trans h) (by decide)⟩;refine⟨_,rfl,_,_,.tup [.str "no word",.bl af,.bl a8],3,rfl,rfl,tZ lK,tZ (gJ _ _ DM),λHK gK=>⟨_,rfl,bW ?_⟩⟩;have E6:=gJ.trans gK;refine⟨_,rfl,_,rfl,u,b,r,ys,k,y1,y2,t,by rw[e3];rfl,E6 _ _ (J _ _ wc),(sI.same E6).ba,ok,lk,yQ,yR,λi j B G=>absurd (no.symm.trans (SR G)) (by decide),λ_ p2 HL gL dJ=>?_,λh=>absurd (no.symm.trans h) (by decide)⟩;refine⟨_,rfl,_,_,.tup [.str "no word",.bl af,.bl a8],3,rfl,rfl,tZ dJ,tZ (gL _ _ (E6 _ _ DM)),λHM gM=>⟨_,rfl,bW (aT ?_)⟩⟩;have ZQ:=J.trans (E6.trans (gL.trans gM));exact⟨u,_,_,_,_,_,wG.same ZQ,sG.same ZQ,rfl⟩
   ·refine lN λqU _=>?_;refine⟨_,rfl,rfl,_,rfl,bc (λ_=>?_) (λL=>absurd (by rw[dY];decide+kernel) L)⟩;refine bN ?_;refine⟨_,rfl,_,rfl,rfl,_,rfl,rfl,by show 3<=sizeLine;decide,λdu HI EA J Ob=>?_⟩;have DM:HI du=U (.tup [.str "no person",.bl a8,.bl af]):=by
     rw[Ob,show decide (V.str "no person"=V.str "no word")=a8 by rw[dY];decide+kernel,ri rfl]
    have sI:=sG.same J;refine⟨_,rfl,_,rfl,u,b,r,ys,k,y1,y2,t,by rw[e3];rfl,J _ _ wc,sI.ba,ok,lk,yQ,yR,λi j B _ hi hj e1 e2=>(no.elim (λh=>absurd (by rw[e1];exact uw hi) h) (λh=>absurd (by rw[e2];exact uw hj) h)),λh=>absurd (R.symm.trans h) (by decide),λ_ _ l4 H1 p1 HJ w4 Nx gJ lK=>?_⟩;have s4:=sI.va w4 Nx;have ZR:=gJ _ _ (w4.bO sI.ba DM);have t4:=gJ _ _ (w4.bO sI.ba (J _ _ wc));refine⟨_,rfl,_,_,.tup [.str "no person",.bl a8,.bl af],3,rfl,rfl,tZ lK,tZ ZR,λHK gK=>⟨_,rfl,bW ?_⟩⟩;have sK:=(s4.same gJ).same gK;refine⟨_,rfl,_,rfl,l4,b,r,ys,k,y1,y2,t,by rw[w4.h,e3];rfl,gK _ _ t4,sK.ba,ok,lk,yQ,yR,λi j B _ hi hj e1 e2=>(no.elim (λh=>absurd (by rw[e1];exact uw hi) h) (λh=>absurd (by rw[e2];exact uw hj) h)),λh=>absurd (R.symm.trans h) (by decide),λ_ _ l5 H2 p2 HL w5 ba5 gL dJ=>?_⟩;have s5:=sK.va w5 ba5;have du5:=gL _ _ (w5.bO sK.ba (gK _ _ ZR));refine⟨_,rfl,_,_,.tup [.str "no person",.bl a8,.bl af],3,rfl,rfl,tZ dJ,tZ du5,λHM gM=>⟨_,rfl,bW (aT ?_)⟩⟩;exact⟨l5,_,_,_,_,_,((((wG.same J).trans w4).same (gJ.trans gK)).trans w5).same (gL.trans gM),s5.same (gL.trans gM),rfl⟩
   ·refine⟨_,rfl,rfl,_,rfl,bc (λL=>absurd L (by rw[dY];decide+kernel)) (λ_=>aT ?_)⟩;obtain⟨i,hi,rfl⟩:=K5 N_;obtain⟨j',rp,rfl⟩:=K5 Oa;obtain⟨as,pV,dE⟩:=sG.FL;have al:=de dE;refine lN λqU qE=>?_;refine bN ?_;refine⟨_,rfl,_,rfl,by show 1<=sizeLine;decide,λt1 HI nt1 J Be=>⟨_,rfl,t1,t,_,_,rfl,rfl,az.of Be,az.of (J _ _ wc),by simp,by show 1+3<=sizeLine;decide,λe=>(by cases e),λ_ t2 wb=>?_⟩⟩;obtain⟨HJ,eJ⟩:∃HJ,HJ=upd HI t2 (.tup ([V.int (b.co:Int)]++[V.str k,V.str (av b.ps i),V.str (av b.ps j')])):=⟨_,rfl⟩;have gJ:ai HI HJ:=by rw[eJ];exact cC wb _
    have oC:HJ t2=U (.tup [.int (b.co:Int),.str k,.str (av b.ps i),.str (av b.ps j')]):=by rw[eJ,aU];rfl
    rw[←eJ];refine⟨by show 1<=sizeLine;decide,λr1 HK nr1 gK hr1=>⟨fl,r1,_,_,rfl,rfl,gK _ _ (gJ _ _ (J _ _ pV)),hr1,by rw[Ya];show _+1<=_;omega,λro HL nro gL hro=>?_⟩⟩;have ZS:=(J.trans gJ).trans gK;have Bj:=ZS.trans gL;have sL:=sG.same Bj;have ZkY:ro∉u.fp:=(sG.same ZS).ba.fresh nro;have flL:∀B,k≠bj->FL HL b.ps ro (b.F++[⟨k,i,(j':Int),B⟩]):=λB nk=>⟨as++[t2],by rw[hro,Yo];rfl,kq (F:=ER HL b.ps) ⟨_,by rw[iX nk];exact gL _ _ (gK _ _ oC)⟩ (L2.Paired.bI dE λ_ _ ⟨z,e⟩=>⟨z,Bj _ _ e⟩)⟩;have ES:∀{B},(k,B)∈ie r ys->∀c∈b.F++[⟨k,i,(j':Int),B⟩],eB r ys b.ps.length c:=λG c mc=>by
     rcases Yu.mp mc with h|h;·exact sG.good.1 c h
     ·rw[Ym.mp h];exact ZfW gd G hi rp
    have lA:∀c:Fc,(b.F++[c]).length<=64:=λc=>by rw[Yl];show _+1<=64;omega
    subst qE;refine lN λqV qF=>?_;refine⟨_,rfl,_,rfl,u,b,r,ys,k,_,_,t,by rw[e3];rfl,Bj _ _ wc,sL.ba,ok,lk,yQ,yR,λi1 j1 B G lS Oc ei ej l4 HM p HN wM baM np gN hp=>?_,λh=>absurd (R.symm.trans h) (by decide),λ_ no=>no.elim (λh=>absurd N_ h) (λh=>absurd Oa h)⟩;obtain rfl:=oS ok.nm hi lS ei;obtain rfl:=oS ok.nm rp Oc ej;have sM:=sL.va wM baM;have sN:=sM.same gN;have tM:=wM.bO sL.ba (Bj _ _ wc);have ZT:=λB nk=>FL.va wM sL.ba (flL B nk) ZkY;refine⟨_,rfl,_,rfl,_,rfl,t,_,_,_,rfl,rfl,az.of (gN _ _ tM),rfl,ro,T,b.ps,r,ys,b.F++[⟨k,i,(j':Int),B⟩],i,rfl,(ZT B (zc G)).1.same gN,sN.turns,ok.nm,ES G,Bi,eL Zo (by decide),lA _,hi,λp2 HO yv gO dJ=>⟨_,_,.lst ((dG (b.F++[⟨k,i,(j':Int),B⟩]) r.length i).map Dt.int),3,rfl,rfl,SQ (gO _ _ hp) (Rl _ Bi _),SQ dJ (Rl _ Bi _),λHP gP=>⟨_,rfl,bW (aT ?_)⟩⟩⟩;have E7:=(gN.trans gO).trans gP;have sP:=sM.same E7;subst qF;refine⟨_,rfl,_,rfl,l4,b,r,ys,k,_,_,t,by rw[wM.h,e3];rfl,E7 _ _ tM,sP.ba,ok,lk,yQ,yR,λi1 j1 AI pK lS Oc ei ej l5 HQ HR wQ baQ gR=>?_,λh=>absurd (R.symm.trans h) (by decide),λ_ no=>no.elim (λh=>absurd N_ h) (λh=>absurd Oa h)⟩;obtain rfl:=oS ok.nm hi lS ei;obtain rfl:=oS ok.nm rp Oc ej;have ZU:=ZT AI (zc pK);have flQ:=(FL.va wQ sP.ba (ZU.1.same E7) ZU.2).1;have sQ:=sP.va wQ baQ;have sR:=sQ.same gR;refine⟨_,rfl,_,rfl,_,rfl,ro,T,W,b.ps,r,ys,b.F++[⟨k,i,(j':Int),AI⟩],rfl,flQ.same gR,sR.turns,ok.nm,ES pK,Bi,eL Zo (by decide),lA _,sR.names,λHS gS=>⟨_,_,.int (eV (b.F++[⟨k,i,(j':Int),AI⟩]) r.length b.ps.length),3,rfl,rfl,r9,r9,λHT gT=>⟨_,rfl,bW (aT ?_)⟩⟩⟩;have ZV:=gR.trans (gS.trans gT);exact⟨l5,_,_,_,_,_,((((wG.same Bj).trans wM).same E7).trans wQ).same ZV,sQ.same ZV,rfl⟩
  ·rintro X HE ⟨u,iV,iW,rA,pW,pX,wE,sE,rfl⟩;exact dD _ _ ⟨u,iV,iW,rA,pW,pX,wE.h.trans eh,sE,rfl⟩
 rintro X HB ⟨u,iV,iW,rA,pW,pX,e3,sB,rfl⟩;obtain⟨dx,ho⟩:=sB.ba.obj;rw[e3] at ho;obtain⟨as,pV,dE⟩:=sB.facts;have Zu:=ok.fl;refine⟨_,rfl,l.h,dx,_,rfl,ho,rfl,u,b,r,ys,by rw[e3];rfl,sB.ba,ok.zs,Zu,λkp ka dI HC Nt gC pm so9 G pk=>?_⟩;have fe:=Zju pm so9 si.so;subst fe;refine⟨_,rfl,_,_,ZL b.ps b.fs,3,rfl,rfl,SO G pk (eL Zu (by decide)),SO (gC _ _ pV) (L2.Paired.bI dE λ_ _ e=>gC _ _ e) (eL Zu (by decide)),λHD gD=>⟨af,rfl,cZ ?_⟩⟩;exact⟨_,rfl,u,b,r,ys,by rw[e3];rfl,(sB.same (gC.trans gD)).ba,ok,λl4 HE wE baE=>⟨_,rfl,_,_,.int (eV b.F r.length b.ps.length),3,rfl,rfl,r9,r9,λHF _=>q HF⟩⟩
def all_mk{l:PySem.W.OpenLaw}{w:dg}{K:ah}{h:cO}{mg:aS}{fa:Z}(X:K.In h)(G:h.Ns mainGlobals mg)(cY:mg "law"=U (.ref fa))
  (p1:bT K "is_turn" Iz f1)
  (p2:bT K "still" Kg f2)
  (p3:bT K "behind" JE f3)
  (p4:bT K "back" KN f4)
  (p5:bT K "check_turn" Gu f5)
  (p6:bT K "check_rows" Gv f6)
  (p7:bT K "check_parents" Fx f7)
  (p8:bT K "land_of" IA f8)
  (p9:bT K "followed" Ho f9)
  (p10:bT K "turned_back" F9 MF)
  (p11:bT K "lines_up" Hq f11)
  (p12:bT K "is_tie" JG f12)
  (ZW:bT K "tie_turn" Bw f13)
  (p14:bT K "fact_key" Hs f14)
  (p15:bT K "keep_fact" GO f15)
  (p16:bT K "fact_fits" GP f16)
  (p17:bT K "is_name" IB f17)
  (p18:bT K "check_person" FQ f18)
  (p19:bT K "check_tie" GQ f19)
  (p20:bT K "sides_fit" GR f20)
  (p21:bT K "told_already" FR f21)
  (p22:bT K "check_elders" FT f22)
  (p23:bT K "check_saying" FU f23)
  (p24:bT K "check_section" Fy f24)
  (p25:bT K "is_person" GS f25)
  (p26:bT K "left_to" IC f26)
  (p27:bT K "left_by" ID f27)
  (p28:bT K "dealings" Hu f28)
  (p29:bT K "_law_cell" OZ f29)
  (p30:bT K "_law_draws" Ox f30)
  (p31:bT K "_law_turn" O0 f31)
  (p32:bT K "_law_row" IE f32)
  (p33:bT K "_law_inverse" F_ f33)
  (p34:bT K "_law_after" GU f34)
  (p35:bT K "_law_turns" GV f35)
  (p36:bT K "_law_same" Bx f36)
  (p37:bT K "_law_nets" Hv f37)
  (p38:bT K "_law_carried" Ga f38)
  (p39:bT K "_law_room" Hw f39)
  (p40:bT K "_law_name" Hx f40)
  (p41:bT K "_law_up" JH f41)
  (p42:bT K "_law_told" Hy f42)
  (p43:bT K "_law_sided" GW f43)
  (p44:bT K "_law_word" Hz f44)
  (p45:bT K "_law_pick" HH f45)
  (ZX:bT K "_law_fact" By f46)
  (p47:bT K "_law_put" IF f47)
  (p48:bT K "_law_step" HU f48)
  (p49:bT K "_law_grow" HV f49)
  (p50:bT K "_law_good" HW f50)
  (p51:bT K "_law_dealt" GX f51)
  (p52:bT K "_law_any" IG f52)
  (p53:bT K "_law_asked" GY f53)
  (p54:bT K "_law_counted" Gb f54)
  (p55:bT K "law" uI f55)
  (z:tG K ["len","abs","list","range","tuple","any","all","isinstance","bool","int","str","sorted","min","max","sum","dict","reversed","ValueError"])
  (Zbh:nsIn K mainGlobals "LEAST_SIZE"=U (U (.int (2) Zlj)))
  (ZbP:nsIn K mainGlobals "MOST_SIZE"=U (U (.int (8) Zlq)))
  (ZaH:nsIn K mainGlobals "LONGEST_NAME"=U (U (.int (12) Zlb)))
  (ZeA:nsIn K mainGlobals "PUT_IN"=U (U (.int (1) ZlO)))
  (ZbQ:nsIn K mainGlobals "TAKEN_OUT"=U (U (.int (-1) Zlr)))
  (ZaX:nsIn K mainGlobals "TIE_LETTERS"=U (U (.ref jP)))
  (F6:PyProof.Rows.KTD.tabLook PyProof.Rows.KTD.flatLooks (λb=>K.lookup b) jP [("mother",PyData.str "m"),("father",PyData.str "f"),("wed",PyData.str "w"),("sibling",PyData.str "s")]=af)
  (Zdx:nsIn K mainGlobals "PARENTS"=U (U (.ref eI)))
  (Zdy:K.lookup eI=U ⟨.type "tuple",ZlI,.seq #[.str "mother" Zls,.str "father" Zlt] ZlJ,ZlK⟩)
  (ZiH:nsIn K mainGlobals "MAN"=U (U (.str "man" ZlW)))
  (ZfY:nsIn K mainGlobals "WOMAN"=U (U (.str "woman" ZlR)))
  (Z7:nsIn K mainGlobals "LETTERS_OF_NAMES"=U (U (.str "abcdefghijklmnopqrstuvwxyz" Zk1)))
  (Zag:nsIn K mainGlobals "SIGNS_OF_NAMES"=U (U (.str "abcdefghijklmnopqrstuvwxyz0123456789" Zk6)))
  (Zha:nsIn K mainGlobals "SAID"=U (U (.str "said" ZlS)))
  (Zdz:nsIn K mainGlobals "SIBLING"=U (U (.str "sibling" ZlL)))
  (Zcz:yn K "KinError" "KinError.__init__" [] FE q ZcA)
  (wF:CU K q "__init__" ZcA)
  (ZcB:yn K "NoPerson" "NoPerson.__init__" [q] FG dN ZlA)
  (ZdA:yn K "BadWord" "BadWord.__init__" [q] FY df ZlM)
  (ZiI:AL K "Land" c)
  (o:uJ K c)
  (ZcC:cQ K c "__init__" "Land.__init__" GZ ZlB)
  (ZcD:cQ K c "step" "Land.step" G0 ZlC)
  (Zhb:AL K "Joins" a)
  (n:mM K a)
  (ZbR:cQ K a "__init__" "Joins.__init__" Gw Zlu)
  (ZcE:cQ K a "add" "Joins.add" G1 ZlD)
  (ZcF:cQ K a "tie" "Joins.tie" G3 ZlE)
  (ZcG:cQ K a "say" "Joins.say" G4 ZlF)
  (ZaI:cQ K a "open_at" "Joins.open_at" Fz Zlc)
  (ZbS:cQ K a "left" "Joins.left" Gx Zlv)
  (Zas:cQ K a "together" "Joins.together" Fq Zk9)
  (Zbi:cQ K a "pairs" "Joins.pairs" Gd Zlk)
  (ZaY:cQ K a "narrow" "Joins.narrow" FV Zlg)
  (ZZ:cQ K a "bring_together" "Joins.bring_together" E8 ZkZ)
  (ZbT:cQ K a "move" "Joins.move" Gy Zlw)
  (Zbj:cQ K a "dealt" "Joins.dealt" Ge Zll)
  (Z2:cQ K a "dealt_beside" "Joins.dealt_beside" E_ Zk0)
  (Z_:cQ K a "dealt_with" "Joins.dealt_with" Fe Zk3)
  (ZfZ:AL K "Hearth" d)
  (g:fG K d)
  (Zbk:cQ K d "__init__" "Hearth.__init__" Gf Zlm)
  (ZaJ:cQ K d "person" "Hearth.person" FA Zld)
  (ZbU:cQ K d "tie" "Hearth.tie" Gz Zlx)
  (ZbV:cQ K d "say" "Hearth.say" GA Zly)
  (Zbl:cQ K d "keep" "Hearth.keep" Gg Zln)
  (Zbm:cQ K d "take" "Hearth.take" Gh Zlo)
  (ZaK:cQ K d "people" "Hearth.people" FC Zle)
  (Zat:cQ K d "side_of" "Hearth.side_of" Fs Zk_)
  (Zbn:cQ K d "kept" "Hearth.kept" Gi Zlp)
  (ZbW:cQ K d "has" "Hearth.has" GB Zlz)
  (Zaa:cQ K d "parent_of" "Hearth.parent_of" Ff Zk4)
  (Z8:cQ K d "parents_of" "Hearth.parents_of" Fb Zk2)
  (ZaZ:cQ K d "joins" "Hearth.joins" FW Zlh)
  (Zau:cQ K d "do_deed" "Hearth.do_deed" Ft Zla)
  (Za0:cQ K d "shift" "Hearth.shift" FX Zli)
  (ZaL:cQ K d "put_in" "Hearth.put_in" FD Zlf)
  (Zab:cQ K d "note_fact" "Hearth.note_fact" Fg Zk5)
  (Zah:cQ K d "take_out" "Hearth.take_out" Fn Zk7)
  (Zai:cQ K d "place_of" "Hearth.place_of" Fo Zk8)
  (wg:PySem.W.mroIn K dN (.ref q)=U af)
  (wj:PySem.W.mroIn K df (.ref q)=U af)
  (oG:PySem.W.mroIn K dN (.ref df)=U a8)
  (wk:PySem.W.mroIn K df (.ref dN)=U a8)
  (wm:PySem.W.mroIn K df (.ref df)=U af)
  :∃fd:FuncData,(∀(s:cb) (v:a7),BindsTo s fd ⟨[v],[]⟩ [("_law_script",v)])/\∀I:cO,K.In I->I.Ns mainGlobals mg->aB l.prog w K mg I (eK l.prog w) 16 fa fd DL (C3 K):=by
 obtain @⟨od,an,sl,oc,kV,dc,pm,cd,ct,ax,lx,cx,kx⟩:=p55;have e:=cY.symm.trans (iC X G ax);cases e;have bl:=z.bl X G;have GC:=iC X G Zbh;have G5:=iC X G ZbP;have F1:=iC X G ZaH;have Q:=iC X G ZeA;have G_:=iC X G ZbQ;have p_:=iC X G ZaX;have r:=iC X G Zdx;have p:∀H,az K H eI [.str "mother",.str "father"]:=λ_=>.inr ⟨_,_,_,Zdy,rfl,rfl,by show 2<=sizeLine;decide,(.cons ⟨_,rfl⟩ (.cons ⟨_,rfl⟩ .nil))⟩;have uN:=iC X G ZiH;have uy:=iC X G ZfY;have Fi:=iC X G Z7;have Fw:=iC X G Zag;have y:=iC X G Zha;have T:=iC X G Zdz;obtain⟨_,Ph,wO,wW,ZlN,A,ZlG⟩:=Zcz.b X G tH;obtain⟨_,ZdB,ZdC,L,ZdD,P,u⟩:=ZcB.b X G pE;obtain⟨_,ZeB,ZeC,J,ZeD,N,t⟩:=ZdA.b X G pE;have ZiJ:=o.cls;have j:=n.cls;have i:=g.cls;refine⟨fnOf "law" "law" (mJ uI) (js uI) (aJ uI) .none kV dc pm an cd ct,λs v=>.of_eq rfl,λI _ _=>?_⟩;have F:=zL (st:=uI) lx cx kx;have D:jI l.prog w K mg I:=⟨X,G⟩;have Ij:zO l.prog w K mg I "NoPerson" "no person" dN:=⟨_,_,ZdD,Zcd ZdB wF (Oy Ph bl) wO A L u,ZdC,P,L,u⟩;have IV:zO l.prog w K mg I "BadWord" "no word" df:=⟨_,_,ZeD,Zc8 ZeB wF (Oy Ph bl) wO A J t,ZeC,N,J,t⟩;have qc:=D.d p29 (λ_ F=>ZgC F bl.CW);have x:=D.d p30 (λ_ F=>Zfq F bl.Zi4);have wZ:=D.d p1 (λ_ F=>Zc_ F bl);have rH:=D.d p9 (λ_ F=>Zcg F bl);have pZ:=D.d p10 (λ_ F=>ZaR F bl);have xx:=D.d p2 (λ_ F=>Zft F bl);have wH:=D.m ZiJ ZcD (λ_ F=>ZgI F o);have Kl:=D.j Zhb ZbR (λ_ F=>Zfx F n bl);have wo:=D.m j Zas (λ_ F=>Zch F n bl);have oH:=D.m j ZaI (λ_ F=>Zdd F n bl);have wq:=D.m j ZaY (λ_ F=>Zeg F n bl);have R:=D.d p12 (λ_ F=>Zel F p_ F6);have qa:=D.d p14 (λ_ F=>Zck F T bl);have FN:=D.m i ZaK (λ_ F=>Zem (CL:=c) (CJ:=a) F g bl);have t6:=D.m i Zat (λ_ F=>Zdj (CL:=c) (CJ:=a) F g bl);have wI:=D.d p25 (λ_ F=>ZbD F bl);have Fj:=D.m i Zaa (λ_ F=>ZbE (CL:=c) (CJ:=a) F g);have Fd:=D.m i Z8 (λ_ F=>Zbd (CL:=c) (CJ:=a) F g r p);have Gp:=D.m i Zbn (λ_ F=>ZgR (CL:=c) (CJ:=a) F g bl);have IJ:=D.d p17 (λ_ F=>Zdm F F1 Fi Fw bl);have JX:=D.j ZfZ Zbk (λ_ F=>ZfM (CL:=c) (CJ:=a) F g);have Hd:=D.d p20 (λ_ F=>ZbG F uN uy T);have FO:=D.d p24 (λ_ F=>Zar (C:=d) (CL:=c) (CJ:=a) F g o bl);have Hg:=D.d p34 (λ_ F=>ZbK F bl);have t9:=D.d p33 (λ_ F=>Zdo F bl);have wy:=D.d p38 (λ_ F=>Zdp F bl);have Ic:=D.d p42 (λ_ F=>Zcn F);have Hh:=D.d p43 (λ_ F=>ZbM F);have JT:=D.d p41 (λ_ F=>Zeq F bl);have rJ:=D.d p45 (λ_ F=>Zcp F bl);have Ie:=D.d p40 (λ_ F=>Zcr F bl);have we:=D.m j Z2 (λ_ F=>ZaG F n bl);have rB:=D.mX i Zai (λ_ F=>Zcy (CL:=c) (CJ:=a) F g Ij);have Ib:=D.d p31 (λ_ F=>ZgD F bl.xC bl.kY bl.oQ);have nG:HasFn l.prog w K mg I 4 "_law_same" pH (uC 4):=let⟨_,F,b,k,m⟩:=D.p (ps:=pH) p36;⟨_,_,R1 F b k m bl 4,b,k,m⟩;have t_:=D.d p5 (λ_ F=>Zir F wZ);have wz:=D.d p6 (λ_ F=>ZgG F wZ GC G5 bl);have wJ:=D.m j ZcE (λ_ F=>Zis F n xx bl);have G7:=D.m j ZcG (λ_ F=>Zit F oH wq bl);have Bm:=D.m j ZbT (λ_ F=>ZgK F n rH pZ bl);have Gk:=D.m j Zbi (λ_ F=>ZfB F n wo oH bl);have oK:=D.d ZW (λ_ F=>Zci (CL:=c) F p_ F6 o R wH);have wC:=D.m i ZbW (λ_ F=>Ziz (CL:=c) (CJ:=a) F g qa);have Fh:=D.m i Zab (λ_ F=>ZgW (CL:=c) (CJ:=a) F g r p qa);have Fp:=D.m i Zah (λ_ F=>Zcl (CL:=c) (CJ:=a) F g r p wI qa);have F2:=D.d p18 (λ_ F=>ZaB (C:=d) (CL:=c) (CJ:=a) F IJ uN uy FN);have Ia:=D.d p11 (λ_ F=>Zcm (C:=d) (CL:=c) (CJ:=a) F Fd);have BR:=D.d p32 (λ_ F=>Zdn F x Ib bl);have wU:=D.d p37 (λ_ F=>Zg4 F t9 bl);have Hi:=D.d p35 (λ_ F=>ZfO F t9 Hg bl);have zh:=D.d ZX (λ_ F=>Zcq F rJ bl);have Gn:=D.m j Zbj (λ_ F=>ZfR F we bl);have wV:=D.dX ZW (λ_ F=>ZbN (CL:=c) F p_ F6 o R wH IV);have Il:=D.d ZX (λ_ F=>ZbO F rJ bl);have xl:=D.d p3 (λ_ F=>Zjk F t_ rH bl);have zS:=D.d p4 (λ_ F=>Zjl F t_ pZ bl);have E9:=D.m j ZZ (λ_ F=>ZfA F n pZ Bm bl);have B:=D.m j ZbS (λ_ F=>ZgL F Gk bl);have F3:=D.d p21 (λ_ F=>Zg0 (C:=d) (CL:=c) (CJ:=a) F T r p Fj wC);have F4:=D.d p22 (λ_ F=>ZaD (C:=d) (CL:=c) (CJ:=a) F Ia);have F5:=D.d p23 (λ_ F=>ZaF (C:=d) (CL:=c) (CJ:=a) F y t6 FO wC);have W:=D.d p39 (λ_ F=>Zg6 F wU wy bl);have Ii:=D.d p50 (λ_ F=>Zg_ F wU wy);have IY:=D.d p52 (λ_ F=>ZiD F x Il bl);have FH:=D.d p7 (λ_ F=>Zda F xl bl);have G8:=D.m j ZcF (λ_ F=>Ziw F n B wo E9 wq bl);have G9:=D.d p16 (λ_ F=>ZbB (CL:=c) (CJ:=a) F y oK oH B);have Hf:=D.d p19 (λ_ F=>ZbI (C:=d) (CL:=c) (CJ:=a) F r p R Hd t6 F3 F4);have Ig:=D.d p44 (λ_ F=>Zco F Hh Ic JT W bl);have Fm:=D.m j Z_ (λ_ F=>Zbg F n B we bl);have Bu:=D.d p51 (λ_ F=>Zew F W Ii bl);have KP:=D.j ZiI ZcC (λ_ F=>ZgH F o wz FH zS xx bl);have wK:=D.d p15 (λ_ F=>ZbA (CL:=c) (CJ:=a) F y oK G7 G8);have IZ:=D.d p8 (λ_ F=>Zdc (C:=c) F wz xl KP);have FJ:=D.m i ZaL (λ_ F=>Zeo (CL:=c) (CJ:=a) F g wI wJ Fh wK bl);have E:=D.m i ZaZ (λ_ F=>ZfK (CL:=c) (CJ:=a) F g o Kl wJ wK);have F0:=D.m i Za0 (λ_ F=>ZfJ (CL:=c) (CJ:=a) F g Q FJ Fp);have BG:=D.d p28 (λ_ F=>Zcx (C:=d) (CL:=c) (CJ:=a) F E Gn);have IW:=D.dX p26 (λ_ F=>Zdu (C:=d) (CL:=c) (CJ:=a) F g wV E rB B);have IX:=D.dX p27 (λ_ F=>Zdv (C:=d) (CL:=c) (CJ:=a) F g wV E rB Fm);have pY:=D.m i Zau (λ_ F=>Zdk (CL:=c) (CJ:=a) F g F0);have Bv:=D.d p53 (λ_ F=>ZfV (C:=d) (CL:=c) (CJ:=a) F IW A wW P L u wg N J t wj oG wk wm bl);have Bk:=D.d p54 (λ_ F=>Zdw (C:=d) (CL:=c) (CJ:=a) F IX A wW P L u wg N J t wj oG wk wm bl);have FP:=D.m i ZaJ (λ_ F=>Zep (CL:=c) (CJ:=a) F g Q F2 pY);have wx:=D.m i Zbl (λ_ F=>ZgY (CL:=c) (CJ:=a) F g Q G9 E pY);have Gm:=D.m i Zbm (λ_ F=>ZgZ (CL:=c) (CJ:=a) F g G_ pY);have GH:=D.m i ZbU (λ_ F=>Zg1 (CL:=c) (CJ:=a) F g Hf wx);have GG:=D.m i ZbV (λ_ F=>Zg2 (CL:=c) (CJ:=a) F g y F5 wx);have IP:=D.d p47 (λ_ F=>Zdt (C:=d) (CL:=c) (CJ:=a) F GG GH);have Ih:=D.d p48 (λ_ F=>Zct (C:=d) (CL:=c) (CJ:=a) F x Ie zh Ig IP FP Gm bl);have Im:=D.d p49 (λ_ F=>Zcu (C:=d) (CL:=c) (CJ:=a) F Ih bl);exact ZiG F qc x BR Hi nG W Im IY Bu Bv Bk BG IZ JX Gp bl
def walk{l:PySem.W.OpenLaw}{q:dv}{b:O ar}{o:(ar->bR a7)->cO->Prop}{e:dg->cO->Prop}{d:DefRec}{K:Params->ah}(j:l.most=U 63)(p:d.params.defaults=[])
  (m:∀(w:dg) (h:cO),e w h->(K w.params).In h)
  (F:∀(w:dg) (mg:aS) (c:Z) (h:cO),(K w.params).In h->h.Ns mainGlobals mg->mg d.name=U (.ref c)->
   ∃fd:FuncData,(∀(s:cb) (u:a7),BindsTo s fd ⟨[u],[]⟩ [("_law_script",u)])/\∀I:cO,(K w.params).In I->I.Ns mainGlobals mg->aB l.prog w (K w.params) mg I (eK l.prog w) 16 c fd DL (C3 (K w.params))):
  PySem.W.WalkO q b o e l.row.toRowW d [] (λf g=>PySem.call f g):=
 L2.Zga j (by decide) p ⟨rfl,by decide,by decide,rfl⟩ m F (λ_ _ a i k _ n=>⟨a,i,rfl,n,k,λ_=>rfl⟩) λ_ _ _ _ _ h=>by obtain⟨_,_,_,_,_,_,_,_,_,_,_,_,_,_,z⟩:=h;exact z
end MT
namespace PySem.W.Fast
def t:True:=⟨⟩
def tw14300645714466042541:=t
def tw15574649730740364113:=t
def tw6452821324150793024:=t
def tw16495882965630239745:=t
def tw1233238027821075521:=t
def tw6772147713781310433:=t
def tw11402641954642220258:=t
def tw223363504214998498:=t
def tw7177024979813065989:=t
def tw12963061304227933125:=t
def tw7043468241586850310:=t
def tw2509531714659245063:=t
def tw3384314686827368551:=t
def tw1756243619928860968:=t
def tw4708768938123222536:=t
def tw124521174887946952:=t
def tw3252411511304343464:=t
def tw11855006733384272265:=t
def tw10198023555367292393:=t
def tw15426870428530460521:=t
def tw619023744883674410:=t
def tw4584470543352516906:=t
def tw9270167158783823243:=t
def tw5745252047971331979:=t
def tw4546618312332354637:=t
def tw5917121317279035182:=t
def tw5027853357782253390:=t
def tw6244915870326218606:=t
def tw11019359316124154224:=t
def tw17734736398393993041:=t
def tw7963854663583789937:=t
def tw12721566521838921842:=t
def tw8391683296994155826:=t
def tw2689190611480084882:=t
def tw12390036974368111570:=t
def tw4164860440622580403:=t
def tw9493134093738573523:=t
def tw4499616894355975284:=t
def tw787394328614480468:=t
def tw9318207459682123508:=t
def tw6039397596389894229:=t
def tw15407253631127391765:=t
def tw16139406091513868630:=t
def tw5282088974630569910:=t
def tw921096066716520438:=t
def tw18028280386102947256:=t
def tw7441401546166529784:=t
def tw9825470711494971257:=t
def tw6362932619414163770:=t
def tw5702256532590557114:=t
def tw16183218960647510075:=t
def tw8179840511880642363:=t
def tw4078237977265205276:=t
def tw6660539416257471644:=t
def tw7687693927595528028:=t
def tw8002016781359547709:=t
def tw7435661228249958141:=t
def tw11855614506909066141:=t
def tw6259899390830801631:=t
def tw13213844173361704517:=t
def tw17168746579274636321:=t
def tw3526754993160491761:=t
def tw4987083777277633741:=t
def tw7096539277322529733:=t
def tw10209335636248033714:=t
def tw17370568919487424281:=t
def tw1753617321796934187:=t
def tw12083183199732008511:=t
def tw16526680022311126384:=t
def tw4241661828753320252:=t
def tw4312435263131729459:=t
def tw7635890228319407852:=t
def tw4902760548603803291:=t
def tw7301418481270766778:=t
def tw10667634070099991121:=t
def tw334888598346343509:=t
def tw10329265299780277678:=t
def tw7302185538097139079:=t
def tw8006688759655171322:=t
def tw3349290536113357320:=t
def tw13719295485615800435:=t
def tw5507803256800909065:=t
def tw6992452025866759985:=t
def tw1841393052015696191:=t
def tw2333974687146936372:=t
def tw18244426819794910549:=t
def tw2555456141779131862:=t
def tw8460528490161299807:=t
def tw11949933237152048366:=t
def tw14657245264967000973:=t
def tw6214945065875175611:=t
def tw8687458032120086286:=t
def tw9467356076782220065:=t
def tw9314660208144365353:=t
def tw9856667496712246378:=t
def tw16027547865289300375:=t
def tw4976713491393122131:=t
def tw5933660105706091949:=t
def tw15573894001233903625:=t
def tw2810768910927045580:=t
def tw2287078644663113060:=t
def tw3775042284202887054:=t
def tw7541257685156889349:=t
def tw6060917773923355191:=t
def tw1059644825174233348:=t
def tw9379787914296738534:=t
def tw17246233488359416341:=t
def tw8897108331480002473:=t
def tw5342727811239441416:=t
def tw9213226667826836530:=t
def tw1307097592070165450:=t
def tw16786328021479806245:=t
def tw12528810734388102574:=t
def tw131066122786356056:=t
def tw5727094167201392841:=t
def tw15037546633638185575:=t
def tw3115568255930055161:=t
def tw16632796585316382183:=t
def tw2696324531987281749:=t
def tw12899926858544648665:=t
def tw12395820216667400236:=t
def tw10292445492831121599:=t
def tw12975017296850948671:=t
def tw16702925275841253859:=t
def tw4244573412013608083:=t
def tw2487201624171573676:=t
def tw6332800035752491710:=t
def tw4614340906627862387:=t
def tw12857513531715481482:=t
def tw118431684915100137:=t
def tw10679902709473449829:=t
def tw7454817513491218863:=t
def tw10911359472127288651:=t
def tw18281167829485976896:=t
def tw5998001318580133510:=t
def tw18254594753300894419:=t
def tw17254954947335018882:=t
def tw7408051271053979337:=t
def tw14396721614465708427:=t
def tw2539175394135534095:=t
def tw18357379222297655200:=t
def tw9465311362446059258:=t
def tw7702034637274417748:=t
def tw6713158929866806791:=t
def tw4264662556672975383:=t
def tw6178776308506857494:=t
def tw565942821358381133:=t
def tw5153576225872669797:=t
def tw10139982952583413709:=t
def tw12818731589264991053:=t
def tw3354862885354524924:=t
def tw17291581118325647226:=t
def tw16450034207319722460:=t
def tw1661358519646230347:=t
def tw8816871872887669259:=t
def tw4176615737739119153:=t
def tw14196033307609172186:=t
def tw3095984978454209229:=t
def tw1815818459008627724:=t
def tw10121471874964167976:=t
def tw5941267039071293988:=t
def tw9406224018715134597:=t
def tw9046625378849911339:=t
def tw3555689270941232589:=t
def tw16124717052970778390:=t
def tw4395468790028356130:=t
def tw7473334019530319761:=t
def tw17010803237815950414:=t
def tw6217052099003843159:=t
def tw17944584893595020043:=t
def tw14334943545610168545:=t
def tw17219617881594184592:=t
def tw6464154624617470842:=t
def tw3895879444781218996:=t
def tw12701798428748172607:=t
def tw15284740576609451553:=t
def tw11798464985180082825:=t
def tw362835127217757596:=t
def tw8338705482091135455:=t
def tw507538963598400092:=t
def tw13912478190051562410:=t
def tw862897206696234506:=t
def tw11133757256865108066:=t
def tw8085000337970049894:=t
def tw12835660120848697070:=t
def tw1959406341935668097:=t
def tw6410991990182310760:=t
def tw12501149533422562910:=t
def tw12697522237009178575:=t
def tw13641023407021273876:=t
def tw8484427724053296865:=t
def tw4171985207764512129:=t
def tw9042707442178605696:=t
def tw745413663928453354:=t
def tw2336556229797217924:=t
def tw3686110135610955001:=t
def tw13176144936737970280:=t
def tw1694260104040535083:=t
def tw8447435310046162177:=t
def tw676540389491710026:=t
def tw13501738697327407747:=t
def tw5930106122362439149:=t
def tw9206180931871640331:=t
def tw779136121499492637:=t
def tw2122492548210909589:=t
def tw14907748197925297739:=t
def tw14300100590733935908:=t
def tw9722749276062038441:=t
def tw16781453232516458876:=t
def tw17017751278594377297:=t
def tw3376411966711099805:=t
def tw11286573406434422713:=t
def tw4064467056820408643:=t
def tw17962293377663854298:=t
def tw9146429987434163462:=t
def tw14618754965507175038:=t
def tw10474114207410971602:=t
def tw1461650812187970573:=t
def tw15672652357723315214:=t
def tw8860750015257503953:=t
def tw7775494586337254101:=t
def tw8493959749521568817:=t
def tw10476452213402612066:=t
def tw17247675170745325678:=t
def tw1530916011148032547:=t
def tw11098532870823806972:=t
def tw10714859348167836976:=t
def tw4190576392618211491:=t
def tw13265872860477839271:=t
def tw9005128541225979264:=t
def tw2032407316576001985:=t
def tw17392128069304228363:=t
def tw6028818593248120024:=t
def tw7287413940012233294:=t
def tw11623917360615941906:=t
def tw7230988816312145302:=t
def tw2875858217096094590:=t
def tw18356767520526625982:=t
def tw4684190795939699395:=t
def tw7789128166924197563:=t
def tw16447375783528181872:=t
def tw2163789735959505169:=t
def tw16874164635717562274:=t
def tw17278269602990117109:=t
def tw5894256288224425412:=t
def tw18370648684382836764:=t
def tw8748185373747428512:=t
def tw11779730261141956338:=t
def tw4508857433927734278:=t
def tw2157513458329705248:=t
def tw12903638266943157306:=t
def tw9709852564822722094:=t
def tw506716089988893520:=t
def tw8936845780738007274:=t
def tw14759089658194852383:=t
def tw2751375761561369402:=t
def tw13356150510899207855:=t
def tw4256952159423919963:=t
def tw5673597313650585663:=t
def tw8461762490288573593:=t
def tw17538209175242949829:=t
def tw9883383122529122998:=t
def tw17476323636574877945:=t
def tw9879716249813616725:=t
def tw18119950383706449118:=t
def tw5513504373577697493:=t
def tw3117406383378889893:=t
def tw13350729366623264201:=t
def tw10907834429160688631:=t
def tw16183273290527468806:=t
def tw14525245747574249352:=t
def tw17095989599314607720:=t
def tw13443643137718343691:=t
def tw9332687875322743615:=t
def tw3681247897232903998:=t
def tw6365594601327407389:=t
def tw144056633980827289:=t
def tw904655971823160953:=t
def tw17750208225093286769:=t
def tw13536216834907634855:=t
def tw5215331420795880399:=t
def tw1300012533931198973:=t
def tw18336611412085654669:=t
def tw3375345560135385667:=t
def tw2743924498479693706:=t
def tw14969440570910317462:=t
def tw13421223647731885832:=t
def tw15731373774599367107:=t
def tw4522298481789640840:=t
def tw3364305815260278543:=t
def tw11430948736343639191:=t
def tw5980329832224070913:=t
def tw10126253188212503784:=t
def tw6448796773963080658:=t
def tw12835179414351428528:=t
def tw13799978704870565898:=t
def tw13825940420365011487:=t
def tw12167585685091792579:=t
def tw9659656247079786361:=t
def tw7958446302480298291:=t
def tw4395634320909534088:=t
def tw3997834915634778607:=t
def tw3392051282305167706:=t
def tw11508086987081658995:=t
def tw6851491316599224089:=t
def tw12158797512190400510:=t
def tw15198460643604732911:=t
def tw17295328804798135901:=t
def tw17743539450350452167:=t
def tw14482782742681018264:=t
def tw14476874144087524808:=t
def tw5973056609612217394:=t
def tw13788296799927768613:=t
def tw4052148392190613020:=t
def tw14272467229483599176:=t
def tw2389956828597781051:=t
def tw5948043053625452237:=t
def tw17642111692162813293:=t
def tw1543475937926541264:=t
def tw280251814450094491:=t
def tw9320611843098166050:=t
def tw4913755181156579656:=t
def tw3566612014965622222:=t
def tw4774959346204877587:=t
def tw4274579877605250214:=t
def tw1111698889791077101:=t
def tw16993270796756432207:=t
def tw11194773813861723193:=t
def tw14867941988042003141:=t
def tw15239173711457345318:=t
def tw5976647969353917264:=t
def tw9798590691922752829:=t
def tw1896686535633324954:=t
def tw3746990060389804666:=t
def tw12819622401054755099:=t
def tw2131684043375105200:=t
def tw7554801146039031284:=t
def tw3215960528408290801:=t
def tw10076954237504093682:=t
def tw6375025434910270097:=t
def tw10784216246972072686:=t
def tw17414286416639054466:=t
def tw15452286027069649066:=t
def tw2721616466620119878:=t
def tw16822129655516688319:=t
def tw12988321513238090659:=t
def tw8682535366169981368:=t
def tw7594089231117205770:=t
def tw3522853077421857233:=t
def tw13339034656606023219:=t
def tw1619616355555074286:=t
def tw12959574142490080603:=t
def tw11992635445400282562:=t
def tw565477697341079322:=t
def tw4635466910222814842:=t
def tw17438512392003900646:=t
def tw5940158109376548217:=t
def tw16494225010600501295:=t
def tw10525365833183763354:=t
def tw1611290451959462561:=t
def tw14385586332595850203:=t
def tw13462115640600181641:=t
def tw251919364077684932:=t
def tw15266723947116487471:=t
def tw15952958588550389616:=t
def tw2264525464245521475:=t
def tw7632870912981508293:=t
def tw609040531897405322:=t
def tw16403535554474502509:=t
def tw794116359780486696:=t
def tw17396572140863589309:=t
def tw3439634798836244208:=t
def tw7549530798055768487:=t
def tw4651863894304460874:=t
def tw11684229589291977023:=t
def tw18159028886638035168:=t
def tw12278432194371985762:=t
def tw11906166198266991761:=t
def tw10118458264750212634:=t
def tw1562600160013836543:=t
def tw14210475790654295552:=t
def tw3203231713845745984:=t
def tw15772590648725113320:=t
def tw17902729008654635997:=t
def tw5113050943056784625:=t
def tw8789752686453824667:=t
def tw5338495712836151008:=t
def tw12457614656643099078:=t
def tw9027712106107590797:=t
def tw601381343645044343:=t
def tw15155860600510964882:=t
def tw10533958688466975362:=t
def tw10689771067311014490:=t
def tw14802820968137704847:=t
def tw10223403529148100999:=t
def tw17490042611990122804:=t
def tw5886319407705531144:=t
def tw13085823528894587584:=t
def tw5608136095528831779:=t
def tw15240115867059448778:=t
def tw3400234988444396550:=t
def tw12740230482545270284:=t
def tw2619552386075014295:=t
def tw7257063365509393931:=t
def tw15535835270212681701:=t
def tw7537479056366912296:=t
def tw9117314529162762871:=t
def tw16627136924666844732:=t
def tw7938690187175965190:=t
def tw12731418614843830693:=t
def tw16989502706203247967:=t
def tw16371768055249938596:=t
def tw12719606597320026013:=t
def tw4574938806889658359:=t
def tw390049200765849217:=t
def tw12312077135052712218:=t
def tw16927454079121008474:=t
def tw6979285033891586935:=t
def tw1864815079115643704:=t
def tw10108298796559268027:=t
def tw12864126075974580703:=t
def tw528527280700496892:=t
def tw5431869740076001515:=t
def tw15946406458228375559:=t
def tw7817359244342465969:=t
def tw16154712037812849998:=t
def tw9703035626583460496:=t
def tw8777335814164138:=t
def tw4867995079725898440:=t
def tw5399548630821631622:=t
def tw11569654344634029885:=t
def tw9453860302589687362:=t
def tw3987619822198680764:=t
def tw16477927828907865352:=t
def tw16891911727494949567:=t
def tw3764638710690516460:=t
def tw18151963907617096813:=t
def tw5083103574291715685:=t
def tw15907484608607777550:=t
def tw5217785406502413018:=t
def tw6886548874366153062:=t
def tw16234253072260907323:=t
def tw6360542646318613550:=t
def tw2672819313645924725:=t
def tw147421603423845087:=t
def tw17629247719705386109:=t
def tw890110427680267270:=t
def tw6700216127256710944:=t
def tw2735026152641374531:=t
def tw15440399497040671784:=t
def tw2989903419352257673:=t
def tw8363667421576296880:=t
def tw158659748062815143:=t
def tw11841856249015893265:=t
def tw15403880471216223506:=t
def tw17129164635096756492:=t
def tw10792169351427744473:=t
def tw9086021902874567356:=t
def tw8325973314922280790:=t
def tw5403663370443301382:=t
def tw4512046283961772774:=t
def tw4249228119239301000:=t
def tw9732261391793278939:=t
def tw13729896644343653492:=t
def tw13154675526219556440:=t
def tw3394667154159789602:=t
def tw7123838694897319226:=t
def tw17377320992627280585:=t
def tw2309727340471005810:=t
def tw13489087602292148426:=t
def tw11167660626081835289:=t
def tw14301523118380532607:=t
def tw11303390409881774822:=t
def tw18028362047388681501:=t
def tw8832254065871191080:=t
def tw13721028046830482472:=t
def tw6445051109771987895:=t
def tw7027585859949817338:=t
def tw12469594570392765919:=t
def tw221491402846461435:=t
def tw613019869478415879:=t
def tw4086932721958280036:=t
def tw17201633462572531168:=t
def tw15568737862837594598:=t
def tw13877273218529071100:=t
def tw13158036986505756166:=t
def tw12891435951730951050:=t
def tw12742971664133676669:=t
def tw9395071459816289245:=t
def tw6261029845863971080:=t
def tw1483661781780854147:=t
def tw12777285204649251480:=t
def tw17247661091104368422:=t
def tw1256219731459197968:=t
def tw2823216398641658774:=t
def tw10735931256485002663:=t
def tw13887119559393112905:=t
def tw7163740299319245558:=t
def tw12571295154132898131:=t
def tw3329859285593075130:=t
def tw913948664706248134:=t
def tw7794934102957444038:=t
def tw12387954901374015145:=t
def tw13117616697759481599:=t
def tw1079830735655756479:=t
def tw11740082181662617366:=t
def tw4651806274900472366:=t
def tw2948741252972568897:=t
def tw7235884081473423503:=t
def tw9164134771233480314:=t
def tw6169825097702574865:=t
def tw3543631982240457630:=t
def tw5748255802152741915:=t
def tw4312692295160468022:=t
def tw17574221997750856682:=t
def tw17174283890704053470:=t
def tw8566784439122257199:=t
def tw9095780439436763211:=t
def tw568424955978487591:=t
def tw15315794047259543014:=t
def tw11874245827902069486:=t
def tw16688027702168875296:=t
def tw13547683628178273308:=t
def tw15402370651415847539:=t
def tw6834653613954877329:=t
def tw14550842897230092751:=t
def tw4804332693636138723:=t
def tw14001561969004221956:=t
def tw12077028494181536095:=t
def tw8724187015293843750:=t
def tw11157678820943430832:=t
def tw13704544342886768238:=t
def tw13160699616493309711:=t
def tw6114063611246347392:=t
def tw2391864034082146949:=t
def tw15744143880007483433:=t
def tw9957403488829444695:=t
def tw8247999593926699307:=t
def tw4945382445188511983:=t
def tw4651942104946083407:=t
def tw3083195615328174112:=t
def tw17678497575123674440:=t
def tw16639737901517853293:=t
def tw7710466335767606989:=t
def tw8253873582529284473:=t
def tw13963298262323850817:=t
def tw9435680336068686329:=t
def tw4463678834568802813:=t
def tw16290303604218006331:=t
def tw11555621715044078460:=t
def tw1513927122648026445:=t
def tw5565565288033230621:=t
def tw13286448677273041596:=t
def tw2064434801467522346:=t
def tw1585914493066931734:=t
def tw13434352949172546301:=t
def tw1621556600622965591:=t
def tw2365993479910646445:=t
def tw7558693074933639446:=t
def tw11868638193510095141:=t
def tw9086693054516513320:=t
def tw5043512074091907791:=t
def tw6350853067012680385:=t
def tw555403464849420412:=t
def tw3498551369687867655:=t
def tw13640768688214628640:=t
def tw17375586708644077093:=t
def tw7071452324328460347:=t
def tw12321458004325174239:=t
def tw11043055040909606884:=t
def tw2501563867307700872:=t
def tw11232397720762153163:=t
def tw9570868354385317949:=t
def tw539107892917610713:=t
def tw4334334034668866133:=t
def tw858198160878242883:=t
def tw10158669967396017948:=t
def tw9771840436369802573:=t
def tw7176323324951960271:=t
def tw6614594095619951848:=t
def tw13356363108100318976:=t
def tw3958738990052382228:=t
def tw18075967429540218502:=t
def tw1733331833176473792:=t
def tw12427265940387413870:=t
def tw7219697777248837756:=t
def tw5572208646061345895:=t
def tw4018189273690299062:=t
def tw15541727770782080994:=t
def tw14693756365117317094:=t
def tw14159299908878163130:=t
def tw12555251382829155401:=t
def tw11515033638157237199:=t
def tw11223379748454975775:=t
def tw6620295930727100224:=t
def tw15525142913852574852:=t
def tw2443038362593630631:=t
def tw16327283708269227670:=t
def tw13557169654439866849:=t
def tw12839121867107173571:=t
def tw11790813642323178146:=t
def tw7341112784153077616:=t
def tw6757540815919353788:=t
def tw5465667066114835639:=t
def tw18265692991462167008:=t
def tw10743419915206665143:=t
def tw8557084745886793813:=t
def tw2979222060131635287:=t
def tw17886707163536628694:=t
def tw13048623419316800606:=t
def tw7038114743460931224:=t
def tw7005207903070576826:=t
def tw2869856080989599888:=t
def tw16112357833568338420:=t
def tw8374986504284151261:=t
def tw3204663955415899444:=t
def tw17315852384233440900:=t
def tw16030093807668667289:=t
def tw13977491612134475035:=t
def tw13689373351361520762:=t
def tw1064731051873203841:=t
def tw7056020739447245065:=t
def tw4464672725621485189:=t
def tw18061722616190758364:=t
def tw13836458342391876988:=t
def tw8241898019527947794:=t
def tw5149495550137994345:=t
def tw3045346652777478400:=t
def tw17501888268004734497:=t
def tw1636242313410015672:=t
def tw8846695430921718924:=t
def tw8430048301402306501:=t
def tw7406536000626250625:=t
def tw6957361662730350867:=t
def tw6470938654861320924:=t
def tw4395814958265498052:=t
def tw4381133288457749609:=t
def tw4179049595604472331:=t
def tw3602890992267720980:=t
def tw16318525438993199815:=t
def tw870548716766417217:=t
def tw12396419602108716213:=t
def tw10281498776567798392:=t
def tw3498546893311111643:=t
def tw18241620901378109120:=t
def tw16614988650492618197:=t
def tw5898727960769483944:=t
def tw10624698591905937856:=t
def tw5386156381860824046:=t
def tw4928138344225191011:=t
def tw1515243695553804500:=t
def tw8943717927730765365:=t
def tw5096266759234175499:=t
def tw10617161353704964407:=t
def tw17856602538447996941:=t
def tw10948043888673517896:=t
def tw9701626770572693116:=t
def tw6521422054748935961:=t
def tw31084503754733629:=t
def tw11917777421111543166:=t
def tw4769479614086703617:=t
def tw17936273305023429635:=t
def tw9190148125276594280:=t
def tw4709879981263983787:=t
def tw15862855597288164855:=t
def tw12348863794404122185:=t
def tw14578130785405649747:=t
def tw9315274098962576739:=t
def tw7447018828450639326:=t
def tw18305041657911803531:=t
def tw1323220792675432460:=t
def tw455875120986027420:=t
def tw16651822773521812365:=t
def tw18430837046730025755:=t
def tw13985602754870108355:=t
def tw997369406058424209:=t
def tw14393040476127937957:=t
def tw9693999566061390251:=t
def tw6922174346178426162:=t
def tw11486851462193311502:=t
def tw5486908643268661418:=t
def tw14654897678207074974:=t
def tw13121591856916459199:=t
def tw11196588454674030586:=t
def tw1080043134043013238:=t
def tw16430662486823582441:=t
def tw8140742518444638954:=t
def tw6404601730754177452:=t
def tw2541481654435920599:=t
def tw13693684858732461224:=t
def tw12865905098798375760:=t
def tw4109718855573502018:=t
def tw12829511998590688565:=t
def tw5632787455504853541:=t
def tw1774029439216403723:=t
def tw6791830883168640413:=t
def tw5012229025437387924:=t
def tw2273852402713446249:=t
end PySem.W.Fast
open PySem PySem.W PyProof.Rows
set_option maxRecDepth 100000 in
set_option maxHeartbeats 0 in
theorem PySem.Challenge.cw_kinhearth_k39_what_a_tie_would_leave_holds : PySem.Challenge.rw_kinhearth_k39_what_a_tie_would_leave.Holds := by
 w_on; o_law; k_head; (case hw=>w_witness2)
 k_fill
 refine MT.walk (l:=PySem.Challenge.rw_kinhearth_k39_what_a_tie_would_leave) rfl rfl (λ w h Y=>kIn_of Y) ?F
 case F=>
  intro w mg fa h KX G Ax
  apply MT.all_mk KX G Ax <;> repeat' first | k_is | (show _=_; k_is) | kernel_rfl | constructor

