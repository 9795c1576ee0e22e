import PyProof.Rows.All
import Wide.All
import OpenK.AllK
import Wide.FinOn
import Lean
import PyProof.EqAt
import PyProof.EqKinds
import PyProof.TupleCall
import PyProof.NeKinds
import PyProof.ConsumeWalk
import PyProof.ListRange
import PyProof.TupleOfSeq
import PyProof.Rows.SortWalk
import PyProof.CompFree
import PySem.Challenge.RW_kinhearth_k42_forebears_and_the_nearest
set_option Elab.async false
set_option linter.all false
set_option maxRecDepth 100000
set_option maxHeartbeats 4000000
abbrev ae:=PySem.W.Frag
abbrev aR:=PySem.Value->PySem.Shared->Prop
abbrev aJ:=List (PySem.Addr×PySem.Obj)
abbrev aN:=PySem.Str->Option PySem.Value
open PySem
abbrev O:=@Option.some
abbrev aI:=@Option.none
abbrev ar:=true
abbrev aY:=false
abbrev Z:=List
abbrev U:=Addr
abbrev aV:=Value
abbrev a8:=Shared
abbrev bt:=Option
abbrev c6:=Program
abbrev cD:=World
abbrev bS:=Stmt
abbrev cm:=Heap
abbrev dO:=Around
abbrev cw:=Array
abbrev bA:=Bool
abbrev af:=Str
abbrev bZ:=Expr
open PySem.W (instObj lookIn plainGet hasDictIn handedIn findObj_own isFn plainOver takerIn set_plain any_some makesIn typeIn emptyDict keepIn specialIn takesIn kitOne kia_one kitx_list kitx_dict callWith_K methodCall_KW cellsFrom_some fnOf codeIn notCls check_slot KitX osa_eq kitCls findCls subIn nsIn mg_of tabIn tab_of)
open PySem.F (excBase_ValueError slot_dict_delitem slot_dict_pop slot_dict_get entry_dict_get plainAttrs_dict type_dict_get slot_dict_values entry_min_loop plain_min_loop plainAttrs_list)
def Ya:=@List.length_map
def Yb:=@List.getElem?_eq_getElem
def Yc:=@Heap.get?_push_of_some
def Yd:=@List.getD_eq_getElem?_getD
def Ye:=@List.mem_append_right
def Yf:=@List.getElem?_eq_some_iff
def Yg:=@Nat.le_refl
def Yh:=@List.mem_map
def Yi:=@List.getElem?_map
def Yj:=@List.mem_cons_self
def Yk:=@List.mem_append_left
def Yl:=@List.mem_singleton
def Ym:=@List.mem_of_getElem?
def Yn:=@Heap.get?_push_size
def Yo:=@Bool.false_ne_true
def Yp:=@Heap.lt_size
def Yq:=@List.length_append
def Yr:=@Option.some.inj
def Ys:=@List.mem_cons
def Yt:=@List.map_append
def Yu:=@List.mem_append
def Yv:=@List.mem_cons_of_mem
def Yw:=@List.size_toArray
def Yx:=@Nat.zero_le
def Yy:=@List.mem_filter
def Yz:=@Nat.le_trans
def Y0:=@List.map_map
def Y1:=@Array.getD_eq_getD_getElem?
def Y2:=@Nat.ne_of_lt
def Y3:=@List.length_filter_le
def Y4:=@List.nodup_cons
def Y5:=@Nat.lt_of_lt_of_le
def Y6:=@Heap.get?_update_other
def Y7:=@Array.length_toList
def Y8:=@List.take_add_one
def Y9:=@List.getElem?_append_left
def Wa:=@List.getElem?_eq_none
def Wb:=@List.not_mem_nil
def Wc:=@List.pairwise_iff_getElem
def Wd:=@Nat.lt_irrefl
def We:=@Int.toNat_natCast
def Wf:=@List.mem_range
def Wg:=@List.getElem_mem
def Wh:=@List.append_nil
def Wi:=@List.length_take
def Wj:=@List.filter_append
def Wk:=@List.map_congr_left
def Wl:=@Sum.inr.inj
def Wm:=@List.length_cons
def Wn:=@List.take_length
def Wo:=@Nat.lt_succ_of_lt
def Wp:=@List.nodup_append
def Wq:=@Heap.get?_update_self
def Wr:=@List.length_replicate
def Ws:=@List.length_range
def Wt:=@List.filter_filter
def Wu:=@Bool.eq_iff_iff
def Wv:=@List.map_cons
def Ww:=@Nat.not_lt_zero
def Wx:=@List.filter_cons_of_pos
def Wy:=@List.length_zip
def Wz:=@List.filter_map
def W0:=@List.mem_iff_getElem
def W1:=@Nat.ne_of_gt
def W3:=@List.all_eq_true
def W4:=@Bool.eq_false_iff
def W5:=@List.pairwise_map
def W6:=@List.filter_sublist
def W7:=@Array.getElem?_eq_getElem
def W8:=@Int.emod_lt_of_pos
def W9:=@Bool.false_eq_true
def Ja:=@Nat.lt_succ_self
def Jb:=@Bool.and_eq_true
def Jc:=@List.filter_cons
def Jd:=@Bool.and_eq_true_iff
def Je:=@Heap.size_push
def Jf:=@List.nodup_nil
def Jg:=@List.ext_getElem?
def Jh:=@List.length_set
def Ji:=@List.getElem_of_mem
def Jj:=@List.getElem?_append_right
def Jk:=@Array.perm_iff_toList_perm
def Jl:=@List.nodup_iff_pairwise_ne
def Jm:=@Nat.lt_of_le_of_lt
def Jn:=@List.Pairwise.and_mem
def Jo:=@Option.isSome_iff_exists
def Jp:=@Int.emod_nonneg
def Jq:=@Array.getElem?_setIfInBounds_ne
def Jr:=@List.append_assoc
def Js:=@List.filterMap_cons
def Jt:=@List.all_cons
def Ju:=@List.any_cons
def Jv:=@List.filter_cons_of_neg
def Jw:=@List.lookup_cons
def Jx:=@List.take_of_length_le
def Jy:=@List.mem_filterMap
def Jz:=@Nat.le_of_lt
def J0:=@Heap.get?_push_ne
def J1:=@List.filter_congr
def J3:=@Array.getElem?_eq_some_iff
def J7:=@List.any_eq_true
def J8:=@Nat.succ_le_succ
def J9:=@List.filter_eq_self
def LY:=@Int.toNat_of_nonneg
def Uy:=@Array.size_setIfInBounds
def U6:=@List.getElem?_cons_succ
def Aj:=@Bool.true_and
def WH:=@Nat.add_sub_cancel_left
def UK:=@Array.getElem?_eq_none
def WR:=@List.filter_eq_nil_iff
def KJ:=@List.any_eq_false
def wV:=@Nat.le_succ
def LU:=@List.flatMap_cons
def Dg:=@Nat.mul_le_mul
def zy:=@Nat.le_of_eq
def UL:=@Array.getElem?_toList
def U_:=@Nat.le_of_ble_eq_true
def Uc:=@List.getElem?_set_ne
def U4:=@List.replicate_succ'
def VI:=@List.mem_of_mem_take
def wZ:=@Nat.not_lt
def KL:=@List.of_mem_zip
def UC:=@Heap.get?_update_ne
def K5:=@List.find?_cons
def Vj:=@List.zip_cons_cons
def Uq:=@List.take_sublist
def UI:=@Option.isSome_map
def Dw:=@Sum.inl.inj
def Ut:=@Nat.le_of_not_lt
def UE:=@List.nodup_range
def UQ:=@Heap.size_update
def Vg:=@List.cons_append
def Vy:=@List.mem_flatMap
def WQ:=@List.getElem_map
def Uv:=@List.length_nil
def UJ:=@List.range_succ
def Lk:=@List.all_map
def Lo:=@Nat.zero_add
def WE:=@Bool.or_eq_true
def WI:=@List.nil_append
def Ll:=@Int.le_refl
def QO{p:Prop}(h:p:=by omega):p:=h
def QS{p:Prop}(h:p:=by simp):p:=h
def QD{p:Prop}(h:p:=by decide):p:=h
def QU{p:Prop}(h:p:=by with_unfolding_all rfl):p:=h
def QR{p:Prop}(h:p:=by rfl):p:=h
def QK{p:Prop}(h:p:=by decide+kernel):p:=h
def QJ{p:Prop}(h:p:=by kernel_rfl):p:=h
def QG{p:Prop}(h:p:=by grind):p:=h
def QA{p:Prop}(h:p:=by simp_all):p:=h
def a7:=@PySem.wpAny_bind
def cb:=@PySem.wpAny_pure
def bb:=@if_neg
def br:=@if_pos
def dm:=@of_decide_eq_true
def c_:=@decide_eq_true
def cW:=@PySem.wpAny_mono
def c7:=@PySem.sizeLine_eq
def fb:=@decide_eq_true_iff
def eJ:=@decide_eq_false
def de:=@congrArg
def fx:=@PySem.wpAny_holding
def iP:=@PySem.PassesOwn.never
def gU:=@PySem.wpAny_standAt
def kA:=@PySem.Calls.callWith_builtin
def i2:=@PySem.wpAny_loadPart_at
def fy:=@True.intro
def d6:=@Ne.symm
def kj:=@PySem.wpAny_truthy_bool
def lr:=@PySem.F.type_list_append
def lG:=@PySem.F.slot_list_append
def kC:=@PySem.wpAny_Call_Name_kw
def ew:=@Or.inl
def fH:=@or_false
def k9:=@PySem.F.plainAttrs_list
def lH:=@PySem.wpAny_isSubtype_exc
def i_:=@PySem.codeAny_mono
def l3:=@PySem.tupleKind_room_in1
def fI:=@Or.inr
def l5:=@PySem.wpAny_newObj_type
def kS:=@PySem.strLen_append
def nA:=@PySem.wpAny_comprehension_free
def mF:=@List.Perm.refl
def je:=@PySem.wpAny_call
def kX:=@PySem.call_meetsIn
def qw:=@PySem.F.excBase_ValueError
def l8:=@PySem.wpAny_passesOwn
def nN:=@List.Pairwise.map
def me:=@PySem.F.plain_min_loop
def nO:=@PySem.Calls.evalArgs_plain
def nP:=@PySem.mem_of_lookup
def tx:=@PySem.Heap.SameBut.update
def mI:=@PySem.F.plainAttrs_dict
def iK:=@not_or
def nV:=@PySem.Calls.spliced_cons
def mh:=@PySem.wpAny_letGo
def k_:=@PySem.wpAny_field
def qx:=@PySem.wpAny_Call_method0_late
def tJ:=@PySem.plainObj_wpAny_Assign_Attribute
def n7:=@PySem.wpAny_call_entry
def i1:=@PySem.W.kia_one
def mJ:=@PySem.F.slot_dict_get
def oA:=@PySem.codeAny_builtin
def qB:=@PySem.evalArgs_none
def tX:=@PyProof.Rows.callWith_type1
def mj:=@PySem.W.callWith_K
def oQ:=@PySem.wpAny_tryCatch
def oW:=@PySem.wpAny_setField
def qO:=@PySem.SeqAt.EqAt.int_int
def gV:=@PySem.W.mg_of
def q7:=@PySem.wpAny_pyIter_list
def ra:=@PySem.wpAny_evalAll_nil
def ri:=@PySem.F.slot_dict_delitem
def tY:=@bne_self_eq_false
def rj:=@PySem.Calls.spliced_nil
def pb:=@PySem.wpAny_newList
def px:=@PySem.plainId_quiet
def pz:=@PySem.W.methodCall_KW
def mM:=@if_false
def rn:=@PySem.F.slot_dict_values
def m7:=@PySem.typeIs_str
def ro:=@PySem.wpAny_execs_nil
def rr:=@and_congr_right
def rz:=@Array.Perm.refl
def t5:=@PySem.Obj.isFreed_of_fields
def rB:=@PySem.wpAny_loadPart
def rS:=@PySem.F.entry_dict_get
def t8:=@PySem.codeAny_call_builtin
def ui:=@PySem.Around.under_plainId
def uj:=@PySem.W.plainGet_of
def yk:=@PySem.F.slot_dict_itemiterator_iter
def uk:=@PySem.wpAny_pyIter_tuple
def uo:=@PySem.wpAny_evalAll_cons
def ur:=@PySem.Obj.data_mapFields
def rX:=@PySem.codeAny_loop
def uu:=@PySem.wpAny_collect_seq
def uv:=@PySem.wpAny_Call_method
def uz:=@PySem.Within.cons
def pB:=@And.intro
def uD:=@PySem.wpAny_lookBehind
def uF:=@PySem.pastItsLine_dict
def zc:=@PyProof.Rows.callWith_builtin1
def rZ:=@PySem.wpAny_noted
def uN:=@PySem.wpAny_updateSeq
def uO:=@PySem.wpAny_tests_nil
def zd:=@PySem.F.args_dict_delitem_2
def r6:=@PySem.wpAny_rule
def r8:=@PySem.call_meets
def uP:=@PySem.wpAny_seqItems
def uQ:=@PySem.F.entry_min_loop
def vb:=@PySem.W.cellsFrom_some
def vc:=@List.take_zero
def zi:=@PySem.wpAny_newFunctionEnv_cells
def zj:=@PySem.F.entry_dict_delitem
def zl:=@PySem.F.args_dict_values_1
def zp:=@PySem.Calls.Name_function_global
def zr:=@PySem.F.entry_dict_values
def zt:=@PySem.Calls.call_function_entry
def vg:=@PySem.wpAny_attempt
def vi:=@PySem.rangeSize_one
def zw:=@PySem.F.type_dict_values
def zx:=@List.Perm.eq_of_pairwise
def zJ:=@PySem.SeqAt.eq_list_lengthsAt
def zL:=@PySem.F.slot_dict_items
def zM:=@PySem.F.args_dict_get_3
def zP:=@PySem.F.args_dict_get_2
def r_:=@funext
def vj:=@PySem.wpAny_nsSet1
def vl:=@PySem.seqIndex_neg
def vr:=@List.map_nil
def UP:=@Int.zero_add
def zS:=@PySem.wpAny_delete_Subscript
def zT:=@PySem.wpAny_Call_method_late
def z6:=@PySem.wpAny_Assign_Subscript
def z7:=@List.getElem?_set_self
def BW:=@PySem.wpAny_isTrue_Compare1
def B1:=@PySem.wpAny_deleteEach_cons
def sm:=@PySem.W.any_some
def vu:=@PySem.seqIndex_of
def vv:=@List.map_id
def B2:=@PySem.wpAny_newFunctionEnv
def Cd:=@PySem.wpAny_loadName_local
def Cm:=@PySem.wpAny_deleteEach_nil
def Cq:=@PySem.lookup_relabel_local
def CM:=@PySem.Obj.data_mapDictKeys
def Qbv:=@List.mem_of_mem_drop
def CN:=@List.getElem_toArray
def CO:=@PySem.Heap.get?_none_of_le
def CP:=@PySem.wpAny_loadName_cell
def CS:=@PySem.wpAt_of_wpAny
def CZ:=@List.toList_toArray
def C4:=@List.replicate_succ
def UR:=@List.getElem?_range
def Dc:=@List.flatMap_append
def v8:=@PySem.wpAny_Name
def wd:=@PySem.Walks.list
def Dd:=@PySem.wpAny_delItem_slot
def Dh:=@PySem.wpAny_List_spliced
def Di:=@PySem.SeqAt.notIn_listAt
def US:=@PySem.SeqAt.EqAt.str_int
def UT:=@PySem.SeqAt.EqAt.int_str
def Dj:=@Nat.lt_or_gt_of_ne
def Dp:=@List.zip_nil_right
def Dx:=@PySem.F.slot_tuple_index
def DR:=@PySem.Code.quiet_builtin
def Es:=@Array.forIn_toList
def UU:=@congr
def G2:=@PySem.wpAny_assign_Name
def JN:=@PySem.slot_dict_getitem
def JZ:=@PySem.richCompare_gives
def J5:=@not_false_eq_true
def J6:=@PySem.meets_dict_values
def Ke:=@decide_eq_true_eq
def K7:=@PySem.Heap.Ns1.of_empty
def Lf:=@Array.getElem_mem
def wh:=@PySem.small_one
def Li:=@PySem.wpAny_madeBy_exc
def Lm:=@PySem.wpAny_execs_cons
def Lp:=@PySem.wpAny_Dict_empty
def Lw:=@PySem.argBest_lt
def Lx:=@List.range'_succ
def LS:=@PySem.codeAny_of_tree
def LZ:=@StateT.run_pure
def L0:=@PySem.SeqAt.eq_listAt
def L3:=@PySem.SeqAt.EqAt.same
def L4:=@PySem.wpAt_bind
def Mp:=@List.filter_nil
def NS:=@PySem.Heap.DictOf.new
def Pe:=@PySem.wpAny_newTuple
def Pw:=@PySem.wpAny_Compare1
def Qf:=@PySem.refuseLoop_ref
def Sw:=@PySem.numAt_eq
def SF:=@Bool.false_and
def SX:=@Array.size_map
def dy:=@Nat.lt_of_le_of_ne
def dg:=@Nat.le_of_not_lt
def dR:=@Nat.le_of_lt_succ
def eU:=@Nat.lt_of_lt_of_le
def d4:=@Nat.le_trans
def eL:=@Nat.le_antisymm
def gb:=@Nat.succ_le_of_lt
def gR:=@Nat.le_of_eq
def js:=@Nat.le_succ_of_le
def ik:=@Nat.mod_lt
def lb:=@Nat.lt_succ_of_lt
def km:=@Int.ofNat.inj
def mr:=@Nat.add_sub_of_le
def lg:=@Nat.le_of_lt
def m_:=@Nat.lt_succ_self
def my:=@Nat.lt_trans
def pO:=@Nat.le_of_succ_le
def qg:=@Nat.le_add_right
def kh:=@Eq.symm
def sq:=@Nat.lt_of_le_of_lt
def qs:=@Nat.le_refl
def wO:=@Nat.le_sub_of_add_le
def Tf:=@List.mem_of_mem_drop
def wQ:=@Int.toNat_of_nonneg
def xc:=@Nat.pos_of_ne_zero
def sC:=@Nat.succ_pos
def sU:=@Int.ne_of_gt
def Tp:=@of_decide_eq_true
def xl:=@Nat.lt_add_right
def sV:=@PySem.sizeLine_eq
def tc:=@Nat.zero_le
def xp:=@Nat.le_add_left
def nh:=@if_neg
def nq:=@Or.inr
def td:=@PySem.wpAny_bind
def Tq:=@decide_eq_true
def Tt:=@List.Perm.refl
def TC:=@Nat.le_of_add_le_add_right
def TF:=@Int.zero_add
def xt:=@Int.le_of_lt
def T5:=@Nat.le_add_right_of_le
def T7:=@Nat.eq_zero_of_le_zero
def UW:=@List.getElem?_range
def Ua:=@PySem.Heap.SameBut.update
def th:=@if_pos
def UY:=@PySem.F.excBase_ValueError
def UZ:=@decide_eq_true_iff
def U0:=@bne_self_eq_false
def Um:=@Nat.ne_zero_of_lt
def Up:=@Nat.lt_succ_of_le
def U3:=@List.Pairwise.map
def Uz:=@Nat.min_le_right
def U5:=@decide_eq_false
def xw:=@not_or
def xx:=@Or.inl
def UB:=@if_false
def ir:=@Nat.le_trans
def k8:=@Nat.lt_of_lt_of_le
def lp:=@Nat.le_of_lt
def tq:=@Nat.succ_le_of_lt
def tr:=@Nat.le_of_eq
def U7:=@Nat.lt_of_le_of_lt
def Qdh:=@PySem.F.excBase_ValueError
def Qdi:=@PySem.Heap.SameBut.update
def Qdj:=@List.mem_of_mem_drop
def Qdk:=@List.getElem?_range
def Qdl:=@Int.toNat_of_nonneg
def xU:=@Nat.sub_le
def Qdn:=@decide_eq_true_iff
def Qdo:=@of_decide_eq_true
def Qdp:=@bne_self_eq_false
def Qdq:=@PySem.sizeLine_eq
def Qdr:=@Nat.lt_succ_of_lt
def Qds:=@List.Pairwise.map
def Qdt:=@PySem.wpAny_bind
def UG:=@Nat.not_lt_of_le
def U8:=@Nat.min_le_right
def Qdw:=@Nat.lt_succ_self
def U9:=@Nat.lt_add_right
def Qdy:=@Nat.le_of_not_lt
def Qdz:=@decide_eq_false
def QdA:=@decide_eq_true
def UN:=@Nat.add_le_add
def QdC:=@List.Perm.refl
namespace L2
open PySem PySem.Spec PyProof.Rows
abbrev Key:=Sum Int af
def tE:Key->aV->bA
 |.inl k,v=>Value.isInt k v
 |.inr x,v=>Value.isStrOf x v
def Vz(w:cD):Key->Int
 |.inl k=>hashInt k
 |.inr x=>hashStr w x
theorem mP:∀{k:Key} {v:aV},tE k v=ar->(∃i t,k=Sum.inl i/\v=Value.int i t)\/(∃x t,k=Sum.inr x/\v=Value.str x t)
 |.inl i,v,h=>by
  obtain⟨t,e⟩:=Value.isInt_shape h
  simp_all
 |.inr x,v,h=>by
  obtain⟨t,e⟩:=Value.isStrOf_shape h
  simp_all
def VB(i:Int)(t:Tok):tE (.inl i) (.int i t)=ar:=by simp[tE,Value.isInt]
def VC(x:af)(t:Tok):tE (.inr x) (.str x t)=ar:=by simp[tE,Value.isStrOf]
def VJ(a b:Int):decide ((Sum.inl a:Key)=Sum.inl b)=(a==b):=by
 grind
def WJ(a b:af):decide ((Sum.inr a:Key)=Sum.inr b)=decide (a=b):=by
 simp_all
def WK(a:Int)(b:af):decide ((Sum.inl a:Key)=Sum.inr b)=aY:=eJ (λq=>nomatch q)
def WL(a:af)(b:Int):decide ((Sum.inr a:Key)=Sum.inl b)=aY:=eJ (λq=>nomatch q)
def dH(c:c6)(w:cD):PySem.KeyKind c w Key where
 is:=tE
 hash:=Vz w
 inj:=λv a b m g=>by
  rcases mP m with⟨i,t,rfl,rfl⟩|⟨x,t,rfl,rfl⟩
  ·rcases mP g with⟨j,u,rfl,e⟩|⟨y,u,rfl,e⟩;·injection e with d _;rw[d]
   ·exact nomatch e
  ·rcases mP g with⟨j,u,rfl,e⟩|⟨y,u,rfl,e⟩;·exact nomatch e
   ·injection e with d _;rw[d]
 byValue:=λk v h=>by
  rcases mP h with⟨i,t,rfl,rfl⟩|⟨x,t,rfl,rfl⟩<;>rfl
 pyHash:=λf h=>by
  rcases mP f with⟨i,t,rfl,rfl⟩|⟨x,t,rfl,rfl⟩;·exact wpAny_pyHash_int h
  ·exact wpAny_pyHash_str h
 eqBool:=λl f h=>by
  rcases mP l with⟨i,t,rfl,rfl⟩|⟨x,t,rfl,rfl⟩
  ·rcases mP f with⟨j,u,rfl,rfl⟩|⟨y,u,rfl,rfl⟩;·rw[VJ] at h;exact wpAny_eqBool_int h
   ·rw[WK] at h;exact SeqAt.EqAt.int_str i t y u _ _ _ _ h
  ·rcases mP f with⟨j,u,rfl,rfl⟩|⟨y,u,rfl,rfl⟩;·rw[WL] at h;exact SeqAt.EqAt.str_int x t j u _ _ _ _ h
   ·rw[WJ] at h;exact wpAny_eqBool_str h
 «strs»:=λk x t v h=>by
  rcases mP h with⟨i,u,rfl,e⟩|⟨y,u,rfl,e⟩;·exact nomatch e
  ·injection e with d _;subst d;cases v<;>rfl
def Z0(a:c6)(w:cD)(i:Int)(t:Tok):(dH a w).is (.inl i) (.int i t)=ar:=VB i t
def Z1(a:c6)(w:cD)(x:af)(t:Tok):(dH a w).is (.inr x) (.str x t)=ar:=VC x t
inductive V where
 |aB|bl (b:bA)|int (i:Int)|str (x:af)|ke (b:cw UInt8)|oN (b:UInt64)|ref (a:U)|ty (n:String)
 deriving DecidableEq
def RelV:V->aV->Prop
 |.aB,u=>u=Value.none
 |.bl b,u=>u=Value.bool b
 |.int i,u=>∃t,u=Value.int i t
 |.str x,u=>∃t,u=Value.str x t
 |.ke b,u=>∃t,u=Value.bytes b t
 |.oN b,u=>∃t,u=Value.float b t
 |.ref a,u=>u=Value.ref a
 |.ty n,u=>u=Value.type n
abbrev Vals:Z V->Z aV->Prop:=Paired RelV
def Vals.length(r:Vals xs us):xs.length=us.length:=Paired.length r
theorem Vals.get:∀{a:Z V} {b:Z aV} {i:Nat} {x:V},Vals a b->a[i]?=O x->∃u,b[i]?=O u/\RelV x u
 |_,_,_,_,.nil,e=>by simp at e
 |_,_,0,_,.cons r _,e=>by simp at e;subst e;exact⟨_,rfl,r⟩
 |_,_,i+1,x,.cons _ t,e=>by
  obtain⟨u,d,c⟩:=Vals.get t (by simpa using e)
  simp_all
theorem Vals.set{x:V}{u:aV}(r:RelV x u):∀{a:Z V} {b:Z aV} (i:Nat),Vals a b->Vals (a.set i x) (b.set i u)
 |_,_,_,.nil=>.nil
 |_,_,0,.cons _ t=>.cons r t
 |_,_,i+1,.cons q t=>.cons q (Vals.set r i t)
theorem Vals.append:∀{b a:Z V} {d c:Z aV},Vals b d->Vals a c->Vals (b++a) (d++c):=by
 intro b a d c h f;induction h with
 |nil=>exact f
 |cons r t e=>exact .cons r e
theorem Vals.take:∀{a:Z V} {b:Z aV} (n:Nat),Vals a b->Vals (a.take n) (b.take n)
 |_,_,0,_=>.nil
 |_,_,_+1,.nil=>.nil
 |_,_,n+1,.cons r t=>.cons r (Vals.take n t)
theorem Vals.drop:∀{a:Z V} {b:Z aV} (n:Nat),Vals a b->Vals (a.drop n) (b.drop n)
 |_,_,0,r=>r
 |_,_,_+1,.nil=>.nil
 |_,_,n+1,.cons _ t=>Vals.drop n t
def eX:bt V->bt aV->Prop
 |some v,some u=>RelV v u
 |none,none=>True
 |_,_=>False
def KV{a:Type}:Z (a×V)->Z (a×aV)->Prop:=Paired λ(p:a×V) (q:a×aV)=>p.1=q.1/\RelV p.2 q.2
def kV:Key->V
 |.inl i=>.int i
 |.inr x=>.str x
inductive HO where
 /--a list-/
 |lst(d:Z V)
 /--a tuple(never changes)-/
 |tup(d:Z V)
 /--a dict Xk keys are ints and texts;one Xk keys are tuples of ints and texts(wL empty one is both)-/
 |dK(c:Z (Key×V))|dT(c:Z (Z Key×V))
 /--a set of ints:ah members,ah size-/
 |set (b:Int->bA) (n:Nat)
 /--an instance of wL class at C,ah dict at g,ah attributes-/
 |ins (C g:U) (fs:Z (af×V))
 /--wL dict of wL instance at x-/
 |own (x:U)
 /--wL dict of an exception-/
 |xd (fs:Z (af×V))
 /--a bound method,f of x-/
 |met (f x:U)
 /--a range object lo,lo+1,.. below e-/
 |nv (lo e:Int)
 /--a Xl ZjN is known to wL object (wL ZjE;a dict while a loop walks it):read,never written while it is so-/
 |bp (o:Obj) (u:HO)
 /--a code ZjB table-/
 |dz (j:cw aV)
 /--any other Xl,by YP is ar of ah one object (a def of ZjK own:ZjO a b n:=HO.ext λh=>..)-/
 |ext (i:cm->Prop)
abbrev Hp:=U->bt HO
def upd(H:Hp)(a:U)(o:HO):Hp:=λb=>if b=a then O o else H b
def aM:upd H a o a=O o:=by unfold upd;rw[br rfl]
def az(h:b≠a):upd H a o b=H b:=by unfold upd;rw[bb h]
def Hk:upd (upd H a o) a u=upd H a u:=by
 funext b;unfold upd;split<;>rfl
def R9{H:Hp}(h:H a=O o)(c:H b=O u)(d:o≠u):a≠b:=by
 intro e;subst e;rw[h] at c;exact d (Yr c)
def bW{H:Hp}(h:H a=O o)(c:H b=aI):a≠b:=by
 grind
section
variable (P:c6)(w:cD)
def oB(h:cm)(a:U)(b:cw aV):Prop:=∃o,h.get? a=O o/\o.cls=.type "tuple"/\∃n,o.data=.seq b n/\o.dict=aI
def oB.tup(x:oB h a items):IsTup h a items:=let⟨o,e,c,n,d,_⟩:=x;⟨o,e,c,n,d⟩
def oB.lt(x:oB h a items):a<h.objs.size:=x.tup.lt
def oB.new(h:cm)(items:cw aV):oB (h.push {cls:=.type "tuple",data:=.seq items}) h.objs.size items:=⟨_,Yn _ rfl,rfl,_,rfl,rfl⟩
def bY(H:Hp)(h:cm)(a:U):HO->Prop
 |.lst b=>b.length<=sizeLine/\∃(d:Z aV) (n:Nat),Vals b d/\h.get? a=O {cls:=.type "list",data:=.seq d.toArray n}
 |.tup b=>b.length<=sizeLine/\∃d:Z aV,Vals b d/\oB h a d.toArray
 |.dK kvs=>kvs.length<=sizeLine/\(a==sysModules)=aY/\∃e,KV kvs e/\h.DictOf (dH P w) a e
 |.dT kvs=>kvs.length<=sizeLine/\(a==sysModules)=aY/\∃b:Z (Z Key×U×aV),
   Paired (λ(p:Z Key×V) (q:Z Key×U×aV)=>p.1=q.1/\H q.2.1=O (.tup (p.1.map kV))/\RelV p.2 q.2.2) kvs b/\
   ∃o j k,h.get? a=O o/\o.ExactDict/\o.data=.dict j k/\j.toList=b.map (entryOfKey (tupleKind (dH P w)))/\(b.map (·.1)).Nodup
 |.set S n=>h.SetOf (intKind P w) a S n
 |.ins C dx fs=>H dx=O (.own a)/\fs.length<=1000/\dx≠a/\h.get? a=O (instObj C dx)/\
   ∃c,h.Ns1 dx c/\(∀f,eX (fs.lookup f) (c f))/\PySem.Within c (fs.map (·.1))
 |.own _=>∃o,h.get? a=O o
 |.xd fs=>∃c,h.Ns1 a c/\∀f,eX (fs.lookup f) (c f)
 |.nv lo hi=>∃t u v,h.get? a=O {cls:=.type "range",data:=.fields #[.int lo t,.int hi u,.int 1 v]}
 |.bp o u=>h.get? a=O o/\bY H h a u
 |.dz ps=>h.get? a=O {cls:=.none,data:=.fields ps}
 |.met f x=>h.get? a=O (PySem.W.methodObj (.ref f) (.ref x))
 |.ext φ=>φ h/\(∃o,h.get? a=O o)/\∀i g:cm,φ i->(∀o,i.get? a=O o->g.get? a=O o)->φ g
def cZ(H:Hp)(h:cm):Prop:=∀a o,H a=O o->bY P w H h a o
end
theorem bY.lt(x:bY P w H h a o):a<h.objs.size:=by
 cases o with
 |lst xs=>obtain⟨_,_,_,_,e⟩:=x;exact Yp e
 |tup xs=>obtain⟨_,_,_,p⟩:=x;exact p.lt
 |dK b=>obtain⟨_,_,_,_,o,_,_,e,_⟩:=x;exact Yp e
 |dT b=>obtain⟨_,_,_,_,o,_,_,e,_⟩:=x;exact Yp e
 |set S n=>obtain⟨o,_,_,_,e,_⟩:=x;exact Yp e
 |ins C j fs=>obtain⟨_,_,_,e,_⟩:=x;exact Yp e
 |own y=>obtain⟨_,e⟩:=x;exact Yp e
 |xd fs=>obtain⟨_,⟨_,_,_,e,_⟩,_⟩:=x;exact Yp e
 |nv lo i=>obtain⟨_,_,_,e⟩:=x;exact Yp e
 |bp g u=>obtain⟨e,_⟩:=x;exact Yp e
 |dz d=>exact Yp (x)
 |met f y=>exact Yp (x)
 |ext c=>obtain⟨_,⟨_,e⟩,_⟩:=x;exact Yp e
theorem Paired.aW:∀{c:Z α} {l₂:Z β},Paired F c l₂->(∀a b,F a b->G a b)->Paired G c l₂:=by
 intro c l₂ h f;induction h with
 |nil=>exact .nil
 |cons r t d=>exact .cons (f _ _ r) d
theorem bY.gO(x:bY P w H h a o)(k:∀b u,(b=a\/H b=O (.own a))->h.get? b=O u->J.get? b=O u)
  (I:∀b,H b=O (.own a)->D b=O (.own a))(G:∀b l,H b=O (.tup l)->D b=O (.tup l)):bY P w D J a o:=by
 induction o with
 |lst l=>obtain⟨z,B,n,r,e⟩:=x;exact⟨z,B,n,r,k _ _ (.inl rfl) e⟩
 |tup l=>obtain⟨z,B,r,g,e,c⟩:=x;exact⟨z,B,r,g,k _ _ (.inl rfl) e,c⟩
 |dK A=>obtain⟨z,y,E,r,g,i,j,e,c⟩:=x;exact⟨z,y,E,r,g,i,j,k _ _ (.inl rfl) e,c⟩
 |dT A=>
  obtain⟨z,y,l,r,g,i,j,e,c⟩:=x;exact⟨z,y,l,Paired.aW r λp q z=>⟨z.1,G _ _ z.2.1,z.2.2⟩,g,i,j,k _ _ (.inl rfl) e,c⟩
 |set S n=>obtain⟨g,i,j,t,e,c⟩:=x;exact⟨g,i,j,t,k _ _ (.inl rfl) e,c⟩
 |ins C T fs=>
  obtain⟨d,z,ne,e,s,⟨m,i,j,L,c⟩,r⟩:=x;exact⟨I _ d,z,ne,k _ _ (.inl rfl) e,s,⟨m,i,j,k _ _ (.inr d) L,c⟩,r⟩
 |own y=>obtain⟨g,e⟩:=x;exact⟨g,k _ _ (.inl rfl) e⟩
 |xd fs=>obtain⟨s,⟨m,i,j,e,c⟩,r⟩:=x;exact⟨s,⟨m,i,j,k _ _ (.inl rfl) e,c⟩,r⟩
 |nv lo R=>obtain⟨t,u,v,e⟩:=x;exact⟨t,u,v,k _ _ (.inl rfl) e⟩
 |bp g u F=>obtain⟨e,q⟩:=x;exact⟨k _ _ (.inl rfl) e,F q⟩
 |dz Q=>
  have e:=x;exact k a _ (.inl rfl) e
 |met f y=>
  have e:=x;exact k a _ (.inl rfl) e
 |ext N=>obtain⟨p,⟨o,e⟩,st⟩:=x;exact⟨st _ _ p λo q=>k _ _ (.inl rfl) q,⟨o,k _ _ (.inl rfl) e⟩,st⟩
def cZ.lt(x:cZ P w H h)(e:H a=O o):a<h.objs.size:=(x a o e).lt
theorem cZ.fresh(x:cZ P w H h)(e:h.objs.size<=a):H a=aI:=by
 cases q:H a with
 |none=>rfl
 |some u=>exact absurd (Y5 (x.lt q) e) (Wd _)
def cZ.kept(x:cZ P w H h)(k:∀b u,h.get? b=O u->h'.get? b=O u):cZ P w H h':=λa o e=>
 (x a o e).gO (λ b u _=>k b u) (λ_ q=>q) λ_ _ q=>q
def cZ.laid(x:cZ P w H h)(k:∀b u,h.get? b=O u->h'.get? b=O u)(i:h.objs.size<=a)(d:bY P w (upd H a o) h' a o):cZ P w (upd H a o) h':=λb u e=>by
 have f:=x.fresh i;by_cases g:b=a;·subst g;rw[aM] at e;cases e;exact d
 ·rw[az g] at e;exact(x b u e).gO (λ c v _=>k c v) (λc q=>by rwa[az (bW q f)]) λc j q=>by rwa[az (bW q f)]
def Rd(H:Hp)(a:U)(u:HO):Prop:=H a=O u\/∃o,H a=O (.bp o u)
def Rd.ok(r:Rd H a u)(x:cZ P w H h):bY P w H h a u:=by
 rcases r with r|⟨o,r⟩;·exact x a u r
 ·obtain⟨_,q⟩:=x a _ r;exact q
def zo:bt HO->Prop
 |some (.lst _)=>True
 |some (.dK _)=>True
 |some (.dT _)=>True
 |some (.set _ _)=>True
 |some (.ins _ _ _)=>True
 |some (.ext _)=>True
 |_=>False
def cZ.write(t:cZ P w H h)(d:zo (H x))(o:e=x\/H e=O (.own x))(k:∀b u,b≠e->h.get? b=O u->h'.get? b=O u)(s:∃u,h'.get? e=O u)
  (j:bY P w (upd H x n) h' x n):cZ P w (upd H x n) h':=λb u q=>by
 have p:∀c y,H c=O (.own y)->c≠x:=λc y r z=>by subst z;rw[r] at d;exact d
 have l:∀c a,H c=O (.tup a)->c≠x:=λc a r z=>by subst z;rw[r] at d;exact d
 by_cases g:b=x;·subst g;rw[aM] at q;cases q;exact j
 ·rw[az g] at q;by_cases i:b=e
  ·have m:H b=O (.own x):=by
    rcases o with z|z;·exact absurd (i.trans z) g
    ·rwa[i]
   rw[q] at m;cases m;obtain⟨v,A⟩:=s;exact⟨v,by rwa[i]⟩
  ·refine(t b u q).gO (λc v f r=>k c v ?_ r) (λc r=>by rwa[az (p c b r)]) λc a r=>by rwa[az (l c a r)]
   rcases f with rfl|f;·exact i
   ·rintro rfl;rcases o with z|z;·exact p c b f z
    ·rw[f] at z;cases z;exact g rfl
structure Un(fs ex:Z U)(H H':Hp)(h h':cm):Prop where
 keep:∀b o,h.get? b=O o->H b=aI->b∉fs->b∉ex->h'.get? b=O o
 slot:∀b o,h.get? b=O o->H b=aI->b∈fs->b∉ex->∃sl,h'.get? b=O {o with slots:=sl}
 free:∀b o,h.get? b=O o->H b=aI->b∉ex->H' b=aI
 there:∀b o,h.get? b=O o->b∉ex->∃o',h'.get? b=O o'
 gP:∀b xs,H b=O (.tup xs)->H' b=O (.tup xs)
 ie:∀b o u,H b=O (.bp o u)->H' b=O (.bp o u)
 ig:∀b ps,H b=O (.dz ps)->∃more,H' b=O (.dz (ps++more))
section
variable {fs X:Z U}{H H1 R:Hp}{h W T h':cm}{a:U}{o:HO}
def Un.any(u:Un fs X H H1 h W)(q:h.get? b=O c)(n:H b=aI)(d:b∉X):∃f,W.get? b=O {c with slots:=f}:=by
 by_cases e:b∈fs;·exact u.slot b c q n e d
 ·exact⟨c.slots,u.keep b c q n e d⟩
theorem Un.trans(a:Un fs X H H1 h W)(b:Un fs X H1 R W T):Un fs X H R h T where
 keep:=λc d q n i e=>b.keep c d (a.keep c d q n i e) (a.free c d q n e) i e
 slot:=λc d q n i e=>by
  obtain⟨p,f⟩:=a.slot c d q n i e;obtain⟨k,m⟩:=b.slot c _ f (a.free c d q n e) i e
  grind
 free:=λc d q n e=>by
  obtain⟨j,f⟩:=a.there c d q e;exact b.free c j f (a.free c d q n e) e
 there:=λc d q e=>by
  obtain⟨j,f⟩:=a.there c d q e;exact b.there c j f e
 gP:=λc g q=>b.gP c g (a.gP c g q)
 ie:=λc d g q=>b.ie c d g (a.ie c d g q)
 ig:=λc l q=>by
  obtain⟨s,f⟩:=a.ig c l q;obtain⟨r,m⟩:=b.ig c _ f
  grind
def Un.kept(k:∀b u,h.get? b=O u->h'.get? b=O u):Un fs X H H h h':=
 ⟨λb c q _ _ _=>k b c q,λb c q _ _ _=>⟨c.slots,k b c q⟩,λ_ _ _ n _=>n,λb c q _=>⟨c,k b c q⟩,λ_ _ q=>q,λ_ _ _ q=>q,λ_ d q=>⟨#[],by rw[q];simp⟩⟩
def Un.refl:Un fs X H H h h:=Un.kept λ_ _ q=>q
theorem Un.laid(k:∀b u,h.get? b=O u->h'.get? b=O u)(e:h.objs.size<=a)(c:H a=aI):Un fs X H (upd H a o) h h' where
 keep:=λb u q _ _ _=>k b u q
 slot:=λb u q _ _ _=>⟨u.slots,k b u q⟩
 free:=λb u q n _=>by rw[az (Y2 (Y5 (Yp q) e))];exact n
 there:=λb u q _=>⟨u,k b u q⟩
 gP:=λb d q=>by rw[az (bW q c)];exact q
 ie:=λb u d q=>by rw[az (bW q c)];exact q
 ig:=λb f q=>⟨#[],by rw[az (bW q c),q];simp⟩
def Un.write(c:zo (H x))(p:e=x\/H e=O (.own x))(k:∀b u,b≠e->h.get? b=O u->h'.get? b=O u)(l:∃u,h'.get? e=O u):Un fs X H (upd H x o) h h':=by
 have j:∀b,H b=aI->b≠x:=λb n z=>by subst z;rw[n] at c;exact c
 have f:∀b,H b=aI->b≠e:=λb n z=>by
  grind
 have d:∀b u,H b=O u->¬zo (O u)->b≠x:=λb u q i z=>by subst z;rw[q] at c;exact i c
 refine⟨λb u q n _ _=>k b u (f b n) q,λb u q n _ _=>⟨u.slots,k b u (f b n) q⟩,λb u q n _=>by rwa[az (j b n)],λb u q _=>?_,
  λb g q=>by rwa[az (d b _ q λz=>z)],λb u g q=>by rwa[az (d b _ q λz=>z)],λb m q=>⟨#[],by rw[az (d b _ q λz=>z),q];simp⟩⟩
 grind
end
def wM(h:cm)(H:Hp):Z U:=(List.range h.objs.size).filter λa=>(H a).isSome
def oH(h:cm)(H:Hp):cm:=PySem.W.hideAll h (wM h H)
def Zbw(h:cm)(H:Hp):(oH h H).objs.size=h.objs.size:=PySem.W.hideAll_size _ _
def Zco(e:h.get? b=O o)(n:H b=aI):(oH h H).get? b=O o:=
 PySem.W.hideAll_get _ e λa=>by
  have q:=(Yy.mp a).2
  grind
theorem ZdY(e:(oH h H).get? b=O o):h.get? b=O o/\H b=aI:=by
 have a:=PySem.W.of_hideAll (wM h H) e;refine⟨a,?_⟩;cases q:H b with
 |none=>rfl
 |some x=>
  have z:(oH h H).get? b=aI:=PySem.W.hideAll_none (wM h H) (Yy.mpr ⟨Wf.mpr (Yp a),by simp[q]⟩)
  grind
structure Mod(K:ae)(mg:aN)(base:cm):Prop where
 ij:K.In base
 glob:base.Ns mainGlobals mg
 blt:∃mb,base.Ns builtinsNs mb/\∀x:af,x≠"__name__"->mb x=bootBuiltins x
 nolimit:base.NoLimit
structure Cx where
 prog:c6
 w:cD
 K:ae
 mg:af->bt aV
 base:cm
 A:dO
 N:Z af
 b_:a8
 jY:Hp
 env:Env
 outer:Z Env
 stack:Z Env
 ex:Z U
 fn:af->bA
 calm:bA
 pn:Z (U×Obj)
 xe:aV->a8->Prop
abbrev Cx.md(X:Cx):=model X.prog X.w
abbrev iN(X:Cx)(e:bZ)(a:Z bZ):Prop:=starEach (e::a) X.env=(aY,eval e X.env)::starEach a X.env
abbrev jk(X:Cx)(a:Pos)(b:Z bZ):Prop:=(backTo a (starEach b X.env)).any (·.1)=aY
def cC(l:Z Env):Z U:=l.filterMap (·.frame)
abbrev Cx.fs(X:Cx):Z U:=cC X.outer
def ue(a:Scope)(x:af):Prop:=a.names.lookup x=O .local\/a.names.lookup x=O .cell\/a.names.lookup x=O .free
def Loc(a:Scope)(x:af):Prop:=a.names.lookup x=O .local\/a.names.lookup x=O .cell
def Look(a:Env)(h:cm)(m:aN)(x:af)(u:aV):Prop:=
 (a.kindOf x=O .local/\m x=O u)\/((a.kindOf x=O .cell\/a.kindOf x=O .free)/\∃c,a.cells.lookup x=O c/\h.IsCell c (O u))
structure Cx.Ok(X:Cx):Prop where
 mod:Mod X.K X.mg X.base
 kind:X.env.scope.kind=.function
 glob:X.env.globals=mainGlobals
 blt:X.env.builtins=builtinsNs
 above:X.b_.heap.objs.size<=X.env.locals
 inj:∀x y c,X.env.cells.lookup x=O c->X.env.cells.lookup y=O c->x=y
 has:∀x,(X.env.kindOf x=O .cell\/X.env.kindOf x=O .free)->∃c,X.env.cells.lookup x=O c
 uf:∀x c,X.fn x=ar->X.env.cells.lookup x=O c->X.b_.heap.objs.size<=c
 hd:X.calm=ar->X.A.handled=aI
 frames:X.A.frames=O X.stack
 wN:X.stack=X.outer\/(X.stack=X.env::X.outer/\X.env.frame=O X.env.locals)
 oO:∀b∈X.ex,b≠X.env.locals/\∀x c,X.env.cells.lookup x=O c->c≠b
 bs:∀b o,X.base.get? b=O o->X.b_.heap.get? b=O o/\X.jY b=aI
 l9:X.base.objs.size<=X.b_.heap.objs.size
 tP:∀b o,X.base.get? b=O o->b∉X.ex
 qe:∀b∈X.ex,b∉X.fs
 jH:X.b_.heap.FunFrames X.base X.outer
 oP:∀b∈X.fs,X.jY b=aI
structure Inv(X:Cx)(pins:aJ)(σ:Z (bt V))(H:Hp)(s:a8):Prop where
 ok:X.Ok
 os:s.os=X.b_.os
 bare:AllBare s.gens
 base:Un X.fs X.ex X.jY H X.b_.heap s.heap
 loc:∃m,s.heap.Ns X.env.locals m/\∀(i:Nat) (x:af) (v:V),X.N[i]?=O x->σ[i]?=O (O v)->ue X.env.scope x->∃u,RelV v u/\Look X.env s.heap m x u
 cell:∀x c,X.env.cells.lookup x=O c->∃v,s.heap.IsCell c v
 free:H X.env.locals=aI
 ia:∀x c,X.env.cells.lookup x=O c->H c=aI
 pin:∀p∈X.pn++pins,s.heap.get? p.1=O p.2/\H p.1=aI/\p.1≠X.env.locals/\p.1∉X.fs/\∀v,p.2.data≠.cell v
 au:cZ X.prog X.w H s.heap
 len:σ.length=X.N.length
section
variable {X:Cx}{W:aJ}{T:Z (bt V)}{H R:Hp}{s:a8}{h':cm}
def Cx.Ok.Zhy(a:X.Ok)(e:X.base.get? b=O o):b∉X.fs:=λc=>by
 have:=(a.jH.mem c).1
 grind
def Inv.bs(I:Inv X W T H s):∀b o,X.base.get? b=O o->s.heap.get? b=O o/\H b=aI:=λb o e=>
 ⟨I.base.keep b o (I.ok.bs b o e).1 (I.ok.bs b o e).2 (I.ok.Zhy e) (I.ok.tP b o e),I.base.free b o (I.ok.bs b o e).1 (I.ok.bs b o e).2 (I.ok.tP b o e)⟩
def Inv.bk(I:Inv X W T H s):∀b o,X.base.get? b=O o->s.heap.get? b=O o:=λb o e=>(I.bs b o e).1
def Inv.mod(I:Inv X W T H s):Mod X.K X.mg X.base:=I.ok.mod
def Inv.bM(I:Inv X W T H s):X.K.In s.heap:=I.ok.mod.ij.keeps I.bk
def Inv.nolimit(I:Inv X W T H s):s.heap.NoLimit:=I.ok.mod.nolimit.keeps I.bk
def Inv.lt(I:Inv X W T H s):X.env.locals<s.heap.objs.size:=let⟨_,a,_⟩:=I.loc;a.lt
def Inv.sz(I:Inv X W T H s):X.b_.heap.objs.size<=s.heap.objs.size:=Yz I.ok.above (Jz I.lt)
def Inv.SY(I:Inv X W T H s)(h:s.heap.objs.size<=a):a∉X.fs:=λc=>by
 obtain⟨_,o,b,_⟩:=I.ok.jH.mem c;exact absurd (Y5 (Yp b) (Yz I.sz h)) (Wd _)
def Inv.ny(I:Inv X W T H s):∀x c,X.env.cells.lookup x=O c->c≠X.env.locals:=λx c e z=>by
 obtain⟨v,o,f,hd⟩:=I.cell x c e;obtain⟨m,⟨d,g,h,b,a,_⟩,_⟩:=I.loc
 grind
theorem Inv.jH(I:Inv X W T H s):s.heap.FunFrames X.base X.outer:=by
 have all:∀(l:Z Env),(∀b∈cC l,b∈X.fs)->X.b_.heap.FunFrames X.base l->s.heap.FunFrames X.base l:=by
  intro l;induction l with
  |nil=>intro _ _;trivial
  |cons env r g=>
   rintro f ⟨k,⟨L,o,a,j,i,hd⟩,h⟩;have d:=f L (by unfold cC;rw[Js,a];exact Yj);obtain⟨m,e⟩:=I.base.slot L o i (I.ok.oP L d) d λz=>I.ok.qe L z d;exact⟨k,⟨L,_,a,j,e,hd⟩,g (λb c=>f b (by unfold cC;rw[Js,a];exact Yv _ c)) h⟩
 exact all X.outer (λ_ c=>c) I.ok.jH
def Inv.stack(I:Inv X W T H s):s.heap.FunFrames X.base X.stack:=by
 rcases I.ok.wN with e|⟨e,b⟩;·exact e▸I.jH
 ·rw[e];obtain⟨m,a,_⟩:=I.loc;refine .cons (by rw[I.ok.kind];decide) b a ?_ I.jH;exact CO (Yz I.ok.l9 I.ok.above)
def Inv.Ia(I:Inv X W T H s):∀b∈cC X.stack,b∈X.env.locals::X.fs:=λb a=>by
 rcases I.ok.wN with e|⟨e,c⟩;·simp_all
 ·rw[e] at a;unfold cC at a;rw[Js,c] at a;exact a
def Inv.Bf(I:Inv X W T H s):∀b∈cC X.stack,H b=aI:=λb a=>by
 rcases Ys.mp (I.Ia b a) with e|a;·exact e▸I.free
 ·obtain⟨_,o,c,_⟩:=I.ok.jH.mem a;exact I.base.free b o c (I.ok.oP b a) λz=>I.ok.qe b z a
def Inv.step{g':cw GenState}{t':Nat}{d':Drawn}{ch:Z U}(I:Inv X W T H s)
  (D:∀b∈ch,(b∈X.ex\/X.b_.heap.objs.size<=b)/\b≠X.env.locals/\(∀x c,X.env.cells.lookup x=O c->c≠b)/\∀p∈X.pn++W,p.1≠b)
  (g:∀b o,b≠X.env.locals->b∉X.fs->b∉ch->s.heap.get? b=O o->H b=aI->h'.get? b=O o)
  (w:∀b o,b≠X.env.locals->b∈X.fs->b∉ch->s.heap.get? b=O o->H b=aI->∃N,h'.get? b=O {o with slots:=N})(f:∀b o,b∉ch->s.heap.get? b=O o->H b=aI->R b=aI)
  (y:∀b o,b∉ch->s.heap.get? b=O o->∃E,h'.get? b=O E)
  (gP:∀b t,H b=O (.tup t)->R b=O (.tup t))(ie:∀b o u,H b=O (.bp o u)->R b=O (.bp o u))(ig:∀b G,H b=O (.dz G)->∃more,R b=O (.dz (G++more)))
  (ns:∀m,s.heap.Ns X.env.locals m->h'.Ns X.env.locals m)(au:cZ X.prog X.w R h')(hg:AllBare g'):
  Inv X W T R {s with heap:=h',gens:=g',drawn:=d',toks:=t'}:=by
 have T_:∀b o,X.b_.heap.get? b=O o->b≠X.env.locals:=λb o e=>Y2 (Y5 (Yp e) I.ok.above);have J:∀b o,X.b_.heap.get? b=O o->b∉X.ex->b∉ch:=λb o e a A=>by
  rcases(D b A).1 with z|z;·exact a z
  ·exact absurd (Y5 (Yp e) z) (Wd _)
 have h:∀x c,X.env.cells.lookup x=O c->∀v,s.heap.IsCell c v->h'.IsCell c v:=λx c e v ⟨o,B,hd⟩=>by
  have C:=λz=>(D c z).2.2.1 x c e rfl;by_cases hc:c∈X.fs
  ·obtain⟨N,q⟩:=w c o (I.ny x c e) hc C B (I.ia x c e);exact⟨_,q,hd⟩
  ·exact⟨o,g c o (I.ny x c e) hc C B (I.ia x c e),hd⟩
 refine⟨I.ok,I.os,hg,⟨λb o e n A a=>?_,λb o e n A a=>?_,λb o e n a=>?_,λb o e a=>?_,λb t e=>gP b t (I.base.gP b t e),λb o t e=>ie b o t (I.base.ie b o t e),λb G e=>?_⟩,?_,λx c e=>?_,?_,λx c e=>?_,λp Q=>?_,au,I.len⟩;·exact g b o (T_ b o e) A (J b o e a) (I.base.keep b o e n A a) (I.base.free b o e n a)
 ·obtain⟨N,j⟩:=I.base.slot b o e n A a;obtain⟨L,F⟩:=w b _ (T_ b o e) A (J b o e a) j (I.base.free b o e n a);exact⟨L,F⟩
 ·obtain⟨E,j⟩:=I.base.there b o e a;exact f b E (J b o e a) j (I.base.free b o e n a)
 ·obtain⟨E,j⟩:=I.base.there b o e a;exact y b E (J b o e a) j
 ·obtain⟨m1,j⟩:=I.base.ig b G e;obtain⟨m2,F⟩:=ig b _ j;exact⟨m1++m2,by rw[F,Array.append_assoc]⟩
 ·obtain⟨m,hn,hl⟩:=I.loc;refine⟨m,ns m hn,λi x v j F e3=>?_⟩;obtain⟨u,r,l⟩:=hl i x v j F e3;refine⟨u,r,?_⟩;rcases l with l|⟨k,c,e,z⟩;·exact .inl l
  ·exact .inr ⟨k,c,e,h x c e _ z⟩
 ·obtain⟨v,z⟩:=I.cell x c e;exact⟨v,h x c e v z⟩
 ·obtain⟨m,⟨o,_,_,B,_⟩,_⟩:=I.loc;exact f _ o (λz=>(D _ z).2.1 rfl) B I.free
 ·obtain⟨v,o,B,hd⟩:=I.cell x c e;exact f c o (λz=>(D c z).2.2.1 x c e rfl) B (I.ia x c e)
 ·obtain⟨e,n,ne,P,d⟩:=I.pin p Q;have C:=λz=>(D p.1 z).2.2.2 p Q rfl;exact⟨g p.1 p.2 ne P C e n,f p.1 p.2 C e n,ne,P,d⟩
def Inv.un(I:Inv X W T H s)(u:Un X.fs [] H R s.heap h')(i:cZ X.prog X.w R h'):Inv X W T R {s with heap:=h',toks:=l}:=by
 obtain⟨m,⟨o,v,w,d,r⟩,_⟩:=id I.loc;obtain⟨p,h⟩:=u.any d I.free QS;exact I.step (g':=s.gens) (ch:=[]) (λ_ z=>nomatch z) (λb o _ a _ e n=>u.keep b o e n a QS) (λb o _ a _ e n=>u.slot b o e n a QS) (λb o _ e n=>u.free b o e n QS) (λb o _ e=>u.there b o e QS) u.gP u.ie u.ig (λt g=>by
  obtain⟨q,k,j,c,f⟩:=g;rw[d] at c;cases c;exact⟨_,k,j,h,f⟩) i I.bare
def Inv.call(I:Inv X W T H s)(u:Un (cC X.stack) ch H R s.heap h')(t:cZ X.prog X.w R h')(k:AllBare q)
  (g:∀b∈ch,(b∈X.ex\/X.b_.heap.objs.size<=b)/\b≠X.env.locals/\(∀x c,X.env.cells.lookup x=O c->c≠b)/\∀p∈X.pn++W,p.1≠b):
  Inv X W T R {s with heap:=h',gens:=q,drawn:=F,toks:=y}:=by
 obtain⟨m,⟨o,D,E,h,r⟩,_⟩:=id I.loc;obtain⟨A,d⟩:=u.any h I.free λz=>(g _ z).2.1 rfl;exact I.step g (λb o d l a e n=>u.keep b o e n (λz=>(Ys.mp (I.Ia b z)).elim d l) a) (λb o _ _ a e n=>u.any e n a) (λb o a e n=>u.free b o e n a) (λb o a e=>u.there b o e a) u.gP u.ie u.ig (λC j=>by
  obtain⟨B,w,v,f,i⟩:=j;rw[h] at f;cases f;exact⟨_,w,v,d,i⟩) t k
def Inv.turned(I:Inv X W T H s)(k:∀b o,b≠it->s.heap.get? b=O o->h'.get? b=O o)(h:H it=aI)(d:it≠X.env.locals)
  (w:it∈X.ex\/X.b_.heap.objs.size<=it)(t:∀x c,X.env.cells.lookup x=O c->c≠it)(l:∀p∈X.pn++W,p.1≠it):Inv X W T H {s with heap:=h',toks:=B}:=by
 have f:∀b u,H b=O u->b≠it:=λb u e z=>by rw[z,h] at e;cases e
 refine I.step (g':=s.gens) (ch:=[it]) (λb j=>?_) (λb o _ _ a e _=>k b o (λz=>a (by simp[z])) e) (λb o _ _ a e _=>⟨o.slots,k b o (λz=>a (by simp[z])) e⟩) (λ_ _ _ _ n=>n)
  (λb o a e=>⟨o,k b o (λz=>a (by simp[z])) e⟩) (λ_ _ e=>e) (λ_ _ _ e=>e) (λb C e=>⟨#[],by rw[e];simp⟩) (λm i=>?_) (λb u e=>?_) I.bare
 ·have e:b=it:=by simpa using j
  subst e;exact⟨w,d,t,l⟩
 ·obtain⟨o,y,A,g,r⟩:=i;exact⟨o,y,A,k _ o (d6 d) g,r⟩
 ·refine(I.au b u e).gO (λc v a q=>k c v ?_ q) (λ_ q=>q) λ_ _ q=>q;rcases a with z|z;·exact z▸f b u e
  ·exact f c _ z
def Inv.tok(I:Inv X W T H s)(t:Nat):Inv X W T H {s with toks:=t}:=I.un Un.refl I.au
def Inv.kept(I:Inv X W T H s)(k:∀b u,s.heap.get? b=O u->h'.get? b=O u):Inv X W T H {s with heap:=h',toks:=t'}:=I.un (Un.kept k) (I.au.kept k)
def Inv.laid(I:Inv X W T H s)(k:∀b u,s.heap.get? b=O u->h'.get? b=O u)(d:s.heap.objs.size<=a)(c:bY X.prog X.w (upd H a o) h' a o):
  Inv X W T (upd H a o) {s with heap:=h',toks:=t'}:=I.un (Un.laid k d (I.au.fresh d)) (I.au.laid k d c)
def Inv.write(I:Inv X W T H s)(d:zo (H x))(f:e=x\/H e=O (.own x))(k:∀b u,b≠e->s.heap.get? b=O u->h'.get? b=O u)(c:∃u,h'.get? e=O u)
  (a:bY X.prog X.w (upd H x o) h' x o):Inv X W T (upd H x o) {s with heap:=h',toks:=t'}:=I.un (Un.write d f k c) (I.au.write d f k c a)
def Inv.yp(I:Inv X W T H s)(h:∀p∈b,s.heap.get? p.1=O p.2/\H p.1=aI/\p.1≠X.env.locals/\p.1∉X.fs/\∀v,p.2.data≠.cell v):Inv X b T H s:=
 ⟨I.ok,I.os,I.bare,I.base,I.loc,I.cell,I.free,I.ia,λp a=>(Yu.mp a).elim (λz=>I.pin p (Yk _ z)) (h p),I.au,I.len⟩
def GR{N:Z af}(c:N.Nodup){i j:Nat}{x:af}(a:N[i]?=O x)(b:N[j]?=O x):i=j:=by
 obtain⟨g,e⟩:=Yf.mp a;obtain⟨f,d⟩:=Yf.mp b;exact(List.getElem_inj c).mp (e.trans d.symm)
def NM{f:Model}{A:dO}{E:aR}{i:Nat}{x:af}{v:V}{u:aV}{Q:Unit->a8->Prop}(I:Inv X W T H s)(hN:X.N.Nodup)(J:X.N[i]?=O x)(B:Loc X.env.scope x)(r:RelV v u)
  (h:∀s',Inv X W (T.set i (O v)) H s'->(∃a,Heap.SameBut a s.heap s'.heap/\(a=X.env.locals\/X.env.cells.lookup x=O a))->Q () s')(hf:X.fn x=ar\/X.env.scope.names.lookup x=O .local:=by first|exact .inl rfl|exact .inr rfl|assumption):wpAny f A (storeName X.env x u) Q E s:=by
 obtain⟨m,hn,hl⟩:=id I.loc;have Zhz:(X.env.scope.kind==.class||(X.env.scope.kind==.module&&X.env.locals !=X.env.globals))=aY:=by rw[I.ok.kind];rfl
 have S0:i<T.length:=by rw[I.len];exact(Yf.mp J).1
 have ny:=I.ny;have l:∀{a:U} {h':cm},(∃o,s.heap.get? a=O o/\H a=aI)->Heap.SameBut a s.heap h'->cZ X.prog X.w H h':=λ{a h'} ha g b ob e=>by
  obtain⟨_,_,R_⟩:=ha;refine(I.au b ob e).gO (λc L w q=>(g.2 c ?_).trans q) (λ_ q=>q) λ_ _ q=>q;rintro rfl;rcases w with rfl|w;·rw[R_] at e;cases e
  ·rw[R_] at w;cases w
 rcases B with D|D
 ·refine wpAny_storeName_local D hn (λh' Ub g=>?_) Zhz;obtain⟨oL,_,_,l_,_⟩:=id hn;refine h _ ⟨I.ok,I.os,I.bare,⟨λb o e n G B=>?_,λb o e n G B=>?_,I.base.free,λb o e B=>?_,I.base.gP,I.base.ie,I.base.ig⟩,⟨_,Ub,λj y P t C e3=>?_⟩,λy c e=>?_,I.free,I.ia,λp hp=>?_,l ⟨oL,l_,I.free⟩ g,by simpa using I.len⟩ ⟨_,g,.inl rfl⟩;·exact(g.2 b (Y2 (Y5 (Yp e) I.ok.above))).trans (I.base.keep b o e n G B)
  ·obtain⟨sl,t⟩:=I.base.slot b o e n G B;exact⟨sl,(g.2 b (Y2 (Y5 (Yp e) I.ok.above))).trans t⟩
  ·obtain⟨o',t⟩:=I.base.there b o e B;exact⟨o',(g.2 b (Y2 (Y5 (Yp e) I.ok.above))).trans t⟩
  ·by_cases F:j=i
   ·subst F;rw[J] at t;cases t;rw[z7 S0] at C;cases C;exact⟨u,r,.inl ⟨D,QS⟩⟩
   ·rw[Uc (d6 F)] at C;obtain⟨u',r',q⟩:=hl j y P t C e3;refine⟨u',r',?_⟩;rcases q with⟨k,e⟩|⟨k,c,e,z⟩
    ·refine .inl ⟨k,?_⟩;have:y≠x:=λe=>F (GR hN t (e▸J));simp[this,e]
    ·exact .inr ⟨k,c,e,z.sameBut g (ny y c e)⟩
  ·obtain⟨L,z⟩:=I.cell y c e;exact⟨L,z.sameBut g (ny y c e)⟩
  ·obtain⟨e,n,ne,nf,d⟩:=I.pin p hp;exact⟨(g.2 p.1 ne).trans e,n,ne,nf,d⟩
 ·have KG:X.fn x=ar:=by
   rcases hf with z|z;·exact z
   ·rw[z] at D;cases D
  obtain⟨c,w⟩:=I.ok.has x (.inl D);obtain⟨L,z⟩:=I.cell x c w;refine wpAny_storeName_cell I.ok.kind D w z (λh' CQ g=>?_);obtain⟨oc,Ud,ZhA⟩:=id z;refine h {s with heap:=h'} ⟨I.ok,I.os,I.bare,⟨λb o e n G B=>?_,λb o e n G B=>?_,I.base.free,λb o e B=>?_,I.base.gP,I.base.ie,I.base.ig⟩,⟨m,hn.sameBut g (d6 (ny x c w)),λj y P t C e3=>?_⟩,λy N e=>?_,I.free,I.ia,λp hp=>?_,l ⟨oc,Ud,I.ia x c w⟩ g,by simpa using I.len⟩ ⟨c,g,.inr w⟩;·exact(g.2 b (Y2 (Y5 (Yp e) (I.ok.uf x c KG w)))).trans (I.base.keep b o e n G B)
  ·obtain⟨sl,t⟩:=I.base.slot b o e n G B;exact⟨sl,(g.2 b (Y2 (Y5 (Yp e) (I.ok.uf x c KG w)))).trans t⟩
  ·obtain⟨o',t⟩:=I.base.there b o e B;exact⟨o',(g.2 b (Y2 (Y5 (Yp e) (I.ok.uf x c KG w)))).trans t⟩
  ·by_cases F:j=i
   ·subst F;rw[J] at t;cases t;rw[z7 S0] at C;cases C;exact⟨u,r,.inr ⟨.inl D,c,w,CQ⟩⟩
   ·rw[Uc (d6 F)] at C;obtain⟨u',r',q⟩:=hl j y P t C e3;refine⟨u',r',?_⟩;rcases q with q|⟨k,N,e,z'⟩;·exact .inl q
    ·refine .inr ⟨k,N,e,z'.sameBut g ?_⟩;rintro rfl;exact F (GR hN t (I.ok.inj _ _ _ e w▸J))
  ·by_cases Ue:N=c;·subst Ue;exact⟨_,CQ⟩
   ·obtain⟨w2,z2⟩:=I.cell y N e;exact⟨w2,z2.sameBut g Ue⟩
  ·obtain⟨e,n,ne,nf,d⟩:=I.pin p hp;refine⟨(g.2 p.1 ?_).trans e,n,ne,nf,d⟩;intro q;rw[q,Ud] at e;have q':=Yr e;exact d L (by rwa[←q'])
def A3{a:Model}{A:dO}{E:aR}{i:Nat}{x:af}{v:V}{u:aV}{Q:Unit->a8->Prop}(I:Inv X W T H s)(f:X.N.Nodup)(d:X.N[i]?=O x)(c:Loc X.env.scope x)(r:RelV v u)
  (h:∀b,Inv X W (T.set i (O v)) H b->Q () b)(e:X.fn x=ar\/X.env.scope.names.lookup x=O .local:=by first|exact .inl rfl|exact .inr rfl|assumption):wpAny a A (storeName X.env x u) Q E s:=
 NM I f d c r (λb g _=>h b g) e
def Inv.BO(I:Inv X W T H s)(d:s'.os=s.os)(u:Un (cC X.stack) ch H R s.heap s'.heap)(g:cZ X.prog X.w R s'.heap)(f:AllBare s'.gens)
  (a:∀b∈ch,(b∈X.ex\/X.b_.heap.objs.size<=b)/\b≠X.env.locals/\(∀x c,X.env.cells.lookup x=O c->c≠b)/\∀p∈X.pn++W,p.1≠b):Inv X W T R s':=by
 obtain⟨h',j,k,h,i⟩:=s';have e:=d;subst e;exact I.call u g f a
end
abbrev XK:=aV->bt U->Hp->Prop
abbrev St:=Z (bt V)
abbrev VK:=V->Hp->Prop
abbrev TE:=St->Hp->VK->Prop
abbrev TT:=St->Hp->(bA->Hp->Prop)->Prop
abbrev TA:=St->Hp->(Z V->Hp->Prop)->Prop
structure Ends where
 nx:St->Hp->Prop
 rt:VK
 bk:St->Hp->Prop:=λ_ _=>False
 ct:St->Hp->Prop:=λ_ _=>False
abbrev TS:=Ends->St->Hp->Prop
inductive S1(X:Cx)(a:aJ)(b:St)(Q:VK)(u:aV)(c:a8):Prop
 |mk (v d) (g:Inv X a b d c) (f:RelV v u) (e:Q v d):S1 X a b Q u c
def EP(X:Cx)(a:aJ)(b:St)(Q:VK)(u:aV)(c:a8):Prop:=S1 X a b Q u c
inductive S2(X:Cx)(a:aJ)(b:St)(R:Hp->Prop)(c:a8):Prop
 |mk (d:Hp) (f:Inv X a b d c) (e:R d):S2 X a b R c
def TP(X:Cx)(a:aJ)(c:St)(Q:bA->Hp->Prop)(b:bA)(d:a8):Prop:=S2 X a c (Q b) d
inductive S3(X:Cx)(a:aJ)(b:St)(Q:Z V->Hp->Prop)(d:Z aV)(e:a8):Prop
 |mk (c f) (i:Inv X a b f e) (h:Vals c d) (g:Q c f):S3 X a b Q d e
def AP(X:Cx)(a:aJ)(b:St)(Q:Z V->Hp->Prop)(c:Z aV)(d:a8):Prop:=S3 X a b Q c d
inductive tQ(X:Cx)(a:aJ)(Q:St->Hp->Prop)(b:a8):Prop
 |mk (c:St) (d:Hp) (f:Inv X a c d b) (e:Q c d):tQ X a Q b
inductive S4(X:Cx)(a:aJ)(Q:VK)(u:aV)(b:a8):Prop
 |mk (v:V) (d:St) (c:Hp) (g:Inv X a d c b) (f:RelV v u) (e:Q v c):S4 X a Q u b
def SP(X:Cx)(a:aJ)(D:Ends)(f:Flow)(b:a8):Prop:=
 match f with
 |.next=>tQ X a D.nx b
 |.brk=>tQ X a D.bk b
 |.cont=>tQ X a D.ct b
 |.ret u=>S4 X a D.rt u b
def PE(X:Cx)(e:bZ)(t:TE):Prop:=
 ∀(a:aJ) (s:a8) (b:St) (H:Hp) (Q:VK),Inv X a b H s->t b H Q->wpAny X.md X.A (eval e X.env) (EP X a b Q) X.xe s
def PT(X:Cx)(e:bZ)(t:TT):Prop:=
 ∀(a:aJ) (s:a8) (b:St) (H:Hp) (Q:bA->Hp->Prop),Inv X a b H s->t b H Q->wpAny X.md X.A (isTrue e X.env (eval e X.env)) (TP X a b Q) X.xe s
def PW(X:Cx)(e:bZ)(t:TT):Prop:=
 ∀(b:Sem aV) (a:aJ) (s:a8) (c:St) (H:Hp) (Q:bA->Hp->Prop),Inv X a c H s->t c H Q->wpAny X.md X.A (isTrue e X.env b) (TP X a c Q) X.xe s
def PW.pt(h:PW X e t):PT X e t:=h _
def PA(X:Cx)(d:Z bZ)(t:TA):Prop:=
 ∀(c:Pos) (a:aJ) (s:a8) (b:St) (H:Hp) (Q:Z V->Hp->Prop),Inv X a b H s->t b H Q->wpAny X.md X.A (spliced (backTo c (starEach d X.env))) (AP X a b Q) X.xe s
def PS(X:Cx)(c:bS)(t:TS):Prop:=
 ∀(a:aJ) (s:a8) (b:St) (H:Hp) (D:Ends),Inv X a b H s->t D b H->wpAny X.md X.A (exec c X.env) (SP X a D) X.xe s
def fR(X:Cx)(c:Z bS)(t:TS):Prop:=
 ∀(a:aJ) (s:a8) (b:St) (H:Hp) (D:Ends),Inv X a b H s->t D b H->wpAny X.md X.A (execs c X.env) (SP X a D) X.xe s
def aw(h:wpAny M A t Q E s)(b:∀a s,Q a s->c a s):wpAny M A t c E s:=cW h b λ_ _ x=>x
section
variable {X:Cx}
inductive QY(i:Nat)(a:St)(H:Hp)(Q:VK):Prop
 |mk (v) (c:a[i]?=O (O v)) (b:Q v H):QY i a H Q
def m8(i:Nat):TE:=λa H Q=>QY i a H Q
def tC(v:V):TE:=λ_ H Q=>Q v H
def Zfi{i:Nat}{x:af}{d:Pos}(t:X.N[i]?=O x)(n:ue X.env.scope x)(f:(x==("__debug__":af))=aY:=by decide)(w:(x==("__classdict__":af))=aY:=by decide):PE X (.Name x d) (m8 i):=by
 rintro b s k H Q I ⟨v,e,h⟩;obtain⟨m,o,q⟩:=I.loc;obtain⟨u,r,l⟩:=q i x v t e n;have fin:EP X b k Q u s:=⟨v,H,I,r,h⟩;rcases l with⟨a,p⟩|⟨a,c,g,j⟩;·exact v8 (Cd I.ok.kind a o p fin) f
 ·rcases a with a|a;·exact v8 (CP I.ok.kind a g j fin) f
  ·exact v8 (wpAny_loadName_free I.ok.kind a g j fin w) f
def aT:PE X (.Constant (.int i) j pos) (tC (.int i)):=λ_ _ _ H _ I h=>wpAny_Constant_int ⟨.int i,H,I.tok _,⟨_,rfl⟩,h⟩
def mY:PE X (.Constant (.bool b) j pos) (tC (.bl b)):=λ_ _ _ H _ I h=>Constant_bool ⟨.bl b,H,I,rfl,h⟩
def qW:PE X (.Constant .none j pos) (tC .aB):=λ_ _ _ H _ I h=>Constant_none ⟨.aB,H,I,rfl,h⟩
def dP:PE X (.Constant (.str x) j pos) (tC (.str x)):=λ_ _ _ H _ I h=>Calls.Constant_str ⟨.str x,H,I.tok _,⟨_,rfl⟩,h⟩
def Gl(X:Cx)(x:af):Prop:=X.env.kindOf x=O .globalImplicit
def sJ{E:aR}{a:aJ}{s:a8}{c:St}{H:Hp}{x:af}{u:aV}{b:Pos}{Q:aR}(I:Inv X a c H s)(e:Gl X x)(d:X.mg x=O u)(h:Q u s)
  (f:(x==("__debug__":af))=aY:=by decide):wpAny X.md X.A (eval (.Name x b) X.env) Q E s:=
 zp I.ok.kind e (Calls.loadGlobal_global (by exact I.ok.glob▸I.mod.glob.keeps I.bk) d h) f
def pW{E:aR}{a:aJ}{s:a8}{c:St}{H:Hp}{x:af}{u:aV}{b:Pos}{Q:aR}(I:Inv X a c H s)(g:Gl X x)(f:X.mg x=aI)(d:bootBuiltins x=O u)(h:Q u s)
  (e:x≠"__name__":=by decide)(i:(x==("__debug__":af))=aY:=by decide):wpAny X.md X.A (eval (.Name x b) X.env) Q E s:=by
 obtain⟨l,k,j⟩:=I.mod.blt;exact zp I.ok.kind g (Calls.loadGlobal_builtin (by exact I.ok.glob▸I.mod.glob.keeps I.bk) f (by exact I.ok.blt▸k.keeps I.bk) ((j x e).trans d) h) i
def eg{x:af}{v:V}{u:aV}{a:Pos}(c:Gl X x)(b:X.mg x=O u)(r:RelV v u)(d:(x==("__debug__":af))=aY:=by decide):PE X (.Name x a) (tC v):=
 λ_ _ _ H _ I h=>sJ I c b ⟨v,H,I,r,h⟩ d
def ZdZ{x:af}{v:V}{u:aV}{a:Pos}(e:Gl X x)(d:X.mg x=aI)(b:bootBuiltins x=O u)(r:RelV v u)(c:x≠"__name__":=by decide)(f:(x==("__debug__":af))=aY:=by decide):PE X (.Name x a) (tC v):=
 λ_ _ _ H _ I h=>pW I e d b ⟨v,H,I,r,h⟩ c f
variable {a b:bZ}{W T:TE}{pos:Pos}
def PC(X:Cx)(e:CmpOp)(a b:bZ)(t:TE):Prop:=
 ∀(c:aJ) (s:a8) (d:St) (H:Hp) (Q:VK),Inv X c d H s->t d H Q->
  wpAny X.md X.A (eval a X.env) (λv g=>wpAny X.md X.A (eval b X.env) (λu f=>wpAny X.md X.A (compareOp e v u) (EP X c d Q) X.xe f) X.xe g) X.xe s
inductive S5(Q:bA->Hp->Prop)(x:V)(d:Hp):Prop
 |mk (c) (f:x=.bl c) (e:Q c d):S5 Q x d
def tB(t:TE):TT:=λc H Q=>t c H λx d=>S5 Q x d
def Zfj{d:CmpOp}{t:TE}(h:PC X d a b t)(g:behindInMarks d b=aY:=by first|exact i _ QD QD|rfl):PE X (.Compare a [d] [b] pos) t:=λc s e H Q I f=>Pw (h c s e H Q I f) g
def mV{f:CmpOp}{t:TE}(h:PC X f a b t)(g:behindInMarks f b=aY:=by first|exact o _ QD QD|rfl):PT X (.Compare a [f] [b] pos) (tB t):=by
 intro e s i H Q I m;refine BW (aw (h e s i H _ I m) λv z g=>aw g λu y n=>aw n λc w j=>?_) g;obtain⟨x,r,p,k,l⟩:=j;obtain⟨d,rfl,q⟩:=l;cases k;exact kj ⟨r,p,q⟩
def hU{e:bZ}{t:TE}(h:PE X e t)(m:∀c,isTrue e X.env c=(do let v←c;standAt e.pos;holding [v] (truthy v)):=by intro _;rfl):PT X e (tB t):=by
 intro f s g H Q I l;refine isTrue_plain (aw (h f s g H _ I l) λv p i=>?_) (m _);obtain⟨x,o,n,j,k⟩:=i;obtain⟨d,rfl,q⟩:=k;cases j;exact kj ⟨o,n,q⟩
def S6(t u:TT):TT:=λd H Q=>t d H λc e=>if c=ar then u d e Q else Q aY e
def tOr(t u:TT):TT:=λd H Q=>t d H λc e=>if c=ar then Q ar e else u d e Q
def ZhB(t:TT):TT:=λd H Q=>t d H λc e=>Q (!c) e
theorem pw_and1(g:PT X a tA):PW X (.BoolOp .And [a] pos) tA:=by
 intro i d s f H Q I h;refine isTrue_and (aw (g d s f H Q I h) λc j e=>?_);cases c with
 |true=>exact isTrue_and_nil e
 |false=>exact e
theorem pw_or1(g:PT X a tA):PW X (.BoolOp .Or [a] pos) tA:=by
 intro i d s f H Q I h;refine isTrue_or (aw (g d s f H Q I h) λc j e=>?_);cases c with
 |false=>exact isTrue_or_nil e
 |true=>exact e
theorem pw_and(o:PT X a l)(n:PW X (.BoolOp .And (b::rest) pos) p):PW X (.BoolOp .And (a::b::rest) pos) (S6 l p):=by
 intro k d s e H Q I h;refine isTrue_and (aw (o d s e H _ I h) λc m j=>?_);obtain⟨i,g,f⟩:=j;cases c with
 |true=>exact n k d m e i Q g f
 |false=>exact⟨i,g,f⟩
theorem pw_or(o:PT X a l)(n:PW X (.BoolOp .Or (b::rest) pos) p):PW X (.BoolOp .Or (a::b::rest) pos) (tOr l p):=by
 intro k d s e H Q I h;refine isTrue_or (aw (o d s e H _ I h) λc m j=>?_);obtain⟨i,g,f⟩:=j;cases c with
 |true=>exact⟨i,g,f⟩
 |false=>exact n k d m e i Q g f
def kK(g:PT X a f):PT X (.UnaryOp .Not a pos) (ZhB f):=by
 intro d s e H Q I h;exact isTrue_not (g d s e H (λc i=>Q (!c) i) I h)
def ZgK(W T:TE):TE:=λd H Q=>W d H λx e=>∃c,x=.bl c/\if c=ar then T d e Q else Q (.bl aY) e
def ZhC(W T:TE):TE:=λd H Q=>W d H λx e=>∃c,x=.bl c/\if c=ar then Q (.bl ar) e else T d e Q
def ZgL(W:TE):TE:=λd H Q=>W d H λx e=>∃c,x=.bl c/\Q (.bl (!c)) e
def sR(h:PE X a t):PE X (.BoolOp op [a] pos) t:=λc s d H Q I e=>BoolOp_one (h c s d H Q I e)
theorem vV(n:PE X a W)(m:PE X (.BoolOp .And (b::rest) pos) T):PE X (.BoolOp .And (a::b::rest) pos) (ZgK W T):=by
 intro d s f H Q I h;refine BoolOp_and (aw (n d s f H _ I h) λv k j=>?_);obtain⟨x,i,g,l,e⟩:=j;obtain⟨c,rfl,e⟩:=e;cases l;refine kj ?_;cases c with
 |true=>exact m d k f i Q g e
 |false=>exact⟨.bl aY,i,g,rfl,e⟩
theorem Sa(n:PE X a W)(m:PE X (.BoolOp .Or (b::rest) pos) T):PE X (.BoolOp .Or (a::b::rest) pos) (ZhC W T):=by
 intro d s f H Q I h;refine BoolOp_or (aw (n d s f H _ I h) λv k j=>?_);obtain⟨x,i,g,l,e⟩:=j;obtain⟨c,rfl,e⟩:=e;cases l;refine kj ?_;cases c with
 |false=>exact m d k f i Q g e
 |true=>exact⟨.bl ar,i,g,rfl,e⟩
def Zfk(j:PE X a W):PE X (.UnaryOp .Not a pos) (ZgL W):=by
 intro d s f H Q I h;refine UnaryOp_ (aw (j d s f H _ I h) λv m g=>?_);obtain⟨x,l,k,i,e⟩:=g;obtain⟨c,rfl,e⟩:=e;cases i;exact not_of (kj ⟨.bl (!c),l,k,rfl,e⟩)
def tIf(t:TT)(W T:TE):TE:=λd H Q=>t d H λc e=>if c=ar then W d e Q else T d e Q
theorem Zcq(n:PT X c m)(p:PE X a W)(o:PE X b T):PE X (.IfExp c a b pos) (tIf m W T):=by
 intro e s f H Q I h;refine wpAny_IfExp (aw (n e s f H _ I h) λd g l=>?_);obtain⟨k,j,i⟩:=l;cases d with
 |true=>exact p e g f k Q j i
 |false=>exact o e g f k Q j i
end
def aj(K:ae)(H:Hp)(a:U)(c:Z V):Prop:=
 Rd H a (.lst c)\/
  ∃(o:Obj) (b:cw aV) (n:Nat),K.lookup a=O o/\o.cls=.type "list"/\o.dict=aI/\o.data=.seq b n/\b.size<=sizeLine/\Vals c b.toList
def aK(K:ae)(H:Hp)(a:U)(c:Z V):Prop:=
 Rd H a (.tup c)\/
  ∃(o:Obj) (b:cw aV) (n:Nat),K.lookup a=O o/\o.cls=.type "tuple"/\o.data=.seq b n/\b.size<=sizeLine/\Vals c b.toList
def ZhD:aV->bt V
 |.none=>O .aB
 |.bool b=>O (.bl b)
 |.int i _=>O (.int i)
 |.str x _=>O (.str x)
 |.bytes b _=>O (.ke b)
 |.float b _=>O (.oN b)
 |.ref a=>O (.ref a)
 |.type n=>O (.ty n)
 |_=>aI
theorem RelV.abs(r:RelV x u):ZhD u=O x:=by
 cases x with
 |aB=>cases r;rfl
 |bl _=>cases r;rfl
 |int _=>obtain⟨t,rfl⟩:=r;rfl
 |str _=>obtain⟨t,rfl⟩:=r;rfl
 |ke _=>obtain⟨t,rfl⟩:=r;rfl
 |oN _=>obtain⟨t,rfl⟩:=r;rfl
 |ref _=>cases r;rfl
 |ty _=>cases r;rfl
def RelV.inj(r:RelV x u)(q:RelV y u):x=y:=Yr (r.abs.symm.trans q.abs)
theorem Vals.inj:∀{a ys:Z V} {b:Z aV},Vals a b->Vals ys b->a=ys:=by
 intro a ys b h;induction h generalizing ys with
 |nil=>intro c;cases c;rfl
 |cons r t f=>
  intro c;cases c with
  |cons e d=>rw[r.inj e,f d]
def aj.of{K:ae}(h:H a=O (.lst xs)):aj K H a xs:=.inl (.inl h)
def aK.of{K:ae}(h:H a=O (.tup xs)):aK K H a xs:=.inl (.inl h)
def Inv.list(I:Inv X pins σ H s)(h:aj X.K H a xs):∃b:Z aV,Vals xs b/\PlainL s.heap a b.toArray/\xs.length<=sizeLine:=by
 rcases h with h|⟨o,b,n,d,f,hd,c,g,r⟩
 ·obtain⟨z,b,n,r,e⟩:=h.ok I.au;exact⟨b,r,⟨_,n,e,rfl,rfl,rfl⟩,z⟩
 ·refine⟨b.toList,r,⟨o,n,I.bM a o d,f,hd,by simpa using c⟩,?_⟩;have e:=r.length
  simp_all
def Inv.tuple(I:Inv X pins σ H s)(h:aK X.K H a xs):∃b:Z aV,Vals xs b/\IsTup s.heap a b.toArray/\xs.length<=sizeLine:=by
 rcases h with h|⟨o,b,n,d,f,c,g,r⟩
 ·obtain⟨z,b,r,p⟩:=h.ok I.au;exact⟨b,r,p.tup,z⟩
 ·refine⟨b.toList,r,⟨o,I.bM a o d,f,n,by simpa using c⟩,?_⟩;have e:=r.length
  simp_all
def Inv.Zcr(I:Inv X pins σ H s)(h:aj X.K H a xs)(g:aj X.K H a ys):xs=ys:=by
 obtain⟨j,r,⟨o,n,e,_,_,d⟩,_⟩:=I.list h;obtain⟨mD,f,⟨k,l,b,_,_,c⟩,_⟩:=I.list g;rw[e] at b;cases b;rw[d] at c;injection c with i _;have:j=mD:=by simpa using de Array.toList i
 subst this;exact r.inj f
def Inv.Zbx(I:Inv X pins σ H s)(h:aK X.K H a xs)(g:aK X.K H a ys):xs=ys:=by
 obtain⟨j,r,⟨o,e,_,n,d⟩,_⟩:=I.tuple h;obtain⟨mD,f,⟨k,b,_,l,c⟩,_⟩:=I.tuple g;rw[e] at b;cases b;rw[d] at c;injection c with i _;have:j=mD:=by simpa using de Array.toList i
 subst this;exact r.inj f
abbrev Cx.kP(X:Cx)(E:aR):Cx:={X with xe:=E}
abbrev Cx.oR(X:Cx):Cx:=X.kP λ_ _=>False
def Cx.Ok.kP{X:Cx}(a:X.Ok)(E:aR):(X.kP E).Ok:=
 ⟨a.mod,a.kind,a.glob,a.blt,a.above,a.inj,a.has,a.uf,a.hd,a.frames,a.wN,a.oO,a.bs,a.l9,a.tP,a.qe,a.jH,a.oP⟩
def Cx.Ok.qX{X:Cx}(a:(X.kP E).Ok):X.Ok:=
 ⟨a.mod,a.kind,a.glob,a.blt,a.above,a.inj,a.has,a.uf,a.hd,a.frames,a.wN,a.oO,a.bs,a.l9,a.tP,a.qe,a.jH,a.oP⟩
def Inv.kP(I:Inv X pins σ H s)(E:aR):Inv (X.kP E) pins σ H s:=⟨I.ok.kP E,I.os,I.bare,I.base,I.loc,I.cell,I.free,I.ia,I.pin,I.au,I.len⟩
def Inv.qX(I:Inv (X.kP E) pins σ H s):Inv X pins σ H s:=⟨I.ok.qX,I.os,I.bare,I.base,I.loc,I.cell,I.free,I.ia,I.pin,I.au,I.len⟩
theorem SP.qX(h:SP (X.kP E) pins D f s'):SP X pins D f s':=by
 cases f with
 |next=>obtain⟨a,b,I,q⟩:=h;exact⟨a,b,I.qX,q⟩
 |brk=>obtain⟨a,b,I,q⟩:=h;exact⟨a,b,I.qX,q⟩
 |cont=>obtain⟨a,b,I,q⟩:=h;exact⟨a,b,I.qX,q⟩
 |ret u=>obtain⟨v,a,b,I,r,q⟩:=h;exact⟨v,a,b,I.qX,r,q⟩
def fR.oR{b:Z bS}(h:fR X.oR b t):fR X b t:=λa s c H D I d=>
 cW (h a s c H D (I.kP _) d) (λ_ _ q=>q.qX) λ_ _ z=>False.elim z
section
variable {X:Cx}{st:bS}{t u:TS}{e:bZ}{W:TE}{pos:Pos}
def Sb:TS:=λD a H=>D.nx a H
def tR(t u:TS):TS:=λD a H=>t {D with nx:=u D} a H
def bI:fR X [] Sb:=λ_ _ a H _ I h=>ro ⟨a,H,I,h⟩
theorem av(g:PS X st t)(d:fR X rest u):fR X (st::rest) (tR t u):=by
 intro a s b H D I h;refine Lm (aw (g a s b H {D with nx:=u D} I h) λf c q=>?_);cases f with
 |next=>
  obtain⟨i,k,j,q⟩:=q;exact d a c i k D j q
 |ret v=>exact q
 |brk=>exact q
 |cont=>exact q
theorem aC(c:PS X st t):fR X [st] t:=by
 intro a s b H D I h;refine Lm (aw (c a s b H D I h) λf d q=>?_);cases f with
 |next=>exact ro q
 |ret v=>exact q
 |brk=>exact q
 |cont=>exact q
def Inv.quiet(I:Inv X pins σ H s):interactive X.env=aY:=by simp[interactive,I.ok.kind]
def ZgM(W:TE):TS:=λD a H=>W a H λ_ b=>D.nx a b
def cu(f:PE X e W)(d:swapsWith e aI pos.line X.env=pure aY:=by rfl):PS X (.Expr e pos) (ZgM W):=by
 intro a s b H D I h;exact wpAny_Expr_any (aw (f a s b H _ I h) λv j ⟨x,i,g,k,c⟩=>⟨b,i,g,c⟩) I.quiet d
def ZhE(W:TE):TS:=λD a H=>W a H D.rt
def aX(f:PE X e W):PS X (.Return (O e) pos) (ZhE W):=by
 intro a s b H D I h;exact wpAny_Return_some (aw (f a s b H _ I h) λv j ⟨x,i,g,c,d⟩=>⟨x,b,i,g,c,d⟩)
def JO(c:TT)(t u:TS):TS:=λD a H=>c a H λb d=>if b=ar then t D a d else u D a d
theorem bw(o:PT X c n)(q:fR X a t)(p:fR X b u):PS X (.If c a b pos) (JO n t u):=by
 intro f s g H D I h;refine wpAny_If (aw (o f s g H _ I h) λd i m=>?_);obtain⟨l,k,j⟩:=m;cases d with
 |true=>exact q f i g l D k j
 |false=>exact p f i g l D k j
def Zfl:TS:=λ_ _ _=>False
def iF:fR X a Zfl:=λ_ _ _ _ _ _ h=>h.elim
end
abbrev TG:=V->St->Hp->(St->Hp->Prop)->Prop
abbrev oS:=Z V->St->Hp->(St->Hp->Prop)->Prop
def PG(X:Cx)(a:bZ)(t:TG):Prop:=
 ∀(b:aJ) (s:a8) (c:St) (H:Hp) (v:V) (u:aV) (Q:St->Hp->Prop),Inv X b c H s->RelV v u->t v c H Q->
  wpAny X.md X.A (assign a X.env u) (λ_ d=>tQ X b Q d) X.xe s
def zu(X:Cx)(e:Z bZ)(t:oS):Prop:=
 ∀(a:aJ) (s:a8) (b:St) (H:Hp) (c:Z V) (d:Z aV) (Q:St->Hp->Prop),Inv X a b H s->Vals c d->t c b H Q->
  wpAny X.md X.A (assignInOrder ((assignEach e X.env).map (·.2)) d) (λ_ f=>tQ X a Q f) X.xe s
abbrev JP:=V->V->V->Hp->(Hp->Prop)->Prop
def tS(X:Cx)(t:JP):Prop:=
 ∀(a:aJ) (s:a8) (b:St) (H:Hp) (o i v:V) (c d u:aV) (Q:Hp->Prop),Inv X a b H s->RelV o c->RelV i d->RelV v u->t o i v H Q->
  wpAny X.md X.A (setItem c d u) (λ_ f=>∃e,Inv X a b e f/\Q e) X.xe s
abbrev CT:=V->V->Hp->VK->Prop
def Ug(X:Cx)(c:Operator)(t:CT):Prop:=
 ∀(a:aJ) (s:a8) (b:St) (H:Hp) (x y:V) (v u:aV) (Q:VK),Inv X a b H s->RelV x v->RelV y u->t x y H Q->
  wpAny X.md X.A (inplaceOp c v u) (EP X a b Q) X.xe s
section
variable {X:Cx}{pos:Pos}
def lQ(i:Nat):TG:=λv a H Q=>Q (a.set i (O v)) H
def jT{i:Nat}{x:af}(e:X.N.Nodup)(c:X.N[i]?=O x)(b:Loc X.env.scope x)(d:X.fn x=ar\/X.env.scope.names.lookup x=O .local:=by first|exact .inl rfl|exact .inr rfl|assumption):PG X (.Name x pos) (lQ i):=by
 intro a s g H v u Q I r h;exact G2 (A3 I e c b r (λj f=>⟨_,H,f,h⟩) d)
def S7:oS:=λb a H Q=>b=[]/\Q a H
inductive Pt(t:TG)(u:oS)(b:Z V)(a:St)(H:Hp)(Q:St->Hp->Prop):Prop
 |mk (v r) (f:b=v::r) (e:t v a H λc d=>u r c d Q):Pt t u b a H Q
def IQ(t:TG)(u:oS):oS:=λb a H Q=>Pt t u b a H Q
def mT:zu X [] S7:=by
 rintro a s b H c d Q I r ⟨e,h⟩;subst e;exact assignInOrder_nil ⟨b,H,I,h⟩
theorem cS{e:bZ}{b:Z bZ}{t:TG}{u:oS}(l:PG X e t)(k:zu X b u)
  (j:(assignEach (e::b) X.env).map (·.2)=assign e X.env::(assignEach b X.env).map (·.2):=by rfl):zu X (e::b) (IQ t u):=by
 rintro a s c H p w Q I r ⟨v,q,m,h⟩;subst m;cases r with
 |cons r g=>
  exact j▸assignInOrder_cons (aw (l a s c H _ _ _ I r h) λ_ f ⟨d,o,n,i⟩=>k a f d o _ _ Q n g i)
inductive QZ(K:ae)(n:Nat)(t:oS)(v:V)(c:St)(H:Hp)(Q:St->Hp->Prop):Prop
 |mk (a b) (g:v=.ref a) (f:aK K H a b) (e:b.length=n) (d:t b c H Q):QZ K n t v c H Q
def JQ(K:ae)(n:Nat)(t:oS):TG:=λv a H Q=>QZ K n t v a H Q
def Zfm{d:Z bZ}{k:Nat}{t:oS}{n:Nat}(x:X.calm=ar)(h:zu X d t)
  (q:(assignEach d X.env).length=n:=by rfl)(z:(assignEach d X.env).findIdx? (·.1)=aI:=by rfl):PG X (.Tuple d k pos) (JQ X.K n t):=by
 rintro c s g H v u Q I r ⟨a,i,y,p,w,l⟩;subst y;cases r;obtain⟨C,f,m,A⟩:=I.tuple p;exact assign_Tuple_tuple (I.ok.hd x) m (by simp[q,←w,f.length]) z λB j=>h c _ g H i _ Q (I.kept λb o e=>j b o (Y2 (Yp e)) e) (by simpa using f) l
def S8(b c:TE)(t:JP):TG:=λv a H Q=>b a H λo f=>c a f λi e=>t o i v e λd=>Q a d
def Zfn{o i:bZ}{e f:TE}{t:JP}(w:PE X o e)(z:PE X i f)(q:tS X t)
  (J:∀v,assign (.Subscript o i pos) X.env v=(do
   let b←holding [v] (eval o X.env);let c←holding [v,b] (eval i X.env)
   standAt pos
   holding [v,b,c] (setItem b c v)
   release [v,b,c] []):=by intro _;rfl):PG X (.Subscript o i pos) (S8 e f t):=by
 intro a s d H v u Q I r h;exact a7 (fx (aw (w a s d H _ I h) λb j ⟨x,F,C,l,p⟩=>a7 (fx (aw (z a j d F _ C p) λc g ⟨y,E,B,k,n⟩=>a7 (gU (a7 (fx (aw (q a g d E x y v b c u _ B l k r n) λ_ G ⟨D,A,m⟩=>wpAny_release ⟨d,D,A,m⟩))))))))
def tU(b:TE)(g:TG):TS:=λD a H=>b a H λx c=>g x a c D.nx
def sS{b e:bZ}{d:TE}{g:TG}(o:PE X e d)(n:PG X b g)(m:swapsWithSole [b] e pos.line X.env=pure aY:=by rfl)(l:swappedStores [b] e X.env=pure aI:=by rfl)
  (p:(assignEach [b] X.env).map (·.2)=[assign b X.env]:=by rfl):PS X (.Assign [b] e pos) (tU d g):=by
 intro a s c H D I h;refine wpAny_Assign_stores (aw (o a s c H _ I h) λv i f=>?_) m l;obtain⟨x,t,r,j,k⟩:=f;exact p▸aw (n a i c t x v _ r j k) λ_ u q=>q
def fh{i:Nat}{x:af}{e:bZ}{c:TE}{a:Pos}(p:X.N.Nodup)(m:X.N[i]?=O x)(k:Loc X.env.scope x)(o:PE X e c)(l:swapsWith e (O (.Name x a)) pos.line X.env=pure aY:=by rfl)(n:X.fn x=ar\/X.env.scope.names.lookup x=O .local:=by first|exact .inl rfl|exact .inr rfl|assumption):
  PS X (.Assign [.Name x a] e pos) (tU c (lQ i)):=by
 intro b s d H D I h;refine wpAny_Assign_Name (aw (o b s d H _ I h) λv w f=>?_) l;obtain⟨y,t,r,g,j⟩:=f;exact A3 r p m k g (λu q=>⟨_,t,q,j⟩) n
def ZhF(i:Nat)(c:TE)(b:CT):TS:=λD a H=>∃x,a[i]?=O (O x)/\c a H λy e=>b x y e λz d=>D.nx (a.set i (O z)) d
def Q0{i:Nat}{x:af}{e:bZ}{o:TE}{f:Operator}{n:CT}{d:Pos}(R:X.N.Nodup)(p:X.N[i]?=O x)(g:Loc X.env.scope x)(P:PE X e o)(F:Ug X f n)(N:X.fn x=ar\/X.env.scope.names.lookup x=O .local:=by first|exact .inl rfl|exact .inr rfl|assumption):
  PS X (.AugAssign (.Name x d) f e pos) (ZhF i o n):=by
 rintro a s j H D I ⟨v,T,h⟩;obtain⟨m,G,L⟩:=I.loc;have KH:ue X.env.scope x:=by rcases g with k|k;exact .inl k;exact .inr (.inl k)
 obtain⟨u,r,l⟩:=L i x v p T KH;refine wpAny_AugAssign_Name ?_;have q:wpAny X.md X.A (eval e X.env) (λw W=>wpAny X.md X.A (inplaceOp f u w) (λr cI=>wpAny X.md X.A (storeName X.env x r) (λ_=>SP X a D .next) X.xe cI) X.xe W) X.xe s:=aw (P a s j H _ I h) λw t ⟨y,H1,I1,B,E⟩=>aw (F a t j H1 v y u w _ I1 r B E) λz s2 ⟨zv,H2,I2,A,C⟩=>A3 I2 R p g A (λs3 I3=>⟨_,H2,I3,C⟩) N;rcases l with⟨b,J⟩|⟨b,c,Q,BP⟩;·exact Cd I.ok.kind b G J q
 ·rcases b with b|b;·exact CP I.ok.kind b Q BP q
  ·rcases g with k|k
   ·have:X.env.scope.names.lookup x=O .free:=b
    grind
   ·have:X.env.scope.names.lookup x=O .free:=b
    grind
inductive Se(f:Int->Int->Int)(x:V)(y:V)(H:Hp)(Q:VK):Prop
 |mk (i j) (c:x=.int i) (b:y=.int j) (a:Q (.int (f i j)) H):Se f x y H Q
def ipI(f:Int->Int->Int):CT:=λx y H Q=>Se f x y H Q
def Q3:Ug X .Add (ipI λi j=>i+j):=by
 rintro a s f H x y v u Q I c b ⟨i,j,e,d,q⟩;subst e;subst d;obtain⟨t,rfl⟩:=c;obtain⟨g,rfl⟩:=b;exact iadd_int ⟨.int _,H,I.tok _,⟨_,rfl⟩,q⟩
end
def Q4(c:TT)(h:TS):TS:=λD a H=>∃W:Nat->St->Hp->Prop,(∃m,W m a H)/\∀m a H,W m a H->
 c a H λb f=>if b=ar then ∃N:St->Hp->Prop,(∀e g,N e g->∃d,d<m/\W d e g)/\h {D with nx:=N,ct:=N,bk:=D.nx} a f else D.nx a f
theorem GS(r:PassesOwn X.md X.A X.env X.xe)(P:PT X c C)(Q:fR X body E):PS X (.While c body [] pos) (Q4 C E):=by
 intro a s y H D I h;obtain⟨W,⟨L,B⟩,d⟩:=h;refine wpAny_While (codeAny_whileLoop (λn J=>tQ X a (W n) J) ?_ L ⟨y,H,I,B⟩);rintro n G ⟨i,x,R,A⟩;refine l8 r (aw (P a G i x _ R (d n i x A)) λb F z=>?_);obtain⟨w,u,k⟩:=z;cases b with
 |true=>
  obtain⟨N,t,k⟩:=k;rw[br rfl];refine l8 r (aw (Q a F i w _ u k) λf T j=>?_);cases f with
  |next=>
   obtain⟨e,g,q,m⟩:=j;obtain⟨o,p,l⟩:=t e g m;exact⟨o,p,e,g,q,l⟩
  |cont=>
   obtain⟨e,g,q,m⟩:=j;obtain⟨o,p,l⟩:=t e g m;exact⟨o,p,e,g,q,l⟩
  |brk=>exact j
  |ret v=>exact j
 |false=>
  rw[bb Yo];exact ro ⟨i,w,u,k⟩
structure It where
 go:Nat->Hp->Prop
 qm:Nat->Hp->V->Hp->Prop
 stop:Nat->Hp->Prop
def gm(X:Cx)(a:aJ)(H:Hp)(b:U):Prop:=
 H b=aI/\b≠X.env.locals/\b∉X.fs/\(b∈X.ex\/X.b_.heap.objs.size<=b)/\(∀x c,X.env.cells.lookup x=O c->c≠b)/\∀p∈X.pn++a,p.1≠b
def Inv.qf(I:Inv X pins σ H s)(a:s.heap.objs.size<=b)(f:g b=aI):gm X pins g b:=by
 refine⟨f,W1 (Y5 I.lt a),I.SY a,.inr (Yz I.sz a),λx c e z=>?_,λp d z=>?_⟩
 ·obtain⟨v,q⟩:=I.cell x c e;exact absurd (Y5 q.lt (by rwa[z])) (Wd _)
 ·exact absurd (Y5 (Yp (I.pin p d).1) (by rwa[z])) (Wd _)
structure Turn(P:c6)(w:cD)(K:ae)(tg:bZ)(J:It)(fp:Z U)(it:U)(tn:Nat->cm->Prop):Prop where
 mem:it∈fp
 obj:∀i h,tn i h->∀b∈fp,∃o,h.get? b=O o/\∀v,o.data≠.cell v
 keep:∀i h h',tn i h->(∀b∈fp,∀o,h.get? b=O o->h'.get? b=O o)->tn i h'
 item:∀(X:Cx),X.prog=P->X.w=w->X.K=K->X.calm=ar->∀(i:Nat) (pins:aJ) (s:a8) (σ:St) (H:Hp) (E:aR),Inv X pins σ H s->(∀b∈fp,gm X pins H b)->tn i s.heap->J.go i H->
  wpAny (model P w) X.A (pyNext (.ref it)) (λr s1=>∃u,r=O u/\
   wpAny (model P w) X.A (letOwnedTupleGo tg (.ref it) u) (λ_ s2=>∃x H',Inv X pins σ H' s2/\RelV x u/\J.qm i H x H'/\tn (i+1) s2.heap/\∀b∈fp,H' b=aI) E s1) E s
 done:∀(X:Cx),X.prog=P->X.w=w->X.K=K->X.calm=ar->∀(i:Nat) (pins:aJ) (s:a8) (σ:St) (H:Hp) (E:aR),Inv X pins σ H s->(∀b∈fp,gm X pins H b)->tn i s.heap->J.stop i H->
  wpAny (model P w) X.A (pyNext (.ref it)) (λr s1=>r=aI/\Inv X pins σ H s1) E s
 self:∀(A:dO) (i:Nat) (s:a8) (Q:aR) (E:aR),tn i s.heap->Q (.ref it) s->wpAny (model P w) A (pyIter (.ref it)) Q E s
abbrev TI:=St->Hp->(It->Hp->Prop)->Prop
def Uh(X:Cx)(a:aJ)(g:St)(h:bZ)(R:It->Hp->Prop)(i:aV)(e:a8):Prop:=
 ∃(f:U) (fp:Z U) (d:Nat->cm->Prop) (J:It) (c:Hp),i=.ref f/\Inv X a g c e/\Turn X.prog X.w X.K h J fp f d/\d 0 e.heap/\(∀b∈fp,gm X a c b)/\R J c
def PI(X:Cx)(e b:bZ)(d:TI):Prop:=
 ∀(a:aJ) (s:a8) (c:St) (H:Hp) (R:It->Hp->Prop),Inv X a c H s->d c H R->
  wpAny X.md X.A (eval b X.env) (λv f=>wpAny X.md X.A (pyIter v) (Uh X a c e R) X.xe f) X.xe s
theorem tG(d:s.heap.get? it=O o)(g:o.cls=.type n)(f:o.data=.fields b)
    (e:["enumerate","zip","dict_itemiterator","dict_reverseitemiterator","odict_iterator","itertools.zip_longest","itertools.pairwise"].contains n=aY)(a:Q () s):wpAny M A (letOwnedTupleGo c (.ref it) u) Q E s:=by
  unfold letOwnedTupleGo;cases c <;> first
    | exact cb a
    | (cases u <;> first
        | exact cb a
        | (refine a7 (wpAny_load d ?_)
           rw [g,f];show wpAny M A (if (["enumerate","zip","dict_itemiterator","dict_reverseitemiterator","odict_iterator","itertools.zip_longest","itertools.pairwise"].contains n&&b[0]? == O (rawInt _))=ar then _ else _) Q E s;rw [bb (by intro h; rw [e,SF] at h; cases h)];exact cb a))
def kg(K:ae)(a:U):It:=
 ⟨λi H=>∃b x,aj K H a b/\b[i]?=O x,λi H x c=>c=H/\∀b,aj K H a b->b[i]?=O x,λi H=>∃b,aj K H a b/\b.length<=i⟩
def wR(K:ae)(a:U):It:=
 ⟨λi H=>∃b x,aK K H a b/\b[i]?=O x,λi H x c=>c=H/\∀b,aK K H a b->b[i]?=O x,λi H=>∃b,aK K H a b/\b.length<=i⟩
def rJ(a:Int)(n:Nat):It:=⟨λi _=>i<n,λi H x b=>b=H/\x=.int (a+i),λi _=>n<=i⟩
theorem NN{P:c6}{w:cD}{K:ae}{N:bZ}(a it:U):Turn P w K N (kg K a) [it] it (λi h=>h.IsListIter it a i) where
 mem:=QS
 obj:=λi h st b g=>by
  have e:b=it:=by simpa using g
  obtain⟨o,e,c,d⟩:=st
  grind
 keep:=λi h F st k=>st.at λo e=>k it QS o e
 item:=by
  intro X t q v D i f s J H E I l st r;subst t q v;obtain⟨L,x,j,n⟩:=r;obtain⟨ah,m,p,T⟩:=I.list j;obtain⟨u,hu,R⟩:=m.get n;obtain⟨C,B,f2,A,z,y⟩:=l it QS;refine wpAny_pyNext_list_item st p.isList (by simpa using hu) λF G Q=>?_;obtain⟨o,e,c,d⟩:=id G;exact⟨u,rfl,tG e c d QD ⟨x,H,(I.turned (λb o g e=>(Q.2 b g).trans e) C B A z y),R,⟨rfl,λys W=>by rw[I.Zcr W j];exact n⟩,G,λb g=>(l b g).1⟩⟩
 done:=by
  intro X t q v D i f s J H E I l st r;subst t q v;obtain⟨L,j,n⟩:=r;obtain⟨ah,m,p,T⟩:=I.list j;obtain⟨C,B,f2,A,z,y⟩:=l it QS;have hl:=m.length;exact wpAny_pyNext_list_end (I.ok.hd D) st p.isList (by simp;omega) λF eb=>⟨rfl,I.turned (eb) C B A z y⟩
 self:=λ_ _ _ _ _ st h=>wpAny_pyIter_listiter st h
theorem Na{P:c6}{w:cD}{K:ae}{N:bZ}(a it:U):Turn P w K N (wR K a) [it] it (λi h=>h.IsTupleIter it a i) where
 mem:=QS
 obj:=λi h st b g=>by
  have e:b=it:=by simpa using g
  obtain⟨o,e,c,d⟩:=st
  grind
 keep:=λi h F st k=>st.at λo e=>k it QS o e
 item:=by
  intro X t q v D i f s J H E I l st r;subst t q v;obtain⟨L,x,j,n⟩:=r;obtain⟨ah,m,p,T⟩:=I.tuple j;obtain⟨u,hu,R⟩:=m.get n;obtain⟨C,B,f2,A,z,y⟩:=l it QS;refine wpAny_pyNext_tuple_item st (p) (by simpa using hu) λF G Q=>?_;obtain⟨o,e,c,d⟩:=id G;exact⟨u,rfl,tG e c d QD ⟨x,H,(I.turned (λb o g e=>(Q.2 b g).trans e) C B A z y),R,⟨rfl,λys W=>by rw[I.Zbx W j];exact n⟩,G,λb g=>(l b g).1⟩⟩
 done:=by
  intro X t q v D i f s J H E I l st r;subst t q v;obtain⟨L,j,n⟩:=r;obtain⟨ah,m,p,T⟩:=I.tuple j;obtain⟨C,B,f2,A,z,y⟩:=l it QS;have hl:=m.length;exact wpAny_pyNext_tuple_end (I.ok.hd D) st (p) (by simp;omega) λF eb=>⟨rfl,I.turned (eb) C B A z y⟩
 self:=λ_ _ _ _ _ st h=>wpAny_pyIter_tupleiter st h
theorem ZaF{P:c6}{w:cD}{K:ae}{D:bZ}(a:U)(d:Int)(n:Nat):Turn P w K D (rJ d n) [a] a (λi h=>IsRangeIter h a (d+(i:Nat)*1) ((n:Int)-(i:Nat)) 1) where
 mem:=QS
 obj:=λi h st b g=>by
  simp_all
 keep:=λi h A st k=>k a QS _ st
 item:=by
  intro X p j q m i c s C H E I f st l;subst p j q;obtain⟨z,y,J,x,u,r⟩:=f a QS;refine(Walks.range (I.ok.hd m) a d 1 n).item i s _ _ l st λv A N G B F=>?_;obtain⟨t,rfl⟩:=G;refine⟨_,rfl,tG B rfl rfl QD ⟨.int (d+i),H,(I.turned (λb o g e=>F b o (by simpa using g) e) z y x u r),⟨t,?_⟩,⟨rfl,rfl⟩,B,λb g=>(f b g).1⟩⟩;rw[Int.mul_one]
 done:=by
  intro X p j q m i c s C H E I f st l;subst p j q;obtain⟨z,y,J,x,u,r⟩:=f a QS;exact wpAny_pyNext_range_end (I.ok.hd m) st (by have:n<=i:=l;omega) λA L=>⟨rfl,I.turned (L) z y x u r⟩
 self:=λ_ _ _ _ _ st h=>wpAny_pyIter_rangeiter st h
section
variable {X:Cx}{Q:bZ}
inductive Pu(K:ae)(R:It->Hp->Prop)(x:V)(b:Hp):Prop
 |mk (a) (f:x=.ref a) (e:(∃c,aj K b a c)) (d:R (kg K a) b):Pu K R x b
def Sf(K:ae)(b:TE):TI:=λa H R=>b a H λx c=>Pu K R x c
inductive Q5(K:ae)(R:It->Hp->Prop)(x:V)(b:Hp):Prop
 |mk (a) (f:x=.ref a) (e:(∃c,aK K b a c)) (d:R (wR K a) b):Q5 K R x b
def ZhG(K:ae)(b:TE):TI:=λa H R=>b a H λx c=>Q5 K R x c
def Px(r:PE X l j):PI X Q l (Sf X.K j):=by
 intro c s g H R I h;refine aw (r c s g H _ I h) λv f i=>?_;obtain⟨x,u,d,k,m⟩:=i;obtain⟨a,e,⟨w,n⟩,q⟩:=m;subst e;cases k;obtain⟨A,y,p,z⟩:=d.list n;refine q7 p.isList ⟨f.heap.objs.size,[f.heap.objs.size],_,_,u,rfl,d.kept λ b o=>Yc _,NN a _,⟨_,Yn _ rfl,rfl,rfl⟩,λb t=>?_,q⟩;have e:b=f.heap.objs.size:=by simpa using t
 subst e;exact d.qf (Yg _) (d.au.fresh (Yg _))
def Q6(r:PE X l j):PI X Q l (ZhG X.K j):=by
 intro c s g H R I h;refine aw (r c s g H _ I h) λv f i=>?_;obtain⟨x,u,d,k,m⟩:=i;obtain⟨a,e,⟨w,n⟩,q⟩:=m;subst e;cases k;obtain⟨A,y,p,z⟩:=d.tuple n;refine uk (p) ⟨f.heap.objs.size,[f.heap.objs.size],_,_,u,rfl,d.kept λ b o=>Yc _,Na a _,⟨_,Yn _ rfl,rfl,rfl⟩,λb t=>?_,q⟩;have e:b=f.heap.objs.size:=by simpa using t
 subst e;exact d.qf (Yg _) (d.au.fresh (Yg _))
def OF{a:aJ}{d:St}{H:Hp}{s:a8}{R:It->Hp->Prop}{E:aR}{lo c:Int}{t u v:Tok}{g:Nat}(I:Inv X a d H s)(l:-(2^62)<=lo)(k:lo<2^62)(j:-(2^62)<=c)(i:c<2^62)
  (q:R (rJ lo (c-lo).toNat) H):wpAny X.md X.A (pyIter (.ref s.heap.objs.size)) (Uh X a d Q R) E {s with heap:=s.heap.push {cls:=.type "range",data:=.fields #[.int lo t,.int c u,.int 1 v]},toks:=g}:=by
 refine wpAny_pyIter_range (IsRange.new ..) (wh l k j i) ?_;have f:Inv X a d H {s with heap:=s.heap.push {cls:=.type "range",data:=.fields #[.int lo t,.int c u,.int 1 v]},toks:=g}:=I.kept λb o e=>Yc _ e;refine⟨(s.heap.push {cls:=.type "range",data:=.fields #[.int lo t,.int c u,.int 1 v]}).objs.size,[(s.heap.push {cls:=.type "range",data:=.fields #[.int lo t,.int c u,.int 1 v]}).objs.size],_,_,H,rfl,
  f.kept λ b o=>Yc _,ZaF _ lo (c-lo).toNat,?_,λb h=>?_,q⟩
 ·have n:lo+((0:Nat):Int)*1=lo:=QS
  have m:(((c-lo).toNat:Nat):Int)-((0:Nat):Int)=Builtin.Range.rangeSize lo c 1:=by rw[vi];split<;>omega
  rw[n,m];exact Yn _ rfl
 ·have e:b=(s.heap.push {cls:=.type "range",data:=.fields #[.int lo t,.int c u,.int 1 v]}).objs.size:=by simpa using h
  subst e;exact f.qf (Yg _) (f.au.fresh (Yg _))
inductive Py(R:It->Hp->Prop)(a:Z V)(b:Hp):Prop
 |mk (j:Int) (f:a=[.int j]) (e:-(2^62)<=j) (d:j<2^62) (c:R (rJ 0 j.toNat) b):Py R a b
def ZgN(c:TA):TI:=λa H R=>c a H λb d=>Py R b d
def ZgO(c:TA):TI:=λa H R=>c a H λb d=>∃i j:Int,b=[.int i,.int j]/\(-(2^62)<=i/\i<2^62/\-(2^62)<=j/\j<2^62)/\R (rJ i (j-i).toNat) d
theorem yf{a:bZ}{f:TA}{p b:Pos}(u:Gl X "range")(o:X.mg "range"=aI)(v:PA X [a] f)(n:starEach [a] X.env=[(aY,eval a X.env)]:=by rfl):PI X Q (.Call (.Name "range" p) [a] [] b) (ZgN f):=by
 intro c s g H R I h;refine Call_ (pW I u o boot_range (tX (aw (v b c s g H _ I h) λy z i=>?_) n rfl));obtain⟨x,A,w,l,d⟩:=i;obtain⟨j,e,d,m,q⟩:=d;subst e;cases l with
 |cons r k=>
  cases k;obtain⟨t,rfl⟩:=r;exact call_range_1 (OF w (by decide) (by decide) d m (by simpa using q))
theorem Zby{a b:bZ}{k:TA}{p c:Pos}(A:Gl X "range")(z:X.mg "range"=aI)(B:PA X [a,b] k)(y:starEach [a,b] X.env=[(aY,eval a X.env),(aY,eval b X.env)]:=by rfl)(l:starEach [b] X.env=[(aY,eval b X.env)]:=by rfl):
  PI X Q (.Call (.Name "range" p) [a,b] [] c) (ZgO k):=by
 intro d s m H R I h;refine Call_ (pW I A z boot_range (tX (aw (B c d s m H _ I h) λE G n=>?_) (by rw[y,l]) (by rw[l];rfl)));obtain⟨D,J,C,o,g⟩:=n;obtain⟨i,j,e,⟨g,x,w,v⟩,q⟩:=g;subst e;cases o with
 |cons r f=>
  cases f with
  |cons u f=>
   cases f;obtain⟨t,rfl⟩:=r;obtain⟨F,rfl⟩:=u;exact call_range_2 (OF C g x w v q)
def JR(e:TI)(g:TG)(f:TS):TS:=λD a H=>e a H λJ k=>∃W:Nat->Nat->St->Hp->Prop,(∃m,W 0 m a k)/\∀i m a H,W i m a H->
 (J.stop i H/\D.nx a H)\/(J.go i H/\∃N:St->Hp->Prop,(∀d b,N d b->∃c,c<m/\W (i+1) c d b)/\∀x b,J.qm i H x b->g x a b λh j=>f {D with nx:=N,ct:=N,bk:=D.nx} h j)
def pX(a:Z U)(h:cm):Z (U×Obj):=a.filterMap λb=>(h.get? b).map λo=>(b,o)
def n_(a:b∈fp)(e:h.get? b=O o):(b,o)∈pX fp h:=Jy.mpr ⟨b,a,by rw[e];rfl⟩
theorem Zbz(a:p∈pX fp h):p.1∈fp/\h.get? p.1=O p.2:=by
 obtain⟨b,c,e⟩:=Jy.mp a;cases q:h.get? b with
 |none=>grind
 |some o=>grind
def Inv.pinned(I:Inv X pins σ H s)(c:∀b∈fp,gm X pins H b)(f:∀b∈fp,∃o,s.heap.get? b=O o/\∀v,o.data≠.cell v):Inv X (pins++pX fp s.heap) σ H s:=
 I.yp λp a=>(Yu.mp a).elim (λz=>I.pin p (Ye _ z)) λz=>by
  obtain⟨d,e⟩:=Zbz z;obtain⟨i,h,g,_⟩:=c p.1 d
  grind
def Inv.sH(I:Inv X (pins++b) σ H s):Inv X pins σ H s:=I.yp λp a=>I.pin p (Ye _ (Yk _ a))
theorem jb{j:bZ}{t:Z bS}{wi:TI}{g:TG}{tb:TS}{L:Pos}(A:PassesOwn X.md X.A X.env X.xe)(hc:X.calm=ar)(hi:PI X Q j wi)(hg:PG X Q g)(k:fR X t tb)
  (hs:∀x,foldedSetIterable j X.env x=pure x:=by intro _;rfl):PS X (.For Q j t [] L) (JR wi g tb):=by
 intro a s σ H D I h;refine wpAny_For (aw (hi a s σ H _ I h) λv s1 h1=>aw h1 λrH s2 h2=>?_) hs;obtain⟨it,fp,tn,J,H2,e,I2,T,dQ,f2,W,⟨m0,w0⟩,w⟩:=h2;subst e;have R:∀{H':Hp},(∀b∈fp,H' b=aI)->∀b∈fp,gm X a H' b:=λhn b k=>⟨hn b k,(f2 b k).2⟩;refine codeAny_forLoop_any (λn s'=>∃i C H',Inv X a C H' s'/\tn i s'.heap/\(∀b∈fp,H' b=aI)/\W i n C H') ?_ m0 ⟨0,σ,H2,I2,dQ,λb k=>(f2 b k).1,w0⟩;rintro n s3 ⟨i,B,E,I3,Ui,rK,w3⟩;rcases w i n B E w3 with⟨y,qn⟩|⟨go,N,hN,step⟩
 ·refine l8 A (aw (T.done X rfl rfl rfl hc i a s3 B E X.xe I3 (R rK) Ui y) λr s4 F=>?_);obtain⟨hr,I4⟩:=F;subst hr;exact ro ⟨B,E,I4,qn⟩
 ·refine l8 A (aw (T.item X rfl rfl rfl hc i a s3 B E X.xe I3 (R rK) Ui go) λr s4 F=>?_);obtain⟨u,hr,h4⟩:=F;subst hr;refine l8 A (aw h4 λ_ s5 ⟨x,H5,I5,r5,y5,P,oU⟩=>l8 A (aw (hg _ s5 B H5 x u _ (I5.pinned (R oU) (T.obj _ _ P)) r5 (step x H5 y5)) λ_ s6 ⟨ug,H6,I6,q6⟩=>l8 A (aw (k _ s6 ug H6 _ I6 q6) λf G q=>?_)));have again:∀{c:St} {p:Hp},Inv X (a++pX fp s5.heap) c p G->N c p->∃m,m<n/\∃i C H',Inv X a C H' G/\tn i G.heap/\(∀b∈fp,H' b=aI)/\W i m C H':=λ{c p} l z=>by
   obtain⟨m',hm,w7⟩:=hN c p z;refine⟨m',hm,i+1,c,p,l.sH,T.keep _ _ _ P λb k o e=>(l.pin (b,o) (Ye _ (Ye _ (n_ k e)))).1,λb k=>?_,w7⟩;obtain⟨o,e,d⟩:=T.obj _ _ P b k;exact(l.pin (b,o) (Ye _ (Ye _ (n_ k e)))).2.1
  cases f with
  |next=>obtain⟨c,p,l,z⟩:=q;exact again l z
  |cont=>obtain⟨c,p,l,z⟩:=q;exact again l z
  |brk=>obtain⟨c,p,l,q⟩:=q;exact⟨c,p,l.sH,q⟩
  |ret v=>obtain⟨x7,c,p,l,r7,q⟩:=q;exact⟨x7,c,p,l.sH,r7,q⟩
end
def mS{K:ae}{a:U}{xs:Z V}{g:TG}{l:TS}{D:Ends}{b:St}{H:Hp}(c:Nat->St->Hp->Prop)(v:c 0 b H)(t:∀i b H,i<=xs.length->c i b H->aj K H a xs)
  (s:∀i x b H,xs[i]?=O x->c i b H->g x b H λf k=>l {D with nx:=c (i+1),ct:=c (i+1),bk:=D.nx} f k)(u:∀b H,c xs.length b H->D.nx b H):
  ∃W:Nat->Nat->St->Hp->Prop,(∃m,W 0 m b H)/\∀i m b H,W i m b H->
   ((kg K a).stop i H/\D.nx b H)\/((kg K a).go i H/\∃N:St->Hp->Prop,(∀j d,N j d->∃n,n<m/\W (i+1) n j d)/\∀x d,(kg K a).qm i H x d->g x b d λf k=>l {D with nx:=N,ct:=N,bk:=D.nx} f k):=by
 refine⟨λi m b H=>m=xs.length-i/\i<=xs.length/\c i b H,⟨xs.length,QS,Yx _,v⟩,?_⟩;rintro i m b H ⟨rfl,o,p⟩;have q:=t i b H o p;by_cases h:i<xs.length
 ·refine .inr ⟨⟨xs,xs[i],q,by simp[h]⟩,c (i+1),λj d r=>⟨xs.length-(i+1),QO,rfl,h,r⟩,λx d y=>?_⟩;obtain⟨e,y⟩:=y;subst e;exact s i x b _ (y xs q) p
 ·have e:i=xs.length:=(eL o (dg h))
  subst e;exact .inl ⟨⟨xs,q,Yg _⟩,u b H p⟩
def Gu{lo:Int}{n:Nat}{g:TG}{k:TS}{D:Ends}{a:St}{H:Hp}(b:Nat->St->Hp->Prop)(s:b 0 a H)
  (t:∀i a H,i<n->b i a H->g (.int (lo+i)) a H λd j=>k {D with nx:=b (i+1),ct:=b (i+1),bk:=D.nx} d j)(r:∀a H,b n a H->D.nx a H):
  ∃W:Nat->Nat->St->Hp->Prop,(∃m,W 0 m a H)/\∀i m a H,W i m a H->
   ((rJ lo n).stop i H/\D.nx a H)\/((rJ lo n).go i H/\∃N:St->Hp->Prop,(∀h c,N h c->∃l,l<m/\W (i+1) l h c)/\∀x c,(rJ lo n).qm i H x c->g x a c λd j=>k {D with nx:=N,ct:=N,bk:=D.nx} d j):=by
 refine⟨λi m a H=>m=n-i/\i<=n/\b i a H,⟨n,QS,Yx _,s⟩,?_⟩;rintro i m a H ⟨rfl,q,p⟩;by_cases f:i<n
 ·refine .inr ⟨f,b (i+1),λh c o=>⟨n-(i+1),QO,rfl,f,o⟩,λx c y=>?_⟩;obtain⟨e,y⟩:=y
  simp_all
 ·have e:i=n:=(eL q (dg f))
  subst e;exact .inl ⟨Yg _,r a H p⟩
theorem GU{c:TT}{j:TS}{D:Ends}{a:St}{H:Hp}(i:St->Hp->Prop)(g:St->Hp->Nat)(r:i a H)
  (o:∀a H,i a H->c a H λb e=>if b=ar then j {D with nx:=λd f=>i d f/\g d f<g a H,ct:=λd f=>i d f/\g d f<g a H,bk:=D.nx} a e else D.nx a e)
  (h:∀a H Q k,(∀b e,Q b e->k b e)->c a H Q->c a H k):Q4 c j D a H:=by
 refine⟨λm a H=>m=g a H/\i a H,⟨_,rfl,r⟩,?_⟩;rintro m a H ⟨rfl,p⟩;refine h a H _ _ (λb e q=>?_) (o a H p);cases b with
 |true=>exact⟨_,λd f ⟨n,l⟩=>⟨_,l,rfl,n⟩,q⟩
 |false=>exact q
abbrev R2:=V->V->Hp->VK->Prop
def cE(X:Cx)(f:aV->aV->Sem aV)(r:R2):Prop:=
 ∀(a:aJ) (s:a8) (b:St) (H:Hp) (x y:V) (v u:aV) (Q:VK),Inv X a b H s->RelV x v->RelV y u->r x y H Q->
  wpAny X.md X.A (f v u) (EP X a b Q) X.xe s
def KI(X:Cx)(f:aV->Sem aV)(r:V->Hp->VK->Prop):Prop:=
 ∀(a:aJ) (s:a8) (b:St) (H:Hp) (x:V) (v:aV) (Q:VK),Inv X a b H s->RelV x v->r x H Q->
  wpAny X.md X.A (f v) (EP X a b Q) X.xe s
def cU(X:Cx)(f:aV)(r:Z V->Hp->VK->Prop):Prop:=
 ∀(a:aJ) (s:a8) (b:St) (H:Hp) (c:Z V) (d:Z aV) (Q:VK),Inv X a b H s->Vals c d->r c H Q->
  wpAny X.md X.A (call f d) (EP X a b Q) X.xe s
def ZhH(X:Cx)(r:V->Hp->(bA->Hp->Prop)->Prop):Prop:=
 ∀(a:aJ) (s:a8) (b:St) (H:Hp) (x:V) (v:aV) (Q:bA->Hp->Prop),Inv X a b H s->RelV x v->r x H Q->
  wpAny X.md X.A (truthy v) (TP X a b Q) X.xe s
def nB(r:R2)(c b:TE):TE:=λa H Q=>c a H λx e=>b a e λy d=>r x y d Q
def tUn(r:V->Hp->VK->Prop)(b:TE):TE:=λa H Q=>b a H λx c=>r x c Q
inductive S9(C:Int->Int->Prop)(g:Int->Int->V)(x:V)(y:V)(H:Hp)(Q:VK):Prop
 |mk (i j) (d:x=.int i) (c:y=.int j) (b:C i j) (a:Q (g i j) H):S9 C g x y H Q
def rI(C:Int->Int->Prop)(g:Int->Int->V):R2:=λx y H Q=>S9 C g x y H Q
inductive Sg(g:Int->Int->V)(x:V)(y:V)(H:Hp)(Q:VK):Prop
 |mk (i j) (c:x=.int i) (b:y=.int j) (a:Q (g i j) H):Sg g x y H Q
def wU(g:Int->Int->V):R2:=λx y H Q=>Sg g x y H Q
inductive S_(g:Int->V)(x:V)(H:Hp)(Q:VK):Prop
 |mk (i) (b:x=.int i) (a:Q (g i) H):S_ g x H Q
def rU(g:Int->V):V->Hp->VK->Prop:=λx H Q=>S_ g x H Q
section
variable {X:Cx}
def JT(p:PE X a l)(o:PE X b k){c:aJ}{s:a8}{d:St}{H:Hp}{R:V->V->Hp->Prop}(I:Inv X c d H s)
  (h:l d H λx j=>k d j λy e=>R x y e){Q:aR}{f:aV->aV->Sem aV}
  (B:∀v u i x y e,Inv X c d e i->RelV x v->RelV y u->R x y e->wpAny X.md X.A (f v u) Q X.xe i):
  wpAny X.md X.A (eval a X.env) (λv r=>wpAny X.md X.A (eval b X.env) (λu q=>wpAny X.md X.A (f v u) Q X.xe q) X.xe r) X.xe s:=by
 refine aw (p c s d H _ I h) λv m g=>?_;obtain⟨x,j,t,z,n⟩:=g;refine aw (o c m d j _ t n) λu i g=>?_;obtain⟨y,e,C,w,A⟩:=g
 grind
def bc(i:cE X (binaryOp op) r)(k:PE X a f)(j:PE X b e):PE X (.BinOp a op b pos) (nB r f e):=by
 intro c s d H Q I h;exact wpAny_BinOp (JT k j I h λ v u g x y l=>i c g d l x y v u Q)
def ZgP(i:KI X (unaryOp op) r)(j:PE X a d):PE X (.UnaryOp op a pos) (tUn r d):=by
 intro b s c H Q I h;exact UnaryOp_ (aw (j b s c H _ I h) λv e ⟨x,l,k,f,g⟩=>i b e c l x v Q k f g)
def CU{f:aV->aV->Sem aV}{C:Int->Int->Prop}{g:Int->Int->Int}
  (a:∀(i j:Int) (t u:Tok) (s:a8) (Q:aR) (E:aR),C i j->Q (.int (g i j) s.toks) {s with toks:=s.toks+1}->wpAny X.md X.A (f (.int i t) (.int j u)) Q E s):
  cE X f (rI C λi j=>.int (g i j)):=by
 rintro b s k H x y v u Q I e d ⟨i,j,rfl,rfl,h,q⟩;obtain⟨t,rfl⟩:=e;obtain⟨c,rfl⟩:=d;exact a i j t c s _ _ h ⟨.int (g i j),H,I.tok _,⟨_,rfl⟩,q⟩
def Ta{f:aV->aV->Sem aV}{g:Int->Int->Int}
  (a:∀(i j:Int) (t u:Tok) (s:a8) (Q:aR) (E:aR),Q (.int (g i j) s.toks) {s with toks:=s.toks+1}->wpAny X.md X.A (f (.int i t) (.int j u)) Q E s):
  cE X f (wU λi j=>.int (g i j)):=by
 rintro b s h H x y v u Q I e d ⟨i,j,rfl,rfl,q⟩;obtain⟨t,rfl⟩:=e;obtain⟨c,rfl⟩:=d;exact a i j t c s _ _ ⟨.int (g i j),H,I.tok _,⟨_,rfl⟩,q⟩
def Tb{g:Int->Int->bA}
  (a:∀(i j:Int) (t u:Tok) (s:a8) (Q:aR) (E:aR),Q (.bool (g i j)) s->wpAny X.md X.A (f (.int i t) (.int j u)) Q E s):
  cE X f (wU λi j=>.bl (g i j)):=by
 rintro b s h H x y v u Q I e d ⟨i,j,rfl,rfl,q⟩;obtain⟨t,rfl⟩:=e;obtain⟨c,rfl⟩:=d;exact a i j t c s _ _ ⟨.bl (g i j),H,I,rfl,q⟩
def JU(i j:Int):Prop:=0<j/\j<1073741824
def ZhI(i j:Int):Prop:=0<=j/\j<=1000000/\i.natAbs<2^64
def y6(i j:Int):Prop:=(-(2^64)<i/\i<2^64)\/(-(2^64)<j/\j<2^64)
def y6.ok(h:y6 i j):IntMulOk i j:=by
 rcases h with⟨b,a⟩|⟨b,a⟩;·exact .of_left (intBits_le_64 b a)
 ·exact .of_right (intBits_le_64 b a)
def hV:cE X (binaryOp .Add) (wU λi j=>.int (i+j)):=Ta λ_ _ _ _ _ _ _ q=>add_int q
def Q7:cE X (binaryOp .Sub) (wU λi j=>.int (i-j)):=Ta λ_ _ _ _ _ _ _ q=>sub_int q
def pY:cE X (binaryOp .Mult) (rI y6 λi j=>.int (i*j)):=CU λ_ _ _ _ _ _ _ a q=>mul_int q a.ok
def Hl:cE X (binaryOp .FloorDiv) (rI JU λi j=>.int (i/j)):=CU λi j _ _ _ _ _ a q=>by
 have b:(0:Int)<j:=a.1;have c:j<1073741824:=a.2;exact floordiv_int (sU b) (by rw[Int.fdiv_eq_ediv_of_nonneg i (xt b)];exact q) (.inl (PyProof.noPylong_small QO))
def hZ:cE X (binaryOp .Mod) (rI (λ_ j=>0<j) λi j=>.int (i % j)):=CU λi j _ _ _ _ _ a q=>by
 exact mod_int' (sU a) (by rwa[Int.fmod_eq_emod_of_nonneg i (xt a)])
def Q8:cE X (binaryOp .Pow) (rI ZhI λi j=>.int (i^j.toNat)):=CU λ_ _ _ _ _ _ _ a q=>pow_int_small a.1 a.2.1 a.2.2 q
def unI{f:aV->Sem aV}{g:Int->Int}
  (a:∀(i:Int) (t:Tok) (s:a8) (Q:aR) (E:aR),Q (.int (g i) s.toks) {s with toks:=s.toks+1}->wpAny X.md X.A (f (.int i t)) Q E s):
  KI X f (rU λi=>.int (g i)):=by
 rintro b s d H x v Q I c ⟨i,rfl,q⟩;obtain⟨t,rfl⟩:=c;exact a i t s _ _ ⟨.int (g i),H,I.tok _,⟨_,rfl⟩,q⟩
def Zfo:KI X (unaryOp .USub) (rU λi=>.int (-i)):=unI λ_ _ _ _ _ q=>neg_int q
end
def Cb:V->V->bA
 |.aB,.aB=>ar|.aB,.int _=>ar|.int _,.aB=>ar|.aB,.bl _=>ar|.bl _,.aB=>ar|.aB,.str _=>ar|.str _,.aB=>ar
 |.int _,.int _=>ar|.bl _,.bl _=>ar|.str _,.str _=>ar|.ke _,.ke _=>ar
 |.int _,.str _=>ar|.str _,.int _=>ar|.bl _,.str _=>ar|.str _,.bl _=>ar
 |_,_=>aY
def Uj:R2:=λx y H Q=>Cb x y=ar/\Q (.bl (decide (x=y))) H
def Uk:R2:=λx y H Q=>Cb x y=ar/\Q (.bl (!decide (x=y))) H
def Pz:decide (V.int i=V.int j)=(i==j):=by
 grind
def Q9:decide (V.bl i=V.bl j)=(i==j):=by
 grind
def PB:decide (V.str i=V.str j)=(i==j):=by
 grind
def PD:decide (V.ke i=V.ke j)=(i.toList==j.toList):=by
 rw[Wu];simp_all
section
variable {b:bZ}
def cB(I:Inv X pins σ H s)(q:Q (.bl k) H)(e:k=a):EP X pins σ Q (.bool a) s:=by
 subst e;exact⟨.bl k,H,I,rfl,q⟩
theorem dv:cE X (compareOp .Eq) Uj:=by
 intro f s g H x y v u Q I e a h;obtain⟨d,q⟩:=h;cases x with
 |aB=>
  cases e;cases y with
  |aB=>cases a;exact PySem.EqNone.eq_none_none (cB I q QS)
  |bl j=>cases a;exact PySem.EqNone.eq_none_bool (cB I q QS)
  |int j=>obtain⟨c,rfl⟩:=a;exact PySem.EqNone.eq_none_int (cB I q QS)
  |str j=>obtain⟨c,rfl⟩:=a;exact PySem.EqNone.eq_none_str (cB I q QS)
  |_=>exact absurd (d) Yo
 |bl i=>
  cases e;cases y with
  |aB=>cases a;exact PySem.EqNone.eq_bool_none (cB I q QS)
  |bl j=>cases a;exact eq_bool (cB I q Q9)
  |str j=>obtain⟨c,rfl⟩:=a;exact PySem.EqMixed.eq_bool_str (cB I q QS)
  |_=>exact absurd (d) Yo
 |int i=>
  obtain⟨t,rfl⟩:=e;cases y with
  |aB=>cases a;exact PySem.EqNone.eq_int_none (cB I q QS)
  |int j=>obtain⟨c,rfl⟩:=a;exact eq_int (cB I q Pz)
  |str j=>obtain⟨c,rfl⟩:=a;exact PySem.EqMixed.eq_int_str (cB I q QS)
  |_=>exact absurd (d) Yo
 |str i=>
  obtain⟨t,rfl⟩:=e;cases y with
  |aB=>cases a;exact PySem.EqNone.eq_str_none (cB I q QS)
  |bl j=>cases a;exact PySem.EqMixed.eq_str_bool (cB I q QS)
  |int j=>obtain⟨c,rfl⟩:=a;exact PySem.EqMixed.eq_str_int (cB I q QS)
  |str j=>obtain⟨c,rfl⟩:=a;exact eq_str (cB I q PB)
  |_=>exact absurd (d) Yo
 |ke i=>
  obtain⟨t,rfl⟩:=e;cases y with
  |ke j=>obtain⟨c,rfl⟩:=a;exact PySem.W.eq_bytes (cB I q PD)
  |_=>exact absurd (d) Yo
 |_=>cases y<;>exact absurd (d) Yo
theorem rb:cE X (compareOp .NotEq) Uk:=by
 intro f s g H x y v u Q I e a h;obtain⟨d,q⟩:=h;cases x with
 |aB=>
  cases e;cases y with
  |aB=>cases a;exact PySem.EqNone.ne_none_none (cB I q QS)
  |bl j=>cases a;exact PySem.EqNone.ne_none_bool (cB I q QS)
  |int j=>obtain⟨c,rfl⟩:=a;exact PySem.EqNone.ne_none_int (cB I q QS)
  |str j=>obtain⟨c,rfl⟩:=a;exact PySem.EqNone.ne_none_str (cB I q QS)
  |_=>exact absurd (d) Yo
 |bl i=>
  cases e;cases y with
  |aB=>cases a;exact PySem.EqNone.ne_bool_none (cB I q QS)
  |bl j=>cases a;exact ne_bool (cB I q (de not Q9))
  |str j=>obtain⟨c,rfl⟩:=a;exact PySem.EqMixed.ne_bool_str (cB I q QS)
  |_=>exact absurd (d) Yo
 |int i=>
  obtain⟨t,rfl⟩:=e;cases y with
  |aB=>cases a;exact PySem.EqNone.ne_int_none (cB I q QS)
  |int j=>obtain⟨c,rfl⟩:=a;exact ne_int (cB I q (de not Pz))
  |str j=>obtain⟨c,rfl⟩:=a;exact PySem.EqMixed.ne_int_str (cB I q QS)
  |_=>exact absurd (d) Yo
 |str i=>
  obtain⟨t,rfl⟩:=e;cases y with
  |aB=>cases a;exact PySem.EqNone.ne_str_none (cB I q QS)
  |bl j=>cases a;exact PySem.EqMixed.ne_str_bool (cB I q QS)
  |int j=>obtain⟨c,rfl⟩:=a;exact PySem.EqMixed.ne_str_int (cB I q QS)
  |str j=>obtain⟨c,rfl⟩:=a;exact ne_str (cB I q (de not PB))
  |_=>exact absurd (d) Yo
 |ke i=>
  obtain⟨t,rfl⟩:=e;cases y with
  |ke j=>obtain⟨c,rfl⟩:=a;exact PySem.W.ne_bytes (cB I q (de not PD))
  |_=>exact absurd (d) Yo
 |_=>cases y<;>exact absurd (d) Yo
def wb:cE X (compareOp .Lt) (wU λi j=>.bl (decide (i<j))):=Tb λ_ _ _ _ _ _ _ q=>lt_int q
def Sh:cE X (compareOp .Gt) (wU λi j=>.bl (decide (j<i))):=Tb λ_ _ _ _ _ _ _ q=>gt_int q
def ZbA:cE X (compareOp .In) (λx y H Q=>∃i j,x=.str i/\y=.str j/\Q (.bl (!(Builtin.Str.occurrences j i 0 j.length 1).isEmpty)) H):=by
 intro a s e H x y v u Q I d c h;obtain⟨i,j,rfl,rfl,q⟩:=h;obtain⟨t,rfl⟩:=d;obtain⟨f,rfl⟩:=c;exact in_str (cB I q rfl)
theorem Ib:cE X (compareOp .Is) (λx y H Q=>y=.aB/\Q (.bl (decide (x=.aB))) H):=by
 intro c s e H x y v u Q I a d h;obtain⟨rfl,q⟩:=h;cases d;refine is_none_gen (cB I q ?_);cases x<;>first
  |(cases a;rfl)
  |(obtain⟨t,rfl⟩:=a;rfl)
theorem Hm:cE X (compareOp .IsNot) (λx y H Q=>y=.aB/\Q (.bl (!decide (x=.aB))) H):=by
 rintro c s e H x y v u Q I a d ⟨rfl,q⟩;cases d;refine isnot_none_gen (cB I q ?_);cases x<;>first
  |(cases a;rfl)
  |(obtain⟨t,rfl⟩:=a;rfl)
def Zs:cE X (compareOp .NotIn) (λx y H Q=>∃i j,x=.str i/\y=.str j/\Q (.bl (!(!(Builtin.Str.occurrences j i 0 j.length 1).isEmpty))) H):=by
 rintro a s e H x y v u Q I d c ⟨i,j,rfl,rfl,q⟩;obtain⟨t,rfl⟩:=d;obtain⟨f,rfl⟩:=c;exact notIn_str (cB I q rfl)
def Q_(b:bZ){a:CmpOp}(h:a≠.In:=by decide)(c:a≠.NotIn:=by decide):behindInMarks a b=aY:=by
 have e:(a==CmpOp.In)=aY:=by cases a<;>first|rfl|exact absurd rfl h
 have d:(a==CmpOp.NotIn)=aY:=by cases a<;>first|rfl|exact absurd rfl c
 cases b<;>simp[behindInMarks,e,d]
def Bg(i:cE X (compareOp op) r)(l:PE X a f)(k:PE X b e)(j:behindInMarks op b=aY):PE X (.Compare a [op] [b] pos) (nB r f e):=by
 intro c s d H Q I h;exact Pw (JT l k I h λ v u g x y m=>i c g d m x y v u Q) j
inductive PF(Q:bA->Hp->Prop)(x:V)(a:Hp):Prop
 |mk (k) (d:x=.bl k) (c:Q k a):PF Q x a
def IS(t:TE):TT:=λa H Q=>t a H λx c=>PF Q x c
def jU(w:cE X (compareOp op) r)(C:PE X a i)(B:PE X b g)(A:behindInMarks op b=aY):PT X (.Compare a [op] [b] pos) (IS (nB r i g)):=by
 intro d s f H Q I h;refine BW (aw (C d s f H _ I h) λv l ⟨x,L,F,o,t⟩=>aw (B d l f L _ F t) λu j ⟨y,J,E,n,q⟩=>
  aw (w d j f J x y v u _ E o n q) λc N ⟨z,G,D,m,k,e,p⟩=>?_) A
 subst e;cases m;exact kj ⟨G,D,p⟩
def Cc(K:ae)(x:V)(H:Hp)(k:bA):Prop:=
 match x with
 |.aB=>k=aY
 |.bl b=>k=b
 |.int i=>k=(i !=0)
 |.str y=>y.length<=sizeLine/\k=((y.length:Int)!=0)
 |.ke y=>y.size<=sizeLine/\k=((y.size:Int)!=0)
 |.ref p=>(∃a,aj K H p a/\k=!a.isEmpty)\/(∃a,aK K H p a/\k=!a.isEmpty)\/∃c,H p=O (.dK c)/\k=!c.isEmpty
 |_=>False
def ZaG(r:KV a c):(!c.isEmpty)=!a.isEmpty:=by
 cases r<;>rfl
def Nb(r:Vals xs a):(!a.toArray.isEmpty)=!xs.isEmpty:=by
 cases r<;>simp
def sT:(sizeLine:Nat)<2^63:=by rw[c7];decide
theorem Zfp:ZhH X (λx H Q=>∃k,Cc X.K x H k/\Q k H):=by
 intro l s A H x v Q I f h;obtain⟨k,e,q⟩:=h;have B:sizeLine=16777216:=c7;cases x with
 |aB=>
  cases f;have a:k=aY:=e;subst a;exact truthy_none ⟨H,I,q⟩
 |bl b=>
  cases f;have a:k=b:=e;subst a;exact kj ⟨H,I,q⟩
 |int i=>
  obtain⟨t,rfl⟩:=f;have a:k=(i !=0):=e;subst a;exact PySem.P.truthy_int ⟨H,I,q⟩
 |str y=>
  obtain⟨t,rfl⟩:=f;obtain⟨o,a⟩:y.length<=sizeLine/\k=((y.length:Int)!=0):=e;subst a;exact PySem.P.truthy_str QO ⟨H,I.tok _,q⟩
 |ke y=>
  obtain⟨t,rfl⟩:=f;obtain⟨o,a⟩:y.size<=sizeLine/\k=((y.size:Int)!=0):=e;subst a;exact PySem.W.truthy_bytes (d4 o (by decide)) ⟨H,I.tok _,q⟩
 |ref p=>
  cases f;have a:=e;rcases a with⟨u,g,a⟩|⟨u,g,a⟩|⟨d,g,a⟩
  ·subst a;obtain⟨z,r,j,n⟩:=I.list g;have c:=r.length;exact wpAny_truthy_list j.isList (by simp only[Yw];omega) ⟨H,I.tok _,by rw[Nb r];exact q⟩
  ·subst a;obtain⟨z,r,j,n⟩:=I.tuple g;have c:=r.length;exact truthy_tuple j (by simp only[Yw];omega) ⟨H,I.tok _,by rw[Nb r];exact q⟩
  ·subst a;obtain⟨n,w,vs,r,m⟩:d.length<=sizeLine/\(p==sysModules)=aY/\∃vs,KV d vs/\s.heap.DictOf (dH X.prog X.w) p vs:=I.au p _ g;have c:d.length=vs.length:=Paired.length r;exact wpAny_truthy_dict w m QO ⟨H,I.tok _,by rwa[ZaG r]⟩
 |_=>exact(e).elim
def A4(n:PE X a g)(m:∀c,isTrue a X.env c=(do let v←c;standAt a.pos;holding [v] (truthy v))):
  PT X a (λe H Q=>g e H λx f=>∃k,Cc X.K x f k/\Q k f):=by
 intro d s e H Q I h;exact isTrue_plain (aw (n d s e H _ I h) λv i ⟨x,p,o,j,l⟩=>Zfp d i e p x v Q o j l) (m _)
def vh:cE X (binaryOp .Add) (λx y H Q=>∃i j,x=.str i/\y=.str j/\i.length+j.length<=sizeLine/\Q (.str (i++j)) H):=by
 rintro a s g H x y v u Q I e d ⟨i,j,rfl,rfl,f,q⟩;obtain⟨t,rfl⟩:=e;obtain⟨c,rfl⟩:=d;exact add_str (λc h=>⟨.str (i++j),H,I.tok _,⟨_,rfl⟩,q⟩) f
theorem vals1(r:Vals [x] us):∃u,us=[u]/\RelV x u:=by
 cases r with
 |cons c a=>cases a;exact⟨_,rfl,c⟩
theorem vals2(r:Vals [x,y] us):∃u w',us=[u,w']/\RelV x u/\RelV y w':=by
 cases r with
 |cons e d=>
  cases d with
  |cons c a=>cases a;exact⟨_,_,rfl,e,c⟩
def OG:cU X (.builtin "abs") (λa H Q=>∃i,a=[.int i]/\Q (.int (if i<0 then-i else i)) H):=by
 rintro c s d H a e Q I r ⟨i,rfl,q⟩;obtain⟨u,rfl,t,rfl⟩:=vals1 r;exact call_abs_int λu f=>⟨.int (if i<0 then-i else i),H,I.tok _,⟨_,rfl⟩,q⟩
def Fg:cU X (.type "str") (λa H Q=>∃i,a=[.int i]/\i.natAbs.log2<1920/\Q (.str (toString i)) H):=by
 rintro c s e H a f Q I r ⟨i,rfl,d,q⟩;obtain⟨u,rfl,t,rfl⟩:=vals1 r;exact PySem.P.str_of_int d ⟨.str _,H,I.tok _,⟨_,rfl⟩,q⟩
end
structure rm(h:cm)(x dx C:U)(mA:aN):Prop where
 obj:h.get? x=O (instObj C dx)
 ns:h.Ns1 dx mA
 ne:dx≠x
def Gv{h:cm}(n:h.Ns1 m f):∃c,h.get? m=O c/\∀b,lookIn b c=O (f b):=by
 obtain⟨o,l,p,i,hd,k,_,j⟩:=n;refine⟨o,i,λb=>?_⟩;have e:=j b;unfold nsFind findBy at e;rw[←Array.find?_toList] at e;unfold lookIn;rw[hd];dsimp;split;·grind
 ·rename_i q
  have a:l.toList.any (·.refKey)=aY:=by
   rw[KJ];intro y g;obtain⟨z,t,d⟩:=k y (Array.mem_toList_iff.mp g);simp[DictEntry.refKey,d]
  grind
def rm.look(I:rm h x f C c):∃b,PySem.W.InstAt h x (instObj C f) C (O b)/\∀a,lookIn a b=O (c a):=
 let⟨b,d,e⟩:=Gv I.ns
 ⟨b,⟨I.obj,rfl,rfl,d⟩,e⟩
section
variable {T:c6}{w:cD}{A:dO}{E:aR}{s:a8}{K:ae}{x P C f:U}{mA:aN}{W:af}{v:aV}
def get_map{a:bA}{Q:aR}(X:K.In s.heap)(I:rm s.heap x P C mA)(g:plainGet K C W=ar)(e:hasDictIn K C=ar)
  (i:PySem.W.findIn K (.ref C) W=O aI)(c:mA W=O v)(b:handedIn v=ar)(h:Q v {s with toks:=s.toks+1}):
  wpAny (model T w) A (getAttr (.ref x) W a) Q E s:=by
 obtain⟨j,J,d⟩:=I.look;exact PySem.W.get_value X J (uj g).1 (findObj_own e i rfl (by rw[d,c])) b h
def Zcs(X:K.In s.heap)(I:rm s.heap x P C mA)(a:plainGet K C W=ar)
  (g:PySem.W.findIn K (.ref C) W=O (O (.ref f)))(d:isFn K (.ref f)=ar)(c:mA W=aI)(h:Q (.ref f,[.ref x]) s):
  wpAny (model T w) A (getMethod (.ref x) W i) Q E s:=by
 obtain⟨b,J,e⟩:=I.look;exact PySem.W.method_fn X J (uj a).1 (uj a).2 g (beq_iff_eq.mp d) (by show(lookIn W b).map (·.isSome)=O aY;rw[e,c];rfl) h
def Zd0{d:Z af}{Q:Unit->a8->Prop}(X:K.In s.heap)(I:rm s.heap x P C mA)
  (o:PySem.W.findIn K (.ref C) "__setattr__"=O (O (.builtin "object.__setattr__")))(p:plainOver K C=ar)(m:takerIn K C W=O aI)(q:hasDictIn K C=ar)
  (l:PySem.Within mA d)(n:d.length<=sizeLine)
  (h:∀a,rm a x P C (λy=>if y=W then O v else mA y)->Heap.SameBut P s.heap a->Q () {s with heap:=a,toks:=s.toks+2}):
  wpAny (model T w) A (setAttr (.ref x) W v) Q E s:=by
 obtain⟨t,J,z⟩:=I.look;refine set_plain X J o (PySem.W.osa_open X J p m λb=>?_);obtain⟨B,r,j⟩:=sm q;refine a7 (cb (a7 (a7 (rB I.obj (a7 (PySem.W.Looks.here (PySem.W.looks_clsIn X r) ?_))))));rw[j];refine cb (a7 (cb (a7 (vj I.ns λa c e=>?_))));obtain⟨u,F,D,k,i,g⟩:=c.count (uz W v l);exact a7 (uD k (by exact i▸uF (Yz g (by rw[Wm];exact UN n (by decide)))) (cb (h _ ⟨(e.2 _ (d6 I.ne)).trans I.obj,c,I.ne⟩ e)))
def Zct{R:Result->a8->Prop}{b:Z aV}{c:Z (af×aV)}(X:K.In s.heap)(e:makesIn K C=ar)
  (i:PySem.W.findIn K (.ref C) "__init__"=O (O (.ref f)))(j:typeIn K (.ref f)=O (.type "function"))
  (h:codeAny (model T w) (A.under (.builtin "type.__call__" ⟨.ref C::b,c⟩)) (.call (.ref f) ⟨.ref (s.heap.objs.size+1)::b,c⟩) (PySem.W.InitBack (s.heap.objs.size+1) R)
   {s with heap:=(s.heap.push emptyDict).push (instObj C s.heap.objs.size)}):
  codeAny (model T w) A (.call (.ref C) ⟨b,c⟩) R s:=by
 obtain⟨k,g,d,t,os⟩:=s;exact PySem.W.make_core (PySem.W.makes_of X e) (PySem.W.looks_findIn X i) (λa=>PySem.W.bind_fn X a j) (.inl rfl) h
end
def cy(f:af)(v:V):Z (af×V)->Z (af×V)
 |[]=>[(f,v)]
 |(g,x)::r=>if g=f then(g,v)::r else(g,x)::cy f v r
theorem Fy(f g:af)(v:V):∀fs:Z (af×V),(cy f v fs).lookup g=if g=f then O v else fs.lookup g
 |[]=>by
  show List.lookup g [(f,v)]=_
  grind
 |(k,x)::r=>by
  have a:=Fy f g v r;rw[show cy f v ((k,x)::r)=(if k=f then(k,v)::r else(k,x)::cy f v r) from rfl]
  grind
theorem yg(f:af)(v:V):∀fs:Z (af×V),f∈(cy f v fs).map (·.1)/\∀g,g∈fs.map (·.1)->g∈(cy f v fs).map (·.1)
 |[]=>⟨by simp[cy],λg h=>by simp at h⟩
 |(k,x)::r=>by
  obtain⟨b,a⟩:=yg f v r;rw[show cy f v ((k,x)::r)=(if k=f then(k,v)::r else(k,x)::cy f v r) from rfl]
  grind
theorem Fz(f:af)(v:V):∀fs:Z (af×V),(cy f v fs).length<=fs.length+1
 |[]=>by simp[cy]
 |(k,x)::r=>by
  have a:=Fz f v r;rw[show cy f v ((k,x)::r)=(if k=f then(k,v)::r else(k,x)::cy f v r) from rfl]
  (split<;>simp_all)
theorem eX.some_of(r:eX (O v) o):∃u,o=O u/\RelV v u:=by
 cases o with
 |none=>exact(r).elim
 |some u=>exact⟨u,rfl,r⟩
theorem eX.none_of(r:eX aI o):o=aI:=by
 cases o with
 |none=>rfl
 |some u=>exact(r).elim
theorem NO(r:RelV v u):handedIn u=ar:=by
 cases v with
 |aB=>cases(r);rfl
 |bl b=>cases(r);rfl
 |int i=>obtain⟨t,e⟩:=(show ∃t,u=Value.int i t from r);cases e;rfl
 |str x=>obtain⟨t,e⟩:=(show ∃t,u=Value.str x t from r);cases e;rfl
 |ke b=>obtain⟨t,e⟩:=(show ∃t,u=Value.bytes b t from r);cases e;rfl
 |oN b=>obtain⟨t,e⟩:=(show ∃t,u=Value.float b t from r);cases e;rfl
 |ref a=>cases(r);rfl
 |ty n=>cases(r);rfl
def yq(i:cZ P w H h)(e:H a=O (.ins C c fs)):∃b,rm h a c C b/\(∀f,eX (fs.lookup f) (b f))/\PySem.Within b (fs.map (·.1))/\fs.length<=1000/\H c=O (.own a):=by
 obtain⟨d,z,ne,g,b,n,r,q⟩:=(i a _ e);exact⟨b,⟨g,n,ne⟩,r,q,z,d⟩
structure gn(K:ae)(C:U):Prop where
 pg:plainGet K C Str.empty=ar
 hd:hasDictIn K C=ar
 po:plainOver K C=ar
 sa:PySem.W.findIn K (.ref C) "__setattr__"=O (O (.builtin "object.__setattr__"))
def gn.get{K:ae}(c:gn K C)(f:af):plainGet K C f=ar:=c.pg
def c9(K:ae)(C:U)(f:af):Prop:=PySem.W.findIn K (.ref C) f=O aI
def c9.ZgQ{K:ae}(n:c9 K C f):takerIn K C f=O aI:=by
 unfold takerIn;rw[n];rfl
structure Meth(K:ae)(C:U)(m:af)(f:U):Prop where
 at_:PySem.W.findIn K (.ref C) m=O (O (.ref f))
 fn:isFn K (.ref f)=ar
 kp:keepIn K (.ref f)=ar
def ZaH(I:Inv X pins σ H s)(e:H a=O (.ins C m fs))(c:gn X.K C)(n:c9 X.K C f)(l:fs.lookup f=O v)
  (h:∀u g,Inv X pins σ H g->RelV v u->Q u g):wpAny X.md A (getAttr (.ref a) f b) Q E s:=by
 obtain⟨k,d,r,_,_,_⟩:=yq I.au e;obtain⟨u,j,i⟩:=eX.some_of (by exact l▸r f);exact get_map I.bM d (c.get f) c.hd n j (NO i) (h u _ (I.tok _) i)
def F7(I:Inv X pins σ H s)(e:H a=O (.ins C i fs))(c:gn X.K C)(k:Meth X.K C m g)(l:fs.lookup m=aI)
  (h:Q (.ref g,[.ref a]) s):wpAny X.md A (getMethod (.ref a) m d) Q E s:=by
 obtain⟨f,b,r,_,_,_⟩:=yq I.au e;exact Zcs I.bM b (c.get m) k.at_ k.fn (eX.none_of (by exact l▸r m)) h
def Nc(I:Inv X pins σ H s)(e:H a=O (.ins C x fs))(c:gn X.K C)(n:c9 X.K C f)(F:fs.length<1000)(B:RelV y u)
  (h:∀k,Inv X pins σ (upd H a (.ins C x (cy f y fs))) k->Q () k):wpAny X.md A (setAttr (.ref a) f u) Q E s:=by
 obtain⟨D,d,r,j,_,p⟩:=yq I.au e;have m:(fs.map (·.1)).length<=sizeLine:=by rw[Ya,c7];exact lp (k8 F (by decide))
 refine Zd0 I.bM d c.sa c.po n.ZgQ c.hd j m λG i l=>h _ (I.write (by exact e▸fy) (.inr p) (λb q v z=>(l.2 b v).trans z) (let⟨o,_,_,w,_⟩:=i.ns;⟨o,w⟩) ⟨by rwa[az d.ne],?_,d.ne,i.obj,_,i.ns,λg=>?_,λg t=>?_⟩);·have:=Fz f y fs;exact ir this (tq F)
 ·rw[Fy];by_cases q:g=f;·rwa[br q,br q]
  ·grind
 ·by_cases q:g=f;·exact q▸(yg f y fs).1
  ·refine(yg f y fs).2 g (j g λz=>t ?_)
   grind
def Inv.made(I:Inv X pins σ H s):Inv X pins σ (upd (upd H s.heap.objs.size (.own (s.heap.objs.size+1))) (s.heap.objs.size+1) (.ins C s.heap.objs.size []))
  {s with heap:=(s.heap.push emptyDict).push (instObj C s.heap.objs.size)}:=by
 have c:(s.heap.push emptyDict).get? s.heap.objs.size=O emptyDict:=Yn s.heap rfl;have g:((s.heap.push emptyDict).push (instObj C s.heap.objs.size)).get? (s.heap.objs.size+1)=O (instObj C s.heap.objs.size):=by
  have:=Yn (s.heap.push emptyDict) (o:=instObj C s.heap.objs.size) rfl
  rwa [Je] at this
 have f:(s.heap.push emptyDict).Ns s.heap.objs.size (λ_=>aI):=⟨emptyDict,#[],_,c,rfl,(λe d=>absurd d QS),λ_=>rfl⟩;have h:=I.laid (a:=s.heap.objs.size) (o:=.own (s.heap.objs.size+1)) (h':=s.heap.push emptyDict) (t':=s.toks) (λb u q=>Yc _ q) (Yg _) ⟨_,c⟩;refine h.laid (λb u q=>Yc _ q) (zy (Je _ _)) ?_;have ne:s.heap.objs.size≠s.heap.objs.size+1:=Y2 (Ja _);refine⟨by rw[az ne,aM],Yx _,ne,g,λ_=>aI,(K7 f).at λ o=>Yc _,λ_=>fy,λ y=>absurd rfl⟩
def Hn(a:attributeBase e f env (eval e env)=eval e env)
  (h:wpAny (model prog w) A (eval e env) (λo b=>wpAny (model prog w) A (getAttr o f ar) Q E b) E s):wpAny (model prog w) A (eval (.Attribute e f pos) env) Q E s:=
 Attribute_any_ h (by rw[arm_eval_Attribute,a])
inductive Ra(K:ae)(f:af)(Q:VK)(x:V)(b:Hp):Prop
 |mk (a C c fs v) (j:x=.ref a) (i:b a=O (.ins C c fs)) (h:gn K C) (g:c9 K C f) (e:fs.lookup f=O v) (d:Q v b):Ra K f Q x b
def JV(K:ae)(b:TE)(f:af):TE:=λa H Q=>b a H λx c=>Ra K f Q x c
def ZhJ(K:ae)(g e:TE)(f:af):TS:=λD b H=>e b H λy h=>g b h λx d=>∃a C c fs,x=.ref a/\d a=O (.ins C c fs)/\gn K C/\c9 K C f/\fs.length<1000/\
 D.nx b (upd d a (.ins C c (cy f y fs)))
def Zfq(m:PE X e i)(o:attributeBase e f X.env (eval e X.env)=eval e X.env):PE X (.Attribute e f pos) (JV X.K i f):=by
 intro b s d H Q I h;refine Hn o (aw (m b s d H _ I h) λu B g=>?_);obtain⟨x,y,w,j,a,C,D,fs,v,p,r,c,n,l,q⟩:=g;subst p;obtain rfl:u=Value.ref a:=j;exact ZaH w r c n l λz A t k=>⟨v,y,t,k,q⟩
def yD(w:PE X o i)(t:PE X value g)(v:swapsWith value (O (.Attribute o f pos')) pos.line X.env=pure aY):PS X (.Assign [.Attribute o f pos'] value pos) (ZhJ X.K i g f):=by
 intro b s d H D I h;refine tJ (aw (t b s d H _ I h) λu j e=>?_) v;obtain⟨y,G,F,k,q⟩:=e;refine aw (w b j d G _ F q) λr L e=>?_;obtain⟨x,P,E,m,a,C,N,fs,z,A,c,n,l,p⟩:=e;subst z;obtain rfl:r=Value.ref a:=m;exact Nc E A c n l k λJ B=>⟨d,_,B,p⟩
section
variable {X:Cx}{W:aJ}{T:St}{H:Hp}{s:a8}{A:dO}{E:aR}{Q:aR}{c:aV}{b:bA}
inductive jJ(K:ae)(H:Hp):V->aV->Prop where
 |aB:jJ K H .aB (.type "NoneType")
 |bl (x:bA):jJ K H (.bl x) (.type "bool")
 |int (i:Int):jJ K H (.int i) (.type "int")
 |str (x:af):jJ K H (.str x) (.type "str")
 |oN (x:UInt64):jJ K H (.oN x) (.type "float")
 |lst {a:U} {f:Z V} (e:H a=O (.lst f)):jJ K H (.ref a) (.type "list")
 |bp {a:U} {o:Obj} {f:Z V} (e:H a=O (.bp o (.lst f))):jJ K H (.ref a) (.type "list")
 |tup {a:U} {f:Z V} (e:H a=O (.tup f)):jJ K H (.ref a) (.type "tuple")
 |dK {a:U} {d:Z (Key×V)} (e:H a=O (.dK d)):jJ K H (.ref a) (.type "dict")
 |dT {a:U} {d:Z (Z Key×V)} (e:H a=O (.dT d)):jJ K H (.ref a) (.type "dict")
 |ins {a C g:U} {fs:Z (af×V)} (e:H a=O (.ins C g fs)) (j:gn K C) (h:PySem.W.findIn K (.ref C) "__class__"=O (O (.builtin "object.__class__")))
   (hn:specialIn K (.builtin "object.__class__") "__get__"=O (O (.builtin "getset_descriptor.__get__"))) (Uo:takesIn K (.builtin "object.__class__")=O ar)
   (hm:PySem.W.mroIn K C (.type "object")=O ar):jJ K H (.ref a) (.ref C)
theorem ZbB{x:V}{u t:aV}(I:Inv X W T H s)(f:RelV x u)(r:jJ X.K H x t)(e:kitOne X.K t c=O b)(h:∀v,Q (.bool b) {s with toks:=v}):
  wpAny X.md A (call (.builtin "isinstance") [u,c]) Q E s:=by
 cases r with
 |aB=>cases(show u=Value.none from f);exact i1 PySem.W.kitx_none I.bM fy e (λz=>nomatch z) h
 |bl y=>cases(show u=Value.bool y from f);exact i1 PySem.W.kitx_bool I.bM fy e (λz=>nomatch z) h
 |int i=>obtain⟨t,q⟩:=(show ∃t,u=Value.int i t from f);cases q;exact i1 PySem.W.kitx_int I.bM fy e (λz=>nomatch z) h
 |str y=>obtain⟨t,q⟩:=(show ∃t,u=Value.str y t from f);cases q;exact i1 PySem.W.kitx_str I.bM fy e (λz=>nomatch z) h
 |oN y=>obtain⟨t,q⟩:=(show ∃t,u=Value.float y t from f);cases q;exact i1 PySem.W.kitx_float I.bM fy e (λz=>nomatch z) h
 |@lst a l g=>
  cases(show u=Value.ref a from f);obtain⟨_,_,n,_,j⟩:=(show bY X.prog X.w H s.heap a (.lst l) from I.au a _ g);exact i1 kitx_list I.bM ⟨_,j,rfl⟩ e (λz=>nomatch z) h
 |@bp a w l g=>
  cases(show u=Value.ref a from f);obtain⟨_,_,_,n,_,j⟩:=(show bY X.prog X.w H s.heap a (.bp w (.lst l)) from I.au a _ g);exact i1 kitx_list I.bM ⟨_,j,rfl⟩ e (λz=>nomatch z) h
 |@tup a l g=>
  cases(show u=Value.ref a from f);obtain⟨_,_,_,p⟩:=(show bY X.prog X.w H s.heap a (.tup l) from I.au a _ g);obtain⟨o,j,m,_⟩:=p;exact i1 PySem.W.kitx_tuple I.bM ⟨o,j,m⟩ e (λz=>nomatch z) h
 |@dK a k g=>
  cases(show u=Value.ref a from f);obtain⟨_,_,N,_,p⟩:=(show bY X.prog X.w H s.heap a (.dK k) from I.au a _ g);obtain⟨o,F,G,j,m,_⟩:=p;exact i1 kitx_dict I.bM ⟨o,j,m.1⟩ e (λz=>nomatch z) h
 |@dT a k g=>
  cases(show u=Value.ref a from f);obtain⟨_,_,l,_,o,F,G,j,m,_⟩:=(show bY X.prog X.w H s.heap a (.dT k) from I.au a _ g);exact i1 kitx_dict I.bM ⟨o,j,m.1⟩ e (λz=>nomatch z) h
 |@ins a C dx fs g cl D B L hm=>
  cases(show u=Value.ref a from f);obtain⟨R,d,_⟩:=yq I.au g;obtain⟨P,J,_⟩:=d.look;exact i1 (PySem.W.kitx_own (cl.get _) cl.hd D B L hm) I.bM J e (λz=>nomatch z) h
end
structure bK(k:Nat)(A:dO):Prop where
 hd:A.handled=aI
 dp:A.depth+3*k+5<recursionLimit
 un:A.units+16*k+200<cLine
 gd:A.guards=O []
def bK.mono(r:bK k A)(h:j<=k):bK j A:=⟨r.hd,by have:=r.dp;omega,by have:=r.un;omega,r.gd⟩
def bK.deeper(r:bK (k+1) A)(a:Env):bK k (A.deeper a):=
 ⟨r.hd,by have:=r.dp;show A.depth+1+3*k+5<_;omega,by have:=r.un;show A.units+3+16*k+200<_;omega,r.gd⟩
def bK.in1(r:bK (k+1) A):bK k A.in1:=
 ⟨r.hd,by have:=r.dp;show A.depth+3*k+5<_;omega,by have:=r.un;show A.units+1+16*k+200<_;omega,r.gd⟩
def ZaI{A:dO}:(A.under (.builtin "type.__call__" ⟨.ref C::us,kw⟩)).depth=A.depth+1:=by
 rfl
def ZaJ{A:dO}:(A.under (.builtin "type.__call__" ⟨.ref C::us,kw⟩)).units=A.units+1:=by
 rfl
def bK.make(r:bK (k+1) A)(C:U)(a:Z aV)(b:Z (af×aV)):bK k (A.under (.builtin "type.__call__" ⟨.ref C::a,b⟩)):=
 ⟨r.hd,by have:=r.dp;rw[ZaI];omega,by have:=r.un;rw[ZaJ];omega,by first|exact r.gd|simpa[Around.under,Code.isGuard,Code.isFrame,guardIds] using r.gd⟩
def bK.depth(r:bK k A):A.depth<recursionLimit:=by have:=r.dp;omega
def bK.units(r:bK k A):A.units+64<cLine:=by have:=r.un;omega
def bK.oC(r:bK k A):A.units<cLine:=by have:=r.un;omega
def jZ:TA:=λ_ H Q=>Q [] H
def jB(d:TE)(c:TA):TA:=λa H Q=>d a H λx f=>c a f λb e=>Q (x::b) e
section
variable {X:Cx}{e:bZ}{W:Z bZ}{T:TE}{t:TA}
def ai:PA X [] jZ:=λ_ _ _ _ H Q I h=>rj ⟨[],H,I,.nil,h⟩
def aa(n:PE X e T)(m:PA X W t)(l:iN X e W:=by rfl):PA X (e::W) (jB T t):=by
 intro b a s c H Q I h;exact l▸nV (aw (n a s c H _ I h) λu f ⟨x,r,p,i,k⟩=>aw (m b a f c r _ p k) λv w ⟨d,q,o,g,j⟩=>⟨x::d,q,o,.cons i g,j⟩)
def ZhK(t:TA):TE:=λc H Q=>t c H λa b=>a.length<=sizeLine/\∀p,b p=aI->Q (.ref p) (upd b p (.lst a))
def Ic(h:PA X W t):PE X (.List W pos) (ZhK t):=by
 intro a s f H Q I j;refine Dh (aw (h pos a s f H _ I j) λi c ⟨g,k,d,r,z,q⟩=>⟨by rwa[←r.length],⟨.ref c.heap.objs.size,upd k c.heap.objs.size (.lst g),d.laid (λ b u=>Yc _) (Yg _) ?_,rfl,q _ (d.au.fresh (Yg _))⟩⟩);exact⟨z,i,0,r,Yn _ rfl⟩
end
abbrev Sp:=Z V->Hp->VK->XK->Prop
abbrev kU:=Z Env->Hp->a8->XK->aV->a8->Prop
structure oK(P:c6)(w:cD)(K:ae)(mg:aN)(base:cm)(A:dO)(outer:Z Env)(s:a8)(H:Hp):Prop where
 frames:A.frames=O outer
 mod:Mod K mg base
 bs:∀b o,base.get? b=O o->s.heap.get? b=O o/\H b=aI
 l9:base.objs.size<=s.heap.objs.size
 jH:s.heap.FunFrames base outer
 oP:∀b∈cC outer,H b=aI
 au:cZ P w H s.heap
 bare:AllBare s.gens
def CE(a:Z Env)(P:c6)(w:cD)(H:Hp)(s:a8)(Q:VK)(u:aV)(b:a8):Prop:=
 ∃v c,b.os=s.os/\AllBare b.gens/\Un (cC a) [] H c s.heap b.heap/\cZ P w c b.heap/\RelV v u/\Q v c
def CR(c:kU)(a:Z Env)(P:c6)(w:cD)(H:Hp)(s:a8)(Q:VK)(E:XK)(r:Result)(b:a8):Prop:=
 match r with
 |.ok (.ret u)=>CE a P w H s Q u b
 |.ok _=>False
 |.error e=>c a H s E e b
structure aH(P:c6)(w:cD)(K:ae)(mg:aN)(base:cm)(CX:kU)(k:Nat)(f:U)(fd:FuncData)(ps:Z af)(sp:Sp):Prop where
 len:∀vs H Q E,sp vs H Q E->vs.length=ps.length
 run:∀(A:dO) (outer:Z Env) (s:a8) (H:Hp) (args:Args) (us:Z aV) (vs:Z V) (Q:VK) (E:XK),bK k A->oK P w K mg base A outer s H->BindsTo s fd args (ps.zip us)->Vals vs us->sp vs H Q E->
  codeAny (model P w) A (.call (.ref f) args) (CR CX outer P w H s Q E) s
def oK.make{K:ae}(e:oK P w K b base A outer s H)(C:U)(a:Z aV)(c:Z (af×aV)):
  oK P w K b base (A.under (.builtin "type.__call__" ⟨.ref C::a,c⟩)) outer s H:=⟨by first|exact e.frames|(simpa[Around.under,Code.envs,Code.isFrame,pushEnvs] using e.frames),e.mod,e.bs,e.l9,e.jH,e.oP,e.au,e.bare⟩
def oK.in1{K:ae}(e:oK P w K a base A outer s H):
  oK P w K a base A.in1 outer s H:=⟨e.frames,e.mod,e.bs,e.l9,e.jH,e.oP,e.au,e.bare⟩
def Inv.wj(I:Inv X pins σ H s):oK X.prog X.w X.K X.mg X.base X.A X.stack s H:=
 ⟨I.ok.frames,I.ok.mod,I.bs,Yz I.ok.l9 I.sz,I.stack,I.Bf,I.au,I.bare⟩
def Inv.after(I:Inv X pins σ H s)(h:CE X.stack X.prog X.w H s Q u s'):EP X pins σ Q u s':=by
 obtain⟨v,e,os,a,un,c,r,q⟩:=h;obtain⟨i,g,d,t,f⟩:=s';obtain rfl:f=s.os:=os;exact⟨v,e,I.call un c a (λb z=>absurd z QS),r,q⟩
def BQ(c:Sp)(d:Z V)(E:XK)(t:TA):TE:=λa H Q=>t a H λb e=>c (b++d) e Q E
def BR(C:U)(m:af)(f:Sp)(h:Z V)(E:XK)(e:TE)(t:TA):TE:=λb H Q=>e b H λx c=>∃a g fs,x=.ref a/\c a=O (.ins C g fs)/\fs.lookup m=aI/\
 t b c λd i=>f (x::(d++h)) i Q E
def Si(C:U)(e:Sp)(f:Z V)(E:XK)(t:TA):TE:=λc H Q=>t c H λd b=>∀x a,b x=aI->b a=aI->a≠x->
 e (.ref x::(d++f)) (upd (upd b a (.own x)) x (.ins C a [])) (λv g=>v=.aB/\Q (.ref x) g) E
def Binds(K:ae)(d:FuncData)(b:Z af)(c:Z aV):Prop:=
 ∀(s:a8) (a:Z aV),K.In s.heap->(a++c).length=b.length->BindsTo s d ⟨a,[]⟩ (b.zip (a++c))
def Binds.all{K:ae}(h:∀a:Z aV,a.length=b.length->bindArgs fd ⟨a,[]⟩=pure (b.zip a)):Binds K fd b []:=λs a _ c=>by
 rw[Wh] at c⊢;exact .of_eq (h a c)
def Passes(d:kU)(X:Cx)(E:XK):Prop:=∀(a:aJ) (c:St) (H:Hp) (s:a8) (e:aV) (b:a8),Inv X a c H s->d X.stack H s E e b->X.xe e b
section
variable {X:Cx}{L:kU}{k:Nat}{f C:U}{P:FuncData}{ps:Z af}{N:Sp}{R:Z V}{ds:Z aV}{E:XK}{x m:af}{p pos W:Pos}{e o:bZ}{T:Z bZ}{J:TE}{t:TA}
theorem Bw(F:aH X.prog X.w X.K X.mg X.base L k f P ps N)(g:bK k X.A)(l:Binds X.K P ps ds)(j:Vals R ds)(d:Passes L X E)
  (I:Inv X pins σ H s)(r:Vals vs us)(h:N (vs++R) H Q E):wpAny X.md X.A (call (.ref f) us) (EP X pins σ Q) X.xe s:=by
 have b:=r.append j;have i:(us++ds).length=ps.length:=by exact b.length▸F.len _ _ _ _ h
 refine je (i_ (F.run X.A X.stack s H ⟨us,[]⟩ (us++ds) (vs++R) Q E g I.wj (l s us I.bM i) b h) λr c a=>?_);cases r with
 |error e=>exact d pins σ H s e c I a
 |ok n=>
  cases n with
  |ret u=>exact I.after a
  |next=>exact False.elim a
  |brk=>exact False.elim a
  |cont=>exact False.elim a
def Zd1(F:aH X.prog X.w X.K X.mg X.base L k f P ps N)(g:bK k X.A)(l:Gl X x)(i:X.mg x=O (.ref f))(j:keepIn X.K (.ref f)=ar)(v:Binds X.K P ps ds)(u:Vals R ds)(d:Passes L X E)
  (w:PA X (e::T) t)(y:(x==("__debug__":af))=aY:=by decide)(n:iN X e T:=by rfl)(z:jk X pos T:=by rfl):
  PE X (.Call (.Name x p) (e::T) [] pos) (BQ N R E t):=by
 intro a s c H Q I h;exact kC (sJ I l i (mj I.ok.mod.ij j (aw (w pos a s c H _ I h) λB D ⟨A,G,b,r,q⟩=>⟨b.bM,Bw F g v u d b r q⟩) n z) y)
def Zd2{B:Sem bA}(he:PE X o J)(c:gn X.K C)(i:Meth X.K C m f)(F:aH X.prog X.w X.K X.mg X.base L k f P ps N)(hr:bK k X.A)(hb:Binds X.K P ps ds)(hd:Vals R ds)(D:Passes L X E)(ha:PA X (e::T) t)
  (dA:iN X e T:=by rfl)(bN:jk X pos T:=by rfl)
  (G:eval (.Call (.Attribute o m W) (e::T) [] pos) X.env=(do
   let g←eval o X.env
   standAt W.atName
   let(f,first)←holding [g] (getMethod g m B)
   callWith pos f first (backTo pos (starEach (e::T) X.env)) (backToKw pos (keywordEach [] X.env))):=by rfl):
  PE X (.Call (.Attribute o m W) (e::T) [] pos) (BR C m N R E J t):=by
 intro b s d H Q I h;refine pz (aw (he b s d H _ I h) λu y v=>?_) G;obtain⟨x,H1,n,z,a,dx,fs,ex,ea,l,q⟩:=v;subst ex;obtain rfl:u=Value.ref a:=z;refine F7 n ea c i l ?_;refine mj I.ok.mod.ij i.kp (aw (ha pos b y d H1 _ n q) λus s2 p=>?_) dA bN;obtain⟨w,H2,j,r,A⟩:=p;refine⟨j.bM,?_⟩;exact Bw (vs:=.ref a::w) F hr hb hd D j (.cons rfl r) A
def Zcu{v:Sem bA}(A:PE X o J)(c:gn X.K C)(i:Meth X.K C m f)(F:aH X.prog X.w X.K X.mg X.base L k f P ps N)(z:bK k X.A)(D:Binds X.K P ps ds)(B:Vals R ds)(w:Passes L X E)
  (y:eval (.Call (.Attribute o m W) [] [] pos) X.env=(do
   let g←eval o X.env
   standAt W.atName
   let(f,first)←holding [g] (getMethod g m v)
   callWith pos f first (backTo pos (starEach [] X.env)) (backToKw pos (keywordEach [] X.env))):=by rfl):
  PE X (.Call (.Attribute o m W) [] [] pos) (BR C m N R E J jZ):=by
 intro b s j H Q I h;refine pz (aw (A b s j H _ I h) λu s1 n=>?_) y;obtain⟨x,H1,d,r,a,dx,fs,G,ea,l,q⟩:=n;subst G;obtain rfl:u=Value.ref a:=r;refine F7 d ea c i l ?_;exact PySem.W.callWith_K0 d.bM i.kp (Bw (vs:=[.ref a]) F z D B w d (.cons rfl .nil) q)
structure Mk(K:ae)(C f:U):Prop where
 makes:makesIn K C=ar
 init:PySem.W.findIn K (.ref C) "__init__"=O (O (.ref f))
 fn:isFn K (.ref f)=ar
 kp:keepIn K (.ref C)=ar
theorem Zcv(a:Mk X.K C f)(F:aH X.prog X.w X.K X.mg X.base L k f P ps N)(y:bK (k+1) X.A)(B:Binds X.K P ps ds)(A:Vals R ds)
  (w:Passes L X E)(I:Inv X pins σ H s)(r:Vals g us)
  (h:∀x c,H x=aI->H c=aI->c≠x->N (.ref x::(g++R)) (upd (upd H c (.own x)) x (.ins C c [])) (λv H2=>v=.aB/\Q (.ref x) H2) E):
  wpAny X.md X.A (call (.ref C) us) (EP X pins σ Q) X.xe s:=by
 have j:=h (s.heap.objs.size+1) s.heap.objs.size (I.au.fresh (wV _)) (I.au.fresh (Yg _)) (Y2 (Ja _));have d:=Inv.made (C:=C) I;have i:Vals (V.ref (s.heap.objs.size+1)::(g++R)) (Value.ref (s.heap.objs.size+1)::(us++ds)):=.cons rfl (r.append A);have z:(Value.ref (s.heap.objs.size+1)::us++ds).length=ps.length:=by
  have e:=i.length;rw[F.len _ _ _ _ j] at e;exact e.symm
 refine je (Zct I.bM a.makes a.init (beq_iff_eq.mp a.fn) (i_ (F.run _ X.stack _ _ ⟨Value.ref (s.heap.objs.size+1)::us,[]⟩ (Value.ref (s.heap.objs.size+1)::(us++ds)) _ _ E (y.make C us [])
  (d.wj.make C us []) (B _ (Value.ref (s.heap.objs.size+1)::us) d.bM z) i j) λr l b=>?_))
 cases r with
 |error e=>exact w pins σ _ _ e l d b
 |ok D=>
  cases D with
  |ret u=>
   obtain⟨v,H',I3,n,G,q⟩:=d.after b;subst G;exact⟨n,⟨V.ref (s.heap.objs.size+1),H',I3,rfl,q⟩⟩
  |next=>exact False.elim b
  |brk=>exact False.elim b
  |cont=>exact False.elim b
def Zd3(a:Mk X.K C f)(F:aH X.prog X.w X.K X.mg X.base L k f P ps N)(i:bK (k+1) X.A)(l:Gl X x)(j:X.mg x=O (.ref C))(v:Binds X.K P ps ds)(u:Vals R ds)(g:Passes L X E)
  (w:PA X (e::T) t)(y:(x==("__debug__":af))=aY:=by decide)(n:iN X e T:=by rfl)(z:jk X pos T:=by rfl):
  PE X (.Call (.Name x p) (e::T) [] pos) (Si C N R E t):=by
 intro b s d H Q I h;exact kC (sJ I l j (mj I.ok.mod.ij a.kp (aw (w pos b s d H _ I h) λB D J=>by obtain⟨A,G,c,r,q⟩:=J;exact⟨c.bM,Zcv a F i v u g c r q⟩) n z) y)
end
structure aS(N P:Z af)(sc:Scope):Prop where
 kind:sc.kind=.function
 co:sc.isCoroutine=aY
 gen:sc.isGenerator=aY
 nd:N.Nodup
 pre:N.take P.length=P
 par:∀x∈P,sc.names.lookup x=O .local\/sc.names.lookup x=O .cell
 Zfr:∀y∈sc.names,y.2≠.free
theorem NP{a:af->bt NameKind}{x:af}:∀{binds:Z (af×aV)} {m:aN},(∀v,(x,v)∉binds)->bindL a binds m x=m x
 |[],_,_=>rfl
 |(n,v)::r,m,h=>by
  unfold bindL;rw[NP λw b=>h w (Yv _ b)];split;·grind
  ·rfl
theorem NQ{a:af->bt NameKind}{x:af}:∀{binds:Z (af×aV)} {m:aN},(∀v,(x,v)∉binds)->bindC a binds m x=m x
 |[],_,_=>rfl
 |(n,v)::r,m,h=>by
  unfold bindC;rw[NQ λw b=>h w (Yv _ b)];split;·rfl
  ·grind
theorem NR{a:af->bt NameKind}{x:af}{v:aV}:∀{P:Z af} {b:Z aV} {i:Nat} {m:aN},P.Nodup->P[i]?=O x->b[i]?=O v->a x=O .local->
  bindL a (P.zip b) m x=O v
 |[],_,_,_,_,h,_,_=>by simp at h
 |_::_,[],_,_,_,_,h,_=>by simp at h
 |p::P,w::b,0,m,e,d,c,f=>by
  simp at d c;subst d;subst c;show bindL a ((p,w)::P.zip b) m p=_;unfold bindL;rw[NP λv g=>(Y4.mp e).1 (KL g).1,br f];simp
 |p::P,w::b,i+1,m,e,d,c,f=>by
  unfold bindL;exact NR (Y4.mp e).2 (by simpa using d) (by simpa using c) f
theorem NT{a:af->bt NameKind}{x:af}{v:aV}:∀{P:Z af} {b:Z aV} {i:Nat} {m:aN},P.Nodup->P[i]?=O x->b[i]?=O v->a x≠O .local->
  bindC a (P.zip b) m x=O v
 |[],_,_,_,_,h,_,_=>by simp at h
 |_::_,[],_,_,_,_,h,_=>by simp at h
 |p::P,w::b,0,m,e,d,c,f=>by
  simp at d c;subst d;subst c;show bindC a ((p,w)::P.zip b) m p=_;unfold bindC;rw[NQ λv g=>(Y4.mp e).1 (KL g).1,bb f];simp
 |p::P,w::b,i+1,m,e,d,c,f=>by
  unfold bindC;exact NT (Y4.mp e).2 (by simpa using d) (by simpa using c) f
def start(N:Z af)(a:Z V):St:=a.map O++List.replicate (N.length-a.length) aI
def iG(g:kU)(P:c6)(w:cD)(K:ae)(mg:aN)(base:cm)(N:Z af)(b:af)(a:Scope)(f:U)(c:aV)(A:dO)(outer:Z Env)(s:a8)(H:Hp)(E:XK):Cx where
 prog:=P
 w:=w
 K:=K
 mg:=mg
 base:=base
 A:=A.deeper (envOfC b a s.heap.objs.size f c)
 N:=N
 b_:=s
 jY:=H
 env:=envOfC b a s.heap.objs.size f c
 outer:=outer
 stack:=envOfC b a s.heap.objs.size f c::outer
 ex:=[]
 calm:=ar
 fn:=λ_=>ar
 pn:=[]
 xe:=λe h=>wpAny (model P w) (A.deeper (envOfC b a s.heap.objs.size f c)) (leaving (envOfC b a s.heap.objs.size f c) e) (λ_ d=>g outer H s E e d) (λi d=>g outer H s E i d) h
def OH{a:Scope}(h:a.names.lookup x=O .cell):∃c,(cellsFrom n a.names []).lookup x=O c:=by
 exact Jo.mp (vb a.names n [] (.inl h))
theorem NU{K:ae}
  (d:aS N l scope)(Q:A.handled=aI)(g:oK P w K C base A outer s H)(L:m.length=l.length)(r:Vals m us)
  (x:InCallC s s.heap.objs.size (bindL (envOfC qual scope s.heap.objs.size f cd).kindOf (l.zip us) λ_=>aI) (cellsFrom (s.heap.objs.size+1) scope.names []) (bindC (envOfC qual scope s.heap.objs.size f cd).kindOf (l.zip us) λ_=>aI) s1):
  Inv (iG T P w K C base N qual scope f cd A outer s H E) [] (start N m) H s1:=by
 have bN:l.length<=N.length:=by have:=de List.length d.pre;rw[Wi] at this;omega
 obtain⟨B,W,rfl,F⟩:=x.done;have t:∀b:U,b∉(iG T P w K C base N qual scope f cd A outer s H E).ex:=λb z=>absurd (show b∈([]:Z U) from z) QS;refine⟨⟨g.mod,d.kind,rfl,rfl,Yg _,λy z c B o=>?_,λy j=>?_,λy c _ h=>?_,λ_=>Q,Around.frames_deeper g.frames,.inr ⟨rfl,rfl⟩,λb z=>absurd z (t b),g.bs,g.l9,λb _ _=>t b,λb z=>absurd z (t b),g.jH,g.oP⟩,
  rfl,g.bare,Un.kept F,⟨_,x.toInCall.ns,λi y v B o X=>?_⟩,λy c h=>⟨_,x.cell y c h⟩,g.au.fresh (Yg _),λy c h=>?_,λp n=>absurd (show p∈([]:aJ) from n) QS,g.au.kept F,?_⟩
 ·exact name_of_addr x.apart (nP B) (nP o)
 ·have j:=j;rcases j with j|j;·exact OH j
  ·exact absurd rfl (d.Zfr _ (nP j))
 ·exact Jz (x.above y c (nP h))
 ·have G:i<m.length:=by
   unfold start at o
   grind
  have R:m[i]?=O v:=by
   unfold start at o;rw[Y9 (by simpa using G),Yi] at o;cases e:m[i]? with
   |none=>simp_all
   |some a=>simp_all
  obtain⟨u,D,J⟩:=r.get R;have n:l[i]?=O y:=by
   rwa[←d.pre,List.getElem?_take_of_lt (eU G (gR L))]
  have I:l.Nodup:=by exact d.pre▸d.nd.sublist (Uq _ _)
  refine⟨u,J,?_⟩;rcases d.par y (Ym n) with k|k;·exact .inl ⟨k,NR I n D k⟩
  ·obtain⟨c,e⟩:=OH k;refine .inr ⟨.inl k,c,e,?_⟩;have q:=x.cell y c e;rw[NT I n D (by show scope.names.lookup y≠_;rw[k];decide)] at q;exact q
 ·exact g.au.fresh (Jz (x.above y c (nP h)))
 ·unfold start;show _=N.length
  simp_all
theorem BU{T:kU}{P:c6}{w:cD}{K:ae}{L:aN}{i:cm}{k:Nat}{f:U}{m g:af}{h:Arguments}{j:Z bS}{c:Scope}{dV kV F pm z ct oc:aV}{an od:bt U}
  {gS:cw (bt aV)}{N G:Z af}{sp:Sp}(lk:K.lookup f=O ⟨oc,od,.func (fnOf m g h j c dV kV F pm an z ct),gS⟩)(e_:codeIn K z g=ar)(a:aS N G c)
  (C:∀l H Q E,sp l H Q E->l.length=G.length)
  (jC:∀(A:dO) (d:Z Env) (s:a8) (H:Hp) (l:Z V) (Q:VK) (E:XK),bK k (A.deeper (envOfC g c s.heap.objs.size f z))->sp l H Q E->
   ∃t,fR (iG T P w K L i N g c f z A d s H E) j t/\t {nx:=λ_ p=>Q .aB p,rt:=Q} (start N l) H):
  aH P w K L i T (k+1) f (fnOf m g h j c dV kV F pm an z ct) G sp:=by
 refine⟨C,λA d s H args us l Q E hr D hb r iO=>?_⟩;have hl:=C _ _ _ _ iO;have KX:K.In s.heap:=D.mod.ij.keeps λb o e=>(D.bs b o e).1;have X:s.heap.NoLimit:=D.mod.nolimit.keeps λb o e=>(D.bs b o e).1;have ZgR:∀y∈G.zip us,c.names.lookup y.1=O .local\/(c.names.lookup y.1=O .cell/\((cellsFrom (s.heap.objs.size+1) c.names []).lookup y.1).isSome=ar):=λ⟨n,v⟩ hy=>by
  rcases a.par n (KL hy).1 with q|q;·exact .inl q
  ·exact .inr ⟨q,vb _ _ _ (.inl q)⟩
 refine codeAny_call_function hr.depth (KX _ _ lk) rfl a.co a.gen rfl (PySem.W.codeRec_of KX e_) (hb _ _ _ _ ?_);refine zi a.kind ZgR λenv he s1 x=>?_;subst he;refine⟨X.keeps x.toInCall.keep,codeAny_func ?_⟩;obtain⟨t,ht,hq⟩:=jC A d s H l Q E (hr.deeper _) iO;have I:Inv (iG T P w K L i N g c f z A d s H E) [] (start N l) H s1:=NU a hr.hd D hl r x;refine cW (ht [] s1 (start N l) H _ I hq) (λfl s' B=>?_) λe s' B=>B;have fin:∀{R:St} {p:Hp} {v:V} {u:aV},Inv (iG T P w K L i N g c f z A d s H E) [] R p s'->RelV v u->Q v p->CE d P w H s Q u s':=
  λ{R p v u} J W q=>⟨v,p,J.os,J.bare,J.base,J.au,W,q⟩
 cases fl with
 |ret u=>
  obtain⟨v,R,p,J,W,q⟩:=B;exact fin J W q
 |next=>
  obtain⟨R,p,J,q⟩:=B;exact fin (v:=V.aB) (u:=Value.none) J rfl q
 |brk=>
  obtain⟨_,_,_,q⟩:=B;exact False.elim q
 |cont=>
  obtain⟨_,_,_,q⟩:=B;exact False.elim q
section
variable {X:Cx}{x:af}{p pos:Pos}{e:bZ}{W:Z bZ}{t:TA}{id T:String}{r:Z V->Hp->VK->Prop}
def oV(r:Z V->Hp->VK->Prop)(t:TA):TE:=λa H Q=>t a H λb c=>r b c Q
def gW(o:cU X (.builtin id) r)(m:Gl X x)(l:X.mg x=aI)(j:bootBuiltins x=O (.builtin id))(q:PA X (e::W) t)(k:x≠"__name__":=by decide)(u:(x==("__debug__":af))=aY:=by decide)
  (n:iN X e W:=by rfl)(v:jk X pos W:=by rfl):PE X (.Call (.Name x p) (e::W) [] pos) (oV r t):=by
 intro a s b H Q I h;refine kC (pW I m l j ?_ k u);exact zc (aw (q pos a s b H _ I h) λd f ⟨c,y,w,g,i⟩=>o a f b y c d Q w g i) n v
def jv(o:cU X (.type T) r)(m:Gl X x)(l:X.mg x=aI)(j:bootBuiltins x=O (.type T))(q:PA X (e::W) t)(k:x≠"__name__":=by decide)(u:(x==("__debug__":af))=aY:=by decide)
  (n:iN X e W:=by rfl)(v:jk X pos W:=by rfl):PE X (.Call (.Name x p) (e::W) [] pos) (oV r t):=by
 intro a s b H Q I h;refine kC (pW I m l j ?_ k u);exact tX (aw (q pos a s b H _ I h) λd f ⟨c,y,w,g,i⟩=>o a f b y c d Q w g i) n v
end
end L2
namespace HT
open PySem PyProof.Rows
section
open PySem.SeqAt
open PySem.AutoSeq1 (wpAny_loadPart')
open PySem.MeetsSeq PySem.MeetsSeq2 PySem.MeetsSeq3
end
def iq(n d:Nat):bt Int->Nat
 |none=>d
 |some v=>if v<0 then(v+(n:Int)).toNat else min v.toNat n
def Zd4(n d k:Nat):iq n d (O (k:Int))=min k n:=by
 show(if(k:Int)<0 then((k:Int)+(n:Int)).toNat else min (k:Int).toNat n)=min k n;rfl
end HT
namespace L2
open PySem PySem.Spec PyProof.Rows
abbrev TO:=St->Hp->(bt Int->Hp->Prop)->Prop
def PO(X:Cx)(e:bt bZ)(t:TO):Prop:=
 ∀(a:aJ) (s:a8) (b:St) (H:Hp) (Q:bt Int->Hp->Prop),Inv X a b H s->t b H Q->
  wpAny X.md X.A (evalPart e X.env) (λu d=>∃o c,Inv X a b c d/\IsPart u o/\Q o c) X.xe s
def Zd5:TO:=λ_ H Q=>Q aI H
inductive PH(Q:bt Int->Hp->Prop)(x:V)(a:Hp):Prop
 |mk (i) (c:x=.int i) (b:Q (O i) a):PH Q x a
def ZgS(t:TE):TO:=λa H Q=>t a H λx b=>PH Q x b
theorem intsAre_of:∀{a:Z aV},Vals (ns.map V.int) a->IntsAre a ns:=by
 induction ns with
 |nil=>intro a r;rw[vr] at r;cases r;exact .nil
 |cons n ns d=>
  intro a r;cases r with
  |cons c b=>
   obtain⟨t,e⟩:=c;subst e;exact .cons n t (d b)
section
variable {X:Cx}{R:TE}{lo W:bt bZ}{P N:TO}
def Bh:PO X aI Zd5:=by
 intro a s b H Q I h;exact cb ⟨aI,H,I,.none,h⟩
def Bi(h:PE X e R):PO X (O e) (ZgS R):=by
 intro a s b H Q I g;refine aw (h a s b H _ I g) λu l c=>?_;obtain⟨x,k,j,d,f⟩:=c;obtain⟨i,rfl,q⟩:=f;obtain⟨t,rfl⟩:=d;exact⟨O i,k,j,.int i t,q⟩
def wW(X:Cx)(r:V->bt Int->bt Int->Hp->VK->Prop):Prop:=
 ∀(a:aJ) (s:a8) (b:St) (H:Hp) (x:V) (v d c:aV) (lo W:bt Int) (e:U) (Q:VK),Inv X a b H s->RelV x v->s.heap.IsSliceOf e d c .none->IsPart d lo->IsPart c W->r x lo W H Q->
  ∃T id,typeLookup (.type T) "__getitem__"=pure (O (.builtin id))/\s.TypeIs v T/\wpAny X.md X.A (getItem v (.ref e)) (EP X a b Q) X.xe s
def tSl(r:V->bt Int->bt Int->Hp->VK->Prop)(R:TE)(P N:TO):TE:=λa H Q=>R a H λx d=>P a d λl c=>N a c λu b=>r x l u b Q
def A5(B:wW X r)(E:PE X e R)(C:PO X lo P)(z:PO X W N):PE X (.Subscript e (.Slice lo W aI p2) pos) (tSl r R P N):=by
 intro a s c H Q I h;refine Subscript_ (aw (E a s c H _ I h) λv m d=>?_);obtain⟨x,H1,I1,n,t⟩:=d;refine wpAny_Slice (aw (C a m c H1 _ I1 t) λi k d=>?_);obtain⟨l,H2,L,y,p⟩:=d;refine aw (z a k c H2 _ L p) λg f d=>?_;obtain⟨u,j,J,w,o⟩:=d;rw[evalPart_none];refine cb ?_;have G:Inv X a c j {f with heap:=f.heap.push {cls:=.type "slice",data:=.fields #[i,g,.none]}}:=J.kept λb ob q=>Yc _ q;obtain⟨T,id,F,A,D⟩:=B a {f with heap:=f.heap.push {cls:=.type "slice",data:=.fields #[i,g,.none]}} c j x v i g l u f.heap.objs.size Q G n (Heap.IsSliceOf.new ..) y w o;exact tail_any A F D QU
def m9(a:Z V)(lo W:bt Int):Z V:=(a.drop (HT.iq a.length 0 lo)).take (HT.iq a.length a.length W-HT.iq a.length 0 lo)
def AF(a:Z V)(lo W:bt Int):(m9 a lo W).length<=a.length:=by
 unfold m9
 (simp;exact ir (U8 _ _) (xU _ _))
end
def d9(n:Nat)(i:Int):bt Nat:=if 0<=i then(if i<n then O i.toNat else aI) else if-(n:Int)<=i then O (i+n).toNat else aI
def fM{α:Type}(a:Z α)(i:Int):bt α:=(d9 a.length i).bind λj=>a[j]?
def PK(h:d9 n i=O j):seqIndex? i n=O j/\j<n/\-(n:Int)<=i/\i<n:=by
 unfold d9 at h;by_cases b:0<=i
 ·rw[br b] at h;by_cases a:i<n
  ·rw[br a] at h;have e:=Yr h;exact⟨by rw[vu b a,e],QO,QO,a⟩
  ·simp_all
 ·rw[bb b] at h;by_cases a:-(n:Int)<=i
  ·rw[br a] at h;have e:=Yr h;exact⟨by rw[vl QO a,e],QO,a,QO⟩
  ·simp_all
theorem Ho(h:fM xs i=O v):∃j,seqIndex? i xs.length=O j/\xs[j]?=O v/\j<xs.length/\-(xs.length:Int)<=i/\i<xs.length:=by
 unfold fM at h;cases e:d9 xs.length i with
 |none=>simp_all
 |some j=>
  obtain⟨d,c,b,a⟩:=PK e
  simp_all
def eA{j:Nat}(h:xs[j]?=O v):fM xs (j:Int)=O v:=by
 have e:d9 xs.length (j:Int)=O j:=by
  unfold d9
  grind
 unfold fM;rwa[e]
def PL(b:bZ):Prop:=∀o i,subscripted b aY o i=operate [o,i] (getItem o i)
def jo(X:Cx)(r:R2):Prop:=
 ∀(c a:bZ) (b:aJ) (s:a8) (d:St) (H:Hp) (x y:V) (v u:aV) (Q:VK),Inv X b d H s->RelV x v->RelV y u->r x y H Q->
  subscripted a aY v u=operate [v,u] (getItem v u)->wpAny X.md X.A (subscriptTail c a v u) (EP X b d Q) X.xe s
def Ur(X:Cx)(id:String)(r:V->Z V->Hp->VK->Prop):Prop:=
 ∀(a:aJ) (s:a8) (b:St) (H:Hp) (x:V) (c:Z V) (v:aV) (d:Z aV) (Q:VK),Inv X a b H s->RelV x v->Vals c d->r x c H Q->
  wpAny X.md X.A (call (.builtin id) (v::d)) (EP X a b Q) X.xe s
section
variable {X:Cx}{a b:bZ}
def jo.or(h:jo X r)(l:jo X k):jo X (λx y H Q=>r x y H Q\/k x y H Q):=by
 intro c d e s f H x y v u Q I i g q j;rcases q with q|q;·exact h c d e s f H x y v u Q I i g q j
 ·exact l c d e s f H x y v u Q I i g q j
def Sj(l:jo X r)(n:PE X a f)(m:PE X b e)(k:PL b):PE X (.Subscript a b pos) (nB r f e):=by
 intro c s d H Q I h;exact Subscript_ (JT n m I h λv u g x y p o j i q=>l a b c g d p x y v u Q o j i q (k _ _))
inductive Rb(K:ae)(x:V)(y:V)(H:Hp)(Q:VK):Prop
 |mk (p c i v) (h:x=.ref p) (g:y=.int i) (f:aj K H p c) (e:fM c i=O v) (d:Q v H):Rb K x y H Q
def Ce(K:ae):R2:=λx y H Q=>Rb K x y H Q
inductive Rc(K:ae)(x:V)(y:V)(H:Hp)(Q:VK):Prop
 |mk (p c i v) (h:x=.ref p) (g:y=.int i) (f:aK K H p c) (e:fM c i=O v) (d:Q v H):Rc K x y H Q
def Cf(K:ae):R2:=λx y H Q=>Rc K x y H Q
inductive Rf(x:V)(y:V)(H:Hp)(Q:VK):Prop
 |mk (z i c) (h:x=.str z) (g:y=.int i) (f:z.length<=sizeLine) (e:fM z.cps.toList i=O c) (d:Q (.str ⟨#[c]⟩) H):Rf x y H Q
def Tc:R2:=λx y H Q=>Rf x y H Q
def Hq:jo X (Ce X.K):=by
 intro d e c s o H x y v u Q I B A h l;obtain⟨p,N,i,z,rfl,rfl,D,E,q⟩:=h;cases B;obtain⟨t,rfl⟩:=A;obtain⟨L,r,f,P⟩:=I.list D;obtain⟨j,k,J,W,G,F⟩:=Ho E;obtain⟨w,n,C⟩:=r.get J;have T:=r.length;have R:=sT;have fin:EP X c o Q w s:=⟨z,H,I,C,q⟩;by_cases m:0<=i
 ·have g:i.toNat=j:=by
   rw[vu m F] at k;exact Yr k
  exact item_listR f.isList m QO (by rw[g];simpa using n) fin l
 ·have g:(i+(L.toArray.size:Int)).toNat=j:=by
   rw[vl QO G] at k
   simp_all
  exact subscriptTail_builtinR (x:=w) f.isList.typeIs slot_list_getitem.lookup
   (wpAny_getItem_list_neg f.isList QO (by rw[Yw]<;>omega) QO (by rw[g];simpa using n) ⟨rfl,fin⟩) l
def Rg:jo X (Cf X.K):=by
 intro c d f s C H x y v u Q I k g h m;obtain⟨p,D,i,z,rfl,rfl,n,o,q⟩:=h;cases k;obtain⟨t,rfl⟩:=g;obtain⟨P,r,e,E⟩:=I.tuple n;obtain⟨j,N,A,L,J,G⟩:=Ho o;obtain⟨w,B,l⟩:=r.get A;have F:=sT;exact subscriptTail_builtinR e.typeIs slot_tuple_getitem.lookup
  (getItem_tuple e QO QO (by rwa[Yw,←r.length]) (by simpa using B) ⟨rfl,⟨z,H,I,l,q⟩⟩) m
def yE:jo X Tc:=by
 intro d e f s A H x y v u Q I l k h m;obtain⟨z,i,c,rfl,rfl,C,o,q⟩:=h;obtain⟨t,rfl⟩:=l;obtain⟨B,rfl⟩:=k;obtain⟨j,g,w,E,r,p⟩:=Ho o;have n:z.cps.toList.length=z.length:=by simp[Str.length]
 rw[n] at g r p;have D:=sT;exact tail_any (m7 s z t) slot_str_getitem.lookup (getItem_str (by
  rw[(eJ QO),(eJ QO),Bool.or_false]) (by rw[g];simpa using w) ⟨.str ⟨#[c]⟩,H,I.tok _,⟨_,rfl⟩,q⟩) m
def KN(K:ae):R2:=λx y H Q=>Ce K x y H Q\/Cf K x y H Q\/Tc x y H Q
def Zfs:jo X (KN X.K):=Hq.or (Rg.or yE)
def ZaK(c:Z aV)(n j:Nat)(u:aV):Obj.mapSeq (·.setIfInBounds j u) {cls:=.type "list",data:=.seq c.toArray n}={cls:=.type "list",data:=.seq (c.set j u).toArray n}:=by
 simp[Obj.mapSeq]
def Inv.lst(I:Inv X pins σ H s)(h:H p=O (.lst xs)):
  ∃(c:Z aV) (n:Nat),Vals xs c/\s.heap.get? p=O {cls:=.type "list",data:=.seq c.toArray n}/\xs.length<=sizeLine:=by
 obtain⟨z,c,n,r,e⟩:=I.au p _ h
 simp_all
def Inv.Zft{d:aJ}{j:St}{H:Hp}{s:a8}{p:U}{m g:Z V}{l c:Z aV}{n i:Nat}{f:Obj->Obj}(I:Inv X d j H s)(h:H p=O (.lst m))
  (v:s.heap.get? p=O {cls:=.type "list",data:=.seq l.toArray n})(k:f {cls:=.type "list",data:=.seq l.toArray n}={cls:=.type "list",data:=.seq c.toArray i})(r:Vals g c)(o:g.length<=sizeLine)(t:Nat):
  Inv X d j (upd H p (.lst g)) {s with heap:=s.heap.update p f,toks:=t}:=by
 have e:(s.heap.update p f).get? p=O {cls:=.type "list",data:=.seq c.toArray i}:=by
  rw[Wq f v (by rw[k]<;>rfl),k]
 refine I.write (by rw[h];trivial) (.inl rfl) (λb u w q=>(Y6 _ _ (d6 w)).trans q) ⟨_,e⟩ ?_;exact⟨o,c,i,r,e⟩
def ZgT:V->V->V->Hp->(Hp->Prop)->Prop:=λo i v H Q=>∃p c k j,o=.ref p/\i=.int k/\H p=O (.lst c)/\d9 c.length k=O j/\Q (upd H p (.lst (c.set j v)))
def set_list:tS X ZgT:=by
 rintro c s z H o i v G J u Q I C D B ⟨p,A,k,j,rfl,rfl,f,F,q⟩;cases C;obtain⟨t,rfl⟩:=D;obtain⟨x,n,r,d,E⟩:=I.lst f;obtain⟨m,N,l,h⟩:=PK F;have g:=r.length;have L:=sT;have y:Inv X c z (upd H p (.lst (A.set j v))) {s with heap:=s.heap.update p (Obj.mapSeq (·.setIfInBounds j u))}:=
  I.Zft f d (ZaK x n j u) (r.set B j) (by rw[Jh];exact E) s.toks
 by_cases w:0<=k
 ·have e:k.toNat=j:=by
   rw[vu w h] at m
   grind
  exact PySem.W.ki_setAt d w QO (by rw[Yw,←g];exact h) (by rw[e];exact⟨_,y,q⟩)
 ·have e:(k+(x.toArray.size:Int)).toNat=j:=by
   rw[vl QO l] at m
   grind
  exact PySem.W.ki_setBack d QO (by rw[Yw,←g];exact l) QO (by exact e▸⟨_,y,q⟩)
theorem Zt(c d:bt Int)(n:Nat):(sliceBounds c d aI n).1=((HT.iq n 0 c:Nat):Int)/\(sliceBounds c d aI n).2.1=((HT.iq n n d:Nat):Int)/\(sliceBounds c d aI n).2.2=1:=by
 refine⟨?_,?_,rfl⟩
 ·cases c with
  |none=>rfl
  |some i=>
   simp[sliceBounds,HT.iq]
   grind
 ·cases d with
  |none=>rfl
  |some i=>
   simp[sliceBounds,HT.iq]
   grind
def YZ(c:Z aV)(d e:bt Int):slicePick c.toArray d e aI=((c.drop (HT.iq c.length 0 d)).take (HT.iq c.length c.length e-HT.iq c.length 0 d)).toArray:=by
 obtain⟨h,g,f⟩:=Zt d e c.toArray.size;unfold slicePick;rw[h,g,f];simp only[sliceRange_one,pick_run]<;>rfl
def ZhL(K:ae):V->bt Int->bt Int->Hp->VK->Prop:=λx lo d H Q=>∃a c,x=.ref a/\aj K H a c/\∀p,H p=aI->Q (.ref p) (upd H p (.lst (m9 c lo d)))
def Zd6:wW X (ZhL X.K):=by
 rintro e s n H x v p o lo g t Q I h m j i ⟨a,c,rfl,l,q⟩;cases h;obtain⟨w,r,f,k⟩:=I.list l;have d:=r.length;refine⟨"list",_,slot_list_getitem.lookup,f.isList.typeIs,wpAny_getItem_list_slice f.isList m j i .none QS ?_ (by rw[Yw]<;>omega)⟩;rw[YZ,←d];refine⟨.ref s.heap.objs.size,_,I.laid (λ b u=>Yc _) (Yg _) ?_,rfl,q _ (I.au.fresh (Yg _))⟩;exact⟨Yz (AF c lo g) k,_,0,(r.drop (HT.iq c.length 0 lo)).take (HT.iq c.length c.length g-HT.iq c.length 0 lo),Yn _ rfl⟩
def jD:V->bA
 |.aB=>ar
 |.bl _=>ar
 |.int _=>ar
 |.str _=>ar
 |_=>aY
def jL:V->V->bA
 |.aB,.aB=>ar
 |.bl a,.bl b=>a==b
 |.bl a,.int b=>(if a then 1 else 0)==b
 |.int a,.bl b=>a==(if b then 1 else 0)
 |.int a,.int b=>a==b
 |.str a,.str b=>a==b
 |_,_=>aY
theorem Rh(e:RelV y u)(c:RelV x v)(g:jD y=ar)(f:jD x=ar):SeqAt.EqAt A s u v (jL y x):=by
 cases y with
 |aB=>
  cases e;cases x with
  |aB=>cases c;exact L3 _
  |bl b=>cases c;exact SeqAt.EqAt.none_bool b
  |int b=>obtain⟨t,rfl⟩:=c;exact SeqAt.EqAt.none_int b t
  |str b=>obtain⟨t,rfl⟩:=c;exact SeqAt.EqAt.none_str b t
  |_=>exact absurd (f) Yo
 |bl a=>
  cases e;cases x with
  |aB=>cases c;exact SeqAt.EqAt.bool_none a
  |bl b=>cases c;exact SeqAt.EqAt.bool_bool a b
  |int b=>obtain⟨t,rfl⟩:=c;exact SeqAt.EqAt.bool_int a b t
  |str b=>obtain⟨t,rfl⟩:=c;exact SeqAt.EqAt.bool_str a b t
  |_=>exact absurd (f) Yo
 |int a=>
  obtain⟨d,rfl⟩:=e;cases x with
  |aB=>cases c;exact SeqAt.EqAt.int_none a d
  |bl b=>cases c;exact SeqAt.EqAt.int_bool a d b
  |int b=>obtain⟨t,rfl⟩:=c;exact qO a d b t
  |str b=>obtain⟨t,rfl⟩:=c;exact UT a d b t
  |_=>exact absurd (f) Yo
 |str a=>
  obtain⟨d,rfl⟩:=e;cases x with
  |aB=>cases c;exact SeqAt.EqAt.str_none a d
  |bl b=>cases c;exact SeqAt.EqAt.str_bool a d b
  |int b=>obtain⟨t,rfl⟩:=c;exact US a d b t
  |str b=>obtain⟨t,rfl⟩:=c;exact SeqAt.EqAt.str_str a d b t
  |_=>exact absurd (f) Yo
 |_=>exact absurd (g) Yo
def iQ(x:V)(u:aV):bA:=match u with
 |.none=>jL .aB x
 |.bool b=>jL (.bl b) x
 |.int i _=>jL (.int i) x
 |.str z _=>jL (.str z) x
 |_=>aY
theorem Ri(r:RelV y u)(f:jD y=ar):iQ x u=jL y x:=by
 cases y with
 |aB=>cases r;rfl
 |bl b=>cases r;rfl
 |int i=>obtain⟨t,rfl⟩:=r;rfl
 |str z=>obtain⟨t,rfl⟩:=r;rfl
 |_=>exact absurd (f) Yo
theorem yr{x:V}:∀{c:Z V} {d:Z aV},Vals c d->c.all jD=ar->d.any (iQ x)=c.any λy=>jL y x
 |_,_,.nil,_=>rfl
 |y::c,u::d,.cons r t,f=>by
  rw[Jt,Jb] at f;rw[Ju,Ju,Ri r f.1,yr t f.2]
theorem ym(i:RelV x v)(k:jD x=ar):∀{d:Z V} {e:Z aV},Vals d e->d.all jD=ar->∀u∈e,SeqAt.EqAt A s u v (iQ x u):=by
 intro d e h;induction h with
 |nil=>intro _ u c;cases c
 |cons r t j=>
  intro f g c;rw[Jt,Jb] at f;rcases Ys.mp c with rfl|c;·rw[Ri r f.1];exact Rh r i f.1 k
  ·exact j f.2 g c
def fS(x:V)(c:Z V):bA:=c.any λy=>jL y x
def zA(K:ae)(d:bA):R2:=λx y H Q=>∃p c,y=.ref p/\(aj K H p c\/aK K H p c)/\jD x=ar/\c.all jD=ar/\Q (.bl (if d then !fS x c else fS x c)) H
def ZbC:cE X (compareOp .In) (zA X.K aY):=by
 rintro h s l H x y v u Q I g j ⟨p,m,rfl,c,i,fs,q⟩;cases j;rcases c with c|c
 ·obtain⟨d,r,e,k⟩:=I.list c;refine SeqAt.in_listAt (iQ x) e.isList (λw f=>ym g i r fs w (by simpa using f)) ⟨.bl _,H,I,rfl,?_⟩;rw[show d.toArray.any (iQ x)=d.any (iQ x) by simp,yr r fs];exact q
 ·obtain⟨d,r,e,k⟩:=I.tuple c;refine SeqAt.in_tupleAt (iQ x) e (λw f=>ym g i r fs w (by simpa using f)) ⟨.bl _,H,I,rfl,?_⟩;rw[show d.toArray.any (iQ x)=d.any (iQ x) by simp,yr r fs];exact q
def Zu:cE X (compareOp .NotIn) (zA X.K ar):=by
 rintro h s l H x y v u Q I g j ⟨p,m,rfl,c,i,fs,q⟩;cases j;rcases c with c|c
 ·obtain⟨d,r,e,k⟩:=I.list c;refine Di (iQ x) e.isList (λw f=>ym g i r fs w (by simpa using f)) ⟨.bl _,H,I,rfl,?_⟩;rw[show d.toArray.any (iQ x)=d.any (iQ x) by simp,yr r fs];exact q
 ·obtain⟨d,r,e,k⟩:=I.tuple c;refine SeqAt.notIn_tupleAt (iQ x) e (λw f=>ym g i r fs w (by simpa using f)) ⟨.bl _,H,I,rfl,?_⟩;rw[show d.toArray.any (iQ x)=d.any (iQ x) by simp,yr r fs];exact q
def MT:cU X (.builtin "len") (λh H Q=>∃p d,h=[.ref p]/\(aj X.K H p d\/aK X.K H p d)/\Q (.int d.length) H):=by
 rintro i s m H h n Q I r ⟨p,d,rfl,e,q⟩;obtain⟨u,rfl,j⟩:=vals1 r;cases j;have o:=sT;rcases e with e|e
 ·obtain⟨l,f,g,k⟩:=I.list e;have c:=f.length;exact Calls.call_len_list g.isList (by simp only[Yw]<;>omega) ⟨.int d.length,H,I.tok _,⟨s.toks+1,by rw[Yw,c]⟩,q⟩
 ·obtain⟨l,f,g,k⟩:=I.tuple e;have c:=f.length;exact len_tuple g (by simp only[Yw]<;>omega) ⟨.int d.length,H,I.tok _,⟨s.toks+1,by rw[Yw,c]⟩,q⟩
def Zv:cU X (.builtin "len") (λc H Q=>∃z,c=[.str z]/\z.length<=sizeLine/\Q (.int z.length) H):=by
 rintro d s e H c f Q I r ⟨z,rfl,g,q⟩;obtain⟨u,rfl,t,rfl⟩:=vals1 r;have h:=sT;exact len_str QO ⟨.int z.length,H,I.tok _,⟨_,rfl⟩,q⟩
def MN:cU X (.type "tuple") (λk H Q=>∃p c,k=[.ref p]/\((aj X.K H p c/\∀l,H l=aI->Q (.ref l) (upd H l (.tup c)))\/(aK X.K H p c/\Q (.ref p) H))):=by
 rintro d s v H k z Q I r ⟨p,c,rfl,h⟩;obtain⟨u,rfl,w⟩:=vals1 r;cases w;rcases h with⟨g,q⟩|⟨g,q⟩
 ·obtain⟨j,e,f,m⟩:=I.list g;have n:=e.length;refine call_tuple_list f.isList (λi x=>?_) (by simp only[Yw]<;>omega);have t:=I.kept (t':=s.toks) x;have y:Inv X d v (upd H i.objs.size (.tup c)) {s with heap:=i.push {cls:=.type "tuple",data:=.seq j.toArray}}:=
   t.laid (λ b o=>Yc _) (Yg _) (show bY X.prog X.w _ _ _ (.tup c) from⟨m,j,e,oB.new _ _⟩)
  exact⟨.ref i.objs.size,_,y,rfl,q _ (t.au.fresh (Yg _))⟩
 ·obtain⟨j,e,f,m⟩:=I.tuple g;exact call_tuple_same f ⟨.ref p,H,I,rfl,q⟩
def KO(K:ae)(T:String)(x:V)(H:Hp):Prop:=match x with
 |.str _=>T="str"
 |.int _=>T="int"
 |.ref p=>(T="list"/\∃e,aj K H p e)\/(T="tuple"/\∃o,K.lookup p=O o/\o.cls=.type "tuple"/\o.dict=aI)\/
   (T="dict"/\((∃d,H p=O (.dK d))\/∃d,H p=O (.dT d)))\/(T="set"/\∃c n,H p=O (.set c n))
 |_=>False
theorem Rj(I:Inv X pins σ H s)(r:RelV x v)(h:KO X.K T x H):
  s.TypeIs v T/\∀a,v=.ref a->∃m,s.heap.get? a=O m/\m.dict=aI:=by
 cases x with
 |str z=>
  obtain⟨t,rfl⟩:=r;cases(show T="str" from h);exact⟨m7 s z t,λ_ e=>nomatch e⟩
 |int i=>
  obtain⟨t,rfl⟩:=r;cases(show T="int" from h);exact⟨typeIs_int s i t,λ_ e=>nomatch e⟩
 |ref p=>
  cases r;rcases h with⟨rfl,w,q⟩|⟨rfl,o,f,u,hd⟩|⟨rfl,f⟩|⟨rfl,d,n,f⟩
  ·obtain⟨y,_,l,_⟩:=I.list q;refine⟨l.isList.typeIs,λa e=>?_⟩;obtain⟨o,n,e,c,hd,_⟩:=l
   grind
  ·refine⟨⟨o,I.bM p o f,u⟩,λa e=>?_⟩;cases e;exact⟨o,I.bM _ o f,hd⟩
  ·have z:∃o,s.heap.get? p=O o/\o.ExactDict:=by
    rcases f with⟨j,f⟩|⟨j,f⟩
    ·obtain⟨_,_,_,_,o,_,_,e,g,_⟩:=I.au p _ f;exact⟨o,e,g⟩
    ·obtain⟨_,_,_,_,o,_,_,e,g,_⟩:=I.au p _ f;exact⟨o,e,g⟩
   obtain⟨o,e,g⟩:=z;refine⟨⟨o,e,g.1⟩,λa k=>?_⟩;cases k;exact⟨o,e,g.2.1⟩
  ·obtain⟨o,_,_,_,e,g,_⟩:=I.au p _ f;refine⟨⟨o,e,g.1⟩,λa k=>?_⟩;cases k;exact⟨o,e,g.2.1⟩
 |_=>exact False.elim h
def JW(K:ae)(T:String)(r:V->Z V->Hp->VK->Prop)(N:TE):TE:=λd H Q=>N d H λx c=>KO K T x c/\r x [] c Q
def KP(K:ae)(T:String)(r:V->Z V->Hp->VK->Prop)(N:TE)(t:TA):TE:=λc H Q=>N c H λx d=>KO K T x d/\t c d λe f=>r x e f Q
variable {o e:bZ}{L:Z bZ}{N:TE}{t:TA}{W:af}{R P:Pos}{T id:String}{r:V->Z V->Hp->VK->Prop}
def Zfu(m:PlainAttrs T)(d:Slot T W id)(z:typeOf (.builtin id)=pure (.type "method_descriptor"))(u:Ur X id r)(q:PE X o N)
  (n:attributeBase o W X.env (eval o X.env)=eval o X.env:=by rfl)(p:(R.endLine==P.line)=ar:=by rfl):PE X (.Call (.Attribute o W R) [] [] P) (JW X.K T r N):=by
 intro c s f H Q I h;refine qx n p (aw (q c s f H _ I h) λv k j=>?_);obtain⟨x,A,i,g,ty,l⟩:=j;obtain⟨y,w⟩:=Rj i g ty;exact⟨T,id,m,d,z,y,w,kA rfl (qB (u c k f A x [] v [] Q i g .nil l))⟩
def rf(z:PlainAttrs T)(d:Slot T W id)(KQ:typeOf (.builtin id)=pure (.type "method_descriptor"))(E:Ur X id r)(D:PE X o N)(F:PA X (e::L) t)
  (A:attributeBase o W X.env (eval o X.env)=eval o X.env:=by rfl)
  (JX:((backTo P (starEach (e::L) X.env)).all (λx=>!x.1)&&(backToKw P (keywordEach [] X.env)).all (λx=>x.1.isSome)
   &&decide ((e::L).length+([]:Z Keyword).length+(if([]:Z Keyword).isEmpty then 0 else 1)<30))=ar:=by rfl)
  (B:(R.endLine==P.line)=ar:=by rfl)(C:iN X e L:=by rfl)(g:jk X P L:=by rfl):
  PE X (.Call (.Attribute o W R) (e::L) [] P) (KP X.K T r N t):=by
 intro c s f H Q I h;refine zT A JX B rfl (aw (D c s f H _ I h) λv q l=>?_);obtain⟨x,H1,k,i,ty,y⟩:=l;obtain⟨J,G⟩:=Rj k i ty;refine⟨T,id,z,d,KQ,J,G,?_⟩;have j:=F P c q f H1 _ k y;rw[C] at j⊢;exact kA (by show(aY||(backTo P (starEach L X.env)).any (·.1))=aY;rw[g]<;>rfl) (nO (aw j λn p ⟨m,H2,I2,u,w⟩=>E c p f H2 x m v n Q I2 i u w))
end
def qq(X:Cx)(id:String)(r:V->Z V->Hp->VK->Prop):Prop:=
 ∀(a:aJ) (s:a8) (b:St) (H:Hp) (x:V) (c:Z V) (v:aV) (d:Z aV) (Q:VK),Inv X a b H s->RelV x v->Vals c d->r x c H Q->
  wpAny X.md X.A (call (.builtin id) (v::d)) (EP X a b Q) X.xe s
theorem Vals.one:∀{x:V} {a:Z aV},Vals [x] a->∃u,a=[u]/\RelV x u:=by
 intro x a h;cases h with
 |cons r t=>
  cases t;exact⟨_,rfl,r⟩
theorem Vals.zero:∀{a:Z aV},Vals [] a->a=[]
 |_,.nil=>rfl
section
variable {X:Cx}{W:aJ}{T:St}{H:Hp}{s:a8}{l:U}{xs R:Z V}
def Inv.JY{b a:Z aV}{n:Nat}{f:cw aV->cw aV}{c:Nat}(I:Inv X W T H s)(k:H l=O (.lst xs))
  (e:s.heap.get? l=O {cls:=.type "list",data:=.seq b.toArray n})(i:f b.toArray=a.toArray)(g:Vals R a)(d:R.length<=sizeLine):
  Inv X W T (upd H l (.lst R)) {s with heap:=s.heap.update l (Obj.mapSeq f),toks:=c}:=by
 have q:=PySem.IsL.update e f;rw[i] at q;refine I.write (by rw[k];exact trivial) (.inl rfl) (λm u j h=>(Y6 s.heap (Obj.mapSeq f) (d6 j)).trans h) ⟨_,q⟩ ?_;exact⟨d,a,_,g,q⟩
def Inv.ZhM(I:Inv X W T H s)(c:Vals R a)(b:R.length<=sizeLine):
  Inv X W T (upd H s.heap.objs.size (.lst R)) {s with heap:=s.heap.push {cls:=.type "list",data:=.seq a.toArray},toks:=d}:=
 I.laid (λ _ _=>Yc _) (Yg _) ⟨b,a,0,c,Yn _ rfl⟩
def Inv.fresh(I:Inv X W T H s):H s.heap.objs.size=aI:=I.au.fresh (Yg _)
def Inv.wo(I:Inv X W T H s)(b:H l=O (.lst xs)):xs.length<=sizeLine/\∃(a:Z aV) (n:Nat),Vals xs a/\xs.length=a.length/\s.heap.get? l=O {cls:=.type "list",data:=.seq a.toArray n}:=by
 obtain⟨z,a,n,r,e⟩:=I.au l _ b;exact⟨z,a,n,r,r.length,e⟩
def Zcw(h:n<=sizeLine):Builtin.List.listTooLong n=aY:=by
 exact eJ (UG h)
end
def Zd7:V->Z V->Hp->VK->Prop:=λx b H Q=>∃l a y,x=.ref l/\b=[y]/\H l=O (.lst a)/\a.length<sizeLine/\Q .aB (upd H l (.lst (a++[y])))
def AV:qq X "list.append" Zd7:=by
 intro a s i H x k v m Q I c d h;obtain⟨l,j,y,rfl,rfl,b,o,q⟩:=h;cases c;obtain⟨u,rfl,f⟩:=d.one;obtain⟨z,g,n,r,p,e⟩:=I.wo b;refine r8 F.slot_list_append ⟨_,e,rfl⟩ F.entry_list_append (F.args_list_append_2 _ _) (PySem.list_append l g.toArray n u (by rw[Yw];omega)) ⟨e,?_⟩;refine⟨.aB,_,I.JY b e QS (r.append (.cons f .nil)) ?_,rfl,q⟩
 grind
def Zd8:V->Z V->Hp->VK->Prop:=λx d H Q=>∃l b c a,x=.ref l/\d=[.ref b]/\H l=O (.lst c)/\H b=O (.lst a)/\c.length+a.length<=sizeLine/\Q .aB (upd H l (.lst (c++a)))
def ZbD:qq X "list.extend" Zd8:=by
 rintro g s w H x C v D Q I i j ⟨l,b,B,y,rfl,rfl,h,p,E,q⟩;cases i;obtain⟨u,rfl,k⟩:=j.one;cases k;obtain⟨z,c,n,r,G,e⟩:=I.wo h;obtain⟨A,d,o,m,J,t⟩:=I.wo p;have a:c.toArray.size+d.toArray.size<=sizeLine:=by rw[Yw,Yw];omega
 have f:¬(!c.toArray.isEmpty&&Builtin.List.listTooLong (c.toArray.size+d.toArray.size))=ar:=by
  rw[Zcw a,Bool.and_false]
  grind
 refine r8 F.slot_list_extend ⟨_,e,rfl⟩ F.entry_list_extend (F.args_list_extend_2 _ _)
  (AutoSeq1.list_extend_list_list_0 l c.toArray n b d.toArray o f (by rw[Yw];exact TC (T5 a)) (js a)) ⟨e,t,?_⟩
 refine⟨.aB,_,I.JY h e QS (r.append m) ?_,rfl,q⟩
 (simp;omega)
def Zfw:V->Z V->Hp->VK->Prop:=λx b H Q=>∃l a,x=.ref l/\b=[]/\H l=O (.lst a)/\Q .aB (upd H l (.lst []))
def Zcx:qq X "list.clear" Zfw:=by
 rintro b s h H x j v k Q I d f ⟨l,i,rfl,rfl,c,q⟩;cases d;have a:=f.zero;subst a;obtain⟨z,g,n,r,m,e⟩:=I.wo c;exact r8 F.slot_list_clear ⟨_,e,rfl⟩ F.entry_list_clear (F.args_list_clear_1 _) (AutoSeq1.list_clear_list_0 l g.toArray n (by rw[Yw];omega)) ⟨e,⟨.aB,_,I.JY c e rfl .nil (Yx _),rfl,q⟩⟩
def ZhN:R2:=λx y H Q=>∃l b c a,x=.ref l/\y=.ref b/\H l=O (.lst c)/\H b=O (.lst a)/\c.length+a.length<=sizeLine/\∀p,H p=aI->Q (.ref p) (upd H p (.lst (c++a)))
def Zfx:cE X (binaryOp .Add) ZhN:=by
 rintro a s p H x y v u Q I g f ⟨l,b,A,t,rfl,rfl,j,k,i,q⟩;cases g;cases f;obtain⟨z,d,n,r,C,e⟩:=I.wo j;obtain⟨w,c,B,h,D,o⟩:=I.wo k;refine PySem.P.add_list e o ?_ (by rw[Yw,Yw];omega);have m:d.toArray++c.toArray=(d++c).toArray:=QS
 exact m▸⟨.ref _,_,I.ZhM (r.append h) (by rw[Yq];exact i),rfl,q _ I.fresh⟩
section
set_option maxRecDepth 100000 in
end
end L2
namespace Us
open PySem PySem.W PySem.Calls PyProof.Rows
theorem X9:∀(ns:Z Int) (c:Z aV),WellAll P h c (ns.map WData.int)->IntsAre c ns:=by
 intro ns;induction ns with
 |nil=>
  intro c w;cases w;exact .nil
 |cons n ns d=>
  intro c w;cases w with
  |cons a b=>
   cases a;exact .cons _ _ (d _ b)
theorem ZbE{l:OpenLaw}(m:l.most=O n)
  (g:l.row.toRowW.claim.pre args=ar)(s:WellAll P h vals args):
  ∃a f b,vals=[Value.ref a]/\args=[WData.list (b.map WData.int)]/\h.get? a=O {cls:=.type "list",data:=.seq f.toArray}/\IntsAre f b/\b.length<=n:=by
 obtain⟨d,r,rfl,q,p⟩:=hasAllW_cons ((pre_splitW g).1);obtain rfl:=hasAllW_nil p;obtain⟨u,rfl,o⟩:=hasW_list q;obtain⟨b,rfl⟩:=items_int o;have c:b.length<=n:=by
  have e:(WTm.not (.lt (.lit (.int (n:Int))) (.len (.arg 0)))).holds [] {args:=[.list (b.map .int)]}=ar:=by
   have e:=(holds_andW ((pre_splitW g).2)).1;rw[m] at e;exact e
  have v:=condW_of e (w_not (w_lt w_lit (w_len_list (w_arg rfl))))
  grind
 cases s with
 |cons j i=>
  cases i;cases j with
  |list k t=>exact⟨_,_,b,rfl,rfl,k,X9 b _ t,c⟩
def ZbF(l:OpenLaw)(a:Z WData):l.row.toRowW.claim.post a (.bool ar) a=ar:=
 postW_of
  (by first|rfl|decide|simp[WShape.has])
  (show(WTm.eq .res (.lit (.bool ar))).value [] {args:=a,res:=O (.bool ar),after:=a}=O (.bool (ar==ar)) from w_eq_bool (w_res rfl) w_lit) rfl
def Z2{l:OpenLaw}{n:Nat}{q:c6}{c:Z af}{D:(af->bt aV)->cm->Prop}{C:cD->cm->Prop}{d:DefRec}
  (L:l.most=O n)(F:d.params.defaults=[])
  (m:∀(w:cD) (y e:a8) (t x:aN) (k:U) (o:Obj) (v u h:aV) (a:U) (i:Z aV) (s:Z Int),
   Ground q c [] D w y t x e.heap->C w e.heap->
   e.heap.get? k=O o->o.data=.func (docDef d.name d.params d.body d.scope v u h)->e.heap.CodeRec u d.name->t d.name=O (.ref k)->
   e.heap.get? a=O {cls:=.type "list",data:=.seq i.toArray}->IntsAre i s->s.length<=n->e.gens=#[]->
   codeAny (model l.prog w) callerA (.call (.ref k) ⟨[.ref a],[]⟩) (λr p=>r=.ok (.ret (.bool ar))/\OldK e.heap p.heap/\p.os=e.os/\AllBare p.gens) e):
  WalkO q c D C l.row.toRowW d [] (λf i=>PySem.call f i):=by
 intro w y e t x G b k o v u h dV kV J hd X A E Q B z as Cg ZjP H KS P;obtain rfl:dV=.none:=Dflts.none A F;obtain rfl:kV=.none:=Dflts.noKw A;obtain⟨a,i,s,rfl,rfl,J_,g,j⟩:=ZbE L Cg KS;refine enter_call (i_ (m w y e t x k o v u h a i s G b J (fd_plain hd) X E J_ g j Q) λr p I=>?_);obtain⟨rfl,W,T,R⟩:=I;exact⟨.inl ⟨.bool ar,.bool ar,[],rfl,λ_=>rfl,.bool ar,ZbF l _,λ_=>⟨List.Pairwise.nil,λ_ N=>(nomatch N)⟩⟩,W,T,R⟩
end Us
namespace L2
open PySem PySem.Spec PyProof.Rows
theorem Gw:∀{vs:Z aV} {a:Z Int},IntsAre vs a->Vals (a.map V.int) vs:=by
 intro vs a h;induction h with
 |nil=>exact .nil
 |cons n t h b=>exact .cons ⟨t,rfl⟩ b
def inClass(s:bS)(j:Nat):bS:=match s with
 |.ClassDef _ _ _ body _ _ _ _ _ _ _=>body.getD j (.Pass ⟨0,0,0,0⟩)
 |_=>.Pass ⟨0,0,0,0⟩
def kI(s:bS):Arguments:=match s with
 |.FunctionDef _ a _ _ _ _ _ _ _ _=>a
 |_=>{posonlyargs:=[],args:=[],vararg:=aI,kwonlyargs:=[],kw_defaults:=[],kwarg:=aI,defaults:=[]}
def gw(s:bS):Z bS:=match s with
 |.FunctionDef _ _ b _ _ _ _ _ _ _=>b
 |_=>[]
def aL(s:bS):Scope:=match s with
 |.FunctionDef _ _ _ _ _ _ sc _ _ _=>sc
 |_=>{kind:=.function,names:=[],isGenerator:=aY,isCoroutine:=aY}
abbrev aO:kU:=λ_ _ _ _ _ _=>False
abbrev E0:XK:=λ_ _ _=>False
def yQ:Passes aO X E0:=λ_ _ _ _ _ _ _ h=>h.elim
structure aP(K:ae)(x qual:af)(st:bS)(f:U)(fd:FuncData):Prop where
 ex:∃(oc:aV) (od:bt U) (kV doc pm:aV) (an:bt U) (aU ct:aV) (gS:cw (bt aV)),
  fd=fnOf x qual (kI st) (gw st) (aL st) .none kV doc pm an aU ct/\K.lookup f=O ⟨oc,od,.func fd,gS⟩/\codeIn K aU qual=ar
 kp:keepIn K (.ref f)=ar
section
variable {P:c6}{w:cD}{K:ae}{mg:aN}{X:cm}
def aP.ok{x c:af}{e:bS}{f:U}{l:FuncData}{N i:Z af}{k:Nat}{sp:Sp}(F:aP K x c e f l)(a:aS N i (aL e))(j:∀d H Q E,sp d H Q E->d.length=i.length)
  (n:∀(g:aV) (A:dO) (b:Z Env) (s:a8) (H:Hp) (d:Z V) (Q:VK) (E:XK),bK k (A.deeper (envOfC c (aL e) s.heap.objs.size f g))->sp d H Q E->
   ∃t,fR (iG aO P w K mg X N c (aL e) f g A b s H E).oR (gw e) t/\t {nx:=λ_ v=>Q .aB v,rt:=Q} (start N d) H):aH P w K mg X aO (k+1) f l i sp:=by
 obtain⟨B,z,kV,u,y,G,g,D,C,rfl,m,r⟩:=F.ex;refine BU m r a j λA b s H d Q E p o=>?_;obtain⟨t,h,q⟩:=n g A b s H d Q E p o;exact⟨t,h.oR,q⟩
def aP.binds{b:bS}(F:aP K x qual b f fd)
  (h:∀(kV a d:aV) (g:bt U) (i e:aV) (c:Z aV),c.length=j.length->bindArgs (fnOf x qual (kI b) (gw b) (aL b) .none kV a d g i e) ⟨c,[]⟩=pure (j.zip c)):Binds K fd j []:=by
 obtain⟨l,k,kV,a,d,g,i,e,n,rfl,m,o⟩:=F.ex;exact .all (h kV a d g i e)
def yF{x a:af}{st:bS}{f:U}{m:aV}{j i:bt U}{n:cw (bt aV)}{g b e d h:aV}(l:K.lookup f=O ⟨m,j,.func (fnOf x a (kI st) (gw st) (aL st) .none g b e i d h),n⟩)
  (c:codeIn K d a=ar)(k:keepIn K (.ref f)=ar):aP K x a st f (fnOf x a (kI st) (gw st) (aL st) .none g b e i d h):=⟨⟨m,j,g,b,e,i,d,h,n,rfl,l,c⟩,k⟩
end
def bu(a:bK k A):A.units+1<cLine:=Jm (Nat.add_le_add_left (by decide:1<=64) _) a.units
def mR(h:n<=1000):n<sizeLine:=Jm h QD
section
variable {X:Cx}
def pv(i:Nat){x:af}{a:Pos}(d:X.N[i]?=O x:=by rfl)(b:ue X.env.scope x:=by first|exact ew rfl|exact fI (ew rfl)|exact fI (fI rfl))(c:(x==("__debug__":af))=aY:=by decide)
  (e:(x==("__classdict__":af))=aY:=by decide):PE X (.Name x a) (m8 i):=Zfi d b c e
end
def dh{A B:Prop}(h:B):if aY=ar then A else B:=by
 grind
def dI{A B:Prop}(h:A):if ar=ar then A else B:=by
 grind
def bR{c A B:Prop}[Decidable c](b:c->A)(a:¬c->B):if c then A else B:=by
 simp_all
def wc{c A B:Prop}[Decidable c](a:c)(h:B):if(!decide c)=ar then A else B:=by
 grind
def aq(H a:Hp):Prop:=∀b o,H b=O o->a b=O o
def aq.refl(H:Hp):aq H H:=λ_ _ h=>h
def aq.trans(a:aq H H1)(b:aq H1 H2):aq H H2:=λc o h=>b c o (a c o h)
theorem aq.free(e:aq H a)(h:a l=Option.none):H l=Option.none:=by
 cases q:H l with
 |none=>rfl
 |some o=>
  rw[e l o q] at h;cases h
def aq.seq{K:ae}(e:aq H b)(h:aj K H a xs):aj K b a xs:=by
 rcases h with(h|⟨o,h⟩)|h;·exact .inl (.inl (e _ _ h))
 ·exact .inl (.inr ⟨o,e _ _ h⟩)
 ·exact .inr h
def qT(a:Z (af×U)):Z (af×U)->Prop
 |[]=>True
 |p::r=>a.lookup p.1=O p.2/\qT a r
theorem qT.look:∀{d:Z (af×U)},qT cells d->∀(x:af) (c:U),d.lookup x=O c->cells.lookup x=O c
 |[],_,x,c,h=>by simp at h
 |(n,a)::r,b,x,c,h=>by
  rw[Jw] at h;cases e:x==n with
  |true=>
   rw[e] at h;rw[(eq_of_beq e),←(Yr h)];exact b.1
  |false=>
   rw[e] at h;exact qT.look b.2 x c h
theorem Fh{a:Env}:∀{b:Z (af×NameKind)} {x:af} {k:NameKind},
  (b.map λ(n,k)=>if(k==NameKind.free&&a.scope.kind==.function&&a.kindOf n==O .cell) then(n,NameKind.cell) else(n,k)).lookup x=O k->
  ∃c,(x,c)∈b/\(k=c\/c=.free)
 |[],_,_,h=>by simp at h
 |(n,c)::r,x,k,h=>by
  have h:List.lookup x ((if(c==NameKind.free&&a.scope.kind==.function&&a.kindOf n==O .cell)=ar then(n,NameKind.cell) else(n,c))::(r.map λ(n,k)=>if(k==NameKind.free&&a.scope.kind==.function&&a.kindOf n==O .cell) then(n,NameKind.cell) else(n,k)))=O k:=h;by_cases d:(c==NameKind.free&&a.scope.kind==.function&&a.kindOf n==O .cell)=ar
  ·rw[br d,Jw] at h;cases e:x==n with
   |true=>grind
   |false=>
    rw[e] at h;obtain⟨f,m,q⟩:=Fh h
    grind
  ·rw[bb d,Jw] at h;cases e:x==n with
   |true=>grind
   |false=>
    rw[e] at h;obtain⟨f,m,q⟩:=Fh h
    grind
structure Rk(X:Cx)(scope:Scope)(cl:Z (af×U))(y:af)(j:Nat):Prop where
 ix:X.N[j]?=O y
 out:X.env.kindOf y=O .cell\/X.env.kindOf y=O .free
 rL:(relabel scope X.env).names.lookup y=O .cell\/(relabel scope X.env).names.lookup y=O .free
 cl:(cl.lookup y).isSome=ar
def qU(X:Cx)(a:Scope)(b:Z (af×U)):Z (af×Nat)->Prop
 |[]=>True
 |p::r=>Rk X a b p.1 p.2/\qU X a b r
theorem qU.get:∀{b:Z (af×Nat)} {k:Nat} {p:af×Nat},qU X scope cl b->b[k]?=O p->Rk X scope cl p.1 p.2
 |[],k,p,_,h=>by simp at h
 |q::r,0,p,a,h=>by
  have e:q=p:=by simpa using h
  exact e▸a.1
 |q::r,k+1,p,a,h=>qU.get a.2 (by simpa using h)
structure yh(X:Cx)(scope:Scope)(cl:Z (af×U))(x:af)(fr:Z (af×Nat)):Prop where
 tV:closureFor scope X.env=pure cl
 sub:qT X.env.cells cl
 kind:scope.kind=.function
 names:∀y∈scope.names,y.2=.local->scope.names.lookup y.1=O .local
 lx:scope.names.lookup x=O .local
 yR:∀y∈scope.names,y.2≠.cell
 has:(scope.names.all λy=>!(y.2==.free)||(cl.lookup y.1).isSome)=ar
 cC:qU X scope cl fr
 nd:(x::fr.map (·.1)).Nodup
def eW(a:St)(b:Z (af×Nat)):St:=b.map λp=>(a[p.2]?).join
structure mQ(X:Cx)(scope:Scope)(cl:Z (af×U))(xs:Z af)(fr:Z (af×Nat)):Prop where
 tV:closureFor scope X.env=pure cl
 sub:qT X.env.cells cl
 kind:scope.kind=.function
 names:∀y∈scope.names,y.2=.local->scope.names.lookup y.1=O .local
 yR:∀y∈scope.names,y.2≠.cell
 has:(scope.names.all λy=>!(y.2==.free)||(cl.lookup y.1).isSome)=ar
 cC:qU X scope cl fr
 nd:(xs++fr.map (·.1)).Nodup
def bB(X:Cx)(b:Z af)(c:Z (af×Nat))(a:Scope)(e:Z (af×U))(C:U)(s:a8)(H:Hp)(d:Z U):Cx where
 prog:=X.prog
 w:=X.w
 K:=X.K
 mg:=X.mg
 base:=X.base
 A:=X.A
 N:=b++c.map (·.1)
 b_:=s
 jY:=H
 env:=compEnvC a e C X.env
 outer:=X.stack
 stack:=X.stack
 ex:=d
 fn:=λ_=>aY
 calm:=X.calm
 pn:=[]
 xe:=λ_ _=>False
theorem NV(a:mQ X scope cl xs fr)(I:Inv X pins σ H s)(B:C=s.heap.objs.size)(t:∀b∈fp,gm X pins H b)(bf:∀b∈fp,b<s.heap.objs.size)
  (g:∀b o,s.heap.get? b=O o->L.get? b=O o)(W:L.Ns C m):Inv (bB X xs fr scope cl C s H fp) [] (List.replicate xs.length aI++eW σ fr) H {s with heap:=L,toks:=tk}:=by
 have look:=a.sub.look;refine⟨⟨I.ok.mod,a.kind,I.ok.glob,I.ok.blt,by exact B▸Yg _,λy z c d f=>I.ok.inj y z c (look y c d) (look z c f),λy w=>?_,λy c h=>?_,I.ok.hd,I.ok.frames,.inl rfl,λb j=>⟨?_,λy c h=>?_⟩,
   I.bs,Yz I.ok.l9 I.sz,λb o e j=>?_,λb j Q=>?_,I.stack,I.Bf⟩,
  rfl,I.bare,Un.kept g,⟨m,W,λi y v d f h3=>?_⟩,λy c h=>?_,?_,λy c h=>I.ia y c (look y c h),λp T=>absurd (show p∈([]:aJ) from T) QS,I.au.kept g,?_⟩
 ·have w:=w;have fin:∀{k:NameKind},(relabel scope X.env).names.lookup y=O k->(k=.cell\/k=.free)->∃c,cl.lookup y=O c:=λ{k} e hk=>by
   obtain⟨R,E,q⟩:=Fh e;have A:R=.free:=by
    rcases q with q|q
    ·rcases hk with z|z;·exact absurd (q.symm.trans z) (a.yR _ E)
     ·exact q.symm.trans z
    ·exact q
   have D:=W3.mp a.has _ E;rw[A] at D;exact Jo.mp (by simpa using D)
  rcases w with e|e;·exact fin e (.inl rfl)
  ·exact fin e (.inr rfl)
 ·exact absurd (h) Yo
 ·exact λz=>absurd (bf b j) (by rw[z,B];exact Wd _)
 ·exact(t b j).2.2.2.2.1 y c (look y c h)
 ·obtain⟨_,_,_,z,_⟩:=t b j;rcases z with z|z;·exact I.ok.tP b o e z
  ·have d:=Yp e;have f:=I.ok.l9;exact absurd (Y5 d (Yz f z)) (Wd _)
 ·have z:=I.Ia b Q;rcases Ys.mp z with z|z;·exact(t b j).2.1 z
  ·exact(t b j).2.2.1 z
 ·by_cases G:i<xs.length;·grind
  ·have d:(xs++fr.map (·.1))[i]?=O y:=d;rw[Jj (Ut G)] at d;rw[Jj (by exact Wr▸Ut G),Wr] at f;generalize i-xs.length=k at d f;have f:(fr.map λp=>(σ[p.2]?).join)[k]?=O (O v):=f;rw[Yi] at d f;cases e:fr[k]? with
   |none=>rw[e] at d;cases d
   |some p=>
    rw[e] at d f;have e1:p.1=y:=Yr d;have P:(σ[p.2]?).join=O v:=Yr f;have F:=a.cC.get e;rw[e1] at F;have e3:σ[p.2]?=O (O v):=by
     cases q:σ[p.2]? with
     |none=>rw[q] at P;cases P
     |some o=>simp_all
    obtain⟨m0,_,hl⟩:=I.loc;have KH:ue X.env.scope y:=by
     rcases F.out with z|z;·exact .inr (.inl z)
     ·exact .inr (.inr z)
    obtain⟨u,r,l⟩:=hl p.2 y v F.ix e3 KH;refine⟨u,r,.inr ⟨F.rL,?_⟩⟩;obtain⟨c,J⟩:=Jo.mp F.cl;refine⟨c,J,?_⟩;rcases l with⟨n,_⟩|⟨_,c',e',z⟩
    ·rcases F.out with q|q;·rw[q] at n;cases n
     ·rw[q] at n;cases n
    ·have N:=look y c J;rw[e'] at N;cases N;obtain⟨o,x,hd⟩:=z;exact⟨o,g _ _ x,hd⟩
 ·obtain⟨v,o,x,hd⟩:=I.cell y c (look y c h);exact⟨v,o,g _ _ x,hd⟩
 ·exact B▸I.au.fresh (Yg _)
 ·show(List.replicate xs.length aI++eW σ fr).length=(xs++fr.map (·.1)).length;simp[eW]
abbrev vW(X:Cx)(x:af)(b:Z (af×Nat))(a:Scope)(d:Z (af×U))(C:U)(s:a8)(H:Hp)(c:Z U):Cx:=bB X [x] b a d C s H c
theorem XN(I:Nat->a8->Prop)
  (d:∀n s,I n s->wpAny (model prog w) A (pyNext it) (λr i=>match r with
   |none=>R (.ok .next) i
   |some v=>wpAny (model prog w) A (letOwnedTupleGo target it v) (λ_ q=>wpAny (model prog w) A (assign target env v) (λ_ p=>
     wpAny (model prog w) A (forIn ifs ar λc r=>if r=ar then do let ok←isTrue c env (eval c env);pure (ForInStep.yield ok) else pure (ForInStep.yield r)) (λok g=>
      if ok=ar then wpAny (model prog w) A (eval elt env) (λx l=>
       wpAny (model prog w) A (call (.builtin "list.append") [acc,x]) (λ_ k=>∃m,m<n/\I m k) (notedBy (model prog w) A env λe a=>R (.error e) a) l) (notedBy (model prog w) A env λe a=>R (.error e) a) g
      else ∃m,m<n/\I m g) (notedBy (model prog w) A env λe a=>R (.error e) a) p) (notedBy (model prog w) A env λe a=>R (.error e) a) q) (notedBy (model prog w) A env λe a=>R (.error e) a) i) (notedBy (model prog w) A env λe a=>R (.error e) a) s)
  (n:Nat)(h:I n s):codeAny (model prog w) A (.compLoop (.ListComp elt [⟨target,iter,ifs,0⟩] scope pos) 0 it acc env) R s:=by
 refine rX rfl I (λn s z=>rZ (a7 (gU (a7 (cW (d n s z) (λr i o=>?_) λ_ _ b=>b))))) n h;cases r with
 |none=>exact cb o
 |some v=>
  refine a7 (cW o (λ_ q f=>a7 (cW f (λ_ p y=>a7 (cW y (λok g j=>?_) λ_ _ b=>b)) λ_ _ b=>b)) λ_ _ b=>b);cases ok with
  |false=>exact cb ⟨rfl,j⟩
  |true=>
   exact a7 (a7 (cW j (λx l u=>a7 (cW u (λ_ k t=>cb (cb ⟨rfl,t⟩)) λ_ _ b=>b)) λ_ _ b=>b))
def qu(X:Cx)(d:Z bZ)(t:TT):Prop:=
 ∀(a:aJ) (s:a8) (b:St) (H:Hp) (Q:bA->Hp->Prop),Inv X a b H s->t b H Q->
  wpAny X.md X.A (forIn d ar λc r=>if r=ar then do let ok←isTrue c X.env (eval c X.env);pure (ForInStep.yield ok) else pure (ForInStep.yield r)) (TP X a b Q) X.xe s
def wq:TT:=λ_ H Q=>Q ar H
def lN:qu X [] wq:=λ_ _ _ H _ I h=>uO ⟨H,I,h⟩
def ot(h:PT X c t):qu X [c] t:=λa s b H Q I d=>wpAny_tests_one (h a s b H Q I d)
def Ie(n:Nat)(J:It)(o:TG)(l:TT)(p:TE)(g:St)(D:U)(H:Hp)(Q:VK):Prop:=
 ∃W:Nat->Nat->Z V->Hp->Prop,(∃m,W 0 m [] (upd H D (.lst [])))/\∀i m a H,W i m a H->
  (J.stop i H/\Q (.ref D) H)\/(J.go i H/\∃N:Z V->Hp->Prop,(∀h b,N h b->∃e,e<m/\W (i+1) e h b)/\
   ∀v b,J.qm i H v b->∀os:St,os.length=n->o v (os++g) b λd q=>(∃f:St,f.length=n/\d=f++g)/\l d q λc k=>if c=ar then p d k λy j=>j D=O (.lst a)/\a.length<sizeLine/\N (a++[y]) (upd j D (.lst (a++[y]))) else N a k)
def OI{h:Hp}{s2:a8}{N:U}{g:Z U}{A:Nat->cm->Prop}{J:It}{Q:VK}{F:aV->U->Result->a8->Prop}{E:aR}{rest:Z Comprehension}(a:mQ X d cl xs fr)
  (I2:Inv X pins σ h s2)(T:Turn X.prog X.w X.K tgt J g N A)(dQ:A 0 s2.heap)(l:∀b∈g,gm X pins h b)
  (hR:∀D C L P m,Inv X pins σ P L->L.heap.Ns C m->P C=aI->C≠X.env.locals->X.b_.heap.objs.size<=C->(∀y c,X.env.cells.lookup y=O c->c≠C)->(∀p∈X.pn++pins,p.1≠C)->Q (.ref D) P->F (.ref D) C (.ok .next) L)
  (hl:∀(D C:U) (s:a8) (x:Hp) (t:a8),h D=aI->x=upd h D (.lst [])->Inv (bB X xs fr d cl C s x g) [] (List.replicate xs.length aI++eW σ fr) x t->A 0 t.heap->(∀b∈g,x b=aI)->
   (∀B ug G,Inv (bB X xs fr d cl C s x g) [] ug G B->Q (.ref D) G->F (.ref D) C (.ok .next) B)->
   codeAny X.md X.A (.compLoop (.ListComp elt (⟨tgt,iter,ifs,0⟩::rest) d pos) 0 (.ref N) (.ref D) (compEnvC d cl C X.env)) (F (.ref D) C) t):
  wpAny X.md X.A (newList []) (λw t=>wpAny X.md X.A (newFunctionEnv d X.env.globals cl [] X.env.qual aI .none (O X.env)) (λiI fJ=>
   codeAny X.md X.A (.compStart (.ListComp elt (⟨tgt,iter,ifs,0⟩::rest) d pos) 0 (.ref N) w {iI with scope:=relabel d X.env}) (F w iI.locals) fJ) E t) E s2:=by
 refine l5 (B2 a.yR (by intro y hy;simp at hy) (λeK I H=>?_) a.kind);dsimp only at I H⊢;have j:Inv X pins σ (upd h s2.heap.objs.size (.lst [])) {s2 with heap:=s2.heap.push {cls:=.type "list",dict:=aI,data:=.seq ([]:Z aV).toArray}}:=
  I2.laid (t':=s2.toks) (λb u e=>Yc _ e) (Yg _) ⟨Yx _,[],0,.nil,Yn _ rfl⟩
 have KU:h s2.heap.objs.size=aI:=I2.au.fresh (Yg _);have W:∀b∈g,b<s2.heap.objs.size:=λb f=>by
  obtain⟨o,e,_⟩:=T.obj _ _ dQ b f;exact Yp e
 generalize R:s2.heap.push {cls:=.type "list",dict:=aI,data:=.seq ([]:Z aV).toArray}=k at I H j⊢;have hC:k.objs.size=s2.heap.objs.size+1:=by rw[←R,Je]
 have r:∀b o,k.get? b=O o->eK.get? b=O o:=λb o e=>H.extBut b o (Y2 (Yp e)) (Yc _ e);have f3:∀b∈g,gm X pins (upd h s2.heap.objs.size (.lst [])) b:=λb f=>by
  have:=W b f;exact⟨by rw[az (Y2 this)];exact(l b f).1,(l b f).2⟩
 have KW:∀b∈g,b<k.objs.size:=λb f=>by
  rw[hC];exact Wo (W b f)
 have nC:A 0 eK:=T.keep _ _ _ dQ λb f o e=>r b o ((λb o e=>R▸Yc _ e) b o e);have I4:Inv (bB X xs fr d cl k.objs.size {s2 with heap:=k} (upd h s2.heap.objs.size (.lst [])) g) [] (List.replicate xs.length aI++eW σ fr) (upd h s2.heap.objs.size (.lst [])) {s2 with heap:=eK,toks:=s2.toks+([]:Z (af×aV)).length}:=
  NV a j rfl f3 KW r I
 have i:=hl s2.heap.objs.size k.objs.size {s2 with heap:=k} _ {s2 with heap:=eK,toks:=s2.toks+([]:Z (af×aV)).length} KU rfl I4 nC (λb f=>(f3 b f).1) λB ug G n qn=>by
   obtain⟨m,KY,_⟩:=n.loc;have I7:=j.BO n.os n.base n.au n.bare λb f=>⟨(l b f).2.2.2.1,(l b f).2.1,(l b f).2.2.2.2.1,(l b f).2.2.2.2.2⟩;refine hR _ _ B G m I7 KY n.free ?_ ?_ (λy c e z=>?_) (λp hp z=>?_) qn;·exact W1 j.lt
   ·exact j.sz
   ·obtain⟨v,q⟩:=j.cell y c e;exact absurd q.lt (by exact z▸Wd _)
   ·exact absurd (Yp (j.pin p hp).1) (by exact z▸Wd _)
 exact codeAny_compStart_list i (T.self _ 0 _ _ _ nC i)
theorem Nd{H2:Hp}{s2:a8}{it:U}{g:Z U}{L:Nat->cm->Prop}{J:It}{Q:VK}{RR:aV->U->Result->a8->Prop}{E:aR}
  (hc:X.calm=ar)(a:mQ X f cl xs fr)(hg:∀C s H g,PG (bB X xs fr f cl C s H g) B tg)
  (ht:∀C s H g,qu (bB X xs fr f cl C s H g) ifs tt)(he:∀C s H g,PE (bB X xs fr f cl C s H g) elt te)
  (I2:Inv X pins σ H2 s2)(T:Turn X.prog X.w X.K B J g it L)(dQ:L 0 s2.heap)(f2:∀b∈g,gm X pins H2 b)
  (hw:∀D,H2 D=aI->Ie xs.length J tg tt te (eW σ fr) D H2 Q)
  (hR:∀D C s1 H1 m,Inv X pins σ H1 s1->s1.heap.Ns C m->H1 C=aI->C≠X.env.locals->X.b_.heap.objs.size<=C->(∀y c,X.env.cells.lookup y=O c->c≠C)->(∀p∈X.pn++pins,p.1≠C)->Q (.ref D) H1->RR (.ref D) C (.ok .next) s1):
  wpAny X.md X.A (newList []) (λG cI=>wpAny X.md X.A (newFunctionEnv f X.env.globals cl [] X.env.qual aI .none (O X.env)) (λiI fJ=>
   codeAny X.md X.A (.compStart (.ListComp elt [⟨B,iter,ifs,0⟩] f pos) 0 (.ref it) G {iI with scope:=relabel f X.env}) (RR G iI.locals) fJ) E cI) E s2:=by
 refine OI (rest:=[]) a I2 T dQ f2 hR λD C s t cI hD e3 I4 nC rK fin=>?_;obtain⟨W,⟨m0,w0⟩,A⟩:=hw D hD;rw[←e3] at w0;refine XN (λk s'=>∃i l H' os,os.length=xs.length/\Inv (bB X xs fr f cl C s t g) [] (os++eW σ fr) H' s'/\L i s'.heap/\(∀b∈g,H' b=aI)/\W i k l H') ?_ m0
  ⟨0,[],_,List.replicate xs.length aI,Wr,I4,nC,rK,w0⟩
 rintro n s5 ⟨i,l,H5,os,iS,I,mf,oU,w5⟩;have jI:∀{H':Hp},(∀b∈g,H' b=aI)->∀b∈g,gm (bB X xs fr f cl C s t g) [] H' b:=λ{H'} hn b j=>
  ⟨hn b j,(I.ok.oO b j).1,I.ok.qe b j,.inl j,(I.ok.oO b j).2,λp hp=>absurd (show p∈([]:aJ) from hp) QS⟩
 rcases A i n l H5 w5 with⟨F,qn⟩|⟨go,N,hN,step⟩
 ·refine aw (T.done (bB X xs fr f cl C s t g) rfl rfl rfl hc i [] s5 _ H5 _ I (jI oU) mf F) λr s6 h=>?_;obtain⟨hr,I6⟩:=h;subst hr;exact fin _ _ _ I6 qn
 ·refine aw (T.item (bB X xs fr f cl C s t g) rfl rfl rfl hc i [] s5 _ H5 _ I (jI oU) mf go) λr s6 h=>?_;obtain⟨u,hr,h6⟩:=h;subst hr;refine aw h6 λ_ s7 h=>?_;obtain⟨v,H7,I7,r7,y7,nE,zD⟩:=h;have zE:=I7.pinned (jI zD) (T.obj _ _ nE);refine cW (hg _ _ _ _ _ s7 _ H7 v u _ zE r7 (step v H7 y7 os iS)) (λ_ s8 h=>?_) λ _ _=>False.elim;obtain⟨Uu,H8,I8,⟨iR,wu,e8⟩,q8⟩:=h;subst e8;have again:∀{ko:St} {q:Hp} {w:a8} {R:Z V},ko.length=xs.length->Inv (bB X xs fr f cl C s t g) ([]++pX g s7.heap) (ko++eW σ fr) q w->N R q->
    ∃m,m<n/\∃i l H' os,os.length=xs.length/\Inv (bB X xs fr f cl C s t g) [] (os++eW σ fr) H' w/\L i w.heap/\(∀b∈g,H' b=aI)/\W i m l H':=λ{ko q w R} l1 x n9=>by
   obtain⟨m',hm,w9⟩:=hN R q n9;refine⟨m',hm,i+1,R,q,ko,l1,x.sH,T.keep _ _ _ nE λb j o e=>(x.pin (b,o) (Ye _ (Ye _ (n_ j e)))).1,λb j=>?_,w9⟩;obtain⟨o,e,d⟩:=T.obj _ _ nE b j;exact(x.pin (b,o) (Ye _ (Ye _ (n_ j e)))).2.1
  refine cW (ht _ _ _ _ _ s8 _ H8 _ I8 q8) (λok w h=>?_) λ _ _=>False.elim;obtain⟨q,x,P⟩:=h;cases ok with
  |false=>
   rw[bb Yo] at P⊢;exact again wu x P
  |true=>
   rw[br rfl];rw[br rfl] at P;refine cW (he _ _ _ _ _ w _ q _ x P) (λu1 CW h=>?_) λ _ _=>False.elim;obtain⟨y,qv,zF,KZ,hD,hz,nG⟩:=h;refine cW (AV (X:=bB X xs fr f cl C s t g) _ CW _ qv (.ref D) [y] _ [u1] (λ_ H'=>N (l++[y]) H') zF rfl (.cons KZ .nil) ⟨_,l,y,rfl,rfl,hD,hz,nG⟩) (λ_ CY h=>?_) λ_ _ z=>False.elim z;obtain⟨_,zG,wX,_,q11⟩:=h;exact again wu wX q11
def kM(J:It)(j:TT)(k:TE)(e:St)(D:U)(H:Hp)(Q:VK):Prop:=
 ∃W:Nat->Nat->Z V->Hp->Prop,(∃m,W 0 m [] (upd H D (.lst [])))/\∀i m a H,W i m a H->
  (J.stop i H/\Q (.ref D) H)\/(J.go i H/\∃N:Z V->Hp->Prop,(∀f b,N f b->∃d,d<m/\W (i+1) d f b)/\
   ∀v b,J.qm i H v b->j (O v::e) b λc h=>if c=ar then k (O v::e) h λy g=>g D=O (.lst a)/\a.length<sizeLine/\N (a++[y]) (upd g D (.lst (a++[y]))) else N a h)
section
variable {X:Cx}{G P:bZ}{x:af}{w pos:Pos}{L:Z bZ}{R:Scope}{cl:Z (af×U)}{fr:Z (af×Nat)}{B:TT}{A:TE}{F:St}
theorem NW{f:Hp}{s2:a8}{l:U}{d:Z U}{k:Nat->cm->Prop}{J:It}{Q:VK}{r:aV->U->Result->a8->Prop}{E:aR}
  (hc:X.calm=ar)(a:yh X R cl x fr)
  (I:∀C s H d,qu (vW X x fr R cl C s H d) L B)(he:∀C s H d,PE (vW X x fr R cl C s H d) G A)
  (I2:Inv X pins F f s2)(T:Turn X.prog X.w X.K (.Name x w) J d l k)(dQ:k 0 s2.heap)(f2:∀b∈d,gm X pins f b)
  (u:∀D,f D=aI->kM J B A (eW F fr) D f Q)
  (hR:∀D C g j m,Inv X pins F j g->g.heap.Ns C m->j C=aI->C≠X.env.locals->X.b_.heap.objs.size<=C->(∀y c,X.env.cells.lookup y=O c->c≠C)->(∀p∈X.pn++pins,p.1≠C)->Q (.ref D) j->r (.ref D) C (.ok .next) g):
  wpAny X.md X.A (newList []) (λe cI=>wpAny X.md X.A (newFunctionEnv R X.env.globals cl [] X.env.qual aI .none (O X.env)) (λn fJ=>
   codeAny X.md X.A (.compStart (.ListComp G [⟨.Name x w,P,L,0⟩] R pos) 0 (.ref l) e {n with scope:=relabel R X.env}) (r e n.locals) fJ) E cI) E s2:=by
 refine Nd (xs:=[x]) hc ⟨a.tV,a.sub,a.kind,a.names,a.yR,a.has,a.cC,a.nd⟩ (λC s H d=>jT (i:=0) a.nd rfl (.inl (Cq a.lx)) (.inr (Cq a.lx))) I he I2 T dQ f2 (λD hD=>?_) hR;obtain⟨W,h0,h⟩:=u D hD;refine⟨W,h0,λi m t H p=>?_⟩;rcases h i m t H p with z|⟨z,N,hN,q⟩;·exact .inl z
 ·refine .inr ⟨z,N,hN,λv H' y os hl=>?_⟩;match os,hl with
  |[o],_=>exact⟨⟨[O v],rfl,rfl⟩,q v H' y⟩
def Sk(b:TI)(fr:Z (af×Nat))(B:TT)(A:TE):TE:=λF H Q=>b F H λJ a=>∀D,a D=aI->kM J B A (eW F fr) D a Q
def jz(o:X.calm=ar)(a:yh X R cl x fr)(l:PI X (.Name x w) P c)
  (i:∀C s H fp,qu (vW X x fr R cl C s H fp) L B)(n:∀C s H fp,PE (vW X x fr R cl C s H fp) G A)
  (j:∀x,foldedSetIterable P X.env x=pure x:=by intro _;rfl):PE X (.ListComp G [⟨.Name x w,P,L,0⟩] R pos) (Sk c fr B A):=by
 intro b s F H Q I h;refine nA rfl j a.tV a.kind a.names (aw (l b s F H _ I h) λv d r=>aw r λrH s2 p=>?_);obtain⟨it,fp,tn,J,H2,e,I2,T,W,z,g⟩:=p;subst e;refine NW o a i n I2 T W z g ?_;intro D C d H1 m I1 k N E y u t q;exact⟨m,k,λh' f=>⟨.ref D,H1,I1.turned (f.extBut) N E (.inr y) u t,rfl,q⟩⟩
def F8(hc:X.calm=ar)(hN:X.N.Nodup)(f:X.N[i]?=O y)(r:Loc X.env.scope y)(b:yh X R cl x fr)(W:PI X (.Name x w) P l)
  (u:∀C s H fp,qu (vW X x fr R cl C s H fp) L B)(he:∀C s H fp,PE (vW X x fr R cl C s H fp) G A)
  (d:swapsWith (.ListComp G [⟨.Name x w,P,L,0⟩] R pos) (O (.Name y py)) j.line X.env=pure ar:=by with_unfolding_all rfl)
  (hf:X.fn y=ar\/X.env.scope.names.lookup y=O .local:=by first|exact .inl rfl|exact .inr rfl|assumption)
  (E:∀x,foldedSetIterable P X.env x=pure x:=by intro _;rfl):PS X (.Assign [.Name y py] (.ListComp G [⟨.Name x w,P,L,0⟩] R pos) j) (tU (Sk l fr B A) (lQ i)):=by
 intro c s F H D I h;rw[exec_Assign_Name_used _ _ _ _ d];refine a7 (gU (a7 ?_));show wpAny _ X.A (do let _←comprehension (.ListComp G [⟨.Name x w,P,L,0⟩] R pos) R X.env _ (newList []) aY (eval P X.env) (O (assign (.Name y py) X.env))) _ _ s;refine a7 (cW (nA rfl E b.tV b.kind b.names
  (aw (W c s F H _ I h) λv o h1=>aw h1 λrH s2 h2=>?_)) (λ_ s' N=>cb (cb N)) λ_ _ e=>e)
 obtain⟨it,fp,tn,J,H2,e,I2,T,dQ,f2,t⟩:=h2;subst e;refine NW hc b u he I2 T dQ f2 t ?_;intro Dl C o H1 m I1 Q f0 f1 f3 k f5 q;refine G2 (NM I1 hN f r (v:=.ref Dl) rfl (λs3 I3 z=>?_) hf);obtain⟨a,n,ha⟩:=z;have g:C≠a:=by
  rcases ha with z|z;·rwa[z]
  ·exact λq=>k _ _ z q.symm
 refine⟨m,Q.sameBut n g,λh' p=>?_⟩;exact⟨_,H1,I3.turned (p.extBut) f0 f1 (.inr f3) k f5,q⟩
end
def Gx{K:ae}(d:Nat->Z V->Hp->Prop)(s:d 0 [] (upd H D (.lst [])))(o:∀i b H,i<=xs.length->d i b H->aj K H a xs)
  (u:∀i v b H,xs[i]?=O v->d i b H->tt (O v::h) H λc k=>if c=ar then l (O v::h) k λy j=>j D=O (.lst b)/\b.length<sizeLine/\d (i+1) (b++[y]) (upd j D (.lst (b++[y]))) else d (i+1) b k)
  (r:∀b H,d xs.length b H->Q (.ref D) H):kM (kg K a) tt l h D H Q:=by
 refine⟨λi m b H=>m=xs.length-i/\i<=xs.length/\d i b H,⟨xs.length,QS,Yx _,s⟩,?_⟩;rintro i m b H ⟨rfl,g,p⟩;have q:=o i b H g p;by_cases f:i<xs.length
 ·refine .inr ⟨⟨xs,xs[i],q,by simp[f]⟩,d (i+1),λw t n=>⟨xs.length-(i+1),QO,rfl,f,n⟩,λx t y=>?_⟩;obtain⟨e,y⟩:=y
  grind
 ·have e:i=xs.length:=(eL g (dg f))
  subst e;exact .inl ⟨⟨xs,q,Yg _⟩,r b H p⟩
def GV{K:ae}(d:Nat->Z V->Hp->Prop)(s:d 0 [] (upd H D (.lst [])))(o:∀i b H,i<=xs.length->d i b H->aK K H a xs)
  (u:∀i v b H,xs[i]?=O v->d i b H->tt (O v::h) H λc k=>if c=ar then l (O v::h) k λy j=>j D=O (.lst b)/\b.length<sizeLine/\d (i+1) (b++[y]) (upd j D (.lst (b++[y]))) else d (i+1) b k)
  (r:∀b H,d xs.length b H->Q (.ref D) H):kM (wR K a) tt l h D H Q:=by
 refine⟨λi m b H=>m=xs.length-i/\i<=xs.length/\d i b H,⟨xs.length,QS,Yx _,s⟩,?_⟩;rintro i m b H ⟨rfl,g,p⟩;have q:=o i b H g p;by_cases f:i<xs.length
 ·refine .inr ⟨⟨xs,xs[i],q,by simp[f]⟩,d (i+1),λw t n=>⟨xs.length-(i+1),QO,rfl,f,n⟩,λx t y=>?_⟩;obtain⟨e,y⟩:=y
  grind
 ·have e:i=xs.length:=(eL g (dg f))
  subst e;exact .inl ⟨⟨xs,q,Yg _⟩,r b H p⟩
def F9{lo:Int}{n:Nat}{g:TT}{h:TE}{d:St}{D:U}{H:Hp}{Q:VK}(b:Nat->Z V->Hp->Prop)(r:b 0 [] (upd H D (.lst [])))
  (t:∀i a H,i<n->b i a H->g (O (.int (lo+i))::d) H λc k=>if c=ar then h (O (.int (lo+i))::d) k λy j=>j D=O (.lst a)/\a.length<sizeLine/\b (i+1) (a++[y]) (upd j D (.lst (a++[y]))) else b (i+1) a k)
  (q:∀a H,b n a H->Q (.ref D) H):kM (rJ lo n) g h d D H Q:=by
 refine⟨λi m a H=>m=n-i/\i<=n/\b i a H,⟨n,QS,Yx _,r⟩,?_⟩;rintro i m a H ⟨rfl,o,p⟩;by_cases f:i<n
 ·refine .inr ⟨f,b (i+1),λu s l=>⟨n-(i+1),QO,rfl,f,l⟩,λx s y=>?_⟩;obtain⟨e,y⟩:=y
  simp_all
 ·have e:i=n:=(eL o (dg f))
  subst e;exact .inl ⟨Yg _,q a H p⟩
def ZhP(K:ae)(e:TE):TI:=λd H R=>e d H λx b=>∃a,x=.ref a/\((∃c,aj K b a c)/\R (kg K a) b\/(∃c,aK K b a c)/\R (wR K a) b)
def Zfy(z:PE X l t):PI X B l (ZhP X.K t):=by
 intro f s m H R I h;refine aw (z f s m H _ I h) λv d n=>?_;obtain⟨x,k,c,w,g⟩:=n;obtain⟨a,e,g⟩:=g;subst e;cases w;rcases g with⟨⟨r,i⟩,q⟩|⟨⟨r,i⟩,q⟩
 ·obtain⟨A,u,p,y⟩:=c.list i;refine q7 p.isList ⟨d.heap.objs.size,[d.heap.objs.size],_,_,k,rfl,c.kept λ b o=>Yc _,NN a _,⟨_,Yn _ rfl,rfl,rfl⟩,λb j=>?_,q⟩;have e:b=d.heap.objs.size:=by simpa using j
  subst e;exact c.qf (Yg _) (c.au.fresh (Yg _))
 ·obtain⟨A,u,p,y⟩:=c.tuple i;refine uk (p) ⟨d.heap.objs.size,[d.heap.objs.size],_,_,k,rfl,c.kept λ b o=>Yc _,Na a _,⟨_,Yn _ rfl,rfl,rfl⟩,λb j=>?_,q⟩;have e:b=d.heap.objs.size:=by simpa using j
  subst e;exact c.qf (Yg _) (c.au.fresh (Yg _))
theorem FA:∀{a:Z V} {b:Z aV},a.length=b.length->(∀(i:Nat) (x:V) (u:aV),a[i]?=O x->b[i]?=O u->RelV x u)->Vals a b
 |[],[],_,_=>.nil
 |[],_::_,h,_=>by simp at h
 |_::_,[],h,_=>by simp at h
 |x::a,u::b,h,k=>.cons (k 0 x u rfl rfl) (FA (by simpa using h) λi y w d c=>k (i+1) y w (by simpa using d) (by simpa using c))
theorem Nf:∀{bs:Z bA} {a:Z aV},Vals (bs.map V.bl) a->a=bs.map Value.bool:=by
 intro bs;induction bs with
 |nil=>intro a r;cases r;rfl
 |cons b bs c=>
  intro a r;rw[Wv] at r;cases r with
  |cons r t=>
   have d:=r;rw[d,c t];rfl
def aE(n:Nat):Z Int:=(List.range n).map λi:Nat=>(i:Int)
def fX(n:Nat):(aE n).length=n:=by simp[aE]
def lL(h:i<n):(aE n)[i]?=O (i:Int):=by
 unfold aE
 simp_all
def Zcy(a:Z bA):(List.range a.length).any (λi=>a.getD i aY)=a.any id:=by
 rw[Wu,J7,J7];constructor
 ·rintro⟨i,c,d⟩;rw[Wf] at c;have e:a.getD i aY=a[i]:=by rw[Yd,Yb c];rfl
  rw[e] at d;exact⟨a[i],Wg c,d⟩
 ·rintro⟨b,d,e⟩;obtain⟨i,c,rfl⟩:=W0.mp d;refine⟨i,Wf.mpr c,?_⟩
  simp_all
def Zcz(c:Z bA):(List.range c.length).all (λi=>c.getD i aY)=c.all id:=by
 rw[Wu,W3,W3];constructor
 ·intro h b d;obtain⟨i,a,rfl⟩:=W0.mp d;simp_all
 ·intro h i a;rw[Wf] at a;rw[Yd,Yb a];exact h _ (Wg a)
def Z3:∀{a b:Z Int},a.length=b.length->(List.range a.length).all (λj=>a.getD j 0==b.getD j 0)=decide (a=b):=by
 intro a b c;rw[Wu,W3,fb];constructor
 ·intro h;refine List.ext_getElem c λi e d=>?_;simp_all
 ·grind
section
variable {X:Cx}
def Td(K:ae):Z V->Hp->VK->Prop:=λa H Q=>∃(p:U) (bs:Z bA),a=[.ref p]/\aj K H p (bs.map V.bl)/\Q (.bl (bs.any id)) H
def Te(K:ae):Z V->Hp->VK->Prop:=λa H Q=>∃(p:U) (bs:Z bA),a=[.ref p]/\aj K H p (bs.map V.bl)/\Q (.bl (bs.all id)) H
theorem YM(l:X.calm=ar):cU X (.builtin "any") (Td X.K):=by
 rintro d s w H x y Q I r ⟨p,bs,rfl,j,q⟩;obtain⟨u,rfl,f⟩:=vals1 r;cases f;obtain⟨E,g,h,B⟩:=I.list j;have e:=Nf g;subst e;have c:=h.isList;have t:p<s.heap.objs.size:=by obtain⟨_,e,_⟩:=c;exact Yp e
 refine call_any_walk (q7 c ⟨s.heap.objs.size,_,_,_,_,_,λi=>bs.getD i aY,rfl,wd (show X.A.in1.handled=aI from I.ok.hd l) s.heap.objs.size p (Y2 t) (bs.map Value.bool).toArray,⟨⟨_,Yn _ rfl,rfl,rfl⟩,c.push _⟩,?_,λD z k=>?_⟩)
 ·intro i v A F G m C;have a:(bs.map Value.bool)[i]?=O v:=by simpa using m
  rw[Yi] at a;cases e:bs[i]? with
  |none=>simp_all
  |some b=>
   rw[e] at a;have n:=Yr a;subst n;refine kj ?_
   simp_all
 ·refine⟨.bl (bs.any id),H,I.kept (λb o e=>k b o (by simpa using Y2 (Yp e)) (Yc _ e)),?_,q⟩;show Value.bool _=Value.bool _;have e:(bs.map Value.bool).toArray.size=bs.length:=QS
  rw[e,Zcy]
theorem YN(l:X.calm=ar):cU X (.builtin "all") (Te X.K):=by
 rintro d s w H x y Q I r ⟨p,bs,rfl,j,q⟩;obtain⟨u,rfl,f⟩:=vals1 r;cases f;obtain⟨E,g,h,B⟩:=I.list j;have e:=Nf g;subst e;have c:=h.isList;have t:p<s.heap.objs.size:=by obtain⟨_,e,_⟩:=c;exact Yp e
 refine call_all_walk (q7 c ⟨s.heap.objs.size,_,_,_,_,_,λi=>bs.getD i aY,rfl,wd (show X.A.in1.handled=aI from I.ok.hd l) s.heap.objs.size p (Y2 t) (bs.map Value.bool).toArray,⟨⟨_,Yn _ rfl,rfl,rfl⟩,c.push _⟩,?_,λD z k=>?_⟩)
 ·intro i v A F G m C;have a:(bs.map Value.bool)[i]?=O v:=by simpa using m
  rw[Yi] at a;cases e:bs[i]? with
  |none=>simp_all
  |some b=>
   rw[e] at a;have n:=Yr a;subst n;refine kj ?_
   simp_all
 ·refine⟨.bl (bs.all id),H,I.kept (λb o e=>k b o (by simpa using Y2 (Yp e)) (Yc _ e)),?_,q⟩;show Value.bool _=Value.bool _;have e:(bs.map Value.bool).toArray.size=bs.length:=QS
  rw[e,Zcz]
inductive Rl(K:ae)(a:Z V)(H:Hp)(Q:VK):Prop
 |mk (x:V) (t:aV) (c:String) (b:bA) (g:a=[x,.ty c]) (f:jJ K H x t) (e:kitOne K t (.type c)=O b) (d:Q (.bl b) H):Rl K a H Q
def Ci(K:ae):Z V->Hp->VK->Prop:=λa H Q=>Rl K a H Q
def Z4:cU X (.builtin "isinstance") (Ci X.K):=by
 rintro a s h H i k Q I r ⟨x,t,c,b,rfl,ty,e,q⟩;obtain⟨u,j,rfl,g,f⟩:=vals2 r;cases f;exact ZbB I g ty e λd=>⟨.bl b,H,I.tok d,rfl,q⟩
def Ng(t:T="list"\/T="tuple")
  (m:s.heap.get? l=O o)(r:o.cls=.type T)(q:o.data=.seq ah.toArray n)(u:IntsAre ah ns)(x:ah.length<64)(f:ah.toArray.size<=sizeLine)
  (h:∀(a g:cm) (out:cw aV) (c:Z Int) (e:Nat),(∀b o,s.heap.get? b=O o->a.get? b=O o)->(∀b o,a.get? b=O o->g.get? b=O o)->g.get? a.objs.size=O (seqObj "list" out e)->IntsAre out.toList c->c.Perm ns->c.Pairwise (·<=·)->Q (.ref a.objs.size) {s with heap:=g}):
  wpAny (model prog w) A (call (.builtin "sorted") [.ref l]) Q E s:=by
 refine zt kind_sorted plain_sorted entry_sorted (args_sorted1 _) (a7 (cb ?_));refine a7 (uu l t m r q (λa k=>a7 (pb ?_)) f);have v:ah.toArray.toList=ah:=QS
 rw[v];have d:(a.push (seqObj "list" ah.toArray 0)).get? a.objs.size=O (seqObj "list" ah.toArray 0):=Yn _ rfl;refine a7 (fx (n7 slot_list_sort ⟨_,d,rfl⟩ entry_list_sort (list_sort_tree d u x λout c B z y=>⟨_,rfl,?_⟩) (args_list_sort _)));obtain⟨e,p⟩:=sortedHeap_at d;exact cb ⟨_,rfl,h a _ out c e k (λb C j=>by
  have i:=Yp j;rw[sortedHeap_old (Y2 i) (by rw[size_push'];exact Wo i),J0 _ _ _ (Y2 i)];exact j) p B z y⟩
def Hr(K:ae):Z V->Hp->VK->Prop:=λc H Q=>∃(p:U) (a:Z Int),c=[.ref p]/\(aj K H p (a.map V.int)\/aK K H p (a.map V.int))/\a.length<64/\
  ∀(l:U) (b:Z Int),H l=aI->b.Perm a->b.Pairwise (·<=·)->Q (.ref l) (upd H l (.lst (b.map V.int)))
def M0:cU X (.builtin "sorted") (Hr X.K):=by
 rintro f s w H F G Q I r ⟨p,y,rfl,g,J,q⟩;obtain⟨u,rfl,x⟩:=vals1 r;cases x;have fin:∀(a h:cm) (out:cw aV) (c:Z Int) (e:Nat),(∀b o,s.heap.get? b=O o->a.get? b=O o)->(∀b o,a.get? b=O o->h.get? b=O o)->h.get? a.objs.size=O (seqObj "list" out e)->IntsAre out.toList c->c.Perm y->c.Pairwise (·<=·)->
   EP X f w Q (.ref a.objs.size) {s with heap:=h}:=λa h out c e z E A D t C=>by
  have v:=I.kept (t':=s.toks) z;refine⟨.ref a.objs.size,_,v.laid (o:=.lst (c.map V.int)) E (Yg _) ⟨?_,out.toList,e,Gw D,by simpa[seqObj] using A⟩,rfl,q _ c (v.au.fresh (Yg _)) t C⟩;rw[Ya,t.length_eq];exact Jz (mR QO)
 rcases g with g|g
 ·obtain⟨B,d,i,j⟩:=I.list g;obtain⟨o,n,k,m,_,hd⟩:=i;have l:=d.length;rw[Ya] at l;rw[Ya] at j;exact Ng (.inl rfl) k m hd (intsAre_of d) QO (by rw[Yw];omega) fin
 ·obtain⟨B,d,i,j⟩:=I.tuple g;obtain⟨o,k,m,n,hd⟩:=i;have l:=d.length;rw[Ya] at l;rw[Ya] at j;exact Ng (.inr rfl) k m hd (intsAre_of d) QO (by rw[Yw];omega) fin
def PM:Z V->Hp->VK->Prop:=λa H Q=>∃j:Int,a=[.int j]/\∀p:U,H p=aI->Q (.ref p) (upd H p (.nv 0 j))
def OJ:Z V->Hp->VK->Prop:=λa H Q=>∃(p:U) (n:Nat),a=[.ref p]/\H p=O (.nv 0 (n:Int))/\n<=1000/\∀l:U,H l=aI->Q (.ref l) (upd H l (.lst ((aE n).map V.int)))
def Cj(K:ae):Z V->Hp->VK->Prop:=λb H Q=>∃(p:U) (a:Z V),b=[.ref p]/\(aj K H p a\/aK K H p a)/\Q (.int a.length) H
def ZaL:cU X (.builtin "len") (Cj X.K):=MT
def FC:cU X (.type "range") PM:=by
 rintro a s c H d f Q I r ⟨j,rfl,q⟩;obtain⟨u,rfl,t,rfl⟩:=vals1 r;exact call_range_1 ⟨.ref s.heap.objs.size,_,I.laid (o:=.nv 0 j) (λb o e=>Yc _ e) (Yg _) ⟨_,_,_,Yn _ rfl⟩,rfl,q _ (I.au.fresh (Yg _))⟩
def MO(w:X.calm=ar):cU X (.type "list") OJ:=by
 rintro c s B H C D Q I r ⟨p,n,rfl,j,d,q⟩;obtain⟨u,rfl,g⟩:=vals1 r;cases g;obtain⟨t,u,v,k⟩:=I.au p _ j;refine call_list_range (I.ok.hd w) k (wh (by decide) (by decide) QO QO) (n:=n) (by rw[vi];split<;>omega) (d4 d (by decide)) λF E b A l h e=>⟨.ref s.heap.objs.size,_,I.laid (o:=.lst ((aE n).map V.int)) l (Yg _) ⟨?_,b.toList,A,?_,by simpa using h⟩,rfl,q _ (I.au.fresh (Yg _))⟩
 ·rw[Ya,fX];exact Jz (mR d)
 ·refine FA (by rw[Ya,fX];simp[e.1]) λi x u a z=>?_;obtain⟨f,rfl⟩:=e.2 i u (by simpa using z);have m:i<n:=by
   have:=(Yf.mp a).1;rw[Ya,fX] at this;exact this
  rw[Yi,lL m] at a;have y:=Yr a;subst y;exact⟨f,by rw[show(0:Int)+(i:Int)*1=(i:Int) by omega]⟩
def PN{a:Z Int}(r:Vals (a.map V.int) b)(h:j<b.length):∃t,b[j]=.int (a.getD j 0) t:=by
 have c:=r.length;rw[Ya] at c;have d:j<a.length:=QO
 obtain⟨u,e,t,rfl⟩:=r.get (by rw[Yi,Yb d];rfl)
 simp_all
def Tg(K:ae)(b:bA):R2:=λx y H Q=>∃(p q:U) (a c:Z Int),x=.ref p/\y=.ref q/\aj K H p (a.map V.int)/\aj K H q (c.map V.int)/\Q (.bl (if b=ar then !decide (a=c) else decide (a=c))) H
def Zfz(n:X.A.units<cLine):cE X (compareOp .Eq) (Tg X.K aY):=by
 rintro h s G H x y v u Q I r o ⟨p,q,a,b,rfl,rfl,d,c,k⟩;cases r;cases o;obtain⟨E,g,l,L⟩:=I.list d;obtain⟨A,f,i,J⟩:=I.list c;have m:=g.length;have z:=f.length;rw[Ya] at m z;by_cases B:a.length=b.length
 ·refine L0 (e:=λj=>a.getD j 0==b.getD j 0) l.isList i.isList (by simp;omega) n (λj d c=>?_) (cB I k ?_)
  ·obtain⟨t,D⟩:=PN g (by simpa using d);obtain⟨t',C⟩:=PN f (by simpa using c);have w:E.toArray[j]=.int (a.getD j 0) t:=by simpa using D
   have F:A.toArray[j]=.int (b.getD j 0) t':=by simpa using C
   rw[w,F];exact qO _ _ _ _
  ·rw[bb Yo,Yw,←m,Z3 B]
 ·refine zJ l.isList i.isList (by simp;omega) n (cB I k ?_)
  grind
def jV(a:St->Hp->Prop)(e:∀c:St->Hp->Prop,(∀b H,a b H->c b H)->t {D with nx:=c} b H)(d:∀b H,a b H->u D b H):tR t u D b H:=e _ d
def lR(d:Gl X x)(c:X.mg x=aI)(a:bootBuiltins x=O (.type T))(b:x≠"__name__":=by decide)(e:(x==("__debug__":af))=aY:=by decide):PE X (.Name x pos) (tC (.ty T)):=ZdZ d c a rfl b e
end
def HasFn(P:c6)(w:cD)(K:ae)(c:aN)(a:cm)(k:Nat)(x:af)(b:Z af)(e:Sp):Prop:=
 ∃f d,aH P w K c a aO k f d b e/\Binds K d b []/\keepIn K (.ref f)=ar/\c x=O (.ref f)
section
variable {K:ae}{X:Cx}{k j:Nat}{W:Sp}{x:af}{ps:Z af}
def yS(h:HasFn X.prog X.w X.K X.mg X.base k x ps W)(c:bK j X.A)(d:k<=j)(g:Gl X x)(l:PA X (e::es) t)
  (n:(x==("__debug__":af))=aY:=by decide)(i:iN X e es:=by rfl)(o:jk X pos es:=by rfl):
  PE X (.Call (.Name x p) (e::es) [] pos) (BQ W [] E0 t):=by
 obtain⟨f,q,F,b,a,m⟩:=h;exact Zd1 F (c.mono d) g m a b .nil yQ l n i o
def cY(h:H p=aI)(o:HO):aq H (upd H p o):=λb u q=>by rwa[az (bW q h)]
def aq.kZ(e:aq H b)(h:aK K H a xs):aK K b a xs:=by
 rcases h with(h|⟨o,h⟩)|h;·exact .inl (.inl (e _ _ h))
 ·exact .inl (.inr ⟨o,e _ _ h⟩)
 ·exact .inr h
def ZcA(h:X.K=K):jo X (Ce K):=h▸Hq
def Zd9(h:X.K=K):jo X (Cf K):=h▸Rg
def Zd_(h:X.K=K):cU X (.builtin "isinstance") (Ci K):=h▸Z4
def ZhR(h:X.K=K):cU X (.builtin "len") (Cj K):=h▸ZaL
def lY(h:Q ar H):wq σ H Q:=h
def bJ(h:n σ H):Sb ⟨n,a,bk,b⟩ σ H:=h
def Bx(d:St->Hp->Prop)(h:∀f:St->Hp->Prop,(∀e H,d e H->f e H)->JO c a b {D with nx:=f} e H)(g:∀e H,d e H->u D e H):tR (JO c a b) u D e H:=h _ g
def ZfA(x:Int)(c:0<m)(d:m<=2^62):-(2^64)<x % m/\x % m<2^64:=by
 have a:=Jp x (sU c);have b:=W8 x c;omega
def Rm{n:Nat}{i:Int}(b:0<=i)(a:i<n):d9 n i=O i.toNat:=by
 unfold d9
 simp_all
def qY{a:Z Int}{i:Int}(b:0<=i)(c:i<a.length):fM (a.map V.int) i=O (.int (a.getD i.toNat 0)):=by
 have e:i=((i.toNat:Nat):Int):=(kh (wQ b))
 rw[e];refine eA ?_
 grind
theorem ou{a:Z Int}{i:Nat}{y:V}(h:(a.map V.int)[i]?=O y):∃z,y=.int z/\a[i]?=O z:=by
 rw[Yi] at h;cases e:a[i]? with
 |none=>simp_all
 |some z=>simp_all
def ZcB(a:Z Int)(z:Int):a.map V.int++[V.int z]=(a++[z]).map V.int:=QS
def OK(a:Z Int)(b c:bt Int):∃d:Z Int,m9 (a.map V.int) b c=d.map V.int:=by
 refine⟨(a.drop (HT.iq a.length 0 b)).take (HT.iq a.length a.length c-HT.iq a.length 0 b),?_⟩;unfold m9;simp_all
end
def Rn:bootBuiltins "abs"=O (.builtin "abs"):=QK
def ZfB:bootBuiltins "any"=O (.builtin "any"):=QK
def Ig:bootBuiltins "all"=O (.builtin "all"):=QK
def By:bootBuiltins "len"=O (.builtin "len"):=QK
def Ih:bootBuiltins "min"=O (.builtin "min"):=QK
def vB:bootBuiltins "sorted"=O (.builtin "sorted"):=QK
def MP:bootBuiltins "isinstance"=O (.builtin "isinstance"):=QK
def yt:bootBuiltins "list"=O (.type "list"):=QK
def vI:bootBuiltins "tuple"=O (.type "tuple"):=QK
def A6:bootBuiltins "range"=O (.type "range"):=QK
def Bj:bootBuiltins "bool"=O (.type "bool"):=QK
def Ii:bootBuiltins "int"=O (.type "int"):=QK
def yG:bootBuiltins "str"=O (.type "str"):=QK
def Bd(d p:Int):Prop:=0<=d/\d<p
inductive OL(K:ae)(b:Z V)(H:Hp)(Q:VK):Prop
 |mk (a:U) (d:Z Int) (k:Int) (h:b=[.ref a,.int k]) (g:aj K H a (d.map V.int)) (f:0<=k) (e:∀c:Int,Q (.int c) H):OL K b H Q
def Ro(K:ae):Sp:=λa H Q _=>OL K a H Q
inductive NX(K:ae)(e:Z V)(H:Hp)(Q:VK):Prop
 |mk (c:Int) (a:U) (b:Z Int) (j:e=[.int c,.ref a]) (i:aj K H a (b.map V.int)) (h:(∀p∈b,0<p/\p<1073741824)) (g:b.length<=60) (f:∀(l:U) (ds:Z Int) (d:Hp),H l=aI->aq H d->d l=O (.lst (ds.map V.int))->Paired Bd ds b->Q (.ref l) d):NX K e H Q
def Hs(K:ae):Sp:=λa H Q _=>NX K a H Q
def PQ(h:PE X o to)(j:PE X i d)(g:tS X t)(k:PE X e f)
  (p:swapsWithSole [.Subscript o i a] e pos.line X.env=pure aY:=by rfl)(n:swappedStores [.Subscript o i a] e X.env=pure aI:=QR)
  (m:(assignEach [.Subscript o i a] X.env).map (·.2)=[assign (.Subscript o i a) X.env]:=QR)
  (l:∀v,assign (.Subscript o i a) X.env v=(do
   let b←holding [v] (eval o X.env);let c←holding [v,b] (eval i X.env)
   standAt a
   holding [v,b,c] (setItem b c v)
   release [v,b,c] []):=by intro _;rfl):PS X (.Assign [.Subscript o i a] e pos) (tU f (S8 to d t)):=sS k (Zfn h j g l) p n m
def gQ(h:cm)(a C:U)(d:bt U)(c:cw aV):Prop:=∃b:Obj,h.get? a=O b/\b.cls=.ref C/\b.dict=d/\b.data=.fields c/\1<c.size
def xo(a C:U)(d:bt U):HO:=.ext λh=>∃b,gQ h a C d b
def N0(a:cw aV):Prop:=a[1]?=O Value.none/\a[2]?=O Value.none/\a.size=6
def xn(a C:U)(d:bt U):HO:=.ext λh=>∃b,gQ h a C d b/\N0 b
def gQ.keep(x:gQ f a C d vs)(k:∀o,f.get? a=O o->c.get? a=O o):gQ c a C d vs:=by
 obtain⟨b,e,r⟩:=x;exact⟨b,k _ e,r⟩
def Sl(x:gQ h a C d c):bY P w H h a (xo a C d):=
 ⟨⟨c,x⟩,let⟨f,e,_⟩:=x;⟨f,e⟩,λ_ _ ⟨b,y⟩ k=>⟨b,y.keep k⟩⟩
def IT(x:gQ h a C d vs)(z:N0 vs):bY P w H h a (xn a C d):=
 ⟨⟨vs,x,z⟩,let⟨c,e,_⟩:=x;⟨c,e⟩,λ_ _ ⟨b,y,q⟩ k=>⟨b,y.keep k,q⟩⟩
def Rp(b:cZ P w H h)(e:H a=O (xo a C d)):∃vs,gQ h a C d vs:=(b a _ e).1
def Bz(b:cZ P w H h)(e:H a=O (xn a C d)):∃vs,gQ h a C d vs/\N0 vs:=(b a _ e).1
def wY(d:Nat)(H:Hp)(h:cm)(a:cw aV):Prop:=
 a[1]?=O Value.none\/∃T c b,a[1]?=O (Value.ref T)/\d<=T/\H T=aI/\h.get? T=O c/\c.data=.fields b/\b[3]?=O Value.none
def iu(b:bA)(P:c6)(w:cD):kU:=λc H s E e f=>∃(a C d:U) (g:Hp) (h:cw aV),e=.ref a/\s.heap.objs.size<=a/\f.os=s.os/\AllBare f.gens/\Un (cC c) [] H g s.heap f.heap/\cZ P w g f.heap/\
 g a=O (xo a C (O d))/\gQ f.heap a C (O d) h/\(wY s.heap.objs.size g f.heap h/\(b=ar->h[2]?=O Value.none))/\E (.ref C) (O d) g
abbrev nH:=iu ar
section
variable {M:Model}{A:dO}{X:aR}{s:a8}
def NY{l:cm}{d:Env}{a:Z Env}{L e:U}{v:Obj}{p:cw aV}{g:aV}{b0:bA}{Q:Unit->a8->Prop}
  (fr:A.frames=O (d::a))(H:s.heap.FunFrames l (d::a))(hL:d.frame=O L)(m:s.heap.get? e=O v)(f:v.data=.fields p)(F:1<p.size)
  (k:∀i T D,(∀b o,b≠e->b∉cC (d::a)->s.heap.get? b=O o->i.get? b=O o)->(∀b o,b∈cC (d::a)->s.heap.get? b=O o->∃t,i.get? b=O {o with slots:=t})->
   i.get? e=O {v with data:=.fields (p.setIfInBounds 1 (.ref T))}->s.heap.objs.size<=T->T≠e->i.get? T=O {cls:=.type "traceback",dict:=aI,data:=.fields D}->D[3]?=O Value.none->Q () {s with heap:=i}):
  wpAny M A (do let fo←frameOf d;let u←entryPlaceOf L b0;let en←EntryCells.newEntry g fo .none (rawInt L) .none u;setField (.ref e) 1 en) (λ_ R=>wpAny M A (setFlight (.ref e) aI) Q X R) X s:=by
 have out:e∉cC (d::a):=λz=>by
  obtain⟨_,o,q,W⟩:=H.mem z;rw[m] at q;cases q;exact W p f
 refine a7 (wpAny_frameOf_fun fr H hL λh r=>a7 (wpAny_entryPlaceOf λu ip=>?_));unfold EntryCells.newEntry newFields;refine a7 (l5 ?_ (ip.sizeOk5 _ _ _ _ _));generalize w:([g,Value.ref L,Value.none,rawInt L,Value.none]++(if u.isEmpty=ar then List.replicate 6 Value.none else u)).toArray=n;have G:3<n.size:=by
  rw[←w,Yw,Yq];simp[Wm,Uv];exact U9 _ (by decide)
 have N:=(r.2.1 e out).trans m;have lt:=Yp N;have J:=Yc {cls:=.type "traceback",dict:=aI,data:=.fields n} N;refine oW J f F ?_;have P:=ur f (·.setIfInBounds 1 (Value.ref h.objs.size));have I:=Wq (Obj.mapFields (·.setIfInBounds 1 (Value.ref h.objs.size))) J (t5 P);have E:=(Y6 (h.push {cls:=.type "traceback",dict:=aI,data:=.fields n}) (Obj.mapFields (·.setIfInBounds 1 (Value.ref h.objs.size))) (Y2 lt)).trans (Yn h rfl);unfold setFlight;refine a7 (k_ I P (x:=.ref h.objs.size) (by simp[F]) ?_);rw[br QS];refine oW E rfl G (k _ h.objs.size (n.setIfInBounds 3 Value.none) ?_ ?_ ?_ (zy r.1.symm) (W1 lt) ?_ (by simp[G]))
 ·intro b o C B y;have j:=(r.2.1 b B).trans y;rw[Y6 _ _ (W1 (Yp j)),Y6 _ _ (d6 C)];exact Yc _ j
 ·intro b o B y;obtain⟨t,j⟩:=r.2.2 b o y;have C:b≠e:=λz=>out (z▸B);refine⟨t,?_⟩;rw[Y6 _ _ (W1 (Yp j)),Y6 _ _ (d6 C)];exact Yc _ j
 ·rw[Y6 _ _ (W1 lt),I];obtain⟨c,dd,da,t⟩:=v;cases f;rfl
 ·exact Wq _ E (t5 (ur rfl _))
end
theorem PR
  (fr:A.frames=O (env::outer))(kQ:s1.heap.FunFrames base (env::outer))(B:∀b∈cC (env::outer),H1 b=aI)(hL:env.frame=O L)(cx:iu b P w (env::outer) H1 s1 E e s')
  (k:∀s3,iu b P w (env::outer) H1 s1 E e s3->Q () s3):
  wpAny (model P w) A (noteFrame e env) (λ_ s2=>wpAny (model P w) A (setFlight e aI) Q Er s2) Er s':=by
 obtain⟨a,C,d,D,vs,rfl,lo,os,bare,un,au,ha,xr,⟨fl,fz⟩,q⟩:=cx;obtain⟨oe,at_,cls,dic,n,sz⟩:=xr;have nx:∀b:U,b∉([]:Z U):=λb z=>absurd z QS;have m:s'.heap.FunFrames base (env::outer):=by
  have all:∀l:Z Env,(∀b∈cC l,b∈cC (env::outer))->s1.heap.FunFrames base l->s'.heap.FunFrames base l:=by
   intro l;induction l with
   |nil=>exact λ_ _=>trivial
   |cons x r ih=>
    rintro hs ⟨kd,⟨L',o,j,W,f,F⟩,R⟩;have X:L'∈cC (x::r):=by
     unfold cC;rw[Js,j];exact Yj
    obtain⟨N,v⟩:=un.slot L' o f (B L' (hs _ X)) (hs _ X) (nx _);refine⟨kd,⟨L',_,j,W,v,F⟩,ih (λb h=>hs b ?_) R⟩;unfold cC at h⊢;rw[Js,j];exact Yv _ h
  exact all _ (λ_ z=>z) kQ
 have tZ:s1.heap.get? a=aI:=CO lo;have bX:∀b∈cC (env::outer),∃o,s'.heap.get? b=O o/\∀ws,o.data≠.fields ws:=λb h=>(m.mem h).2;have Uw:∀b∈cC (env::outer),D b=aI:=λb h=>by
  obtain⟨_,o,f,_⟩:=kQ.mem h;exact un.free b o f (B b h) (nx _)
 have frS:∀b∈cC (env::outer),b<s1.heap.objs.size:=λb h=>let⟨_,o,f,_⟩:=kQ.mem h;Yp f
 --YP is wanted of any ZjQ end
 have fin:∀(h':cm) (T:U) (p:cw aV),(∀b o,b≠a->b∉cC (env::outer)->s1.heap.objs.size<=b\/D b≠aI\/s'.heap.get? b=O o->s'.heap.get? b=O o->(D b≠aI\/b<s1.heap.objs.size)->h'.get? b=O o)->
   (∀b o,b∈cC (env::outer)->s'.heap.get? b=O o->∃N,h'.get? b=O {o with slots:=N})->h'.get? a=O {oe with data:=.fields (vs.setIfInBounds 1 (.ref T))}->
   s'.heap.objs.size<=T->T≠a->h'.get? T=O {cls:=.type "traceback",dict:=aI,data:=.fields p}->p[3]?=O Value.none->iu b P w (env::outer) H1 s1 E (.ref a) {s' with heap:=h'}:=by
  intro h' T p kp N ea lT neT eT t3;have C0:∀b o,b≠a->b∉cC (env::outer)->s'.heap.get? b=O o->(D b≠aI\/b<s1.heap.objs.size)->h'.get? b=O o:=λb o t H I G=>kp b o t H (.inr (.inr I)) I G;have szs:s1.heap.objs.size<=s'.heap.objs.size:=Yz lo (Jz (Yp at_));have nT:D T=aI:=au.fresh lT;have Ux:gQ h' a C (O d) (vs.setIfInBounds 1 (.ref T)):=⟨_,ea,cls,dic,rfl,by rw[Uy];exact sz⟩;have Ck:cZ P w D h':=by
   intro b o h;by_cases e1:b=a
   ·subst e1;rw[ha] at h;cases h;exact Sl Ux
   ·have F:b∉cC (env::outer):=λz=>by rw[Uw b z] at h;cases h
    have own:∀c,D c=O (.own b)->c≠a:=λc i z=>by rw[z,ha] at i;cases i
    refine(au b o h).gO (λc u i g=>?_) (λc i=>i) (λc xs i=>i);rcases i with rfl|i;·exact C0 _ u e1 F g (.inl (by rw[h];simp))
    ·exact C0 c u (own c i) (λz=>by rw[Uw c z] at i;cases i) g (.inl (by rw[i];simp))
  refine⟨a,C,d,D,_,rfl,lo,os,bare,⟨λb o f W j J=>?_,λb o f W j J=>?_,un.free,λb o f J=>?_,un.gP,un.ie,un.ig⟩,Ck,ha,Ux,⟨.inr ⟨T,_,p,by simp[sz],Yz szs lT,nT,eT,rfl,t3⟩,λz=>by rw[Jq QD];exact fz z⟩,q⟩
  ·have v:=un.keep b o f W j J;exact C0 b o (λz=>by rw[z,tZ] at f;cases f) j v (.inr (Yp f))
  ·obtain⟨s0,v⟩:=un.slot b o f W j J;obtain⟨s2,g3⟩:=N b _ j v;exact⟨s2,g3⟩
  ·obtain⟨o',v⟩:=un.there b o f J;have h:b≠a:=λz=>by rw[z,tZ] at f;cases f
   by_cases j:b∈cC (env::outer)
   ·obtain⟨s2,g3⟩:=N b _ j v;exact⟨_,g3⟩
   ·exact⟨o',C0 b o' h j v (.inr (Yp f))⟩
 have hE:(env.frame=O L):=hL;unfold noteFrame;simp only[hE];refine a7 ?_;rcases fl with z|⟨T0,oT,zH,z,lT,K1,g0,d0,t0⟩
 ·refine k_ at_ n z ?_;rw[bb QD];refine NY fr m hL at_ n sz λh' T p k1 k2 k3 k4 k5 k6 k7=>k _ (fin h' T p (λb o t H _ I _=>k1 b o t H I) k2 k3 k4 k5 k6 k7)
 ·refine k_ at_ n z ?_;rw[br QS];have C1:T0≠a:=λy=>by rw[y,ha] at K1;cases K1
  refine a7 (k_ g0 d0 t0 ?_);rw[bb (by simp[rawInt])];refine a7 (oW g0 d0 (J3.mp t0).1 ?_);have bh:∀b,b≠T0->(s'.heap.update T0 (Obj.mapFields (·.setIfInBounds 3 Value.none))).get? b=s'.heap.get? b:=λb h=>Y6 _ _ (d6 h);have fT:T0∉cC (env::outer):=λy=>by
   obtain⟨o,f,F⟩:=bX T0 y;rw[g0] at f;cases f;exact F _ d0
  have szu:(s'.heap.update T0 (Obj.mapFields (·.setIfInBounds 3 Value.none))).objs.size=s'.heap.objs.size:=Heap.size_after_update ..;refine NY (s:={s' with heap:=s'.heap.update T0 (Obj.mapFields (·.setIfInBounds 3 Value.none))}) fr (m.of_keeps λb o f F=>⟨o,(bh b λy=>by rw[y,g0] at f;cases f;exact F _ d0).trans f,rfl⟩) hL ((bh a (d6 C1)).trans at_) n sz
   λh' T p k1 k2 k3 k4 k5 k6 k7=>k _ (fin h' T p (λb o t H _ I G=>?_) (λb o t H=>?_) k3 (by rw[←szu];exact k4) k5 k6 k7)
  ·have nb:b≠T0:=λy=>by
    subst y;rcases G with G|G;·exact G K1
    ·exact absurd lT (Nat.not_le.mpr G)
   exact k1 b o t H ((bh b nb).trans I)
  ·exact k2 b o t ((bh b λy=>fT (y▸t)).trans H)
def wY.mono{a b:Nat}(f:wY a H h vs)(l:b<=a):wY b H h vs:=by
 rcases f with z|⟨T,d,c,g,e,r⟩;·exact .inl z
 ·exact .inr ⟨T,d,c,g,Yz l e,r⟩
def tH(b:bA)(X:Cx)(E:St->XK):Prop:=∀(a:aJ) (c:St) (H:Hp) (s:a8) (e:aV) (d:a8),Inv X a c H s->iu b X.prog X.w X.stack H s (E c) e d->X.xe e d
abbrev IU:=tH ar
def Inv.Rq(I:Inv X pins σ H1 s1)(j:iu b X.prog X.w X.stack H1 s1 E e s3):
  ∃(a C d:U) (H':Hp) (c:cw aV),e=.ref a/\s1.heap.objs.size<=a/\Inv X pins σ H' s3/\H' a=O (xo a C (O d))/\gQ s3.heap a C (O d) c/\(wY s1.heap.objs.size H' s3.heap c/\(b=ar->c[2]?=O Value.none))/\E (.ref C) (O d) H':=by
 obtain⟨a,C,d,H',c,rfl,lo,os,f,un,k,h,g,i,q⟩:=j;exact⟨a,C,d,H',c,rfl,lo,I.BO os un k f (λb z=>absurd z QS),h,g,i,q⟩
section
variable {P:c6}{w:cD}{K:ae}{mg:aN}{T:cm}{N:Z af}{R:af}{X:Scope}{f:U}{Q:aV}{A:dO}{W:Z Env}{s:a8}{H:Hp}{E:XK}
def BV{b c:bA}(z:(b||!c)=ar:=by decide):tH b (iG (iu c P w) P w K mg T N R X f Q A W s H E) (λ_=>E):=by
 intro g p u t e k I m;show wpAny (model P w) _ (leaving _ e) _ _ k;unfold leaving;refine a7 (PR I.ok.frames I.stack I.Bf rfl m λr n=>?_);obtain⟨a,C,d,o,j,rfl,lo,J,l,i,h,q⟩:=I.Rq n;have sz:=I.sz;exact⟨a,C,d,o,j,rfl,Yz sz lo,J.os,J.bare,J.base,J.au,l,i,⟨h.1.mono sz,λy=>h.2 (by subst y;cases b<;>first|rfl|cases z)⟩,q⟩
def y_:PassesOwn (model P w) (iG (iu b P w) P w K mg T N R X f Q A W s H E).A (iG (iu b P w) P w K mg T N R X f Q A W s H E).env (iG (iu b P w) P w K mg T N R X f Q A W s H E).xe:=
 λe a h=>PassesOwn.leaving e a h
end
def ZfC(c:Sp)(d:Z V)(E:St->XK)(t:TA):TE:=λa H Q=>t a H λb e=>c (b++d) e Q (E a)
def Sm(b:bA)(P:c6)(w:cD)(K:ae)(d:aN)(a:cm)(k:Nat)(x:af)(c:Z af)(g:Sp):Prop:=
 ∃f e,aH P w K d a (iu b P w) k f e c g/\Binds K e c []/\keepIn K (.ref f)=ar/\d x=O (.ref f)
abbrev Ka:=Sm ar
section
variable {X:Cx}{k j:Nat}{f C:U}{P:FuncData}{ps:Z af}{R:Sp}{E:St->XK}{x m:af}{p pos W:Pos}{e o:bZ}{T:Z bZ}{N:TE}{t:TA}
theorem PU(F:aH X.prog X.w X.K X.mg X.base (iu b X.prog X.w) k f P ps R)(l:bK k X.A)(u:Binds X.K P ps ds)(q:Vals d ds)(i:tH b X E)
  (I:Inv X pins σ H s)(r:Vals vs us)(h:R (vs++d) H Q (E σ)):wpAny X.md X.A (call (.ref f) us) (EP X pins σ Q) X.xe s:=by
 have c:=r.append q;have n:(us++ds).length=ps.length:=by exact c.length▸F.len _ _ _ _ h
 refine je (i_ (F.run X.A X.stack s H ⟨us,[]⟩ (us++ds) (vs++d) Q (E σ) l I.wj (u s us I.bM n) c h) λr g a=>?_);cases r with
 |error e=>exact i pins σ H s e g I a
 |ok v=>cases v<;>first|exact I.after a|exact False.elim a
def Rr{b:bA}(h:Sm b X.prog X.w X.K X.mg X.base k x ps R)(l:bK j X.A)(u:k<=j)(i:tH b X E)(v:Gl X x)(y:PA X (e::T) t)
  (z:(x==("__debug__":af))=aY:=by decide)(w:iN X e T:=by rfl)(A:jk X pos T:=by rfl):
  PE X (.Call (.Name x p) (e::T) [] pos) (ZfC R [] E t):=by
 obtain⟨f,P,F,b,g,n⟩:=h;intro a s d H Q I h;exact kC (sJ I v n (mj I.ok.mod.ij g (aw (y pos a s d H _ I h) λD G ⟨B,J,c,r,q⟩=>⟨c.bM,PU F (l.mono u) b .nil i c r q⟩) w A) z)
def Rt(C:U)(m:af)(R:Sp)(E:St->XK)(N:TE)(t:TA):TE:=λb H Q=>N b H λx c=>∃a g fs,x=.ref a/\c a=O (.ins C g fs)/\fs.lookup m=aI/\t b c λd h=>R (x::(d++[])) h Q (E b)
def ZcC{b:bA}{G:Sem bA}(he:PE X o N)(c:gn X.K C)(n:Meth X.K C m f)(F:aH X.prog X.w X.K X.mg X.base (iu b X.prog X.w) k f P ps R)(hr:bK k X.A)(hb:Binds X.K P ps [])(J:tH b X E)(ha:PA X (e::T) t)
  (dA:iN X e T:=by rfl)(bN:jk X pos T:=by rfl)
  (L:eval (.Call (.Attribute o m W) (e::T) [] pos) X.env=(do
   let i←eval o X.env
   standAt W.atName
   let(f,first)←holding [i] (getMethod i m G)
   callWith pos f first (backTo pos (starEach (e::T) X.env)) (backToKw pos (keywordEach [] X.env))):=by rfl):
  PE X (.Call (.Attribute o m W) (e::T) [] pos) (Rt C m R E N t):=by
 intro d s g H Q I h;refine pz (aw (he d s g H _ I h) λu A y=>?_) L;obtain⟨x,H1,w,B,a,dx,fs,ex,ea,l,q⟩:=y;subst ex;obtain rfl:u=Value.ref a:=B;exact F7 w ea c n l (mj I.ok.mod.ij n.kp (aw (ha pos d A g H1 _ w q) λus s2 ⟨z,H2,v,r,D⟩=>⟨v.bM,PU (vs:=.ref a::z) F hr hb .nil J v (.cons rfl r) D⟩) dA bN)
end
section
variable {P:c6}{w:cD}{K:ae}{mg:aN}{X:cm}
def aP.K2{b:bA}{x d:af}{g:bS}{f:U}{l:FuncData}{N i:Z af}{k:Nat}{sp:Sp}(F:aP K x d g f l)(a:aS N i (aL g))(j:∀e H Q E,sp e H Q E->e.length=i.length)
  (n:∀(h:aV) (A:dO) (c:Z Env) (s:a8) (H:Hp) (e:Z V) (Q:VK) (E:XK),bK k (A.deeper (envOfC d (aL g) s.heap.objs.size f h))->sp e H Q E->
   ∃t,fR (iG (iu b P w) P w K mg X N d (aL g) f h A c s H E) (gw g) t/\t {nx:=λ_ u=>Q .aB u,rt:=Q} (start N e) H):aH P w K mg X (iu b P w) (k+1) f l i sp:=by
 obtain⟨z,y,kV,r,v,D,h,C,B,rfl,m,q⟩:=F.ex;exact BU m q a j λA c s H e Q E p o=>n h A c s H e Q E p o
end
structure wx(K:ae)(C f:U):Prop where
 ng:∃(nm q:af) (N:U) (bs bm:Z aV) (sn:Z af) (sub:Z aV) (ab:bA) (col:bt bA) (dd:bt U) (k0 k1 k2 k3 k5:bt aV),
  K.lookup C=O (excClassObj nm q C N bs bm ar sn sub ab col dd k0 k1 k2 k3 k5 "ValueError.__new__")
 mC:PySem.W.mroIn K C (.type "ValueError")=O ar
 zI:PySem.W.mroIn K C (.type "BaseException")=O ar
 kY:PySem.W.mroIn K C (.type "AttributeError")=O aY
 uh:PySem.W.mroIn K C (.type "NameError")=O aY
 init:PySem.W.findIn K (.ref C) "__init__"=O (O (.ref f))
 fn:isFn K (.ref f)=ar
 kp:keepIn K (.ref C)=ar
def yu{K:ae}
  (l:K.lookup C=O (excClassObj nm q C N bs bm hd sn sub j col i g f e d c a))(h:PySem.W.mroIn K C v=O b):(Value.ref C::bm).contains v=b:=by
 unfold PySem.W.mroIn PySem.W.clsIn at h
 simp_all
section
variable {X:c6}{w:cD}{A:dO}{E:aR}{h:cm}{g:cw GenState}{d:Drawn}{t:Nat}{os:OsState}
variable {H q:af}{C N:U}{bs W:Z aV}{D:bA}{y:Z af}{sub:Z aV}{J:bA}{T:bt bA}{I:bt U}{P v L F B:bt aV}
local macro_rules|`(tactic|walk_at "vlu")=>`(tactic|exact excBase_ValueError)
def ZbG(a:h.get? C=O (excClassObj H q C N bs W D y sub J T I P v L F B "ValueError.__new__"))(b:(Value.ref C::W).contains (.type "ValueError")=ar)
  (z:Q () ⟨h,g,d,t,os⟩):wpAny M A (checkBuiltinCall "ValueError.__new__" ⟨.ref C::rest,[]⟩) Q E ⟨h,g,d,t,os⟩:=by
 have G:=qw;simp[checkBuiltinCall,G.newKind,G.newSplit,G.newRow];repeat (first|refine i2 a ?_|(refine lH a ?_;rw[b])|refine wpAny_staticBase_exc a ?_|refine Li a ?_|simp only[tY,mM]|wp_step)
 exact z
def ZcD{R:Result->a8->Prop}{a:Z aV}(b:h.get? C=O (excClassObj H q C N bs W D y sub J T I P v L F B "ValueError.__new__"))(f:(Value.ref C::W).contains (.type "ValueError")=ar)
  (j:(Value.ref C::W).contains (.type "AttributeError")=aY)(e:(Value.ref C::W).contains (.type "NameError")=aY)
  (z:R (.ok (.ret (.ref (h.objs.size+1)))) ⟨(h.push {cls:=.type "tuple",data:=.seq a.toArray}).push {cls:=.ref C,data:=.fields #[.ref h.objs.size,.none,.none,.none,.bool aY,.none]},g,d,t,os⟩)(i:a.length<=sizeLine):
  codeAny (model X w) A (.builtin "ValueError.__new__" ⟨.ref C::a,[]⟩) R ⟨h,g,d,t,os⟩:=by
 have G:=qw;have c:=G.ends;refine codeAny_builtinAt G.entry ?_;refine L4 ?_;refine L4 (PySem.wpAt_stack λp below=>CS ?_)
 wp_walk
 refine CS ?_;rw[G.owner];repeat (first|with_reducible refine wpAny_madeHere_exc G.canon b ?_|with_reducible refine i2 b ?_|(with_reducible refine lH b ?_;first|rw[f]|rw[j]|rw[e])|wp_step)
 simp_all
def ZcE{a:Z aV}{j:U}{Q:Fin->a8->Prop}(c:h.get? C=O (excClassObj H q C N bs W D y sub J T I P v L F B "ValueError.__new__"))(m:(Value.ref C::W).contains (.type "ValueError")=ar)
  (u:(Value.ref C::W).contains (.type "AttributeError")=aY)(n:(Value.ref C::W).contains (.type "NameError")=aY)
  (s:PySem.W.Looks (model X w) h (typeLookup (.ref C) "__init__") (O (.ref j)))(p:PySem.W.Looks (model X w) h (typeOf (.ref j)) (.type "function"))
  (z:wpAny (model X w) A (call (.ref j) (.ref (h.objs.size+1)::a)) (λr l=>r=.none/\Q (.done (.ret (.ref (h.objs.size+1)))) l) E
   ⟨(h.push {cls:=.type "tuple",data:=.seq a.toArray}).push {cls:=.ref C,data:=.fields #[.ref h.objs.size,.none,.none,.none,.bool aY,.none]},g,d,t,os⟩)(f:a.length<=sizeLine):
  wpAny (model X w) A (Builtin.«type.__call__» ⟨.ref C::a,[]⟩) Q E ⟨h,g,d,t,os⟩:=by
 have G:=qw;repeat (first|with_reducible refine i2 c ?_|with_reducible refine Li c ?_|wp_step)
 refine codeAny_call_builtin_code (DR _ G.quiet) (ZbG c m (ZcD c m u n ?_ f));show wpAny _ _ _ _ _ _;have up:∀b o,h.get? b=O o->((h.push {cls:=.type "tuple",data:=.seq a.toArray}).push {cls:=.ref C,data:=.fields #[.ref h.objs.size,.none,.none,.none,.bool aY,.none]}).get? b=O o:=
  λb o e=>Yc _ (Yc _ e)
 have i:=up _ _ c;have k:(Value.ref C::W).contains (.ref C)=ar:=QS
 unfold isInstance;repeat (first|with_reducible refine i2 here ?_|(with_reducible refine lH i ?_;rw[k])|wp_step)
 refine(s.keeps up) _ _ _ _ (λ_ _ e=>e) ?_;refine fx (a7 ?_);unfold bindSpecial;refine a7 ((p.keeps up) _ _ _ _ (λ_ _ e=>e) ?_);rw[br QD];refine cb (a7 (cW z (λr l R=>?_) λ_ _ x=>x));obtain⟨rfl,hQ⟩:=R
 wp_walk
 exact hQ
def ZcF{a:Z aV}{e:U}{Q:aR}(c:h.get? C=O (excClassObj H q C N bs W D y sub J T I P v L F B "ValueError.__new__"))(j:(Value.ref C::W).contains (.type "ValueError")=ar)
  (m:(Value.ref C::W).contains (.type "AttributeError")=aY)(f:(Value.ref C::W).contains (.type "NameError")=aY)
  (l:PySem.W.Looks (model X w) h (typeLookup (.ref C) "__init__") (O (.ref e)))(k:PySem.W.Looks (model X w) h (typeOf (.ref e)) (.type "function"))
  (z:wpAny (model X w) (A.under (.builtin "type.__call__" ⟨.ref C::a,[]⟩)) (call (.ref e) (.ref (h.objs.size+1)::a)) (λr i=>r=.none/\Q (.ref (h.objs.size+1)) i) E
   ⟨(h.push {cls:=.type "tuple",data:=.seq a.toArray}).push {cls:=.ref C,data:=.fields #[.ref h.objs.size,.none,.none,.none,.bool aY,.none]},g,d,t,os⟩)(b:a.length<=sizeLine):
  wpAny (model X w) A (call (.ref C) a) Q E ⟨h,g,d,t,os⟩:=by
 have o:=tc_lookup;have n:=tc_bind (.ref C);refine je (LS ?_);repeat (any_goals (first|assumption|with_reducible refine i2 c ?_|wp_step))
 exact⟨rfl,codeAny_call_builtin_at (DR _ QK) entry_typeCall (wpAny_check_type_call_sub c (ZcE c j m f l k z b))⟩
end
end L2
namespace L2
open PySem PySem.Spec PyProof.Rows
open PySem.W (Looks InstAt looks_findIn looks_typeIn looks_clsIn looks_mroIn looks_find findObj findIn mroIn clsIn)
abbrev qh:Z aV:=[.type "ValueError",.type "Exception",.type "BaseException",.type "object"]
structure dZ(K:ae)(C:U):Prop where
 ng:∃(nm q:af) (N:U) (bs:Z aV) (cs:Z U) (sn:Z af) (sub:Z aV) (ab:bA) (col:bt bA) (dd:bt U) (k0 k1 k2 k3 k5:bt aV),
  K.lookup C=O (excClassObj nm q C N bs (cs.map Value.ref++qh) ar sn sub ab col dd k0 k1 k2 k3 k5 "ValueError.__new__")
 ga:findIn K (.ref C) "__getattribute__"=O (O (.builtin "BaseException.__getattribute__"))
 gh:findIn K (.ref C) "__getattr__"=O aI
 sa:findIn K (.ref C) "__setattr__"=O (O (.builtin "object.__setattr__"))
 cl:findIn K (.ref C) "__class__"=O (O (.builtin "object.__class__"))
 cg:specialIn K (.builtin "object.__class__") "__get__"=O (O (.builtin "getset_descriptor.__get__"))
 ct:takesIn K (.builtin "object.__class__")=O ar
def Sn(C:U)(a:Z U)(v:aV)(h:qh.contains v=ar):(Value.ref C::(a.map Value.ref++qh)).contains v=ar:=by
 grind
def dZ.mro{K:ae}(x:dZ K C)(v:aV)(h:qh.contains v=ar):mroIn K C v=O ar:=by
 obtain⟨c,q,N,bs,k,b,sub,m,a,j,i,g,f,e,d,l⟩:=x.ng;unfold PySem.W.mroIn PySem.W.clsIn
 grind
def dZ.hd{K:ae}(x:dZ K C):hasDictIn K C=ar:=by
 obtain⟨c,q,N,bs,j,b,sub,k,a,i,h,g,f,e,d,l⟩:=x.ng;unfold hasDictIn PySem.W.clsIn;rw[l];rfl
def gQ.inst(x:gQ h a C (O d) l)(e:h.get? d=O f):∃b,InstAt h a b C (O f):=by
 obtain⟨c,k,j,i,g,_⟩:=x;refine⟨c,k,j,?_,?_⟩
 ·unfold notCls;rw[g]
 ·rwa[i]
def gQ.ZgW(x:gQ h a C aI g):∃b,InstAt h a b C aI:=by
 obtain⟨c,f,e,i,d,_⟩:=x;refine⟨c,f,e,?_,?_⟩
 ·unfold notCls;rw[d]
 ·grind
section
variable {W:c6}{w:cD}{A:dO}{E:aR}{s:a8}{K:ae}{x C:U}{L:Obj}{P:bt Obj}{T:af}
def Ru(d:K.In s.heap)(I:InstAt s.heap x L C P)(X:dZ K C)
  (k:wpAny (model W w) A.in1 (Builtin.«object.__getattribute__» ⟨[.ref x,.str T c],[]⟩) (λfin a=>match fin with|.done f=>R (.ok f) a|.again b=>b.quiet=ar/\codeAny (model W w) A b R a) (λe a=>R (.error e) a) s):
  codeAny (model W w) A (.call (.builtin "BaseException.__getattribute__") ⟨[.ref x,.str T c],[]⟩) R s:=by
 have G:=PySem.F.attr_ValueError;exact t8 G.ga.plain PySem.F.entry_bexc_ga (check_slot (i:="BaseException.__getattribute__") (owner:="BaseException") (n:="__getattribute__") QK QK ((I.type).andThen (looks_mroIn d (X.mro _ QD))) (PySem.F.args_bexc_ga _ _) k)
theorem Rv{b a:bA}(d:K.In s.heap)(I:InstAt s.heap x L C P)(X:dZ K C)
  (k:codeAny (model W w) A (.call (.builtin "BaseException.__getattribute__") ⟨[.ref x,.str T i],[]⟩) (λr c=>match r with|.ok (.ret v)=>handedIn v=ar/\Q v c|_=>False) s):
  wpAny (model W w) A (getAttrBy (.ref x) (.str T i) b a) Q E s:=by
 refine fx (a7 ((I.type).here (a7 ((looks_findIn d X.ga).here ?_))));refine a7 ((looks_findIn d X.gh).here (a7 (vg (fx ?_))));unfold callGetattribute;rw[bb (by cases a<;>exact Yo)];refine a7 (cb (je (i_ k λr c z=>?_)));cases r with
 |error e=>grind
 |ok f=>
  cases f with
  |ret v=>
   obtain⟨h,g⟩:=z;show wpAny _ _ (handedOut v) _ _ _;rw[PySem.W.handedOut_of h];exact cb g
  |next=>grind
  |brk=>grind
  |cont=>grind
def ZhS{a:bA}{v:aV}{Q:aR}(b:K.In s.heap)(I:InstAt s.heap x L C P)(X:dZ K C)(d:findObj K C P T=O (.value v))(c:handedIn v=ar)(q:Q v {s with toks:=s.toks+1}):
  wpAny (model W w) A (getAttr (.ref x) T a) Q E s:=by
 exact a7 (wpAny_mkText (Rv b I X (Ru b I X (a7 (cb (a7 (cb (a7 ((I.type).at (a7 ((looks_find b I d).at (cb (pB c q)))))))))))))
def ZaM{P:Obj}{Q:bt aV->a8->Prop}(a:K.In s.heap)(I:InstAt s.heap x L C (O P))(X:dZ K C)(q:Q (O (.ref C)) {s with toks:=s.toks+1}):wpAny (model W w) A (getAttr? (.ref x) "__class__") Q E s:=by
 exact a7 (wpAny_mkText (a7 (vg (Rv a I X (Ru a I X (a7 (cb (a7 (cb (a7 ((I.type).here (s:={s with toks:=s.toks+1}) (a7 ((looks_find a I (PySem.W.findObj_data (by obtain⟨c,b,_⟩:=sm X.hd;rw[b];rfl) X.cl X.cg X.ct)).here (s:={s with toks:=s.toks+1}) (a7 (fx (je (PySem.W.class_get a I (X.mro _ QD) (cb ⟨rfl,cb q⟩))))))))))))))))))
theorem ZcG{P:Obj}(X:dZ K C):KitX K (.ref x) (.ref C) (λh=>∃L,InstAt h x L C (O P)) where
 ty:=λ_ _ _ ⟨_,I⟩=>I.type
 it:=λ_ _ a _=>by
  obtain⟨d,q,N,bs,r,c,sub,t,b,p,m,j,i,g,f,l⟩:=X.ng;intro H F G B k q;exact a7 (rB (k _ _ (a _ _ l)) (cb q))
 ne:=λh u o D n v a e=>by
  obtain⟨d,q,N,bs,r,c,sub,t,b,p,m,j,i,g,f,l⟩:=X.ng;refine W4.mpr λz=>?_;have z:=Value.ref.inj (beq_iff_eq.mp z);subst z;have y:=de Obj.cls (Yr ((a _ _ l).symm.trans e))
  grind
 ca:=λa ⟨_,I⟩ k=>ZaM a I X k
theorem Nh(a:aV):∀b:Z U,refuseLoop a "__setattr__" (b.map Value.ref++qh)=pure ()
 |[]=>PySem.F.store_ValueError.passes a
 |c::r=>by
  show refuseLoop a "__setattr__" (.ref c::(r.map Value.ref++qh))=pure ();rw[Qf];exact Nh a r
def Th{v:aV}{Q:Unit->a8->Prop}(b:K.In s.heap)(I:InstAt s.heap x L C P)(X:dZ K C)(d:findIn K (.ref C) T=O aI)
  (k:wpAny (model W w) A.in1 (Builtin.ObjectAttr.storeInOwnDict (.ref x) (.ref C) (.str T s.toks) T v aY) (λfin c=>fin=PySem.Fin.done (.ret .none)/\Q () c) (λ_ _=>False) {s with toks:=s.toks+1}):
  wpAny (model W w) A (setAttr (.ref x) T v) Q E s:=by
 have a:=PySem.F.store_object;refine set_plain b I X.sa ?_;have sub:Looks (model W w) s.heap (isInstance (.ref x) (.type "object")) ar:=I.type.andThen (looks_mroIn b (X.mro _ QD));refine t8 a.slot.plain a.entry (@check_slot (model W w) _ _ {s with toks:=s.toks+1} "object.__setattr__" "object" "__setattr__" (.ref x) [.str T s.toks,v] [] _ a.kind a.split sub (a.args (.ref x) (.str T s.toks) v) ?_);obtain⟨j,q,N,bs,f,h,i,u,g,t,r,p,o,n,m,l⟩:=X.ng;have e:Looks (model W w) s.heap (mroOf (.ref C)) (.ref C::(f.map Value.ref++qh)):=(looks_clsIn b (by unfold PySem.W.clsIn;rw[l])).andThen .now;rw[osa_eq,refuse_eq];refine a7 (a7 (I.type.here (s:={s with toks:=s.toks+1}) (a7 (e.here (s:={s with toks:=s.toks+1}) ?_))));rw[Qf,Nh];refine cb (a7 (I.type.here (s:={s with toks:=s.toks+1}) (a7 ((looks_findIn b d).here (s:={s with toks:=s.toks+1}) (a7 (cb ?_))))));refine cW k (λfin c z=>?_) λ_ _ z=>z.elim;obtain⟨rfl,z⟩:=z;exact z
end
def xq(d:U)(b:Z (af×V)):HO:=.ext λh=>∃a,h.Ns1 d a/\(∀f,eX (b.lookup f) (a f))/\PySem.Within a (b.map (·.1))
def So(n:h.Ns1 d a)(r:∀f,eX (fs.lookup f) (a f))(b:PySem.Within a (fs.map (·.1))):bY P w H h d (xq d fs):=
 ⟨⟨a,n,r,b⟩,let⟨o,_,_,e,_⟩:=n;⟨o,e⟩,λ_ _ ⟨m,y,q⟩ k=>⟨m,y.at k,q⟩⟩
def Ij(b:cZ P w H h)(e:H d=O (xq d fs)):∃a,h.Ns1 d a/\(∀f,eX (fs.lookup f) (a f))/\PySem.Within a (fs.map (·.1)):=(b d _ e).1
def PV{mA:aN}(a:RelV y u)(r:∀g,eX (fs.lookup g) (mA g)):∀g,eX ((cy f y fs).lookup g) (if g=f then O u else mA g):=λg=>by
 rw[Fy];by_cases q:g=f;·rwa[br q,br q]
 ·simp_all
def Ni(a:PySem.Within b (fs.map (·.1))):PySem.Within (λg=>if g=f then O u else b g) ((cy f y fs).map (·.1)):=λg c=>by
 by_cases q:g=f;·exact q▸(yg f y fs).1
 ·refine(yg f y fs).2 g (a g λz=>c ?_)
  grind
section
variable {T:c6}{w:cD}{A:dO}{E:aR}{s:a8}{K:ae}{x C:U}{W:af}{v:aV}{b:bA}{tk:Tok}
def ZbH{a:Obj}{d:U}{e:aN}{f:Z af}{Q:PySem.Fin->a8->Prop}(D:K.In s.heap)(X:dZ K C)(r:s.heap.get? x=O a)(z:a.cls=.ref C)(u:a.dict=O d)(n:s.heap.Ns1 d e)(l:PySem.Within e f)(m:f.length<sizeLine)
  (k:∀c j,c.Ns1 d (λy=>if y=W then O v else e y)->Heap.SameBut d s.heap c->Q (.done (.ret .none)) {s with heap:=c,toks:=j}):
  wpAny (model T w) A (Builtin.ObjectAttr.storeInOwnDict (.ref x) (.ref C) (.str W tk) W v b) Q E s:=by
 obtain⟨F,q,N,H⟩:=a;subst z u;obtain⟨I,B,t⟩:=sm X.hd;refine a7 (cb (a7 (a7 (rB r (a7 ((looks_clsIn D B).here ?_))))));rw[t];refine cb (a7 (cb (a7 (vj n λc g o=>?_))));obtain⟨G,L,J,p,i,h⟩:=g.count (uz W v l);exact a7 (uD p (by exact i▸uF (Yz h (by rw[Wm];exact lg (Nat.add_lt_add_right m _)))) (cb (k _ _ g o)))
def ZbI{a:Obj}{i:cw aV}{Q:PySem.Fin->a8->Prop}(J:K.In s.heap)(X:dZ K C)(f:s.heap.get? x=O a)(g:a.cls=.ref C)(F:a.dict=aI)(B:a.data=.fields i)
  (k:∀d r,d.Ns1 s.heap.objs.size (λy=>if y=W then O v else aI)->d.get? x=O {a with dict:=O s.heap.objs.size}->(∀c o,c≠x->s.heap.get? c=O o->d.get? c=O o)->Q (.done (.ret .none)) {s with heap:=d,toks:=r}):
  wpAny (model T w) A (Builtin.ObjectAttr.storeInOwnDict (.ref x) (.ref C) (.str W tk) W v b) Q E s:=by
 obtain⟨L,u,UA,H⟩:=a;subst g F B;obtain⟨P,I,z⟩:=sm X.hd;refine a7 (cb (a7 (a7 (rB f (a7 ((looks_clsIn J I).here ?_))))));rw[z];have h:=Y2 (Yp f);have n:(s.heap.push {cls:=.type "dict",data:=.dict #[]}).get? x=O ⟨.ref C,aI,.fields i,H⟩:=Yc _ f;refine a7 (wpAny_alloc' (a7 (wpAny_update' n (cb ?_))));have G:((s.heap.push {cls:=.type "dict",data:=.dict #[]}).update x λo=>{o with dict:=O s.heap.objs.size}).get? s.heap.objs.size=O {cls:=.type "dict",data:=.dict #[]}:=
  (UC _ _ _ _ h.symm).trans (Heap.get?_push_at rfl rfl)
 refine a7 (cb (a7 (vj (K7 ⟨_,#[],_,G,rfl,λe D=>absurd D QS,λ_=>rfl⟩) λd l j=>?_)));obtain⟨N,Ul,R,t,q,p⟩:=l.count (uz W v PySem.Within.nil);refine a7 (uD t (by exact q▸uF (Yz p (by rw[Wm,Uv,c7];decide))) (cb (k _ _ l ?_ λc o g m=>?_)));·exact(j.2 x h).trans (Wq _ n rfl)
 ·exact(j.2 c (Y2 (Yp m))).trans ((UC _ _ _ _ g).trans (Yc _ m))
end
def Sq(K:ae)(g e:TE)(f:af):TS:=λ D c H=>e c H λ y h=>g c h λ x b=>∃ a C,x=.ref a/\dZ K C/\c9 K C f /\
  ((b a=O (xn a C aI)/\∀ d,b d=aI->d≠a->D.nx c (upd (upd b d (xq d [(f,y)])) a (xn a C (O d)))) \/
   ∃ d fs,b a=O (xn a C (O d))/\b d=O (xq d fs)/\d≠a/\fs.length < 1000/\D.nx c (upd b d (xq d (cy f y fs))))
def Sr(K:ae)(e:TE)(f:af):TE:=λc H Q=>e c H λx b=>∃a C d fs v,x=.ref a/\b a=O (xo a C (O d))/\b d=O (xq d fs)/\dZ K C/\c9 K C f/\fs.lookup f=O v/\Q v b
inductive PX(K:ae)(e:Z V)(H:Hp)(Q:VK):Prop
 |mk (a C d:U) (fs:Z (af×V)) (c:V) (u:aV) (b:bA) (l:e=[.ref a,c]) (k:RelV c u) (j:H a=O (xo a C (O d))) (i:H d=O (xq d fs)) (h:dZ K C) (g:kitOne K (.ref C) u=O b) (f:Q (.bl b) H):PX K e H Q
def Ss(K:ae):Z V->Hp->VK->Prop:=λa H Q=>PX K a H Q
section
variable {X:Cx}{o e W:bZ}{f:af}{pos T:Pos}{R P:TE}
def Zea(ha:PE X o R)(hv:PE X W P)(hs:swapsWith W (O (.Attribute o f T)) pos.line X.env=pure aY:=by rfl):PS X (.Assign [.Attribute o f T] W pos) (Sq X.K R P f):=by
 intro p s A H D I h;refine tJ (aw (hv p s A H _ I h) λu s1 zq=>?_) hs;obtain⟨y,H1,I1,ry,q⟩:=zq;refine aw (ha p s1 A H1 _ I1 q) λov F zq=>?_;obtain⟨x,H2,l,rx,a,C,N,E,na,v⟩:=zq;subst N;obtain rfl:ov=Value.ref a:=rx;rcases v with⟨m,v⟩|⟨d,fs,m,ed,nd,lim,v⟩
 ·obtain⟨vs,r,v1⟩:=Bz l.au m;obtain⟨ox,J⟩:=r.ZgW;obtain⟨oe,e1,Q,e3,e4,e5⟩:=r;refine Th l.bM J E na (ZbI l.bM E e1 Q e3 e4 λh' tk G N kp=>⟨rfl,?_⟩);have w:=l.au.fresh (Yg _);have ne:=W1 (Yp e1);refine⟨A,_,?_,v F.heap.objs.size w ne⟩;have hx':gQ h' a C (O F.heap.objs.size) vs:=⟨_,N,Q,rfl,e4,e5⟩;refine l.un ⟨λb j i n _ _=>?_,λb j i n fr _=>?_,λb j i n _=>?_,λb j i _=>?_,λb B i=>?_,λb j u i=>?_,λb ps i=>?_⟩ λb j i=>?_;·exact kp b j (λz=>by rw[z,m] at n;cases n) i
  ·exact⟨j.slots,kp b j (λz=>by rw[z,m] at n;cases n) i⟩
  ·rw[az (λz=>by rw[z,m] at n;cases n),az (Y2 (Yp i))];exact n
  ·by_cases z:b=a;·exact⟨_,z▸N⟩
   ·exact⟨j,kp b j z i⟩
  ·rw[az (λz=>by rw[z,m] at i;cases i),az (λz=>by rw[z,w] at i;cases i)];exact i
  ·rw[az (λz=>by rw[z,m] at i;cases i),az (λz=>by rw[z,w] at i;cases i)];exact i
  ·exact⟨#[],by rw[az (λz=>by rw[z,m] at i;cases i),az (λz=>by rw[z,w] at i;cases i),i];simp⟩
  ·by_cases z:b=a
   ·subst z;rw[aM] at i;cases i;exact(λH0=>IT hx' v1) _
   ·rw[az z] at i;by_cases z2:b=F.heap.objs.size
    ·subst z2;rw[aM] at i;cases i;exact(λH0=>So G (PV (fs:=[]) (mA:=λ_=>aI) ry λg=>trivial) (Ni λ g=>absurd rfl)) _
    ·rw[az z2] at i;have C2:∀c t,H2 c=O t->t=.own b\/(∃B,t=.tup B)->c≠a/\c≠F.heap.objs.size:=λc t k L=>by
      refine⟨λy=>?_,λy=>by rw[y,w] at k;cases k⟩;rw[y,m] at k;cases k;rcases L with L|⟨B,L⟩<;>cases L
     refine(l.au b j i).gO (λc u k hg=>?_) (λc k=>?_) λc B k=>?_;·grind
     ·rwa[az (C2 c _ k (.inl rfl)).1,az (C2 c _ k (.inl rfl)).2]
     ·rwa[az (C2 c _ k (.inr ⟨_,rfl⟩)).1,az (C2 c _ k (.inr ⟨_,rfl⟩)).2]
 ·obtain⟨vs,r,v1⟩:=Bz l.au m;obtain⟨mA,n1,rl,wi⟩:=Ij l.au ed;obtain⟨od,_,_,iU,_⟩:=id n1;obtain⟨ox,J⟩:=r.inst iU;obtain⟨oe,e1,Q,e3,e4,e5⟩:=r;refine Th l.bM J E na (ZbH l.bM E e1 Q e3 n1 wi (by rw[Ya,c7];exact k8 lim (by decide)) λh' tk G sb=>⟨rfl,A,_,?_,v⟩);have hd:∃o,h'.get? d=O o:=let⟨o,_,_,e',_⟩:=G;⟨o,e'⟩;exact l.write (by exact ed▸fy) (.inl rfl) (λb q i z=>(sb.2 b i).trans z) hd (So G (PV ry rl) (Ni wi))
def Zeb(B:PE X e R)(D:attributeBase e f X.env (eval e X.env)=eval e X.env:=by rfl):PE X (.Attribute e f pos) (Sr X.K R f):=by
 intro b s j H Q I h;refine Hn D (aw (B b s j H _ I h) λu s1 k=>?_);obtain⟨x,L,c,n,a,C,d,fs,v,E,G,F,g,t,l,q⟩:=k;subst E;obtain rfl:u=Value.ref a:=n;obtain⟨vs,m⟩:=Rp c.au G;obtain⟨mA,w,p,N⟩:=Ij c.au F;obtain⟨od,z,y⟩:=Gv w;obtain⟨ox,J⟩:=m.inst z;have r:=p f;rw[l] at r;obtain⟨u,A,i⟩:=r.some_of;exact ZhS c.bM J g (findObj_own g.hd t rfl (by rw[y,A])) (NO i) ⟨v,L,c.tok _,i,q⟩
def Zw:cU X (.builtin "isinstance") (Ss X.K):=by
 rintro j s E H F N Q I r ⟨a,C,d,fs,c,u,b,rfl,h,B,A,n,e,q⟩;obtain⟨p,g,rfl,v,i⟩:=vals2 r;obtain rfl:p=Value.ref a:=v;obtain⟨L,m⟩:=Rp I.au B;obtain⟨mA,x,rl,G⟩:=Ij I.au A;obtain⟨od,y,lk⟩:=Gv x;obtain⟨w,J⟩:=m.inst y;have same:kitOne X.K (.ref C) g=O b:=by
  have D:g=u:=by
   cases c<;>first|exact(i).trans (h).symm|skip
   all_goals (obtain⟨t1,l⟩:=i;obtain⟨t2,k⟩:=h;subst l;subst k)
   all_goals (exfalso;revert e;simp[kitOne,kitCls])
  rwa[D]
 exact i1 (ZcG n) I.bM ⟨w,J⟩ same (λz=>nomatch z) λt=>⟨.bl b,H,I.tok t,rfl,q⟩
end
structure IV(K:ae)(C:U)(m:af)(f:U):Prop where
 ga:specialIn K (.ref C) "__getattribute__"=O (O (.builtin "type.__getattribute__"))
 rd:PySem.W.readsIn K C (.type "type")=ar
 at_:findCls K (.ref C) (.type "type") m=O (.val (.ref f))
 kp:keepIn K (.ref f)=ar
section
variable {X:Cx}{L:kU}{k:Nat}{f C:U}{R:FuncData}{ps:Z af}{N:Sp}{P:Z V}{ds:Z aV}{E:XK}{x m:af}{p pos W:Pos}{e:bZ}{T:Z bZ}{t:TA}
def ZcH{j:Sem bA}(b:IV X.K C m f)(F:aH X.prog X.w X.K X.mg X.base L k f R ps N)(o:bK k X.A)(u:Gl X x)(q:X.mg x=O (.ref C))(w:Binds X.K R ps ds)(v:Vals P ds)(l:Passes L X E)(y:PA X (e::T) t)
  (z:(x==("__debug__":af))=aY:=by decide)(A:iN X e T:=by rfl)(B:jk X pos T:=by rfl)
  (n:eval (.Call (.Attribute (.Name x p) m W) (e::T) [] pos) X.env=(do
   let c←eval (.Name x p) X.env
   standAt W.atName
   let(f,first)←holding [c] (getMethod c m j)
   callWith pos f first (backTo pos (starEach (e::T) X.env)) (backToKw pos (keywordEach [] X.env))):=by rfl):
  PE X (.Call (.Attribute (.Name x p) m W) (e::T) [] pos) (BQ N P E t):=by
 intro a s g H Q I h;exact pz (sJ I u q (PySem.W.method_cls I.bM b.ga (PySem.W.cls_value I.bM b.rd b.at_ rfl (mj I.ok.mod.ij b.kp (aw (y pos a _ g H _ (I.tok (s.toks+1)) h) λG J ⟨D,H2,d,r,i⟩=>⟨d.bM,Bw F o w v l d r i⟩) A B))) z) n
end
def Ik(K:ae):Z V->Hp->VK->Prop:=λb H Q=>∃(a C:U) (y:V),b=[.ref a,y]/\dZ K C/\H a=O (xn a C aI)/\Q .aB H
section
variable {K:ae}
def ZaN(m:K.In s.heap)(X:dZ K C)(i:s.heap.get? a=O c)(f:c.cls=.ref C)(z:Q () s):wpAny M A (checkBuiltinCall "ValueError.__init__" ⟨.ref a::rest,[]⟩) Q E s:=by
 obtain⟨r,q,N,bs,j,o,p,I,k,H,F,D,B,y,w,l⟩:=X.ng;have b:=m _ _ l;have e:=Sn C j (.type "ValueError") QD;have G:=qw;obtain⟨h,g,d,t,os⟩:=s;simp[checkBuiltinCall,G.initKind,G.initSplit,G.initRow];repeat (first|(with_reducible refine i2 i ?_;rw[f])|with_reducible refine i2 b ?_|(with_reducible refine lH b ?_;rw[e])|wp_step)
 refine wpAny_onRaise ?_;rw[show ∀(u v:String) (n:Nat),Bind.check ⟨.positional,"*","ValueError",.self,[⟨"args",.varPos,aY⟩]⟩ u v n (List.map (λx=>x.fst) ({pos:=Value.ref a::rest}:Args).kw)=pure () from λu v n=>check_star_args _ _ _ _ _ _];exact cb z
end
section
variable {X:Cx}{p pos W:Pos}{e:bZ}{T:Z bZ}{t:TA}
def ZcI(I:Inv X pins σ H s)(r:Vals xs us)(h:Ik X.K xs H Q):wpAny X.md X.A (call (.builtin "ValueError.__init__") us) (EP X pins σ Q) X.xe s:=by
 obtain⟨a,C,y,rfl,A,l,q⟩:=h;obtain⟨D,j,rfl,F,r2⟩:=vals2 r;obtain rfl:D=Value.ref a:=F;obtain⟨f,w,i⟩:=Bz I.au l;obtain⟨L,u,R,P,d,n⟩:=id w;have G:=UY;refine je (t8 G.init.plain G.initEntry (ZaN I.bM A u R ?_));unfold Builtin.«BaseException.__init__»;show wpAny _ _ (do let E←newTuple [j];Builtin.BaseException.bexcPut (.ref a) 0 E;ret .none) _ _ _;refine a7 ?_;unfold newTuple;refine l5 (a7 ?_);have k:=Yc {cls:=.type "tuple",dict:=aI,data:=.seq [j].toArray} u;have B:f[0]?=O f[0]:=W7 (xc (Um n));unfold Builtin.BaseException.bexcPut;refine a7 (k_ k d B (a7 (oW k d (xc (Um n)) ?_)));have fin:EP X pins σ Q Value.none {s with heap:=(s.heap.push {cls:=.type "tuple",dict:=aI,data:=.seq [j].toArray}).update a (Obj.mapFields (·.setIfInBounds 0 (Value.ref s.heap.objs.size)))}:=by
  have v:=ur d (·.setIfInBounds 0 (Value.ref s.heap.objs.size));have m:=Wq (Obj.mapFields (·.setIfInBounds 0 (Value.ref s.heap.objs.size))) k (t5 v);have J:=I.write (x:=a) (e:=a) (o:=xn a C aI) (t':=s.toks) (by exact l▸fy) (.inl rfl)
   (λb o N g=>by rw[Y6 _ _ (d6 N)];exact Yc _ g) ⟨_,m⟩
   (IT ⟨_,m,by rwa[Obj.cls_mapFields],by obtain⟨c,dd,da,sl⟩:=L;cases d;exact P,v,by rwa[Uy]⟩ ⟨by rw[Jq QD];exact i.1,by rw[Jq (by decide)];exact i.2.1,by rw[Uy];exact i.2.2⟩)
  have same:upd H a (xn a C aI)=H:=by
   funext b
   by_cases z:b=a;·rw[z,aM,l]
   ·rw[az z]
  rw[same] at J;exact⟨.aB,H,J,rfl,q⟩
 generalize f[0]=old;cases old<;>first|exact cb (cb fin)|exact mh (cb fin)|exact a7 (mh (cb (cb fin)))
def Zec{K:ae}:findCls K (.type "ValueError") (.type "type") "__init__"=O (.val (.builtin "ValueError.__init__")):=QJ
def Su{K:ae}:findIn K (.type "type") "__getattribute__"=O (O (.builtin "type.__getattribute__")):=QJ
def ZfD{K:ae}:subIn K (.type "type") (.type "type")=O ar:=QJ
def Sv:typeOf (.type "ValueError")=pure (.type "type"):=QJ
def ZgX:opaqueClassAbove (.type "ValueError")=pure aI:=QJ
def Zed:bootBuiltins "ValueError"=O (.type "ValueError"):=QK
def ZbJ{a:c6}{w:cD}{A:dO}{E:aR}{s:a8}{K:ae}{c:Sem bA}{Q:aV×Z aV->a8->Prop}(b:K.In s.heap)(z:Q (.builtin "ValueError.__init__",[]) {s with toks:=s.toks+1}):
  wpAny (model a w) A (getMethod (.type "ValueError") "__init__" c) Q E s:=by
 have d:Looks (model a w) s.heap (specialOf (.type "ValueError") "__getattribute__") (O (.builtin "type.__getattribute__")):=(Looks.of_pure Sv).andThen (looks_findIn b Su);unfold getMethod;refine a7 (d.here ?_);show wpAny _ _ (if(Manifest.canonical "type.__getattribute__" !="object.__getattribute__")=ar then _ else _) _ _ _;rw[br PySem.W.canon_tga];refine a7 (PySem.W.cls_open b (Looks.of_pure ZgX) (Looks.of_pure Sv) Su (Looks.of_pure rfl) ZfD Zec ?_);exact cb (PySem.W.handed_on rfl (cb z))
def ZcJ{i:Sem bA}(l:Gl X "ValueError")(k:X.mg "ValueError"=aI)(m:PA X (e::T) t)
  (n:iN X e T:=by rfl)(o:jk X pos T:=by rfl)
  (j:eval (.Call (.Attribute (.Name "ValueError" p) "__init__" W) (e::T) [] pos) X.env=(do
   let b←eval (.Name "ValueError" p) X.env
   standAt W.atName
   let(f,first)←holding [b] (getMethod b "__init__" i)
   callWith pos f first (backTo pos (starEach (e::T) X.env)) (backToKw pos (keywordEach [] X.env))):=by rfl):
  PE X (.Call (.Attribute (.Name "ValueError" p) "__init__" W) (e::T) [] pos) (oV (Ik X.K) t):=by
 intro a s c H Q I h;refine pz (pW I l k Zed ?_) j;refine ZbJ I.bM ?_;exact zc (aw (m pos a _ c H _ (I.tok _) h) λu v ⟨r,w,q,d,g⟩=>ZcI q d g) n o
end
def ZfE(C:U)(g:Sp)(h:Z V)(E:St->XK)(t:TA):TS:=λ_ b H=>t b H λc f=>c.length<=1000/\∀a,f a=aI->
 g (.ref a::(c++h)) (upd f a (xn a C aI)) (λv e=>v=.aB/\∃d,e a=O (xn a C (O d))/\E b (.ref C) (O d) (upd e a (xo a C (O d)))) E0
section
variable {X:Cx}{k:Nat}{f C:U}{Q:FuncData}{ps:Z af}{P:Sp}{R:Z V}{ds:Z aV}{E:St->XK}{x:af}{p pos T:Pos}{e:bZ}{W:Z bZ}{t:TA}
theorem ZcK(i:wx X.K C f)(F:aH X.prog X.w X.K X.mg X.base aO k f Q ps P)(hr:bK (k+1) X.A)(B:X.calm=ar)(hg:Gl X x)(hm:X.mg x=O (.ref C))(j:Binds X.K Q ps ds)(hd:Vals R ds)(hx:IU X E)(ha:PA X (e::W) t)
  (fL:(x==("__debug__":af))=aY:=by decide)(he:iN X e W:=by rfl)(bN:jk X T W:=by rfl):
  PS X (.Raise (O (.Call (.Name x p) (e::W) [] T)) aI pos) (ZfE C P R E t):=by
 intro w s σ H D I h;rw[arm_exec_Raise];refine a7 (gU ?_);show wpAny _ X.A (raiseStmt X.env (O (do let v←eval (.Call (.Name x p) (e::W) [] T) X.env;standAt pos;pure v)) aI) _ _ s;unfold raiseStmt;refine a7 (a7 ?_);refine kC (sJ I hg hm ?_ fL);refine mj (h₀:=X.base) I.ok.mod.ij i.kp (aw (ha T w s σ H _ I h) λA l zz=>?_) he bN;obtain⟨vs,H1,L,r,lim,q⟩:=zz;refine⟨L.bM,?_⟩;obtain⟨nm,qn,N,bs,bm,sn,sub,ab,col,dd,k0,k1,k2,k3,k5,lk⟩:=i.ng;have kc:=L.bM _ _ lk;have fr:H1 (l.heap.objs.size+1)=aI:=L.au.fresh (wV _);have hq:=q (l.heap.objs.size+1) fr;have r2:Vals (V.ref (l.heap.objs.size+1)::(vs++R)) (Value.ref (l.heap.objs.size+1)::(A++ds)):=.cons rfl (r.append hd);have hl:((Value.ref (l.heap.objs.size+1)::A)++ds).length=ps.length:=by
  have z:=r2.length;rw[F.len _ _ _ _ hq] at z;exact z.symm
 have here:((l.heap.push {cls:=.type "tuple",data:=.seq A.toArray}).push {cls:=.ref C,data:=.fields #[.ref l.heap.objs.size,.none,.none,.none,.bool aY,.none]}).get? (l.heap.objs.size+1)=
   O {cls:=.ref C,data:=.fields #[.ref l.heap.objs.size,.none,.none,.none,.bool aY,.none]}:=by heap_get
 have up:∀b o,l.heap.get? b=O o->((l.heap.push {cls:=.type "tuple",data:=.seq A.toArray}).push {cls:=.ref C,data:=.fields #[.ref l.heap.objs.size,.none,.none,.none,.bool aY,.none]}).get? b=O o:=
  λb o z=>Yc _ (Yc _ z)
 have new:bY X.prog X.w (upd H1 (l.heap.objs.size+1) (xn (l.heap.objs.size+1) C aI)) _ (l.heap.objs.size+1) (xn (l.heap.objs.size+1) C aI):=IT (vs:=#[.ref l.heap.objs.size,.none,.none,.none,.bool aY,.none]) ⟨_,here,rfl,rfl,rfl,by show 1<6;decide⟩ ⟨rfl,rfl,rfl⟩;have I2:=L.laid (a:=l.heap.objs.size+1) (o:=xn (l.heap.objs.size+1) C aI) (t':=l.toks) up (wV _) new;have L1:=looks_findIn (M:=model X.prog X.w) L.bM i.init;have L2:=looks_typeIn (M:=model X.prog X.w) L.bM (beq_iff_eq.mp i.fn);have ul:A.length<=sizeLine:=by
  rw[←r.length,c7];exact ir lim (by decide)
 obtain⟨m,g1,d1,t1,o1⟩:=l;refine ZcF kc (yu lk i.mC) (yu lk i.kY) (yu lk i.uh) L1 L2 (je (i_ (F.run _ X.stack _ _ ⟨Value.ref (m.objs.size+1)::A,[]⟩ (Value.ref (m.objs.size+1)::(A++ds)) _ _ E0 (hr.make C A [])
  (I2.wj.make C A []) (j _ (Value.ref (m.objs.size+1)::A) I2.bM hl) r2 hq) λr s' kW=>?_)) ul
 cases r with
 |error _=>exact False.elim kW
 |ok fl=>
  cases fl with
  |next=>exact False.elim kW
  |brk=>exact False.elim kW
  |cont=>exact False.elim kW
  |ret u=>
   obtain⟨v,H',CV,G,un,au,rv,rfl,d,ea,kP⟩:=kW;obtain rfl:u=Value.none:=rv;refine⟨rfl,a7 (gU (cb ?_))⟩;obtain⟨ws,xr,w1,w2,_⟩:=Bz au ea;obtain⟨oe,e1,e2,e3,e4,e5⟩:=id xr;have I3:Inv X w σ H' s':=I2.BO (ch:=[]) CV un au G λb z=>absurd z QS;have UD:=I3.bM _ _ lk;have zI:=yu lk i.zI;obtain⟨oc,od,UA,gS⟩:=oe;dsimp only at e2 e3 e4;subst e2 e3 e4;have xe:X.xe (.ref (m.objs.size+1)) s':=by
    refine hx w σ H1 ⟨m,g1,d1,t1,o1⟩ _ s' L ⟨m.objs.size+1,C,d,upd H' (m.objs.size+1) (xo (m.objs.size+1) C (O d)),ws,rfl,wV _,CV,G,?_,?_,aM,xr,⟨.inl w1,λ_=>w2⟩,kP⟩
    ·have J:Un (cC X.stack) [] H1 H' m s'.heap:=(Un.laid up (wV _) fr).trans un;have old:∀b o,m.get? b=O o->b≠m.objs.size+1:=λb o j=>Y2 (Wo (Yp j));have tk:∀b u,H1 b=O u->b≠m.objs.size+1:=λb u j z=>by rw[z,fr] at j;cases j
     exact⟨J.keep,J.slot,λb o j n x'=>by rw[az (old b o j)];exact J.free b o j n x',J.there,λb xs j=>by rw[az (tk b _ j)];exact J.gP b xs j,
      λb o u j=>by rw[az (tk b _ j)];exact J.ie b o u j,λb ps j=>by rw[az (tk b _ j)];exact J.ig b ps j⟩
    ·intro b o j;by_cases z:b=m.objs.size+1
     ·subst z;rw[aM] at j;cases j;exact Sl xr
     ·rw[az z] at j;have nz:∀c u,H' c=O u->(u=.own b\/∃xs,u=.tup xs)->c≠m.objs.size+1:=λc u B hu y=>by
       rw[y,ea] at B;cases B;rcases hu with hu|⟨xs,hu⟩<;>cases hu
      exact(au b o j).gO (λ_ _ _ g=>g) (λc B=>by rw[az (nz c _ B (.inl rfl))];exact B) λc xs B=>by rw[az (nz c _ B (.inr ⟨_,rfl⟩))];exact B
   have hh:=I.ok.hd B;obtain⟨h',g',d',t',o'⟩:=s';repeat (first|with_reducible refine i2 e1 ?_|with_reducible refine i2 UD ?_|(with_reducible refine lH UD ?_;rw[zI])|with_reducible refine k_ e1 rfl w1 ?_|wp_step)
   exact wpAny_raiseNew_none hh xe
end
abbrev Cx.hand(X:Cx)(a:U):Cx:={X with A:=X.A.mark (O (.ref a)),calm:=aY}
def Cx.Ok.hand{X:Cx}(b:X.Ok)(a:U):(X.hand a).Ok:=
 ⟨b.mod,b.kind,b.glob,b.blt,b.above,b.inj,b.has,b.uf,λz=>absurd (z) Yo,b.frames,b.wN,b.oO,b.bs,b.l9,b.tP,b.qe,b.jH,b.oP⟩
section
variable {X:Cx}{W:St}{H:Hp}{s:a8}
def Inv.hand(I:Inv X pins W H s)(a:U):Inv (X.hand a) pins W H s:=⟨I.ok.hand a,I.os,I.bare,I.base,I.loc,I.cell,I.free,I.ia,I.pin,I.au,I.len⟩
def Inv.ZfF(b:X.Ok)(I:Inv (X.hand a).oR pins W H s):Inv X pins W H s:=⟨b,I.os,I.bare,I.base,I.loc,I.cell,I.free,I.ia,I.pin,I.au,I.len⟩
def Inv.yH{a:aJ}{b:aR}{c:aJ}(d:X.Ok)(I:Inv {X with pn:=X.pn++a,xe:=b} c W H s):Inv X a W H s:=
 ⟨d,I.os,I.bare,I.base,I.loc,I.cell,I.free,I.ia,λp e=>I.pin p (Yk _ e),I.au,I.len⟩
def Inv.ZfG(I:Inv X a W H s):Inv {X with pn:=X.pn++a,xe:=c} [] W H s:=
 ⟨⟨I.ok.mod,I.ok.kind,I.ok.glob,I.ok.blt,I.ok.above,I.ok.inj,I.ok.has,I.ok.uf,I.ok.hd,I.ok.frames,I.ok.wN,I.ok.oO,I.ok.bs,I.ok.l9,I.ok.tP,I.ok.qe,I.ok.jH,I.ok.oP⟩,
  I.os,I.bare,I.base,I.loc,I.cell,I.free,I.ia,λp b=>I.pin p (by rw[Wh] at b;exact b),I.au,I.len⟩
theorem Inv.gone(I:Inv X pins W H s)(hN:X.N.Nodup)(hi:X.N[i]?=O n)(hn:s.heap.Ns X.env.locals m)
  (T:∀(i:Nat) (x:af) (v:V),X.N[i]?=O x->W[i]?=O (O v)->ue X.env.scope x->∃u,RelV v u/\Look X.env s.heap m x u)
  (R:G.Ns X.env.locals (λx=>if x=n then v else m x))(Q:Heap.SameBut X.env.locals s.heap G):Inv X pins (W.set i aI) H {s with heap:=G,toks:=t'}:=by
 have h:∀b o,X.b_.heap.get? b=O o->b≠X.env.locals:=λb o d z=>absurd (Yp (z▸d)) (wZ.mpr I.ok.above);have k:∀b o,b≠X.env.locals->s.heap.get? b=O o->G.get? b=O o:=λb o d E=>(Q.2 b d).trans E;have wM:∀b u,H b=O u->b≠X.env.locals:=λb u d z=>by rw[z,I.free] at d;cases d
 refine⟨I.ok,I.os,I.bare,⟨λb o e D f x=>k b o (h b o e) (I.base.keep b o e D f x),λb o e D f x=>?_,I.base.free,λb o e x=>?_,I.base.gP,I.base.ie,I.base.ig⟩,⟨_,R,λj x w N J e3=>?_⟩,λx c e=>?_,I.free,I.ia,λp hp=>?_,λb u d=>?_,?_⟩
 ·obtain⟨P,g⟩:=I.base.slot b o e D f x;exact⟨P,k b _ (h b o e) g⟩
 ·obtain⟨L,g⟩:=I.base.there b o e x;exact⟨L,k b L (h b o e) g⟩
 ·by_cases z:i=j
  ·subst z;have a:=J;rw[List.getElem?_set_self'] at a;cases q:W[i]? with
   |none=>rw[q] at a;cases a
   |some y=>rw[q] at a;cases a
  ·rw[Uc z] at J;obtain⟨u,r,l⟩:=T j x w N J e3;refine⟨u,r,?_⟩;have ne:x≠n:=λy=>z (GR hN hi (y▸N));rcases l with⟨C,B⟩|⟨C,c,B,⟨o,t,A⟩⟩
   ·refine .inl ⟨C,?_⟩;show(if x=n then v else m x)=O u;rwa[bb ne]
   ·exact .inr ⟨C,c,B,o,k c o (I.ny x c B) t,A⟩
 ·obtain⟨w,o,t,A⟩:=I.cell x c e;exact⟨w,o,k c o (I.ny x c e) t,A⟩
 ·obtain⟨C,B,t,A⟩:=I.pin p hp;exact⟨k p.1 p.2 t C,B,t,A⟩
 ·refine(I.au b u d).gO (λc o F E=>k c o ?_ E) (λ_ q=>q) λ_ _ q=>q;rcases F with rfl|F;·exact wM _ _ d
  ·exact wM _ _ F
 ·rw[Jh];exact I.len
end
section
variable {K:ae}
def ZbK(h:K.In s.heap)(G:dZ K B)(F:dZ K C)(j:gQ s.heap a C d H)(o:mroIn K C (.ref B)=O b)(z:Q b s):wpAny M A (excMatches (.ref a) (.ref B)) Q E s:=by
 obtain⟨R,q,N,bs,v,I,J,ab,w,dd,k0,k1,k2,k3,k5,l⟩:=G.ng;obtain⟨n,L,N',x,u,k,m,y,D,iV,l0,l1,X,W,T,e⟩:=F.ng;have g:=h _ _ l;have p:=h _ _ e;obtain⟨P,t,r,_⟩:=j;have i:=Sn B v (.type "BaseException") QD;have c:=yu e o;have f:=tc_notTuple;unfold excMatches;repeat (first|(with_reducible refine i2 t ?_;rw[r])|with_reducible refine i2 g ?_|(with_reducible refine lH g ?_;rw[i])|(with_reducible refine lH p ?_;rw[c])|wp_step)
 cases b<;>(wp_walk;exact z)
def Zee{l:Nat}(h:gQ s.heap a C d i)(m:wY l H s.heap i)(z:Q () s):wpAny M A (setFlight (.ref a) aI) Q E s:=by
 obtain⟨n,f,q,p,e,o⟩:=h;rcases m with y|⟨T,k,j,y,_,_,c,g,b⟩
 ·refine a7 (k_ f e y ?_);exact cb z
 ·refine a7 (k_ f e y ?_);refine oW c g (J3.mp b).1 ?_;have same:=Heap.update_setField_same s.heap T k j 3 Value.none c g b;simp_all
end
def hX(K:ae)(B:U)(i:Nat)(g:TS)(D:Ends):St->XK:=λf c o H=>∃C d,c=.ref C/\o=O d/\dZ K C/\mroIn K C (.ref B)=O ar/\
 ∀a,H a=O (xo a C (O d))->g {nx:=λb e=>D.nx (b.set i aI) e,rt:=D.rt,bk:=λb e=>D.bk (b.set i aI) e,ct:=λb e=>D.ct (b.set i aI) e} (f.set i (O (.ref a))) H
section
variable {X:Cx}{B:U}{i:Nat}{n x:af}{W R:Z bS}{T:bS}{L N pos:Pos}{G:(St->XK)->TS}{P:TS}
theorem ZfH{b:bA}(y:X.stack=X.env::X.outer/\X.env.frame=O X.env.locals)(hN:X.N.Nodup)(hi:X.N[i]?=O n)(hl:X.env.scope.names.lookup n=O .local)(hg:Gl X x)(hm:X.mg x=O (.ref B))(XB:dZ X.K B)
  (hb:∀pn t E,tH b {X with pn:=pn,xe:=t} E->PassesOwn X.md X.A X.env t->fR {X with pn:=pn,xe:=t} W (G E))
  (hh:∀a,fR (X.hand a).oR (T::R) P)(fL:(x==("__debug__":af))=aY:=by decide):
  PS X (.Try W [.ExceptHandler (O (.Name x L)) (O n) (T::R) N] [] [] pos) (λD F H=>G (hX X.K B i P D) D F H):=by
 intro c s F H D I h;refine a7 (gU (wpAny_tryStmt_except ?_));let t:aV->a8->Prop:=λe A=>wpAny X.md X.A (noteFrame e X.env) (λ_ s2=>wpAny X.md X.A (setFlight e aI) (λ_ s3=>wpAny X.md X.A (handleBy e X.env [.ExceptHandler (O (.Name x L)) (O n) (T::R) N]) (SP X c D) X.xe s3) X.xe s2) X.xe A;have px':tH b {X with pn:=X.pn++c,xe:=t} (hX X.K B i P D):=by
  intro IP l H1 A e s' I' cx;have st:X.A.frames=O (X.env::X.outer):=by exact y.1▸I.ok.frames
  have f1:A.heap.FunFrames X.base (X.env::X.outer):=by exact y.1▸I'.stack
  have f2:∀b∈cC (X.env::X.outer),H1 b=aI:=by exact y.1▸I'.Bf
  refine PR st f1 f2 y.2 (by rwa[←y.1]) λs3 c3=>?_;rw[←y.1] at c3;obtain⟨a,C,d,o,vs,rfl,lo,J,ea,xr,⟨fl,_⟩,C',d',ec,ed,XC,mt,q⟩:=I'.Rq c3;cases ec;cases ed;have J2:=J.yH I.ok;refine wpAny_handleBy_cons (codeAny_handlers_test (sJ (J2.hand a) hg hm (ZbK J2.bM XB XC xr mt (codeAny_handlers_suite_as (Zee xr fl (A3 (v:=.ref a) J2 hN hi (.inl hl) rfl (λs4 J4=>cW (hh a c s4 _ _ _ ((J4.hand a).kP _) (q a ea)) (λf s5 z=>?_) λ _ _=>False.elim) (.inr hl))))) fL)) (by intro z;cases z);have fin:∀{p:St} {r:Hp},Inv (X.hand a).oR c p r s5->∀Q:Unit->a8->Prop,(∀w,Inv X c (p.set i aI) r w->Q () w)->wpAny X.md X.A (do bindName X.env n .none;unbindBehindTheSuite X.env n N) Q X.xe s5:=by
   intro p r j Q k;have g:=Inv.ZfF I.ok j;obtain⟨m,hn,lk⟩:=g.loc;refine wpAny_nameGoes_keeps (hl) hn (by rw[I.ok.kind];rfl) λh' v n2 sb=>k _ (g.gone hN hi hn lk n2 sb)
  cases f with
  |next=>
   obtain⟨p,r,j,z⟩:=z;exact fin j _ λw g=>⟨_,_,g,z⟩
  |brk=>
   obtain⟨p,r,j,z⟩:=z;exact fin j _ λw g=>⟨_,_,g,z⟩
  |cont=>
   obtain⟨p,r,j,z⟩:=z;exact fin j _ λw g=>⟨_,_,g,z⟩
  |ret u=>
   obtain⟨v,p,r,j,rv,z⟩:=z;exact fin j _ λw g=>⟨_,_,_,g,rv,z⟩
 refine cW (hb _ t _ px' (PassesOwn.looking) [] s F H D I.ZfG h) (λf A z=>?_) λ_ _ z=>z;cases f with
 |next=>
  obtain⟨l,o,J,q⟩:=z;exact cb ⟨l,o,J.yH I.ok,q⟩
 |brk=>
  obtain⟨l,o,J,q⟩:=z;exact⟨l,o,J.yH I.ok,q⟩
 |cont=>
  obtain⟨l,o,J,q⟩:=z;exact⟨l,o,J.yH I.ok,q⟩
 |ret u=>
  obtain⟨v,l,o,J,rv,q⟩:=z;exact⟨v,l,o,J.yH I.ok,rv,q⟩
end
def ZhT(K:ae)(e:TE):TE:=λd H Q=>e d H λx c=>(∃y:af,x=.str y/\y.length<=sizeLine/\Q (.str y) c)\/(∃i:Int,x=.int i/\i.natAbs.log2<1920/\Q (.str (toString i)) c)\/
 ∃(a:U) (b:Z Int),x=.ref a/\aK K c a (b.map V.int)/\(∀n∈b,n.natAbs.log2<1920)/\(PyData.tuple (b.map PyData.int)).shown.length<=sizeLine/\Q (.str (PyData.tuple (b.map PyData.int)).shown) c
theorem ZaO{b:Z Int}:∀{a:Z aV},Vals (b.map V.int) a->∃as,ReadsAll h a (b.map PyData.int) as:=by
 induction b with
 |nil=>intro a r;cases r;exact⟨[],.nil⟩
 |cons n r e=>
  intro a q;cases q with
  |cons d c=>
   obtain⟨t,rfl⟩:=d;obtain⟨as,z⟩:=e c;exact⟨_,.cons (.int n t) z⟩
theorem ZbL{a:Z Int}(h:∀n∈a,n.natAbs.log2<1920):PyData.showableAll (a.map PyData.int)=ar:=by
 induction a with
 |nil=>rfl
 |cons n r b=>
  show(decide (n.natAbs.log2<1920)&&PyData.showableAll (r.map PyData.int))=ar
  simp_all
theorem Z5(a:Z Int):PyData.hasDictAll (a.map PyData.int)=aY:=by
 induction a with
 |nil=>rfl
 |cons n r b=>exact b
theorem ZaP(a:Z Int):PyData.depthAll (a.map PyData.int)=0:=by
 induction a with
 |nil=>rfl
 |cons n r b=>
  show max (PyData.int n).depth (PyData.depthAll (r.map PyData.int))=0;rw[b];rfl
def Rw(m:bK j X.A)(J:PE X e w):PE X (.FormattedValue e (-1) aI pos) (ZhT X.K w):=by
 intro b s p H Q I h;refine wpAny_FormattedValue_plain (aw (J b s p H _ I h) λu N v=>?_);obtain⟨x,d,c,f,q⟩:=v;rcases q with⟨y,rfl,D,q⟩|⟨i,rfl,E,q⟩|⟨a,k,rfl,G,A,sz,q⟩
 ·obtain⟨t,rfl⟩:=f;exact wpAny_formatField_str ⟨.str y,d,c,⟨t,rfl⟩,q⟩ ⟨.str y,d,c.tok _,⟨_,rfl⟩,q⟩ D
 ·obtain⟨t,rfl⟩:=f;exact wpAny_formatField_int E ⟨.str (toString i),d,c.tok _,⟨_,rfl⟩,q⟩
 ·obtain rfl:u=Value.ref a:=f;obtain⟨ah,r,⟨o,g,C,n,B⟩,R⟩:=c.tuple G;obtain⟨W,P⟩:=ZaO r;refine formatField_of_reads (.tuple g C B (by rwa[CZ])) (ZbL A) (λz=>?_) m.gd ?_ (λ_ _ z=>z) (λT u L F=>⟨.str (PyData.tuple (k.map PyData.int)).shown,d,c.kept F,⟨u,rfl⟩,q⟩) sz
  ·have l:PyData.hasDictAll (k.map PyData.int)=ar:=z;rw[Z5] at l;cases l
  ·show X.A.units+(PyData.depthAll (k.map PyData.int)+1+2)<cLine;rw[ZaP];have:=m.un;omega
abbrev TJ:=af->St->Hp->(af->Hp->Prop)->Prop
def PJ(X:Cx)(f:Z bZ)(t:TJ):Prop:=
 ∀(a:aJ) (s:a8) (c:St) (H:Hp) (b:af) (R:af->Hp->Prop) (Q:af->a8->Prop),Inv X a c H s->t b c H R->(∀y d e,Inv X a c e d->R y e->Q y d)->PySem.Joins X.md X.A X.xe (evalEach f X.env) b Q s
def ZhU:TJ:=λa _ H R=>R a H
def ZgY(d:TE)(c:TJ):TJ:=λa b H R=>d b H λx e=>∃y,x=.str y/\(a++y).length<=sizeLine/\c (a++y) b e R
def ZgZ(t:TJ):TE:=λa H Q=>t Str.empty a H λy b=>y.length<=sizeLine/\Q (.str y) b
def ZfI:PJ X [] ZhU:=λ_ s _ H a _ _ I h k=>k a s H I h
def Ht(n:PE X e g)(m:PJ X p t):PJ X (e::p) (ZgY g t):=by
 intro a s c H b R Q I h k;refine aw (n a s c H _ I h) λu i d=>?_;obtain⟨x,v,r,j,y,o,l,q⟩:=d;subst o;obtain⟨f,rfl⟩:=j;exact⟨y,f,rfl,l,m a i c v (b++y) R Q r q k⟩
def Zef(h:PJ X (e::f::d) t):PE X (.JoinedStr (e::f::d) pos) (ZgZ t):=by
 intro a s b H Q I c;refine wpAny_JoinedStr (h a s b H Str.empty _ _ I c λy j i g ⟨l,q⟩=>⟨l,.str y,i,g.tok _,⟨_,rfl⟩,q⟩)
end L2
namespace L2
open PySem PySem.Spec PyProof.Rows
structure Bl(mg:aN):Prop where
 BX:mg "len"=aI
 Zg0:mg "abs"=aI
 yI:mg "list"=aI
 oy:mg "range"=aI
 vP:mg "tuple"=aI
 Zg1:mg "any"=aI
 IW:mg "all"=aI
 MU:mg "isinstance"=aI
 BA:mg "bool"=aI
 IX:mg "int"=aI
 yT:mg "str"=aI
 vJ:mg "sorted"=aI
 IY:mg "min"=aI
 Zg2:mg "max"=aI
 ZjL:mg "sum"=aI
 ZjF:mg "dict"=aI
 Zju:mg "reversed"=aI
 Zx:mg "ValueError"=aI
def ZhV{K:ae}(a:X.calm=ar)(h:X.K=K):cU X (.builtin "any") (Td K):=h▸YM a
def Kb{K:ae}(a:X.calm=ar)(h:X.K=K):cU X (.builtin "all") (Te K):=h▸YN a
def sortedK{K:ae}(h:X.K=K):cU X (.builtin "sorted") (Hr K):=h▸M0
def rM{K:ae}(h:X.K=K):cE X (compareOp .In) (zA K aY):=h▸ZbC
def BB{K:ae}(h:X.K=K):cE X (compareOp .NotIn) (zA K ar):=h▸Zu
def PY{K:ae}(h:X.K=K):jo X (KN K):=h▸Zfs
structure za(K:ae)(x qual:af)(st:bS)(f:U)(fd:FuncData):Prop where
 ex:∃(oc:aV) (od:bt U) (dV kV doc pm:aV) (an:bt U) (aU ct:aV) (gS:cw (bt aV)),
  fd=fnOf x qual (kI st) (gw st) (aL st) dV kV doc pm an aU ct/\K.lookup f=O ⟨oc,od,.func fd,gS⟩/\codeIn K aU qual=ar
 kp:keepIn K (.ref f)=ar
section
variable {P:c6}{w:cD}{K:ae}{mg:aN}{X:cm}
def za.ok{x c:af}{e:bS}{f:U}{l:FuncData}{N i:Z af}{k:Nat}{sp:Sp}(F:za K x c e f l)(a:aS N i (aL e))(j:∀d H Q E,sp d H Q E->d.length=i.length)
  (n:∀(g:aV) (A:dO) (b:Z Env) (s:a8) (H:Hp) (d:Z V) (Q:VK) (E:XK),bK k (A.deeper (envOfC c (aL e) s.heap.objs.size f g))->sp d H Q E->
   ∃t,fR (iG aO P w K mg X N c (aL e) f g A b s H E).oR (gw e) t/\t {nx:=λ_ v=>Q .aB v,rt:=Q} (start N d) H):aH P w K mg X aO (k+1) f l i sp:=by
 obtain⟨B,z,D,kV,u,y,I,g,G,C,rfl,m,r⟩:=F.ex;refine BU m r a j λA b s H d Q E p o=>?_;obtain⟨t,h,q⟩:=n g A b s H d Q E p o;exact⟨t,h.oR,q⟩
end
def Rx{K:ae}:kitOne K (.type "int") (.type "int")=O ar:=QJ
def Il{K:ae}:kitOne K (.type "int") (.type "bool")=O aY:=QJ
def Ry{K:ae}:kitOne K (.type "bool") (.type "bool")=O ar:=QJ
def ZfJ{K:ae}:kitOne K (.type "str") (.type "bool")=O aY:=QJ
def ZfK{K:ae}:kitOne K (.type "str") (.type "int")=O aY:=QJ
def Rz{K:ae}:kitOne K (.type "str") (.type "str")=O ar:=QJ
def ZfL{K:ae}:kitOne K (.type "list") (.type "bool")=O aY:=QJ
def ZfM{K:ae}:kitOne K (.type "list") (.type "int")=O aY:=QJ
def ZfN{K:ae}:kitOne K (.type "list") (.type "str")=O aY:=QJ
def ZfO{K:ae}:kitOne K (.type "list") (.type "list")=O ar:=QJ
def ZfP{K:ae}:kitOne K (.type "list") (.type "tuple")=O aY:=QJ
def ZfQ{K:ae}:kitOne K (.type "tuple") (.type "bool")=O aY:=QJ
def ZfR{K:ae}:kitOne K (.type "tuple") (.type "int")=O aY:=QJ
def ZfS{K:ae}:kitOne K (.type "tuple") (.type "str")=O aY:=QJ
def ZfT{K:ae}:kitOne K (.type "tuple") (.type "list")=O aY:=QJ
def ZfU{K:ae}:kitOne K (.type "tuple") (.type "tuple")=O ar:=QJ
def ZbM(a:Z Int)(o:bt Int):(a++o.toList).map V.int=a.map V.int++o.toList.map V.int:=QS
inductive Dt where
 |aB|bl (b:bA)|int (i:Int)|str (x:af)|lst (ds:List Dt)|tup (ds:List Dt)
def At(H:Hp):Nat->V->Dt->Prop
 |_,v,.aB=>v=.aB
 |_,v,.bl b=>v=.bl b
 |_,v,.int i=>v=.int i
 |_,v,.str x=>v=.str x
 |0,_,.lst _=>False
 |0,_,.tup _=>False
 |m+1,v,.lst ds=>∃a c,v=.ref a/\H a=O (.lst c)/\ds.length<=1000/\Paired (At H m) c ds
 |m+1,v,.tup ds=>∃a c,v=.ref a/\H a=O (.tup c)/\ds.length<=1000/\Paired (At H m) c ds
theorem At.same(g:aq H j):∀{m:Nat} {v:V} {d:Dt},At H m v d->At j m v d
 |_,_,.aB,h=>by unfold At at h⊢;exact h
 |_,_,.bl _,h=>by unfold At at h⊢;exact h
 |_,_,.int _,h=>by unfold At at h⊢;exact h
 |_,_,.str _,h=>by unfold At at h⊢;exact h
 |0,_,.lst _,h=>by unfold At at h;exact h.elim
 |0,_,.tup _,h=>by unfold At at h;exact h.elim
 |m+1,_,.lst _,h=>by
  obtain⟨a,b,e,i,f,c⟩:=h;exact⟨a,b,e,g _ _ i,f,L2.Paired.aW c λ _ _=>At.same g⟩
 |m+1,_,.tup _,h=>by
  obtain⟨a,b,e,i,f,c⟩:=h;exact⟨a,b,e,g _ _ i,f,L2.Paired.aW c λ _ _=>At.same g⟩
def Zg3(b:bA):At H m (.bl b) (.bl b):=by unfold At;rfl
def ZfV(i:Int):At H m (.int i) (.int i):=by unfold At;rfl
def Im(x:af):At H m (.str x) (.str x):=by unfold At;rfl
def RA(h:H a=O (.tup xs))(l:ds.length<=1000)(p:Paired (At H m) xs ds):At H (m+1) (.ref a) (.tup ds):=by unfold At;exact⟨a,xs,rfl,h,l,p⟩
def BC(h:H a=O (.lst xs))(l:ds.length<=1000)(p:Paired (At H m) xs ds):At H (m+1) (.ref a) (.lst ds):=by unfold At;exact⟨a,xs,rfl,h,l,p⟩
theorem kF:∀{b:Z α} {a:Z β} {i:Nat} {x:α},Paired F b a->b[i]?=O x->∃y,a[i]?=O y/\F x y:=by
 intro b a i x h;induction h generalizing i with
 |nil=>intro e;simp at e
 |cons r t c=>
  intro e;cases i with
  |zero=>
   have e:=Yr (by simpa using e);subst e;exact⟨_,rfl,r⟩
  |succ i=>
   obtain⟨y,f,d⟩:=c (by simpa using e);exact⟨y,by simpa using f,d⟩
theorem dC:∀{b:Z α} {a:Z β},Paired F b a->b.length=a.length:=by
 intro b a h;induction h with
 |nil=>rfl
 |cons _ _ c=>rw[Wm,Wm,c]
def OM{i:Nat}(h:xs[i]?=O x):fM xs (0+(i:Int))=O x:=by
 rw[show(0:Int)+(i:Int)=(i:Int) from by omega];exact eA h
def XP(H:Hp)(C:U)(c:af)(E:XK):Prop:=∀(a d:U) (b:Hp),H a=aI->H d=aI->aq H b->b a=O (xo a C (O d))->b d=O (xq d [("word",.str c)])->E (.ref C) (O d) b
def wx.of{K:ae}(x:dZ K C)(a:PySem.W.findIn K (.ref C) "__init__"=O (O (.ref f)))(m:isFn K (.ref f)=ar)(e:keepIn K (.ref C)=ar):wx K C f:=by
 obtain⟨d,q,N,bs,s,c,sub,p,b,o,k,j,i,h,g,l⟩:=id x.ng;have no:∀n:String,qh.contains (.type n)=aY->PySem.W.mroIn K C (.type n)=O aY:=λn r=>by
  unfold PySem.W.mroIn PySem.W.clsIn
  simp_all
 exact⟨⟨d,q,N,bs,_,c,sub,p,b,o,k,j,i,h,g,l⟩,x.mro _ QD,x.mro _ QD,no _ QD,no _ QD,a,m,e⟩
def ON{K:ae}(C:U):kitOne K (.ref C) (.ref C)=O ar:=by unfold kitOne;rw[br (beq_self_eq_true _)]
def Zeg:Z V->Hp->VK->Prop:=λa H Q=>∃(p:U) (n:Nat),a=[.ref p]/\H p=O (.nv 0 (n:Int))/\n<=1000/\∀l:U,H l=aI->Q (.ref l) (upd H l (.tup ((aE n).map V.int)))
section
variable {X:c6}{w:cD}{A:dO}{E:aR}{s:a8}
theorem Z6{Q:Z aV->a8->Prop}{r:U}{n:Nat}{t u v:Tok}(F:A.handled=aI)(l:IsRange s.heap r 0 (n:Int) 1 t u v)(D:n<=1000)
  (k:∀g h (d:cw aV),(∀b o,s.heap.get? b=O o->g.get? b=O o)->ItemsOf (λi v=>∃t,v=.int (0+i*1) t) d n->Q d.toList {s with heap:=g,toks:=h}):
  wpAny (model X w) A (collect (.ref r)) Q E s:=by
 refine a7 (wpAny_runValue (oA PySem.F.entry_proto_collect (a7 (l5 (cb ⟨px PySem.F.plain_list_iadd _,oA PySem.F.entry_list_iadd ?_⟩)))));have y:∀s':a8,(∃(g:cm) (h:Nat) (d:cw aV) (c:Nat),s'={s with heap:=g,toks:=h}/\(∀b o,b≠s.heap.objs.size->(s.heap.push {cls:=.type "list",data:=.seq ([]:Z aV).toArray}).get? b=O o->g.get? b=O o)/\
   g.get? s.heap.objs.size=O {cls:=.type "list",dict:=aI,data:=.seq d c,slots:=#[]}/\ItemsOf (λi v=>∃t,v=.int (0+i*1) t) d n)->
   wpAny (model X w) A (match Value.ref s.heap.objs.size with
    |Value.ref a=>do
     match(←load a).data with
      |Data.seq xs _=>pure xs.toList
      |_=>unsupported "internal:collect"
    |_=>unsupported "internal:collect") Q E s':=by
  rintro s' ⟨g,h,d,c,rfl,j,here,m⟩;exact a7 (wpAny_load here (cb (k g h d (λb o p=>j b o (Y2 (Yp p)) (Yc _ p)) m)))
 refine cW (wpAny_extend_range (s:={s with heap:=s.heap.push {cls:=.type "list",data:=.seq ([]:Z aV).toArray}})
  (R:=λr s'=>r=.ok (.ret (.ref s.heap.objs.size))/\∃(g:cm) (h:Nat) (d:cw aV) (c:Nat),s'={s with heap:=g,toks:=h}/\(∀b o,b≠s.heap.objs.size->(s.heap.push {cls:=.type "list",data:=.seq ([]:Z aV).toArray}).get? b=O o->g.get? b=O o)/\
   g.get? s.heap.objs.size=O {cls:=.type "list",dict:=aI,data:=.seq d c,slots:=#[]}/\ItemsOf (λi v=>∃t,v=.int (0+i*1) t) d n)
  F (Yc _ l) (wh (by decide) (by decide) QO QO) (by rw[vi];split<;>omega) (d4 D (by decide)) _ _ 0 (Yn _ rfl) λg h d c j here m=>⟨rfl,g,h,d,c,rfl,j,here,m⟩) (λfin s' z=>?_) λe s' z=>?_
 ·cases fin with
  |done f=>obtain⟨q,x⟩:=z;cases q;exact y _ x
  |again G=>exact⟨z.1,i_ z.2 λr B l=>by obtain⟨rfl,C⟩:=l;exact y B C⟩
 ·cases z.1
def Zeh(r:U)(n:Nat)(t u v:Tok)(y:n<=1000):
  Meets (Builtin.«tuple.__new__» ⟨[.type "tuple",.ref r],[]⟩) (λA R s=>A.handled=aI/\IsRange s.heap r 0 (n:Int) 1 t u v/\∀(a:cm) (f:Nat) (acc:cw aV),(∀b o,s.heap.get? b=O o->a.get? b=O o)->ItemsOf (λi v=>∃t,v=.int (0+i*1) t) acc n->
   R (.ok (.ret (.ref a.objs.size))) {s with heap:=a.push {cls:=.type "tuple",data:=.seq acc},toks:=f}):=
 .of_wp λX w A R s h=>by
  obtain⟨C,g,d,f,os⟩:=s;obtain⟨z,j,q⟩:=h;have sub:=sub_tuple_self;have x:=init_tuple_lookup;have B:=madeHere_tuple;have c:A.in1.handled=aI:=z
  wp_walk using PySem.AutoSeq1.wpAny_loadPart' j,wpAny_typeOf ty,Z6 (A:=A.in1) c j y
  intro a l acc p k;show wpAny _ _ (Builtin.Tuple.tupleExact acc.toList.toArray>>=λv=>ret v) _ _ _;unfold Builtin.Tuple.tupleExact;have m:acc.toList.toArray.size<=sizeLine:=by
   have e:=k.1;rw[c7];simp;exact ir (tr e) (ir y (by decide))
  refine a7 (l5 (cb ⟨_,rfl,?_⟩) m);have e:acc.toList.toArray=acc:=QS
  exact e▸q a l acc p k
end
def ML(E:X.calm=ar):cU X (.type "tuple") Zeg:=by
 intro c s m H L N Q I r h;obtain⟨p,n,rfl,B,j,q⟩:=h;obtain⟨u,rfl,z⟩:=vals1 r;cases z;obtain⟨t,u,v,C⟩:=I.au p _ B;refine callType_new PySem.F.called_tuple QD (PySem.F.typeCall_tuple_1 _) (PySem.F.newCall_tuple_1 _) (λe=>PySem.F.args_object_init_2 e _) PySem.F.entry_tuple_new (Zeh p n t u v j) ⟨I.ok.hd E,C,λd g a A k=>⟨⟨_,Yn _ rfl,rfl⟩,?_⟩⟩;have l:=I.kept (t':=g) A;have w:Vals ((aE n).map V.int) a.toList:=by
  refine FA (by rw[Ya,fX];simp[k.1]) λi x u f G=>?_;obtain⟨y,rfl⟩:=k.2 i u (by simpa using G);have D:i<n:=by
   have:=(Yf.mp f).1;rw[Ya,fX] at this;exact this
  rw[Yi,lL D] at f;have F:=Yr f;subst F;exact⟨y,by rw[show(0:Int)+(i:Int)*1=(i:Int) by omega]⟩
 have J:Inv X c m (upd H d.objs.size (.tup ((aE n).map V.int))) {s with heap:=d.push {cls:=.type "tuple",data:=.seq a},toks:=g}:=
  l.laid (λ b o=>Yc _) (Yg _) (show bY X.prog X.w _ _ _ (.tup _) from⟨by rw[Ya,fX];exact Jz (mR j),a.toList,w,by simpa using oB.new d a⟩)
 exact⟨.ref d.objs.size,_,J,rfl,q _ (l.au.fresh (Yg _))⟩
inductive PZ(K:ae)(c:Z V)(H:Hp)(Q:VK):Prop
 |mk (a C:U) (b y:af) (k:c=[.ref a,.str b,.str y]) (j:H a=O (xn a C aI)) (i:dZ K C) (h:c9 K C "word") (g:b.length<=100) (f:y.length<=1000000) (e:∀d,H d=aI->d≠a->Q .aB (upd (upd H d (xq d [("word",.str b)])) a (xn a C (O d)))):PZ K c H Q
def Sx(K:ae):Sp:=λa H Q _=>PZ K a H Q
def Sy(b:af)(c:U):Sp:=λe H Q _=>∃(a:U) (y:af),e=[.ref a,.str y]/\H a=O (xn a c aI)/\y.length<=1000000/\
 ∀d,H d=aI->d≠a->Q .aB (upd (upd H d (xq d [("word",.str b)])) a (xn a c (O d)))
abbrev w8:Z af:=["self","why"]
def Io(P:c6)(w:cD)(K:ae)(b:aN)(a:cm)(x f:af)(c:U):Prop:=
 ∃d e,wx K c d/\aH P w K b a aO 2 d e w8 (Sy f c)/\Binds K e w8 []/\b x=O (.ref c)/\dZ K c/\c9 K c "word"
def tW(c:TE)(R:St->Hp->VK):TE:=λa H Q=>c a H (R a H)/\∀v b,R a H v b->Q v b
def PE.weak(h:PE X e d)(R:St->Hp->VK):PE X e (tW d R):=λa s b H Q I ⟨q,k⟩=>aw (h a s b H (R b H) I q) λ_ _ ⟨v,c,f,r,z⟩=>⟨v,c,f,r,k v c z⟩
def Zei(c:U)(b:af)(E:St->XK)(d:TE):TS:=λ_ a H=>d a H λv e=>∃y:af,v=.str y/\y.length<=1000000/\XP e c b (E a)
def ZbN{X:Cx}{j:Nat}{x i:af}{c:U}{E:St->XK}{e:bZ}{t:TE}{p k T:Pos}(h:Io X.prog X.w X.K X.mg X.base x i c)(J:bK j X.A)(L:3<=j)(Q:X.calm=ar)(N:Gl X x)(G:IU X E)(P:PE X e t)
  (R:(x==("__debug__":af))=aY:=by decide)(w:starEach [e] X.env=[(aY,eval e X.env)]:=by rfl):
  PS X (.Raise (O (.Call (.Name x p) [e] [] T)) aI k) (Zei c i E t):=by
 obtain⟨fi,fd,B,F,b,m,W,na⟩:=h;intro f s g H D I q;refine ZcK B F (J.mono L) Q N m b .nil G (aa (P.weak λg _ v r=>∃y:af,v=.str y/\y.length<=1000000/\XP r c i (E g)) ai w) R w rfl f s g H D I ⟨q,?_⟩;rintro v r ⟨y,rfl,C,A⟩;refine⟨by show 1<=1000;decide,λa u=>⟨a,y,rfl,aM,C,λd hd l=>⟨rfl,d,aM,?_⟩⟩⟩;have z:r d=aI:=by rw[az l] at hd;exact hd
 refine A a d _ u z (λb o e=>?_) aM ?_
 ·have n:=bW e u;rwa[az n,az n,az (bW e z),az n]
 ·rw[az l,az l,aM]
def ZcL{K:ae}(h:X.K=K):cU X (.builtin "isinstance") (Ss K):=h▸Zw
def ZcM{X:Cx}{K:ae}{e:bZ}{b:TE}{f:af}{a:Pos}(h:X.K=K)(c:PE X e b)(d:attributeBase e f X.env (eval e X.env)=eval e X.env:=by rfl):PE X (.Attribute e f a) (Sr K b f):=h▸Zeb c d
end L2
namespace L2
open PySem PySem.Spec PyProof.Rows
open PySem.W (Looks InstAt looks_findIn looks_typeIn looks_clsIn looks_mroIn looks_find findObj findIn mroIn clsIn)
def Ip{X:Cx}{k j:Nat}{m:af}{C:U}{n:Z af}{l:Sp}{E:St->XK}{a d:Pos}{o e:bZ}{es:Z bZ}{t:TA}{i:TE}{q:Sem bA}(h:∃f g,gn X.K C/\Meth X.K C m f/\aH X.prog X.w X.K X.mg X.base (nH X.prog X.w) k f g n l/\Binds X.K g n [])(u:bK j X.A)(x:k<=j)(r:IU X E)(v:PE X o i)(y:PA X (e::es) t)
  (z:iN X e es:=by rfl)(A:jk X a es:=by rfl)
  (s:eval (.Call (.Attribute o m d) (e::es) [] a) X.env=(do
   let p←eval o X.env
   standAt d.atName
   let(f,first)←holding [p] (getMethod p m q)
   callWith a f first (backTo a (starEach (e::es) X.env)) (backToKw a (keywordEach [] X.env))):=by rfl):
  PE X (.Call (.Attribute o m d) (e::es) [] a) (Rt C m l E i t):=by
 obtain⟨f,g,c,w,F,b⟩:=h;exact ZcC v c w F (u.mono x) b r y z A s
end L2
namespace K3
open L2
def Nj(n:Nat):(aE n).Nodup:=by
 exact nN _ (λa b h e=>h (km e)) UE
end K3
namespace L2
open PySem PySem.Spec PyProof.Rows
def Row(K:ae)(H:Hp)(p:U)(a:Z Int):Prop:=aj K H p (a.map V.int)\/aK K H p (a.map V.int)
def Row.same{K:ae}(e:aq H a)(h:Row K H p ns):Row K a p ns:=by
 rcases h with h|h;·exact .inl (e.seq h)
 ·exact .inr (e.kZ h)
def full(a:Z Int):bA:=decide (a.Perm (aE a.length))
def qQ(h:full ns=ar):ns.Perm (aE ns.length):=dm h
def qV(h:ns.Perm (aE n)):full ns=ar:=c_ (by rwa[h.length_eq,fX])
def Z7(n:Nat):(aE n).Pairwise (·<=·):=by
 unfold aE;rw[W5];exact List.pairwise_lt_range.imp λh=>QO
theorem Nk:∀{c bs:Z Int},c.Perm bs->c.Pairwise (·<=·)->bs.Pairwise (·<=·)->c=bs
 |[],bs,p,_,_=>by
  simp_all
 |a::c,[],p,_,_=>by
  simp_all
 |a::c,b::bs,p,f,d=>by
  rw[List.pairwise_cons] at f d;have e:a=b:=by
   have h:=p.subset Yj;have g:=p.symm.subset Yj
   grind
  subst e;rw[Nk (List.Perm.cons_inv p) f.2 d.2]
def Z8(p:a.Perm ns)(h:a.Pairwise (·<=·)):decide (a=aE ns.length)=full ns:=by
 unfold full;rw[Wu,fb,fb];constructor;·grind
 ·intro q;exact Nk (p.trans q) h (Z7 _)
def Sz(K:ae)(a:bA)(b:TE):TE:=nB (Tg K a) (oV (Hr K) (jB b jZ)) (oV OJ (jB (oV PM (jB (oV (Cj K) (jB b jZ)) jZ)) jZ))
def ZcN{K:ae}(c:σ[i]?=O (O (.ref p)))(d:Row K H p ns)(m:ns.length<64)(q:∀g,aq H g->Q (.bl (if neg=ar then !full ns else full ns)) g):
   (Sz K neg (m8 i)) σ H Q:=by
 refine⟨_,c,p,ns,rfl,d,m,λl f k j h=>?_⟩;have e:aq H (upd H l (.lst (f.map V.int))):=cY k _;refine⟨_,c,p,ns.map V.int,rfl,Row.same e d,_,rfl,λr a=>⟨r,(ns.map V.int).length,rfl,aM,by rw[Ya];omega,λu b=>?_⟩⟩;have n:=(e.trans (cY a (.nv 0 (((ns.map V.int).length:Nat):Int)))).trans (cY b (.lst ((aE (ns.map V.int).length).map V.int)));refine⟨l,u,f,aE (ns.map V.int).length,rfl,rfl,aj.of ?_,aj.of aM,?_⟩
 ·rw[az (bW ((cY a _) _ _ aM) b)];exact(cY a _) _ _ aM
 ·rw[Ya,Z8 j h]
  simp_all
theorem any_false(n:Nat):(List.replicate n aY).any id=aY:=by
 induction n with
 |zero=>rfl
 |succ n a=>simp_all
section
open PySem.AutoSeq1 (wpAny_loadPart')
open PySem.MeetsSeq PySem.SeqAt
def Y_(l:U)(a:cw aV)(n:Nat)(I:bt U)(B:cw (bt aV))(x:aV)(e:aV->bA)(j:Nat)(E:j<a.size)
  (p:e a[j]=ar)(J:∀m (L:m<a.size),m<j->e a[m]=aY):
  Meets (Builtin.«tuple.index» ⟨[.ref l,x],[]⟩)
   (λA R s=>s.heap.get? l=O {cls:=.type "tuple",dict:=I,data:=.seq a n,slots:=B}/\(∀y,y∈a->EqAt A.in1 s y x (e y))/\R (.ok (.ret (.int j s.toks))) {s with toks:=s.toks+1}):=
 .of_wp λf w A R s h=>by
  obtain⟨C,g,d,v,os⟩:=s;obtain⟨D,F,h⟩:=h
  wp_walk using wpAny_loadPart' D
  show wpAny _ _ (forIn (m:=Sem) [:min a.size a.size] (aI,()) _) _ _ _;rw[Std.Legacy.Range.forIn_eq_forIn_range'];refine wpAny_forIn_list _ (λc b r=>r=⟨C,g,d,v,os⟩/\∃i,i<=j/\c=List.range' i (a.size-i)) _ ?_ ?_ _ _ ⟨rfl,0,Yx _,QS⟩
  ·rintro k c b r ⟨rfl,i,u,t⟩;have q:i<a.size:=(sq u E)
   obtain⟨rfl,z⟩:k=i/\c=List.range' (i+1) (a.size-(i+1)):=by
    have e:a.size-i=(a.size-(i+1))+1:=QO
    rw[e,Lx] at t;injection t with H G;exact⟨H,G⟩
   rw[W7 q];refine a7 (F _ (Lf q) f w _ _ ?_);rcases Nat.lt_or_ge k j with o|o
   ·rw[J k q o]
    wp_walk
    exact⟨rfl,k+1,(gb o),z⟩
   ·obtain rfl:k=j:=(eL u o)
    rw[p]
    wp_walk
    exact⟨_,rfl,h⟩
  ·(simp;omega)
end
def ZfW(f:TE)(t:TA):TE:=λb H Q=>f b H λx d=>∃(p:U) (a:Z Int),x=.ref p/\d p=O (.tup (a.map V.int))/\t b d λe c=>∃(z:Int) (j:Nat),e=[.int z]/\c p=O (.tup (a.map V.int))/\a[j]?=O z/\(∀m,m<j->a[m]?≠O z)/\Q (.int (j:Int)) c
theorem Za:∀{b:Z Int} {a:Z aV} {j:Nat} (h:j<a.length),Vals (b.map V.int) a->∃n t,b[j]?=O n/\a[j]=.int n t:=by
 intro b;induction b with
 |nil=>intro a j h r;cases r;simp at h
 |cons n b e=>
  intro a j h r;rw[Wv] at r;cases r with
  |cons r t=>
   cases j with
   |zero=>
    obtain⟨c,rfl⟩:=r;exact⟨n,c,rfl,rfl⟩
   |succ j=>
    obtain⟨d,c,g,f⟩:=e (by simpa using h) t;exact⟨d,c,by simpa using g,by simpa using f⟩
theorem ZbO(a:Z Int):(a.map V.int).all jD=ar:=by
 induction a with
 |nil=>rfl
 |cons n a b=>rw[Wv,Jt,b];rfl
def Z9(ho:PE X o to)(ha:PA X [e] t)
  (mZ:attributeBase o "index" X.env (eval o X.env)=eval o X.env:=by rfl)
  (JX:((backTo k (starEach [e] X.env)).all (λx=>!x.1)&&(backToKw k (keywordEach [] X.env)).all (λx=>x.1.isSome)
   &&decide ([e].length+([]:Z Keyword).length+(if([]:Z Keyword).isEmpty then 0 else 1)<30))=ar:=by rfl)
  (m5:(apos.endLine==k.line)=ar:=by rfl)(hs:starEach [e] X.env=(aY,eval e X.env)::starEach [] X.env:=by rfl):
  PE X (.Call (.Attribute o "index" apos) [e] [] k) (ZfW to t):=by
 intro b s q H Q I h;refine zT mZ JX m5 rfl (aw (ho b s q H _ I h) λv w l=>?_);obtain⟨x,R,P,r1,p,f,ex,hp,q1⟩:=l;subst ex;obtain rfl:v=Value.ref p:=r1;obtain⟨_,_,_,A,g,oc,_,_,od⟩:=(show bY X.prog X.w R w.heap p (.tup (f.map V.int)) from P.au p _ hp);refine⟨"tuple","tuple.index",F.plainAttrs_tuple,Dx,F.type_tuple_index,⟨A,g,oc⟩,λa ea=>by cases ea;exact⟨A,g,od⟩,?_⟩;have E:=ha k b w q R _ P q1;rw[hs] at E⊢;refine kA rfl (nO ?_);refine aw E λus s2 l=>?_;obtain⟨vs,H2,N,r2,z,j,ev,eP,D,K4,q2⟩:=l;subst ev;obtain⟨u,rfl,ru⟩:=r2.one;obtain⟨r,rfl⟩:=ru;obtain⟨_,d,n,⟨cls,dd,J,W⟩,G,L,n2,T,_⟩:=(N.au p _ eP);simp only at L T;subst L T;have c:d.length=f.length:=by have:=n.length;rw[Ya] at this;exact kh this
 have UH:j<d.length:=by exact c▸(Yf.mp D).1
 have C:∀m (i:m<d.length),iQ (.int z) d[m]=decide (f[m]?=O z):=λm i=>by
  obtain⟨B,t',e1,e2⟩:=Za i n;rw[e1,e2];show(B==z)=decide (O B=O z)
  grind
 refine r8 Dx ⟨_,G,rfl⟩ F.entry_tuple_index (F.args_tuple_index_2 _ _) (Y_ p d.toArray n2 dd W (.int z r) (iQ (.int z)) j (by rwa[Yw]) ?_ ?_) ⟨G,?_,?_⟩;·rw[CN,C j UH];exact c_ D
 ·intro m i bf;rw[CN,C m (by simpa using i)];exact eJ (K4 m bf)
 ·intro y hy;exact ym (x:=.int z) ⟨r,rfl⟩ rfl n (ZbO f) y (by simpa using hy)
 ·exact⟨.int _,H2,N.tok _,⟨_,rfl⟩,q2⟩
section
variable {X:Type}[DecidableEq X]
def aF(a:Z (X×V))(k:X):bt V:=(a.find? λb=>decide (b.1=k)).map (·.2)
def putK(a:Z (X×V))(k:X)(v:V):Z (X×V):=
 if(a.any λb=>decide (b.1=k))=ar then a.map (λb=>if b.1=k then(b.1,v) else b) else a++[(k,v)]
def ib(a:Z (X×V))(k:X):Z (X×V):=a.filter λb=>decide (b.1≠k)
def gY{k:X}(e:p.1=k):aF (p::r) k=O p.2:=by simp[aF,K5,e]
def jx{k:X}(e:¬p.1=k):aF (p::r) k=aF r k:=by simp[aF,K5,e]
theorem A7(k:X):∀a:Z (X×V),(a.any λb=>decide (b.1=k))=(aF a k).isSome
 |[]=>rfl
 |p::r=>by
  rw[Ju];by_cases e:p.1=k;·simp[gY e,c_ e,Bool.true_or,Option.isSome_some]
  ·rw[jx e,eJ e,Bool.false_or];exact A7 k r
def AG(a:Z (X×V))(k:X)(v:V):(putK a k v).length<=a.length+1:=by
 unfold putK
 (split<;>simp_all)
def kG{k:X}(v:V)(h:aF a k=aI):putK a k v=a++[(k,v)]:=by
 unfold putK;rw[A7,h];rfl
theorem eX.vC(r:eX o u):o.isSome=u.isSome:=by
 cases o with
 |none=>cases u with
  |none=>rfl
  |some _=>exact(r).elim
 |some _=>cases u with
  |none=>exact(r).elim
  |some _=>rfl
theorem eX.getD(r:eX o u)(a:RelV d b):RelV (o.getD d) (u.getD b):=by
 cases o with
 |none=>cases u with
  |none=>exact a
  |some _=>exact(r).elim
 |some _=>cases u with
  |none=>exact(r).elim
  |some _=>exact r
theorem KV.val(r:KV c g)(k:X):eX (aF c k) (valueAt g k):=by
 unfold KV at r;induction r with
 |nil=>exact fy
 |@cons p q i a h t j=>
  obtain⟨f,l⟩:=h;by_cases e:p.1=k
  ·have d:=f.symm.trans e;have b:valueAt (q::a) k=O q.2:=by simp[valueAt,K5,d]
   rwa[gY e,b]
  ·have d:¬q.1=k:=λz=>e (f.trans z);have b:valueAt (q::a) k=valueAt a k:=by simp[valueAt,K5,d]
   rwa[jx e,b]
theorem KV.any(r:KV a c)(k:X):(a.any λb=>decide (b.1=k))=c.any λb=>decide (b.1=k):=by
 induction r with
 |nil=>rfl
 |cons h t d=>simp_all
theorem KV.Kc(r:KV b c)(k:X)(e:RelV y u):
  KV (b.map λa=>if a.1=k then(a.1,y) else a) (c.map λa=>if a.1=k then(a.1,u) else a):=by
 induction r with
 |nil=>exact .nil
 |@cons p q g f h t d=>
  refine .cons ?_ d
  grind
def KV.put(r:KV a b)(k:X)(c:RelV y u):KV (putK a k y) (stored b k u):=by
 unfold putK stored;rw[r.any k];by_cases e:(b.any λd=>decide (d.1=k))=ar;·rw[br e,br e];exact r.Kc k c
 ·rw[bb e,bb e];exact Paired.snoc r ⟨rfl,c⟩
theorem KV.drop(r:KV c f)(k:X):KV (ib c k) (without f k):=by
 unfold ib without;induction r with
 |nil=>exact .nil
 |@cons p q m l h t g=>
  obtain⟨d,i⟩:=h;rw[Jc,Jc];by_cases e:p.1=k;·simp_all
  ·have j:¬q.1=k:=λz=>e (d.trans z);have a:decide (p.1≠k)=ar:=by simp[e]
   have b:decide (q.1≠k)=ar:=by simp[j]
   rw[br a,br b];exact .cons ⟨d,i⟩ g
theorem KV.keys{a:Z (X×V)}(r:KV a b):a.map (·.1)=b.map (·.1):=by
 induction r with
 |nil=>rfl
 |cons h t c=>simp_all
def KV.length(r:KV a b):a.length=b.length:=Paired.length r
def OO(a:Z (X×V))(k:X):(ib a k).length<=a.length:=Y3 _ _
end
theorem m6(r:RelV (kV k) u):(dH P w).is k u=ar:=by
 cases k with
 |inl i=>obtain⟨t,e⟩:=(show ∃t,u=Value.int i t from r);subst e;exact Z0 P w i t
 |inr x=>obtain⟨t,e⟩:=(show ∃t,u=Value.str x t from r);subst e;exact Z1 P w x t
theorem NZ:∀{a:Z Key} {b:Z aV},Vals (a.map kV) b->ItemsAre (dH P w) a b
 |[],_,r=>by rw[vr] at r;cases r;exact .nil
 |k::a,_,r=>by
  cases r with
  |cons h t=>exact .cons (m6 h) (NZ t)
abbrev KT(H:Hp):Z (Z Key×V)->Z (Z Key×U×aV)->Prop:=Paired λp q=>p.1=q.1/\H q.2.1=O (.tup (p.1.map kV))/\RelV p.2 q.2.2
theorem KT.val(r:KT H c xs)(k:Z Key):eX (aF c k) ((atKey xs k).map (·.2)):=by
 induction r with
 |nil=>exact fy
 |@cons p q g a h t i=>
  obtain⟨f,_,j⟩:=h;by_cases e:p.1=k
  ·have d:=f.symm.trans e;have b:atKey (q::a) k=O q.2:=by simp[atKey,d]
   rwa[gY e,b]
  ·have d:¬q.1=k:=λz=>e (f.trans z);have b:atKey (q::a) k=atKey a k:=by simp[atKey,d]
   rwa[jx e,b]
theorem KT.Kc(r:KT H a xs)(k:Z Key)(d:RelV y u):
  KT H (a.map λb=>if b.1=k then(b.1,y) else b) (xs.map (putAt k u)):=by
 induction r with
 |nil=>exact .nil
 |@cons p q f e h t c=>
  refine .cons ?_ c;unfold putAt
  (split<;>simp_all)
def KT.put(r:KT H a xs)(k:Z Key)(f:H b=O (.tup (k.map kV)))(c:RelV y u):
  KT H (putK a k y) (storedH xs k b u):=by
 have e:(a.any λd=>decide (d.1=k))=(atKey xs k).isSome:=by
  rw[A7,(r.val k).vC,UI]
 unfold putK storedH;rw[e];by_cases q:(atKey xs k).isSome=ar;·rw[br q,br q];exact r.Kc k c
 ·rw[bb q,bb q];exact Paired.snoc r ⟨rfl,f,c⟩
def KT.keeps(r:KT H a xs)(d:∀b c,H b=O (.tup c)->e b=O (.tup c)):KT e a xs:=
 Paired.aW r λ_ _ z=>⟨z.1,d _ _ z.2.1,z.2.2⟩
def SA(b:cZ P w H h)(e:Rd H a u):bY P w H h a u:=e.ok b
def p_(c:cZ P w H h)(e:Rd H a (.dK b)):b.length<=sizeLine/\(a==sysModules)=aY/\∃vs,KV b vs/\h.DictOf (dH P w) a vs:=
 SA c e
def lS(c:cZ P w H h)(e:H a=O (.dK b)):b.length<=sizeLine/\(a==sysModules)=aY/\∃vs,KV b vs/\h.DictOf (dH P w) a vs:=p_ c (.inl e)
def qZ(b:cZ P w H h)(e:H a=O (.tup (c.map kV))):(tupleKind (dH P w)).is h c a:=by
 obtain⟨_,i,r,o,g,f,n,d,_⟩:=(b a _ e);exact⟨o,i.toArray,n,g,f,d,by simpa using NZ r⟩
theorem rg(d:cZ P w H h)(e:Rd H a (.dT b)):b.length<=sizeLine/\(a==sysModules)=aY/\
  ∃xs,KT H b xs/\h.DictOfH (tupleKind (dH P w)) a xs:=by
 obtain⟨z,y,xs,r,o,u,v,s,n,k,j,i⟩:=(SA d e);refine⟨z,y,xs,r,o,u,v,s,n,k,j,λx c=>?_,i⟩;have all:∀{l:Z (Z Key×V)} {m:Z (Z Key×U×aV)},KT H l m->∀x∈m,(tupleKind (dH P w)).is h x.1 x.2.1:=by
  intro l m q;induction q with
  |nil=>grind
  |@cons p q B A f t g=>
   intro x c;rcases Ys.mp c with e|c
   ·subst e;exact qZ d (by exact f.1▸f.2.1)
   ·exact g x c
 grind
def SE(c:cZ P w H h)(e:H a=O (.dT b)):b.length<=sizeLine/\(a==sysModules)=aY/\
  ∃xs,KT H b xs/\h.DictOfH (tupleKind (dH P w)) a xs:=rg c (.inl e)
def eY(H:Hp)(a:U)(y:V)(r:bt V):Prop:=
 (∃c k,Rd H a (.dK c)/\y=kV k/\r=aF c k)\/∃c k b,Rd H a (.dT c)/\y=.ref b/\H b=O (.tup (k.map kV))/\r=aF c k
def t4(H:Hp)(a:U)(y v:V)(d:Hp):Prop:=
 (∃c k,H a=O (.dK c)/\y=kV k/\c.length<sizeLine/\d=upd H a (.dK (putK c k v)))\/
 ∃c k b,H a=O (.dT c)/\y=.ref b/\H b=O (.tup (k.map kV))/\c.length<sizeLine/\d=upd H a (.dT (putK c k v))
def eY.k{k:Key}(e:H a=O (.dK b)):eY H a (kV k) (aF b k):=.inl ⟨b,k,.inl e,rfl,rfl⟩
def eY.t{k:Z Key}(e:H a=O (.dT c))(d:H b=O (.tup (k.map kV))):eY H a (.ref b) (aF c k):=.inr ⟨c,k,b,.inl e,rfl,d,rfl⟩
def t4.k{k:Key}(e:H a=O (.dK b))(c:b.length<sizeLine):t4 H a (kV k) v (upd H a (.dK (putK b k v))):=.inl ⟨b,k,e,rfl,c,rfl⟩
def t4.t{H:Hp}{a b:U}{c:Z (Z Key×V)}{k:Z Key}{v:V}(e:H a=O (.dT c))(f:H b=O (.tup (k.map kV)))(d:c.length<sizeLine):
  t4 H a (.ref b) v (upd H a (.dT (putK c k v))):=.inr ⟨c,k,b,e,rfl,f,d,rfl⟩
def Inv.big(I:Inv X pins σ H s):sysModules<s.heap.objs.size:=by
 exact my QD ((I.mod.glob.keeps I.bk).lt)
def ZbP(r:A.units+1<cLine)(I:Inv X pins σ H s)(g:eY H a y (O v))(q:RelV y u)(h:∀d o,Inv X pins σ H o->RelV v d->Q d o):
  wpAny X.md A (getItem (.ref a) u) Q E s:=by
 rcases g with⟨f,k,e,m,l⟩|⟨f,k,b,e,m,w,l⟩
 ·subst m;obtain⟨z,hd,C,c,n⟩:=p_ I.au e;obtain⟨d,j,i⟩:=eX.some_of (by exact l▸c.val k);exact wpAny_getItem_of (m6 q) n.mapOf j (h d _ (I.tok _) i)
 ·subst m;cases(q);obtain⟨z,hd,B,c,n⟩:=rg I.au e;obtain⟨d,j,i⟩:=eX.some_of (by exact l▸c.val k);obtain⟨p,t,x⟩:=Option.map_eq_some_iff.mp j;refine wpAny_getItem_heap (l3 r) (qZ I.au w) n t ?_;exact x▸h d _ (I.tok _) i
def ZhW(n:A.units+1<cLine)(I:Inv X pins σ H s)(g:eY H a y o)(m:RelV y u)(h:∀j,Inv X pins σ H j->Q (.bool o.isSome) j):
  wpAny X.md A (compareOp .In u (.ref a)) Q E s:=by
 rcases g with⟨d,k,e,f,l⟩|⟨d,k,b,e,f,p,l⟩
 ·subst f;obtain⟨z,hd,t,c,i⟩:=p_ I.au e;refine wpAny_in_of (m6 m) hd i.mapOf ?_;rw[←(c.val k).vC,←l];exact h _ (I.tok _)
 ·subst f;cases(m);obtain⟨z,hd,r,c,i⟩:=rg I.au e;refine wpAny_in_heap (l3 n) (qZ I.au p) hd i ?_;have q:=(c.val k).vC;rw[UI] at q;rw[←q,←l];exact h _ (I.tok _)
def Zej(n:A.units+1<cLine)(I:Inv X pins σ H s)(g:eY H a y o)(m:RelV y u)(h:∀j,Inv X pins σ H j->Q (.bool (!o.isSome)) j):
  wpAny X.md A (compareOp .NotIn u (.ref a)) Q E s:=by
 rcases g with⟨d,k,e,f,l⟩|⟨d,k,b,e,f,p,l⟩
 ·subst f;obtain⟨z,hd,t,c,i⟩:=p_ I.au e;refine wpAny_notIn_of (m6 m) hd i.mapOf ?_;rw[←(c.val k).vC,←l];exact h _ (I.tok _)
 ·subst f;cases(m);obtain⟨z,hd,r,c,i⟩:=rg I.au e;refine wpAny_notIn_heap (l3 n) (qZ I.au p) hd i ?_;have q:=(c.val k).vC;rw[UI] at q;rw[←q,←l];exact h _ (I.tok _)
def sL(I:Inv X pins σ H s)(f:zo (H a))(g:Heap.SameBut a s.heap d)(h:∃q,d.get? a=O q)(c:bY X.prog X.w (upd H a e) d a e):
  Inv X pins σ (upd H a e) {s with heap:=d,toks:=j}:=
 I.write f (.inl rfl) (λb q i z=>(g.2 b i).trans z) h c
def yJ(z:b.length<=sizeLine)(e:(a==sysModules)=aY)(c:KV b d)(g:f.DictOf (dH P w) a d):
  bY P w h f a (.dK b):=⟨z,e,d,c,g⟩
def N1(L:A.units+1<cLine)(I:Inv X pins σ H s)(g:t4 H a y v H')(x:RelV y u)(B:RelV v r)(h:∀w,Inv X pins σ H' w->Q () w):
  wpAny X.md A (setItem (.ref a) u r) Q E s:=by
 rcases g with⟨f,k,e,o,l,p⟩|⟨f,k,b,e,o,D,l,p⟩
 ·subst o p;obtain⟨z,hd,G,d,t⟩:=lS I.au e;have J:G.length<=sizeLine:=by rwa[←d.length]
  have n:(putK f k v).length<=sizeLine:=by have:=AG f k v;exact ir this (tq l)
  refine wpAny_setItem_pairs (m6 x) t λC i m=>h _ ?_;have N:∃q,C.get? a=O q:=let⟨q,_,_,j,_⟩:=i;⟨q,j⟩;exact sL I (by exact e▸fy) m N (yJ n hd (d.put k B) i)
 ·subst o p;cases(x);obtain⟨z,hd,F,d,t⟩:=SE I.au e;have J:F.length<=sizeLine:=by rwa[←Paired.length d]
  have n:(putK f k v).length<=sizeLine:=by have:=AG f k v;exact ir this (tq l)
  refine wpAny_setItem_heap (l3 L) (qZ I.au D) t λC i m=>h _ ?_;obtain⟨q,es,ep,j,W,T,R,_,P⟩:=i;refine sL I (by exact e▸fy) m ⟨q,j⟩ ⟨n,hd,_,(d.put k D B).keeps λc ys ec=>?_,q,es,ep,j,W,T,R,P⟩;rwa[az (R9 ec e (λz=>nomatch z))]
def ZbQ(I:Inv X pins σ H s)(e:H a=O (.dK c))(j:RelV (kV k) u)(l:(aF c k).isSome=ar)(h:∀f,Inv X pins σ (upd H a (.dK (ib c k))) f->Q () f):
  wpAny X.md A (delItem (.ref a) u) Q E s:=by
 obtain⟨z,hd,i,b,d⟩:=lS I.au e;refine Dd d.typeIs QD ri
  (kX ri d.typeIs zj (zd _ _) (meets_dict_delitem_pairs (dH X.prog X.w) a (m6 j)) ⟨i,d,by rw[←b.length];exact z,by rwa[←(b.val k).vC],λp g m=>h _ ?_⟩)
 have o:∃q,p.get? a=O q:=let⟨q,_,_,n,_⟩:=g;⟨q,n⟩;exact sL I (by exact e▸fy) m o (yJ (Yz (OO c k) z) hd (b.drop k) g)
theorem Zg4(I:Inv X pins σ H s)(e:H a=O (.dK c))(f:RelV (kV k) u)(l:aF c k=O v)(m:more=[]\/∃x,more=[x])
  (h:∀d g,Inv X pins σ (upd H a (.dK (ib c k))) g->RelV v d->Q d g):wpAny X.md A (call (.builtin "dict.pop") (.ref a::u::more)) Q E s:=by
 obtain⟨z,hd,o,b,n⟩:=lS I.au e;obtain⟨d,r,p⟩:=eX.some_of (v:=v) (by exact l▸b.val k);have B:(keyPart u).isSome=ar:=by
  cases k with
  |inl i=>obtain⟨t,q⟩:=(show ∃t,u=Value.int i t from f);subst q;rfl
  |inr x=>obtain⟨t,q⟩:=(show ∃t,u=Value.str x t from f);subst q;rfl
 have D:argsOk "dict.pop" ⟨.ref a::u::more,[]⟩:=by
  rcases m with q|⟨x,q⟩;·subst q;exact PySem.F.args_dict_pop_2 _ _
  ·subst q;exact PySem.F.args_dict_pop_3 _ _ _
 refine kX slot_dict_pop n.typeIs PySem.F.entry_dict_pop D (meets_dict_pop_there (dH X.prog X.w) a (m6 f) more m B)
  ⟨o,d,n,by rwa[←b.length],r,λF j w=>h d _ ?_ p⟩
 have C:∃q,F.get? a=O q:=let⟨q,_,_,y,_⟩:=j;⟨q,y⟩;exact sL I (by exact e▸fy) w C (yJ (Yz (OO c k) z) hd (b.drop k) j)
def Zg5(I:Inv X pins σ H s)(e:Rd H a (.dK c))(h:∀t d,Inv X pins σ H d->Q (.int c.length t) d):wpAny X.md A (call (.builtin "len") [.ref a]) Q E s:=by
 obtain⟨z,hd,g,b,f⟩:=p_ I.au e;refine call_len_dict hd f (by rw[←b.length];rw[c7] at z;omega) ?_;exact b.length▸h _ _ (I.tok _)
def Ti(i:bZ):Prop:=∀a b,subscripted i aY a b=operate [a,b] (getItem a b)
theorem Zek{a:c6}{w:cD}{A:dO}{E:aR}{s:a8}{d:Env}{c b:bZ}{e:Pos}{T id:String}{Q:aR}
  (m:typeLookup (.type T) "__getitem__"=pure (O (.builtin id)))(l:Ti b)
  (h:wpAny (model a w) A (eval c d) (λo j=>wpAny (model a w) A (eval b d) (λi d5=>d5.TypeIs o T/\wpAny (model a w) A (getItem o i) Q E d5) E j) E s):
  wpAny (model a w) A (eval (.Subscript c b e) d) Q E s:=by
 refine Subscript_ (cW h (λo j p=>cW p (λi d5 f=>?_) λ_ _ x=>x) λ_ _ x=>x);obtain⟨n,f⟩:=f;refine a7 (a7 (wpAny_specialOf n m ?_));have fin:wpAny (model a w) A (subscripted b aY o i) (λr g=>wpAny (model a w) A (letTemporaryGo c o r>>=λ_=>pure r) Q E g) E d5:=by
  rw[l o i];exact wpAny_operating (cW f (λr g k=>a7 (wpAny_letTemporaryGo (cb k))) λ_ _ x=>x)
 first
  |exact cb (a7 fin)
  |exact a7 (cb (a7 fin))
  |exact a7 fin
def Z_(I:Inv X pins σ H s)(g:eY H a y o):s.TypeIs (.ref a) "dict":=by
 rcases g with⟨c,k,e,_,_⟩|⟨c,k,b,e,_,_,_⟩
 ·obtain⟨_,_,h,_,d⟩:=p_ I.au e;exact d.typeIs
 ·obtain⟨_,_,f,_,d⟩:=rg I.au e;exact d.typeIs
inductive P0(Q:VK)(x:V)(y:V)(b:Hp):Prop
 |mk (a v) (e:x=.ref a) (d:eY b a y (O v)) (c:Q v b):P0 Q x y b
def Zg6(c b:TE):TE:=λa H Q=>c a H λx e=>b a e λy d=>P0 Q x y d
inductive RB(Q:VK)(y:V)(x:V)(b:Hp):Prop
 |mk (a o) (e:x=.ref a) (d:eY b a y o) (c:Q (.bl o.isSome) b):RB Q y x b
def ZhX(b c:TE):TE:=λa H Q=>b a H λy e=>c a e λx d=>RB Q y x d
inductive N3(Q:VK)(y:V)(x:V)(b:Hp):Prop
 |mk (a o) (e:x=.ref a) (d:eY b a y o) (c:Q (.bl (!o.isSome)) b):N3 Q y x b
def Zel(b c:TE):TE:=λa H Q=>b a H λy e=>c a e λx d=>N3 Q y x d
def dD(q:X.A.units+1<cLine)(t:PE X o f)(w:PE X i ty)(r:Ti i):PE X (.Subscript o i pos) (Zg6 f ty):=by
 intro b s d H Q I h;refine Zek PySem.F.slot_dict_getitem.lookup r (aw (t b s d H _ I h) λu j c=>?_);obtain⟨x,D,B,l,n⟩:=c;refine aw (w b j d D _ B n) λJ G c=>?_;obtain⟨y,C,e,k,a,v,z,g,m⟩:=c;subst z;obtain rfl:u=Value.ref a:=l;exact⟨Z_ e g,ZbP q e g k λE F A p=>⟨v,C,A,p,m⟩⟩
def vX(p:X.A.units+1<cLine)(r:PE X i ty)(q:PE X o e):PC X .In i o (ZhX ty e):=by
 intro b s d H Q I h;refine aw (r b s d H _ I h) λE f c=>?_;obtain⟨y,B,z,j,m⟩:=c;refine aw (q b f d B _ z m) λu D c=>?_;obtain⟨x,A,w,k,a,n,t,g,l⟩:=c;subst t;obtain rfl:u=Value.ref a:=k;exact ZhW p w g j λC v=>⟨.bl n.isSome,A,v,rfl,l⟩
def vD(p:X.A.units+1<cLine)(r:PE X i ty)(q:PE X o e):PC X .NotIn i o (Zel ty e):=by
 intro b s d H Q I h;refine aw (r b s d H _ I h) λE f c=>?_;obtain⟨y,B,z,j,m⟩:=c;refine aw (q b f d B _ z m) λu D c=>?_;obtain⟨x,A,w,k,a,n,t,g,l⟩:=c;subst t;obtain rfl:u=Value.ref a:=k;exact Zej p w g j λC v=>⟨.bl (!n.isSome),A,v,rfl,l⟩
def OP(h:cm)(a:sysModules<h.objs.size):bY P w H (h.push {cls:=.type "dict",data:=.dict #[]}) h.objs.size (.dK []):=
 ⟨Yx _,beq_eq_false_iff_ne.mpr (d6 (Y2 a)),[],.nil,NS h⟩
def ZcO(h:cm)(a:sysModules<h.objs.size):bY P w H (h.push {cls:=.type "dict",data:=.dict #[]}) h.objs.size (.dT []):=
 ⟨Yx _,beq_eq_false_iff_ne.mpr (d6 (Y2 a)),[],.nil,_,#[],0,Yn _ rfl,⟨rfl,rfl,rfl⟩,rfl,rfl,Jf⟩
def ZfX:TE:=λ_ H Q=>∀p,H p=aI->Q (.ref p) (upd H p (.dK []))
def ZfY:TE:=λ_ H Q=>∀p,H p=aI->Q (.ref p) (upd H p (.dT []))
def ZcP:PE X (.Dict [] [] pos) ZfX:=λa s b H Q I h=>
 Lp ⟨.ref s.heap.objs.size,_,I.laid (λ _ _=>Yc _) (Yg _) (OP s.heap I.big),rfl,h _ (I.au.fresh (Yg _))⟩
def ZcQ:PE X (.Dict [] [] pos) ZfY:=λa s b H Q I h=>
 Lp ⟨.ref s.heap.objs.size,_,I.laid (λ _ _=>Yc _) (Yg _) (ZcO s.heap I.big),rfl,h _ (I.au.fresh (Yg _))⟩
def Iq:Z (TE×TE)->St->Hp->(Z (V×V)->Hp->Prop)->Prop
 |[],_,H,Q=>Q [] H
 |(tk,tv)::r,σ,H,Q=>tk σ H λx d=>tv σ d λy c=>Iq r σ c λa b=>Q ((x,y)::a) b
abbrev VV:Z (V×V)->Z (aV×aV)->Prop:=Paired λp q=>RelV p.1 q.1/\RelV p.2 q.2
def C5(X:Cx)(e:Pos)(c:Z (bt bZ))(a:Z bZ)(i:Z (TE×TE)):Prop:=
 ∀(b:aJ) (s:a8) (d:St) (H:Hp) (Q:Z (V×V)->Hp->Prop),Inv X b d H s->Iq i d H Q->
  wpAny X.md X.A (evalPairs (pairTrees c a X.env e)) (λh j=>∃f g,Inv X b d g j/\VV f h/\Q f g) X.xe s
def Hu:C5 X pos [] [] []:=λa s b H Q I h=>pairTrees_nil_walk ⟨[],H,I,.nil,h⟩
def pP(z:PE X k g)(t:PE X v f)(w:C5 X pos r d e):
  C5 X pos (O k::r) (v::d) ((g,f)::e):=λa s b H Q I h=>
 pairTrees_cons_walk (aw (z a s b H _ I h) λu j ⟨x,F,C,m,p⟩=>aw (t a j b F _ C p) λJ i ⟨y,E,B,l,o⟩=>
  aw (w a i b E _ B o) λG L N=>by obtain⟨q,D,A,c,n⟩:=N;exact⟨(x,y)::q,D,A,.cons ⟨m,l⟩ c,n⟩)
def q5(b a:Z (Key×V)):Z (Key×V):=a.foldl (λc d=>putK c d.1 d.2) b
theorem KV.merge:∀{more:Z (Key×V)} {c:Z (Key×aV)} {a:Z (Key×V)} {b:Z (Key×aV)},KV more c->KV a b->KV (q5 a more) (merged b c):=by
 intro more c a b r;induction r generalizing a b with
 |nil=>intro q;exact q
 |@cons p q i g h t f=>
  intro d;have e:KV (putK a p.1 p.2) (stored b q.1 q.2):=by
   have:=d.put p.1 h.2
   grind
  exact f e
theorem MQ:∀(more a:Z (Key×V)),(q5 a more).length<=a.length+more.length
 |[],a=>by show a.length<=a.length+0;exact qs _
 |p::r,a=>by
  have c:=MQ r (putK a p.1 p.2);have b:=AG a p.1 p.2;show(q5 (putK a p.1 p.2) r).length<=_
  grind
theorem Nl:∀{d:Z (Key×V)} {f:Z (aV×aV)},VV (d.map λg=>(kV g.1,g.2)) f->∃e,Carries (dH P w) f e/\KV d e
 |[],_,r=>by rw[vr] at r;cases r;exact⟨[],fy,.nil⟩
 |p::d,_,r=>by
  cases r with
  |@cons a b as bs h t=>
   obtain⟨e,c,q⟩:=Nl t;obtain⟨j,i⟩:=b;exact⟨(p.1,i)::e,⟨m6 h.1,rfl,c⟩,.cons ⟨rfl,h.2⟩ q⟩
def Zg7(e:Z (TE×TE)):TE:=λd H Q=>∀p,H p=aI->Iq e d (upd H p (.dK [])) λf c=>c p=O (.dK [])/\∃a:Z (Key×V),f=a.map (λb=>(kV b.1,b.2))/\a.length<=15/\Q (.ref p) (upd c p (.dK (q5 [] a)))
def Hv(h:C5 X pos keys values l)(B:keys.all (·.isSome)=ar)(v:keys.length=values.length)(x:keys≠[])
  (f:keys.length<=15):PE X (.Dict keys values pos) (Zg7 l):=by
 intro a s j H Q I q;refine wpAny_Dict_walk (knd:=dH X.prog X.w) B v x f (aw (h a _ j _ _ (I.laid (λ _ _=>Yc _) (Yg _) (OP s.heap I.big)) (q _ (I.au.fresh (Yg s.heap.objs.size)))) λC D L=>?_);obtain⟨E,J,i,d,e,b,y,F,p⟩:=L;subst y;obtain⟨m,c,n⟩:=Nl d;obtain⟨z,hd,k,o,A⟩:=lS i.au e;cases o;refine⟨m,c,A,λG g t=>⟨.ref s.heap.objs.size,_,?_,rfl,p⟩⟩;have r:(q5 [] b).length<=sizeLine:=by
  have w:=MQ b [];rw[Uv] at w;rw[c7];omega
 exact sL i (by exact e▸fy) t (let⟨q,_,_,u,_⟩:=g;⟨q,u⟩) (yJ r hd (n.merge .nil) g)
structure M1(X:Cx)(o:bZ)(m:af)(apos:Pos)(e:bZ)(bQ:Pos):Prop where
 base:attributeBase o m X.env (eval o X.env)=eval o X.env
 kr:((backTo bQ (starEach [e] X.env)).all (λx=>!x.1)&&(backToKw bQ (keywordEach [] X.env)).all (λx=>x.1.isSome)
  &&decide (([e]:Z bZ).length+([]:Z Keyword).length+(if([]:Z Keyword).isEmpty then 0 else 1)<30))=ar
 line:(apos.endLine==bQ.line)=ar
 trees:backTo bQ (starEach [e] X.env)=[(aY,eval e X.env)]
structure M2(X:Cx)(o:bZ)(m:af)(apos:Pos)(e f:bZ)(bQ:Pos):Prop where
 base:attributeBase o m X.env (eval o X.env)=eval o X.env
 kr:((backTo bQ (starEach [e,f] X.env)).all (λx=>!x.1)&&(backToKw bQ (keywordEach [] X.env)).all (λx=>x.1.isSome)
  &&decide (([e,f]:Z bZ).length+([]:Z Keyword).length+(if([]:Z Keyword).isEmpty then 0 else 1)<30))=ar
 line:(apos.endLine==bQ.line)=ar
 trees:backTo bQ (starEach [e,f] X.env)=[(aY,eval e X.env),(aY,eval f X.env)]
def C6(H:Hp)(a:U):Prop:=(∃b,Rd H a (.dK b))\/∃b,Rd H a (.dT b)
def vY(I:Inv X pins σ H s)(d:C6 H a):
  s.TypeIs (.ref a) "dict"/\(∀b,Value.ref a=.ref b->∃c,s.heap.get? b=O c/\c.dict=aI)/\(a==sysModules)=aY:=by
 rcases d with⟨g,e⟩|⟨g,e⟩
 ·obtain⟨_,hd,k,_,f⟩:=p_ I.au e;refine⟨f.typeIs,λb q=>?_,hd⟩;cases q;obtain⟨c,_,_,i,h,_⟩:=f;exact⟨c,i,h.2.1⟩
 ·obtain⟨_,hd,j,_,f⟩:=rg I.au e;refine⟨f.typeIs,λb q=>?_,hd⟩;cases q;obtain⟨c,_,_,i,h,_⟩:=f;exact⟨c,i,h.2.1⟩
def ZfZ(q:A.units+1<cLine)(I:Inv X pins σ H s)(g:eY H a y o)(n:RelV y u)(h:∀j m,Inv X pins σ H m->RelV (o.getD .aB) j->Q j m):
  wpAny X.md A (call (.builtin "dict.get") [.ref a,u]) Q E s:=by
 rcases g with⟨f,k,e,i,l⟩|⟨f,k,b,e,i,r,l⟩
 ·subst i;obtain⟨z,hd,t,c,d⟩:=p_ I.au e;refine kX mJ d.typeIs rS (zP _ _) (meets_dict_get (dH X.prog X.w) a (m6 n) hd) ⟨_,d.mapOf,h _ _ (I.tok _) ?_⟩;exact l▸(c.val k).getD rfl
 ·subst i;cases(n);obtain⟨z,hd,p,c,d⟩:=rg I.au e;refine kX mJ d.typeIs rS (zP _ _) (meetsH_dict_get (tupleKind (dH X.prog X.w)) a b hd) ⟨l3 q,k,p,qZ I.au r,d,h _ _ (I.tok _) ?_⟩;exact l▸(c.val k).getD rfl
def Zf0(v:A.units+1<cLine)(I:Inv X pins σ H s)(g:eY H a y o)(p:RelV y u)(q:RelV d r)(h:∀m n,Inv X pins σ H n->RelV (o.getD d) m->Q m n):
  wpAny X.md A (call (.builtin "dict.get") [.ref a,u,r]) Q E s:=by
 rcases g with⟨i,k,e,j,l⟩|⟨i,k,b,e,j,w,l⟩
 ·subst j;obtain⟨z,hd,x,c,f⟩:=p_ I.au e;refine kX mJ f.typeIs rS (zM _ _ _) (meets_dict_get_default (dH X.prog X.w) a (m6 p) hd r) ⟨_,f.mapOf,h _ _ (I.tok _) ?_⟩;exact l▸(c.val k).getD q
 ·subst j;cases(p);obtain⟨z,hd,t,c,f⟩:=rg I.au e;refine kX mJ f.typeIs rS (zM _ _ _) (meetsH_dict_get_default (tupleKind (dH X.prog X.w)) a b hd r) ⟨l3 v,k,t,qZ I.au w,f,h _ _ (I.tok _) ?_⟩;exact l▸(c.val k).getD q
def Zf1(f e:TE):TE:=λb H Q=>f b H λx d=>∃a,x=.ref a/\C6 d a/\e b d λy c=>∃o,eY c a y o/\Q (o.getD .aB) c
def Zf2(g e f:TE):TE:=λb H Q=>g b H λx d=>∃a,x=.ref a/\C6 d a/\e b d λy h=>f b h λz c=>∃o,eY c a y o/\Q (o.getD z) c
def ZcR(w:X.A.units+1<cLine)(z:PE X o j)(A:PE X e ty)(m:M1 X o "get" apos e C):PE X (.Call (.Attribute o "get" apos) [e] [] C) (Zf1 j ty):=by
 intro b s c H Q I h;refine uv m.base m.kr m.line mI mJ type_dict_get (aw (z b s c H _ I h) λu n i=>?_);obtain⟨x,G,f,q,a,B,d,t⟩:=i;subst B;obtain rfl:u=Value.ref a:=q;obtain⟨l,k,_⟩:=vY f d;refine⟨l,k,?_⟩;exact m.trees▸kA rfl (nO (nV (aw (A b n c G _ f t) λR N ⟨y,F,E,p,P,g,r⟩=>rj (ZfZ w E g p λJ L D v=>⟨_,F,D,v,r⟩))))
def ZcS(E:X.A.units+1<cLine)(F:PE X o l)(J:PE X e ty)(G:PE X f k)(m:M2 X o "get" apos e f N):PE X (.Call (.Attribute o "get" apos) [e,f] [] N) (Zf2 l ty k):=by
 intro b s c H Q I h;refine uv m.base m.kr m.line mI mJ type_dict_get (aw (F b s c H _ I h) λu r j=>?_);obtain⟨x,H1,i,w,a,L,d,C⟩:=j;subst L;obtain rfl:u=Value.ref a:=w;obtain⟨p,n,_⟩:=vY i d;refine⟨p,n,?_⟩;rw[m.trees];refine kA rfl (nO (nV (aw (J b r c H1 _ i C) λiv q ⟨y,H2,T,v,B⟩=>
  nV (aw (G b q c H2 _ T B) λfv s3 ⟨z,W,R,t,ov,g,A⟩=>rj ?_))))
 exact Zf0 E R g v t λw' s4 P D=>⟨_,W,P,D,A⟩
def we(P:c6)(w:cD)(K:ae)(c:aN)(a:cm)(k:Nat)(x:af)(C:U)(b:Z af)(e:Sp):Prop:=
 ∃f d,Mk K C f/\aH P w K c a aO k f d b e/\Binds K d b []/\c x=O (.ref C)
def cG(P:c6)(w:cD)(K:ae)(e:aN)(a:cm)(k:Nat)(m:af)(C:U)(b:Z af)(d:Sp):Prop:=
 ∃f c,gn K C/\Meth K C m f/\aH P w K e a aO k f c b d/\Binds K c b []
def Ir(P:c6)(w:cD)(K:ae)(e:aN)(a:cm)(k:Nat)(m:af)(C:U)(b:Z af)(d:Sp):Prop:=
 ∃f c,gn K C/\Meth K C m f/\aH P w K e a (nH P w) k f c b d/\Binds K c b []
section
variable {X:Cx}{k j:Nat}{x m:af}{C:U}{ps:Z af}{R:Sp}{p pos W:Pos}{o e:bZ}{T:Z bZ}{t:TA}{Q:TE}
def IZ(h:we X.prog X.w X.K X.mg X.base k x C ps R)(c:bK j X.A)(g:k+1<=j)(i:Gl X x)(n:PA X (e::T) t)(q:(x==("__debug__":af))=aY:=by decide)
  (l:iN X e T:=by rfl)(r:jk X pos T:=by rfl):PE X (.Call (.Name x p) (e::T) [] pos) (Si C R [] E0 t):=by
 obtain⟨f,s,a,F,b,d⟩:=h;exact Zd3 a F (c.mono g) i d b .nil yQ n q l r
def dE(h:cG X.prog X.w X.K X.mg X.base k m C ps R)(g:bK j X.A)(n:k<=j)(i:PE X o Q)(q:PA X (e::T) t)
  (r:iN X e T:=by rfl)(s:jk X pos T:=by rfl)
  (d:eval (.Call (.Attribute o m W) (e::T) [] pos) X.env=(do
   let a←eval o X.env
   standAt W.atName
   let(f,first)←holding [a] (getMethod a m u)
   callWith pos f first (backTo pos (starEach (e::T) X.env)) (backToKw pos (keywordEach [] X.env))):=by rfl):
  PE X (.Call (.Attribute o m W) (e::T) [] pos) (BR C m R [] E0 Q t):=by
 obtain⟨f,v,c,l,F,b⟩:=h;exact Zd2 i c l F (g.mono n) b .nil yQ q r s d
end
def Bk{K:ae}(h:X.K=K)(b:PE X e a)(c:attributeBase e f X.env (eval e X.env)=eval e X.env):PE X (.Attribute e f pos) (JV K a f):=h▸Zfq b c
section
open PySem.AutoSeq1 (wpAny_loadPart')
end
def AH(p:Nat->bA)(n:Nat):(List.range (n+1)).filter p=(List.range n).filter p++(if p n=ar then[n] else[]):=by
 rw[UJ,Wj]
 grind
theorem pK:∀{b:Z α} {a:Z β} {x:α} {y:β},Paired F b a->F x y->Paired F (b++[x]) (a++[y]):=by
 intro b a x y h f;induction h with
 |nil=>exact .cons f .nil
 |cons r t c=>exact .cons r c
theorem M3:∀{b:Z α} {a:Z β},Paired F b a->b.length=a.length:=by
 intro b a h;induction h with
 |nil=>rfl
 |cons _ _ c=>rw[Wm,Wm,c]
theorem MR:∀{b:Z V} {a:Z β},Paired (λx y=>x=f y) b a->b=a.map f:=by
 intro b a h;induction h with
 |nil=>rfl
 |cons r t c=>rw[Wv,←r,←c]
def Nm(n:Nat):(List.range n).filter (λ_=>ar)=List.range n:=QS
theorem Zb(a:Z α)(f:Nat->β)(g:α->β)(h:∀(i:Nat) (v:α),a[i]?=O v->f i=g v):(List.range a.length).map f=a.map g:=by
 refine Jg λi=>?_;rw[Yi,Yi];cases e:a[i]? with
 |none=>rw[Wa (by exact Ws▸List.getElem?_eq_none_iff.mp e)];rfl
 |some v=>rw[UR (Yf.mp e).1];exact de O (h i v e)
def aA(D:U)(H a:Hp):Prop:=∀b o,H b=O o->b≠D->a b=O o
def aA.of(g:aq H H'):aA D H H':=λb o e _=>g b o e
def aA.put(g:aA D H a):aA D H (upd a D o):=λb u e n=>by rw[az n];exact g b u e n
def BY(j:TT)(k:TE)(e:St)(D:U)(H:Hp)(v:V)(b:bA)(l:V->Hp->Prop):Prop:=
 ∀d,aq H d->(∃i,d D=O (.lst i))->∀(f:VK) (g:Hp->Prop),(∀y a,b=ar->aq d a->l y a->f y a)->(∀a,b=aY->aq d a->g a)->j (O v::e) d λc h=>if c=ar then k (O v::e) h f else g h
def oa{K:ae}(C:aj K H a xs)(L:xs.length<=1000)(u:H D=aI)(p:Nat->bA)(l:Nat->V->Hp->Prop)(c:∀i y d x,aA D d x->l i y d->l i y x)
  (k:∀(i:Nat) (v:V),xs[i]?=O v->BY tt A E D H v (p i) (l i))(G:∀f m,aq H m->m D=O (.lst f)->Paired (λy i=>l i y m) f ((List.range xs.length).filter p)->Q (.ref D) m):kM (kg K a) tt A E D H Q:=by
 refine Gx (λi f d=>i<=xs.length/\aq H d/\d D=O (.lst f)/\Paired (λy j=>l j y d) f ((List.range i).filter p)) ⟨Yx _,cY u _,aM,.nil⟩ (λi f d _ ⟨_,g,_,_⟩=>g.seq C) ?_ ?_
 ·rintro i v f d t ⟨_,g,s,n⟩;have w:=(Yf.mp t).1;have J:=M3 n;have F:=Y3 p (List.range i);rw[Ws] at F;refine k i v t d g ⟨_,s⟩ _ _ (λy I r h B=>⟨h _ _ s,by rw[c7];omega,w,?_,aM,?_⟩) (λI r h=>⟨w,g.trans h,h _ _ s,?_⟩)
  ·intro b o e;rw[az (bW e u)];exact h _ _ (g _ _ e)
  ·rw[AH,br r];exact pK (Paired.aW n λz j q=>c _ _ _ _ (aA.put (aA.of h)) q) (c _ _ _ _ (aA.put (aA.of (aq.refl _))) B)
  ·rw[AH,bb (by rw[r];exact Yo),Wh];exact Paired.aW n λz j q=>c _ _ _ _ (aA.of h) q
 ·simp_all
def ZaQ{K:ae}(k:aj K H a xs)(l:xs.length<=1000)(m:H D=aI)(p:Nat->bA)(f:Nat->V)
  (b:∀(i:Nat) (v:V),xs[i]?=O v->BY tt h n D H v (p i) (λy _=>y=f i))(d:∀c,aq H c->c D=O (.lst (((List.range xs.length).filter p).map f))->Q (.ref D) c):kM (kg K a) tt h n D H Q:=
 oa k l m p (λi y _=>y=f i) (λ_ _ _ _ _ e=>e) b λo c g q j=>d c g (by rwa[←MR j])
def ZaR{K:ae}(m:aj K H a xs)(n:xs.length<=1000)(o:H D=aI)(f:V->V)
  (h:∀(i:Nat) (v:V),xs[i]?=O v->∀c,aq H c->∀e:VK,(∀k,aq c k->e (f v) k)->l (O v::q) c e)(d:∀b,aq H b->b D=O (.lst (xs.map f))->Q (.ref D) b):kM (kg K a) wq l q D H Q:=by
 refine ZaQ m n o (λ_=>ar) (λi=>f (xs.getD i .aB)) (λi v j c g _ e s r _=>lY (dI ?_)) λb g p=>d b g ?_;·grind
 ·rw[p,Nm,Zb xs (λi=>f (xs.getD i .aB)) f λi v j=>by rw[Yd,j];rfl]
def ZbR{K:ae}(C:aK K H a xs)(L:xs.length<=1000)(u:H D=aI)(p:Nat->bA)(l:Nat->V->Hp->Prop)(c:∀i y d x,aA D d x->l i y d->l i y x)
  (k:∀(i:Nat) (v:V),xs[i]?=O v->BY tt A E D H v (p i) (l i))(G:∀f m,aq H m->m D=O (.lst f)->Paired (λy i=>l i y m) f ((List.range xs.length).filter p)->Q (.ref D) m):kM (wR K a) tt A E D H Q:=by
 refine GV (λi f d=>i<=xs.length/\aq H d/\d D=O (.lst f)/\Paired (λy j=>l j y d) f ((List.range i).filter p)) ⟨Yx _,cY u _,aM,.nil⟩ (λi f d _ T=>by obtain⟨_,g,_,_⟩:=T;exact g.kZ C) ?_ ?_
 ·rintro i v f d t ⟨_,g,s,n⟩;have w:=(Yf.mp t).1;have J:=M3 n;have F:=Y3 p (List.range i);rw[Ws] at F;refine k i v t d g ⟨_,s⟩ _ _ (λy I r h B=>⟨h _ _ s,by rw[c7];omega,w,?_,aM,?_⟩) (λI r h=>⟨w,g.trans h,h _ _ s,?_⟩)
  ·intro b o e;rw[az (bW e u)];exact h _ _ (g _ _ e)
  ·rw[AH,br r];exact pK (Paired.aW n λz j q=>c _ _ _ _ (aA.put (aA.of h)) q) (c _ _ _ _ (aA.put (aA.of (aq.refl _))) B)
  ·rw[AH,bb (by rw[r];exact Yo),Wh];exact Paired.aW n λz j q=>c _ _ _ _ (aA.of h) q
 ·(simp;omega)
def ZbS{K:ae}(k:aK K H a xs)(l:xs.length<=1000)(m:H D=aI)(p:Nat->bA)(f:Nat->V)
  (b:∀(i:Nat) (v:V),xs[i]?=O v->BY tt h n D H v (p i) (λy _=>y=f i))(d:∀c,aq H c->c D=O (.lst (((List.range xs.length).filter p).map f))->Q (.ref D) c):kM (wR K a) tt h n D H Q:=
 ZbR k l m p (λi y _=>y=f i) (λ_ _ _ _ _ e=>e) b λo c g q j=>d c g (by rwa[←MR j])
abbrev Nw(H:Hp)(o:HO)(Q:VK):Prop:=∀(p:U) (a:Hp),H p=aI->aq H a->a p=O o->Q (.ref p) a
def Nw.at(h:Nw H o Q):∀p,H p=aI->Q (.ref p) (upd H p o):=λp a=>h p _ a (cY a o) aM
def SG(t:TA):TE:=λb H Q=>t b H λa c=>a.length<=sizeLine/\Nw c (.tup a) Q
def Zg8(t:TA):TE:=λb H Q=>t b H λa c=>a.length<=sizeLine/\Nw c (.lst a) Q
section
variable {K:ae}
def eS(h:PA X j t):PE X (.Tuple j l pos) (SG t):=by
 intro a s e H Q I i;refine wpAny_Tuple_spliced (aw (h pos a s e H _ I i) λg c ⟨f,k,d,r,z,q⟩=>⟨by rwa[←r.length],⟨.ref c.heap.objs.size,upd k c.heap.objs.size (.tup f),d.laid (λ b u=>Yc _) (Yg _) ?_,rfl,q.at _ (d.au.fresh (Yg _))⟩⟩);exact⟨z,g,r,⟨_,Yn _ rfl,rfl,_,rfl,rfl⟩⟩
def eG(h:PA X j t):PE X (.List j pos) (Zg8 t):=by
 intro a s e H Q I i;refine Dh (aw (h pos a s e H _ I i) λg c ⟨f,k,d,r,z,q⟩=>⟨by rwa[←r.length],⟨.ref c.heap.objs.size,upd k c.heap.objs.size (.lst f),d.laid (λ b u=>Yc _) (Yg _) ?_,rfl,q.at _ (d.au.fresh (Yg _))⟩⟩);exact⟨z,g,0,r,Yn _ rfl⟩
def cU.mono(h:cU X f r)(m:∀a H Q,r' a H Q->r a H Q):cU X f r':=λb s c H a d Q I v q=>h b s c H a d Q I v (m a H Q q)
def cE.mono(h:cE X f r)(m:∀x y H Q,r' x y H Q->r x y H Q):cE X f r':=λa s b H x y v u Q I d c q=>h a s b H x y v u Q I d c (m x y H Q q)
def wW.mono(h:wW X r)(m:∀x lo b H Q,r' x lo b H Q->r x lo b H Q):wW X r':=λa s c H x v e d lo b f Q I g k j i q=>h a s c H x v e d lo b f Q I g k j i (m x lo b H Q q)
inductive Nn(a:Z V)(H:Hp)(Q:VK):Prop
 |mk (j:Int) (c:a=[.int j]) (b:Nw H (.nv 0 j) Q):Nn a H Q
def ZcT:Z V->Hp->VK->Prop:=λa H Q=>Nn a H Q
def MV:cU X (.type "range") ZcT:=FC.mono λ_ _ _ a=>by obtain⟨j,e,q⟩:=a;exact⟨j,e,q.at⟩
inductive M4(a:Z V)(H:Hp)(Q:VK):Prop
 |mk (p:U) (n:Nat) (e:a=[.ref p]) (d:H p=O (.nv 0 (n:Int))) (c:n<=1000) (b:Nw H (.lst ((aE n).map V.int)) Q):M4 a H Q
def ZbT:Z V->Hp->VK->Prop:=λa H Q=>M4 a H Q
def YO(b:X.calm=ar):cU X (.type "list") ZbT:=(MO b).mono λ_ _ _ a=>by obtain⟨p,n,e,h,l,q⟩:=a;exact⟨p,n,e,h,l,q.at⟩
inductive Np(a:Z V)(H:Hp)(Q:VK):Prop
 |mk (p:U) (n:Nat) (e:a=[.ref p]) (d:H p=O (.nv 0 (n:Int))) (c:n<=1000) (b:Nw H (.tup ((aE n).map V.int)) Q):Np a H Q
def ZcU:Z V->Hp->VK->Prop:=λa H Q=>Np a H Q
def X_(b:X.calm=ar):cU X (.type "tuple") ZcU:=(ML b).mono λ_ _ _ a=>by obtain⟨p,n,e,h,l,q⟩:=a;exact⟨p,n,e,h,l,q.at⟩
def ZcV(K:ae):Z V->Hp->VK->Prop:=λc H Q=>∃(p:U) (a:Z Int),c=[.ref p]/\(aj K H p (a.map V.int)\/aK K H p (a.map V.int))/\a.length<64/\
  ∀b:Z Int,b.Perm a->b.Pairwise (·<=·)->Nw H (.lst (b.map V.int)) Q
def ZcW(h:X.K=K):cU X (.builtin "sorted") (ZcV K):=h▸M0.mono λ_ _ _ b=>by obtain⟨p,f,e,s,l,q⟩:=b;exact⟨p,f,e,s,l,λa i g d c=>(q i d c).at a g⟩
inductive P1(K:ae)(x:V)(c:bt Int)(d:bt Int)(H:Hp)(Q:VK):Prop
 |mk (a b) (g:x=.ref a) (f:aj K H a b) (e:Nw H (.lst (m9 b c d)) Q):P1 K x c d H Q
def Zg9(K:ae):V->bt Int->bt Int->Hp->VK->Prop:=λx lo a H Q=>P1 K x lo a H Q
def A8(h:X.K=K):wW X (Zg9 K):=h▸Zd6.mono λ_ _ _ _ _ b=>by obtain⟨a,c,e,s,q⟩:=b;exact⟨a,c,e,s,q.at⟩
def Zg_:R2:=λx y H Q=>∃l b c a,x=.ref l/\y=.ref b/\H l=O (.lst c)/\H b=O (.lst a)/\c.length+a.length<=sizeLine/\Nw H (.lst (c++a)) Q
def vQ:cE X (binaryOp .Add) Zg_:=Zfx.mono λ_ _ _ _ c=>by obtain⟨l,b,d,a,h,g,f,e,z,q⟩:=c;exact⟨l,b,d,a,h,g,f,e,z,q.at⟩
def Zem:TE:=λ_ H Q=>Nw H (.dK []) Q
def sF:PE X (.Dict [] [] pos) Zem:=λa s b H Q I q=>ZcP a s b H Q I q.at
def Zen:TE:=λ_ H Q=>Nw H (.dT []) Q
def N4:PE X (.Dict [] [] pos) Zen:=λa s b H Q I q=>ZcQ a s b H Q I q.at
end
abbrev Ch(H:Hp)(a:U)(o:HO)(R:Hp->Prop):Prop:=∀b,aA a H b->b a=O o->R b
def Ch.at(h:Ch H a o R):R (upd H a o):=h _ (aA.put (aA.of (aq.refl _))) aM
section
variable {X:Cx}
def qq.mono{id:String}(h:qq X id r)(m:∀x a H Q,r' x a H Q->r x a H Q):qq X id r':=λb s c H x a v d Q I e f q=>h b s c H x a v d Q I e f (m x a H Q q)
inductive Nq(x:V)(b:Z V)(H:Hp)(Q:VK):Prop
 |mk (l a y) (g:x=.ref l) (f:b=[y]) (e:H l=O (.lst a)) (d:a.length<sizeLine) (c:Ch H l (.lst (a++[y])) (Q .aB)):Nq x b H Q
def ZcX:V->Z V->Hp->VK->Prop:=λx a H Q=>Nq x a H Q
def vm:qq X "list.append" ZcX:=AV.mono λ_ _ _ _ a=>by obtain⟨l,b,y,d,c,h,z,q⟩:=a;exact⟨l,b,y,d,c,h,z,q.at⟩
def ZcY:V->Z V->Hp->VK->Prop:=λx d H Q=>∃l b c a,x=.ref l/\d=[.ref b]/\H l=O (.lst c)/\H b=O (.lst a)/\c.length+a.length<=sizeLine/\Ch H l (.lst (c++a)) (Q .aB)
def ZaS:qq X "list.extend" ZcY:=ZbD.mono λ_ _ _ _ c=>by obtain⟨l,b,d,a,h,g,f,e,z,q⟩:=c;exact⟨l,b,d,a,h,g,f,e,z,q.at⟩
def Zeo:V->Z V->Hp->VK->Prop:=λx b H Q=>∃l a,x=.ref l/\b=[]/\H l=O (.lst a)/\Ch H l (.lst []) (Q .aB)
def ZbU:qq X "list.clear" Zeo:=Zcx.mono λ_ _ _ _ a=>by obtain⟨l,b,d,c,h,q⟩:=a;exact⟨l,b,d,c,h,q.at⟩
def tS.mono(h:tS X t)(m:∀o i v H Q,t' o i v H Q->t o i v H Q):tS X t':=by
 intro a s b H o i x f g v Q I e d c q;exact h a s b H o i x f g v Q I e d c (m _ _ _ _ _ q)
def Zf3:V->V->V->Hp->(Hp->Prop)->Prop:=λo i v H Q=>∃p a k j,o=.ref p/\i=.int k/\H p=O (.lst a)/\d9 a.length k=O j/\Ch H p (.lst (a.set j v)) Q
def N5:tS X Zf3:=set_list.mono λ_ _ _ _ _ a=>by obtain⟨p,b,k,j,d,c,h,z,q⟩:=a;exact⟨p,b,k,j,d,c,h,z,q.at⟩
variable {o i W:bZ}{P ty R N:TE}{pos T:Pos}{f:af}
inductive OQ(D:Ends)(d:St)(v:V)(x:V)(y:V)(c:Hp):Prop
 |mk (a b k) (l:x=.ref a) (j:c a=O (.dK b)) (h:y=kV k) (g:b.length<sizeLine) (e:Ch c a (.dK (putK b k v)) (D.nx d)):OQ D d v x y c
def Zf4(P ty R:TE):TS:=λD a H=>R a H λv d=>P a d λx c=>ty a c λy b=>OQ D a v x y b
inductive N6(D:Ends)(e:St)(v:V)(x:V)(y:V)(d:Hp):Prop
 |mk (a b c k) (n:x=.ref a) (m:d a=O (.dT c)) (l:y=.ref b) (j:d b=O (.tup (k.map kV))) (h:c.length<sizeLine) (g:Ch d a (.dT (putK c k v)) (D.nx e)):N6 D e v x y d
def Zep(P ty R:TE):TS:=λD a H=>R a H λv d=>P a d λx c=>ty a c λy b=>N6 D a v x y b
def oi(A:X.A.units+1<cLine)(C:PE X o P)(E:PE X i ty)(z:PE X W R)(B:swapsWith W (O (.Subscript o i T)) pos.line X.env=pure aY:=by rfl):
  PS X (.Assign [.Subscript o i T] W pos) (Zf4 P ty R):=by
 intro b s d H D I h;refine z6 (aw (z b s d H _ I h) λr g c=>?_) B;obtain⟨v,H1,I1,n,t⟩:=c;refine aw (C b g d H1 _ I1 t) λu e c=>?_;obtain⟨x,H2,I2,m,q⟩:=c;refine aw (E b e d H2 _ I2 q) λiv s3 c=>?_;obtain⟨y,H3,Q,j,a,w,k,J,F,G,l,p⟩:=c;subst J;subst G;obtain rfl:u=Value.ref a:=m;exact N1 A Q (t4.k F l) j n λs4 L=>⟨d,_,L,p.at⟩
def N7(B:X.A.units+1<cLine)(E:PE X o P)(F:PE X i ty)(A:PE X W R)(C:swapsWith W (O (.Subscript o i T)) pos.line X.env=pure aY:=by rfl):
  PS X (.Assign [.Subscript o i T] W pos) (Zep P ty R):=by
 intro c s e H D I h;refine z6 (aw (A c s e H _ I h) λr j d=>?_) C;obtain⟨v,H1,I1,p,w⟩:=d;refine aw (E c j e H1 _ I1 w) λu g d=>?_;obtain⟨x,H2,I2,n,t⟩:=d;refine aw (F c g e H2 _ I2 t) λiv s3 d=>?_;obtain⟨y,H3,I3,m,a,b,z,k,Q,J,L,G,l,q⟩:=d;subst Q;subst L;obtain rfl:u=Value.ref a:=n;exact N1 B I3 (t4.t J G l) m p λs4 I4=>⟨e,_,I4,q.at⟩
def Zha(K:ae)(N R:TE)(f:af):TS:=λD b H=>R b H λy e=>N b e λx d=>∃a C c fs,x=.ref a/\d a=O (.ins C c fs)/\gn K C/\c9 K C f/\fs.length<1000/\Ch d a (.ins C c (cy f y fs)) (D.nx b)
def g_{K:ae}(w:X.K=K)(v:PE X o N)(r:PE X W R)(t:swapsWith W (O (.Attribute o f T)) pos.line X.env=pure aY:=by rfl):PS X (.Assign [.Attribute o f T] W pos) (Zha K N R f):=by
 subst w;intro b s d H D I h;refine tJ (aw (r b s d H _ I h) λu g e=>?_) t;obtain⟨y,G,F,j,q⟩:=e;refine aw (v b g d G _ F q) λp L e=>?_;obtain⟨x,H2,E,k,a,C,Q,fs,z,A,c,n,l,m⟩:=e;subst z;obtain rfl:p=Value.ref a:=k;exact Nc E A c n l j λJ B=>⟨d,_,B,m.at⟩
end
def zK(x:af):It:=⟨λi _=>i<x.length,λi H v a=>a=H/\∃c,x.cps[i]?=O c/\v=.str ⟨#[c]⟩,λi _=>x.length<=i⟩
theorem YQ{P:c6}{w:cD}{K:ae}{B:bZ}(it:U)(x:af)(t:Tok):Turn P w K B (zK x) [it] it (λi h=>h.IsStrIter it "str_ascii_iterator" x t i) where
 mem:=QS
 obj:=λi h st b f=>by
  have e:b=it:=by simpa using f
  obtain⟨o,e,c,d⟩:=st
  grind
 keep:=λi h y st k=>let⟨o,e,r⟩:=st;⟨o,k it QS o e,r⟩
 item:=by
  intro X F D G v i a s A H E I g st j;obtain⟨q,p,J,n,m,l⟩:=g it QS;have u:=W7 j;refine wpAny_pyNext_ascii_item st u λy z C=>?_;obtain⟨o,e,c,d⟩:=id z;exact⟨_,rfl,tG e c d QD ⟨.str ⟨#[x.cps[i]]⟩,H,(I.turned (λb o f e=>(C.2 b f).trans e) q p n m l),⟨_,rfl⟩,⟨rfl,_,u,rfl⟩,z,λb f=>(g b f).1⟩⟩
 done:=by
  intro X F D G v i a s A H E I g st j;obtain⟨q,p,J,n,m,l⟩:=g it QS;exact wpAny_pyNext_ascii_end (I.ok.hd v) st (UK j) λy L=>⟨rfl,I.turned (L) q p n m l⟩
 self:=λ_ _ _ _ _ st h=>wpAny_pyIter_striter_ascii st h
theorem Zc{P:c6}{w:cD}{K:ae}{B:bZ}(it:U)(x:af)(t:Tok):Turn P w K B (zK x) [it] it (λi h=>h.IsStrIter it "str_iterator" x t i) where
 mem:=QS
 obj:=λi h st b f=>by
  have e:b=it:=by simpa using f
  obtain⟨o,e,c,d⟩:=st
  grind
 keep:=λi h y st k=>let⟨o,e,r⟩:=st;⟨o,k it QS o e,r⟩
 item:=by
  intro X F D G v i a s A H E I g st j;obtain⟨q,p,J,n,m,l⟩:=g it QS;have u:=W7 j;refine wpAny_pyNext_wide_item st u λy z C=>?_;obtain⟨o,e,c,d⟩:=id z;exact⟨_,rfl,tG e c d QD ⟨.str ⟨#[x.cps[i]]⟩,H,(I.turned (λb o f e=>(C.2 b f).trans e) q p n m l),⟨_,rfl⟩,⟨rfl,_,u,rfl⟩,z,λb f=>(g b f).1⟩⟩
 done:=by
  intro X F D G v i a s A H E I g st j;obtain⟨q,p,J,n,m,l⟩:=g it QS;exact wpAny_pyNext_wide_end (I.ok.hd v) st (UK j) λy L=>⟨rfl,I.turned (L) q p n m l⟩
 self:=λ_ _ _ _ _ st h=>wpAny_pyIter_striter_wide st h
inductive RC(R:It->Hp->Prop)(v:V)(a:Hp):Prop
 |mk (x) (c:v=.str x) (b:R (zK x) a):RC R v a
def ZhY(b:TE):TI:=λa H R=>b a H λv c=>RC R v c
theorem Zf5(p:PE X l k):PI X u l (ZhY k):=by
 intro a s i H R I h;refine aw (p a s i H _ I h) λv c j=>?_;obtain⟨x,f,d,m,n⟩:=j;obtain⟨z,e,q⟩:=n;subst e;obtain⟨t,rfl⟩:=m;have fin:∀b∈[c.heap.objs.size],gm X a f b:=λb r=>by
  have e:b=c.heap.objs.size:=by simpa using r
  subst e;exact d.qf (Yg _) (d.au.fresh (Yg _))
 cases g:z.cps.all (·<128) with
 |true=>exact wpAny_pyIter_ascii g ⟨c.heap.objs.size,[c.heap.objs.size],_,_,f,rfl,d.kept λb o e=>Yc _ e,YQ _ z t,⟨_,Yn _ rfl,rfl,rfl⟩,fin,q⟩
 |false=>exact wpAny_pyIter_wide g ⟨c.heap.objs.size,[c.heap.objs.size],_,_,f,rfl,d.kept λb o e=>Yc _ e,Zc _ z t,⟨_,Yn _ rfl,rfl,rfl⟩,fin,q⟩
abbrev sg(c:Nat):V:=.str ⟨#[c]⟩
def ZcZ(d:Nat->Z V->Hp->Prop)(q:d 0 [] (upd H D (.lst [])))
  (s:∀(i c:Nat) (a:Z V) (H:Hp),x.cps[i]?=O c->d i a H->tt (O (sg c)::g) H λb j=>if b=ar then k (O (sg c)::g) j λy h=>h D=O (.lst a)/\a.length<sizeLine/\d (i+1) (a++[y]) (upd h D (.lst (a++[y]))) else d (i+1) a j)
  (o:∀a H,d x.length a H->Q (.ref D) H):kM (zK x) tt k g D H Q:=by
 refine⟨λi m a H=>m=x.length-i/\i<=x.length/\d i a H,⟨x.length,QS,Yx _,q⟩,?_⟩;rintro i m a H ⟨rfl,n,p⟩;by_cases f:i<x.length
 ·refine .inr ⟨f,d (i+1),λu r l=>⟨x.length-(i+1),QO,rfl,f,l⟩,λv r y=>?_⟩;obtain⟨e,c,t,rfl⟩:=y
  simp_all
 ·have e:i=x.length:=(eL n (dg f))
  subst e;exact .inl ⟨Yg _,o a H p⟩
def ZbV(y:x.length<=100000)(p:H D=aI)(f:Nat->V)
  (d:∀(i c:Nat),x.cps[i]?=O c->∀a,aq H a->∀s:VK,(∀m,aq a m->s (f c) m)->t (O (sg c)::u) a s)(l:∀n,aq H n->n D=O (.lst (x.cps.toList.map f))->Q (.ref D) n):kM (zK x) wq t u D H Q:=by
 refine ZcZ (λi h a=>i<=x.length/\aq H a/\a D=O (.lst h)/\h=(x.cps.toList.take i).map f) ⟨Yx _,cY p _,aM,rfl⟩ ?_ ?_
 ·rintro i c h a j ⟨_,g,k,e⟩;have w:i<x.length:=(J3.mp j).1;refine lY (dI (d i c j a g _ λm r=>⟨r _ _ k,?_,w,?_,aM,?_⟩))
  ·rw[e,Ya,Wi,c7];omega
  ·intro b o q;rw[az (bW q p)];exact r _ _ (g _ _ q)
  ·have v:x.cps.toList[i]?=O c:=by rw[UL];exact j
   rw[e,Y8,v,Yt];rfl
 ·rintro h a ⟨_,g,k,e⟩;refine l a g ?_;rw[k,e,Jx (by show x.cps.toList.length<=x.cps.size;simp)]
end L2
namespace L2
open PySem PySem.W PySem.Spec PyProof.Rows
def Zf6:Z V->Hp->VK->Prop:=λb H Q=>∃(p:U) (a:Z (Key×V)),b=[.ref p]/\H p=O (.dK a)/\Nw H (.lst (a.map λc=>kV c.1)) Q
theorem Gy:∀{c:Z Key} {b:Z aV},b.length=c.length->(∀(j:Nat) (v:aV),b[j]?=O v->∃k,c[j]?=O k/\(dH P w).is k v=ar)->Vals (c.map kV) b
 |[],[],_,_=>.nil
 |k::c,u::b,a,h=>by
  obtain⟨k',e,d⟩:=h 0 u rfl;have g:k=k':=by simpa using e
  subst g;refine .cons ?_ (Gy (by simpa using a) λj v f=>by simpa using h (j+1) v (by simpa using f));rcases mP (d) with⟨i,t,rfl,rfl⟩|⟨x,t,rfl,rfl⟩;·exact⟨t,rfl⟩
  ·exact⟨t,rfl⟩
 |[],_::_,a,_=>by simp at a
 |_::_,[],a,_=>by simp at a
def Zaa(y:X.calm=ar):cU X (.type "list") Zf6:=by
 rintro g s C H D E Q I r ⟨p,b,rfl,t,q⟩;obtain⟨u,rfl,l⟩:=vals1 r;obtain rfl:u=Value.ref p:=l;obtain⟨m,B,i,a,z⟩:=lS I.au t;obtain⟨W,A⟩:=z.dictAt;have G:=a.length;refine kdl_call (kdl_dict B) (I.ok.hd y) A QO λT F f c n R h=>?_;have d:Vals (b.map λa=>kV a.1) f.toList:=by
  have e:(b.map λa=>kV a.1)=(i.map (·.1)).map kV:=by rw[←a.keys,Y0];rfl
  rw[e];refine Gy (P:=X.prog) (w:=X.w) (by rw[Y7,Ya];exact h.1) λj v N=>?_;obtain⟨k,x,J,L⟩:=h.2 j v (by rwa[←UL])
  simp_all
 exact⟨.ref s.heap.objs.size,_,(I.laid (o:=.lst (b.map λa=>kV a.1)) n (Yg _) ⟨by rwa[Ya],f.toList,c,d,by rwa[Array.toArray_toList]⟩),rfl,q.at _ (I.au.fresh (Yg _))⟩
end L2
namespace L2
open PySem PySem.Spec PyProof.Rows
abbrev BZ(D:Z (af×af)):Z (af×PyData):=D.map λp=>(p.1,PyData.str p.2)
def wy(K:ae)(a:U)(D:Z (af×af)):Prop:=KTD.tabLook KTD.flatLooks (λb=>K.lookup b) a (BZ D)=ar
theorem yi(f:a->b)(k:af):∀D:Z (af×a),KTD.datumAt k (D.map λp=>(p.1,f p.2))=(KTD.datumAt k D).map f
 |[]=>rfl
 |p::D=>by
  rw[Wv];unfold KTD.datumAt;by_cases e:k=p.1;·simp[e]
  ·simp[e];exact yi f k D
def wy.here{K:ae}(t:wy K a D)(b:K.In h):KTD.Here h h a ((BZ D).map λp=>(p.1,KTD.Dat.flat p.2)):=
 ⟨KTD.TabOf.text (KTD.tab_of_look (λ_ _=>KTD.flat_of_looks) (b) t),λ_ _ e=>e⟩
def oM(D:Z (af×af))(z:af):bA:=(KTD.datumAt z D).isSome
def keys_has(D:Z (af×af))(z:af):KTD.inKeys z ((BZ D).map λp=>(p.1,KTD.Dat.flat p.2))=oM D z:=by
 rw[←KTD.isSome_datumAt,yi KTD.Dat.flat,yi PyData.str];unfold oM
 grind
def Zf7(K:ae)(b:bA):R2:=λx y H Q=>∃(z:af) (a:U) (D:Z (af×af)),x=.str z/\y=.ref a/\wy K a D/\Q (.bl (if b=ar then !oM D z else oM D z)) H
def Zf8{K:ae}(e:X.K=K):cE X (compareOp .In) (Zf7 K aY):=by
 subst e;rintro b s f H x y v u Q I d c ⟨z,a,D,rfl,rfl,t,q⟩;obtain⟨g,rfl⟩:=d;obtain rfl:u=Value.ref a:=c;refine KTD.in_text (t.here I.bM) ?_;rw[keys_has];exact⟨.bl (oM D z),H,I.tok _,rfl,q⟩
def Zf9(K:ae):R2:=λx y H Q=>∃(a:U) (z r:af) (D:Z (af×af)),x=.ref a/\y=.str z/\wy K a D/\KTD.datumAt z D=O r/\Q (.str r) H
theorem Zeq{K:ae}(A:X.K=K):jo X (Zf9 K):=by
 subst A;intro b c f s B H x y v u Q I n m h w;obtain⟨a,z,r,D,rfl,rfl,t,e,q⟩:=h;obtain⟨k,rfl⟩:=m;obtain rfl:v=Value.ref a:=n;have T:=t.here I.bM;refine tail_any T.typeIs slot_dict_getitem.lookup ?_ w;unfold getItem;try with_reducible refine fx ?_
 refine a7 (wpAny_sequenceKey T.typeIs QD ?_);refine a7 (wpAny_callSpecial?_slot T.typeIs JN
  (n7 JN T.typeIs entry_dict_getitem ?_ (args_dict_getitem _ _)))
 show wpAny _ _ (dictGet a (.str z k)>>=_) _ _ s;have j:KTD.datumAt z ((BZ D).map λp=>(p.1,KTD.Dat.flat p.2))=O (.flat (.str r)):=by rw[yi KTD.Dat.flat,yi PyData.str,e];rfl
 refine a7 (KTD.dictGet_text T (λd v i o=>cb ⟨v,rfl,cb ?_⟩) λg=>by rw[j] at g;cases g);rw[j] at i;cases i;cases o s.heap with
 |str x l=>exact⟨.str r,H,I.tok _,⟨l,rfl⟩,q⟩
def BD(h:cG X.prog X.w X.K X.mg X.base k m C p sp)(g:bK j X.A)(n:k<=j)(i:PE X o d)
  (e:eval (.Call (.Attribute o m apos) [] [] pos) X.env=(do
   let a←eval o X.env
   standAt apos.atName
   let(f,first)←holding [a] (getMethod a m q)
   callWith pos f first (backTo pos (starEach [] X.env)) (backToKw pos (keywordEach [] X.env))):=by rfl):
  PE X (.Call (.Attribute o m apos) [] [] pos) (BR C m sp [] E0 d jZ):=by
 obtain⟨f,r,c,l,F,b⟩:=h;exact Zcu i c l F (g.mono n) b .nil yQ e
def Co(K:ae)(b:bA):R2:=λx y H Q=>∃(p q:U) (a:Z V),x=.ref p/\y=.ref q/\aj K H p a/\aj K H q []/\Q (.bl (if b=ar then !a.isEmpty else a.isEmpty)) H
theorem Zf_(h:X.A.units<cLine):cE X (compareOp .Eq) (Co X.K aY):=by
 rintro d s w H x y v u Q I m l ⟨p,q,i,rfl,rfl,b,t,k⟩;cases m;cases l;obtain⟨D,c,g,B⟩:=I.list b;obtain⟨C,n,f,A⟩:=I.list t;cases n;have o:=c.length;cases i with
 |nil=>
  cases c;exact L0 (e:=λ_=>ar) g.isList f.isList rfl h (λj b _=>absurd b QS) (cB I k QS)
 |cons a r=>exact zJ g.isList f.isList (by simp;intro z;subst z;simp at o) h (cB I k QS)
theorem Zga(h:X.A.units<cLine):cE X (compareOp .NotEq) (Co X.K ar):=by
 rintro d s w H x y v u Q I m l ⟨p,q,i,rfl,rfl,b,t,k⟩;cases m;cases l;obtain⟨D,c,g,B⟩:=I.list b;obtain⟨C,n,f,A⟩:=I.list t;cases n;have o:=c.length;cases i with
 |nil=>
  cases c;exact SeqAt.RcNeAt.lists (e:=λ_=>ar) g.isList f.isList rfl h (λj b _=>absurd b QS) _ _ _ _ (cB I k QS)
 |cons a r=>exact SeqAt.RcNeAt.lists_lengths g.isList f.isList (by simp;intro z;subst z;simp at o) h _ _ _ _ (cB I k QS)
def ZaT:cU X (.builtin "len") (λb H Q=>∃p a,b=[.ref p]/\H p=O (.dK a)/\Q (.int (a.length:Int)) H):=by
 rintro c s g H b h Q I r ⟨p,a,rfl,e,q⟩;obtain⟨u,rfl,d⟩:=vals1 r;obtain rfl:u=Value.ref p:=d;exact Zg5 I (.inl e) λt i f=>⟨.int (a.length:Int),H,f,⟨t,rfl⟩,q⟩
def aA.trans(g:aA D H c)(a:aA D c K6):aA D H K6:=λb o e n=>a b o (g b o e n) n
def Out(a:Z U)(H c:Hp):Prop:=∀b o,H b=O o->b∉a->c b=O o
def Out.of(g:aq H H'):Out fp H H':=λb o e _=>g b o e
def Out.trans(g:Out fp H c)(a:Out fp c K6):Out fp H K6:=λb o e n=>a b o (g b o e n) n
def Out.bar(g:aA a H H')(m:a∈fp):Out fp H H':=λb o e n=>g b o e λz=>n (by rwa[z])
def setC(h:u D (σ.set i (O v)) H):tR (tU (tC v) (lQ i)) u D σ H:=h
def bT(h:a σ H λx b=>u D (σ.set i (O x)) b):tR (tU a (lQ i)) u D σ H:=h
def dt(h:H a=O (.dK b))(e:aF b (.inr z)=o):eY H a (.str z) o:=.inl ⟨b,.inr z,.inl h,rfl,e.symm⟩
section
variable {X:Cx}{L R tgt:bZ}{xs:Z af}{pos:Pos}{N:Z bZ}{W:Scope}{cl:Z (af×U)}{fr:Z (af×Nat)}{G:TG}{F:TT}{E:TE}{P:St}
def Zgb(n:Nat)(b:TI)(fr:Z (af×Nat))(G:TG)(F:TT)(E:TE):TE:=λP H Q=>b P H λJ a=>∀D,a D=aI->Ie n J G F E (eW P fr) D a Q
def OR(p:X.calm=ar)(a:mQ X W cl xs fr)(n:∀C s H fp,PG (bB X xs fr W cl C s H fp) tgt G)(l:PI X tgt R c)
  (i:∀C s H fp,qu (bB X xs fr W cl C s H fp) N F)(o:∀C s H fp,PE (bB X xs fr W cl C s H fp) L E)
  (j:∀x,foldedSetIterable R X.env x=pure x:=by intro _;rfl):PE X (.ListComp L [⟨tgt,R,N,0⟩] W pos) (Zgb xs.length c fr G F E):=by
 intro b s P H Q I h;refine nA rfl j a.tV a.kind a.names (aw (l b s P H _ I h) λv d t=>aw t λrH s2 r=>?_);obtain⟨it,fp,tn,J,H2,e,I2,T,dQ,z,g⟩:=r;subst e;refine Nd p a n i o I2 T dQ z g ?_;intro D C d H1 m I1 k B A y w u q;exact⟨m,k,λh' f=>⟨.ref D,H1,I1.turned (f.extBut) B A (.inr y) w u,rfl,q⟩⟩
end
def Nr{K:ae}(d:Nat->Z V->Hp->Prop)(z:d 0 [] (upd H D (.lst [])))(u:∀i b H,i<=xs.length->d i b H->aj K H a xs)
  (C:∀i v b H,xs[i]?=O v->d i b H->∀os:St,os.length=n->r v (os++k) H λf A=>(∃h:St,h.length=n/\f=h++k)/\tt f A λc o=>if c=ar then s f o λy l=>l D=O (.lst b)/\b.length<sizeLine/\d (i+1) (b++[y]) (upd l D (.lst (b++[y]))) else d (i+1) b o)
  (w:∀b H,d xs.length b H->Q (.ref D) H):Ie n (kg K a) r tt s k D H Q:=by
 refine⟨λi m b H=>m=xs.length-i/\i<=xs.length/\d i b H,⟨xs.length,QS,Yx _,z⟩,?_⟩;rintro i m b H ⟨rfl,j,p⟩;have q:=u i b H j p;by_cases g:i<xs.length
 ·refine .inr ⟨⟨xs,xs[i],q,by simp[g]⟩,d (i+1),λE B t=>⟨xs.length-(i+1),QO,rfl,g,t⟩,λx B y=>?_⟩;obtain⟨e,y⟩:=y
  grind
 ·have e:i=xs.length:=(eL j (dg g))
  subst e;exact .inl ⟨⟨xs,q,Yg _⟩,w b H p⟩
abbrev rN(c e g d f:bZ)(a:Scope)(b:Pos):bZ:=.ListComp c [⟨e,g,[],0⟩,⟨d,f,[],0⟩] a b
theorem ZbW(I:Nat->a8->Prop)
  (c:∀n s,I n s->wpAny (model prog w) A (pyNext it) (λr f=>match r with
   |none=>R (.ok .next) f
   |some v=>wpAny (model prog w) A (letOwnedTupleGo g it v) (λ_ o=>wpAny (model prog w) A (assign g env v) (λ_ l=>
     wpAny (model prog w) A (eval elt env) (λx j=>
       wpAny (model prog w) A (call (.builtin "list.append") [acc,x]) (λ_ i=>∃m,m<n/\I m i) (notedBy (model prog w) A env λe a=>R (.error e) a) j) (notedBy (model prog w) A env λe a=>R (.error e) a) l) (notedBy (model prog w) A env λe a=>R (.error e) a) o) (notedBy (model prog w) A env λe a=>R (.error e) a) f) (notedBy (model prog w) A env λe a=>R (.error e) a) s)
  (n:Nat)(h:I n s):codeAny (model prog w) A (.compLoop (rN elt t1 z g y scope pos) 1 it acc env) R s:=by
 refine rX rfl I (λn s u=>rZ (a7 (gU (a7 (cW (c n s u) (λr f k=>?_) λ_ _ b=>b))))) n h;cases r with
 |none=>exact cb k
 |some v=>
  exact a7 (cW k (λ_ o d=>a7 (cW d (λ_ l t=>a7 (uO (a7 (a7 (cW t (λx j q=>a7 (cW q (λ_ i p=>cb (cb ⟨rfl,p⟩)) λ_ _ b=>b)) λ_ _ b=>b))))) λ_ _ b=>b)) λ_ _ b=>b)
theorem ZbX(E:∀x,foldedSetIterable g env x=pure x)(I:Nat->a8->Prop)
  (c:∀n s,I n s->wpAny (model prog w) A (pyNext it) (λr i=>match r with
   |none=>R (.ok .next) i
   |some v=>wpAny (model prog w) A (letOwnedTupleGo t1 it v) (λ_ q=>wpAny (model prog w) A (assign t1 env v) (λ_ o=>
     wpAny (model prog w) A (eval g env) (λx p=>wpAny (model prog w) A (pyIter x) (λt k=>
      codeAny (model prog w) A (.compStart (rN elt t1 D z g scope pos) 1 t acc env) (λr j=>match r with|.ok _=>∃m,m<n/\I m j|.error _=>False) k)
      (notedBy (model prog w) A env λe a=>R (.error e) a) p) (notedBy (model prog w) A env λe a=>R (.error e) a) o) (notedBy (model prog w) A env λe a=>R (.error e) a) q) (notedBy (model prog w) A env λe a=>R (.error e) a) i) (notedBy (model prog w) A env λe a=>R (.error e) a) s)
  (n:Nat)(h:I n s):codeAny (model prog w) A (.compLoop (rN elt t1 D z g scope pos) 0 it acc env) R s:=by
 refine rX rfl I (λn s F=>rZ (a7 (gU (a7 (cW (c n s F) (λr i l=>?_) λ_ _ b=>b))))) n h;cases r with
 |none=>exact cb l
 |some v=>
  refine a7 (cW l (λ_ q d=>a7 (cW d (λ_ o C=>a7 (uO (a7 (cW C (λx p B=>a7 (gU ?_)) λ_ _ b=>b)))) λ_ _ b=>b)) λ_ _ b=>b);rw[E];refine a7 (cb (a7 (fx (cW B (λt k y=>a7 (wpAny_runOwn (i_ y λr j u=>?_))) λ_ _ b=>b))));cases r with
  |error e=>simp_all
  |ok f=>exact cb ⟨rfl,u⟩
theorem Zy
  (g:codeAny (model prog w) A (.compLoop (rN elt t1 f d e scope pos) 1 it acc env) R s)
  (h:wpAny (model prog w) A (pyIter it) (λc a=>codeAny (model prog w) A (.compLoop (rN elt t1 f d e scope pos) 1 c acc env) R a) (notedBy (model prog w) A env λx a=>R (.error x) a) s):
  codeAny (model prog w) A (.compStart (rN elt t1 f d e scope pos) 1 it acc env) R s:=by
 refine LS (wpAny_notedAt (a7 (wpAny_askSetting (wpAny_ite ?_))));split
 ·first
   |exact a7 (cb (cb (pB rfl g)))
   |exact cb (pB rfl g)
 ·first
   |exact a7 (r6 (a7 (gU (a7 (cW h (λc a b=>cb (pB rfl b)) λ_ _ x=>x)))))
   |(refine a7 (r6 ?_);exact a7 (gU (a7 (cW h (λc a b=>cb (pB rfl b)) λ_ _ x=>x))))
def Iu(n:Nat)(J:It)(E:TG)(C:TI)(B:TG)(A:TE)(h:St)(D:U)(H:Hp)(Q:VK):Prop:=
 ∃W:Nat->Nat->Z V->Hp->Prop,(∃m,W 0 m [] (upd H D (.lst [])))/\∀i m q H,W i m q H->
  (J.stop i H/\Q (.ref D) H)\/(J.go i H/\∃N:Z V->Hp->Prop,(∀e a,N e a->∃c,c<m/\W (i+1) c e a)/\
   ∀v a,J.qm i H v a->∀os:St,os.length=n->E v (os++h) a λk I=>(∃t:St,t.length=n/\k=t++h)/\C k I λo G=>
    ∃l:Nat->Nat->Z V->St->Hp->Prop,(∃g,l 0 g q k G)/\∀d g b j f,l d g b j f->
     (o.stop d f/\(∃r:St,r.length=n/\j=r++h)/\N b f)\/(o.go d f/\∃w:Z V->St->Hp->Prop,(∀e u a,w e u a->∃c,c<g/\l (d+1) c e u a)/\
      ∀s z,o.qm d f s z->B s j z λp F=>A p F λy x=>x D=O (.lst b)/\b.length<sizeLine/\w (b++[y]) p (upd x D (.lst (b++[y])))))
section
variable {X:Cx}{L G g F B:bZ}{xs:Z af}{pos:Pos}{R:Scope}{cl:Z (af×U)}{fr:Z (af×Nat)}{w l:TG}{A:TI}{t:TE}{P:St}
def ZaU{H2:Hp}{s2:a8}{it:U}{f:Z U}{tn:Nat->cm->Prop}{J:It}{Q:VK}{RR:aV->U->Result->a8->Prop}{E:aR}
  (hc:X.calm=ar)(a:mQ X R cl xs fr)(hg:∀C s H f,PG (bB X xs fr R cl C s H f) G w)(rP:∀C s H f,PI (bB X xs fr R cl C s H f) F B A)(K8:∀C s H f,PG (bB X xs fr R cl C s H f) F l)(he:∀C s H f,PE (bB X xs fr R cl C s H f) L t)
  (jn:∀C x,foldedSetIterable B (compEnvC R cl C X.env) x=pure x)
  (I2:Inv X pins P H2 s2)(T:Turn X.prog X.w X.K G J f it tn)(dQ:tn 0 s2.heap)(f2:∀b∈f,gm X pins H2 b)
  (hw:∀D,H2 D=aI->Iu xs.length J w A l t (eW P fr) D H2 Q)
  (hR:∀D C s1 H1 m,Inv X pins P H1 s1->s1.heap.Ns C m->H1 C=aI->C≠X.env.locals->X.b_.heap.objs.size<=C->(∀y c,X.env.cells.lookup y=O c->c≠C)->(∀p∈X.pn++pins,p.1≠C)->Q (.ref D) H1->RR (.ref D) C (.ok .next) s1):
  wpAny X.md X.A (newList []) (λacc cI=>wpAny X.md X.A (newFunctionEnv R X.env.globals cl [] X.env.qual aI .none (O X.env)) (λiI fJ=>
   codeAny X.md X.A (.compStart (rN L G g F B R pos) 0 (.ref it) acc {iI with scope:=relabel R X.env}) (RR acc iI.locals) fJ) E cI) E s2:=by
 refine OI (tgt:=G) a I2 T dQ f2 hR λD C s I cI hD e3 I4 nC rK fin=>?_;obtain⟨W,⟨m0,w0⟩,turn⟩:=hw D hD;rw[←e3] at w0;refine ZbX (jn _) (λk s'=>∃i ys H' os,os.length=xs.length/\Inv (bB X xs fr R cl C s I f) [] (os++eW P fr) H' s'/\tn i s'.heap/\(∀b∈f,H' b=aI)/\W i k ys H') ?_ m0
  ⟨0,[],_,List.replicate xs.length aI,Wr,I4,nC,rK,w0⟩
 rintro n s5 ⟨i,ys,H5,os,iS,I5,mf,oU,w5⟩;have jI:∀{H':Hp},(∀b∈f,H' b=aI)->∀b∈f,gm (bB X xs fr R cl C s I f) [] H' b:=λ{H'} hn b h=>
  ⟨hn b h,(I5.ok.oO b h).1,I5.ok.qe b h,.inl h,(I5.ok.oO b h).2,λp hp=>absurd (show p∈([]:aJ) from hp) QS⟩
 rcases turn i n ys H5 w5 with⟨stop,qn⟩|⟨go,N,hN,step⟩
 ·refine aw (T.done (bB X xs fr R cl C s I f) rfl rfl rfl hc i [] s5 _ H5 _ I5 (jI oU) mf stop) λr s6 q=>?_;obtain⟨hr,I6⟩:=q;subst hr;exact fin _ _ _ I6 qn
 ·refine aw (T.item (bB X xs fr R cl C s I f) rfl rfl rfl hc i [] s5 _ H5 _ I5 (jI oU) mf go) λr s6 q=>?_;obtain⟨u,hr,h6⟩:=q;subst hr;refine aw h6 λ_ s7 q=>?_;obtain⟨v,H7,I7,r7,y7,nE,zD⟩:=q;have zE:=I7.pinned (jI zD) (T.obj _ _ nE);refine cW (hg _ _ _ _ _ s7 _ H7 v u _ zE r7 (step v H7 y7 os iS)) (λ_ s8 q=>?_) λ _ _=>False.elim;obtain⟨Uu,H8,I8,⟨iR,wu,e8⟩,q8⟩:=q;subst e8;have again:∀{ko:St} {H9:Hp} {s9:a8} {kq:Z V},ko.length=xs.length->Inv (bB X xs fr R cl C s I f) ([]++pX f s7.heap) (ko++eW P fr) H9 s9->N kq H9->
    ∃m,m<n/\∃i ys H' os,os.length=xs.length/\Inv (bB X xs fr R cl C s I f) [] (os++eW P fr) H' s9/\tn i s9.heap/\(∀b∈f,H' b=aI)/\W i m ys H':=λ{ko H9 s9 kq} l1 I9 n9=>by
   obtain⟨m',hm,w9⟩:=hN kq H9 n9;refine⟨m',hm,i+1,kq,H9,ko,l1,I9.sH,T.keep _ _ _ nE λb h o e=>(I9.pin (b,o) (Ye _ (Ye _ (n_ h e)))).1,λb h=>?_,w9⟩;obtain⟨o,e,d⟩:=T.obj _ _ nE b h;exact(I9.pin (b,o) (Ye _ (Ye _ (n_ h e)))).2.1
  refine cW (rP _ _ _ _ _ s8 _ H8 _ I8 q8) (λx s9 h9=>cW h9 (λrH CW h10=>?_) λ _ _=>False.elim) λ _ _=>False.elim;obtain⟨C7,K9,tn2,J2,qv,uq,zF,T2,Tj,K_,W2,⟨m2,w2⟩,Zhb⟩:=h10;subst uq;have I0:∀{H':Hp},(∀b∈K9,H' b=aI)->∀b∈K9,gm (bB X xs fr R cl C s I f) ([]++pX f s7.heap) H' b:=λhn b h=>⟨hn b h,(K_ b h).2⟩;have SH:codeAny X.md X.A (.compLoop (rN L G g F B R pos) 1 (.ref C7) (.ref D) (compEnvC R cl C X.env)) (λr j9=>match r with|.ok _=>∃m,m<n/\∃i ys H' os,os.length=xs.length/\Inv (bB X xs fr R cl C s I f) [] (os++eW P fr) H' j9/\tn i j9.heap/\(∀b∈f,H' b=aI)/\W i m ys H'|.error _=>False) CW:=by
   refine ZbW (λk s'=>∃j zs aG H',Inv (bB X xs fr R cl C s I f) ([]++pX f s7.heap) aG H' s'/\tn2 j s'.heap/\(∀b∈K9,H' b=aI)/\W2 j k zs aG H') ?_ m2 ⟨0,ys,_,qv,zF,Tj,λb h=>(K_ b h).1,w2⟩;rintro k CY ⟨j,zs,ZhZ,zG,wX,Tn,To,w11⟩;rcases Zhb j k zs ZhZ zG w11 with⟨stop,⟨w_,Zh0,e3⟩,qn⟩|⟨go,N2,hN2,Zhc⟩
   ·refine aw (T2.done (bB X xs fr R cl C s I f) rfl rfl rfl hc j _ CY _ zG _ wX (I0 To) Tn stop) λr s12 q=>?_;obtain⟨hr,I12⟩:=q;subst hr;subst e3;exact again Zh0 I12 qn
   ·refine aw (T2.item (bB X xs fr R cl C s I f) rfl rfl rfl hc j _ CY _ zG _ wX (I0 To) Tn go) λr s12 q=>?_;obtain⟨u2,hr,C8⟩:=q;subst hr;refine aw C8 λ_ s13 q=>?_;obtain⟨v2,C9,I13,r13,y13,Kd,Zh1⟩:=q;have Zh2:=I13.pinned (I0 Zh1) (T2.obj _ _ Kd);refine cW (K8 _ _ _ _ _ s13 _ C9 v2 u2 _ Zh2 r13 (Zhc v2 C9 y13)) (λ_ s14 q=>?_) λ _ _=>False.elim;obtain⟨Zh3,rQ,I14,q14⟩:=q;refine cW (he _ _ _ _ _ s14 _ rQ _ I14 q14) (λu1 s15 q=>?_) λ _ _=>False.elim;obtain⟨y,La,I15,r15,hD,hz,nJ⟩:=q;refine cW (AV (X:=bB X xs fr R cl C s I f) _ s15 _ La (.ref D) [y] _ [u1] (λ_ H'=>N2 (zs++[y]) Zh3 H') I15 rfl (.cons r15 .nil) ⟨_,zs,y,rfl,rfl,hD,hz,nJ⟩) (λ_ s16 q=>?_) λ_ _ z=>False.elim z;obtain⟨_,UM,Lb,_,q16⟩:=q;obtain⟨m',hm,w16⟩:=hN2 _ _ _ q16;refine⟨m',hm,j+1,_,_,UM,Lb.sH,T2.keep _ _ _ Kd λb h o e=>(Lb.pin (b,o) (Ye _ (Ye _ (n_ h e)))).1,λb h=>?_,w16⟩;obtain⟨o,e,d⟩:=T2.obj _ _ Kd b h;exact(Lb.pin (b,o) (Ye _ (Ye _ (n_ h e)))).2.1
  exact Zy SH (T2.self _ 0 _ _ _ Tj SH)
def Zgc(n:Nat)(b:TI)(fr:Z (af×Nat))(w:TG)(A:TI)(l:TG)(t:TE):TE:=λP H Q=>b P H λJ a=>∀D,a D=aI->Iu n J w A l t (eW P fr) D a Q
def Zc0(y:X.calm=ar)(a:mQ X R cl xs fr)(r:∀C s H fp,PG (bB X xs fr R cl C s H fp) G w)(p:PI X G g c)(f:∀C s H fp,PI (bB X xs fr R cl C s H fp) F B A)(K8:∀C s H fp,PG (bB X xs fr R cl C s H fp) F l)
  (u:∀C s H fp,PE (bB X xs fr R cl C s H fp) L t)(n:∀x,foldedSetIterable g X.env x=pure x:=by intro _;rfl)(j:∀C x,foldedSetIterable B (compEnvC R cl C X.env) x=pure x:=by intro _ _;rfl):
  PE X (.ListComp L [⟨G,g,[],0⟩,⟨F,B,[],0⟩] R pos) (Zgc xs.length c fr w A l t):=by
 intro b s P H Q I h;refine nA rfl n a.tV a.kind a.names (aw (p b s P H _ I h) λv d E=>aw E λrH s2 z=>?_);obtain⟨it,fp,tn,J,H2,e,I2,T,dQ,f2,k⟩:=z;subst e;refine ZaU y a r f K8 u j I2 T dQ f2 k ?_;intro D C d H1 m I1 o f0 f1 f3 W N q;exact⟨m,o,λh' i=>⟨.ref D,H1,I1.turned (i.extBut) f0 f1 (.inr f3) W N,rfl,q⟩⟩
end
def eR{K:ae}(h:X.K=K)(b:PE X l a):PI X c l (Sf K a):=h▸Px b
def mU{X:Cx}{K:ae}{b:Pos}{a:Z bZ}{k:Nat}{t:oS}{n:Nat}(h:X.K=K)(e:X.calm=ar)(d:zu X a t)
  (c:(assignEach a X.env).length=n:=by rfl)(f:(assignEach a X.env).findIdx? (·.1)=aI:=by rfl):PG X (.Tuple a k b) (JQ K n t):=h▸Zfm e d c f
def Zer{K:ae}(h:Nat->Z V->Hp->Prop)(h0:h 0 [] (upd H D (.lst [])))(hl:∀i c H,i<=xs.length->h i c H->aj K H a xs)
  (hs:∀i v c H,xs[i]?=O v->h i c H->∀os:St,os.length=n->C v (os++E) H λt H2=>(∃X:St,X.length=n/\t=X++E)/\B t H2 λJ2 H3=>∃(b:U) (f:Z V) (g:Nat->Z V->St->Hp->Prop),J2=kg K b/\g 0 c t H3/\
   (∀k c d H,k<=f.length->g k c d H->aj K H b f)/\
   (∀k s c d H,f[k]?=O s->g k c d H->nI s d H λN H6=>te N H6 λy H7=>H7 D=O (.lst c)/\c.length<sizeLine/\g (k+1) (c++[y]) N (upd H7 D (.lst (c++[y]))))/\
   ∀c d H,g f.length c d H->(∃T:St,T.length=n/\d=T++E)/\h (i+1) c H)
  (hd:∀c H,h xs.length c H->Q (.ref D) H)(I:∀d H (R o:It->Hp->Prop),(∀J H,R J H->o J H)->B d H R->B d H o)(G:∀v d H (R o:St->Hp->Prop),(∀d H,R d H->o d H)->C v d H R->C v d H o):Iu n (kg K a) C B nI te E D H Q:=by
 refine⟨λi m c H=>m=xs.length-i/\i<=xs.length/\h i c H,⟨xs.length,QS,Yx _,h0⟩,?_⟩;rintro i m c H ⟨rfl,hi,p⟩;have q:=hl i c H hi p;by_cases F:i<xs.length
 ·refine .inr ⟨⟨xs,xs[i],q,by simp[F]⟩,h (i+1),λdW H' A=>⟨xs.length-(i+1),QO,rfl,F,A⟩,λx H' y os iS=>?_⟩;obtain⟨e,y⟩:=y;subst e;refine G _ _ _ _ _ (λt H2 zz=>?_) (hs i x c _ (y xs q) p os iS);obtain⟨h1,h2⟩:=zz;refine⟨h1,I _ _ _ _ (λJ2 H3 h3=>?_) h2⟩;obtain⟨b,f,g,rfl,w0,wl,ws,P⟩:=h3;refine⟨λk W j l r=>W=f.length-k/\k<=f.length/\g k j l r,⟨f.length,QS,Yx _,w0⟩,?_⟩;rintro k W j l r ⟨rfl,hk,w⟩;have z:=wl k j l r hk w;by_cases L:k<f.length
  ·refine .inr ⟨⟨f,f[k],z,by simp[L]⟩,g (k+1),λdW aG H' A=>⟨f.length-(k+1),QO,rfl,L,A⟩,λs H5 u=>?_⟩;obtain⟨e2,u⟩:=u;subst e2;exact ws k s j l _ (u f z) w
  ·have e:k=f.length:=(eL hk (dg L))
   subst e;exact .inl ⟨⟨f,z,Yg _⟩,(P j l r w).1,(P j l r w).2⟩
 ·have e:i=xs.length:=(eL hi (dg F))
  subst e;exact .inl ⟨⟨xs,q,Yg _⟩,hd c H p⟩
section
variable [DecidableEq κ]
end
def Zes(g f:TE):TE:=λc H Q=>g c H λx e=>∃a,x=.ref a/\C6 e a/\f c e λy d=>∃b k v,d a=O (.dK b)/\y=kV k/\aF b k=O v/\Ch d a (.dK (ib b k)) (Q v)
def N8(B:PE X o i)(C:PE X e ty)(m:M1 X o "pop" apos e G):PE X (.Call (.Attribute o "pop" apos) [e] [] G) (Zes i ty):=by
 intro b s c H Q I h;refine uv m.base m.kr m.line mI slot_dict_pop PySem.F.type_dict_pop (aw (B b s c H _ I h) λu p g=>?_);obtain⟨x,N,f,r,a,E,d,w⟩:=g;subst E;obtain rfl:u=Value.ref a:=r;obtain⟨n,j,_⟩:=vY f d;refine⟨n,j,?_⟩;rw[m.trees];refine kA rfl (nO (nV (aw (C b p c N _ f w) λW T zz=>?_)));obtain⟨y,H2,L,q,z,k,v,F,D,l,t⟩:=zz;refine rj ?_;subst D;exact Zg4 L F q l (.inl rfl) λP R J A=>⟨v,_,J,A,t.at⟩
end L2
namespace L2
open PySem PySem.W PySem.Calls PySem.Spec PyProof.Rows
def eZ{c:Type}(n:Nat)(P:c->Prop):KasT c->Prop
 |.ret a=>P a
 |.ask i j k=>i<n/\j<n/\∀b,eZ n P (k b)
theorem eZ.bind{c d:Type}{n:Nat}{P:c->Prop}{Q:d->Prop}{f:c->KasT d}(e:∀a,P a->eZ n Q (f a)):∀{t:KasT c},eZ n P t->eZ n Q (t.bind f)
 |.ret a,h=>e a h
 |.ask _ _ _,h=>⟨h.1,h.2.1,λb=>eZ.bind e (h.2.2 b)⟩
def Good(n:Nat)(p:cw Nat):Prop:=0<n/\p.Perm (List.range n).toArray
def Good.get(g:Good n p)(m:Nat):p.getD m 0<n:=by
 by_cases h:m<p.size
 ·have e:p.getD m 0=p[m]:=by rw[Y1,W7 h];rfl
  rw[e];have:=g.2.mem_iff.mp (Lf h);simpa using this
 ·have e:p.getD m 0=0:=by rw[Y1,UK (dg h)];rfl
  rw[e];exact g.1
def Good.rev(g:Good n p)(i j:Nat):Good n (kas_rev p i j):=⟨g.1,(mirror_perm p i j _).trans g.2⟩
theorem GW(g:Good n p):∀f m,eZ n (λ_=>True) (kas_asc p f m)
 |0,_=>trivial
 |f+1,m=>⟨g.get m,g.get (m-1),λb=>by
  cases b with
  |true=>(dsimp only;rw[br rfl]);exact trivial
  |false=>(dsimp only;rw[bb Yo]);exact GW g f (m+1)⟩
theorem AW:∀f (p:cw Nat) m q,Good n p->eZ n (λr=>Good n r.1) (kas_desc f p m q)
 |0,_,_,_,g=>g
 |f+1,p,m,q,g=>⟨g.get m,g.get (m-1),λb=>by
  cases b with
  |true=>
   split;·exact AW f _ _ _ (g.rev _ _)
   ·exact AW f _ _ _ g
  |false=>
   refine⟨g.get (m-1),g.get m,λd=>?_⟩;cases d with
   |true=>(dsimp only;rw[br rfl]);exact g
   |false=>(dsimp only;rw[bb Yo]);exact AW f _ _ _ g⟩
def Nt(g:Good n p):eZ n (λr=>Good n r.2) (kas_tail3 m k p):=by
 refine eZ.bind (λa _=>?_) (GW (g.rev 0 m) _ _);exact g.rev 0 m
def MS(g:Good n p):eZ n (λr=>Good n r.2) (kas_descPart m k p):=by
 refine eZ.bind (λr a=>?_) (AW _ p _ _ g);split;·exact Nt (Good.rev a _ _)
 ·exact Nt a
theorem Nu(g:Good n p):eZ n (λr=>Good n r.2) (kas_count k p):=by
 refine eZ.bind (λm _=>?_) (GW g _ _);split;·exact g
 ·split
  ·refine⟨g.get _,g.get _,λb=>?_⟩;cases b with
   |true=>(dsimp only;rw[br rfl]);exact g
   |false=>(dsimp only;rw[bb Yo]);exact MS (g.rev _ _)
  ·exact MS g
theorem F_(g:Good n p):∀f l r,eZ n (λ_=>True) (kas_place p k f l r)
 |0,_,_=>trivial
 |f+1,l,r=>by
  unfold kas_place;split;·exact trivial
  ·refine⟨g.get _,g.get _,λb=>?_⟩;cases b with
   |true=>(dsimp only;rw[br rfl]);exact F_ g f _ _
   |false=>(dsimp only;rw[bb Yo]);exact F_ g f _ _
theorem OS{n:Nat}:∀f (p:cw Nat) k,Good n p->eZ n (Good n) (kas_bin f p k)
 |0,_,_,g=>g
 |f+1,p,k,g=>eZ.bind (λl _=>OS f _ _ ⟨g.1,(bubble_perm p k _).trans g.2⟩) (F_ g _ _ _)
def N9(h:0<n):eZ n (Good n) (kas_sort n):=by
 refine eZ.bind (λr a=>?_) (Nu ⟨h,rz _⟩);split;·exact OS _ _ _ a
 ·exact a
def range_getD(vs:Z α)(d:α):(List.range vs.length).map (λi=>vs.getD i d)=vs:=by
 refine Jg λi=>?_
 grind
def BE(h:cm)(b:Z aV):Prop:=∀v∈b,∃(a:U) (o:Obj) (n:Nat) (x y:Int) (t u:Tok),v=.ref a/\h.get? a=O o/\o.cls=.type "tuple"/\o.data=.seq #[.int x t,.int y u] n
theorem BE.UO:∀{b:Z aV},BE h b->∃fs:Z aV,KatTups h b fs/\fs.length=b.length/\∀v∈fs,∃x t,v=Value.int x t
 |[],_=>⟨[],KatTups.nil,rfl,λ_ h=>by cases h⟩
 |v::b,c=>by
  obtain⟨a,o,n,x,y,t,u,rfl,j,i,g⟩:=c v Yj;obtain⟨fs,e,d,k⟩:=BE.UO λz f=>c z (Yv _ f);refine⟨.int x t::fs,KatTups.cons j i g rfl e,by rw[Wm,Wm,d],λv c=>?_⟩
  grind
theorem N_:∀{c:Z U} {b:Z aV},Vals (c.map V.ref) b->b=c.map Value.ref
 |[],_,.nil=>rfl
 |a::c,u::b,.cons r t=>by
  rw[r,N_ t,Wv]
theorem Oa:∀a:Z U,Vals (a.map V.ref) (a.map Value.ref)
 |[]=>.nil
 |_::a=>.cons rfl (Oa a)
def Run{b:Type}(c:Nat->Nat->bA):KasT b->b
 |.ret a=>a
 |.ask i j k=>Run c (k (c i j))
theorem Run.bind:∀t:KasT α,Run lt (t.bind f)=Run lt (f (Run lt t))
 |.ret _=>rfl
 |.ask i j k=>Run.bind (k (lt i j))
theorem eZ.run(b:∀i j (C:bA->a8->Prop),i<n->j<n->C (lt i j) s->cmp i j C s):∀{t:KasT α},eZ n P t->G (Run lt t) s->t.kasWp cmp G s
 |.ret _,_,a=>a
 |.ask i j k,h,a=>b i j _ h.1 h.2.1 (eZ.run b (h.2.2 _) a)
structure ku(n:Nat)(lt:Nat->Nat->bA):Prop where
 trans:∀i j k,i<n->j<n->k<n->lt i j=ar->lt j k=ar->lt i k=ar
 C_:∀i j,i<n->j<n->i≠j->lt i j=aY->lt j i=ar
 Zh4:∀i j,i<n->j<n->lt i j=ar->lt j i=aY
def Sd(a:Nat->Nat->bA)(p:cw Nat)(m:Nat):Prop:=∀i j,i<j->j<m->a (p.getD i 0) (p.getD j 0)=ar
def Ds(a:Nat->Nat->bA)(p:cw Nat)(m:Nat):Prop:=∀i j,i<j->j<m->a (p.getD j 0) (p.getD i 0)=ar
def Good.size(g:Good n p):p.size=n:=by
 have:=g.2.size_eq
 grind
def Good.ne(g:Good n p)(h:i<n)(f:j<n)(b:i≠j):p.getD i 0≠p.getD j 0:=by
 have c:p.toList.Nodup:=by
  have:=(Jk.mp g.2).nodup_iff.mpr (by simpa using UE);exact this
 have sz:=g.size;have e:∀k (d:k<n),p.getD k 0=p.toList[k]'(by rw[Y7];omega):=λk d=>by
  simp_all
 have a:=Wc.mp c;rw[e i h,e j f];intro z;rcases Dj b with q|q;·exact a _ _ _ _ q z
 ·exact a _ _ _ _ q z.symm
section
variable {n:Nat}{lt:Nat->Nat->bA}
def P2(L:ku n lt)(g:Good n p)(f:1<=m)(a:Sd lt p m)(h:lt (p.getD (m-1) 0) (p.getD m 0)=ar):Sd lt p (m+1):=by
 intro i j c b;by_cases e:j=m
 ·subst e;by_cases d:i=j-1;·rwa[d]
  ·exact L.trans _ _ _ (g.get _) (g.get _) (g.get _) (a i (j-1) QO QO) h
 ·exact a i j c (dy (dR b) e)
def Zet(L:ku n lt)(g:Good n p)(f:1<=m)(a:Ds lt p m)(h:lt (p.getD m 0) (p.getD (m-1) 0)=ar):Ds lt p (m+1):=by
 intro i j c b;by_cases e:j=m
 ·subst e;by_cases d:i=j-1;·rwa[d]
  ·exact L.trans _ _ _ (g.get _) (g.get _) (g.get _) h (a i (j-1) QO QO)
 ·exact a i j c (dy (dR b) e)
theorem yv(L:ku n lt)(g:Good n p):∀f m,1<=m->m+f<=n->Sd lt p m->Sd lt p (Run lt (kas_asc p f m))/\m<=Run lt (kas_asc p f m)/\Run lt (kas_asc p f m)<=m+f
 |0,m,_,_,sd=>⟨sd,Yg _,Yg _⟩
 |f+1,m,h,j,sd=>by
  have e:Run lt (kas_asc p (f+1) m)=Run lt (if lt (p.getD m 0) (p.getD (m-1) 0)=ar then KasT.ret m else kas_asc p f (m+1)):=rfl;rw[e];by_cases c:lt (p.getD m 0) (p.getD (m-1) 0)=ar
  ·rw[br c];exact⟨sd,Yg _,by show m<=_;exact qg _ _⟩
  ·rw[bb c];have i:lt (p.getD m 0) (p.getD (m-1) 0)=aY:=by cases z:lt (p.getD m 0) (p.getD (m-1) 0) with|true=>exact absurd z c|false=>rfl
   obtain⟨a,b,d⟩:=yv L g f (m+1) (js h) QO (P2 L g h sd (L.C_ _ _ (g.get _) (g.get _) (g.ne QO QO QO) i))
   grind
theorem OT(L:ku n lt)(g:Good n p):∀f m,1<=m->m+f<=n->Ds lt p m->∃h,Run lt (kas_desc f p m 0)=(p,h,0)/\Ds lt p h/\m<=h/\h<=m+f
 |0,m,_,_,ds=>⟨m,rfl,ds,Yg _,Yg _⟩
 |f+1,m,i,l,ds=>by
  have e:Run lt (kas_desc (f+1) p m 0)=Run lt (if lt (p.getD m 0) (p.getD (m-1) 0)=ar then(if 0>0 then kas_desc f (kas_rev p (m-(0+1)) m) (m+1) 0 else kas_desc f p (m+1) 0) else KasT.ask (p.getD (m-1) 0) (p.getD m 0) λd=>if d=ar then KasT.ret (p,m,0) else kas_desc f p (m+1) (0+1)):=rfl;rw[e];by_cases c:lt (p.getD m 0) (p.getD (m-1) 0)=ar
  ·rw[br c,bb (by decide)];obtain⟨h,a,b,d,o⟩:=OT L g f (m+1) (js i) QO (Zet L g i ds c)
   grind
  ·rw[bb c];have k:lt (p.getD m 0) (p.getD (m-1) 0)=aY:=by cases z:lt (p.getD m 0) (p.getD (m-1) 0) with|true=>exact absurd z c|false=>rfl
   have j:Run lt (KasT.ask (p.getD (m-1) 0) (p.getD m 0) λd=>if d=ar then KasT.ret (p,m,0) else kas_desc f p (m+1) (0+1))=Run lt (if lt (p.getD (m-1) 0) (p.getD m 0)=ar then KasT.ret (p,m,0) else kas_desc f p (m+1) (0+1)):=rfl;rw[j,br (L.C_ _ _ (g.get m) (g.get (m-1)) (g.ne QO QO QO) k)];exact⟨m,rfl,ds,Yg _,(qg _ _)⟩
def P4(a:m<=p.size)(b:i<m):(kas_rev p 0 m).getD i 0=p.getD (m-1-i) 0:=by
 unfold kas_rev;rw[Y1,getElem?_mirror_all a,th ⟨Yx _,b⟩,←Y1]
 congr 1
 omega
def Ob(L:ku n lt)(g:Good n p)(h:1<=m)(f:m<=n)(l:Ds lt p m):Good n (Run lt (kas_tail3 m n p)).2/\Sd lt (Run lt (kas_tail3 m n p)).2 (Run lt (kas_tail3 m n p)).1/\m<=(Run lt (kas_tail3 m n p)).1/\(Run lt (kas_tail3 m n p)).1<=n:=by
 have sd:Sd lt (kas_rev p 0 m) m:=λi j k d=>by
  rw[P4 (by rwa[g.size]) (my k d),P4 (by rwa[g.size]) d];exact l _ _ QO QO
 have e:Run lt (kas_tail3 m n p)=(Run lt (kas_asc (kas_rev p 0 m) (n-m) m),kas_rev p 0 m):=by
  unfold kas_tail3;rw[Run.bind];rfl
 obtain⟨a,b,c⟩:=yv L (g.rev 0 m) (n-m) m h (gR (mr f)) sd;rw[e];exact⟨g.rev 0 m,a,b,QO⟩
def ZbY(L:ku n lt)(g:Good n p):Good n (Run lt (kas_count n p)).2/\Sd lt (Run lt (kas_count n p)).2 (Run lt (kas_count n p)).1/\1<=(Run lt (kas_count n p)).1/\(Run lt (kas_count n p)).1<=n:=by
 have s:=g.1;obtain⟨sd,f,D⟩:=yv L g (n-1) 1 (Yg _) QO (λi j l u=>QO);have e:Run lt (kas_count n p)=Run lt (if(Run lt (kas_asc p (n-1) 1)==n)=ar then KasT.ret (Run lt (kas_asc p (n-1) 1),p) else if Run lt (kas_asc p (n-1) 1)>1 then KasT.ask (p.getD 0 0) (p.getD (Run lt (kas_asc p (n-1) 1)-1) 0) λc=>if c=ar then KasT.ret (Run lt (kas_asc p (n-1) 1),p) else kas_descPart (Run lt (kas_asc p (n-1) 1)) n (kas_rev p 0 (Run lt (kas_asc p (n-1) 1))) else kas_descPart (Run lt (kas_asc p (n-1) 1)) n p):=by
  unfold kas_count;rw[Run.bind]
 rw[e];generalize h:Run lt (kas_asc p (n-1) 1)=r at sd f D;by_cases q:(r==n)=ar
 ·rw[br q];exact⟨g,sd,f,by show r<=n;omega⟩
 ·rw[bb q];have A:r≠n:=λz=>q (beq_iff_eq.mpr z);by_cases k:r>1
  ·rw[br k];have G:Run lt (KasT.ask (p.getD 0 0) (p.getD (r-1) 0) λc=>if c=ar then KasT.ret (r,p) else kas_descPart r n (kas_rev p 0 r))=Run lt (if lt (p.getD 0 0) (p.getD (r-1) 0)=ar then KasT.ret (r,p) else kas_descPart r n (kas_rev p 0 r)):=rfl;rw[G,br (sd 0 (r-1) (Nat.sub_pos_of_lt k) QO)];exact⟨g,sd,f,by show r<=n;omega⟩
  ·rw[bb k];have B:r=1:=(eL (dg k) f)
   subst B;have hd:lt (p.getD 1 0) (p.getD 0 0)=ar:=by
    have:n-1=(n-2)+1:=QO
    rw[this] at h;have F:Run lt (kas_asc p (n-2+1) 1)=Run lt (if lt (p.getD 1 0) (p.getD (1-1) 0)=ar then KasT.ret 1 else kas_asc p (n-2) (1+1)):=rfl;rw[F] at h;by_cases c:lt (p.getD 1 0) (p.getD (1-1) 0)=ar;·exact c
    ·rw[bb c] at h;have H:lt (p.getD 1 0) (p.getD (1-1) 0)=aY:=by cases z:lt (p.getD 1 0) (p.getD (1-1) 0) with|true=>exact absurd z c|false=>rfl
     have C:=P2 L g (Yg _) (λi j l u=>QO) (L.C_ _ _ (g.get _) (g.get _) (g.ne (dy (gb s) A) s (by decide)) H);obtain⟨_,b,_⟩:=yv L g (n-2) 2 (by decide) QO C;rw[show 1+1=2 from rfl] at h;omega
   have o:Ds lt p 2:=λi j l u=>by
    obtain rfl:j=1:=QO
    obtain rfl:i=0:=(eL (dR l) (tc _))
    exact hd
   obtain⟨t,a,b,c,d⟩:=OT L g (n-(1+1)) (1+1) (by decide) QO o;have E:Run lt (kas_descPart 1 n p)=Run lt (kas_tail3 t n p):=by
    unfold kas_descPart;rw[Run.bind,a];dsimp only;rw[bb (by decide)]
   rw[E];obtain⟨y,x,w,v⟩:=Ob L g (m:=t) (pO c) QO b;exact⟨y,x,(pO (d4 c w)),v⟩
theorem P5(L:ku n lt)(g:Good n p)(a:Sd lt p n):∀f m,1<=m->m+f<=n->Run lt (kas_asc p f m)=m+f
 |0,_,_,_=>rfl
 |f+1,m,b,c=>by
  have e:Run lt (kas_asc p (f+1) m)=Run lt (if lt (p.getD m 0) (p.getD (m-1) 0)=ar then KasT.ret m else kas_asc p f (m+1)):=rfl;rw[e,bb (by rw[L.Zh4 _ _ (g.get _) (g.get _) (a (m-1) m QO QO)];exact Yo),P5 L g a f (m+1) (js b) QO];exact Nat.add_right_comm _ _ _
def ZbZ(L:ku n lt)(g:Good n p)(a:Sd lt p n):Run lt (kas_count n p)=(n,p):=by
 have b:=g.1;unfold kas_count;rw[Run.bind,(P5 L g a (n-1) 1 (Yg _) QO),br (beq_iff_eq.mpr (mr (gb b)))];show(1+(n-1),p)=(n,p)
 grind
theorem Gz(L:ku n lt)(g:Good n p)(u:k<n)(j:Sd lt p k):∀f l r,l<=r->r<=k->r-l<=f->(∀i,i<l->lt (p.getD i 0) (p.getD k 0)=ar)->(∀i,r<=i->i<k->lt (p.getD k 0) (p.getD i 0)=ar)->
  Run lt (kas_place p k f l r)<=k/\(∀i,i<Run lt (kas_place p k f l r)->lt (p.getD i 0) (p.getD k 0)=ar)/\∀i,Run lt (kas_place p k f l r)<=i->i<k->lt (p.getD k 0) (p.getD i 0)=ar
 |0,l,r,v,a,x,q,o=>⟨by show l<=k;exact d4 v a,q,λi (b:l<=i) d=>o i QO d⟩
 |f+1,l,r,v,a,x,q,o=>by
  rw[kas_place];by_cases c:l≥r
  ·rw[br c];exact⟨by show l<=k;exact d4 v a,q,λi (b:l<=i) d=>o i (d4 c b) d⟩
  ·rw[bb c];have w:l<=(l+r)/2:=QO
   have h:(l+r)/2<r:=QO
   generalize(l+r)/2=m at w h;have y:Run lt (KasT.ask (p.getD k 0) (p.getD m 0) λc=>if c=ar then kas_place p k f l m else kas_place p k f (m+1) r)=Run lt (if lt (p.getD k 0) (p.getD m 0)=ar then kas_place p k f l m else kas_place p k f (m+1) r):=rfl;rw[y];by_cases s:lt (p.getD k 0) (p.getD m 0)=ar
   ·rw[br s];refine Gz L g u j f l m w (lg (eU h a)) QO q λi b d=>?_;by_cases e:i=m;·rwa[e]
    ·exact L.trans _ _ _ (g.get _) (g.get _) (g.get _) s (j m i (dy b (Ne.symm e)) d)
   ·rw[bb s];have A:lt (p.getD k 0) (p.getD m 0)=aY:=by cases z:lt (p.getD k 0) (p.getD m 0) with|true=>exact absurd z s|false=>rfl
    have t:=L.C_ _ _ (g.get k) (g.get m) (g.ne u (k8 (k8 h a) (lp u)) (Nat.ne_of_gt (eU h a))) A;refine Gz L g u j f (m+1) r (gb h) a QO (λi b=>?_) o;by_cases e:i=m;·rwa[e]
    ·exact L.trans _ _ _ (g.get _) (g.get _) (g.get _) (j i m (dy (dR b) e) (eU h a)) t
theorem Hw(L:ku n lt):∀f (p:cw Nat) k,Good n p->k+f=n->Sd lt p k->Good n (Run lt (kas_bin f p k))/\Sd lt (Run lt (kas_bin f p k)) n
 |0,p,k,g,e,sd=>by
  have y:k=n:=e
  refine⟨g,?_⟩;rw[←y];exact sd
 |f+1,p,k,g,e,sd=>by
  have t:k<n:=QO
  obtain⟨a,b,c⟩:=Gz L g t sd k 0 k (Yx _) (Yg _) (qs _) (λi u=>absurd u (Ww _)) (λi C B=>QO);have x:Run lt (kas_bin (f+1) p k)=Run lt (kas_bin f (bubble p k (k-Run lt (kas_place p k k 0 k))) (k+1)):=by
   rw[kas_bin,Run.bind]
  rw[x];generalize Run lt (kas_place p k k 0 k)=l at a b c;have v:Good n (bubble p k (k-l)):=⟨g.1,(bubble_perm p k _).trans g.2⟩;have sz:=g.size;have get:∀i,(bubble p k (k-l)).getD i 0=if i=l then p.getD k 0 else if l<i/\i<=k then p.getD (i-1) 0 else p.getD i 0:=λi=>by
   have h:=getElem?_bubble (xs:=p) (src:=k) QO (k-l) (xU _ _) i;rw[show k-(k-l)=l by omega] at h;rw[Y1,h];by_cases z:i=l;·rw[br z,br z,←Y1]
   ·rw[bb z,bb z];by_cases d:l<i/\i<=k;·rw[br d,br d,←Y1]
    ·rw[bb d,bb d,←Y1]
  refine Hw L f _ (k+1) v QO λi j w A=>?_;rw[get i,get j];by_cases r:i=l
  ·rw[br r,bb QO,br QO];exact c (j-1) QO QO
  ·rw[bb r];by_cases q:l<i/\i<=k
   ·rw[br q,bb QO,br QO];exact sd (i-1) (j-1) QO QO
   ·rw[bb q];have s:i<l:=QO
    by_cases o:j=l;·rw[br o];exact b i s
    ·rw[bb o];by_cases m:l<j/\j<=k
     ·rw[br m];exact sd i (j-1) QO QO
     ·rw[bb m];exact sd i j w QO
def Zc1(L:ku n lt)(h:0<n):Good n (Run lt (kas_sort n))/\Sd lt (Run lt (kas_sort n)) n:=by
 obtain⟨a,b,c,d⟩:=ZbY L ⟨h,rz _⟩;have e:Run lt (kas_sort n)=Run lt (if(Run lt (kas_count n (List.toArray (List.range n)))).1<n then kas_bin (n-max (Run lt (kas_count n (List.toArray (List.range n)))).1 1) (Run lt (kas_count n (List.toArray (List.range n)))).2 (max (Run lt (kas_count n (List.toArray (List.range n)))).1 1) else KasT.ret (Run lt (kas_count n (List.toArray (List.range n)))).2):=by
  unfold kas_sort;rw[Run.bind]
 rw[e];generalize Run lt (kas_count n (List.toArray (List.range n)))=r at a b c d;have f:max r.1 1=r.1:=QO
 by_cases z:r.1<n
 ·rw[br z,f];exact Hw L _ _ _ a (mr d) b
 ·rw[bb z];have:r.1=n:=(eL d (dg z))
  refine⟨a,?_⟩;rw[this] at b;exact b
end
def jE(p q:Int×Int):Prop:=p.1<q.1\/(p.1=q.1/\p.2<q.2)
def ltB(p q:Int×Int):bA:=if p.1=q.1 then decide (p.2<q.2) else decide (p.1<q.1)
def ltB_iff:ltB p q=ar↔jE p q:=by
 unfold ltB jE
 (split<;>simp_all)
def lq(a:Z (Int×Int))(i j:Nat):bA:=ltB (a.getD i (0,0)) (a.getD j (0,0))
theorem Zgd(d:c.Nodup):ku c.length (lq c):=by
 have n:∀{p q:Int×Int},ltB p q=aY->¬jE p q:=λ{p q} h z=>by rw[ltB_iff.mpr z] at h;cases h
 refine⟨λi j k _ _ _ m l=>?_,λi j g f ne h=>?_,λi j _ _ h=>?_⟩
 ·have a:=ltB_iff.mp m;have b:=ltB_iff.mp l;refine ltB_iff.mpr ?_;unfold jE at*;omega
 ·refine ltB_iff.mpr ?_;have a:=n h;have e:c.getD i (0,0)≠c.getD j (0,0):=by
   rw[Yd,Yd,Yb g,Yb f];have o:=Wc.mp d
   grind
  have r:¬((c.getD i (0,0)).1=(c.getD j (0,0)).1/\(c.getD i (0,0)).2=(c.getD j (0,0)).2):=λz=>e (Prod.ext z.1 z.2);unfold jE at*;omega
 ·cases z:lq c j i with
  |false=>rfl
  |true=>
   have a:=ltB_iff.mp h;have b:=ltB_iff.mp z;unfold jE at a b;omega
def tK(h:cm)(b:Z aV)(c:Z (Int×Int)):Prop:=Paired (λv (p:Int×Int)=>∃(a:U) (o:Obj) (n:Nat) (t u:Tok),v=.ref a/\h.get? a=O o/\o.cls=.type "tuple"/\o.data=.seq #[.int p.1 t,.int p.2 u] n) b c
theorem tK.gP(q:tK h vs b):BE h vs:=by
 intro v a;induction q with
 |nil=>cases a
 |cons f _ c=>grind
def AI{c a:Type}{F:c->a->Prop}{d:Z c}{g:Z a}(h:Paired F d g){i:Nat}(j:i<d.length)(x:c)(y:a):F (d.getD i x) (g.getD i y):=by
 obtain⟨b,e,f⟩:=kF h (Yb j)
 simp_all
section
variable {X:c6}{w:cD}{A:dO}{E:aR}{s:a8}
def Zc2(f:tK s.heap d e)(x:i<d.length)(v:j<d.length)(b:C (lq e i j) s):kas_ask X w A (tuples' ar) d i j C s:=by
 unfold kas_ask;obtain⟨a,o,n,t,u,B,y,I,g⟩:=AI f x Value.none (0,0);obtain⟨J,F,G,l,k,m,r,H,h⟩:=AI f v Value.none (0,0);unfold lq at b;rw[B,m];generalize e.getD i (0,0)=p at b g;generalize e.getD j (0,0)=q at b h;refine kat_lt y g r h ?_;unfold ltB at b;refine kat_cons (qO p.1 t q.1 l X w _ _ (kat_go (λc=>kat_yes (kat_cons (qO p.2 u q.2 k X w _ _ (kat_go (λD=>kat_yes (kat_nil ?_)) λD=>kat_no ?_)))) λc=>kat_no ?_));·simp_all
 ·rw[br (beq_iff_eq.mp c)] at b;exact kat_one _ _ (lt_int b)
 ·rw[bb (λz=>by rw[beq_iff_eq.mpr z] at c;cases c)] at b;exact kat_lt_int b
def Zge
  (k:∀c:SortSt,arrOf c=(List.toArray (List.range 64)).map (kas_item it)->failedOf c=aI->Q () c s)
  (h:(kas_count 64 (List.toArray (List.range 64))).kasWp (kas_cmp X w A a it) (λr d=>r=(64,List.toArray (List.range 64))/\d=s) s):kasC (model X w) A E sortRuns' Q (kas_st a it (List.toArray (List.range 64))) s:=by
 have g:(List.toArray (List.range 64)).size=64:=rfl;have b:(arrOf (kas_st a it (List.toArray (List.range 64)))).size=64:=(SX (f:=kas_item it)).trans g;have i:minRun' 64 64 0=32:=QK
 rw[sortRuns'_eq];refine kasC_bind (kasC_get ?_);(try dsimp only);simp only[b,i];refine kasC_bind (kasC_range ?_);show kasC _ _ _ (forIn (0::1::List.range' 2 62) _ _) _ _ _;refine kasC_cons ?_;(try dsimp only);rw[bb (show ¬(0:Nat)≥64 by decide)];simp only[Nat.sub_zero];refine kasC_bind (kas_count_ (show 1<=64 by decide) (zy g.symm) (λm l d _ _ _ j=>?_) h);obtain⟨e,rfl⟩:=j;cases e;(try dsimp only);rw[bb (show ¬(64:Nat)<32 by decide)];refine kasC_bind (kasC_get ?_);rw[show(pendingOf (kas_st a it (List.toArray (List.range 64)))).back?=aI from rfl];(try dsimp only);refine kasC_bind (kasC_modify (kasC_pure ?_));show kasC _ _ _ (forIn (1::List.range' 2 62) _ _) _ _ _;refine kasC_cons ?_;(try dsimp only);rw[br (show(0:Nat)+64≥64 by decide)];refine kasC_pure ?_;(try dsimp only);refine kasC_bind (kasC_range ?_);show kasC _ _ _ (forIn (0::1::List.range' 2 62) _ _) _ _ _;refine kasC_cons ?_;refine kasC_bind (kasC_get ?_);(try dsimp only);rw[br (show(pendingOf (setPending (kas_st a it (List.toArray (List.range 64))) ((pendingOf (kas_st a it (List.toArray (List.range 64)))).push (0,64,0)))).size<=1 from Yg 1)];refine kasC_pure ?_;(try dsimp only);exact kasC_pure (k _ rfl rfl)
def Zd{R:cw Nat->Prop}{a:U}{vs:Z aV}{n:Nat}{P:PySem.Fin->a8->Prop}(m:s.heap.get? a=O (seqObj "list" vs.toArray n))(dY:vs.length<=64)
  (J:2<=vs.length->∀j:cm,(∀b o,b≠a->s.heap.get? b=O o->j.get? b=O o)->∃t:SortKind,(∀(Q:SortKind->a8->Prop),Q t {s with heap:=j}->wpAny (model X w) A (keyKind' vs.toArray) Q E {s with heap:=j})/\
   ∀D:SortSt->a8->Prop,(∀(p:cw Nat) (d:SortSt),p.size=vs.length->arrOf d=p.map (kas_item (vs.toArray.zip vs.toArray))->failedOf d=aI->Good vs.length p->R p->D d {s with heap:=j})->wpAny (model X w) A (sortRuns'.run (SortSt.mk' t (vs.toArray.zip vs.toArray) #[] 7 aI)) (λr l=>D r.2 l) E {s with heap:=j})
  (h:∀out:Z aV,out.Perm vs->(2<=vs.length->∃p:cw Nat,Good vs.length p/\R p/\out=p.toList.map λi=>vs.getD i Value.none)->P (.done (.ret .none)) {s with heap:=sortedHeap s.heap a vs out.toArray}):
  wpAny (model X w) A (Builtin.«list.sort» ⟨[.ref a],[]⟩) P E s:=by
 rw[list_sort_plain];have y:a<s.heap.objs.size:=Yp m;refine a7 (listItems_at m rfl ?_);refine a7 (listUpdate_at m rfl ?_);obtain⟨k,x⟩:∃k,(s.heap.update a (Obj.mapSeq λ_=>#[])).get? a=O (seqObj "list" #[] k):=⟨_,get?_update_seq m (λ_=>#[])⟩;refine a7 (seqEpoch_at x rfl ?_);refine a7 (Pe ?_);refine a7 (pb ?_);refine fx ?_;have q:(((s.heap.update a (Obj.mapSeq λ_=>#[])).push (seqObj "tuple" vs.toArray 0)).push (seqObj "list" #[] 0)).get? a=O (seqObj "list" #[] k):=by
  rw[J0 _ _ _ (by rw[size_push',UQ];exact Y2 (Wo y)),J0 _ _ _ (by rw[UQ];exact Y2 y)];exact x
 have keep:∀b o,b≠a->s.heap.get? b=O o->(((s.heap.update a (Obj.mapSeq λ_=>#[])).push (seqObj "tuple" vs.toArray 0)).push (seqObj "list" #[] 0)).get? b=O o:=λb o F e=>
  Yc _ (Yc _ (by rw[UC _ _ _ _ F];exact e))
 dsimp only;have I:vs.toArray.size=vs.length:=QS
 by_cases f:vs.toArray.size<2
 ·rw[br f,br f];refine a7 (cb ?_);rw[LZ];refine a7 (cb ?_);dsimp only;refine a7 (seqEpoch_at q rfl ?_);refine a7 (listUpdate_at q rfl ?_ (hsz2:=by rw[SX];show(pairsOf vs).size<=_;rw[pairsOf_size,c7];exact ir dY (by decide)));simp only[tY,W9,mM];have e:(arrOf (SortSt.mk' general' (vs.toArray.zip vs.toArray) #[] 7 aI)).map (·.2)=vs.toArray:=by
   grind
  have:=h vs (mF _) (λz=>QO);rw[←e] at this;exact cb this
 ·rw[bb f,bb f];have G:2<=vs.length:=(dg f)
  obtain⟨t,H,v⟩:=J G _ keep;refine a7 (H _ ?_);refine a7 (cW (v (λd l=>l={s with heap:=((s.heap.update a (Obj.mapSeq λ_=>#[])).push (seqObj "tuple" vs.toArray 0)).push (seqObj "list" #[] 0)}/\∃p:cw Nat,p.size=vs.length/\arrOf d=p.map (kas_item (vs.toArray.zip vs.toArray))/\failedOf d=aI/\R p/\Good vs.length p) λp d a1 a2 a3 W T=>⟨rfl,p,a1,a2,a3,T,W⟩) ?_ λ_ _ e=>e);rintro⟨⟨⟩,d⟩ l ⟨rfl,p,hp,u,L,N,g⟩;dsimp only;have C:=kat_snds rfl u;have c:(p.toList.map λi=>vs.getD i Value.none).Perm vs:=by
   have k:p.toList.Perm (List.range vs.length):=by
    have:=Jk.mp g.2;simpa using this
   have B:=k.map λi=>vs.getD i Value.none;rw[range_getD] at B;exact B
  refine a7 (seqEpoch_at q rfl ?_);refine a7 (listUpdate_at q rfl ?_ (hsz2:=by rw[C,Yw,c.length_eq,c7];exact ir dY (by decide)));rw[L];simp[tY,W9,mM];have:=h _ c (λ_=>⟨p,g,N,rfl⟩);rw[←C] at this;exact cb this
def Zc3(h:b.Pairwise jE):Sd (lq b) (List.toArray (List.range b.length)) b.length:=λi j c a=>by
 have e:∀k,k<b.length->(List.toArray (List.range b.length)).getD k 0=k:=λk d=>by
  simp_all
 rw[e i (my c a),e j a];refine ltB_iff.mpr ?_;rw[Yd,Yd,Yb (my c a),Yb a];exact Wc.mp h i j (my c a) a c
def Zhf{m:SortSt->a8->Prop}(y:c.length=64)(v:c.length=f.length)(L:ku c.length (lq f))(u:f.Pairwise jE)(g:∀i j (C:bA->a8->Prop),i<c.length->j<c.length->C (lq f i j) s->kas_ask X w A h c i j C s)
  (x:∀(p:cw Nat) (d:SortSt),p.size=c.length->arrOf d=p.map (kas_item (c.toArray.zip c.toArray))->failedOf d=aI->Good c.length p->Sd (lq f) p c.length->m d s):wpAny (model X w) A (sortRuns'.run (SortSt.mk' h (c.toArray.zip c.toArray) #[] 7 aI)) (λr e=>m r.2 e) E s:=by
 have l:Good c.length (List.toArray (List.range c.length)):=⟨QO,rz _⟩;have q:Sd (lq f) (List.toArray (List.range c.length)) c.length:=by rw[v];exact Zc3 u
 rw[kat_ask_eq rfl] at g;have k:(c.toArray.zip c.toArray).size=c.length:=QS
 have t:SortSt.mk' h (c.toArray.zip c.toArray) #[] 7 aI=kas_st h (c.toArray.zip c.toArray) (List.toArray (List.range c.length)):=by
  unfold kas_st;rw[←k,kas_range]
 rw[t];have n:=eZ.run (G:=λr e=>r=(c.length,List.toArray (List.range c.length))/\e=s) g (Nu l) ⟨(ZbZ L l q),rfl⟩;have o:=λd a b=>x _ d QS a b l q;rw[y] at n o⊢;exact Zge (Q:=λ_ d e=>m d e) o n
def Zz(ho:s.heap.get? l=O o)(hc:o.cls=.type "list")(hd:o.data=.seq ah.toArray n)(N:tK s.heap ah ps)(nd:ps.Nodup)(dY:ah.length<64\/(ah.length=64/\ps.Pairwise jE))(q:ah.toArray.size<=sizeLine)
  (h:∀(d c:cm) (out:Z aV) (e:Nat),(∀b o,s.heap.get? b=O o->d.get? b=O o)->(∀b o,d.get? b=O o->c.get? b=O o)->c.get? d.objs.size=O (seqObj "list" out.toArray e)->out.Perm ah->(2<=ah.length->∃p:cw Nat,Good ah.length p/\Sd (lq ps) p ah.length/\out=p.toList.map λi=>ah.getD i Value.none)->Q (.ref d.objs.size) {s with heap:=c}):
  wpAny (model X w) A (call (.builtin "sorted") [.ref l]) Q E s:=by
 refine zt kind_sorted plain_sorted entry_sorted (args_sorted1 _) ?_;unfold Builtin.«sorted»;refine a7 (m:=checkCount "sorted" 1 1 _) (cb ?_);refine a7 (uu l (.inl rfl) ho hc hd (λd H=>?_) q);refine a7 (pb ?_);have e1:ah.toArray.toList=ah:=QS
 rw[e1];have f:(d.push (seqObj "list" ah.toArray 0)).get? d.objs.size=O (seqObj "list" ah.toArray 0):=Yn _ rfl;refine a7 (fx (n7 slot_list_sort ⟨_,f,rfl⟩ entry_list_sort (Zd (R:=λp=>Sd (lq ps) p ah.length) f QO (λr c k=>?_) λout pm eo=>⟨_,rfl,?_⟩) (args_list_sort _)))
 ·have z:tK c ah ps:=L2.Paired.aW N λv p ⟨a,o,n,t,u,e,q1,W,P⟩=>by
   have J:=H _ _ q1;exact⟨a,o,n,t,u,e,k _ _ (Y2 (Yp J)) (Yc _ J),W,P⟩
  obtain⟨fs,k1,k2,k3⟩:=z.gP.UO;have F:=dC z;have ask:∀(B:dO) i j (C:bA->a8->Prop),i<ah.length->j<ah.length->C (lq ps i j) {s with heap:=c}->kas_ask X w B (tuples' ar) ah i j C {s with heap:=c}:=λB i j C hi hj hC=>Zc2 (s:={s with heap:=c}) z hi hj hC;have L:=Zgd nd;rw[←F] at L;refine⟨tuples' ar,λQ hQ=>?_,λQ' Le=>?_⟩
  rotate_left
  ·rcases dY with lt|⟨Lc,pw⟩
   ·obtain⟨g,sd⟩:=Zc1 L (eU (sC _) r);refine kat_run (G:=λp D=>D={s with heap:=c}/\p=Run (lq ps) (kas_sort ah.length)) rfl r lt (λp aQ D a1 a2 a3 a4=>?_) (eZ.run (ask _) (N9 (eU (sC _) r)) ⟨rfl,rfl⟩)
    grind
   ·exact Zhf Lc F L pw (ask _) Le
  refine kat_kind (T:=.type "int") k1 QO (λv hv=>?_) QD hQ;obtain⟨x,t,rfl⟩:=k3 v hv;exact .now
 ·obtain⟨e,he⟩:=sortedHeap_at f;exact cb ⟨_,rfl,h d _ out e H (λb ob I=>by
   have y:=Yp I;rw[sortedHeap_old (Y2 y) (by rw[size_push'];exact Wo y),J0 _ _ _ (Y2 y)];exact I) he pm eo⟩
end
def Zc4(K:ae):Z V->Hp->VK->Prop:=λe H Q=>∃(p:U) (b:Z U) (bG:Z (Int×Int)),e=[.ref p]/\aj K H p (b.map V.ref)/\Paired (λa (p:Int×Int)=>H a=O (.tup [.int p.1,.int p.2])) b bG/\bG.Nodup/\(b.length<64\/(b.length=64/\bG.Pairwise jE))/\
 ∀(d:Z U) (c:Z (Int×Int)),Paired (λa (p:Int×Int)=>H a=O (.tup [.int p.1,.int p.2])) d c->c.Perm bG->c.Pairwise jE->Nw H (.lst (d.map V.ref)) Q
theorem FD:∀{a:Z c},(∀z∈a,F (f z) (g z))->Paired F (a.map f) (a.map g)
 |[],_=>.nil
 |z::a,h=>.cons (h z Yj) (FD λz b=>h z (Yv _ b))
theorem Zc5{K:ae}(hK:X.K=K):cU X (.builtin "sorted") (Zc4 K):=by
 subst hK;intro l s J H xs us Q I r h;obtain⟨p,b,bG,rfl,hq,v,nd,dY,q⟩:=h;obtain⟨u,rfl,N⟩:=vals1 r;cases N;obtain⟨ah,T,pl,C⟩:=I.list hq;obtain⟨o,n,ho,hc,_,hd⟩:=pl;have ei:=N_ T;subst ei;rw[Ya] at C;have t:=dC v;have L:tK s.heap (b.map Value.ref) bG:=by
  have x:∀{b:Z U} {bG:Z (Int×Int)},Paired (λa (p:Int×Int)=>H a=O (.tup [.int p.1,.int p.2])) b bG->tK s.heap (b.map Value.ref) bG:=λ{b bG} h=>by
   induction h with
   |nil=>exact .nil
   |cons w _ ih=>
    refine .cons ?_ ih;obtain⟨iH,R,⟨o2,g1,g2,n2,g3⟩,_⟩:=I.tuple (aK.of w);obtain⟨u1,u2,rfl,⟨t1,rfl⟩,⟨t2,rfl⟩⟩:=vals2 R
    simp_all
  exact x v
 refine Zz (ps:=bG) ho hc hd L nd (by rwa[Ya]) (by rw[Yw,Ya];exact C) λw h' out e kp K0 he k f=>?_;have G:Inv X l J H {s with heap:=w}:=I.kept (t':=s.toks) kp;obtain⟨d,m,y,B,A,W⟩:∃(d:Z U) (m:Z (Int×Int)),out=d.map Value.ref/\Paired (λa (p:Int×Int)=>H a=O (.tup [.int p.1,.int p.2])) d m/\m.Perm bG/\m.Pairwise jE:=by
  by_cases z:2<=(b.map Value.ref).length
  ·have f:=f z;rw[Ya] at f z;obtain⟨P,g,sd,f⟩:=f;rw[t] at g sd;have E:P.toList.Perm (List.range bG.length):=by
    have:=Jk.mp g.2;simpa using this
   have F:∀i∈P.toList,i<bG.length:=λi c=>Wf.mp (E.subset c);refine⟨P.toList.map λi=>b.getD i 0,P.toList.map λi=>bG.getD i (0,0),?_,FD λi c=>AI v (by exact t▸F i c) 0 (0,0),?_,?_⟩
   ·rw[f,Y0];refine Wk λi c=>?_;have:=F i c;show(b.map Value.ref).getD i Value.none=Value.ref (b.getD i 0);rw[Yd,Yi,Yb QO,Yd,Yb QO];rfl
   ·have:=E.map λi=>bG.getD i (0,0);rw[range_getD] at this;exact this
   ·rw[W5,Wc];intro i j c D eB;have sz:=g.size;have gi:P.toList[i]=P.getD i 0:=by
     rw[Y7] at c;simp_all
    have gj:P.toList[j]=P.getD j 0:=by
     rw[Y7] at D;simp_all
    rw[gi,gj];rw[Y7] at D;exact ltB_iff.mp (sd i j eB QO)
  ·rw[Ya] at z;have eq:out=b.map Value.ref:=by
    match b,out,z,k with
    |[],out,_,k=>exact List.Perm.eq_nil k
    |[a],out,_,k=>exact List.Perm.eq_singleton k
    |_::_::_,_,z,_=>exact absurd QS z
   refine⟨b,bG,eq,v,mF _,?_⟩;match bG,t with
   |[],_=>exact .nil
   |[a],_=>exact List.pairwise_singleton _ _
   |_::_::_,t=>exact absurd t (by simp;omega)
 refine⟨.ref w.objs.size,_,G.laid (o:=.lst (d.map V.ref)) K0 (Yg _) ⟨?_,out,e,by rw[y];exact Oa d,by simpa[seqObj] using he⟩,rfl,(q d m B A W).at _ (G.au.fresh (Yg _))⟩;rw[Ya,dC B,A.length_eq];exact Jz (mR QO)
end L2
namespace L2
open PySem PySem.Spec PyProof.Rows
def sW{K:ae}(h:X.K=K)(p:PE X ex (KP X.K T r to t)):PE X ex (KP K T r to t):=h▸p
def Zeu{K:ae}(h:X.K=K)(p:PE X ex (JW X.K T r to)):PE X ex (JW K T r to):=h▸p
def AX{X:Cx}{K:ae}{a:bZ}{d:TE}(h:X.K=K)(p:PT X a (λc H Q=>d c H λx b=>∃k,Cc X.K x b k/\Q k b)):PT X a (λc H Q=>d c H λx b=>∃k,Cc K x b k/\Q k b):=h▸p
def P6{K:ae}(h:X.K=K)(p:cE X f (Co X.K b)):cE X f (Co K b):=h▸p
def jF(a:Hp)(d:U):Prop:=(∀b,a d≠O (.tup b))/\(∀o u,a d≠O (.bp o u))/\∀c,a d≠O (.dz c)
def Inv.I_(I:Inv X pins σ H s)(e:H d=O (.dK c)):jF X.jY d:=
 ⟨(λa z=>by have:=I.base.gP d a z;rw[e] at this;cases this),(λo u z=>by have:=I.base.ie d o u z;rw[e] at this;cases this),(λb z=>by obtain⟨m,h⟩:=I.base.ig d b z;rw[e] at h;cases h)⟩
def Inv.swap(I:Inv X pins σ H s)(e:H d=O o)(i:jF X.jY d)(y:∀a,o≠.own a)(w:∀f,o≠.tup f)(C:bY X.prog X.w H s.heap d o'):Inv X pins σ (upd H d o') s:=by
 have gO:∀{a:U} {o1:HO},bY X.prog X.w H s.heap a o1->bY X.prog X.w (upd H d o') s.heap a o1:=λ{a o1} x=>x.gO (λ_ _ _ z=>z)
  (λb z=>by rw[az (λq=>y a (Yr (e.symm.trans (by rw[←q];exact z))))];exact z)
  (λb f z=>by rw[az (λq=>w f (Yr (e.symm.trans (by rwa[←q]))))];exact z)
 have ne:∀{b:U},H b=aI->b≠d:=λ{b} l z=>by rw[z,e] at l;cases l
 refine⟨I.ok,I.os,I.bare,⟨I.base.keep,I.base.slot,λb g q n A=>?_,I.base.there,λb f q=>?_,λb g u q=>?_,λb k q=>?_⟩,I.loc,I.cell,?_,λx c m=>?_,λp B=>?_,λa o1 j=>?_,I.len⟩
 ·have h:=I.base.free b g q n A;rwa[az (ne h)]
 ·rw[az (λz=>i.1 f (by rwa[←z]))];exact I.base.gP b f q
 ·rw[az (λz=>i.2.1 g u (by rwa[←z]))];exact I.base.ie b g u q
 ·rw[az (λz=>i.2.2 k (by rwa[←z]))];exact I.base.ig b k q
 ·rw[az (ne I.free)];exact I.free
 ·rw[az (ne (I.ia x c m))];exact I.ia x c m
 ·obtain⟨v,t,r⟩:=I.pin p B;exact⟨v,by rwa[az (ne t)],r⟩
 ·by_cases z:a=d
  ·subst z;rw[aM] at j
   grind
  ·rw[az z] at j;exact gO (I.au a o1 j)
def De(d:U)(c:Obj)(b:Z (Key×V)):It:=⟨λi H=>H d=O (.bp c (.dK b))/\i<b.length,λi H v e=>∃a k y,b[i]?=O (k,y)/\H a=aI/\v=.ref a/\e=upd H a (.tup [kV k,y]),λi H=>H d=O (.bp c (.dK b))/\b.length<=i⟩
def SI(h:(dH P w).is k u=ar):RelV (kV k) u:=by
 rcases mP h with⟨i,t,rfl,rfl⟩|⟨x,t,rfl,rfl⟩;·exact⟨t,rfl⟩
 ·exact⟨t,rfl⟩
def BF:∀{a:Z (Key×V)} {b:Z (Key×aV)} {i:Nat} {k:Key} {y:V},KV a b->a[i]?=O (k,y)->∃v,b[i]?=O (k,v)/\RelV y v:=λ{a b i k y} r h=>by
 obtain⟨q,e,d,c⟩:=kF r h
 grind
def vZ(I:Inv X pins σ H s)(e:H d=O (.bp f (.dK c)))(j:f.data=.dict m ep):∃a,KV c a/\s.heap.DictAt (dH X.prog X.w) d a ep:=by
 obtain⟨g,_,_,a,b,o,p,n,i,l,h,k⟩:=(I.au d _ e);rw[g] at i;cases i;rw[j] at h;cases h;exact⟨a,b,f,m,g,l,j,k⟩
def XO:entryFor table "dict_itemiterator.__iter__"=O Builtin.«dict_keyiterator.__iter__»:=entryFor_alias (id':="dict_keyiterator.__iter__") QJ rfl QK QJ
theorem ZaV{P:c6}{w:cD}{K:ae}{m:Z bZ}{x1:Nat}{q:Pos}(it d:U)(od:Obj)(es:cw DictEntry)(ep:Nat)(gp:od.data=.dict es ep)(a:Z (Key×V)):Turn P w K (.Tuple m x1 q) (De d od a) [it] it (λi h=>∃ok l,IsItemIter h it d i a.length ep ok l) where
 mem:=QS
 obj:=λi h st b j=>by
  grind
 keep:=λi h h' st k=>let⟨ok,l,e⟩:=st;⟨ok,l,k it QS _ e⟩
 item:=by
  intro X C t D hc i f s W H E I x st u;subst C t D;obtain⟨p,N,f2,L,J,G⟩:=x it QS;obtain⟨ok,l,st⟩:=st;obtain⟨r,bf⟩:=u;obtain⟨vs,c,R⟩:=vZ I r gp;have n:=c.length;obtain⟨k,y,hk⟩:∃k y,a[i]?=O (k,y):=⟨a[i].1,a[i].2,Yb bf⟩;obtain⟨v,hv,ry⟩:=BF c hk;rw[n] at st;have Tr:=Yp st;refine wpAny_pyNext_items_item st R hv λg h' y8 out ZjS hsz keep=>⟨_,rfl,wpAny_letOwnedTupleGo_items out λF T sb=>?_⟩;have sz:(2:Nat)<=sizeLine:=by rw[c7];decide
  have I1:Inv X f W (upd H s.heap.objs.size (.tup [kV k,y])) {s with heap:=F,toks:=s.toks}:=Inv.turned (s:={s with heap:=s.heap.push {cls:=.type "tuple",data:=.seq #[g,v]},toks:=s.toks}) (I.laid (λb o e=>Yc _ e) (Yg _) ⟨sz,[g,v],.cons (SI y8) (.cons ry .nil),oB.new _ _⟩) (λb o j e=>by
   refine(sb.2 b j).trans ?_;by_cases z:b=s.heap.objs.size
   ·subst z;rw[Yn _ rfl] at e
    grind
   ·rw[J0 _ _ _ z] at e;exact keep b o j e) (by rw[az (Y2 Tr)];exact p) N L J G
  refine⟨.ref s.heap.objs.size,_,I1,rfl,⟨_,k,y,hk,I.au.fresh (Yg _),rfl,rfl⟩,⟨g,v,by rw[n];exact T⟩,λb j=>?_⟩;have e:b=it:=by simpa using j
  subst e;rw[az (Y2 Tr)];exact p
 done:=by
  intro X C t D hc i f s W H E I x st u;subst C t D;obtain⟨p,N,f2,L,J,G⟩:=x it QS;obtain⟨ok,l,st⟩:=st;obtain⟨r,hle⟩:=u;obtain⟨vs,c,R⟩:=vZ I r gp;have n:=c.length;rw[n] at st;exact wpAny_pyNext_items_end (I.ok.hd hc) st R (Wa QO) λh' eb=>⟨rfl,I.turned (λb o j e=>eb b o j e) p N L J G⟩
 self:=λA i s Q E st h=>by
  obtain⟨ok,l,st⟩:=st;have B:s.TypeIs (.ref it) "dict_itemiterator":=⟨_,st,rfl⟩;exact wpAny_pyIter_slot B yk (n7 yk B XO (cb ⟨_,rfl,"dict_itemiterator",_,B,PySem.F.slot_dict_itemiterator_next.lookup,h⟩) (PySem.F.args_dict_itemiterator_iter_1 _))
def Zgf(g:Hp)(f:TE):TI:=λe H R=>f e H λx c=>∃d a,x=.ref d/\c d=O (.dK a)/\∀b,jF g d->R (De d b a) (upd c d (.bp b (.dK a)))
def Zc6{X:Cx}{H0:Hp}{l:Z bZ}{L:Nat}{p g E:Pos}{o:bZ}{A:TE}(h0:X.jY=H0)(ho:PE X o A)(W:attributeBase o "items" X.env (eval o X.env)=eval o X.env:=by rfl)(m5:(g.endLine==E.line)=ar:=by rfl):PI X (.Tuple l L p) (.Call (.Attribute o "items" g) [] [] E) (Zgf H0 A):=by
 subst h0;intro f s w H R I h;refine qx W m5 (aw (ho f s w H _ I h) λv i J=>?_);obtain⟨x,H1,j,T,d,c,ex,hd,q⟩:=J;subst ex;obtain rfl:v=Value.ref d:=T;obtain⟨Q,P,kB⟩:=vY j (.inl ⟨c,.inl hd⟩);refine⟨"dict","dict.items",mI,zL,PySem.F.type_dict_items,Q,P,kA rfl (qB ?_)⟩;obtain⟨zz,_,y,n,u⟩:=lS j.au hd;refine kX zL u.typeIs PySem.F.entry_dict_items (PySem.F.args_dict_items_1 _) (meets_dict_items (dH X.prog X.w) d kB) ⟨⟨y,u⟩,?_⟩;obtain⟨k,D,t,r,hx,C,N⟩:=id u;have B:=j.I_ hd;have up:∀b o,i.heap.get? b=O o->(i.heap.push {cls:=.type "dict_items",data:=.fields #[.ref d]}).get? b=O o:=λb o e=>Yc _ e;refine wpAny_pyIter_items (knd:=dH X.prog X.w) (d:=d) (ep:=t) ⟨_,Yn _ rfl,rfl,rfl⟩ ⟨k,D,up _ _ r,hx,C,N⟩ ?_;generalize hG:i.heap.push {cls:=.type "dict_items",data:=.fields #[.ref d]}=G at up⊢;have F:Inv X f w H1 {i with heap:=G.push {cls:=.type "dict_itemiterator",data:=.fields #[.none,.bool aY,.ref d,.int 0 0,.int y.length 0,.int t 0,.none,.none]},toks:=i.toks}:=j.kept (t':=i.toks) λb o e=>Yc _ (up b o e);have Lg:=F.au d _ hd;have I3:=F.swap (o':=.bp k (.dK c)) hd B (λa z=>by cases z) (λxs z=>by cases z) ⟨Yc _ (up _ _ r),Lg⟩;have m:i.heap.objs.size<=G.objs.size:=by rw[←hG,Je];exact qg _ _
 refine⟨G.objs.size,[G.objs.size],_,De d k c,_,rfl,I3,ZaV _ d k D t C c,⟨.none,.none,?_⟩,λb hb=>?_,q k B⟩
 ·show(G.push _).get? G.objs.size=_;exact n.length▸Yn _ rfl
 ·have e:b=G.objs.size:=by simpa using hb
  subst e;have Lh:=Yp r;exact j.qf m (by rw[az (W1 (Y5 Lh m))];exact j.au.fresh m)
def Inv.zb(I:Inv X pins σ H s)(c:jF X.jY d)(e:H d=O (.bp g (.dK b))):Inv X pins σ (upd H d (.dK b)) s:=
 I.swap e c (λa z=>by cases z) (λf z=>by cases z) (I.au d _ e).2
def Df(d:U)(b:Obj)(a:Z (Key×V)):It:=⟨λi H=>H d=O (.bp b (.dK a))/\i<a.length,λi H v c=>c=H/\∃k y,a[i]?=O (k,y)/\v=kV k,λi H=>H d=O (.bp b (.dK a))/\a.length<=i⟩
theorem Zb0{P:c6}{w:cD}{K:ae}{tg:bZ}(it d:U)(G:Obj)(es:cw DictEntry)(T:Nat)(R:G.data=.dict es T)(a:Z (Key×V)):Turn P w K tg (Df d G a) [it] it (λi h=>h.IsKeyIter it d i a.length T) where
 mem:=QS
 obj:=λi h st b q=>by
  have e:b=it:=by simpa using q
  obtain⟨o,e,c,W⟩:=st
  simp_all
 keep:=λi h N st k=>let⟨o,e,r⟩:=st;⟨o,k it QS o e,r⟩
 item:=by
  intro X t n u L i g s σ H E I l st p;subst t n u;obtain⟨D,C,f2,B,z,x⟩:=l it QS;obtain⟨m,bf⟩:=p;obtain⟨vs,f,F⟩:=vZ I m R;have j:=f.length;obtain⟨k,y,J⟩:∃k y,a[i]?=O (k,y):=⟨a[i].1,a[i].2,Yb bf⟩;obtain⟨v,hv,ry⟩:=BF f J;rw[j] at st;refine wpAny_pyNext_dict_item st F hv λkey N y8 aQ sb=>?_;obtain⟨o,e,c,W⟩:=id aQ;exact⟨_,rfl,tG e c W QD ⟨kV k,H,(I.turned (sb.extBut) D C B z x),SI y8,⟨rfl,k,y,J,rfl⟩,by rw[j];exact aQ,λb q=>(l b q).1⟩⟩
 done:=by
  intro X t n u L i g s σ H E I l st p;subst t n u;obtain⟨D,C,f2,B,z,x⟩:=l it QS;obtain⟨m,hle⟩:=p;obtain⟨vs,f,F⟩:=vZ I m R;have j:=f.length;rw[j] at st;exact wpAny_pyNext_dict_end (I.ok.hd L) st F (Wa QO) λN eb=>⟨rfl,I.turned (eb) D C B z x⟩
 self:=λA i s Q E st h=>wpAny_pyIter_keyiter st h
def JA(g:Hp)(f:TE):TI:=λe H R=>f e H λx c=>∃d a,x=.ref d/\c d=O (.dK a)/\∀b,jF g d->R (Df d b a) (upd c d (.bp b (.dK a)))
def P7(L:X.jY=H0)(G:PE X l B):PI X tg l (JA H0 B):=by
 subst L;intro c s n H R I h;refine aw (G c s n H _ I h) λv g y=>?_;obtain⟨x,Q,j,D,d,f,N,hd,q⟩:=y;subst N;obtain rfl:v=Value.ref d:=D;obtain⟨T,E,A,k,P⟩:=lS j.au hd;obtain⟨i,t,u,m,F,r,C⟩:=id P;have p:=j.I_ hd;refine wpAny_pyIter_dict E ⟨i,t,m,F,r,C⟩ ?_;have w:Inv X c n Q {g with heap:=g.heap.push {cls:=.type "dict_keyiterator",data:=.fields #[.ref d,.int 0 0,.int A.length 0,.int u 0]},toks:=g.toks}:=j.kept λb o e=>Yc _ e;refine⟨g.heap.objs.size,[g.heap.objs.size],_,Df d i f,_,rfl,(w.swap (o':=.bp i (.dK f)) hd p (λa z=>by cases z) (λW z=>by cases z) ⟨Yc _ m,(w.au d _ hd)⟩),Zb0 _ d i t u r f,⟨_,Yn _ rfl,rfl,by rw[k.length];rfl⟩,λb J=>?_,q i p⟩;have e:b=g.heap.objs.size:=by simpa using J
 subst e;exact j.qf (Yg _) (by rw[az (W1 (Yp m))];exact j.au.fresh (Yg _))
def SJ(e:Hp)(h:TE)(g:TG)(i:TS):TS:=λD f H=>JR (JA e h) g i ⟨λj b=>∃d c a,jF e d/\b d=O (.bp c (.dK a))/\D.nx j (upd b d (.dK a)),λv b=>∃d c a,jF e d/\b d=O (.bp c (.dK a))/\D.rt v (upd b d (.dK a)),λ_ _=>False,λ_ _=>False⟩ f H
theorem ZaW(C:X.jY=H0)(w:PassesOwn X.md X.A X.env X.xe)(A:X.calm=ar)(y:PI X k l (JA H0 n))(z:PG X k g)(B:fR X body o)(t:∀x,foldedSetIterable l X.env x=pure x:=by intro _;rfl):PS X (.For k l body [] pos) (SJ H0 n g o):=by
 subst C;intro a s m H D I h;refine aw (jb w A y z B t a s m H _ I h) λf F q=>?_;cases f with
 |next=>obtain⟨i,E,j,d,p,c,b,e,q⟩:=q;exact⟨i,_,j.zb b e,q⟩
 |brk=>obtain⟨_,_,_,q⟩:=q;exact False.elim q
 |cont=>obtain⟨_,_,_,q⟩:=q;exact False.elim q
 |ret u=>obtain⟨v,i,E,j,r,d,p,c,b,e,q⟩:=q;exact⟨v,i,_,j.zb b e,r,q⟩
def Zc7(G:∀R:VK,R (.ref d) H1->r σ H R)(C:H1 d=O (.dK kvs))(n:Nat->St->Hp->Prop)
  (v:∀b,n 0 σ (upd H1 d (.bp b (.dK kvs))))
  (z:∀b i k y j h (N:St->Hp->Prop) (t:VK) (bk:St->Hp->Prop),kvs[i]?=O (k,y)->n i j h->h d=O (.bp b (.dK kvs))->(∀l f,n (i+1) l f->f d=O (.bp b (.dK kvs))->N l f)->g (kV k) j h λF L=>s ⟨N,t,bk,N⟩ F L)
  (I:∀b j h,n kvs.length j h->h d=O (.bp b (.dK kvs))->D.nx j (upd h d (.dK kvs))):SJ P r g s D σ H:=by
 refine G _ ⟨d,kvs,rfl,C,λb w=>⟨λi m j h=>m=kvs.length-i/\i<=kvs.length/\n i j h/\h d=O (.bp b (.dK kvs)),⟨kvs.length,(Nat.add_zero _),Yx _,v b,aM⟩,?_⟩⟩;rintro i m j h ⟨rfl,B,p,o⟩;by_cases q:i<kvs.length
 ·refine .inr ⟨⟨o,q⟩,λl f=>n (i+1) l f/\f d=O (.bp b (.dK kvs)),λl f ⟨a,c⟩=>⟨kvs.length-(i+1),QO,rfl,q,a,c⟩,?_⟩;rintro x J ⟨rfl,k,y,A,rfl⟩;exact z b i k y j J (λl f=>n (i+1) l f/\f d=O (.bp b (.dK kvs))) _ _ A p o λl f u E=>⟨u,E⟩
 ·have e:i=kvs.length:=(eL B (dg q))
  subst e;exact .inl ⟨⟨o,Yg _⟩,d,b,kvs,w,o,I b _ _ p o⟩
theorem Zev(r:KT H a xs):xs.map (·.1)=a.map (·.1):=by
 induction r with
 |nil=>rfl
 |cons f _ b=>simp_all
def Lj(d:U)(b:Obj)(a:Z (Key×V)):It:=⟨λi H=>H d=O (.bp b (.dK a))/\i<a.length,λi H v c=>c=H/\∃k,a[i]?=O (k,v),λi H=>H d=O (.bp b (.dK a))/\a.length<=i⟩
theorem Zb1{P:c6}{w:cD}{K:ae}{tg:bZ}(it d:U)(G:Obj)(es:cw DictEntry)(T:Nat)(R:G.data=.dict es T)(a:Z (Key×V)):Turn P w K tg (Lj d G a) [it] it (λi h=>h.IsValIter it d i a.length T) where
 mem:=QS
 obj:=λi h st b q=>by
  have e:b=it:=by simpa using q
  obtain⟨o,e,c,W⟩:=st
  simp_all
 keep:=λi h N st k=>let⟨o,e,r⟩:=st;⟨o,k it QS o e,r⟩
 item:=by
  intro X t n u L i g s σ H E I l st p;subst t n u;obtain⟨D,C,f2,B,z,x⟩:=l it QS;obtain⟨m,bf⟩:=p;obtain⟨vs,f,F⟩:=vZ I m R;have j:=f.length;obtain⟨k,y,J⟩:∃k y,a[i]?=O (k,y):=⟨a[i].1,a[i].2,Yb bf⟩;obtain⟨v,hv,ry⟩:=BF f J;rw[j] at st;refine wpAny_pyNext_values_item st F hv λN aQ sb=>?_;obtain⟨o,e,c,W⟩:=id aQ;exact⟨_,rfl,tG e c W QD ⟨y,H,(I.turned (sb.extBut) D C B z x),ry,⟨rfl,k,J⟩,by rw[j];exact aQ,λb q=>(l b q).1⟩⟩
 done:=by
  intro X t n u L i g s σ H E I l st p;subst t n u;obtain⟨D,C,f2,B,z,x⟩:=l it QS;obtain⟨m,hle⟩:=p;obtain⟨vs,f,F⟩:=vZ I m R;have j:=f.length;rw[j] at st;exact wpAny_pyNext_values_end (I.ok.hd L) st F (Wa QO) λN eb=>⟨rfl,I.turned (eb) D C B z x⟩
 self:=λA i s Q E st h=>wpAny_pyIter_valiter st h
def JB(g:Hp)(f:TE):TI:=λe H R=>f e H λx c=>∃d a,x=.ref d/\c d=O (.dK a)/\∀b,jF g d->R (Lj d b a) (upd c d (.bp b (.dK a)))
def Zew{X:Cx}{H0:Hp}{F:bZ}{g C:Pos}{o:bZ}{w:TE}(h0:X.jY=H0)(ho:PE X o w)(Q:attributeBase o "values" X.env (eval o X.env)=eval o X.env:=by rfl)(T:(g.endLine==C.line)=ar:=by rfl):PI X F (.Call (.Attribute o "values" g) [] [] C) (JB H0 w):=by
 subst h0;intro f s t H R I h;refine qx Q T (aw (ho f s t H _ I h) λv i E=>?_);obtain⟨x,H1,j,P,d,c,ex,hd,q⟩:=E;subst ex;obtain rfl:v=Value.ref d:=P;obtain⟨N,L,W⟩:=vY j (.inl ⟨c,.inl hd⟩);refine⟨"dict","dict.values",mI,rn,zw,N,L,kA rfl (qB ?_)⟩;obtain⟨zz,_,u,m,r⟩:=lS j.au hd;refine kX rn r.typeIs zr (zl _) (J6 (dH X.prog X.w) d W) ⟨⟨u,r⟩,?_⟩;obtain⟨k,B,p,n,hx,A,J⟩:=id r;have y:=j.I_ hd;have up:∀b o,i.heap.get? b=O o->(i.heap.push {cls:=.type "dict_values",data:=.fields #[.ref d]}).get? b=O o:=λb o e=>Yc _ e;refine wpAny_pyIter_values (knd:=dH X.prog X.w) (d:=d) (ep:=p) ⟨_,Yn _ rfl,rfl,rfl⟩ ⟨k,B,up _ _ n,hx,A,J⟩ ?_;generalize hG:i.heap.push {cls:=.type "dict_values",data:=.fields #[.ref d]}=G at up⊢;have D:Inv X f t H1 {i with heap:=G.push {cls:=.type "dict_valueiterator",data:=.fields #[.ref d,.int 0 0,.int u.length 0,.int p 0]},toks:=i.toks}:=j.kept (t':=i.toks) λb o e=>Yc _ (up b o e);have Lg:=D.au d _ hd;have I3:=D.swap (o':=.bp k (.dK c)) hd y (λa z=>by cases z) (λxs z=>by cases z) ⟨Yc _ (up _ _ n),Lg⟩;have l:i.heap.objs.size<=G.objs.size:=by rw[←hG,Je];exact qg _ _
 refine⟨G.objs.size,[G.objs.size],_,Lj d k c,_,rfl,I3,Zb1 _ d k B p A c,⟨_,Yn _ rfl,rfl,by rw[m.length];rfl⟩,λb hb=>?_,q k y⟩;have e:b=G.objs.size:=by simpa using hb
 subst e;have Lh:=Yp n;exact j.qf l (by rw[az (W1 (Y5 Lh l))];exact j.au.fresh l)
def SK(e:Hp)(h:TE)(g:TG)(i:TS):TS:=λD f H=>JR (JB e h) g i ⟨λj b=>∃d c a,jF e d/\b d=O (.bp c (.dK a))/\D.nx j (upd b d (.dK a)),λv b=>∃d c a,jF e d/\b d=O (.bp c (.dK a))/\D.rt v (upd b d (.dK a)),λ_ _=>False,λ_ _=>False⟩ f H
theorem ZaX(A:X.jY=H0)(t:PassesOwn X.md X.A X.env X.xe)(y:X.calm=ar)(w:PI X k (.Call (.Attribute o "values" apos) [] [] B) (JB H0 m))(x:PG X k g)(z:fR X body n):
  PS X (.For k (.Call (.Attribute o "values" apos) [] [] B) body [] pos) (SK H0 m g n):=by
 subst A;intro a s l H D I h;refine aw (jb t y w x z (λ_=>rfl) a s l H _ I h) λf E q=>?_;cases f with
 |next=>obtain⟨i,C,j,d,p,c,b,e,q⟩:=q;exact⟨i,_,j.zb b e,q⟩
 |brk=>obtain⟨_,_,_,q⟩:=q;exact False.elim q
 |cont=>obtain⟨_,_,_,q⟩:=q;exact False.elim q
 |ret u=>obtain⟨v,i,C,j,r,d,p,c,b,e,q⟩:=q;exact⟨v,i,_,j.zb b e,r,q⟩
def Zc8(G:∀R:VK,R (.ref d) H1->r σ H R)(C:H1 d=O (.dK kvs))(n:Nat->St->Hp->Prop)
  (v:∀b,n 0 σ (upd H1 d (.bp b (.dK kvs))))
  (z:∀b i k y j h (N:St->Hp->Prop) (t:VK) (bk:St->Hp->Prop),kvs[i]?=O (k,y)->n i j h->h d=O (.bp b (.dK kvs))->(∀l f,n (i+1) l f->f d=O (.bp b (.dK kvs))->N l f)->g y j h λF L=>s ⟨N,t,bk,N⟩ F L)
  (I:∀b j h,n kvs.length j h->h d=O (.bp b (.dK kvs))->D.nx j (upd h d (.dK kvs))):SK P r g s D σ H:=by
 refine G _ ⟨d,kvs,rfl,C,λb w=>⟨λi m j h=>m=kvs.length-i/\i<=kvs.length/\n i j h/\h d=O (.bp b (.dK kvs)),⟨kvs.length,(Nat.add_zero _),Yx _,v b,aM⟩,?_⟩⟩;rintro i m j h ⟨rfl,B,p,o⟩;by_cases q:i<kvs.length
 ·refine .inr ⟨⟨o,q⟩,λl f=>n (i+1) l f/\f d=O (.bp b (.dK kvs)),λl f ⟨a,c⟩=>⟨kvs.length-(i+1),QO,rfl,q,a,c⟩,?_⟩;rintro x J ⟨rfl,k,A⟩;exact z b i k x j J (λl f=>n (i+1) l f/\f d=O (.bp b (.dK kvs))) _ _ A p o λl f u E=>⟨u,E⟩
 ·have e:i=kvs.length:=(eL B (dg q))
  subst e;exact .inl ⟨⟨o,Yg _⟩,d,b,kvs,w,o,I b _ _ p o⟩
section
variable {W ty:TE}
def Zgg(W ty:TE):TS:=λD c H=>W c H λx e=>ty c e λy d=>∃a b k,x=.ref a/\d a=O (.dK b)/\y=kV k/\(aF b k).isSome=ar/\Ch d a (.dK (ib b k)) (D.nx c)
def Zc9(q:PE X o W)(r:PE X i ty):PS X (.Delete [.Subscript o i J] pos) (Zgg W ty):=by
 intro b s c H D I h;refine wpAny_Delete (B1 (zS (aw (q b s c H _ I h) λu f d=>?_)));obtain⟨x,B,A,j,n⟩:=d;refine aw (r b f c B _ A n) λF E d=>?_;obtain⟨y,G,z,g,a,p,k,v,e,t,l,m⟩:=d;subst v t;obtain rfl:u=Value.ref a:=j;exact ZbQ z e g l λC w=>Cm ⟨c,_,w,m.at⟩
theorem OU[DecidableEq α]:∀{a:Z (α×β)} {j:Nat} {k:α} {p:β},(a.map (·.1)).Nodup->a[j]?=O (k,p)->a.eraseIdx j=a.filter λx=>decide (x.1≠k)
 |[],_,_,_,_,h=>rfl
 |x::a,0,k,p,b,h=>by
  have e:x=(k,p):=by simpa using h
  subst e;rw[List.eraseIdx_cons_zero,Jv QS];refine(J9.mpr λy g=>?_).symm
  grind
 |x::a,j+1,k,p,b,h=>by
  obtain⟨f,d⟩:=Y4.mp (show(x.1::a.map (·.1)).Nodup from b);have c:a[j]?=O (k,p):=by simpa using h
  rw[List.eraseIdx_cons_succ,OU d c,Wx (by simpa using(λz=>f (by exact z▸Yh.mpr ⟨_,Ym c,rfl⟩)))]
theorem OV(f:α->β):∀(a:Z α) (j:Nat),(a.map f).eraseIdx j=(a.eraseIdx j).map f
 |[],_=>rfl
 |_::_,0=>rfl
 |x::a,j+1=>by
  show f x::(a.map f).eraseIdx j=f x::(a.eraseIdx j).map f;rw[OV f a j]
theorem Zex(k:Z Key)(r:KT H a xs):KT H (ib a k) (xs.filter λx=>decide (x.1≠k)):=by
 unfold ib;induction r with
 |nil=>exact .nil
 |@cons p x c xs f t b=>
  by_cases e:p.1=k;·simp_all
  ·rw[Wx (by simpa using e),Wx (by rw[←f.1];simpa using e)];exact .cons f b
def Zc_{P:c6}{w:cD}{A:dO}{E:aR}{s:a8}{d a:U}{b:HeapKind P w (Z Key)}{h:Z (Z Key×U×aV)}{k:Z Key}{Q:bt DictEntry->a8->Prop}(c:b.room A)(r:b.is s.heap k a)(D:s.heap.DictOfH b d h)(f:k∈h.map (·.1))(H:h.length<=sizeLine)
  (y:∀e m u,m.DictOfH b d (h.filter λx=>decide (x.1≠k))->Heap.SameBut d s.heap m->Q (O e) {s with heap:=m,toks:=u}):wpAny (model P w) A (Builtin.Dict.takeOut d (.ref a)) Q E s:=by
 obtain⟨G,n,B,g,z,hd,i,t,q⟩:=D;refine fx (a7 (b.pyHash c r (a7 (wpAny_dictFind_heap c r g hd i t q (λno=>?_) λj p e=>?_))))
 ·obtain⟨x,l,e⟩:=Yh.mp f;obtain⟨j,v,C⟩:=W0.mp l;exact absurd (by rw[Yb v,C,←e]) (no j x.2)
 ·have sz:n.size=h.length:=by rw[←Y7,i,Ya]
  refine a7 (wpAny_dictEntries g hd ?_);rw[entry_at i j,e];have o:=tx s.heap d (Obj.mapDictKeys λx=>x.eraseIdxIfInBounds j);refine a7 (wpAny_updateDictKeys g hd (cb (y _ _ _ ⟨_,_,B+1,Wq _ g (Obj.isFreed_of_dict (CM hd _)),z.mapDictKeys _,CM hd _,?_,λx l=>?_,?_⟩ o)) (by rwa[sz]))
  ·rw[←OU q e];have F:(n.eraseIdxIfInBounds j).toList=n.toList.eraseIdx j:=by
    simp_all
   rw[F,i,OV]
  ·exact b.keeps (t x (Yy.mp l).1) g hd o
  ·grind
theorem ZaY(w:A.units+1<cLine)(I:Inv X pins σ H s)(e:H a=O (.dT d))(J:H b=O (.tup (k.map kV)))(l:(aF d k).isSome=ar)(h:∀n,Inv X pins σ (upd H a (.dT (ib d k))) n->Q () n):
  wpAny X.md A (delItem (.ref a) (.ref b)) Q E s:=by
 obtain⟨z,r,m,f,i⟩:=SE I.au e;have R:d.length=m.length:=Paired.length f;have there:k∈m.map (·.1):=by
  rw[Zev f];cases g:aF d k with
  |none=>rw[g] at l;cases l
  |some v=>
   unfold aF at g;cases j:d.find? λu=>decide (u.1=k) with
   |none=>rw[j] at g;cases g
   |some p=>exact Yh.mpr ⟨p,List.mem_of_find?_eq_some j,dm (by simpa using List.find?_some j)⟩
 refine Dd i.typeIs QD ri (n7 ri i.typeIs zj ?_ (zd _ _));unfold Builtin.«dict.__delitem__»;refine a7 ?_;unfold Builtin.Dict.dictSlotArgs;refine a7 (wpAny_notOrdered_dict i.typeIs ?_);show wpAny _ _ (pure (Value.ref a,Value.ref b)) _ _ s;refine cb ?_;show wpAny _ _ (Builtin.Dict.takeOut a (.ref b)>>=_) _ _ s;refine a7 (Zc_ (l3 w) (qZ I.au J) i there QO λen T P L t=>?_);refine a7 (mh (cb ⟨.none,rfl,?_⟩));obtain⟨o,D,F,q,C,B,y,_,x⟩:=L;refine h _ (sL I (by exact e▸fy) t ⟨o,q⟩ ⟨Yz (Y3 _ _) z,r,_,(Zex k f).keeps λc N G=>by
   rwa[az (R9 G e (λz=>nomatch z))],o,D,F,q,C,B,y,x⟩)
def Zgh(W ty:TE):TS:=λD d H=>W d H λx f=>ty d f λy e=>∃a b c k,x=.ref a/\e a=O (.dT c)/\y=.ref b/\e b=O (.tup (k.map kV))/\(aF c k).isSome=ar/\Ch e a (.dT (ib c k)) (D.nx d)
def OW(t:X.A.units+1<cLine)(v:PE X o W)(w:PE X i ty):PS X (.Delete [.Subscript o i P] pos) (Zgh W ty):=by
 intro c s d H D I h;refine wpAny_Delete (B1 (zS (aw (v c s d H _ I h) λu g f=>?_)));obtain⟨x,G,F,m,p⟩:=f;refine aw (w c g d G _ F p) λr L f=>?_;obtain⟨y,N,E,j,a,b,q,k,A,e,z,B,l,n⟩:=f;subst A z;obtain rfl:u=Value.ref a:=m;obtain rfl:r=Value.ref b:=j;exact ZaY t E e B l λJ C=>Cm ⟨d,_,C,n.at⟩
end
end L2
namespace L2
open PySem PySem.W PySem.Spec PyProof.Rows
def ZaZ(a:Nat->af)(b:∀i v,P i v->∃t,v=.str (a i) t):CmpOf prog w A .Lt P (λi j=>decide ((a i).cps.toList<(a j).cps.toList)):=λi j d c s Q E f e h=>by
 obtain⟨t,rfl⟩:=b i d f;obtain⟨u,rfl⟩:=b j c e;exact JZ (m7 s _ t) (m7 s _ u) F.slot_str_lt F.entry_str_lt (F.args_str_lt_2 _ _) (gives_str_lt _ _ t u) (λx=>nomatch x) h
def Za0(a:Nat->af)(b:∀i v,P i v->∃t,v=.str (a i) t):CmpOf prog w A .Gt P (λi j=>decide ((a j).cps.toList<(a i).cps.toList)):=λi j d c s Q E f e h=>by
 obtain⟨t,rfl⟩:=b i d f;obtain⟨u,rfl⟩:=b j c e;exact JZ (m7 s _ t) (m7 s _ u) F.slot_str_gt F.entry_str_gt (F.args_str_gt_2 _ _) (gives_str_gt _ _ t u) (λx=>nomatch x) h
def qi(a b:af):af:=if b.cps.toList<a.cps.toList then b else a
def qj(a b:af):af:=if a.cps.toList<b.cps.toList then b else a
def Zgi{s:a8}:(s.heap.push {cls:=.type "tuple",data:=.seq #[a,b]}).IsTuple s.heap.objs.size #[a,b]:=⟨_,Yn _ rfl,rfl,0,rfl⟩
section
variable {X:c6}{w:cD}{A:dO}{E:aR}{s:a8}
theorem P8(i:Nat)(v:aV)(h:(#[Value.str a t,Value.str b u]:cw aV)[i]?=O v):∃t',v=.str (([a,b]:Z af).getD i "") t':=by
 match i,h with
 |0,h=>exact⟨t,(Yr h).symm⟩
 |1,h=>exact⟨u,(Yr h).symm⟩
 |i+2,h=>simp at h
def OX{a b:af}{t u:Tok}{Q:aR}{y:CmpOp}(f:af->af->bA)(G:A.handled=aI)
  (r:CmpOf X w A.in1 y (λi v=>(#[Value.str a t,Value.str b u]:cw aV)[i]?=O v) λi j=>f (([a,b]:Z af).getD i "") (([a,b]:Z af).getD j ""))
  (h:∀g k t',(∀c o,s.heap.get? c=O o->g.get? c=O o)->Q (.str (if f b a=ar then b else a) t') {s with heap:=g,toks:=k}):
  wpAny (model X w) A.in1 (pyIter (.ref s.heap.objs.size)) (λC p=>∃I fp x n P St B,C=.ref I/\Walks X w A.in1 I fp x n P St/\St 0 p.heap/\(∀b∈fp,b<p.heap.objs.size)/\0<n/\CmpOf X w A.in1 y P B/\
   ∀v g k,P (argBest B (n-1)) v->(∀b o,b∉x->p.heap.get? b=O o->g.get? b=O o)->Q v {p with heap:=g,toks:=k}) E
   {s with heap:=s.heap.push {cls:=.type "tuple",data:=.seq #[.str a t,.str b u]}}:=by
 have z:=Zgi (a:=.str a t) (b:=.str b u) (s:=s);refine uk z ?_;have d:(s.heap.push {cls:=.type "tuple",data:=.seq #[.str a t,.str b u]}).objs.size=s.heap.objs.size+1:=Je ..;refine⟨_,[_,s.heap.objs.size],[_],_,_,_,_,rfl,Walks.tuple (A:=A.in1) G _ s.heap.objs.size (by rw[d];exact Y2 (Ja _)) #[.str a t,.str b u],
  ⟨⟨_,Yn _ rfl,rfl,rfl⟩,z.push _⟩,λc q=>?_,QS,r,λv g k H F=>?_⟩
 ·show c<((s.heap.push _).push _).objs.size;rw[Je,d];rcases Ys.mp q with rfl|q;·rw[d];exact Ja _
  ·rw[Yl.mp q];exact Wo (Ja _)
 ·have l:∀c o,s.heap.get? c=O o->g.get? c=O o:=λc o e=>by
   refine F c o (λD=>?_) (Yc _ (Yc _ e));have:=Yp e;rw[Yl.mp D,d] at this;exact Wd _ (Nat.lt_of_succ_lt this)
  have m:(#[Value.str a t,Value.str b u]:cw aV)[if f b a=ar then 1 else 0]?=O v:=H;obtain⟨t',J⟩:∃t',v=.str (if f b a=ar then b else a) t':=by
   by_cases c:f b a=ar
   ·rw[br c] at m⊢;exact⟨u,by simpa using m.symm⟩
   ·rw[bb c] at m⊢;exact⟨t,by simpa using m.symm⟩
  subst J;exact h g k t' l
end
def Za1(d:X.calm=ar):cU X (.builtin "min") (λa H Q=>∃i j:af,a=[.str i,.str j]/\Q (.str (qi i j)) H):=by
 intro b s e H a g Q I r h;obtain⟨i,j,rfl,q⟩:=h;obtain⟨u,f,rfl,⟨t,rfl⟩,⟨m,rfl⟩⟩:=vals2 r;exact call_min_two (OX (λx y=>decide (x.cps.toList<y.cps.toList)) (I.ok.hd d) (ZaZ _ P8) λn l c k=>⟨.str (qi i j),H,I.kept k,⟨c,by unfold qi;simp[Ke]⟩,q⟩)
def Za2(d:X.calm=ar):cU X (.builtin "max") (λa H Q=>∃i j:af,a=[.str i,.str j]/\Q (.str (qj i j)) H):=by
 intro b s e H a g Q I r h;obtain⟨i,j,rfl,q⟩:=h;obtain⟨u,f,rfl,⟨t,rfl⟩,⟨m,rfl⟩⟩:=vals2 r;exact call_max_two (OX (λx y=>decide (y.cps.toList<x.cps.toList)) (I.ok.hd d) (Za0 _ P8) λn l c k=>⟨.str (qj i j),H,I.kept k,⟨c,by unfold qj;simp[Ke]⟩,q⟩)
def Zgj:bootBuiltins "max"=O (.builtin "max"):=QK
def P9:cE X (binaryOp .Mult) (λx y H Q=>∃(z:af) (n:Nat),x=.str z/\y=.int (n:Int)/\z.length<=100/\n<=100/\Q (.str (Txt.mul z (n:Int))) H):=by
 intro a s i H x y v u Q I d c h;obtain⟨z,n,rfl,rfl,e,f,q⟩:=h;obtain⟨t,rfl⟩:=d;obtain⟨j,rfl⟩:=c;have l:z.length*n<=10000:=Yz (Dg e f) (by decide);refine PySem.SB.mul ⟨?_,λr _=>?_,λ_ _=>?_⟩ λb k=>⟨.str (Txt.mul z (n:Int)),H,I.tok k,⟨b,rfl⟩,q⟩;·rw[eJ QO,eJ QO];rfl
 ·have m:(1:Int)<=(n:Int):=QO
  intro g;have p:((2:Int)^63-1)/(n:Int)≥(2^63-1)/100:=by
   refine Int.le_ediv_of_mul_le QO ?_
   grind
  have o:((2:Int)^63-1)/100>100:=QD
  omega
 ·rw[We];exact eJ (by rw[c7];exact UG (ir l (by decide)))
def jM:V->bA
 |.int _=>ar
 |.str _=>ar
 |_=>aY
def P_(h:jM x=ar):jD x=ar:=by cases x<;>first|rfl|cases h
theorem Zgk(d:jM x=ar)(c:jM y=ar):jL x y=decide (x=y):=by
 cases x with
 |int a=>
  cases y with
  |int b=>
   show(a==b)=_
   grind
  |str b=>rfl
  |_=>cases c
 |str a=>
  cases y with
  |int b=>rfl
  |str b=>
   show(a==b)=_
   grind
  |_=>cases c
 |_=>cases d
theorem Oc:∀{a b:Z V},a.length=b.length->a.all jM=ar->b.all jM=ar->((List.range a.length).all λj=>jL (a.getD j .aB) (b.getD j .aB))=decide (a=b)
 |[],[],_,_,_=>rfl
 |[],_::_,h,_,_=>by simp at h
 |_::_,[],h,_,_=>by simp at h
 |x::a,y::b,h,d,c=>by
  rw[Jt,Jb] at d c;rw[Wm,List.range_succ_eq_map,Jt,Lk];have e:((λj=>jL ((x::a).getD j .aB) ((y::b).getD j .aB))∘Nat.succ)=λj=>jL (a.getD j .aB) (b.getD j .aB):=rfl;rw[e,(Oc (by simpa using h) d.2 c.2)];show(jL x y&&_)=_;rw[Zgk d.1 c.1,Wu,Jb,fb,fb,fb,List.cons.injEq]
theorem Qa(r:Vals xs us):∀{j:Nat} (h:j<us.length),RelV (xs.getD j .aB) us[j]:=by
 induction r with
 |nil=>intro j h;cases h
 |cons f _ a=>
  intro j h;cases j with
  |zero=>exact f
  |succ j=>exact a (Nat.lt_of_succ_lt_succ h)
def Qb{a:Z V}(f:a.all jM=ar)(h:j<a.length):jM (a.getD j .aB)=ar:=by
 simp_all
def wg(H:Hp)(b:Z V)(u:aV):bA:=match u with
 |.ref a=>match H a with
  |some (.tup ys)=>decide (ys=b)
  |_=>aY
 |_=>aY
def Zh7(d:bA):R2:=λx y H Q=>∃(p q:U) (c:Z V) (f:Z U) (e:Z (Z V)),x=.ref p/\y=.ref q/\H p=O (.tup c)/\c.all jM=ar/\H q=O (.lst (f.map V.ref))/\Paired (λa b=>H a=O (.tup b)/\b.all jM=ar) f e/\Q (.bl (if d=ar then !e.any λb=>decide (b=c) else e.any λb=>decide (b=c))) H
def OY(h:H a=O (.tup b)):wg H xs (.ref a)=decide (b=xs):=by
 unfold wg
 simp_all
theorem Od:∀{f:Z U} {d:Z (Z V)} {c:Z aV},Vals (f.map V.ref) c->Paired (λa b=>H a=O (.tup b)/\b.all jM=ar) f d->c.any (wg H xs)=d.any λb=>decide (b=xs)
 |_,_,_,v,.nil=>by cases v;rfl
 |a::f,b::d,c,v,.cons e p=>by
  cases v with
  |cons r t=>
   cases r;rw[Ju,Ju,OY e.1,Od t p]
theorem Oe{H:Hp}:∀{f:Z U} {g:Z (Z V)} {d:Z aV},Vals (f.map V.ref) d->Paired (λa b=>H a=O (.tup b)/\b.all jM=ar) f g->∀u∈d,∃a b,u=.ref a/\H a=O (.tup b)/\b.all jM=ar
 |_,_,_,v,.nil=>by cases v;intro u c;cases c
 |a::f,b::g,d,v,.cons e p=>by
  cases v with
  |cons r t=>
   cases r;intro u c;rcases Ys.mp c with rfl|c;·grind
   ·exact Oe t p u c
def Zda(v:X.A.units+1<cLine)(I:Inv X pins σ H s)(g:H p=O (.tup xs))(m:xs.all jM=ar)(b:H a=O (.tup c))(l:c.all jM=ar):SeqAt.EqAt X.A.in1 s (.ref a) (.ref p) (decide (c=xs)):=by
 by_cases e:a=p
 ·subst e;have:c=xs:=by
   rw[g] at b;injection b with b;injection b with b;exact b.symm
  rw[c_ this];exact L3 _
 obtain⟨f,i,o,D⟩:=I.tuple (aK.of b);obtain⟨d,h,n,C⟩:=I.tuple (aK.of g);have r:=i.length;have q:=h.length;refine SeqAt.EqAt.of_refs e ?_;have E:=SeqAt.RcAt.tuples (A:=X.A.in1) (e:=λj=>jL (c.getD j .aB) (xs.getD j .aB)) o n v (λj g b=>?_)
 ·have w:((List.range (min f.toArray.size d.toArray.size)).all (λj=>jL (c.getD j .aB) (xs.getD j .aB))&&f.toArray.size==d.toArray.size)=decide (c=xs):=by
   rw[Yw,Yw,←r,←q];by_cases k:c.length=xs.length
   ·rw[←k,Nat.min_self,Oc k l m];simp
   ·grind
  rwa[←w]
 ·have u:j<f.length:=by simpa using g
  have t:j<d.length:=by simpa using b
  have y:=Qa i u;have x:=Qa h t;have B:f.toArray[j]=f[j]:=QS
  have z:d.toArray[j]=d[j]:=QS
  rw[B,z];exact Rh y x (P_ (Qb l QO)) (P_ (Qb m QO))
def Zb2(l:X.A.units+1<cLine):cE X (compareOp .NotIn) (Zh7 ar):=by
 rintro d s z H x y v u Q I h g ⟨p,q,b,D,B,rfl,rfl,n,t,m,c,k⟩;cases h;cases g;obtain⟨f,r,i,C⟩:=I.list (aj.of m);refine Di (wg H b) i.isList (λw j=>?_) ⟨.bl _,H,I,rfl,?_⟩
 ·obtain⟨a,A,rfl,e,o⟩:=Oe r c w (by simpa using j);rw[OY e];exact Zda l I n t e o
 ·rw[show f.toArray.any (wg H b)=f.any (wg H b) by simp,Od r c];exact k
def xg(g:Nat->aV):Nat->Nat->Z aV
 |0,_=>[]
 |n+1,i=>g i::xg g n (i+1)
theorem Iv(g:Nat->aV):∀(b:Z aV) (i:Nat),(∀k,b[k]?=O (g (i+k))\/b.length<=k)->b=xg g b.length i
 |[],_,_=>rfl
 |a::r,i,h=>by
  have e:a=g i:=by
   rcases h 0 with z|z;·grind
   ·cases z
  refine UU (de _ e) (Iv g r (i+1) λk=>?_);have:=h (k+1)
  grind
inductive cq(K:ae)(x:af)(b:bS)(f:U):Prop
 |mk {h n:bt U} {e:cw (bt aV)} {i kV j g d m:aV} (a:nsIn K mainGlobals x=O (O (.ref f))) (l:K.lookup f=O ⟨i,h,.func (fnOf x x (kI b) (gw b) (aL b) .none kV j g n d m),e⟩) (c:codeIn K d x=ar) (k:keepIn K (.ref f)=ar):cq K x b f
inductive cM(K:ae)(C:U)(x q:af)(d:bS)(f:U):Prop
 |mk {i o:bt U} {g:cw (bt aV)} {j kV m h e n:aV} (a:PySem.W.findIn K (.ref C) x=O (O (.ref f))) (b:isFn K (.ref f)=ar) (l:K.lookup f=O ⟨j,i,.func (fnOf x q (kI d) (gw d) (aL d) .none kV m h o e n),g⟩) (c:codeIn K e q=ar) (k:keepIn K (.ref f)=ar):cM K C x q d f
inductive jq(P:c6)(w:cD)(K:ae)(b:aN)(a:cm):Prop
 |mk {h:cm} (X:K.In h) (G:h.Ns mainGlobals b):jq P w K b a
abbrev mG(x q:af)(a:bS)(b:Z af):Prop:=∀(kV c d:aV) (f:bt U) (h e:aV) (g:Nat->aV),bindArgs (fnOf x q (kI a) (gw a) (aL a) .none kV c d f h e) ⟨xg g b.length 0,[]⟩=pure (b.zip (xg g b.length 0))
def mG.at{x q:af}{c:bS}{d:Z af}(b:mG x q c d)(h f g:aV)(j:bt U)(l i:aV)(a:Z aV)(m:a.length=d.length):bindArgs (fnOf x q (kI c) (gw c) (aL c) .none h f g j l i) ⟨a,[]⟩=pure (d.zip a):=by
 have e:=Iv (λk=>a.getD k .none) a 0 λk=>by
  grind
 grind
section
variable {P:c6}{w:cD}{K:ae}{mg:aN}{W:cm}{C f:U}{x q:af}{st:bS}{ps:Z af}{n:Nat}{T:Sp}
def jq.p(D:jq P w K mg W)(p:cq K x st f)(b:mG x x st ps:=by intro _ _ _ _ _ _ _;rfl):∃d,aP K x x st f d/\Binds K d ps []/\keepIn K (.ref f)=ar/\mg x=O (.ref f):=by
 obtain⟨X,G⟩:=D;obtain⟨a,l,c,k⟩:=p;exact⟨_,yF l c k,(yF l c k).binds (mG.at b),k,gV X G a⟩
def jq.d(D:jq P w K mg W)(p:cq K x st f)(o:∀a,aP K x x st f a->aH P w K mg W aO n f a ps T)(b:mG x x st ps:=by intro _ _ _ _ _ _ _;rfl):HasFn P w K mg W n x ps T:=by
 obtain⟨a,F,b,k,m⟩:=D.p p b;exact⟨f,a,o _ F,b,k,m⟩
def jq.dX(D:jq P w K mg W)(p:cq K x st f)(o:∀a,aP K x x st f a->aH P w K mg W (nH P w) n f a ps T)(b:mG x x st ps:=by intro _ _ _ _ _ _ _;rfl):Ka P w K mg W n x ps T:=by
 obtain⟨a,F,b,k,m⟩:=D.p p b;exact⟨f,a,o _ F,b,k,m⟩
def cM.p(p:cM K C x q st f)(b:mG x q st ps):∃d,aP K x q st f d/\Binds K d ps []/\Meth K C x f/\PySem.W.findIn K (.ref C) x=O (O (.ref f))/\isFn K (.ref f)=ar:=by
 obtain⟨a,e,l,c,k⟩:=p;exact⟨_,yF l c k,(yF l c k).binds (mG.at b),⟨a,e,k⟩,a,e⟩
def jq.m(_:jq P w K mg W)(c:gn K C)(p:cM K C x q st f)(o:∀a,aP K x q st f a->aH P w K mg W aO n f a ps T)(b:mG x q st ps:=by intro _ _ _ _ _ _ _;rfl):cG P w K mg W n x C ps T:=by
 obtain⟨a,F,b,m,_,_⟩:=p.p b;exact⟨f,a,c,m,o _ F,b⟩
def jq.mX(_:jq P w K mg W)(c:gn K C)(p:cM K C x q st f)(o:∀a,aP K x q st f a->aH P w K mg W (nH P w) n f a ps T)(b:mG x q st ps:=by intro _ _ _ _ _ _ _;rfl):Ir P w K mg W n x C ps T:=by
 obtain⟨a,F,b,m,_,_⟩:=p.p b;exact⟨f,a,c,m,o _ F,b⟩
def jq.i(_:jq P w K mg W){y:af}(m:mg y=O (.ref C))(g:makesIn K C=ar)(d:keepIn K (.ref C)=ar)(p:cM K C "__init__" q st f)(o:∀c,aP K "__init__" q st f c->aH P w K mg W aO n f c ps T)(b:mG "__init__" q st ps:=by intro _ _ _ _ _ _ _;rfl):we P w K mg W n y C ps T:=by
 obtain⟨c,F,b,_,a,e⟩:=p.p b;exact⟨f,c,⟨g,a,e,d⟩,o _ F,b,m⟩
end
end L2
namespace L2
open PySem PySem.Spec PyProof.Rows
section
variable {X:Cx}
def cF(i:Nat){x:af}{e:bZ}{c:TE}{b a:Pos}(k:X.N.Nodup)(j:PE X e c)(g:X.N[i]?=O x:=by rfl)(d:Loc X.env.scope x:=by exact ew rfl)(f:swapsWith e (O (.Name x a)) b.line X.env=pure aY:=by rfl)
  (h:X.fn x=ar\/X.env.scope.names.lookup x=O .local:=by first|exact .inl rfl|exact .inr rfl|assumption):PS X (.Assign [.Name x a] e b) (tU c (lQ i)):=fh k g d j f h
def cz(i:Nat){x:af}{a:Pos}(e:X.N.Nodup)(c:X.N[i]?=O x:=by rfl)(b:Loc X.env.scope x:=by exact ew rfl)
  (d:X.fn x=ar\/X.env.scope.names.lookup x=O .local:=by first|exact .inl rfl|exact .inr rfl|assumption):PG X (.Name x a) (lQ i):=jT e c b d
def pF(K:ae)(i:Nat){x f:af}{p a:Pos}(h:X.K=K:=by rfl)(e:X.N[i]?=O x:=by rfl)(b:ue X.env.scope x:=by first|exact ew rfl|exact fI (ew rfl)|exact fI (fI rfl))(c:(x==("__debug__":af))=aY:=by decide)
  (g:(x==("__classdict__":af))=aY:=by decide)(d:attributeBase (.Name x p) f X.env (eval (.Name x p) X.env)=eval (.Name x p) X.env:=QR):PE X (.Attribute (.Name x p) f a) (JV K (m8 i) f):=Bk h (pv i e b c g) d
def bq{k j:Nat}{x:af}{c:Z af}{b:Sp}{p a:Pos}{e:bZ}{es:Z bZ}{t:TA}(h:HasFn X.prog X.w X.K X.mg X.base k x c b)(d:bK j X.A)(l:PA X (e::es) t)(f:k<=j:=by omega)(g:Gl X x:=by rfl)
  (m:(x==("__debug__":af))=aY:=by decide)(i:iN X e es:=by rfl)(n:jk X a es:=by rfl):
  PE X (.Call (.Name x p) (e::es) [] a) (BQ b [] E0 t):=yS h d f g l m i n
def bO{r:R2}{a b:bZ}{e d:TE}{c:Pos}(g:jo X r)(i:PE X a e)(h:PE X b d)(f:PL b:=by exact λ_ _=>rfl):PE X (.Subscript a b c) (nB r e d):=Sj g i h f
end
section
variable {P:c6}{w:cD}{K:ae}{mg:aN}{X:cm}
def aP.o{x b:af}{e:bS}{f:U}{j:FuncData}{N g:Z af}{k:Nat}{sp:Sp}(F:aP K x b e f j)(a:aS N g (aL e))
  (m:∀{l:aV} {A:dO} {c:Z Env} {d:Z V} {Q:VK} {E:XK} (s:a8) (H:Hp),bK k (A.deeper (envOfC b (aL e) s.heap.objs.size f l))->sp d H Q E->
   ∃t,fR (iG aO P w K mg X N b (aL e) f l A c s H E).oR (gw e) t/\t {nx:=λ_ n=>Q .aB n,rt:=Q} (start N d) H)
  (i:∀d H Q E,sp d H Q E->d.length=g.length:=by intro d H Q E h;first|(cases h;subst_vars;rfl)|((repeat obtain⟨_,h⟩:=h);subst_vars;rfl)):aH P w K mg X aO (k+1) f j g sp:=F.ok a i λ_ _ _ s H _ _ _=>m s H
end
def aS.bg{N P:Z af}{sc:Scope}(a:sc.kind=.function:=by rfl)(b:sc.isCoroutine=aY:=by rfl)(c:sc.isGenerator=aY:=by rfl)(d:N.Nodup:=by decide+kernel)(e:N.take P.length=P:=by rfl)(f:∀x∈P,sc.names.lookup x=O .local\/sc.names.lookup x=O .cell:=by decide+kernel)(g:∀y∈sc.names,y.2≠.free:=by decide+kernel):aS N P sc:=⟨a,b,c,d,e,f,g⟩
def yh.fD{X:Cx}{h:Scope}{cl:Z (af×U)}{x:af}{fr:Z (af×Nat)}(i:qT X.env.cells cl)(j:qU X h cl fr)(a:closureFor h X.env=pure cl:=by with_unfolding_all rfl)(b:h.kind=.function:=by rfl)(c:∀y∈h.names,y.2=.local->h.names.lookup y.1=O .local:=by decide+kernel)(d:h.names.lookup x=O .local:=by rfl)
  (e:∀y∈h.names,y.2≠.cell:=by decide+kernel)(f:(h.names.all λy=>!(y.2==.free)||(cl.lookup y.1).isSome)=ar:=by rfl)(g:(x::fr.map (·.1)).Nodup:=by decide+kernel):yh X h cl x fr:=⟨a,i,b,c,d,e,f,j,g⟩
def mQ.fD{X:Cx}{d:Scope}{cl:Z (af×U)}{i:Z af}{fr:Z (af×Nat)}(h:qT X.env.cells cl)(j:qU X d cl fr)(a:closureFor d X.env=pure cl:=by with_unfolding_all rfl)(b:d.kind=.function:=by rfl)(c:∀y∈d.names,y.2=.local->d.names.lookup y.1=O .local:=by decide+kernel)
  (e:∀y∈d.names,y.2≠.cell:=by decide+kernel)(f:(d.names.all λy=>!(y.2==.free)||(cl.lookup y.1).isSome)=ar:=by rfl)(g:(i++fr.map (·.1)).Nodup:=by decide+kernel):mQ X d cl i fr:=⟨a,h,b,c,e,f,j,g⟩
end L2
namespace L2
open PySem PySem.W PySem.Spec PyProof.Rows
inductive rR(K:ae):Z af->Prop
 |nil:rR K []
 |cons {x:af} {l:Z af} (h:nsIn K mainGlobals x=O aI) (t:rR K l):rR K (x::l)
theorem rR.at{K:ae}{x:af}:∀{l:Z af},rR K l->x∈l->nsIn K mainGlobals x=O aI
 |_,.cons h t,m=>by
  cases m with
  |head=>exact h
  |tail _ m=>exact t.at m
def rR.bl{K:ae}(z:rR K ["len","abs","list","range","tuple","any","all","isinstance","bool","int","str","sorted","min","max","sum","dict","reversed","ValueError"])(X:K.In h)(G:h.Ns mainGlobals mg):Bl mg:=by
 constructor<;>exact PySem.W.mg_none_of X G (z.at QD)
inductive zN(K:ae)(x:af)(C:U):Prop
 |mk (a:nsIn K mainGlobals x=O (O (.ref C))) (b:makesIn K C=ar) (c:keepIn K (.ref C)=ar):zN K x C
def jq.j{P:c6}{w:cD}{K:ae}{e:aN}{c:cm}{C f:U}{y q:af}{d:bS}{ps:Z af}{n:Nat}{sp:Sp}(D:jq P w K e c)(g:zN K y C)(p:cM K C "__init__" q d f)(o:∀h,aP K "__init__" q d f h->aH P w K e c aO n f h ps sp)(b:mG "__init__" q d ps:=by intro _ _ _ _ _ _ _;rfl):we P w K e c n y C ps sp:=by
 obtain⟨a,m,k⟩:=g;exact D.i (let⟨X,G⟩:=D;gV X G a) m k p o b
inductive zO(K:ae)(x q:af)(d:Z U)(b:bS)(C f:U):Prop
 |mk {N t:U} {s n:af} {bs sub:Z aV} {k:Z af} {G:bA} {c:bt bA} {B:bt U} {z y w v u:bt aV} {p F i:bt U} {m g:cw (bt aV)} {r kV D o e E j A:aV} {h:Nat}
  (a:nsIn K mainGlobals x=O (O (.ref C))) (l:K.lookup C=O (excClassObj s n C N bs (d.map Value.ref++qh) ar k sub G c B z y w v u "ValueError.__new__"))
  (g1:PySem.W.findIn K (.ref C) "__getattribute__"=O (O (.builtin "BaseException.__getattribute__"))) (g2:PySem.W.findIn K (.ref C) "__getattr__"=O aI) (g3:PySem.W.findIn K (.ref C) "__setattr__"=O (O (.builtin "object.__setattr__"))) (g4:PySem.W.findIn K (.ref C) "__class__"=O (O (.builtin "object.__class__")))
  (g5:specialIn K (.builtin "object.__class__") "__get__"=O (O (.builtin "getset_descriptor.__get__"))) (g6:takesIn K (.builtin "object.__class__")=O ar)
  (ci:PySem.W.findIn K (.ref C) "__init__"=O (O (.ref f))) (cn:isFn K (.ref f)=ar) (ck:keepIn K (.ref C)=ar)
  (fl:K.lookup f=O ⟨r,p,.func (fnOf "__init__" q (kI b) (gw b) (aL b) (.ref t) kV D o F e E),m⟩) (fc:codeIn K e q=ar) (fk:keepIn K (.ref f)=ar) (ft:K.lookup t=O ⟨j,i,.seq #[A] h,g⟩)
  (na:PySem.W.findIn K (.ref C) "word"=O aI):zO K x q d b C f
abbrev BdE(q:af)(a:bS)(b:Z af):Prop:=∀(s:a8) (kV c i j h:aV) (f:bt U) (d:cw (bt aV)) (e:Nat) (t:U) (l:bt U) (m k:aV) (g:Nat->aV),s.heap.get? t=O ⟨h,f,.seq #[j] e,d⟩->BindsTo s (fnOf "__init__" q (kI a) (gw a) (aL a) (.ref t) kV c i l m k) ⟨xg g b.length 0,[]⟩ (b.zip (xg g b.length 0))
def zO.b{K:ae}{h:cm}{i:aN}{x q:af}{n:Z U}{c:bS}{C f:U}(p:zO K x q n c C f)(X:K.In h)(G:h.Ns mainGlobals i)(ps:Z af)(b:BdE q c ps:=by intro _ _ _ _ _ _ _ _ _ _ _ _ _ _ z;exact BindsTo.of_defaults rfl z rfl rfl rfl):
  ∃m,za K "__init__" q c f m/\Binds K m ps []/\dZ K C/\wx K C f/\i x=O (.ref C)/\c9 K C "word":=by
 obtain⟨a,l,y,w,v,u,t,r,I,F,H,B,E,D,A,o⟩:=p;have d:dZ K C:=⟨⟨_,_,_,_,n,_,_,_,_,_,_,_,_,_,_,l⟩,y,w,v,u,t,r⟩;refine⟨_,⟨⟨_,_,_,_,_,_,_,_,_,_,rfl,B,E⟩,D⟩,λs g J j=>?_,d,wx.of d I F H,gV X G a,o⟩;rw[Wh] at j⊢;have e:=Iv (λk=>g.getD k .none) g 0 λk=>by
  grind
 rw[e,j];exact b s _ _ _ _ _ _ _ _ _ _ _ _ _ (J _ _ A)
end L2
namespace L2
open PySem PySem.Spec PyProof.Rows
section
variable {X:Cx}{a b e W:bZ}{T Q R P:TE}{p pos:Pos}
def fE(K:ae)(g:Bl X.mg)(f:PE X e R)(h:X.K=K:=by rfl)(d:Gl X "len":=by rfl)(c:starEach [e] X.env=(aY,eval e X.env)::starEach [] X.env:=by rfl)(i:(backTo pos (starEach [] X.env)).any (·.1)=aY:=QR):PE X (.Call (.Name "len" p) [e] [] pos) (oV (Cj K) (jB R jZ)):=gW (ZhR h) d g.BX By (aa f ai c) QD QD c i
def mH(K:ae)(j:Bl X.mg)(g:PE X e R)(i:PE X W P)(h:X.K=K:=by rfl)(f:Gl X "isinstance":=by rfl)(d:starEach [W] X.env=(aY,eval W X.env)::starEach [] X.env:=by rfl)(c:starEach [e,W] X.env=(aY,eval e X.env)::starEach [W] X.env:=by rfl)(k:(backTo pos (starEach [W] X.env)).any (·.1)=aY:=by rfl):PE X (.Call (.Name "isinstance" p) [e,W] [] pos) (oV (Ci K) (jB R (jB P jZ))):=gW (Zd_ h) f j.MU MP (aa g (aa i ai d) c) QD QD c k
def iL(K:ae)(h:X.K=K:=by rfl):jo X (Ce K):=ZcA h
def iT(K:ae)(h:X.K=K:=by rfl):jo X (Cf K):=Zd9 h
def cA{c:CmpOp}{r:R2}(d:cE X (compareOp c) r)(h:PE X a T)(g:PE X b Q)(f:behindInMarks c b=aY:=by exact Q_ _):PT X (.Compare a [c] [b] pos) (IS (nB r T Q)):=jU d h g f
def iW{c:CmpOp}{r:R2}(d:cE X (compareOp c) r)(h:PE X a T)(g:PE X b Q)(f:behindInMarks c b=aY:=by exact Q_ _):PE X (.Compare a [c] [b] pos) (nB r T Q):=Bg d h g f
end
end L2
namespace L2
open PySem PySem.W PySem.Calls PySem.Spec PyProof.Rows
def a9(a:Z Int)(i j:Nat):bA:=decide (a.getD i 0<a.getD j 0)
def dk(a:Z Int)(i j:Nat):bA:=decide (a.getD i 0<a.getD j 0\/(a.getD i 0=a.getD j 0/\i<j))
def pT:dk a i j=ar↔(a.getD i 0<a.getD j 0\/(a.getD i 0=a.getD j 0/\i<j)):=by unfold dk;exact fb
def Zdb:a9 a i j=ar↔a.getD i 0<a.getD j 0:=by unfold a9;exact fb
theorem Hx(c:Z Int)(n:Nat):ku n (dk c):=by
 refine⟨λi j k _ _ _ e d=>?_,λi j _ _ ne h=>?_,λi j _ _ h=>?_⟩
 ·have a:=pT.mp e;have b:=pT.mp d;refine pT.mpr ?_;omega
 ·refine pT.mpr ?_;have a:¬_:=λz=>by rw[pT.mpr z] at h;cases h
  omega
 ·cases z:dk c j i with
  |false=>rfl
  |true=>
   have a:=pT.mp h;have b:=pT.mp z;omega
structure Pf(N m:Nat)(p:cw Nat):Prop where
 lo:∀i,i<m->p.getD i 0<m
 hi:∀i,m<=i->i<N->p.getD i 0=i
def Pf.up(h:Pf N m p)(a:m<N):Pf N (m+1) p:=⟨λi b=>by
 by_cases e:i=m;·rw[e,h.hi m (Yg _) a];exact m_ _
 ·have:=h.lo i (dy (dR b) e);exact lb this,λi d c=>h.hi i (pO d) c⟩
theorem Pf.ups(h:Pf N m p)(b:m<=a)(c:a<=N):Pf N a p:=by
 induction a with
 |zero=>
  obtain rfl:m=0:=(T7 b)
  exact h
 |succ k d=>
  by_cases e:m=k+1;·rwa[←e]
  ·exact(d (dR (dy b e)) (pO c)).up (eU (m_ _) c)
section
variable {n:Nat}{ks:Z Int}
def OZ(c:m<n)(b:Pf n m p)(d:j<m):a9 ks (p.getD m 0) (p.getD j 0)=dk ks (p.getD m 0) (p.getD j 0):=by
 have a:=b.lo j d;rw[b.hi m (Yg _) c];unfold a9 dk;exact decide_eq_decide.mpr QO
theorem GX{p:cw Nat}:∀f m,1<=m->m+f<=n->Pf n m p->Run (a9 ks) (kas_asc p f m)=Run (dk ks) (kas_asc p f m)
 |0,_,_,_,_=>rfl
 |f+1,m,b,c,a=>by
  have e:∀lt,Run lt (kas_asc p (f+1) m)=Run lt (if lt (p.getD m 0) (p.getD (m-1) 0)=ar then KasT.ret m else kas_asc p f (m+1)):=λ_=>rfl;rw[e,e,OZ QO a QO];split;·rfl
  ·exact GX f (m+1) (js b) QO (a.up QO)
theorem Ga{p:cw Nat}{k:Nat}(b:k<n)(a:Pf n k p):∀f l r,r<=k->Run (a9 ks) (kas_place p k f l r)=Run (dk ks) (kas_place p k f l r)
 |0,_,_,_=>rfl
 |f+1,l,r,h=>by
  rw[kas_place];by_cases c:l≥r;·rw[br c];rfl
  ·rw[bb c];have e:∀lt,Run lt (KasT.ask (p.getD k 0) (p.getD ((l+r)/2) 0) λc=>if c=ar then kas_place p k f l ((l+r)/2) else kas_place p k f ((l+r)/2+1) r)=Run lt (if lt (p.getD k 0) (p.getD ((l+r)/2) 0)=ar then kas_place p k f l ((l+r)/2) else kas_place p k f ((l+r)/2+1) r):=λ_=>rfl;rw[e,e,OZ b a QO];split;·exact Ga b a f _ _ QO
   ·exact Ga b a f _ _ h
def Nv(b:k<p.size)(c:l<=k)(i:Nat):(bubble p k (k-l)).getD i 0=if i=l then p.getD k 0 else if l<i/\i<=k then p.getD (i-1) 0 else p.getD i 0:=by
 have h:=getElem?_bubble b (k-l) (xU _ _) i;rw[show k-(k-l)=l by omega] at h;rw[Y1,h];by_cases z:i=l;·rw[br z,br z,←Y1]
 ·rw[bb z,bb z];by_cases a:l<i/\i<=k;·rw[br a,br a,←Y1]
  ·rw[bb a,bb a,←Y1]
theorem GY{lt:Nat->Nat->bA}{p:cw Nat}{k:Nat}:∀f l r,l<=r->r<=k->Run lt (kas_place p k f l r)<=k
 |0,l,r,b,a=>by show l<=k;exact d4 b a
 |f+1,l,r,b,a=>by
  rw[kas_place];by_cases c:l≥r;·rw[br c];show l<=k;exact d4 b a
  ·rw[bb c];have e:Run lt (KasT.ask (p.getD k 0) (p.getD ((l+r)/2) 0) λc=>if c=ar then kas_place p k f l ((l+r)/2) else kas_place p k f ((l+r)/2+1) r)=Run lt (if lt (p.getD k 0) (p.getD ((l+r)/2) 0)=ar then kas_place p k f l ((l+r)/2) else kas_place p k f ((l+r)/2+1) r):=rfl;rw[e];split;·exact GY f _ _ QO QO
   ·exact GY f _ _ QO a
theorem O0:∀f (p:cw Nat) k,p.size=n->k+f=n->Pf n k p->Run (a9 ks) (kas_bin f p k)=Run (dk ks) (kas_bin f p k)
 |0,_,_,_,_,_=>rfl
 |f+1,p,k,sz,e,b=>by
  have d:∀lt,Run lt (kas_bin (f+1) p k)=Run lt (kas_bin f (bubble p k (k-Run lt (kas_place p k k 0 k))) (k+1)):=λlt=>by
   rw[kas_bin,Run.bind]
  rw[d,d,Ga (by omega) b _ _ _ (Yg _)];have c:=GY (lt:=dk ks) (p:=p) (k:=k) k 0 k (Yx _) (Yg _);generalize Run (dk ks) (kas_place p k k 0 k)=l at c;refine O0 f _ (k+1) (by rw[(bubble_perm p k _).size_eq];exact sz) (by omega) ⟨λi h=>?_,λi j g=>?_⟩
  ·rw[Nv (by omega) c];have a:=b.hi k (Yg _) (by omega);split;·omega
   ·split;·have:=b.lo (i-1) (by omega);omega
    ·by_cases z:i=k;·rw[z,a];omega
     ·have:=b.lo i (by omega);omega
  ·rw[Nv (by omega) c,nh (by omega),nh (by omega)];exact b.hi i (by omega) g
end
section
variable {n:Nat}{ks:Z Int}
def nZ(b:m<=p.size)(i:Nat):(kas_rev p a m).getD i 0=if a<=i/\i<m then p.getD (a+m-1-i) 0 else p.getD i 0:=by
 unfold kas_rev;rw[Y1,getElem?_mirror_all b];by_cases c:a<=i/\i<m;·rw[br c,br c,←Y1]
 ·rw[bb c,bb c,←Y1]
def Pf.rev(b:Pf n m p)(c:m<=p.size):Pf n m (kas_rev p a m):=⟨λi d=>by
 rw[nZ c];split;·exact b.lo _ QO
 ·exact b.lo _ d,λi f e=>by
 rw[nZ c,bb QO];exact b.hi i f e⟩
def ff(ks:Z Int)(p:cw Nat)(i:Nat):Int:=ks.getD (p.getD i 0) 0
def BG:dk ks (p.getD i 0) (p.getD j 0)=ar↔(ff ks p i<ff ks p j\/(ff ks p i=ff ks p j/\p.getD i 0<p.getD j 0)):=pT
def yw:a9 ks (p.getD i 0) (p.getD j 0)=ar↔ff ks p i<ff ks p j:=Zdb
structure DI(n:Nat)(ks:Z Int)(p:cw Nat)(a m:Nat):Prop where
 g:Good n p
 pf:Pf n m p
 am:a<m
 mn:m<=n
 d1:∀i j,i<j->j<a->dk ks (p.getD j 0) (p.getD i 0)=ar
 d2:∀i j,i<a->a<=j->j<m->ff ks p j<ff ks p i
 d3:∀i j,a<=i->i<j->j<m->ff ks p i=ff ks p j/\p.getD i 0<p.getD j 0
def DI.low(d:DI n ks p a m)(f:i<m):ff ks p (m-1)<=ff ks p i:=by
 have b:=d.am;by_cases c:i<a;·exact xt (d.d2 i (m-1) c (wO (gb b)) QO)
 ·by_cases e:i=m-1;·exact e▸Ll _
  ·exact Int.le_of_eq (d.d3 i (m-1) (dg c) QO QO).1.symm
def DI.ds(d:DI n ks p a m):Ds (dk ks) (kas_rev p a m) m:=λi j b f=>by
 have sz:m<=p.size:=by exact d.g.size▸d.mn
 rw[nZ sz,nZ sz];by_cases c:j<a
 ·rw[bb QO,bb QO];exact d.d1 i j b c
 ·rw[br QO];by_cases e:i<a
  ·rw[bb QO];exact BG.mpr (.inl (d.d2 i _ e QO QO))
  ·rw[br QO];exact BG.mpr (.inr (d.d3 (a+m-1-j) (a+m-1-i) QO QO QO))
def DI.UX(d:DI n ks p m (m+1)):Ds (dk ks) p (m+1):=λi j b a=>by
 by_cases c:j<m;·exact d.d1 i j b c
 ·exact BG.mpr (.inl (d.d2 i j (eU b (dR a)) (dg c) a))
def DI.down(g:Good n a)(h:Pf n m a)(c:m<n)(b:1<=m)(l:Ds (dk ks) a m)(e:a.getD m 0=p.getD m 0)(k:∀i,i<m->ff ks p m<ff ks a i):DI n ks a m (m+1):=
 ⟨g,h.up c,Ja _,c,l,λi j b f d=>by
  obtain rfl:j=m:=(Nat.eq_of_le_of_lt_succ f d)
  have:=k i b;unfold ff at*;rwa[e],λi j b f d=>QO⟩
def DI.more(d:DI n ks p a m)(h:m<n)(e:ff ks p m=ff ks p (m-1)):DI n ks p a (m+1):=
 have k:=d.am
 ⟨d.g,d.pf.up h,(lb k),h,d.d1,λi j b g f=>by
  by_cases c:j=m
  ·rw[c,e];exact d.d2 i (m-1) b (wO (gb k)) QO
  ·exact d.d2 i j b g (dy (dR f) c),λi j b g f=>by
  by_cases c:j=m
  ·rw[c,e];refine⟨?_,?_⟩
   ·by_cases l:i=m-1;·rw[l]
    ·exact(d.d3 i (m-1) b QO QO).1
   ·rw[d.pf.hi m (Yg _) h];exact d.pf.lo i (eU g (dR f))
  ·exact d.d3 i j b g (dy (dR f) c)⟩
theorem AY:∀f (p:cw Nat) m q,q+1<=m->m+f<=n->DI n ks p (m-(q+1)) m->∃g a b,Run (a9 ks) (kas_desc f p m q)=(g,a,b)/\b+1<=a/\DI n ks g (a-(b+1)) a/\m<=a
 |0,p,m,q,o,_,d=>⟨p,m,q,rfl,o,d,Yg _⟩
 |f+1,p,m,q,o,hf,d=>by
  have e:Run (a9 ks) (kas_desc (f+1) p m q)=Run (a9 ks) (if a9 ks (p.getD m 0) (p.getD (m-1) 0)=ar then(if q>0 then kas_desc f (kas_rev p (m-(q+1)) m) (m+1) 0 else kas_desc f p (m+1) 0) else KasT.ask (p.getD (m-1) 0) (p.getD m 0) λd=>if d=ar then KasT.ret (p,m,q) else kas_desc f p (m+1) (q+1)):=rfl;rw[e];have sz:m<=p.size:=by rw[d.g.size];exact d.mn
  by_cases c:a9 ks (p.getD m 0) (p.getD (m-1) 0)=ar
  ·rw[th c];have A:=yw.mp c;by_cases z:q>0
   ·rw[th z];obtain⟨g,a,b,l,j,h,t⟩:=AY f (kas_rev p (m-(q+1)) m) (m+1) 0 (by omega) (by omega) (by
     have:=DI.down (p:=p) (d.g.rev (m-(q+1)) m) (d.pf.rev sz) (by omega) (by omega) d.ds (by rw[nZ sz,nh (by omega)]) (λi s=>by
      have k:ff ks (kas_rev p (m-(q+1)) m) i=ff ks p (if m-(q+1)<=i/\i<m then m-(q+1)+m-1-i else i):=by
       unfold ff;rw[nZ sz];split<;>rfl
      rw[k];have:=d.low (i:=if m-(q+1)<=i/\i<m then m-(q+1)+m-1-i else i) (by split<;>omega);omega)
     exact this)
    exact⟨g,a,b,l,j,h,by omega⟩
   ·rw[nh z];obtain rfl:q=0:=by omega
    have x:m-(0+1)+1=m:=by omega
    have y:=d;obtain⟨k,rfl⟩:∃k,m=k+1:=⟨m-1,by omega⟩;obtain⟨g,a,b,l,j,h,t⟩:=AY f p (k+1+1) 0 (by omega) (by omega) (DI.down (p:=p) d.g d.pf (by omega) (by omega) (DI.UX d) rfl (λi s=>by have:=d.low (i:=i) s;show ff ks p (k+1)<ff ks p i;omega));exact⟨g,a,b,l,j,h,by omega⟩
  ·rw[nh c];have u:Run (a9 ks) (KasT.ask (p.getD (m-1) 0) (p.getD m 0) λd=>if d=ar then KasT.ret (p,m,q) else kas_desc f p (m+1) (q+1))=Run (a9 ks) (if a9 ks (p.getD (m-1) 0) (p.getD m 0)=ar then KasT.ret (p,m,q) else kas_desc f p (m+1) (q+1)):=rfl;rw[u];by_cases r:a9 ks (p.getD (m-1) 0) (p.getD m 0)=ar
   ·rw[th r];exact⟨p,m,q,rfl,o,d,Yg _⟩
   ·rw[nh r];have w:¬_:=λz=>c (yw.mpr z);have v:¬_:=λz=>r (yw.mpr z);obtain⟨g,a,b,l,j,h,t⟩:=AY f p (m+1) (q+1) (by omega) (by omega) (by
     have:=d.more (by omega) (by omega);rw[show m+1-(q+1+1)=m-(q+1) by omega];exact this)
    exact⟨g,a,b,l,j,h,by omega⟩
theorem Of{lt:Nat->Nat->bA}{p:cw Nat}:∀f m,Run lt (kas_asc p f m)<m+f->lt (p.getD (Run lt (kas_asc p f m)) 0) (p.getD (Run lt (kas_asc p f m)-1) 0)=ar
 |0,m,h=>absurd h (by show ¬m<m+0;exact Nat.lt_irrefl _)
 |f+1,m,h=>by
  have e:Run lt (kas_asc p (f+1) m)=Run lt (if lt (p.getD m 0) (p.getD (m-1) 0)=ar then KasT.ret m else kas_asc p f (m+1)):=rfl;rw[e] at h⊢;by_cases c:lt (p.getD m 0) (p.getD (m-1) 0)=ar;·rwa[br c]
  ·rw[bb c] at h⊢;exact Of f (m+1) QO
def Qc(g:Good n p)(j:Pf n m p)(d:1<=m)(c:m<=n)(k:Ds (dk ks) p m):Good n (Run (a9 ks) (kas_tail3 m n p)).2/\Sd (dk ks) (Run (a9 ks) (kas_tail3 m n p)).2 (Run (a9 ks) (kas_tail3 m n p)).1/\1<=(Run (a9 ks) (kas_tail3 m n p)).1/\(Run (a9 ks) (kas_tail3 m n p)).1<=n/\Pf n (Run (a9 ks) (kas_tail3 m n p)).1 (Run (a9 ks) (kas_tail3 m n p)).2:=by
 have sz:m<=p.size:=by rw[g.size];exact c
 have i:Pf n m (kas_rev p 0 m):=j.rev sz;have e:∀lt,Run lt (kas_tail3 m n p)=(Run lt (kas_asc (kas_rev p 0 m) (n-m) m),kas_rev p 0 m):=λlt=>by
  unfold kas_tail3;rw[Run.bind];rfl
 obtain⟨h,f,b,a⟩:=Ob (Hx ks n) g d c k;rw[e] at h f b a;rw[e,GX _ _ d (gR (mr c)) i];exact⟨h,f,(d4 d b),a,i.ups b a⟩
def Nx(h:m+1<=n)(d:DI n ks p m (m+1)):Good n (Run (a9 ks) (kas_descPart m n p)).2/\Sd (dk ks) (Run (a9 ks) (kas_descPart m n p)).2 (Run (a9 ks) (kas_descPart m n p)).1/\1<=(Run (a9 ks) (kas_descPart m n p)).1/\(Run (a9 ks) (kas_descPart m n p)).1<=n/\Pf n (Run (a9 ks) (kas_descPart m n p)).1 (Run (a9 ks) (kas_descPart m n p)).2:=by
 obtain⟨f,b,c,i,g,a,j⟩:=AY (n-(m+1)) p (m+1) 0 (xp _ _) (gR (mr h)) d;have e:Run (a9 ks) (kas_descPart m n p)=Run (a9 ks) (if c>0 then kas_tail3 b n (kas_rev f (b-(c+1)) b) else kas_tail3 b n f):=by
  unfold kas_descPart;rw[Run.bind,i]
 rw[e];have sz:b<=f.size:=by exact a.g.size▸a.mn
 by_cases z:c>0
 ·rw[br z];exact Qc (a.g.rev _ _) (a.pf.rev sz) (d4 (gb z) (pO g)) a.mn a.ds
 ·rw[bb z];obtain rfl:c=0:=(eL (dg z) (tc _))
  obtain⟨k,rfl⟩:∃k,b=k+1:=⟨b-1,(kh (Nat.sub_add_cancel g))⟩;exact Qc a.g a.pf g a.mn (DI.UX a)
def Zey(g:Good n p)(id:∀i,i<n->p.getD i 0=i):Good n (Run (a9 ks) (kas_count n p)).2/\Sd (dk ks) (Run (a9 ks) (kas_count n p)).2 (Run (a9 ks) (kas_count n p)).1/\1<=(Run (a9 ks) (kas_count n p)).1/\(Run (a9 ks) (kas_count n p)).1<=n/\Pf n (Run (a9 ks) (kas_count n p)).1 (Run (a9 ks) (kas_count n p)).2:=by
 have A:=g.1;have d:∀m,m<=n->Pf n m p:=λm B=>⟨λi f=>by rw[id i (eU f B)];exact f,λi _ h=>id i h⟩;obtain⟨sd,b,v⟩:=yv (Hx ks n) g (n-1) 1 (Yg _) QO (λi j w u=>QO);have y:=Of (lt:=a9 ks) (p:=p) (n-1) 1;rw[←GX (ks:=ks) (n-1) 1 (Yg _) QO (d 1 (gb A))] at sd b v;have e:Run (a9 ks) (kas_count n p)=Run (a9 ks) (if(Run (a9 ks) (kas_asc p (n-1) 1)==n)=ar then KasT.ret (Run (a9 ks) (kas_asc p (n-1) 1),p) else if Run (a9 ks) (kas_asc p (n-1) 1)>1 then KasT.ask (p.getD 0 0) (p.getD (Run (a9 ks) (kas_asc p (n-1) 1)-1) 0) λc=>if c=ar then KasT.ret (Run (a9 ks) (kas_asc p (n-1) 1),p) else kas_descPart (Run (a9 ks) (kas_asc p (n-1) 1)) n (kas_rev p 0 (Run (a9 ks) (kas_asc p (n-1) 1))) else kas_descPart (Run (a9 ks) (kas_asc p (n-1) 1)) n p):=by
  unfold kas_count;rw[Run.bind]
 rw[e];generalize E:Run (a9 ks) (kas_asc p (n-1) 1)=r at sd b v y;have a:r<=n:=QO
 by_cases s:(r==n)=ar
 ·rw[br s];exact⟨g,sd,b,a,d r a⟩
 ·rw[bb s];have l:r≠n:=λz=>s (beq_iff_eq.mpr z);have t:=yw.mp (y QO);have sz:r<=p.size:=by rw[g.size];exact a
  by_cases q:r>1
  ·rw[br q];have C:Run (a9 ks) (KasT.ask (p.getD 0 0) (p.getD (r-1) 0) λc=>if c=ar then KasT.ret (r,p) else kas_descPart r n (kas_rev p 0 r))=Run (a9 ks) (if a9 ks (p.getD 0 0) (p.getD (r-1) 0)=ar then KasT.ret (r,p) else kas_descPart r n (kas_rev p 0 r)):=rfl;rw[C];by_cases o:a9 ks (p.getD 0 0) (p.getD (r-1) 0)=ar
   ·rw[br o];exact⟨g,sd,b,a,d r a⟩
   ·rw[bb o];have D:¬_:=λz=>o (yw.mpr z);refine Nx (gb (dy a l)) (DI.down (p:=p) (g.rev 0 r) ((d r a).rev sz) (dy a l) b (λi j w u=>?_) (by rw[nZ sz,bb QO]) (λi f=>?_))
    ·rw[nZ sz,nZ sz,br QO,br QO];exact sd _ _ QO QO
    ·have k:ff ks (kas_rev p 0 r) i=ff ks p (0+r-1-i):=by
      unfold ff;rw[nZ sz,br QO]
     rw[k];by_cases x:0+r-1-i=0;·rw[x];omega
     ·have:=BG.mp (sd 0 (0+r-1-i) (xc x) QO);omega
  ·rw[bb q];obtain rfl:r=1:=(eL (dg q) b)
   refine Nx (gb (dy a l)) (DI.down (p:=p) g (d 1 a) (dy a l) (Yg _) (λi j w u=>QO) rfl (λi f=>?_));obtain rfl:i=0:=(eL (dR f) (tc _))
   exact t
def Za3(h:0<n):Good n (Run (a9 ks) (kas_sort n))/\Sd (dk ks) (Run (a9 ks) (kas_sort n)) n:=by
 have e:Run (a9 ks) (kas_sort n)=Run (a9 ks) (if(Run (a9 ks) (kas_count n (List.toArray (List.range n)))).1<n then kas_bin (n-max (Run (a9 ks) (kas_count n (List.toArray (List.range n)))).1 1) (Run (a9 ks) (kas_count n (List.toArray (List.range n)))).2 (max (Run (a9 ks) (kas_count n (List.toArray (List.range n)))).1 1) else KasT.ret (Run (a9 ks) (kas_count n (List.toArray (List.range n)))).2):=by
  unfold kas_sort;rw[Run.bind]
 obtain⟨a,b,c,d,f⟩:=Zey ⟨h,rz _⟩ (λi j=>by simp[j]);rw[e];generalize Run (a9 ks) (kas_count n (List.toArray (List.range n)))=r at a b c d f;have g:max r.1 1=r.1:=QO
 by_cases z:r.1<n
 ·rw[br z,g,O0 _ _ _ a.size (mr d) f];exact Hw (Hx ks n) _ _ _ a (mr d) b
 ·rw[bb z];have:r.1=n:=(eL d (dg z))
  refine⟨a,?_⟩;rw[this] at b;exact b
end
structure kR(X:Cx)(pins:aJ)(H:Hp)(b:U):Prop where
 hn:H b=aI
 hL:b≠X.env.locals
 hs:X.b_.heap.objs.size<=b
 hc:∀x c,X.env.cells.lookup x=O c->c≠b
 hp:∀p∈X.pn++pins,p.1≠b
 hf:b∉X.fs
section
variable {X:Cx}{W:aJ}{T:St}{H:Hp}{s:a8}
def Inv.tZ(I:Inv X W T H s)(h:s.heap.objs.size<=b):kR X W H b:=
 ⟨I.au.fresh h,λz=>absurd I.lt (by exact z▸wZ.mpr h),Yz I.sz h,λx c e z=>by
  obtain⟨v,o,a,_⟩:=I.cell x c e;rw[z] at a;exact absurd (Yp a) (wZ.mpr h),λp d z=>by
  have:=Yp (I.pin p d).1;rw[z] at this;exact absurd this (wZ.mpr h),I.SY h⟩
def Inv.Ts(I:Inv X W T H s)(c:kR X W H g)(b:kR X W H f)(i:s.heap.get? g=O e)(h:s.heap.get? f=O d)(k:∀v,e.data≠.cell v)(j:∀v,d.data≠.cell v):Inv X (W++[(g,e),(f,d)]) T H s:=
 I.yp λp a=>by
  rcases Yu.mp a with a|a;·exact I.pin p (Ye _ a)
  ·rcases Ys.mp a with rfl|a;·exact⟨i,c.hn,c.hL,c.hf,k⟩
   ·rw[Yl.mp a];exact⟨h,b.hn,b.hL,b.hf,j⟩
def Inv.B0(I:Inv X (W++more) T H s):Inv X W T H s:=
 I.yp λp a=>I.pin p (Ye _ (Yk _ a))
def Inv.B3(I:Inv X W T H s)(n:kR X W H b)(k:∀c o,c≠b->s.heap.get? c=O o->a.get? c=O o):Inv X W T H {s with heap:=a,toks:=t'}:=
 I.turned k n.hn n.hL (.inr n.hs) n.hc n.hp
def wz(X:Cx)(f:aV)(W:aJ)(T:St)(H:Hp)(v:aV)(k:Int):Prop:=
 ∀(more:aJ) (s:a8),Inv X (W++more) T H s->wpAny X.md X.A.in1.in1 (call f [v]) (λu a=>(∃t,u=.int k t)/\Inv X (W++more) T H a) (λ_ _=>False) s
def j_(a:Z Int)(b:Z Nat):Prop:=b.Perm (List.range a.length)/\b.Pairwise λi j=>a.getD i 0<a.getD j 0\/(a.getD i 0=a.getD j 0/\i<j)
def Zez(g:Good a.length p)(c:Sd (dk a) p a.length):j_ a p.toList:=by
 refine⟨by simpa using Jk.mp g.2,?_⟩;rw[Wc];intro i j d b h;have sz:=g.size;have f:p.toList[i]=p.getD i 0:=by
  rw[Y7] at d;simp_all
 have e:p.toList[j]=p.getD j 0:=by
  rw[Y7] at b;simp_all
 rw[f,e];rw[Y7] at b;exact pT.mp (c i j h QO)
def Zdc(h:a.length<2):j_ a (List.range a.length):=by
 refine⟨mF _,?_⟩;rw[Wc];intro i j c b d;rw[Ws] at b;omega
variable {E:aR}{vs:Z aV}{kz:Z Int}
def AL:∀v,(seqObj c xs n).data≠.cell v:=λ_ z=>nomatch z
def Qd{b:SortSt}{is:Z Nat}(I:Inv X W T H s)(t:kR X W H d)(u:kR X W H a)(p:d≠a)(w:s.heap.get? d=O (seqObj "list" keys e))(x:s.heap.get? a=O (seqObj "list" #[] y))(v:keys.size<=64)
  (l:(arrOf b).map (·.2)=List.toArray (is.map λi=>vs.getD i Value.none))(B:is.length<=64)(m:failedOf b=aI)
  (h:∀f c,Inv X W T H f->f.heap.get? a=O (seqObj "list" (List.toArray (is.map λi=>vs.getD i Value.none)) c)->P (.done (.ret .none)) f):
  wpAny X.md A (ksk_tail a aY y (.ref d) b) P E s:=by
 have k:=Ua s.heap d (Obj.mapSeq λ_=>(#[]:cw aV));have j:=(k.2 a p.symm).trans x;have r:=Ua (s.heap.update d (Obj.mapSeq λ_=>(#[]:cw aV))) a (Obj.mapSeq λ_=>(arrOf b).map (·.2));obtain⟨g,z⟩:∃g,((s.heap.update d (Obj.mapSeq λ_=>(#[]:cw aV))).update a (Obj.mapSeq λ_=>(arrOf b).map (·.2))).get? a=O (seqObj "list" ((arrOf b).map (·.2)) g):=⟨_,get?_update_seq j λ_=>(arrOf b).map (·.2)⟩;unfold ksk_tail;try dsimp only
 refine td (listUpdate_at w rfl ?_ (by rw[sV];exact ir v (by decide)) (Yx _));refine td (wpAny_letGo ?_);refine td (seqEpoch_at j rfl ?_);simp only[W9,UB];refine td (listUpdate_at j rfl ?_ (Yx _) (by rw[l,Yw,Ya,sV];exact ir B (by decide)));rw[m];simp only[U0,W9,UB];refine wpAny_pure (h _ g ((I.B3 (t':=s.toks) t λc o n q=>(k.2 c n).trans q).B3 (t':=s.toks) u λc o n q=>(r.2 c n).trans q) ?_);rw[←l];exact z
def Zgl(I:Inv X W T H s)(J:kR X W H m)(L:kR X W H a)(F:m≠a)(R:s.heap.get? m=O (seqObj "list" keys e))(ea:s.heap.get? a=O (seqObj "list" #[] y))
  (v:IntsAre keys.toList kz)(b:kz.length=vs.length)(B:vs.length<64)
  (h:∀d c f,Inv X W T H d->j_ kz f->d.heap.get? a=O (seqObj "list" (List.toArray (f.map λi=>vs.getD i Value.none)) c)->P (.done (.ret .none)) d):
  wpAny X.md A (ksk_end a aY vs.toArray y (.ref m) keys) P E s:=by
 have o:keys.size=vs.length:=by
  have h1:=v.length;rw[Y7] at h1;omega
 have w:keys=keys.toList.toArray:=QS
 have q:keys.toList.length=vs.length:=by rw[Y7];exact o
 unfold ksk_end;try dsimp only
 simp only[W9,mM];by_cases k:vs.toArray.size<2
 ·rw[br k,br k];refine a7 (cb ?_);rw[LZ];refine a7 (cb ?_);try dsimp only
  rw[Yw] at k;refine Qd (vs:=vs) (is:=List.range vs.length) I J L F R ea (ir (tr o) (lp B)) ?_ (by rw[Ws];exact lg B) rfl λd c D z=>h d c _ D (by rw[←b];exact Zdc (sq (gR b) k)) z;show(keys.zip vs.toArray).map (·.2)=_;rw[range_getD];refine Array.ext' ?_;rw[Array.toList_map,ksk_zip,List.map_snd_zip];exact zy q.symm
 ·rw[bb k,bb k];rw[Yw] at k;rw[ksk_kind v QO];refine a7 (cb ?_);obtain⟨g,sd⟩:=Za3 (ks:=kz) (n:=vs.length) (eU (sC _) (dg k));have run:wpAny X.md A (sortRuns'.run (SortSt.mk' oneType' (keys.zip vs.toArray) #[] 7 aI)) (λr d=>d=s/\∃f,j_ kz f/\f.length=vs.length/\(arrOf r.2).map (·.2)=List.toArray (f.map λi=>vs.getD i Value.none)/\failedOf r.2=aI) E s:=by
   rw[w];refine kat_run (ks:=keys.toList) (vs:=vs) (Q:=λl d=>d=s/\∃f,j_ kz f/\f.length=vs.length/\(arrOf l).map (·.2)=List.toArray (f.map λi=>vs.getD i Value.none)/\failedOf l=aI) (G:=λp d=>d=s/\p=Run (a9 kz) (kas_sort vs.length)) q (dg k) B (λp l d a1 a2 a3 a4=>?_) (eZ.run (lt:=a9 kz) (λi j C N hj hC=>?_) (N9 (eU (sC _) (dg k))) ⟨rfl,rfl⟩)
   ·obtain⟨rfl,rfl⟩:=a4;rw[←b] at g sd;refine⟨rfl,_,Zez g sd,?_,?_,a3⟩;·rw[Y7,g.size,b]
    ·rw[b];exact kat_snds q a2
   ·unfold kas_ask;have at_:∀i,i<vs.length->∃t,keys.toList.getD i Value.none=.int (kz.getD i 0) t:=λi N=>by
     have pr:Vals (kz.map V.int) keys.toList:=Gw v;obtain⟨u,eu,r⟩:=pr.get (i:=i) (x:=.int (kz.getD i 0)) (by rw[Yi,Yb QO,Yd,Yb QO];rfl);obtain⟨t,rfl⟩:=r;exact⟨t,by rw[Yd,eu];rfl⟩
    obtain⟨t,y⟩:=at_ i N;obtain⟨u,e2⟩:=at_ j hj;rw[y,e2];exact kat_lt_int hC
  refine a7 (cW run ?_ λ_ _ e=>e);rintro⟨⟨⟩,l⟩ d ⟨rfl,f,sb,li,ho,hf⟩;try dsimp only
  exact Qd I J L F R ea (ir (tr o) (lp B)) ho (d4 (gR li) (lg B)) hf λd c D z=>h d c f D sb z
theorem ZeA(I:Inv X W T H s)(w:kR X W H d)(z:kR X W H a)(J:d≠a)(ek:s.heap.get? d=O (seqObj "list" #[] 0))(ea:s.heap.get? a=O (seqObj "list" #[] C))
  (t:kz.length=vs.length)(dY:vs.length<64)(r:∀(i:Nat) (v:aV) (k:Int),vs[i]?=O v->kz[i]?=O k->wz X f W T H v k)
  (h:∀g c N,Inv X W T H g->j_ kz N->g.heap.get? a=O (seqObj "list" (List.toArray (N.map λi=>vs.getD i Value.none)) c)->P (.done (.ret .none)) g):
  wpAny X.md X.A.in1.in1 (ksk_rest a f aY vs.toArray C (.ref d)) P E s:=by
 unfold ksk_rest;refine a7 (r6 ?_);first
  |rw[List.forIn_toArray]
  |(rw[←Es];simp[CZ])
  |rw[←Es]
 refine a7 (ksk_fold (λi g=>∃b e,Inv X (W++[(d,seqObj "list" b e),(a,seqObj "list" #[] C)]) T H g/\IntsAre b.toList (kz.take i)) vs 0 s
  ⟨#[],0,I.Ts w z ek ea AL AL,by simpa using IntsAre.nil⟩ ?step ?done)
 case step=>
  rintro j x g Q ⟨b,e,u,m⟩;simp only[Lo] at m⊢;have hj:j<vs.length:=(Yf.mp Q).1;obtain⟨k,R⟩:∃k,kz[j]?=O k:=⟨_,Yb QO⟩;have hz:b.size<=vs.length:=by
   have h1:=m.length;rw[Y7,Wi] at h1;omega
  refine a7 (vg (cW (r j x k Q R _ g u) (λv y he=>?_) λ_ _ hF=>hF.elim));obtain⟨⟨l,rfl⟩,G⟩:=he;try dsimp only
  have p:y.heap.get? d=O (seqObj "list" b e):=(G.pin (d,_) (Ye _ (Ye _ (.head _)))).1;have F:y.heap.get? a=O (seqObj "list" #[] C):=(G.pin (a,_) (Ye _ (Ye _ (.tail _ (.head _))))).1;have L:=tx y.heap d (Obj.mapSeq (·.push (.int k l)));obtain⟨D,Ln⟩:∃D,(y.heap.update d (Obj.mapSeq (·.push (.int k l)))).get? d=O (seqObj "list" (b.push (.int k l)) D):=⟨_,get?_update_seq p (·.push (.int k l))⟩;have A:kz.take (j+1)=kz.take j++[k]:=by rw[Y8,R];simp
  have B:(b.push (Value.int k l)).toList=b.toList++[Value.int k l]:=QS
  refine a7 (listUpdate_at p rfl ?_ (by rw[c7];omega) (Yz (zy (Array.size_push ..)) (by rw[c7];omega)));exact cb ⟨rfl,b.push (.int k l),D,(G.B0.B3 w λc o n q=>(L.2 c n).trans q).Ts w z Ln ((L.2 a J.symm).trans F) AL AL,by rw[B,A];exact ksk_snoc m⟩
 case done=>
  rintro g ⟨b,e,u,m⟩;have fF:IntsAre b.toList kz:=by
   have e3:kz.take (0+vs.length)=kz:=Jx QO;rw[e3] at m;exact m
  have p:=(u.pin (d,_) (Ye _ (Ye _ (.head _)))).1;have F:=(u.pin (a,_) (Ye _ (Ye _ (.tail _ (.head _))))).1;try dsimp
  refine a7 (listItems_at p rfl ?_);exact Zgl u.B0 w z J p F fF t dY h
def ZeB(I:Inv X W T H s)(p:kR X W H a)(g:s.heap.get? a=O (seqObj "list" vs.toArray n))
  (e:kz.length=vs.length)(z:vs.length<64)(d:∀(i:Nat) (v:aV) (k:Int),vs[i]?=O v->kz[i]?=O k->wz X f W T H v k)
  (h:∀j c r,Inv X W T H j->j_ kz r->j.heap.get? a=O (seqObj "list" (List.toArray (r.map λi=>vs.getD i Value.none)) c)->P (.done (.ret .none)) j):
  wpAny X.md X.A.in1.in1 (ksk_tree a f aY) P E s:=by
 have y:a<s.heap.objs.size:=Yp g;have x:=tx s.heap a (Obj.mapSeq λ_=>(#[]:cw aV));obtain⟨t,m⟩:∃t,(s.heap.update a (Obj.mapSeq λ_=>(#[]:cw aV))).get? a=O (seqObj "list" #[] t):=⟨_,get?_update_seq g λ_=>#[]⟩;have l:((s.heap.update a (Obj.mapSeq λ_=>(#[]:cw aV))).push (seqObj "tuple" vs.toArray 0)).objs.size=s.heap.objs.size+1:=by rw[size_push',UQ]
 unfold ksk_tree;refine a7 (listItems_at g rfl ?_);refine a7 (listUpdate_at g rfl ?_ (by rw[Yw,c7];exact lp (k8 z (by decide))) (Yx _));refine a7 (seqEpoch_at m rfl ?_);refine a7 (Pe ?_ (by show vs.length<=_;rw[c7];exact lp (k8 z (by decide))));refine a7 (pb ?_ (Yx _));refine fx ?_;have B:Inv X W T H {s with heap:=s.heap.update a (Obj.mapSeq λ_=>(#[]:cw aV))}:=I.B3 (t':=s.toks) p λc o n q=>(x.2 c n).trans q;have w:Inv X W T H {s with heap:=(s.heap.update a (Obj.mapSeq λ_=>(#[]:cw aV))).push (seqObj "tuple" vs.toArray 0)}:=B.kept (t':=s.toks) λb u q=>Yc _ q;have A:Inv X W T H {s with heap:=((s.heap.update a (Obj.mapSeq λ_=>(#[]:cw aV))).push (seqObj "tuple" vs.toArray 0)).push (seqObj "list" #[] 0)}:=w.kept λb u q=>Yc _ q;exact ZeA A (w.tZ (Yg _)) p (by exact l▸W1 (Wo y)) (Yn _ rfl) (Yc _ (Yc _ m)) e z d h
def Zb3{f:aV}{n:Z (af×aV)}{d:cm}{m:Nat}{Q:aR}(I:Inv X W T H {s with heap:=d,toks:=m})(g:kz.length=vs.length)(A:vs.length<64)(t:∀x,argsOk "list.sort" ⟨[.ref x],n⟩)(y:∀x,Builtin.«list.sort» ⟨[.ref x],n⟩=ksk_tree x f aY)
  (e:∀(i:Nat) (v:aV) (k:Int),vs[i]?=O v->kz[i]?=O k->wz X f W T H v k)
  (h:∀D a c j,d.objs.size<=D->Inv X W T H a->kR X W H D->j_ kz j->a.heap.get? D=O (seqObj "list" (List.toArray (j.map λi=>vs.getD i Value.none)) c)->Q (.ref D) a):
  wpAny X.md X.A.in1 (do let l←newList vs;let _←holding [l] (call (.builtin "list.sort") [l] n);ret l) (λr a=>∃v,r=.done (.ret v)/\Q v a) E {s with heap:=d,toks:=m}:=by
 refine a7 (pb ?_ (by rw[c7];exact lp (k8 A (by decide))));have p:(d.push (seqObj "list" vs.toArray 0)).get? d.objs.size=O (seqObj "list" vs.toArray 0):=Yn _ rfl;have o:=I.tZ (b:=d.objs.size) (Yg _);have B:Inv X W T H {s with heap:=d.push (seqObj "list" vs.toArray 0),toks:=m}:=I.kept λb u q=>Yc _ q;refine a7 (fx (wpAny_call_entry_kw slot_list_sort ⟨_,p,rfl⟩ entry_list_sort ?body (t _)));case body=>
  rw[y];refine ZeB B o p g A e λa c j C w z=>⟨_,rfl,?_⟩;exact cb ⟨_,rfl,h _ a c j (Yg _) C o w z⟩
end
structure t6(K:ae)(C:U)(m:af)(f:U):Prop where
 gt:specialIn K (.ref f) "__get__"=O (O (.builtin "function.__get__"))
 tk:takesIn K (.ref f)=O aY
 cp:PySem.W.copiedNames.contains m=aY
section
variable {T:c6}{w:cD}{A:dO}{E:aR}{s:a8}{K:ae}{x R C f:U}{mA:aN}{W:af}
def ZeC{a:bA}{Q:aR}(X:K.In s.heap)(I:rm s.heap x R C mA)(c:plainGet K C W=ar)(g:hasDictIn K C=ar)(j:PySem.W.findIn K (.ref C) W=O (O (.ref f)))(i:isFn K (.ref f)=ar)(b:t6 K C W f)(d:mA W=aI)
  (h:Q (.ref s.heap.objs.size) {s with heap:=s.heap.push (methodObj (.ref f) (.ref x)),toks:=s.toks+1}):wpAny (model T w) A (getAttr (.ref x) W a) Q E s:=by
 obtain⟨k,J,e⟩:=I.look;exact get_bind X J (plainGet_of c).1 (findObj_fn g j b.gt b.tk b.cp (by rw[e,d])) (plainGet_of c).2 (je (fn_get X (beq_iff_eq.mp i) (handed_on rfl h)))
end
def Lq(K:ae)(H:Hp)(x:V)(b:Z V):Prop:=∃p,x=.ref p/\(aj K H p b\/∃a,H p=O (.dK a)/\b=a.map λc=>kV c.1)
def Iw(K:ae)(C:U)(m:af)(h:Sp)(g:TE)(f:St)(Q:VK)(x:V)(l:Hp):Prop:=g f l λy c=>∃(a j:U) (fs:Z (af×V)) (b:Z V) (d:Z Int),y=.ref a/\c a=O (.ins C j fs)/\fs.lookup m=aI/\Lq K c x b/\d.length=b.length/\b.length<64/\
 (∀(i:Nat) (v:V) (k:Int),b[i]?=O v->d[i]?=O k->h [.ref a,v] c (λr n=>r=.int k/\n=c) E0)/\∀e,j_ d e->Nw c (.lst (e.map λi=>b.getD i .aB)) Q
def Kg(q:V->Hp->Prop):Z V->Hp->Prop
 |[x],H=>q x H
 |_,_=>False
def Zgm(K:ae)(C:U)(m:af)(d:Sp)(c b:TE):TE:=λa H Q=>c a H (Iw K C m d b a Q)
section
variable {X:Cx}
def Inv.adopt(I:Inv X pins σ H s)(n:kR X pins H D)(j:bY X.prog X.w (upd H D o) s.heap D o):Inv X pins σ (upd H D o) s:=by
 have ne:∀b u,H b=O u->b≠D:=λb u e=>bW e n.hn;refine⟨I.ok,I.os,I.bare,⟨I.base.keep,I.base.slot,λb a q i h=>?_,I.base.there,λb d q=>?_,λb a u q=>?_,λb g q=>?_⟩,I.loc,I.cell,?_,λx c e=>?_,λp f=>?_,λb u e=>?_,I.len⟩
 ·rw[az (λz=>absurd (Yp q) (by exact z▸wZ.mpr n.hs))];exact I.base.free b a q i h
 ·have:=I.base.gP b d q;rwa[az (ne _ _ this)]
 ·have:=I.base.ie b a u q;rwa[az (ne _ _ this)]
 ·obtain⟨more,this⟩:=I.base.ig b g q;exact⟨more,by rwa[az (ne _ _ this)]⟩
 ·rw[az (d6 n.hL)];exact I.free
 ·rw[az (n.hc x c e)];exact I.ia x c e
 ·obtain⟨l,m,k⟩:=I.pin p f;exact⟨l,by rwa[az (n.hp p f)],k⟩
 ·by_cases z:b=D
  ·subst z;rw[aM] at e;cases e;exact j
  ·rw[az z] at e;exact(I.au b u e).gO (λc v _ q=>q) (λc q=>by rwa[az (ne _ _ q)]) λc d q=>by rwa[az (ne _ _ q)]
theorem Qe(I:Inv X pins σ H s)(hc:X.calm=ar)(Lr:argsOk "sorted" ⟨[.ref l],[(Str.ofString "key",f)]⟩)(zQ:∀x,argsOk "list.sort" ⟨[.ref x],[(Str.ofString "key",f)]⟩)(ht:∀x,Builtin.«list.sort» ⟨[.ref x],[(Str.ofString "key",f)]⟩=ksk_tree x f aY)
  (F:Lq X.K H (.ref l) xs)(hl:N.length=xs.length)(dY:xs.length<64)(y:∀(i:Nat) (x:V) (v:aV) (k:Int),xs[i]?=O x->RelV x v->N[i]?=O k->wz X f pins σ H v k)
  (h:∀a,j_ N a->Nw H (.lst (a.map λi=>xs.getD i .aB)) Q):
  wpAny X.md X.A (call (.builtin "sorted") [.ref l] [(Str.ofString "key",f)]) (EP X pins σ Q) X.xe s:=by
 refine call_function_entry_kw kind_sorted plain_sorted entry_sorted Lr ?_;unfold Builtin.«sorted»;refine a7 (m:=checkCount "sorted" 1 1 _) (cb ?_);have fin:∀(g:cm) (G:Nat) (b:Z aV),Inv X pins σ H {s with heap:=g,toks:=G}->Vals xs b->wpAny X.md X.A.in1 (do let l←newList b;let _←holding [l] (call (.builtin "list.sort") [l] [(Str.ofString "key",f)]);ret l) (λr A=>∃v,r=.done (.ret v)/\EP X pins σ Q v A) (λe A=>X.xe e A) {s with heap:=g,toks:=G}:=λg G b I1 r=>by
  have lv:=r.length;refine Zb3 (kz:=N) I1 QO QO zQ ht (λi v k hv hk=>?_) λD A c a hD I' na J e'=>?_
  ·have t:i<xs.length:=by have:=(Yf.mp hv).1;omega
   obtain⟨u,C,L⟩:=r.get (Yb t);rw[hv] at C;cases C;exact y i _ v k (Yb t) L hk
  ·have cR:∀i∈a,i<xs.length:=λi t=>by have:=Wf.mp (J.1.subset t);exact k8 this (tr hl)
   have rv:Vals (a.map λi=>xs.getD i .aB) (a.map λi=>b.getD i Value.none):=by
    have T:∀q:Z Nat,(∀i∈q,i<xs.length)->Vals (q.map λi=>xs.getD i .aB) (q.map λi=>b.getD i Value.none):=λq=>by
     induction q with
     |nil=>exact λ_=>.nil
     |cons j q ih=>
      intro B;refine .cons ?_ (ih λi t=>B i (Yv _ t));have Ls:=B j Yj;obtain⟨u,C,L⟩:=r.get (Yb Ls);show RelV (xs.getD j .aB) (b.getD j Value.none);rw[Yd,Yd,C,Yb Ls];exact L
    exact T a cR
   have li:a.length=xs.length:=by have:=J.1.length_eq;rw[Ws] at this;omega
   exact⟨.ref D,_,I'.adopt (o:=.lst (a.map λi=>xs.getD i .aB)) na ⟨by rw[Ya,li,c7];exact lp (k8 dY (by decide)),_,c,rv,e'⟩,rfl,(h a J).at _ na.hn⟩
 obtain⟨p,E,F|⟨kvs,hp,rfl⟩⟩:=F
 ·cases E;obtain⟨ah,r',pl,hz⟩:=I.list F;obtain⟨o,n,ho,xh,_,hd⟩:=pl;refine a7 (uu l (.inl rfl) ho xh hd (λg R=>?_) (by rw[Yw,←r'.length];exact hz));have:=fin g s.toks ah (I.kept (t':=s.toks) R) r';simpa using this
 ·cases E;obtain⟨lim,Cn,b,kv,dd⟩:=lS I.au hp;obtain⟨E,da⟩:=dd.dictAt;have kl:=kv.length;refine a7 (kdu_collect (kdl_dict (kvs:=b) (ep:=E) Cn) (I.ok.hd hc) da (by rw[c7];rw[Ya] at dY;omega) λg W z R it=>?_);have d:Vals ((b.map (·.1)).map kV) z.toList:=by
   refine Gy (P:=X.prog) (w:=X.w) (by rw[Y7,Ya];exact it.1) λj v B=>?_;obtain⟨k,x,hx,fF⟩:=it.2 j v (by rw[←UL];exact B)
   grind
  rw[←kv.keys,Y0] at d;exact fin g W z.toList (I.kept (t':=W) R) d
def Inv.Iy(I:Inv X pins σ H s)(d:∀v,o.data≠.cell v)(c:cm)(e:c=s.heap.push o)(g:c.get? s.heap.objs.size=O o):Inv X (pins++[(s.heap.objs.size,o)]) σ H {s with heap:=c,toks:=t'}:=by
 subst e;have n:=I.tZ (b:=s.heap.objs.size) (Yg _);have f:Inv X pins σ H {s with heap:=s.heap.push o,toks:=t'}:=I.kept λb u q=>Yc _ q;refine f.yp λp a=>?_;rcases Yu.mp a with a|a;·exact f.pin p (Ye _ a)
 ·rw[Yl.mp a];exact⟨g,n.hn,n.hL,n.hf,d⟩
theorem Zdd(F:aH X.prog X.w X.K X.mg X.base aO k g fd d sp)(o:bK j X.A)(t:k+2<=j)(w:Binds X.K fd d [])(m:RelV x v)(h:sp [.ref a,x] H (λr l=>r=.int i/\l=H) E0)(b:(q,methodObj (.ref g) (.ref a))∈pins):wz X (.ref q) pins σ H v i:=by
 intro more s I;have c:Vals [.ref a,x] [.ref a,v]:=.cons rfl (.cons m .nil);have p:([Value.ref a,v]++[]).length=d.length:=by rw[Wh,←c.length];exact F.len _ _ _ _ h
 have f:=w s [.ref a,v] I.bM p;rw[Wh] at f;refine je (method_call (I.pin _ (Ye _ (Yk _ b))).1 (i_ (F.run X.A.in1.in1 X.stack s H ⟨[.ref a,v],[]⟩ [.ref a,v] [.ref a,x] _ _ ((o.mono t).in1.in1) I.wj.in1.in1 f c h) λr B b=>?_));cases r with
 |error e=>exact b.elim
 |ok y=>
  cases y with
  |ret u=>
   obtain⟨A,l,z,n,rfl,rfl⟩:=I.after b;exact⟨n,z⟩
  |next=>exact False.elim b
  |brk=>exact False.elim b
  |cont=>exact False.elim b
theorem O1{k j:Nat}{m:af}{C:U}{ps:Z af}{E:Sp}{p g w T:Pos}{e o:bZ}{R D:TE}(hc:X.calm=ar)(hM:cG X.prog X.w X.K X.mg X.base k m C ps E)(hB:∀f,Meth X.K C m f->t6 X.K C m f)(hr:bK j X.A)(hj:k+2<=j)(hg:Gl X "sorted")(hm:X.mg "sorted"=aI)(J:bootBuiltins "sorted"=O (.builtin "sorted"))(ha:PA X [e] (jB R jZ))(ho:PE X o D)
  (L:attributeBase o m X.env (eval o X.env)=eval o X.env:=by rfl)(h1:backTo g (starEach [e] X.env)=(aY,eval e X.env)::backTo g (starEach [] X.env):=by rfl)(h2:(backTo g (starEach [e] X.env)).any (·.1)=aY:=by rfl):PE X (.Call (.Name "sorted" p) [e] [⟨O "key",.Attribute o m w,T⟩] g) (Zgm X.K C m E R D):=by
 intro n s A H Q I h;obtain⟨f,fd,c,d,F,hb⟩:=hM;have B:=hB f d;refine kC (pW I hg hm J ?_);refine callWith_kw (aw (ha g n s A H (Kg (Iw X.K C m E D A Q)) I h) λus s1 G=>?_) h1 h2;obtain⟨P,H1,I1,r,q⟩:=G;obtain⟨t,rfl,q⟩:∃t,P=[t]/\Iw X.K C m E D A Q t H1:=by
  match P,q with
  |[t],q=>exact⟨t,rfl,q⟩
  |[],q=>exact q.elim
  |_::_::_,q=>exact q.elim
 refine uo (a7 (Hn L (aw (ho n s1 A H1 _ I1 q) λu s2 G=>?_)));obtain⟨y,H2,N,ry,a,dx,fs,xs,kz,ey,ea,el,W,hl,dY,tn,fin⟩:=G;subst ey;obtain rfl:u=Value.ref a:=ry;obtain⟨mA,b,rO,_,_,_⟩:=yq N.au ea;refine ZeC N.bM b (c.get m) c.hd d.at_ d.fn B (eX.none_of (by rw[←el];exact rO m)) ?_;refine a7 (gU (cb (ra ?_)));obtain⟨u0,rfl,r0⟩:=vals1 r;obtain⟨l,rfl,Lu⟩:=W;obtain rfl:u0=Value.ref l:=r0;have I3:=N.Iy (t':=s2.toks+1) (o:=methodObj (.ref f) (.ref a)) (λ_ z=>nomatch z) _ rfl (Yn _ rfl);refine aw (Qe I3 hc (ksk_s1 _ _) (λx=>ksk_l1 _ _) (λx=>ksk_t1 _ _) ⟨l,rfl,Lu⟩ hl dY (λi x v k hx J hk=>Zdd F hr hj hb J (tn i x k hx hk) (Ye _ (.head _))) fin) λu s' ⟨v,H',I',rv,q'⟩=>⟨v,H',I'.B0,rv,q'⟩
end
def RD(K:ae)(f:U)(e:aV):Prop:=∃(c:aV) (b:bt U) (a:FuncData) (d:cw (bt aV)),K.lookup f=O ⟨c,b,.func a,d⟩/\a.code=e
def aP.Zh8{b:bA}{P:c6}{w:cD}{K:ae}{m:aN}{e:cm}{x d:af}{h:bS}{f:U}{o:FuncData}{N j:Z af}{k:Nat}{sp:Sp}(F:aP K x d h f o)(a:aS N j (aL h))(l:∀g H Q E,sp g H Q E->g.length=j.length)
  (p:∀(i:aV) (A:dO) (c:Z Env) (s:a8) (H:Hp) (g:Z V) (Q:VK) (E:XK),RD K f i->bK k (A.deeper (envOfC d (aL h) s.heap.objs.size f i))->sp g H Q E->
   ∃t,fR (iG (iu b P w) P w K m e N d (aL h) f i A c s H E) (gw h) t/\t {nx:=λ_ y=>Q .aB y,rt:=Q} (start N g) H):aH P w K m e (iu b P w) (k+1) f o j sp:=by
 obtain⟨C,B,kV,v,z,I,i,G,D,rfl,n,u⟩:=F.ex;exact BU n u a l λA c s H g Q E r q=>p i A c s H g Q E ⟨_,_,_,_,n,rfl⟩ r q
def oX(d:aN)(a:cm):Prop:=∃c b,d "__builtins__"=O (.ref c)/\c≠builtinsNs/\c≠mainGlobals/\a.get? c=O b/\b.cls=.type "module"/\b.dict=O builtinsNs/\b.data=.plain
structure Cp(K:ae)(f c P:U):Prop where
 code:∀aU,RD K f aU->aU=.ref c
 hd:∀h,K.In h->CodeHd h c P
def wA(c:U)(a:af):HO:=.ext λh=>∃o b t,h.get? c=O o/\o.data=.fields b/\b[1]?=O (.str a t)
def ZeD(x:h.CodeRec (.ref c) qual):bY P w H h c (wA c qual):=by
 obtain⟨l,o,a,t,e,b,d,f⟩:=x;cases e;refine⟨⟨o,a,t,b,d,f⟩,⟨o,b⟩,?_⟩;rintro b d ⟨o,a,t,j,i,g⟩ k;exact⟨o,a,t,k _ j,i,g⟩
def Zde(x:bY P w H h c (wA c qual)):h.CodeRec (.ref c) qual:=by
 obtain⟨⟨o,a,t,e,d,b⟩,_⟩:=x;exact⟨c,o,a,t,rfl,e,d,b⟩
def TabAt(H:Hp)(P:U)(b:Pos)(a:af):Prop:=H P=O (.dz #[])\/∃c,H P=O (.dz #[rawInt b.line,rawInt b.col,.ref c])/\H c=O (wA c a)
def TabAt.same(t:TabAt H P pos qual)(g:aq H a):TabAt a P pos qual:=by
 rcases t with t|⟨c,t,u⟩;·exact .inl (g _ _ t)
 ·exact .inr ⟨c,g _ _ t,g _ _ u⟩
section
variable {X:Cx}{W:aJ}{N:St}{H:Hp}{s:a8}
theorem ZeE(a:aS [y] [y] scope)(G:bK j X.A)(L:3<=j)(c:(q,kla_obj name qual params body scope [] pm f B)∈W)(Q:H f=O (wA f qual))(t:RelV x v)
  (R:∀s,BindsTo s (kla_fn name qual params body scope [] pm (.ref f) B) ⟨[v],[]⟩ [(y,v)])
  (C:∀(A:dO) (b:Z Env) (s:a8),∃g,PE (iG aO X.prog X.w X.K X.mg X.base [y] qual scope q (.ref f) A b s H E0) body g/\g (start [y] [x]) H (λr d=>r=.int i/\d=H)):wz X (.ref q) W N H v i:=by
 intro more s I;have p:bK 1 X.A.in1.in1:=(G.mono L).in1.in1;have e0:=I.wj.in1.in1;have run:codeAny X.md X.A.in1.in1 (.call (.ref q) ⟨[v],[]⟩) (CR aO X.stack X.prog X.w H s (λr d=>r=.int i/\d=H) E0) s:=by
  refine kla_callFunE p.depth (I.pin _ (Ye _ (Yk _ c))).1 rfl a.co a.gen rfl (Zde (I.au _ _ Q)) (R s _ _ _ _ ?_);refine zi a.kind (λz D=>?_) λenv P s1 m=>?_
  ·rw[Yl.mp D];rcases a.par y (.head _) with k|k;·exact .inl k
   ·exact .inr ⟨k,vb _ _ _ (.inl k)⟩
  ·subst P;refine⟨I.nolimit.keeps m.toInCall.keep,kla_codeExpr ?_⟩;obtain⟨g,E,l⟩:=C X.A.in1.in1 X.stack s;have I1:Inv (iG aO X.prog X.w X.K X.mg X.base [y] qual scope q (.ref f) X.A.in1.in1 X.stack s H E0) [] (start [y] [x]) H s1:=NU a p.hd e0 rfl (.cons t .nil) m;exact cW (E [] s1 _ H _ I1 l) (λu o zz=>by obtain⟨n,d,J,h,e⟩:=zz;exact⟨n,d,J.os,J.bare,J.base,J.au,h,e⟩) λe o F=>F
 refine je (i_ run λr o c=>?_);cases r with
 |error e=>exact c.elim
 |ok T=>
  cases T with
  |ret u=>
   obtain⟨n,d,I',w,rfl,rfl⟩:=I.after c;exact⟨w,I'⟩
  |next=>exact False.elim c
  |brk=>exact False.elim c
  |cont=>exact False.elim c
def Inv.grown(I:Inv X W N H s)(i:H P=O (.dz g))(f:Heap.ExtBut P s.heap j)(p:s.heap.objs.size<=k)(x:j.CodeRec (.ref k) qual)(t:j.get? P=O (tabObj (g++more))):
  Inv X W N (upd (upd H P (.dz (g++more))) k (wA k qual)) {s with heap:=j,toks:=t'}:=by
 have h:∀b,H b=aI->b≠P:=λb n z=>by rw[z,i] at n;cases n
 have d:∀b u,H b=O u->u≠.dz g->b≠P:=λb u e n z=>by rw[z,i] at e;cases e;exact n rfl
 have A:Inv X W N (upd H P (.dz (g++more))) {s with heap:=j,toks:=t'}:=by
  refine I.step (g':=s.gens) (d':=s.drawn) (ch:=[]) (λ_ z=>nomatch z) (λb o _ _ _ e n=>f b o (h b n) e) (λb o _ _ _ e n=>⟨o.slots,f b o (h b n) e⟩) (λb o _ e n=>by rwa[az (h b n)]) (λb o _ e=>?_) (λb r e=>by rwa[az (d _ _ e nofun)]) (λb o u e=>by rwa[az (d _ _ e nofun)]) (λb B e=>?_) (λm w=>w.extBut f (h _ I.free)) (λb u e=>?_) I.bare
  ·by_cases z:b=P;·exact z▸⟨_,t⟩
   ·exact⟨o,f b o z e⟩
  ·by_cases z:b=P
   ·rw[z,i] at e;cases e;exact⟨more,by rw[z,aM]⟩
   ·exact⟨#[],by rw[az z,e];simp⟩
  ·by_cases z:b=P
   ·rw[z,aM] at e;cases e;rwa[z]
   ·rw[az z] at e;exact(I.au b u e).gO (λc v l q=>f c v (by rcases l with rfl|l;exact z;exact d _ _ l nofun) q) (λc q=>by rwa[az (d _ _ q nofun)]) λc r q=>by rwa[az (d _ _ q nofun)]
 have a:=I.tZ p;have y:k≠P:=λz=>absurd (I.au.lt i) (by rw[←z];exact wZ.mpr p);exact A.adopt ⟨by rw[az y];exact a.hn,a.hL,a.hs,a.hc,a.hp,a.hf⟩ (ZeD x)
def Zgn(I:Inv X W N H s)(T:Cp X.K f c P)(hB:oX X.mg X.base)(J:X.env.code=.ref c)(x:TabAt H P i (X.env.qual++"<lambda>"))(w:closureFor scope X.env=pure [])(R:defaultsOf A X.env=([],[]))
  (h:∀(q a:U) (pm g:aV) (j:Hp) (y:a8),aA P H j->TabAt j P i (X.env.qual++"<lambda>")->j a=O (wA a (X.env.qual++"<lambda>"))->Inv X (W++[(q,kla_obj "<lambda>" (X.env.qual++"<lambda>") A body scope [] pm a g)]) N j y->Q (.ref q) y):
  wpAny X.md X.A (eval (.Lambda A body scope i) X.env) Q X.xe s:=by
 rw[arm_eval_Lambda,R];refine a7 (ra ?_);refine a7 (fx (cb ?_));have B:=I.mod.glob.keeps I.bk;have G:∀b o,X.base.get? b=O o->b≠P:=λb o e z=>by
  have n:=(I.bs b o e).2;rw[z] at n;rcases x with t|⟨_,t,_⟩<;>rw[n] at t<;>cases t
 have l:mainGlobals≠P:=by
  obtain⟨o,_,_,e,_⟩:=I.mod.glob;exact G _ _ e
 obtain⟨bm,bo,b1,b2,b3,E,b5,b6,b7⟩:=hB;have F:s.heap.BuiltinsAt X.mg P:=⟨bm,bo,b1,b2,b3,G _ _ E,I.bk _ _ E,b5,b6,b7⟩;have C:=T.hd s.heap I.bM;rcases x with t|⟨a,t,u⟩
 ·have m:s.heap.get? P=O (tabObj #[]):=I.au _ _ t;refine kla_makeFunction (mg:=X.mg) w I.ok.glob B J C m trivial rfl l F λa g D d hx p bf L k=>?_;have r:=I.grown (t':=d) t hx p L k;have cP:a≠P:=λz=>absurd (I.au.lt t) (by rw[←z];exact wZ.mpr p);refine h _ a _ g _ _ (λb o e n=>?_) (.inr ⟨a,by rw[az (d6 cP),aM];simp,aM⟩) aM (r.Iy (t':=d) (by intro v z;cases z) _ rfl (Yn _ rfl));rw[az (bW e (I.au.fresh p)),az n];exact e
 ·have m:s.heap.get? P=O (tabObj #[rawInt i.line,rawInt i.col,.ref a]):=I.au _ _ t;refine kla_makeFunctionHit (mg:=X.mg) w I.ok.glob B J C m trivial (codeAmong_snoc (pos:=i) (c:=.ref a) [] trivial rfl) F λg D d kp sz=>?_;have r:Inv X W N H {s with heap:=D,toks:=d}:=I.kept (t':=d) kp;exact h _ a _ g H _ (aA.of (aq.refl _)) (.inr ⟨a,t,u⟩) u (r.Iy (t':=d) (by intro v z;cases z) _ rfl (Yn _ rfl))
def Iz(K:ae)(P:U)(e:Pos)(a:af)(R:V->Hp->Int->Prop)(Q:VK)(x:V)(g:Hp):Prop:=TabAt g P e a/\∀c,aA P g c->TabAt c P e a->∃(b:Z V) (d:Z Int),Lq K c x b/\d.length=b.length/\b.length<64/\(∀(i:Nat) (v:V) (k:Int),b[i]?=O v->d[i]?=O k->R v c k)/\∀f,j_ d f->Nw c (.lst (f.map λi=>b.getD i .aB)) Q
def Zgo(K:ae)(P:U)(c:Pos)(a:af)(R:V->Hp->Int->Prop)(b:TE):TE:=λN H Q=>b N H (Iz K P c a R Q)
theorem Zdf{f c P:U}{y:af}{z:Arguments}{m:bZ}{b:Scope}{t p g wm:Pos}{e:bZ}{o:TE}{j:Nat}{R:V->Hp->Int->Prop}(hc:X.calm=ar)(T:Cp X.K f c P)(hB:oX X.mg X.base)(B4:X.env.code=.ref c)(a:aS [y] [y] b)(hr:bK j X.A)(hj:3<=j)(hg:Gl X "sorted")(hm:X.mg "sorted"=aI)(B:bootBuiltins "sorted"=O (.builtin "sorted"))(ha:PA X [e] (jB o jZ))
  (hb:∀F cv ct v s,BindsTo s (kla_fn "<lambda>" (X.env.qual++"<lambda>") z m b [] F cv ct) ⟨[v],[]⟩ [(y,v)])
  (jC:∀(q C:U) (A:dO) (d:Z Env) (s:a8) (H:Hp) (x:V) (i:Int),R x H i->∃o,PE (iG aO X.prog X.w X.K X.mg X.base [y] (X.env.qual++"<lambda>") b q (.ref C) A d s H E0) m o/\o (start [y] [x]) H (λr D=>r=.int i/\D=H))
  (L:closureFor b X.env=pure []:=by rfl)(qt:defaultsOf z X.env=([],[]):=by rfl)(h1:backTo g (starEach [e] X.env)=(aY,eval e X.env)::backTo g (starEach [] X.env):=by rfl)(h2:(backTo g (starEach [e] X.env)).any (·.1)=aY:=by rfl):
  PE X (.Call (.Name "sorted" p) [e] [⟨O "key",.Lambda z m b t,wm⟩] g) (Zgo X.K P t (X.env.qual++"<lambda>") R o):=by
 intro W s N H Q I h;refine kC (pW I hg hm B ?_);refine callWith_kw (aw (ha g W s N H (Kg (Iz X.K P t (X.env.qual++"<lambda>") R Q)) I h) λus s1 J=>?_) h1 h2;obtain⟨E,H1,I1,r,q⟩:=J;obtain⟨n,rfl,tb,q⟩:∃n,E=[n]/\Iz X.K P t (X.env.qual++"<lambda>") R Q n H1:=by
  match E,q with
  |[n],q=>exact⟨n,rfl,q⟩
  |[],q=>exact q.elim
  |_::_::_,q=>exact q.elim
 obtain⟨u0,rfl,r0⟩:=vals1 r;refine uo (a7 (Zgn I1 T hB B4 tb L qt λq0 C F qz G s2 bar w CQ I3=>?_));refine a7 (gU (cb (ra ?_)));obtain⟨xs,kz,wk,hl,dY,tn,fin⟩:=q G bar w;obtain⟨l,rfl,Lu⟩:=wk;obtain rfl:u0=Value.ref l:=r0;refine aw (Qe I3 hc (ksk_s1 _ _) (λx=>ksk_l1 _ _) (λx=>ksk_t1 _ _) ⟨l,rfl,Lu⟩ hl dY (λi x v k hx B hk=>ZeE a hr hj (Ye _ (.head _)) CQ B (hb _ _ _ _) λA d s=>jC q0 C A d s G x k (tn i x k hx hk)) fin) λu s' zz=>by obtain⟨v,D,I',rv,q'⟩:=zz;exact⟨v,D,I'.B0,rv,q'⟩
end
end L2
namespace L2
open PySem PySem.Spec PyProof.Rows
theorem Zb4{P:c6}{w:cD}{K:ae}{t N:aN}{CX:kU}{k:Nat}{fa a c T:U}{fd:FuncData}{x:af}{sp:Sp}{aZ:a8}{A:Z aV}{D:Z Int}
  (KX:K.In aZ.heap)(xk:aZ.heap.Ns mainGlobals t)(f:aZ.heap.Ns builtinsNs N)(R:∀x:af,x≠"__name__"->N x=bootBuiltins x)(Zh9:aZ.heap.NoLimit)(hg:aZ.gens=#[])
  (B:aZ.heap.get? a=O {cls:=.type "list",data:=.seq A.toArray})(hi:IntsAre A D)(hl:D.length<=sizeLine)(hr:bK k callerA)(C:aZ.heap.get? T=O (PySem.W.tabObj #[]))(hC:PySem.W.CodeHd aZ.heap c T)(W:K.lookup T=aI)
  (hB:oX t aZ.heap)(F:∀g:cm,K.In g->g.Ns mainGlobals t->oX t g->aH P w K t g CX k fa fd [x] sp)(Zhg:∀(s:a8) (u:aV),BindsTo s fd ⟨[u],[]⟩ [(x,u)])
  (iO:∀H:Hp,H T=O (.dz #[])->aj K H a (D.map V.int)->sp [.ref a] H (λv _=>v=.bl ar) λ_ _ _=>False)
  (Ly:∀H e i,CX [] H aZ (λ_ _ _=>False) e i->False):
  codeAny (model P w) callerA (.call (.ref fa) ⟨[.ref a],[]⟩) (λr i=>r=.ok (.ret (.bool ar))/\OldK aZ.heap i.heap/\i.os=aZ.os/\AllBare i.gens) aZ:=by
 have rv:=Gw hi;have Zh_:=hi.length;have neT:a≠T:=λz=>by rw[z,C] at B;cases B
 have y:∀H:Hp,(∀b,H b=aI\/(∃o xs,H b=O (.bp o (.lst xs)))\/b=T)->H T=O (.dz #[])->aj K H a (D.map V.int)->cZ P w H aZ.heap->(∀b,H b≠aI->b=a\/b=T)->(H a≠aI->K.lookup a=aI)->
   codeAny (model P w) callerA (.call (.ref fa) ⟨[.ref a],[]⟩) (λr i=>r=.ok (.ret (.bool ar))/\OldK aZ.heap i.heap/\i.os=aZ.os/\AllBare i.gens) aZ:=by
  intro H hO tT hS au hA hK;have Hy:∀{b:U} {o:Obj},aZ.heap.get? b=O o->H b=aI->(oH aZ.heap H).get? b=O o:=λe n=>Zco e n;have kY:∀{b:U} {o:Obj} {E:cw DictEntry} {ep:Nat},aZ.heap.get? b=O o->o.data=.dict E ep->H b=aI:=λ{b o E ep} e d=>by
   cases q:H b with
   |none=>rfl
   |some u=>
    rcases hA b (by rw[q];simp) with j|j
    ·subst j;rw[B] at e;cases e;have d':Data.seq A.toArray _=Data.dict E ep:=d;cases d'
    ·subst j;rw[C] at e;cases e;cases d
  have J:∀{b:U} {m:aN},aZ.heap.Ns b m->(oH aZ.heap H).Ns b m:=λ{b m} ⟨o,E,ep,e,d,r⟩=>⟨o,E,ep,Hy e (kY e d),d,r⟩;have U1:K.In (oH aZ.heap H):=λb o e=>Hy (KX b o e) (by
   cases q:H b with
   |none=>rfl
   |some u=>
    rcases hA b (by rw[q];simp) with j|j
    ·subst j;rw[hK (by rw[q];simp)] at e;cases e
    ·subst j;rw[W] at e;cases e)
  have X:oX t (oH aZ.heap H):=by
   obtain⟨bm,L,b1,b2,b3,I,b5,b6,b7⟩:=hB;refine⟨bm,L,b1,b2,b3,Hy I ?_,b5,b6,b7⟩;cases q:H bm with
   |none=>rfl
   |some u=>
    rcases hA bm (by rw[q];simp) with j|j;·rw[j,B] at I;cases I;exact absurd (Value.type.inj b5) QD
    ·rw[j,C] at I;cases I;cases b5
  have hM:Mod K t (oH aZ.heap H):=⟨U1,J xk,⟨N,J f,R⟩,let⟨mc,h1,h2⟩:=Zh9;⟨mc,J h1,h2⟩⟩;have e0:oK P w K t (oH aZ.heap H) callerA [] aZ H:=⟨rfl,hM,λb o e=>ZdY e,zy (Zbw _ _),trivial,λb f=>absurd (show b∈([]:Z U) from f) QS,au,.of_eq hg⟩;refine i_ ((F _ U1 (J xk) X).run callerA [] aZ H ⟨[.ref a],[]⟩ [.ref a] [.ref a] _ _ hr e0 (Zhg aZ (.ref a)) (.cons rfl .nil) (iO H tT hS)) λr i h=>?_;cases r with
  |error e=>exact(Ly H e i h).elim
  |ok fl=>
   cases fl with
   |next=>exact False.elim h
   |brk=>exact False.elim h
   |cont=>exact False.elim h
   |ret u=>
    obtain⟨v,H',os,G,un,Ck,r',q⟩:=h;have q':v=.bl ar:=q;subst q';obtain rfl:u=Value.bool ar:=r';have kept:∀b o,b≠T->aZ.heap.get? b=O o->i.heap.get? b=O o:=λb o nT e=>by
     cases q:H b with
     |none=>exact un.keep b o e q (by intro z;exact absurd (show b∈([]:Z U) from z) QS) QS
     |some u=>
      rcases hO b with z|⟨L,xs,z⟩|z;·rw[q] at z;cases z
      ·have z2:=un.ie b L _ z;obtain⟨e1,_⟩:=au b _ z;obtain⟨e2,_⟩:=Ck b _ z2;rw[e] at e1;cases e1;exact e2
      ·exact absurd z nT
    obtain⟨more,tM⟩:=un.ig T #[] tT;have U2:i.heap.get? T=O (PySem.W.tabObj (#[]++more)):=Ck T _ tM;refine⟨rfl,⟨λb o e=>?_,λb o e=>?_⟩,os,G⟩
    ·by_cases z:b=T
     ·rw[z,C] at e;cases e;rw[z];exact .inr (.inl ⟨(hC.tab C).isCodeTable,rfl,#[],more,rfl,U2⟩)
     ·exact .inl (kept b o z e)
    ·by_cases z:b=T
     ·rw[z];exact⟨_,U2⟩
     ·exact⟨o,kept b o z e⟩
 cases Q:K.lookup a with
 |some o=>
  have e:=KX a o Q;rw[B] at e;cases e;refine y (λb=>if b=T then O (.dz #[]) else aI) (λb=>?_) (br rfl) (.inr ⟨_,A.toArray,_,Q,rfl,rfl,rfl,by rw[Yw,Zh_];exact hl,by simpa using rv⟩) (λb u z=>?_) (λb z=>?_) λz=>absurd (bb neT) z
  ·by_cases f:b=T;·exact .inr (.inr f)
   ·exact .inl (bb f)
  ·by_cases f:b=T
   ·have l:=(br f).symm.trans z;cases l;rw[f];exact C
   ·have l:=(bb f).symm.trans z;cases l
  ·by_cases f:b=T;·exact .inr f
   ·exact absurd (bb f) z
 |none=>
  refine y (λb=>if b=a then O (.bp {cls:=.type "list",data:=.seq A.toArray} (.lst (D.map V.int))) else if b=T then O (.dz #[]) else aI) (λb=>?_) ((bb (d6 neT)).trans (br rfl)) (.inl (.inr ⟨{cls:=.type "list",data:=.seq A.toArray},br rfl⟩)) (λb u z=>?_) (λb z=>?_) λ_=>Q
  ·by_cases f:b=a;·exact .inr (.inl ⟨_,_,br f⟩)
   ·by_cases p:b=T;·exact .inr (.inr p)
    ·exact .inl ((bb f).trans (bb p))
  ·by_cases f:b=a
   ·have l:=(br f).symm.trans z;cases l;subst f;exact⟨B,by rw[Ya];exact hl,A,_,rv,B⟩
   ·by_cases p:b=T
    ·have l:=((bb f).trans (br p)).symm.trans z;cases l;rw[p];exact C
    ·have l:=((bb f).trans (bb p)).symm.trans z;cases l
  ·by_cases f:b=a;·exact .inl f
   ·by_cases p:b=T;·exact .inr p
    ·exact absurd ((bb f).trans (bb p)) z
def Zdg{l:PySem.W.OpenLaw}{n k:Nat}{q:c6}{m:Z af}{XP:(af->bt aV)->cm->Prop}{P:cD->cm->Prop}{d dr:DefRec}{K:Params->ae}{Q:cD->kU}{I:cD->U->Sp}{x D:af}
  (hn:l.most=O n)(qo:n<=sizeLine)(qt:d.params.defaults=[])(hr:bK k callerA)(R:(recsOf q).find? (λe=>e.name==D)=O dr)
  (hY:∀(w:cD) (h:cm),P w h->(K w.params).In h)
  (F:∀(w:cD) (i:aN) (t:U) (h:cm),(K w.params).In h->h.Ns mainGlobals i->i d.name=O (.ref t)->
   ∃(A:FuncData) (c T:U),tabIn (K w.params) D=O (c,T)/\(K w.params).lookup T=aI/\(∀(s:a8) (u:aV),BindsTo s A ⟨[u],[]⟩ [(x,u)])/\
    ∀g:cm,(K w.params).In g->g.Ns mainGlobals i->oX i g->aH l.prog w (K w.params) i g (Q w) k t A [x] (I w T))
  (iO:∀(w:cD) (H:Hp) (a T:U) (r:Z Int),r.length<=n->H T=O (.dz #[])->aj (K w.params) H a (r.map V.int)->I w T [.ref a] H (λv _=>v=.bl ar) λ_ _ _=>False)
  (Ly:∀(w:cD) (H:Hp) (s:a8) (e:aV) (y:a8),Q w [] H s (λ_ _ _=>False) e y->False):
  PySem.W.WalkO q m XP P l.row.toRowW d [] (λf E=>PySem.call f E):=by
 refine Us.Z2 hn qt λw b_ N i mb t o pm cd doc a E r G b ho hd e_ W J_ p j hg=>?_;have B:=hY w _ b;obtain⟨A,c,T,X,kT,hb,hF⟩:=F w i t _ B G.T.g W;obtain⟨hC,hT⟩:=tab_of G.T B R X;have hB:oX i N.heap:=by
  obtain⟨bm,ob,h1,h2,L,h4,h5,J⟩:=G.T.bmain;refine⟨bm,ob,h1,h2,λz=>?_,L,h4,h5,J⟩;obtain⟨o',es,ep,e,C,_⟩:=G.T.g;rw[←z,L] at e;cases e;rw[J] at C;cases C
 exact Zb4 B G.T.g G.T.b G.T.builtins G.T.nolimit hg J_ p (Yz j qo) hr hT hC kT hB hF hb (λ H=>iO w H a T r j) λH e y=>Ly w H N e y
end L2
namespace L2
open PySem PySem.W PySem.Spec PyProof.Rows
def Zb5(I:Inv X pins σ H s)(e:H a=O (.dK b))(l:b.length<sizeLine)(i:RelV (kV k) u)(j:RelV v r)(h:∀d,Inv X pins σ (upd H a (.dK (putK b k v))) d->Q () d):
  wpAny X.md A (dictSet a u r) Q E s:=by
 obtain⟨z,hd,g,c,w⟩:=lS I.au e;have x:g.length<=sizeLine:=by rw[←c.length];exact z
 have o:(putK b k v).length<=sizeLine:=by have:=AG b k v;exact ir this (tq l)
 refine wpAny_dictSet_pairs (m6 i) w λt f m=>h _ ?_;have p:∃q,t.get? a=O q:=let⟨q,_,_,n,_⟩:=f;⟨q,n⟩;exact sL I (by exact e▸fy) m p (yJ o hd (c.put k j) f)
theorem XJ(I:Nat->a8->Prop)
  (d:∀n s,I n s->wpAny (model prog w) A (pyNext it) (λr i=>match r with
   |none=>R (.ok .next) i
   |some v=>wpAny (model prog w) A (letOwnedTupleGo target it v) (λ_ x=>wpAny (model prog w) A (assign target env v) (λ_ u=>
     wpAny (model prog w) A (forIn ifs ar λc r=>if r=ar then do let ok←isTrue c env (eval c env);pure (ForInStep.yield ok) else pure (ForInStep.yield r)) (λok g=>
      if ok=ar then wpAny (model prog w) A (eval F env) (λo q=>wpAny (model prog w) A (eval z env) (λk p=>
       wpAny (model prog w) A (dictSet D o k) (λ_ y=>∃m,m<n/\I m y) (notedBy (model prog w) A env λe a=>R (.error e) a) p) (notedBy (model prog w) A env λe a=>R (.error e) a) q) (notedBy (model prog w) A env λe a=>R (.error e) a) g
      else ∃m,m<n/\I m g) (notedBy (model prog w) A env λe a=>R (.error e) a) u) (notedBy (model prog w) A env λe a=>R (.error e) a) x) (notedBy (model prog w) A env λe a=>R (.error e) a) i) (notedBy (model prog w) A env λe a=>R (.error e) a) s)
  (n:Nat)(h:I n s):codeAny (model prog w) A (.compLoop (.DictComp F z [⟨target,iter,ifs,0⟩] scope pos) 0 it (.ref D) env) R s:=by
 refine rX rfl I (λn s G=>?_) n h;refine rZ ?_;rw[compTurn_dict];refine a7 (gU (a7 (cW (d n s G) (λr i t=>?_) λ_ _ b=>b)));cases r with
 |none=>exact cb t
 |some v=>
  refine a7 (cW t (λ_ x f=>a7 (cW f (λ_ u E=>a7 (cW E (λok g l=>?_) λ_ _ b=>b)) λ_ _ b=>b)) λ_ _ b=>b);cases ok with
  |false=>exact cb ⟨rfl,l⟩
  |true=>
   exact a7 (a7 (cW l (λo q C=>a7 (fx (cW C (λk p B=>a7 (gU (fx (cW B (λ_ y j=>cb ⟨rfl,j⟩) λ_ _ b=>b)))) λ_ _ b=>b))) λ_ _ b=>b))
def Zb6{h:Hp}{s2:a8}{P:U}{g:Z U}{G:Nat->cm->Prop}{J:It}{Q:VK}{H:aV->U->Result->a8->Prop}{E:aR}{i:Z Comprehension}(a:mQ X d cl xs fr)
  (W:Inv X pins σ h s2)(T:Turn X.prog X.w X.K t J g P G)(dQ:G 0 s2.heap)(n:∀b∈g,gm X pins h b)
  (hR:∀D C N H1 m,Inv X pins σ H1 N->N.heap.Ns C m->H1 C=aI->C≠X.env.locals->X.b_.heap.objs.size<=C->(∀y c,X.env.cells.lookup y=O c->c≠C)->(∀p∈X.pn++pins,p.1≠C)->Q (.ref D) H1->H (.ref D) C (.ok .next) N)
  (hl:∀(D C:U) (s:a8) (F:Hp) (x:a8),h D=aI->F=upd h D (.dK ([]:Z (Key×V)))->Inv (bB X xs fr d cl C s F g) [] (List.replicate xs.length aI++eW σ fr) F x->G 0 x.heap->(∀b∈g,F b=aI)->
   (∀s6 ug B,Inv (bB X xs fr d cl C s F g) [] ug B s6->Q (.ref D) B->H (.ref D) C (.ok .next) s6)->
   codeAny X.md X.A (.compLoop (.DictComp kx vx (⟨t,iter,ifs,0⟩::i) d pos) 0 (.ref P) (.ref D) (compEnvC d cl C X.env)) (H (.ref D) C) x):
  wpAny X.md X.A (newDict) (λA x=>wpAny X.md X.A (newFunctionEnv d X.env.globals cl [] X.env.qual aI .none (O X.env)) (λiI fJ=>
   codeAny X.md X.A (.compStart (.DictComp kx vx (⟨t,iter,ifs,0⟩::i) d pos) 0 (.ref P) A {iI with scope:=relabel d X.env}) (H A iI.locals) fJ) E x) E s2:=by
 refine l5 (B2 a.yR (by intro y hy;simp at hy) (λeK L I=>?_) a.kind);dsimp only at L I⊢;have R:(s2.heap.objs.size==sysModules)=aY:=beq_eq_false_iff_ne.mpr (W1 W.big);have k:Inv X pins σ (upd h s2.heap.objs.size (.dK ([]:Z (Key×V)))) {s2 with heap:=s2.heap.push {cls:=.type "dict",dict:=aI,data:=.dict #[]}}:=
  W.laid (t':=s2.toks) (λb u e=>Yc _ e) (Yg _) ⟨Yx _,R,[],.nil,NS s2.heap⟩
 have KU:h s2.heap.objs.size=aI:=W.au.fresh (Yg _);have y9:∀b∈g,b<s2.heap.objs.size:=λb f=>by
  obtain⟨o,e,_⟩:=T.obj _ _ dQ b f;exact Yp e
 generalize zC:s2.heap.push {cls:=.type "dict",dict:=aI,data:=.dict #[]}=l at L I k⊢;have hC:l.objs.size=s2.heap.objs.size+1:=by rw[←zC,Je]
 have w:∀b o,l.get? b=O o->eK.get? b=O o:=λb o e=>I.extBut b o (Y2 (Yp e)) (Yc _ e);have f3:∀b∈g,gm X pins (upd h s2.heap.objs.size (.dK ([]:Z (Key×V)))) b:=λb f=>by
  have:=y9 b f;exact⟨by rw[az (Y2 this)];exact(n b f).1,(n b f).2⟩
 have KW:∀b∈g,b<l.objs.size:=λb f=>by
  rw[hC];exact Wo (y9 b f)
 have nC:G 0 eK:=T.keep _ _ _ dQ λb f o e=>w b o ((λb o e=>zC▸Yc _ e) b o e);have I4:Inv (bB X xs fr d cl l.objs.size {s2 with heap:=l} (upd h s2.heap.objs.size (.dK ([]:Z (Key×V)))) g) [] (List.replicate xs.length aI++eW σ fr) (upd h s2.heap.objs.size (.dK ([]:Z (Key×V)))) {s2 with heap:=eK,toks:=s2.toks+([]:Z (af×aV)).length}:=
  NV (tk:=s2.toks+([]:Z (af×aV)).length) a k rfl f3 KW w L
 have j:=hl s2.heap.objs.size l.objs.size {s2 with heap:=l} _ {s2 with heap:=eK,toks:=s2.toks+([]:Z (af×aV)).length} KU rfl I4 nC (λb f=>(f3 b f).1) λs6 ug B r qn=>by
   obtain⟨m,KY,_⟩:=r.loc;have I7:Inv X pins σ B s6:=k.BO (ch:=g) r.os r.base r.au r.bare λb f=>⟨(n b f).2.2.2.1,(n b f).2.1,(n b f).2.2.2.2.1,(n b f).2.2.2.2.2⟩;refine hR _ _ s6 B m I7 KY r.free ?_ ?_ (λy c e z=>?_) (λp hp z=>?_) qn;·exact W1 k.lt
   ·exact k.sz
   ·obtain⟨v,q⟩:=k.cell y c e;exact absurd q.lt (by rw[z];exact Wd _)
   ·exact absurd (Yp (k.pin p hp).1) (by rw[z];exact Wd _)
 exact codeAny_compStart_dict j (T.self _ 0 _ _ _ nC j)
def Bm(n:Nat)(J:It)(r:TG)(p:TT)(q o:TE)(g:St)(D:U)(H:Hp)(Q:VK):Prop:=
 ∃W:Nat->Nat->Z (Key×V)->Hp->Prop,(∃m,W 0 m [] (upd H D (.dK ([]:Z (Key×V)))))/\∀i m a H,W i m a H->
  (J.stop i H/\Q (.ref D) H)\/(J.go i H/\∃N:Z (Key×V)->Hp->Prop,(∀h b,N h b->∃e,e<m/\W (i+1) e h b)/\
   ∀v b,J.qm i H v b->∀os:St,os.length=n->r v (os++g) b λd s=>(∃f:St,f.length=n/\d=f++g)/\p d s λc j=>if c=ar then q d j λy t=>o d t λz l=>∃k,y=kV k/\l D=O (.dK a)/\a.length<sizeLine/\N (putK a k z) (upd l D (.dK (putK a k z))) else N a j)
section
variable {X:Cx}{w z L tgt:bZ}{xs:Z af}{pos:Pos}{G:Z bZ}{R:Scope}{cl:Z (af×U)}{fr:Z (af×Nat)}{B:TG}{A:TT}{tk F:TE}{P:St}
def Zab{H2:Hp}{s2:a8}{it:U}{f:Z U}{tn:Nat->cm->Prop}{J:It}{Q:VK}{RR:aV->U->Result->a8->Prop}{E:aR}
  (hc:X.calm=ar)(a:mQ X R cl xs fr)(hg:∀C s H f,PG (bB X xs fr R cl C s H f) tgt B)
  (hp:∀C s H f,qu (bB X xs fr R cl C s H f) G A)(hk:∀C s H f,PE (bB X xs fr R cl C s H f) w tk)(he:∀C s H f,PE (bB X xs fr R cl C s H f) z F)
  (I2:Inv X pins P H2 s2)(T:Turn X.prog X.w X.K tgt J f it tn)(dQ:tn 0 s2.heap)(f2:∀b∈f,gm X pins H2 b)
  (hw:∀D,H2 D=aI->Bm xs.length J B A tk F (eW P fr) D H2 Q)
  (hR:∀D C s1 H1 m,Inv X pins P H1 s1->s1.heap.Ns C m->H1 C=aI->C≠X.env.locals->X.b_.heap.objs.size<=C->(∀y c,X.env.cells.lookup y=O c->c≠C)->(∀p∈X.pn++pins,p.1≠C)->Q (.ref D) H1->RR (.ref D) C (.ok .next) s1):
  wpAny X.md X.A (newDict) (λacc cI=>wpAny X.md X.A (newFunctionEnv R X.env.globals cl [] X.env.qual aI .none (O X.env)) (λiI fJ=>
   codeAny X.md X.A (.compStart (.DictComp w z [⟨tgt,L,G,0⟩] R pos) 0 (.ref it) acc {iI with scope:=relabel R X.env}) (RR acc iI.locals) fJ) E cI) E s2:=by
 refine Zb6 a I2 T dQ f2 hR λD C s l cI hD e3 I4 nC rK fin=>?_;obtain⟨W,⟨m0,w0⟩,I⟩:=hw D hD;rw[←e3] at w0;refine XJ (λk s'=>∃i x H' os,os.length=xs.length/\Inv (bB X xs fr R cl C s l f) [] (os++eW P fr) H' s'/\tn i s'.heap/\(∀b∈f,H' b=aI)/\W i k x H') ?_ m0
  ⟨0,[],_,List.replicate xs.length aI,Wr,I4,nC,rK,w0⟩
 rintro n s5 ⟨i,x,H5,os,iS,I5,mf,oU,w5⟩;have jI:∀{H':Hp},(∀b∈f,H' b=aI)->∀b∈f,gm (bB X xs fr R cl C s l f) [] H' b:=λ{H'} hn b h=>
  ⟨hn b h,(I5.ok.oO b h).1,I5.ok.qe b h,.inl h,(I5.ok.oO b h).2,λp hp=>absurd (show p∈([]:aJ) from hp) QS⟩
 rcases I i n x H5 w5 with⟨stop,qn⟩|⟨go,N,hN,step⟩
 ·refine aw (T.done (bB X xs fr R cl C s l f) rfl rfl rfl hc i [] s5 _ H5 _ I5 (jI oU) mf stop) λr s6 g=>?_;obtain⟨hr,I6⟩:=g;subst hr;exact fin _ _ _ I6 qn
 ·refine aw (T.item (bB X xs fr R cl C s l f) rfl rfl rfl hc i [] s5 _ H5 _ I5 (jI oU) mf go) λr s6 g=>?_;obtain⟨u,hr,h6⟩:=g;subst hr;refine aw h6 λ_ s7 g=>?_;obtain⟨v,H7,I7,r7,y7,nE,zD⟩:=g;have zE:=I7.pinned (jI zD) (T.obj _ _ nE);refine cW (hg _ _ _ _ _ s7 _ H7 v u _ zE r7 (step v H7 y7 os iS)) (λ_ s8 g=>?_) λ _ _=>False.elim;obtain⟨Uu,H8,I8,⟨iR,wu,e8⟩,q8⟩:=g;subst e8;have again:∀{ko:St} {j:Hp} {q:a8} {kq:Z (Key×V)},ko.length=xs.length->Inv (bB X xs fr R cl C s l f) ([]++pX f s7.heap) (ko++eW P fr) j q->N kq j->
    ∃m,m<n/\∃i x H' os,os.length=xs.length/\Inv (bB X xs fr R cl C s l f) [] (os++eW P fr) H' q/\tn i q.heap/\(∀b∈f,H' b=aI)/\W i m x H':=λ{ko j q kq} l1 t n9=>by
   obtain⟨m',hm,w9⟩:=hN kq j n9;refine⟨m',hm,i+1,kq,j,ko,l1,t.sH,T.keep _ _ _ nE λb h o e=>(t.pin (b,o) (Ye _ (Ye _ (n_ h e)))).1,λb h=>?_,w9⟩;obtain⟨o,e,d⟩:=T.obj _ _ nE b h;exact(t.pin (b,o) (Ye _ (Ye _ (n_ h e)))).2.1
  refine cW (hp _ _ _ _ _ s8 _ H8 _ I8 q8) (λok q g=>?_) λ _ _=>False.elim;obtain⟨j,t,q9⟩:=g;try dsimp at q9
  by_cases au:ok=ar
  ·rw[br au] at q9⊢;refine cW (hk _ _ _ _ _ q _ j _ t q9) (λu0 sA g=>?_) λ _ _=>False.elim;obtain⟨y0,HA,IA,rA,qA⟩:=g;refine cW (he _ _ _ _ _ sA _ HA _ IA qA) (λu1 CW g=>?_) λ _ _=>False.elim;obtain⟨y,qv,zF,KZ,k,ey,hD,hz,nG⟩:=g;subst ey;exact Zb5 (X:=bB X xs fr R cl C s l f) zF hD hz rA KZ λCY wX=>again wu wX nG
  ·rw[bb au] at q9⊢;exact again wu t q9
def ZeF(n:Nat)(b:TI)(fr:Z (af×Nat))(B:TG)(A:TT)(tk F:TE):TE:=λP H Q=>b P H λJ a=>∀D,a D=aI->Bm n J B A tk F (eW P fr) D a Q
def Og{c:TI}(r:X.calm=ar)(a:mQ X R cl xs fr)(o:∀C s H fp,PG (bB X xs fr R cl C s H fp) tgt B)(n:PI X tgt L c)(j:∀C s H fp,qu (bB X xs fr R cl C s H fp) G A)
  (l:∀C s H fp,PE (bB X xs fr R cl C s H fp) w tk)(p:∀C s H fp,PE (bB X xs fr R cl C s H fp) z F)
  (i:∀x,foldedSetIterable L X.env x=pure x:=by intro _;rfl):PE X (.DictComp w z [⟨tgt,L,G,0⟩] R pos) (ZeF xs.length c fr B A tk F):=by
 intro b s P H Q I h;rw[arm_eval_DictComp];refine nA rfl i a.tV a.kind a.names (aw (n b s P H _ I h) λv d u=>aw u λrH s2 t=>?_);obtain⟨it,fp,tn,J,H2,e,I2,T,dQ,W,g⟩:=t;subst e;refine Zab r a o j l p I2 T dQ W g ?_;intro D C d H1 m I1 k f0 f1 N E y q;exact⟨m,k,λh' f=>⟨.ref D,H1,I1.turned (f.extBut) f0 f1 (.inr N) E y,rfl,q⟩⟩
def Zhh(e:Hp)(t:TE):TE:=λP H Q=>t P H λv b=>∃d c a,jF e d/\b d=O (.bp c (.dK a))/\Q v (upd b d (.dK a))
def Qg(c:X.jY=H0)(h:PE X e t):PE X e (Zhh H0 t):=λa s P H Q I f=>aw (h a s P H _ I f) λu i n=>by obtain⟨v,l,g,r,d,j,b,k,e,q⟩:=n;exact⟨v,_,g.zb (by rwa[c]) e,r,q⟩
end
end L2
namespace L2
open PySem PySem.W PySem.Calls PySem.Spec PyProof.Rows
def zR(r d:U):HO:=.ext λh=>h.get? r=O {cls:=.type "dict_values",data:=.fields #[.ref d]}
def YA(a v:aV):argsOk "min" ⟨[a],[(Str.ofString "default",v)]⟩:=by unfold argsOk;kernel_rfl
section
variable {X:Cx}
def Zgp(e:TE):TE:=λc H Q=>e c H λx b=>∃d a,x=.ref d/\b d=O (.dK a)/\∀r,b r=aI->Q (.ref r) (upd b r (zR r d))
def Zdh{a n:Pos}{o:bZ}{j:TE}(F:PE X o j)(C:attributeBase o "values" X.env (eval o X.env)=eval o X.env:=by rfl)(D:(a.endLine==n.line)=ar:=by rfl):PE X (.Call (.Attribute o "values" a) [] [] n) (Zgp j):=by
 intro f s r H Q I h;refine qx C D (aw (F f s r H _ I h) λv c t=>?_);obtain⟨x,P,g,B,d,i,G,hd,q⟩:=t;subst G;obtain rfl:v=Value.ref d:=B;obtain⟨z,y,E⟩:=vY g (.inl ⟨i,.inl hd⟩);refine⟨"dict","dict.values",mI,rn,zw,z,y,kA rfl (qB ?_)⟩;obtain⟨J,_,w,A,m⟩:=lS g.au hd;refine kX rn m.typeIs zr (zl _) (J6 (dH X.prog X.w) d E) ⟨⟨w,m⟩,?_⟩;have l:(c.heap.push {cls:=.type "dict_values",data:=.fields #[.ref d]}).get? c.heap.objs.size=O {cls:=.type "dict_values",data:=.fields #[.ref d]}:=Yn _ rfl;refine⟨.ref c.heap.objs.size,_,g.laid (o:=zR c.heap.objs.size d) (t':=c.toks) (λb u e=>Yc _ e) (Yg _) ⟨l,⟨_,l⟩,λN L p k=>k _ p⟩,rfl,q _ (g.au.fresh (Yg _))⟩
def Zhi:Z V->Hp->VK->Prop:=λe H Q=>∃(r d:U) (b:Z (Key×V)) (c:Z Int),e=[.ref r]/\H r=O (zR r d)/\H d=O (.dK b)/\b.map (·.2)=c.map V.int/\c≠[]/\∀m,m∈c->(∀a∈c,m<=a)->Q (.int m) H
def Ze(T:X.calm=ar):cU X (.builtin "min") Zhi:=by
 rintro z s σ H xs us Q I r ⟨rv,d,c,f,rfl,P,hd,B,n,q⟩;obtain⟨u,rfl,F⟩:=vals1 r;obtain rfl:u=Value.ref rv:=F;obtain⟨J,Cn,h,A,dd⟩:=lS I.au hd;obtain⟨ep,E⟩:=dd.dictAt;have kl:=A.length;have m:c.length=f.length:=by have:=de List.length B;rwa [Ya,Ya] at this
 have N:=(I.au _ _ P).1;have at_:∀(i:Nat) (v:aV),(∃k,h[i]?=O (k,v))->∃t,v=.int (f.getD i 0) t:=λi v ⟨k,l⟩=>by
  have hi:i<h.length:=(Yf.mp l).1;have g:i<c.length:=QO
  obtain⟨v',D,x⟩:=BF (y:=c[i].2) A (Yb g);rw[l] at D;cases D;have C:(c.map (·.2))[i]?=O c[i].2:=by rw[Yi,Yb g];rfl
  rw[B,Yi,Yb (eU g (gR m))] at C;have e3:V.int (f[i]' (eU g (gR m)))=c[i].2:=Yr C;rw[←e3] at x;obtain⟨t,rfl⟩:=x;exact⟨t,by rw[Yd,Yb (eU g (gR m))];rfl⟩
 have G:0<h.length:=by have:=List.length_pos_iff.mpr n;omega
 refine call_min_walk ?_;obtain⟨oI,St,p,W,st⟩:=(kdl_values).iter X.A.in1 s (I.ok.hd T) ⟨⟨_,N,rfl,rfl⟩,E⟩;refine p _ _ ⟨s.heap.objs.size,_,_,_,_,_,λi j=>decide (f.getD i 0<f.getD j 0),rfl,W,st,λb w=>?_,G,CmpOf.ints_lt (λi=>f.getD i 0) at_,λv h' tk hP l=>?_⟩
 ·rw[size_push'];rcases Ys.mp w with e|w;·exact e▸Ja _
  ·rw[Yl.mp w];exact Wo E.lt_size
 ·obtain⟨t,rfl⟩:=at_ _ v hP;obtain⟨h1,h2⟩:=Lw (λi=>f.getD i 0) (h.length-1);have L:=λb o e=>l b o (λhI=>absurd (Yp e) (by rw[Yl.mp hI];exact Wd _)) (Yc _ e);refine⟨.int _,H,I.kept L,⟨t,rfl⟩,q _ ?_ λa ha=>?_⟩
  ·rw[Yd,Yb QO];exact Wg _
  ·obtain⟨j,R,rfl⟩:=Ji ha;have:=h2 j QO
   rwa [show f.getD j 0=f[j] by rw[Yd,Yb R];rfl] at this
end
section
variable {X:c6}{w:cD}{A:dO}{R:Result->a8->Prop}{I:U}{fp T:Z U}{n:Nat}{P:Nat->aV->Prop}{St:Nat->cm->Prop}
def A9:(toString "min"++toString ".loop":String)="min.loop":=QD
theorem Zb7(W:Walks X w A.in1 I fp T n P St)(l:Nat->Nat->bA)(Kh:CmpOf X w A.in1 .Lt P l)(a:U)(F:a∉fp):
  ∀(k j:Nat) (s:a8) (d:aV) (c:Nat),n-(j+1)=k->j+1<=n->St (j+1) s.heap->P (argBest l j) d->s.heap.get? a=O {cls:=.type "list",dict:=aI,data:=.seq #[d,d] c,slots:=#[]}->
  (∀v t q,P (argBest l (n-1)) v->(∀b o,b∉T->b≠a->s.heap.get? b=O o->t.get? b=O o)->R (.ok (.ret v)) {s with heap:=t,toks:=q})->
  codeAny (model X w) A (.builtin "min.loop" ⟨[.ref I,.none,.ref a],kw⟩) R s:=by
 have N:=λh=>F (W.sub _ h);intro k;induction k with
 |zero=>
  intro j s d c hk hj C E p r;have G:j+1=n:=QO
  refine oA uQ ?_;rw[ui me _];refine a7 (uP p rfl ?_);refine a7 (oQ (W.done s _ _ (G▸C) λt q i=>?_));have m:=i a _ N p;refine a7 (uN m rfl (a7 (mh (cb ?_))));exact r d _ q (by rwa[←G]) λb o f g e=>(Y6 _ _ (d6 g)).trans (i b o f e)
 |succ k H=>
  intro j s d c hk hj C E p r;have D:j+1<n:=QO
  refine oA uQ ?_;rw[ui me _];refine a7 (uP p rfl ?_);refine a7 (oQ (W.item (j+1) s _ _ D C λv t q L Q i=>?_));have m:=i a _ N p;show wpAny _ A.in1 (tryCatch (holding [v,v] (richCompare .Lt v d>>=_)) _>>=_) _ _ _;refine a7 (oQ (fx (a7 (Kh (j+1) (argBest l j) v d _ _ _ L E ?_))));refine a7 (fx (kj (a7 (mh (cb ?_)))));cases J:l (j+1) (argBest l j) with
  |true=>
   simp[if_true];refine a7 (uN m rfl (a7 (mh ?_)));rw[A9];refine cb ⟨px me _,H (j+1) _ v _ QO D (W.frame _ _ _ Q λb Lz o e=>(Y6 _ _ (λh:a=b=>F (by rwa[h]))).trans e) (by simp[argBest,J,if_true];exact L) (Wq _ m rfl) λx B u z y=>?_⟩;exact r x B u z λb o f g e=>y b o f g ((Y6 _ _ (d6 g)).trans (i b o f e))
  |false=>
   simp[W9,mM];refine a7 (mh ?_);rw[A9];refine cb ⟨px me _,H (j+1) _ d c QO D Q (by simp[argBest,J,W9,mM];exact E) m λx B u z y=>?_⟩;exact r x B u z λb o f g e=>y b o f g (i b o f e)
def Za4{d:aV}(W:Walks X w A.in1 I fp T n P St)(p:Nat->Nat->bA)(H:CmpOf X w A.in1 .Lt P p)(a:U)(l:a∉fp){s:a8}{c:Nat}(G:St 0 s.heap)
  (t:s.heap.get? a=O {cls:=.type "list",dict:=aI,data:=.seq #[] c,slots:=#[]})
  (F:n=0->∀f g,(∀b o,b∉T->b≠a->s.heap.get? b=O o->f.get? b=O o)->R (.ok (.ret d)) {s with heap:=f,toks:=g})
  (C:0<n->∀v f g,P (argBest p (n-1)) v->(∀b o,b∉T->b≠a->s.heap.get? b=O o->f.get? b=O o)->R (.ok (.ret v)) {s with heap:=f,toks:=g}):
  codeAny (model X w) A (.builtin "min.loop" ⟨[.ref I,.none,.ref a],[("default",d)]⟩) R s:=by
 have J:a∉T:=λh=>l (W.sub _ h);refine oA uQ ?_;rw[ui me _];refine a7 (uP t rfl ?_);by_cases j:0<n
 ·refine a7 (oQ (W.item 0 s _ _ j G λv f g D L k=>?_));have r:=k a _ J t;refine a7 (m:=updateSeq a λ_=>#[v,v]) (uN r rfl ?_);rw[A9];refine cb ⟨px me _,Zb7 W p H a l _ 0 _ v _ rfl j (W.frame _ _ _ L λb N o e=>(Y6 _ _ (λh:a=b=>l (by rwa[h]))).trans e) D (Wq _ r rfl) λy E x B z=>?_⟩;exact C j y E x B λb o i q e=>z b o i q ((Y6 _ _ (d6 q)).trans (k b o i e))
 ·have u:n=0:=(eL (dg j) (tc _))
  refine a7 (oQ (W.done s _ _ (by rwa[u]) λf g k=>?_));exact a7 (r6 (cb (F u f g λ b o i _=>k b o i)))
end
section
variable {X:Cx}
def B5(K:ae)(e:TE)(d:St)(Q:VK)(x:V)(f:Hp):Prop:=e d f λy c=>∃(p:U) (b:Z Int) (z:Int),x=.ref p/\y=.int z/\aj K c p (b.map V.int)/\(b=[]->Q (.int z) c)/\∀m,m∈b->(∀a∈b,m<=a)->Q (.int m) c
def Zhj(K:ae)(b c:TE):TE:=λa H Q=>b a H (B5 K c a Q)
theorem ZeG{p c wm:Pos}{e k:bZ}{R B:TE}(hc:X.calm=ar)(hg:Gl X "min")(J:X.mg "min"=aI)(hv:bootBuiltins "min"=O (.builtin "min"))(x:PA X [e] (jB R jZ))(hd:PE X k B)
  (h1:backTo c (starEach [e] X.env)=(aY,eval e X.env)::backTo c (starEach [] X.env):=by rfl)(h2:(backTo c (starEach [e] X.env)).any (·.1)=aY:=by rfl):PE X (.Call (.Name "min" p) [e] [⟨O "default",k,wm⟩] c) (Zhj X.K R B):=by
 intro d s u H Q I h;refine kC (pW I hg J hv ?_);refine callWith_kw (aw (x c d s u H (Kg (B5 X.K B u Q)) I h) λus s1 D=>?_) h1 h2;obtain⟨P,H1,I1,r,q⟩:=D;obtain⟨i,rfl,q⟩:∃i,P=[i]/\B5 X.K B u Q i H1:=by
  match P,q with
  |[i],q=>exact⟨i,rfl,q⟩
  |[],q=>exact q.elim
  |_::_::_,q=>exact q.elim
 obtain⟨u0,rfl,r0⟩:=vals1 r;refine uo (a7 (aw (hd d s1 u H1 _ I1 q) λud m D=>?_));obtain⟨y,H2,C,ry,l,G,z,ex,ey,hq,hz,LA⟩:=D;subst ex ey;obtain rfl:u0=Value.ref l:=r0;obtain⟨w,rfl⟩:=ry;refine a7 (gU (cb (ra ?_)));obtain⟨ah,r',pl,hsz⟩:=C.list hq;have hi:=intsAre_of r';obtain⟨f,ei⟩:=hi.allInts.items;have E:G=f.toList.map (·.1):=by
  rw[←hi.numsOf,←PySem.nums_intItems,←ei]
 have W:=pl.isList;rw[ei] at W;have Ki:G.length=f.size:=by rw[E,Ya,Y7]
 refine kmk_tree PySem.F.kind_min PySem.F.plain_min PySem.F.entry_min (YA _ _) ?_;show wpAny _ X.A.in1 (Builtin.Builtins.bindParams "min" ["key","default"] 0 ⟨[],[(Str.ofString "default",.int z w)]⟩>>=_) _ _ m;refine a7 (wpAny_of_eq (show Builtin.Builtins.bindParams "min" ["key","default"] 0 ⟨[],[(Str.ofString "default",.int z w)]⟩=pure [aI,O (.int z w)] from rfl) ?_);refine a7 (cb ?_);refine a7 (iter_intList W λd5 e st N L=>?_);subst e;refine a7 (l5 ?_);rw[A9];have T:∀{hh:cm} {g:cm},(∀b o,b∉[m.heap.objs.size]->b≠(m.heap.push {cls:=.type "list_iterator",data:=.fields #[.ref l,.int 0 0]}).objs.size->(((m.heap.push {cls:=.type "list_iterator",data:=.fields #[.ref l,.int 0 0]}).push {cls:=.type "list",data:=.seq #[]}).get? b=O o->g.get? b=O o))->∀b o,m.heap.get? b=O o->g.get? b=O o:=λ{hh g} n b o e=>by
  have lt:=Yp e;exact n b o (λhI=>absurd lt (by rw[Yl.mp hI];exact Wd _)) (by rw[Je];exact Y2 (Wo lt)) (Yc _ (Yc _ e))
 refine cb ⟨px me _,Za4 (wd (A:=X.A.in1) (C.ok.hd hc) _ l L (intItems f)) _ (CmpOf.ints_lt (numAt f) (λ_ _=>intItems_at)) _ (λJ=>absurd (N _ J) (Wd _)) ?_ (Yn _ rfl) (λe0 g F n=>?_) λhn v g F hP n=>?_⟩;·exact⟨st.1.at λo e=>Yc _ e,st.2.at λo e=>Yc _ e⟩
 ·have en:G=[]:=List.length_eq_zero_iff.mp (by rw[Ki];simpa[intItems] using e0);exact⟨.int z,H2,C.kept (t':=F) (T (hh:=g) n),⟨w,rfl⟩,hz en⟩
 ·have Ub:0<f.size:=by simpa[intItems] using hn
  obtain⟨t,rfl⟩:=PySem.intItems_at (by simpa[intItems] using hP);obtain⟨b1,b2⟩:=Lw (PySem.numAt f) (f.size-1);refine⟨.int _,H2,C.kept (t':=F) (T (hh:=g) n),⟨t,rfl⟩,LA _ ?_ λa x=>?_⟩
  ·rw[E,Sw];exact PySem.getD_mem (by rw[Ya,Y7];exact U7 b1 (Nat.sub_lt Ub (by decide)))
  ·rw[E] at x;obtain⟨j,hj,rfl⟩:=PySem.mem_getD x;rw[Ya,Y7] at hj;rw[←Sw];exact b2 j (wO (gb hj))
end
end L2
namespace Dk
open PySem L2
variable {w:cD}{K:PySem.W.Frag}{mg:af->bt aV}{B:cm}{f C CL CJ:U}{fd:FuncData}
def top(i:Nat):bS:=PySem.Challenge.pw_kinhearth_k42_forebears_and_the_nearest.main.body.getD i (.Pass ⟨0,0,0,0⟩)
abbrev GA:bS:=top 18
abbrev Hz:bS:=top 19
abbrev GZ:bS:=top 20
abbrev IB:bS:=top 22
abbrev Fi:bS:=top 24
abbrev Fj:bS:=top 75
abbrev ED:bS:=top 76
abbrev GB:bS:=top 77
abbrev Gb:bS:=top 21
abbrev E6:bS:=top 23
abbrev Gd:bS:=top 2
abbrev G0:bS:=top 33
abbrev Ge:bS:=top 34
abbrev Gf:bS:=top 37
abbrev FE:bS:=top 38
abbrev FG:bS:=top 39
abbrev GC:bS:=top 50
abbrev ES:bS:=top 51
abbrev FH:bS:=top 52
abbrev FI:bS:=top 53
abbrev ET:bS:=top 54
abbrev EU:bS:=top 55
abbrev YR:bS:=top 56
abbrev YB:bS:=top 57
abbrev FJ:bS:=top 70
abbrev Gg:bS:=top 43
abbrev u_:bS:=top 41
abbrev GD:bS:=top 42
abbrev Ny:bS:=top 79
abbrev M5:bS:=top 80
abbrev AM:bS:=top 81
abbrev Gh:bS:=top 82
abbrev G1:bS:=top 83
abbrev FK:bS:=top 84
abbrev FN:bS:=top 85
abbrev FO:bS:=top 86
abbrev Fl:bS:=top 87
abbrev tL:bS:=top 88
abbrev FP:bS:=inClass (top 74) 0
abbrev FQ:bS:=inClass (top 74) 1
abbrev Fm:bS:=inClass (top 59) 0
abbrev FR:bS:=inClass (top 59) 1
abbrev FT:bS:=inClass (top 59) 2
abbrev FU:bS:=inClass (top 59) 3
abbrev EE:bS:=inClass (top 59) 4
abbrev Fn:bS:=inClass (top 59) 5
abbrev Ex:bS:=inClass (top 59) 6
abbrev E7:bS:=inClass (top 59) 8
abbrev EV:bS:=inClass (top 59) 12
abbrev Eg:bS:=inClass (top 59) 13
abbrev Fo:bS:=inClass (top 59) 14
abbrev E8:bS:=inClass (top 69) 0
abbrev EF:bS:=inClass (top 69) 1
abbrev Fp:bS:=inClass (top 69) 2
abbrev ZA:bS:=inClass (top 69) 3
abbrev E9:bS:=inClass (top 69) 4
abbrev EG:bS:=inClass (top 69) 10
abbrev Ey:bS:=inClass (top 69) 11
abbrev Zf:bS:=inClass (top 69) 12
abbrev Fq:bS:=inClass (top 69) 13
abbrev Ek:bS:=inClass (top 69) 17
abbrev Ei:bS:=inClass (top 69) 18
abbrev EW:bS:=inClass (top 69) 19
abbrev Ez:bS:=inClass (top 69) 20
abbrev EX:bS:=inClass (top 69) 21
abbrev EH:bS:=inClass (top 69) 22
abbrev El:bS:=inClass (top 69) 23
abbrev Ep:bS:=inClass (top 69) 24
abbrev Az:bS:=inClass (top 69) 16
abbrev EI:bS:=inClass (top 4) 0
abbrev EJ:bS:=inClass (top 11) 0
abbrev SM:bS:=Ny
abbrev RE:bS:=M5
abbrev xm:Z af:=["self","word","why"]
def X2:aS xm xm (aL EI):=.bg
def Zac(F:za K "__init__" "KinError.__init__" EI f fd)(o:Bl mg):aH P w K mg B aO 1 f fd xm (Sx K):=by
 refine F.ok X2 (λk H Q E h=>?_) (λr A d s H k Q E i h=>?_)
 ·obtain⟨a,C,b,y,rfl,_⟩:=h;rfl
 obtain⟨a,C,b,y,rfl,j,e,l,m,g,q⟩:=h;refine⟨_,(av (cu (ZcJ rfl o.Zx (aa (pv 0) (aa (Zcq (AX (K:=K) rfl (A4 (pv 2) (λ_=>rfl))) (Zef (Ht (Rw i (pv 1)) (Ht dP (Ht (Rw i (pv 2)) ZfI)))) (pv 1)) ai)))) (aC (Zea (pv 0) (pv 1)))),?_⟩;have fin:∀t:af,Ik K [.ref a,.str t] H λ_ H1=>Sq K (m8 0) (m8 1) "word" {nx:=λ_ p=>Q .aB p,rt:=Q} [O (.ref a),O (.str b),O (.str y)] H1:=λt=>
  ⟨a,C,.str t,rfl,e,j,_,rfl,_,rfl,a,C,rfl,e,l,.inl ⟨j,q⟩⟩
 have n:(1000200:Nat)<=sizeLine:=by rw[c7];decide
 refine⟨_,rfl,_,rfl,_,⟨(d4 g (by decide)),rfl⟩,?_⟩;refine bR (λc=>?_) (λc=>?_)
 ·refine⟨_,rfl,.inl ⟨b,rfl,(d4 m (by decide)),b,rfl,?_,?_⟩⟩
  ·rw[kS];show 0+b.length<=sizeLine;omega
  refine⟨_,rfl,?_,?_⟩
  ·rw[kS,kS];show 0+b.length+2<=sizeLine;omega
  refine⟨_,rfl,.inl ⟨y,rfl,(d4 g (by decide)),y,rfl,?_,?_,fin _⟩⟩
  ·rw[kS,kS,kS];show 0+b.length+2+y.length<=sizeLine;omega
  ·rw[kS,kS,kS];show 0+b.length+2+y.length<=sizeLine;omega
 ·exact⟨_,rfl,fin _⟩
def X3:aS w8 w8 (aL EJ):=.bg
def Zad(F:za K "__init__" "NoPerson.__init__" EJ f fd)(t:IV K o "__init__" n)(d:aH P w K mg B aO 1 n p xm (Sx K))(r:Binds K p xm [])(i:mg "KinError"=O (.ref o))(e:dZ K c)(j:c9 K c "word"):
  aH P w K mg B aO 2 f fd w8 (Sy "no person" c):=by
 refine F.ok X3 (λg H Q E h=>?_) (λu A b s H g Q E l h=>?_)
 ·obtain⟨a,y,rfl,_⟩:=h;rfl
 obtain⟨a,y,rfl,m,k,q⟩:=h;refine⟨_,(aC (cu (ZcH t d (l.mono (by decide)) rfl i r .nil yQ (aa (pv 0) (aa dP (aa (pv 1) ai)))))),?_⟩;exact⟨_,rfl,_,rfl,a,c,_,y,rfl,m,e,j,QD,k,q⟩
abbrev Dm:Z af:=["_law_script","_law_k"]
def Zgq:aS Dm Dm (aL SM):=⟨rfl,rfl,rfl,QK,rfl,QK,QK⟩
def ZeH(F:aP K "_law_cell" "_law_cell" SM f fd)(j:mg "len"=aI):aH P w K mg B aO 1 f fd Dm (Ro K):=by
 refine F.ok Zgq (λg H Q E h=>?_) (λn A b s H g Q E m h=>?_)
 ·obtain⟨a,i,k,rfl,_⟩:=h;rfl
 obtain⟨a,i,k,rfl,d,l,q⟩:=h;refine⟨_,av (bw (cA wb (pv 1) (gW MT rfl j By (aa (pv 0) ai))) (aC (aX (Sj Hq (pv 0) (pv 1) (λ_ _=>rfl)))) bI)
  (aC (aX aT)),?_⟩
 refine⟨_,rfl,_,rfl,a,_,rfl,.inl d,_,_,rfl,rfl,_,rfl,?_⟩;refine bR (λc=>?_) (λc=>?_)
 ·have e:=dm c;rw[(Ya _)] at e;exact⟨_,rfl,_,rfl,a,_,_,_,rfl,rfl,d,qY l e,q _⟩
 ·exact q _
abbrev Dn:Z af:=["_law_cell_here","_law_parts"]
def pU:aS ["_law_cell_here","_law_parts","_law_one","_law_two","_law_six","_law_found","_law_part"] Dn (aL RE):=⟨rfl,rfl,rfl,QK,rfl,QK,QK⟩
def Zdi(F:aP K "_law_draws" "_law_draws" RE f fd)(T:mg "abs"=aI):aH P w K mg B aO 1 f fd Dn (Hs K):=by
 refine F.ok pU (λvs H Q E h=>?_) (λaU A z s H vs Q E hr h=>?_)
 ·obtain⟨c,a,u,rfl,_⟩:=h;rfl
 obtain⟨c,a,u,rfl,X,G,W,q⟩:=h;refine⟨_,av (bw (cA wb (gW OG rfl T Rn (aa (pv 0) ai)) (bc Q8 aT aT))
   (av (fh (i:=2) pU.nd rfl (ew rfl) (bc hZ (bc hV (bc pY (pv 0) aT) aT) aT))
   (av (fh (i:=3) pU.nd rfl (ew rfl) (bc hZ (bc hV (bc hV (bc pY (pv 2) (pv 2)) (bc pY aT (pv 2))) (pv 0)) aT))
   (av (fh (i:=4) pU.nd rfl (ew rfl) (bc hZ (bc hV (bc pY (pv 3) aT) (pv 2)) aT))
   (aC (fh (i:=0) pU.nd rfl (ew rfl) (bc hV (pv 3) (bc pY aT (bc hV (pv 4) (bc pY aT (pv 2))))))))))
   (aC (fh (i:=0) pU.nd rfl (ew rfl) (bc Q7 (gW OG rfl T Rn (aa (pv 0) ai)) (bc Q8 aT aT)))))
  (av (fh (i:=5) pU.nd rfl (ew rfl) (Ic ai))
  (av (jb iP rfl (Px (pv 1)) (jT (i:=6) pU.nd rfl (ew rfl))
   (av (cu (rf k9 lG lr AV (pv 5) (aa (bc hZ (pv 0) (pv 6)) ai)))
   (aC (fh (i:=0) pU.nd rfl (ew rfl) (bc Hl (pv 0) (pv 6))))))
  (aC (aX (pv 5))))),?_⟩
 refine jV (λm H'=>H'=H/\∃L j g d,m=[O (.int L),O (.ref a),j,g,d,aI,aI]) (λnx k=>?_) ?_
 ·refine⟨_,rfl,c,rfl,_,_,rfl,rfl,⟨QD,QD,QD⟩,_,_,rfl,rfl,_,rfl,?_⟩;refine bR (λ_=>?_) (λ_=>?_)
  ·refine⟨_,rfl,_,_,rfl,rfl,.inr ⟨QD,QD⟩,_,_,rfl,rfl,_,_,rfl,rfl,(by show(0:Int)<2147483647;decide),?_⟩;refine⟨_,rfl,_,rfl,_,_,rfl,rfl,.inl (ZfA _ QD QD),_,rfl,_,_,rfl,rfl,.inl ⟨QD,QD⟩,_,_,rfl,rfl,_,rfl,_,_,rfl,rfl,_,_,rfl,rfl,(by show(0:Int)<2147483399;decide),?_⟩;refine⟨_,rfl,_,_,rfl,rfl,.inr ⟨QD,QD⟩,_,rfl,_,_,rfl,rfl,_,_,rfl,rfl,(by show(0:Int)<1000000007;decide),?_⟩;refine⟨_,rfl,_,rfl,_,rfl,_,_,rfl,rfl,.inl ⟨QD,QD⟩,_,_,rfl,rfl,_,_,rfl,rfl,.inl ⟨QD,QD⟩,_,_,rfl,rfl,k _ _ ⟨rfl,_,_,_,_,rfl⟩⟩
  ·exact⟨_,rfl,c,rfl,_,_,rfl,rfl,⟨QD,QD,QD⟩,_,_,rfl,rfl,k _ _ ⟨rfl,_,_,_,_,rfl⟩⟩
 ·rintro m N ⟨rfl,L,j,g,d,rfl⟩;refine⟨(by show 0<=sizeLine;decide),λl J=>?_⟩;have R:aq N (upd N l (.lst [])):=cY J _;refine⟨_,rfl,a,rfl,⟨_,R.seq X⟩,mS (K:=K) (a:=a) (xs:=u.map V.int) (λi m n=>∃c j g d D ds,m=[O (.int c),O (.ref a),j,g,d,O (.ref l),D]/\aq N n/\n l=O (.lst (ds.map V.int))/\Paired Bd ds (u.take i))
   ⟨L,j,g,d,aI,[],rfl,R,aM,by rw[vc];exact .nil⟩ (λi m n _ ⟨_,_,_,_,_,_,_,r,_⟩=>r.seq X) ?_ ?_⟩
  ·rintro i y m n hi ⟨c,j,g,d,D,ds,rfl,r,x,t⟩;obtain⟨p,rfl,I⟩:=ou hi;have dB:i<u.length:=(Yf.mp I).1;obtain⟨v,p1⟩:=G p (Ym I);have dl:=t.length;rw[Wi] at dl;refine⟨_,rfl,.inl ⟨rfl,_,aj.of x⟩,_,rfl,_,rfl,_,_,rfl,rfl,v,l,_,_,rfl,rfl,x,(by rw[Ya];exact mR QO),?_⟩;refine⟨_,rfl,_,rfl,_,_,rfl,rfl,⟨v,p1⟩,?_⟩;refine⟨_,j,g,d,_,ds++[c % p],rfl,λb o e=>?_,?_,?_⟩
   ·rw[az (bW e J)];exact r b o e
   ·rw[aM,ZcB]
   ·rw[Y8,I];exact t.snoc ⟨Jp _ (sU v),W8 _ v⟩
  ·rintro m n ⟨c,j,g,d,D,ds,rfl,r,x,t⟩;rw[Ya,Wn] at t;exact⟨_,rfl,q l ds n J r x t⟩
def bP(h:q (σ.set i (O x)) H):lQ i x σ H q:=h
def RF{K:ae}{H:Hp}{p:U}{b:Z V}{i:Nat}{x:V}{Q:VK}(a:aj K H p b\/aK K H p b)(h:b[i]?=O x)(q:Q x H):KN K (.ref p) (.int (0+(i:Int))) H Q:=by
 rcases a with a|a;·exact .inl ⟨p,_,_,_,rfl,rfl,a,OM h,q⟩
 ·exact .inr (.inl ⟨p,_,_,_,rfl,rfl,a,OM h,q⟩)
def A_(v:V):decide (v=v)=ar:=c_ rfl
theorem all_true(n:Nat):(List.replicate n ar).all id=ar:=by
 induction n with
 |zero=>rfl
 |succ n a=>rw[C4,Jt,a];rfl
inductive O2(m:Nat)(a:Z V)(H:Hp)(Q:VK):Prop
 |mk (x y:V) (d:Dt) (k:Nat) (i:a=[x,y]) (h:m=k+1) (g:At H k x d) (e:At H k y d) (c:∀b,aq H b->Q (.bl ar) b):O2 m a H Q
def sY(m:Nat):Sp:=λa H Q _=>O2 m a H Q
section
variable {K:ae}{mg:aN}
abbrev oY:Z af:=["_law_found","_law_due"]
def Zae:aS oY oY (aL AM):=.bg
theorem Zdj(F:aP K "_law_same" "_law_same" AM f fd)(sy:HasFn P w K mg B n "_law_same" oY (sY n))(j:Bl mg):aH P w K mg B aO (n+1) f fd oY (sY (n+1)):=by
 refine F.o Zae λs H hr h=>?_;obtain⟨x,y,d,k,rfl,ek,l,u,q⟩:=h;obtain rfl:k=n:=(kh (Nat.add_right_cancel ek))
 have hu:=hr.oC;refine⟨_,(av (bw (cA Ib (pv 1) qW) (aC (aX (iW Ib (pv 0) qW))) bI) (av (bw (hU (mH K j (pv 1) (lR rfl j.BA Bj))) (aC (aX (vV (mH K j (pv 0) (lR rfl j.BA Bj)) (sR (iW dv (pv 0) (pv 1)))))) bI) (av (bw (hU (mH K j (pv 1) (lR rfl j.IX Ii))) (aC (aX (vV (mH K j (pv 0) (lR rfl j.IX Ii)) (vV (Zfk (mH K j (pv 0) (lR rfl j.BA Bj))) (sR (iW dv (pv 0) (pv 1))))))) bI) (av (bw (hU (mH K j (pv 1) (lR rfl j.yT yG))) (aC (aX (vV (mH K j (pv 0) (lR rfl j.yT yG)) (sR (iW dv (pv 0) (pv 1)))))) bI) (av (bw (PW.pt (pw_or (cA rb (mH K j (pv 1) (lR rfl j.yI yt)) (mH K j (pv 0) (lR rfl j.yI yt))) (pw_or1 (cA rb (mH K j (pv 1) (lR rfl j.vP vI)) (mH K j (pv 0) (lR rfl j.vP vI)))))) (aC (aX mY)) bI) (av (bw (cA rb (fE K j (pv 0)) (fE K j (pv 1))) (aC (aX mY)) bI) (aC (aX (gW (Kb (K:=K) rfl rfl) rfl j.IW Ig (aa (jz (x:="_law_k") (fr:=[("_law_found",0),("_law_due",1)]) (cl:=[("_law_found",s.heap.objs.size+1),("_law_due",s.heap.objs.size+1+1)]) rfl (.fD ⟨rfl,⟨rfl,trivial⟩⟩ ⟨⟨rfl,.inl rfl,.inl rfl,rfl⟩,⟨⟨rfl,.inl rfl,.inl rfl,rfl⟩,trivial⟩⟩) (yf rfl j.oy (aa (fE K j (pv 1)) ai)) (λ_ _ _ _=>lN) (λ_ _ _ _=>(yS sy hr (qs _) rfl (aa (bO (PY (K:=K) rfl) (pv 1) (pv 0)) (aa (bO (PY (K:=K) rfl) (pv 2) (pv 0)) ai))))) ai)))))))))),?_⟩;have T:(∃(p r:U) (A v:Z V) (ds:Z Dt) (t:aV) (X W:bA) (m:Nat),x=.ref p/\y=.ref r/\jJ K H (.ref p) t/\jJ K H (.ref r) t/\kitOne K t (.type "bool")=O aY/\kitOne K t (.type "int")=O aY/\kitOne K t (.type "str")=O aY/\
   kitOne K t (.type "list")=O X/\kitOne K t (.type "tuple")=O W/\(aj K H p A\/aK K H p A)/\(aj K H r v\/aK K H r v)/\ds.length<=1000/\Paired (At H m) A ds/\Paired (At H m) v ds/\k=m+1)\/
   (x=.aB/\y=.aB)\/(∃b,x=.bl b/\y=.bl b)\/(∃i,x=.int i/\y=.int i)\/∃z,x=.str z/\y=.str z:=by
  cases d with
  |aB=>unfold At at l u;exact .inr (.inl ⟨l,u⟩)
  |bl b=>unfold At at l u;exact .inr (.inr (.inl ⟨b,l,u⟩))
  |int i=>unfold At at l u;exact .inr (.inr (.inr (.inl ⟨i,l,u⟩)))
  |str z=>unfold At at l u;exact .inr (.inr (.inr (.inr ⟨z,l,u⟩)))
  |lst ds=>
   cases k with
   |zero=>unfold At at l;exact l.elim
   |succ m=>
    unfold At at l u;obtain⟨a,A,e0,G,lz,L⟩:=l;obtain⟨b,v,LB,E,_,J⟩:=u;exact .inl ⟨a,b,A,v,ds,.type "list",ar,aY,m,e0,LB,.lst G,.lst E,ZfL,ZfM,ZfN,ZfO,ZfP,.inl (aj.of G),.inl (aj.of E),lz,L,J,rfl⟩
  |tup ds=>
   cases k with
   |zero=>unfold At at l;exact l.elim
   |succ m=>
    unfold At at l u;obtain⟨a,A,e0,G,lz,L⟩:=l;obtain⟨b,v,LB,E,_,J⟩:=u;exact .inl ⟨a,b,A,v,ds,.type "tuple",aY,ar,m,e0,LB,.tup G,.tup E,ZfQ,ZfR,ZfS,ZfT,ZfU,.inr (aK.of G),.inr (aK.of E),lz,L,J,rfl⟩
 clear l u;rcases T with⟨p,r,A,v,ds,t,X,W,m,rfl,rfl,T1,Q,kb,ki,ksr,kl,kt,hp,hq,hz,L,J,ek⟩|⟨rfl,rfl⟩|⟨b,rfl,rfl⟩|⟨i,rfl,rfl⟩|⟨z,rfl,rfl⟩
 ·have l1:=dC L;have l2:=dC J;refine⟨_,rfl,rfl,_,rfl,?_⟩;refine bR (λc=>absurd (dm c) (λz=>nomatch z)) (λ_=>bJ ?_);refine⟨_,rfl,_,_,_,aY,rfl,Q,kb,_,rfl,dh (bJ ?_)⟩;refine⟨_,rfl,_,_,_,aY,rfl,Q,ki,_,rfl,dh (bJ ?_)⟩;refine⟨_,rfl,_,_,_,aY,rfl,Q,ksr,_,rfl,dh (bJ ?_)⟩;refine⟨_,rfl,_,_,_,X,rfl,Q,kl,_,rfl,_,_,_,X,rfl,T1,kl,rfl,_,rfl,wc rfl ?_⟩;refine⟨_,rfl,_,_,_,W,rfl,Q,kt,_,rfl,_,_,_,W,rfl,T1,kt,rfl,_,rfl,wc rfl (bJ ?_)⟩;refine⟨_,rfl,p,_,rfl,hp,_,rfl,r,_,rfl,hq,rfl,_,rfl,wc (by rw[l1,l2]) (bJ ?_)⟩;refine⟨_,rfl,r,_,rfl,hq,_,rfl,QO,QO,λD hD=>F9 (lo:=0) (n:=((v.length:Nat):Int).toNat)
   (λi R I=>aq H I/\I D=O (.lst R)/\R=(List.replicate i ar).map V.bl) ⟨cY hD _,aM,rfl⟩ ?_ ?_⟩
  ·rintro i R I hi ⟨g,h1,rfl⟩;rw[We] at hi;have T:∀{a:U} {N:Z V},(aj K H a N\/aK K H a N)->(aj K I a N\/aK K I a N):=λ{a N} z=>by
    rcases z with z|z;·exact .inl (g.seq z)
    ·exact .inr (g.kZ z)
   have gx:A[i]?=O A[i]:=Yb QO;have gy:v[i]?=O v[i]:=Yb hi;obtain⟨d1,G,a1⟩:=kF L gx;obtain⟨d2,E,a2⟩:=kF J gy;rw[G] at E;cases E;refine lY (dI ?_);refine⟨_,rfl,_,rfl,RF (T hp) gx ?_⟩;refine⟨_,rfl,_,rfl,RF (T hq) gy ?_⟩;refine⟨_,_,d1,m,rfl,ek,a1.same g,a2.same g,λH2 g2=>?_⟩;refine⟨g2 _ _ h1,by rw[Ya,Wr];exact mR QO,λb o e=>?_,aM,?_⟩
   ·rw[az (bW e hD)];exact g2 b o (g b o e)
   ·rw[U4,Yt];rfl
  ·rintro R I ⟨g,h1,e⟩;refine⟨D,_,rfl,aj.of (by rw[h1,e]),?_⟩;rw[all_true];exact q I g
 ·refine⟨_,rfl,rfl,_,rfl,?_⟩;refine bR (λc=>?_) (λc=>absurd (A_ _) c);exact⟨_,rfl,rfl,q H (aq.refl H)⟩
 ·refine⟨_,rfl,rfl,_,rfl,?_⟩;refine bR (λc=>absurd (dm c) (λz=>nomatch z)) (λ_=>bJ ?_);refine⟨_,rfl,_,_,_,ar,rfl,.bl b,Ry,_,rfl,dI ?_⟩;refine⟨_,rfl,_,_,_,ar,rfl,.bl b,Ry,_,rfl,dI ?_⟩;refine⟨_,rfl,_,rfl,rfl,?_⟩;rw[A_];exact q H (aq.refl H)
 ·refine⟨_,rfl,rfl,_,rfl,?_⟩;refine bR (λc=>absurd (dm c) (λz=>nomatch z)) (λ_=>bJ ?_);refine⟨_,rfl,_,_,_,aY,rfl,.int i,Il,_,rfl,dh (bJ ?_)⟩;refine⟨_,rfl,_,_,_,ar,rfl,.int i,Rx,_,rfl,dI ?_⟩;refine⟨_,rfl,_,_,_,ar,rfl,.int i,Rx,_,rfl,dI ?_⟩;refine⟨_,rfl,_,_,_,aY,rfl,.int i,Il,_,rfl,_,rfl,dI ?_⟩;refine⟨_,rfl,_,rfl,rfl,?_⟩;rw[A_];exact q H (aq.refl H)
 ·refine⟨_,rfl,rfl,_,rfl,?_⟩;refine bR (λc=>absurd (dm c) (λz=>nomatch z)) (λ_=>bJ ?_);refine⟨_,rfl,_,_,_,aY,rfl,.str z,ZfJ,_,rfl,dh (bJ ?_)⟩;refine⟨_,rfl,_,_,_,aY,rfl,.str z,ZfK,_,rfl,dh (bJ ?_)⟩;refine⟨_,rfl,_,_,_,ar,rfl,.str z,Rz,_,rfl,dI ?_⟩;refine⟨_,rfl,_,_,_,ar,rfl,.str z,Rz,_,rfl,dI ?_⟩;refine⟨_,rfl,_,rfl,rfl,?_⟩;rw[A_];exact q H (aq.refl H)
def same_none:aH P w K mg B aO 0 f fd oY (sY 0):=by
 have no:∀a H Q E,¬sY 0 a H Q E:=λa H Q E h=>by
  obtain⟨_,_,_,_,_,z,_⟩:=h;omega
 exact⟨λa H Q E h=>absurd h (no a H Q E),λA b s H c d a Q E _ _ _ _ h=>absurd h (no a H Q E)⟩
theorem Qh(F:aP K "_law_same" "_law_same" AM f fd)(c:Binds K fd oY [])(a:keepIn K (.ref f)=ar)(m:mg "_law_same"=O (.ref f))(b:Bl mg):
  ∀n:Nat,aH P w K mg B aO n f fd oY (sY n)
 |0=>same_none
 |n+1=>Zdj F ⟨f,fd,Qh F c a m b n,c,a,m⟩ b
end
inductive RG(K:ae)(b:Z V)(H:Hp)(Q:VK):Prop
 |mk (p:U) (a:Z Int) (h:b=[.ref p]) (g:Row K H p a) (e:a.length<64) (d:∀c,aq H c->Q (.bl (full a)) c):RG K b H Q
def Kj(K:ae):Sp:=λa H Q _=>RG K a H Q
def bF(a b:Z Int):Z Int:=b.map λx=>a.getD x.toNat 0
def sM(h:full a=ar)(c:x∈a):0<=x/\x<a.length:=by
 have b:=(qQ h).subset c;unfold aE at b;obtain⟨i,d,rfl⟩:=Yh.mp b;have:=Wf.mp d;omega
abbrev jN:Z af:=["row"]
def Za6:aS jN jN (aL GA):=.bg
def Za7(F:aP K "is_turn" "is_turn" GA f fd)(n:Bl mg):aH P w K mg B aO 1 f fd jN (Kj K):=by
 refine F.o Za6 @λaU A G vs Q E s H hr h=>?_;obtain⟨p,t,rfl,L,dY,q⟩:=h;have X:=hr.oC;refine⟨_,(av (bw (hU (gW (ZhV (K:=K) rfl rfl) rfl n.Zg1 ZfB (aa (jz (x:="number") (fr:=[]) (cl:=[]) rfl (.fD trivial trivial) (Zfy (pv 0)) (λ_ _ _ _=>lN) (λ_ _ _ _=>(mH K n (pv 0) (lR rfl n.BA Bj)))) ai))) (aC (aX mY)) bI) (aC (aX (iW (Zfz X) (gW (sortedK (K:=K) rfl) rfl n.vJ vB (aa (pv 0) ai)) (jv (MO rfl) rfl n.yI yt (aa (jv FC rfl n.oy A6 (aa (fE K n (pv 0)) ai)) ai)))))),?_⟩;have J:(t.map V.int).length=t.length:=Ya _;have k:∀(D:U) (a:Hp),aq H a->a D=O (.lst ((List.replicate t.length aY).map V.bl))->
   ∃(R:U) (bs:Z bA),[V.ref D]=[V.ref R]/\aj K a R (bs.map V.bl)/\tB (tC (V.bl (bs.any id))) [] a (λc T=>if c=ar then Q (.bl aY) T else
    (Sz K aY (m8 0)) [O (.ref p)] T Q):=λD a N m=>by
  refine⟨D,_,rfl,aj.of m,_,rfl,?_⟩;rw[any_false];refine dh ?_;exact ZcN rfl (Row.same N L) dY λH' g=>q H' (N.trans g)
 have j:∀(D:U),H D=aI->∀(i:Nat) (v:V) (d:Z V) (a:Hp),(t.map V.int)[i]?=O v->(aq H a/\a D=O (.lst d)/\d=(List.replicate i aY).map V.bl)->
   oV (Ci K) (jB (m8 0) (jB (tC (V.ty "bool")) jZ)) [O v] a λy I=>I D=O (.lst d)/\d.length<sizeLine/\
    (aq H (upd I D (.lst (d++[y])))/\upd I D (.lst (d++[y])) D=O (.lst (d++[y]))/\d++[y]=(List.replicate (i+1) aY).map V.bl):=λD l i v d a u ⟨g,m,e⟩=>by
  obtain⟨z,rfl,W⟩:=ou u;have dB:i<t.length:=(Yf.mp W).1;refine⟨_,rfl,_,_,_,aY,rfl,.int z,Il,m,?_,λb o q=>?_,aM,?_⟩
  ·rw[e,Ya,Wr];exact mR QO
  ·rw[az (bW q l)];exact g b o q
  ·rw[e,U4,Yt];rfl
 refine⟨_,rfl,p,rfl,?_⟩;rcases L with r|r
 ·refine .inl ⟨⟨_,r⟩,λD l=>Gx (λi d a=>aq H a/\a D=O (.lst d)/\d=(List.replicate i aY).map V.bl) ⟨cY l _,aM,rfl⟩ (λi d a _ ⟨g,_,_⟩=>g.seq r) (λi v d a u h=>lY (dI (j D l i v d a u h))) ?_⟩;rintro d a ⟨g,m,e⟩;exact k D a g (by rw[m,e,J])
 ·refine .inr ⟨⟨_,r⟩,λD l=>GV (λi d a=>aq H a/\a D=O (.lst d)/\d=(List.replicate i aY).map V.bl) ⟨cY l _,aM,rfl⟩ (λi d a _ ⟨g,_,_⟩=>g.kZ r) (λi v d a u h=>lY (dI (j D l i v d a u h))) ?_⟩;rintro d a ⟨g,m,e⟩;exact k D a g (by rw[m,e,J])
inductive Qi(K:ae)(g:Z V)(H:Hp)(Q:VK):Prop
 |mk (a b:U) (c d:Z Int) (m:g=[.ref a,.ref b]) (l:aK K H a (c.map V.int)) (k:aK K H b (d.map V.int)) (j:(∀x∈c,0<=x/\x<d.length)) (i:c.length<64) (h:∀(t:U) (e:Hp),H t=aI->aq H e->e t=O (.tup ((bF d c).map V.int))->Q (.ref t) e):Qi K g H Q
def JC(K:ae):Sp:=λa H Q _=>Qi K a H Q
abbrev oZ:Z af:=["first","then"]
def Zaf:aS oZ oZ (aL Gb):=.bg
def Zag(F:aP K "followed" "followed" Gb f fd)(L:Bl mg):aH P w K mg B aO 1 f fd oZ (JC K):=by
 refine F.o Zaf λs H N h=>?_;obtain⟨a,b,k,m,rfl,y,J,G,Q,q⟩:=h;have E:(bF m k).length=k.length:=by unfold bF;rw[Ya]
 refine⟨_,(aC (aX (jv (MN) rfl L.vP vI (aa (jz (x:="section") (fr:=[("then",1)]) (cl:=[("then",s.heap.objs.size+1)]) rfl (.fD ⟨rfl,trivial⟩ ⟨⟨rfl,.inl rfl,.inl rfl,rfl⟩,trivial⟩) (Q6 (pv 0)) (λ_ _ _ _=>lN) (λ_ _ _ _=>(bO (iT K) (pv 1) (pv 0)))) ai)))),?_⟩;refine⟨_,rfl,a,rfl,⟨_,y⟩,λD u=>GV (λi e g=>aq H g/\g D=O (.lst e)/\e=((bF m k).take i).map V.int) ⟨cY u _,aM,rfl⟩ (λi e g _ ⟨c,_,_⟩=>c.kZ y) ?_ ?_⟩
 ·rintro i v e g I ⟨c,l,j⟩;obtain⟨z,rfl,p⟩:=ou I;have A:=G z (Ym p);refine lY (dI ⟨_,rfl,_,rfl,b,_,_,_,rfl,rfl,c.kZ J,qY A.1 A.2,l,?_,λd o n=>?_,aM,?_⟩)
  ·rw[j,Ya,Wi,E];exact mR QO
  ·rw[az (bW n u)];exact c d o n
  ·rw[j,Y8,ZbM];unfold bF;rw[Yi,p];rfl
 ·rintro e g ⟨c,l,j⟩;refine⟨D,_,rfl,.inl ⟨aj.of l,λt r=>q t _ (c.free r) (c.trans (cY r _)) ?_⟩⟩;rw[aM,j,Ya,Jx (by rw[E];exact qs _)]
def lZ(x:Int):Z Int->Nat
 |[]=>0
 |y::r=>if y=x then 0 else lZ x r+1
theorem G3{x:Int}:∀{l:Z Int},x∈l->l[lZ x l]?=O x/\∀m,m<lZ x l->l[m]?≠O x
 |[],h=>by cases h
 |y::r,h=>by
  unfold lZ;by_cases e:y=x;·grind
  ·rw[bb e];obtain⟨c,b⟩:=G3 ((Ys.mp h).resolve_left λz=>e z.symm);refine⟨by rwa[U6],λm a=>?_⟩;cases m with
   |zero=>grind
   |succ m=>grind
def yj(b:l.Nodup)(h:l[k]?=O x):lZ x l=k:=by
 obtain⟨a,c⟩:=G3 (Ym h);exact(List.getElem?_inj (by rcases Yf.mp a with⟨z,_⟩;exact z) b).mp (a.trans h.symm)
def inv(a:Z Int):Z Int:=(aE a.length).map λi=>(lZ i a:Int)
def i4(a:Z Int):(inv a).length=a.length:=by unfold inv;rw[Ya,fX]
def yx{i:Nat}(h:i<xs.length):(inv xs)[i]?=O (lZ (i:Int) xs:Int):=by
 unfold inv;rw[Yi,lL h];rfl
def yc(h:full xs=ar):xs.Nodup:=(qQ h).nodup_iff.mpr (K3.Nj _)
def Zdk(h:full xs=ar)(a:i<xs.length):(i:Int)∈xs:=(qQ h).symm.subset (Ym (lL a))
def oj(h:full xs=ar):full (inv xs)=ar:=by
 have p:(xs.map λi=>(lZ i xs:Int)).Perm (inv xs):=(qQ h).map _;have e:xs.map (λi=>(lZ i xs:Int))=aE xs.length:=by
  refine Jg λi=>?_;rw[Yi];by_cases a:i<xs.length
  ·rw[lL a,Yb a];show O (lZ xs[i] xs:Int)=O (i:Int);rw[yj (yc h) (Yb a)]
  ·rw[Wa (dg a),Wa (by rw[fX];exact dg a)];rfl
 rw[e] at p;exact qV p.symm
def inv_inv(h:full xs=ar):inv (inv xs)=xs:=by
 refine Jg λi=>?_;by_cases a:i<xs.length
 ·rw[yx (by rwa[i4]),Yb a];have b:=sM h (Wg a);have c:(xs[i]).toNat<xs.length:=QO
  have e:((xs[i].toNat:Nat):Int)=xs[i]:=QO
  have g:(inv xs)[(xs[i]).toNat]?=O (i:Int):=by rw[yx c,e,yj (yc h) (Yb a)]
  rw[yj (yc (oj h)) g,e]
 ·rw[Wa (by rw[i4,i4];exact dg a),Wa (dg a)]
def Zdl(a:i<xs.length):(inv xs).take (i+1)=(inv xs).take i++[(lZ (i:Int) xs:Int)]:=by
 rw[Y8,yx a];rfl
inductive RH(d:Z V)(H:Hp)(Q:VK):Prop
 |mk (a:U) (b:Z Int) (j:d=[.ref a]) (i:H a=O (.tup (b.map V.int))) (h:b.length<64) (g:full b=ar) (e:∀(t:U) (c:Hp),H t=aI->aq H c->c t=O (.tup ((inv b).map V.int))->Q (.ref t) c):RH d H Q
def Cr:Sp:=λa H Q _=>RH a H Q
abbrev o_:Z af:=["turn"]
def YS:aS o_ o_ (aL E6):=.bg
def YT(F:aP K "turned_back" "turned_back" E6 f fd)(p:Bl mg):aH P w K mg B aO 1 f fd o_ Cr:=by
 refine F.ok YS (λI H Q E h=>?_) (λT A l s L I Q E R h=>?_)
 ·obtain⟨a,b,rfl,_⟩:=h;rfl
 obtain⟨a,b,rfl,z,N,J,q⟩:=h;refine⟨_,(aC (aX (jv (MN) rfl p.vP vI (aa (jz (x:="section") (fr:=[("turn",0)]) (cl:=[("turn",s.heap.objs.size+1)]) rfl (.fD ⟨rfl,trivial⟩ ⟨⟨rfl,.inl rfl,.inl rfl,rfl⟩,trivial⟩) (yf rfl p.oy (aa (fE K p (pv 0)) ai)) (λ_ _ _ _=>lN) (λ_ _ _ _=>(Z9 (pv 1) (aa (pv 0) ai)))) ai)))),?_⟩;have g:(b.map V.int).length=b.length:=Ya _;refine⟨_,rfl,a,_,rfl,.inr (aK.of z),_,rfl,by rw[g];omega,by rw[g];omega,λD y=>F9
   (λi e k=>aq L k/\k D=O (.lst e)/\e=((inv b).take i).map V.int) ⟨cY y _,aM,rfl⟩ ?_ ?_⟩
 ·rintro i e k m ⟨c,n,j⟩;rw[We,g] at m;rw[UP];have u:=G3 (Zdk J m);have G:=c _ _ z;refine lY (dI ⟨_,rfl,a,b,rfl,G,_,rfl,(i:Int),lZ (i:Int) b,rfl,G,u.1,u.2,n,?_,λd o r=>?_,aM,?_⟩)
  ·rw[j,Ya,Wi,i4];exact mR QO
  ·rw[az (bW r y)];exact c d o r
  ·rw[j,Zdl m,Yt];rfl
 ·rintro e k ⟨c,n,j⟩;refine⟨D,_,rfl,.inl ⟨aj.of n,λt v=>q t _ (c.free v) (c.trans (cY v _)) ?_⟩⟩;rw[aM,j,We,g,Jx (by rw[i4];exact qs _)]
inductive Oh(b:Z V)(H:Hp)(Q:VK):Prop
 |mk (n:Nat) (e:b=[.int (n:Int)]) (d:n<=1000) (c:∀(t:U) (a:Hp),H t=aI->aq H a->a t=O (.tup ((aE n).map V.int))->Q (.ref t) a):Oh b H Q
def HP:Sp:=λa H Q _=>Oh a H Q
def Zdm:aS ["size"] ["size"] (aL Hz):=.bg
def Zdn(F:aP K "still" "still" Hz f fd)(b:Bl mg):aH P w K mg B aO 1 f fd ["size"] HP:=by
 refine F.o Zdm λs H e h=>?_;obtain⟨n,rfl,d,q⟩:=h;refine⟨_,(aC (aX (jv (ML rfl) rfl b.vP vI (aa (jv FC rfl b.oy A6 (aa (pv 0) ai)) ai)))),?_⟩;exact⟨_,rfl,_,rfl,λr c=>⟨r,n,rfl,aM,d,λt a=>q t _ ((cY c _).free a) ((cY c _).trans (cY a _)) aM⟩⟩
inductive Qj(K:ae)(b:Z V)(H:Hp)(Q:VK):Prop
 |mk (p:U) (a:Z Int) (i:b=[.ref p]) (h:aK K H p (a.map V.int)) (g:a.length<64) (e:full a=ar) (d:∀c,aq H c->Q .aB c):Qj K b H Q
def JD(K:ae):Sp:=λa H Q _=>Qj K a H Q
inductive RI(K:ae)(g:Z V)(H:Hp)(Q:VK):Prop
 |mk (a b:U) (c d:Z Int) (o:g=[.ref a,.ref b]) (n:aK K H a (c.map V.int)) (m:aK K H b (d.map V.int)) (l:c.length<64) (k:full c=ar) (j:full d=ar) (i:c.length=d.length) (h:∀(t:U) (e:Hp),H t=aI->aq H e->e t=O (.tup ((bF d c).map V.int))->Q (.ref t) e):RI K g H Q
def Kk(K:ae):Sp:=λa H Q _=>RI K a H Q
inductive RJ(d:Z V)(H:Hp)(Q:VK):Prop
 |mk (a:U) (b:Z Int) (j:d=[.ref a]) (i:H a=O (.tup (b.map V.int))) (h:b.length<64) (g:full b=ar) (e:∀(t:U) (c:Hp),H t=aI->aq H c->c t=O (.tup ((inv b).map V.int))->Q (.ref t) c):RJ d H Q
def Tu:Sp:=λa H Q _=>RJ a H Q
inductive O3(K:ae)(c:Z V)(H:Hp)(Q:VK):Prop
 |mk (l e:U) (d:Z U) (n:Nat) (o:c=[.ref l]) (m:aj K H l ((e::d).map V.ref)) (k:2<=n) (j:n<=8) (i:(∀a∈e::d,∃b:Z Int,aK K H a (b.map V.int)/\b.length=n/\full b=ar)) (h:∀g,aq H g->Q .aB g):O3 K c H Q
def IC(K:ae):Sp:=λa H Q _=>O3 K a H Q
inductive M6(K:ae)(c:Z V)(H:Hp)(Q:VK):Prop
 |mk (m f w:U) (a b:Z Int) (o:c=[.ref m,.ref f,.ref w]) (n:aK K H m (a.map V.int)) (l:aK K H f ((bF a b).map V.int)) (k:aK K H w (b.map V.int)) (j:full a=ar) (i:full b=ar) (h:a.length=b.length) (g:a.length<=8) (e:∀d,aq H d->Q .aB d):M6 K c H Q
def Oi(K:ae):Sp:=λa H Q _=>M6 K a H Q
def Nz(b a:Z Int):(bF b a).length=a.length:=by unfold bF;rw[Ya]
def Zdo(g:full xs=ar)(d:full a=ar)(e:xs.length=a.length):full (bF xs a)=ar:=by
 have c:(bF xs a).Perm ((aE a.length).map λx=>xs.getD x.toNat 0):=(qQ d).map _;have h:((aE a.length).map λx=>xs.getD x.toNat 0)=xs:=by
  refine Jg λi=>?_;rw[Yi];by_cases b:i<a.length
  ·rw[lL b]
   grind
  ·rw[Wa (by rw[fX];exact dg b),Wa (d4 (gR e) (dg b))];rfl
 rw[h] at c;exact qV (c.trans (qQ g))
abbrev Zhk(n:Nat)(m f w d:U):Z (af×V):=[("size",.int (n:Int)),("mother",.ref m),("father",.ref f),("wife",.ref w),("steps",.ref d)]
abbrev sZ(m f w d b c a:U):Z (Key×V):=[(.inr "c",.ref m),(.inr "k",.ref f),(.inr "w",.ref w),(.inr "m",.ref d),(.inr "f",.ref b),(.inr "h",.ref c),(.inr "s",.ref a)]
def dF(H:Hp)(a:U)(b:Z Int):Prop:=H a=O (.tup (b.map V.int))
inductive O4(H:Hp)(C L:U)(a b:Z Int):Prop
 |mk (h d m f w g c e st:U) (r:H L=O (.ins C h (Zhk a.length m f w d))) (q:H d=O (.dK (sZ m f w g c e st))) (p:dF H m a) (o:dF H f (bF a b)) (n:dF H w b) (l:dF H g (inv a)) (k:dF H c (inv (bF a b))) (j:dF H e (inv b)) (i:dF H st (aE a.length)):O4 H C L a b
def fQ(H:Hp)(C L:U)(b a:Z Int):Prop:=O4 H C L b a
def fQ.same(g:aq H s)(h:fQ H C L xs ys):fQ s C L xs ys:=by
 obtain⟨r,d,m,f,w,c,a,b,st,q,p,o,n,l,k,j,i,e⟩:=h;exact⟨r,d,m,f,w,c,a,b,st,g _ _ q,g _ _ p,g _ _ o,g _ _ n,g _ _ l,g _ _ k,g _ _ j,g _ _ i,g _ _ e⟩
inductive O5(C:U)(e:Z V)(H:Hp)(Q:VK):Prop
 |mk (x g m f w:U) (a c:Z Int) (r:e=[.ref x,.ref m,.ref f,.ref w]) (q:H x=O (.ins C g [])) (p:dF H m a) (n:dF H f (bF a c)) (l:dF H w c) (k:full a=ar) (j:full c=ar) (i:a.length=c.length) (h:2<=a.length) (t:a.length<=8) (s:∀d,(∀b o,H b=O o->b≠x->d b=O o)->fQ d C x a c->Q .aB d):O5 C e H Q
def RK(C:U):Sp:=λa H Q _=>O5 C a H Q
inductive NA(C:U)(d:Z V)(H:Hp)(Q:VK):Prop
 |mk (m w:U) (a b:Z Int) (o:d=[.ref m,.ref w]) (n:dF H m a) (l:dF H w b) (k:full a=ar) (j:full b=ar) (i:a.length=b.length) (h:2<=a.length) (g:a.length<=8) (e:∀(L:U) (c:Hp),aq H c->fQ c C L a b->Q (.ref L) c):NA C d H Q
def O6(C:U):Sp:=λa H Q _=>NA C a H Q
structure yU(K:ae)(C:U):Prop where
 cls:gn K C
 v9:c9 K C "size"
 Zdp:c9 K C "mother"
 Zdq:c9 K C "father"
 Zgr:c9 K C "wife"
 HQ:c9 K C "steps"
def Zg:aS jN jN (aL Fi):=.bg
def Zgs(F:aP K "check_turn" "check_turn" Fi f fd)(a:HasFn P w K mg B 1 "is_turn" jN (Kj K)):aH P w K mg B aO 2 f fd jN (JD K):=by
 refine F.o Zg λs H c h=>?_;obtain⟨p,b,rfl,d,i,e,q⟩:=h;refine⟨_,(aC (bw (kK (hU (bq a c (aa (pv 0) ai)))) iF bI)),?_⟩;refine⟨_,rfl,p,b,rfl,.inr d,i,λj g=>⟨_,rfl,?_⟩⟩;rw[e];exact dh (q j g)
def Zb8:aS oZ oZ (aL GZ):=.bg
def Zhl(F:aP K "behind" "behind" GZ f fd)(j:HasFn P w K mg B 2 "check_turn" jN (JD K))(x:HasFn P w K mg B 1 "followed" oZ (JC K))(r:Bl mg):aH P w K mg B aO 3 f fd oZ (Kk K):=by
 refine F.o Zb8 λs H d h=>?_;obtain⟨a,b,i,e,rfl,m,l,k,o,I,eq,q⟩:=h;refine⟨_,(av (cu (bq j d (aa (pv 0) ai))) (av (cu (bq j d (aa (pv 1) ai))) (av (bw (cA rb (fE K r (pv 0)) (fE K r (pv 1))) iF bI) (aC (aX (bq x d (aa (pv 0) (aa (pv 1) ai)))))))),?_⟩;refine⟨_,rfl,a,i,rfl,m,k,o,λN n=>?_⟩;refine⟨_,rfl,b,e,rfl,n.kZ l,QO,I,λL G=>?_⟩;have g:=n.trans G;have v:=g.kZ m;have u:=g.kZ l;have p:∀c:Z Int,(c.map V.int).length=c.length:=λc=>Ya _;refine⟨_,rfl,a,_,rfl,.inr v,_,rfl,b,_,rfl,.inr u,rfl,_,rfl,wc (by rw[p,p,eq]) (bJ ?_)⟩;exact⟨_,rfl,_,rfl,a,b,i,e,rfl,v,u,λz A=>by exact eq▸sM o A,k,λt J y E D=>q t J (g.free y) (g.trans E) D⟩
def ZeI:aS o_ o_ (aL IB):=.bg
def Zhm(F:aP K "back" "back" IB f fd)(j:HasFn P w K mg B 2 "check_turn" jN (JD K))(k:HasFn P w K mg B 1 "turned_back" o_ Cr)(p:Bl mg):aH P w K mg B aO 3 f fd o_ Tu:=by
 refine F.o ZeI λs H e h=>?_;obtain⟨a,c,rfl,g,d,i,q⟩:=h;refine⟨_,(av (cu (bq j e (aa (pv 0) ai))) (aC (aX (bq k e (aa (pv 0) ai))))),?_⟩;refine⟨_,rfl,a,c,rfl,aK.of g,d,i,λr b=>?_⟩;exact⟨_,rfl,a,c,rfl,b _ _ g,d,i,λt o l n m=>q t o (b.free l) (b.trans n) m⟩
def E_:aS ["rows","size","row"] ["rows"] (aL Fj):=.bg
theorem ZeJ(F:aP K "check_rows" "check_rows" Fj f fd)(A:HasFn P w K mg B 1 "is_turn" jN (Kj K))(Q:mg "LEAST_SIZE"=O (.int 2 t1))(R:mg "MOST_SIZE"=O (.int 8 W))(x:Bl mg):aH P w K mg B aO 2 f fd ["rows"] (IC K):=by
 refine F.o E_ λs H G h=>?_;obtain⟨l,c,y,n,rfl,p,n2,X,b,q⟩:=h;refine⟨_,(av (cF 1 E_.nd (fE K x (bO (iL K) (pv 0) aT))) (av (bw (PW.pt (pw_or (cA wb (pv 1) (eg (v:=.int (2)) rfl Q ⟨_,rfl⟩)) (pw_or1 (cA Sh (pv 1) (eg (v:=.int (8)) rfl R ⟨_,rfl⟩))))) iF bI) (aC (jb iP rfl (eR (K:=K) rfl (pv 0)) (cz 2 E_.nd) (aC (bw (PW.pt (pw_or (cA rb (fE K x (pv 2)) (pv 1)) (pw_or1 (kK (hU (bq A G (aa (pv 2) ai))))))) iF bI)))))),?_⟩;have u:∀k:Z Int,(k.map V.int).length=k.length:=λk=>Ya _;obtain⟨T,J,E,f0⟩:=b c Yj;refine⟨_,rfl,l,_,0,.ref c,rfl,rfl,p,eA rfl,c,_,rfl,.inr J,?_⟩;rw[u,E];refine⟨_,rfl,_,_,rfl,rfl,_,rfl,bR (λr=>absurd (dm r) QO) (λ_=>?_)⟩;refine⟨_,rfl,_,_,rfl,rfl,_,rfl,bR (λr=>absurd (dm r) QO) (λ_=>bJ ?_)⟩;refine⟨_,rfl,l,rfl,⟨_,p⟩,mS (λi j d=>aq H d/\∃m:bt V,j=[O (.ref l),O (.int (n:Int)),m]) ⟨aq.refl _,aI,rfl⟩ (λi j d _ ⟨g,_⟩=>g.seq p) ?_ ?_⟩
 ·rintro i v j d o ⟨g,m,rfl⟩;rw[Yi] at o;obtain⟨a,I,rfl⟩:∃a,a∈c::y/\V.ref a=v:=by
   cases e:(c::y)[i]? with
   |none=>rw[e] at o;cases o
   |some a=>grind
  obtain⟨z,t,D,N⟩:=b a I;refine⟨_,rfl,a,_,rfl,.inr (g.kZ t),_,rfl,rfl,_,rfl,wc (by rw[u,D]) ?_⟩;refine⟨_,rfl,a,z,rfl,.inr (g.kZ t),QO,λH2 L=>⟨_,rfl,?_⟩⟩;rw[N];exact dh (bJ ⟨g.trans L,_,rfl⟩)
 ·rintro j d ⟨g,m,rfl⟩;exact q d g
abbrev LD:Z af:=["mother","father","wife"]
def EA:aS ["mother","father","wife","by_mothers","section"] LD (aL ED):=.bg
def Za8(F:aP K "check_parents" "check_parents" ED f fd)(r:HasFn P w K mg B 3 "behind" oZ (Kk K))(p:Bl mg):aH P w K mg B aO 4 f fd LD (Oi K):=by
 refine F.o EA λs H v h=>?_;obtain⟨m,j,n,b,a,rfl,z,o,y,D,A,eq,I,q⟩:=h;refine⟨_,(av (cF 3 EA.nd (bq r v (aa (pv 2) (aa (pv 0) ai)))) (aC (jb iP rfl (yf rfl p.oy (aa (fE K p (pv 1)) ai)) (cz 4 EA.nd) (aC (bw (cA rb (bO (iT K) (pv 3) (pv 4)) (bO (iT K) (pv 1) (pv 4))) iF bI))))),?_⟩;have k:∀d:Z Int,(d.map V.int).length=d.length:=λd=>Ya _;refine⟨_,rfl,_,rfl,n,m,a,b,rfl,y,z,QO,A,D,eq.symm,λt E G g u=>?_⟩;have J:=Nz b a;refine⟨_,rfl,j,_,rfl,.inr (g.kZ o),_,rfl,by rw[k];omega,by rw[k];omega,Gu
  (λi c l=>l=E/\∃e:bt V,c=[O (.ref m),O (.ref j),O (.ref n),O (.ref t),e]) ⟨rfl,aI,rfl⟩ ?_ ?_⟩
 ·rintro i c l x ⟨rfl,e,rfl⟩;rw[We,k] at x;have at_:fM ((bF b a).map V.int) (0+(i:Int))=O (.int ((bF b a).getD (0+(i:Int)).toNat 0)):=qY QO QO;refine⟨_,rfl,_,rfl,t,_,_,_,rfl,rfl,aK.of u,at_,_,rfl,_,rfl,j,_,_,_,rfl,rfl,g.kZ o,at_,rfl,_,rfl,wc rfl (bJ ⟨rfl,_,rfl⟩)⟩
 ·rintro c l ⟨rfl,e,rfl⟩;exact q _ g
def xu{f:af}(h:fs.length<=n):(cy f y fs).length<=n+1:=Yz (Fz f y fs) (J8 h)
def fs4(a b c d:V):cy "wife" d (cy "father" c (cy "mother" b (cy "size" a [])))=([("size",a),("mother",b),("father",c),("wife",d)]:Z (af×V)):=rfl
def fs5(a b c d e:V):cy "steps" e [("size",a),("mother",b),("father",c),("wife",d)]=([("size",a),("mother",b),("father",c),("wife",d),("steps",e)]:Z (af×V)):=rfl
def ds7(a b c d e f g:V):q5 [] [(.inr "c",a),(.inr "k",b),(.inr "w",c),(.inr "m",d),(.inr "f",e),(.inr "h",f),(.inr "s",g)]=[(.inr "c",a),(.inr "k",b),(.inr "w",c),(.inr "m",d),(.inr "f",e),(.inr "h",f),(.inr "s",g)]:=rfl
abbrev Dq:Z af:=["self","mother","father","wife"]
def ZC:aS Dq Dq (aL FP):=.bg
def ZeK(F:aP K "__init__" "Land.__init__" FP f fd)(p:yU K C)(u7:HasFn P w K mg B 2 "check_rows" ["rows"] (IC K))(EK:HasFn P w K mg B 4 "check_parents" LD (Oi K))
  (yK:HasFn P w K mg B 3 "back" o_ Tu)(vR:HasFn P w K mg B 1 "still" ["size"] HP)(bl:Bl mg):aH P w K mg B aO 5 f fd Dq (RK C):=by
 refine F.o ZC λs H y h=>?_;obtain⟨x,k,m,i,c,j,v,rfl,hx,hM,hF,hW,T,R,eq,l2,G,q⟩:=h;refine⟨_,(av (cu (bq u7 y (aa (Ic (aa (pv 1) (aa (pv 2) (aa (pv 3) ai)))) ai))) (av (cu (bq EK y (aa (pv 1) (aa (pv 2) (aa (pv 3) ai))))) (av (yD (pv 0) (fE K bl (pv 1)) rfl) (av (yD (pv 0) (pv 1) rfl) (av (yD (pv 0) (pv 2) rfl) (av (yD (pv 0) (pv 3) rfl) (aC (yD (pv 0) (Hv (pP dP (pv 1) (pP dP (pv 2) (pP dP (pv 3) (pP dP (bq yK y (aa (pv 1) ai)) (pP dP (bq yK y (aa (pv 2) ai)) (pP dP (bq yK y (aa (pv 3) ai)) (pP dP (bq vR y (aa (fE K bl (pv 1)) ai)) Hu))))))) rfl rfl (λz=>nomatch z) (U_ rfl)) rfl)))))))),?_⟩;have el:∀zs:Z Int,(zs.map V.int).length=zs.length:=λzs=>Ya _;have Va:=Zdo T R eq;have al:=Nz j v;refine⟨_,rfl,_,rfl,_,rfl,by show 3<=sizeLine;decide,λl nl=>?_⟩;have Q:=cY nl (.lst [.ref m,.ref i,.ref c]);refine⟨l,m,[i,c],j.length,rfl,aj.of aM,l2,G,λa A=>?_,λH2 g2=>?_⟩
 ·rcases Ys.mp A with rfl|A;·exact⟨j,aK.of (Q _ _ hM),rfl,T⟩
  ·rcases Ys.mp A with rfl|A;·exact⟨bF j v,aK.of (Q _ _ hF),by rw[al,eq],Va⟩
   ·rw[Yl] at A;subst A;exact⟨v,aK.of (Q _ _ hW),eq.symm,R⟩
 have Dr:=Q.trans g2;refine⟨_,rfl,_,rfl,_,rfl,m,i,c,j,v,rfl,aK.of (Dr _ _ hM),aK.of (Dr _ _ hF),aK.of (Dr _ _ hW),T,R,eq,G,λX g3=>?_⟩;have g:=Dr.trans g3;have Du:=g _ _ hx;have Dv:=g _ _ hM;have LF:=g _ _ hF;have LG:=g _ _ hW;have nm:m≠x:=λe=>by rw[e,Du] at Dv;cases Dv
 have nf:i≠x:=λe=>by rw[e,Du] at LF;cases LF
 have nw:c≠x:=λe=>by rw[e,Du] at LG;cases LG
 refine⟨_,rfl,m,_,rfl,.inr (aK.of Dv),_,rfl,x,C,k,_,rfl,Du,p.cls,p.v9,by decide,?_⟩;refine⟨_,rfl,_,rfl,x,C,k,_,rfl,aM,p.cls,p.Zdp,Jm (xu (Yg 0)) (by decide),?_⟩;refine⟨_,rfl,_,rfl,x,C,k,_,rfl,aM,p.cls,p.Zdq,Jm (xu (xu (Yg 0))) (by decide),?_⟩;refine⟨_,rfl,_,rfl,x,C,k,_,rfl,aM,p.cls,p.Zgr,Jm (xu (xu (xu (Yg 0)))) (by decide),?_⟩;rw[Hk,Hk,Hk,el,fs4];have LH:upd X x (.ins C k [("size",.int (j.length:Int)),("mother",.ref m),("father",.ref i),("wife",.ref c)]) x=O (.ins C k [("size",.int (j.length:Int)),("mother",.ref m),("father",.ref i),("wife",.ref c)]):=aM;have D:∀b o,X b=O o->b≠x->upd X x (.ins C k [("size",.int (j.length:Int)),("mother",.ref m),("father",.ref i),("wife",.ref c)]) b=O o:=λb o e n=>by rw[az n];exact e
 generalize upd X x (.ins C k [("size",.int (j.length:Int)),("mother",.ref m),("father",.ref i),("wife",.ref c)])=H4 at LH D⊢;have LI:=D _ _ Dv nm;have Vb:=D _ _ LF nf;have Vc:=D _ _ LG nw;intro d nd;have r:=cY nd (.dK []);have LJ:upd H4 d (.dK []) d=O (.dK []):=aM;generalize upd H4 d (.dK [])=H5 at r LJ⊢;refine⟨_,rfl,_,rfl,_,rfl,?_⟩;refine⟨_,rfl,m,j,rfl,r _ _ LI,sq G (by decide),T,λL H6 nim g6 him=>?_⟩;refine⟨_,rfl,i,bF j v,rfl,g6 _ _ (r _ _ Vb),by omega,Va,λI H7 njf g7 hjf=>?_⟩;refine⟨_,rfl,c,v,rfl,g7 _ _ (g6 _ _ (r _ _ Vc)),by omega,R,λJ H8 niw g8 hiw=>?_⟩;have Vd:=(g6.trans g7).trans g8;refine⟨_,rfl,m,_,rfl,.inr (aK.of (Vd _ _ (r _ _ LI))),j.length,by rw[el];rfl,d4 G (by decide),λst W nst N dA=>?_⟩;have t:=Vd.trans N;refine⟨t _ _ LJ,sZ m i c L I J st,rfl,by show 7<=15;decide,?_⟩;have jO:d≠x:=bW LH nd |>.symm;have Ve:=t _ _ (r _ _ LH);refine⟨_,rfl,x,C,k,_,rfl,by rw[az jO.symm];exact Ve,p.cls,p.HQ,by show 4<1000;decide,?_⟩;rw[fs5,ds7];have E:∀{b:U} {o:HO},W b=O o->b≠d->b≠x->upd (upd W d (.dK (sZ m i c L I J st))) x (.ins C k [("size",.int (j.length:Int)),("mother",.ref m),("father",.ref i),("wife",.ref c),("steps",.ref d)]) b=O o:=λ{b o} e n1 n2=>by
  rw[az n2,az n1];exact e
 have u:∀{b:U} {zs:Z Int},W b=O (.tup (zs.map V.int))->dF (upd (upd W d (.dK (sZ m i c L I J st))) x (.ins C k [("size",.int (j.length:Int)),("mother",.ref m),("father",.ref i),("wife",.ref c),("steps",.ref d)])) b zs:=λ{b zs} e=>
  E e (λz=>by rw[z,t _ _ LJ] at e;cases e) (λz=>by rw[z,Ve] at e;cases e)
 refine q _ (λb o e n=>?_) ⟨k,d,m,i,c,L,I,J,st,aM,by rw[az jO];exact aM,u (t _ _ (r _ _ LI)),u (t _ _ (r _ _ Vb)),u (t _ _ (r _ _ Vc)),u (N _ _ (g8 _ _ (g7 _ _ him))),u (N _ _ (g8 _ _ hjf)),u (N _ _ hiw),u dA⟩;have e4:=D _ _ (g _ _ e) n;refine E (t _ _ (r _ _ e4)) (bW e4 nd) n
abbrev Cs:Z af:=["mother","wife"]
def Za9:aS Cs Cs (aL GB):=.bg
def Za_(F:aP K "land_of" "land_of" GB f fd)(R:HasFn P w K mg B 2 "check_rows" ["rows"] (IC K))(Q:HasFn P w K mg B 3 "behind" oZ (Kk K))
  (ID:we P w K mg B 5 "Land" C Dq (RK C)):aH P w K mg B aO 7 f fd Cs (O6 C):=by
 refine F.o Za9 λs H r h=>?_;obtain⟨m,d,c,n,rfl,u,t,A,y,eq,I,G,q⟩:=h;refine⟨_,(av (cu (bq R r (aa (Ic (aa (pv 0) (aa (pv 1) ai))) ai))) (aC (aX (IZ ID r (by decide) rfl (aa (pv 0) (aa (bq Q r (aa (pv 1) (aa (pv 0) ai))) (aa (pv 1) ai))))))),?_⟩;refine⟨_,rfl,_,rfl,by show 2<=sizeLine;decide,λl T=>?_⟩;have v:=cY T (.lst [.ref m,.ref d]);refine⟨l,m,[d],c.length,rfl,aj.of aM,I,G,λa i=>?_,λH2 g2=>?_⟩
 ·rcases Ys.mp i with rfl|i;·exact⟨c,aK.of (v _ _ u),rfl,A⟩
  ·rw[Yl] at i;subst i;exact⟨n,aK.of (v _ _ t),eq.symm,y⟩
 have g:=v.trans g2;refine⟨_,rfl,_,rfl,_,rfl,d,m,n,c,rfl,aK.of (g _ _ t),aK.of (g _ _ u),QO,y,A,eq.symm,λfa D Vf g3 eQ=>?_⟩;have p:=g.trans g3;refine⟨_,rfl,λx k E N ne=>?_⟩;have L:upd D k (.own x) x=aI:=by rw[az (λz=>ne z.symm)];exact E
 have j:aq D (upd (upd D k (.own x)) x (.ins C k [])):=(cY N _).trans (cY L _);refine⟨x,k,m,fa,d,c,n,rfl,aM,j _ _ (p _ _ u),j _ _ eQ,j _ _ (p _ _ t),A,y,eq,I,G,λH5 X W=>⟨rfl,q x H5 (λb o e=>?_) W⟩⟩;have J:=p _ _ e;exact X b o (j _ _ J) (bW J E)
abbrev IE(a b:Z Int):Z (af×Z Int):=[("c",a),("k",bF a b),("w",b),("m",inv a),("f",inv (bF a b)),("h",inv b),("s",aE a.length)]
inductive O7(C:U)(c:Z V)(H:Hp)(Q:VK):Prop
 |mk (L:U) (z:af) (b a d:Z Int) (i:c=[.ref L,.str z]) (h:fQ H C L b a) (g:(z,d)∈IE b a) (e:∀t:U,dF H t d->Q (.ref t) H):O7 C c H Q
def RL(C:U):Sp:=λa H Q _=>O7 C a H Q
def step_at{H:Hp}{a b ns:Z Int}{z:af}{m f w g d e c:U}(h:(z,ns)∈IE a b)(p:dF H m a)(o:dF H f (bF a b))(n:dF H w b)(l:dF H g (inv a))(k:dF H d (inv (bF a b)))(j:dF H e (inv b))(i:dF H c (aE a.length)):
  ∃t,aF (sZ m f w g d e c) (.inr z)=O (.ref t)/\dF H t ns:=by
 simp[Ys,Wb,fH] at h;rcases h with⟨rfl,rfl⟩|⟨rfl,rfl⟩|⟨rfl,rfl⟩|⟨rfl,rfl⟩|⟨rfl,rfl⟩|⟨rfl,rfl⟩|⟨rfl,rfl⟩;·exact⟨m,rfl,p⟩
 ·exact⟨f,rfl,o⟩
 ·exact⟨w,rfl,n⟩
 ·exact⟨g,rfl,l⟩
 ·exact⟨d,rfl,k⟩
 ·exact⟨e,rfl,j⟩
 ·exact⟨c,rfl,i⟩
abbrev Ct:Z af:=["self","letter"]
def ZD:aS Ct Ct (aL FQ):=.bg
def ZeL(F:aP K "step" "Land.step" FQ f fd)(a:yU K C):aH P w K mg B aO 1 f fd Ct (RL C):=by
 refine F.o ZD λs H b h=>?_;obtain⟨L,z,D,A,G,rfl,i,j,q⟩:=h;refine⟨_,(av (bw (mV (vD (bu b) (pv 1) (pF K 0)) QU) iF bI) (aC (aX (dD (bu b) (pF K 0) (pv 1) (λ_ _=>rfl))))),?_⟩;obtain⟨e,d,m,Q,E,N,I,J,st,c,y,x,v,u,r,p,o,n⟩:=i;obtain⟨t,k,l⟩:=step_at j x v u r p o n;have g:=k▸eY.k y;exact⟨_,rfl,_,rfl,L,C,e,_,.ref d,rfl,c,a.cls,a.HQ,rfl,d,_,rfl,g,_,rfl,dh (bJ ⟨_,rfl,L,C,e,_,.ref d,rfl,c,a.cls,a.HQ,rfl,_,rfl,d,_,rfl,g,q t l⟩)⟩
structure JS where
 hd:Z Nat
 ld:Z (Z Int)
 mem:Z (Nat×Z Nat)
 fr:Z (Nat×Z Int)
structure JL where
 J:U
 ha:U
 la:U
 md:U
 fd:U
 fN:Z U
 gq:Z U
 bL:Z U
def JL.fp(l:JL):Z U:=l.J::l.ha::l.la::l.md::l.fd::l.gq
abbrev JF(n:Nat)(c b a fd:U):Z (af×V):=[("size",.int (n:Int)),("heads",.ref c),("leads",.ref b),("members",.ref a),("free",.ref fd)]
def jf5(a b c d e:V):cy "free" e (cy "members" d (cy "leads" c (cy "heads" b (cy "size" a []))))=([("size",a),("heads",b),("leads",c),("members",d),("free",e)]:Z (af×V)):=rfl
abbrev eC(a:Z Nat):Z V:=a.map λi:Nat=>V.int (i:Int)
def bj(a:Z Nat)(b:Z U):Z (Key×V):=(a.zip b).map λp=>(.inl (p.1:Int),.ref p.2)
structure bU(H:Hp)(C:U)(n:Nat)(l:JL)(st:JS):Prop where
 obj:∃dx,H l.J=O (.ins C dx (JF n l.ha l.la l.md l.fd))
 heads:H l.ha=O (.lst (eC st.hd))
 gk:H l.la=O (.lst (l.fN.map V.ref))
 lead:Paired (λa xs=>H a=O (.tup (xs.map V.int))) l.fN st.ld
 iJ:H l.md=O (.dK (bj (st.mem.map (·.1)) l.gq))
 mem:Paired (λa p=>H a=O (.lst (eC p.2))) l.gq st.mem
 frees:H l.fd=O (.dK (bj (st.fr.map (·.1)) l.bL))
 free:Paired (λa p=>H a=O (.lst (p.2.map V.int))) l.bL st.fr
 nd:l.fp.Nodup
 out:∀a∈l.bL,a∉l.fp
def bU.same(g:aq H c)(a:bU H C n l st):bU c C n l st:=
 ⟨let⟨b,h⟩:=a.obj;⟨b,g _ _ h⟩,g _ _ a.heads,g _ _ a.gk,L2.Paired.aW a.lead λ _ _=>g _ _,g _ _ a.iJ,L2.Paired.aW a.mem λ _ _=>g _ _,g _ _ a.frees,L2.Paired.aW a.free λ _ _=>g _ _,a.nd,a.out⟩
theorem yd:∀{a:Z α} {b:Z β} {x:α},Paired F a b->x∈a->∃y,F x y:=by
 intro a b x p;induction p with
 |nil=>grind
 |cons f t c=>grind
def bU.ne(a:bU H C n l st)(h:H p=aI):p∉l.fp:=by
 intro z;unfold JL.fp at z;simp[Ys] at z;rcases z with rfl|rfl|rfl|rfl|rfl|z
 ·obtain⟨b,e⟩:=a.obj
  grind
 ·rw[a.heads] at h;cases h
 ·rw[a.gk] at h;cases h
 ·rw[a.iJ] at h;cases h
 ·rw[a.frees] at h;cases h
 ·obtain⟨y,e⟩:=yd a.mem z
  grind
theorem pM{g:Type}{H:Hp}{f:g->HO}:∀{as:Z U} {c:Z (Nat×g)} {k:Nat} {v:g},Paired (λa p=>H a=O (f p.2)) as c->c.lookup k=O v->∃a,a∈as/\aF (bj (c.map (·.1)) as) (.inl (k:Int))=O (.ref a)/\H a=O (f v):=by
 intro as c k v j;induction j with
 |nil=>grind
 |@cons a p as c e t l=>
  intro h;have n:bj ((p::c).map (·.1)) (a::as)=(Sum.inl (p.1:Int),V.ref a)::bj (c.map (·.1)) as:=rfl;rw[Jw] at h;by_cases d:k=p.1
  ·have i:=beq_iff_eq.mpr d;rw[i] at h;exact⟨a,Yj,gY (by rw[d]),by rwa[←(Yr h)]⟩
  ·have i:=beq_eq_false_iff_ne.mpr d;rw[i] at h;obtain⟨b,m,q,w⟩:=l h;refine⟨b,Yv _ m,?_,w⟩;rw[n,jx (λz=>d (by have:=Dw z;exact kh (km this)))];exact q
def Zdr{q k:Nat}(z:((Sum.inl (q:Int):Key),v).1=.inl (k:Int)):k∈q::ks:=by
 grind
theorem AZ:∀{as:Z U} {b:Z Nat} {k:Nat},k∉b->aF (bj b as) (.inl (k:Int))=aI
 |[],b,k,_=>by unfold bj;rw[Dp];rfl
 |a::as,[],k,_=>rfl
 |a::as,q::b,k,h=>by
  have c:bj (q::b) (a::as)=(Sum.inl (q:Int),V.ref a)::bj b as:=rfl;rw[c,jx (λz=>h (Zdr z))];exact AZ λz=>h (Yv _ z)
theorem AN:∀{c:Z Nat} {as:Z U} (k:Nat) (a:U),c.length=as.length->bj c as++[(.inl (k:Int),.ref a)]=bj (c++[k]) (as++[a])
 |[],[],_,_,_=>rfl
 |q::c,b::as,k,a,h=>by
  have d:bj (q::c) (b::as)=(Sum.inl (q:Int),V.ref b)::bj c as:=rfl;rw[d,Vg,(AN k a (by simpa using h))];rfl
 |[],_::_,_,_,h=>by simp at h
 |_::_,[],_,_,h=>by simp at h
structure oE(K:ae)(C:U):Prop where
 cls:gn K C
 v9:c9 K C "size"
 kJ:c9 K C "heads"
 oz:c9 K C "leads"
 vF:c9 K C "members"
 s_:c9 K C "free"
def JS.more(n:Nat)(a:JS):JS:=⟨a.hd++[a.hd.length],a.ld++[aE n],a.mem++[(a.hd.length,[a.hd.length])],a.fr++[(a.hd.length,aE n)]⟩
inductive Qk(C:U)(c:Z V)(H:Hp)(Q:VK)(E:XK):Prop
 |mk (x d:U) (n:Nat) (h:c=[.ref x,.int (n:Int)]) (g:H x=O (.ins C d [])) (e:∀(l:JL) (a:Hp),l.J=x->l.gq=[]->(∀b∈l.fp,b≠x->H b=aI)->aA x H a->bU a C n l ⟨[],[],[],[]⟩->Q .aB a)
inductive Gj(C:U)(c:Z V)(H:Hp)(Q:VK)(E:XK):Prop
 |mk (l:JL) (st:JS) (n i j a b:Nat) (k:c=[.ref l.J,.int (i:Int),.int (j:Int)]) (h:bU H C n l st) (g:st.hd[i]?=O a) (e:st.hd[j]?=O b) (d:Q (.bl (decide (a=b))) H)
inductive Ba(C:U)(d:Z V)(H:Hp)(Q:VK)(E:XK):Prop
 |mk (l:JL) (st:JS) (n i h:Nat) (t a:Z Int) (r:d=[.ref l.J,.int (i:Int)]) (q:bU H C n l st) (o:st.hd[i]?=some h) (m:st.ld[i]?=some t) (k:st.fr.lookup h=some a) (j:(∀z∈a,0<=z/\z<t.length)) (g:a.length<64) (e:∀(p:U) (b:Z Int) (c:Hp),H p=none->aq H c->b.Perm (a.map λz=>t.getD z.toNat 0)->b.Pairwise (·<=·)->c p=O (.lst (b.map V.int))->Q (.ref p) c)
inductive JE(C:U)(d:Z V)(H:Hp)(Q:VK)(E:XK):Prop
 |mk (l:JL) (st:JS) (n:Nat) (p:d=[.ref l.J]) (o:bU H C n l st) (m:n<=1000) (k:st.hd.length<1000) (j:st.mem.length<=st.hd.length) (i:st.fr.length<=st.hd.length) (h:st.ld.length=st.hd.length) (g:st.hd.length∉st.mem.map (·.1)) (e:st.hd.length∉st.fr.map (·.1)) (q:∀(a:JL) (c:Hp),a.J=l.J->Out l.fp H c->(∀b∈a.fp,b∈l.fp\/H b=aI)->bU c C n a (st.more n)->Q (.int (st.hd.length:Int)) c)
def pV{i h:Nat}(e:is[i]?=O h):fM (eC is) (i:Int)=O (.int (h:Int)):=eA (by rw[Yi,e];rfl)
abbrev Cu:Z af:=["self","size"]
def Zh:aS Cu Cu (aL Fm):=.bg
theorem Zds(F:aP K "__init__" "Joins.__init__" Fm f fd)(c:oE K C)(bl:Bl mg):aH P w K mg B aO 1 f fd Cu (Qk C):=by
 refine F.o Zh λs H hr h=>?_;obtain⟨x,j,n,rfl,hx,q⟩:=h;refine⟨_,(av (g_ (K:=K) rfl (pv 0) (pv 1)) (av (g_ (K:=K) rfl (pv 0) (eG ai)) (av (g_ (K:=K) rfl (pv 0) (eG ai)) (av (g_ (K:=K) rfl (pv 0) sF) (aC (g_ (K:=K) rfl (pv 0) sF)))))),?_⟩;refine⟨_,rfl,_,rfl,x,C,j,[],rfl,hx,c.cls,c.v9,by show 0<1000;decide,λH1 L h1=>?_⟩;refine⟨by show 0<=sizeLine;exact Yx _,λp H2 E G e2=>⟨_,rfl,x,C,j,_,rfl,G _ _ h1,c.cls,c.kJ,by show 1<1000;decide,λH3 J h3=>?_⟩⟩;refine⟨by show 0<=sizeLine;exact Yx _,λla H4 m v e4=>⟨_,rfl,x,C,j,_,rfl,v _ _ h3,c.cls,c.oz,by show 2<1000;decide,λH5 A h5=>?_⟩⟩;refine λmd H6 i r e6=>⟨_,rfl,x,C,j,_,rfl,r _ _ h5,c.cls,c.vF,by show 3<1000;decide,λH7 u h7=>?_⟩;refine λfe H8 g g8 e8=>⟨_,rfl,x,C,j,_,rfl,g8 _ _ h7,c.cls,c.s_,by show 4<1000;decide,λH9 b9 h9=>?_⟩;rw[jf5] at h9;have T:aA x H8 H9:=b9;have W:aA x H6 H9:=u.trans ((aA.of g8).trans T);have X:aA x H4 H9:=A.trans ((aA.of r).trans W);have k2:aA x H2 H9:=J.trans ((aA.of v).trans X);have k0:aA x H H9:=L.trans ((aA.of G).trans k2);have l:p≠x:=λz=>by rw[z,h1] at E;cases E
 have t:la≠x:=λz=>by rw[z,h3] at m;cases m
 have y:md≠x:=λz=>by rw[z,h5] at i;cases i
 have I:fe≠x:=λz=>by rw[z,h7] at g;cases g
 have i3:=J _ _ e2 l;have i5:=A _ _ (v _ _ i3) l;have i7:=u _ _ (r _ _ i5) l;have j5:=A _ _ e4 t;have j7:=u _ _ (r _ _ j5) t;have l7:=u _ _ e6 y;have a1:p≠la:=λz=>by rw[←z,i3] at m;cases m
 have a2:p≠md:=λz=>by rw[←z,i5] at i;cases i
 have a3:p≠fe:=λz=>by rw[←z,i7] at g;cases g
 have a4:la≠md:=λz=>by rw[←z,j5] at i;cases i
 have a5:la≠fe:=λz=>by rw[←z,j7] at g;cases g
 have a6:md≠fe:=λz=>by rw[←z,l7] at g;cases g
 have D:∀{b:U} {N:Hp},aA x H N->b≠x->N b=aI->H b=aI:=λ{b N} k d n=>by
  cases e:H b with
  |none=>rfl
  |some o=>rw[k b o e d] at n;cases n
 have R:aA x H H3:=L.trans ((aA.of G).trans J);have Q:aA x H H5:=R.trans ((aA.of v).trans A);have t7:aA x H H7:=Q.trans ((aA.of r).trans u);refine q ⟨x,p,la,md,fe,[],[],[]⟩ H9 rfl rfl (λb hb nb=>?_) k0 ⟨⟨j,h9⟩,k2 _ _ e2 l,X _ _ e4 t,.nil,W _ _ e6 y,.nil,T _ _ e8 I,.nil,?_,λa xv=>by cases xv⟩
 ·simp only[JL.fp,Ys,Wb,fH] at hb;rcases hb with rfl|rfl|rfl|rfl|rfl;·exact absurd rfl nb
  ·exact D L l E
  ·exact D R t m
  ·exact D Q y i
  ·exact D t7 I g
 ·simp only[JL.fp,Y4,Ys,Wb,fH,iK,J5,Jf,and_true];exact⟨⟨λz=>l z.symm,λz=>t z.symm,λz=>y z.symm,λz=>I z.symm⟩,⟨a1,a2,a3⟩,⟨a4,a5⟩,a6⟩
abbrev rq:Z af:=["self","one","other"]
def XW:aS rq rq (aL Ex):=.bg
def Zah(F:aP K "together" "Joins.together" Ex f fd)(c:oE K C)(v:Bl mg):aH P w K mg B aO 1 f fd rq (Gj C):=by
 refine F.o XW @λx A d t Q E s H u h=>?_;obtain⟨l,st,n,i,j,a,b,rfl,g,r,p,q⟩:=h;refine⟨_,(aC (aX (iW dv (bO (iL K) (pF K 0) (pv 1)) (bO (iL K) (pF K 0) (pv 2))))),?_⟩;obtain⟨m,k⟩:=g.obj;have o:Q (.bl (decide (V.int (a:Int)=V.int (b:Int)))) H:=by
  have e:decide (V.int (a:Int)=V.int (b:Int))=decide (a=b):=by
   rw[Wu,fb,fb];exact⟨λz=>by have:=V.int.inj z;exact km this,λz=>by rw[z]⟩
  rwa[e]
 exact⟨_,rfl,l.J,C,m,_,_,rfl,k,c.cls,c.kJ,rfl,_,rfl,l.ha,_,_,_,rfl,rfl,aj.of g.heads,pV r,_,rfl,l.J,C,m,_,_,rfl,k,c.cls,c.kJ,rfl,_,rfl,l.ha,_,_,_,rfl,rfl,aj.of g.heads,pV p,rfl,o⟩
def gf{H:Hp}(h:H a=O o)(e:H b=O c)(d:o≠c):a≠b:=λz=>by
 grind
def Zdt(a:Z Nat)(k:Nat):eC (a++[k])=eC a++[.int (k:Int)]:=Yt
def sr{H:Hp}(h:H a=O o)(c:H b=aI):b≠a:=λz=>by
 grind
theorem pK(f:F x y)(h:Paired F xs a):Paired F (xs++[x]) (a++[y]):=by
 induction h with
 |nil=>exact .cons f .nil
 |cons r t b=>exact .cons r b
theorem vG{e d:Type}{F:e->d->Prop}:∀{c:Z e} {i:Z d},Paired F c i->Paired (λa b=>F a b/\a∈c) c i
 |_,_,.nil=>.nil
 |_,_,.cons g t=>.cons ⟨g,Yj⟩ (L2.Paired.aW (vG t) λ_ _ h=>⟨h.1,Yv _ h.2⟩)
def v_(h:H a=O (.dK b))(e:aF b (.inl (k:Int))=o):eY H a (.int (k:Int)) o:=.inl ⟨b,.inl (k:Int),.inl h,rfl,e.symm⟩
abbrev ze:Z af:=["self","one"]
def MJ:aS ["self","one","lead"] ze (aL EE):=.bg
def Zba(F:aP K "open_at" "Joins.open_at" EE f fd)(b:oE K C)(bl:Bl mg):aH P w K mg B aO 2 f fd ze (Ba C):=by
 refine F.o MJ λs H T h=>?_;obtain⟨l,st,n,i,h,t,d,rfl,a,hi,R,hf,J,dY,q⟩:=h;refine⟨_,(av (fh (i:=2) MJ.nd rfl (fI rfl) (bO (iL K) (pF K 0) (pv 1))) (aC (aX (gW (ZcW (K:=K) rfl) rfl bl.vJ vB (aa (jz (x:="section") (fr:=[("lead",2)]) (cl:=[("lead",s.heap.objs.size+1)]) rfl (.fD ⟨rfl,trivial⟩ ⟨⟨rfl,.inl rfl,.inl rfl,rfl⟩,trivial⟩) (eR (K:=K) rfl (dD (bu T) (pF K 0) (bO (iL K) (pF K 0) (pv 1)) (λ_ _=>rfl))) (λ_ _ _ _=>lN) (λ_ _ _ _=>(bO (iT K) (pv 1) (pv 0)))) ai))))),?_⟩;obtain⟨o,g⟩:=a.obj;obtain⟨fa,Vh,G,A⟩:=pM (f:=λv:Z Int=>HO.lst (v.map V.int)) a.free hf;obtain⟨c,m,LK⟩:∃c,l.fN[i]?=O c/\H c=O (.tup (t.map V.int)):=by
  have W:=dC a.lead;have dB:i<l.fN.length:=by exact W▸(Yf.mp R).1
  obtain⟨y,ey,u⟩:=kF a.lead (Yb dB)
  grind
 have LL:fM (l.fN.map V.ref) (i:Int)=O (.ref c):=eA (by rw[Yi,m];rfl);refine bT ?_;refine⟨_,rfl,l.J,C,o,_,_,rfl,g,b.cls,b.oz,rfl,_,rfl,l.la,_,_,_,rfl,rfl,aj.of a.gk,LL,?_⟩;refine⟨_,rfl,l.J,C,o,_,_,rfl,g,b.cls,b.s_,rfl,_,rfl,l.J,C,o,_,_,rfl,g,b.cls,b.kJ,rfl,_,rfl,l.ha,_,_,_,rfl,rfl,aj.of a.heads,pV hi,l.fd,_,rfl,v_ a.frees G,fa,rfl,⟨_,aj.of A⟩,λD hD=>ZaR (aj.of A) (by rw[Ya];omega) hD (λv=>match v with|.int z=>.int (t.getD z.toNat 0)|_=>.aB) (λj v X r e Kt k=>?_) λr e h1=>?_⟩
 ·obtain⟨z,rfl,Q⟩:=ou X;have E:=J z (Ym Q);exact⟨_,rfl,_,rfl,c,_,_,_,rfl,rfl,aK.of (e _ _ LK),qY E.1 E.2,k r (aq.refl _)⟩
 ·have u:r D=O (.lst ((d.map λz=>t.getD z.toNat 0).map V.int)):=by
   rw[h1,Y0,Y0];rfl
  exact⟨D,_,rfl,.inl (aj.of u),by rwa[Ya],λdU L I p H2 N g2 h2=>q p dU H2 (e.free N) (e.trans g2) L I h2⟩
abbrev nj:Z af:=["self"]
def MW:aS ["self","number"] nj (aL FR):=.bg
theorem Zgt(F:aP K "add" "Joins.add" FR f fd)(d:oE K C)(vR:HasFn P w K mg B 1 "still" ["size"] HP)(bl:Bl mg):aH P w K mg B aO 2 f fd nj (JE C):=by
 refine F.o MW λs H hr h=>?_;obtain⟨l,st,n,rfl,c,hn,lh,lm,lf,ll,nm,nf,q⟩:=h;refine⟨_,(av (cF 1 MW.nd (fE K bl (pF K 0))) (av (cu (sW (K:=K) rfl (rf k9 lG lr vm (pF K 0) (aa (pv 1) ai)))) (av (cu (sW (K:=K) rfl (rf k9 lG lr vm (pF K 0) (aa (bq vR hr (aa (pF K 0) ai)) ai)))) (av (oi (bu hr) (pF K 0) (pv 1) (eG (aa (pv 1) ai))) (av (oi (bu hr) (pF K 0) (pv 1) (jv (YO rfl) rfl bl.yI yt (aa (jv MV rfl bl.oy A6 (aa (pF K 0) ai)) ai))) (aC (aX (pv 1)))))))),?_⟩;have sz:(10000:Nat)<=sizeLine:=by rw[c7];decide
 obtain⟨A,ho⟩:=c.obj;have hl:(eC st.hd).length=st.hd.length:=Ya _;have pl1:=dC c.lead;have zW:=dC c.mem;have Dy:=dC c.free;have T:=c.nd;simp only[JL.fp,Y4,Ys,iK] at T;obtain⟨⟨x1,x2,x3,x4,x5⟩,⟨Q,N,y3,y4⟩,⟨z1,z2,z3⟩,⟨w1,w2⟩,v1,v2⟩:=T;have dl:∀{ks:Z Nat} {as:Z U},(bj ks as).length<=as.length:=λ{ks as}=>by unfold bj;rw[Ya,Wy];exact Uz _ _
 refine bT ?_;refine⟨_,rfl,l.J,C,A,_,_,rfl,ho,d.cls,d.kJ,rfl,l.ha,_,rfl,.inl (aj.of c.heads),?_⟩;rw[hl];refine⟨_,rfl,l.J,C,A,_,_,rfl,ho,d.cls,d.kJ,rfl,.inl ⟨rfl,_,aj.of c.heads⟩,_,rfl,l.ha,_,_,rfl,rfl,c.heads,by rw[hl];omega,λH1 v e1=>?_⟩;have o1:=v _ _ ho x1;have W:=v _ _ c.gk (λz=>Q z.symm);refine⟨_,rfl,l.J,C,A,_,_,rfl,o1,d.cls,d.oz,rfl,.inl ⟨rfl,_,aj.of W⟩,_,rfl,l.J,C,A,_,_,rfl,o1,d.cls,d.v9,rfl,n,rfl,hn,λt H2 nt k ht=>?_⟩;refine⟨l.la,_,_,rfl,rfl,k _ _ W,by rw[Ya];omega,λH3 u e3=>?_⟩;have o3:=u _ _ (k _ _ o1) x2;have m3:=u _ _ (k _ _ (v _ _ c.iJ (λz=>N z.symm))) (λz=>z1 z.symm);refine⟨_,rfl,by show 1<=sizeLine;decide,λm H4 I j em=>?_⟩;have o4:=j _ _ o3;refine⟨_,rfl,l.J,C,A,_,_,rfl,o4,d.cls,d.vF,rfl,_,rfl,l.md,_,.inl (st.hd.length:Int),rfl,j _ _ m3,rfl,?_,λH5 g e5=>?_⟩
 ·have:=dl (ks:=st.mem.map (·.1)) (as:=l.gq);omega
 have R:=g _ _ o4 x3;refine⟨_,rfl,l.J,C,A,_,_,rfl,R,d.cls,d.v9,rfl,(n:Int),rfl,λr D nr x er=>⟨r,n,rfl,er,hn,λfa H7 Vf g7 ef=>?_⟩⟩;have Dz:=x.trans g7;have f5:=g _ _ (j _ _ (u _ _ (k _ _ (v _ _ c.frees (λz=>y3 z.symm))) (λz=>z2 z.symm))) (λz=>w1 z.symm);refine⟨_,rfl,l.J,C,A,_,_,rfl,Dz _ _ R,d.cls,d.s_,rfl,_,rfl,l.fd,_,.inl (st.hd.length:Int),rfl,Dz _ _ f5,rfl,?_,λi b8 e8=>?_⟩
 ·have:=dl (ks:=st.fr.map (·.1)) (as:=l.bL);omega
 have keep:∀b o,H b=O o->b≠l.ha->b≠l.la->b≠l.md->b≠l.fd->i b=O o:=λb o e n1 n2 n3 n4=>b8 _ _ (Dz _ _ (g _ _ (j _ _ (u _ _ (k _ _ (v _ _ e n1)) n2)) n3)) n4;rw[kG _ (AZ nm),AN _ _ (by rw[Ya];exact kh zW)] at e5;rw[kG _ (AZ nf),AN _ _ (by rw[Ya];exact kh Dy)] at e8;have LM:H m=aI:=by
  cases e:H m with
  |none=>rfl
  |some o=>
   have hm1:m≠l.ha:=λz=>by rw[z,u _ _ (k _ _ e1) Q] at I;cases I
   have LA:m≠l.la:=λz=>by rw[z,e3] at I;cases I
   rw[u _ _ (k _ _ (v _ _ e hm1)) LA] at I;cases I
 have en:=c.ne LM;have zX:fa∉l.fp/\fa≠m:=by
  have G:D fa=aI:=Vf;have h5:∀b o,H b=O o->b≠l.ha->b≠l.la->b≠l.md->D b=O o:=λb o e n1 n2 n3=>x _ _ (g _ _ (j _ _ (u _ _ (k _ _ (v _ _ e n1)) n2)) n3);have f1:D l.ha=O _:=x _ _ (g _ _ (j _ _ (u _ _ (k _ _ e1) Q)) N);have f2:D l.la=O _:=x _ _ (g _ _ (j _ _ e3) z1);have f3:D l.md=O _:=x _ _ e5;have f4:D m=O _:=x _ _ (g _ _ em (λz=>en (by rw[z];simp[JL.fp])));have f5':D l.fd=O _:=x _ _ f5;have f6:D l.J=O _:=x _ _ R;refine⟨λz=>?_,sr f4 G⟩;simp only[JL.fp,Ys] at z;rcases z with z|z|z|z|z|z;·exact sr f6 G z
  ·exact sr f1 G z
  ·exact sr f2 G z
  ·exact sr f3 G z
  ·exact sr f5' G z
  ·obtain⟨y,ey⟩:=yd c.mem z;refine sr (h5 _ _ ey ?_ ?_ ?_) G rfl;·exact λq=>y4 (by rw[←q];exact z)
   ·exact λq=>z3 (by rw[←q];exact z)
   ·exact λq=>w2 (by rw[←q];exact z)
 have kt:∀a∈l.fN,∀E:Z Int,H a=O (.tup (E.map V.int))->i a=O (.tup (E.map V.int)):=λa _ E e=>keep a _ e (gf e c.heads (λz=>by cases z)) (gf e c.gk (λz=>by cases z)) (gf e c.iJ (λz=>by cases z)) (gf e c.frees (λz=>by cases z));have J:∀b o,H5 b=O o->b≠l.fd->i b=O o:=λb o e n=>b8 _ _ (Dz _ _ e) n;have nmd:m≠l.md:=λz=>en (by rw[z];simp[JL.fp]);have nmf:m≠l.fd:=λz=>en (by rw[z];simp[JL.fp]);have ntf:t≠l.fd:=λz=>by
  have:=v _ _ c.frees (λz=>y3 z.symm);rw[←z,nt] at this;cases this
 have LN:t≠l.la:=λz=>by rw[←z,nt] at W;cases W
 have Vi:t≠l.md:=λz=>by
  have:=v _ _ c.iJ (λz=>N z.symm);rw[←z,nt] at this;cases this
 refine⟨_,rfl,q ⟨l.J,l.ha,l.la,l.md,l.fd,l.fN++[t],l.gq++[m],l.bL++[fa]⟩ i rfl (λb o e L=>?_) (λb X=>?_) ⟨⟨A,J _ _ R x4⟩,?_,?_,?_,?_,?_,?_,?_,?_,?_⟩⟩
 ·simp only[JL.fp,Ys,iK] at L;exact keep b o e L.2.1 L.2.2.1 L.2.2.2.1 L.2.2.2.2.1
 ·simp only[JL.fp,Ys,Yu,Wb,fH] at X⊢;rcases X with h|h|h|h|h|h|h;·exact .inl (.inl h)
  ·exact .inl (.inr (.inl h))
  ·exact .inl (.inr (.inr (.inl h)))
  ·exact .inl (.inr (.inr (.inr (.inl h))))
  ·exact .inl (.inr (.inr (.inr (.inr (.inl h)))))
  ·exact .inl (.inr (.inr (.inr (.inr (.inr h)))))
  ·rw[h];exact .inr LM
 ·show i l.ha=O (.lst (eC (st.hd++[st.hd.length])));rw[J _ _ (g _ _ (j _ _ (u _ _ (k _ _ e1) Q)) N) y3,Zdt]
 ·show i l.la=O (.lst ((l.fN++[t]).map V.ref));rw[J _ _ (g _ _ (j _ _ e3) z1) z2,Yt];rfl
 ·exact pK (F:=λa (E:Z Int)=>i a=O (.tup (E.map V.int))) (J _ _ (g _ _ (j _ _ (u _ _ ht LN)) Vi) ntf) (L2.Paired.aW (vG c.lead) λa E h=>kt a h.2 E h.1)
 ·show i l.md=O (.dK (bj ((st.mem++[(st.hd.length,[st.hd.length])]).map (·.1)) (l.gq++[m])));rw[J _ _ e5 w1,Yt];rfl
 ·refine pK (F:=λa (p:Nat×Z Nat)=>i a=O (.lst (eC p.2))) (J _ _ (g _ _ em nmd) nmf) (L2.Paired.aW (vG c.mem) λa p h=>keep a _ h.1 ?_ ?_ ?_ ?_);·exact λz=>y4 (by rw[←z];exact h.2)
  ·exact λz=>z3 (by rw[←z];exact h.2)
  ·exact λz=>w2 (by rw[←z];exact h.2)
  ·exact λz=>v1 (by rw[←z];exact h.2)
 ·show i l.fd=O (.dK (bj ((st.fr++[(st.hd.length,aE n)]).map (·.1)) (l.bL++[fa])));rw[e8,Yt];rfl
 ·have nfd:fa≠l.fd:=λz=>zX.1 (by rw[z];simp[JL.fp]);refine pK (F:=λa (p:Nat×Z Int)=>i a=O (.lst (p.2.map V.int))) (b8 _ _ ef nfd) (L2.Paired.aW (vG c.free) λa p h=>?_);have no:=c.out a h.2;simp only[JL.fp,Ys,iK] at no;exact keep a _ h.1 no.2.1 no.2.2.1 no.2.2.2.1 no.2.2.2.2.1
 ·have T:=c.nd;have e0:JL.fp ⟨l.J,l.ha,l.la,l.md,l.fd,l.fN++[t],l.gq++[m],l.bL++[fa]⟩=l.fp++[m]:=rfl;rw[e0,Wp];refine⟨T,QS,λa ha b X=>?_⟩;have eb:b=m:=by simpa using X
  intro z;rw[z,eb] at ha;exact en ha
 ·intro a ha;have e0:JL.fp ⟨l.J,l.ha,l.la,l.md,l.fd,l.fN++[t],l.gq++[m],l.bL++[fa]⟩=l.fp++[m]:=rfl;rw[e0,Yu];have xv:a∈l.bL++[fa]:=ha;rcases Yu.mp xv with h|h
  ·rintro(z|z);·exact c.out a h z
   ·have e:a=m:=by simpa using z
    obtain⟨y,ey⟩:=yd c.free h;rw[e,LM] at ey;cases ey
  ·have e:a=fa:=by simpa using h
   rw[e];rintro(z|z);·exact zX.1 z
   ·exact zX.2 (by simpa using z)
def Zbb{K:ae}{a:U}{ns:Z Int}{t:TT}{u:TE}{r:St}{D:U}{H:Hp}{Q:VK}(L:aj K H a (ns.map V.int))(R:ns.length<=1000)(x:H D=aI)(p:Int->bA)(g:Int->V)
  (k:∀z∈ns,∀d,aq H d->∀(E:VK) (F:Hp->Prop),(p z=ar->∀h,aq d h->E (g z) h)->(p z=aY->∀h,aq d h->F h)->t (O (.int z)::r) d λc G=>if c=ar then u (O (.int z)::r) G E else F G)
  (P:∀s,aq H s->s D=O (.lst ((ns.filter p).map g))->Q (.ref D) s):kM (kg K a) t u r D H Q:=by
 refine Gx (λi j d=>i<=ns.length/\aq H d/\d D=O (.lst j)/\j=((ns.take i).filter p).map g) ⟨Yx _,cY x _,aM,rfl⟩ (λi j d _ ⟨_,m,_,_⟩=>m.seq L) ?_ ?_
 ·rintro i v j d N ⟨_,m,y,e⟩;obtain⟨z,rfl,n⟩:=ou N;have A:=(Yf.mp n).1;have I:j.length<sizeLine:=by
   have:=Y3 p (ns.take i);rw[Wi] at this;rw[e,Ya,c7];omega
  refine k z (Ym n) d m _ _ (λJ h l=>⟨l _ _ y,I,A,λb o q=>?_,aM,?_⟩) (λJ h l=>⟨A,m.trans l,l _ _ y,?_⟩)
  ·rw[az (bW q x)];exact l _ _ (m _ _ q)
  ·rw[e,Y8,n,Wj,Yt]
   grind
  ·rw[e,Y8,n,Wj,Yt]
   grind
 ·grind
theorem Bn(x:Int):∀a:Z Int,fS (.int x) (a.map V.int)=decide (x∈a)
 |[]=>rfl
 |s::a=>by
  have b:=Bn x a;unfold fS at b⊢;rw[Wv,Ju,b];show((s==x)||decide (x∈a))=_
  grind
def G4(a:Z Int):(a.map V.int).all jD=ar:=by
 rw[Lk,W3];intro p _;rfl
def jK(a:Z Nat)(b:Z U)(h:Nat)(c:U):Z U:=(a.zip b).map λp=>if p.1=h then c else p.2
theorem Oj(h:Nat)(a':U):∀{b:Z Nat} {as:Z U},b.length=as.length->(bj b as).map (λc=>if c.1=(.inl (h:Int):Key) then(c.1,V.ref a') else c)=bj b (jK b as h a')
 |[],[],_=>rfl
 |k::b,a::as,e=>by
  have d:=Oj h a' (by simpa using e);have j:bj (k::b) (a::as)=(Sum.inl (k:Int),V.ref a)::bj b as:=rfl;have i:jK (k::b) (a::as) h a'=(if k=h then a' else a)::jK b as h a':=rfl;have g:bj (k::b) ((if k=h then a' else a)::jK b as h a')=(Sum.inl (k:Int),V.ref (if k=h then a' else a))::bj b (jK b as h a'):=rfl
  grind
 |[],_::_,e=>rfl
 |_::_,[],e=>rfl
def Zdu{h:Nat}(e:b.length=as.length)(d:aF (bj b as) (.inl (h:Int))=O (.ref a)):putK (bj b as) (.inl (h:Int)) (.ref c)=bj b (jK b as h c):=by
 unfold putK;rw[br (by rw[A7,d];rfl)];exact Oj h c e
def fq{a:Type}(h:Nat)(v:a)(b:Z (Nat×a)):Z (Nat×a):=b.map λp=>if p.1=h then(p.1,v) else p
theorem sG{b:Type}(h:Nat)(v:b):∀a:Z (Nat×b),(fq h v a).map (·.1)=a.map (·.1)
 |[]=>rfl
 |p::a=>by
  have c:=sG h v a;show(if p.1=h then(p.1,v) else p).1::(fq h v a).map (·.1)=_
  grind
theorem Zbc{v:α}(g:∀k,G m (k,v)):∀{d:Z U} {c:Z (Nat×α)},Paired F d c->(∀a p,F a p->a∈d->G a p)->Paired G (jK (c.map (·.1)) d h m) (fq h v c):=by
 intro d c e;induction e with
 |nil=>intro _;exact .nil
 |@cons a p d c f t i=>
  intro k;refine .cons ?_ (i λb q l j=>k b q l (Yv _ j))
  grind
theorem O8{h:Nat}{e b:U}:∀{d:Z Nat} {c:Z U},b∈jK d c h e->b=e\/b∈c
 |[],_,m=>by unfold jK at m;simp at m
 |_::_,[],m=>by unfold jK at m;simp at m
 |k::d,a::c,m=>by
  rcases Ys.mp m with z|z;·grind
  ·rcases O8 z with w|w;·exact .inl w
   ·grind
def JS.lV(a:JS)(h:Nat)(v:Z Int):JS:={a with fr:=fq h v a.fr}
structure t9(st:JS)(i h:Nat)(t eH:Z Int):Prop where
 hd:st.hd[i]?=O h
 ld:st.ld[i]?=O t
 fr:st.fr.lookup h=O eH
 cR:∀z∈eH,0<=z/\z<t.length
 kr:eH.length<64
 dist:(eH.map λz=>t.getD z.toNat 0).Nodup
inductive G5(K:ae)(C:U)(g:Z V)(H:Hp)(Q:VK)(E:XK):Prop
 |mk (l:JL) (st:JS) (n i h:Nat) (t a d:Z Int) (e:U) (q:g=[.ref l.J,.int (i:Int),.ref e]) (p:bU H C n l st) (o:t9 st i h t a) (m:st.fr.length<1000) (k:aj K H e (d.map V.int)) (j:∀(b:JL) (c:Hp),b.J=l.J->b.fp=l.fp->Out l.fp H c->bU c C n b (st.lV h (a.filter λz=>decide (t.getD z.toNat 0∈d)))->Q .aB c)
abbrev Cv:Z af:=["self","one","sections"]
def EL:aS ["self","one","sections","lead","head"] Cv (aL EV):=.bg
def Zb9(F:aP K "narrow" "Joins.narrow" EV f fd)(g:oE K C)(bl:Bl mg):aH P w K mg B aO 2 f fd Cv (G5 K C):=by
 refine F.o EL λs H hr h=>?_;obtain⟨l,st,n,i,h,t,r,E,sl,rfl,d,one,lf,I,q⟩:=h;refine⟨_,(av (fh (i:=3) EL.nd rfl (fI rfl) (bO (iL K) (pF K 0) (pv 1))) (av (cF 4 EL.nd (bO (iL K) (pF K 0) (pv 1))) (aC (oi (bu hr) (pF K 0) (pv 4) (jz (x:="section") (fr:=[("sections",2),("lead",3)]) (cl:=[("sections",s.heap.objs.size+1),("lead",s.heap.objs.size+1+1)]) rfl (.fD ⟨rfl,⟨rfl,trivial⟩⟩ ⟨⟨rfl,.inl rfl,.inl rfl,rfl⟩,⟨⟨rfl,.inl rfl,.inl rfl,rfl⟩,trivial⟩⟩) (eR (K:=K) rfl (dD (bu hr) (pF K 0) (pv 4) (λ_ _=>rfl))) (λ_ _ _ _=>ot (jU (rM (K:=K) rfl) (bO (iT K) (pv 2) (pv 0)) (pv 1) QU)) (λ_ _ _ _=>(pv 0))))))),?_⟩;have sz:(10000:Nat)<=sizeLine:=by rw[c7];decide
 obtain⟨A,u⟩:=d.obj;obtain⟨fa,Vh,T,eQ⟩:=pM (f:=λv:Z Int=>HO.lst (v.map V.int)) d.free one.fr;obtain⟨m,J,LK⟩:∃m,l.fN[i]?=O m/\H m=O (.tup (t.map V.int)):=by
  have hl:=dC d.lead;have dB:i<l.fN.length:=by rw[hl];exact(Yf.mp one.ld).1
  obtain⟨y,ey,hy⟩:=kF d.lead (Yb dB);rw[one.ld] at ey;cases ey;exact⟨_,Yb dB,hy⟩
 have LL:fM (l.fN.map V.ref) (i:Int)=O (.ref m):=eA (by rw[Yi,J];rfl);have Dy:=dC d.free;refine bT ?_;refine⟨_,rfl,l.J,C,A,_,_,rfl,u,g.cls,g.oz,rfl,_,rfl,l.la,_,_,_,rfl,rfl,aj.of d.gk,LL,?_⟩;refine bT ?_;refine⟨_,rfl,l.J,C,A,_,_,rfl,u,g.cls,g.kJ,rfl,_,rfl,l.ha,_,_,_,rfl,rfl,aj.of d.heads,pV one.hd,?_⟩;refine⟨_,rfl,l.J,C,A,_,_,rfl,u,g.cls,g.s_,rfl,_,rfl,l.fd,_,rfl,v_ d.frees T,fa,rfl,⟨_,aj.of eQ⟩,λD hD=>Zbb (ns:=r) (aj.of eQ) (by have:=one.kr;omega) hD (λz=>decide (t.getD z.toNat 0∈E)) V.int (λz hz Q j Kt Kf kt kf=>?_) λQ j h1=>?_⟩
 ·have bz:=one.cR z hz;refine⟨_,rfl,_,rfl,m,_,_,_,rfl,rfl,aK.of (j _ _ LK),qY bz.1 bz.2,_,rfl,sl,_,rfl,.inl (j.seq I),rfl,G4 E,_,rfl,?_⟩;rw[bb Yo,Bn];refine bR (λc=>?_) (λc=>?_);·exact⟨_,rfl,kt c Q (aq.refl _)⟩
  ·exact kf (by cases e:decide (t.getD z.toNat 0∈E) with|true=>exact absurd e c|false=>rfl) Q (aq.refl _)
 ·refine⟨_,rfl,l.J,C,A,_,_,rfl,j _ _ u,g.cls,g.s_,rfl,_,rfl,l.fd,_,.inl (h:Int),rfl,j _ _ d.frees,rfl,?_,λN L e2=>?_⟩
  ·unfold bj;rw[Ya,Wy,Ya];omega
  rw[Zdu (by rw[Ya];exact Dy.symm) T] at e2;have W:=d.nd;have R:l.fd∈l.fp:=by simp[JL.fp]
  simp only[JL.fp,Y4,Ys,iK] at W;obtain⟨⟨x1,x2,x3,x4,x5⟩,⟨y1,y2,y3,y4⟩,⟨z1,z2,z3⟩,⟨w1,w2⟩,v1,v2⟩:=W;have keep:∀b o,H b=O o->b≠l.fd->N b=O o:=λb o e nb=>L _ _ (j _ _ e) nb;have X:D∉l.fp:=d.ne hD;have G:D≠l.fd:=λz=>X (by rw[z];exact R);refine q ⟨l.J,l.ha,l.la,l.md,l.fd,l.fN,l.gq,jK (st.fr.map (·.1)) l.bL h D⟩ N rfl rfl ((Out.of j).trans (Out.bar L R)) ⟨⟨A,keep _ _ u x4⟩,keep _ _ d.heads y3,keep _ _ d.gk z2,L2.Paired.aW d.lead λa xs e=>keep a _ e (gf e d.frees (λz=>by cases z)),keep _ _ d.iJ w1,L2.Paired.aW (vG d.mem) λa p e=>keep a _ e.1 (λz=>v1 (by rw[←z];exact e.2)),?_,?_,d.nd,λa ha=>?_⟩
  ·show N l.fd=O (.dK (bj ((fq h _ st.fr).map (·.1)) _));rw[sG];exact e2
  ·exact Zbc (λk=>L _ _ h1 G) d.free λa p e ma=>keep a _ e (λz=>d.out a ma (by rw[z];exact R))
  ·rcases O8 ha with rfl|z;·exact X
   ·exact d.out a z
inductive SN(C:U)(e:Z V)(H:Hp)(Q:VK)(E:XK):Prop
 |mk (l:JL) (st:JS) (n i h:Nat) (t b:Z Int) (a:Int) (p:e=[.ref l.J,.int (i:Int),.int a]) (o:bU H C n l st) (m:t9 st i h t b) (k:st.fr.length<1000) (j:(a∈b.map (λz=>t.getD z.toNat 0)->∀(d:JL) (c:Hp),d.J=l.J->d.fp=l.fp->Out l.fp H c->bU c C n d (st.lV h (b.filter λz=>decide (t.getD z.toNat 0∈[a])))->Q (.bl ar) c)) (g:(a∉b.map (λz=>t.getD z.toNat 0)->∀c,aq H c->Q (.bl aY) c))
abbrev Cw:Z af:=["self","one","section"]
def ZE:aS Cw Cw (aL FU):=.bg
def Zgu(F:aP K "say" "Joins.say" FU f fd)(A:cG P w K mg B 2 "open_at" C ze (Ba C))(q:cG P w K mg B 2 "narrow" C Cv (G5 K C))(bl:Bl mg):aH P w K mg B aO 3 f fd Cw (SN C):=by
 refine F.o ZE λs H j h=>?_;obtain⟨l,st,n,i,h,t,b,a,rfl,e,one,D,x,v⟩:=h;refine⟨_,(av (bw (jU (BB rfl) (pv 2) (dE A j (by decide) (pv 0) (aa (pv 1) ai)) QU) (aC (aX mY)) bI) (av (cu (dE q j (by decide) (pv 0) (aa (pv 1) (aa (eG (aa (pv 2) ai)) ai)))) (aC (aX mY)))),?_⟩;obtain⟨o,k⟩:=e.obj;refine⟨_,rfl,_,rfl,l.J,o,_,rfl,k,rfl,_,rfl,l,st,n,i,h,t,b,rfl,e,one.hd,one.ld,one.fr,one.cR,one.kr,λp ns R W d g T L=>⟨p,_,rfl,.inl (aj.of L),rfl,G4 ns,_,rfl,?_⟩⟩;rw[br rfl,Bn];refine bR (λc=>?_) (λc=>bJ ?_)
 ·refine v (λz=>?_) R d;rw[c_ (g.symm.subset z)] at c;cases c
 ·have u:a∈ns:=by
   by_cases z:a∈ns;·exact z
   ·rw[eJ z] at c;exact absurd rfl c
  refine⟨_,rfl,l.J,o,_,rfl,d _ _ k,rfl,_,rfl,_,rfl,by show 1<=sizeLine;rw[c7];decide,λr H2 X m N=>?_⟩;exact⟨l,st,n,i,h,t,b,[a],r,rfl,(e.same d).same m,one,D,aj.of N,λE Q I G y J=>x (g.subset u) E Q I G ((Out.of (d.trans m)).trans y) J⟩
def eM(a:Z Nat)(b:Z U)(h:Nat):Z U:=((a.zip b).filter λp=>decide (p.1≠h)).map (·.2)
def dM{a:Type}(h:Nat)(b:Z (Nat×a)):Z (Nat×a):=b.filter λp=>decide (p.1≠h)
theorem AO(h:Nat):∀{b:Z Nat} {as:Z U},b.length=as.length->ib (bj b as) (.inl (h:Int))=bj (b.filter λk=>decide (k≠h)) (eM b as h)
 |[],[],_=>rfl
 |k::b,a::as,e=>by
  have c:=AO h (by simpa using e);have i:bj (k::b) (a::as)=(Sum.inl (k:Int),V.ref a)::bj b as:=rfl;unfold ib at c⊢;rw[i,Jc,Jc];have g:eM (k::b) (a::as) h=(if decide (k≠h)=ar then(a::eM b as h) else eM b as h):=by
   unfold eM;rw[Vj,Jc];split<;>rfl
  rw[g,c];by_cases z:k=h;·grind
  ·have d:¬((Sum.inl (k:Int):Key)=.inl (h:Int)):=λw=>z (by have:=Dw w;exact km this);rw[br (by simp[d]),br (by simp[z]),br (by simp[z])];rfl
 |[],_::_,e=>rfl
 |_::_,[],e=>by simp at e
theorem pQ{b:Type}(h:Nat):∀a:Z (Nat×b),(dM h a).map (·.1)=(a.map (·.1)).filter λk=>decide (k≠h)
 |[]=>rfl
 |p::a=>by
  have c:=pQ h a;unfold dM at c⊢
  grind
theorem Gk:∀{d:Z U} {c:Z (Nat×α)},Paired F d c->(∀a p,F a p->a∈d->p.1≠h->G a p)->Paired G (eM (c.map (·.1)) d h) (dM h c):=by
 intro d c e;induction e with
 |nil=>intro _;exact .nil
 |@cons a p d c f t i=>
  intro k;have n:eM ((p::c).map (·.1)) (a::d) h=(if decide (p.1≠h)=ar then(a::eM (c.map (·.1)) d h) else eM (c.map (·.1)) d h):=by
   unfold eM;rw[Wv,Vj,Jc];split<;>rfl
  have m:dM h (p::c)=(if decide (p.1≠h)=ar then(p::dM h c) else dM h c):=by
   unfold dM
   grind
  rw[n,m];by_cases z:p.1=h;·grind
  ·rw[br (by simp[z]),br (by simp[z])];exact .cons (k a p f Yj z) (i λb q l j g=>k b q l (Yv _ j) g)
theorem Bb{h:Nat}:∀{ks:Z Nat} {as:Z U},(eM ks as h).Sublist as
 |[],as=>by
  unfold eM;simp_all
 |_::_,[]=>by
  unfold eM;simp_all
 |k::ks,a::as=>by
  have b:=Bb (h:=h) (ks:=ks) (as:=as);have c:eM (k::ks) (a::as) h=(if decide (k≠h)=ar then(a::eM ks as h) else eM ks as h):=by
   unfold eM;rw[Vj,Jc];split<;>rfl
  grind
theorem vt{a:Type}{h k:Nat}(b:k≠h):∀{ps:Z (Nat×a)},(dM h ps).lookup k=ps.lookup k
 |[]=>rfl
 |p::ps=>by
  have c:=vt b (ps:=ps);have d:dM h (p::ps)=(if decide (p.1≠h)=ar then(p::dM h ps) else dM h ps):=by
   unfold dM
   grind
  grind
theorem Zbd{i:Type}{F G:U->Nat×i->Prop}{h:Nat}{m:U}{v:i}(j:∀k,G m (k,v)):∀{as:Z U} {ps:Z (Nat×i)},Paired F as ps->as.Nodup->(ps.map (·.1)).Nodup->aF (bj (ps.map (·.1)) as) (.inl (h:Int))=O (.ref m)->(∀a p,F a p->a∈as->a≠m->G a p)->Paired G as (fq h v ps):=by
 intro as ps s;induction s with
 |nil=>intro _ _ e _;cases e
 |@cons a p as ps f t o=>
  intro d l e k;have g:bj ((p::ps).map (·.1)) (a::as)=(Sum.inl (p.1:Int),V.ref a)::bj (ps.map (·.1)) as:=rfl;have H:fq h v (p::ps)=(if p.1=h then(p.1,v) else p)::fq h v ps:=rfl;rw[Y4] at d;rw[Wv,Y4] at l;rw[H];by_cases z:p.1=h
  ·rw[g,gY (by rw[z])] at e;have r:=V.ref.inj (Yr e);have same:fq h v ps=ps:=by
    unfold fq;refine(Wk λq A=>?_).trans (vv _);rw[bb λw=>l.1 (by rw[z,←w];exact Yh.mpr ⟨q,A,rfl⟩)];rfl
   rw[br z,same,r];refine .cons (j p.1) (L2.Paired.aW (vG t) λb q c=>k b q c.1 (Yv _ c.2) λw=>d.1 (by rw[r,←w];exact c.2))
  ·rw[g,jx (p:=((Sum.inl (p.1:Int):Key),V.ref a)) (λw=>z (by have:=Dw w;exact km this))] at e;rw[bb z];have I:a≠m:=λw=>by
    have:∀{n:Z Nat} {bs:Z U},aF (bj n bs) (.inl (h:Int))=O (.ref m)->m∈bs:=λ{n}=>by
     induction n with
     |nil=>intro bs q;unfold bj at q;rw[List.zip_nil_left] at q;cases q
     |cons x xs o=>
      intro bs q;cases bs with
      |nil=>unfold bj at q;rw[Dp] at q;cases q
      |cons b bs=>
       have g:bj (x::xs) (b::bs)=(Sum.inl (x:Int),V.ref b)::bj xs bs:=rfl;rw[g] at q;by_cases y:x=h
       ·rw[gY (by rw[y])] at q;have E:=V.ref.inj (Yr q);rw[E];exact Yj
       ·rw[jx (λw=>y (by have:=Dw w;exact km this))] at q;exact Yv _ (o q)
    exact d.1 (by exact w▸this e)
   exact .cons (k a p f Yj I) (o d.2 l.2 e λb q D c u=>k b q D (Yv _ c) u)
def qC(b:Z Int)(a:Z (Z Int))(i:Nat):Z (Z Int):=a.set i (bF (a.getD i []) b)
def jA(b a:Z Int):(bF b a).length=a.length:=by unfold bF;rw[Ya]
def Zgv(j:∀x∈xs,0<=x/\x<n)(d:∀y∈a,0<=y/\y<xs.length):∀z∈bF xs a,0<=z/\z<n:=λz c=>by
 obtain⟨y,b,rfl⟩:=Yh.mp c;obtain⟨i,h⟩:=d y b;have g:y.toNat<xs.length:=QO
 have e:xs.getD y.toNat 0=xs[y.toNat]:=by rw[Yd,Yb g];rfl
 simp_all
def kN(d:Nat)(b:Z Nat)(c:Z Nat):Z Nat:=b.foldl (λa i=>a.set i d) c
def ic(c:Z Int)(a:Z Nat)(b:Z (Z Int)):Z (Z Int):=a.foldl (qC c) b
def JS.mv(a:JS)(d c:Nat)(e b:Z Nat)(g:Z Int):JS:=⟨kN d b a.hd,ic g b a.ld,fq d (e++b) (dM c a.mem),dM c a.fr⟩
inductive RM(C:U)(r:Z V)(H:Hp)(Q:VK)(E:XK):Prop
 |mk (l:JL) (st:JS) (n a b d h:Nat) (q p e s:Z Int) (o:U) (g j:Z Nat) (X:r=[.ref l.J,.int (a:Int),.int (b:Int),.ref o]) (W:bU H C n l st) (T:H o=O (.tup (e.map V.int))) (R:n<=8) (P:e.length=n) (N:full e=ar) (L:st.hd[a]?=O d) (J:st.hd[b]?=O h) (I:st.ld[a]?=O q) (LC:st.ld[b]?=O p) (Tv:(∀t∈st.ld,full t=ar/\t.length=n)) (G:st.ld.length=st.hd.length) (D:st.mem.lookup d=O g) (A:st.mem.lookup h=O j) (z:st.fr.lookup d=O s) (y:d≠h) (x:(∀i∈g,i<st.hd.length)) (v:g.length+j.length<=1000) (u:(st.mem.map (·.1)).Nodup) (F:∀(k:JL) (m:Hp),k.J=l.J->(∀c∈k.fp,c∈l.fp)->Out l.fp H m->bU m C n k (st.mv h d j g (bF (inv q) (bF e p)))->Q .aB m)
theorem x6{b e:Type}{g:Z b->e->Z b}(h:∀a i,(g a i).length=a.length):∀(d:Z e) (c:Z b),(d.foldl g c).length=c.length
 |[],_=>rfl
 |i::d,c=>by
  rw[List.foldl_cons,x6 h d,h]
def NB{a:Z β}(h:a[j]?=O i)(b:Z α):(a.take (j+1)).foldl g b=g ((a.take j).foldl g b) i:=by
 rw[Y8,h,List.foldl_append];rfl
def ZeM(a:Z Nat)(i k:Nat):(eC a).set i (.int (k:Int))=eC (a.set i k):=by
 simp_all
theorem NC{b a:Type}{F:b->a->Prop}{x:b}{y:a}(f:F x y):∀{d:Z b} {c:Z a} (i:Nat),Paired F d c->Paired F (d.set i x) (c.set i y)
 |_,_,_,.nil=>.nil
 |_,_,0,.cons _ t=>.cons f t
 |_,_,i+1,.cons g t=>.cons g (NC f i t)
def qS(g:full xs=ar)(d:full a=ar)(e:xs.length=a.length):full (bF xs a)=ar:=by
 have c:(bF xs a).Perm ((aE a.length).map λx=>xs.getD x.toNat 0):=(qQ d).map _;have h:((aE a.length).map λx=>xs.getD x.toNat 0)=xs:=by
  refine Jg λi=>?_;rw[Yi];by_cases b:i<a.length
  ·rw[lL b]
   grind
  ·rw[Wa (by rw[fX];exact dg b),Wa (d4 (gR e) (dg b))];rfl
 rw[h] at c;exact qV (c.trans (qQ g))
inductive JG(k:Hp)(l:JL)(j:Z Nat)(d:Z (Z Int))(n:Nat)(h:bt V->St)(g:St)(b:Hp):Prop
 |mk (i:Z U) (p:bt V) (v:b l.ha=some (.lst (eC j))) (u:b l.la=some (.lst (i.map V.ref))) (s:Paired (λa (m:Z Int)=>b a=O (.tup (m.map V.int))) i d) (r:∀t∈d,full t=ar/\t.length=n) (q:∀c o,k c=O o->c≠l.ha->c≠l.la->b c=O o) (e:g=h p):JG k l j d n h g b
def Tw(l:JL)(a b i j:Int)(c e d h:U)(g:bt V):St:=[O (.ref l.J),O (.int a),O (.int b),O (.ref c),O (.int i),O (.int j),O (.ref e),O (.ref d),O (.ref h),g]
abbrev Kl:Z af:=["self","mover","stayer","turn"]
def sh:aS ["self","mover","stayer","turn","head","old_head","to_mover","to_old_head","moved","number"] Kl (aL Fo):=.bg
theorem ZeN(F:aP K "move" "Joins.move" Fo f fd)(r:oE K C)(qN:HasFn P w K mg B 1 "followed" oZ (JC K))(pI:HasFn P w K mg B 1 "turned_back" o_ Cr)(bl:Bl mg):aH P w K mg B aO 2 f fd Kl (RM C):=by
 refine F.o sh λs H hr h=>?_;obtain⟨l,st,n,a,b,A,hb,ta,tb,tn,fm,tu,g,mb,rfl,d,hu,n8,tl,ft,hA,hB,lA,lB,fl,ll,mA,mB,fA,neq,min,lm,rT,q⟩:=h;refine⟨_,(av (cF 4 sh.nd (bO (iL K) (pF K 0) (pv 2))) (av (cF 5 sh.nd (bO (iL K) (pF K 0) (pv 1))) (av (cF 6 sh.nd (bq qN hr (aa (bO (iL K) (pF K 0) (pv 2)) (aa (pv 3) ai)))) (av (cF 7 sh.nd (bq qN hr (aa (pv 6) (aa (bq pI hr (aa (bO (iL K) (pF K 0) (pv 1)) ai)) ai)))) (av (cF 8 sh.nd (N8 (pF K 0) (pv 5) ⟨rfl,rfl,rfl,rfl⟩)) (av (cu (N8 (pF K 0) (pv 5) ⟨rfl,rfl,rfl,rfl⟩)) (av (jb PassesOwn.never rfl (eR (K:=K) rfl (pv 8)) (cz 9 sh.nd) (av (PQ (pF K 0) (pv 9) N5 (pv 4)) (aC (PQ (pF K 0) (pv 9) N5 (bq qN hr (aa (pv 7) (aa (bO (iL K) (pF K 0) (pv 9)) ai))))))) (aC (cu (sW (K:=K) rfl (rf plainAttrs_list PySem.F.slot_list_extend PySem.F.type_list_extend ZaS (dD (bu hr) (pF K 0) (pv 4) (λ_ _=>rfl)) (aa (pv 8) ai)))))))))))),?_⟩;have sz:(10000:Nat)<=sizeLine:=by rw[sV];omega
 obtain⟨L,ho⟩:=d.obj;have yV:∀{i:Nat} {t:Z Int},st.ld[i]?=O t->∃x,l.fN[i]?=O x/\H x=O (.tup (t.map V.int)):=λ{i t} ht=>by
  have hl:=dC d.lead;have dB:i<l.fN.length:=by rw[hl];exact(Yf.mp ht).1
  obtain⟨y,ey,hy⟩:=kF d.lead (Yb dB);rw[ht] at ey;cases ey;exact⟨_,Yb dB,hy⟩
 obtain⟨xa,exa,LO⟩:=yV lA;obtain⟨xb,exb,LP⟩:=yV lB;have ata:fM (l.fN.map V.ref) (a:Int)=O (.ref xa):=eA (by rw[Yi,exa];rfl);have atb:fM (l.fN.map V.ref) (b:Int)=O (.ref xb):=eA (by rw[Yi,exb];rfl);obtain⟨Vk,lta⟩:=fl ta (Ym lA);obtain⟨LQ,LR⟩:=fl tb (Ym lB);obtain⟨mo,zY,vmo,Vl⟩:=pM (f:=λv:Z Nat=>HO.lst (eC v)) d.mem mA;obtain⟨ms,mms,vms,hms⟩:=pM (f:=λv:Z Nat=>HO.lst (eC v)) d.mem mB;obtain⟨fo,mfo,vfo,hfo⟩:=pM (f:=λv:Z Int=>HO.lst (v.map V.int)) d.free fA;have zW:=dC d.mem;have Dy:=dC d.free;have nd:=d.nd;have DA:∀{x:U},x∈l.gq->x∈l.fp:=λ{x} h=>by simp[JL.fp,h]
 simp only[JL.fp,Y4,Ys,xw] at nd;obtain⟨⟨x1,x2,x3,x4,x5⟩,⟨y1,y2,y3,y4⟩,⟨z1,z2,z3⟩,⟨w1,w2⟩,v1,v2⟩:=nd;refine bT ?_;refine⟨_,rfl,l.J,C,L,_,_,rfl,ho,r.cls,r.kJ,rfl,_,rfl,l.ha,_,_,_,rfl,rfl,aj.of d.heads,pV hB,?_⟩;refine bT ?_;refine⟨_,rfl,l.J,C,L,_,_,rfl,ho,r.cls,r.kJ,rfl,_,rfl,l.ha,_,_,_,rfl,rfl,aj.of d.heads,pV hA,?_⟩;refine bT ?_;refine⟨_,rfl,l.J,C,L,_,_,rfl,ho,r.cls,r.oz,rfl,_,rfl,l.la,_,_,_,rfl,rfl,aj.of d.gk,atb,_,rfl,xb,tu,tb,tn,rfl,aK.of LP,aK.of hu,λx Q=>by rw[tl,←LR];exact sM LQ Q,by omega,λtm H1 Vi g1 htm=>?_⟩;refine bT ?_;refine⟨_,rfl,_,rfl,l.J,C,L,_,_,rfl,g1 _ _ ho,r.cls,r.oz,rfl,_,rfl,l.la,_,_,_,rfl,rfl,aj.of (g1 _ _ d.gk),ata,xa,ta,rfl,g1 _ _ LO,by omega,Vk,λti H2 nti g2 DB=>?_⟩;refine⟨tm,ti,bF tn tb,inv ta,rfl,aK.of (g2 _ _ htm),aK.of DB,?_,by rw[jA];omega,λto H3 DC g3 Vm=>?_⟩
 ·rw[i4,lta];exact Zgv (n:=n) (λx Q=>by rw[←tl];exact sM ft Q) (λy hy=>by rw[tl,←LR];exact sM LQ hy)
 have xy:=(g1.trans g2).trans g3;generalize Zic:bF (inv ta) (bF tn tb)=D at Vm q;have wB:full D=ar/\D.length=n:=by
  rw[←Zic];refine⟨qS (oj Vk) (qS ft LQ (by omega)) (by rw[i4,jA];omega),by rw[jA,jA];exact LR⟩
 refine bT ?_;refine⟨_,rfl,l.J,C,L,_,_,rfl,xy _ _ ho,r.cls,r.vF,rfl,l.md,rfl,.inl ⟨_,.inl (xy _ _ d.iJ)⟩,_,rfl,_,.inl (A:Int),.ref mo,xy _ _ d.iJ,rfl,vmo,λH4 b4 e4=>?_⟩;rw[AO A (by rw[Ya];exact zW.symm)] at e4;have o4:=b4 _ _ (xy _ _ ho) x3;have f4:=b4 _ _ (xy _ _ d.frees) (λz=>w1 z.symm);refine⟨_,rfl,l.J,C,L,_,_,rfl,o4,r.cls,r.s_,rfl,l.fd,rfl,.inl ⟨_,.inl f4⟩,_,rfl,_,.inl (A:Int),.ref fo,f4,rfl,vfo,λH5 b5 e5=>?_⟩;rw[AO A (by rw[Ya];exact Dy.symm)] at e5;have J:∀c o,H c=O o->c≠l.md->c≠l.fd->H5 c=O o:=λc o e I N=>b5 _ _ (b4 _ _ (xy _ _ e) I) N;have e45:H5 l.md=O _:=b5 _ _ e4 w1;have W:∀{x:U},x∈l.gq->x≠l.ha/\x≠l.la/\x≠l.md/\x≠l.fd:=λ{x} Q=>⟨λz=>y4 (by rw[←z];exact Q),λz=>z3 (by rw[←z];exact Q),λz=>w2 (by rw[←z];exact Q),λz=>v1 (by rw[←z];exact Q)⟩;have Vn:=J _ _ Vl (W zY).2.2.1 (W zY).2.2.2;have xA:H5 to=O (.tup (D.map V.int)):=by
  have I:to≠l.md:=λz=>by rw[z,g1.trans g2 _ _ d.iJ] at DC;cases DC
  have N:to≠l.fd:=λz=>by rw[z,g1.trans g2 _ _ d.frees] at DC;cases DC
  exact b5 _ _ (b4 _ _ Vm I) N
 dsimp only;have pd:(eC g).length=g.length:=Ya _;have hlen:∀is:Z Nat,(kN hb is st.hd).length=st.hd.length:=λis=>x6 (λ_ _=>Jh) is st.hd;have Zid:∀is:Z Nat,(ic D is st.ld).length=st.ld.length:=λis=>x6 (λ_ _=>by unfold qC;exact Jh) is st.ld;refine jV (JG H5 l (kN hb g st.hd) (ic D g st.ld) n (Tw l a b hb A tu tm to mo)) (λDD nQ=>?_) ?_
 ·refine⟨_,rfl,mo,rfl,⟨_,aj.of Vn⟩,mS (K:=K) (a:=mo) (xs:=eC g) (λj=>JG H5 l (kN hb (g.take j) st.hd) (ic D (g.take j) st.ld) n (Tw l a b hb A tu tm to mo))
   ⟨l.fN,aI,J _ _ d.heads y2 y3,J _ _ d.gk z1 z2,L2.Paired.aW d.lead λc xs e=>J c _ e (gf e d.iJ (λz=>by cases z)) (gf e d.frees (λz=>by cases z)),fl,λc o e _ _=>e,rfl⟩
   (λj σ H6 _ ⟨_,_,_,_,_,_,G,_⟩=>aj.of (G _ _ Vn (W zY).1 (W zY).2.1)) ?_ ?_⟩
  ·rintro j v σ H6 hj ⟨E,o9,R,k2,k3,k4,G,rfl⟩;rw[Yi] at hj;obtain⟨i,mi,rfl⟩:∃i,g[j]?=O i/\V.int (i:Int)=v:=by
    cases e:g[j]? with
    |none=>rw[e] at hj;cases hj
    |some i=>rw[e] at hj;exact⟨i,rfl,Yr hj⟩
   have hi:=min i (Ym mi);have il:i<(ic D (g.take j) st.ld).length:=by rw[Zid];omega
   have ZjM:=dC k3;obtain⟨t,et,DB⟩:=kF k3 (Yb (show i<E.length by omega));obtain⟨ftt,Vo⟩:=k4 t (Ym et);have oJ:=G _ _ (J _ _ ho x3 x4) x1 x2;have ixh:d9 (eC (kN hb (g.take j) st.hd)).length (i:Int)=O i:=by
    rw[Rm (by omega) (by rw[Ya,hlen];omega),We]
   have ixl:d9 (E.map V.ref).length (i:Int)=O i:=by
    rw[Rm (by omega) (by rw[Ya];omega),We]
   refine bP ?_;refine⟨_,rfl,_,rfl,l.J,C,L,_,_,rfl,oJ,r.cls,r.kJ,rfl,_,rfl,l.ha,_,_,i,rfl,rfl,R,ixh,λH7 b7 e7=>?_⟩;have Vp:=b7 _ _ oJ x1;have zZ:=b7 _ _ k2 (λz=>y1 z.symm);have to7:H7 to=O (.tup (D.map V.int)):=b7 _ _ (G _ _ xA (gf xA (J _ _ d.heads y2 y3) (λz=>by cases z)) (gf xA (J _ _ d.gk z1 z2) (λz=>by cases z))) (gf (G _ _ xA (gf xA (J _ _ d.heads y2 y3) (λz=>by cases z)) (gf xA (J _ _ d.gk z1 z2) (λz=>by cases z))) R (λz=>by cases z));have x7:H7 E[i]=O (.tup (t.map V.int)):=b7 _ _ DB (gf DB R (λz=>by cases z));have atx:fM (E.map V.ref) (i:Int)=O (.ref E[i]):=eA (by rw[Yi,Yb (show i<E.length by omega)];rfl);refine⟨_,rfl,_,rfl,l.J,C,L,_,_,rfl,Vp,r.cls,r.oz,rfl,_,rfl,l.la,_,_,_,rfl,rfl,aj.of zZ,atx,to,E[i],D,t,rfl,aK.of to7,aK.of x7,λx Q=>by rw[Vo,←wB.2];exact sM wB.1 Q,by have:=wB.2;omega,λtt H8 Vq g8 htt=>?_⟩;refine⟨_,rfl,l.J,C,L,_,_,rfl,g8 _ _ Vp,r.cls,r.oz,rfl,_,rfl,l.la,_,_,i,rfl,rfl,g8 _ _ zZ,ixl,λH9 b9 e9=>?_⟩;have gt:(ic D (g.take j) st.ld).getD i []=t:=by rw[Yd,et];rfl
   have eh:kN hb (g.take (j+1)) st.hd=(kN hb (g.take j) st.hd).set i hb:=NB mi st.hd;have el:ic D (g.take (j+1)) st.ld=(ic D (g.take j) st.ld).set i (bF t D):=by
    have e1:ic D (g.take (j+1)) st.ld=qC D (ic D (g.take j) st.ld) i:=NB mi st.ld;rw[e1,←gt];rfl
   have LN:tt≠l.la:=λz=>by rw[z,zZ] at Vq;cases Vq
   have h9:∀c o,H6 c=O o->c≠l.ha->c≠l.la->H9 c=O o:=λc o e I N=>b9 _ _ (g8 _ _ (b7 _ _ e I)) N;refine⟨E.set i tt,_,?_,?_,?_,?_,λc o e I N=>h9 c o (G c o e I N) I N,rfl⟩
   ·rw[eh,←ZeM];exact b9 _ _ (g8 _ _ e7) y1
   ·rw[e9,List.map_set]
   ·rw[el];exact NC (F:=λa (xs:Z Int)=>H9 a=O (.tup (xs.map V.int))) (b9 _ _ htt LN) i (L2.Paired.aW k3 λc xs e=>h9 c _ e (gf e R (λz=>by cases z)) (gf e k2 (λz=>by cases z)))
   ·intro u Vr;rw[el] at Vr;rcases List.mem_or_eq_of_mem_set Vr with z|z;·exact k4 u z
    ·rw[z];exact⟨qS ftt wB.1 (by rw[Vo,wB.2]),by rw[jA];exact wB.2⟩
  ·rintro σ H6 ⟨E,o9,R,k2,k3,k4,G,rfl⟩;rw[pd,Wn] at R k3 k4;exact nQ _ _ ⟨E,o9,R,k2,k3,k4,G,rfl⟩
 rintro σ H6 ⟨E,o9,R,k2,k3,k4,G,rfl⟩;have oJ:=G _ _ (J _ _ ho x3 x4) x1 x2;have Vs:=G _ _ e45 (λz=>y2 z.symm) (λz=>z1 z.symm);have fd6:=G _ _ e5 (λz=>y3 z.symm) (λz=>z2 z.symm);have ph:=W mms;have DE:=W zY;have yW:∀c o,H c=O o->c≠l.ha->c≠l.la->c≠l.md->c≠l.fd->H6 c=O o:=λc o e I N n3 n4=>G _ _ (J _ _ e n3 n4) I N;have ms6:=yW _ _ hms ph.1 ph.2.1 ph.2.2.1 ph.2.2.2;have mo6:=yW _ _ Vl DE.1 DE.2.1 DE.2.2.1 DE.2.2.2;have Vu:Paired (λc (p:Nat×Z Nat)=>H6 c=O (.lst (eC p.2))/\c∈l.gq) (eM (st.mem.map (·.1)) l.gq A) (dM A st.mem):=Gk d.mem λc p e mc _=>by
  obtain⟨q1,q2,q3,q4⟩:=W mc;exact⟨yW _ _ e q1 q2 q3 q4,mc⟩
 have lkB:(dM A st.mem).lookup hb=O mb:=by rw[vt (λz=>neq z.symm)];exact mB
 obtain⟨xB,Zie,Km,Kn⟩:=pM (f:=λv:Z Nat=>HO.lst (eC v)) (L2.Paired.aW Vu λ_ _ h=>h.1) lkB;rw[pQ] at Km;have B6:xB∈l.gq:=Bb.subset Zie;refine⟨_,rfl,l.J,C,L,_,_,rfl,oJ,r.cls,r.vF,rfl,_,rfl,l.md,.ref xB,rfl,v_ Vs Km,.inl ⟨rfl,_,aj.of Kn⟩,_,rfl,xB,mo,_,_,rfl,rfl,Kn,mo6,by rw[pd,Ya];omega,λH7 b7 e7=>?_⟩;obtain⟨r1,r2,r3,r4⟩:=W B6;have sub:=Bb (h:=A) (ks:=st.mem.map (·.1)) (as:=l.gq);have Zif:=Bb (h:=A) (ks:=st.fr.map (·.1)) (as:=l.bL);have Vv:∀c∈JL.fp ⟨l.J,l.ha,l.la,l.md,l.fd,E,eM (st.mem.map (·.1)) l.gq A,eM (st.fr.map (·.1)) l.bL A⟩,c∈l.fp:=λc hc=>by
  simp only[JL.fp,Ys] at hc⊢;rcases hc with h|h|h|h|h|h;·exact .inl h
  ·exact .inr (.inl h)
  ·exact .inr (.inr (.inl h))
  ·exact .inr (.inr (.inr (.inl h)))
  ·exact .inr (.inr (.inr (.inr (.inl h))))
  ·exact .inr (.inr (.inr (.inr (.inr (sub.subset h)))))
 have T:∀c o,H6 c=O o->c≠xB->H7 c=O o:=λc o e I=>b7 _ _ e I;refine q ⟨l.J,l.ha,l.la,l.md,l.fd,E,eM (st.mem.map (·.1)) l.gq A,eM (st.fr.map (·.1)) l.bL A⟩ H7 rfl Vv (λc o e X=>?_) ⟨⟨L,T _ _ oJ (λz=>x5 (by rw[z];exact B6))⟩,T _ _ R (λz=>r1 z.symm),T _ _ k2 (λz=>r2 z.symm),L2.Paired.aW k3 λc xs e=>T c _ e (gf e Kn (λz=>by cases z)),?_,?_,?_,?_,?_,λc hc z=>?_⟩
 ·simp only[JL.fp,Ys,xw] at X;exact T _ _ (yW _ _ e X.2.1 X.2.2.1 X.2.2.2.1 X.2.2.2.2.1) (λz=>X.2.2.2.2.2 (by rw[z];exact B6))
 ·show H7 l.md=O (.dK (bj ((fq hb (mb++g) (dM A st.mem)).map (·.1)) _));rw[sG,pQ];exact T _ _ Vs (λz=>r3 z.symm)
 ·refine Zbd (F:=λc (p:Nat×Z Nat)=>H6 c=O (.lst (eC p.2))/\c∈l.gq) (m:=xB) (λk=>?_) Vu (sub.nodup v2) ?_ (by rw[pQ];exact Km) λc p e _ X=>T _ _ e.1 X
  ·show H7 xB=O (.lst (eC (mb++g)));rw[e7,eC,eC,eC,Yt]
  ·rw[pQ];exact rT.filter _
 ·show H7 l.fd=O (.dK (bj ((dM A st.fr).map (·.1)) _));rw[pQ];exact T _ _ fd6 (λz=>r4 z.symm)
 ·refine Gk d.free λc p e mc _=>?_;have no:=d.out c mc;simp only[JL.fp,Ys,xw] at no;exact T _ _ (yW _ _ e no.2.1 no.2.2.1 no.2.2.2.1 no.2.2.2.2.1) (λz=>no.2.2.2.2.2 (by rw[z];exact B6))
 ·have e0:(JL.fp ⟨l.J,l.ha,l.la,l.md,l.fd,E,eM (st.mem.map (·.1)) l.gq A,eM (st.fr.map (·.1)) l.bL A⟩).Sublist l.fp:=(((((sub.cons₂ l.fd).cons₂ l.md).cons₂ l.la).cons₂ l.ha).cons₂ l.J);exact e0.nodup d.nd
 ·exact d.out c (Zif.subset hc) (Vv c z)
structure Tx(st:JS)(n a b ha hb:Nat)(ta tb fma z4:Z Int)(ma mb:Z Nat):Prop where
 hA:st.hd[a]?=O ha
 hB:st.hd[b]?=O hb
 lA:st.ld[a]?=O ta
 lB:st.ld[b]?=O tb
 fl:∀t∈st.ld,full t=ar/\t.length=n
 ll:st.ld.length=st.hd.length
 mA:st.mem.lookup ha=O ma
 mB:st.mem.lookup hb=O mb
 fA:st.fr.lookup ha=O fma
 fB:st.fr.lookup hb=O z4
 ne:ha≠hb
 iA:∀i∈ma,i<st.hd.length
 iB:∀i∈mb,i<st.hd.length
 lm:ma.length+mb.length<=1000
 nd:(st.mem.map (·.1)).Nodup
inductive Ql(C:U)(t:Z V)(H:Hp)(Q:VK)(E:XK):Prop
 |mk (l:JL) (st:JS) (n a b m k:Nat) (g e d o s:Z Int) (r:U) (i h:Z Nat) (F:t=[.ref l.J,.int (a:Int),.int (b:Int),.ref r]) (D:bU H C n l st) (A:H r=O (.tup (d.map V.int))) (z:n<=8) (y:d.length=n) (x:full d=ar) (v:Tx st n a b m k g e o s i h) (u:∀(j:JL) (p:JS) (q:Hp),j.J=l.J->(∀c∈j.fp,c∈l.fp)->Out l.fp H q->bU q C n j p->(p=st.mv k m h i (bF (inv g) (bF (inv d) e))\/p=st.mv m k i h (bF (inv e) (bF d g)))->Q .aB q)
abbrev l4:Z af:=["self","one","other","turn"]
def XH:aS l4 l4 (aL Eg):=.bg
def Zdv(F:aP K "bring_together" "Joins.bring_together" Eg f fd)(d:oE K C)(pI:HasFn P w K mg B 1 "turned_back" o_ Cr)(AB:cG P w K mg B 2 "move" C Kl (RM C))(bl:Bl mg):aH P w K mg B aO 3 f fd l4 (Ql C):=by
 refine F.o XH λs H i h=>?_;obtain⟨l,st,n,a,b,X,W,L,J,m,A,z4,I,R,Q,rfl,c,T,N,tl,y,two,q⟩:=h;refine⟨_,(aC (bw (cA wb (fE K bl (dD (bu i) (pF K 0) (bO (iL K) (pF K 0) (pv 1)) (λ_ _=>rfl))) (fE K bl (dD (bu i) (pF K 0) (bO (iL K) (pF K 0) (pv 2)) (λ_ _=>rfl)))) (aC (cu (dE AB i (by decide) (pv 0) (aa (pv 1) (aa (pv 2) (aa (bq pI i (aa (pv 3) ai)) ai)))))) (aC (cu (dE AB i (by decide) (pv 0) (aa (pv 2) (aa (pv 1) (aa (pv 3) ai)))))))),?_⟩;obtain⟨g,e⟩:=c.obj;obtain⟨G,mxa,k,LO⟩:=pM (f:=λv:Z Nat=>HO.lst (eC v)) c.mem two.mA;obtain⟨E,mxb,j,LP⟩:=pM (f:=λv:Z Nat=>HO.lst (eC v)) c.mem two.mB;refine⟨_,rfl,l.J,C,g,_,_,rfl,e,d.cls,d.vF,rfl,_,rfl,l.J,C,g,_,_,rfl,e,d.cls,d.kJ,rfl,_,rfl,l.ha,_,_,_,rfl,rfl,aj.of c.heads,pV two.hA,l.md,.ref G,rfl,v_ c.iJ k,G,_,rfl,.inl (aj.of LO),?_⟩;refine⟨_,rfl,l.J,C,g,_,_,rfl,e,d.cls,d.vF,rfl,_,rfl,l.J,C,g,_,_,rfl,e,d.cls,d.kJ,rfl,_,rfl,l.ha,_,_,_,rfl,rfl,aj.of c.heads,pV two.hB,l.md,.ref E,rfl,v_ c.iJ j,E,_,rfl,.inl (aj.of LP),_,_,rfl,rfl,_,rfl,bR (λ_=>?_) (λ_=>?_)⟩
 ·refine⟨_,rfl,l.J,g,_,rfl,e,rfl,_,rfl,_,rfl,_,rfl,I,m,rfl,T,QO,y,λtv H1 ntv g1 x=>?_⟩;refine⟨l,st,n,a,b,X,W,L,J,inv m,A,tv,R,Q,rfl,c.same g1,x,N,by rwa[i4],oj y,two.hA,two.hB,two.lA,two.lB,two.fl,two.ll,two.mA,two.mB,two.fA,two.ne,two.iA,two.lm,two.nd,λp D t r o u=>q p _ D t r ((Out.of g1).trans o) u (.inl rfl)⟩
 ·refine⟨_,rfl,l.J,g,_,rfl,e,rfl,_,rfl,_,rfl,_,rfl,?_⟩;exact⟨l,st,n,b,a,W,X,J,L,m,z4,I,Q,R,rfl,c,T,N,tl,y,two.hB,two.hA,two.lB,two.lA,two.fl,two.ll,two.mB,two.mA,two.fB,(λz=>two.ne z.symm),two.iB,by have:=two.lm;omega,two.nd,λp D t r o u=>q p _ D t r o u (.inr rfl)⟩
def SO(H:Hp)(c:Z U)(b:Z (Int×Int)):Prop:=Paired (λa (p:Int×Int)=>H a=O (.tup [.int p.1,.int p.2])) c b
def jG(g e:Nat)(b a c d:Z Int):Z (Int×Int):=if g=e then c.map λz=>(b.getD z.toNat 0,a.getD z.toNat 0) else(c.map λz=>b.getD z.toNat 0).flatMap λx=>d.map λz=>(x,a.getD z.toNat 0)
inductive Qm(C:U)(m:Z V)(H:Hp)(Q:VK)(E:XK):Prop
 |mk (l:JL) (st:JS) (n i j h g:Nat) (c b e d:Z Int) (t:m=[.ref l.J,.int (i:Int),.int (j:Int)]) (s:bU H C n l st) (r:t9 st i h c e) (q:t9 st j g b d) (o:∀(p:U) (k:Z U) (bG:Z (Int×Int)) (a:Hp),H p=aI->aq H a->a p=O (.lst (k.map V.ref))->SO a k bG->bG.Perm (jG h g c b e d)->bG.Pairwise jE->Q (.ref p) a)
inductive IF(C:U)(r:Z V)(H:Hp)(Q:VK)(E:XK):Prop
 |mk (l:JL) (st:JS) (n i j g e:Nat) (b a d c h:Z Int) (o:U) (A:r=[.ref l.J,.int (i:Int),.int (j:Int),.ref o]) (z:bU H C n l st) (y:t9 st i g b d) (x:t9 st j e a c) (v:H o=some (.tup (h.map V.int))) (u:(∀q∈jG g e b a d c,0<=q.1/\q.1<h.length)) (t:(jG g e b a d c).length<=1000) (s:∀(p:U) (k:Z Int) (m:Hp),H p=none->aq H m->m p=some (.lst (k.map V.int))->k.Perm (((jG g e b a d c).filter λq=>decide (h.getD q.1.toNat 0=q.2)).map (·.1))->k.Pairwise (·<·)->Q (.ref p) m)
def Zi:aS l4 l4 (aL Fn):=.bg
theorem ZeO(F:aP K "left" "Joins.left" Fn f fd)(Fb:cG P w K mg B 3 "pairs" C rq (Qm C))(bl:Bl mg):aH P w K mg B aO 4 f fd l4 (IF C):=by
 refine F.o Zi λs H hr h=>?_;obtain⟨l,st,n,i,j,hi,hj,ti,tj,si,sj,d,tu,rfl,ja,o1,o2,hu,cR,kr,q⟩:=h;refine⟨_,(aC (aX (OR (xs:=["first","second"]) (fr:=[("turn",3)]) (cl:=[("turn",s.heap.objs.size+1)]) rfl (.fD ⟨rfl,trivial⟩ ⟨⟨rfl,.inl rfl,.inl rfl,rfl⟩,trivial⟩) (λ_ _ _ _=>(mU (K:=K) (n:=2) rfl rfl (cS (jT (i:=0) (show(["first","second","turn"]:Z af).Nodup by decide+kernel) rfl (xx rfl)) (cS (jT (i:=1) (show(["first","second","turn"]:Z af).Nodup by decide+kernel) rfl (ew rfl)) mT)))) (eR (K:=K) rfl (dE Fb hr (by decide) (pv 0) (aa (pv 1) (aa (pv 2) ai)))) (λ_ _ _ _=>ot (cA dv (bO (iT K) (pv 2) (pv 0)) (pv 1))) (λ_ _ _ _=>(pv 0))))),?_⟩;obtain⟨dx,ho⟩:=ja.obj;refine⟨_,rfl,l.J,dx,_,rfl,ho,rfl,_,rfl,_,rfl,l,st,n,i,j,hi,hj,ti,tj,si,sj,rfl,ja,o1,o2,λp I bG H1 np R hp X J pw=>?_⟩;have pl:=dC X;have al:(I.map V.ref).length=bG.length:=by rwa[Ya]
 have Tz:=J.length_eq;refine⟨p,rfl,⟨_,aj.of hp⟩,λD Q=>Nr (xs:=I.map V.ref) (λk m r=>k<=bG.length/\aq H1 r/\r D=O (.lst m)/\m=((bG.take k).filter λq=>decide (d.getD q.1.toNat 0=q.2)).map λq=>V.int q.1) ⟨Yx _,cY Q _,aM,rfl⟩ (λk m r _ ⟨_,g,_,_⟩=>aj.of (g _ _ hp)) ?_ ?_⟩
 ·rintro k v m r t ⟨_,g,G,u⟩ os iS;obtain⟨E,A,rfl⟩:∃E A,os=[E,A]:=by
   match os,iS with
   |[E,A],_=>exact⟨E,A,rfl⟩
  rw[Yi] at t;obtain⟨c,ec,rfl⟩:∃c,I[k]?=O c/\V.ref c=v:=by
   cases e:I[k]? with
   |none=>rw[e] at t;cases t
   |some c=>rw[e] at t;exact⟨c,rfl,Yr t⟩
  obtain⟨⟨x,y⟩,W,L⟩:=kF X ec;have kl:k<bG.length:=(Yf.mp W).1;have bx:=cR (x,y) (J.subset (Ym W));have N:=g _ _ L;have yl:m.length<sizeLine:=by
   have:=Y3 (λq:Int×Int=>decide (d.getD q.1.toNat 0=q.2)) (bG.take k);rw[Wi] at this;rw[u,Ya,c7];omega
  refine⟨c,_,rfl,aK.of N,rfl,_,_,rfl,bP ⟨_,_,rfl,bP ⟨rfl,⟨[O (.int x),O (.int y)],rfl,rfl⟩,?_⟩⟩⟩;refine⟨_,rfl,_,rfl,tu,_,_,_,rfl,rfl,aK.of (g _ _ (R _ _ hu)),qY bx.1 bx.2,_,rfl,rfl,_,rfl,?_⟩;have ed:decide (V.int (d.getD x.toNat 0)=V.int y)=decide (d.getD x.toNat 0=y):=by
   rw[Wu,fb,UZ];exact⟨V.int.inj,λz=>by rw[z]⟩
  rw[ed];have et:∀(b:bA),decide (d.getD x.toNat 0=y)=b->((bG.take (k+1)).filter λq=>decide (d.getD q.1.toNat 0=q.2)).map (λq=>V.int q.1)=m++(if b=ar then[V.int x] else[]):=λb eb=>by
   rw[u,Y8,W,Wj,Yt]
   congr 1
   show([((x,y):Int×Int)].filter _).map _=_;rw[Jc,eb];cases b<;>rfl
  refine bR (λT=>?_) (λT=>?_)
  ·refine⟨_,rfl,G,yl,kl,λb o e=>?_,aM,?_⟩
   ·rw[az (bW e Q)];exact g _ _ e
   ·rw[et ar T];rfl
  ·refine⟨kl,g,G,?_⟩;rw[et aY (by cases e:decide (d.getD x.toNat 0=y) with|true=>exact absurd e T|false=>rfl)];simp
 ·rintro m r ⟨_,g,G,u⟩;rw[al,Wn] at u;refine q D ((bG.filter λq=>decide (d.getD q.1.toNat 0=q.2)).map (·.1)) r (R.free Q) (R.trans g) (by rw[G,u,Y0];rfl) ((J.filter _).map _) ?_;rw[W5];refine(Jn.mp (pw.filter _)).imp ?_;rintro a b ⟨ma,mb,lt⟩;have e1:=dm (Yy.mp ma).2;have e2:=dm (Yy.mp mb).2;rcases lt with lt|⟨e,lt⟩;·exact lt
  ·rw[←e1,←e2,e] at lt;exact absurd lt (Int.lt_irrefl _)
theorem Zgw:∀{c:Z V} {d:Z Nat},Paired (λy k=>∃a,y=V.ref a/\H a=O (.tup [.int (g k).1,.int (g k).2])) c d->∃b:Z U,c=b.map V.ref/\SO H b (d.map g):=by
 intro c d i;induction i with
 |nil=>exact⟨[],rfl,.nil⟩
 |cons z t j=>
  obtain⟨a,e,h⟩:=z;obtain⟨b,m,l⟩:=j;exact⟨a::b,by rw[e,m];rfl,.cons h l⟩
def map_range(g:Int->α)(a:Z Int):(List.range a.length).map (λk=>g (a.getD k 0))=a.map g:=by
 have b:(List.range a.length).map (λk=>g (a.getD k 0))=((List.range a.length).map λk=>a.getD k 0).map g:=by rw[Y0];rfl
 rw[b,(range_getD a 0)]
def TB(D:U)(H:Hp)(c:Z U)(b:Z (Int×Int)):Prop:=Paired (λa (p:Int×Int)=>a≠D/\H a=O (.tup [.int p.1,.int p.2])) c b
theorem G6{d c e:Type}(g:d->c->e)(b:Z c):∀a:Z d,(a.flatMap λx=>b.map (g x)).length=a.length*b.length
 |[]=>QS
 |x::a=>by rw[LU,Yq,G6 g b a,Ya,Wm,Nat.succ_mul];exact Nat.add_comm _ _
def Zb_{a β c:Type}{g:a->Z c}{b:Z a}{i:Nat}{x:a}(h:b[i]?=O x):(b.take (i+1)).flatMap g=(b.take i).flatMap g++g x:=by
 rw[Y8,h,Dc];simp
def Ol{a:Z Int}(b:a.Pairwise (·<=·))(c:a.Nodup):a.Pairwise (·<·):=by
 refine(List.Pairwise.and b (Jl.mp c)).imp ?_
 grind
def ZeP(x:Int){a:Z Int}(b:a.Pairwise (·<·)):(a.map λy=>((x,y):Int×Int)).Pairwise jE:=by
 rw[W5];exact b.imp λh=>.inr ⟨rfl,h⟩
def ZeQ{a:Z Int}(c:a.Pairwise (·<·))(e:a[k]?=O x)(d:y∈a.take k):y<x:=by
 obtain⟨i,b,rfl⟩:=W0.mp d;obtain⟨g,rfl⟩:=Yf.mp e;rw[Wi] at b;rw[List.getElem_take];exact Wc.mp c i k (eU b (Uz _ _)) g (eU b (Nat.min_le_left _ _))
def EY:aS ["self","one","other","here","there"] rq (aL E7):=.bg
theorem Zdw(F:aP K "pairs" "Joins.pairs" E7 f fd)(W:oE K C)(uY:cG P w K mg B 1 "together" C rq (Gj C))(nX:cG P w K mg B 2 "open_at" C ze (Ba C))(bl:Bl mg):aH P w K mg B aO 3 f fd rq (Qm C):=by
 refine F.o EY λs H hr h=>?_;obtain⟨l,st,n,i,j,hi,hj,ti,N,u,sj,rfl,J,E,A,q⟩:=h;refine⟨_,(av (bw (kK (hU (dE uY hr (by decide) (pv 0) (aa (pv 1) (aa (pv 2) ai))))) (aC (aX (Zc0 (xs:=["first","second"]) (fr:=[("self",0),("other",2)]) (cl:=[("self",s.heap.objs.size+1),("other",s.heap.objs.size+1+1)]) rfl (.fD ⟨rfl,⟨rfl,trivial⟩⟩ ⟨⟨rfl,.inl rfl,.inl rfl,rfl⟩,⟨⟨rfl,.inl rfl,.inl rfl,rfl⟩,trivial⟩⟩) (λ_ _ _ _=>(jT (i:=0) (show(["first","second","self","other"]:Z af).Nodup by decide+kernel) rfl (ew rfl))) (eR (K:=K) rfl (dE nX hr (by decide) (pv 0) (aa (pv 1) ai))) (λ_ _ _ _=>(eR (K:=K) rfl (dE nX hr (by decide) (pv 2) (aa (pv 3) ai)))) (λ_ _ _ _=>(jT (i:=1) (show(["first","second","self","other"]:Z af).Nodup by decide+kernel) rfl (ew rfl))) (λ_ _ _ _=>(eS (aa (pv 0) (aa (pv 1) ai))))))) bI) (av (fh (i:=3) EY.nd rfl (fI rfl) (bO (iL K) (pF K 0) (pv 1))) (av (fh (i:=4) EY.nd rfl (fI rfl) (bO (iL K) (pF K 0) (pv 2))) (aC (aX (gW (Zc5 (K:=K) rfl) rfl bl.vJ vB (aa (jz (x:="section") (fr:=[("there",4),("here",3)]) (cl:=[("there",s.heap.objs.size+1+1+1+1),("here",s.heap.objs.size+1+1+1)]) rfl (.fD ⟨rfl,⟨rfl,trivial⟩⟩ ⟨⟨rfl,.inl rfl,.inl rfl,rfl⟩,⟨⟨rfl,.inl rfl,.inl rfl,rfl⟩,trivial⟩⟩) (eR (K:=K) rfl (dD (bu hr) (pF K 0) (bO (iL K) (pF K 0) (pv 1)) (λ_ _=>rfl))) (λ_ _ _ _=>lN) (λ_ _ _ _=>(eS (aa (bO (iT K) (pv 2) (pv 0)) (aa (bO (iT K) (pv 1) (pv 0)) ai))))) ai))))))),?_⟩;obtain⟨dx,ho⟩:=J.obj;have f1:=E.kr;have f2:=A.kr;refine⟨_,rfl,l.J,dx,_,rfl,ho,rfl,_,rfl,_,rfl,l,st,n,i,j,hi,hj,rfl,J,E.hd,A.hd,_,rfl,?_⟩;by_cases eh:hi=hj
 ·rw[c_ eh];refine dh (bJ ?_);have es:u=sj:=by have a:=E.fr;have b:=A.fr;rw[eh,b] at a;exact(Yr a).symm
  have yV:∀{k:Nat} {t:Z Int},st.ld[k]?=O t->∃x,l.fN[k]?=O x/\H x=O (.tup (t.map V.int)):=λ{k t} ht=>by
   have hl:=dC J.lead;have dB:k<l.fN.length:=by rw[hl];exact(Yf.mp ht).1
   obtain⟨y,ey,hy⟩:=kF J.lead (Yb dB);rw[ht] at ey;cases ey;exact⟨_,Yb dB,hy⟩
  obtain⟨xi,exi,hxi⟩:=yV E.ld;obtain⟨xj,exj,hxj⟩:=yV A.ld;have ati:fM (l.fN.map V.ref) (i:Int)=O (.ref xi):=eA (by rw[Yi,exi];rfl);have atj:fM (l.fN.map V.ref) (j:Int)=O (.ref xj):=eA (by rw[Yi,exj];rfl);obtain⟨fa,Vh,vf,eQ⟩:=pM (f:=λv:Z Int=>HO.lst (v.map V.int)) J.free E.fr;refine bT ?_;refine⟨_,rfl,l.J,C,dx,_,_,rfl,ho,W.cls,W.oz,rfl,_,rfl,l.la,_,_,_,rfl,rfl,aj.of J.gk,ati,?_⟩;refine bT ?_;refine⟨_,rfl,l.J,C,dx,_,_,rfl,ho,W.cls,W.oz,rfl,_,rfl,l.la,_,_,_,rfl,rfl,aj.of J.gk,atj,?_⟩;refine⟨_,rfl,l.J,C,dx,_,_,rfl,ho,W.cls,W.s_,rfl,_,rfl,l.J,C,dx,_,_,rfl,ho,W.cls,W.kJ,rfl,_,rfl,l.ha,_,_,_,rfl,rfl,aj.of J.heads,pV E.hd,l.fd,_,rfl,v_ J.frees vf,fa,rfl,⟨_,aj.of eQ⟩,λD hD=>oa (xs:=u.map V.int) (aj.of eQ) (by rw[Ya];omega) hD (λ_=>ar) (λk y H1=>∃a,y=V.ref a/\a≠D/\H1 a=O (.tup [.int (ti.getD (u.getD k 0).toNat 0),.int (N.getD (u.getD k 0).toNat 0)])) (λk y H1 I b ⟨a,e1,e2,e3⟩=>⟨a,e1,e2,b _ _ e3 e2⟩) (λk v hk H1 L LV Kt Kf kt kf=>?_) λys H1 L h1 pr=>?_⟩
  ·obtain⟨z,rfl,hz⟩:=ou hk;have gz:u.getD k 0=z:=by rw[Yd,hz];rfl
   have b1:=E.cR z (Ym hz);have b2:=A.cR z (by rw[←es];exact Ym hz);refine lY (dI ?_);refine⟨_,rfl,_,rfl,xi,_,_,_,rfl,rfl,aK.of (L _ _ hxi),qY b1.1 b1.2,_,rfl,_,rfl,xj,_,_,_,rfl,rfl,aK.of (L _ _ hxj),qY b2.1 b2.2,by show 2<=sizeLine;rw[c7];decide,λa I na G ha=>?_⟩;obtain⟨ys,LV⟩:=LV;exact kt _ I rfl G ⟨a,rfl,(λz=>by rw[z,LV] at na;cases na),by rw[gz];exact ha⟩
  ·rw[Nm,Ya] at pr;obtain⟨X,eas,fZ⟩:=Zgw (g:=λk=>(ti.getD (u.getD k 0).toNat 0,N.getD (u.getD k 0).toNat 0)) (L2.Paired.aW pr λy k ⟨a,e1,e2,e3⟩=>⟨a,e1,e3⟩);have em:(List.range u.length).map (λk=>((ti.getD (u.getD k 0).toNat 0,N.getD (u.getD k 0).toNat 0):Int×Int))=u.map λz=>(ti.getD z.toNat 0,N.getD z.toNat 0):=map_range (λz=>(ti.getD z.toNat 0,N.getD z.toNat 0)) u;rw[em] at fZ;have al:=dC fZ;rw[Ya] at al;rw[eas] at h1;have DF:(u.map λz=>((ti.getD z.toNat 0,N.getD z.toNat 0):Int×Int)).Nodup:=by
    have d:=E.dist;rw[Jl,W5] at d⊢;exact d.imp λh e=>h (de (·.1) e)
   refine⟨D,X,_,rfl,aj.of h1,fZ,DF,.inl (sq (gR al) f1),λnM ni DG p2 pw p I np G hp=>?_⟩;refine q p nM ni I (L.free np) (L.trans G) hp (L2.Paired.aW DG λ_ _ e=>G _ _ e) ?_ pw;unfold jG;rw[br eh];exact p2
 ·rw[eJ eh];refine dI ?_;refine⟨_,rfl,l.J,dx,_,rfl,ho,rfl,_,rfl,l,st,n,i,hi,ti,u,rfl,J,E.hd,E.ld,E.fr,E.cR,E.kr,λp Q H1 np L pm srt hp=>?_⟩;have nl:=pm.length_eq;rw[Ya] at nl;have sns:=Ol srt (pm.nodup_iff.mpr E.dist);refine⟨p,rfl,⟨_,aj.of hp⟩,λD hD=>Zer (xs:=Q.map V.int) (λk ys I=>k<=Q.length/\aq H1 I/\I D=O (.lst ys)/\∃(X:Z U) (bG:Z (Int×Int)),ys=X.map V.ref/\TB D I X bG/\bG.Perm ((Q.take k).flatMap λx=>sj.map λz=>(x,N.getD z.toNat 0))/\bG.Pairwise jE/\∀p∈bG,p.1∈Q.take k) ⟨Yx _,cY hD _,aM,[],[],rfl,.nil,.nil,.nil,λ_ h=>(nomatch h)⟩ (λk ys I _ ⟨_,G,_⟩=>aj.of (G _ _ hp)) ?_ ?_ ?_ (λv σ H R R' m h=>m _ _ h)⟩
  ·rintro k v ys I hk ⟨kl,G,h2,X,bG,ey,pa,pp,pw,pin⟩ os iS;obtain⟨u1,u2,rfl⟩:∃u1 u2,os=[u1,u2]:=by
    match os,iS with
    |[u1,u2],_=>exact⟨u1,u2,rfl⟩
   obtain⟨x,rfl,hx⟩:=ou hk;have kl':k<Q.length:=(Yf.mp hx).1;refine bP ⟨⟨[O (.int x),u2],rfl,rfl⟩,?_⟩;refine⟨_,rfl,l.J,dx,_,rfl,G _ _ (L _ _ ho),rfl,_,rfl,l,st,n,j,hj,N,sj,rfl,J.same (L.trans G),A.hd,A.ld,A.fr,A.cR,A.kr,λp2 uA H3 z5 g3 LW Zig eP=>?_⟩;have LX:=LW.length_eq;rw[Ya] at LX;have Zih:=Ol Zig (LW.nodup_iff.mpr A.dist);have pD:p2≠D:=λz=>by rw[z,h2] at z5;cases z5
   have Tz:=pp.length_eq;rw[G6 (λx z=>((x,N.getD z.toNat 0):Int×Int)) sj (Q.take k),Wi] at Tz;have Zj1:=dC pa;have Zj2:min k Q.length*sj.length<=64*64:=Dg QO (lg f2);refine⟨p2,rfl,⟨_,aj.of eP⟩,p2,uA.map V.int,λk2 gT σ H4=>k2<=uA.length/\aq H1 H4/\H4 D=O (.lst gT)/\H4 p2=O (.lst (uA.map V.int))/\(∃A,σ=[O (.int x),A]++_)/\∃(uB:Z U) (wC:Z (Int×Int)),gT=uB.map V.ref/\TB D H4 uB wC/\wC=bG++(uA.take k2).map λy=>(x,y),rfl,⟨Yx _,G.trans g3,g3 _ _ h2,eP,⟨u2,rfl⟩,X,bG,ey,L2.Paired.aW pa λ_ _ e=>⟨e.1,g3 _ _ e.2⟩,QS⟩,λk2 gT σ H4 _ ⟨_,_,_,e,_⟩=>aj.of e,?_,?_⟩
   ·rintro k2 v2 gT σ H4 uy ⟨k2l,g4,h4,e4,⟨Vw,rfl⟩,uB,wC,DH,DJ,uC⟩;obtain⟨y,rfl,hy⟩:=ou uy;have Zii:k2<uA.length:=(Yf.mp hy).1;have Vx:=dC DJ;rw[uC,Yq,Ya,Wi] at Vx;refine bP ⟨_,rfl,_,rfl,by show 2<=sizeLine;rw[c7];decide,λa H5 na g5 ha=>⟨g5 _ _ h4,by rw[DH,Ya,Vx,c7];have:=A.kr;omega,Zii,?_,aM,?_,⟨O (.int y),rfl⟩,uB++[a],wC++[(x,y)],by rw[DH,Yt];rfl,?_,?_⟩⟩
    ·intro b o e;rw[az (bW e hD)];exact g5 _ _ (g4 _ _ e)
    ·rw[az pD];exact g5 _ _ e4
    ·have aD:a≠D:=λz=>by rw[z,h4] at na;cases na
     exact pK (F:=λa (p:Int×Int)=>a≠D/\upd H5 D _ a=O (.tup [.int p.1,.int p.2])) ⟨aD,by rw[az aD];exact ha⟩ (L2.Paired.aW DJ λb p e=>⟨e.1,by rw[az e.1];exact g5 _ _ e.2⟩)
    ·rw[uC,Y8,hy,Yt,Jr];rfl
   ·rintro gT σ H4 ⟨_,g4,h4,e4,⟨Vw,rfl⟩,uB,wC,DH,DJ,uC⟩;rw[Ya,Wn] at uC;refine⟨⟨[O (.int x),Vw],rfl,rfl⟩,kl',g4,h4,uB,wC,DH,DJ,?_,?_,λp T=>?_⟩
    ·rw[uC,Zb_ (β:=Int) hx];refine pp.append ?_;have:=LW.map λy:Int=>((x,y):Int×Int);rw[Y0] at this;exact this
    ·rw[uC];refine List.pairwise_append.mpr ⟨pw,ZeP x Zih,λp T q' mq=>.inl ?_⟩;obtain⟨y,_,rfl⟩:=Yh.mp mq;exact ZeQ sns hx (pin p T)
    ·rw[uC] at T;rw[Y8,hx];rcases Yu.mp T with T|T;·exact Yk _ (pin p T)
     ·obtain⟨y,_,rfl⟩:=Yh.mp T;exact Ye _ Yj
  ·rintro ys I ⟨_,G,h2,X,bG,ey,pa,pp,pw,_⟩;rw[Ya,Wn] at pp;rw[ey] at h2;refine q D X bG I (L.free hD) (L.trans G) h2 (L2.Paired.aW pa λ_ _ e=>e.2) (pp.trans ?_) pw;unfold jG;rw[bb eh];exact pm.flatMap_right _
  ·rintro σ H R R' m ⟨x1,e1,x2,x3,x4,e2,e3,e4,x5,e5,l,st,n,i,h,t,eH,e6,j1,j2,j3,j4,j5,j6,k⟩;refine⟨x1,e1,x2,x3,x4,e2,e3,e4,x5,e5,l,st,n,i,h,t,eH,e6,j1,j2,j3,j4,j5,j6,λp Q H' a b c d e=>?_⟩;obtain⟨a,e,s,r⟩:=k p Q H' a b c d e;exact⟨a,e,s,m _ _ r⟩
def ap(t:Z Int)(z:Int):Int:=t.getD z.toNat 0
def IG(a:0<=z)(h:z<t.length):t[z.toNat]?=O (ap t z):=by
 unfold ap
 grind
def oG(a:full t=ar)(b:t.length=n){z:Int}(h:0<=z/\z<n):0<=ap t z/\ap t z<n:=by
 have:=sM a (Ym (IG h.1 QO));omega
def yy(a:full t=ar)(c:t.length=n){z:Int}(h:0<=z/\z<n):ap (inv t) (ap t z)=z:=by
 have b:=oG a c h;have d:=yx (xs:=t) (i:=(ap t z).toNat) QO;rw[(LY b.1),yj (yc a) (IG h.1 QO)] at d;have e:ap (inv t) (ap t z)=((z.toNat:Nat):Int):=by
  show(inv t).getD (ap t z).toNat 0=_
  grind
 grind
def Qn(a:full t=ar)(b:t.length=n){z:Int}(h:0<=z/\z<n):ap t (ap (inv t) z)=z:=by
 have:=yy (oj a) (by rwa[i4]) h;rw[inv_inv a] at this;exact this
def BH(c:full t=ar)(b:t.length=n){z z':Int}(h:0<=z/\z<n)(d:0<=z'/\z'<n)(e:ap t z=ap t z'):z=z':=by
 have a:=yy c b h;rw[e,yy c b d] at a;exact a.symm
def BI(h:0<=z/\z<a.length):ap (bF xs a) z=ap xs (ap a z):=by
 show(bF xs a).getD z.toNat 0=_;unfold bF;rw[Yd,Yi,(IG h.1 h.2)];rfl
def JS.ag(a:JS)(i:Nat):Nat:=a.hd.getD i 0
def JS.bH(a:JS)(i:Nat):Z Int:=a.ld.getD i []
def JS.bX(a:JS)(h:Nat):Z Int:=(a.fr.lookup h).getD []
def dw(a:JS)(f:Nat->Int):Prop:=∃s:Nat->Int,∀i,i<a.hd.length->s (a.ag i)∈a.bX (a.ag i)/\f i=ap (a.bH i) (s (a.ag i))
structure WF(n:Nat)(st:JS):Prop where
 ll:st.ld.length=st.hd.length
 fl:∀t∈st.ld,full t=ar/\t.length=n
 fr:∀i,i<st.hd.length->∃eH,st.fr.lookup (st.ag i)=O eH/\eH.Nodup/\∀z∈eH,0<=z/\z<(n:Int)
 mem:∀i,i<st.hd.length->∃ms,st.mem.lookup (st.ag i)=O ms/\ms.Nodup/\∀k,k∈ms↔k<st.hd.length/\st.ag k=st.ag i
 nm:(st.mem.map (·.1)).Nodup
 lm:∀k∈st.mem.map (·.1),k<st.hd.length
 nf:(st.fr.map (·.1)).Nodup
 lf:∀k∈st.fr.map (·.1),k<st.hd.length
 hf:∀k∈st.fr.map (·.1),∃i,i<st.hd.length/\st.ag i=k
def AD{a:Z Nat}(b:a.Nodup)(h:∀x∈a,x<m):a.length<=m:=by
 have l:=b.length_le_of_subset λx c=>Wf.mpr (h x c)
 grind
def Fu{c:Z Int}{n:Nat}(d:c.Nodup)(h:∀x∈c,0<=x/\x<(n:Int)):c.length<=n:=by
 have l:=d.length_le_of_subset (l₂:=aE n) λx e=>by
  obtain⟨a,b⟩:=h x e;have:=Ym (lL (n:=n) (i:=x.toNat) QO)
  grind
 rwa [fX] at l
theorem Gm{b:Type}:∀{a:Z (Nat×b)} {k:Nat} {v:b},a.lookup k=O v->k∈a.map (·.1)
 |[],_,_,h=>by simp at h
 |p::a,k,v,h=>by
  rw[Jw] at h;by_cases e:k=p.1;·grind
  ·rw[beq_eq_false_iff_ne.mpr e] at h;exact Yv _ (Gm h)
theorem AJ{a:Type}(h:Nat)(v:a)(k:Nat):∀ps:Z (Nat×a),(fq h v ps).lookup k=if k=h then(ps.lookup h).map λ_=>v else ps.lookup k
 |[]=>by show([]:Z (Nat×a)).lookup k=_;simp
 |p::ps=>by
  have b:=AJ h v k ps;have c:fq h v (p::ps)=(if p.1=h then(p.1,v) else p)::fq h v ps:=rfl
  grind
section
variable {n:Nat}{st:JS}
def yz(h:i<st.hd.length):st.hd[i]?=O (st.ag i):=by
 unfold JS.ag;rw[Yd,Yb h];rfl
def WF.BJ(a:WF n st)(h:i<st.hd.length):st.ld[i]?=O (st.bH i):=by
 unfold JS.bH;rw[Yd,Yb (by rwa[a.ll])];rfl
def WF.lC(a:WF n st)(h:i<st.hd.length):full (st.bH i)=ar/\(st.bH i).length=n:=a.fl _ (Ym (a.BJ h))
def WF.eI(c:WF n st)(h:i<st.hd.length):st.fr.lookup (st.ag i)=O (st.bX (st.ag i))/\(st.bX (st.ag i)).Nodup/\∀z∈st.bX (st.ag i),0<=z/\z<(n:Int):=by
 obtain⟨eH,e,a,b⟩:=c.fr i h;have d:st.bX (st.ag i)=eH:=by unfold JS.bX;rw[e];rfl
 grind
def WF.dist(c:WF n st)(h:i<st.hd.length):((st.bX (st.ag i)).map λz=>(st.bH i).getD z.toNat 0).Nodup:=by
 obtain⟨e,a,b⟩:=c.eI h;rw[Jl,W5];refine(Jn.mp (Jl.mp a)).imp ?_;rintro u v ⟨d,mv,ne⟩ z;exact ne (BH (c.lC h).1 (c.lC h).2 (b u d) (b v mv) z)
def WF.one(c:WF n st)(g:n<=8)(h:i<st.hd.length):t9 st i (st.ag i) (st.bH i) (st.bX (st.ag i)):=by
 obtain⟨e,a,b⟩:=c.eI h;have:=Fu a b;refine⟨yz h,c.BJ h,e,λz d=>by rw[(c.lC h).2];exact b z d,QO,c.dist h⟩
def WF.two(a:WF n st)(g:i<st.hd.length)(e:j<st.hd.length)(s:st.hd.length<=400)(p:st.ag i≠st.ag j):∃d c,Tx st n i j (st.ag i) (st.ag j) (st.bH i) (st.bH j) (st.bX (st.ag i)) (st.bX (st.ag j)) d c/\(d.Nodup/\∀k,k∈d↔k<st.hd.length/\st.ag k=st.ag i)/\(c.Nodup/\∀k,k∈c↔k<st.hd.length/\st.ag k=st.ag j):=by
 obtain⟨d,r,o,l⟩:=a.mem i g;obtain⟨c,q,m,h⟩:=a.mem j e;have u:=AD o λk b=>((l k).mp b).1;have t:=AD m λk b=>((h k).mp b).1;exact⟨d,c,⟨yz g,yz e,a.BJ g,a.BJ e,a.fl,a.ll,r,q,(a.eI g).1,(a.eI e).1,p,λk b=>((l k).mp b).1,λk b=>((h k).mp b).1,QO,a.nm⟩,⟨o,l⟩,m,h⟩
def WF.B7(a:WF n st):st.fr.length<=st.hd.length:=by
 have:=AD a.nf a.lf
 grind
def WF.RN(a:WF n st):st.mem.length<=st.hd.length:=by
 have:=AD a.nm a.lm
 grind
def wf0:WF n ⟨[],[],[],[]⟩:=⟨rfl,λ_ h=>(nomatch h),λ_ h=>absurd h (Ww _),λ_ h=>absurd h (Ww _),.nil,λ_ h=>(nomatch h),.nil,λ_ h=>(nomatch h),λ_ h=>(nomatch h)⟩
theorem GF(st:JS)(h k:Nat)(v:Z Int)(a:st.fr.lookup h≠aI):(st.lV h v).bX k=if k=h then v else st.bX k:=by
 show((fq h v st.fr).lookup k).getD []=_;rw[AJ];by_cases e:k=h
 ·rw[br e,br e];cases b:st.fr.lookup h with
  |none=>grind
  |some x=>rfl
 ·rw[bb e,bb e];rfl
def WF.lV(c:WF n st)(h:i<st.hd.length):WF n (st.lV (st.ag i) ((st.bX (st.ag i)).filter p)):=by
 refine⟨c.ll,c.fl,λk g=>?_,c.mem,c.nm,c.lm,?_,?_,?_⟩
 ·obtain⟨e,a,b⟩:=c.eI g;show ∃d,(fq _ _ st.fr).lookup (st.ag k)=O d/\_;rw[AJ]
  grind
 ·show((fq _ _ st.fr).map (·.1)).Nodup;rw[sG];exact c.nf
 ·show ∀k∈(fq _ _ st.fr).map (·.1),_;rw[sG];exact c.lf
 ·show ∀k∈(fq _ _ st.fr).map (·.1),_;rw[sG];exact c.hf
def x_(j:WF n st)(g:i<st.hd.length)(ss:Z Int)(f:Nat->Int):dw (st.lV (st.ag i) ((st.bX (st.ag i)).filter λz=>decide ((st.bH i).getD z.toNat 0∈ss))) f↔dw st f/\f i∈ss:=by
 have e:st.fr.lookup (st.ag i)≠aI:=by rw[(j.eI g).1];exact λz=>nomatch z
 constructor
 ·rintro⟨s,h⟩;have c:∀k,k<st.hd.length->s (st.ag k)∈st.bX (st.ag k)/\f k=ap (st.bH k) (s (st.ag k)):=λk c=>by
   obtain⟨a,b⟩:=h k c;refine⟨?_,b⟩;have d:s (st.ag k)∈(st.lV (st.ag i) ((st.bX (st.ag i)).filter λz=>decide ((st.bH i).getD z.toNat 0∈ss))).bX (st.ag k):=a;rw[GF st _ _ _ e] at d
   grind
  refine⟨⟨s,c⟩,?_⟩;obtain⟨a,b⟩:=h i g;have d:s (st.ag i)∈(st.lV (st.ag i) ((st.bX (st.ag i)).filter λz=>decide ((st.bH i).getD z.toNat 0∈ss))).bX (st.ag i):=a;rw[GF st _ _ _ e,br rfl] at d;rw[b];exact dm (Yy.mp d).2
 ·rintro⟨⟨s,h⟩,m⟩;refine⟨s,λk c=>?_⟩;obtain⟨a,b⟩:=h k c;refine⟨?_,b⟩;show s (st.ag k)∈(st.lV (st.ag i) ((st.bX (st.ag i)).filter λz=>decide ((st.bH i).getD z.toNat 0∈ss))).bX (st.ag k);rw[GF st _ _ _ e];by_cases z:st.ag k=st.ag i
  ·rw[br z];rw[z] at a⊢;refine Yy.mpr ⟨a,c_ ?_⟩;rw[((h i g).2)] at m;exact m
  ·grind
def GG(l:WF n st){f:Nat->Int}(d:dw st f)(g c:Nat)(b a:Int)(p:b∈st.bX g)(o:a∈st.bX c)(m:g=c->b=a):∃i,dw st i/\∀k,k<st.hd.length->(st.ag k=g->i k=ap (st.bH k) b)/\(st.ag k=c->i k=ap (st.bH k) a):=by
 obtain⟨s,h⟩:=d;refine⟨λk=>ap (st.bH k) ((λq=>if q=g then b else if q=c then a else s q) (st.ag k)),⟨λq=>if q=g then b else if q=c then a else s q,λk j=>⟨?_,rfl⟩⟩,λk j=>⟨λe=>?_,λe=>?_⟩⟩;·grind
 ·grind
 ·grind
def yn(m:WF n st)(k:i<st.hd.length)(g:j<st.hd.length){f:Nat->Int}(d:dw st f):(f i,f j)∈jG (st.ag i) (st.ag j) (st.bH i) (st.bH j) (st.bX (st.ag i)) (st.bX (st.ag j)):=by
 obtain⟨s,h⟩:=d;obtain⟨c,b⟩:=h i k;obtain⟨l,a⟩:=h j g;unfold jG;by_cases e:st.ag i=st.ag j
 ·rw[br e];refine Yh.mpr ⟨s (st.ag i),c,?_⟩;rw[b,a,←e];rfl
 ·rw[bb e];refine Vy.mpr ⟨f i,Yh.mpr ⟨_,c,b.symm⟩,Yh.mpr ⟨_,l,?_⟩⟩;rw[a];rfl
def O9(c:WF n st)(k:i<st.hd.length)(h:j<st.hd.length)(a:∃f,dw st f)(m:(x,y)∈jG (st.ag i) (st.ag j) (st.bH i) (st.bH j) (st.bX (st.ag i)) (st.bX (st.ag j))):∃f,dw st f/\f i=x/\f j=y:=by
 obtain⟨E,o⟩:=a;unfold jG at m;by_cases e:st.ag i=st.ag j
 ·rw[br e] at m;obtain⟨z,g,l⟩:=Yh.mp m;obtain⟨f,d,q⟩:=GG c o (st.ag i) (st.ag i) z z g g (λ_=>rfl);exact⟨f,d,((q i k).1 rfl).trans (de (·.1) l),((q j h).1 e.symm).trans (de (·.2) l)⟩
 ·rw[bb e] at m;obtain⟨D,t,s⟩:=Vy.mp m;obtain⟨r,u,A⟩:=Yh.mp t;obtain⟨p,v,b⟩:=Yh.mp s;obtain⟨f,d,q⟩:=GG c o (st.ag i) (st.ag j) r p u v (λz=>absurd z e);exact⟨f,d,(((q i k).1 rfl).trans A).trans (de (·.1) b),((q j h).2 rfl).trans (de (·.2) b)⟩
end
theorem Om(a:Nat):∀(mv:Z Nat) (hd:Z Nat) (i:Nat),i<hd.length->(kN a mv hd)[i]?=if i∈mv then O a else hd[i]?
 |[],hd,i,h=>rfl
 |k::mv,hd,i,h=>by
  have b:=Om a mv (hd.set k a) i (by rw[Jh];exact h);have c:kN a (k::mv) hd=kN a mv (hd.set k a):=rfl
  grind
theorem Oo(a:Z Int):∀(mv:Z Nat) (ld:Z (Z Int)) (i:Nat),mv.Nodup->i<ld.length->(ic a mv ld)[i]?=if i∈mv then O (bF (ld.getD i []) a) else ld[i]?
 |[],ld,i,_,h=>rfl
 |k::mv,ld,i,b,h=>by
  obtain⟨e,c⟩:=Y4.mp b;have d:ic a (k::mv) ld=ic a mv (qC a ld k):=rfl;rw[d,(Oo a mv (qC a ld k) i c (by unfold qC;rwa[Jh]))];by_cases m:i∈mv
  ·unfold qC
   grind
  ·rw[bb m];unfold qC
   grind
def Oq(c:Nat)(b a:Z Nat):(kN c b a).length=a.length:=x6 (λ_ _=>Jh) b a
def Ot(c:Z Int)(b:Z Nat)(a:Z (Z Int)):(ic c b a).length=a.length:=x6 (λ_ _=>by unfold qC;exact Jh) b a
section
variable {st:JS}
def q_(j:WF n st)(d:∀k,k∈c↔k<st.hd.length/\st.ag k=st.ag a)(h:Z Int)(g:i<st.hd.length):(st.mv (st.ag b) (st.ag a) mb c h).ag i=if st.ag i=st.ag a then st.ag b else st.ag i:=by
 show(kN (st.ag b) c st.hd).getD i 0=_;rw[Yd,Om _ _ _ _ g];by_cases e:st.ag i=st.ag a;·grind
 ·rw[bb (λz=>e ((d i).mp z).2),bb e,←Yd];rfl
def IH(g:WF n st)(h:b.Nodup)(d:∀k,k∈b↔k<st.hd.length/\st.ag k=st.ag a)(c:Z Int)(l:Nat)(j:i<st.hd.length):(st.mv l (st.ag a) mb b c).bH i=if st.ag i=st.ag a then bF (st.bH i) c else st.bH i:=by
 show(ic c b st.ld).getD i []=_;rw[Yd,Oo _ _ _ _ h (by rwa[g.ll])];by_cases e:st.ag i=st.ag a;·rw[br ((d i).mpr ⟨j,e⟩),br e];rfl
 ·rw[bb (λz=>e ((d i).mp z).2),bb e,←Yd];rfl
def RO(c a:Nat)(d:Z Int)(b:h≠a):(st.mv c a e g d).bX h=st.bX h:=by
 show((dM a st.fr).lookup h).getD []=_;rw[vt b];rfl
def yL(a b:Nat)(c:Z Int):(st.mv a b d e c).hd.length=st.hd.length:=Oq _ _ _
def WF.mv(c:WF n st)(T:a<st.hd.length)(G:b<st.hd.length)(E:st.ag a≠st.ag b)(D:j.Nodup)(o:∀k,k∈j↔k<st.hd.length/\st.ag k=st.ag a)(P:d.Nodup)(Q:∀k,k∈d↔k<st.hd.length/\st.ag k=st.ag b)(J:st.mem.lookup (st.ag b)=O d)(H:full h=ar)(A:h.length=n):WF n (st.mv (st.ag b) (st.ag a) d j h):=by
 have len:(st.mv (st.ag b) (st.ag a) d j h).hd.length=st.hd.length:=yL _ _ _;have y:∀k,k<st.hd.length->(if st.ag k=st.ag a then st.ag b else st.ag k)≠st.ag a:=λk l=>by
  grind
 have u:(st.mv (st.ag b) (st.ag a) d j h).mem.map (·.1)=(st.mem.map (·.1)).filter λk=>decide (k≠st.ag a):=by
  show(fq _ _ (dM _ st.mem)).map (·.1)=_;rw[sG,pQ]
 have p:(st.mv (st.ag b) (st.ag a) d j h).fr.map (·.1)=(st.fr.map (·.1)).filter λk=>decide (k≠st.ag a):=pQ _ _;refine⟨?_,λt F=>?_,λi g=>?_,λi g=>?_,?_,?_,?_,?_,?_⟩
 ·show(ic _ _ _).length=(kN _ _ _).length;rw[Ot,Oq];exact c.ll
 ·obtain⟨i,g,rfl⟩:=W0.mp F;have v:i<st.hd.length:=by
   have:(ic h j st.ld).length=st.ld.length:=Ot _ _ _;have W:i<(ic h j st.ld).length:=g;have:=c.ll;omega
  have e:=IH (mb:=d) c D o h (st.ag b) v;have L:(st.mv (st.ag b) (st.ag a) d j h).bH i=(st.mv (st.ag b) (st.ag a) d j h).ld[i]:=by
   unfold JS.bH;rw[Yd,Yb g];rfl
  rw[←L,e];obtain⟨x,I⟩:=c.lC v;by_cases z:st.ag i=st.ag a;·rw[br z];exact⟨qS x H QO,by rw[jA];exact A⟩
  ·rw[bb z];exact⟨x,I⟩
 ·rw[len] at g;rw[q_ (mb:=d) c o h g];show ∃m,(dM (st.ag a) st.fr).lookup _=O m/\_;rw[vt (y i g)];by_cases e:st.ag i=st.ag a;·rw[br e];exact⟨_,c.eI G⟩
  ·rw[bb e];exact⟨_,c.eI g⟩
 ·rw[len] at g;rw[q_ (mb:=d) c o h g];show ∃q,(fq (st.ag b) (d++j) (dM (st.ag a) st.mem)).lookup _=O q/\_;rw[AJ,vt (y i g),vt (λz=>E z.symm),J];have iff:∀k,k<st.hd.length->((st.mv (st.ag b) (st.ag a) d j h).ag k=(if st.ag k=st.ag a then st.ag b else st.ag k)):=λk l=>q_ (mb:=d) c o h l;by_cases e:(if st.ag i=st.ag a then st.ag b else st.ag i)=st.ag b
  ·rw[br e];refine⟨_,rfl,?_,λk=>?_⟩;·grind
   ·grind
  ·have N:¬st.ag i=st.ag a:=λz=>e (br z);rw[bb N] at e⊢;rw[bb e];obtain⟨q,s,r,R⟩:=c.mem i g
   grind
 ·rw[u];exact c.nm.filter _
 ·rw[u,len];exact λk l=>c.lm k (Yy.mp l).1
 ·rw[p];exact c.nf.filter _
 ·rw[p,len];exact λk l=>c.lf k (Yy.mp l).1
 ·rw[p,len];intro k l;obtain⟨s,r⟩:=Yy.mp l;obtain⟨i,g,e⟩:=c.hf k s;refine⟨i,g,?_⟩;rw[q_ (mb:=d) c o h g,bb (λz=>dm r (e.symm.trans z))];exact e
def Qo(g:WF n st)(t:a<st.hd.length)(j:b<st.hd.length)(m:st.ag a≠st.ag b)(I:J.Nodup)(p:∀k,k∈J↔k<st.hd.length/\st.ag k=st.ag a)(L:full l=ar)(H:l.length=n)(f:Nat->Int):
  dw (st.mv (st.ag b) (st.ag a) mb J (bF (inv (st.bH a)) (bF l (st.bH b)))) f↔∃s:Nat->Int,(∀i,i<st.hd.length->(0<=s (st.ag i)/\s (st.ag i)<(n:Int))/\(st.ag i≠st.ag a->s (st.ag i)∈st.bX (st.ag i))/\f i=ap (st.bH i) (s (st.ag i)))/\f a=ap l (f b):=by
 obtain⟨D,y⟩:=g.lC t;obtain⟨N,o⟩:=g.lC j;have X:=oj D;have W:(inv (st.bH a)).length=n:=by rw[i4];exact y
 generalize P:bF (inv (st.bH a)) (bF l (st.bH b))=d;have G:∀z:Int,0<=z/\z<(n:Int)->ap d z=ap (inv (st.bH a)) (ap l (ap (st.bH b) z)):=λz r=>by
  rw[←P,BI (by rw[jA,o];exact r),BI (by rwa[o])]
 have F:∀z:Int,0<=z/\z<(n:Int)->0<=ap d z/\ap d z<(n:Int):=λz r=>by
  rw[G z r];exact oG X W (oG L H (oG N o r))
 have Q:d.length=n:=by rwa[←P,jA,jA]
 constructor
 ·rintro⟨s,h⟩;have u:=λi c=>by
   have x:=h i (by rwa[yL]);rw[q_ g p d c,IH g I p d _ c,RO] at x;·exact x
   ·by_cases e:st.ag i=st.ag a;·rw[br e];exact λz=>m z.symm
    ·rwa[bb e]
  have A:=u b j;rw[bb (λz=>m z.symm),bb (λz=>m z.symm)] at A;have v:=(g.eI j).2.2 _ A.1;have eq:∀i,i<st.hd.length->f i=ap (st.bH i) (if st.ag i=st.ag a then ap d (s (st.ag b)) else s (st.ag i)):=λi c=>by
   have x:=(u i c).2;by_cases e:st.ag i=st.ag a
   ·rw[br e,br e,BI (by rw[Q];exact v)] at x;rw[br e];exact x
   ·rw[bb e,bb e] at x;rw[bb e];exact x
  refine⟨λq=>if q=st.ag a then ap d (s (st.ag b)) else s q,λi c=>⟨?_,λe=>?_,eq i c⟩,?_⟩
  ·show 0<=(if st.ag i=st.ag a then _ else _)/\(if st.ag i=st.ag a then _ else _)<_;by_cases e:st.ag i=st.ag a;·rw[br e];exact F _ v
   ·rw[bb e];have x:=(u i c).1;rw[bb e] at x;exact(g.eI c).2.2 _ x
  ·show(if st.ag i=st.ag a then _ else _)∈_;have x:=(u i c).1;rw[bb e] at x;rwa[bb e]
  ·rw[eq a t,br rfl,G _ v,Qn D y (oG L H (oG N o v)),A.2]
 ·rintro⟨s,h,ef⟩;have R:=(h b j).1;have T:=(h a t).1;have E:ap d (s (st.ag b))=s (st.ag a):=by
   rw[G _ R,←(h b j).2.2,←ef,(h a t).2.2,yy D y T]
  refine⟨s,λi c=>?_⟩;rw[yL] at c;rw[q_ g p d c,IH g I p d _ c,RO]
  ·by_cases e:st.ag i=st.ag a
   ·rw[br e,br e];refine⟨(h b j).2.1 (λz=>m z.symm),?_⟩;rw[BI (by rwa[Q]),E,←e];exact(h i c).2.2
   ·rw[bb e,bb e];exact⟨(h i c).2.1 e,(h i c).2.2⟩
  ·by_cases e:st.ag i=st.ag a;·rw[br e];exact λz=>m z.symm
   ·rwa[bb e]
end
section
variable {st:JS}{i j:Nat}{ns:Z Int}
def O_{P:Z (Int×Int)}(b:ns.Perm ((P.filter λq=>decide (a.getD q.1.toNat 0=q.2)).map (·.1)))(x:Int):x∈ns↔(x,ap a x)∈P:=by
 rw[b.mem_iff,Yh];constructor
 ·rintro⟨⟨u,v⟩,m,rfl⟩;obtain⟨d,c⟩:=Yy.mp m;have e:ap a u=v:=dm c;rw[e];exact d
 ·intro m;exact⟨_,Yy.mpr ⟨m,c_ rfl⟩,rfl⟩
abbrev JS.bG(st:JS)(i j:Nat):Z (Int×Int):=jG (st.ag i) (st.ag j) (st.bH i) (st.bH j) (st.bX (st.ag i)) (st.bX (st.ag j))
def GH(d:st.ag i≠st.ag j)(m:(x,y)∈st.bG i j):(∃z∈st.bX (st.ag i),ap (st.bH i) z=x)/\∃z∈st.bX (st.ag j),ap (st.bH j) z=y:=by
 unfold JS.bG jG at m;rw[bb d] at m;obtain⟨n,g,e⟩:=Vy.mp m;obtain⟨c,h,l⟩:=Yh.mp g;obtain⟨b,k,a⟩:=Yh.mp e;exact⟨⟨c,h,l.trans (de (·.1) a)⟩,b,k,(de (·.2) a)⟩
def RP(a:WF n st)(c:i<st.hd.length)(m:(x,y)∈st.bG i j):0<=x/\x<(n:Int):=by
 obtain⟨h,g⟩:=a.lC c;by_cases e:st.ag i=st.ag j
 ·unfold JS.bG jG at m;rw[br e] at m;obtain⟨z,b,d⟩:=Yh.mp m;have k:ap (st.bH i) z=x:=de (·.1) d;rw[←k];exact oG h g ((a.eI c).2.2 z b)
 ·obtain⟨⟨z,b,d⟩,_⟩:=GH e m;exact d▸oG h g ((a.eI c).2.2 z b)
def Qp(c:WF n st)(h:n<=8)(g:i<st.hd.length)(d:j<st.hd.length):(st.bG i j).length<=64:=by
 have a:=Fu (c.eI g).2.1 (c.eI g).2.2;have b:=Fu (c.eI d).2.1 (c.eI d).2.2;unfold JS.bG jG;by_cases e:st.ag i=st.ag j;·grind
 ·rw[bb e,G6 (λ(x z:Int)=>((x,(st.bH j).getD z.toNat 0):Int×Int)),Ya];exact Yz (Dg (show _<=8 by omega) (show _<=8 by omega)) (by decide)
def Zdx(b:WF n st)(a:i<st.hd.length)(k:j<st.hd.length)(e:st.ag i=st.ag j)(q:∀x,x∈ns↔(x,ap g x)∈st.bG i j)(f:Nat->Int):dw st f/\f i∈ns↔dw st f/\f j=ap g (f i):=by
 refine rr λd=>?_;constructor
 ·intro m;have c:=(q _).mp m;obtain⟨s,h⟩:=d;unfold JS.bG jG at c;rw[br e] at c;obtain⟨z,p,l⟩:=Yh.mp c;have u:ap (st.bH j) z=ap g (f i):=de (·.2) l;obtain⟨t,r⟩:=b.lC a;have o:=(b.eI a).2.2;rw[(h j k).2,←e,←(BH t r (o z p) (o _ (h i a).1) ((de (·.1) l).trans (h i a).2)),u]
 ·intro m;have:=yn b a k d
  grind
def ZeR(b:WF n st)(a:i<st.hd.length)(g:j<st.hd.length)(q:st.ag i≠st.ag j)(D:t.Nodup)(G:∀k,k∈t↔k<st.hd.length/\st.ag k=st.ag i)(o:full l=ar)(p:l.length=n)(r:∀x,x∈ns↔(x,ap l x)∈st.bG i j)(f:Nat->Int):
  dw (st.mv (st.ag j) (st.ag i) L t (bF (inv (st.bH i)) (bF (inv l) (st.bH j)))) f/\f i∈ns↔dw st f/\f j=ap l (f i):=by
 rw[Qo b a g q D G (oj o) (by rwa[i4])];obtain⟨v,u⟩:=b.lC a;obtain⟨H,F⟩:=b.lC g;constructor
 ·rintro⟨⟨s,h,J⟩,m⟩;obtain⟨⟨z,E,I⟩,_⟩:=GH q ((r _).mp m);have N:=BH v u ((b.eI a).2.2 z E) (h i a).1 (I.trans (h i a).2.2);refine⟨⟨s,λk c=>⟨?_,(h k c).2.2⟩⟩,?_⟩;·grind
  ·have y:0<=f j/\f j<(n:Int):=by rw[(h j g).2.2];exact oG H F (h j g).1
   rw[J,Qn o p y]
 ·rintro⟨d,e⟩;have m:=yn b a g d;rw[e] at m;obtain⟨s,h⟩:=d;refine⟨⟨s,λk c=>⟨(b.eI c).2.2 _ (h k c).1,λ_=>(h k c).1,(h k c).2⟩,?_⟩,(r _).mpr m⟩;have A:0<=f i/\f i<(n:Int):=by rw[(h i a).2];exact oG v u ((b.eI a).2.2 _ (h i a).1)
  rw[e,yy o p A]
def ZeS(c:WF n st)(q:i<st.hd.length)(b:j<st.hd.length)(l:st.ag i≠st.ag j)(t:p.Nodup)(u:∀k,k∈p↔k<st.hd.length/\st.ag k=st.ag j)(D:full g=ar)(v:g.length=n)(o:∀x,x∈ns↔(x,ap g x)∈st.bG i j)(f:Nat->Int):
  dw (st.mv (st.ag i) (st.ag j) G p (bF (inv (st.bH j)) (bF g (st.bH i)))) f/\f i∈ns↔dw st f/\f j=ap g (f i):=by
 rw[Qo c b q (λz=>l z.symm) t u D v];obtain⟨E,A⟩:=c.lC b;constructor
 ·rintro⟨⟨s,h,r⟩,m⟩;obtain⟨_,z,y,F⟩:=GH l ((o _).mp m);have H:=BH E A ((c.eI b).2.2 z y) (h j b).1 ((F.trans r.symm).trans (h j b).2.2);refine⟨⟨s,λk a=>⟨?_,(h k a).2.2⟩⟩,r⟩
  grind
 ·rintro⟨d,e⟩;have m:=yn c q b d;rw[e] at m;obtain⟨s,h⟩:=d;exact⟨⟨s,λk a=>⟨(c.eI a).2.2 _ (h k a).1,λ_=>(h k a).1,(h k a).2⟩,e⟩,(o _).mpr m⟩
end
def tw(b d:JS)(i j:Nat):Prop:=∀a c,a<b.hd.length->c<b.hd.length->(d.ag a=d.ag c↔b.ag a=b.ag c\/(b.ag a=b.ag i/\b.ag c=b.ag j)\/(b.ag a=b.ag j/\b.ag c=b.ag i))
def Zdy(e:st.ag i=st.ag j):tw st st i j:=λa c _ _=>⟨.inl,λh=>h.elim id λh=>h.elim (λh=>h.1.trans (e.trans h.2.symm)) λh=>h.1.trans (e.symm.trans h.2.symm)⟩
def RQ(d:WF n st)(e:∀k,k∈g↔k<st.hd.length/\st.ag k=st.ag a)(c:Z Int)(j:st.ag a≠st.ag b):tw st (st.mv (st.ag b) (st.ag a) l g c) a b:=λx y i h=>by
 rw[q_ d e c i,q_ d e c h]
 grind
def tw.symm(h:tw st e j i):tw st e i j:=λa c d b=>(h a c d b).trans (or_congr Iff.rfl or_comm)
structure RS(n:Nat)(st aQ:JS)(b:bA)(i j:Nat)(tn:Z Int):Prop where
 wf:WF n aQ
 len:aQ.hd.length=st.hd.length
 yes:b=ar->(∃f,dw aQ f)/\∀f,dw aQ f↔dw st f/\f j=ap tn (f i)
 no:b=aY->aQ=st/\∀f,dw st f->f j≠ap tn (f i)
 hds:b=ar->tw st aQ i j
inductive SQ(C:U)(k:Z V)(H:Hp)(Q:VK)(E:XK):Prop
 |mk (l:JL) (st:JS) (n i j:Nat) (a:Z Int) (g:U) (x:k=[.ref l.J,.int (i:Int),.int (j:Int),.ref g]) (v:bU H C n l st) (u:WF n st) (t:(∃f,dw st f)) (s:n<=8) (r:st.hd.length<=400) (q:i<st.hd.length) (p:j<st.hd.length) (o:H g=O (.tup (a.map V.int))) (z:full a=ar) (y:a.length=n) (m:∀(b:bA) (d:JL) (h:JS) (e:Hp),d.J=l.J->(∀c∈d.fp,c∈l.fp)->Out l.fp H e->bU e C n d h->RS n st h b i j a->Q (.bl b) e)
def MX:aS ["self","one","other","turn","sections"] l4 (aL FT):=.bg
theorem Zgx(F:aP K "tie" "Joins.tie" FT f fd)(jc:oE K C)(u9:cG P w K mg B 4 "left" C l4 (IF C))(uY:cG P w K mg B 1 "together" C rq (Gj C))(Eh:cG P w K mg B 3 "bring_together" C l4 (Ql C))(u5:cG P w K mg B 2 "narrow" C Cv (G5 K C))(bl:Bl mg):aH P w K mg B aO 5 f fd l4 (SQ C):=by
 refine F.o MX λs H hr h=>?_;obtain⟨l,st,n,i,j,tn,X,rfl,D,g,L,I,m4,k,t,hu,R,tl,q⟩:=h;refine⟨_,(av (cF 4 MX.nd (dE u9 hr (by decide) (pv 0) (aa (pv 1) (aa (pv 2) (aa (pv 3) ai))))) (av (bw (kK (AX (K:=K) rfl (A4 (pv 4) (λ_=>rfl)))) (aC (aX mY)) bI) (av (bw (kK (hU (dE uY hr (by decide) (pv 0) (aa (pv 1) (aa (pv 2) ai))))) (aC (cu (dE Eh hr (by decide) (pv 0) (aa (pv 1) (aa (pv 2) (aa (pv 3) ai)))))) bI) (av (cu (dE u5 hr (by decide) (pv 0) (aa (pv 1) (aa (pv 4) ai)))) (aC (aX mY)))))),?_⟩;obtain⟨dx,ho⟩:=D.obj;have pf:=Qp g I k t;refine bT ?_;refine⟨_,rfl,l.J,dx,_,rfl,ho,rfl,_,rfl,_,rfl,_,rfl,l,st,n,i,j,_,_,_,_,_,_,tn,X,rfl,D,g.one I k,g.one I t,hu,λp Q=>by rw[tl];exact RP g k (x:=p.1) (y:=p.2) Q,Yz pf (by decide),λp ns H1 np v Q pm _=>?_⟩;have J:=O_ pm;refine Bx (λσ E=>σ=[O (.ref l.J),O (.int (i:Int)),O (.int (j:Int)),O (.ref X),O (.ref p)]/\E=H1/\ns≠[]) (λnx hn=>?_) ?_
 ·refine⟨_,rfl,_,.inl ⟨_,aj.of Q,rfl⟩,?_⟩;refine bR (λc=>?_) (λc=>bJ (hn _ _ ⟨rfl,rfl,λz=>?_⟩))
  ·have e:ns=[]:=by
    cases ns with
    |nil=>rfl
    |cons a r=>cases c
   refine q aY l st H1 rfl (λ_ h=>h) (Out.of v) (D.same v) ⟨g,rfl,(λz=>nomatch z),λ_=>⟨rfl,λf d z=>?_⟩,(λz=>nomatch z)⟩;have m:=yn g k t d;rw[z] at m;have:=(J _).mpr m;rw[e] at this;cases this
  ·rw[z] at c;exact c rfl
 rintro _ _ ⟨rfl,rfl,nne⟩;refine Bx (λσ E=>σ=[O (.ref l.J),O (.int (i:Int)),O (.int (j:Int)),O (.ref X),O (.ref p)]/\∃(A:JL) (u:JS),A.J=l.J/\(∀c∈A.fp,c∈l.fp)/\Out l.fp H E/\bU E C n A u/\E p=O (.lst (ns.map V.int))/\WF n u/\u.hd.length=st.hd.length/\(∀f,dw u f/\f i∈ns↔dw st f/\f j=ap tn (f i))/\tw st u i j) (λnx hn=>?_) ?_
 ·refine⟨_,rfl,l.J,dx,_,rfl,v _ _ ho,rfl,_,rfl,_,rfl,l,st,n,i,j,_,_,rfl,D.same v,yz k,yz t,_,rfl,?_⟩;refine bR (λc=>?_) (λc=>bJ (hn _ _ ⟨rfl,l,st,rfl,λ_ h=>h,Out.of v,D.same v,Q,g,rfl,?_,?_⟩))
  ·have ne:st.ag i≠st.ag j:=λz=>by
    rw[c_ z] at c;cases c
   obtain⟨ma,mb,two,⟨pj,iX⟩,xC,W⟩:=g.two k t m4 ne;refine⟨_,rfl,l.J,dx,_,rfl,v _ _ ho,rfl,_,rfl,_,rfl,_,rfl,l,st,n,i,j,_,_,_,_,tn,_,_,X,ma,mb,rfl,D.same v,v _ _ hu,I,tl,R,two,λA u E N k2 o2 j2 es=>hn _ _ ⟨rfl,A,u,N,k2,(Out.of v).trans o2,j2,o2 _ _ Q (D.ne np),?_⟩⟩;obtain⟨fi,li⟩:=g.lC k;obtain⟨fj,lj⟩:=g.lC t;rcases es with rfl|rfl;·exact⟨g.mv k t ne pj iX xC W two.mB (qS (oj fi) (qS (oj R) fj (by rw[i4];omega)) (by rw[i4,jA];omega)) (by rwa[jA,jA]),yL _ _ _,ZeR g k t ne pj iX R tl J,RQ g iX _ ne⟩
   ·exact⟨g.mv t k (λz=>ne z.symm) xC W pj iX two.mA (qS (oj fj) (qS R fi QO) (by rw[i4,jA];omega)) (by rwa[jA,jA]),yL _ _ _,ZeS g k t ne xC W R tl J,(RQ g W _ (λz=>ne z.symm)).symm⟩
  ·have e:st.ag i=st.ag j:=by
    by_cases z:st.ag i=st.ag j;·exact z
    ·rw[eJ z] at c;exact absurd rfl c
   exact Zdx g k t e J
  ·have e:st.ag i=st.ag j:=by
    by_cases z:st.ag i=st.ag j;·exact z
    ·rw[eJ z] at c;exact absurd rfl c
   exact Zdy e
 rintro _ E ⟨rfl,A,u,N,k2,o2,j2,eP,G,TH,iff,hdj⟩;obtain⟨rV,qy⟩:=j2.obj;have T:i<u.hd.length:=by rwa[TH]
 have fl:=G.B7;refine⟨_,rfl,A.J,rV,_,by rw[N],qy,rfl,_,rfl,_,rfl,A,u,n,i,_,_,_,ns,p,by rw[N];rfl,j2,G.one I T,QO,aj.of eP,λl2 H3 k3 k4 o3 j3=>?_⟩;refine q ar l2 _ H3 (k3.trans N) (λc hc=>k2 c (by rw[←k4];exact hc)) (λb o e nb=>o3 _ _ (o2 _ _ e nb) λz=>nb (k2 b z)) j3 ⟨G.lV T,TH,λ_=>⟨?_,λf=>?_⟩,(λz=>nomatch z),λ_=>hdj⟩
 ·obtain⟨x,mx⟩:∃x,x∈ns:=by
   cases ns with
   |nil=>exact absurd rfl nne
   |cons a r=>exact⟨a,Yj⟩
  obtain⟨f,d,e1,e2⟩:=O9 g k t L ((J x).mp mx);refine⟨f,(x_ G T ns f).mpr ((iff f).mpr ⟨d,?_⟩)⟩;rw[e2,e1]
 ·exact(x_ G T ns f).trans (iff f)
def yX(a b:Z Int):Prop:=full a=ar/\full b=ar/\a.length=b.length/\2<=a.length/\a.length<=8
structure Fc where
 k:af
 one:Nat
 bh:Int
 tn:Z Int
abbrev cV:af:="said"
def rC(F:Z Fc)(x y:Nat)(t:Z Int):Prop:=∃c∈F,c.k≠cV/\((c.one=x/\c.bh.toNat=y/\t=c.tn)\/(c.bh.toNat=x/\c.one=y/\t=inv c.tn))
structure iy(n m:Nat)(c:Fc):Prop where
 one:c.one<m
 jP:c.k≠cV->(0<=c.bh/\c.bh.toNat<m)/\full c.tn=ar/\c.tn.length=n
def vL:rC (F++[c]) x y t↔rC F x y t\/(c.k≠cV/\((c.one=x/\c.bh.toNat=y/\t=c.tn)\/(c.bh.toNat=x/\c.one=y/\t=inv c.tn))):=by
 constructor
 ·rintro⟨a,m,d,b⟩;rcases Yu.mp m with m|m;·exact .inl ⟨a,m,d,b⟩
  ·rw[Yl] at m;subst m;exact .inr ⟨d,b⟩
 ·rintro(⟨a,m,h⟩|h);·exact⟨a,Yk _ m,h⟩
  ·exact⟨c,Ye _ Yj,h⟩
theorem mem_lookup:∀{a:Z (Nat×α)} {k:Nat} {v:α},(a.map (·.1)).Nodup->(k,v)∈a->a.lookup k=O v
 |p::a,k,v,b,h=>by
  obtain⟨d,c⟩:=Y4.mp (show(p.1::a.map (·.1)).Nodup from b);rw[Jw];rcases Ys.mp h with h|h;·grind
  ·have e:k≠p.1:=λz=>d (by rw[←z];exact Yh.mpr ⟨_,h,rfl⟩);rw[beq_eq_false_iff_ne.mpr e];exact mem_lookup c h
def Gn{k:Nat}(h:a.lookup k=O v):(a++[q]).lookup k=O v:=by
 grind
def Zbe{k:Nat}(h:a.lookup k=aI):(a++[(k,v)]).lookup k=O v:=by
 grind
def Qq(a:∀c∈F,iy n m c)(e:rC F x y t):x<m/\y<m/\full t=ar/\t.length=n:=by
 obtain⟨c,b,i,h⟩:=e;obtain⟨⟨l,d⟩,j,k⟩:=(a c b).jP i;have g:=(a c b).one;rcases h with⟨rfl,rfl,rfl⟩|⟨rfl,rfl,rfl⟩;·grind
 ·exact⟨d,g,oj j,by rwa[i4]⟩
inductive eO(F:Z Fc)(x:Nat):Nat->Prop
 |refl:eO F x x
 |step {y z:Nat} {t:Z Int}:eO F x y->rC F y z t->eO F x z
open Classical in
def jg(f:Nat->Int)(c:Fc):Prop:=(c.k=cV->f c.one=c.bh)/\(c.k≠cV->f c.bh.toNat=ap c.tn (f c.one))
def z8(n m:Nat)(f:Nat->Int):Prop:=∀i,i<m->0<=f i/\f i<(n:Int)
structure fK(n:Nat)(st:JS)(F:Z Fc):Prop where
 wf:WF n st
 DK:∀c∈F,iy n st.hd.length c
 iff:∀f,dw st f↔z8 n st.hd.length f/\∀c∈F,jg f c
 live:∃f,dw st f
 conn:∀i j,i<st.hd.length->j<st.hd.length->(st.ag i=st.ag j↔eO F i j)
open Classical in
section
variable {n:Nat}{st:JS}{F:Z Fc}
def fK.put(h:fK n st F)(l:iy n st.hd.length c)(g:WF n b)(a:b.hd.length=st.hd.length)(d:∃f,dw b f)(iff:∀f,dw b f↔dw st f/\jg f c)(m:∀i j,i<st.hd.length->j<st.hd.length->(b.ag i=b.ag j↔eO (F++[c]) i j)):fK n b (F++[c]):=by
 refine⟨g,λk e=>?_,λf=>?_,d,by rwa[a]⟩
 ·rw[a];rcases Yu.mp e with e|e;·exact h.DK k e
  ·grind
 ·rw[iff,h.iff,a,and_assoc]
  grind
def lM(a:i<st.hd.length):(st.more n).ag i=st.ag i:=by
 show(st.hd++[_]).getD i 0=st.hd.getD i 0
 grind
def pN:(st.more n).ag st.hd.length=st.hd.length:=by
 show(st.hd++[_]).getD _ 0=_;simp
def Pb(a:WF n st)(b:i<st.hd.length):(st.more n).bH i=st.bH i:=by
 show(st.ld++[_]).getD i []=st.ld.getD i [];rw[Yd,Y9 (by rwa[a.ll]),←Yd]
def Ou(a:WF n st):(st.more n).bH st.hd.length=aE n:=by
 show(st.ld++[_]).getD _ []=_;rw[←a.ll];simp
theorem FX{b:Type}{a:Z (Nat×b)}{k:Nat}{v:b}(h:k∉a.map (·.1)):(a++[(k,v)]).lookup k=O v:=by
 refine Zbe ?_;cases e:a.lookup k with
 |none=>rfl
 |some x=>exact absurd (Gm e) h
def jy:(st.more n).hd.length=st.hd.length+1:=by
 show(st.hd++[_]).length=_;simp
def Zca(n:Nat):full (aE n)=ar/\(aE n).length=n:=⟨qV (mF (aE n)),fX n⟩
def HR(h:0<=z/\z<(n:Int)):ap (aE n) z=z:=by
 show(aE n).getD z.toNat 0=z;rw[Yd,lL QO]
 grind
def G7:z∈aE n↔0<=z/\z<(n:Int):=by
 unfold aE;rw[Yh];constructor;·grind
 ·intro h;exact⟨z.toNat,Wf.mpr QO,LY h.1⟩
def WF.zf(a:WF n st)(b:i<st.hd.length):st.ag i<st.hd.length:=a.lf _ (Gm (a.eI b).1)
def WF.more(c:WF n st):WF n (st.more n):=by
 have p:st.hd.length∉st.mem.map (·.1):=λz=>Wd _ (c.lm _ z);have q:=λz=>Wd _ (c.lf _ z);have s:(st.more n).mem.map (·.1)=st.mem.map (·.1)++[st.hd.length]:=by
  show(st.mem++[(st.hd.length,[st.hd.length])]).map (·.1)=_;rw[Yt];rfl
 have o:(st.more n).fr.map (·.1)=st.fr.map (·.1)++[st.hd.length]:=by
  show(st.fr++[(st.hd.length,aE n)]).map (·.1)=_;rw[Yt];rfl
 have r:∀{m:Z Nat},m.Nodup->st.hd.length∉m->(m++[st.hd.length]).Nodup:=λ{m} h D=>Wp.mpr ⟨h,QS,λu v w y z=>by
  have:w=st.hd.length:=by simpa using y
  rw[z,this] at v;exact D v⟩
 refine⟨?_,λt A=>?_,λi d=>?_,λi d=>?_,?_,?_,?_,?_,?_⟩
 ·show(st.ld++[_]).length=(st.hd++[_]).length;rw[Yq,Yq,c.ll];rfl
 ·rcases Yu.mp (A) with h|h;·exact c.fl t h
  ·rw[Yl] at h;exact h▸Zca n
 ·rw[jy] at d;by_cases z:i=st.hd.length
  ·rw[z,pN];exact⟨aE n,FX q,K3.Nj n,λ z=>G7.mp⟩
  ·rw[lM (dy (dR d) z)];exact⟨_,Gn (c.eI (dy (dR d) z)).1,(c.eI (dy (dR d) z)).2⟩
 ·rw[jy] at d;by_cases z:i=st.hd.length
  ·rw[z,pN];refine⟨[st.hd.length],FX p,QS,λk=>?_⟩;rw[Yl,jy];constructor
   ·rintro rfl;exact⟨(m_ _),pN⟩
   ·rintro⟨g,j⟩;by_cases w:k=st.hd.length;·exact w
    ·rw[lM (dy (dR g) w)] at j;have:=c.zf (i:=k) (dy (dR g) w);omega
  ·obtain⟨x,e,a,b⟩:=c.mem i (dy (dR d) z);rw[lM (dy (dR d) z)];refine⟨x,Gn e,a,λk=>?_⟩;rw[b,jy];constructor
   ·rintro⟨g,j⟩;exact⟨(lb g),by rwa[lM g]⟩
   ·rintro⟨g,j⟩;by_cases w:k=st.hd.length
    ·rw[w,pN] at j;have:=c.zf (i:=i) (dy (dR d) z);omega
    ·rw[lM (dy (dR g) w)] at j;exact⟨(dy (dR g) w),j⟩
 ·exact s▸r c.nm p
 ·rw[s,jy];intro k l;rcases Yu.mp l with h|h;·have:=c.lm k h;exact lb this
  ·rw[Yl] at h;exact Up (gR h)
 ·exact o▸r c.nf q
 ·rw[o,jy];intro k l;rcases Yu.mp l with h|h;·have:=c.lf k h;exact lb this
  ·rw[Yl] at h;exact Up (gR h)
 ·rw[o,jy];intro k l;rcases Yu.mp l with h|h
  ·obtain⟨i,d,e⟩:=c.hf k h;exact⟨i,(lb d),by rwa[lM d]⟩
  ·rw[Yl] at h;exact⟨st.hd.length,(m_ _),by rw[pN,h]⟩
def Ov(c:WF n st)(f:Nat->Int):dw (st.more n) f↔dw st f/\(0<=f st.hd.length/\f st.hd.length<(n:Int)):=by
 have e:(st.more n).bX st.hd.length=aE n:=by
  show((st.fr++[(st.hd.length,aE n)]).lookup st.hd.length).getD []=_;rw[FX (λz=>Wd _ (c.lf _ z))];rfl
 have g:∀i,i<st.hd.length->(st.more n).bX (st.ag i)=st.bX (st.ag i):=λi a=>by
  show((st.fr++[(st.hd.length,aE n)]).lookup _).getD []=_;rw[Gn (c.eI a).1];rfl
 constructor
 ·rintro⟨s,h⟩;refine⟨⟨s,λi a=>?_⟩,?_⟩
  ·have x:=h i (by rw[jy];exact lb a);rw[lM a,Pb c a,g i a] at x;exact x
  ·have x:=h st.hd.length (by rw[jy];exact m_ _);rw[pN,Ou c,e] at x;have b:=G7.mp x.1;rwa[x.2,HR b]
 ·rintro⟨⟨s,h⟩,b⟩;refine⟨λq=>if q=st.hd.length then f st.hd.length else s q,λi a=>?_⟩;rw[jy] at a;by_cases z:i=st.hd.length
  ·rw[z,pN,Ou c,e];show(if st.hd.length=st.hd.length then _ else _)∈_/\f st.hd.length=ap _ (if st.hd.length=st.hd.length then _ else _);rw[br rfl,HR b];exact⟨G7.mpr b,rfl⟩
  ·have d:i<st.hd.length:=(dy (dR a) z)
   have:=c.zf d;rw[lM d,Pb c d,g i d]
   grind
theorem ZeT(a:∀c∈F,iy n m c)(h:eO F x y)(b:x<m):y<m:=by
 cases h with
 |refl=>exact b
 |step _ e=>exact(Qq a e).2.1
theorem fK.more(a:fK n st F)(v:0<n):fK n (st.more n) F:=by
 refine⟨a.wf.more,λc r=>?_,λf=>?_,?_,λi j d m=>?_⟩
 ·have ok:=a.DK c r;exact jy▸⟨Wo ok.one,λp=>⟨⟨(ok.jP p).1.1,Wo (ok.jP p).1.2⟩,(ok.jP p).2⟩⟩
 ·rw[Ov a.wf,a.iff,jy];constructor
  ·rintro⟨⟨o,q⟩,x⟩;refine⟨λi d=>?_,q⟩;by_cases z:i=st.hd.length;·rwa[z]
   ·exact o i (dy (dR d) z)
  ·rintro⟨o,q⟩;exact⟨⟨λi d=>o i (lb d),q⟩,o _ (m_ _)⟩
 ·obtain⟨u,s,h⟩:=a.live;refine⟨λi=>if i=st.hd.length then 0 else u i,(Ov a.wf _).mpr ⟨⟨s,λi d=>?_⟩,?_⟩⟩;·grind
  ·grind
 ·rw[jy] at d m;by_cases l:i=st.hd.length
  ·by_cases g:j=st.hd.length;·rw[l,g];exact⟨λ_=>.refl,λ_=>rfl⟩
   ·rw[l,pN,lM (dy (dR m) g)];have:=a.wf.zf (i:=j) (dy (dR m) g);refine⟨λz=>QO,λz=>?_⟩;have b:∀{k:Nat},eO F st.hd.length k->k=st.hd.length:=λ{k} h=>by
     induction h with
     |refl=>rfl
     |step _ e t=>rw[t] at e;exact absurd (Qq a.DK e).1 (Wd _)
    exact absurd (b z) g
  ·by_cases g:j=st.hd.length
   ·rw[g,pN,lM (dy (dR d) l)];have:=a.wf.zf (i:=i) (dy (dR d) l);refine⟨λz=>QO,λz=>?_⟩;have:=ZeT a.DK z (dy (dR d) l);omega
   ·rw[lM (dy (dR d) l),lM (dy (dR m) g)];exact a.conn i j (dy (dR d) l) (dy (dR m) g)
def Zhn:fK n ⟨[],[],[],[]⟩ []:=⟨wf0,λ_ h=>(nomatch h),λf=>⟨λ_=>⟨λ_ h=>absurd h (Ww _),λ_ h=>(nomatch h)⟩,λ_=>⟨λ_=>0,λ_ h=>absurd h (Ww _)⟩⟩,⟨λ_=>0,λ_=>0,λ_ h=>absurd h (Ww _)⟩,λ_ _ h=>absurd h (Ww _)⟩
end
theorem eO.mono(h:∀x y t,rC F x y t->rC G x y t)(c:eO F x y):eO G x y:=by
 induction c with
 |refl=>exact .refl
 |step _ e a=>exact .step a (h _ _ _ e)
theorem eO.trans(c:eO F x y)(d:eO F y z):eO F x z:=by
 induction d with
 |refl=>exact c
 |step _ e a=>exact .step a e
def Zcb(h:c.k=cV):eO (F++[c]) x y↔eO F x y:=
 ⟨eO.mono λ_ _ _ e=>(vL.mp e).elim id λz=>absurd h z.1,eO.mono λ_ _ _ e=>vL.mpr (.inl e)⟩
theorem Zdz(h:c.k≠cV):eO (F++[c]) x y↔eO F x y\/(eO F x c.one/\eO F c.bh.toNat y)\/(eO F x c.bh.toNat/\eO F c.one y):=by
 have up:∀{x y:Nat},eO F x y->eO (F++[c]) x y:=λd=>d.mono λ_ _ _ e=>vL.mpr (.inl e);have j:rC (F++[c]) c.one c.bh.toNat c.tn:=vL.mpr (.inr ⟨h,.inl ⟨rfl,rfl,rfl⟩⟩);have i:rC (F++[c]) c.bh.toNat c.one (inv c.tn):=vL.mpr (.inr ⟨h,.inr ⟨rfl,rfl,rfl⟩⟩);constructor
 ·intro d;induction d with
  |refl=>exact .inl .refl
  |step _ e g=>
   rcases vL.mp e with e|⟨_,⟨rfl,rfl,_⟩|⟨rfl,rfl,_⟩⟩
   ·rcases g with a|⟨a,b⟩|⟨a,b⟩;·exact .inl (.step a e)
    ·exact .inr (.inl ⟨a,.step b e⟩)
    ·exact .inr (.inr ⟨a,.step b e⟩)
   ·rcases g with a|⟨a,b⟩|⟨a,b⟩;·exact .inr (.inl ⟨a,.refl⟩)
    ·exact .inr (.inl ⟨a,.refl⟩)
    ·exact .inl a
   ·rcases g with a|⟨a,b⟩|⟨a,b⟩;·exact .inr (.inr ⟨a,.refl⟩)
    ·exact .inl a
    ·exact .inr (.inr ⟨a,.refl⟩)
 ·rintro(a|⟨a,b⟩|⟨a,b⟩);·exact up a
  ·exact((up a).step j).trans (up b)
  ·exact((up a).step i).trans (up b)
section
variable {n i j:Nat}{st X:JS}{F:Z Fc}{k:af}{tn:Z Int}{b:bA}
def ZdA(a:fK n st F)(c:RS n st X b i j tn)(o:k≠cV)(p:iy n st.hd.length ⟨k,i,(j:Int),tn⟩):(b=ar->fK n X (F++[⟨k,i,(j:Int),tn⟩]))/\(b=aY->fK n X F/\∀f,dw X f->¬jg f ⟨k,i,(j:Int),tn⟩):=by
 have g:∀f,jg f ⟨k,i,(j:Int),tn⟩↔f j=ap tn (f i):=λf=>⟨λh=>by have:=h.2 o;rwa [show((⟨k,i,(j:Int),tn⟩:Fc).bh.toNat)=j from We j] at this,λh=>⟨λz=>absurd z o,λ_=>by rwa[show((⟨k,i,(j:Int),tn⟩:Fc).bh.toNat)=j from We j]⟩⟩;refine⟨λe=>?_,λe=>?_⟩
 ·obtain⟨s,iff⟩:=c.yes e;have r:=p.one;have q:j<st.hd.length:=by
   have:=(p.jP o).1.2
   rwa [show((⟨k,i,(j:Int),tn⟩:Fc).bh.toNat)=j from We j] at this
  refine a.put p c.wf c.len s (λf=>by rw[iff,g]) λx y m l=>?_;rw[c.hds e x y m l,Zdz o,show((⟨k,i,(j:Int),tn⟩:Fc).bh.toNat)=j from We j,a.conn x y m l,a.conn x i m r,a.conn x j m q,←a.conn j y q l,←a.conn i y r l];exact or_congr_right (or_congr (rr λ_=>eq_comm) (rr λ_=>eq_comm))
 ·obtain⟨t,no⟩:=c.no e;exact t▸⟨a,λf d z=>no f d ((g f).mp z)⟩
def Qr(c:fK n st F)(e:i<st.hd.length)(m:a∈(st.bX (st.ag i)).map λz=>(st.bH i).getD z.toNat 0):fK n (st.lV (st.ag i) ((st.bX (st.ag i)).filter λz=>decide ((st.bH i).getD z.toNat 0∈[a]))) (F++[⟨cV,i,a,tn⟩]):=by
 refine c.put ⟨e,absurd rfl⟩ (c.wf.lV e) rfl ?_ (λf=>?_) λx y o l=>?_
 ·obtain⟨z,g,rfl⟩:=Yh.mp m;obtain⟨r,p⟩:=c.live;obtain⟨f,d,q⟩:=GG c.wf p (st.ag i) (st.ag i) z z g g (λ_=>rfl);exact⟨f,(x_ c.wf e _ f).mpr ⟨d,by rw[(q i e).1 rfl];exact Yj⟩⟩
 ·rw[x_ c.wf e,Yl];refine rr λ_=>?_;exact⟨λh=>⟨λ_=>h,absurd rfl⟩,λh=>h.1 rfl⟩
 ·rw[Zcb rfl];exact c.conn x y o l
def Zgy(g:fK n st F)(c:i<st.hd.length)(m:a∉(st.bX (st.ag i)).map λz=>(st.bH i).getD z.toNat 0)(f:Nat->Int)(d:dw st f):¬jg f ⟨cV,i,a,tn⟩:=by
 obtain⟨s,h⟩:=d;intro z;have e:f i=a:=z.1 rfl;refine m (Yh.mpr ⟨s (st.ag i),(h i c).1,?_⟩);rw[←e,(h i c).2];rfl
end
abbrev dN:=Z (af×af)
def ay(a:dN)(i:Nat):af:=(a.getD i ("","")).1
def cJ(a:dN)(c:Fc):Key:=if c.k=cV then .inl c.bh else .inr (ay a c.bh.toNat)
def iz(a:dN)(z:Nat)(c:Fc):Z Key:=[.inl (z:Int),.inr c.k,.inr (ay a c.one),cJ a c]
def keyOf(k a:af):Key->Z Key
 |.inl b=>[.inr k,.inr a,.inl b]
 |.inr b=>if k="sibling" then[.inr k,.inr (L2.qi a b),.inr (L2.qj a b)] else[.inr k,.inr a,.inr b]
def gs(a:dN)(c:Fc):Z Key:=keyOf c.k (ay a c.one) (cJ a c)
def bC(k:af):bA:=decide (k="mother")||decide (k="father")
def f_(a:dN)(b:Z (Nat×Fc)):Z (Z Key×V):=b.map λp=>(gs a p.2,.int (p.1:Int))
def bV(a:dN)(b:Z (Nat×Fc)):Z (Z Key×V):=(b.filter λp=>bC p.2.k).map λp=>([.inr p.2.k,.inr (ay a p.2.one)],kV (cJ a p.2))
def jr(a:dN):Z (Key×V):=a.zipIdx.map λp=>(.inr p.1.1,.int (p.2:Int))
structure Cy where
 way:Int
 row:Z Key
 c0:Nat
 c1:Nat
def jW(H:Hp)(a:U)(d:Cy):Prop:=∃r,H a=O (.tup [.int d.way,.ref r,.int (d.c0:Int),.int (d.c1:Int)])/\H r=O (.tup (d.row.map kV))
structure BS where
 ps:dN
 fs:Z (Nat×Fc)
 co:Nat
 dn:Z Cy
 un:Z Cy
def BS.F(b:BS):Z Fc:=b.fs.map (·.2)
structure BL where
 h:U
 L:U
 sd:U
 pl:U
 fc:U
 kn:U
 pr:U
 dn:U
 un:U
 rk:V
 bL:Z U
 iY:Z U
 lD:Z U
 fG:Z U
def BL.own(l:BL):Z U:=[l.h,l.sd,l.pl,l.fc,l.kn,l.pr,l.dn,l.un]
def BL.fp(l:BL):Z U:=l.own++l.fG
structure hJ(K:ae)(C:U):Prop where
 cls:gn K C
 yM:c9 K C "land"
 sO:c9 K C "sides"
 oo:c9 K C "places"
 Bo:c9 K C "facts"
 Bp:c9 K C "known"
 vH:c9 K C "parents"
 vM:c9 K C "coming"
 RT:c9 K C "done"
 Pc:c9 K C "undone"
 i6:c9 K C "reckoned"
abbrev HF(L b e h g d:U)(j:Int)(i a:U)(c:V):Z (af×V):=[("land",.ref L),("sides",.ref b),("places",.ref e),("facts",.ref h),("known",.ref g),("parents",.ref d),("coming",.int j),("done",.ref i),("undone",.ref a),("reckoned",c)]
def Zik(a b c d e f g h i j:V):cy "reckoned" j (cy "undone" i (cy "done" h (cy "coming" g (cy "parents" f (cy "known" e (cy "facts" d (cy "places" c (cy "sides" b (cy "land" a [])))))))))=
  ([("land",a),("sides",b),("places",c),("facts",d),("known",e),("parents",f),("coming",g),("done",h),("undone",i),("reckoned",j)]:Z (af×V)):=rfl
abbrev fO(a:dN):Z (Key×V):=a.map λp=>(.inr p.1,.str p.2)
inductive t_(H:Hp)(CJ:U)(n:Nat)(l:BL)(b:BS):Prop
 |no (e:l.rk=.aB) (d:l.fG=[])
 |at_ (c:JL) (st:JS) (e:l.rk=.ref c.J) (d:l.fG=c.fp) (h:bU H CJ n c st) (g:fK n st b.F) (len:st.hd.length=b.ps.length) (i:∀a∈l.own,a∉c.fp)
structure a_(H:Hp)(C CL CJ:U)(l:BL)(xs ys:Z Int)(b:BS):Prop where
 obj:∃dx,H l.h=O (.ins C dx (HF l.L l.sd l.pl l.fc l.kn l.pr (b.co:Int) l.dn l.un l.rk))
 land:∀H',Out l.fp H H'->fQ H' CL l.L xs ys
 cH:H l.sd=O (.dK (fO b.ps))
 places:H l.pl=O (.dK (jr b.ps))
 facts:H l.fc=O (.dK (bj (b.fs.map (·.1)) l.bL))
 fact:Paired (λa (p:Nat×Fc)=>H a=O (.tup ((iz b.ps p.1 p.2).map kV))) l.bL b.fs
 known:H l.kn=O (.dT (f_ b.ps b.fs))
 parents:H l.pr=O (.dT (bV b.ps b.fs))
 done:H l.dn=O (.lst (l.iY.map V.ref))
 ka:Paired (jW H) l.iY b.dn
 h_:H l.un=O (.lst (l.lD.map V.ref))
 lO:Paired (jW H) l.lD b.un
 qa:t_ H CJ xs.length l b
 nd:l.own.Nodup
def jW.out(o:Out fp H g)(t:∀a e,H a=O (.tup e)->a∉fp)(h:jW H a d):jW g a d:=by
 obtain⟨r,c,b⟩:=h;exact⟨r,o _ _ c (t _ _ c),o _ _ b (t _ _ b)⟩
def bU.off(j:bU H C n l st)(h:H a=O (.tup xs)):a∉l.fp:=by
 intro z;unfold JL.fp at z;simp[Ys] at z;rcases z with rfl|rfl|rfl|rfl|rfl|z
 ·obtain⟨b,e⟩:=j.obj
  grind
 ·rw[j.heads] at h;cases h
 ·rw[j.gk] at h;cases h
 ·rw[j.iJ] at h;cases h
 ·rw[j.frees] at h;cases h
 ·obtain⟨y,e⟩:=yd j.mem z
  grind
theorem bU.gO(j:bU H C n l st)(o:Out fp H g)(v:∀a∈fp,a∉l.fp)(s:∀a∈fp,a∉l.bL)(t:∀a q,H a=O (.tup q)->a∉fp):bU g C n l st:=by
 have k:∀{a:U} {u:HO},H a=O u->a∈l.fp->g a=O u:=λ{a u} e m=>o _ _ e λz=>v _ z m;obtain⟨r,e⟩:=j.obj;refine⟨⟨r,k e (by simp[JL.fp])⟩,k j.heads (by simp[JL.fp]),k j.gk (by simp[JL.fp]),L2.Paired.aW j.lead λa x h=>o _ _ h (t _ _ h),k j.iJ (by simp[JL.fp]),?_,k j.frees (by simp[JL.fp]),?_,j.nd,j.out⟩
 ·have d:∀{b:Z U} {ps:Z (Nat×Z Nat)},Paired (λa p=>H a=O (.lst (eC p.2))) b ps->(∀a∈b,a∈l.fp)->Paired (λa p=>g a=O (.lst (eC p.2))) b ps:=by
   intro b ps p;induction p with
   |nil=>intro _;exact .nil
   |cons f _ i=>intro m;exact .cons (k f (m _ Yj)) (i λa c=>m a (Yv _ c))
  exact d j.mem λa c=>by simp[JL.fp,c]
 ·have d:∀{b:Z U} {ps:Z (Nat×Z Int)},Paired (λa p=>H a=O (.lst (p.2.map V.int))) b ps->(∀a∈b,a∈l.bL)->Paired (λa p=>g a=O (.lst (p.2.map V.int))) b ps:=by
   intro b ps p;induction p with
   |nil=>intro _;exact .nil
   |cons f _ i=>intro m;exact .cons (o _ _ f λz=>s _ z (m _ Yj)) (i λa c=>m a (Yv _ c))
  exact d j.free λa c=>c
section
variable {H:Hp}{l:BL}{b:BS}
def a_.landAt(h:a_ H C CL CJ l xs ys b):fQ H CL l.L xs ys:=h.land H (Out.of (aq.refl _))
theorem a_.tup(h:a_ H C CL CJ l xs g b)(e:H a=O (.tup us)):a∉l.fp:=by
 intro z;unfold BL.fp BL.own at z;rcases Yu.mp z with z|z
 ·simp[Ys,Wb,fH] at z;rcases z with rfl|rfl|rfl|rfl|rfl|rfl|rfl|rfl
  ·obtain⟨j,q⟩:=h.obj
   grind
  ·rw[h.cH] at e;cases e
  ·rw[h.places] at e;cases e
  ·rw[h.facts] at e;cases e
  ·rw[h.known] at e;cases e
  ·rw[h.parents] at e;cases e
  ·rw[h.done] at e;cases e
  ·rw[h.h_] at e;cases e
 ·cases h.qa with
  |no _ c=>grind
  |at_ i st _ c d=>rw[c] at z;exact d.off e z
theorem a_.there(h:a_ H C CL CJ l xs g b)(z:a∈l.fp):H a≠aI:=by
 intro e;unfold BL.fp BL.own at z;rcases Yu.mp z with z|z
 ·simp[Ys,Wb,fH] at z;rcases z with rfl|rfl|rfl|rfl|rfl|rfl|rfl|rfl
  ·obtain⟨j,q⟩:=h.obj
   grind
  ·rw[h.cH] at e;cases e
  ·rw[h.places] at e;cases e
  ·rw[h.facts] at e;cases e
  ·rw[h.known] at e;cases e
  ·rw[h.parents] at e;cases e
  ·rw[h.done] at e;cases e
  ·rw[h.h_] at e;cases e
 ·cases h.qa with
  |no _ c=>grind
  |at_ i st _ c d=>rw[c] at z;exact d.ne e z
theorem t_.same(g:aq H k)(h:t_ H CJ n l b):t_ k CJ n l b:=by
 cases h with
 |no c a=>exact .no c a
 |at_ e st c a i d len j=>exact .at_ e st c a (i.same g) d len j
def a_.same(g:aq H k)(h:a_ H C CL CJ l xs d b):a_ k C CL CJ l xs d b:=
 ⟨let⟨i,e⟩:=h.obj;⟨i,g _ _ e⟩,λj o=>h.land j ((Out.of g).trans o),g _ _ h.cH,g _ _ h.places,g _ _ h.facts,L2.Paired.aW h.fact λ _ _=>g _ _,g _ _ h.known,g _ _ h.parents,g _ _ h.done,L2.Paired.aW h.ka λ_ _ ⟨r,c,a⟩=>⟨r,g _ _ c,g _ _ a⟩,g _ _ h.h_,L2.Paired.aW h.lO λ_ _ ⟨r,c,a⟩=>⟨r,g _ _ c,g _ _ a⟩,h.qa.same g,h.nd⟩
def fC(d c:Z U)(H:Hp):Prop:=∀a∈c,a∈d\/H a=aI
def fC.refl(a:Z U)(H:Hp):fC a a H:=λ_ h=>.inl h
def G8(o:Out fp H H1)(g:fC fp c H)(d:Out c H1 H2):Out fp H H2:=λa u e n=>d _ _ (o _ _ e n) λz=>(g a z).elim n λq=>by rw[e] at q;cases q
theorem fC.trans(g:fC fp d H)(o:Out fp H H1)(h:fC d c H1):fC fp c H:=λa z=>by
 rcases h a z with q|q;·exact g a q
 ·by_cases m:a∈fp;·exact .inl m
  ·right
   cases e:H a with
   |none=>rfl
   |some u=>rw[o _ _ e m] at q;cases q
def fC.same(s:aq H H1)(d:fC fp c H1):fC fp c H:=λa z=>(d a z).imp id λq=>s.free q
def ZdB(c:fK n st F)(m:(k,a)∈st.fr):a≠[]:=by
 obtain⟨i,g,e⟩:=c.wf.hf k (Yh.mpr ⟨_,m,rfl⟩);obtain⟨f,s,d⟩:=c.live;have q:=(d i g).1;unfold JS.bX at q;rw[e,(mem_lookup c.wf.nf m)] at q
 grind
theorem ZeU(A:bU H CJ n z st)(v:fK n st b.F)(h:∃T t,H l.h=O (.ins C T t))(Q:∃k,H l.sd=O (.dK k))(P:∃k,H l.pl=O (.dK k))(N:∃k,H l.fc=O (.dK k))(L:∃k,H l.kn=O (.dT k))(J:∃k,H l.pr=O (.dT k))(I:∃c:Z U,H l.dn=O (.lst (c.map V.ref)))(G:∃c:Z U,H l.un=O (.lst (c.map V.ref))):∀a∈l.own,a∉z.bL:=by
 intro a g F;obtain⟨p,E,e⟩:∃p∈st.fr,H a=O (.lst (p.2.map V.int)):=by
  have j:∀{c:Z U} {d:Z (Nat×Z Int)},Paired (λa p=>H a=O (.lst (p.2.map V.int))) c d->a∈c->∃p∈d,H a=O (.lst (p.2.map V.int)):=by
   intro c d u;induction u with
   |nil=>intro h;cases h
   |cons f _ D=>
    intro h;rcases Ys.mp h with rfl|h;·exact⟨_,Yj,f⟩
    ·obtain⟨q,m,e⟩:=D h;exact⟨q,Yv _ m,e⟩
  exact j A.free F
 have ne:=ZdB v (k:=p.1) E;have lst:∀c:Z U,H a=O (.lst (c.map V.ref))->False:=λc q=>by
  rw[q] at e;have i:c.map V.ref=p.2.map V.int:=by injection e with e;injection e
  cases o:p.2 with
  |nil=>exact ne o
  |cons x r=>
   rw[o] at i;cases c with
   |nil=>cases i
   |cons y s=>injection i with R _;cases R
 unfold BL.own at g;simp[Ys,Wb,fH] at g;rcases g with rfl|rfl|rfl|rfl|rfl|rfl|rfl|rfl;·obtain⟨_,_,q⟩:=h;rw[q] at e;cases e
 ·obtain⟨_,q⟩:=Q;rw[q] at e;cases e
 ·obtain⟨_,q⟩:=P;rw[q] at e;cases e
 ·obtain⟨_,q⟩:=N;rw[q] at e;cases e
 ·obtain⟨_,q⟩:=L;rw[q] at e;cases e
 ·obtain⟨_,q⟩:=J;rw[q] at e;cases e
 ·obtain⟨_,q⟩:=I;exact lst _ q
 ·obtain⟨_,q⟩:=G;exact lst _ q
def a_.II(h:a_ H C CL CJ l xs j b)(g:bU H CJ xs.length d st)(c:fK xs.length st b.F):∀a∈l.own,a∉d.bL:=
 ZeU g c (let⟨i,e⟩:=h.obj;⟨i,_,e⟩) ⟨_,h.cH⟩ ⟨_,h.places⟩ ⟨_,h.facts⟩ ⟨_,h.known⟩ ⟨_,h.parents⟩ ⟨_,h.done⟩ ⟨_,h.h_⟩
def a_.build(h:a_ H C CL CJ l xs z b)(v:l'.h=l.h)(x:l'.L=l.L)(n:l'.sd=l.sd)(r:l'.pl=l.pl)(t:l'.fc=l.fc)(s:l'.kn=l.kn)(q:l'.pr=l.pr)(u:l'.dn=l.dn)(m:l'.un=l.un)(o:Out l.fp H c)(g:fC l.fp l'.fp H)
  (E:∃J,c l.h=O (.ins C J (HF l.L l.sd l.pl l.fc l.kn l.pr (b'.co:Int) l.dn l.un l'.rk)))(P:c l.sd=O (.dK (fO b'.ps)))(i:c l.pl=O (.dK (jr b'.ps)))(k:c l.fc=O (.dK (bj (b'.fs.map (·.1)) l'.bL)))
  (e:Paired (λa (p:Nat×Fc)=>c a=O (.tup ((iz b'.ps p.1 p.2).map kV))) l'.bL b'.fs)(j:c l.kn=O (.dT (f_ b'.ps b'.fs)))(d:c l.pr=O (.dT (bV b'.ps b'.fs)))
  (y:c l.dn=O (.lst (l'.iY.map V.ref)))(I:Paired (jW c) l'.iY b'.dn)(N:c l.un=O (.lst (l'.lD.map V.ref)))(G:Paired (jW c) l'.lD b'.un)(A:t_ c CJ xs.length l' b'):a_ c C CL CJ l' xs z b':=by
 have D:l'.own=l.own:=by unfold BL.own;rw[v,n,r,t,s,q,u,m]
 refine⟨?_,λL F=>?_,by rwa[n],by rwa[r],by rwa[t],e,by rwa[s],by rwa[q],by rwa[u],I,by rwa[m],G,A,by exact D▸h.nd⟩;·rwa[v,x,n,r,t,s,q,u,m]
 ·exact x▸h.land L (G8 o g F)
theorem a_.owned(h:a_ H C CL CJ l xs J b)(F:l'.h=l.h)(G:l'.L=l.L)(s:l'.sd=l.sd)(v:l'.pl=l.pl)(y:l'.fc=l.fc)(x:l'.kn=l.kn)(t:l'.pr=l.pr)(A:l'.dn=l.dn)(r:l'.un=l.un)
  (D:(l'.rk=l.rk/\l'.fG=l.fG/\b'.F=b.F/\b'.ps.length=b.ps.length)\/(l'.rk=.aB/\l'.fG=[]))(o:Out l.own H H')
  (P:∃dx,H' l.h=O (.ins C dx (HF l.L l.sd l.pl l.fc l.kn l.pr (b'.co:Int) l.dn l.un l'.rk)))(cH:H' l.sd=O (.dK (fO b'.ps)))(j:H' l.pl=O (.dK (jr b'.ps)))(q:H' l.fc=O (.dK (bj (b'.fs.map (·.1)) l'.bL)))
  (d:Paired (λa (p:Nat×Fc)=>H' a=O (.tup ((iz b'.ps p.1 p.2).map kV))) l'.bL b'.fs)(m:H' l.kn=O (.dT (f_ b'.ps b'.fs)))(c:H' l.pr=O (.dT (bV b'.ps b'.fs)))
  (I:H' l.dn=O (.lst (l'.iY.map V.ref)))(W:Paired (jW H') l'.iY b'.dn)(h_:H' l.un=O (.lst (l'.lD.map V.ref)))(T:Paired (jW H') l'.lD b'.un):a_ H' C CL CJ l' xs J b'/\fC l.fp l'.fp H:=by
 have k:l'.own=l.own:=by unfold BL.own;rw[F,s,v,y,x,t,A,r]
 have sub:∀a∈l'.fp,a∈l.fp:=λa z=>by
  unfold BL.fp at z⊢;rw[k] at z;rcases D with⟨_,e,_⟩|⟨_,e⟩;·rw[e] at z;exact z
  ·rw[e,Wh] at z;exact Yk _ z
 have of:Out l.fp H H':=λa u e n=>o _ _ e λz=>n (Yk _ z);refine⟨⟨?_,λH2 Q=>?_,by rwa[s],by rwa[v],by rwa[y],d,by rwa[x],by rwa[t],by rwa[A],W,by rwa[r],T,?_,by exact k▸h.nd⟩,λa z=>.inl (sub a z)⟩;·rwa[F,G,s,v,y,x,t,A,r]
 ·exact G▸h.land H2 (G8 of (λa z=>.inl (sub a z)) Q)
 ·rcases D with⟨i,g,N,L⟩|⟨i,g⟩
  ·cases h.qa with
   |no e1 e2=>exact .no (by rwa[i]) (by rwa[g])
   |at_ X st e1 e2 E R len fP=>
    exact .at_ X st (by rwa[i]) (by rwa[g]) (E.gO o fP (h.II E R) λa us e=>λz=>h.tup e (Yk _ z)) (by rwa[N]) (by rwa[L]) (by rwa[k])
  ·exact .no i g
end
abbrev rD:Z (af×af):=[("mother","m"),("father","f"),("wed","w"),("sibling","s")]
abbrev qb(a b:Z Int):Z (af×Z Int):=[("mother",inv a),("father",inv (bF a b)),("wed",b),("sibling",aE a.length)]
structure lW(xs ys:Z Int)(m:Nat)(c:Fc):Prop where
 ok:iy xs.length m c
 kind:c.k=cV\/(c.k,c.tn)∈qb xs ys
 Zim:c.k=cV->0<=c.bh/\c.bh<(xs.length:Int)
def Zbf:(cV,a)∉qb xs ys:=by
 intro h;simp[Ys,Wb,fH] at h;rcases h with⟨h,_⟩|⟨h,_⟩|⟨h,_⟩|⟨h,_⟩<;>exact absurd h QK
def MY(h:(k,a)∈qb xs ys):∃r,PyProof.Rows.KTD.datumAt k rD=O r/\(r,a)∈IE xs ys:=by
 simp[Ys,Wb,fH] at h;rcases h with⟨rfl,rfl⟩|⟨rfl,rfl⟩|⟨rfl,rfl⟩|⟨rfl,rfl⟩;·exact⟨"m",QK,QS⟩
 ·exact⟨"f",QK,QS⟩
 ·exact⟨"w",QK,QS⟩
 ·exact⟨"s",QK,QS⟩
def lW.JH(g:lW xs ys m c)(h:c.k≠cV):(c.k,c.tn)∈qb xs ys:=g.kind.resolve_left h
theorem vS(b:(a.map (·.1)).Nodup)(c:i<a.length):aF (jr a) (.inr (ay a i))=O (.int (i:Int)):=by
 have g:∀(a:dN) (k i:Nat),(a.map (·.1)).Nodup->i<a.length->aF ((a.zipIdx k).map λp=>((.inr p.1.1:Key),V.int (p.2:Int))) (.inr (ay a i))=O (.int ((k+i:Nat):Int)):=by
  intro a;induction a with
  |nil=>intro k i _ h;cases h
  |cons p a n=>
   intro k i b c;obtain⟨l,j⟩:=Y4.mp (show(p.1::a.map (·.1)).Nodup from b);rw[List.zipIdx_cons,Wv];cases i with
   |zero=>exact gY rfl
   |succ i=>
    have d:i<a.length:=by simpa using c
    have e:ay (p::a) (i+1)=ay a i:=rfl;have m:ay a i∈a.map (·.1):=by
     unfold ay;rw[Yd,Yb d];exact Yh.mpr ⟨_,Wg d,rfl⟩
    rw[e,jx (λz=>l (by rwa[Wl z])),n (k+1) i j d]
    congr 2
    omega
 have:=g a 0 i b c
 rwa [Lo] at this
def Ow(h:c.k=cV):cJ a c=.inl c.bh:=br h
def kH(h:c.k≠cV):cJ a c=.inr (ay a c.bh.toNat):=bb h
inductive HS(a:Z V)(H:Hp)(Q:VK)(E:XK):Prop
 |mk (k:af) (c:a=[.str k]) (b:Q (.bl (oM rD k)) H)
inductive GI(CL:U)(d:Z V)(H:Hp)(Q:VK)(E:XK):Prop
 |mk (L:U) (k:af) (b a c:Z Int) (i:d=[.ref L,.str k]) (h:fQ H CL L b a) (g:(k,c)∈qb b a) (e:∀t:U,dF H t c->Q (.ref t) H)
inductive B8(c:Z V)(H:Hp)(Q:VK)(E:XK):Prop
 |mk (k a:af) (o:Key) (g:c=[.str k,.str a,kV o]) (e:k="sibling"->∃b,o=.inr b) (d:Nw H (.tup ((keyOf k a o).map kV)) Q)
inductive Pd(CL CJ:U)(k:Z V)(H:Hp)(Q:VK):Prop
 |mk (e:JL) (st:JS) (L l m:U) (b g:Z Int) (d:dN) (F:Z Fc) (z:Nat) (c:Fc) (D:k=[.ref e.J,.ref L,.ref l,.ref m]) (t:bU H CJ b.length e st) (o:fK b.length st F) (s:fQ H CL L b g) (y:yX b g) (u:H l=O (.dK (jr d))) (n:(d.map (·.1)).Nodup) (len:st.hd.length=d.length) (p:d.length<=100) (x:H m=O (.tup ((iz d z c).map kV))) (A:lW b g d.length c) (r:∃f,dw st f/\jg f c)
   (q:∀(v:V) (h:JL) (i:JS) (j:Hp),h.J=e.J->(∀a∈h.fp,a∈e.fp)->Out e.fp H j->bU j CJ b.length h i->fK b.length i (F++[c])->i.hd.length=st.hd.length->Q v j):Pd CL CJ k H Q
def HU(CL CJ:U):Sp:=λa H Q _=>Pd CL CJ a H Q
inductive Qs(CL CJ:U)(g:Z V)(H:Hp)(Q:VK):Prop
 |mk (i:JL) (st:JS) (L h j:U) (b e:Z Int) (a:dN) (F:Z Fc) (z:Nat) (c:Fc) (t:g=[.ref i.J,.ref L,.ref h,.ref j]) (o:bU H CJ b.length i st) (l:fK b.length st F) (n:fQ H CL L b e) (r:yX b e) (p:H h=O (.dK (jr a))) (k:(a.map (·.1)).Nodup) (len:st.hd.length=a.length) (m:a.length<=100) (q:H j=O (.tup ((iz a z c).map kV))) (s:lW b e a.length c)
   (q1:(∃f,dw st f/\jg f c)->∀d,aq H d->Q (.bl ar) d) (q2:(∀f,dw st f->¬jg f c)->∀d,aq H d->Q (.bl aY) d):Qs CL CJ g H Q
def RU(CL CJ:U):Sp:=λa H Q _=>Qs CL CJ a H Q
def Bq:∀b:bA,decide (V.str k=V.str cV)=b->(b=ar↔k=cV):=λb e=>by
 grind
def Zcc:aS ["kind"] ["kind"] (aL G0):=.bg
def Zcd(F:aP K "is_tie" "is_tie" G0 f fd)(b:mg "TIE_LETTERS"=O (.ref a))(c:wy K a rD):aH P w K mg B aO 1 f fd ["kind"] HS:=by
 refine F.o Zcc λs H d h=>?_;obtain⟨k,rfl,q⟩:=h;refine⟨_,(aC (aX (Bg (Zf8 (K:=K) rfl) (pv 0) (eg (v:=.ref a) rfl b rfl) QU))),?_⟩;exact⟨_,rfl,k,a,rD,rfl,rfl,c,q⟩
abbrev zg:Z af:=["land","kind"]
def Zai:aS zg zg (aL Ge):=.bg
def Zaj(F:aP K "tie_turn" "tie_turn" Ge f fd)(l:mg "TIE_LETTERS"=O (.ref a))(n:wy K a rD)(E:yU K CL)(j:HasFn P w K mg B 1 "is_tie" ["kind"] HS)(y:cG P w K mg B 1 "step" CL Ct (RL CL)):aH P w K mg B aO 2 f fd zg (GI CL):=by
 refine F.o Zai λs H c h=>?_;obtain⟨L,k,i,g,m,rfl,b,t,q⟩:=h;refine⟨_,(av (bw (kK (hU (bq j c (aa (pv 1) ai)))) iF bI) (aC (aX (dE y c (by decide) (pv 0) (aa (bO (Zeq (K:=K) rfl) (eg (v:=.ref a) rfl l rfl) (pv 1)) ai))))),?_⟩;obtain⟨r,e,p⟩:=MY t;have o:oM rD k=ar:=by unfold oM;rw[e];rfl
 obtain⟨x,d,D,z,A,J,G,I,st,u,_⟩:=id b;refine⟨_,rfl,k,rfl,_,rfl,?_⟩;rw[o];refine dh (bJ ?_);exact⟨_,rfl,L,x,_,rfl,u,rfl,_,rfl,a,k,r,rD,rfl,rfl,n,e,L,r,i,g,m,rfl,b,p,q⟩
abbrev wD:Z af:=["kind","one","other"]
def Zak:aS wD wD (aL Gf):=.bg
theorem Zal(F:aP K "fact_key" "fact_key" Gf f fd)(g:mg "SIBLING"=O (.str "sibling" t1))(d:Bl mg):aH P w K mg B aO 1 f fd wD B8:=by
 refine F.o Zak λs H l h=>?_;obtain⟨k,a,o,rfl,j,q⟩:=h;refine⟨_,(av (bw (cA dv (pv 0) (eg (v:=.str "sibling") rfl g ⟨_,rfl⟩)) (aC (aX (eS (aa (pv 0) (aa (gW (Za1 rfl) rfl d.IY Ih (aa (pv 1) (aa (pv 2) ai))) (aa (gW (Za2 rfl) rfl d.Zg2 Zgj (aa (pv 1) (aa (pv 2) ai))) ai)))))) bI) (aC (aX (eS (aa (pv 0) (aa (pv 1) (aa (pv 2) ai))))))),?_⟩;refine⟨_,rfl,rfl,_,rfl,?_⟩;by_cases e:k="sibling"
 ·obtain⟨b,rfl⟩:=j e;rw[c_ (by rw[e])];refine⟨_,rfl,_,rfl,_,rfl,_,_,rfl,_,rfl,_,rfl,_,_,rfl,by show 3<=sizeLine;decide,?_⟩;have c:keyOf k a (.inr b)=[.inr k,.inr (L2.qi a b),.inr (L2.qj a b)]:=br e;rw[c] at q;exact q
 ·rw[eJ (λz=>e (V.str.inj z))];refine⟨_,rfl,_,rfl,_,rfl,by show 3<=sizeLine;decide,?_⟩;have c:(keyOf k a o).map kV=[.str k,.str a,kV o]:=by
   cases o with
   |inl i=>rfl
   |inr b=>
    have:keyOf k a (.inr b)=[.inr k,.inr a,.inr b]:=bb e;rw[this];rfl
  rw[c] at q;exact q
abbrev ua:Z af:=["joins","land","places","fact"]
abbrev TK:Z af:=["joins","land","places","fact","number","kind","one","other"]
def x8:aS TK ua (aL FE):=.bg
theorem ZF(F:aP K "keep_fact" "keep_fact" FE f fd)(wa:mg "SAID"=O (.str "said" t1))(vw:HasFn P w K mg B 2 "tie_turn" zg (GI CL))(FZ:cG P w K mg B 3 "say" CJ Cw (SN CJ))(F0:cG P w K mg B 5 "tie" CJ l4 (SQ CJ)):aH P w K mg B aO 6 f fd ua (HU CL CJ):=by
 refine F.o x8 λs H g h=>?_;obtain⟨i,st,L,u,fa,l,ys,m,FF,z,c,rfl,E,d,la,gd,I,nd,len,m4,hf,k,lv,q⟩:=h;refine⟨_,(av (sS (pv 3) (mU (K:=K) rfl rfl (cS (cz 4 x8.nd) (cS (cz 5 x8.nd) (cS (cz 6 x8.nd) (cS (cz 7 x8.nd) mT)))))) (av (bw (cA dv (pv 5) (eg (v:=.str "said") rfl wa ⟨_,rfl⟩)) (aC (aX (dE FZ g (by decide) (pv 0) (aa (dD (bu g) (pv 2) (pv 6) (λ_ _=>rfl)) (aa (pv 7) ai))))) bI) (aC (aX (dE F0 g (by decide) (pv 0) (aa (dD (bu g) (pv 2) (pv 6) (λ_ _=>rfl)) (aa (dD (bu g) (pv 2) (pv 7) (λ_ _=>rfl)) (aa (bq vw g (aa (pv 1) (aa (pv 5) ai))) ai)))))))),?_⟩;obtain⟨dx,ho⟩:=E.obj;have X:=vS nd k.ok.one;have n8:=gd.2.2.2.2;have j:c.one<st.hd.length:=by exact len▸k.ok.one
 refine⟨_,rfl,fa,_,rfl,aK.of hf,rfl,_,_,rfl,bP ⟨_,_,rfl,bP ⟨_,_,rfl,bP ⟨_,_,rfl,bP ⟨rfl,?_⟩⟩⟩⟩⟩;refine⟨_,rfl,rfl,_,rfl,bR (λR=>?_) (λR=>bJ ?_)⟩
 ·have e:=(Bq _ rfl).mp R;have J:kV (cJ m c)=.int c.bh:=by rw[Ow e];rfl
  refine⟨_,rfl,i.J,dx,_,rfl,ho,rfl,_,rfl,_,rfl,u,_,rfl,dt I X,_,rfl,?_⟩;have one:=d.wf.one n8 j;have z9:=d.wf.B7;obtain⟨f0,Q,r⟩:=lv;obtain⟨p,h0⟩:=id Q;have mm:c.bh∈(st.bX (st.ag c.one)).map (λz=>(st.bH c.one).getD z.toNat 0):=Yh.mpr ⟨p (st.ag c.one),(h0 c.one j).1,by rw[←r.1 e,(h0 c.one j).2];rfl⟩;refine⟨i,st,l.length,c.one,_,_,_,c.bh,?_,E,one,QO,λ_ y W D A x G=>?_,absurd mm⟩
  ·show[V.ref i.J,V.int (c.one:Int),kV (cJ m c)]=_;rw[J]
  ·have n:c=⟨cV,c.one,c.bh,c.tn⟩:=by rw[←e]
   refine q _ y _ W D (λa ha=>by rw[A] at ha;exact ha) x G ?_ rfl;exact n▸Qr d j mm
 ·have e:=λz=>R ((Bq _ rfl).mpr z);obtain⟨⟨o0,om⟩,ft,tl⟩:=k.ok.jP e;have J:kV (cJ m c)=.str (ay m c.bh.toNat):=by rw[kH e];rfl
  have p2:=vS nd om;have hj:c.bh.toNat<st.hd.length:=by rwa[len]
  refine⟨_,rfl,i.J,dx,_,rfl,ho,rfl,_,rfl,_,rfl,u,_,rfl,dt I X,_,rfl,_,rfl,u,.int (c.bh.toNat:Int),rfl,?_,_,rfl,_,rfl,L,c.k,l,ys,c.tn,rfl,la,k.JH e,λt ht=>?_⟩
  ·exact J▸dt I p2
  refine⟨i,st,l.length,c.one,c.bh.toNat,c.tn,t,rfl,E,d.wf,d.live,n8,QO,j,hj,ht,ft,tl,λb y aQ W D A x G o=>?_⟩;have n:c=⟨c.k,c.one,(c.bh.toNat:Int),c.tn⟩:=by rw[LY o0]
  have T:iy l.length st.hd.length ⟨c.k,c.one,(c.bh.toNat:Int),c.tn⟩:=by rw[←n,len];exact k.ok
  obtain⟨tm,tf⟩:=ZdA d o e T;have N:b=ar:=by
   cases N:b with
   |true=>rfl
   |false=>
    obtain⟨f0,Q,r⟩:=lv;obtain⟨es,no⟩:=o.no N;exact absurd (r.2 e) (no f0 Q)
  refine q _ y aQ W D A x G ?_ o.len;have:=tm N;rw[←n] at this;exact this
def x9:aS TK ua (aL FG):=.bg
theorem ZG(F:aP K "fact_fits" "fact_fits" FG f fd)(wa:mg "SAID"=O (.str "said" t1))(vw:HasFn P w K mg B 2 "tie_turn" zg (GI CL))(nX:cG P w K mg B 2 "open_at" CJ ze (Ba CJ))(u9:cG P w K mg B 4 "left" CJ l4 (IF CJ)):aH P w K mg B aO 5 f fd ua (RU CL CJ):=by
 refine F.o x9 @λaU A outer vs Q E s H k h=>?_;obtain⟨J,st,L,G,fa,u,ys,i,FF,z,c,rfl,ja,b,la,gd,o,nd,len,m4,hf,R,q1,q2⟩:=h;have hu:=k.oC;refine⟨_,(av (sS (pv 3) (mU (K:=K) (n:=4) rfl rfl (cS (cz 4 x9.nd) (cS (cz 5 x9.nd) (cS (cz 6 x9.nd) (cS (cz 7 x9.nd) mT)))))) (av (bw (cA dv (pv 5) (eg (v:=.str "said") rfl wa ⟨_,rfl⟩)) (aC (aX (Bg (rM (K:=K) rfl) (pv 7) (dE nX k (by decide) (pv 0) (aa (dD (bu k) (pv 2) (pv 6) (λ_ _=>rfl)) ai)) QU))) bI) (aC (aX (iW (P6 (K:=K) rfl (Zga hu)) (dE u9 k (by decide) (pv 0) (aa (dD (bu k) (pv 2) (pv 6) (λ_ _=>rfl)) (aa (dD (bu k) (pv 2) (pv 7) (λ_ _=>rfl)) (aa (bq vw k (aa (pv 1) (aa (pv 5) ai))) ai)))) (eG ai)))))),?_⟩;obtain⟨dx,ho⟩:=ja.obj;have p1:=vS nd R.ok.one;have I:u.length<=8:=gd.2.2.2.2;have g:c.one<st.hd.length:=by rw[len];exact R.ok.one
 refine⟨_,rfl,fa,_,rfl,aK.of hf,rfl,_,_,rfl,bP ⟨_,_,rfl,bP ⟨_,_,rfl,bP ⟨_,_,rfl,bP ⟨rfl,?_⟩⟩⟩⟩⟩;refine⟨_,rfl,rfl,_,rfl,bR (λcc=>?_) (λcc=>bJ ?_)⟩
 ·have e:c.k=cV:=(Bq _ rfl).mp cc;have T:kV (cJ i c)=.int c.bh:=by rw[Ow e];rfl
  have one:=b.wf.one I g;refine⟨_,rfl,_,rfl,J.J,dx,_,rfl,ho,rfl,_,rfl,_,rfl,G,_,rfl,dt o p1,J,st,u.length,c.one,_,_,_,rfl,ja,one.hd,one.ld,one.fr,one.cR,one.kr,λp j W np q D so X=>⟨p,_,rfl,.inl (aj.of X),?_,G4 j,?_⟩⟩
  ·show jD (kV (cJ i c))=ar;rw[T];rfl
  show Q (.bl (if(aY:bA)=ar then !fS (kV (cJ i c)) (j.map V.int) else fS (kV (cJ i c)) (j.map V.int))) W;rw[bb Yo,T,Bn];have ec:c=⟨cV,c.one,c.bh,c.tn⟩:=by rw[←e]
  by_cases m:c.bh∈j
  ·rw[c_ m];refine q1 ?_ W q;have VA:=Qr (tn:=c.tn) b g (D.subset m);obtain⟨f,d⟩:=VA.live;obtain⟨_,s⟩:=(VA.iff f).mp d;refine⟨f,((x_ b.wf g _ f).mp d).1,?_⟩;rw[ec];exact s _ (Ye _ Yj)
  ·rw[eJ m];refine q2 (λf d=>?_) W q;rw[ec];exact Zgy b g (λz=>m (D.symm.subset z)) f d
 ·have e:c.k≠cV:=λz=>cc ((Bq _ rfl).mpr z);obtain⟨⟨o0,om⟩,ft,tl⟩:=R.ok.jP e;have T:kV (cJ i c)=.str (ay i c.bh.toNat):=by rw[kH e];rfl
  have p2:=vS nd om;have N:c.bh.toNat<st.hd.length:=by rw[len];exact om
  have pf:=Qp b.wf I g N;refine⟨_,rfl,J.J,dx,_,rfl,ho,rfl,_,rfl,_,rfl,G,_,rfl,dt o p1,_,rfl,_,rfl,G,.int (c.bh.toNat:Int),rfl,?_,_,rfl,_,rfl,L,c.k,u,ys,c.tn,rfl,la,R.JH e,λt ht=>?_⟩
  ·show eY H G (kV (cJ i c)) _;rw[T];exact dt o p2
  refine⟨J,st,u.length,c.one,c.bh.toNat,_,_,_,_,_,_,c.tn,t,rfl,ja,b.wf.one I g,b.wf.one I N,ht,λp o=>by rw[tl];exact RP b.wf g (x:=p.1) (y:=p.2) o,Yz pf (by decide),λp j W np q X D _=>?_⟩;have ms:=O_ D;refine⟨by show 0<=sizeLine;exact Yx _,λe0 H2 n2 g2 he0=>?_⟩;refine⟨p,e0,j.map V.int,rfl,rfl,aj.of (g2 _ _ X),aj.of he0,?_⟩;rw[br rfl];have l:∀f,jg f c↔f c.bh.toNat=ap c.tn (f c.one):=λf=>⟨λh=>h.2 e,λh=>⟨λz=>absurd z e,λ_=>h⟩⟩;cases j with
  |nil=>
   refine q2 (λf d z=>?_) H2 (q.trans g2);have m:=yn b.wf g N d;rw[(l f).mp z] at m;exact absurd ((ms _).mpr m) (λz=>nomatch z)
  |cons a r=>
   refine q1 ?_ H2 (q.trans g2);have m:=(ms a).mp Yj;obtain⟨f,d,e1,e2⟩:=O9 b.wf g N b.live m;exact⟨f,d,(l f).mpr (by rw[e1,e2])⟩
def BS.keys(b:BS):Z (Z Key):=b.fs.map λp=>gs b.ps p.2
def BS.told(b:BS)(k:Z Key):bA:=(aF (f_ b.ps b.fs) k).isSome
structure cX(xs ys:Z Int)(b:BS):Prop where
 gd:yX xs ys
 nm:(b.ps.map (·.1)).Nodup
 m:b.ps.length<=64
 fl:b.fs.length<=63
 fg:∀p∈b.fs,lW xs ys b.ps.length p.2
 zs:(b.fs.map (·.1)).Nodup
 lt:∀p∈b.fs,p.1<b.co
 ky:b.keys.Nodup
 pr:((bV b.ps b.fs).map (·.1)).Nodup
 lv:∃f,z8 xs.length b.ps.length f/\∀c∈b.F,jg f c
 dl:b.dn.length<=200
 ul:b.un.length<=200
structure cK(H H':Hp)(l l':BL):Prop where
 h:l'.h=l.h
 out:Out l.fp H H'
 grow:fC l.fp l'.fp H
def cK.of(g:aq H a):cK H a l l:=⟨rfl,Out.of g,fC.refl _ _⟩
def cK.trans(a:cK H H1 l l1)(b:cK H1 c l1 l2):cK H c l l2:=⟨b.h.trans a.h,G8 a.out a.grow b.out,a.grow.trans a.out b.grow⟩
def cK.same(a:cK H H1 l l1)(g:aq H1 b):cK H b l l1:=⟨a.h,a.out.trans (Out.of g),a.grow⟩
def cK.after(g:aq H H1)(a:cK H1 b l l1):cK H b l l1:=⟨a.h,(Out.of g).trans a.out,a.grow.same g⟩
theorem Bc[DecidableEq b](a:Z (b×V))(k:b):(aF a k).isSome=ar↔k∈a.map (·.1):=by
 induction a with
 |nil=>exact⟨(λz=>nomatch z),(λz=>nomatch z)⟩
 |cons p r c=>
  by_cases e:p.1=k
  ·rw[gY e]
   grind
  ·rw[jx e,c]
   grind
theorem lK[DecidableEq b]{k:b}(h:k∉a.map (·.1)):aF a k=aI:=by
 cases e:aF a k with
 |none=>rfl
 |some v=>exact absurd ((Bc a k).mp (by rw[e];rfl)) h
theorem yA[DecidableEq b]{k:b}(c:(a.map (·.1)).Nodup)(h:(k,v)∈a):aF a k=O v:=by
 induction a with
 |nil=>cases h
 |cons p r g=>
  obtain⟨e,d⟩:=Y4.mp (show(p.1::r.map (·.1)).Nodup from c);rcases Ys.mp h with h|h;·exact h▸gY rfl
  ·rw[jx (λz=>e (by exact z▸Yh.mpr ⟨_,h,rfl⟩))];exact g d h
def vT(h:i<a.length):ay a i∈a.map (·.1):=by
 unfold ay
 grind
inductive Pg(C CL CJ:U)(d:Z V)(H:Hp)(Q:VK)(E:XK):Prop
 |mk (l:BL) (b:BS) (c a:Z Int) (h:d=[.ref l.h]) (g:a_ H C CL CJ l c a b) (e:Nw H (.lst (b.ps.map λp=>V.str p.1)) Q)
inductive Ph(C CL CJ:U)(d:Z V)(H:Hp)(Q:VK)(E:XK):Prop
 |mk (l:BL) (b:BS) (c a:Z Int) (z:af) (v:V) (i:d=[.ref l.h,.str z]) (h:a_ H C CL CJ l c a b) (g:aF (fO b.ps) (.inr z)=O v) (e:Q v H)
inductive SR(C CL CJ:U)(g:Z V)(H:Hp)(Q:VK)(E:XK):Prop
 |mk (l:BL) (b:BS) (e d:Z Int) (k a:af) (o:Key) (m:g=[.ref l.h,.str k,.str a,kV o]) (j:a_ H C CL CJ l e d b) (i:k="sibling"->∃b,o=.inr b) (h:∀c,aq H c->Q (.bl (b.told (keyOf k a o))) c)
inductive ND(C CL CJ:U)(g:Z V)(H:Hp)(Q:VK)(E:XK):Prop
 |mk (l:BL) (b:BS) (e d:Z Int) (k a:af) (j:g=[.ref l.h,.str k,.str a]) (i:a_ H C CL CJ l e d b) (h:∀c,aq H c->Q ((aF (bV b.ps b.fs) [.inr k,.inr a]).getD .aB) c)
abbrev jh:Z af:=["mother","father"]
def oF(b:BS)(a:af):Z V:=jh.filterMap λk=>aF (bV b.ps b.fs) [.inr k,.inr a]
def ZdC(g:Nat->bt V):((List.range 2).filter λi=>(g i).isSome).map (λi=>(g i).getD .aB)=[g 0,g 1].filterMap id:=by
 show(([0,1]:Z Nat).filter _).map _=_
 grind
def ZdD(b:BS)(k:Z Key):b.told k=ar↔k∈b.keys:=by
 unfold BS.told;rw[Bc];unfold f_ BS.keys
 grind
inductive M7(C CL CJ:U)(g:Z V)(H:Hp)(Q:VK)(E:XK):Prop
 |mk (l:BL) (b:BS) (e d:Z Int) (a:af) (j:g=[.ref l.h,.str a]) (i:a_ H C CL CJ l e d b) (h:∀(p:U) (c:Hp),H p=aI->aq H c->c p=O (.lst (oF b a))->Q (.ref p) c)
def kL(H:Hp)(b:dN)(a:U)(p:Nat×Fc):Prop:=H a=O (.tup ((iz b p.1 p.2).map kV))
def Gp(K:ae):Sp:=λb H Q _=>∃(r:U) (a:Z V),b=[.ref r]/\aK K H r a/\Q (.bl (decide (a.length=2))) H
theorem ZeV:∀{as:Z U} {fs:Z (Nat×Fc)} {p:Nat×Fc},Paired (kL H ps) as fs->(fs.map (·.1)).Nodup->p∈fs->∃a,aF (bj (fs.map (·.1)) as) (.inl (p.1:Int))=O (.ref a)/\kL H ps a p:=by
 intro as fs p b;induction b with
 |nil=>grind
 |@cons a q as fs f t i=>
  intro c h;obtain⟨g,d⟩:=Y4.mp (show(q.1::fs.map (·.1)).Nodup from c);have l:bj ((q::fs).map (·.1)) (a::as)=(Sum.inl (q.1:Int),V.ref a)::bj (fs.map (·.1)) as:=rfl;rw[l];rcases Ys.mp h with rfl|h;·exact⟨a,gY rfl,f⟩
  ·obtain⟨n,k,j⟩:=i d h;refine⟨n,?_,j⟩;rw[jx (λz=>g (by
    have e:=Dw z;have m:q.1=p.1:=(km e)
    exact m▸Yh.mpr ⟨_,h,rfl⟩))]
   exact k
def X4:aS nj nj (aL EG):=.bg
def Zce(F:aP K "people" "Hearth.people" EG f fd)(a:hJ K C)(k:Bl mg):aH P w K mg B aO 1 f fd nj (Pg C CL CJ):=by
 refine F.o X4 λs H r h=>?_;obtain⟨l,b,o,n,rfl,c,q⟩:=h;refine⟨_,(aC (aX (jv (Zaa rfl) rfl k.yI yt (aa (pF K 0) ai)))),?_⟩;obtain⟨j,i⟩:=c.obj;refine⟨_,rfl,l.h,C,j,_,_,rfl,i,a.cls,a.sO,rfl,l.sd,_,rfl,c.cH,λp m d g e=>q p m d g ?_⟩;rw[e,Y0];rfl
abbrev ji:Z af:=["self","name"]
def XX:aS ji ji (aL Ey):=.bg
def Zbg(F:aP K "side_of" "Hearth.side_of" Ey f fd)(a:hJ K C)(m:Bl mg):aH P w K mg B aO 1 f fd ji (Ph C CL CJ):=by
 refine F.o XX λs H d h=>?_;obtain⟨l,b,k,j,z,v,rfl,c,g,q⟩:=h;refine⟨_,(av (bw (mV (vD (bu d) (pv 1) (pF K 0)) QU) iF bI) (aC (aX (dD (bu d) (pF K 0) (pv 1) (λ_ _=>rfl))))),?_⟩;obtain⟨i,e⟩:=c.obj;exact⟨_,rfl,_,rfl,l.h,C,i,_,_,rfl,e,a.cls,a.sO,rfl,l.sd,O v,rfl,dt c.cH g,_,rfl,dh (bJ ⟨_,rfl,l.h,C,i,_,_,rfl,e,a.cls,a.sO,rfl,_,rfl,l.sd,v,rfl,dt c.cH g,q⟩)⟩
def ZH:aS jN jN (aL FJ):=.bg
def ZI(F:aP K "is_person" "is_person" FJ f fd)(b:Bl mg):aH P w K mg B aO 1 f fd jN (Gp K):=by
 refine F.o ZH λs H d h=>?_;obtain⟨r,a,rfl,c,q⟩:=h;refine⟨_,(aC (aX (iW dv (fE K b (pv 0)) aT))),?_⟩;refine⟨_,rfl,r,a,rfl,.inr c,rfl,?_⟩;have e:decide (V.int (a.length:Int)=V.int 2)=decide (a.length=2):=by
  rw[Wu,fb,fb];exact⟨λz=>by have:=V.int.inj z;exact km this,λz=>by rw[z];rfl⟩
 rw[←e] at q;exact q
abbrev rE:Z af:=["self","kind","one","other"]
def Zj:aS rE rE (aL Fq):=.bg
def Zgz(F:aP K "has" "Hearth.has" Fq f fd)(e:hJ K C)(i:HasFn P w K mg B 1 "fact_key" wD B8):aH P w K mg B aO 2 f fd rE (SR C CL CJ):=by
 refine F.o Zj λs H d h=>?_;obtain⟨l,b,v,u,k,a,o,rfl,g,j,q⟩:=h;refine⟨_,(aC (aX (Zfj (vX (bu d) (bq i d (aa (pv 1) (aa (pv 2) (aa (pv 3) ai)))) (pF K 0)) QU))),?_⟩;refine⟨_,rfl,_,rfl,_,rfl,k,a,o,rfl,j,λp t x c m=>?_⟩;obtain⟨r,n⟩:=g.obj;refine⟨_,rfl,l.h,C,r,_,_,rfl,c _ _ n,e.cls,e.Bp,rfl,l.kn,_,rfl,eY.t (c _ _ g.known) m,?_⟩;exact q t c
abbrev Cz:Z af:=["self","kind","name"]
def XQ:aS Cz Cz (aL Ek):=.bg
def ZJ(F:aP K "parent_of" "Hearth.parent_of" Ek f fd)(d:hJ K C):aH P w K mg B aO 1 f fd Cz (ND C CL CJ):=by
 refine F.o XQ λs H g h=>?_;obtain⟨l,b,r,o,k,a,rfl,c,q⟩:=h;refine⟨_,(aC (aX (ZcR (bu g) (pF K 0) (eS (aa (pv 1) (aa (pv 2) ai))) ⟨rfl,rfl,rfl,rfl⟩))),?_⟩;obtain⟨m,j⟩:=c.obj;refine⟨_,rfl,l.h,C,m,_,_,rfl,j,d.cls,d.vH,rfl,l.pr,rfl,.inr ⟨_,.inl c.parents⟩,_,rfl,_,rfl,by show 2<=sizeLine;decide,λp n t e i=>?_⟩;exact⟨_,eY.t (k:=[.inr k,.inr a]) (e _ _ c.parents) i,q n e⟩
def XM:aS ji ji (aL Ei):=.bg
theorem Zk(F:aP K "parents_of" "Hearth.parents_of" Ei f fd)(j:hJ K C)(Q:mg "PARENTS"=O (.ref r))(y:∀H,aK K H r (jh.map V.str)):aH P w K mg B aO 1 f fd ji (M7 C CL CJ):=by
 refine F.o XM λs H A h=>?_;obtain⟨l,b,xs,ys,a,rfl,t,q⟩:=h;refine⟨_,(aC (aX (jz (x:="kind") (fr:=[("self",0),("name",1)]) (cl:=[("self",s.heap.objs.size+1),("name",s.heap.objs.size+1+1)]) rfl (.fD ⟨rfl,⟨rfl,trivial⟩⟩ ⟨⟨rfl,.inl rfl,.inl rfl,rfl⟩,⟨⟨rfl,.inl rfl,.inl rfl,rfl⟩,trivial⟩⟩) (Q6 (eg (v:=.ref r) rfl Q rfl)) (λ_ _ _ _=>ot (mV (vX (bu A) (eS (aa (pv 0) (aa (pv 2) ai))) (Bk (K:=K) rfl (pv 1) rfl)) QU)) (λ_ _ _ _=>(dD (bu A) (Bk (K:=K) rfl (pv 1) rfl) (eS (aa (pv 0) (aa (pv 2) ai))) (λ_ _=>rfl)))))),?_⟩;obtain⟨J,G⟩:=t.obj;let val:Nat->bt V:=λi=>aF (bV b.ps b.fs) [.inr (jh.getD i ""),.inr a];refine⟨r,rfl,⟨_,y _⟩,λD E=>ZbS (y _) QD E (λi=>(val i).isSome) (λi=>(val i).getD .aB) (λi v c L g _ Kt Kf m n=>?_) λL g T=>q D L E g ?_⟩
 ·obtain⟨k,rfl,X⟩:∃k:af,v=.str k/\jh.getD i ""=k:=by
   match i,c with
   |0,c=>exact⟨"mother",(Yr c).symm,rfl⟩
   |1,c=>exact⟨"father",(Yr c).symm,rfl⟩
   |i+2,c=>simp at c
  have W:val i=aF (bV b.ps b.fs) [.inr k,.inr a]:=by show aF (bV b.ps b.fs) [.inr (jh.getD i ""),.inr a]=_;rw[X]
  refine⟨_,rfl,_,rfl,by show 2<=sizeLine;decide,λp H2 np d R=>?_⟩;refine⟨_,rfl,l.h,C,J,_,_,rfl,d _ _ (g _ _ G),j.cls,j.vH,rfl,l.pr,_,rfl,eY.t (k:=[.inr k,.inr a]) (d _ _ (g _ _ t.parents)) R,_,rfl,?_⟩;rw[W] at m n;cases e:aF (bV b.ps b.fs) [.inr k,.inr a] with
  |none=>
   rw[e] at n;exact dh (n H2 rfl d)
  |some u=>
   rw[e] at m;refine dI ?_;refine⟨_,rfl,l.h,C,J,_,_,rfl,d _ _ (g _ _ G),j.cls,j.vH,rfl,_,rfl,_,rfl,by show 2<=sizeLine;decide,λp3 H3 N I o=>?_⟩;refine⟨l.pr,u,rfl,?_,m u H3 rfl (d.trans I) rfl⟩;have z:=eY.t (k:=[.inr k,.inr a]) (I _ _ (d _ _ (g _ _ t.parents))) o;rw[e] at z;exact z
 ·rw[T];have e:((List.range (jh.map V.str).length).filter λi=>(val i).isSome).map (λi=>(val i).getD .aB)=oF b a:=by
   exact ZdC val
  rw[e]
def Br(h:i<a.length):ay (a++[x]) i=ay a i:=by
 unfold ay
 grind
def G9(b:iy n a.length c):cJ (a++[x]) c=cJ a c:=by
 unfold cJ;by_cases e:c.k=cV;·grind
 ·rw[bb e,bb e,Br (b.jP e).1.2]
def ZeW(b:iy n a.length c):iz (a++[x]) z c=iz a z c:=by
 unfold iz;rw[G9 b,Br b.one]
def Qt(b:iy n a.length c):gs (a++[x]) c=gs a c:=by
 unfold gs;rw[G9 b,Br b.one]
def ZeX(b:∀p∈fs,iy n a.length p.2):f_ (a++[x]) fs=f_ a fs:=by
 exact Wk λp c=>by rw[Qt (b p c)]
def Qu(b:∀p∈fs,iy n a.length p.2):bV (a++[x]) fs=bV a fs:=by
 exact Wk λp c=>by
  have o:=b p (Yy.mp c).1;rw[G9 o,Br o.one]
def ZeY(a:dN)(n s:af):fO (a++[(n,s)])=fO a++[(.inr n,.str s)]:=Yt
def ZeZ(a:dN)(x:af×af):jr (a++[x])=jr a++[(.inr x.1,.int (a.length:Int))]:=by
 unfold jr
 grind
def ZdE(a:dN)(b:Z (Nat×Fc))(z:Nat)(c:Fc):f_ a (b++[(z,c)])=f_ a b++[(gs a c,.int (z:Int))]:=Yt
def Pj(h:bC c.k=ar):bV a (fs++[(z,c)])=bV a fs++[([.inr c.k,.inr (ay a c.one)],kV (cJ a c))]:=by
 unfold bV
 grind
def Pk(h:bC c.k=aY):bV a (fs++[(z,c)])=bV a fs:=by
 unfold bV
 grind
def Bs(k:af):fS (.str k) (jh.map V.str)=bC k:=by
 show((("mother":af)==k)||((("father":af)==k)||aY))=(decide (k="mother")||decide (k="father"))
 grind
theorem M8{c e d:Type}[DecidableEq e][DecidableEq d]{f:c->e}{g:c->d}:∀{b:Z c} {x:c},(b.map f).Nodup->(b.map g).Nodup->x∈b->b.filter (λy=>decide (f y≠f x))=b.filter (λy=>decide (g y≠g x)):=by
 intro b x l k j;have inj:∀{i:Type} {h:c->i},(b.map h).Nodup->∀y∈b,h y=h x->y=x:=by
  induction b with
  |nil=>cases j
  |cons a r m=>grind
 refine J1 λy n=>?_
 grind
def ZdF(b:(fs.map (·.1)).Nodup)(d:(fs.map λp=>gs a p.2).Nodup)(m:(z,c)∈fs):ib (f_ a fs) (gs a c)=f_ a (dM z fs):=by
 unfold f_ ib dM;rw[Wz];exact de _ (M8 d b m)
def ZdG(d:(fs.map (·.1)).Nodup)(b:((bV a fs).map (·.1)).Nodup)(m:(z,c)∈fs)(h:bC c.k=ar):ib (bV a fs) [.inr c.k,.inr (ay a c.one)]=bV a (dM z fs):=by
 unfold bV at b⊢;rw[Y0] at b;unfold ib dM;rw[Wz,Wt];have e:=M8 b (d.sublist (List.filter_sublist.map _)) (Yy.mpr ⟨m,h⟩);rw[Wt,Wt] at e;rw[Wt];exact de _ (e.trans (de (fs.filter ·) (r_ λp=>Bool.and_comm _ _)))
theorem Zcf(d:(fs.map (·.1)).Nodup)(m:(z,c)∈fs)(h:bC c.k=aY):bV g fs=bV g (dM z fs):=by
 unfold bV dM;rw[Wt];refine de _ (J1 λp i=>?_);by_cases e:p.1=z
 ·have:p=(z,c):=by
   have b:∀{fs:Z (Nat×Fc)},(fs.map (·.1)).Nodup->p∈fs->(z,c)∈fs->p=(z,c):=by
    induction fs with
    |nil=>grind
    |cons a r j=>grind
   exact b d i m
  grind
 ·grind
inductive Move(a d:Z Int)(H:Hp)(r:U)(b:BS):Int->BS->Prop
 |pin (n s:af) (g:H r=O (.tup [.str n,.str s])) (new:n∉b.ps.map (·.1)) (e:b.ps.length<64):Move a d H r b 1 {b with ps:=b.ps++[(n,s)]}
 |fin (z:Nat) (c:Fc) (g:kL H b.ps r (z,c)) (o:lW a d b.ps.length c) (i:z∉b.fs.map (·.1)) (k:gs b.ps c∉b.keys) (j:bC c.k=ar->[.inr c.k,.inr (ay b.ps c.one)]∉(bV b.ps b.fs).map (·.1)) (l:∃f,z8 a.length b.ps.length f/\∀h∈b.F++[c],jg f h) (e:b.fs.length<63):Move a d H r b 1 {b with fs:=b.fs++[(z,c)]}
 |zh (z:Nat) (c:Fc) (g:kL H b.ps r (z,c)) (m:(z,c)∈b.fs):Move a d H r b (-1) {b with fs:=dM z b.fs}
theorem Move.out{w:Int}(m:Move xs e H r b w b')(k:∀d,H r=O (.tup d)->j r=O (.tup d)):Move xs e j r b w b':=by
 cases m with
 |pin n s a new lim=>exact .pin n s (k _ a) new lim
 |fin z c a i g h np lv lim=>exact .fin z c (k _ a) i g h np lv lim
 |zh z c a m=>exact .zh z c (k _ a) m
theorem Move.Zho{w:Int}(m:Move xs g H r b w k)(e d:Z Cy):Move xs g H r {b with dn:=e,un:=d} w {k with dn:=e,un:=d}:=by
 cases m with
 |pin n s a new lim=>exact .pin n s a new lim
 |fin z c a j h i np lv lim=>exact .fin z c a j h i np lv lim
 |zh z c a m=>exact .zh z c a m
inductive Qv(C CL CJ:U)(e:Z V)(H:Hp)(Q:VK):Prop
 |mk (l:BL) (b:BS) (h g:Z Int) (d:U) (z:Nat) (c:Fc) (p:e=[.ref l.h,.ref d]) (o:a_ H C CL CJ l h g b) (m:kL H b.ps d (z,c)) (i:z∉b.fs.map (·.1)) (k:gs b.ps c∉b.keys) (j:bC c.k=ar->[.inr c.k,.inr (ay b.ps c.one)]∉(bV b.ps b.fs).map (·.1)) (n:b.fs.length<=63)
   (q:∀a,Out [l.fc,l.kn,l.pr] H a->a l.fc=O (.dK (bj ((b.fs++[(z,c)]).map (·.1)) (l.bL++[d])))->a l.kn=O (.dT (f_ b.ps (b.fs++[(z,c)])))->a l.pr=O (.dT (bV b.ps (b.fs++[(z,c)])))->Q .aB a):Qv C CL CJ e H Q
def RV(C CL CJ:U):Sp:=λa H Q _=>Qv C CL CJ a H Q
inductive Qw(C CL CJ:U)(h:Z V)(H:Hp)(Q:VK)(E:XK):Prop
 |mk (l:BL) (b g:BS) (c a:Z Int) (r:U) (j:h=[.ref l.h,.ref r]) (i:a_ H C CL CJ l c a b) (ok:cX c a b) (mv:Move c a H r b 1 g) (q:∀(e:BL) (d:Hp),cK H d l e->a_ d C CL CJ e c a g->Q .aB d)
inductive Ox(C CL CJ:U)(h:Z V)(H:Hp)(Q:VK)(E:XK):Prop
 |mk (l:BL) (b g:BS) (c a:Z Int) (r:U) (j:h=[.ref l.h,.ref r]) (i:a_ H C CL CJ l c a b) (ok:cX c a b) (mv:Move c a H r b (-1) g) (q:∀(e:BL) (d:Hp),cK H d l e->a_ d C CL CJ e c a g->Q .aB d)
inductive Qx(C CL CJ:U)(i:Z V)(H:Hp)(Q:VK)(E:XK):Prop
 |mk (l:BL) (b h:BS) (c a:Z Int) (r:U) (w:Int) (g:Nat) (k:i=[.ref l.h,.int w,.ref r,.int (g:Int)]) (j:a_ H C CL CJ l c a b) (ok:cX c a b) (mv:Move c a H r b w h) (q:∀(e:BL) (d:Hp),cK H d l e->a_ d C CL CJ e c a {h with co:=g}->Q .aB d)
inductive G_(C CL CJ:U)(j:Z V)(H:Hp)(Q:VK)(E:XK):Prop
 |mk (l:BL) (b i:BS) (d c:Z Int) (r:U) (w:Int) (e:Nat) (a:Z Key) (n:j=[.ref l.h,.int w,.ref r,.int (e:Int)]) (m:a_ H C CL CJ l d c b) (ok:cX d c b) (dl:b.dn.length<200) (k:H r=O (.tup (a.map kV))) (mv:Move d c H r b w i) (q:∀(h:BL) (g:Hp),cK H g l h->a_ g C CL CJ h d c {i with co:=e,dn:=b.dn++[⟨w,a,b.co,e⟩],un:=[]}->Q .aB g)
def Qy{c:Fc}(e:c.k="sibling"):∃b,cJ a c=.inr b:=⟨_,kH (by rw[e];decide+kernel)⟩
abbrev wF:Z af:=["self","fact"]
abbrev TL:Z af:=["self","fact","number","kind","one","other"]
def xX:aS TL wF (aL El):=.bg
theorem Ze0(F:aP K "note_fact" "Hearth.note_fact" El f fd)(g:hJ K C)(jw:mg "PARENTS"=O (.ref E))(qP:∀H,aK K H E (jh.map V.str))(pL:HasFn P w K mg B 1 "fact_key" wD B8):aH P w K mg B aO 2 f fd wF (RV C CL CJ):=by
 refine F.o xX λs H k h=>?_;obtain⟨l,b,xs,ys,D,z,c,rfl,d,hf,nz,nk,np,fl,q⟩:=h;refine⟨_,(av (sS (pv 1) (mU (K:=K) (n:=4) rfl rfl (cS (cz 2 xX.nd) (cS (cz 3 xX.nd) (cS (cz 4 xX.nd) (cS (cz 5 xX.nd) mT)))))) (av (oi (bu k) (pF K 0) (pv 2) (pv 1)) (av (N7 (bu k) (pF K 0) (bq pL k (aa (pv 3) (aa (pv 4) (aa (pv 5) ai)))) (pv 2)) (aC (bw (jU (rM (K:=K) rfl) (pv 3) (eg (v:=.ref E) rfl jw rfl) QU) (aC (N7 (bu k) (pF K 0) (eS (aa (pv 3) (aa (pv 4) ai))) (pv 5))) bI))))),?_⟩;obtain⟨G,i⟩:=d.obj;have sz:(10000:Nat)<=sizeLine:=by rw[c7];decide
 have al:(b.fs.map (·.1)).length=l.bL.length:=by rw[Ya];exact(dC d.fact).symm
 have DL:l.h≠l.fc:=gf i d.facts (λz=>by cases z);have x:l.h≠l.kn:=gf i d.known (λz=>by cases z);have W:l.kn≠l.fc:=gf d.known d.facts (λz=>by cases z);have N:l.pr≠l.fc:=gf d.parents d.facts (λz=>by cases z);have T:l.pr≠l.kn:=λe=>by
  have:=d.nd;unfold BL.own at this;simp[e] at this
 refine⟨_,rfl,D,_,rfl,aK.of hf,rfl,_,_,rfl,bP ⟨_,_,rfl,bP ⟨_,_,rfl,bP ⟨_,_,rfl,bP ⟨rfl,?_⟩⟩⟩⟩⟩;refine⟨_,rfl,_,rfl,l.h,C,G,_,_,rfl,i,g.cls,g.Bo,rfl,_,rfl,l.fc,_,.inl (z:Int),rfl,d.facts,rfl,by unfold bj;rw[Ya,Wy,Ya];omega,λH1 J Q=>?_⟩;have vz:aF (bj (b.fs.map (·.1)) l.bL) (.inl (z:Int))=aI:=AZ nz;rw[kG _ vz,AN z D al] at Q;refine⟨_,rfl,_,rfl,l.h,C,G,_,_,rfl,J _ _ i DL,g.cls,g.Bp,rfl,_,rfl,_,rfl,_,rfl,c.k,ay b.ps c.one,cJ b.ps c,rfl,λe=>Qy e,λp H2 z5 A eP=>?_⟩;refine⟨l.kn,p,_,gs b.ps c,rfl,A _ _ (J _ _ d.known W),rfl,eP,by unfold f_;rw[Ya];omega,λu R j=>?_⟩;have vk:aF (f_ b.ps b.fs) (gs b.ps c)=aI:=lK (by
  have:(f_ b.ps b.fs).map (·.1)=b.keys:=by unfold f_ BS.keys;rw[Y0];rfl
  rw[this];exact nk)
 rw[kG _ vk] at j
 replace j:u l.kn=O (.dT (f_ b.ps (b.fs++[(z,c)]))):=by rw[ZdE];exact j
 have y:∀{a:U} {o:HO},H a=O o->a≠l.fc->a≠l.kn->u a=O o:=λ{a o} e n1 n2=>R _ _ (A _ _ (J _ _ e n1)) n2;have L:u l.fc=O (.dK (bj ((b.fs++[(z,c)]).map (·.1)) (l.bL++[D]))):=by
  have:=R _ _ (A _ _ Q) (λz=>W z.symm);rw[this,Yt];rfl
 have Aa:=y d.parents N T;refine⟨_,rfl,E,_,rfl,.inr (qP _),rfl,rfl,_,rfl,?_⟩;dsimp only;rw[bb Yo,show fS (kV (Sum.inr c.k)) (jh.map V.str)=bC c.k from Bs c.k];refine bR (λt=>?_) (λt=>bJ ?_)
 ·refine⟨_,rfl,_,rfl,l.h,C,G,_,_,rfl,y i DL x,g.cls,g.vH,rfl,_,rfl,_,rfl,by show 2<=sizeLine;decide,λp4 H4 np4 m L5=>?_⟩;refine⟨l.pr,p4,_,[.inr c.k,.inr (ay b.ps c.one)],rfl,m _ _ Aa,rfl,L5,?_,λX I r=>?_⟩
  ·unfold bV;rw[Ya];have:=Y3 (λp:Nat×Fc=>bC p.2.k) b.fs;omega
  have vp:aF (bV b.ps b.fs) [.inr c.k,.inr (ay b.ps c.one)]=aI:=lK (np t);rw[kG _ vp] at r
  replace r:X l.pr=O (.dT (bV b.ps (b.fs++[(z,c)]))):=by rw[Pj t];exact r
  refine q X (λa o e n=>?_) (I _ _ (m _ _ L) (λz=>N z.symm)) (I _ _ (m _ _ j) (λz=>T z.symm)) r;simp only[Ys,Wb,fH,iK] at n;exact I _ _ (m _ _ (y e n.1 n.2.1)) n.2.2
 ·have ef:bC c.k=aY:=by
   cases e:bC c.k with
   |true=>exact absurd e t
   |false=>rfl
  refine q u (λa o e n=>?_) L j (by rw[Pk ef];exact Aa)
  grind
theorem RW{l:BL}{H g:Hp}{c d:JL}(i:l.fG=c.fp)(o:Out l.own H g)(h:fC c.fp d.fp g):fC l.fp ({l with fG:=d.fp}:BL).fp H:=λa z=>by
 rcases Yu.mp (z) with q|q;·exact .inl (Yk _ q)
 ·rcases h a q with m|m;·exact .inl (Ye _ (by rwa[i]))
  ·by_cases b:a∈l.own;·exact .inl (Yk _ b)
   ·right
    cases e:H a with
    |none=>rfl
    |some u=>rw[o _ _ e b] at m;cases m
def SS{l:BL}{b:JL}(d:l.fG=b.fp)(o:Out l.own H H1)(c:Out b.fp H1 H2):Out l.fp H H2:=λa u e n=>c _ _ (o _ _ e λz=>n (Yk _ z)) λz=>n (Ye _ (by rwa[d]))
def sP{l:BL}(o:Out l.own H H1):Out l.fp H H1:=λa u e n=>o _ _ e λz=>n (Yk _ z)
abbrev wG:Z af:=["self","row"]
def EB:aS ["self","row","name","side"] wG (aL EH):=.bg
theorem Zcg(F:aP K "put_in" "Hearth.put_in" EH f fd)(i:hJ K C)(va:HasFn P w K mg B 1 "is_person" jN (Gp K))(vd:cG P w K mg B 2 "add" CJ nj (JE CJ))(Em:cG P w K mg B 2 "note_fact" C wF (RV C CL CJ))(ve:HasFn P w K mg B 6 "keep_fact" ua (HU CL CJ))(bl:Bl mg):aH P w K mg B aO 8 f fd wG (Qw C CL CJ):=by
 refine F.o EB @λaU A outer vs Q E s H hr h=>?_;obtain⟨l,b,b',L,ys,r,rfl,d,ok,mv,q⟩:=h;refine⟨_,(aC (bw (hU (bq va hr (aa (pv 1) ai))) (av (sS (pv 1) (mU (K:=K) (n:=2) rfl rfl (cS (cz 2 EB.nd) (cS (cz 3 EB.nd) mT)))) (av (oi (bu hr) (pF K 0) (pv 2) (gW (ZaT) rfl bl.BX By (aa (pF K 0) ai))) (av (oi (bu hr) (pF K 0) (pv 2) (pv 3)) (aC (bw (cA Hm (pF K 0) qW) (aC (cu (BD vd hr (by decide) (pF K 0)))) bI))))) (av (cu (dE Em hr (by decide) (pv 0) (aa (pv 1) ai))) (aC (bw (cA Hm (pF K 0) qW) (aC (cu (bq ve hr (aa (pF K 0) (aa (pF K 0) (aa (pF K 0) (aa (pv 1) ai))))))) bI))))),?_⟩;obtain⟨D,h1⟩:=d.obj;have sz:(10000:Nat)<=sizeLine:=by rw[c7];decide
 have nd:=d.nd;unfold BL.own at nd;have VD:=nd;simp only[Y4,Ys,Wb,fH,iK] at VD;obtain⟨⟨nR,bN,jt,nS,mK,pE,qE⟩,⟨Ab,uG,uH,uI,xD,xE⟩,⟨rW,uJ,uK,xF,xG⟩,_⟩:=VD;have uc:∀p∈b.fs,iy L.length b.ps.length p.2:=λp hp=>(ok.fg p hp).ok;cases mv with
 |pin n s X new lim=>
  refine⟨_,rfl,r,_,rfl,aK.of X,_,rfl,dI ?_⟩;refine⟨_,rfl,r,_,rfl,aK.of X,rfl,_,_,rfl,bP ⟨_,_,rfl,bP ⟨rfl,?_⟩⟩⟩;have kl:(fO b.ps).length=b.ps.length:=Ya _;have pl':(jr b.ps).length=b.ps.length:=by unfold jr;rw[Ya,List.length_zipIdx]
  refine⟨_,rfl,l.h,C,D,_,_,rfl,h1,i.cls,i.sO,rfl,l.sd,_,rfl,d.cH,_,rfl,l.h,C,D,_,_,rfl,h1,i.cls,i.oo,rfl,_,rfl,l.pl,_,.inr n,rfl,d.places,rfl,QO,λH1 b1 e1=>?_⟩;have Zhp:(jr b.ps).map (·.1)=b.ps.map λp=>(.inr p.1:Key):=by
   unfold jr;rw[Y0];have:(λp:(af×af)×Nat=>((.inr p.1.1:Key),V.int (p.2:Int)).1)=(λp:af×af=>(.inr p.1:Key))∘Prod.fst:=rfl;show b.ps.zipIdx.map (λp:(af×af)×Nat=>((.inr p.1.1:Key),V.int (p.2:Int)).1)=_;rw[this,←Y0,List.zipIdx_map_fst]
  have TM:∀{ks:Z Key},ks=(b.ps.map λp=>(.inr p.1:Key))->(.inr n:Key)∉ks:=λ{ks} e z=>by
   rw[e] at z;obtain⟨p,hp,ep⟩:=Yh.mp z;exact new (Yh.mpr ⟨p,hp,Wl ep⟩)
  have vp:aF (jr b.ps) (.inr n)=aI:=lK (TM Zhp);have vs':aF (fO b.ps) (.inr n)=aI:=lK (TM (by show(b.ps.map _).map _=_;rw[Y0];rfl));rw[kG _ vp,kl] at e1;refine⟨_,rfl,_,rfl,l.h,C,D,_,_,rfl,b1 _ _ h1 bN,i.cls,i.sO,rfl,_,rfl,l.sd,_,.inr n,rfl,b1 _ _ d.cH Ab,rfl,QO,λH2 b2 e2=>?_⟩;rw[kG _ vs'] at e2;have j:∀{a:U} {o:HO},H a=O o->a≠l.pl->a≠l.sd->H2 a=O o:=λ{a o} e n1 n2=>b2 _ _ (b1 _ _ e n1) n2;have I:Out l.own H H2:=λa u e na=>j e (λz=>na (by rw[z];simp[BL.own])) (λz=>na (by rw[z];simp[BL.own]));have s2:H2 l.sd=O (.dK (fO (b.ps++[(n,s)]))):=by rw[ZeY];exact e2
  have p2:H2 l.pl=O (.dK (jr (b.ps++[(n,s)]))):=by rw[ZeZ];exact b2 _ _ e1 (λz=>Ab z.symm)
  have N:=j h1 bN nR;have tp:∀{a:U} {G:Z V} {H3:Hp},Out l.fp H H3->H a=O (.tup G)->H3 a=O (.tup G):=λo e=>o _ _ e (d.tup e);have mk:∀(x:BL) (H3:Hp),x={l with fG:=x.fG}->Out l.fp H H3->fC l.fp x.fp H->(∀a u,H2 a=O u->a∈l.own->H3 a=O u)->t_ H3 CJ L.length x {b with ps:=b.ps++[(n,s)]}->Q .aB H3:=λx H3 t o g k rk=>by
   refine q x H3 ⟨by rw[t],o,g⟩ ?_;refine d.build (l':=x) (b':={b with ps:=b.ps++[(n,s)]}) (by rw[t]) (by rw[t]) (by rw[t]) (by rw[t]) (by rw[t]) (by rw[t]) (by rw[t]) (by rw[t]) (by rw[t]) o g ⟨D,?_⟩ (k _ _ s2 (by simp[BL.own])) (k _ _ p2 (by simp[BL.own])) ?_ ?_ ?_ ?_ ?_ ?_ ?_ ?_ rk
   ·have:x.rk=l.rk:=by rw[t]
    rw[this];exact k _ _ N (by simp[BL.own])
   ·have:x.bL=l.bL:=by rw[t]
    rw[this];exact k _ _ (j d.facts (λz=>rW z.symm) (λz=>uG z.symm)) (by simp[BL.own])
   ·have:x.bL=l.bL:=by rw[t]
    rw[this];have aux:∀{as:Z U} {fs:Z (Nat×Fc)},Paired (λa (p:Nat×Fc)=>H a=O (.tup ((iz b.ps p.1 p.2).map kV))) as fs->(∀p∈fs,iy L.length b.ps.length p.2)->Paired (λa (p:Nat×Fc)=>H3 a=O (.tup ((iz (b.ps++[(n,s)]) p.1 p.2).map kV))) as fs:=by
     intro as fs pr;induction pr with
     |nil=>intro _;exact .nil
     |cons f _ ih=>intro m;exact .cons (by rw[ZeW (m _ Yj)];exact tp o f) (ih λp hp=>m p (Yv _ hp))
    exact aux d.fact uc
   ·show H3 l.kn=O (.dT (f_ (b.ps++[(n,s)]) b.fs));rw[ZeX uc];exact k _ _ (j d.known (λz=>uJ z.symm) (λz=>uH z.symm)) (by simp[BL.own])
   ·show H3 l.pr=O (.dT (bV (b.ps++[(n,s)]) b.fs));rw[Qu uc];exact k _ _ (j d.parents (λz=>uK z.symm) (λz=>uI z.symm)) (by simp[BL.own])
   ·have:x.iY=l.iY:=by rw[t]
    rw[this];exact k _ _ (j d.done (λz=>xF z.symm) (λz=>xD z.symm)) (by simp[BL.own])
   ·have:x.iY=l.iY:=by rw[t]
    rw[this];exact L2.Paired.aW d.ka λ_ _ e=>e.out o λa G e=>d.tup e
   ·have:x.lD=l.lD:=by rw[t]
    rw[this];exact k _ _ (j d.h_ (λz=>xG z.symm) (λz=>xE z.symm)) (by simp[BL.own])
   ·have:x.lD=l.lD:=by rw[t]
    rw[this];exact L2.Paired.aW d.lO λ_ _ e=>e.out o λa G e=>d.tup e
  cases hj:d.qa with
  |no J T=>
   rw[J] at N;refine⟨_,rfl,l.h,C,D,_,_,rfl,N,i.cls,i.i6,rfl,rfl,_,rfl,dh (bJ ?_)⟩;exact mk l H2 rfl (sP I) (fC.refl _ _) (λ_ _ e _=>e) (.no J T)
  |at_ jl st J T ja W len fP=>
   have R:=N;rw[J] at R;have DM:=ja.gO I fP (d.II ja W) λa G e z=>d.tup e (Yk _ z);obtain⟨dj,ej⟩:=DM.obj;have wf:=W.wf;have ml:=wf.RN;have z9:=wf.B7;have n8:L.length<=8:=ok.gd.2.2.2.2;refine⟨_,rfl,l.h,C,D,_,_,rfl,R,i.cls,i.i6,rfl,rfl,_,rfl,dI ?_⟩;refine⟨_,rfl,l.h,C,D,_,_,rfl,R,i.cls,i.i6,rfl,jl.J,dj,_,rfl,ej,rfl,jl,st,L.length,rfl,DM,(d4 n8 (by decide)),QO,ml,z9,wf.ll,λz=>Wd _ (wf.lm _ z),λz=>Wd _ (wf.lf _ z),λiC H3 k1 o3 gr L6=>?_⟩;refine mk {l with fG:=iC.fp} H3 rfl (SS T I o3) (RW T I gr) (λa u e m=>o3 _ _ e (fP a m)) ?_;refine .at_ iC _ (by rw[k1];exact J) rfl L6 (W.more (by have:=ok.gd.2.2.2.1;omega)) ?_ λa m z=>?_;·rw[jy,len,Yq];rfl
   ·rcases gr a z with y|y;·exact fP a m y
    ·have:=d.there (a:=a) (Yk _ m);have:H2 a≠aI:=by
      have m':a∈l.own:=m;unfold BL.own at m';simp only[Ys,Wb,fH] at m';rcases m' with rfl|rfl|rfl|rfl|rfl|rfl|rfl|rfl;·rw[N];exact λz=>nomatch z
      ·rw[s2];exact λz=>nomatch z
      ·rw[p2];exact λz=>nomatch z
      ·rw[j d.facts (λz=>rW z.symm) (λz=>uG z.symm)];exact λz=>nomatch z
      ·rw[j d.known (λz=>uJ z.symm) (λz=>uH z.symm)];exact λz=>nomatch z
      ·rw[j d.parents (λz=>uK z.symm) (λz=>uI z.symm)];exact λz=>nomatch z
      ·rw[j d.done (λz=>xF z.symm) (λz=>xD z.symm)];exact λz=>nomatch z
      ·rw[j d.h_ (λz=>xG z.symm) (λz=>xE z.symm)];exact λz=>nomatch z
     exact this y
 |fin z c X fg nz nk np lv lim=>
  refine⟨_,rfl,r,_,rfl,aK.of X,_,rfl,dh ?_⟩;refine⟨_,rfl,l.h,D,_,rfl,h1,rfl,_,rfl,l,b,L,ys,r,z,c,rfl,d,X,nz,nk,np,(lg lim),λH1 o1 f1 k1 p1=>?_⟩;have j:∀{a:U} {o:HO},H a=O o->a≠l.fc->a≠l.kn->a≠l.pr->H1 a=O o:=λ{a o} e n1 n2 n3=>o1 _ _ e (by simp[n1,n2,n3]);have I:Out l.own H H1:=λa u e na=>j e (λz=>na (by rw[z];simp[BL.own])) (λz=>na (by rw[z];simp[BL.own])) (λz=>na (by rw[z];simp[BL.own]));have N:=j h1 jt nS mK;have VE:=nd;simp only[Y4,Ys,Wb,fH,iK] at VE;obtain⟨_,_,_,⟨Ac,Ad,xH,kQ⟩,⟨DN,Ae,Af⟩,⟨Ag,Ah⟩,_⟩:=VE;have s2:=j d.cH uG uH uI;have p2:=j d.places rW uJ uK;have d2:=j d.done (λz=>xH z.symm) (λz=>Ae z.symm) (λz=>Ag z.symm);have u2:=j d.h_ (λz=>kQ z.symm) (λz=>Af z.symm) (λz=>Ah z.symm);have tp:∀{a:U} {G:Z V} {H3:Hp},Out l.fp H H3->H a=O (.tup G)->H3 a=O (.tup G):=λo e=>o _ _ e (d.tup e);have mk:∀(jf:Z U) (H3:Hp),Out l.fp H H3->fC l.fp ({l with bL:=l.bL++[r],fG:=jf}:BL).fp H->(∀a u,H1 a=O u->a∈l.own->H3 a=O u)->t_ H3 CJ L.length {l with bL:=l.bL++[r],fG:=jf} {b with fs:=b.fs++[(z,c)]}->Q .aB H3:=λjf H3 o g k rk=>by
   refine q {l with bL:=l.bL++[r],fG:=jf} H3 ⟨rfl,o,g⟩ ?_;refine d.build (l':={l with bL:=l.bL++[r],fG:=jf}) (b':={b with fs:=b.fs++[(z,c)]}) rfl rfl rfl rfl rfl rfl rfl rfl rfl o g ⟨D,k _ _ N (by simp[BL.own])⟩ (k _ _ s2 (by simp[BL.own])) (k _ _ p2 (by simp[BL.own])) (k _ _ f1 (by simp[BL.own])) ?_ (k _ _ k1 (by simp[BL.own])) (k _ _ p1 (by simp[BL.own])) (k _ _ d2 (by simp[BL.own])) (L2.Paired.aW d.ka λ_ _ e=>e.out o λa G e=>d.tup e) (k _ _ u2 (by simp[BL.own])) (L2.Paired.aW d.lO λ_ _ e=>e.out o λa G e=>d.tup e) rk;exact pK (F:=λa (p:Nat×Fc)=>H3 a=O (.tup ((iz b.ps p.1 p.2).map kV))) (tp o X) (L2.Paired.aW d.fact λ_ _ e=>tp o e)
  cases hj:d.qa with
  |no J T=>
   rw[J] at N;refine⟨_,rfl,l.h,C,D,_,_,rfl,N,i.cls,i.i6,rfl,rfl,_,rfl,dh (bJ ?_)⟩;exact mk l.fG H1 (sP I) (fC.refl _ _) (λ_ _ e _=>e) (.no J T)
  |at_ jl st J T ja W len fP=>
   have R:=N;rw[J] at R;have DM:=ja.gO I fP (d.II ja W) λa G e z=>d.tup e (Yk _ z);have la2:fQ H1 CL l.L L ys:=d.land H1 (sP I);refine⟨_,rfl,l.h,C,D,_,_,rfl,R,i.cls,i.i6,rfl,rfl,_,rfl,dI ?_⟩;refine⟨_,rfl,l.h,C,D,_,_,rfl,R,i.cls,i.i6,rfl,_,rfl,l.h,C,D,_,_,rfl,R,i.cls,i.yM,rfl,_,rfl,l.h,C,D,_,_,rfl,R,i.cls,i.oo,rfl,_,rfl,jl,st,l.L,l.pl,r,L,ys,b.ps,b.F,z,c,rfl,DM,W,la2,ok.gd,p2,ok.nm,len,by have:=ok.m;omega,tp (sP I) X,fg,?_,λv iC aQ H3 e1 sub o3 L6 me3 Zio=>?_⟩
   ·obtain⟨f0,i0,s0⟩:=lv;exact⟨f0,(W.iff f0).mpr ⟨by rw[len];exact i0,λc' m'=>s0 c' (Yk _ m')⟩,s0 c (Ye _ Yj)⟩
   have gr:fC jl.fp iC.fp H1:=λa z=>.inl (sub a z);refine mk iC.fp H3 (SS T I o3) (RW T I gr) (λa u e m=>o3 _ _ e (fP a m)) ?_;refine .at_ iC aQ (by rw[e1];exact J) rfl L6 ?_ (by rw[Zio];exact len) λa m z=>fP a m (sub a z);show fK L.length aQ ((b.fs++[(z,c)]).map (·.2));rw[Yt];exact me3
def Pl{l b:BL}(d:b.own=l.own)(c:b.fG=[]):fC l.fp b.fp H:=λa z=>.inl (by
 unfold BL.fp at z;rw[d,c,Wh] at z;exact Yk _ z)
def xY:aS ["self","row","number","kind","one","other"] wG (aL Ep):=.bg
theorem Zam(F:aP K "take_out" "Hearth.take_out" Ep f fd)(g:hJ K C)(jw:mg "PARENTS"=O (.ref ee))(qP:∀H,aK K H ee (jh.map V.str))(va:HasFn P w K mg B 1 "is_person" jN (Gp K))(pL:HasFn P w K mg B 1 "fact_key" wD B8):aH P w K mg B aO 2 f fd wG (Ox C CL CJ):=by
 refine F.o xY @λaU A outer vs Q E s H T h=>?_;obtain⟨l,b,b',xs,ys,r,rfl,d,ok,mv,q⟩:=h;refine⟨_,(av (bw (hU (bq va T (aa (pv 1) ai))) iF (av (sS (pv 1) (mU (K:=K) (n:=4) rfl rfl (cS (cz 2 xY.nd) (cS (cz 3 xY.nd) (cS (cz 4 xY.nd) (cS (cz 5 xY.nd) mT)))))) (av (Zc9 (pF K 0) (pv 2)) (av (OW (bu T) (pF K 0) (bq pL T (aa (pv 3) (aa (pv 4) (aa (pv 5) ai))))) (aC (bw (jU (rM (K:=K) rfl) (pv 3) (eg (v:=.ref ee) rfl jw rfl) QU) (aC (OW (bu T) (pF K 0) (eS (aa (pv 3) (aa (pv 4) ai))))) bI)))))) (aC (g_ (K:=K) rfl (pv 0) qW))),?_⟩;obtain⟨k,I⟩:=d.obj;have sz:(10000:Nat)<=sizeLine:=by rw[c7];decide
 have nd:=d.nd;unfold BL.own at nd;simp only[Y4,Ys,Wb,fH,iK] at nd;obtain⟨⟨nR,bN,G,R,mK,pE,qE⟩,⟨Ab,uG,uH,uI,xD,xE⟩,⟨rW,uJ,uK,xF,xG⟩,⟨Ac,Ad,xH,kQ⟩,⟨DN,Ae,Af⟩,⟨Ag,Ah⟩,_⟩:=nd;cases mv with
 |zh z c hR m=>
  have al:(b.fs.map (·.1)).length=l.bL.length:=by rw[Ya];exact(dC d.fact).symm
  obtain⟨fa,vfa,_⟩:=ZeV (H:=H) (ps:=b.ps) d.fact ok.zs m;have Zhq:(f_ b.ps b.fs).map (·.1)=b.keys:=by unfold f_ BS.keys;rw[Y0];rfl
  refine⟨_,rfl,r,_,rfl,aK.of hR,_,rfl,dh ?_⟩;refine⟨_,rfl,r,_,rfl,aK.of hR,rfl,_,_,rfl,bP ⟨_,_,rfl,bP ⟨_,_,rfl,bP ⟨_,_,rfl,bP ⟨rfl,?_⟩⟩⟩⟩⟩;refine⟨_,rfl,l.h,C,k,_,_,rfl,I,g.cls,g.Bo,rfl,_,rfl,l.fc,_,.inl (z:Int),rfl,d.facts,rfl,by rw[vfa];rfl,λH1 b1 e1=>?_⟩;rw[AO z al,←pQ] at e1;refine⟨_,rfl,l.h,C,k,_,_,rfl,b1 _ _ I G,g.cls,g.Bp,rfl,_,rfl,_,rfl,_,rfl,c.k,ay b.ps c.one,cJ b.ps c,rfl,λe=>Qy e,λp H2 z5 g2 eP=>?_⟩;refine⟨l.kn,p,_,gs b.ps c,rfl,g2 _ _ (b1 _ _ d.known (λz=>Ac z.symm)),rfl,eP,(Bc _ _).mpr (by rw[Zhq];exact Yh.mpr ⟨_,m,rfl⟩),λH3 b3 e3=>?_⟩;rw[ZdF ok.zs ok.ky m] at e3;have D:∀{a:U} {o:HO},H a=O o->a≠l.fc->a≠l.kn->H3 a=O o:=λ{a o} e n1 n2=>b3 _ _ (g2 _ _ (b1 _ _ e n1)) n2;have ef3:=b3 _ _ (g2 _ _ e1) Ac;have Aa:=D d.parents (λz=>Ad z.symm) (λz=>DN z.symm);have i:∀t,(∀{a:U} {o:HO},H3 a=O o->a≠l.pr->t a=O o)->t l.pr=O (.dT (bV b.ps (dM z b.fs)))->∀H6,aA l.h t H6->H6 l.h=O (.ins C k (HF l.L l.sd l.pl l.fc l.kn l.pr (b.co:Int) l.dn l.un .aB))->Q .aB H6:=λt x W H6 j J=>by
   have y:∀{a:U} {o:HO},H a=O o->a≠l.fc->a≠l.kn->a≠l.pr->a≠l.h->H6 a=O o:=λ{a o} e n1 n2 n3 n4=>j _ _ (x (D e n1 n2) n3) n4;have o6:Out l.own H H6:=λa u e N=>y e (λz=>N (by rw[z];simp[BL.own])) (λz=>N (by rw[z];simp[BL.own])) (λz=>N (by rw[z];simp[BL.own])) (λz=>N (by rw[z];simp[BL.own]));have of:=sP o6;have tp:∀{a:U} {L:Z V},H a=O (.tup L)->H6 a=O (.tup L):=λe=>of _ _ e (d.tup e);refine q {l with rk:=.aB,fG:=[],bL:=eM (b.fs.map (·.1)) l.bL z} H6 ⟨rfl,of,Pl rfl rfl⟩ ?_;exact d.build (l':={l with rk:=.aB,fG:=[],bL:=eM (b.fs.map (·.1)) l.bL z}) (b':={b with fs:=dM z b.fs}) rfl rfl rfl rfl rfl rfl rfl rfl rfl of (Pl rfl rfl) ⟨k,J⟩ (y d.cH uG uH uI (λz=>nR z.symm)) (y d.places rW uJ uK (λz=>bN z.symm)) (j _ _ (x ef3 Ad) (λz=>G z.symm)) (Gk d.fact λa p e _ _=>tp e) (j _ _ (x e3 DN) (λz=>R z.symm)) (j _ _ W (λz=>mK z.symm)) (y d.done (λz=>xH z.symm) (λz=>Ae z.symm) (λz=>Ag z.symm) (λz=>pE z.symm)) (L2.Paired.aW d.ka λ_ _ e=>e.out of λa L e=>d.tup e) (y d.h_ (λz=>kQ z.symm) (λz=>Af z.symm) (λz=>Ah z.symm) (λz=>qE z.symm)) (L2.Paired.aW d.lO λ_ _ e=>e.out of λa L e=>d.tup e) (.no rfl rfl)
  refine⟨_,rfl,ee,_,rfl,.inr (qP _),rfl,rfl,_,rfl,?_⟩;dsimp only;rw[bb Yo,show fS (kV (Sum.inr c.k)) (jh.map V.str)=bC c.k from Bs c.k];refine bR (λX=>?_) (λX=>bJ ?_)
  ·refine⟨_,rfl,l.h,C,k,_,_,rfl,D I G R,g.cls,g.vH,rfl,_,rfl,_,rfl,by show 2<=sizeLine;decide,λp4 H4 np4 g4 L5=>?_⟩;refine⟨l.pr,p4,_,[.inr c.k,.inr (ay b.ps c.one)],rfl,g4 _ _ Aa,rfl,L5,(Bc _ _).mpr ?_,λt b5 W=>?_⟩
   ·unfold bV;rw[Y0];exact Yh.mpr ⟨(z,c),Yy.mpr ⟨m,X⟩,rfl⟩
   rw[ZdG ok.zs ok.pr m X] at W;have x:∀{a:U} {o:HO},H3 a=O o->a≠l.pr->t a=O o:=λ{a o} e n=>b5 _ _ (g4 _ _ e) n;refine⟨_,rfl,l.h,C,k,_,rfl,x (D I G R) mK,g.cls,g.i6,by show 10<1000;decide,λH6 j J=>?_⟩;exact i t x W H6 j J
  ·have ef:bC c.k=aY:=by
    cases e:bC c.k with
    |true=>exact absurd e X
    |false=>rfl
   refine⟨_,rfl,l.h,C,k,_,rfl,D I G R,g.cls,g.i6,by show 10<1000;decide,λH6 j J=>?_⟩;exact i H3 (λe _=>e) (by rw[←Zcf ok.zs m ef];exact Aa) H6 j J
abbrev qk:Z af:=["self","way","row","coming"]
def YC:aS qk qk (aL EX):=.bg
def ZdH(F:aP K "shift" "Hearth.shift" EX f fd)(x:hJ K C)(pR:mg "PUT_IN"=O (.int 1 t1))(EM:cG P w K mg B 8 "put_in" C wG (Qw C CL CJ))(Et:cG P w K mg B 2 "take_out" C wG (Ox C CL CJ)):aH P w K mg B aO 9 f fd qk (Qx C CL CJ):=by
 refine F.o YC @λaU A D vs Q E s H T h=>?_;obtain⟨l,b,n,t,p,r,L,I,rfl,J,ok,mv,q⟩:=h;refine⟨_,(av (bw (cA dv (pv 1) (eg (v:=.int (1)) rfl pR ⟨_,rfl⟩)) (aC (cu (dE EM T (by decide) (pv 0) (aa (pv 2) ai)))) (aC (cu (dE Et T (by decide) (pv 0) (aa (pv 2) ai))))) (aC (g_ (K:=K) rfl (pv 0) (pv 3)))),?_⟩;obtain⟨dx,W⟩:=J.obj;have R:∀(c:BL) (g:Hp),cK H g l c->a_ g C CL CJ c t p n->∀(i:U) (H2:Hp),g c.h=O (.ins C i (HF c.L c.sd c.pl c.fc c.kn c.pr (n.co:Int) c.dn c.un c.rk))->aA c.h g H2->H2 c.h=O (.ins C i (HF c.L c.sd c.pl c.fc c.kn c.pr (I:Int) c.dn c.un c.rk))->Q .aB H2:=λc g m d i H2 o j e2=>by
  have G:=d.nd;unfold BL.own at G;simp only[Y4,Ys,Wb,fH,iK] at G;obtain⟨⟨nR,bN,jt,nS,mK,pE,qE⟩,_⟩:=G;have N:Out c.own g H2:=λa u e na=>j _ _ e (λz=>na (by rw[z];simp[BL.own]));have of:=sP N;have xI:=(d.owned (b':={n with co:=I}) rfl rfl rfl rfl rfl rfl rfl rfl rfl (.inl ⟨rfl,rfl,rfl,rfl⟩) N ⟨i,e2⟩ (j _ _ d.cH (λz=>nR z.symm)) (j _ _ d.places (λz=>bN z.symm)) (j _ _ d.facts (λz=>jt z.symm)) (L2.Paired.aW d.fact λ_ _ e=>(λe=>of _ _ e (d.tup e)) e) (j _ _ d.known (λz=>nS z.symm)) (j _ _ d.parents (λz=>mK z.symm)) (j _ _ d.done (λz=>pE z.symm)) (L2.Paired.aW d.ka λ_ _ e=>e.out of λ a us=>d.tup) (j _ _ d.h_ (λz=>qE z.symm)) (L2.Paired.aW d.lO λ_ _ e=>e.out of λa us e=>d.tup e)).1;exact q c H2 (m.trans ⟨rfl,of,fC.refl _ _⟩) xI
 have X:∀(c:BL) (g:Hp),cK H g l c->a_ g C CL CJ c t p n->∃i,g l.h=O (.ins C i (HF c.L c.sd c.pl c.fc c.kn c.pr (n.co:Int) c.dn c.un c.rk))/\∀H2,aA l.h g H2->H2 l.h=O (.ins C i (HF c.L c.sd c.pl c.fc c.kn c.pr (I:Int) c.dn c.un c.rk))->Q .aB H2:=λc g m d=>by
  obtain⟨i,o⟩:=d.obj;have eh:=m.h
  grind
 have y:L=1\/L=-1:=by cases mv<;>first|exact .inl rfl|exact .inr rfl
 rcases y with rfl|rfl
 ·refine⟨_,rfl,rfl,_,rfl,dI ?_⟩;refine⟨_,rfl,l.h,dx,_,rfl,W,rfl,_,rfl,l,b,n,t,p,r,rfl,J,ok,mv,λc g m d=>?_⟩;obtain⟨i,o,k⟩:=X c g m d;exact⟨_,rfl,_,rfl,l.h,C,i,_,rfl,o,x.cls,x.vM,by show 10<1000;decide,k⟩
 ·refine⟨_,rfl,rfl,_,rfl,dh ?_⟩;refine⟨_,rfl,l.h,dx,_,rfl,W,rfl,_,rfl,l,b,n,t,p,r,rfl,J,ok,mv,λc g m d=>?_⟩;obtain⟨i,o,k⟩:=X c g m d;exact⟨_,rfl,_,rfl,l.h,C,i,_,rfl,o,x.cls,x.vM,by show 10<1000;decide,k⟩
def XY:aS qk qk (aL Ez):=.bg
def Zbh(F:aP K "do_deed" "Hearth.do_deed" Ez f fd)(g:hJ K C)(EZ:cG P w K mg B 9 "shift" C qk (Qx C CL CJ)):aH P w K mg B aO 10 f fd qk (G_ C CL CJ):=by
 refine F.o XY λs H hr h=>?_;obtain⟨l,b,b',W,T,r,E,N,x,rfl,c,ok,dl,hR,mv,q⟩:=h;refine⟨_,(av (cu (sW (K:=K) rfl (rf k9 lG lr vm (pF K 0) (aa (eS (aa (pv 1) (aa (pv 2) (aa (pF K 0) (aa (pv 3) ai))))) ai)))) (av (cu (Zeu (K:=K) rfl (Zfu k9 PySem.F.slot_list_clear PySem.F.type_list_clear ZbU (pF K 0)))) (aC (cu (dE EZ hr (by decide) (pv 0) (aa (pv 1) (aa (pv 2) (aa (pv 3) ai)))))))),?_⟩;obtain⟨j,i⟩:=c.obj;have sz:(10000:Nat)<=sizeLine:=by rw[c7];decide
 have A:=c.nd;unfold BL.own at A;simp only[Y4,Ys,Wb,fH,iK] at A;obtain⟨⟨nR,bN,jt,nS,mK,y,I⟩,⟨Ab,uG,uH,uI,xD,xE⟩,⟨rW,uJ,uK,xF,xG⟩,⟨Ac,Ad,X,kQ⟩,⟨DN,Ae,Af⟩,⟨Ag,Ah⟩,R,_⟩:=A;have dal:=dC c.ka;refine⟨_,rfl,l.h,C,j,_,_,rfl,i,g.cls,g.RT,rfl,.inl ⟨rfl,_,aj.of c.done⟩,?_⟩;refine⟨_,rfl,_,rfl,_,rfl,l.h,C,j,_,_,rfl,i,g.cls,g.vM,rfl,_,rfl,by show 4<=sizeLine;decide,λp H1 m n e1=>?_⟩;refine⟨l.dn,_,_,rfl,rfl,n _ _ c.done,by rw[Ya];omega,λH2 t e2=>?_⟩;have a1:=t _ _ (n _ _ i) y;have Q:=t _ _ (n _ _ c.h_) (λz=>R z.symm);refine⟨_,rfl,l.h,C,j,_,_,rfl,a1,g.cls,g.Pc,rfl,.inl ⟨rfl,_,aj.of Q⟩,l.un,_,rfl,rfl,Q,λH3 D e3=>?_⟩;have d:∀{a:U} {o:HO},H a=O o->a≠l.dn->a≠l.un->H3 a=O o:=λ{a o} e n1 n2=>D _ _ (t _ _ (n _ _ e) n1) n2;have J:Out l.own H H3:=λa u e L=>d e (λz=>L (by rw[z];simp[BL.own])) (λz=>L (by rw[z];simp[BL.own]));have of:=sP J;have v:∀{a:U} {k:Z V},H a=O (.tup k)->H3 a=O (.tup k):=λe=>of _ _ e (c.tup e);have pu:p≠l.un:=λz=>by rw[z,c.h_] at m;cases m
 have ed:H3 l.dn=O (.lst ((l.iY++[p]).map V.ref)):=by rw[Yt];exact D _ _ e2 R
 have G:=(c.owned (l':={l with iY:=l.iY++[p],lD:=[]}) (b':={b with dn:=b.dn++[⟨E,x,b.co,N⟩],un:=[]}) rfl rfl rfl rfl rfl rfl rfl rfl rfl (.inl ⟨rfl,rfl,rfl,rfl⟩) J ⟨j,d i y I⟩ (d c.cH xD xE) (d c.places xF xG) (d c.facts X kQ) (L2.Paired.aW c.fact λ_ _ e=>v e) (d c.known Ae Af) (d c.parents Ag Ah) ed (pK (F:=jW H3) ⟨r,D _ _ (t _ _ e1 (λz=>by rw[z,c.done] at m;cases m)) pu,v hR⟩ (L2.Paired.aW c.ka λ_ _ e=>e.out of λa k e=>c.tup e)) e3 .nil);have h3:=d i y I;refine⟨_,rfl,l.h,j,_,rfl,h3,rfl,_,rfl,_,rfl,_,rfl,{l with iY:=l.iY++[p],lD:=[]},_,_,W,T,r,E,N,rfl,G.1,⟨ok.gd,ok.nm,ok.m,ok.fl,ok.fg,ok.zs,ok.lt,ok.ky,ok.pr,ok.lv,by show(b.dn++[_]).length<=200;rw[Yq];show b.dn.length+1<=200;exact gb dl,Yx _⟩,((mv.Zho _ _).out λk e=>v e),λl' H4 wt DO=>?_⟩;exact q l' H4 (cK.trans (l1:={l with iY:=l.iY++[p],lD:=[]}) ⟨rfl,of,G.2⟩ wt) DO
def bU.Ziq(j:bU H C n l st)(h:a∈l.bL):∃b,H a=O (.lst b):=by
 obtain⟨p,e⟩:=yd j.free h
 grind
def bU.uL(j:bU H C n l st)(e:H a=O o)(p:∀c,o≠.lst c)(m:∀c,o≠.tup c)(r:a∉l.fp)(i:aA a H k):bU k C n l st:=by
 refine j.gO (fp:=[a]) (λb u g h=>i _ _ g λz=>h (by rw[z];exact Yj)) (λb d=>?_) (λb d z=>?_) λb c g z=>?_;·grind
 ·rw[Yl.mp d] at z;obtain⟨c,q⟩:=j.Ziq z
  grind
 ·grind
inductive qc(H:Hp)(C CJ g d:U)(l:BL)(b:BS)(n:Nat)(J:U)(F:Z Fc)(m:Nat)(c:Hp):Prop
 |mk (e:JL) (st:JS) (k:e.J=J) (keep:∀a u,H a=O u->a≠l.h->a≠d->c a=O u) (h:c l.h=O (.ins C g (HF l.L l.sd l.pl l.fc l.kn l.pr (b.co:Int) l.dn l.un (.ref J)))) (j:bU c CJ n e st) (i:fK n st F) (len:st.hd.length=m) (new:∀a∈e.fp,H a=aI):qc H C CJ g d l b n J F m c
def qc.uL(j:qc H C CJ G d l b n J F m k)(A:H c≠aI)(e:k c=O o)(q:∀g,o≠.lst g)(p:∀g,o≠.tup g)(r:c≠l.h)(i:aA c k H7)(I:∀u,H d=O u->d≠c->d≠l.h->H7 d=O u):qc H C CJ G c l b n J F m H7:=by
 obtain⟨x,st,E,keep,h,y,v,len,new⟩:=j;refine⟨x,st,E,λa u D t s=>?_,i _ _ h (λz=>r z.symm),y.uL e q p (λz=>A (new _ z)) i,v,len,new⟩;by_cases z:a=d;·grind
 ·exact i _ _ (keep a u D t z) s
theorem Oy:∀{c:Z Nat} {as:Z U} {i:Nat} {k:Key} {y:V},(bj c as)[i]?=O (k,y)->∃a,as[i]?=O a/\y=.ref a
 |[],as,i,k,y,h=>by
  unfold bj at h;simp at h
 |_::_,[],i,k,y,h=>by
  unfold bj at h;simp at h
 |q::c,a::as,0,k,y,h=>by
  injection(Yr h) with _ e
  grind
 |q::c,a::as,i+1,k,y,h=>by
  have g:bj (q::c) (a::as)=(Sum.inl (q:Int),V.ref a)::bj c as:=rfl;rw[g] at h;have d:(bj c as)[i]?=O (k,y):=by simpa using h
  obtain⟨b,j,e⟩:=Oy d
  grind
inductive Qz(C CL CJ:U)(i:Z V)(H:Hp)(Q:VK)(E:XK):Prop
 |mk (l:BL) (b:BS) (d h:Z Int) (k:i=[.ref l.h]) (j:a_ H C CL CJ l d h b) (ok:cX d h b) (q:∀(c:BL) (e:JL) (st:JS) (g:Hp),cK H g l c->a_ g C CL CJ c d h b->c.rk=.ref e.J->c.fG=e.fp->bU g CJ d.length e st->fK d.length st b.F->st.hd.length=b.ps.length->(∀a∈c.own,a∉e.fp)->(l.rk≠.aB->g=H/\c=l)->Q (.ref e.J) g)
def EN:aS ["self","name","fact"] nj (aL EW):=.bg
theorem ZdI(F:aP K "joins" "Hearth.joins" EW f fd)(t:hJ K C)(lc:yU K CL)(HV:we P w K mg B 1 "Joins" CJ Cu (Qk CJ))(vd:cG P w K mg B 2 "add" CJ nj (JE CJ))(ve:HasFn P w K mg B 6 "keep_fact" ua (HU CL CJ)):aH P w K mg B aO 8 f fd nj (Qz C CL CJ):=by
 refine F.o EN λs H hr h=>?_;obtain⟨l,b,X,ys,rfl,g,ok,q⟩:=h;refine⟨_,(av (bw (cA Ib (pF K 0) qW) (av (g_ (K:=K) rfl (pv 0) (IZ HV hr (by decide) rfl (aa (Bk (K:=K) rfl (pF K 0) rfl) ai))) (av (ZaW (H0:=H) rfl iP rfl (P7 (H0:=H) rfl (pF K 0)) (cz 1 EN.nd) (aC (cu (BD vd hr (by decide) (pF K 0))))) (aC (ZaX (H0:=H) rfl iP rfl (Zew (H0:=H) rfl (pF K 0)) (cz 2 EN.nd) (aC (cu (bq ve hr (aa (pF K 0) (aa (pF K 0) (aa (pF K 0) (aa (pv 2) ai))))))))))) bI) (aC (aX (pF K 0)))),?_⟩;obtain⟨A,h1⟩:=g.obj;have n8:X.length<=8:=ok.gd.2.2.2.2;have n0:0<X.length:=by have:=ok.gd.2.2.2.1;omega
 have nd:=g.nd;unfold BL.own at nd;simp only[Y4,Ys,Wb,fH,iK] at nd;obtain⟨⟨nR,bN,jt,nS,mK,pE,qE⟩,⟨Ab,uG,uH,uI,xD,xE⟩,⟨rW,uJ,uK,xF,xG⟩,⟨Ac,Ad,xH,kQ⟩,_⟩:=nd;cases hj:g.qa with
 |at_ p st j1 j2 Q I len fP=>
  have nL:=h1;rw[j1] at nL;refine⟨_,rfl,l.h,C,A,_,_,rfl,nL,t.cls,t.i6,rfl,rfl,_,rfl,dh (bJ ?_)⟩;exact⟨_,rfl,l.h,C,A,_,_,rfl,nL,t.cls,t.i6,rfl,q l p st H (cK.of (aq.refl _)) g j1 j2 Q I len fP λ_=>⟨rfl,rfl⟩⟩
 |no j1 j2=>
  have nL:=h1;rw[j1] at nL;refine Bx (λσ H6=>∃(J:U) (E D:bt V),σ=[O (.ref l.h),E,D]/\qc H C CJ A l.h l b X.length J b.F b.ps.length H6) (λnx hn=>?_) ?_
  ·refine⟨_,rfl,l.h,C,A,_,_,rfl,nL,t.cls,t.i6,rfl,rfl,_,rfl,dI ?_⟩;obtain⟨dL,dS,mo,z_,wi,im,jf,iw,xf,hL,_⟩:=g.landAt;refine⟨_,rfl,l.h,C,A,_,_,rfl,nL,t.cls,t.yM,rfl,l.L,CL,dL,_,_,rfl,hL,lc.cls,lc.v9,rfl,λx DP Ai zU uM=>?_⟩;have zV:upd H DP (.own x) x=aI:=by rw[az (λz=>uM z.symm)];exact Ai
   have VF:aq H (upd (upd H DP (.own x)) x (.ins CJ DP [])):=(cY zU _).trans (cY zV _);refine⟨x,DP,X.length,rfl,aM,λL8 H2 eJ1 em1 fr1 b2 ja1=>⟨rfl,?_⟩⟩;have f1:∀a∈L8.fp,H a=aI:=λa ha=>by
    by_cases z:a=x;·rw[z];exact Ai
    ·exact VF.free (fr1 a ha z)
   have g2:aq H H2:=λa o e=>b2 _ _ (VF _ _ e) (bW e Ai);refine⟨_,rfl,l.h,C,A,_,rfl,g2 _ _ nL,t.cls,t.i6,by show 10<1000;decide,λH3 b3 e3=>?_⟩;have VG:H3 l.h=O (.ins C A (HF l.L l.sd l.pl l.fc l.kn l.pr (b.co:Int) l.dn l.un (.ref x))):=e3;have DL:l.h∉L8.fp:=λz=>by have:=f1 _ z;rw[h1] at this;cases this
   have jm3:qc H C CJ A l.h l b X.length x [] 0 H3:=⟨L8,_,eJ1,λa u e n1 _=>b3 _ _ (g2 _ _ e) n1,VG,ja1.uL (g2 _ _ nL) (λG z=>nomatch z) (λG z=>nomatch z) DL b3,Zhn,rfl,f1⟩;have s3:H3 l.sd=O (.dK (fO b.ps)):=b3 _ _ (g2 _ _ g.cH) (λz=>nR z.symm);dsimp only;refine jV (λσ H6=>∃E D:bt V,σ=[O (.ref l.h),E,D]/\qc H C CJ A l.h l b X.length x [] b.ps.length H6) (λDQ rY=>?_) ?_
   ·refine Zc7 (d:=l.sd) (kvs:=fO b.ps) (H1:=H3) (λR r=>⟨_,rfl,l.h,C,A,_,_,rfl,VG,t.cls,t.sO,rfl,r⟩) s3 (λi σ H6=>∃E D:bt V,σ=[O (.ref l.h),E,D]/\qc H C CJ A l.sd l b X.length x [] i H6) (λod=>⟨aI,aI,rfl,jm3.uL (by rw[g.cH];exact λz=>nomatch z) s3 (λG z=>nomatch z) (λG z=>nomatch z) (λz=>nR z.symm) (aA.put (aA.of (aq.refl _))) (λu _ _ z=>absurd rfl z)⟩) ?_ ?_
    ·rintro od i k y aG H6 N rt bk hk ⟨E,D,rfl,L⟩ fz hN;obtain⟨p,st,T,keep,j,Q,I,len,new⟩:=L;have il:i<b.ps.length:=by
      have:=(Yf.mp hk).1
      rwa [Ya] at this
     have im:=ok.m;obtain⟨dj,ej⟩:=Q.obj;have wf:=I.wf;have ml:=wf.RN;have z9:=wf.B7;refine bP ?_;refine⟨_,rfl,l.h,C,A,_,_,rfl,j,t.cls,t.i6,rfl,p.J,dj,_,by rw[T],ej,rfl,p,st,X.length,by rw[T];rfl,Q,(d4 n8 (by decide)),QO,ml,z9,wf.ll,λz=>Wd _ (wf.lm _ z),λz=>Wd _ (wf.lf _ z),λiC H7 k1 o7 gr ja7=>?_⟩;have W:∀{a:U} {u:HO},H a=O u->a∉p.fp:=λ{a u} e z=>by rw[new _ z] at e;cases e
     refine hN _ _ ⟨_,_,rfl,iC,_,k1.trans T,λa u e n1 n2=>o7 _ _ (keep a u e n1 n2) (W e),o7 _ _ j (W h1),ja7,I.more n0,by rw[jy,len],λa z=>?_⟩ (o7 _ _ fz (W g.cH));rcases gr a z with y|y;·exact new a y
     ·cases e:H a with
      |none=>rfl
      |some u=>
       by_cases z1:a=l.h;·rw[z1,j] at y;cases y
       ·by_cases z2:a=l.sd;·rw[z2,fz] at y;cases y
        ·rw[keep a u e z1 z2] at y;cases y
    ·rintro od aG H6 ⟨E,D,rfl,L⟩ fz;rw[Ya] at L;refine rY _ _ ⟨E,D,rfl,?_⟩;obtain⟨p,st,T,keep,j,Q,I,len,new⟩:=L;have W:l.sd∉p.fp:=λz=>by have:=new _ z;rw[g.cH] at this;cases this
     refine⟨p,st,T,λa u e n1 _=>?_,by rw[az nR];exact j,Q.uL fz (λG z=>nomatch z) (λG z=>nomatch z) W (aA.put (aA.of (aq.refl _))),I,len,new⟩;by_cases z:a=l.sd
     ·subst z;rw[aM];rw[g.cH] at e;exact e
     ·rw[az z];exact keep a u e n1 z
   ·rintro σ H6 ⟨E,D,rfl,L⟩;obtain⟨jl0,Zj3,eJ0,Zhr,Zir,ja0,me0,len0,Zj4⟩:=id L;have f6:H6 l.fc=O (.dK (bj (b.fs.map (·.1)) l.bL)):=Zhr _ _ g.facts (λz=>jt z.symm) (λz=>jt z.symm);have al:=dC g.fact;refine Zc8 (d:=l.fc) (kvs:=bj (b.fs.map (·.1)) l.bL) (H1:=H6) (λR r=>⟨_,rfl,l.h,C,A,_,_,rfl,Zir,t.cls,t.Bo,rfl,r⟩) f6 (λi σ H6=>∃E D:bt V,σ=[O (.ref l.h),E,D]/\qc H C CJ A l.fc l b X.length x (b.F.take i) b.ps.length H6) (λod=>⟨E,D,rfl,L.uL (by rw[g.facts];exact λz=>nomatch z) f6 (λG z=>nomatch z) (λG z=>nomatch z) (λz=>jt z.symm) (aA.put (aA.of (aq.refl _))) (λu _ _ z=>absurd rfl z)⟩) ?_ ?_
    ·rintro od i k y aG H7 N rt bk hk ⟨E,D,rfl,L⟩ fz hN;obtain⟨fa,efa,rfl⟩:=Oy hk;obtain⟨⟨z,c⟩,VH,eQ⟩:=kF g.fact efa;have mzc:=Ym VH;obtain⟨p,st,T,keep,j,Q,I,len,new⟩:=L;have W:∀{a:U} {u:HO},H a=O u->a∉p.fp:=λ{a u} e z=>by rw[new _ z] at e;cases e
     have of:Out l.fp H H7:=λa u e n=>keep a u e (λz=>n (by rw[z];simp[BL.fp,BL.own])) (λz=>n (by rw[z];simp[BL.fp,BL.own]));have fg:=ok.fg _ mzc;have im:=ok.m;have ec:b.F[i]?=O c:=by unfold BS.F;rw[Yi,VH];rfl
     have tk:b.F.take (i+1)=b.F.take i++[c]:=by rw[Y8,ec];rfl
     refine bP ?_;refine⟨_,rfl,l.h,C,A,_,_,rfl,j,t.cls,t.i6,rfl,_,rfl,l.h,C,A,_,_,rfl,j,t.cls,t.yM,rfl,_,rfl,l.h,C,A,_,_,rfl,j,t.cls,t.oo,rfl,_,rfl,p,st,l.L,l.pl,fa,X,ys,b.ps,b.F.take i,z,c,by rw[T];rfl,Q,I,g.land H7 of,ok.gd,keep _ _ g.places (λz=>bN z.symm) rW,ok.nm,len,(d4 im (by decide)),of _ _ eQ (g.tup eQ),fg,?_,λv iC aQ H8 e1 sub o8 ja8 me8 Zis=>?_⟩
     ·obtain⟨f0,i0,s0⟩:=ok.lv;exact⟨f0,(I.iff f0).mpr ⟨by rw[len];exact i0,λc' m'=>s0 c' (VI m')⟩,s0 c (Ym ec)⟩
     ·refine hN _ _ ⟨_,_,rfl,iC,aQ,e1.trans T,λa u e n1 n2=>o8 _ _ (keep a u e n1 n2) (W e),o8 _ _ j (W h1),ja8,by rw[tk];exact me8,Zis.trans len,λa z=>new a (sub a z)⟩ (o8 _ _ fz (W g.facts))
    ·rintro od aG H7 ⟨E,D,rfl,L⟩ fz;have dl:(bj (b.fs.map (·.1)) l.bL).length=b.F.length:=by
      unfold bj BS.F;rw[Ya,Wy,Ya,Ya];omega
     rw[dl,Wn] at L;refine hn _ _ ⟨x,E,D,rfl,?_⟩;obtain⟨p,st,T,keep,j,Q,I,len,new⟩:=L;have W:l.fc∉p.fp:=λz=>by have:=new _ z;rw[g.facts] at this;cases this
     refine⟨p,st,T,λa u e n1 _=>?_,by rw[az jt];exact j,Q.uL fz (λG z=>nomatch z) (λG z=>nomatch z) W (aA.put (aA.of (aq.refl _))),I,len,new⟩;by_cases z:a=l.fc
     ·subst z;rw[aM];rw[g.facts] at e;exact e
     ·rw[az z];exact keep a u e n1 z
  ·rintro σ H6 ⟨J,E,D,rfl,L⟩;obtain⟨p,st,T,keep,j,Q,I,len,new⟩:=L;refine⟨_,rfl,l.h,C,A,_,_,rfl,j,t.cls,t.i6,rfl,?_⟩;have k6:∀{a:U} {u:HO},H a=O u->a≠l.h->H6 a=O u:=λ{a u} e n=>keep a u e n n;have of:Out l.fp H H6:=λa u e n=>k6 e (λz=>n (by rw[z];simp[BL.fp,BL.own]));have tp:∀{a:U} {G:Z V},H a=O (.tup G)->H6 a=O (.tup G):=λe=>of _ _ e (g.tup e);have gr:fC l.fp ({l with rk:=.ref p.J,fG:=p.fp}:BL).fp H:=λa z=>by
    rcases Yu.mp (show a∈l.own++p.fp from z) with y|y;·exact .inl (Yk _ y)
    ·exact .inr (new a y)
   have fP:∀a∈l.own,a∉p.fp:=λa m z=>g.there (Yk _ m) (new a z);subst T;refine q {l with rk:=.ref p.J,fG:=p.fp} p st H6 ⟨rfl,of,gr⟩ ?_ rfl rfl Q I len fP λz=>absurd j1 z;exact g.build (l':={l with rk:=.ref p.J,fG:=p.fp}) (b':=b) rfl rfl rfl rfl rfl rfl rfl rfl rfl of gr ⟨A,j⟩ (k6 g.cH (λz=>nR z.symm)) (k6 g.places (λz=>bN z.symm)) (k6 g.facts (λz=>jt z.symm)) (L2.Paired.aW g.fact λ_ _ e=>tp e) (k6 g.known (λz=>nS z.symm)) (k6 g.parents (λz=>mK z.symm)) (k6 g.done (λz=>pE z.symm)) (L2.Paired.aW g.ka λ_ _ e=>e.out of λa G e=>g.tup e) (k6 g.h_ (λz=>qE z.symm)) (L2.Paired.aW g.lO λ_ _ e=>e.out of λa G e=>g.tup e) (.at_ p st rfl rfl Q I len fP)
def gu(z:af)(c:Nat):bA:=!(Builtin.Str.occurrences z ⟨#[c]⟩ 0 z.length 1).isEmpty
abbrev pS:af:="abcdefghijklmnopqrstuvwxyz"
abbrev mW:af:="abcdefghijklmnopqrstuvwxyz0123456789"
def tN(z:af):bA:=match z.cps.toList with
 |[]=>aY
 |c::r=>decide (z.length<=12)&&(gu pS c&&(c::r).all (gu mW))
def Zit(v:af):v.cps.toList.length=v.length:=by simp[Str.length]
def Ze1{z:af}(h:z.cps.toList=[]):z="":=by
 cases z with|mk a=>cases a with|mk l=>cases h;rfl
def ZdJ(h:z.cps.toList=[]):tN z=aY:=by unfold tN;rw[h]
def Oz(h:z.cps.toList=c::r):tN z=(decide (z.length<=12)&&(gu pS c&&(c::r).all (gu mW))):=by unfold tN;rw[h]
def Pm:Sp:=λb H Q _=>∃z:af,b=[.str z]/\z.length<=1000/\∀a,aq H a->Q (.bl (tN z)) a
def Zbi:aS ["text"] ["text"] (aL GC):=.bg
theorem Zbj(F:aP K "is_name" "is_name" GC f fd)(A:mg "LONGEST_NAME"=O (.int 12 t1))(x:mg "LETTERS_OF_NAMES"=O (.str "abcdefghijklmnopqrstuvwxyz" G))(y:mg "SIGNS_OF_NAMES"=O (.str "abcdefghijklmnopqrstuvwxyz0123456789" t3))(l:Bl mg):
  aH P w K mg B aO 1 f fd ["text"] Pm:=by
 refine F.o Zbi λs H I h=>?_;obtain⟨z,rfl,d,q⟩:=h;refine⟨_,(av (bw (PW.pt (pw_or (cA dv (pv 0) dP) (pw_or (cA Sh (gW (Zv) rfl l.BX By (aa (pv 0) ai)) (eg (v:=.int (12)) rfl A ⟨_,rfl⟩)) (pw_or1 (jU Zs (bO yE (pv 0) aT) (eg (v:=.str "abcdefghijklmnopqrstuvwxyz") rfl x ⟨_,rfl⟩) QU))))) (aC (aX mY)) bI) (aC (aX (gW (Kb (K:=K) rfl rfl) rfl l.IW Ig (aa (jz (fr:=[]) (cl:=[]) rfl (.fD trivial trivial) (Zf5 (pv 0)) (λ_ _ _ _=>lN) (λ_ _ _ _=>(Bg ZbA (pv 0) (eg (v:=.str "abcdefghijklmnopqrstuvwxyz0123456789") rfl y ⟨_,rfl⟩) QU))) ai))))),?_⟩;have sz:(10000:Nat)<=sizeLine:=by rw[c7];decide
 cases a:z.cps.toList with
 |nil=>
  have e:=Ze1 a;rw[ZdJ a] at q;refine⟨_,rfl,rfl,_,rfl,bR (λ_=>?_) (λc=>absurd (c_ (by rw[e])) c)⟩;exact q H (aq.refl H)
 |cons c r=>
  have n:=Zit z;rw[a,Wm] at n;rw[Oz a] at q;refine⟨_,rfl,rfl,_,rfl,bR (λb=>?_) (λ_=>?_)⟩
  ·have e:=V.str.inj (dm b);have t:(Str.ofString "").cps.toList=[]:=QK
   rw[e,t] at a;cases a
  refine⟨_,rfl,z,rfl,(d4 d (by decide)),_,_,rfl,rfl,_,rfl,bR (λb=>?_) (λb=>?_)⟩
  ·have m:=dm b;rw[eJ (by omega:¬z.length<=12)] at q;exact q H (aq.refl H)
  have E:z.length<=12:=by
   grind
  rw[c_ E,Aj] at q;refine⟨_,rfl,_,_,_,rfl,rfl,(d4 d (by decide)),eA (by rw[a];rfl),_,_,rfl,rfl,_,rfl,bR (λb=>?_) (λb=>bJ ?_)⟩
  ·have m:gu pS c=aY:=by
    have z:(!gu pS c)=ar:=b;cases e:gu pS c;·rfl
    ·rw[e] at z;cases z
   rw[m,SF] at q;exact q H (aq.refl H)
  have u:gu pS c=ar:=by
   cases e:gu pS c;·exact absurd (show(!gu pS c)=ar by rw[e];rfl) b
   ·rfl
  rw[u,Aj,←a] at q;refine⟨_,rfl,z,rfl,λD o=>ZbV (d4 d (by decide)) o (λc=>V.bl (gu mW c)) (λi c J g j L k=>?_) λg j p=>?_⟩;·exact⟨_,rfl,_,_,rfl,rfl,k g (aq.refl _)⟩
  ·refine⟨D,z.cps.toList.map (gu mW),rfl,aj.of (by rw[p,Y0];rfl),?_⟩;exact Lk▸q g j
def iy.more(h:iy n m c)(l:m<=g):iy n g c:=⟨by have:=h.one;exact eU this l,λe=>by obtain⟨⟨a,b⟩,d⟩:=h.jP e;exact⟨⟨a,(eU b l)⟩,d⟩⟩
def lW.more(h:lW xs a m c)(l:m<=b):lW xs a b c:=⟨h.ok.more l,h.kind,h.Zim⟩
def ZgA{f g:Nat->Int}(a:iy n m c)(e:∀i,i<m->g i=f i)(s:jg f c):jg g c:=⟨λh=>by rw[e _ a.one];exact s.1 h,λh=>by rw[e _ a.one,e _ (a.jP h).1.2];exact s.2 h⟩
section
variable {xs X:Z Int}{b:BS}
def cX.Ko(a:cX xs X b)(l:n∉b.ps.map (·.1))(o:b.ps.length<64)(r:b.co<=y)(x:t.length<=200)(j:un.length<=200):cX xs X {b with ps:=b.ps++[(n,s)],co:=y,dn:=t,un:=un}:=by
 have e:=λp d=>(a.fg p d).ok;have len:(b.ps++[(n,s)]).length=b.ps.length+1:=by rw[Yq];rfl
 refine⟨a.gd,?_,by show(b.ps++[(n,s)]).length<=64;omega,a.fl,λp d=>?_,a.zs,λp d=>Y5 (a.lt p d) r,?_,?_,?_,x,j⟩
 ·show((b.ps++[(n,s)]).map (·.1)).Nodup;rw[Yt];refine Wp.mpr ⟨a.nm,QS,λu D v A z=>?_⟩
  grind
 ·exact len▸(a.fg p d).more (wV _)
 ·show(b.fs.map λp=>gs (b.ps++[(n,s)]) p.2).Nodup;rw[(Wk λp d=>by rw[Qt (e p d)])];exact a.ky
 ·show((bV (b.ps++[(n,s)]) b.fs).map (·.1)).Nodup;rw[Qu e];exact a.pr
 ·obtain⟨f,q,k⟩:=a.lv;refine⟨λi=>if i<b.ps.length then f i else 0,λi g=>?_,λc m=>?_⟩
  ·show 0<=(if i<b.ps.length then f i else 0)/\(if i<b.ps.length then f i else 0)<(xs.length:Int);by_cases h:i<b.ps.length;·rw[br h];exact q i h
   ·rw[bb h];have:=a.gd.2.2.2.1
    grind
  ·obtain⟨p,d,rfl⟩:=Yh.mp m;exact ZgA (e p d) (λi g=>br g) (k _ m)
theorem cX.CA(g:cX xs X b)(N:lW xs X b.ps.length c)(q:z∉b.fs.map (·.1))(s:gs b.ps c∉b.keys)(r:bC c.k=ar->[.inr c.k,.inr (ay b.ps c.one)]∉(bV b.ps b.fs).map (·.1))(t:∃f,z8 xs.length b.ps.length f/\∀h∈b.F++[c],jg f h)(y:b.fs.length<63)(E:b.co<=k)(J:z<k)(I:H.length<=200)(n:un.length<=200):cX xs X {b with fs:=b.fs++[(z,c)],co:=k,dn:=H,un:=un}:=by
 have a:∀{i:Type} {l:Z i} {x:i},l.Nodup->x∉l->(l++[x]).Nodup:=λ{i l x} G F=>Wp.mpr ⟨G,QS,λu L v D e=>by
  have:v=x:=by simpa using D
  exact F (by rwa[←this,←e])⟩
 refine⟨g.gd,g.nm,g.m,by show(b.fs++[(z,c)]).length<=63;rwa[Yq],λp d=>?_,?_,λp d=>?_,?_,?_,?_,I,n⟩
 ·rcases Yu.mp d with d|d;·exact g.fg p d
  ·rwa[Yl.mp d]
 ·show((b.fs++[(z,c)]).map (·.1)).Nodup;exact Yt▸a g.zs q
 ·rcases Yu.mp d with d|d;·exact Y5 (g.lt p d) E
  ·rwa[Yl.mp d]
 ·show((b.fs++[(z,c)]).map λp=>gs b.ps p.2).Nodup;exact Yt▸a g.ky s
 ·show((bV b.ps (b.fs++[(z,c)])).map (·.1)).Nodup;cases e:bC c.k with
  |true=>rw[Pj e,Yt];exact a g.pr (r e)
  |false=>rw[Pk e];exact g.pr
 ·obtain⟨f,A,o⟩:=t;refine⟨f,A,λh m=>o h ?_⟩;have j:h∈(b.fs++[(z,c)]).map (·.2):=m;rw[Yt] at j;exact j
end
def BS.JI(b:BS)(n s:af):BS:={b with ps:=b.ps++[(n,s)],co:=b.co,dn:=b.dn++[⟨1,[.inr n,.inr s],b.co,b.co⟩],un:=[]}
def BS.jX(b:BS)(c:Fc):BS:={b with fs:=b.fs++[(b.co,c)],co:=b.co+1,dn:=b.dn++[⟨1,iz b.ps b.co c,b.co,b.co+1⟩],un:=[]}
def BK(s:af):bA:=fS (.str s) [.str "man",.str "woman"]
structure Kp(b:BS)(n s:af):Prop where
 Ziu:tN n=ar
 side:BK s=ar
 new:n∉b.ps.map (·.1)
 lim:b.ps.length<64
 nl:n.length<=1000
structure TN(xs ys:Z Int)(b:BS)(c:Fc):Prop where
 fg:lW xs ys b.ps.length c
 nk:gs b.ps c∉b.keys
 np:bC c.k=ar->[.inr c.k,.inr (ay b.ps c.one)]∉(bV b.ps b.fs).map (·.1)
 lv:∃f,z8 xs.length b.ps.length f/\∀c'∈b.F++[c],jg f c'
 lim:b.fs.length<63
inductive Pn(C CL CJ:U)(e:Z V)(H:Hp)(Q:VK)(E:XK):Prop
 |mk (l:BL) (b:BS) (d c:Z Int) (n s:af) (i:e=[.ref l.h,.str n,.str s]) (h:a_ H C CL CJ l d c b) (g:Kp b n s) (q:∀a,aq H a->Q .aB a)
inductive Po(C CL CJ:U)(g:Z V)(H:Hp)(Q:VK)(E:XK):Prop
 |mk (l:BL) (b:BS) (c a:Z Int) (n s:af) (j:g=[.ref l.h,.str n,.str s]) (i:a_ H C CL CJ l c a b) (ok:cX c a b) (h:Kp b n s) (dl:b.dn.length<200) (q:∀(e:BL) (d:Hp),cK H d l e->a_ d C CL CJ e c a (b.JI n s)->Q .aB d)
inductive RX(C CL CJ:U)(i:Z V)(H:Hp)(Q:VK)(E:XK):Prop
 |mk (l:BL) (b:BS) (d a:Z Int) (h:U) (c:Fc) (n:i=[.ref l.h,.ref h]) (m:a_ H C CL CJ l d a b) (ok:cX d a b) (k:kL H b.ps h (b.co,c)) (j:TN d a b c) (dl:b.dn.length<200) (q:∀(g:BL) (e:Hp),cK H e l g->a_ e C CL CJ g d a (b.jX c)->Q (.int (b.co:Int)) e)
inductive QB(C CL CJ:U)(e:Z V)(H:Hp)(Q:VK)(E:XK):Prop
 |mk (x g L:U) (d c:Z Int) (j:e=[.ref x,.ref L]) (i:H x=O (.ins C g [])) (h:fQ H CL L d c) (q:∀(l:BL) (b:Hp),l.h=x->(∀a∈l.fp,a≠x->H a=aI)->aA x H b->a_ b C CL CJ l d c ⟨[],[],0,[],[]⟩->Q .aB b)
def fQ.free(g:fQ H CL L xs ys)(A:∀a∈fp,H a=aI\/∃C b,H a=O (.ins C b []))(o:Out fp H c):fQ c CL L xs ys:=by
 obtain⟨b,d,m,f,w,j,h,i,st,y,x,v,t,s,r,q,p,l⟩:=g;have k:∀{a:U} {u:HO},H a=O u->(∀C b,u≠.ins C b [])->c a=O u:=λ{a u} e n=>o _ _ e λz=>by
  grind
 exact⟨b,d,m,f,w,j,h,i,st,k y (λ_ _ z=>by cases z),k x (λ_ _ z=>by cases z),k v (λ_ _ z=>by cases z),k t (λ_ _ z=>by cases z),k s (λ_ _ z=>by cases z),k r (λ_ _ z=>by cases z),k q (λ_ _ z=>by cases z),k p (λ_ _ z=>by cases z),k l (λ_ _ z=>by cases z)⟩
abbrev CB:Z af:=["hearth","name","side"]
def YD:aS CB CB (aL ES):=.bg
def YE(F:aP K "check_person" "check_person" ES f fd)(N:HasFn P w K mg B 1 "is_name" ["text"] Pm)(m:mg "MAN"=O (.str "man" t1))(r:mg "WOMAN"=O (.str "woman" T))(Q:cG P w K mg B 1 "people" C nj (Pg C CL CJ)):aH P w K mg B aO 2 f fd CB (Pn C CL CJ):=by
 refine F.o YD λs H e h=>?_;obtain⟨l,b,k,j,n,s,rfl,J,a,q⟩:=h;refine⟨_,(av (bw (PW.pt (pw_or (kK (hU (bq N e (aa (pv 1) ai)))) (pw_or1 (jU (BB (K:=K) rfl) (pv 2) (eS (aa (eg (v:=.str "man") rfl m ⟨_,rfl⟩) (aa (eg (v:=.str "woman") rfl r ⟨_,rfl⟩) ai))) QU)))) iF bI) (aC (bw (jU (rM rfl) (pv 1) (BD Q e (by decide) (pv 0)) QU) iF bI))),?_⟩;have sz:(10000:Nat)<=sizeLine:=by rw[c7];decide
 refine⟨_,rfl,n,rfl,a.nl,λX D=>⟨_,rfl,?_⟩⟩;rw[a.Ziu];refine dh ?_;refine⟨_,rfl,by show 2<=sizeLine;decide,λp W R A c=>⟨p,_,rfl,.inr (aK.of c),rfl,rfl,_,rfl,?_⟩⟩;have o:fS (.str s) [.str "man",.str "woman"]=ar:=a.side;dsimp only;rw[br rfl,o];refine dh (bJ ?_);have g:=D.trans A;have d:=J.same g;obtain⟨I,x⟩:=d.obj;refine⟨_,rfl,_,rfl,l.h,I,_,rfl,x,rfl,l,b,k,j,rfl,d,λt L u y G=>?_⟩;have E:(b.ps.map λp=>V.str p.1).all jD=ar:=by
  rw[Lk,W3];intro p _;rfl
 refine⟨t,_,rfl,.inl (aj.of G),rfl,E,_,rfl,?_⟩;try dsimp only
 have no:fS (.str n) (b.ps.map λp=>V.str p.1)=aY:=by
  unfold fS;rw[List.any_map,KJ];intro p c z;have i:(p.1==n)=ar:=z;exact a.new (by rw[←eq_of_beq i];exact Yh.mpr ⟨p,c,rfl⟩)
 rw[bb Yo,no];exact dh (bJ (q L (g.trans y)))
abbrev CC:Z af:=["self","name","side"]
def X5:aS CC CC (aL EF):=.bg
def Zch(F:aP K "person" "Hearth.person" EF f fd)(i:hJ K C)(z:mg "PUT_IN"=O (.int 1 t1))(E:HasFn P w K mg B 2 "check_person" CB (Pn C CL CJ))(x:cG P w K mg B 10 "do_deed" C qk (G_ C CL CJ)):aH P w K mg B aO 11 f fd CC (Po C CL CJ):=by
 refine F.o X5 λs H g h=>?_;obtain⟨l,b,e,d,n,s,rfl,t,ok,a,dl,q⟩:=h;refine⟨_,(av (cu (bq E g (aa (pv 0) (aa (pv 1) (aa (pv 2) ai))))) (aC (cu (dE x g (by decide) (pv 0) (aa (eg (v:=.int (1)) rfl z ⟨_,rfl⟩) (aa (eS (aa (pv 1) (aa (pv 2) ai))) (aa (pF K 0) ai))))))),?_⟩;refine⟨_,rfl,_,rfl,_,rfl,l,b,e,d,n,s,rfl,t,a,λJ m=>?_⟩;have p:=t.same m;obtain⟨o,k⟩:=p.obj;refine⟨_,rfl,l.h,o,_,rfl,k,rfl,_,rfl,_,rfl,by show 2<=sizeLine;decide,λr I G c j=>?_⟩;refine⟨_,rfl,l.h,C,o,_,_,rfl,c _ _ k,i.cls,i.vM,rfl,l,b,_,e,d,r,1,b.co,[.inr n,.inr s],rfl,p.same c,ok,dl,j,.pin n s j a.new a.lim,λA D u y=>?_⟩;exact q A D (cK.after (m.trans c) u) y
def xZ:aS TL wF (aL E9):=.bg
def Ze2(F:aP K "keep" "Hearth.keep" E9 f fd)(j:hJ K C)(R:mg "PUT_IN"=O (.int 1 t1))(F1:HasFn P w K mg B 5 "fact_fits" ua (RU CL CJ))(E3:cG P w K mg B 8 "joins" C nj (Qz C CL CJ))(N:cG P w K mg B 10 "do_deed" C qk (G_ C CL CJ)):aH P w K mg B aO 11 f fd wF (RX C CL CJ):=by
 refine F.o xZ λs H u h=>?_;obtain⟨l,b,o,n,y,c,rfl,A,ok,x,d,dl,q⟩:=h;refine⟨_,(av (sS (pv 1) (mU (K:=K) rfl rfl (cS (cz 2 xZ.nd) (cS (cz 3 xZ.nd) (cS (cz 4 xZ.nd) (cS (cz 5 xZ.nd) mT)))))) (av (bw (kK (hU (bq F1 u (aa (BD E3 u (by decide) (pv 0)) (aa (pF K 0) (aa (pF K 0) (aa (pv 1) ai))))))) iF bI) (av (cu (dE N u (by decide) (pv 0) (aa (eg (v:=.int (1)) rfl R ⟨_,rfl⟩) (aa (pv 1) (aa (bc hV (pv 2) aT) ai))))) (aC (aX (pv 2)))))),?_⟩;obtain⟨dx,h1⟩:=A.obj;refine⟨_,rfl,y,_,rfl,aK.of x,rfl,_,_,rfl,bP ⟨_,_,rfl,bP ⟨_,_,rfl,bP ⟨_,_,rfl,bP ⟨rfl,?_⟩⟩⟩⟩⟩;refine⟨_,rfl,l.h,dx,_,rfl,h1,rfl,l,b,o,n,rfl,A,ok,λa jl st H1 g m r1 r2 ja E len fP _=>?_⟩;obtain⟨i,e1⟩:=m.obj;have t:H1 l.h=O (.ins C i (HF a.L a.sd a.pl a.fc a.kn a.pr (b.co:Int) a.dn a.un a.rk)):=by rwa[←g.h]
 have J:=g.out _ _ x (A.tup x);have im:=ok.m;refine⟨_,rfl,l.h,C,i,_,_,rfl,t,j.cls,j.yM,rfl,_,rfl,l.h,C,i,_,_,rfl,t,j.cls,j.oo,rfl,_,rfl,jl,st,a.L,a.pl,y,o,n,b.ps,b.F,b.co,c,rfl,ja,E,m.landAt,ok.gd,m.places,ok.nm,len,(d4 im (by decide)),J,d.fg,λ_ H2 k=>?_,λno=>?_⟩
 ·refine⟨_,rfl,dh (bJ ?_)⟩;have L:=m.same k;have I:=k _ _ J;have T:b.co∉b.fs.map (·.1):=λz=>by
   obtain⟨p,hp,e⟩:=Yh.mp z;have:=ok.lt p hp;omega
  refine⟨_,rfl,l.h,i,_,rfl,k _ _ t,rfl,_,rfl,_,rfl,_,_,rfl,rfl,a,b,_,o,n,y,1,b.co+1,iz b.ps b.co c,?_,L,ok,dl,I,.fin b.co c I d.fg T d.nk d.np d.lv d.lim,λX H3 r Q=>?_⟩;·rw[g.h];rfl
  ·exact⟨_,rfl,q X H3 ((g.same k).trans r) Q⟩
 ·obtain⟨G,i0,D⟩:=d.lv;exact absurd (D c (Ye _ Yj)) (no G ((E.iff G).mpr ⟨by rwa[len],λc' W=>D c' (Yk _ W)⟩))
abbrev CD:Z af:=["self","land"]
def YU:aS CD CD (aL E8):=.bg
theorem ZdK(F:aP K "__init__" "Hearth.__init__" E8 f fd)(b:hJ K C):aH P w K mg B aO 1 f fd CD (QB C CL CJ):=by
 refine F.o YU λs H hr h=>?_;obtain⟨x,g,L,xs,ys,rfl,hx,la,q⟩:=h;refine⟨_,(av (g_ (K:=K) rfl (pv 0) (pv 1)) (av (g_ (K:=K) rfl (pv 0) sF) (av (g_ (K:=K) rfl (pv 0) sF) (av (g_ (K:=K) rfl (pv 0) sF) (av (g_ (K:=K) rfl (pv 0) N4) (av (g_ (K:=K) rfl (pv 0) N4) (av (g_ (K:=K) rfl (pv 0) aT) (av (g_ (K:=K) rfl (pv 0) (eG ai)) (av (g_ (K:=K) rfl (pv 0) (eG ai)) (aC (g_ (K:=K) rfl (pv 0) qW))))))))))),?_⟩;refine⟨_,rfl,_,rfl,x,C,g,[],rfl,hx,b.cls,b.yM,by show 0<1000;decide,λH1 b1 h1=>?_⟩;refine λsd N n2 g2 G=>⟨_,rfl,x,C,g,_,rfl,g2 _ _ h1,b.cls,b.sO,by show 1<1000;decide,λH3 b3 h3=>?_⟩;refine λpl H4 n4 g4 T=>⟨_,rfl,x,C,g,_,rfl,g4 _ _ h3,b.cls,b.oo,by show 2<1000;decide,λH5 b5 h5=>?_⟩;refine λfc H6 n6 g6 e6=>⟨_,rfl,x,C,g,_,rfl,g6 _ _ h5,b.cls,b.Bo,by show 3<1000;decide,λH7 X h7=>?_⟩;refine λkn H8 Q R e8=>⟨_,rfl,x,C,g,_,rfl,R _ _ h7,b.cls,b.Bp,by show 4<1000;decide,λH9 J h9=>?_⟩;refine λpr qv D A uq=>⟨_,rfl,x,C,g,_,rfl,A _ _ h9,b.cls,b.vH,by show 5<1000;decide,λzG y h11=>?_⟩;refine⟨_,rfl,x,C,g,_,rfl,h11,b.cls,b.vM,by show 6<1000;decide,λxJ v C8=>?_⟩;refine⟨by show 0<=sizeLine;exact Yx _,λdn C9 m r VL=>⟨_,rfl,x,C,g,_,rfl,r _ _ C8,b.cls,b.RT,by show 7<1000;decide,λrQ p VM=>?_⟩⟩;refine⟨by show 0<=sizeLine;exact Yx _,λun La j VN e15=>⟨_,rfl,x,C,g,_,rfl,VN _ _ VM,b.cls,b.Pc,by show 8<1000;decide,λUM b16 h16=>?_⟩⟩;refine⟨_,rfl,x,C,g,_,rfl,h16,b.cls,b.i6,by show 9<1000;decide,λqF b17 VO=>?_⟩;rw[Zik] at VO;have VP:aA x La qF:=b16.trans b17;have VQ:aA x C9 qF:=p.trans ((aA.of VN).trans VP);have VR:aA x qv qF:=y.trans (v.trans ((aA.of r).trans VQ));have j8:aA x H8 qF:=J.trans ((aA.of A).trans VR);have j6:aA x H6 qF:=X.trans ((aA.of R).trans j8);have j4:aA x H4 qF:=b5.trans ((aA.of g6).trans j6);have j2:aA x N qF:=b3.trans ((aA.of g4).trans j4);have j0:aA x H qF:=b1.trans ((aA.of g2).trans j2);have i3:aA x H H3:=b1.trans ((aA.of g2).trans b3);have i5:aA x H H5:=i3.trans ((aA.of g4).trans b5);have i7:aA x H H7:=i5.trans ((aA.of g6).trans X);have i9:aA x H H9:=i7.trans ((aA.of R).trans J);have i12:aA x H xJ:=i9.trans ((aA.of A).trans (y.trans v));have i14:aA x H rQ:=i12.trans ((aA.of r).trans p);have E:∀{a:U} {H':Hp},aA x H H'->a≠x->H' a=aI->H a=aI:=λ{a H'} k d n=>by
  cases e:H a with
  |none=>rfl
  |some o=>rw[k a o e d] at n;cases n
 have t:sd≠x:=λz=>by rw[z,h1] at n2;cases n2
 have I:pl≠x:=λz=>by rw[z,h3] at n4;cases n4
 have W:fc≠x:=λz=>by rw[z,h5] at n6;cases n6
 have d8:kn≠x:=λz=>by rw[z,h7] at Q;cases Q
 have DU:pr≠x:=λz=>by rw[z,h9] at D;cases D
 have L9:dn≠x:=λz=>by rw[z,C8] at m;cases m
 have VS:un≠x:=λz=>by rw[z,VM] at j;cases j
 have ne:∀{a c:U} {Ha Hc:Hp} {o:HO},Ha a=O o->aA x Ha Hc->a≠x->Hc c=aI->a≠c:=λ{a c Ha Hc o} e k d n z=>by rw[←z,k a o e d] at n;cases n
 have k24:aA x N H3:=b3;have VT:aA x N H5:=b3.trans ((aA.of g4).trans b5);have VU:aA x N H7:=VT.trans ((aA.of g6).trans X);have TQ:aA x N H9:=VU.trans ((aA.of R).trans J);have TR:aA x N xJ:=TQ.trans ((aA.of A).trans (y.trans v));have Ziv:aA x N rQ:=TR.trans ((aA.of r).trans p);have VW:aA x H4 H7:=b5.trans ((aA.of g6).trans X);have TU:aA x H4 H9:=VW.trans ((aA.of R).trans J);have TV:aA x H4 xJ:=TU.trans ((aA.of A).trans (y.trans v));have Ziw:aA x H4 rQ:=TV.trans ((aA.of r).trans p);have TX:aA x H6 H9:=X.trans ((aA.of R).trans J);have TY:aA x H6 xJ:=TX.trans ((aA.of A).trans (y.trans v));have Zix:aA x H6 rQ:=TY.trans ((aA.of r).trans p);have TZ:aA x H8 xJ:=J.trans ((aA.of A).trans (y.trans v));have Ziy:aA x H8 rQ:=TZ.trans ((aA.of r).trans p);have SU:aA x qv xJ:=y.trans v;have Zhs:aA x qv rQ:=SU.trans ((aA.of r).trans p);let l:BL:=⟨x,L,sd,pl,fc,kn,pr,dn,un,.aB,[],[],[],[]⟩;have DV:∀a∈l.fp,a≠x->H a=aI:=λa ha i=>by
  have xv:a∈[x,sd,pl,fc,kn,pr,dn,un]:=by
   have:l.fp=[x,sd,pl,fc,kn,pr,dn,un]:=rfl;rw[this] at ha;exact ha
  simp only[Ys,Wb,fH] at xv;rcases xv with rfl|rfl|rfl|rfl|rfl|rfl|rfl|rfl;·exact absurd rfl i
  ·exact E b1 i n2
  ·exact E i3 i n4
  ·exact E i5 i n6
  ·exact E i7 i Q
  ·exact E i9 i D
  ·exact E i12 i m
  ·exact E i14 i j
 refine q l qF rfl DV j0 ⟨⟨g,VO⟩,λH' o=>?_,j2 _ _ G t,j4 _ _ T I,j6 _ _ e6 W,.nil,j8 _ _ e8 d8,VR _ _ uq DU,VQ _ _ VL L9,.nil,VP _ _ e15 VS,.nil,.no rfl rfl,?_⟩
 ·refine la.free (fp:=l.fp) (λa ha=>?_) λa u e i=>o _ _ (j0 _ _ e λz=>i (by rw[z];exact Yj)) i;by_cases z:a=x;·rw[z];exact .inr ⟨C,g,hx⟩
  ·exact .inl (DV a ha z)
 ·show[x,sd,pl,fc,kn,pr,dn,un].Nodup;simp only[Y4,Ys,Wb,fH,iK,J5,Jf,and_true];exact⟨⟨t.symm,I.symm,W.symm,d8.symm,DU.symm,L9.symm,VS.symm⟩,⟨ne G k24 t n4,ne G VT t n6,ne G VU t Q,ne G TQ t D,ne G TR t m,ne G Ziv t j⟩,⟨ne T b5 I n6,ne T VW I Q,ne T TU I D,ne T TV I m,ne T Ziw I j⟩,⟨ne e6 X W Q,ne e6 TX W D,ne e6 TY W m,ne e6 Zix W j⟩,⟨ne e8 J d8 D,ne e8 TZ d8 m,ne e8 Ziy d8 j⟩,⟨ne uq SU DU m,ne uq Zhs DU j⟩,ne VL p L9 j⟩
def strOf:V->af
 |.str s=>s
 |_=>""
def dJ(b:BS)(a:af):Z af:=(oF b a).map strOf
inductive dq(b:BS)(a:af):af->Prop
 |refl:dq b a a
 |step {x y:af}:dq b a x->y∈dJ b x->dq b a y
theorem QC(i:cX xs u b)(h:aF (bV b.ps b.fs) [.inr k,.inr a]=O v):∃p∈b.fs,bC p.2.k=ar/\p.2.k=k/\ay b.ps p.2.one=a/\v=.str (ay b.ps p.2.bh.toNat)/\p.2.bh.toNat<b.ps.length:=by
 have m:([.inr k,.inr a],v)∈bV b.ps b.fs:=by
  unfold aF at h;cases x:(bV b.ps b.fs).find? λj=>decide (j.1=[.inr k,.inr a]) with
  |none=>grind
  |some q=>grind
 obtain⟨p,l,e⟩:=Yh.mp m;obtain⟨d,c⟩:=Yy.mp l;injection e with t s;injection t with r o;injection o with n _;have g:p.2.k≠cV:=λz=>by
  rw[z] at c;exact absurd c QK
 refine⟨p,d,c,Wl r,Wl n,?_,((i.fg p d).ok.jP g).1.2⟩;rw[←s,kH g];rfl
def NF(d:cX xs i b)(a:af):oF b a=(dJ b a).map V.str/\(∀s∈dJ b a,s∈b.ps.map (·.1))/\(dJ b a).length<=2:=by
 have all:∀v∈oF b a,∃s,v=.str s/\s∈b.ps.map (·.1):=λv c=>by
  obtain⟨k,_,e⟩:=Jy.mp c;obtain⟨p,_,_,_,_,h,l⟩:=QC d e;exact⟨_,h,vT l⟩
 refine⟨?_,λs g=>?_,?_⟩
 ·unfold dJ;rw[Y0];refine(vv _).symm.trans (Wk λv c=>?_);obtain⟨s,rfl,_⟩:=all v c;rfl
 ·obtain⟨v,c,rfl⟩:=Yh.mp g;obtain⟨s,rfl,m⟩:=all v c;exact m
 ·unfold dJ oF
  grind
def fU(a:Z af)(b:Z U):Z (Key×V):=(a.zip b).map λp=>(.inr p.1,.ref p.2)
theorem Hd:∀{b:Z af} {as:Z U},b.length=as.length->(fU b as).map (·.1)=b.map Sum.inr
 |[],[],_=>rfl
 |k::b,a::as,h=>by
  have c:fU (k::b) (a::as)=(Sum.inr k,V.ref a)::fU b as:=rfl;rw[c,Wv,Hd (by simpa using h)];rfl
 |[],_::_,h=>rfl
 |_::_,[],h=>by simp at h
theorem He:∀{b:Z af} {as:Z U} (k:af) (a:U),b.length=as.length->fU b as++[(.inr k,.ref a)]=fU (b++[k]) (as++[a])
 |[],[],_,_,_=>rfl
 |q::b,c::as,k,a,h=>by
  have d:fU (q::b) (c::as)=(Sum.inr q,V.ref c)::fU b as:=rfl;rw[d,Vg,He k a (by simpa using h)];rfl
 |[],_::_,_,_,h=>by simp at h
 |_::_,[],_,_,h=>by simp at h
theorem yB:∀{b:Z af} {as:Z U} {k:af},b.length=as.length->k∈b->∃a∈as,aF (fU b as) (.inr k)=O (.ref a)
 |[],_,_,_,h=>by cases h
 |q::b,c::as,k,d,h=>by
  have g:fU (q::b) (c::as)=(Sum.inr q,V.ref c)::fU b as:=rfl;rw[g];by_cases e:q=k;·exact⟨c,Yj,gY (by rw[e])⟩
  ·rcases Ys.mp h with h|h;·grind
   ·obtain⟨a,m,v⟩:=yB (by simpa using d) h;exact⟨a,Yv _ m,by rwa[jx (λz=>e (Wl z))]⟩
 |_::_,[],_,h,_=>by simp at h
def sI(a:ks.length=as.length)(h:k∉ks):aF (fU ks as) (.inr k)=aI:=lK (by
 rw[Hd a];intro z;obtain⟨q,b,e⟩:=Yh.mp z;exact h (by rwa[←Wl e]))
def Lv(b:BS)(a:af):Nat->af->Prop
 |0,x=>x=a
 |k+1,y=>∃x,Lv b a k x/\y∈dJ b x
structure dG(b:BS)(a:af)(k:Nat)(x:af):Prop where
 at_:Lv b a k x
 low:∀e,Lv b a e x->k<=e
def dG.uniq(h:dG b a d x)(k:dG b a e x):d=e:=eL (h.low _ k.at_) (k.low _ h.at_)
def dG.zero:dG b a 0 a:=⟨rfl,λ_ _=>Yx _⟩
structure Lay(b:BS)(a:af)(d:Nat)(ks ns:Z af):Prop where
 ly:∀k,k∈ns↔dG b a d k
 al:∀e,e<=d->∀k,Lv b a e k->k∈ks
 lo:∀k∈ks,∃e,e<=d/\dG b a e k
def Lay.zero:Lay b a 0 [a] [a]:=⟨λk=>⟨λh=>by rw[Yl.mp h];exact .zero,λh=>by have:=h.at_;rw[this];exact Yj⟩,λe d k h=>by
 obtain rfl:e=0:=(T7 d)
 have:=h;rw[this];exact Yj,λk c=>by rw[Yl.mp c];exact⟨0,Yg _,.zero⟩⟩
def Lay.par{b:BS}{a:af}{d:Nat}{l j ks:Z af}(h:Lay b a d l j)(i:∀k∈l,k∈ks){g p:af}(o:g∈j)(n:p∈dJ b g)(m:p∉ks):dG b a (d+1) p:=
 ⟨⟨g,((h.ly g).mp o).at_,n⟩,λe q=>by
  by_cases c:e<=d;·exact absurd (i _ (h.al e c p q)) m
  ·exact gb (Nat.lt_of_not_le c)⟩
def Lay.next(h:Lay b a d l ns)(u:∀k∈ns,∀p∈dJ b k,p∈l++fs)(q:∀k∈fs,dG b a (d+1) k):Lay b a (d+1) (l++fs) fs:=by
 have s:∀e,e<=d+1->∀k,Lv b a e k->k∈l++fs:=λe v k g=>by
  by_cases c:e<=d;·exact Yk _ (h.al e c k g)
  ·obtain rfl:e=d+1:=QO
   obtain⟨x,t,m⟩:=g;obtain⟨o,j,i⟩:=h.lo x (h.al d (Yg _) x t);by_cases r:o=d
   ·subst r;exact u x ((h.ly x).mpr i) k m
   ·exact Yk _ (h.al (o+1) (gb (dy j r)) k ⟨x,i.at_,m⟩)
 refine⟨λk=>⟨q k,λg=>?_⟩,s,λk g=>?_⟩
 ·rcases Yu.mp (s (d+1) (Yg _) k g.at_) with m|m
  ·obtain⟨e,n,i⟩:=h.lo k m;have:=i.uniq g;omega
  ·exact m
 ·rcases Yu.mp g with m|m
  ·obtain⟨e,n,i⟩:=h.lo k m;exact⟨e,(js n),i⟩
  ·exact⟨d+1,Yg _,q k m⟩
def vO[DecidableEq a](l m:Z (a×V))(k:a):aF (l++m) k=(aF l k).or (aF m k):=by
 unfold aF;rw[List.find?_append];cases l.find? λb=>decide (b.1=k)<;>rfl
structure rF(b:BS)(a0:af)(H H6:Hp)(ln:U)(ks:Z af)(as:Z U):Prop where
 same:aq H H6
 at_:H6 ln=O (.dK (fU ks as))
 len:ks.length=as.length
 lst:∀a∈as,∃us:Z V,H6 a=O (.lst us)/\us.length<=ks.length/\a≠ln
 nd:ks.Nodup
 DW:∀k c,aF (fU ks as) (.inr k)=O (.ref c)->∃us:Z af,H6 c=O (.lst (us.map V.str))/\us.length<=ks.length/\∃e,us.length=e+1/\dG b a0 e k
def oh(g:cX xs e b){c:Z af}(d:c.Nodup)(a:∀k∈c,k∈b.ps.map (·.1)):c.length<=b.ps.length:=by
 have:=d.length_le_of_subset a
 grind
theorem oq(c:cX xs e b)(d:a∈b.ps.map (·.1))(h:dq b a z):z∈b.ps.map (·.1):=by
 cases h with
 |refl=>exact d
 |step _ m=>exact(NF c _).2.1 _ m
inductive HW(C CL CJ:U)(h:Z V)(H:Hp)(Q:VK)(E:XK):Prop
 |mk (l:BL) (b:BS) (d c:Z Int) (a:af) (m:h=[.ref l.h,.str a]) (k:a_ H C CL CJ l d c b) (ok:cX d c b) (j:a∈b.ps.map (·.1)) (q:∀(p:U) (e:Z af) (i:Z U) (g:Hp),rF b a H g p e i->(∀z,z∈e↔dq b a z)->Q (.ref p) g)
def zk(b:U)(N:Nat):St->Hp->Nat:=λa H=>(match H b with|some (.dK kvs)=>2*(N-kvs.length)|_=>0)+(match List.getD (α:=bt V) a 3 aI with|some (V.ref nw)=>(match H nw with|some (.lst (_::_))=>1|_=>0)|_=>0)
inductive VX(H:Hp)(b:BS)(a:af)(h i:U)(m:St)(l:Hp):Prop
 |mk (d:Nat) (c g:Z af) (r:Z U) (j:U) (q o n:bt V) (v:Lay b a d c g) (x:rF b a H l i c r) (y:l j=O (.lst (g.map V.str))) (t:j≠i) (sub:∀k∈g,k∈c) (z:∀k∈c,k∉g->∀p∈dJ b k,p∈c) (sd:∀k∈c,dq b a k) (u:a∈c) (s:g.length<=64) (e:m=[O (.ref h),O (.str a),O (.ref i),O (.ref j),q,o,n]):VX H b a h i m l
inductive L_(H:Hp)(b:BS)(a:af)(h i g c:U)(d:Nat)(q n:Z af)(j:Nat)(o:St)(m:Hp):Prop
 |mk (l fs:Z af) (r:Z U) (t s:bt V) (A:∀k∈fs,dG b a (d+1) k) (v:rF b a H m i l r) (x:m g=O (.lst (n.map V.str))) (y:m c=O (.lst (fs.map V.str))) (u:g≠i/\c≠i/\c≠g) (E:c∉r) (z:l=q++fs) (D:∀k∈n.take j,∀p∈dJ b k,p∈l) (sd:∀k∈l,dq b a k) (e:o=[O (.ref h),O (.str a),O (.ref i),O (.ref g),O (.ref c),t,s]):L_ H b a h i g c d q n j o m
inductive VY(H:Hp)(b:BS)(a:af)(h l m g:U)(d:Nat)(t r:Z af)(j:Nat)(c:af)(q:U)(i:Nat)(s:St)(o:Hp):Prop
 |mk (n fs:Z af) (u:Z U) (v:bt V) (F:∀k∈fs,dG b a (d+1) k) (y:rF b a H o l n u) (A:o m=O (.lst (r.map V.str))) (D:o g=O (.lst (fs.map V.str))) (z:o q=O (.lst ((dJ b c).map V.str))) (x:m≠l/\g≠l/\g≠m/\q≠l/\q≠g) (J:g∉u) (E:n=t++fs) (I:∀k∈r.take j,∀p∈dJ b k,p∈n) (G:∀p∈(dJ b c).take i,p∈n) (sd:∀k∈n,dq b a k) (e:s=[O (.ref h),O (.str a),O (.ref l),O (.ref m),O (.ref g),O (.str c),v]):VY H b a h l m g d t r j c q i s o
abbrev l6:Z af:=["hearth","name"]
def su:aS ["hearth","name","lines","newest","further","one","parent"] l6 (aL Gd):=.bg
theorem Zan(F:aP K "lines_up" "lines_up" Gd f fd)(Ej:cG P w K mg B 1 "parents_of" C ji (M7 C CL CJ)):aH P w K mg B aO 2 f fd l6 (HW C CL CJ):=by
 refine F.o su λs H hr h=>?_;obtain⟨l,b,xs,ys,a,rfl,ba,ok,ma,q⟩:=h;refine⟨_,(av (cF 2 su.nd (Hv (pP (pv 1) (eG (aa (pv 1) ai)) Hu) rfl rfl (λz=>nomatch z) (U_ rfl))) (av (cF 3 su.nd (eG (aa (pv 1) ai))) (av (GS iP (AX (K:=K) rfl (A4 (pv 3) (λ_=>rfl))) (av (cF 4 su.nd (eG ai)) (av (jb iP rfl (eR (K:=K) rfl (pv 3)) (cz 5 su.nd) (aC (jb iP rfl (eR (K:=K) rfl (dE Ej hr (by decide) (pv 0) (aa (pv 5) ai))) (cz 6 su.nd) (aC (bw (mV (vD (bu hr) (pv 6) (pv 2)) QU) (av (oi (bu hr) (pv 2) (pv 6) (bc vQ (dD (bu hr) (pv 2) (pv 5) (λ_ _=>rfl)) (eG (aa (pv 6) ai)))) (aC (cu (sW (K:=K) rfl (rf k9 lG lr vm (pv 4) (aa (pv 6) ai)))))) bI))))) (aC (cF 3 su.nd (pv 4)))))) (aC (aX (pv 2)))))),?_⟩;have sz:(10000:Nat)<=sizeLine:=by rw[c7];decide
 have im:=ok.m;refine bT ?_;refine λln VZ=>⟨_,rfl,_,rfl,by show 1<=sizeLine;decide,λW H0 V0 g0 V1=>?_⟩;refine⟨g0 _ _ aM,[(.inr a,.ref W)],rfl,(by show 1<=15;decide),?_⟩;obtain⟨H1,qG⟩:∃H1,H1=upd H0 ln (.dK (q5 [] [(.inr a,.ref W)])):=⟨_,rfl⟩;rw[←qG];have Ma:W≠ln:=λz=>by rw[z,aM] at V0;cases V0
 have g1:aq H H1:=λc o e=>by
  have nc:=bW e VZ;rw[qG,az nc];exact g0 _ _ (by rw[az nc];exact e)
 have V2:rF b a H H1 ln [a] [W]:=⟨g1,by rw[qG,aM];rfl,rfl,λc Q=>by
  rw[Yl.mp Q];exact⟨[.str a],by rw[qG,az Ma];exact V1,Yg _,Ma⟩,QS,λk c h=>by
  by_cases e:a=k
  ·subst e;have h':V.ref W=V.ref c:=Yr ((gY (p:=((Sum.inr a:Key),V.ref W)) (r:=[]) rfl).symm.trans h);cases h';exact⟨[a],by rw[qG,az Ma];exact V1,Yg _,0,rfl,.zero⟩
  ·exact absurd h (by rw[sI (ks:=[a]) (as:=[W]) rfl (λz=>e (Yl.mp z).symm)];exact λz=>nomatch z)⟩
 refine bT ?_;refine⟨_,rfl,by show 1<=sizeLine;decide,λnw H2 V3 g2 hnw=>?_⟩;have nwl:nw≠ln:=λz=>by rw[z,V2.at_] at V3;cases V3
 have JJ:∀{Ha Hb:Hp} {D:Z af} {as:Z U},rF b a H Ha ln D as->aq Ha Hb->rF b a H Hb ln D as:=λE g=>⟨E.same.trans g,g _ _ E.at_,E.len,λc Q=>by obtain⟨L,e,z,n⟩:=E.lst c Q;exact⟨L,g _ _ e,z,n⟩,E.nd,λk c h=>by obtain⟨L,e,r⟩:=E.DW k c h;exact⟨L,g _ _ e,r⟩⟩;refine jV (λJ H6=>∃D as,rF b a H H6 ln D as/\(∀z,z∈D↔dq b a z)/\∃o3 o4 o5 o6:bt V,J=[O (.ref l.h),O (.str a),O (.ref ln),o3,o4,o5,o6]) (λDD nQ=>?_) ?_
 ·refine GU (VX H b a l.h ln) (zk ln 100) ⟨0,[a],[a],[W],nw,aI,aI,aI,.zero,JJ V2 g2,hnw,nwl,λ_ h=>h,λk t no=>absurd t no,λk t=>by rw[Yl.mp t];exact .refl,Yj,by show 1<=64;decide,rfl⟩ ?_ ?_
  ·rintro J H6 ⟨d,D,G,as,nw,o4,o5,o6,ly,E,hn,nn,sub,cl,sd,V4,uA,rfl⟩;have kf:D.length<=64:=Yz (oh ok E.nd λk t=>oq ok ma (sd k t)) im;refine⟨_,rfl,_,.inl ⟨_,aj.of hn,rfl⟩,?_⟩;refine bR (λc=>?_) (λc=>?_)
   ·have Ziz:G≠[]:=λz=>by rw[z] at c;cases c
    have mu0:zk ln 100 [O (.ref l.h),O (.str a),O (.ref ln),O (.ref nw),o4,o5,o6] H6=2*(100-D.length)+1:=by
     unfold zk;have kl:(fU D as).length=D.length:=by unfold fU;rw[Ya,Wy];have:=E.len;omega
     have g3:List.getD (α:=bt V) [O (.ref l.h),O (.str a),O (.ref ln),O (.ref nw),o4,o5,o6] 3 aI=O (.ref nw):=rfl;rw[E.at_,g3];dsimp only;rw[hn,kl];cases G with
     |nil=>exact absurd rfl Ziz
     |cons x r=>rfl
    refine bT ?_;refine⟨by show 0<=sizeLine;exact Yx _,λfu H7 xK g7 hfu=>?_⟩;have zZ:=JJ E g7;have fln:fu≠ln:=λz=>by rw[z,E.at_] at xK;cases xK
    have fnw:fu≠nw:=λz=>by rw[z,hn] at xK;cases xK
    refine jV (L_ H b a l.h ln nw fu d D G G.length) (λDQ rY=>?_) ?_
    ·refine⟨_,rfl,nw,rfl,⟨_,aj.of (g7 _ _ hn)⟩,mS (K:=K) (a:=nw) (xs:=G.map V.str) (L_ H b a l.h ln nw fu d D G) ⟨D,[],as,o5,o6,λ_ h=>(nomatch h),zZ,g7 _ _ hn,hfu,⟨nn,fln,fnw⟩,(λz=>by obtain⟨L,e,_⟩:=E.lst _ z;rw[xK] at e;cases e),by rw[Wh],λk t=>(by rw[vc] at t;cases t),sd,rfl⟩ (λj J H8 _ ⟨_,_,_,_,_,_,_,h,_,_,_,_,_,_,_⟩=>aj.of h) ?_ ?_⟩
     ·rintro j v J H8 hj ⟨cO,fs,DX,p5,p6,Mb,T,V5,Ak,Al,V6,R,ju,nU,rfl⟩;rw[Yi] at hj;obtain⟨one,e1,rfl⟩:∃one,G[j]?=O one/\V.str one=v:=by
       cases z:G[j]? with
       |none=>rw[z] at hj;cases hj
       |some o=>rw[z] at hj;exact⟨o,rfl,Yr hj⟩
      have tkj:G.take (j+1)=G.take j++[one]:=by rw[Y8,e1];rfl
      have ZjI:one∈cO:=by rw[R];exact Yk _ (sub _ (Ym e1))
      have V7:=ba.same T.same;obtain⟨dx8,h8⟩:=V7.obj;obtain⟨pe,pin,zW⟩:=NF ok one;refine bP ?_;refine⟨_,rfl,l.h,dx8,_,rfl,h8,rfl,_,rfl,l,b,xs,ys,one,rfl,V7,λpl H9 Am g9 bN=>?_⟩;rw[pe] at bN;have pln:pl≠ln:=λz=>by rw[z,T.at_] at Am;cases Am
      have plf:pl≠fu:=λz=>by rw[z,Ak] at Am;cases Am
      refine⟨pl,rfl,⟨_,aj.of bN⟩,mS (K:=K) (a:=pl) (xs:=(dJ b one).map V.str) (VY H b a l.h ln nw fu d D G j one pl) ⟨cO,fs,DX,p6,Mb,JJ T g9,g9 _ _ V5,g9 _ _ Ak,bN,⟨Al.1,Al.2.1,Al.2.2,pln,plf⟩,V6,R,ju,λp A=>(by rw[vc] at A;cases A),nU,rfl⟩ (λi J HA _ ⟨_,_,_,_,_,_,_,_,h,_,_,_,_,_,_,_⟩=>aj.of h) ?_ ?_⟩
      ·rintro i v J HA hi ⟨fV,An,DY,q6,DZ,y,D0,xM,Mc,I,xN,X,D1,Ao,xO,rfl⟩;rw[Yi] at hi;obtain⟨par,e2,rfl⟩:∃par,(dJ b one)[i]?=O par/\V.str par=v:=by
        cases z:(dJ b one)[i]? with
        |none=>rw[z] at hi;cases hi
        |some o=>rw[z] at hi;exact⟨o,rfl,Yr hi⟩
       have mp:=Ym e2;have V8:(dJ b one).take (i+1)=(dJ b one).take i++[par]:=by rw[Y8,e2];rfl
       have T3:one∈fV:=by rw[X];exact Yk _ (sub _ (Ym e1))
       have kf9:fV.length<=64:=Yz (oh ok y.nd λk t=>oq ok ma (xO k t)) im;refine bP ?_;by_cases rL:par∈fV
       ·obtain⟨ap,_,vp⟩:=yB y.len rL;refine⟨_,rfl,_,rfl,ln,O (.ref ap),rfl,dt y.at_ vp,_,rfl,dh (bJ ?_)⟩;refine⟨fV,An,DY,_,DZ,y,D0,xM,Mc,I,xN,X,D1,λp A=>?_,xO,rfl⟩;rw[V8] at A;rcases Yu.mp A with A|A;·exact Ao p A
        ·rw[Yl.mp A];exact rL
       ·obtain⟨ao,mao,vo⟩:=yB y.len T3;obtain⟨L,hao,ul,e0,le0,di⟩:=y.DW one ao vo;have o1:=Ym e1;have dn:=ly.par (ks:=fV) (λk t=>by rw[X];exact Yk _ t) o1 mp rL;have ed:e0=d:=di.uniq ((ly.ly one).mp o1);refine⟨_,rfl,_,rfl,ln,aI,rfl,dt y.at_ (sI y.len rL),_,rfl,dI ?_⟩;refine⟨_,rfl,_,rfl,ln,.ref ao,rfl,dt y.at_ vo,_,rfl,by show 1<=sizeLine;decide,λe1l HB neb gB heB=>?_⟩;refine⟨ao,e1l,L.map V.str,_,rfl,rfl,gB _ _ hao,heB,by rw[Ya];show L.length+1<=sizeLine;omega,λN HC Md gC V9=>?_⟩;have V_:=gB.trans gC;refine⟨_,rfl,_,rfl,ln,_,.inr par,rfl,V_ _ _ y.at_,rfl,?_,λHD bD eD=>?_⟩;·unfold fU;rw[Ya,Wy];omega
        rw[kG _ (sI y.len rL),He par N y.len] at eD;have Kq:N≠ln:=λz=>by rw[z,gB _ _ y.at_] at Md;cases Md
        have kD:∀{c:U} {o:HO},HA c=O o->c≠ln->HD c=O o:=λ{c o} e n=>bD _ _ (V_ _ _ e) n;have WA:HA N=aI:=gB.free Md;refine⟨_,rfl,.inl ⟨rfl,_,aj.of (kD xM I.2.1)⟩,_,rfl,fu,_,_,rfl,rfl,kD xM I.2.1,?_,λHE bE eE=>?_⟩
        ·rw[Ya];have:An.length<=fV.length:=by rw[X,Yq];exact xp _ _
         omega
        have kE:∀{c:U} {o:HO},HA c=O o->c≠ln->c≠fu->HE c=O o:=λ{c o} e n1 n2=>bE _ _ (kD e n1) n2;have Kr:N≠fu:=λz=>by rw[z,xM] at WA;cases WA
        refine⟨fV++[par],An++[par],DY++[N],_,λk t=>?df,⟨λc o e=>?_,bE _ _ eD (λz=>I.2.1 z.symm),by rw[Yq,Yq,y.len];rfl,λc Q=>?_,?_,λk c h=>?_⟩,kE D0 I.1 (λz=>I.2.2.1 z.symm),?_,kE Mc I.2.2.2.1 I.2.2.2.2,I,(λz=>by rcases Yu.mp z with z|z;exact xN z;exact Kr (Yl.mp z).symm),by rw[X,Jr],λk t p A=>Yk _ (D1 k t p A),λp A=>?_,λk t=>?_,rfl⟩;case df=>
         rcases Yu.mp t with t|t;·exact DZ k t
         ·rw[Yl.mp t];exact dn
        ·have nc:=bW e VZ;have ncf:c≠fu:=bW e ((E.same.free xK));exact kE (y.same _ _ e) nc ncf
        ·rcases Yu.mp Q with Q|Q
         ·obtain⟨xP,e',z',n'⟩:=y.lst c Q;have cf:c≠fu:=λz=>xN (by rw[←z];exact Q);exact⟨xP,kE e' n' cf,by rw[Yq];exact js z',n'⟩
         ·rw[Yl.mp Q];exact⟨L.map V.str++[.str par],bE _ _ (bD _ _ V9 Kq) Kr,by rw[Yq,Yq,Ya];show L.length+1<=fV.length+1;omega,Kq⟩
        ·refine Wp.mpr ⟨y.nd,QS,λu hu v hv z=>?_⟩;have:v=par:=by simpa using hv
         exact rL (by rw[←this,←z];exact hu)
        ·rw[←He par N y.len,vO] at h;by_cases ij:k∈fV
         ·obtain⟨c',WB,v'⟩:=yB y.len ij;rw[v'] at h;cases h;obtain⟨xP,e',z',li'⟩:=y.DW k _ v';obtain⟨_,_,_,n'⟩:=y.lst _ WB;have cf:c≠fu:=λz=>xN (by rw[←z];exact WB);exact⟨xP,kE e' n' cf,by rw[Yq];exact js z',li'⟩
         ·rw[sI y.len ij] at h;by_cases e:par=k
          ·subst e;have h':V.ref N=V.ref c:=Yr ((gY (p:=((Sum.inr par:Key),V.ref N)) (r:=[]) rfl).symm.trans h);cases h';exact⟨L++[par],by rw[Yt];exact bE _ _ (bD _ _ V9 Kq) Kr,by rw[Yq,Yq];show L.length+1<=fV.length+1;omega,d+1,by rw[Yq,le0,ed];rfl,dn⟩
          ·exact absurd h (by rw[show aF [(Sum.inr par,V.ref N)] (Sum.inr k)=aI from sI (ks:=[par]) (as:=[N]) rfl (λz=>e (Yl.mp z).symm)];exact λz=>nomatch z)
        ·rw[eE,Yt];rfl
        ·rw[V8] at A;rcases Yu.mp A with A|A;·exact Yk _ (Ao p A)
         ·rw[Yl.mp A];exact Ye _ Yj
        ·rcases Yu.mp t with t|t;·exact xO k t
         ·rw[Yl.mp t];exact .step (xO one T3) mp
      ·rintro J HA ⟨fV,An,DY,q6,DZ,y,D0,xM,Mc,I,xN,X,D1,Ao,xO,rfl⟩;rw[Ya,Wn] at Ao;refine⟨fV,An,DY,_,_,DZ,y,D0,xM,⟨I.1,I.2.1,I.2.2.1⟩,xN,X,λk t=>?_,xO,rfl⟩;rw[tkj] at t;rcases Yu.mp t with t|t;·exact D1 k t
       ·rw[Yl.mp t];exact Ao
     ·rintro J H8 h8;rw[Ya] at h8;exact rY _ _ h8
    ·rintro J H8 ⟨cO,fs,DX,p5,p6,Mb,T,V5,Ak,Al,V6,R,ju,nU,rfl⟩;rw[Wn] at ju;refine⟨_,rfl,?_⟩;have kf8:cO.length<=64:=Yz (oh ok T.nd λk t=>oq ok ma (nU k t)) im;have WC:cO.length=D.length+fs.length:=by rw[R,Yq]
     refine⟨⟨d+1,cO,fs,DX,fu,_,_,_,by rw[R] at ju⊢;exact ly.next ju Mb,T,Ak,Al.2.1,λk t=>by rw[R];exact Ye _ t,λk t no p A=>?_,nU,by rw[R];exact Yk _ V4,QO,rfl⟩,?_⟩
     ·rw[R] at t;rcases Yu.mp t with t|t
      ·by_cases z:k∈G;·exact ju k z p A
       ·rw[R];exact Yk _ (cl k t z p A)
      ·exact absurd t no
     ·rw[mu0];show zk ln 100 [O (.ref l.h),O (.str a),O (.ref ln),O (.ref fu),O (.ref fu),p5,p6] H8<_;unfold zk;have kl:(fU cO DX).length=cO.length:=by unfold fU;rw[Ya,Wy];have:=T.len;omega
      have g3:List.getD (α:=bt V) [O (.ref l.h),O (.str a),O (.ref ln),O (.ref fu),O (.ref fu),p5,p6] 3 aI=O (.ref fu):=rfl;rw[T.at_,g3];dsimp only;rw[Ak,kl];cases fs with
      |nil=>
       show 2*(100-cO.length)+0<_;have:cO.length=D.length+0:=WC;omega
      |cons x r=>
       show 2*(100-cO.length)+1<_;have:cO.length=D.length+(r.length+1):=WC;omega
   ·have nse:G=[]:=by
     cases G with
     |nil=>rfl
     |cons x r=>exact absurd rfl c
    subst nse;refine nQ _ _ ⟨D,as,E,λz=>⟨λh=>sd z h,λh=>?_⟩,_,_,_,_,rfl⟩;induction h with
    |refl=>exact V4
    |step _ m ih=>exact cl _ ih (λz=>nomatch z) _ m
  ·rintro J H6 Q1 Q2 mo ⟨v1,w1,v2,w2,h⟩;exact⟨v1,w1,v2,w2,mo _ _ h⟩
 ·rintro J H6 ⟨D,as,E,iff,o3,o4,o5,o6,rfl⟩;exact⟨_,rfl,q ln D as H6 E iff⟩
def jQ(a:dN)(i:Nat):af:=(a.getD i ("","")).2
def Hf(d:(a.map (·.1)).Nodup)(c:i<a.length):aF (fO a) (.inr (ay a i))=O (.str (jQ a i)):=by
 have b:((fO a).map (·.1)).Nodup:=by
  grind
 refine yA b (Yh.mpr ⟨a[i],Wg c,?_⟩);unfold ay jQ
 grind
def pZ(k h t:af):bA:=if k="mother" then decide (t="woman") else if k="father" then decide (t="man") else decide (k="sibling")||(decide (h="man")&&decide (t="woman"))
inductive QE(a:Z V)(H:Hp)(Q:VK)(E:XK):Prop
 |mk (k h t:af) (b:a=[.str k,.str h,.str t]) (q:Q (.bl (pZ k h t)) H)
structure RY(b:BS)(k a:af)(o:af):Prop where
 par:bC k=ar->[.inr k,.inr a]∉(bV b.ps b.fs).map (·.1)
 bh:bC k=aY->keyOf k a (.inr o)∉b.keys/\¬(k="sibling"/\a=o)
inductive RZ(C CL CJ:U)(g:Z V)(H:Hp)(Q:VK)(E:XK):Prop
 |mk (l:BL) (b:BS) (e d:Z Int) (k a o:af) (i:g=[.ref l.h,.str k,.str a,.str o]) (h:a_ H C CL CJ l e d b) (un:RY b k a o) (q:∀c,aq H c->Q (.bl aY) c)
inductive Pp(C CL CJ:U)(h:Z V)(H:Hp)(Q:VK)(E:XK):Prop
 |mk (l:BL) (b:BS) (d c:Z Int) (e a:af) (k:h=[.ref l.h,.str e,.str a]) (j:a_ H C CL CJ l d c b) (ok:cX d c b) (i:a∈b.ps.map (·.1)) (no:¬dq b a e) (q:∀g,aq H g->Q .aB g)
structure rh(xs ys:Z Int)(b:BS)(c:Fc):Prop where
 nf:TN xs ys b c
 ns:c.k≠cV
 cH:pZ c.k (jQ b.ps c.one) (jQ b.ps c.bh.toNat)=ar
 un:RY b c.k (ay b.ps c.one) (ay b.ps c.bh.toNat)
 el:bC c.k=ar->¬dq b (ay b.ps c.bh.toNat) (ay b.ps c.one)
inductive Pq(C CL CJ:U)(g:Z V)(H:Hp)(Q:VK)(E:XK):Prop
 |mk (l:BL) (b:BS) (d a:Z Int) (c:Fc) (j:g=[.ref l.h,.str c.k,.str (ay b.ps c.one),.str (ay b.ps c.bh.toNat)]) (i:a_ H C CL CJ l d a b) (ok:cX d a b) (h:rh d a b c) (q:∀e,aq H e->Q .aB e)
inductive R0(C CL CJ:U)(h:Z V)(H:Hp)(Q:VK)(E:XK):Prop
 |mk (l:BL) (b:BS) (d a:Z Int) (c:Fc) (k:h=[.ref l.h,.str c.k,.str (ay b.ps c.one),.str (ay b.ps c.bh.toNat)]) (j:a_ H C CL CJ l d a b) (ok:cX d a b) (i:rh d a b c) (dl:b.dn.length<200) (q:∀(g:BL) (e:Hp),cK H e l g->a_ e C CL CJ g d a (b.jX c)->Q (.int (b.co:Int)) e)
def jj(x y:af):decide (V.str x=V.str y)=decide (x=y):=by
 grind
abbrev CF:Z af:=["kind","here","there"]
def ZK:aS CF CF (aL FI):=.bg
theorem ZL(F:aP K "sides_fit" "sides_fit" FI f fd)(c:mg "MAN"=O (.str "man" t1))(d:mg "WOMAN"=O (.str "woman" m))(i:mg "SIBLING"=O (.str "sibling" t3)):aH P w K mg B aO 1 f fd CF QE:=by
 refine F.o ZK λs H n h=>?_;obtain⟨k,h,t,rfl,q⟩:=h;refine⟨_,(av (bw (cA dv (pv 0) dP) (aC (aX (iW dv (pv 2) (eg (v:=.str "woman") rfl d ⟨_,rfl⟩)))) bI) (av (bw (cA dv (pv 0) dP) (aC (aX (iW dv (pv 2) (eg (v:=.str "man") rfl c ⟨_,rfl⟩)))) bI) (aC (aX (Sa (iW dv (pv 0) (eg (v:=.str "sibling") rfl i ⟨_,rfl⟩)) (sR (vV (iW dv (pv 1) (eg (v:=.str "man") rfl c ⟨_,rfl⟩)) (sR (iW dv (pv 2) (eg (v:=.str "woman") rfl d ⟨_,rfl⟩)))))))))),?_⟩;unfold pZ at q;refine⟨_,rfl,rfl,_,rfl,?_⟩;rw[jj];refine bR (λa=>?_) (λa=>bJ ?_)
 ·rw[br (dm a)] at q;refine⟨_,rfl,rfl,?_⟩;rwa[jj]
 ·rw[bb (λz=>a (c_ z))] at q;refine⟨_,rfl,rfl,_,rfl,?_⟩;rw[jj];refine bR (λb=>?_) (λb=>bJ ?_)
  ·rw[br (dm b)] at q;refine⟨_,rfl,rfl,?_⟩;rwa[jj]
  ·rw[bb (λz=>b (c_ z))] at q;refine⟨_,rfl,rfl,_,rfl,?_⟩;rw[jj];refine bR (λl=>?_) (λl=>?_);·grind
   ·have j:decide (k="sibling")=aY:=by
     cases e:decide (k="sibling") with
     |true=>grind
     |false=>rfl
    rw[j,Bool.false_or] at q;refine⟨_,rfl,rfl,_,rfl,?_⟩;rw[jj];refine bR (λg=>?_) (λg=>?_)
    ·rw[g,Aj] at q;refine⟨_,rfl,rfl,?_⟩;rwa[jj]
    ·grind
abbrev rG:Z af:=["hearth","kind","one","other"]
def YF:aS rG rG (aL ET):=.bg
theorem Ze3(F:aP K "told_already" "told_already" ET f fd)(D:mg "SIBLING"=O (.str "sibling" t1))(G:mg "PARENTS"=O (.ref g))(A:∀H,aK K H g (jh.map V.str))(J:cG P w K mg B 1 "parent_of" C Cz (ND C CL CJ))(I:cG P w K mg B 2 "has" C rE (SR C CL CJ)):aH P w K mg B aO 3 f fd rG (RZ C CL CJ):=by
 refine F.o YF λs H p h=>?_;obtain⟨l,b,n,m,k,a,o,rfl,j,un,q⟩:=h;refine⟨_,(av (bw (jU (rM (K:=K) rfl) (pv 1) (eg (v:=.ref g) rfl G rfl) QU) (aC (aX (iW Hm (dE J p (by decide) (pv 0) (aa (pv 1) (aa (pv 2) ai))) qW))) bI) (aC (aX (Sa (dE I p (by decide) (pv 0) (aa (pv 1) (aa (pv 2) (aa (pv 3) ai)))) (sR (vV (iW dv (pv 1) (eg (v:=.str "sibling") rfl D ⟨_,rfl⟩)) (sR (iW dv (pv 2) (pv 3))))))))),?_⟩;obtain⟨t,r⟩:=j.obj;refine⟨_,rfl,g,_,rfl,.inr (A _),rfl,rfl,_,rfl,?_⟩;try dsimp only
 rw[bb Yo,Bs k];refine bR (λi=>?_) (λi=>bJ ?_)
 ·refine⟨_,rfl,l.h,t,_,rfl,r,rfl,_,rfl,_,rfl,l,b,n,m,k,a,rfl,j,λd c=>?_⟩;rw[lK (un.par i)];exact⟨rfl,q d c⟩
 ·have E:bC k=aY:=by
   cases e:bC k with
   |true=>exact absurd e i
   |false=>rfl
  obtain⟨y,x⟩:=un.bh E;refine⟨_,rfl,l.h,t,_,rfl,r,rfl,_,rfl,_,rfl,_,rfl,l,b,n,m,k,a,.inr o,rfl,j,λ_=>⟨o,rfl⟩,λd c=>⟨_,rfl,?_⟩⟩;have e:b.told (keyOf k a (.inr o))=aY:=by
   cases e:b.told (keyOf k a (.inr o)) with
   |true=>exact absurd ((ZdD _ _).mp e) y
   |false=>rfl
  rw[e];refine dh ?_;refine⟨_,rfl,rfl,_,rfl,?_⟩;rw[jj];refine bR (λu=>?_) (λu=>?_)
  ·refine⟨_,rfl,_,rfl,rfl,?_⟩;rw[jj,eJ (λz=>x ⟨dm u,z⟩)];exact q d c
  ·exact q d c
abbrev Ks:Z af:=["hearth","child","parent"]
def MK:aS ["hearth","child","parent","lines"] Ks (aL EU):=.bg
def YG(F:aP K "check_elders" "check_elders" EU f fd)(g:HasFn P w K mg B 2 "lines_up" l6 (HW C CL CJ)):aH P w K mg B aO 4 f fd Ks (Pp C CL CJ):=by
 refine F.o MK λs H c h=>?_;obtain⟨l,b,e,d,m,i,rfl,n,ok,k,no,q⟩:=h;refine⟨_,(av (cF 3 MK.nd (bq g c (aa (pv 0) (aa (pv 2) ai)))) (aC (bw (mV (vX (bu c) (pv 1) (pv 3)) QU) iF bI))),?_⟩;refine⟨_,rfl,_,rfl,l,b,e,d,i,rfl,n,ok,k,λp r t o a iff=>bP ?_⟩;have j:=λz=>no ((iff m).mp z);exact⟨_,rfl,_,rfl,p,aI,rfl,dt a.at_ (sI a.len j),_,rfl,dh (bJ (q o a.same))⟩
def ZM:aS rG rG (aL FH):=.bg
def ZN(F:aP K "check_tie" "check_tie" FH f fd)(y:mg "PARENTS"=O (.ref k))(x:∀H,aK K H k (jh.map V.str))(u:HasFn P w K mg B 1 "is_tie" ["kind"] HS)(I:HasFn P w K mg B 1 "sides_fit" CF QE)(t:cG P w K mg B 1 "side_of" C ji (Ph C CL CJ))(L:HasFn P w K mg B 3 "told_already" rG (RZ C CL CJ))(J:HasFn P w K mg B 4 "check_elders" Ks (Pp C CL CJ)):aH P w K mg B aO 6 f fd rG (Pq C CL CJ):=by
 refine F.o ZM λs H d h=>?_;obtain⟨l,b,i,g,c,rfl,e,ok,a,q⟩:=h;refine⟨_,(av (bw (kK (hU (bq u d (aa (pv 1) ai)))) iF bI) (av (bw (kK (hU (bq I d (aa (pv 1) (aa (dE t d (by decide) (pv 0) (aa (pv 2) ai)) (aa (dE t d (by decide) (pv 0) (aa (pv 3) ai)) ai)))))) iF bI) (av (bw (hU (bq L d (aa (pv 0) (aa (pv 1) (aa (pv 2) (aa (pv 3) ai)))))) iF bI) (aC (bw (jU (rM (K:=K) rfl) (pv 1) (eg (v:=.ref k) rfl y rfl) QU) (aC (cu (bq J d (aa (pv 0) (aa (pv 2) (aa (pv 3) ai)))))) bI))))),?_⟩;obtain⟨o,n⟩:=e.obj;obtain⟨r,D,N⟩:=MY (a.nf.fg.JH a.ns);have z:oM rD c.k=ar:=by unfold oM;rw[D];rfl
 have m:=(a.nf.fg.ok.jP a.ns).1.2;refine⟨_,rfl,c.k,rfl,_,rfl,?_⟩;rw[z];refine⟨_,rfl,_,rfl,l.h,o,_,rfl,n,rfl,_,rfl,l,b,i,g,_,_,rfl,e,Hf ok.nm a.nf.fg.ok.one,⟨_,rfl,l.h,o,_,rfl,n,rfl,_,rfl,l,b,i,g,_,_,rfl,e,Hf ok.nm m,⟨c.k,_,_,rfl,_,rfl,?_⟩⟩⟩;rw[a.cH];refine⟨_,rfl,_,rfl,_,rfl,_,rfl,l,b,i,g,c.k,_,_,rfl,e,a.un,λG j=>⟨_,rfl,dh (bJ ⟨_,rfl,k,_,rfl,.inr (x _),rfl,rfl,_,rfl,?_⟩)⟩⟩;rw[bb Yo,Bs c.k];refine bR (λp=>⟨_,rfl,_,rfl,_,rfl,l,b,i,g,_,_,rfl,e.same j,ok,vT m,a.el p,λE A=>q E (j.trans A)⟩) (λp=>bJ (q G j))
def Zl:aS rE rE (aL Fp):=.bg
def Ze4(F:aP K "tie" "Hearth.tie" Fp f fd)(i:hJ K C)(D:HasFn P w K mg B 6 "check_tie" rG (Pq C CL CJ))(A:cG P w K mg B 11 "keep" C wF (RX C CL CJ)):aH P w K mg B aO 12 f fd rE (R0 C CL CJ):=by
 refine F.o Zl λs H g h=>?_;obtain⟨l,b,e,d,c,rfl,p,ok,a,dl,q⟩:=h;refine⟨_,(av (cu (bq D g (aa (pv 0) (aa (pv 1) (aa (pv 2) (aa (pv 3) ai)))))) (aC (aX (dE A g (by decide) (pv 0) (aa (eS (aa (pF K 0) (aa (pv 1) (aa (pv 2) (aa (pv 3) ai))))) ai))))),?_⟩;refine⟨_,rfl,_,rfl,_,rfl,_,rfl,l,b,e,d,c,rfl,p,ok,a,λI m=>?_⟩;have o:=p.same m;obtain⟨n,j⟩:=o.obj;refine⟨_,rfl,l.h,n,_,rfl,j,rfl,_,rfl,l.h,C,n,_,_,rfl,j,i.cls,i.vM,rfl,_,rfl,_,rfl,_,rfl,by show 4<=sizeLine;decide,λr t E k G=>?_⟩;have y:kL t b.ps r (b.co,c):=by
  show t r=O (.tup ((iz b.ps b.co c).map kV));unfold iz;rwa[kH a.ns]
 refine⟨l,b,e,d,r,c,rfl,o.same k,ok,y,a.nf,dl,λx z u v=>q x z (cK.after (m.trans k) u) v⟩
def WD(H:Hp)(b:dN)(a:U)(c:Fc):Prop:=∃z:Int,H a=O (.tup [.int z,.str c.k,.str (ay b c.one),kV (cJ b c)])
def FL(H:Hp)(b:dN)(c:U)(F:Z Fc):Prop:=∃a:Z U,H c=O (.lst (a.map V.ref))/\Paired (WD H b) a F
theorem FL.get(h:FL H k o F):∃b:Z U,H o=O (.lst (b.map V.ref))/\b.length=F.length/\∀(d:Hp) (j:Nat) (v:V),aq H d->(b.map V.ref)[j]?=O v->∃(a:U) (c:Fc) (z:Int),v=.ref a/\F[j]?=O c/\F.take (j+1)=F.take j++[c]/\d a=O (.tup [.int z,.str c.k,.str (ay k c.one),kV (cJ k c)]):=by
 obtain⟨b,q,l⟩:=h;refine⟨b,q,dC l,λd j v g m=>?_⟩;rw[Yi] at m;obtain⟨a,p,rfl⟩:∃a,b[j]?=O a/\V.ref a=v:=by
  cases e:b[j]? with
  |none=>grind
  |some c=>grind
 obtain⟨c,i,z,n⟩:=kF l p;exact⟨a,c,z,rfl,i,by rw[Y8,i];rfl,g _ _ n⟩
def Bt(t:TT)(c:St)(H:Hp)(b:bA):Prop:=∀k:bA->Hp->Prop,(∀a,aq H a->k b a)->t c H k
def Vt(t:TE)(b:St)(H:Hp)(v:V):Prop:=∀k:VK,(∀a,aq H a->k v a)->t b H k
theorem Bt.and(h:Bt t σ H a)(g:∀d,a=ar->aq H d->Bt u σ d b):Bt (S6 t u) σ H (a&&b):=λk e=>h _ λl c=>by
 cases a with
 |true=>exact dI (g l rfl c _ λj i=>e j (c.trans i))
 |false=>grind
def Vt.var(h:σ[i]?=O (O x)):Vt (m8 i) σ H x:=λ_ a=>⟨x,h,a H (aq.refl _)⟩
def Vt.c:Vt (tC x) σ H x:=λ_ a=>a H (aq.refl _)
def Vt.test(h:Vt d σ H (.bl b)):Bt (IS d) σ H b:=λk a=>h _ λe c=>⟨b,rfl,a e c⟩
def Vt.eq(g:Vt j σ H x)(e:∀b,aq H b->Vt i σ b y)(c:Cb x y=ar):Vt (nB Uj j i) σ H (.bl (decide (x=y))):=λk d=>g _ λm a=>e m a _ λl h=>⟨c,d l (a.trans h)⟩
def Vt.ne(g:Vt j σ H x)(e:∀b,aq H b->Vt i σ b y)(c:Cb x y=ar):Vt (nB Uk j i) σ H (.bl (!decide (x=y))):=λk d=>g _ λm a=>e m a _ λl h=>⟨c,d l (a.trans h)⟩
def Vt.Zht(c:Vt h σ H (.str k)):Vt (nB (zA K aY) h (SG (jB (tC (V.str "mother")) (jB (tC (V.str "father")) jZ)))) σ H (.bl (bC k)):=λq b=>c _ λl g=>by
 refine⟨by show 2<=sizeLine;rw[c7];decide,λp i j d a=>⟨p,_,rfl,.inr (aK.of a),rfl,rfl,?_⟩⟩;have e:fS (V.str k) [V.str "mother",V.str "father"]=bC k:=by
  rw[Wu];unfold fS bC;rw[Ju,Ju,List.any_nil,Bool.or_false,WE,WE,fb,fb];show((("mother":af)==k)=ar\/(("father":af)==k)=ar)↔_
  grind
 exact e▸b i (g.trans d)
def Flat(o:V):Prop:=(∃z,o=.int z)\/∃z,o=.str z
theorem Ze5(k:Key):Flat (kV k):=by
 cases k with
 |inl z=>exact .inl ⟨z,rfl⟩
 |inr z=>exact .inr ⟨z,rfl⟩
def Be(j:cX xs q b):y∈dJ b a↔∃c∈b.F,bC c.k=ar/\ay b.ps c.one=a/\kV (cJ b.ps c)=.str y:=by
 constructor
 ·intro h;obtain⟨v,l,rfl⟩:=Yh.mp (h);unfold oF at l;obtain⟨k,_,e⟩:=Jy.mp l;obtain⟨p,g,d,s,i,rfl,r⟩:=QC j e;have m:p.2.k≠cV:=λz=>by
   rw[z] at d;exact absurd d QK
  exact⟨p.2,Yh.mpr ⟨p,g,rfl⟩,d,i,by rw[kH m];rfl⟩
 ·rintro⟨c,o,d,rfl,i⟩;obtain⟨p,g,rfl⟩:=Yh.mp (o);have n:(([.inr p.2.k,.inr (ay b.ps p.2.one)]:Z Key),kV (cJ b.ps p.2))∈bV b.ps b.fs:=Yh.mpr ⟨p,Yy.mpr ⟨g,d⟩,rfl⟩;have e:=yA j.pr n;refine Yh.mpr ⟨.str y,?_,rfl⟩;unfold oF;refine Jy.mpr ⟨p.2.k,?_,by rw[e,i]⟩;unfold bC at d;rw[WE,fb,fb] at d;rcases d with z|z<;>rw[z];·exact Yj
  ·exact Yv _ Yj
structure xQ(b:BS)(a:af)(ks:Z af):Prop where
 nd:ks.Nodup
 sd:∀k∈ks,dq b a k
 ma:a∈ks
def xQ.len(u:xQ b a e)(c:cX xs h b)(d:a∈b.ps.map (·.1)):e.length<=b.ps.length:=by
 have:=u.nd.length_le_of_subset λk g=>oq c d (u.sd k g)
 grind
theorem xQ.all(u:xQ b a c)(j:∀r,r<c.length->∀k,c[r]?=O k->∀p∈dJ b k,p∈c)(z:af):z∈c↔dq b a z:=by
 refine⟨u.sd z,λh=>?_⟩;induction h with
 |refl=>exact u.ma
 |step _ g e=>
  obtain⟨r,d,i⟩:=W0.mp e;exact j r d _ (by rw[Yb d,i]) _ g
inductive T4(i:Z V)(H:Hp)(Q:VK)(E:XK):Prop
 |mk (e:U) (h g:Z Int) (b:BS) (a:af) (l:i=[.ref e,.str a]) (k:FL H b.ps e b.F) (ok:cX h g b) (j:a∈b.ps.map (·.1)) (q:∀(p:U) (c:Z af) (d:Hp),aq H d->d p=O (.lst (c.map V.str))->(∀z,z∈c↔dq b a z)->c.length<=b.ps.length->Q (.ref p) d)
def muU(m:Nat):St->Hp->Nat:=λa _=>match List.getD (α:=bt V) a 3 aI with|some (V.int z)=>m+1-z.toNat|_=>0
inductive WG(H:Hp)(b:BS)(a:af)(l d:U)(i:St)(h:Hp):Prop
 |mk (c:Z af) (r:Nat) (q o n m:bt V) (g:aq H h) (t:h d=O (.lst (c.map V.str))) (up:xQ b a c) (s:r<=c.length) (u:∀j,j<r->∀k,c[j]?=O k->∀p∈dJ b k,p∈c) (e:i=[O (.ref l),O (.str a),O (.ref d),O (.int (r:Int)),q,o,n,m]):WG H b a l d i h
inductive Me(H:Hp)(b:BS)(a:af)(n h:U)(r:Nat)(m:Z af)(k:af)(j:Nat)(l:St)(i:Hp):Prop
 |mk (d o:Z af) (t s q p:bt V) (g:aq H i) (u:i h=O (.lst (d.map V.str))) (up:xQ b a d) (v:d=m++o) (x:∀c∈b.F.take j,bC c.k=ar->ay b.ps c.one=k->∀y,kV (cJ b.ps c)=.str y->y∈d) (e:l=[O (.ref n),O (.str a),O (.ref h),O (.int (r:Int)),t,s,q,p]):Me H b a n h r m k j l i
def Zbk(h:Flat o):jD o=ar:=by
 rcases h with⟨_,rfl⟩|⟨_,rfl⟩<;>rfl
def OA(a:Z af):(a.map V.str).all jD=ar:=by
 rw[W3];intro v b;obtain⟨k,_,rfl⟩:=Yh.mp b;rfl
def CG(y:af)(ks:Z af):fS (.str y) (ks.map V.str)=ar↔y∈ks:=by
 unfold fS;rw[J7];constructor
 ·rintro⟨v,a,e⟩;obtain⟨k,b,rfl⟩:=Yh.mp a;have:(k==y)=ar:=e
  grind
 ·intro h;exact⟨.str y,Yh.mpr ⟨y,h,rfl⟩,by show(y==y)=ar;rw[beq_iff_eq]⟩
abbrev wH:Z af:=["_law_facts","_law_name_here"]
def qR:aS ["_law_facts","_law_name_here","_law_row","_law_at","_law_number","_law_kind","_law_one","_law_other"] wH (aL G1):=.bg
def Zci(F:aP K "_law_up" "_law_up" G1 f fd)(bl:Bl mg):aH P w K mg B aO 1 f fd wH T4:=by
 refine F.o qR λs H hr h=>?_;obtain⟨N,xs,ys,b,a,rfl,z_,ok,ma,q⟩:=h;refine⟨_,(av (cF 2 qR.nd (eG (aa (pv 1) ai))) (av (cF 3 qR.nd aT) (av (GS iP (cA wb (pv 3) (fE K bl (pv 2))) (av (jb iP rfl (eR (K:=K) rfl (pv 0)) (mU (K:=K) (n:=4) rfl rfl (cS (cz 4 qR.nd) (cS (cz 5 qR.nd) (cS (cz 6 qR.nd) (cS (cz 7 qR.nd) mT))))) (aC (bw (PW.pt (pw_and (jU (rM (K:=K) rfl) (pv 5) (eS (aa dP (aa dP ai))) QU) (pw_and (cA dv (pv 6) (bO (iL K) (pv 2) (pv 3))) (pw_and1 (jU (BB (K:=K) rfl) (pv 7) (pv 2) QU))))) (aC (cu (sW (K:=K) rfl (rf k9 lG lr vm (pv 2) (aa (pv 7) ai))))) bI))) (aC (Q0 (i:=3) qR.nd rfl (ew rfl) aT Q3)))) (aC (aX (pv 2)))))),?_⟩;have sz:(10000:Nat)<=sizeLine:=by rw[c7];decide
 obtain⟨as,eQ,al,gt⟩:=z_.get;have m64:=ok.m;refine bT ?_;refine⟨_,rfl,by show 1<=sizeLine;decide,λm H1 Mf g1 Mg=>?_⟩;refine setC ?_;refine jV (λD Q=>∃ks:Z af,aq H Q/\Q m=O (.lst (ks.map V.str))/\(∀z,z∈ks↔dq b a z)/\ks.length<=b.ps.length/\∃o3 o4 o5 o6 o7:bt V,D=[O (.ref N),O (.str a),O (.ref m),o3,o4,o5,o6,o7]) (λDD nQ=>?_) ?_
 ·refine GU (WG H b a N m) (muU b.ps.length) ⟨[a],0,aI,aI,aI,aI,g1,Mg,⟨Y4.mpr ⟨(λz=>nomatch z),Jf⟩,λk W=>by rw[Yl.mp W];exact .refl,Yj⟩,Yx _,λr hr=>absurd hr (Ww _),rfl⟩ ?_ ?_
  ·rintro D Q ⟨ks,r,o4,o5,o6,o7,g6,T,up,rl,cl,rfl⟩;have kl:(ks.map V.str).length=ks.length:=Ya _;have gl:=up.len ok ma;refine⟨_,rfl,_,rfl,m,_,rfl,.inl (aj.of T),_,_,rfl,rfl,_,rfl,?_⟩;rw[kl];refine bR (λc=>?_) (λc=>?_)
   ·have R:r<ks.length:=by have:=dm c;omega
    obtain⟨k,ek⟩:∃k,ks[r]?=O k:=⟨_,Yb R⟩;have mk:k∈ks:=Ym ek;refine jV (Me H b a N m r ks k b.F.length) (λDQ rY=>?_) ?_
    ·refine⟨_,rfl,N,rfl,⟨_,aj.of (g6 _ _ eQ)⟩,mS (K:=K) (a:=N) (xs:=as.map V.ref) (Me H b a N m r ks k) ⟨ks,[],o4,o5,o6,o7,g6,T,up,by rw[Wh],λc hc=>(nomatch hc),rfl⟩ (λj D H8 _ ⟨_,_,_,_,_,_,g,_,_,_,_,_⟩=>aj.of (g _ _ eQ)) ?_ ?_⟩
     ·rintro j v D H8 hj ⟨cO,tl,p4,p5,p6,p7,X,L,t,A,ju,rfl⟩;obtain⟨c0,c,z,rfl,qD,Mh,hc⟩:=gt H8 j v X hj;have mc:c∈b.F:=Ym qD;have mL:cO[r]?=O k:=by rw[A,Y9 R];exact ek
      have gl8:=t.len ok ma;refine⟨c0,_,rfl,aK.of hc,rfl,_,_,rfl,bP ⟨_,_,rfl,bP ⟨_,_,rfl,bP ⟨_,_,rfl,bP ⟨rfl,?_⟩⟩⟩⟩⟩;refine(Bt.and (Vt.test (Vt.Zht (k:=c.k) (Vt.var rfl))) λHA _ gA=>Bt.and (Vt.test (Vt.eq (x:=.str (ay b.ps c.one)) (y:=.str k) (Vt.var rfl) (λHB gB kk W=>⟨_,rfl,_,rfl,m,_,_,_,rfl,rfl,aj.of (gB _ _ (gA _ _ L)),eA (by rw[Yi,mL];rfl),W _ (aq.refl _)⟩) rfl)) λHB _ gB=>Vt.test (b:=!fS (kV (cJ b.ps c)) (cO.map V.str)) λkk W=>⟨_,rfl,_,rfl,m,_,rfl,.inl (aj.of (gB _ _ (gA _ _ L))),Zbk (Ze5 _),OA _,W _ (aq.refl _)⟩) _ λH9 g9=>?_;rw[jj];have Ap:∀fV:Z af,(∀x∈cO,x∈fV)->(bC c.k=ar->ay b.ps c.one=k->∀y,kV (cJ b.ps c)=.str y->y∈fV)->∀c'∈b.F.take (j+1),bC c'.k=ar->ay b.ps c'.one=k->∀y,kV (cJ b.ps c')=.str y->y∈fV:=λfV sub hh c' J I G y E=>by
       rw[Mh] at J;rcases Yu.mp J with J|J;·exact sub _ (ju c' J I G y E)
       ·rw[Yl.mp J] at I G E;exact hh I G y E
      refine bR (λcc=>?_) (λcc=>bJ ?_)
      ·rw[Jb,Jb,fb] at cc;obtain⟨c1,c2,c3⟩:=cc;have ns:c.k≠cV:=λz=>by rw[z] at c1;exact absurd c1 QK
       have eo:kV (cJ b.ps c)=.str (ay b.ps c.bh.toNat):=by rw[kH ns];rfl
       have Aq:=g9 _ _ L;refine⟨_,rfl,.inl ⟨rfl,_,aj.of Aq⟩,_,rfl,m,_,_,rfl,rfl,Aq,by rw[Ya];omega,λqv b10 uq=>?_⟩;have no:ay b.ps c.bh.toNat∉cO:=λz=>by
        rw[eo,(CG _ _).mpr z] at c3;cases c3
       refine⟨cO++[ay b.ps c.bh.toNat],tl++[ay b.ps c.bh.toNat],_,_,_,_,λd o e=>b10 _ _ (g9 _ _ (X _ _ e)) (bW e Mf),by rw[uq,Yt,eo];rfl,⟨?_,λx l=>?_,Yk _ t.ma⟩,by rw[A,Jr],Ap _ (λx l=>Yk _ l) λ_ _ y hy=>?_,rfl⟩
       ·refine Wp.mpr ⟨t.nd,QS,λu hu w hw z=>?_⟩;rw[Yl] at hw;rw[z,hw] at hu;exact no hu
       ·rcases Yu.mp l with l|l;·exact t.sd x l
        ·rw[Yl.mp l];exact .step (t.sd k (Ym mL)) ((Be ok).mpr ⟨c,mc,c1,c2,eo⟩)
       ·rw[eo] at hy;rw[←V.str.inj hy];exact Ye _ Yj
      ·refine⟨cO,tl,_,_,_,_,X.trans g9,g9 _ _ L,t,A,Ap _ (λ_ h=>h) λI G y E=>?_,rfl⟩;rw[I,Aj,c_ G,Aj,E] at cc;by_cases z:y∈cO;·exact z
       ·exact absurd (by rw[W4.mpr (λw=>z ((CG _ _).mp w))];rfl) cc
     ·grind
    ·rintro D H8 ⟨cO,tl,p4,p5,p6,p7,X,L,t,A,ju,rfl⟩;rw[Wn] at ju;have mL:cO[r]?=O k:=by rw[A,Y9 R];exact ek
     refine⟨_,rfl,_,_,rfl,rfl,?_⟩;refine⟨⟨cO,r+1,p4,p5,p6,p7,X,L,t,by rw[A,Yq];exact gb (xl _ R),λr' h' x l p hp=>?_,rfl⟩,?_⟩
     ·by_cases z:r'=r
      ·rw[z,mL] at l;cases l;obtain⟨c,mc,I,G,E⟩:=(Be ok).mp hp;exact ju c mc I G p E
      ·rw[A,Y9 (eU h' (gb R))] at l;rw[A];exact Yk _ (cl r' (dy (dR h') z) x l p hp)
     ·show b.ps.length+1-(r+1)<b.ps.length+1-r;omega
   ·have re:¬((r:Int)<(ks.length:Int)):=λz=>c (c_ z);exact nQ _ _ ⟨ks,g6,T,up.all (λr' h'=>cl r' QO),gl,_,_,_,_,_,rfl⟩
  ·rintro D Q Q1 Q2 mo ⟨v1,w1,v2,w2,v3,v4,w3,w4,v5,v6,w5,w6,v7,w7,h⟩;exact⟨v1,w1,v2,w2,v3,v4,w3,w4,v5,v6,w5,w6,v7,w7,mo _ _ h⟩
 rintro D Q ⟨ks,g6,T,al,gl,o3,o4,o5,o6,o7,rfl⟩;exact⟨_,rfl,q m ks Q g6 T al gl⟩
def jR(n:Nat):Z Nat:=if n<10 then[48+n] else[48+n/10,48+n % 10]
def lI(n:Nat):af:=.ofString (toString (n:Int))
def HY:∀n<61,(lI n).cps.toList=jR n:=QK
def fW(k z:Nat):Nat:=if z/3 % 3=1 then 9 else(k*z+z) % 5
def lJ(m:Nat):af:=Txt.mul "q" (m:Int)
def Ze6:∀m<10,(lJ m).cps.toList=List.replicate m 113:=QK
def uS:af:="abcdefghijklmnopqrstuvwxyz"
def IJ:∀i<26,fM uS.cps.toList ((i:Nat):Int)=O (97+i):=QK
def dk(i:Nat):af:=⟨#[97+i]⟩
def cQ(z k:Nat):af:=if z % 3=0 then(dk ((k*7+z) % 26)++lI (k/26))++lJ (fW k z) else if z % 3=1 then(dk (z % 26)++lJ (fW k z))++lI ((k*17+z) % 61) else(dk (z % 26)++lI ((k*17+z) % 61))++lJ (fW k z)
def IK(k z:Nat):fW k z<10:=by
 unfold fW;split<;>omega
def vU(a b:af):(a++b).cps.toList=a.cps.toList++b.cps.toList:=Array.toList_append
def A0(z k:Nat)(a:k<60):(cQ z k).cps.toList=if z % 3=0 then[97+(k*7+z) % 26,48+k/26]++List.replicate (fW k z) 113 else if z % 3=1 then(97+z % 26)::(List.replicate (fW k z) 113++jR ((k*17+z) % 61)) else(97+z % 26)::(jR ((k*17+z) % 61)++List.replicate (fW k z) 113):=by
 have f:=Ze6 _ (IK k z);unfold cQ;split
 ·rw[vU,vU,f,HY _ QO];unfold jR;rw[br QO];rfl
 split
 ·rw[vU,vU,f,HY _ (ik _ (by decide))];rfl
 ·rw[vU,vU,f,HY _ (ik _ (by decide))];rfl
def Mi(l:Z Nat):Nat:=l.foldl (λa c=>10*a+(c-48)) 0
def B9:Mi (jR n)=n:=by
 unfold jR;split;·exact(Lo _).trans (WH _ _)
 ·show 10*(10*0+(48+n/10-48))+(48+n % 10-48)=n;rw[WH,WH,Nat.mul_zero,Lo,Nat.div_add_mod]
def R1(h:n<61):∀c∈jR n,48<=c/\c<58:=by
 unfold jR
 grind
def AQ(h:n<61):(jR n).filter (λc=>decide (c<58))=jR n:=J9.mpr λc a=>c_ (R1 h c a).2
def AR(m:Nat):(List.replicate m 113).filter (λc=>decide (c<58))=[]:=by
 grind
def Zcj(j:k<60)(l:k'<60)(e:cQ z k=cQ z k'):k=k':=by
 have e:(cQ z k).cps.toList=(cQ z k').cps.toList:=by rw[e]
 rw[A0 z k j,A0 z k' l] at e;by_cases i:z % 3=0
 ·rw[br i,br i] at e;injection e with m e;injection e with a _;omega
 rw[bb i,bb i] at e;have b:(k*17+z) % 61=(k'*17+z) % 61->k=k':=λh=>QO
 by_cases g:z % 3=1
 ·rw[br g,br g] at e;injection e with _ e;have a:=de (List.filter λc=>decide (c<58)) e;rw[Wj,Wj,AR,AR,AQ (ik _ (by decide)),AQ (ik _ (by decide)),WI,WI] at a;have d:=de Mi a;rw[B9,B9] at d;exact b d
 ·rw[bb g,bb g] at e;injection e with _ e;have a:=de (List.filter λc=>decide (c<58)) e;rw[Wj,Wj,AR,AR,AQ (ik _ (by decide)),AQ (ik _ (by decide)),Wh,Wh] at a;have d:=de Mi a;rw[B9,B9] at d;exact b d
def R3:∀i<26,gu pS (97+i)=ar/\gu mW (97+i)=ar:=QK
def R4:∀i<10,gu mW (48+i)=ar:=QK
def ZiA:gu mW 113=ar:=QK
def NG(l:k<60):tN (cQ z k)=ar/\(cQ z k).length<=12:=by
 have q:=IK k z;have b:(List.replicate (fW k z) 113).all (gu mW)=ar:=W3.mpr λc d=>by rw[List.eq_of_mem_replicate d];exact ZiA
 have s:∀n,n<61->(jR n).all (gu mW)=ar/\(jR n).length<=2:=λn j=>by
  refine⟨W3.mpr λc d=>?_,?_⟩
  ·have:=R1 j c d;have e:=R4 (c-48) QO
   grind
  ·unfold jR;split<;>simp
 have len:(cQ z k).length=(cQ z k).cps.toList.length:=rfl;have c:=A0 z k l;have a:∃(i:Nat) (r:Z Nat),i<26/\(cQ z k).cps.toList=(97+i)::r/\r.length<=11/\r.all (gu mW)=ar:=by
  by_cases m:z % 3=0
  ·rw[br m] at c;refine⟨_,_,(ik _ (by decide)),c,?_,?_⟩
   ·show((48+k/26)::List.replicate (fW k z) 113).length<=11
    grind
   ·show((48+k/26)::List.replicate (fW k z) 113).all (gu mW)=ar;rw[Jt,b,R4 _ QO];rfl
  grind
 obtain⟨i,r,g,e,p,o⟩:=a;have h:(cQ z k).length<=12:=by
  grind
 refine⟨?_,h⟩;rw[Oz e,c_ h,(R3 i g).1,Jt,(R3 i g).2,o];rfl
def Ze7:∀m<10,(lJ m).length<=9:=QK
def QH:∀n<61,(lI n).length<=2:=QK
def H_(a b:af):(a++b).length=a.length+b.length:=Array.size_append
inductive R5(a:Z V)(H:Hp)(Q:VK)(E:XK):Prop
 |mk (k z:Nat) (d:a=[.int (k:Int),.int (z:Int)]) (c:k<60) (b:z<97) (q:Q (.str (cQ z k)) H)
abbrev Ku:Z af:=["_law_k","_law_salt"]
def ya:aS ["_law_k","_law_salt","_law_letters","_law_fill","_law_number"] Ku (aL Gh):=.bg
def Zao(F:aP K "_law_name" "_law_name" Gh f fd)(t:Bl mg):aH P w K mg B aO 1 f fd Ku R5:=by
 refine F.o ya λs H N h=>?_;obtain⟨k,z,rfl,R,L,q⟩:=h;refine⟨_,(av (cF 2 ya.nd dP) (av (cF 3 ya.nd (bc P9 dP (bc hZ (bc hV (bc pY (pv 0) (pv 1)) (pv 1)) aT))) (av (cF 4 ya.nd (bc hZ (bc hV (bc pY (pv 0) aT) (pv 1)) aT)) (av (bw (cA dv (bc hZ (bc Hl (pv 1) aT) aT) aT) (aC (cF 3 ya.nd (bc P9 dP aT))) bI) (av (bw (cA dv (bc hZ (pv 1) aT) aT) (aC (aX (bc vh (bc vh (bO yE (pv 2) (bc hZ (bc hV (bc pY (pv 0) aT) (pv 1)) aT)) (jv Fg rfl t.yT yG (aa (bc Hl (pv 0) aT) ai))) (pv 3)))) bI) (av (bw (cA dv (bc hZ (pv 1) aT) aT) (aC (aX (bc vh (bc vh (bO yE (pv 2) (bc hZ (pv 1) aT)) (pv 3)) (jv Fg rfl t.yT yG (aa (pv 4) ai))))) bI) (aC (aX (bc vh (bc vh (bO yE (pv 2) (bc hZ (pv 1) aT)) (jv Fg rfl t.yT yG (aa (pv 4) ai))) (pv 3)))))))))),?_⟩;have G:y6 (k:Int) (z:Int):=.inl ⟨QO,QO⟩;have A:∀j:Int,y6 (k:Int) j:=λj=>.inl ⟨QO,QO⟩;have I:JU (z:Int) 3:=⟨(by decide),(by decide)⟩;have p:JU (k:Int) 26:=⟨(by decide),(by decide)⟩;have sz:(10000:Nat)<=sizeLine:=by rw[c7];decide
 have y:((k:Int)*17+(z:Int)) % 61=(((k*17+z) % 61:Nat):Int):=rfl
 have b:((k:Int)*7+(z:Int)) % 26=(((k*7+z) % 26:Nat):Int):=rfl
 have x:(z:Int) % 26=((z % 26:Nat):Int):=rfl
 have o:(k:Int)/26=((k/26:Nat):Int):=rfl
 have E:((k:Int)*(z:Int)+(z:Int)) % 5=(((k*z+z) % 5:Nat):Int):=by rw[Int.natCast_emod,Int.natCast_add,Int.natCast_mul];rfl
 refine setC ?_;refine bT ?_;refine⟨_,rfl,_,rfl,_,_,rfl,rfl,G,_,rfl,_,_,rfl,rfl,_,_,rfl,rfl,(by decide),"q",(k*z+z) % 5,rfl,de V.int E,QK,QO,?_⟩;refine bT ?_;refine⟨_,rfl,_,_,rfl,rfl,A _,_,rfl,_,_,rfl,rfl,_,_,rfl,rfl,(by decide),?_⟩;refine Bx (λu D=>D=H/\u=[O (.int (k:Int)),O (.int (z:Int)),O (.str uS),O (.str (lJ (fW k z))),O (.int (((k*17+z) % 61:Nat):Int))]) (λT v=>?_) ?_
 ·refine⟨_,rfl,_,_,rfl,rfl,I,_,_,rfl,rfl,(by decide),rfl,_,rfl,bR (λc=>?_) (λc=>bJ ?_)⟩
  ·have c:=V.int.inj (dm c);have r:z/3 % 3=1:=QO
   have m:fW k z=9:=br r;refine⟨"q",9,rfl,rfl,QK,(by decide),bP (v _ _ ⟨rfl,?_⟩)⟩;rw[m,←y];rfl
  ·have r:¬z/3 % 3=1:=λw=>c (c_ (de V.int QO));have m:fW k z=(k*z+z) % 5:=bb r;refine v _ _ ⟨rfl,?_⟩;rw[m,←y];rfl
 rintro u D ⟨rfl,rfl⟩;have J:=Ze7 _ (IK k z);have d:uS.length<=sizeLine:=Yz (show uS.length<=100 by decide+kernel) (by decide);have g:∀n:Nat,n<61->(n:Int).natAbs.log2<1920:=λn Q=>Jm (Nat.log2_le_self _) QO;refine⟨_,rfl,_,_,rfl,rfl,(by decide),rfl,_,rfl,bR (λc=>?_) (λc=>bJ ?_)⟩
 ·have a:z % 3=0:=by have:=V.int.inj (dm c);omega
  have ld:=QH (k/26) QO;refine⟨_,rfl,_,rfl,_,_,rfl,rfl,A _,_,rfl,_,_,rfl,rfl,_,_,rfl,rfl,(by decide),uS,_,_,rfl,de V.int b,d,IJ _ (ik _ (by decide)),_,rfl,_,_,rfl,rfl,p,((k/26:Nat):Int),de (λi=>[V.int i]) o,g _ QO,_,_,rfl,rfl,?_,_,rfl,_,_,rfl,rfl,?_,?_⟩
  ·show 1+(lI (k/26)).length<=sizeLine;omega
  ·show(dk ((k*7+z) % 26)++lI (k/26)).length+(lJ (fW k z)).length<=sizeLine;rw[H_];show 1+_+_<=_;omega
  ·have e:cQ z k=(dk ((k*7+z) % 26)++lI (k/26))++lJ (fW k z):=br a;rw[e] at q;exact q
 have a:¬z % 3=0:=λw=>c (c_ (de V.int QO));have ld:=QH ((k*17+z) % 61) (ik _ (by decide));refine⟨_,rfl,_,_,rfl,rfl,(by decide),rfl,_,rfl,bR (λc=>?_) (λc=>bJ ?_)⟩
 ·have l:z % 3=1:=by have:=V.int.inj (dm c);omega
  refine⟨_,rfl,_,rfl,_,_,rfl,rfl,(by decide),uS,_,_,rfl,de V.int x,d,IJ _ (ik _ (by decide)),_,rfl,_,_,rfl,rfl,?_,_,rfl,_,rfl,g _ (ik _ (by decide)),_,_,rfl,rfl,?_,?_⟩
  ·show 1+(lJ (fW k z)).length<=sizeLine;omega
  ·show(dk (z % 26)++lJ (fW k z)).length+(lI ((k*17+z) % 61)).length<=sizeLine;rw[H_];show 1+_+_<=_;omega
  ·have e:cQ z k=(dk (z % 26)++lJ (fW k z))++lI ((k*17+z) % 61):=(bb a).trans (br l);rw[e] at q;exact q
 have l:¬z % 3=1:=λw=>c (c_ (de V.int QO));refine⟨_,rfl,_,rfl,_,_,rfl,rfl,(by decide),uS,_,_,rfl,de V.int x,d,IJ _ (ik _ (by decide)),_,rfl,_,rfl,g _ (ik _ (by decide)),_,_,rfl,rfl,?_,_,rfl,_,_,rfl,rfl,?_,?_⟩
 ·show 1+(lI ((k*17+z) % 61)).length<=sizeLine;omega
 ·show(dk (z % 26)++lI ((k*17+z) % 61)).length+(lJ (fW k z)).length<=sizeLine;rw[H_];show 1+_+_<=_;omega
 ·have e:cQ z k=(dk (z % 26)++lI ((k*17+z) % 61))++lJ (fW k z):=(bb a).trans (bb l);rw[e] at q;exact q
theorem Zap{Q:VK}(u:Key->V->V)(nd:(c.map (·.1)).Nodup)(lim:c.length<=1000)(nf:jF H0 d)(hd:H1 d=O (.dK c))(t:upd H1 d (.bp h (.dK c)) D=aI)
  (hs:∀(i:Nat) (k:Key) (y:V) (g:Hp),c[i]?=O (k,y)->(∀b o,H1 b=O o->b≠d->g b=O o)->∀R:VK,R (u k y) g->tv [O (kV k),O y] g R)
  (I:∀g,H1 D=aI->aq H1 g->g D=O (.dK (c.map λp=>(p.1,u p.1 p.2)))->Q (.ref D) g):
  Bm 2 (De d h c) (JQ K 2 (IQ (lQ 0) (IQ (lQ 1) S7))) wq (m8 0) tv [] D (upd H1 d (.bp h (.dK c))) (λv g=>∃d h c,jF H0 d/\g d=O (.bp h (.dK c))/\Q v (upd g d (.dK c))):=by
 have E:D≠d:=λz=>by rw[z,aM] at t;cases t
 have F:H1 D=aI:=by rw[az E] at t;exact t
 refine⟨λi m q g=>m=c.length-i/\i<=c.length/\q=(c.take i).map (λp=>(p.1,u p.1 p.2))/\(∀b o,H1 b=O o->b≠d->g b=O o)/\g d=O (.bp h (.dK c))/\g D=O (.dK q),⟨c.length,rfl,Yx _,rfl,λb o e n=>by rw[az (bW e F),az n];exact e,by rw[az (d6 E),aM],aM⟩,?_⟩;rintro i m q g ⟨rfl,hi,x,T,l,H⟩;by_cases L:i<c.length
 ·refine .inr ⟨⟨l,L⟩,λJ A=>J=(c.take (i+1)).map (λp=>(p.1,u p.1 p.2))/\(∀b o,H1 b=O o->b≠d->A b=O o)/\A d=O (.bp h (.dK c))/\A D=O (.dK J),λJ A ⟨a1,a2,a3,a4⟩=>⟨c.length-(i+1),QO,rfl,L,a1,a2,a3,a4⟩,?_⟩;rintro v H4 ⟨a,k,y,X,j,rfl,rfl⟩ os iS;obtain⟨s,r,rfl⟩:∃s r,os=[s,r]:=by
   match os,iS with
   |[s,r],_=>exact⟨s,r,rfl⟩
  refine⟨a,[kV k,y],rfl,aK.of aM,rfl,?_⟩;have aD:a≠D:=λz=>by rw[z,H] at j;cases j
  have ad:a≠d:=λz=>by rw[z,l] at j;cases j
  have WM:∀b o,H1 b=O o->b≠d->upd g a (.tup [kV k,y]) b=O o:=λb o e n=>by
   have:=T b o e n;rw[az (bW this j)];exact this
  refine⟨_,_,rfl,_,_,rfl,rfl,⟨[O (kV k),O y],rfl,rfl⟩,?_⟩;dsimp only[wq];refine dI ⟨kV k,rfl,hs i k y _ X WM _ ⟨k,rfl,by rw[az (d6 aD)];exact H,?_,?_,?_,?_,aM⟩⟩
  ·rw[x,Ya,Wi];exact mR QO
  ·have P:c.take (i+1)=c.take i++[(k,y)]:=by rw[Y8,X];rfl
   have no:aF q k=aI:=lK λW=>by
    rw[x,Y0] at W;have G:k∈(c.take i).map (·.1):=W;have N:((c.take (i+1)).map (·.1)).Nodup:=nd.sublist ((Uq _ _).map _);rw[P,Yt,Wp] at N;exact N.2.2 k G k QS rfl
   rw[kG _ no,P,Yt,←x];rfl
  ·intro b o e n;rw[az (bW e F)];exact WM b o e n
  ·rw[az (d6 E),az (d6 ad)];exact l
 ·have e:i=c.length:=(eL hi (dg L))
  subst e;refine .inl ⟨⟨l,Yg _⟩,d,h,c,nf,l,I _ F (λb o e=>?_) ?_⟩
  ·by_cases z:b=d
   ·rw[z,aM];rw[z,hd] at e;exact e
   ·rw[az z];exact T b o e z
  ·rw[az E,H,x,Wn]
theorem Zaq{Q:VK}(h:Key->bA)(u:Key->V)(nd:(a.map (·.1)).Nodup)(lim:a.length<=1000)(nf:jF H0 d)(hd:H1 d=O (.dK a))(t:upd H1 d (.bp g (.dK a)) D=aI)
  (ht:∀(i:Nat) (k:Key) (y:V) (c:Hp),a[i]?=O (k,y)->(∀b o,H1 b=O o->b≠d->c b=O o)->c d=O (.bp g (.dK a))->∀R:bA->Hp->Prop,R (h k) c->tt (O (kV k)::W) c R)
  (hv:∀(i:Nat) (k:Key) (y:V) (c:Hp),a[i]?=O (k,y)->(∀b o,H1 b=O o->b≠d->c b=O o)->c d=O (.bp g (.dK a))->h k=ar->∀R:VK,R (u k) c->X (O (kV k)::W) c R)
  (J:∀c,H1 D=aI->aq H1 c->c D=O (.dK ((a.filter λp=>h p.1).map λp=>(p.1,u p.1)))->Q (.ref D) c):
  Bm 1 (Df d g a) (lQ 0) tt (m8 0) X W D (upd H1 d (.bp g (.dK a))) (λv c=>∃d g a,jF H0 d/\c d=O (.bp g (.dK a))/\Q v (upd c d (.dK a))):=by
 have A:D≠d:=λz=>by rw[z,aM] at t;cases t
 have G:H1 D=aI:=by rw[az A] at t;exact t
 refine⟨λi m r c=>m=a.length-i/\i<=a.length/\r=((a.take i).filter λp=>h p.1).map (λp=>(p.1,u p.1))/\(∀b o,H1 b=O o->b≠d->c b=O o)/\c d=O (.bp g (.dK a))/\c D=O (.dK r),⟨a.length,rfl,Yx _,rfl,λb o e n=>by rw[az (bW e G),az n];exact e,by rw[az (d6 A),aM],aM⟩,?_⟩;rintro i m r c ⟨rfl,hi,q,l,j,I⟩;by_cases N:i<a.length
 ·refine .inr ⟨⟨j,N⟩,λL x=>L=((a.take (i+1)).filter λp=>h p.1).map (λp=>(p.1,u p.1))/\(∀b o,H1 b=O o->b≠d->x b=O o)/\x d=O (.bp g (.dK a))/\x D=O (.dK L),λL x ⟨a1,a2,a3,a4⟩=>⟨a.length-(i+1),QO,rfl,N,a1,a2,a3,a4⟩,?_⟩;rintro v H4 ⟨rfl,k,y,H,rfl⟩ os iS;obtain⟨s,rfl⟩:∃s,os=[s]:=by
   match os,iS with
   |[s],_=>exact⟨s,rfl⟩
  have E:a.take (i+1)=a.take i++[(k,y)]:=by rw[Y8,H];rfl
  refine⟨⟨[O (kV k)],rfl,rfl⟩,?_⟩;refine ht i k y _ H l j _ ?_;cases F:h k with
  |false=>
   refine dh ⟨?_,l,j,I⟩;rw[E,Wj,Jv (by rw[F];exact Yo),Mp,Wh,←q]
  |true=>
   refine dI ⟨kV k,rfl,hv i k y _ H l j F _ ⟨k,rfl,I,?_,?_,?_,?_,aM⟩⟩
   ·rw[q,Ya];have:=Y3 (λp:Key×V=>h p.1) (a.take i);rw[Wi] at this;exact mR QO
   ·have no:aF r k=aI:=lK λT=>by
     rw[q,Y0] at T;obtain⟨p,hp,ep⟩:=Yh.mp T;have P:((a.take (i+1)).map (·.1)).Nodup:=nd.sublist ((Uq _ _).map _);rw[E,Yt,Wp] at P;exact P.2.2 k (Yh.mpr ⟨p,(Yy.mp hp).1,ep⟩) k QS rfl
    rw[kG _ no,E,Wj,Wx (p:=λp:Key×V=>h p.1) F,Mp,Yt,←q];rfl
   ·intro b o e n;rw[az (bW e G)];exact l b o e n
   ·rwa[az (d6 A)]
 ·have e:i=a.length:=(eL hi (dg N))
  subst e;refine .inl ⟨⟨j,Yg _⟩,d,g,a,nf,j,J _ G (λb o e=>?_) ?_⟩
  ·by_cases z:b=d
   ·rw[z,aM];rw[z,hd] at e;exact e
   ·rw[az z];exact l b o e z
  ·rw[az A,I,q,Wn]
inductive Hg(C CL CJ:U)(d:Z V)(H:Hp)(Q:VK)(E:XK):Prop
 |mk (l:BL) (b:BS) (c a:Z Int) (i:Nat) (j:d=[.ref l.h,.str (ay b.ps i)]) (h:a_ H C CL CJ l c a b) (e:(b.ps.map (·.1)).Nodup) (g:i<b.ps.length) (q:Q (.int (i:Int)) H)
structure SD(b:BS)(a:af)(kvs:Z (Key×V)):Prop where
 yes:∀e x,dG b a e x->aF kvs (.inr x)=O (.int (e:Int))
 no:∀x,(∀e,¬dG b a e x)->aF kvs (.inr x)=aI
 ks:∃xs:Z af,kvs.map (·.1)=xs.map Sum.inr/\xs.Nodup/\∀x,x∈xs↔dq b a x
theorem ZgB(h:dq b a x):∃e,Lv b a e x:=by
 induction h with
 |refl=>exact⟨0,rfl⟩
 |step _ m c=>
  obtain⟨e,h⟩:=c;exact⟨e+1,_,h,m⟩
theorem tD{b:BS}{a:af}:∀{e:Nat} {x:af},Lv b a e x->dq b a x
 |0,x,h=>by have:=h;exact this▸.refl
 |e+1,x,⟨y,h,m⟩=>.step (tD h) m
theorem QI:∀(e:Nat),Lv b a e x->∃d,dG b a d x:=λe=>by
 induction e using Nat.strongRecOn with
 |ind e i=>
  intro h;by_cases c:∃g,g<e/\Lv b a g x
  ·obtain⟨g,lt,l⟩:=c;exact i g lt l
  ·exact⟨e,h,λk j=>Ut λz=>c ⟨k,z,j⟩⟩
def yo(h:dq b a x):∃d,dG b a d x:=let⟨e,l⟩:=ZgB h;QI e l
def SD.same(h:SD b a g)(i:SD b a j)(x:af):aF g (.inr x)=aF j (.inr x):=by
 by_cases c:∃e,dG b a e x
 ·obtain⟨e,d⟩:=c;rw[h.yes e x d,i.yes e x d]
 ·rw[h.no x λe d=>c ⟨e,d⟩,i.no x λe d=>c ⟨e,d⟩]
theorem OB[DecidableEq a](g:a->V->V)(l:Z (a×V))(k:a):aF (l.map λp=>(p.1,g p.1 p.2)) k=(aF l k).map (g k):=by
 induction l with
 |nil=>rfl
 |cons p r b=>
  by_cases e:p.1=k
  ·rw[Wv,gY (show(p.1,g p.1 p.2).1=k from e),gY e,←e];rfl
  ·rw[Wv,jx (show(p.1,g p.1 p.2).1≠k from e),jx e,b]
inductive GK(C CL CJ:U)(i:Z V)(H:Hp)(Q:VK)(E:XK):Prop
 |mk (l:BL) (b:BS) (h g:Z Int) (a:af) (m:i=[.ref l.h,.str a]) (k:a_ H C CL CJ l h g b) (ok:cX h g b) (j:a∈b.ps.map (·.1)) (q:∀(p:U) (c:Z (Key×V)) (d:Hp),aq H d->H p=aI->d p=O (.dK c)->SD b a c->(∀e x,dG b a e x->e<b.ps.length)->Q (.ref p) d)
def MI:aS ji ji (aL Az):=.bg
def Zar(F:aP K "place_of" "Hearth.place_of" Az f fd)(a:hJ K C):aH P w K mg B aO 1 f fd ji (Hg C CL CJ):=by
 refine F.o MI λs H e h=>?_;obtain⟨l,b,o,n,i,rfl,c,k,m,q⟩:=h;refine⟨_,(av (bw (mV (vD (bu e) (pv 1) (pF K 0)) QU) iF bI) (aC (aX (dD (bu e) (pF K 0) (pv 1) (λ_ _=>rfl))))),?_⟩;obtain⟨j,g⟩:=c.obj;have d:=vS k m;exact⟨_,rfl,_,rfl,l.h,C,j,_,_,rfl,g,a.cls,a.oo,rfl,l.pl,O _,rfl,dt c.places d,_,rfl,dh (bJ ⟨_,rfl,l.h,C,j,_,_,rfl,g,a.cls,a.oo,rfl,_,rfl,l.pl,_,rfl,dt c.places d,q⟩)⟩
def Zas:aS l6 l6 (aL Gg):=.bg
theorem Zat(F:aP K "steps_up" "steps_up" Gg f fd)(vA:HasFn P w K mg B 2 "lines_up" l6 (HW C CL CJ))(bl:Bl mg):aH P w K mg B aO 3 f fd l6 (GK C CL CJ):=by
 refine F.o Zas λs H hr h=>?_;obtain⟨l,b,xs,ys,a,rfl,ba,ok,N,q⟩:=h;have hu:=hr.oC;refine⟨_,(aC (aX (Qg (H0:=H) rfl (Og (xs:=["elder","line"]) (fr:=[]) (cl:=[]) rfl (.fD trivial trivial) (λ_ _ _ _=>(mU (K:=K) (n:=2) rfl rfl (cS (jT (i:=0) (show(["elder","line"]:Z af).Nodup by decide+kernel) rfl (ew rfl)) (cS (jT (i:=1) (show(["elder","line"]:Z af).Nodup by decide+kernel) rfl (ew rfl)) mT)))) (Zc6 (H0:=H) rfl (bq vA hr (aa (pv 0) (aa (pv 1) ai)))) (λ_ _ _ _=>lN) (λ_ _ _ _=>(pv 0)) (λ_ _ _ _=>(bc Q7 (fE K bl (pv 1)) aT)))))),?_⟩;refine⟨_,rfl,_,rfl,l,b,xs,ys,a,rfl,ba,ok,N,λln ks W L m iff=>⟨ln,fU ks W,rfl,m.at_,λod nf D nD=>?_⟩⟩;have kl:ks.length<=64:=Yz (oh ok m.nd λk u=>oq ok N ((iff k).mp u)) ok.m;have ll:(fU ks W).length=ks.length:=by unfold fU;rw[Ya,Wy];have:=m.len;omega
 have keys:=Hd m.len;have p:∀k∈ks,∃(c:U) (j:Z af) (e:Nat),aF (fU ks W) (.inr k)=O (.ref c)/\L c=O (.lst (j.map V.str))/\j.length=e+1/\dG b a e k/\c≠ln/\j.length<=ks.length:=λk u=>by
  obtain⟨c,mc,t⟩:=yB m.len u;obtain⟨j,I,ul,e,e2,e3⟩:=m.DW k c t;obtain⟨_,_,_,n⟩:=m.lst c mc;exact⟨c,j,e,t,I,e2,e3,n,ul⟩
 have WN:∀v:V,∃n:Int,∀c j,v=.ref c->L c=O (.lst j)->n=(j.length:Int)-1:=λv=>by
  cases v with
  |ref c=>
   cases h:L c with
   |none=>exact⟨0,λT j e r=>by cases e;rw[h] at r;cases r⟩
   |some o=>
    cases o with
    |lst j=>exact⟨(j.length:Int)-1,λT X e r=>by cases e;rw[h] at r;cases r;rfl⟩
    |_=>exact⟨0,λT X e r=>by cases e;rw[h] at r;cases r⟩
  |_=>exact⟨0,λT X e r=>by cases e⟩
 obtain⟨A,WO⟩:∃A:V->Int,∀v c j,v=.ref c->L c=O (.lst j)->A v=(j.length:Int)-1:=⟨λv=>Classical.choose (WN v),λv=>Classical.choose_spec (WN v)⟩;refine Zap (λ_ v=>.int (A v)) (by rw[keys];exact nN (S:=(·≠·)) Sum.inr (λ_ _ n z=>n (Wl z)) m.nd) QO nf m.at_ nD (λi k y H' u kp R hR=>?_) λH' pG g hD=>?_
 ·have mk:=Ym u;have kx:k∈ks.map Sum.inr:=by rw[←keys];exact Yh.mpr ⟨_,mk,rfl⟩
  obtain⟨x,E,rfl⟩:=Yh.mp kx;obtain⟨c,j,e,t,G,_,_,nc,_⟩:=p x E;have vy:=yA (by rw[keys];exact U3 (S:=(·≠·)) Sum.inr (λ_ _ n z=>n (Wl z)) m.nd) mk;rw[t] at vy;cases vy;refine⟨_,rfl,c,_,rfl,.inl (aj.of (kp _ _ G nc)),_,_,rfl,rfl,?_⟩;have I:=WO (.ref c) c _ rfl G;rw[I] at hR;exact hR
 ·refine q D _ H' (m.same.trans g) (m.same.free pG) hD ⟨λe x J=>?_,λx no=>?_,ks,?_,m.nd,iff⟩ λe x J=>?lim
  ·have E:x∈ks:=(iff x).mpr (tD J.at_);obtain⟨c,j,e',t,G,le,Q,_,_⟩:=p x E;rw[OB (λ_ v=>.int (A v)),t];have I:=WO (.ref c) c _ rfl G;have:=Q.uniq J;show O (V.int (A (.ref c)))=_;rw[I,Ya,le,this]
   congr 2
   omega
  ·rw[OB (λ_ v=>.int (A v)),sI m.len λE=>?_];·rfl
   ·obtain⟨d,hd⟩:=yo ((iff x).mp E);exact no d hd
  ·rw[Y0];exact keys
  case lim=>
   obtain⟨c,j,e',t,G,le,Q,_,ul⟩:=p x ((iff x).mpr (tD J.at_));have:=Q.uniq J;have:=oh ok m.nd λk u=>oq ok N ((iff k).mp u);omega
def yN(h:z∈b.map (·.1)):∃i,i<b.length/\z=ay b i:=by
 obtain⟨i,a,e⟩:=Ji h;rw[Ya] at a;refine⟨i,a,?_⟩;rw[←e,WQ,ay,Yd,Yb a];rfl
theorem Hh{c d:Type}{l:Z c}{f g:c->Z d}(h:∀a∈l,f a=g a):l.flatMap f=l.flatMap g:=by
 induction l with
 |nil=>rfl
 |cons a l e=>rw[LU,LU,h a Yj,e λb i=>h b (Yv _ i)]
theorem M9{g:Type}(c:g->Nat)(lo:Nat):∀L:Z g,L.Pairwise (λa b=>c a<=c b)->(∀x∈L,lo<=c x)->L=L.filter (λx=>decide (c x=lo))++L.filter (λx=>decide (c x≠lo))
 |[],_,_=>rfl
 |x::L,i,h=>by
  obtain⟨k,j⟩:=List.pairwise_cons.mp i;have l:=M9 c lo L j λy d=>h y (Yv _ d);by_cases e:c x=lo;·rw[Wx (by simpa using e),Jv (by simpa using e),Vg,←l]
  ·have m:=h x Yj;have none_:∀y∈x::L,c y≠lo:=λy d=>by
    rcases Ys.mp d with rfl|d;·exact e
    ·have:=k y d;omega
   rw[WR.mpr (by simpa using none_),WI,J9.mpr λy d=>by simpa using none_ y d]
theorem M_{i:Type}(d:i->Nat):∀(n lo:Nat) (L:Z i),L.Pairwise (λa b=>d a<=d b)->(∀x∈L,lo<=d x/\d x<lo+n)->L=(List.range' lo n).flatMap λm=>L.filter λx=>decide (d x=m)
 |0,lo,L,_,h=>by
  cases L with
  |nil=>rfl
  |cons x r=>have:=h x Yj;omega
 |n+1,lo,L,j,h=>by
  have p:=M9 d lo L j λx g=>(h x g).1;have k:=M_ d n (lo+1) (L.filter λx=>decide (d x≠lo)) (j.sublist W6) λx g=>by
   obtain⟨m,e⟩:=Yy.mp g;have:=h x m;have:d x≠lo:=by simpa using e
   omega
  rw[Lx,LU];have o:((List.range' (lo+1) n).flatMap λm=>(L.filter λx=>decide (d x≠lo)).filter λx=>decide (d x=m))=(List.range' (lo+1) n).flatMap λm=>L.filter λx=>decide (d x=m):=by
   refine Hh λm l=>?_;have:=(List.mem_range'_1.mp l).1;rw[Wt];refine J1 λx _=>?_;by_cases c:d x=m
   ·have:d x≠lo:=QO
    simp[c];omega
   ·simp[c]
  rw[o] at k;rwa[←k]
def OC(c:b.length=ps.length)(a:j_ b is)(d:α):(is.map λi=>ps.getD i d).Perm ps:=by
 have:=a.1.map λi=>ps.getD i d;rw[c,range_getD] at this;exact this
def Zck{q:Type}{e:Z q}(c:q->Nat)(d:q){k:Z Nat}{N:Nat}(l:j_ (e.map λx=>(c x:Int)) k)(h:∀x∈e,1<=c x/\c x<N):(k.map λi=>e.getD i d)=(List.range' 1 (N-1)).flatMap λm=>e.filter λx=>decide (c x=m):=by
 have t:(e.map λx=>(c x:Int)).length=e.length:=Ya _;have n:=OC t l d;have p:∀i∈k,i<e.length:=λi g=>by have:=Wf.mp (l.1.subset g);omega
 have o:∀i,i<e.length->(e.map λx=>(c x:Int)).getD i 0=(c (e.getD i d):Int):=λi g=>by
  rw[Yd,Yi,Yb g,Yd,Yb g];rfl
 have y:(k.map λi=>e.getD i d).Pairwise (λa b=>c a<=c b):=by
  rw[W5];refine(Jn.mp l.2).imp λr=>?_;obtain⟨g,s,h⟩:=r;rw[o _ (p _ g),o _ (p _ s)] at h;omega
 rw[M_ c (N-1) 1 (k.map λi=>e.getD i d) y λx E=>by have:=h x (n.subset E);omega];refine Hh λm _=>?_;have z:=(range_getD e d).symm;have H:k.filter (λi=>decide (c (e.getD i d)=m))=(List.range e.length).filter λi=>decide (c (e.getD i d)=m):=by
  refine zx (λa b _ _ G F=>(eL (lg G) (lg F))) ?_ (List.pairwise_lt_range.sublist W6) ?_
  ·refine(Jn.mp (l.2.sublist W6)).imp λ{i j} r=>?_;obtain⟨g,s,h⟩:=r;obtain⟨D,v⟩:=Yy.mp g;obtain⟨A,u⟩:=Yy.mp s;rw[o _ (p _ D),o _ (p _ A)] at h;have v:=dm v;have u:=dm u;omega
  ·have:=l.1.filter λi=>decide (c (e.getD i d)=m);rw[t] at this;exact this
 rw[Wz];show(k.filter λi=>decide (c (e.getD i d)=m)).map _=_;rw[H];conv=>rhs;rw[z,Wz]
 rfl
def d9(a:dN)(x:af):Nat:=(a.map (·.1)).findIdx λy=>decide (y=x)
def yO(d:(a.map (·.1)).Nodup)(g:i<a.length):d9 a (ay a i)=i:=by
 unfold d9;have b:i<(a.map (·.1)).length:=by rwa[Ya]
 have e:ay a i=(a.map (·.1))[i]:=by
  rw[WQ,ay,Yd,Yb g];rfl
 rw[e];refine(List.findIdx_eq b).mpr ⟨c_ rfl,λj c=>?_⟩;refine eJ λz=>?_;exact Wc.mp d j i (my c b) b c z
def nm_pairwise{a:dN}(d:(a.map (·.1)).Nodup):(a.map (·.1)).Pairwise λx y=>d9 a x<d9 a y:=by
 rw[Wc];intro i j g e h;have at_:∀k (b:k<(a.map (·.1)).length),d9 a (a.map (·.1))[k]=k:=λk b=>by
  have c:k<a.length:=by rw[Ya] at b;exact b
  have:=yO d c
  rwa [show ay a k=(a.map (·.1))[k] by rw[WQ,ay,Yd,Yb c];rfl] at this
 rwa[at_ i g,at_ j e]
def NH(u:(e.map (·.1)).Nodup){ks:Z af}(v:ks.Nodup)(m:∀k∈ks,k∈e.map (·.1))(t:j_ (ks.map λx=>(d9 e x:Int)) is)(d:af):(is.map λi=>ks.getD i d)=(e.map (·.1)).filter λx=>decide (x∈ks):=by
 have H:(ks.map λx=>(d9 e x:Int)).length=ks.length:=Ya _;have n:=OC H t d;have D:∀i∈is,i<ks.length:=λi l=>by have:=Wf.mp (t.1.subset l);omega
 have G:((e.map (·.1)).filter λx=>decide (x∈ks)).Perm ks:=(List.perm_ext_iff_of_nodup (u.sublist W6) v).mpr λx=>by
  rw[Yy];exact⟨λh=>dm h.2,λh=>⟨m x h,c_ h⟩⟩
 refine zx (λa b _ _ Q P=>QO) ?_ ((nm_pairwise u).sublist W6) (n.trans G.symm);rw[W5];have y:=(t.1.nodup_iff.mpr UE);refine(Jn.mp (t.2.and y)).imp λ{i j} E=>?_;obtain⟨l,N,h,ne⟩:=E;have z:∀i,i<ks.length->(ks.map λx=>(d9 e x:Int)).getD i 0=(d9 e (ks.getD i d):Int):=λi l=>by
  rw[Yd,Yi,Yb l,Yd,Yb l];rfl
 have s:=D i l;have r:=D j N;rw[z i s,z j r] at h;rcases h with h|⟨h,_⟩;·omega
 ·have o:∀k,k<ks.length->ks.getD k d∈e.map (·.1):=λk L=>m _ (by rw[Yd,Yb L];exact Wg _);obtain⟨p,J,g⟩:=yN (o i s);obtain⟨q,I,A⟩:=yN (o j r);rw[g,A,yO u J,yO u I] at h;have F:p=q:=(km h)
  rw[F,←A] at g;exfalso;rw[Yd,Yb s,Yd,Yb r] at g;have g:=g;rcases Dj ne with c|c;·exact Wc.mp v i j s r c g
  ·exact Wc.mp v j i r s c g.symm
inductive NI(C CL CJ c:U)(a:Z V)(H:Hp)(Q:VK)(E:XK):Prop
 |mk (l:BL) (b:BS) (g d:Z Int) (z:af) (m:a=[.ref l.h,.str z]) (k:a_ H C CL CJ l g d b) (h:(b.ps.map (·.1)).Nodup) (j:z.length<=1000) (e:∀i,i<b.ps.length->z=ay b.ps i->Q (.int (i:Int)) H) (no:z∉b.ps.map (·.1)->XP H c "no person" E):NI C CL CJ c a H Q E
def GL(C CL CJ b:U):Sp:=λa H Q E=>NI C CL CJ b a H Q E
def ZdL(h:z∉b.map (·.1)):aF (jr b) (.inr z)=aI:=lK λm=>h (by
 obtain⟨p,c,e⟩:=Yh.mp m;obtain⟨⟨q,i⟩,a,rfl⟩:=Yh.mp c;exact Yh.mpr ⟨q,(KL (by rw[List.zipIdx_eq_zip_range'] at a;exact a)).1,Wl e⟩)
def ZO(F:aP K "place_of" "Hearth.place_of" Az f fd)(a:hJ K C)(x:Io P w K mg B "NoPerson" "no person" v):aH P w K mg B (nH P w) 4 f fd ji (GL C CL CJ v):=by
 refine F.K2 MI (λr H Q E h=>?_) (λy A e s H r Q E g h=>?_)
 ·obtain⟨l,b,q,p,z,rfl,_⟩:=h;rfl
 obtain⟨l,b,q,p,z,rfl,c,t,u,d,no⟩:=h;refine⟨_,(av (bw (mV (vD (bu g) (pv 1) (pF K 0)) QU) (aC (ZbN x g (by decide) rfl rfl BV (pv 1))) bI) (aC (aX (dD (bu g) (pF K 0) (pv 1) (λ_ _=>rfl))))),?_⟩;obtain⟨k,j⟩:=c.obj;by_cases m:z∈b.ps.map (·.1)
 ·obtain⟨i,o,rfl⟩:=yN m;have n:=vS t o;exact⟨_,rfl,_,rfl,l.h,C,k,_,_,rfl,j,a.cls,a.oo,rfl,l.pl,O _,rfl,dt c.places n,_,rfl,dh (bJ ⟨_,rfl,l.h,C,k,_,_,rfl,j,a.cls,a.oo,rfl,_,rfl,l.pl,_,rfl,dt c.places n,d i o rfl⟩)⟩
 ·exact⟨_,rfl,_,rfl,l.h,C,k,_,_,rfl,j,a.cls,a.oo,rfl,l.pl,aI,rfl,dt c.places (ZdL m),_,rfl,dI ⟨_,rfl,z,rfl,(d4 u (by decide)),no m⟩⟩
theorem ZdM(z k:Nat)(d:k<60):cQ z k≠"stranger":=λe=>by
 have e:(cQ z k).cps.toList[1]?=O 116:=by rw[e];decide+kernel
 rw[A0 z k d] at e;have c:∀(n:Nat) (r:Z Nat),n<61->(jR n++r)[0]?≠O 116:=λn r h=>by
  unfold jR;split;·intro z;injection z with z;omega
  ·intro z;injection z with z;omega
 by_cases b:z % 3=0
 ·rw[br b] at e;injection e with e;omega
 ·rw[bb b] at e;by_cases a:z % 3=1
  ·rw[br a,U6] at e;cases f:fW k z with
   |zero=>rw[f] at e;exact c ((k*17+z) % 61) [] (ik _ (by decide)) (by simpa using e)
   |succ m=>rw[f,C4] at e;injection e with e;omega
  ·rw[bb a,U6] at e;exact c ((k*17+z) % 61) _ (ik _ (by decide)) e
def Zhu:V->Hp->Int->Prop:=λx H i=>∃(t:U) (u:V),x=.ref t/\H t=O (.tup [u,.int i])
def xR:Pos:=match(gw u_).getLast? with
 |some (.Return (some (.Call _ _ [⟨_,.Lambda _ _ _ p,_⟩] _)) _)=>p
 |_=>⟨0,0,0,0⟩
def xS:af:=(PyProof.Rows.envOfC "forebears" (aL u_) 0 0 .none).qual++"<lambda>"
def cL(a:Z (Key×V))(x:af):Nat:=match aF a (.inr x) with
 |some (.int e)=>e.toNat
 |_=>0
def lX(b:Z af)(a:Z (Key×V)):Z (af×Nat):=(List.range' 1 (b.length-1)).flatMap λm=>(b.filter λx=>decide (cL a x=m)).map λx=>(x,m)
def A1(g:SD b a c)(d:dG b a e x):cL c x=e:=by
 unfold cL;rw[g.yes e x d];rfl
def ZdN(i:SD b a g)(h:1<=cL g x):dq b a x/\x≠a:=by
 by_cases c:∃e,dG b a e x
 ·obtain⟨e,d⟩:=c;refine⟨tD d.at_,λz=>?_⟩;rw[z,A1 i .zero] at h;omega
 ·unfold cL at h;rw[i.no x λe d=>c ⟨e,d⟩] at h;exact absurd h QD
def ZdO{g h:Z af}(i:SD b a d)(iff:∀x,x∈h↔dq b a x):lX g d=((List.range' 1 (g.length-1)).flatMap λm=>((g.filter λx=>decide (x∈h)).filter λx=>decide (x≠a)).filter λx=>decide (cL d x=m)).map λx=>(x,cL d x):=by
 unfold lX;rw[List.map_flatMap];refine Hh λm k=>?_;have o:=(List.mem_range'_1.mp k).1;have e:g.filter (λx=>decide (cL d x=m))=((g.filter λx=>decide (x∈h)).filter λx=>decide (x≠a)).filter λx=>decide (cL d x=m):=by
  rw[Wt,Wt];refine J1 λx _=>?_;by_cases c:cL d x=m
  ·obtain⟨n,l⟩:=ZdN i (x:=x) QO;simp[c,l,(iff x).mpr n]
  ·simp[c]
 exact e▸Wk λx j=>by rw[dm (Yy.mp j).2]
theorem AK(h:Paired (λy i=>R y (g i)) a is):Paired R a (is.map g):=by
 induction h with
 |nil=>exact .nil
 |cons e _ b=>exact .cons e b
theorem QL(h:Paired (λy x=>∃t,y=.ref t/\R t x) b xs):∃a:Z U,b=a.map V.ref/\Paired R a xs:=by
 induction h with
 |nil=>exact⟨[],rfl,.nil⟩
 |cons e _ c=>
  obtain⟨t,rfl,r⟩:=e;obtain⟨a,rfl,p⟩:=c;exact⟨t::a,rfl,.cons r p⟩
def getD_map(g:α->β)(a:Z α)(d:α)(e:β)(h:i<a.length):(a.map g).getD i e=g (a.getD i d):=by
 rw[Yd,Yi,Yb h,Yd,Yb h];rfl
inductive QM(C CL CJ i T:U)(h:Z V)(H:Hp)(Q:VK)(E:XK):Prop
 |mk (l:BL) (b:BS) (g e:Z Int) (z:af) (r:h=[.ref l.h,.str z]) (o:a_ H C CL CJ l g e b) (ok:cX g e b) (m:b.ps.length<=60) (n:z.length<=1000) (k:TabAt H T xR xS) (no:z∉b.ps.map (·.1)->XP H i "no person" E)
  (yes:z∈b.ps.map (·.1)->∀(p:U) (j:Z U) (c:Z (Key×V)) (d:Hp),SD b z c->aA T H d->TabAt d T xR xS->d p=O (.lst (j.map V.ref))->Paired (λa (q:af×Nat)=>d a=O (.tup [.str q.1,.int (q.2:Int)])) j (lX (b.ps.map (·.1)) c)->Q (.ref p) d):QM C CL CJ i T h H Q E
def R6(C CL CJ b T:U):Sp:=λa H Q E=>QM C CL CJ b T a H Q E
def Fw:aS ["hearth","name","steps","pairs"] l6 (aL u_):=.bg
theorem Zm(F:aP K "forebears" "forebears" u_ f fd)(tF:Cp K f c T)(Mj:oX mg B)(bn:∀f,Meth K C "place_of" f->t6 K C "place_of" f)(uX:Ir P w K mg B 4 "place_of" C ji (GL C CL CJ cN))(mN:cG P w K mg B 1 "place_of" C ji (Hg C CL CJ))(sD:HasFn P w K mg B 3 "steps_up" l6 (GK C CL CJ))(bl:Bl mg):aH P w K mg B (nH P w) 6 f fd l6 (R6 C CL CJ cN T):=by
 refine F.Zh8 Fw (λvs H Q E h=>?_) (λaU A outer s H vs Q E e_ X h=>?_)
 ·obtain⟨l,b,xs,ys,z,rfl,_⟩:=h;rfl
 obtain⟨l,b,xs,ys,z,rfl,ba,ok,pl,lz,tb,no,yes⟩:=h;obtain rfl:=tF.code aU e_;have hu:=X.oC;have Eu:=mN;have mN:=uX;refine⟨_,(av (cu (Ip mN X (by decide) BV (pv 0) (aa (pv 1) ai))) (av (fh (i:=2) Fw.nd rfl (fI rfl) (bq sD X (aa (pv 0) (aa (pv 1) ai)))) (av (F8 (i:=3) (x:="elder") (fr:=[("steps",2),("name",1)]) (cl:=[("steps",s.heap.objs.size+1+1),("name",s.heap.objs.size+1)]) rfl Fw.nd rfl (ew rfl) (.fD ⟨rfl,⟨rfl,trivial⟩⟩ ⟨⟨rfl,.inl rfl,.inl rfl,rfl⟩,⟨⟨rfl,.inl rfl,.inl rfl,rfl⟩,trivial⟩⟩) (eR (K:=K) rfl (O1 rfl Eu bn X (by decide) rfl bl.vJ vB (aa (pv 2) ai) (pv 0))) (λ_ _ _ _=>ot (cA rb (pv 0) (pv 2))) (λ_ _ _ _=>(eS (aa (pv 0) (aa (dD (bu X) (pv 1) (pv 0) (λ_ _=>rfl)) ai))))) (aC (aX (Zdf (y:="pair") (R:=Zhu) rfl tF Mj rfl (by exact⟨rfl,rfl,rfl,QK,rfl,QK,QK⟩) X (by decide) rfl bl.vJ vB (aa (pv 3) ai) (λ_ _ _ _ _=>.of_eq rfl) (λ_ _ _ _ _ _ _ _ ⟨t,u,e,h⟩=>⟨_,bO (iT K) (pv 0) aT,by subst e;exact⟨_,rfl,t,_,_,_,rfl,rfl,aK.of h,eA (j:=1) rfl,rfl,rfl⟩⟩))))))),?_⟩;obtain⟨dx,h1⟩:=ba.obj;refine⟨_,rfl,l.h,dx,_,rfl,h1,rfl,_,rfl,l,b,xs,ys,z,rfl,ba,ok.nm,lz,λi r ez=>?_,no⟩;have mz:z∈b.ps.map (·.1):=by rw[ez];exact vT r
 dsimp only;refine bT ?_;refine⟨_,rfl,_,rfl,l,b,xs,ys,z,rfl,ba,ok,mz,λsp m H1 g1 nsp iO sd lim=>?_⟩;obtain⟨ks,ek,rT,iff⟩:=sd.ks;have cj:=ba.same g1;obtain⟨rV,qy⟩:=cj.obj;have sub:∀k∈ks,k∈b.ps.map (·.1):=λk J=>oq ok mz ((iff k).mp J);have kl:ks.length<=b.ps.length:=oh ok rT sub;have ux:ks.map V.str=m.map λkv=>kV kv.1:=by
  have:=de (List.map kV) ek;rw[Y0,Y0] at this;exact this.symm
 refine bT ?_;refine⟨_,rfl,_,rfl,l.h,rV,_,ks.map V.str,ks.map (λx=>(d9 b.ps x:Int)),rfl,qy,rfl,⟨sp,rfl,.inr ⟨m,iO,ux⟩⟩,by rw[Ya,Ya],by rw[Ya];omega,λi v k I J=>?_,λW sb p H2 np g2 hp=>?_⟩
 ·rw[Yi] at I J;have r:i<ks.length:=by
   cases e:ks[i]? with
   |none=>rw[e] at I;cases I
   |some x=>exact(Yf.mp e).1
  rw[Yb r] at I J;have I:V.str ks[i]=v:=Yr I;have J:(d9 b.ps ks[i]:Int)=k:=Yr J;obtain⟨j,hj,ej⟩:=yN (sub _ (Wg r));rw[ej,yO ok.nm hj] at J;exact⟨l,b,xs,ys,j,by rw[←I,ej],cj,ok.nm,hj,J▸rfl,rfl⟩
 have cR:∀i∈W,i<ks.length:=λi r=>by have:=Wf.mp (sb.1.subset r);rwa [Ya] at this
 have JK:(W.map λi=>(ks.map V.str).getD i .aB)=((b.ps.map (·.1)).filter λx=>decide (x∈ks)).map V.str:=by
  rw[←NH ok.nm rT sub sb "",Y0];exact Wk λi r=>getD_map V.str ks "" .aB (cR i r)
 rw[JK] at hp;obtain⟨G,qH⟩:∃G,G=(b.ps.map (·.1)).filter λx=>decide (x∈ks):=⟨_,rfl⟩;rw[←qH] at hp;have lE:G.length<=60:=by rw[qH];refine Yz (Y3 _ _) ?_;rw[Ya];exact pl
 have mE:∀x∈G,x∈ks:=λx N=>by rw[qH] at N;exact dm (Yy.mp N).2
 have val:∀x∈ks,aF m (.inr x)=O (.int (cL m x:Int)):=λx N=>by
  obtain⟨e,d⟩:=yo ((iff x).mp N);rw[A1 sd d];exact sd.yes e x d
 have ZiB:=g2 _ _ iO;refine⟨p,rfl,⟨_,aj.of hp⟩,λD hD=>oa (K:=K) (aj.of hp) (by rw[Ya];omega) hD (λi=>decide (G.getD i ""≠z)) (λi y H'=>∃t,y=.ref t/\t≠D/\H' t=O (.tup [.str (G.getD i ""),.int (cL m (G.getD i ""):Int)])) (λi y Ha Hb bar ⟨t,e,n,h⟩=>⟨t,e,n,bar _ _ h n⟩) (λi v r H3 g3 qI Kt Kf kt kf=>?_) λus H3 g3 h3 pr=>?_⟩
 ·have dB:i<G.length:=by have:=(Yf.mp r).1;rwa [Ya] at this
  have ex:G.getD i ""=G[i]:=by rw[Yd,Yb dB];rfl
  have ev:v=.str (G.getD i ""):=by
   rw[Yi,Yb dB] at r;rw[ex];exact(Yr r).symm
  subst ev;have mx:G.getD i ""∈ks:=by rw[ex];exact mE _ (Wg dB)
  generalize G.getD i ""=x at mx kt kf;obtain⟨oD,qp⟩:=qI;refine⟨_,rfl,_,rfl,rfl,_,rfl,bR (λc=>?_) (λc=>kf _ ?_ (aq.refl _))⟩
  ·refine⟨_,rfl,_,rfl,_,rfl,sp,_,rfl,dt (g3 _ _ ZiB) (val x mx),by show 2<=sizeLine;decide,λt H4 nt g4 ht=>kt _ _ ?_ g4 ⟨t,rfl,(λe=>by rw[e,qp] at nt;cases nt),ht⟩⟩;refine c_ λe=>?_;rw[e,c_ rfl] at c;cases c
  ·refine eJ λne=>c ?_;rw[eJ λe=>ne (V.str.inj e)];rfl
 rw[Ya] at pr;obtain⟨Fs,eF⟩:∃Fs,Fs=G.filter λx=>decide (x≠z):=⟨_,rfl⟩;obtain⟨L,rfl,pt⟩:∃L:Z U,us=L.map V.ref/\Paired (λt x=>H3 t=O (.tup [.str x,.int (cL m x:Int)])) L Fs:=by
  refine QL ?_;have:Fs=((List.range G.length).filter λi=>decide (G.getD i ""≠z)).map λi=>G.getD i "":=by
   rw[eF];conv=>lhs;rw[←range_getD G "",Wz]
   rfl
  rw[this];exact AK (L2.Paired.aW pr λy i ⟨t,e,_,h⟩=>⟨t,e,h⟩)
 have lt:=dC pt;have lF:Fs.length<=60:=by rw[eF];exact Yz (Y3 _ _) lE
 have xT:aq H H3:=(g1.trans g2).trans g3;have WS:=tb.same xT;have nT:∀{b:U} {o:HO},H3 b=O o->(∀ps,o≠.dz ps)->b≠T:=λ{b o} e n z=>by
  rcases WS with t|⟨_,t,_⟩<;>(rw[z,t] at e;cases e;exact n _ rfl)
 refine⟨_,rfl,WS,λH4 bar tb4=>⟨L.map V.ref,Fs.map (λx=>(cL m x:Int)),⟨D,rfl,.inl (aj.of (bar _ _ h3 (nT h3 λ_=>nofun)))⟩,by rw[Ya,Ya];exact lt.symm,by rw[Ya];omega,λi v k I J=>?_,λW sb p5 H5 n5 g5 h5=>?_⟩⟩
 ·rw[Yi] at I J;have r:i<L.length:=by
   cases e:L[i]? with
   |none=>rw[e] at I;cases I
   |some x=>exact(Yf.mp e).1
  rw[Yb r] at I;have I:V.ref L[i]=v:=Yr I;obtain⟨x,ex,N⟩:=kF pt (Yb r);rw[ex] at J;have J:(cL m x:Int)=k:=Yr J;exact⟨L[i],.str x,I.symm,by rw[←J];exact bar _ _ N (nT N λ_=>nofun)⟩
 have cR:∀i∈W,i<L.length:=λi r=>by have:=Wf.mp (sb.1.subset r);rw[Ya] at this;omega
 have key:∀x∈Fs,1<=cL m x/\cL m x<(b.ps.map (·.1)).length:=λx N=>by
  rw[eF] at N;obtain⟨m1,m2⟩:=Yy.mp N;obtain⟨e,d⟩:=yo ((iff x).mp (mE x m1));rw[A1 sd d,Ya];refine⟨?_,lim e x d⟩;cases e with
  |zero=>exact absurd (show x=z from d.at_) (Tp m2)
  |succ=>exact xp _ _
 have sf:=Zck (cL m) "" sb key;refine yes mz p5 (W.map λi=>L.getD i 0) m H5 sd (λb o e n=>g5 _ _ (bar _ _ (xT _ _ e) n)) (tb4.same g5) ?_ ?_
 ·rw[h5,Y0]
  congr 2
  exact Wk λi r=>getD_map V.ref L 0 .aB (cR i r)
 ·rw[ZdO sd iff,←qH,←eF,←sf];have pm:Paired (λa x=>H5 a=O (.tup [.str x,.int (cL m x:Int)])) (W.map λi=>L.getD i 0) (W.map λi=>Fs.getD i ""):=FD λi r=>by
   have h6:=AI pt (cR i r) 0 "";exact g5 _ _ (bar _ _ h6 (nT h6 λ_=>nofun))
  exact AK (g:=λx=>(x,cL m x)) (R:=λa (q:af×Nat)=>H5 a=O (.tup [.str q.1,.int (q.2:Int)])) pm
def kO(a:Z af)(c b:Z (Key×V)):Z af:=a.filter λx=>(aF c (.inr x)).isSome&&(aF b (.inr x)).isSome
def iM(b a:Z (Key×V))(x:af):Int:=(cL b x:Int)+(cL a x:Int)
def jd(c:Z af)(b a:Z (Key×V)):Z af:=(kO c b a).filter λx=>decide (iM b a x=(((kO c b a).map (iM b a)).min?).getD 0)
def yC(g:SD b a c)(h:dq b a x):aF c (.inr x)=O (.int (cL c x:Int)):=by
 obtain⟨e,d⟩:=yo h;rw[A1 g d];exact g.yes e x d
def B_(i:SD b a g)(h:(aF g (.inr x)).isSome=ar):dq b a x:=by
 by_cases c:∃e,dG b a e x;·exact tD c.choose_spec.at_
 ·rw[i.no x λe d=>c ⟨e,d⟩] at h;cases h
def Ml(b a:Z (Key×V)):Key->V
 |.inr x=>.int (iM b a x)
 |.inl _=>.aB
theorem AS(h:Paired (λy i=>y=g i) us is):us=is.map g:=by
 induction h with
 |nil=>rfl
 |cons e _ a=>rw[e,a];rfl
inductive QN(C CL CJ i:U)(e:Z V)(H:Hp)(Q:VK)(E:XK):Prop
 |mk (l:BL) (b:BS) (d c:Z Int) (u v:af) (o:e=[.ref l.h,.str u,.str v]) (n:a_ H C CL CJ l d c b) (ok:cX d c b) (j:b.ps.length<=60) (m:u.length<=1000) (k:v.length<=1000) (no:(u∉b.ps.map (·.1)\/v∉b.ps.map (·.1))->XP H i "no person" E)
  (yes:u∈b.ps.map (·.1)->v∈b.ps.map (·.1)->∀(p:U) (h g:Z (Key×V)) (a:Hp),SD b u h->SD b v g->aq H a->a p=O (.lst ((jd (b.ps.map (·.1)) h g).map V.str))->Q (.ref p) a):QN C CL CJ i e H Q E
def R7(C CL CJ b:U):Sp:=λa H Q E=>QN C CL CJ b a H Q E
abbrev Kv:Z af:=["hearth","one","other"]
def ye:aS ["hearth","one","other","here","there","sums","least"] Kv (aL GD):=.bg
theorem Zau(F:aP K "nearest" "nearest" GD f fd)(bn:∀f,Meth K C "place_of" f->t6 K C "place_of" f)(uX:Ir P w K mg B 4 "place_of" C ji (GL C CL CJ cN))(mN:cG P w K mg B 1 "place_of" C ji (Hg C CL CJ))(sD:HasFn P w K mg B 3 "steps_up" l6 (GK C CL CJ))(bl:Bl mg):aH P w K mg B (nH P w) 6 f fd Kv (R7 C CL CJ cN):=by
 refine F.K2 ye (λvs H Q E h=>?_) (λaU A outer s H vs Q E G h=>?_)
 ·obtain⟨l,b,N,L,u,v,rfl,_⟩:=h;rfl
 obtain⟨l,b,N,L,u,v,rfl,ba,ok,pl,lu,lv,no,yes⟩:=h;have hu:=G.oC;have Eu:=mN;have mN:=uX;refine⟨_,(av (cu (Ip mN G (by decide) BV (pv 0) (aa (pv 1) ai))) (av (cu (Ip mN G (by decide) BV (pv 0) (aa (pv 2) ai))) (av (fh (i:=3) ye.nd rfl (fI rfl) (bq sD G (aa (pv 0) (aa (pv 1) ai)))) (av (fh (i:=4) ye.nd rfl (fI rfl) (bq sD G (aa (pv 0) (aa (pv 2) ai)))) (av (fh (i:=5) ye.nd rfl (fI rfl) (Qg (H0:=H) rfl (Og (xs:=["elder"]) (fr:=[("there",4),("here",3)]) (cl:=[("there",s.heap.objs.size+1+1),("here",s.heap.objs.size+1)]) rfl (.fD ⟨rfl,⟨rfl,trivial⟩⟩ ⟨⟨rfl,.inl rfl,.inl rfl,rfl⟩,⟨⟨rfl,.inl rfl,.inl rfl,rfl⟩,trivial⟩⟩) (λ_ _ _ _=>(jT (i:=0) (show(["elder","there","here"]:Z af).Nodup by decide+kernel) rfl (ew rfl))) (P7 (H0:=H) rfl (pv 3)) (λ_ _ _ _=>ot (mV (vX (bu G) (pv 0) (pv 1)) QU)) (λ_ _ _ _=>(pv 0)) (λ_ _ _ _=>(bc hV (dD (bu G) (pv 2) (pv 0) (λ_ _=>rfl)) (dD (bu G) (pv 1) (pv 0) (λ_ _=>rfl))))))) (av (bw (kK (AX (K:=K) rfl (A4 (pv 5) (λ_=>rfl)))) (aC (aX (eG ai))) bI) (av (fh (i:=6) ye.nd rfl (fI rfl) (gW (Ze rfl) rfl bl.IY Ih (aa (Zdh (pv 5)) ai))) (aC (aX (jz (x:="elder") (fr:=[("sums",5),("least",6)]) (cl:=[("sums",s.heap.objs.size+1+1+1),("least",s.heap.objs.size+1+1+1+1)]) rfl (.fD ⟨rfl,⟨rfl,trivial⟩⟩ ⟨⟨rfl,.inl rfl,.inl rfl,rfl⟩,⟨⟨rfl,.inl rfl,.inl rfl,rfl⟩,trivial⟩⟩) (eR (K:=K) rfl (O1 rfl Eu bn G (by decide) rfl bl.vJ vB (aa (pv 5) ai) (pv 0))) (λ_ _ _ _=>ot (cA dv (dD (bu G) (pv 1) (pv 0) (λ_ _=>rfl)) (pv 2))) (λ_ _ _ _=>(pv 0)))))))))))),?_⟩;obtain⟨dx,h1⟩:=ba.obj;refine⟨_,rfl,l.h,dx,_,rfl,h1,rfl,_,rfl,l,b,N,L,u,rfl,ba,ok.nm,lu,λi t eu=>?_,λm=>no (.inl m)⟩;dsimp only;refine⟨_,rfl,l.h,dx,_,rfl,h1,rfl,_,rfl,l,b,N,L,v,rfl,ba,ok.nm,lv,λj hj ev=>?_,λm=>no (.inr m)⟩;have mu:u∈b.ps.map (·.1):=by rw[eu];exact vT t
 have mv:v∈b.ps.map (·.1):=by rw[ev];exact vT hj
 dsimp only;refine bT ?_;refine⟨_,rfl,_,rfl,l,b,N,L,u,rfl,ba,ok,mu,λs1 d H1 g1 n1 Mm W _=>?_⟩;refine bT ?_;refine⟨_,rfl,_,rfl,l,b,N,L,v,rfl,ba.same g1,ok,mv,λs2 k2 H2 g2 n2 jn nK _=>?_⟩;have WT:s2≠s1:=λz=>by rw[z,Mm] at n2;cases n2
 obtain⟨X,ek,rT,iff⟩:=W.ks;have sub:∀k∈X,k∈b.ps.map (·.1):=λk o=>oq ok mu ((iff k).mp o);have kl:X.length<=b.ps.length:=oh ok rT sub;have k1l:d.length=X.length:=by have:=de List.length ek;rwa [Ya,Ya] at this
 have key:∀(i:Nat) (k:Key) (y:V),d[i]?=O (k,y)->∃x∈X,k=.inr x:=λi k y h=>by
  have:k∈X.map Sum.inr:=by rw[←ek];exact Yh.mpr ⟨_,Ym h,rfl⟩
  obtain⟨x,q,e⟩:=Yh.mp this;exact⟨x,q,e.symm⟩
 obtain⟨cs,D6⟩:∃cs,cs=X.filter λx=>(aF k2 (.inr x)).isSome:=⟨_,rfl⟩;have uT:cs.Nodup:=by rw[D6];exact rT.sublist W6
 have CH:∀k∈cs,k∈b.ps.map (·.1):=λk o=>by rw[D6] at o;exact sub k (Yy.mp o).1
 have lc:cs.length<=60:=Yz (oh ok uT CH) pl;have Eb:kO (b.ps.map (·.1)) d k2=(b.ps.map (·.1)).filter λx=>decide (x∈cs):=by
  unfold kO;refine J1 λx _=>?_;rw[Wu,Jb,fb,D6,Yy];exact⟨λh=>⟨(iff x).mpr (B_ W h.1),h.2⟩,λh=>⟨by rw[yC W ((iff x).mp h.1)];rfl,h.2⟩⟩
 refine bT ?_;refine⟨_,rfl,s1,d,rfl,g2 _ _ Mm,λod nf D nD=>Zaq (λk=>(aF k2 k).isSome) (Ml d k2) (by rw[ek];exact nN (S:=(·≠·)) Sum.inr (λ_ _ n z=>n (Wl z)) rT) QO nf (g2 _ _ Mm) nD (λi k y H' o kp fr R hR=>?_) (λi k y H' o kp fr pk R hR=>?_) λH3 pG g3 kB=>?_⟩;·exact⟨_,rfl,_,rfl,s2,_,rfl,eY.k (kp _ _ jn WT),_,rfl,hR⟩
 ·obtain⟨x,q,rfl⟩:=key i k y o;have v1:=yC W ((iff x).mp q);have v2:=yC nK (B_ nK pk);exact⟨_,rfl,_,rfl,s1,_,rfl,.inl ⟨d,.inr x,.inr ⟨od,fr⟩,rfl,v1.symm⟩,_,rfl,_,rfl,s2,_,rfl,.inl ⟨k2,.inr x,.inl (kp _ _ jn WT),rfl,v2.symm⟩,_,_,rfl,rfl,hR⟩
 obtain⟨I,WU⟩:∃I,I=(d.filter λp=>(aF k2 p.1).isSome).map λp=>(p.1,Ml d k2 p.1):=⟨_,rfl⟩;rw[←WU] at kB;have T:I=cs.map λx=>((.inr x:Key),V.int (iM d k2 x)):=by
  have e1:(d.filter λp=>(aF k2 p.1).isSome).map (·.1)=cs.map Sum.inr:=by
   have e0:=Wz (f:=λp:Key×V=>p.1) (p:=λk=>(aF k2 k).isSome) (l:=d);rw[ek,Wz] at e0;rw[D6];exact e0.symm
  have e2:=de (List.map λk=>(k,Ml d k2 k)) e1;rw[Y0,Y0] at e2;rw[WU];exact e2
 have xT:aq H H3:=(g1.trans g2).trans g3;have smN:∀x∈cs,aF I (.inr x)=O (.int (iM d k2 x)):=λx q=>yA (by
  rw[T,Y0];exact nN (S:=(·≠·)) Sum.inr (λ_ _ n z=>n (Wl z)) uT) (by rw[T];exact Yh.mpr ⟨x,q,rfl⟩)
 refine⟨_,rfl,_,.inr (.inr ⟨I,kB,rfl⟩),bR (λc=>?_) (λc=>bJ ?_)⟩
 ·refine⟨by show 0<=sizeLine;exact Yx _,λp H4 np g4 hp=>yes mu mv p d k2 H4 W nK (xT.trans g4) ?_⟩;have e0:cs=[]:=by
   cases cs with
   |nil=>rfl
   |cons x r=>rw[T] at c;cases c
  have Mn:kO (b.ps.map (·.1)) d k2=[]:=by
   rw[Eb,e0];exact WR.mpr (λx _=>QS)
  have:jd (b.ps.map (·.1)) d k2=[]:=by
   unfold jd;rw[Mn];rfl
  rw[this];exact hp
 have ny:cs≠[]:=λz=>by rw[T,z] at c;exact c rfl
 refine bT ?_;refine⟨_,rfl,D,I,rfl,kB,λr nr=>⟨r,D,I,cs.map (iM d k2),rfl,aM,?_,?_,λz=>ny (List.map_eq_nil_iff.mp z),λm mm ml=>?_⟩⟩
 ·rw[az (bW kB nr)];exact kB
 ·rw[T,Y0,Y0];rfl
 have g4:aq H3 (upd H3 r (zR r D)):=cY nr _;obtain⟨H4,eH4⟩:∃H4,H4=upd H3 r (zR r D):=⟨_,rfl⟩;rw[←eH4] at g4⊢;have DO:=ba.same (xT.trans g4);obtain⟨dx4,ho4⟩:=DO.obj;have T6:=g4 _ _ kB;have em:((kO (b.ps.map (·.1)) d k2).map (iM d k2)).min?=O m:=by
  have mem:∀x,x∈kO (b.ps.map (·.1)) d k2↔x∈cs:=λx=>by
   rw[Eb,Yy,fb];exact⟨λh=>h.2,λh=>⟨CH x h,h⟩⟩
  refine List.min?_eq_some_iff.mpr ⟨?_,λa ha=>?_⟩
  ·obtain⟨x,q,rfl⟩:=Yh.mp mm;exact Yh.mpr ⟨x,(mem x).mpr q,rfl⟩
  ·obtain⟨x,q,rfl⟩:=Yh.mp ha;exact ml _ (Yh.mpr ⟨x,(mem x).mp q,rfl⟩)
 refine⟨_,rfl,_,rfl,l.h,dx4,_,cs.map V.str,cs.map (λx=>(d9 b.ps x:Int)),rfl,ho4,rfl,⟨D,rfl,.inr ⟨I,T6,by rw[T,Y0];rfl⟩⟩,by rw[Ya,Ya],by rw[Ya];omega,λi v k J o=>?_,λis sb p H5 np g5 hp=>?_⟩
 ·rw[Yi] at J o;have t:i<cs.length:=by
   cases e:cs[i]? with
   |none=>rw[e] at J;cases J
   |some x=>exact(Yf.mp e).1
  rw[Yb t] at J o;have J:V.str cs[i]=v:=Yr J;have o:(d9 b.ps cs[i]:Int)=k:=Yr o;obtain⟨j,hj,ej⟩:=yN (CH _ (Wg t));rw[ej,yO ok.nm hj] at o;exact⟨l,b,N,L,j,by rw[←J,ej],DO,ok.nm,hj,o▸rfl,rfl⟩
 have cR:∀i∈is,i<cs.length:=λi t=>by have:=Wf.mp (sb.1.subset t);rwa [Ya] at this
 have JK:(is.map λi=>(cs.map V.str).getD i .aB)=(kO (b.ps.map (·.1)) d k2).map V.str:=by
  rw[Eb,←NH ok.nm uT CH sb "",Y0];exact Wk λi t=>getD_map V.str cs "" .aB (cR i t)
 rw[JK] at hp;obtain⟨g,qH⟩:∃g,g=kO (b.ps.map (·.1)) d k2:=⟨_,rfl⟩;rw[←qH] at hp;have lE:g.length<=60:=by rw[qH,Eb];refine Yz (Y3 _ _) ?_;rw[Ya];exact pl
 have mE:∀x∈g,x∈cs:=λx q=>by rw[qH,Eb] at q;exact dm (Yy.mp q).2
 refine⟨p,rfl,⟨_,aj.of hp⟩,λD2 qL=>oa (K:=K) (aj.of hp) (by rw[Ya];omega) qL (λi=>decide (iM d k2 (g.getD i "")=m)) (λi y _=>y=.str (g.getD i "")) (λ_ _ _ _ _ h=>h) (λi v t H6 g6 hD6 Kt Kf kt kf=>?_) λus H6 g6 h6 pr=>?_⟩
 ·have dB:i<g.length:=by have:=(Yf.mp t).1;rwa [Ya] at this
  have ex:g.getD i ""=g[i]:=by rw[Yd,Yb dB];rfl
  have ev:v=.str (g.getD i ""):=by
   rw[Yi,Yb dB] at t;rw[ex];exact(Yr t).symm
  subst ev;have mx:g.getD i ""∈cs:=by rw[ex];exact mE _ (Wg dB)
  generalize g.getD i ""=x at mx kt kf;refine⟨_,rfl,_,rfl,D,_,rfl,dt (g6 _ _ (g5 _ _ T6)) (smN x mx),_,rfl,rfl,_,rfl,bR (λc=>⟨_,rfl,kt _ _ ?_ (aq.refl _) rfl⟩) (λc=>kf _ ?_ (aq.refl _))⟩;·exact c_ (V.int.inj (dm c))
  ·exact eJ λe=>c (c_ (by rw[e]))
 rw[Ya] at pr;refine yes mu mv D2 d k2 H6 W nK (((xT.trans g4).trans g5).trans g6) ?_;rw[h6,AS pr];have:jd (b.ps.map (·.1)) d k2=((List.range g.length).filter λi=>decide (iM d k2 (g.getD i "")=m)).map λi=>g.getD i "":=by
  unfold jd;rw[em,←qH];conv=>lhs;rw[←range_getD g "",Wz]
  rfl
 rw[this,Y0];rfl
structure gc(b:BS)(a:af)(ks:Z af)(vs:Z Nat)(r:Nat):Prop where
 ln:vs.length=ks.length
 di:∀(i:Nat) (k:af) (v:Nat),ks[i]?=O k->vs[i]?=O v->dG b a v k
 mo:∀(i j v w:Nat),i<=j->vs[i]?=O v->vs[j]?=O w->v<=w
 up:∀(j v w:Nat),vs[j]?=O v->vs[r]?=O w->v<=w+1
 hd:ks[0]?=O a
 nd:ks.Nodup
 cl:∀i,i<r->∀k,ks[i]?=O k->∀p∈dJ b k,p∈ks
section
variable {b:BS}{a:af}{ks:Z af}{vs:Z Nat}{r:Nat}
theorem gc.start:gc b a [a] [0] 0:=by
 refine⟨rfl,λi k v c d=>?_,λi j v w _ c d=>?_,λj v w c d=>?_,rfl,Y4.mpr ⟨(λz=>nomatch z),Jf⟩,λi e=>absurd e (Ww _)⟩
 ·cases i with
  |zero=>cases c;cases d;exact .zero
  |succ=>cases c
 ·cases i with
  |zero=>
   cases c;exact Yx _
  |succ=>cases c
 ·cases j with
  |zero=>
   cases c;exact Yx _
  |succ=>cases c
def dG.ahead(d:dG b a (e+1) x):∃y,dG b a e y/\x∈dJ b y:=by
 obtain⟨y,h,m⟩:=d.at_;exact⟨y,⟨h,λg c=>by have:=d.low (g+1) ⟨y,c,m⟩;exact TC this⟩,m⟩
def gc.at_(q:gc b a ks vs r)(m:x∈ks)(d:dG b a e x):∃i,i<ks.length/\ks[i]?=O x/\vs[i]?=O e:=by
 obtain⟨i,c,k⟩:=Ji m;have h:ks[i]?=O x:=by rw[Yb c,k]
 have j:i<vs.length:=by rwa[q.ln]
 have g:=Yb j;have:=(q.di i x _ h g).uniq d;exact⟨i,c,h,by rw[g,this]⟩
theorem gc.below(q:gc b a ks vs r){d:Nat}(h:vs[r]?=O d):∀e,e<d->∀x,dG b a e x->∃i,i<r/\ks[i]?=O x
 |0,lt,x,g=>by
  have o:=g.at_;obtain⟨i,l,n,k⟩:=q.at_ (Ym q.hd) (dG.zero);refine⟨i,?_,by rwa[o]⟩;by_cases c:i<r;·exact c
  ·have:=q.mo r i d 0 (dg c) h k;omega
 |e+1,lt,x,g=>by
  obtain⟨y,s,m⟩:=g.ahead;obtain⟨i,l,p⟩:=q.below h e (Nat.lt_of_add_lt_add_right (xl _ lt)) y s;obtain⟨j,t,n,k⟩:=q.at_ (q.cl i l y p x m) g;refine⟨j,?_,n⟩;by_cases c:j<r;·exact c
  ·have:=q.mo r j d (e+1) (dg c) h k;omega
theorem gc.new(q:gc b a ks vs r)(t:ks[r]?=O k)(j:vs[r]?=O d)(s:p∈dJ b k)(h:p∉ks):dG b a (d+1) p:=by
 refine⟨⟨k,(q.di r k d t j).at_,s⟩,λe o=>?_⟩;by_cases c:d+1<=e;·exact c
 ·exfalso;obtain⟨n,g⟩:=QI e o;have A:=g.low e o;by_cases z:n<d
  ·obtain⟨i,_,l⟩:=q.below j n z p g;exact h (Ym l)
  ·cases n with
   |zero=>exact h (by rw[show p=a from g.at_];exact Ym q.hd)
   |succ v=>
    obtain⟨y,x,m⟩:=g.ahead;obtain⟨i,u,l⟩:=q.below j v QO y x;exact h (q.cl i u y l p m)
theorem gc.push(q:gc b a ks vs r)(x:ks[r]?=O k)(n:vs[r]?=O d)(J:p∈dJ b k)(A:p∉ks):gc b a (ks++[p]) (vs++[d+1]) r:=by
 have T:=q.new x n J A;have s:=q.ln;have g:∀{i v:Nat},(vs++[d+1])[i]?=O v->(vs[i]?=O v)\/(i=vs.length/\v=d+1):=λ{i v} h=>by
  by_cases c:i<vs.length;·rw[Y9 c] at h;exact .inl h
  ·rw[Jj (dg c)] at h;cases e:i-vs.length with
   |zero=>rw[e] at h;cases h;exact .inr ⟨QO,rfl⟩
   |succ=>rw[e] at h;cases h
 have F:=(Yf.mp n).1;refine⟨by rw[Yq,Yq,s];rfl,λi t v l m=>?_,λi j v w Q l m=>?_,λj v w l m=>?_,by rw[Y9 (List.length_pos_iff.mpr λz=>by rw[z] at x;cases x)];exact q.hd,?_,λi P t l I N=>?_⟩
 ·rcases g m with h|⟨D,o⟩
  ·have:=(Yf.mp h).1;rw[Y9 (eU this (gR s))] at l;exact q.di i t v l h
  ·rw[D,s,Jj (Yg _),Nat.sub_self] at l;cases l;rwa[o]
 ·rcases g l with h|⟨D,o⟩
  ·rcases g m with y|⟨H,E⟩;·exact q.mo i j v w Q h y
   ·exact E▸q.up i v d h n
  ·rcases g m with y|⟨H,E⟩
   ·have:=(Yf.mp y).1;omega
   ·omega
 ·rw[Y9 F,n] at m;cases m;rcases g l with h|⟨_,o⟩;·exact q.up j v d h n
  ·exact gR o
 ·refine Wp.mpr ⟨q.nd,QS,λu R w L z=>?_⟩;have:w=p:=by simpa using L
  exact A (by rwa[←this,←z])
 ·have G:i<ks.length:=QO
  rw[Y9 G] at l;exact Yk _ (q.cl i P t l I N)
def gc.next(q:gc b a ks vs r)(g:ks[r]?=O k)(o:∀p∈dJ b k,p∈ks):gc b a ks vs (r+1):=by
 refine⟨q.ln,q.di,q.mo,λj v w d n=>?_,q.hd,q.nd,λi m l d=>?_⟩
 ·have h:r<vs.length:=by exact q.ln▸(Yf.mp g).1
  have e:=Yb h;have:=q.up j v _ d e;have:=q.mo r (r+1) _ w (qg _ _) e n;omega
 ·by_cases c:i=r
  ·rw[c,g] at d;cases d;exact o
  ·exact q.cl i (dy (dR m) c) l d
theorem gc.all(q:gc b a ks vs r)(j:ks.length<=r)(z:af):z∈ks↔dq b a z:=by
 refine⟨λh=>?_,λh=>?_⟩
 ·obtain⟨i,c,e⟩:=Ji h;have g:i<vs.length:=by rwa[q.ln]
  exact tD (q.di i z _ (by rw[Yb c,e]) (Yb g)).at_
 ·induction h with
  |refl=>exact Ym q.hd
  |step _ m d=>
   obtain⟨i,c,e⟩:=Ji d;exact q.cl i (eU c j) _ (by rw[Yb c,e]) _ m
end
def qK(b:Z af)(a:Z Nat):Z (Key×V):=(b.zip a).map λp=>(.inr p.1,.int (p.2:Int))
def Bu(h:b.length=a.length):(qK a b).map (·.1)=a.map Sum.inr:=by
 unfold qK;rw[Y0];have:((a.zip b).map (·.1)).map Sum.inr=a.map (Sum.inr (α:=Int)):=by rw[List.map_fst_zip (gR (kh h))]
 rw[Y0] at this;exact this
def IL(q:gc b a d c r){i:Nat}(h:d[i]?=O x)(g:c[i]?=O e):aF (qK d c) (.inr x)=O (.int (e:Int)):=by
 refine yA (by rw[Bu q.ln];exact nN (S:=(·≠·)) Sum.inr (λ_ _ n z=>n (Wl z)) q.nd) (Yh.mpr ⟨(x,e),?_,rfl⟩);refine Ym (i:=i) ?_;rw[List.getElem?_zip_eq_some];exact⟨h,g⟩
def gc.sd(q:gc b a c h r)(g:c.length<=r):SD b a (qK c h):=by
 refine⟨λe x d=>?_,λx no=>?_,c,Bu q.ln,q.nd,q.all g⟩
 ·obtain⟨i,_,l,k⟩:=q.at_ ((q.all g x).mpr (tD d.at_)) d;exact IL q l k
 ·refine lK λm=>?_;rw[Bu q.ln] at m;obtain⟨y,j,e⟩:=Yh.mp m;obtain⟨d,hd⟩:=yo ((q.all g y).mp j);rw[Wl e] at hd;exact no d hd
inductive QP(j:Z V)(H:Hp)(Q:VK)(E:XK):Prop
 |mk (g:U) (i h:Z Int) (b:BS) (a:af) (m:j=[.ref g,.str a]) (l:FL H b.ps g b.F) (ok:cX i h b) (par:∀c∈b.F,bC c.k=ar) (k:a∈b.ps.map (·.1)) (q:∀(p:U) (d:Z (Key×V)) (e:Hp),aq H e->H p=aI->e p=O (.dK d)->SD b a d->d.length<=64->Q (.ref p) e)
def muQ(m:Nat):St->Hp->Nat:=λa _=>match List.getD (α:=bt V) a 4 aI with|some (V.int z)=>m+1-z.toNat|_=>0
inductive QW(H:Hp)(b:BS)(a:af)(m h i:U)(j:St)(d:Hp):Prop
 |mk (c:Z af) (l:Z Nat) (r:Nat) (s p o n:bt V) (g:aq H d) (hd:d h=O (.dK (qK c l))) (u:d i=O (.lst (c.map V.str))) (q:gc b a c l r) (t:r<=c.length) (sd:∀k∈c,dq b a k) (e:j=[O (.ref m),O (.str a),O (.ref h),O (.ref i),O (.int (r:Int)),s,p,o,n]):QW H b a m h i j d
inductive QF(H:Hp)(b:BS)(a:af)(p i l:U)(r:Nat)(o:Z af)(k:af)(j:Nat)(m:St)(h:Hp):Prop
 |mk (d s:Z af) (n:Z Nat) (x v u t:bt V) (g:aq H h) (hd:h i=O (.dK (qK d n))) (z:h l=O (.lst (d.map V.str))) (q:gc b a d n r) (A:d=o++s) (sd:∀k∈d,dq b a k) (D:∀c∈b.F.take j,ay b.ps c.one=k->∀y,kV (cJ b.ps c)=.str y->y∈d) (e:m=[O (.ref p),O (.str a),O (.ref i),O (.ref l),O (.int (r:Int)),x,v,u,t]):QF H b a p i l r o k j m h
def Ze8(h:a.length=b.length)(p:af)(d:Nat):qK b a++[(.inr p,.int (d:Int))]=qK (b++[p]) (a++[d]):=by
 unfold qK;rw[List.zip_append (kh h),Yt];rfl
def QQ(h:b.length=a.length)(c:x∉a):aF (qK a b) (.inr x)=aI:=lK λm=>by
 rw[Bu h] at m;obtain⟨y,d,e⟩:=Yh.mp m;exact c (by rwa[←Wl e])
def pJ:aS ["_law_facts","_law_name_here","_law_steps_here","_law_row","_law_at","_law_number","_law_kind","_law_one","_law_other"] wH (aL FN):=.bg
def ZP(F:aP K "_law_steps" "_law_steps" FN f fd)(bl:Bl mg):aH P w K mg B aO 1 f fd wH QP:=by
 refine F.o pJ @λaU A outer vs Q E s H hr h=>?_;obtain⟨fa,xs,ys,b,a,rfl,z_,ok,par,ma,q⟩:=h;have hu:=hr.oC;refine⟨_,(av (cF 2 pJ.nd (Hv (pP (pv 1) aT Hu) rfl rfl (λz=>nomatch z) (U_ rfl))) (av (cF 3 pJ.nd (eG (aa (pv 1) ai))) (av (cF 4 pJ.nd aT) (av (GS iP (cA wb (pv 4) (fE K bl (pv 3))) (av (jb iP rfl (eR (K:=K) rfl (pv 0)) (mU (K:=K) (n:=4) rfl rfl (cS (cz 5 pJ.nd) (cS (cz 6 pJ.nd) (cS (cz 7 pJ.nd) (cS (cz 8 pJ.nd) mT))))) (aC (bw (PW.pt (pw_and (cA dv (pv 7) (bO (iL K) (pv 3) (pv 4))) (pw_and1 (mV (vD (bu hr) (pv 8) (pv 2)) QU)))) (av (oi (bu hr) (pv 2) (pv 8) (bc hV (dD (bu hr) (pv 2) (pv 7) (λ_ _=>rfl)) aT)) (aC (cu (sW (K:=K) rfl (rf k9 lG lr vm (pv 3) (aa (pv 8) ai)))))) bI))) (aC (Q0 (i:=4) pJ.nd rfl (ew rfl) aT Q3)))) (aC (aX (pv 2))))))),?_⟩;have sz:(10000:Nat)<=sizeLine:=by rw[c7];decide
 obtain⟨as,eQ,al,gt⟩:=z_.get;have m64:=ok.m;refine bT ?_;refine λdc uT=>⟨_,rfl,aM,[(.inr a,.int 0)],rfl,(by show 1<=15;decide),?_⟩;obtain⟨H1,qG⟩:∃H1,H1=upd (upd H dc (.dK ([]:Z (Key×V)))) dc (.dK (q5 [] [(.inr a,.int 0)])):=⟨_,rfl⟩;rw[←qG];have g1:aq H H1:=λc o e=>by
  have nc:=bW e uT;rw[qG,az nc,az nc];exact e
 have C3:H1 dc=O (.dK (qK [a] [0])):=by rw[qG,aM];rfl
 refine bT ?_;refine⟨_,rfl,by show 1<=sizeLine;decide,λJ H2 Mf g2 Mg=>?_⟩;have nrH:H J=aI:=g1.free Mf;refine setC ?_;refine jV (λI H6=>∃u:Z (Key×V),aq H H6/\H6 dc=O (.dK u)/\SD b a u/\u.length<=64/\∃o3 o4 o5 o6 o7 o8:bt V,I=[O (.ref fa),O (.str a),O (.ref dc),o3,o4,o5,o6,o7,o8]) (λDD nQ=>?_) ?_
 ·refine GU (QW H b a fa dc J) (muQ b.ps.length) ⟨[a],[0],0,aI,aI,aI,aI,g1.trans g2,g2 _ _ C3,Mg,.start,Yx _,λk G=>by rw[Yl.mp G];exact .refl,rfl⟩ ?_ ?_
  ·rintro I H6 ⟨D,vs,r,o5,o6,o7,o8,g6,D7,r9,qr,rl,sd,rfl⟩;have kl:(D.map V.str).length=D.length:=Ya _;have gl:D.length<=b.ps.length:=oh ok qr.nd λk G=>oq ok ma (sd k G);refine⟨_,rfl,_,rfl,J,_,rfl,.inl (aj.of r9),_,_,rfl,rfl,_,rfl,?_⟩;rw[kl];refine bR (λc=>?_) (λc=>?_)
   ·have uR:r<D.length:=by have:=dm c;omega
    obtain⟨k,ek⟩:∃k,D[r]?=O k:=⟨_,Yb uR⟩;refine jV (QF H b a fa dc J r D k b.F.length) (λDQ rY=>?_) ?_
    ·refine⟨_,rfl,fa,rfl,⟨_,aj.of (g6 _ _ eQ)⟩,mS (K:=K) (a:=fa) (xs:=as.map V.ref) (QF H b a fa dc J r D k) ⟨D,[],vs,o5,o6,o7,o8,g6,D7,r9,qr,by rw[Wh],sd,λc hc=>(nomatch hc),rfl⟩ (λj I H8 _ ⟨_,_,_,_,_,_,_,g,_,_,_,_,_,_,_⟩=>aj.of (g _ _ eQ)) ?_ ?_⟩
     ·rintro j v I H8 hj ⟨cO,tl,t,p5,p6,p7,p8,g8,Ar,X,l,e8,T,ju,rfl⟩;obtain⟨c0,c,z,rfl,qD,Mh,hc⟩:=gt H8 j v g8 hj;have mc:c∈b.F:=Ym qD;have c1:=par c mc;have ns:c.k≠cV:=λz=>by rw[z] at c1;exact absurd c1 QK
      have eo:kV (cJ b.ps c)=.str (ay b.ps c.bh.toNat):=by rw[kH ns];rfl
      obtain⟨p,ep⟩:∃p,p=ay b.ps c.bh.toNat:=⟨_,rfl⟩;rw[←ep] at eo;rw[eo] at hc;have L:cO[r]?=O k:=by rw[e8,Y9 uR];exact ek
      have rl8:r<t.length:=by rw[l.ln];exact(Yf.mp L).1
      have WV:=Yb rl8;have gl8:cO.length<=b.ps.length:=oh ok l.nd λk G=>oq ok ma (T k G);have WW:J≠dc:=λz=>by rw[z,Ar] at X;cases X
      refine⟨c0,_,rfl,aK.of hc,rfl,_,_,rfl,bP ⟨_,_,rfl,bP ⟨_,_,rfl,bP ⟨_,_,rfl,bP ⟨rfl,?_⟩⟩⟩⟩⟩;refine(Bt.and (Vt.test (Vt.eq (x:=.str (ay b.ps c.one)) (y:=.str k) (Vt.var rfl) (λHB gB kk G=>⟨_,rfl,_,rfl,J,_,_,_,rfl,rfl,aj.of (gB _ _ X),eA (by rw[Yi,L];rfl),G _ (aq.refl _)⟩) rfl)) (b:=!(aF (qK cO t) (.inr p)).isSome) λHB _ gB kk G=>⟨_,rfl,_,rfl,dc,_,rfl,dt (gB _ _ Ar) rfl,_,rfl,G _ (aq.refl _)⟩) _ λH9 g9=>?_;rw[jj];have Ap:∀fV:Z af,(∀x∈cO,x∈fV)->(ay b.ps c.one=k->p∈fV)->∀c'∈b.F.take (j+1),ay b.ps c'.one=k->∀y,kV (cJ b.ps c')=.str y->y∈fV:=λfV sub hh c' W R y h3=>by
       rw[Mh] at W;rcases Yu.mp W with W|W;·exact sub _ (ju c' W R y h3)
       ·rw[Yl.mp W] at R h3;rw[eo] at h3;rw[←V.str.inj h3];exact hh R
      have Mo:=g9 _ _ Ar;have Aq:=g9 _ _ X;refine bR (λcc=>?_) (λcc=>bJ ?_)
      ·rw[Jb,fb] at cc;obtain⟨c2,c3⟩:=cc;have no:p∉cO:=λm=>by
        obtain⟨i,hi,ei⟩:=Ji m;rw[IL l (i:=i) (by rw[Yb hi,ei]) (Yb (by rw[l.ln];exact hi))] at c3;cases c3
       have mp:p∈dJ b k:=(Be ok).mpr ⟨c,mc,c1,c2,eo⟩;have vo:aF (qK cO t) (.inr (ay b.ps c.one))=O (.int (t[r]:Int)):=by rw[c2];exact IL l L WV
       have ql:(qK cO t).length=cO.length:=by unfold qK;rw[Ya,Wy];have:=l.ln;omega
       refine⟨_,rfl,_,rfl,dc,_,rfl,dt Mo vo,_,_,rfl,rfl,_,rfl,_,rfl,dc,_,.inr p,rfl,Mo,rfl,by rw[ql];omega,λHD bD eD=>?_⟩;have e1:(t[r]:Int)+1=((t[r]+1:Nat):Int):=rfl
       rw[kG _ (QQ l.ln no)] at eD;try dsimp only at eD
       rw[e1,Ze8 l.ln] at eD;dsimp only;have WX:=bD _ _ Aq WW;refine⟨_,rfl,.inl ⟨rfl,_,aj.of WX⟩,_,rfl,J,_,_,rfl,rfl,WX,by rw[Ya];omega,λHE bE eE=>?_⟩;refine⟨cO++[p],tl++[p],t++[t[r]+1],_,_,_,_,λd o e=>bE _ _ (bD _ _ (g9 _ _ (g8 _ _ e)) (bW e uT)) (bW e nrH),bE _ _ eD (d6 WW),by rw[eE,Yt];rfl,l.push L WV mp no,by rw[e8,Jr],λx N=>?_,Ap _ (λx N=>Yk _ N) λ_=>Ye _ Yj,rfl⟩;rcases Yu.mp N with N|N;·exact T x N
       ·rw[Yl.mp N];exact .step (T k (Ym L)) mp
      ·refine⟨cO,tl,t,_,_,_,_,g8.trans g9,Mo,Aq,l,e8,T,Ap _ (λ_ h=>h) λR=>?_,rfl⟩;rw[c_ R,Aj] at cc;by_cases m:p∈cO;·exact m
       ·exact absurd (by rw[QQ l.ln m];rfl) cc
     ·rintro I H8 h8;rw[Ya,al] at h8;exact rY _ _ h8
    ·rintro I H8 ⟨cO,tl,t,p5,p6,p7,p8,g8,Ar,X,l,e8,T,ju,rfl⟩;rw[Wn] at ju;have L:cO[r]?=O k:=by rw[e8,Y9 uR];exact ek
     refine⟨_,rfl,_,_,rfl,rfl,?_⟩;refine⟨⟨cO,t,r+1,p5,p6,p7,p8,g8,Ar,X,l.next L λp hp=>?_,by rw[e8,Yq];exact gb (xl _ uR),T,rfl⟩,?_⟩
     ·obtain⟨c,mc,h1,R,h3⟩:=(Be ok).mp hp;exact ju c mc R p h3
     ·show b.ps.length+1-(r+1)<b.ps.length+1-r;omega
   ·have re:¬((r:Int)<(D.length:Int)):=λz=>c (c_ z);have ql:(qK D vs).length=D.length:=by unfold qK;rw[Ya,Wy];have:=qr.ln;omega
    exact nQ _ _ ⟨_,g6,D7,qr.sd QO,QO,_,_,_,_,_,_,rfl⟩
  ·rintro I H6 Q1 Q2 mo ⟨v1,w1,v2,w2,v3,v4,w3,w4,v5,v6,w5,w6,v7,w7,h⟩;exact⟨v1,w1,v2,w2,v3,v4,w3,w4,v5,v6,w5,w6,v7,w7,mo _ _ h⟩
 rintro I H6 ⟨u,g6,D7,sd,kl,o3,o4,o5,o6,o7,o8,rfl⟩;exact⟨_,rfl,q dc u H6 g6 uT D7 sd kl⟩
def Kw(b:Z af)(a:Z (Key×V)):Prop:=∀x∈b,(aF a (.inr x)).isSome=ar->aF a (.inr x)=O (.int (cL a x:Int))
def SD.num(c:SD b a kvs)(d:Z af):Kw d kvs:=λ_ _ h=>yC c (B_ c h)
inductive SV(i:Z V)(H:Hp)(Q:VK)(E:XK):Prop
 |mk (g e h:U) (c b:Z (Key×V)) (a:Z af) (r:i=[.ref g,.ref e,.ref h]) (o:H g=O (.dK c)) (n:H e=O (.dK b)) (m:H h=O (.lst (a.map V.str))) (l:a.length<=60) (k:Kw a c) (j:Kw a b) (q:∀(p:U) (d:Hp),aq H d->d p=O (.lst ((jd a c b).map V.str))->Q (.ref p) d)
def ZdP{K:ae}{a:St}{Q:VK}{H:Hp}{p:U}{ns:Z Int}(d:aj K H p (ns.map V.int))(h:∀m,m=(ns.min?).getD 0->Q (.int m) H):B5 K (tC (.int 0)) a Q (.ref p) H:=
 ⟨p,ns,0,rfl,rfl,d,λe=>h 0 (by rw[e];rfl),λm b c=>h m (by rw[List.min?_eq_some_iff.mpr ⟨b,c⟩];rfl)⟩
abbrev Kx:Z af:=["_law_ones","_law_others","_law_names"]
def Fe:aS ["_law_ones","_law_others","_law_names","_law_common_here","_law_least"] Kx (aL Fl):=.bg
theorem Zn(F:aP K "_law_common" "_law_common" Fl f fd)(bl:Bl mg):aH P w K mg B aO 1 f fd Kx SV:=by
 refine F.o Fe λs H o h=>?_;obtain⟨L,J,nl,g,k2,r,rfl,T,R,hn,ln,n1,n2,q⟩:=h;have hu:=o.oC;refine⟨_,(av (F8 (i:=3) (x:="_law_name_here") (fr:=[("_law_others",1),("_law_ones",0)]) (cl:=[("_law_others",s.heap.objs.size+1+1),("_law_ones",s.heap.objs.size+1)]) rfl Fe.nd rfl (ew rfl) (.fD ⟨rfl,⟨rfl,trivial⟩⟩ ⟨⟨rfl,.inl rfl,.inl rfl,rfl⟩,⟨⟨rfl,.inl rfl,.inl rfl,rfl⟩,trivial⟩⟩) (eR (K:=K) rfl (pv 2)) (λ_ _ _ _=>ot (PW.pt (pw_and (mV (vX (bu o) (pv 0) (pv 2)) QU) (pw_and1 (mV (vX (bu o) (pv 0) (pv 1)) QU))))) (λ_ _ _ _=>(pv 0))) (av (fh (i:=4) Fe.nd rfl (fI rfl) (ZeG rfl rfl bl.IY Ih (aa (jz (x:="_law_name_here") (fr:=[("_law_others",1),("_law_ones",0)]) (cl:=[("_law_others",s.heap.objs.size+1+1),("_law_ones",s.heap.objs.size+1)]) rfl (.fD ⟨rfl,⟨rfl,trivial⟩⟩ ⟨⟨rfl,.inl rfl,.inl rfl,rfl⟩,⟨⟨rfl,.inl rfl,.inl rfl,rfl⟩,trivial⟩⟩) (eR (K:=K) rfl (pv 3)) (λ_ _ _ _=>lN) (λ_ _ _ _=>(bc hV (dD (bu o) (pv 2) (pv 0) (λ_ _=>rfl)) (dD (bu o) (pv 1) (pv 0) (λ_ _=>rfl))))) ai) aT)) (aC (aX (jz (x:="_law_name_here") (fr:=[("_law_others",1),("_law_ones",0),("_law_least",4)]) (cl:=[("_law_others",s.heap.objs.size+1+1),("_law_ones",s.heap.objs.size+1),("_law_least",s.heap.objs.size+1+1+1)]) rfl (.fD ⟨rfl,⟨rfl,⟨rfl,trivial⟩⟩⟩ ⟨⟨rfl,.inl rfl,.inl rfl,rfl⟩,⟨⟨rfl,.inl rfl,.inl rfl,rfl⟩,⟨⟨rfl,.inl rfl,.inl rfl,rfl⟩,trivial⟩⟩⟩) (eR (K:=K) rfl (pv 3)) (λ_ _ _ _=>ot (cA dv (bc hV (dD (bu o) (pv 2) (pv 0) (λ_ _=>rfl)) (dD (bu o) (pv 1) (pv 0) (λ_ _=>rfl))) (pv 3))) (λ_ _ _ _=>(pv 0))))))),?_⟩;have IM:∀{xs:Z af} {i:Nat} {v:V},(xs.map V.str)[i]?=O v->i<xs.length/\v=.str (xs.getD i "")/\xs.getD i ""∈xs:=λ{xs i v} h=>by
  rw[Yi] at h;have j:i<xs.length:=by
   cases e:xs[i]? with
   |none=>rw[e] at h;cases h
   |some x=>exact(Yf.mp e).1
  rw[Yb j] at h;have ex:xs.getD i ""=xs[i]:=by rw[Yd,Yb j];rfl
  exact⟨j,by rw[ex];exact(Yr h).symm,by rw[ex];exact Wg j⟩
 have oN:∀(xs:Z af) (p:af->bA),((List.range xs.length).filter λi=>p (xs.getD i "")).map (λi=>V.str (xs.getD i ""))=(xs.filter p).map V.str:=λxs p=>by
  conv=>rhs;rw[←range_getD xs "",Wz,Y0]
  rfl
 refine bT ?_;refine⟨_,rfl,nl,rfl,⟨_,aj.of hn⟩,λD hD=>oa (K:=K) (aj.of hn) (by rw[Ya];omega) hD (λi=>(aF g (.inr (r.getD i ""))).isSome&&(aF k2 (.inr (r.getD i ""))).isSome) (λi y _=>y=.str (r.getD i "")) (λ_ _ _ _ _ h=>h) (λi v j H3 t qI Kt Kf k n=>?_) λus H3 t Q pr=>?_⟩
 ·obtain⟨_,rfl,_⟩:=IM j;generalize r.getD i ""=x at k n;refine(Bt.and (a:=(aF g (.inr x)).isSome) (b:=(aF k2 (.inr x)).isSome) (λkk N=>⟨_,rfl,_,rfl,L,_,rfl,dt (t _ _ T) rfl,_,rfl,N _ (aq.refl _)⟩) λH' _ g' kk N=>⟨_,rfl,_,rfl,J,_,rfl,dt (g' _ _ (t _ _ R)) rfl,_,rfl,N _ (aq.refl _)⟩) _ λH9 g9=>bR (λc=>⟨_,rfl,k _ _ c g9 rfl⟩) (λc=>n _ (W4.mpr c) g9)
 rw[Ya] at pr;have G:=AS pr;rw[oN r λx=>(aF g (.inr x)).isSome&&(aF k2 (.inr x)).isSome] at G;obtain⟨d,A⟩:∃d,d=kO r g k2:=⟨_,rfl⟩;have G:us=d.map V.str:=by rw[A];exact G
 subst G;have lc:d.length<=60:=by rw[A];exact Yz (Y3 _ _) ln
 have v1:∀x∈d,aF g (.inr x)=O (.int (cL g x:Int)):=λx u=>by
  rw[A] at u;obtain⟨m,e⟩:=Yy.mp u;exact n1 x m (Jd.mp e).1
 have v2:∀x∈d,aF k2 (.inr x)=O (.int (cL k2 x:Int)):=λx u=>by
  rw[A] at u;obtain⟨m,e⟩:=Yy.mp u;exact n2 x m (Jd.mp e).2
 refine bT ?_;refine⟨_,rfl,D,rfl,⟨_,aj.of Q⟩,λD2 qL=>oa (K:=K) (aj.of Q) (by rw[Ya];omega) qL (λ_=>ar) (λi y _=>y=.int (iM g k2 (d.getD i ""))) (λ_ _ _ _ _ h=>h) (λi v j H4 z WY Kt Kf k n=>?_) λI H4 z h4 WZ=>?_⟩
 ·obtain⟨_,rfl,l⟩:=IM j;generalize d.getD i ""=x at l k n;exact lY (dI ⟨_,rfl,_,rfl,L,_,rfl,dt (z _ _ (t _ _ T)) (v1 x l),_,rfl,_,rfl,J,_,rfl,dt (z _ _ (t _ _ R)) (v2 x l),_,_,rfl,rfl,k _ _ rfl (aq.refl _) rfl⟩)
 rw[Ya] at WZ;have W:=AS WZ;have W:I=(d.map (iM g k2)).map V.int:=by
  rw[W,J9.mpr (λ_ _=>rfl)];conv=>rhs;rw[←range_getD d "",Y0,Y0]
  rfl
 subst W;have X:=t.trans z;have W_:=z _ _ Q;refine ZdP (ns:=d.map (iM g k2)) (aj.of h4) λm em=>?_;refine⟨_,rfl,D,rfl,⟨_,aj.of W_⟩,λD3 qI=>oa (K:=K) (aj.of W_) (by rw[Ya];omega) qI (λi=>decide (iM g k2 (d.getD i "")=m)) (λi y _=>y=.str (d.getD i "")) (λ_ _ _ _ _ h=>h) (λi v j H5 E Mq Kt Kf k n=>?_) λus5 H5 E h5 Xa=>?_⟩
 ·obtain⟨_,rfl,l⟩:=IM j;generalize d.getD i ""=x at l k n;refine⟨_,rfl,_,rfl,L,_,rfl,dt (E _ _ (X _ _ T)) (v1 x l),_,rfl,_,rfl,J,_,rfl,dt (E _ _ (X _ _ R)) (v2 x l),_,_,rfl,rfl,_,rfl,rfl,_,rfl,bR (λc=>⟨_,rfl,k _ _ ?_ (aq.refl _) rfl⟩) (λc=>n _ ?_ (aq.refl _))⟩;·exact c_ (V.int.inj (dm c))
  ·exact eJ λe=>c (c_ (by rw[←e];rfl))
 rw[Ya] at Xa;refine q D3 H5 (X.trans E) ?_;rw[h5,AS Xa,oN d λx=>decide (iM g k2 x=m)];unfold jd;rw[←A,←em]
abbrev BM(b:BS)(k a:af):Prop:=[.inr k,.inr a]∈(bV b.ps b.fs).map (·.1)
def ZdQ:bF (aE n) (aE n)=aE n:=by
 unfold bF;refine(Wk λx b=>?_).trans (vv _);obtain⟨i,a,rfl⟩:=Yh.mp b;have a:=Wf.mp a;rw[Yd,show((i:Int).toNat)=i from rfl,lL a];rfl
def ZdR(n:Nat):inv (aE n)=aE n:=by
 refine Jg λi=>?_;by_cases a:i<n;·rw[yx (by rwa[fX]),lL a,yj (yc (qV (mF (aE n)))) (lL a)]
 ·rw[Wa (by rw[i4,fX];exact dg a),Wa (by rw[fX];exact dg a)]
def d7(n:Nat)(k:af)(i j:Nat):Fc:=⟨k,i,(j:Int),aE n⟩
def QT(h:bC k=ar):k="mother"\/k="father":=by
 unfold bC at h;rcases Bool.or_eq_true_iff.mp h with z|z;·exact .inl (dm z)
 ·exact .inr (dm z)
def yP(h:bC k=ar):k≠cV/\k≠"sibling":=by
 rcases QT h with rfl|rfl<;>exact⟨QK,QK⟩
theorem Bv(h:bC k=ar):keyOf k a o=[.inr k,.inr a,o]:=by
 have:=(yP h).2;cases o with
 |inl _=>rfl
 |inr _=>exact bb this
theorem Ff(h:Paired F as bs)(e:F a b):Paired F (as++[a]) (bs++[b]):=by
 induction h with
 |nil=>exact .cons e .nil
 |cons d _ c=>exact .cons d c
def Zav:cU X (.type "int") (λa H Q=>∃b:bA,a=[.bl b]/\Q (.int (if b=ar then 1 else 0)) H):=by
 rintro c s d H a e Q I r ⟨b,rfl,q⟩;obtain⟨u,rfl,rfl⟩:=vals1 r;exact call_int_bool ⟨.int (if b=ar then 1 else 0),H,I.tok _,⟨_,rfl⟩,q⟩
def cK.off(w:cK H c l b)(h:H a=O o)(n:a∉l.fp):c a=O o/\a∉b.fp:=
 ⟨w.out _ _ h n,λz=>(w.grow a z).elim n λq=>by rw[h] at q;cases q⟩
def cK.dF(w:cK H d l g)(c:a_ H C CL CJ l xs e b)(h:H a=O (.tup us)):d a=O (.tup us):=w.out _ _ h (c.tup h)
def a_.fresh(c:a_ H C CL CJ l xs d b)(h:H a=aI):a∉l.fp:=λz=>c.there z h
def BS.Pa(b:BS):BS:={b with fs:=b.fs.filter λp=>bC p.2.k}
def SW(b:BS):bV b.Pa.ps b.Pa.fs=bV b.ps b.fs:=by
 show((b.fs.filter λp=>bC p.2.k).filter λp=>bC p.2.k).map _=_;rw[Wt];unfold bV;simp only[Bool.and_self];rfl
def BN(b:BS)(a:af):dJ b.Pa a=dJ b a:=by
 unfold dJ oF;rw[SW]
theorem JM:dq b.Pa a x↔dq b a x:=by
 constructor
 ·intro h;induction h with
  |refl=>exact .refl
  |step _ m c=>rw[BN] at m;exact .step c m
 ·intro h;induction h with
  |refl=>exact .refl
  |step _ m c=>exact .step c (by rwa[BN])
theorem wI{b:BS}{a:af}:∀{e:Nat} {x:af},Lv b.Pa a e x↔Lv b a e x
 |0,x=>Iff.rfl
 |e+1,x=>by
  constructor
  ·rintro⟨y,h,m⟩;rw[BN] at m;exact⟨y,wI.mp h,m⟩
  ·rintro⟨y,h,m⟩;exact⟨y,wI.mpr h,by rwa[BN]⟩
def R8:dG b.Pa a e x↔dG b a e x:=
 ⟨λd=>⟨wI.mp d.at_,λc h=>d.low c (wI.mpr h)⟩,λd=>⟨wI.mpr d.at_,λc h=>d.low c (wI.mp h)⟩⟩
def SD.ofP(s:SD b.Pa a kvs):SD b a kvs:=
 ⟨λe x d=>s.yes e x (R8.mpr d),λx h=>s.no x λe d=>h e (R8.mp d),let⟨xs,i,g,c⟩:=s.ks;⟨xs,i,g,λx=>(c x).trans JM⟩⟩
def cX.Pa(a:cX xs e b):cX xs e b.Pa:=by
 have sub:b.Pa.fs.Sublist b.fs:=W6;refine⟨a.gd,a.nm,a.m,Yz sub.length_le a.fl,λp d=>a.fg p (sub.subset d),a.zs.sublist (sub.map _),λp d=>a.lt p (sub.subset d),a.ky.sublist (sub.map _),?_,?_,a.dl,a.ul⟩
 ·rw[SW];exact a.pr
 ·obtain⟨f,h,g⟩:=a.lv;exact⟨f,h,λc m=>g c ((sub.map _).subset m)⟩
def ZgC{b:BS}(h:bC c.k=ar):(b.jX c).Pa.fs=b.Pa.fs++[(b.co,c)]:=by
 show(b.fs++[(b.co,c)]).filter _=_;rw[Wj,Wx (by exact h)];rfl
def ZgD{b:BS}(h:bC c.k=aY):(b.jX c).Pa.fs=b.Pa.fs:=by
 show(b.fs++[(b.co,c)]).filter _=_;rw[Wj,Jv (by rw[h];exact Yo)];exact Wh _
def wJ(H:Hp)(a:U)(p:af×af):Prop:=H a=O (.tup [.str p.1,.str p.2])
structure yY(H:Hp)(sl:U)(b:BS)(as:Z U)(ss:Z (af×af)):Prop where
 at_:H sl=O (.lst (as.map V.ref))
 pr:Paired (wJ H) as ss
 len:as.length<=2*b.fs.length
 all:∀p∈b.fs,p.2.k="sibling"->(ay b.ps p.2.one,ay b.ps p.2.bh.toNat)∈ss/\(ay b.ps p.2.bh.toNat,ay b.ps p.2.one)∈ss
structure d_(C CL CJ:U)(H:Hp)(n z:Nat)(l:BL)(b:BS)(nl sd fl sl:U):Prop where
 ba:a_ H C CL CJ l (aE n) (aE n) b
 ok:cX (aE n) (aE n) b
 names:H nl=O (.lst (b.ps.map λp=>V.str p.1))
 n1:nl∉l.fp
 cH:H sd=O (.dK (fO b.ps))
 n2:sd∉l.fp
 facts:∃as:Z U,H fl=O (.lst (as.map V.ref))/\Paired (kL H b.ps) as b.Pa.fs
 n3:fl∉l.fp
 wK:∃as ss,yY H sl b as ss
 n4:sl∉l.fp
 nm:b.ps.map (·.1)=(List.range b.ps.length).map (cQ z)
 se:∀p∈b.ps,p.2="man"\/p.2="woman"
 par:∀p∈b.fs,(bC p.2.k=ar\/p.2.k="sibling")/\p.2.tn=aE n
 np:2<=b.ps.length
def A2(a b:af):keyOf "sibling" a (.inr b)=[.inr "sibling",.inr (L2.qi a b),.inr (L2.qj a b)]:=by
 unfold keyOf;exact br rfl
def QV(a b:af):(L2.qi a b=a/\L2.qj a b=b)\/(L2.qi a b=b/\L2.qj a b=a):=by
 unfold L2.qi L2.qj;by_cases d:b.cps.toList<a.cps.toList;·grind
 ·rw[bb d];by_cases c:a.cps.toList<b.cps.toList;·grind
  ·rw[bb c];have e:a=b:=by
    cases a with|mk ca=>cases b with|mk g=>
     grind
   grind
def Ze9(h:keyOf "sibling" a (.inr b)=keyOf "sibling" g (.inr e)):(a=g/\b=e)\/(a=e/\b=g):=by
 rw[A2,A2] at h;injection h with _ h;injection h with d h;injection h with c _;have d:=Wl d;have c:=Wl c;rcases QV a b with⟨l,k⟩|⟨l,k⟩<;>rcases QV g e with⟨j,i⟩|⟨j,i⟩<;>rw[l,j] at d<;>rw[k,i] at c;·exact .inl ⟨d,c⟩
 ·exact .inr ⟨d,c⟩
 ·exact .inr ⟨c,d⟩
 ·exact .inl ⟨c,d⟩
section
variable {H:Hp}{n z:Nat}{l:BL}{b:BS}{X sd T W:U}
def d_.same(g:aq H d)(s:d_ C CL CJ H n z l b X sd T W):d_ C CL CJ d n z l b X sd T W:=
 ⟨s.ba.same g,s.ok,g _ _ s.names,s.n1,g _ _ s.cH,s.n2,let⟨as,c,a⟩:=s.facts;⟨as,g _ _ c,L2.Paired.aW a λ _ _=>g _ _⟩,s.n3,let⟨as,ss,h⟩:=s.wK;⟨as,ss,g _ _ h.at_,L2.Paired.aW h.pr λ _ _=>g _ _,h.len,h.all⟩,s.n4,s.nm,s.se,s.par,s.np⟩
theorem d_.FL(s:d_ C CL CJ H n z l b X sd T W):FL H b.Pa.ps T b.Pa.F:=by
 obtain⟨a,g,d⟩:=s.facts;refine⟨a,g,?_⟩;have:∀{a:Z U} {fs:Z (Nat×Fc)},Paired (kL H b.ps) a fs->Paired (WD H b.ps) a (fs.map (·.2)):=λh=>by
  induction h with
  |nil=>exact .nil
  |cons e _ c=>exact .cons ⟨_,e⟩ c
 exact this d
def d_.jP(s:d_ C CL CJ H n z l b X sd T W)(E:2<=n)(m:(k,aE n)∈qb (aE n) (aE n))(A:i<b.ps.length)(y:j<b.ps.length)(t:pZ k (jQ b.ps i) (jQ b.ps j)=ar)(x:b.fs.length<63)
  (q:gs b.ps (d7 n k i j)∉b.keys)(o:bC k=ar->¬BM b k (ay b.ps i))(u:¬(k="sibling"/\ay b.ps i=ay b.ps j))(v:bC k=ar->¬dq b (ay b.ps j) (ay b.ps i)):rh (aE n) (aE n) b (d7 n k i j):=by
 have g:k≠cV:=λz=>by rw[z] at m;exact Zbf m
 have a:∀c:Fc,c.k≠cV->c.tn=aE n->jg (λ_=>0) c:=λc h e=>⟨λz=>absurd z h,λ_=>by
  exact e▸(HR ⟨Ll 0,QO⟩).symm⟩
 have D:keyOf k (ay b.ps i) (.inr (ay b.ps j))=gs b.ps (d7 n k i j):=by
  unfold gs;rw[kH g];rfl
 refine⟨⟨⟨⟨A,λ_=>⟨⟨by show(0:Int)<=(j:Int);exact Int.natCast_nonneg _,y⟩,qV (mF _),by rw[fX];exact fX n⟩⟩,.inr m,λz=>absurd z g⟩,q,o,⟨λ_=>0,λi _=>⟨Ll 0,by rw[fX];show(0:Int)<(n:Int);omega⟩,λc d=>?_⟩,x⟩,g,t,⟨o,λ_=>⟨by show keyOf k (ay b.ps i) (.inr (ay b.ps j))∉b.keys;rw[D];exact q,u⟩⟩,v⟩;rcases Yu.mp d with d|d
 ·obtain⟨p,r,rfl⟩:=Yh.mp (d);refine a _ (λz=>?_) (s.par p r).2;rcases(s.par p r).1 with h|h;·exact(yP h).1 z
  ·rw[z] at h;exact absurd h QK
 ·rw[Yl.mp d];exact a _ g rfl
def d_.ZiC(s:d_ C CL CJ H n z l b X sd T W)(t:2<=n)(a:bC k=ar)(x:i<b.ps.length)(v:j<b.ps.length)(o:pZ k (jQ b.ps i) (jQ b.ps j)=ar)(r:b.fs.length<63)(d:¬BM b k (ay b.ps i))(q:¬dq b (ay b.ps j) (ay b.ps i)):rh (aE n) (aE n) b (d7 n k i j):=by
 have m:=ZdR n;refine s.jP t ?_ x v o r (λu=>?_) (λ_=>d) (λz=>(yP a).2 z.1) λ_=>q
 ·rcases QT a with rfl|rfl;·rw[qb,m];exact Yj
  ·rw[qb,ZdQ,m];exact Yv _ Yj
 ·obtain⟨p,g,e⟩:=Yh.mp u;have e:keyOf p.2.k (ay b.ps p.2.one) (cJ b.ps p.2)=keyOf k (ay b.ps i) (cJ b.ps (d7 n k i j)):=e;rcases(s.par p g).1 with h|h
  ·rw[Bv h,Bv a] at e;injection e with c e;injection e with y _;refine d (Yh.mpr ⟨_,Yh.mpr ⟨p,Yy.mpr ⟨g,h⟩,rfl⟩,?_⟩);show[Sum.inr p.2.k,Sum.inr (ay b.ps p.2.one)]=_;rw[c,y]
  ·rw[Bv a,kH (λz=>by rw[z] at h;exact absurd h QK),h,A2] at e;injection e with c _;rw[←Wl c] at a;exact absurd a QK
def d_.ZiD(s:d_ C CL CJ H n z l b X sd T W)(u:2<=n)(y:i<b.ps.length)(x:j<b.ps.length)(t:b.fs.length<63)(q:yY H W b as ss)(g:(ay b.ps i,ay b.ps j)∉ss)(r:ay b.ps i≠ay b.ps j):rh (aE n) (aE n) b (d7 n "sibling" i j):=by
 refine s.jP u ?_ y x (by unfold pZ;rw[bb QK,bb QK];exact Bool.or_eq_true_iff.mpr (.inl (c_ rfl))) t (λv=>?_) (λh=>absurd h QK) (λz=>r z.2) λh=>absurd h QK
 ·rw[qb,fX];exact Yv _ (Yv _ (Yv _ Yj))
 ·obtain⟨p,o,e⟩:=Yh.mp v;have e:keyOf p.2.k (ay b.ps p.2.one) (cJ b.ps p.2)=keyOf "sibling" (ay b.ps i) (cJ b.ps (d7 n "sibling" i j)):=e;rw[kH (c:=d7 n "sibling" i j) (show("sibling":af)≠cV by decide+kernel)] at e;rcases(s.par p o).1 with h|h
  ·rw[Bv h] at e;rw[show(Sum.inr (ay b.ps (d7 n "sibling" i j).bh.toNat):Key)=.inr (ay b.ps j) from rfl,A2] at e;injection e with A _;rw[Wl A] at h;exact absurd h QK
  ·rw[kH (λz=>by rw[z] at h;exact absurd h QK),h] at e;obtain⟨m,k⟩:=q.all p o h;rcases Ze9 e with⟨d,a⟩|⟨d,a⟩
   ·rw[d,a] at m;exact g m
   ·rw[d,a] at k;exact g k
def d_.CA(s:d_ C CL CJ H n z l b X sd T W)(G:bC k=ar\/k="sibling")(d:rh (aE n) (aE n) b (d7 n k i j))(I:b.dn.length<200)(t:cK H H1 l o)(J:a_ H1 C CL CJ o (aE n) (aE n) (b.jX (d7 n k i j)))(g:aq H1 r)
  (c:∃q:Z U,r h=O (.lst (q.map V.ref))/\Paired (kL r b.ps) q (b.jX (d7 n k i j)).Pa.fs)(y:h∉o.fp)(u:∃q v,yY r sl' (b.jX (d7 n k i j)) q v)(x:sl'∉o.fp):d_ C CL CJ r n z o (b.jX (d7 n k i j)) X sd h sl':=by
 obtain⟨F,E⟩:=t.off s.names s.n1;obtain⟨D,A⟩:=t.off s.cH s.n2;refine⟨J.same g,?_,g _ _ F,E,g _ _ D,A,c,y,u,x,s.nm,s.se,λp a=>?_,s.np⟩
 ·exact s.ok.CA d.nf.fg (λm=>by
   obtain⟨p,a,e⟩:=Yh.mp m;have:=s.ok.lt p a;omega) d.nf.nk d.nf.np d.nf.lv d.nf.lim (wV _) (Ja _) (by rw[Yq];show _+1<=200;exact gb I) (Yx _)
 ·rcases Yu.mp a with a|a;·exact s.par p a
  ·rw[Yl.mp a];exact⟨G,rfl⟩
def d_.Ko(s:d_ C CL CJ H n z l b X sd T W)(o:bC k=ar)(u:rh (aE n) (aE n) b (d7 n k i j))(G:b.dn.length<200)(d:cK H H1 l q)(r:a_ H1 C CL CJ q (aE n) (aE n) (b.jX (d7 n k i j)))(g:aq H1 c)(F:Paired (kL H b.ps) as b.Pa.fs)
  (L:c t=O (.tup [.int (b.co:Int),.str k,.str (ay b.ps i),.str (ay b.ps j)]))(I:H1 fl'=aI)(J:c fl'=O (.lst ((as++[t]).map V.ref))):d_ C CL CJ c n z q (b.jX (d7 n k i j)) X sd fl' W:=by
 have y:=(yP o).1;have E:kL c b.ps t (b.co,d7 n k i j):=by
  show c t=O (.tup ((iz b.ps b.co (d7 n k i j)).map kV));unfold iz;rwa[kH y]
 obtain⟨v,x,m⟩:=s.wK;obtain⟨D,A⟩:=d.off m.at_ s.n4;refine s.CA (.inl o) u G d r g ⟨as++[t],J,?_⟩ (r.fresh I) ⟨v,x,g _ _ D,L2.Paired.aW m.pr λ_ _ e=>g _ _ (d.dF s.ba e),?_,λp a h=>?_⟩ A
 ·rw[ZgC (o)];exact Ff (L2.Paired.aW F λ_ _ e=>g _ _ (d.dF s.ba e)) E
 ·have:=m.len;show _<=2*(b.fs++[_]).length;rw[Yq];exact T5 this
 ·rcases Yu.mp a with a|a;·exact m.all p a h
  ·rw[Yl.mp a] at h;exact absurd h (yP o).2
def d_.ZiE(s:d_ C CL CJ H n z l b X sd T W)(r:rh (aE n) (aE n) b (d7 n "sibling" i j))(F:b.dn.length<200)(d:cK H H1 l m)(o:a_ H1 C CL CJ m (aE n) (aE n) (b.jX (d7 n "sibling" i j)))(g:aq H1 a)(k:yY H W b as ss)
  (D:a t=O (.tup [.str (ay b.ps i),.str (ay b.ps j)]))(A:a u=O (.tup [.str (ay b.ps j),.str (ay b.ps i)]))(v:H1 sl'=aI)(J:a sl'=O (.lst ((as++[t,u]).map V.ref))):d_ C CL CJ a n z m (b.jX (d7 n "sibling" i j)) X sd T sl':=by
 obtain⟨fs,q,E⟩:=s.facts;obtain⟨y,x⟩:=d.off q s.n3;refine s.CA (.inr rfl) r F d o g ⟨fs,g _ _ y,?_⟩ x ⟨as++[t,u],ss++[(ay b.ps i,ay b.ps j),(ay b.ps j,ay b.ps i)],J,?_,?_,λp c h=>?_⟩ (o.fresh v)
 ·rw[ZgD (by show bC "sibling"=aY;decide+kernel)];exact L2.Paired.aW E λ_ _ e=>g _ _ (d.dF s.ba e)
 ·have:=Ff (Ff (L2.Paired.aW k.pr λ_ _ (e:wJ H _ _)=>(g _ _ (d.dF s.ba e):wJ a _ _)) (show wJ a t (ay b.ps i,ay b.ps j) from D)) (show wJ a u (ay b.ps j,ay b.ps i) from A);rw[Jr,Jr] at this;exact this
 ·have:=k.len;show _<=2*(b.fs++[_]).length;rw[Yq,Yq];show _+2<=2*(_+1);omega
 ·rcases Yu.mp c with c|c
  ·obtain⟨I,G⟩:=k.all p c h;exact⟨Yk _ I,Yk _ G⟩
  ·rw[Yl.mp c];exact⟨Ye _ Yj,Ye _ (Yv _ Yj)⟩
def CI(d:dN)(F:Z Fc)(k a:af):bA:=F.any λc=>decide (c.k=k)&&decide (ay d c.one=a)
def ZdS(o:bC k=ar):CI b.ps b.Pa.F k a=ar↔BM b k a:=by
 unfold Dk.CI;rw[J7];constructor
 ·rintro⟨c,m,e⟩;obtain⟨p,d,rfl⟩:=Yh.mp (m);obtain⟨d,h⟩:=Yy.mp d;obtain⟨j,i⟩:=Jd.mp e;refine Yh.mpr ⟨_,Yh.mpr ⟨p,Yy.mpr ⟨d,h⟩,rfl⟩,?_⟩;show[Sum.inr p.2.k,Sum.inr (ay b.ps p.2.one)]=_;rw[dm j,dm i]
 ·intro h;obtain⟨q,g,e⟩:=Yh.mp h;obtain⟨p,d,rfl⟩:=Yh.mp g;have e:=e;injection e with j e;injection e with i _;exact⟨p.2,Yh.mpr ⟨p,d,rfl⟩,by rw[Wl j,Wl i];simp⟩
end
inductive NJ(C CL CJ:U)(i:Z V)(H:Hp)(Q:VK):Prop
 |mk (n z:Nat) (l:BL) (b:BS) (h g sd:U) (k:Z Int) (u:i=[.ref l.h,.ref h,.ref g,.ref sd]) (r:2<=n) (t:H h=O (.lst (k.map V.int))) (o:h∉l.fp) (p:k.length<=60) (s:∀c d a,aq H a->H c=aI->H d=aI->a c=O (.lst [])->a d=O (.lst [])->d_ C CL CJ a n z l b g sd c d) (m:b.fs=[]) (dl:b.dn.length<=40)
  (q:∀(j:BL) (e:BS) (c d:U) (a:Hp),cK H a l j->d_ C CL CJ a n z j e g sd c d->e.ps=b.ps->e.fs.length<=60->e.dn.length<=100->Q (.ref c) a):NJ C CL CJ i H Q
def OD(C CL CJ:U):Sp:=λa H Q _=>NJ C CL CJ a H Q
def Ze_{ss:Z (af×af)}:((ss.map λp=>[V.str p.1,V.str p.2]).any λb=>decide (b=[V.str a,V.str c]))=aY->(a,c)∉ss:=λh m=>by
 have:=KJ.mp h _ (Yh.mpr ⟨_,m,rfl⟩);exact this (c_ rfl)
theorem ZdT(h:Paired (wJ H) as ss):Paired (λa b=>H a=O (.tup b)/\b.all jM=ar) as (ss.map λp=>[V.str p.1,V.str p.2]):=by
 induction h with
 |nil=>exact .nil
 |cons e _ c=>exact .cons ⟨e,rfl⟩ c
abbrev KA:Z af:=["_law_book","_law_cells","_law_names","_law_sides"]
def mO:aS ["_law_book","_law_cells","_law_names","_law_sides","_law_facts","_law_sibs","_law_cell_here","_law_drawn","_law_one","_law_other","_law_kind","_law_had"] KA (aL FK):=.bg
open Classical in
theorem ZQ(F:aP K "_law_build" "_law_build" FK f fd)(sv:HasFn P w K mg B 1 "_law_draws" Dn (Hs K))(Hi:HasFn P w K mg B 1 "_law_up" wH T4)(AE:cG P w K mg B 12 "tie" C rE (R0 C CL CJ))(bl:Bl mg):aH P w K mg B aO 13 f fd KA (OD C CL CJ):=by
 refine F.o mO λs H hr h=>?_;obtain⟨n,z,l,b,cl,N,sd,cs,rfl,hn,hc,nc,lc,s0,nf,dl,q⟩:=h;have hu:=hr.oC;refine⟨_,(av (cF 4 mO.nd (eG ai)) (av (cF 5 mO.nd (eG ai)) (av (jb iP rfl (eR (K:=K) rfl (pv 1)) (cz 6 mO.nd) (av (cF 7 mO.nd (bq sv hr (aa (pv 6) (aa (eG (aa aT (aa aT (aa aT ai)))) ai)))) (av (fh (i:=8) mO.nd rfl (fI rfl) (bO (iL K) (pv 2) (bc hZ (bO (iL K) (pv 7) aT) (fE K bl (pv 2))))) (av (cF 9 mO.nd (bO (iL K) (pv 2) (bc hZ (bO (iL K) (pv 7) aT) (fE K bl (pv 2))))) (av (fh (i:=10) mO.nd rfl (fI rfl) (bO (iL K) (eG (aa dP (aa dP ai))) (jv Zav rfl bl.IX Ii (aa (iW dv (dD (bu hr) (pv 3) (pv 9) (λ_ _=>rfl)) dP) ai)))) (av (F8 (i:=11) (x:="_law_fact") (fr:=[("_law_one",8),("_law_kind",10)]) (cl:=[("_law_one",s.heap.objs.size+1),("_law_kind",s.heap.objs.size+1+1)]) rfl mO.nd rfl (ew rfl) (.fD ⟨rfl,⟨rfl,trivial⟩⟩ ⟨⟨rfl,.inl rfl,.inl rfl,rfl⟩,⟨⟨rfl,.inl rfl,.inl rfl,rfl⟩,trivial⟩⟩) (eR (K:=K) rfl (pv 4)) (λ_ _ _ _=>ot (PW.pt (pw_and (cA dv (bO (iT K) (pv 0) aT) (pv 2)) (pw_and1 (cA dv (bO (iT K) (pv 0) aT) (pv 1)))))) (λ_ _ _ _=>(pv 0))) (aC (bw (PW.pt (pw_and (cA dv (bO (iL K) (pv 7) aT) aT) (pw_and (cA rb (pv 8) (pv 9)) (pw_and1 (jU (Zb2 (bu hr)) (eS (aa (pv 8) (aa (pv 9) ai))) (pv 5) QU))))) (av (cu (dE AE hr QO (pv 0) (aa dP (aa (pv 8) (aa (pv 9) ai))))) (aC (cF 5 mO.nd (bc vQ (pv 5) (eG (aa (eS (aa (pv 8) (aa (pv 9) ai))) (aa (eS (aa (pv 9) (aa (pv 8) ai))) ai))))))) (aC (bw (PW.pt (pw_and (cA (P6 (K:=K) rfl (Zf_ hu)) (pv 11) (eG ai)) (pw_and1 (jU (BB (K:=K) rfl) (pv 8) (bq Hi hr (aa (pv 4) (aa (pv 9) ai))) QU)))) (aC (cF 4 mO.nd (bc vQ (pv 4) (eG (aa (eS (aa (dE AE hr (by decide) (pv 0) (aa (pv 10) (aa (pv 8) (aa (pv 9) ai)))) (aa (pv 10) (aa (pv 8) (aa (pv 9) ai))))) ai))))) bI)))))))))) (aC (aX (pv 4)))))),?_⟩;have lim:(10000:Nat)<=sizeLine:=by rw[c7];decide
 refine bT ?_;refine⟨by show 0<=sizeLine;decide,λXb H0 nf0 g0 zX=>?_⟩;refine bT ?_;refine⟨by show 0<=sizeLine;omega,λXc H1 ns0 g1 As=>?_⟩;have xf:=s0 Xb Xc H1 (g0.trans g1) nf0 (g0.free ns0) (g1 _ _ zX) As;have Xd:=g0.trans g1;dsimp only;refine jV (λT G=>∃(A:BL) (g:BS) (r o:U) (o6 o7 o8 o9 iD iE:bt V),cK H G l A/\d_ C CL CJ G n z A g N sd r o/\g.ps=b.ps/\g.fs.length<=60/\g.dn.length<=100/\T=[O (.ref l.h),O (.ref cl),O (.ref N),O (.ref sd),O (.ref r),O (.ref o),o6,o7,o8,o9,iD,iE]) (λnx nQ=>?_) ?_
 ·refine⟨_,rfl,cl,rfl,⟨_,aj.of (Xd _ _ hc)⟩,mS (K:=K) (a:=cl) (xs:=cs.map V.int) (λi T G=>∃(A:BL) (g:BS) (r o:U) (o6 o7 o8 o9 iD iE:bt V),cK H G l A/\d_ C CL CJ G n z A g N sd r o/\g.ps=b.ps/\g.fs.length<=i/\g.dn.length<=40+i/\T=[O (.ref l.h),O (.ref cl),O (.ref N),O (.ref sd),O (.ref r),O (.ref o),o6,o7,o8,o9,iD,iE]) ⟨l,b,Xb,Xc,aI,aI,aI,aI,aI,aI,cK.of Xd,xf,rfl,by rw[nf];exact Yg _,dl,rfl⟩ (λi T G _ ⟨_,_,_,_,_,_,_,_,_,_,J,_⟩=>aj.of (J.off hc nc).1) (λi v T G R ⟨A,g,r,o,o6,o7,o8,o9,iD,iE,J,st,X,Q,ld,e⟩=>?_) (λT G ⟨A,g,r,o,o6,o7,o8,o9,iD,iE,J,st,X,Q,ld,e⟩=>nQ _ _ ⟨A,g,r,o,o6,o7,o8,o9,iD,iE,J,st,X,by rw[Ya] at Q;exact d4 Q lc,by rw[Ya] at ld;omega,e⟩)⟩;obtain⟨cc,rfl,hci⟩:=ou R;have dB:i<cs.length:=(Yf.mp hci).1;subst e;have np:=st.np;refine bP (bT ?_);refine⟨_,rfl,by show 3<=sizeLine;omega,λpl H2 Am g2 bN=>⟨cc,pl,[61,59,11],rfl,aj.of bN,QD,QD,λdr ds H3 nd g3 uU bd=>?_⟩⟩;obtain⟨d0,d1,d2,rfl⟩:∃d0 d1 d2,ds=[d0,d1,d2]:=by
   cases bd with
   |cons _ bd=>
    cases bd with
    |cons _ bd=>
     cases bd with
     |cons _ bd=>
      cases bd;exact⟨_,_,_,rfl⟩
  have s3:=st.same (g2.trans g3);have Ki:(g.ps.map λp=>V.str p.1).length=g.ps.length:=Ya _;have pos:(0:Int)<(((g.ps.map λp=>V.str p.1).length:Nat):Int):=by rw[Ki];omega
  have ix:∀d:Int,∃j:Nat,j<g.ps.length/\fM (g.ps.map λp=>V.str p.1) (d % (((g.ps.map λp=>V.str p.1).length:Nat):Int))=O (.str (ay g.ps j)):=λd=>by
   have h1:=Jp d (show(((g.ps.map λp=>V.str p.1).length:Nat):Int)≠0 by omega);have h2:=W8 d pos;obtain⟨j,ej⟩:∃j:Nat,d % (((g.ps.map λp=>V.str p.1).length:Nat):Int)=(j:Int):=⟨_,(LY h1).symm⟩;rw[ej] at h2⊢;have hj:j<g.ps.length:=QO
   refine⟨j,hj,eA ?_⟩;rw[Yi,Yb hj];unfold ay;rw[Yd,Yb hj];rfl
  obtain⟨m,uE,a1⟩:=ix d0;obtain⟨j1,xV,a2⟩:=ix d1;refine bT ?_;refine⟨_,rfl,_,rfl,dr,_,_,_,rfl,rfl,aj.of uU,eA (j:=0) rfl,_,rfl,N,_,rfl,.inl (aj.of s3.names),_,_,rfl,rfl,pos,N,_,_,_,rfl,rfl,aj.of s3.names,a1,?_⟩;refine bT ?_;refine⟨_,rfl,_,rfl,dr,_,_,_,rfl,rfl,aj.of uU,eA (j:=1) rfl,_,rfl,N,_,rfl,.inl (aj.of s3.names),_,_,rfl,rfl,pos,N,_,_,_,rfl,rfl,aj.of s3.names,a2,?_⟩;refine bT ?_;refine⟨by show 2<=sizeLine;decide,λl2 H4 LX g4 KR=>?_⟩;have s4:=s3.same g4;refine⟨_,rfl,_,rfl,sd,.str (jQ g.ps j1),rfl,dt s4.cH (Hf s4.ok.nm xV),rfl,_,rfl,?_⟩;have sj:jQ g.ps j1="man"\/jQ g.ps j1="woman":=by
   have:=s4.se g.ps[j1] (Wg xV);unfold jQ;rw[Yd,Yb xV];exact this
  obtain⟨k,ak,pk,sf⟩:∃k:af,fM [V.str (Str.ofString "mother"),V.str (Str.ofString "father")] (if decide (V.str (jQ g.ps j1)=V.str (Str.ofString "man"))=ar then 1 else 0)=O (.str k)/\bC k=ar/\pZ k (jQ g.ps m) (jQ g.ps j1)=ar:=by
   rcases sj with e|e;·exact⟨"father",by rw[e,br (c_ rfl)];exact eA (j:=1) rfl,QK,by rw[e];unfold pZ;rw[bb QK,br rfl];exact c_ rfl⟩
   ·exact⟨"mother",by rw[e,bb QK];exact eA (j:=0) rfl,QK,by rw[e];unfold pZ;rw[br rfl];exact c_ rfl⟩
  refine⟨l2,_,_,_,rfl,rfl,aj.of KR,ak,?_⟩;have g24:=(g2.trans g3).trans g4;have lP:g.Pa.fs.length<=g.fs.length:=Y3 _ _;have lF:g.Pa.F.length<=100:=by show(g.Pa.fs.map (·.2)).length<=100;rw[Ya];omega
  obtain⟨as0,eQ,la,get⟩:=s4.FL.get;refine bT ?_;refine⟨_,rfl,r,rfl,⟨_,aj.of eQ⟩,λD hD=>oa (K:=K) (aj.of eQ) (by rw[Ya];omega) hD (λi=>(g.Pa.F[i]?.map λc=>decide (c.k=k)&&decide (ay g.ps c.one=ay g.ps m)).getD aY) (λ_ _ _=>True) (λ_ _ _ _ _ h=>h) (λi v R H5 g5 _ Kt Kf kt kf=>?_) λus H5 g5 h5 pr=>?_⟩
  ·obtain⟨c0,c,z0,rfl,ec,_,h0⟩:=get H5 i v g5 R;have e:(g.Pa.F[i]?.map λc=>decide (c.k=k)&&decide (ay g.ps c.one=ay g.ps m)).getD aY=(decide (c.k=k)&&decide (ay g.ps c.one=ay g.ps m)):=by rw[ec];rfl
   rw[e] at kt kf;refine⟨_,rfl,c0,_,_,_,rfl,rfl,aK.of h0,eA (j:=1) rfl,_,rfl,rfl,_,rfl,bR (λcc=>⟨_,rfl,c0,_,_,_,rfl,rfl,aK.of h0,eA (j:=2) rfl,_,rfl,rfl,_,rfl,bR (λE=>⟨_,rfl,kt _ _ ?_ (aq.refl _) trivial⟩) (λE=>kf _ ?_ (aq.refl _))⟩) (λcc=>dh (kf _ ?_ (aq.refl _)))⟩
   ·rw[←jj,←jj,cc];exact E
   ·rw[←jj,←jj,cc];exact W4.mpr E
   ·rw[←jj,W4.mpr cc];rfl
  rw[Ya,la] at pr;have eus:us.isEmpty=!CI g.ps g.Pa.F k (ay g.ps m):=by
   have ll:=dC pr;unfold CI;cases ha:g.Pa.F.any λc=>decide (c.k=k)&&decide (ay g.ps c.one=ay g.ps m) with
   |true=>
    obtain⟨c,hc,e2⟩:=J7.mp ha;obtain⟨i,R,ei⟩:=W0.mp hc;have mm:i∈(List.range g.Pa.F.length).filter λi=>(g.Pa.F[i]?.map λc=>decide (c.k=k)&&decide (ay g.ps c.one=ay g.ps m)).getD aY:=Yy.mpr ⟨Wf.mpr R,by rw[Yb R,ei];exact e2⟩;cases us with
    |nil=>rw[List.length_eq_zero_iff.mp ll.symm] at mm;cases mm
    |cons=>rfl
   |false=>
    have nil:(List.range g.Pa.F.length).filter (λi=>(g.Pa.F[i]?.map λc=>decide (c.k=k)&&decide (ay g.ps c.one=ay g.ps m)).getD aY)=[]:=WR.mpr λi R=>by
     have fY:=Wf.mp R;rw[Yb fY];exact W4.mp (KJ.mp ha|>λh=>W4.mpr (h _ (Wg fY)))
    rw[nil] at ll;cases us with
    |nil=>rfl
    |cons=>cases ll
  have s5:=s4.same g5;have D8:=g24.trans g5;obtain⟨Xe,ss,W⟩:=s5.wK;have ZiF:=g5 _ _ (g4 _ _ uU);refine(Bt.and (Vt.test (Vt.eq (x:=.int d2) (y:=.int 1) (λkk hk=>⟨_,rfl,dr,_,_,_,rfl,rfl,aj.of ZiF,eA (j:=2) rfl,hk _ (aq.refl _)⟩) (λ_ _=>Vt.c) rfl)) λH6 _ g6=>Bt.and (Vt.test (Vt.ne (x:=.str (ay g.ps m)) (y:=.str (ay g.ps j1)) (Vt.var rfl) (λ_ _=>Vt.var rfl) rfl)) (b:=!((ss.map λp=>[V.str p.1,V.str p.2]).any λys=>decide (ys=[V.str (ay g.ps m),V.str (ay g.ps j1)]))) λH7 _ g7 kk hk=>⟨_,rfl,_,rfl,by show 2<=sizeLine;decide,λt H8 nt g8 ht=>⟨_,rfl,t,o,_,Xe,_,rfl,rfl,ht,rfl,g8 _ _ (g7 _ _ (g6 _ _ W.at_)),ZdT (L2.Paired.aW W.pr λ_ _ e=>g8 _ _ (g7 _ _ (g6 _ _ e))),_,rfl,hk _ g8⟩⟩) _ λH9 g9=>?_;have I:=s5.same g9;have Xf:=D8.trans g9;have Ms:yY H9 o g Xe ss:=⟨g9 _ _ W.at_,L2.Paired.aW W.pr λ_ _ e=>g9 _ _ e,W.len,W.all⟩;refine bR (λc1=>?_) (λc1=>?_)
  ·obtain⟨_,c1⟩:=Jd.mp c1;obtain⟨c1,E⟩:=Jd.mp c1;have ne:ay g.ps m≠ay g.ps j1:=λz=>by rw[z,c_ rfl] at c1;cases c1
   have no:=Ze_ (by cases h:(ss.map λp=>[V.str p.1,V.str p.2]).any λys=>decide (ys=[V.str (ay g.ps m),V.str (ay g.ps j1)]) with|true=>rw[h] at E;cases E|false=>rfl);have to:=I.ZiD hn uE xV QO Ms no ne;have Xg:=J.same Xf;obtain⟨dx,h6⟩:=I.ba.obj;have eh:=Xg.h;rw[eh] at h6;refine⟨_,rfl,l.h,dx,_,rfl,h6,rfl,_,rfl,_,rfl,A,g,aE n,aE n,d7 n "sibling" m j1,by rw[eh];rfl,I.ba,I.ok,to,QO,λAu HA Mt baA=>?_⟩;have ZiG:=(Mt.off Ms.at_ I.n4).1;have l2s:=W.len;refine⟨_,rfl,_,rfl,_,rfl,by show 2<=sizeLine;decide,λt1 HB nt1 gB Mu=>⟨_,rfl,_,rfl,by show 2<=sizeLine;decide,λt2 HC nt2 gC Mv=>⟨by show 2<=sizeLine;decide,λl1 HD nl1 gD Mw=>⟨o,l1,_,_,rfl,rfl,gD _ _ (gC _ _ (gB _ _ ZiG)),Mw,by rw[Ya];show _+2<=_;omega,λsl' HE ZiH gE Kz=>?_⟩⟩⟩⟩;have Xh:=((gB.trans gC).trans gD).trans gE;have s7:=I.ZiE to QO Mt baA Xh Ms (t:=t1) (u:=t2) (sl':=sl') (((gC.trans gD).trans gE) _ _ Mu) ((gD.trans gE) _ _ Mv) (((gB.trans gC).trans gD).free ZiH) (by rw[Kz,Yt];rfl);refine⟨Au,g.jX (d7 n "sibling" m j1),r,sl',_,_,_,_,_,_,(Xg.trans Mt).same Xh,s7,X,?_,?_,rfl⟩
   ·show(g.fs++[_]).length<=i+1;rw[Yq];exact J8 Q
   ·show(g.dn++[_]).length<=40+(i+1);rw[Yq];exact J8 ld
  ·have hD9:=g9 _ _ h5;obtain⟨ub,Xi⟩:∃ub,ub=us.isEmpty:=⟨_,rfl⟩;refine(Bt.and (a:=ub) (Vt.test λkk hk=>⟨_,rfl,by show 0<=sizeLine;decide,λl0 HA n0 gA hl0=>⟨D,l0,us,rfl,rfl,aj.of (gA _ _ hD9),aj.of hl0,Xi▸hk _ gA⟩⟩) (b:=!decide (dq g (ay g.ps j1) (ay g.ps m))) λHA _ gA kk hk=>⟨_,rfl,_,rfl,_,rfl,r,aE n,aE n,g.Pa,ay g.ps j1,rfl,(I.same gA).FL,I.ok.Pa,vT xV,λp ks HB gB hp iff _=>⟨p,_,rfl,.inl (aj.of hp),rfl,OA ks,?_⟩⟩) _ λHC gC=>?_
   rotate_left
   ·have e:(if ar=ar then !fS (.str (ay g.ps m)) (ks.map V.str) else fS (.str (ay g.ps m)) (ks.map V.str))=!decide (dq g (ay g.ps j1) (ay g.ps m)):=by
     rw[br rfl];by_cases h:dq g (ay g.ps j1) (ay g.ps m);·rw[(CG _ _).mpr ((iff _).mpr (JM.mpr h)),c_ h]
     ·rw[W4.mpr λz=>h (JM.mp ((iff _).mp ((CG _ _).mp z))),eJ h]
    rw[e];exact⟨_,rfl,hk _ gB⟩
   have L:=I.same gC;have Mx:=J.same (Xf.trans gC);refine bR (λE=>?_) (λE=>bJ ⟨A,g,r,o,_,_,_,_,_,_,Mx,L,X,(js Q),(js ld),rfl⟩);obtain⟨E,c3⟩:=Jd.mp E;have nt:¬BM g k (ay g.ps m):=λh=>by
    rw[Xi,eus,(ZdS pk).mpr h] at E;cases E
   have na:¬dq g (ay g.ps j1) (ay g.ps m):=λh=>by
    rw[c_ h] at c3;cases c3
   have to:=L.ZiC hn pk uE xV sf QO nt na;obtain⟨dx,h6⟩:=L.ba.obj;have eh:=Mx.h;rw[eh] at h6;obtain⟨bL,uw,fZ⟩:=L.facts;have lfa:bL.length=g.Pa.fs.length:=dC fZ;refine⟨_,rfl,_,rfl,l.h,dx,_,rfl,h6,rfl,_,rfl,_,rfl,_,rfl,A,g,aE n,aE n,d7 n k m j1,by rw[eh];rfl,L.ba,L.ok,to,QO,λAu HD My D9=>?_⟩;have ZiI:=(My.off uw L.n3).1;refine⟨_,rfl,_,rfl,_,rfl,by show 4<=sizeLine;decide,λtu HE ntu gE htu=>⟨by show 1<=sizeLine;decide,λl1 HF nl1 gF Mw=>⟨r,l1,_,_,rfl,rfl,gF _ _ (gE _ _ ZiI),Mw,by rw[Ya];show _+1<=_;omega,λfl' HG ZiJ gG Ky=>?_⟩⟩⟩;have Xj:=(gE.trans gF).trans gG;have s7:=L.Ko pk to QO My D9 Xj fZ (t:=tu) (fl':=fl') ((gF.trans gG) _ _ htu) ((gE.trans gF).free ZiJ) (by rw[Ky,Yt];rfl);refine⟨Au,g.jX (d7 n k m j1),fl',o,_,_,_,_,_,_,(Mx.trans My).same Xj,s7,X,?_,?_,rfl⟩
   ·show(g.fs++[_]).length<=i+1;rw[Yq];exact J8 Q
   ·show(g.dn++[_]).length<=40+(i+1);rw[Yq];exact J8 ld
 ·rintro T G ⟨A,g,r,o,o6,o7,o8,o9,iD,iE,J,st,X,Q,ld,rfl⟩;exact⟨_,rfl,q A g r o G J st X Q ld⟩
inductive Pr(C CL CJ T:U)(h:Z V)(H:Hp)(Q:VK):Prop
 |mk (l:BL) (b:BS) (g e:Z Int) (u v:af) (t:h=[.ref l.h,.str u,.str v]) (s:a_ H C CL CJ l g e b) (ok:cX g e b) (n:b.ps.length<=60) (r:u.length<=1000) (o:v.length<=1000) (m:TabAt H T xR xS)
  (fo:v=""->u∈b.ps.map (·.1)->∀(p:U) (k:Z U) (d:Z (Key×V)) (c:Hp),SD b u d->aA T H c->TabAt c T xR xS->c p=O (.lst (k.map V.ref))->Paired (λa (q:af×Nat)=>c a=O (.tup [.str q.1,.int (q.2:Int)])) k (lX (b.ps.map (·.1)) d)->Q (.ref p) c)
  (ne:v≠""->u∈b.ps.map (·.1)->v∈b.ps.map (·.1)->∀(p:U) (j i:Z (Key×V)) (c:Hp),SD b u j->SD b v i->aq H c->c p=O (.lst ((jd (b.ps.map (·.1)) j i).map V.str))->Q (.ref p) c)
  (no:(u∉b.ps.map (·.1)\/(v≠""/\v∉b.ps.map (·.1)))->∀(p:U) (c:Hp),aq H c->c p=O (.tup [.str "no person",.bl ar])->Q (.ref p) c):Pr C CL CJ T h H Q
def QX(C CL CJ T:U):Sp:=λa H Q _=>Pr C CL CJ T a H Q
abbrev KC:Z af:=["_law_book","_law_name_here","_law_other"]
def MZ:aS ["_law_book","_law_name_here","_law_other","e"] KC (aL FO):=.bg
def ZR(F:aP K "_law_asked" "_law_asked" FO f fd)(F4:Ka P w K mg B 6 "forebears" l6 (R6 C CL CJ a T))(GN:Ka P w K mg B 6 "nearest" Kv (R7 C CL CJ a))(vq:mg "KinError"=O (.ref L))(Gr:dZ K L)
  (AU:mg "NoPerson"=O (.ref a))(e:dZ K a)(J:c9 K a "word")(Ay:PySem.W.mroIn K a (.ref L)=O ar)(bl:Bl mg):aH P w K mg B aO 12 f fd KC (QX C CL CJ T):=by
 refine F.o MZ @λaU A q vs Q E s H X h=>?_;obtain⟨l,b,I,G,u,v,rfl,ba,ok,N,R,lv,tb,fo,ne,no⟩:=h;have y:=F4;have x:=GN;refine⟨_,(aC (ZfH (i:=3) ⟨rfl,rfl⟩ MZ.nd rfl rfl rfl vq Gr (λpn xe E W ow=>(av (bw (cA dv (pv 2) dP) (aC (aX (Rr y X (by decide) W rfl (aa (pv 0) (aa (pv 1) ai))))) bI) (aC (aX (Rr x X (by decide) W rfl (aa (pv 0) (aa (pv 1) (aa (pv 2) ai)))))))) (λ_=>(aC (aX (eS (aa (ZcM rfl (pv 3)) (aa (gW (ZcL rfl) rfl bl.MU MP (aa (pv 3) (aa (eg (v:=.ref a) rfl AU rfl) ai))) ai)))))))),?_⟩;refine⟨_,rfl,rfl,_,rfl,bR (λc=>?_) (λc=>bJ ?_)⟩
 ·have o:=V.str.inj (dm c);refine⟨_,rfl,_,rfl,l,b,I,G,u,rfl,ba,ok,N,R,tb,λm=>?_,fo o⟩;intro a' d H1 _ _ g e1 n;refine⟨a,d,rfl,rfl,e,Ay,λj k=>?_⟩;refine⟨_,rfl,j,a,d,_,_,rfl,k,n,e,J,rfl,?_⟩;refine⟨_,rfl,j,a,d,_,_,_,ar,rfl,rfl,k,n,e,ON _,?_⟩;exact⟨QD,λp D np t r=>no (.inl m) p D (g.trans t) r⟩
 ·have o:v≠"":=λz=>c (c_ (by rw[z]));refine⟨_,rfl,_,rfl,_,rfl,l,b,I,G,u,v,rfl,ba,ok,N,R,lv,λm=>?_,ne o⟩;intro a' d H1 _ _ g e1 n;refine⟨a,d,rfl,rfl,e,Ay,λj k=>?_⟩;refine⟨_,rfl,j,a,d,_,_,rfl,k,n,e,J,rfl,?_⟩;refine⟨_,rfl,j,a,d,_,_,_,ar,rfl,rfl,k,n,e,ON _,?_⟩;exact⟨QD,λp D np t r=>no (m.imp id λz=>⟨o,z⟩) p D (g.trans t) r⟩
def cX.nil(b:yX xs a):cX xs a ⟨[],[],0,[],[]⟩:=
 ⟨b,Jf,Yx _,Yx _,λ_ h=>(nomatch h),Jf,λ_ h=>(nomatch h),Jf,Jf,⟨λ_=>0,λ_ h=>absurd h (Ww _),λ_ h=>(nomatch h)⟩,Yx _,Yx _⟩
theorem Zcm{m f w d b c st:U}:fO a≠sZ m f w d b c st:=λe=>by
 cases a with
 |nil=>cases e
 |cons p r=>
  have e:=e;injection e with h _;injection h with _ g;cases g
def c8{H:Hp}(h:H a=O o)(d:H b=O c)(n:o≠c):a≠b:=λe=>by
 rw[e,d] at h;exact n (Yr h).symm
def fQ.bar(h:fQ H CL L xs ys)(b:H sd=O (.dK (fO y)))(g:aA sd H j):fQ j CL L xs ys:=by
 obtain⟨x,d,m,f,w,n,k,l,st,i,c,v,u,s,r,q,p,o⟩:=h;have t:∀{a:U} {ns:Z Int},dF H a ns->dF j a ns:=λ{a ns} e=>g _ _ e (c8 e b (λz=>nomatch z));exact⟨x,d,m,f,w,n,k,l,st,g _ _ i (c8 i b (λz=>nomatch z)),g _ _ c (c8 c b (λz=>Zcm (HO.dK.inj z).symm)),t v,t u,t s,t r,t q,t p,t o⟩
def bU.bar(a:bU H CJ n d st)(b:H sd=O (.dK (fO l)))(c:sd∉d.fp)(g:aA sd H k):bU k CJ n d st:=by
 unfold JL.fp at c;simp only[Ys,iK] at c;obtain⟨_,_,_,i,e,_⟩:=c;refine⟨let⟨j,h⟩:=a.obj;⟨j,g _ _ h (c8 h b (λz=>nomatch z))⟩,g _ _ a.heads (c8 a.heads b (λz=>nomatch z)),g _ _ a.gk (c8 a.gk b (λz=>nomatch z)),L2.Paired.aW a.lead λ_ _ h=>g _ _ h (c8 h b (λz=>nomatch z)),g _ _ a.iJ (d6 i),L2.Paired.aW a.mem λ_ _ h=>g _ _ h (c8 h b (λz=>nomatch z)),g _ _ a.frees (d6 e),L2.Paired.aW a.free λ_ _ h=>g _ _ h (c8 h b (λz=>nomatch z)),a.nd,a.out⟩
theorem a_.bar(h:a_ H C CL CJ l xs s b)(j:H sd=O (.dK (fO F)))(k:sd∉l.fp)(g:aA sd H q):a_ q C CL CJ l xs s b:=by
 have own:∀a∈l.own,a≠sd:=λa A e=>k (by rw[←e];exact Yk _ A);have m:∀a d,jW H a d->jW q a d:=λ_ _ ⟨r,i,c⟩=>⟨r,g _ _ i (c8 i j (λz=>nomatch z)),g _ _ c (c8 c j (λz=>nomatch z))⟩;refine⟨let⟨E,e⟩:=h.obj;⟨E,g _ _ e (own _ (by simp[BL.own]))⟩,λp o=>?_,g _ _ h.cH (own _ (by simp[BL.own])),g _ _ h.places (own _ (by simp[BL.own])),g _ _ h.facts (own _ (by simp[BL.own])),L2.Paired.aW h.fact λ_ _ e=>g _ _ e (c8 e j (λz=>nomatch z)),g _ _ h.known (own _ (by simp[BL.own])),g _ _ h.parents (own _ (by simp[BL.own])),g _ _ h.done (own _ (by simp[BL.own])),L2.Paired.aW h.ka λ _ _=>m _ _,g _ _ h.h_ (own _ (by simp[BL.own])),L2.Paired.aW h.lO λ _ _=>m _ _,?_,h.nd⟩
 ·have v:=h.land (λa=>if a=sd then H sd else p a) λa u e n=>by
   by_cases z:a=sd
   ·show(if a=sd then _ else _)=_;rwa[br z,←z]
   ·show(if a=sd then _ else _)=_;rw[bb z];exact o _ _ (g _ _ e z) n
  refine v.bar (by show(if sd=sd then _ else _)=_;rwa[br rfl]) λa u e z=>?_;have e:(if a=sd then H sd else p a)=O u:=e;rw[bb z] at e;exact e
 ·cases h.qa with
  |no i c=>exact .no i c
  |at_ x st i c y t len D=>exact .at_ x st i c (y.bar j (λz=>k (Ye _ (by rwa[c]))) g) t len D
structure iZ(C CL CJ:U)(H:Hp)(n z j m:Nat)(h s1 D sd:U)(ms:Z Int)(T:U)(l:BL)(b:BS):Prop where
 eh:l.h=h
 ba:a_ H C CL CJ l (aE n) (aE n) b
 ok:cX (aE n) (aE n) b
 sc:H s1=O (.lst (ms.map V.int))
 n0:s1∉l.fp
 names:H D=O (.lst ((List.range m).map λk=>V.str (cQ z k)))
 n1:D∉l.fp
 cH:H sd=O (.dK (fO b.ps))
 n2:sd∉l.fp
 nm:b.ps.map (·.1)=(List.range j).map (cQ z)
 se:∀p∈b.ps,p.2="man"\/p.2="woman"
 nf:b.fs=[]
 co:b.co=0
 dl:b.dn.length=j
 tab:H T=O (.dz #[])
 n5:T∉l.fp
def iZ.len(p:iZ C CL CJ H n z j m h s1 D sd ms T l b):b.ps.length=j:=by
 have:=de List.length p.nm
 rwa [Ya,Ya,Ws] at this
def iZ.same(g:aq H a)(p:iZ C CL CJ H n z j m h s1 D sd ms T l b):iZ C CL CJ a n z j m h s1 D sd ms T l b:=
 ⟨p.eh,p.ba.same g,p.ok,g _ _ p.sc,p.n0,g _ _ p.names,p.n1,g _ _ p.cH,p.n2,p.nm,p.se,p.nf,p.co,p.dl,g _ _ p.tab,p.n5⟩
def iZ.new(p:iZ C CL CJ H n z j m h s1 D sd ms T l b)(a:j<60)(sx:af)(g:BK sx=ar):Kp b (cQ z j) sx:=by
 have:=p.len;obtain⟨o,k⟩:=NG (z:=z) a;refine⟨o,g,λd=>?_,QO,(d4 k (by decide))⟩;rw[p.nm] at d;obtain⟨i,c,e⟩:=Yh.mp d;have c:=Wf.mp c;have:=Zcj (my c a) a e;omega
def iZ.none_(p:iZ C CL CJ H n z j m h s1 D sd ms T l b)(i:j<60):aF (fO b.ps) (.inr (cQ z j))=aI:=lK λg=>by
 obtain⟨q,d,e⟩:=Yh.mp g;obtain⟨a,c,rfl⟩:=Yh.mp d;exact(p.new i "man" QK).new (Yh.mpr ⟨a,c,Wl e⟩)
def iZ.more(p:iZ C CL CJ H n z j m h s1 D sd ms T l b)(t:j<60){a:af}(L:a="man"\/a="woman")(g:aA sd H H1)(s:D≠sd)(e:s1≠sd)(u:H1 sd=O (.dK (fO (b.ps++[(cQ z j,a)]))))(c:cK H1 o l k)(v:a_ o C CL CJ k (aE n) (aE n) (b.JI (cQ z j) a))(r:BK a=ar):iZ C CL CJ o n z (j+1) m h s1 D sd ms T k (b.JI (cQ z j) a):=by
 obtain⟨J,I⟩:=c.off (g _ _ p.sc e) p.n0;obtain⟨G,F⟩:=c.off (g _ _ p.names s) p.n1;obtain⟨E,A⟩:=c.off u p.n2;obtain⟨y,x⟩:=c.off (g _ _ p.tab (c8 p.tab p.cH (λz=>nomatch z))) p.n5;have i:=p.new t a r;have dl:=p.dl;refine⟨c.h.trans p.eh,v,p.ok.Ko i.new i.lim (Yg _) (by rw[Yq];show _+1<=200;omega) (Yx _),J,I,G,F,E,A,?_,λq d=>?_,p.nf,p.co,?_,y,x⟩
 ·show(b.ps++[(cQ z j,a)]).map (·.1)=_;rw[Yt,p.nm,UJ,Yt];rfl
 ·rcases Yu.mp d with d|d;·exact p.se q d
  ·rwa[Yl.mp d]
 ·show(b.dn++[_]).length=j+1;rw[Yq,dl];rfl
def iZ.all(p:iZ C CL CJ H n z m m h s1 D sd ms T l b)(s:2<=m)(g:aq H c)(j:H d=aI)(i:H sl=aI)(r:c d=O (.lst []))(o:c sl=O (.lst [])):d_ C CL CJ c n z l b D sd d sl:=by
 have k:=p.len;refine⟨p.ba.same g,p.ok,?_,p.n1,g _ _ p.cH,p.n2,⟨[],r,by show Paired _ _ (b.fs.filter _);rw[p.nf];exact .nil⟩,p.ba.fresh j,⟨[],[],o,.nil,Yx _,λq a=>(by rw[p.nf] at a;exact nomatch a)⟩,p.ba.fresh i,by exact k▸p.nm,p.se,λq a=>(by rw[p.nf] at a;exact nomatch a),QO⟩;rw[g _ _ p.names];have e:(b.ps.map λp=>V.str p.1)=(b.ps.map (·.1)).map V.str:=by rw[Y0];rfl
 rw[e,p.nm,Y0];rfl
theorem Zfa(h:Paired Bd ds [a]):∃v,ds=[v]/\Bd v a:=by
 cases h with
 |cons r t=>cases t;exact⟨_,rfl,r⟩
def ZdU(h:xs.length<=63):(m9 xs (O 4) aI).length<=59:=by
 unfold m9;have e:HT.iq xs.length 0 (O 4)=min 4 xs.length:=HT.Zd4 _ _ 4;exact Yz (List.length_take_le' _ _) (by rw[List.length_drop,e];omega)
def fQ.nu(h:fQ H CL L xs ys)(b:H T=O (.dz y))(g:aA T H j):fQ j CL L xs ys:=by
 obtain⟨x,d,m,f,w,n,k,l,st,i,c,v,u,s,r,q,p,o⟩:=h;have t:∀{a:U} {ns:Z Int},dF H a ns->dF j a ns:=λ{a ns} e=>g _ _ e (c8 e b (λz=>nomatch z));exact⟨x,d,m,f,w,n,k,l,st,g _ _ i (c8 i b (λz=>nomatch z)),g _ _ c (c8 c b (λz=>nomatch z)),t v,t u,t s,t r,t q,t p,t o⟩
def bU.nu(a:bU H CJ n c st)(b:H T=O (.dz i))(g:aA T H e):bU e CJ n c st:=
 ⟨let⟨d,h⟩:=a.obj;⟨d,g _ _ h (c8 h b (λz=>nomatch z))⟩,g _ _ a.heads (c8 a.heads b (λz=>nomatch z)),g _ _ a.gk (c8 a.gk b (λz=>nomatch z)),L2.Paired.aW a.lead λ_ _ h=>g _ _ h (c8 h b (λz=>nomatch z)),g _ _ a.iJ (c8 a.iJ b (λz=>nomatch z)),L2.Paired.aW a.mem λ_ _ h=>g _ _ h (c8 h b (λz=>nomatch z)),g _ _ a.frees (c8 a.frees b (λz=>nomatch z)),L2.Paired.aW a.free λ_ _ h=>g _ _ h (c8 h b (λz=>nomatch z)),a.nd,a.out⟩
theorem a_.nu(h:a_ H C CL CJ l xs q b)(k:H T=O (.dz F))(g:aA T H j):a_ j C CL CJ l xs q b:=by
 have t:∀{a:U} {o:HO},H a=O o->(∀s,o≠.dz s)->j a=O o:=λ{a o} e n=>g _ _ e (c8 e k (n _));have m:∀a d,jW H a d->jW j a d:=λ_ _ ⟨r,i,c⟩=>⟨r,t i λ_=>nofun,t c λ_=>nofun⟩;refine⟨let⟨E,e⟩:=h.obj;⟨E,t e λ_=>nofun⟩,λp o=>?_,t h.cH λ_=>nofun,t h.places λ_=>nofun,t h.facts λ_=>nofun,L2.Paired.aW h.fact λ_ _ e=>t e λ_=>nofun,t h.known λ_=>nofun,t h.parents λ_=>nofun,t h.done λ_=>nofun,L2.Paired.aW h.ka λ _ _=>m _ _,t h.h_ λ_=>nofun,L2.Paired.aW h.lO λ _ _=>m _ _,?_,h.nd⟩
 ·have x:=h.land (λa=>if a=T then H T else p a) λa u e n=>by
   by_cases z:a=T
   ·show(if a=T then _ else _)=_;rwa[br z,←z]
   ·show(if a=T then _ else _)=_;rw[bb z];exact o _ _ (g _ _ e z) n
  refine x.nu (by show(if T=T then _ else _)=_;rwa[br rfl]) λa u e z=>?_;have e:(if a=T then H T else p a)=O u:=e;rw[bb z] at e;exact e
 ·cases h.qa with
  |no i c=>exact .no i c
  |at_ y st i c A v len D=>exact .at_ y st i c (A.nu k g) v len D
def d_.nu(s:d_ C CL CJ H n z l b nl sd m sl)(c:H T=O (.dz p))(g:aA T H d):d_ C CL CJ d n z l b nl sd m sl:=by
 have t:∀{a:U} {o:HO},H a=O o->(∀i,o≠.dz i)->d a=O o:=λ{a o} e n=>g _ _ e (c8 e c (n _));exact⟨s.ba.nu c g,s.ok,t s.names λ_=>nofun,s.n1,t s.cH λ_=>nofun,s.n2,let⟨as,k,j⟩:=s.facts;⟨as,t k λ_=>nofun,L2.Paired.aW j λ_ _ e=>t e λ_=>nofun⟩,s.n3,let⟨as,ss,h⟩:=s.wK;⟨as,ss,t h.at_ λ_=>nofun,L2.Paired.aW h.pr λ_ _ e=>t e λ_=>nofun,h.len,h.all⟩,s.n4,s.nm,s.se,s.par,s.np⟩
def TabAt.bar(t:TabAt H T pos qual)(a:H D=O (.dK b))(g:aA D H d):TabAt d T pos qual:=by
 rcases t with t|⟨c,t,u⟩;·exact .inl (g _ _ t (c8 t a (λz=>nomatch z)))
 ·exact .inr ⟨c,g _ _ t (c8 t a (λz=>nomatch z)),g _ _ u (c8 u a (λz=>nomatch z))⟩
def TabAt.dz(t:TabAt H T pos qual):∃a,H T=O (.dz a):=by
 rcases t with t|⟨c,t,_⟩<;>exact⟨_,t⟩
def GO(s:SD b a k)(c:SD b a d)(x:af):cL k x=cL d x:=by
 unfold cL;rw[s.same c x]
def Zbl(s:SD b a k)(c:SD b a k'):lX ns k=lX ns k':=by
 unfold lX;rw[r_ (GO s c)]
def Zbm(g:SD b u d)(i:SD b u a)(e:SD b v c)(h:SD b v uW):jd ns d c=jd ns a uW:=by
 have k:kO ns d c=kO ns a uW:=by
  unfold kO;rw[show(λx:af=>(aF d (.inr x)).isSome&&(aF c (.inr x)).isSome)=λx=>(aF a (.inr x)).isSome&&(aF uW (.inr x)).isSome from r_ λx=>by rw[g.same i x,e.same h x]]
 have j:iM d c=iM a uW:=r_ λx=>by unfold iM;rw[GO g i,GO e h]
 unfold jd;rw[k,j]
def yZ(b:Z af)(a:Z (Key×V))(j:Nat):Z (af×Nat):=(List.range' 1 j).flatMap λm=>(b.filter λx=>decide (cL a x=m)).map λx=>(x,m)
def NK(b:Z af)(a:Z (Key×V))(j:Nat):yZ b a (j+1)=yZ b a j++(b.filter λx=>decide (cL a x=1+j)).map λx=>(x,1+j):=by
 unfold yZ;rw[List.range'_concat,Dc];simp
theorem OE(b:Z af)(a:Z (Key×V))(j:Nat):(yZ b a j).length<=j*b.length:=by
 induction j with
 |zero=>exact Yx _
 |succ j c=>
  rw[NK,Yq,Ya,Nat.succ_mul];exact UN c (Y3 _ _)
structure ST(b:BS)(H:Hp)(dd:U)(ks:Z af)(kvs:Z (Key×V)):Prop where
 at_:H dd=O (.dK kvs)
 yes:∀k∈ks,∃a kv,aF kvs (.inr k)=O (.ref a)/\H a=O (.dK kv)/\SD b k kv/\a≠dd
 no:∀k,k∉ks->aF kvs (.inr k)=aI
 len:kvs.length=ks.length
def ST.same(g:aq H m)(s:ST b H l d kvs):ST b m l d kvs:=⟨g _ _ s.at_,λk e=>let⟨a,c,j,i,h⟩:=s.yes k e;⟨a,c,j,g _ _ i,h⟩,s.no,s.len⟩
def ST.nu(c:H T=O (.dz o))(g:aA T H n)(s:ST b H m h kvs):ST b n m h kvs:=⟨g _ _ s.at_ (c8 s.at_ c (λz=>nomatch z)),λk i=>let⟨a,e,l,d,j⟩:=s.yes k i;⟨a,e,l,g _ _ d (c8 d c (λz=>nomatch z)),j⟩,s.no,s.len⟩
def ST.more(s:ST b H i q c)(v:k∉q)(x:H a=O (.dK p))(n:a≠i)(u:SD b k p)(g:aA i H t)(e:t i=O (.dK (putK c (.inr k) (.ref a)))):ST b t i (q++[k]) (c++[(.inr k,.ref a)]):=by
 have o:=s.no k v;rw[kG _ o] at e;refine⟨e,λk' d=>?_,λk' d=>?_,by rw[Yq,Yq,s.len];rfl⟩
 ·rcases Yu.mp d with h|h
  ·obtain⟨A,j,m,l,y,r⟩:=s.yes k' h;exact⟨A,j,by rw[vO,m];rfl,g _ _ l r,y,r⟩
  ·rw[Yl.mp h];exact⟨a,p,by rw[vO,o];exact gY rfl,g _ _ x n,u,n⟩
 ·have m:=λz=>d (Yk _ z);have l:(Sum.inr k:Key)≠.inr k':=λz=>d (Ye _ (by rw[Wl z];exact Yj));rw[vO,s.no k' m];exact jx l
theorem ZdV{xs:Z af}(h:(xs.map V.str)[i]?=O v):i<xs.length/\v=.str (xs.getD i "")/\xs.getD i ""∈xs:=by
 rw[Yi] at h;have a:i<xs.length:=by
  cases e:xs[i]? with
  |none=>rw[e] at h;cases h
  |some x=>exact(Yf.mp e).1
 rw[Yb a] at h;have b:xs.getD i ""=xs[i]:=by rw[Yd,Yb a];rfl
 exact⟨a,by exact b▸(Yr h).symm,by exact b▸Wg a⟩
theorem ZS(h:Paired F as bs)(k:Paired F cs ds):Paired F (as++cs) (bs++ds):=by
 induction h with
 |nil=>exact k
 |cons e _ a=>exact .cons e a
theorem NL(h:Paired (λa (q:af×Nat)=>H a=O (.tup [.str q.1,.int (q.2:Int)])) as b):Paired (At H 2) (as.map V.ref) (b.map λq=>.tup [.str q.1,.int (q.2:Int)]):=by
 induction h with
 |nil=>exact .nil
 |cons e _ c=>exact .cons (RA e (by show 2<=1000;decide) (.cons (Im _) (.cons (ZfV _) .nil))) c
theorem GP{H:Hp}{m:Nat}:∀a:Z af,Paired (At H m) (a.map V.str) (a.map Dt.str)
 |[]=>.nil
 |x::a=>.cons (Im x) (GP a)
theorem ZT{F:α->Prop}(h:Paired (λa _=>F a) as bs):∀a∈as,F a:=by
 induction h with
 |nil=>exact λ_ h=>nomatch h
 |cons e _ b=>
  intro a h;rcases Ys.mp h with rfl|h;·exact e
  ·exact b a h
def Ca(K:ae)(T:U):Sp:=λc H Q _=>∃(a:U) (b:Z Int),c=[.ref a]/\aj K H a (b.map V.int)/\b.length<=63/\H T=O (.dz #[])/\∀d,Q (.bl ar) d
def nW(h:∀b,b=u->tR a b D σ H):tR a u D σ H:=h u rfl
abbrev CK:Z af:=["_law_script"]
def gg:aS ["_law_script","_law_size","_law_alone","_law_book","_law_salt","_law_names","_law_sides","_law_k","_law_facts","_law_steps_here","_law_name_here","_law_due","_law_many","_law_drawn","_law_few","_law_one","_law_other","_law_pairs"] CK (aL tL):=.bg
theorem ZgE(F:aP K "law" "law" tL f fd)(sE:HasFn P w K mg B 1 "_law_cell" Dm (Ro K))(sv:HasFn P w K mg B 1 "_law_draws" Dn (Hs K))(sy:HasFn P w K mg B 4 "_law_same" oY (sY 4))(Gs:HasFn P w K mg B 1 "_law_name" Ku R5)(F5:HasFn P w K mg B 13 "_law_build" KA (OD C CL CJ))(F6:HasFn P w K mg B 1 "_law_steps" wH QP)(yb:HasFn P w K mg B 12 "_law_asked" KC (QX C CL CJ T))(Fx:HasFn P w K mg B 1 "_law_common" Kx SV)
  (GQ:HasFn P w K mg B 7 "land_of" Cs (O6 CL))(Hj:we P w K mg B 1 "Hearth" C CD (QB C CL CJ))(ER:cG P w K mg B 11 "person" C CC (Po C CL CJ))(bl:Bl mg):aH P w K mg B (nH P w) 16 f fd CK (Ca K T):=by
 refine F.K2 gg (λvs H Q E h=>?_) (λaU A outer s H vs Q E N h=>?_)
 ·obtain⟨a,ns,rfl,_⟩:=h;rfl
 obtain⟨a,ns,rfl,hs,hlen,hT,q⟩:=h;have hu:=N.oC;refine⟨_,(av (cF 0 gg.nd (A5 (A8 (K:=K) rfl) (pv 0) Bh (Bi aT))) (av (cF 1 gg.nd (bc hV aT (bc hZ (bq sE N (aa (pv 0) (aa aT ai))) aT))) (av (cF 2 gg.nd (jv (X_ rfl) rfl bl.vP vI (aa (jv MV rfl bl.oy A6 (aa (pv 1) ai)) ai))) (av (fh (i:=3) gg.nd rfl (nq rfl) (IZ Hj N (by omega) rfl (aa (bq GQ N (aa (pv 2) (aa (pv 2) ai))) ai))) (av (fh (i:=4) gg.nd rfl (nq rfl) (bc hZ (bq sE N (aa (pv 0) (aa aT ai))) aT)) (av (fh (i:=5) gg.nd rfl (nq rfl) (jz (x:="_law_k") (fr:=[("_law_salt",4)]) (cl:=[("_law_salt",s.heap.objs.size+1+1)]) rfl (.fD ⟨rfl,trivial⟩ ⟨⟨rfl,.inl rfl,.inl rfl,rfl⟩,trivial⟩) (yf rfl bl.oy (aa (bc hV aT (bc hZ (bq sE N (aa (pv 0) (aa aT ai))) aT)) ai)) (λ_ _ _ _=>lN) (λ_ _ _ _=>(yS Gs N (by decide) rfl (aa (pv 0) (aa (pv 1) ai)))))) (av (cF 6 gg.nd sF) (av (jb y_ rfl (yf rfl bl.oy (aa (fE K bl (pv 5)) ai)) (cz 7 gg.nd) (av (oi (bu N) (pv 6) (bO (iL K) (pv 5) (pv 7)) (bO (iL K) (eG (aa dP (aa dP ai))) (bO (iL K) (bq sv N (aa (bc hV (bq sE N (aa (pv 0) (aa aT ai))) (pv 7)) (aa (eG (aa aT ai)) ai))) aT))) (aC (cu (dE ER N (by decide) (pv 3) (aa (bO (iL K) (pv 5) (pv 7)) (aa (dD (bu N) (pv 6) (bO (iL K) (pv 5) (pv 7)) (λ_ _=>rfl)) ai))))))) (av (cF 8 gg.nd (bq F5 N (aa (pv 3) (aa (A5 (A8 (K:=K) rfl) (pv 0) (Bi aT) Bh) (aa (pv 5) (aa (pv 6) ai)))))) (av (fh (i:=9) gg.nd rfl (nq rfl) sF) (av (jb y_ rfl (eR (K:=K) rfl (pv 5)) (jT (i:=10) gg.nd rfl (nq rfl)) (av (oi (bu N) (pv 9) (pv 10) (bq F6 N (aa (pv 8) (aa (pv 10) ai)))) (av (cF 11 gg.nd (eG ai)) (av (jb y_ rfl (Zby rfl bl.oy (aa aT (aa (fE K bl (pv 5)) ai))) (jT (i:=12) gg.nd rfl (nq rfl)) (aC (cF 11 gg.nd (bc vQ (pv 11) (jz (x:="_law_one") (fr:=[("_law_steps_here",9),("_law_name_here",10),("_law_many",12)]) (cl:=[("_law_steps_here",s.heap.objs.size+1+1+1+1),("_law_name_here",s.heap.objs.size+1+1+1+1+1),("_law_many",s.heap.objs.size+1+1+1+1+1+1)]) rfl (.fD ⟨rfl,⟨rfl,⟨rfl,trivial⟩⟩⟩ ⟨⟨rfl,.inl rfl,.inl rfl,rfl⟩,⟨⟨rfl,.inl rfl,.inl rfl,rfl⟩,⟨⟨rfl,.inl rfl,.inl rfl,rfl⟩,trivial⟩⟩⟩) (eR (K:=K) rfl (pv 5)) (λ_ _ _ _=>ot (cA dv (ZcS (bu N) (dD (bu N) (pv 1) (pv 2) (λ_ _=>rfl)) (pv 0) aT ⟨rfl,rfl,rfl,rfl⟩) (pv 3))) (λ_ _ _ _=>(eS (aa (pv 0) (aa (pv 3) ai))))))))) (aC (bw (kK (hU (bq sy N (aa (bq yb N (aa (pv 3) (aa (pv 10) (aa dP ai)))) (aa (pv 11) ai))))) (aC (aX mY)) bI)))))) (av (cF 13 gg.nd (bq sv N (aa (bc hV (bq sE N (aa (pv 0) (aa aT ai))) aT) (aa (eG (aa aT (aa aT (aa aT (aa aT ai))))) ai)))) (av (cF 14 gg.nd (bc vQ (bc vQ (A5 (A8 (K:=K) rfl) (pv 5) Bh (Bi aT)) (A5 (A8 (K:=K) rfl) (pv 5) (Bi (ZgP Zfo aT)) Bh)) (jz (x:="_law_at") (fr:=[("_law_names",5)]) (cl:=[("_law_names",s.heap.objs.size+1+1+1)]) rfl (.fD ⟨rfl,trivial⟩ ⟨⟨rfl,.inl rfl,.inl rfl,rfl⟩,trivial⟩) (eR (K:=K) rfl (pv 13)) (λ_ _ _ _=>lN) (λ_ _ _ _=>(bO (iL K) (pv 1) (bc hZ (pv 0) (fE K bl (pv 1)))))))) (av (jb y_ rfl (eR (K:=K) rfl (pv 14)) (cz 15 gg.nd) (aC (jb y_ rfl (eR (K:=K) rfl (pv 14)) (cz 16 gg.nd) (aC (bw (kK (hU (bq sy N (aa (bq yb N (aa (pv 3) (aa (pv 15) (aa (pv 16) ai)))) (aa (bq Fx N (aa (dD (bu N) (pv 9) (pv 15) (λ_ _=>rfl)) (aa (dD (bu N) (pv 9) (pv 16) (λ_ _=>rfl)) (aa (pv 5) ai)))) ai))))) (aC (aX mY)) bI))))) (av (cF 17 gg.nd (eG (aa (eS (aa dP (aa dP ai))) (aa (eS (aa dP (aa (bO (iL K) (pv 5) aT) ai))) (aa (eS (aa (bO (iL K) (pv 5) aT) (aa dP ai))) ai))))) (aC (aX (gW (Kb (K:=K) rfl rfl) rfl bl.IW Ig (aa (OR (xs:=["_law_one","_law_other"]) (fr:=[("_law_book",3)]) (cl:=[("_law_book",s.heap.objs.size+1)]) rfl (.fD ⟨rfl,trivial⟩ ⟨⟨rfl,.inl rfl,.inl rfl,rfl⟩,trivial⟩) (λ_ _ _ _=>(mU (K:=K) (n:=2) rfl rfl (cS (jT (i:=0) (show(["_law_one","_law_other","_law_book"]:Z af).Nodup by decide+kernel) rfl (xx rfl)) (cS (jT (i:=1) (show(["_law_one","_law_other","_law_book"]:Z af).Nodup by decide+kernel) rfl (xx rfl)) mT)))) (eR (K:=K) rfl (pv 17)) (λ_ _ _ _=>lN) (λ_ _ _ _=>(yS sy N (by decide) rfl (aa (yS yb N (by decide) rfl (aa (pv 2) (aa (pv 0) (aa (pv 1) ai)))) (aa (eS (aa dP (aa mY ai))) ai))))) ai))))))))))))))))))),?_⟩;have sz:(10000:Nat)<=sizeLine:=by rw[sV];decide
 obtain⟨ms,em⟩:=OK ns aI (O 63);have lms:ms.length<=ns.length:=by
  have:=AF (ns.map V.int) aI (O 63);rw[em,Ya,Ya] at this;exact this
 obtain⟨cs,ec⟩:=OK ms (O 4) aI;have lcs:cs.length<=59:=by
  have:=ZdU (xs:=ms.map V.int) (by rw[Ya];exact d4 lms hlen);rw[ec,Ya] at this;exact this
 refine nW λG R=>?_;refine bT ?_;refine⟨_,rfl,_,rfl,a,_,rfl,hs,λW H0 n1 g0 As=>?_⟩;rw[em] at As;subst R;refine nW λG R=>?_;refine bT ?_;refine⟨_,rfl,W,ms,0,rfl,aj.of As,Ll 0,λc0=>⟨_,_,rfl,rfl,(by show(0:Int)<7;decide),_,_,rfl,rfl,?_⟩⟩;try dsimp only
 have m0:=Jp c0 (show(7:Int)≠0 by decide);have m1:=W8 c0 (show(0:Int)<7 by decide);obtain⟨n,en⟩:∃n:Nat,2+c0 % 7=(n:Int):=⟨(2+c0 % 7).toNat,by omega⟩;rw[en];have n2:2<=n:=by omega
 have n8:n<=8:=by omega
 subst R;refine nW λG R=>?_;refine bT ?_;refine⟨_,rfl,_,rfl,λrp H1 nrp g1 hrp=>⟨rp,n,rfl,hrp,d4 n8 (by decide),λal H2 nal g2 Xm=>?_⟩⟩;have lu:=fX n;have gd:yX (aE n) (aE n):=⟨qV (Tt _),qV (Tt _),rfl,by omega,d4 (gR lu) n8⟩;subst R;refine nW λG R=>?_;refine bT ?_;refine⟨_,rfl,_,rfl,al,al,aE n,aE n,rfl,Xm,Xm,gd.1,gd.2.1,gd.2.2.1,gd.2.2.2.1,gd.2.2.2.2,λLd H4 g4 la=>λx dx nx zU nd=>?_⟩;have zV:upd H4 dx (.own x) x=aI:=by rw[az (λz=>nd z.symm)];exact nx
 obtain⟨H5,e5⟩:∃H5,H5=upd (upd H4 dx (.own x)) x (.ins C dx []):=⟨_,rfl⟩;have g5:aq H4 H5:=by rw[e5];exact(cY zU _).trans (cY zV _)
 have hx5:H5 x=O (.ins C dx []):=by rw[e5];exact aM
 rw[←e5];refine⟨x,dx,Ld,aE n,aE n,rfl,hx5,la.same g5,λl H6 eh DV b6 ba=>⟨rfl,?_⟩⟩;subst eh;have keep:∀{a:U} {o:HO},H4 a=O o->H6 a=O o/\a∉l.fp:=λ{a o} e=>by
  have na:a≠l.h:=bW e nx;refine⟨b6 _ _ (g5 _ _ e) na,λz=>?_⟩;have:=DV a z na;rw[g5 _ _ e] at this;cases this
 obtain⟨D_,ns6⟩:=keep (g4 _ _ (g2 _ _ (g1 _ _ As)));obtain⟨hT6,nT6⟩:=keep (g4 _ _ (g2 _ _ (g1 _ _ (g0 _ _ hT))));subst R;refine nW λG R=>?_;refine bT ?_;refine⟨_,rfl,W,ms,1,rfl,aj.of D_,by decide,λc3=>⟨_,_,rfl,rfl,(by show(0:Int)<97;decide),?_⟩⟩;try dsimp only
 have z0:=Jp c3 (show(97:Int)≠0 by decide);have z1:=W8 c3 (show(0:Int)<97 by decide);obtain⟨z,ez⟩:∃z:Nat,c3 % 97=(z:Int):=⟨(c3 % 97).toNat,kh (wQ z0)⟩;rw[ez];have hz:z<97:=by omega
 subst R;refine nW λG R=>?_;refine bT ?_;refine⟨_,rfl,W,ms,2,rfl,aj.of D_,by decide,λc4=>⟨_,_,rfl,rfl,(by show(0:Int)<30;decide),_,_,rfl,rfl,?_⟩⟩;try dsimp only
 have m0:=Jp c4 (show(30:Int)≠0 by decide);have m1:=W8 c4 (show(0:Int)<30 by decide);obtain⟨m,em⟩:∃m:Nat,2+c4 % 30=(m:Int):=⟨(2+c4 % 30).toNat,by omega⟩;rw[em];have m31:m<=31:=by omega
 have mp:2<=m:=by omega
 refine⟨(m:Int),rfl,by omega,by omega,λD hD=>F9 (lo:=0) (n:=(m:Int).toNat) (λi zs H7=>aq H6 H7/\H7 D=O (.lst zs)/\zs=(List.range i).map λk=>V.str (cQ z k)) ⟨cY hD _,aM,rfl⟩ ?_ ?_⟩
 ·rintro i zs H7 hi ⟨g7,h7,e7⟩;rw[We] at hi;rw[TF];refine lY (dI ⟨_,rfl,_,rfl,i,z,rfl,by omega,hz,h7,by rw[e7,Ya,Ws];omega,λd o qd=>?_,aM,?_⟩)
  ·rw[az (bW qd hD)];exact g7 d o qd
  ·rw[e7,UJ,Yt];rfl
 subst R;rintro zs H7 ⟨g7,h7,e7⟩;rw[We] at e7;subst e7;refine bP ?_;dsimp only;refine bT ?_;refine λsd H8 Mz g8 h8=>?_;have Xn:=g8 _ _ h7;have Xo:D≠sd:=bW h7 Mz;have nss:W≠sd:=bW (g7 _ _ D_) Mz;have Xp:((List.range m).map λk=>V.str (cQ z k)).length=m:=by rw[Ya,Ws]
 have p0:iZ C CL CJ H8 n z 0 m l.h W D sd ms T l ⟨[],[],0,[],[]⟩:=⟨rfl,(ba.same g7).same g8,.nil gd,g8 _ _ (g7 _ _ D_),ns6,Xn,ba.fresh hD,h8,(ba.same g7).fresh Mz,rfl,λq hq=>(nomatch hq),rfl,rfl,rfl,g8 _ _ (g7 _ _ hT6),nT6⟩;refine jV (λL J=>∃(l':BL) (b:BS) (o7:bt V),iZ C CL CJ J n z m m l.h W D sd ms T l' b/\L=[O (.ref W),O (.int (n:Int)),O (.ref al),O (.ref l.h),O (.int (z:Int)),O (.ref D),O (.ref sd),o7,aI,aI,aI,aI,aI,aI,aI,aI,aI,aI]) (λDD nQ=>?_) ?_
 ·refine⟨_,rfl,D,_,rfl,.inl (aj.of Xn),_,rfl,by omega,by omega,Gu (lo:=0) (n:=((((List.range m).map λk=>V.str (cQ z k)).length:Nat):Int).toNat) (λj L J=>∃(l':BL) (b:BS) (o7:bt V),iZ C CL CJ J n z j m l.h W D sd ms T l' b/\L=[O (.ref W),O (.int (n:Int)),O (.ref al),O (.ref l.h),O (.int (z:Int)),O (.ref D),O (.ref sd),o7,aI,aI,aI,aI,aI,aI,aI,aI,aI,aI]) ⟨l,_,aI,p0,rfl⟩ ?_ ?_⟩
  ·rintro j L H9 hj ⟨l',b,o7,p,rfl⟩;rw[We,Xp] at hj;rw[TF];have pl:=p.len;refine bP ?_;refine⟨by show 2<=sizeLine;decide,λsl HA pd gA MA=>?_⟩;have pA:=p.same gA;refine⟨_,rfl,W,ms,3,rfl,aj.of pA.sc,by decide,λc3=>⟨_,rfl,_,_,rfl,rfl,by show 1<=sizeLine;decide,λpq HB npq gB MB=>⟨_,pq,[2],rfl,aj.of MB,by decide,by decide,λdr ds HC ndr gC uU bd=>?_⟩⟩⟩;obtain⟨d0,rfl,b0⟩:=Zfa bd;obtain⟨sx,es,hx,so⟩:∃sx:af,fM [V.str "man",V.str "woman"] d0=O (.str sx)/\(sx="man"\/sx="woman")/\BK sx=ar:=by
    have:d0=0\/d0=1:=by unfold Bd at b0;omega
    rcases this with rfl|rfl;·exact⟨_,rfl,.inl rfl,by decide+kernel⟩
    ·exact⟨_,rfl,.inr rfl,by decide+kernel⟩
   have pC:=pA.same (gB.trans gC);have MC:fM ((List.range m).map λk=>V.str (cQ z k)) (j:Int)=O (.str (cQ z j)):=eA (by rw[Yi,UW hj];rfl);refine⟨dr,_,_,.int d0,rfl,rfl,aj.of uU,rfl,sl,_,_,.str sx,rfl,rfl,aj.of (gC _ _ (gB _ _ MA)),es,?_⟩;refine⟨_,rfl,_,rfl,_,rfl,D,_,_,.str (cQ z j),rfl,rfl,aj.of pC.names,MC,sd,_,.inr (cQ z j),rfl,pC.cH,rfl,by rw[Ya];omega,λHD bD eD=>?_⟩;have vn:=pC.none_ (show j<60 by omega);rw[kG _ vn] at eD;have eD':HD sd=O (.dK (fO (b.ps++[(cQ z j,sx)]))):=by
    rw[eD];show _=O (HO.dK ((b.ps++[(cQ z j,sx)]).map _));rw[Yt];rfl
   have D9:=pC.ba.bar pC.cH pC.n2 bD;obtain⟨dx,ho⟩:=D9.obj;have eh:=pC.eh;rw[eh] at ho;have Xq:=bD _ _ pC.names Xo;refine⟨_,rfl,l.h,dx,_,rfl,ho,rfl,_,rfl,_,rfl,D,_,_,_,rfl,rfl,aj.of Xq,MC,_,rfl,_,rfl,_,rfl,D,_,_,_,rfl,rfl,aj.of Xq,MC,sd,.str sx,rfl,dt eD (by rw[vO,vn];exact gY rfl),l',b,aE n,aE n,cQ z j,sx,by rw[eh];rfl,D9,pC.ok,pC.new (by omega) sx so,by have:=pC.dl;omega,λAu HE wt ba9=>?_⟩;exact⟨Au,_,_,pC.more (by omega) hx bD Xo nss eD' wt ba9 so,rfl⟩
  ·rintro L H9 ⟨l',b,o7,p,rfl⟩;rw[We,Xp] at p;exact nQ _ _ ⟨l',b,o7,p,rfl⟩
 rintro L H9 ⟨l',b,o7,p,rfl⟩;have pl:=p.len;refine nW λG R=>?_;refine bT ?_;refine⟨_,rfl,_,rfl,_,rfl,W,_,rfl,aj.of p.sc,λca HA nca gA hca=>⟨_,rfl,_,rfl,n,z,l',b,ca,D,sd,cs,by rw[p.eh];rfl,n2,by rw[hca,ec],p.ba.fresh nca,js lcs,λfl sl HB gB Mr pd uw MA=>(p.same gA).all mp gB Mr pd uw MA,p.nf,by have:=p.dl;omega,λl2 X fl sl HB wt s2 qM lf ld=>?_⟩⟩;have pA:=p.same gA;have jn:=(wt.off pA.sc pA.n0).1;have Av:=(wt.off pA.tab pA.n5).1;have e2:l2.h=l.h:=wt.h.trans p.eh;have zW:X.ps.length=m:=by rw[qM];exact pl
 obtain⟨I,eN⟩:∃I,I=X.ps.map (·.1):=⟨_,rfl⟩;have eV:(X.ps.map λp=>V.str p.1)=I.map V.str:=by rw[eN,Y0];rfl
 have pd:I.length=m:=by rw[eN,Ya];exact zW
 have nnd:I.Nodup:=by rw[eN];exact s2.ok.nm
 have ph:∀x∈I,x∈X.ps.map (·.1)/\x.length<=1000/\x≠""/\x≠"stranger":=λx hx=>by
  rw[eN] at hx;refine⟨hx,?_⟩;rw[s2.nm] at hx;obtain⟨k,hk,rfl⟩:=Yh.mp hx;have hk:=Wf.mp hk;have Xr:k<60:=by omega
  obtain⟨f1,f2⟩:=NG (z:=z) Xr;exact⟨d4 f2 (by decide),λe=>by rw[e] at f1;exact absurd f1 (by decide+kernel),ZdM z k Xr⟩
 have qL:HB D=O (.lst (I.map V.str)):=by rw[s2.names,eV]
 have ZiK:∀c∈X.Pa.F,bC c.k=ar:=λc hc=>by
  obtain⟨q,hq,rfl⟩:=Yh.mp (show c∈X.Pa.fs.map (·.2) from hc);exact(Yy.mp hq).2
 have okP:=s2.ok.Pa;have zm:∀{J:Hp},aA T HB J->∀{a:U} {o:HO},HB a=O o->(∀ps,o≠.dz ps)->J a=O o:=λg a o e n=>g _ _ e (c8 e Av (n _));subst R;refine nW λG R=>?_;refine bT ?_;refine λdd HC ndd gC hdd=>?_;have xf:ST X HC dd (I.take 0) []:=⟨hdd,λk hk=>(nomatch hk),λk _=>rfl,rfl⟩;subst R;refine jV (λL J=>∃(kvs:Z (Key×V)) (iD iE jS:bt V),aA T HB J/\TabAt J T xR xS/\ST X J dd I kvs/\L=[O (.ref W),O (.int (n:Int)),O (.ref al),O (.ref l.h),O (.int (z:Int)),O (.ref D),O (.ref sd),o7,O (.ref fl),O (.ref dd),iD,iE,jS,aI,aI,aI,aI,aI]) (λDQ rY=>?_) ?_
 ·refine⟨_,rfl,D,rfl,⟨_,aj.of (gC _ _ qL)⟩,mS (K:=K) (a:=D) (xs:=I.map V.str) (λi L J=>∃(kvs:Z (Key×V)) (iD iE jS:bt V),aA T HB J/\TabAt J T xR xS/\ST X J dd (I.take i) kvs/\L=[O (.ref W),O (.int (n:Int)),O (.ref al),O (.ref l.h),O (.int (z:Int)),O (.ref D),O (.ref sd),o7,O (.ref fl),O (.ref dd),iD,iE,jS,aI,aI,aI,aI,aI]) ⟨[],aI,aI,aI,aA.of gC,.inl (gC _ _ Av),xf,rfl⟩ (λi L J _ ⟨_,_,_,_,g,_⟩=>aj.of (zm g qL λ_=>nofun)) ?_ ?_⟩
  ·rintro i v L J hi ⟨kvs,iD,iE,jS,g,tb,st,rfl⟩;rw[Yi] at hi;obtain⟨x,ex,rfl⟩:∃x,I[i]?=O x/\V.str x=v:=by
    cases e:I[i]? with
    |none=>rw[e] at hi;cases hi
    |some c=>rw[e] at hi;exact⟨c,rfl,Yr hi⟩
   have dB:=(Yf.mp ex).1;have mx:=Ym ex;obtain⟨x1,x2,x3,x4⟩:=ph x mx;have tk:I.take (i+1)=I.take i++[x]:=by rw[Y8,ex];rfl
   have nx:x∉I.take i:=λh=>by
    have:=nnd;rw[←List.take_append_drop (i+1) I,tk] at this;have:=(Wp.mp (Wp.mp this).1).2.2 x h x Yj;exact this rfl
   have s3:=s2.nu Av g;refine bP ?_;refine⟨_,rfl,_,rfl,fl,aE n,aE n,X.Pa,x,rfl,s3.FL,okP,ZiK,x1,λp kv HD gD np hp sdP kl=>?_⟩;have Ea:=st.same gD;refine⟨_,rfl,_,rfl,dd,_,.inr x,rfl,Ea.at_,rfl,by rw[Ea.len,Wi];omega,λHE bE eE=>?_⟩;have DF:p≠dd:=λe=>by rw[e,st.at_] at np;cases np
   have Ec:=sdP.ofP;have MD:=Ea.more nx hp DF Ec bE eE;rw[←tk] at MD;have gE:aA T HB HE:=λa o e na=>bE _ _ (gD _ _ (g _ _ e na)) (bW e ndd);have Xs:=TabAt.bar (tb.same gD) Ea.at_ bE;have hpE:=bE _ _ hp DF;dsimp only;refine bT ?_;refine⟨by show 0<=sizeLine;decide,λdu0 HF nF gF hF=>?_⟩;have kvx:aF (kvs++[(.inr x,.ref p)]) (.inr x)=O (.ref p):=by rw[vO,st.no x nx];exact gY rfl
   refine jV (λL J=>∃(du:U) (as:Z U) (jS:bt V),aq HE J/\J du=O (.lst (as.map V.ref))/\Paired (λa (q:af×Nat)=>J a=O (.tup [.str q.1,.int (q.2:Int)])) as (lX I kv)/\L=[O (.ref W),O (.int (n:Int)),O (.ref al),O (.ref l.h),O (.int (z:Int)),O (.ref D),O (.ref sd),o7,O (.ref fl),O (.ref dd),O (.str x),O (.ref du),jS,aI,aI,aI,aI,aI]) (λAi qo=>?_) ?_
   ·have LX:(I.map V.str).length=m:=by rw[Ya];exact pd
    have hDF:=gF _ _ (zm gE qL λ_=>nofun);refine⟨_,rfl,D,_,rfl,.inl (aj.of hDF),1,_,rfl,⟨by decide,by decide,by omega,by omega⟩,Gu (lo:=1) (n:=((((I.map V.str).length:Nat):Int)-1).toNat) (λj L J=>∃(du:U) (as:Z U) (jS:bt V),aq HE J/\J du=O (.lst (as.map V.ref))/\Paired (λa (q:af×Nat)=>J a=O (.tup [.str q.1,.int (q.2:Int)])) as (yZ I kv j)/\L=[O (.ref W),O (.int (n:Int)),O (.ref al),O (.ref l.h),O (.int (z:Int)),O (.ref D),O (.ref sd),o7,O (.ref fl),O (.ref dd),O (.str x),O (.ref du),jS,aI,aI,aI,aI,aI]) ⟨du0,[],jS,gF,hF,.nil,rfl⟩ ?_ ?_⟩
    ·rintro j L HG hj ⟨du,as,KD,gG,xW,fZ,rfl⟩;have Ls:j<I.length-1:=by
      have e:((((I.map V.str).length:Nat):Int)-1).toNat=I.length-1:=by rw[Ya];omega
      rw[e] at hj;exact hj
     have e1j:(1:Int)+(j:Int)=((1+j:Nat):Int):=rfl
     rw[e1j];have lU:=OE I kv j;have la:=dC fZ;have jm:j*I.length<=30*31:=Dg (by omega) (by omega);refine bP ?_;have Xt:=gG _ _ (zm gE qL λ_=>nofun);have stG:=MD.same gG;refine⟨_,rfl,_,rfl,D,rfl,⟨_,aj.of Xt⟩,λD3 qI=>oa (K:=K) (aj.of Xt) (by omega) qI (λi=>decide (cL kv (I.getD i "")=1+j)) (λi y J=>∃t,y=.ref t/\t≠D3/\J t=O (.tup [.str (I.getD i ""),.int ((1+j:Nat):Int)])) (λi y Ha Hb bar ⟨t,e,n,h⟩=>⟨t,e,n,bar _ _ h n⟩) (λi v hi HH gH Ed Kt Kf kt kf=>?_) λus HH gH hH pr=>?_⟩
     ·obtain⟨oD,qp⟩:=Ed;obtain⟨_,rfl,mx'⟩:=ZdV hi;generalize I.getD i ""=y at mx' kt kf;have stH:=stG.same gH;have Xu:=gH _ _ (gG _ _ hpE);have gv:(aF kv (.inr y)).getD (.int 0)=.int (cL kv y:Int):=by
       by_cases h:(aF kv (.inr y)).isSome=ar
       ·rw[yC Ec (B_ Ec h)];rfl
       ·have:aF kv (.inr y)=aI:=by
         cases e:aF kv (.inr y) with
         |none=>rfl
         |some _=>rw[e] at h;exact absurd rfl h
        unfold cL;rw[this];rfl
      refine⟨_,rfl,_,rfl,dd,_,rfl,dt stH.at_ kvx,p,rfl,.inl ⟨_,.inl Xu⟩,_,rfl,_,dt Xu rfl,?_⟩;rw[gv];refine⟨_,rfl,rfl,_,rfl,bR (λc=>?_) (λc=>kf _ ?_ (aq.refl _))⟩
      ·refine⟨_,rfl,_,rfl,by show 2<=sizeLine;decide,λt H4 nt g4 ht=>kt _ _ ?_ g4 ⟨t,rfl,(λe=>by rw[e,qp] at nt;cases nt),ht⟩⟩;have:=V.int.inj (Tp c);exact Tq (km this)
      ·exact U5 λe=>c (Tq (by rw[e]))
     rw[Ya] at pr;obtain⟨Fs,eF⟩:∃Fs,Fs=I.filter λy=>decide (cL kv y=1+j):=⟨_,rfl⟩;obtain⟨ts,rfl,pt⟩:∃ts:Z U,us=ts.map V.ref/\Paired (λt y=>HH t=O (.tup [.str y,.int ((1+j:Nat):Int)])) ts Fs:=by
      refine QL ?_;have:Fs=((List.range I.length).filter λi=>decide (cL kv (I.getD i "")=1+j)).map λi=>I.getD i "":=by
       rw[eF];conv=>lhs;rw[←range_getD I "",Wz]
       rfl
      rw[this];exact AK (L2.Paired.aW pr λy i ⟨t,e,_,h⟩=>⟨t,e,h⟩)
     have lF:Fs.length<=I.length:=by rw[eF];exact Y3 _ _
     have lt:=dC pt;refine⟨du,D3,_,_,rfl,rfl,gH _ _ xW,hH,by rw[Ya,Ya];omega,λdu' HI L7 gI ZiL=>?_⟩;refine⟨du',as++ts,_,(gG.trans gH).trans gI,by rw[ZiL,Yt],?_,rfl⟩;rw[NK,←eF];exact ZS (L2.Paired.aW fZ λ_ _ e=>gI _ _ (gH _ _ e)) (AK (L2.Paired.aW pt λ_ _ e=>gI _ _ e))
    ·rintro L HG ⟨du,as,KD,gG,xW,fZ,rfl⟩;refine qo _ _ ⟨du,as,KD,gG,xW,?_,rfl⟩;have e:((((I.map V.str).length:Nat):Int)-1).toNat=I.length-1:=by rw[Ya];omega
     rw[e] at fZ;exact fZ
   ·rintro L HG ⟨du,as,KD,gG,xW,fZ,rfl⟩;have Xv:aA T HB HG:=λa o e na=>gG _ _ (gE _ _ e na);have s4:=s2.nu Av Xv;refine⟨_,rfl,_,rfl,l2,X,aE n,aE n,x,"",by rw[e2];rfl,s4.ba,s4.ok,by omega,x2,by decide,Xs.same gG,λ_ _ p2 uB kv2 HH nK gH tbH eP DG=>?_,λh=>absurd rfl h,λh=>(h.elim (λh=>absurd x1 h) λh=>absurd rfl h.1)⟩;obtain⟨vs,ME⟩:=TabAt.dz (Xs.same gG);have fl2:lX (X.ps.map (·.1)) kv2=lX I kv:=by rw[←eN];exact Zbl nK Ec
    rw[fl2] at DG;have lf:(lX I kv).length<=1000:=Yz (OE I kv (I.length-1)) (Yz (Dg (show I.length-1<=30 by omega) (show I.length<=31 by omega)) (by decide));have ZiM:=gH _ _ xW (c8 xW ME (λz=>nomatch z));have ZiN:=L2.Paired.aW fZ λ_ _ e=>gH _ _ e (c8 e ME (λz=>nomatch z));refine⟨_,rfl,_,_,.lst ((lX I kv).map λq=>.tup [.str q.1,.int (q.2:Int)]),3,rfl,rfl,BC eP (by rw[Ya];exact lf) (NL DG),BC ZiM (by rw[Ya];exact lf) (NL ZiN),λHZ gZ=>⟨_,rfl,dh (bJ ?_)⟩⟩;exact⟨_,_,_,_,λa o e na=>gZ _ _ (gH _ _ (Xv _ _ e na) na),tbH.same gZ,((MD.same gG).nu ME gH).same gZ,rfl⟩
  ·rintro L J ⟨kvs,iD,iE,jS,g,tb,st,rfl⟩;rw[Ya,Wn] at st;exact rY _ _ ⟨kvs,iD,iE,jS,g,tb,st,rfl⟩
 rintro L J ⟨kvs,iD,iE,jS,g,tb,st,rfl⟩;have s3:=s2.nu Av g;have hs3:=zm g jn λ_=>nofun;have qI:=zm g qL λ_=>nofun;refine nW λG R=>?_;refine bT ?_;refine⟨_,rfl,W,ms,3,rfl,aj.of hs3,by decide,λc5=>⟨_,_,rfl,rfl,by show 4<=sizeLine;omega,λpq HD npq gD MB=>⟨_,pq,[61,59,53,47],rfl,aj.of MB,by decide,by decide,λdr ds HE ndr gE uU bd=>?_⟩⟩⟩;have Xw:=gD.trans gE;have MF:=Xw _ _ qI;have dl4:ds.length<=4:=by have:=dC bd;rw[this];decide
 subst R;refine nW λG R=>?_;refine bT ?_;have hDs:(I.map V.str).length=m:=by rw[Ya];exact pd
 have T8:(0:Int)<(((I.map V.str).length:Nat):Int):=by omega
 refine⟨_,rfl,_,rfl,D,_,rfl,aj.of MF,λf1 HF nf1 gF DS=>?_⟩;refine⟨_,rfl,_,rfl,_,rfl,D,_,rfl,aj.of (gF _ _ MF),λf2 HG nf2 gG DT=>?_⟩;have l1:=AF (I.map V.str) aI (O 1);have l2':=AF (I.map V.str) (O (-1)) aI;refine⟨f1,f2,_,_,rfl,rfl,gG _ _ DS,DT,by omega,λf3 HH nf3 gH hf3=>?_⟩;have MG:=(gF.trans gG).trans gH;have Ed:=MG _ _ MF;have T9:=MG _ _ uU;refine⟨_,rfl,dr,rfl,⟨_,aj.of T9⟩,λD4 WY=>oa (K:=K) (aj.of T9) (by rw[Ya];omega) WY (λ_=>ar) (λ_ y _=>y∈I.map V.str) (λ_ _ _ _ _ h=>h) (λi v hi HI gI hDI Kt Kf kt kf=>?_) λus HI gI hI pr=>?_⟩
 ·obtain⟨d,rfl,_⟩:=ou hi;obtain⟨j,hj,ej⟩:∃j:Nat,j<(I.map V.str).length/\d % (((I.map V.str).length:Nat):Int)=(j:Int):=by
   have h1:=Jp d (show(((I.map V.str).length:Nat):Int)≠0 by omega);have h2:=W8 d T8;exact⟨(d % (((I.map V.str).length:Nat):Int)).toNat,by omega,kh (wQ h1)⟩
  refine lY (dI ⟨_,rfl,_,rfl,_,rfl,D,_,rfl,.inl (aj.of (gI _ _ Ed)),_,_,rfl,rfl,T8,D,_,_,_,rfl,rfl,aj.of (gI _ _ Ed),by rw[ej];exact eA (Yb hj),kt _ _ rfl (aq.refl _) (Wg hj)⟩)
 have ul:us.length<=4:=by
  rw[dC pr];refine Yz (Y3 _ _) ?_;rw[Ws,Ya];exact dl4
 have um:∀v∈us,v∈I.map V.str:=ZT pr;refine⟨f3,D4,_,_,rfl,rfl,gI _ _ hf3,hI,by rw[Yq];omega,λfw HX nfw gX Aw=>?_⟩;obtain⟨fs,Xx⟩:∃fs,fs=m9 (I.map V.str) aI (O 1)++m9 (I.map V.str) (O (-1)) aI++us:=⟨_,rfl⟩;rw[←Xx] at Aw;have fm:∀v∈fs,∃x∈I,v=.str x:=λv hv=>by
  have:v∈I.map V.str:=by
   rw[Xx] at hv;rcases Yu.mp hv with hv|hv
   ·rcases Yu.mp hv with hv|hv;·exact Tf (VI hv)
    ·exact Tf (VI hv)
   ·exact um v hv
  obtain⟨x,hx,e⟩:=Yh.mp this;exact⟨x,hx,e.symm⟩
 have Ee:=(Xw.trans MG).trans (gI.trans gX);have sX:=s3.same Ee;have stX:=st.same Ee;have Xy:=tb.same Ee;have Xz:=Ee _ _ qI;subst R;refine jV (λL J=>∃(Ax pH:bt V),aq HX J/\L=[O (.ref W),O (.int (n:Int)),O (.ref al),O (.ref l.h),O (.int (z:Int)),O (.ref D),O (.ref sd),o7,O (.ref fl),O (.ref dd),iD,iE,jS,O (.ref dr),O (.ref fw),Ax,pH,aI]) (λnx3 hn3=>?_) ?_
 ·refine⟨_,rfl,fw,rfl,⟨_,aj.of Aw⟩,mS (K:=K) (a:=fw) (xs:=fs) (λi L J=>∃(Ax pH:bt V),aq HX J/\L=[O (.ref W),O (.int (n:Int)),O (.ref al),O (.ref l.h),O (.int (z:Int)),O (.ref D),O (.ref sd),o7,O (.ref fl),O (.ref dd),iD,iE,jS,O (.ref dr),O (.ref fw),Ax,pH,aI]) ⟨aI,aI,aq.refl _,rfl⟩ (λi L J _ ⟨_,_,g,_⟩=>aj.of (g _ _ Aw)) ?_ (λL J h=>hn3 _ _ h)⟩;rintro i v L HJ hi ⟨Ax,pH,gJ,rfl⟩;obtain⟨u,mu,rfl⟩:=fm v (Ym hi);refine bP ?_;refine⟨_,rfl,fw,rfl,⟨_,aj.of (gJ _ _ Aw)⟩,mS (K:=K) (a:=fw) (xs:=fs) (λi L J=>∃(pH:bt V),aq HX J/\L=[O (.ref W),O (.int (n:Int)),O (.ref al),O (.ref l.h),O (.int (z:Int)),O (.ref D),O (.ref sd),o7,O (.ref fl),O (.ref dd),iD,iE,jS,O (.ref dr),O (.ref fw),O (.str u),pH,aI]) ⟨_,gJ,rfl⟩ (λi L J _ ⟨_,g,_⟩=>aj.of (g _ _ Aw)) ?_ (λL J ⟨pH,g,e⟩=>⟨_,pH,g,e⟩)⟩;rintro i' v L HK fY ⟨pH,gK,rfl⟩;obtain⟨w',mw,rfl⟩:=fm v (Ym fY);obtain⟨u1,u2,u3,u4⟩:=ph u mu;obtain⟨w1,w2,w3,w4⟩:=ph w' mw;have sK:=sX.same gK;have stK:=stX.same gK;obtain⟨a1,k1,va1,Lr,qJ,_⟩:=stK.yes u mu;obtain⟨a2,k2,va2,zQ,nK,_⟩:=stK.yes w' mw;refine bP ?_;refine⟨_,rfl,_,rfl,_,rfl,l2,X,aE n,aE n,u,w',by rw[e2];rfl,sK.ba,sK.ok,by omega,u2,w2,Xy.same gK,λh=>absurd h w3,λ_ _ _ p uV uW HL ZiO ZiP gL hp=>?_,λh=>(h.elim (λh=>absurd u1 h) λh=>absurd w1 h.2)⟩;have hDL:=gL _ _ (gK _ _ Xz);refine⟨_,rfl,_,rfl,dd,_,rfl,dt (gL _ _ stK.at_) va1,_,rfl,_,rfl,dd,_,rfl,dt (gL _ _ stK.at_) va2,_,rfl,a1,a2,D,k1,k2,I,rfl,gL _ _ Lr,gL _ _ zQ,hDL,by omega,qJ.num I,nK.num I,λp2 HM gM eP=>?_⟩;have en:jd (X.ps.map (·.1)) uV uW=jd I k1 k2:=by rw[←eN];exact Zbm ZiO qJ ZiP nK
  rw[en] at hp;have ll:(jd I k1 k2).length<=1000:=by
   have:(jd I k1 k2).length<=I.length:=Yz (Y3 _ _) (Y3 _ _);omega
  refine⟨_,_,.lst ((jd I k1 k2).map Dt.str),3,rfl,rfl,BC (gM _ _ hp) (by rw[Ya];exact ll) (GP _),BC eP (by rw[Ya];exact ll) (GP _),λHZ gZ=>⟨_,rfl,dh (bJ ?_)⟩⟩;exact⟨_,((gK.trans gL).trans gM).trans gZ,rfl⟩
 rintro L HJ ⟨Ax,pH,gJ,rfl⟩;have XA:=gJ _ _ Xz;obtain⟨x0,XD⟩:∃x0,I[0]?=O x0:=⟨_,Yb (show 0<I.length by omega)⟩;have m0':=Ym XD;obtain⟨y1,y2,y3,y4⟩:=ph x0 m0';have XE:(I.map V.str)[0]?=O (.str x0):=by rw[Yi,XD];rfl
 have MH:(Str.ofString "stranger")∉X.ps.map (·.1):=λh=>by
  rw[←eN] at h;exact(ph _ h).2.2.2 rfl
 refine nW λG R=>?_;refine bT ?_;refine⟨by show 2<=sizeLine;omega,λt1 HK nt1 gK Mu=>?_⟩;refine⟨_,rfl,D,_,_,_,rfl,rfl,aj.of (gK _ _ XA),eA (j:=0) XE,by show 2<=sizeLine;omega,λt2 HL nt2 gL Mv=>?_⟩;refine⟨_,rfl,D,_,_,_,rfl,rfl,aj.of (gL _ _ (gK _ _ XA)),eA (j:=0) XE,by show 2<=sizeLine;omega,λt3 HM nt3 gM ht3=>?_⟩;refine⟨by show 3<=sizeLine;omega,λpr HN npr gN mK=>?_⟩;have XF:=(((gJ.trans gK).trans gL).trans gM).trans gN;have sN:=sX.same XF;have tbN:=Xy.same XF;have each:∀(i:Nat) (v:V),([V.ref t1,.ref t2,.ref t3]:Z V)[i]?=O v->∃(t:U) (u w:af),v=.ref t/\HN t=O (.tup [.str u,.str w])/\u.length<=1000/\w.length<=1000/\(u∉X.ps.map (·.1)\/(w≠""/\w∉X.ps.map (·.1))):=λi v h=>by
  match i,h with
  |0,h=>cases h;exact⟨t1,"stranger","",rfl,gN _ _ (gM _ _ (gL _ _ Mu)),by decide+kernel,by decide+kernel,.inl MH⟩
  |1,h=>cases h;exact⟨t2,"stranger",x0,rfl,gN _ _ (gM _ _ Mv),by decide+kernel,y2,.inl MH⟩
  |2,h=>cases h;exact⟨t3,x0,"stranger",rfl,gN _ _ ht3,y2,by decide+kernel,.inr ⟨by decide+kernel,MH⟩⟩
  |_+3,h=>exact nomatch h
 have XG:∀{H:Hp} {p:U},H p=O (.tup [.str "no person",.bl ar])->At H 3 (.ref p) (.tup [.str "no person",.bl ar]):=λh=>RA h (by show 2<=1000;decide) (.cons (Im _) (.cons (Zg3 _) .nil));subst R;refine⟨_,rfl,pr,rfl,⟨_,aj.of mK⟩,λD5 Mq=>Nr (K:=K) (xs:=[V.ref t1,.ref t2,.ref t3]) (λi ys H2=>i<=3/\aq HN H2/\H2 D5=O (.lst ys)/\ys=(List.replicate i ar).map V.bl) ⟨Yx _,cY Mq _,aM,rfl⟩ (λi ys H2 _ ⟨_,g2,_⟩=>aj.of (g2 _ _ mK)) ?_ ?_⟩
 ·rintro i v ys H2 hi ⟨il,g2,h2,ey⟩ os iS;obtain⟨u1,u2,rfl⟩:∃u1 u2,os=[u1,u2]:=by
   match os,iS with
   |[u1,u2],_=>exact⟨u1,u2,rfl⟩
  have il':i<3:=(Yf.mp hi).1;obtain⟨t,u,w',rfl,ht,lu,lw,ref⟩:=each i v hi;have s5:=sN.same g2;refine⟨t,_,rfl,aK.of (g2 _ _ ht),rfl,_,_,rfl,bP ⟨_,_,rfl,bP ⟨rfl,⟨[O (.str u),O (.str w')],rfl,rfl⟩,lY (dI ?_)⟩⟩⟩;refine⟨_,rfl,_,rfl,_,rfl,l2,X,aE n,aE n,u,w',by rw[e2];rfl,s5.ba,s5.ok,by omega,lu,lw,tbN.same g2,λh1 h2=>absurd ref λr=>r.elim (λr=>r h2) λr=>r.1 h1,λh1 h2 h3=>absurd ref λr=>r.elim (λr=>r h2) λr=>r.2 h3,λ_ p H3 g3 hp=>⟨by show 2<=sizeLine;omega,λt' H4 nt g4 ht'=>⟨_,_,.tup [.str "no person",.bl ar],3,rfl,rfl,XG (g4 _ _ hp),XG ht',λH5 g5=>?_⟩⟩⟩;have D8:=(g3.trans g4).trans g5;refine⟨D8 _ _ h2,by rw[ey,Ya,Wr];omega,il',λc o ec=>?_,aM,?_⟩
  ·rw[az (bW ec Mq)];exact D8 _ _ (g2 _ _ ec)
  ·rw[ey,U4,Yt];rfl
 ·rintro ys H2 ⟨_,g2,h2,ey⟩;subst ey;exact⟨D5,_,rfl,aj.of h2,q H2⟩
section
open PySem PySem.W PySem.Spec PyProof.Rows
inductive Ef(K:ae)(x:af)(g:bS)(f c T:U):Prop
 |mk {H N P:bt U} {F o:cw (bt aV)} {I kV J G L z y v u t s r q n m k j i h:aV} {e:af} {E D A:Tok} {b d:Int} {p:bA}
  (a:nsIn K mainGlobals x=O (O (.ref f)))
  (l:K.lookup f=O ⟨I,H,.func (fnOf x x (kI g) (gw g) (aL g) .none kV J G N (.ref c) L),F⟩)
  (lc:K.lookup c=O ⟨.type "code",P,.fields #[z,y,v,u,t,s,r,.int b D,q,.bool p,.int d A,.ref T,n,m,k,j,i,h,.str e E],o⟩)
  (nT:K.lookup T=aI) (ne:decide (c=T)=aY):Ef K x g f c T
def Ef.t{e:bS}(p:Ef K x e f c T):Cp K f c T/\tabIn K x=O (c,T)/\K.lookup T=aI:=by
 obtain⟨a,l,b,j,ne⟩:=p;refine⟨⟨?_,λh X=>⟨_,_,_,_,_,_,_,_,_,X _ _ b,rfl,rfl,rfl,rfl,rfl,rfl,rfl,rfl,of_decide_eq_false ne⟩⟩,?_,j⟩
 ·rintro o ⟨i,g,k,n,d,m⟩;rw[l] at d;cases d;exact m.symm
 ·unfold tabIn;rw[a];dsimp;rw[l];dsimp[fnOf];rw[b];rfl
def Zfb(b:t6 K C m f)(a:PySem.W.findIn K (.ref C) m=O (O (.ref f)))(f':U)(h:Meth K C m f'):t6 K C m f':=by
 have:=h.at_;rw[a] at this;cases this;exact b
end
def all_mk{l:PySem.W.OpenLaw}{w:cD}{K:ae}{h:cm}{mg:aN}{fa:U}(X:K.In h)(G:h.Ns mainGlobals mg)(eQ:mg "law"=O (.ref fa))
  (p1:cq K "is_turn" GA f1)
  (p2:cq K "still" Hz f2)
  (p3:cq K "behind" GZ f3)
  (p4:cq K "back" IB f4)
  (p5:cq K "check_turn" Fi f5)
  (p6:cq K "check_rows" Fj f6)
  (p7:cq K "check_parents" ED f7)
  (p8:cq K "land_of" GB f8)
  (p9:cq K "followed" Gb f9)
  (p10:cq K "turned_back" E6 K_)
  (p11:cq K "lines_up" Gd f11)
  (p12:cq K "is_tie" G0 f12)
  (p13:cq K "tie_turn" Ge f13)
  (p14:cq K "fact_key" Gf f14)
  (p15:cq K "keep_fact" FE f15)
  (p16:cq K "fact_fits" FG f16)
  (p17:cq K "is_name" GC f17)
  (p18:cq K "check_person" ES f18)
  (p19:cq K "check_tie" FH f19)
  (p20:cq K "sides_fit" FI f20)
  (p21:cq K "told_already" ET f21)
  (p22:cq K "check_elders" EU f22)
  (p23:cq K "check_saying" YR f23)
  (p24:cq K "check_section" YB f24)
  (p25:cq K "is_person" FJ f25)
  (p26:cq K "steps_up" Gg f26)
  (p27:cq K "forebears" u_ f27)
  (p28:cq K "nearest" GD f28)
  (p29:cq K "_law_cell" Ny f29)
  (p30:cq K "_law_draws" M5 f30)
  (p31:cq K "_law_same" AM f31)
  (p32:cq K "_law_name" Gh f32)
  (W:cq K "_law_up" G1 f33)
  (R:cq K "_law_build" FK f34)
  (Q:cq K "_law_steps" FN f35)
  (P:cq K "_law_asked" FO f36)
  (N:cq K "_law_common" Fl f37)
  (L:cq K "law" tL f38)
  (z:rR K ["len","abs","list","range","tuple","any","all","isinstance","bool","int","str","sorted","min","max","sum","dict","reversed","ValueError"])
  (Zo:nsIn K mainGlobals "LEAST_SIZE"=O (O (.int (2) Zi8)))
  (ZU:nsIn K mainGlobals "MOST_SIZE"=O (O (.int (8) Zjd)))
  (YH:nsIn K mainGlobals "LONGEST_NAME"=O (O (.int (12) Zi0)))
  (Zcn:nsIn K mainGlobals "PUT_IN"=O (O (.int (1) ZjA)))
  (YV:nsIn K mainGlobals "TIE_LETTERS"=O (O (.ref nY)))
  (MM:PyProof.Rows.KTD.tabLook PyProof.Rows.KTD.flatLooks (λb=>K.lookup b) nY [("mother",PyData.str "m"),("father",PyData.str "f"),("wed",PyData.str "w"),("sibling",PyData.str "s")]=ar)
  (Zbn:nsIn K mainGlobals "PARENTS"=O (O (.ref ee)))
  (Zbo:K.lookup ee=O ⟨.type "tuple",Zjv,.seq #[.str "mother" Zje,.str "father" Zjf] Zjw,Zjx⟩)
  (ZgF:nsIn K mainGlobals "MAN"=O (O (.str "man" ZjJ)))
  (ZdW:nsIn K mainGlobals "WOMAN"=O (O (.str "woman" ZjC)))
  (XR:nsIn K mainGlobals "LETTERS_OF_NAMES"=O (O (.str "abcdefghijklmnopqrstuvwxyz" ZiR)))
  (XZ:nsIn K mainGlobals "SIGNS_OF_NAMES"=O (O (.str "abcdefghijklmnopqrstuvwxyz0123456789" ZiV)))
  (Zfc:nsIn K mainGlobals "SAID"=O (O (.str "said" ZjD)))
  (Zbp:nsIn K mainGlobals "SIBLING"=O (O (.str "sibling" Zjy)))
  (Zax:zO K "KinError" "KinError.__init__" [] EI y Zay)
  (FV:IV K y "__init__" Zay)
  (Zaz:zO K "NoPerson" "NoPerson.__init__" [y] EJ i8 Zjn)
  (ZgG:zN K "Land" g)
  (r:yU K g)
  (ZaA:cM K g "__init__" "Land.__init__" FP Zjo)
  (ZaB:cM K g "step" "Land.step" FQ Zjp)
  (Zfd:zN K "Joins" d)
  (p:oE K d)
  (ZV:cM K d "__init__" "Joins.__init__" Fm Zjg)
  (ZaC:cM K d "add" "Joins.add" FR Zjq)
  (ZaD:cM K d "tie" "Joins.tie" FT Zjr)
  (ZaE:cM K d "say" "Joins.say" FU Zjs)
  (YI:cM K d "open_at" "Joins.open_at" EE Zi1)
  (ZW:cM K d "left" "Joins.left" Fn Zjh)
  (X6:cM K d "together" "Joins.together" Ex ZiX)
  (Zp:cM K d "pairs" "Joins.pairs" E7 Zi9)
  (YW:cM K d "narrow" "Joins.narrow" EV Zi5)
  (XI:cM K d "bring_together" "Joins.bring_together" Eg ZiQ)
  (ZX:cM K d "move" "Joins.move" Fo Zji)
  (ZdX:zN K "Hearth" i)
  (j:hJ K i)
  (Zq:cM K i "__init__" "Hearth.__init__" E8 Zi_)
  (YJ:cM K i "person" "Hearth.person" EF Zi2)
  (ZY:cM K i "tie" "Hearth.tie" Fp Zjj)
  (Zjk:cM K i "say" "Hearth.say" ZA Zjl)
  (Zr:cM K i "keep" "Hearth.keep" E9 Zja)
  (YK:cM K i "people" "Hearth.people" EG Zi3)
  (X7:cM K i "side_of" "Hearth.side_of" Ey ZiY)
  (Zjb:cM K i "kept" "Hearth.kept" Zf Zjc)
  (ZZ:cM K i "has" "Hearth.has" Fq Zjm)
  (XT:cM K i "parent_of" "Hearth.parent_of" Ek ZiT)
  (XS:cM K i "parents_of" "Hearth.parents_of" Ei ZiS)
  (YX:cM K i "joins" "Hearth.joins" EW Zi6)
  (X8:cM K i "do_deed" "Hearth.do_deed" Ez ZiZ)
  (YY:cM K i "shift" "Hearth.shift" EX Zi7)
  (YL:cM K i "put_in" "Hearth.put_in" EH Zi4)
  (XU:cM K i "note_fact" "Hearth.note_fact" El ZiU)
  (X0:cM K i "take_out" "Hearth.take_out" Ep ZiW)
  (Ew:cM K i "place_of" "Hearth.place_of" Az X1)
  (Ay:PySem.W.mroIn K i8 (.ref y)=O ar)
  (x:Ef K "forebears" u_ f27 cT T)(Mn:t6 K i "place_of" X1)
  :∃(fd:FuncData) (c T:U),tabIn K "forebears"=O (c,T)/\K.lookup T=aI/\(∀(s:a8) (v:aV),BindsTo s fd ⟨[v],[]⟩ [("_law_script",v)])/\∀B:cm,K.In B->B.Ns mainGlobals mg->oX mg B->aH l.prog w K mg B (nH l.prog w) 16 fa fd CK (Ca K T):=by
 obtain @⟨od,an,sl,oc,kV,dc,pm,cd,ct,ax,lx,cx,kx⟩:=L;have e:=eQ.symm.trans (gV X G ax);cases e;obtain⟨tF,tI,kT⟩:=x.t;have bl:=z.bl X G;have Ft:=gV X G Zo;have FW:=gV X G ZU;have E1:=gV X G YH;have A:=gV X G Zcn;have u6:=gV X G YV;have t:=gV X G Zbn;have q:∀H,aK K H ee [.str "mother",.str "father"]:=λ_=>.inr ⟨_,_,_,Zbo,rfl,rfl,by show 2<=sizeLine;decide,(.cons ⟨_,rfl⟩ (.cons ⟨_,rfl⟩ .nil))⟩;have tO:=gV X G ZgF;have sQ:=gV X G ZdW;have En:=gV X G XR;have EC:=gV X G XZ;have wa:=gV X G Zfc;have E:=gV X G Zbp;obtain⟨_,Zbq,Gi,Gr,Zjz,vq,Zjt⟩:=Zax.b X G xm;obtain⟨_,Zbr,Zbs,og,Zbt,AU,u⟩:=Zaz.b X G w8;have ZgH:=r.cls;have o:=p.cls;have n:=j.cls;refine⟨fnOf "law" "law" (kI tL) (gw tL) (aL tL) .none kV dc pm an cd ct,cT,T,tI,kT,λs v=>.of_eq rfl,λB _ _ Mj=>?_⟩;have F:=yF (st:=tL) lx cx kx;have bn:=Zfb Mn (let⟨a,_,_,_,_⟩:=Ew;a);have D:jq l.prog w K mg B:=⟨X,G⟩;have Gq:Io l.prog w K mg B "NoPerson" "no person" i8:=⟨_,_,Zbt,Zad Zbr FV (Zac Zbq bl) Gi vq og u,Zbs,AU,og,u⟩;have sE:=D.d p29 (λ_ F=>ZeH F bl.BX);have sv:=D.d p30 (λ_ F=>Zdi F bl.Zg0);have vE:=D.d p1 (λ_ F=>Za7 F bl);have qN:=D.d p9 (λ_ F=>Zag F bl);have J:=D.d p10 (λ_ F=>YT F bl);have vR:=D.d p2 (λ_ F=>Zdn F bl);have FY:=D.m ZgH ZaB (λ_ F=>ZeL F r);have HV:=D.j Zfd ZV (λ_ F=>Zds F p bl);have uY:=D.m o X6 (λ_ F=>Zah F p bl);have nX:=D.m o YI (λ_ F=>Zba F p bl);have u5:=D.m o YW (λ_ F=>Zb9 F p bl);have vN:=D.d p12 (λ_ F=>Zcd F u6 MM);have I:=D.d p14 (λ_ F=>Zal F E bl);have EO:=D.m n YK (λ_ F=>Zce (CL:=g) (CJ:=d) F j bl);have AA:=D.m n X7 (λ_ F=>Zbg (CL:=g) (CJ:=d) F j bl);have va:=D.d p25 (λ_ F=>ZI F bl);have Eo:=D.m n XT (λ_ F=>ZJ (CL:=g) (CJ:=d) F j);have Ej:=D.m n XS (λ_ F=>Zk (CL:=g) (CJ:=d) F j t q);have GJ:=D.d p17 (λ_ F=>Zbj F E1 En EC bl);have Hj:=D.j ZdX Zq (λ_ F=>ZdK (CL:=g) (CJ:=d) F j);have F2:=D.d p20 (λ_ F=>ZL F tO sQ E);have Hi:=D.d W (λ_ F=>Zci F bl);have Gs:=D.d p32 (λ_ F=>Zao F bl);have mN:=D.m n Ew (λ_ F=>Zar (CL:=g) (CJ:=d) F j);have uX:=D.mX n Ew (λ_ F=>ZO (CL:=g) (CJ:=d) F j Gq);have F6:=D.d Q (λ_ F=>ZP F bl);have Fx:=D.d N (λ_ F=>Zn F bl);have sy:HasFn l.prog w K mg B 4 "_law_same" oY (sY 4):=let⟨_,F,b,k,m⟩:=D.p (ps:=oY) p31;⟨_,_,Qh F b k m bl 4,b,k,m⟩;have sk:=D.d p5 (λ_ F=>Zgs F vE);have u7:=D.d p6 (λ_ F=>ZeJ F vE Ft FW bl);have vd:=D.m o ZaC (λ_ F=>Zgt F p vR bl);have FZ:=D.m o ZaE (λ_ F=>Zgu F nX u5 bl);have AB:=D.m o ZX (λ_ F=>ZeN F p qN J bl);have Fb:=D.m o Zp (λ_ F=>Zdw F p uY nX bl);have vw:=D.d p13 (λ_ F=>Zaj (CL:=g) F u6 MM r vN FY);have Fv:=D.m n ZZ (λ_ F=>Zgz (CL:=g) (CJ:=d) F j I);have Em:=D.m n XU (λ_ F=>Ze0 (CL:=g) (CJ:=d) F j t q I);have Et:=D.m n X0 (λ_ F=>Zam (CL:=g) (CJ:=d) F j t q va I);have E2:=D.d p18 (λ_ F=>YE (C:=i) (CL:=g) (CJ:=d) F GJ tO sQ EO);have vA:=D.d p11 (λ_ F=>Zan (C:=i) (CL:=g) (CJ:=d) F Ej);have vK:=D.d p3 (λ_ F=>Zhl F sk qN bl);have yK:=D.d p4 (λ_ F=>Zhm F sk J bl);have Eh:=D.m o XI (λ_ F=>Zdv F p J AB bl);have u9:=D.m o ZW (λ_ F=>ZeO F Fb bl);have E4:=D.d p21 (λ_ F=>Ze3 (C:=i) (CL:=g) (CJ:=d) F E t q Eo Fv);have E5:=D.d p22 (λ_ F=>YG (C:=i) (CL:=g) (CJ:=d) F vA);have sD:=D.d p26 (λ_ F=>Zat (C:=i) (CL:=g) (CJ:=d) F vA bl);have EK:=D.d p7 (λ_ F=>Za8 F vK bl);have F0:=D.m o ZaD (λ_ F=>Zgx F p u9 uY Eh u5 bl);have F1:=D.d p16 (λ_ F=>ZG (CL:=g) (CJ:=d) F wa vw nX u9);have F3:=D.d p19 (λ_ F=>ZN (C:=i) (CL:=g) (CJ:=d) F t q vN F2 AA E4 E5);have F4:=D.dX p27 (λ_ F=>Zm (C:=i) (CL:=g) (CJ:=d) F tF Mj bn uX mN sD bl);have GN:=D.dX p28 (λ_ F=>Zau (C:=i) (CL:=g) (CJ:=d) F bn uX mN sD bl);have ID:=D.j ZgG ZaA (λ_ F=>ZeK F r u7 EK yK vR bl);have ve:=D.d p15 (λ_ F=>ZF (CL:=g) (CJ:=d) F wa vw FZ F0);have yb:=D.d P (λ_ F=>ZR (C:=i) (CL:=g) (CJ:=d) F F4 GN vq Gr AU og u Ay bl);have GQ:=D.d p8 (λ_ F=>Za_ (C:=g) F u7 vK ID);have EM:=D.m n YL (λ_ F=>Zcg (CL:=g) (CJ:=d) F j va vd Em ve bl);have E3:=D.m n YX (λ_ F=>ZdI (CL:=g) (CJ:=d) F j r HV vd ve);have EZ:=D.m n YY (λ_ F=>ZdH (CL:=g) (CJ:=d) F j A EM Et);have uZ:=D.m n X8 (λ_ F=>Zbh (CL:=g) (CJ:=d) F j EZ);have ER:=D.m n YJ (λ_ F=>Zch (CL:=g) (CJ:=d) F j A E2 uZ);have Fd:=D.m n Zr (λ_ F=>Ze2 (CL:=g) (CJ:=d) F j A F1 E3 uZ);have AE:=D.m n ZY (λ_ F=>Ze4 (CL:=g) (CJ:=d) F j F3 Fd);have F5:=D.d R (λ_ F=>ZQ (C:=i) (CL:=g) (CJ:=d) F sv Hi AE bl);exact ZgE F sE sv sy Gs F5 F6 yb Fx GQ Hj ER bl
def walk{l:PySem.W.OpenLaw}{q:c6}{b:Z af}{y:(af->bt aV)->cm->Prop}{i:cD->cm->Prop}{d:DefRec}{K:Params->ae}(p:l.most=O 63)(m:d.params.defaults=[])(j:((PyProof.Rows.recsOf q).find? (λe=>e.name==("forebears":af))).isSome=ar)
  (t:∀(w:cD) (h:cm),i w h->(K w.params).In h)
  (F:∀(w:cD) (mg:aN) (g:U) (h:cm),(K w.params).In h->h.Ns mainGlobals mg->mg d.name=O (.ref g)->
   ∃(fd:FuncData) (c T:U),tabIn (K w.params) "forebears"=O (c,T)/\(K w.params).lookup T=aI/\(∀(s:a8) (u:aV),BindsTo s fd ⟨[u],[]⟩ [("_law_script",u)])/\∀B:cm,(K w.params).In B->B.Ns mainGlobals mg->oX mg B->aH l.prog w (K w.params) mg B (nH l.prog w) 16 g fd CK (Ca (K w.params) T)):
  PySem.W.WalkO q b y i l.row.toRowW d [] (λf k=>PySem.call f k):=by
 obtain⟨A,o⟩:=Jo.mp j;exact L2.Zdg p QD m ⟨rfl,QD,QD,rfl⟩ o t F (λ_ _ a T n r v x=>⟨a,n,rfl,x,r,v,λ_=>rfl⟩) λ_ _ _ _ _ h=>by obtain⟨_,_,_,_,_,_,_,_,_,_,_,_,_,_,z⟩:=h;exact z
end Dk
namespace PySem.W.Fast
def t:True:=⟨⟩
def tw15202580181955803217:=t
def tw7131236466559373887:=t
def tw17607227058561759929:=t
def tw2187885779435296728:=t
def tw15352635413352162940:=t
def tw15496038570285684710:=t
def tw13881127174508296685:=t
def tw8941886229916171319:=t
def tw8603671219643229873:=t
def tw10815219332979342255:=t
def tw17467427550179471869:=t
def tw8522309264256397329:=t
def tw15967704533929502828:=t
def tw15604544063907385796:=t
def tw2247374812921314045:=t
def tw2182958322166259150:=t
def tw17860859014578560896:=t
def tw5680926608426648521:=t
def tw9180832203430987913:=t
def tw3709644807331312628:=t
def tw16611335172460039569:=t
def tw8159062420045603915:=t
def tw12429151916278437153:=t
def tw6424928471877481349:=t
def tw7854235793850782513:=t
def tw15471054343704509610:=t
def tw5149492112962247813:=t
def tw3126082460596343727:=t
def tw16090614188339867469:=t
def tw9611007566599222925:=t
def tw13689559225277179786:=t
def tw12434188876645156503:=t
def tw460654185412590320:=t
def tw625621459277433446:=t
def tw15982861681212854339:=t
def tw16589869341802795928:=t
def tw16173446755218584179:=t
def tw15045163838593841054:=t
def tw16865464764483522941:=t
def tw14883175879383832597:=t
def tw9229569305340220866:=t
def tw2317305570289302390:=t
def tw3824724865999333165:=t
def tw8689628813158454887:=t
def tw961154434826818887:=t
def tw15329829945423179589:=t
def tw15637208689705475630:=t
def tw15939747301453024129:=t
def tw11902223963437220323:=t
def tw2933664825274826337:=t
def tw12030885171021481511:=t
def tw2902032675373748300:=t
def tw5000133889668485253:=t
def tw14316806281225917693:=t
def tw11691176787903036794:=t
def tw6300109105746148864:=t
def tw3717543980491691013:=t
def tw6056511299198437006:=t
def tw10061327837568442211:=t
def tw1791942469387991108:=t
def tw1090686800397845947:=t
def tw5672192284359646960:=t
def tw9061880466829982391:=t
def tw708360735682551041:=t
def tw881980582025576092:=t
def tw17502540273101537752:=t
def tw14403722771261284351:=t
def tw7875327355161126224:=t
def tw5772108724917637843:=t
def tw6444340412736690504:=t
def tw2664057069288684777:=t
def tw10193273927742223889:=t
def tw12554401904376390423:=t
def tw9710753683081514041:=t
def tw17574426056171779819:=t
def tw2782213588755126570:=t
def tw13946799665519921794:=t
def tw2117265266005133549:=t
def tw10470253171945538844:=t
def tw11766105485173058694:=t
def tw3745820710055457219:=t
def tw16160997467913221359:=t
def tw986140441229717203:=t
def tw886607560741852070:=t
def tw9492995235781174798:=t
def tw10886453994882595455:=t
def tw5980457366680327594:=t
def tw12992696493082853699:=t
def tw17766309287719619753:=t
def tw6499286055648125040:=t
def tw1059615111937140130:=t
def tw11181436265285360090:=t
def tw3372661966725838735:=t
def tw13208412106933403429:=t
def tw7321412206791378619:=t
def tw16410542570888058639:=t
def tw8412463490264740051:=t
def tw10876352624270285625:=t
def tw16164769474529682105:=t
def tw13372323526869665856:=t
def tw11229739040225413326:=t
def tw8246683702201723964:=t
def tw16710226290653726968:=t
def tw5081102721333002067:=t
def tw5122519307470505829:=t
def tw3780483790821883475:=t
def tw12159037493291278913:=t
def tw5885058750162883129:=t
def tw14340909208443140766:=t
def tw17116149114702241190:=t
def tw1359054084928836682:=t
def tw2525849950931995189:=t
def tw10754947736287404486:=t
def tw3316698118197525839:=t
def tw10705411295296547534:=t
def tw16971604027219917920:=t
def tw3734113250872620174:=t
def tw14039600034441749009:=t
def tw15836912795796873573:=t
def tw14371623957794210978:=t
def tw3839110531132563300:=t
def tw6406306913942976955:=t
def tw6961806245795856345:=t
def tw6501952164334251710:=t
def tw12939720662402971343:=t
def tw2670154855034419171:=t
def tw12377594609452438567:=t
def tw17941634758813508923:=t
def tw18336471043980203802:=t
def tw9035615451343866992:=t
def tw15634439035497077677:=t
def tw7118271483141826461:=t
def tw2152941337893533314:=t
def tw543292098520701957:=t
def tw16959059481429172101:=t
def tw18315677586137164564:=t
def tw6514739654320212264:=t
def tw4394951129350380845:=t
def tw1558290333198501753:=t
def tw1457603861429269458:=t
def tw15248076282667842025:=t
def tw4501163011367882304:=t
def tw16065996742489354731:=t
def tw18366050323792934724:=t
def tw7911360206636721128:=t
def tw9397335165672392189:=t
def tw2383940685122171202:=t
def tw1774279148802878526:=t
def tw3932740962639652953:=t
def tw5078687738693504891:=t
def tw8743047094932346993:=t
def tw6309071197425537062:=t
def tw10162969856175294302:=t
def tw5972617997464843287:=t
def tw7459715444723679641:=t
def tw10988198708318702366:=t
def tw17731038710086169628:=t
def tw5064730992466770370:=t
def tw196864995167509587:=t
def tw2848978544311164953:=t
def tw15737994222235462142:=t
def tw11380568366731324262:=t
def tw10710531333925581123:=t
def tw1677174482353483839:=t
def tw2945799873399006757:=t
def tw15954016957744199366:=t
def tw9766454753712421070:=t
def tw13223135418232177218:=t
def tw17814599110394305007:=t
def tw10929108639466990295:=t
def tw13897982239475716573:=t
def tw14222854397298892099:=t
def tw14973057234367354391:=t
def tw11676845265132058134:=t
def tw7777114509237093824:=t
def tw13004726456149022465:=t
def tw4993894984707185668:=t
def tw8012917519734455749:=t
def tw129506771661839686:=t
def tw5497233370539520390:=t
def tw13547869132052412551:=t
def tw3722367660287074663:=t
def tw13944028231475268744:=t
def tw14668389702578822664:=t
def tw2500215173940704904:=t
def tw9077755968983423625:=t
def tw6099052551871704234:=t
def tw14409064968240818570:=t
def tw5367733723152540458:=t
def tw1213219263940133706:=t
def tw10424259335504107498:=t
def tw17446496590049780811:=t
def tw3906967535821838539:=t
def tw4477550445924400523:=t
def tw14831703980481938732:=t
def tw4751263879315374668:=t
def tw16709518574617659053:=t
def tw1611049521603623982:=t
def tw12725582178832931022:=t
def tw810649067278818670:=t
def tw9485009853248407759:=t
def tw4197544042147238319:=t
def tw16550943541877318960:=t
def tw16101058024248202128:=t
def tw2297433016549103698:=t
def tw6451947637116851635:=t
def tw7539100305176303155:=t
def tw17357991741227519699:=t
def tw10013690736518817683:=t
def tw16571735560804824500:=t
def tw775294490127500276:=t
def tw9197727069615175861:=t
def tw10279409074626359477:=t
def tw7323503690066684405:=t
def tw2264401875552993205:=t
def tw13925328198883524086:=t
def tw5489888732091842711:=t
def tw11764597099586382423:=t
def tw14137621639765306040:=t
def tw1764878895253508635:=t
def tw17975551761497284252:=t
def tw17073438811213198237:=t
def tw5760904297347056542:=t
def tw10209526631888892415:=t
def tw14568939463068792543:=t
def tw17923742986159739395:=t
def tw10634971922494541475:=t
def tw9045715165656187668:=t
def tw15902632897322662812:=t
def tw4314483604634385729:=t
def tw16634464167079201272:=t
def tw12684652532353471715:=t
def tw9812284689745862908:=t
def tw9589435062053709467:=t
def tw7200196707217516736:=t
def tw3514521325973581000:=t
def tw15225513740675516151:=t
def tw6333822478362168051:=t
def tw1125580705468068258:=t
def tw1199265184648402044:=t
def tw14829211952612059566:=t
def tw11232658657057209746:=t
def tw11392768516374099937:=t
def tw8408946064176036401:=t
def tw18207235431127497858:=t
def tw18367113463954545613:=t
def tw5017491676404364960:=t
def tw17082894017720720640:=t
def tw9675956103714562199:=t
def tw6536149726656459374:=t
def tw14065913567705266380:=t
def tw8547520569708579042:=t
def tw9942272731526693512:=t
def tw5957018039682292787:=t
def tw2851098091095635333:=t
def tw4893960994085794483:=t
def tw5997894838988983567:=t
def tw5019099515265628088:=t
def tw18116663457225666406:=t
def tw6770411037614985808:=t
def tw1586565881293645295:=t
def tw2351513689158733591:=t
def tw13901730420497361801:=t
def tw5957927975809417753:=t
def tw14947082246482797642:=t
def tw4147510681743926555:=t
def tw16829089546977638200:=t
def tw7054119984212299390:=t
def tw7650787716798797508:=t
def tw6921550976355007294:=t
def tw14041625886892889012:=t
def tw14109851206101234615:=t
def tw17553432968725727923:=t
def tw9520469489366567760:=t
def tw250152911842926822:=t
def tw14732128390041611537:=t
def tw3421803563593279304:=t
def tw7448471020803393592:=t
def tw3218159069594902791:=t
def tw17091912014466121386:=t
def tw9146709330222362062:=t
def tw4837549675543128505:=t
def tw12549510587340158156:=t
def tw4228845007498579027:=t
def tw13322329213605523531:=t
def tw8090815753001096351:=t
def tw14011036733145606212:=t
def tw3643191012102280916:=t
def tw2444974513138677386:=t
def tw1062348783310131761:=t
def tw17469940665036934905:=t
def tw18344525426555169559:=t
def tw5761191094217120505:=t
def tw18285885960742163122:=t
def tw11034343196440965302:=t
def tw15475713549966361522:=t
def tw7280637412071152993:=t
def tw16258078927403336298:=t
def tw16536917741030482694:=t
def tw14018089090758863238:=t
def tw8334035112084442867:=t
def tw14892125402694485062:=t
def tw11228680697783983818:=t
def tw15521002172531667486:=t
def tw6981557163745077349:=t
def tw3878747213216602801:=t
def tw16861362546392638733:=t
def tw13573586944652630065:=t
def tw17809466395464518903:=t
def tw10954286336112841283:=t
def tw215838309562407528:=t
def tw5845462420573897146:=t
def tw16938474366097181017:=t
def tw16445755819437109329:=t
def tw1097845320670144761:=t
def tw7962811929604871601:=t
def tw7376849563398939329:=t
def tw10326478782196001015:=t
def tw144796308827963192:=t
def tw11858626160841014622:=t
def tw8463060729157032006:=t
def tw17830237825398406054:=t
def tw12140186782650662168:=t
def tw2348684935801938967:=t
def tw15174408091575025169:=t
def tw3644482708650274917:=t
def tw10306737544510227272:=t
def tw2447722601720699407:=t
def tw17011099548043763382:=t
def tw13846562345683842321:=t
def tw12188477129707574184:=t
def tw10707491236064534580:=t
def tw10734152295780243369:=t
def tw1700611327739354011:=t
def tw155865841577408646:=t
def tw12958873749711999422:=t
def tw172136495169316483:=t
def tw5637384938770386723:=t
def tw9236995629451478795:=t
def tw6694964938237676059:=t
def tw5886762172024640305:=t
def tw8083585262571770433:=t
def tw18024839343254429742:=t
def tw9622739437342835468:=t
def tw12774955737986814552:=t
def tw7673656951676286499:=t
def tw15482193760734914839:=t
def tw12004079266189044854:=t
def tw9508563557758752749:=t
def tw2001175762854830544:=t
def tw3486549952043992352:=t
def tw10114782402826420658:=t
def tw4727317125992432316:=t
def tw7003204095023408831:=t
def tw43269562472592591:=t
def tw4181222871525454721:=t
def tw1756022952976903007:=t
def tw1181824789092755236:=t
def tw1528455288264672644:=t
def tw12547873637825538700:=t
def tw16757028656288316397:=t
def tw12682768107657087055:=t
def tw11376687426711327696:=t
def tw4109739309457578009:=t
def tw267847634548378165:=t
def tw15585600250912536333:=t
def tw2116294272973397662:=t
def tw15509854074343790711:=t
def tw5156306624251098540:=t
def tw2054899444387595019:=t
def tw2446929561300143032:=t
def tw12154378469725506832:=t
def tw17341977586245473631:=t
def tw12562441606252171326:=t
def tw8955670579999372339:=t
def tw2329835644222020382:=t
def tw17667053760790859425:=t
def tw1262238612111780741:=t
def tw710903303486071013:=t
def tw953868689076988178:=t
def tw1111492095380176360:=t
def tw8691623425041146623:=t
def tw2973199808704303545:=t
def tw16409181174353692090:=t
def tw11135996926821851650:=t
def tw11594209937968076904:=t
def tw7790982188107398754:=t
def tw3620069890202189410:=t
def tw8974129331054268737:=t
def tw1776106180158946765:=t
def tw13945503495097324596:=t
def tw4262790393467507882:=t
def tw17527347880485551911:=t
def tw16796965771348138113:=t
def tw9608327648970683344:=t
def tw10944792575503243902:=t
def tw10242670980191580995:=t
def tw4502290733240789522:=t
def tw10910512364462532540:=t
def tw6220509275833619968:=t
def tw1631866760726277665:=t
def tw3029942692581995035:=t
def tw13238929972679256680:=t
def tw2894139596597832110:=t
def tw10375652496552657011:=t
def tw17950736970274415920:=t
def tw325615724279928947:=t
def tw2353375547378651337:=t
def tw12072306593243161920:=t
def tw10910318516791505989:=t
def tw4934740204847844553:=t
def tw3688829802649659698:=t
def tw12461534123611414262:=t
def tw16636495306687810117:=t
def tw15698018255810692446:=t
def tw13269668785893746401:=t
def tw10441189971509664225:=t
def tw7612892827908242367:=t
def tw1326550303721710476:=t
def tw13146615788744074133:=t
def tw11353130031691631605:=t
def tw9271253655537641623:=t
def tw18001116274648551102:=t
def tw17765947493124736399:=t
def tw16935703264943201846:=t
def tw16863477335530206909:=t
def tw3843764535358092331:=t
def tw3764214126694400192:=t
def tw16885500846209959591:=t
def tw1380552577614050929:=t
def tw11925748444865775463:=t
def tw9470102488517330033:=t
def tw15477675121579417703:=t
def tw6381292752145485487:=t
def tw5421975815206593479:=t
def tw14292748976584354265:=t
def tw13900948435203740620:=t
def tw5968661538155040537:=t
def tw17599163709641534544:=t
def tw6011069989925305012:=t
def tw12161175141149174974:=t
def tw4785927774549023564:=t
def tw1133515732270940071:=t
def tw17190622478539144194:=t
def tw16782745572263635162:=t
def tw15128519316914824501:=t
def tw12467986897714147510:=t
def tw5374349784731291156:=t
def tw4529239759277049292:=t
def tw13773330710440100181:=t
def tw8026255451908581821:=t
def tw15992593256045857084:=t
def tw4483407687973258927:=t
def tw4028507199057719391:=t
def tw13776714045496885213:=t
def tw6922377513799553633:=t
def tw5746564838075104236:=t
def tw10174595461138238103:=t
def tw1849188781264203825:=t
def tw14532619004000891010:=t
def tw4620887899396579091:=t
def tw4950031360895520149:=t
def tw4032004290289439908:=t
def tw2971007297891364683:=t
def tw18004589717292439484:=t
def tw11037577686000703254:=t
def tw16697914861442571167:=t
def tw16567122632249556642:=t
def tw6269270355057677919:=t
def tw13821020898503422336:=t
def tw7033631922001837104:=t
def tw7523723601570446156:=t
def tw669724672856227253:=t
def tw3388998418125238895:=t
def tw2571623022012474389:=t
def tw2521985985743275649:=t
def tw16601486305819709230:=t
def tw12680856577061012428:=t
def tw1530049676062648256:=t
def tw12467964391776776529:=t
def tw8578092184467166648:=t
def tw9650717399169461265:=t
def tw8901444667459692152:=t
def tw8755735690377602483:=t
def tw4251567927467630638:=t
def tw2094614003842481827:=t
def tw12561728347435019989:=t
def tw6923860473169685333:=t
def tw640132920607053140:=t
def tw3316195038574739768:=t
def tw1592823772954082562:=t
def tw12549040588427790176:=t
def tw16841383877149775752:=t
def tw17229761590047946417:=t
def tw14193138819056960374:=t
def tw764358634503979220:=t
def tw13424894199855927880:=t
def tw9629745458301406608:=t
def tw8290982038986913950:=t
def tw8090954173066069068:=t
def tw5330538133126142244:=t
def tw3500026789189969023:=t
def tw2116714485714789054:=t
def tw17630777087786752064:=t
def tw15655028614307740768:=t
def tw11627896330739403652:=t
def tw1953596459658416776:=t
def tw14207353187705606003:=t
def tw6189463652890868409:=t
def tw2157040908269811726:=t
def tw11886912043965820551:=t
def tw10805042580453836821:=t
def tw16165656593557678943:=t
def tw15471613870057579310:=t
def tw11223611920056160116:=t
def tw3104079507682614452:=t
def tw9000006775993172434:=t
def tw13395053638785068535:=t
def tw3380883908995906255:=t
def tw15091510565408796755:=t
def tw12035748480010186302:=t
def tw11670068609586195168:=t
def tw16070959891286504216:=t
def tw112575453828268411:=t
def tw13095537989301614038:=t
def tw18391606889998274302:=t
def tw10205662644414907027:=t
def tw14803061597408191840:=t
def tw14303665164199431270:=t
def tw13697548551578606881:=t
def tw4966987894442075774:=t
def tw18172270290661712030:=t
def tw17816408995446619719:=t
def tw15429545486513287029:=t
def tw10739058648370198068:=t
def tw9550192178297717548:=t
def tw14163366377992884869:=t
def tw4452849504391114509:=t
def tw16013371570842009122:=t
def tw462420016028987123:=t
def tw2152586922050652106:=t
def tw17592094201444285066:=t
def tw10636914535115483081:=t
def tw13363836298447265095:=t
def tw5962333255166774947:=t
end PySem.W.Fast
open PySem PySem.W PyProof.Rows
set_option maxRecDepth 100000 in
set_option maxHeartbeats 0 in
theorem PySem.Challenge.cw_kinhearth_k42_forebears_and_the_nearest_holds : PySem.Challenge.rw_kinhearth_k42_forebears_and_the_nearest.Holds := by
 w_on; o_law; k_head; (case hw=>w_witness2)
 k_fill
 refine Dk.walk (l:=PySem.Challenge.rw_kinhearth_k42_forebears_and_the_nearest) rfl rfl (by kernel_rfl) (λ w h Y=>PySem.W.km_in_of Y) ?F
 case F=>
  intro w mg fa h KX G zB
  apply Dk.all_mk KX G zB <;> repeat' first | k_is | (show _=_; k_is) | kernel_rfl | constructor

