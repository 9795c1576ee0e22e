import PyProof.Rows.All
import Wide.All
import OpenK.AllK
import Wide.FinOn
import Lean
import PyProof.EqAt
import PyProof.EqKinds
import PyProof.TupleCall
import PyProof.NeKinds
import PyProof.ConsumeWalk
import PyProof.ListRange
import PyProof.TupleOfSeq
import PyProof.Rows.SortWalk
import PyProof.CompFree
import PySem.Challenge.RW_kinhearth_k40_called_by_a_word
noncomputable section
set_option compiler.extract_closed false
set_option genSizeOf false
set_option Elab.async false
set_option linter.all false
set_option maxRecDepth 100000
set_option maxHeartbeats 4000000
def hH{d:Sort _}{b:d->Prop}{G:Prop}(h:∃a,b a)(k:∀a,b a->G):G:=by obtain⟨a,c⟩:=h;exact k a c
def hI{b a G:Prop}(h:b/\a)(k:b->a->G):G:=k h.1 h.2
def c7{c b a G:Prop}(h:c/\b/\a)(k:c->b->a->G):G:=k h.1 h.2.1 h.2.2
def d7{d c b a G:Prop}(h:d/\c/\b/\a)(k:d->c->b->a->G):G:=k h.1 h.2.1 h.2.2.1 h.2.2.2
def ng{e d c b a G:Prop}(h:e/\d/\c/\b/\a)(k:e->d->c->b->a->G):G:=k h.1 h.2.1 h.2.2.1 h.2.2.2.1 h.2.2.2.2
def iS{f e d c b a G:Prop}(h:f/\e/\d/\c/\b/\a)(k:f->e->d->c->b->a->G):G:=k h.1 h.2.1 h.2.2.1 h.2.2.2.1 h.2.2.2.2.1 h.2.2.2.2.2
def bh{f:Sort _}{c b:f->Prop}{G:Prop}(h:∃a,c a/\b a)(k:∀a,c a->b a->G):G:=by obtain⟨a,e,d⟩:=h;exact k a e d
def cu{i:Sort _}{d c b:i->Prop}{G:Prop}(h:∃a,d a/\c a/\b a)(k:∀a,d a->c a->b a->G):G:=by obtain⟨a,g,f,e⟩:=h;exact k a g f e
def nh{l:Sort _}{e d c b:l->Prop}{G:Prop}(h:∃a,e a/\d a/\c a/\b a)(k:∀a,e a->d a->c a->b a->G):G:=by obtain⟨a,j,i,g,f⟩:=h;exact k a j i g f
def i1{n:Sort _}{f e d c b:n->Prop}{G:Prop}(h:∃a,f a/\e a/\d a/\c a/\b a)(k:∀a,f a->e a->d a->c a->b a->G):G:=by obtain⟨a,m,l,j,i,g⟩:=h;exact k a m l j i g
def hP{i:Sort _}{g:Sort _}{d c:i->g->Prop}{G:Prop}(h:∃b,∃a,d b a/\c b a)(k:∀b a,d b a->c b a->G):G:=by obtain⟨b,a,f,e⟩:=h;exact k b a f e
def gR{l:Sort _}{j:Sort _}{e d c:l->j->Prop}{G:Prop}(h:∃b,∃a,e b a/\d b a/\c b a)(k:∀b a,e b a->d b a->c b a->G):G:=by obtain⟨b,a,i,g,f⟩:=h;exact k b a i g f
def d5{n:Sort _}{m:Sort _}{f e d c:n->m->Prop}{G:Prop}(h:∃b,∃a,f b a/\e b a/\d b a/\c b a)(k:∀b a,f b a->e b a->d b a->c b a->G):G:=by obtain⟨b,a,l,j,i,g⟩:=h;exact k b a l j i g
def pk{n:Sort _}{m:Sort _}{l:Sort _}{f e d:n->m->l->Prop}{G:Prop}(h:∃c,∃b,∃a,f c b a/\e c b a/\d c b a)(k:∀c b a,f c b a->e c b a->d c b a->G):G:=by obtain⟨c,b,a,j,i,g⟩:=h;exact k c b a j i g
def jI{p:Sort _}{o:Sort _}{n:Sort _}{g f e d:p->o->n->Prop}{G:Prop}(h:∃c,∃b,∃a,g c b a/\f c b a/\e c b a/\d c b a)(k:∀c b a,g c b a->f c b a->e c b a->d c b a->G):G:=by obtain⟨c,b,a,m,l,j,i⟩:=h;exact k c b a m l j i
def kS{r:Sort _}{q:Sort _}{p:Sort _}{i g f e d:r->q->p->Prop}{G:Prop}(h:∃c,∃b,∃a,i c b a/\g c b a/\f c b a/\e c b a/\d c b a)(k:∀c b a,i c b a->g c b a->f c b a->e c b a->d c b a->G):G:=by obtain⟨c,b,a,o,n,m,l,j⟩:=h;exact k c b a o n m l j
def lG{t:Sort _}{s:Sort _}{r:Sort _}{j i g f e d:t->s->r->Prop}{G:Prop}(h:∃c,∃b,∃a,j c b a/\i c b a/\g c b a/\f c b a/\e c b a/\d c b a)(k:∀c b a,j c b a->i c b a->g c b a->f c b a->e c b a->d c b a->G):G:=by obtain⟨c,b,a,q,p,o,n,m,l⟩:=h;exact k c b a q p o n m l
def pz{r:Sort _}{q:Sort _}{p:Sort _}{o:Sort _}{i g f e:r->q->p->o->Prop}{G:Prop}(h:∃d,∃c,∃b,∃a,i d c b a/\g d c b a/\f d c b a/\e d c b a)(k:∀d c b a,i d c b a->g d c b a->f d c b a->e d c b a->G):G:=by obtain⟨d,c,b,a,n,m,l,j⟩:=h;exact k d c b a n m l j
def kA{t:Sort _}{s:Sort _}{r:Sort _}{q:Sort _}{j i g f e:t->s->r->q->Prop}{G:Prop}(h:∃d,∃c,∃b,∃a,j d c b a/\i d c b a/\g d c b a/\f d c b a/\e d c b a)(k:∀d c b a,j d c b a->i d c b a->g d c b a->f d c b a->e d c b a->G):G:=by obtain⟨d,c,b,a,p,o,n,m,l⟩:=h;exact k d c b a p o n m l
def Y{b:Sort _}{a:b}:a=a:=rfl
abbrev ag:=PySem.W.Frag
abbrev bg:=PySem.Value->PySem.Shared->Prop
abbrev aV:=List (PySem.Addr×PySem.Obj)
abbrev aR:=PySem.Str->Option PySem.Value
open PySem
noncomputable abbrev O:=@Option.some
noncomputable abbrev aG:=@Option.none
noncomputable abbrev ar:=true
noncomputable abbrev a_:=false
abbrev Z:=List
abbrev U:=Addr
abbrev a7:=Value
abbrev cb:=Shared
abbrev bS:=Option
abbrev dC:=Program
abbrev dm:=World
abbrev cm:=Stmt
abbrev cX:=Heap
abbrev gb:=Around
abbrev dg:=Array
abbrev cF:=Bool
abbrev af:=Str
abbrev cV:=Expr
open PySem.W (instObj lookIn plainGet hasDictIn handedIn findObj_own isFn plainOver takerIn set_plain any_some makesIn typeIn emptyDict keepIn specialIn takesIn kitOne kia_one kitx_list kitx_dict callWith_K methodCall_KW cellsFrom_some fnOf codeIn notCls check_slot KitX osa_eq kitCls findCls subIn nsIn mg_of kIn_of)
open PySem.F (slot_tuple_add excBase_ValueError slot_dict_delitem slot_dict_pop slot_dict_get entry_dict_get plainAttrs_dict type_dict_get slot_dict_setdefault plainAttrs_list plainAttrs_str slot_str_index type_str_index)
def Ya:=@List.length_map
def Yb:=@List.getElem?_eq_getElem
def Yc:=@Heap.get?_push_of_some
def Yd:=@List.getD_eq_getElem?_getD
def Ye:=@Nat.le_refl
def Yf:=@List.getElem?_map
def Yg:=@List.mem_append_right
def Yh:=@List.getElem?_eq_some_iff
def Yi:=@List.mem_singleton
def Yj:=@List.mem_of_getElem?
def Yk:=@List.mem_map
def Yl:=@List.length_append
def Ym:=@List.mem_cons_self
def Yn:=@Bool.false_ne_true
def Yo:=@Option.some.inj
def Yp:=@List.mem_cons
def Yq:=@List.mem_append
def Yr:=@List.map_append
def Ys:=@List.mem_append_left
def Yt:=@List.size_toArray
def Yu:=@Heap.get?_push_size
def Yv:=@Heap.lt_size
def Yw:=@Nat.zero_le
def Yx:=@List.mem_cons_of_mem
def Yy:=@Nat.le_trans
def Yz:=@List.take_add_one
def Y0:=@Array.getD_eq_getD_getElem?
def Y1:=@List.not_mem_nil
def Y2:=@Nat.ne_of_lt
def Y3:=@List.nodup_cons
def Y4:=@List.mem_filter
def Y5:=@Array.length_toList
def Y6:=@Nat.lt_of_lt_of_le
def Y7:=@List.getElem?_eq_none
def Y8:=@List.append_nil
def Y9:=@List.map_map
def Wa:=@List.pairwise_iff_getElem
def Wb:=@Int.toNat_natCast
def Wc:=@List.take_length
def Wd:=@List.length_take
def We:=@Sum.inr.inj
def Wf:=@Heap.get?_update_other
def Wg:=@List.take_of_length_le
def Wh:=@List.length_cons
def Wi:=@Nat.lt_irrefl
def Wj:=@List.length_filter_le
def Wk:=@List.mem_range
def Wl:=@List.getElem?_append_left
def Wm:=@List.all_eq_true
def Wn:=@Bool.eq_iff_iff
def Wo:=@List.getElem_mem
def Wp:=@Heap.get?_update_self
def Wq:=@List.map_congr_left
def Wr:=@Nat.lt_succ_of_lt
def Ws:=@List.filter_append
def Wt:=@Nat.not_lt_zero
def Wu:=@Bool.and_eq_true
def Wv:=@List.map_cons
def Ww:=@Array.getElem?_toList
def Wx:=@List.ext_getElem?
def Wy:=@List.length_range
def Wz:=@List.nodup_append
def W0:=@Int.emod_lt_of_pos
def W1:=@List.mem_iff_getElem
def W3:=@List.pairwise_map
def W4:=@Array.getElem?_eq_getElem
def W5:=@List.nodup_nil
def W6:=@List.length_replicate
def W7:=@Int.emod_nonneg
def W8:=@List.lookup_cons
def W9:=@List.filter_cons
def Ja:=@Bool.and_eq_true_iff
def Jb:=@List.filter_cons_of_pos
def Jc:=@Bool.true_and
def Jd:=@List.length_set
def Je:=@Array.perm_iff_toList_perm
def Jf:=@List.nodup_iff_pairwise_ne
def Jg:=@Nat.lt_succ_self
def Jh:=@Nat.ne_of_gt
def Ji:=@Nat.lt_of_le_of_lt
def Jj:=@Bool.false_eq_true
def Jk:=@List.mem_of_mem_take
def Jl:=@Option.isSome_iff_exists
def Jm:=@Array.getElem?_setIfInBounds_ne
def Jn:=@Bool.eq_false_iff
def Jo:=@List.append_assoc
def Jp:=@List.length_zip
def Jq:=@Nat.le_succ_of_le
def Jr:=@List.filterMap_cons
def Js:=@List.all_cons
def Jt:=@Int.toNat_of_nonneg
def Ju:=@List.length_drop
def Jv:=@List.mem_filterMap
def Jw:=@List.filter_filter
def Jx:=@Nat.le_of_lt
def Jy:=@Nat.le_of_ble_eq_true
def Jz:=@List.filter_map
def J0:=@List.any_cons
def J1:=@Heap.get?_push_ne
def J3:=@List.getElem?_append_right
def J7:=@Array.getElem?_eq_some_iff
def J8:=@Heap.size_push
def J9:=@List.any_eq_true
def Ec:=@List.mem_flatMap
def MN:=@List.getElem?_range
def NP:=@List.filter_sublist
def xl:=@Nat.le_of_eq
def XH:=@Array.size_setIfInBounds
def X5:=@List.filter_cons_of_neg
def YC:=@List.getElem?_cons_succ
def ZZ:=@Nat.add_sub_cancel_left
def XX:=@Array.getElem?_eq_none
def xm:=@Nat.le_succ
def NL:=@List.filter_congr
def An:=@Int.zero_add
def Y_:=@List.Pairwise.and_mem
def Xh:=@List.getElem?_set_ne
def Z7:=@List.length_take_le'
def DM:=@Bool.false_or
def Mw:=@List.of_mem_zip
def XN:=@Heap.get?_update_ne
def MM:=@List.find?_cons
def N5:=@Bool.or_eq_true
def DT:=@Nat.zero_add
def YN:=@List.zip_cons_cons
def M_:=@List.take_zero
def Xq:=@List.any_eq_false
def XW:=@Option.isSome_map
def DZ:=@Sum.inl.inj
def XR:=@List.nodup_range
def XU:=@List.cons_append
def X1:=@Heap.size_update
def xg:=@List.getElem_map
def MG:=@Int.ne_of_gt
def XE:=@List.length_nil
def M5:=@List.all_map
def YA:=@List.nil_append
def DL:=@Nat.not_lt
def QO{p:Prop}(h:p:=by omega):p:=h
def QS{p:Prop}(h:p:=by simp):p:=h
def QD{p:Prop}(h:p:=by decide):p:=h
def QU{p:Prop}(h:p:=by with_unfolding_all rfl):p:=h
def QR{p:Prop}(h:p:=by rfl):p:=h
def QK{p:Prop}(h:p:=by decide+kernel):p:=h
def QJ{p:Prop}(h:p:=by kernel_rfl):p:=h
def QG{p:Prop}(h:p:=by grind):p:=h
def QA{p:Prop}(h:p:=by simp_all):p:=h
def bp:=@PySem.wpAny_bind
def cR:=@PySem.wpAny_pure
def bt:=@if_neg
def bR:=@if_pos
def d6:=@decide_eq_true
def eL:=@of_decide_eq_true
def du:=@PySem.sizeLine_eq
def hU:=@decide_eq_true_iff
def hY:=@PySem.PassesOwn.never
def eH:=@PySem.wpAny_mono
def ij:=@decide_eq_false
def mr:=@PySem.F.type_list_append
def my:=@PySem.F.slot_list_append
def eJ:=@congrArg
def l3:=@PySem.F.plainAttrs_list
def k8:=@PySem.wpAny_holding
def n7:=@PySem.Calls.callWith_builtin
def gV:=@or_false
def kJ:=@True.intro
def mZ:=@PySem.wpAny_loadPart_at
def oy:=@PySem.Calls.spliced_cons
def oD:=@PySem.wpAny_truthy_bool
def sq:=@PySem.Heap.SameBut.update
def pE:=@PySem.tupleKind_room_in1
def m6:=@PySem.wpAny_standAt
def nq:=@PySem.strLen_append
def qf:=@PySem.Calls.evalArgs_plain
def qk:=@PySem.wpAny_isSubtype_exc
def qo:=@PySem.wpAny_Call_Name_kw
def kK:=@Ne.symm
def iC:=@Or.inl
def ny:=@PySem.codeAny_mono
def tJ:=@PySem.F.excBase_ValueError
def qp:=@PySem.wpAny_passesOwn
def sA:=@PySem.Calls.spliced_nil
def nA:=@PySem.wpAny_call
def pQ:=@PySem.call_meetsIn
def sU:=@PySem.wpAny_call_entry
def t5:=@PySem.mem_of_lookup
def sY:=@PySem.F.plainAttrs_dict
def pX:=@PySem.wpAny_field
def mh:=@not_or
def mz:=@Or.inr
def sZ:=@List.Perm.refl
def ui:=@PySem.wpAny_newObj_type
def uA:=@PySem.wpAny_Call_method
def xp:=@PySem.plainObj_wpAny_Assign_Attribute
def kN:=@PySem.W.mg_of
def mR:=@PySem.W.kia_one
def s_:=@PySem.wpAny_newList
def tc:=@PySem.F.slot_dict_get
def u4:=@PySem.F.slot_dict_setdefault
def u5:=@PySem.Obj.data_mapDictKeys
def qL:=@PySem.wpAny_rule
def q7:=@PySem.typeIs_str
def ra:=@PySem.W.callWith_K
def uO:=@PySem.wpAny_setField
def va:=@PySem.SeqAt.EqAt.int_int
def xt:=@PySem.Calls.call_function_entry
def vd:=@PySem.wpAny_pyIter_list
def ve:=@PySem.F.slot_dict_delitem
def xu:=@bne_self_eq_false
def uQ:=@PySem.W.methodCall_KW
def xB:=@PySem.wpAny_comprehension_free
def vg:=@PySem.wpAny_execs_nil
def vi:=@and_congr_right
def vj:=@Array.Perm.refl
def xG:=@PySem.wpAny_notOrdered_dict
def xI:=@PySem.Obj.isFreed_of_fields
def uR:=@if_false
def vl:=@PySem.wpAny_loadPart
def vr:=@PySem.F.entry_dict_get
def xW:=@PySem.wpAny_updateDictKeys
def xX:=@PySem.codeAny_call_builtin
def xY:=@PySem.W.plainGet_of
def uS:=@PySem.call_meets
def yx:=@PySem.wpAny_pyIter_tuple
def yC:=@PySem.Obj.data_mapFields
def yK:=@PySem.wpAny_dictEntries
def y0:=@PySem.wpAny_collect_seq
def zi:=@PySem.Within.cons
def uU:=@And.intro
def zj:=@PySem.wpAny_lookBehind
def zl:=@PySem.pastItsLine_dict
def Dq:=@PySem.F.args_dict_setdefault_3
def Du:=@PyProof.Rows.callWith_builtin1
def zr:=@PySem.wpAny_letGo
def Dv:=@PySem.F.entry_dict_setdefault
def zE:=@PySem.wpAny_tests_nil
def Dw:=@PySem.F.type_dict_setdefault
def th:=@if_true
def Dx:=@PySem.F.args_dict_delitem_2
def DC:=@PyProof.Rows.callWith_type1
def zF:=@Nat.mul_le_mul
def DD:=@PySem.F.entry_dict_delitem
def DR:=@PySem.Calls.Name_function_global
def zH:=@PySem.wpAny_attempt
def zS:=@PySem.rangeSize_one
def zT:=@Bool.or_false
def D0:=@PySem.F.slot_dict_values
def Ek:=@PySem.F.args_tuple_add_2
def Ez:=@List.getElem?_take_of_lt
def Qa1:=@congr
def EA:=@PySem.wpAny_Call_method0_late
def EF:=@PySem.SeqAt.eq_list_lengthsAt
def EI:=@PySem.F.entry_tuple_add
def G2:=@PySem.F.args_dict_get_3
def HU:=@PySem.F.args_dict_get_2
def zV:=@PySem.wpAny_nsSet1
def zW:=@PySem.seqIndex_neg
def zX:=@PySem.codeAny_loop
def z6:=@List.map_nil
def J5:=@PySem.wpAny_delete_Subscript
def J6:=@PySem.wpAny_Call_method_late
def KA:=@PySem.wpAny_Assign_Subscript
def KC:=@Nat.lt_of_succ_lt_succ
def LL:=@List.getElem?_set_self
def LS:=@PySem.wpAny_isTrue_Compare1
def LU:=@PySem.wpAny_deleteEach_cons
def vt:=@PySem.W.any_some
def z9:=@PySem.wpAny_noted
def Ab:=@PySem.seqIndex_of
def Mz:=@PySem.wpAny_loadName_local
def MP:=@PySem.wpAny_deleteEach_nil
def MZ:=@PySem.lookup_relabel_local
def M4:=@List.replicate_succ'
def Qbq:=@List.mem_of_mem_drop
def M6:=@List.getElem_toArray
def M7:=@PySem.Heap.get?_none_of_le
def Nb:=@Array.toArray_toList
def Nc:=@PySem.wpAny_loadName_cell
def NB:=@PySem.wpAny_dictFind_heap
def NG:=@PySem.wpAt_of_wpAny
def NH:=@PySem.evalArgs_none
def NI:=@PySem.Obj.isFreed_of_dict
def Qbz:=@Nat.add_le_add_left
def NJ:=@List.toList_toArray
def NS:=@List.replicate_succ
def N4:=@List.length_take_le
def Ob:=@List.getElem_of_mem
def Pe:=@List.flatMap_append
def Pw:=@Array.toList_append
def Ad:=@PySem.wpAny_Name
def SF:=@PySem.wpAny_delItem_slot
def TF:=@PySem.wpAny_List_spliced
def U_:=@PySem.findBy_of_findIdx?
def QbK:=@PySem.SeqAt.EqAt.str_int
def QbL:=@PySem.SeqAt.EqAt.int_str
def VA:=@Nat.lt_or_gt_of_ne
def VU:=@List.zip_nil_right
def V3:=@PySem.F.slot_tuple_index
def V4:=@PySem.Code.quiet_builtin
def V5:=@Array.forIn_toList
def WC:=@PySem.slot_dict_getitem
def Xf:=@PySem.richCompare_gives
def Xg:=@not_false_eq_true
def Xu:=@decide_eq_true_eq
def Xv:=@List.Pairwise.nil
def Xw:=@Int.emod_eq_of_lt
def XI:=@PySem.Heap.Ns1.of_empty
def XM:=@Array.size_append
def XQ:=@Array.getElem_mem
def Ag:=@PySem.small_one
def XS:=@PySem.wpAny_madeBy_exc
def XT:=@PySem.wpAny_execs_cons
def X0:=@PySem.wpAny_Dict_empty
def X2:=@PySem.noFill_tuple_add
def X3:=@Nat.succ_le_succ
def X4:=@Nat.min_le_right
def X6:=@Nat.le_of_not_lt
def X8:=@PySem.wpAny_loadPart'
def YB:=@PySem.codeAny_of_tree
def YD:=@PySem.codeAny_builtin
def YE:=@StateT.run_pure
def YP:=@PySem.SeqAt.eq_listAt
def Zc:=@PySem.wpAt_bind
def Zf:=@Option.map_some
def Zg:=@List.range_succ
def Zj:=@Int.natCast_add
def Zn:=@PySem.wpAny_newTuple
def Z0:=@PySem.wpAny_Compare1
def Qcj:=@PySem.F.type_str_index
def Z1:=@PySem.F.slot_tuple_add
def Qcl:=@PySem.F.slot_str_index
def Z2:=@PySem.refuseLoop_ref
def Qcn:=@PySem.F.plainAttrs_str
def Qco:=@PySem.W.cellsFrom_some
def Qcp:=@Bool.false_and
def Qcq:=@Array.size_map
def eO:=@Nat.lt_of_le_of_ne
def fb:=@Nat.le_of_not_lt
def fI:=@Nat.le_of_lt_succ
def i2:=@Nat.lt_of_lt_of_le
def gm:=@Nat.le_trans
def i6:=@Nat.le_antisymm
def lK:=@Nat.le_succ_of_le
def l5:=@Nat.succ_le_of_lt
def oO:=@Nat.lt_succ_of_lt
def lL:=@Nat.mod_lt
def ri:=@decide_eq_true_iff
def pY:=@Nat.lt_of_le_of_lt
def mV:=@Nat.le_of_eq
def nF:=@Int.ofNat.inj
def rj:=@Nat.add_sub_of_le
def tq:=@Nat.lt_succ_self
def qd:=@Nat.le_refl
def rn:=@Nat.succ_pos
def wd:=@of_decide_eq_true
def uV:=@Nat.le_of_succ_le
def ro:=@PySem.sizeLine_eq
def wh:=@Int.toNat_of_nonneg
def tr:=@Nat.lt_trans
def tE:=@Nat.le_of_lt
def wk:=@decide_eq_true
def nO:=@Eq.symm
def QcR:=@PySem.F.type_list_append
def QcS:=@PySem.F.slot_list_append
def Ai:=@Nat.le_add_right_of_le
def QcU:=@Nat.add_le_add_left
def Aj:=@Nat.pos_of_ne_zero
def Al:=@Int.natCast_nonneg
def Am:=@Nat.lt_succ_of_le
def rp:=@if_neg
def Ao:=@Nat.le_add_right
def Aw:=@PySem.F.plainAttrs_list
def Qc1:=@decide_eq_false
def Ax:=@PySem.PassesOwn.never
def wL:=@PySem.wpAny_bind
def uW:=@if_pos
def AS:=@Int.le_of_lt
def AU:=@Nat.zero_le
def Qc7:=@Nat.le_sub_of_add_le
def Qc8:=@Nat.add_le_add_right
def Qc9:=@List.mem_of_mem_drop
def Qda:=@PySem.Heap.SameBut.update
def w_:=@Or.inr
def B1:=@Nat.sub_le
def Qdd:=@bne_self_eq_false
def Qde:=@Nat.ne_zero_of_lt
def Qdf:=@Nat.succ_le_succ
def Qdg:=@Nat.min_le_right
def Qdh:=@Nat.lt_add_right
def Qdi:=@Nat.le_add_left
def B2:=@not_or
def Qdk:=@if_false
def Qdl:=@PySem.F.type_str_index
def Qdm:=@PySem.F.slot_str_index
def Qdn:=@PySem.F.plainAttrs_str
def m9:=@Nat.lt_of_lt_of_le
def lR:=@Nat.le_trans
def nV:=@Nat.le_of_lt
def uX:=@Nat.succ_le_of_lt
def xc:=@Nat.le_of_eq
def Qdt:=@Nat.min_le_right
def Qdu:=@PySem.Heap.SameBut.update
def Qdv:=@PySem.F.type_list_append
def Qdw:=@PySem.F.slot_list_append
def Qdx:=@PySem.F.plainAttrs_list
def Qdy:=@Int.ne_of_gt
def Qdz:=@PySem.F.type_str_index
def QdA:=@PySem.F.slot_str_index
def QdB:=@PySem.F.plainAttrs_str
def QdC:=@PySem.PassesOwn.never
def QdD:=@List.mem_of_mem_drop
def QdE:=@Nat.add_le_add_left
def QdF:=@Int.toNat_of_nonneg
def QdG:=@decide_eq_true_iff
def QdH:=@Nat.lt_of_le_of_lt
def QdI:=@of_decide_eq_true
def QdJ:=@bne_self_eq_false
def QdK:=@PySem.sizeLine_eq
def QdL:=@Nat.lt_succ_of_lt
def QdM:=@Nat.le_succ_of_le
def QdN:=@Nat.add_sub_of_le
def QdO:=@PySem.wpAny_bind
def QdP:=@Nat.succ_le_succ
def QdQ:=@Nat.not_lt_of_le
def QdR:=@Nat.lt_succ_self
def QdS:=@Nat.lt_add_right
def QdT:=@Nat.le_of_not_lt
def QdU:=@decide_eq_false
def QdV:=@decide_eq_true
namespace _L
open PySem PySem.Spec PyProof.Rows
abbrev Key:=Sum Int af
noncomputable def ue:Key->a7->cF
 |.inl k,v=>Value.isInt k v
 |.inr x,v=>Value.isStrOf x v
noncomputable def Zj9(w:dm):Key->Int
 |.inl k=>hashInt k
 |.inr x=>hashStr w x
theorem nB:∀{k:Key} {v:a7},ue k v=ar->(∃i t,k=Sum.inl i/\v=Value.int i t)\/(∃x t,k=Sum.inr x/\v=Value.str x t)
 |.inl i,v,h=>by
  obtain⟨t,e⟩:=Value.isInt_shape h
  simp_all
 |.inr x,v,h=>by
  obtain⟨t,e⟩:=Value.isStrOf_shape h
  simp_all
def ZdI(i:Int)(t:Tok):ue (.inl i) (.int i t)=ar:=by simp[ue,Value.isInt]
def ZdJ(x:af)(t:Tok):ue (.inr x) (.str x t)=ar:=by simp[ue,Value.isStrOf]
def ZhK(a b:Int):decide ((Sum.inl a:Key)=Sum.inl b)=(a==b):=by
 grind
def ZhL(a b:af):decide ((Sum.inr a:Key)=Sum.inr b)=decide (a=b):=by
 simp_all
def ZhM(a:Int)(b:af):decide ((Sum.inl a:Key)=Sum.inr b)=a_:=ij (λq=>nomatch q)
def ZhN(a:af)(b:Int):decide ((Sum.inr a:Key)=Sum.inl b)=a_:=ij (λq=>nomatch q)
def dR(c:dC)(w:dm):PySem.KeyKind c w Key where
 is:=ue
 hash:=Zj9 w
 inj:=λv a b m g=>by
  rcases nB m with⟨i,t,rfl,rfl⟩|⟨x,t,rfl,rfl⟩
  ·rcases nB g with⟨j,u,rfl,e⟩|⟨y,u,rfl,e⟩;·injection e with d _;rw[d]
   ·exact nomatch e
  ·rcases nB g with⟨j,u,rfl,e⟩|⟨y,u,rfl,e⟩;·exact nomatch e
   ·injection e with d _;rw[d]
 byValue:=λk v h=>by
  rcases nB h with⟨i,t,rfl,rfl⟩|⟨x,t,rfl,rfl⟩<;>rfl
 pyHash:=λf h=>by
  rcases nB f with⟨i,t,rfl,rfl⟩|⟨x,t,rfl,rfl⟩;·exact wpAny_pyHash_int h
  ·exact wpAny_pyHash_str h
 eqBool:=λl f h=>by
  rcases nB l with⟨i,t,rfl,rfl⟩|⟨x,t,rfl,rfl⟩
  ·rcases nB f with⟨j,u,rfl,rfl⟩|⟨y,u,rfl,rfl⟩;·rw[ZhK] at h;exact wpAny_eqBool_int h
   ·rw[ZhM] at h;exact SeqAt.EqAt.int_str i t y u _ _ _ _ h
  ·rcases nB f with⟨j,u,rfl,rfl⟩|⟨y,u,rfl,rfl⟩;·rw[ZhN] at h;exact SeqAt.EqAt.str_int x t j u _ _ _ _ h
   ·rw[ZhL] at h;exact wpAny_eqBool_str h
 «strs»:=λk x t v h=>by
  rcases nB h with⟨i,u,rfl,e⟩|⟨y,u,rfl,e⟩;·exact nomatch e
  ·injection e with d _;subst d;cases v<;>rfl
def Zb4(a:dC)(w:dm)(i:Int)(t:Tok):(dR a w).is (.inl i) (.int i t)=ar:=ZdI i t
def Zb5(a:dC)(w:dm)(x:af)(t:Tok):(dR a w).is (.inr x) (.str x t)=ar:=ZdJ x t
inductive V where
 |aA|bl (b:cF)|int (i:Int)|str (x:af)|kB (b:dg UInt8)|qO (b:UInt64)|ref (a:U)|ty (n:String)
 deriving DecidableEq
def RelV:V->a7->Prop
 |.aA,u=>u=Value.none
 |.bl b,u=>u=Value.bool b
 |.int i,u=>∃t,u=Value.int i t
 |.str x,u=>∃t,u=Value.str x t
 |.kB b,u=>∃t,u=Value.bytes b t
 |.qO b,u=>∃t,u=Value.float b t
 |.ref a,u=>u=Value.ref a
 |.ty n,u=>u=Value.type n
abbrev Vals:Z V->Z a7->Prop:=Paired RelV
def Vals.length{a:Z V}{b:Z a7}(r:Vals a b):a.length=b.length:=Paired.length r
theorem Vals.get:∀{a:Z V} {b:Z a7} {i:Nat} {x:V},Vals a b->a[i]?=O x->∃u,b[i]?=O u/\RelV x u
 |_,_,_,_,.nil,e=>by simp at e
 |_,_,0,_,.cons r _,e=>by simp at e;subst e;exact⟨_,Y,r⟩
 |_,_,i+1,x,.cons _ t,e=>by
  obtain⟨u,d,c⟩:=Vals.get t (by simpa using e)
  simp_all
theorem Vals.set{x:V}{u:a7}(r:RelV x u):∀{a:Z V} {b:Z a7} (i:Nat),Vals a b->Vals (a.set i x) (b.set i u)
 |_,_,_,.nil=>.nil
 |_,_,0,.cons _ t=>.cons r t
 |_,_,i+1,.cons q t=>.cons q (Vals.set r i t)
theorem Vals.append:∀{b a:Z V} {d c:Z a7},Vals b d->Vals a c->Vals (b++a) (d++c):=by
 intro b a d c h f;induction h with
 |nil=>exact f
 |cons r t e=>exact .cons r e
theorem Vals.take:∀{a:Z V} {b:Z a7} (n:Nat),Vals a b->Vals (a.take n) (b.take n)
 |_,_,0,_=>.nil
 |_,_,_+1,.nil=>.nil
 |_,_,n+1,.cons r t=>.cons r (Vals.take n t)
theorem Vals.drop:∀{a:Z V} {b:Z a7} (n:Nat),Vals a b->Vals (a.drop n) (b.drop n)
 |_,_,0,r=>r
 |_,_,_+1,.nil=>.nil
 |_,_,n+1,.cons _ t=>Vals.drop n t
def eS:bS V->bS a7->Prop
 |some v,some u=>RelV v u
 |none,none=>True
 |_,_=>False
def KV{a:Type}:Z (a×V)->Z (a×a7)->Prop:=Paired λ(p:a×V) (q:a×a7)=>p.1=q.1/\RelV p.2 q.2
noncomputable def kV:Key->V
 |.inl i=>.int i
 |.inr x=>.str x
inductive HO where
 /--a list-/
 |lst(d:Z V)
 /--a tuple(never changes)-/
 |tup(d:Z V)
 /--a dict Zjk keys are ints and texts;one Zjk keys are tuples of ints and texts(qQ empty one is both)-/
 |dK(c:Z (Key×V))|dT(c:Z (Z Key×V))
 /--a set of ints:au members,au size-/
 |set (b:Int->cF) (n:Nat)
 /--an instance of qQ class at C,au dict at g,au attributes-/
 |ins (C g:U) (fs:Z (af×V))
 /--qQ dict of qQ instance at x-/
 |own (x:U)
 /--qQ dict of an exception-/
 |xd (fs:Z (af×V))
 /--a bound method,f of x-/
 |met (f x:U)
 /--a range object lo,lo+1,.. below e-/
 |kC (lo e:Int)
 /--a Zjl Zmx is known to qQ object (qQ Ta;a dict while a loop walks it):read,never written while it is so-/
 |cH (o:Obj) (u:HO)
 /--a code Zmj table-/
 |sG (j:dg a7)
 /--any other Zjl,by Zj_ is ar of au one object (a def of Zmt own:Zmy a b n:=HO.ext λh=>..)-/
 |ext (i:cX->Prop)
set_option genInjectivity false
abbrev Hp:=U->bS HO
def upd(H:Hp)(a:U)(o:HO):Hp:=λb=>if b=a then O o else H b
def aW:upd H a o a=O o:=by unfold upd;rw[bR Y]
def aJ(h:b≠a):upd H a o b=H b:=by unfold upd;rw[bt h]
def JW:upd (upd H a o) a u=upd H a u:=by
 funext b;unfold upd;split<;>rfl
def K8{H:Hp}(h:H a=O o)(c:H b=O u)(d:o≠u):a≠b:=by
 intro e;subst e;rw[h] at c;exact d (Yo c)
def bU{H:Hp}(h:H a=O o)(c:H b=aG):a≠b:=by
 grind
section
variable (P:dC)(w:dm)
def oP(h:cX)(a:U)(b:dg a7):Prop:=∃o,h.get? a=O o/\o.cls=.type "tuple"/\∃n,o.data=.seq b n/\o.dict=aG
def oP.tup(x:oP h a items):IsTup h a items:=let⟨o,e,c,n,d,_⟩:=x;⟨o,e,c,n,d⟩
def oP.lt(x:oP h a items):a<h.objs.size:=x.tup.lt
def oP.new(h:cX)(items:dg a7):oP (h.push {cls:=.type "tuple",data:=.seq items}) h.objs.size items:=⟨_,Yu _ Y,Y,_,Y,Y⟩
def cM(H:Hp)(h:cX)(a:U):HO->Prop
 |.lst b=>b.length<=sizeLine/\∃(d:Z a7) (n:Nat),Vals b d/\h.get? a=O {cls:=.type "list",data:=.seq d.toArray n}
 |.tup b=>b.length<=sizeLine/\∃d:Z a7,Vals b d/\oP h a d.toArray
 |.dK kvs=>kvs.length<=sizeLine/\(a==sysModules)=a_/\∃e,KV kvs e/\h.DictOf (dR P w) a e
 |.dT kvs=>kvs.length<=sizeLine/\(a==sysModules)=a_/\∃b:Z (Z Key×U×a7),
   Paired (λ(p:Z Key×V) (q:Z Key×U×a7)=>p.1=q.1/\H q.2.1=O (.tup (p.1.map kV))/\RelV p.2 q.2.2) kvs b/\
   ∃o j k,h.get? a=O o/\o.ExactDict/\o.data=.dict j k/\j.toList=b.map (entryOfKey (tupleKind (dR P w)))/\(b.map (·.1)).Nodup
 |.set S n=>h.SetOf (intKind P w) a S n
 |.ins C dx fs=>H dx=O (.own a)/\fs.length<=1000/\dx≠a/\h.get? a=O (instObj C dx)/\
   ∃c,h.Ns1 dx c/\(∀f,eS (fs.lookup f) (c f))/\PySem.Within c (fs.map (·.1))
 |.own _=>∃o,h.get? a=O o
 |.xd fs=>∃c,h.Ns1 a c/\∀f,eS (fs.lookup f) (c f)
 |.kC lo hi=>∃t u v,h.get? a=O {cls:=.type "range",data:=.fields #[.int lo t,.int hi u,.int 1 v]}
 |.cH o u=>h.get? a=O o/\cM H h a u
 |.sG ps=>h.get? a=O {cls:=.none,data:=.fields ps}
 |.met f x=>h.get? a=O (PySem.W.methodObj (.ref f) (.ref x))
 |.ext φ=>φ h/\(∃o,h.get? a=O o)/\∀i g:cX,φ i->(∀o,i.get? a=O o->g.get? a=O o)->φ g
def dv(H:Hp)(h:cX):Prop:=∀a o,H a=O o->cM P w H h a o
end
theorem cM.lt(x:cM P w H h a o):a<h.objs.size:=by
 cases o with
 |lst xs=>obtain⟨_,_,_,_,e⟩:=x;exact Yv e
 |tup xs=>obtain⟨_,_,_,p⟩:=x;exact p.lt
 |dK b=>obtain⟨_,_,_,_,o,_,_,e,_⟩:=x;exact Yv e
 |dT b=>obtain⟨_,_,_,_,o,_,_,e,_⟩:=x;exact Yv e
 |set S n=>obtain⟨o,_,_,_,e,_⟩:=x;exact Yv e
 |ins C j fs=>obtain⟨_,_,_,e,_⟩:=x;exact Yv e
 |own y=>obtain⟨_,e⟩:=x;exact Yv e
 |xd fs=>obtain⟨_,⟨_,_,_,e,_⟩,_⟩:=x;exact Yv e
 |kC lo i=>obtain⟨_,_,_,e⟩:=x;exact Yv e
 |cH g u=>obtain⟨e,_⟩:=x;exact Yv e
 |sG d=>exact Yv x
 |met f y=>exact Yv x
 |ext c=>obtain⟨_,⟨_,e⟩,_⟩:=x;exact Yv e
theorem Paired.bN{e d:Type}{F G:e->d->Prop}:∀{c:Z e} {l₂:Z d},Paired F c l₂->(∀a b,F a b->G a b)->Paired G c l₂:=by
 intro c l₂ h f;induction h with
 |nil=>exact .nil
 |cons r t g=>exact .cons (f _ _ r) g
theorem cM.iP(x:cM P w H h a o)(k:∀b u,(b=a\/H b=O (.own a))->h.get? b=O u->J.get? b=O u)
  (I:∀b,H b=O (.own a)->D b=O (.own a))(G:∀b l,H b=O (.tup l)->D b=O (.tup l)):cM P w D J a o:=by
 induction o with
 |lst l=>obtain⟨z,B,n,r,e⟩:=x;exact⟨z,B,n,r,k _ _ (.inl Y) e⟩
 |tup l=>obtain⟨z,B,r,g,e,c⟩:=x;exact⟨z,B,r,g,k _ _ (.inl Y) e,c⟩
 |dK A=>obtain⟨z,y,E,r,g,i,j,e,c⟩:=x;exact⟨z,y,E,r,g,i,j,k _ _ (.inl Y) e,c⟩
 |dT A=>
  obtain⟨z,y,l,r,g,i,j,e,c⟩:=x;exact⟨z,y,l,Paired.bN r λp q z=>⟨z.1,G _ _ z.2.1,z.2.2⟩,g,i,j,k _ _ (.inl Y) e,c⟩
 |set S n=>obtain⟨g,i,j,t,e,c⟩:=x;exact⟨g,i,j,t,k _ _ (.inl Y) e,c⟩
 |ins C T fs=>
  obtain⟨d,z,ne,e,s,⟨m,i,j,L,c⟩,r⟩:=x;exact⟨I _ d,z,ne,k _ _ (.inl Y) e,s,⟨m,i,j,k _ _ (.inr d) L,c⟩,r⟩
 |own y=>obtain⟨g,e⟩:=x;exact⟨g,k _ _ (.inl Y) e⟩
 |xd fs=>obtain⟨s,⟨m,i,j,e,c⟩,r⟩:=x;exact⟨s,⟨m,i,j,k _ _ (.inl Y) e,c⟩,r⟩
 |kC lo R=>obtain⟨t,u,v,e⟩:=x;exact⟨t,u,v,k _ _ (.inl Y) e⟩
 |cH g u F=>obtain⟨e,q⟩:=x;exact⟨k _ _ (.inl Y) e,F q⟩
 |sG Q=>
  have e:=x;exact k a _ (.inl Y) e
 |met f y=>
  have e:=x;exact k a _ (.inl Y) e
 |ext N=>obtain⟨p,⟨o,e⟩,st⟩:=x;exact⟨st _ _ p λo q=>k _ _ (.inl Y) q,⟨o,k _ _ (.inl Y) e⟩,st⟩
def dv.lt(x:dv P w H h)(e:H a=O o):a<h.objs.size:=(x a o e).lt
theorem dv.fresh(x:dv P w H h)(e:h.objs.size<=a):H a=aG:=by
 cases q:H a with
 |none=>rfl
 |some u=>exact absurd (Y6 (x.lt q) e) (Wi _)
def dv.kept(x:dv P w H h)(k:∀b u,h.get? b=O u->h'.get? b=O u):dv P w H h':=λa o e=>
 (x a o e).iP (λ b u _=>k b u) (λ_ q=>q) λ_ _ q=>q
def dv.laid(x:dv P w H h)(k:∀b u,h.get? b=O u->h'.get? b=O u)(i:h.objs.size<=a)(d:cM P w (upd H a o) h' a o):dv P w (upd H a o) h':=λb u e=>by
 have f:=x.fresh i;by_cases g:b=a;·subst g;rw[aW] at e;cases e;exact d
 ·rw[aJ g] at e;exact(x b u e).iP (λ c v _=>k c v) (λc q=>by rwa[aJ (bU q f)]) λc j q=>by rwa[aJ (bU q f)]
def Rd(H:Hp)(a:U)(u:HO):Prop:=H a=O u\/∃o,H a=O (.cH o u)
def Rd.ok{P:dC}{w:dm}{H:Hp}{h:cX}{a:U}{u:HO}(r:Rd H a u)(x:dv P w H h):cM P w H h a u:=by
 rcases r with r|⟨o,r⟩;·exact x a u r
 ·obtain⟨_,q⟩:=x a _ r;exact q
def zR:bS HO->Prop
 |some (.lst _)=>True
 |some (.dK _)=>True
 |some (.dT _)=>True
 |some (.set _ _)=>True
 |some (.ins _ _ _)=>True
 |some (.ext _)=>True
 |_=>False
def dv.write(t:dv P w H h)(d:zR (H x))(o:e=x\/H e=O (.own x))(k:∀b u,b≠e->h.get? b=O u->h'.get? b=O u)(s:∃u,h'.get? e=O u)
  (j:cM P w (upd H x n) h' x n):dv P w (upd H x n) h':=λb u q=>by
 have p:∀c y,H c=O (.own y)->c≠x:=λc y r z=>by subst z;rw[r] at d;exact d
 have l:∀c a,H c=O (.tup a)->c≠x:=λc a r z=>by subst z;rw[r] at d;exact d
 by_cases g:b=x;·subst g;rw[aW] at q;cases q;exact j
 ·rw[aJ g] at q;by_cases i:b=e
  ·have m:H b=O (.own x):=by
    rcases o with z|z;·exact absurd (i.trans z) g
    ·rwa[i]
   rw[q] at m;cases m;obtain⟨v,A⟩:=s;exact⟨v,by rwa[i]⟩
  ·refine(t b u q).iP (λc v f r=>k c v ?_ r) (λc r=>by rwa[aJ (p c b r)]) λc a r=>by rwa[aJ (l c a r)]
   rcases f with rfl|f;·exact i
   ·rintro rfl;rcases o with z|z;·exact p c b f z
    ·rw[f] at z;cases z;exact g Y
structure Un(fs ex:Z U)(H H':Hp)(h h':cX):Prop where
 keep:∀b o,h.get? b=O o->H b=aG->b∉fs->b∉ex->h'.get? b=O o
 slot:∀b o,h.get? b=O o->H b=aG->b∈fs->b∉ex->∃sl,h'.get? b=O {o with slots:=sl}
 free:∀b o,h.get? b=O o->H b=aG->b∉ex->H' b=aG
 there:∀b o,h.get? b=O o->b∉ex->∃o',h'.get? b=O o'
 ia:∀b xs,H b=O (.tup xs)->H' b=O (.tup xs)
 iQ:∀b o u,H b=O (.cH o u)->H' b=O (.cH o u)
 iZ:∀b ps,H b=O (.sG ps)->∃more,H' b=O (.sG (ps++more))
section
variable {fs X:Z U}{H H1 R:Hp}{h W T h':cX}{a:U}{o:HO}
def Un.any(u:Un fs X H H1 h W)(q:h.get? b=O c)(n:H b=aG)(d:b∉X):∃f,W.get? b=O {c with slots:=f}:=by
 by_cases e:b∈fs;·exact u.slot b c q n e d
 ·exact⟨c.slots,u.keep b c q n e d⟩
theorem Un.trans(a:Un fs X H H1 h W)(b:Un fs X H1 R W T):Un fs X H R h T where
 keep:=λc d q n i e=>b.keep c d (a.keep c d q n i e) (a.free c d q n e) i e
 slot:=λc d q n i e=>by
  obtain⟨m,f⟩:=a.slot c d q n i e;obtain⟨s,l⟩:=b.slot c _ f (a.free c d q n e) i e
  grind
 free:=λc d q n e=>by
  obtain⟨j,f⟩:=a.there c d q e;exact b.free c j f (a.free c d q n e) e
 there:=λc d q e=>by
  obtain⟨j,f⟩:=a.there c d q e;exact b.there c j f e
 ia:=λc g q=>b.ia c g (a.ia c g q)
 iQ:=λc d g q=>b.iQ c d g (a.iQ c d g q)
 iZ:=λc k q=>by
  obtain⟨r,f⟩:=a.iZ c k q;obtain⟨p,l⟩:=b.iZ c _ f
  grind
def Un.kept(k:∀b u,h.get? b=O u->h'.get? b=O u):Un fs X H H h h':=
 ⟨λb c q _ _ _=>k b c q,λb c q _ _ _=>⟨c.slots,k b c q⟩,λ_ _ _ n _=>n,λb c q _=>⟨c,k b c q⟩,λ_ _ q=>q,λ_ _ _ q=>q,λ_ d q=>⟨#[],by rw[q];simp⟩⟩
def Un.refl:Un fs X H H h h:=Un.kept λ_ _ q=>q
theorem Un.laid(k:∀b u,h.get? b=O u->h'.get? b=O u)(e:h.objs.size<=a)(c:H a=aG):Un fs X H (upd H a o) h h' where
 keep:=λb u q _ _ _=>k b u q
 slot:=λb u q _ _ _=>⟨u.slots,k b u q⟩
 free:=λb u q n _=>by rw[aJ (Y2 (Y6 (Yv q) e))];exact n
 there:=λb u q _=>⟨u,k b u q⟩
 ia:=λb d q=>by rw[aJ (bU q c)];exact q
 iQ:=λb u d q=>by rw[aJ (bU q c)];exact q
 iZ:=λb f q=>⟨#[],by rw[aJ (bU q c),q];simp⟩
def Un.write(c:zR (H x))(p:e=x\/H e=O (.own x))(k:∀b u,b≠e->h.get? b=O u->h'.get? b=O u)(l:∃u,h'.get? e=O u):Un fs X H (upd H x o) h h':=by
 have j:∀b,H b=aG->b≠x:=λb n z=>by subst z;rw[n] at c;exact c
 have f:∀b,H b=aG->b≠e:=λb n z=>by
  grind
 have d:∀b u,H b=O u->¬zR (O u)->b≠x:=λb u q i z=>by subst z;rw[q] at c;exact i c
 refine⟨λb u q n _ _=>k b u (f b n) q,λb u q n _ _=>⟨u.slots,k b u (f b n) q⟩,λb u q n _=>by rwa[aJ (j b n)],λb u q _=>?_,
  λb g q=>by rwa[aJ (d b _ q λz=>z)],λb u g q=>by rwa[aJ (d b _ q λz=>z)],λb m q=>⟨#[],by rw[aJ (d b _ q λz=>z),q];simp⟩⟩
 grind
end
noncomputable def wZ(h:cX)(H:Hp):Z U:=(List.range h.objs.size).filter λa=>(H a).isSome
def qK(h:cX)(H:Hp):cX:=PySem.W.hideAll h (wZ h H)
def ZdK(h:cX)(H:Hp):(qK h H).objs.size=h.objs.size:=PySem.W.hideAll_size _ _
def ZeL(e:h.get? b=O o)(n:H b=aG):(qK h H).get? b=O o:=
 PySem.W.hideAll_get _ e λa=>by
  have q:=(Y4.mp a).2
  grind
theorem Zge(e:(qK h H).get? b=O o):h.get? b=O o/\H b=aG:=by
 have a:=PySem.W.of_hideAll (wZ h H) e;refine⟨a,?_⟩;cases q:H b with
 |none=>rfl
 |some x=>
  have z:(qK h H).get? b=aG:=PySem.W.hideAll_none (wZ h H) (Y4.mpr ⟨Wk.mpr (Yv a),by simp[q]⟩)
  grind
structure Mod(K:ag)(mg:aR)(base:cX):Prop where
 nX:K.In base
 glob:base.Ns mainGlobals mg
 blt:∃mb,base.Ns builtinsNs mb/\∀x:af,x≠"__name__"->mb x=bootBuiltins x
 nolimit:base.NoLimit
structure Cx where
 prog:dC
 w:dm
 K:ag
 mg:af->bS a7
 base:cX
 A:gb
 N:Z af
 c6:cb
 mI:Hp
 env:Env
 outer:Z Env
 stack:Z Env
 ex:Z U
 fn:af->cF
 calm:cF
 pn:Z (U×Obj)
 xe:a7->cb->Prop
noncomputable abbrev Cx.md(X:Cx):=model X.prog X.w
abbrev i8(X:Cx)(e:cV)(a:Z cV):Prop:=starEach (e::a) X.env=(a_,eval e X.env)::starEach a X.env
abbrev jw(X:Cx)(a:Pos)(b:Z cV):Prop:=(backTo a (starEach b X.env)).any (·.1)=a_
noncomputable def cU(l:Z Env):Z U:=l.filterMap (·.frame)
abbrev Cx.fs(X:Cx):Z U:=cU X.outer
def uI(a:Scope)(x:af):Prop:=a.names.lookup x=O .local\/a.names.lookup x=O .cell\/a.names.lookup x=O .free
def Loc(a:Scope)(x:af):Prop:=a.names.lookup x=O .local\/a.names.lookup x=O .cell
def Look(a:Env)(h:cX)(m:aR)(x:af)(u:a7):Prop:=
 (a.kindOf x=O .local/\m x=O u)\/((a.kindOf x=O .cell\/a.kindOf x=O .free)/\∃c,a.cells.lookup x=O c/\h.IsCell c (O u))
structure Cx.Ok(X:Cx):Prop where
 mod:Mod X.K X.mg X.base
 kind:X.env.scope.kind=.function
 glob:X.env.globals=mainGlobals
 blt:X.env.builtins=builtinsNs
 above:X.c6.heap.objs.size<=X.env.locals
 inj:∀x y c,X.env.cells.lookup x=O c->X.env.cells.lookup y=O c->x=y
 has:∀x,(X.env.kindOf x=O .cell\/X.env.kindOf x=O .free)->∃c,X.env.cells.lookup x=O c
 uJ:∀x c,X.fn x=ar->X.env.cells.lookup x=O c->X.c6.heap.objs.size<=c
 hd:X.calm=ar->X.A.handled=aG
 frames:X.A.frames=O X.stack
 w8:X.stack=X.outer\/(X.stack=X.env::X.outer/\X.env.frame=O X.env.locals)
 sH:∀b∈X.ex,b≠X.env.locals/\∀x c,X.env.cells.lookup x=O c->c≠b
 bs:∀b o,X.base.get? b=O o->X.c6.heap.get? b=O o/\X.mI b=aG
 mQ:X.base.objs.size<=X.c6.heap.objs.size
 uu:∀b o,X.base.get? b=O o->b∉X.ex
 r_:∀b∈X.ex,b∉X.fs
 jT:X.c6.heap.FunFrames X.base X.outer
 pC:∀b∈X.fs,X.mI b=aG
structure Inv(X:Cx)(pins:aV)(σ:Z (bS V))(H:Hp)(s:cb):Prop where
 ok:X.Ok
 os:s.os=X.c6.os
 bare:AllBare s.gens
 base:Un X.fs X.ex X.mI H X.c6.heap s.heap
 loc:∃m,s.heap.Ns X.env.locals m/\∀(i:Nat) (x:af) (v:V),X.N[i]?=O x->σ[i]?=O (O v)->uI X.env.scope x->∃u,RelV v u/\Look X.env s.heap m x u
 cell:∀x c,X.env.cells.lookup x=O c->∃v,s.heap.IsCell c v
 free:H X.env.locals=aG
 iJ:∀x c,X.env.cells.lookup x=O c->H c=aG
 pin:∀p∈X.pn++pins,s.heap.get? p.1=O p.2/\H p.1=aG/\p.1≠X.env.locals/\p.1∉X.fs/\∀v,p.2.data≠.cell v
 ay:dv X.prog X.w H s.heap
 len:σ.length=X.N.length
section
variable {X:Cx}{W:aV}{σ:Z (bS V)}{H T:Hp}{s:cb}{h':cX}
def Cx.Ok.Zkb(a:X.Ok)(e:X.base.get? b=O o):b∉X.fs:=λc=>by
 have:=(a.jT.mem c).1
 grind
def Inv.bs(I:Inv X W σ H s):∀b o,X.base.get? b=O o->s.heap.get? b=O o/\H b=aG:=λb o e=>
 ⟨I.base.keep b o (I.ok.bs b o e).1 (I.ok.bs b o e).2 (I.ok.Zkb e) (I.ok.uu b o e),I.base.free b o (I.ok.bs b o e).1 (I.ok.bs b o e).2 (I.ok.uu b o e)⟩
def Inv.bk(I:Inv X W σ H s):∀b o,X.base.get? b=O o->s.heap.get? b=O o:=λb o e=>(I.bs b o e).1
def Inv.mod(I:Inv X W σ H s):Mod X.K X.mg X.base:=I.ok.mod
def Inv.cj(I:Inv X W σ H s):X.K.In s.heap:=I.ok.mod.nX.keeps I.bk
def Inv.lt(I:Inv X W σ H s):X.env.locals<s.heap.objs.size:=let⟨_,a,_⟩:=I.loc;a.lt
def Inv.sz(I:Inv X W σ H s):X.c6.heap.objs.size<=s.heap.objs.size:=Yy I.ok.above (Jx I.lt)
def Inv.VB(I:Inv X W σ H s)(h:s.heap.objs.size<=a):a∉X.fs:=λc=>by
 obtain⟨_,o,b,_⟩:=I.ok.jT.mem c;exact absurd (Y6 (Yv b) (Yy I.sz h)) (Wi _)
def Inv.qR(I:Inv X W σ H s):∀x c,X.env.cells.lookup x=O c->c≠X.env.locals:=λx c e z=>by
 refine hP (I.cell x c e) λv o d hd=>?_;obtain⟨m,⟨b,f,g,a,h,_⟩,_⟩:=I.loc
 grind
theorem Inv.jT(I:Inv X W σ H s):s.heap.FunFrames X.base X.outer:=by
 have all:∀(l:Z Env),(∀b∈cU l,b∈X.fs)->X.c6.heap.FunFrames X.base l->s.heap.FunFrames X.base l:=by
  intro l;induction l with
  |nil=>intro _ _;trivial
  |cons env r g=>
   rintro f ⟨k,⟨L,o,a,j,i,hd⟩,h⟩;have d:=f L (by unfold cU;rw[Jr,a];exact Ym);obtain⟨m,e⟩:=I.base.slot L o i (I.ok.pC L d) d λz=>I.ok.r_ L z d;exact⟨k,⟨L,_,a,j,e,hd⟩,g (λb c=>f b (by unfold cU;rw[Jr,a];exact Yx _ c)) h⟩
 exact all X.outer (λ_ c=>c) I.ok.jT
def Inv.stack(I:Inv X W σ H s):s.heap.FunFrames X.base X.stack:=by
 rcases I.ok.w8 with e|⟨e,b⟩;·exact e▸I.jT
 ·rw[e];refine bh I.loc λm a _=>?_;refine .cons (by rw[I.ok.kind];decide) b a ?_ I.jT;exact M7 (Yy I.ok.mQ I.ok.above)
def Inv.Kx(I:Inv X W σ H s):∀b∈cU X.stack,b∈X.env.locals::X.fs:=λb a=>by
 rcases I.ok.w8 with e|⟨e,c⟩;·simp_all
 ·rw[e] at a;unfold cU at a;rw[Jr,c] at a;exact a
def Inv.BK(I:Inv X W σ H s):∀b∈cU X.stack,H b=aG:=λb a=>by
 rcases Yp.mp (I.Kx b a) with e|a;·exact e▸I.free
 ·obtain⟨_,o,c,_⟩:=I.ok.jT.mem a;exact I.base.free b o c (I.ok.pC b a) λz=>I.ok.r_ b z a
def Inv.step{g':dg GenState}{t':Nat}{d':Drawn}{ch:Z U}(I:Inv X W σ H s)
  (D:∀b∈ch,(b∈X.ex\/X.c6.heap.objs.size<=b)/\b≠X.env.locals/\(∀x c,X.env.cells.lookup x=O c->c≠b)/\∀p∈X.pn++W,p.1≠b)
  (g:∀b o,b≠X.env.locals->b∉X.fs->b∉ch->s.heap.get? b=O o->H b=aG->h'.get? b=O o)
  (w:∀b o,b≠X.env.locals->b∈X.fs->b∉ch->s.heap.get? b=O o->H b=aG->∃L,h'.get? b=O {o with slots:=L})(f:∀b o,b∉ch->s.heap.get? b=O o->H b=aG->T b=aG)
  (y:∀b o,b∉ch->s.heap.get? b=O o->∃E,h'.get? b=O E)
  (ia:∀b t,H b=O (.tup t)->T b=O (.tup t))(iQ:∀b o u,H b=O (.cH o u)->T b=O (.cH o u))(iZ:∀b G,H b=O (.sG G)->∃more,T b=O (.sG (G++more)))
  (ns:∀m,s.heap.Ns X.env.locals m->h'.Ns X.env.locals m)(ay:dv X.prog X.w T h')(hg:AllBare g'):
  Inv X W σ T {s with heap:=h',gens:=g',drawn:=d',toks:=t'}:=by
 have R:∀b o,X.c6.heap.get? b=O o->b≠X.env.locals:=λb o e=>Y2 (Y6 (Yv e) I.ok.above);have J:∀b o,X.c6.heap.get? b=O o->b∉X.ex->b∉ch:=λb o e a A=>by
  rcases(D b A).1 with z|z;·exact a z
  ·exact absurd (Y6 (Yv e) z) (Wi _)
 have h:∀x c,X.env.cells.lookup x=O c->∀v,s.heap.IsCell c v->h'.IsCell c v:=λx c e v ⟨o,B,hd⟩=>by
  have C:=λz=>(D c z).2.2.1 x c e Y;by_cases Q:c∈X.fs
  ·obtain⟨L,q⟩:=w c o (I.qR x c e) Q C B (I.iJ x c e);exact⟨_,q,hd⟩
  ·exact⟨o,g c o (I.qR x c e) Q C B (I.iJ x c e),hd⟩
 refine⟨I.ok,I.os,hg,⟨λb o e n A a=>?_,λb o e n A a=>?_,λb o e n a=>?_,λb o e a=>?_,λb t e=>ia b t (I.base.ia b t e),λb o t e=>iQ b o t (I.base.iQ b o t e),λb G e=>?_⟩,?_,λx c e=>?_,?_,λx c e=>?_,λp P=>?_,ay,I.len⟩;·exact g b o (R b o e) A (J b o e a) (I.base.keep b o e n A a) (I.base.free b o e n a)
 ·obtain⟨L,j⟩:=I.base.slot b o e n A a;obtain⟨Xe,F⟩:=w b _ (R b o e) A (J b o e a) j (I.base.free b o e n a);exact⟨Xe,F⟩
 ·obtain⟨E,j⟩:=I.base.there b o e a;exact f b E (J b o e a) j (I.base.free b o e n a)
 ·obtain⟨E,j⟩:=I.base.there b o e a;exact y b E (J b o e a) j
 ·obtain⟨m1,j⟩:=I.base.iZ b G e;obtain⟨m2,F⟩:=iZ b _ j;exact⟨m1++m2,by rw[F,Array.append_assoc]⟩
 ·refine bh I.loc λm hn hl=>?_;refine⟨m,ns m hn,λi x v j F e3=>?_⟩;obtain⟨u,r,l⟩:=hl i x v j F e3;refine⟨u,r,?_⟩;rcases l with l|⟨k,c,e,z⟩;·exact .inl l
  ·exact .inr ⟨k,c,e,h x c e _ z⟩
 ·obtain⟨v,z⟩:=I.cell x c e;exact⟨v,h x c e v z⟩
 ·refine bh I.loc λm jm _=>?_;obtain ⟨o,_,_,B,_⟩:=jm;exact f _ o (λz=>(D _ z).2.1 Y) B I.free
 ·refine hP (I.cell x c e) λv o B hd=>?_;exact f c o (λz=>(D c z).2.2.1 x c e Y) B (I.iJ x c e)
 ·refine ng (I.pin p P) λe n ne N d=>?_;have C:=λz=>(D p.1 z).2.2.2 p P Y;exact⟨g p.1 p.2 ne N C e n,f p.1 p.2 C e n,ne,N,d⟩
def Inv.un(I:Inv X W σ H s)(u:Un X.fs [] H T s.heap h')(i:dv X.prog X.w T h'):Inv X W σ T {s with heap:=h',toks:=l}:=by
 refine bh (id I.loc) λm x _=>?_;obtain ⟨o,v,w,d,r⟩:=x;obtain⟨p,h⟩:=u.any d I.free QS;exact I.step (g':=s.gens) (ch:=[]) (λ_ z=>nomatch z) (λb o _ a _ e n=>u.keep b o e n a QS) (λb o _ a _ e n=>u.slot b o e n a QS) (λb o _ e n=>u.free b o e n QS) (λb o _ e=>u.there b o e QS) u.ia u.iQ u.iZ (λt g=>by
  obtain⟨q,k,j,c,f⟩:=g;rw[d] at c;cases c;exact⟨_,k,j,h,f⟩) i I.bare
def Inv.call(I:Inv X W σ H s)(u:Un (cU X.stack) ch H T s.heap h')(t:dv X.prog X.w T h')(k:AllBare q)
  (g:∀b∈ch,(b∈X.ex\/X.c6.heap.objs.size<=b)/\b≠X.env.locals/\(∀x c,X.env.cells.lookup x=O c->c≠b)/\∀p∈X.pn++W,p.1≠b):
  Inv X W σ T {s with heap:=h',gens:=q,drawn:=F,toks:=y}:=by
 obtain⟨m,⟨o,D,E,h,r⟩,_⟩:=id I.loc;obtain⟨A,d⟩:=u.any h I.free λz=>(g _ z).2.1 Y;exact I.step g (λb o d l a e n=>u.keep b o e n (λz=>(Yp.mp (I.Kx b z)).elim d l) a) (λb o _ _ a e n=>u.any e n a) (λb o a e n=>u.free b o e n a) (λb o a e=>u.there b o e a) u.ia u.iQ u.iZ (λC j=>by
  obtain⟨B,w,v,f,i⟩:=j;rw[h] at f;cases f;exact⟨_,w,v,d,i⟩) t k
def Inv.turned(I:Inv X W σ H s)(k:∀b o,b≠it->s.heap.get? b=O o->h'.get? b=O o)(h:H it=aG)(d:it≠X.env.locals)
  (w:it∈X.ex\/X.c6.heap.objs.size<=it)(t:∀x c,X.env.cells.lookup x=O c->c≠it)(l:∀p∈X.pn++W,p.1≠it):Inv X W σ H {s with heap:=h',toks:=B}:=by
 have f:∀b u,H b=O u->b≠it:=λb u e z=>by rw[z,h] at e;cases e
 refine I.step (g':=s.gens) (ch:=[it]) (λb j=>?_) (λb o _ _ a e _=>k b o (λz=>a (by simp[z])) e) (λb o _ _ a e _=>⟨o.slots,k b o (λz=>a (by simp[z])) e⟩) (λ_ _ _ _ n=>n)
  (λb o a e=>⟨o,k b o (λz=>a (by simp[z])) e⟩) (λ_ _ e=>e) (λ_ _ _ e=>e) (λb C e=>⟨#[],by rw[e];simp⟩) (λm i=>?_) (λb u e=>?_) I.bare
 ·have e:b=it:=by simpa using j
  subst e;exact⟨w,d,t,l⟩
 ·obtain⟨o,y,A,g,r⟩:=i;exact⟨o,y,A,k _ o (kK d) g,r⟩
 ·refine(I.ay b u e).iP (λc v a q=>k c v ?_ q) (λ_ q=>q) λ_ _ q=>q;rcases a with z|z;·exact z▸f b u e
  ·exact f c _ z
def Inv.tok(I:Inv X W σ H s)(t:Nat):Inv X W σ H {s with toks:=t}:=I.un Un.refl I.ay
def Inv.kept(I:Inv X W σ H s)(k:∀b u,s.heap.get? b=O u->h'.get? b=O u):Inv X W σ H {s with heap:=h',toks:=t'}:=I.un (Un.kept k) (I.ay.kept k)
def Inv.laid(I:Inv X W σ H s)(k:∀b u,s.heap.get? b=O u->h'.get? b=O u)(d:s.heap.objs.size<=a)(c:cM X.prog X.w (upd H a o) h' a o):
  Inv X W σ (upd H a o) {s with heap:=h',toks:=t'}:=I.un (Un.laid k d (I.ay.fresh d)) (I.ay.laid k d c)
def Inv.write(I:Inv X W σ H s)(d:zR (H x))(f:e=x\/H e=O (.own x))(k:∀b u,b≠e->s.heap.get? b=O u->h'.get? b=O u)(c:∃u,h'.get? e=O u)
  (a:cM X.prog X.w (upd H x o) h' x o):Inv X W σ (upd H x o) {s with heap:=h',toks:=t'}:=I.un (Un.write d f k c) (I.ay.write d f k c a)
def Inv.yO(I:Inv X W σ H s)(h:∀p∈b,s.heap.get? p.1=O p.2/\H p.1=aG/\p.1≠X.env.locals/\p.1∉X.fs/\∀v,p.2.data≠.cell v):Inv X b σ H s:=
 ⟨I.ok,I.os,I.bare,I.base,I.loc,I.cell,I.free,I.iJ,λp a=>(Yq.mp a).elim (λz=>I.pin p (Ys _ z)) (h p),I.ay,I.len⟩
def IU{N:Z af}(c:N.Nodup){i j:Nat}{x:af}(a:N[i]?=O x)(b:N[j]?=O x):i=j:=by
 obtain⟨g,e⟩:=Yh.mp a;obtain⟨f,d⟩:=Yh.mp b;exact(List.getElem_inj c).mp (e.trans d.symm)
def ZdL{f:Model}{A:gb}{E:bg}{i:Nat}{x:af}{v:V}{u:a7}{Q:Unit->cb->Prop}(I:Inv X W σ H s)(hN:X.N.Nodup)(J:X.N[i]?=O x)(B:Loc X.env.scope x)(r:RelV v u)
  (h:∀s',Inv X W (σ.set i (O v)) H s'->(∃a,Heap.SameBut a s.heap s'.heap/\(a=X.env.locals\/X.env.cells.lookup x=O a))->Q () s')(hf:X.fn x=ar\/X.env.scope.names.lookup x=O .local:=by first|exact .inl rfl|exact .inr rfl|assumption):wpAny f A (storeName X.env x u) Q E s:=by
 obtain⟨m,hn,hl⟩:=id I.loc;have Zkc:(X.env.scope.kind==.class||(X.env.scope.kind==.module&&X.env.locals !=X.env.globals))=a_:=by rw[I.ok.kind];rfl
 have VC:i<σ.length:=by rw[I.len];exact(Yh.mp J).1
 have qR:=I.qR;have l:∀{a:U} {h':cX},(∃o,s.heap.get? a=O o/\H a=aG)->Heap.SameBut a s.heap h'->dv X.prog X.w H h':=λ{a h'} ha g b ob e=>by
  obtain⟨_,_,UP⟩:=ha;refine(I.ay b ob e).iP (λc L w q=>(g.2 c ?_).trans q) (λ_ q=>q) λ_ _ q=>q;rintro rfl;rcases w with rfl|w;·rw[UP] at e;cases e
  ·rw[UP] at w;cases w
 rcases B with D|D
 ·refine wpAny_storeName_local D hn (λh' xf g=>?_) Zkc;obtain⟨oL,_,_,mS,_⟩:=id hn;refine h _ ⟨I.ok,I.os,I.bare,⟨λb o e n G B=>?_,λb o e n G B=>?_,I.base.free,λb o e B=>?_,I.base.ia,I.base.iQ,I.base.iZ⟩,⟨_,xf,λj y P t C e3=>?_⟩,λy c e=>?_,I.free,I.iJ,λp hp=>?_,l ⟨oL,mS,I.free⟩ g,by simpa using I.len⟩ ⟨_,g,.inl Y⟩;·exact(g.2 b (Y2 (Y6 (Yv e) I.ok.above))).trans (I.base.keep b o e n G B)
  ·obtain⟨sl,t⟩:=I.base.slot b o e n G B;exact⟨sl,(g.2 b (Y2 (Y6 (Yv e) I.ok.above))).trans t⟩
  ·obtain⟨o',t⟩:=I.base.there b o e B;exact⟨o',(g.2 b (Y2 (Y6 (Yv e) I.ok.above))).trans t⟩
  ·by_cases F:j=i
   ·subst F;rw[J] at t;cases t;rw[LL VC] at C;cases C;exact⟨u,r,.inl ⟨D,QS⟩⟩
   ·rw[Xh (kK F)] at C;obtain⟨R,r',q⟩:=hl j y P t C e3;refine⟨R,r',?_⟩;rcases q with⟨k,e⟩|⟨k,c,e,z⟩
    ·refine .inl ⟨k,?_⟩;have:y≠x:=λe=>F (IU hN t (e▸J));simp[this,e]
    ·exact .inr ⟨k,c,e,z.sameBut g (qR y c e)⟩
  ·obtain⟨L,z⟩:=I.cell y c e;exact⟨L,z.sameBut g (qR y c e)⟩
  ·obtain⟨e,n,ne,nf,d⟩:=I.pin p hp;exact⟨(g.2 p.1 ne).trans e,n,ne,nf,d⟩
 ·have Mu:X.fn x=ar:=by
   rcases hf with z|z;·exact z
   ·rw[z] at D;cases D
  obtain⟨c,w⟩:=I.ok.has x (.inl D);obtain⟨L,z⟩:=I.cell x c w;refine wpAny_storeName_cell I.ok.kind D w z (λh' d_ g=>?_);obtain⟨oc,Xi,Zkd⟩:=id z;refine h {s with heap:=h'} ⟨I.ok,I.os,I.bare,⟨λb o e n G B=>?_,λb o e n G B=>?_,I.base.free,λb o e B=>?_,I.base.ia,I.base.iQ,I.base.iZ⟩,⟨m,hn.sameBut g (kK (qR x c w)),λj y P t C e3=>?_⟩,λy N e=>?_,I.free,I.iJ,λp hp=>?_,l ⟨oc,Xi,I.iJ x c w⟩ g,by simpa using I.len⟩ ⟨c,g,.inr w⟩;·exact(g.2 b (Y2 (Y6 (Yv e) (I.ok.uJ x c Mu w)))).trans (I.base.keep b o e n G B)
  ·obtain⟨sl,t⟩:=I.base.slot b o e n G B;exact⟨sl,(g.2 b (Y2 (Y6 (Yv e) (I.ok.uJ x c Mu w)))).trans t⟩
  ·obtain⟨o',t⟩:=I.base.there b o e B;exact⟨o',(g.2 b (Y2 (Y6 (Yv e) (I.ok.uJ x c Mu w)))).trans t⟩
  ·by_cases F:j=i
   ·subst F;rw[J] at t;cases t;rw[LL VC] at C;cases C;exact⟨u,r,.inr ⟨.inl D,c,w,d_⟩⟩
   ·rw[Xh (kK F)] at C;obtain⟨R,r',q⟩:=hl j y P t C e3;refine⟨R,r',?_⟩;rcases q with q|⟨k,N,e,z'⟩;·exact .inl q
    ·refine .inr ⟨k,N,e,z'.sameBut g ?_⟩;rintro rfl;exact F (IU hN t (I.ok.inj _ _ _ e w▸J))
  ·by_cases Xj:N=c;·subst Xj;exact⟨_,d_⟩
   ·obtain⟨w2,z2⟩:=I.cell y N e;exact⟨w2,z2.sameBut g Xj⟩
  ·obtain⟨e,n,ne,nf,d⟩:=I.pin p hp;refine⟨(g.2 p.1 ?_).trans e,n,ne,nf,d⟩;intro q;rw[q,Xi] at e;have q':=Yo e;exact d L (by rwa[←q'])
def Bz{a:Model}{A:gb}{E:bg}{i:Nat}{x:af}{v:V}{u:a7}{Q:Unit->cb->Prop}(I:Inv X W σ H s)(f:X.N.Nodup)(d:X.N[i]?=O x)(c:Loc X.env.scope x)(r:RelV v u)
  (h:∀b,Inv X W (σ.set i (O v)) H b->Q () b)(e:X.fn x=ar\/X.env.scope.names.lookup x=O .local:=by first|exact .inl rfl|exact .inr rfl|assumption):wpAny a A (storeName X.env x u) Q E s:=
 ZdL I f d c r (λb g _=>h b g) e
def Inv.K_(I:Inv X W σ H s)(d:s'.os=s.os)(u:Un (cU X.stack) ch H T s.heap s'.heap)(g:dv X.prog X.w T s'.heap)(f:AllBare s'.gens)
  (a:∀b∈ch,(b∈X.ex\/X.c6.heap.objs.size<=b)/\b≠X.env.locals/\(∀x c,X.env.cells.lookup x=O c->c≠b)/\∀p∈X.pn++W,p.1≠b):Inv X W σ T s':=by
 obtain⟨h',j,k,h,i⟩:=s';have e:=d;subst e;exact I.call u g f a
end
abbrev XK:=a7->bS U->Hp->Prop
abbrev St:=Z (bS V)
abbrev VK:=V->Hp->Prop
abbrev TE:=St->Hp->VK->Prop
abbrev TT:=St->Hp->(cF->Hp->Prop)->Prop
abbrev TA:=St->Hp->(Z V->Hp->Prop)->Prop
structure Ends where
 nx:St->Hp->Prop
 rt:VK
 bk:St->Hp->Prop:=λ_ _=>False
 ct:St->Hp->Prop:=λ_ _=>False
abbrev TS:=Ends->St->Hp->Prop
inductive VD(X:Cx)(a:aV)(b:St)(Q:VK)(u:a7)(c:cb):Prop
 |mk (v d) (g:Inv X a b d c) (f:RelV v u) (e:Q v d):VD X a b Q u c
def EP(X:Cx)(a:aV)(b:St)(Q:VK)(u:a7)(c:cb):Prop:=VD X a b Q u c
inductive VE(X:Cx)(a:aV)(b:St)(R:Hp->Prop)(c:cb):Prop
 |mk (d:Hp) (f:Inv X a b d c) (e:R d):VE X a b R c
def TP(X:Cx)(a:aV)(c:St)(Q:cF->Hp->Prop)(b:cF)(d:cb):Prop:=VE X a c (Q b) d
inductive VF(X:Cx)(a:aV)(b:St)(Q:Z V->Hp->Prop)(d:Z a7)(e:cb):Prop
 |mk (c f) (i:Inv X a b f e) (h:Vals c d) (g:Q c f):VF X a b Q d e
def AP(X:Cx)(a:aV)(b:St)(Q:Z V->Hp->Prop)(c:Z a7)(d:cb):Prop:=VF X a b Q c d
inductive uv(X:Cx)(a:aV)(Q:St->Hp->Prop)(b:cb):Prop
 |mk (c:St) (d:Hp) (f:Inv X a c d b) (e:Q c d):uv X a Q b
inductive VG(X:Cx)(a:aV)(Q:VK)(u:a7)(b:cb):Prop
 |mk (v:V) (d:St) (c:Hp) (g:Inv X a d c b) (f:RelV v u) (e:Q v c):VG X a Q u b
def SP(X:Cx)(a:aV)(D:Ends)(f:Flow)(b:cb):Prop:=
 match f with
 |.next=>uv X a D.nx b
 |.brk=>uv X a D.bk b
 |.cont=>uv X a D.ct b
 |.ret u=>VG X a D.rt u b
def PE(X:Cx)(e:cV)(t:TE):Prop:=
 ∀(a:aV) (s:cb) (b:St) (H:Hp) (Q:VK),Inv X a b H s->t b H Q->wpAny X.md X.A (eval e X.env) (EP X a b Q) X.xe s
def PT(X:Cx)(e:cV)(t:TT):Prop:=
 ∀(a:aV) (s:cb) (b:St) (H:Hp) (Q:cF->Hp->Prop),Inv X a b H s->t b H Q->wpAny X.md X.A (isTrue e X.env (eval e X.env)) (TP X a b Q) X.xe s
def PW(X:Cx)(e:cV)(t:TT):Prop:=
 ∀(b:Sem a7) (a:aV) (s:cb) (c:St) (H:Hp) (Q:cF->Hp->Prop),Inv X a c H s->t c H Q->wpAny X.md X.A (isTrue e X.env b) (TP X a c Q) X.xe s
def PW.pt(h:PW X e t):PT X e t:=h _
def PA(X:Cx)(d:Z cV)(t:TA):Prop:=
 ∀(c:Pos) (a:aV) (s:cb) (b:St) (H:Hp) (Q:Z V->Hp->Prop),Inv X a b H s->t b H Q->wpAny X.md X.A (spliced (backTo c (starEach d X.env))) (AP X a b Q) X.xe s
def PS(X:Cx)(c:cm)(t:TS):Prop:=
 ∀(a:aV) (s:cb) (b:St) (H:Hp) (D:Ends),Inv X a b H s->t D b H->wpAny X.md X.A (exec c X.env) (SP X a D) X.xe s
def gc(X:Cx)(c:Z cm)(t:TS):Prop:=
 ∀(a:aV) (s:cb) (b:St) (H:Hp) (D:Ends),Inv X a b H s->t D b H->wpAny X.md X.A (execs c X.env) (SP X a D) X.xe s
def az(h:wpAny M A t Q E s)(b:∀a s,Q a s->c a s):wpAny M A t c E s:=eH h b λ_ _ x=>x
section
variable {X:Cx}
inductive Tb(i:Nat)(a:St)(H:Hp)(Q:VK):Prop
 |mk (v) (c:a[i]?=O (O v)) (b:Q v H):Tb i a H Q
def gP(i:Nat):TE:=λa H Q=>Tb i a H Q
def tC(v:V):TE:=λ_ H Q=>Q v H
def ZhO{i:Nat}{x:af}{W:Pos}(q:X.N[i]?=O x)(k:uI X.env.scope x)(d:(x==("__debug__":af))=a_:=by decide)(t:(x==("__classdict__":af))=a_:=by decide):PE X (.Name x W) (gP i):=by
 rintro b s j H Q I ⟨v,e,h⟩;refine bh I.loc λm n p=>?_;refine bh (p i x v q e k) λu r l=>?_;have fin:EP X b j Q u s:=⟨v,H,I,r,h⟩;rcases l with⟨a,o⟩|⟨a,c,f,g⟩;·exact Ad (Mz I.ok.kind a n o fin) d
 ·rcases a with a|a;·exact Ad (Nc I.ok.kind a f g fin) d
  ·exact Ad (wpAny_loadName_free I.ok.kind a f g fin t) d
def aF:PE X (.Constant (.int i) j W) (tC (.int i)):=λ_ _ _ H _ I h=>wpAny_Constant_int ⟨.int i,H,I.tok _,⟨_,Y⟩,h⟩
def gH:PE X (.Constant (.bool b) j W) (tC (.bl b)):=λ_ _ _ H _ I h=>Constant_bool ⟨.bl b,H,I,Y,h⟩
def nJ:PE X (.Constant .none j W) (tC .aA):=λ_ _ _ H _ I h=>Constant_none ⟨.aA,H,I,Y,h⟩
def aT:PE X (.Constant (.str x) j W) (tC (.str x)):=λ_ _ _ H _ I h=>Calls.Constant_str ⟨.str x,H,I.tok _,⟨_,Y⟩,h⟩
def Gl(X:Cx)(x:af):Prop:=X.env.kindOf x=O .globalImplicit
def tU{E:bg}{a:aV}{s:cb}{b:St}{H:Hp}{x:af}{u:a7}{W:Pos}{Q:bg}(I:Inv X a b H s)(d:Gl X x)(c:X.mg x=O u)(h:Q u s)
  (e:(x==("__debug__":af))=a_:=by decide):wpAny X.md X.A (eval (.Name x W) X.env) Q E s:=
 DR I.ok.kind d (Calls.loadGlobal_global (by exact I.ok.glob▸I.mod.glob.keeps I.bk) c h) e
def wy{E:bg}{a:aV}{s:cb}{b:St}{H:Hp}{x:af}{u:a7}{W:Pos}{Q:bg}(I:Inv X a b H s)(f:Gl X x)(e:X.mg x=aG)(c:bootBuiltins x=O u)(h:Q u s)
  (d:x≠"__name__":=by decide)(g:(x==("__debug__":af))=a_:=by decide):wpAny X.md X.A (eval (.Name x W) X.env) Q E s:=by
 refine bh I.mod.blt λk j i=>?_;exact DR I.ok.kind f (Calls.loadGlobal_builtin (by exact I.ok.glob▸I.mod.glob.keeps I.bk) e (by exact I.ok.blt▸j.keeps I.bk) ((i x d).trans c) h) g
def c9{x:af}{v:V}{u:a7}{W:Pos}(b:Gl X x)(a:X.mg x=O u)(r:RelV v u)(c:(x==("__debug__":af))=a_:=by decide):PE X (.Name x W) (tC v):=
 λ_ _ _ H _ I h=>tU I b a ⟨v,H,I,r,h⟩ c
def Zgf{x:af}{v:V}{u:a7}{W:Pos}(d:Gl X x)(c:X.mg x=aG)(a:bootBuiltins x=O u)(r:RelV v u)(b:x≠"__name__":=by decide)(e:(x==("__debug__":af))=a_:=by decide):PE X (.Name x W) (tC v):=
 λ_ _ _ H _ I h=>wy I d c a ⟨v,H,I,r,h⟩ b e
variable {a b:cV}{T R:TE}{W:Pos}
def PC(X:Cx)(e:CmpOp)(a b:cV)(t:TE):Prop:=
 ∀(c:aV) (s:cb) (d:St) (H:Hp) (Q:VK),Inv X c d H s->t d H Q->
  wpAny X.md X.A (eval a X.env) (λv g=>wpAny X.md X.A (eval b X.env) (λu f=>wpAny X.md X.A (compareOp e v u) (EP X c d Q) X.xe f) X.xe g) X.xe s
inductive VH(Q:cF->Hp->Prop)(x:V)(d:Hp):Prop
 |mk (c) (f:x=.bl c) (e:Q c d):VH Q x d
def tB(t:TE):TT:=λc H Q=>t c H λx d=>VH Q x d
def ZhP{d:CmpOp}{t:TE}(h:PC X d a b t)(g:behindInMarks d b=a_:=by first|exact i _ QD QD|rfl):PE X (.Compare a [d] [b] W) t:=λc s e H Q I f=>Z0 (h c s e H Q I f) g
def kq{f:CmpOp}{t:TE}(h:PC X f a b t)(g:behindInMarks f b=a_:=by first|exact o _ QD QD|rfl):PT X (.Compare a [f] [b] W) (tB t):=by
 intro e s i H Q I m;refine LS (az (h e s i H _ I m) λv z g=>az g λu y n=>az n λc w j=>?_) g;obtain⟨x,r,p,k,l⟩:=j;obtain⟨d,rfl,q⟩:=l;cases k;exact oD ⟨r,p,q⟩
def fh{e:cV}{t:TE}(h:PE X e t)(m:∀c,isTrue e X.env c=(do let v←c;standAt e.pos;holding [v] (truthy v)):=by intro _;rfl):PT X e (tB t):=by
 intro f s g H Q I l;refine isTrue_plain (az (h f s g H _ I l) λv p i=>?_) (m _);obtain⟨x,o,n,j,k⟩:=i;obtain⟨d,rfl,q⟩:=k;cases j;exact oD ⟨o,n,q⟩
def VI(t u:TT):TT:=λd H Q=>t d H λc e=>if c=ar then u d e Q else Q a_ e
def Xk(t u:TT):TT:=λd H Q=>t d H λc e=>if c=ar then Q ar e else u d e Q
def Zke(t:TT):TT:=λd H Q=>t d H λc e=>Q (!c) e
theorem pw_and1(g:PT X a tA):PW X (.BoolOp .And [a] W) tA:=by
 intro i d s f H Q I h;refine isTrue_and (az (g d s f H Q I h) λc j e=>?_);cases c with
 |true=>exact isTrue_and_nil e
 |false=>exact e
theorem pw_or1(g:PT X a tA):PW X (.BoolOp .Or [a] W) tA:=by
 intro i d s f H Q I h;refine isTrue_or (az (g d s f H Q I h) λc j e=>?_);cases c with
 |false=>exact isTrue_or_nil e
 |true=>exact e
theorem pw_and(o:PT X a l)(n:PW X (.BoolOp .And (b::rest) W) p):PW X (.BoolOp .And (a::b::rest) W) (VI l p):=by
 intro k d s e H Q I h;refine isTrue_and (az (o d s e H _ I h) λc m j=>?_);obtain⟨i,g,f⟩:=j;cases c with
 |true=>exact n k d m e i Q g f
 |false=>exact⟨i,g,f⟩
theorem pw_or(o:PT X a l)(n:PW X (.BoolOp .Or (b::rest) W) p):PW X (.BoolOp .Or (a::b::rest) W) (Xk l p):=by
 intro k d s e H Q I h;refine isTrue_or (az (o d s e H _ I h) λc m j=>?_);obtain⟨i,g,f⟩:=j;cases c with
 |true=>exact⟨i,g,f⟩
 |false=>exact n k d m e i Q g f
def jO(g:PT X a f):PT X (.UnaryOp .Not a W) (Zke f):=by
 intro d s e H Q I h;exact isTrue_not (g d s e H (λc i=>Q (!c) i) I h)
def UQ(T R:TE):TE:=λd H Q=>T d H λx e=>∃c,x=.bl c/\if c=ar then R d e Q else Q (.bl a_) e
def VJ(T R:TE):TE:=λd H Q=>T d H λx e=>∃c,x=.bl c/\if c=ar then Q (.bl ar) e else R d e Q
def Zjm(T:TE):TE:=λd H Q=>T d H λx e=>∃c,x=.bl c/\Q (.bl (!c)) e
def oQ(h:PE X a t):PE X (.BoolOp op [a] W) t:=λc s d H Q I e=>BoolOp_one (h c s d H Q I e)
theorem rV(n:PE X a T)(m:PE X (.BoolOp .And (b::rest) W) R):PE X (.BoolOp .And (a::b::rest) W) (UQ T R):=by
 intro d s f H Q I h;refine BoolOp_and (az (n d s f H _ I h) λv k j=>?_);obtain⟨x,i,g,l,e⟩:=j;obtain⟨c,rfl,e⟩:=e;cases l;refine oD ?_;cases c with
 |true=>exact m d k f i Q g e
 |false=>exact⟨.bl a_,i,g,Y,e⟩
theorem La(n:PE X a T)(m:PE X (.BoolOp .Or (b::rest) W) R):PE X (.BoolOp .Or (a::b::rest) W) (VJ T R):=by
 intro d s f H Q I h;refine BoolOp_or (az (n d s f H _ I h) λv k j=>?_);obtain⟨x,i,g,l,e⟩:=j;obtain⟨c,rfl,e⟩:=e;cases l;refine oD ?_;cases c with
 |false=>exact m d k f i Q g e
 |true=>exact⟨.bl ar,i,g,Y,e⟩
def ZhQ(j:PE X a T):PE X (.UnaryOp .Not a W) (Zjm T):=by
 intro d s f H Q I h;refine UnaryOp_ (az (j d s f H _ I h) λv m g=>?_);obtain⟨x,l,k,i,e⟩:=g;obtain⟨c,rfl,e⟩:=e;cases i;exact not_of (oD ⟨.bl (!c),l,k,Y,e⟩)
def tIf(t:TT)(T R:TE):TE:=λd H Q=>t d H λc e=>if c=ar then T d e Q else R d e Q
theorem Qy(n:PT X c m)(p:PE X a T)(o:PE X b R):PE X (.IfExp c a b W) (tIf m T R):=by
 intro e s f H Q I h;refine wpAny_IfExp (az (n e s f H _ I h) λd g l=>?_);obtain⟨k,j,i⟩:=l;cases d with
 |true=>exact p e g f k Q j i
 |false=>exact o e g f k Q j i
end
def aj(K:ag)(H:Hp)(a:U)(c:Z V):Prop:=
 Rd H a (.lst c)\/
  ∃(o:Obj) (b:dg a7) (n:Nat),K.lookup a=O o/\o.cls=.type "list"/\o.dict=aG/\o.data=.seq b n/\b.size<=sizeLine/\Vals c b.toList
def aC(K:ag)(H:Hp)(a:U)(c:Z V):Prop:=
 Rd H a (.tup c)\/
  ∃(o:Obj) (b:dg a7) (n:Nat),K.lookup a=O o/\o.cls=.type "tuple"/\o.data=.seq b n/\b.size<=sizeLine/\Vals c b.toList
def Zkf:a7->bS V
 |.none=>O .aA
 |.bool b=>O (.bl b)
 |.int i _=>O (.int i)
 |.str x _=>O (.str x)
 |.bytes b _=>O (.kB b)
 |.float b _=>O (.qO b)
 |.ref a=>O (.ref a)
 |.type n=>O (.ty n)
 |_=>aG
theorem RelV.abs(r:RelV x u):Zkf u=O x:=by
 cases x with
 |aA=>cases r;rfl
 |bl _=>cases r;rfl
 |int _=>obtain⟨t,rfl⟩:=r;rfl
 |str _=>obtain⟨t,rfl⟩:=r;rfl
 |kB _=>obtain⟨t,rfl⟩:=r;rfl
 |qO _=>obtain⟨t,rfl⟩:=r;rfl
 |ref _=>cases r;rfl
 |ty _=>cases r;rfl
def RelV.inj(r:RelV x u)(q:RelV y u):x=y:=Yo (r.abs.symm.trans q.abs)
theorem Vals.inj:∀{a ys:Z V} {b:Z a7},Vals a b->Vals ys b->a=ys:=by
 intro a ys b h;induction h generalizing ys with
 |nil=>intro c;cases c;rfl
 |cons r t f=>
  intro c;cases c with
  |cons e d=>rw[r.inj e,f d]
def aj.of{K:ag}(h:H a=O (.lst xs)):aj K H a xs:=.inl (.inl h)
def aC.of{K:ag}(h:H a=O (.tup xs)):aC K H a xs:=.inl (.inl h)
def Inv.list(I:Inv X pins σ H s)(h:aj X.K H a xs):∃b:Z a7,Vals xs b/\PlainL s.heap a b.toArray/\xs.length<=sizeLine:=by
 rcases h with h|⟨o,b,n,d,f,hd,c,g,r⟩
 ·obtain⟨z,b,n,r,e⟩:=h.ok I.ay;exact⟨b,r,⟨_,n,e,Y,Y,Y⟩,z⟩
 ·refine⟨b.toList,r,⟨o,n,I.cj a o d,f,hd,by simpa using c⟩,?_⟩;have e:=r.length
  simp_all
def Inv.tuple(I:Inv X pins σ H s)(h:aC X.K H a xs):∃b:Z a7,Vals xs b/\IsTup s.heap a b.toArray/\xs.length<=sizeLine:=by
 rcases h with h|⟨o,b,n,d,f,c,g,r⟩
 ·obtain⟨z,b,r,p⟩:=h.ok I.ay;exact⟨b,r,p.tup,z⟩
 ·refine⟨b.toList,r,⟨o,I.cj a o d,f,n,by simpa using c⟩,?_⟩;have e:=r.length
  simp_all
def Inv.ZeN(I:Inv X pins σ H s)(h:aj X.K H a xs)(g:aj X.K H a ys):xs=ys:=by
 obtain⟨j,r,⟨o,n,e,_,_,d⟩,_⟩:=I.list h;obtain⟨rz,f,⟨k,l,b,_,_,c⟩,_⟩:=I.list g;rw[e] at b;cases b;rw[d] at c;injection c with i _;have:j=rz:=by simpa using eJ Array.toList i
 subst this;exact r.inj f
def Inv.ZdM(I:Inv X pins σ H s)(h:aC X.K H a xs)(g:aC X.K H a ys):xs=ys:=by
 obtain⟨j,r,⟨o,e,_,n,d⟩,_⟩:=I.tuple h;obtain⟨rz,f,⟨k,b,_,l,c⟩,_⟩:=I.tuple g;rw[e] at b;cases b;rw[d] at c;injection c with i _;have:j=rz:=by simpa using eJ Array.toList i
 subst this;exact r.inj f
noncomputable abbrev Cx.kY(X:Cx)(E:bg):Cx:={X with xe:=E}
abbrev Cx.pG(X:Cx):Cx:=X.kY λ_ _=>False
def Cx.Ok.kY{X:Cx}(a:X.Ok)(E:bg):(X.kY E).Ok:=
 ⟨a.mod,a.kind,a.glob,a.blt,a.above,a.inj,a.has,a.uJ,a.hd,a.frames,a.w8,a.sH,a.bs,a.mQ,a.uu,a.r_,a.jT,a.pC⟩
def Cx.Ok.rW{X:Cx}(a:(X.kY E).Ok):X.Ok:=
 ⟨a.mod,a.kind,a.glob,a.blt,a.above,a.inj,a.has,a.uJ,a.hd,a.frames,a.w8,a.sH,a.bs,a.mQ,a.uu,a.r_,a.jT,a.pC⟩
def Inv.kY(I:Inv X pins σ H s)(E:bg):Inv (X.kY E) pins σ H s:=⟨I.ok.kY E,I.os,I.bare,I.base,I.loc,I.cell,I.free,I.iJ,I.pin,I.ay,I.len⟩
def Inv.rW(I:Inv (X.kY E) pins σ H s):Inv X pins σ H s:=⟨I.ok.rW,I.os,I.bare,I.base,I.loc,I.cell,I.free,I.iJ,I.pin,I.ay,I.len⟩
theorem SP.rW(h:SP (X.kY E) pins D f s'):SP X pins D f s':=by
 cases f with
 |next=>obtain⟨a,b,I,q⟩:=h;exact⟨a,b,I.rW,q⟩
 |brk=>obtain⟨a,b,I,q⟩:=h;exact⟨a,b,I.rW,q⟩
 |cont=>obtain⟨a,b,I,q⟩:=h;exact⟨a,b,I.rW,q⟩
 |ret u=>obtain⟨v,a,b,I,r,q⟩:=h;exact⟨v,a,b,I.rW,r,q⟩
def gc.pG{b:Z cm}(h:gc X.pG b t):gc X b t:=λa s c H D I d=>
 eH (h a s c H D (I.kY _) d) (λ_ _ q=>q.rW) λ_ _ z=>False.elim z
section
variable {X:Cx}{st:cm}{t u:TS}{e:cV}{T:TE}{W:Pos}
def UR:TS:=λD a H=>D.nx a H
def zy(t u:TS):TS:=λD a H=>t {D with nx:=u D} a H
def ie{b a:TS}{D}{s H}(h:let c:=a;zy b c D s H):(zy b a) D s H:=h
def me{c b a:TS}{D}{s H}(h:let d:=a;let f:=zy b d;zy c f D s H):(zy c (zy b a)) D s H:=h
def nY{d c b a:TS}{D}{s H}(h:let f:=a;let g:=zy b f;let i:=zy c g;zy d i D s H):(zy d (zy c (zy b a))) D s H:=h
def zl5{f d c b a:TS}{D}{s H}(h:let g:=a;let i:=zy b g;let j:=zy c i;let k:=zy d j;zy f k D s H):(zy f (zy d (zy c (zy b a)))) D s H:=h
def tI{g f d c b a:TS}{D}{s H}(h:let i:=a;let j:=zy b i;let k:=zy c j;let l:=zy d k;let m:=zy f l;zy g m D s H):(zy g (zy f (zy d (zy c (zy b a))))) D s H:=h
def Cv{i g f d c b a:TS}{D}{s H}(h:let j:=a;let k:=zy b j;let l:=zy c k;let m:=zy d l;let n:=zy f m;let o:=zy g n;zy i o D s H):(zy i (zy g (zy f (zy d (zy c (zy b a)))))) D s H:=h
def zl8{j i g f d c b a:TS}{D}{s H}(h:let k:=a;let l:=zy b k;let m:=zy c l;let n:=zy d m;let o:=zy f n;let p:=zy g o;let q:=zy i p;zy j q D s H):(zy j (zy i (zy g (zy f (zy d (zy c (zy b a))))))) D s H:=h
def sm{l k j i g f d c b a:TS}{D}{s H}(h:let c9:=a;let m:=zy b c9;let n:=zy c m;let o:=zy d n;let p:=zy f o;let q:=zy g p;let r:=zy i q;let v:=zy j r;let w:=zy k v;zy l w D s H):(zy l (zy k (zy j (zy i (zy g (zy f (zy d (zy c (zy b a))))))))) D s H:=h
def zTq{c:TS}{D s H}(h:let t:=s;c D t H):c D s H:=h
def gG{p:Prop}(h:∀G:Prop,(p->G)->G):p:=h p id
def bb:gc X [] UR:=λ_ _ a H _ I h=>vg ⟨a,H,I,h⟩
theorem aq(g:PS X st t)(d:gc X rest u):gc X (st::rest) (zy t u):=by
 intro a s b H D I h;refine XT (az (g a s b H {D with nx:=u D} I h) λf c q=>?_);cases f with
 |next=>
  obtain⟨i,k,j,q⟩:=q;exact d a c i k D j q
 |ret v=>exact q
 |brk=>exact q
 |cont=>exact q
theorem av(c:PS X st t):gc X [st] t:=by
 intro a s b H D I h;refine XT (az (c a s b H D I h) λf d q=>?_);cases f with
 |next=>exact vg q
 |ret v=>exact q
 |brk=>exact q
 |cont=>exact q
def Zjn:TS:=λD a H=>D.ct a H
def Zb6:PS X (.Continue W) Zjn:=λ_ _ a H _ I h=>wpAny_Continue ⟨a,H,I,h⟩
def Inv.quiet(I:Inv X pins σ H s):interactive X.env=a_:=by simp[interactive,I.ok.kind]
def Zjo(T:TE):TS:=λD a H=>T a H λ_ b=>D.nx a b
def bY(f:PE X e T)(d:swapsWith e aG W.line X.env=pure a_:=by rfl):PS X (.Expr e W) (Zjo T):=by
 intro a s b H D I h;exact wpAny_Expr_any (az (f a s b H _ I h) λv j ⟨x,i,g,k,c⟩=>⟨b,i,g,c⟩) I.quiet d
def Zkg(T:TE):TS:=λD a H=>T a H D.rt
def aK(f:PE X e T):PS X (.Return (O e) W) (Zkg T):=by
 intro a s b H D I h;exact wpAny_Return_some (az (f a s b H _ I h) λv j ⟨x,i,g,c,d⟩=>⟨x,b,i,g,c,d⟩)
def LB(c:TT)(t u:TS):TS:=λD a H=>c a H λb d=>if b=ar then t D a d else u D a d
theorem aU(o:PT X c n)(q:gc X a t)(p:gc X b u):PS X (.If c a b W) (LB n t u):=by
 intro f s g H D I h;refine wpAny_If (az (o f s g H _ I h) λd i m=>?_);obtain⟨l,k,j⟩:=m;cases d with
 |true=>exact q f i g l D k j
 |false=>exact p f i g l D k j
def ZhR:TS:=λ_ _ _=>False
def gw:gc X a ZhR:=λ_ _ _ _ _ _ h=>h.elim
end
abbrev TG:=V->St->Hp->(St->Hp->Prop)->Prop
abbrev pH:=Z V->St->Hp->(St->Hp->Prop)->Prop
def PG(X:Cx)(a:cV)(t:TG):Prop:=
 ∀(b:aV) (s:cb) (c:St) (H:Hp) (v:V) (u:a7) (Q:St->Hp->Prop),Inv X b c H s->RelV v u->t v c H Q->
  wpAny X.md X.A (assign a X.env u) (λ_ d=>uv X b Q d) X.xe s
def zU(X:Cx)(e:Z cV)(t:pH):Prop:=
 ∀(a:aV) (s:cb) (b:St) (H:Hp) (c:Z V) (d:Z a7) (Q:St->Hp->Prop),Inv X a b H s->Vals c d->t c b H Q->
  wpAny X.md X.A (assignInOrder ((assignEach e X.env).map (·.2)) d) (λ_ f=>uv X a Q f) X.xe s
abbrev LC:=V->V->V->Hp->(Hp->Prop)->Prop
def uw(X:Cx)(t:LC):Prop:=
 ∀(a:aV) (s:cb) (b:St) (H:Hp) (o i v:V) (c d u:a7) (Q:Hp->Prop),Inv X a b H s->RelV o c->RelV i d->RelV v u->t o i v H Q->
  wpAny X.md X.A (setItem c d u) (λ_ f=>∃e,Inv X a b e f/\Q e) X.xe s
abbrev Dy:=V->V->Hp->VK->Prop
def Xl(X:Cx)(c:Operator)(t:Dy):Prop:=
 ∀(a:aV) (s:cb) (b:St) (H:Hp) (x y:V) (v u:a7) (Q:VK),Inv X a b H s->RelV x v->RelV y u->t x y H Q->
  wpAny X.md X.A (inplaceOp c v u) (EP X a b Q) X.xe s
section
variable {X:Cx}{W:Pos}
def uf(i:Nat):TG:=λv a H Q=>Q (a.set i (O v)) H
def rM{i:Nat}{x:af}(e:X.N.Nodup)(c:X.N[i]?=O x)(b:Loc X.env.scope x)(d:X.fn x=ar\/X.env.scope.names.lookup x=O .local:=by first|exact .inl rfl|exact .inr rfl|assumption):PG X (.Name x W) (uf i):=by
 intro a s g H v u Q I r h;exact wpAny_assign_Name (Bz I e c b r (λj f=>⟨_,H,f,h⟩) d)
def Zkh:pH:=λb a H Q=>b=[]/\Q a H
inductive RP(t:TG)(u:pH)(b:Z V)(a:St)(H:Hp)(Q:St->Hp->Prop):Prop
 |mk (v r) (f:b=v::r) (e:t v a H λc d=>u r c d Q):RP t u b a H Q
def Zjp(t:TG)(u:pH):pH:=λb a H Q=>RP t u b a H Q
def hV:zU X [] Zkh:=by
 rintro a s b H c d Q I r ⟨e,h⟩;subst e;exact assignInOrder_nil ⟨b,H,I,h⟩
theorem bq{e:cV}{b:Z cV}{t:TG}{u:pH}(l:PG X e t)(k:zU X b u)
  (j:(assignEach (e::b) X.env).map (·.2)=assign e X.env::(assignEach b X.env).map (·.2):=by rfl):zU X (e::b) (Zjp t u):=by
 rintro a s c H p w Q I r ⟨v,q,m,h⟩;subst m;cases r with
 |cons r g=>
  exact j▸assignInOrder_cons (az (l a s c H _ _ _ I r h) λ_ f ⟨d,o,n,i⟩=>k a f d o _ _ Q n g i)
inductive Tc(K:ag)(n:Nat)(t:pH)(v:V)(c:St)(H:Hp)(Q:St->Hp->Prop):Prop
 |mk (a b) (g:v=.ref a) (f:aC K H a b) (d:b.length=n) (e:t b c H Q):Tc K n t v c H Q
def VL(K:ag)(n:Nat)(t:pH):TG:=λv a H Q=>Tc K n t v a H Q
def ZhS{d:Z cV}{k:Nat}{t:pH}{n:Nat}(x:X.calm=ar)(h:zU X d t)
  (q:(assignEach d X.env).length=n:=by rfl)(z:(assignEach d X.env).findIdx? (·.1)=aG:=by rfl):PG X (.Tuple d k W) (VL X.K n t):=by
 rintro c s g H v u Q I r ⟨a,i,y,p,w,l⟩;subst y;cases r;refine cu (I.tuple p) λC f m A=>?_;exact assign_Tuple_tuple (I.ok.hd x) m (by simp[q,←w,f.length]) z λB j=>h c _ g H i _ Q (I.kept λb o e=>j b o (Y2 (Yv e)) e) (by simpa using f) l
def VM(b c:TE)(t:LC):TG:=λv a H Q=>b a H λo f=>c a f λi e=>t o i v e λd=>Q a d
def ZhT{o i:cV}{e f:TE}{t:LC}(w:PE X o e)(z:PE X i f)(q:uw X t)
  (J:∀v,assign (.Subscript o i W) X.env v=(do
   let b←holding [v] (eval o X.env);let c←holding [v,b] (eval i X.env)
   standAt W
   holding [v,b,c] (setItem b c v)
   release [v,b,c] []):=by intro _;rfl):PG X (.Subscript o i W) (VM e f t):=by
 intro a s d H v u Q I r h;exact bp (k8 (az (w a s d H _ I h) λb j ⟨x,F,C,l,p⟩=>bp (k8 (az (z a j d F _ C p) λc g ⟨y,E,B,k,n⟩=>bp (m6 (bp (k8 (az (q a g d E x y v b c u _ B l k r n) λ_ G ⟨D,A,m⟩=>wpAny_release ⟨d,D,A,m⟩))))))))
def wJ(b:TE)(g:TG):TS:=λD a H=>b a H λx c=>g x a c D.nx
def mC{b e:cV}{d:TE}{g:TG}(o:PE X e d)(n:PG X b g)(m:swapsWithSole [b] e W.line X.env=pure a_:=by rfl)(l:swappedStores [b] e X.env=pure aG:=by rfl)
  (p:(assignEach [b] X.env).map (·.2)=[assign b X.env]:=by rfl):PS X (.Assign [b] e W) (wJ d g):=by
 intro a s c H D I h;refine wpAny_Assign_stores (az (o a s c H _ I h) λv i f=>?_) m l;obtain⟨x,t,r,j,k⟩:=f;exact p▸az (n a i c t x v _ r j k) λ_ u q=>q
def f_{i:Nat}{x:af}{e:cV}{c:TE}{a:Pos}(p:X.N.Nodup)(m:X.N[i]?=O x)(k:Loc X.env.scope x)(o:PE X e c)(l:swapsWith e (O (.Name x a)) W.line X.env=pure a_:=by rfl)(n:X.fn x=ar\/X.env.scope.names.lookup x=O .local:=by first|exact .inl rfl|exact .inr rfl|assumption):
  PS X (.Assign [.Name x a] e W) (wJ c (uf i)):=by
 intro b s d H D I h;refine wpAny_Assign_Name (az (o b s d H _ I h) λv w f=>?_) l;obtain⟨y,t,r,g,j⟩:=f;exact Bz r p m k g (λu q=>⟨_,t,q,j⟩) n
def Zki(i:Nat)(c:TE)(b:Dy):TS:=λD a H=>∃x,a[i]?=O (O x)/\c a H λy e=>b x y e λz d=>D.nx (a.set i (O z)) d
def Td{i:Nat}{x:af}{e:cV}{o:TE}{f:Operator}{n:Dy}{d:Pos}(R:X.N.Nodup)(p:X.N[i]?=O x)(g:Loc X.env.scope x)(P:PE X e o)(F:Xl X f n)(N:X.fn x=ar\/X.env.scope.names.lookup x=O .local:=by first|exact .inl rfl|exact .inr rfl|assumption):
  PS X (.AugAssign (.Name x d) f e W) (Zki i o n):=by
 intro a s j H D I ZH;refine bh ZH λv e1 h=>?_;refine bh I.loc λm G L=>?_;have Mv:uI X.env.scope x:=by rcases g with k|k;exact .inl k;exact .inr (.inl k)
 refine bh (L i x v p e1 Mv) λu r l=>?_;refine wpAny_AugAssign_Name ?_;have q:wpAny X.md X.A (eval e X.env) (λw T=>wpAny X.md X.A (inplaceOp f u w) (λr eU=>wpAny X.md X.A (storeName X.env x r) (λ_=>SP X a D .next) X.xe eU) X.xe T) X.xe s:=az (P a s j H _ I h) λw t ⟨y,H1,I1,B,E⟩=>az (F a t j H1 v y u w _ I1 r B E) λz s2 ⟨zv,H2,I2,A,C⟩=>Bz I2 R p g A (λs3 I3=>⟨_,H2,I3,C⟩) N;rcases l with⟨b,J⟩|⟨b,c,Q,Cq⟩;·exact Mz I.ok.kind b G J q
 ·rcases b with b|b;·exact Nc I.ok.kind b Q Cq q
  ·rcases g with k|k
   ·have:X.env.scope.names.lookup x=O .free:=b
    grind
   ·have:X.env.scope.names.lookup x=O .free:=b
    grind
inductive US(f:Int->Int->Int)(x:V)(y:V)(H:Hp)(Q:VK):Prop
 |mk (i j) (c:x=.int i) (b:y=.int j) (a:Q (.int (f i j)) H):US f x y H Q
def ipI(f:Int->Int->Int):Dy:=λx y H Q=>US f x y H Q
def Te:Xl X .Add (ipI λi j=>i+j):=by
 rintro a s f H x y v u Q I c b ⟨i,j,e,d,q⟩;subst e;subst d;obtain⟨t,rfl⟩:=c;obtain⟨g,rfl⟩:=b;exact iadd_int ⟨.int _,H,I.tok _,⟨_,Y⟩,q⟩
end
def Tf(c:TT)(h:TS):TS:=λD a H=>∃W:Nat->St->Hp->Prop,(∃m,W m a H)/\∀m a H,W m a H->
 c a H λb f=>if b=ar then ∃N:St->Hp->Prop,(∀e g,N e g->∃d,d<m/\W d e g)/\h {D with nx:=N,ct:=N,bk:=D.nx} a f else D.nx a f
theorem IV(r:PassesOwn X.md X.A X.env X.xe)(P:PT X c C)(Q:gc X body E):PS X (.While c body [] pos) (Tf C E):=by
 intro a s y H D I h;refine bh h λW jm d=>?_;obtain ⟨L,B⟩:=jm;refine wpAny_While (codeAny_whileLoop (λn J=>uv X a (W n) J) ?_ L ⟨y,H,I,B⟩);rintro n G ⟨i,x,R,A⟩;refine qp r (az (P a G i x _ R (d n i x A)) λb F z=>?_);obtain⟨w,u,k⟩:=z;cases b with
 |true=>
  refine bh k λN t k=>?_;rw[bR Y];refine qp r (az (Q a F i w _ u k) λf T j=>?_);cases f with
  |next=>
   obtain⟨e,g,q,m⟩:=j;obtain⟨o,p,l⟩:=t e g m;exact⟨o,p,e,g,q,l⟩
  |cont=>
   obtain⟨e,g,q,m⟩:=j;obtain⟨o,p,l⟩:=t e g m;exact⟨o,p,e,g,q,l⟩
  |brk=>exact j
  |ret v=>exact j
 |false=>
  rw[bt Yn];exact vg ⟨i,w,u,k⟩
structure It where
 go:Nat->Hp->Prop
 pI:Nat->Hp->V->Hp->Prop
 stop:Nat->Hp->Prop
def jq(X:Cx)(a:aV)(H:Hp)(b:U):Prop:=
 H b=aG/\b≠X.env.locals/\b∉X.fs/\(b∈X.ex\/X.c6.heap.objs.size<=b)/\(∀x c,X.env.cells.lookup x=O c->c≠b)/\∀p∈X.pn++a,p.1≠b
def Inv.se(I:Inv X pins σ H s)(a:s.heap.objs.size<=b)(f:g b=aG):jq X pins g b:=by
 refine⟨f,Jh (Y6 I.lt a),I.VB a,.inr (Yy I.sz a),λx c e z=>?_,λp d z=>?_⟩
 ·obtain⟨v,q⟩:=I.cell x c e;exact absurd (Y6 q.lt (by rwa[z])) (Wi _)
 ·exact absurd (Y6 (Yv (I.pin p d).1) (by rwa[z])) (Wi _)
structure Turn(P:dC)(w:dm)(K:ag)(tg:cV)(J:It)(fp:Z U)(it:U)(tn:Nat->cX->Prop):Prop where
 mem:it∈fp
 obj:∀i h,tn i h->∀b∈fp,∃o,h.get? b=O o/\∀v,o.data≠.cell v
 keep:∀i h h',tn i h->(∀b∈fp,∀o,h.get? b=O o->h'.get? b=O o)->tn i h'
 item:∀(X:Cx),X.prog=P->X.w=w->X.K=K->X.calm=ar->∀(i:Nat) (pins:aV) (s:cb) (σ:St) (H:Hp) (E:bg),Inv X pins σ H s->(∀b∈fp,jq X pins H b)->tn i s.heap->J.go i H->
  wpAny (model P w) X.A (pyNext (.ref it)) (λr s1=>∃u,r=O u/\
   wpAny (model P w) X.A (letOwnedTupleGo tg (.ref it) u) (λ_ s2=>∃x H',Inv X pins σ H' s2/\RelV x u/\J.pI i H x H'/\tn (i+1) s2.heap/\∀b∈fp,H' b=aG) E s1) E s
 done:∀(X:Cx),X.prog=P->X.w=w->X.K=K->X.calm=ar->∀(i:Nat) (pins:aV) (s:cb) (σ:St) (H:Hp) (E:bg),Inv X pins σ H s->(∀b∈fp,jq X pins H b)->tn i s.heap->J.stop i H->
  wpAny (model P w) X.A (pyNext (.ref it)) (λr s1=>r=aG/\Inv X pins σ H s1) E s
 self:∀(A:gb) (i:Nat) (s:cb) (Q:bg) (E:bg),tn i s.heap->Q (.ref it) s->wpAny (model P w) A (pyIter (.ref it)) Q E s
abbrev TI:=St->Hp->(It->Hp->Prop)->Prop
def Xm(X:Cx)(a:aV)(g:St)(i:cV)(R:It->Hp->Prop)(h:a7)(e:cb):Prop:=
 ∃(f:U) (fp:Z U) (d:Nat->cX->Prop) (J:It) (c:Hp),h=.ref f/\Inv X a g c e/\Turn X.prog X.w X.K i J fp f d/\d 0 e.heap/\(∀b∈fp,jq X a c b)/\R J c
def PI(X:Cx)(e b:cV)(d:TI):Prop:=
 ∀(a:aV) (s:cb) (c:St) (H:Hp) (R:It->Hp->Prop),Inv X a c H s->d c H R->
  wpAny X.md X.A (eval b X.env) (λv f=>wpAny X.md X.A (pyIter v) (Xm X a c e R) X.xe f) X.xe s
theorem ug(d:s.heap.get? it=O o)(g:o.cls=.type n)(f:o.data=.fields b)
    (e:["enumerate","zip","dict_itemiterator","dict_reverseitemiterator","odict_iterator","itertools.zip_longest","itertools.pairwise"].contains n=a_)(a:Q () s):wpAny M A (letOwnedTupleGo c (.ref it) u) Q E s:=by
  unfold letOwnedTupleGo;cases c <;> first
    | exact cR a
    | (cases u <;> first
        | exact cR a
        | (refine bp (wpAny_load d ?_)
           rw [g,f];show wpAny M A (if (["enumerate","zip","dict_itemiterator","dict_reverseitemiterator","odict_iterator","itertools.zip_longest","itertools.pairwise"].contains n&&b[0]? == O (rawInt _))=ar then _ else _) Q E s;rw [bt (by intro h; rw [e,Qcp] at h; cases h)];exact cR a))
noncomputable def kF(K:ag)(a:U):It:=
 ⟨λi H=>∃b x,aj K H a b/\b[i]?=O x,λi H x c=>c=H/\∀b,aj K H a b->b[i]?=O x,λi H=>∃b,aj K H a b/\b.length<=i⟩
noncomputable def qS(K:ag)(a:U):It:=
 ⟨λi H=>∃b x,aC K H a b/\b[i]?=O x,λi H x c=>c=H/\∀b,aC K H a b->b[i]?=O x,λi H=>∃b,aC K H a b/\b.length<=i⟩
noncomputable def qT(a:Int)(n:Nat):It:=⟨λi _=>i<n,λi H x b=>b=H/\x=.int (a+i),λi _=>n<=i⟩
theorem PF{P:dC}{w:dm}{K:ag}{N:cV}(a it:U):Turn P w K N (kF K a) [it] it (λi h=>h.IsListIter it a i) where
 mem:=QS
 obj:=λi h st b g=>by
  have e:b=it:=by simpa using g
  refine cu st λo e c d=>?_
  simp_all
 keep:=λi h F st k=>st.at λo e=>k it QS o e
 item:=by
  intro X t q v D i f s J H E I l st r;subst t q v;refine hP r λL x j n=>?_;refine cu (I.list j) λau m p T=>?_;obtain⟨u,hu,R⟩:=m.get n;obtain⟨C,B,f2,A,z,y⟩:=l it QS;refine wpAny_pyNext_list_item st p.isList (by simpa using hu) λF G Q=>?_;obtain⟨o,e,c,d⟩:=id G;exact⟨u,rfl,ug e c d QD ⟨x,H,(I.turned (λb o g e=>(Q.2 b g).trans e) C B A z y),R,⟨rfl,λys W=>by rw[I.ZeN W j];exact n⟩,G,λb g=>(l b g).1⟩⟩
 done:=by
  intro X t q v D i f s J H E I l st r;subst t q v;refine bh r λL j n=>?_;refine cu (I.list j) λau m p T=>?_;obtain⟨C,B,f2,A,z,y⟩:=l it QS;have hl:=m.length;exact wpAny_pyNext_list_end (I.ok.hd D) st p.isList (by simp;omega) λF eb=>⟨rfl,I.turned eb C B A z y⟩
 self:=λ_ _ _ _ _ st h=>wpAny_pyIter_listiter st h
theorem OV{P:dC}{w:dm}{K:ag}{N:cV}(a it:U):Turn P w K N (qS K a) [it] it (λi h=>h.IsTupleIter it a i) where
 mem:=QS
 obj:=λi h st b g=>by
  have e:b=it:=by simpa using g
  refine cu st λo e c d=>?_
  grind
 keep:=λi h F st k=>st.at λo e=>k it QS o e
 item:=by
  intro X t q v D i f s J H E I l st r;subst t q v;refine hP r λL x j n=>?_;refine cu (I.tuple j) λau m p T=>?_;obtain⟨u,hu,R⟩:=m.get n;obtain⟨C,B,f2,A,z,y⟩:=l it QS;refine wpAny_pyNext_tuple_item st p (by simpa using hu) λF G Q=>?_;obtain⟨o,e,c,d⟩:=id G;exact⟨u,rfl,ug e c d QD ⟨x,H,(I.turned (λb o g e=>(Q.2 b g).trans e) C B A z y),R,⟨rfl,λys W=>by rw[I.ZdM W j];exact n⟩,G,λb g=>(l b g).1⟩⟩
 done:=by
  intro X t q v D i f s J H E I l st r;subst t q v;refine bh r λL j n=>?_;refine cu (I.tuple j) λau m p T=>?_;obtain⟨C,B,f2,A,z,y⟩:=l it QS;have hl:=m.length;exact wpAny_pyNext_tuple_end (I.ok.hd D) st p (by simp;omega) λF eb=>⟨rfl,I.turned eb C B A z y⟩
 self:=λ_ _ _ _ _ st h=>wpAny_pyIter_tupleiter st h
theorem ZcO{P:dC}{w:dm}{K:ag}{D:cV}(a:U)(d:Int)(n:Nat):Turn P w K D (qT d n) [a] a (λi h=>IsRangeIter h a (d+(i:Nat)*1) ((n:Int)-(i:Nat)) 1) where
 mem:=QS
 obj:=λi h st b g=>by
  simp_all
 keep:=λi h A st k=>k a QS _ st
 item:=by
  intro X p j q m i c s C H E I f st l;subst p j q;refine iS (f a QS) λz y J x u r=>?_;refine(Walks.range (I.ok.hd m) a d 1 n).item i s _ _ l st λv A N G B F=>?_;obtain⟨t,rfl⟩:=G;refine⟨_,rfl,ug B rfl rfl QD ⟨.int (d+i),H,(I.turned (λb o g e=>F b o (by simpa using g) e) z y x u r),⟨t,?_⟩,⟨rfl,rfl⟩,B,λb g=>(f b g).1⟩⟩;rw[Int.mul_one]
 done:=by
  intro X p j q m i c s C H E I f st l;subst p j q;refine iS (f a QS) λz y J x u r=>?_;exact wpAny_pyNext_range_end (I.ok.hd m) st (by have:n<=i:=l;omega) λA L=>⟨rfl,I.turned L z y x u r⟩
 self:=λ_ _ _ _ _ st h=>wpAny_pyIter_rangeiter st h
section
variable {X:Cx}{Q:cV}
inductive RQ(K:ag)(R:It->Hp->Prop)(x:V)(b:Hp):Prop
 |mk (a) (f:x=.ref a) (e:(∃c,aj K b a c)) (d:R (kF K a) b):RQ K R x b
def UT(K:ag)(b:TE):TI:=λa H R=>b a H λx c=>RQ K R x c
inductive Tg(K:ag)(R:It->Hp->Prop)(x:V)(b:Hp):Prop
 |mk (a) (f:x=.ref a) (e:(∃c,aC K b a c)) (d:R (qS K a) b):Tg K R x b
def Zkj(K:ag)(b:TE):TI:=λa H R=>b a H λx c=>Tg K R x c
def RS(r:PE X l j):PI X Q l (UT X.K j):=by
 intro c s g H R I h;refine az (r c s g H _ I h) λv f i=>?_;obtain⟨x,u,d,k,m⟩:=i;obtain⟨a,e,⟨w,n⟩,q⟩:=m;subst e;cases k;refine cu (d.list n) λA y p z=>?_;refine vd p.isList ⟨f.heap.objs.size,[f.heap.objs.size],_,_,u,Y,d.kept λ b o=>Yc _,PF a _,⟨_,Yu _ Y,Y,Y⟩,λb t=>?_,q⟩;have e:b=f.heap.objs.size:=by simpa using t
 subst e;exact d.se (Ye _) (d.ay.fresh (Ye _))
def B6(r:PE X l j):PI X Q l (Zkj X.K j):=by
 intro c s g H R I h;refine az (r c s g H _ I h) λv f i=>?_;obtain⟨x,u,d,k,m⟩:=i;obtain⟨a,e,⟨w,n⟩,q⟩:=m;subst e;cases k;refine cu (d.tuple n) λA y p z=>?_;refine yx p ⟨f.heap.objs.size,[f.heap.objs.size],_,_,u,Y,d.kept λ b o=>Yc _,OV a _,⟨_,Yu _ Y,Y,Y⟩,λb t=>?_,q⟩;have e:b=f.heap.objs.size:=by simpa using t
 subst e;exact d.se (Ye _) (d.ay.fresh (Ye _))
def ZeO{a:aV}{d:St}{H:Hp}{s:cb}{R:It->Hp->Prop}{E:bg}{lo c:Int}{t u v:Tok}{g:Nat}(I:Inv X a d H s)(l:-(2^62)<=lo)(k:lo<2^62)(j:-(2^62)<=c)(i:c<2^62)
  (q:R (qT lo (c-lo).toNat) H):wpAny X.md X.A (pyIter (.ref s.heap.objs.size)) (Xm X a d Q R) E {s with heap:=s.heap.push {cls:=.type "range",data:=.fields #[.int lo t,.int c u,.int 1 v]},toks:=g}:=by
 refine wpAny_pyIter_range (IsRange.new ..) (Ag l k j i) ?_;have f:Inv X a d H {s with heap:=s.heap.push {cls:=.type "range",data:=.fields #[.int lo t,.int c u,.int 1 v]},toks:=g}:=I.kept λb o e=>Yc _ e;refine⟨(s.heap.push {cls:=.type "range",data:=.fields #[.int lo t,.int c u,.int 1 v]}).objs.size,[(s.heap.push {cls:=.type "range",data:=.fields #[.int lo t,.int c u,.int 1 v]}).objs.size],_,_,H,Y,
  f.kept λ b o=>Yc _,ZcO _ lo (c-lo).toNat,?_,λb h=>?_,q⟩
 ·have n:lo+((0:Nat):Int)*1=lo:=QS
  have m:(((c-lo).toNat:Nat):Int)-((0:Nat):Int)=Builtin.Range.rangeSize lo c 1:=by rw[zS];split<;>omega
  rw[n,m];exact Yu _ Y
 ·have e:b=(s.heap.push {cls:=.type "range",data:=.fields #[.int lo t,.int c u,.int 1 v]}).objs.size:=by simpa using h
  subst e;exact f.se (Ye _) (f.ay.fresh (Ye _))
inductive RT(R:It->Hp->Prop)(a:Z V)(b:Hp):Prop
 |mk (j:Int) (f:a=[.int j]) (e:-(2^62)<=j) (c:j<2^62) (d:R (qT 0 j.toNat) b):RT R a b
def Zjq(c:TA):TI:=λa H R=>c a H λb d=>RT R b d
theorem oF{a:cV}{f:TA}{p b:Pos}(u:Gl X "range")(o:X.mg "range"=aG)(v:PA X [a] f)(n:starEach [a] X.env=[(a_,eval a X.env)]:=by rfl):PI X Q (.Call (.Name "range" p) [a] [] b) (Zjq f):=by
 intro c s g H R I h;refine Call_ (wy I u o boot_range (DC (az (v b c s g H _ I h) λy z i=>?_) n Y));obtain⟨x,A,w,l,d⟩:=i;obtain⟨j,e,d,m,q⟩:=d;subst e;cases l with
 |cons r k=>
  cases k;obtain⟨t,rfl⟩:=r;exact call_range_1 (ZeO w (by decide) (by decide) d m (by simpa using q))
def LD(e:TI)(g:TG)(f:TS):TS:=λD a H=>e a H λJ k=>∃W:Nat->Nat->St->Hp->Prop,(∃m,W 0 m a k)/\∀i m a H,W i m a H->
 (J.stop i H/\D.nx a H)\/(J.go i H/\∃N:St->Hp->Prop,(∀d b,N d b->∃c,c<m/\W (i+1) c d b)/\∀x b,J.pI i H x b->g x a b λh j=>f {D with nx:=N,ct:=N,bk:=D.nx} h j)
noncomputable def rX(a:Z U)(h:cX):Z (U×Obj):=a.filterMap λb=>(h.get? b).map λo=>(b,o)
def rA(a:b∈fp)(e:h.get? b=O o):(b,o)∈rX fp h:=Jv.mpr ⟨b,a,by rw[e];rfl⟩
theorem ZdN(a:p∈rX fp h):p.1∈fp/\h.get? p.1=O p.2:=by
 refine bh (Jv.mp a) λb c e=>?_;cases q:h.get? b with
 |none=>grind
 |some o=>grind
def Inv.pinned(I:Inv X pins σ H s)(c:∀b∈fp,jq X pins H b)(f:∀b∈fp,∃o,s.heap.get? b=O o/\∀v,o.data≠.cell v):Inv X (pins++rX fp s.heap) σ H s:=
 I.yO λp a=>(Yq.mp a).elim (λz=>I.pin p (Yg _ z)) λz=>by
  obtain⟨d,e⟩:=ZdN z;refine d7 (c p.1 d) λi h g _=>?_
  grind
def Inv.v_(I:Inv X (pins++b) σ H s):Inv X pins σ H s:=I.yO λp a=>I.pin p (Yg _ (Ys _ a))
theorem dI{j:cV}{t:Z cm}{wi:TI}{g:TG}{tb:TS}{P:Pos}(A:PassesOwn X.md X.A X.env X.xe)(hc:X.calm=ar)(hi:PI X Q j wi)(hg:PG X Q g)(k:gc X t tb)
  (hs:∀x,foldedSetIterable j X.env x=pure x:=by intro _;rfl):PS X (.For Q j t [] P) (LD wi g tb):=by
 intro a s σ H D I h;refine wpAny_For (az (hi a s σ H _ I h) λv s1 h1=>az h1 λxh s2 h2=>?_) hs;obtain⟨it,fp,tn,J,H2,e,I2,T,fM,f2,W,⟨m0,w0⟩,w⟩:=h2;subst e;have R:∀{H':Hp},(∀b∈fp,H' b=aG)->∀b∈fp,jq X a H' b:=λhn b k=>⟨hn b k,(f2 b k).2⟩;refine codeAny_forLoop_any (λn s'=>∃i C H',Inv X a C H' s'/\tn i s'.heap/\(∀b∈fp,H' b=aG)/\W i n C H') ?_ m0 ⟨0,σ,H2,I2,fM,λb k=>(f2 b k).1,w0⟩;intro n s3 ZH;refine jI ZH λi B E I3 Xn xk w3=>?_;rcases w i n B E w3 with⟨y,qn⟩|⟨go,N,hN,step⟩
 ·refine qp A (az (T.done X Y Y Y hc i a s3 B E X.xe I3 (R xk) Xn y) λr s4 F=>?_);refine hI F λhr I4=>?_;subst hr;exact vg ⟨B,E,I4,qn⟩
 ·refine qp A (az (T.item X Y Y Y hc i a s3 B E X.xe I3 (R xk) Xn go) λr s4 F=>?_);refine bh F λu hr h4=>?_;subst hr;refine qp A (az h4 λ_ s5 ⟨x,H5,I5,r5,y5,L,uK⟩=>qp A (az (hg _ s5 B H5 x u _ (I5.pinned (R uK) (T.obj _ _ L)) r5 (step x H5 y5)) λ_ s6 ⟨Dz,H6,I6,q6⟩=>qp A (az (k _ s6 Dz H6 _ I6 q6) λf G q=>?_)));have again:∀{c:St} {p:Hp},Inv X (a++rX fp s5.heap) c p G->N c p->∃m,m<n/\∃i C H',Inv X a C H' G/\tn i G.heap/\(∀b∈fp,H' b=aG)/\W i m C H':=λ{c p} l z=>by
   obtain⟨m',hm,w7⟩:=hN c p z;refine⟨m',hm,i+1,c,p,l.v_,T.keep _ _ _ L λb k o e=>(l.pin (b,o) (Yg _ (Yg _ (rA k e)))).1,λb k=>?_,w7⟩;obtain⟨o,e,d⟩:=T.obj _ _ L b k;exact(l.pin (b,o) (Yg _ (Yg _ (rA k e)))).2.1
  cases f with
  |next=>obtain⟨c,p,l,z⟩:=q;exact again l z
  |cont=>obtain⟨c,p,l,z⟩:=q;exact again l z
  |brk=>obtain⟨c,p,l,q⟩:=q;exact⟨c,p,l.v_,q⟩
  |ret v=>obtain⟨x7,c,p,l,r7,q⟩:=q;exact⟨x7,c,p,l.v_,r7,q⟩
end
def g_{K:ag}{a:U}{xs:Z V}{g:TG}{l:TS}{D:Ends}{b:St}{H:Hp}(c:Nat->St->Hp->Prop)(v:c 0 b H)(t:∀i b H,i<=xs.length->c i b H->aj K H a xs)
  (s:∀i x b H,xs[i]?=O x->c i b H->g x b H λf k=>l {D with nx:=c (i+1),ct:=c (i+1),bk:=D.nx} f k)(u:∀b H,c xs.length b H->D.nx b H):
  ∃W:Nat->Nat->St->Hp->Prop,(∃m,W 0 m b H)/\∀i m b H,W i m b H->
   ((kF K a).stop i H/\D.nx b H)\/((kF K a).go i H/\∃N:St->Hp->Prop,(∀j d,N j d->∃n,n<m/\W (i+1) n j d)/\∀x d,(kF K a).pI i H x d->g x b d λf k=>l {D with nx:=N,ct:=N,bk:=D.nx} f k):=by
 refine⟨λi m b H=>m=xs.length-i/\i<=xs.length/\c i b H,⟨xs.length,QS,Yw _,v⟩,?_⟩;rintro i m b H ⟨rfl,o,p⟩;have q:=t i b H o p;by_cases h:i<xs.length
 ·refine .inr ⟨⟨xs,xs[i],q,by simp[h]⟩,c (i+1),λj d r=>⟨xs.length-(i+1),QO,Y,h,r⟩,λx d y=>?_⟩;obtain⟨e,y⟩:=y;subst e;exact s i x b _ (y xs q) p
 ·have e:=(i6 o (fb h))
  subst e;exact .inl ⟨⟨xs,q,Ye _⟩,u b H p⟩
def Zgg{K:ag}{a:U}{xs:Z V}{g:TG}{l:TS}{D:Ends}{b:St}{H:Hp}(c:Nat->St->Hp->Prop)(u:c 0 b H)(s:∀i b H,i<=xs.length->c i b H->aC K H a xs)
  (v:∀i x b H,xs[i]?=O x->c i b H->g x b H λf k=>l {D with nx:=c (i+1),ct:=c (i+1),bk:=D.nx} f k)(t:∀b H,c xs.length b H->D.nx b H):
  ∃W:Nat->Nat->St->Hp->Prop,(∃m,W 0 m b H)/\∀i m b H,W i m b H->
   ((qS K a).stop i H/\D.nx b H)\/((qS K a).go i H/\∃N:St->Hp->Prop,(∀j d,N j d->∃n,n<m/\W (i+1) n j d)/\∀x d,(qS K a).pI i H x d->g x b d λf k=>l {D with nx:=N,ct:=N,bk:=D.nx} f k):=by
 refine⟨λi m b H=>m=xs.length-i/\i<=xs.length/\c i b H,⟨xs.length,QS,Yw _,u⟩,?_⟩;intro i m b H z;refine c7 z λw o p=>?_;subst w;have q:=s i b H o p;by_cases h:i<xs.length
 ·refine .inr ⟨⟨xs,xs[i],q,by simp[h]⟩,c (i+1),λj d r=>⟨xs.length-(i+1),QO,Y,h,r⟩,λx d y=>?_⟩;obtain⟨e,y⟩:=y
  grind
 ·have e:=(i6 o (fb h))
  subst e;exact .inl ⟨⟨xs,q,Ye _⟩,t b H p⟩
def yD{lo:Int}{n:Nat}{g:TG}{k:TS}{D:Ends}{a:St}{H:Hp}(b:Nat->St->Hp->Prop)(s:b 0 a H)
  (t:∀i a H,i<n->b i a H->g (.int (lo+i)) a H λd j=>k {D with nx:=b (i+1),ct:=b (i+1),bk:=D.nx} d j)(r:∀a H,b n a H->D.nx a H):
  ∃W:Nat->Nat->St->Hp->Prop,(∃m,W 0 m a H)/\∀i m a H,W i m a H->
   ((qT lo n).stop i H/\D.nx a H)\/((qT lo n).go i H/\∃N:St->Hp->Prop,(∀h c,N h c->∃l,l<m/\W (i+1) l h c)/\∀x c,(qT lo n).pI i H x c->g x a c λd j=>k {D with nx:=N,ct:=N,bk:=D.nx} d j):=by
 refine⟨λi m a H=>m=n-i/\i<=n/\b i a H,⟨n,QS,Yw _,s⟩,?_⟩;rintro i m a H ⟨rfl,q,p⟩;by_cases f:i<n
 ·refine .inr ⟨f,b (i+1),λh c o=>⟨n-(i+1),QO,Y,f,o⟩,λx c y=>?_⟩;obtain⟨e,y⟩:=y
  simp_all
 ·have e:=(i6 q (fb f))
  subst e;exact .inl ⟨Ye _,r a H p⟩
theorem IW{c:TT}{j:TS}{D:Ends}{a:St}{H:Hp}(i:St->Hp->Prop)(g:St->Hp->Nat)(r:i a H)
  (o:∀a H,i a H->c a H λb e=>if b=ar then j {D with nx:=λd f=>i d f/\g d f<g a H,ct:=λd f=>i d f/\g d f<g a H,bk:=D.nx} a e else D.nx a e)
  (h:∀a H Q k,(∀b e,Q b e->k b e)->c a H Q->c a H k):Tf c j D a H:=by
 refine⟨λm a H=>m=g a H/\i a H,⟨_,Y,r⟩,?_⟩;rintro m a H ⟨rfl,p⟩;refine h a H _ _ (λb e q=>?_) (o a H p);cases b with
 |true=>exact⟨_,λd f ⟨n,l⟩=>⟨_,l,Y,n⟩,q⟩
 |false=>exact q
abbrev R2:=V->V->Hp->VK->Prop
def cK(X:Cx)(f:a7->a7->Sem a7)(r:R2):Prop:=
 ∀(a:aV) (s:cb) (b:St) (H:Hp) (x y:V) (v u:a7) (Q:VK),Inv X a b H s->RelV x v->RelV y u->r x y H Q->
  wpAny X.md X.A (f v u) (EP X a b Q) X.xe s
def de(X:Cx)(f:a7)(r:Z V->Hp->VK->Prop):Prop:=
 ∀(a:aV) (s:cb) (b:St) (H:Hp) (c:Z V) (d:Z a7) (Q:VK),Inv X a b H s->Vals c d->r c H Q->
  wpAny X.md X.A (call f d) (EP X a b Q) X.xe s
def Zkk(X:Cx)(r:V->Hp->(cF->Hp->Prop)->Prop):Prop:=
 ∀(a:aV) (s:cb) (b:St) (H:Hp) (x:V) (v:a7) (Q:cF->Hp->Prop),Inv X a b H s->RelV x v->r x H Q->
  wpAny X.md X.A (truthy v) (TP X a b Q) X.xe s
def jZ(r:R2)(c b:TE):TE:=λa H Q=>c a H λx e=>b a e λy d=>r x y d Q
inductive VN(C:Int->Int->Prop)(g:Int->Int->V)(x:V)(y:V)(H:Hp)(Q:VK):Prop
 |mk (i j) (d:x=.int i) (c:y=.int j) (a:C i j) (b:Q (g i j) H):VN C g x y H Q
def rI(C:Int->Int->Prop)(g:Int->Int->V):R2:=λx y H Q=>VN C g x y H Q
inductive UU(g:Int->Int->V)(x:V)(y:V)(H:Hp)(Q:VK):Prop
 |mk (i j) (c:x=.int i) (b:y=.int j) (a:Q (g i j) H):UU g x y H Q
def sI(g:Int->Int->V):R2:=λx y H Q=>UU g x y H Q
section
variable {X:Cx}
def LF(p:PE X a l)(o:PE X b k){c:aV}{s:cb}{d:St}{H:Hp}{R:V->V->Hp->Prop}(I:Inv X c d H s)
  (h:l d H λx j=>k d j λy e=>R x y e){Q:bg}{f:a7->a7->Sem a7}
  (B:∀v u i x y e,Inv X c d e i->RelV x v->RelV y u->R x y e->wpAny X.md X.A (f v u) Q X.xe i):
  wpAny X.md X.A (eval a X.env) (λv r=>wpAny X.md X.A (eval b X.env) (λu q=>wpAny X.md X.A (f v u) Q X.xe q) X.xe r) X.xe s:=by
 refine az (p c s d H _ I h) λv m g=>?_;obtain⟨x,j,t,z,n⟩:=g;refine az (o c m d j _ t n) λu i g=>?_;obtain⟨y,e,C,w,A⟩:=g
 grind
def aZ(i:cK X (binaryOp op) r)(k:PE X a f)(j:PE X b e):PE X (.BinOp a op b pos) (jZ r f e):=by
 intro c s d H Q I h;exact wpAny_BinOp (LF k j I h λ v u g x y l=>i c g d l x y v u Q)
def DA{f:a7->a7->Sem a7}{C:Int->Int->Prop}{g:Int->Int->Int}
  (a:∀(i j:Int) (t u:Tok) (s:cb) (Q:bg) (E:bg),C i j->Q (.int (g i j) s.toks) {s with toks:=s.toks+1}->wpAny X.md X.A (f (.int i t) (.int j u)) Q E s):
  cK X f (rI C λi j=>.int (g i j)):=by
 rintro b s k H x y v u Q I e d ⟨i,j,rfl,rfl,h,q⟩;obtain⟨t,rfl⟩:=e;obtain⟨c,rfl⟩:=d;exact a i j t c s _ _ h ⟨.int (g i j),H,I.tok _,⟨_,Y⟩,q⟩
def VO{f:a7->a7->Sem a7}{g:Int->Int->Int}
  (a:∀(i j:Int) (t u:Tok) (s:cb) (Q:bg) (E:bg),Q (.int (g i j) s.toks) {s with toks:=s.toks+1}->wpAny X.md X.A (f (.int i t) (.int j u)) Q E s):
  cK X f (sI λi j=>.int (g i j)):=by
 rintro b s h H x y v u Q I e d ⟨i,j,rfl,rfl,q⟩;obtain⟨t,rfl⟩:=e;obtain⟨c,rfl⟩:=d;exact a i j t c s _ _ ⟨.int (g i j),H,I.tok _,⟨_,Y⟩,q⟩
def LG{g:Int->Int->cF}
  (a:∀(i j:Int) (t u:Tok) (s:cb) (Q:bg) (E:bg),Q (.bool (g i j)) s->wpAny X.md X.A (f (.int i t) (.int j u)) Q E s):
  cK X f (sI λi j=>.bl (g i j)):=by
 rintro b s h H x y v u Q I e d ⟨i,j,rfl,rfl,q⟩;obtain⟨t,rfl⟩:=e;obtain⟨c,rfl⟩:=d;exact a i j t c s _ _ ⟨.bl (g i j),H,I,Y,q⟩
def LH(i j:Int):Prop:=0<j/\j<1073741824
def Zkl(i j:Int):Prop:=0<=j/\j<=1000000/\i.natAbs<2^64
def zA(i j:Int):Prop:=(-(2^64)<i/\i<2^64)\/(-(2^64)<j/\j<2^64)
def zA.ok{i j:Int}(h:zA i j):IntMulOk i j:=by
 rcases h with⟨b,a⟩|⟨b,a⟩;·exact .of_left (intBits_le_64 b a)
 ·exact .of_right (intBits_le_64 b a)
def fq:cK X (binaryOp .Add) (sI λi j=>.int (i+j)):=VO λ_ _ _ _ _ _ _ q=>add_int q
def B7:cK X (binaryOp .Sub) (sI λi j=>.int (i-j)):=VO λ_ _ _ _ _ _ _ q=>sub_int q
def oR:cK X (binaryOp .Mult) (rI zA λi j=>.int (i*j)):=DA λ_ _ _ _ _ _ _ a q=>mul_int q a.ok
def BM:cK X (binaryOp .FloorDiv) (rI LH λi j=>.int (i/j)):=DA λi j _ _ _ _ _ a q=>by
 have b:=a.1;have c:j<1073741824:=a.2;exact floordiv_int (Qdy b) (by rw[Int.fdiv_eq_ediv_of_nonneg i (AS b)];exact q) (.inl (PyProof.noPylong_small QO))
def eG:cK X (binaryOp .Mod) (rI (λ_ j=>0<j) λi j=>.int (i % j)):=DA λi j _ _ _ _ _ a q=>by
 exact mod_int' (Qdy a) (by rwa[Int.fmod_eq_emod_of_nonneg i (AS a)])
def Th:cK X (binaryOp .Pow) (rI Zkl λi j=>.int (i^j.toNat)):=DA λ_ _ _ _ _ _ _ a q=>pow_int_small a.1 a.2.1 a.2.2 q
end
def zB:V->V->cF
 |.aA,.aA=>ar|.aA,.int _=>ar|.int _,.aA=>ar|.aA,.bl _=>ar|.bl _,.aA=>ar|.aA,.str _=>ar|.str _,.aA=>ar
 |.int _,.int _=>ar|.bl _,.bl _=>ar|.str _,.str _=>ar|.kB _,.kB _=>ar
 |.int _,.str _=>ar|.str _,.int _=>ar|.bl _,.str _=>ar|.str _,.bl _=>ar
 |_,_=>a_
def Xo:R2:=λx y H Q=>zB x y=ar/\Q (.bl (decide (x=y))) H
def Xp:R2:=λx y H Q=>zB x y=ar/\Q (.bl (!decide (x=y))) H
def RU:decide (V.int i=V.int j)=(i==j):=by
 grind
def Ti:decide (V.bl i=V.bl j)=(i==j):=by
 grind
def RV:decide (V.str i=V.str j)=(i==j):=by
 grind
def RW:decide (V.kB i=V.kB j)=(i.toList==j.toList):=by
 rw[Wn];simp_all
section
variable {b:cV}
def cP(I:Inv X pins σ H s)(q:Q (.bl k) H)(e:k=a):EP X pins σ Q (.bool a) s:=by
 subst e;exact⟨.bl k,H,I,Y,q⟩
theorem b_:cK X (compareOp .Eq) Xo:=by
 intro f s g H x y v u Q I e a h;obtain⟨d,q⟩:=h;cases x with
 |aA=>
  cases e;cases y with
  |aA=>cases a;exact PySem.EqNone.eq_none_none (cP I q QS)
  |bl j=>cases a;exact PySem.EqNone.eq_none_bool (cP I q QS)
  |int j=>obtain⟨c,rfl⟩:=a;exact PySem.EqNone.eq_none_int (cP I q QS)
  |str j=>obtain⟨c,rfl⟩:=a;exact PySem.EqNone.eq_none_str (cP I q QS)
  |_=>exact absurd d Yn
 |bl i=>
  cases e;cases y with
  |aA=>cases a;exact PySem.EqNone.eq_bool_none (cP I q QS)
  |bl j=>cases a;exact eq_bool (cP I q Ti)
  |str j=>obtain⟨c,rfl⟩:=a;exact PySem.EqMixed.eq_bool_str (cP I q QS)
  |_=>exact absurd d Yn
 |int i=>
  obtain⟨t,rfl⟩:=e;cases y with
  |aA=>cases a;exact PySem.EqNone.eq_int_none (cP I q QS)
  |int j=>obtain⟨c,rfl⟩:=a;exact eq_int (cP I q RU)
  |str j=>obtain⟨c,rfl⟩:=a;exact PySem.EqMixed.eq_int_str (cP I q QS)
  |_=>exact absurd d Yn
 |str i=>
  obtain⟨t,rfl⟩:=e;cases y with
  |aA=>cases a;exact PySem.EqNone.eq_str_none (cP I q QS)
  |bl j=>cases a;exact PySem.EqMixed.eq_str_bool (cP I q QS)
  |int j=>obtain⟨c,rfl⟩:=a;exact PySem.EqMixed.eq_str_int (cP I q QS)
  |str j=>obtain⟨c,rfl⟩:=a;exact eq_str (cP I q RV)
  |_=>exact absurd d Yn
 |kB i=>
  obtain⟨t,rfl⟩:=e;cases y with
  |kB j=>obtain⟨c,rfl⟩:=a;exact PySem.W.eq_bytes (cP I q RW)
  |_=>exact absurd d Yn
 |_=>cases y<;>exact absurd d Yn
theorem nL:cK X (compareOp .NotEq) Xp:=by
 intro f s g H x y v u Q I e a h;obtain⟨d,q⟩:=h;cases x with
 |aA=>
  cases e;cases y with
  |aA=>cases a;exact PySem.EqNone.ne_none_none (cP I q QS)
  |bl j=>cases a;exact PySem.EqNone.ne_none_bool (cP I q QS)
  |int j=>obtain⟨c,rfl⟩:=a;exact PySem.EqNone.ne_none_int (cP I q QS)
  |str j=>obtain⟨c,rfl⟩:=a;exact PySem.EqNone.ne_none_str (cP I q QS)
  |_=>exact absurd d Yn
 |bl i=>
  cases e;cases y with
  |aA=>cases a;exact PySem.EqNone.ne_bool_none (cP I q QS)
  |bl j=>cases a;exact ne_bool (cP I q (eJ not Ti))
  |str j=>obtain⟨c,rfl⟩:=a;exact PySem.EqMixed.ne_bool_str (cP I q QS)
  |_=>exact absurd d Yn
 |int i=>
  obtain⟨t,rfl⟩:=e;cases y with
  |aA=>cases a;exact PySem.EqNone.ne_int_none (cP I q QS)
  |int j=>obtain⟨c,rfl⟩:=a;exact ne_int (cP I q (eJ not RU))
  |str j=>obtain⟨c,rfl⟩:=a;exact PySem.EqMixed.ne_int_str (cP I q QS)
  |_=>exact absurd d Yn
 |str i=>
  obtain⟨t,rfl⟩:=e;cases y with
  |aA=>cases a;exact PySem.EqNone.ne_str_none (cP I q QS)
  |bl j=>cases a;exact PySem.EqMixed.ne_str_bool (cP I q QS)
  |int j=>obtain⟨c,rfl⟩:=a;exact PySem.EqMixed.ne_str_int (cP I q QS)
  |str j=>obtain⟨c,rfl⟩:=a;exact ne_str (cP I q (eJ not RV))
  |_=>exact absurd d Yn
 |kB i=>
  obtain⟨t,rfl⟩:=e;cases y with
  |kB j=>obtain⟨c,rfl⟩:=a;exact PySem.W.ne_bytes (cP I q (eJ not RW))
  |_=>exact absurd d Yn
 |_=>cases y<;>exact absurd d Yn
def oY:cK X (compareOp .Lt) (sI λi j=>.bl (decide (i<j))):=LG λ_ _ _ _ _ _ _ q=>lt_int q
def Lb:cK X (compareOp .Gt) (sI λi j=>.bl (decide (j<i))):=LG λ_ _ _ _ _ _ _ q=>gt_int q
def Zjr:cK X (compareOp .GtE) (sI λi j=>.bl (decide (j<=i))):=LG λ_ _ _ _ _ _ _ q=>ge_int q
def Iu:cK X (compareOp .In) (λx y H Q=>∃i j,x=.str i/\y=.str j/\Q (.bl (!(Builtin.Str.occurrences j i 0 j.length 1).isEmpty)) H):=by
 intro a s e H x y v u Q I d c h;obtain⟨i,j,rfl,rfl,q⟩:=h;obtain⟨t,rfl⟩:=d;obtain⟨f,rfl⟩:=c;exact in_str (cP I q Y)
theorem Ky:cK X (compareOp .Is) (λx y H Q=>y=.aA/\Q (.bl (decide (x=.aA))) H):=by
 intro c s e H x y v u Q I a d h;obtain⟨rfl,q⟩:=h;cases d;refine is_none_gen (cP I q ?_);cases x<;>first
  |(cases a;rfl)
  |(obtain⟨t,rfl⟩:=a;rfl)
theorem BN:cK X (compareOp .IsNot) (λx y H Q=>y=.aA/\Q (.bl (!decide (x=.aA))) H):=by
 rintro c s e H x y v u Q I a d ⟨rfl,q⟩;cases d;refine isnot_none_gen (cP I q ?_);cases x<;>first
  |(cases a;rfl)
  |(obtain⟨t,rfl⟩:=a;rfl)
def Zbr:cK X (compareOp .NotIn) (λx y H Q=>∃i j,x=.str i/\y=.str j/\Q (.bl (!(!(Builtin.Str.occurrences j i 0 j.length 1).isEmpty))) H):=by
 rintro a s e H x y v u Q I d c ⟨i,j,rfl,rfl,q⟩;obtain⟨t,rfl⟩:=d;obtain⟨f,rfl⟩:=c;exact notIn_str (cP I q Y)
def Tj(b:cV){a:CmpOp}(h:a≠.In:=by decide)(c:a≠.NotIn:=by decide):behindInMarks a b=a_:=by
 have e:(a==CmpOp.In)=a_:=by cases a<;>first|rfl|exact absurd Y h
 have d:(a==CmpOp.NotIn)=a_:=by cases a<;>first|rfl|exact absurd Y c
 cases b<;>simp[behindInMarks,e,d]
def BO(i:cK X (compareOp op) r)(l:PE X a f)(k:PE X b e)(j:behindInMarks op b=a_):PE X (.Compare a [op] [b] pos) (jZ r f e):=by
 intro c s d H Q I h;exact Z0 (LF l k I h λ v u g x y m=>i c g d m x y v u Q) j
inductive RX(Q:cF->Hp->Prop)(x:V)(a:Hp):Prop
 |mk (k) (d:x=.bl k) (c:Q k a):RX Q x a
def Lc(t:TE):TT:=λa H Q=>t a H λx c=>RX Q x c
def fV(w:cK X (compareOp op) r)(C:PE X a i)(B:PE X b g)(A:behindInMarks op b=a_):PT X (.Compare a [op] [b] pos) (Lc (jZ r i g)):=by
 intro d s f H Q I h;refine LS (az (C d s f H _ I h) λv l ⟨x,L,F,o,t⟩=>az (B d l f L _ F t) λu j ⟨y,J,E,n,q⟩=>
  az (w d j f J x y v u _ E o n q) λc N ⟨z,G,D,m,k,e,p⟩=>?_) A
 subst e;cases m;exact oD ⟨G,D,p⟩
def CI(K:ag)(x:V)(H:Hp)(k:cF):Prop:=
 match x with
 |.aA=>k=a_
 |.bl b=>k=b
 |.int i=>k=(i !=0)
 |.str y=>y.length<=sizeLine/\k=((y.length:Int)!=0)
 |.kB y=>y.size<=sizeLine/\k=((y.size:Int)!=0)
 |.ref p=>(∃a,aj K H p a/\k=!a.isEmpty)\/(∃a,aC K H p a/\k=!a.isEmpty)\/∃c,H p=O (.dK c)/\k=!c.isEmpty
 |_=>False
def ZcP(r:KV a c):(!c.isEmpty)=!a.isEmpty:=by
 cases r<;>rfl
def OW(r:Vals xs a):(!a.toArray.isEmpty)=!xs.isEmpty:=by
 cases r<;>simp
def t6:(sizeLine:Nat)<2^63:=by rw[du];decide
theorem ZhU:Zkk X (λx H Q=>∃k,CI X.K x H k/\Q k H):=by
 intro l s A H x v Q I f h;obtain⟨k,e,q⟩:=h;have B:sizeLine=16777216:=du;cases x with
 |aA=>
  cases f;have a:k=a_:=e;subst a;exact truthy_none ⟨H,I,q⟩
 |bl b=>
  cases f;have a:k=b:=e;subst a;exact oD ⟨H,I,q⟩
 |int i=>
  obtain⟨t,rfl⟩:=f;have a:k=(i !=0):=e;subst a;exact PySem.P.truthy_int ⟨H,I,q⟩
 |str y=>
  obtain⟨t,rfl⟩:=f;obtain⟨o,a⟩:y.length<=sizeLine/\k=((y.length:Int)!=0):=e;subst a;exact PySem.P.truthy_str QO ⟨H,I.tok _,q⟩
 |kB y=>
  obtain⟨t,rfl⟩:=f;obtain⟨o,a⟩:y.size<=sizeLine/\k=((y.size:Int)!=0):=e;subst a;exact PySem.W.truthy_bytes (gm o (by decide)) ⟨H,I.tok _,q⟩
 |ref p=>
  cases f;have a:=e;rcases a with⟨u,g,a⟩|⟨u,g,a⟩|⟨d,g,a⟩
  ·subst a;obtain⟨z,r,j,n⟩:=I.list g;have c:=r.length;exact wpAny_truthy_list j.isList (by simp only[Yt];omega) ⟨H,I.tok _,by rw[OW r];exact q⟩
  ·subst a;obtain⟨z,r,j,n⟩:=I.tuple g;have c:=r.length;exact truthy_tuple j (by simp only[Yt];omega) ⟨H,I.tok _,by rw[OW r];exact q⟩
  ·subst a;obtain⟨n,w,vs,r,m⟩:d.length<=sizeLine/\(p==sysModules)=a_/\∃vs,KV d vs/\s.heap.DictOf (dR X.prog X.w) p vs:=I.ay p _ g;have c:d.length=vs.length:=Paired.length r;exact wpAny_truthy_dict w m QO ⟨H,I.tok _,by rwa[ZcP r]⟩
 |_=>exact(e).elim
def IX(n:PE X a g)(m:∀c,isTrue a X.env c=(do let v←c;standAt a.pos;holding [v] (truthy v))):
  PT X a (λe H Q=>g e H λx f=>∃k,CI X.K x f k/\Q k f):=by
 intro d s e H Q I h;exact isTrue_plain (az (n d s e H _ I h) λv i ⟨x,p,o,j,l⟩=>ZhU d i e p x v Q o j l) (m _)
def qh:cK X (binaryOp .Add) (λx y H Q=>∃i j,x=.str i/\y=.str j/\i.length+j.length<=sizeLine/\Q (.str (i++j)) H):=by
 rintro a s g H x y v u Q I e d ⟨i,j,rfl,rfl,f,q⟩;obtain⟨t,rfl⟩:=e;obtain⟨c,rfl⟩:=d;exact add_str (λc h=>⟨.str (i++j),H,I.tok _,⟨_,Y⟩,q⟩) f
theorem vals1(r:Vals [x] us):∃u,us=[u]/\RelV x u:=by
 cases r with
 |cons c a=>cases a;exact⟨_,Y,c⟩
theorem vals2(r:Vals [x,y] us):∃u w',us=[u,w']/\RelV x u/\RelV y w':=by
 cases r with
 |cons e d=>
  cases d with
  |cons c a=>cases a;exact⟨_,_,Y,e,c⟩
def Qz:de X (.builtin "abs") (λa H Q=>∃i,a=[.int i]/\Q (.int (if i<0 then-i else i)) H):=by
 rintro c s d H a e Q I r ⟨i,rfl,q⟩;obtain⟨u,rfl,t,rfl⟩:=vals1 r;exact call_abs_int λu f=>⟨.int (if i<0 then-i else i),H,I.tok _,⟨_,Y⟩,q⟩
def ZdO(e:X.calm=ar):de X (.builtin "min") (λc H Q=>∃i j,c=[.int i,.int j]/\Q (.int (if j<i then j else i)) H):=by
 rintro d s f H c h Q I r ⟨i,j,rfl,q⟩;obtain⟨u,g,rfl,⟨t,rfl⟩,⟨m,rfl⟩⟩:=vals2 r;refine min_two_ints (I.ok.hd e) λn l k=>⟨_,H,I.kept k,?_,q⟩;by_cases a:j<i;·rw[bR a,bR a];exact⟨_,Y⟩
 ·rw[bt a,bt a];exact⟨_,Y⟩
def Ge:de X (.type "str") (λa H Q=>∃i,a=[.int i]/\i.natAbs.log2<1920/\Q (.str (toString i)) H):=by
 rintro c s e H a f Q I r ⟨i,rfl,d,q⟩;obtain⟨u,rfl,t,rfl⟩:=vals1 r;exact PySem.P.str_of_int d ⟨.str _,H,I.tok _,⟨_,Y⟩,q⟩
end
structure sf(h:cX)(x dx C:U)(mA:aR):Prop where
 obj:h.get? x=O (instObj C dx)
 ns:h.Ns1 dx mA
 ne:dx≠x
def Iv{h:cX}(n:h.Ns1 m f):∃c,h.get? m=O c/\∀b,lookIn b c=O (f b):=by
 refine kS n λo l p i hd k _ j=>?_;refine⟨o,i,λb=>?_⟩;have e:=j b;unfold nsFind findBy at e;rw[←Array.find?_toList] at e;unfold lookIn;rw[hd];dsimp;split;·grind
 ·rename_i q
  have a:l.toList.any (·.refKey)=a_:=by
   rw[Xq];intro y g;obtain⟨z,t,d⟩:=k y (Array.mem_toList_iff.mp g);simp[DictEntry.refKey,d]
  grind
def sf.look(I:sf h x f C c):∃b,PySem.W.InstAt h x (instObj C f) C (O b)/\∀a,lookIn a b=O (c a):=
 let⟨b,d,e⟩:=Iv I.ns
 ⟨b,⟨I.obj,Y,Y,d⟩,e⟩
section
variable {T:dC}{w:dm}{A:gb}{E:bg}{s:cb}{K:ag}{x P C f:U}{mA:aR}{W:af}{v:a7}
def get_map{a:cF}{Q:bg}(X:K.In s.heap)(I:sf s.heap x P C mA)(g:plainGet K C W=ar)(e:hasDictIn K C=ar)
  (i:PySem.W.findIn K (.ref C) W=O aG)(c:mA W=O v)(b:handedIn v=ar)(h:Q v {s with toks:=s.toks+1}):
  wpAny (model T w) A (getAttr (.ref x) W a) Q E s:=by
 refine bh I.look λj J d=>?_;exact PySem.W.get_value X J (xY g).1 (findObj_own e i Y (by rw[d,c])) b h
def ZeP(X:K.In s.heap)(I:sf s.heap x P C mA)(a:plainGet K C W=ar)
  (g:PySem.W.findIn K (.ref C) W=O (O (.ref f)))(d:isFn K (.ref f)=ar)(c:mA W=aG)(h:Q (.ref f,[.ref x]) s):
  wpAny (model T w) A (getMethod (.ref x) W i) Q E s:=by
 refine bh I.look λb J e=>?_;exact PySem.W.method_fn X J (xY a).1 (xY a).2 g (beq_iff_eq.mp d) (by show(lookIn W b).map (·.isSome)=O a_;rw[e,c];rfl) h
def Zgh{d:Z af}{Q:Unit->cb->Prop}(X:K.In s.heap)(I:sf s.heap x P C mA)
  (n:PySem.W.findIn K (.ref C) "__setattr__"=O (O (.builtin "object.__setattr__")))(o:plainOver K C=ar)(l:takerIn K C W=O aG)(p:hasDictIn K C=ar)
  (k:PySem.Within mA d)(m:d.length<=sizeLine)
  (h:∀a,sf a x P C (λy=>if y=W then O v else mA y)->Heap.SameBut P s.heap a->Q () {s with heap:=a,toks:=s.toks+2}):
  wpAny (model T w) A (setAttr (.ref x) W v) Q E s:=by
 refine bh I.look λt J z=>?_;refine set_plain X J n (PySem.W.osa_open X J o l λb=>?_);refine bh (vt p) λB q r=>?_;refine bp (cR (bp (bp (vl I.obj (bp (PySem.W.Looks.here (PySem.W.looks_clsIn X q) ?_))))));rw[r];refine cR (bp (cR (bp (zV I.ns λa e c=>?_))));obtain⟨u,F,D,j,i,g⟩:=e.count (zi W v k);exact bp (zj j (by exact i▸zl (Yy g (by exact Wh▸Nat.add_le_add m (by decide)))) (cR (h _ ⟨(c.2 _ (kK I.ne)).trans I.obj,e,I.ne⟩ c)))
def ZeQ{R:Result->cb->Prop}{b:Z a7}{c:Z (af×a7)}(X:K.In s.heap)(e:makesIn K C=ar)
  (i:PySem.W.findIn K (.ref C) "__init__"=O (O (.ref f)))(j:typeIn K (.ref f)=O (.type "function"))
  (h:codeAny (model T w) (A.under (.builtin "type.__call__" ⟨.ref C::b,c⟩)) (.call (.ref f) ⟨.ref (s.heap.objs.size+1)::b,c⟩) (PySem.W.InitBack (s.heap.objs.size+1) R)
   {s with heap:=(s.heap.push emptyDict).push (instObj C s.heap.objs.size)}):
  codeAny (model T w) A (.call (.ref C) ⟨b,c⟩) R s:=by
 obtain⟨k,g,d,t,os⟩:=s;exact PySem.W.make_core (PySem.W.makes_of X e) (PySem.W.looks_findIn X i) (λa=>PySem.W.bind_fn X a j) (.inl Y) h
end
noncomputable def cQ(f:af)(v:V):Z (af×V)->Z (af×V)
 |[]=>[(f,v)]
 |(g,x)::r=>if g=f then(g,v)::r else(g,x)::cQ f v r
theorem GB(f g:af)(v:V):∀fs:Z (af×V),(cQ f v fs).lookup g=if g=f then O v else fs.lookup g
 |[]=>by
  show List.lookup g [(f,v)]=_
  grind
 |(k,x)::r=>by
  have a:=GB f g v r;rw[show cQ f v ((k,x)::r)=(if k=f then(k,v)::r else(k,x)::cQ f v r) from Y]
  grind
theorem yE(f:af)(v:V):∀fs:Z (af×V),f∈(cQ f v fs).map (·.1)/\∀g,g∈fs.map (·.1)->g∈(cQ f v fs).map (·.1)
 |[]=>⟨by simp[cQ],λg h=>by simp at h⟩
 |(k,x)::r=>by
  obtain⟨b,a⟩:=yE f v r;rw[show cQ f v ((k,x)::r)=(if k=f then(k,v)::r else(k,x)::cQ f v r) from Y]
  grind
theorem GC(f:af)(v:V):∀fs:Z (af×V),(cQ f v fs).length<=fs.length+1
 |[]=>by simp[cQ]
 |(k,x)::r=>by
  have a:=GC f v r;rw[show cQ f v ((k,x)::r)=(if k=f then(k,v)::r else(k,x)::cQ f v r) from Y]
  (split<;>simp_all)
theorem eS.some_of(r:eS (O v) o):∃u,o=O u/\RelV v u:=by
 cases o with
 |none=>exact(r).elim
 |some u=>exact⟨u,Y,r⟩
theorem eS.none_of(r:eS aG o):o=aG:=by
 cases o with
 |none=>rfl
 |some u=>exact(r).elim
theorem PH(r:RelV v u):handedIn u=ar:=by
 cases v with
 |aA=>cases r;rfl
 |bl b=>cases r;rfl
 |int i=>obtain⟨t,e⟩:=(show ∃t,u=Value.int i t from r);cases e;rfl
 |str x=>obtain⟨t,e⟩:=(show ∃t,u=Value.str x t from r);cases e;rfl
 |kB b=>obtain⟨t,e⟩:=(show ∃t,u=Value.bytes b t from r);cases e;rfl
 |qO b=>obtain⟨t,e⟩:=(show ∃t,u=Value.float b t from r);cases e;rfl
 |ref a=>cases r;rfl
 |ty n=>cases r;rfl
def yP(i:dv P w H h)(e:H a=O (.ins C c fs)):∃b,sf h a c C b/\(∀f,eS (fs.lookup f) (b f))/\PySem.Within b (fs.map (·.1))/\fs.length<=1000/\H c=O (.own a):=by
 obtain⟨d,z,ne,g,b,n,r,q⟩:=(i a _ e);exact⟨b,⟨g,n,ne⟩,r,q,z,d⟩
structure gT(K:ag)(C:U):Prop where
 pg:plainGet K C Str.empty=ar
 hd:hasDictIn K C=ar
 po:plainOver K C=ar
 sa:PySem.W.findIn K (.ref C) "__setattr__"=O (O (.builtin "object.__setattr__"))
def gT.get{K:ag}(c:gT K C)(f:af):plainGet K C f=ar:=c.pg
def dt(K:ag)(C:U)(f:af):Prop:=PySem.W.findIn K (.ref C) f=O aG
def dt.Zjs{K:ag}(n:dt K C f):takerIn K C f=O aG:=by
 unfold takerIn;rw[n];rfl
structure Meth(K:ag)(C:U)(m:af)(f:U):Prop where
 at_:PySem.W.findIn K (.ref C) m=O (O (.ref f))
 fn:isFn K (.ref f)=ar
 kp:keepIn K (.ref f)=ar
def ZcQ(I:Inv X pins σ H s)(e:H a=O (.ins C m fs))(c:gT X.K C)(n:dt X.K C f)(l:fs.lookup f=O v)
  (h:∀u g,Inv X pins σ H g->RelV v u->Q u g):wpAny X.md A (getAttr (.ref a) f b) Q E s:=by
 refine i1 (yP I.ay e) λk d r _ _ _=>?_;obtain⟨u,j,i⟩:=eS.some_of (by exact l▸r f);exact get_map I.cj d (c.get f) c.hd n j (PH i) (h u _ (I.tok _) i)
def Hg(I:Inv X pins σ H s)(e:H a=O (.ins C i fs))(c:gT X.K C)(k:Meth X.K C m g)(l:fs.lookup m=aG)
  (h:Q (.ref g,[.ref a]) s):wpAny X.md A (getMethod (.ref a) m d) Q E s:=by
 refine i1 (yP I.ay e) λf b r _ _ _=>?_;exact ZeP I.cj b (c.get m) k.at_ k.fn (eS.none_of (by exact l▸r m)) h
def OX(I:Inv X pins σ H s)(e:H a=O (.ins C x fs))(c:gT X.K C)(n:dt X.K C f)(F:fs.length<1000)(B:RelV y u)
  (h:∀k,Inv X pins σ (upd H a (.ins C x (cQ f y fs))) k->Q () k):wpAny X.md A (setAttr (.ref a) f u) Q E s:=by
 refine i1 (yP I.ay e) λD d r j _ p=>?_;have m:(fs.map (·.1)).length<=sizeLine:=by rw[Ya,du];exact nV (m9 F (by decide))
 refine Zgh I.cj d c.sa c.po n.Zjs c.hd j m λG i l=>h _ (I.write (by exact e▸kJ) (.inr p) (λb q v z=>(l.2 b v).trans z) (let⟨o,_,_,w,_⟩:=i.ns;⟨o,w⟩) ⟨by rwa[aJ d.ne],?_,d.ne,i.obj,_,i.ns,λg=>?_,λg t=>?_⟩);·have:=GC f y fs;exact lR this (uX F)
 ·rw[GB];by_cases q:g=f;·rwa[bR q,bR q]
  ·grind
 ·by_cases q:g=f;·exact q▸(yE f y fs).1
  ·refine(yE f y fs).2 g (j g λz=>t ?_)
   grind
def Inv.made(I:Inv X pins σ H s):Inv X pins σ (upd (upd H s.heap.objs.size (.own (s.heap.objs.size+1))) (s.heap.objs.size+1) (.ins C s.heap.objs.size []))
  {s with heap:=(s.heap.push emptyDict).push (instObj C s.heap.objs.size)}:=by
 have c:(s.heap.push emptyDict).get? s.heap.objs.size=O emptyDict:=Yu s.heap Y;have g:((s.heap.push emptyDict).push (instObj C s.heap.objs.size)).get? (s.heap.objs.size+1)=O (instObj C s.heap.objs.size):=by
  have:=Yu (s.heap.push emptyDict) (o:=instObj C s.heap.objs.size) Y
  rwa [J8] at this
 have f:(s.heap.push emptyDict).Ns s.heap.objs.size (λ_=>aG):=⟨emptyDict,#[],_,c,Y,(λe d=>absurd d QS),λ_=>Y⟩;have h:=I.laid (a:=s.heap.objs.size) (o:=.own (s.heap.objs.size+1)) (h':=s.heap.push emptyDict) (t':=s.toks) (λb u q=>Yc _ q) (Ye _) ⟨_,c⟩;refine h.laid (λb u q=>Yc _ q) (xl (J8 _ _)) ?_;have ne:s.heap.objs.size≠s.heap.objs.size+1:=Y2 (Jg _);refine⟨by rw[aJ ne,aW],Yw _,ne,g,λ_=>aG,(XI f).at λ o=>Yc _,λ_=>kJ,λ y=>absurd Y⟩
def JX(a:attributeBase e f env (eval e env)=eval e env)
  (h:wpAny (model prog w) A (eval e env) (λo b=>wpAny (model prog w) A (getAttr o f ar) Q E b) E s):wpAny (model prog w) A (eval (.Attribute e f pos) env) Q E s:=
 Attribute_any_ h (by rw[arm_eval_Attribute,a])
inductive Tn(K:ag)(f:af)(Q:VK)(x:V)(b:Hp):Prop
 |mk (a C c fs v) (j:x=.ref a) (i:b a=O (.ins C c fs)) (g:gT K C) (h:dt K C f) (e:fs.lookup f=O v) (d:Q v b):Tn K f Q x b
def LI(K:ag)(b:TE)(f:af):TE:=λa H Q=>b a H λx c=>Tn K f Q x c
def Zkm(K:ag)(g e:TE)(f:af):TS:=λD b H=>e b H λy h=>g b h λx d=>∃a C c fs,x=.ref a/\d a=O (.ins C c fs)/\gT K C/\dt K C f/\fs.length<1000/\
 D.nx b (upd d a (.ins C c (cQ f y fs)))
def ZhV(m:PE X e i)(o:attributeBase e f X.env (eval e X.env)=eval e X.env):PE X (.Attribute e f pos) (LI X.K i f):=by
 intro b s d H Q I h;refine JX o (az (m b s d H _ I h) λu B g=>?_);obtain⟨x,y,w,j,a,C,D,fs,v,p,r,c,n,l,q⟩:=g;subst p;obtain rfl:u=Value.ref a:=j;exact ZcQ w r c n l λz A t k=>⟨v,y,t,k,q⟩
def y8(w:PE X o i)(t:PE X value g)(v:swapsWith value (O (.Attribute o f pos')) pos.line X.env=pure a_):PS X (.Assign [.Attribute o f pos'] value pos) (Zkm X.K i g f):=by
 intro b s d H D I h;refine xp (az (t b s d H _ I h) λu j e=>?_) v;obtain⟨y,G,F,k,q⟩:=e;refine az (w b j d G _ F q) λr L e=>?_;obtain⟨x,P,E,m,a,C,N,fs,z,A,c,n,l,p⟩:=e;subst z;obtain rfl:r=Value.ref a:=m;exact OX E A c n l k λJ B=>⟨d,_,B,p⟩
section
variable {X:Cx}{W:aV}{σ:St}{H:Hp}{s:cb}{A:gb}{E:bg}{Q:bg}{c:a7}{b:cF}
inductive jU(K:ag)(H:Hp):V->a7->Prop where
 |aA:jU K H .aA (.type "NoneType")
 |bl (x:cF):jU K H (.bl x) (.type "bool")
 |int (i:Int):jU K H (.int i) (.type "int")
 |str (x:af):jU K H (.str x) (.type "str")
 |qO (x:UInt64):jU K H (.qO x) (.type "float")
 |lst {a:U} {f:Z V} (e:H a=O (.lst f)):jU K H (.ref a) (.type "list")
 |cH {a:U} {o:Obj} {f:Z V} (e:H a=O (.cH o (.lst f))):jU K H (.ref a) (.type "list")
 |tup {a:U} {f:Z V} (e:H a=O (.tup f)):jU K H (.ref a) (.type "tuple")
 |dK {a:U} {d:Z (Key×V)} (e:H a=O (.dK d)):jU K H (.ref a) (.type "dict")
 |dT {a:U} {d:Z (Z Key×V)} (e:H a=O (.dT d)):jU K H (.ref a) (.type "dict")
 |ins {a C g:U} {fs:Z (af×V)} (e:H a=O (.ins C g fs)) (j:gT K C) (h:PySem.W.findIn K (.ref C) "__class__"=O (O (.builtin "object.__class__")))
   (hn:specialIn K (.builtin "object.__class__") "__get__"=O (O (.builtin "getset_descriptor.__get__"))) (Xt:takesIn K (.builtin "object.__class__")=O ar)
   (hm:PySem.W.mroIn K C (.type "object")=O ar):jU K H (.ref a) (.ref C)
theorem ZdP{x:V}{u t:a7}(I:Inv X W σ H s)(f:RelV x u)(r:jU X.K H x t)(e:kitOne X.K t c=O b)(h:∀v,Q (.bool b) {s with toks:=v}):
  wpAny X.md A (call (.builtin "isinstance") [u,c]) Q E s:=by
 cases r with
 |aA=>cases(show u=Value.none from f);exact mR PySem.W.kitx_none I.cj kJ e (λz=>nomatch z) h
 |bl y=>cases(show u=Value.bool y from f);exact mR PySem.W.kitx_bool I.cj kJ e (λz=>nomatch z) h
 |int i=>obtain⟨t,q⟩:=(show ∃t,u=Value.int i t from f);cases q;exact mR PySem.W.kitx_int I.cj kJ e (λz=>nomatch z) h
 |str y=>obtain⟨t,q⟩:=(show ∃t,u=Value.str y t from f);cases q;exact mR PySem.W.kitx_str I.cj kJ e (λz=>nomatch z) h
 |qO y=>obtain⟨t,q⟩:=(show ∃t,u=Value.float y t from f);cases q;exact mR PySem.W.kitx_float I.cj kJ e (λz=>nomatch z) h
 |@lst a l g=>
  cases(show u=Value.ref a from f);obtain⟨_,_,n,_,j⟩:=(show cM X.prog X.w H s.heap a (.lst l) from I.ay a _ g);exact mR kitx_list I.cj ⟨_,j,Y⟩ e (λz=>nomatch z) h
 |@cH a w l g=>
  cases(show u=Value.ref a from f);obtain⟨_,_,_,n,_,j⟩:=(show cM X.prog X.w H s.heap a (.cH w (.lst l)) from I.ay a _ g);exact mR kitx_list I.cj ⟨_,j,Y⟩ e (λz=>nomatch z) h
 |@tup a l g=>
  cases(show u=Value.ref a from f);obtain⟨_,_,_,p⟩:=(show cM X.prog X.w H s.heap a (.tup l) from I.ay a _ g);refine cu p λo j m _=>?_;exact mR PySem.W.kitx_tuple I.cj ⟨o,j,m⟩ e (λz=>nomatch z) h
 |@dK a k g=>
  cases(show u=Value.ref a from f);obtain⟨_,_,N,_,p⟩:=(show cM X.prog X.w H s.heap a (.dK k) from I.ay a _ g);refine pk p λo F G j m _=>?_;exact mR kitx_dict I.cj ⟨o,j,m.1⟩ e (λz=>nomatch z) h
 |@dT a k g=>
  cases(show u=Value.ref a from f);obtain⟨_,_,l,_,o,F,G,j,m,_⟩:=(show cM X.prog X.w H s.heap a (.dT k) from I.ay a _ g);exact mR kitx_dict I.cj ⟨o,j,m.1⟩ e (λz=>nomatch z) h
 |@ins a C T fs g cl D B L hm=>
  cases(show u=Value.ref a from f);refine bh (yP I.ay g) λR d _=>?_;obtain⟨P,J,_⟩:=d.look;exact mR (PySem.W.kitx_own (cl.get _) cl.hd D B L hm) I.cj J e (λz=>nomatch z) h
end
structure cA(k:Nat)(A:gb):Prop where
 hd:A.handled=aG
 dp:A.depth+3*k+5<recursionLimit
 un:A.units+16*k+200<cLine
 gd:A.guards=O []
def cA.mono(r:cA k A)(h:j<=k):cA j A:=⟨r.hd,by have:=r.dp;omega,by have:=r.un;omega,r.gd⟩
def cA.deeper(r:cA (k+1) A)(a:Env):cA k (A.deeper a):=
 ⟨r.hd,by have:=r.dp;show A.depth+1+3*k+5<_;omega,by have:=r.un;show A.units+3+16*k+200<_;omega,r.gd⟩
def cA.in1(r:cA (k+1) A):cA k A.in1:=
 ⟨r.hd,by have:=r.dp;show A.depth+3*k+5<_;omega,by have:=r.un;show A.units+1+16*k+200<_;omega,r.gd⟩
def ZcR{A:gb}:(A.under (.builtin "type.__call__" ⟨.ref C::us,kw⟩)).depth=A.depth+1:=by
 rfl
def ZcS{A:gb}:(A.under (.builtin "type.__call__" ⟨.ref C::us,kw⟩)).units=A.units+1:=by
 rfl
def cA.make(r:cA (k+1) A)(C:U)(a:Z a7)(b:Z (af×a7)):cA k (A.under (.builtin "type.__call__" ⟨.ref C::a,b⟩)):=
 ⟨r.hd,by have:=r.dp;rw[ZcR];omega,by have:=r.un;rw[ZcS];omega,by first|exact r.gd|simpa[Around.under,Code.isGuard,Code.isFrame,guardIds] using r.gd⟩
def cA.depth(r:cA k A):A.depth<recursionLimit:=by have:=r.dp;omega
def cA.units(r:cA k A):A.units+64<cLine:=by have:=r.un;omega
def cA.oS(r:cA k A):A.units<cLine:=by have:=r.un;omega
def jr:TA:=λ_ H Q=>Q [] H
def h_(d:TE)(c:TA):TA:=λa H Q=>d a H λx f=>c a f λb e=>Q (x::b) e
section
variable {X:Cx}{e:cV}{W:Z cV}{T:TE}{t:TA}
def ae:PA X [] jr:=λ_ _ _ _ H Q I h=>sA ⟨[],H,I,.nil,h⟩
def aa(n:PE X e T)(m:PA X W t)(l:i8 X e W:=by rfl):PA X (e::W) (h_ T t):=by
 intro b a s c H Q I h;exact l▸oy (az (n a s c H _ I h) λu f ⟨x,r,p,i,k⟩=>az (m b a f c r _ p k) λv w ⟨d,q,o,g,j⟩=>⟨x::d,q,o,.cons i g,j⟩)
def Zkn(t:TA):TE:=λc H Q=>t c H λa b=>a.length<=sizeLine/\∀p,b p=aG->Q (.ref p) (upd b p (.lst a))
def y9(h:PA X W t):PE X (.List W pos) (Zkn t):=by
 intro a s f H Q I j;refine TF (az (h pos a s f H _ I j) λi c ⟨g,k,d,r,z,q⟩=>⟨by rwa[←r.length],⟨.ref c.heap.objs.size,upd k c.heap.objs.size (.lst g),d.laid (λ b u=>Yc _) (Ye _) ?_,Y,q _ (d.ay.fresh (Ye _))⟩⟩);exact⟨z,i,0,r,Yu _ Y⟩
end
abbrev Sp:=Z V->Hp->VK->XK->Prop
abbrev lE:=Z Env->Hp->cb->XK->a7->cb->Prop
structure pj(P:dC)(w:dm)(K:ag)(mg:aR)(base:cX)(A:gb)(outer:Z Env)(s:cb)(H:Hp):Prop where
 frames:A.frames=O outer
 mod:Mod K mg base
 bs:∀b o,base.get? b=O o->s.heap.get? b=O o/\H b=aG
 mQ:base.objs.size<=s.heap.objs.size
 jT:s.heap.FunFrames base outer
 pC:∀b∈cU outer,H b=aG
 ay:dv P w H s.heap
 bare:AllBare s.gens
def CE(a:Z Env)(P:dC)(w:dm)(H:Hp)(s:cb)(Q:VK)(u:a7)(b:cb):Prop:=
 ∃v c,b.os=s.os/\AllBare b.gens/\Un (cU a) [] H c s.heap b.heap/\dv P w c b.heap/\RelV v u/\Q v c
def CR(c:lE)(a:Z Env)(P:dC)(w:dm)(H:Hp)(s:cb)(Q:VK)(E:XK)(r:Result)(b:cb):Prop:=
 match r with
 |.ok (.ret u)=>CE a P w H s Q u b
 |.ok _=>False
 |.error e=>c a H s E e b
structure aE(P:dC)(w:dm)(K:ag)(mg:aR)(base:cX)(CX:lE)(k:Nat)(f:U)(fd:FuncData)(ps:Z af)(sp:Sp):Prop where
 len:∀vs H Q E,sp vs H Q E->vs.length=ps.length
 run:∀(A:gb) (outer:Z Env) (s:cb) (H:Hp) (args:Args) (us:Z a7) (vs:Z V) (Q:VK) (E:XK),cA k A->pj P w K mg base A outer s H->BindsTo s fd args (ps.zip us)->Vals vs us->sp vs H Q E->
  codeAny (model P w) A (.call (.ref f) args) (CR CX outer P w H s Q E) s
def pj.make{K:ag}(e:pj P w K b base A outer s H)(C:U)(a:Z a7)(c:Z (af×a7)):
  pj P w K b base (A.under (.builtin "type.__call__" ⟨.ref C::a,c⟩)) outer s H:=⟨by first|exact e.frames|(simpa[Around.under,Code.envs,Code.isFrame,pushEnvs] using e.frames),e.mod,e.bs,e.mQ,e.jT,e.pC,e.ay,e.bare⟩
def pj.in1{K:ag}(e:pj P w K a base A outer s H):
  pj P w K a base A.in1 outer s H:=⟨e.frames,e.mod,e.bs,e.mQ,e.jT,e.pC,e.ay,e.bare⟩
def Inv.zC(I:Inv X pins σ H s):pj X.prog X.w X.K X.mg X.base X.A X.stack s H:=
 ⟨I.ok.frames,I.ok.mod,I.bs,Yy I.ok.mQ I.sz,I.stack,I.BK,I.ay,I.bare⟩
def Inv.after(I:Inv X pins σ H s)(h:CE X.stack X.prog X.w H s Q u s'):EP X pins σ Q u s':=by
 obtain⟨v,e,os,a,un,c,r,q⟩:=h;obtain⟨i,g,d,t,f⟩:=s';obtain rfl:f=s.os:=os;exact⟨v,e,I.call un c a (λb z=>absurd z QS),r,q⟩
def Cr(c:Sp)(d:Z V)(E:XK)(t:TA):TE:=λa H Q=>t a H λb e=>c (b++d) e Q E
def Cs(C:U)(m:af)(f:Sp)(h:Z V)(E:XK)(e:TE)(t:TA):TE:=λb H Q=>e b H λx c=>∃a g fs,x=.ref a/\c a=O (.ins C g fs)/\fs.lookup m=aG/\
 t b c λd i=>f (x::(d++h)) i Q E
def UW(C:U)(e:Sp)(f:Z V)(E:XK)(t:TA):TE:=λc H Q=>t c H λd b=>∀x a,b x=aG->b a=aG->a≠x->
 e (.ref x::(d++f)) (upd (upd b a (.own x)) x (.ins C a [])) (λv g=>v=.aA/\Q (.ref x) g) E
def Binds(K:ag)(d:FuncData)(b:Z af)(c:Z a7):Prop:=
 ∀(s:cb) (a:Z a7),K.In s.heap->(a++c).length=b.length->BindsTo s d ⟨a,[]⟩ (b.zip (a++c))
def Binds.all{K:ag}(h:∀a:Z a7,a.length=b.length->bindArgs fd ⟨a,[]⟩=pure (b.zip a)):Binds K fd b []:=λs a _ c=>by
 rw[Y8] at c⊢;exact .of_eq (h a c)
def Passes(d:lE)(X:Cx)(E:XK):Prop:=∀(a:aV) (c:St) (H:Hp) (s:cb) (e:a7) (b:cb),Inv X a c H s->d X.stack H s E e b->X.xe e b
section
variable {X:Cx}{J:lE}{k:Nat}{f C:U}{N:FuncData}{ps:Z af}{L:Sp}{R:Z V}{ds:Z a7}{E:XK}{x m:af}{p W T:Pos}{e o:cV}{P:Z cV}{G:TE}{t:TA}
theorem B8(F:aE X.prog X.w X.K X.mg X.base J k f N ps L)(g:cA k X.A)(l:Binds X.K N ps ds)(j:Vals R ds)(d:Passes J X E)
  (I:Inv X pins σ H s)(r:Vals vs us)(h:L (vs++R) H Q E):wpAny X.md X.A (call (.ref f) us) (EP X pins σ Q) X.xe s:=by
 have b:=r.append j;have i:(us++ds).length=ps.length:=by exact b.length▸F.len _ _ _ _ h
 refine nA (ny (F.run X.A X.stack s H ⟨us,[]⟩ (us++ds) (vs++R) Q E g I.zC (l s us I.cj i) b h) λr c a=>?_);cases r with
 |error e=>exact d pins σ H s e c I a
 |ok n=>
  cases n with
  |ret u=>exact I.after a
  |next=>exact False.elim a
  |brk=>exact False.elim a
  |cont=>exact False.elim a
def Zgi(F:aE X.prog X.w X.K X.mg X.base J k f N ps L)(g:cA k X.A)(l:Gl X x)(i:X.mg x=O (.ref f))(j:keepIn X.K (.ref f)=ar)(v:Binds X.K N ps ds)(u:Vals R ds)(d:Passes J X E)
  (w:PA X (e::P) t)(y:(x==("__debug__":af))=a_:=by decide)(n:i8 X e P:=by rfl)(z:jw X W P:=by rfl):
  PE X (.Call (.Name x p) (e::P) [] W) (Cr L R E t):=by
 intro a s c H Q I h;exact qo (tU I l i (ra I.ok.mod.nX j (az (w W a s c H _ I h) λB D ⟨A,H1,b,r,q⟩=>⟨b.cj,B8 F g v u d b r q⟩) n z) y)
def Zgj{B:Sem cF}(he:PE X o G)(c:gT X.K C)(i:Meth X.K C m f)(F:aE X.prog X.w X.K X.mg X.base J k f N ps L)(hr:cA k X.A)(hb:Binds X.K N ps ds)(hd:Vals R ds)(D:Passes J X E)(ha:PA X (e::P) t)
  (dA:i8 X e P:=by rfl)(cz:jw X W P:=by rfl)
  (ht:eval (.Call (.Attribute o m T) (e::P) [] W) X.env=(do
   let g←eval o X.env
   standAt T.atName
   let(f,first)←holding [g] (getMethod g m B)
   callWith W f first (backTo W (starEach (e::P) X.env)) (backToKw W (keywordEach [] X.env))):=by rfl):
  PE X (.Call (.Attribute o m T) (e::P) [] W) (Cs C m L R E G t):=by
 intro b s d H Q I h;refine uQ (az (he b s d H _ I h) λu y v=>?_) ht;obtain⟨x,H1,n,z,a,dx,fs,ex,ea,l,q⟩:=v;subst ex;obtain rfl:u=Value.ref a:=z;refine Hg n ea c i l ?_;refine ra I.ok.mod.nX i.kp (az (ha W b y d H1 _ n q) λus s2 p=>?_) dA cz;obtain⟨w,H2,j,r,A⟩:=p;refine⟨j.cj,?_⟩;exact B8 (vs:=.ref a::w) F hr hb hd D j (.cons Y r) A
def ZeR{v:Sem cF}(A:PE X o G)(c:gT X.K C)(i:Meth X.K C m f)(F:aE X.prog X.w X.K X.mg X.base J k f N ps L)(z:cA k X.A)(D:Binds X.K N ps ds)(B:Vals R ds)(w:Passes J X E)
  (y:eval (.Call (.Attribute o m T) [] [] W) X.env=(do
   let g←eval o X.env
   standAt T.atName
   let(f,first)←holding [g] (getMethod g m v)
   callWith W f first (backTo W (starEach [] X.env)) (backToKw W (keywordEach [] X.env))):=by rfl):
  PE X (.Call (.Attribute o m T) [] [] W) (Cs C m L R E G jr):=by
 intro b s j H Q I h;refine uQ (az (A b s j H _ I h) λu s1 n=>?_) y;obtain⟨x,H1,d,r,a,dx,fs,ex,ea,l,q⟩:=n;subst ex;obtain rfl:u=Value.ref a:=r;refine Hg d ea c i l ?_;exact PySem.W.callWith_K0 d.cj i.kp (B8 (vs:=[.ref a]) F z D B w d (.cons Y .nil) q)
structure Mk(K:ag)(C f:U):Prop where
 makes:makesIn K C=ar
 init:PySem.W.findIn K (.ref C) "__init__"=O (O (.ref f))
 fn:isFn K (.ref f)=ar
 kp:keepIn K (.ref C)=ar
theorem ZeS(a:Mk X.K C f)(F:aE X.prog X.w X.K X.mg X.base J k f N ps L)(y:cA (k+1) X.A)(B:Binds X.K N ps ds)(A:Vals R ds)
  (w:Passes J X E)(I:Inv X pins σ H s)(r:Vals g us)
  (h:∀x c,H x=aG->H c=aG->c≠x->L (.ref x::(g++R)) (upd (upd H c (.own x)) x (.ins C c [])) (λv H2=>v=.aA/\Q (.ref x) H2) E):
  wpAny X.md X.A (call (.ref C) us) (EP X pins σ Q) X.xe s:=by
 have j:=h (s.heap.objs.size+1) s.heap.objs.size (I.ay.fresh (xm _)) (I.ay.fresh (Ye _)) (Y2 (Jg _));have d:=Inv.made (C:=C) I;have i:Vals (V.ref (s.heap.objs.size+1)::(g++R)) (Value.ref (s.heap.objs.size+1)::(us++ds)):=.cons Y (r.append A);have z:(Value.ref (s.heap.objs.size+1)::us++ds).length=ps.length:=by
  have e:=i.length;rw[F.len _ _ _ _ j] at e;exact e.symm
 refine nA (ZeQ I.cj a.makes a.init (beq_iff_eq.mp a.fn) (ny (F.run _ X.stack _ _ ⟨Value.ref (s.heap.objs.size+1)::us,[]⟩ (Value.ref (s.heap.objs.size+1)::(us++ds)) _ _ E (y.make C us [])
  (d.zC.make C us []) (B _ (Value.ref (s.heap.objs.size+1)::us) d.cj z) i j) λr l b=>?_))
 cases r with
 |error e=>exact w pins σ _ _ e l d b
 |ok D=>
  cases D with
  |ret u=>
   obtain⟨v,H',I3,n,ev,q⟩:=d.after b;subst ev;exact⟨n,⟨V.ref (s.heap.objs.size+1),H',I3,Y,q⟩⟩
  |next=>exact False.elim b
  |brk=>exact False.elim b
  |cont=>exact False.elim b
def Zgk(a:Mk X.K C f)(F:aE X.prog X.w X.K X.mg X.base J k f N ps L)(i:cA (k+1) X.A)(l:Gl X x)(j:X.mg x=O (.ref C))(v:Binds X.K N ps ds)(u:Vals R ds)(g:Passes J X E)
  (w:PA X (e::P) t)(y:(x==("__debug__":af))=a_:=by decide)(n:i8 X e P:=by rfl)(z:jw X W P:=by rfl):
  PE X (.Call (.Name x p) (e::P) [] W) (UW C L R E t):=by
 intro b s d H Q I h;exact qo (tU I l j (ra I.ok.mod.nX a.kp (az (w W b s d H _ I h) λB D T=>by obtain⟨A,H1,c,r,q⟩:=T;exact⟨c.cj,ZeS a F i v u g c r q⟩) n z) y)
end
structure aQ(N P:Z af)(sc:Scope):Prop where
 kind:sc.kind=.function
 co:sc.isCoroutine=a_
 gen:sc.isGenerator=a_
 nd:N.Nodup
 pre:N.take P.length=P
 par:∀x∈P,sc.names.lookup x=O .local\/sc.names.lookup x=O .cell
 ZhW:∀y∈sc.names,y.2≠.free
theorem PK{a:af->bS NameKind}{x:af}:∀{binds:Z (af×a7)} {m:aR},(∀v,(x,v)∉binds)->bindL a binds m x=m x
 |[],_,_=>rfl
 |(n,v)::r,m,h=>by
  unfold bindL;rw[PK λw b=>h w (Yx _ b)];split;·grind
  ·rfl
theorem PL{a:af->bS NameKind}{x:af}:∀{binds:Z (af×a7)} {m:aR},(∀v,(x,v)∉binds)->bindC a binds m x=m x
 |[],_,_=>rfl
 |(n,v)::r,m,h=>by
  unfold bindC;rw[PL λw b=>h w (Yx _ b)];split;·rfl
  ·grind
theorem PM{a:af->bS NameKind}{x:af}{v:a7}:∀{P:Z af} {b:Z a7} {i:Nat} {m:aR},P.Nodup->P[i]?=O x->b[i]?=O v->a x=O .local->
  bindL a (P.zip b) m x=O v
 |[],_,_,_,_,h,_,_=>by simp at h
 |_::_,[],_,_,_,_,h,_=>by simp at h
 |p::P,w::b,0,m,e,d,c,f=>by
  simp at d c;subst d;subst c;show bindL a ((p,w)::P.zip b) m p=_;unfold bindL;rw[PK λv g=>(Y3.mp e).1 (Mw g).1,bR f];simp
 |p::P,w::b,i+1,m,e,d,c,f=>by
  unfold bindL;exact PM (Y3.mp e).2 (by simpa using d) (by simpa using c) f
theorem PN{a:af->bS NameKind}{x:af}{v:a7}:∀{P:Z af} {b:Z a7} {i:Nat} {m:aR},P.Nodup->P[i]?=O x->b[i]?=O v->a x≠O .local->
  bindC a (P.zip b) m x=O v
 |[],_,_,_,_,h,_,_=>by simp at h
 |_::_,[],_,_,_,_,h,_=>by simp at h
 |p::P,w::b,0,m,e,d,c,f=>by
  simp at d c;subst d;subst c;show bindC a ((p,w)::P.zip b) m p=_;unfold bindC;rw[PL λv g=>(Y3.mp e).1 (Mw g).1,bt f];simp
 |p::P,w::b,i+1,m,e,d,c,f=>by
  unfold bindC;exact PN (Y3.mp e).2 (by simpa using d) (by simpa using c) f
def start(N:Z af)(a:Z V):St:=a.map O++List.replicate (N.length-a.length) aG
def kZ(g:lE)(P:dC)(w:dm)(K:ag)(mg:aR)(base:cX)(N:Z af)(b:af)(a:Scope)(f:U)(c:a7)(A:gb)(outer:Z Env)(s:cb)(H:Hp)(E:XK):Cx where
 prog:=P
 w:=w
 K:=K
 mg:=mg
 base:=base
 A:=A.deeper (envOfC b a s.heap.objs.size f c)
 N:=N
 c6:=s
 mI:=H
 env:=envOfC b a s.heap.objs.size f c
 outer:=outer
 stack:=envOfC b a s.heap.objs.size f c::outer
 ex:=[]
 calm:=ar
 fn:=λ_=>ar
 pn:=[]
 xe:=λe h=>wpAny (model P w) (A.deeper (envOfC b a s.heap.objs.size f c)) (leaving (envOfC b a s.heap.objs.size f c) e) (λ_ d=>g outer H s E e d) (λi d=>g outer H s E i d) h
def QB{a:Scope}(h:a.names.lookup x=O .cell):∃c,(cellsFrom n a.names []).lookup x=O c:=by
 exact Jl.mp (Qco a.names n [] (.inl h))
theorem ZdQ{K:ag}
  (d:aQ N l scope)(Q:A.handled=aG)(g:pj P w K C base A outer s H)(L:m.length=l.length)(r:Vals m us)
  (x:InCallC s s.heap.objs.size (bindL (envOfC qual scope s.heap.objs.size f cd).kindOf (l.zip us) λ_=>aG) (cellsFrom (s.heap.objs.size+1) scope.names []) (bindC (envOfC qual scope s.heap.objs.size f cd).kindOf (l.zip us) λ_=>aG) s1):
  Inv (kZ T P w K C base N qual scope f cd A outer s H E) [] (start N m) H s1:=by
 have cz:l.length<=N.length:=by have:=eJ List.length d.pre;rw[Wd] at this;omega
 refine hP x.done λB W lr F=>?_;subst lr;have t:∀b:U,b∉(kZ T P w K C base N qual scope f cd A outer s H E).ex:=λb z=>absurd (show b∈([]:Z U) from z) QS;refine⟨⟨g.mod,d.kind,Y,Y,Ye _,λy z c B o=>?_,λy j=>?_,λy c _ h=>?_,λ_=>Q,Around.frames_deeper g.frames,.inr ⟨Y,Y⟩,λb z=>absurd z (t b),g.bs,g.mQ,λb _ _=>t b,λb z=>absurd z (t b),g.jT,g.pC⟩,
  rfl,g.bare,Un.kept F,⟨_,x.toInCall.ns,λi y v B o X=>?_⟩,λy c h=>⟨_,x.cell y c h⟩,g.ay.fresh (Ye _),λy c h=>?_,λp n=>absurd (show p∈([]:aV) from n) QS,g.ay.kept F,?_⟩
 ·exact name_of_addr x.apart (t5 B) (t5 o)
 ·have j:=j;rcases j with j|j;·exact QB j
  ·exact absurd Y (d.ZhW _ (t5 j))
 ·exact Jx (x.above y c (t5 h))
 ·have G:i<m.length:=by
   unfold start at o
   grind
  have R:m[i]?=O v:=by
   unfold start at o;rw[Wl (by simpa using G),Yf] at o;cases e:m[i]? with
   |none=>simp_all
   |some a=>simp_all
  refine bh (r.get R) λu D J=>?_;have n:l[i]?=O y:=by
   rwa[←d.pre,Ez (i2 G (mV L))]
  have I:l.Nodup:=by exact d.pre▸d.nd.sublist (List.take_sublist _ _)
  refine⟨u,J,?_⟩;rcases d.par y (Yj n) with k|k;·exact .inl ⟨k,PM I n D k⟩
  ·obtain⟨c,e⟩:=QB k;refine .inr ⟨.inl k,c,e,?_⟩;have q:=x.cell y c e;rw[PN I n D (by show scope.names.lookup y≠_;rw[k];decide)] at q;exact q
 ·exact g.ay.fresh (Jx (x.above y c (t5 h)))
 ·unfold start;show _=N.length
  simp_all
theorem Le{T:lE}{P:dC}{w:dm}{K:ag}{L:aR}{i:cX}{k:Nat}{f:U}{m g:af}{h:Arguments}{j:Z cm}{c:Scope}{dV kV F pm z ct oc:a7}{an od:bS U}
  {i_:dg (bS a7)}{N G:Z af}{sp:Sp}(lk:K.lookup f=O ⟨oc,od,.func (fnOf m g h j c dV kV F pm an z ct),i_⟩)(gf:codeIn K z g=ar)(a:aQ N G c)
  (C:∀l H Q E,sp l H Q E->l.length=G.length)
  (qE:∀(A:gb) (d:Z Env) (s:cb) (H:Hp) (l:Z V) (Q:VK) (E:XK),cA k (A.deeper (envOfC g c s.heap.objs.size f z))->sp l H Q E->
   ∃t,gc (kZ T P w K L i N g c f z A d s H E) j t/\t {nx:=λ_ p=>Q .aA p,rt:=Q} (start N l) H):
  aE P w K L i T (k+1) f (fnOf m g h j c dV kV F pm an z ct) G sp:=by
 refine⟨C,λA d s H args us l Q E hr D hb r mU=>?_⟩;have hl:=C _ _ _ _ mU;have KX:K.In s.heap:=D.mod.nX.keeps λb o e=>(D.bs b o e).1;have X:s.heap.NoLimit:=D.mod.nolimit.keeps λb o e=>(D.bs b o e).1;have Zjt:∀y∈G.zip us,c.names.lookup y.1=O .local\/(c.names.lookup y.1=O .cell/\((cellsFrom (s.heap.objs.size+1) c.names []).lookup y.1).isSome=ar):=λ⟨n,v⟩ hy=>by
  rcases a.par n (Mw hy).1 with q|q;·exact .inl q
  ·exact .inr ⟨q,Qco _ _ _ (.inl q)⟩
 refine codeAny_call_function hr.depth (KX _ _ lk) Y a.co a.gen Y (PySem.W.codeRec_of KX gf) (hb _ _ _ _ ?_);refine wpAny_newFunctionEnv_cells a.kind Zjt λenv he s1 x=>?_;subst he;refine⟨X.keeps x.toInCall.keep,codeAny_func ?_⟩;refine bh (qE A d s H l Q E (hr.deeper _) mU) λt ht hq=>?_;have I:Inv (kZ T P w K L i N g c f z A d s H E) [] (start N l) H s1:=ZdQ a hr.hd D hl r x;refine eH (ht [] s1 (start N l) H _ I hq) (λfl s' B=>?_) λe s' B=>B;have fin:∀{R:St} {p:Hp} {v:V} {u:a7},Inv (kZ T P w K L i N g c f z A d s H E) [] R p s'->RelV v u->Q v p->CE d P w H s Q u s':=
  λ{R p v u} J W q=>⟨v,p,J.os,J.bare,J.base,J.ay,W,q⟩
 cases fl with
 |ret u=>
  obtain⟨v,R,p,J,W,q⟩:=B;exact fin J W q
 |next=>
  obtain⟨R,p,J,q⟩:=B;exact fin (v:=V.aA) (u:=Value.none) J Y q
 |brk=>
  obtain⟨_,_,_,q⟩:=B;exact False.elim q
 |cont=>
  obtain⟨_,_,_,q⟩:=B;exact False.elim q
section
variable {X:Cx}{x:af}{p W:Pos}{e:cV}{R:Z cV}{t:TA}{id T:String}{r:Z V->Hp->VK->Prop}
def n5(r:Z V->Hp->VK->Prop)(t:TA):TE:=λa H Q=>t a H λb c=>r b c Q
def hJ(o:de X (.builtin id) r)(m:Gl X x)(l:X.mg x=aG)(j:bootBuiltins x=O (.builtin id))(q:PA X (e::R) t)(k:x≠"__name__":=by decide)(u:(x==("__debug__":af))=a_:=by decide)
  (n:i8 X e R:=by rfl)(v:jw X W R:=by rfl):PE X (.Call (.Name x p) (e::R) [] W) (n5 r t):=by
 intro a s b H Q I h;refine qo (wy I m l j ?_ k u);exact Du (az (q W a s b H _ I h) λd f ⟨c,y,w,g,i⟩=>o a f b y c d Q w g i) n v
def fJ(o:de X (.type T) r)(m:Gl X x)(l:X.mg x=aG)(j:bootBuiltins x=O (.type T))(q:PA X (e::R) t)(k:x≠"__name__":=by decide)(u:(x==("__debug__":af))=a_:=by decide)
  (n:i8 X e R:=by rfl)(v:jw X W R:=by rfl):PE X (.Call (.Name x p) (e::R) [] W) (n5 r t):=by
 intro a s b H Q I h;refine qo (wy I m l j ?_ k u);exact DC (az (q W a s b H _ I h) λd f ⟨c,y,w,g,i⟩=>o a f b y c d Q w g i) n v
end
end _L
namespace HT
open PySem PyProof.Rows
section
open PySem.SeqAt
open PySem.AutoSeq1 (wpAny_loadPart')
open PySem.MeetsSeq PySem.MeetsSeq2 PySem.MeetsSeq3
end
section
variable {X:dC}{w:dm}{A:gb}{E:bg}{s:cb}
def Zgl{t b:U}{c a:Z a7}{Q:bg}(u:IsTup s.heap t c.toArray)(x:IsTup s.heap b a.toArray)(l:c≠[])
  (z:a=[]->Q (.ref t) s)(y:a≠[]->Q (.ref s.heap.objs.size) {s with heap:=s.heap.push {cls:=.type "tuple",data:=.seq (c++a).toArray}})
  (v:c.length+a.length<=sizeLine):wpAny (model X w) A (binaryOp .Add (.ref t) (.ref b)) Q E s:=by
 obtain⟨⟨B,o,p,j⟩,g,m,n,hd⟩:=id u;obtain⟨⟨C,r,data2,q⟩,h,i,k,d⟩:=id x;simp only at m hd i d;subst m hd i d;have e:c.toArray++a.toArray=(c++a).toArray:=QS
 by_cases f:a=[]
 ·exact concat_meets ⟨_,g,Y⟩ ⟨_,h,Y⟩ X2 seq_tuple_add Z1 EI (Ek _ _)
   (tuple_addW1 t b c.toArray a.toArray n k o r j q (by simpa using l) (by simp[f])) ⟨g,h,z f⟩
 ·refine concat_meets ⟨_,g,Y⟩ ⟨_,h,Y⟩ X2 seq_tuple_add Z1 EI (Ek _ _)
   (tuple_addW2 t b c.toArray a.toArray n k o r j q (by simpa using l) (by simpa using f) (by rwa[Yt,Yt])) ⟨g,h,?_⟩
  exact e▸y f
noncomputable def cv(n d:Nat):bS Int->Nat
 |none=>d
 |some v=>if v<0 then(v+(n:Int)).toNat else min v.toNat n
def RY(n d k:Nat):cv n d (O (k:Int))=min k n:=by
 show(if(k:Int)<0 then((k:Int)+(n:Int)).toNat else min (k:Int).toNat n)=min k n;rfl
end
end HT
namespace _L
open PySem PySem.Spec PyProof.Rows
abbrev TO:=St->Hp->(bS Int->Hp->Prop)->Prop
def PO(X:Cx)(e:bS cV)(t:TO):Prop:=
 ∀(a:aV) (s:cb) (b:St) (H:Hp) (Q:bS Int->Hp->Prop),Inv X a b H s->t b H Q->
  wpAny X.md X.A (evalPart e X.env) (λu d=>∃o c,Inv X a b c d/\IsPart u o/\Q o c) X.xe s
def Zgm:TO:=λ_ H Q=>Q aG H
inductive RZ(Q:bS Int->Hp->Prop)(x:V)(a:Hp):Prop
 |mk (i) (c:x=.int i) (b:Q (O i) a):RZ Q x a
def Zju(t:TE):TO:=λa H Q=>t a H λx b=>RZ Q x b
theorem intsAre_of:∀{a:Z a7},Vals (ns.map V.int) a->IntsAre a ns:=by
 induction ns with
 |nil=>intro a r;rw[z6] at r;cases r;exact .nil
 |cons n ns d=>
  intro a r;cases r with
  |cons c b=>
   obtain⟨t,e⟩:=c;subst e;exact .cons n t (d b)
section
variable {X:Cx}{R:TE}{lo W:bS cV}{N P:TO}
def BP:PO X aG Zgm:=by
 intro a s b H Q I h;exact cR ⟨aG,H,I,.none,h⟩
def rN(h:PE X e R):PO X (O e) (Zju R):=by
 intro a s b H Q I g;refine az (h a s b H _ I g) λu l c=>?_;obtain⟨x,k,j,d,f⟩:=c;obtain⟨i,rfl,q⟩:=f;obtain⟨t,rfl⟩:=d;exact⟨O i,k,j,.int i t,q⟩
def uL(X:Cx)(r:V->bS Int->bS Int->Hp->VK->Prop):Prop:=
 ∀(a:aV) (s:cb) (b:St) (H:Hp) (x:V) (v d c:a7) (lo W:bS Int) (e:U) (Q:VK),Inv X a b H s->RelV x v->s.heap.IsSliceOf e d c .none->IsPart d lo->IsPart c W->r x lo W H Q->
  ∃T id,typeLookup (.type T) "__getitem__"=pure (O (.builtin id))/\s.TypeIs v T/\wpAny X.md X.A (getItem v (.ref e)) (EP X a b Q) X.xe s
def tSl(r:V->bS Int->bS Int->Hp->VK->Prop)(R:TE)(N P:TO):TE:=λa H Q=>R a H λx d=>N a d λl c=>P a c λu b=>r x l u b Q
def wa(B:uL X r)(E:PE X e R)(C:PO X lo N)(z:PO X W P):PE X (.Subscript e (.Slice lo W aG p2) pos) (tSl r R N P):=by
 intro a s c H Q I h;refine Subscript_ (az (E a s c H _ I h) λv m d=>?_);obtain⟨x,H1,I1,n,t⟩:=d;refine wpAny_Slice (az (C a m c H1 _ I1 t) λi k d=>?_);refine gR d λl H2 L y p=>?_;refine az (z a k c H2 _ L p) λg f d=>?_;refine gR d λu j J w o=>?_;rw[evalPart_none];refine cR ?_;have G:Inv X a c j {f with heap:=f.heap.push {cls:=.type "slice",data:=.fields #[i,g,.none]}}:=J.kept λb ob q=>Yc _ q;obtain⟨T,id,F,A,D⟩:=B a {f with heap:=f.heap.push {cls:=.type "slice",data:=.fields #[i,g,.none]}} c j x v i g l u f.heap.objs.size Q G n (Heap.IsSliceOf.new ..) y w o;exact tail_any A F D QU
def k9(a:Z V)(lo W:bS Int):Z V:=(a.drop (HT.cv a.length 0 lo)).take (HT.cv a.length a.length W-HT.cv a.length 0 lo)
def GD(a:Z V)(lo W:bS Int):(k9 a lo W).length<=a.length:=by
 unfold k9
 (simp;exact lR (Qdt _ _) (Nat.sub_le _ _))
def Zjv(K:ag):R2:=λx y H Q=>∃a b d c,x=.ref a/\y=.ref b/\aC K H a d/\aC K H b c/\d≠[]/\d.length+c.length<=sizeLine/\
 (c=[]->Q (.ref a) H)/\(c≠[]->∀p,H p=aG->Q (.ref p) (upd H p (.tup (d++c))))
theorem Vals.JY(r:Vals xs us):us=[]↔xs=[]:=by
 cases r with
 |nil=>simp
 |cons _ _=>simp
def Zgn:cK X (binaryOp .Add) (Zjv X.K):=by
 rintro e s o H x y v u Q I g f ⟨a,b,q,p,rfl,rfl,n,m,l,A,i,h⟩;cases g;cases f;refine cu (I.tuple n) λB d k _=>?_;refine cu (I.tuple m) λt c j _=>?_;refine HT.Zgl k j (λz=>l (d.JY.mp z)) (λz=>⟨.ref a,H,I,Y,i (c.JY.mp z)⟩) (λz=>⟨.ref s.heap.objs.size,_,I.laid (λ b r=>Yc _) (Ye _) ?_,Y,h (λw=>z (c.JY.mpr w)) _ (I.ay.fresh (Ye _))⟩) (by rwa[←d.length,←c.length]);exact⟨by rwa[Yl],_,d.append c,oP.new _ _⟩
end
def eP(n:Nat)(i:Int):bS Nat:=if 0<=i then(if i<n then O i.toNat else aG) else if-(n:Int)<=i then O (i+n).toNat else aG
def dN{α:Type}(a:Z α)(i:Int):bS α:=(eP a.length i).bind λj=>a[j]?
def JZ(h:eP n i=O j):seqIndex? i n=O j/\j<n/\-(n:Int)<=i/\i<n:=by
 unfold eP at h;by_cases b:0<=i
 ·rw[bR b] at h;by_cases a:i<n
  ·rw[bR a] at h;have e:=Yo h;exact⟨by rw[Ab b a,e],QO,QO,a⟩
  ·simp_all
 ·rw[bt b] at h;by_cases a:-(n:Int)<=i
  ·rw[bR a] at h;have e:=Yo h;exact⟨by rw[zW QO a,e],QO,a,QO⟩
  ·simp_all
theorem J_(h:dN xs i=O v):∃j,seqIndex? i xs.length=O j/\xs[j]?=O v/\j<xs.length/\-(xs.length:Int)<=i/\i<xs.length:=by
 unfold dN at h;cases e:eP xs.length i with
 |none=>simp_all
 |some j=>
  refine d7 (JZ e) λd c b a=>?_
  simp_all
def dM{j:Nat}(h:xs[j]?=O v):dN xs (j:Int)=O v:=by
 have e:eP xs.length (j:Int)=O j:=by
  unfold eP
  grind
 unfold dN;rwa[e]
def R0(b:cV):Prop:=∀o i,subscripted b a_ o i=operate [o,i] (getItem o i)
def jx(X:Cx)(r:R2):Prop:=
 ∀(c a:cV) (b:aV) (s:cb) (d:St) (H:Hp) (x y:V) (v u:a7) (Q:VK),Inv X b d H s->RelV x v->RelV y u->r x y H Q->
  subscripted a a_ v u=operate [v,u] (getItem v u)->wpAny X.md X.A (subscriptTail c a v u) (EP X b d Q) X.xe s
def Xx(X:Cx)(id:String)(r:V->Z V->Hp->VK->Prop):Prop:=
 ∀(a:aV) (s:cb) (b:St) (H:Hp) (x:V) (c:Z V) (v:a7) (d:Z a7) (Q:VK),Inv X a b H s->RelV x v->Vals c d->r x c H Q->
  wpAny X.md X.A (call (.builtin id) (v::d)) (EP X a b Q) X.xe s
section
variable {X:Cx}{a b:cV}
def jx.or(h:jx X r)(l:jx X k):jx X (λx y H Q=>r x y H Q\/k x y H Q):=by
 intro c d e s f H x y v u Q I i g q j;rcases q with q|q;·exact h c d e s f H x y v u Q I i g q j
 ·exact l c d e s f H x y v u Q I i g q j
def UX(l:jx X r)(n:PE X a f)(m:PE X b e)(k:R0 b):PE X (.Subscript a b pos) (jZ r f e):=by
 intro c s d H Q I h;exact Subscript_ (LF n m I h λv u g x y p o j i q=>l a b c g d p x y v u Q o j i q (k _ _))
inductive To(K:ag)(x:V)(y:V)(H:Hp)(Q:VK):Prop
 |mk (p c i v) (h:x=.ref p) (g:y=.int i) (e:aj K H p c) (f:dN c i=O v) (d:Q v H):To K x y H Q
def wK(K:ag):R2:=λx y H Q=>To K x y H Q
inductive Tp(K:ag)(x:V)(y:V)(H:Hp)(Q:VK):Prop
 |mk (p c i v) (h:x=.ref p) (g:y=.int i) (e:aC K H p c) (f:dN c i=O v) (d:Q v H):Tp K x y H Q
def CM(K:ag):R2:=λx y H Q=>Tp K x y H Q
inductive Tq(x:V)(y:V)(H:Hp)(Q:VK):Prop
 |mk (z i c) (h:x=.str z) (g:y=.int i) (e:z.length<=sizeLine) (f:dN z.cps.toList i=O c) (d:Q (.str ⟨#[c]⟩) H):Tq x y H Q
def VQ:R2:=λx y H Q=>Tq x y H Q
def Ka:jx X (wK X.K):=by
 intro d e c s o H x y v u Q I B A h l;obtain⟨p,N,i,z,rfl,rfl,D,E,q⟩:=h;cases B;obtain⟨t,rfl⟩:=A;refine cu (I.list D) λL r f P=>?_;obtain⟨j,k,J,W,G,F⟩:=J_ E;obtain⟨w,n,C⟩:=r.get J;have T:=r.length;have R:=t6;have fin:EP X c o Q w s:=⟨z,H,I,C,q⟩;by_cases m:0<=i
 ·have g:i.toNat=j:=by
   rw[Ab m F] at k;exact Yo k
  exact item_listR f.isList m QO (by rw[g];simpa using n) fin l
 ·have g:(i+(L.toArray.size:Int)).toNat=j:=by
   rw[zW QO G] at k
   simp_all
  exact subscriptTail_builtinR (x:=w) f.isList.typeIs slot_list_getitem.lookup
   (wpAny_getItem_list_neg f.isList QO (by rw[Yt]<;>omega) QO (by rw[g];simpa using n) ⟨Y,fin⟩) l
def Tr:jx X (CM X.K):=by
 intro c d f s C H x y v u Q I k g h m;obtain⟨p,D,i,z,rfl,rfl,n,o,q⟩:=h;cases k;obtain⟨t,rfl⟩:=g;refine cu (I.tuple n) λP r e E=>?_;obtain⟨j,N,A,L,J,G⟩:=J_ o;obtain⟨w,B,l⟩:=r.get A;have F:=t6;exact subscriptTail_builtinR e.typeIs slot_tuple_getitem.lookup
  (getItem_tuple e QO QO (by rwa[Yt,←r.length]) (by simpa using B) ⟨Y,⟨z,H,I,l,q⟩⟩) m
def t8:jx X VQ:=by
 intro d e f s A H x y v u Q I l k h m;obtain⟨z,i,c,rfl,rfl,C,o,q⟩:=h;obtain⟨t,rfl⟩:=l;obtain⟨B,rfl⟩:=k;refine i1 (J_ o) λj g w E r p=>?_;have n:z.cps.toList.length=z.length:=by simp[Str.length]
 rw[n] at g r p;have D:=t6;exact tail_any (q7 s z t) slot_str_getitem.lookup (getItem_str (by
  rw[(ij QO),(ij QO),zT]) (by rw[g];simpa using w) ⟨.str ⟨#[c]⟩,H,I.tok _,⟨_,Y⟩,q⟩) m
def Mx(K:ag):R2:=λx y H Q=>wK K x y H Q\/CM K x y H Q\/VQ x y H Q
def ZhX:jx X (Mx X.K):=Ka.or (Tr.or t8)
def ZcT(c:Z a7)(n j:Nat)(u:a7):Obj.mapSeq (·.setIfInBounds j u) {cls:=.type "list",data:=.seq c.toArray n}={cls:=.type "list",data:=.seq (c.set j u).toArray n}:=by
 simp[Obj.mapSeq]
def Inv.lst(I:Inv X pins σ H s)(h:H p=O (.lst xs)):
  ∃(c:Z a7) (n:Nat),Vals xs c/\s.heap.get? p=O {cls:=.type "list",data:=.seq c.toArray n}/\xs.length<=sizeLine:=by
 obtain⟨z,c,n,r,e⟩:=I.ay p _ h
 simp_all
def Inv.ZhY{d:aV}{j:St}{H:Hp}{s:cb}{p:U}{m g:Z V}{l c:Z a7}{n i:Nat}{f:Obj->Obj}(I:Inv X d j H s)(h:H p=O (.lst m))
  (v:s.heap.get? p=O {cls:=.type "list",data:=.seq l.toArray n})(k:f {cls:=.type "list",data:=.seq l.toArray n}={cls:=.type "list",data:=.seq c.toArray i})(r:Vals g c)(o:g.length<=sizeLine)(t:Nat):
  Inv X d j (upd H p (.lst g)) {s with heap:=s.heap.update p f,toks:=t}:=by
 have e:(s.heap.update p f).get? p=O {cls:=.type "list",data:=.seq c.toArray i}:=by
  rw[Wp f v (by rw[k]<;>rfl),k]
 refine I.write (by rw[h];trivial) (.inl Y) (λb u w q=>(Wf _ _ (kK w)).trans q) ⟨_,e⟩ ?_;exact⟨o,c,i,r,e⟩
def Zjw:V->V->V->Hp->(Hp->Prop)->Prop:=λo i v H Q=>∃p c k j,o=.ref p/\i=.int k/\H p=O (.lst c)/\eP c.length k=O j/\Q (upd H p (.lst (c.set j v)))
def set_list:uw X Zjw:=by
 intro c s z H o i v G J u Q I C D B T;refine kA T λp A k j R P f F q=>?_;subst R;subst P;cases C;obtain⟨t,rfl⟩:=D;refine gR (I.lst f) λx n r d E=>?_;obtain⟨m,N,l,h⟩:=JZ F;have g:=r.length;have L:=t6;have y:Inv X c z (upd H p (.lst (A.set j v))) {s with heap:=s.heap.update p (Obj.mapSeq (·.setIfInBounds j u))}:=
  I.ZhY f d (ZcT x n j u) (r.set B j) (by rw[Jd];exact E) s.toks
 by_cases w:0<=k
 ·have e:k.toNat=j:=by
   rw[Ab w h] at m
   grind
  exact PySem.W.ki_setAt d w QO (by rw[Yt,←g];exact h) (by rw[e];exact⟨_,y,q⟩)
 ·have e:(k+(x.toArray.size:Int)).toNat=j:=by
   rw[zW QO l] at m
   grind
  exact PySem.W.ki_setBack d QO (by rw[Yt,←g];exact l) QO (by exact e▸⟨_,y,q⟩)
theorem Zbs(c d:bS Int)(n:Nat):(sliceBounds c d aG n).1=((HT.cv n 0 c:Nat):Int)/\(sliceBounds c d aG n).2.1=((HT.cv n n d:Nat):Int)/\(sliceBounds c d aG n).2.2=1:=by
 refine⟨?_,?_,Y⟩
 ·cases c with
  |none=>rfl
  |some i=>
   simp[sliceBounds,HT.cv]
   grind
 ·cases d with
  |none=>rfl
  |some i=>
   simp[sliceBounds,HT.cv]
   grind
def Za6(c:Z a7)(d e:bS Int):slicePick c.toArray d e aG=((c.drop (HT.cv c.length 0 d)).take (HT.cv c.length c.length e-HT.cv c.length 0 d)).toArray:=by
 refine c7 (Zbs d e c.toArray.size) λh g f=>?_;unfold slicePick;rw[h,g,f];simp only[sliceRange_one,pick_run]<;>rfl
def Zko(K:ag):V->bS Int->bS Int->Hp->VK->Prop:=λx lo d H Q=>∃a c,x=.ref a/\aj K H a c/\∀p,H p=aG->Q (.ref p) (upd H p (.lst (k9 c lo d)))
def Zgo:uL X (Zko X.K):=by
 intro e s n H x v p o lo g t Q I h m j i z;refine gR z λa c y l q=>?_;subst y;cases h;refine cu (I.list l) λw r f k=>?_;have d:=r.length;refine⟨"list",_,slot_list_getitem.lookup,f.isList.typeIs,wpAny_getItem_list_slice f.isList m j i .none QS ?_ (by rw[Yt]<;>omega)⟩;rw[Za6,←d];refine⟨.ref s.heap.objs.size,_,I.laid (λ b u=>Yc _) (Ye _) ?_,Y,q _ (I.ay.fresh (Ye _))⟩;exact⟨Yy (GD c lo g) k,_,0,(r.drop (HT.cv c.length 0 lo)).take (HT.cv c.length c.length g-HT.cv c.length 0 lo),Yu _ Y⟩
def jP:V->cF
 |.aA=>ar
 |.bl _=>ar
 |.int _=>ar
 |.str _=>ar
 |_=>a_
def kG:V->V->cF
 |.aA,.aA=>ar
 |.bl a,.bl b=>a==b
 |.bl a,.int b=>(if a then 1 else 0)==b
 |.int a,.bl b=>a==(if b then 1 else 0)
 |.int a,.int b=>a==b
 |.str a,.str b=>a==b
 |_,_=>a_
theorem Ts(e:RelV y u)(c:RelV x v)(g:jP y=ar)(f:jP x=ar):SeqAt.EqAt A s u v (kG y x):=by
 cases y with
 |aA=>
  cases e;cases x with
  |aA=>cases c;exact SeqAt.EqAt.same _
  |bl b=>cases c;exact SeqAt.EqAt.none_bool b
  |int b=>obtain⟨t,rfl⟩:=c;exact SeqAt.EqAt.none_int b t
  |str b=>obtain⟨t,rfl⟩:=c;exact SeqAt.EqAt.none_str b t
  |_=>exact absurd f Yn
 |bl a=>
  cases e;cases x with
  |aA=>cases c;exact SeqAt.EqAt.bool_none a
  |bl b=>cases c;exact SeqAt.EqAt.bool_bool a b
  |int b=>obtain⟨t,rfl⟩:=c;exact SeqAt.EqAt.bool_int a b t
  |str b=>obtain⟨t,rfl⟩:=c;exact SeqAt.EqAt.bool_str a b t
  |_=>exact absurd f Yn
 |int a=>
  obtain⟨d,rfl⟩:=e;cases x with
  |aA=>cases c;exact SeqAt.EqAt.int_none a d
  |bl b=>cases c;exact SeqAt.EqAt.int_bool a d b
  |int b=>obtain⟨t,rfl⟩:=c;exact va a d b t
  |str b=>obtain⟨t,rfl⟩:=c;exact QbL a d b t
  |_=>exact absurd f Yn
 |str a=>
  obtain⟨d,rfl⟩:=e;cases x with
  |aA=>cases c;exact SeqAt.EqAt.str_none a d
  |bl b=>cases c;exact SeqAt.EqAt.str_bool a d b
  |int b=>obtain⟨t,rfl⟩:=c;exact QbK a d b t
  |str b=>obtain⟨t,rfl⟩:=c;exact SeqAt.EqAt.str_str a d b t
  |_=>exact absurd f Yn
 |_=>exact absurd g Yn
def jb(x:V)(u:a7):cF:=match u with
 |.none=>kG .aA x
 |.bool b=>kG (.bl b) x
 |.int i _=>kG (.int i) x
 |.str z _=>kG (.str z) x
 |_=>a_
theorem Tt(r:RelV y u)(f:jP y=ar):jb x u=kG y x:=by
 cases y with
 |aA=>cases r;rfl
 |bl b=>cases r;rfl
 |int i=>obtain⟨t,rfl⟩:=r;rfl
 |str z=>obtain⟨t,rfl⟩:=r;rfl
 |_=>exact absurd f Yn
theorem yQ{x:V}:∀{c:Z V} {d:Z a7},Vals c d->c.all jP=ar->d.any (jb x)=c.any λy=>kG y x
 |_,_,.nil,_=>rfl
 |y::c,u::d,.cons r t,f=>by
  rw[Js,Wu] at f;rw[J0,J0,Tt r f.1,yQ t f.2]
theorem yL(i:RelV x v)(k:jP x=ar):∀{d:Z V} {e:Z a7},Vals d e->d.all jP=ar->∀u∈e,SeqAt.EqAt A s u v (jb x u):=by
 intro d e h;induction h with
 |nil=>intro _ u c;cases c
 |cons r t j=>
  intro f g c;rw[Js,Wu] at f;rcases Yp.mp c with rfl|c;·rw[Tt r f.1];exact Ts r i f.1 k
  ·exact j f.2 g c
def eW(x:V)(c:Z V):cF:=c.any λy=>kG y x
def zY(K:ag)(d:cF):R2:=λx y H Q=>∃p c,y=.ref p/\(aj K H p c\/aC K H p c)/\jP x=ar/\c.all jP=ar/\Q (.bl (if d then !eW x c else eW x c)) H
def ZdR:cK X (compareOp .In) (zY X.K a_):=by
 intro h s l H x y v u Q I g j n;obtain⟨p,m,rfl,c,i,fs,q⟩:=n;cases j;rcases c with c|c
 ·refine cu (I.list c) λd r e k=>?_;refine SeqAt.in_listAt (jb x) e.isList (λw f=>yL g i r fs w (by simpa using f)) ⟨.bl _,H,I,Y,?_⟩;rw[show d.toArray.any (jb x)=d.any (jb x) by simp,yQ r fs];exact q
 ·refine cu (I.tuple c) λd r e k=>?_;refine SeqAt.in_tupleAt (jb x) e (λw f=>yL g i r fs w (by simpa using f)) ⟨.bl _,H,I,Y,?_⟩;rw[show d.toArray.any (jb x)=d.any (jb x) by simp,yQ r fs];exact q
def Zbt:cK X (compareOp .NotIn) (zY X.K ar):=by
 intro h s l H x y v u Q I g j n;obtain⟨p,m,rfl,c,i,fs,q⟩:=n;cases j;rcases c with c|c
 ·refine cu (I.list c) λd r e k=>?_;refine SeqAt.notIn_listAt (jb x) e.isList (λw f=>yL g i r fs w (by simpa using f)) ⟨.bl _,H,I,Y,?_⟩;rw[show d.toArray.any (jb x)=d.any (jb x) by simp,yQ r fs];exact q
 ·refine cu (I.tuple c) λd r e k=>?_;refine SeqAt.notIn_tupleAt (jb x) e (λw f=>yL g i r fs w (by simpa using f)) ⟨.bl _,H,I,Y,?_⟩;rw[show d.toArray.any (jb x)=d.any (jb x) by simp,yQ r fs];exact q
def OE:de X (.builtin "len") (λh H Q=>∃p d,h=[.ref p]/\(aj X.K H p d\/aC X.K H p d)/\Q (.int d.length) H):=by
 intro i s m H h n Q I r v;refine gR v λp d t e q=>?_;subst t;obtain⟨u,rfl,j⟩:=vals1 r;cases j;have o:=t6;rcases e with e|e
 ·obtain⟨l,f,g,k⟩:=I.list e;have c:=f.length;exact Calls.call_len_list g.isList (by simp only[Yt]<;>omega) ⟨.int d.length,H,I.tok _,⟨s.toks+1,by rw[Yt,c]⟩,q⟩
 ·obtain⟨l,f,g,k⟩:=I.tuple e;have c:=f.length;exact len_tuple g (by simp only[Yt]<;>omega) ⟨.int d.length,H,I.tok _,⟨s.toks+1,by rw[Yt,c]⟩,q⟩
def Zbu:de X (.builtin "len") (λc H Q=>∃z,c=[.str z]/\z.length<=sizeLine/\Q (.int z.length) H):=by
 rintro d s e H c f Q I r ⟨z,rfl,g,q⟩;obtain⟨u,rfl,t,rfl⟩:=vals1 r;have h:=t6;exact len_str QO ⟨.int z.length,H,I.tok _,⟨_,Y⟩,q⟩
def vE:de X (.type "tuple") (λk H Q=>∃p c,k=[.ref p]/\((aj X.K H p c/\∀l,H l=aG->Q (.ref l) (upd H l (.tup c)))\/(aC X.K H p c/\Q (.ref p) H))):=by
 rintro d s v H k z Q I r ⟨p,c,rfl,h⟩;obtain⟨u,rfl,w⟩:=vals1 r;cases w;rcases h with⟨g,q⟩|⟨g,q⟩
 ·obtain⟨j,e,f,m⟩:=I.list g;have n:=e.length;refine call_tuple_list f.isList (λi x=>?_) (by simp only[Yt]<;>omega);have t:=I.kept (t':=s.toks) x;have y:Inv X d v (upd H i.objs.size (.tup c)) {s with heap:=i.push {cls:=.type "tuple",data:=.seq j.toArray}}:=
   t.laid (λ b o=>Yc _) (Ye _) (show cM X.prog X.w _ _ _ (.tup c) from⟨m,j,e,oP.new _ _⟩)
  exact⟨.ref i.objs.size,_,y,Y,q _ (t.ay.fresh (Ye _))⟩
 ·obtain⟨j,e,f,m⟩:=I.tuple g;exact call_tuple_same f ⟨.ref p,H,I,Y,q⟩
def My(K:ag)(T:String)(x:V)(H:Hp):Prop:=match x with
 |.str _=>T="str"
 |.int _=>T="int"
 |.ref p=>(T="list"/\∃e,aj K H p e)\/(T="tuple"/\∃o,K.lookup p=O o/\o.cls=.type "tuple"/\o.dict=aG)\/
   (T="dict"/\((∃d,H p=O (.dK d))\/∃d,H p=O (.dT d)))\/(T="set"/\∃c n,H p=O (.set c n))
 |_=>False
theorem Tu(I:Inv X pins σ H s)(r:RelV x v)(h:My X.K T x H):
  s.TypeIs v T/\∀a,v=.ref a->∃m,s.heap.get? a=O m/\m.dict=aG:=by
 cases x with
 |str z=>
  obtain⟨t,rfl⟩:=r;cases(show T="str" from h);exact⟨q7 s z t,λ_ e=>nomatch e⟩
 |int i=>
  obtain⟨t,rfl⟩:=r;cases(show T="int" from h);exact⟨typeIs_int s i t,λ_ e=>nomatch e⟩
 |ref p=>
  cases r;rcases h with⟨rfl,w,q⟩|⟨rfl,o,f,u,hd⟩|⟨rfl,f⟩|⟨rfl,d,n,f⟩
  ·refine cu (I.list q) λy _ l _=>?_;refine⟨l.isList.typeIs,λa e=>?_⟩;obtain⟨o,n,e,c,hd,_⟩:=l
   grind
  ·refine⟨⟨o,I.cj p o f,u⟩,λa e=>?_⟩;cases e;exact⟨o,I.cj _ o f,hd⟩
  ·have z:∃o,s.heap.get? p=O o/\o.ExactDict:=by
    rcases f with⟨j,f⟩|⟨j,f⟩
    ·obtain⟨_,_,_,_,o,_,_,e,g,_⟩:=I.ay p _ f;exact⟨o,e,g⟩
    ·obtain⟨_,_,_,_,o,_,_,e,g,_⟩:=I.ay p _ f;exact⟨o,e,g⟩
   refine bh z λo e g=>?_;refine⟨⟨o,e,g.1⟩,λa k=>?_⟩;cases k;exact⟨o,e,g.2.1⟩
  ·obtain⟨o,_,_,_,e,g,_⟩:=I.ay p _ f;refine⟨⟨o,e,g.1⟩,λa k=>?_⟩;cases k;exact⟨o,e,g.2.1⟩
 |_=>exact False.elim h
def LJ(K:ag)(T:String)(r:V->Z V->Hp->VK->Prop)(e:TE):TE:=λd H Q=>e d H λx c=>My K T x c/\r x [] c Q
def zZ(K:ag)(T:String)(r:V->Z V->Hp->VK->Prop)(f:TE)(t:TA):TE:=λc H Q=>f c H λx d=>My K T x d/\t c d λe g=>r x e g Q
variable {o e:cV}{N:Z cV}{to:TE}{t:TA}{W:af}{R P:Pos}{T id:String}{r:V->Z V->Hp->VK->Prop}
def ZhZ(p:PlainAttrs T)(d:Slot T W id)(z:typeOf (.builtin id)=pure (.type "method_descriptor"))(u:Xx X id r)(q:PE X o to)
  (l:attributeBase o W X.env (eval o X.env)=eval o X.env:=by rfl)(k:(R.endLine==P.line)=ar:=by rfl):PE X (.Call (.Attribute o W R) [] [] P) (LJ X.K T r to):=by
 intro c s f H Q I h;refine EA l k (az (q c s f H _ I h) λv m j=>?_);obtain⟨x,A,i,g,ty,n⟩:=j;obtain⟨y,w⟩:=Tu i g ty;exact⟨T,id,p,d,z,y,w,n7 Y (NH (u c m f A x [] v [] Q i g .nil n))⟩
def iK(B:PlainAttrs T)(d:Slot T W id)(L:typeOf (.builtin id)=pure (.type "method_descriptor"))(E:Xx X id r)(D:PE X o to)(F:PA X (e::N) t)
  (q:attributeBase o W X.env (eval o X.env)=eval o X.env:=by rfl)
  (LK:((backTo P (starEach (e::N) X.env)).all (λx=>!x.1)&&(backToKw P (keywordEach [] X.env)).all (λx=>x.1.isSome)
   &&decide ((e::N).length+([]:Z Keyword).length+(if([]:Z Keyword).isEmpty then 0 else 1)<30))=ar:=by rfl)
  (p:(R.endLine==P.line)=ar:=by rfl)(C:i8 X e N:=by rfl)(g:jw X P N:=by rfl):
  PE X (.Call (.Attribute o W R) (e::N) [] P) (zZ X.K T r to t):=by
 intro c s f H Q I h;refine J6 q LK p Y (az (D c s f H _ I h) λv w l=>?_);obtain⟨x,H1,k,i,ty,A⟩:=l;obtain⟨J,G⟩:=Tu k i ty;refine⟨T,id,B,d,L,J,G,?_⟩;have j:=F P c w f H1 _ k A;rw[C] at j⊢;exact n7 (by show(a_||(backTo P (starEach N X.env)).any (·.1))=a_;rw[g]<;>rfl) (qf (az j λn u ⟨m,H2,I2,y,z⟩=>E c u f H2 x m v n Q I2 i y z))
end
def n_(X:Cx)(id:String)(r:V->Z V->Hp->VK->Prop):Prop:=
 ∀(a:aV) (s:cb) (b:St) (H:Hp) (x:V) (c:Z V) (v:a7) (d:Z a7) (Q:VK),Inv X a b H s->RelV x v->Vals c d->r x c H Q->
  wpAny X.md X.A (call (.builtin id) (v::d)) (EP X a b Q) X.xe s
theorem Vals.one:∀{x:V} {a:Z a7},Vals [x] a->∃u,a=[u]/\RelV x u:=by
 intro x a h;cases h with
 |cons r t=>
  cases t;exact⟨_,Y,r⟩
theorem Vals.zero:∀{a:Z a7},Vals [] a->a=[]
 |_,.nil=>rfl
theorem Vals.eraseIdx:∀{a:Z V} {b:Z a7} (i:Nat),Vals a b->Vals (a.eraseIdx i) (b.eraseIdx i)
 |_,_,_,.nil=>.nil
 |_,_,0,.cons _ t=>t
 |_,_,i+1,.cons r t=>.cons r (Vals.eraseIdx i t)
section
variable {X:Cx}{W:aV}{σ:St}{H:Hp}{s:cb}{l:U}{xs T:Z V}
def Inv.CN{b a:Z a7}{n:Nat}{f:dg a7->dg a7}{c:Nat}(I:Inv X W σ H s)(k:H l=O (.lst xs))
  (e:s.heap.get? l=O {cls:=.type "list",data:=.seq b.toArray n})(i:f b.toArray=a.toArray)(g:Vals T a)(d:T.length<=sizeLine):
  Inv X W σ (upd H l (.lst T)) {s with heap:=s.heap.update l (Obj.mapSeq f),toks:=c}:=by
 have q:=PySem.IsL.update e f;rw[i] at q;refine I.write (by rw[k];exact trivial) (.inl Y) (λm u j h=>(Wf s.heap (Obj.mapSeq f) (kK j)).trans h) ⟨_,q⟩ ?_;exact⟨d,a,_,g,q⟩
def Inv.Zkp(I:Inv X W σ H s)(c:Vals T a)(b:T.length<=sizeLine):
  Inv X W σ (upd H s.heap.objs.size (.lst T)) {s with heap:=s.heap.push {cls:=.type "list",data:=.seq a.toArray},toks:=d}:=
 I.laid (λ _ _=>Yc _) (Ye _) ⟨b,a,0,c,Yu _ Y⟩
def Inv.fresh(I:Inv X W σ H s):H s.heap.objs.size=aG:=I.ay.fresh (Ye _)
def Inv.ux(I:Inv X W σ H s)(b:H l=O (.lst xs)):xs.length<=sizeLine/\∃(a:Z a7) (n:Nat),Vals xs a/\xs.length=a.length/\s.heap.get? l=O {cls:=.type "list",data:=.seq a.toArray n}:=by
 obtain⟨z,a,n,r,e⟩:=I.ay l _ b;exact⟨z,a,n,r,r.length,e⟩
def ZeT(h:n<=sizeLine):Builtin.List.listTooLong n=a_:=by
 exact ij (QdQ h)
end
def Zgp:V->Z V->Hp->VK->Prop:=λx b H Q=>∃l a y,x=.ref l/\b=[y]/\H l=O (.lst a)/\a.length<sizeLine/\Q .aA (upd H l (.lst (a++[y])))
def yF:n_ X "list.append" Zgp:=by
 intro a s i H x k v m Q I c d h;refine kS h λl j y w t b o q=>?_;subst w;subst t;cases c;obtain⟨u,rfl,f⟩:=d.one;obtain⟨z,g,n,r,p,e⟩:=I.ux b;refine uS F.slot_list_append ⟨_,e,Y⟩ F.entry_list_append (F.args_list_append_2 _ _) (PySem.list_append l g.toArray n u (by rw[Yt];omega)) ⟨e,?_⟩;refine⟨.aA,_,I.CN b e QS (r.append (.cons f .nil)) ?_,Y,q⟩
 grind
def Zgq:V->Z V->Hp->VK->Prop:=λx d H Q=>∃l b c a,x=.ref l/\d=[.ref b]/\H l=O (.lst c)/\H b=O (.lst a)/\c.length+a.length<=sizeLine/\Q .aA (upd H l (.lst (c++a)))
def ZdS:n_ X "list.extend" Zgq:=by
 intro g s w H x D v E Q I i j N;obtain⟨l,b,C,y,rfl,rfl,h,p,G,q⟩:=N;cases i;refine bh j.one λu L k=>?_;subst L;cases k;obtain⟨z,c,n,r,J,e⟩:=I.ux h;obtain⟨A,d,o,m,B,t⟩:=I.ux p;have a:c.toArray.size+d.toArray.size<=sizeLine:=by rw[Yt,Yt];omega
 have f:¬(!c.toArray.isEmpty&&Builtin.List.listTooLong (c.toArray.size+d.toArray.size))=ar:=by
  rw[ZeT a,Bool.and_false]
  grind
 refine uS F.slot_list_extend ⟨_,e,Y⟩ F.entry_list_extend (F.args_list_extend_2 _ _)
  (AutoSeq1.list_extend_list_list_0 l c.toArray n b d.toArray o f (by exact Yt▸Nat.le_of_add_le_add_right (Ai a)) (lK a)) ⟨e,t,?_⟩
 refine⟨.aA,_,I.CN h e QS (r.append m) ?_,Y,q⟩
 (simp;omega)
def Zh1:V->Z V->Hp->VK->Prop:=λx b H Q=>∃l a i k y,x=.ref l/\b=[.int i]/\H l=O (.lst a)/\-(2^63)<=i/\i<2^63/\seqIndex? i a.length=O k/\a[k]?=O y/\Q y (upd H l (.lst (a.eraseIdx k)))
def ZeU:n_ X "list.pop" Zh1:=by
 rintro a s A H x C v D Q I c d ⟨l,B,i,k,y,rfl,rfl,b,o,m,G,h,q⟩;cases c;obtain⟨u,rfl,f⟩:=d.one;obtain⟨t,rfl⟩:=f;obtain⟨z,p,n,r,j,e⟩:=I.ux b;obtain⟨w,E,g⟩:=r.get h;refine uS F.slot_list_pop ⟨_,e,Y⟩ F.entry_list_pop (F.args_list_pop_2 _ _)
  (MeetsSeq.list_pop_at l p.toArray n i t k w (fitsIndex_both o m) (by rwa[Yt,←j]) (by rwa[←Ww]) (by rw[Yt];omega)) ⟨e,?_⟩
 refine⟨y,_,I.CN b e ?_ (r.eraseIdx k) ?_,g,q⟩;·simp_all
 ·grind
def Zh2:V->Z V->Hp->VK->Prop:=λx b H Q=>∃l a,x=.ref l/\b=[]/\H l=O (.lst a)/\Q .aA (upd H l (.lst []))
def ZeV:n_ X "list.clear" Zh2:=by
 intro b s h H x j v k Q I d f t;refine d5 t λl i p o c q=>?_;subst p;subst o;cases d;have a:=f.zero;subst a;obtain⟨z,g,n,r,m,e⟩:=I.ux c;exact uS F.slot_list_clear ⟨_,e,Y⟩ F.entry_list_clear (F.args_list_clear_1 _) (AutoSeq1.list_clear_list_0 l g.toArray n (by rw[Yt];omega)) ⟨e,⟨.aA,_,I.CN c e Y .nil (Yw _),Y,q⟩⟩
def Zkq:R2:=λx y H Q=>∃l b c a,x=.ref l/\y=.ref b/\H l=O (.lst c)/\H b=O (.lst a)/\c.length+a.length<=sizeLine/\∀p,H p=aG->Q (.ref p) (upd H p (.lst (c++a)))
def Zh3:cK X (binaryOp .Add) Zkq:=by
 intro a s p H x y v u Q I g f E;obtain⟨l,b,B,t,rfl,rfl,j,k,i,q⟩:=E;cases g;cases f;obtain⟨z,d,n,r,D,e⟩:=I.ux j;obtain⟨w,c,C,h,A,o⟩:=I.ux k;refine PySem.P.add_list e o ?_ (by rw[Yt,Yt];omega);have m:d.toArray++c.toArray=(d++c).toArray:=QS
 exact m▸⟨.ref _,_,I.Zkp (r.append h) (by rwa[Yl]),Y,q _ I.fresh⟩
section
set_option maxRecDepth 100000 in
end
end _L
namespace Xy
open PySem PySem.W PySem.Calls PyProof.Rows
theorem ZaC:∀(ns:Z Int) (c:Z a7),WellAll P h c (ns.map WData.int)->IntsAre c ns:=by
 intro ns;induction ns with
 |nil=>
  intro c w;cases w;exact .nil
 |cons n ns d=>
  intro c w;cases w with
  |cons a b=>
   cases a;exact .cons _ _ (d _ b)
theorem ZdT{l:OpenLaw}(o:l.most=O n)
  (g:l.row.toRowW.claim.pre args=ar)(i:WellAll P h vals args):
  ∃a f b,vals=[Value.ref a]/\args=[WData.list (b.map WData.int)]/\h.get? a=O {cls:=.type "list",data:=.seq f.toArray}/\IntsAre f b/\b.length<=n:=by
 refine gR (hasAllW_cons ((pre_splitW g).1)) λd r w s q=>?_;subst w;obtain rfl:=hasAllW_nil q;obtain⟨u,rfl,p⟩:=hasW_list s;obtain⟨b,rfl⟩:=items_int p;have c:b.length<=n:=by
  have e:(WTm.not (.lt (.lit (.int (n:Int))) (.len (.arg 0)))).holds [] {args:=[.list (b.map .int)]}=ar:=by
   have e:=(holds_andW ((pre_splitW g).2)).1;rw[o] at e;exact e
  have v:=condW_of e (w_not (w_lt w_lit (w_len_list (w_arg Y))))
  grind
 cases i with
 |cons k j=>
  cases j;cases k with
  |list m t=>exact⟨_,_,b,Y,Y,m,ZaC b _ t,c⟩
def ZdU(l:OpenLaw)(a:Z WData):l.row.toRowW.claim.post a (.bool ar) a=ar:=
 postW_of
  (by first|rfl|decide|simp[WShape.has])
  (show(WTm.eq .res (.lit (.bool ar))).value [] {args:=a,res:=O (.bool ar),after:=a}=O (.bool (ar==ar)) from w_eq_bool (w_res Y) w_lit) Y
def Zb7{l:OpenLaw}{n:Nat}{q:dC}{c:Z af}{D:(af->bS a7)->cX->Prop}{C:dm->cX->Prop}{d:DefRec}
  (N:l.most=O n)(F:d.params.defaults=[])
  (m:∀(w:dm) (y e:cb) (t x:aR) (k:U) (o:Obj) (v u h:a7) (a:U) (i:Z a7) (s:Z Int),
   Ground q c [] D w y t x e.heap->C w e.heap->
   e.heap.get? k=O o->o.data=.func (docDef d.name d.params d.body d.scope v u h)->e.heap.CodeRec u d.name->t d.name=O (.ref k)->
   e.heap.get? a=O {cls:=.type "list",data:=.seq i.toArray}->IntsAre i s->s.length<=n->e.gens=#[]->
   codeAny (model l.prog w) callerA (.call (.ref k) ⟨[.ref a],[]⟩) (λr p=>r=.ok (.ret (.bool ar))/\OldK e.heap p.heap/\p.os=e.os/\AllBare p.gens) e):
  WalkO q c D C l.row.toRowW d [] (λf i=>PySem.call f i):=by
 intro w y e t x G b k o v u h dV kV L hd gf A E R B z as CO ZmA I H Q;obtain rfl:dV=.none:=Dflts.none A F;obtain rfl:kV=.none:=Dflts.noKw A;refine kS (ZdT N CO H) λa i s js ZO4 LM g j=>?_;subst js;subst ZO4;refine enter_call (ny (m w y e t x k o v u h a i s G b L (fd_plain hd) gf E LM g j R) λr p J=>?_);refine d7 J λlX X W T=>?_;subst lX;exact⟨.inl ⟨.bool ar,.bool ar,[],Y,λ_=>Y,.bool ar,ZdU l _,λ_=>⟨Xv,λ_ P=>(nomatch P)⟩⟩,X,W,T⟩
end Xy
namespace _L
open PySem PySem.Spec PyProof.Rows
theorem Bn:∀{vs:Z a7} {a:Z Int},IntsAre vs a->Vals (a.map V.int) vs:=by
 intro vs a h;induction h with
 |nil=>exact .nil
 |cons n t h b=>exact .cons ⟨t,Y⟩ b
def LN(H:Hp):Prop:=∀b,H b=aG\/∃o a,H b=O (.cH o (.lst a))
theorem ZeW{P:dC}{w:dm}{K:ag}{t E:aR}{CX:lE}{k:Nat}{J a:U}{fd:FuncData}{x:af}{T:Sp}{bO:cb}{j:Z a7}{p:Z Int}
  (KX:K.In bO.heap)(Xz:bO.heap.Ns mainGlobals t)(c:bO.heap.Ns builtinsNs E)(I:∀x:af,x≠"__name__"->E x=bootBuiltins x)(Q:bO.heap.NoLimit)(hg:bO.gens=#[])
  (A:bO.heap.get? a=O {cls:=.type "list",data:=.seq j.toArray})(hi:IntsAre j p)(hl:p.length<=sizeLine)(hr:cA k callerA)
  (F:∀g:cX,K.In g->g.Ns mainGlobals t->aE P w K t g CX k J fd [x] T)(R:∀(s:cb) (u:a7),BindsTo s fd ⟨[u],[]⟩ [(x,u)])
  (mU:∀H:Hp,LN H->aj K H a (p.map V.int)->T [.ref a] H (λv _=>v=.bl ar) λ_ _ _=>False)
  (MA:∀H e f,CX [] H bO (λ_ _ _=>False) e f->False):
  codeAny (model P w) callerA (.call (.ref J) ⟨[.ref a],[]⟩) (λr f=>r=.ok (.ret (.bool ar))/\OldK bO.heap f.heap/\f.os=bO.os/\AllBare f.gens) bO:=by
 have W:=Bn hi;have N:=hi.length
 --from an abstract heap in Zmu nothing but X Ta may be tracked
 have i:∀H:Hp,LN H->aj K H a (p.map V.int)->dv P w H bO.heap->(∀b,H b≠aG->b=a)->(H a≠aG->K.lookup a=aG)->
   codeAny (model P w) callerA (.call (.ref J) ⟨[.ref a],[]⟩) (λr f=>r=.ok (.ret (.bool ar))/\OldK bO.heap f.heap/\f.os=bO.os/\AllBare f.gens) bO:=by
  intro H hO hS ay hA hK;have R1:∀{b:U} {o:Obj},bO.heap.get? b=O o->H b=aG->(qK bO.heap H).get? b=O o:=λe n=>ZeL e n;have lH:∀{b:U} {o:Obj} {B:dg DictEntry} {C:Nat},bO.heap.get? b=O o->o.data=.dict B C->H b=aG:=λ{b o B C} e d=>by
   cases q:H b with
   |none=>rfl
   |some u=>
    have L:b=a:=hA b (by rw[q];simp);subst L;rw[A] at e;cases e;have d':=d;cases d'
  have D:∀{b:U} {m:aR},bO.heap.Ns b m->(qK bO.heap H).Ns b m:=λ{b m} ⟨o,B,C,e,d,r⟩=>⟨o,B,C,R1 e (lH e d),d,r⟩;have XA:=λb o e=>R1 (KX b o e) (by
   cases q:H b with
   |none=>rfl
   |some u=>
    have L:=hA b (by rw[q];simp);subst L;rw[hK (by rw[q];simp)] at e;cases e)
  have hM:Mod K t (qK bO.heap H):=⟨XA,D Xz,⟨E,D c,I⟩,let⟨mc,h1,h2⟩:=Q;⟨mc,D h1,h2⟩⟩;have e0:pj P w K t (qK bO.heap H) callerA [] bO H:=⟨Y,hM,λ b o=>Zge,xl (ZdK _ _),trivial,λb c=>absurd (show b∈([]:Z U) from c) QS,ay,.of_eq hg⟩;refine ny ((F _ XA (D Xz)).run callerA [] bO H ⟨[.ref a],[]⟩ [.ref a] [.ref a] _ _ hr e0 (R bO (.ref a)) (.cons Y .nil) (mU H hO hS)) λr f h=>?_;cases r with
  |error e=>exact(MA H e f h).elim
  |ok fl=>
   cases fl with
   |next=>exact False.elim h
   |brk=>exact False.elim h
   |cont=>exact False.elim h
   |ret u=>
    obtain⟨v,H',os,y,un,LO,r',q⟩:=h;have q':=q;subst q';obtain rfl:u=Value.bool ar:=r';refine⟨Y,OldK.of_keep λb o e=>?_,os,y⟩;cases q:H b with
    |none=>exact un.keep b o e q (by intro z;exact absurd (show b∈([]:Z U) from z) QS) QS
    |some u=>
     rcases hO b with z|⟨ob,xs,z⟩;·rw[q] at z;cases z
     ·have z2:=un.iQ b ob _ z;obtain⟨e1,_⟩:=ay b _ z;obtain⟨e2,_⟩:=LO b _ z2;rw[e] at e1;cases e1;exact e2
 cases G:K.lookup a with
 |some o=>
  --X Ta is one of X Zmk own objects
  have e:=KX a o G;rw[A] at e;cases e;refine i (λ_=>aG) (λ_=>.inl Y) (.inr ⟨_,j.toArray,_,G,Y,Y,Y,by rwa[Yt,N],by simpa using W⟩) (λb u z=>by have l:=z;cases l) (λ b=>absurd Y) λz=>absurd Y z
 |none=>
  refine i (λb=>if b=a then O (.cH {cls:=.type "list",data:=.seq j.toArray} (.lst (p.map V.int))) else aG) (λb=>?_) (.inl (.inr ⟨{cls:=.type "list",data:=.seq j.toArray},bR Y⟩)) (λb u z=>?_) (λb z=>?_) λ_=>G
  ·by_cases c:b=a;·exact .inr ⟨_,_,bR c⟩
   ·exact .inl (bt c)
  ·by_cases c:b=a
   ·have l:=(bR c).symm.trans z;cases l;subst c;exact⟨A,by rwa[Ya],j,_,W,A⟩
   ·have l:=(bt c).symm.trans z;cases l
  ·by_cases c:b=a;·exact c
   ·exact absurd (bt c) z
def Zgr{l:PySem.W.OpenLaw}{n k:Nat}{q:dC}{i:Z af}{XP:(af->bS a7)->cX->Prop}{B:dm->cX->Prop}{d:DefRec}{K:Params->ag}{D:dm->lE}{A:dm->Sp}{x:af}
  (N:l.most=O n)(W:n<=sizeLine)(I:d.params.defaults=[])(L:cA k callerA)
  (R:∀(w:dm) (h:cX),B w h->(K w.params).In h)
  (F:∀(w:dm) (m:aR) (r:U) (h:cX),(K w.params).In h->h.Ns mainGlobals m->m d.name=O (.ref r)->
   ∃y:FuncData,(∀(s:cb) (u:a7),BindsTo s y ⟨[u],[]⟩ [(x,u)])/\
    ∀c:cX,(K w.params).In c->c.Ns mainGlobals m->aE l.prog w (K w.params) m c (D w) k r y [x] (A w))
  (J:∀(w:dm) (H:Hp) (a:U) (p:Z Int),p.length<=n->LN H->aj (K w.params) H a (p.map V.int)->A w [.ref a] H (λv _=>v=.bl ar) λ_ _ _=>False)
  (MA:∀(w:dm) (H:Hp) (s:cb) (e:a7) (t:cb),D w [] H s (λ_ _ _=>False) e t->False):
  PySem.W.WalkO q i XP B l.row.toRowW d [] (λf z=>PySem.call f z):=by
 refine Xy.Zb7 N I λw c6 bO m mb r o pm cd X a z p G b ho hd gf E LM j g P=>?_;have C:=R w _ b;refine bh (F w m r _ C G.T.g E) λy Q T=>?_;exact ZeW C G.T.g G.T.b G.T.builtins G.T.nolimit P LM j (Yy g W) L T Q (λ H=>J w H a p g) λH e t=>MA w H bO e t
noncomputable def inClass(s:cm)(j:Nat):cm:=match s with
 |.ClassDef _ _ _ body _ _ _ _ _ _ _=>body.getD j (.Pass ⟨0,0,0,0⟩)
 |_=>.Pass ⟨0,0,0,0⟩
def mj(s:cm):Arguments:=match s with
 |.FunctionDef _ a _ _ _ _ _ _ _ _=>a
 |_=>{posonlyargs:=[],args:=[],vararg:=aG,kwonlyargs:=[],kw_defaults:=[],kwarg:=aG,defaults:=[]}
noncomputable def ji(s:cm):Z cm:=match s with
 |.FunctionDef _ _ b _ _ _ _ _ _ _=>b
 |_=>[]
def aI(s:cm):Scope:=match s with
 |.FunctionDef _ _ _ _ _ _ sc _ _ _=>sc
 |_=>{kind:=.function,names:=[],isGenerator:=a_,isCoroutine:=a_}
abbrev aO:lE:=λ_ _ _ _ _ _=>False
abbrev E0:XK:=λ_ _ _=>False
def wC:Passes aO X E0:=λ_ _ _ _ _ _ _ h=>h.elim
structure aP(K:ag)(x qual:af)(st:cm)(f:U)(fd:FuncData):Prop where
 ex:∃(oc:a7) (od:bS U) (kV doc pm:a7) (an:bS U) (bL ct:a7) (i_:dg (bS a7)),
  fd=fnOf x qual (mj st) (ji st) (aI st) .none kV doc pm an bL ct/\K.lookup f=O ⟨oc,od,.func fd,i_⟩/\codeIn K bL qual=ar
 kp:keepIn K (.ref f)=ar
section
variable {P:dC}{w:dm}{K:ag}{W:aR}{X:cX}
def aP.ok{x c:af}{e:cm}{f:U}{l:FuncData}{N i:Z af}{k:Nat}{sp:Sp}(F:aP K x c e f l)(a:aQ N i (aI e))(j:∀d H Q E,sp d H Q E->d.length=i.length)
  (m:∀(g:a7) (A:gb) (b:Z Env) (s:cb) (H:Hp) (d:Z V) (Q:VK) (E:XK),cA k (A.deeper (envOfC c (aI e) s.heap.objs.size f g))->sp d H Q E->
   ∃t,gc (kZ aO P w K W X N c (aI e) f g A b s H E).pG (ji e) t/\t {nx:=λ_ v=>Q .aA v,rt:=Q} (start N d) H):aE P w K W X aO (k+1) f l i sp:=by
 obtain⟨B,z,kV,u,y,G,g,D,C,rfl,o,r⟩:=F.ex;refine Le o r a j λA b s H d Q E p n=>?_;refine bh (m g A b s H d Q E p n) λt h q=>?_;exact⟨t,h.pG,q⟩
def aP.binds{b:cm}(F:aP K x qual b f fd)
  (h:∀(kV a d:a7) (i:bS U) (g e:a7) (c:Z a7),c.length=j.length->bindArgs (fnOf x qual (mj b) (ji b) (aI b) .none kV a d i g e) ⟨c,[]⟩=pure (j.zip c)):Binds K fd j []:=by
 obtain⟨l,k,kV,a,d,i,g,e,n,rfl,m,o⟩:=F.ex;exact .all (h kV a d i g e)
def y_{x a:af}{st:cm}{f:U}{m:a7}{j i:bS U}{n:dg (bS a7)}{g b e d h:a7}(l:K.lookup f=O ⟨m,j,.func (fnOf x a (mj st) (ji st) (aI st) .none g b e i d h),n⟩)
  (c:codeIn K d a=ar)(k:keepIn K (.ref f)=ar):aP K x a st f (fnOf x a (mj st) (ji st) (aI st) .none g b e i d h):=⟨⟨m,j,g,b,e,i,d,h,n,Y,l,c⟩,k⟩
end
def bw(a:cA k A):A.units+1<cLine:=Ji (Qbz (by decide:1<=64) _) a.units
def kQ(h:n<=1000):n<sizeLine:=Ji h QD
section
variable {X:Cx}
def pv(i:Nat){x:af}{a:Pos}(d:X.N[i]?=O x:=by rfl)(b:uI X.env.scope x:=by first|exact iC rfl|exact mz (iC rfl)|exact mz (mz rfl))(c:(x==("__debug__":af))=a_:=by decide)
  (e:(x==("__classdict__":af))=a_:=by decide):PE X (.Name x a) (gP i):=ZhO d b c e
end
def bV{A B:Prop}(h:B):if a_=ar then A else B:=by
 grind
def dh{A B:Prop}(h:A):if ar=ar then A else B:=by
 grind
def bC{c A B:Prop}[Decidable c](b:c->A)(a:¬c->B):if c then A else B:=by
 simp_all
def wD{c A B:Prop}[Decidable c](a:c)(h:B):if(!decide c)=ar then A else B:=by
 grind
def ah(H a:Hp):Prop:=∀b o,H b=O o->a b=O o
def ah.refl(H:Hp):ah H H:=λ_ _ h=>h
def ah.trans{H d H2:Hp}(a:ah H d)(b:ah d H2):ah H H2:=λc o h=>b c o (a c o h)
theorem ah.free(e:ah H a)(h:a l=Option.none):H l=Option.none:=by
 cases q:H l with
 |none=>rfl
 |some o=>
  rw[e l o q] at h;cases h
def ah.seq{K:ag}(e:ah H b)(h:aj K H a xs):aj K b a xs:=by
 rcases h with(h|⟨o,h⟩)|h;·exact .inl (.inl (e _ _ h))
 ·exact .inl (.inr ⟨o,e _ _ h⟩)
 ·exact .inr h
def rP(a:Z (af×U)):Z (af×U)->Prop
 |[]=>True
 |p::r=>a.lookup p.1=O p.2/\rP a r
theorem rP.look:∀{d:Z (af×U)},rP cells d->∀(x:af) (c:U),d.lookup x=O c->cells.lookup x=O c
 |[],_,x,c,h=>by simp at h
 |(n,a)::r,b,x,c,h=>by
  rw[W8] at h;cases e:x==n with
  |true=>
   rw[e] at h;rw[(eq_of_beq e),←(Yo h)];exact b.1
  |false=>
   rw[e] at h;exact rP.look b.2 x c h
theorem Gf{a:Env}:∀{b:Z (af×NameKind)} {x:af} {k:NameKind},
  (b.map λ(n,k)=>if(k==NameKind.free&&a.scope.kind==.function&&a.kindOf n==O .cell) then(n,NameKind.cell) else(n,k)).lookup x=O k->
  ∃c,(x,c)∈b/\(k=c\/c=.free)
 |[],_,_,h=>by simp at h
 |(n,c)::r,x,k,h=>by
  have h:List.lookup x ((if(c==NameKind.free&&a.scope.kind==.function&&a.kindOf n==O .cell)=ar then(n,NameKind.cell) else(n,c))::(r.map λ(n,k)=>if(k==NameKind.free&&a.scope.kind==.function&&a.kindOf n==O .cell) then(n,NameKind.cell) else(n,k)))=O k:=h;by_cases d:(c==NameKind.free&&a.scope.kind==.function&&a.kindOf n==O .cell)=ar
  ·rw[bR d,W8] at h;cases e:x==n with
   |true=>grind
   |false=>
    rw[e] at h;refine bh (Gf h) λf m q=>?_
    grind
  ·rw[bt d,W8] at h;cases e:x==n with
   |true=>grind
   |false=>
    rw[e] at h;refine bh (Gf h) λf m q=>?_
    grind
structure Tv(X:Cx)(scope:Scope)(cl:Z (af×U))(y:af)(j:Nat):Prop where
 ix:X.N[j]?=O y
 out:X.env.kindOf y=O .cell\/X.env.kindOf y=O .free
 uM:(relabel scope X.env).names.lookup y=O .cell\/(relabel scope X.env).names.lookup y=O .free
 cl:(cl.lookup y).isSome=ar
def rQ(X:Cx)(a:Scope)(b:Z (af×U)):Z (af×Nat)->Prop
 |[]=>True
 |p::r=>Tv X a b p.1 p.2/\rQ X a b r
theorem rQ.get:∀{b:Z (af×Nat)} {k:Nat} {p:af×Nat},rQ X scope cl b->b[k]?=O p->Tv X scope cl p.1 p.2
 |[],k,p,_,h=>by simp at h
 |q::r,0,p,a,h=>by
  have e:q=p:=by simpa using h
  exact e▸a.1
 |q::r,k+1,p,a,h=>rQ.get a.2 (by simpa using h)
structure Bo(X:Cx)(scope:Scope)(cl:Z (af×U))(x:af)(fr:Z (af×Nat)):Prop where
 zD:closureFor scope X.env=pure cl
 sub:rP X.env.cells cl
 kind:scope.kind=.function
 names:∀y∈scope.names,y.2=.local->scope.names.lookup y.1=O .local
 lx:scope.names.lookup x=O .local
 Ct:∀y∈scope.names,y.2≠.cell
 has:(scope.names.all λy=>!(y.2==.free)||(cl.lookup y.1).isSome)=ar
 cU:rQ X scope cl fr
 nd:(x::fr.map (·.1)).Nodup
noncomputable def iM(a:St)(b:Z (af×Nat)):St:=b.map λp=>(a[p.2]?).join
structure rB(X:Cx)(scope:Scope)(cl:Z (af×U))(xs:Z af)(fr:Z (af×Nat)):Prop where
 zD:closureFor scope X.env=pure cl
 sub:rP X.env.cells cl
 kind:scope.kind=.function
 names:∀y∈scope.names,y.2=.local->scope.names.lookup y.1=O .local
 Ct:∀y∈scope.names,y.2≠.cell
 has:(scope.names.all λy=>!(y.2==.free)||(cl.lookup y.1).isSome)=ar
 cU:rQ X scope cl fr
 nd:(xs++fr.map (·.1)).Nodup
def cZ(X:Cx)(b:Z af)(c:Z (af×Nat))(a:Scope)(e:Z (af×U))(C:U)(s:cb)(H:Hp)(d:Z U):Cx where
 prog:=X.prog
 w:=X.w
 K:=X.K
 mg:=X.mg
 base:=X.base
 A:=X.A
 N:=b++c.map (·.1)
 c6:=s
 mI:=H
 env:=compEnvC a e C X.env
 outer:=X.stack
 stack:=X.stack
 ex:=d
 fn:=λ_=>a_
 calm:=X.calm
 pn:=[]
 xe:=λ_ _=>False
theorem ZdV(a:rB X scope cl xs fr)(I:Inv X pins σ H s)(B:C=s.heap.objs.size)(t:∀b∈fp,jq X pins H b)(bF:∀b∈fp,b<s.heap.objs.size)
  (g:∀b o,s.heap.get? b=O o->D.get? b=O o)(T:D.Ns C m):Inv (cZ X xs fr scope cl C s H fp) [] (List.replicate xs.length aG++iM σ fr) H {s with heap:=D,toks:=tk}:=by
 have look:=a.sub.look;refine⟨⟨I.ok.mod,a.kind,I.ok.glob,I.ok.blt,by exact B▸Ye _,λy z c d f=>I.ok.inj y z c (look y c d) (look z c f),λy w=>?_,λy c h=>?_,I.ok.hd,I.ok.frames,.inl Y,λb j=>⟨?_,λy c h=>?_⟩,
   I.bs,Yy I.ok.mQ I.sz,λb o e j=>?_,λb j DE=>?_,I.stack,I.BK⟩,
  rfl,I.bare,Un.kept g,⟨m,T,λi y v d f h3=>?_⟩,λy c h=>?_,?_,λy c h=>I.iJ y c (look y c h),λp R=>absurd (show p∈([]:aV) from R) QS,I.ay.kept g,?_⟩
 ·have w:=w;have fin:∀{k:NameKind},(relabel scope X.env).names.lookup y=O k->(k=.cell\/k=.free)->∃c,cl.lookup y=O c:=λ{k} e hk=>by
   obtain⟨Q,G,q⟩:=Gf e;have A:Q=.free:=by
    rcases q with q|q
    ·rcases hk with z|z;·exact absurd (q.symm.trans z) (a.Ct _ G)
     ·exact q.symm.trans z
    ·exact q
   have E:=Wm.mp a.has _ G;rw[A] at E;exact Jl.mp (by simpa using E)
  rcases w with e|e;·exact fin e (.inl Y)
  ·exact fin e (.inr Y)
 ·exact absurd (h) Yn
 ·exact λz=>absurd (bF b j) (by rw[z,B];exact Wi _)
 ·exact(t b j).2.2.2.2.1 y c (look y c h)
 ·obtain⟨_,_,_,z,_⟩:=t b j;rcases z with z|z;·exact I.ok.uu b o e z
  ·have d:=Yv e;have f:=I.ok.mQ;exact absurd (Y6 d (Yy f z)) (Wi _)
 ·have z:=I.Kx b DE;rcases Yp.mp z with z|z;·exact(t b j).2.1 z
  ·exact(t b j).2.2.1 z
 ·by_cases J:i<xs.length;·grind
  ·have d:(xs++fr.map (·.1))[i]?=O y:=d;rw[J3 (X6 J)] at d;rw[J3 (by exact W6▸X6 J),W6] at f;generalize i-xs.length=k at d f;have f:(fr.map λp=>(σ[p.2]?).join)[k]?=O (O v):=f;rw[Yf] at d f;cases e:fr[k]? with
   |none=>rw[e] at d;cases d
   |some p=>
    rw[e] at d f;have e1:p.1=y:=Yo d;have P:(σ[p.2]?).join=O v:=Yo f;have F:=a.cU.get e;rw[e1] at F;have e3:σ[p.2]?=O (O v):=by
     cases q:σ[p.2]? with
     |none=>rw[q] at P;cases P
     |some o=>simp_all
    obtain⟨m0,_,W⟩:=I.loc;have Mv:uI X.env.scope y:=by
     rcases F.out with z|z;·exact .inr (.inl z)
     ·exact .inr (.inr z)
    obtain⟨u,r,l⟩:=W p.2 y v F.ix e3 Mv;refine⟨u,r,.inr ⟨F.uM,?_⟩⟩;obtain⟨c,L⟩:=Jl.mp F.cl;refine⟨c,L,?_⟩;rcases l with⟨n,_⟩|⟨_,c',e',z⟩
    ·rcases F.out with q|q;·rw[q] at n;cases n
     ·rw[q] at n;cases n
    ·have N:=look y c L;rw[e'] at N;cases N;obtain⟨o,x,hd⟩:=z;exact⟨o,g _ _ x,hd⟩
 ·obtain⟨v,o,x,hd⟩:=I.cell y c (look y c h);exact⟨v,o,g _ _ x,hd⟩
 ·exact B▸I.ay.fresh (Ye _)
 ·show(List.replicate xs.length aG++iM σ fr).length=(xs++fr.map (·.1)).length;simp[iM]
abbrev B9(X:Cx)(x:af)(b:Z (af×Nat))(a:Scope)(d:Z (af×U))(C:U)(s:cb)(H:Hp)(c:Z U):Cx:=cZ X [x] b a d C s H c
theorem Zae(I:Nat->cb->Prop)
  (d:∀n s,I n s->wpAny (model prog w) A (pyNext it) (λr i=>match r with
   |none=>R (.ok .next) i
   |some v=>wpAny (model prog w) A (letOwnedTupleGo target it v) (λ_ q=>wpAny (model prog w) A (assign target env v) (λ_ p=>
     wpAny (model prog w) A (forIn ifs ar λc r=>if r=ar then do let ok←isTrue c env (eval c env);pure (ForInStep.yield ok) else pure (ForInStep.yield r)) (λok g=>
      if ok=ar then wpAny (model prog w) A (eval elt env) (λx l=>
       wpAny (model prog w) A (call (.builtin "list.append") [acc,x]) (λ_ k=>∃m,m<n/\I m k) (notedBy (model prog w) A env λe a=>R (.error e) a) l) (notedBy (model prog w) A env λe a=>R (.error e) a) g
      else ∃m,m<n/\I m g) (notedBy (model prog w) A env λe a=>R (.error e) a) p) (notedBy (model prog w) A env λe a=>R (.error e) a) q) (notedBy (model prog w) A env λe a=>R (.error e) a) i) (notedBy (model prog w) A env λe a=>R (.error e) a) s)
  (n:Nat)(h:I n s):codeAny (model prog w) A (.compLoop (.ListComp elt [⟨target,iter,ifs,0⟩] scope pos) 0 it acc env) R s:=by
 refine zX Y I (λn s z=>z9 (bp (m6 (bp (eH (d n s z) (λr i o=>?_) λ_ _ b=>b))))) n h;cases r with
 |none=>exact cR o
 |some v=>
  refine bp (eH o (λ_ q f=>bp (eH f (λ_ p y=>bp (eH y (λok g j=>?_) λ_ _ b=>b)) λ_ _ b=>b)) λ_ _ b=>b);cases ok with
  |false=>exact cR ⟨Y,j⟩
  |true=>
   exact bp (bp (eH j (λx l u=>bp (eH u (λ_ k t=>cR (cR ⟨Y,t⟩)) λ_ _ b=>b)) λ_ _ b=>b))
def xv(X:Cx)(d:Z cV)(t:TT):Prop:=
 ∀(a:aV) (s:cb) (b:St) (H:Hp) (Q:cF->Hp->Prop),Inv X a b H s->t b H Q->
  wpAny X.md X.A (forIn d ar λc r=>if r=ar then do let ok←isTrue c X.env (eval c X.env);pure (ForInStep.yield ok) else pure (ForInStep.yield r)) (TP X a b Q) X.xe s
def CP:TT:=λ_ H Q=>Q ar H
def nI:xv X [] CP:=λ_ _ _ H _ I h=>zE ⟨H,I,h⟩
def wj(h:PT X c t):xv X [c] t:=λa s b H Q I d=>wpAny_tests_one (h a s b H Q I d)
def Kz(n:Nat)(J:It)(o:TG)(l:TT)(p:TE)(g:St)(D:U)(H:Hp)(Q:VK):Prop:=
 ∃W:Nat->Nat->Z V->Hp->Prop,(∃m,W 0 m [] (upd H D (.lst [])))/\∀i m a H,W i m a H->
  (J.stop i H/\Q (.ref D) H)\/(J.go i H/\∃N:Z V->Hp->Prop,(∀h b,N h b->∃e,e<m/\W (i+1) e h b)/\
   ∀v b,J.pI i H v b->∀os:St,os.length=n->o v (os++g) b λd q=>(∃f:St,f.length=n/\d=f++g)/\l d q λc k=>if c=ar then p d k λy j=>j D=O (.lst a)/\a.length<sizeLine/\N (a++[y]) (upd j D (.lst (a++[y]))) else N a k)
def QC{h:Hp}{s2:cb}{I:U}{g:Z U}{x:Nat->cX->Prop}{J:It}{Q:VK}{B:a7->U->Result->cb->Prop}{E:bg}{rest:Z Comprehension}(a:rB X d cl xs fr)
  (I2:Inv X pins σ h s2)(T:Turn X.prog X.w X.K tgt J g I x)(fM:x 0 s2.heap)(l:∀b∈g,jq X pins h b)
  (hR:∀D C G W m,Inv X pins σ W G->G.heap.Ns C m->W C=aG->C≠X.env.locals->X.c6.heap.objs.size<=C->(∀y c,X.env.cells.lookup y=O c->c≠C)->(∀p∈X.pn++pins,p.1≠C)->Q (.ref D) W->B (.ref D) C (.ok .next) G)
  (hl:∀(D C:U) (s:cb) (w:Hp) (r:cb),h D=aG->w=upd h D (.lst [])->Inv (cZ X xs fr d cl C s w g) [] (List.replicate xs.length aG++iM σ fr) w r->x 0 r.heap->(∀b∈g,w b=aG)->
   (∀A Dz F,Inv (cZ X xs fr d cl C s w g) [] Dz F A->Q (.ref D) F->B (.ref D) C (.ok .next) A)->
   codeAny X.md X.A (.compLoop (.ListComp elt (⟨tgt,iter,ifs,0⟩::rest) d pos) 0 (.ref I) (.ref D) (compEnvC d cl C X.env)) (B (.ref D) C) r):
  wpAny X.md X.A (newList []) (λt r=>wpAny X.md X.A (newFunctionEnv d X.env.globals cl [] X.env.qual aG .none (O X.env)) (λnS ju=>
   codeAny X.md X.A (.compStart (.ListComp elt (⟨tgt,iter,ifs,0⟩::rest) d pos) 0 (.ref I) t {nS with scope:=relabel d X.env}) (B t nS.locals) ju) E r) E s2:=by
 refine ui (wpAny_newFunctionEnv a.Ct (by intro y hy;simp at hy) (λiR R P=>?_) a.kind);dsimp only at R P⊢;have j:Inv X pins σ (upd h s2.heap.objs.size (.lst [])) {s2 with heap:=s2.heap.push {cls:=.type "list",dict:=aG,data:=.seq ([]:Z a7).toArray}}:=
  I2.laid (t':=s2.toks) (λb u e=>Yc _ e) (Ye _) ⟨Yw _,[],0,.nil,Yu _ Y⟩
 have N:h s2.heap.objs.size=aG:=I2.ay.fresh (Ye _);have VR:∀b∈g,b<s2.heap.objs.size:=λb f=>by
  refine bh (T.obj _ _ fM b f) λo e _=>?_;exact Yv e
 generalize XD:s2.heap.push {cls:=.type "list",dict:=aG,data:=.seq ([]:Z a7).toArray}=k at R P j⊢;have hC:k.objs.size=s2.heap.objs.size+1:=by rw[←XD,J8]
 have old:∀b o,k.get? b=O o->iR.get? b=O o:=λb o e=>P.extBut b o (Y2 (Yv e)) (Yc _ e);have f3:∀b∈g,jq X pins (upd h s2.heap.objs.size (.lst [])) b:=λb f=>by
  have:=VR b f;exact⟨by rw[aJ (Y2 this)];exact(l b f).1,(l b f).2⟩
 have H:∀b∈g,b<k.objs.size:=λb f=>by
  rw[hC];exact Wr (VR b f)
 have xw:x 0 iR:=T.keep _ _ _ fM λb f o e=>old b o ((λb o e=>XD▸Yc _ e) b o e);have I4:Inv (cZ X xs fr d cl k.objs.size {s2 with heap:=k} (upd h s2.heap.objs.size (.lst [])) g) [] (List.replicate xs.length aG++iM σ fr) (upd h s2.heap.objs.size (.lst [])) {s2 with heap:=iR,toks:=s2.toks+([]:Z (af×a7)).length}:=
  ZdV a j Y f3 H old R
 have i:=hl s2.heap.objs.size k.objs.size {s2 with heap:=k} _ {s2 with heap:=iR,toks:=s2.toks+([]:Z (af×a7)).length} N Y I4 xw (λb f=>(f3 b f).1) λA Dz F n qn=>by
   refine bh n.loc λm L _=>?_;have I7:=j.K_ n.os n.base n.ay n.bare λb f=>⟨(l b f).2.2.2.1,(l b f).2.1,(l b f).2.2.2.2.1,(l b f).2.2.2.2.2⟩;refine hR _ _ A F m I7 L n.free ?_ ?_ (λy c e z=>?_) (λp hp z=>?_) qn;·exact Jh j.lt
   ·exact j.sz
   ·obtain⟨v,q⟩:=j.cell y c e;exact absurd q.lt (by exact z▸Wi _)
   ·exact absurd (Yv (j.pin p hp).1) (by exact z▸Wi _)
 exact codeAny_compStart_list i (T.self _ 0 _ _ _ xw i)
theorem OY{H2:Hp}{s2:cb}{it:U}{g:Z U}{L:Nat->cX->Prop}{J:It}{Q:VK}{RR:a7->U->Result->cb->Prop}{E:bg}
  (hc:X.calm=ar)(a:rB X f cl xs fr)(hg:∀C s H g,PG (cZ X xs fr f cl C s H g) B tg)
  (ht:∀C s H g,xv (cZ X xs fr f cl C s H g) ifs tt)(he:∀C s H g,PE (cZ X xs fr f cl C s H g) elt te)
  (I2:Inv X pins σ H2 s2)(T:Turn X.prog X.w X.K B J g it L)(fM:L 0 s2.heap)(f2:∀b∈g,jq X pins H2 b)
  (hw:∀D,H2 D=aG->Kz xs.length J tg tt te (iM σ fr) D H2 Q)
  (hR:∀D C s1 H1 m,Inv X pins σ H1 s1->s1.heap.Ns C m->H1 C=aG->C≠X.env.locals->X.c6.heap.objs.size<=C->(∀y c,X.env.cells.lookup y=O c->c≠C)->(∀p∈X.pn++pins,p.1≠C)->Q (.ref D) H1->RR (.ref D) C (.ok .next) s1):
  wpAny X.md X.A (newList []) (λG eU=>wpAny X.md X.A (newFunctionEnv f X.env.globals cl [] X.env.qual aG .none (O X.env)) (λnS ju=>
   codeAny X.md X.A (.compStart (.ListComp elt [⟨B,iter,ifs,0⟩] f pos) 0 (.ref it) G {nS with scope:=relabel f X.env}) (RR G nS.locals) ju) E eU) E s2:=by
 refine QC (rest:=[]) a I2 T fM f2 hR λD C s t eU hD e3 I4 xw xk fin=>?_;refine bh (hw D hD) λW jm A=>?_;obtain ⟨m0,w0⟩:=jm;rw[←e3] at w0;refine Zae (λk s'=>∃i l H' os,os.length=xs.length/\Inv (cZ X xs fr f cl C s t g) [] (os++iM σ fr) H' s'/\L i s'.heap/\(∀b∈g,H' b=aG)/\W i k l H') ?_ m0
  ⟨0,[],_,List.replicate xs.length aG,W6,I4,xw,xk,w0⟩
 intro n s5 ZH;refine kA ZH λi l H5 os qV I qU uK w5=>?_;have nQ:∀{H':Hp},(∀b∈g,H' b=aG)->∀b∈g,jq (cZ X xs fr f cl C s t g) [] H' b:=λ{H'} hn b j=>
  ⟨hn b j,(I.ok.sH b j).1,I.ok.r_ b j,.inl j,(I.ok.sH b j).2,λp hp=>absurd (show p∈([]:aV) from hp) QS⟩
 rcases A i n l H5 w5 with⟨F,qn⟩|⟨go,N,hN,step⟩
 ·refine az (T.done (cZ X xs fr f cl C s t g) Y Y Y hc i [] s5 _ H5 _ I (nQ uK) qU F) λr s6 h=>?_;refine hI h λhr I6=>?_;subst hr;exact fin _ _ _ I6 qn
 ·refine az (T.item (cZ X xs fr f cl C s t g) Y Y Y hc i [] s5 _ H5 _ I (nQ uK) qU go) λr s6 h=>?_;refine bh h λu hr h6=>?_;subst hr;refine az h6 λ_ s7 h=>?_;obtain⟨v,H7,I7,r7,y7,uN,MB⟩:=h;have MC:=I7.pinned (nQ MB) (T.obj _ _ uN);refine eH (hg _ _ _ _ _ s7 _ H7 v u _ MC r7 (step v H7 y7 os qV)) (λ_ s8 h=>?_) λ _ _=>False.elim;obtain⟨σ8,H8,I8,⟨lI,LP,e8⟩,q8⟩:=h;subst e8;have again:∀{R:St} {q:Hp} {w:cb} {P:Z V},R.length=xs.length->Inv (cZ X xs fr f cl C s t g) ([]++rX g s7.heap) (R++iM σ fr) q w->N P q->
    ∃m,m<n/\∃i l H' os,os.length=xs.length/\Inv (cZ X xs fr f cl C s t g) [] (os++iM σ fr) H' w/\L i w.heap/\(∀b∈g,H' b=aG)/\W i m l H':=λ{R q w P} l1 x n9=>by
   obtain⟨m',hm,w9⟩:=hN P q n9;refine⟨m',hm,i+1,P,q,R,l1,x.v_,T.keep _ _ _ uN λb j o e=>(x.pin (b,o) (Yg _ (Yg _ (rA j e)))).1,λb j=>?_,w9⟩;obtain⟨o,e,d⟩:=T.obj _ _ uN b j;exact(x.pin (b,o) (Yg _ (Yg _ (rA j e)))).2.1
  refine eH (ht _ _ _ _ _ s8 _ H8 _ I8 q8) (λok w h=>?_) λ _ _=>False.elim;obtain⟨q,x,q9⟩:=h;cases ok with
  |false=>
   rw[bt Yn] at q9⊢;exact again LP x q9
  |true=>
   rw[bR Y];rw[bR Y] at q9;refine eH (he _ _ _ _ _ w _ q _ x q9) (λu1 MD h=>?_) λ _ _=>False.elim;obtain⟨y,qY,ME,r10,hD,hz,qZ⟩:=h;refine eH (yF (X:=cZ X xs fr f cl C s t g) _ MD _ qY (.ref D) [y] _ [u1] (λ_ H'=>N (l++[y]) H') ME Y (.cons r10 .nil) ⟨_,l,y,Y,Y,hD,hz,qZ⟩) (λ_ MF h=>?_) λ_ _ z=>False.elim z;obtain⟨_,z8,DF,_,q11⟩:=h;exact again LP DF q11
def jQ(J:It)(j:TT)(k:TE)(e:St)(D:U)(H:Hp)(Q:VK):Prop:=
 ∃W:Nat->Nat->Z V->Hp->Prop,(∃m,W 0 m [] (upd H D (.lst [])))/\∀i m a H,W i m a H->
  (J.stop i H/\Q (.ref D) H)\/(J.go i H/\∃N:Z V->Hp->Prop,(∀f b,N f b->∃d,d<m/\W (i+1) d f b)/\
   ∀v b,J.pI i H v b->j (O v::e) b λc h=>if c=ar then k (O v::e) h λy g=>g D=O (.lst a)/\a.length<sizeLine/\N (a++[y]) (upd g D (.lst (a++[y]))) else N a h)
section
variable {X:Cx}{G P:cV}{x:af}{w A:Pos}{L:Z cV}{R:Scope}{cl:Z (af×U)}{fr:Z (af×Nat)}{B:TT}{F:TE}{σ:St}
theorem ZdW{f:Hp}{s2:cb}{n:U}{d:Z U}{k:Nat->cX->Prop}{J:It}{Q:VK}{r:a7->U->Result->cb->Prop}{E:bg}
  (hc:X.calm=ar)(a:Bo X R cl x fr)
  (ht:∀C s H d,xv (B9 X x fr R cl C s H d) L B)(he:∀C s H d,PE (B9 X x fr R cl C s H d) G F)
  (I2:Inv X pins σ f s2)(T:Turn X.prog X.w X.K (.Name x w) J d n k)(fM:k 0 s2.heap)(f2:∀b∈d,jq X pins f b)
  (I:∀D,f D=aG->jQ J B F (iM σ fr) D f Q)
  (hR:∀D C g j m,Inv X pins σ j g->g.heap.Ns C m->j C=aG->C≠X.env.locals->X.c6.heap.objs.size<=C->(∀y c,X.env.cells.lookup y=O c->c≠C)->(∀p∈X.pn++pins,p.1≠C)->Q (.ref D) j->r (.ref D) C (.ok .next) g):
  wpAny X.md X.A (newList []) (λe eU=>wpAny X.md X.A (newFunctionEnv R X.env.globals cl [] X.env.qual aG .none (O X.env)) (λl u=>
   codeAny X.md X.A (.compStart (.ListComp G [⟨.Name x w,P,L,0⟩] R A) 0 (.ref n) e {l with scope:=relabel R X.env}) (r e l.locals) u) E eU) E s2:=by
 refine OY (xs:=[x]) hc ⟨a.zD,a.sub,a.kind,a.names,a.Ct,a.has,a.cU,a.nd⟩ (λC s H d=>rM (i:=0) a.nd Y (.inl (MZ a.lx)) (.inr (MZ a.lx))) ht he I2 T fM f2 (λD hD=>?_) hR;refine bh (I D hD) λW h0 h=>?_;refine⟨W,h0,λi m t H p=>?_⟩;rcases h i m t H p with z|⟨z,N,hN,q⟩;·exact .inl z
 ·refine .inr ⟨z,N,hN,λv H' y os hl=>?_⟩;match os,hl with
  |[o],_=>exact⟨⟨[O v],Y,Y⟩,q v H' y⟩
def Zjz(b:TI)(fr:Z (af×Nat))(B:TT)(F:TE):TE:=λσ H Q=>b σ H λJ a=>∀D,a D=aG->jQ J B F (iM σ fr) D a Q
def jj(o:X.calm=ar)(a:Bo X R cl x fr)(l:PI X (.Name x w) P c)
  (i:∀C s H fp,xv (B9 X x fr R cl C s H fp) L B)(n:∀C s H fp,PE (B9 X x fr R cl C s H fp) G F)
  (j:∀x,foldedSetIterable P X.env x=pure x:=by intro _;rfl):PE X (.ListComp G [⟨.Name x w,P,L,0⟩] R A) (Zjz c fr B F):=by
 intro b s σ H Q I h;refine xB Y j a.zD a.kind a.names (az (l b s σ H _ I h) λv d r=>az r λxh s2 p=>?_);obtain⟨it,fp,tn,J,H2,e,I2,T,t,E,g⟩:=p;subst e;refine ZdW o a i n I2 T t E g ?_;intro D C d H1 m I1 k W N z y u q;exact⟨m,k,λh' f=>⟨.ref D,H1,I1.turned f.extBut W N (.inr z) y u,Y,q⟩⟩
end
def Iw{K:ag}(d:Nat->Z V->Hp->Prop)(s:d 0 [] (upd H D (.lst [])))(o:∀i b H,i<=xs.length->d i b H->aj K H a xs)
  (u:∀i v b H,xs[i]?=O v->d i b H->tt (O v::h) H λc k=>if c=ar then l (O v::h) k λy j=>j D=O (.lst b)/\b.length<sizeLine/\d (i+1) (b++[y]) (upd j D (.lst (b++[y]))) else d (i+1) b k)
  (r:∀b H,d xs.length b H->Q (.ref D) H):jQ (kF K a) tt l h D H Q:=by
 refine⟨λi m b H=>m=xs.length-i/\i<=xs.length/\d i b H,⟨xs.length,QS,Yw _,s⟩,?_⟩;intro i m b H A;refine c7 A λz g p=>?_;subst z;have q:=o i b H g p;by_cases f:i<xs.length
 ·refine .inr ⟨⟨xs,xs[i],q,by simp[f]⟩,d (i+1),λw t n=>⟨xs.length-(i+1),QO,Y,f,n⟩,λx t y=>?_⟩;refine hI y λe y=>?_
  grind
 ·have e:=(i6 g (fb f))
  subst e;exact .inl ⟨⟨xs,q,Ye _⟩,r b H p⟩
def BA{K:ag}(d:Nat->Z V->Hp->Prop)(s:d 0 [] (upd H D (.lst [])))(o:∀i b H,i<=xs.length->d i b H->aC K H a xs)
  (u:∀i v b H,xs[i]?=O v->d i b H->tt (O v::h) H λc k=>if c=ar then l (O v::h) k λy j=>j D=O (.lst b)/\b.length<sizeLine/\d (i+1) (b++[y]) (upd j D (.lst (b++[y]))) else d (i+1) b k)
  (r:∀b H,d xs.length b H->Q (.ref D) H):jQ (qS K a) tt l h D H Q:=by
 refine⟨λi m b H=>m=xs.length-i/\i<=xs.length/\d i b H,⟨xs.length,QS,Yw _,s⟩,?_⟩;intro i m b H A;refine c7 A λz g p=>?_;subst z;have q:=o i b H g p;by_cases f:i<xs.length
 ·refine .inr ⟨⟨xs,xs[i],q,by simp[f]⟩,d (i+1),λw t n=>⟨xs.length-(i+1),QO,Y,f,n⟩,λx t y=>?_⟩;refine hI y λe y=>?_
  grind
 ·have e:=(i6 g (fb f))
  subst e;exact .inl ⟨⟨xs,q,Ye _⟩,r b H p⟩
def yz{lo:Int}{n:Nat}{g:TT}{h:TE}{d:St}{D:U}{H:Hp}{Q:VK}(b:Nat->Z V->Hp->Prop)(r:b 0 [] (upd H D (.lst [])))
  (t:∀i a H,i<n->b i a H->g (O (.int (lo+i))::d) H λc k=>if c=ar then h (O (.int (lo+i))::d) k λy j=>j D=O (.lst a)/\a.length<sizeLine/\b (i+1) (a++[y]) (upd j D (.lst (a++[y]))) else b (i+1) a k)
  (q:∀a H,b n a H->Q (.ref D) H):jQ (qT lo n) g h d D H Q:=by
 refine⟨λi m a H=>m=n-i/\i<=n/\b i a H,⟨n,QS,Yw _,r⟩,?_⟩;intro i m a H w;refine c7 w λv o p=>?_;subst v;by_cases f:i<n
 ·refine .inr ⟨f,b (i+1),λu s l=>⟨n-(i+1),QO,Y,f,l⟩,λx s y=>?_⟩;refine hI y λe y=>?_
  simp_all
 ·have e:=(i6 o (fb f))
  subst e;exact .inl ⟨Ye _,q a H p⟩
def Zkt(K:ag)(e:TE):TI:=λd H R=>e d H λx b=>∃a,x=.ref a/\((∃c,aj K b a c)/\R (kF K a) b\/(∃c,aC K b a c)/\R (qS K a) b)
def Zh4(z:PE X l t):PI X B l (Zkt X.K t):=by
 intro f s m H R I h;refine az (z f s m H _ I h) λv d n=>?_;obtain⟨x,k,c,w,g⟩:=n;obtain⟨a,e,g⟩:=g;subst e;cases w;rcases g with⟨⟨r,i⟩,q⟩|⟨⟨r,i⟩,q⟩
 ·obtain⟨A,u,p,y⟩:=c.list i;refine vd p.isList ⟨d.heap.objs.size,[d.heap.objs.size],_,_,k,Y,c.kept λ b o=>Yc _,PF a _,⟨_,Yu _ Y,Y,Y⟩,λb j=>?_,q⟩;have e:b=d.heap.objs.size:=by simpa using j
  subst e;exact c.se (Ye _) (c.ay.fresh (Ye _))
 ·obtain⟨A,u,p,y⟩:=c.tuple i;refine yx p ⟨d.heap.objs.size,[d.heap.objs.size],_,_,k,Y,c.kept λ b o=>Yc _,OV a _,⟨_,Yu _ Y,Y,Y⟩,λb j=>?_,q⟩;have e:b=d.heap.objs.size:=by simpa using j
  subst e;exact c.se (Ye _) (c.ay.fresh (Ye _))
theorem GF:∀{a:Z V} {b:Z a7},a.length=b.length->(∀(i:Nat) (x:V) (u:a7),a[i]?=O x->b[i]?=O u->RelV x u)->Vals a b
 |[],[],_,_=>.nil
 |[],_::_,h,_=>by simp at h
 |_::_,[],h,_=>by simp at h
 |x::a,u::b,h,k=>.cons (k 0 x u Y Y) (GF (by simpa using h) λi y w d c=>k (i+1) y w (by simpa using d) (by simpa using c))
theorem OZ:∀{bs:Z cF} {a:Z a7},Vals (bs.map V.bl) a->a=bs.map Value.bool:=by
 intro bs;induction bs with
 |nil=>intro a r;cases r;rfl
 |cons b bs c=>
  intro a r;rw[Wv] at r;cases r with
  |cons r t=>
   have d:=r;rw[d,c t];rfl
noncomputable def bK(n:Nat):Z Int:=(List.range n).map λi:Nat=>(i:Int)
def fR(n:Nat):(bK n).length=n:=by simp[bK]
def nH(h:i<n):(bK n)[i]?=O (i:Int):=by
 unfold bK
 simp_all
def ZeX(a:Z cF):(List.range a.length).any (λi=>a.getD i a_)=a.any id:=by
 rw[Wn,J9,J9];constructor
 ·rintro⟨i,c,d⟩;rw[Wk] at c;have e:a.getD i a_=a[i]:=by rw[Yd,Yb c];rfl
  rw[e] at d;exact⟨a[i],Wo c,d⟩
 ·rintro⟨b,d,e⟩;obtain⟨i,c,rfl⟩:=W1.mp d;refine⟨i,Wk.mpr c,?_⟩
  simp_all
def ZeY(c:Z cF):(List.range c.length).all (λi=>c.getD i a_)=c.all id:=by
 rw[Wn,Wm,Wm];constructor
 ·intro h b d;obtain⟨i,a,rfl⟩:=W1.mp d;simp_all
 ·intro h i a;rw[Wk] at a;rw[Yd,Yb a];exact h _ (Wo a)
def Zb8:∀{a b:Z Int},a.length=b.length->(List.range a.length).all (λj=>a.getD j 0==b.getD j 0)=decide (a=b):=by
 intro a b c;rw[Wn,Wm,hU];constructor
 ·intro h;refine List.ext_getElem c λi e d=>?_;simp_all
 ·grind
section
variable {X:Cx}
def VS(K:ag):Z V->Hp->VK->Prop:=λa H Q=>∃(p:U) (bs:Z cF),a=[.ref p]/\aj K H p (bs.map V.bl)/\Q (.bl (bs.any id)) H
def VT(K:ag):Z V->Hp->VK->Prop:=λa H Q=>∃(p:U) (bs:Z cF),a=[.ref p]/\aj K H p (bs.map V.bl)/\Q (.bl (bs.all id)) H
theorem ZaS(l:X.calm=ar):de X (.builtin "any") (VS X.K):=by
 intro d s w H x y Q I r L;refine gR L λp bs J j q=>?_;subst J;obtain⟨u,rfl,f⟩:=vals1 r;cases f;obtain⟨E,g,h,B⟩:=I.list j;have e:=OZ g;subst e;have c:=h.isList;have t:p<s.heap.objs.size:=by obtain⟨_,e,_⟩:=c;exact Yv e
 refine call_any_walk (vd c ⟨s.heap.objs.size,_,_,_,_,_,λi=>bs.getD i a_,Y,Walks.list (show X.A.in1.handled=aG from I.ok.hd l) s.heap.objs.size p (Y2 t) (bs.map Value.bool).toArray,⟨⟨_,Yu _ Y,Y,Y⟩,c.push _⟩,?_,λD z k=>?_⟩)
 ·intro i v A F G m C;have a:(bs.map Value.bool)[i]?=O v:=by simpa using m
  rw[Yf] at a;cases e:bs[i]? with
  |none=>simp_all
  |some b=>
   rw[e] at a;have n:=Yo a;subst n;refine oD ?_
   simp_all
 ·refine⟨.bl (bs.any id),H,I.kept (λb o e=>k b o (by simpa using Y2 (Yv e)) (Yc _ e)),?_,q⟩;show Value.bool _=Value.bool _;have e:(bs.map Value.bool).toArray.size=bs.length:=QS
  rw[e,ZeX]
theorem ZaT(l:X.calm=ar):de X (.builtin "all") (VT X.K):=by
 intro d s w H x y Q I r N;refine gR N λp bs J j q=>?_;subst J;refine bh (vals1 r) λu L f=>?_;subst L;cases f;refine cu (I.list j) λE g h B=>?_;have e:=OZ g;subst e;have c:=h.isList;have t:p<s.heap.objs.size:=by obtain⟨_,e,_⟩:=c;exact Yv e
 refine call_all_walk (vd c ⟨s.heap.objs.size,_,_,_,_,_,λi=>bs.getD i a_,Y,Walks.list (show X.A.in1.handled=aG from I.ok.hd l) s.heap.objs.size p (Y2 t) (bs.map Value.bool).toArray,⟨⟨_,Yu _ Y,Y,Y⟩,c.push _⟩,?_,λD z k=>?_⟩)
 ·intro i v A F G m C;have a:(bs.map Value.bool)[i]?=O v:=by simpa using m
  rw[Yf] at a;cases e:bs[i]? with
  |none=>simp_all
  |some b=>
   rw[e] at a;have n:=Yo a;subst n;refine oD ?_
   simp_all
 ·refine⟨.bl (bs.all id),H,I.kept (λb o e=>k b o (by simpa using Y2 (Yv e)) (Yc _ e)),?_,q⟩;show Value.bool _=Value.bool _;have e:(bs.map Value.bool).toArray.size=bs.length:=QS
  rw[e,ZeY]
inductive Tw(K:ag)(a:Z V)(H:Hp)(Q:VK):Prop
 |mk (x:V) (t:a7) (c:String) (b:cF) (g:a=[x,.ty c]) (f:jU K H x t) (d:kitOne K t (.type c)=O b) (e:Q (.bl b) H):Tw K a H Q
def CQ(K:ag):Z V->Hp->VK->Prop:=λa H Q=>Tw K a H Q
def Zb9:de X (.builtin "isinstance") (CQ X.K):=by
 rintro a s h H i k Q I r ⟨x,t,c,b,rfl,ty,e,q⟩;refine gR (vals2 r) λu j l g f=>?_;subst l;cases f;exact ZdP I g ty e λd=>⟨.bl b,H,I.tok d,Y,q⟩
def O0(t:T="list"\/T="tuple")
  (m:s.heap.get? l=O o)(r:o.cls=.type T)(q:o.data=.seq au.toArray n)(u:IntsAre au ns)(x:au.length<64)(f:au.toArray.size<=sizeLine)
  (h:∀(a g:cX) (out:dg a7) (c:Z Int) (e:Nat),(∀b o,s.heap.get? b=O o->a.get? b=O o)->(∀b o,a.get? b=O o->g.get? b=O o)->g.get? a.objs.size=O (seqObj "list" out e)->IntsAre out.toList c->c.Perm ns->c.Pairwise (·<=·)->Q (.ref a.objs.size) {s with heap:=g}):
  wpAny (model prog w) A (call (.builtin "sorted") [.ref l]) Q E s:=by
 refine xt kind_sorted plain_sorted entry_sorted (args_sorted1 _) (bp (cR ?_));refine bp (y0 l t m r q (λa k=>bp (s_ ?_)) f);have v:au.toArray.toList=au:=QS
 rw[v];have d:(a.push (seqObj "list" au.toArray 0)).get? a.objs.size=O (seqObj "list" au.toArray 0):=Yu _ Y;refine bp (k8 (sU slot_list_sort ⟨_,d,Y⟩ entry_list_sort (list_sort_tree d u x λout c B z y=>⟨_,Y,?_⟩) (args_list_sort _)));obtain⟨e,p⟩:=sortedHeap_at d;exact cR ⟨_,Y,h a _ out c e k (λb C j=>by
  have i:=Yv j;rw[sortedHeap_old (Y2 i) (by rw[size_push'];exact Wr i),J1 _ _ _ (Y2 i)];exact j) p B z y⟩
def Kb(K:ag):Z V->Hp->VK->Prop:=λc H Q=>∃(p:U) (a:Z Int),c=[.ref p]/\(aj K H p (a.map V.int)\/aC K H p (a.map V.int))/\a.length<64/\
  ∀(l:U) (b:Z Int),H l=aG->b.Perm a->b.Pairwise (·<=·)->Q (.ref l) (upd H l (.lst (b.map V.int)))
def OJ:de X (.builtin "sorted") (Kb X.K):=by
 intro f s w H F G Q I r N;refine d5 N λp z L g J q=>?_;subst L;obtain⟨u,rfl,y⟩:=vals1 r;cases y;have fin:∀(a h:cX) (out:dg a7) (c:Z Int) (e:Nat),(∀b o,s.heap.get? b=O o->a.get? b=O o)->(∀b o,a.get? b=O o->h.get? b=O o)->h.get? a.objs.size=O (seqObj "list" out e)->IntsAre out.toList c->c.Perm z->c.Pairwise (·<=·)->
   EP X f w Q (.ref a.objs.size) {s with heap:=h}:=λa h out c e A x B E t D=>by
  have v:=I.kept (t':=s.toks) A;refine⟨.ref a.objs.size,_,v.laid (o:=.lst (c.map V.int)) x (Ye _) ⟨?_,out.toList,e,Bn E,by simpa[seqObj] using B⟩,Y,q _ c (v.ay.fresh (Ye _)) t D⟩;rw[Ya,t.length_eq];exact Jx (kQ (nV (m9 J (by decide))))
 rcases g with g|g
 ·obtain⟨C,d,i,j⟩:=I.list g;obtain⟨o,n,k,m,_,hd⟩:=i;have l:=d.length;rw[Ya] at l;rw[Ya] at j;exact O0 (.inl Y) k m hd (intsAre_of d) QO (by rw[Yt];omega) fin
 ·obtain⟨C,d,i,j⟩:=I.tuple g;obtain⟨o,k,m,n,hd⟩:=i;have l:=d.length;rw[Ya] at l;rw[Ya] at j;exact O0 (.inr Y) k m hd (intsAre_of d) QO (by rw[Yt];omega) fin
def R3:Z V->Hp->VK->Prop:=λa H Q=>∃j:Int,a=[.int j]/\∀p:U,H p=aG->Q (.ref p) (upd H p (.kC 0 j))
def QE:Z V->Hp->VK->Prop:=λa H Q=>∃(p:U) (n:Nat),a=[.ref p]/\H p=O (.kC 0 (n:Int))/\n<=1000/\∀l:U,H l=aG->Q (.ref l) (upd H l (.lst ((bK n).map V.int)))
def zG(K:ag):Z V->Hp->VK->Prop:=λb H Q=>∃(p:U) (a:Z V),b=[.ref p]/\(aj K H p a\/aC K H p a)/\Q (.int a.length) H
def ZcU:de X (.builtin "len") (zG X.K):=OE
def A5:de X (.type "range") R3:=by
 rintro a s c H d f Q I r ⟨j,rfl,q⟩;obtain⟨u,rfl,t,rfl⟩:=vals1 r;exact call_range_1 ⟨.ref s.heap.objs.size,_,I.laid (o:=.kC 0 j) (λb o e=>Yc _ e) (Ye _) ⟨_,_,_,Yu _ Y⟩,Y,q _ (I.ay.fresh (Ye _))⟩
def FY(w:X.calm=ar):de X (.type "list") QE:=by
 intro d s B H C D Q I r J;refine d5 J λp n G j e q=>?_;subst G;obtain⟨u,rfl,h⟩:=vals1 r;cases h;obtain⟨t,u,v,k⟩:=I.ay p _ j;refine call_list_range (I.ok.hd w) k (Ag (by decide) (by decide) QO QO) (by rw[zS];split<;>omega) (gm e (by decide)) λF E c A l a f=>⟨.ref s.heap.objs.size,_,I.laid (o:=.lst ((bK n).map V.int)) l (Ye _) ⟨?_,c.toList,A,?_,by simpa using a⟩,Y,q _ (I.ay.fresh (Ye _))⟩
 ·rw[Ya,fR];exact Jx (kQ e)
 ·refine GF (by rw[Ya,fR];simp[f.1]) λi x u b z=>?_;obtain⟨g,rfl⟩:=f.2 i u (by simpa using z);have m:i<n:=by
   have:=(Yh.mp b).1;rw[Ya,fR] at this;exact this
  rw[Yf,nH m] at b;have y:=Yo b;subst y;exact⟨g,by rw[show(0:Int)+(i:Int)*1=(i:Int) by omega]⟩
def R4{a:Z Int}(r:Vals (a.map V.int) b)(h:j<b.length):∃t,b[j]=.int (a.getD j 0) t:=by
 have c:=r.length;rw[Ya] at c;have d:j<a.length:=QO
 obtain⟨u,e,t,rfl⟩:=r.get (by rw[Yf,Yb d];rfl)
 simp_all
def VW(K:ag)(b:cF):R2:=λx y H Q=>∃(p q:U) (a c:Z Int),x=.ref p/\y=.ref q/\aj K H p (a.map V.int)/\aj K H q (c.map V.int)/\Q (.bl (if b=ar then !decide (a=c) else decide (a=c))) H
def Tx(o:X.A.units<cLine):cK X (compareOp .Eq) (VW X.K a_):=by
 intro i s G H x y v u Q I z w R;refine kA R λp q a b P N d c k=>?_;subst P;subst N;cases z;cases w;refine cu (I.list d) λF h m L=>?_;refine cu (I.list c) λB g l J=>?_;have n:=h.length;have A:=g.length;rw[Ya] at n A;by_cases C:a.length=b.length
 ·refine YP (e:=λj=>a.getD j 0==b.getD j 0) m.isList l.isList (by simp;omega) o (λj d c=>?_) (cP I k ?_)
  ·obtain⟨t,E⟩:=R4 h (by simpa using d);obtain⟨t',D⟩:=R4 g (by simpa using c);have r:F.toArray[j]=.int (a.getD j 0) t:=by simpa using E
   have f:B.toArray[j]=.int (b.getD j 0) t':=by simpa using D
   rw[r,f];exact va _ _ _ _
  ·rw[bt Yn,Yt,←n,Zb8 C]
 ·refine EF m.isList l.isList (by simp;omega) o (cP I k ?_)
  grind
def fW(a:St->Hp->Prop)(e:∀c:St->Hp->Prop,(∀b H,a b H->c b H)->t {D with nx:=c} b H)(d:∀b H,a b H->u D b H):zy t u D b H:=e _ d
def mG(d:Gl X x)(c:X.mg x=aG)(a:bootBuiltins x=O (.type T))(b:x≠"__name__":=by decide)(e:(x==("__debug__":af))=a_:=by decide):PE X (.Name x pos) (tC (.ty T)):=Zgf d c a Y b e
end
def HasFn(P:dC)(w:dm)(K:ag)(c:aR)(a:cX)(k:Nat)(x:af)(b:Z af)(e:Sp):Prop:=
 ∃f d,aE P w K c a aO k f d b e/\Binds K d b []/\keepIn K (.ref f)=ar/\c x=O (.ref f)
section
variable {K:ag}{X:Cx}{k j:Nat}{W:Sp}{x:af}{ps:Z af}
def Lf(h:HasFn X.prog X.w X.K X.mg X.base k x ps W)(c:cA j X.A)(d:k<=j)(g:Gl X x)(l:PA X (e::es) t)
  (n:(x==("__debug__":af))=a_:=by decide)(i:i8 X e es:=by rfl)(o:jw X pos es:=by rfl):
  PE X (.Call (.Name x p) (e::es) [] pos) (Cr W [] E0 t):=by
 refine d5 h λf q F b a m=>?_;exact Zgi F (c.mono d) g m a b .nil wC l n i o
def cE(h:H p=aG)(o:HO):ah H (upd H p o):=λb u q=>by rwa[aJ (bU q h)]
def ah.j9(e:ah H b)(h:aC K H a xs):aC K b a xs:=by
 rcases h with(h|⟨o,h⟩)|h;·exact .inl (.inl (e _ _ h))
 ·exact .inl (.inr ⟨o,e _ _ h⟩)
 ·exact .inr h
def ZeZ(h:X.K=K):jx X (wK K):=h▸Ka
def Zgs(h:X.K=K):jx X (CM K):=h▸Tr
def Zgt(h:X.K=K):de X (.builtin "isinstance") (CQ K):=h▸Zb9
def Zkv(h:X.K=K):de X (.builtin "len") (zG K):=h▸ZcU
def mJ(h:Q ar H):CP σ H Q:=h
def aX(h:n σ H):UR ⟨n,a,bk,b⟩ σ H:=h
def kr(d:St->Hp->Prop)(h:∀f:St->Hp->Prop,(∀e H,d e H->f e H)->LB c a b {D with nx:=f} e H)(g:∀e H,d e H->u D e H):zy (LB c a b) u D e H:=h _ g
def Zh5(x:Int)(c:0<m)(d:m<=2^62):-(2^64)<x % m/\x % m<2^64:=by
 have a:=W7 x (MG c);have b:=W0 x c;omega
theorem O1:∀(l:Z α) (k:Nat) (h:k<l.length),l.Perm (l[k]::l.eraseIdx k)
 |[],k,h=>absurd h (Wt k)
 |a::r,0,_=>sZ _
 |a::r,k+1,h=>(List.Perm.cons a (O1 r k (KC h))).trans (List.Perm.swap _ _ _)
theorem PQ(f:α->β):∀(l:Z α) (k:Nat),(l.map f).eraseIdx k=(l.eraseIdx k).map f
 |[],_=>rfl
 |_::_,0=>rfl
 |a::r,k+1=>by
  show f a::(r.map f).eraseIdx k=f a::(r.eraseIdx k).map f;rw[PQ f r k]
def KD{n:Nat}{i:Int}(b:0<=i)(a:i<n):eP n i=O i.toNat:=by
 unfold eP
 simp_all
def oU{a:Z Int}{i:Int}(b:0<=i)(c:i<a.length):dN (a.map V.int) i=O (.int (a.getD i.toNat 0)):=by
 have e:=(nO (wh b))
 rw[e];refine dM ?_
 grind
theorem mw{a:Z Int}{i:Nat}{y:V}(h:(a.map V.int)[i]?=O y):∃z,y=.int z/\a[i]?=O z:=by
 rw[Yf] at h;cases e:a[i]? with
 |none=>simp_all
 |some z=>simp_all
def QF(a:Z Int)(z:Int):a.map V.int++[V.int z]=(a++[z]).map V.int:=QS
def IY(a:Z Int)(b c:bS Int):∃d:Z Int,k9 (a.map V.int) b c=d.map V.int:=by
 refine⟨(a.drop (HT.cv a.length 0 b)).take (HT.cv a.length a.length c-HT.cv a.length 0 b),?_⟩;unfold k9;simp_all
end
def Tz:bootBuiltins "abs"=O (.builtin "abs"):=QK
def Zh6:bootBuiltins "any"=O (.builtin "any"):=QK
def TB:bootBuiltins "all"=O (.builtin "all"):=QK
def B_:bootBuiltins "len"=O (.builtin "len"):=QK
def TC:bootBuiltins "min"=O (.builtin "min"):=QK
def yG:bootBuiltins "sorted"=O (.builtin "sorted"):=QK
def FZ:bootBuiltins "isinstance"=O (.builtin "isinstance"):=QK
def tV:bootBuiltins "list"=O (.type "list"):=QK
def oH:bootBuiltins "tuple"=O (.type "tuple"):=QK
def wb:bootBuiltins "range"=O (.type "range"):=QK
def BQ:bootBuiltins "bool"=O (.type "bool"):=QK
def TH:bootBuiltins "int"=O (.type "int"):=QK
def za:bootBuiltins "str"=O (.type "str"):=QK
def Bd(d p:Int):Prop:=0<=d/\d<p
inductive QH(K:ag)(b:Z V)(H:Hp)(Q:VK):Prop
 |mk (a:U) (d:Z Int) (k:Int) (h:b=[.ref a,.int k]) (g:aj K H a (d.map V.int)) (e:0<=k) (f:∀c:Int,Q (.int c) H):QH K b H Q
def TK(K:ag):Sp:=λa H Q _=>QH K a H Q
inductive PR(K:ag)(e:Z V)(H:Hp)(Q:VK):Prop
 |mk (c:Int) (a:U) (b:Z Int) (j:e=[.int c,.ref a]) (i:aj K H a (b.map V.int)) (g:(∀p∈b,0<p/\p<1073741824)) (h:b.length<=60) (f:∀(l:U) (ds:Z Int) (d:Hp),H l=aG->ah H d->d l=O (.lst (ds.map V.int))->Paired Bd ds b->Q (.ref l) d):PR K e H Q
def yR(K:ag):Sp:=λa H Q _=>PR K a H Q
inductive QI(b:Z V)(H:Hp)(Q:VK):Prop
 |mk (c:Int) (n:Nat) (g:b=[.int c,.int (n:Int)]) (f:n<=60) (e:∀(t:U) (d:Z Int) (a:Hp),H t=aG->ah H a->a t=O (.tup (d.map V.int))->d.Perm (bK n)->Q (.ref t) a):QI b H Q
def TL:Sp:=λa H Q _=>QI a H Q
def R5(h:PE X o to)(j:PE X i d)(g:uw X t)(k:PE X e f)
  (p:swapsWithSole [.Subscript o i a] e pos.line X.env=pure a_:=by rfl)(n:swappedStores [.Subscript o i a] e X.env=pure aG:=QR)
  (m:(assignEach [.Subscript o i a] X.env).map (·.2)=[assign (.Subscript o i a) X.env]:=QR)
  (l:∀v,assign (.Subscript o i a) X.env v=(do
   let b←holding [v] (eval o X.env);let c←holding [v,b] (eval i X.env)
   standAt a
   holding [v,b,c] (setItem b c v)
   release [v,b,c] []):=by intro _;rfl):PS X (.Assign [.Subscript o i a] e pos) (wJ f (VM to d t)):=mC k (ZhT h j g l) p n m
def ib(h:cX)(a C:U)(d:bS U)(c:dg a7):Prop:=∃b:Obj,h.get? a=O b/\b.cls=.ref C/\b.dict=d/\b.data=.fields c/\1<c.size
noncomputable def xo(a C:U)(d:bS U):HO:=.ext λh=>∃b,ib h a C d b
def N0(a:dg a7):Prop:=a[1]?=O Value.none/\a[2]?=O Value.none/\a.size=6
noncomputable def xn(a C:U)(d:bS U):HO:=.ext λh=>∃b,ib h a C d b/\N0 b
def ib.keep(x:ib f a C d vs)(k:∀o,f.get? a=O o->c.get? a=O o):ib c a C d vs:=by
 refine bh x λb e r=>?_;exact⟨b,k _ e,r⟩
def UY(x:ib h a C d c):cM P w H h a (xo a C d):=
 ⟨⟨c,x⟩,let⟨f,e,_⟩:=x;⟨f,e⟩,λ_ _ ⟨b,y⟩ k=>⟨b,y.keep k⟩⟩
def Lg(x:ib h a C d vs)(z:N0 vs):cM P w H h a (xn a C d):=
 ⟨⟨vs,x,z⟩,let⟨c,e,_⟩:=x;⟨c,e⟩,λ_ _ ⟨b,y,q⟩ k=>⟨b,y.keep k,q⟩⟩
def TM(b:dv P w H h)(e:H a=O (xo a C d)):∃vs,ib h a C d vs:=(b a _ e).1
def Ca(b:dv P w H h)(e:H a=O (xn a C d)):∃vs,ib h a C d vs/\N0 vs:=(b a _ e).1
def xx(d:Nat)(H:Hp)(h:cX)(a:dg a7):Prop:=
 a[1]?=O Value.none\/∃T c b,a[1]?=O (Value.ref T)/\d<=T/\H T=aG/\h.get? T=O c/\c.data=.fields b/\b[3]?=O Value.none
def jy(b:cF)(P:dC)(w:dm):lE:=λc H s E e f=>∃(a C d:U) (g:Hp) (h:dg a7),e=.ref a/\s.heap.objs.size<=a/\f.os=s.os/\AllBare f.gens/\Un (cU c) [] H g s.heap f.heap/\dv P w g f.heap/\
 g a=O (xo a C (O d))/\ib f.heap a C (O d) h/\(xx s.heap.objs.size g f.heap h/\(b=ar->h[2]?=O Value.none))/\E (.ref C) (O d) g
abbrev oa:=jy ar
section
variable {M:Model}{A:gb}{X:bg}{s:cb}
def PU{l:cX}{d:Env}{a:Z Env}{L e:U}{v:Obj}{p:dg a7}{g:a7}{b0:cF}{Q:Unit->cb->Prop}
  (fr:A.frames=O (d::a))(H:s.heap.FunFrames l (d::a))(hL:d.frame=O L)(m:s.heap.get? e=O v)(f:v.data=.fields p)(F:1<p.size)
  (k:∀i T D,(∀b o,b≠e->b∉cU (d::a)->s.heap.get? b=O o->i.get? b=O o)->(∀b o,b∈cU (d::a)->s.heap.get? b=O o->∃t,i.get? b=O {o with slots:=t})->
   i.get? e=O {v with data:=.fields (p.setIfInBounds 1 (.ref T))}->s.heap.objs.size<=T->T≠e->i.get? T=O {cls:=.type "traceback",dict:=aG,data:=.fields D}->D[3]?=O Value.none->Q () {s with heap:=i}):
  wpAny M A (do let fo←frameOf d;let u←entryPlaceOf L b0;let en←EntryCells.newEntry g fo .none (rawInt L) .none u;setField (.ref e) 1 en) (λ_ R=>wpAny M A (setFlight (.ref e) aG) Q X R) X s:=by
 have out:e∉cU (d::a):=λz=>by
  obtain⟨_,o,q,W⟩:=H.mem z;rw[m] at q;cases q;exact W p f
 refine bp (wpAny_frameOf_fun fr H hL λh r=>bp (wpAny_entryPlaceOf λu ip=>?_));unfold EntryCells.newEntry newFields;refine bp (ui ?_ (ip.sizeOk5 _ _ _ _ _));generalize w:([g,Value.ref L,Value.none,rawInt L,Value.none]++(if u.isEmpty=ar then List.replicate 6 Value.none else u)).toArray=n;have G:3<n.size:=by
  rw[←w,Yt,Yl];simp[Wh,XE];exact QdS _ (by decide)
 have N:=(r.2.1 e out).trans m;have lt:=Yv N;have J:=Yc {cls:=.type "traceback",dict:=aG,data:=.fields n} N;refine uO J f F ?_;have P:=yC f (·.setIfInBounds 1 (Value.ref h.objs.size));have I:=Wp (Obj.mapFields (·.setIfInBounds 1 (Value.ref h.objs.size))) J (xI P);have E:=(Wf (h.push {cls:=.type "traceback",dict:=aG,data:=.fields n}) (Obj.mapFields (·.setIfInBounds 1 (Value.ref h.objs.size))) (Y2 lt)).trans (Yu h Y);unfold setFlight;refine bp (pX I P (x:=.ref h.objs.size) (by simp[F]) ?_);rw[bR QS];refine uO E Y G (k _ h.objs.size (n.setIfInBounds 3 Value.none) ?_ ?_ ?_ (xl r.1.symm) (Jh lt) ?_ (by simp[G]))
 ·intro b o C B y;have j:=(r.2.1 b B).trans y;rw[Wf _ _ (Jh (Yv j)),Wf _ _ (kK C)];exact Yc _ j
 ·intro b o B y;obtain⟨t,j⟩:=r.2.2 b o y;have C:b≠e:=λz=>out (z▸B);refine⟨t,?_⟩;rw[Wf _ _ (Jh (Yv j)),Wf _ _ (kK C)];exact Yc _ j
 ·rw[Wf _ _ (Jh lt),I];obtain⟨c,dd,da,t⟩:=v;cases f;rfl
 ·exact Wp _ E (xI (yC Y _))
end
theorem R6
  (fr:A.frames=O (env::outer))(k_:s1.heap.FunFrames base (env::outer))(B:∀b∈cU (env::outer),H1 b=aG)(hL:env.frame=O L)(cx:jy b P w (env::outer) H1 s1 E e s')
  (k:∀s3,jy b P w (env::outer) H1 s1 E e s3->Q () s3):
  wpAny (model P w) A (noteFrame e env) (λ_ s2=>wpAny (model P w) A (setFlight e aG) Q Er s2) Er s':=by
 obtain⟨a,C,d,D,vs,rfl,lo,os,bare,un,ay,ha,xr,⟨fl,fz⟩,q⟩:=cx;refine i1 xr λoe at_ cls dic n sz=>?_;have nx:∀b:U,b∉([]:Z U):=λb z=>absurd z QS;have m:s'.heap.FunFrames base (env::outer):=by
  have all:∀l:Z Env,(∀b∈cU l,b∈cU (env::outer))->s1.heap.FunFrames base l->s'.heap.FunFrames base l:=by
   intro l;induction l with
   |nil=>exact λ_ _=>trivial
   |cons x r ih=>
    rintro hs ⟨kd,⟨L',o,j,W,f,F⟩,R⟩;have X:L'∈cU (x::r):=by
     unfold cU;rw[Jr,j];exact Ym
    obtain⟨N,v⟩:=un.slot L' o f (B L' (hs _ X)) (hs _ X) (nx _);refine⟨kd,⟨L',_,j,W,v,F⟩,ih (λb h=>hs b ?_) R⟩;unfold cU at h⊢;rw[Jr,j];exact Yx _ h
  exact all _ (λ_ z=>z) k_
 have wM:s1.heap.get? a=aG:=M7 lo;have cI:∀b∈cU (env::outer),∃o,s'.heap.get? b=O o/\∀ws,o.data≠.fields ws:=λb h=>(m.mem h).2;have XF:∀b∈cU (env::outer),D b=aG:=λb h=>by
  obtain⟨_,o,f,_⟩:=k_.mem h;exact un.free b o f (B b h) (nx _)
 have frS:∀b∈cU (env::outer),b<s1.heap.objs.size:=λb h=>let⟨_,o,f,_⟩:=k_.mem h;Yv f
 --Zj_ is wanted of any ZmB end
 have fin:∀(h':cX) (T:U) (p:dg a7),(∀b o,b≠a->b∉cU (env::outer)->s1.heap.objs.size<=b\/D b≠aG\/s'.heap.get? b=O o->s'.heap.get? b=O o->(D b≠aG\/b<s1.heap.objs.size)->h'.get? b=O o)->
   (∀b o,b∈cU (env::outer)->s'.heap.get? b=O o->∃N,h'.get? b=O {o with slots:=N})->h'.get? a=O {oe with data:=.fields (vs.setIfInBounds 1 (.ref T))}->
   s'.heap.objs.size<=T->T≠a->h'.get? T=O {cls:=.type "traceback",dict:=aG,data:=.fields p}->p[3]?=O Value.none->jy b P w (env::outer) H1 s1 E (.ref a) {s' with heap:=h'}:=by
  intro h' T p kp N ea lT neT eT t3;have DG:∀b o,b≠a->b∉cU (env::outer)->s'.heap.get? b=O o->(D b≠aG\/b<s1.heap.objs.size)->h'.get? b=O o:=λb o t H I G=>kp b o t H (.inr (.inr I)) I G;have szs:s1.heap.objs.size<=s'.heap.objs.size:=Yy lo (Jx (Yv at_));have nT:D T=aG:=ay.fresh lT;have XG:ib h' a C (O d) (vs.setIfInBounds 1 (.ref T)):=⟨_,ea,cls,dic,Y,by rw[XH];exact sz⟩;have LO:dv P w D h':=by
   intro b o h;by_cases e1:b=a
   ·subst e1;rw[ha] at h;cases h;exact UY XG
   ·have F:b∉cU (env::outer):=λz=>by rw[XF b z] at h;cases h
    have own:∀c,D c=O (.own b)->c≠a:=λc i z=>by rw[z,ha] at i;cases i
    refine(ay b o h).iP (λc u i g=>?_) (λc i=>i) (λc xs i=>i);rcases i with rfl|i;·exact DG _ u e1 F g (.inl (by rw[h];simp))
    ·exact DG c u (own c i) (λz=>by rw[XF c z] at i;cases i) g (.inl (by rw[i];simp))
  refine⟨a,C,d,D,_,Y,lo,os,bare,⟨λb o f W j J=>?_,λb o f W j J=>?_,un.free,λb o f J=>?_,un.ia,un.iQ,un.iZ⟩,LO,ha,XG,⟨.inr ⟨T,_,p,by simp[sz],Yy szs lT,nT,eT,Y,t3⟩,λz=>by rw[Jm QD];exact fz z⟩,q⟩
  ·have v:=un.keep b o f W j J;exact DG b o (λz=>by rw[z,wM] at f;cases f) j v (.inr (Yv f))
  ·obtain⟨s0,v⟩:=un.slot b o f W j J;obtain⟨s2,g3⟩:=N b _ j v;exact⟨s2,g3⟩
  ·obtain⟨o',v⟩:=un.there b o f J;have h:b≠a:=λz=>by rw[z,wM] at f;cases f
   by_cases j:b∈cU (env::outer)
   ·obtain⟨s2,g3⟩:=N b _ j v;exact⟨_,g3⟩
   ·exact⟨o',DG b o' h j v (.inr (Yv f))⟩
 have hE:(env.frame=O L):=hL;unfold noteFrame;simp only[hE];refine bp ?_;rcases fl with z|⟨T0,oT,z_,z,lT,MH,g0,d0,t0⟩
 ·refine pX at_ n z ?_;rw[bt QD];refine PU fr m hL at_ n sz λh' T p k1 k2 k3 k4 k5 k6 k7=>k _ (fin h' T p (λb o t H _ I _=>k1 b o t H I) k2 k3 k4 k5 k6 k7)
 ·refine pX at_ n z ?_;rw[bR QS];have DH:T0≠a:=λy=>by rw[y,ha] at MH;cases MH
  refine bp (pX g0 d0 t0 ?_);rw[bt (by simp[rawInt])];refine bp (uO g0 d0 (J7.mp t0).1 ?_);have aH:∀b,b≠T0->(s'.heap.update T0 (Obj.mapFields (·.setIfInBounds 3 Value.none))).get? b=s'.heap.get? b:=λb h=>Wf _ _ (kK h);have fT:T0∉cU (env::outer):=λy=>by
   obtain⟨o,f,F⟩:=cI T0 y;rw[g0] at f;cases f;exact F _ d0
  have szu:(s'.heap.update T0 (Obj.mapFields (·.setIfInBounds 3 Value.none))).objs.size=s'.heap.objs.size:=Heap.size_after_update ..;refine PU (s:={s' with heap:=s'.heap.update T0 (Obj.mapFields (·.setIfInBounds 3 Value.none))}) fr (m.of_keeps λb o f F=>⟨o,(aH b λy=>by rw[y,g0] at f;cases f;exact F _ d0).trans f,Y⟩) hL ((aH a (kK DH)).trans at_) n sz
   λh' T p k1 k2 k3 k4 k5 k6 k7=>k _ (fin h' T p (λb o t H _ I G=>?_) (λb o t H=>?_) k3 (by rw[←szu];exact k4) k5 k6 k7)
  ·have nb:b≠T0:=λy=>by
    subst y;rcases G with G|G;·exact G MH
    ·exact absurd lT (Nat.not_le.mpr G)
   exact k1 b o t H ((aH b nb).trans I)
  ·exact k2 b o t ((aH b λy=>fT (y▸t)).trans H)
def xx.mono{a b:Nat}(f:xx a H h vs)(l:b<=a):xx b H h vs:=by
 rcases f with z|⟨T,d,c,g,e,r⟩;·exact .inl z
 ·exact .inr ⟨T,d,c,g,Yy l e,r⟩
def uj(b:cF)(X:Cx)(E:St->XK):Prop:=∀(a:aV) (c:St) (H:Hp) (s:cb) (e:a7) (d:cb),Inv X a c H s->jy b X.prog X.w X.stack H s (E c) e d->X.xe e d
abbrev Lh:=uj ar
def Inv.TN(I:Inv X pins σ H1 s1)(j:jy b X.prog X.w X.stack H1 s1 E e s3):
  ∃(a C d:U) (H':Hp) (c:dg a7),e=.ref a/\s1.heap.objs.size<=a/\Inv X pins σ H' s3/\H' a=O (xo a C (O d))/\ib s3.heap a C (O d) c/\(xx s1.heap.objs.size H' s3.heap c/\(b=ar->c[2]?=O Value.none))/\E (.ref C) (O d) H':=by
 obtain⟨a,C,d,H',c,rfl,lo,os,f,un,k,h,g,i,q⟩:=j;exact⟨a,C,d,H',c,Y,lo,I.K_ os un k f (λb z=>absurd z QS),h,g,i,q⟩
section
variable {P:dC}{w:dm}{K:ag}{L:aR}{R:cX}{N:Z af}{T:af}{W:Scope}{f:U}{Q:a7}{A:gb}{X:Z Env}{s:cb}{H:Hp}{E:XK}
def zo{b c:cF}(z:(b||!c)=ar:=by decide):uj b (kZ (jy c P w) P w K L R N T W f Q A X s H E) (λ_=>E):=by
 intro g p u t e k I m;show wpAny (model P w) _ (leaving _ e) _ _ k;unfold leaving;refine bp (R6 I.ok.frames I.stack I.BK Y m λr n=>?_);obtain⟨a,C,d,o,j,rfl,lo,J,l,i,h,q⟩:=I.TN n;have sz:=I.sz;exact⟨a,C,d,o,j,Y,Yy sz lo,J.os,J.bare,J.base,J.ay,l,i,⟨h.1.mono sz,λy=>h.2 (by subst y;cases b<;>first|rfl|cases z)⟩,q⟩
def wN:PassesOwn (model P w) (kZ (jy b P w) P w K L R N T W f Q A X s H E).A (kZ (jy b P w) P w K L R N T W f Q A X s H E).env (kZ (jy b P w) P w K L R N T W f Q A X s H E).xe:=
 λe a h=>PassesOwn.leaving e a h
end
def Zh7(c:Sp)(d:Z V)(E:St->XK)(t:TA):TE:=λa H Q=>t a H λb e=>c (b++d) e Q (E a)
def UZ(b:cF)(P:dC)(w:dm)(K:ag)(d:aR)(a:cX)(k:Nat)(x:af)(c:Z af)(g:Sp):Prop:=
 ∃f e,aE P w K d a (jy b P w) k f e c g/\Binds K e c []/\keepIn K (.ref f)=ar/\d x=O (.ref f)
abbrev CS:=UZ ar
section
variable {X:Cx}{k j:Nat}{f C:U}{N:FuncData}{ps:Z af}{P:Sp}{E:St->XK}{x m:af}{p W T:Pos}{e o:cV}{R:Z cV}{L:TE}{t:TA}
theorem R7(F:aE X.prog X.w X.K X.mg X.base (jy b X.prog X.w) k f N ps P)(l:cA k X.A)(u:Binds X.K N ps ds)(q:Vals d ds)(i:uj b X E)
  (I:Inv X pins σ H s)(r:Vals vs us)(h:P (vs++d) H Q (E σ)):wpAny X.md X.A (call (.ref f) us) (EP X pins σ Q) X.xe s:=by
 have c:=r.append q;have n:(us++ds).length=ps.length:=by exact c.length▸F.len _ _ _ _ h
 refine nA (ny (F.run X.A X.stack s H ⟨us,[]⟩ (us++ds) (vs++d) Q (E σ) l I.zC (u s us I.cj n) c h) λr g a=>?_);cases r with
 |error e=>exact i pins σ H s e g I a
 |ok v=>cases v<;>first|exact I.after a|exact False.elim a
def KG{b:cF}(h:UZ b X.prog X.w X.K X.mg X.base k x ps P)(l:cA j X.A)(u:k<=j)(i:uj b X E)(v:Gl X x)(y:PA X (e::R) t)
  (z:(x==("__debug__":af))=a_:=by decide)(w:i8 X e R:=by rfl)(A:jw X W R:=by rfl):
  PE X (.Call (.Name x p) (e::R) [] W) (Zh7 P [] E t):=by
 refine d5 h λf N F b g n=>?_;intro a s d H Q I h;exact qo (tU I v n (ra I.ok.mod.nX g (az (y W a s d H _ I h) λD G ⟨B,J,c,r,q⟩=>⟨c.cj,R7 F (l.mono u) b .nil i c r q⟩) w A) z)
def TQ(C:U)(m:af)(P:Sp)(E:St->XK)(L:TE)(t:TA):TE:=λb H Q=>L b H λx c=>∃a g fs,x=.ref a/\c a=O (.ins C g fs)/\fs.lookup m=aG/\t b c λd h=>P (x::(d++[])) h Q (E b)
def Ze0{b:cF}{G:Sem cF}(he:PE X o L)(c:gT X.K C)(n:Meth X.K C m f)(F:aE X.prog X.w X.K X.mg X.base (jy b X.prog X.w) k f N ps P)(hr:cA k X.A)(hb:Binds X.K N ps [])(J:uj b X E)(ha:PA X (e::R) t)
  (dA:i8 X e R:=by rfl)(cz:jw X W R:=by rfl)
  (ht:eval (.Call (.Attribute o m T) (e::R) [] W) X.env=(do
   let i←eval o X.env
   standAt T.atName
   let(f,first)←holding [i] (getMethod i m G)
   callWith W f first (backTo W (starEach (e::R) X.env)) (backToKw W (keywordEach [] X.env))):=by rfl):
  PE X (.Call (.Attribute o m T) (e::R) [] W) (TQ C m P E L t):=by
 intro d s g H Q I h;refine uQ (az (he d s g H _ I h) λu A y=>?_) ht;obtain⟨x,H1,w,B,a,dx,fs,ex,ea,l,q⟩:=y;subst ex;obtain rfl:u=Value.ref a:=B;exact Hg w ea c n l (ra I.ok.mod.nX n.kp (az (ha W d A g H1 _ w q) λus s2 ⟨z,H2,v,r,D⟩=>⟨v.cj,R7 (vs:=.ref a::z) F hr hb .nil J v (.cons Y r) D⟩) dA cz)
end
section
variable {P:dC}{w:dm}{K:ag}{W:aR}{X:cX}
def aP.DJ{b:cF}{x d:af}{g:cm}{f:U}{l:FuncData}{N i:Z af}{k:Nat}{sp:Sp}(F:aP K x d g f l)(a:aQ N i (aI g))(j:∀e H Q E,sp e H Q E->e.length=i.length)
  (m:∀(h:a7) (A:gb) (c:Z Env) (s:cb) (H:Hp) (e:Z V) (Q:VK) (E:XK),cA k (A.deeper (envOfC d (aI g) s.heap.objs.size f h))->sp e H Q E->
   ∃t,gc (kZ (jy b P w) P w K W X N d (aI g) f h A c s H E) (ji g) t/\t {nx:=λ_ u=>Q .aA u,rt:=Q} (start N e) H):aE P w K W X (jy b P w) (k+1) f l i sp:=by
 obtain⟨z,y,kV,r,v,D,h,C,B,rfl,o,q⟩:=F.ex;exact Le o q a j λA c s H e Q E p n=>m h A c s H e Q E p n
end
structure wO(K:ag)(C f:U):Prop where
 mK:∃(nm q:af) (N:U) (bs bm:Z a7) (sn:Z af) (sub:Z a7) (ab:cF) (col:bS cF) (dd:bS U) (k0 k1 k2 k3 k5:bS a7),
  K.lookup C=O (excClassObj nm q C N bs bm ar sn sub ab col dd k0 k1 k2 k3 k5 "ValueError.__new__")
 mW:PySem.W.mroIn K C (.type "ValueError")=O ar
 Aa:PySem.W.mroIn K C (.type "BaseException")=O ar
 lH:PySem.W.mroIn K C (.type "AttributeError")=O a_
 uP:PySem.W.mroIn K C (.type "NameError")=O a_
 init:PySem.W.findIn K (.ref C) "__init__"=O (O (.ref f))
 fn:isFn K (.ref f)=ar
 kp:keepIn K (.ref C)=ar
def yS{K:ag}
  (l:K.lookup C=O (excClassObj nm q C N bs bm hd sn sub j col i g f e d c a))(h:PySem.W.mroIn K C v=O b):(Value.ref C::bm).contains v=b:=by
 unfold PySem.W.mroIn PySem.W.clsIn at h
 simp_all
section
variable {X:dC}{w:dm}{A:gb}{E:bg}{h:cX}{g:dg GenState}{d:Drawn}{t:Nat}{os:OsState}
variable {v q:af}{C N:U}{bs W:Z a7}{P:cF}{L:Z af}{sub:Z a7}{I:cF}{T:bS cF}{y:bS U}{H B D J F:bS a7}
local macro_rules|`(tactic|walk_at "vlu")=>`(tactic|exact excBase_ValueError)
def ZdX(a:h.get? C=O (excClassObj v q C N bs W P L sub I T y H B D J F "ValueError.__new__"))(b:(Value.ref C::W).contains (.type "ValueError")=ar)
  (z:Q () ⟨h,g,d,t,os⟩):wpAny M A (checkBuiltinCall "ValueError.__new__" ⟨.ref C::rest,[]⟩) Q E ⟨h,g,d,t,os⟩:=by
 have G:=tJ;simp[checkBuiltinCall,G.newKind,G.newSplit,G.newRow];repeat (first|refine mZ a ?_|(refine qk a ?_;rw[b])|refine wpAny_staticBase_exc a ?_|refine XS a ?_|simp only[xu,uR]|wp_step)
 exact z
def Ze1{R:Result->cb->Prop}{a:Z a7}(b:h.get? C=O (excClassObj v q C N bs W P L sub I T y H B D J F "ValueError.__new__"))(i:(Value.ref C::W).contains (.type "ValueError")=ar)
  (k:(Value.ref C::W).contains (.type "AttributeError")=a_)(f:(Value.ref C::W).contains (.type "NameError")=a_)
  (z:R (.ok (.ret (.ref (h.objs.size+1)))) ⟨(h.push {cls:=.type "tuple",data:=.seq a.toArray}).push {cls:=.ref C,data:=.fields #[.ref h.objs.size,.none,.none,.none,.bool a_,.none]},g,d,t,os⟩)(j:a.length<=sizeLine):
  codeAny (model X w) A (.builtin "ValueError.__new__" ⟨.ref C::a,[]⟩) R ⟨h,g,d,t,os⟩:=by
 have G:=tJ;have e:=G.ends;refine codeAny_builtinAt G.entry ?_;refine Zc ?_;refine Zc (PySem.wpAt_stack λp c=>NG ?_)
 wp_walk
 refine NG ?_;rw[G.owner];repeat (first|with_reducible refine wpAny_madeHere_exc G.canon b ?_|with_reducible refine mZ b ?_|(with_reducible refine qk b ?_;first|rw[i]|rw[k]|rw[f])|wp_step)
 simp_all
def Ze2{a:Z a7}{j:U}{Q:Fin->cb->Prop}(c:h.get? C=O (excClassObj v q C N bs W P L sub I T y H B D J F "ValueError.__new__"))(m:(Value.ref C::W).contains (.type "ValueError")=ar)
  (u:(Value.ref C::W).contains (.type "AttributeError")=a_)(n:(Value.ref C::W).contains (.type "NameError")=a_)
  (s:PySem.W.Looks (model X w) h (typeLookup (.ref C) "__init__") (O (.ref j)))(p:PySem.W.Looks (model X w) h (typeOf (.ref j)) (.type "function"))
  (z:wpAny (model X w) A (call (.ref j) (.ref (h.objs.size+1)::a)) (λr l=>r=.none/\Q (.done (.ret (.ref (h.objs.size+1)))) l) E
   ⟨(h.push {cls:=.type "tuple",data:=.seq a.toArray}).push {cls:=.ref C,data:=.fields #[.ref h.objs.size,.none,.none,.none,.bool a_,.none]},g,d,t,os⟩)(f:a.length<=sizeLine):
  wpAny (model X w) A (Builtin.«type.__call__» ⟨.ref C::a,[]⟩) Q E ⟨h,g,d,t,os⟩:=by
 have G:=tJ;repeat (first|with_reducible refine mZ c ?_|with_reducible refine XS c ?_|wp_step)
 refine codeAny_call_builtin_code (V4 _ G.quiet) (ZdX c m (Ze1 c m u n ?_ f));show wpAny _ _ _ _ _ _;have up:∀b o,h.get? b=O o->((h.push {cls:=.type "tuple",data:=.seq a.toArray}).push {cls:=.ref C,data:=.fields #[.ref h.objs.size,.none,.none,.none,.bool a_,.none]}).get? b=O o:=
  λb o e=>Yc _ (Yc _ e)
 have i:=up _ _ c;have k:(Value.ref C::W).contains (.ref C)=ar:=QS
 unfold isInstance;repeat (first|with_reducible refine mZ here ?_|(with_reducible refine qk i ?_;rw[k])|wp_step)
 refine(s.keeps up) _ _ _ _ (λ_ _ e=>e) ?_;refine k8 (bp ?_);unfold bindSpecial;refine bp ((p.keeps up) _ _ _ _ (λ_ _ e=>e) ?_);rw[bR QD];refine cR (bp (eH z (λr l R=>?_) λ_ _ x=>x));obtain⟨rfl,hQ⟩:=R
 wp_walk
 exact hQ
def Ze3{a:Z a7}{e:U}{Q:bg}(c:h.get? C=O (excClassObj v q C N bs W P L sub I T y H B D J F "ValueError.__new__"))(j:(Value.ref C::W).contains (.type "ValueError")=ar)
  (m:(Value.ref C::W).contains (.type "AttributeError")=a_)(f:(Value.ref C::W).contains (.type "NameError")=a_)
  (l:PySem.W.Looks (model X w) h (typeLookup (.ref C) "__init__") (O (.ref e)))(k:PySem.W.Looks (model X w) h (typeOf (.ref e)) (.type "function"))
  (z:wpAny (model X w) (A.under (.builtin "type.__call__" ⟨.ref C::a,[]⟩)) (call (.ref e) (.ref (h.objs.size+1)::a)) (λr i=>r=.none/\Q (.ref (h.objs.size+1)) i) E
   ⟨(h.push {cls:=.type "tuple",data:=.seq a.toArray}).push {cls:=.ref C,data:=.fields #[.ref h.objs.size,.none,.none,.none,.bool a_,.none]},g,d,t,os⟩)(b:a.length<=sizeLine):
  wpAny (model X w) A (call (.ref C) a) Q E ⟨h,g,d,t,os⟩:=by
 have o:=tc_lookup;have n:=tc_bind (.ref C);refine nA (YB ?_);repeat (any_goals (first|assumption|with_reducible refine mZ c ?_|wp_step))
 exact⟨Y,codeAny_call_builtin_at (V4 _ QK) entry_typeCall (wpAny_check_type_call_sub c (Ze2 c j m f l k z b))⟩
end
end _L
namespace _L
open PySem PySem.Spec PyProof.Rows
open PySem.W (Looks InstAt looks_findIn looks_typeIn looks_clsIn looks_mroIn looks_find findObj findIn mroIn clsIn)
noncomputable abbrev pA:Z a7:=[.type "ValueError",.type "Exception",.type "BaseException",.type "object"]
structure dH(K:ag)(C:U):Prop where
 mK:∃(nm q:af) (N:U) (bs:Z a7) (cs:Z U) (sn:Z af) (sub:Z a7) (ab:cF) (col:bS cF) (dd:bS U) (k0 k1 k2 k3 k5:bS a7),
  K.lookup C=O (excClassObj nm q C N bs (cs.map Value.ref++pA) ar sn sub ab col dd k0 k1 k2 k3 k5 "ValueError.__new__")
 ga:findIn K (.ref C) "__getattribute__"=O (O (.builtin "BaseException.__getattribute__"))
 gh:findIn K (.ref C) "__getattr__"=O aG
 sa:findIn K (.ref C) "__setattr__"=O (O (.builtin "object.__setattr__"))
 cl:findIn K (.ref C) "__class__"=O (O (.builtin "object.__class__"))
 cg:specialIn K (.builtin "object.__class__") "__get__"=O (O (.builtin "getset_descriptor.__get__"))
 ct:takesIn K (.builtin "object.__class__")=O ar
def U0(C:U)(a:Z U)(v:a7)(h:pA.contains v=ar):(Value.ref C::(a.map Value.ref++pA)).contains v=ar:=by
 grind
def dH.mro{K:ag}(x:dH K C)(v:a7)(h:pA.contains v=ar):mroIn K C v=O ar:=by
 obtain⟨c,q,N,bs,k,b,sub,m,a,j,i,g,f,e,d,l⟩:=x.mK;unfold PySem.W.mroIn PySem.W.clsIn
 grind
def dH.hd{K:ag}(x:dH K C):hasDictIn K C=ar:=by
 obtain⟨c,q,N,bs,j,b,sub,k,a,i,h,g,f,e,d,l⟩:=x.mK;unfold hasDictIn PySem.W.clsIn;rw[l];rfl
def ib.inst(x:ib h a C (O d) l)(e:h.get? d=O f):∃b,InstAt h a b C (O f):=by
 refine i1 x λc k j i g _=>?_;refine⟨c,k,j,?_,?_⟩
 ·unfold notCls;rw[g]
 ·rwa[i]
def ib.ZjB(x:ib h a C aG g):∃b,InstAt h a b C aG:=by
 refine i1 x λc f e i d _=>?_;refine⟨c,f,e,?_,?_⟩
 ·unfold notCls;rw[d]
 ·grind
section
variable {T:dC}{w:dm}{A:gb}{E:bg}{s:cb}{K:ag}{x C:U}{L:Obj}{P:bS Obj}{W:af}
def TR(d:K.In s.heap)(I:InstAt s.heap x L C P)(X:dH K C)
  (k:wpAny (model T w) A.in1 (Builtin.«object.__getattribute__» ⟨[.ref x,.str W c],[]⟩) (λfin a=>match fin with|.done f=>R (.ok f) a|.again b=>b.quiet=ar/\codeAny (model T w) A b R a) (λe a=>R (.error e) a) s):
  codeAny (model T w) A (.call (.builtin "BaseException.__getattribute__") ⟨[.ref x,.str W c],[]⟩) R s:=by
 have G:=PySem.F.attr_ValueError;exact xX G.ga.plain PySem.F.entry_bexc_ga (check_slot (i:="BaseException.__getattribute__") (owner:="BaseException") (n:="__getattribute__") QK QK ((I.type).andThen (looks_mroIn d (X.mro _ QD))) (PySem.F.args_bexc_ga _ _) k)
theorem TU{b a:cF}(d:K.In s.heap)(I:InstAt s.heap x L C P)(X:dH K C)
  (k:codeAny (model T w) A (.call (.builtin "BaseException.__getattribute__") ⟨[.ref x,.str W i],[]⟩) (λr c=>match r with|.ok (.ret v)=>handedIn v=ar/\Q v c|_=>False) s):
  wpAny (model T w) A (getAttrBy (.ref x) (.str W i) b a) Q E s:=by
 refine k8 (bp ((I.type).here (bp ((looks_findIn d X.ga).here ?_))));refine bp ((looks_findIn d X.gh).here (bp (zH (k8 ?_))));unfold callGetattribute;rw[bt (by cases a<;>exact Yn)];refine bp (cR (nA (ny k λr c z=>?_)));cases r with
 |error e=>grind
 |ok f=>
  cases f with
  |ret v=>
   obtain⟨h,g⟩:=z;show wpAny _ _ (handedOut v) _ _ _;rw[PySem.W.handedOut_of h];exact cR g
  |next=>grind
  |brk=>grind
  |cont=>grind
def Zkw{a:cF}{v:a7}{Q:bg}(b:K.In s.heap)(I:InstAt s.heap x L C P)(X:dH K C)(d:findObj K C P W=O (.value v))(c:handedIn v=ar)(q:Q v {s with toks:=s.toks+1}):
  wpAny (model T w) A (getAttr (.ref x) W a) Q E s:=by
 exact bp (wpAny_mkText (TU b I X (TR b I X (bp (cR (bp (cR (bp ((I.type).at (bp ((looks_find b I d).at (cR (uU c q)))))))))))))
def ZcV{P:Obj}{Q:bS a7->cb->Prop}(a:K.In s.heap)(I:InstAt s.heap x L C (O P))(X:dH K C)(q:Q (O (.ref C)) {s with toks:=s.toks+1}):wpAny (model T w) A (getAttr? (.ref x) "__class__") Q E s:=by
 exact bp (wpAny_mkText (bp (zH (TU a I X (TR a I X (bp (cR (bp (cR (bp ((I.type).here (s:={s with toks:=s.toks+1}) (bp ((looks_find a I (PySem.W.findObj_data (by obtain⟨c,b,_⟩:=vt X.hd;rw[b];rfl) X.cl X.cg X.ct)).here (s:={s with toks:=s.toks+1}) (bp (k8 (nA (PySem.W.class_get a I (X.mro _ QD) (cR ⟨Y,cR q⟩))))))))))))))))))
theorem Ze4{P:Obj}(X:dH K C):KitX K (.ref x) (.ref C) (λh=>∃L,InstAt h x L C (O P)) where
 ty:=λ_ _ _ ⟨_,I⟩=>I.type
 it:=λ_ _ a _=>by
  obtain⟨d,q,N,bs,r,c,sub,t,b,p,m,j,i,g,f,l⟩:=X.mK;intro H F G B k q;exact bp (vl (k _ _ (a _ _ l)) (cR q))
 ne:=λh u o D n v a e=>by
  obtain⟨d,q,N,bs,r,c,sub,t,b,p,m,j,i,g,f,l⟩:=X.mK;refine Jn.mpr λz=>?_;have z:=Value.ref.inj (beq_iff_eq.mp z);subst z;have y:=eJ Obj.cls (Yo ((a _ _ l).symm.trans e))
  grind
 ca:=λa ⟨_,I⟩ k=>ZcV a I X k
theorem O2(a:a7):∀b:Z U,refuseLoop a "__setattr__" (b.map Value.ref++pA)=pure ()
 |[]=>PySem.F.store_ValueError.passes a
 |c::r=>by
  show refuseLoop a "__setattr__" (.ref c::(r.map Value.ref++pA))=pure ();rw[Z2];exact O2 a r
def VX{v:a7}{Q:Unit->cb->Prop}(b:K.In s.heap)(I:InstAt s.heap x L C P)(X:dH K C)(d:findIn K (.ref C) W=O aG)
  (k:wpAny (model T w) A.in1 (Builtin.ObjectAttr.storeInOwnDict (.ref x) (.ref C) (.str W s.toks) W v a_) (λfin c=>fin=PySem.Fin.done (.ret .none)/\Q () c) (λ_ _=>False) {s with toks:=s.toks+1}):
  wpAny (model T w) A (setAttr (.ref x) W v) Q E s:=by
 have a:=PySem.F.store_object;refine set_plain b I X.sa ?_;have sub:Looks (model T w) s.heap (isInstance (.ref x) (.type "object")) ar:=I.type.andThen (looks_mroIn b (X.mro _ QD));refine xX a.slot.plain a.entry (@check_slot (model T w) _ _ {s with toks:=s.toks+1} "object.__setattr__" "object" "__setattr__" (.ref x) [.str W s.toks,v] [] _ a.kind a.split sub (a.args (.ref x) (.str W s.toks) v) ?_);obtain⟨j,q,N,bs,f,h,i,u,g,t,r,p,o,n,m,l⟩:=X.mK;have e:Looks (model T w) s.heap (mroOf (.ref C)) (.ref C::(f.map Value.ref++pA)):=(looks_clsIn b (by unfold PySem.W.clsIn;rw[l])).andThen .now;rw[osa_eq,refuse_eq];refine bp (bp (I.type.here (s:={s with toks:=s.toks+1}) (bp (e.here (s:={s with toks:=s.toks+1}) ?_))));rw[Z2,O2];refine cR (bp (I.type.here (s:={s with toks:=s.toks+1}) (bp ((looks_findIn b d).here (s:={s with toks:=s.toks+1}) (bp (cR ?_))))));refine eH k (λfin c z=>?_) λ_ _ z=>z.elim;obtain⟨rfl,z⟩:=z;exact z
end
noncomputable def xq(d:U)(b:Z (af×V)):HO:=.ext λh=>∃a,h.Ns1 d a/\(∀f,eS (b.lookup f) (a f))/\PySem.Within a (b.map (·.1))
def U1(n:h.Ns1 d a)(r:∀f,eS (fs.lookup f) (a f))(b:PySem.Within a (fs.map (·.1))):cM P w H h d (xq d fs):=
 ⟨⟨a,n,r,b⟩,let⟨o,_,_,e,_⟩:=n;⟨o,e⟩,λ_ _ ⟨m,y,q⟩ k=>⟨m,y.at k,q⟩⟩
def KH(b:dv P w H h)(e:H d=O (xq d fs)):∃a,h.Ns1 d a/\(∀f,eS (fs.lookup f) (a f))/\PySem.Within a (fs.map (·.1)):=(b d _ e).1
def R8{mA:aR}(a:RelV y u)(r:∀g,eS (fs.lookup g) (mA g)):∀g,eS ((cQ f y fs).lookup g) (if g=f then O u else mA g):=λg=>by
 rw[GB];by_cases q:g=f;·rwa[bR q,bR q]
 ·simp_all
def O3(a:PySem.Within b (fs.map (·.1))):PySem.Within (λg=>if g=f then O u else b g) ((cQ f y fs).map (·.1)):=λg c=>by
 by_cases q:g=f;·exact q▸(yE f y fs).1
 ·refine(yE f y fs).2 g (a g λz=>c ?_)
  grind
section
variable {T:dC}{w:dm}{A:gb}{E:bg}{s:cb}{K:ag}{x C:U}{W:af}{v:a7}{b:cF}{R:Tok}
def ZdY{a:Obj}{d:U}{e:aR}{f:Z af}{Q:PySem.Fin->cb->Prop}(B:K.In s.heap)(X:dH K C)(q:s.heap.get? x=O a)(u:a.cls=.ref C)(t:a.dict=O d)(n:s.heap.Ns1 d e)(l:PySem.Within e f)(m:f.length<sizeLine)
  (k:∀c D,c.Ns1 d (λy=>if y=W then O v else e y)->Heap.SameBut d s.heap c->Q (.done (.ret .none)) {s with heap:=c,toks:=D}):
  wpAny (model T w) A (Builtin.ObjectAttr.storeInOwnDict (.ref x) (.ref C) (.str W R) W v b) Q E s:=by
 obtain⟨F,p,N,H⟩:=a;subst u t;obtain⟨I,z,r⟩:=vt X.hd;refine bp (cR (bp (bp (vl q (bp ((looks_clsIn B z).here ?_))))));rw[r];refine cR (bp (cR (bp (zV n λc g o=>?_))));obtain⟨G,L,J,j,i,h⟩:=g.count (zi W v l);exact bp (zj j (by exact i▸zl (Yy h (by exact Wh▸tE (Nat.add_lt_add_right m _)))) (cR (k _ _ g o)))
def ZdZ{a:Obj}{i:dg a7}{Q:PySem.Fin->cb->Prop}(I:K.In s.heap)(X:dH K C)(f:s.heap.get? x=O a)(g:a.cls=.ref C)(F:a.dict=aG)(B:a.data=.fields i)
  (k:∀d J,d.Ns1 s.heap.objs.size (λy=>if y=W then O v else aG)->d.get? x=O {a with dict:=O s.heap.objs.size}->(∀c o,c≠x->s.heap.get? c=O o->d.get? c=O o)->Q (.done (.ret .none)) {s with heap:=d,toks:=J}):
  wpAny (model T w) A (Builtin.ObjectAttr.storeInOwnDict (.ref x) (.ref C) (.str W R) W v b) Q E s:=by
 obtain⟨L,t,XJ,u⟩:=a;subst g F B;obtain⟨P,G,z⟩:=vt X.hd;refine bp (cR (bp (bp (vl f (bp ((looks_clsIn I G).here ?_))))));rw[z];have h:=Y2 (Yv f);have n:(s.heap.push {cls:=.type "dict",data:=.dict #[]}).get? x=O ⟨.ref C,aG,.fields i,u⟩:=Yc _ f;refine bp (wpAny_alloc' (bp (wpAny_update' n (cR ?_))));have H:((s.heap.push {cls:=.type "dict",data:=.dict #[]}).update x λo=>{o with dict:=O s.heap.objs.size}).get? s.heap.objs.size=O {cls:=.type "dict",data:=.dict #[]}:=
  (XN _ _ _ _ h.symm).trans (Heap.get?_push_at Y Y)
 refine bp (cR (bp (zV (XI ⟨_,#[],_,H,Y,λe D=>absurd D QS,λ_=>Y⟩) λd l j=>?_)));obtain⟨N,Xr,Xs,r,q,p⟩:=l.count (zi W v PySem.Within.nil);refine bp (zj r (by exact q▸zl (Yy p (by rw[Wh,XE,du];decide))) (cR (k _ _ l ?_ λc o g m=>?_)));·exact(j.2 x h).trans (Wp _ n Y)
 ·exact(j.2 c (Y2 (Yv m))).trans ((XN _ _ _ _ g).trans (Yc _ m))
end
def U2(K:ag)(g e:TE)(f:af):TS:=λ D c H=>e c H λ y h=>g c h λ x b=>∃ a C,x=.ref a/\dH K C/\dt K C f /\
  ((b a=O (xn a C aG)/\∀ d,b d=aG->d≠a->D.nx c (upd (upd b d (xq d [(f,y)])) a (xn a C (O d)))) \/
   ∃ d fs,b a=O (xn a C (O d))/\b d=O (xq d fs)/\d≠a/\fs.length < 1000/\D.nx c (upd b d (xq d (cQ f y fs))))
def U3(K:ag)(e:TE)(f:af):TE:=λc H Q=>e c H λx b=>∃a C d fs v,x=.ref a/\b a=O (xo a C (O d))/\b d=O (xq d fs)/\dH K C/\dt K C f/\fs.lookup f=O v/\Q v b
inductive R9(K:ag)(e:Z V)(H:Hp)(Q:VK):Prop
 |mk (a C d:U) (fs:Z (af×V)) (c:V) (u:a7) (b:cF) (l:e=[.ref a,c]) (k:RelV c u) (i:H a=O (xo a C (O d))) (j:H d=O (xq d fs)) (h:dH K C) (g:kitOne K (.ref C) u=O b) (f:Q (.bl b) H):R9 K e H Q
def U4(K:ag):Z V->Hp->VK->Prop:=λa H Q=>R9 K a H Q
section
variable {X:Cx}{o e W:cV}{f:af}{R T:Pos}{P N:TE}
def Zgu(ha:PE X o P)(hv:PE X W N)(hs:swapsWith W (O (.Attribute o f T)) R.line X.env=pure a_:=by rfl):PS X (.Assign [.Attribute o f T] W R) (U2 X.K P N f):=by
 intro p s A H D I h;refine xp (az (hv p s A H _ I h) λu s1 zq=>?_) hs;obtain⟨y,H1,I1,ry,q⟩:=zq;refine az (ha p s1 A H1 _ I1 q) λov F zq=>?_;obtain⟨x,H2,l,rx,a,C,Q,E,na,v⟩:=zq;subst Q;obtain rfl:ov=Value.ref a:=rx;rcases v with⟨m,v⟩|⟨d,fs,m,ed,nd,lim,v⟩
 ·obtain⟨vs,r,v1⟩:=Ca l.ay m;obtain⟨ox,J⟩:=r.ZjB;obtain⟨oe,e1,e2,e3,e4,e5⟩:=r;refine VX l.cj J E na (ZdZ l.cj E e1 e2 e3 e4 λh' tk G Q kp=>⟨Y,?_⟩);have w:=l.ay.fresh (Ye _);have ne:=Jh (Yv e1);refine⟨A,_,?_,v F.heap.objs.size w ne⟩;have MI:ib h' a C (O F.heap.objs.size) vs:=⟨_,Q,e2,Y,e4,e5⟩;refine l.un ⟨λb j i n _ _=>?_,λb j i n fr _=>?_,λb j i n _=>?_,λb j i _=>?_,λb B i=>?_,λb j u i=>?_,λb ps i=>?_⟩ λb j i=>?_;·exact kp b j (λz=>by rw[z,m] at n;cases n) i
  ·exact⟨j.slots,kp b j (λz=>by rw[z,m] at n;cases n) i⟩
  ·rw[aJ (λz=>by rw[z,m] at n;cases n),aJ (Y2 (Yv i))];exact n
  ·by_cases z:b=a;·exact⟨_,z▸Q⟩
   ·exact⟨j,kp b j z i⟩
  ·rw[aJ (λz=>by rw[z,m] at i;cases i),aJ (λz=>by rw[z,w] at i;cases i)];exact i
  ·rw[aJ (λz=>by rw[z,m] at i;cases i),aJ (λz=>by rw[z,w] at i;cases i)];exact i
  ·exact⟨#[],by rw[aJ (λz=>by rw[z,m] at i;cases i),aJ (λz=>by rw[z,w] at i;cases i),i];simp⟩
  ·by_cases z:b=a
   ·subst z;rw[aW] at i;cases i;exact(λH0=>Lg MI v1) _
   ·rw[aJ z] at i;by_cases z2:b=F.heap.objs.size
    ·subst z2;rw[aW] at i;cases i;exact(λH0=>U1 G (R8 (fs:=[]) (mA:=λ_=>aG) ry λg=>trivial) (O3 λ g=>absurd Y)) _
    ·rw[aJ z2] at i;have DK:∀c t,H2 c=O t->t=.own b\/(∃B,t=.tup B)->c≠a/\c≠F.heap.objs.size:=λc t k L=>by
      refine⟨λy=>?_,λy=>by rw[y,w] at k;cases k⟩;rw[y,m] at k;cases k;rcases L with L|⟨B,L⟩<;>cases L
     refine(l.ay b j i).iP (λc u k hg=>?_) (λc k=>?_) λc B k=>?_;·grind
     ·rwa[aJ (DK c _ k (.inl Y)).1,aJ (DK c _ k (.inl Y)).2]
     ·rwa[aJ (DK c _ k (.inr ⟨_,Y⟩)).1,aJ (DK c _ k (.inr ⟨_,Y⟩)).2]
 ·obtain⟨vs,r,v1⟩:=Ca l.ay m;obtain⟨mA,n1,rl,wi⟩:=KH l.ay ed;obtain⟨od,_,_,lJ,_⟩:=id n1;obtain⟨ox,J⟩:=r.inst lJ;obtain⟨oe,e1,e2,e3,e4,e5⟩:=r;refine VX l.cj J E na (ZdY l.cj E e1 e2 e3 n1 wi (by rw[Ya,du];exact m9 lim (by decide)) λh' tk G sb=>⟨Y,A,_,?_,v⟩);have hd:∃o,h'.get? d=O o:=let⟨o,_,_,e',_⟩:=G;⟨o,e'⟩;exact l.write (by exact ed▸kJ) (.inl Y) (λb q i z=>(sb.2 b i).trans z) hd (U1 G (R8 ry rl) (O3 wi))
def Zgv(B:PE X e P)(D:attributeBase e f X.env (eval e X.env)=eval e X.env:=by rfl):PE X (.Attribute e f R) (U3 X.K P f):=by
 intro b s j H Q I h;refine JX D (az (B b s j H _ I h) λu s1 k=>?_);obtain⟨x,L,c,n,a,C,d,fs,v,E,G,F,g,t,l,q⟩:=k;subst E;obtain rfl:u=Value.ref a:=n;obtain⟨vs,m⟩:=TM c.ay G;refine cu (KH c.ay F) λmA w p wi=>?_;obtain⟨od,z,y⟩:=Iv w;obtain⟨ox,J⟩:=m.inst z;have r:=p f;rw[l] at r;obtain⟨u,A,i⟩:=r.some_of;exact Zkw c.cj J g (findObj_own g.hd t Y (by rw[y,A])) (PH i) ⟨v,L,c.tok _,i,q⟩
def Zbv:de X (.builtin "isinstance") (U4 X.K):=by
 rintro j s E H F us Q I r ⟨a,C,d,fs,c,u,b,rfl,h,B,A,n,e,q⟩;refine gR (vals2 r) λp g lr v i=>?_;subst lr;obtain rfl:p=Value.ref a:=v;obtain⟨L,m⟩:=TM I.ay B;obtain⟨mA,x,rl,G⟩:=KH I.ay A;obtain⟨od,y,lk⟩:=Iv x;obtain⟨w,J⟩:=m.inst y;have same:kitOne X.K (.ref C) g=O b:=by
  have D:g=u:=by
   cases c<;>first|exact(i).trans (h).symm|skip
   all_goals (obtain⟨t1,l⟩:=i;obtain⟨t2,k⟩:=h;subst l;subst k)
   all_goals (exfalso;revert e;simp[kitOne,kitCls])
  rwa[D]
 exact mR (Ze4 n) I.cj ⟨w,J⟩ same (λz=>nomatch z) λt=>⟨.bl b,H,I.tok t,Y,q⟩
end
structure Cu(K:ag)(C:U)(m:af)(f:U):Prop where
 ga:specialIn K (.ref C) "__getattribute__"=O (O (.builtin "type.__getattribute__"))
 rd:PySem.W.readsIn K C (.type "type")=ar
 at_:findCls K (.ref C) (.type "type") m=O (.val (.ref f))
 kp:keepIn K (.ref f)=ar
section
variable {X:Cx}{J:lE}{k:Nat}{f C:U}{N:FuncData}{ps:Z af}{L:Sp}{P:Z V}{ds:Z a7}{E:XK}{x m:af}{p W T:Pos}{e:cV}{R:Z cV}{t:TA}
def QL{j:Sem cF}(b:Cu X.K C m f)(F:aE X.prog X.w X.K X.mg X.base J k f N ps L)(o:cA k X.A)(u:Gl X x)(q:X.mg x=O (.ref C))(w:Binds X.K N ps ds)(v:Vals P ds)(l:Passes J X E)(y:PA X (e::R) t)
  (z:(x==("__debug__":af))=a_:=by decide)(A:i8 X e R:=by rfl)(B:jw X W R:=by rfl)
  (n:eval (.Call (.Attribute (.Name x p) m T) (e::R) [] W) X.env=(do
   let c←eval (.Name x p) X.env
   standAt T.atName
   let(f,first)←holding [c] (getMethod c m j)
   callWith W f first (backTo W (starEach (e::R) X.env)) (backToKw W (keywordEach [] X.env))):=by rfl):
  PE X (.Call (.Attribute (.Name x p) m T) (e::R) [] W) (Cr L P E t):=by
 intro a s g H Q I h;exact uQ (tU I u q (PySem.W.method_cls I.cj b.ga (PySem.W.cls_value I.cj b.rd b.at_ Y (ra I.ok.mod.nX b.kp (az (y W a _ g H _ (I.tok (s.toks+1)) h) λG s2 ⟨D,H2,d,r,i⟩=>⟨d.cj,B8 F o w v l d r i⟩) A B))) z) n
end
def KI(K:ag):Z V->Hp->VK->Prop:=λb H Q=>∃(a C:U) (y:V),b=[.ref a,y]/\dH K C/\H a=O (xn a C aG)/\Q .aA H
section
variable {K:ag}
def ZcW(m:K.In s.heap)(X:dH K C)(i:s.heap.get? a=O c)(f:c.cls=.ref C)(z:Q () s):wpAny M A (checkBuiltinCall "ValueError.__init__" ⟨.ref a::rest,[]⟩) Q E s:=by
 obtain⟨r,q,N,bs,j,o,p,I,k,H,F,D,B,y,w,l⟩:=X.mK;have b:=m _ _ l;have e:=U0 C j (.type "ValueError") QD;have G:=tJ;obtain⟨h,g,d,t,os⟩:=s;simp[checkBuiltinCall,G.initKind,G.initSplit,G.initRow];repeat (first|(with_reducible refine mZ i ?_;rw[f])|with_reducible refine mZ b ?_|(with_reducible refine qk b ?_;rw[e])|wp_step)
 refine wpAny_onRaise ?_;rw[show ∀(u v:String) (n:Nat),Bind.check ⟨.positional,"*","ValueError",.self,[⟨"args",.varPos,a_⟩]⟩ u v n (List.map (λx=>x.fst) ({pos:=Value.ref a::rest}:Args).kw)=pure () from λu v n=>check_star_args _ _ _ _ _ _];exact cR z
end
section
variable {X:Cx}{p W T:Pos}{e:cV}{R:Z cV}{t:TA}
def Ze5(I:Inv X pins σ H s)(r:Vals xs us)(h:KI X.K xs H Q):wpAny X.md X.A (call (.builtin "ValueError.__init__") us) (EP X pins σ Q) X.xe s:=by
 refine jI h λa C y js A l q=>?_;subst js;obtain⟨D,j,rfl,F,r2⟩:=vals2 r;obtain rfl:D=Value.ref a:=F;obtain⟨f,w,i⟩:=Ca I.ay l;obtain⟨L,u,e2,P,d,n⟩:=id w;have G:=tJ;refine nA (xX G.init.plain G.initEntry (ZcW I.cj A u e2 ?_));unfold Builtin.«BaseException.__init__»;show wpAny _ _ (do let E←newTuple [j];Builtin.BaseException.bexcPut (.ref a) 0 E;ret .none) _ _ _;refine bp ?_;unfold newTuple;refine ui (bp ?_);have k:=Yc {cls:=.type "tuple",dict:=aG,data:=.seq [j].toArray} u;have B:f[0]?=O f[0]:=W4 (Aj (Qde n));unfold Builtin.BaseException.bexcPut;refine bp (pX k d B (bp (uO k d (Aj (Qde n)) ?_)));have fin:EP X pins σ Q Value.none {s with heap:=(s.heap.push {cls:=.type "tuple",dict:=aG,data:=.seq [j].toArray}).update a (Obj.mapFields (·.setIfInBounds 0 (Value.ref s.heap.objs.size)))}:=by
  have v:=yC d (·.setIfInBounds 0 (Value.ref s.heap.objs.size));have m:=Wp (Obj.mapFields (·.setIfInBounds 0 (Value.ref s.heap.objs.size))) k (xI v);have J:=I.write (x:=a) (e:=a) (o:=xn a C aG) (t':=s.toks) (by exact l▸kJ) (.inl Y)
   (λb o N g=>by rw[Wf _ _ (kK N)];exact Yc _ g) ⟨_,m⟩
   (Lg ⟨_,m,by rwa[Obj.cls_mapFields],by obtain⟨c,dd,da,sl⟩:=L;cases d;exact P,v,by rwa[XH]⟩ ⟨by rw[Jm QD];exact i.1,by rw[Jm QD];exact i.2.1,by rw[XH];exact i.2.2⟩)
  have same:upd H a (xn a C aG)=H:=by
   funext b
   by_cases z:b=a;·rw[z,aW,l]
   ·rw[aJ z]
  rw[same] at J;exact⟨.aA,H,J,Y,q⟩
 generalize f[0]=old;cases old<;>first|exact cR (cR fin)|exact zr (cR fin)|exact bp (zr (cR (cR fin)))
def Zgw{K:ag}:findCls K (.type "ValueError") (.type "type") "__init__"=O (.val (.builtin "ValueError.__init__")):=QJ
def U5{K:ag}:findIn K (.type "type") "__getattribute__"=O (O (.builtin "type.__getattribute__")):=QJ
def Zh8{K:ag}:subIn K (.type "type") (.type "type")=O ar:=QJ
def U6:typeOf (.type "ValueError")=pure (.type "type"):=QJ
def ZjC:opaqueClassAbove (.type "ValueError")=pure aG:=QJ
def Zgx:bootBuiltins "ValueError"=O (.type "ValueError"):=QK
def Zd0{a:dC}{w:dm}{A:gb}{E:bg}{s:cb}{K:ag}{c:Sem cF}{Q:a7×Z a7->cb->Prop}(b:K.In s.heap)(z:Q (.builtin "ValueError.__init__",[]) {s with toks:=s.toks+1}):
  wpAny (model a w) A (getMethod (.type "ValueError") "__init__" c) Q E s:=by
 have d:Looks (model a w) s.heap (specialOf (.type "ValueError") "__getattribute__") (O (.builtin "type.__getattribute__")):=(Looks.of_pure U6).andThen (looks_findIn b U5);unfold getMethod;refine bp (d.here ?_);show wpAny _ _ (if(Manifest.canonical "type.__getattribute__" !="object.__getattribute__")=ar then _ else _) _ _ _;rw[bR PySem.W.canon_tga];refine bp (PySem.W.cls_open b (Looks.of_pure ZjC) (Looks.of_pure U6) U5 (Looks.of_pure Y) Zh8 Zgw ?_);exact cR (PySem.W.handed_on Y (cR z))
def Ze6{i:Sem cF}(l:Gl X "ValueError")(k:X.mg "ValueError"=aG)(m:PA X (e::R) t)
  (n:i8 X e R:=by rfl)(o:jw X W R:=by rfl)
  (j:eval (.Call (.Attribute (.Name "ValueError" p) "__init__" T) (e::R) [] W) X.env=(do
   let b←eval (.Name "ValueError" p) X.env
   standAt T.atName
   let(f,first)←holding [b] (getMethod b "__init__" i)
   callWith W f first (backTo W (starEach (e::R) X.env)) (backToKw W (keywordEach [] X.env))):=by rfl):
  PE X (.Call (.Attribute (.Name "ValueError" p) "__init__" T) (e::R) [] W) (n5 (KI X.K) t):=by
 intro a s c H Q I h;refine uQ (wy I l k Zgx ?_) j;refine Zd0 I.cj ?_;exact Du (az (m W a _ c H _ (I.tok _) h) λu v ⟨r,w,q,d,g⟩=>Ze5 q d g) n o
end
def Zh9(C:U)(g:Sp)(h:Z V)(E:St->XK)(t:TA):TS:=λ_ b H=>t b H λc f=>c.length<=1000/\∀a,f a=aG->
 g (.ref a::(c++h)) (upd f a (xn a C aG)) (λv e=>v=.aA/\∃d,e a=O (xn a C (O d))/\E b (.ref C) (O d) (upd e a (xo a C (O d)))) E0
section
variable {X:Cx}{k:Nat}{f C:U}{P:FuncData}{ps:Z af}{L:Sp}{Q:Z V}{ds:Z a7}{E:St->XK}{x:af}{p W R:Pos}{e:cV}{T:Z cV}{t:TA}
theorem Ze7(i:wO X.K C f)(F:aE X.prog X.w X.K X.mg X.base aO k f P ps L)(hr:cA (k+1) X.A)(B:X.calm=ar)(hg:Gl X x)(hm:X.mg x=O (.ref C))(j:Binds X.K P ps ds)(hd:Vals Q ds)(hx:Lh X E)(ha:PA X (e::T) t)
  (fN:(x==("__debug__":af))=a_:=by decide)(he:i8 X e T:=by rfl)(cz:jw X R T:=by rfl):
  PS X (.Raise (O (.Call (.Name x p) (e::T) [] R)) aG W) (Zh9 C L Q E t):=by
 intro w s σ H D I h;rw[arm_exec_Raise];refine bp (m6 ?_);show wpAny _ X.A (raiseStmt X.env (O (do let v←eval (.Call (.Name x p) (e::T) [] R) X.env;standAt W;pure v)) aG) _ _ s;unfold raiseStmt;refine bp (bp ?_);refine qo (tU I hg hm ?_ fN);refine ra (h₀:=X.base) I.ok.mod.nX i.kp (az (ha R w s σ H _ I h) λA l zz=>?_) he cz;obtain⟨vs,H1,I1,r,lim,q⟩:=zz;refine⟨I1.cj,?_⟩;obtain⟨nm,qn,N,bs,bm,sn,sub,ab,col,dd,k0,k1,k2,k3,k5,lk⟩:=i.mK;have kc:=I1.cj _ _ lk;have fr:H1 (l.heap.objs.size+1)=aG:=I1.ay.fresh (xm _);have hq:=q (l.heap.objs.size+1) fr;have r2:Vals (V.ref (l.heap.objs.size+1)::(vs++Q)) (Value.ref (l.heap.objs.size+1)::(A++ds)):=.cons Y (r.append hd);have hl:((Value.ref (l.heap.objs.size+1)::A)++ds).length=ps.length:=by
  have z:=r2.length;rw[F.len _ _ _ _ hq] at z;exact z.symm
 have here:((l.heap.push {cls:=.type "tuple",data:=.seq A.toArray}).push {cls:=.ref C,data:=.fields #[.ref l.heap.objs.size,.none,.none,.none,.bool a_,.none]}).get? (l.heap.objs.size+1)=
   O {cls:=.ref C,data:=.fields #[.ref l.heap.objs.size,.none,.none,.none,.bool a_,.none]}:=by heap_get
 have up:∀b o,l.heap.get? b=O o->((l.heap.push {cls:=.type "tuple",data:=.seq A.toArray}).push {cls:=.ref C,data:=.fields #[.ref l.heap.objs.size,.none,.none,.none,.bool a_,.none]}).get? b=O o:=
  λb o z=>Yc _ (Yc _ z)
 have new:cM X.prog X.w (upd H1 (l.heap.objs.size+1) (xn (l.heap.objs.size+1) C aG)) _ (l.heap.objs.size+1) (xn (l.heap.objs.size+1) C aG):=Lg (vs:=#[.ref l.heap.objs.size,.none,.none,.none,.bool a_,.none]) ⟨_,here,Y,Y,Y,by show 1<6;decide⟩ ⟨Y,Y,Y⟩;have I2:=I1.laid (a:=l.heap.objs.size+1) (o:=xn (l.heap.objs.size+1) C aG) (t':=l.toks) up (xm _) new;have L1:=looks_findIn (M:=model X.prog X.w) I1.cj i.init;have _L:=looks_typeIn (M:=model X.prog X.w) I1.cj (beq_iff_eq.mp i.fn);have ul:A.length<=sizeLine:=by
  rw[←r.length,du];exact lR lim (by decide)
 obtain⟨m,g1,d1,t1,o1⟩:=l;refine Ze3 kc (yS lk i.mW) (yS lk i.lH) (yS lk i.uP) L1 _L (nA (ny (F.run _ X.stack _ _ ⟨Value.ref (m.objs.size+1)::A,[]⟩ (Value.ref (m.objs.size+1)::(A++ds)) _ _ E0 (hr.make C A [])
  (I2.zC.make C A []) (j _ (Value.ref (m.objs.size+1)::A) I2.cj hl) r2 hq) λr s' nZ=>?_)) ul
 cases r with
 |error _=>exact False.elim nZ
 |ok fl=>
  cases fl with
  |next=>exact False.elim nZ
  |brk=>exact False.elim nZ
  |cont=>exact False.elim nZ
  |ret u=>
   obtain⟨v,H',DB,G,un,ay,rv,rfl,d,ea,kY⟩:=nZ;obtain rfl:u=Value.none:=rv;refine⟨Y,bp (m6 (cR ?_))⟩;obtain⟨ws,xr,w1,w2,_⟩:=Ca ay ea;obtain⟨oe,e1,e2,e3,e4,e5⟩:=id xr;have I3:Inv X w σ H' s':=I2.K_ (ch:=[]) DB un ay G λb z=>absurd z QS;have XO:=I3.cj _ _ lk;have Aa:=yS lk i.Aa;obtain⟨oc,od,XJ,i_⟩:=oe;dsimp only at e2 e3 e4;subst e2 e3 e4;have xe:X.xe (.ref (m.objs.size+1)) s':=by
    refine hx w σ H1 ⟨m,g1,d1,t1,o1⟩ _ s' I1 ⟨m.objs.size+1,C,d,upd H' (m.objs.size+1) (xo (m.objs.size+1) C (O d)),ws,Y,xm _,DB,G,?_,?_,aW,xr,⟨.inl w1,λ_=>w2⟩,kY⟩
    ·have J:Un (cU X.stack) [] H1 H' m s'.heap:=(Un.laid up (xm _) fr).trans un;have old:∀b o,m.get? b=O o->b≠m.objs.size+1:=λb o j=>Y2 (Wr (Yv j));have tk:∀b u,H1 b=O u->b≠m.objs.size+1:=λb u j z=>by rw[z,fr] at j;cases j
     exact⟨J.keep,J.slot,λb o j n x'=>by rw[aJ (old b o j)];exact J.free b o j n x',J.there,λb xs j=>by rw[aJ (tk b _ j)];exact J.ia b xs j,
      λb o u j=>by rw[aJ (tk b _ j)];exact J.iQ b o u j,λb ps j=>by rw[aJ (tk b _ j)];exact J.iZ b ps j⟩
    ·intro b o j;by_cases z:b=m.objs.size+1
     ·subst z;rw[aW] at j;cases j;exact UY xr
     ·rw[aJ z] at j;have nz:∀c u,H' c=O u->(u=.own b\/∃xs,u=.tup xs)->c≠m.objs.size+1:=λc u B hu y=>by
       rw[y,ea] at B;cases B;rcases hu with hu|⟨xs,hu⟩<;>cases hu
      exact(ay b o j).iP (λ_ _ _ g=>g) (λc B=>by rw[aJ (nz c _ B (.inl Y))];exact B) λc xs B=>by rw[aJ (nz c _ B (.inr ⟨_,Y⟩))];exact B
   have hh:=I.ok.hd B;obtain⟨h',g',d',t',o'⟩:=s';repeat (first|with_reducible refine mZ e1 ?_|with_reducible refine mZ XO ?_|(with_reducible refine qk XO ?_;rw[Aa])|with_reducible refine pX e1 Y w1 ?_|wp_step)
   exact wpAny_raiseNew_none hh xe
end
abbrev Cx.hand(X:Cx)(a:U):Cx:={X with A:=X.A.mark (O (.ref a)),calm:=a_}
def Cx.Ok.hand{X:Cx}(b:X.Ok)(a:U):(X.hand a).Ok:=
 ⟨b.mod,b.kind,b.glob,b.blt,b.above,b.inj,b.has,b.uJ,λz=>absurd z Yn,b.frames,b.w8,b.sH,b.bs,b.mQ,b.uu,b.r_,b.jT,b.pC⟩
section
variable {X:Cx}{σ:St}{H:Hp}{s:cb}
def Inv.hand(I:Inv X pins σ H s)(a:U):Inv (X.hand a) pins σ H s:=⟨I.ok.hand a,I.os,I.bare,I.base,I.loc,I.cell,I.free,I.iJ,I.pin,I.ay,I.len⟩
def Inv.Zh_(b:X.Ok)(I:Inv (X.hand a).pG pins σ H s):Inv X pins σ H s:=⟨b,I.os,I.bare,I.base,I.loc,I.cell,I.free,I.iJ,I.pin,I.ay,I.len⟩
def Inv.zb{a:aV}{b:bg}{c:aV}(d:X.Ok)(I:Inv {X with pn:=X.pn++a,xe:=b} c σ H s):Inv X a σ H s:=
 ⟨d,I.os,I.bare,I.base,I.loc,I.cell,I.free,I.iJ,λp e=>I.pin p (Ys _ e),I.ay,I.len⟩
def Inv.Zia(I:Inv X a σ H s):Inv {X with pn:=X.pn++a,xe:=c} [] σ H s:=
 ⟨⟨I.ok.mod,I.ok.kind,I.ok.glob,I.ok.blt,I.ok.above,I.ok.inj,I.ok.has,I.ok.uJ,I.ok.hd,I.ok.frames,I.ok.w8,I.ok.sH,I.ok.bs,I.ok.mQ,I.ok.uu,I.ok.r_,I.ok.jT,I.ok.pC⟩,
  I.os,I.bare,I.base,I.loc,I.cell,I.free,I.iJ,λp b=>I.pin p (by rw[Y8] at b;exact b),I.ay,I.len⟩
theorem Inv.gone(I:Inv X pins σ H s)(hN:X.N.Nodup)(W:X.N[i]?=O n)(hn:s.heap.Ns X.env.locals m)
  (R:∀(i:Nat) (x:af) (v:V),X.N[i]?=O x->σ[i]?=O (O v)->uI X.env.scope x->∃u,RelV v u/\Look X.env s.heap m x u)
  (Q:F.Ns X.env.locals (λx=>if x=n then v else m x))(P:Heap.SameBut X.env.locals s.heap F):Inv X pins (σ.set i aG) H {s with heap:=F,toks:=t'}:=by
 have old:∀b o,X.c6.heap.get? b=O o->b≠X.env.locals:=λb o d z=>absurd (Yv (z▸d)) (DL.mpr I.ok.above);have h:∀b o,b≠X.env.locals->s.heap.get? b=O o->F.get? b=O o:=λb o d D=>(P.2 b d).trans D;have wZ:∀b u,H b=O u->b≠X.env.locals:=λb u d z=>by rw[z,I.free] at d;cases d
 refine⟨I.ok,I.os,I.bare,⟨λb o e C f x=>h b o (old b o e) (I.base.keep b o e C f x),λb o e C f x=>?_,I.base.free,λb o e x=>?_,I.base.ia,I.base.iQ,I.base.iZ⟩,⟨_,Q,λj x w L G e3=>?_⟩,λx c e=>?_,I.free,I.iJ,λp T=>?_,λb u d=>?_,?_⟩
 ·obtain⟨N,g⟩:=I.base.slot b o e C f x;exact⟨N,h b _ (old b o e) g⟩
 ·obtain⟨J,g⟩:=I.base.there b o e x;exact⟨J,h b J (old b o e) g⟩
 ·by_cases z:i=j
  ·subst z;have a:=G;rw[List.getElem?_set_self'] at a;cases q:σ[i]? with
   |none=>rw[q] at a;cases a
   |some y=>rw[q] at a;cases a
  ·rw[Xh z] at G;refine bh (R j x w L G e3) λu r l=>?_;refine⟨u,r,?_⟩;have ne:x≠n:=λy=>z (IU hN W (y▸L));rcases l with⟨B,A⟩|⟨B,c,A,⟨o,k,t⟩⟩
   ·refine .inl ⟨B,?_⟩;show(if x=n then v else m x)=O u;rwa[bt ne]
   ·exact .inr ⟨B,c,A,o,h c o (I.qR x c A) k,t⟩
 ·refine hP (I.cell x c e) λw o k t=>?_;exact⟨w,o,h c o (I.qR x c e) k,t⟩
 ·refine d7 (I.pin p T) λB A k t=>?_;exact⟨h p.1 p.2 k B,A,k,t⟩
 ·refine(I.ay b u d).iP (λc o E D=>h c o ?_ D) (λ_ q=>q) λ_ _ q=>q;rcases E with rfl|E;·exact wZ _ _ d
  ·exact wZ _ _ E
 ·rw[Jd];exact I.len
end
section
variable {K:ag}
def Zd1(h:K.In s.heap)(F:dH K B)(D:dH K C)(i:ib s.heap a C d H)(n:mroIn K C (.ref B)=O b)(z:Q b s):wpAny M A (excMatches (.ref a) (.ref B)) Q E s:=by
 obtain⟨R,q,N,bs,u,I,J,ab,v,dd,k0,k1,k2,k3,k5,l⟩:=F.mK;obtain⟨m,L,N',w,t,j,k,x,y,ig,l0,l1,X,W,T,e⟩:=D.mK;have g:=h _ _ l;have o:=h _ _ e;refine cu i λP r p _=>?_;have G:=U0 B u (.type "BaseException") QD;have c:=yS e n;have f:=tc_notTuple;unfold excMatches;repeat (first|(with_reducible refine mZ r ?_;rw[p])|with_reducible refine mZ g ?_|(with_reducible refine qk g ?_;rw[G])|(with_reducible refine qk o ?_;rw[c])|wp_step)
 cases b<;>(wp_walk;exact z)
def Zgy{l:Nat}(h:ib s.heap a C d i)(m:xx l H s.heap i)(z:Q () s):wpAny M A (setFlight (.ref a) aG) Q E s:=by
 refine i1 h λn f q p e o=>?_;rcases m with y|⟨T,k,j,y,_,_,c,g,b⟩
 ·refine bp (pX f e y ?_);exact cR z
 ·refine bp (pX f e y ?_);refine uO c g (J7.mp b).1 ?_;have same:=Heap.update_setField_same s.heap T k j 3 Value.none c g b;simp_all
end
def hX(K:ag)(B:U)(i:Nat)(g:TS)(D:Ends):St->XK:=λf c o H=>∃C d,c=.ref C/\o=O d/\dH K C/\mroIn K C (.ref B)=O ar/\
 ∀a,H a=O (xo a C (O d))->g {nx:=λb e=>D.nx (b.set i aG) e,rt:=D.rt,bk:=λb e=>D.bk (b.set i aG) e,ct:=λb e=>D.ct (b.set i aG) e} (f.set i (O (.ref a))) H
section
variable {X:Cx}{B:U}{i:Nat}{n x:af}{W N:Z cm}{P:cm}{F R T:Pos}{G:(St->XK)->TS}{L:TS}
theorem Zib{b:cF}(y:X.stack=X.env::X.outer/\X.env.frame=O X.env.locals)(hN:X.N.Nodup)(hi:X.N[i]?=O n)(hl:X.env.scope.names.lookup n=O .local)(hg:Gl X x)(hm:X.mg x=O (.ref B))(XB:dH X.K B)
  (hb:∀pn t E,uj b {X with pn:=pn,xe:=t} E->PassesOwn X.md X.A X.env t->gc {X with pn:=pn,xe:=t} W (G E))
  (hh:∀a,gc (X.hand a).pG (P::N) L)(fN:(x==("__debug__":af))=a_:=by decide):
  PS X (.Try W [.ExceptHandler (O (.Name x F)) (O n) (P::N) R] [] [] T) (λD σ H=>G (hX X.K B i L D) D σ H):=by
 intro c s σ H D I h;refine bp (m6 (wpAny_tryStmt_except ?_));let t:a7->cb->Prop:=λe A=>wpAny X.md X.A (noteFrame e X.env) (λ_ s2=>wpAny X.md X.A (setFlight e aG) (λ_ s3=>wpAny X.md X.A (handleBy e X.env [.ExceptHandler (O (.Name x F)) (O n) (P::N) R]) (SP X c D) X.xe s3) X.xe s2) X.xe A;have px':uj b {X with pn:=X.pn++c,xe:=t} (hX X.K B i L D):=by
  intro K9 l H1 A e s' I' cx;have st:X.A.frames=O (X.env::X.outer):=by exact y.1▸I.ok.frames
  have f1:A.heap.FunFrames X.base (X.env::X.outer):=by exact y.1▸I'.stack
  have f2:∀b∈cU (X.env::X.outer),H1 b=aG:=by exact y.1▸I'.BK
  refine R6 st f1 f2 y.2 (by rwa[←y.1]) λs3 c3=>?_;rw[←y.1] at c3;obtain⟨a,C,d,o,vs,rfl,lo,J,ea,xr,⟨fl,_⟩,C',d',ec,ed,XC,mt,q⟩:=I'.TN c3;cases ec;cases ed;have J2:=J.zb I.ok;refine wpAny_handleBy_cons (codeAny_handlers_test (tU (J2.hand a) hg hm (Zd1 J2.cj XB XC xr mt (codeAny_handlers_suite_as (Zgy xr fl (Bz (v:=.ref a) J2 hN hi (.inl hl) Y (λs4 J4=>eH (hh a c s4 _ _ _ ((J4.hand a).kY _) (q a ea)) (λf s5 z=>?_) λ _ _=>False.elim) (.inr hl))))) fN)) (by intro z;cases z);have fin:∀{p:St} {r:Hp},Inv (X.hand a).pG c p r s5->∀Q:Unit->cb->Prop,(∀w,Inv X c (p.set i aG) r w->Q () w)->wpAny X.md X.A (do bindName X.env n .none;unbindBehindTheSuite X.env n R) Q X.xe s5:=by
   intro p r j Q k;have g:=Inv.Zh_ I.ok j;refine bh g.loc λm hn lk=>?_;refine wpAny_nameGoes_keeps hl hn (by rw[I.ok.kind];rfl) λh' v n2 sb=>k _ (g.gone hN hi hn lk n2 sb)
  cases f with
  |next=>
   obtain⟨p,r,j,z⟩:=z;exact fin j _ λw g=>⟨_,_,g,z⟩
  |brk=>
   obtain⟨p,r,j,z⟩:=z;exact fin j _ λw g=>⟨_,_,g,z⟩
  |cont=>
   obtain⟨p,r,j,z⟩:=z;exact fin j _ λw g=>⟨_,_,g,z⟩
  |ret u=>
   obtain⟨v,p,r,j,rv,z⟩:=z;exact fin j _ λw g=>⟨_,_,_,g,rv,z⟩
 refine eH (hb _ t _ px' PassesOwn.looking [] s σ H D I.Zia h) (λf A z=>?_) λ_ _ z=>z;cases f with
 |next=>
  obtain⟨l,o,J,q⟩:=z;exact cR ⟨l,o,J.zb I.ok,q⟩
 |brk=>
  obtain⟨l,o,J,q⟩:=z;exact⟨l,o,J.zb I.ok,q⟩
 |cont=>
  obtain⟨l,o,J,q⟩:=z;exact⟨l,o,J.zb I.ok,q⟩
 |ret u=>
  obtain⟨v,l,o,J,rv,q⟩:=z;exact⟨v,l,o,J.zb I.ok,rv,q⟩
end
def Zkx(K:ag)(e:TE):TE:=λd H Q=>e d H λx c=>(∃y:af,x=.str y/\y.length<=sizeLine/\Q (.str y) c)\/(∃i:Int,x=.int i/\i.natAbs.log2<1920/\Q (.str (toString i)) c)\/
 ∃(a:U) (b:Z Int),x=.ref a/\aC K c a (b.map V.int)/\(∀n∈b,n.natAbs.log2<1920)/\(PyData.tuple (b.map PyData.int)).shown.length<=sizeLine/\Q (.str (PyData.tuple (b.map PyData.int)).shown) c
theorem ZcX{b:Z Int}:∀{a:Z a7},Vals (b.map V.int) a->∃as,ReadsAll h a (b.map PyData.int) as:=by
 induction b with
 |nil=>intro a r;cases r;exact⟨[],.nil⟩
 |cons n r e=>
  intro a q;cases q with
  |cons d c=>
   obtain⟨t,rfl⟩:=d;obtain⟨as,z⟩:=e c;exact⟨_,.cons (.int n t) z⟩
theorem Zd2{a:Z Int}(h:∀n∈a,n.natAbs.log2<1920):PyData.showableAll (a.map PyData.int)=ar:=by
 induction a with
 |nil=>rfl
 |cons n r b=>
  show(decide (n.natAbs.log2<1920)&&PyData.showableAll (r.map PyData.int))=ar
  simp_all
theorem Zb_(a:Z Int):PyData.hasDictAll (a.map PyData.int)=a_:=by
 induction a with
 |nil=>rfl
 |cons n r b=>exact b
theorem ZcY(a:Z Int):PyData.depthAll (a.map PyData.int)=0:=by
 induction a with
 |nil=>rfl
 |cons n r b=>
  show max (PyData.int n).depth (PyData.depthAll (r.map PyData.int))=0;rw[b];rfl
def TV(m:cA j X.A)(J:PE X e w):PE X (.FormattedValue e (-1) aG pos) (Zkx X.K w):=by
 intro b s p H Q I h;refine wpAny_FormattedValue_plain (az (J b s p H _ I h) λu N v=>?_);obtain⟨x,d,c,f,q⟩:=v;rcases q with⟨y,rfl,D,q⟩|⟨i,rfl,E,q⟩|⟨a,k,rfl,G,A,sz,q⟩
 ·obtain⟨t,rfl⟩:=f;exact wpAny_formatField_str ⟨.str y,d,c,⟨t,Y⟩,q⟩ ⟨.str y,d,c.tok _,⟨_,Y⟩,q⟩ D
 ·obtain⟨t,rfl⟩:=f;exact wpAny_formatField_int E ⟨.str (toString i),d,c.tok _,⟨_,Y⟩,q⟩
 ·obtain rfl:u=Value.ref a:=f;refine cu (c.tuple G) λW r lr R=>?_;obtain ⟨o,g,C,n,B⟩:=lr;obtain⟨as,P⟩:=ZcX r;refine formatField_of_reads (.tuple g C B (by rwa[NJ])) (Zd2 A) (λz=>?_) m.gd ?_ (λ_ _ z=>z) (λT u L F=>⟨.str (PyData.tuple (k.map PyData.int)).shown,d,c.kept F,⟨u,Y⟩,q⟩) sz
  ·have l:PyData.hasDictAll (k.map PyData.int)=ar:=z;rw[Zb_] at l;cases l
  ·show X.A.units+(PyData.depthAll (k.map PyData.int)+1+2)<cLine;rw[ZcY];have:=m.un;omega
abbrev TJ:=af->St->Hp->(af->Hp->Prop)->Prop
def PJ(X:Cx)(f:Z cV)(t:TJ):Prop:=
 ∀(a:aV) (s:cb) (c:St) (H:Hp) (b:af) (R:af->Hp->Prop) (Q:af->cb->Prop),Inv X a c H s->t b c H R->(∀y d e,Inv X a c e d->R y e->Q y d)->PySem.Joins X.md X.A X.xe (evalEach f X.env) b Q s
def Zky:TJ:=λa _ H R=>R a H
def ZjD(d:TE)(c:TJ):TJ:=λa b H R=>d b H λx e=>∃y,x=.str y/\(a++y).length<=sizeLine/\c (a++y) b e R
def ZjE(t:TJ):TE:=λa H Q=>t Str.empty a H λy b=>y.length<=sizeLine/\Q (.str y) b
def Zic:PJ X [] Zky:=λ_ s _ H a _ _ I h k=>k a s H I h
def Kc(n:PE X e g)(m:PJ X p t):PJ X (e::p) (ZjD g t):=by
 intro a s c H b R Q I h k;refine az (n a s c H _ I h) λu i d=>?_;obtain⟨x,v,r,j,y,o,l,q⟩:=d;subst o;obtain⟨f,rfl⟩:=j;exact⟨y,f,Y,l,m a i c v (b++y) R Q r q k⟩
def Zgz(h:PJ X (e::f::d) t):PE X (.JoinedStr (e::f::d) pos) (ZjE t):=by
 intro a s b H Q I c;refine wpAny_JoinedStr (h a s b H Str.empty _ _ I c λy j i g ⟨l,q⟩=>⟨l,.str y,i,g.tok _,⟨_,Y⟩,q⟩)
end _L
namespace _L
open PySem PySem.Spec PyProof.Rows
structure Bl(mg:aR):Prop where
 Cw:mg "len"=aG
 ZjF:mg "abs"=aG
 t9:mg "list"=aG
 jM:mg "range"=aG
 oM:mg "tuple"=aG
 ZjG:mg "any"=aG
 U7:mg "all"=aG
 Gg:mg "isinstance"=aG
 Cb:mg "bool"=aG
 U8:mg "int"=aG
 zp:mg "str"=aG
 yM:mg "sorted"=aG
 U9:mg "min"=aG
 ZjH:mg "max"=aG
 Zmv:mg "sum"=aG
 Zid:mg "dict"=aG
 Zmb:mg "reversed"=aG
 Zbw:mg "ValueError"=aG
def Zkz{K:ag}(a:X.calm=ar)(h:X.K=K):de X (.builtin "any") (VS K):=h▸ZaS a
def VY{K:ag}(a:X.calm=ar)(h:X.K=K):de X (.builtin "all") (VT K):=h▸ZaT a
def sortedK{K:ag}(h:X.K=K):de X (.builtin "sorted") (Kb K):=h▸OJ
def kH{K:ag}(h:X.K=K):cK X (compareOp .In) (zY K a_):=h▸ZdR
def KJ{K:ag}(h:X.K=K):cK X (compareOp .NotIn) (zY K ar):=h▸Zbt
def R_{K:ag}(h:X.K=K):jx X (Mx K):=h▸ZhX
structure wQ(K:ag)(x qual:af)(st:cm)(f:U)(fd:FuncData):Prop where
 ex:∃(oc:a7) (od:bS U) (dV kV doc pm:a7) (an:bS U) (bL ct:a7) (i_:dg (bS a7)),
  fd=fnOf x qual (mj st) (ji st) (aI st) dV kV doc pm an bL ct/\K.lookup f=O ⟨oc,od,.func fd,i_⟩/\codeIn K bL qual=ar
 kp:keepIn K (.ref f)=ar
section
variable {P:dC}{w:dm}{K:ag}{W:aR}{X:cX}
def wQ.ok{x c:af}{e:cm}{f:U}{l:FuncData}{N i:Z af}{k:Nat}{sp:Sp}(F:wQ K x c e f l)(a:aQ N i (aI e))(j:∀d H Q E,sp d H Q E->d.length=i.length)
  (m:∀(g:a7) (A:gb) (b:Z Env) (s:cb) (H:Hp) (d:Z V) (Q:VK) (E:XK),cA k (A.deeper (envOfC c (aI e) s.heap.objs.size f g))->sp d H Q E->
   ∃t,gc (kZ aO P w K W X N c (aI e) f g A b s H E).pG (ji e) t/\t {nx:=λ_ v=>Q .aA v,rt:=Q} (start N d) H):aE P w K W X aO (k+1) f l i sp:=by
 obtain⟨B,z,D,kV,u,y,I,g,G,C,rfl,o,r⟩:=F.ex;refine Le o r a j λA b s H d Q E p n=>?_;refine bh (m g A b s H d Q E p n) λt h q=>?_;exact⟨t,h.pG,q⟩
end
def TX{K:ag}:kitOne K (.type "int") (.type "int")=O ar:=QJ
def KL{K:ag}:kitOne K (.type "int") (.type "bool")=O a_:=QJ
def TY{K:ag}:kitOne K (.type "bool") (.type "bool")=O ar:=QJ
def Zie{K:ag}:kitOne K (.type "str") (.type "bool")=O a_:=QJ
def Zif{K:ag}:kitOne K (.type "str") (.type "int")=O a_:=QJ
def TZ{K:ag}:kitOne K (.type "str") (.type "str")=O ar:=QJ
def Zig{K:ag}:kitOne K (.type "list") (.type "bool")=O a_:=QJ
def Zih{K:ag}:kitOne K (.type "list") (.type "int")=O a_:=QJ
def Zii{K:ag}:kitOne K (.type "list") (.type "str")=O a_:=QJ
def Zij{K:ag}:kitOne K (.type "list") (.type "list")=O ar:=QJ
def Zik{K:ag}:kitOne K (.type "list") (.type "tuple")=O a_:=QJ
def Zil{K:ag}:kitOne K (.type "tuple") (.type "bool")=O a_:=QJ
def Zim{K:ag}:kitOne K (.type "tuple") (.type "int")=O a_:=QJ
def Zin{K:ag}:kitOne K (.type "tuple") (.type "str")=O a_:=QJ
def Zio{K:ag}:kitOne K (.type "tuple") (.type "list")=O a_:=QJ
def Ziq{K:ag}:kitOne K (.type "tuple") (.type "tuple")=O ar:=QJ
def Iy(a:Z Int)(o:bS Int):(a++o.toList).map V.int=a.map V.int++o.toList.map V.int:=QS
inductive Dt where
 |aA|bl (b:cF)|int (i:Int)|str (x:af)|lst (ds:List Dt)|tup (ds:List Dt)
def At(H:Hp):Nat->V->Dt->Prop
 |_,v,.aA=>v=.aA
 |_,v,.bl b=>v=.bl b
 |_,v,.int i=>v=.int i
 |_,v,.str x=>v=.str x
 |0,_,.lst _=>False
 |0,_,.tup _=>False
 |m+1,v,.lst ds=>∃a c,v=.ref a/\H a=O (.lst c)/\ds.length<=1000/\Paired (At H m) c ds
 |m+1,v,.tup ds=>∃a c,v=.ref a/\H a=O (.tup c)/\ds.length<=1000/\Paired (At H m) c ds
theorem At.same(g:ah H j):∀{m:Nat} {v:V} {d:Dt},At H m v d->At j m v d
 |_,_,.aA,h=>by unfold At at h⊢;exact h
 |_,_,.bl _,h=>by unfold At at h⊢;exact h
 |_,_,.int _,h=>by unfold At at h⊢;exact h
 |_,_,.str _,h=>by unfold At at h⊢;exact h
 |0,_,.lst _,h=>by unfold At at h;exact h.elim
 |0,_,.tup _,h=>by unfold At at h;exact h.elim
 |m+1,_,.lst _,h=>by
  refine d5 h λa b e i f c=>?_;exact⟨a,b,e,g _ _ i,f,_L.Paired.bN c λ _ _=>At.same g⟩
 |m+1,_,.tup _,h=>by
  refine d5 h λa b e i f c=>?_;exact⟨a,b,e,g _ _ i,f,_L.Paired.bN c λ _ _=>At.same g⟩
def Cy(b:cF):At H m (.bl b) (.bl b):=by unfold At;rfl
def KN(x:af):At H m (.str x) (.str x):=by unfold At;rfl
def T3(h:H a=O (.tup xs))(l:ds.length<=1000)(p:Paired (At H m) xs ds):At H (m+1) (.ref a) (.tup ds):=by unfold At;exact⟨a,xs,Y,h,l,p⟩
def Zir(h:H a=O (.lst xs))(l:ds.length<=1000)(p:Paired (At H m) xs ds):At H (m+1) (.ref a) (.lst ds):=by unfold At;exact⟨a,xs,Y,h,l,p⟩
theorem gY:∀{b:Z α} {a:Z β} {i:Nat} {x:α},Paired F b a->b[i]?=O x->∃y,a[i]?=O y/\F x y:=by
 intro b a i x h;induction h generalizing i with
 |nil=>intro e;simp at e
 |cons r t c=>
  intro e;cases i with
  |zero=>
   have e:=Yo (by simpa using e);subst e;exact⟨_,Y,r⟩
  |succ i=>
   obtain⟨y,f,d⟩:=c (by simpa using e);exact⟨y,by simpa using f,d⟩
theorem dk:∀{b:Z α} {a:Z β},Paired F b a->b.length=a.length:=by
 intro b a h;induction h with
 |nil=>rfl
 |cons _ _ c=>rw[Wh,Wh,c]
def QM{i:Nat}(h:xs[i]?=O x):dN xs (0+(i:Int))=O x:=by
 rw[show(0:Int)+(i:Int)=(i:Int) from by omega];exact dM h
def XP(H:Hp)(C:U)(c:af)(E:XK):Prop:=∀(a d:U) (b:Hp),H a=aG->H d=aG->ah H b->b a=O (xo a C (O d))->b d=O (xq d [("word",.str c)])->E (.ref C) (O d) b
def wO.of{K:ag}{C f:U}(x:dH K C)(a:PySem.W.findIn K (.ref C) "__init__"=O (O (.ref f)))(m:isFn K (.ref f)=ar)(e:keepIn K (.ref C)=ar):wO K C f:=by
 obtain⟨d,q,N,bs,s,c,sub,p,b,o,k,j,i,h,g,l⟩:=id x.mK;have no:∀n:String,pA.contains (.type n)=a_->PySem.W.mroIn K C (.type n)=O a_:=λn r=>by
  unfold PySem.W.mroIn PySem.W.clsIn
  simp_all
 exact⟨⟨d,q,N,bs,_,c,sub,p,b,o,k,j,i,h,g,l⟩,x.mro _ QD,x.mro _ QD,no _ QD,no _ QD,a,m,e⟩
def QN{K:ag}(C:U):kitOne K (.ref C) (.ref C)=O ar:=by unfold kitOne;rw[bR (beq_self_eq_true _)]
def PV{K:ag}(x:dH K B)(e:C≠B)(h:PySem.W.mroIn K C (.ref B)=O b):kitOne K (.ref C) (.ref B)=O b:=by
 obtain⟨d,q,N,bs,f,c,sub,j,a,r,p,o,n,m,k,l⟩:=x.mK;unfold kitOne;rw[bt (λz=>e (Value.ref.inj (beq_iff_eq.mp z)))];unfold kitCls;have i:PySem.W.clsIn K B=O {name:=d,bases:=bs,mro:=.ref B::(f.map Value.ref++pA),ns:=N,qualname:=q,hasDict:=ar,slotNames:=c,subclasses:=sub,abstract:=j,collection:=a,hasDel:=a_}:=by
  unfold PySem.W.clsIn;rw[l]
 have g:typeIn K (.ref B)=O (.type "type"):=by
  show(K.lookup B).map (·.cls)=_;rw[l];rfl
 dsimp;rw[bR (by rw[i,g];rfl)];exact h
def ZgA:Z V->Hp->VK->Prop:=λa H Q=>∃(p:U) (n:Nat),a=[.ref p]/\H p=O (.kC 0 (n:Int))/\n<=1000/\∀l:U,H l=aG->Q (.ref l) (upd H l (.tup ((bK n).map V.int)))
section
variable {X:dC}{w:dm}{A:gb}{E:bg}{s:cb}
theorem Zca{Q:Z a7->cb->Prop}{r:U}{n:Nat}{t u v:Tok}(F:A.handled=aG)(l:IsRange s.heap r 0 (n:Int) 1 t u v)(D:n<=1000)
  (k:∀g h (d:dg a7),(∀b o,s.heap.get? b=O o->g.get? b=O o)->ItemsOf (λi v=>∃t,v=.int (0+i*1) t) d n->Q d.toList {s with heap:=g,toks:=h}):
  wpAny (model X w) A (collect (.ref r)) Q E s:=by
 refine bp (wpAny_runValue (YD PySem.F.entry_proto_collect (bp (ui (cR ⟨plainId_quiet PySem.F.plain_list_iadd _,YD PySem.F.entry_list_iadd ?_⟩)))));have y:∀s':cb,(∃(g:cX) (h:Nat) (d:dg a7) (c:Nat),s'={s with heap:=g,toks:=h}/\(∀b o,b≠s.heap.objs.size->(s.heap.push {cls:=.type "list",data:=.seq ([]:Z a7).toArray}).get? b=O o->g.get? b=O o)/\
   g.get? s.heap.objs.size=O {cls:=.type "list",dict:=aG,data:=.seq d c,slots:=#[]}/\ItemsOf (λi v=>∃t,v=.int (0+i*1) t) d n)->
   wpAny (model X w) A (match Value.ref s.heap.objs.size with
    |Value.ref a=>do
     match(←load a).data with
      |Data.seq xs _=>pure xs.toList
      |_=>unsupported "internal:collect"
    |_=>unsupported "internal:collect") Q E s':=by
  intro s' I;refine pz I λg h d c H j here m=>?_;subst H;exact bp (wpAny_load here (cR (k g h d (λb o p=>j b o (Y2 (Yv p)) (Yc _ p)) m)))
 refine eH (wpAny_extend_range (s:={s with heap:=s.heap.push {cls:=.type "list",data:=.seq ([]:Z a7).toArray}})
  (R:=λr s'=>r=.ok (.ret (.ref s.heap.objs.size))/\∃(g:cX) (h:Nat) (d:dg a7) (c:Nat),s'={s with heap:=g,toks:=h}/\(∀b o,b≠s.heap.objs.size->(s.heap.push {cls:=.type "list",data:=.seq ([]:Z a7).toArray}).get? b=O o->g.get? b=O o)/\
   g.get? s.heap.objs.size=O {cls:=.type "list",dict:=aG,data:=.seq d c,slots:=#[]}/\ItemsOf (λi v=>∃t,v=.int (0+i*1) t) d n)
  F (Yc _ l) (Ag (by decide) (by decide) QO QO) (by rw[zS];split<;>omega) (gm D (by decide)) _ _ 0 (Yu _ Y) λg h d c j here m=>⟨Y,g,h,d,c,Y,j,here,m⟩) (λfin s' z=>?_) λe s' z=>?_
 ·cases fin with
  |done f=>obtain⟨q,x⟩:=z;cases q;exact y _ x
  |again G=>exact⟨z.1,ny z.2 λr B l=>by obtain⟨rfl,C⟩:=l;exact y B C⟩
 ·cases z.1
def ZgB(r:U)(n:Nat)(t u v:Tok)(x:n<=1000):
  Meets (Builtin.«tuple.__new__» ⟨[.type "tuple",.ref r],[]⟩) (λA R s=>A.handled=aG/\IsRange s.heap r 0 (n:Int) 1 t u v/\∀(a:cX) (f:Nat) (acc:dg a7),(∀b o,s.heap.get? b=O o->a.get? b=O o)->ItemsOf (λi v=>∃t,v=.int (0+i*1) t) acc n->
   R (.ok (.ret (.ref a.objs.size))) {s with heap:=a.push {cls:=.type "tuple",data:=.seq acc},toks:=f}):=
 .of_wp λX w A R s h=>by
  obtain⟨C,g,d,f,os⟩:=s;refine c7 h λy j q=>?_;have sub:=sub_tuple_self;have p:=init_tuple_lookup;have B:=madeHere_tuple;have c:A.in1.handled=aG:=y
  wp_walk using PySem.AutoSeq1.wpAny_loadPart' j,wpAny_typeOf ty,Zca (A:=A.in1) c j x
  intro a z acc m k;show wpAny _ _ (Builtin.Tuple.tupleExact acc.toList.toArray>>=λv=>ret v) _ _ _;unfold Builtin.Tuple.tupleExact;have l:acc.toList.toArray.size<=sizeLine:=by
   have e:=k.1;rw[du];simp;exact lR (xc e) (lR x (by decide))
  refine bp (ui (cR ⟨_,Y,?_⟩) l);have e:acc.toList.toArray=acc:=QS
  exact e▸q a z acc m k
end
def OA(E:X.calm=ar):de X (.type "tuple") ZgA:=by
 intro c s m H L N Q I r h;refine d5 h λp n P B j q=>?_;subst P;obtain⟨u,rfl,z⟩:=vals1 r;cases z;obtain⟨t,u,v,C⟩:=I.ay p _ B;refine callType_new PySem.F.called_tuple QD (PySem.F.typeCall_tuple_1 _) (PySem.F.newCall_tuple_1 _) (λe=>PySem.F.args_object_init_2 e _) PySem.F.entry_tuple_new (ZgB p n t u v j) ⟨I.ok.hd E,C,λd g a A k=>⟨⟨_,Yu _ Y,Y⟩,?_⟩⟩;have l:=I.kept (t':=g) A;have w:Vals ((bK n).map V.int) a.toList:=by
  refine GF (by rw[Ya,fR];simp[k.1]) λi x u f G=>?_;obtain⟨y,rfl⟩:=k.2 i u (by simpa using G);have D:i<n:=by
   have:=(Yh.mp f).1;rw[Ya,fR] at this;exact this
  rw[Yf,nH D] at f;have F:=Yo f;subst F;exact⟨y,by rw[show(0:Int)+(i:Int)*1=(i:Int) by omega]⟩
 have J:Inv X c m (upd H d.objs.size (.tup ((bK n).map V.int))) {s with heap:=d.push {cls:=.type "tuple",data:=.seq a},toks:=g}:=
  l.laid (λ b o=>Yc _) (Ye _) (show cM X.prog X.w _ _ _ (.tup _) from⟨by rw[Ya,fR];exact Jx (kQ j),a.toList,w,by simpa using oP.new d a⟩)
 exact⟨.ref d.objs.size,_,J,Y,q _ (l.ay.fresh (Ye _))⟩
inductive Sa(K:ag)(c:Z V)(H:Hp)(Q:VK):Prop
 |mk (a C:U) (b y:af) (k:c=[.ref a,.str b,.str y]) (j:H a=O (xn a C aG)) (h:dH K C) (i:dt K C "word") (g:b.length<=100) (f:y.length<=1000000) (e:∀d,H d=aG->d≠a->Q .aA (upd (upd H d (xq d [("word",.str b)])) a (xn a C (O d)))):Sa K c H Q
def Li(K:ag):Sp:=λa H Q _=>Sa K a H Q
def Lj(b:af)(c:U):Sp:=λe H Q _=>∃(a:U) (y:af),e=[.ref a,.str y]/\H a=O (xn a c aG)/\y.length<=1000000/\
 ∀d,H d=aG->d≠a->Q .aA (upd (upd H d (xq d [("word",.str b)])) a (xn a c (O d)))
noncomputable abbrev pJ:Z af:=["self","why"]
def zc(P:dC)(w:dm)(K:ag)(b:aR)(a:cX)(x f:af)(c:U):Prop:=
 ∃d e,wO K c d/\aE P w K b a aO 2 d e pJ (Lj f c)/\Binds K e pJ []/\b x=O (.ref c)/\dH K c/\dt K c "word"
def tW(c:TE)(R:St->Hp->VK):TE:=λa H Q=>c a H (R a H)/\∀v b,R a H v b->Q v b
def PE.weak(h:PE X e d)(R:St->Hp->VK):PE X e (tW d R):=λa s b H Q I ⟨q,k⟩=>az (h a s b H (R b H) I q) λ_ _ ⟨v,c,f,r,z⟩=>⟨v,c,f,r,k v c z⟩
def ZgC(c:U)(b:af)(E:St->XK)(d:TE):TS:=λ_ a H=>d a H λv e=>∃y:af,v=.str y/\y.length<=1000000/\XP e c b (E a)
def PX{X:Cx}{j:Nat}{x i:af}{c:U}{E:St->XK}{e:cV}{t:TE}{p k T:Pos}(h:zc X.prog X.w X.K X.mg X.base x i c)(J:cA j X.A)(L:3<=j)(Q:X.calm=ar)(N:Gl X x)(G:Lh X E)(P:PE X e t)
  (R:(x==("__debug__":af))=a_:=by decide)(w:starEach [e] X.env=[(a_,eval e X.env)]:=by rfl):
  PS X (.Raise (O (.Call (.Name x p) [e] [] T)) aG k) (ZgC c i E t):=by
 obtain⟨fi,fd,B,F,b,m,W,na⟩:=h;intro f s g H D I q;refine Ze7 B F (J.mono L) Q N m b .nil G (aa (P.weak λg _ v r=>∃y:af,v=.str y/\y.length<=1000000/\XP r c i (E g)) ae w) R w Y f s g H D I ⟨q,?_⟩;intro v r ZH;refine cu ZH λy jm C A=>?_;subst jm;refine⟨by show 1<=1000;decide,λa u=>⟨a,y,Y,aW,C,λd hd l=>⟨Y,d,aW,?_⟩⟩⟩;have z:r d=aG:=by rw[aJ l] at hd;exact hd
 refine A a d _ u z (λb o e=>?_) aW ?_
 ·have n:=bU e u;rwa[aJ n,aJ n,aJ (bU e z),aJ n]
 ·rw[aJ l,aJ l,aW]
def QP{K:ag}(h:X.K=K):de X (.builtin "isinstance") (U4 K):=h▸Zbv
def Ze8{X:Cx}{K:ag}{e:cV}{b:TE}{f:af}{a:Pos}(h:X.K=K)(c:PE X e b)(d:attributeBase e f X.env (eval e X.env)=eval e X.env:=by rfl):PE X (.Attribute e f a) (U3 K b f):=h▸Zgv c d
end _L
namespace _L
open PySem PySem.Spec PyProof.Rows
open PySem.W (Looks InstAt looks_findIn looks_typeIn looks_clsIn looks_mroIn looks_find findObj findIn mroIn clsIn)
def Zis{X:Cx}{k j:Nat}{m:af}{C:U}{n:Z af}{l:Sp}{E:St->XK}{a d:Pos}{o e:cV}{es:Z cV}{t:TA}{i:TE}{q:Sem cF}(h:∃f g,gT X.K C/\Meth X.K C m f/\aE X.prog X.w X.K X.mg X.base (oa X.prog X.w) k f g n l/\Binds X.K g n [])(u:cA j X.A)(x:k<=j)(r:Lh X E)(v:PE X o i)(y:PA X (e::es) t)
  (z:i8 X e es:=by rfl)(A:jw X a es:=by rfl)
  (s:eval (.Call (.Attribute o m d) (e::es) [] a) X.env=(do
   let p←eval o X.env
   standAt d.atName
   let(f,first)←holding [p] (getMethod p m q)
   callWith a f first (backTo a (starEach (e::es) X.env)) (backToKw a (keywordEach [] X.env))):=by rfl):
  PE X (.Call (.Attribute o m d) (e::es) [] a) (TQ C m l E i t):=by
 refine d5 h λf g c w F b=>?_;exact Ze0 v c w F (u.mono x) b r y z A s
end _L
namespace MJ
open _L
def O4(n:Nat):(bK n).Nodup:=by
 exact List.Pairwise.map _ (λa b h e=>h (nF e)) XR
end MJ
namespace _L
open PySem PySem.Spec PyProof.Rows
def Row(K:ag)(H:Hp)(p:U)(a:Z Int):Prop:=aj K H p (a.map V.int)\/aC K H p (a.map V.int)
def Row.same{K:ag}{H a:Hp}{p:U}{ns:Z Int}(e:ah H a)(h:Row K H p ns):Row K a p ns:=by
 rcases h with h|h;·exact .inl (e.seq h)
 ·exact .inr (e.j9 h)
def full(a:Z Int):cF:=decide (a.Perm (bK a.length))
def rF(h:full ns=ar):ns.Perm (bK ns.length):=eL h
def tX(h:ns.Perm (bK n)):full ns=ar:=d6 (by rwa[h.length_eq,fR])
def Zcb(n:Nat):(bK n).Pairwise (·<=·):=by
 unfold bK;rw[W3];exact List.pairwise_lt_range.imp λh=>QO
theorem O5:∀{c bs:Z Int},c.Perm bs->c.Pairwise (·<=·)->bs.Pairwise (·<=·)->c=bs
 |[],bs,p,_,_=>by
  simp_all
 |a::c,[],p,_,_=>by
  simp_all
 |a::c,b::bs,p,f,d=>by
  rw[List.pairwise_cons] at f d;have e:a=b:=by
   have h:=p.subset Ym;have g:=p.symm.subset Ym
   grind
  subst e;rw[O5 (List.Perm.cons_inv p) f.2 d.2]
def Zcc(p:a.Perm ns)(h:a.Pairwise (·<=·)):decide (a=bK ns.length)=full ns:=by
 unfold full;rw[Wn,hU,hU];constructor;·grind
 ·intro q;exact O5 (p.trans q) h (Zcb _)
def Va(K:ag)(a:cF)(b:TE):TE:=jZ (VW K a) (n5 (Kb K) (h_ b jr)) (n5 QE (h_ (n5 R3 (h_ (n5 (zG K) (h_ b jr)) jr)) jr))
def Ze9{K:ag}(c:σ[i]?=O (O (.ref p)))(d:Row K H p ns)(m:ns.length<64)(q:∀g,ah H g->Q (.bl (if neg=ar then !full ns else full ns)) g):
   (Va K neg (gP i)) σ H Q:=by
 refine⟨_,c,p,ns,Y,d,m,λl f k j h=>?_⟩;have e:ah H (upd H l (.lst (f.map V.int))):=cE k _;refine⟨_,c,p,ns.map V.int,Y,Row.same e d,_,Y,λr a=>⟨r,(ns.map V.int).length,Y,aW,by rw[Ya];omega,λu b=>?_⟩⟩;have n:=(e.trans (cE a (.kC 0 (((ns.map V.int).length:Nat):Int)))).trans (cE b (.lst ((bK (ns.map V.int).length).map V.int)));refine⟨l,u,f,bK (ns.map V.int).length,Y,Y,aj.of ?_,aj.of aW,?_⟩
 ·rw[aJ (bU ((cE a _) _ _ aW) b)];exact(cE a _) _ _ aW
 ·rw[Ya,Zcc j h]
  simp_all
theorem any_false(n:Nat):(List.replicate n a_).any id=a_:=by
 induction n with
 |zero=>rfl
 |succ n a=>simp_all
section
open PySem.AutoSeq1 (wpAny_loadPart')
open PySem.MeetsSeq PySem.SeqAt
def Za7(l:U)(a:dg a7)(n:Nat)(I:bS U)(B:dg (bS a7))(x:a7)(e:a7->cF)(j:Nat)(E:j<a.size)
  (p:e a[j]=ar)(J:∀m (L:m<a.size),m<j->e a[m]=a_):
  Meets (Builtin.«tuple.index» ⟨[.ref l,x],[]⟩)
   (λA R s=>s.heap.get? l=O {cls:=.type "tuple",dict:=I,data:=.seq a n,slots:=B}/\(∀y,y∈a->EqAt A.in1 s y x (e y))/\R (.ok (.ret (.int j s.toks))) {s with toks:=s.toks+1}):=
 .of_wp λf w A R s h=>by
  obtain⟨C,g,d,z,os⟩:=s;obtain⟨D,F,h⟩:=h
  wp_walk using X8 D
  show wpAny _ _ (forIn (m:=Sem) [:min a.size a.size] (aG,()) _) _ _ _;rw[Std.Legacy.Range.forIn_eq_forIn_range'];refine wpAny_forIn_list _ (λc b r=>r=⟨C,g,d,z,os⟩/\∃i,i<=j/\c=List.range' i (a.size-i)) _ ?_ ?_ _ _ ⟨Y,0,Yw _,QS⟩
  ·rintro k c b r ⟨rfl,i,u,t⟩;have q:=(pY u E)
   obtain⟨rfl,v⟩:k=i/\c=List.range' (i+1) (a.size-(i+1)):=by
    have e:a.size-i=(a.size-(i+1))+1:=QO
    rw[e,List.range'_succ] at t;injection t with H G;exact⟨H,G⟩
   rw[W4 q];refine bp (F _ (XQ q) f w _ _ ?_);rcases Nat.lt_or_ge k j with o|o
   ·rw[J k q o]
    wp_walk
    exact⟨Y,k+1,(l5 o),v⟩
   ·obtain rfl:k=j:=(i6 u o)
    rw[p]
    wp_walk
    exact⟨_,Y,h⟩
  ·(simp;omega)
end
def Zit(f:TE)(t:TA):TE:=λb H Q=>f b H λx d=>∃(p:U) (a:Z Int),x=.ref p/\d p=O (.tup (a.map V.int))/\t b d λe c=>∃(z:Int) (j:Nat),e=[.int z]/\c p=O (.tup (a.map V.int))/\a[j]?=O z/\(∀m,m<j->a[m]?≠O z)/\Q (.int (j:Int)) c
theorem Za8:∀{b:Z Int} {a:Z a7} {j:Nat} (h:j<a.length),Vals (b.map V.int) a->∃n t,b[j]?=O n/\a[j]=.int n t:=by
 intro b;induction b with
 |nil=>intro a j h r;cases r;simp at h
 |cons n b e=>
  intro a j h r;rw[Wv] at r;cases r with
  |cons r t=>
   cases j with
   |zero=>
    obtain⟨c,rfl⟩:=r;exact⟨n,c,Y,Y⟩
   |succ j=>
    obtain⟨d,c,g,f⟩:=e (by simpa using h) t;exact⟨d,c,by simpa using g,by simpa using f⟩
theorem Zd3(a:Z Int):(a.map V.int).all jP=ar:=by
 induction a with
 |nil=>rfl
 |cons n a b=>rw[Wv,Js,b];rfl
def OK(ho:PE X o to)(ha:PA X [e] t)
  (uh:attributeBase o "index" X.env (eval o X.env)=eval o X.env:=by rfl)
  (LK:((backTo k (starEach [e] X.env)).all (λx=>!x.1)&&(backToKw k (keywordEach [] X.env)).all (λx=>x.1.isSome)
   &&decide ([e].length+([]:Z Keyword).length+(if([]:Z Keyword).isEmpty then 0 else 1)<30))=ar:=by rfl)
  (W:(apos.endLine==k.line)=ar:=by rfl)(hs:starEach [e] X.env=(a_,eval e X.env)::starEach [] X.env:=by rfl):
  PE X (.Call (.Attribute o "index" apos) [e] [] k) (Zit to t):=by
 intro b s q H Q I h;refine J6 uh LK W Y (az (ho b s q H _ I h) λv w l=>?_);obtain⟨x,T,R,r1,p,f,ex,hp,q1⟩:=l;subst ex;obtain rfl:v=Value.ref p:=r1;obtain⟨_,_,_,A,g,oc,_,_,od⟩:=(show cM X.prog X.w T w.heap p (.tup (f.map V.int)) from R.ay p _ hp);refine⟨"tuple","tuple.index",F.plainAttrs_tuple,V3,F.type_tuple_index,⟨A,g,oc⟩,λa ea=>by cases ea;exact⟨A,g,od⟩,?_⟩;have E:=ha k b w q T _ R q1;rw[hs] at E⊢;refine n7 Y (qf ?_);refine az E λus s2 l=>?_;obtain⟨vs,H2,P,r2,z,j,ev,eA,D,MK,q2⟩:=l;subst ev;obtain⟨u,rfl,ru⟩:=r2.one;obtain⟨r,rfl⟩:=ru;obtain⟨_,d,n,⟨cls,dd,J,sl⟩,G,N,n2,L,_⟩:=(P.ay p _ eA);simp only at N L;subst N L;have c:d.length=f.length:=by have:=n.length;rw[Ya] at this;exact nO this
 have ML:j<d.length:=by exact c▸(Yh.mp D).1
 have C:∀m (i:m<d.length),jb (.int z) d[m]=decide (f[m]?=O z):=λm i=>by
  obtain⟨B,t',e1,e2⟩:=Za8 i n;rw[e1,e2];show(B==z)=decide (O B=O z)
  grind
 refine uS V3 ⟨_,G,Y⟩ F.entry_tuple_index (F.args_tuple_index_2 _ _) (Za7 p d.toArray n2 dd sl (.int z r) (jb (.int z)) j (by rwa[Yt]) ?_ ?_) ⟨G,?_,?_⟩;·rw[M6,C j ML];exact d6 D
 ·intro m i bF;rw[M6,C m (by simpa using i)];exact ij (MK m bF)
 ·intro y hy;exact yL (x:=.int z) ⟨r,Y⟩ Y n (Zd3 f) y (by simpa using hy)
 ·exact⟨.int _,H2,P.tok _,⟨_,Y⟩,q2⟩
section
variable {X:Type}[DecidableEq X]
noncomputable def aL(a:Z (X×V))(k:X):bS V:=(a.find? λb=>decide (b.1=k)).map (·.2)
def putK(a:Z (X×V))(k:X)(v:V):Z (X×V):=
 if(a.any λb=>decide (b.1=k))=ar then a.map (λb=>if b.1=k then(b.1,v) else b) else a++[(k,v)]
noncomputable def iN(a:Z (X×V))(k:X):Z (X×V):=a.filter λb=>decide (b.1≠k)
def fU{k:X}(e:p.1=k):aL (p::r) k=O p.2:=by simp[aL,MM,e]
def fK{k:X}(e:¬p.1=k):aL (p::r) k=aL r k:=by simp[aL,MM,e]
theorem wc(k:X):∀a:Z (X×V),(a.any λb=>decide (b.1=k))=(aL a k).isSome
 |[]=>rfl
 |p::r=>by
  rw[J0];by_cases e:p.1=k;·simp[fU e,d6 e,Bool.true_or,Option.isSome_some]
  ·rw[fK e,ij e,DM];exact wc k r
theorem QQ(k j:X)(y:V):∀a:Z (X×V),aL (a.map λb=>if b.1=k then(b.1,y) else b) j=(aL a j).map λx=>if j=k then y else x
 |[]=>rfl
 |p::r=>by
  have c:=QQ k j y r;rw[Wv];by_cases h:p.1=k
  ·rw[bR h];by_cases e:p.1=j;·rw[fU (p:=(p.1,y)) e,fU e,Zf,bR (e.symm.trans h)]
   ·rw[fK (p:=(p.1,y)) e,fK e,c]
  ·rw[bt h];by_cases e:p.1=j;·rw[fU e,fU e,Zf,bt (λz=>h (e.trans z))]
   ·rw[fK e,fK e,c]
theorem vW(k j:X)(y:V):∀a:Z (X×V),aL a k=aG->aL (a++[(k,y)]) j=if j=k then O y else aL a j
 |[],_=>by
  by_cases e:k=j;·rw[bR e.symm];exact fU e
  ·rw[bt (λz=>e z.symm)];exact fK (p:=(k,y)) e
 |p::r,b=>by
  rw[XU];have c:¬p.1=k:=λz=>by rw[fU z] at b;cases b
  rw[fK c] at b;by_cases e:p.1=j;·rw[fU e,fU e,bt (λz=>c (e.trans z))]
  ·rw[fK e,fK e,(vW k j y r b)]
theorem Ze_(b:Z (X×V))(k j:X)(y:V):aL (putK b k y) j=if j=k then O y else aL b j:=by
 unfold putK;by_cases a:(b.any λc=>decide (c.1=k))=ar
 ·rw[bR a,QQ];rw[wc] at a;by_cases e:j=k
  ·obtain⟨x,d⟩:=Jl.mp a
   grind
  ·simp_all
 ·rw[bt a];refine vW k j y b ?_;rw[wc] at a;cases q:aL b k with
  |none=>rfl
  |some x=>grind
def A6(a:Z (X×V))(k:X)(v:V):(putK a k v).length<=a.length+1:=by
 unfold putK
 (split<;>simp_all)
def ko{k:X}(v:V)(h:aL a k=aG):putK a k v=a++[(k,v)]:=by
 unfold putK;rw[wc,h];rfl
theorem eS.vX(r:eS o u):o.isSome=u.isSome:=by
 cases o with
 |none=>cases u with
  |none=>rfl
  |some _=>exact(r).elim
 |some _=>cases u with
  |none=>exact(r).elim
  |some _=>rfl
theorem eS.getD(r:eS o u)(a:RelV d b):RelV (o.getD d) (u.getD b):=by
 cases o with
 |none=>cases u with
  |none=>exact a
  |some _=>exact(r).elim
 |some _=>cases u with
  |none=>exact(r).elim
  |some _=>exact r
theorem KV.val(r:KV c g)(k:X):eS (aL c k) (valueAt g k):=by
 unfold KV at r;induction r with
 |nil=>exact kJ
 |@cons p q i a h t j=>
  obtain⟨f,l⟩:=h;by_cases e:p.1=k
  ·have d:=f.symm.trans e;have b:valueAt (q::a) k=O q.2:=by simp[valueAt,MM,d]
   rwa[fU e,b]
  ·have d:¬q.1=k:=λz=>e (f.trans z);have b:valueAt (q::a) k=valueAt a k:=by simp[valueAt,MM,d]
   rwa[fK e,b]
theorem KV.any(r:KV a c)(k:X):(a.any λb=>decide (b.1=k))=c.any λb=>decide (b.1=k):=by
 induction r with
 |nil=>rfl
 |cons h t d=>simp_all
theorem KV.LQ(r:KV b c)(k:X)(e:RelV y u):
  KV (b.map λa=>if a.1=k then(a.1,y) else a) (c.map λa=>if a.1=k then(a.1,u) else a):=by
 induction r with
 |nil=>exact .nil
 |@cons p q g f h t d=>
  refine .cons ?_ d
  grind
def KV.put(r:KV a b)(k:X)(c:RelV y u):KV (putK a k y) (stored b k u):=by
 unfold putK stored;rw[r.any k];by_cases e:(b.any λd=>decide (d.1=k))=ar;·rw[bR e,bR e];exact r.LQ k c
 ·rw[bt e,bt e];exact Paired.snoc r ⟨Y,c⟩
theorem KV.drop(r:KV c f)(k:X):KV (iN c k) (without f k):=by
 unfold iN without;induction r with
 |nil=>exact .nil
 |@cons p q m l h t g=>
  obtain⟨d,i⟩:=h;rw[W9,W9];by_cases e:p.1=k;·simp_all
  ·have j:¬q.1=k:=λz=>e (d.trans z);have a:decide (p.1≠k)=ar:=by simp[e]
   have b:decide (q.1≠k)=ar:=by simp[j]
   rw[bR a,bR b];exact .cons ⟨d,i⟩ g
theorem KV.keys{a:Z (X×V)}(r:KV a b):a.map (·.1)=b.map (·.1):=by
 induction r with
 |nil=>rfl
 |cons h t c=>simp_all
def KV.length(r:KV a b):a.length=b.length:=Paired.length r
def QT(a:Z (X×V))(k:X):(iN a k).length<=a.length:=Wj _ _
end
theorem nM(r:RelV (kV k) u):(dR P w).is k u=ar:=by
 cases k with
 |inl i=>obtain⟨t,e⟩:=(show ∃t,u=Value.int i t from r);subst e;exact Zb4 P w i t
 |inr x=>obtain⟨t,e⟩:=(show ∃t,u=Value.str x t from r);subst e;exact Zb5 P w x t
theorem PY:∀{a:Z Key} {b:Z a7},Vals (a.map kV) b->ItemsAre (dR P w) a b
 |[],_,r=>by rw[z6] at r;cases r;exact .nil
 |k::a,_,r=>by
  cases r with
  |cons h t=>exact .cons (nM h) (PY t)
abbrev KT(H:Hp):Z (Z Key×V)->Z (Z Key×U×a7)->Prop:=Paired λp q=>p.1=q.1/\H q.2.1=O (.tup (p.1.map kV))/\RelV p.2 q.2.2
theorem KT.val(r:KT H c xs)(k:Z Key):eS (aL c k) ((atKey xs k).map (·.2)):=by
 induction r with
 |nil=>exact kJ
 |@cons p q g a h t i=>
  refine c7 h λf _ j=>?_;by_cases e:p.1=k
  ·have d:=f.symm.trans e;have b:atKey (q::a) k=O q.2:=by simp[atKey,d]
   rwa[fU e,b]
  ·have d:¬q.1=k:=λz=>e (f.trans z);have b:atKey (q::a) k=atKey a k:=by simp[atKey,d]
   rwa[fK e,b]
theorem KT.LQ(r:KT H a xs)(k:Z Key)(d:RelV y u):
  KT H (a.map λb=>if b.1=k then(b.1,y) else b) (xs.map (putAt k u)):=by
 induction r with
 |nil=>exact .nil
 |@cons p q f e h t c=>
  refine .cons ?_ c;unfold putAt
  (split<;>simp_all)
def KT.put(r:KT H a xs)(k:Z Key)(f:H b=O (.tup (k.map kV)))(c:RelV y u):
  KT H (putK a k y) (storedH xs k b u):=by
 have e:(a.any λd=>decide (d.1=k))=(atKey xs k).isSome:=by
  rw[wc,(r.val k).vX,XW]
 unfold putK storedH;rw[e];by_cases q:(atKey xs k).isSome=ar;·rw[bR q,bR q];exact r.LQ k c
 ·rw[bt q,bt q];exact Paired.snoc r ⟨Y,f,c⟩
def KT.keeps(r:KT H a xs)(d:∀b c,H b=O (.tup c)->e b=O (.tup c)):KT e a xs:=
 Paired.bN r λ_ _ z=>⟨z.1,d _ _ z.2.1,z.2.2⟩
def Vb(b:dv P w H h)(e:Rd H a u):cM P w H h a u:=e.ok b
def qF(c:dv P w H h)(e:Rd H a (.dK b)):b.length<=sizeLine/\(a==sysModules)=a_/\∃vs,KV b vs/\h.DictOf (dR P w) a vs:=
 Vb c e
def nN(c:dv P w H h)(e:H a=O (.dK b)):b.length<=sizeLine/\(a==sysModules)=a_/\∃vs,KV b vs/\h.DictOf (dR P w) a vs:=qF c (.inl e)
def qA(b:dv P w H h)(e:H a=O (.tup (c.map kV))):(tupleKind (dR P w)).is h c a:=by
 obtain⟨_,i,r,o,g,f,n,d,_⟩:=(b a _ e);exact⟨o,i.toArray,n,g,f,d,by simpa using PY r⟩
theorem r8(d:dv P w H h)(e:Rd H a (.dT b)):b.length<=sizeLine/\(a==sysModules)=a_/\
  ∃xs,KT H b xs/\h.DictOfH (tupleKind (dR P w)) a xs:=by
 obtain⟨z,y,xs,r,o,u,v,s,n,k,j,i⟩:=(Vb d e);refine⟨z,y,xs,r,o,u,v,s,n,k,j,λx c=>?_,i⟩;have all:∀{l:Z (Z Key×V)} {m:Z (Z Key×U×a7)},KT H l m->∀x∈m,(tupleKind (dR P w)).is h x.1 x.2.1:=by
  intro l m q;induction q with
  |nil=>grind
  |@cons p q B A f t g=>
   intro x c;rcases Yp.mp c with e|c
   ·subst e;exact qA d (by exact f.1▸f.2.1)
   ·exact g x c
 grind
def Lk(c:dv P w H h)(e:H a=O (.dT b)):b.length<=sizeLine/\(a==sysModules)=a_/\
  ∃xs,KT H b xs/\h.DictOfH (tupleKind (dR P w)) a xs:=r8 c (.inl e)
def fD(H:Hp)(a:U)(y:V)(r:bS V):Prop:=
 (∃c k,Rd H a (.dK c)/\y=kV k/\r=aL c k)\/∃c k b,Rd H a (.dT c)/\y=.ref b/\H b=O (.tup (k.map kV))/\r=aL c k
def uy(H:Hp)(a:U)(y v:V)(d:Hp):Prop:=
 (∃c k,H a=O (.dK c)/\y=kV k/\c.length<sizeLine/\d=upd H a (.dK (putK c k v)))\/
 ∃c k b,H a=O (.dT c)/\y=.ref b/\H b=O (.tup (k.map kV))/\c.length<sizeLine/\d=upd H a (.dT (putK c k v))
def fD.k{k:Key}(e:H a=O (.dK b)):fD H a (kV k) (aL b k):=.inl ⟨b,k,.inl e,Y,Y⟩
def fD.t{H:Hp}{a b:U}{c:Z (Z Key×V)}{k:Z Key}(e:H a=O (.dT c))(d:H b=O (.tup (k.map kV))):fD H a (.ref b) (aL c k):=.inr ⟨c,k,b,.inl e,Y,d,Y⟩
def uy.k{k:Key}(e:H a=O (.dK b))(c:b.length<sizeLine):uy H a (kV k) v (upd H a (.dK (putK b k v))):=.inl ⟨b,k,e,Y,c,Y⟩
def uy.t{H:Hp}{a b:U}{c:Z (Z Key×V)}{k:Z Key}{v:V}(e:H a=O (.dT c))(f:H b=O (.tup (k.map kV)))(d:c.length<sizeLine):
  uy H a (.ref b) v (upd H a (.dT (putK c k v))):=.inr ⟨c,k,b,e,Y,f,d,Y⟩
def Inv.big(I:Inv X pins σ H s):sysModules<s.heap.objs.size:=by
 exact tr QD ((I.mod.glob.keeps I.bk).lt)
def Zd4(r:A.units+1<cLine)(I:Inv X pins σ H s)(g:fD H a y (O v))(q:RelV y u)(h:∀d o,Inv X pins σ H o->RelV v d->Q d o):
  wpAny X.md A (getItem (.ref a) u) Q E s:=by
 rcases g with⟨f,k,e,m,l⟩|⟨f,k,b,e,m,w,l⟩
 ·subst m;obtain⟨z,hd,C,c,n⟩:=qF I.ay e;obtain⟨d,j,i⟩:=eS.some_of (by exact l▸c.val k);exact wpAny_getItem_of (nM q) n.mapOf j (h d _ (I.tok _) i)
 ·subst m;cases q;obtain⟨z,hd,B,c,n⟩:=r8 I.ay e;obtain⟨d,j,i⟩:=eS.some_of (by exact l▸c.val k);refine bh (Option.map_eq_some_iff.mp j) λp t x=>?_;refine wpAny_getItem_heap (pE r) (qA I.ay w) n t ?_;exact x▸h d _ (I.tok _) i
def ZkA(n:A.units+1<cLine)(I:Inv X pins σ H s)(g:fD H a y o)(m:RelV y u)(h:∀j,Inv X pins σ H j->Q (.bool o.isSome) j):
  wpAny X.md A (compareOp .In u (.ref a)) Q E s:=by
 rcases g with⟨d,k,e,f,l⟩|⟨d,k,b,e,f,p,l⟩
 ·subst f;obtain⟨z,hd,t,c,i⟩:=qF I.ay e;refine wpAny_in_of (nM m) hd i.mapOf ?_;rw[←(c.val k).vX,←l];exact h _ (I.tok _)
 ·subst f;cases m;obtain⟨z,hd,r,c,i⟩:=r8 I.ay e;refine wpAny_in_heap (pE n) (qA I.ay p) hd i ?_;have q:=(c.val k).vX;rw[XW] at q;rw[←q,←l];exact h _ (I.tok _)
def ZgD(n:A.units+1<cLine)(I:Inv X pins σ H s)(g:fD H a y o)(m:RelV y u)(h:∀j,Inv X pins σ H j->Q (.bool (!o.isSome)) j):
  wpAny X.md A (compareOp .NotIn u (.ref a)) Q E s:=by
 rcases g with⟨d,k,e,f,l⟩|⟨d,k,b,e,f,p,l⟩
 ·subst f;obtain⟨z,hd,t,c,i⟩:=qF I.ay e;refine wpAny_notIn_of (nM m) hd i.mapOf ?_;rw[←(c.val k).vX,←l];exact h _ (I.tok _)
 ·subst f;cases m;obtain⟨z,hd,r,c,i⟩:=r8 I.ay e;refine wpAny_notIn_heap (pE n) (qA I.ay p) hd i ?_;have q:=(c.val k).vX;rw[XW] at q;rw[←q,←l];exact h _ (I.tok _)
def rR(I:Inv X pins σ H s)(f:zR (H a))(g:Heap.SameBut a s.heap d)(h:∃q,d.get? a=O q)(c:cM X.prog X.w (upd H a e) d a e):
  Inv X pins σ (upd H a e) {s with heap:=d,toks:=j}:=
 I.write f (.inl Y) (λb q i z=>(g.2 b i).trans z) h c
def zd(z:b.length<=sizeLine)(e:(a==sysModules)=a_)(c:KV b d)(g:f.DictOf (dR P w) a d):
  cM P w h f a (.dK b):=⟨z,e,d,c,g⟩
def PZ(L:A.units+1<cLine)(I:Inv X pins σ H s)(g:uy H a y v H')(x:RelV y u)(B:RelV v r)(h:∀w,Inv X pins σ H' w->Q () w):
  wpAny X.md A (setItem (.ref a) u r) Q E s:=by
 rcases g with⟨f,k,e,o,l,p⟩|⟨f,k,b,e,o,D,l,p⟩
 ·subst o p;obtain⟨z,hd,G,d,t⟩:=nN I.ay e;have J:G.length<=sizeLine:=by rwa[←d.length]
  have n:(putK f k v).length<=sizeLine:=by have:=A6 f k v;exact lR this (uX l)
  refine wpAny_setItem_pairs (nM x) t λC i m=>h _ ?_;have N:∃q,C.get? a=O q:=let⟨q,_,_,j,_⟩:=i;⟨q,j⟩;exact rR I (by exact e▸kJ) m N (zd n hd (d.put k B) i)
 ·subst o p;cases x;obtain⟨z,hd,F,d,t⟩:=Lk I.ay e;have J:F.length<=sizeLine:=by rwa[←Paired.length d]
  have n:(putK f k v).length<=sizeLine:=by have:=A6 f k v;exact lR this (uX l)
  refine wpAny_setItem_heap (pE L) (qA I.ay D) t λC i m=>h _ ?_;refine lG i λq es ep j W T R _ P=>?_;refine rR I (by exact e▸kJ) m ⟨q,j⟩ ⟨n,hd,_,(d.put k D B).keeps λc ys ec=>?_,q,es,ep,j,W,T,R,P⟩;rwa[aJ (K8 ec e (λz=>nomatch z))]
def Zd5(I:Inv X pins σ H s)(e:H a=O (.dK c))(j:RelV (kV k) u)(l:(aL c k).isSome=ar)(h:∀f,Inv X pins σ (upd H a (.dK (iN c k))) f->Q () f):
  wpAny X.md A (delItem (.ref a) u) Q E s:=by
 obtain⟨z,hd,i,b,d⟩:=nN I.ay e;refine SF d.typeIs QD ve
  (pQ ve d.typeIs DD (Dx _ _) (meets_dict_delitem_pairs (dR X.prog X.w) a (nM j)) ⟨i,d,by rw[←b.length];exact z,by rwa[←(b.val k).vX],λp g m=>h _ ?_⟩)
 have o:∃q,p.get? a=O q:=let⟨q,_,_,n,_⟩:=g;⟨q,n⟩;exact rR I (by exact e▸kJ) m o (zd (Yy (QT c k) z) hd (b.drop k) g)
theorem ZjI(I:Inv X pins σ H s)(e:H a=O (.dK c))(f:RelV (kV k) u)(l:aL c k=O v)(m:more=[]\/∃x,more=[x])
  (h:∀d g,Inv X pins σ (upd H a (.dK (iN c k))) g->RelV v d->Q d g):wpAny X.md A (call (.builtin "dict.pop") (.ref a::u::more)) Q E s:=by
 obtain⟨z,hd,o,b,n⟩:=nN I.ay e;obtain⟨d,r,p⟩:=eS.some_of (v:=v) (by exact l▸b.val k);have B:(keyPart u).isSome=ar:=by
  cases k with
  |inl i=>obtain⟨t,q⟩:=(show ∃t,u=Value.int i t from f);subst q;rfl
  |inr x=>obtain⟨t,q⟩:=(show ∃t,u=Value.str x t from f);subst q;rfl
 have D:argsOk "dict.pop" ⟨.ref a::u::more,[]⟩:=by
  rcases m with q|⟨x,q⟩;·subst q;exact PySem.F.args_dict_pop_2 _ _
  ·subst q;exact PySem.F.args_dict_pop_3 _ _ _
 refine pQ slot_dict_pop n.typeIs PySem.F.entry_dict_pop D (meets_dict_pop_there (dR X.prog X.w) a (nM f) more m B)
  ⟨o,d,n,by rwa[←b.length],r,λF j w=>h d _ ?_ p⟩
 have C:∃q,F.get? a=O q:=let⟨q,_,_,y,_⟩:=j;⟨q,y⟩;exact rR I (by exact e▸kJ) w C (zd (Yy (QT c k) z) hd (b.drop k) j)
def ZjJ(I:Inv X pins σ H s)(e:Rd H a (.dK c))(h:∀t d,Inv X pins σ H d->Q (.int c.length t) d):wpAny X.md A (call (.builtin "len") [.ref a]) Q E s:=by
 obtain⟨z,hd,g,b,f⟩:=qF I.ay e;refine call_len_dict hd f (by rw[←b.length];rw[du] at z;omega) ?_;exact b.length▸h _ _ (I.tok _)
def VZ(i:cV):Prop:=∀a b,subscripted i a_ a b=operate [a,b] (getItem a b)
theorem ZgE{a:dC}{w:dm}{A:gb}{E:bg}{s:cb}{d:Env}{c b:cV}{f:Pos}{T id:String}{Q:bg}
  (n:typeLookup (.type T) "__getitem__"=pure (O (.builtin id)))(m:VZ b)
  (h:wpAny (model a w) A (eval c d) (λo j=>wpAny (model a w) A (eval b d) (λi fC=>fC.TypeIs o T/\wpAny (model a w) A (getItem o i) Q E fC) E j) E s):
  wpAny (model a w) A (eval (.Subscript c b f) d) Q E s:=by
 refine Subscript_ (eH h (λo j l=>eH l (λi fC e=>?_) λ_ _ x=>x) λ_ _ x=>x);obtain⟨p,e⟩:=e;refine bp (bp (wpAny_specialOf p n ?_));have fin:wpAny (model a w) A (subscripted b a_ o i) (λr g=>wpAny (model a w) A (letTemporaryGo c o r>>=λ_=>pure r) Q E g) E fC:=by
  rw[m o i];exact wpAny_operating (eH e (λr g k=>bp (wpAny_letTemporaryGo (cR k))) λ_ _ x=>x)
 first
  |exact cR (bp fin)
  |exact bp (cR (bp fin))
  |exact bp fin
def Zcd(I:Inv X pins σ H s)(g:fD H a y o):s.TypeIs (.ref a) "dict":=by
 rcases g with⟨c,k,e,_,_⟩|⟨c,k,b,e,_,_,_⟩
 ·obtain⟨_,_,h,_,d⟩:=qF I.ay e;exact d.typeIs
 ·obtain⟨_,_,f,_,d⟩:=r8 I.ay e;exact d.typeIs
inductive Sb(Q:VK)(x:V)(y:V)(b:Hp):Prop
 |mk (a v) (e:x=.ref a) (d:fD b a y (O v)) (c:Q v b):Sb Q x y b
def ZjK(c b:TE):TE:=λa H Q=>c a H λx e=>b a e λy d=>Sb Q x y d
inductive T4(Q:VK)(y:V)(x:V)(b:Hp):Prop
 |mk (a o) (e:x=.ref a) (d:fD b a y o) (c:Q (.bl o.isSome) b):T4 Q y x b
def ZkB(b c:TE):TE:=λa H Q=>b a H λy e=>c a e λx d=>T4 Q y x d
inductive P0(Q:VK)(y:V)(x:V)(b:Hp):Prop
 |mk (a o) (e:x=.ref a) (d:fD b a y o) (c:Q (.bl (!o.isSome)) b):P0 Q y x b
def ZgF(b c:TE):TE:=λa H Q=>b a H λy e=>c a e λx d=>P0 Q y x d
def dy(q:X.A.units+1<cLine)(t:PE X o f)(w:PE X i ty)(r:VZ i):PE X (.Subscript o i pos) (ZjK f ty):=by
 intro b s d H Q I h;refine ZgE PySem.F.slot_dict_getitem.lookup r (az (t b s d H _ I h) λu j c=>?_);obtain⟨x,D,B,l,n⟩:=c;refine az (w b j d D _ B n) λJ G c=>?_;obtain⟨y,C,e,k,a,v,z,g,m⟩:=c;subst z;obtain rfl:u=Value.ref a:=l;exact⟨Zcd e g,Zd4 q e g k λE F A p=>⟨v,C,A,p,m⟩⟩
def Cc(p:X.A.units+1<cLine)(r:PE X i ty)(q:PE X o e):PC X .In i o (ZkB ty e):=by
 intro b s d H Q I h;refine az (r b s d H _ I h) λE f c=>?_;obtain⟨y,B,z,j,m⟩:=c;refine az (q b f d B _ z m) λu D c=>?_;obtain⟨x,A,w,k,a,n,t,g,l⟩:=c;subst t;obtain rfl:u=Value.ref a:=k;exact ZkA p w g j λC v=>⟨.bl n.isSome,A,v,Y,l⟩
def nG(p:X.A.units+1<cLine)(r:PE X i ty)(q:PE X o e):PC X .NotIn i o (ZgF ty e):=by
 intro b s d H Q I h;refine az (r b s d H _ I h) λE f c=>?_;obtain⟨y,B,z,j,m⟩:=c;refine az (q b f d B _ z m) λu D c=>?_;obtain⟨x,A,w,k,a,n,t,g,l⟩:=c;subst t;obtain rfl:u=Value.ref a:=k;exact ZgD p w g j λC v=>⟨.bl (!n.isSome),A,v,Y,l⟩
def QV(h:cX)(a:sysModules<h.objs.size):cM P w H (h.push {cls:=.type "dict",data:=.dict #[]}) h.objs.size (.dK []):=
 ⟨Yw _,beq_eq_false_iff_ne.mpr (kK (Y2 a)),[],.nil,Heap.DictOf.new h⟩
def Zfa(h:cX)(a:sysModules<h.objs.size):cM P w H (h.push {cls:=.type "dict",data:=.dict #[]}) h.objs.size (.dT []):=
 ⟨Yw _,beq_eq_false_iff_ne.mpr (kK (Y2 a)),[],.nil,_,#[],0,Yu _ Y,⟨Y,Y,Y⟩,Y,Y,W5⟩
def Ziu:TE:=λ_ H Q=>∀p,H p=aG->Q (.ref p) (upd H p (.dK []))
def Ziv:TE:=λ_ H Q=>∀p,H p=aG->Q (.ref p) (upd H p (.dT []))
def Zfb:PE X (.Dict [] [] pos) Ziu:=λa s b H Q I h=>
 X0 ⟨.ref s.heap.objs.size,_,I.laid (λ _ _=>Yc _) (Ye _) (QV s.heap I.big),Y,h _ (I.ay.fresh (Ye _))⟩
def Zfc:PE X (.Dict [] [] pos) Ziv:=λa s b H Q I h=>
 X0 ⟨.ref s.heap.objs.size,_,I.laid (λ _ _=>Yc _) (Ye _) (Zfa s.heap I.big),Y,h _ (I.ay.fresh (Ye _))⟩
def KO:Z (TE×TE)->St->Hp->(Z (V×V)->Hp->Prop)->Prop
 |[],_,H,Q=>Q [] H
 |(tk,tv)::r,σ,H,Q=>tk σ H λx d=>tv σ d λy c=>KO r σ c λa b=>Q ((x,y)::a) b
abbrev VV:Z (V×V)->Z (a7×a7)->Prop:=Paired λp q=>RelV p.1 q.1/\RelV p.2 q.2
def DN(X:Cx)(e:Pos)(c:Z (bS cV))(a:Z cV)(i:Z (TE×TE)):Prop:=
 ∀(b:aV) (s:cb) (d:St) (H:Hp) (Q:Z (V×V)->Hp->Prop),Inv X b d H s->KO i d H Q->
  wpAny X.md X.A (evalPairs (pairTrees c a X.env e)) (λh j=>∃f g,Inv X b d g j/\VV f h/\Q f g) X.xe s
def BR:DN X pos [] [] []:=λa s b H Q I h=>pairTrees_nil_walk ⟨[],H,I,.nil,h⟩
def kR(z:PE X k g)(t:PE X v f)(w:DN X pos r d e):
  DN X pos (O k::r) (v::d) ((g,f)::e):=λa s b H Q I h=>
 pairTrees_cons_walk (az (z a s b H _ I h) λu j ⟨x,F,C,m,p⟩=>az (t a j b F _ C p) λJ i ⟨y,E,B,l,o⟩=>
  az (w a i b E _ B o) λG L T=>by obtain⟨q,D,A,c,n⟩:=T;exact⟨(x,y)::q,D,A,.cons ⟨m,l⟩ c,n⟩)
def qB(b a:Z (Key×V)):Z (Key×V):=a.foldl (λc d=>putK c d.1 d.2) b
theorem KV.merge:∀{more:Z (Key×V)} {c:Z (Key×a7)} {a:Z (Key×V)} {b:Z (Key×a7)},KV more c->KV a b->KV (qB a more) (merged b c):=by
 intro more c a b r;induction r generalizing a b with
 |nil=>intro q;exact q
 |@cons p q i g h t f=>
  intro d;have e:KV (putK a p.1 p.2) (stored b q.1 q.2):=by
   have:=d.put p.1 h.2
   grind
  exact f e
theorem OB:∀(more a:Z (Key×V)),(qB a more).length<=a.length+more.length
 |[],a=>by exact qd _
 |p::r,a=>by
  have c:=OB r (putK a p.1 p.2);have b:=A6 a p.1 p.2;show(qB (putK a p.1 p.2) r).length<=_
  grind
theorem O6:∀{d:Z (Key×V)} {f:Z (a7×a7)},VV (d.map λg=>(kV g.1,g.2)) f->∃e,Carries (dR P w) f e/\KV d e
 |[],_,r=>by rw[z6] at r;cases r;exact⟨[],kJ,.nil⟩
 |p::d,_,r=>by
  cases r with
  |@cons a b as bs h t=>
   obtain⟨e,c,q⟩:=O6 t;obtain⟨j,i⟩:=b;exact⟨(p.1,i)::e,⟨nM h.1,Y,c⟩,.cons ⟨Y,h.2⟩ q⟩
def ZjL(e:Z (TE×TE)):TE:=λd H Q=>∀p,H p=aG->KO e d (upd H p (.dK [])) λf c=>c p=O (.dK [])/\∃a:Z (Key×V),f=a.map (λb=>(kV b.1,b.2))/\a.length<=15/\Q (.ref p) (upd c p (.dK (qB [] a)))
def BU(h:DN X pos keys values l)(B:keys.all (·.isSome)=ar)(v:keys.length=values.length)(x:keys≠[])
  (f:keys.length<=15):PE X (.Dict keys values pos) (ZjL l):=by
 intro a s j H Q I q;refine wpAny_Dict_walk (knd:=dR X.prog X.w) B v x f (az (h a _ j _ _ (I.laid (λ _ _=>Yc _) (Ye _) (QV s.heap I.big)) (q _ (I.ay.fresh (Ye s.heap.objs.size)))) λC D L=>?_);obtain⟨E,J,i,d,e,b,y,F,p⟩:=L;subst y;obtain⟨m,c,n⟩:=O6 d;obtain⟨z,hd,k,o,A⟩:=nN i.ay e;cases o;refine⟨m,c,A,λG g t=>⟨.ref s.heap.objs.size,_,?_,Y,p⟩⟩;have r:(qB [] b).length<=sizeLine:=by
  have w:=OB b [];rw[XE] at w;rw[du];omega
 exact rR i (by exact e▸kJ) t (let⟨q,_,_,u,_⟩:=g;⟨q,u⟩) (zd r hd (n.merge .nil) g)
structure M1(X:Cx)(o:cV)(m:af)(apos:Pos)(e:cV)(cy:Pos):Prop where
 base:attributeBase o m X.env (eval o X.env)=eval o X.env
 jz:((backTo cy (starEach [e] X.env)).all (λx=>!x.1)&&(backToKw cy (keywordEach [] X.env)).all (λx=>x.1.isSome)
  &&decide (([e]:Z cV).length+([]:Z Keyword).length+(if([]:Z Keyword).isEmpty then 0 else 1)<30))=ar
 line:(apos.endLine==cy.line)=ar
 trees:backTo cy (starEach [e] X.env)=[(a_,eval e X.env)]
structure M2(X:Cx)(o:cV)(m:af)(apos:Pos)(e f:cV)(cy:Pos):Prop where
 base:attributeBase o m X.env (eval o X.env)=eval o X.env
 jz:((backTo cy (starEach [e,f] X.env)).all (λx=>!x.1)&&(backToKw cy (keywordEach [] X.env)).all (λx=>x.1.isSome)
  &&decide (([e,f]:Z cV).length+([]:Z Keyword).length+(if([]:Z Keyword).isEmpty then 0 else 1)<30))=ar
 line:(apos.endLine==cy.line)=ar
 trees:backTo cy (starEach [e,f] X.env)=[(a_,eval e X.env),(a_,eval f X.env)]
def xy(H:Hp)(a:U):Prop:=(∃b,Rd H a (.dK b))\/∃b,Rd H a (.dT b)
def wz(I:Inv X pins σ H s)(d:xy H a):
  s.TypeIs (.ref a) "dict"/\(∀b,Value.ref a=.ref b->∃c,s.heap.get? b=O c/\c.dict=aG)/\(a==sysModules)=a_:=by
 rcases d with⟨g,e⟩|⟨g,e⟩
 ·obtain⟨_,hd,k,_,f⟩:=qF I.ay e;refine⟨f.typeIs,λb q=>?_,hd⟩;cases q;refine pk f λc _ _ i h _=>?_;exact⟨c,i,h.2.1⟩
 ·obtain⟨_,hd,j,_,f⟩:=r8 I.ay e;refine⟨f.typeIs,λb q=>?_,hd⟩;cases q;refine pk f λc _ _ i h _=>?_;exact⟨c,i,h.2.1⟩
def Ziw(q:A.units+1<cLine)(I:Inv X pins σ H s)(g:fD H a y o)(n:RelV y u)(h:∀j m,Inv X pins σ H m->RelV (o.getD .aA) j->Q j m):
  wpAny X.md A (call (.builtin "dict.get") [.ref a,u]) Q E s:=by
 rcases g with⟨f,k,e,i,l⟩|⟨f,k,b,e,i,r,l⟩
 ·subst i;obtain⟨z,hd,t,c,d⟩:=qF I.ay e;refine pQ tc d.typeIs vr (HU _ _) (meets_dict_get (dR X.prog X.w) a (nM n) hd) ⟨_,d.mapOf,h _ _ (I.tok _) ?_⟩;exact l▸(c.val k).getD Y
 ·subst i;cases n;obtain⟨z,hd,p,c,d⟩:=r8 I.ay e;refine pQ tc d.typeIs vr (HU _ _) (meetsH_dict_get (tupleKind (dR X.prog X.w)) a b hd) ⟨pE q,k,p,qA I.ay r,d,h _ _ (I.tok _) ?_⟩;exact l▸(c.val k).getD Y
def Zix(v:A.units+1<cLine)(I:Inv X pins σ H s)(g:fD H a y o)(p:RelV y u)(q:RelV d r)(h:∀m n,Inv X pins σ H n->RelV (o.getD d) m->Q m n):
  wpAny X.md A (call (.builtin "dict.get") [.ref a,u,r]) Q E s:=by
 rcases g with⟨i,k,e,j,l⟩|⟨i,k,b,e,j,w,l⟩
 ·subst j;obtain⟨z,hd,x,c,f⟩:=qF I.ay e;refine pQ tc f.typeIs vr (G2 _ _ _) (meets_dict_get_default (dR X.prog X.w) a (nM p) hd r) ⟨_,f.mapOf,h _ _ (I.tok _) ?_⟩;exact l▸(c.val k).getD q
 ·subst j;cases p;obtain⟨z,hd,t,c,f⟩:=r8 I.ay e;refine pQ tc f.typeIs vr (G2 _ _ _) (meetsH_dict_get_default (tupleKind (dR X.prog X.w)) a b hd r) ⟨pE v,k,t,qA I.ay w,f,h _ _ (I.tok _) ?_⟩;exact l▸(c.val k).getD q
def Ziy(f e:TE):TE:=λb H Q=>f b H λx d=>∃a,x=.ref a/\xy d a/\e b d λy c=>∃o,fD c a y o/\Q (o.getD .aA) c
def Ziz(g e f:TE):TE:=λb H Q=>g b H λx d=>∃a,x=.ref a/\xy d a/\e b d λy h=>f b h λz c=>∃o,fD c a y o/\Q (o.getD z) c
def Zfd(w:X.A.units+1<cLine)(z:PE X o j)(A:PE X e ty)(m:M1 X o "get" apos e C):PE X (.Call (.Attribute o "get" apos) [e] [] C) (Ziy j ty):=by
 intro b s c H Q I h;refine uA m.base m.jz m.line sY tc type_dict_get (az (z b s c H _ I h) λu n i=>?_);obtain⟨x,G,f,q,a,B,d,t⟩:=i;subst B;obtain rfl:u=Value.ref a:=q;refine c7 (wz f d) λl k _=>?_;refine⟨l,k,?_⟩;exact m.trees▸n7 Y (qf (oy (az (A b n c G _ f t) λR N ⟨y,F,E,p,P,g,r⟩=>sA (Ziw w E g p λJ L D v=>⟨_,F,D,v,r⟩))))
def QW(E:X.A.units+1<cLine)(F:PE X o l)(J:PE X e ty)(G:PE X f k)(m:M2 X o "get" apos e f N):PE X (.Call (.Attribute o "get" apos) [e,f] [] N) (Ziz l ty k):=by
 intro b s c H Q I h;refine uA m.base m.jz m.line sY tc type_dict_get (az (F b s c H _ I h) λu r j=>?_);obtain⟨x,H1,i,w,a,L,d,C⟩:=j;subst L;obtain rfl:u=Value.ref a:=w;refine c7 (wz i d) λp n _=>?_;refine⟨p,n,?_⟩;rw[m.trees];refine n7 Y (qf (oy (az (J b r c H1 _ i C) λiv q ⟨y,H2,T,v,B⟩=>
  oy (az (G b q c H2 _ T B) λfv s3 ⟨z,W,R,t,ov,g,A⟩=>sA ?_))))
 exact Zix E R g v t λw' s4 P D=>⟨_,W,P,D,A⟩
def wF(P:dC)(w:dm)(K:ag)(c:aR)(a:cX)(k:Nat)(x:af)(C:U)(b:Z af)(e:Sp):Prop:=
 ∃f d,Mk K C f/\aE P w K c a aO k f d b e/\Binds K d b []/\c x=O (.ref C)
def cJ(P:dC)(w:dm)(K:ag)(e:aR)(a:cX)(k:Nat)(m:af)(C:U)(b:Z af)(d:Sp):Prop:=
 ∃f c,gT K C/\Meth K C m f/\aE P w K e a aO k f c b d/\Binds K c b []
def T5(P:dC)(w:dm)(K:ag)(e:aR)(a:cX)(k:Nat)(m:af)(C:U)(b:Z af)(d:Sp):Prop:=
 ∃f c,gT K C/\Meth K C m f/\aE P w K e a (oa P w) k f c b d/\Binds K c b []
section
variable {X:Cx}{k j:Nat}{x m:af}{C:U}{ps:Z af}{Q:Sp}{p W T:Pos}{o e:cV}{R:Z cV}{t:TA}{P:TE}
def Ll(h:wF X.prog X.w X.K X.mg X.base k x C ps Q)(c:cA j X.A)(g:k+1<=j)(i:Gl X x)(n:PA X (e::R) t)(q:(x==("__debug__":af))=a_:=by decide)
  (l:i8 X e R:=by rfl)(r:jw X W R:=by rfl):PE X (.Call (.Name x p) (e::R) [] W) (UW C Q [] E0 t):=by
 refine d5 h λf s a F b d=>?_;exact Zgk a F (c.mono g) i d b .nil wC n q l r
def df(h:cJ X.prog X.w X.K X.mg X.base k m C ps Q)(g:cA j X.A)(n:k<=j)(i:PE X o P)(q:PA X (e::R) t)
  (r:i8 X e R:=by rfl)(s:jw X W R:=by rfl)
  (d:eval (.Call (.Attribute o m T) (e::R) [] W) X.env=(do
   let a←eval o X.env
   standAt T.atName
   let(f,first)←holding [a] (getMethod a m u)
   callWith W f first (backTo W (starEach (e::R) X.env)) (backToKw W (keywordEach [] X.env))):=by rfl):
  PE X (.Call (.Attribute o m T) (e::R) [] W) (Cs C m Q [] E0 P t):=by
 refine d5 h λf v c l F b=>?_;exact Zgj i c l F (g.mono n) b .nil wC q r s d
end
def wm{K:ag}(h:X.K=K)(b:PE X e a)(c:attributeBase e f X.env (eval e X.env)=eval e X.env):PE X (.Attribute e f pos) (LI K a f):=h▸ZhV b c
section
open PySem.AutoSeq1 (wpAny_loadPart')
def Zd6(a b x:Int):(Builtin.Range.rangePlace? a b 1 x).isSome=decide (a<=x/\x<b):=by
 unfold Builtin.Range.rangePlace?
 grind
def Zar(p:U)(f i x:Int)(a b c t:Tok):
  Meets (Builtin.«range.__contains__» ⟨[.ref p,.int x t],[]⟩)
   (λ_ R s=>s.heap.get? p=O {cls:=.type "range",data:=.fields #[.int f a,.int i b,.int 1 c]}/\R (.ok (.ret (.bool (decide (f<=x/\x<i))))) s):=
 .of_wp λe w A R s h=>by
  obtain⟨l,g,d,k,os⟩:=s;obtain⟨j,h⟩:=h;rw[←Zd6] at h
  wp_walk using X8 j
  simp_all
end
def ZiA(a:cF):R2:=λx y H Q=>∃(i lo b:Int) (p:U),x=.int i/\y=.ref p/\H p=O (.kC lo b)/\Q (.bl (if a=ar then !decide (lo<=i/\i<b) else decide (lo<=i/\i<b))) H
def Zbx:cK X (compareOp .NotIn) (ZiA ar):=by
 intro d s k H x y v u Q I f e n;refine pz n λi lo j p m l h q=>?_;subst m;subst l;obtain⟨t,rfl⟩:=f;cases e;obtain⟨a,b,c,g⟩:=I.ay p _ h;exact SeqRoads2.notIn_meets ⟨_,g,Y⟩ F.slot_range_contains F.entry_range_contains (F.args_range_contains_2 _ _) (Zar p lo j i a b c t) ⟨g,_,Y,.bl _,H,I,Y,q⟩
def vJ(p:Nat->cF)(n:Nat):(List.range (n+1)).filter p=(List.range n).filter p++(if p n=ar then[n] else[]):=by
 rw[Zg,Ws]
 grind
theorem kj{b a:Type}{F:b->a->Prop}:∀{d:Z b} {c:Z a} {x:b} {y:a},Paired F d c->F x y->Paired F (d++[x]) (c++[y]):=by
 intro d c x y h f;induction h with
 |nil=>exact .cons f .nil
 |cons r t e=>exact .cons r e
theorem GG:∀{b:Z α} {a:Z β},Paired F b a->b.length=a.length:=by
 intro b a h;induction h with
 |nil=>rfl
 |cons _ _ c=>rw[Wh,Wh,c]
theorem F0:∀{b:Z V} {a:Z β},Paired (λx y=>x=f y) b a->b=a.map f:=by
 intro b a h;induction h with
 |nil=>rfl
 |cons r t c=>rw[Wv,←r,←c]
def Hh(n:Nat):(List.range n).filter (λ_=>ar)=List.range n:=QS
theorem Za9(a:Z α)(f:Nat->β)(g:α->β)(h:∀(i:Nat) (v:α),a[i]?=O v->f i=g v):(List.range a.length).map f=a.map g:=by
 refine Wx λi=>?_;rw[Yf,Yf];cases e:a[i]? with
 |none=>rw[Y7 (by exact Wy▸List.getElem?_eq_none_iff.mp e)];rfl
 |some v=>rw[MN (Yh.mp e).1];exact eJ O (h i v e)
def aB(D:U)(H a:Hp):Prop:=∀b o,H b=O o->b≠D->a b=O o
def aB.of(g:ah H H'):aB D H H':=λb o e _=>g b o e
def aB.put(g:aB D H a):aB D H (upd a D o):=λb u e n=>by rw[aJ n];exact g b u e n
def wG(j:TT)(k:TE)(e:St)(D:U)(H:Hp)(v:V)(b:cF)(l:V->Hp->Prop):Prop:=
 ∀d,ah H d->(∃i,d D=O (.lst i))->∀(f:VK) (g:Hp->Prop),(∀y a,b=ar->ah d a->l y a->f y a)->(∀a,b=a_->ah d a->g a)->j (O v::e) d λc h=>if c=ar then k (O v::e) h f else g h
def yA{K:ag}(C:aj K H a xs)(L:xs.length<=1000)(u:H D=aG)(p:Nat->cF)(l:Nat->V->Hp->Prop)(c:∀i y d x,aB D d x->l i y d->l i y x)
  (k:∀(i:Nat) (v:V),xs[i]?=O v->wG tt A E D H v (p i) (l i))(G:∀f m,ah H m->m D=O (.lst f)->Paired (λy i=>l i y m) f ((List.range xs.length).filter p)->Q (.ref D) m):jQ (kF K a) tt A E D H Q:=by
 refine Iw (λi f d=>i<=xs.length/\ah H d/\d D=O (.lst f)/\Paired (λy j=>l j y d) f ((List.range i).filter p)) ⟨Yw _,cE u _,aW,.nil⟩ (λi f d _ ⟨_,g,_,_⟩=>g.seq C) ?_ ?_
 ·intro i v f d t N;refine d7 N λ_ g s n=>?_;have w:=(Yh.mp t).1;have J:=GG n;have F:=Wj p (List.range i);rw[Wy] at F;refine k i v t d g ⟨_,s⟩ _ _ (λy I r h B=>⟨h _ _ s,by rw[du];omega,w,?_,aW,?_⟩) (λI r h=>⟨w,g.trans h,h _ _ s,?_⟩)
  ·intro b o e;rw[aJ (bU e u)];exact h _ _ (g _ _ e)
  ·rw[vJ,bR r];exact kj (Paired.bN n λz j q=>c _ _ _ _ (aB.put (aB.of h)) q) (c _ _ _ _ (aB.put (aB.of (ah.refl _))) B)
  ·rw[vJ,bt (by rw[r];exact Yn),Y8];exact Paired.bN n λz j q=>c _ _ _ _ (aB.of h) q
 ·(simp;omega)
def ZcZ{K:ag}(k:aj K H a xs)(l:xs.length<=1000)(m:H D=aG)(p:Nat->cF)(f:Nat->V)
  (b:∀(i:Nat) (v:V),xs[i]?=O v->wG tt h n D H v (p i) (λy _=>y=f i))(d:∀c,ah H c->c D=O (.lst (((List.range xs.length).filter p).map f))->Q (.ref D) c):jQ (kF K a) tt h n D H Q:=
 yA k l m p (λi y _=>y=f i) (λ_ _ _ _ _ e=>e) b λo c g q j=>d c g (by rwa[←F0 j])
def Zc0{K:ag}(m:aj K H a xs)(n:xs.length<=1000)(o:H D=aG)(f:V->V)
  (h:∀(i:Nat) (v:V),xs[i]?=O v->∀c,ah H c->∀e:VK,(∀k,ah c k->e (f v) k)->l (O v::q) c e)(d:∀b,ah H b->b D=O (.lst (xs.map f))->Q (.ref D) b):jQ (kF K a) CP l q D H Q:=by
 refine ZcZ m n o (λ_=>ar) (λi=>f (xs.getD i .aA)) (λi v j c g _ e s r _=>mJ (dh ?_)) λb g p=>d b g ?_;·grind
 ·rw[p,Hh,Za9 xs (λi=>f (xs.getD i .aA)) f λi v j=>by rw[Yd,j];rfl]
def Zd7{K:ag}(C:aC K H a xs)(L:xs.length<=1000)(u:H D=aG)(p:Nat->cF)(l:Nat->V->Hp->Prop)(c:∀i y d x,aB D d x->l i y d->l i y x)
  (k:∀(i:Nat) (v:V),xs[i]?=O v->wG tt A E D H v (p i) (l i))(G:∀f m,ah H m->m D=O (.lst f)->Paired (λy i=>l i y m) f ((List.range xs.length).filter p)->Q (.ref D) m):jQ (qS K a) tt A E D H Q:=by
 refine BA (λi f d=>i<=xs.length/\ah H d/\d D=O (.lst f)/\Paired (λy j=>l j y d) f ((List.range i).filter p)) ⟨Yw _,cE u _,aW,.nil⟩ (λi f d _ ⟨_,g,_,_⟩=>g.j9 C) ?_ ?_
 ·intro i v f d t N;refine d7 N λ_ g s n=>?_;have w:=(Yh.mp t).1;have J:=GG n;have F:=Wj p (List.range i);rw[Wy] at F;refine k i v t d g ⟨_,s⟩ _ _ (λy I r h B=>⟨h _ _ s,by rw[du];omega,w,?_,aW,?_⟩) (λI r h=>⟨w,g.trans h,h _ _ s,?_⟩)
  ·intro b o e;rw[aJ (bU e u)];exact h _ _ (g _ _ e)
  ·rw[vJ,bR r];exact kj (Paired.bN n λz j q=>c _ _ _ _ (aB.put (aB.of h)) q) (c _ _ _ _ (aB.put (aB.of (ah.refl _))) B)
  ·rw[vJ,bt (by rw[r];exact Yn),Y8];exact Paired.bN n λz j q=>c _ _ _ _ (aB.of h) q
 ·simp_all
def Zd8{K:ag}(k:aC K H a xs)(l:xs.length<=1000)(m:H D=aG)(p:Nat->cF)(f:Nat->V)
  (b:∀(i:Nat) (v:V),xs[i]?=O v->wG tt h n D H v (p i) (λy _=>y=f i))(d:∀c,ah H c->c D=O (.lst (((List.range xs.length).filter p).map f))->Q (.ref D) c):jQ (qS K a) tt h n D H Q:=
 Zd7 k l m p (λi y _=>y=f i) (λ_ _ _ _ _ e=>e) b λo c g q j=>d c g (by rwa[←F0 j])
def Zce{v:Int}{n:Nat}{t:TT}{u:TE}{A:St}{D:U}{H:Hp}{Q:VK}(L:n<=1000)(x:H D=aG)(p:Nat->cF)(k:Nat->V->Hp->Prop)(a:∀i y c C,aB D c C->k i y c->k i y C)
  (h:∀i,i<n->wG t u A D H (.int (v+i)) (p i) (k i))(G:∀f l,ah H l->l D=O (.lst f)->Paired (λy i=>k i y l) f ((List.range n).filter p)->Q (.ref D) l):jQ (qT v n) t u A D H Q:=by
 refine yz (λi f c=>i<=n/\ah H c/\c D=O (.lst f)/\Paired (λy j=>k j y c) f ((List.range i).filter p)) ⟨Yw _,cE x _,aW,.nil⟩ ?_ ?_
 ·intro i f c w N;refine d7 N λ_ g s m=>?_;have B:=w;have J:=GG m;have F:=Wj p (List.range i);rw[Wy] at F;refine h i w c g ⟨_,s⟩ _ _ (λy I r d E=>⟨d _ _ s,by rw[du];omega,B,?_,aW,?_⟩) (λI r d=>⟨B,g.trans d,d _ _ s,?_⟩)
  ·intro b o e;rw[aJ (bU e x)];exact d _ _ (g _ _ e)
  ·rw[vJ,bR r];exact kj (Paired.bN m λz j q=>a _ _ _ _ (aB.put (aB.of d)) q) (a _ _ _ _ (aB.put (aB.of (ah.refl _))) E)
  ·rw[vJ,bt (by rw[r];exact Yn),Y8];exact Paired.bN m λz j q=>a _ _ _ _ (aB.of d) q
 ·simp_all
def Zcf{j:Int}{n:Nat}{d:TT}{h:TE}{k:St}{D:U}{H:Hp}{Q:VK}(m:n<=1000)(o:H D=aG)(p:Nat->cF)(f:Nat->V)
  (a:∀i,i<n->wG d h k D H (.int (j+i)) (p i) (λy _=>y=f i))(c:∀b,ah H b->b D=O (.lst (((List.range n).filter p).map f))->Q (.ref D) b):jQ (qT j n) d h k D H Q:=
 Zce m o p (λi y _=>y=f i) (λ_ _ _ _ _ e=>e) a λq b g r l=>c b g (by rwa[←F0 l])
abbrev Nw(H:Hp)(o:HO)(Q:VK):Prop:=∀(p:U) (a:Hp),H p=aG->ah H a->a p=O o->Q (.ref p) a
def Nw.at(h:Nw H o Q):∀p,H p=aG->Q (.ref p) (upd H p o):=λp a=>h p _ a (cE a o) aW
def zt(t:TA):TE:=λb H Q=>t b H λa c=>a.length<=sizeLine/\Nw c (.tup a) Q
def Vc(t:TA):TE:=λb H Q=>t b H λa c=>a.length<=sizeLine/\Nw c (.lst a) Q
section
variable {K:ag}
def dq(h:PA X j t):PE X (.Tuple j l pos) (zt t):=by
 intro a s e H Q I i;refine wpAny_Tuple_spliced (az (h pos a s e H _ I i) λg c ⟨f,k,d,r,z,q⟩=>⟨by rwa[←r.length],⟨.ref c.heap.objs.size,upd k c.heap.objs.size (.tup f),d.laid (λ b u=>Yc _) (Ye _) ?_,Y,q.at _ (d.ay.fresh (Ye _))⟩⟩);exact⟨z,g,r,⟨_,Yu _ Y,Y,_,Y,Y⟩⟩
def cO(h:PA X j t):PE X (.List j pos) (Vc t):=by
 intro a s e H Q I i;refine TF (az (h pos a s e H _ I i) λg c ⟨f,k,d,r,z,q⟩=>⟨by rwa[←r.length],⟨.ref c.heap.objs.size,upd k c.heap.objs.size (.lst f),d.laid (λ b u=>Yc _) (Ye _) ?_,Y,q.at _ (d.ay.fresh (Ye _))⟩⟩);exact⟨z,g,0,r,Yu _ Y⟩
def de.mono(h:de X f r)(m:∀a H Q,r' a H Q->r a H Q):de X f r':=λb s c H a d Q I v q=>h b s c H a d Q I v (m a H Q q)
def cK.mono(h:cK X f r)(m:∀x y H Q,r' x y H Q->r x y H Q):cK X f r':=λa s b H x y v u Q I d c q=>h a s b H x y v u Q I d c (m x y H Q q)
def uL.mono(h:uL X r)(m:∀x lo b H Q,r' x lo b H Q->r x lo b H Q):uL X r':=λa s c H x v e d lo b f Q I g k j i q=>h a s c H x v e d lo b f Q I g k j i (m x lo b H Q q)
inductive O7(a:Z V)(H:Hp)(Q:VK):Prop
 |mk (j:Int) (c:a=[.int j]) (b:Nw H (.kC 0 j) Q):O7 a H Q
def Zfe:Z V->Hp->VK->Prop:=λa H Q=>O7 a H Q
def Gh:de X (.type "range") Zfe:=A5.mono λ_ _ _ a=>by obtain⟨j,e,q⟩:=a;exact⟨j,e,q.at⟩
inductive OL(a:Z V)(H:Hp)(Q:VK):Prop
 |mk (p:U) (n:Nat) (e:a=[.ref p]) (d:H p=O (.kC 0 (n:Int))) (b:n<=1000) (c:Nw H (.lst ((bK n).map V.int)) Q):OL a H Q
def Zd9:Z V->Hp->VK->Prop:=λa H Q=>OL a H Q
def ZaU(b:X.calm=ar):de X (.type "list") Zd9:=(FY b).mono λ_ _ _ a=>by obtain⟨p,n,e,h,l,q⟩:=a;exact⟨p,n,e,h,l,q.at⟩
inductive O8(a:Z V)(H:Hp)(Q:VK):Prop
 |mk (p:U) (n:Nat) (e:a=[.ref p]) (d:H p=O (.kC 0 (n:Int))) (b:n<=1000) (c:Nw H (.tup ((bK n).map V.int)) Q):O8 a H Q
def Zff:Z V->Hp->VK->Prop:=λa H Q=>O8 a H Q
def ZaD(b:X.calm=ar):de X (.type "tuple") Zff:=(OA b).mono λ_ _ _ a=>by obtain⟨p,n,e,h,l,q⟩:=a;exact⟨p,n,e,h,l,q.at⟩
def Zfg(K:ag):Z V->Hp->VK->Prop:=λc H Q=>∃(p:U) (a:Z Int),c=[.ref p]/\(aj K H p (a.map V.int)\/aC K H p (a.map V.int))/\a.length<64/\
  ∀b:Z Int,b.Perm a->b.Pairwise (·<=·)->Nw H (.lst (b.map V.int)) Q
def Zfh(h:X.K=K):de X (.builtin "sorted") (Zfg K):=h▸OJ.mono λ_ _ _ b=>by obtain⟨p,f,e,s,l,q⟩:=b;exact⟨p,f,e,s,l,λa i g d c=>(q i d c).at a g⟩
inductive Se(K:ag)(x:V)(c:bS Int)(d:bS Int)(H:Hp)(Q:VK):Prop
 |mk (a b) (g:x=.ref a) (f:aj K H a b) (e:Nw H (.lst (k9 b c d)) Q):Se K x c d H Q
def ZjM(K:ag):V->bS Int->bS Int->Hp->VK->Prop:=λx lo a H Q=>Se K x lo a H Q
def BB(h:X.K=K):uL X (ZjM K):=h▸Zgo.mono λ_ _ _ _ _ b=>by obtain⟨a,c,e,s,q⟩:=b;exact⟨a,c,e,s,q.at⟩
def ZjN:R2:=λx y H Q=>∃l b c a,x=.ref l/\y=.ref b/\H l=O (.lst c)/\H b=O (.lst a)/\c.length+a.length<=sizeLine/\Nw H (.lst (c++a)) Q
def yT:cK X (binaryOp .Add) ZjN:=Zh3.mono λ_ _ _ _ c=>by obtain⟨l,b,d,a,h,g,f,e,z,q⟩:=c;exact⟨l,b,d,a,h,g,f,e,z,q.at⟩
def ZgG:TE:=λ_ H Q=>Nw H (.dK []) Q
def rG:PE X (.Dict [] [] pos) ZgG:=λa s b H Q I q=>Zfb a s b H Q I q.at
def ZgH:TE:=λ_ H Q=>Nw H (.dT []) Q
def Iz:PE X (.Dict [] [] pos) ZgH:=λa s b H Q I q=>Zfc a s b H Q I q.at
end
abbrev Ch(H:Hp)(a:U)(o:HO)(R:Hp->Prop):Prop:=∀b,aB a H b->b a=O o->R b
def Ch.at(h:Ch H a o R):R (upd H a o):=h _ (aB.put (aB.of (ah.refl _))) aW
section
variable {X:Cx}
def n_.mono{id:String}(h:n_ X id r)(m:∀x a H Q,r' x a H Q->r x a H Q):n_ X id r':=λb s c H x a v d Q I e f q=>h b s c H x a v d Q I e f (m x a H Q q)
inductive O9(x:V)(b:Z V)(H:Hp)(Q:VK):Prop
 |mk (l a y) (g:x=.ref l) (f:b=[y]) (d:H l=O (.lst a)) (e:a.length<sizeLine) (c:Ch H l (.lst (a++[y])) (Q .aA)):O9 x b H Q
def QX:V->Z V->Hp->VK->Prop:=λx a H Q=>O9 x a H Q
def l_:n_ X "list.append" QX:=yF.mono λ_ _ _ _ a=>by obtain⟨l,b,y,d,c,h,z,q⟩:=a;exact⟨l,b,y,d,c,h,z,q.at⟩
def Zfi:V->Z V->Hp->VK->Prop:=λx d H Q=>∃l b c a,x=.ref l/\d=[.ref b]/\H l=O (.lst c)/\H b=O (.lst a)/\c.length+a.length<=sizeLine/\Ch H l (.lst (c++a)) (Q .aA)
def Zc1:n_ X "list.extend" Zfi:=ZdS.mono λ_ _ _ _ c=>by obtain⟨l,b,d,a,h,g,f,e,z,q⟩:=c;exact⟨l,b,d,a,h,g,f,e,z,q.at⟩
def ZgI:V->Z V->Hp->VK->Prop:=λx b H Q=>∃l a,x=.ref l/\b=[]/\H l=O (.lst a)/\Ch H l (.lst []) (Q .aA)
def Zd_:n_ X "list.clear" ZgI:=ZeV.mono λ_ _ _ _ a=>by obtain⟨l,b,d,c,h,q⟩:=a;exact⟨l,b,d,c,h,q.at⟩
def uw.mono(h:uw X t)(m:∀o i v H Q,t' o i v H Q->t o i v H Q):uw X t':=by
 intro a s b H o i x f g v Q I e d c q;exact h a s b H o i x f g v Q I e d c (m _ _ _ _ _ q)
def ZiB:V->V->V->Hp->(Hp->Prop)->Prop:=λo i v H Q=>∃p a k j,o=.ref p/\i=.int k/\H p=O (.lst a)/\eP a.length k=O j/\Ch H p (.lst (a.set j v)) Q
def P1:uw X ZiB:=set_list.mono λ_ _ _ _ _ a=>by obtain⟨p,b,k,j,d,c,h,z,q⟩:=a;exact⟨p,b,k,j,d,c,h,z,q.at⟩
variable {o i W:cV}{N ty P L:TE}{R T:Pos}{f:af}
inductive QY(D:Ends)(d:St)(v:V)(x:V)(y:V)(c:Hp):Prop
 |mk (a b k) (l:x=.ref a) (j:c a=O (.dK b)) (g:y=kV k) (h:b.length<sizeLine) (e:Ch c a (.dK (putK b k v)) (D.nx d)):QY D d v x y c
def ZiC(N ty P:TE):TS:=λD a H=>P a H λv d=>N a d λx c=>ty a c λy b=>QY D a v x y b
inductive P2(D:Ends)(e:St)(v:V)(x:V)(y:V)(d:Hp):Prop
 |mk (a b c k) (n:x=.ref a) (m:d a=O (.dT c)) (j:y=.ref b) (l:d b=O (.tup (k.map kV))) (h:c.length<sizeLine) (g:Ch d a (.dT (putK c k v)) (D.nx e)):P2 D e v x y d
def ZgJ(N ty P:TE):TS:=λD a H=>P a H λv d=>N a d λx c=>ty a c λy b=>P2 D a v x y b
def oI(A:X.A.units+1<cLine)(C:PE X o N)(E:PE X i ty)(z:PE X W P)(B:swapsWith W (O (.Subscript o i T)) R.line X.env=pure a_:=by rfl):
  PS X (.Assign [.Subscript o i T] W R) (ZiC N ty P):=by
 intro b s d H D I h;refine KA (az (z b s d H _ I h) λr g c=>?_) B;obtain⟨v,H1,I1,n,t⟩:=c;refine az (C b g d H1 _ I1 t) λu e c=>?_;obtain⟨x,H2,I2,m,q⟩:=c;refine az (E b e d H2 _ I2 q) λiv s3 c=>?_;obtain⟨y,H3,I3,j,a,w,k,J,F,G,l,p⟩:=c;subst J;subst G;obtain rfl:u=Value.ref a:=m;exact PZ A I3 (uy.k F l) j n λs4 Q=>⟨d,_,Q,p.at⟩
def P4(B:X.A.units+1<cLine)(E:PE X o N)(F:PE X i ty)(A:PE X W P)(C:swapsWith W (O (.Subscript o i T)) R.line X.env=pure a_:=by rfl):
  PS X (.Assign [.Subscript o i T] W R) (ZgJ N ty P):=by
 intro c s e H D I h;refine KA (az (A c s e H _ I h) λr j d=>?_) C;obtain⟨v,H1,I1,p,w⟩:=d;refine az (E c j e H1 _ I1 w) λu g d=>?_;obtain⟨x,H2,I2,n,t⟩:=d;refine az (F c g e H2 _ I2 t) λiv s3 d=>?_;obtain⟨y,H3,I3,m,a,b,z,k,ex,J,Q,G,l,q⟩:=d;subst ex;subst Q;obtain rfl:u=Value.ref a:=n;exact PZ B I3 (uy.t J G l) m p λs4 I4=>⟨e,_,I4,q.at⟩
def ZjO(K:ag)(L P:TE)(f:af):TS:=λD b H=>P b H λy e=>L b e λx d=>∃a C c fs,x=.ref a/\d a=O (.ins C c fs)/\gT K C/\dt K C f/\fs.length<1000/\Ch d a (.ins C c (cQ f y fs)) (D.nx b)
def iI{K:ag}(w:X.K=K)(v:PE X o L)(r:PE X W P)(t:swapsWith W (O (.Attribute o f T)) R.line X.env=pure a_:=by rfl):PS X (.Assign [.Attribute o f T] W R) (ZjO K L P f):=by
 subst w;intro b s d H D I h;refine xp (az (r b s d H _ I h) λu g e=>?_) t;obtain⟨y,G,F,j,q⟩:=e;refine az (v b g d G _ F q) λp Q e=>?_;obtain⟨x,H2,E,k,a,C,dx,fs,z,A,c,n,l,m⟩:=e;subst z;obtain rfl:p=Value.ref a:=k;exact OX E A c n l j λJ B=>⟨d,_,B,m.at⟩
end
noncomputable def sL(x:af):It:=⟨λi _=>i<x.length,λi H v a=>a=H/\∃c,x.cps[i]?=O c/\v=.str ⟨#[c]⟩,λi _=>x.length<=i⟩
theorem ZaV{P:dC}{w:dm}{K:ag}{B:cV}(it:U)(x:af)(t:Tok):Turn P w K B (sL x) [it] it (λi h=>h.IsStrIter it "str_ascii_iterator" x t i) where
 mem:=QS
 obj:=λi h st b f=>by
  have e:b=it:=by simpa using f
  refine cu st λo e c d=>?_
  simp_all
 keep:=λi h y st k=>let⟨o,e,r⟩:=st;⟨o,k it QS o e,r⟩
 item:=by
  intro X F D G v i a s A H E I g st j;refine iS (g it QS) λq p J n m l=>?_;have u:=W4 j;refine wpAny_pyNext_ascii_item st u λy z C=>?_;refine cu (id z) λo e c d=>?_;exact⟨_,rfl,ug e c d QD ⟨.str ⟨#[x.cps[i]]⟩,H,(I.turned (λb o f e=>(C.2 b f).trans e) q p n m l),⟨_,rfl⟩,⟨rfl,_,u,rfl⟩,z,λb f=>(g b f).1⟩⟩
 done:=by
  intro X F D G v i a s A H E I g st j;refine iS (g it QS) λq p J n m l=>?_;exact wpAny_pyNext_ascii_end (I.ok.hd v) st (XX j) λy L=>⟨rfl,I.turned L q p n m l⟩
 self:=λ_ _ _ _ _ st h=>wpAny_pyIter_striter_ascii st h
theorem Za_{P:dC}{w:dm}{K:ag}{B:cV}(it:U)(x:af)(t:Tok):Turn P w K B (sL x) [it] it (λi h=>h.IsStrIter it "str_iterator" x t i) where
 mem:=QS
 obj:=λi h st b f=>by
  have e:b=it:=by simpa using f
  refine cu st λo e c d=>?_
  grind
 keep:=λi h y st k=>let⟨o,e,r⟩:=st;⟨o,k it QS o e,r⟩
 item:=by
  intro X F D G v i a s A H E I g st j;refine iS (g it QS) λq p J n m l=>?_;have u:=W4 j;refine wpAny_pyNext_wide_item st u λy z C=>?_;refine cu (id z) λo e c d=>?_;exact⟨_,rfl,ug e c d QD ⟨.str ⟨#[x.cps[i]]⟩,H,(I.turned (λb o f e=>(C.2 b f).trans e) q p n m l),⟨_,rfl⟩,⟨rfl,_,u,rfl⟩,z,λb f=>(g b f).1⟩⟩
 done:=by
  intro X F D G v i a s A H E I g st j;refine iS (g it QS) λq p J n m l=>?_;exact wpAny_pyNext_wide_end (I.ok.hd v) st (XX j) λy L=>⟨rfl,I.turned L q p n m l⟩
 self:=λ_ _ _ _ _ st h=>wpAny_pyIter_striter_wide st h
inductive T6(R:It->Hp->Prop)(v:V)(a:Hp):Prop
 |mk (x) (c:v=.str x) (b:R (sL x) a):T6 R v a
def ZkC(b:TE):TI:=λa H R=>b a H λv c=>T6 R v c
theorem Cd(p:PE X l k):PI X u l (ZkC k):=by
 intro a s i H R I h;refine az (p a s i H _ I h) λv c j=>?_;obtain⟨x,f,d,m,n⟩:=j;obtain⟨z,e,q⟩:=n;subst e;obtain⟨t,rfl⟩:=m;have fin:∀b∈[c.heap.objs.size],jq X a f b:=λb r=>by
  have e:b=c.heap.objs.size:=by simpa using r
  subst e;exact d.se (Ye _) (d.ay.fresh (Ye _))
 cases g:z.cps.all (·<128) with
 |true=>exact wpAny_pyIter_ascii g ⟨c.heap.objs.size,[c.heap.objs.size],_,_,f,Y,d.kept λb o e=>Yc _ e,ZaV _ z t,⟨_,Yu _ Y,Y,Y⟩,fin,q⟩
 |false=>exact wpAny_pyIter_wide g ⟨c.heap.objs.size,[c.heap.objs.size],_,_,f,Y,d.kept λb o e=>Yc _ e,Za_ _ z t,⟨_,Yu _ Y,Y,Y⟩,fin,q⟩
noncomputable abbrev sg(c:Nat):V:=.str ⟨#[c]⟩
def Kd{x:af}{g:TG}{l:TS}{D:Ends}{a:St}{H:Hp}(b:Nat->St->Hp->Prop)(s:b 0 a H)
  (t:∀(i c:Nat) (a:St) (H:Hp),x.cps[i]?=O c->b i a H->g (sg c) a H λf k=>l {D with nx:=b (i+1),ct:=b (i+1),bk:=D.nx} f k)(r:∀a H,b x.length a H->D.nx a H):
  ∃W:Nat->Nat->St->Hp->Prop,(∃m,W 0 m a H)/\∀i m a H,W i m a H->
   ((sL x).stop i H/\D.nx a H)\/((sL x).go i H/\∃N:St->Hp->Prop,(∀j d,N j d->∃n,n<m/\W (i+1) n j d)/\∀v d,(sL x).pI i H v d->g v a d λf k=>l {D with nx:=N,ct:=N,bk:=D.nx} f k):=by
 refine⟨λi m a H=>m=x.length-i/\i<=x.length/\b i a H,⟨x.length,QS,Yw _,s⟩,?_⟩;rintro i m a H ⟨rfl,q,p⟩;by_cases h:i<x.length
 ·refine .inr ⟨h,b (i+1),λj d o=>⟨x.length-(i+1),QO,Y,h,o⟩,λv d y=>?_⟩;obtain⟨e,c,u,rfl⟩:=y
  simp_all
 ·have e:=(i6 q (fb h))
  subst e;exact .inl ⟨Ye _,r a H p⟩
def Zfj(d:Nat->Z V->Hp->Prop)(q:d 0 [] (upd H D (.lst [])))
  (s:∀(i c:Nat) (a:Z V) (H:Hp),x.cps[i]?=O c->d i a H->tt (O (sg c)::g) H λb j=>if b=ar then k (O (sg c)::g) j λy h=>h D=O (.lst a)/\a.length<sizeLine/\d (i+1) (a++[y]) (upd h D (.lst (a++[y]))) else d (i+1) a j)
  (o:∀a H,d x.length a H->Q (.ref D) H):jQ (sL x) tt k g D H Q:=by
 refine⟨λi m a H=>m=x.length-i/\i<=x.length/\d i a H,⟨x.length,QS,Yw _,q⟩,?_⟩;rintro i m a H ⟨rfl,n,p⟩;by_cases f:i<x.length
 ·refine .inr ⟨f,d (i+1),λu r l=>⟨x.length-(i+1),QO,Y,f,l⟩,λv r y=>?_⟩;obtain⟨e,c,t,rfl⟩:=y
  simp_all
 ·have e:=(i6 n (fb f))
  subst e;exact .inl ⟨Ye _,o a H p⟩
def Zea(y:x.length<=100000)(p:H D=aG)(f:Nat->V)
  (d:∀(i c:Nat),x.cps[i]?=O c->∀a,ah H a->∀s:VK,(∀m,ah a m->s (f c) m)->t (O (sg c)::v) a s)(l:∀n,ah H n->n D=O (.lst (x.cps.toList.map f))->Q (.ref D) n):jQ (sL x) CP t v D H Q:=by
 refine Zfj (λi h a=>i<=x.length/\ah H a/\a D=O (.lst h)/\h=(x.cps.toList.take i).map f) ⟨Yw _,cE p _,aW,Y⟩ ?_ ?_
 ·intro i c h a j z;refine d7 z λ_ g k e=>?_;have w:i<x.length:=(J7.mp j).1;refine mJ (dh (d i c j a g _ λm r=>⟨r _ _ k,?_,w,?_,aW,?_⟩))
  ·rw[e,Ya,Wd,du];omega
  ·intro b o q;rw[aJ (bU q p)];exact r _ _ (g _ _ q)
  ·have u:x.cps.toList[i]?=O c:=by rw[Ww];exact j
   rw[e,Yz,u,Yr];rfl
 ·intro h a z;refine d7 z λ_ g k e=>?_;refine l a g ?_;rw[k,e,Wg (by show x.cps.toList.length<=x.cps.size;simp)]
def sh(z:af)(a b:bS Int):af:=⟨((z.cps.toList.drop (HT.cv z.length 0 a)).take (HT.cv z.length z.length b-HT.cv z.length 0 a)).toArray⟩
theorem Ce(a:d<=n)(o:bS Int):HT.cv n d o<=n:=by
 cases o with
 |none=>exact a
 |some v=>
  show(if v<0 then(v+(n:Int)).toNat else min v.toNat n)<=n;split<;>omega
theorem Zfk(n:Nat)(lo a:bS Int):Builtin.Str.strSliceIndices lo a 1 n=(List.range (HT.cv n n a-HT.cv n 0 lo)).map (λk=>HT.cv n 0 lo+k):=by
 have f:=Ce (Yw n) lo;have b:∀v:Int,max 0 (min (if v<0 then v+(n:Int) else v) (n:Int))=(((if v<0 then(v+(n:Int)).toNat else min v.toNat n:Nat)):Int):=λv=>by
  split<;>omega
 have e:Builtin.Str.strSliceIndices lo a 1 n=sliceRange ((HT.cv n 0 lo:Nat):Int) ((HT.cv n n a:Nat):Int) 1:=by
  have one:((1:Int)>0)=True:=QS
  cases lo with
  |none=>
   cases a with
   |none=>simp only[Builtin.Str.strSliceIndices,HT.cv,one,th];rfl
   |some v=>simp only[Builtin.Str.strSliceIndices,HT.cv,one,th,b v];rfl
  |some u=>
   cases a with
   |none=>simp[Builtin.Str.strSliceIndices,HT.cv,one,th,b u]
   |some v=>simp[Builtin.Str.strSliceIndices,HT.cv,one,th,b u,b v]
 rw[e];unfold sliceRange;simp only[show((1:Int)>0)=True from by simp,th];by_cases c:((HT.cv n 0 lo:Nat):Int)<((HT.cv n n a:Nat):Int)
 ·have d:((((HT.cv n n a:Nat):Int)-((HT.cv n 0 lo:Nat):Int)+1-1)/1).toNat=HT.cv n n a-HT.cv n 0 lo:=by
   rw[Int.ediv_one];omega
  simp only[c,th,d];refine Wq λk _=>?_;omega
 ·have:HT.cv n n a-HT.cv n 0 lo=0:=QO
  simp[c,this]
def Zeb(z:af)(a hi:bS Int):Txt.slice z a hi=sh z a hi:=by
 have g:=Ce (Yw z.length) a;have f:=Ce (Ye z.length) hi;have b:z.cps.toList.length=z.length:=by simp[Str.length]
 have c:=StrLaws.picks z.cps.toList (HT.cv z.length z.length hi-HT.cv z.length 0 a) (HT.cv z.length 0 a) QO;unfold Txt.slice sh;rw[Zfk];split
 ·rename_i h
  rw[Ya,Wy] at h;have d:HT.cv z.length z.length hi-HT.cv z.length 0 a=z.length:=by simpa using h
  have e:HT.cv z.length 0 a=0:=QO
  rw[d,e,List.drop_zero,Wg (mV b)]
 ·congr 2
  rw[←c];simp
inductive T7(x:V)(a:bS Int)(b:bS Int)(H:Hp)(Q:VK):Prop
 |mk (z) (e:x=.str z) (d:z.length<=sizeLine) (c:Q (.str (sh z a b)) H):T7 x a b H Q
def ZkD:V->bS Int->bS Int->Hp->VK->Prop:=λx lo a H Q=>T7 x lo a H Q
theorem T8:uL X ZkD:=by
 intro a s c H x v y w lo m A Q I d j f e h;obtain⟨z,rfl,g,q⟩:=h;obtain⟨t,rfl⟩:=d;refine⟨"str",_,F.slot_str_getitem.lookup,q7 _ _ _,?_⟩;have part:∀{v:a7} {o:bS Int},IsPart v o->∃p:bS (Int×Tok),v=partValue p/\p.map (·.1)=o:=by
  intro v o h;cases h with
  |none=>exact⟨aG,Y,Y⟩
  |int i t=>exact⟨O (i,t),Y,Y⟩
 obtain⟨l,rfl,r⟩:=part f;obtain⟨u,rfl,n⟩:=part e;refine wpAny_getItem_str_slice (st:=aG) j Y (post_val_or_str ⟨?_,λb k=>?_⟩)
 ·show(Txt.slice z (l.map (·.1)) (u.map (·.1))).length<=sizeLine;exact Yy (Txt.slice_le z _ _) g
 ·show EP X a c Q (.str (Txt.slice z (l.map (·.1)) (u.map (·.1))) b) _;rw[r,n,Zeb];exact⟨.str (sh z lo m),H,I.tok k,⟨b,Y⟩,q⟩
def ZgK:V->Z V->Hp->VK->Prop:=λx a H Q=>∃(z y:af) (i:Nat) (r:Z Nat),x=.str z/\a=[.str y]/\Builtin.Str.occurrences z y 0 z.length 1=i::r/\Q (.int (i:Int)) H
def P5:n_ X "str.index" ZgK:=by
 intro a s e H x f v g Q I b c h;refine pz h λz y i r l k d q=>?_;subst l;subst k;obtain⟨t,rfl⟩:=b;obtain⟨u,rfl,j,rfl⟩:=c.one;exact PySem.SC.index d ⟨.int (i:Int),H,I.tok _,⟨_,Y⟩,q⟩
end _L
namespace _L
open PySem PySem.W PySem.Spec PyProof.Rows
def ZiD:Z V->Hp->VK->Prop:=λb H Q=>∃(p:U) (a:Z (Key×V)),b=[.ref p]/\H p=O (.dK a)/\Nw H (.lst (a.map λc=>kV c.1)) Q
theorem Bp:∀{c:Z Key} {b:Z a7},b.length=c.length->(∀(j:Nat) (v:a7),b[j]?=O v->∃k,c[j]?=O k/\(dR P w).is k v=ar)->Vals (c.map kV) b
 |[],[],_,_=>.nil
 |k::c,u::b,a,h=>by
  refine bh (h 0 u Y) λk' e d=>?_;have g:k=k':=by simpa using e
  subst g;refine .cons ?_ (Bp (by simpa using a) λj v f=>by simpa using h (j+1) v (by simpa using f));rcases nB d with⟨i,t,rfl,rfl⟩|⟨x,t,rfl,rfl⟩;·exact⟨t,Y⟩
  ·exact⟨t,Y⟩
 |[],_::_,a,_=>by simp at a
 |_::_,[],a,_=>by simp at a
def OM(z:X.calm=ar):de X (.type "list") ZiD:=by
 intro g s C H D E Q I r ZH;refine gR ZH λp b lr y q=>?_;subst lr;obtain⟨u,rfl,m⟩:=vals1 r;obtain rfl:u=Value.ref p:=m;obtain⟨n,l,i,a,A⟩:=nN I.ay y;obtain⟨W,B⟩:=A.dictAt;have G:=a.length;refine kdl_call (kdl_dict l) (I.ok.hd z) B QO λT F f c t R h=>?_;have d:Vals (b.map λa=>kV a.1) f.toList:=by
  have e:(b.map λa=>kV a.1)=(i.map (·.1)).map kV:=by rw[←a.keys,Y9];rfl
  rw[e];refine Bp (P:=X.prog) (w:=X.w) (by rw[Y5,Ya];exact h.1) λj v N=>?_;obtain⟨k,x,J,L⟩:=h.2 j v (by rwa[←Ww])
  simp_all
 exact⟨.ref s.heap.objs.size,_,(I.laid (o:=.lst (b.map λa=>kV a.1)) t (Ye _) ⟨by rwa[Ya],f.toList,c,d,by rwa[Nb]⟩),Y,q.at _ (I.ay.fresh (Ye _))⟩
end _L
namespace _L
open PySem PySem.Spec PyProof.Rows
noncomputable abbrev Cz(D:Z (af×af)):Z (af×PyData):=D.map λp=>(p.1,PyData.str p.2)
def qM(K:ag)(a:U)(D:Z (af×af)):Prop:=KTD.tabLook KTD.flatLooks (λb=>K.lookup b) a (Cz D)=ar
theorem yH(f:a->b)(k:af):∀D:Z (af×a),KTD.datumAt k (D.map λp=>(p.1,f p.2))=(KTD.datumAt k D).map f
 |[]=>rfl
 |p::D=>by
  rw[Wv];unfold KTD.datumAt;by_cases e:k=p.1;·simp[e]
  ·simp[e];exact yH f k D
def qM.here{K:ag}(t:qM K a D)(b:K.In h):KTD.Here h h a ((Cz D).map λp=>(p.1,KTD.Dat.flat p.2)):=
 ⟨KTD.TabOf.text (KTD.tab_of_look (λ_ _=>KTD.flat_of_looks) b t),λ_ _ e=>e⟩
noncomputable def i4(D:Z (af×af))(z:af):cF:=(KTD.datumAt z D).isSome
def keys_has(D:Z (af×af))(z:af):KTD.inKeys z ((Cz D).map λp=>(p.1,KTD.Dat.flat p.2))=i4 D z:=by
 rw[←KTD.isSome_datumAt,yH KTD.Dat.flat,yH PyData.str];unfold i4
 grind
def T9(K:ag)(b:cF):R2:=λx y H Q=>∃(z:af) (a:U) (D:Z (af×af)),x=.str z/\y=.ref a/\qM K a D/\Q (.bl (if b=ar then !i4 D z else i4 D z)) H
def ZiE{K:ag}(e:X.K=K):cK X (compareOp .In) (T9 K a_):=by
 subst e;intro b s f H x y v u Q I d c j;refine jI j λz a D i h t q=>?_;subst i;subst h;obtain⟨g,rfl⟩:=d;obtain rfl:u=Value.ref a:=c;refine KTD.in_text (t.here I.cj) ?_;rw[keys_has];exact⟨.bl (i4 D z),H,I.tok _,Y,q⟩
def Zec{K:ag}(e:X.K=K):cK X (compareOp .NotIn) (T9 K ar):=by
 subst e;intro b s f H x y v u Q I d c j;refine jI j λz a D i h t q=>?_;subst i;subst h;obtain⟨g,rfl⟩:=d;obtain rfl:u=Value.ref a:=c;refine KTD.notin_text (t.here I.cj) ?_;rw[keys_has];exact⟨.bl (!i4 D z),H,I.tok _,Y,q⟩
def ZiF(K:ag):R2:=λx y H Q=>∃(a:U) (z r:af) (D:Z (af×af)),x=.ref a/\y=.str z/\qM K a D/\KTD.datumAt z D=O r/\Q (.str r) H
theorem Ke{K:ag}(A:X.K=K):jx X (ZiF K):=by
 subst A;intro b c f s B H x y v u Q I n m h w;refine kA h λa z r D E C t e q=>?_;subst E;subst C;obtain⟨k,rfl⟩:=m;obtain rfl:v=Value.ref a:=n;have T:=t.here I.cj;refine tail_any T.typeIs slot_dict_getitem.lookup ?_ w;unfold getItem;try with_reducible refine k8 ?_
 refine bp (wpAny_sequenceKey T.typeIs QD ?_);refine bp (wpAny_callSpecial?_slot T.typeIs WC
  (sU WC T.typeIs entry_dict_getitem ?_ (args_dict_getitem _ _)))
 show wpAny _ _ (dictGet a (.str z k)>>=_) _ _ s;have j:KTD.datumAt z ((Cz D).map λp=>(p.1,KTD.Dat.flat p.2))=O (.flat (.str r)):=by rw[yH KTD.Dat.flat,yH PyData.str,e];rfl
 refine bp (KTD.dictGet_text T (λd v i o=>cR ⟨v,Y,cR ?_⟩) λg=>by rw[j] at g;cases g);rw[j] at i;cases i;cases o s.heap with
 |str x l=>exact⟨.str r,H,I.tok _,⟨l,Y⟩,q⟩
def ze(h:cJ X.prog X.w X.K X.mg X.base k m C p sp)(g:cA j X.A)(n:k<=j)(i:PE X o d)
  (e:eval (.Call (.Attribute o m apos) [] [] pos) X.env=(do
   let a←eval o X.env
   standAt apos.atName
   let(f,first)←holding [a] (getMethod a m q)
   callWith pos f first (backTo pos (starEach [] X.env)) (backToKw pos (keywordEach [] X.env))):=by rfl):
  PE X (.Call (.Attribute o m apos) [] [] pos) (Cs C m sp [] E0 d jr):=by
 refine d5 h λf r c l F b=>?_;exact ZeR i c l F (g.mono n) b .nil wC e
def CU(K:ag)(b:cF):R2:=λx y H Q=>∃(p q:U) (a:Z V),x=.ref p/\y=.ref q/\aj K H p a/\aj K H q []/\Q (.bl (if b=ar then !a.isEmpty else a.isEmpty)) H
theorem ZiG(h:X.A.units<cLine):cK X (compareOp .Eq) (CU X.K a_):=by
 intro d s w H x y v u Q I m l G;refine kS G λp q i F E b t k=>?_;subst F;subst E;cases m;cases l;refine cu (I.list b) λD c g B=>?_;refine cu (I.list t) λC n f A=>?_;cases n;have o:=c.length;cases i with
 |nil=>
  cases c;exact YP (e:=λ_=>ar) g.isList f.isList Y h (λj b _=>absurd b QS) (cP I k QS)
 |cons a r=>exact EF g.isList f.isList (by simp;intro z;subst z;simp at o) h (cP I k QS)
theorem ZiH(h:X.A.units<cLine):cK X (compareOp .NotEq) (CU X.K ar):=by
 intro d s w H x y v u Q I m l G;refine kS G λp q i F E b t k=>?_;subst F;subst E;cases m;cases l;refine cu (I.list b) λD c g B=>?_;refine cu (I.list t) λC n f A=>?_;cases n;have o:=c.length;cases i with
 |nil=>
  cases c;exact SeqAt.RcNeAt.lists (e:=λ_=>ar) g.isList f.isList Y h (λj b _=>absurd b QS) _ _ _ _ (cP I k QS)
 |cons a r=>exact SeqAt.RcNeAt.lists_lengths g.isList f.isList (by simp;intro z;subst z;simp at o) h _ _ _ _ (cP I k QS)
def Zc2:de X (.builtin "len") (λb H Q=>∃p a,b=[.ref p]/\H p=O (.dK a)/\Q (.int (a.length:Int)) H):=by
 rintro c s g H b h Q I r ⟨p,a,rfl,e,q⟩;obtain⟨u,rfl,d⟩:=vals1 r;obtain rfl:u=Value.ref p:=d;exact ZjJ I (.inl e) λt i f=>⟨.int (a.length:Int),H,f,⟨t,Y⟩,q⟩
def aB.trans(g:aB D H c)(a:aB D c MO):aB D H MO:=λb o e n=>a b o (g b o e n) n
def Out(a:Z U)(H c:Hp):Prop:=∀b o,H b=O o->b∉a->c b=O o
def Out.of(g:ah H H'):Out fp H H':=λb o e _=>g b o e
def Out.trans(g:Out fp H c)(a:Out fp c MO):Out fp H MO:=λb o e n=>a b o (g b o e n) n
def Out.bar(g:aB a H H')(m:a∈fp):Out fp H H':=λb o e n=>g b o e λz=>n (by rwa[z])
def setC(h:u D (σ.set i (O v)) H):zy (wJ (tC v) (uf i)) u D σ H:=h
def bT(h:a σ H λx b=>u D (σ.set i (O x)) b):zy (wJ a (uf i)) u D σ H:=h
def c_(h:H a=O (.dK b))(e:aL b (.inr z)=o):fD H a (.str z) o:=.inl ⟨b,.inr z,.inl h,Y,e.symm⟩
section
variable {X:Cx}{N R tgt:cV}{xs:Z af}{E:Pos}{P:Z cV}{W:Scope}{cl:Z (af×U)}{fr:Z (af×Nat)}{L:TG}{F:TT}{G:TE}{σ:St}
def ZiI(n:Nat)(b:TI)(fr:Z (af×Nat))(L:TG)(F:TT)(G:TE):TE:=λσ H Q=>b σ H λJ a=>∀D,a D=aG->Kz n J L F G (iM σ fr) D a Q
def Zfl(p:X.calm=ar)(a:rB X W cl xs fr)(n:∀C s H fp,PG (cZ X xs fr W cl C s H fp) tgt L)(l:PI X tgt R c)
  (i:∀C s H fp,xv (cZ X xs fr W cl C s H fp) P F)(o:∀C s H fp,PE (cZ X xs fr W cl C s H fp) N G)
  (j:∀x,foldedSetIterable R X.env x=pure x:=by intro _;rfl):PE X (.ListComp N [⟨tgt,R,P,0⟩] W E) (ZiI xs.length c fr L F G):=by
 intro b s σ H Q I h;refine xB Y j a.zD a.kind a.names (az (l b s σ H _ I h) λv d t=>az t λxh s2 r=>?_);obtain⟨it,fp,tn,J,H2,e,I2,T,u,A,g⟩:=r;subst e;refine OY p a n i o I2 T u A g ?_;intro D C d H1 m I1 k f0 B z y w q;exact⟨m,k,λh' f=>⟨.ref D,H1,I1.turned f.extBut f0 B (.inr z) y w,Y,q⟩⟩
end
def Zc3{K:ag}(d:Nat->Z V->Hp->Prop)(z:d 0 [] (upd H D (.lst [])))(u:∀i b H,i<=xs.length->d i b H->aj K H a xs)
  (C:∀i v b H,xs[i]?=O v->d i b H->∀os:St,os.length=n->r v (os++k) H λf A=>(∃h:St,h.length=n/\f=h++k)/\tt f A λc o=>if c=ar then s f o λy l=>l D=O (.lst b)/\b.length<sizeLine/\d (i+1) (b++[y]) (upd l D (.lst (b++[y]))) else d (i+1) b o)
  (w:∀b H,d xs.length b H->Q (.ref D) H):Kz n (kF K a) r tt s k D H Q:=by
 refine⟨λi m b H=>m=xs.length-i/\i<=xs.length/\d i b H,⟨xs.length,QS,Yw _,z⟩,?_⟩;intro i m b H G;refine c7 G λF j p=>?_;subst F;have q:=u i b H j p;by_cases g:i<xs.length
 ·refine .inr ⟨⟨xs,xs[i],q,by simp[g]⟩,d (i+1),λE B t=>⟨xs.length-(i+1),QO,Y,g,t⟩,λx B y=>?_⟩;refine hI y λe y=>?_
  grind
 ·have e:=(i6 j (fb g))
  subst e;exact .inl ⟨⟨xs,q,Ye _⟩,w b H p⟩
noncomputable abbrev sM(c e g d f:cV)(a:Scope)(b:Pos):cV:=.ListComp c [⟨e,g,[],0⟩,⟨d,f,[],0⟩] a b
theorem Zed(I:Nat->cb->Prop)
  (c:∀n s,I n s->wpAny (model prog w) A (pyNext it) (λr f=>match r with
   |none=>R (.ok .next) f
   |some v=>wpAny (model prog w) A (letOwnedTupleGo g it v) (λ_ o=>wpAny (model prog w) A (assign g env v) (λ_ l=>
     wpAny (model prog w) A (eval elt env) (λx j=>
       wpAny (model prog w) A (call (.builtin "list.append") [acc,x]) (λ_ i=>∃m,m<n/\I m i) (notedBy (model prog w) A env λe a=>R (.error e) a) j) (notedBy (model prog w) A env λe a=>R (.error e) a) l) (notedBy (model prog w) A env λe a=>R (.error e) a) o) (notedBy (model prog w) A env λe a=>R (.error e) a) f) (notedBy (model prog w) A env λe a=>R (.error e) a) s)
  (n:Nat)(h:I n s):codeAny (model prog w) A (.compLoop (sM elt t1 z g y scope pos) 1 it acc env) R s:=by
 refine zX Y I (λn s u=>z9 (bp (m6 (bp (eH (c n s u) (λr f k=>?_) λ_ _ b=>b))))) n h;cases r with
 |none=>exact cR k
 |some v=>
  exact bp (eH k (λ_ o d=>bp (eH d (λ_ l t=>bp (zE (bp (bp (eH t (λx j q=>bp (eH q (λ_ i p=>cR (cR ⟨Y,p⟩)) λ_ _ b=>b)) λ_ _ b=>b))))) λ_ _ b=>b)) λ_ _ b=>b)
theorem Zee(E:∀x,foldedSetIterable g env x=pure x)(I:Nat->cb->Prop)
  (c:∀n s,I n s->wpAny (model prog w) A (pyNext it) (λr i=>match r with
   |none=>R (.ok .next) i
   |some v=>wpAny (model prog w) A (letOwnedTupleGo t1 it v) (λ_ q=>wpAny (model prog w) A (assign t1 env v) (λ_ o=>
     wpAny (model prog w) A (eval g env) (λx p=>wpAny (model prog w) A (pyIter x) (λt k=>
      codeAny (model prog w) A (.compStart (sM elt t1 D B g scope pos) 1 t acc env) (λr j=>match r with|.ok _=>∃m,m<n/\I m j|.error _=>False) k)
      (notedBy (model prog w) A env λe a=>R (.error e) a) p) (notedBy (model prog w) A env λe a=>R (.error e) a) o) (notedBy (model prog w) A env λe a=>R (.error e) a) q) (notedBy (model prog w) A env λe a=>R (.error e) a) i) (notedBy (model prog w) A env λe a=>R (.error e) a) s)
  (n:Nat)(h:I n s):codeAny (model prog w) A (.compLoop (sM elt t1 D B g scope pos) 0 it acc env) R s:=by
 refine zX Y I (λn s F=>z9 (bp (m6 (bp (eH (c n s F) (λr i l=>?_) λ_ _ b=>b))))) n h;cases r with
 |none=>exact cR l
 |some v=>
  refine bp (eH l (λ_ q d=>bp (eH d (λ_ o C=>bp (zE (bp (eH C (λx p z=>bp (m6 ?_)) λ_ _ b=>b)))) λ_ _ b=>b)) λ_ _ b=>b);rw[E];refine bp (cR (bp (k8 (eH z (λt k y=>bp (wpAny_runOwn (ny y λr j u=>?_))) λ_ _ b=>b))));cases r with
  |error e=>simp_all
  |ok f=>exact cR ⟨Y,u⟩
theorem Zby
  (g:codeAny (model prog w) A (.compLoop (sM elt t1 f d e scope pos) 1 it acc env) R s)
  (h:wpAny (model prog w) A (pyIter it) (λc a=>codeAny (model prog w) A (.compLoop (sM elt t1 f d e scope pos) 1 c acc env) R a) (notedBy (model prog w) A env λx a=>R (.error x) a) s):
  codeAny (model prog w) A (.compStart (sM elt t1 f d e scope pos) 1 it acc env) R s:=by
 refine YB (wpAny_notedAt (bp (wpAny_askSetting (wpAny_ite ?_))));split
 ·first
   |exact bp (cR (cR (uU Y g)))
   |exact cR (uU Y g)
 ·first
   |exact bp (qL (bp (m6 (bp (eH h (λc a b=>cR (uU Y b)) λ_ _ x=>x)))))
   |(refine bp (qL ?_);exact bp (m6 (bp (eH h (λc a b=>cR (uU Y b)) λ_ _ x=>x))))
def KP(n:Nat)(J:It)(E:TG)(C:TI)(B:TG)(A:TE)(h:St)(D:U)(H:Hp)(Q:VK):Prop:=
 ∃W:Nat->Nat->Z V->Hp->Prop,(∃m,W 0 m [] (upd H D (.lst [])))/\∀i m p H,W i m p H->
  (J.stop i H/\Q (.ref D) H)\/(J.go i H/\∃N:Z V->Hp->Prop,(∀e a,N e a->∃c,c<m/\W (i+1) c e a)/\
   ∀v a,J.pI i H v a->∀os:St,os.length=n->E v (os++h) a λk I=>(∃s:St,s.length=n/\k=s++h)/\C k I λo G=>
    ∃l:Nat->Nat->Z V->St->Hp->Prop,(∃g,l 0 g p k G)/\∀d g b j f,l d g b j f->
     (o.stop d f/\(∃q:St,q.length=n/\j=q++h)/\N b f)\/(o.go d f/\∃u:Z V->St->Hp->Prop,(∀e t a,u e t a->∃c,c<g/\l (d+1) c e t a)/\
      ∀r x,o.pI d f r x->B r j x λz F=>A z F λy w=>w D=O (.lst b)/\b.length<sizeLine/\u (b++[y]) z (upd w D (.lst (b++[y])))))
section
variable {X:Cx}{P L g G B:cV}{xs:Z af}{F:Pos}{R:Scope}{cl:Z (af×U)}{fr:Z (af×Nat)}{l t:TG}{A:TI}{w:TE}{σ:St}
def Zc4{H2:Hp}{s2:cb}{it:U}{f:Z U}{tn:Nat->cX->Prop}{J:It}{Q:VK}{RR:a7->U->Result->cb->Prop}{E:bg}
  (hc:X.calm=ar)(a:rB X R cl xs fr)(hg:∀C s H f,PG (cZ X xs fr R cl C s H f) L l)(MQ:∀C s H f,PI (cZ X xs fr R cl C s H f) G B A)(MR:∀C s H f,PG (cZ X xs fr R cl C s H f) G t)(he:∀C s H f,PE (cZ X xs fr R cl C s H f) P w)
  (sJ:∀C x,foldedSetIterable B (compEnvC R cl C X.env) x=pure x)
  (I2:Inv X pins σ H2 s2)(T:Turn X.prog X.w X.K L J f it tn)(fM:tn 0 s2.heap)(f2:∀b∈f,jq X pins H2 b)
  (hw:∀D,H2 D=aG->KP xs.length J l A t w (iM σ fr) D H2 Q)
  (hR:∀D C s1 H1 m,Inv X pins σ H1 s1->s1.heap.Ns C m->H1 C=aG->C≠X.env.locals->X.c6.heap.objs.size<=C->(∀y c,X.env.cells.lookup y=O c->c≠C)->(∀p∈X.pn++pins,p.1≠C)->Q (.ref D) H1->RR (.ref D) C (.ok .next) s1):
  wpAny X.md X.A (newList []) (λacc eU=>wpAny X.md X.A (newFunctionEnv R X.env.globals cl [] X.env.qual aG .none (O X.env)) (λnS ju=>
   codeAny X.md X.A (.compStart (sM P L g G B R F) 0 (.ref it) acc {nS with scope:=relabel R X.env}) (RR acc nS.locals) ju) E eU) E s2:=by
 refine QC (tgt:=L) a I2 T fM f2 hR λD C s I eU hD e3 I4 xw xk fin=>?_;refine bh (hw D hD) λW jm turn=>?_;obtain ⟨m0,w0⟩:=jm;rw[←e3] at w0;refine Zee (sJ _) (λk s'=>∃i ys H' os,os.length=xs.length/\Inv (cZ X xs fr R cl C s I f) [] (os++iM σ fr) H' s'/\tn i s'.heap/\(∀b∈f,H' b=aG)/\W i k ys H') ?_ m0
  ⟨0,[],_,List.replicate xs.length aG,W6,I4,xw,xk,w0⟩
 intro n s5 ZH;refine kA ZH λi ys H5 os qV I5 qU uK w5=>?_;have nQ:∀{H':Hp},(∀b∈f,H' b=aG)->∀b∈f,jq (cZ X xs fr R cl C s I f) [] H' b:=λ{H'} hn b h=>
  ⟨hn b h,(I5.ok.sH b h).1,I5.ok.r_ b h,.inl h,(I5.ok.sH b h).2,λp hp=>absurd (show p∈([]:aV) from hp) QS⟩
 rcases turn i n ys H5 w5 with⟨stop,qn⟩|⟨go,N,hN,step⟩
 ·refine az (T.done (cZ X xs fr R cl C s I f) Y Y Y hc i [] s5 _ H5 _ I5 (nQ uK) qU stop) λr s6 q=>?_;refine hI q λhr I6=>?_;subst hr;exact fin _ _ _ I6 qn
 ·refine az (T.item (cZ X xs fr R cl C s I f) Y Y Y hc i [] s5 _ H5 _ I5 (nQ uK) qU go) λr s6 q=>?_;refine bh q λu hr h6=>?_;subst hr;refine az h6 λ_ s7 q=>?_;obtain⟨v,H7,I7,r7,y7,uN,MB⟩:=q;have MC:=I7.pinned (nQ MB) (T.obj _ _ uN);refine eH (hg _ _ _ _ _ s7 _ H7 v u _ MC r7 (step v H7 y7 os qV)) (λ_ s8 q=>?_) λ _ _=>False.elim;obtain⟨σ8,H8,I8,⟨lI,LP,e8⟩,q8⟩:=q;subst e8;have again:∀{qW:St} {H9:Hp} {s9:cb} {qX:Z V},qW.length=xs.length->Inv (cZ X xs fr R cl C s I f) ([]++rX f s7.heap) (qW++iM σ fr) H9 s9->N qX H9->
    ∃m,m<n/\∃i ys H' os,os.length=xs.length/\Inv (cZ X xs fr R cl C s I f) [] (os++iM σ fr) H' s9/\tn i s9.heap/\(∀b∈f,H' b=aG)/\W i m ys H':=λ{qW H9 s9 qX} l1 I9 n9=>by
   obtain⟨m',hm,w9⟩:=hN qX H9 n9;refine⟨m',hm,i+1,qX,H9,qW,l1,I9.v_,T.keep _ _ _ uN λb h o e=>(I9.pin (b,o) (Yg _ (Yg _ (rA h e)))).1,λb h=>?_,w9⟩;obtain⟨o,e,d⟩:=T.obj _ _ uN b h;exact(I9.pin (b,o) (Yg _ (Yg _ (rA h e)))).2.1
  refine eH (MQ _ _ _ _ _ s8 _ H8 _ I8 q8) (λx s9 h9=>eH h9 (λxh MD h10=>?_) λ _ _=>False.elim) λ _ _=>False.elim;obtain⟨DO,MS,tn2,J2,qY,q_,ME,T2,V0,MT,W2,⟨m2,w2⟩,ZjP⟩:=h10;subst q_;have Lm:∀{H':Hp},(∀b∈MS,H' b=aG)->∀b∈MS,jq (cZ X xs fr R cl C s I f) ([]++rX f s7.heap) H' b:=λhn b h=>⟨hn b h,(MT b h).2⟩;have Vd:codeAny X.md X.A (.compLoop (sM P L g G B R F) 1 (.ref DO) (.ref D) (compEnvC R cl C X.env)) (λr nR=>match r with|.ok _=>∃m,m<n/\∃i ys H' os,os.length=xs.length/\Inv (cZ X xs fr R cl C s I f) [] (os++iM σ fr) H' nR/\tn i nR.heap/\(∀b∈f,H' b=aG)/\W i m ys H'|.error _=>False) MD:=by
   refine Zed (λk s'=>∃j zs aM H',Inv (cZ X xs fr R cl C s I f) ([]++rX f s7.heap) aM H' s'/\tn2 j s'.heap/\(∀b∈MS,H' b=aG)/\W2 j k zs aM H') ?_ m2 ⟨0,ys,_,qY,ME,V0,λb h=>(MT b h).1,w2⟩;intro k MF ZH;refine pz ZH λj zs ZkE z8 DF V1 V2 w11=>?_;rcases ZjP j k zs ZkE z8 w11 with⟨stop,⟨xA,ZkF,e3⟩,qn⟩|⟨go,N2,hN2,ZjQ⟩
   ·refine az (T2.done (cZ X xs fr R cl C s I f) Y Y Y hc j _ MF _ z8 _ DF (Lm V2) V1 stop) λr s12 q=>?_;obtain⟨hr,I12⟩:=q;subst hr;subst e3;exact again ZkF I12 qn
   ·refine az (T2.item (cZ X xs fr R cl C s I f) Y Y Y hc j _ MF _ z8 _ DF (Lm V2) V1 go) λr s12 q=>?_;obtain⟨u2,hr,DP⟩:=q;subst hr;refine az DP λ_ s13 q=>?_;obtain⟨v2,DQ,I13,r13,y13,LR,ZkG⟩:=q;have ZkH:=I13.pinned (Lm ZkG) (T2.obj _ _ LR);refine eH (MR _ _ _ _ _ s13 _ DQ v2 u2 _ ZkH r13 (ZjQ v2 DQ y13)) (λ_ s14 q=>?_) λ _ _=>False.elim;obtain⟨ZkI,sO,I14,q14⟩:=q;refine eH (he _ _ _ _ _ s14 _ sO _ I14 q14) (λu1 s15 q=>?_) λ _ _=>False.elim;obtain⟨y,MU,I15,r15,hD,hz,oh⟩:=q;refine eH (yF (X:=cZ X xs fr R cl C s I f) _ s15 _ MU (.ref D) [y] _ [u1] (λ_ H'=>N2 (zs++[y]) ZkI H') I15 Y (.cons r15 .nil) ⟨_,zs,y,Y,Y,hD,hz,oh⟩) (λ_ s16 q=>?_) λ_ _ z=>False.elim z;obtain⟨_,XY,MV,_,q16⟩:=q;obtain⟨m',hm,w16⟩:=hN2 _ _ _ q16;refine⟨m',hm,j+1,_,_,XY,MV.v_,T2.keep _ _ _ LR λb h o e=>(MV.pin (b,o) (Yg _ (Yg _ (rA h e)))).1,λb h=>?_,w16⟩;obtain⟨o,e,d⟩:=T2.obj _ _ LR b h;exact(MV.pin (b,o) (Yg _ (Yg _ (rA h e)))).2.1
  exact Zby Vd (T2.self _ 0 _ _ _ V0 Vd)
def ZiJ(n:Nat)(b:TI)(fr:Z (af×Nat))(l:TG)(A:TI)(t:TG)(w:TE):TE:=λσ H Q=>b σ H λJ a=>∀D,a D=aG->KP n J l A t w (iM σ fr) D a Q
def Zfm(u:X.calm=ar)(a:rB X R cl xs fr)(p:∀C s H fp,PG (cZ X xs fr R cl C s H fp) L l)(o:PI X L g c)(MQ:∀C s H fp,PI (cZ X xs fr R cl C s H fp) G B A)(MR:∀C s H fp,PG (cZ X xs fr R cl C s H fp) G t)
  (r:∀C s H fp,PE (cZ X xs fr R cl C s H fp) P w)(k:∀x,foldedSetIterable g X.env x=pure x:=by intro _;rfl)(d:∀C x,foldedSetIterable B (compEnvC R cl C X.env) x=pure x:=by intro _ _;rfl):
  PE X (.ListComp P [⟨L,g,[],0⟩,⟨G,B,[],0⟩] R F) (ZiJ xs.length c fr l A t w):=by
 intro b s σ H Q I h;refine xB Y k a.zD a.kind a.names (az (o b s σ H _ I h) λv f z=>az z λxh s2 y=>?_);obtain⟨it,fp,tn,J,H2,e,I2,T,E,f2,j⟩:=y;subst e;refine Zc4 u a p MQ MR r d I2 T E f2 j ?_;intro D C f H1 m I1 n f0 f1 f3 W N q;exact⟨m,n,λh' i=>⟨.ref D,H1,I1.turned i.extBut f0 f1 (.inr f3) W N,Y,q⟩⟩
end
def dY{K:ag}(h:X.K=K)(b:PE X l a):PI X c l (UT K a):=h▸RS b
def hZ{X:Cx}{K:ag}{b:Pos}{a:Z cV}{k:Nat}{t:pH}{n:Nat}(h:X.K=K)(e:X.calm=ar)(d:zU X a t)
  (c:(assignEach a X.env).length=n:=by rfl)(f:(assignEach a X.env).findIdx? (·.1)=aG:=by rfl):PG X (.Tuple a k b) (VL K n t):=h▸ZhS e d c f
def ZgL{K:ag}(h:Nat->Z V->Hp->Prop)(h0:h 0 [] (upd H D (.lst [])))(hl:∀i c H,i<=xs.length->h i c H->aj K H a xs)
  (hs:∀i v c H,xs[i]?=O v->h i c H->∀os:St,os.length=n->E v (os++F) H λt H2=>(∃W:St,W.length=n/\t=W++F)/\C t H2 λJ2 H3=>∃(b:U) (f:Z V) (g:Nat->Z V->St->Hp->Prop),J2=kF K b/\g 0 c t H3/\
   (∀k c d H,k<=f.length->g k c d H->aj K H b f)/\
   (∀k s c d H,f[k]?=O s->g k c d H->og s d H λAc H6=>te Ac H6 λy H7=>H7 D=O (.lst c)/\c.length<sizeLine/\g (k+1) (c++[y]) Ac (upd H7 D (.lst (c++[y]))))/\
   ∀c d H,g f.length c d H->(∃N:St,N.length=n/\d=N++F)/\h (i+1) c H)
  (hd:∀c H,h xs.length c H->Q (.ref D) H)(L:∀d H (R o:It->Hp->Prop),(∀J H,R J H->o J H)->C d H R->C d H o)(I:∀v d H (R o:St->Hp->Prop),(∀d H,R d H->o d H)->E v d H R->E v d H o):KP n (kF K a) E C og te F D H Q:=by
 refine⟨λi m c H=>m=xs.length-i/\i<=xs.length/\h i c H,⟨xs.length,QS,Yw _,h0⟩,?_⟩;intro i m c H ZH;refine c7 ZH λlX hi p=>?_;subst lX;have q:=hl i c H hi p;by_cases G:i<xs.length
 ·refine .inr ⟨⟨xs,xs[i],q,by simp[G]⟩,h (i+1),λeQ H' B=>⟨xs.length-(i+1),QO,Y,G,B⟩,λx H' y os qV=>?_⟩;obtain⟨e,y⟩:=y;subst e;refine I _ _ _ _ _ (λt H2 zz=>?_) (hs i x c _ (y xs q) p os qV);obtain⟨h1,h2⟩:=zz;refine⟨h1,L _ _ _ _ (λJ2 H3 h3=>?_) h2⟩;refine kS h3 λb f g js w0 wl ws P=>?_;subst js;refine⟨λk T j l r=>T=f.length-k/\k<=f.length/\g k j l r,⟨f.length,QS,Yw _,w0⟩,?_⟩;intro k T j l r ZH;refine c7 ZH λlX X w=>?_;subst lX;have A:=wl k j l r X w;by_cases z:k<f.length
  ·refine .inr ⟨⟨f,f[k],A,by simp[z]⟩,g (k+1),λeQ aM H' B=>⟨f.length-(k+1),QO,Y,z,B⟩,λs H5 u=>?_⟩;obtain⟨e2,u⟩:=u;subst e2;exact ws k s j l _ (u f A) w
  ·have e:=(i6 X (fb z))
   subst e;exact .inl ⟨⟨f,A,Ye _⟩,(P j l r w).1,(P j l r w).2⟩
 ·have e:=(i6 hi (fb G))
  subst e;exact .inl ⟨⟨xs,q,Ye _⟩,hd c H p⟩
section
variable {X:dC}{w:dm}{W:Type}[DecidableEq W]{knd:PySem.KeyKind X w W}{A:gb}{E:bg}{s:cb}
theorem Zac{d:U}{a:Z (W×a7)}{k:W}{f b:a7}{Q:bg}(g:knd.is k f=ar)(C:s.heap.DictOf knd d a)
  (t:∀v,valueAt a k=O v->Q v {s with toks:=s.toks+1})
  (r:valueAt a k=aG->∀q,q.DictOf knd d (stored a k b)->Heap.SameBut d s.heap q->Q b {s with heap:=q,toks:=s.toks+1})
  (B:a.length<=sizeLine):wpAny (model X w) A (dictSetDefault d f b) Q E s:=by
 refine lG C λo c G j F hd u h J=>?_;have I:c.size<=sizeLine:=by
  have L:=h.length
  grind
 have y:∀x,findBy knd.is c x=valueAt a x:=λx=>by
  rw[←h.find x];simp[findBy]
 unfold dictSetDefault;try with_reducible refine k8 ?_
 refine bp (knd.pyHash g (bp (wpAny_dictFind_of g j hd u ?_)));have H:(c.findIdx? λe=>knd.is k e.key)=a.findIdx? λn=>decide (n.1=k):=by
  rw[←h.findIdx k];obtain⟨l⟩:=c;simp
 cases p:c.findIdx? λe=>knd.is k e.key with
 |some i=>
  have m:valueAt a k=(c[i]?).map (·.val):=by rw[←y k,U_,p]
  refine bp (yK j hd ?_);cases D:c[i]? with
  |none=>
   have:=Array.findIdx?_eq_some_iff_findIdx_eq.mp p
   grind
  |some e=>
   rw[D] at m;exact bp (qL (cR (t e.val m)))
 |none=>
  have m:valueAt a k=aG:=by rw[←y k,U_,p]
  have z:¬(a.any λn=>decide (n.1=k))=ar:=by
   grind
  refine bp (qL (bp (xW j hd (cR (r m _ ⟨_,_,G+1,Wp _ j (NI (u5 hd _)),
   F.mapDictKeys _,u5 hd _,u.push g _,?_,?_⟩ (sq ..))))))
  ·rw[stored,bt z];have:=h.append g (knd.hash k) b
   grind
  ·rw[stored,bt z,Yr,Wz]
   grind
def Zas(h:knd.is k key=ar)(m:(d==sysModules)=a_)(a:a7):
  MeetsIn X w (Builtin.«dict.setdefault» ⟨[.ref d,key,a],[]⟩) (λ_ R s=>∃b,s.heap.DictOf knd d b/\b.length<=sizeLine/\
   (∀v,valueAt b k=O v->R (.ok (.ret v)) {s with toks:=s.toks+1})/\
   (valueAt b k=aG->∀c,c.DictOf knd d (stored b k a)->Heap.SameBut d s.heap c->R (.ok (.ret a)) {s with heap:=c,toks:=s.toks+1})):=
 .of_wp λA R s ⟨b,f,i,o,n⟩=>by
  refine bp (bp (xG f.typeIs (cR ?_)));show wpAny _ _ (if(d==sysModules)=ar then _ else(dictSetDefault d key a>>=_)) _ _ s;rw[bt (by rw[m];exact Yn)];exact bp (Zac h f (λv j=>cR ⟨v,Y,o v j⟩) (λl c e g=>cR ⟨a,Y,n l c e g⟩) i)
end
theorem Zfn(I:Inv X pins σ H s)(e:H a=O (.dK b))(p:RelV (kV k) u)(o:RelV z r)(l:b.length<sizeLine)
  (F:∀v h g,aL b k=O v->Inv X pins σ H g->RelV v h->Q h g)(D:∀g,aL b k=aG->Inv X pins σ (upd H a (.dK (putK b k z))) g->Q r g):
  wpAny X.md A (call (.builtin "dict.setdefault") [.ref a,u,r]) Q E s:=by
 obtain⟨G,hd,i,c,n⟩:=nN I.ay e;have t:i.length<=sizeLine:=by rwa[←c.length]
 have f:=c.val k;refine pQ u4 n.typeIs Dv (Dq _ _ _) (Zas (nM p) hd r) ⟨i,n,t,λv m=>?_,λB J j w=>?_⟩
 ·cases d:aL b k with
  |none=>rw[d,m] at f;cases f
  |some x=>
   rw[d,m] at f;exact F x v _ d (I.tok _) f
 ·have d:aL b k=aG:=by
   cases d:aL b k with
   |none=>rfl
   |some x=>rw[d,B] at f;cases f
  have C:(putK b k z).length<=sizeLine:=by have:=A6 b k z;exact lR this (uX l)
  exact D _ d (rR I (by exact e▸kJ) w (let⟨q,_,_,y,_⟩:=j;⟨q,y⟩) (zd C hd (c.put k o) j))
def IZ(h f g:TE):TE:=λc H Q=>h c H λx e=>∃a,x=.ref a/\xy e a/\f c e λy i=>g c i λz d=>∃b k,d a=O (.dK b)/\y=kV k/\b.length<sizeLine/\
 (∀v,aL b k=O v->Q v d)/\(aL b k=aG->Ch d a (.dK (b++[(k,z)])) (Q z))
def ZgM(g f:TE):TE:=λc H Q=>g c H λx e=>∃a,x=.ref a/\xy e a/\f c e λy d=>∃b k v,d a=O (.dK b)/\y=kV k/\aL b k=O v/\Ch d a (.dK (iN b k)) (Q v)
def O_(R:PE X o q)(W:PE X e ty)(T:PE X f p)(m:M2 X o "setdefault" apos e f cy):PE X (.Call (.Attribute o "setdefault" apos) [e,f] [] cy) (IZ q ty p):=by
 intro b s i H Q I h;refine uA m.base m.jz m.line sY u4 Dw (az (R b s i H _ I h) λu B n=>?_);obtain⟨x,H1,l,D,a,ex,d,L⟩:=n;subst ex;obtain rfl:u=Value.ref a:=D;refine c7 (wz l d) λt r _=>?_;refine⟨t,r,?_⟩;rw[m.trees];refine n7 Y (qf (oy (az (W b B i H1 _ l L) λiv A ⟨y,H2,I2,C,J⟩=>
  oy (az (T b A i H2 _ I2 J) λfv s3 ⟨z,H3,I3,j,P,k,ea,ey,N,G,F⟩=>sA ?_))))
 subst ey;refine Zfn I3 ea C j N (λv w' w c g E=>⟨v,H3,g,E,G v c⟩) λw c g=>?_;rw[ko _ c] at g;exact⟨z,_,g,j,(F c).at⟩
def P6(B:PE X o i)(C:PE X e ty)(m:M1 X o "pop" apos e G):PE X (.Call (.Attribute o "pop" apos) [e] [] G) (ZgM i ty):=by
 intro b s c H Q I h;refine uA m.base m.jz m.line sY slot_dict_pop PySem.F.type_dict_pop (az (B b s c H _ I h) λu p g=>?_);obtain⟨x,N,f,r,a,E,d,w⟩:=g;subst E;obtain rfl:u=Value.ref a:=r;refine c7 (wz f d) λn j _=>?_;refine⟨n,j,?_⟩;rw[m.trees];refine n7 Y (qf (oy (az (C b p c N _ f w) λW T zz=>?_)));obtain⟨y,H2,L,q,z,k,v,F,D,l,t⟩:=zz;refine sA ?_;subst D;exact ZjI L F q l (.inl Y) λP R J A=>⟨v,_,J,A,t.at⟩
end _L
namespace _L
open PySem PySem.W PySem.Calls PySem.Spec PyProof.Rows
def eV{c:Type}(n:Nat)(P:c->Prop):KasT c->Prop
 |.ret a=>P a
 |.ask i j k=>i<n/\j<n/\∀b,eV n P (k b)
theorem eV.bind{c d:Type}{n:Nat}{P:c->Prop}{Q:d->Prop}{f:c->KasT d}(e:∀a,P a->eV n Q (f a)):∀{t:KasT c},eV n P t->eV n Q (t.bind f)
 |.ret a,h=>e a h
 |.ask _ _ _,h=>⟨h.1,h.2.1,λb=>eV.bind e (h.2.2 b)⟩
def Good(n:Nat)(p:dg Nat):Prop:=0<n/\p.Perm (List.range n).toArray
def Good.get(g:Good n p)(m:Nat):p.getD m 0<n:=by
 by_cases h:m<p.size
 ·have e:p.getD m 0=p[m]:=by rw[Y0,W4 h];rfl
  rw[e];have:=g.2.mem_iff.mp (XQ h);simpa using this
 ·have e:p.getD m 0=0:=by rw[Y0,XX (fb h)];rfl
  rw[e];exact g.1
def Good.rev(g:Good n p)(i j:Nat):Good n (kas_rev p i j):=⟨g.1,(mirror_perm p i j _).trans g.2⟩
theorem I0(g:Good n p):∀f m,eV n (λ_=>True) (kas_asc p f m)
 |0,_=>trivial
 |f+1,m=>⟨g.get m,g.get (m-1),λb=>by
  cases b with
  |true=>(dsimp only;rw[bR Y]);exact trivial
  |false=>(dsimp only;rw[bt Yn]);exact I0 g f (m+1)⟩
theorem Bq:∀f (p:dg Nat) m q,Good n p->eV n (λr=>Good n r.1) (kas_desc f p m q)
 |0,_,_,_,g=>g
 |f+1,p,m,q,g=>⟨g.get m,g.get (m-1),λb=>by
  cases b with
  |true=>
   split;·exact Bq f _ _ _ (g.rev _ _)
   ·exact Bq f _ _ _ g
  |false=>
   refine⟨g.get (m-1),g.get m,λd=>?_⟩;cases d with
   |true=>(dsimp only;rw[bR Y]);exact g
   |false=>(dsimp only;rw[bt Yn]);exact Bq f _ _ _ g⟩
def Pa(g:Good n p):eV n (λr=>Good n r.2) (kas_tail3 m k p):=by
 refine eV.bind (λa _=>?_) (I0 (g.rev 0 m) _ _);exact g.rev 0 m
def OC(g:Good n p):eV n (λr=>Good n r.2) (kas_descPart m k p):=by
 refine eV.bind (λr a=>?_) (Bq _ p _ _ g);split;·exact Pa (Good.rev a _ _)
 ·exact Pa a
theorem Pb(g:Good n p):eV n (λr=>Good n r.2) (kas_count k p):=by
 refine eV.bind (λm _=>?_) (I0 g _ _);split;·exact g
 ·split
  ·refine⟨g.get _,g.get _,λb=>?_⟩;cases b with
   |true=>(dsimp only;rw[bR Y]);exact g
   |false=>(dsimp only;rw[bt Yn]);exact OC (g.rev _ _)
  ·exact OC g
theorem Hi(g:Good n p):∀f l r,eV n (λ_=>True) (kas_place p k f l r)
 |0,_,_=>trivial
 |f+1,l,r=>by
  unfold kas_place;split;·exact trivial
  ·refine⟨g.get _,g.get _,λb=>?_⟩;cases b with
   |true=>(dsimp only;rw[bR Y]);exact Hi g f _ _
   |false=>(dsimp only;rw[bt Yn]);exact Hi g f _ _
theorem QZ{n:Nat}:∀f (p:dg Nat) k,Good n p->eV n (Good n) (kas_bin f p k)
 |0,_,_,g=>g
 |f+1,p,k,g=>eV.bind (λl _=>QZ f _ _ ⟨g.1,(bubble_perm p k _).trans g.2⟩) (Hi g _ _ _)
def P7(h:0<n):eV n (Good n) (kas_sort n):=by
 refine eV.bind (λr a=>?_) (Pb ⟨h,vj _⟩);split;·exact QZ _ _ _ a
 ·exact a
def range_getD(vs:Z α)(d:α):(List.range vs.length).map (λi=>vs.getD i d)=vs:=by
 refine Wx λi=>?_
 grind
def Cf(h:cX)(b:Z a7):Prop:=∀v∈b,∃(a:U) (o:Obj) (n:Nat) (x y:Int) (t u:Tok),v=.ref a/\h.get? a=O o/\o.cls=.type "tuple"/\o.data=.seq #[.int x t,.int y u] n
theorem Cf.XZ:∀{b:Z a7},Cf h b->∃fs:Z a7,KatTups h b fs/\fs.length=b.length/\∀v∈fs,∃x t,v=Value.int x t
 |[],_=>⟨[],KatTups.nil,Y,λ_ h=>by cases h⟩
 |v::b,c=>by
  obtain⟨a,o,n,x,y,t,u,rfl,j,i,g⟩:=c v Ym;refine cu (Cf.XZ λz f=>c z (Yx _ f)) λfs e d k=>?_;refine⟨.int x t::fs,KatTups.cons j i g Y e,by rw[Wh,Wh,d],λv c=>?_⟩
  grind
theorem P8:∀{c:Z U} {b:Z a7},Vals (c.map V.ref) b->b=c.map Value.ref
 |[],_,.nil=>rfl
 |a::c,u::b,.cons r t=>by
  rw[r,P8 t,Wv]
theorem P9:∀a:Z U,Vals (a.map V.ref) (a.map Value.ref)
 |[]=>.nil
 |_::a=>.cons Y (P9 a)
noncomputable def Run{b:Type}(c:Nat->Nat->cF):KasT b->b
 |.ret a=>a
 |.ask i j k=>Run c (k (c i j))
theorem Run.bind:∀t:KasT α,Run lt (t.bind f)=Run lt (f (Run lt t))
 |.ret _=>rfl
 |.ask i j k=>Run.bind (k (lt i j))
theorem eV.run(b:∀i j (C:cF->cb->Prop),i<n->j<n->C (lt i j) s->cmp i j C s):∀{t:KasT α},eV n P t->G (Run lt t) s->t.kasWp cmp G s
 |.ret _,_,a=>a
 |.ask i j k,h,a=>b i j _ h.1 h.2.1 (eV.run b (h.2.2 _) a)
structure kI(n:Nat)(lt:Nat->Nat->cF):Prop where
 trans:∀i j k,i<n->j<n->k<n->lt i j=ar->lt j k=ar->lt i k=ar
 DS:∀i j,i<n->j<n->i≠j->lt i j=a_->lt j i=ar
 ZkK:∀i j,i<n->j<n->lt i j=ar->lt j i=a_
def Sd(a:Nat->Nat->cF)(p:dg Nat)(m:Nat):Prop:=∀i j,i<j->j<m->a (p.getD i 0) (p.getD j 0)=ar
def Ds(a:Nat->Nat->cF)(p:dg Nat)(m:Nat):Prop:=∀i j,i<j->j<m->a (p.getD j 0) (p.getD i 0)=ar
def Good.size(g:Good n p):p.size=n:=by
 have:=g.2.size_eq
 grind
def Good.ne(g:Good n p)(h:i<n)(f:j<n)(b:i≠j):p.getD i 0≠p.getD j 0:=by
 have c:p.toList.Nodup:=by
  have:=(Je.mp g.2).nodup_iff.mpr (by simpa using XR);exact this
 have sz:=g.size;have e:∀k (d:k<n),p.getD k 0=p.toList[k]'(by rw[Y5];omega):=λk d=>by
  simp_all
 have a:=Wa.mp c;rw[e i h,e j f];intro z;rcases VA b with q|q;·exact a _ _ _ _ q z
 ·exact a _ _ _ _ q z.symm
section
variable {n:Nat}{lt:Nat->Nat->cF}
def Sf(L:kI n lt)(g:Good n p)(f:1<=m)(a:Sd lt p m)(h:lt (p.getD (m-1) 0) (p.getD m 0)=ar):Sd lt p (m+1):=by
 intro i j c b;by_cases e:j=m
 ·subst e;by_cases d:i=j-1;·rwa[d]
  ·exact L.trans _ _ _ (g.get _) (g.get _) (g.get _) (a i (j-1) QO QO) h
 ·exact a i j c (eO (fI b) e)
def ZgN(L:kI n lt)(g:Good n p)(f:1<=m)(a:Ds lt p m)(h:lt (p.getD m 0) (p.getD (m-1) 0)=ar):Ds lt p (m+1):=by
 intro i j c b;by_cases e:j=m
 ·subst e;by_cases d:i=j-1;·rwa[d]
  ·exact L.trans _ _ _ (g.get _) (g.get _) (g.get _) h (a i (j-1) QO QO)
 ·exact a i j c (eO (fI b) e)
theorem yU(L:kI n lt)(g:Good n p):∀f m,1<=m->m+f<=n->Sd lt p m->Sd lt p (Run lt (kas_asc p f m))/\m<=Run lt (kas_asc p f m)/\Run lt (kas_asc p f m)<=m+f
 |0,m,_,_,h=>⟨h,Ye _,Ye _⟩
 |f+1,m,i,k,h=>by
  have e:Run lt (kas_asc p (f+1) m)=Run lt (if lt (p.getD m 0) (p.getD (m-1) 0)=ar then KasT.ret m else kas_asc p f (m+1)):=Y;rw[e];by_cases c:lt (p.getD m 0) (p.getD (m-1) 0)=ar
  ·rw[bR c];exact⟨h,Ye _,by exact Ao _ _⟩
  ·rw[bt c];have j:lt (p.getD m 0) (p.getD (m-1) 0)=a_:=by cases z:lt (p.getD m 0) (p.getD (m-1) 0) with|true=>exact absurd z c|false=>rfl
   refine c7 (yU L g f (m+1) (lK i) QO (Sf L g i h (L.DS _ _ (g.get _) (g.get _) (g.ne QO QO QO) j))) λa b d=>?_
   grind
theorem Q0(L:kI n lt)(g:Good n p):∀f m,1<=m->m+f<=n->Ds lt p m->∃h,Run lt (kas_desc f p m 0)=(p,h,0)/\Ds lt p h/\m<=h/\h<=m+f
 |0,m,_,_,ds=>⟨m,Y,ds,Ye _,Ye _⟩
 |f+1,m,i,l,ds=>by
  have e:Run lt (kas_desc (f+1) p m 0)=Run lt (if lt (p.getD m 0) (p.getD (m-1) 0)=ar then(if 0>0 then kas_desc f (kas_rev p (m-(0+1)) m) (m+1) 0 else kas_desc f p (m+1) 0) else KasT.ask (p.getD (m-1) 0) (p.getD m 0) λd=>if d=ar then KasT.ret (p,m,0) else kas_desc f p (m+1) (0+1)):=Y;rw[e];by_cases c:lt (p.getD m 0) (p.getD (m-1) 0)=ar
  ·rw[bR c,bt (by decide)];refine nh (Q0 L g f (m+1) (lK i) QO (ZgN L g i ds c)) λh a b d o=>?_
   grind
  ·rw[bt c];have k:lt (p.getD m 0) (p.getD (m-1) 0)=a_:=by cases z:lt (p.getD m 0) (p.getD (m-1) 0) with|true=>exact absurd z c|false=>rfl
   have j:Run lt (KasT.ask (p.getD (m-1) 0) (p.getD m 0) λd=>if d=ar then KasT.ret (p,m,0) else kas_desc f p (m+1) (0+1))=Run lt (if lt (p.getD (m-1) 0) (p.getD m 0)=ar then KasT.ret (p,m,0) else kas_desc f p (m+1) (0+1)):=Y;rw[j,bR (L.DS _ _ (g.get m) (g.get (m-1)) (g.ne QO QO QO) k)];exact⟨m,Y,ds,Ye _,(Ao _ _)⟩
def Sg(a:m<=p.size)(b:i<m):(kas_rev p 0 m).getD i 0=p.getD (m-1-i) 0:=by
 unfold kas_rev;rw[Y0,getElem?_mirror_all a,uW ⟨Yw _,b⟩,←Y0]
 congr 1
 omega
def P_(L:kI n lt)(g:Good n p)(k:1<=m)(h:m<=n)(o:Ds lt p m):Good n (Run lt (kas_tail3 m n p)).2/\Sd lt (Run lt (kas_tail3 m n p)).2 (Run lt (kas_tail3 m n p)).1/\m<=(Run lt (kas_tail3 m n p)).1/\(Run lt (kas_tail3 m n p)).1<=n:=by
 have f:Sd lt (kas_rev p 0 m) m:=λi j l d=>by
  rw[Sg (by rwa[g.size]) (tr l d),Sg (by rwa[g.size]) d];exact o _ _ QO QO
 have e:Run lt (kas_tail3 m n p)=(Run lt (kas_asc (kas_rev p 0 m) (n-m) m),kas_rev p 0 m):=by
  unfold kas_tail3;rw[Run.bind];rfl
 refine c7 (yU L (g.rev 0 m) (n-m) m k (mV (rj h)) f) λa b c=>?_;exact e▸⟨g.rev 0 m,a,b,QO⟩
def Zef(L:kI n lt)(g:Good n p):Good n (Run lt (kas_count n p)).2/\Sd lt (Run lt (kas_count n p)).2 (Run lt (kas_count n p)).1/\1<=(Run lt (kas_count n p)).1/\(Run lt (kas_count n p)).1<=n:=by
 have t:=g.1;refine c7 (yU L g (n-1) 1 (Ye _) QO (λi j o v=>QO)) λf h D=>?_;have e:Run lt (kas_count n p)=Run lt (if(Run lt (kas_asc p (n-1) 1)==n)=ar then KasT.ret (Run lt (kas_asc p (n-1) 1),p) else if Run lt (kas_asc p (n-1) 1)>1 then KasT.ask (p.getD 0 0) (p.getD (Run lt (kas_asc p (n-1) 1)-1) 0) λc=>if c=ar then KasT.ret (Run lt (kas_asc p (n-1) 1),p) else kas_descPart (Run lt (kas_asc p (n-1) 1)) n (kas_rev p 0 (Run lt (kas_asc p (n-1) 1))) else kas_descPart (Run lt (kas_asc p (n-1) 1)) n p):=by
  unfold kas_count;rw[Run.bind]
 rw[e];generalize k:Run lt (kas_asc p (n-1) 1)=r at f h D;by_cases s:(r==n)=ar
 ·rw[bR s];exact⟨g,f,h,by show r<=n;omega⟩
 ·rw[bt s];have B:r≠n:=λz=>s (beq_iff_eq.mpr z);by_cases l:r>1
  ·rw[bR l];have G:Run lt (KasT.ask (p.getD 0 0) (p.getD (r-1) 0) λc=>if c=ar then KasT.ret (r,p) else kas_descPart r n (kas_rev p 0 r))=Run lt (if lt (p.getD 0 0) (p.getD (r-1) 0)=ar then KasT.ret (r,p) else kas_descPart r n (kas_rev p 0 r)):=Y;rw[G,bR (f 0 (r-1) (Nat.sub_pos_of_lt l) QO)];exact⟨g,f,h,by show r<=n;omega⟩
  ·rw[bt l];have C:r=1:=(i6 (fb l) h)
   subst C;have hd:lt (p.getD 1 0) (p.getD 0 0)=ar:=by
    have:n-1=(n-2)+1:=QO
    rw[this] at k;have F:Run lt (kas_asc p (n-2+1) 1)=Run lt (if lt (p.getD 1 0) (p.getD (1-1) 0)=ar then KasT.ret 1 else kas_asc p (n-2) (1+1)):=Y;rw[F] at k;by_cases c:lt (p.getD 1 0) (p.getD (1-1) 0)=ar;·exact c
    ·rw[bt c] at k;have H:lt (p.getD 1 0) (p.getD (1-1) 0)=a_:=by cases z:lt (p.getD 1 0) (p.getD (1-1) 0) with|true=>exact absurd z c|false=>rfl
     have I:=Sf L g (Ye _) (λi j o v=>QO) (L.DS _ _ (g.get _) (g.get _) (g.ne (eO (l5 t) B) t (by decide)) H);obtain⟨_,b,_⟩:=yU L g (n-2) 2 (by decide) QO I;rw[show 1+1=2 from Y] at k;omega
   have q:Ds lt p 2:=λi j o v=>by
    obtain rfl:j=1:=QO
    obtain rfl:i=0:=(i6 (fI o) (AU _))
    exact hd
   obtain⟨u,a,b,c,d⟩:=Q0 L g (n-(1+1)) (1+1) (by decide) QO q;have E:Run lt (kas_descPart 1 n p)=Run lt (kas_tail3 u n p):=by
    unfold kas_descPart;rw[Run.bind,a];dsimp only;rw[bt (by decide)]
   rw[E];refine d7 (P_ L g (m:=u) (uV c) QO b) λA y x w=>?_;exact⟨A,y,(uV (gm c x)),w⟩
theorem Sh(L:kI n lt)(g:Good n p)(a:Sd lt p n):∀f m,1<=m->m+f<=n->Run lt (kas_asc p f m)=m+f
 |0,_,_,_=>rfl
 |f+1,m,b,c=>by
  have e:Run lt (kas_asc p (f+1) m)=Run lt (if lt (p.getD m 0) (p.getD (m-1) 0)=ar then KasT.ret m else kas_asc p f (m+1)):=Y;rw[e,bt (by rw[L.ZkK _ _ (g.get _) (g.get _) (a (m-1) m QO QO)];exact Yn),Sh L g a f (m+1) (lK b) QO];exact Nat.add_right_comm _ _ _
def Zeg(L:kI n lt)(g:Good n p)(a:Sd lt p n):Run lt (kas_count n p)=(n,p):=by
 have b:=g.1;unfold kas_count;rw[Run.bind,(Sh L g a (n-1) 1 (Ye _) QO),bR (beq_iff_eq.mpr (rj (l5 b)))];show(1+(n-1),p)=(n,p)
 (simp;exact QdN (uX b))
theorem IA(L:kI n lt)(g:Good n p)(u:k<n)(j:Sd lt p k):∀f l r,l<=r->r<=k->r-l<=f->(∀i,i<l->lt (p.getD i 0) (p.getD k 0)=ar)->(∀i,r<=i->i<k->lt (p.getD k 0) (p.getD i 0)=ar)->
  Run lt (kas_place p k f l r)<=k/\(∀i,i<Run lt (kas_place p k f l r)->lt (p.getD i 0) (p.getD k 0)=ar)/\∀i,Run lt (kas_place p k f l r)<=i->i<k->lt (p.getD k 0) (p.getD i 0)=ar
 |0,l,r,v,a,x,q,o=>⟨by exact gm v a,q,λi (b:l<=i) h=>o i QO h⟩
 |f+1,l,r,v,a,x,q,o=>by
  rw[kas_place];by_cases c:l≥r
  ·rw[bR c];exact⟨by exact gm v a,q,λi (b:l<=i) h=>o i (gm c b) h⟩
  ·rw[bt c];have w:l<=(l+r)/2:=QO
   have d:(l+r)/2<r:=QO
   generalize(l+r)/2=m at w d;have y:Run lt (KasT.ask (p.getD k 0) (p.getD m 0) λc=>if c=ar then kas_place p k f l m else kas_place p k f (m+1) r)=Run lt (if lt (p.getD k 0) (p.getD m 0)=ar then kas_place p k f l m else kas_place p k f (m+1) r):=Y;rw[y];by_cases s:lt (p.getD k 0) (p.getD m 0)=ar
   ·rw[bR s];refine IA L g u j f l m w (tE (i2 d a)) QO q λi b h=>?_;by_cases e:i=m;·rwa[e]
    ·exact L.trans _ _ _ (g.get _) (g.get _) (g.get _) s (j m i (eO b (Ne.symm e)) h)
   ·rw[bt s];have A:lt (p.getD k 0) (p.getD m 0)=a_:=by cases z:lt (p.getD k 0) (p.getD m 0) with|true=>exact absurd z s|false=>rfl
    have t:=L.DS _ _ (g.get k) (g.get m) (g.ne u (m9 (m9 d a) (nV u)) (Nat.ne_of_gt (i2 d a))) A;refine IA L g u j f (m+1) r (l5 d) a QO (λi b=>?_) o;by_cases e:i=m;·rwa[e]
    ·exact L.trans _ _ _ (g.get _) (g.get _) (g.get _) (j i m (eO (fI b) e) (i2 d a)) t
theorem Kg(L:kI n lt):∀f (p:dg Nat) k,Good n p->k+f=n->Sd lt p k->Good n (Run lt (kas_bin f p k))/\Sd lt (Run lt (kas_bin f p k)) n
 |0,p,k,g,e,d=>by
  have A:k=n:=e
  refine⟨g,?_⟩;rw[←A];exact d
 |f+1,p,k,g,e,d=>by
  have u:k<n:=QO
  refine c7 (IA L g u d k 0 k (Yw _) (Ye _) (qd _) (λi v=>absurd v (Wt _)) (λi D C=>QO)) λa b c=>?_;have y:Run lt (kas_bin (f+1) p k)=Run lt (kas_bin f (bubble p k (k-Run lt (kas_place p k k 0 k))) (k+1)):=by
   rw[kas_bin,Run.bind]
  rw[y];generalize Run lt (kas_place p k k 0 k)=l at a b c;have w:Good n (bubble p k (k-l)):=⟨g.1,(bubble_perm p k _).trans g.2⟩;have sz:=g.size;have get:∀i,(bubble p k (k-l)).getD i 0=if i=l then p.getD k 0 else if l<i/\i<=k then p.getD (i-1) 0 else p.getD i 0:=λi=>by
   have h:=getElem?_bubble (xs:=p) (src:=k) QO (k-l) (B1 _ _) i;rw[show k-(k-l)=l by omega] at h;rw[Y0,h];by_cases z:i=l;·rw[bR z,bR z,←Y0]
   ·rw[bt z,bt z];by_cases m:l<i/\i<=k;·rw[bR m,bR m,←Y0]
    ·rw[bt m,bt m,←Y0]
  refine Kg L f _ (k+1) w QO λi j x B=>?_;rw[get i,get j];by_cases s:i=l
  ·rw[bR s,bt QO,bR QO];exact c (j-1) QO QO
  ·rw[bt s];by_cases r:l<i/\i<=k
   ·rw[bR r,bt QO,bR QO];exact d (i-1) (j-1) QO QO
   ·rw[bt r];have t:i<l:=QO
    by_cases q:j=l;·rw[bR q];exact b i t
    ·rw[bt q];by_cases o:l<j/\j<=k
     ·rw[bR o];exact d i (j-1) QO QO
     ·rw[bt o];exact d i j x QO
def Zfo(L:kI n lt)(h:0<n):Good n (Run lt (kas_sort n))/\Sd lt (Run lt (kas_sort n)) n:=by
 refine d7 (Zef L ⟨h,vj _⟩) λa b c d=>?_;have e:Run lt (kas_sort n)=Run lt (if(Run lt (kas_count n (List.toArray (List.range n)))).1<n then kas_bin (n-max (Run lt (kas_count n (List.toArray (List.range n)))).1 1) (Run lt (kas_count n (List.toArray (List.range n)))).2 (max (Run lt (kas_count n (List.toArray (List.range n)))).1 1) else KasT.ret (Run lt (kas_count n (List.toArray (List.range n)))).2):=by
  unfold kas_sort;rw[Run.bind]
 rw[e];generalize Run lt (kas_count n (List.toArray (List.range n)))=r at a b c d;have f:max r.1 1=r.1:=QO
 by_cases z:r.1<n
 ·rw[bR z,f];exact Kg L _ _ _ a (rj d) b
 ·rw[bt z];have:=(i6 d (fb z))
  refine⟨a,?_⟩;rw[this] at b;exact b
end
def jR(p q:Int×Int):Prop:=p.1<q.1\/(p.1=q.1/\p.2<q.2)
noncomputable def ltB(p q:Int×Int):cF:=if p.1=q.1 then decide (p.2<q.2) else decide (p.1<q.1)
def ltB_iff:ltB p q=ar↔jR p q:=by
 unfold ltB jR
 (split<;>simp_all)
def lM(a:Z (Int×Int))(i j:Nat):cF:=ltB (a.getD i (0,0)) (a.getD j (0,0))
theorem ZiL(d:c.Nodup):kI c.length (lM c):=by
 have n:∀{p q:Int×Int},ltB p q=a_->¬jR p q:=λ{p q} h z=>by rw[ltB_iff.mpr z] at h;cases h
 refine⟨λi j k _ _ _ m l=>?_,λi j g f ne h=>?_,λi j _ _ h=>?_⟩
 ·have a:=ltB_iff.mp m;have b:=ltB_iff.mp l;refine ltB_iff.mpr ?_;unfold jR at*;omega
 ·refine ltB_iff.mpr ?_;have a:=n h;have e:c.getD i (0,0)≠c.getD j (0,0):=by
   rw[Yd,Yd,Yb g,Yb f];have o:=Wa.mp d
   grind
  have r:¬((c.getD i (0,0)).1=(c.getD j (0,0)).1/\(c.getD i (0,0)).2=(c.getD j (0,0)).2):=λz=>e (Prod.ext z.1 z.2);unfold jR at*;omega
 ·cases z:lM c j i with
  |false=>rfl
  |true=>
   have a:=ltB_iff.mp h;have b:=ltB_iff.mp z;unfold jR at a b;omega
def uk(h:cX)(b:Z a7)(c:Z (Int×Int)):Prop:=Paired (λv (p:Int×Int)=>∃(a:U) (o:Obj) (n:Nat) (t u:Tok),v=.ref a/\h.get? a=O o/\o.cls=.type "tuple"/\o.data=.seq #[.int p.1 t,.int p.2 u] n) b c
theorem uk.ia(q:uk h vs b):Cf h vs:=by
 intro v a;induction q with
 |nil=>cases a
 |cons f _ c=>grind
def GH{c a:Type}{F:c->a->Prop}{d:Z c}{g:Z a}(h:Paired F d g){i:Nat}(j:i<d.length)(x:c)(y:a):F (d.getD i x) (g.getD i y):=by
 refine bh (gY h (Yb j)) λb e f=>?_
 simp_all
section
variable {X:dC}{w:dm}{A:gb}{E:bg}{s:cb}
def Zfp(f:uk s.heap d e)(x:i<d.length)(v:j<d.length)(b:C (lM e i j) s):kas_ask X w A (tuples' ar) d i j C s:=by
 unfold kas_ask;obtain⟨a,o,n,t,u,B,y,I,g⟩:=GH f x Value.none (0,0);obtain⟨J,F,G,m,l,k,r,H,h⟩:=GH f v Value.none (0,0);unfold lM at b;rw[B,k];generalize e.getD i (0,0)=p at b g;generalize e.getD j (0,0)=q at b h;refine kat_lt y g r h ?_;unfold ltB at b;refine kat_cons (va p.1 t q.1 m X w _ _ (kat_go (λc=>kat_yes (kat_cons (va p.2 u q.2 l X w _ _ (kat_go (λD=>kat_yes (kat_nil ?_)) λD=>kat_no ?_)))) λc=>kat_no ?_));·simp_all
 ·rw[bR (beq_iff_eq.mp c)] at b;exact kat_one _ _ (lt_int b)
 ·rw[bt (λz=>by rw[beq_iff_eq.mpr z] at c;cases c)] at b;exact kat_lt_int b
def ZiM
  (k:∀c:SortSt,arrOf c=(List.toArray (List.range 64)).map (kas_item it)->failedOf c=aG->Q () c s)
  (h:(kas_count 64 (List.toArray (List.range 64))).kasWp (kas_cmp X w A a it) (λr d=>r=(64,List.toArray (List.range 64))/\d=s) s):kasC (model X w) A E sortRuns' Q (kas_st a it (List.toArray (List.range 64))) s:=by
 have g:(List.toArray (List.range 64)).size=64:=Y;have b:(arrOf (kas_st a it (List.toArray (List.range 64)))).size=64:=(Qcq (f:=kas_item it)).trans g;have i:minRun' 64 64 0=32:=QK
 rw[sortRuns'_eq];refine kasC_bind (kasC_get ?_);(try dsimp only);simp only[b,i];refine kasC_bind (kasC_range ?_);show kasC _ _ _ (forIn (0::1::List.range' 2 62) _ _) _ _ _;refine kasC_cons ?_;(try dsimp only);rw[bt (show ¬(0:Nat)≥64 by decide)];simp only[Nat.sub_zero];refine kasC_bind (kas_count_ (show 1<=64 by decide) (xl g.symm) (λm l d _ _ _ j=>?_) h);obtain⟨e,rfl⟩:=j;cases e;(try dsimp only);rw[bt (show ¬(64:Nat)<32 by decide)];refine kasC_bind (kasC_get ?_);rw[show(pendingOf (kas_st a it (List.toArray (List.range 64)))).back?=aG from Y];(try dsimp only);refine kasC_bind (kasC_modify (kasC_pure ?_));show kasC _ _ _ (forIn (1::List.range' 2 62) _ _) _ _ _;refine kasC_cons ?_;(try dsimp only);rw[bR (show(0:Nat)+64≥64 by decide)];refine kasC_pure ?_;(try dsimp only);refine kasC_bind (kasC_range ?_);show kasC _ _ _ (forIn (0::1::List.range' 2 62) _ _) _ _ _;refine kasC_cons ?_;refine kasC_bind (kasC_get ?_);(try dsimp only);rw[bR (show(pendingOf (setPending (kas_st a it (List.toArray (List.range 64))) ((pendingOf (kas_st a it (List.toArray (List.range 64)))).push (0,64,0)))).size<=1 from Ye 1)];refine kasC_pure ?_;(try dsimp only);exact kasC_pure (k _ Y Y)
def Zba{R:dg Nat->Prop}{a:U}{vs:Z a7}{n:Nat}{P:PySem.Fin->cb->Prop}(q:s.heap.get? a=O (seqObj "list" vs.toArray n))(dJ:vs.length<=64)
  (J:2<=vs.length->∀j:cX,(∀b o,b≠a->s.heap.get? b=O o->j.get? b=O o)->∃t:SortKind,(∀(Q:SortKind->cb->Prop),Q t {s with heap:=j}->wpAny (model X w) A (keyKind' vs.toArray) Q E {s with heap:=j})/\
   ∀D:SortSt->cb->Prop,(∀(p:dg Nat) (d:SortSt),p.size=vs.length->arrOf d=p.map (kas_item (vs.toArray.zip vs.toArray))->failedOf d=aG->Good vs.length p->R p->D d {s with heap:=j})->wpAny (model X w) A (sortRuns'.run (SortSt.mk' t (vs.toArray.zip vs.toArray) #[] 7 aG)) (λr m=>D r.2 m) E {s with heap:=j})
  (h:∀out:Z a7,out.Perm vs->(2<=vs.length->∃p:dg Nat,Good vs.length p/\R p/\out=p.toList.map λi=>vs.getD i Value.none)->P (.done (.ret .none)) {s with heap:=sortedHeap s.heap a vs out.toArray}):
  wpAny (model X w) A (Builtin.«list.sort» ⟨[.ref a],[]⟩) P E s:=by
 rw[list_sort_plain];have y:a<s.heap.objs.size:=Yv q;refine bp (listItems_at q Y ?_);refine bp (listUpdate_at q Y ?_);obtain⟨k,x⟩:∃k,(s.heap.update a (Obj.mapSeq λ_=>#[])).get? a=O (seqObj "list" #[] k):=⟨_,get?_update_seq q (λ_=>#[])⟩;refine bp (seqEpoch_at x Y ?_);refine bp (Zn ?_);refine bp (s_ ?_);refine k8 ?_;have l:(((s.heap.update a (Obj.mapSeq λ_=>#[])).push (seqObj "tuple" vs.toArray 0)).push (seqObj "list" #[] 0)).get? a=O (seqObj "list" #[] k):=by
  rw[J1 _ _ _ (by rw[size_push',X1];exact Y2 (Wr y)),J1 _ _ _ (by rw[X1];exact Y2 y)];exact x
 have keep:∀b o,b≠a->s.heap.get? b=O o->(((s.heap.update a (Obj.mapSeq λ_=>#[])).push (seqObj "tuple" vs.toArray 0)).push (seqObj "list" #[] 0)).get? b=O o:=λb o F e=>
  Yc _ (Yc _ (by rw[XN _ _ _ _ F];exact e))
 dsimp only;have I:vs.toArray.size=vs.length:=QS
 by_cases f:vs.toArray.size<2
 ·rw[bR f,bR f];refine bp (cR ?_);rw[YE];refine bp (cR ?_);dsimp only;refine bp (seqEpoch_at l Y ?_);refine bp (listUpdate_at l Y ?_ (hsz2:=by rw[Qcq];show(pairsOf vs).size<=_;rw[pairsOf_size,du];exact lR dJ (by decide)));simp only[xu,Jj,uR];have e:(arrOf (SortSt.mk' general' (vs.toArray.zip vs.toArray) #[] 7 aG)).map (·.2)=vs.toArray:=by
   grind
  have:=h vs (sZ _) (λz=>QO);rw[←e] at this;exact cR this
 ·rw[bt f,bt f];have G:2<=vs.length:=(fb f)
  refine bh (J G _ keep) λt H v=>?_;refine bp (H _ ?_);refine bp (eH (v (λd m=>m={s with heap:=((s.heap.update a (Obj.mapSeq λ_=>#[])).push (seqObj "tuple" vs.toArray 0)).push (seqObj "list" #[] 0)}/\∃p:dg Nat,p.size=vs.length/\arrOf d=p.map (kas_item (vs.toArray.zip vs.toArray))/\failedOf d=aG/\R p/\Good vs.length p) λp d a1 a2 a3 W T=>⟨Y,p,a1,a2,a3,T,W⟩) ?_ λ_ _ e=>e);rintro⟨⟨⟩,d⟩ m ⟨rfl,p,hp,u,L,N,g⟩;dsimp only;have C:=kat_snds Y u;have c:(p.toList.map λi=>vs.getD i Value.none).Perm vs:=by
   have k:p.toList.Perm (List.range vs.length):=by
    have:=Je.mp g.2;simpa using this
   have B:=k.map λi=>vs.getD i Value.none;rw[range_getD] at B;exact B
  refine bp (seqEpoch_at l Y ?_);refine bp (listUpdate_at l Y ?_ (hsz2:=by rw[C,Yt,c.length_eq,du];exact lR dJ (by decide)));rw[L];simp[xu,Jj,uR];have:=h _ c (λ_=>⟨p,g,N,Y⟩);rw[←C] at this;exact cR this
def Zfq(h:b.Pairwise jR):Sd (lM b) (List.toArray (List.range b.length)) b.length:=λi j c a=>by
 have e:∀k,k<b.length->(List.toArray (List.range b.length)).getD k 0=k:=λk d=>by
  simp_all
 rw[e i (tr c a),e j a];refine ltB_iff.mpr ?_;rw[Yd,Yd,Yb (tr c a),Yb a];exact Wa.mp h i j (tr c a) a c
def ZjT{m:SortSt->cb->Prop}(x:c.length=64)(u:c.length=f.length)(L:kI c.length (lM f))(t:f.Pairwise jR)(g:∀i j (C:cF->cb->Prop),i<c.length->j<c.length->C (lM f i j) s->kas_ask X w A h c i j C s)
  (v:∀(p:dg Nat) (d:SortSt),p.size=c.length->arrOf d=p.map (kas_item (c.toArray.zip c.toArray))->failedOf d=aG->Good c.length p->Sd (lM f) p c.length->m d s):wpAny (model X w) A (sortRuns'.run (SortSt.mk' h (c.toArray.zip c.toArray) #[] 7 aG)) (λr e=>m r.2 e) E s:=by
 have l:Good c.length (List.toArray (List.range c.length)):=⟨QO,vj _⟩;have q:Sd (lM f) (List.toArray (List.range c.length)) c.length:=by rw[u];exact Zfq t
 rw[kat_ask_eq Y] at g;have k:(c.toArray.zip c.toArray).size=c.length:=QS
 have y:SortSt.mk' h (c.toArray.zip c.toArray) #[] 7 aG=kas_st h (c.toArray.zip c.toArray) (List.toArray (List.range c.length)):=by
  unfold kas_st;rw[←k,kas_range]
 rw[y];have n:=eV.run (G:=λr e=>r=(c.length,List.toArray (List.range c.length))/\e=s) g (Pb l) ⟨(Zeg L l q),Y⟩;have o:=λd a b=>v _ d QS a b l q;rw[x] at n o⊢;exact ZiM (Q:=λ_ d e=>m d e) o n
def Zbz(ho:s.heap.get? l=O o)(hc:o.cls=.type "list")(hd:o.data=.seq au.toArray n)(N:uk s.heap au ps)(nd:ps.Nodup)(dJ:au.length<64\/(au.length=64/\ps.Pairwise jR))(q:au.toArray.size<=sizeLine)
  (h:∀(d c:cX) (out:Z a7) (e:Nat),(∀b o,s.heap.get? b=O o->d.get? b=O o)->(∀b o,d.get? b=O o->c.get? b=O o)->c.get? d.objs.size=O (seqObj "list" out.toArray e)->out.Perm au->(2<=au.length->∃p:dg Nat,Good au.length p/\Sd (lM ps) p au.length/\out=p.toList.map λi=>au.getD i Value.none)->Q (.ref d.objs.size) {s with heap:=c}):
  wpAny (model X w) A (call (.builtin "sorted") [.ref l]) Q E s:=by
 refine xt kind_sorted plain_sorted entry_sorted (args_sorted1 _) ?_;unfold Builtin.«sorted»;refine bp (m:=checkCount "sorted" 1 1 _) (cR ?_);refine bp (y0 l (.inl Y) ho hc hd (λd H=>?_) q);refine bp (s_ ?_);have e1:au.toArray.toList=au:=QS
 rw[e1];have f:(d.push (seqObj "list" au.toArray 0)).get? d.objs.size=O (seqObj "list" au.toArray 0):=Yu _ Y;refine bp (k8 (sU slot_list_sort ⟨_,f,Y⟩ entry_list_sort (Zba (R:=λp=>Sd (lM ps) p au.length) f QO (λr c k=>?_) λout pm eo=>⟨_,Y,?_⟩) (args_list_sort _)))
 ·have z:uk c au ps:=_L.Paired.bN N λv p ⟨a,o,n,t,u,e,q1,W,P⟩=>by
   have J:=H _ _ q1;exact⟨a,o,n,t,u,e,k _ _ (Y2 (Yv J)) (Yc _ J),W,P⟩
  refine cu z.ia.XZ λfs k1 k2 k3=>?_;have F:=dk z;have ask:∀(B:gb) i j (C:cF->cb->Prop),i<au.length->j<au.length->C (lM ps i j) {s with heap:=c}->kas_ask X w B (tuples' ar) au i j C {s with heap:=c}:=λB i j C hi hj hC=>Zfp (s:={s with heap:=c}) z hi hj hC;have L:=ZiL nd;rw[←F] at L;refine⟨tuples' ar,λQ hQ=>?_,λQ' MY=>?_⟩
  rotate_left
  ·rcases dJ with lt|⟨MX,pw⟩
   ·obtain⟨g,sd⟩:=Zfo L (i2 (rn _) r);refine kat_run (G:=λp D=>D={s with heap:=c}/\p=Run (lM ps) (kas_sort au.length)) Y r lt (λp aN D a1 a2 a3 a4=>?_) (eV.run (ask _) (P7 (i2 (rn _) r)) ⟨Y,Y⟩)
    grind
   ·exact ZjT MX F L pw (ask _) MY
  refine kat_kind (T:=.type "int") k1 QO (λv hv=>?_) QD hQ;obtain⟨x,t,rfl⟩:=k3 v hv;exact .now
 ·obtain⟨e,he⟩:=sortedHeap_at f;exact cR ⟨_,Y,h d _ out e H (λb ob I=>by
   have y:=Yv I;rw[sortedHeap_old (Y2 y) (by rw[size_push'];exact Wr y),J1 _ _ _ (Y2 y)];exact I) he pm eo⟩
end
def Zfr(K:ag):Z V->Hp->VK->Prop:=λe H Q=>∃(p:U) (b:Z U) (bW:Z (Int×Int)),e=[.ref p]/\aj K H p (b.map V.ref)/\Paired (λa (p:Int×Int)=>H a=O (.tup [.int p.1,.int p.2])) b bW/\bW.Nodup/\(b.length<64\/(b.length=64/\bW.Pairwise jR))/\
 ∀(d:Z U) (c:Z (Int×Int)),Paired (λa (p:Int×Int)=>H a=O (.tup [.int p.1,.int p.2])) d c->c.Perm bW->c.Pairwise jR->Nw H (.lst (d.map V.ref)) Q
theorem ON:∀{a:Z c},(∀z∈a,F (f z) (g z))->Paired F (a.map f) (a.map g)
 |[],_=>.nil
 |z::a,h=>.cons (h z Ym) (ON λz b=>h z (Yx _ b))
theorem Zfs{K:ag}(hK:X.K=K):de X (.builtin "sorted") (Zfr K):=by
 subst hK;intro l s L H xs us Q I r h;refine lG h λp b bW js hq v nd dJ q=>?_;subst js;obtain⟨u,rfl,T⟩:=vals1 r;cases T;obtain⟨au,r',pl,D⟩:=I.list hq;obtain⟨o,n,ho,hc,_,hd⟩:=pl;have ei:=P8 r';subst ei;rw[Ya] at D;have t:=dk v;have R:uk s.heap (b.map Value.ref) bW:=by
  have x:∀{b:Z U} {bW:Z (Int×Int)},Paired (λa (p:Int×Int)=>H a=O (.tup [.int p.1,.int p.2])) b bW->uk s.heap (b.map Value.ref) bW:=λ{b bW} h=>by
   induction h with
   |nil=>exact .nil
   |cons w _ ih=>
    refine .cons ?_ ih;obtain⟨jt,W,⟨o2,g1,g2,n2,g3⟩,_⟩:=I.tuple (aC.of w);obtain⟨u1,u2,rfl,⟨t1,rfl⟩,⟨t2,rfl⟩⟩:=vals2 W
    grind
  exact x v
 refine Zbz (ps:=bW) ho hc hd R nd (by rwa[Ya]) (by rw[Yt,Ya];exact D) λw h' out e kp N he k f=>?_;have J:Inv X l L H {s with heap:=w}:=I.kept (t':=s.toks) kp;obtain⟨d,m,y,C,B,pw⟩:∃(d:Z U) (m:Z (Int×Int)),out=d.map Value.ref/\Paired (λa (p:Int×Int)=>H a=O (.tup [.int p.1,.int p.2])) d m/\m.Perm bW/\m.Pairwise jR:=by
  by_cases z:2<=(b.map Value.ref).length
  ·have f:=f z;rw[Ya] at f z;obtain⟨P,g,A,f⟩:=f;rw[t] at g A;have F:P.toList.Perm (List.range bW.length):=by
    have:=Je.mp g.2;simpa using this
   have G:∀i∈P.toList,i<bW.length:=λi c=>Wk.mp (F.subset c);refine⟨P.toList.map λi=>b.getD i 0,P.toList.map λi=>bW.getD i (0,0),?_,ON λi c=>GH v (by exact t▸G i c) 0 (0,0),?_,?_⟩
   ·rw[f,Y9];refine Wq λi c=>?_;have:=G i c;show(b.map Value.ref).getD i Value.none=Value.ref (b.getD i 0);rw[Yd,Yf,Yb QO,Yd,Yb QO];rfl
   ·have:=F.map λi=>bW.getD i (0,0);rw[range_getD] at this;exact this
   ·rw[W3,Wa];intro i j c E eX;have sz:=g.size;have gi:P.toList[i]=P.getD i 0:=by
     rw[Y5] at c;simp_all
    have gj:P.toList[j]=P.getD j 0:=by
     rw[Y5] at E;simp_all
    rw[gi,gj];rw[Y5] at E;exact ltB_iff.mp (A i j eX QO)
  ·rw[Ya] at z;have eq:out=b.map Value.ref:=by
    match b,out,z,k with
    |[],out,_,k=>exact List.Perm.eq_nil k
    |[a],out,_,k=>exact List.Perm.eq_singleton k
    |_::_::_,_,z,_=>exact absurd QS z
   refine⟨b,bW,eq,v,sZ _,?_⟩;match bW,t with
   |[],_=>exact .nil
   |[a],_=>exact List.pairwise_singleton _ _
   |_::_::_,t=>exact absurd t (by simp;omega)
 refine⟨.ref w.objs.size,_,J.laid (o:=.lst (d.map V.ref)) N (Ye _) ⟨?_,out,e,by rw[y];exact P9 d,by simpa[seqObj] using he⟩,Y,(q d m C B pw).at _ (J.ay.fresh (Ye _))⟩;rw[Ya,dk C,B.length_eq];exact Jx (kQ QO)
end _L
namespace _L
open PySem PySem.Spec PyProof.Rows
def kW{K:ag}(h:X.K=K)(p:PE X ex (zZ X.K T r to t)):PE X ex (zZ K T r to t):=h▸p
def ZgO{K:ag}(h:X.K=K)(p:PE X ex (LJ X.K T r to)):PE X ex (LJ K T r to):=h▸p
def IB{X:Cx}{K:ag}{a:cV}{d:TE}(h:X.K=K)(p:PT X a (λc H Q=>d c H λx b=>∃k,CI X.K x b k/\Q k b)):PT X a (λc H Q=>d c H λx b=>∃k,CI K x b k/\Q k b):=h▸p
def Si{K:ag}(h:X.K=K)(p:cK X f (CU X.K b)):cK X f (CU K b):=h▸p
def qG(a:Hp)(d:U):Prop:=(∀b,a d≠O (.tup b))/\(∀o u,a d≠O (.cH o u))/\∀c,a d≠O (.sG c)
def Inv.Ve(I:Inv X pins σ H s)(e:H d=O (.dK c)):qG X.mI d:=
 ⟨(λa z=>by have:=I.base.ia d a z;rw[e] at this;cases this),(λo u z=>by have:=I.base.iQ d o u z;rw[e] at this;cases this),(λb z=>by obtain⟨m,h⟩:=I.base.iZ d b z;rw[e] at h;cases h)⟩
def Inv.swap(I:Inv X pins σ H s)(e:H d=O o)(i:qG X.mI d)(y:∀a,o≠.own a)(w:∀f,o≠.tup f)(C:cM X.prog X.w H s.heap d o'):Inv X pins σ (upd H d o') s:=by
 have iP:∀{a:U} {o1:HO},cM X.prog X.w H s.heap a o1->cM X.prog X.w (upd H d o') s.heap a o1:=λ{a o1} x=>x.iP (λ_ _ _ z=>z)
  (λb z=>by rw[aJ (λq=>y a (Yo (e.symm.trans (by rw[←q];exact z))))];exact z)
  (λb f z=>by rw[aJ (λq=>w f (Yo (e.symm.trans (by rwa[←q]))))];exact z)
 have ne:∀{b:U},H b=aG->b≠d:=λ{b} l z=>by rw[z,e] at l;cases l
 refine⟨I.ok,I.os,I.bare,⟨I.base.keep,I.base.slot,λb g q n A=>?_,I.base.there,λb f q=>?_,λb g u q=>?_,λb k q=>?_⟩,I.loc,I.cell,?_,λx c m=>?_,λp B=>?_,λa o1 j=>?_,I.len⟩
 ·have h:=I.base.free b g q n A;rwa[aJ (ne h)]
 ·rw[aJ (λz=>i.1 f (by rwa[←z]))];exact I.base.ia b f q
 ·rw[aJ (λz=>i.2.1 g u (by rwa[←z]))];exact I.base.iQ b g u q
 ·rw[aJ (λz=>i.2.2 k (by rwa[←z]))];exact I.base.iZ b k q
 ·rw[aJ (ne I.free)];exact I.free
 ·rw[aJ (ne (I.iJ x c m))];exact I.iJ x c m
 ·refine c7 (I.pin p B) λv t r=>?_;exact⟨v,by rwa[aJ (ne t)],r⟩
 ·by_cases z:a=d
  ·subst z;rw[aW] at j
   grind
  ·rw[aJ z] at j;exact iP (I.ay a o1 j)
def ZjU(h:(dR P w).is k u=ar):RelV (kV k) u:=by
 rcases nB h with⟨i,t,rfl,rfl⟩|⟨x,t,rfl,rfl⟩;·exact⟨t,Y⟩
 ·exact⟨t,Y⟩
def T_:∀{a:Z (Key×V)} {b:Z (Key×a7)} {i:Nat} {k:Key} {y:V},KV a b->a[i]?=O (k,y)->∃v,b[i]?=O (k,v)/\RelV y v:=λ{a b i k y} r h=>by
 obtain⟨q,e,d,c⟩:=gY r h
 grind
def Cg(I:Inv X pins σ H s)(e:H d=O (.cH f (.dK c)))(h:f.data=.dict m ep):∃a,KV c a/\s.heap.DictAt (dR X.prog X.w) d a ep:=by
 obtain⟨g,_,_,a,b,o,p,n,j,l,i,k⟩:=(I.ay d _ e);rw[g] at j;cases j;rw[h] at i;cases i;exact⟨a,b,f,m,g,l,h,k⟩
def Inv.CV(I:Inv X pins σ H s)(c:qG X.mI d)(e:H d=O (.cH g (.dK b))):Inv X pins σ (upd H d (.dK b)) s:=
 I.swap e c (λa z=>by cases z) (λf z=>by cases z) (I.ay d _ e).2
noncomputable def M0(d:U)(b:Obj)(a:Z (Key×V)):It:=⟨λi H=>H d=O (.cH b (.dK a))/\i<a.length,λi H v c=>c=H/\∃k y,a[i]?=O (k,y)/\v=kV k,λi H=>H d=O (.cH b (.dK a))/\a.length<=i⟩
theorem Zeh{P:dC}{w:dm}{K:ag}{tg:cV}(it d:U)(G:Obj)(es:dg DictEntry)(T:Nat)(J:G.data=.dict es T)(a:Z (Key×V)):Turn P w K tg (M0 d G a) [it] it (λi h=>h.IsKeyIter it d i a.length T) where
 mem:=QS
 obj:=λi h st b q=>by
  have e:b=it:=by simpa using q
  refine cu st λo e c W=>?_
  grind
 keep:=λi h R st k=>let⟨o,e,r⟩:=st;⟨o,k it QS o e,r⟩
 item:=by
  intro X t n u N i g s σ H E I l st p;subst t n u;refine iS (l it QS) λD C f2 B z x=>?_;obtain⟨m,bF⟩:=p;obtain⟨vs,f,F⟩:=Cg I m J;have j:=f.length;obtain⟨k,y,L⟩:∃k y,a[i]?=O (k,y):=⟨a[i].1,a[i].2,Yb bF⟩;obtain⟨v,hv,ry⟩:=T_ f L;rw[j] at st;refine wpAny_pyNext_dict_item st F hv λkey R ph aN sb=>?_;obtain⟨o,e,c,W⟩:=id aN;exact⟨_,rfl,ug e c W QD ⟨kV k,H,(I.turned sb.extBut D C B z x),ZjU ph,⟨rfl,k,y,L,rfl⟩,by rw[j];exact aN,λb q=>(l b q).1⟩⟩
 done:=by
  intro X t n u N i g s σ H E I l st p;subst t n u;refine iS (l it QS) λD C f2 B z x=>?_;obtain⟨m,hle⟩:=p;obtain⟨vs,f,F⟩:=Cg I m J;have j:=f.length;rw[j] at st;exact wpAny_pyNext_dict_end (I.ok.hd N) st F (Y7 QO) λR eb=>⟨rfl,I.turned eb D C B z x⟩
 self:=λA i s Q E st h=>wpAny_pyIter_keyiter st h
def Ln(g:Hp)(f:TE):TI:=λe H R=>f e H λx c=>∃d a,x=.ref d/\c d=O (.dK a)/\∀b,qG g d->R (M0 d b a) (upd c d (.cH b (.dK a)))
def ZgP(J:X.mI=H0)(F:PE X l C):PI X tg l (Ln H0 C):=by
 subst J;intro c s n H R I h;refine az (F c s n H _ I h) λv g A=>?_;obtain⟨x,P,j,D,d,f,L,hd,q⟩:=A;subst L;obtain rfl:v=Value.ref d:=D;obtain⟨T,Q,B,k,N⟩:=nN j.ay hd;refine jI (id N) λi t u m E r y=>?_;have p:=j.Ve hd;refine wpAny_pyIter_dict Q ⟨i,t,m,E,r,y⟩ ?_;have w:Inv X c n P {g with heap:=g.heap.push {cls:=.type "dict_keyiterator",data:=.fields #[.ref d,.int 0 0,.int B.length 0,.int u 0]},toks:=g.toks}:=j.kept λb o e=>Yc _ e;refine⟨g.heap.objs.size,[g.heap.objs.size],_,M0 d i f,_,Y,(w.swap (o':=.cH i (.dK f)) hd p (λa z=>by cases z) (λW z=>by cases z) ⟨Yc _ m,(w.ay d _ hd)⟩),Zeh _ d i t u r f,⟨_,Yu _ Y,Y,by rw[k.length];rfl⟩,λb G=>?_,q i p⟩;have e:b=g.heap.objs.size:=by simpa using G
 subst e;exact j.se (Ye _) (by rw[aJ (Jh (Yv m))];exact j.ay.fresh (Ye _))
def Vf(e:Hp)(h:TE)(g:TG)(i:TS):TS:=λD f H=>LD (Ln e h) g i ⟨λj b=>∃d c a,qG e d/\b d=O (.cH c (.dK a))/\D.nx j (upd b d (.dK a)),λv b=>∃d c a,qG e d/\b d=O (.cH c (.dK a))/\D.rt v (upd b d (.dK a)),λ_ _=>False,λ_ _=>False⟩ f H
theorem Zc5(C:X.mI=H0)(w:PassesOwn X.md X.A X.env X.xe)(A:X.calm=ar)(y:PI X k l (Ln H0 n))(z:PG X k g)(B:gc X body o)(t:∀x,foldedSetIterable l X.env x=pure x:=by intro _;rfl):PS X (.For k l body [] pos) (Vf H0 n g o):=by
 subst C;intro a s m H D I h;refine az (dI w A y z B t a s m H _ I h) λf F q=>?_;cases f with
 |next=>obtain⟨i,E,j,d,p,c,b,e,q⟩:=q;exact⟨i,_,j.CV b e,q⟩
 |brk=>obtain⟨_,_,_,q⟩:=q;exact False.elim q
 |cont=>obtain⟨_,_,_,q⟩:=q;exact False.elim q
 |ret u=>obtain⟨v,i,E,j,r,d,p,c,b,e,q⟩:=q;exact⟨v,i,_,j.CV b e,r,q⟩
def Zft(z:∀R:VK,R (.ref d) H1->r σ H R)(E:H1 d=O (.dK kvs))(n:Nat->St->Hp->Prop)
  (v:∀b,n 0 σ (upd H1 d (.cH b (.dK kvs))))
  (A:∀b i k y j h (N:St->Hp->Prop) (t:VK) (bk:St->Hp->Prop),kvs[i]?=O (k,y)->n i j h->h d=O (.cH b (.dK kvs))->(∀l f,n (i+1) l f->f d=O (.cH b (.dK kvs))->N l f)->g (kV k) j h λG L=>s ⟨N,t,bk,N⟩ G L)
  (I:∀b j h,n kvs.length j h->h d=O (.cH b (.dK kvs))->D.nx j (upd h d (.dK kvs))):Vf P r g s D σ H:=by
 refine z _ ⟨d,kvs,Y,E,λb w=>⟨λi m j h=>m=kvs.length-i/\i<=kvs.length/\n i j h/\h d=O (.cH b (.dK kvs)),⟨kvs.length,(Nat.add_zero _),Yw _,v b,aW⟩,?_⟩⟩;intro i m j h T;refine d7 T λQ C p o=>?_;subst Q;by_cases q:i<kvs.length
 ·refine .inr ⟨⟨o,q⟩,λl f=>n (i+1) l f/\f d=O (.cH b (.dK kvs)),λl f ⟨a,c⟩=>⟨kvs.length-(i+1),QO,Y,q,a,c⟩,?_⟩;rintro x J ⟨rfl,k,y,B,rfl⟩;exact A b i k y j J (λl f=>n (i+1) l f/\f d=O (.cH b (.dK kvs))) _ _ B p o λl f u F=>⟨u,F⟩
 ·have e:=(i6 C (fb q))
  subst e;exact .inl ⟨⟨o,Ye _⟩,d,b,kvs,w,o,I b _ _ p o⟩
theorem ZgQ(r:KT H a xs):xs.map (·.1)=a.map (·.1):=by
 induction r with
 |nil=>rfl
 |cons f _ b=>simp_all
def ZgR:bootBuiltins "dict"=O (.type "dict"):=QK
noncomputable def M3(d:U)(b:Obj)(a:Z (Key×V)):It:=⟨λi H=>H d=O (.cH b (.dK a))/\i<a.length,λi H v c=>c=H/\∃k,a[i]?=O (k,v),λi H=>H d=O (.cH b (.dK a))/\a.length<=i⟩
theorem Zei{P:dC}{w:dm}{K:ag}{tg:cV}(it d:U)(G:Obj)(es:dg DictEntry)(T:Nat)(J:G.data=.dict es T)(a:Z (Key×V)):Turn P w K tg (M3 d G a) [it] it (λi h=>h.IsValIter it d i a.length T) where
 mem:=QS
 obj:=λi h st b q=>by
  have e:b=it:=by simpa using q
  refine cu st λo e c W=>?_
  grind
 keep:=λi h R st k=>let⟨o,e,r⟩:=st;⟨o,k it QS o e,r⟩
 item:=by
  intro X t n u N i g s σ H E I l st p;subst t n u;refine iS (l it QS) λD C f2 B z x=>?_;obtain⟨m,bF⟩:=p;obtain⟨vs,f,F⟩:=Cg I m J;have j:=f.length;obtain⟨k,y,L⟩:∃k y,a[i]?=O (k,y):=⟨a[i].1,a[i].2,Yb bF⟩;obtain⟨v,hv,ry⟩:=T_ f L;rw[j] at st;refine wpAny_pyNext_values_item st F hv λR aN sb=>?_;obtain⟨o,e,c,W⟩:=id aN;exact⟨_,rfl,ug e c W QD ⟨y,H,(I.turned sb.extBut D C B z x),ry,⟨rfl,k,L⟩,by rw[j];exact aN,λb q=>(l b q).1⟩⟩
 done:=by
  intro X t n u N i g s σ H E I l st p;subst t n u;refine iS (l it QS) λD C f2 B z x=>?_;obtain⟨m,hle⟩:=p;obtain⟨vs,f,F⟩:=Cg I m J;have j:=f.length;rw[j] at st;exact wpAny_pyNext_values_end (I.ok.hd N) st F (Y7 QO) λR eb=>⟨rfl,I.turned eb D C B z x⟩
 self:=λA i s Q E st h=>wpAny_pyIter_valiter st h
def Lo(g:Hp)(f:TE):TI:=λe H R=>f e H λx c=>∃d a,x=.ref d/\c d=O (.dK a)/\∀b,qG g d->R (M3 d b a) (upd c d (.cH b (.dK a)))
def ZgS{X:Cx}{H0:Hp}{Q:cV}{g E:Pos}{o:cV}{A:TE}(h0:X.mI=H0)(ho:PE X o A)(P:attributeBase o "values" X.env (eval o X.env)=eval o X.env:=by rfl)(N:(g.endLine==E.line)=ar:=by rfl):PI X Q (.Call (.Attribute o "values" g) [] [] E) (Lo H0 A):=by
 subst h0;intro f s w H R I h;refine EA P N (az (ho f s w H _ I h) λv i L=>?_);obtain⟨x,H1,j,r1,d,c,ex,hd,q⟩:=L;subst ex;obtain rfl:v=Value.ref d:=r1;obtain⟨W,T,Af⟩:=wz j (.inl ⟨c,.inl hd⟩);refine⟨"dict","dict.values",sY,D0,PySem.F.type_dict_values,W,T,n7 Y (NH ?_)⟩;obtain⟨zz,_,y,l,t⟩:=nN j.ay hd;refine pQ D0 t.typeIs PySem.F.entry_dict_values (PySem.F.args_dict_values_1 _) (meets_dict_values (dR X.prog X.w) d Af) ⟨⟨y,t⟩,?_⟩;obtain⟨k,D,p,m,hx,C,J⟩:=id t;have B:=j.Ve hd;have up:∀b o,i.heap.get? b=O o->(i.heap.push {cls:=.type "dict_values",data:=.fields #[.ref d]}).get? b=O o:=λb o e=>Yc _ e;refine wpAny_pyIter_values (knd:=dR X.prog X.w) (d:=d) ⟨_,Yu _ Y,Y,Y⟩ ⟨k,D,up _ _ m,hx,C,J⟩ ?_;generalize hG:i.heap.push {cls:=.type "dict_values",data:=.fields #[.ref d]}=G at up⊢;have F:Inv X f w H1 {i with heap:=G.push {cls:=.type "dict_valueiterator",data:=.fields #[.ref d,.int 0 0,.int y.length 0,.int p 0]},toks:=i.toks}:=j.kept (t':=i.toks) λb o e=>Yc _ (up b o e);have n:=F.ay d _ hd;have I3:=F.swap (o':=.cH k (.dK c)) hd B (λa z=>by cases z) (λxs z=>by cases z) ⟨Yc _ (up _ _ m),n⟩;have u:i.heap.objs.size<=G.objs.size:=by rw[←hG,J8];exact Ao _ _
 refine⟨G.objs.size,[G.objs.size],_,M3 d k c,_,Y,I3,Zei _ d k D p C c,⟨_,Yu _ Y,Y,by rw[l.length];rfl⟩,λb hb=>?_,q k B⟩;have e:b=G.objs.size:=by simpa using hb
 subst e;have r:=Yv m;exact j.se u (by rw[aJ (Jh (Y6 r u))];exact j.ay.fresh u)
def Vg(e:Hp)(h:TE)(g:TG)(i:TS):TS:=λD f H=>LD (Lo e h) g i ⟨λj b=>∃d c a,qG e d/\b d=O (.cH c (.dK a))/\D.nx j (upd b d (.dK a)),λv b=>∃d c a,qG e d/\b d=O (.cH c (.dK a))/\D.rt v (upd b d (.dK a)),λ_ _=>False,λ_ _=>False⟩ f H
theorem Zc6(A:X.mI=H0)(t:PassesOwn X.md X.A X.env X.xe)(y:X.calm=ar)(w:PI X k (.Call (.Attribute o "values" apos) [] [] B) (Lo H0 m))(x:PG X k g)(z:gc X body n):
  PS X (.For k (.Call (.Attribute o "values" apos) [] [] B) body [] pos) (Vg H0 m g n):=by
 subst A;intro a s l H D I h;refine az (dI t y w x z (λ_=>Y) a s l H _ I h) λf E q=>?_;cases f with
 |next=>obtain⟨i,C,j,d,p,c,b,e,q⟩:=q;exact⟨i,_,j.CV b e,q⟩
 |brk=>obtain⟨_,_,_,q⟩:=q;exact False.elim q
 |cont=>obtain⟨_,_,_,q⟩:=q;exact False.elim q
 |ret u=>obtain⟨v,i,C,j,r,d,p,c,b,e,q⟩:=q;exact⟨v,i,_,j.CV b e,r,q⟩
def Zfu(z:∀R:VK,R (.ref d) H1->r σ H R)(E:H1 d=O (.dK kvs))(n:Nat->St->Hp->Prop)
  (v:∀b,n 0 σ (upd H1 d (.cH b (.dK kvs))))
  (A:∀b i k y j h (N:St->Hp->Prop) (t:VK) (bk:St->Hp->Prop),kvs[i]?=O (k,y)->n i j h->h d=O (.cH b (.dK kvs))->(∀l f,n (i+1) l f->f d=O (.cH b (.dK kvs))->N l f)->g y j h λG L=>s ⟨N,t,bk,N⟩ G L)
  (I:∀b j h,n kvs.length j h->h d=O (.cH b (.dK kvs))->D.nx j (upd h d (.dK kvs))):Vg P r g s D σ H:=by
 refine z _ ⟨d,kvs,Y,E,λb w=>⟨λi m j h=>m=kvs.length-i/\i<=kvs.length/\n i j h/\h d=O (.cH b (.dK kvs)),⟨kvs.length,(Nat.add_zero _),Yw _,v b,aW⟩,?_⟩⟩;intro i m j h T;refine d7 T λQ C p o=>?_;subst Q;by_cases q:i<kvs.length
 ·refine .inr ⟨⟨o,q⟩,λl f=>n (i+1) l f/\f d=O (.cH b (.dK kvs)),λl f ⟨a,c⟩=>⟨kvs.length-(i+1),QO,Y,q,a,c⟩,?_⟩;rintro x J ⟨rfl,k,B⟩;exact A b i k x j J (λl f=>n (i+1) l f/\f d=O (.cH b (.dK kvs))) _ _ B p o λl f u F=>⟨u,F⟩
 ·have e:=(i6 C (fb q))
  subst e;exact .inl ⟨⟨o,Ye _⟩,d,b,kvs,w,o,I b _ _ p o⟩
section
variable {W ty:TE}
def ZiN(W ty:TE):TS:=λD c H=>W c H λx e=>ty c e λy d=>∃a b k,x=.ref a/\d a=O (.dK b)/\y=kV k/\(aL b k).isSome=ar/\Ch d a (.dK (iN b k)) (D.nx c)
def Zfv(q:PE X o W)(r:PE X i ty):PS X (.Delete [.Subscript o i J] pos) (ZiN W ty):=by
 intro b s c H D I h;refine wpAny_Delete (LU (J5 (az (q b s c H _ I h) λu f d=>?_)));obtain⟨x,B,A,j,n⟩:=d;refine az (r b f c B _ A n) λF E d=>?_;obtain⟨y,G,z,g,a,p,k,v,e,t,l,m⟩:=d;subst v t;obtain rfl:u=Value.ref a:=j;exact Zd5 z e g l λC w=>MP ⟨c,_,w,m.at⟩
theorem Q4[DecidableEq α]:∀{a:Z (α×β)} {j:Nat} {k:α} {p:β},(a.map (·.1)).Nodup->a[j]?=O (k,p)->a.eraseIdx j=a.filter λx=>decide (x.1≠k)
 |[],_,_,_,_,h=>rfl
 |x::a,0,k,p,b,h=>by
  have e:x=(k,p):=by simpa using h
  subst e;rw[List.eraseIdx_cons_zero,X5 QS];refine(List.filter_eq_self.mpr λy g=>?_).symm
  grind
 |x::a,j+1,k,p,b,h=>by
  obtain⟨f,d⟩:=Y3.mp (show(x.1::a.map (·.1)).Nodup from b);have c:a[j]?=O (k,p):=by simpa using h
  rw[List.eraseIdx_cons_succ,Q4 d c,Jb (by simpa using(λz=>f (by exact z▸Yk.mpr ⟨_,Yj c,Y⟩)))]
theorem Q5(f:α->β):∀(a:Z α) (j:Nat),(a.map f).eraseIdx j=(a.eraseIdx j).map f
 |[],_=>rfl
 |_::_,0=>rfl
 |x::a,j+1=>by
  show f x::(a.map f).eraseIdx j=f x::(a.eraseIdx j).map f;rw[Q5 f a j]
theorem ZgT(k:Z Key)(r:KT H a xs):KT H (iN a k) (xs.filter λx=>decide (x.1≠k)):=by
 unfold iN;induction r with
 |nil=>exact .nil
 |@cons p x c xs f t b=>
  by_cases e:p.1=k;·simp_all
  ·rw[Jb (by simpa using e),Jb (by rw[←f.1];simpa using e)];exact .cons f b
def Zfw{P:dC}{w:dm}{A:gb}{E:bg}{s:cb}{d a:U}{b:HeapKind P w (Z Key)}{h:Z (Z Key×U×a7)}{k:Z Key}{Q:bS DictEntry->cb->Prop}(c:b.room A)(r:b.is s.heap k a)(D:s.heap.DictOfH b d h)(f:k∈h.map (·.1))(H:h.length<=sizeLine)
  (y:∀e m u,m.DictOfH b d (h.filter λx=>decide (x.1≠k))->Heap.SameBut d s.heap m->Q (O e) {s with heap:=m,toks:=u}):wpAny (model P w) A (Builtin.Dict.takeOut d (.ref a)) Q E s:=by
 refine lG D λG n B g z hd i t q=>?_;refine k8 (bp (b.pyHash c r (bp (NB c r g hd i t q (λno=>?_) λj p e=>?_))))
 ·refine bh (Yk.mp f) λx l e=>?_;obtain⟨j,v,C⟩:=W1.mp l;exact absurd (by rw[Yb v,C,←e]) (no j x.2)
 ·have sz:n.size=h.length:=by rw[←Y5,i,Ya]
  refine bp (yK g hd ?_);rw[entry_at i j,e];have o:=sq s.heap d (Obj.mapDictKeys λx=>x.eraseIdxIfInBounds j);refine bp (xW g hd (cR (y _ _ _ ⟨_,_,B+1,Wp _ g (NI (u5 hd _)),z.mapDictKeys _,u5 hd _,?_,λx l=>?_,?_⟩ o)) (by rwa[sz]))
  ·rw[←Q4 q e];have F:(n.eraseIdxIfInBounds j).toList=n.toList.eraseIdx j:=by
    simp_all
   rw[F,i,Q5]
  ·exact b.keeps (t x (Y4.mp l).1) g hd o
  ·grind
theorem Zc7(w:A.units+1<cLine)(I:Inv X pins σ H s)(e:H a=O (.dT d))(J:H b=O (.tup (k.map kV)))(l:(aL d k).isSome=ar)(h:∀n,Inv X pins σ (upd H a (.dT (iN d k))) n->Q () n):
  wpAny X.md A (delItem (.ref a) (.ref b)) Q E s:=by
 obtain⟨z,r,m,f,i⟩:=Lk I.ay e;have R:d.length=m.length:=Paired.length f;have there:k∈m.map (·.1):=by
  rw[ZgQ f];cases g:aL d k with
  |none=>rw[g] at l;cases l
  |some v=>
   unfold aL at g;cases j:d.find? λu=>decide (u.1=k) with
   |none=>rw[j] at g;cases g
   |some p=>exact Yk.mpr ⟨p,List.mem_of_find?_eq_some j,eL (by simpa using List.find?_some j)⟩
 refine SF i.typeIs QD ve (sU ve i.typeIs DD ?_ (Dx _ _));unfold Builtin.«dict.__delitem__»;refine bp ?_;unfold Builtin.Dict.dictSlotArgs;refine bp (xG i.typeIs ?_);show wpAny _ _ (pure (Value.ref a,Value.ref b)) _ _ s;refine cR ?_;show wpAny _ _ (Builtin.Dict.takeOut a (.ref b)>>=_) _ _ s;refine bp (Zfw (pE w) (qA I.ay J) i there QO λen T P L t=>?_);refine bp (zr (cR ⟨.none,Y,?_⟩));obtain⟨o,D,F,q,C,B,y,_,x⟩:=L;refine h _ (rR I (by exact e▸kJ) t ⟨o,q⟩ ⟨Yy (Wj _ _) z,r,_,(ZgT k f).keeps λc N G=>by
   rwa[aJ (K8 G e (λz=>nomatch z))],o,D,F,q,C,B,y,x⟩)
def ZiO(W ty:TE):TS:=λD d H=>W d H λx f=>ty d f λy e=>∃a b c k,x=.ref a/\e a=O (.dT c)/\y=.ref b/\e b=O (.tup (k.map kV))/\(aL c k).isSome=ar/\Ch e a (.dT (iN c k)) (D.nx d)
def Q6(t:X.A.units+1<cLine)(v:PE X o W)(w:PE X i ty):PS X (.Delete [.Subscript o i P] pos) (ZiO W ty):=by
 intro c s d H D I h;refine wpAny_Delete (LU (J5 (az (v c s d H _ I h) λu g f=>?_)));obtain⟨x,G,F,m,p⟩:=f;refine az (w c g d G _ F p) λr L f=>?_;obtain⟨y,N,E,j,a,b,q,k,A,e,z,B,l,n⟩:=f;subst A z;obtain rfl:u=Value.ref a:=m;obtain rfl:r=Value.ref b:=j;exact Zc7 t E e B l λJ C=>MP ⟨d,_,C,n.at⟩
end
end _L
namespace _L
open PySem PySem.W PySem.Spec PyProof.Rows
def ZiP:Z V->Hp->VK->Prop:=λd H Q=>∃(p:U) (a:Z (Key×V)) (b:Z Int),d=[.ref p]/\H p=O (.dK a)/\a.map (·.1)=b.map Sum.inl/\b.length<64/\∀c:Z Int,c.Perm b->c.Pairwise (·<=·)->Nw H (.lst (c.map V.int)) Q
def Zcg(L:(d==sysModules)=a_)(B:A.handled=aG)
  (G:s.heap.DictAt (dR prog w) d i D)(z:i.map (·.1)=ns.map Sum.inl)(X:i.length<64)
  (h:∀(f p:cX) (m:Nat) (out:dg a7) (l:Z Int) (e:Nat),(∀b o,s.heap.get? b=O o->f.get? b=O o)->(∀b o,f.get? b=O o->p.get? b=O o)->p.get? f.objs.size=O (seqObj "list" out e)->IntsAre out.toList l->l.Perm ns->l.Pairwise (·<=·)->Q (.ref f.objs.size) {s with heap:=p,toks:=m}):
  wpAny (model prog w) A (call (.builtin "sorted") [.ref d]) Q E s:=by
 refine xt kind_sorted plain_sorted entry_sorted (args_sorted1 _) ?_;refine bp (cR ?_);have g:i.length<=sizeLine:=by rw[du];exact nV (m9 X (by decide))
 refine bp (kdu_collect (kdl_dict (kvs:=i) (ep:=D) L) B G g λf m a u n=>?_);have c:Vals ((i.map (·.1)).map kV) a.toList:=by
  refine Bp (P:=prog) (w:=w) (by rw[Y5,Ya];exact n.1) λj v W=>?_;obtain⟨k,x,T,N⟩:=n.2 j v (by rwa[←Ww])
  grind
 have F:(i.map (·.1)).map kV=ns.map V.int:=by rw[z,Y9];rfl
 rw[F] at c;have y:a.toList.length<64:=by rwa[Y5,n.1]
 refine bp (s_ ?_);have r:(f.push (seqObj "list" a.toList.toArray 0)).get? f.objs.size=O (seqObj "list" a.toList.toArray 0):=by exact Nb▸(Yu _ Y)
 refine bp (k8 (sU slot_list_sort ⟨_,r,Y⟩ entry_list_sort (list_sort_tree r (intsAre_of c) y λout l J I H=>⟨_,Y,?_⟩) (args_list_sort _)));obtain⟨e,C⟩:=sortedHeap_at r;exact cR ⟨_,Y,h f _ m out l e u (λb R t=>by
  have q:=Yv t;rw[sortedHeap_old (Y2 q) (by rw[size_push'];exact Wr q),J1 _ _ _ (Y2 q)];exact t) C J I H⟩
def Zbb(w:X.calm=ar):de X (.builtin "sorted") ZiP:=by
 intro b s C H D F Q I r W;refine kS W λp a l T t d R q=>?_;subst T;obtain⟨u,rfl,k⟩:=vals1 r;obtain rfl:u=Value.ref p:=k;obtain⟨m,j,E,c,y⟩:=nN I.ay t;obtain⟨P,z⟩:=y.dictAt;have L:=c.length;have J:a.length=l.length:=by have:=eJ List.length d;rwa [Ya,Ya] at this
 refine Zcg j (I.ok.hd w) z (by rw[←c.keys];exact d) QO λx N G out f e n i v B g A=>?_;have h:=I.kept (t':=s.toks) n;refine⟨.ref x.objs.size,_,h.laid (o:=.lst (f.map V.int)) i (Ye _) ⟨?_,out.toList,e,Bn B,by simpa[seqObj] using v⟩,Y,(q f g A).at _ (h.ay.fresh (Ye _))⟩;rw[Ya,g.length_eq]
 simp_all
def ZgU:Z V->Hp->VK->Prop:=λb H Q=>∃(p:U) (a:Z (Key×V)),b=[.ref p]/\H p=O (.dK a)/\Nw H (.dK a) Q
def Zch:de X (.type "dict") ZgU:=by
 intro d s n H t v Q I r z;refine gR z λp c y k q=>?_;subst y;obtain⟨u,rfl,j⟩:=vals1 r;obtain rfl:u=Value.ref p:=j;obtain⟨a,h,g,f,l⟩:=nN I.ay k;have w:=f.length;exact PySem.kt_call_dict h l QO λx m i=>⟨.ref s.heap.objs.size,_,I.laid (o:=.dK c) (λb o e=>(i.2 b (Y2 (Yv e))).trans (Yc _ e)) (Ye _) ⟨a,beq_eq_false_iff_ne.mpr (kK (Y2 I.big)),g,f,m⟩,Y,q.at _ (I.ay.fresh (Ye _))⟩
def Zc8(a:Nat->af)(b:∀i v,P i v->∃t,v=.str (a i) t):CmpOf prog w A .Lt P (λi j=>decide ((a i).cps.toList<(a j).cps.toList)):=λi j d c s Q E f e h=>by
 obtain⟨t,rfl⟩:=b i d f;obtain⟨u,rfl⟩:=b j c e;exact Xf (q7 s _ t) (q7 s _ u) F.slot_str_lt F.entry_str_lt (F.args_str_lt_2 _ _) (gives_str_lt _ _ t u) (λx=>nomatch x) h
def Zc9(a:Nat->af)(b:∀i v,P i v->∃t,v=.str (a i) t):CmpOf prog w A .Gt P (λi j=>decide ((a j).cps.toList<(a i).cps.toList)):=λi j d c s Q E f e h=>by
 obtain⟨t,rfl⟩:=b i d f;obtain⟨u,rfl⟩:=b j c e;exact Xf (q7 s _ t) (q7 s _ u) F.slot_str_gt F.entry_str_gt (F.args_str_gt_2 _ _) (gives_str_gt _ _ t u) (λx=>nomatch x) h
noncomputable def sr(a b:af):af:=if b.cps.toList<a.cps.toList then b else a
noncomputable def su(a b:af):af:=if a.cps.toList<b.cps.toList then b else a
def ZiQ{s:cb}:(s.heap.push {cls:=.type "tuple",data:=.seq #[a,b]}).IsTuple s.heap.objs.size #[a,b]:=⟨_,Yu _ Y,Y,0,Y⟩
section
variable {X:dC}{w:dm}{A:gb}{E:bg}{s:cb}
theorem Sj(i:Nat)(v:a7)(h:(#[Value.str a t,Value.str b u]:dg a7)[i]?=O v):∃t',v=.str (([a,b]:Z af).getD i "") t':=by
 match i,h with
 |0,h=>exact⟨t,(Yo h).symm⟩
 |1,h=>exact⟨u,(Yo h).symm⟩
 |i+2,h=>simp at h
def Q7{a b:af}{t u:Tok}{Q:bg}{y:CmpOp}(f:af->af->cF)(G:A.handled=aG)
  (r:CmpOf X w A.in1 y (λi v=>(#[Value.str a t,Value.str b u]:dg a7)[i]?=O v) λi j=>f (([a,b]:Z af).getD i "") (([a,b]:Z af).getD j ""))
  (h:∀g k t',(∀c o,s.heap.get? c=O o->g.get? c=O o)->Q (.str (if f b a=ar then b else a) t') {s with heap:=g,toks:=k}):
  wpAny (model X w) A.in1 (pyIter (.ref s.heap.objs.size)) (λC p=>∃I fp x n P St B,C=.ref I/\Walks X w A.in1 I fp x n P St/\St 0 p.heap/\(∀b∈fp,b<p.heap.objs.size)/\0<n/\CmpOf X w A.in1 y P B/\
   ∀v g k,P (argBest B (n-1)) v->(∀b o,b∉x->p.heap.get? b=O o->g.get? b=O o)->Q v {p with heap:=g,toks:=k}) E
   {s with heap:=s.heap.push {cls:=.type "tuple",data:=.seq #[.str a t,.str b u]}}:=by
 have z:=ZiQ (a:=.str a t) (b:=.str b u) (s:=s);refine yx z ?_;have d:(s.heap.push {cls:=.type "tuple",data:=.seq #[.str a t,.str b u]}).objs.size=s.heap.objs.size+1:=J8 ..;refine⟨_,[_,s.heap.objs.size],[_],_,_,_,_,Y,Walks.tuple (A:=A.in1) G _ s.heap.objs.size (by rw[d];exact Y2 (Jg _)) #[.str a t,.str b u],
  ⟨⟨_,Yu _ Y,Y,Y⟩,z.push _⟩,λc q=>?_,QS,r,λv g k H F=>?_⟩
 ·show c<((s.heap.push _).push _).objs.size;rw[J8,d];rcases Yp.mp q with rfl|q;·rw[d];exact Jg _
  ·rw[Yi.mp q];exact Wr (Jg _)
 ·have l:∀c o,s.heap.get? c=O o->g.get? c=O o:=λc o e=>by
   refine F c o (λD=>?_) (Yc _ (Yc _ e));have:=Yv e;rw[Yi.mp D,d] at this;exact Wi _ (Nat.lt_of_succ_lt this)
  have m:(#[Value.str a t,Value.str b u]:dg a7)[if f b a=ar then 1 else 0]?=O v:=H;obtain⟨t',J⟩:∃t',v=.str (if f b a=ar then b else a) t':=by
   by_cases c:f b a=ar
   ·rw[bR c] at m⊢;exact⟨u,by simpa using m.symm⟩
   ·rw[bt c] at m⊢;exact⟨t,by simpa using m.symm⟩
  subst J;exact h g k t' l
end
def Zc_(d:X.calm=ar):de X (.builtin "min") (λa H Q=>∃i j:af,a=[.str i,.str j]/\Q (.str (sr i j)) H):=by
 intro b s e H a g Q I r h;refine hP h λi j o q=>?_;subst o;obtain⟨u,f,rfl,⟨t,rfl⟩,⟨m,rfl⟩⟩:=vals2 r;exact call_min_two (Q7 (λx y=>decide (x.cps.toList<y.cps.toList)) (I.ok.hd d) (Zc8 _ Sj) λn l c k=>⟨.str (sr i j),H,I.kept k,⟨c,by unfold sr;simp[Xu]⟩,q⟩)
def Zda(d:X.calm=ar):de X (.builtin "max") (λa H Q=>∃i j:af,a=[.str i,.str j]/\Q (.str (su i j)) H):=by
 intro b s e H a g Q I r h;obtain⟨i,j,rfl,q⟩:=h;obtain⟨u,f,rfl,⟨t,rfl⟩,⟨m,rfl⟩⟩:=vals2 r;exact call_max_two (Q7 (λx y=>decide (y.cps.toList<x.cps.toList)) (I.ok.hd d) (Zc9 _ Sj) λn l c k=>⟨.str (su i j),H,I.kept k,⟨c,by unfold su;simp[Xu]⟩,q⟩)
def ZiR:bootBuiltins "max"=O (.builtin "max"):=QK
def Kh:cK X (binaryOp .Mult) (λx y H Q=>∃(z:af) (n:Nat),x=.str z/\y=.int (n:Int)/\z.length<=100/\n<=100/\Q (.str (Txt.mul z (n:Int))) H):=by
 intro a s i H x y v u Q I d c h;obtain⟨z,n,rfl,rfl,e,f,q⟩:=h;obtain⟨t,rfl⟩:=d;obtain⟨j,rfl⟩:=c;have l:z.length*n<=10000:=Yy (zF e f) (by decide);refine PySem.SB.mul ⟨?_,λr _=>?_,λ_ _=>?_⟩ λb k=>⟨.str (Txt.mul z (n:Int)),H,I.tok k,⟨b,Y⟩,q⟩;·rw[ij QO,ij QO];rfl
 ·have m:=QO
  intro g;have p:((2:Int)^63-1)/(n:Int)≥(2^63-1)/100:=by
   refine Int.le_ediv_of_mul_le QO ?_
   grind
  have o:((2:Int)^63-1)/100>100:=QD
  omega
 ·rw[Wb];exact ij (by exact du▸QdQ (lR l (by decide)))
def pL:V->cF
 |.int _=>ar
 |.str _=>ar
 |_=>a_
def Sk(h:pL x=ar):jP x=ar:=by cases x<;>first|rfl|cases h
theorem ZiS(d:pL x=ar)(c:pL y=ar):kG x y=decide (x=y):=by
 cases x with
 |int a=>
  cases y with
  |int b=>
   show(a==b)=_
   grind
  |str b=>rfl
  |_=>cases c
 |str a=>
  cases y with
  |int b=>rfl
  |str b=>
   show(a==b)=_
   grind
  |_=>cases c
 |_=>cases d
theorem Qa:∀{a b:Z V},a.length=b.length->a.all pL=ar->b.all pL=ar->((List.range a.length).all λj=>kG (a.getD j .aA) (b.getD j .aA))=decide (a=b)
 |[],[],_,_,_=>rfl
 |[],_::_,h,_,_=>by simp at h
 |_::_,[],h,_,_=>by simp at h
 |x::a,y::b,h,d,c=>by
  rw[Js,Wu] at d c;rw[Wh,List.range_succ_eq_map,Js,M5];have e:((λj=>kG ((x::a).getD j .aA) ((y::b).getD j .aA))∘Nat.succ)=λj=>kG (a.getD j .aA) (b.getD j .aA):=Y;rw[e,(Qa (by simpa using h) d.2 c.2)];show(kG x y&&_)=_;rw[ZiS d.1 c.1,Wn,Wu,hU,hU,hU,List.cons.injEq]
def ZkM(K:ag)(c:cF):R2:=λx y H Q=>∃(p q:U) (b a:Z V),x=.ref p/\y=.ref q/\aC K H p b/\aC K H q a/\b.all pL=ar/\a.all pL=ar/\Q (.bl (if c=ar then !decide (b=a) else decide (b=a))) H
theorem Sl(r:Vals xs us):∀{j:Nat} (h:j<us.length),RelV (xs.getD j .aA) us[j]:=by
 induction r with
 |nil=>intro j h;cases h
 |cons f _ a=>
  intro j h;cases j with
  |zero=>exact f
  |succ j=>exact a (KC h)
def Sm{a:Z V}(f:a.all pL=ar)(h:j<a.length):pL (a.getD j .aA)=ar:=by
 simp_all
def ZiT{K:ag}(G:X.K=K)(F:X.A.units<cLine):cK X (compareOp .NotEq) (ZkM K ar):=by
 subst G;intro m s R H x y v u Q I w t h;obtain⟨p,q,g,f,rfl,rfl,c,b,r,o,k⟩:=h;cases w;cases t;refine cu (I.tuple c) λd l A W=>?_;refine cu (I.tuple b) λa i z T=>?_;have C:=l.length;have B:=i.length;show wpAny _ _ (richCompare .NotEq _ _) _ _ _;refine SeqAt.RcNeAt.tuples (e:=λj=>kG (g.getD j .aA) (f.getD j .aA)) A z F (λj c b=>?_) _ _ _ _ (cP I k ?_)
 ·have E:j<d.length:=by simpa using c
  have D:j<a.length:=by simpa using b
  have L:=Sl l E;have J:=Sl i D;have P:d.toArray[j]=d[j]:=QS
  have N:a.toArray[j]=a[j]:=QS
  rw[P,N];exact Ts L J (Sk (Sm r QO)) (Sk (Sm o QO))
 ·rw[bR Y,Yt,Yt,←C,←B];by_cases n:g.length=f.length
  ·rw[←n,Nat.min_self,Qa n r o];simp
  ·grind
noncomputable def xD(g:Nat->a7):Nat->Nat->Z a7
 |0,_=>[]
 |n+1,i=>g i::xD g n (i+1)
theorem KQ(g:Nat->a7):∀(b:Z a7) (i:Nat),(∀k,b[k]?=O (g (i+k))\/b.length<=k)->b=xD g b.length i
 |[],_,_=>rfl
 |a::r,i,h=>by
  have e:a=g i:=by
   rcases h 0 with z|z;·grind
   ·cases z
  refine Qa1 (eJ _ e) (KQ g r (i+1) λk=>?_);have:=h (k+1)
  grind
inductive bP(K:ag)(x:af)(b:cm)(f:U):Prop
 |mk {h n:bS U} {e:dg (bS a7)} {i kV j g d m:a7} (a:nsIn K mainGlobals x=O (O (.ref f))) (l:K.lookup f=O ⟨i,h,.func (fnOf x x (mj b) (ji b) (aI b) .none kV j g n d m),e⟩) (c:codeIn K d x=ar) (k:keepIn K (.ref f)=ar):bP K x b f
inductive cY(K:ag)(C:U)(x q:af)(d:cm)(f:U):Prop
 |mk {i o:bS U} {g:dg (bS a7)} {j kV m h e n:a7} (a:PySem.W.findIn K (.ref C) x=O (O (.ref f))) (b:isFn K (.ref f)=ar) (l:K.lookup f=O ⟨j,i,.func (fnOf x q (mj d) (ji d) (aI d) .none kV m h o e n),g⟩) (c:codeIn K e q=ar) (k:keepIn K (.ref f)=ar):cY K C x q d f
inductive jA(P:dC)(w:dm)(K:ag)(b:aR)(a:cX):Prop
 |mk {h:cX} (X:K.In h) (G:h.Ns mainGlobals b):jA P w K b a
abbrev m5(x q:af)(a:cm)(b:Z af):Prop:=∀(kV c d:a7) (h:bS U) (f e:a7) (g:Nat->a7),bindArgs (fnOf x q (mj a) (ji a) (aI a) .none kV c d h f e) ⟨xD g b.length 0,[]⟩=pure (b.zip (xD g b.length 0))
def m5.at{x q:af}{c:cm}{d:Z af}(b:m5 x q c d)(h f g:a7)(l:bS U)(j i:a7)(a:Z a7)(m:a.length=d.length):bindArgs (fnOf x q (mj c) (ji c) (aI c) .none h f g l j i) ⟨a,[]⟩=pure (d.zip a):=by
 have e:=KQ (λk=>a.getD k .none) a 0 λk=>by
  grind
 grind
section
variable {P:dC}{w:dm}{K:ag}{T:aR}{W:cX}{C f:U}{x q:af}{st:cm}{ps:Z af}{n:Nat}{R:Sp}
def jA.p(D:jA P w K T W)(p:bP K x st f)(b:m5 x x st ps:=by intro _ _ _ _ _ _ _;rfl):∃d,aP K x x st f d/\Binds K d ps []/\keepIn K (.ref f)=ar/\T x=O (.ref f):=by
 obtain⟨X,G⟩:=D;obtain⟨a,l,c,k⟩:=p;exact⟨_,y_ l c k,(y_ l c k).binds (m5.at b),k,kN X G a⟩
def jA.d(D:jA P w K T W)(p:bP K x st f)(o:∀a,aP K x x st f a->aE P w K T W aO n f a ps R)(b:m5 x x st ps:=by intro _ _ _ _ _ _ _;rfl):HasFn P w K T W n x ps R:=by
 refine nh (D.p p b) λa F b k m=>?_;exact⟨f,a,o _ F,b,k,m⟩
def jA.dX(D:jA P w K T W)(p:bP K x st f)(o:∀a,aP K x x st f a->aE P w K T W (oa P w) n f a ps R)(b:m5 x x st ps:=by intro _ _ _ _ _ _ _;rfl):CS P w K T W n x ps R:=by
 refine nh (D.p p b) λa F b k m=>?_;exact⟨f,a,o _ F,b,k,m⟩
def cY.p(p:cY K C x q st f)(b:m5 x q st ps):∃d,aP K x q st f d/\Binds K d ps []/\Meth K C x f/\PySem.W.findIn K (.ref C) x=O (O (.ref f))/\isFn K (.ref f)=ar:=by
 obtain⟨a,e,l,c,k⟩:=p;exact⟨_,y_ l c k,(y_ l c k).binds (m5.at b),⟨a,e,k⟩,a,e⟩
def jA.m(_:jA P w K T W)(c:gT K C)(p:cY K C x q st f)(o:∀a,aP K x q st f a->aE P w K T W aO n f a ps R)(b:m5 x q st ps:=by intro _ _ _ _ _ _ _;rfl):cJ P w K T W n x C ps R:=by
 refine i1 (p.p b) λa F b m _ _=>?_;exact⟨f,a,c,m,o _ F,b⟩
def jA.mX(_:jA P w K T W)(c:gT K C)(p:cY K C x q st f)(o:∀a,aP K x q st f a->aE P w K T W (oa P w) n f a ps R)(b:m5 x q st ps:=by intro _ _ _ _ _ _ _;rfl):T5 P w K T W n x C ps R:=by
 refine i1 (p.p b) λa F b m _ _=>?_;exact⟨f,a,c,m,o _ F,b⟩
def jA.i(_:jA P w K T W){y:af}(m:T y=O (.ref C))(g:makesIn K C=ar)(d:keepIn K (.ref C)=ar)(p:cY K C "__init__" q st f)(o:∀c,aP K "__init__" q st f c->aE P w K T W aO n f c ps R)(b:m5 "__init__" q st ps:=by intro _ _ _ _ _ _ _;rfl):wF P w K T W n y C ps R:=by
 refine i1 (p.p b) λc F b _ a e=>?_;exact⟨f,c,⟨g,a,e,d⟩,o _ F,b,m⟩
end
end _L
namespace _L
open PySem PySem.Spec PyProof.Rows
section
variable {X:Cx}
def bM(i:Nat){x:af}{e:cV}{c:TE}{b a:Pos}(k:X.N.Nodup)(j:PE X e c)(g:X.N[i]?=O x:=by rfl)(d:Loc X.env.scope x:=by exact iC rfl)(f:swapsWith e (O (.Name x a)) b.line X.env=pure a_:=by rfl)
  (h:X.fn x=ar\/X.env.scope.names.lookup x=O .local:=by first|exact .inl rfl|exact .inr rfl|assumption):PS X (.Assign [.Name x a] e b) (wJ c (uf i)):=f_ k g d j f h
def a8(i:Nat){x:af}{a:Pos}(e:X.N.Nodup)(c:X.N[i]?=O x:=by rfl)(b:Loc X.env.scope x:=by exact iC rfl)
  (d:X.fn x=ar\/X.env.scope.names.lookup x=O .local:=by first|exact .inl rfl|exact .inr rfl|assumption):PG X (.Name x a) (uf i):=rM e c b d
def pF(K:ag)(i:Nat){x f:af}{p a:Pos}(h:X.K=K:=by rfl)(e:X.N[i]?=O x:=by rfl)(b:uI X.env.scope x:=by first|exact iC rfl|exact mz (iC rfl)|exact mz (mz rfl))(c:(x==("__debug__":af))=a_:=by decide)
  (g:(x==("__classdict__":af))=a_:=by decide)(d:attributeBase (.Name x p) f X.env (eval (.Name x p) X.env)=eval (.Name x p) X.env:=QR):PE X (.Attribute (.Name x p) f a) (LI K (gP i) f):=wm h (pv i e b c g) d
def aY{k j:Nat}{x:af}{c:Z af}{b:Sp}{p a:Pos}{e:cV}{es:Z cV}{t:TA}(h:HasFn X.prog X.w X.K X.mg X.base k x c b)(d:cA j X.A)(l:PA X (e::es) t)(f:k<=j:=by omega)(g:Gl X x:=by rfl)
  (m:(x==("__debug__":af))=a_:=by decide)(i:i8 X e es:=by rfl)(n:jw X a es:=by rfl):
  PE X (.Call (.Name x p) (e::es) [] a) (Cr b [] E0 t):=Lf h d f g l m i n
def bc{r:R2}{a b:cV}{e d:TE}{c:Pos}(g:jx X r)(i:PE X a e)(h:PE X b d)(f:R0 b:=by exact λ_ _=>rfl):PE X (.Subscript a b c) (jZ r e d):=UX g i h f
end
section
variable {P:dC}{w:dm}{K:ag}{W:aR}{X:cX}
def aP.o{x b:af}{e:cm}{f:U}{j:FuncData}{N g:Z af}{k:Nat}{sp:Sp}(F:aP K x b e f j)(a:aQ N g (aI e))
  (m:∀{l:a7} {A:gb} {c:Z Env} {d:Z V} {Q:VK} {E:XK} (s:cb) (H:Hp),cA k (A.deeper (envOfC b (aI e) s.heap.objs.size f l))->sp d H Q E->
   ∃t,gc (kZ aO P w K W X N b (aI e) f l A c s H E).pG (ji e) t/\t {nx:=λ_ n=>Q .aA n,rt:=Q} (start N d) H)
  (i:∀d H Q E,sp d H Q E->d.length=g.length:=by intro d H Q E h;first|(cases h;subst_vars;rfl)|((repeat obtain⟨_,h⟩:=h);subst_vars;rfl)):aE P w K W X aO (k+1) f j g sp:=F.ok a i λ_ _ _ s H _ _ _=>m s H
end
def aQ.a9{N P:Z af}{sc:Scope}(a:sc.kind=.function:=by rfl)(b:sc.isCoroutine=a_:=by rfl)(c:sc.isGenerator=a_:=by rfl)(d:N.Nodup:=by decide+kernel)(e:N.take P.length=P:=by rfl)(f:∀x∈P,sc.names.lookup x=O .local\/sc.names.lookup x=O .cell:=by decide+kernel)(g:∀y∈sc.names,y.2≠.free:=by decide+kernel):aQ N P sc:=⟨a,b,c,d,e,f,g⟩
def Bo.ir{X:Cx}{h:Scope}{cl:Z (af×U)}{x:af}{fr:Z (af×Nat)}(i:rP X.env.cells cl)(j:rQ X h cl fr)(a:closureFor h X.env=pure cl:=by with_unfolding_all rfl)(b:h.kind=.function:=by rfl)(c:∀y∈h.names,y.2=.local->h.names.lookup y.1=O .local:=by decide+kernel)(d:h.names.lookup x=O .local:=by rfl)
  (e:∀y∈h.names,y.2≠.cell:=by decide+kernel)(f:(h.names.all λy=>!(y.2==.free)||(cl.lookup y.1).isSome)=ar:=by rfl)(g:(x::fr.map (·.1)).Nodup:=by decide+kernel):Bo X h cl x fr:=⟨a,i,b,c,d,e,f,j,g⟩
def rB.ir{X:Cx}{d:Scope}{cl:Z (af×U)}{i:Z af}{fr:Z (af×Nat)}(h:rP X.env.cells cl)(j:rQ X d cl fr)(a:closureFor d X.env=pure cl:=by with_unfolding_all rfl)(b:d.kind=.function:=by rfl)(c:∀y∈d.names,y.2=.local->d.names.lookup y.1=O .local:=by decide+kernel)
  (e:∀y∈d.names,y.2≠.cell:=by decide+kernel)(f:(d.names.all λy=>!(y.2==.free)||(cl.lookup y.1).isSome)=ar:=by rfl)(g:(i++fr.map (·.1)).Nodup:=by decide+kernel):rB X d cl i fr:=⟨a,h,b,c,e,f,j,g⟩
end _L
namespace _L
open PySem PySem.W PySem.Spec PyProof.Rows
inductive sQ(K:ag):Z af->Prop
 |nil:sQ K []
 |cons {x:af} {l:Z af} (h:nsIn K mainGlobals x=O aG) (t:sQ K l):sQ K (x::l)
theorem sQ.at{K:ag}{x:af}:∀{l:Z af},sQ K l->x∈l->nsIn K mainGlobals x=O aG
 |_,.cons h t,m=>by
  cases m with
  |head=>exact h
  |tail _ m=>exact t.at m
def sQ.bl{K:ag}(z:sQ K ["len","abs","list","range","tuple","any","all","isinstance","bool","int","str","sorted","min","max","sum","dict","reversed","ValueError"])(X:K.In h)(G:h.Ns mainGlobals mg):Bl mg:=by
 constructor<;>exact PySem.W.mg_none_of X G (z.at QD)
inductive Ah(K:ag)(x:af)(C:U):Prop
 |mk (a:nsIn K mainGlobals x=O (O (.ref C))) (b:makesIn K C=ar) (c:keepIn K (.ref C)=ar):Ah K x C
def jA.j{P:dC}{w:dm}{K:ag}{e:aR}{c:cX}{C f:U}{y q:af}{d:cm}{ps:Z af}{n:Nat}{sp:Sp}(D:jA P w K e c)(g:Ah K y C)(p:cY K C "__init__" q d f)(o:∀h,aP K "__init__" q d f h->aE P w K e c aO n f h ps sp)(b:m5 "__init__" q d ps:=by intro _ _ _ _ _ _ _;rfl):wF P w K e c n y C ps sp:=by
 obtain⟨a,m,k⟩:=g;exact D.i (let⟨X,G⟩:=D;kN X G a) m k p o b
inductive xE(K:ag)(x q:af)(d:Z U)(b:cm)(C f:U):Prop
 |mk {N t:U} {s n:af} {bs sub:Z a7} {k:Z af} {G:cF} {c:bS cF} {B:bS U} {z y w v u:bS a7} {p F i:bS U} {m g:dg (bS a7)} {r kV D o e E j A:a7} {h:Nat}
  (a:nsIn K mainGlobals x=O (O (.ref C))) (l:K.lookup C=O (excClassObj s n C N bs (d.map Value.ref++pA) ar k sub G c B z y w v u "ValueError.__new__"))
  (g1:PySem.W.findIn K (.ref C) "__getattribute__"=O (O (.builtin "BaseException.__getattribute__"))) (g2:PySem.W.findIn K (.ref C) "__getattr__"=O aG) (g3:PySem.W.findIn K (.ref C) "__setattr__"=O (O (.builtin "object.__setattr__"))) (g4:PySem.W.findIn K (.ref C) "__class__"=O (O (.builtin "object.__class__")))
  (g5:specialIn K (.builtin "object.__class__") "__get__"=O (O (.builtin "getset_descriptor.__get__"))) (g6:takesIn K (.builtin "object.__class__")=O ar)
  (ci:PySem.W.findIn K (.ref C) "__init__"=O (O (.ref f))) (cn:isFn K (.ref f)=ar) (ck:keepIn K (.ref C)=ar)
  (fl:K.lookup f=O ⟨r,p,.func (fnOf "__init__" q (mj b) (ji b) (aI b) (.ref t) kV D o F e E),m⟩) (fc:codeIn K e q=ar) (fk:keepIn K (.ref f)=ar) (ft:K.lookup t=O ⟨j,i,.seq #[A] h,g⟩)
  (na:PySem.W.findIn K (.ref C) "word"=O aG):xE K x q d b C f
abbrev BdE(q:af)(a:cm)(b:Z af):Prop:=∀(s:cb) (kV c i j h:a7) (f:bS U) (d:dg (bS a7)) (e:Nat) (t:U) (m:bS U) (l k:a7) (g:Nat->a7),s.heap.get? t=O ⟨h,f,.seq #[j] e,d⟩->BindsTo s (fnOf "__init__" q (mj a) (ji a) (aI a) (.ref t) kV c i m l k) ⟨xD g b.length 0,[]⟩ (b.zip (xD g b.length 0))
def xE.b{K:ag}{h:cX}{i:aR}{x q:af}{n:Z U}{c:cm}{C f:U}(p:xE K x q n c C f)(X:K.In h)(G:h.Ns mainGlobals i)(ps:Z af)(b:BdE q c ps:=by intro _ _ _ _ _ _ _ _ _ _ _ _ _ _ z;exact BindsTo.of_defaults rfl z rfl rfl rfl):
  ∃m,wQ K "__init__" q c f m/\Binds K m ps []/\dH K C/\wO K C f/\i x=O (.ref C)/\dt K C "word":=by
 obtain⟨a,l,y,w,v,u,t,r,I,F,H,B,E,D,A,o⟩:=p;have d:dH K C:=⟨⟨_,_,_,_,n,_,_,_,_,_,_,_,_,_,_,l⟩,y,w,v,u,t,r⟩;refine⟨_,⟨⟨_,_,_,_,_,_,_,_,_,_,Y,B,E⟩,D⟩,λs g J j=>?_,d,wO.of d I F H,kN X G a,o⟩;rw[Y8] at j⊢;have e:=KQ (λk=>g.getD k .none) g 0 λk=>by
  grind
 rw[e,j];exact b s _ _ _ _ _ _ _ _ _ _ _ _ _ (J _ _ A)
end _L
namespace _L
open PySem PySem.Spec PyProof.Rows
section
variable {X:Cx}{a b e T:cV}{P Q R N:TE}{p W:Pos}
def dF(K:ag)(i:Bl X.mg)(f:PE X e R)(h:X.K=K:=by rfl)(d:Gl X "len":=by rfl)(c:starEach [e] X.env=(a_,eval e X.env)::starEach [] X.env:=by rfl)(g:(backTo W (starEach [] X.env)).any (·.1)=a_:=QR):PE X (.Call (.Name "len" p) [e] [] W) (n5 (zG K) (h_ R jr)):=hJ (Zkv h) d i.Cw B_ (aa f ae c) QD QD c g
def m_(K:ag)(k:Bl X.mg)(g:PE X e R)(i:PE X T N)(h:X.K=K:=by rfl)(f:Gl X "isinstance":=by rfl)(d:starEach [T] X.env=(a_,eval T X.env)::starEach [] X.env:=by rfl)(c:starEach [e,T] X.env=(a_,eval e X.env)::starEach [T] X.env:=by rfl)(j:(backTo W (starEach [T] X.env)).any (·.1)=a_:=by rfl):PE X (.Call (.Name "isinstance" p) [e,T] [] W) (n5 (CQ K) (h_ R (h_ N jr))):=hJ (Zgt h) f k.Gg FZ (aa g (aa i ae d) c) QD QD c j
def iL(K:ag)(h:X.K=K:=by rfl):jx X (wK K):=ZeZ h
def iT(K:ag)(h:X.K=K:=by rfl):jx X (CM K):=Zgs h
def bG{c:CmpOp}{r:R2}(d:cK X (compareOp c) r)(h:PE X a P)(g:PE X b Q)(f:behindInMarks c b=a_:=by exact Tj _):PT X (.Compare a [c] [b] W) (Lc (jZ r P Q)):=fV d h g f
def fO{c:CmpOp}{r:R2}(d:cK X (compareOp c) r)(h:PE X a P)(g:PE X b Q)(f:behindInMarks c b=a_:=by exact Tj _):PE X (.Compare a [c] [b] W) (jZ r P Q):=BO d h g f
end
end _L
namespace _L
open PySem PySem.W PySem.Calls PySem.Spec PyProof.Rows
noncomputable def bu(a:Z Int)(i j:Nat):cF:=decide (a.getD i 0<a.getD j 0)
noncomputable def dB(a:Z Int)(i j:Nat):cF:=decide (a.getD i 0<a.getD j 0\/(a.getD i 0=a.getD j 0/\i<j))
def qx:dB a i j=ar↔(a.getD i 0<a.getD j 0\/(a.getD i 0=a.getD j 0/\i<j)):=by unfold dB;exact hU
def Zfx:bu a i j=ar↔a.getD i 0<a.getD j 0:=by unfold bu;exact hU
theorem Ki(c:Z Int)(n:Nat):kI n (dB c):=by
 refine⟨λi j k _ _ _ e d=>?_,λi j _ _ ne h=>?_,λi j _ _ h=>?_⟩
 ·have a:=qx.mp e;have b:=qx.mp d;refine qx.mpr ?_;omega
 ·refine qx.mpr ?_;have a:¬_:=λz=>by rw[qx.mpr z] at h;cases h
  omega
 ·cases z:dB c j i with
  |false=>rfl
  |true=>
   have a:=qx.mp h;have b:=qx.mp z;omega
structure Pf(N m:Nat)(p:dg Nat):Prop where
 lo:∀i,i<m->p.getD i 0<m
 hi:∀i,m<=i->i<N->p.getD i 0=i
def Pf.up(h:Pf N m p)(a:m<N):Pf N (m+1) p:=⟨λi b=>by
 by_cases e:i=m;·rw[e,h.hi m (Ye _) a];exact tq _
 ·have:=h.lo i (eO (fI b) e);exact oO this,λi d c=>h.hi i (uV d) c⟩
theorem Pf.ups(h:Pf N m p)(b:m<=a)(c:a<=N):Pf N a p:=by
 induction a with
 |zero=>
  obtain rfl:m=0:=(Nat.eq_zero_of_le_zero b)
  exact h
 |succ k d=>
  by_cases e:m=k+1;·rwa[←e]
  ·exact(d (fI (eO b e)) (uV c)).up (i2 (tq _) c)
section
variable {n:Nat}{ks:Z Int}
def Q8(c:m<n)(b:Pf n m p)(d:j<m):bu ks (p.getD m 0) (p.getD j 0)=dB ks (p.getD m 0) (p.getD j 0):=by
 have a:=b.lo j d;rw[b.hi m (Ye _) c];unfold bu dB;exact decide_eq_decide.mpr QO
theorem I_{p:dg Nat}:∀f m,1<=m->m+f<=n->Pf n m p->Run (bu ks) (kas_asc p f m)=Run (dB ks) (kas_asc p f m)
 |0,_,_,_,_=>rfl
 |f+1,m,b,c,a=>by
  have e:∀lt,Run lt (kas_asc p (f+1) m)=Run lt (if lt (p.getD m 0) (p.getD (m-1) 0)=ar then KasT.ret m else kas_asc p f (m+1)):=λ_=>Y;rw[e,e,Q8 QO a QO];split;·rfl
  ·exact I_ f (m+1) (lK b) QO (a.up QO)
theorem Hj{p:dg Nat}{k:Nat}(b:k<n)(a:Pf n k p):∀f l r,r<=k->Run (bu ks) (kas_place p k f l r)=Run (dB ks) (kas_place p k f l r)
 |0,_,_,_=>rfl
 |f+1,l,r,h=>by
  rw[kas_place];by_cases c:l≥r;·rw[bR c];rfl
  ·rw[bt c];have e:∀lt,Run lt (KasT.ask (p.getD k 0) (p.getD ((l+r)/2) 0) λc=>if c=ar then kas_place p k f l ((l+r)/2) else kas_place p k f ((l+r)/2+1) r)=Run lt (if lt (p.getD k 0) (p.getD ((l+r)/2) 0)=ar then kas_place p k f l ((l+r)/2) else kas_place p k f ((l+r)/2+1) r):=λ_=>Y;rw[e,e,Q8 b a QO];split;·exact Hj b a f _ _ QO
   ·exact Hj b a f _ _ h
def Pc(b:k<p.size)(c:l<=k)(i:Nat):(bubble p k (k-l)).getD i 0=if i=l then p.getD k 0 else if l<i/\i<=k then p.getD (i-1) 0 else p.getD i 0:=by
 have h:=getElem?_bubble b (k-l) (B1 _ _) i;rw[show k-(k-l)=l by omega] at h;rw[Y0,h];by_cases z:i=l;·rw[bR z,bR z,←Y0]
 ·rw[bt z,bt z];by_cases a:l<i/\i<=k;·rw[bR a,bR a,←Y0]
  ·rw[bt a,bt a,←Y0]
theorem JA{lt:Nat->Nat->cF}{p:dg Nat}{k:Nat}:∀f l r,l<=r->r<=k->Run lt (kas_place p k f l r)<=k
 |0,l,r,b,a=>by exact gm b a
 |f+1,l,r,b,a=>by
  rw[kas_place];by_cases c:l≥r;·rw[bR c];exact gm b a
  ·rw[bt c];have e:Run lt (KasT.ask (p.getD k 0) (p.getD ((l+r)/2) 0) λc=>if c=ar then kas_place p k f l ((l+r)/2) else kas_place p k f ((l+r)/2+1) r)=Run lt (if lt (p.getD k 0) (p.getD ((l+r)/2) 0)=ar then kas_place p k f l ((l+r)/2) else kas_place p k f ((l+r)/2+1) r):=Y;rw[e];split;·exact JA f _ _ QO QO
   ·exact JA f _ _ QO a
theorem Q9:∀f (p:dg Nat) k,p.size=n->k+f=n->Pf n k p->Run (bu ks) (kas_bin f p k)=Run (dB ks) (kas_bin f p k)
 |0,_,_,_,_,_=>rfl
 |f+1,p,k,sz,e,b=>by
  have d:∀lt,Run lt (kas_bin (f+1) p k)=Run lt (kas_bin f (bubble p k (k-Run lt (kas_place p k k 0 k))) (k+1)):=λlt=>by
   rw[kas_bin,Run.bind]
  rw[d,d,Hj (by omega) b _ _ _ (Ye _)];have c:=JA (lt:=dB ks) (p:=p) (k:=k) k 0 k (Yw _) (Ye _);generalize Run (dB ks) (kas_place p k k 0 k)=l at c;refine Q9 f _ (k+1) (by rw[(bubble_perm p k _).size_eq];exact sz) (by omega) ⟨λi h=>?_,λi j g=>?_⟩
  ·rw[Pc (by omega) c];have a:=b.hi k (Ye _) (by omega);split;·omega
   ·split;·have:=b.lo (i-1) (by omega);omega
    ·by_cases z:i=k;·rw[z,a];omega
     ·have:=b.lo i (by omega);omega
  ·rw[Pc (by omega) c,rp (by omega),rp (by omega)];exact b.hi i (by omega) g
end
section
variable {n:Nat}{ks:Z Int}
def oE(b:m<=p.size)(i:Nat):(kas_rev p a m).getD i 0=if a<=i/\i<m then p.getD (a+m-1-i) 0 else p.getD i 0:=by
 unfold kas_rev;rw[Y0,getElem?_mirror_all b];by_cases c:a<=i/\i<m;·rw[bR c,bR c,←Y0]
 ·rw[bt c,bt c,←Y0]
def Pf.rev(b:Pf n m p)(c:m<=p.size):Pf n m (kas_rev p a m):=⟨λi d=>by
 rw[oE c];split;·exact b.lo _ QO
 ·exact b.lo _ d,λi f e=>by
 rw[oE c,bt QO];exact b.hi i f e⟩
noncomputable def eY(ks:Z Int)(p:dg Nat)(i:Nat):Int:=ks.getD (p.getD i 0) 0
def Ci:dB ks (p.getD i 0) (p.getD j 0)=ar↔(eY ks p i<eY ks p j\/(eY ks p i=eY ks p j/\p.getD i 0<p.getD j 0)):=qx
def yV:bu ks (p.getD i 0) (p.getD j 0)=ar↔eY ks p i<eY ks p j:=Zfx
structure DI(n:Nat)(ks:Z Int)(p:dg Nat)(a m:Nat):Prop where
 g:Good n p
 pf:Pf n m p
 am:a<m
 mn:m<=n
 d1:∀i j,i<j->j<a->dB ks (p.getD j 0) (p.getD i 0)=ar
 d2:∀i j,i<a->a<=j->j<m->eY ks p j<eY ks p i
 d3:∀i j,a<=i->i<j->j<m->eY ks p i=eY ks p j/\p.getD i 0<p.getD j 0
def DI.low(d:DI n ks p a m)(f:i<m):eY ks p (m-1)<=eY ks p i:=by
 have b:=d.am;by_cases c:i<a;·exact AS (d.d2 i (m-1) c (Qc7 (l5 b)) QO)
 ·by_cases e:i=m-1;·exact e▸Int.le_refl _
  ·exact Int.le_of_eq (d.d3 i (m-1) (fb c) QO QO).1.symm
def DI.ds(d:DI n ks p a m):Ds (dB ks) (kas_rev p a m) m:=λi j b f=>by
 have sz:m<=p.size:=by exact d.g.size▸d.mn
 rw[oE sz,oE sz];by_cases c:j<a
 ·rw[bt QO,bt QO];exact d.d1 i j b c
 ·rw[bR QO];by_cases e:i<a
  ·rw[bt QO];exact Ci.mpr (.inl (d.d2 i _ e QO QO))
  ·rw[bR QO];exact Ci.mpr (.inr (d.d3 (a+m-1-j) (a+m-1-i) QO QO QO))
def DI.X7(d:DI n ks p m (m+1)):Ds (dB ks) p (m+1):=λi j b a=>by
 by_cases c:j<m;·exact d.d1 i j b c
 ·exact Ci.mpr (.inl (d.d2 i j (i2 b (fI a)) (fb c) a))
def DI.down(g:Good n a)(h:Pf n m a)(c:m<n)(b:1<=m)(l:Ds (dB ks) a m)(e:a.getD m 0=p.getD m 0)(k:∀i,i<m->eY ks p m<eY ks a i):DI n ks a m (m+1):=
 ⟨g,h.up c,Jg _,c,l,λi j b f d=>by
  obtain rfl:j=m:=(Nat.eq_of_le_of_lt_succ f d)
  have:=k i b;unfold eY at*;rwa[e],λi j b f d=>QO⟩
def DI.more(d:DI n ks p a m)(h:m<n)(e:eY ks p m=eY ks p (m-1)):DI n ks p a (m+1):=
 have k:=d.am
 ⟨d.g,d.pf.up h,(oO k),h,d.d1,λi j b g f=>by
  by_cases c:j=m
  ·rw[c,e];exact d.d2 i (m-1) b (Qc7 (l5 k)) QO
  ·exact d.d2 i j b g (eO (fI f) c),λi j b g f=>by
  by_cases c:j=m
  ·rw[c,e];refine⟨?_,?_⟩
   ·by_cases l:i=m-1;·rw[l]
    ·exact(d.d3 i (m-1) b QO QO).1
   ·rw[d.pf.hi m (Ye _) h];exact d.pf.lo i (i2 g (fI f))
  ·exact d.d3 i j b g (eO (fI f) c)⟩
theorem Br:∀f (p:dg Nat) m q,q+1<=m->m+f<=n->DI n ks p (m-(q+1)) m->∃g a b,Run (bu ks) (kas_desc f p m q)=(g,a,b)/\b+1<=a/\DI n ks g (a-(b+1)) a/\m<=a
 |0,p,m,q,o,_,d=>⟨p,m,q,rfl,o,d,Ye _⟩
 |f+1,p,m,q,o,hf,d=>by
  have e:Run (bu ks) (kas_desc (f+1) p m q)=Run (bu ks) (if bu ks (p.getD m 0) (p.getD (m-1) 0)=ar then(if q>0 then kas_desc f (kas_rev p (m-(q+1)) m) (m+1) 0 else kas_desc f p (m+1) 0) else KasT.ask (p.getD (m-1) 0) (p.getD m 0) λd=>if d=ar then KasT.ret (p,m,q) else kas_desc f p (m+1) (q+1)):=rfl;rw[e];have sz:m<=p.size:=by rw[d.g.size];exact d.mn
  by_cases c:bu ks (p.getD m 0) (p.getD (m-1) 0)=ar
  ·rw[uW c];have A:=yV.mp c;by_cases z:q>0
   ·rw[uW z];obtain⟨g,a,b,l,j,h,t⟩:=Br f (kas_rev p (m-(q+1)) m) (m+1) 0 (by omega) (by omega) (by
     have:=DI.down (p:=p) (d.g.rev (m-(q+1)) m) (d.pf.rev sz) (by omega) (by omega) d.ds (by rw[oE sz,rp (by omega)]) (λi s=>by
      have k:eY ks (kas_rev p (m-(q+1)) m) i=eY ks p (if m-(q+1)<=i/\i<m then m-(q+1)+m-1-i else i):=by
       unfold eY;rw[oE sz];split<;>rfl
      rw[k];have:=d.low (i:=if m-(q+1)<=i/\i<m then m-(q+1)+m-1-i else i) (by split<;>omega);omega)
     exact this)
    exact⟨g,a,b,l,j,h,by omega⟩
   ·rw[rp z];obtain rfl:q=0:=by omega
    have x:m-(0+1)+1=m:=by omega
    have y:=d;obtain⟨k,rfl⟩:∃k,m=k+1:=⟨m-1,by omega⟩;obtain⟨g,a,b,l,j,h,t⟩:=Br f p (k+1+1) 0 (by omega) (by omega) (DI.down (p:=p) d.g d.pf (by omega) (by omega) (DI.X7 d) rfl (λi s=>by have:=d.low (i:=i) s;show eY ks p (k+1)<eY ks p i;omega));exact⟨g,a,b,l,j,h,by omega⟩
  ·rw[rp c];have u:Run (bu ks) (KasT.ask (p.getD (m-1) 0) (p.getD m 0) λd=>if d=ar then KasT.ret (p,m,q) else kas_desc f p (m+1) (q+1))=Run (bu ks) (if bu ks (p.getD (m-1) 0) (p.getD m 0)=ar then KasT.ret (p,m,q) else kas_desc f p (m+1) (q+1)):=rfl;rw[u];by_cases r:bu ks (p.getD (m-1) 0) (p.getD m 0)=ar
   ·rw[uW r];exact⟨p,m,q,rfl,o,d,Ye _⟩
   ·rw[rp r];have w:¬_:=λz=>c (yV.mpr z);have v:¬_:=λz=>r (yV.mpr z);obtain⟨g,a,b,l,j,h,t⟩:=Br f p (m+1) (q+1) (by omega) (by omega) (by
     have:=d.more (by omega) (by omega);rw[show m+1-(q+1+1)=m-(q+1) by omega];exact this)
    exact⟨g,a,b,l,j,h,by omega⟩
theorem Qb{lt:Nat->Nat->cF}{p:dg Nat}:∀f m,Run lt (kas_asc p f m)<m+f->lt (p.getD (Run lt (kas_asc p f m)) 0) (p.getD (Run lt (kas_asc p f m)-1) 0)=ar
 |0,m,h=>absurd h (by show ¬m<m+0;exact Nat.lt_irrefl _)
 |f+1,m,h=>by
  have e:Run lt (kas_asc p (f+1) m)=Run lt (if lt (p.getD m 0) (p.getD (m-1) 0)=ar then KasT.ret m else kas_asc p f (m+1)):=Y;rw[e] at h⊢;by_cases c:lt (p.getD m 0) (p.getD (m-1) 0)=ar;·rwa[bR c]
  ·rw[bt c] at h⊢;exact Qb f (m+1) QO
def Sn(g:Good n p)(j:Pf n m p)(d:1<=m)(c:m<=n)(k:Ds (dB ks) p m):Good n (Run (bu ks) (kas_tail3 m n p)).2/\Sd (dB ks) (Run (bu ks) (kas_tail3 m n p)).2 (Run (bu ks) (kas_tail3 m n p)).1/\1<=(Run (bu ks) (kas_tail3 m n p)).1/\(Run (bu ks) (kas_tail3 m n p)).1<=n/\Pf n (Run (bu ks) (kas_tail3 m n p)).1 (Run (bu ks) (kas_tail3 m n p)).2:=by
 have sz:m<=p.size:=by rw[g.size];exact c
 have i:Pf n m (kas_rev p 0 m):=j.rev sz;have e:∀lt,Run lt (kas_tail3 m n p)=(Run lt (kas_asc (kas_rev p 0 m) (n-m) m),kas_rev p 0 m):=λlt=>by
  unfold kas_tail3;rw[Run.bind];rfl
 refine d7 (P_ (Ki ks n) g d c k) λh f b a=>?_;rw[e] at h f b a;rw[e,I_ _ _ d (mV (rj c)) i];exact⟨h,f,(gm d b),a,i.ups b a⟩
def Pd(h:m+1<=n)(d:DI n ks p m (m+1)):Good n (Run (bu ks) (kas_descPart m n p)).2/\Sd (dB ks) (Run (bu ks) (kas_descPart m n p)).2 (Run (bu ks) (kas_descPart m n p)).1/\1<=(Run (bu ks) (kas_descPart m n p)).1/\(Run (bu ks) (kas_descPart m n p)).1<=n/\Pf n (Run (bu ks) (kas_descPart m n p)).1 (Run (bu ks) (kas_descPart m n p)).2:=by
 refine jI (Br (n-(m+1)) p (m+1) 0 (Qdi _ _) (mV (rj h)) d) λf b c i g a j=>?_;have e:Run (bu ks) (kas_descPart m n p)=Run (bu ks) (if c>0 then kas_tail3 b n (kas_rev f (b-(c+1)) b) else kas_tail3 b n f):=by
  unfold kas_descPart;rw[Run.bind,i]
 rw[e];have sz:b<=f.size:=by exact a.g.size▸a.mn
 by_cases z:c>0
 ·rw[bR z];exact Sn (a.g.rev _ _) (a.pf.rev sz) (gm (l5 z) (uV g)) a.mn a.ds
 ·rw[bt z];obtain rfl:c=0:=(i6 (fb z) (AU _))
  obtain⟨k,rfl⟩:∃k,b=k+1:=⟨b-1,(nO (Nat.sub_add_cancel g))⟩;exact Sn a.g a.pf g a.mn (DI.X7 a)
def ZgV(g:Good n p)(id:∀i,i<n->p.getD i 0=i):Good n (Run (bu ks) (kas_count n p)).2/\Sd (dB ks) (Run (bu ks) (kas_count n p)).2 (Run (bu ks) (kas_count n p)).1/\1<=(Run (bu ks) (kas_count n p)).1/\(Run (bu ks) (kas_count n p)).1<=n/\Pf n (Run (bu ks) (kas_count n p)).1 (Run (bu ks) (kas_count n p)).2:=by
 have B:=g.1;have l:∀m,m<=n->Pf n m p:=λm C=>⟨λi f=>by rw[id i (i2 f C)];exact f,λi _ h=>id i h⟩;refine c7 (yU (Ki ks n) g (n-1) 1 (Ye _) QO (λi j x v=>QO)) λb d w=>?_;have A:=Qb (lt:=bu ks) (p:=p) (n-1) 1;rw[←I_ (ks:=ks) (n-1) 1 (Ye _) QO (l 1 (l5 B))] at b d w;have e:Run (bu ks) (kas_count n p)=Run (bu ks) (if(Run (bu ks) (kas_asc p (n-1) 1)==n)=ar then KasT.ret (Run (bu ks) (kas_asc p (n-1) 1),p) else if Run (bu ks) (kas_asc p (n-1) 1)>1 then KasT.ask (p.getD 0 0) (p.getD (Run (bu ks) (kas_asc p (n-1) 1)-1) 0) λc=>if c=ar then KasT.ret (Run (bu ks) (kas_asc p (n-1) 1),p) else kas_descPart (Run (bu ks) (kas_asc p (n-1) 1)) n (kas_rev p 0 (Run (bu ks) (kas_asc p (n-1) 1))) else kas_descPart (Run (bu ks) (kas_asc p (n-1) 1)) n p):=by
  unfold kas_count;rw[Run.bind]
 rw[e];generalize F:Run (bu ks) (kas_asc p (n-1) 1)=r at b d w A;have a:r<=n:=QO
 by_cases t:(r==n)=ar
 ·rw[bR t];exact⟨g,b,d,a,l r a⟩
 ·rw[bt t];have o:r≠n:=λz=>t (beq_iff_eq.mpr z);have u:=yV.mp (A QO);have sz:r<=p.size:=by rw[g.size];exact a
  by_cases s:r>1
  ·rw[bR s];have D:Run (bu ks) (KasT.ask (p.getD 0 0) (p.getD (r-1) 0) λc=>if c=ar then KasT.ret (r,p) else kas_descPart r n (kas_rev p 0 r))=Run (bu ks) (if bu ks (p.getD 0 0) (p.getD (r-1) 0)=ar then KasT.ret (r,p) else kas_descPart r n (kas_rev p 0 r)):=Y;rw[D];by_cases q:bu ks (p.getD 0 0) (p.getD (r-1) 0)=ar
   ·rw[bR q];exact⟨g,b,d,a,l r a⟩
   ·rw[bt q];have E:¬_:=λz=>q (yV.mpr z);refine Pd (l5 (eO a o)) (DI.down (p:=p) (g.rev 0 r) ((l r a).rev sz) (eO a o) d (λi j x v=>?_) (by rw[oE sz,bt QO]) (λi f=>?_))
    ·rw[oE sz,oE sz,bR QO,bR QO];exact b _ _ QO QO
    ·have k:eY ks (kas_rev p 0 r) i=eY ks p (0+r-1-i):=by
      unfold eY;rw[oE sz,bR QO]
     rw[k];by_cases y:0+r-1-i=0;·rw[y];omega
     ·have:=Ci.mp (b 0 (0+r-1-i) (Aj y) QO);omega
  ·rw[bt s];obtain rfl:r=1:=(i6 (fb s) d)
   refine Pd (l5 (eO a o)) (DI.down (p:=p) g (l 1 a) (eO a o) (Ye _) (λi j x v=>QO) Y (λi f=>?_));obtain rfl:i=0:=(i6 (fI f) (AU _))
   exact u
def Zdb(h:0<n):Good n (Run (bu ks) (kas_sort n))/\Sd (dB ks) (Run (bu ks) (kas_sort n)) n:=by
 have e:Run (bu ks) (kas_sort n)=Run (bu ks) (if(Run (bu ks) (kas_count n (List.toArray (List.range n)))).1<n then kas_bin (n-max (Run (bu ks) (kas_count n (List.toArray (List.range n)))).1 1) (Run (bu ks) (kas_count n (List.toArray (List.range n)))).2 (max (Run (bu ks) (kas_count n (List.toArray (List.range n)))).1 1) else KasT.ret (Run (bu ks) (kas_count n (List.toArray (List.range n)))).2):=by
  unfold kas_sort;rw[Run.bind]
 obtain⟨a,b,c,d,f⟩:=ZgV ⟨h,vj _⟩ (λi j=>by simp[j]);rw[e];generalize Run (bu ks) (kas_count n (List.toArray (List.range n)))=r at a b c d f;have g:max r.1 1=r.1:=QO
 by_cases z:r.1<n
 ·rw[bR z,g,Q9 _ _ _ a.size (rj d) f];exact Kg (Ki ks n) _ _ _ a (rj d) b
 ·rw[bt z];have:=(i6 d (fb z))
  refine⟨a,?_⟩;rw[this] at b;exact b
end
structure lq(X:Cx)(pins:aV)(H:Hp)(b:U):Prop where
 hn:H b=aG
 hL:b≠X.env.locals
 hs:X.c6.heap.objs.size<=b
 hc:∀x c,X.env.cells.lookup x=O c->c≠b
 hp:∀p∈X.pn++pins,p.1≠b
 hf:b∉X.fs
section
variable {X:Cx}{W:aV}{σ:St}{H:Hp}{s:cb}
def Inv.wM(I:Inv X W σ H s)(h:s.heap.objs.size<=b):lq X W H b:=
 ⟨I.ay.fresh h,λz=>absurd I.lt (by exact z▸DL.mpr h),Yy I.sz h,λx c e z=>by
  refine hP (I.cell x c e) λv o a _=>?_;rw[z] at a;exact absurd (Yv a) (DL.mpr h),λp d z=>by
  have:=Yv (I.pin p d).1;rw[z] at this;exact absurd this (DL.mpr h),I.VB h⟩
def Inv.V6(I:Inv X W σ H s)(c:lq X W H g)(b:lq X W H f)(i:s.heap.get? g=O e)(h:s.heap.get? f=O d)(k:∀v,e.data≠.cell v)(j:∀v,d.data≠.cell v):Inv X (W++[(g,e),(f,d)]) σ H s:=
 I.yO λp a=>by
  rcases Yq.mp a with a|a;·exact I.pin p (Yg _ a)
  ·rcases Yp.mp a with rfl|a;·exact⟨i,c.hn,c.hL,c.hf,k⟩
   ·rw[Yi.mp a];exact⟨h,b.hn,b.hL,b.hf,j⟩
def Inv.Lp(I:Inv X (W++more) σ H s):Inv X W σ H s:=
 I.yO λp a=>I.pin p (Yg _ (Ys _ a))
def Inv.CA(I:Inv X W σ H s)(n:lq X W H b)(k:∀c o,c≠b->s.heap.get? c=O o->a.get? c=O o):Inv X W σ H {s with heap:=a,toks:=t'}:=
 I.turned k n.hn n.hL (.inr n.hs) n.hc n.hp
def zI(X:Cx)(f:a7)(W:aV)(σ:St)(H:Hp)(v:a7)(k:Int):Prop:=
 ∀(more:aV) (s:cb),Inv X (W++more) σ H s->wpAny X.md X.A.in1.in1 (call f [v]) (λu a=>(∃t,u=.int k t)/\Inv X (W++more) σ H a) (λ_ _=>False) s
def mM(a:Z Int)(b:Z Nat):Prop:=b.Perm (List.range a.length)/\b.Pairwise λi j=>a.getD i 0<a.getD j 0\/(a.getD i 0=a.getD j 0/\i<j)
def ZgW(g:Good a.length p)(c:Sd (dB a) p a.length):mM a p.toList:=by
 refine⟨by simpa using Je.mp g.2,?_⟩;rw[Wa];intro i j d b h;have sz:=g.size;have f:p.toList[i]=p.getD i 0:=by
  rw[Y5] at d;simp_all
 have e:p.toList[j]=p.getD j 0:=by
  rw[Y5] at b;simp_all
 rw[f,e];rw[Y5] at b;exact qx.mp (c i j h QO)
def Zfy(h:a.length<2):mM a (List.range a.length):=by
 refine⟨sZ _,?_⟩;rw[Wa];intro i j c b d;rw[Wy] at b;omega
variable {E:bg}{vs:Z a7}{kz:Z Int}
def Bb:∀v,(seqObj c xs n).data≠.cell v:=λ_ z=>nomatch z
def So{b:SortSt}{is:Z Nat}(I:Inv X W σ H s)(u:lq X W H d)(v:lq X W H a)(p:d≠a)(x:s.heap.get? d=O (seqObj "list" keys e))(y:s.heap.get? a=O (seqObj "list" #[] z))(w:keys.size<=64)
  (l:(arrOf b).map (·.2)=List.toArray (is.map λi=>vs.getD i Value.none))(B:is.length<=64)(r:failedOf b=aG)
  (h:∀f c,Inv X W σ H f->f.heap.get? a=O (seqObj "list" (List.toArray (is.map λi=>vs.getD i Value.none)) c)->P (.done (.ret .none)) f):
  wpAny X.md A (ksk_tail a a_ z (.ref d) b) P E s:=by
 have k:=Qda s.heap d (Obj.mapSeq λ_=>(#[]:dg a7));have j:=(k.2 a p.symm).trans y;have t:=Qda (s.heap.update d (Obj.mapSeq λ_=>(#[]:dg a7))) a (Obj.mapSeq λ_=>(arrOf b).map (·.2));obtain⟨g,m⟩:∃g,((s.heap.update d (Obj.mapSeq λ_=>(#[]:dg a7))).update a (Obj.mapSeq λ_=>(arrOf b).map (·.2))).get? a=O (seqObj "list" ((arrOf b).map (·.2)) g):=⟨_,get?_update_seq j λ_=>(arrOf b).map (·.2)⟩;unfold ksk_tail;try dsimp only
 refine wL (listUpdate_at x Y ?_ (by rw[ro];exact lR w (by decide)) (Yw _));refine wL (wpAny_letGo ?_);refine wL (seqEpoch_at j Y ?_);simp only[Jj,Qdk];refine wL (listUpdate_at j Y ?_ (Yw _) (by rw[l,Yt,Ya,ro];exact lR B (by decide)));rw[r];simp only[Qdd,Jj,Qdk];refine wpAny_pure (h _ g ((I.CA (t':=s.toks) u λc o n q=>(k.2 c n).trans q).CA (t':=s.toks) v λc o n q=>(t.2 c n).trans q) ?_);rwa[←l]
def ZiU(I:Inv X W σ H s)(L:lq X W H m)(N:lq X W H a)(F:m≠a)(T:s.heap.get? m=O (seqObj "list" keys e))(ea:s.heap.get? a=O (seqObj "list" #[] y))
  (v:IntsAre keys.toList kz)(b:kz.length=vs.length)(B:vs.length<64)
  (h:∀d c f,Inv X W σ H d->mM kz f->d.heap.get? a=O (seqObj "list" (List.toArray (f.map λi=>vs.getD i Value.none)) c)->P (.done (.ret .none)) d):
  wpAny X.md A (ksk_end a a_ vs.toArray y (.ref m) keys) P E s:=by
 have o:keys.size=vs.length:=by
  have h1:=v.length;rw[Y5] at h1;omega
 have w:keys=keys.toList.toArray:=QS
 have q:keys.toList.length=vs.length:=by rw[Y5];exact o
 unfold ksk_end;try dsimp only
 simp only[Jj,uR];by_cases k:vs.toArray.size<2
 ·rw[bR k,bR k];refine bp (cR ?_);rw[YE];refine bp (cR ?_);try dsimp only
  rw[Yt] at k;refine So (vs:=vs) (is:=List.range vs.length) I L N F T ea (lR (xc o) (nV B)) ?_ (by rw[Wy];exact tE B) Y λd c D z=>h d c _ D (by rw[←b];exact Zfy (pY (mV b) k)) z;show(keys.zip vs.toArray).map (·.2)=_;rw[range_getD];refine Array.ext' ?_;rw[Array.toList_map,ksk_zip,List.map_snd_zip];exact xl q.symm
 ·rw[bt k,bt k];rw[Yt] at k;rw[ksk_kind v QO];refine bp (cR ?_);obtain⟨g,J⟩:=Zdb (ks:=kz) (n:=vs.length) (i2 (rn _) (fb k));have run:wpAny X.md A (sortRuns'.run (SortSt.mk' oneType' (keys.zip vs.toArray) #[] 7 aG)) (λr d=>d=s/\∃f,mM kz f/\f.length=vs.length/\(arrOf r.2).map (·.2)=List.toArray (f.map λi=>vs.getD i Value.none)/\failedOf r.2=aG) E s:=by
   rw[w];refine kat_run (ks:=keys.toList) (vs:=vs) (Q:=λl d=>d=s/\∃f,mM kz f/\f.length=vs.length/\(arrOf l).map (·.2)=List.toArray (f.map λi=>vs.getD i Value.none)/\failedOf l=aG) (G:=λp d=>d=s/\p=Run (bu kz) (kas_sort vs.length)) q (fb k) B (λp l d a1 a2 a3 a4=>?_) (eV.run (lt:=bu kz) (λi j C R hj hC=>?_) (P7 (i2 (rn _) (fb k))) ⟨Y,Y⟩)
   ·obtain⟨rfl,rfl⟩:=a4;rw[←b] at g J;refine⟨Y,_,ZgW g J,?_,?_,a3⟩;·rw[Y5,g.size,b]
    ·rw[b];exact kat_snds q a2
   ·unfold kas_ask;have at_:∀i,i<vs.length->∃t,keys.toList.getD i Value.none=.int (kz.getD i 0) t:=λi R=>by
     have pr:Vals (kz.map V.int) keys.toList:=Bn v;obtain⟨u,eu,r⟩:=pr.get (i:=i) (x:=.int (kz.getD i 0)) (by rw[Yf,Yb QO,Yd,Yb QO];rfl);obtain⟨t,rfl⟩:=r;exact⟨t,by rw[Yd,eu];rfl⟩
    obtain⟨t,y⟩:=at_ i R;obtain⟨u,e2⟩:=at_ j hj;rw[y,e2];exact kat_lt_int hC
  refine bp (eH run ?_ λ_ _ e=>e);rintro⟨⟨⟩,l⟩ d ⟨rfl,f,sb,li,ho,hf⟩;try dsimp only
  exact So I L N F T ea (lR (xc o) (nV B)) ho (gm (mV li) (tE B)) hf λd c D z=>h d c f D sb z
theorem ZgX(I:Inv X W σ H s)(w:lq X W H d)(z:lq X W H a)(J:d≠a)(ek:s.heap.get? d=O (seqObj "list" #[] 0))(ea:s.heap.get? a=O (seqObj "list" #[] C))
  (r:kz.length=vs.length)(dJ:vs.length<64)(p:∀(i:Nat) (v:a7) (k:Int),vs[i]?=O v->kz[i]?=O k->zI X f W σ H v k)
  (h:∀g c N,Inv X W σ H g->mM kz N->g.heap.get? a=O (seqObj "list" (List.toArray (N.map λi=>vs.getD i Value.none)) c)->P (.done (.ret .none)) g):
  wpAny X.md X.A.in1.in1 (ksk_rest a f a_ vs.toArray C (.ref d)) P E s:=by
 unfold ksk_rest;refine bp (qL ?_);first
  |rw[List.forIn_toArray]
  |(rw[←V5];simp[NJ])
  |rw[←V5]
 refine bp (ksk_fold (λi g=>∃b e,Inv X (W++[(d,seqObj "list" b e),(a,seqObj "list" #[] C)]) σ H g/\IntsAre b.toList (kz.take i)) vs 0 s
  ⟨#[],0,I.V6 w z ek ea Bb Bb,by simpa using IntsAre.nil⟩ ?step ?done)
 case step=>
  intro j x g Q ZH;refine hP ZH λb e t m=>?_;simp only[DT] at m⊢;have hj:j<vs.length:=(Yh.mp Q).1;obtain⟨k,R⟩:∃k,kz[j]?=O k:=⟨_,Yb QO⟩;have hz:b.size<=vs.length:=by
   have h1:=m.length;rw[Y5,Wd] at h1;omega
  refine bp (zH (eH (p j x k Q R _ g t) (λv y he=>?_) λ_ _ hF=>hF.elim));obtain⟨⟨l,rfl⟩,G⟩:=he;try dsimp only
  have u:y.heap.get? d=O (seqObj "list" b e):=(G.pin (d,_) (Yg _ (Yg _ (.head _)))).1;have F:y.heap.get? a=O (seqObj "list" #[] C):=(G.pin (a,_) (Yg _ (Yg _ (.tail _ (.head _))))).1;have L:=sq y.heap d (Obj.mapSeq (·.push (.int k l)));obtain⟨D,T⟩:∃D,(y.heap.update d (Obj.mapSeq (·.push (.int k l)))).get? d=O (seqObj "list" (b.push (.int k l)) D):=⟨_,get?_update_seq u (·.push (.int k l))⟩;have A:kz.take (j+1)=kz.take j++[k]:=by rw[Yz,R];simp
  have B:(b.push (Value.int k l)).toList=b.toList++[Value.int k l]:=QS
  refine bp (listUpdate_at u Y ?_ (by rw[du];omega) (Yy (xl (Array.size_push ..)) (by rw[du];omega)));exact cR ⟨Y,b.push (.int k l),D,(G.Lp.CA w λc o n q=>(L.2 c n).trans q).V6 w z T ((L.2 a J.symm).trans F) Bb Bb,by rw[B,A];exact ksk_snoc m⟩
 case done=>
  rintro g ⟨b,e,t,m⟩;have pK:IntsAre b.toList kz:=by
   have e3:kz.take (0+vs.length)=kz:=Wg QO;rw[e3] at m;exact m
  have u:=(t.pin (d,_) (Yg _ (Yg _ (.head _)))).1;have F:=(t.pin (a,_) (Yg _ (Yg _ (.tail _ (.head _))))).1;try dsimp
  refine bp (listItems_at u Y ?_);exact ZiU t.Lp w z J u F pK r dJ h
def ZgY(I:Inv X W σ H s)(p:lq X W H a)(g:s.heap.get? a=O (seqObj "list" vs.toArray n))
  (e:kz.length=vs.length)(z:vs.length<64)(d:∀(i:Nat) (v:a7) (k:Int),vs[i]?=O v->kz[i]?=O k->zI X f W σ H v k)
  (h:∀j c r,Inv X W σ H j->mM kz r->j.heap.get? a=O (seqObj "list" (List.toArray (r.map λi=>vs.getD i Value.none)) c)->P (.done (.ret .none)) j):
  wpAny X.md X.A.in1.in1 (ksk_tree a f a_) P E s:=by
 have y:a<s.heap.objs.size:=Yv g;have x:=sq s.heap a (Obj.mapSeq λ_=>(#[]:dg a7));obtain⟨t,m⟩:∃t,(s.heap.update a (Obj.mapSeq λ_=>(#[]:dg a7))).get? a=O (seqObj "list" #[] t):=⟨_,get?_update_seq g λ_=>#[]⟩;have l:((s.heap.update a (Obj.mapSeq λ_=>(#[]:dg a7))).push (seqObj "tuple" vs.toArray 0)).objs.size=s.heap.objs.size+1:=by rw[size_push',X1]
 unfold ksk_tree;refine bp (listItems_at g Y ?_);refine bp (listUpdate_at g Y ?_ (by rw[Yt,du];exact nV (m9 z (by decide))) (Yw _));refine bp (seqEpoch_at m Y ?_);refine bp (Zn ?_ (by show vs.length<=_;rw[du];exact nV (m9 z (by decide))));refine bp (s_ ?_ (Yw _));refine k8 ?_;have B:Inv X W σ H {s with heap:=s.heap.update a (Obj.mapSeq λ_=>(#[]:dg a7))}:=I.CA p λc o n q=>(x.2 c n).trans q;have w:Inv X W σ H {s with heap:=(s.heap.update a (Obj.mapSeq λ_=>(#[]:dg a7))).push (seqObj "tuple" vs.toArray 0)}:=B.kept λb u q=>Yc _ q;have A:Inv X W σ H {s with heap:=((s.heap.update a (Obj.mapSeq λ_=>(#[]:dg a7))).push (seqObj "tuple" vs.toArray 0)).push (seqObj "list" #[] 0)}:=w.kept λb u q=>Yc _ q;exact ZgX A (w.wM (Ye _)) p (by exact l▸Jh (Wr y)) (Yu _ Y) (Yc _ (Yc _ m)) e z d h
def Zej{f:a7}{n:Z (af×a7)}{d:cX}{m:Nat}{Q:bg}(I:Inv X W σ H {s with heap:=d,toks:=m})(g:kz.length=vs.length)(z:vs.length<64)(A:∀x,argsOk "list.sort" ⟨[.ref x],n⟩)(w:∀x,Builtin.«list.sort» ⟨[.ref x],n⟩=ksk_tree x f a_)
  (e:∀(i:Nat) (v:a7) (k:Int),vs[i]?=O v->kz[i]?=O k->zI X f W σ H v k)
  (h:∀D a c j,d.objs.size<=D->Inv X W σ H a->lq X W H D->mM kz j->a.heap.get? D=O (seqObj "list" (List.toArray (j.map λi=>vs.getD i Value.none)) c)->Q (.ref D) a):
  wpAny X.md X.A.in1 (do let l←newList vs;let _←holding [l] (call (.builtin "list.sort") [l] n);ret l) (λr a=>∃v,r=.done (.ret v)/\Q v a) E {s with heap:=d,toks:=m}:=by
 refine bp (s_ ?_ (by rw[du];exact nV (m9 z (by decide))));have p:(d.push (seqObj "list" vs.toArray 0)).get? d.objs.size=O (seqObj "list" vs.toArray 0):=Yu _ Y;have o:=I.wM (Ye _);have B:Inv X W σ H {s with heap:=d.push (seqObj "list" vs.toArray 0),toks:=m}:=I.kept λb u q=>Yc _ q;refine bp (k8 (wpAny_call_entry_kw slot_list_sort ⟨_,p,Y⟩ entry_list_sort ?body (A _)));case body=>
  rw[w];refine ZgY B o p g z e λa c j C t y=>⟨_,Y,?_⟩;exact cR ⟨_,Y,h _ a c j (Ye _) C o t y⟩
end
structure wR(K:ag)(C:U)(m:af)(f:U):Prop where
 gt:specialIn K (.ref f) "__get__"=O (O (.builtin "function.__get__"))
 tk:takesIn K (.ref f)=O a_
 cp:PySem.W.copiedNames.contains m=a_
section
variable {T:dC}{w:dm}{A:gb}{E:bg}{s:cb}{K:ag}{x R C f:U}{mA:aR}{W:af}
def ZgZ{a:cF}{Q:bg}(X:K.In s.heap)(I:sf s.heap x R C mA)(c:plainGet K C W=ar)(g:hasDictIn K C=ar)(j:PySem.W.findIn K (.ref C) W=O (O (.ref f)))(i:isFn K (.ref f)=ar)(b:wR K C W f)(d:mA W=aG)
  (h:Q (.ref s.heap.objs.size) {s with heap:=s.heap.push (methodObj (.ref f) (.ref x)),toks:=s.toks+1}):wpAny (model T w) A (getAttr (.ref x) W a) Q E s:=by
 refine bh I.look λk J e=>?_;exact get_bind X J (plainGet_of c).1 (findObj_fn g j b.gt b.tk b.cp (by rw[e,d])) (plainGet_of c).2 (nA (fn_get X (beq_iff_eq.mp i) (handed_on Y h)))
end
def X9(K:ag)(H:Hp)(x:V)(b:Z V):Prop:=∃p,x=.ref p/\(aj K H p b\/∃a,H p=O (.dK a)/\b=a.map λc=>kV c.1)
def KR(K:ag)(C:U)(m:af)(h:Sp)(g:TE)(f:St)(Q:VK)(x:V)(l:Hp):Prop:=g f l λy c=>∃(a j:U) (fs:Z (af×V)) (b:Z V) (d:Z Int),y=.ref a/\c a=O (.ins C j fs)/\fs.lookup m=aG/\X9 K c x b/\d.length=b.length/\b.length<64/\
 (∀(i:Nat) (v:V) (k:Int),b[i]?=O v->d[i]?=O k->h [.ref a,v] c (λr n=>r=.int k/\n=c) E0)/\∀e,mM d e->Nw c (.lst (e.map λi=>b.getD i .aA)) Q
def ZkN(q:V->Hp->Prop):Z V->Hp->Prop
 |[x],H=>q x H
 |_,_=>False
def ZiV(K:ag)(C:U)(m:af)(d:Sp)(c b:TE):TE:=λa H Q=>c a H (KR K C m d b a Q)
section
variable {X:Cx}
def Inv.adopt(I:Inv X pins σ H s)(n:lq X pins H D)(j:cM X.prog X.w (upd H D o) s.heap D o):Inv X pins σ (upd H D o) s:=by
 have ne:∀b u,H b=O u->b≠D:=λb u e=>bU e n.hn;refine⟨I.ok,I.os,I.bare,⟨I.base.keep,I.base.slot,λb a q i h=>?_,I.base.there,λb d q=>?_,λb a u q=>?_,λb g q=>?_⟩,I.loc,I.cell,?_,λx c e=>?_,λp f=>?_,λb u e=>?_,I.len⟩
 ·rw[aJ (λz=>absurd (Yv q) (by exact z▸DL.mpr n.hs))];exact I.base.free b a q i h
 ·have:=I.base.ia b d q;rwa[aJ (ne _ _ this)]
 ·have:=I.base.iQ b a u q;rwa[aJ (ne _ _ this)]
 ·obtain⟨more,this⟩:=I.base.iZ b g q;exact⟨more,by rwa[aJ (ne _ _ this)]⟩
 ·rw[aJ (kK n.hL)];exact I.free
 ·rw[aJ (n.hc x c e)];exact I.iJ x c e
 ·refine c7 (I.pin p f) λl m k=>?_;exact⟨l,by rwa[aJ (n.hp p f)],k⟩
 ·by_cases z:b=D
  ·subst z;rw[aW] at e;cases e;exact j
  ·rw[aJ z] at e;exact(I.ay b u e).iP (λc v _ q=>q) (λc q=>by rwa[aJ (ne _ _ q)]) λc d q=>by rwa[aJ (ne _ _ q)]
theorem Zg0(I:Inv X pins σ H s)(hc:X.calm=ar)(T:argsOk "sorted" ⟨[.ref l],[(Str.ofString "key",f)]⟩)(M8:∀x,argsOk "list.sort" ⟨[.ref x],[(Str.ofString "key",f)]⟩)(ht:∀x,Builtin.«list.sort» ⟨[.ref x],[(Str.ofString "key",f)]⟩=ksk_tree x f a_)
  (F:X9 X.K H (.ref l) xs)(hl:N.length=xs.length)(dJ:xs.length<64)(y:∀(i:Nat) (x:V) (v:a7) (k:Int),xs[i]?=O x->RelV x v->N[i]?=O k->zI X f pins σ H v k)
  (h:∀a,mM N a->Nw H (.lst (a.map λi=>xs.getD i .aA)) Q):
  wpAny X.md X.A (call (.builtin "sorted") [.ref l] [(Str.ofString "key",f)]) (EP X pins σ Q) X.xe s:=by
 refine call_function_entry_kw kind_sorted plain_sorted entry_sorted T ?_;unfold Builtin.«sorted»;refine bp (m:=checkCount "sorted" 1 1 _) (cR ?_);have fin:∀(g:cX) (G:Nat) (b:Z a7),Inv X pins σ H {s with heap:=g,toks:=G}->Vals xs b->wpAny X.md X.A.in1 (do let l←newList b;let _←holding [l] (call (.builtin "list.sort") [l] [(Str.ofString "key",f)]);ret l) (λr A=>∃v,r=.done (.ret v)/\EP X pins σ Q v A) (λe A=>X.xe e A) {s with heap:=g,toks:=G}:=λg G b I1 r=>by
  have lv:=r.length;refine Zej (kz:=N) I1 QO QO M8 ht (λi v k hv hk=>?_) λD A c a hD I' na J e'=>?_
  ·have t:i<xs.length:=by have:=(Yh.mp hv).1;omega
   refine bh (r.get (Yb t)) λu C L=>?_;rw[hv] at C;cases C;exact y i _ v k (Yb t) L hk
  ·have dO:∀i∈a,i<xs.length:=λi t=>by have:=Wk.mp (J.1.subset t);exact m9 this (xc hl)
   have rv:Vals (a.map λi=>xs.getD i .aA) (a.map λi=>b.getD i Value.none):=by
    have W:∀q:Z Nat,(∀i∈q,i<xs.length)->Vals (q.map λi=>xs.getD i .aA) (q.map λi=>b.getD i Value.none):=λq=>by
     induction q with
     |nil=>exact λ_=>.nil
     |cons j q ih=>
      intro B;refine .cons ?_ (ih λi t=>B i (Yx _ t));have X_:=B j Ym;refine bh (r.get (Yb X_)) λu C L=>?_;show RelV (xs.getD j .aA) (b.getD j Value.none);rw[Yd,Yd,C,Yb X_];exact L
    exact W a dO
   have li:a.length=xs.length:=by have:=J.1.length_eq;rw[Wy] at this;omega
   exact⟨.ref D,_,I'.adopt (o:=.lst (a.map λi=>xs.getD i .aA)) na ⟨by rw[Ya,li,du];exact nV (m9 dJ (by decide)),_,c,rv,e'⟩,Y,(h a J).at _ na.hn⟩
 obtain⟨p,E,F|⟨kvs,hp,rfl⟩⟩:=F
 ·cases E;refine cu (I.list F) λau r' pl hz=>?_;refine d5 pl λo n ho Ak _ hd=>?_;refine bp (y0 l (.inl Y) ho Ak hd (λg R=>?_) (by rw[Yt,←r'.length];exact hz));have:=fin g s.toks au (I.kept (t':=s.toks) R) r';simpa using this
 ·cases E;obtain⟨lim,uz,b,kv,dd⟩:=nN I.ay hp;refine hH dd.dictAt λE da=>?_;have kl:=kv.length;refine bp (kdu_collect (kdl_dict (kvs:=b) (ep:=E) uz) (I.ok.hd hc) da (by rw[du];rw[Ya] at dJ;omega) λg tk z R it=>?_);have d:Vals ((b.map (·.1)).map kV) z.toList:=by
   refine Bp (P:=X.prog) (w:=X.w) (by rw[Y5,Ya];exact it.1) λj v B=>?_;obtain⟨k,x,hx,pK⟩:=it.2 j v (by rw[←Ww];exact B)
   simp_all
  rw[←kv.keys,Y9] at d;exact fin g tk z.toList (I.kept (t':=tk) R) d
def Inv.ZiW(I:Inv X pins σ H s)(d:∀v,o.data≠.cell v)(c:cX)(e:c=s.heap.push o)(g:c.get? s.heap.objs.size=O o):Inv X (pins++[(s.heap.objs.size,o)]) σ H {s with heap:=c,toks:=t'}:=by
 subst e;have n:=I.wM (b:=s.heap.objs.size) (Ye _);have f:Inv X pins σ H {s with heap:=s.heap.push o,toks:=t'}:=I.kept λb u q=>Yc _ q;refine f.yO λp a=>?_;rcases Yq.mp a with a|a;·exact f.pin p (Yg _ a)
 ·rw[Yi.mp a];exact⟨g,n.hn,n.hL,n.hf,d⟩
theorem Zfz(F:aE X.prog X.w X.K X.mg X.base aO k g fd d sp)(o:cA j X.A)(t:k+2<=j)(w:Binds X.K fd d [])(m:RelV x v)(h:sp [.ref a,x] H (λr f=>r=.int i/\f=H) E0)(b:(q,methodObj (.ref g) (.ref a))∈pins):zI X (.ref q) pins σ H v i:=by
 intro more s I;have c:Vals [.ref a,x] [.ref a,v]:=.cons Y (.cons m .nil);have p:([Value.ref a,v]++[]).length=d.length:=by rw[Y8,←c.length];exact F.len _ _ _ _ h
 have l:=w s [.ref a,v] I.cj p;rw[Y8] at l;refine nA (method_call (I.pin _ (Yg _ (Ys _ b))).1 (ny (F.run X.A.in1.in1 X.stack s H ⟨[.ref a,v],[]⟩ [.ref a,v] [.ref a,x] _ _ ((o.mono t).in1.in1) I.zC.in1.in1 l c h) λr B b=>?_));cases r with
 |error e=>exact b.elim
 |ok y=>
  cases y with
  |ret u=>
   obtain⟨A,f,z,n,rfl,rfl⟩:=I.after b;exact⟨n,z⟩
  |next=>exact False.elim b
  |brk=>exact False.elim b
  |cont=>exact False.elim b
theorem ZfA{k j:Nat}{m:af}{C:U}{ps:Z af}{E:Sp}{p g w VP:Pos}{e o:cV}{T D:TE}(hc:X.calm=ar)(hM:cJ X.prog X.w X.K X.mg X.base k m C ps E)(hB:∀f,Meth X.K C m f->wR X.K C m f)(hr:cA j X.A)(hj:k+2<=j)(hg:Gl X "sorted")(hm:X.mg "sorted"=aG)(L:bootBuiltins "sorted"=O (.builtin "sorted"))(ha:PA X [e] (h_ T jr))(ho:PE X o D)
  (N:attributeBase o m X.env (eval o X.env)=eval o X.env:=by rfl)(h1:backTo g (starEach [e] X.env)=(a_,eval e X.env)::backTo g (starEach [] X.env):=by rfl)(h2:(backTo g (starEach [e] X.env)).any (·.1)=a_:=by rfl):PE X (.Call (.Name "sorted" p) [e] [⟨O "key",.Attribute o m w,VP⟩] g) (ZiV X.K C m E T D):=by
 intro n s A H Q I h;refine d5 hM λf fd c d F hb=>?_;have B:=hB f d;refine qo (wy I hg hm L ?_);refine callWith_kw (az (ha g n s A H (ZkN (KR X.K C m E D A Q)) I h) λus s1 G=>?_) h1 h2;obtain⟨R,H1,I1,r,q⟩:=G;obtain⟨t,rfl,q⟩:∃t,R=[t]/\KR X.K C m E D A Q t H1:=by
  match R,q with
  |[t],q=>exact⟨t,Y,q⟩
  |[],q=>exact q.elim
  |_::_::_,q=>exact q.elim
 refine wpAny_evalAll_cons (bp (JX N (az (ho n s1 A H1 _ I1 q) λu s2 G=>?_)));obtain⟨y,H2,P,ry,a,dx,fs,xs,kz,ey,ea,el,W,hl,dJ,tn,fin⟩:=G;subst ey;obtain rfl:u=Value.ref a:=ry;obtain⟨mA,b,rO,_,_,_⟩:=yP P.ay ea;refine ZgZ P.cj b (c.get m) c.hd d.at_ d.fn B (eS.none_of (by rw[←el];exact rO m)) ?_;refine bp (m6 (cR (wpAny_evalAll_nil ?_)));obtain⟨u0,rfl,r0⟩:=vals1 r;obtain⟨l,rfl,J⟩:=W;obtain rfl:u0=Value.ref l:=r0;have I3:=P.ZiW (t':=s2.toks+1) (o:=methodObj (.ref f) (.ref a)) (λ_ z=>nomatch z) _ Y (Yu _ Y);refine az (Zg0 I3 hc (ksk_s1 _ _) (λx=>ksk_l1 _ _) (λx=>ksk_t1 _ _) ⟨l,Y,J⟩ hl dJ (λi x v k hx L hk=>Zfz F hr hj hb L (tn i x k hx hk) (Yg _ (.head _))) fin) λu s' ⟨v,H',I',rv,q'⟩=>⟨v,H',I'.Lp,rv,q'⟩
end
end _L
namespace _L
open PySem PySem.Spec PyProof.Rows
section
variable {P:dC}{w:dm}{A:gb}{E:bg}{s:cb}{d:U}{knd:HeapKind P w (Z Key)}{xs:Z (Z Key×U×a7)}
def Zg1{a:U}{k:Z Key}{v:a7}{Q:bg}(b:knd.room A)(h:knd.is s.heap k a)(D:s.heap.DictOfH knd d xs)(N:xs.length<=sizeLine)
  (z:∀p t,atKey xs k=O p->Q p.2 {s with toks:=t})(y:∀i t,atKey xs k=aG->i.DictOfH knd d (xs++[(k,a,v)])->Heap.SameBut d s.heap i->Q v {s with heap:=i,toks:=t}):wpAny (model P w) A (dictSetDefault d (.ref a) v) Q E s:=by
 refine lG D λr o R g B hd f q n=>?_;have sz:o.size=xs.length:=by rw[←Y5,f,Ya]
 unfold dictSetDefault;refine k8 (bp (knd.pyHash b h (bp (NB b h g hd f q n (λno=>?_) λj p e=>?_))))
 ·have G:=atKey_none_of_get no;have new:k∉xs.map (·.1):=λm=>by
   refine bh (Yk.mp m) λW c T=>?_;obtain ⟨J,p⟩:=W;subst T;obtain⟨j,u,e⟩:=Ob c;exact no j p (by rw[Yb u,e])
  refine bp (qL (bp (xW g hd (cR (y _ _ G ?_ (sq _ _ _))) (by rwa[sz]) QS)));obtain⟨I,H,F,L⟩:=r;subst hd;have l:=sq s.heap d (Obj.mapDictKeys λx=>x.push {hash:=knd.hash k,key:=Value.ref a,val:=v});refine⟨_,_,_,(Wp (Obj.mapDictKeys λx=>x.push {hash:=knd.hash k,key:=Value.ref a,val:=v}) g Y),B,Y,?_,λx c=>?_,?_⟩;·rw[Array.toList_push,f,Yr];rfl
  ·rcases Yq.mp c with c|c;·exact knd.keeps (q x c) g Y l
   ·rw[Yi.mp c];exact knd.keeps h g Y l
  ·grind
 ·refine bp (yK g hd ?_);have C:o[j]?=O (entryOfKey knd (k,p)):=by
   rw[entry_at f j,e];rfl
  exact C▸bp (qL (cR (z p _ (atKey_of_get n e))))
end
theorem Zek(L:A.units+1<cLine)(I:Inv X pins σ H s)(e:H a=O (.dT d))(C:H b=O (.tup (k.map kV)))(F:RelV z r)(l:d.length<sizeLine)
  (R:∀v n i,aL d k=O v->Inv X pins σ H i->RelV v n->Q n i)(P:∀i,aL d k=aG->Inv X pins σ (upd H a (.dT (d++[(k,z)]))) i->Q r i):
  wpAny X.md A (call (.builtin "dict.setdefault") [.ref a,.ref b,r]) Q E s:=by
 obtain⟨zz,u,D,g,m⟩:=Lk I.ay e;have J:D.length<=sizeLine:=by rwa[←Paired.length g]
 have h:=g.val k;refine sU u4 m.typeIs Dv ?_ (Dq _ _ _);unfold Builtin.«dict.setdefault»;refine bp (bp (xG m.typeIs (cR ?_)));show wpAny _ _ (if(a==sysModules)=ar then _ else(dictSetDefault a (.ref b) r>>=_)) _ _ s;rw[bt (by rw[u];exact Yn)];refine bp (Zg1 (pE L) (qA I.ay C) m J (λp t j=>cR ⟨_,Y,?_⟩) λh' t B G N=>cR ⟨_,Y,?_⟩)
 ·cases f:aL d k with
  |none=>rw[f,j] at h;cases h
  |some x=>
   rw[f,j] at h;exact R x _ _ f (I.kept λb o e=>e) h
 ·have f:aL d k=aG:=by
   cases f:aL d k with
   |none=>rfl
   |some x=>rw[f,B] at h;cases h
  refine lG G λq es j y g2 g3 W _ T=>?_;have w:=g.put k C F;rw[ko _ f,storedH_new B] at w;refine P _ f (rR I (by exact e▸kJ) N ⟨q,y⟩ ⟨by rwa[Yl],u,_,w.keeps λc ys ec=>?_,q,es,j,y,g2,g3,W,T⟩);rwa[aJ (K8 ec e (λz=>nomatch z))]
def Zel(i g h:TE):TE:=λe H Q=>i e H λx f=>∃a,x=.ref a/\xy f a/\g e f λy j=>h e j λz d=>∃c k b,d a=O (.dT c)/\y=.ref b/\d b=O (.tup (k.map kV))/\c.length<sizeLine/\
 (∀v,aL c k=O v->Q v d)/\(aL c k=aG->Ch d a (.dT (c++[(k,z)])) (Q z))
def Zci(T:X.A.units+1<cLine)(W:PE X o r)(he:PE X e ty)(hf:PE X f q)(m:M2 X o "setdefault" apos e f cy):PE X (.Call (.Attribute o "setdefault" apos) [e,f] [] cy) (Zel r ty q):=by
 intro c s g H Q I h;refine uA m.base m.jz m.line sY u4 Dw (az (W c s g H _ I h) λu C p=>?_);obtain⟨x,H1,n,E,a,ex,d,N⟩:=p;subst ex;obtain rfl:u=Value.ref a:=E;refine c7 (wz n d) λw t _=>?_;refine⟨w,t,?_⟩;rw[m.trees];refine n7 Y (qf (oy (az (he c C g H1 _ n N) λiv B ⟨y,H2,I2,D,L⟩=>
  oy (az (hf c B g H2 _ I2 L) λfv s3 ⟨z,H3,I3,l,R,k,b,ea,ey,eb,P,J,G⟩=>sA ?_))))
 subst ey;cases D;exact Zek T I3 ea eb l P (λv w' A i j F=>⟨v,H3,j,F,J v i⟩) λA i j=>⟨z,_,j,l,(G i).at⟩
end _L
namespace M9
open PySem _L
variable {w:dm}{K:PySem.W.Frag}{B:af->bS a7}{I:cX}{f C CL CJ:U}{fd:FuncData}
noncomputable def top(i:Nat):cm:=PySem.Challenge.pw_kinhearth_k40_called_by_a_word.main.body.getD i (.Pass ⟨0,0,0,0⟩)
abbrev IC:cm:=top 19
abbrev Kj:cm:=top 20
abbrev JB:cm:=top 21
abbrev KS:cm:=top 23
abbrev Gi:cm:=top 25
abbrev Gj:cm:=top 79
abbrev Fi:cm:=top 80
abbrev ID:cm:=top 81
abbrev Hk:cm:=top 22
abbrev F1:cm:=top 24
abbrev Hm:cm:=top 2
abbrev JC:cm:=top 36
abbrev Hn:cm:=top 37
abbrev Ho:cm:=top 40
abbrev GI:cm:=top 41
abbrev GJ:cm:=top 42
abbrev IE:cm:=top 53
abbrev FA:cm:=top 54
abbrev GK:cm:=top 55
abbrev GL:cm:=top 56
abbrev FC:cm:=top 57
abbrev FD:cm:=top 58
abbrev FE:cm:=top 59
abbrev Fj:cm:=top 60
abbrev GN:cm:=top 74
abbrev Gk:cm:=top 28
abbrev Hq:cm:=top 38
abbrev GO:cm:=top 39
abbrev FG:cm:=top 45
abbrev Hs:cm:=top 46
abbrev JD:cm:=top 44
abbrev Pg:cm:=top 83
abbrev OO:cm:=top 84
abbrev Ph:cm:=top 85
abbrev IF:cm:=top 86
abbrev F2:cm:=top 87
abbrev GP:cm:=top 88
abbrev GQ:cm:=top 89
abbrev Bc:cm:=top 90
abbrev Hu:cm:=top 91
abbrev F3:cm:=top 92
abbrev Hv:cm:=top 93
abbrev Hw:cm:=top 94
abbrev JE:cm:=top 95
abbrev Hx:cm:=top 96
abbrev GR:cm:=top 97
abbrev Hy:cm:=top 98
abbrev Hz:cm:=top 99
abbrev HH:cm:=top 100
abbrev IG:cm:=top 101
abbrev HP:cm:=top 102
abbrev HQ:cm:=top 103
abbrev HR:cm:=top 104
abbrev HS:cm:=top 105
abbrev GS:cm:=top 106
abbrev um:cm:=top 107
abbrev GU:cm:=inClass (top 78) 0
abbrev GV:cm:=inClass (top 78) 1
abbrev Gm:cm:=inClass (top 62) 0
abbrev GW:cm:=inClass (top 62) 1
abbrev GX:cm:=inClass (top 62) 2
abbrev GY:cm:=inClass (top 62) 3
abbrev Fm:cm:=inClass (top 62) 4
abbrev Gn:cm:=inClass (top 62) 5
abbrev Fb:cm:=inClass (top 62) 6
abbrev F4:cm:=inClass (top 62) 8
abbrev FH:cm:=inClass (top 62) 12
abbrev ET:cm:=inClass (top 62) 13
abbrev Gp:cm:=inClass (top 62) 14
abbrev F5:cm:=inClass (top 73) 0
abbrev Fn:cm:=inClass (top 73) 1
abbrev Gq:cm:=inClass (top 73) 2
abbrev Gr:cm:=inClass (top 73) 3
abbrev F6:cm:=inClass (top 73) 4
abbrev F7:cm:=inClass (top 73) 5
abbrev Fo:cm:=inClass (top 73) 10
abbrev Fd:cm:=inClass (top 73) 11
abbrev F8:cm:=inClass (top 73) 12
abbrev Gs:cm:=inClass (top 73) 13
abbrev E1:cm:=inClass (top 73) 17
abbrev EW:cm:=inClass (top 73) 18
abbrev FI:cm:=inClass (top 73) 19
abbrev Fe:cm:=inClass (top 73) 20
abbrev FJ:cm:=inClass (top 73) 21
abbrev Fp:cm:=inClass (top 73) 22
abbrev E2:cm:=inClass (top 73) 23
abbrev E7:cm:=inClass (top 73) 24
abbrev A3:cm:=inClass (top 73) 16
abbrev Fq:cm:=inClass (top 4) 0
abbrev Fs:cm:=inClass (top 11) 0
abbrev FK:cm:=inClass (top 8) 0
abbrev Vh:cm:=Pg
abbrev Ua:cm:=OO
abbrev Vi:cm:=Ph
noncomputable abbrev sS:Z af:=["self","word","why"]
def Zat:aQ sS sS (aI Fq):=.a9
def OP(F:wQ K "__init__" "KinError.__init__" Fq f fd)(o:Bl B):aE P w K B I aO 1 f fd sS (Li K):=by
 refine F.ok Zat (λk H Q E h=>?_) (λr A d s H k Q E i h=>?_)
 ·obtain⟨a,C,b,y,rfl,_⟩:=h;rfl
 obtain⟨a,C,b,y,rfl,j,e,l,m,g,q⟩:=h;refine⟨_,(aq (bY (Ze6 Y o.Zbw (aa (pv 0) (aa (Qy (IB (K:=K) Y (IX (pv 2) (λ_=>Y))) (Zgz (Kc (TV i (pv 1)) (Kc aT (Kc (TV i (pv 2)) Zic)))) (pv 1)) ae)))) (av (Zgu (pv 0) (pv 1)))),?_⟩;refine ie ?_;intros;have fin:∀t:af,KI K [.ref a,.str t] H λ_ H1=>U2 K (gP 0) (gP 1) "word" {nx:=λ_ p=>Q .aA p,rt:=Q} [O (.ref a),O (.str b),O (.str y)] H1:=λt=>
  ⟨a,C,.str t,Y,e,j,_,Y,_,Y,a,C,Y,e,l,.inl ⟨j,q⟩⟩
 have n:(1000200:Nat)<=sizeLine:=by rw[du];decide
 refine⟨_,Y,_,Y,_,⟨(gm g (by decide)),Y⟩,?_⟩;refine bC (λc=>?_) (λc=>?_)
 ·refine⟨_,Y,.inl ⟨b,Y,(gm m (by decide)),b,Y,?_,?_⟩⟩
  ·rw[nq];show 0+b.length<=sizeLine;omega
  refine⟨_,Y,?_,?_⟩
  ·rw[nq,nq];show 0+b.length+2<=sizeLine;omega
  refine⟨_,Y,.inl ⟨y,Y,(gm g (by decide)),y,Y,?_,?_,fin _⟩⟩
  ·rw[nq,nq,nq];show 0+b.length+2+y.length<=sizeLine;omega
  ·rw[nq,nq,nq];show 0+b.length+2+y.length<=sizeLine;omega
 ·exact⟨_,Y,fin _⟩
def Zau:aQ pJ pJ (aI Fs):=.a9
def Zcj(F:wQ K "__init__" "NoPerson.__init__" Fs f fd)(i:Cu K p "__init__" o)(r:aE P w K B I aO 1 o t sS (Li K))(g:Binds K t sS [])(j:B "KinError"=O (.ref p))(d:dH K c)(k:dt K c "word"):
  aE P w K B I aO 2 f fd pJ (Lj "no person" c):=by
 refine F.ok Zau (λe H Q E h=>?_) (λu A b s H e Q E m h=>?_)
 ·refine hP h λa y v _=>?_;subst v;rfl
 refine d5 h λa y v n l q=>?_;subst v;refine⟨_,(av (bY (QL i r (m.mono (by decide)) Y j g .nil wC (aa (pv 0) (aa aT (aa (pv 1) ae)))))),?_⟩;exact⟨_,Y,_,Y,a,c,_,y,Y,n,d,k,QD,l,q⟩
def ZaE:aQ pJ pJ (aI FK):=.a9
def Zdc(F:wQ K "__init__" "BadWord.__init__" FK f fd)(i:Cu K p "__init__" o)(r:aE P w K B I aO 1 o t sS (Li K))(g:Binds K t sS [])(j:B "KinError"=O (.ref p))(d:dH K c)(k:dt K c "word"):
  aE P w K B I aO 2 f fd pJ (Lj "no word" c):=by
 refine F.ok ZaE (λe H Q E h=>?_) (λu A b s H e Q E m h=>?_)
 ·refine hP h λa y v _=>?_;subst v;rfl
 refine d5 h λa y v n l q=>?_;subst v;refine⟨_,(av (bY (QL i r (m.mono (by decide)) Y j g .nil wC (aa (pv 0) (aa aT (aa (pv 1) ae)))))),?_⟩;exact⟨_,Y,_,Y,a,c,_,y,Y,n,d,k,QD,l,q⟩
noncomputable abbrev DU:Z af:=["_law_script","_law_k"]
def ZiX:aQ DU DU (aI Vh):=⟨Y,Y,Y,QK,Y,QK,QK⟩
def Zg2(F:aP K "_law_cell" "_law_cell" Vh f fd)(j:B "len"=aG):aE P w K B I aO 1 f fd DU (TK K):=by
 refine F.ok ZiX (λg H Q E h=>?_) (λn A b s H g Q E m h=>?_)
 ·obtain⟨a,i,k,rfl,_⟩:=h;rfl
 obtain⟨a,i,k,rfl,d,l,q⟩:=h;refine⟨_,aq (aU (bG oY (pv 1) (hJ OE Y j B_ (aa (pv 0) ae))) (av (aK (UX Ka (pv 0) (pv 1) (λ_ _=>Y)))) bb)
  (av (aK aF)),?_⟩
 refine⟨_,Y,_,Y,a,_,Y,.inl d,_,_,Y,Y,_,Y,?_⟩;refine bC (λc=>?_) (λc=>?_)
 ·have e:=eL c;rw[(Ya _)] at e;exact⟨_,Y,_,Y,a,_,_,_,Y,Y,d,oU l e,q _⟩
 ·exact q _
noncomputable abbrev xF:Z af:=["_law_cell_here","_law_parts"]
def qy:aQ ["_law_cell_here","_law_parts","_law_one","_law_two","_law_six","_law_found","_law_part"] xF (aI Ua):=⟨Y,Y,Y,QK,Y,QK,QK⟩
def ZfB(F:aP K "_law_draws" "_law_draws" Ua f fd)(W:B "abs"=aG):aE P w K B I aO 1 f fd xF (yR K):=by
 refine F.ok qy (λvs H Q E h=>?_) (λbL A z s H vs Q E hr h=>?_)
 ·obtain⟨c,a,u,rfl,_⟩:=h;rfl
 obtain⟨c,a,u,rfl,hS,G,X,q⟩:=h;refine⟨_,aq (aU (bG oY (hJ Qz Y W Tz (aa (pv 0) ae)) (aZ Th aF aF))
   (aq (f_ (i:=2) qy.nd Y (iC Y) (aZ eG (aZ fq (aZ oR (pv 0) aF) aF) aF))
   (aq (f_ (i:=3) qy.nd Y (iC Y) (aZ eG (aZ fq (aZ fq (aZ oR (pv 2) (pv 2)) (aZ oR aF (pv 2))) (pv 0)) aF))
   (aq (f_ (i:=4) qy.nd Y (iC Y) (aZ eG (aZ fq (aZ oR (pv 3) aF) (pv 2)) aF))
   (av (f_ (i:=0) qy.nd Y (iC Y) (aZ fq (pv 3) (aZ oR aF (aZ fq (pv 4) (aZ oR aF (pv 2))))))))))
   (av (f_ (i:=0) qy.nd Y (iC Y) (aZ B7 (hJ Qz Y W Tz (aa (pv 0) ae)) (aZ Th aF aF)))))
  (aq (f_ (i:=5) qy.nd Y (iC Y) (y9 ae))
  (aq (dI hY Y (RS (pv 1)) (rM (i:=6) qy.nd Y (iC Y))
   (aq (bY (iK l3 my mr yF (pv 5) (aa (aZ eG (pv 0) (pv 6)) ae)))
   (av (f_ (i:=0) qy.nd Y (iC Y) (aZ BM (pv 0) (pv 6))))))
  (av (aK (pv 5))))),?_⟩
 refine fW (λm H'=>H'=H/\∃N j g d,m=[O (.int N),O (.ref a),j,g,d,aG,aG]) (λnx k=>?_) ?_
 ·refine⟨_,Y,c,Y,_,_,Y,Y,⟨QD,QD,QD⟩,_,_,Y,Y,_,Y,?_⟩;refine bC (λ_=>?_) (λ_=>?_)
  ·refine⟨_,Y,_,_,Y,Y,.inr ⟨QD,QD⟩,_,_,Y,Y,_,_,Y,Y,(by show(0:Int)<2147483647;decide),?_⟩;refine⟨_,Y,_,Y,_,_,Y,Y,.inl (Zh5 _ QD QD),_,Y,_,_,Y,Y,.inl ⟨QD,QD⟩,_,_,Y,Y,_,Y,_,_,Y,Y,_,_,Y,Y,(by show(0:Int)<2147483399;decide),?_⟩;refine⟨_,Y,_,_,Y,Y,.inr ⟨QD,QD⟩,_,Y,_,_,Y,Y,_,_,Y,Y,(by show(0:Int)<1000000007;decide),?_⟩;refine⟨_,Y,_,Y,_,Y,_,_,Y,Y,.inl ⟨QD,QD⟩,_,_,Y,Y,_,_,Y,Y,.inl ⟨QD,QD⟩,_,_,Y,Y,k _ _ ⟨Y,_,_,_,_,Y⟩⟩
  ·exact⟨_,Y,c,Y,_,_,Y,Y,⟨QD,QD,QD⟩,_,_,Y,Y,k _ _ ⟨Y,_,_,_,_,Y⟩⟩
 ·rintro m R ⟨rfl,N,j,g,d,rfl⟩;refine⟨(by show 0<=sizeLine;decide),λl L=>?_⟩;have T:ah R (upd R l (.lst [])):=cE L _;refine⟨_,Y,a,Y,⟨_,T.seq hS⟩,g_ (K:=K) (a:=a) (xs:=u.map V.int) (λi m n=>∃c j g d D ds,m=[O (.int c),O (.ref a),j,g,d,O (.ref l),D]/\ah R n/\n l=O (.lst (ds.map V.int))/\Paired Bd ds (u.take i))
   ⟨N,j,g,d,aG,[],Y,T,aW,by rw[M_];exact .nil⟩ (λi m n _ ⟨_,_,_,_,_,_,_,r,_⟩=>r.seq hS) ?_ ?_⟩
  ·intro i y m n hi ZH;obtain⟨c,j,g,d,D,ds,rfl,r,x,t⟩:=ZH;refine bh (mw hi) λp jm J=>?_;subst jm;have dU:i<u.length:=(Yh.mp J).1;refine hI (G p (Yj J)) λv p1=>?_;have dl:=t.length;rw[Wd] at dl;refine⟨_,Y,.inl ⟨Y,_,aj.of x⟩,_,Y,_,Y,_,_,Y,Y,v,l,_,_,Y,Y,x,(by rw[Ya];exact kQ QO),?_⟩;refine⟨_,Y,_,Y,_,_,Y,Y,⟨v,p1⟩,?_⟩;refine⟨_,j,g,d,_,ds++[c % p],Y,λb o e=>?_,?_,?_⟩
   ·rw[aJ (bU e L)];exact r b o e
   ·rw[aW,QF]
   ·rw[Yz,J];exact t.snoc ⟨W7 _ (MG v),W0 _ v⟩
  ·intro m n ZH;obtain⟨c,j,g,d,D,ds,rfl,r,x,t⟩:=ZH;rw[Ya,Wc] at t;exact⟨_,Y,q l ds n L r x t⟩
noncomputable abbrev Na:Z af:=["_law_code","_law_size"]
def zf:aQ ["_law_code","_law_size","_law_free","_law_found","_law_k"] Na (aI Vi):=⟨Y,Y,Y,QK,Y,QK,QK⟩
def Zg3(F:aP K "_law_turn" "_law_turn" Vi f fd)(mL:B "list"=aG)(G:B "range"=aG)(mT:B "tuple"=aG):aE P w K B I aO 1 f fd Na TL:=by
 refine F.ok zf (λX H Q E h=>?_) (λbL A v s H X Q E hr h=>?_)
 ·obtain⟨c,n,rfl,_⟩:=h;rfl
 obtain⟨c,n,rfl,hn,q⟩:=h;refine⟨_,aq (f_ (i:=2) zf.nd Y (iC Y) (fJ (FY Y) Y mL tV (aa (fJ A5 Y G wb (aa (pv 1) ae)) ae)))
  (aq (f_ (i:=3) zf.nd Y (iC Y) (y9 ae))
  (aq (dI hY Y (oF Y G (aa (pv 1) ae)) (rM (i:=4) zf.nd Y (iC Y))
   (aq (bY (iK l3 my mr yF (pv 3) (aa (iK l3 PySem.F.slot_list_pop PySem.F.type_list_pop ZeU (pv 2) (aa (aZ eG (pv 0) (aZ B7 (pv 1) (pv 4))) ae)) ae)))
   (av (f_ (i:=0) zf.nd Y (iC Y) (aZ BM (pv 0) (aZ B7 (pv 1) (pv 4)))))))
  (av (aK (fJ vE Y mT oH (aa (pv 3) ae)))))),?_⟩
 refine⟨_,Y,_,Y,λr W=>?_⟩;refine⟨r,n,Y,aW,(gm hn (by decide)),λu J=>?_⟩;refine⟨(by show 0<=sizeLine;decide),λl y=>?_⟩;have T:ah H (upd H r (.kC 0 (n:Int))):=cE W _;have R:=T.trans (cE J (.lst ((bK n).map V.int)));have g3:=R.trans (cE y (.lst []));have D:=bU aW y;refine⟨_,Y,(n:Int),Y,QO,QO,yD (λi k d=>∃c x ds fs,k=[O (.int c),O (.int (n:Int)),O (.ref u),O (.ref l),x]/\ah H d/\d u=O (.lst (fs.map V.int))/\d l=O (.lst (ds.map V.int))/\(ds++fs).Perm (bK n)/\ds.length=i)
  ⟨c,aG,[],bK n,Y,g3,by rw[aJ D];exact aW,aW,by rw[YA],Y⟩ ?_ ?_⟩
 ·rintro i k d hi ⟨c,x,ds,fs,rfl,g,z,m,a,dl⟩;have p:=a.length_eq;rw[Yl,fR,dl] at p;have j:(0:Int)<(n:Int)-(0+(i:Int)):=QO
  have m0:=W7 c (MG j);have m1:=W0 c j;have N:(c % ((n:Int)-(0+(i:Int)))).toNat<fs.length:=QO
  refine⟨_,Y,.inl ⟨Y,_,aj.of m⟩,_,Y,.inl ⟨Y,_,aj.of z⟩,_,Y,_,Y,_,Y,_,_,Y,Y,_,_,Y,Y,j,u,_,_,_,.int fs[(c % ((n:Int)-(0+(i:Int)))).toNat],Y,Y,z,QO,QO,((JZ (KD m0 (by rw[Ya];omega))).1),by rw[Yf,Yb N];rfl,?_⟩;refine⟨l,_,_,Y,Y,by rwa[aJ D.symm],(by rw[Ya];exact kQ QO),?_⟩;refine⟨_,Y,_,Y,_,Y,_,_,Y,Y,_,_,Y,Y,⟨j,QO⟩,?_⟩;refine⟨_,_,ds++[fs[(c % ((n:Int)-(0+(i:Int)))).toNat]],fs.eraseIdx (c % ((n:Int)-(0+(i:Int)))).toNat,Y,λb o e=>?_,?_,?_,?_,?_⟩
  ·have nl:=bU (R b o e) y;have nu:=bU (T b o e) J;rw[aJ nl,aJ nu];exact g b o e
  ·rw[aJ D,aW,PQ]
  ·rw[aW,QF]
  ·refine List.Perm.trans ?_ a;rw[Jo];refine List.Perm.append_left ds ?_;exact(O1 fs _ N).symm
  ·rw[Yl,List.length_singleton,dl]
 ·rintro k d ⟨c,x,ds,fs,rfl,g,z,m,a,dl⟩;have p:=a.length_eq;rw[Yl,fR,dl] at p;have e:fs=[]:=List.eq_nil_of_length_eq_zero QO;rw[e,Y8] at a;refine⟨_,Y,l,_,Y,.inl ⟨aj.of m,λt L=>?_⟩⟩;exact q t ds _ (g.free L) (g.trans (cE L _)) aW a
def Zg4(h:Paired Bd ds [a,b,c,d,e]):∃v w x y z,ds=[v,w,x,y,z]/\Bd v a/\Bd w b/\Bd x c/\Bd y d/\Bd z e:=by
 cases h with|cons l h=>cases h with|cons k h=>cases h with|cons j h=>cases h with|cons i h=>cases h with|cons g h=>
  cases h
  grind
def aS(h:q (σ.set i (O x)) H):uf i x σ H q:=h
def Ub{K:ag}{H:Hp}{p:U}{b:Z V}{i:Nat}{x:V}{Q:VK}(a:aj K H p b\/aC K H p b)(h:b[i]?=O x)(q:Q x H):Mx K (.ref p) (.int (0+(i:Int))) H Q:=by
 rcases a with a|a;·exact .inl ⟨p,_,_,_,Y,Y,a,QM h,q⟩
 ·exact .inr (.inl ⟨p,_,_,_,Y,Y,a,QM h,q⟩)
def BC(v:V):decide (v=v)=ar:=d6 Y
theorem all_true(n:Nat):(List.replicate n ar).all id=ar:=by
 induction n with
 |zero=>rfl
 |succ n a=>rw[NS,Js,a];rfl
inductive Q_(m:Nat)(a:Z V)(H:Hp)(Q:VK):Prop
 |mk (x y:V) (d:Dt) (k:Nat) (i:a=[x,y]) (h:m=k+1) (e:At H k x d) (g:At H k y d) (c:∀b,ah H b->Q (.bl ar) b):Q_ m a H Q
def t_(m:Nat):Sp:=λa H Q _=>Q_ m a H Q
section
variable {K:ag}{X:aR}
noncomputable abbrev pM:Z af:=["_law_found","_law_due"]
def Zck:aQ pM pM (aI Bc):=.a9
theorem ZfC(F:aP K "_law_same" "_law_same" Bc f fd)(rC:HasFn P w K X I n "_law_same" pM (t_ n))(j:Bl X):aE P w K X I aO (n+1) f fd pM (t_ (n+1)):=by
 refine F.o Zck λs H hr h=>?_;obtain⟨x,y,d,k,rfl,ek,l,u,q⟩:=h;obtain rfl:k=n:=(nO (Nat.add_right_cancel ek))
 have hu:=hr.oS;refine⟨_,(aq (aU (bG Ky (pv 1) nJ) (av (aK (fO Ky (pv 0) nJ))) bb) (aq (aU (fh (m_ K j (pv 1) (mG Y j.Cb BQ))) (av (aK (rV (m_ K j (pv 0) (mG Y j.Cb BQ)) (oQ (fO b_ (pv 0) (pv 1)))))) bb) (aq (aU (fh (m_ K j (pv 1) (mG Y j.U8 TH))) (av (aK (rV (m_ K j (pv 0) (mG Y j.U8 TH)) (rV (ZhQ (m_ K j (pv 0) (mG Y j.Cb BQ))) (oQ (fO b_ (pv 0) (pv 1))))))) bb) (aq (aU (fh (m_ K j (pv 1) (mG Y j.zp za))) (av (aK (rV (m_ K j (pv 0) (mG Y j.zp za)) (oQ (fO b_ (pv 0) (pv 1)))))) bb) (aq (aU (PW.pt (pw_or (bG nL (m_ K j (pv 1) (mG Y j.t9 tV)) (m_ K j (pv 0) (mG Y j.t9 tV))) (pw_or1 (bG nL (m_ K j (pv 1) (mG Y j.oM oH)) (m_ K j (pv 0) (mG Y j.oM oH)))))) (av (aK gH)) bb) (aq (aU (bG nL (dF K j (pv 0)) (dF K j (pv 1))) (av (aK gH)) bb) (av (aK (hJ (VY (K:=K) Y Y) Y j.U7 TB (aa (jj (x:="_law_k") (fr:=[("_law_found",0),("_law_due",1)]) (cl:=[("_law_found",s.heap.objs.size+1),("_law_due",s.heap.objs.size+1+1)]) Y (.ir ⟨Y,⟨Y,trivial⟩⟩ ⟨⟨Y,.inl Y,.inl Y,Y⟩,⟨⟨Y,.inl Y,.inl Y,Y⟩,trivial⟩⟩) (oF Y j.jM (aa (dF K j (pv 1)) ae)) (λ_ _ _ _=>nI) (λ_ _ _ _=>(Lf rC hr (qd _) Y (aa (bc (R_ (K:=K) Y) (pv 1) (pv 0)) (aa (bc (R_ (K:=K) Y) (pv 2) (pv 0)) ae))))) ae)))))))))),?_⟩;refine Cv ?_;intros;have W:(∃(p r:U) (A v:Z V) (ds:Z Dt) (t:a7) (b1 b2:cF) (m:Nat),x=.ref p/\y=.ref r/\jU K H (.ref p) t/\jU K H (.ref r) t/\kitOne K t (.type "bool")=O a_/\kitOne K t (.type "int")=O a_/\kitOne K t (.type "str")=O a_/\
   kitOne K t (.type "list")=O b1/\kitOne K t (.type "tuple")=O b2/\(aj K H p A\/aC K H p A)/\(aj K H r v\/aC K H r v)/\ds.length<=1000/\Paired (At H m) A ds/\Paired (At H m) v ds/\k=m+1)\/
   (x=.aA/\y=.aA)\/(∃b,x=.bl b/\y=.bl b)\/(∃i,x=.int i/\y=.int i)\/∃z,x=.str z/\y=.str z:=by
  cases d with
  |aA=>unfold At at l u;exact .inr (.inl ⟨l,u⟩)
  |bl b=>unfold At at l u;exact .inr (.inr (.inl ⟨b,l,u⟩))
  |int i=>unfold At at l u;exact .inr (.inr (.inr (.inl ⟨i,l,u⟩)))
  |str z=>unfold At at l u;exact .inr (.inr (.inr (.inr ⟨z,l,u⟩)))
  |lst ds=>
   cases k with
   |zero=>unfold At at l;exact l.elim
   |succ m=>
    unfold At at l u;refine d5 l λa A e0 G lz N=>?_;refine d5 u λb v Nd E _ L=>?_;exact .inl ⟨a,b,A,v,ds,.type "list",ar,a_,m,e0,Nd,.lst G,.lst E,Zig,Zih,Zii,Zij,Zik,.inl (aj.of G),.inl (aj.of E),lz,N,L,Y⟩
  |tup ds=>
   cases k with
   |zero=>unfold At at l;exact l.elim
   |succ m=>
    unfold At at l u;refine d5 l λa A e0 G lz N=>?_;refine d5 u λb v Nd E _ L=>?_;exact .inl ⟨a,b,A,v,ds,.type "tuple",a_,ar,m,e0,Nd,.tup G,.tup E,Zil,Zim,Zin,Zio,Ziq,.inr (aC.of G),.inr (aC.of E),lz,N,L,Y⟩
 clear l u;rcases W with⟨p,r,A,v,ds,t,b1,b2,m,rfl,rfl,T1,R,kb,ki,ksr,kl,kt,hp,hq,hz,N,L,ek⟩|⟨rfl,rfl⟩|⟨b,rfl,rfl⟩|⟨i,rfl,rfl⟩|⟨z,rfl,rfl⟩
 ·have l1:=dk N;have l2:=dk L;refine⟨_,Y,Y,_,Y,?_⟩;refine bC (λc=>absurd (eL c) (λz=>nomatch z)) (λ_=>aX ?_);refine⟨_,Y,_,_,_,a_,Y,R,kb,_,Y,bV (aX ?_)⟩;refine⟨_,Y,_,_,_,a_,Y,R,ki,_,Y,bV (aX ?_)⟩;refine⟨_,Y,_,_,_,a_,Y,R,ksr,_,Y,bV (aX ?_)⟩;refine⟨_,Y,_,_,_,b1,Y,R,kl,_,Y,_,_,_,b1,Y,T1,kl,Y,_,Y,wD Y ?_⟩;refine⟨_,Y,_,_,_,b2,Y,R,kt,_,Y,_,_,_,b2,Y,T1,kt,Y,_,Y,wD Y (aX ?_)⟩;refine⟨_,Y,p,_,Y,hp,_,Y,r,_,Y,hq,Y,_,Y,wD (by rw[l1,l2]) (aX ?_)⟩;refine⟨_,Y,r,_,Y,hq,_,Y,QO,QO,λD hD=>yz (lo:=0) (n:=((v.length:Nat):Int).toNat)
   (λi T J=>ah H J/\J D=O (.lst T)/\T=(List.replicate i ar).map V.bl) ⟨cE hD _,aW,Y⟩ ?_ ?_⟩
  ·rintro i T J hi ⟨g,h1,rfl⟩;rw[Wb] at hi;have W:∀{a:U} {Q:Z V},(aj K H a Q\/aC K H a Q)->(aj K J a Q\/aC K J a Q):=λ{a Q} z=>by
    rcases z with z|z;·exact .inl (g.seq z)
    ·exact .inr (g.j9 z)
   have gx:A[i]?=O A[i]:=Yb QO;have gy:v[i]?=O v[i]:=Yb hi;refine bh (gY N gx) λd1 G a1=>?_;refine bh (gY L gy) λd2 E a2=>?_;rw[G] at E;cases E;refine mJ (dh ?_);refine⟨_,Y,_,Y,Ub (W hp) gx ?_⟩;refine⟨_,Y,_,Y,Ub (W hq) gy ?_⟩;refine⟨_,_,d1,m,Y,ek,a1.same g,a2.same g,λH2 g2=>?_⟩;refine⟨g2 _ _ h1,by rw[Ya,W6];exact kQ QO,λb o e=>?_,aW,?_⟩
   ·rw[aJ (bU e hD)];exact g2 b o (g b o e)
   ·rw[M4,Yr];rfl
  ·rintro T J ⟨g,h1,e⟩;refine⟨D,_,Y,aj.of (by rw[h1,e]),?_⟩;rw[all_true];exact q J g
 ·refine⟨_,Y,Y,_,Y,?_⟩;refine bC (λc=>?_) (λc=>absurd (BC _) c);exact⟨_,Y,Y,q H (ah.refl H)⟩
 ·refine⟨_,Y,Y,_,Y,?_⟩;refine bC (λc=>absurd (eL c) (λz=>nomatch z)) (λ_=>aX ?_);refine⟨_,Y,_,_,_,ar,Y,.bl b,TY,_,Y,dh ?_⟩;refine⟨_,Y,_,_,_,ar,Y,.bl b,TY,_,Y,dh ?_⟩;refine⟨_,Y,_,Y,Y,?_⟩;rw[BC];exact q H (ah.refl H)
 ·refine⟨_,Y,Y,_,Y,?_⟩;refine bC (λc=>absurd (eL c) (λz=>nomatch z)) (λ_=>aX ?_);refine⟨_,Y,_,_,_,a_,Y,.int i,KL,_,Y,bV (aX ?_)⟩;refine⟨_,Y,_,_,_,ar,Y,.int i,TX,_,Y,dh ?_⟩;refine⟨_,Y,_,_,_,ar,Y,.int i,TX,_,Y,dh ?_⟩;refine⟨_,Y,_,_,_,a_,Y,.int i,KL,_,Y,_,Y,dh ?_⟩;refine⟨_,Y,_,Y,Y,?_⟩;rw[BC];exact q H (ah.refl H)
 ·refine⟨_,Y,Y,_,Y,?_⟩;refine bC (λc=>absurd (eL c) (λz=>nomatch z)) (λ_=>aX ?_);refine⟨_,Y,_,_,_,a_,Y,.str z,Zie,_,Y,bV (aX ?_)⟩;refine⟨_,Y,_,_,_,a_,Y,.str z,Zif,_,Y,bV (aX ?_)⟩;refine⟨_,Y,_,_,_,ar,Y,.str z,TZ,_,Y,dh ?_⟩;refine⟨_,Y,_,_,_,ar,Y,.str z,TZ,_,Y,dh ?_⟩;refine⟨_,Y,_,Y,Y,?_⟩;rw[BC];exact q H (ah.refl H)
def same_none:aE P w K X I aO 0 f fd pM (t_ 0):=by
 have no:∀a H Q E,¬t_ 0 a H Q E:=λa H Q E h=>by
  obtain⟨_,_,_,_,_,z,_⟩:=h;omega
 exact⟨λa H Q E h=>absurd h (no a H Q E),λA b s H c d a Q E _ _ _ _ h=>absurd h (no a H Q E)⟩
theorem Sq(F:aP K "_law_same" "_law_same" Bc f fd)(c:Binds K fd pM [])(a:keepIn K (.ref f)=ar)(m:X "_law_same"=O (.ref f))(b:Bl X):
  ∀n:Nat,aE P w K X I aO n f fd pM (t_ n)
 |0=>same_none
 |n+1=>ZfC F ⟨f,fd,Sq F c a m b n,c,a,m⟩ b
end
inductive Uc(K:ag)(b:Z V)(H:Hp)(Q:VK):Prop
 |mk (p:U) (a:Z Int) (h:b=[.ref p]) (g:Row K H p a) (d:a.length<64) (e:∀c,ah H c->Q (.bl (full a)) c):Uc K b H Q
def LV(K:ag):Sp:=λa H Q _=>Uc K a H Q
noncomputable def bQ(a b:Z Int):Z Int:=b.map λx=>a.getD x.toNat 0
def rS(h:full a=ar)(c:x∈a):0<=x/\x<a.length:=by
 have b:=(rF h).subset c;unfold bK at b;obtain⟨i,d,rfl⟩:=Yk.mp b;have:=Wk.mp d;omega
noncomputable abbrev j_:Z af:=["row"]
def Zdd:aQ j_ j_ (aI IC):=.a9
def Zde(F:aP K "is_turn" "is_turn" IC f fd)(n:Bl B):aE P w K B I aO 1 f fd j_ (LV K):=by
 refine F.o Zdd @λbL A G vs Q E s H hr h=>?_;obtain⟨p,r,rfl,N,dJ,q⟩:=h;have hu:=hr.oS;refine⟨_,(aq (aU (fh (hJ (Zkz (K:=K) Y Y) Y n.ZjG Zh6 (aa (jj (x:="number") (fr:=[]) (cl:=[]) Y (.ir trivial trivial) (Zh4 (pv 0)) (λ_ _ _ _=>nI) (λ_ _ _ _=>(m_ K n (pv 0) (mG Y n.Cb BQ)))) ae))) (av (aK gH)) bb) (av (aK (fO (Tx hu) (hJ (sortedK (K:=K) Y) Y n.yM yG (aa (pv 0) ae)) (fJ (FY Y) Y n.t9 tV (aa (fJ A5 Y n.jM wb (aa (dF K n (pv 0)) ae)) ae)))))),?_⟩;refine ie ?_;intros;have L:(r.map V.int).length=r.length:=Ya _;have k:∀(D:U) (a:Hp),ah H a->a D=O (.lst ((List.replicate r.length a_).map V.bl))->
   ∃(T:U) (bs:Z cF),[V.ref D]=[V.ref T]/\aj K a T (bs.map V.bl)/\tB (tC (V.bl (bs.any id))) [] a (λc W=>if c=ar then Q (.bl a_) W else
    (Va K a_ (gP 0)) [O (.ref p)] W Q):=λD a R m=>by
  refine⟨D,_,Y,aj.of m,_,Y,?_⟩;rw[any_false];refine bV ?_;exact Ze9 Y (Row.same R N) dJ λH' g=>q H' (R.trans g)
 have j:∀(D:U),H D=aG->∀(i:Nat) (v:V) (d:Z V) (a:Hp),(r.map V.int)[i]?=O v->(ah H a/\a D=O (.lst d)/\d=(List.replicate i a_).map V.bl)->
   n5 (CQ K) (h_ (gP 0) (h_ (tC (V.ty "bool")) jr)) [O v] a λy J=>J D=O (.lst d)/\d.length<sizeLine/\
    (ah H (upd J D (.lst (d++[y])))/\upd J D (.lst (d++[y])) D=O (.lst (d++[y]))/\d++[y]=(List.replicate (i+1) a_).map V.bl):=λD l i v d a t ⟨g,m,e⟩=>by
  obtain⟨z,rfl,X⟩:=mw t;have dU:i<r.length:=(Yh.mp X).1;refine⟨_,Y,_,_,_,a_,Y,.int z,KL,m,?_,λb o q=>?_,aW,?_⟩
  ·rw[e,Ya,W6];exact kQ QO
  ·rw[aJ (bU q l)];exact g b o q
  ·rw[e,M4,Yr];rfl
 refine⟨_,Y,p,Y,?_⟩;rcases N with u|u
 ·refine .inl ⟨⟨_,u⟩,λD l=>Iw (λi d a=>ah H a/\a D=O (.lst d)/\d=(List.replicate i a_).map V.bl) ⟨cE l _,aW,Y⟩ (λi d a _ ⟨g,_,_⟩=>g.seq u) (λi v d a t h=>mJ (dh (j D l i v d a t h))) ?_⟩;rintro d a ⟨g,m,e⟩;exact k D a g (by rw[m,e,L])
 ·refine .inr ⟨⟨_,u⟩,λD l=>BA (λi d a=>ah H a/\a D=O (.lst d)/\d=(List.replicate i a_).map V.bl) ⟨cE l _,aW,Y⟩ (λi d a _ ⟨g,_,_⟩=>g.j9 u) (λi v d a t h=>mJ (dh (j D l i v d a t h))) ?_⟩;rintro d a ⟨g,m,e⟩;exact k D a g (by rw[m,e,L])
inductive Sr(K:ag)(g:Z V)(H:Hp)(Q:VK):Prop
 |mk (a b:U) (c d:Z Int) (m:g=[.ref a,.ref b]) (l:aC K H a (c.map V.int)) (j:aC K H b (d.map V.int)) (k:(∀x∈c,0<=x/\x<d.length)) (i:c.length<64) (h:∀(t:U) (e:Hp),H t=aG->ah H e->e t=O (.tup ((bQ d c).map V.int))->Q (.ref t) e):Sr K g H Q
def Lq(K:ag):Sp:=λa H Q _=>Sr K a H Q
noncomputable abbrev pN:Z af:=["first","then"]
def Zcl:aQ pN pN (aI Hk):=.a9
def Zcm(F:aP K "followed" "followed" Hk f fd)(N:Bl B):aE P w K B I aO 1 f fd pN (Lq K):=by
 refine F.o Zcl λs H Q h=>?_;obtain⟨a,b,k,m,rfl,y,L,G,R,q⟩:=h;have E:(bQ m k).length=k.length:=by unfold bQ;rw[Ya]
 refine⟨_,(av (aK (fJ (vE) Y N.oM oH (aa (jj (x:="section") (fr:=[("then",1)]) (cl:=[("then",s.heap.objs.size+1)]) Y (.ir ⟨Y,trivial⟩ ⟨⟨Y,.inl Y,.inl Y,Y⟩,trivial⟩) (B6 (pv 0)) (λ_ _ _ _=>nI) (λ_ _ _ _=>(bc (iT K) (pv 1) (pv 0)))) ae)))),?_⟩;refine⟨_,Y,a,Y,⟨_,y⟩,λD u=>BA (λi e g=>ah H g/\g D=O (.lst e)/\e=((bQ m k).take i).map V.int) ⟨cE u _,aW,Y⟩ (λi e g _ ⟨c,_,_⟩=>c.j9 y) ?_ ?_⟩
 ·rintro i v e g J ⟨c,l,j⟩;refine bh (mw J) λz T p=>?_;subst T;have A:=G z (Yj p);refine mJ (dh ⟨_,Y,_,Y,b,_,_,_,Y,Y,c.j9 L,oU A.1 A.2,l,?_,λd o n=>?_,aW,?_⟩)
  ·rw[j,Ya,Wd,E];exact kQ QO
  ·rw[aJ (bU n u)];exact c d o n
  ·rw[j,Yz,Iy];unfold bQ;rw[Yf,p];rfl
 ·rintro e g ⟨c,l,j⟩;refine⟨D,_,Y,.inl ⟨aj.of l,λt r=>q t _ (c.free r) (c.trans (cE r _)) ?_⟩⟩;rw[aW,j,Ya,Wg (by exact E▸qd _)]
noncomputable def lC(x:Int):Z Int->Nat
 |[]=>0
 |y::r=>if y=x then 0 else lC x r+1
theorem BD{x:Int}:∀{l:Z Int},x∈l->l[lC x l]?=O x/\∀m,m<lC x l->l[m]?≠O x
 |[],h=>by cases h
 |y::r,h=>by
  unfold lC;by_cases e:y=x;·grind
  ·rw[bt e];obtain⟨c,b⟩:=BD ((Yp.mp h).resolve_left λz=>e z.symm);refine⟨by rwa[YC],λm a=>?_⟩;cases m with
   |zero=>grind
   |succ m=>grind
def Bs(b:l.Nodup)(h:l[k]?=O x):lC x l=k:=by
 obtain⟨a,c⟩:=BD (Yj h);exact(List.getElem?_inj (by rcases Yh.mp a with⟨z,_⟩;exact z) b).mp (a.trans h.symm)
def inv(a:Z Int):Z Int:=(bK a.length).map λi=>(lC i a:Int)
def gv(a:Z Int):(inv a).length=a.length:=by unfold inv;rw[Ya,fR]
def BV{i:Nat}(h:i<xs.length):(inv xs)[i]?=O (lC (i:Int) xs:Int):=by
 unfold inv;rw[Yf,nH h];rfl
def Be(h:full xs=ar):xs.Nodup:=(rF h).nodup_iff.mpr (MJ.O4 _)
def Ra(h:full xs=ar)(a:i<xs.length):(i:Int)∈xs:=(rF h).symm.subset (Yj (nH a))
def kT(h:full xs=ar):full (inv xs)=ar:=by
 have p:(xs.map λi=>(lC i xs:Int)).Perm (inv xs):=(rF h).map _;have e:xs.map (λi=>(lC i xs:Int))=bK xs.length:=by
  refine Wx λi=>?_;rw[Yf];by_cases a:i<xs.length
  ·rw[nH a,Yb a];show O (lC xs[i] xs:Int)=O (i:Int);rw[Bs (Be h) (Yb a)]
  ·rw[Y7 (fb a),Y7 (by rw[fR];exact fb a)];rfl
 rw[e] at p;exact tX p.symm
def inv_inv(h:full xs=ar):inv (inv xs)=xs:=by
 refine Wx λi=>?_;by_cases a:i<xs.length
 ·rw[BV (by rwa[gv]),Yb a];have b:=rS h (Wo a);have c:(xs[i]).toNat<xs.length:=QO
  have e:((xs[i].toNat:Nat):Int)=xs[i]:=QO
  have g:(inv xs)[(xs[i]).toNat]?=O (i:Int):=by rw[BV c,e,Bs (Be h) (Yb a)]
  rw[Bs (Be (kT h)) g,e]
 ·rw[Y7 (by rw[gv,gv];exact fb a),Y7 (fb a)]
def Rb(a:i<xs.length):(inv xs).take (i+1)=(inv xs).take i++[(lC (i:Int) xs:Int)]:=by
 rw[Yz,BV a];rfl
inductive Ud(d:Z V)(H:Hp)(Q:VK):Prop
 |mk (a:U) (b:Z Int) (j:d=[.ref a]) (i:H a=O (.tup (b.map V.int))) (g:b.length<64) (h:full b=ar) (e:∀(t:U) (c:Hp),H t=aG->ah H c->c t=O (.tup ((inv b).map V.int))->Q (.ref t) c):Ud d H Q
def CY:Sp:=λa H Q _=>Ud a H Q
noncomputable abbrev pO:Z af:=["turn"]
def ZaW:aQ pO pO (aI F1):=.a9
def ZaX(F:aP K "turned_back" "turned_back" F1 f fd)(p:Bl B):aE P w K B I aO 1 f fd pO CY:=by
 refine F.ok ZaW (λJ H Q E h=>?_) (λW A l s N J Q E T h=>?_)
 ·obtain⟨a,b,rfl,_⟩:=h;rfl
 obtain⟨a,b,rfl,z,R,L,q⟩:=h;refine⟨_,(av (aK (fJ (vE) Y p.oM oH (aa (jj (x:="section") (fr:=[("turn",0)]) (cl:=[("turn",s.heap.objs.size+1)]) Y (.ir ⟨Y,trivial⟩ ⟨⟨Y,.inl Y,.inl Y,Y⟩,trivial⟩) (oF Y p.jM (aa (dF K p (pv 0)) ae)) (λ_ _ _ _=>nI) (λ_ _ _ _=>(OK (pv 1) (aa (pv 0) ae)))) ae)))),?_⟩;have g:(b.map V.int).length=b.length:=Ya _;refine⟨_,Y,a,_,Y,.inr (aC.of z),_,Y,by rw[g];omega,by rw[g];omega,λD y=>yz
   (λi e k=>ah N k/\k D=O (.lst e)/\e=((inv b).take i).map V.int) ⟨cE y _,aW,Y⟩ ?_ ?_⟩
 ·rintro i e k m ⟨c,n,j⟩;rw[Wb,g] at m;rw[An];have u:=BD (Ra L m);have G:=c _ _ z;refine mJ (dh ⟨_,Y,a,b,Y,G,_,Y,(i:Int),lC (i:Int) b,Y,G,u.1,u.2,n,?_,λd o r=>?_,aW,?_⟩)
  ·rw[j,Ya,Wd,gv];exact kQ QO
  ·rw[aJ (bU r y)];exact c d o r
  ·rw[j,Rb m,Yr];rfl
 ·rintro e k ⟨c,n,j⟩;refine⟨D,_,Y,.inl ⟨aj.of n,λt v=>q t _ (c.free v) (c.trans (cE v _)) ?_⟩⟩;rw[aW,j,Wb,g,Wg (by rw[gv];exact qd _)]
inductive Qc(b:Z V)(H:Hp)(Q:VK):Prop
 |mk (n:Nat) (e:b=[.int (n:Int)]) (d:n<=1000) (c:∀(t:U) (a:Hp),H t=aG->ah H a->a t=O (.tup ((bK n).map V.int))->Q (.ref t) a):Qc b H Q
def Kk:Sp:=λa H Q _=>Qc a H Q
def ZfD:aQ ["size"] ["size"] (aI Kj):=.a9
def ZfE(F:aP K "still" "still" Kj f fd)(c:Bl B):aE P w K B I aO 1 f fd ["size"] Kk:=by
 refine F.o ZfD λs H e h=>?_;obtain⟨n,rfl,d,q⟩:=h;refine⟨_,(av (aK (fJ (OA Y) Y c.oM oH (aa (fJ A5 Y c.jM wb (aa (pv 0) ae)) ae)))),?_⟩;exact⟨_,Y,_,Y,λr a=>⟨r,n,Y,aW,d,λt b=>q t _ ((cE a _).free b) ((cE a _).trans (cE b _)) aW⟩⟩
inductive Ss(K:ag)(b:Z V)(H:Hp)(Q:VK):Prop
 |mk (p:U) (a:Z Int) (i:b=[.ref p]) (h:aC K H p (a.map V.int)) (e:a.length<64) (g:full a=ar) (d:∀c,ah H c->Q .aA c):Ss K b H Q
def Lr(K:ag):Sp:=λa H Q _=>Ss K a H Q
inductive Ue(K:ag)(g:Z V)(H:Hp)(Q:VK):Prop
 |mk (a b:U) (c d:Z Int) (o:g=[.ref a,.ref b]) (n:aC K H a (c.map V.int)) (l:aC K H b (d.map V.int)) (m:c.length<64) (k:full c=ar) (j:full d=ar) (i:c.length=d.length) (h:∀(t:U) (e:Hp),H t=aG->ah H e->e t=O (.tup ((bQ d c).map V.int))->Q (.ref t) e):Ue K g H Q
def LW(K:ag):Sp:=λa H Q _=>Ue K a H Q
inductive Ug(d:Z V)(H:Hp)(Q:VK):Prop
 |mk (a:U) (b:Z Int) (j:d=[.ref a]) (i:H a=O (.tup (b.map V.int))) (g:b.length<64) (h:full b=ar) (e:∀(t:U) (c:Hp),H t=aG->ah H c->c t=O (.tup ((inv b).map V.int))->Q (.ref t) c):Ug d H Q
def V7:Sp:=λa H Q _=>Ug a H Q
inductive Rc(K:ag)(c:Z V)(H:Hp)(Q:VK):Prop
 |mk (l e:U) (d:Z U) (n:Nat) (o:c=[.ref l]) (m:aj K H l ((e::d).map V.ref)) (j:2<=n) (k:n<=8) (i:(∀a∈e::d,∃b:Z Int,aC K H a (b.map V.int)/\b.length=n/\full b=ar)) (h:∀g,ah H g->Q .aA g):Rc K c H Q
def KU(K:ag):Sp:=λa H Q _=>Rc K a H Q
inductive OQ(K:ag)(c:Z V)(H:Hp)(Q:VK):Prop
 |mk (m f w:U) (a b:Z Int) (o:c=[.ref m,.ref f,.ref w]) (n:aC K H m (a.map V.int)) (k:aC K H f ((bQ a b).map V.int)) (l:aC K H w (b.map V.int)) (j:full a=ar) (i:full b=ar) (h:a.length=b.length) (g:a.length<=8) (e:∀d,ah H d->Q .aA d):OQ K c H Q
def Qd(K:ag):Sp:=λa H Q _=>OQ K a H Q
def tS(b a:Z Int):(bQ b a).length=a.length:=by unfold bQ;rw[Ya]
def JG(g:full xs=ar)(d:full a=ar)(e:xs.length=a.length):full (bQ xs a)=ar:=by
 have c:(bQ xs a).Perm ((bK a.length).map λx=>xs.getD x.toNat 0):=(rF d).map _;have h:((bK a.length).map λx=>xs.getD x.toNat 0)=xs:=by
  refine Wx λi=>?_;rw[Yf];by_cases b:i<a.length
  ·rw[nH b]
   grind
  ·rw[Y7 (by rw[fR];exact fb b),Y7 (gm (mV e) (fb b))];rfl
 rw[h] at c;exact tX (c.trans (rF g))
noncomputable abbrev ZjV(n:Nat)(m f w d:U):Z (af×V):=[("size",.int (n:Int)),("mother",.ref m),("father",.ref f),("wife",.ref w),("steps",.ref d)]
noncomputable abbrev zg(m f w d b c a:U):Z (Key×V):=[(.inr "c",.ref m),(.inr "k",.ref f),(.inr "w",.ref w),(.inr "m",.ref d),(.inr "f",.ref b),(.inr "h",.ref c),(.inr "s",.ref a)]
def bZ(H:Hp)(a:U)(b:Z Int):Prop:=H a=O (.tup (b.map V.int))
inductive Rf(H:Hp)(C L:U)(a b:Z Int):Prop
 |mk (h d m f w g c e st:U) (r:H L=O (.ins C h (ZjV a.length m f w d))) (q:H d=O (.dK (zg m f w g c e st))) (o:bZ H m a) (p:bZ H f (bQ a b)) (n:bZ H w b) (l:bZ H g (inv a)) (k:bZ H c (inv (bQ a b))) (j:bZ H e (inv b)) (i:bZ H st (bK a.length)):Rf H C L a b
def jk(H:Hp)(C L:U)(b a:Z Int):Prop:=Rf H C L b a
def jk.same{H b:Hp}{C L:U}{a ys:Z Int}(g:ah H b)(h:jk H C L a ys):jk b C L a ys:=by
 obtain⟨t,d,m,f,w,i,c,e,st,s,r,q,p,o,n,l,k,j⟩:=h;exact⟨t,d,m,f,w,i,c,e,st,g _ _ s,g _ _ r,g _ _ q,g _ _ p,g _ _ o,g _ _ n,g _ _ l,g _ _ k,g _ _ j⟩
inductive Rg(C:U)(e:Z V)(H:Hp)(Q:VK):Prop
 |mk (x g m f w:U) (a c:Z Int) (r:e=[.ref x,.ref m,.ref f,.ref w]) (q:H x=O (.ins C g [])) (n:bZ H m a) (p:bZ H f (bQ a c)) (l:bZ H w c) (k:full a=ar) (j:full c=ar) (i:a.length=c.length) (h:2<=a.length) (t:a.length<=8) (s:∀d,(∀b o,H b=O o->b≠x->d b=O o)->jk d C x a c->Q .aA d):Rg C e H Q
def Uh(C:U):Sp:=λa H Q _=>Rg C a H Q
inductive Pj(C:U)(d:Z V)(H:Hp)(Q:VK):Prop
 |mk (m w:U) (a b:Z Int) (o:d=[.ref m,.ref w]) (n:bZ H m a) (k:bZ H w b) (l:full a=ar) (j:full b=ar) (i:a.length=b.length) (h:2<=a.length) (g:a.length<=8) (e:∀(L:U) (c:Hp),ah H c->jk c C L a b->Q (.ref L) c):Pj C d H Q
def Rh(C:U):Sp:=λa H Q _=>Pj C a H Q
structure wH(K:ag)(C:U):Prop where
 cls:gT K C
 ua:dt K C "size"
 ZfF:dt K C "mother"
 ZfG:dt K C "father"
 ZiY:dt K C "wife"
 Kl:dt K C "steps"
def Zbc:aQ j_ j_ (aI Gi):=.a9
def ZiZ(F:aP K "check_turn" "check_turn" Gi f fd)(a:HasFn P w K B I 1 "is_turn" j_ (LV K)):aE P w K B I aO 2 f fd j_ (Lr K):=by
 refine F.o Zbc λs H c h=>?_;obtain⟨p,b,rfl,d,i,e,q⟩:=h;refine⟨_,(av (aU (jO (fh (aY a c (aa (pv 0) ae)))) gw bb)),?_⟩;refine⟨_,Y,p,b,Y,.inr d,i,λj g=>⟨_,Y,?_⟩⟩;rw[e];exact bV (q j g)
def Zem:aQ pN pN (aI JB):=.a9
def ZjW(F:aP K "behind" "behind" JB f fd)(j:HasFn P w K B I 2 "check_turn" j_ (Lr K))(x:HasFn P w K B I 1 "followed" pN (Lq K))(r:Bl B):aE P w K B I aO 3 f fd pN (LW K):=by
 refine F.o Zem λs H d h=>?_;obtain⟨a,b,i,e,rfl,m,l,k,o,J,eq,q⟩:=h;refine⟨_,(aq (bY (aY j d (aa (pv 0) ae))) (aq (bY (aY j d (aa (pv 1) ae))) (aq (aU (bG nL (dF K r (pv 0)) (dF K r (pv 1))) gw bb) (av (aK (aY x d (aa (pv 0) (aa (pv 1) ae)))))))),?_⟩;refine nY ?_;intros;refine⟨_,Y,a,i,Y,m,k,o,λQ n=>?_⟩;refine⟨_,Y,b,e,Y,n.j9 l,QO,J,λN G=>?_⟩;have g:=n.trans G;have v:=g.j9 m;have u:=g.j9 l;have p:∀c:Z Int,(c.map V.int).length=c.length:=λc=>Ya _;refine⟨_,Y,a,_,Y,.inr v,_,Y,b,_,Y,.inr u,Y,_,Y,wD (by rw[p,p,eq]) (aX ?_)⟩;exact⟨_,Y,_,Y,a,b,i,e,Y,v,u,λz A=>by exact eq▸rS o A,k,λt L y E D=>q t L (g.free y) (g.trans E) D⟩
def Zg5:aQ pO pO (aI KS):=.a9
def ZjX(F:aP K "back" "back" KS f fd)(j:HasFn P w K B I 2 "check_turn" j_ (Lr K))(k:HasFn P w K B I 1 "turned_back" pO CY)(p:Bl B):aE P w K B I aO 3 f fd pO V7:=by
 refine F.o Zg5 λs H e h=>?_;obtain⟨a,c,rfl,g,d,i,q⟩:=h;refine⟨_,(aq (bY (aY j e (aa (pv 0) ae))) (av (aK (aY k e (aa (pv 0) ae))))),?_⟩;refine⟨_,Y,a,c,Y,aC.of g,d,i,λr b=>?_⟩;exact⟨_,Y,a,c,Y,b _ _ g,d,i,λt o l n m=>q t o (b.free l) (b.trans n) m⟩
def F9:aQ ["rows","size","row"] ["rows"] (aI Gj):=.a9
theorem Zg6(F:aP K "check_rows" "check_rows" Gj f fd)(A:HasFn P w K B I 1 "is_turn" j_ (LV K))(R:B "LEAST_SIZE"=O (.int 2 t1))(T:B "MOST_SIZE"=O (.int 8 X))(x:Bl B):aE P w K B I aO 2 f fd ["rows"] (KU K):=by
 refine F.o F9 λs H G h=>?_;obtain⟨l,c,y,n,rfl,p,n2,n8,b,q⟩:=h;refine⟨_,(aq (bM 1 F9.nd (dF K x (bc (iL K) (pv 0) aF))) (aq (aU (PW.pt (pw_or (bG oY (pv 1) (c9 (v:=.int (2)) Y R ⟨_,Y⟩)) (pw_or1 (bG Lb (pv 1) (c9 (v:=.int (8)) Y T ⟨_,Y⟩))))) gw bb) (av (dI hY Y (dY (K:=K) Y (pv 0)) (a8 2 F9.nd) (av (aU (PW.pt (pw_or (bG nL (dF K x (pv 2)) (pv 1)) (pw_or1 (jO (fh (aY A G (aa (pv 2) ae))))))) gw bb)))))),?_⟩;refine me ?_;intros;have u:∀k:Z Int,(k.map V.int).length=k.length:=λk=>Ya _;refine cu (b c Ym) λW L E f0=>?_;refine⟨_,Y,l,_,0,.ref c,Y,Y,p,dM Y,c,_,Y,.inr L,?_⟩;rw[u,E];refine⟨_,Y,_,_,Y,Y,_,Y,bC (λr=>absurd (eL r) QO) (λ_=>?_)⟩;refine⟨_,Y,_,_,Y,Y,_,Y,bC (λr=>absurd (eL r) QO) (λ_=>aX ?_)⟩;refine⟨_,Y,l,Y,⟨_,p⟩,g_ (λi j d=>ah H d/\∃m:bS V,j=[O (.ref l),O (.int (n:Int)),m]) ⟨ah.refl _,aG,Y⟩ (λi j d _ ⟨g,_⟩=>g.seq p) ?_ ?_⟩
 ·rintro i v j d o ⟨g,m,rfl⟩;rw[Yf] at o;obtain⟨a,J,rfl⟩:∃a,a∈c::y/\V.ref a=v:=by
   cases e:(c::y)[i]? with
   |none=>rw[e] at o;cases o
   |some a=>grind
  refine cu (b a J) λz t D Q=>?_;refine⟨_,Y,a,_,Y,.inr (g.j9 t),_,Y,Y,_,Y,wD (by rw[u,D]) ?_⟩;refine⟨_,Y,a,z,Y,.inr (g.j9 t),QO,λH2 N=>⟨_,Y,?_⟩⟩;rw[Q];exact bV (aX ⟨g.trans N,_,Y⟩)
 ·rintro j d ⟨g,m,rfl⟩;exact q d g
noncomputable abbrev Nf:Z af:=["mother","father","wife"]
def Ff:aQ ["mother","father","wife","by_mothers","section"] Nf (aI Fi):=.a9
def Zdf(F:aP K "check_parents" "check_parents" Fi f fd)(r:HasFn P w K B I 3 "behind" pN (LW K))(p:Bl B):aE P w K B I aO 4 f fd Nf (Qd K):=by
 refine F.o Ff λs H v h=>?_;obtain⟨m,j,n,b,a,rfl,z,o,y,D,A,eq,J,q⟩:=h;refine⟨_,(aq (bM 3 Ff.nd (aY r v (aa (pv 2) (aa (pv 0) ae)))) (av (dI hY Y (oF Y p.jM (aa (dF K p (pv 1)) ae)) (a8 4 Ff.nd) (av (aU (bG nL (bc (iT K) (pv 3) (pv 4)) (bc (iT K) (pv 1) (pv 4))) gw bb))))),?_⟩;refine ie ?_;intros;have k:∀d:Z Int,(d.map V.int).length=d.length:=λd=>Ya _;refine⟨_,Y,_,Y,n,m,a,b,Y,y,z,QO,A,D,eq.symm,λt E G g u=>?_⟩;have L:=tS b a;refine⟨_,Y,j,_,Y,.inr (g.j9 o),_,Y,by rw[k];omega,by rw[k];omega,yD
  (λi c l=>l=E/\∃e:bS V,c=[O (.ref m),O (.ref j),O (.ref n),O (.ref t),e]) ⟨Y,aG,Y⟩ ?_ ?_⟩
 ·rintro i c l x ⟨rfl,e,rfl⟩;rw[Wb,k] at x;have at_:dN ((bQ b a).map V.int) (0+(i:Int))=O (.int ((bQ b a).getD (0+(i:Int)).toNat 0)):=oU QO QO;refine⟨_,Y,_,Y,t,_,_,_,Y,Y,aC.of u,at_,_,Y,_,Y,j,_,_,_,Y,Y,g.j9 o,at_,Y,_,Y,wD Y (aX ⟨Y,_,Y⟩)⟩
 ·rintro c l ⟨rfl,e,rfl⟩;exact q _ g
def xH{f:af}(h:fs.length<=n):(cQ f y fs).length<=n+1:=Yy (GC f y fs) (X3 h)
def fs4(a b c d:V):cQ "wife" d (cQ "father" c (cQ "mother" b (cQ "size" a [])))=([("size",a),("mother",b),("father",c),("wife",d)]:Z (af×V)):=rfl
def fs5(a b c d e:V):cQ "steps" e [("size",a),("mother",b),("father",c),("wife",d)]=([("size",a),("mother",b),("father",c),("wife",d),("steps",e)]:Z (af×V)):=rfl
def ds7(a b c d e f g:V):qB [] [(.inr "c",a),(.inr "k",b),(.inr "w",c),(.inr "m",d),(.inr "f",e),(.inr "h",f),(.inr "s",g)]=[(.inr "c",a),(.inr "k",b),(.inr "w",c),(.inr "m",d),(.inr "f",e),(.inr "h",f),(.inr "s",g)]:=rfl
noncomputable abbrev CZ:Z af:=["self","mother","father","wife"]
def ZbA:aQ CZ CZ (aI GU):=.a9
def Zg7(F:aP K "__init__" "Land.__init__" GU f fd)(p:wH K C)(vG:HasFn P w K B I 2 "check_rows" ["rows"] (KU K))(Ft:HasFn P w K B I 4 "check_parents" Nf (Qd K))
  (zh:HasFn P w K B I 3 "back" pO V7)(wo:HasFn P w K B I 1 "still" ["size"] Kk)(bl:Bl B):aE P w K B I aO 5 f fd CZ (Uh C):=by
 refine F.o ZbA λs H y h=>?_;obtain⟨x,k,m,i,c,j,v,rfl,hx,hM,hF,hW,X,W,eq,l2,J,q⟩:=h;refine⟨_,(aq (bY (aY vG y (aa (y9 (aa (pv 1) (aa (pv 2) (aa (pv 3) ae)))) ae))) (aq (bY (aY Ft y (aa (pv 1) (aa (pv 2) (aa (pv 3) ae))))) (aq (y8 (pv 0) (dF K bl (pv 1)) Y) (aq (y8 (pv 0) (pv 1) Y) (aq (y8 (pv 0) (pv 2) Y) (aq (y8 (pv 0) (pv 3) Y) (av (y8 (pv 0) (BU (kR aT (pv 1) (kR aT (pv 2) (kR aT (pv 3) (kR aT (aY zh y (aa (pv 1) ae)) (kR aT (aY zh y (aa (pv 2) ae)) (kR aT (aY zh y (aa (pv 3) ae)) (kR aT (aY wo y (aa (dF K bl (pv 1)) ae)) BR))))))) Y Y (λz=>nomatch z) (Jy Y)) Y)))))))),?_⟩;refine Cv ?_;intros;have el:∀zs:Z Int,(zs.map V.int).length=zs.length:=λzs=>Ya _;have YF:=JG X W eq;have al:=tS j v;refine⟨_,Y,_,Y,_,Y,by show 3<=sizeLine;decide,λl nl=>?_⟩;have T:=cE nl (.lst [.ref m,.ref i,.ref c]);refine⟨l,m,[i,c],j.length,Y,aj.of aW,l2,J,λa A=>?_,λH2 g2=>?_⟩
 ·rcases Yp.mp A with rfl|A;·exact⟨j,aC.of (T _ _ hM),Y,X⟩
  ·rcases Yp.mp A with rfl|A;·exact⟨bQ j v,aC.of (T _ _ hF),by rw[al,eq],YF⟩
   ·rw[Yi] at A;subst A;exact⟨v,aC.of (T _ _ hW),eq.symm,W⟩
 have G:=T.trans g2;refine⟨_,Y,_,Y,_,Y,m,i,c,j,v,Y,aC.of (G _ _ hM),aC.of (G _ _ hF),aC.of (G _ _ hW),X,W,eq,J,λH3 g3=>?_⟩;have g:=G.trans g3;have DW:=g _ _ hx;have DX:=g _ _ hM;have Ng:=g _ _ hF;have Nh:=g _ _ hW;have nm:m≠x:=λe=>by rw[e,DW] at DX;cases DX
 have nf:i≠x:=λe=>by rw[e,DW] at Ng;cases Ng
 have nw:c≠x:=λe=>by rw[e,DW] at Nh;cases Nh
 refine⟨_,Y,m,_,Y,.inr (aC.of DX),_,Y,x,C,k,_,Y,DW,p.cls,p.ua,by decide,?_⟩;refine⟨_,Y,_,Y,x,C,k,_,Y,aW,p.cls,p.ZfF,Ji (xH (Ye 0)) (by decide),?_⟩;refine⟨_,Y,_,Y,x,C,k,_,Y,aW,p.cls,p.ZfG,Ji (xH (xH (Ye 0))) (by decide),?_⟩;refine⟨_,Y,_,Y,x,C,k,_,Y,aW,p.cls,p.ZiY,Ji (xH (xH (xH (Ye 0)))) (by decide),?_⟩;rw[JW,JW,JW,el,fs4];have Ni:upd H3 x (.ins C k [("size",.int (j.length:Int)),("mother",.ref m),("father",.ref i),("wife",.ref c)]) x=O (.ins C k [("size",.int (j.length:Int)),("mother",.ref m),("father",.ref i),("wife",.ref c)]):=aW;have D:∀b o,H3 b=O o->b≠x->upd H3 x (.ins C k [("size",.int (j.length:Int)),("mother",.ref m),("father",.ref i),("wife",.ref c)]) b=O o:=λb o e n=>by rw[aJ n];exact e
 generalize upd H3 x (.ins C k [("size",.int (j.length:Int)),("mother",.ref m),("father",.ref i),("wife",.ref c)])=H4 at Ni D⊢;have Nj:=D _ _ DX nm;have YG:=D _ _ Ng nf;have YH:=D _ _ Nh nw;intro d nd;have r:=cE nd (.dK []);have Nk:upd H4 d (.dK []) d=O (.dK []):=aW;generalize upd H4 d (.dK [])=H5 at r Nk⊢;refine⟨_,Y,_,Y,_,Y,?_⟩;refine⟨_,Y,m,j,Y,r _ _ Nj,pY J (by decide),X,λQ H6 nim g6 Nl=>?_⟩;refine⟨_,Y,i,bQ j v,Y,g6 _ _ (r _ _ YG),by omega,YF,λL H7 njf g7 Nm=>?_⟩;refine⟨_,Y,c,v,Y,g7 _ _ (g6 _ _ (r _ _ YH)),by omega,W,λN H8 niw g8 hiw=>?_⟩;have YI:=(g6.trans g7).trans g8;refine⟨_,Y,m,_,Y,.inr (aC.of (YI _ _ (r _ _ Nj))),j.length,by rw[el];rfl,gm J (by decide),λst H9 DY R dA=>?_⟩;have t:=YI.trans R;refine⟨t _ _ Nk,zg m i c Q L N st,Y,by show 7<=15;decide,?_⟩;have ke:d≠x:=bU Ni nd |>.symm;have YJ:=t _ _ (r _ _ Ni);refine⟨_,Y,x,C,k,_,Y,by rw[aJ ke.symm];exact YJ,p.cls,p.Kl,by show 4<1000;decide,?_⟩;rw[fs5,ds7];have E:∀{b:U} {o:HO},H9 b=O o->b≠d->b≠x->upd (upd H9 d (.dK (zg m i c Q L N st))) x (.ins C k [("size",.int (j.length:Int)),("mother",.ref m),("father",.ref i),("wife",.ref c),("steps",.ref d)]) b=O o:=λ{b o} e n1 n2=>by
  rw[aJ n2,aJ n1];exact e
 have u:∀{b:U} {zs:Z Int},H9 b=O (.tup (zs.map V.int))->bZ (upd (upd H9 d (.dK (zg m i c Q L N st))) x (.ins C k [("size",.int (j.length:Int)),("mother",.ref m),("father",.ref i),("wife",.ref c),("steps",.ref d)])) b zs:=λ{b zs} e=>
  E e (λz=>by rw[z,t _ _ Nk] at e;cases e) (λz=>by rw[z,YJ] at e;cases e)
 refine q _ (λb o e n=>?_) ⟨k,d,m,i,c,Q,L,N,st,aW,by rw[aJ ke];exact aW,u (t _ _ (r _ _ Nj)),u (t _ _ (r _ _ YG)),u (t _ _ (r _ _ YH)),u (R _ _ (g8 _ _ (g7 _ _ Nl))),u (R _ _ (g8 _ _ Nm)),u (R _ _ hiw),u dA⟩;have e4:=D _ _ (g _ _ e) n;refine E (t _ _ (r _ _ e4)) (bU e4 nd) n
noncomputable abbrev C0:Z af:=["mother","wife"]
def Zdg:aQ C0 C0 (aI ID):=.a9
def Zdh(F:aP K "land_of" "land_of" ID f fd)(Q:HasFn P w K B I 2 "check_rows" ["rows"] (KU K))(N:HasFn P w K B I 3 "behind" pN (LW K))
  (KW:wF P w K B I 5 "Land" C CZ (Uh C)):aE P w K B I aO 7 f fd C0 (Rh C):=by
 refine F.o Zdg λs H p h=>?_;obtain⟨m,d,c,n,rfl,t,r,A,y,eq,J,G,q⟩:=h;refine⟨_,(aq (bY (aY Q p (aa (y9 (aa (pv 0) (aa (pv 1) ae))) ae))) (av (aK (Ll KW p (by decide) Y (aa (pv 0) (aa (aY N p (aa (pv 1) (aa (pv 0) ae))) (aa (pv 1) ae))))))),?_⟩;refine ie ?_;intros;refine⟨_,Y,_,Y,by show 2<=sizeLine;decide,λl R=>?_⟩;have v:=cE R (.lst [.ref m,.ref d]);refine⟨l,m,[d],c.length,Y,aj.of aW,J,G,λa i=>?_,λH2 g2=>?_⟩
 ·rcases Yp.mp i with rfl|i;·exact⟨c,aC.of (v _ _ t),Y,A⟩
  ·rw[Yi] at i;subst i;exact⟨n,aC.of (v _ _ r),eq.symm,y⟩
 have g:=v.trans g2;refine⟨_,Y,_,Y,_,Y,d,m,n,c,Y,aC.of (g _ _ r),aC.of (g _ _ t),QO,y,A,eq.symm,λfa D YK X cW=>?_⟩;have u:=g.trans X;refine⟨_,Y,λx k E Ap ne=>?_⟩;have Aq:upd D k (.own x) x=aG:=by rw[aJ (λz=>ne z.symm)];exact E
 have j:ah D (upd (upd D k (.own x)) x (.ins C k [])):=(cE Ap _).trans (cE Aq _);refine⟨x,k,m,fa,d,c,n,Y,aW,j _ _ (u _ _ t),j _ _ cW,j _ _ (u _ _ r),A,y,eq,J,G,λH5 W T=>⟨Y,q x H5 (λb o e=>?_) T⟩⟩;have L:=u _ _ e;exact W b o (j _ _ L) (bU L E)
abbrev Cj(a b:Z Int):Z (af×Z Int):=[("c",a),("k",bQ a b),("w",b),("m",inv a),("f",inv (bQ a b)),("h",inv b),("s",bK a.length)]
inductive Ri(C:U)(c:Z V)(H:Hp)(Q:VK):Prop
 |mk (L:U) (z:af) (b a d:Z Int) (i:c=[.ref L,.str z]) (h:jk H C L b a) (e:(z,d)∈Cj b a) (g:∀t:U,bZ H t d->Q (.ref t) H):Ri C c H Q
def Ui(C:U):Sp:=λa H Q _=>Ri C a H Q
def step_at{H:Hp}{a b ns:Z Int}{z:af}{m f w g d e c:U}(h:(z,ns)∈Cj a b)(p:bZ H m a)(o:bZ H f (bQ a b))(n:bZ H w b)(l:bZ H g (inv a))(k:bZ H d (inv (bQ a b)))(j:bZ H e (inv b))(i:bZ H c (bK a.length)):
  ∃t,aL (zg m f w g d e c) (.inr z)=O (.ref t)/\bZ H t ns:=by
 simp[Yp,Y1,gV] at h;rcases h with⟨rfl,rfl⟩|⟨rfl,rfl⟩|⟨rfl,rfl⟩|⟨rfl,rfl⟩|⟨rfl,rfl⟩|⟨rfl,rfl⟩|⟨rfl,rfl⟩;·exact⟨m,Y,p⟩
 ·exact⟨f,Y,o⟩
 ·exact⟨w,Y,n⟩
 ·exact⟨g,Y,l⟩
 ·exact⟨d,Y,k⟩
 ·exact⟨e,Y,j⟩
 ·exact⟨c,Y,i⟩
noncomputable abbrev C1:Z af:=["self","letter"]
def ZbB:aQ C1 C1 (aI GV):=.a9
def Zg8(F:aP K "step" "Land.step" GV f fd)(a:wH K C):aE P w K B I aO 1 f fd C1 (Ui C):=by
 refine F.o ZbB λs H b h=>?_;obtain⟨L,z,D,A,G,rfl,i,j,q⟩:=h;refine⟨_,(aq (aU (kq (nG (bw b) (pv 1) (pF K 0)) QU) gw bb) (av (aK (dy (bw b) (pF K 0) (pv 1) (λ_ _=>Y))))),?_⟩;obtain⟨e,d,m,R,E,Q,J,N,st,c,y,x,v,u,r,p,o,n⟩:=i;refine bh (step_at j x v u r p o n) λt k l=>?_;have g:=k▸fD.k y;exact⟨_,Y,_,Y,L,C,e,_,.ref d,Y,c,a.cls,a.Kl,Y,d,_,Y,g,_,Y,bV (aX ⟨_,Y,L,C,e,_,.ref d,Y,c,a.cls,a.Kl,Y,_,Y,d,_,Y,g,q t l⟩)⟩
structure JS where
 hd:Z Nat
 ld:Z (Z Int)
 mem:Z (Nat×Z Nat)
 fr:Z (Nat×Z Int)
structure JL where
 J:U
 ha:U
 la:U
 md:U
 fd:U
 fP:Z U
 gU:Z U
 cq:Z U
noncomputable def JL.fp(l:JL):Z U:=l.J::l.ha::l.la::l.md::l.fd::l.gU
noncomputable abbrev JF(n:Nat)(c b a fd:U):Z (af×V):=[("size",.int (n:Int)),("heads",.ref c),("leads",.ref b),("members",.ref a),("free",.ref fd)]
def jf5(a b c d e:V):cQ "free" e (cQ "members" d (cQ "leads" c (cQ "heads" b (cQ "size" a []))))=([("size",a),("heads",b),("leads",c),("members",d),("free",e)]:Z (af×V)):=rfl
noncomputable abbrev eC(a:Z Nat):Z V:=a.map λi:Nat=>V.int (i:Int)
noncomputable def bH(a:Z Nat)(b:Z U):Z (Key×V):=(a.zip b).map λp=>(.inl (p.1:Int),.ref p.2)
structure cS(H:Hp)(C:U)(n:Nat)(l:JL)(st:JS):Prop where
 obj:∃dx,H l.J=O (.ins C dx (JF n l.ha l.la l.md l.fd))
 heads:H l.ha=O (.lst (eC st.hd))
 jo:H l.la=O (.lst (l.fP.map V.ref))
 lead:Paired (λa xs=>H a=O (.tup (xs.map V.int))) l.fP st.ld
 ku:H l.md=O (.dK (bH (st.mem.map (·.1)) l.gU))
 mem:Paired (λa p=>H a=O (.lst (eC p.2))) l.gU st.mem
 frees:H l.fd=O (.dK (bH (st.fr.map (·.1)) l.cq))
 free:Paired (λa p=>H a=O (.lst (p.2.map V.int))) l.cq st.fr
 nd:l.fp.Nodup
 out:∀a∈l.cq,a∉l.fp
def cS.same{H b:Hp}{C:U}{n:Nat}{l:JL}{st:JS}(g:ah H b)(a:cS H C n l st):cS b C n l st:=
 ⟨let⟨c,h⟩:=a.obj;⟨c,g _ _ h⟩,g _ _ a.heads,g _ _ a.jo,_L.Paired.bN a.lead λ _ _=>g _ _,g _ _ a.ku,_L.Paired.bN a.mem λ _ _=>g _ _,g _ _ a.frees,_L.Paired.bN a.free λ _ _=>g _ _,a.nd,a.out⟩
theorem yB:∀{a:Z α} {b:Z β} {x:α},Paired F a b->x∈a->∃y,F x y:=by
 intro a b x p;induction p with
 |nil=>grind
 |cons f t c=>grind
def cS.ne{H:Hp}{C p:U}{n:Nat}{l:JL}{b:JS}(a:cS H C n l b)(h:H p=aG):p∉l.fp:=by
 intro z;unfold JL.fp at z;simp[Yp] at z;rcases z with rfl|rfl|rfl|rfl|rfl|z
 ·obtain⟨c,e⟩:=a.obj
  grind
 ·rw[a.heads] at h;cases h
 ·rw[a.jo] at h;cases h
 ·rw[a.ku] at h;cases h
 ·rw[a.frees] at h;cases h
 ·obtain⟨y,e⟩:=yB a.mem z
  grind
theorem ql{g:Type}{H:Hp}{f:g->HO}:∀{as:Z U} {c:Z (Nat×g)} {k:Nat} {v:g},Paired (λa p=>H a=O (f p.2)) as c->c.lookup k=O v->∃a,a∈as/\aL (bH (c.map (·.1)) as) (.inl (k:Int))=O (.ref a)/\H a=O (f v):=by
 intro as c k v j;induction j with
 |nil=>grind
 |@cons a p as c e t l=>
  intro h;have n:bH ((p::c).map (·.1)) (a::as)=(Sum.inl (p.1:Int),V.ref a)::bH (c.map (·.1)) as:=Y;rw[W8] at h;by_cases d:k=p.1
  ·have i:=beq_iff_eq.mpr d;rw[i] at h;exact⟨a,Ym,fU (by rw[d]),by rwa[←(Yo h)]⟩
  ·have i:=beq_eq_false_iff_ne.mpr d;rw[i] at h;refine cu (l h) λb m q w=>?_;refine⟨b,Yx _ m,?_,w⟩;rwa[n,fK (λz=>d (by have:=DZ z;exact nO (nF this)))]
def ZfH{q k:Nat}(z:((Sum.inl (q:Int):Key),v).1=.inl (k:Int)):k∈q::ks:=by
 grind
theorem Bu:∀{as:Z U} {b:Z Nat} {k:Nat},k∉b->aL (bH b as) (.inl (k:Int))=aG
 |[],b,k,_=>by unfold bH;rw[VU];rfl
 |a::as,[],k,_=>rfl
 |a::as,q::b,k,h=>by
  have c:bH (q::b) (a::as)=(Sum.inl (q:Int),V.ref a)::bH b as:=Y;rw[c,fK (λz=>h (ZfH z))];exact Bu λz=>h (Yx _ z)
theorem Bf:∀{c:Z Nat} {as:Z U} (k:Nat) (a:U),c.length=as.length->bH c as++[(.inl (k:Int),.ref a)]=bH (c++[k]) (as++[a])
 |[],[],_,_,_=>rfl
 |q::c,b::as,k,a,h=>by
  have d:bH (q::c) (b::as)=(Sum.inl (q:Int),V.ref b)::bH c as:=Y;rw[d,XU,(Bf k a (by simpa using h))];rfl
 |[],_::_,_,_,h=>by simp at h
 |_::_,[],_,_,h=>by simp at h
structure oV(K:ag)(C:U):Prop where
 cls:gT K C
 ua:dt K C "size"
 kU:dt K C "heads"
 oN:dt K C "leads"
 vZ:dt K C "members"
 ub:dt K C "free"
def JS.more(n:Nat)(a:JS):JS:=⟨a.hd++[a.hd.length],a.ld++[bK n],a.mem++[(a.hd.length,[a.hd.length])],a.fr++[(a.hd.length,bK n)]⟩
inductive Su(C:U)(c:Z V)(H:Hp)(Q:VK)(E:XK):Prop
 |mk (x d:U) (n:Nat) (h:c=[.ref x,.int (n:Int)]) (g:H x=O (.ins C d [])) (e:∀(l:JL) (a:Hp),l.J=x->l.gU=[]->(∀b∈l.fp,b≠x->H b=aG)->aB x H a->cS a C n l ⟨[],[],[],[]⟩->Q .aA a)
inductive HV(C:U)(c:Z V)(H:Hp)(Q:VK)(E:XK):Prop
 |mk (l:JL) (st:JS) (n i j a b:Nat) (k:c=[.ref l.J,.int (i:Int),.int (j:Int)]) (h:cS H C n l st) (e:st.hd[i]?=O a) (g:st.hd[j]?=O b) (d:Q (.bl (decide (a=b))) H)
inductive BE(C:U)(d:Z V)(H:Hp)(Q:VK)(E:XK):Prop
 |mk (l:JL) (st:JS) (n i h:Nat) (t a:Z Int) (r:d=[.ref l.J,.int (i:Int)]) (q:cS H C n l st) (m:st.hd[i]?=some h) (o:st.ld[i]?=some t) (k:st.fr.lookup h=some a) (j:(∀z∈a,0<=z/\z<t.length)) (g:a.length<64) (e:∀(p:U) (b:Z Int) (c:Hp),H p=none->ah H c->b.Perm (a.map λz=>t.getD z.toNat 0)->b.Pairwise (·<=·)->c p=O (.lst (b.map V.int))->Q (.ref p) c)
inductive Ls(C:U)(d:Z V)(H:Hp)(Q:VK)(E:XK):Prop
 |mk (l:JL) (st:JS) (n:Nat) (p:d=[.ref l.J]) (o:cS H C n l st) (k:n<=1000) (m:st.hd.length<1000) (j:st.mem.length<=st.hd.length) (i:st.fr.length<=st.hd.length) (h:st.ld.length=st.hd.length) (g:st.hd.length∉st.mem.map (·.1)) (e:st.hd.length∉st.fr.map (·.1)) (q:∀(a:JL) (c:Hp),a.J=l.J->Out l.fp H c->(∀b∈a.fp,b∈l.fp\/H b=aG)->cS c C n a (st.more n)->Q (.int (st.hd.length:Int)) c)
def qz{i h:Nat}(e:is[i]?=O h):dN (eC is) (i:Int)=O (.int (h:Int)):=dM (by rw[Yf,e];rfl)
noncomputable abbrev C2:Z af:=["self","size"]
def Zbd:aQ C2 C2 (aI Gm):=.a9
theorem ZfI(F:aP K "__init__" "Joins.__init__" Gm f fd)(c:oV K C)(bl:Bl B):aE P w K B I aO 1 f fd C2 (Su C):=by
 refine F.o Zbd λs H hr h=>?_;obtain⟨x,j,n,rfl,hx,q⟩:=h;refine⟨_,(aq (iI (K:=K) Y (pv 0) (pv 1)) (aq (iI (K:=K) Y (pv 0) (cO ae)) (aq (iI (K:=K) Y (pv 0) (cO ae)) (aq (iI (K:=K) Y (pv 0) rG) (av (iI (K:=K) Y (pv 0) rG)))))),?_⟩;refine zl5 ?_;intros;refine⟨_,Y,_,Y,x,C,j,[],Y,hx,c.cls,c.ua,by show 0<1000;decide,λH1 N h1=>?_⟩;refine⟨by show 0<=sizeLine;exact Yw _,λp H2 E G e2=>⟨_,Y,x,C,j,_,Y,G _ _ h1,c.cls,c.kU,by show 1<1000;decide,λH3 L h3=>?_⟩⟩;refine⟨by show 0<=sizeLine;exact Yw _,λla H4 m v e4=>⟨_,Y,x,C,j,_,Y,v _ _ h3,c.cls,c.oN,by show 2<1000;decide,λH5 A h5=>?_⟩⟩;refine λmd H6 i r e6=>⟨_,Y,x,C,j,_,Y,r _ _ h5,c.cls,c.vZ,by show 3<1000;decide,λH7 u h7=>?_⟩;refine λfe H8 g g8 e8=>⟨_,Y,x,C,j,_,Y,g8 _ _ h7,c.cls,c.ub,by show 4<1000;decide,λH9 b9 h9=>?_⟩;rw[jf5] at h9;have W:aB x H8 H9:=b9;have X:aB x H6 H9:=u.trans ((aB.of g8).trans W);have k4:aB x H4 H9:=A.trans ((aB.of r).trans X);have k2:aB x H2 H9:=L.trans ((aB.of v).trans k4);have k0:aB x H H9:=N.trans ((aB.of G).trans k2);have l:p≠x:=λz=>by rw[z,h1] at E;cases E
 have t:la≠x:=λz=>by rw[z,h3] at m;cases m
 have y:md≠x:=λz=>by rw[z,h5] at i;cases i
 have J:fe≠x:=λz=>by rw[z,h7] at g;cases g
 have i3:=L _ _ e2 l;have i5:=A _ _ (v _ _ i3) l;have i7:=u _ _ (r _ _ i5) l;have j5:=A _ _ e4 t;have j7:=u _ _ (r _ _ j5) t;have l7:=u _ _ e6 y;have a1:p≠la:=λz=>by rw[←z,i3] at m;cases m
 have a2:p≠md:=λz=>by rw[←z,i5] at i;cases i
 have a3:p≠fe:=λz=>by rw[←z,i7] at g;cases g
 have a4:la≠md:=λz=>by rw[←z,j5] at i;cases i
 have a5:la≠fe:=λz=>by rw[←z,j7] at g;cases g
 have a6:md≠fe:=λz=>by rw[←z,l7] at g;cases g
 have D:∀{b:U} {Q:Hp},aB x H Q->b≠x->Q b=aG->H b=aG:=λ{b Q} k d n=>by
  cases e:H b with
  |none=>rfl
  |some o=>rw[k b o e d] at n;cases n
 have T:aB x H H3:=N.trans ((aB.of G).trans L);have R:aB x H H5:=T.trans ((aB.of v).trans A);have t7:aB x H H7:=R.trans ((aB.of r).trans u);refine q ⟨x,p,la,md,fe,[],[],[]⟩ H9 Y Y (λb hb nb=>?_) k0 ⟨⟨j,h9⟩,k2 _ _ e2 l,k4 _ _ e4 t,.nil,X _ _ e6 y,.nil,W _ _ e8 J,.nil,?_,λa sV=>by cases sV⟩
 ·simp only[JL.fp,Yp,Y1,gV] at hb;rcases hb with rfl|rfl|rfl|rfl|rfl;·exact absurd Y nb
  ·exact D N l E
  ·exact D T t m
  ·exact D R y i
  ·exact D t7 J g
 ·simp only[JL.fp,Y3,Yp,Y1,gV,mh,Xg,W5,and_true];exact⟨⟨λz=>l z.symm,λz=>t z.symm,λz=>y z.symm,λz=>J z.symm⟩,⟨a1,a2,a3⟩,⟨a4,a5⟩,a6⟩
noncomputable abbrev sy:Z af:=["self","one","other"]
def Zak:aQ sy sy (aI Fb):=.a9
def Zcn(F:aP K "together" "Joins.together" Fb f fd)(c:oV K C)(v:Bl B):aE P w K B I aO 1 f fd sy (HV C):=by
 refine F.o Zak @λx A d t Q E s H u h=>?_;obtain⟨l,st,n,i,j,a,b,rfl,g,r,p,q⟩:=h;refine⟨_,(av (aK (fO b_ (bc (iL K) (pF K 0) (pv 1)) (bc (iL K) (pF K 0) (pv 2))))),?_⟩;obtain⟨m,k⟩:=g.obj;have o:Q (.bl (decide (V.int (a:Int)=V.int (b:Int)))) H:=by
  have e:decide (V.int (a:Int)=V.int (b:Int))=decide (a=b):=by
   rw[Wn,hU,hU];exact⟨λz=>by have:=V.int.inj z;exact nF this,λz=>by rw[z]⟩
  rwa[e]
 exact⟨_,Y,l.J,C,m,_,_,Y,k,c.cls,c.kU,Y,_,Y,l.ha,_,_,_,Y,Y,aj.of g.heads,qz r,_,Y,l.J,C,m,_,_,Y,k,c.cls,c.kU,Y,_,Y,l.ha,_,_,_,Y,Y,aj.of g.heads,qz p,Y,o⟩
def eR{H:Hp}(h:H a=O o)(e:H b=O c)(d:o≠c):a≠b:=λz=>by
 grind
def ZfJ(a:Z Nat)(k:Nat):eC (a++[k])=eC a++[.int (k:Int)]:=Yr
def tQ{H:Hp}(h:H a=O o)(c:H b=aG):b≠a:=λz=>by
 grind
theorem kj{b a:Type}{F:b->a->Prop}{x:b}{y:a}(f:F x y){d:Z b}{c:Z a}(h:Paired F d c):Paired F (d++[x]) (c++[y]):=by
 induction h with
 |nil=>exact .cons f .nil
 |cons r t e=>exact .cons r e
theorem v8{e d:Type}{F:e->d->Prop}:∀{c:Z e} {i:Z d},Paired F c i->Paired (λa b=>F a b/\a∈c) c i
 |_,_,.nil=>.nil
 |_,_,.cons g t=>.cons ⟨g,Ym⟩ (_L.Paired.bN (v8 t) λ_ _ h=>⟨h.1,Yx _ h.2⟩)
def qC(h:H a=O (.dK b))(e:aL b (.inl (k:Int))=o):fD H a (.int (k:Int)) o:=.inl ⟨b,.inl (k:Int),.inl h,Y,e.symm⟩
noncomputable abbrev zJ:Z af:=["self","one"]
def Oy:aQ ["self","one","lead"] zJ (aI Fm):=.a9
def Zdi(F:aP K "open_at" "Joins.open_at" Fm f fd)(b:oV K C)(bl:Bl B):aE P w K B I aO 2 f fd zJ (BE C):=by
 refine F.o Oy λs H W h=>?_;obtain⟨l,st,n,i,h,t,d,rfl,a,hi,T,hf,L,dJ,q⟩:=h;refine⟨_,(aq (f_ (i:=2) Oy.nd Y (mz Y) (bc (iL K) (pF K 0) (pv 1))) (av (aK (hJ (Zfh (K:=K) Y) Y bl.yM yG (aa (jj (x:="section") (fr:=[("lead",2)]) (cl:=[("lead",s.heap.objs.size+1)]) Y (.ir ⟨Y,trivial⟩ ⟨⟨Y,.inl Y,.inl Y,Y⟩,trivial⟩) (dY (K:=K) Y (dy (bw W) (pF K 0) (bc (iL K) (pF K 0) (pv 1)) (λ_ _=>Y))) (λ_ _ _ _=>nI) (λ_ _ _ _=>(bc (iT K) (pv 1) (pv 0)))) ae))))),?_⟩;refine ie ?_;intros;obtain⟨o,g⟩:=a.obj;refine cu (ql (f:=λv:Z Int=>HO.lst (v.map V.int)) a.free hf) λfa YL G A=>?_;obtain⟨c,m,Nn⟩:∃c,l.fP[i]?=O c/\H c=O (.tup (t.map V.int)):=by
  have X:=dk a.lead;have dU:i<l.fP.length:=by exact X▸(Yh.mp T).1
  obtain⟨y,ey,u⟩:=gY a.lead (Yb dU)
  grind
 have Np:dN (l.fP.map V.ref) (i:Int)=O (.ref c):=dM (by rw[Yf,m];rfl);refine bT ?_;refine⟨_,Y,l.J,C,o,_,_,Y,g,b.cls,b.oN,Y,_,Y,l.la,_,_,_,Y,Y,aj.of a.jo,Np,?_⟩;refine⟨_,Y,l.J,C,o,_,_,Y,g,b.cls,b.ub,Y,_,Y,l.J,C,o,_,_,Y,g,b.cls,b.kU,Y,_,Y,l.ha,_,_,_,Y,Y,aj.of a.heads,qz hi,l.fd,_,Y,qC a.frees G,fa,Y,⟨_,aj.of A⟩,λD hD=>Zc0 (aj.of A) (by rw[Ya];omega) hD (λv=>match v with|.int z=>.int (t.getD z.toNat 0)|_=>.aA) (λj v hj r e Kt k=>?_) λr e h1=>?_⟩
 ·obtain⟨z,rfl,R⟩:=mw hj;have E:=L z (Yj R);exact⟨_,Y,_,Y,c,_,_,_,Y,Y,aC.of (e _ _ Nn),oU E.1 E.2,k r (ah.refl _)⟩
 ·have u:r D=O (.lst ((d.map λz=>t.getD z.toNat 0).map V.int)):=by
   rw[h1,Y9,Y9];rfl
  exact⟨D,_,Y,.inl (aj.of u),by rwa[Ya],λcG N J p H2 Q g2 h2=>q p cG H2 (e.free Q) (e.trans g2) N J h2⟩
noncomputable abbrev jV:Z af:=["self"]
noncomputable abbrev zK:Z af:=["self","number"]
def OF:aQ zK jV (aI GW):=.a9
theorem Zi0(F:aP K "add" "Joins.add" GW f fd)(d:oV K C)(wo:HasFn P w K B I 1 "still" ["size"] Kk)(bl:Bl B):aE P w K B I aO 2 f fd jV (Ls C):=by
 refine F.o OF λs H hr h=>?_;obtain⟨l,st,n,rfl,c,hn,lh,lm,lf,ll,nm,nf,q⟩:=h;refine⟨_,(aq (bM 1 OF.nd (dF K bl (pF K 0))) (aq (bY (kW (K:=K) Y (iK l3 my mr l_ (pF K 0) (aa (pv 1) ae)))) (aq (bY (kW (K:=K) Y (iK l3 my mr l_ (pF K 0) (aa (aY wo hr (aa (pF K 0) ae)) ae)))) (aq (oI (bw hr) (pF K 0) (pv 1) (cO (aa (pv 1) ae))) (aq (oI (bw hr) (pF K 0) (pv 1) (fJ (ZaU Y) Y bl.t9 tV (aa (fJ Gh Y bl.jM wb (aa (pF K 0) ae)) ae))) (av (aK (pv 1)))))))),?_⟩;refine tI ?_;intros;have sz:(10000:Nat)<=sizeLine:=by rw[du];decide
 obtain⟨A,ho⟩:=c.obj;have hl:(eC st.hd).length=st.hd.length:=Ya _;have pl1:=dk c.lead;have Nq:=dk c.mem;have D1:=dk c.free;have W:=c.nd;simp only[JL.fp,Y3,Yp,mh] at W;refine iS W λlX jm lr js v1 v2=>?_;obtain ⟨x1,x2,x3,x4,x5⟩:=lX;obtain ⟨R,Q,y3,y4⟩:=jm;obtain ⟨z1,z2,z3⟩:=lr;obtain ⟨w1,w2⟩:=js;have dl:∀{ks:Z Nat} {as:Z U},(bH ks as).length<=as.length:=λ{ks as}=>by unfold bH;rw[Ya,Jp];exact X4 _ _
 refine bT ?_;refine⟨_,Y,l.J,C,A,_,_,Y,ho,d.cls,d.kU,Y,l.ha,_,Y,.inl (aj.of c.heads),?_⟩;rw[hl];refine⟨_,Y,l.J,C,A,_,_,Y,ho,d.cls,d.kU,Y,.inl ⟨Y,_,aj.of c.heads⟩,_,Y,l.ha,_,_,Y,Y,c.heads,by rw[hl];omega,λH1 v e1=>?_⟩;have o1:=v _ _ ho x1;have X:=v _ _ c.jo (λz=>R z.symm);refine⟨_,Y,l.J,C,A,_,_,Y,o1,d.cls,d.oN,Y,.inl ⟨Y,_,aj.of X⟩,_,Y,l.J,C,A,_,_,Y,o1,d.cls,d.ua,Y,n,Y,hn,λt H2 nt k ht=>?_⟩;refine⟨l.la,_,_,Y,Y,k _ _ X,by rw[Ya];omega,λH3 u e3=>?_⟩;have o3:=u _ _ (k _ _ o1) x2;have m3:=u _ _ (k _ _ (v _ _ c.ku (λz=>Q z.symm))) (λz=>z1 z.symm);refine⟨_,Y,by show 1<=sizeLine;decide,λm H4 J j em=>?_⟩;have o4:=j _ _ o3;refine⟨_,Y,l.J,C,A,_,_,Y,o4,d.cls,d.vZ,Y,_,Y,l.md,_,.inl (st.hd.length:Int),Y,j _ _ m3,Y,?_,λH5 g e5=>?_⟩
 ·have:=dl (ks:=st.mem.map (·.1)) (as:=l.gU);omega
 have T:=g _ _ o4 x3;refine⟨_,Y,l.J,C,A,_,_,Y,T,d.cls,d.ua,Y,(n:Int),Y,λr D nr x er=>⟨r,n,Y,er,hn,λfa H7 YK g7 ef=>?_⟩⟩;have D2:=x.trans g7;have f5:=g _ _ (j _ _ (u _ _ (k _ _ (v _ _ c.frees (λz=>y3 z.symm))) (λz=>z2 z.symm))) (λz=>w1 z.symm);refine⟨_,Y,l.J,C,A,_,_,Y,D2 _ _ T,d.cls,d.ub,Y,_,Y,l.fd,_,.inl (st.hd.length:Int),Y,D2 _ _ f5,Y,?_,λi b8 e8=>?_⟩
 ·have:=dl (ks:=st.fr.map (·.1)) (as:=l.cq);omega
 have keep:∀b o,H b=O o->b≠l.ha->b≠l.la->b≠l.md->b≠l.fd->i b=O o:=λb o e n1 n2 n3 n4=>b8 _ _ (D2 _ _ (g _ _ (j _ _ (u _ _ (k _ _ (v _ _ e n1)) n2)) n3)) n4;rw[ko _ (Bu nm),Bf _ _ (by rw[Ya];exact nO Nq)] at e5;rw[ko _ (Bu nf),Bf _ _ (by rw[Ya];exact nO D1)] at e8;have Nr:H m=aG:=by
  cases e:H m with
  |none=>rfl
  |some o=>
   have hm1:m≠l.ha:=λz=>by rw[z,u _ _ (k _ _ e1) R] at J;cases J
   have hm2:m≠l.la:=λz=>by rw[z,e3] at J;cases J
   rw[u _ _ (k _ _ (v _ _ e hm1)) hm2] at J;cases J
 have en:=c.ne Nr;have Nt:fa∉l.fp/\fa≠m:=by
  have G:D fa=aG:=YK;have h5:∀b o,H b=O o->b≠l.ha->b≠l.la->b≠l.md->D b=O o:=λb o e n1 n2 n3=>x _ _ (g _ _ (j _ _ (u _ _ (k _ _ (v _ _ e n1)) n2)) n3);have f1:D l.ha=O _:=x _ _ (g _ _ (j _ _ (u _ _ (k _ _ e1) R)) Q);have f2:D l.la=O _:=x _ _ (g _ _ (j _ _ e3) z1);have f3:D l.md=O _:=x _ _ e5;have f4:D m=O _:=x _ _ (g _ _ em (λz=>en (by rw[z];simp[JL.fp])));have f5':D l.fd=O _:=x _ _ f5;have f6:D l.J=O _:=x _ _ T;refine⟨λz=>?_,tQ f4 G⟩;simp only[JL.fp,Yp] at z;rcases z with z|z|z|z|z|z;·exact tQ f6 G z
  ·exact tQ f1 G z
  ·exact tQ f2 G z
  ·exact tQ f3 G z
  ·exact tQ f5' G z
  ·obtain⟨y,ey⟩:=yB c.mem z;refine tQ (h5 _ _ ey ?_ ?_ ?_) G Y;·exact λq=>y4 (by rw[←q];exact z)
   ·exact λq=>z3 (by rw[←q];exact z)
   ·exact λq=>w2 (by rw[←q];exact z)
 have kt:∀a∈l.fP,∀E:Z Int,H a=O (.tup (E.map V.int))->i a=O (.tup (E.map V.int)):=λa _ E e=>keep a _ e (eR e c.heads (λz=>by cases z)) (eR e c.jo (λz=>by cases z)) (eR e c.ku (λz=>by cases z)) (eR e c.frees (λz=>by cases z));have L:∀b o,H5 b=O o->b≠l.fd->i b=O o:=λb o e n=>b8 _ _ (D2 _ _ e) n;have nmd:m≠l.md:=λz=>en (by rw[z];simp[JL.fp]);have nmf:m≠l.fd:=λz=>en (by rw[z];simp[JL.fp]);have ntf:t≠l.fd:=λz=>by
  have:=v _ _ c.frees (λz=>y3 z.symm);rw[←z,nt] at this;cases this
 have Nu:t≠l.la:=λz=>by rw[←z,nt] at X;cases X
 have YM:t≠l.md:=λz=>by
  have:=v _ _ c.ku (λz=>Q z.symm);rw[←z,nt] at this;cases this
 refine⟨_,Y,q ⟨l.J,l.ha,l.la,l.md,l.fd,l.fP++[t],l.gU++[m],l.cq++[fa]⟩ i Y (λb o e N=>?_) (λb hb=>?_) ⟨⟨A,L _ _ T x4⟩,?_,?_,?_,?_,?_,?_,?_,?_,?_⟩⟩
 ·simp only[JL.fp,Yp,mh] at N;exact keep b o e N.2.1 N.2.2.1 N.2.2.2.1 N.2.2.2.2.1
 ·simp only[JL.fp,Yp,Yq,Y1,gV] at hb⊢;rcases hb with h|h|h|h|h|h|h;·exact .inl (.inl h)
  ·exact .inl (.inr (.inl h))
  ·exact .inl (.inr (.inr (.inl h)))
  ·exact .inl (.inr (.inr (.inr (.inl h))))
  ·exact .inl (.inr (.inr (.inr (.inr (.inl h)))))
  ·exact .inl (.inr (.inr (.inr (.inr (.inr h)))))
  ·rw[h];exact .inr Nr
 ·show i l.ha=O (.lst (eC (st.hd++[st.hd.length])));rw[L _ _ (g _ _ (j _ _ (u _ _ (k _ _ e1) R)) Q) y3,ZfJ]
 ·show i l.la=O (.lst ((l.fP++[t]).map V.ref));rw[L _ _ (g _ _ (j _ _ e3) z1) z2,Yr];rfl
 ·exact kj (F:=λa (E:Z Int)=>i a=O (.tup (E.map V.int))) (L _ _ (g _ _ (j _ _ (u _ _ ht Nu)) YM) ntf) (_L.Paired.bN (v8 c.lead) λa E h=>kt a h.2 E h.1)
 ·show i l.md=O (.dK (bH ((st.mem++[(st.hd.length,[st.hd.length])]).map (·.1)) (l.gU++[m])));rw[L _ _ e5 w1,Yr];rfl
 ·refine kj (F:=λa (p:Nat×Z Nat)=>i a=O (.lst (eC p.2))) (L _ _ (g _ _ em nmd) nmf) (_L.Paired.bN (v8 c.mem) λa p h=>keep a _ h.1 ?_ ?_ ?_ ?_);·exact λz=>y4 (by rw[←z];exact h.2)
  ·exact λz=>z3 (by rw[←z];exact h.2)
  ·exact λz=>w2 (by rw[←z];exact h.2)
  ·exact λz=>v1 (by rw[←z];exact h.2)
 ·show i l.fd=O (.dK (bH ((st.fr++[(st.hd.length,bK n)]).map (·.1)) (l.cq++[fa])));rw[e8,Yr];rfl
 ·have nfd:fa≠l.fd:=λz=>Nt.1 (by rw[z];simp[JL.fp]);refine kj (F:=λa (p:Nat×Z Int)=>i a=O (.lst (p.2.map V.int))) (b8 _ _ ef nfd) (_L.Paired.bN (v8 c.free) λa p h=>?_);have no:=c.out a h.2;simp only[JL.fp,Yp,mh] at no;exact keep a _ h.1 no.2.1 no.2.2.1 no.2.2.2.1 no.2.2.2.2.1
 ·have W:=c.nd;have e0:JL.fp ⟨l.J,l.ha,l.la,l.md,l.fd,l.fP++[t],l.gU++[m],l.cq++[fa]⟩=l.fp++[m]:=Y;rw[e0,Wz];refine⟨W,QS,λa ha b hb=>?_⟩;have eb:b=m:=by simpa using hb
  intro z;rw[z,eb] at ha;exact en ha
 ·intro a ha;have e0:JL.fp ⟨l.J,l.ha,l.la,l.md,l.fd,l.fP++[t],l.gU++[m],l.cq++[fa]⟩=l.fp++[m]:=Y;rw[e0,Yq];have sV:a∈l.cq++[fa]:=ha;rcases Yq.mp sV with h|h
  ·rintro(z|z);·exact c.out a h z
   ·have e:a=m:=by simpa using z
    obtain⟨y,ey⟩:=yB c.free h;rw[e,Nr] at ey;cases ey
  ·have e:a=fa:=by simpa using h
   rw[e];rintro(z|z);·exact Nt.1 z
   ·exact Nt.2 (by simpa using z)
def Zdj{K:ag}{a:U}{ns:Z Int}{t:TT}{u:TE}{r:St}{D:U}{H:Hp}{Q:VK}(N:aj K H a (ns.map V.int))(T:ns.length<=1000)(x:H D=aG)(p:Int->cF)(g:Int->V)
  (k:∀z∈ns,∀d,ah H d->∀(E:VK) (F:Hp->Prop),(p z=ar->∀h,ah d h->E (g z) h)->(p z=a_->∀h,ah d h->F h)->t (O (.int z)::r) d λc G=>if c=ar then u (O (.int z)::r) G E else F G)
  (R:∀s,ah H s->s D=O (.lst ((ns.filter p).map g))->Q (.ref D) s):jQ (kF K a) t u r D H Q:=by
 refine Iw (λi j d=>i<=ns.length/\ah H d/\d D=O (.lst j)/\j=((ns.take i).filter p).map g) ⟨Yw _,cE x _,aW,Y⟩ (λi j d _ ⟨_,m,_,_⟩=>m.seq N) ?_ ?_
 ·intro i v j d P X;refine d7 X λ_ m y e=>?_;refine bh (mw P) λz W n=>?_;subst W;have A:=(Yh.mp n).1;have J:j.length<sizeLine:=by
   have:=Wj p (ns.take i);rw[Wd] at this;rw[e,Ya,du];omega
  refine k z (Yj n) d m _ _ (λL h l=>⟨l _ _ y,J,A,λb o q=>?_,aW,?_⟩) (λL h l=>⟨A,m.trans l,l _ _ y,?_⟩)
  ·rw[aJ (bU q x)];exact l _ _ (m _ _ q)
  ·rw[e,Yz,n,Ws,Yr]
   grind
  ·rw[e,Yz,n,Ws,Yr]
   grind
 ·grind
theorem BW(x:Int):∀a:Z Int,eW (.int x) (a.map V.int)=decide (x∈a)
 |[]=>rfl
 |s::a=>by
  have b:=BW x a;unfold eW at b⊢;rw[Wv,J0,b];show((s==x)||decide (x∈a))=_
  grind
def JH(a:Z Int):(a.map V.int).all jP=ar:=by
 rw[M5,Wm];intro p _;rfl
noncomputable def jW(a:Z Nat)(b:Z U)(h:Nat)(c:U):Z U:=(a.zip b).map λp=>if p.1=h then c else p.2
theorem Qe(h:Nat)(a':U):∀{b:Z Nat} {as:Z U},b.length=as.length->(bH b as).map (λc=>if c.1=(.inl (h:Int):Key) then(c.1,V.ref a') else c)=bH b (jW b as h a')
 |[],[],_=>rfl
 |k::b,a::as,e=>by
  have d:=Qe h a' (by simpa using e);have j:bH (k::b) (a::as)=(Sum.inl (k:Int),V.ref a)::bH b as:=Y;have i:jW (k::b) (a::as) h a'=(if k=h then a' else a)::jW b as h a':=Y;have g:bH (k::b) ((if k=h then a' else a)::jW b as h a')=(Sum.inl (k:Int),V.ref (if k=h then a' else a))::bH b (jW b as h a'):=Y
  grind
 |[],_::_,e=>rfl
 |_::_,[],e=>rfl
def ZfK{h:Nat}(e:b.length=as.length)(d:aL (bH b as) (.inl (h:Int))=O (.ref a)):putK (bH b as) (.inl (h:Int)) (.ref c)=bH b (jW b as h c):=by
 unfold putK;rw[bR (by rw[wc,d];rfl)];exact Qe h c e
noncomputable def fE{a:Type}(h:Nat)(v:a)(b:Z (Nat×a)):Z (Nat×a):=b.map λp=>if p.1=h then(p.1,v) else p
theorem tT{b:Type}(h:Nat)(v:b):∀a:Z (Nat×b),(fE h v a).map (·.1)=a.map (·.1)
 |[]=>rfl
 |p::a=>by
  have c:=tT h v a;show(if p.1=h then(p.1,v) else p).1::(fE h v a).map (·.1)=_
  grind
theorem Zdk{v:α}(g:∀k,G m (k,v)):∀{d:Z U} {c:Z (Nat×α)},Paired F d c->(∀a p,F a p->a∈d->G a p)->Paired G (jW (c.map (·.1)) d h m) (fE h v c):=by
 intro d c e;induction e with
 |nil=>intro _;exact .nil
 |@cons a p d c f t i=>
  intro k;refine .cons ?_ (i λb q l j=>k b q l (Yx _ j))
  grind
theorem Rj{h:Nat}{e b:U}:∀{d:Z Nat} {c:Z U},b∈jW d c h e->b=e\/b∈c
 |[],_,m=>by unfold jW at m;simp at m
 |_::_,[],m=>by unfold jW at m;simp at m
 |k::d,a::c,m=>by
  rcases Yp.mp m with z|z;·grind
  ·rcases Rj z with w|w;·exact .inl w
   ·grind
def JS.mH(a:JS)(h:Nat)(v:Z Int):JS:={a with fr:=fE h v a.fr}
structure uB(st:JS)(i h:Nat)(t hT:Z Int):Prop where
 hd:st.hd[i]?=O h
 ld:st.ld[i]?=O t
 fr:st.fr.lookup h=O hT
 dO:∀z∈hT,0<=z/\z<t.length
 jz:hT.length<64
 dist:(hT.map λz=>t.getD z.toNat 0).Nodup
inductive JI(K:ag)(C:U)(g:Z V)(H:Hp)(Q:VK)(E:XK):Prop
 |mk (l:JL) (st:JS) (n i h:Nat) (t a d:Z Int) (e:U) (q:g=[.ref l.J,.int (i:Int),.ref e]) (p:cS H C n l st) (m:uB st i h t a) (o:st.fr.length<1000) (k:aj K H e (d.map V.int)) (j:∀(b:JL) (c:Hp),b.J=l.J->b.fp=l.fp->Out l.fp H c->cS c C n b (st.mH h (a.filter λz=>decide (t.getD z.toNat 0∈d)))->Q .aA c)
noncomputable abbrev C3:Z af:=["self","one","sections"]
def Fu:aQ ["self","one","sections","lead","head"] C3 (aI FH):=.a9
def Zen(F:aP K "narrow" "Joins.narrow" FH f fd)(g:oV K C)(bl:Bl B):aE P w K B I aO 2 f fd C3 (JI K C):=by
 refine F.o Fu λs H hr h=>?_;obtain⟨l,st,n,i,h,t,r,E,sl,rfl,d,one,lf,J,q⟩:=h;refine⟨_,(aq (f_ (i:=3) Fu.nd Y (mz Y) (bc (iL K) (pF K 0) (pv 1))) (aq (bM 4 Fu.nd (bc (iL K) (pF K 0) (pv 1))) (av (oI (bw hr) (pF K 0) (pv 4) (jj (x:="section") (fr:=[("sections",2),("lead",3)]) (cl:=[("sections",s.heap.objs.size+1),("lead",s.heap.objs.size+1+1)]) Y (.ir ⟨Y,⟨Y,trivial⟩⟩ ⟨⟨Y,.inl Y,.inl Y,Y⟩,⟨⟨Y,.inl Y,.inl Y,Y⟩,trivial⟩⟩) (dY (K:=K) Y (dy (bw hr) (pF K 0) (pv 4) (λ_ _=>Y))) (λ_ _ _ _=>wj (fV (kH (K:=K) Y) (bc (iT K) (pv 2) (pv 0)) (pv 1) QU)) (λ_ _ _ _=>(pv 0))))))),?_⟩;refine me ?_;intros;have sz:(10000:Nat)<=sizeLine:=by rw[du];decide
 obtain⟨A,u⟩:=d.obj;refine cu (ql (f:=λv:Z Int=>HO.lst (v.map V.int)) d.free one.fr) λfa YL W cW=>?_;obtain⟨m,L,Nn⟩:∃m,l.fP[i]?=O m/\H m=O (.tup (t.map V.int)):=by
  have hl:=dk d.lead;have dU:i<l.fP.length:=by rw[hl];exact(Yh.mp one.ld).1
  obtain⟨y,ey,hy⟩:=gY d.lead (Yb dU);rw[one.ld] at ey;cases ey;exact⟨_,Yb dU,hy⟩
 have Np:dN (l.fP.map V.ref) (i:Int)=O (.ref m):=dM (by rw[Yf,L];rfl);have D1:=dk d.free;refine bT ?_;refine⟨_,Y,l.J,C,A,_,_,Y,u,g.cls,g.oN,Y,_,Y,l.la,_,_,_,Y,Y,aj.of d.jo,Np,?_⟩;refine bT ?_;refine⟨_,Y,l.J,C,A,_,_,Y,u,g.cls,g.kU,Y,_,Y,l.ha,_,_,_,Y,Y,aj.of d.heads,qz one.hd,?_⟩;refine⟨_,Y,l.J,C,A,_,_,Y,u,g.cls,g.ub,Y,_,Y,l.fd,_,Y,qC d.frees W,fa,Y,⟨_,aj.of cW⟩,λD hD=>Zdj (ns:=r) (aj.of cW) (by have:=one.jz;omega) hD (λz=>decide (t.getD z.toNat 0∈E)) V.int (λz hz R j Kt Kf kt kf=>?_) λR j h1=>?_⟩
 ·have bz:=one.dO z hz;refine⟨_,Y,_,Y,m,_,_,_,Y,Y,aC.of (j _ _ Nn),oU bz.1 bz.2,_,Y,sl,_,Y,.inl (j.seq J),Y,JH E,_,Y,?_⟩;rw[bt Yn,BW];refine bC (λc=>?_) (λc=>?_);·exact⟨_,Y,kt c R (ah.refl _)⟩
  ·exact kf (by cases e:decide (t.getD z.toNat 0∈E) with|true=>exact absurd e c|false=>rfl) R (ah.refl _)
 ·refine⟨_,Y,l.J,C,A,_,_,Y,j _ _ u,g.cls,g.ub,Y,_,Y,l.fd,_,.inl (h:Int),Y,j _ _ d.frees,Y,?_,λQ N e2=>?_⟩
  ·unfold bH;rw[Ya,Jp,Ya];omega
  rw[ZfK (by rw[Ya];exact D1.symm) W] at e2;have X:=d.nd;have T:l.fd∈l.fp:=by simp[JL.fp]
  simp only[JL.fp,Y3,Yp,mh] at X;obtain⟨⟨x1,x2,x3,x4,x5⟩,⟨y1,y2,y3,y4⟩,⟨z1,z2,z3⟩,⟨w1,w2⟩,v1,v2⟩:=X;have keep:∀b o,H b=O o->b≠l.fd->Q b=O o:=λb o e nb=>N _ _ (j _ _ e) nb;have nD:D∉l.fp:=d.ne hD;have G:D≠l.fd:=λz=>nD (by rw[z];exact T);refine q ⟨l.J,l.ha,l.la,l.md,l.fd,l.fP,l.gU,jW (st.fr.map (·.1)) l.cq h D⟩ Q Y Y ((Out.of j).trans (Out.bar N T)) ⟨⟨A,keep _ _ u x4⟩,keep _ _ d.heads y3,keep _ _ d.jo z2,_L.Paired.bN d.lead λa xs e=>keep a _ e (eR e d.frees (λz=>by cases z)),keep _ _ d.ku w1,_L.Paired.bN (v8 d.mem) λa p e=>keep a _ e.1 (λz=>v1 (by rw[←z];exact e.2)),?_,?_,d.nd,λa ha=>?_⟩
  ·show Q l.fd=O (.dK (bH ((fE h _ st.fr).map (·.1)) _));rw[tT];exact e2
  ·exact Zdk (λk=>N _ _ h1 G) d.free λa p e ma=>keep a _ e (λz=>d.out a ma (by rw[z];exact T))
  ·rcases Rj ha with rfl|z;·exact nD
   ·exact d.out a z
inductive Vj(C:U)(e:Z V)(H:Hp)(Q:VK)(E:XK):Prop
 |mk (l:JL) (st:JS) (n i h:Nat) (t b:Z Int) (a:Int) (p:e=[.ref l.J,.int (i:Int),.int a]) (o:cS H C n l st) (k:uB st i h t b) (m:st.fr.length<1000) (j:(a∈b.map (λz=>t.getD z.toNat 0)->∀(d:JL) (c:Hp),d.J=l.J->d.fp=l.fp->Out l.fp H c->cS c C n d (st.mH h (b.filter λz=>decide (t.getD z.toNat 0∈[a])))->Q (.bl ar) c)) (g:(a∉b.map (λz=>t.getD z.toNat 0)->∀c,ah H c->Q (.bl a_) c))
noncomputable abbrev C4:Z af:=["self","one","section"]
def ZbC:aQ C4 C4 (aI GY):=.a9
def Zi1(F:aP K "say" "Joins.say" GY f fd)(y:cJ P w K B I 2 "open_at" C zJ (BE C))(q:cJ P w K B I 2 "narrow" C C3 (JI K C))(bl:Bl B):aE P w K B I aO 3 f fd C4 (Vj C):=by
 refine F.o ZbC λs H j h=>?_;obtain⟨l,st,n,i,h,t,b,a,rfl,e,one,D,x,v⟩:=h;refine⟨_,(aq (aU (fV (KJ Y) (pv 2) (df y j (by decide) (pv 0) (aa (pv 1) ae)) QU) (av (aK gH)) bb) (aq (bY (df q j (by decide) (pv 0) (aa (pv 1) (aa (cO (aa (pv 2) ae)) ae)))) (av (aK gH)))),?_⟩;refine me ?_;intros;refine hH e.obj λo k=>?_;refine⟨_,Y,_,Y,l.J,o,_,Y,k,Y,_,Y,l,st,n,i,h,t,b,Y,e,one.hd,one.ld,one.fr,one.dO,one.jz,λp ns T X d g W N=>⟨p,_,Y,.inl (aj.of N),Y,JH ns,_,Y,?_⟩⟩;rw[bR Y,BW];refine bC (λc=>?_) (λc=>aX ?_)
 ·refine v (λz=>?_) T d;rw[d6 (g.symm.subset z)] at c;cases c
 ·have u:a∈ns:=by
   by_cases z:a∈ns;·exact z
   ·rw[ij z] at c;exact absurd Y c
  refine⟨_,Y,l.J,o,_,Y,d _ _ k,Y,_,Y,_,Y,by show 1<=sizeLine;rw[du];decide,λr H2 n2 m Q=>?_⟩;exact⟨l,st,n,i,h,t,b,[a],r,Y,(e.same d).same m,one,D,aj.of Q,λE R J G A L=>x (g.subset u) E R J G ((Out.of (d.trans m)).trans A) L⟩
noncomputable def eM(a:Z Nat)(b:Z U)(h:Nat):Z U:=((a.zip b).filter λp=>decide (p.1≠h)).map (·.2)
noncomputable def di{a:Type}(h:Nat)(b:Z (Nat×a)):Z (Nat×a):=b.filter λp=>decide (p.1≠h)
theorem Bg(h:Nat):∀{b:Z Nat} {as:Z U},b.length=as.length->iN (bH b as) (.inl (h:Int))=bH (b.filter λk=>decide (k≠h)) (eM b as h)
 |[],[],_=>rfl
 |k::b,a::as,e=>by
  have c:=Bg h (by simpa using e);have i:bH (k::b) (a::as)=(Sum.inl (k:Int),V.ref a)::bH b as:=Y;unfold iN at c⊢;rw[i,W9,W9];have g:eM (k::b) (a::as) h=(if decide (k≠h)=ar then(a::eM b as h) else eM b as h):=by
   unfold eM;rw[YN,W9];split<;>rfl
  rw[g,c];by_cases z:k=h;·grind
  ·have d:¬((Sum.inl (k:Int):Key)=.inl (h:Int)):=λw=>z (by have:=DZ w;exact nF this);rw[bR (by simp[d]),bR (by simp[z]),bR (by simp[z])];rfl
 |[],_::_,e=>rfl
 |_::_,[],e=>by simp at e
theorem qr{b:Type}(h:Nat):∀a:Z (Nat×b),(di h a).map (·.1)=(a.map (·.1)).filter λk=>decide (k≠h)
 |[]=>rfl
 |p::a=>by
  have c:=qr h a;unfold di at c⊢
  grind
theorem HW:∀{d:Z U} {c:Z (Nat×α)},Paired F d c->(∀a p,F a p->a∈d->p.1≠h->G a p)->Paired G (eM (c.map (·.1)) d h) (di h c):=by
 intro d c e;induction e with
 |nil=>intro _;exact .nil
 |@cons a p d c f t i=>
  intro k;have n:eM ((p::c).map (·.1)) (a::d) h=(if decide (p.1≠h)=ar then(a::eM (c.map (·.1)) d h) else eM (c.map (·.1)) d h):=by
   unfold eM;rw[Wv,YN,W9];split<;>rfl
  have m:di h (p::c)=(if decide (p.1≠h)=ar then(p::di h c) else di h c):=by
   unfold di
   grind
  rw[n,m];by_cases z:p.1=h;·grind
  ·rw[bR (by simp[z]),bR (by simp[z])];exact .cons (k a p f Ym z) (i λb q l j g=>k b q l (Yx _ j) g)
theorem BG{h:Nat}:∀{ks:Z Nat} {as:Z U},(eM ks as h).Sublist as
 |[],as=>by
  unfold eM;simp_all
 |_::_,[]=>by
  unfold eM;simp_all
 |k::ks,a::as=>by
  have b:=BG (h:=h) (ks:=ks) (as:=as);have c:eM (k::ks) (a::as) h=(if decide (k≠h)=ar then(a::eM ks as h) else eM ks as h):=by
   unfold eM;rw[YN,W9];split<;>rfl
  grind
theorem vU{a:Type}{h k:Nat}(b:k≠h):∀{ps:Z (Nat×a)},(di h ps).lookup k=ps.lookup k
 |[]=>rfl
 |p::ps=>by
  have c:=vU b (ps:=ps);have d:di h (p::ps)=(if decide (p.1≠h)=ar then(p::di h ps) else di h ps):=by
   unfold di
   grind
  grind
theorem Zdl{i:Type}{F G:U->Nat×i->Prop}{h:Nat}{m:U}{v:i}(j:∀k,G m (k,v)):∀{as:Z U} {ps:Z (Nat×i)},Paired F as ps->as.Nodup->(ps.map (·.1)).Nodup->aL (bH (ps.map (·.1)) as) (.inl (h:Int))=O (.ref m)->(∀a p,F a p->a∈as->a≠m->G a p)->Paired G as (fE h v ps):=by
 intro as ps s;induction s with
 |nil=>intro _ _ e _;cases e
 |@cons a p as ps f t o=>
  intro d l e k;have g:bH ((p::ps).map (·.1)) (a::as)=(Sum.inl (p.1:Int),V.ref a)::bH (ps.map (·.1)) as:=Y;have H:fE h v (p::ps)=(if p.1=h then(p.1,v) else p)::fE h v ps:=Y;rw[Y3] at d;rw[Wv,Y3] at l;rw[H];by_cases z:p.1=h
  ·rw[g,fU (by rw[z])] at e;have r:=V.ref.inj (Yo e);have same:fE h v ps=ps:=by
    unfold fE;refine(Wq λq A=>?_).trans (List.map_id _);rw[bt λw=>l.1 (by rw[z,←w];exact Yk.mpr ⟨q,A,Y⟩)];rfl
   rw[bR z,same,r];refine .cons (j p.1) (_L.Paired.bN (v8 t) λb q c=>k b q c.1 (Yx _ c.2) λw=>d.1 (by rw[r,←w];exact c.2))
  ·rw[g,fK (p:=((Sum.inl (p.1:Int):Key),V.ref a)) (λw=>z (by have:=DZ w;exact nF this))] at e;rw[bt z];have J:a≠m:=λw=>by
    have:∀{n:Z Nat} {bs:Z U},aL (bH n bs) (.inl (h:Int))=O (.ref m)->m∈bs:=λ{n}=>by
     induction n with
     |nil=>intro bs q;unfold bH at q;rw[List.zip_nil_left] at q;cases q
     |cons x xs o=>
      intro bs q;cases bs with
      |nil=>unfold bH at q;rw[VU] at q;cases q
      |cons b bs=>
       have g:bH (x::xs) (b::bs)=(Sum.inl (x:Int),V.ref b)::bH xs bs:=Y;rw[g] at q;by_cases y:x=h
       ·rw[fU (by rw[y])] at q;have E:=V.ref.inj (Yo q);rw[E];exact Ym
       ·rw[fK (λw=>y (by have:=DZ w;exact nF this))] at q;exact Yx _ (o q)
    exact d.1 (by exact w▸this e)
   exact .cons (k a p f Ym J) (o d.2 l.2 e λb q D c u=>k b q D (Yx _ c) u)
def rb(b:Z Int)(a:Z (Z Int))(i:Nat):Z (Z Int):=a.set i (bQ (a.getD i []) b)
def jN(b a:Z Int):(bQ b a).length=a.length:=by unfold bQ;rw[Ya]
def Zi2(j:∀x∈xs,0<=x/\x<n)(d:∀y∈a,0<=y/\y<xs.length):∀z∈bQ xs a,0<=z/\z<n:=λz c=>by
 obtain⟨y,b,rfl⟩:=Yk.mp c;obtain⟨i,h⟩:=d y b;have g:y.toNat<xs.length:=QO
 have e:xs.getD y.toNat 0=xs[y.toNat]:=by rw[Yd,Yb g];rfl
 simp_all
noncomputable def kX(d:Nat)(b:Z Nat)(c:Z Nat):Z Nat:=b.foldl (λa i=>a.set i d) c
def iO(c:Z Int)(a:Z Nat)(b:Z (Z Int)):Z (Z Int):=a.foldl (rb c) b
def JS.mv(a:JS)(d c:Nat)(e b:Z Nat)(g:Z Int):JS:=⟨kX d b a.hd,iO g b a.ld,fE d (e++b) (di c a.mem),di c a.fr⟩
inductive Uj(C:U)(r:Z V)(H:Hp)(Q:VK)(E:XK):Prop
 |mk (l:JL) (st:JS) (n a b d h:Nat) (q p e s:Z Int) (o:U) (g j:Z Nat) (X:r=[.ref l.J,.int (a:Int),.int (b:Int),.ref o]) (W:cS H C n l st) (R:H o=O (.tup (e.map V.int))) (T:n<=8) (P:e.length=n) (N:full e=ar) (L:st.hd[a]?=O d) (J:st.hd[b]?=O h) (G:st.ld[a]?=O q) (DV:st.ld[b]?=O p) (LX:(∀t∈st.ld,full t=ar/\t.length=n)) (V8:st.ld.length=st.hd.length) (F:st.mem.lookup d=O g) (D:st.mem.lookup h=O j) (A:st.fr.lookup d=O s) (z:d≠h) (y:(∀i∈g,i<st.hd.length)) (x:g.length+j.length<=1000) (v:(st.mem.map (·.1)).Nodup) (u:∀(k:JL) (m:Hp),k.J=l.J->(∀c∈k.fp,c∈l.fp)->Out l.fp H m->cS m C n k (st.mv h d j g (bQ (inv q) (bQ e p)))->Q .aA m)
theorem yo{b e:Type}{g:Z b->e->Z b}(h:∀a i,(g a i).length=a.length):∀(d:Z e) (c:Z b),(d.foldl g c).length=c.length
 |[],_=>rfl
 |i::d,c=>by
  rw[List.foldl_cons,yo h d,h]
def Pk{a:Z β}(h:a[j]?=O i)(b:Z α):(a.take (j+1)).foldl g b=g ((a.take j).foldl g b) i:=by
 rw[Yz,h,List.foldl_append];rfl
def Zg9(a:Z Nat)(i k:Nat):(eC a).set i (.int (k:Int))=eC (a.set i k):=by
 simp_all
theorem Pl{b a:Type}{F:b->a->Prop}{x:b}{y:a}(f:F x y):∀{d:Z b} {c:Z a} (i:Nat),Paired F d c->Paired F (d.set i x) (c.set i y)
 |_,_,_,.nil=>.nil
 |_,_,0,.cons _ t=>.cons f t
 |_,_,i+1,.cons g t=>.cons g (Pl f i t)
def rJ(g:full xs=ar)(d:full a=ar)(e:xs.length=a.length):full (bQ xs a)=ar:=by
 have c:(bQ xs a).Perm ((bK a.length).map λx=>xs.getD x.toNat 0):=(rF d).map _;have h:((bK a.length).map λx=>xs.getD x.toNat 0)=xs:=by
  refine Wx λi=>?_;rw[Yf];by_cases b:i<a.length
  ·rw[nH b]
   grind
  ·rw[Y7 (by rw[fR];exact fb b),Y7 (gm (mV e) (fb b))];rfl
 rw[h] at c;exact tX (c.trans (rF g))
inductive Lu(k:Hp)(l:JL)(j:Z Nat)(d:Z (Z Int))(n:Nat)(h:bS V->St)(g:St)(b:Hp):Prop
 |mk (i:Z U) (p:bS V) (v:b l.ha=some (.lst (eC j))) (u:b l.la=some (.lst (i.map V.ref))) (s:Paired (λa (m:Z Int)=>b a=O (.tup (m.map V.int))) i d) (r:∀t∈d,full t=ar/\t.length=n) (q:∀c o,k c=O o->c≠l.ha->c≠l.la->b c=O o) (e:g=h p):Lu k l j d n h g b
def V9(l:JL)(a b i j:Int)(c e d h:U)(g:bS V):St:=[O (.ref l.J),O (.int a),O (.int b),O (.ref c),O (.int i),O (.int j),O (.ref e),O (.ref d),O (.ref h),g]
noncomputable abbrev LY:Z af:=["self","mover","stayer","turn"]
def tM:aQ ["self","mover","stayer","turn","head","old_head","to_mover","to_old_head","moved","number"] LY (aI Gp):=.a9
theorem Zg_(F:aP K "move" "Joins.move" Gp f fd)(r:oV K C)(rD:HasFn P w K B I 1 "followed" pN (Lq K))(qc:HasFn P w K B I 1 "turned_back" pO CY)(bl:Bl B):aE P w K B I aO 2 f fd LY (Uj C):=by
 refine F.o tM λs H hr h=>?_;obtain⟨l,st,n,a,b,A,hb,ta,tb,tn,fm,tu,g,mb,rfl,d,hu,n8,tl,ft,hA,hB,lA,lB,fl,ll,mA,mB,fA,neq,min,lm,Nv,q⟩:=h;refine⟨_,(aq (bM 4 tM.nd (bc (iL K) (pF K 0) (pv 2))) (aq (bM 5 tM.nd (bc (iL K) (pF K 0) (pv 1))) (aq (bM 6 tM.nd (aY rD hr (aa (bc (iL K) (pF K 0) (pv 2)) (aa (pv 3) ae)))) (aq (bM 7 tM.nd (aY rD hr (aa (pv 6) (aa (aY qc hr (aa (bc (iL K) (pF K 0) (pv 1)) ae)) ae)))) (aq (bM 8 tM.nd (P6 (pF K 0) (pv 5) ⟨rfl,rfl,rfl,rfl⟩)) (aq (bY (P6 (pF K 0) (pv 5) ⟨rfl,rfl,rfl,rfl⟩)) (aq (dI Ax rfl (dY (K:=K) rfl (pv 8)) (a8 9 tM.nd) (aq (R5 (pF K 0) (pv 9) P1 (pv 4)) (av (R5 (pF K 0) (pv 9) P1 (aY rD hr (aa (pv 7) (aa (bc (iL K) (pF K 0) (pv 9)) ae))))))) (av (bY (kW (K:=K) rfl (iK Aw PySem.F.slot_list_extend PySem.F.type_list_extend Zc1 (dy (bw hr) (pF K 0) (pv 4) (λ_ _=>rfl)) (aa (pv 8) ae)))))))))))),?_⟩;have sz:(10000:Nat)<=sizeLine:=by rw[ro];omega
 obtain⟨N,ho⟩:=d.obj;have zu:∀{i:Nat} {t:Z Int},st.ld[i]?=O t->∃x,l.fP[i]?=O x/\H x=O (.tup (t.map V.int)):=λ{i t} ht=>by
  have hl:=dk d.lead;have dU:i<l.fP.length:=by rw[hl];exact(Yh.mp ht).1
  obtain⟨y,ey,hy⟩:=gY d.lead (Yb dU);rw[ht] at ey;cases ey;exact⟨_,Yb dU,hy⟩
 obtain⟨xa,exa,Nx⟩:=zu lA;obtain⟨xb,exb,Ny⟩:=zu lB;have ata:dN (l.fP.map V.ref) (a:Int)=O (.ref xa):=dM (by rw[Yf,exa];rfl);have atb:dN (l.fP.map V.ref) (b:Int)=O (.ref xb):=dM (by rw[Yf,exb];rfl);obtain⟨YO,lta⟩:=fl ta (Yj lA);obtain⟨Nz,NA⟩:=fl tb (Yj lB);obtain⟨mo,Ar,vmo,YQ⟩:=ql (f:=λv:Z Nat=>HO.lst (eC v)) d.mem mA;obtain⟨ms,mms,vms,hms⟩:=ql (f:=λv:Z Nat=>HO.lst (eC v)) d.mem mB;obtain⟨fo,mfo,vfo,D4⟩:=ql (f:=λv:Z Int=>HO.lst (v.map V.int)) d.free fA;have Nq:=dk d.mem;have D1:=dk d.free;have nd:=d.nd;have D3:∀{x:U},x∈l.gU->x∈l.fp:=λ{x} h=>by simp[JL.fp,h]
 simp only[JL.fp,Y3,Yp,B2] at nd;obtain⟨⟨x1,x2,x3,x4,x5⟩,⟨y1,y2,y3,y4⟩,⟨z1,z2,z3⟩,⟨w1,w2⟩,v1,v2⟩:=nd;refine bT ?_;refine⟨_,rfl,l.J,C,N,_,_,rfl,ho,r.cls,r.kU,rfl,_,rfl,l.ha,_,_,_,rfl,rfl,aj.of d.heads,qz hB,?_⟩;refine bT ?_;refine⟨_,rfl,l.J,C,N,_,_,rfl,ho,r.cls,r.kU,rfl,_,rfl,l.ha,_,_,_,rfl,rfl,aj.of d.heads,qz hA,?_⟩;refine bT ?_;refine⟨_,rfl,l.J,C,N,_,_,rfl,ho,r.cls,r.oN,rfl,_,rfl,l.la,_,_,_,rfl,rfl,aj.of d.jo,atb,_,rfl,xb,tu,tb,tn,rfl,aC.of Ny,aC.of hu,λx R=>by rw[tl,←NA];exact rS Nz R,by omega,λtm H1 YM g1 htm=>?_⟩;refine bT ?_;refine⟨_,rfl,_,rfl,l.J,C,N,_,_,rfl,g1 _ _ ho,r.cls,r.oN,rfl,_,rfl,l.la,_,_,_,rfl,rfl,aj.of (g1 _ _ d.jo),ata,xa,ta,rfl,g1 _ _ Nx,by omega,YO,λti H2 nti g2 D6=>?_⟩;refine⟨tm,ti,bQ tn tb,inv ta,rfl,aC.of (g2 _ _ htm),aC.of D6,?_,by rw[jN];omega,λto H3 D7 g3 YR=>?_⟩
 ·rw[gv,lta];exact Zi2 (n:=n) (λx R=>by rw[←tl];exact rS ft R) (λy hy=>by rw[tl,←NA];exact rS Nz hy)
 have kL:=(g1.trans g2).trans g3;generalize ZkO:bQ (inv ta) (bQ tn tb)=D at YR q;have wU:full D=ar/\D.length=n:=by
  rw[←ZkO];refine⟨rJ (kT YO) (rJ ft Nz (by omega)) (by rw[gv,jN];omega),by rw[jN,jN];exact NA⟩
 refine bT ?_;refine⟨_,rfl,l.J,C,N,_,_,rfl,kL _ _ ho,r.cls,r.vZ,rfl,l.md,rfl,.inl ⟨_,.inl (kL _ _ d.ku)⟩,_,rfl,_,.inl (A:Int),.ref mo,kL _ _ d.ku,rfl,vmo,λH4 b4 e4=>?_⟩;rw[Bg A (by rw[Ya];exact Nq.symm)] at e4;have o4:=b4 _ _ (kL _ _ ho) x3;have f4:=b4 _ _ (kL _ _ d.frees) (λz=>w1 z.symm);refine⟨_,rfl,l.J,C,N,_,_,rfl,o4,r.cls,r.ub,rfl,l.fd,rfl,.inl ⟨_,.inl f4⟩,_,rfl,_,.inl (A:Int),.ref fo,f4,rfl,vfo,λH5 b5 e5=>?_⟩;rw[Bg A (by rw[Ya];exact D1.symm)] at e5;have L:∀c o,H c=O o->c≠l.md->c≠l.fd->H5 c=O o:=λc o e J Q=>b5 _ _ (b4 _ _ (kL _ _ e) J) Q;have e45:H5 l.md=O _:=b5 _ _ e4 w1;have X:∀{x:U},x∈l.gU->x≠l.ha/\x≠l.la/\x≠l.md/\x≠l.fd:=λ{x} R=>⟨λz=>y4 (by rw[←z];exact R),λz=>z3 (by rw[←z];exact R),λz=>w2 (by rw[←z];exact R),λz=>v1 (by rw[←z];exact R)⟩;have YS:=L _ _ YQ (X Ar).2.2.1 (X Ar).2.2.2;have xJ:H5 to=O (.tup (D.map V.int)):=by
  have J:to≠l.md:=λz=>by rw[z,g1.trans g2 _ _ d.ku] at D7;cases D7
  have Q:to≠l.fd:=λz=>by rw[z,g1.trans g2 _ _ d.frees] at D7;cases D7
  exact b5 _ _ (b4 _ _ YR J) Q
 dsimp only;have D8:(eC g).length=g.length:=Ya _;have hlen:∀is:Z Nat,(kX hb is st.hd).length=st.hd.length:=λis=>yo (λ_ _=>Jd) is st.hd;have ZkP:∀is:Z Nat,(iO D is st.ld).length=st.ld.length:=λis=>yo (λ_ _=>by unfold rb;exact Jd) is st.ld;refine fW (Lu H5 l (kX hb g st.hd) (iO D g st.ld) n (V9 l a b hb A tu tm to mo)) (λkM dP=>?_) ?_
 ·refine⟨_,rfl,mo,rfl,⟨_,aj.of YS⟩,g_ (K:=K) (a:=mo) (xs:=eC g) (λj=>Lu H5 l (kX hb (g.take j) st.hd) (iO D (g.take j) st.ld) n (V9 l a b hb A tu tm to mo))
   ⟨l.fP,aG,L _ _ d.heads y2 y3,L _ _ d.jo z1 z2,_L.Paired.bN d.lead λc xs e=>L c _ e (eR e d.ku (λz=>by cases z)) (eR e d.frees (λz=>by cases z)),fl,λc o e _ _=>e,rfl⟩
   (λj σ H6 _ ⟨_,_,_,_,_,_,G,_⟩=>aj.of (G _ _ YS (X Ar).1 (X Ar).2.1)) ?_ ?_⟩
  ·rintro j v σ H6 hj ⟨E,o9,T,k2,k3,k4,G,rfl⟩;rw[Yf] at hj;obtain⟨i,mi,rfl⟩:∃i,g[j]?=O i/\V.int (i:Int)=v:=by
    cases e:g[j]? with
    |none=>rw[e] at hj;cases hj
    |some i=>rw[e] at hj;exact⟨i,rfl,Yo hj⟩
   have hi:=min i (Yj mi);have il:i<(iO D (g.take j) st.ld).length:=by rw[ZkP];omega
   have Zmw:=dk k3;obtain⟨t,et,D6⟩:=gY k3 (Yb (show i<E.length by omega));obtain⟨ftt,YT⟩:=k4 t (Yj et);have oJ:=G _ _ (L _ _ ho x3 x4) x1 x2;have ixh:eP (eC (kX hb (g.take j) st.hd)).length (i:Int)=O i:=by
    rw[KD (by omega) (by rw[Ya,hlen];omega),Wb]
   have ixl:eP (E.map V.ref).length (i:Int)=O i:=by
    rw[KD (by omega) (by rw[Ya];omega),Wb]
   refine aS ?_;refine⟨_,rfl,_,rfl,l.J,C,N,_,_,rfl,oJ,r.cls,r.kU,rfl,_,rfl,l.ha,_,_,i,rfl,rfl,T,ixh,λH7 b7 e7=>?_⟩;have YU:=b7 _ _ oJ x1;have As:=b7 _ _ k2 (λz=>y1 z.symm);have to7:H7 to=O (.tup (D.map V.int)):=b7 _ _ (G _ _ xJ (eR xJ (L _ _ d.heads y2 y3) (λz=>by cases z)) (eR xJ (L _ _ d.jo z1 z2) (λz=>by cases z))) (eR (G _ _ xJ (eR xJ (L _ _ d.heads y2 y3) (λz=>by cases z)) (eR xJ (L _ _ d.jo z1 z2) (λz=>by cases z))) T (λz=>by cases z));have x7:H7 E[i]=O (.tup (t.map V.int)):=b7 _ _ D6 (eR D6 T (λz=>by cases z));have atx:dN (E.map V.ref) (i:Int)=O (.ref E[i]):=dM (by rw[Yf,Yb (show i<E.length by omega)];rfl);refine⟨_,rfl,_,rfl,l.J,C,N,_,_,rfl,YU,r.cls,r.oN,rfl,_,rfl,l.la,_,_,_,rfl,rfl,aj.of As,atx,to,E[i],D,t,rfl,aC.of to7,aC.of x7,λx R=>by rw[YT,←wU.2];exact rS wU.1 R,by have:=wU.2;omega,λtt H8 YV g8 htt=>?_⟩;refine⟨_,rfl,l.J,C,N,_,_,rfl,g8 _ _ YU,r.cls,r.oN,rfl,_,rfl,l.la,_,_,i,rfl,rfl,g8 _ _ As,ixl,λH9 b9 e9=>?_⟩;have gt:(iO D (g.take j) st.ld).getD i []=t:=by rw[Yd,et];rfl
   have eh:kX hb (g.take (j+1)) st.hd=(kX hb (g.take j) st.hd).set i hb:=Pk mi st.hd;have el:iO D (g.take (j+1)) st.ld=(iO D (g.take j) st.ld).set i (bQ t D):=by
    have e1:iO D (g.take (j+1)) st.ld=rb D (iO D (g.take j) st.ld) i:=Pk mi st.ld;rw[e1,←gt];rfl
   have Nu:tt≠l.la:=λz=>by rw[z,As] at YV;cases YV
   have h9:∀c o,H6 c=O o->c≠l.ha->c≠l.la->H9 c=O o:=λc o e J Q=>b9 _ _ (g8 _ _ (b7 _ _ e J)) Q;refine⟨E.set i tt,_,?_,?_,?_,?_,λc o e J Q=>h9 c o (G c o e J Q) J Q,rfl⟩
   ·rw[eh,←Zg9];exact b9 _ _ (g8 _ _ e7) y1
   ·rw[e9,List.map_set]
   ·rw[el];exact Pl (F:=λa (xs:Z Int)=>H9 a=O (.tup (xs.map V.int))) (b9 _ _ htt Nu) i (_L.Paired.bN k3 λc xs e=>h9 c _ e (eR e T (λz=>by cases z)) (eR e k2 (λz=>by cases z)))
   ·intro u YW;rw[el] at YW;rcases List.mem_or_eq_of_mem_set YW with z|z;·exact k4 u z
    ·rw[z];exact⟨rJ ftt wU.1 (by rw[YT,wU.2]),by rw[jN];exact wU.2⟩
  ·rintro σ H6 ⟨E,o9,T,k2,k3,k4,G,rfl⟩;rw[D8,Wc] at T k3 k4;exact dP _ _ ⟨E,o9,T,k2,k3,k4,G,rfl⟩
 rintro σ H6 ⟨E,o9,T,k2,k3,k4,G,rfl⟩;have oJ:=G _ _ (L _ _ ho x3 x4) x1 x2;have YX:=G _ _ e45 (λz=>y2 z.symm) (λz=>z1 z.symm);have fd6:=G _ _ e5 (λz=>y3 z.symm) (λz=>z2 z.symm);have uY:=X mms;have D9:=X Ar;have zw:∀c o,H c=O o->c≠l.ha->c≠l.la->c≠l.md->c≠l.fd->H6 c=O o:=λc o e J Q n3 n4=>G _ _ (L _ _ e n3 n4) J Q;have ms6:=zw _ _ hms uY.1 uY.2.1 uY.2.2.1 uY.2.2.2;have mo6:=zw _ _ YQ D9.1 D9.2.1 D9.2.2.1 D9.2.2.2;have YY:Paired (λc (p:Nat×Z Nat)=>H6 c=O (.lst (eC p.2))/\c∈l.gU) (eM (st.mem.map (·.1)) l.gU A) (di A st.mem):=HW d.mem λc p e mc _=>by
  obtain⟨q1,q2,q3,q4⟩:=X mc;exact⟨zw _ _ e q1 q2 q3 q4,mc⟩
 have lkB:(di A st.mem).lookup hb=O mb:=by rw[vU (λz=>neq z.symm)];exact mB
 obtain⟨xK,ZkQ,LZ,L0⟩:=ql (f:=λv:Z Nat=>HO.lst (eC v)) (_L.Paired.bN YY λ_ _ h=>h.1) lkB;rw[qr] at LZ;have CB:xK∈l.gU:=BG.subset ZkQ;refine⟨_,rfl,l.J,C,N,_,_,rfl,oJ,r.cls,r.vZ,rfl,_,rfl,l.md,.ref xK,rfl,qC YX LZ,.inl ⟨rfl,_,aj.of L0⟩,_,rfl,xK,mo,_,_,rfl,rfl,L0,mo6,by rw[D8,Ya];omega,λH7 b7 e7=>?_⟩;obtain⟨r1,r2,r3,r4⟩:=X CB;have sub:=BG (h:=A) (ks:=st.mem.map (·.1)) (as:=l.gU);have ZkR:=BG (h:=A) (ks:=st.fr.map (·.1)) (as:=l.cq);have YZ:∀c∈JL.fp ⟨l.J,l.ha,l.la,l.md,l.fd,E,eM (st.mem.map (·.1)) l.gU A,eM (st.fr.map (·.1)) l.cq A⟩,c∈l.fp:=λc hc=>by
  simp only[JL.fp,Yp] at hc⊢;rcases hc with h|h|h|h|h|h;·exact .inl h
  ·exact .inr (.inl h)
  ·exact .inr (.inr (.inl h))
  ·exact .inr (.inr (.inr (.inl h)))
  ·exact .inr (.inr (.inr (.inr (.inl h))))
  ·exact .inr (.inr (.inr (.inr (.inr (sub.subset h)))))
 have W:∀c o,H6 c=O o->c≠xK->H7 c=O o:=λc o e J=>b7 _ _ e J;refine q ⟨l.J,l.ha,l.la,l.md,l.fd,E,eM (st.mem.map (·.1)) l.gU A,eM (st.fr.map (·.1)) l.cq A⟩ H7 rfl YZ (λc o e nc=>?_) ⟨⟨N,W _ _ oJ (λz=>x5 (by rw[z];exact CB))⟩,W _ _ T (λz=>r1 z.symm),W _ _ k2 (λz=>r2 z.symm),_L.Paired.bN k3 λc xs e=>W c _ e (eR e L0 (λz=>by cases z)),?_,?_,?_,?_,?_,λc hc z=>?_⟩
 ·simp only[JL.fp,Yp,B2] at nc;exact W _ _ (zw _ _ e nc.2.1 nc.2.2.1 nc.2.2.2.1 nc.2.2.2.2.1) (λz=>nc.2.2.2.2.2 (by rw[z];exact CB))
 ·show H7 l.md=O (.dK (bH ((fE hb (mb++g) (di A st.mem)).map (·.1)) _));rw[tT,qr];exact W _ _ YX (λz=>r3 z.symm)
 ·refine Zdl (F:=λc (p:Nat×Z Nat)=>H6 c=O (.lst (eC p.2))/\c∈l.gU) (m:=xK) (λk=>?_) YY (sub.nodup v2) ?_ (by rw[qr];exact LZ) λc p e _ nc=>W _ _ e.1 nc
  ·show H7 xK=O (.lst (eC (mb++g)));rw[e7,eC,eC,eC,Yr]
  ·rw[qr];exact Nv.filter _
 ·show H7 l.fd=O (.dK (bH ((di A st.fr).map (·.1)) _));rw[qr];exact W _ _ fd6 (λz=>r4 z.symm)
 ·refine HW d.free λc p e mc _=>?_;have no:=d.out c mc;simp only[JL.fp,Yp,B2] at no;exact W _ _ (zw _ _ e no.2.1 no.2.2.1 no.2.2.2.1 no.2.2.2.2.1) (λz=>no.2.2.2.2.2 (by rw[z];exact CB))
 ·have e0:(JL.fp ⟨l.J,l.ha,l.la,l.md,l.fd,E,eM (st.mem.map (·.1)) l.gU A,eM (st.fr.map (·.1)) l.cq A⟩).Sublist l.fp:=(((((sub.cons₂ l.fd).cons₂ l.md).cons₂ l.la).cons₂ l.ha).cons₂ l.J);exact e0.nodup d.nd
 ·exact d.out c (ZkR.subset hc) (YZ c z)
structure V_(st:JS)(n a b ha hb:Nat)(ta tb fma Au:Z Int)(ma mb:Z Nat):Prop where
 hA:st.hd[a]?=O ha
 hB:st.hd[b]?=O hb
 lA:st.ld[a]?=O ta
 lB:st.ld[b]?=O tb
 fl:∀t∈st.ld,full t=ar/\t.length=n
 ll:st.ld.length=st.hd.length
 mA:st.mem.lookup ha=O ma
 mB:st.mem.lookup hb=O mb
 fA:st.fr.lookup ha=O fma
 fB:st.fr.lookup hb=O Au
 ne:ha≠hb
 iA:∀i∈ma,i<st.hd.length
 iB:∀i∈mb,i<st.hd.length
 lm:ma.length+mb.length<=1000
 nd:(st.mem.map (·.1)).Nodup
inductive Sv(C:U)(s:Z V)(H:Hp)(Q:VK)(E:XK):Prop
 |mk (l:JL) (st:JS) (n a b m k:Nat) (g e d o t:Z Int) (r:U) (i h:Z Nat) (F:s=[.ref l.J,.int (a:Int),.int (b:Int),.ref r]) (D:cS H C n l st) (z:H r=O (.tup (d.map V.int))) (A:n<=8) (y:d.length=n) (x:full d=ar) (v:V_ st n a b m k g e o t i h) (u:∀(j:JL) (p:JS) (q:Hp),j.J=l.J->(∀c∈j.fp,c∈l.fp)->Out l.fp H q->cS q C n j p->(p=st.mv k m h i (bQ (inv g) (bQ (inv d) e))\/p=st.mv m k i h (bQ (inv e) (bQ d g)))->Q .aA q)
noncomputable abbrev mN:Z af:=["self","one","other","turn"]
def Zaa:aQ mN mN (aI ET):=.a9
def ZfL(F:aP K "bring_together" "Joins.bring_together" ET f fd)(d:oV K C)(qc:HasFn P w K B I 1 "turned_back" pO CY)(A4:cJ P w K B I 2 "move" C LY (Uj C))(bl:Bl B):aE P w K B I aO 3 f fd mN (Sv C):=by
 refine F.o Zaa λs H i h=>?_;obtain⟨l,st,n,a,b,ha,X,N,L,m,A,Au,J,T,R,rfl,c,W,Q,tl,y,two,q⟩:=h;refine⟨_,(av (aU (bG oY (dF K bl (dy (bw i) (pF K 0) (bc (iL K) (pF K 0) (pv 1)) (λ_ _=>Y))) (dF K bl (dy (bw i) (pF K 0) (bc (iL K) (pF K 0) (pv 2)) (λ_ _=>Y)))) (av (bY (df A4 i (by decide) (pv 0) (aa (pv 1) (aa (pv 2) (aa (aY qc i (aa (pv 3) ae)) ae)))))) (av (bY (df A4 i (by decide) (pv 0) (aa (pv 2) (aa (pv 1) (aa (pv 3) ae)))))))),?_⟩;refine hH c.obj λg e=>?_;refine cu (ql (f:=λv:Z Nat=>HO.lst (eC v)) c.mem two.mA) λG mxa k Nx=>?_;obtain⟨E,D_,j,Ny⟩:=ql (f:=λv:Z Nat=>HO.lst (eC v)) c.mem two.mB;refine⟨_,Y,l.J,C,g,_,_,Y,e,d.cls,d.vZ,Y,_,Y,l.J,C,g,_,_,Y,e,d.cls,d.kU,Y,_,Y,l.ha,_,_,_,Y,Y,aj.of c.heads,qz two.hA,l.md,.ref G,Y,qC c.ku k,G,_,Y,.inl (aj.of Nx),?_⟩;refine⟨_,Y,l.J,C,g,_,_,Y,e,d.cls,d.vZ,Y,_,Y,l.J,C,g,_,_,Y,e,d.cls,d.kU,Y,_,Y,l.ha,_,_,_,Y,Y,aj.of c.heads,qz two.hB,l.md,.ref E,Y,qC c.ku j,E,_,Y,.inl (aj.of Ny),_,_,Y,Y,_,Y,bC (λ_=>?_) (λ_=>?_)⟩
 ·refine⟨_,Y,l.J,g,_,Y,e,Y,_,Y,_,Y,_,Y,J,m,Y,W,QO,y,λtv H1 ntv g1 x=>?_⟩;refine⟨l,st,n,a,b,ha,X,N,L,inv m,A,tv,T,R,Y,c.same g1,x,Q,by rwa[gv],kT y,two.hA,two.hB,two.lA,two.lB,two.fl,two.ll,two.mA,two.mB,two.fA,two.ne,two.iA,two.lm,two.nd,λp D t r o u=>q p _ D t r ((Out.of g1).trans o) u (.inl Y)⟩
 ·refine⟨_,Y,l.J,g,_,Y,e,Y,_,Y,_,Y,_,Y,?_⟩;exact⟨l,st,n,b,a,X,ha,L,N,m,Au,J,R,T,Y,c,W,Q,tl,y,two.hB,two.hA,two.lB,two.lA,two.fl,two.ll,two.mB,two.mA,two.fB,(λz=>two.ne z.symm),two.iB,by have:=two.lm;omega,two.nd,λp D t r o u=>q p _ D t r o u (.inr Y)⟩
def Vk(H:Hp)(c:Z U)(b:Z (Int×Int)):Prop:=Paired (λa (p:Int×Int)=>H a=O (.tup [.int p.1,.int p.2])) c b
noncomputable def jS(g e:Nat)(b a c d:Z Int):Z (Int×Int):=if g=e then c.map λz=>(b.getD z.toNat 0,a.getD z.toNat 0) else(c.map λz=>b.getD z.toNat 0).flatMap λx=>d.map λz=>(x,a.getD z.toNat 0)
inductive Sw(C:U)(m:Z V)(H:Hp)(Q:VK)(E:XK):Prop
 |mk (l:JL) (st:JS) (n i j h g:Nat) (c b e d:Z Int) (t:m=[.ref l.J,.int (i:Int),.int (j:Int)]) (s:cS H C n l st) (q:uB st i h c e) (r:uB st j g b d) (o:∀(p:U) (k:Z U) (bW:Z (Int×Int)) (a:Hp),H p=aG->ah H a->a p=O (.lst (k.map V.ref))->Vk a k bW->bW.Perm (jS h g c b e d)->bW.Pairwise jR->Q (.ref p) a)
inductive KY(C:U)(r:Z V)(H:Hp)(Q:VK)(E:XK):Prop
 |mk (l:JL) (st:JS) (n i j g e:Nat) (b a d c h:Z Int) (o:U) (A:r=[.ref l.J,.int (i:Int),.int (j:Int),.ref o]) (z:cS H C n l st) (x:uB st i g b d) (y:uB st j e a c) (v:H o=some (.tup (h.map V.int))) (u:(∀q∈jS g e b a d c,0<=q.1/\q.1<h.length)) (t:(jS g e b a d c).length<=1000) (s:∀(p:U) (k:Z Int) (m:Hp),H p=none->ah H m->m p=some (.lst (k.map V.int))->k.Perm (((jS g e b a d c).filter λq=>decide (h.getD q.1.toNat 0=q.2)).map (·.1))->k.Pairwise (·<·)->Q (.ref p) m)
def Zbe:aQ mN mN (aI Gn):=.a9
theorem Zha(F:aP K "left" "Joins.left" Gn f fd)(F_:cJ P w K B I 3 "pairs" C sy (Sw C))(bl:Bl B):aE P w K B I aO 4 f fd mN (KY C):=by
 refine F.o Zbe λs H hr h=>?_;obtain⟨l,st,n,i,j,hi,hj,ti,tj,si,sj,d,tu,rfl,ja,o1,o2,hu,dO,jz,q⟩:=h;refine⟨_,(av (aK (Zfl (xs:=["first","second"]) (fr:=[("turn",3)]) (cl:=[("turn",s.heap.objs.size+1)]) Y (.ir ⟨Y,trivial⟩ ⟨⟨Y,.inl Y,.inl Y,Y⟩,trivial⟩) (λ_ _ _ _=>(hZ (K:=K) (n:=2) Y Y (bq (rM (i:=0) (show(["first","second","turn"]:Z af).Nodup by decide+kernel) Y (Or.inl Y)) (bq (rM (i:=1) (show(["first","second","turn"]:Z af).Nodup by decide+kernel) Y (iC Y)) hV)))) (dY (K:=K) Y (df F_ hr (by decide) (pv 0) (aa (pv 1) (aa (pv 2) ae)))) (λ_ _ _ _=>wj (bG b_ (bc (iT K) (pv 2) (pv 0)) (pv 1))) (λ_ _ _ _=>(pv 0))))),?_⟩;refine hH ja.obj λdx ho=>?_;refine⟨_,Y,l.J,dx,_,Y,ho,Y,_,Y,_,Y,l,st,n,i,j,hi,hj,ti,tj,si,sj,Y,ja,o1,o2,λp J bW H1 np T hp pr L pw=>?_⟩;have pl:=dk pr;have al:(J.map V.ref).length=bW.length:=by rwa[Ya]
 have WA:=L.length_eq;refine⟨p,Y,⟨_,aj.of hp⟩,λD R=>Zc3 (xs:=J.map V.ref) (λk m r=>k<=bW.length/\ah H1 r/\r D=O (.lst m)/\m=((bW.take k).filter λq=>decide (d.getD q.1.toNat 0=q.2)).map λq=>V.int q.1) ⟨Yw _,cE R _,aW,Y⟩ (λk m r _ ⟨_,g,_,_⟩=>aj.of (g _ _ hp)) ?_ ?_⟩
 ·rintro k v m r t ⟨_,g,G,u⟩ os qV;obtain⟨E,A,rfl⟩:∃E A,os=[E,A]:=by
   match os,qV with
   |[E,A],_=>exact⟨E,A,Y⟩
  rw[Yf] at t;obtain⟨c,ec,rfl⟩:∃c,J[k]?=O c/\V.ref c=v:=by
   cases e:J[k]? with
   |none=>rw[e] at t;cases t
   |some c=>rw[e] at t;exact⟨c,Y,Yo t⟩
  obtain⟨⟨x,y⟩,X,N⟩:=gY pr ec;have kl:k<bW.length:=(Yh.mp X).1;have bx:=dO (x,y) (L.subset (Yj X));have Q:=g _ _ N;have yl:m.length<sizeLine:=by
   have:=Wj (λq:Int×Int=>decide (d.getD q.1.toNat 0=q.2)) (bW.take k);rw[Wd] at this;rw[u,Ya,du];omega
  refine⟨c,_,Y,aC.of Q,Y,_,_,Y,aS ⟨_,_,Y,aS ⟨Y,⟨[O (.int x),O (.int y)],Y,Y⟩,?_⟩⟩⟩;refine⟨_,Y,_,Y,tu,_,_,_,Y,Y,aC.of (g _ _ (T _ _ hu)),oU bx.1 bx.2,_,Y,Y,_,Y,?_⟩;have ed:decide (V.int (d.getD x.toNat 0)=V.int y)=decide (d.getD x.toNat 0=y):=by
   rw[Wn,hU,ri];exact⟨V.int.inj,λz=>by rw[z]⟩
  rw[ed];have et:∀(b:cF),decide (d.getD x.toNat 0=y)=b->((bW.take (k+1)).filter λq=>decide (d.getD q.1.toNat 0=q.2)).map (λq=>V.int q.1)=m++(if b=ar then[V.int x] else[]):=λb eb=>by
   rw[u,Yz,X,Ws,Yr]
   congr 1
   show([((x,y):Int×Int)].filter _).map _=_;rw[W9,eb];cases b<;>rfl
  refine bC (λW=>?_) (λW=>?_)
  ·refine⟨_,Y,G,yl,kl,λb o e=>?_,aW,?_⟩
   ·rw[aJ (bU e R)];exact g _ _ e
   ·rw[et ar W];rfl
  ·refine⟨kl,g,G,?_⟩;rw[et a_ (by cases e:decide (d.getD x.toNat 0=y) with|true=>exact absurd e W|false=>rfl)];simp
 ·intro m r ZH;refine d7 ZH λ_ g G u=>?_;rw[al,Wc] at u;refine q D ((bW.filter λq=>decide (d.getD q.1.toNat 0=q.2)).map (·.1)) r (T.free R) (T.trans g) (by rw[G,u,Y9];rfl) ((L.filter _).map _) ?_;rw[W3];refine(Y_.mp (pw.filter _)).imp ?_;rintro a b ⟨ma,mb,lt⟩;have e1:=eL (Y4.mp ma).2;have e2:=eL (Y4.mp mb).2;rcases lt with lt|⟨e,lt⟩;·exact lt
  ·rw[←e1,←e2,e] at lt;exact absurd lt (Int.lt_irrefl _)
theorem Zi3:∀{c:Z V} {d:Z Nat},Paired (λy k=>∃a,y=V.ref a/\H a=O (.tup [.int (g k).1,.int (g k).2])) c d->∃b:Z U,c=b.map V.ref/\Vk H b (d.map g):=by
 intro c d i;induction i with
 |nil=>exact⟨[],Y,.nil⟩
 |cons z t j=>
  refine bh z λa e h=>?_;refine bh j λb m l=>?_;exact⟨a::b,by rw[e,m];rfl,.cons h l⟩
def map_range(g:Int->α)(a:Z Int):(List.range a.length).map (λk=>g (a.getD k 0))=a.map g:=by
 have b:(List.range a.length).map (λk=>g (a.getD k 0))=((List.range a.length).map λk=>a.getD k 0).map g:=by rw[Y9];rfl
 rw[b,(range_getD a 0)]
def WB(D:U)(H:Hp)(c:Z U)(b:Z (Int×Int)):Prop:=Paired (λa (p:Int×Int)=>a≠D/\H a=O (.tup [.int p.1,.int p.2])) c b
theorem JJ{d c e:Type}(g:d->c->e)(b:Z c):∀a:Z d,(a.flatMap λx=>b.map (g x)).length=a.length*b.length
 |[]=>QS
 |x::a=>by rw[List.flatMap_cons,Yl,JJ g b a,Ya,Wh,Nat.succ_mul];exact Nat.add_comm _ _
def Zeo{a β c:Type}{g:a->Z c}{b:Z a}{i:Nat}{x:a}(h:b[i]?=O x):(b.take (i+1)).flatMap g=(b.take i).flatMap g++g x:=by
 rw[Yz,h,Pe];simp
def Qf{a:Z Int}(b:a.Pairwise (·<=·))(c:a.Nodup):a.Pairwise (·<·):=by
 refine(List.Pairwise.and b (Jf.mp c)).imp ?_
 grind
def Zhb(x:Int){a:Z Int}(b:a.Pairwise (·<·)):(a.map λy=>((x,y):Int×Int)).Pairwise jR:=by
 rw[W3];exact b.imp λh=>.inr ⟨Y,h⟩
def Zhc{a:Z Int}(c:a.Pairwise (·<·))(e:a[k]?=O x)(d:y∈a.take k):y<x:=by
 obtain⟨i,b,rfl⟩:=W1.mp d;obtain⟨g,rfl⟩:=Yh.mp e;rw[Wd] at b;rw[List.getElem_take];exact Wa.mp c i k (i2 b (Qdg _ _)) g (i2 b (Nat.min_le_left _ _))
def FN:aQ ["self","one","other","here","there"] sy (aI F4):=.a9
theorem ZfM(F:aP K "pairs" "Joins.pairs" F4 f fd)(X:oV K C)(vC:cJ P w K B I 1 "together" C sy (HV C))(oC:cJ P w K B I 2 "open_at" C zJ (BE C))(bl:Bl B):aE P w K B I aO 3 f fd sy (Sw C):=by
 refine F.o FN λs H hr h=>?_;obtain⟨l,st,n,i,j,hi,hj,ti,Q,u,sj,rfl,L,E,A,q⟩:=h;refine⟨_,(aq (aU (jO (fh (df vC hr (by decide) (pv 0) (aa (pv 1) (aa (pv 2) ae))))) (av (aK (Zfm (xs:=["first","second"]) (fr:=[("self",0),("other",2)]) (cl:=[("self",s.heap.objs.size+1),("other",s.heap.objs.size+1+1)]) Y (.ir ⟨Y,⟨Y,trivial⟩⟩ ⟨⟨Y,.inl Y,.inl Y,Y⟩,⟨⟨Y,.inl Y,.inl Y,Y⟩,trivial⟩⟩) (λ_ _ _ _=>(rM (i:=0) (show(["first","second","self","other"]:Z af).Nodup by decide+kernel) Y (iC Y))) (dY (K:=K) Y (df oC hr (by decide) (pv 0) (aa (pv 1) ae))) (λ_ _ _ _=>(dY (K:=K) Y (df oC hr (by decide) (pv 2) (aa (pv 3) ae)))) (λ_ _ _ _=>(rM (i:=1) (show(["first","second","self","other"]:Z af).Nodup by decide+kernel) Y (iC Y))) (λ_ _ _ _=>(dq (aa (pv 0) (aa (pv 1) ae))))))) bb) (aq (f_ (i:=3) FN.nd Y (mz Y) (bc (iL K) (pF K 0) (pv 1))) (aq (f_ (i:=4) FN.nd Y (mz Y) (bc (iL K) (pF K 0) (pv 2))) (av (aK (hJ (Zfs (K:=K) Y) Y bl.yM yG (aa (jj (x:="section") (fr:=[("there",4),("here",3)]) (cl:=[("there",s.heap.objs.size+1+1+1+1),("here",s.heap.objs.size+1+1+1)]) Y (.ir ⟨Y,⟨Y,trivial⟩⟩ ⟨⟨Y,.inl Y,.inl Y,Y⟩,⟨⟨Y,.inl Y,.inl Y,Y⟩,trivial⟩⟩) (dY (K:=K) Y (dy (bw hr) (pF K 0) (bc (iL K) (pF K 0) (pv 1)) (λ_ _=>Y))) (λ_ _ _ _=>nI) (λ_ _ _ _=>(dq (aa (bc (iT K) (pv 2) (pv 0)) (aa (bc (iT K) (pv 1) (pv 0)) ae))))) ae))))))),?_⟩;refine nY ?_;intros;obtain⟨dx,ho⟩:=L.obj;have f1:=E.jz;have f2:=A.jz;refine⟨_,Y,l.J,dx,_,Y,ho,Y,_,Y,_,Y,l,st,n,i,j,hi,hj,Y,L,E.hd,A.hd,_,Y,?_⟩;by_cases eh:hi=hj
 ·rw[d6 eh];refine bV (aX ?_);have es:u=sj:=by have a:=E.fr;have b:=A.fr;rw[eh,b] at a;exact(Yo a).symm
  have zu:∀{k:Nat} {t:Z Int},st.ld[k]?=O t->∃x,l.fP[k]?=O x/\H x=O (.tup (t.map V.int)):=λ{k t} ht=>by
   have hl:=dk L.lead;have dU:k<l.fP.length:=by rw[hl];exact(Yh.mp ht).1
   obtain⟨y,ey,hy⟩:=gY L.lead (Yb dU);rw[ht] at ey;cases ey;exact⟨_,Yb dU,hy⟩
  obtain⟨xi,exi,hxi⟩:=zu E.ld;obtain⟨xj,exj,hxj⟩:=zu A.ld;have ati:dN (l.fP.map V.ref) (i:Int)=O (.ref xi):=dM (by rw[Yf,exi];rfl);have atj:dN (l.fP.map V.ref) (j:Int)=O (.ref xj):=dM (by rw[Yf,exj];rfl);obtain⟨fa,YL,vf,cW⟩:=ql (f:=λv:Z Int=>HO.lst (v.map V.int)) L.free E.fr;refine bT ?_;refine⟨_,Y,l.J,C,dx,_,_,Y,ho,X.cls,X.oN,Y,_,Y,l.la,_,_,_,Y,Y,aj.of L.jo,ati,?_⟩;refine bT ?_;refine⟨_,Y,l.J,C,dx,_,_,Y,ho,X.cls,X.oN,Y,_,Y,l.la,_,_,_,Y,Y,aj.of L.jo,atj,?_⟩;refine⟨_,Y,l.J,C,dx,_,_,Y,ho,X.cls,X.ub,Y,_,Y,l.J,C,dx,_,_,Y,ho,X.cls,X.kU,Y,_,Y,l.ha,_,_,_,Y,Y,aj.of L.heads,qz E.hd,l.fd,_,Y,qC L.frees vf,fa,Y,⟨_,aj.of cW⟩,λD hD=>yA (xs:=u.map V.int) (aj.of cW) (by rw[Ya];omega) hD (λ_=>ar) (λk y H1=>∃a,y=V.ref a/\a≠D/\H1 a=O (.tup [.int (ti.getD (u.getD k 0).toNat 0),.int (Q.getD (u.getD k 0).toNat 0)])) (λk y H1 J b ⟨a,e1,e2,e3⟩=>⟨a,e1,e2,b _ _ e3 e2⟩) (λk v hk H1 N NC Kt Kf kt kf=>?_) λys H1 N h1 pr=>?_⟩
  ·obtain⟨z,rfl,hz⟩:=mw hk;have gz:u.getD k 0=z:=by rw[Yd,hz];rfl
   have b1:=E.dO z (Yj hz);have b2:=A.dO z (by rw[←es];exact Yj hz);refine mJ (dh ?_);refine⟨_,Y,_,Y,xi,_,_,_,Y,Y,aC.of (N _ _ hxi),oU b1.1 b1.2,_,Y,_,Y,xj,_,_,_,Y,Y,aC.of (N _ _ hxj),oU b2.1 b2.2,by show 2<=sizeLine;rw[du];decide,λa J na G ha=>?_⟩;obtain⟨ys,NC⟩:=NC;exact kt _ J Y G ⟨a,Y,(λz=>by rw[z,NC] at na;cases na),by rw[gz];exact ha⟩
  ·rw[Hh,Ya] at pr;obtain⟨as,eas,eZ⟩:=Zi3 (g:=λk=>(ti.getD (u.getD k 0).toNat 0,Q.getD (u.getD k 0).toNat 0)) (_L.Paired.bN pr λy k ⟨a,e1,e2,e3⟩=>⟨a,e1,e3⟩);have em:(List.range u.length).map (λk=>((ti.getD (u.getD k 0).toNat 0,Q.getD (u.getD k 0).toNat 0):Int×Int))=u.map λz=>(ti.getD z.toNat 0,Q.getD z.toNat 0):=map_range (λz=>(ti.getD z.toNat 0,Q.getD z.toNat 0)) u;rw[em] at eZ;have al:=dk eZ;rw[Ya] at al;rw[eas] at h1;have ndp:(u.map λz=>((ti.getD z.toNat 0,Q.getD z.toNat 0):Int×Int)).Nodup:=by
    have d:=E.dist;rw[Jf,W3] at d⊢;exact d.imp λh e=>h (eJ (·.1) e)
   refine⟨D,as,_,Y,aj.of h1,eZ,ndp,.inl (pY (mV al) f1),λiU nU pr2 p2 pw p J np G hp=>?_⟩;refine q p iU nU J (N.free np) (N.trans G) hp (_L.Paired.bN pr2 λ_ _ e=>G _ _ e) ?_ pw;unfold jS;rw[bR eh];exact p2
 ·rw[ij eh];refine dh ?_;refine⟨_,Y,l.J,dx,_,Y,ho,Y,_,Y,l,st,n,i,hi,ti,u,Y,L,E.hd,E.ld,E.fr,E.dO,E.jz,λp T H1 np N pm srt hp=>?_⟩;have nl:=pm.length_eq;rw[Ya] at nl;have sns:=Qf srt (pm.nodup_iff.mpr E.dist);refine⟨p,Y,⟨_,aj.of hp⟩,λD hD=>ZgL (xs:=T.map V.int) (λk ys J=>k<=T.length/\ah H1 J/\J D=O (.lst ys)/\∃(as:Z U) (bW:Z (Int×Int)),ys=as.map V.ref/\WB D J as bW/\bW.Perm ((T.take k).flatMap λx=>sj.map λz=>(x,Q.getD z.toNat 0))/\bW.Pairwise jR/\∀p∈bW,p.1∈T.take k) ⟨Yw _,cE hD _,aW,[],[],Y,.nil,.nil,.nil,λ_ h=>(nomatch h)⟩ (λk ys J _ ⟨_,G,_⟩=>aj.of (G _ _ hp)) ?_ ?_ ?_ (λv σ H R R' m h=>m _ _ h)⟩
  ·rintro k v ys J hk ⟨kl,G,h2,as,bW,ey,pa,pp,pw,pin⟩ os qV;obtain⟨u1,u2,rfl⟩:∃u1 u2,os=[u1,u2]:=by
    match os,qV with
    |[u1,u2],_=>exact⟨u1,u2,Y⟩
   obtain⟨x,rfl,hx⟩:=mw hk;have kl':k<T.length:=(Yh.mp hx).1;refine aS ⟨⟨[O (.int x),u2],Y,Y⟩,?_⟩;refine⟨_,Y,l.J,dx,_,Y,G _ _ (N _ _ ho),Y,_,Y,l,st,n,j,hj,Q,sj,Y,L.same (N.trans G),A.hd,A.ld,A.fr,A.dO,A.jz,λp2 uZ H3 Av g3 ND ZkS eA=>?_⟩;have NF:=ND.length_eq;rw[Ya] at NF;have ZkT:=Qf ZkS (ND.nodup_iff.mpr A.dist);have pD:p2≠D:=λz=>by rw[z,h2] at Av;cases Av
   have WA:=pp.length_eq;rw[JJ (λx z=>((x,Q.getD z.toNat 0):Int×Int)) sj (T.take k),Wd] at WA;have ZmM:=dk pa;have ZmN:min k T.length*sj.length<=64*64:=zF QO (tE f2);refine⟨p2,Y,⟨_,aj.of eA⟩,p2,uZ.map V.int,λk2 ik σ H4=>k2<=uZ.length/\ah H1 H4/\H4 D=O (.lst ik)/\H4 p2=O (.lst (uZ.map V.int))/\(∃A,σ=[O (.int x),A]++_)/\∃(xM:Z U) (wV:Z (Int×Int)),ik=xM.map V.ref/\WB D H4 xM wV/\wV=bW++(uZ.take k2).map λy=>(x,y),Y,⟨Yw _,G.trans g3,g3 _ _ h2,eA,⟨u2,Y⟩,as,bW,ey,_L.Paired.bN pa λ_ _ e=>⟨e.1,g3 _ _ e.2⟩,QS⟩,λk2 ik σ H4 _ ⟨_,_,_,e,_⟩=>aj.of e,?_,?_⟩
   ·rintro k2 v2 ik σ H4 hk2 ⟨k2l,g4,h4,e4,⟨Za,rfl⟩,xM,wV,Ea,Eb,u3⟩;obtain⟨y,rfl,hy⟩:=mw hk2;have ZkU:k2<uZ.length:=(Yh.mp hy).1;have Zb:=dk Eb;rw[u3,Yl,Ya,Wd] at Zb;refine aS ⟨_,Y,_,Y,by show 2<=sizeLine;rw[du];decide,λa H5 na g5 ha=>⟨g5 _ _ h4,by rw[Ea,Ya,Zb,du];have:=A.jz;omega,ZkU,?_,aW,?_,⟨O (.int y),Y⟩,xM++[a],wV++[(x,y)],by rw[Ea,Yr];rfl,?_,?_⟩⟩
    ·intro b o e;rw[aJ (bU e hD)];exact g5 _ _ (g4 _ _ e)
    ·rw[aJ pD];exact g5 _ _ e4
    ·have aD:a≠D:=λz=>by rw[z,h4] at na;cases na
     exact kj (F:=λa (p:Int×Int)=>a≠D/\upd H5 D _ a=O (.tup [.int p.1,.int p.2])) ⟨aD,by rw[aJ aD];exact ha⟩ (_L.Paired.bN Eb λb p e=>⟨e.1,by rw[aJ e.1];exact g5 _ _ e.2⟩)
    ·rw[u3,Yz,hy,Yr,Jo];rfl
   ·rintro ik σ H4 ⟨_,g4,h4,e4,⟨Za,rfl⟩,xM,wV,Ea,Eb,u3⟩;rw[Ya,Wc] at u3;refine⟨⟨[O (.int x),Za],Y,Y⟩,kl',g4,h4,xM,wV,Ea,Eb,?_,?_,λp W=>?_⟩
    ·rw[u3,Zeo (β:=Int) hx];refine pp.append ?_;have:=ND.map λy:Int=>((x,y):Int×Int);rw[Y9] at this;exact this
    ·rw[u3];refine List.pairwise_append.mpr ⟨pw,Zhb x ZkT,λp W q' mq=>.inl ?_⟩;obtain⟨y,_,rfl⟩:=Yk.mp mq;exact Zhc sns hx (pin p W)
    ·rw[u3] at W;rw[Yz,hx];rcases Yq.mp W with W|W;·exact Ys _ (pin p W)
     ·obtain⟨y,_,rfl⟩:=Yk.mp W;exact Yg _ Ym
  ·rintro ys J ⟨_,G,h2,as,bW,ey,pa,pp,pw,_⟩;rw[Ya,Wc] at pp;rw[ey] at h2;refine q D as bW J (N.free hD) (N.trans G) h2 (_L.Paired.bN pa λ_ _ e=>e.2) (pp.trans ?_) pw;unfold jS;rw[bt eh];exact pm.flatMap_right _
  ·rintro σ H R R' m ⟨x1,e1,x2,x3,x4,e2,e3,e4,x5,e5,l,st,n,i,h,t,hT,e6,j1,j2,j3,j4,j5,j6,k⟩;refine⟨x1,e1,x2,x3,x4,e2,e3,e4,x5,e5,l,st,n,i,h,t,hT,e6,j1,j2,j3,j4,j5,j6,λp T H' a b c d e=>?_⟩;obtain⟨a,e,s,r⟩:=k p T H' a b c d e;exact⟨a,e,s,m _ _ r⟩
noncomputable def ap(t:Z Int)(z:Int):Int:=t.getD z.toNat 0
def KZ(a:0<=z)(h:z<t.length):t[z.toNat]?=O (ap t z):=by
 unfold ap
 grind
def nP(a:full t=ar)(b:t.length=n){z:Int}(h:0<=z/\z<n):0<=ap t z/\ap t z<n:=by
 have:=rS a (Yj (KZ h.1 QO));omega
def yW(a:full t=ar)(c:t.length=n){z:Int}(h:0<=z/\z<n):ap (inv t) (ap t z)=z:=by
 have b:=nP a c h;have d:=BV (xs:=t) (i:=(ap t z).toNat) QO;rw[(Jt b.1),Bs (Be a) (KZ h.1 QO)] at d;have e:ap (inv t) (ap t z)=((z.toNat:Nat):Int):=by
  show(inv t).getD (ap t z).toNat 0=_
  grind
 grind
def Sx(a:full t=ar)(b:t.length=n){z:Int}(h:0<=z/\z<n):ap t (ap (inv t) z)=z:=by
 have:=yW (kT a) (by rwa[gv]) h;rw[inv_inv a] at this;exact this
def Ck(c:full t=ar)(b:t.length=n){z z':Int}(h:0<=z/\z<n)(d:0<=z'/\z'<n)(e:ap t z=ap t z'):z=z':=by
 have a:=yW c b h;rw[e,yW c b d] at a;exact a.symm
def Cm(h:0<=z/\z<a.length):ap (bQ xs a) z=ap xs (ap a z):=by
 show(bQ xs a).getD z.toNat 0=_;unfold bQ;rw[Yd,Yf,(KZ h.1 h.2)];rfl
noncomputable def JS.ai(a:JS)(i:Nat):Nat:=a.hd.getD i 0
noncomputable def JS.bX(a:JS)(i:Nat):Z Int:=a.ld.getD i []
noncomputable def JS.cI(a:JS)(h:Nat):Z Int:=(a.fr.lookup h).getD []
def dE(a:JS)(f:Nat->Int):Prop:=∃s:Nat->Int,∀i,i<a.hd.length->s (a.ai i)∈a.cI (a.ai i)/\f i=ap (a.bX i) (s (a.ai i))
structure WF(n:Nat)(st:JS):Prop where
 ll:st.ld.length=st.hd.length
 fl:∀t∈st.ld,full t=ar/\t.length=n
 fr:∀i,i<st.hd.length->∃hT,st.fr.lookup (st.ai i)=O hT/\hT.Nodup/\∀z∈hT,0<=z/\z<(n:Int)
 mem:∀i,i<st.hd.length->∃ms,st.mem.lookup (st.ai i)=O ms/\ms.Nodup/\∀k,k∈ms↔k<st.hd.length/\st.ai k=st.ai i
 nm:(st.mem.map (·.1)).Nodup
 lm:∀k∈st.mem.map (·.1),k<st.hd.length
 nf:(st.fr.map (·.1)).Nodup
 lf:∀k∈st.fr.map (·.1),k<st.hd.length
 hf:∀k∈st.fr.map (·.1),∃i,i<st.hd.length/\st.ai i=k
def yp{a:Z Nat}(b:a.Nodup)(h:∀x∈a,x<m):a.length<=m:=by
 have l:=b.length_le_of_subset λx c=>Wk.mpr (h x c)
 grind
def Gv{c:Z Int}{n:Nat}(d:c.Nodup)(h:∀x∈c,0<=x/\x<(n:Int)):c.length<=n:=by
 have l:=d.length_le_of_subset (l₂:=bK n) λx e=>by
  obtain⟨a,b⟩:=h x e;have:=Yj (nH (n:=n) (i:=x.toNat) QO)
  grind
 rwa [fR] at l
theorem HX{b:Type}:∀{a:Z (Nat×b)} {k:Nat} {v:b},a.lookup k=O v->k∈a.map (·.1)
 |[],_,_,h=>by simp at h
 |p::a,k,v,h=>by
  rw[W8] at h;by_cases e:k=p.1;·grind
  ·rw[beq_eq_false_iff_ne.mpr e] at h;exact Yx _ (HX h)
theorem A7{a:Type}(h:Nat)(v:a)(k:Nat):∀ps:Z (Nat×a),(fE h v ps).lookup k=if k=h then(ps.lookup h).map λ_=>v else ps.lookup k
 |[]=>by show([]:Z (Nat×a)).lookup k=_;simp
 |p::ps=>by
  have b:=A7 h v k ps;have c:fE h v (p::ps)=(if p.1=h then(p.1,v) else p)::fE h v ps:=Y
  grind
section
variable {n:Nat}{st:JS}
def yX(h:i<st.hd.length):st.hd[i]?=O (st.ai i):=by
 unfold JS.ai;rw[Yd,Yb h];rfl
def WF.Cn(a:WF n st)(h:i<st.hd.length):st.ld[i]?=O (st.bX i):=by
 unfold JS.bX;rw[Yd,Yb (by rwa[a.ll])];rfl
def WF.lN(a:WF n st)(h:i<st.hd.length):full (st.bX i)=ar/\(st.bX i).length=n:=a.fl _ (Yj (a.Cn h))
def WF.eK(c:WF n st)(h:i<st.hd.length):st.fr.lookup (st.ai i)=O (st.cI (st.ai i))/\(st.cI (st.ai i)).Nodup/\∀z∈st.cI (st.ai i),0<=z/\z<(n:Int):=by
 refine cu (c.fr i h) λhT e a b=>?_;have d:st.cI (st.ai i)=hT:=by unfold JS.cI;rw[e];rfl
 grind
def WF.dist(c:WF n st)(h:i<st.hd.length):((st.cI (st.ai i)).map λz=>(st.bX i).getD z.toNat 0).Nodup:=by
 refine c7 (c.eK h) λe a b=>?_;rw[Jf,W3];refine(Y_.mp (Jf.mp a)).imp ?_;rintro u v ⟨d,mv,ne⟩ z;exact ne (Ck (c.lN h).1 (c.lN h).2 (b u d) (b v mv) z)
def WF.one(c:WF n st)(g:n<=8){i:Nat}(h:i<st.hd.length):uB st i (st.ai i) (st.bX i) (st.cI (st.ai i)):=by
 refine c7 (c.eK h) λe a b=>?_;have:=Gv a b;refine⟨yX h,c.Cn h,e,λz d=>by rw[(c.lN h).2];exact b z d,QO,c.dist h⟩
def WF.two(a:WF n st)(g:i<st.hd.length)(e:j<st.hd.length)(s:st.hd.length<=400)(p:st.ai i≠st.ai j):∃d c,V_ st n i j (st.ai i) (st.ai j) (st.bX i) (st.bX j) (st.cI (st.ai i)) (st.cI (st.ai j)) d c/\(d.Nodup/\∀k,k∈d↔k<st.hd.length/\st.ai k=st.ai i)/\(c.Nodup/\∀k,k∈c↔k<st.hd.length/\st.ai k=st.ai j):=by
 refine cu (a.mem i g) λd r o l=>?_;refine cu (a.mem j e) λc q m h=>?_;have u:=yp o λk b=>((l k).mp b).1;have t:=yp m λk b=>((h k).mp b).1;exact⟨d,c,⟨yX g,yX e,a.Cn g,a.Cn e,a.fl,a.ll,r,q,(a.eK g).1,(a.eK e).1,p,λk b=>((l k).mp b).1,λk b=>((h k).mp b).1,QO,a.nm⟩,⟨o,l⟩,m,h⟩
def WF.CC(a:WF n st):st.fr.length<=st.hd.length:=by
 have:=yp a.nf a.lf
 grind
def WF.Uk(a:WF n st):st.mem.length<=st.hd.length:=by
 have:=yp a.nm a.lm
 grind
def wf0:WF n ⟨[],[],[],[]⟩:=⟨Y,λ_ h=>(nomatch h),λ_ h=>absurd h (Wt _),λ_ h=>absurd h (Wt _),.nil,λ_ h=>(nomatch h),.nil,λ_ h=>(nomatch h),λ_ h=>(nomatch h)⟩
theorem IH(st:JS)(h k:Nat)(v:Z Int)(a:st.fr.lookup h≠aG):(st.mH h v).cI k=if k=h then v else st.cI k:=by
 show((fE h v st.fr).lookup k).getD []=_;rw[A7];by_cases e:k=h
 ·rw[bR e,bR e];cases b:st.fr.lookup h with
  |none=>grind
  |some x=>rfl
 ·rw[bt e,bt e];rfl
def WF.mH(c:WF n st)(h:i<st.hd.length):WF n (st.mH (st.ai i) ((st.cI (st.ai i)).filter p)):=by
 refine⟨c.ll,c.fl,λk g=>?_,c.mem,c.nm,c.lm,?_,?_,?_⟩
 ·refine c7 (c.eK g) λe a b=>?_;show ∃d,(fE _ _ st.fr).lookup (st.ai k)=O d/\_;rw[A7]
  grind
 ·show((fE _ _ st.fr).map (·.1)).Nodup;rw[tT];exact c.nf
 ·show ∀k∈(fE _ _ st.fr).map (·.1),_;rw[tT];exact c.lf
 ·show ∀k∈(fE _ _ st.fr).map (·.1),_;rw[tT];exact c.hf
def yt(j:WF n st)(g:i<st.hd.length)(ss:Z Int)(f:Nat->Int):dE (st.mH (st.ai i) ((st.cI (st.ai i)).filter λz=>decide ((st.bX i).getD z.toNat 0∈ss))) f↔dE st f/\f i∈ss:=by
 have e:st.fr.lookup (st.ai i)≠aG:=by rw[(j.eK g).1];exact λz=>nomatch z
 constructor
 ·rintro⟨s,h⟩;have c:∀k,k<st.hd.length->s (st.ai k)∈st.cI (st.ai k)/\f k=ap (st.bX k) (s (st.ai k)):=λk c=>by
   obtain⟨a,b⟩:=h k c;refine⟨?_,b⟩;have d:s (st.ai k)∈(st.mH (st.ai i) ((st.cI (st.ai i)).filter λz=>decide ((st.bX i).getD z.toNat 0∈ss))).cI (st.ai k):=a;rw[IH st _ _ _ e] at d
   grind
  refine⟨⟨s,c⟩,?_⟩;obtain⟨a,b⟩:=h i g;have d:s (st.ai i)∈(st.mH (st.ai i) ((st.cI (st.ai i)).filter λz=>decide ((st.bX i).getD z.toNat 0∈ss))).cI (st.ai i):=a;rw[IH st _ _ _ e,bR Y] at d;rw[b];exact eL (Y4.mp d).2
 ·rintro⟨⟨s,h⟩,m⟩;refine⟨s,λk c=>?_⟩;obtain⟨a,b⟩:=h k c;refine⟨?_,b⟩;show s (st.ai k)∈(st.mH (st.ai i) ((st.cI (st.ai i)).filter λz=>decide ((st.bX i).getD z.toNat 0∈ss))).cI (st.ai k);rw[IH st _ _ _ e];by_cases z:st.ai k=st.ai i
  ·rw[bR z];rw[z] at a⊢;refine Y4.mpr ⟨a,d6 ?_⟩;rw[((h i g).2)] at m;exact m
  ·grind
def II(l:WF n st){f:Nat->Int}(d:dE st f)(g c:Nat)(b a:Int)(p:b∈st.cI g)(o:a∈st.cI c)(m:g=c->b=a):∃i,dE st i/\∀k,k<st.hd.length->(st.ai k=g->i k=ap (st.bX k) b)/\(st.ai k=c->i k=ap (st.bX k) a):=by
 obtain⟨s,h⟩:=d;refine⟨λk=>ap (st.bX k) ((λq=>if q=g then b else if q=c then a else s q) (st.ai k)),⟨λq=>if q=g then b else if q=c then a else s q,λk j=>⟨?_,Y⟩⟩,λk j=>⟨λe=>?_,λe=>?_⟩⟩;·grind
 ·grind
 ·grind
def yN(m:WF n st)(k:i<st.hd.length)(g:j<st.hd.length){f:Nat->Int}(d:dE st f):(f i,f j)∈jS (st.ai i) (st.ai j) (st.bX i) (st.bX j) (st.cI (st.ai i)) (st.cI (st.ai j)):=by
 obtain⟨s,h⟩:=d;obtain⟨c,b⟩:=h i k;obtain⟨l,a⟩:=h j g;unfold jS;by_cases e:st.ai i=st.ai j
 ·rw[bR e];refine Yk.mpr ⟨s (st.ai i),c,?_⟩;rw[b,a,←e];rfl
 ·rw[bt e];refine Ec.mpr ⟨f i,Yk.mpr ⟨_,c,b.symm⟩,Yk.mpr ⟨_,l,?_⟩⟩;rw[a];rfl
def Rk(b:WF n st)(h:i<st.hd.length)(g:j<st.hd.length)(a:∃f,dE st f)(m:(x,y)∈jS (st.ai i) (st.ai j) (st.bX i) (st.bX j) (st.cI (st.ai i)) (st.cI (st.ai j))):∃f,dE st f/\f i=x/\f j=y:=by
 obtain⟨E,l⟩:=a;unfold jS at m;by_cases e:st.ai i=st.ai j
 ·rw[bR e] at m;refine bh (Yk.mp m) λz c k=>?_;obtain⟨f,d,q⟩:=II b l (st.ai i) (st.ai i) z z c c (λ_=>Y);exact⟨f,d,((q i h).1 Y).trans (eJ (·.1) k),((q j g).1 e.symm).trans (eJ (·.2) k)⟩
 ·rw[bt e] at m;refine bh (Ec.mp m) λD t s=>?_;obtain⟨r,A,v⟩:=Yk.mp t;obtain⟨p,u,o⟩:=Yk.mp s;obtain⟨f,d,q⟩:=II b l (st.ai i) (st.ai j) r p A u (λz=>absurd z e);exact⟨f,d,(((q i h).1 Y).trans v).trans (eJ (·.1) o),((q j g).2 Y).trans (eJ (·.2) o)⟩
end
theorem Qg(a:Nat):∀(mv:Z Nat) (hd:Z Nat) (i:Nat),i<hd.length->(kX a mv hd)[i]?=if i∈mv then O a else hd[i]?
 |[],hd,i,h=>rfl
 |k::mv,hd,i,h=>by
  have b:=Qg a mv (hd.set k a) i (by rw[Jd];exact h);have c:kX a (k::mv) hd=kX a mv (hd.set k a):=Y
  grind
theorem Qh(a:Z Int):∀(mv:Z Nat) (ld:Z (Z Int)) (i:Nat),mv.Nodup->i<ld.length->(iO a mv ld)[i]?=if i∈mv then O (bQ (ld.getD i []) a) else ld[i]?
 |[],ld,i,_,h=>rfl
 |k::mv,ld,i,b,h=>by
  obtain⟨e,c⟩:=Y3.mp b;have d:iO a (k::mv) ld=iO a mv (rb a ld k):=Y;rw[d,(Qh a mv (rb a ld k) i c (by unfold rb;rwa[Jd]))];by_cases m:i∈mv
  ·unfold rb
   grind
  ·rw[bt m];unfold rb
   grind
def Qi(c:Nat)(b a:Z Nat):(kX c b a).length=a.length:=yo (λ_ _=>Jd) b a
def Qj(c:Z Int)(b:Z Nat)(a:Z (Z Int)):(iO c b a).length=a.length:=yo (λ_ _=>by unfold rb;exact Jd) b a
section
variable {st:JS}
def rY(j:WF n st)(d:∀k,k∈c↔k<st.hd.length/\st.ai k=st.ai a)(h:Z Int)(g:i<st.hd.length):(st.mv (st.ai b) (st.ai a) mb c h).ai i=if st.ai i=st.ai a then st.ai b else st.ai i:=by
 show(kX (st.ai b) c st.hd).getD i 0=_;rw[Yd,Qg _ _ _ _ g];by_cases e:st.ai i=st.ai a;·grind
 ·rw[bt (λz=>e ((d i).mp z).2),bt e,←Yd];rfl
def K0(g:WF n st)(h:b.Nodup)(d:∀k,k∈b↔k<st.hd.length/\st.ai k=st.ai a)(c:Z Int)(l:Nat)(j:i<st.hd.length):(st.mv l (st.ai a) mb b c).bX i=if st.ai i=st.ai a then bQ (st.bX i) c else st.bX i:=by
 show(iO c b st.ld).getD i []=_;rw[Yd,Qh _ _ _ _ h (by rwa[g.ll])];by_cases e:st.ai i=st.ai a;·rw[bR ((d i).mpr ⟨j,e⟩),bR e];rfl
 ·rw[bt (λz=>e ((d i).mp z).2),bt e,←Yd];rfl
def Ul(c a:Nat)(d:Z Int)(b:h≠a):(st.mv c a e g d).cI h=st.cI h:=by
 show((di a st.fr).lookup h).getD []=_;rw[vU b];rfl
def zk(a b:Nat)(c:Z Int):(st.mv a b d e c).hd.length=st.hd.length:=Qi _ _ _
def WF.mv(c:WF n st)(W:a<st.hd.length)(G:b<st.hd.length)(E:st.ai a≠st.ai b)(D:j.Nodup)(o:∀k,k∈j↔k<st.hd.length/\st.ai k=st.ai a)(Q:d.Nodup)(R:∀k,k∈d↔k<st.hd.length/\st.ai k=st.ai b)(L:st.mem.lookup (st.ai b)=O d)(H:full h=ar)(A:h.length=n):WF n (st.mv (st.ai b) (st.ai a) d j h):=by
 have len:(st.mv (st.ai b) (st.ai a) d j h).hd.length=st.hd.length:=zk _ _ _;have y:∀k,k<st.hd.length->(if st.ai k=st.ai a then st.ai b else st.ai k)≠st.ai a:=λk l=>by
  grind
 have u:(st.mv (st.ai b) (st.ai a) d j h).mem.map (·.1)=(st.mem.map (·.1)).filter λk=>decide (k≠st.ai a):=by
  show(fE _ _ (di _ st.mem)).map (·.1)=_;rw[tT,qr]
 have p:(st.mv (st.ai b) (st.ai a) d j h).fr.map (·.1)=(st.fr.map (·.1)).filter λk=>decide (k≠st.ai a):=qr _ _;refine⟨?_,λt F=>?_,λi g=>?_,λi g=>?_,?_,?_,?_,?_,?_⟩
 ·show(iO _ _ _).length=(kX _ _ _).length;rw[Qj,Qi];exact c.ll
 ·obtain⟨i,g,rfl⟩:=W1.mp F;have v:i<st.hd.length:=by
   have:(iO h j st.ld).length=st.ld.length:=Qj _ _ _;have X:i<(iO h j st.ld).length:=g;have:=c.ll;omega
  have e:=K0 (mb:=d) c D o h (st.ai b) v;have N:(st.mv (st.ai b) (st.ai a) d j h).bX i=(st.mv (st.ai b) (st.ai a) d j h).ld[i]:=by
   unfold JS.bX;rw[Yd,Yb g];rfl
  rw[←N,e];obtain⟨x,J⟩:=c.lN v;by_cases z:st.ai i=st.ai a;·rw[bR z];exact⟨rJ x H QO,by rw[jN];exact A⟩
  ·rw[bt z];exact⟨x,J⟩
 ·rw[len] at g;rw[rY (mb:=d) c o h g];show ∃m,(di (st.ai a) st.fr).lookup _=O m/\_;rw[vU (y i g)];by_cases e:st.ai i=st.ai a;·rw[bR e];exact⟨_,c.eK G⟩
  ·rw[bt e];exact⟨_,c.eK g⟩
 ·rw[len] at g;rw[rY (mb:=d) c o h g];show ∃q,(fE (st.ai b) (d++j) (di (st.ai a) st.mem)).lookup _=O q/\_;rw[A7,vU (y i g),vU (λz=>E z.symm),L];have iff:∀k,k<st.hd.length->((st.mv (st.ai b) (st.ai a) d j h).ai k=(if st.ai k=st.ai a then st.ai b else st.ai k)):=λk l=>rY (mb:=d) c o h l;by_cases e:(if st.ai i=st.ai a then st.ai b else st.ai i)=st.ai b
  ·rw[bR e];refine⟨_,Y,?_,λk=>?_⟩;·grind
   ·grind
  ·have P:¬st.ai i=st.ai a:=λz=>e (bR z);rw[bt P] at e⊢;rw[bt e];obtain⟨q,s,r,T⟩:=c.mem i g
   grind
 ·rw[u];exact c.nm.filter _
 ·rw[u,len];exact λk l=>c.lm k (Y4.mp l).1
 ·rw[p];exact c.nf.filter _
 ·rw[p,len];exact λk l=>c.lf k (Y4.mp l).1
 ·rw[p,len];intro k l;obtain⟨s,r⟩:=Y4.mp l;obtain⟨i,g,e⟩:=c.hf k s;refine⟨i,g,?_⟩;rw[rY (mb:=d) c o h g,bt (λz=>eL r (e.symm.trans z))];exact e
def Sy(g:WF n st)(t:a<st.hd.length)(j:b<st.hd.length)(m:st.ai a≠st.ai b)(J:L.Nodup)(p:∀k,k∈L↔k<st.hd.length/\st.ai k=st.ai a)(N:full l=ar)(H:l.length=n)(f:Nat->Int):
  dE (st.mv (st.ai b) (st.ai a) mb L (bQ (inv (st.bX a)) (bQ l (st.bX b)))) f↔∃s:Nat->Int,(∀i,i<st.hd.length->(0<=s (st.ai i)/\s (st.ai i)<(n:Int))/\(st.ai i≠st.ai a->s (st.ai i)∈st.cI (st.ai i))/\f i=ap (st.bX i) (s (st.ai i)))/\f a=ap l (f b):=by
 refine hI (g.lN t) λD y=>?_;obtain⟨P,o⟩:=g.lN j;have fi:=kT D;have X:(inv (st.bX a)).length=n:=by rw[gv];exact y
 generalize Q:bQ (inv (st.bX a)) (bQ l (st.bX b))=d;have G:∀z:Int,0<=z/\z<(n:Int)->ap d z=ap (inv (st.bX a)) (ap l (ap (st.bX b) z)):=λz r=>by
  rw[←Q,Cm (by rw[jN,o];exact r),Cm (by rwa[o])]
 have F:∀z:Int,0<=z/\z<(n:Int)->0<=ap d z/\ap d z<(n:Int):=λz r=>by
  rw[G z r];exact nP fi X (nP N H (nP P o r))
 have R:d.length=n:=by rwa[←Q,jN,jN]
 constructor
 ·rintro⟨s,h⟩;have u:=λi c=>by
   have x:=h i (by rwa[zk]);rw[rY g p d c,K0 g J p d _ c,Ul] at x;·exact x
   ·by_cases e:st.ai i=st.ai a;·rw[bR e];exact λz=>m z.symm
    ·rwa[bt e]
  have A:=u b j;rw[bt (λz=>m z.symm),bt (λz=>m z.symm)] at A;have v:=(g.eK j).2.2 _ A.1;have eq:∀i,i<st.hd.length->f i=ap (st.bX i) (if st.ai i=st.ai a then ap d (s (st.ai b)) else s (st.ai i)):=λi c=>by
   have x:=(u i c).2;by_cases e:st.ai i=st.ai a
   ·rw[bR e,bR e,Cm (by rw[R];exact v)] at x;rw[bR e];exact x
   ·rw[bt e,bt e] at x;rw[bt e];exact x
  refine⟨λq=>if q=st.ai a then ap d (s (st.ai b)) else s q,λi c=>⟨?_,λe=>?_,eq i c⟩,?_⟩
  ·show 0<=(if st.ai i=st.ai a then _ else _)/\(if st.ai i=st.ai a then _ else _)<_;by_cases e:st.ai i=st.ai a;·rw[bR e];exact F _ v
   ·rw[bt e];have x:=(u i c).1;rw[bt e] at x;exact(g.eK c).2.2 _ x
  ·show(if st.ai i=st.ai a then _ else _)∈_;have x:=(u i c).1;rw[bt e] at x;rwa[bt e]
  ·rw[eq a t,bR Y,G _ v,Sx D y (nP N H (nP P o v)),A.2]
 ·rintro⟨s,h,ef⟩;have T:=(h b j).1;have W:=(h a t).1;have E:ap d (s (st.ai b))=s (st.ai a):=by
   rw[G _ T,←(h b j).2.2,←ef,(h a t).2.2,yW D y W]
  refine⟨s,λi c=>?_⟩;rw[zk] at c;rw[rY g p d c,K0 g J p d _ c,Ul]
  ·by_cases e:st.ai i=st.ai a
   ·rw[bR e,bR e];refine⟨(h b j).2.1 (λz=>m z.symm),?_⟩;rw[Cm (by rwa[R]),E,←e];exact(h i c).2.2
   ·rw[bt e,bt e];exact⟨(h i c).2.1 e,(h i c).2.2⟩
  ·by_cases e:st.ai i=st.ai a;·rw[bR e];exact λz=>m z.symm
   ·rwa[bt e]
end
section
variable {st:JS}{i j:Nat}{ns:Z Int}
def Rl{P:Z (Int×Int)}(b:ns.Perm ((P.filter λq=>decide (a.getD q.1.toNat 0=q.2)).map (·.1)))(x:Int):x∈ns↔(x,ap a x)∈P:=by
 rw[b.mem_iff,Yk];constructor
 ·rintro⟨⟨u,v⟩,m,rfl⟩;obtain⟨d,c⟩:=Y4.mp m;have e:ap a u=v:=eL c;rw[e];exact d
 ·intro m;exact⟨_,Y4.mpr ⟨m,d6 Y⟩,Y⟩
abbrev JS.bW(st:JS)(i j:Nat):Z (Int×Int):=jS (st.ai i) (st.ai j) (st.bX i) (st.bX j) (st.cI (st.ai i)) (st.cI (st.ai j))
def IJ(d:st.ai i≠st.ai j)(m:(x,y)∈st.bW i j):(∃z∈st.cI (st.ai i),ap (st.bX i) z=x)/\∃z∈st.cI (st.ai j),ap (st.bX j) z=y:=by
 unfold JS.bW jS at m;rw[bt d] at m;refine bh (Ec.mp m) λn g e=>?_;refine bh (Yk.mp g) λc l k=>?_;obtain⟨b,h,a⟩:=Yk.mp e;exact⟨⟨c,l,k.trans (eJ (·.1) a)⟩,b,h,(eJ (·.2) a)⟩
def Um(a:WF n st)(c:i<st.hd.length)(m:(x,y)∈st.bW i j):0<=x/\x<(n:Int):=by
 obtain⟨h,g⟩:=a.lN c;by_cases e:st.ai i=st.ai j
 ·unfold JS.bW jS at m;rw[bR e] at m;obtain⟨z,b,d⟩:=Yk.mp m;have k:ap (st.bX i) z=x:=eJ (·.1) d;rw[←k];exact nP h g ((a.eK c).2.2 z b)
 ·obtain⟨⟨z,b,d⟩,_⟩:=IJ e m;exact d▸nP h g ((a.eK c).2.2 z b)
def Sz(c:WF n st)(h:n<=8)(g:i<st.hd.length)(d:j<st.hd.length):(st.bW i j).length<=64:=by
 have a:=Gv (c.eK g).2.1 (c.eK g).2.2;have b:=Gv (c.eK d).2.1 (c.eK d).2.2;unfold JS.bW jS;by_cases e:st.ai i=st.ai j;·grind
 ·rw[bt e,JJ (λ(x z:Int)=>((x,(st.bX j).getD z.toNat 0):Int×Int)),Ya];exact Yy (zF (show _<=8 by omega) (show _<=8 by omega)) (by decide)
def ZfN(b:WF n st)(a:i<st.hd.length)(k:j<st.hd.length)(e:st.ai i=st.ai j)(q:∀x,x∈ns↔(x,ap g x)∈st.bW i j)(f:Nat->Int):dE st f/\f i∈ns↔dE st f/\f j=ap g (f i):=by
 refine vi λd=>?_;constructor
 ·intro m;have c:=(q _).mp m;obtain⟨s,h⟩:=d;unfold JS.bW jS at c;rw[bR e] at c;refine bh (Yk.mp c) λz p l=>?_;have u:ap (st.bX j) z=ap g (f i):=eJ (·.2) l;obtain⟨t,r⟩:=b.lN a;have o:=(b.eK a).2.2;rw[(h j k).2,←e,←(Ck t r (o z p) (o _ (h i a).1) ((eJ (·.1) l).trans (h i a).2)),u]
 ·intro m;have:=yN b a k d
  grind
def Zhd(b:WF n st)(a:i<st.hd.length)(g:j<st.hd.length)(q:st.ai i≠st.ai j)(D:t.Nodup)(G:∀k,k∈t↔k<st.hd.length/\st.ai k=st.ai i)(o:full l=ar)(p:l.length=n)(r:∀x,x∈ns↔(x,ap l x)∈st.bW i j)(f:Nat->Int):
  dE (st.mv (st.ai j) (st.ai i) N t (bQ (inv (st.bX i)) (bQ (inv l) (st.bX j)))) f/\f i∈ns↔dE st f/\f j=ap l (f i):=by
 rw[Sy b a g q D G (kT o) (by rwa[gv])];refine hI (b.lN a) λv u=>?_;obtain⟨H,F⟩:=b.lN g;constructor
 ·rintro⟨⟨s,h,L⟩,m⟩;obtain⟨⟨z,E,J⟩,_⟩:=IJ q ((r _).mp m);have P:=Ck v u ((b.eK a).2.2 z E) (h i a).1 (J.trans (h i a).2.2);refine⟨⟨s,λk c=>⟨?_,(h k c).2.2⟩⟩,?_⟩;·grind
  ·have y:0<=f j/\f j<(n:Int):=by rw[(h j g).2.2];exact nP H F (h j g).1
   rw[L,Sx o p y]
 ·rintro⟨d,e⟩;have m:=yN b a g d;rw[e] at m;obtain⟨s,h⟩:=d;refine⟨⟨s,λk c=>⟨(b.eK c).2.2 _ (h k c).1,λ_=>(h k c).1,(h k c).2⟩,?_⟩,(r _).mpr m⟩;have A:0<=f i/\f i<(n:Int):=by rw[(h i a).2];exact nP v u ((b.eK a).2.2 _ (h i a).1)
  rw[e,yW o p A]
def Zhe(c:WF n st)(q:i<st.hd.length)(b:j<st.hd.length)(l:st.ai i≠st.ai j)(t:p.Nodup)(u:∀k,k∈p↔k<st.hd.length/\st.ai k=st.ai j)(D:full g=ar)(v:g.length=n)(o:∀x,x∈ns↔(x,ap g x)∈st.bW i j)(f:Nat->Int):
  dE (st.mv (st.ai i) (st.ai j) G p (bQ (inv (st.bX j)) (bQ g (st.bX i)))) f/\f i∈ns↔dE st f/\f j=ap g (f i):=by
 rw[Sy c b q (λz=>l z.symm) t u D v];refine hI (c.lN b) λE A=>?_;constructor
 ·rintro⟨⟨s,h,r⟩,m⟩;obtain⟨_,z,y,F⟩:=IJ l ((o _).mp m);have H:=Ck E A ((c.eK b).2.2 z y) (h j b).1 ((F.trans r.symm).trans (h j b).2.2);refine⟨⟨s,λk a=>⟨?_,(h k a).2.2⟩⟩,r⟩
  grind
 ·rintro⟨d,e⟩;have m:=yN c q b d;rw[e] at m;obtain⟨s,h⟩:=d;exact⟨⟨s,λk a=>⟨(c.eK a).2.2 _ (h k a).1,λ_=>(h k a).1,(h k a).2⟩,e⟩,(o _).mpr m⟩
end
def uc(b d:JS)(i j:Nat):Prop:=∀a c,a<b.hd.length->c<b.hd.length->(d.ai a=d.ai c↔b.ai a=b.ai c\/(b.ai a=b.ai i/\b.ai c=b.ai j)\/(b.ai a=b.ai j/\b.ai c=b.ai i))
def ZfO(e:st.ai i=st.ai j):uc st st i j:=λa c _ _=>⟨.inl,λh=>h.elim id λh=>h.elim (λh=>h.1.trans (e.trans h.2.symm)) λh=>h.1.trans (e.symm.trans h.2.symm)⟩
def Uo(d:WF n st)(e:∀k,k∈g↔k<st.hd.length/\st.ai k=st.ai a)(c:Z Int)(j:st.ai a≠st.ai b):uc st (st.mv (st.ai b) (st.ai a) l g c) a b:=λx y i h=>by
 rw[rY d e c i,rY d e c h]
 grind
def uc.symm(h:uc st e j i):uc st e i j:=λa c d b=>(h a c d b).trans (or_congr Iff.rfl or_comm)
structure Up(n:Nat)(st aN:JS)(b:cF)(i j:Nat)(tn:Z Int):Prop where
 wf:WF n aN
 len:aN.hd.length=st.hd.length
 yes:b=ar->(∃f,dE aN f)/\∀f,dE aN f↔dE st f/\f j=ap tn (f i)
 no:b=a_->aN=st/\∀f,dE st f->f j≠ap tn (f i)
 hds:b=ar->uc st aN i j
inductive Vl(C:U)(k:Z V)(H:Hp)(Q:VK)(E:XK):Prop
 |mk (l:JL) (st:JS) (n i j:Nat) (a:Z Int) (g:U) (v:k=[.ref l.J,.int (i:Int),.int (j:Int),.ref g]) (u:cS H C n l st) (s:WF n st) (t:(∃f,dE st f)) (r:n<=8) (q:st.hd.length<=400) (p:i<st.hd.length) (o:j<st.hd.length) (m:H g=O (.tup (a.map V.int))) (z:full a=ar) (y:a.length=n) (x:∀(b:cF) (d:JL) (h:JS) (e:Hp),d.J=l.J->(∀c∈d.fp,c∈l.fp)->Out l.fp H e->cS e C n d h->Up n st h b i j a->Q (.bl b) e)
def OG:aQ ["self","one","other","turn","sections"] mN (aI GX):=.a9
theorem Zi4(F:aP K "tie" "Joins.tie" GX f fd)(jc:oV K C)(vH:cJ P w K B I 4 "left" C mN (KY C))(vC:cJ P w K B I 1 "together" C sy (HV C))(EU:cJ P w K B I 3 "bring_together" C mN (Sv C))(vD:cJ P w K B I 2 "narrow" C C3 (JI K C))(bl:Bl B):aE P w K B I aO 5 f fd mN (Vl C):=by
 refine F.o OG λs H hr h=>?_;obtain⟨l,st,n,i,j,tn,X,rfl,D,g,L,G,m4,k,t,hu,R,tl,q⟩:=h;refine⟨_,(aq (bM 4 OG.nd (df vH hr (by decide) (pv 0) (aa (pv 1) (aa (pv 2) (aa (pv 3) ae))))) (aq (aU (jO (IB (K:=K) Y (IX (pv 4) (λ_=>Y)))) (av (aK gH)) bb) (aq (aU (jO (fh (df vC hr (by decide) (pv 0) (aa (pv 1) (aa (pv 2) ae))))) (av (bY (df EU hr (by decide) (pv 0) (aa (pv 1) (aa (pv 2) (aa (pv 3) ae)))))) bb) (aq (bY (df vD hr (by decide) (pv 0) (aa (pv 1) (aa (pv 4) ae)))) (av (aK gH)))))),?_⟩;refine zl5 ?_;intros;obtain⟨dx,ho⟩:=D.obj;have pf:=Sz g G k t;refine bT ?_;refine⟨_,Y,l.J,dx,_,Y,ho,Y,_,Y,_,Y,_,Y,l,st,n,i,j,_,_,_,_,_,_,tn,X,Y,D,g.one G k,g.one G t,hu,λp Q=>by rw[tl];exact Um g k (x:=p.1) (y:=p.2) Q,Yy pf (by decide),λp ns H1 np v Q pm _=>?_⟩;have J:=Rl pm;refine kr (λσ E=>σ=[O (.ref l.J),O (.int (i:Int)),O (.int (j:Int)),O (.ref X),O (.ref p)]/\E=H1/\ns≠[]) (λnx hn=>?_) ?_
 ·refine⟨_,Y,_,.inl ⟨_,aj.of Q,Y⟩,?_⟩;refine bC (λc=>?_) (λc=>aX (hn _ _ ⟨Y,Y,λz=>?_⟩))
  ·have e:ns=[]:=by
    cases ns with
    |nil=>rfl
    |cons a r=>cases c
   refine q a_ l st H1 Y (λ_ h=>h) (Out.of v) (D.same v) ⟨g,Y,(λz=>nomatch z),λ_=>⟨Y,λf d z=>?_⟩,(λz=>nomatch z)⟩;have m:=yN g k t d;rw[z] at m;have:=(J _).mpr m;rw[e] at this;cases this
  ·rw[z] at c;exact c Y
 rintro _ _ ⟨rfl,rfl,nne⟩;refine kr (λσ E=>σ=[O (.ref l.J),O (.int (i:Int)),O (.int (j:Int)),O (.ref X),O (.ref p)]/\∃(A:JL) (u:JS),A.J=l.J/\(∀c∈A.fp,c∈l.fp)/\Out l.fp H E/\cS E C n A u/\E p=O (.lst (ns.map V.int))/\WF n u/\u.hd.length=st.hd.length/\(∀f,dE u f/\f i∈ns↔dE st f/\f j=ap tn (f i))/\uc st u i j) (λnx hn=>?_) ?_
 ·refine⟨_,Y,l.J,dx,_,Y,v _ _ ho,Y,_,Y,_,Y,l,st,n,i,j,_,_,Y,D.same v,yX k,yX t,_,Y,?_⟩;refine bC (λc=>?_) (λc=>aX (hn _ _ ⟨Y,l,st,Y,λ_ h=>h,Out.of v,D.same v,Q,g,Y,?_,?_⟩))
  ·have ne:st.ai i≠st.ai j:=λz=>by
    rw[d6 z] at c;cases c
   refine d5 (g.two k t m4 ne) λma mb two js xN W=>?_;obtain ⟨pP,jd⟩:=js;refine⟨_,Y,l.J,dx,_,Y,v _ _ ho,Y,_,Y,_,Y,_,Y,l,st,n,i,j,_,_,_,_,tn,_,_,X,ma,mb,Y,D.same v,v _ _ hu,G,tl,R,two,λA u E N k2 o2 j2 es=>hn _ _ ⟨Y,A,u,N,k2,(Out.of v).trans o2,j2,o2 _ _ Q (D.ne np),?_⟩⟩;obtain⟨fi,li⟩:=g.lN k;obtain⟨fj,lj⟩:=g.lN t;rcases es with rfl|rfl;·exact⟨g.mv k t ne pP jd xN W two.mB (rJ (kT fi) (rJ (kT R) fj (by rw[gv];omega)) (by rw[gv,jN];omega)) (by rwa[jN,jN]),zk _ _ _,Zhd g k t ne pP jd R tl J,Uo g jd _ ne⟩
   ·exact⟨g.mv t k (λz=>ne z.symm) xN W pP jd two.mA (rJ (kT fj) (rJ R fi QO) (by rw[gv,jN];omega)) (by rwa[jN,jN]),zk _ _ _,Zhe g k t ne xN W R tl J,(Uo g W _ (λz=>ne z.symm)).symm⟩
  ·have e:st.ai i=st.ai j:=by
    by_cases z:st.ai i=st.ai j;·exact z
    ·rw[ij z] at c;exact absurd Y c
   exact ZfN g k t e J
  ·have e:st.ai i=st.ai j:=by
    by_cases z:st.ai i=st.ai j;·exact z
    ·rw[ij z] at c;exact absurd Y c
   exact ZfO e
 rintro _ E ⟨rfl,A,u,N,k2,o2,j2,eA,T,WD,iff,hdj⟩;obtain⟨xO,uT⟩:=j2.obj;have Ed:i<u.hd.length:=by rwa[WD]
 have fl:=T.CC;refine⟨_,Y,A.J,xO,_,by rw[N],uT,Y,_,Y,_,Y,A,u,n,i,_,_,_,ns,p,by rw[N];rfl,j2,T.one G Ed,QO,aj.of eA,λl2 H3 k3 k4 o3 j3=>?_⟩;refine q ar l2 _ H3 (k3.trans N) (λc hc=>k2 c (by rw[←k4];exact hc)) (λb o e nb=>o3 _ _ (o2 _ _ e nb) λz=>nb (k2 b z)) j3 ⟨T.mH Ed,WD,λ_=>⟨?_,λf=>?_⟩,(λz=>nomatch z),λ_=>hdj⟩
 ·obtain⟨x,mx⟩:∃x,x∈ns:=by
   cases ns with
   |nil=>exact absurd Y nne
   |cons a r=>exact⟨a,Ym⟩
  refine cu (Rk g k t L ((J x).mp mx)) λf d e1 e2=>?_;refine⟨f,(yt T Ed ns f).mpr ((iff f).mpr ⟨d,?_⟩)⟩;rw[e2,e1]
 ·exact(yt T Ed ns f).trans (iff f)
def oZ(a b:Z Int):Prop:=full a=ar/\full b=ar/\a.length=b.length/\2<=a.length/\a.length<=8
def Zdm(g:oZ xs d)(h:(z,ns)∈Cj xs d):full ns=ar/\ns.length=xs.length:=by
 refine ng g λb a e _ _=>?_;have c:=JG b a e;simp[Yp,Y1,gV,Prod.mk.injEq] at h;rcases h with⟨rfl,rfl⟩|⟨rfl,rfl⟩|⟨rfl,rfl⟩|⟨rfl,rfl⟩|⟨rfl,rfl⟩|⟨rfl,rfl⟩|⟨rfl,rfl⟩;·exact⟨b,Y⟩
 ·exact⟨c,by rw[tS];exact e.symm⟩
 ·exact⟨a,e.symm⟩
 ·exact⟨kT b,gv _⟩
 ·exact⟨kT c,by rw[gv,tS];exact e.symm⟩
 ·exact⟨kT a,by rw[gv];exact e.symm⟩
 ·exact⟨tX (sZ _),fR _⟩
structure Fc where
 k:af
 one:Nat
 aH:Int
 tn:Z Int
noncomputable abbrev bj:af:="said"
def gQ(F:Z Fc)(x y:Nat)(t:Z Int):Prop:=∃c∈F,c.k≠bj/\((c.one=x/\c.aH.toNat=y/\t=c.tn)\/(c.aH.toNat=x/\c.one=y/\t=inv c.tn))
def mD(n:Nat)(F:Z Fc)(g:Nat->bS Int):Prop:=(∀x y t u,gQ F x y t->g x=O u->g y=O (ap t u))/\(∀c∈F,c.k=bj->∀u,g c.one=O u->u=c.aH)/\∀k v,g k=O v->0<=v/\v<(n:Int)
structure fG(n m:Nat)(c:Fc):Prop where
 one:c.one<m
 iV:c.k≠bj->(0<=c.aH/\c.aH.toNat<m)/\full c.tn=ar/\c.tn.length=n
noncomputable def uC(L:Nat->Z (Nat×Z Int))(x:Nat)(p:Nat×Z Int):Nat->Z (Nat×Z Int):=λz=>if z=x then L x++[p] else L z
def vW{k k':Key}(h:aL a k=aG):aL (a++[(k,v)]) k'=if k'=k then O v else aL a k':=by
 rw[←ko v h];exact Ze_ _ _ _ _
def Rm:q∈uC L x p z↔q∈L z\/(z=x/\q=p):=by
 unfold uC;by_cases e:z=x
 ·rw[bR e,Yq,e];simp
 ·rw[bt e];simp[e]
def ZfP:¬gQ [] x y t:=λ⟨_,m,_⟩=>nomatch m
def rK:gQ (F++[c]) x y t↔gQ F x y t\/(c.k≠bj/\((c.one=x/\c.aH.toNat=y/\t=c.tn)\/(c.aH.toNat=x/\c.one=y/\t=inv c.tn))):=by
 constructor
 ·rintro⟨a,m,d,b⟩;rcases Yq.mp m with m|m;·exact .inl ⟨a,m,d,b⟩
  ·rw[Yi] at m;subst m;exact .inr ⟨d,b⟩
 ·rintro(⟨a,m,h⟩|h);·exact⟨a,Ys _ m,h⟩
  ·exact⟨c,Yg _ Ym,h⟩
theorem lookup_mem:∀{a:Z (Nat×α)} {k:Nat} {v:α},a.lookup k=O v->(k,v)∈a
 |[],_,_,h=>by simp at h
 |p::a,k,v,h=>by
  rw[W8] at h;by_cases e:k=p.1;·grind
  ·rw[beq_eq_false_iff_ne.mpr e] at h;exact Yx _ (lookup_mem h)
theorem mem_lookup:∀{a:Z (Nat×α)} {k:Nat} {v:α},(a.map (·.1)).Nodup->(k,v)∈a->a.lookup k=O v
 |p::a,k,v,b,h=>by
  obtain⟨d,c⟩:=Y3.mp (show(p.1::a.map (·.1)).Nodup from b);rw[W8];rcases Yp.mp h with h|h;·grind
  ·have e:k≠p.1:=λz=>d (by rw[←z];exact Yk.mpr ⟨_,h,Y⟩);rw[beq_eq_false_iff_ne.mpr e];exact mem_lookup c h
def Bh{k:Nat}(h:a.lookup k=O v):(a++[q]).lookup k=O v:=by
 grind
def Pm{k:Nat}(h:a.lookup k=aG):(a++[(k,v)]).lookup k=O v:=by
 grind
def BX(a:∀c∈F,fG n m c)(e:gQ F x y t):x<m/\y<m/\full t=ar/\t.length=n:=by
 refine cu e λc b i h=>?_;obtain⟨⟨l,d⟩,j,k⟩:=(a c b).iV i;have g:=(a c b).one;rcases h with⟨rfl,rfl,rfl⟩|⟨rfl,rfl,rfl⟩;·grind
 ·exact⟨d,g,kT j,by rwa[gv]⟩
inductive dZ(F:Z Fc)(x:Nat):Nat->Prop
 |refl:dZ F x x
 |step {y z:Nat} {t:Z Int}:dZ F x y->gQ F y z t->dZ F x z
structure BF(F:Z Fc)(n m x:Nat)(a:Int)(g:Z (Nat×Int)):Prop where
 nd:(g.map (·.1)).Nodup
 lt:∀p∈g,p.1<m/\0<=p.2/\p.2<(n:Int)
 hd:g.lookup x=O a
 snd:∀g',mD n F g'->g' x=O a->∀p∈g,g' p.1=O p.2
 conn:∀p∈g,dZ F x p.1
section
variable {n:Nat}{g:Z (Nat×Int)}
def bf0(c:x<m)(d:0<=a/\a<(n:Int)):BF F n m x a [(x,a)]:=by
 refine⟨QS,λp b=>?_,QS,λe _ h p b=>?_,λp b=>?_⟩;·grind
 ·grind
 ·rw[Yi] at b;exact b▸.refl
def BF.len(b:BF F n m x a g):g.length<=m:=by
 have:=yp b.nd λk d=>by
  obtain⟨p,c,rfl⟩:=Yk.mp d;exact(b.lt p c).1
 grind
def BF.add(b:BF F n m x a g)(o:∀c∈F,fG n m c)(e:gQ F k y t)(q:g.lookup k=O v)(s:g.lookup y=aG):BF F n m x a (g++[(y,ap t v)]):=by
 refine d7 (BX o e) λ_ j r l=>?_;have mk:=lookup_mem q;refine⟨?_,λp d=>?_,Bh b.hd,λi c h p d=>?_,λp d=>?_⟩
 ·rw[Yr];refine Wz.mpr ⟨b.nd,QS,λu D w A z=>?_⟩
  grind
 ·rcases Yq.mp d with d|d;·exact b.lt p d
  ·rw[Yi] at d;exact d▸⟨j,nP r l (b.lt _ mk).2⟩
 ·rcases Yq.mp d with d|d;·exact b.snd i c h p d
  ·rw[Yi] at d;exact d▸c.1 k y t v e (b.snd i c h _ mk)
 ·rcases Yq.mp d with d|d;·exact b.conn p d
  ·rw[Yi] at d;exact d▸.step (b.conn _ mk) e
def BF.ZjY(b:BF F n m x a g)(e:gQ F k y t)(l:g.lookup k=O v)(j:g.lookup y=O i)(o:i≠ap t v):¬∃d,mD n F d/\d x=O a:=by
 rintro⟨d,c,h⟩;have q:=b.snd d c h _ (lookup_mem j);have p:=c.1 k y t v e (b.snd d c h _ (lookup_mem l))
 grind
def BF.Zi5(b:BF F n m x a g)(k:c∈F)(i:c.k=bj)(l:g.lookup c.one=O v)(j:v≠c.aH):¬∃d,mD n F d/\d x=O a:=by
 rintro⟨d,e,h⟩;exact j (e.2.1 c k i v (b.snd d e h _ (lookup_mem l)))
def Cl(L:Nat->Z (Nat×Z Int))(g:Z (Nat×Int))(r:Nat):Prop:=∀p,g[r]?=O p->∀q∈L p.1,g.lookup q.1=O (ap q.2 p.2)
def BF.done(b:BF F n m x a g)(o:∀x y t,(y,t)∈L x↔gQ F x y t)(p:∀r,r<g.length->Cl L g r)(i:∀c∈F,c.k=bj->∀u,g.lookup c.one=O u->u=c.aH):mD n F (λk=>g.lookup k):=by
 refine⟨λk y t u e j=>?_,i,λk v h=>(b.lt _ (lookup_mem h)).2⟩;obtain⟨r,d,l⟩:=W1.mp (lookup_mem j);have:=p r d (k,u) (by rw[Yb d,l]) (y,t) ((o _ _ _).mpr e);exact this
end
def A8{a:Type}{b c:Z (Nat×a)}{k:Nat}{v:a}(h:b.lookup k=O v):(b++c).lookup k=O v:=by
 grind
def Cl.app(b:r<g.length)(c:Cl L g r):Cl L (g++e) r:=λp a q d=>by
 rw[Wl b] at a;exact A8 (c p a q d)
open Classical in
noncomputable def qH (F:Z Fc) (n x:Nat):Z Int:=(bK n).filter λa=>decide (∃g,mD n F g/\g x=O a)
def gS(f:Nat->Int)(c:Fc):Prop:=(c.k=bj->f c.one=c.aH)/\(c.k≠bj->f c.aH.toNat=ap c.tn (f c.one))
def pR(n m:Nat)(f:Nat->Int):Prop:=∀i,i<m->0<=f i/\f i<(n:Int)
structure fL(n:Nat)(st:JS)(F:Z Fc):Prop where
 wf:WF n st
 lO:∀c∈F,fG n st.hd.length c
 iff:∀f,dE st f↔pR n st.hd.length f/\∀c∈F,gS f c
 live:∃f,dE st f
 conn:∀i j,i<st.hd.length->j<st.hd.length->(st.ai i=st.ai j↔dZ F i j)
theorem Zbf(t:∀c∈F,fG n m c)(inr:pR n m f0)(b:∀c∈F,c.one=x\/gS f0 c)(j:mD n F g)(q:g x=O a):∃f,pR n m f/\(∀c∈F,gS f c)/\f x=a/\∀i,f i=(g i).getD (f0 i):=by
 refine⟨λi=>(g i).getD (f0 i),λi r=>?_,λc d=>⟨λp=>?_,λk=>?_⟩,by show(g x).getD _=a;rw[q];rfl,λ_=>Y⟩
 ·show 0<=(g i).getD (f0 i)/\(g i).getD (f0 i)<_;cases e:g i with
  |none=>exact inr i r
  |some v=>exact j.2.2 i v e
 ·show(g c.one).getD (f0 c.one)=_;cases e:g c.one with
  |none=>
   rcases b c d with h|h;·grind
   ·exact h.1 p
  |some v=>exact j.2.1 c d p v e
 ·show(g c.aH.toNat).getD (f0 c.aH.toNat)=ap c.tn ((g c.one).getD (f0 c.one));have o:gQ F c.one c.aH.toNat c.tn:=⟨c,d,k,.inl ⟨Y,Y,Y⟩⟩;have l:gQ F c.aH.toNat c.one (inv c.tn):=⟨c,d,k,.inr ⟨Y,Y,Y⟩⟩;cases e:g c.one with
  |some v=>
   rw[j.1 _ _ _ v o e];rfl
  |none=>
   have s:g c.aH.toNat=aG:=by
    cases z:g c.aH.toNat with
    |none=>rfl
    |some v=>rw[j.1 _ _ _ v l z] at e;cases e
   rw[s];rcases b c d with h|h;·grind
   ·exact h.2 k
def ZbD(d:∀c∈F,fG n m c)(inr:pR n m f0)(b:∀c∈F,c.one=x\/gS f0 c)(h:mD n F g)(e:g x=O a):∃f,pR n m f/\(∀c∈F,gS f c)/\f x=a:=by
 refine nh (Zbf d inr b h e) λf k j i _=>?_
 grind
open Classical in
def Zep:a∈qH F n x↔(0<=a/\a<(n:Int))/\∃g,mD n F g/\g x=O a:=by
 unfold qH;rw[Y4,hU];refine and_congr_left λ_=>?_;unfold bK;rw[Yk];constructor
 ·rintro⟨i,b,rfl⟩;have:=Wk.mp b;omega
 ·intro h;exact⟨a.toNat,Wk.mpr QO,Jt h.1⟩
section
variable {n:Nat}{st:JS}{F:Z Fc}
def fL.put(h:fL n st F)(l:fG n st.hd.length c)(g:WF n b)(a:b.hd.length=st.hd.length)(d:∃f,dE b f)(iff:∀f,dE b f↔dE st f/\gS f c)(m:∀i j,i<st.hd.length->j<st.hd.length->(b.ai i=b.ai j↔dZ (F++[c]) i j)):fL n b (F++[c]):=by
 refine⟨g,λk e=>?_,λf=>?_,d,by rwa[a]⟩
 ·rw[a];rcases Yq.mp e with e|e;·exact h.lO k e
  ·grind
 ·rw[iff,h.iff,a,and_assoc]
  grind
def mf(a:i<st.hd.length):(st.more n).ai i=st.ai i:=by
 show(st.hd++[_]).getD i 0=st.hd.getD i 0
 grind
def qm:(st.more n).ai st.hd.length=st.hd.length:=by
 show(st.hd++[_]).getD _ 0=_;simp
def Ro(a:WF n st)(b:i<st.hd.length):(st.more n).bX i=st.bX i:=by
 show(st.ld++[_]).getD i []=st.ld.getD i [];rw[Yd,Wl (by rwa[a.ll]),←Yd]
def Qk(a:WF n st):(st.more n).bX st.hd.length=bK n:=by
 show(st.ld++[_]).getD _ []=_;rw[←a.ll];simp
theorem G0{b:Type}{a:Z (Nat×b)}{k:Nat}{v:b}(h:k∉a.map (·.1)):(a++[(k,v)]).lookup k=O v:=by
 refine Pm ?_;cases e:a.lookup k with
 |none=>rfl
 |some x=>exact absurd (HX e) h
def jL:(st.more n).hd.length=st.hd.length+1:=by
 show(st.hd++[_]).length=_;simp
def Zeq(n:Nat):full (bK n)=ar/\(bK n).length=n:=⟨tX (sZ (bK n)),fR n⟩
def SA(h:0<=z/\z<(n:Int)):ap (bK n) z=z:=by
 show(bK n).getD z.toNat 0=z;rw[Yd,nH QO]
 grind
def JK:z∈bK n↔0<=z/\z<(n:Int):=by
 unfold bK;rw[Yk];constructor;·grind
 ·intro h;exact⟨z.toNat,Wk.mpr QO,Jt h.1⟩
def WF.zL(a:WF n st)(b:i<st.hd.length):st.ai i<st.hd.length:=a.lf _ (HX (a.eK b).1)
def WF.more(c:WF n st):WF n (st.more n):=by
 have p:st.hd.length∉st.mem.map (·.1):=λz=>Wi _ (c.lm _ z);have q:=λz=>Wi _ (c.lf _ z);have s:(st.more n).mem.map (·.1)=st.mem.map (·.1)++[st.hd.length]:=by
  show(st.mem++[(st.hd.length,[st.hd.length])]).map (·.1)=_;rw[Yr];rfl
 have o:(st.more n).fr.map (·.1)=st.fr.map (·.1)++[st.hd.length]:=by
  show(st.fr++[(st.hd.length,bK n)]).map (·.1)=_;rw[Yr];rfl
 have r:∀{m:Z Nat},m.Nodup->st.hd.length∉m->(m++[st.hd.length]).Nodup:=λ{m} h D=>Wz.mpr ⟨h,QS,λu v w y z=>by
  have:w=st.hd.length:=by simpa using y
  rw[z,this] at v;exact D v⟩
 refine⟨?_,λt A=>?_,λi d=>?_,λi d=>?_,?_,?_,?_,?_,?_⟩
 ·show(st.ld++[_]).length=(st.hd++[_]).length;rw[Yl,Yl,c.ll];rfl
 ·rcases Yq.mp A with h|h;·exact c.fl t h
  ·rw[Yi] at h;exact h▸Zeq n
 ·rw[jL] at d;by_cases z:i=st.hd.length
  ·rw[z,qm];exact⟨bK n,G0 q,MJ.O4 n,λ z=>JK.mp⟩
  ·rw[mf (eO (fI d) z)];exact⟨_,Bh (c.eK (eO (fI d) z)).1,(c.eK (eO (fI d) z)).2⟩
 ·rw[jL] at d;by_cases z:i=st.hd.length
  ·rw[z,qm];refine⟨[st.hd.length],G0 p,QS,λk=>?_⟩;rw[Yi,jL];constructor
   ·rintro rfl;exact⟨(tq _),qm⟩
   ·rintro⟨g,j⟩;by_cases w:k=st.hd.length;·exact w
    ·rw[mf (eO (fI g) w)] at j;have:=c.zL (eO (fI g) w);omega
  ·refine cu (c.mem i (eO (fI d) z)) λx e a b=>?_;rw[mf (eO (fI d) z)];refine⟨x,Bh e,a,λk=>?_⟩;rw[b,jL];constructor
   ·rintro⟨g,j⟩;exact⟨(oO g),by rwa[mf g]⟩
   ·rintro⟨g,j⟩;by_cases w:k=st.hd.length
    ·rw[w,qm] at j;have:=c.zL (eO (fI d) z);omega
    ·rw[mf (eO (fI g) w)] at j;exact⟨(eO (fI g) w),j⟩
 ·exact s▸r c.nm p
 ·rw[s,jL];intro k l;rcases Yq.mp l with h|h;·have:=c.lm k h;exact oO this
  ·rw[Yi] at h;exact Am (mV h)
 ·exact o▸r c.nf q
 ·rw[o,jL];intro k l;rcases Yq.mp l with h|h;·have:=c.lf k h;exact oO this
  ·rw[Yi] at h;exact Am (mV h)
 ·rw[o,jL];intro k l;rcases Yq.mp l with h|h
  ·refine bh (c.hf k h) λi d e=>?_;exact⟨i,(oO d),by rwa[mf d]⟩
  ·rw[Yi] at h;exact⟨st.hd.length,(tq _),by rw[qm,h]⟩
def Ql(c:WF n st)(f:Nat->Int):dE (st.more n) f↔dE st f/\(0<=f st.hd.length/\f st.hd.length<(n:Int)):=by
 have g:(st.more n).cI st.hd.length=bK n:=by
  show((st.fr++[(st.hd.length,bK n)]).lookup st.hd.length).getD []=_;rw[G0 (λz=>Wi _ (c.lf _ z))];rfl
 have e:∀i,i<st.hd.length->(st.more n).cI (st.ai i)=st.cI (st.ai i):=λi a=>by
  show((st.fr++[(st.hd.length,bK n)]).lookup _).getD []=_;rw[Bh (c.eK a).1];rfl
 constructor
 ·rintro⟨s,h⟩;refine⟨⟨s,λi a=>?_⟩,?_⟩
  ·have x:=h i (by exact jL▸oO a);rw[mf a,Ro c a,e i a] at x;exact x
  ·have x:=h st.hd.length (by exact jL▸tq _);rw[qm,Qk c,g] at x;have b:=JK.mp x.1;rwa[x.2,SA b]
 ·rintro⟨⟨s,h⟩,b⟩;refine⟨λq=>if q=st.hd.length then f st.hd.length else s q,λi a=>?_⟩;rw[jL] at a;by_cases z:i=st.hd.length
  ·rw[z,qm,Qk c,g];show(if st.hd.length=st.hd.length then _ else _)∈_/\f st.hd.length=ap _ (if st.hd.length=st.hd.length then _ else _);rw[bR Y,SA b];exact⟨JK.mpr b,Y⟩
  ·have d:=(eO (fI a) z)
   have:=c.zL d;rw[mf d,Ro c d,e i d]
   grind
theorem Zhf(a:∀c∈F,fG n m c)(h:dZ F x y)(b:x<m):y<m:=by
 cases h with
 |refl=>exact b
 |step _ e=>exact(BX a e).2.1
theorem fL.more(a:fL n st F)(v:0<n):fL n (st.more n) F:=by
 refine⟨a.wf.more,λc r=>?_,λf=>?_,?_,λi j d m=>?_⟩
 ·have ok:=a.lO c r;exact jL▸⟨Wr ok.one,λp=>⟨⟨(ok.iV p).1.1,Wr (ok.iV p).1.2⟩,(ok.iV p).2⟩⟩
 ·rw[Ql a.wf,a.iff,jL];constructor
  ·rintro⟨⟨o,q⟩,x⟩;refine⟨λi d=>?_,q⟩;by_cases z:i=st.hd.length;·rwa[z]
   ·exact o i (eO (fI d) z)
  ·rintro⟨o,q⟩;exact⟨⟨λi d=>o i (oO d),q⟩,o _ (tq _)⟩
 ·obtain⟨u,s,h⟩:=a.live;refine⟨λi=>if i=st.hd.length then 0 else u i,(Ql a.wf _).mpr ⟨⟨s,λi d=>?_⟩,?_⟩⟩;·grind
  ·grind
 ·rw[jL] at d m;by_cases l:i=st.hd.length
  ·by_cases g:j=st.hd.length;·rw[l,g];exact⟨λ_=>.refl,λ_=>Y⟩
   ·rw[l,qm,mf (eO (fI m) g)];have:=a.wf.zL (i:=j) (eO (fI m) g);refine⟨λz=>QO,λz=>?_⟩;have b:∀{k:Nat},dZ F st.hd.length k->k=st.hd.length:=λ{k} h=>by
     induction h with
     |refl=>rfl
     |step _ e t=>rw[t] at e;exact absurd (BX a.lO e).1 (Wi _)
    exact absurd (b z) g
  ·by_cases g:j=st.hd.length
   ·rw[g,qm,mf (eO (fI d) l)];have:=a.wf.zL (i:=i) (eO (fI d) l);refine⟨λz=>QO,λz=>?_⟩;have:=Zhf a.lO z (eO (fI d) l);omega
   ·rw[mf (eO (fI d) l),mf (eO (fI m) g)];exact a.conn i j (eO (fI d) l) (eO (fI m) g)
def ZjZ:fL n ⟨[],[],[],[]⟩ []:=⟨wf0,λ_ h=>(nomatch h),λf=>⟨λ_=>⟨λ_ h=>absurd h (Wt _),λ_ h=>(nomatch h)⟩,λ_=>⟨λ_=>0,λ_ h=>absurd h (Wt _)⟩⟩,⟨λ_=>0,λ_=>0,λ_ h=>absurd h (Wt _)⟩,λ_ _ h=>absurd h (Wt _)⟩
end
theorem dZ.mono(h:∀x y t,gQ F x y t->gQ G x y t)(c:dZ F x y):dZ G x y:=by
 induction c with
 |refl=>exact .refl
 |step _ e a=>exact .step a (h _ _ _ e)
theorem dZ.trans(c:dZ F x y)(d:dZ F y z):dZ F x z:=by
 induction d with
 |refl=>exact c
 |step _ e a=>exact .step a e
def Zer(h:c.k=bj):dZ (F++[c]) x y↔dZ F x y:=
 ⟨dZ.mono λ_ _ _ e=>(rK.mp e).elim id λz=>absurd h z.1,dZ.mono λ_ _ _ e=>rK.mpr (.inl e)⟩
theorem ZfQ(h:c.k≠bj):dZ (F++[c]) x y↔dZ F x y\/(dZ F x c.one/\dZ F c.aH.toNat y)\/(dZ F x c.aH.toNat/\dZ F c.one y):=by
 have up:∀{x y:Nat},dZ F x y->dZ (F++[c]) x y:=λd=>d.mono λ_ _ _ e=>rK.mpr (.inl e);have j:gQ (F++[c]) c.one c.aH.toNat c.tn:=rK.mpr (.inr ⟨h,.inl ⟨Y,Y,Y⟩⟩);have i:gQ (F++[c]) c.aH.toNat c.one (inv c.tn):=rK.mpr (.inr ⟨h,.inr ⟨Y,Y,Y⟩⟩);constructor
 ·intro d;induction d with
  |refl=>exact .inl .refl
  |step _ e g=>
   rcases rK.mp e with e|⟨_,⟨rfl,rfl,_⟩|⟨rfl,rfl,_⟩⟩
   ·rcases g with a|⟨a,b⟩|⟨a,b⟩;·exact .inl (.step a e)
    ·exact .inr (.inl ⟨a,.step b e⟩)
    ·exact .inr (.inr ⟨a,.step b e⟩)
   ·rcases g with a|⟨a,b⟩|⟨a,b⟩;·exact .inr (.inl ⟨a,.refl⟩)
    ·exact .inr (.inl ⟨a,.refl⟩)
    ·exact .inl a
   ·rcases g with a|⟨a,b⟩|⟨a,b⟩;·exact .inr (.inr ⟨a,.refl⟩)
    ·exact .inl a
    ·exact .inr (.inr ⟨a,.refl⟩)
 ·rintro(a|⟨a,b⟩|⟨a,b⟩);·exact up a
  ·exact((up a).step j).trans (up b)
  ·exact((up a).step i).trans (up b)
section
variable {n i j:Nat}{st X:JS}{F:Z Fc}{k:af}{tn:Z Int}{b:cF}
def ZfR(a:fL n st F)(c:Up n st X b i j tn)(o:k≠bj)(p:fG n st.hd.length ⟨k,i,(j:Int),tn⟩):(b=ar->fL n X (F++[⟨k,i,(j:Int),tn⟩]))/\(b=a_->fL n X F/\∀f,dE X f->¬gS f ⟨k,i,(j:Int),tn⟩):=by
 have g:∀f,gS f ⟨k,i,(j:Int),tn⟩↔f j=ap tn (f i):=λf=>⟨λh=>by have:=h.2 o;rwa [show((⟨k,i,(j:Int),tn⟩:Fc).aH.toNat)=j from Wb j] at this,λh=>⟨λz=>absurd z o,λ_=>by rwa[show((⟨k,i,(j:Int),tn⟩:Fc).aH.toNat)=j from Wb j]⟩⟩;refine⟨λe=>?_,λe=>?_⟩
 ·obtain⟨s,iff⟩:=c.yes e;have r:=p.one;have q:j<st.hd.length:=by
   have:=(p.iV o).1.2
   rwa [show((⟨k,i,(j:Int),tn⟩:Fc).aH.toNat)=j from Wb j] at this
  refine a.put p c.wf c.len s (λf=>by rw[iff,g]) λx y m l=>?_;rw[c.hds e x y m l,ZfQ o,show((⟨k,i,(j:Int),tn⟩:Fc).aH.toNat)=j from Wb j,a.conn x y m l,a.conn x i m r,a.conn x j m q,←a.conn j y q l,←a.conn i y r l];exact or_congr_right (or_congr (vi λ_=>eq_comm) (vi λ_=>eq_comm))
 ·obtain⟨t,no⟩:=c.no e;exact t▸⟨a,λf d z=>no f d ((g f).mp z)⟩
def SD(c:fL n st F)(e:i<st.hd.length)(m:a∈(st.cI (st.ai i)).map λz=>(st.bX i).getD z.toNat 0):fL n (st.mH (st.ai i) ((st.cI (st.ai i)).filter λz=>decide ((st.bX i).getD z.toNat 0∈[a]))) (F++[⟨bj,i,a,tn⟩]):=by
 refine c.put ⟨e,absurd Y⟩ (c.wf.mH e) Y ?_ (λf=>?_) λx y o l=>?_
 ·obtain⟨z,g,rfl⟩:=Yk.mp m;obtain⟨r,p⟩:=c.live;obtain⟨f,d,q⟩:=II c.wf p (st.ai i) (st.ai i) z z g g (λ_=>Y);exact⟨f,(yt c.wf e _ f).mpr ⟨d,by rw[(q i e).1 Y];exact Ym⟩⟩
 ·rw[yt c.wf e,Yi];refine vi λ_=>?_;exact⟨λh=>⟨λ_=>h,absurd Y⟩,λh=>h.1 Y⟩
 ·rw[Zer Y];exact c.conn x y o l
def Zi6(g:fL n st F)(c:i<st.hd.length)(m:a∉(st.cI (st.ai i)).map λz=>(st.bX i).getD z.toNat 0)(f:Nat->Int)(d:dE st f):¬gS f ⟨bj,i,a,tn⟩:=by
 obtain⟨s,h⟩:=d;intro z;have e:f i=a:=z.1 Y;refine m (Yk.mpr ⟨s (st.ai i),(h i c).1,?_⟩);rw[←e,(h i c).2];rfl
end
abbrev bI:=Z (af×af)
noncomputable def aw(a:bI)(i:Nat):af:=(a.getD i ("","")).1
def bo(a:bI)(c:Fc):Key:=if c.k=bj then .inl c.aH else .inr (aw a c.aH.toNat)
def e_(a:bI)(z:Nat)(c:Fc):Z Key:=[.inl (z:Int),.inr c.k,.inr (aw a c.one),bo a c]
def keyOf(k a:af):Key->Z Key
 |.inl b=>[.inr k,.inr a,.inl b]
 |.inr b=>if k="sibling" then[.inr k,.inr (_L.sr a b),.inr (_L.su a b)] else[.inr k,.inr a,.inr b]
def gn(a:bI)(c:Fc):Z Key:=keyOf c.k (aw a c.one) (bo a c)
noncomputable def cT(k:af):cF:=decide (k="mother")||decide (k="father")
def gq(a:bI)(b:Z (Nat×Fc)):Z (Z Key×V):=b.map λp=>(gn a p.2,.int (p.1:Int))
def cD(a:bI)(b:Z (Nat×Fc)):Z (Z Key×V):=(b.filter λp=>cT p.2.k).map λp=>([.inr p.2.k,.inr (aw a p.2.one)],kV (bo a p.2))
noncomputable def jB(a:bI):Z (Key×V):=a.zipIdx.map λp=>(.inr p.1.1,.int (p.2:Int))
structure C5 where
 way:Int
 row:Z Key
 c0:Nat
 c1:Nat
def oW(H:Hp)(a:U)(d:C5):Prop:=∃r,H a=O (.tup [.int d.way,.ref r,.int (d.c0:Int),.int (d.c1:Int)])/\H r=O (.tup (d.row.map kV))
structure BS where
 ps:bI
 fs:Z (Nat×Fc)
 co:Nat
 dn:Z C5
 un:Z C5
noncomputable def BS.F(b:BS):Z Fc:=b.fs.map (·.2)
structure BL where
 h:U
 L:U
 sd:U
 pl:U
 fc:U
 kn:U
 pr:U
 dn:U
 un:U
 rk:V
 cq:Z U
 je:Z U
 lP:Z U
 fH:Z U
noncomputable def BL.own(l:BL):Z U:=[l.h,l.sd,l.pl,l.fc,l.kn,l.pr,l.dn,l.un]
def BL.fp(l:BL):Z U:=l.own++l.fH
structure fX(K:ag)(C:U):Prop where
 cls:gT K C
 wA:dt K C "land"
 tY:dt K C "sides"
 oK:dt K C "places"
 rT:dt K C "facts"
 BY:dt K C "known"
 v9:dt K C "parents"
 rL:dt K C "coming"
 Uq:dt K C "done"
 Rp:dt K C "undone"
 jh:dt K C "reckoned"
noncomputable abbrev HF(L b e h g d:U)(j:Int)(i a:U)(c:V):Z (af×V):=[("land",.ref L),("sides",.ref b),("places",.ref e),("facts",.ref h),("known",.ref g),("parents",.ref d),("coming",.int j),("done",.ref i),("undone",.ref a),("reckoned",c)]
def ZkW(a b c d e f g h i j:V):cQ "reckoned" j (cQ "undone" i (cQ "done" h (cQ "coming" g (cQ "parents" f (cQ "known" e (cQ "facts" d (cQ "places" c (cQ "sides" b (cQ "land" a [])))))))))=
  ([("land",a),("sides",b),("places",c),("facts",d),("known",e),("parents",f),("coming",g),("done",h),("undone",i),("reckoned",j)]:Z (af×V)):=rfl
noncomputable abbrev iu(a:bI):Z (Key×V):=a.map λp=>(.inr p.1,.str p.2)
inductive uD(H:Hp)(CJ:U)(n:Nat)(l:BL)(b:BS):Prop
 |no (e:l.rk=.aA) (d:l.fH=[])
 |at_ (c:JL) (st:JS) (e:l.rk=.ref c.J) (d:l.fH=c.fp) (h:cS H CJ n c st) (g:fL n st b.F) (len:st.hd.length=b.ps.length) (i:∀a∈l.own,a∉c.fp)
structure bA(H:Hp)(C CL CJ:U)(l:BL)(xs ys:Z Int)(b:BS):Prop where
 obj:∃dx,H l.h=O (.ins C dx (HF l.L l.sd l.pl l.fc l.kn l.pr (b.co:Int) l.dn l.un l.rk))
 land:∀H',Out l.fp H H'->jk H' CL l.L xs ys
 dz:H l.sd=O (.dK (iu b.ps))
 places:H l.pl=O (.dK (jB b.ps))
 facts:H l.fc=O (.dK (bH (b.fs.map (·.1)) l.cq))
 fact:Paired (λa (p:Nat×Fc)=>H a=O (.tup ((e_ b.ps p.1 p.2).map kV))) l.cq b.fs
 known:H l.kn=O (.dT (gq b.ps b.fs))
 parents:H l.pr=O (.dT (cD b.ps b.fs))
 done:H l.dn=O (.lst (l.je.map V.ref))
 mO:Paired (oW H) l.je b.dn
 jn:H l.un=O (.lst (l.lP.map V.ref))
 oX:Paired (oW H) l.lP b.un
 uo:uD H CJ xs.length l b
 nd:l.own.Nodup
def oW.out(o:Out fp H g)(t:∀a e,H a=O (.tup e)->a∉fp)(h:oW H a d):oW g a d:=by
 refine bh h λr c b=>?_;exact⟨r,o _ _ c (t _ _ c),o _ _ b (t _ _ b)⟩
def cS.off(j:cS H C n l st)(h:H a=O (.tup xs)):a∉l.fp:=by
 intro z;unfold JL.fp at z;simp[Yp] at z;rcases z with rfl|rfl|rfl|rfl|rfl|z
 ·obtain⟨b,e⟩:=j.obj
  grind
 ·rw[j.heads] at h;cases h
 ·rw[j.jo] at h;cases h
 ·rw[j.ku] at h;cases h
 ·rw[j.frees] at h;cases h
 ·obtain⟨y,e⟩:=yB j.mem z
  grind
theorem cS.iP(j:cS H C n l st)(o:Out fp H g)(v:∀a∈fp,a∉l.fp)(s:∀a∈fp,a∉l.cq)(t:∀a q,H a=O (.tup q)->a∉fp):cS g C n l st:=by
 have k:∀{a:U} {u:HO},H a=O u->a∈l.fp->g a=O u:=λ{a u} e m=>o _ _ e λz=>v _ z m;obtain⟨r,e⟩:=j.obj;refine⟨⟨r,k e (by simp[JL.fp])⟩,k j.heads (by simp[JL.fp]),k j.jo (by simp[JL.fp]),_L.Paired.bN j.lead λa x h=>o _ _ h (t _ _ h),k j.ku (by simp[JL.fp]),?_,k j.frees (by simp[JL.fp]),?_,j.nd,j.out⟩
 ·have d:∀{b:Z U} {ps:Z (Nat×Z Nat)},Paired (λa p=>H a=O (.lst (eC p.2))) b ps->(∀a∈b,a∈l.fp)->Paired (λa p=>g a=O (.lst (eC p.2))) b ps:=by
   intro b ps p;induction p with
   |nil=>intro _;exact .nil
   |cons f _ i=>intro m;exact .cons (k f (m _ Ym)) (i λa c=>m a (Yx _ c))
  exact d j.mem λa c=>by simp[JL.fp,c]
 ·have d:∀{b:Z U} {ps:Z (Nat×Z Int)},Paired (λa p=>H a=O (.lst (p.2.map V.int))) b ps->(∀a∈b,a∈l.cq)->Paired (λa p=>g a=O (.lst (p.2.map V.int))) b ps:=by
   intro b ps p;induction p with
   |nil=>intro _;exact .nil
   |cons f _ i=>intro m;exact .cons (o _ _ f λz=>s _ z (m _ Ym)) (i λa c=>m a (Yx _ c))
  exact d j.free λa c=>c
section
variable {H:Hp}{l:BL}{b:BS}
def bA.landAt(h:bA H C CL CJ l xs ys b):jk H CL l.L xs ys:=h.land H (Out.of (ah.refl _))
theorem bA.tup(h:bA H C CL CJ l xs g b)(e:H a=O (.tup us)):a∉l.fp:=by
 intro z;unfold BL.fp BL.own at z;rcases Yq.mp z with z|z
 ·simp[Yp,Y1,gV] at z;rcases z with rfl|rfl|rfl|rfl|rfl|rfl|rfl|rfl
  ·obtain⟨j,q⟩:=h.obj
   grind
  ·rw[h.dz] at e;cases e
  ·rw[h.places] at e;cases e
  ·rw[h.facts] at e;cases e
  ·rw[h.known] at e;cases e
  ·rw[h.parents] at e;cases e
  ·rw[h.done] at e;cases e
  ·rw[h.jn] at e;cases e
 ·cases h.uo with
  |no _ c=>grind
  |at_ i st _ c d=>rw[c] at z;exact d.off e z
theorem bA.there(h:bA H C CL CJ l xs g b)(z:a∈l.fp):H a≠aG:=by
 intro e;unfold BL.fp BL.own at z;rcases Yq.mp z with z|z
 ·simp[Yp,Y1,gV] at z;rcases z with rfl|rfl|rfl|rfl|rfl|rfl|rfl|rfl
  ·obtain⟨j,q⟩:=h.obj
   grind
  ·rw[h.dz] at e;cases e
  ·rw[h.places] at e;cases e
  ·rw[h.facts] at e;cases e
  ·rw[h.known] at e;cases e
  ·rw[h.parents] at e;cases e
  ·rw[h.done] at e;cases e
  ·rw[h.jn] at e;cases e
 ·cases h.uo with
  |no _ c=>grind
  |at_ i st _ c d=>rw[c] at z;exact d.ne e z
theorem uD.same(g:ah H k)(h:uD H CJ n l b):uD k CJ n l b:=by
 cases h with
 |no c a=>exact .no c a
 |at_ e st c a i d len j=>exact .at_ e st c a (i.same g) d len j
def bA.same(g:ah H k)(h:bA H C CL CJ l xs d b):bA k C CL CJ l xs d b:=
 ⟨let⟨i,e⟩:=h.obj;⟨i,g _ _ e⟩,λj o=>h.land j ((Out.of g).trans o),g _ _ h.dz,g _ _ h.places,g _ _ h.facts,_L.Paired.bN h.fact λ _ _=>g _ _,g _ _ h.known,g _ _ h.parents,g _ _ h.done,_L.Paired.bN h.mO λ_ _ ⟨r,c,a⟩=>⟨r,g _ _ c,g _ _ a⟩,g _ _ h.jn,_L.Paired.bN h.oX λ_ _ ⟨r,c,a⟩=>⟨r,g _ _ c,g _ _ a⟩,h.uo.same g,h.nd⟩
def fF(d c:Z U)(H:Hp):Prop:=∀a∈c,a∈d\/H a=aG
def fF.refl(a:Z U)(H:Hp):fF a a H:=λ_ h=>.inl h
def JM(o:Out fp H H1)(g:fF fp c H)(d:Out c H1 H2):Out fp H H2:=λa u e n=>d _ _ (o _ _ e n) λz=>(g a z).elim n λq=>by rw[e] at q;cases q
theorem fF.trans(g:fF fp d H)(o:Out fp H H1)(h:fF d c H1):fF fp c H:=λa z=>by
 rcases h a z with q|q;·exact g a q
 ·by_cases m:a∈fp;·exact .inl m
  ·right
   cases e:H a with
   |none=>rfl
   |some u=>rw[o _ _ e m] at q;cases q
def fF.same(s:ah H H1)(d:fF fp c H1):fF fp c H:=λa z=>(d a z).imp id λq=>s.free q
def ZfS(c:fL n st F)(m:(k,a)∈st.fr):a≠[]:=by
 refine bh (c.wf.hf k (Yk.mpr ⟨_,m,Y⟩)) λi g e=>?_;obtain⟨f,s,d⟩:=c.live;have q:=(d i g).1;unfold JS.cI at q;rw[e,(mem_lookup c.wf.nf m)] at q
 grind
theorem Zhg(A:cS H CJ n z st)(v:fL n st b.F)(h:∃W t,H l.h=O (.ins C W t))(R:∃k,H l.sd=O (.dK k))(Q:∃k,H l.pl=O (.dK k))(P:∃k,H l.fc=O (.dK k))(N:∃k,H l.kn=O (.dT k))(L:∃k,H l.pr=O (.dT k))(J:∃c:Z U,H l.dn=O (.lst (c.map V.ref)))(G:∃c:Z U,H l.un=O (.lst (c.map V.ref))):∀a∈l.own,a∉z.cq:=by
 intro a g F;obtain⟨p,E,e⟩:∃p∈st.fr,H a=O (.lst (p.2.map V.int)):=by
  have j:∀{c:Z U} {d:Z (Nat×Z Int)},Paired (λa p=>H a=O (.lst (p.2.map V.int))) c d->a∈c->∃p∈d,H a=O (.lst (p.2.map V.int)):=by
   intro c d u;induction u with
   |nil=>intro h;cases h
   |cons f _ D=>
    intro h;rcases Yp.mp h with rfl|h;·exact⟨_,Ym,f⟩
    ·refine bh (D h) λq m e=>?_;exact⟨q,Yx _ m,e⟩
  exact j A.free F
 have ne:=ZfS v (k:=p.1) E;have lst:∀c:Z U,H a=O (.lst (c.map V.ref))->False:=λc q=>by
  rw[q] at e;have i:c.map V.ref=p.2.map V.int:=by injection e with e;injection e
  cases o:p.2 with
  |nil=>exact ne o
  |cons x r=>
   rw[o] at i;cases c with
   |nil=>cases i
   |cons y s=>injection i with T _;cases T
 unfold BL.own at g;simp[Yp,Y1,gV] at g;rcases g with rfl|rfl|rfl|rfl|rfl|rfl|rfl|rfl;·obtain⟨_,_,q⟩:=h;rw[q] at e;cases e
 ·obtain⟨_,q⟩:=R;rw[q] at e;cases e
 ·obtain⟨_,q⟩:=Q;rw[q] at e;cases e
 ·obtain⟨_,q⟩:=P;rw[q] at e;cases e
 ·obtain⟨_,q⟩:=N;rw[q] at e;cases e
 ·obtain⟨_,q⟩:=L;rw[q] at e;cases e
 ·obtain⟨_,q⟩:=J;exact lst _ q
 ·obtain⟨_,q⟩:=G;exact lst _ q
def bA.K1(h:bA H C CL CJ l xs j b)(g:cS H CJ xs.length d st)(c:fL xs.length st b.F):∀a∈l.own,a∉d.cq:=
 Zhg g c (let⟨i,e⟩:=h.obj;⟨i,_,e⟩) ⟨_,h.dz⟩ ⟨_,h.places⟩ ⟨_,h.facts⟩ ⟨_,h.known⟩ ⟨_,h.parents⟩ ⟨_,h.done⟩ ⟨_,h.jn⟩
def bA.build(h:bA H C CL CJ l xs z b)(v:l'.h=l.h)(x:l'.L=l.L)(n:l'.sd=l.sd)(r:l'.pl=l.pl)(t:l'.fc=l.fc)(s:l'.kn=l.kn)(q:l'.pr=l.pr)(u:l'.dn=l.dn)(m:l'.un=l.un)(o:Out l.fp H c)(g:fF l.fp l'.fp H)
  (E:∃L,c l.h=O (.ins C L (HF l.L l.sd l.pl l.fc l.kn l.pr (b'.co:Int) l.dn l.un l'.rk)))(Q:c l.sd=O (.dK (iu b'.ps)))(i:c l.pl=O (.dK (jB b'.ps)))(k:c l.fc=O (.dK (bH (b'.fs.map (·.1)) l'.cq)))
  (e:Paired (λa (p:Nat×Fc)=>c a=O (.tup ((e_ b'.ps p.1 p.2).map kV))) l'.cq b'.fs)(j:c l.kn=O (.dT (gq b'.ps b'.fs)))(d:c l.pr=O (.dT (cD b'.ps b'.fs)))
  (y:c l.dn=O (.lst (l'.je.map V.ref)))(J:Paired (oW c) l'.je b'.dn)(P:c l.un=O (.lst (l'.lP.map V.ref)))(F:Paired (oW c) l'.lP b'.un)(A:uD c CJ xs.length l' b'):bA c C CL CJ l' xs z b':=by
 have D:l'.own=l.own:=by unfold BL.own;rw[v,n,r,t,s,q,u,m]
 refine⟨?_,λN G=>?_,by rwa[n],by rwa[r],by rwa[t],e,by rwa[s],by rwa[q],by rwa[u],J,by rwa[m],F,A,by exact D▸h.nd⟩;·rwa[v,x,n,r,t,s,q,u,m]
 ·exact x▸h.land N (JM o g G)
theorem bA.owned(h:bA H C CL CJ l xs L b)(F:l'.h=l.h)(G:l'.L=l.L)(s:l'.sd=l.sd)(v:l'.pl=l.pl)(y:l'.fc=l.fc)(x:l'.kn=l.kn)(t:l'.pr=l.pr)(A:l'.dn=l.dn)(r:l'.un=l.un)
  (D:(l'.rk=l.rk/\l'.fH=l.fH/\b'.F=b.F/\b'.ps.length=b.ps.length)\/(l'.rk=.aA/\l'.fH=[]))(o:Out l.own H H')
  (Q:∃dx,H' l.h=O (.ins C dx (HF l.L l.sd l.pl l.fc l.kn l.pr (b'.co:Int) l.dn l.un l'.rk)))(dz:H' l.sd=O (.dK (iu b'.ps)))(j:H' l.pl=O (.dK (jB b'.ps)))(q:H' l.fc=O (.dK (bH (b'.fs.map (·.1)) l'.cq)))
  (d:Paired (λa (p:Nat×Fc)=>H' a=O (.tup ((e_ b'.ps p.1 p.2).map kV))) l'.cq b'.fs)(m:H' l.kn=O (.dT (gq b'.ps b'.fs)))(c:H' l.pr=O (.dT (cD b'.ps b'.fs)))
  (J:H' l.dn=O (.lst (l'.je.map V.ref)))(X:Paired (oW H') l'.je b'.dn)(jn:H' l.un=O (.lst (l'.lP.map V.ref)))(R:Paired (oW H') l'.lP b'.un):bA H' C CL CJ l' xs L b'/\fF l.fp l'.fp H:=by
 have k:l'.own=l.own:=by unfold BL.own;rw[F,s,v,y,x,t,A,r]
 have sub:∀a∈l'.fp,a∈l.fp:=λa z=>by
  unfold BL.fp at z⊢;rw[k] at z;rcases D with⟨_,e,_⟩|⟨_,e⟩;·rw[e] at z;exact z
  ·rw[e,Y8] at z;exact Ys _ z
 have of:Out l.fp H H':=λa u e n=>o _ _ e λz=>n (Ys _ z);refine⟨⟨?_,λH2 T=>?_,by rwa[s],by rwa[v],by rwa[y],d,by rwa[x],by rwa[t],by rwa[A],X,by rwa[r],R,?_,by exact k▸h.nd⟩,λa z=>.inl (sub a z)⟩;·rwa[F,G,s,v,y,x,t,A,r]
 ·exact G▸h.land H2 (JM of (λa z=>.inl (sub a z)) T)
 ·rcases D with⟨i,g,P,N⟩|⟨i,g⟩
  ·cases h.uo with
   |no e1 e2=>exact .no (by rwa[i]) (by rwa[g])
   |at_ jl st e1 e2 E W len iy=>
    exact .at_ jl st (by rwa[i]) (by rwa[g]) (E.iP o iy (h.K1 E W) λa us e=>λz=>h.tup e (Ys _ z)) (by rwa[P]) (by rwa[N]) (by rwa[k])
  ·exact .no i g
end
noncomputable abbrev lD:Z (af×af):=[("mother","m"),("father","f"),("wed","w"),("sibling","s")]
abbrev r9(a b:Z Int):Z (af×Z Int):=[("mother",inv a),("father",inv (bQ a b)),("wed",b),("sibling",bK a.length)]
structure fY(xs ys:Z Int)(m:Nat)(c:Fc):Prop where
 ok:fG xs.length m c
 kind:c.k=bj\/(c.k,c.tn)∈r9 xs ys
 L3:c.k=bj->0<=c.aH/\c.aH<(xs.length:Int)
def Zdn:(bj,a)∉r9 xs ys:=by
 intro h;simp[Yp,Y1,gV] at h;rcases h with⟨h,_⟩|⟨h,_⟩|⟨h,_⟩|⟨h,_⟩<;>exact absurd h QK
def Gw(h:(k,a)∈r9 xs ys):∃r,PyProof.Rows.KTD.datumAt k lD=O r/\(r,a)∈Cj xs ys:=by
 simp[Yp,Y1,gV] at h;rcases h with⟨rfl,rfl⟩|⟨rfl,rfl⟩|⟨rfl,rfl⟩|⟨rfl,rfl⟩;·exact⟨"m",QK,QS⟩
 ·exact⟨"f",QK,QS⟩
 ·exact⟨"w",QK,QS⟩
 ·exact⟨"s",QK,QS⟩
def fY.wI(g:fY xs ys m c)(h:c.k≠bj):(c.k,c.tn)∈r9 xs ys:=g.kind.resolve_left h
def ZfT(d:oZ xs b)(h:(k,a)∈r9 xs b):full a=ar/\a.length=xs.length:=by
 refine bh (Gw h) λr _ c=>?_;exact Zdm d c
theorem rU(b:(a.map (·.1)).Nodup)(d:i<a.length):aL (jB a) (.inr (aw a i))=O (.int (i:Int)):=by
 have g:∀(a:bI) (k i:Nat),(a.map (·.1)).Nodup->i<a.length->aL ((a.zipIdx k).map λp=>((.inr p.1.1:Key),V.int (p.2:Int))) (.inr (aw a i))=O (.int ((k+i:Nat):Int)):=by
  intro a;induction a with
  |nil=>intro k i _ h;cases h
  |cons p a n=>
   intro k i b d;obtain⟨l,j⟩:=Y3.mp (show(p.1::a.map (·.1)).Nodup from b);rw[List.zipIdx_cons,Wv];cases i with
   |zero=>exact fU Y
   |succ i=>
    have c:i<a.length:=by simpa using d
    have e:aw (p::a) (i+1)=aw a i:=Y;have m:aw a i∈a.map (·.1):=by
     unfold aw;rw[Yd,Yb c];exact Yk.mpr ⟨_,Wo c,Y⟩
    rw[e,fK (λz=>l (by rwa[We z])),n (k+1) i j c]
    congr 2
    omega
 have:=g a 0 i b d
 rwa [DT] at this
def oG(h:c.k=bj):bo a c=.inl c.aH:=bR h
def iH(h:c.k≠bj):bo ps c=.inr (aw ps c.aH.toNat):=bt h
inductive BZ(a:Z V)(H:Hp)(Q:VK)(E:XK):Prop
 |mk (k:af) (c:a=[.str k]) (b:Q (.bl (i4 lD k)) H)
inductive IK(CL:U)(d:Z V)(H:Hp)(Q:VK)(E:XK):Prop
 |mk (L:U) (k:af) (b a c:Z Int) (i:d=[.ref L,.str k]) (h:jk H CL L b a) (e:(k,c)∈r9 b a) (g:∀t:U,bZ H t c->Q (.ref t) H)
inductive CD(c:Z V)(H:Hp)(Q:VK)(E:XK):Prop
 |mk (k a:af) (o:Key) (g:c=[.str k,.str a,kV o]) (e:k="sibling"->∃b,o=.inr b) (d:Nw H (.tup ((keyOf k a o).map kV)) Q)
inductive Rq(CL CJ:U)(k:Z V)(H:Hp)(Q:VK):Prop
 |mk (e:JL) (st:JS) (L l m:U) (b g:Z Int) (d:bI) (F:Z Fc) (z:Nat) (c:Fc) (D:k=[.ref e.J,.ref L,.ref l,.ref m]) (t:cS H CJ b.length e st) (o:fL b.length st F) (s:jk H CL L b g) (y:oZ b g) (u:H l=O (.dK (jB d))) (n:(d.map (·.1)).Nodup) (len:st.hd.length=d.length) (p:d.length<=100) (x:H m=O (.tup ((e_ d z c).map kV))) (A:fY b g d.length c) (r:∃f,dE st f/\gS f c)
   (q:∀(v:V) (h:JL) (i:JS) (j:Hp),h.J=e.J->(∀a∈h.fp,a∈e.fp)->Out e.fp H j->cS j CJ b.length h i->fL b.length i (F++[c])->i.hd.length=st.hd.length->Q v j):Rq CL CJ k H Q
def Km(CL CJ:U):Sp:=λa H Q _=>Rq CL CJ a H Q
inductive SE(CL CJ:U)(g:Z V)(H:Hp)(Q:VK):Prop
 |mk (i:JL) (st:JS) (L h j:U) (b e:Z Int) (a:bI) (F:Z Fc) (z:Nat) (c:Fc) (t:g=[.ref i.J,.ref L,.ref h,.ref j]) (o:cS H CJ b.length i st) (l:fL b.length st F) (n:jk H CL L b e) (r:oZ b e) (p:H h=O (.dK (jB a))) (k:(a.map (·.1)).Nodup) (len:st.hd.length=a.length) (m:a.length<=100) (q:H j=O (.tup ((e_ a z c).map kV))) (s:fY b e a.length c)
   (q1:(∃f,dE st f/\gS f c)->∀d,ah H d->Q (.bl ar) d) (q2:(∀f,dE st f->¬gS f c)->∀d,ah H d->Q (.bl a_) d):SE CL CJ g H Q
def Ur(CL CJ:U):Sp:=λa H Q _=>SE CL CJ a H Q
def B0:∀b:cF,decide (V.str k=V.str bj)=b->(b=ar↔k=bj):=λb e=>by
 grind
def Zes:aQ ["kind"] ["kind"] (aI JC):=.a9
def Zet(F:aP K "is_tie" "is_tie" JC f fd)(c:B "TIE_LETTERS"=O (.ref a))(b:qM K a lD):aE P w K B I aO 1 f fd ["kind"] BZ:=by
 refine F.o Zes λs H d h=>?_;obtain⟨k,rfl,q⟩:=h;refine⟨_,(av (aK (BO (ZiE (K:=K) Y) (pv 0) (c9 (v:=.ref a) Y c Y) QU))),?_⟩;exact⟨_,Y,k,a,lD,Y,Y,b,q⟩
noncomputable abbrev zM:Z af:=["land","kind"]
def Zco:aQ zM zM (aI Hn):=.a9
def Zcp(F:aP K "tie_turn" "tie_turn" Hn f fd)(n:B "TIE_LETTERS"=O (.ref a))(l:qM K a lD)(D:wH K CL)(m:HasFn P w K B I 1 "is_tie" ["kind"] BZ)(y:cJ P w K B I 1 "step" CL C1 (Ui CL)):aE P w K B I aO 2 f fd zM (IK CL):=by
 refine F.o Zco λs H c h=>?_;obtain⟨L,k,i,g,j,rfl,b,t,q⟩:=h;refine⟨_,(aq (aU (jO (fh (aY m c (aa (pv 1) ae)))) gw bb) (av (aK (df y c (by decide) (pv 0) (aa (bc (Ke (K:=K) Y) (c9 (v:=.ref a) Y n Y) (pv 1)) ae))))),?_⟩;refine ie ?_;intros;refine bh (Gw t) λr e p=>?_;have o:i4 lD k=ar:=by unfold i4;rw[e];rfl
 obtain⟨x,d,A,E,z,N,G,J,st,u,_⟩:=id b;refine⟨_,Y,k,Y,_,Y,?_⟩;rw[o];refine bV (aX ?_);exact⟨_,Y,L,x,_,Y,u,Y,_,Y,a,k,r,lD,Y,Y,l,e,L,r,i,g,j,Y,b,p,q⟩
noncomputable abbrev wW:Z af:=["kind","one","other"]
def Zcq:aQ wW wW (aI Ho):=.a9
theorem Zcr(F:aP K "fact_key" "fact_key" Ho f fd)(g:B "SIBLING"=O (.str "sibling" t1))(d:Bl B):aE P w K B I aO 1 f fd wW CD:=by
 refine F.o Zcq λs H l h=>?_;obtain⟨k,a,o,rfl,j,q⟩:=h;refine⟨_,(aq (aU (bG b_ (pv 0) (c9 (v:=.str "sibling") Y g ⟨_,Y⟩)) (av (aK (dq (aa (pv 0) (aa (hJ (Zc_ Y) Y d.U9 TC (aa (pv 1) (aa (pv 2) ae))) (aa (hJ (Zda Y) Y d.ZjH ZiR (aa (pv 1) (aa (pv 2) ae))) ae)))))) bb) (av (aK (dq (aa (pv 0) (aa (pv 1) (aa (pv 2) ae))))))),?_⟩;refine⟨_,Y,Y,_,Y,?_⟩;by_cases e:k="sibling"
 ·obtain⟨b,rfl⟩:=j e;rw[d6 (by rw[e])];refine⟨_,Y,_,Y,_,Y,_,_,Y,_,Y,_,Y,_,_,Y,by show 3<=sizeLine;decide,?_⟩;have c:keyOf k a (.inr b)=[.inr k,.inr (_L.sr a b),.inr (_L.su a b)]:=bR e;rw[c] at q;exact q
 ·rw[ij (λz=>e (V.str.inj z))];refine⟨_,Y,_,Y,_,Y,by show 3<=sizeLine;decide,?_⟩;have c:(keyOf k a o).map kV=[.str k,.str a,kV o]:=by
   cases o with
   |inl i=>rfl
   |inr b=>
    have:keyOf k a (.inr b)=[.inr k,.inr a,.inr b]:=bt e;rw[this];rfl
  rw[c] at q;exact q
noncomputable abbrev uE:Z af:=["joins","land","places","fact"]
noncomputable abbrev WE:Z af:=["joins","land","places","fact","number","kind","one","other"]
def yq:aQ WE uE (aI GI):=.a9
theorem ZbE(F:aP K "keep_fact" "keep_fact" GI f fd)(mE:B "SAID"=O (.str "said" t1))(vV:HasFn P w K B I 2 "tie_turn" zM (IK CL))(G3:cJ P w K B I 3 "say" CJ C4 (Vj CJ))(G4:cJ P w K B I 5 "tie" CJ mN (Vl CJ)):aE P w K B I aO 6 f fd uE (Km CL CJ):=by
 refine F.o yq λs H g h=>?_;obtain⟨i,st,L,r,fa,l,ys,m,FF,z,c,rfl,D,d,la,gd,G,nd,len,m4,hf,k,lv,q⟩:=h;refine⟨_,(aq (mC (pv 3) (hZ (K:=K) Y Y (bq (a8 4 yq.nd) (bq (a8 5 yq.nd) (bq (a8 6 yq.nd) (bq (a8 7 yq.nd) hV)))))) (aq (aU (bG b_ (pv 5) (c9 (v:=.str "said") Y mE ⟨_,Y⟩)) (av (aK (df G3 g (by decide) (pv 0) (aa (dy (bw g) (pv 2) (pv 6) (λ_ _=>Y)) (aa (pv 7) ae))))) bb) (av (aK (df G4 g (by decide) (pv 0) (aa (dy (bw g) (pv 2) (pv 6) (λ_ _=>Y)) (aa (dy (bw g) (pv 2) (pv 7) (λ_ _=>Y)) (aa (aY vV g (aa (pv 1) (aa (pv 5) ae))) ae)))))))),?_⟩;refine me ?_;intros;obtain⟨dx,ho⟩:=D.obj;have X:=rU nd k.ok.one;have n8:=gd.2.2.2.2;have j:c.one<st.hd.length:=by exact len▸k.ok.one
 refine⟨_,Y,fa,_,Y,aC.of hf,Y,_,_,Y,aS ⟨_,_,Y,aS ⟨_,_,Y,aS ⟨_,_,Y,aS ⟨Y,?_⟩⟩⟩⟩⟩;refine⟨_,Y,Y,_,Y,bC (λR=>?_) (λR=>aX ?_)⟩
 ·have e:=(B0 _ Y).mp R;have J:kV (bo m c)=.int c.aH:=by rw[oG e];rfl
  refine⟨_,Y,i.J,dx,_,Y,ho,Y,_,Y,_,Y,r,_,Y,c_ G X,_,Y,?_⟩;have one:=d.wf.one n8 j;have Ay:=d.wf.CC;refine bh lv λf0 Q p=>?_;obtain⟨o,h0⟩:=id Q;have mm:c.aH∈(st.cI (st.ai c.one)).map (λz=>(st.bX c.one).getD z.toNat 0):=Yk.mpr ⟨o (st.ai c.one),(h0 c.one j).1,by rw[←p.1 e,(h0 c.one j).2];rfl⟩;refine⟨i,st,l.length,c.one,_,_,_,c.aH,?_,D,one,QO,λ_ x W A y u E=>?_,absurd mm⟩
  ·show[V.ref i.J,V.int (c.one:Int),kV (bo m c)]=_;rw[J]
  ·have n:c=⟨bj,c.one,c.aH,c.tn⟩:=by rw[←e]
   refine q _ x _ W A (λa ha=>by rw[y] at ha;exact ha) u E ?_ Y;exact n▸SD d j mm
 ·have e:=λz=>R ((B0 _ Y).mpr z);refine c7 (k.ok.iV e) λlX ft tl=>?_;obtain ⟨o0,om⟩:=lX;have J:kV (bo m c)=.str (aw m c.aH.toNat):=by rw[iH e];rfl
  have p2:=rU nd om;have hj:c.aH.toNat<st.hd.length:=by rwa[len]
  refine⟨_,Y,i.J,dx,_,Y,ho,Y,_,Y,_,Y,r,_,Y,c_ G X,_,Y,_,Y,r,.int (c.aH.toNat:Int),Y,?_,_,Y,_,Y,L,c.k,l,ys,c.tn,Y,la,k.wI e,λt ht=>?_⟩
  ·exact J▸c_ G p2
  refine⟨i,st,l.length,c.one,c.aH.toNat,c.tn,t,Y,D,d.wf,d.live,n8,QO,j,hj,ht,ft,tl,λb x aN W A y u E to=>?_⟩;have n:c=⟨c.k,c.one,(c.aH.toNat:Int),c.tn⟩:=by rw[Jt o0]
  have T:fG l.length st.hd.length ⟨c.k,c.one,(c.aH.toNat:Int),c.tn⟩:=by rw[←n,len];exact k.ok
  obtain⟨tm,tf⟩:=ZfR d to e T;have N:b=ar:=by
   cases N:b with
   |true=>rfl
   |false=>
    refine bh lv λf0 Q p=>?_;obtain⟨es,no⟩:=to.no N;exact absurd (p.2 e) (no f0 Q)
  refine q _ x aN W A y u E ?_ to.len;have:=tm N;rw[←n] at this;exact this
def yr:aQ WE uE (aI GJ):=.a9
theorem ZbF(F:aP K "fact_fits" "fact_fits" GJ f fd)(mE:B "SAID"=O (.str "said" t1))(vV:HasFn P w K B I 2 "tie_turn" zM (IK CL))(oC:cJ P w K B I 2 "open_at" CJ zJ (BE CJ))(vH:cJ P w K B I 4 "left" CJ mN (KY CJ)):aE P w K B I aO 5 f fd uE (Ur CL CJ):=by
 refine F.o yr @λbL A outer vs Q E s H k h=>?_;obtain⟨N,st,L,G,fa,u,ys,i,FF,z,c,rfl,ja,b,la,gd,o,nd,len,m4,hf,T,q1,q2⟩:=h;have hu:=k.oS;refine⟨_,(aq (mC (pv 3) (hZ (K:=K) (n:=4) Y Y (bq (a8 4 yr.nd) (bq (a8 5 yr.nd) (bq (a8 6 yr.nd) (bq (a8 7 yr.nd) hV)))))) (aq (aU (bG b_ (pv 5) (c9 (v:=.str "said") Y mE ⟨_,Y⟩)) (av (aK (BO (kH (K:=K) Y) (pv 7) (df oC k (by decide) (pv 0) (aa (dy (bw k) (pv 2) (pv 6) (λ_ _=>Y)) ae)) QU))) bb) (av (aK (fO (Si (K:=K) Y (ZiH hu)) (df vH k (by decide) (pv 0) (aa (dy (bw k) (pv 2) (pv 6) (λ_ _=>Y)) (aa (dy (bw k) (pv 2) (pv 7) (λ_ _=>Y)) (aa (aY vV k (aa (pv 1) (aa (pv 5) ae))) ae)))) (cO ae)))))),?_⟩;refine hH ja.obj λdx ho=>?_;have p1:=rU nd T.ok.one;have J:u.length<=8:=gd.2.2.2.2;have g:c.one<st.hd.length:=by rw[len];exact T.ok.one
 refine me ?_;intros;refine⟨_,Y,fa,_,Y,aC.of hf,Y,_,_,Y,aS ⟨_,_,Y,aS ⟨_,_,Y,aS ⟨_,_,Y,aS ⟨Y,?_⟩⟩⟩⟩⟩;refine⟨_,Y,Y,_,Y,bC (λcc=>?_) (λcc=>aX ?_)⟩
 ·have e:c.k=bj:=(B0 _ Y).mp cc;have W:kV (bo i c)=.int c.aH:=by rw[oG e];rfl
  have one:=b.wf.one J g;refine⟨_,Y,_,Y,N.J,dx,_,Y,ho,Y,_,Y,_,Y,G,_,Y,c_ o p1,N,st,u.length,c.one,_,_,_,Y,ja,one.hd,one.ld,one.fr,one.dO,one.jz,λp j X np q D so q5=>⟨p,_,Y,.inl (aj.of q5),?_,JH j,?_⟩⟩
  ·show jP (kV (bo i c))=ar;rw[W];rfl
  show Q (.bl (if(a_:cF)=ar then !eW (kV (bo i c)) (j.map V.int) else eW (kV (bo i c)) (j.map V.int))) X;rw[bt Yn,W,BW];have ec:c=⟨bj,c.one,c.aH,c.tn⟩:=by rw[←e]
  by_cases m:c.aH∈j
  ·rw[d6 m];refine q1 ?_ X q;have Zd:=SD (tn:=c.tn) b g (D.subset m);obtain⟨f,d⟩:=Zd.live;obtain⟨_,s⟩:=(Zd.iff f).mp d;refine⟨f,((yt b.wf g _ f).mp d).1,?_⟩;rw[ec];exact s _ (Yg _ Ym)
  ·rw[ij m];refine q2 (λf d=>?_) X q;rw[ec];exact Zi6 b g (λz=>m (D.symm.subset z)) f d
 ·have e:c.k≠bj:=λz=>cc ((B0 _ Y).mpr z);refine c7 (T.ok.iV e) λlX ft tl=>?_;obtain ⟨o0,om⟩:=lX;have W:kV (bo i c)=.str (aw i c.aH.toNat):=by rw[iH e];rfl
  have p2:=rU nd om;have R:c.aH.toNat<st.hd.length:=by rw[len];exact om
  have pf:=Sz b.wf J g R;refine⟨_,Y,N.J,dx,_,Y,ho,Y,_,Y,_,Y,G,_,Y,c_ o p1,_,Y,_,Y,G,.int (c.aH.toNat:Int),Y,?_,_,Y,_,Y,L,c.k,u,ys,c.tn,Y,la,T.wI e,λt ht=>?_⟩
  ·show fD H G (kV (bo i c)) _;rw[W];exact c_ o p2
  refine⟨N,st,u.length,c.one,c.aH.toNat,_,_,_,_,_,_,c.tn,t,Y,ja,b.wf.one J g,b.wf.one J R,ht,λp o=>by rw[tl];exact Um b.wf g (x:=p.1) (y:=p.2) o,Yy pf (by decide),λp j X np q q5 D _=>?_⟩;have ms:=Rl D;refine⟨by show 0<=sizeLine;exact Yw _,λe0 H2 n2 g2 Az=>?_⟩;refine⟨p,e0,j.map V.int,Y,Y,aj.of (g2 _ _ q5),aj.of Az,?_⟩;rw[bR Y];have l:∀f,gS f c↔f c.aH.toNat=ap c.tn (f c.one):=λf=>⟨λh=>h.2 e,λh=>⟨λz=>absurd z e,λ_=>h⟩⟩;cases j with
  |nil=>
   refine q2 (λf d z=>?_) H2 (q.trans g2);have m:=yN b.wf g R d;rw[(l f).mp z] at m;exact absurd ((ms _).mpr m) (λz=>nomatch z)
  |cons a r=>
   refine q1 ?_ H2 (q.trans g2);have m:=(ms a).mp Ym;refine cu (Rk b.wf g R b.live m) λf d e1 e2=>?_;exact⟨f,d,(l f).mpr (by rw[e1,e2])⟩
def BS.keys(b:BS):Z (Z Key):=b.fs.map λp=>gn b.ps p.2
def BS.told(b:BS)(k:Z Key):cF:=(aL (gq b.ps b.fs) k).isSome
structure cL(xs ys:Z Int)(b:BS):Prop where
 gd:oZ xs ys
 nm:(b.ps.map (·.1)).Nodup
 m:b.ps.length<=64
 fl:b.fs.length<=63
 fg:∀p∈b.fs,fY xs ys b.ps.length p.2
 zs:(b.fs.map (·.1)).Nodup
 lt:∀p∈b.fs,p.1<b.co
 ky:b.keys.Nodup
 pr:((cD b.ps b.fs).map (·.1)).Nodup
 lv:∃f,pR xs.length b.ps.length f/\∀c∈b.F,gS f c
 dl:b.dn.length<=200
 ul:b.un.length<=200
structure cC(H H':Hp)(l l':BL):Prop where
 h:l'.h=l.h
 out:Out l.fp H H'
 grow:fF l.fp l'.fp H
def cC.of(g:ah H a):cC H a l l:=⟨Y,Out.of g,fF.refl _ _⟩
def cC.trans(a:cC H H1 l l1)(b:cC H1 c l1 l2):cC H c l l2:=⟨b.h.trans a.h,JM a.out a.grow b.out,a.grow.trans a.out b.grow⟩
def cC.same(a:cC H H1 l l1)(g:ah H1 b):cC H b l l1:=⟨a.h,a.out.trans (Out.of g),a.grow⟩
def cC.after(g:ah H H1)(a:cC H1 b l l1):cC H b l l1:=⟨a.h,(Out.of g).trans a.out,a.grow.same g⟩
theorem BH[DecidableEq b](a:Z (b×V))(k:b):(aL a k).isSome=ar↔k∈a.map (·.1):=by
 induction a with
 |nil=>exact⟨(λz=>nomatch z),(λz=>nomatch z)⟩
 |cons p r c=>
  by_cases e:p.1=k
  ·rw[fU e]
   grind
  ·rw[fK e,c]
   grind
theorem qg[DecidableEq b]{k:b}(h:k∉a.map (·.1)):aL a k=aG:=by
 cases e:aL a k with
 |none=>rfl
 |some v=>exact absurd ((BH a k).mp (by rw[e];rfl)) h
theorem SG[DecidableEq b]{k:b}(c:(a.map (·.1)).Nodup)(h:(k,v)∈a):aL a k=O v:=by
 induction a with
 |nil=>cases h
 |cons p r g=>
  obtain⟨e,d⟩:=Y3.mp (show(p.1::r.map (·.1)).Nodup from c);rcases Yp.mp h with h|h;·exact h▸fU Y
  ·rw[fK (λz=>e (by exact z▸Yk.mpr ⟨_,h,Y⟩))];exact g d h
def wq(h:i<a.length):aw a i∈a.map (·.1):=by
 unfold aw
 grind
inductive Rr(C CL CJ:U)(d:Z V)(H:Hp)(Q:VK)(E:XK):Prop
 |mk (l:BL) (b:BS) (c a:Z Int) (h:d=[.ref l.h]) (g:bA H C CL CJ l c a b) (e:Nw H (.lst (b.ps.map λp=>V.str p.1)) Q)
inductive JN(C CL CJ:U)(d:Z V)(H:Hp)(Q:VK)(E:XK):Prop
 |mk (l:BL) (b:BS) (c a:Z Int) (z:af) (v:V) (i:d=[.ref l.h,.str z]) (h:bA H C CL CJ l c a b) (e:aL (iu b.ps) (.inr z)=O v) (g:Q v H)
inductive Lv(C CL CJ:U)(g:Z V)(H:Hp)(Q:VK)(E:XK):Prop
 |mk (l:BL) (b:BS) (e d:Z Int) (k a:af) (o:Key) (m:g=[.ref l.h,.str k,.str a,kV o]) (j:bA H C CL CJ l e d b) (h:k="sibling"->∃b,o=.inr b) (i:∀c,ah H c->Q (.bl (b.told (keyOf k a o))) c)
inductive Pn(C CL CJ:U)(g:Z V)(H:Hp)(Q:VK)(E:XK):Prop
 |mk (l:BL) (b:BS) (e d:Z Int) (k a:af) (j:g=[.ref l.h,.str k,.str a]) (i:bA H C CL CJ l e d b) (h:∀c,ah H c->Q ((aL (cD b.ps b.fs) [.inr k,.inr a]).getD .aA) c)
noncomputable abbrev jv:Z af:=["mother","father"]
def qD(b:BS)(a:af):Z V:=jv.filterMap λk=>aL (cD b.ps b.fs) [.inr k,.inr a]
def ZfU(g:Nat->bS V):((List.range 2).filter λi=>(g i).isSome).map (λi=>(g i).getD .aA)=[g 0,g 1].filterMap id:=by
 show(([0,1]:Z Nat).filter _).map _=_
 grind
def Rt(b:BS)(k:Z Key):b.told k=ar↔k∈b.keys:=by
 unfold BS.told;rw[BH];unfold gq BS.keys
 grind
inductive OR(C CL CJ:U)(g:Z V)(H:Hp)(Q:VK)(E:XK):Prop
 |mk (l:BL) (b:BS) (e d:Z Int) (a:af) (j:g=[.ref l.h,.str a]) (i:bA H C CL CJ l e d b) (h:∀(p:U) (c:Hp),H p=aG->ah H c->c p=O (.lst (qD b a))->Q (.ref p) c)
def dG(H:Hp)(b:bI)(a:U)(p:Nat×Fc):Prop:=H a=O (.tup ((e_ b p.1 p.2).map kV))
inductive Us(C CL CJ:U)(h:Z V)(H:Hp)(Q:VK)(E:XK):Prop
 |mk (l:BL) (b:BS) (g e:Z Int) (n:h=[.ref l.h]) (m:bA H C CL CJ l g e b) (i:(b.fs.map (·.1)).Nodup) (j:b.fs.length<=63) (k:∀(p:U) (d:Z U) (c:Z (Nat×Fc)) (a:Hp),H p=aG->ah H a->c.Perm b.fs->(c.map (·.1)).Pairwise (·<·)->a p=O (.lst (d.map V.ref))->Paired (dG a b.ps) d c->Q (.ref p) a)
def HY(K:ag):Sp:=λb H Q _=>∃(r:U) (a:Z V),b=[.ref r]/\aC K H r a/\Q (.bl (decide (a.length=2))) H
theorem Kn:∀{as:Z U} {fs:Z (Nat×Fc)} {p:Nat×Fc},Paired (dG H ps) as fs->(fs.map (·.1)).Nodup->p∈fs->∃a,aL (bH (fs.map (·.1)) as) (.inl (p.1:Int))=O (.ref a)/\dG H ps a p:=by
 intro as fs p b;induction b with
 |nil=>grind
 |@cons a q as fs f t i=>
  intro c h;obtain⟨g,d⟩:=Y3.mp (show(q.1::fs.map (·.1)).Nodup from c);have l:bH ((q::fs).map (·.1)) (a::as)=(Sum.inl (q.1:Int),V.ref a)::bH (fs.map (·.1)) as:=Y;rw[l];rcases Yp.mp h with rfl|h;·exact⟨a,fU Y,f⟩
  ·refine bh (i d h) λn k j=>?_;refine⟨n,?_,j⟩;rw[fK (λz=>g (by
    have e:=DZ z;have m:=(nF e)
    exact m▸Yk.mpr ⟨_,h,Y⟩))]
   exact k
theorem Po:∀{b:Z Nat} {as:Z U},b.length=as.length->(bH b as).map (·.1)=(b.map λk:Nat=>(k:Int)).map Sum.inl
 |[],[],_=>rfl
 |k::b,a::as,h=>by
  have c:bH (k::b) (a::as)=(Sum.inl (k:Int),V.ref a)::bH b as:=Y;rw[c,Wv,Po (by simpa using h)];rfl
 |[],_::_,h=>rfl
 |_::_,[],h=>by simp at h
theorem Zdo(s:(fs.map (·.1)).Nodup)(d:c.Perm ((fs.map (·.1)).map λk:Nat=>(k:Int)))(o:c.Pairwise (·<=·)):∃b:Z (Nat×Fc),b.Perm fs/\(b.map (·.1)).Pairwise (·<·)/\c=(b.map (·.1)).map λk:Nat=>(k:Int):=by
 have n:∀{c:Z Int} {fs:Z (Nat×Fc)},c.Perm ((fs.map (·.1)).map λk:Nat=>(k:Int))->∃b:Z (Nat×Fc),b.Perm fs/\c=(b.map (·.1)).map λk:Nat=>(k:Int):=by
  intro c;induction c with
  |nil=>
   intro fs d;have:=d.symm.eq_nil;have e:fs=[]:=by simpa using this
   exact⟨[],by rw[e],Y⟩
  |cons a c t=>
   intro fs d;have r:a∈(fs.map (·.1)).map λk:Nat=>(k:Int):=d.subset Ym;rw[Y9] at r;obtain⟨p,u,rfl⟩:=Yk.mp r;obtain⟨l,j,rfl⟩:=List.append_of_mem u;have m:c.Perm (((l++j).map (·.1)).map λk:Nat=>(k:Int)):=by
    have v:(((l++p::j).map (·.1)).map λk:Nat=>(k:Int)).Perm ((p.1:Int)::((l++j).map (·.1)).map λk:Nat=>(k:Int)):=by
     have:=(List.perm_middle (a:=p) (l₁:=l) (l₂:=j)).map λq:Nat×Fc=>((q.1:Nat):Int);simpa[Y9,Function.comp_def] using this
    exact(d.trans v).cons_inv
   obtain⟨b,i,g⟩:=t m;exact⟨p::b,(i.cons p).trans List.perm_middle.symm,by rw[g];rfl⟩
 obtain⟨b,i,g⟩:=n d;refine⟨b,i,?_,g⟩;have x:=(i.map _).nodup_iff.mpr s;rw[g,W3] at o;exact(o.and x).imp λh=>by
  omega
def Zav:aQ jV jV (aI Fo):=.a9
def Zeu(F:aP K "people" "Hearth.people" Fo f fd)(a:fX K C)(k:Bl B):aE P w K B I aO 1 f fd jV (Rr C CL CJ):=by
 refine F.o Zav λs H r h=>?_;obtain⟨l,b,o,n,rfl,c,q⟩:=h;refine⟨_,(av (aK (fJ (OM Y) Y k.t9 tV (aa (pF K 0) ae)))),?_⟩;obtain⟨j,i⟩:=c.obj;refine⟨_,Y,l.h,C,j,_,_,Y,i,a.cls,a.tY,Y,l.sd,_,Y,c.dz,λp m d g e=>q p m d g ?_⟩;rw[e,Y9];rfl
noncomputable abbrev jX:Z af:=["self","name"]
def Zal:aQ jX jX (aI Fd):=.a9
def Zdp(F:aP K "side_of" "Hearth.side_of" Fd f fd)(a:fX K C)(m:Bl B):aE P w K B I aO 1 f fd jX (JN C CL CJ):=by
 refine F.o Zal λs H d h=>?_;obtain⟨l,b,k,j,z,v,rfl,c,g,q⟩:=h;refine⟨_,(aq (aU (kq (nG (bw d) (pv 1) (pF K 0)) QU) gw bb) (av (aK (dy (bw d) (pF K 0) (pv 1) (λ_ _=>Y))))),?_⟩;refine ie ?_;intros;obtain⟨i,e⟩:=c.obj;exact⟨_,Y,_,Y,l.h,C,i,_,_,Y,e,a.cls,a.tY,Y,l.sd,O v,Y,c_ c.dz g,_,Y,bV (aX ⟨_,Y,l.h,C,i,_,_,Y,e,a.cls,a.tY,Y,_,Y,l.sd,v,Y,c_ c.dz g,q⟩)⟩
def ZbG:aQ j_ j_ (aI GN):=.a9
def ZbH(F:aP K "is_person" "is_person" GN f fd)(c:Bl B):aE P w K B I aO 1 f fd j_ (HY K):=by
 refine F.o ZbG λs H d h=>?_;refine gR h λr a g b q=>?_;subst g;refine⟨_,(av (aK (fO b_ (dF K c (pv 0)) aF))),?_⟩;refine⟨_,Y,r,a,Y,.inr b,Y,?_⟩;have e:decide (V.int (a.length:Int)=V.int 2)=decide (a.length=2):=by
  rw[Wn,hU,hU];exact⟨λz=>by have:=V.int.inj z;exact nF this,λz=>by rw[z];rfl⟩
 rw[←e] at q;exact q
noncomputable abbrev qN:Z af:=["self","kind","one","other"]
def Zbg:aQ qN qN (aI Gs):=.a9
def Zi7(F:aP K "has" "Hearth.has" Gs f fd)(e:fX K C)(i:HasFn P w K B I 1 "fact_key" wW CD):aE P w K B I aO 2 f fd qN (Lv C CL CJ):=by
 refine F.o Zbg λs H d h=>?_;obtain⟨l,b,v,u,k,a,o,rfl,g,j,q⟩:=h;refine⟨_,(av (aK (ZhP (Cc (bw d) (aY i d (aa (pv 1) (aa (pv 2) (aa (pv 3) ae)))) (pF K 0)) QU))),?_⟩;refine⟨_,Y,_,Y,_,Y,k,a,o,Y,j,λp t x c m=>?_⟩;obtain⟨r,n⟩:=g.obj;refine⟨_,Y,l.h,C,r,_,_,Y,c _ _ n,e.cls,e.BY,Y,l.kn,_,Y,fD.t (c _ _ g.known) m,?_⟩;exact q t c
noncomputable abbrev C6:Z af:=["self","kind","name"]
def Zaf:aQ C6 C6 (aI E1):=.a9
def ZbI(F:aP K "parent_of" "Hearth.parent_of" E1 f fd)(d:fX K C):aE P w K B I aO 1 f fd C6 (Pn C CL CJ):=by
 refine F.o Zaf λs H g h=>?_;obtain⟨l,b,r,o,k,a,rfl,c,q⟩:=h;refine⟨_,(av (aK (Zfd (bw g) (pF K 0) (dq (aa (pv 1) (aa (pv 2) ae))) ⟨Y,Y,Y,Y⟩))),?_⟩;obtain⟨m,j⟩:=c.obj;refine⟨_,Y,l.h,C,m,_,_,Y,j,d.cls,d.v9,Y,l.pr,Y,.inr ⟨_,.inl c.parents⟩,_,Y,_,Y,by show 2<=sizeLine;decide,λp n t e i=>?_⟩;exact⟨_,fD.t (k:=[.inr k,.inr a]) (e _ _ c.parents) i,q n e⟩
def Zad:aQ jX jX (aI EW):=.a9
theorem Zbh(F:aP K "parents_of" "Hearth.parents_of" EW f fd)(j:fX K C)(Q:B "PARENTS"=O (.ref o))(t:∀H,aC K H o (jv.map V.str)):aE P w K B I aO 1 f fd jX (OR C CL CJ):=by
 refine F.o Zad λs H y h=>?_;obtain⟨l,b,xs,ys,a,rfl,r,q⟩:=h;refine⟨_,(av (aK (jj (x:="kind") (fr:=[("self",0),("name",1)]) (cl:=[("self",s.heap.objs.size+1),("name",s.heap.objs.size+1+1)]) Y (.ir ⟨Y,⟨Y,trivial⟩⟩ ⟨⟨Y,.inl Y,.inl Y,Y⟩,⟨⟨Y,.inl Y,.inl Y,Y⟩,trivial⟩⟩) (B6 (c9 (v:=.ref o) Y Q Y)) (λ_ _ _ _=>wj (kq (Cc (bw y) (dq (aa (pv 0) (aa (pv 2) ae))) (wm (K:=K) Y (pv 1) Y)) QU)) (λ_ _ _ _=>(dy (bw y) (wm (K:=K) Y (pv 1) Y) (dq (aa (pv 0) (aa (pv 2) ae))) (λ_ _=>Y)))))),?_⟩;refine hH r.obj λJ E=>?_;let val:Nat->bS V:=λi=>aL (cD b.ps b.fs) [.inr (jv.getD i ""),.inr a];refine⟨o,Y,⟨_,t _⟩,λD A=>Zd8 (t _) QD A (λi=>(val i).isSome) (λi=>(val i).getD .aA) (λi v c L g _ Kt Kf m n=>?_) λL g T=>q D L A g ?_⟩
 ·obtain⟨k,rfl,X⟩:∃k:af,v=.str k/\jv.getD i ""=k:=by
   match i,c with
   |0,c=>exact⟨"mother",(Yo c).symm,Y⟩
   |1,c=>exact⟨"father",(Yo c).symm,Y⟩
   |i+2,c=>simp at c
  have W:val i=aL (cD b.ps b.fs) [.inr k,.inr a]:=by show aL (cD b.ps b.fs) [.inr (jv.getD i ""),.inr a]=_;rw[X]
  refine⟨_,Y,_,Y,by show 2<=sizeLine;decide,λp H2 np d R=>?_⟩;refine⟨_,Y,l.h,C,J,_,_,Y,d _ _ (g _ _ E),j.cls,j.v9,Y,l.pr,_,Y,fD.t (k:=[.inr k,.inr a]) (d _ _ (g _ _ r.parents)) R,_,Y,?_⟩;rw[W] at m n;cases e:aL (cD b.ps b.fs) [.inr k,.inr a] with
  |none=>
   rw[e] at n;exact bV (n H2 Y d)
  |some u=>
   rw[e] at m;refine dh ?_;refine⟨_,Y,l.h,C,J,_,_,Y,d _ _ (g _ _ E),j.cls,j.v9,Y,_,Y,_,Y,by show 2<=sizeLine;decide,λp3 H3 N G Ze=>?_⟩;refine⟨l.pr,u,Y,?_,m u H3 Y (d.trans G) Y⟩;have z:=fD.t (k:=[.inr k,.inr a]) (G _ _ (d _ _ (g _ _ r.parents))) Ze;rw[e] at z;exact z
 ·rw[T];have e:((List.range (jv.map V.str).length).filter λi=>(val i).isSome).map (λi=>(val i).getD .aA)=qD b a:=by
   exact ZfU val
  rw[e]
def ZaY:aQ jV jV (aI F8):=.a9
theorem Zhh(F:aP K "kept" "Hearth.kept" F8 f fd)(u:fX K C)(bl:Bl B):aE P w K B I aO 1 f fd jV (Us C CL CJ):=by
 refine F.o ZaY λs H hr h=>?_;obtain⟨l,b,xs,t,rfl,r,X,fl,q⟩:=h;refine⟨_,(av (aK (jj (x:="number") (fr:=[("self",0)]) (cl:=[("self",s.heap.objs.size+1)]) Y (.ir ⟨Y,trivial⟩ ⟨⟨Y,.inl Y,.inl Y,Y⟩,trivial⟩) (dY (K:=K) Y (hJ (Zbb Y) Y bl.yM yG (aa (pF K 0) ae))) (λ_ _ _ _=>nI) (λ_ _ _ _=>(dy (bw hr) (wm (K:=K) Y (pv 1) Y) (pv 0) (λ_ _=>Y)))))),?_⟩;refine hH r.obj λdx h1=>?_;have al:(b.fs.map (·.1)).length=l.cq.length:=by rw[Ya];exact(dk r.fact).symm
 refine⟨_,Y,l.h,C,dx,_,_,Y,h1,u.cls,u.rT,Y,l.fc,_,(b.fs.map (·.1)).map (λk:Nat=>(k:Int)),Y,r.facts,Po al,by rw[Ya,Ya];exact Am fl,λns pm so p H1 np A hp=>?_⟩;refine cu (Zdo X pm so) λdw L q2 q3=>?_;have jC:dw.length<=63:=by rw[L.length_eq];exact fl
 subst q3;have nl:(((dw.map (·.1)).map λk:Nat=>(k:Int)).map V.int).length=dw.length:=by rw[Ya,Ya,Ya]
 refine⟨p,Y,⟨_,aj.of hp⟩,λD R=>?_⟩;refine yA (aj.of hp) QO R (λ_=>ar) (λi y m=>∃a c,dw[i]?=O c/\y=.ref a/\dG m b.ps a c/\dG H b.ps a c) (λi y m H3 br ⟨a,c,o,n,e3,G⟩=>⟨a,c,o,n,br _ _ e3 (λz=>by
   have:=A _ _ G;rw[z,R] at this;cases this),G⟩) (λi v d m T _ Kt Kf kt _=>mJ (dh ?_)) λiU m T h2 c=>?_
 ·rw[Yf,Yf,Yf] at d;cases E:dw[i]? with
  |none=>rw[E] at d;cases d
  |some N=>
   rw[E] at d;obtain rfl:V.int (N.1:Int)=v:=Yo d;refine bh (Kn r.fact X (L.subset (Yj E))) λa o n=>?_;have J:=A.trans T;refine⟨_,Y,l.h,C,dx,_,_,Y,J _ _ h1,u.cls,u.rT,Y,_,Y,l.fc,.ref a,Y,qC (J _ _ r.facts) o,kt _ m Y (ah.refl _) ⟨a,N,E,Y,J _ _ n,n⟩⟩
 ·rw[Hh,nl] at c;obtain⟨j,ea,pa⟩:∃j:Z U,iU=j.map V.ref/\Paired (dG m b.ps) j dw:=by
   have W:∀{t:Z V} {Q:Z Nat} {gs:Z (Nat×Fc)},Paired (λy i=>∃a c,dw[i]?=O c/\y=.ref a/\dG m b.ps a c/\dG H b.ps a c) t Q->Q.map (λi=>dw[i]?)=gs.map O->∃j:Z U,t=j.map V.ref/\Paired (dG m b.ps) j gs:=by
    intro t Q gs c;induction c generalizing gs with
    |nil=>
     intro e;cases gs with
     |nil=>exact⟨[],Y,.nil⟩
     |cons _ _=>cases e
    |cons f _ ih=>
     intro e;cases gs with
     |nil=>cases e
     |cons g gs=>
      refine d5 f λa N o n e3 _=>?_;injection e with G e5;refine bh (ih e5) λj r1 r2=>?_;exact⟨a::j,by rw[n,r1];rfl,.cons (by rwa[←Yo (o.symm.trans G)]) r2⟩
   refine W c (Wx λi=>?_);rw[Yf,Yf];by_cases d:i<dw.length;·rw[MN d,Yb d];exact eJ O (Yb d)
   ·rw[Y7 (by exact Wy▸fb d),Y7 (fb d)];rfl
  subst ea;exact q D j dw m (A.free R) (A.trans T) L q2 h2 pa
def B3(h:i<a.length):aw (a++[x]) i=aw a i:=by
 unfold aw
 grind
def JO(b:fG n a.length c):bo (a++[x]) c=bo a c:=by
 unfold bo;by_cases e:c.k=bj;·grind
 ·rw[bt e,bt e,B3 (b.iV e).1.2]
def Zhi(b:fG n a.length c):e_ (a++[x]) z c=e_ a z c:=by
 unfold e_;rw[JO b,B3 b.one]
def SH(b:fG n a.length c):gn (a++[x]) c=gn a c:=by
 unfold gn;rw[JO b,B3 b.one]
def Zhj(b:∀p∈fs,fG n a.length p.2):gq (a++[x]) fs=gq a fs:=by
 exact Wq λp c=>by rw[SH (b p c)]
def SI(b:∀p∈fs,fG n a.length p.2):cD (a++[x]) fs=cD a fs:=by
 exact Wq λp c=>by
  have o:=b p (Y4.mp c).1;rw[JO o,B3 o.one]
def Zhk(a:bI)(n s:af):iu (a++[(n,s)])=iu a++[(.inr n,.str s)]:=Yr
def Zhl(a:bI)(x:af×af):jB (a++[x])=jB a++[(.inr x.1,.int (a.length:Int))]:=by
 unfold jB
 grind
def ZfV(a:bI)(b:Z (Nat×Fc))(z:Nat)(c:Fc):gq a (b++[(z,c)])=gq a b++[(gn a c,.int (z:Int))]:=Yr
def Ru(h:cT c.k=ar):cD a (fs++[(z,c)])=cD a fs++[([.inr c.k,.inr (aw a c.one)],kV (bo a c))]:=by
 unfold cD
 grind
def Rv(h:cT c.k=a_):cD a (fs++[(z,c)])=cD a fs:=by
 unfold cD
 grind
def B4(k:af):eW (.str k) (jv.map V.str)=cT k:=by
 show((("mother":af)==k)||((("father":af)==k)||a_))=(decide (k="mother")||decide (k="father"))
 grind
theorem OS{c e d:Type}[DecidableEq e][DecidableEq d]{f:c->e}{g:c->d}:∀{b:Z c} {x:c},(b.map f).Nodup->(b.map g).Nodup->x∈b->b.filter (λy=>decide (f y≠f x))=b.filter (λy=>decide (g y≠g x)):=by
 intro b x l k j;have inj:∀{i:Type} {h:c->i},(b.map h).Nodup->∀y∈b,h y=h x->y=x:=by
  induction b with
  |nil=>cases j
  |cons a r m=>grind
 refine NL λy n=>?_
 grind
def ZfW(b:(fs.map (·.1)).Nodup)(d:(fs.map λp=>gn a p.2).Nodup)(m:(z,c)∈fs):iN (gq a fs) (gn a c)=gq a (di z fs):=by
 unfold gq iN di;exact Jz▸eJ _ (OS d b m)
def ZfX(d:(fs.map (·.1)).Nodup)(b:((cD a fs).map (·.1)).Nodup)(m:(z,c)∈fs)(h:cT c.k=ar):iN (cD a fs) [.inr c.k,.inr (aw a c.one)]=cD a (di z fs):=by
 unfold cD at b⊢;rw[Y9] at b;unfold iN di;rw[Jz,Jw];have e:=OS b (d.sublist (List.filter_sublist.map _)) (Y4.mpr ⟨m,h⟩);rw[Jw,Jw] at e;rw[Jw];exact eJ _ (e.trans (eJ (fs.filter ·) (funext λp=>Bool.and_comm _ _)))
theorem Zev(d:(fs.map (·.1)).Nodup)(m:(z,c)∈fs)(h:cT c.k=a_):cD g fs=cD g (di z fs):=by
 unfold cD di;rw[Jw];refine eJ _ (NL λp i=>?_);by_cases e:p.1=z
 ·have:p=(z,c):=by
   have b:∀{fs:Z (Nat×Fc)},(fs.map (·.1)).Nodup->p∈fs->(z,c)∈fs->p=(z,c):=by
    induction fs with
    |nil=>grind
    |cons a r j=>grind
   exact b d i m
  grind
 ·grind
inductive Move(a d:Z Int)(H:Hp)(r:U)(b:BS):Int->BS->Prop
 |pin (n s:af) (g:H r=O (.tup [.str n,.str s])) (new:n∉b.ps.map (·.1)) (e:b.ps.length<64):Move a d H r b 1 {b with ps:=b.ps++[(n,s)]}
 |fin (z:Nat) (c:Fc) (g:dG H b.ps r (z,c)) (o:fY a d b.ps.length c) (i:z∉b.fs.map (·.1)) (k:gn b.ps c∉b.keys) (j:cT c.k=ar->[.inr c.k,.inr (aw b.ps c.one)]∉(cD b.ps b.fs).map (·.1)) (l:∃f,pR a.length b.ps.length f/\∀h∈b.F++[c],gS f h) (e:b.fs.length<63):Move a d H r b 1 {b with fs:=b.fs++[(z,c)]}
 |wX (z:Nat) (c:Fc) (g:dG H b.ps r (z,c)) (m:(z,c)∈b.fs):Move a d H r b (-1) {b with fs:=di z b.fs}
theorem Move.out{w:Int}(m:Move xs e H r b w b')(k:∀d,H r=O (.tup d)->j r=O (.tup d)):Move xs e j r b w b':=by
 cases m with
 |pin n s a new lim=>exact .pin n s (k _ a) new lim
 |fin z c a i g h np lv lim=>exact .fin z c (k _ a) i g h np lv lim
 |wX z c a m=>exact .wX z c (k _ a) m
theorem Move.Zj0{w:Int}(m:Move xs g H r b w k)(e d:Z C5):Move xs g H r {b with dn:=e,un:=d} w {k with dn:=e,un:=d}:=by
 cases m with
 |pin n s a new lim=>exact .pin n s a new lim
 |fin z c a j h i np lv lim=>exact .fin z c a j h i np lv lim
 |wX z c a m=>exact .wX z c a m
inductive SJ(C CL CJ:U)(e:Z V)(H:Hp)(Q:VK):Prop
 |mk (l:BL) (b:BS) (h g:Z Int) (d:U) (z:Nat) (c:Fc) (p:e=[.ref l.h,.ref d]) (o:bA H C CL CJ l h g b) (m:dG H b.ps d (z,c)) (i:z∉b.fs.map (·.1)) (k:gn b.ps c∉b.keys) (j:cT c.k=ar->[.inr c.k,.inr (aw b.ps c.one)]∉(cD b.ps b.fs).map (·.1)) (n:b.fs.length<=63)
   (q:∀a,Out [l.fc,l.kn,l.pr] H a->a l.fc=O (.dK (bH ((b.fs++[(z,c)]).map (·.1)) (l.cq++[d])))->a l.kn=O (.dT (gq b.ps (b.fs++[(z,c)])))->a l.pr=O (.dT (cD b.ps (b.fs++[(z,c)])))->Q .aA a):SJ C CL CJ e H Q
def Ut(C CL CJ:U):Sp:=λa H Q _=>SJ C CL CJ a H Q
inductive SK(C CL CJ:U)(h:Z V)(H:Hp)(Q:VK)(E:XK):Prop
 |mk (l:BL) (b g:BS) (c a:Z Int) (r:U) (j:h=[.ref l.h,.ref r]) (i:bA H C CL CJ l c a b) (ok:cL c a b) (mv:Move c a H r b 1 g) (q:∀(e:BL) (d:Hp),cC H d l e->bA d C CL CJ e c a g->Q .aA d)
inductive Qm(C CL CJ:U)(h:Z V)(H:Hp)(Q:VK)(E:XK):Prop
 |mk (l:BL) (b g:BS) (c a:Z Int) (r:U) (j:h=[.ref l.h,.ref r]) (i:bA H C CL CJ l c a b) (ok:cL c a b) (mv:Move c a H r b (-1) g) (q:∀(e:BL) (d:Hp),cC H d l e->bA d C CL CJ e c a g->Q .aA d)
inductive SM(C CL CJ:U)(i:Z V)(H:Hp)(Q:VK)(E:XK):Prop
 |mk (l:BL) (b h:BS) (c a:Z Int) (r:U) (w:Int) (g:Nat) (k:i=[.ref l.h,.int w,.ref r,.int (g:Int)]) (j:bA H C CL CJ l c a b) (ok:cL c a b) (mv:Move c a H r b w h) (q:∀(e:BL) (d:Hp),cC H d l e->bA d C CL CJ e c a {h with co:=g}->Q .aA d)
inductive BI(C CL CJ:U)(j:Z V)(H:Hp)(Q:VK)(E:XK):Prop
 |mk (l:BL) (b i:BS) (d c:Z Int) (r:U) (w:Int) (e:Nat) (a:Z Key) (n:j=[.ref l.h,.int w,.ref r,.int (e:Int)]) (m:bA H C CL CJ l d c b) (ok:cL d c b) (dl:b.dn.length<200) (k:H r=O (.tup (a.map kV))) (mv:Move d c H r b w i) (q:∀(h:BL) (g:Hp),cC H g l h->bA g C CL CJ h d c {i with co:=e,dn:=b.dn++[⟨w,a,b.co,e⟩],un:=[]}->Q .aA g)
def SN{c:Fc}(e:c.k="sibling"):∃b,bo a c=.inr b:=⟨_,iH (by rw[e];decide+kernel)⟩
noncomputable abbrev uF:Z af:=["self","fact"]
noncomputable abbrev WG:Z af:=["self","fact","number","kind","one","other"]
def yh:aQ WG uF (aI E2):=.a9
theorem Zhm(F:aP K "note_fact" "Hearth.note_fact" E2 f fd)(g:fX K C)(jK:B "PARENTS"=O (.ref G))(qP:∀H,aC K H G (jv.map V.str))(qj:HasFn P w K B I 1 "fact_key" wW CD):aE P w K B I aO 2 f fd uF (Ut C CL CJ):=by
 refine F.o yh λs H k h=>?_;obtain⟨l,b,xs,ys,D,z,c,rfl,d,hf,nz,nk,np,fl,q⟩:=h;refine⟨_,(aq (mC (pv 1) (hZ (K:=K) (n:=4) Y Y (bq (a8 2 yh.nd) (bq (a8 3 yh.nd) (bq (a8 4 yh.nd) (bq (a8 5 yh.nd) hV)))))) (aq (oI (bw k) (pF K 0) (pv 2) (pv 1)) (aq (P4 (bw k) (pF K 0) (aY qj k (aa (pv 3) (aa (pv 4) (aa (pv 5) ae)))) (pv 2)) (av (aU (fV (kH (K:=K) Y) (pv 3) (c9 (v:=.ref G) Y jK Y) QU) (av (P4 (bw k) (pF K 0) (dq (aa (pv 3) (aa (pv 4) ae))) (pv 5))) bb))))),?_⟩;refine nY ?_;intros;obtain⟨E,i⟩:=d.obj;have sz:(10000:Nat)<=sizeLine:=by rw[du];decide
 have al:(b.fs.map (·.1)).length=l.cq.length:=by rw[Ya];exact(dk d.fact).symm
 have Ee:l.h≠l.fc:=eR i d.facts (λz=>by cases z);have x:l.h≠l.kn:=eR i d.known (λz=>by cases z);have X:l.kn≠l.fc:=eR d.known d.facts (λz=>by cases z);have N:l.pr≠l.fc:=eR d.parents d.facts (λz=>by cases z);have W:l.pr≠l.kn:=λe=>by
  have:=d.nd;unfold BL.own at this;simp[e] at this
 refine⟨_,Y,D,_,Y,aC.of hf,Y,_,_,Y,aS ⟨_,_,Y,aS ⟨_,_,Y,aS ⟨_,_,Y,aS ⟨Y,?_⟩⟩⟩⟩⟩;refine⟨_,Y,_,Y,l.h,C,E,_,_,Y,i,g.cls,g.rT,Y,_,Y,l.fc,_,.inl (z:Int),Y,d.facts,Y,by unfold bH;rw[Ya,Jp,Ya];omega,λH1 L R=>?_⟩;have vz:aL (bH (b.fs.map (·.1)) l.cq) (.inl (z:Int))=aG:=Bu nz;rw[ko _ vz,Bf z D al] at R;refine⟨_,Y,_,Y,l.h,C,E,_,_,Y,L _ _ i Ee,g.cls,g.BY,Y,_,Y,_,Y,_,Y,c.k,aw b.ps c.one,bo b.ps c,Y,λe=>SN e,λp H2 Av A eA=>?_⟩;refine⟨l.kn,p,_,gn b.ps c,Y,A _ _ (L _ _ d.known X),Y,eA,by unfold gq;rw[Ya];omega,λu T j=>?_⟩;have vk:aL (gq b.ps b.fs) (gn b.ps c)=aG:=qg (by
  have:(gq b.ps b.fs).map (·.1)=b.keys:=by unfold gq BS.keys;rw[Y9];rfl
  rw[this];exact nk)
 rw[ko _ vk] at j
 replace j:u l.kn=O (.dT (gq b.ps (b.fs++[(z,c)]))):=by rw[ZfV];exact j
 have y:∀{a:U} {o:HO},H a=O o->a≠l.fc->a≠l.kn->u a=O o:=λ{a o} e n1 n2=>T _ _ (A _ _ (L _ _ e n1)) n2;have Q:u l.fc=O (.dK (bH ((b.fs++[(z,c)]).map (·.1)) (l.cq++[D]))):=by
  have:=T _ _ (A _ _ R) (λz=>X z.symm);rw[this,Yr];rfl
 have AA:=y d.parents N W;refine⟨_,Y,G,_,Y,.inr (qP _),Y,Y,_,Y,?_⟩;dsimp only;rw[bt Yn,show eW (kV (Sum.inr c.k)) (jv.map V.str)=cT c.k from B4 c.k];refine bC (λt=>?_) (λt=>aX ?_)
 ·refine⟨_,Y,_,Y,l.h,C,E,_,_,Y,y i Ee x,g.cls,g.v9,Y,_,Y,_,Y,by show 2<=sizeLine;decide,λp4 H4 np4 m NM=>?_⟩;refine⟨l.pr,p4,_,[.inr c.k,.inr (aw b.ps c.one)],Y,m _ _ AA,Y,NM,?_,λH5 J r=>?_⟩
  ·unfold cD;rw[Ya];have:=Wj (λp:Nat×Fc=>cT p.2.k) b.fs;omega
  have vp:aL (cD b.ps b.fs) [.inr c.k,.inr (aw b.ps c.one)]=aG:=qg (np t);rw[ko _ vp] at r
  replace r:H5 l.pr=O (.dT (cD b.ps (b.fs++[(z,c)]))):=by rw[Ru t];exact r
  refine q H5 (λa o e n=>?_) (J _ _ (m _ _ Q) (λz=>N z.symm)) (J _ _ (m _ _ j) (λz=>W z.symm)) r;simp only[Yp,Y1,gV,mh] at n;exact J _ _ (m _ _ (y e n.1 n.2.1)) n.2.2
 ·have ef:cT c.k=a_:=by
   cases e:cT c.k with
   |true=>exact absurd e t
   |false=>rfl
  refine q u (λa o e n=>?_) Q j (by rw[Rv ef];exact AA)
  grind
theorem Uu{l:BL}{H g:Hp}{c d:JL}(i:l.fH=c.fp)(o:Out l.own H g)(h:fF c.fp d.fp g):fF l.fp ({l with fH:=d.fp}:BL).fp H:=λa z=>by
 rcases Yq.mp z with q|q;·exact .inl (Ys _ q)
 ·rcases h a q with m|m;·exact .inl (Yg _ (by rwa[i]))
  ·by_cases b:a∈l.own;·exact .inl (Ys _ b)
   ·right
    cases e:H a with
    |none=>rfl
    |some u=>rw[o _ _ e b] at m;cases m
def Vm{l:BL}{b:JL}(d:l.fH=b.fp)(o:Out l.own H H1)(c:Out b.fp H1 H2):Out l.fp H H2:=λa u e n=>c _ _ (o _ _ e λz=>n (Ys _ z)) λz=>n (Yg _ (by rwa[d]))
def tZ{l:BL}(o:Out l.own H H1):Out l.fp H H1:=λa u e n=>o _ _ e λz=>n (Ys _ z)
noncomputable abbrev wY:Z af:=["self","row"]
def Fg:aQ ["self","row","name","side"] wY (aI Fp):=.a9
theorem Zew(F:aP K "put_in" "Hearth.put_in" Fp f fd)(i:fX K C)(vL:HasFn P w K B I 1 "is_person" j_ (HY K))(vM:cJ P w K B I 2 "add" CJ jV (Ls CJ))(E3:cJ P w K B I 2 "note_fact" C uF (Ut C CL CJ))(vN:HasFn P w K B I 6 "keep_fact" uE (Km CL CJ))(bl:Bl B):aE P w K B I aO 8 f fd wY (SK C CL CJ):=by
 refine F.o Fg @λbL A outer vs Q E s H hr h=>?_;obtain⟨l,b,b',N,ys,r,rfl,d,ok,mv,q⟩:=h;refine⟨_,(av (aU (fh (aY vL hr (aa (pv 1) ae))) (aq (mC (pv 1) (hZ (K:=K) (n:=2) Y Y (bq (a8 2 Fg.nd) (bq (a8 3 Fg.nd) hV)))) (aq (oI (bw hr) (pF K 0) (pv 2) (hJ (Zc2) Y bl.Cw B_ (aa (pF K 0) ae))) (aq (oI (bw hr) (pF K 0) (pv 2) (pv 3)) (av (aU (bG BN (pF K 0) nJ) (av (bY (ze vM hr (by decide) (pF K 0)))) bb))))) (aq (bY (df E3 hr (by decide) (pv 0) (aa (pv 1) ae))) (av (aU (bG BN (pF K 0) nJ) (av (bY (aY vN hr (aa (pF K 0) (aa (pF K 0) (aa (pF K 0) (aa (pv 1) ae))))))) bb))))),?_⟩;refine hH d.obj λD h1=>?_;have sz:(10000:Nat)<=sizeLine:=by rw[du];decide
 have nd:=d.nd;unfold BL.own at nd;have Zh:=nd;simp only[Y3,Yp,Y1,gV,mh] at Zh;refine d7 Zh λlX jm lr _=>?_;obtain ⟨oi,cz,jE,oj,oo,pS,rf⟩:=lX;obtain ⟨AB,u6,u7,u9,xP,xQ⟩:=jm;obtain ⟨sW,u_,vc,xR,xS⟩:=lr;have uG:∀p∈b.fs,fG N.length b.ps.length p.2:=λp hp=>(ok.fg p hp).ok;cases mv with
 |pin n s hR new lim=>
  refine⟨_,Y,r,_,Y,aC.of hR,_,Y,dh ?_⟩;refine nY ?_;intros;refine⟨_,Y,r,_,Y,aC.of hR,Y,_,_,Y,aS ⟨_,_,Y,aS ⟨Y,?_⟩⟩⟩;have kl:(iu b.ps).length=b.ps.length:=Ya _;have pl':(jB b.ps).length=b.ps.length:=by unfold jB;rw[Ya,List.length_zipIdx]
  refine⟨_,Y,l.h,C,D,_,_,Y,h1,i.cls,i.tY,Y,l.sd,_,Y,d.dz,_,Y,l.h,C,D,_,_,Y,h1,i.cls,i.oK,Y,_,Y,l.pl,_,.inr n,Y,d.places,Y,QO,λH1 b1 e1=>?_⟩;have Zj1:(jB b.ps).map (·.1)=b.ps.map λp=>(.inr p.1:Key):=by
   unfold jB;rw[Y9];have:(λp:(af×af)×Nat=>((.inr p.1.1:Key),V.int (p.2:Int)).1)=(λp:af×af=>(.inr p.1:Key))∘Prod.fst:=Y;show b.ps.zipIdx.map (λp:(af×af)×Nat=>((.inr p.1.1:Key),V.int (p.2:Int)).1)=_;rw[this,←Y9,List.zipIdx_map_fst]
  have WH:∀{ks:Z Key},ks=(b.ps.map λp=>(.inr p.1:Key))->(.inr n:Key)∉ks:=λ{ks} e z=>by
   rw[e] at z;refine bh (Yk.mp z) λp hp ep=>?_;exact new (Yk.mpr ⟨p,hp,We ep⟩)
  have vp:aL (jB b.ps) (.inr n)=aG:=qg (WH Zj1);have vs':aL (iu b.ps) (.inr n)=aG:=qg (WH (by show(b.ps.map _).map _=_;rw[Y9];rfl));rw[ko _ vp,kl] at e1;refine⟨_,Y,_,Y,l.h,C,D,_,_,Y,b1 _ _ h1 cz,i.cls,i.tY,Y,_,Y,l.sd,_,.inr n,Y,b1 _ _ d.dz AB,Y,QO,λH2 b2 e2=>?_⟩;rw[ko _ vs'] at e2;have j:∀{a:U} {o:HO},H a=O o->a≠l.pl->a≠l.sd->H2 a=O o:=λ{a o} e n1 n2=>b2 _ _ (b1 _ _ e n1) n2;have J:Out l.own H H2:=λa u e na=>j e (λz=>na (by rw[z];simp[BL.own])) (λz=>na (by rw[z];simp[BL.own]));have s2:H2 l.sd=O (.dK (iu (b.ps++[(n,s)]))):=by rw[Zhk];exact e2
  have p2:H2 l.pl=O (.dK (jB (b.ps++[(n,s)]))):=by rw[Zhl];exact b2 _ _ e1 (λz=>AB z.symm)
  have R:=j h1 cz oi;have tp:∀{a:U} {G:Z V} {H3:Hp},Out l.fp H H3->H a=O (.tup G)->H3 a=O (.tup G):=λo e=>o _ _ e (d.tup e);have mk:∀(x:BL) (H3:Hp),x={l with fH:=x.fH}->Out l.fp H H3->fF l.fp x.fp H->(∀a u,H2 a=O u->a∈l.own->H3 a=O u)->uD H3 CJ N.length x {b with ps:=b.ps++[(n,s)]}->Q .aA H3:=λx H3 t o g k rk=>by
   refine q x H3 ⟨by rw[t],o,g⟩ ?_;refine d.build (l':=x) (b':={b with ps:=b.ps++[(n,s)]}) (by rw[t]) (by rw[t]) (by rw[t]) (by rw[t]) (by rw[t]) (by rw[t]) (by rw[t]) (by rw[t]) (by rw[t]) o g ⟨D,?_⟩ (k _ _ s2 (by simp[BL.own])) (k _ _ p2 (by simp[BL.own])) ?_ ?_ ?_ ?_ ?_ ?_ ?_ ?_ rk
   ·have:x.rk=l.rk:=by rw[t]
    rw[this];exact k _ _ R (by simp[BL.own])
   ·have:x.cq=l.cq:=by rw[t]
    rw[this];exact k _ _ (j d.facts (λz=>sW z.symm) (λz=>u6 z.symm)) (by simp[BL.own])
   ·have:x.cq=l.cq:=by rw[t]
    rw[this];have aux:∀{as:Z U} {fs:Z (Nat×Fc)},Paired (λa (p:Nat×Fc)=>H a=O (.tup ((e_ b.ps p.1 p.2).map kV))) as fs->(∀p∈fs,fG N.length b.ps.length p.2)->Paired (λa (p:Nat×Fc)=>H3 a=O (.tup ((e_ (b.ps++[(n,s)]) p.1 p.2).map kV))) as fs:=by
     intro as fs pr;induction pr with
     |nil=>intro _;exact .nil
     |cons f _ ih=>intro m;exact .cons (by rw[Zhi (m _ Ym)];exact tp o f) (ih λp hp=>m p (Yx _ hp))
    exact aux d.fact uG
   ·show H3 l.kn=O (.dT (gq (b.ps++[(n,s)]) b.fs));rw[Zhj uG];exact k _ _ (j d.known (λz=>u_ z.symm) (λz=>u7 z.symm)) (by simp[BL.own])
   ·show H3 l.pr=O (.dT (cD (b.ps++[(n,s)]) b.fs));rw[SI uG];exact k _ _ (j d.parents (λz=>vc z.symm) (λz=>u9 z.symm)) (by simp[BL.own])
   ·have:x.je=l.je:=by rw[t]
    rw[this];exact k _ _ (j d.done (λz=>xR z.symm) (λz=>xP z.symm)) (by simp[BL.own])
   ·have:x.je=l.je:=by rw[t]
    rw[this];exact _L.Paired.bN d.mO λ_ _ e=>e.out o λa G e=>d.tup e
   ·have:x.lP=l.lP:=by rw[t]
    rw[this];exact k _ _ (j d.jn (λz=>xS z.symm) (λz=>xQ z.symm)) (by simp[BL.own])
   ·have:x.lP=l.lP:=by rw[t]
    rw[this];exact _L.Paired.bN d.oX λ_ _ e=>e.out o λa G e=>d.tup e
  cases hj:d.uo with
  |no L W=>
   rw[L] at R;refine⟨_,Y,l.h,C,D,_,_,Y,R,i.cls,i.jh,Y,Y,_,Y,bV (aX ?_)⟩;exact mk l H2 Y (tZ J) (fF.refl _ _) (λ_ _ e _=>e) (.no L W)
  |at_ jl st L W ja X len iy=>
   have T:=R;rw[L] at T;have Ef:=ja.iP J iy (d.K1 ja X) λa G e z=>d.tup e (Ys _ z);refine hH Ef.obj λdj ej=>?_;have wf:=X.wf;have ml:=wf.Uk;have Ay:=wf.CC;have n8:N.length<=8:=ok.gd.2.2.2.2;refine⟨_,Y,l.h,C,D,_,_,Y,T,i.cls,i.jh,Y,Y,_,Y,dh ?_⟩;refine⟨_,Y,l.h,C,D,_,_,Y,T,i.cls,i.jh,Y,jl.J,dj,_,Y,ej,Y,jl,st,N.length,Y,Ef,(gm n8 (by decide)),QO,ml,Ay,wf.ll,λz=>Wi _ (wf.lm _ z),λz=>Wi _ (wf.lf _ z),λiW H3 k1 o3 gr NN=>?_⟩;refine mk {l with fH:=iW.fp} H3 Y (Vm W J o3) (Uu W J gr) (λa u e m=>o3 _ _ e (iy a m)) ?_;refine .at_ iW _ (by rw[k1];exact L) Y NN (X.more (by have:=ok.gd.2.2.2.1;omega)) ?_ λa m z=>?_;·rw[jL,len,Yl];rfl
   ·rcases gr a z with y|y;·exact iy a m y
    ·have:=d.there (a:=a) (Ys _ m);have:H2 a≠aG:=by
      have m':a∈l.own:=m;unfold BL.own at m';simp only[Yp,Y1,gV] at m';rcases m' with rfl|rfl|rfl|rfl|rfl|rfl|rfl|rfl;·rw[R];exact λz=>nomatch z
      ·rw[s2];exact λz=>nomatch z
      ·rw[p2];exact λz=>nomatch z
      ·rw[j d.facts (λz=>sW z.symm) (λz=>u6 z.symm)];exact λz=>nomatch z
      ·rw[j d.known (λz=>u_ z.symm) (λz=>u7 z.symm)];exact λz=>nomatch z
      ·rw[j d.parents (λz=>vc z.symm) (λz=>u9 z.symm)];exact λz=>nomatch z
      ·rw[j d.done (λz=>xR z.symm) (λz=>xP z.symm)];exact λz=>nomatch z
      ·rw[j d.jn (λz=>xS z.symm) (λz=>xQ z.symm)];exact λz=>nomatch z
     exact this y
 |fin z c hR fg nz nk np lv lim=>
  refine⟨_,Y,r,_,Y,aC.of hR,_,Y,bV ?_⟩;refine ie ?_;intros;refine⟨_,Y,l.h,D,_,Y,h1,Y,_,Y,l,b,N,ys,r,z,c,Y,d,hR,nz,nk,np,(tE lim),λH1 o1 f1 k1 p1=>?_⟩;have j:∀{a:U} {o:HO},H a=O o->a≠l.fc->a≠l.kn->a≠l.pr->H1 a=O o:=λ{a o} e n1 n2 n3=>o1 _ _ e (by simp[n1,n2,n3]);have J:Out l.own H H1:=λa u e na=>j e (λz=>na (by rw[z];simp[BL.own])) (λz=>na (by rw[z];simp[BL.own])) (λz=>na (by rw[z];simp[BL.own]));have R:=j h1 jE oj oo;have Zi:=nd;simp only[Y3,Yp,Y1,gV,mh] at Zi;obtain⟨_,_,_,⟨AD,AE,xT,k_⟩,⟨Eh,AF,AG⟩,⟨AH,AI⟩,_⟩:=Zi;have s2:=j d.dz u6 u7 u9;have p2:=j d.places sW u_ vc;have d2:=j d.done (λz=>xT z.symm) (λz=>AF z.symm) (λz=>AH z.symm);have u2:=j d.jn (λz=>k_ z.symm) (λz=>AG z.symm) (λz=>AI z.symm);have tp:∀{a:U} {G:Z V} {H3:Hp},Out l.fp H H3->H a=O (.tup G)->H3 a=O (.tup G):=λo e=>o _ _ e (d.tup e);have mk:∀(jf:Z U) (H3:Hp),Out l.fp H H3->fF l.fp ({l with cq:=l.cq++[r],fH:=jf}:BL).fp H->(∀a u,H1 a=O u->a∈l.own->H3 a=O u)->uD H3 CJ N.length {l with cq:=l.cq++[r],fH:=jf} {b with fs:=b.fs++[(z,c)]}->Q .aA H3:=λjf H3 o g k rk=>by
   refine q {l with cq:=l.cq++[r],fH:=jf} H3 ⟨Y,o,g⟩ ?_;refine d.build (l':={l with cq:=l.cq++[r],fH:=jf}) (b':={b with fs:=b.fs++[(z,c)]}) Y Y Y Y Y Y Y Y Y o g ⟨D,k _ _ R (by simp[BL.own])⟩ (k _ _ s2 (by simp[BL.own])) (k _ _ p2 (by simp[BL.own])) (k _ _ f1 (by simp[BL.own])) ?_ (k _ _ k1 (by simp[BL.own])) (k _ _ p1 (by simp[BL.own])) (k _ _ d2 (by simp[BL.own])) (_L.Paired.bN d.mO λ_ _ e=>e.out o λa G e=>d.tup e) (k _ _ u2 (by simp[BL.own])) (_L.Paired.bN d.oX λ_ _ e=>e.out o λa G e=>d.tup e) rk;exact kj (F:=λa (p:Nat×Fc)=>H3 a=O (.tup ((e_ b.ps p.1 p.2).map kV))) (tp o hR) (_L.Paired.bN d.fact λ_ _ e=>tp o e)
  cases hj:d.uo with
  |no L W=>
   rw[L] at R;refine⟨_,Y,l.h,C,D,_,_,Y,R,i.cls,i.jh,Y,Y,_,Y,bV (aX ?_)⟩;exact mk l.fH H1 (tZ J) (fF.refl _ _) (λ_ _ e _=>e) (.no L W)
  |at_ jl st L W ja X len iy=>
   have T:=R;rw[L] at T;have Ef:=ja.iP J iy (d.K1 ja X) λa G e z=>d.tup e (Ys _ z);have la2:jk H1 CL l.L N ys:=d.land H1 (tZ J);refine⟨_,Y,l.h,C,D,_,_,Y,T,i.cls,i.jh,Y,Y,_,Y,dh ?_⟩;refine⟨_,Y,l.h,C,D,_,_,Y,T,i.cls,i.jh,Y,_,Y,l.h,C,D,_,_,Y,T,i.cls,i.wA,Y,_,Y,l.h,C,D,_,_,Y,T,i.cls,i.oK,Y,_,Y,jl,st,l.L,l.pl,r,N,ys,b.ps,b.F,z,c,Y,Ef,X,la2,ok.gd,p2,ok.nm,len,by have:=ok.m;omega,tp (tZ J) hR,fg,?_,λv iW aN H3 e1 sub o3 NN me3 ZkZ=>?_⟩
   ·obtain⟨f0,i0,s0⟩:=lv;exact⟨f0,(X.iff f0).mpr ⟨by rw[len];exact i0,λc' m'=>s0 c' (Ys _ m')⟩,s0 c (Yg _ Ym)⟩
   have gr:fF jl.fp iW.fp H1:=λa z=>.inl (sub a z);refine mk iW.fp H3 (Vm W J o3) (Uu W J gr) (λa u e m=>o3 _ _ e (iy a m)) ?_;refine .at_ iW aN (by rw[e1];exact L) Y NN ?_ (by rw[ZkZ];exact len) λa m z=>iy a m (sub a z);show fL N.length aN ((b.fs++[(z,c)]).map (·.2));rw[Yr];exact me3
def Rw{l b:BL}(d:b.own=l.own)(c:b.fH=[]):fF l.fp b.fp H:=λa z=>.inl (by
 unfold BL.fp at z;rw[d,c,Y8] at z;exact Ys _ z)
def yj:aQ ["self","row","number","kind","one","other"] wY (aI E7):=.a9
theorem Zcs(F:aP K "take_out" "Hearth.take_out" E7 f fd)(g:fX K C)(jK:B "PARENTS"=O (.ref dW))(qP:∀H,aC K H dW (jv.map V.str))(vL:HasFn P w K B I 1 "is_person" j_ (HY K))(qj:HasFn P w K B I 1 "fact_key" wW CD):aE P w K B I aO 2 f fd wY (Qm C CL CJ):=by
 refine F.o yj @λbL A outer vs Q E s H W h=>?_;obtain⟨l,b,b',xs,ys,r,rfl,d,ok,mv,q⟩:=h;refine⟨_,(aq (aU (fh (aY vL W (aa (pv 1) ae))) gw (aq (mC (pv 1) (hZ (K:=K) (n:=4) Y Y (bq (a8 2 yj.nd) (bq (a8 3 yj.nd) (bq (a8 4 yj.nd) (bq (a8 5 yj.nd) hV)))))) (aq (Zfv (pF K 0) (pv 2)) (aq (Q6 (bw W) (pF K 0) (aY qj W (aa (pv 3) (aa (pv 4) (aa (pv 5) ae))))) (av (aU (fV (kH (K:=K) Y) (pv 3) (c9 (v:=.ref dW) Y jK Y) QU) (av (Q6 (bw W) (pF K 0) (dq (aa (pv 3) (aa (pv 4) ae))))) bb)))))) (av (iI (K:=K) Y (pv 0) nJ))),?_⟩;refine ie ?_;intros;refine hH d.obj λk J=>?_;have sz:(10000:Nat)<=sizeLine:=by rw[du];decide
 have nd:=d.nd;unfold BL.own at nd;simp only[Y3,Yp,Y1,gV,mh] at nd;obtain⟨⟨oi,cz,G,R,oo,pS,rf⟩,⟨AB,u6,u7,u9,xP,xQ⟩,⟨sW,u_,vc,xR,xS⟩,⟨AD,AE,xT,k_⟩,⟨Eh,AF,AG⟩,⟨AH,AI⟩,_⟩:=nd;cases mv with
 |wX z c hR m=>
  have al:(b.fs.map (·.1)).length=l.cq.length:=by rw[Ya];exact(dk d.fact).symm
  refine bh (Kn (H:=H) (ps:=b.ps) d.fact ok.zs m) λfa Ei _=>?_;have Zj2:(gq b.ps b.fs).map (·.1)=b.keys:=by unfold gq BS.keys;rw[Y9];rfl
  refine⟨_,Y,r,_,Y,aC.of hR,_,Y,bV ?_⟩;refine⟨_,Y,r,_,Y,aC.of hR,Y,_,_,Y,aS ⟨_,_,Y,aS ⟨_,_,Y,aS ⟨_,_,Y,aS ⟨Y,?_⟩⟩⟩⟩⟩;refine⟨_,Y,l.h,C,k,_,_,Y,J,g.cls,g.rT,Y,_,Y,l.fc,_,.inl (z:Int),Y,d.facts,Y,by rw[Ei];rfl,λH1 b1 e1=>?_⟩;rw[Bg z al,←qr] at e1;refine⟨_,Y,l.h,C,k,_,_,Y,b1 _ _ J G,g.cls,g.BY,Y,_,Y,_,Y,_,Y,c.k,aw b.ps c.one,bo b.ps c,Y,λe=>SN e,λp H2 Av g2 eA=>?_⟩;refine⟨l.kn,p,_,gn b.ps c,Y,g2 _ _ (b1 _ _ d.known (λz=>AD z.symm)),Y,eA,(BH _ _).mpr (by rw[Zj2];exact Yk.mpr ⟨_,m,Y⟩),λH3 b3 e3=>?_⟩;rw[ZfW ok.zs ok.ky m] at e3;have D:∀{a:U} {o:HO},H a=O o->a≠l.fc->a≠l.kn->H3 a=O o:=λ{a o} e n1 n2=>b3 _ _ (g2 _ _ (b1 _ _ e n1)) n2;have ef3:=b3 _ _ (g2 _ _ e1) AD;have AA:=D d.parents (λz=>AE z.symm) (λz=>Eh z.symm);have i:∀t,(∀{a:U} {o:HO},H3 a=O o->a≠l.pr->t a=O o)->t l.pr=O (.dT (cD b.ps (di z b.fs)))->∀H6,aB l.h t H6->H6 l.h=O (.ins C k (HF l.L l.sd l.pl l.fc l.kn l.pr (b.co:Int) l.dn l.un .aA))->Q .aA H6:=λt x X H6 j L=>by
   have y:∀{a:U} {o:HO},H a=O o->a≠l.fc->a≠l.kn->a≠l.pr->a≠l.h->H6 a=O o:=λ{a o} e n1 n2 n3 n4=>j _ _ (x (D e n1 n2) n3) n4;have o6:Out l.own H H6:=λa u e T=>y e (λz=>T (by rw[z];simp[BL.own])) (λz=>T (by rw[z];simp[BL.own])) (λz=>T (by rw[z];simp[BL.own])) (λz=>T (by rw[z];simp[BL.own]));have of:=tZ o6;have tp:∀{a:U} {N:Z V},H a=O (.tup N)->H6 a=O (.tup N):=λe=>of _ _ e (d.tup e);refine q {l with rk:=.aA,fH:=[],cq:=eM (b.fs.map (·.1)) l.cq z} H6 ⟨Y,of,Rw Y Y⟩ ?_;exact d.build (l':={l with rk:=.aA,fH:=[],cq:=eM (b.fs.map (·.1)) l.cq z}) (b':={b with fs:=di z b.fs}) Y Y Y Y Y Y Y Y Y of (Rw Y Y) ⟨k,L⟩ (y d.dz u6 u7 u9 (λz=>oi z.symm)) (y d.places sW u_ vc (λz=>cz z.symm)) (j _ _ (x ef3 AE) (λz=>G z.symm)) (HW d.fact λa p e _ _=>tp e) (j _ _ (x e3 Eh) (λz=>R z.symm)) (j _ _ X (λz=>oo z.symm)) (y d.done (λz=>xT z.symm) (λz=>AF z.symm) (λz=>AH z.symm) (λz=>pS z.symm)) (_L.Paired.bN d.mO λ_ _ e=>e.out of λa N e=>d.tup e) (y d.jn (λz=>k_ z.symm) (λz=>AG z.symm) (λz=>AI z.symm) (λz=>rf z.symm)) (_L.Paired.bN d.oX λ_ _ e=>e.out of λa N e=>d.tup e) (.no Y Y)
  refine⟨_,Y,dW,_,Y,.inr (qP _),Y,Y,_,Y,?_⟩;dsimp only;rw[bt Yn,show eW (kV (Sum.inr c.k)) (jv.map V.str)=cT c.k from B4 c.k];refine bC (λcc=>?_) (λcc=>aX ?_)
  ·refine⟨_,Y,l.h,C,k,_,_,Y,D J G R,g.cls,g.v9,Y,_,Y,_,Y,by show 2<=sizeLine;decide,λp4 H4 np4 g4 NM=>?_⟩;refine⟨l.pr,p4,_,[.inr c.k,.inr (aw b.ps c.one)],Y,g4 _ _ AA,Y,NM,(BH _ _).mpr ?_,λt b5 X=>?_⟩
   ·unfold cD;rw[Y9];exact Yk.mpr ⟨(z,c),Y4.mpr ⟨m,cc⟩,Y⟩
   rw[ZfX ok.zs ok.pr m cc] at X;have x:∀{a:U} {o:HO},H3 a=O o->a≠l.pr->t a=O o:=λ{a o} e n=>b5 _ _ (g4 _ _ e) n;refine⟨_,Y,l.h,C,k,_,Y,x (D J G R) oo,g.cls,g.jh,by show 10<1000;decide,λH6 j L=>?_⟩;exact i t x X H6 j L
  ·have ef:cT c.k=a_:=by
    cases e:cT c.k with
    |true=>exact absurd e cc
    |false=>rfl
   refine⟨_,Y,l.h,C,k,_,Y,D J G R,g.cls,g.jh,by show 10<1000;decide,λH6 j L=>?_⟩;exact i H3 (λe _=>e) (by rw[←Zev ok.zs m ef];exact AA) H6 j L
noncomputable abbrev pB:Z af:=["self","way","row","coming"]
def ZaF:aQ pB pB (aI FJ):=.a9
def ZfY(F:aP K "shift" "Hearth.shift" FJ f fd)(x:fX K C)(qu:B "PUT_IN"=O (.int 1 t1))(Fv:cJ P w K B I 8 "put_in" C wY (SK C CL CJ))(E8:cJ P w K B I 2 "take_out" C wY (Qm C CL CJ)):aE P w K B I aO 9 f fd pB (SM C CL CJ):=by
 refine F.o ZaF @λbL A D vs Q E s H W h=>?_;obtain⟨l,b,n,t,p,r,N,J,rfl,L,ok,mv,q⟩:=h;refine⟨_,(aq (aU (bG b_ (pv 1) (c9 (v:=.int (1)) Y qu ⟨_,Y⟩)) (av (bY (df Fv W (by decide) (pv 0) (aa (pv 2) ae)))) (av (bY (df E8 W (by decide) (pv 0) (aa (pv 2) ae))))) (av (iI (K:=K) Y (pv 0) (pv 3)))),?_⟩;refine ie ?_;intros;obtain⟨dx,X⟩:=L.obj;have T:∀(c:BL) (g:Hp),cC H g l c->bA g C CL CJ c t p n->∀(i:U) (H2:Hp),g c.h=O (.ins C i (HF c.L c.sd c.pl c.fc c.kn c.pr (n.co:Int) c.dn c.un c.rk))->aB c.h g H2->H2 c.h=O (.ins C i (HF c.L c.sd c.pl c.fc c.kn c.pr (J:Int) c.dn c.un c.rk))->Q .aA H2:=λc g m d i H2 o j e2=>by
  have G:=d.nd;unfold BL.own at G;simp only[Y3,Yp,Y1,gV,mh] at G;obtain⟨⟨oi,cz,jE,oj,oo,pS,rf⟩,_⟩:=G;have R:Out c.own g H2:=λa u e na=>j _ _ e (λz=>na (by rw[z];simp[BL.own]));have of:=tZ R;have sX:=(d.owned (b':={n with co:=J}) Y Y Y Y Y Y Y Y Y (.inl ⟨Y,Y,Y,Y⟩) R ⟨i,e2⟩ (j _ _ d.dz (λz=>oi z.symm)) (j _ _ d.places (λz=>cz z.symm)) (j _ _ d.facts (λz=>jE z.symm)) (_L.Paired.bN d.fact λ_ _ e=>(λe=>of _ _ e (d.tup e)) e) (j _ _ d.known (λz=>oj z.symm)) (j _ _ d.parents (λz=>oo z.symm)) (j _ _ d.done (λz=>pS z.symm)) (_L.Paired.bN d.mO λ_ _ e=>e.out of λ a us=>d.tup) (j _ _ d.jn (λz=>rf z.symm)) (_L.Paired.bN d.oX λ_ _ e=>e.out of λa us e=>d.tup e)).1;exact q c H2 (m.trans ⟨Y,of,fF.refl _ _⟩) sX
 have go:∀(c:BL) (g:Hp),cC H g l c->bA g C CL CJ c t p n->∃i,g l.h=O (.ins C i (HF c.L c.sd c.pl c.fc c.kn c.pr (n.co:Int) c.dn c.un c.rk))/\∀H2,aB l.h g H2->H2 l.h=O (.ins C i (HF c.L c.sd c.pl c.fc c.kn c.pr (J:Int) c.dn c.un c.rk))->Q .aA H2:=λc g m d=>by
  obtain⟨i,o⟩:=d.obj;have eh:=m.h
  grind
 have y:N=1\/N=-1:=by cases mv<;>first|exact .inl Y|exact .inr Y
 rcases y with rfl|rfl
 ·refine⟨_,Y,Y,_,Y,dh ?_⟩;refine⟨_,Y,l.h,dx,_,Y,X,Y,_,Y,l,b,n,t,p,r,Y,L,ok,mv,λc g m d=>?_⟩;refine bh (go c g m d) λi o k=>?_;exact⟨_,Y,_,Y,l.h,C,i,_,Y,o,x.cls,x.rL,by show 10<1000;decide,k⟩
 ·refine⟨_,Y,Y,_,Y,bV ?_⟩;refine⟨_,Y,l.h,dx,_,Y,X,Y,_,Y,l,b,n,t,p,r,Y,L,ok,mv,λc g m d=>?_⟩;refine bh (go c g m d) λi o k=>?_;exact⟨_,Y,_,Y,l.h,C,i,_,Y,o,x.cls,x.rL,by show 10<1000;decide,k⟩
def Zam:aQ pB pB (aI Fe):=.a9
def Zdq(F:aP K "do_deed" "Hearth.do_deed" Fe f fd)(g:fX K C)(FO:cJ P w K B I 9 "shift" C pB (SM C CL CJ)):aE P w K B I aO 10 f fd pB (BI C CL CJ):=by
 refine F.o Zam λs H hr h=>?_;obtain⟨l,b,b',xs,X,r,G,R,x,rfl,c,ok,dl,hR,mv,q⟩:=h;refine⟨_,(aq (bY (kW (K:=K) Y (iK l3 my mr l_ (pF K 0) (aa (dq (aa (pv 1) (aa (pv 2) (aa (pF K 0) (aa (pv 3) ae))))) ae)))) (aq (bY (ZgO (K:=K) Y (ZhZ l3 PySem.F.slot_list_clear PySem.F.type_list_clear Zd_ (pF K 0)))) (av (bY (df FO hr (by decide) (pv 0) (aa (pv 1) (aa (pv 2) (aa (pv 3) ae)))))))),?_⟩;refine me ?_;intros;obtain⟨j,i⟩:=c.obj;have sz:(10000:Nat)<=sizeLine:=by rw[du];decide
 have A:=c.nd;unfold BL.own at A;simp only[Y3,Yp,Y1,gV,mh] at A;obtain⟨⟨oi,cz,jE,oj,oo,y,J⟩,⟨AB,u6,u7,u9,xP,xQ⟩,⟨sW,u_,vc,xR,xS⟩,⟨AD,AE,xT,k_⟩,⟨Eh,AF,AG⟩,⟨AH,AI⟩,W,_⟩:=A;have dal:=dk c.mO;refine⟨_,Y,l.h,C,j,_,_,Y,i,g.cls,g.Uq,Y,.inl ⟨Y,_,aj.of c.done⟩,?_⟩;refine⟨_,Y,_,Y,_,Y,l.h,C,j,_,_,Y,i,g.cls,g.rL,Y,_,Y,by show 4<=sizeLine;decide,λp H1 m n e1=>?_⟩;refine⟨l.dn,_,_,Y,Y,n _ _ c.done,by rw[Ya];omega,λH2 t e2=>?_⟩;have a1:=t _ _ (n _ _ i) y;have T:=t _ _ (n _ _ c.jn) (λz=>W z.symm);refine⟨_,Y,l.h,C,j,_,_,Y,a1,g.cls,g.Rp,Y,.inl ⟨Y,_,aj.of T⟩,l.un,_,Y,Y,T,λH3 E e3=>?_⟩;have d:∀{a:U} {o:HO},H a=O o->a≠l.dn->a≠l.un->H3 a=O o:=λ{a o} e n1 n2=>E _ _ (t _ _ (n _ _ e) n1) n2;have L:Out l.own H H3:=λa u e Q=>d e (λz=>Q (by rw[z];simp[BL.own])) (λz=>Q (by rw[z];simp[BL.own]));have of:=tZ L;have v:∀{a:U} {k:Z V},H a=O (.tup k)->H3 a=O (.tup k):=λe=>of _ _ e (c.tup e);have pu:p≠l.un:=λz=>by rw[z,c.jn] at m;cases m
 have ed:H3 l.dn=O (.lst ((l.je++[p]).map V.ref)):=by rw[Yr];exact E _ _ e2 W
 have N:=(c.owned (l':={l with je:=l.je++[p],lP:=[]}) (b':={b with dn:=b.dn++[⟨G,x,b.co,R⟩],un:=[]}) Y Y Y Y Y Y Y Y Y (.inl ⟨Y,Y,Y,Y⟩) L ⟨j,d i y J⟩ (d c.dz xP xQ) (d c.places xR xS) (d c.facts xT k_) (_L.Paired.bN c.fact λ_ _ e=>v e) (d c.known AF AG) (d c.parents AH AI) ed (kj (F:=oW H3) ⟨r,E _ _ (t _ _ e1 (λz=>by rw[z,c.done] at m;cases m)) pu,v hR⟩ (_L.Paired.bN c.mO λ_ _ e=>e.out of λa k e=>c.tup e)) e3 .nil);have h3:=d i y J;refine⟨_,Y,l.h,j,_,Y,h3,Y,_,Y,_,Y,_,Y,{l with je:=l.je++[p],lP:=[]},_,_,xs,X,r,G,R,Y,N.1,⟨ok.gd,ok.nm,ok.m,ok.fl,ok.fg,ok.zs,ok.lt,ok.ky,ok.pr,ok.lv,by show(b.dn++[_]).length<=200;rw[Yl];show b.dn.length+1<=200;exact l5 dl,Yw _⟩,((mv.Zj0 _ _).out λk e=>v e),λl' H4 wt D=>?_⟩;exact q l' H4 (cC.trans (l1:={l with je:=l.je++[p],lP:=[]}) ⟨Y,of,N.2⟩ wt) D
def cS.Zk0(j:cS H C n l st)(h:a∈l.cq):∃b,H a=O (.lst b):=by
 obtain⟨p,e⟩:=yB j.free h
 grind
def cS.pT(j:cS H C n l st)(e:H a=O o)(p:∀c,o≠.lst c)(m:∀c,o≠.tup c)(r:a∉l.fp)(i:aB a H k):cS k C n l st:=by
 refine j.iP (fp:=[a]) (λb u g h=>i _ _ g λz=>h (by rw[z];exact Ym)) (λb d=>?_) (λb d z=>?_) λb c g z=>?_;·grind
 ·rw[Yi.mp d] at z;obtain⟨c,q⟩:=j.Zk0 z
  grind
 ·grind
inductive qI(H:Hp)(C CJ g d:U)(l:BL)(b:BS)(n:Nat)(J:U)(F:Z Fc)(m:Nat)(c:Hp):Prop
 |mk (e:JL) (st:JS) (k:e.J=J) (keep:∀a u,H a=O u->a≠l.h->a≠d->c a=O u) (h:c l.h=O (.ins C g (HF l.L l.sd l.pl l.fc l.kn l.pr (b.co:Int) l.dn l.un (.ref J)))) (j:cS c CJ n e st) (i:fL n st F) (len:st.hd.length=m) (new:∀a∈e.fp,H a=aG):qI H C CJ g d l b n J F m c
def qI.pT(j:qI H C CJ G d l b n J F m k)(A:H c≠aG)(e:k c=O o)(q:∀g,o≠.lst g)(p:∀g,o≠.tup g)(r:c≠l.h)(i:aB c k H7)(L:∀u,H d=O u->d≠c->d≠l.h->H7 d=O u):qI H C CJ G c l b n J F m H7:=by
 obtain⟨x,st,E,keep,h,y,v,len,new⟩:=j;refine⟨x,st,E,λa u D t s=>?_,i _ _ h (λz=>r z.symm),y.pT e q p (λz=>A (new _ z)) i,v,len,new⟩;by_cases z:a=d;·grind
 ·exact i _ _ (keep a u D t z) s
theorem Qn:∀{c:Z Nat} {as:Z U} {i:Nat} {k:Key} {y:V},(bH c as)[i]?=O (k,y)->∃a,as[i]?=O a/\y=.ref a
 |[],as,i,k,y,h=>by
  unfold bH at h;simp at h
 |_::_,[],i,k,y,h=>by
  unfold bH at h;simp at h
 |q::c,a::as,0,k,y,h=>by
  injection(Yo h) with _ e
  grind
 |q::c,a::as,i+1,k,y,h=>by
  have g:bH (q::c) (a::as)=(Sum.inl (q:Int),V.ref a)::bH c as:=Y;rw[g] at h;have d:(bH c as)[i]?=O (k,y):=by simpa using h
  refine bh (Qn d) λb j e=>?_
  grind
inductive SO(C CL CJ:U)(i:Z V)(H:Hp)(Q:VK)(E:XK):Prop
 |mk (l:BL) (b:BS) (d h:Z Int) (k:i=[.ref l.h]) (j:bA H C CL CJ l d h b) (ok:cL d h b) (q:∀(c:BL) (e:JL) (st:JS) (g:Hp),cC H g l c->bA g C CL CJ c d h b->c.rk=.ref e.J->c.fH=e.fp->cS g CJ d.length e st->fL d.length st b.F->st.hd.length=b.ps.length->(∀a∈c.own,a∉e.fp)->(l.rk≠.aA->g=H/\c=l)->Q (.ref e.J) g)
def Fw:aQ ["self","name","fact"] jV (aI FI):=.a9
theorem ZfZ(F:aP K "joins" "Hearth.joins" FI f fd)(t:fX K C)(lc:wH K CL)(Ko:wF P w K B I 1 "Joins" CJ C2 (Su CJ))(vM:cJ P w K B I 2 "add" CJ jV (Ls CJ))(vN:HasFn P w K B I 6 "keep_fact" uE (Km CL CJ)):aE P w K B I aO 8 f fd jV (SO C CL CJ):=by
 refine F.o Fw λs H hr h=>?_;obtain⟨l,b,xs,ys,rfl,g,ok,q⟩:=h;refine⟨_,(aq (aU (bG Ky (pF K 0) nJ) (aq (iI (K:=K) Y (pv 0) (Ll Ko hr (by decide) Y (aa (wm (K:=K) Y (pF K 0) Y) ae))) (aq (Zc5 (H0:=H) Y hY Y (ZgP (H0:=H) Y (pF K 0)) (a8 1 Fw.nd) (av (bY (ze vM hr (by decide) (pF K 0))))) (av (Zc6 (H0:=H) Y hY Y (ZgS (H0:=H) Y (pF K 0)) (a8 2 Fw.nd) (av (bY (aY vN hr (aa (pF K 0) (aa (pF K 0) (aa (pF K 0) (aa (pv 2) ae))))))))))) bb) (av (aK (pF K 0)))),?_⟩;refine hH g.obj λA h1=>?_;have n8:xs.length<=8:=ok.gd.2.2.2.2;have n0:0<xs.length:=by have:=ok.gd.2.2.2.1;omega
 have nd:=g.nd;unfold BL.own at nd;simp only[Y3,Yp,Y1,gV,mh] at nd;refine ng nd λlX jm lr js _=>?_;obtain ⟨oi,cz,jE,oj,oo,pS,rf⟩:=lX;obtain ⟨AB,u6,u7,u9,xP,xQ⟩:=jm;obtain ⟨sW,u_,vc,xR,xS⟩:=lr;obtain ⟨AD,AE,xT,k_⟩:=js;cases hj:g.uo with
 |at_ p st j1 j2 T L len iy=>
  have mY:=h1;rw[j1] at mY;refine ie ?_;intros;refine⟨_,Y,l.h,C,A,_,_,Y,mY,t.cls,t.jh,Y,Y,_,Y,bV (aX ?_)⟩;exact⟨_,Y,l.h,C,A,_,_,Y,mY,t.cls,t.jh,Y,q l p st H (cC.of (ah.refl _)) g j1 j2 T L len iy λ_=>⟨Y,Y⟩⟩
 |no j1 j2=>
  have mY:=h1;rw[j1] at mY;refine kr (λσ H6=>∃(J:U) (E D:bS V),σ=[O (.ref l.h),E,D]/\qI H C CJ A l.h l b xs.length J b.F b.ps.length H6) (λnx hn=>?_) ?_
  ·refine⟨_,Y,l.h,C,A,_,_,Y,mY,t.cls,t.jh,Y,Y,_,Y,dh ?_⟩;obtain⟨dL,dS,mo,lQ,wi,im,jf,iw,Ae,hL,_⟩:=g.landAt;refine me ?_;intros;refine⟨_,Y,l.h,C,A,_,_,Y,mY,t.cls,t.wA,Y,l.L,CL,dL,_,_,Y,hL,lc.cls,lc.ua,Y,λx Ej rh Ap nd2=>?_⟩;have Aq:upd H Ej (.own x) x=aG:=by rw[aJ (λz=>nd2 z.symm)];exact rh
   have Zk:ah H (upd (upd H Ej (.own x)) x (.ins CJ Ej [])):=(cE Ap _).trans (cE Aq _);refine⟨x,Ej,xs.length,Y,aW,λNO H2 eJ1 em1 fr1 b2 ja1=>⟨Y,?_⟩⟩;have f1:∀a∈NO.fp,H a=aG:=λa ha=>by
    by_cases z:a=x;·rw[z];exact rh
    ·exact Zk.free (fr1 a ha z)
   have g2:ah H H2:=λa o e=>b2 _ _ (Zk _ _ e) (bU e rh);refine⟨_,Y,l.h,C,A,_,Y,g2 _ _ mY,t.cls,t.jh,by show 10<1000;decide,λH3 b3 e3=>?_⟩;have Zl:H3 l.h=O (.ins C A (HF l.L l.sd l.pl l.fc l.kn l.pr (b.co:Int) l.dn l.un (.ref x))):=e3;have Ee:l.h∉NO.fp:=λz=>by have:=f1 _ z;rw[h1] at this;cases this
   have jm3:qI H C CJ A l.h l b xs.length x [] 0 H3:=⟨NO,_,eJ1,λa u e n1 _=>b3 _ _ (g2 _ _ e) n1,Zl,ja1.pT (g2 _ _ mY) (λG z=>nomatch z) (λG z=>nomatch z) Ee b3,ZjZ,Y,f1⟩;have s3:H3 l.sd=O (.dK (iu b.ps)):=b3 _ _ (g2 _ _ g.dz) (λz=>oi z.symm);dsimp only;refine fW (λσ H6=>∃E D:bS V,σ=[O (.ref l.h),E,D]/\qI H C CJ A l.h l b xs.length x [] b.ps.length H6) (λxU kO=>?_) ?_
   ·refine Zft (d:=l.sd) (kvs:=iu b.ps) (H1:=H3) (λR r=>⟨_,Y,l.h,C,A,_,_,Y,Zl,t.cls,t.tY,Y,r⟩) s3 (λi σ H6=>∃E D:bS V,σ=[O (.ref l.h),E,D]/\qI H C CJ A l.sd l b xs.length x [] i H6) (λod=>⟨aG,aG,Y,jm3.pT (by rw[g.dz];exact λz=>nomatch z) s3 (λG z=>nomatch z) (λG z=>nomatch z) (λz=>oi z.symm) (aB.put (aB.of (ah.refl _))) (λu _ _ z=>absurd Y z)⟩) ?_ ?_
    ·rintro od i k y aM H6 N rt bk hk ⟨E,D,rfl,Q⟩ fz hN;obtain⟨p,st,W,keep,j,T,L,len,new⟩:=Q;have il:i<b.ps.length:=by
      have:=(Yh.mp hk).1
      rwa [Ya] at this
     have im:=ok.m;obtain⟨dj,ej⟩:=T.obj;have wf:=L.wf;have ml:=wf.Uk;have Ay:=wf.CC;refine aS ?_;refine⟨_,Y,l.h,C,A,_,_,Y,j,t.cls,t.jh,Y,p.J,dj,_,by rw[W],ej,Y,p,st,xs.length,by rw[W];rfl,T,(gm n8 (by decide)),QO,ml,Ay,wf.ll,λz=>Wi _ (wf.lm _ z),λz=>Wi _ (wf.lf _ z),λiW H7 k1 o7 gr ja7=>?_⟩;have X:∀{a:U} {u:HO},H a=O u->a∉p.fp:=λ{a u} e z=>by rw[new _ z] at e;cases e
     refine hN _ _ ⟨_,_,Y,iW,_,k1.trans W,λa u e n1 n2=>o7 _ _ (keep a u e n1 n2) (X e),o7 _ _ j (X h1),ja7,L.more n0,by rw[jL,len],λa z=>?_⟩ (o7 _ _ fz (X g.dz));rcases gr a z with y|y;·exact new a y
     ·cases e:H a with
      |none=>rfl
      |some u=>
       by_cases z1:a=l.h;·rw[z1,j] at y;cases y
       ·by_cases z2:a=l.sd;·rw[z2,fz] at y;cases y
        ·rw[keep a u e z1 z2] at y;cases y
    ·rintro od aM H6 ⟨E,D,rfl,Q⟩ fz;rw[Ya] at Q;refine kO _ _ ⟨E,D,Y,?_⟩;obtain⟨p,st,W,keep,j,T,L,len,new⟩:=Q;have X:l.sd∉p.fp:=λz=>by have:=new _ z;rw[g.dz] at this;cases this
     refine⟨p,st,W,λa u e n1 _=>?_,by rw[aJ oi];exact j,T.pT fz (λG z=>nomatch z) (λG z=>nomatch z) X (aB.put (aB.of (ah.refl _))),L,len,new⟩;by_cases z:a=l.sd
     ·subst z;rw[aW];rw[g.dz] at e;exact e
     ·rw[aJ z];exact keep a u e n1 z
   ·rintro σ H6 ⟨E,D,rfl,Q⟩;obtain⟨jl0,ZmO,eJ0,Zj3,Zk1,ja0,me0,len0,ZmP⟩:=id Q;have f6:H6 l.fc=O (.dK (bH (b.fs.map (·.1)) l.cq)):=Zj3 _ _ g.facts (λz=>jE z.symm) (λz=>jE z.symm);have al:=dk g.fact;refine Zfu (d:=l.fc) (kvs:=bH (b.fs.map (·.1)) l.cq) (H1:=H6) (λR r=>⟨_,Y,l.h,C,A,_,_,Y,Zk1,t.cls,t.rT,Y,r⟩) f6 (λi σ H6=>∃E D:bS V,σ=[O (.ref l.h),E,D]/\qI H C CJ A l.fc l b xs.length x (b.F.take i) b.ps.length H6) (λod=>⟨E,D,Y,Q.pT (by rw[g.facts];exact λz=>nomatch z) f6 (λG z=>nomatch z) (λG z=>nomatch z) (λz=>jE z.symm) (aB.put (aB.of (ah.refl _))) (λu _ _ z=>absurd Y z)⟩) ?_ ?_
    ·rintro od i k y aM H7 N rt bk hk ⟨E,D,rfl,Q⟩ fz hN;obtain⟨fa,efa,rfl⟩:=Qn hk;obtain⟨⟨z,c⟩,Zm,cW⟩:=gY g.fact efa;have mzc:=Yj Zm;obtain⟨p,st,W,keep,j,T,L,len,new⟩:=Q;have X:∀{a:U} {u:HO},H a=O u->a∉p.fp:=λ{a u} e z=>by rw[new _ z] at e;cases e
     have of:Out l.fp H H7:=λa u e n=>keep a u e (λz=>n (by rw[z];simp[BL.fp,BL.own])) (λz=>n (by rw[z];simp[BL.fp,BL.own]));have fg:=ok.fg _ mzc;have im:=ok.m;have ec:b.F[i]?=O c:=by unfold BS.F;rw[Yf,Zm];rfl
     have tk:b.F.take (i+1)=b.F.take i++[c]:=by rw[Yz,ec];rfl
     refine aS ?_;refine⟨_,Y,l.h,C,A,_,_,Y,j,t.cls,t.jh,Y,_,Y,l.h,C,A,_,_,Y,j,t.cls,t.wA,Y,_,Y,l.h,C,A,_,_,Y,j,t.cls,t.oK,Y,_,Y,p,st,l.L,l.pl,fa,xs,ys,b.ps,b.F.take i,z,c,by rw[W];rfl,T,L,g.land H7 of,ok.gd,keep _ _ g.places (λz=>cz z.symm) sW,ok.nm,len,(gm im (by decide)),of _ _ cW (g.tup cW),fg,?_,λv iW aN H8 e1 sub o8 ja8 me8 Zk2=>?_⟩
     ·obtain⟨f0,i0,s0⟩:=ok.lv;exact⟨f0,(L.iff f0).mpr ⟨by rw[len];exact i0,λc' m'=>s0 c' (Jk m')⟩,s0 c (Yj ec)⟩
     ·refine hN _ _ ⟨_,_,Y,iW,aN,e1.trans W,λa u e n1 n2=>o8 _ _ (keep a u e n1 n2) (X e),o8 _ _ j (X h1),ja8,by rw[tk];exact me8,Zk2.trans len,λa z=>new a (sub a z)⟩ (o8 _ _ fz (X g.facts))
    ·rintro od aM H7 ⟨E,D,rfl,Q⟩ fz;have dl:(bH (b.fs.map (·.1)) l.cq).length=b.F.length:=by
      unfold bH BS.F;rw[Ya,Jp,Ya,Ya];omega
     rw[dl,Wc] at Q;refine hn _ _ ⟨x,E,D,Y,?_⟩;obtain⟨p,st,W,keep,j,T,L,len,new⟩:=Q;have X:l.fc∉p.fp:=λz=>by have:=new _ z;rw[g.facts] at this;cases this
     refine⟨p,st,W,λa u e n1 _=>?_,by rw[aJ jE];exact j,T.pT fz (λG z=>nomatch z) (λG z=>nomatch z) X (aB.put (aB.of (ah.refl _))),L,len,new⟩;by_cases z:a=l.fc
     ·subst z;rw[aW];rw[g.facts] at e;exact e
     ·rw[aJ z];exact keep a u e n1 z
  ·rintro σ H6 ⟨J,E,D,rfl,Q⟩;obtain⟨p,st,W,keep,j,T,L,len,new⟩:=Q;refine⟨_,Y,l.h,C,A,_,_,Y,j,t.cls,t.jh,Y,?_⟩;have k6:∀{a:U} {u:HO},H a=O u->a≠l.h->H6 a=O u:=λ{a u} e n=>keep a u e n n;have of:Out l.fp H H6:=λa u e n=>k6 e (λz=>n (by rw[z];simp[BL.fp,BL.own]));have tp:∀{a:U} {G:Z V},H a=O (.tup G)->H6 a=O (.tup G):=λe=>of _ _ e (g.tup e);have gr:fF l.fp ({l with rk:=.ref p.J,fH:=p.fp}:BL).fp H:=λa z=>by
    rcases Yq.mp (show a∈l.own++p.fp from z) with y|y;·exact .inl (Ys _ y)
    ·exact .inr (new a y)
   have iy:∀a∈l.own,a∉p.fp:=λa m z=>g.there (Ys _ m) (new a z);subst W;refine q {l with rk:=.ref p.J,fH:=p.fp} p st H6 ⟨Y,of,gr⟩ ?_ Y Y T L len iy λz=>absurd j1 z;exact g.build (l':={l with rk:=.ref p.J,fH:=p.fp}) (b':=b) Y Y Y Y Y Y Y Y Y of gr ⟨A,j⟩ (k6 g.dz (λz=>oi z.symm)) (k6 g.places (λz=>cz z.symm)) (k6 g.facts (λz=>jE z.symm)) (_L.Paired.bN g.fact λ_ _ e=>tp e) (k6 g.known (λz=>oj z.symm)) (k6 g.parents (λz=>oo z.symm)) (k6 g.done (λz=>pS z.symm)) (_L.Paired.bN g.mO λ_ _ e=>e.out of λa G e=>g.tup e) (k6 g.jn (λz=>rf z.symm)) (_L.Paired.bN g.oX λ_ _ e=>e.out of λa G e=>g.tup e) (.at_ p st Y Y T L len iy)
noncomputable def gW(z:af)(c:Nat):cF:=!(Builtin.Str.occurrences z ⟨#[c]⟩ 0 z.length 1).isEmpty
noncomputable abbrev qv:af:="abcdefghijklmnopqrstuvwxyz"
noncomputable abbrev nK:af:="abcdefghijklmnopqrstuvwxyz0123456789"
def uq(z:af):cF:=match z.cps.toList with
 |[]=>a_
 |c::r=>decide (z.length<=12)&&(gW qv c&&(c::r).all (gW nK))
def Zk3(v:af):v.cps.toList.length=v.length:=by simp[Str.length]
def Zhn{z:af}(h:z.cps.toList=[]):z="":=by
 cases z with|mk a=>cases a with|mk l=>cases h;rfl
def Zf0(h:z.cps.toList=[]):uq z=a_:=by unfold uq;rw[h]
def Qo(h:z.cps.toList=c::r):uq z=(decide (z.length<=12)&&(gW qv c&&(c::r).all (gW nK))):=by unfold uq;rw[h]
def Rx:Sp:=λb H Q _=>∃z:af,b=[.str z]/\z.length<=1000/\∀a,ah H a->Q (.bl (uq z)) a
def Zdr:aQ ["text"] ["text"] (aI IE):=.a9
theorem Zds(F:aP K "is_name" "is_name" IE f fd)(y:B "LONGEST_NAME"=O (.int 12 t1))(E:B "LETTERS_OF_NAMES"=O (.str "abcdefghijklmnopqrstuvwxyz" G))(x:B "SIGNS_OF_NAMES"=O (.str "abcdefghijklmnopqrstuvwxyz0123456789" t3))(l:Bl B):
  aE P w K B I aO 1 f fd ["text"] Rx:=by
 refine F.o Zdr λs H J h=>?_;refine cu h λz Q d q=>?_;subst Q;refine⟨_,(aq (aU (PW.pt (pw_or (bG b_ (pv 0) aT) (pw_or (bG Lb (hJ (Zbu) Y l.Cw B_ (aa (pv 0) ae)) (c9 (v:=.int (12)) Y y ⟨_,Y⟩)) (pw_or1 (fV Zbr (bc t8 (pv 0) aF) (c9 (v:=.str "abcdefghijklmnopqrstuvwxyz") Y E ⟨_,Y⟩) QU))))) (av (aK gH)) bb) (av (aK (hJ (VY (K:=K) Y Y) Y l.U7 TB (aa (jj (fr:=[]) (cl:=[]) Y (.ir trivial trivial) (Cd (pv 0)) (λ_ _ _ _=>nI) (λ_ _ _ _=>(BO Iu (pv 0) (c9 (v:=.str "abcdefghijklmnopqrstuvwxyz0123456789") Y x ⟨_,Y⟩) QU))) ae))))),?_⟩;refine ie ?_;intros;have sz:(10000:Nat)<=sizeLine:=by rw[du];decide
 cases a:z.cps.toList with
 |nil=>
  have e:=Zhn a;rw[Zf0 a] at q;refine⟨_,Y,Y,_,Y,bC (λ_=>?_) (λc=>absurd (d6 (by rw[e])) c)⟩;exact q H (ah.refl H)
 |cons c r=>
  have n:=Zk3 z;rw[a,Wh] at n;rw[Qo a] at q;refine⟨_,Y,Y,_,Y,bC (λb=>?_) (λ_=>?_)⟩
  ·have e:=V.str.inj (eL b);have t:(Str.ofString "").cps.toList=[]:=QK
   rw[e,t] at a;cases a
  refine⟨_,Y,z,Y,(gm d (by decide)),_,_,Y,Y,_,Y,bC (λb=>?_) (λb=>?_)⟩
  ·have m:=eL b;rw[ij (by omega:¬z.length<=12)] at q;exact q H (ah.refl H)
  have A:z.length<=12:=by
   grind
  rw[d6 A,Jc] at q;refine⟨_,Y,_,_,_,Y,Y,(gm d (by decide)),dM (by rw[a];rfl),_,_,Y,Y,_,Y,bC (λb=>?_) (λb=>aX ?_)⟩
  ·have m:gW qv c=a_:=by
    have z:(!gW qv c)=ar:=b;cases e:gW qv c;·rfl
    ·rw[e] at z;cases z
   rw[m,Qcp] at q;exact q H (ah.refl H)
  have u:gW qv c=ar:=by
   cases e:gW qv c;·exact absurd (show(!gW qv c)=ar by rw[e];rfl) b
   ·rfl
  rw[u,Jc,←a] at q;refine⟨_,Y,z,Y,λD o=>Zea (gm d (by decide)) o (λc=>V.bl (gW nK c)) (λi c L g j N k=>?_) λg j p=>?_⟩;·exact⟨_,Y,_,_,Y,Y,k g (ah.refl _)⟩
  ·refine⟨D,z.cps.toList.map (gW nK),Y,aj.of (by rw[p,Y9];rfl),?_⟩;exact M5▸q g j
def fG.more(h:fG n m c)(l:m<=g):fG n g c:=⟨by have:=h.one;exact i2 this l,λe=>by obtain⟨⟨a,b⟩,d⟩:=h.iV e;exact⟨⟨a,(i2 b l)⟩,d⟩⟩
def fY.more(h:fY xs a m c)(l:m<=b):fY xs a b c:=⟨h.ok.more l,h.kind,h.L3⟩
def Zi8{f g:Nat->Int}(a:fG n m c)(e:∀i,i<m->g i=f i)(s:gS f c):gS g c:=⟨λh=>by rw[e _ a.one];exact s.1 h,λh=>by rw[e _ a.one,e _ (a.iV h).1.2];exact s.2 h⟩
section
variable {xs X:Z Int}{b:BS}
def cL.Zk4(a:cL xs X b)(l:n∉b.ps.map (·.1))(o:b.ps.length<64)(r:b.co<=y)(x:t.length<=200)(j:un.length<=200):cL xs X {b with ps:=b.ps++[(n,s)],co:=y,dn:=t,un:=un}:=by
 have e:=λp d=>(a.fg p d).ok;have len:(b.ps++[(n,s)]).length=b.ps.length+1:=by rw[Yl];rfl
 refine⟨a.gd,?_,by show(b.ps++[(n,s)]).length<=64;omega,a.fl,λp d=>?_,a.zs,λp d=>Y6 (a.lt p d) r,?_,?_,?_,x,j⟩
 ·show((b.ps++[(n,s)]).map (·.1)).Nodup;rw[Yr];refine Wz.mpr ⟨a.nm,QS,λu D v A z=>?_⟩
  grind
 ·exact len▸(a.fg p d).more (xm _)
 ·show(b.fs.map λp=>gn (b.ps++[(n,s)]) p.2).Nodup;rw[(Wq λp d=>by rw[SH (e p d)])];exact a.ky
 ·show((cD (b.ps++[(n,s)]) b.fs).map (·.1)).Nodup;rw[SI e];exact a.pr
 ·refine bh a.lv λf q k=>?_;refine⟨λi=>if i<b.ps.length then f i else 0,λi g=>?_,λc m=>?_⟩
  ·show 0<=(if i<b.ps.length then f i else 0)/\(if i<b.ps.length then f i else 0)<(xs.length:Int);by_cases h:i<b.ps.length;·rw[bR h];exact q i h
   ·rw[bt h];have:=a.gd.2.2.2.1
    grind
  ·obtain⟨p,d,rfl⟩:=Yk.mp m;exact Zi8 (e p d) (λi g=>bR g) (k _ m)
theorem cL.Zk5(g:cL xs X b)(N:fY xs X b.ps.length c)(o:z∉b.fs.map (·.1))(r:gn b.ps c∉b.keys)(q:cT c.k=ar->[.inr c.k,.inr (aw b.ps c.one)]∉(cD b.ps b.fs).map (·.1))(s:∃f,pR xs.length b.ps.length f/\∀h∈b.F++[c],gS f h)(t:b.fs.length<63)(D:b.co<=co)(J:z<co)(H:G.length<=200)(k:un.length<=200):cL xs X {b with fs:=b.fs++[(z,c)],co:=co,dn:=G,un:=un}:=by
 have a:∀{i:Type} {l:Z i} {x:i},l.Nodup->x∉l->(l++[x]).Nodup:=λ{i l x} F E=>Wz.mpr ⟨F,QS,λu L v A e=>by
  have:v=x:=by simpa using A
  exact E (by rwa[←this,←e])⟩
 refine⟨g.gd,g.nm,g.m,by show(b.fs++[(z,c)]).length<=63;rwa[Yl],λp d=>?_,?_,λp d=>?_,?_,?_,?_,H,k⟩
 ·rcases Yq.mp d with d|d;·exact g.fg p d
  ·rwa[Yi.mp d]
 ·show((b.fs++[(z,c)]).map (·.1)).Nodup;exact Yr▸a g.zs o
 ·rcases Yq.mp d with d|d;·exact Y6 (g.lt p d) D
  ·rwa[Yi.mp d]
 ·show((b.fs++[(z,c)]).map λp=>gn b.ps p.2).Nodup;exact Yr▸a g.ky r
 ·show((cD b.ps (b.fs++[(z,c)])).map (·.1)).Nodup;cases e:cT c.k with
  |true=>rw[Ru e,Yr];exact a g.pr (q e)
  |false=>rw[Rv e];exact g.pr
 ·refine bh s λf y n=>?_;refine⟨f,y,λh m=>n h ?_⟩;have j:h∈(b.fs++[(z,c)]).map (·.2):=m;rw[Yr] at j;exact j
def cL.drop(a:cL xs X b)(z:Nat)(i:b.co<=l)(k:j.length<=200)(e:un.length<=200):cL xs X {b with fs:=di z b.fs,co:=l,dn:=j,un:=un}:=by
 have sub:(di z b.fs).Sublist b.fs:=NP;refine⟨a.gd,a.nm,a.m,Yy sub.length_le a.fl,λp d=>a.fg p (sub.subset d),a.zs.sublist (sub.map _),λp d=>Y6 (a.lt p (sub.subset d)) i,a.ky.sublist (sub.map _),?_,?_,k,e⟩
 ·show((cD b.ps (di z b.fs)).map (·.1)).Nodup;refine a.pr.sublist ?_;unfold cD
  grind
 ·refine bh a.lv λf h g=>?_;exact⟨f,h,λc m=>g c ((sub.map _).subset m)⟩
end
noncomputable def BS.Lw(b:BS)(n s:af):BS:={b with ps:=b.ps++[(n,s)],co:=b.co,dn:=b.dn++[⟨1,[.inr n,.inr s],b.co,b.co⟩],un:=[]}
def BS.zx(b:BS)(c:Fc):BS:={b with fs:=b.fs++[(b.co,c)],co:=b.co+1,dn:=b.dn++[⟨1,e_ b.ps b.co c,b.co,b.co+1⟩],un:=[]}
def BS.without(b:BS)(z:Nat)(c:Fc):BS:={b with fs:=di z b.fs,co:=b.co,dn:=b.dn++[⟨-1,e_ b.ps z c,b.co,b.co⟩],un:=[]}
def K2(s:af):cF:=eW (.str s) [.str "man",.str "woman"]
structure L4(b:BS)(n s:af):Prop where
 Zk6:uq n=ar
 side:K2 s=ar
 new:n∉b.ps.map (·.1)
 lim:b.ps.length<64
 nl:n.length<=1000
structure C7(xs ys:Z Int)(b:BS)(c:Fc):Prop where
 fg:fY xs ys b.ps.length c
 nk:gn b.ps c∉b.keys
 np:cT c.k=ar->[.inr c.k,.inr (aw b.ps c.one)]∉(cD b.ps b.fs).map (·.1)
 lv:∃f,pR xs.length b.ps.length f/\∀c'∈b.F++[c],gS f c'
 lim:b.fs.length<63
inductive Ry(C CL CJ:U)(e:Z V)(H:Hp)(Q:VK)(E:XK):Prop
 |mk (l:BL) (b:BS) (d c:Z Int) (n s:af) (i:e=[.ref l.h,.str n,.str s]) (h:bA H C CL CJ l d c b) (g:L4 b n s) (q:∀a,ah H a->Q .aA a)
inductive Rz(C CL CJ:U)(g:Z V)(H:Hp)(Q:VK)(E:XK):Prop
 |mk (l:BL) (b:BS) (c a:Z Int) (n s:af) (j:g=[.ref l.h,.str n,.str s]) (i:bA H C CL CJ l c a b) (ok:cL c a b) (h:L4 b n s) (dl:b.dn.length<200) (q:∀(e:BL) (d:Hp),cC H d l e->bA d C CL CJ e c a (b.Lw n s)->Q .aA d)
inductive K3(C CL CJ:U)(i:Z V)(H:Hp)(Q:VK)(E:XK):Prop
 |mk (l:BL) (b:BS) (d a:Z Int) (h:U) (c:Fc) (n:i=[.ref l.h,.ref h]) (m:bA H C CL CJ l d a b) (ok:cL d a b) (k:dG H b.ps h (b.co,c)) (j:C7 d a b c) (dl:b.dn.length<200) (q:∀(g:BL) (e:Hp),cC H e l g->bA e C CL CJ g d a (b.zx c)->Q (.int (b.co:Int)) e)
inductive Uv(C CL CJ:U)(h:Z V)(H:Hp)(Q:VK)(E:XK):Prop
 |mk (l:BL) (b:BS) (d a:Z Int) (z:Nat) (c:Fc) (j:h=[.ref l.h,.int (z:Int)]) (i:bA H C CL CJ l d a b) (ok:cL d a b) (m:(z,c)∈b.fs) (dl:b.dn.length<200) (q:∀(g:BL) (e:Hp),cC H e l g->bA e C CL CJ g d a (b.without z c)->Q .aA e)
inductive SQ(C CL CJ:U)(e:Z V)(H:Hp)(Q:VK)(E:XK):Prop
 |mk (x g L:U) (d c:Z Int) (j:e=[.ref x,.ref L]) (i:H x=O (.ins C g [])) (h:jk H CL L d c) (q:∀(l:BL) (b:Hp),l.h=x->(∀a∈l.fp,a≠x->H a=aG)->aB x H b->bA b C CL CJ l d c ⟨[],[],0,[],[]⟩->Q .aA b)
def jk.free(g:jk H CL L xs ys)(A:∀a∈fp,H a=aG\/∃C b,H a=O (.ins C b []))(o:Out fp H c):jk c CL L xs ys:=by
 obtain⟨b,d,m,f,w,j,h,i,st,y,x,v,t,s,r,q,p,l⟩:=g;have k:∀{a:U} {u:HO},H a=O u->(∀C b,u≠.ins C b [])->c a=O u:=λ{a u} e n=>o _ _ e λz=>by
  grind
 exact⟨b,d,m,f,w,j,h,i,st,k y (λ_ _ z=>by cases z),k x (λ_ _ z=>by cases z),k v (λ_ _ z=>by cases z),k t (λ_ _ z=>by cases z),k s (λ_ _ z=>by cases z),k r (λ_ _ z=>by cases z),k q (λ_ _ z=>by cases z),k p (λ_ _ z=>by cases z),k l (λ_ _ z=>by cases z)⟩
noncomputable abbrev C8:Z af:=["hearth","name","side"]
def ZaG:aQ C8 C8 (aI FA):=.a9
def ZaH(F:aP K "check_person" "check_person" FA f fd)(N:HasFn P w K B I 1 "is_name" ["text"] Rx)(m:B "MAN"=O (.str "man" t1))(o:B "WOMAN"=O (.str "woman" T))(R:cJ P w K B I 1 "people" C jV (Rr C CL CJ)):aE P w K B I aO 2 f fd C8 (Ry C CL CJ):=by
 refine F.o ZaG λs H e h=>?_;obtain⟨l,b,k,j,n,s,rfl,L,a,q⟩:=h;refine⟨_,(aq (aU (PW.pt (pw_or (jO (fh (aY N e (aa (pv 1) ae)))) (pw_or1 (fV (KJ (K:=K) Y) (pv 2) (dq (aa (c9 (v:=.str "man") Y m ⟨_,Y⟩) (aa (c9 (v:=.str "woman") Y o ⟨_,Y⟩) ae))) QU)))) gw bb) (av (aU (fV (kH Y) (pv 1) (ze R e (by decide) (pv 0)) QU) gw bb))),?_⟩;refine ie ?_;intros;have sz:(10000:Nat)<=sizeLine:=by rw[du];decide
 refine⟨_,Y,n,Y,a.nl,λX D=>⟨_,Y,?_⟩⟩;rw[a.Zk6];refine bV ?_;refine⟨_,Y,by show 2<=sizeLine;decide,λp W Av A c=>⟨p,_,Y,.inr (aC.of c),Y,Y,_,Y,?_⟩⟩;have r:eW (.str s) [.str "man",.str "woman"]=ar:=a.side;dsimp only;rw[bR Y,r];refine bV (aX ?_);have g:=D.trans A;have d:=L.same g;obtain⟨J,x⟩:=d.obj;refine⟨_,Y,_,Y,l.h,J,_,Y,x,Y,l,b,k,j,Y,d,λt Q u y G=>?_⟩;have E:(b.ps.map λp=>V.str p.1).all jP=ar:=by
  rw[M5,Wm];intro p _;rfl
 refine⟨t,_,Y,.inl (aj.of G),Y,E,_,Y,?_⟩;try dsimp only
 have no:eW (.str n) (b.ps.map λp=>V.str p.1)=a_:=by
  unfold eW;rw[List.any_map,Xq];intro p c z;have i:(p.1==n)=ar:=z;exact a.new (by rw[←eq_of_beq i];exact Yk.mpr ⟨p,c,Y⟩)
 rw[bt Yn,no];exact bV (aX (q Q (g.trans y)))
noncomputable abbrev C9:Z af:=["self","name","side"]
def Zaw:aQ C9 C9 (aI Fn):=.a9
def Zex(F:aP K "person" "Hearth.person" Fn f fd)(i:fX K C)(x:B "PUT_IN"=O (.int 1 t1))(E:HasFn P w K B I 2 "check_person" C8 (Ry C CL CJ))(y:cJ P w K B I 10 "do_deed" C pB (BI C CL CJ)):aE P w K B I aO 11 f fd C9 (Rz C CL CJ):=by
 refine F.o Zaw λs H g h=>?_;obtain⟨l,b,e,d,n,s,rfl,t,ok,a,dl,q⟩:=h;refine⟨_,(aq (bY (aY E g (aa (pv 0) (aa (pv 1) (aa (pv 2) ae))))) (av (bY (df y g (by decide) (pv 0) (aa (c9 (v:=.int (1)) Y x ⟨_,Y⟩) (aa (dq (aa (pv 1) (aa (pv 2) ae))) (aa (pF K 0) ae))))))),?_⟩;refine ie ?_;intros;refine⟨_,Y,_,Y,_,Y,l,b,e,d,n,s,Y,t,a,λL m=>?_⟩;have p:=t.same m;obtain⟨o,k⟩:=p.obj;refine⟨_,Y,l.h,o,_,Y,k,Y,_,Y,_,Y,by show 2<=sizeLine;decide,λr J G c j=>?_⟩;refine⟨_,Y,l.h,C,o,_,_,Y,c _ _ k,i.cls,i.rL,Y,l,b,_,e,d,r,1,b.co,[.inr n,.inr s],Y,p.same c,ok,dl,j,.pin n s j a.new a.lim,λA D u z=>?_⟩;exact q A D (cC.after (m.trans c) u) z
def yn:aQ WG uF (aI F6):=.a9
def Zho(F:aP K "keep" "Hearth.keep" F6 f fd)(j:fX K C)(Q:B "PUT_IN"=O (.int 1 t1))(G5:HasFn P w K B I 5 "fact_fits" uE (Ur CL CJ))(FR:cJ P w K B I 8 "joins" C jV (SO C CL CJ))(R:cJ P w K B I 10 "do_deed" C pB (BI C CL CJ)):aE P w K B I aO 11 f fd uF (K3 C CL CJ):=by
 refine F.o yn λs H u h=>?_;obtain⟨l,b,o,n,y,c,rfl,A,ok,x,d,dl,q⟩:=h;refine⟨_,(aq (mC (pv 1) (hZ (K:=K) Y Y (bq (a8 2 yn.nd) (bq (a8 3 yn.nd) (bq (a8 4 yn.nd) (bq (a8 5 yn.nd) hV)))))) (aq (aU (jO (fh (aY G5 u (aa (ze FR u (by decide) (pv 0)) (aa (pF K 0) (aa (pF K 0) (aa (pv 1) ae))))))) gw bb) (aq (bY (df R u (by decide) (pv 0) (aa (c9 (v:=.int (1)) Y Q ⟨_,Y⟩) (aa (pv 1) (aa (aZ fq (pv 2) aF) ae))))) (av (aK (pv 2)))))),?_⟩;refine nY ?_;intros;obtain⟨dx,h1⟩:=A.obj;refine⟨_,Y,y,_,Y,aC.of x,Y,_,_,Y,aS ⟨_,_,Y,aS ⟨_,_,Y,aS ⟨_,_,Y,aS ⟨Y,?_⟩⟩⟩⟩⟩;refine⟨_,Y,l.h,dx,_,Y,h1,Y,l,b,o,n,Y,A,ok,λa jl st H1 i m r1 r2 ja E len iy _=>?_⟩;obtain⟨g,e1⟩:=m.obj;have t:H1 l.h=O (.ins C g (HF a.L a.sd a.pl a.fc a.kn a.pr (b.co:Int) a.dn a.un a.rk)):=by rwa[←i.h]
 have L:=i.out _ _ x (A.tup x);have im:=ok.m;refine⟨_,Y,l.h,C,g,_,_,Y,t,j.cls,j.wA,Y,_,Y,l.h,C,g,_,_,Y,t,j.cls,j.oK,Y,_,Y,jl,st,a.L,a.pl,y,o,n,b.ps,b.F,b.co,c,Y,ja,E,m.landAt,ok.gd,m.places,ok.nm,len,(gm im (by decide)),L,d.fg,λ_ H2 k=>?_,λno=>?_⟩
 ·refine⟨_,Y,bV (aX ?_)⟩;have N:=m.same k;have J:=k _ _ L;have T:b.co∉b.fs.map (·.1):=λz=>by
   refine bh (Yk.mp z) λp hp e=>?_;have:=ok.lt p hp;omega
  refine⟨_,Y,l.h,g,_,Y,k _ _ t,Y,_,Y,_,Y,_,_,Y,Y,a,b,_,o,n,y,1,b.co+1,e_ b.ps b.co c,?_,N,ok,dl,J,.fin b.co c J d.fg T d.nk d.np d.lv d.lim,λl' H3 r W=>?_⟩;·rw[i.h];rfl
  ·exact⟨_,Y,q l' H3 ((i.same k).trans r) W⟩
 ·refine bh d.lv λG i0 D=>?_;exact absurd (D c (Yg _ Ym)) (no G ((E.iff G).mpr ⟨by rwa[len],λc' X=>D c' (Ys _ X)⟩))
def ZaZ:aQ zK zK (aI F7):=.a9
def Zhp(F:aP K "take" "Hearth.take" F7 f fd)(a:fX K C)(A:B "TAKEN_OUT"=O (.int (-1) t1))(t:cJ P w K B I 10 "do_deed" C pB (BI C CL CJ)):aE P w K B I aO 11 f fd zK (Uv C CL CJ):=by
 refine F.o ZaZ λs H i h=>?_;obtain⟨l,b,p,o,z,c,rfl,d,ok,m,dl,q⟩:=h;refine⟨_,(aq (aU (kq (nG (bw i) (pv 1) (pF K 0)) QU) gw bb) (av (bY (df t i (by decide) (pv 0) (aa (c9 (v:=.int (-1)) Y A ⟨_,Y⟩) (aa (dy (bw i) (pF K 0) (pv 1) (λ_ _=>Y)) (aa (pF K 0) ae))))))),?_⟩;refine ie ?_;intros;obtain⟨g,e⟩:=d.obj;refine bh (Kn d.fact ok.zs m) λj n k=>?_;refine⟨_,Y,_,Y,l.h,C,g,_,_,Y,e,a.cls,a.rT,Y,l.fc,O (.ref j),Y,qC d.facts n,_,Y,bV (aX ?_)⟩;refine⟨_,Y,l.h,g,_,Y,e,Y,_,Y,l.h,C,g,_,_,Y,e,a.cls,a.rT,Y,_,Y,l.fc,.ref j,Y,qC d.facts n,_,Y,l.h,C,g,_,_,Y,e,a.cls,a.rL,Y,l,b,_,p,o,j,-1,b.co,e_ b.ps z c,Y,d,ok,dl,k,.wX z c k m,λx y r u=>?_⟩;exact q x y r u
noncomputable abbrev C_:Z af:=["self","land"]
def Za0:aQ C_ C_ (aI F5):=.a9
theorem Zf1(F:aP K "__init__" "Hearth.__init__" F5 f fd)(b:fX K C):aE P w K B I aO 1 f fd C_ (SQ C CL CJ):=by
 refine F.o Za0 λs H hr h=>?_;obtain⟨x,g,L,xs,ys,rfl,hx,la,q⟩:=h;refine⟨_,(aq (iI (K:=K) Y (pv 0) (pv 1)) (aq (iI (K:=K) Y (pv 0) rG) (aq (iI (K:=K) Y (pv 0) rG) (aq (iI (K:=K) Y (pv 0) rG) (aq (iI (K:=K) Y (pv 0) Iz) (aq (iI (K:=K) Y (pv 0) Iz) (aq (iI (K:=K) Y (pv 0) aF) (aq (iI (K:=K) Y (pv 0) (cO ae)) (aq (iI (K:=K) Y (pv 0) (cO ae)) (av (iI (K:=K) Y (pv 0) nJ))))))))))),?_⟩;refine sm ?_;intros;refine⟨_,Y,_,Y,x,C,g,[],Y,hx,b.cls,b.wA,by show 0<1000;decide,λH1 b1 h1=>?_⟩;refine λsd Q n2 g2 G=>⟨_,Y,x,C,g,_,Y,g2 _ _ h1,b.cls,b.tY,by show 1<1000;decide,λH3 b3 h3=>?_⟩;refine λpl H4 n4 g4 W=>⟨_,Y,x,C,g,_,Y,g4 _ _ h3,b.cls,b.oK,by show 2<1000;decide,λH5 b5 h5=>?_⟩;refine λfc H6 n6 g6 e6=>⟨_,Y,x,C,g,_,Y,g6 _ _ h5,b.cls,b.rT,by show 3<1000;decide,λH7 b7 h7=>?_⟩;refine λkn H8 R T e8=>⟨_,Y,x,C,g,_,Y,T _ _ h7,b.cls,b.BY,by show 4<1000;decide,λH9 N h9=>?_⟩;refine λpr qY D A q_=>⟨_,Y,x,C,g,_,Y,A _ _ h9,b.cls,b.v9,by show 5<1000;decide,λz8 y h11=>?_⟩;refine⟨_,Y,x,C,g,_,Y,h11,b.cls,b.rL,by show 6<1000;decide,λxV v DP=>?_⟩;refine⟨by show 0<=sizeLine;exact Yw _,λdn DQ p r Zo=>⟨_,Y,x,C,g,_,Y,r _ _ DP,b.cls,b.Uq,by show 7<1000;decide,λsO m Zp=>?_⟩⟩;refine⟨by show 0<=sizeLine;exact Yw _,λun MU j Zq e15=>⟨_,Y,x,C,g,_,Y,Zq _ _ Zp,b.cls,b.Rp,by show 8<1000;decide,λXY b16 h16=>?_⟩⟩;refine⟨_,Y,x,C,g,_,Y,h16,b.cls,b.jh,by show 9<1000;decide,λrm b17 Zr=>?_⟩;rw[ZkW] at Zr;have Zs:aB x MU rm:=b16.trans b17;have Zt:aB x DQ rm:=m.trans ((aB.of Zq).trans Zs);have Zu:aB x qY rm:=y.trans (v.trans ((aB.of r).trans Zt));have j8:aB x H8 rm:=N.trans ((aB.of A).trans Zu);have j6:aB x H6 rm:=b7.trans ((aB.of T).trans j8);have j4:aB x H4 rm:=b5.trans ((aB.of g6).trans j6);have j2:aB x Q rm:=b3.trans ((aB.of g4).trans j4);have j0:aB x H rm:=b1.trans ((aB.of g2).trans j2);have i3:aB x H H3:=b1.trans ((aB.of g2).trans b3);have i5:aB x H H5:=i3.trans ((aB.of g4).trans b5);have i7:aB x H H7:=i5.trans ((aB.of g6).trans b7);have i9:aB x H H9:=i7.trans ((aB.of T).trans N);have i12:aB x H xV:=i9.trans ((aB.of A).trans (y.trans v));have i14:aB x H sO:=i12.trans ((aB.of r).trans m);have E:∀{a:U} {H':Hp},aB x H H'->a≠x->H' a=aG->H a=aG:=λ{a H'} k d n=>by
  cases e:H a with
  |none=>rfl
  |some o=>rw[k a o e d] at n;cases n
 have t:sd≠x:=λz=>by rw[z,h1] at n2;cases n2
 have J:pl≠x:=λz=>by rw[z,h3] at n4;cases n4
 have X:fc≠x:=λz=>by rw[z,h5] at n6;cases n6
 have d8:kn≠x:=λz=>by rw[z,h7] at R;cases R
 have En:pr≠x:=λz=>by rw[z,h9] at D;cases D
 have NQ:dn≠x:=λz=>by rw[z,DP] at p;cases p
 have Zv:un≠x:=λz=>by rw[z,Zp] at j;cases j
 have ne:∀{a c:U} {Ha Hc:Hp} {o:HO},Ha a=O o->aB x Ha Hc->a≠x->Hc c=aG->a≠c:=λ{a c Ha Hc o} e k d n z=>by rw[←z,k a o e d] at n;cases n
 have k24:aB x Q H3:=b3;have Zw:aB x Q H5:=b3.trans ((aB.of g4).trans b5);have Zx:aB x Q H7:=Zw.trans ((aB.of g6).trans b7);have WI:aB x Q H9:=Zx.trans ((aB.of T).trans N);have WJ:aB x Q xV:=WI.trans ((aB.of A).trans (y.trans v));have Zk7:aB x Q sO:=WJ.trans ((aB.of r).trans m);have Zy:aB x H4 H7:=b5.trans ((aB.of g6).trans b7);have WK:aB x H4 H9:=Zy.trans ((aB.of T).trans N);have WL:aB x H4 xV:=WK.trans ((aB.of A).trans (y.trans v));have Zk8:aB x H4 sO:=WL.trans ((aB.of r).trans m);have WM:aB x H6 H9:=b7.trans ((aB.of T).trans N);have WN:aB x H6 xV:=WM.trans ((aB.of A).trans (y.trans v));have Zk9:aB x H6 sO:=WN.trans ((aB.of r).trans m);have WO:aB x H8 xV:=N.trans ((aB.of A).trans (y.trans v));have Zk_:aB x H8 sO:=WO.trans ((aB.of r).trans m);have Vn:aB x qY xV:=y.trans v;have Zj4:aB x qY sO:=Vn.trans ((aB.of r).trans m);let l:BL:=⟨x,L,sd,pl,fc,kn,pr,dn,un,.aA,[],[],[],[]⟩;have Eo:∀a∈l.fp,a≠x->H a=aG:=λa ha i=>by
  have sV:a∈[x,sd,pl,fc,kn,pr,dn,un]:=by
   have:l.fp=[x,sd,pl,fc,kn,pr,dn,un]:=Y;rw[this] at ha;exact ha
  simp only[Yp,Y1,gV] at sV;rcases sV with rfl|rfl|rfl|rfl|rfl|rfl|rfl|rfl;·exact absurd Y i
  ·exact E b1 i n2
  ·exact E i3 i n4
  ·exact E i5 i n6
  ·exact E i7 i R
  ·exact E i9 i D
  ·exact E i12 i p
  ·exact E i14 i j
 refine q l rm Y Eo j0 ⟨⟨g,Zr⟩,λH' o=>?_,j2 _ _ G t,j4 _ _ W J,j6 _ _ e6 X,.nil,j8 _ _ e8 d8,Zu _ _ q_ En,Zt _ _ Zo NQ,.nil,Zs _ _ e15 Zv,.nil,.no Y Y,?_⟩
 ·refine la.free (fp:=l.fp) (λa ha=>?_) λa u e i=>o _ _ (j0 _ _ e λz=>i (by rw[z];exact Ym)) i;by_cases z:a=x;·rw[z];exact .inr ⟨C,g,hx⟩
  ·exact .inl (Eo a ha z)
 ·show[x,sd,pl,fc,kn,pr,dn,un].Nodup;simp only[Y3,Yp,Y1,gV,mh,Xg,W5,and_true];exact⟨⟨t.symm,J.symm,X.symm,d8.symm,En.symm,NQ.symm,Zv.symm⟩,⟨ne G k24 t n4,ne G Zw t n6,ne G Zx t R,ne G WI t D,ne G WJ t p,ne G Zk7 t j⟩,⟨ne W b5 J n6,ne W Zy J R,ne W WK J D,ne W WL J p,ne W Zk8 J j⟩,⟨ne e6 b7 X R,ne e6 WM X D,ne e6 WN X p,ne e6 Zk9 X j⟩,⟨ne e8 N d8 D,ne e8 WO d8 p,ne e8 Zk_ d8 j⟩,⟨ne q_ Vn En p,ne q_ Zj4 En j⟩,ne Zo m NQ j⟩
noncomputable def strOf:V->af
 |.str s=>s
 |_=>""
def ic(b:BS)(a:af):Z af:=(qD b a).map strOf
inductive gX(b:BS)(a:af):af->Prop
 |refl:gX b a a
 |step {x y:af}:gX b a x->y∈ic b x->gX b a y
theorem SR(i:cL xs u b)(h:aL (cD b.ps b.fs) [.inr k,.inr a]=O v):∃p∈b.fs,cT p.2.k=ar/\p.2.k=k/\aw b.ps p.2.one=a/\v=.str (aw b.ps p.2.aH.toNat)/\p.2.aH.toNat<b.ps.length:=by
 have m:([.inr k,.inr a],v)∈cD b.ps b.fs:=by
  unfold aL at h;cases x:(cD b.ps b.fs).find? λj=>decide (j.1=[.inr k,.inr a]) with
  |none=>grind
  |some q=>grind
 refine bh (Yk.mp m) λp l e=>?_;obtain⟨d,c⟩:=Y4.mp l;injection e with t s;injection t with r o;injection o with n _;have g:p.2.k≠bj:=λz=>by
  rw[z] at c;exact absurd c QK
 refine⟨p,d,c,We r,We n,?_,((i.fg p d).ok.iV g).1.2⟩;rw[←s,iH g];rfl
def Pp(d:cL xs i b)(a:af):qD b a=(ic b a).map V.str/\(∀s∈ic b a,s∈b.ps.map (·.1))/\(ic b a).length<=2:=by
 have all:∀v∈qD b a,∃s,v=.str s/\s∈b.ps.map (·.1):=λv c=>by
  obtain⟨k,_,e⟩:=Jv.mp c;obtain⟨p,_,_,_,_,h,l⟩:=SR d e;exact⟨_,h,wq l⟩
 refine⟨?_,λs g=>?_,?_⟩
 ·unfold ic;rw[Y9];refine(List.map_id _).symm.trans (Wq λv c=>?_);obtain⟨s,rfl,_⟩:=all v c;rfl
 ·obtain⟨v,c,rfl⟩:=Yk.mp g;obtain⟨s,rfl,m⟩:=all v c;exact m
 ·unfold ic qD
  grind
noncomputable def jg(a:Z af)(b:Z U):Z (Key×V):=(a.zip b).map λp=>(.inr p.1,.ref p.2)
theorem RA:∀{b:Z af} {as:Z U},b.length=as.length->(jg b as).map (·.1)=b.map Sum.inr
 |[],[],_=>rfl
 |k::b,a::as,h=>by
  have c:jg (k::b) (a::as)=(Sum.inr k,V.ref a)::jg b as:=Y;rw[c,Wv,RA (by simpa using h)];rfl
 |[],_::_,h=>rfl
 |_::_,[],h=>by simp at h
theorem RB:∀{b:Z af} {as:Z U} (k:af) (a:U),b.length=as.length->jg b as++[(.inr k,.ref a)]=jg (b++[k]) (as++[a])
 |[],[],_,_,_=>rfl
 |q::b,c::as,k,a,h=>by
  have d:jg (q::b) (c::as)=(Sum.inr q,V.ref c)::jg b as:=Y;rw[d,XU,RB k a (by simpa using h)];rfl
 |[],_::_,_,_,h=>by simp at h
 |_::_,[],_,_,h=>by simp at h
theorem Kp:∀{b:Z af} {as:Z U} {k:af},b.length=as.length->k∈b->∃a∈as,aL (jg b as) (.inr k)=O (.ref a)
 |[],_,_,_,h=>by cases h
 |q::b,c::as,k,d,h=>by
  have g:jg (q::b) (c::as)=(Sum.inr q,V.ref c)::jg b as:=Y;rw[g];by_cases e:q=k;·exact⟨c,Ym,fU (by rw[e])⟩
  ·rcases Yp.mp h with h|h;·grind
   ·obtain⟨a,m,v⟩:=Kp (by simpa using d) h;exact⟨a,Yx _ m,by rwa[fK (λz=>e (We z))]⟩
 |_::_,[],_,h,_=>by simp at h
def JP(b:a.length=as.length)(h:k∉a):aL (jg a as) (.inr k)=aG:=qg (by
 rw[RA b];intro z;obtain⟨q,c,e⟩:=Yk.mp z;exact h (by rwa[←We e]))
structure sC(H H6:Hp)(ln:U)(ks:Z af)(as:Z U):Prop where
 same:ah H H6
 at_:H6 ln=O (.dK (jg ks as))
 len:ks.length=as.length
 lst:∀a∈as,∃us:Z V,H6 a=O (.lst us)/\us.length<=ks.length/\a≠ln
 nd:ks.Nodup
def IM(g:cL xs e b){c:Z af}(d:c.Nodup)(a:∀k∈c,k∈b.ps.map (·.1)):c.length<=b.ps.length:=by
 have:=d.length_le_of_subset a
 grind
theorem BJ(c:cL xs e b)(d:a∈b.ps.map (·.1))(h:gX b a z):z∈b.ps.map (·.1):=by
 cases h with
 |refl=>exact d
 |step _ m=>exact(Pp c _).2.1 _ m
inductive SS(C CL CJ:U)(h:Z V)(H:Hp)(Q:VK)(E:XK):Prop
 |mk (l:BL) (b:BS) (d c:Z Int) (a:af) (m:h=[.ref l.h,.str a]) (k:bA H C CL CJ l d c b) (ok:cL d c b) (j:a∈b.ps.map (·.1)) (q:∀(p:U) (e:Z af) (i:Z U) (g:Hp),sC H g p e i->(∀z,z∈e↔gX b a z)->Q (.ref p) g)
def zN(b:U)(N:Nat):St->Hp->Nat:=λa H=>(match H b with|some (.dK kvs)=>2*(N-kvs.length)|_=>0)+(match List.getD (α:=bS V) a 3 aG with|some (V.ref nw)=>(match H nw with|some (.lst (_::_))=>1|_=>0)|_=>0)
inductive Zz(H:Hp)(b:BS)(a:af)(h g:U)(l:St)(j:Hp):Prop
 |mk (c d:Z af) (q:Z U) (i:U) (o n m:bS V) (v:sC H j g c q) (x:j i=O (.lst (d.map V.str))) (t:i≠g) (sub:∀k∈d,k∈c) (y:∀k∈c,k∉d->∀p∈ic b k,p∈c) (s:∀k∈c,gX b a k) (u:a∈c) (r:d.length<=64) (e:l=[O (.ref h),O (.str a),O (.ref g),O (.ref i),o,n,m]):Zz H b a h g l j
inductive NR(H:Hp)(b:BS)(a:af)(h g d c:U)(o m:Z af)(j:Nat)(n:St)(l:Hp):Prop
 |mk (i fs:Z af) (q:Z U) (s r:bS V) (v:sC H l g i q) (x:l d=O (.lst (m.map V.str))) (y:l c=O (.lst (fs.map V.str))) (u:d≠g/\c≠g/\c≠d) (D:c∉q) (z:i=o++fs) (A:∀k∈m.take j,∀p∈ic b k,p∈i) (t:∀k∈i,gX b a k) (e:n=[O (.ref h),O (.str a),O (.ref g),O (.ref d),O (.ref c),s,r]):NR H b a h g d c o m j n l
inductive ZA(H:Hp)(b:BS)(a:af)(h g l d:U)(s q:Z af)(j:Nat)(c:af)(o:U)(i:Nat)(r:St)(n:Hp):Prop
 |mk (m fs:Z af) (t:Z U) (u:bS V) (y:sC H n g m t) (A:n l=O (.lst (q.map V.str))) (D:n d=O (.lst (fs.map V.str))) (z:n o=O (.lst ((ic b c).map V.str))) (x:l≠g/\d≠g/\d≠l/\o≠g/\o≠d) (J:d∉t) (E:m=s++fs) (G:∀k∈q.take j,∀p∈ic b k,p∈m) (F:∀p∈(ic b c).take i,p∈m) (v:∀k∈m,gX b a k) (e:r=[O (.ref h),O (.str a),O (.ref g),O (.ref l),O (.ref d),O (.str c),u]):ZA H b a h g l d s q j c o i r n
noncomputable abbrev L5:Z af:=["hearth","name"]
def tR:aQ ["hearth","name","lines","newest","further","one","parent"] L5 (aI Hm):=.a9
theorem Zct(F:aP K "lines_up" "lines_up" Hm f fd)(EX:cJ P w K B I 1 "parents_of" C jX (OR C CL CJ)):aE P w K B I aO 2 f fd L5 (SS C CL CJ):=by
 refine F.o tR λs H hr h=>?_;obtain⟨l,b,xs,ys,a,rfl,ba,ok,ma,q⟩:=h;refine⟨_,(aq (bM 2 tR.nd (BU (kR (pv 1) (cO (aa (pv 1) ae)) BR) Y Y (λz=>nomatch z) (Jy Y))) (aq (bM 3 tR.nd (cO (aa (pv 1) ae))) (aq (IV hY (IB (K:=K) Y (IX (pv 3) (λ_=>Y))) (aq (bM 4 tR.nd (cO ae)) (aq (dI hY Y (dY (K:=K) Y (pv 3)) (a8 5 tR.nd) (av (dI hY Y (dY (K:=K) Y (df EX hr (by decide) (pv 0) (aa (pv 5) ae))) (a8 6 tR.nd) (av (aU (kq (nG (bw hr) (pv 6) (pv 2)) QU) (aq (oI (bw hr) (pv 2) (pv 6) (aZ yT (dy (bw hr) (pv 2) (pv 5) (λ_ _=>Y)) (cO (aa (pv 6) ae)))) (av (bY (kW (K:=K) Y (iK l3 my mr l_ (pv 4) (aa (pv 6) ae)))))) bb))))) (av (bM 3 tR.nd (pv 4)))))) (av (aK (pv 2)))))),?_⟩;refine nY ?_;intros;have sz:(10000:Nat)<=sizeLine:=by rw[du];decide
 have im:=ok.m;refine bT ?_;refine λln ZC=>⟨_,Y,_,Y,by show 1<=sizeLine;decide,λll H0 ZD g0 hll=>?_⟩;refine⟨g0 _ _ aW,[(.inr a,.ref ll)],Y,(by show 1<=15;decide),?_⟩;obtain⟨H1,tD⟩:∃H1,H1=upd H0 ln (.dK (qB [] [(.inr a,.ref ll)])):=⟨_,Y⟩;rw[←tD];have ZE:ll≠ln:=λz=>by rw[z,aW] at ZD;cases ZD
 have g1:ah H H1:=λc o e=>by
  have nc:=bU e ZC;rw[tD,aJ nc];exact g0 _ _ (by rw[aJ nc];exact e)
 have ZF:sC H H1 ln [a] [ll]:=⟨g1,by rw[tD,aW];rfl,Y,λc L=>by
  rw[Yi.mp L];exact⟨[.str a],by rw[tD,aJ ZE];exact hll,Ye _,ZE⟩,QS⟩
 refine bT ?_;refine⟨_,Y,by show 1<=sizeLine;decide,λnw H2 ZG g2 hnw=>?_⟩;have ZH:nw≠ln:=λz=>by rw[z,ZF.at_] at ZG;cases ZG
 have Lx:∀{Ha Hb:Hp} {y:Z af} {as:Z U},sC H Ha ln y as->ah Ha Hb->sC H Hb ln y as:=λD g=>⟨D.same.trans g,g _ _ D.at_,D.len,λc L=>by obtain⟨R,e,z,n⟩:=D.lst c L;exact⟨R,g _ _ e,z,n⟩,D.nd⟩;refine fW (λJ H6=>∃y as,sC H H6 ln y as/\(∀z,z∈y↔gX b a z)/\∃o3 o4 o5 o6:bS V,J=[O (.ref l.h),O (.str a),O (.ref ln),o3,o4,o5,o6]) (λkM dP=>?_) ?_
 ·refine IW (Zz H b a l.h ln) (zN ln 100) ⟨[a],[a],[ll],nw,aG,aG,aG,Lx ZF g2,hnw,ZH,λ_ h=>h,λk d no=>absurd d no,λk d=>by rw[Yi.mp d];exact .refl,Ym,by show 1<=64;decide,Y⟩ ?_ ?_
  ·rintro J H6 ⟨y,E,as,nw,o4,o5,o6,D,hn,nn,sub,cl,sd,ZI,uZ,rfl⟩;have kf:y.length<=64:=Yy (IM ok D.nd λk d=>BJ ok ma (sd k d)) im;refine⟨_,Y,_,.inl ⟨_,aj.of hn,Y⟩,?_⟩;refine bC (λc=>?_) (λc=>?_)
   ·have Zla:E≠[]:=λz=>by rw[z] at c;cases c
    have mu0:zN ln 100 [O (.ref l.h),O (.str a),O (.ref ln),O (.ref nw),o4,o5,o6] H6=2*(100-y.length)+1:=by
     unfold zN;have kl:(jg y as).length=y.length:=by unfold jg;rw[Ya,Jp];have:=D.len;omega
     have g3:List.getD (α:=bS V) [O (.ref l.h),O (.str a),O (.ref ln),O (.ref nw),o4,o5,o6] 3 aG=O (.ref nw):=Y;rw[D.at_,g3];dsimp only;rw[hn,kl];cases E with
     |nil=>exact absurd Y Zla
     |cons x r=>rfl
    refine bT ?_;refine⟨by show 0<=sizeLine;exact Yw _,λfu H7 X g7 hfu=>?_⟩;have As:=Lx D g7;have fln:fu≠ln:=λz=>by rw[z,D.at_] at X;cases X
    have fnw:fu≠nw:=λz=>by rw[z,hn] at X;cases X
    refine fW (NR H b a l.h ln nw fu y E E.length) (λxU kO=>?_) ?_
    ·refine⟨_,Y,nw,Y,⟨_,aj.of (g7 _ _ hn)⟩,g_ (K:=K) (a:=nw) (xs:=E.map V.str) (NR H b a l.h ln nw fu y E) ⟨y,[],as,o5,o6,As,g7 _ _ hn,hfu,⟨nn,fln,fnw⟩,(λz=>by obtain⟨R,e,_⟩:=D.lst _ z;rw[X] at e;cases e),by rw[Y8],λk d=>(by rw[M_] at d;cases d),sd,Y⟩ (λj J H8 _ ⟨_,_,_,_,_,_,h,_,_,_,_,_,_,_⟩=>aj.of h) ?_ ?_⟩
     ·rintro j v J H8 hj ⟨fQ,fs,Ep,p5,p6,N,ZJ,kP,AJ,ZK,Q,jF,Es,rfl⟩;rw[Yf] at hj;obtain⟨one,e1,rfl⟩:∃one,E[j]?=O one/\V.str one=v:=by
       cases z:E[j]? with
       |none=>rw[z] at hj;cases hj
       |some o=>rw[z] at hj;exact⟨o,Y,Yo hj⟩
      have NT:E.take (j+1)=E.take j++[one]:=by rw[Yz,e1];rfl
      have Zmr:one∈fQ:=by rw[Q];exact Ys _ (sub _ (Yj e1))
      have ZL:=ba.same N.same;obtain⟨dx8,h8⟩:=ZL.obj;refine c7 (Pp ok one) λpe pin Nq=>?_;refine aS ?_;refine⟨_,Y,l.h,dx8,_,Y,h8,Y,_,Y,l,b,xs,ys,one,Y,ZL,λpl H9 Et g9 cz=>?_⟩;rw[pe] at cz;have pln:pl≠ln:=λz=>by rw[z,N.at_] at Et;cases Et
      have plf:pl≠fu:=λz=>by rw[z,kP] at Et;cases Et
      refine⟨pl,Y,⟨_,aj.of cz⟩,g_ (K:=K) (a:=pl) (xs:=(ic b one).map V.str) (ZA H b a l.h ln nw fu y E j one pl) ⟨fQ,fs,Ep,p6,Lx N g9,g9 _ _ ZJ,g9 _ _ kP,cz,⟨AJ.1,AJ.2.1,AJ.2.2,pln,plf⟩,ZK,Q,jF,λp t=>(by rw[M_] at t;cases t),Es,Y⟩ (λi J HA _ ⟨_,_,_,_,_,_,_,h,_,_,_,_,_,_,_⟩=>aj.of h) ?_ ?_⟩
      ·rintro i v J HA hi ⟨iz,AK,Eu,q6,A,Ew,pU,NU,G,AL,W,Ex,AM,T,rfl⟩;rw[Yf] at hi;obtain⟨par,e2,rfl⟩:∃par,(ic b one)[i]?=O par/\V.str par=v:=by
        cases z:(ic b one)[i]? with
        |none=>rw[z] at hi;cases hi
        |some o=>rw[z] at hi;exact⟨o,Y,Yo hi⟩
       have mp:=Yj e2;have ZM:(ic b one).take (i+1)=(ic b one).take i++[par]:=by rw[Yz,e2];rfl
       have WQ:one∈iz:=by rw[W];exact Ys _ (sub _ (Yj e1))
       have kf9:iz.length<=64:=Yy (IM ok A.nd λk d=>BJ ok ma (T k d)) im;refine aS ?_;by_cases uM:par∈iz
       ·obtain⟨ap,_,vp⟩:=Kp A.len uM;refine⟨_,Y,_,Y,ln,O (.ref ap),Y,c_ A.at_ vp,_,Y,bV (aX ?_)⟩;refine⟨iz,AK,Eu,_,A,Ew,pU,NU,G,AL,W,Ex,λp t=>?_,T,Y⟩;rw[ZM] at t;rcases Yq.mp t with t|t;·exact AM p t
        ·rw[Yi.mp t];exact uM
       ·obtain⟨ao,mao,vo⟩:=Kp A.len WQ;obtain⟨R,NV,ul,aon⟩:=A.lst ao mao;refine⟨_,Y,_,Y,ln,aG,Y,c_ A.at_ (JP A.len uM),_,Y,dh ?_⟩;refine⟨_,Y,_,Y,ln,.ref ao,Y,c_ A.at_ vo,_,Y,by show 1<=sizeLine;decide,λe1l HB neb gB heB=>?_⟩;refine⟨ao,e1l,R,_,Y,Y,gB _ _ NV,heB,by show R.length+1<=sizeLine;omega,λnl HC NW gC hnl=>?_⟩;have ZN:=gB.trans gC;refine⟨_,Y,_,Y,ln,_,.inr par,Y,ZN _ _ A.at_,Y,?_,λHD bD eD=>?_⟩;·unfold jg;rw[Ya,Jp];omega
        rw[ko _ (JP A.len uM),RB par nl A.len] at eD;have WR:nl≠ln:=λz=>by rw[z,gB _ _ A.at_] at NW;cases NW
        have kD:∀{c:U} {o:HO},HA c=O o->c≠ln->HD c=O o:=λ{c o} e n=>bD _ _ (ZN _ _ e) n;have ZO:HA nl=aG:=gB.free NW;refine⟨_,Y,.inl ⟨Y,_,aj.of (kD pU G.2.1)⟩,_,Y,fu,_,_,Y,Y,kD pU G.2.1,?_,λHE bE eE=>?_⟩
        ·rw[Ya];have:AK.length<=iz.length:=by rw[W,Yl];exact Qdi _ _
         omega
        have kE:∀{c:U} {o:HO},HA c=O o->c≠ln->c≠fu->HE c=O o:=λ{c o} e n1 n2=>bE _ _ (kD e n1) n2;have WS:nl≠fu:=λz=>by rw[z,pU] at ZO;cases ZO
        refine⟨iz++[par],AK++[par],Eu++[nl],_,⟨λc o e=>?_,bE _ _ eD (λz=>G.2.1 z.symm),by rw[Yl,Yl,A.len];rfl,λc L=>?_,?_⟩,kE Ew G.1 (λz=>G.2.2.1 z.symm),?_,kE NU G.2.2.2.1 G.2.2.2.2,G,(λz=>by rcases Yq.mp z with z|z;exact AL z;exact WS (Yi.mp z).symm),by rw[W,Jo],λk d p t=>Ys _ (Ex k d p t),λp t=>?_,λk d=>?_,Y⟩
        ·have nc:=bU e ZC;have ncf:c≠fu:=bU e ((D.same.free X));exact kE (A.same _ _ e) nc ncf
        ·rcases Yq.mp L with L|L
         ·obtain⟨us',e',z',n'⟩:=A.lst c L;have cf:c≠fu:=λz=>AL (by rw[←z];exact L);exact⟨us',kE e' n' cf,by rw[Yl];exact lK z',n'⟩
         ·rw[Yi.mp L];exact⟨R++[.str par],bE _ _ (bD _ _ hnl WR) WS,by rw[Yl,Yl];show R.length+1<=iz.length+1;omega,WR⟩
        ·refine Wz.mpr ⟨A.nd,QS,λu hu v hv z=>?_⟩;have:v=par:=by simpa using hv
         exact uM (by rw[←this,←z];exact hu)
        ·rw[eE,Yr];rfl
        ·rw[ZM] at t;rcases Yq.mp t with t|t;·exact Ys _ (AM p t)
         ·rw[Yi.mp t];exact Yg _ Ym
        ·rcases Yq.mp d with d|d;·exact T k d
         ·rw[Yi.mp d];exact .step (T one WQ) mp
      ·rintro J HA ⟨iz,AK,Eu,q6,A,Ew,pU,NU,G,AL,W,Ex,AM,T,rfl⟩;rw[Ya,Wc] at AM;refine⟨iz,AK,Eu,_,_,A,Ew,pU,⟨G.1,G.2.1,G.2.2.1⟩,AL,W,λk d=>?_,T,Y⟩;rw[NT] at d;rcases Yq.mp d with d|d;·exact Ex k d
       ·rw[Yi.mp d];exact AM
     ·rintro J H8 h8;rw[Ya] at h8;exact kO _ _ h8
    ·rintro J H8 ⟨fQ,fs,Ep,p5,p6,N,ZJ,kP,AJ,ZK,Q,jF,Es,rfl⟩;rw[Wc] at jF;refine⟨_,Y,?_⟩;have kf8:fQ.length<=64:=Yy (IM ok N.nd λk d=>BJ ok ma (Es k d)) im;have ZP:fQ.length=y.length+fs.length:=by rw[Q,Yl]
     refine⟨⟨fQ,fs,Ep,fu,_,_,_,N,kP,AJ.2.1,λk d=>by rw[Q];exact Yg _ d,λk d no p t=>?_,Es,by rw[Q];exact Ys _ ZI,QO,Y⟩,?_⟩
     ·rw[Q] at d;rcases Yq.mp d with d|d
      ·by_cases z:k∈E;·exact jF k z p t
       ·rw[Q];exact Ys _ (cl k d z p t)
      ·exact absurd d no
     ·rw[mu0];show zN ln 100 [O (.ref l.h),O (.str a),O (.ref ln),O (.ref fu),O (.ref fu),p5,p6] H8<_;unfold zN;have kl:(jg fQ Ep).length=fQ.length:=by unfold jg;rw[Ya,Jp];have:=N.len;omega
      have g3:List.getD (α:=bS V) [O (.ref l.h),O (.str a),O (.ref ln),O (.ref fu),O (.ref fu),p5,p6] 3 aG=O (.ref fu):=Y;rw[N.at_,g3];dsimp only;rw[kP,kl];cases fs with
      |nil=>
       show 2*(100-fQ.length)+0<_;have:fQ.length=y.length+0:=ZP;omega
      |cons x r=>
       show 2*(100-fQ.length)+1<_;have:fQ.length=y.length+(r.length+1):=ZP;omega
   ·have nse:E=[]:=by
     cases E with
     |nil=>rfl
     |cons x r=>exact absurd Y c
    subst nse;refine dP _ _ ⟨y,as,D,λz=>⟨λh=>sd z h,λh=>?_⟩,_,_,_,_,Y⟩;induction h with
    |refl=>exact ZI
    |step _ m ih=>exact cl _ ih (λz=>nomatch z) _ m
  ·rintro J H6 Q1 Q2 mo ⟨v1,w1,v2,w2,h⟩;exact⟨v1,w1,v2,w2,mo _ _ h⟩
 ·rintro J H6 ⟨y,as,D,iff,o3,o4,o5,o6,rfl⟩;exact⟨_,Y,q ln y as H6 D iff⟩
noncomputable def gu(a:bI)(i:Nat):af:=(a.getD i ("","")).2
def qw(d:(a.map (·.1)).Nodup)(c:i<a.length):aL (iu a) (.inr (aw a i))=O (.str (gu a i)):=by
 have b:((iu a).map (·.1)).Nodup:=by
  grind
 refine SG b (Yk.mpr ⟨a[i],Wo c,?_⟩);unfold aw gu
 grind
noncomputable def mF(k h t:af):cF:=if k="mother" then decide (t="woman") else if k="father" then decide (t="man") else decide (k="sibling")||(decide (h="man")&&decide (t="woman"))
inductive SU(a:Z V)(H:Hp)(Q:VK)(E:XK):Prop
 |mk (k h t:af) (b:a=[.str k,.str h,.str t]) (q:Q (.bl (mF k h t)) H)
structure Uw(b:BS)(k a:af)(o:af):Prop where
 par:cT k=ar->[.inr k,.inr a]∉(cD b.ps b.fs).map (·.1)
 aH:cT k=a_->keyOf k a (.inr o)∉b.keys/\¬(k="sibling"/\a=o)
inductive Ux(C CL CJ:U)(g:Z V)(H:Hp)(Q:VK)(E:XK):Prop
 |mk (l:BL) (b:BS) (e d:Z Int) (k a o:af) (i:g=[.ref l.h,.str k,.str a,.str o]) (h:bA H C CL CJ l e d b) (un:Uw b k a o) (q:∀c,ah H c->Q (.bl a_) c)
inductive RC(C CL CJ:U)(h:Z V)(H:Hp)(Q:VK)(E:XK):Prop
 |mk (l:BL) (b:BS) (d c:Z Int) (e a:af) (k:h=[.ref l.h,.str e,.str a]) (j:bA H C CL CJ l d c b) (ok:cL d c b) (i:a∈b.ps.map (·.1)) (no:¬gX b a e) (q:∀g,ah H g->Q .aA g)
structure Ly(xs ys:Z Int)(b:BS)(c:Fc):Prop where
 nf:C7 xs ys b c
 ns:c.k≠bj
 dz:mF c.k (gu b.ps c.one) (gu b.ps c.aH.toNat)=ar
 un:Uw b c.k (aw b.ps c.one) (aw b.ps c.aH.toNat)
 el:cT c.k=ar->¬gX b (aw b.ps c.aH.toNat) (aw b.ps c.one)
inductive RD(C CL CJ:U)(g:Z V)(H:Hp)(Q:VK)(E:XK):Prop
 |mk (l:BL) (b:BS) (d a:Z Int) (c:Fc) (i:g=[.ref l.h,.str c.k,.str (aw b.ps c.one),.str (aw b.ps c.aH.toNat)]) (h:bA H C CL CJ l d a b) (ok:cL d a b) (to:Ly d a b c) (q:∀e,ah H e->Q .aA e)
inductive Uy(C CL CJ:U)(h:Z V)(H:Hp)(Q:VK)(E:XK):Prop
 |mk (l:BL) (b:BS) (d a:Z Int) (c:Fc) (j:h=[.ref l.h,.str c.k,.str (aw b.ps c.one),.str (aw b.ps c.aH.toNat)]) (i:bA H C CL CJ l d a b) (ok:cL d a b) (to:Ly d a b c) (dl:b.dn.length<200) (q:∀(g:BL) (e:Hp),cC H e l g->bA e C CL CJ g d a (b.zx c)->Q (.int (b.co:Int)) e)
structure Vo(xs ys:Z Int)(b:BS)(c:Fc):Prop where
 nf:C7 xs ys b c
 sk:c.k=bj
inductive RE(C CL CJ:U)(g:Z V)(H:Hp)(Q:VK)(E:XK):Prop
 |mk (l:BL) (b:BS) (d a:Z Int) (c:Fc) (j:g=[.ref l.h,.str (aw b.ps c.one),.int c.aH]) (i:bA H C CL CJ l d a b) (ok:cL d a b) (h:Vo d a b c) (q:∀e,ah H e->Q .aA e)
inductive Qp(C CL CJ:U)(e:Z V)(H:Hp)(Q:VK)(E:XK):Prop
 |mk (l:BL) (b:BS) (a d:Z Int) (i:Int) (j:e=[.ref l.h,.int i]) (h:bA H C CL CJ l a d b) (g:0<=i/\i<(a.length:Int)) (q:∀c,ah H c->Q .aA c)
inductive Uz(C CL CJ:U)(h:Z V)(H:Hp)(Q:VK)(E:XK):Prop
 |mk (l:BL) (b:BS) (d a:Z Int) (c:Fc) (k:h=[.ref l.h,.str (aw b.ps c.one),.int c.aH]) (j:bA H C CL CJ l d a b) (ok:cL d a b) (i:Vo d a b c) (dl:b.dn.length<200) (q:∀(g:BL) (e:Hp),cC H e l g->bA e C CL CJ g d a (b.zx c)->Q (.int (b.co:Int)) e)
def d9(x y:af):decide (V.str x=V.str y)=decide (x=y):=by
 grind
noncomputable abbrev Dc:Z af:=["kind","here","there"]
def ZbJ:aQ Dc Dc (aI GL):=.a9
theorem ZbK(F:aP K "sides_fit" "sides_fit" GL f fd)(c:B "MAN"=O (.str "man" t1))(d:B "WOMAN"=O (.str "woman" m))(i:B "SIBLING"=O (.str "sibling" t3)):aE P w K B I aO 1 f fd Dc SU:=by
 refine F.o ZbJ λs H n h=>?_;obtain⟨k,h,t,rfl,q⟩:=h;refine⟨_,(aq (aU (bG b_ (pv 0) aT) (av (aK (fO b_ (pv 2) (c9 (v:=.str "woman") Y d ⟨_,Y⟩)))) bb) (aq (aU (bG b_ (pv 0) aT) (av (aK (fO b_ (pv 2) (c9 (v:=.str "man") Y c ⟨_,Y⟩)))) bb) (av (aK (La (fO b_ (pv 0) (c9 (v:=.str "sibling") Y i ⟨_,Y⟩)) (oQ (rV (fO b_ (pv 1) (c9 (v:=.str "man") Y c ⟨_,Y⟩)) (oQ (fO b_ (pv 2) (c9 (v:=.str "woman") Y d ⟨_,Y⟩)))))))))),?_⟩;unfold mF at q;refine⟨_,Y,Y,_,Y,?_⟩;rw[d9];refine bC (λa=>?_) (λa=>aX ?_)
 ·rw[bR (eL a)] at q;refine⟨_,Y,Y,?_⟩;rwa[d9]
 ·rw[bt (λz=>a (d6 z))] at q;refine⟨_,Y,Y,_,Y,?_⟩;rw[d9];refine bC (λb=>?_) (λb=>aX ?_)
  ·rw[bR (eL b)] at q;refine⟨_,Y,Y,?_⟩;rwa[d9]
  ·rw[bt (λz=>b (d6 z))] at q;refine⟨_,Y,Y,_,Y,?_⟩;rw[d9];refine bC (λl=>?_) (λl=>?_);·grind
   ·have j:decide (k="sibling")=a_:=by
     cases e:decide (k="sibling") with
     |true=>grind
     |false=>rfl
    rw[j,DM] at q;refine⟨_,Y,Y,_,Y,?_⟩;rw[d9];refine bC (λg=>?_) (λg=>?_)
    ·rw[g,Jc] at q;refine⟨_,Y,Y,?_⟩;rwa[d9]
    ·grind
noncomputable abbrev sD:Z af:=["hearth","kind","one","other"]
def ZaI:aQ sD sD (aI FC):=.a9
theorem Zhq(F:aP K "told_already" "told_already" FC f fd)(D:B "SIBLING"=O (.str "sibling" t1))(J:B "PARENTS"=O (.ref g))(E:∀H,aC K H g (jv.map V.str))(L:cJ P w K B I 1 "parent_of" C C6 (Pn C CL CJ))(x:cJ P w K B I 2 "has" C qN (Lv C CL CJ)):aE P w K B I aO 3 f fd sD (Ux C CL CJ):=by
 refine F.o ZaI λs H p h=>?_;obtain⟨l,b,n,m,k,a,o,rfl,j,un,q⟩:=h;refine⟨_,(aq (aU (fV (kH (K:=K) Y) (pv 1) (c9 (v:=.ref g) Y J Y) QU) (av (aK (fO BN (df L p (by decide) (pv 0) (aa (pv 1) (aa (pv 2) ae))) nJ))) bb) (av (aK (La (df x p (by decide) (pv 0) (aa (pv 1) (aa (pv 2) (aa (pv 3) ae)))) (oQ (rV (fO b_ (pv 1) (c9 (v:=.str "sibling") Y D ⟨_,Y⟩)) (oQ (fO b_ (pv 2) (pv 3))))))))),?_⟩;refine ie ?_;intros;obtain⟨t,r⟩:=j.obj;refine⟨_,Y,g,_,Y,.inr (E _),Y,Y,_,Y,?_⟩;try dsimp only
 rw[bt Yn,B4 k];refine bC (λi=>?_) (λi=>aX ?_)
 ·refine⟨_,Y,l.h,t,_,Y,r,Y,_,Y,_,Y,l,b,n,m,k,a,Y,j,λd c=>?_⟩;rw[qg (un.par i)];exact⟨Y,q d c⟩
 ·have G:cT k=a_:=by
   cases e:cT k with
   |true=>exact absurd e i
   |false=>rfl
  obtain⟨A,y⟩:=un.aH G;refine⟨_,Y,l.h,t,_,Y,r,Y,_,Y,_,Y,_,Y,l,b,n,m,k,a,.inr o,Y,j,λ_=>⟨o,Y⟩,λd c=>⟨_,Y,?_⟩⟩;have e:b.told (keyOf k a (.inr o))=a_:=by
   cases e:b.told (keyOf k a (.inr o)) with
   |true=>exact absurd ((Rt _ _).mp e) A
   |false=>rfl
  rw[e];refine bV ?_;refine⟨_,Y,Y,_,Y,?_⟩;rw[d9];refine bC (λu=>?_) (λu=>?_)
  ·refine⟨_,Y,_,Y,Y,?_⟩;rw[d9,ij (λz=>y ⟨eL u,z⟩)];exact q d c
  ·exact q d c
noncomputable abbrev L6:Z af:=["hearth","child","parent"]
def Oz:aQ ["hearth","child","parent","lines"] L6 (aI FD):=.a9
def ZaJ(F:aP K "check_elders" "check_elders" FD f fd)(n:HasFn P w K B I 2 "lines_up" L5 (SS C CL CJ)):aE P w K B I aO 4 f fd L6 (RC C CL CJ):=by
 refine F.o Oz λs H c h=>?_;obtain⟨l,b,e,d,k,g,rfl,m,ok,j,no,q⟩:=h;refine⟨_,(aq (bM 3 Oz.nd (aY n c (aa (pv 0) (aa (pv 2) ae)))) (av (aU (kq (Cc (bw c) (pv 1) (pv 3)) QU) gw bb))),?_⟩;refine⟨_,Y,_,Y,l,b,e,d,g,Y,m,ok,j,λp r t o a iff=>aS ?_⟩;have i:=λz=>no ((iff k).mp z);exact⟨_,Y,_,Y,p,aG,Y,c_ a.at_ (JP a.len i),_,Y,bV (aX (q o a.same))⟩
def ZbL:aQ sD sD (aI GK):=.a9
def ZbM(F:aP K "check_tie" "check_tie" GK f fd)(x:B "PARENTS"=O (.ref j))(u:∀H,aC K H j (jv.map V.str))(t:HasFn P w K B I 1 "is_tie" ["kind"] BZ)(G:HasFn P w K B I 1 "sides_fit" Dc SU)(k:cJ P w K B I 1 "side_of" C jX (JN C CL CJ))(L:HasFn P w K B I 3 "told_already" sD (Ux C CL CJ))(J:HasFn P w K B I 4 "check_elders" L6 (RC C CL CJ)):aE P w K B I aO 6 f fd sD (RD C CL CJ):=by
 refine F.o ZbL λs H a h=>?_;obtain⟨l,b,g,e,c,rfl,d,ok,to,q⟩:=h;refine⟨_,(aq (aU (jO (fh (aY t a (aa (pv 1) ae)))) gw bb) (aq (aU (jO (fh (aY G a (aa (pv 1) (aa (df k a (by decide) (pv 0) (aa (pv 2) ae)) (aa (df k a (by decide) (pv 0) (aa (pv 3) ae)) ae)))))) gw bb) (aq (aU (fh (aY L a (aa (pv 0) (aa (pv 1) (aa (pv 2) (aa (pv 3) ae)))))) gw bb) (av (aU (fV (kH (K:=K) Y) (pv 1) (c9 (v:=.ref j) Y x Y) QU) (av (bY (aY J a (aa (pv 0) (aa (pv 2) (aa (pv 3) ae)))))) bb))))),?_⟩;refine nY ?_;intros;obtain⟨o,n⟩:=d.obj;obtain⟨r,A,N⟩:=Gw (to.nf.fg.wI to.ns);have y:i4 lD c.k=ar:=by unfold i4;rw[A];rfl
 have m:=(to.nf.fg.ok.iV to.ns).1.2;refine⟨_,Y,c.k,Y,_,Y,?_⟩;rw[y];refine⟨_,Y,_,Y,l.h,o,_,Y,n,Y,_,Y,l,b,g,e,_,_,Y,d,qw ok.nm to.nf.fg.ok.one,⟨_,Y,l.h,o,_,Y,n,Y,_,Y,l,b,g,e,_,_,Y,d,qw ok.nm m,⟨c.k,_,_,Y,_,Y,?_⟩⟩⟩;rw[to.dz];refine⟨_,Y,_,Y,_,Y,_,Y,l,b,g,e,c.k,_,_,Y,d,to.un,λE i=>⟨_,Y,bV (aX ⟨_,Y,j,_,Y,.inr (u _),Y,Y,_,Y,?_⟩)⟩⟩;rw[bt Yn,B4 c.k];refine bC (λp=>⟨_,Y,_,Y,_,Y,l,b,g,e,_,_,Y,d.same i,ok,wq m,to.el p,λD z=>q D (i.trans z)⟩) (λp=>aX (q E i))
noncomputable abbrev Dd:Z af:=["hearth","section"]
def Zax:aQ Dd Dd (aI Fj):=.a9
def Zay(F:aP K "check_section" "check_section" Fj f fd)(c:fX K C)(a:wH K CL)(r:Bl B):aE P w K B I aO 1 f fd Dd (Qp C CL CJ):=by
 refine F.o Zax λs H J h=>?_;obtain⟨l,b,v,u,i,rfl,d,g,q⟩:=h;refine⟨_,(av (aU (fV Zbx (pv 1) (fJ Gh Y r.jM wb (aa (wm Y (pF K 0) Y) ae)) QU) gw bb)),?_⟩;obtain⟨n,k⟩:=d.obj;obtain⟨o,L,z,A,x,G,D,E,N,j,_⟩:=d.landAt;refine⟨_,Y,_,Y,l.h,C,n,_,_,Y,k,c.cls,c.wA,Y,l.L,CL,o,_,_,Y,j,a.cls,a.ua,Y,_,Y,λp t y m e=>?_⟩;refine⟨_,_,_,p,Y,Y,e,_,Y,?_⟩;rw[bR Y,d6 g];exact bV (aX (q t m))
noncomputable abbrev De:Z af:=["hearth","name","section"]
def ZaK:aQ De De (aI FE):=.a9
theorem ZaL(F:aP K "check_saying" "check_saying" FE f fd)(r:B "SAID"=O (.str "said" t1))(p:cJ P w K B I 1 "side_of" C jX (JN C CL CJ))(y:HasFn P w K B I 1 "check_section" Dd (Qp C CL CJ))(o:cJ P w K B I 2 "has" C qN (Lv C CL CJ)):aE P w K B I aO 3 f fd De (RE C CL CJ):=by
 refine F.o ZaK λs H j h=>?_;obtain⟨l,b,i,g,c,rfl,d,ok,a,q⟩:=h;refine⟨_,(aq (bY (df p j (by decide) (pv 0) (aa (pv 1) ae))) (aq (bY (aY y j (aa (pv 0) (aa (pv 2) ae)))) (av (aU (fh (df o j (by decide) (pv 0) (aa (c9 (v:=.str "said") Y r ⟨_,Y⟩) (aa (pv 1) (aa (pv 2) ae))))) gw bb)))),?_⟩;refine hH d.obj λn m=>?_;refine me ?_;intros;refine⟨_,Y,l.h,n,_,Y,m,Y,_,Y,l,b,i,g,_,_,Y,d,qw ok.nm a.nf.fg.ok.one,⟨_,Y,_,Y,l,b,i,g,c.aH,Y,d,a.nf.fg.L3 a.sk,λA k=>⟨_,Y,l.h,n,_,Y,k _ _ m,Y,_,Y,_,Y,l,b,i,g,"said",aw b.ps c.one,.inl c.aH,Y,d.same k,(λz=>absurd z QK),λx t=>⟨_,Y,?_⟩⟩⟩⟩;have u:keyOf "said" (aw b.ps c.one) (.inl c.aH)=gn b.ps c:=by
  unfold gn;rw[oG a.sk,a.sk]
 have e:b.told (keyOf "said" (aw b.ps c.one) (.inl c.aH))=a_:=by
  cases e:b.told (keyOf "said" (aw b.ps c.one) (.inl c.aH)) with
  |true=>exact absurd ((Rt _ _).mp e) (by exact u▸a.nf.nk)
  |false=>rfl
 exact e▸bV (aX (q x (k.trans t)))
def Zbi:aQ qN qN (aI Gq):=.a9
def Zhr(F:aP K "tie" "Hearth.tie" Gq f fd)(g:fX K C)(A:HasFn P w K B I 6 "check_tie" sD (RD C CL CJ))(u:cJ P w K B I 11 "keep" C uF (K3 C CL CJ)):aE P w K B I aO 12 f fd qN (Uy C CL CJ):=by
 refine F.o Zbi λs H e h=>?_;obtain⟨l,b,d,a,c,rfl,o,ok,to,dl,q⟩:=h;refine⟨_,(aq (bY (aY A e (aa (pv 0) (aa (pv 1) (aa (pv 2) (aa (pv 3) ae)))))) (av (aK (df u e (by decide) (pv 0) (aa (dq (aa (pF K 0) (aa (pv 1) (aa (pv 2) (aa (pv 3) ae))))) ae))))),?_⟩;refine ie ?_;intros;refine⟨_,Y,_,Y,_,Y,_,Y,l,b,d,a,c,Y,o,ok,to,λG k=>?_⟩;have n:=o.same k;obtain⟨m,i⟩:=n.obj;refine⟨_,Y,l.h,m,_,Y,i,Y,_,Y,l.h,C,m,_,_,Y,i,g.cls,g.rL,Y,_,Y,_,Y,_,Y,by show 4<=sizeLine;decide,λr p D j E=>?_⟩;have y:dG p b.ps r (b.co,c):=by
  show p r=O (.tup ((e_ b.ps b.co c).map kV));unfold e_;rwa[iH to.ns]
 refine⟨l,b,d,a,r,c,Y,n.same j,ok,y,to.nf,dl,λx z t v=>q x z (cC.after (k.trans j) t) v⟩
noncomputable abbrev Df:Z af:=["self","name","section"]
def Zbj:aQ Df Df (aI Gr):=.a9
def Zhs(F:aP K "say" "Hearth.say" Gr f fd)(i:fX K C)(z:B "SAID"=O (.str "said" t1))(G:HasFn P w K B I 3 "check_saying" De (RE C CL CJ))(x:cJ P w K B I 11 "keep" C uF (K3 C CL CJ)):aE P w K B I aO 12 f fd Df (Uz C CL CJ):=by
 refine F.o Zbj λs H g h=>?_;obtain⟨l,b,e,d,c,rfl,p,ok,a,dl,q⟩:=h;refine⟨_,(aq (bY (aY G g (aa (pv 0) (aa (pv 1) (aa (pv 2) ae))))) (av (aK (df x g (by decide) (pv 0) (aa (dq (aa (pF K 0) (aa (c9 (v:=.str "said") Y z ⟨_,Y⟩) (aa (pv 1) (aa (pv 2) ae))))) ae))))),?_⟩;refine ie ?_;intros;refine⟨_,Y,_,Y,_,Y,l,b,e,d,c,Y,p,ok,a,λN m=>?_⟩;have o:=p.same m;obtain⟨n,j⟩:=o.obj;refine⟨_,Y,l.h,n,_,Y,j,Y,_,Y,l.h,C,n,_,_,Y,j,i.cls,i.rL,Y,_,Y,_,Y,by show 4<=sizeLine;decide,λr t J k L=>?_⟩;have D:dG t b.ps r (b.co,c):=by
  show t r=O (.tup ((e_ b.ps b.co c).map kV));unfold e_;rwa[oG a.sk,a.sk]
 refine⟨l,b,e,d,r,c,Y,o.same k,ok,D,a.nf,dl,λA E u y=>q A E (cC.after (m.trans k) u) y⟩
noncomputable def pV(n:Nat)(d:Int):Z Int:=(List.range n).map λi:Nat=>((i:Int)+d) % (n:Int)
def rot_length(n:Nat)(d:Int):(pV n d).length=n:=by simp[pV]
def Zf2(q:0<n)(d:Int):(pV n d).Perm (bK n):=by
 have g:(0:Int)<(n:Int):=QO
 have j:=W7 d (MG g);have p:=W0 d g;obtain⟨r,k⟩:∃r:Nat,d % (n:Int)=(r:Int):=⟨(d % (n:Int)).toNat,(nO (wh j))⟩;have o:r<n:=QO
 have e:pV n d=(bK n).drop r++(bK n).take r:=by
  refine Wx λi=>?_;have a:=fR n;by_cases c:i<n
  ·have b:(pV n d)[i]?=O (((i:Int)+d) % (n:Int)):=by
    unfold pV;rw[Yf,MN c];rfl
   have l:((i:Int)+d) % (n:Int)=((r:Int)+(i:Int)) % (n:Int):=by
    rw[Int.add_comm,←Int.emod_add_emod,k]
   rw[b,l];by_cases h:r+i<n;·rw[Wl (by rw[Ju,a];omega),List.getElem?_drop,nH h,Xw QO QO,Zj]
   ·rw[J3 (by rw[Ju,a];omega),Ju,a,Ez QO,nH (Nat.sub_lt_of_lt c)];have m:(r:Int)+(i:Int)=((i-(n-r):Nat):Int)+(n:Int)*1:=QO
    rw[m,Int.add_mul_emod_self_left,Xw (Al _) QO]
  ·rw[Y7 (by rw[rot_length];exact fb c),Y7 (by rw[Yl,Ju,Wd,a];omega)]
 exact e▸List.perm_append_comm.trans (by rw[List.take_append_drop])
inductive SV(b:Z V)(H:Hp)(Q:VK):Prop
 |mk (c:Int) (n:Nat) (i:b=[.int c,.int (n:Int)]) (h:0<n) (e:n<=60) (g:∀(t:U) (d:Z Int) (a:Hp),H t=aG->ah H a->bZ a t d->d.Perm (bK n)->Q (.ref t) a):SV b H Q
def Vp:Sp:=λa H Q _=>SV a H Q
inductive SW(K:ag)(g:Z V)(H:Hp)(Q:VK):Prop
 |mk (a b:U) (c d:Z Int) (n:g=[.ref a,.ref b]) (m:aC K H a (c.map V.int)) (j:aC K H b (d.map V.int)) (k:(∀x∈c,0<=x/\x<d.length)) (i:c.length<=60) (h:∀(l:U) (e:Hp),H l=aG->ah H e->bZ e l (bQ d c)->Q (.ref l) e):SW K g H Q
def Vq(K:ag):Sp:=λa H Q _=>SW K a H Q
def Zht(h:Paired Bd ds [a,b]):∃v w,ds=[v,w]/\Bd v a/\Bd w b:=by
 cases h with|cons d h=>cases h with|cons c h=>
  cases h;exact⟨_,_,Y,d,c⟩
noncomputable abbrev L7:Z af:=["_law_cell_here","_law_size"]
def Pq:aQ ["_law_cell_here","_law_size","_law_drawn"] L7 (aI IF):=.a9
def Zdt(F:aP K "_law_row" "_law_row" IF f fd)(R:HasFn P w K B I 1 "_law_draws" xF (yR K))(Ia:HasFn P w K B I 1 "_law_turn" Na TL)(E:Bl B):
  aE P w K B I aO 2 f fd L7 Vp:=by
 refine F.o Pq λs H y h=>?_;obtain⟨c,n,rfl,Q,r,q⟩:=h;refine⟨_,(aq (f_ (i:=2) Pq.nd Y (mz Y) (aY R y (aa (pv 0) (aa (y9 (aa aF (aa aF ae))) ae)))) (aq (aU (bG b_ (bc (iL K) (pv 2) aF) aF) (av (aK (fJ (vE) Y E.oM oH (aa (jj (fr:=[("_law_size",1),("_law_drawn",2)]) (cl:=[("_law_size",s.heap.objs.size+1),("_law_drawn",s.heap.objs.size+1+1)]) Y (.ir ⟨Y,⟨Y,trivial⟩⟩ ⟨⟨Y,.inl Y,.inl Y,Y⟩,⟨⟨Y,.inl Y,.inl Y,Y⟩,trivial⟩⟩) (oF Y E.jM (aa (pv 1) ae)) (λ_ _ _ _=>nI) (λ_ _ _ _=>(aZ eG (aZ fq (pv 0) (bc (iL K) (pv 2) aF)) (pv 1)))) ae)))) bb) (av (aK (aY Ia y (aa (bc (iL K) (pv 2) aF) (aa (pv 1) ae))))))),?_⟩;refine me ?_;intros;refine⟨_,Y,QD,λp N=>?_⟩;refine⟨c,p,[3,40320],Y,aj.of aW,QD,QD,λdl ds H1 nd W v bd=>?_⟩;obtain⟨X,a,rfl,⟨a0,a0'⟩,⟨a1,a1'⟩⟩:=Zht bd;have g:=(cE N _).trans W;have m:(0:Int)<(n:Int):=QO
 refine⟨_,Y,dl,_,0,.int X,Y,Y,aj.of v,Y,Y,_,Y,bC (λ_=>?_) (λ_=>aX ?_)⟩
 ·refine⟨_,Y,(n:Int),Y,QO,QO,λD A=>yz (λi j e=>ah H1 e/\e D=O (.lst j)/\j=((pV n a).take i).map V.int) ⟨cE A _,aW,Y⟩ ?_ ?_⟩
  ·intro i j e z ZH;refine c7 ZH λb u k=>?_;rw[Wb] at z;rw[An];refine mJ (dh ⟨_,Y,_,Y,dl,_,1,.int a,Y,Y,aj.of (b _ _ v),Y,_,_,Y,Y,_,Y,_,_,Y,Y,m,u,?_,λd o x=>?_,aW,?_⟩)
   ·rw[k,Ya,Wd,rot_length];exact kQ QO
   ·rw[aJ (bU x A)];exact b d o x
   ·have T:(pV n a)[i]?=O (((i:Int)+a) % (n:Int)):=by
     unfold pV;rw[Yf,MN z];rfl
    rw[k,Yz,Iy,T];rfl
  ·intro j e ZH;refine c7 ZH λb u k=>?_;rw[Wb,Wg (by rw[rot_length];exact qd _)] at k;refine⟨D,_,Y,.inl ⟨aj.of u,λt l=>q t (pV n a) _ (g.free (b.free l)) ((g.trans b).trans (cE l _)) ?_ (Zf2 Q a)⟩⟩;show upd e t (.tup j) t=_;rw[aW,k]
 ·exact⟨_,Y,dl,_,1,.int a,Y,Y,aj.of v,Y,_,Y,a,n,Y,r,λt G e L b l J=>q t G e (g.free L) (g.trans b) l J⟩
noncomputable abbrev Dg:Z af:=["_law_first","_law_then"]
def ZbN:aQ Dg Dg (aI GP):=.a9
def ZbO(F:aP K "_law_after" "_law_after" GP f fd)(L:Bl B):aE P w K B I aO 1 f fd Dg (Vq K):=by
 refine F.o ZbN λs H N h=>?_;obtain⟨a,b,A,y,rfl,r,J,E,Q,q⟩:=h;refine⟨_,(av (aK (fJ (vE) Y L.oM oH (aa (jj (x:="_law_one") (fr:=[("_law_then",1)]) (cl:=[("_law_then",s.heap.objs.size+1)]) Y (.ir ⟨Y,trivial⟩ ⟨⟨Y,.inl Y,.inl Y,Y⟩,trivial⟩) (B6 (pv 0)) (λ_ _ _ _=>nI) (λ_ _ _ _=>(bc (iT K) (pv 1) (pv 0)))) ae)))),?_⟩;refine⟨_,Y,a,Y,⟨_,r⟩,λD p=>BA (λi e g=>ah H g/\g D=O (.lst e)/\e=((bQ y A).take i).map V.int) ⟨cE p _,aW,Y⟩ (λi e g _ ⟨c,_,_⟩=>c.j9 r) ?_ ?_⟩
 ·intro i v e g G T;refine c7 T λc k j=>?_;refine bh (mw G) λz R m=>?_;subst R;have u:=E z (Yj m);refine mJ (dh ⟨_,Y,_,Y,b,_,_,_,Y,Y,c.j9 J,oU u.1 u.2,k,?_,λd o l=>?_,aW,?_⟩)
  ·rw[j,Ya,Wd,tS];exact kQ QO
  ·rw[aJ (bU l p)];exact c d o l
  ·rw[j,Yz,Iy];unfold bQ;rw[Yf,m];rfl
 ·intro e g T;refine c7 T λc k j=>?_;refine⟨D,_,Y,.inl ⟨aj.of k,λt n=>q t _ (c.free n) (c.trans (cE n _)) ?_⟩⟩;show upd g t (.tup e) t=_;rw[aW,j,Ya,Wg (by rw[tS];exact qd _)]
inductive SX(d:Z V)(H:Hp)(Q:VK):Prop
 |mk (a:U) (b:Z Int) (j:d=[.ref a]) (i:bZ H a b) (g:b.length<64) (h:full b=ar) (e:∀(t:U) (c:Hp),H t=aG->ah H c->bZ c t (inv b)->Q (.ref t) c):SX d H Q
def Lz:Sp:=λa H Q _=>SX a H Q
noncomputable abbrev zO:Z af:=["_law_turn_here"]
def Za1:aQ zO zO (aI F2):=.a9
def Zdu(F:aP K "_law_inverse" "_law_inverse" F2 f fd)(n:Bl B):aE P w K B I aO 1 f fd zO Lz:=by
 refine F.o Za1 λs H G h=>?_;obtain⟨a,c,rfl,y,E,A,q⟩:=h;refine⟨_,(av (aK (fJ (vE) Y n.oM oH (aa (jj (x:="_law_at") (fr:=[("_law_turn_here",0)]) (cl:=[("_law_turn_here",s.heap.objs.size+1)]) Y (.ir ⟨Y,trivial⟩ ⟨⟨Y,.inl Y,.inl Y,Y⟩,trivial⟩) (oF Y n.jM (aa (dF K n (pv 0)) ae)) (λ_ _ _ _=>nI) (λ_ _ _ _=>(OK (pv 1) (aa (pv 0) ae)))) ae)))),?_⟩;have j:(c.map V.int).length=c.length:=Ya _;refine⟨_,Y,a,_,Y,.inr (aC.of y),_,Y,by rw[j];omega,by rw[j];omega,λD v=>yz
   (λi b g=>ah H g/\g D=O (.lst b)/\b=((inv c).take i).map V.int) ⟨cE v _,aW,Y⟩ ?_ ?_⟩
 ·intro i b g l J;refine c7 J λe m k=>?_;rw[Wb,j] at l;rw[An];have r:=BD (Ra A l);have z:=e _ _ y;refine mJ (dh ⟨_,Y,a,c,Y,z,_,Y,(i:Int),lC (i:Int) c,Y,z,r.1,r.2,m,?_,λd o p=>?_,aW,?_⟩)
  ·rw[k,Ya,Wd,gv];exact kQ QO
  ·rw[aJ (bU p v)];exact e d o p
  ·rw[k,Rb l,Yr];rfl
 ·intro b g J;refine c7 J λe m k=>?_;refine⟨D,_,Y,.inl ⟨aj.of m,λt u=>q t _ (e.free u) (e.trans (cE u _)) ?_⟩⟩;show upd g t (.tup b) t=_;rw[aW,k,Wb,j,Wg (by rw[gv];exact qd _)]
structure jY(H0 H:Hp)(ps:bI)(d:U)(b:Nat)(kvs:Z (Key×V))(L:Nat->Z (Nat×Z Int)):Prop where
 dict:H d=O (.dK kvs)
 len:kvs.length<=b
 new:H0 d=aG
 at_:∀x:Nat,x<ps.length->(aL kvs (.inr (aw ps x))=aG/\L x=[])\/∃(a:U) (es:Z U),aL kvs (.inr (aw ps x))=O (.ref a)/\H0 a=aG/\H a=O (.lst (es.map V.ref))/\(L x).length<=b/\Paired (λe (p:Nat×Z Int)=>∃u,H e=O (.tup [.str (aw ps p.1),.ref u])/\bZ H u p.2) es (L x)
 inj:∀(x y:Nat) (a:U),x<ps.length->y<ps.length->aL kvs (.inr (aw ps x))=O (.ref a)->aL kvs (.inr (aw ps y))=O (.ref a)->x=y
def yY(b:(a.map (·.1)).Nodup)(d:i<a.length)(c:j<a.length)(e:aw a i=aw a j):i=j:=by
 have g:=rU b d;rw[e,rU b c] at g
 grind
def jY.same(g:ah H s)(h:jY r H e d b c L):jY r s e d b c L:=by
 refine⟨g _ _ h.dict,h.len,h.new,λx i=>?_,h.inj⟩;rcases h.at_ x i with z|⟨a,o,n,m,l,k,j⟩;·exact .inl z
 ·exact .inr ⟨a,o,n,m,g _ _ l,k,_L.Paired.bN j λ_ _ ⟨u,q,p⟩=>⟨u,g _ _ q,g _ _ p⟩⟩
def jY.app(h:jY H0 H i d b l L)(hx:x<i.length)(J:aL l (.inr (aw i x))=O (.ref a))(j:H a=O (.lst ys))(P:H e=O (.tup [.str (aw i y),.ref u]))(N:bZ H u t)(k:aB a H r)(X:r a=O (.lst (ys++[.ref e]))):jY H0 r i d (b+1) l (uC L x (y,t)):=by
 have m:∀{c:U} {G:Z V},H c=O (.tup G)->c≠a:=λ{c G} hc=>eR hc j (λz=>by cases z);refine⟨k _ _ h.dict (eR h.dict j (λz=>by cases z)),by have:=h.len;exact lK this,h.new,λz s=>?_,h.inj⟩;have R:∀{g:Z U} {qs:Z (Nat×Z Int)},Paired (λe (p:Nat×Z Int)=>∃u,H e=O (.tup [.str (aw i p.1),.ref u])/\bZ H u p.2) g qs->Paired (λe (p:Nat×Z Int)=>∃u,r e=O (.tup [.str (aw i p.1),.ref u])/\bZ r u p.2) g qs:=λ{g qs} hp=>_L.Paired.bN hp λ_ _ ⟨u,W,T⟩=>⟨u,k _ _ W (m W),k _ _ T (m T)⟩;by_cases E:z=x
 ·subst E;rcases h.at_ z s with⟨F,_⟩|⟨o,g,n,D,A,Q,v⟩;·grind
  ·obtain rfl:o=a:=V.ref.inj (Yo (n.symm.trans J));rw[A] at j;obtain rfl:g.map V.ref=ys:=by injection j with j;injection j
   refine .inr ⟨o,g++[e],n,D,by rw[X,Yr];rfl,?_,?_⟩;·unfold uC;rw[bR Y,Yl];show(L z).length+1<=b+1;omega
   ·unfold uC;rw[bR Y];exact kj ⟨u,k _ _ P (m P),k _ _ N (m N)⟩ (R v)
 ·unfold uC;rw[bt E];rcases h.at_ z s with F|⟨o,g,n,D,A,Q,v⟩;·exact .inl F
  ·refine .inr ⟨o,g,n,D,k _ _ A (λq=>E (h.inj z x a s hx (by rwa[←q]) J)),(lK Q),R v⟩
def jY.neu(X:jY H0 Hb l d b i L)(y:(l.map (·.1)).Nodup)(D:x<l.length)(g:ah Hb H)(np:Hb p=aG)(Ey:H0 p=aG)(J:aL i (.inr (aw l x))=aG)(W:H p=O (.lst []))(E:aB d H H')(Dr:H' d=O (.dK (i++[(.inr (aw l x),.ref p)]))):jY H0 H' l d (b+1) (i++[(.inr (aw l x),.ref p)]) L:=by
 have h:=X.same g;have R:∀{c:U} {r:Z V},H c=O (.tup r)->c≠d:=λ{c r} N=>eR N h.dict (λz=>by cases z);have T:∀{c:U} {r:Z V},H c=O (.lst r)->c≠d:=λ{c r} N=>eR N h.dict (λz=>by cases z);refine⟨Dr,by rw[Yl];have:=h.len;show i.length+1<=b+1;omega,h.new,λz t=>?_,λo n a G A k j=>?_⟩
 ·rw[vW J];by_cases P:z=x
  ·rw[bR (by rw[P])];rcases h.at_ z t with⟨_,n⟩|⟨a1,Q,m,_⟩;·exact .inr ⟨p,[],Y,Ey,E _ _ W (T W),by exact n▸Yw _,by exact n▸.nil⟩
   ·rw[P,J] at m;cases m
  ·rw[bt (λq=>P (yY y t D (We q)))];rcases h.at_ z t with o|⟨a1,Q,m,h2,v,h4,h5⟩;·exact .inl o
   ·exact .inr ⟨a1,Q,m,h2,E _ _ v (T v),(lK h4),_L.Paired.bN h5 λ_ _ ⟨u,k,j⟩=>⟨u,E _ _ k (R k),E _ _ j (R j)⟩⟩
 ·have old:∀{z:Nat},z<l.length->aL i (.inr (aw l z))=O (.ref p)->False:=λ{z} t e=>by
   rcases X.at_ z t with⟨o,_⟩|⟨a1,Q,m,h2,v,_⟩;·rw[o] at e;cases e
   ·rw[e] at m;obtain rfl:p=a1:=V.ref.inj (Yo m);rw[np] at v;cases v
  rw[vW J] at k j;by_cases F:o=x
  ·by_cases s:n=x;·rw[F,s]
   ·rw[bR (by rw[F])] at k;rw[bt (λq=>s (yY y A D (We q))),←k] at j;exact absurd j (old A)
  ·rw[bt (λq=>F (yY y G D (We q)))] at k;by_cases s:n=x
   ·rw[bR (by rw[s])] at j;rw[←j] at k;exact absurd k (old G)
   ·rw[bt (λq=>s (yY y A D (We q)))] at j;exact h.inj _ _ a G A k j
def Qq(h2:∀H Q,Q (.ref d) H->gP 2 σ H Q)(nd:(ps.map (·.1)).Nodup)(E:x<ps.length)(hi:∀H Q,Q (.str (aw ps x)) H->gP i σ H Q)(hk:∀H Q,Q (.str (aw ps y)) H->gP k σ H Q)(h:jY n H ps d b m L)(g:ah n H)(lb:b<1000)
  (hx:∀(D:Hp) (Q1:VK),ah n D->(∀(u:U) (H2:Hp),ah D H2->bZ H2 u t->Q1 (.ref u) H2)->tx σ D Q1)(q:∀(v:V) (W:Z (Key×V)) (X:Hp),ah n X->jY n X ps d (b+2) W (uC L x (y,t))->Q v X):zZ K "list" QX (IZ (gP 2) (gP i) (Vc jr)) (h_ (zt (h_ (gP k) (h_ tx jr))) jr) σ H Q:=by
 have sz:(10000:Nat)<=sizeLine:=by rw[du];decide
 have ln:=h.len;unfold zZ IZ;refine h2 _ _ ⟨d,Y,.inl ⟨_,.inl h.dict⟩,hi _ _ ⟨by show 0<=sizeLine;exact Yw _,λp D np j J=>⟨m,.inr (aw ps x),j _ _ h.dict,Y,QO,λv r=>?_,λr H2 T e2=>?_⟩⟩⟩
 ·rcases h.at_ x E with⟨z1,_⟩|⟨a,es,h3,h4,P,h6,h7⟩;·grind
  obtain rfl:v=.ref a:=Yo (r.symm.trans h3);have pl:=dk h7;refine⟨.inl ⟨Y,_,aj.of (j _ _ P)⟩,?_⟩;unfold h_ zt;refine hk _ _ (hx _ _ (g.trans j) λu H2 g2 G=>⟨by show 2<=sizeLine;decide,λe H3 ne A N=>?_⟩);have s:=(j.trans g2).trans A;refine⟨a,_,_,Y,Y,s _ _ P,by rw[Ya];omega,λH4 b4 e4=>?_⟩;have l:=(h.same s).app E h3 (s _ _ P) N (A _ _ G) b4 e4;exact q _ _ H4 (λc o e=>b4 _ _ (s _ _ (g _ _ e)) (bU e h4)) ⟨l.dict,by have:=l.len;exact lK this,l.new,λz hz=>by
   rcases l.at_ z hz with w|⟨a,es,w1,w2,w3,w4,w5⟩;·exact .inl w
   ·exact .inr ⟨a,es,w1,w2,w3,(lK w4),w5⟩,l.inj⟩
 ·have Ey:=g.free np;have R:=T _ _ J (eR J (j _ _ h.dict) (λz=>by cases z));have gg:ah n H2:=λc o e=>T _ _ (j _ _ (g _ _ e)) (bU e h.new);refine⟨.inl ⟨Y,_,aj.of R⟩,?_⟩;unfold h_ zt;refine hk _ _ (hx _ _ gg λu H3 A G=>⟨by show 2<=sizeLine;decide,λe H4 ne g4 N=>?_⟩);have F:=A.trans g4;refine⟨p,_,_,Y,Y,F _ _ R,by show 0<sizeLine;decide,λH5 b5 e5=>?_⟩;have vx:aL (m++[(Sum.inr (aw ps x),V.ref p)]) (.inr (aw ps x))=O (.ref p):=by rw[vW r,bR Y]
  exact q _ _ H5 (λc o e=>b5 _ _ (F _ _ (gg _ _ e)) (bU e Ey)) (((h.neu nd E j np Ey r J T e2).same F).app E vx (F _ _ R) N (g4 _ _ G) b5 e5)
def AN(H:Hp)(b:bI)(a:U)(c:Fc):Prop:=∃z:Int,H a=O (.tup [.int z,.str c.k,.str (aw b c.one),kV (bo b c)])
def FL(H:Hp)(b:bI)(c:U)(F:Z Fc):Prop:=∃a:Z U,H c=O (.lst (a.map V.ref))/\Paired (AN H b) a F
noncomputable abbrev wB(m f w s:U):Z (Key×V):=[(.inr "mother",.ref m),(.inr "father",.ref f),(.inr "wed",.ref w),(.inr "sibling",.ref s)]
def iX(H:Hp)(c:U)(a b:Z Int):Prop:=∃m f w s:U,H c=O (.dK (wB m f w s))/\bZ H m (inv a)/\bZ H f (inv (bQ a b))/\bZ H w b/\bZ H s (bK a.length)
def FL.same(g:ah H j)(h:FL H a d F):FL j a d F:=by
 refine bh h λi c b=>?_;exact⟨i,g _ _ c,_L.Paired.bN b λ_ _ ⟨z,e⟩=>⟨z,g _ _ e⟩⟩
def iX.same(g:ah H j)(h:iX H a xs ys):iX j a xs ys:=by
 refine kA h λm f w s i e d c b=>?_;exact⟨m,f,w,s,g _ _ i,g _ _ e,g _ _ d,g _ _ c,g _ _ b⟩
def iX.get(h:iX H j xs i)(m:(k,tn)∈r9 xs i):∃e u,H j=O (.dK e)/\aL e (.inr k)=O (.ref u)/\bZ H u tn:=by
 refine kA h λa b c d g p o n l=>?_;simp[Yp,Y1,gV] at m;rcases m with⟨rfl,rfl⟩|⟨rfl,rfl⟩|⟨rfl,rfl⟩|⟨rfl,rfl⟩;·exact⟨_,a,g,Y,p⟩
 ·exact⟨_,b,g,Y,o⟩
 ·exact⟨_,c,g,Y,n⟩
 ·exact⟨_,d,g,Y,l⟩
inductive UA(k:Z V)(H:Hp)(Q:VK)(E:XK):Prop
 |mk (j i:U) (a:bI) (b h:Z Int) (F:Z Fc) (s:k=[.ref j,.ref i]) (r:FL H a j F) (m:iX H i b h) (l:(a.map (·.1)).Nodup) (p:∀c∈F,fY b h a.length c) (q:b.length<=8) (o:F.length<=64) (n:∀(d:U) (e:Z (Key×V)) (L:Nat->Z (Nat×Z Int)) (g:Hp),ah H g->jY H g a d 300 e L->(∀x y t,(y,t)∈L x↔gQ F x y t)->Q (.ref d) g)
noncomputable abbrev L8:Z af:=["_law_facts","_law_turns_here"]
def vO:aQ ["_law_facts","_law_turns_here","_law_found","_law_number","_law_kind","_law_one","_law_other"] L8 (aI Hu):=.a9
theorem Zhu(F:aP K "_law_nets" "_law_nets" Hu f fd)(tN:HasFn P w K B I 1 "_law_inverse" zO Lz)(bl:Bl B):aE P w K B I aO 2 f fd L8 UA:=by
 refine F.o vO λs H hr h=>?_;obtain⟨R,J,D,xs,ys,F,rfl,lQ,ht,lS,fgA,n8,EB,q⟩:=h;refine⟨_,(aq (bM 2 vO.nd rG) (aq (dI hY Y (dY (K:=K) Y (pv 0)) (hZ (K:=K) (n:=4) Y Y (bq (a8 3 vO.nd) (bq (a8 4 vO.nd) (bq (a8 5 vO.nd) (bq (a8 6 vO.nd) hV))))) (av (aU (bG nL (pv 4) aT) (aq (bY (kW (K:=K) Y (iK l3 my mr l_ (O_ (pv 2) (pv 5) (cO ae) ⟨Y,Y,Y,Y⟩) (aa (dq (aa (pv 6) (aa (dy (bw hr) (pv 1) (pv 4) (λ_ _=>Y)) ae))) ae)))) (av (bY (kW (K:=K) Y (iK l3 my mr l_ (O_ (pv 2) (pv 6) (cO ae) ⟨Y,Y,Y,Y⟩) (aa (dq (aa (pv 5) (aa (aY tN hr (aa (dy (bw hr) (pv 1) (pv 4) (λ_ _=>Y)) ae)) ae))) ae)))))) bb))) (av (aK (pv 2))))),?_⟩;refine bT ?_;refine λd H1 nd g1 hd=>?_;refine bh (id lQ) λas cW eZ=>?_;have al:=dk eZ;have sz:(10000:Nat)<=sizeLine:=by rw[du];decide
 refine fW (λl k=>∃(i:Z (Key×V)) (L:Nat->Z (Nat×Z Int)) (r p o m:bS V),ah H k/\jY H k D d 300 i L/\(∀x y t,(y,t)∈L x↔gQ F x y t)/\l=[O (.ref R),O (.ref J),O (.ref d),r,p,o,m]) (λkM dP=>?_) ?_
 ·refine⟨_,Y,R,Y,⟨_,aj.of (g1 _ _ cW)⟩,g_ (K:=K) (a:=R) (xs:=as.map V.ref) (λj l k=>∃(i:Z (Key×V)) (L:Nat->Z (Nat×Z Int)) (r p o m:bS V),ah H k/\jY H k D d (4*j) i L/\(∀x y t,(y,t)∈L x↔gQ (F.take j) x y t)/\l=[O (.ref R),O (.ref J),O (.ref d),r,p,o,m])
   ⟨[],λ_=>[],aG,aG,aG,aG,g1,⟨hd,Ye _,nd,λx _=>.inl ⟨Y,Y⟩,λ_ _ _ _ _ e=>(nomatch e)⟩,λx y t=>⟨λz=>(nomatch z),λz=>absurd z ZfP⟩,Y⟩
   (λj l k _ ⟨_,_,_,_,_,_,g,_⟩=>aj.of (g _ _ cW)) ?_ ?_⟩
  ·intro j v l k E ZH;obtain⟨i,L,r,p,o,m,g,ne,A,rfl⟩:=ZH;rw[Yf] at E;obtain⟨T,ec,rfl⟩:∃T,as[j]?=O T/\V.ref T=v:=by
    cases e:as[j]? with
    |none=>rw[e] at E;cases E
    |some c=>rw[e] at E;exact⟨c,Y,Yo E⟩
   obtain⟨c,jD,z,hc⟩:=gY eZ ec;have mc:=Yj jD;have fg:=fgA c mc;have ok:=fg.ok;have jl:j<F.length:=(Yh.mp jD).1;have ni:F.take (j+1)=F.take j++[c]:=by rw[Yz,jD];rfl
   refine⟨T,_,Y,aC.of (g _ _ hc),Y,_,_,Y,aS ⟨_,_,Y,aS ⟨_,_,Y,aS ⟨_,_,Y,aS ⟨Y,?_⟩⟩⟩⟩⟩;have ev:∀b:cF,decide (V.str c.k=V.str bj)=b->(b=ar↔c.k=bj):=λb e=>by
    rw[←e,hU];exact⟨V.str.inj,λz=>by rw[z]⟩
   refine⟨_,Y,Y,_,Y,?_⟩;refine bC (λG=>?_) (λG=>aX ?_)
   ·have ns:c.k≠bj:=λz=>by
     rw[(ev _ Y).mpr z] at G;cases G
    refine gR (ht.get (fg.wI ns)) λtk u iq vu hu=>?_;obtain⟨⟨o0,om⟩,ft,tl⟩:=ok.iV ns;have eo:kV (bo D c)=.str (aw D c.aH.toNat):=by rw[iH ns];rfl
    refine Qq (ps:=D) (x:=c.one) (y:=c.aH.toNat) (t:=c.tn) (λ_ _ h=>⟨_,Y,h⟩) lS ok.one (λ_ _ h=>⟨_,Y,h⟩) (λ_ _ h=>⟨_,Y,by rw[eo];exact h⟩) ne g QO (λH2 Q2 Q k2=>⟨_,Y,_,Y,J,.ref u,Y,c_ (Q _ _ iq) vu,k2 u H2 (ah.refl _) (Q _ _ hu)⟩) λv2 ZmQ H2 Q n2=>?_;refine Qq (ps:=D) (x:=c.aH.toNat) (y:=c.one) (t:=inv c.tn) (λ_ _ h=>⟨_,Y,h⟩) lS om (λ_ _ h=>⟨_,Y,by rw[eo];exact h⟩) (λ_ _ h=>⟨_,Y,h⟩) n2 Q QO (λH3 Q3 N k3=>⟨_,Y,_,Y,J,.ref u,Y,c_ (N _ _ iq) vu,u,c.tn,Y,N _ _ hu,QO,ft,λw H4 _ g4 hw=>k3 w H4 g4 hw⟩) λv3 Zlc H3 N n3=>?_;refine⟨Zlc,_,_,_,_,_,N,n3,λx y t=>?_,Y⟩;rw[ni,rK,Rm,Rm,A]
    grind
   ·have sd:c.k=bj:=by
     by_cases z:c.k=bj;·exact z
     ·cases e:decide (V.str c.k=V.str bj) with
      |true=>exact absurd ((ev _ e).mp Y) z
      |false=>rw[e] at G;exact absurd Y G
    refine⟨i,L,_,_,_,_,g,⟨ne.dict,by have:=ne.len;exact Ai this,ne.new,λz hz=>?_,ne.inj⟩,λx y t=>?_,Y⟩
    ·rcases ne.at_ z hz with w|⟨a,es,w1,w2,X,w4,W⟩;·exact .inl w
     ·exact .inr ⟨a,es,w1,w2,X,(Ai w4),W⟩
    ·rw[ni,rK,A];exact⟨.inl,λh=>h.elim id λz=>absurd sd z.1⟩
  ·rintro l k ⟨i,L,r,p,o,m,g,ne,A,rfl⟩;rw[Ya,al] at ne;rw[Ya,al,Wc] at A;refine dP _ _ ⟨i,L,r,p,o,m,g,⟨ne.dict,by have:=ne.len;omega,ne.new,λz hz=>?_,ne.inj⟩,A,Y⟩;rcases ne.at_ z hz with w|⟨a,es,w1,w2,X,w4,W⟩;·exact .inl w
   ·exact .inr ⟨a,es,w1,w2,X,QO,W⟩
 rintro l k ⟨i,L,r,p,o,m,g,ne,A,rfl⟩;exact⟨_,Y,q d i L k g ne A⟩
def UB{t:Z Int}{z:Int}(a:0<=z)(h:z<t.length):dN (t.map V.int) z=O (.int (ap t z)):=oU a h
def gN(a:bI)(g:Z (Nat×Int)):Z (Key×V):=g.map λp=>(.inr (aw a p.1),.int p.2)
def rq(a:bI)(g:Z (Nat×Int)):Z V:=g.map λp=>.str (aw a p.1)
def Zi9(a:bI)(g:Z (Nat×Int)):(gN a g).length=g.length:=Ya _
def SY(a:bI)(g:Z (Nat×Int)):(rq a g).length=g.length:=Ya _
theorem rZ(b:(a.map (·.1)).Nodup)(c:k<a.length):∀{g:Z (Nat×Int)},(∀p∈g,p.1<a.length)->aL (gN a g) (.inr (aw a k))=(g.lookup k).map V.int
 |[],_=>rfl
 |p::g,lt=>by
  have h:gN a (p::g)=(Sum.inr (aw a p.1),V.int p.2)::gN a g:=Y;rw[h,W8];by_cases e:k=p.1
  ·rw[beq_iff_eq.mpr e,fU (by rw[e])];rfl
  ·rw[beq_eq_false_iff_ne.mpr e,fK (λz=>e (yY b c (lt p Ym) (We (show(Sum.inr (aw a p.1):Key)=Sum.inr (aw a k) from z)).symm))];exact rZ b c λq d=>lt q (Yx _ d)
def Zhv{r k:Nat}(h:g[r]?=O (k,v)):dN (rq a g) (r:Int)=O (.str (aw a k)):=dM (by unfold rq;rw[Yf,h];rfl)
def xZ(c:bI)(d m l n:U)(x:Nat)(a:Int)(r:Nat)(k j i b h g e:bS V):St:=[O (.ref d),O (.ref m),O (.str (aw c x)),O (.int a),O (.ref l),O (.ref n),O (.int (r:Int)),k,j,i,b,h,g,e]
def muC(m:Nat):St->Hp->Nat:=λa _=>match List.getD (α:=bS V) a 6 aG with|some (V.int z)=>m+1-z.toNat|_=>0
inductive Vr(H:Hp)(F:Z Fc)(L:Nat->Z (Nat×Z Int))(n:Nat)(b:bI)(d k e h:U)(x:Nat)(a:Int)(i:St)(c:Hp):Prop
 |mk (g:Z (Nat×Int)) (r:Nat) (o m l:bS V) (y:ah H c) (v:c e=O (.dK (gN b g))) (t:c h=O (.lst (rq b g))) (u:BF F n b.length x a g) (s:r<=g.length) (q:(∀j,j<r->Cl L g j)) (p:i=xZ b d k e h x a r o m l aG aG aG aG):Vr H F L n b d k e h x a i c
def Zld(H:Hp)(F:Z Fc)(L:Nat->Z (Nat×Z Int))(n:Nat)(c:bI)(d g e h:U)(x:Nat)(a:Int)(b:St)(i:Hp):Prop:=Vr H F L n c d g e h x a b i
inductive Vs(H:Hp)(F:Z Fc)(L:Nat->Z (Nat×Z Int))(n:Nat)(b:bI)(d j c k:U)(x:Nat)(a:Int)(h:St)(e:Hp):Prop
 |mk (g:Z (Nat×Int)) (r:Nat) (o m l:bS V) (u:ah H e) (t:e c=O (.dK (gN b g))) (q:BF F n b.length x a g) (s:(∀i,i<g.length->Cl L g i)) (p:h=xZ b d j c k x a r o m l aG aG aG aG):Vs H F L n b d j c k x a h e
def Zle(H:Hp)(F:Z Fc)(L:Nat->Z (Nat×Z Int))(n:Nat)(c:bI)(d g e h:U)(x:Nat)(a:Int)(b:St)(i:Hp):Prop:=Vs H F L n c d g e h x a b i
inductive WT(H:Hp)(F:Z Fc)(L:Nat->Z (Nat×Z Int))(n:Nat)(b:bI)(d m h i:U)(x:Nat)(a:Int)(r k:Nat)(v:Int)(g:Z (Nat×Int))(p:U)(o:Z U)(j:Nat)(l:St)(e:Hp):Prop
 |mk (c s:Z (Nat×Int)) (u t:bS V) (N:ah H e) (J:e p=O (.lst (o.map V.ref))) (E:e h=O (.dK (gN b c))) (G:e i=O (.lst (rq b c))) (D:BF F n b.length x a c) (A:c=g++s) (z:(∀q∈(L k).take j,c.lookup q.1=O (ap q.2 v))) (y:l=xZ b d m h i x a r (O (.str (aw b k))) u t aG aG aG aG):WT H F L n b d m h i x a r k v g p o j l e
def CIn(H:Hp)(F:Z Fc)(L:Nat->Z (Nat×Z Int))(n:Nat)(c:bI)(d h e l:U)(x:Nat)(a:Int)(r k:Nat)(v:Int)(g:Z (Nat×Int))(m:U)(i:Z U)(j:Nat)(b:St)(o:Hp):Prop:=WT H F L n c d h e l x a r k v g m i j b o
inductive Vu(H:Hp)(F:Z Fc)(L:Nat->Z (Nat×Z Int))(n:Nat)(b:bI)(d l h i:U)(x:Nat)(a:Int)(r k:Nat)(v:Int)(g:Z (Nat×Int))(j:St)(e:Hp):Prop
 |mk (c m:Z (Nat×Int)) (p o:bS V) (D:ah H e) (A:e h=O (.dK (gN b c))) (y:e i=O (.lst (rq b c))) (z:BF F n b.length x a c) (u:c=g++m) (t:(∀q∈L k,c.lookup q.1=O (ap q.2 v))) (s:j=xZ b d l h i x a r (O (.str (aw b k))) p o aG aG aG aG):Vu H F L n b d l h i x a r k v g j e
def Zlf(H:Hp)(F:Z Fc)(L:Nat->Z (Nat×Z Int))(n:Nat)(c:bI)(d h e i:U)(x:Nat)(a:Int)(r k:Nat)(v:Int)(g:Z (Nat×Int))(b:St)(j:Hp):Prop:=Vu H F L n c d h e i x a r k v g b j
inductive Vv(H:Hp)(F:Z Fc)(n:Nat)(b:bI)(d l g h:U)(x:Nat)(a:Int)(r k y:Nat)(u:U)(j:Z (Nat×Int))(o:U)(m:Z U)(i:St)(e:Hp):Prop
 |mk (c q:Z (Nat×Int)) (p:Int) (G:ah H e) (E:e o=O (.lst (m.map V.ref))) (A:e g=O (.dK (gN b c))) (D:e h=O (.lst (rq b c))) (z:BF F n b.length x a c) (v:c=j++q) (t:c.lookup y=O p) (s:i=xZ b d l g h x a r (O (.str (aw b k))) (O (.str (aw b y))) (O (.ref u)) aG aG aG aG):Vv H F n b d l g h x a r k y u j o m i e
def Zlg(H:Hp)(F:Z Fc)(n:Nat)(c:bI)(d h g j:U)(x:Nat)(a:Int)(r k y:Nat)(u:U)(e:Z (Nat×Int))(l:U)(i:Z U)(b:St)(m:Hp):Prop:=Vv H F n c d h g j x a r k y u e l i b m
def Vw(h:bI)(F:Z Fc)(t:Hp)(d p o q:U)(x:Nat)(a:Int)(r:Nat)(g:Z (Nat×Int))(n m l:bS V)(b:St)(s:Hp):Prop:=s=t/\(∀c∈F,c.k=bj->∀u,g.lookup c.one=O u->u=c.aH)/\∃e k j i:bS V,b=xZ h d p o q x a r n m l e k j i
inductive Qr(j:Z V)(H:Hp)(Q:VK)(E:XK):Prop
 |mk (l:Hp) (d i:U) (h:Z (Key×V)) (L:Nat->Z (Nat×Z Int)) (n:Nat) (b:bI) (F:Z Fc) (x:Nat) (a:Int) (D:j=[.ref d,.ref i,.str (aw b x),.int a]) (o:(b.map (·.1)).Nodup) (A:jY l H b d 300 h L) (v:(∀x y t,(y,t)∈L x↔gQ F x y t)) (z:FL H b i F) (u:(∀c∈F,fG n b.length c)) (s:n<=8) (r:b.length<=100) (q:F.length<=64) (m:x<b.length) (N:(0<=a/\a<(n:Int))) (J:((¬∃g,mD n F g/\g x=some a)->∀e,ah H e->Q .aA e)) (G:∀(p:U) (g:Z (Nat×Int)) (e:Hp),ah H e->e p=some (.dK (gN b g))->BF F n b.length x a g->mD n F (λk=>g.lookup k)->Q (.ref p) e)
noncomputable abbrev L9:Z af:=["_law_nets_here","_law_facts","_law_name_here","_law_section"]
def l4:aQ ["_law_nets_here","_law_facts","_law_name_here","_law_section","_law_found","_law_row_here","_law_at","_law_here","_law_that","_law_turn_here","_law_number","_law_kind","_law_one","_law_said"] L9 (aI F3):=.a9
theorem Zdv(F:aP K "_law_carried" "_law_carried" F3 f fd)(bl:Bl B):aE P w K B I aO 1 f fd L9 Qr:=by
 refine F.o l4 λs H hr h=>?_;obtain⟨H0,d,X,kvs,L,n,l,F,x,a,rfl,lS,Dh,ed,lQ,lO,n8,WU,EB,hx,Zlh,q1,q2⟩:=h;refine⟨_,(aq (bM 4 l4.nd (BU (kR (pv 2) (pv 3) BR) Y Y (λz=>nomatch z) (Jy Y))) (aq (bM 5 l4.nd (cO (aa (pv 2) ae))) (aq (bM 6 l4.nd aF) (aq (IV hY (bG oY (pv 6) (dF K bl (pv 5))) (aq (bM 7 l4.nd (bc (iL K) (pv 5) (pv 6))) (aq (dI hY Y (dY (K:=K) Y (QW (bw hr) (pv 0) (pv 7) (cO ae) ⟨Y,Y,Y,Y⟩)) (hZ (K:=K) (n:=2) Y Y (bq (a8 8 l4.nd) (bq (a8 9 l4.nd) hV))) (aq (aU (kq (nG (bw hr) (pv 8) (pv 4)) QU) (aq (oI (bw hr) (pv 4) (pv 8) (bc (iT K) (pv 9) (dy (bw hr) (pv 4) (pv 7) (λ_ _=>Y)))) (av (bY (kW (K:=K) Y (iK l3 my mr l_ (pv 5) (aa (pv 8) ae)))))) bb) (av (aU (bG nL (dy (bw hr) (pv 4) (pv 8) (λ_ _=>Y)) (bc (iT K) (pv 9) (dy (bw hr) (pv 4) (pv 7) (λ_ _=>Y)))) (av (aK nJ)) bb)))) (av (Td (i:=6) l4.nd Y (iC Y) aF Te))))) (aq (dI hY Y (dY (K:=K) Y (pv 1)) (hZ (K:=K) (n:=4) Y Y (bq (a8 10 l4.nd) (bq (a8 11 l4.nd) (bq (a8 12 l4.nd) (bq (a8 13 l4.nd) hV))))) (av (aU (PW.pt (pw_and (bG b_ (pv 11) aT) (pw_and (kq (Cc (bw hr) (pv 12) (pv 4)) QU) (pw_and1 (bG nL (dy (bw hr) (pv 4) (pv 12) (λ_ _=>Y)) (pv 13)))))) (av (aK nJ)) bb))) (av (aK (pv 4)))))))),?_⟩;refine tI ?_;intros;refine bT ?_;refine λfn EC=>⟨_,Y,_,Y,aW,[(.inr (aw l x),.int a)],Y,(by show 1<=15;decide),?_⟩;obtain⟨H1,tD⟩:∃H1,H1=upd (upd H fn (.dK [])) fn (.dK (qB [] [(.inr (aw l x),.int a)])):=⟨_,Y⟩;have g1:ah H H1:=λb o e=>by rw[tD,aJ (bU e EC),aJ (bU e EC)];exact e
 have h1:H1 fn=O (.dK (gN l [(x,a)])):=by rw[tD,aW];rfl
 rw[←tD];refine bT ?_;refine⟨_,Y,by show 1<=sizeLine;rw[du];decide,λbJ H2 AO g2 NY=>?_⟩;refine setC ?_;have WV:=g1.free AO;have fr_ne:fn≠bJ:=λz=>by rw[←z,h1] at AO;cases AO
 have sz:(10000:Nat)<=sizeLine:=by rw[du];decide
 have hdH:=Dh.dict;refine bh (id lQ) λas cW eZ=>?_;have N:=dk eZ;refine fW (Zle H F L n l d X fn bJ x a) (λkM dP=>?_) ?_
 ·refine IW (Zld H F L n l d X fn bJ x a) (muC l.length)
   ⟨[(x,a)],0,aG,aG,aG,g1.trans g2,g2 _ _ h1,NY,bf0 hx Zlh,Yw _,λ_ z=>absurd z (Wt _),Y⟩ ?_ ?_
  ·rintro D H6 ⟨g,r,o7,o8,o9,R,vh,pW,J,rl,cl,rfl⟩;have kl:=SY l g;have gl:=J.len;refine⟨_,Y,_,Y,bJ,_,Y,.inl (aj.of pW),_,_,Y,Y,_,Y,?_⟩;rw[kl];refine bC (λc=>?_) (λc=>?_)
   ·have x6:r<g.length:=by have:=eL c;omega
    obtain⟨k,v,NZ⟩:∃(k:Nat) (v:Int),g[r]?=O (k,v):=⟨g[r].1,g[r].2,Yb x6⟩;have ZQ:(k,v)∈g:=Yj NZ;have lkv:g.lookup k=O v:=mem_lookup J.nd ZQ;refine c7 (J.lt _ ZQ) λkm v0 vn=>?_;have ZR:=R _ _ hdH;refine bT ?_;refine⟨_,Y,_,Y,bJ,_,_,_,Y,Y,aj.of pW,Zhv NZ,?_⟩;refine fW (Zlf H F L n l d X fn bJ x a r k v g) (λxU kO=>?_) ?_
    ·refine⟨_,Y,d,Y,.inl ⟨_,.inl ZR⟩,_,Y,by show 0<=sizeLine;exact Yw _,λe0 H7 AQ g7 Az=>?_⟩;have fn7:=g7 _ _ vh;have rw7:=g7 _ _ pW;have nf0:e0≠fn:=λz=>by rw[z,vh] at AQ;cases AQ
     have nr0:e0≠bJ:=λz=>by rw[z,pW] at AQ;cases AQ
     obtain⟨N,W,eal,ZS,Zli,Zlj,tH⟩:∃(N:U) (W:Z U),(aL kvs (.inr (aw l k))).getD (.ref e0)=.ref N/\H7 N=O (.lst (W.map V.ref))/\N≠fn/\N≠bJ/\Paired (λe (p:Nat×Z Int)=>∃u,H e=O (.tup [.str (aw l p.1),.ref u])/\bZ H u p.2) W (L k):=by
      rcases Dh.at_ k km with⟨z1,z2⟩|⟨a1,W,w1,w2,w3,w4,w5⟩;·exact⟨e0,[],by rw[z1];rfl,Az,nf0,nr0,by rw[z2];exact .nil⟩
      ·exact⟨a1,W,by rw[w1];rfl,g7 _ _ (R _ _ w3),bU w3 EC,bU w3 WV,w5⟩
     have esl:=dk tH;refine⟨_,c_ (g7 _ _ ZR) Y,N,eal,⟨_,aj.of ZS⟩,g_ (K:=K) (a:=N) (xs:=W.map V.ref) (CIn H F L n l d X fn bJ x a r k v g N W)
      ⟨g,[],o8,o9,R.trans g7,ZS,fn7,rw7,J,by rw[Y8],λq E=>(nomatch E),Y⟩ (λj D A _ ⟨_,_,_,_,_,h,_,_,_,_,_,_⟩=>aj.of h) ?_ ?_⟩
     ·rintro j w D A G ⟨T,tl,p8,p9,g8,L_,kP,lU,Q,eg,jF,rfl⟩;rw[Yf] at G;obtain⟨e,ee,rfl⟩:∃e,W[j]?=O e/\V.ref e=w:=by
       cases z:W[j]? with
       |none=>rw[z] at G;cases G
       |some c=>rw[z] at G;exact⟨c,Y,Yo G⟩
      obtain⟨⟨y,t⟩,ZT,u,he,hu⟩:=gY tH ee;have Ma:gQ F k y t:=(ed _ _ _).mp (Yj ZT);refine d7 (BX lO Ma) λ_ ym ft tl8=>?_;have N1:T.lookup k=O v:=by rw[eg];exact A8 lkv
      have vb:v<(t.length:Int):=by rw[tl8];exact vn
      have gl8:=Q.len;have he8:A e=O (.tup [.str (aw l y),.ref u]):=g8 _ _ he;have NT:(L k).take (j+1)=(L k).take j++[(y,t)]:=by rw[Yz,ZT];rfl
      refine⟨e,_,Y,aC.of he8,Y,_,_,Y,aS ⟨_,_,Y,aS ⟨Y,?_⟩⟩⟩;refine kr (Zlg H F n l d X fn bJ x a r k y u T N W) (λrh gk=>?_) ?_
      ·refine⟨_,Y,_,Y,fn,_,Y,c_ kP (rZ lS ym λp m=>(Q.lt p m).1),_,Y,?_⟩;cases ly:T.lookup y with
       |none=>
        refine dh ?_;refine⟨_,Y,_,Y,_,Y,fn,.int v,Y,c_ kP (by rw[rZ lS km λp m=>(Q.lt p m).1,N1];rfl),u,_,_,_,Y,Y,aC.of (g8 _ _ hu),UB v0 vb,_,Y,_,Y,fn,_,.inr (aw l y),Y,kP,Y,by rw[Zi9];omega,λH9 b9 e9=>?_⟩;have vn0:aL (gN l T) (.inr (aw l y))=aG:=by rw[rZ lS ym λp m=>(Q.lt p m).1,ly];rfl
        rw[ko _ vn0] at e9;have vm:=b9 _ _ lU (λz=>fr_ne z.symm);refine⟨_,Y,.inl ⟨Y,_,aj.of vm⟩,_,Y,bJ,_,_,Y,Y,vm,by rw[SY];omega,λqY AR q_=>?_⟩;refine gk _ _ ⟨T++[(y,ap t v)],[(y,ap t v)],ap t v,λc o z=>AR _ _ (b9 _ _ (g8 _ _ z) (bU z EC)) (bU z WV),AR _ _ (b9 _ _ L_ Zli) Zlj,?_,?_,Q.add lO Ma N1 ly,Y,Pm ly,Y⟩;·rw[AR _ _ e9 fr_ne,gN,gN,Yr];rfl
        ·rw[q_,rq,rq,Yr];rfl
       |some v'=>
        refine bV (aX ?_);exact gk _ _ ⟨T,[],v',g8,L_,kP,lU,Q,by rw[Y8],ly,Y⟩
      ·rintro D H9 ⟨tG,NX,v',g9,Zlk,pU,vm,ED,N3,lv,rfl⟩;have ZU:tG.lookup k=O v:=by rw[N3];exact A8 N1
       refine⟨_,Y,_,Y,fn,.int v',Y,c_ pU (by rw[rZ lS ym λp m=>(ED.lt p m).1,lv];rfl),_,Y,_,Y,_,Y,fn,.int v,Y,c_ pU (by rw[rZ lS km λp m=>(ED.lt p m).1,ZU];rfl),u,_,_,_,Y,Y,aC.of (g9 _ _ hu),UB v0 vb,Y,_,Y,?_⟩;refine bC (λc=>?_) (λc=>aX ?_)
       ·refine q1 (ED.ZjY Ma ZU lv λz=>?_) H9 g9;rw[z] at c;simp at c
       ·have ev:v'=ap t v:=by
         by_cases z:v'=ap t v;·exact z
         ·exact absurd (by simp[z]) c
        refine⟨tG,tl++NX,_,_,g9,Zlk,pU,vm,ED,by rw[N3,eg,Jo],λq E=>?_,Y⟩;rw[NT] at E;rcases Yq.mp E with E|E;·rw[N3];exact A8 (jF q E)
        ·rw[Yi] at E;rw[E,lv,ev]
     ·rintro D A ⟨T,tl,p8,p9,g8,L_,kP,lU,Q,eg,jF,rfl⟩;rw[Ya,esl,Wc] at jF;exact kO _ _ ⟨T,tl,p8,p9,g8,kP,lU,Q,eg,jF,Y⟩
    ·rintro D A ⟨T,tl,p8,p9,g8,kP,lU,Q,eg,jF,rfl⟩;have rr:r<(g++tl).length:=by rw[Yl];exact Qdh _ x6
     have ge:(g++tl)[r]?=O (k,v):=by rw[Wl x6];exact NZ
     have mY:((r:Int)+1)=((r+1:Nat):Int):=Y
     refine⟨_,Y,_,_,Y,Y,?_⟩;refine⟨⟨T,r+1,O (.str (aw l k)),p8,p9,g8,kP,lU,Q,by rw[eg];exact rr,λr' h'=>?_,Y⟩,?_⟩
     ·rw[eg];by_cases z:r'=r
      ·subst z;intro p m qq E;rw[ge] at m;cases m;rw[←eg];exact jF qq E
      ·exact(cl r' (eO (fI h') z)).app (i2 h' (l5 x6))
     ·show l.length+1-(r+1)<l.length+1-r;omega
   ·have re:¬((r:Int)<(g.length:Int)):=λz=>c (d6 z);exact dP _ _ ⟨g,r,o7,o8,o9,R,vh,J,λr' h'=>cl r' QO,Y⟩
  ·rintro D H6 Q1 Q2 mo ⟨v1,w1,v2,w2,v3,v4,w3,w4,v5,v6,w5,w6,v7,w7,h⟩;exact⟨v1,w1,v2,w2,v3,v4,w3,w4,v5,v6,w5,w6,v7,w7,mo _ _ h⟩
 rintro D H6 ⟨g,r,o7,o8,o9,R,vh,J,cl,rfl⟩;refine fW (Vw l F H6 d X fn bJ x a r g o7 o8 o9) (λkM dP=>?_) ?_
 ·refine⟨_,Y,X,Y,⟨_,aj.of (R _ _ cW)⟩,g_ (K:=K) (a:=X) (xs:=as.map V.ref) (λj=>Vw l (F.take j) H6 d X fn bJ x a r g o7 o8 o9)
   ⟨Y,λc hc=>(nomatch hc),aG,aG,aG,aG,Y⟩ (λj D A _ ⟨e,_⟩=>by rw[e];exact aj.of (R _ _ cW)) ?_ ?_⟩
  ·rintro j v D A G ⟨rfl,sd,tF,oq,ot,ou,rfl⟩;rw[Yf] at G;obtain⟨c0,ec,rfl⟩:∃c0,as[j]?=O c0/\V.ref c0=v:=by
    cases e:as[j]? with
    |none=>rw[e] at G;cases G
    |some c=>rw[e] at G;exact⟨c,Y,Yo G⟩
   obtain⟨c,jD,z,hc⟩:=gY eZ ec;have mc:=Yj jD;have ni:F.take (j+1)=F.take j++[c]:=by rw[Yz,jD];rfl
   refine⟨c0,_,Y,aC.of (R _ _ hc),Y,_,_,Y,aS ⟨_,_,Y,aS ⟨_,_,Y,aS ⟨_,_,Y,aS ⟨Y,?_⟩⟩⟩⟩⟩;have ev:∀b:cF,decide (V.str c.k=V.str bj)=b->(b=ar↔c.k=bj):=λb e=>by
    rw[←e,hU];exact⟨V.str.inj,λz=>by rw[z]⟩
   have x8:(c.k=bj->∀u,g.lookup c.one=O u->u=c.aH)->∃tF oq ot ou:bS V,(A=A/\∀c∈F.take (j+1),c.k=bj->∀u,g.lookup c.one=O u->u=c.aH)/\True:=λh=>⟨aG,aG,aG,aG,⟨Y,λc' m'=>by
    rw[ni] at m';rcases Yq.mp m' with m'|m';·exact sd c' m'
    ·rw[Yi] at m';rw[m'];exact h⟩,trivial⟩
   refine⟨_,Y,Y,_,Y,bC (λcc=>?_) (λcc=>?_)⟩
   ·have sk:=(ev _ Y).mp cc;have eo:kV (bo l c)=.int c.aH:=by rw[oG sk];rfl
    refine⟨_,Y,_,Y,fn,_,Y,c_ vh (rZ lS (lO c mc).one λp m=>(J.lt p m).1),_,Y,?_⟩;cases lk:g.lookup c.one with
    |none=>
     refine bV (bV (aX ?_));obtain⟨_,_,_,_,⟨_,h⟩,_⟩:=x8 λ_ u e=>by rw[lk] at e;cases e
     exact⟨Y,h,_,_,_,_,Y⟩
    |some u=>
     refine dh ?_;refine⟨_,Y,_,Y,fn,.int u,Y,c_ vh (by rw[rZ lS (lO c mc).one λp m=>(J.lt p m).1,lk];rfl),_,Y,by rw[eo];rfl,_,Y,bC (λc2=>?_) (λc2=>aX ?_)⟩
     ·refine q1 (J.Zi5 mc sk lk λz=>?_) A R;rw[z,eo] at c2;simp at c2
     ·have eu:u=c.aH:=by
       by_cases z:u=c.aH;·exact z
       ·exact absurd (by rw[eo];simp[z]) c2
      obtain⟨_,_,_,_,⟨_,h⟩,_⟩:=x8 λ_ u' e=>by rw[lk] at e;rw[←Yo e];exact eu
      exact⟨Y,h,_,_,_,_,Y⟩
   ·refine bV (aX ?_);obtain⟨_,_,_,_,⟨_,h⟩,_⟩:=x8 λz=>absurd ((ev _ Y).mpr z) cc;exact⟨Y,h,_,_,_,_,Y⟩
  ·rintro D A ⟨rfl,sd,tF,oq,ot,ou,rfl⟩;rw[Ya,N,Wc] at sd;exact dP _ _ ⟨Y,sd,tF,oq,ot,ou,Y⟩
 rintro D A ⟨rfl,sd,tF,oq,ot,ou,rfl⟩;exact⟨_,Y,q2 fn g A R vh J (J.done ed cl sd)⟩
inductive UC(i:Z V)(H:Hp)(Q:VK)(E:XK):Prop
 |mk (h g:U) (a:bI) (b e:Z Int) (F:Z Fc) (x:Nat) (t:i=[.ref h,.ref g,.str (aw a x)]) (s:FL H a h F) (m:iX H g b e) (j:(a.map (·.1)).Nodup) (q:∀c∈F,fY b e a.length c) (r:b.length<=8) (o:a.length<=100) (n:F.length<=64) (l:x<a.length) (k:∀(p:U) (d:Hp),H p=aG->ah H d->d p=O (.lst ((qH F b.length x).map V.int))->Q (.ref p) d)
inductive S0(g:Z V)(H:Hp)(Q:VK)(E:XK):Prop
 |mk (a b:U) (d c:Z Int) (l:g=[.ref a,.ref b]) (k:bZ H a d) (i:bZ H b c) (j:oZ d c) (h:∀(p:U) (e:Hp),H p=aG->ah H e->iX e p d c->Q (.ref p) e)
noncomputable abbrev Mb:Z af:=["_law_facts","_law_turns_here","_law_name_here"]
def OT:aQ ["_law_facts","_law_turns_here","_law_name_here","_law_nets_here"] Mb (aI Hv):=.a9
open Classical in
def Zhw(F:aP K "_law_room" "_law_room" Hv f fd)(Ib:HasFn P w K B I 2 "_law_nets" L8 UA)(Ga:HasFn P w K B I 1 "_law_carried" L9 Qr)(T:Bl B):aE P w K B I aO 3 f fd Mb UC:=by
 refine F.o OT λs H l h=>?_;obtain⟨Q,v,y,r,ys,F,x,rfl,E,G,A,N,j,WU,X,hx,q⟩:=h;refine⟨_,(aq (f_ (i:=3) OT.nd Y (mz Y) (aY Ib l (aa (pv 0) (aa (pv 1) ae)))) (av (aK (jj (x:="_law_at") (fr:=[("_law_nets_here",3),("_law_name_here",2),("_law_facts",0)]) (cl:=[("_law_nets_here",s.heap.objs.size+1+1+1),("_law_name_here",s.heap.objs.size+1+1),("_law_facts",s.heap.objs.size+1)]) Y (.ir ⟨Y,⟨Y,⟨Y,trivial⟩⟩⟩ ⟨⟨Y,.inl Y,.inl Y,Y⟩,⟨⟨Y,.inl Y,.inl Y,Y⟩,⟨⟨Y,.inl Y,.inl Y,Y⟩,trivial⟩⟩⟩) (oF Y T.jM (aa (dF K T (dy (bw l) (pv 1) aT (λ_ _=>Y))) ae)) (λ_ _ _ _=>wj (bG BN (Lf Ga l (by decide) Y (aa (pv 1) (aa (pv 3) (aa (pv 2) (aa (pv 0) ae))))) nJ)) (λ_ _ _ _=>(pv 0)))))),?_⟩;refine ie ?_;intros;refine bT ?_;refine⟨_,Y,_,Y,Q,v,y,r,ys,F,Y,E,G,A,N,j,X,λd k L H1 a Dh ed=>?_⟩;refine kA (id G) λ_ _ _ u iq _ _ _ t=>?_;obtain⟨n,R⟩:∃n,n=r.length:=⟨_,Y⟩;have lO:=λc hc=>by exact R▸(N c hc).ok
 rw[←R] at t j q;have ul:((bK n).map V.int).length=n:=by rw[Ya,fR]
 refine⟨_,Y,v,.ref u,Y,c_ (a _ _ iq) Y,u,_,Y,.inr (aC.of (a _ _ t)),?_⟩;rw[ul];refine⟨(n:Int),Y,QO,QO,λD J=>?_⟩;refine Zcf QO J (λi=>decide (∃g,mD n F g/\g x=O (i:Int))) (λi=>V.int (i:Int)) (λi hi W b _ Kt Kf kt kf=>?_) λW b h2=>?_
 ·rw[An];have sT:=QO
  refine⟨_,Y,_,Y,_,Y,_,Y,H,d,Q,k,L,n,y,F,x,(i:Int),Y,A,Dh.same b,ed,(E.same a).same b,lO,j,WU,X,hx,⟨(Al _),QO⟩,λno o m=>?_,λp gg o m Ze bf cl=>?_⟩
  ·refine⟨Y,_,Y,?_⟩;rw[d6 rfl];exact bV (kf o (ij no) m)
  ·refine⟨Y,_,Y,?_⟩;rw[ij (λz=>nomatch z)];exact dh ⟨_,Y,kt _ o (d6 ⟨_,cl,bf.hd⟩) m Y⟩
 ·refine q D W (a.free J) (a.trans b) ?_;rw[h2,Wb];have e:qH F n x=((List.range n).filter λi:Nat=>decide (∃g,mD n F g/\g x=O (i:Int))).map λi:Nat=>(i:Int):=by
   unfold qH bK;rw[Jz];rfl
  rw[e,Y9];rfl
noncomputable abbrev Mc:Z af:=["_law_mother","_law_wife"]
def Gx:aQ ["_law_mother","_law_wife","_law_father","_law_alone"] Mc (aI GQ):=.a9
def Zf3(F:aP K "_law_turns" "_law_turns" GQ f fd)(Q:HasFn P w K B I 1 "_law_inverse" zO Lz)(G9:HasFn P w K B I 1 "_law_after" Dg (Vq K))(J:Bl B):aE P w K B I aO 2 f fd Mc S0:=by
 refine F.o Gx λs H A h=>?_;obtain⟨a,b,j,r,rfl,D,W,gl,q⟩:=h;refine ng (id gl) λfx fy R l2 T=>?_;refine⟨_,(aq (bM 2 Gx.nd (aY G9 A (aa (pv 1) (aa (pv 0) ae)))) (aq (bM 3 Gx.nd (fJ (ZaD Y) Y J.oM oH (aa (fJ Gh Y J.jM wb (aa (dF K J (pv 0)) ae)) ae))) (av (aK (BU (kR aT (aY Q A (aa (pv 0) ae)) (kR aT (aY Q A (aa (pv 2) ae)) (kR aT (pv 1) (kR aT (pv 3) BR)))) Y Y (λz=>nomatch z) (Jy Y)))))),?_⟩;refine bT ?_;have lv:∀x∈r,0<=x/\x<(j.length:Int):=λx hx=>by rw[R];exact rS fy hx
 refine⟨_,Y,_,Y,b,a,r,j,Y,aC.of W,aC.of D,lv,QO,λl H1 nl p hl=>?_⟩;refine bT ?_;have el:(j.map V.int).length=j.length:=Ya _;refine⟨_,Y,a,_,Y,.inr (aC.of (p _ _ D)),_,Y,λrg H2 nrg g2 y=>⟨rg,j.length,Y,by rw[y,el],(gm T (by decide)),λst H3 DY g3 dA=>?_⟩⟩;have E:=g2.trans g3;intro d v;have G:=cE v (.dK []);have N:upd H3 d (.dK []) d=O (.dK []):=aW;generalize upd H3 d (.dK [])=H4 at G N⊢;have ZV:=E.trans G;have u:=p.trans ZV;refine⟨_,Y,a,j,Y,u _ _ D,(pY T (by decide)),fx,λi H5 nim g5 Nl=>?_⟩;refine⟨_,Y,l,bQ j r,Y,g5 _ _ (ZV _ _ hl),by rw[tS];omega,JG fx fy R,λg k njf g6 Nm=>?_⟩;have m:=g5.trans g6;refine⟨_,Y,_,Y,m _ _ N,[(.inr "mother",.ref i),(.inr "father",.ref g),(.inr "wed",.ref b),(.inr "sibling",.ref st)],Y,by show 4<=15;decide,?_⟩;have L:aB d k (upd k d (.dK (wB i g b st))):=aB.put (aB.of (ah.refl _));have ZW:upd k d (.dK (wB i g b st)) d=O (.dK (wB i g b st)):=aW;have em:qB [] [((.inr "mother":Key),V.ref i),(.inr "father",.ref g),(.inr "wed",.ref b),(.inr "sibling",.ref st)]=wB i g b st:=Y;rw[em];generalize upd k d (.dK (wB i g b st))=H7 at L ZW⊢;have t:∀{c:U} {zs:Z Int},bZ k c zs->c≠d:=λX z=>by rw[bZ,z,m _ _ N] at X;cases X
 have n:∀{c:U} {zs:Z Int},bZ k c zs->bZ H7 c zs:=λh=>L _ _ h (t h);refine q d H7 (p.free (E.free v)) (λc o e=>L _ _ (m _ _ (u _ _ e)) (bU e (p.free (E.free v)))) ⟨i,g,b,st,ZW,n (g6 _ _ Nl),n Nm,n (m _ _ (u _ _ W)),n (m _ _ (G _ _ dA))⟩
theorem FL.get(h:FL H i o F):∃b:Z U,H o=O (.lst (b.map V.ref))/\b.length=F.length/\∀(d:Hp) (j:Nat) (v:V),ah H d->(b.map V.ref)[j]?=O v->∃(a:U) (c:Fc) (z:Int),v=.ref a/\F[j]?=O c/\F.take (j+1)=F.take j++[c]/\d a=O (.tup [.int z,.str c.k,.str (aw i c.one),kV (bo i c)]):=by
 refine bh h λb q l=>?_;refine⟨b,q,dk l,λd j v g m=>?_⟩;rw[Yf] at m;obtain⟨a,p,rfl⟩:∃a,b[j]?=O a/\V.ref a=v:=by
  cases e:b[j]? with
  |none=>grind
  |some c=>grind
 obtain⟨c,k,z,n⟩:=gY l p;exact⟨a,c,z,Y,k,by rw[Yz,k];rfl,g _ _ n⟩
def nW(b:bI)(k a:af)(o:V)(c:Fc):cF:=decide (c.k=k)&&((decide (aw b c.one=a)&&(decide (kV (bo b c)=o)||cT k))||(decide (k="sibling")&&(decide (kV (bo b c)=.str a)&&decide (V.str (aw b c.one)=o))))
def qJ(b:bI)(F:Z Fc)(k a:af)(o:V):cF:=F.any (nW b k a o)||(decide (k="sibling")&&decide (V.str a=o))
def Bt(t:TT)(c:St)(H:Hp)(b:cF):Prop:=∀k:cF->Hp->Prop,(∀a,ah H a->k b a)->t c H k
def Vt(t:TE)(b:St)(H:Hp)(v:V):Prop:=∀k:VK,(∀a,ah H a->k v a)->t b H k
theorem Bt.and(h:Bt t σ H a)(g:∀d,a=ar->ah H d->Bt u σ d b):Bt (VI t u) σ H (a&&b):=λk e=>h _ λl c=>by
 cases a with
 |true=>exact dh (g l Y c _ λj i=>e j (c.trans i))
 |false=>grind
theorem Bt.or(h:Bt t σ H a)(g:∀d,a=a_->ah H d->Bt u σ d b):Bt (Xk t u) σ H (a||b):=λk e=>h _ λl c=>by
 cases a with
 |true=>grind
 |false=>exact bV (g l Y c _ λj i=>e j (c.trans i))
def Vt.var(h:σ[i]?=O (O x)):Vt (gP i) σ H x:=λ_ a=>⟨x,h,a H (ah.refl _)⟩
def Vt.c:Vt (tC x) σ H x:=λ_ a=>a H (ah.refl _)
def Vt.test(h:Vt d σ H (.bl b)):Bt (Lc d) σ H b:=λk a=>h _ λe c=>⟨b,Y,a e c⟩
def Vt.eq(g:Vt j σ H x)(e:∀b,ah H b->Vt i σ b y)(c:zB x y=ar):Vt (jZ Xo j i) σ H (.bl (decide (x=y))):=λk d=>g _ λm a=>e m a _ λl h=>⟨c,d l (a.trans h)⟩
def Vt.ne(g:Vt j σ H x)(e:∀b,ah H b->Vt i σ b y)(c:zB x y=ar):Vt (jZ Xp j i) σ H (.bl (!decide (x=y))):=λk d=>g _ λm a=>e m a _ λl h=>⟨c,d l (a.trans h)⟩
theorem Vt.WW(i:Vt m σ H (.bl a))(h:∀g,a=ar->ah H g->Vt l σ g (.bl b)):Vt (UQ m l) σ H (.bl (a&&b)):=λk d=>i _ λe c=>⟨a,Y,by
 cases a with
 |true=>exact dh (h e Y c _ λn j=>d n (c.trans j))
 |false=>exact bV (d e c)⟩
theorem Vt.orV(h:Vt l σ H (.bl a))(g:∀d,a=a_->ah H d->Vt j σ d (.bl b)):Vt (VJ l j) σ H (.bl (a||b)):=λk e=>h _ λn c=>⟨a,Y,by
 cases a with
 |true=>grind
 |false=>exact bV (g n Y c _ λm i=>e m (c.trans i))⟩
def Vt.LA(c:Vt h σ H (.str k)):Vt (jZ (zY K a_) h (zt (h_ (tC (V.str "mother")) (h_ (tC (V.str "father")) jr)))) σ H (.bl (cT k)):=λq b=>c _ λl g=>by
 refine⟨by rw[du];decide,λp i j d a=>⟨p,_,Y,.inr (aC.of a),Y,Y,?_⟩⟩;have e:eW (V.str k) [V.str "mother",V.str "father"]=cT k:=by
  rw[Wn];unfold eW cT;rw[J0,J0,List.any_nil,zT,N5,N5,hU,hU];show((("mother":af)==k)=ar\/(("father":af)==k)=ar)↔_
  grind
 exact e▸b i (g.trans d)
def Flat(o:V):Prop:=(∃z,o=.int z)\/∃z,o=.str z
theorem yZ(k:Key):Flat (kV k):=by
 cases k with
 |inl z=>exact .inl ⟨z,Y⟩
 |inr z=>exact .inr ⟨z,Y⟩
def Bv(b:Flat u)(a:Flat v):zB u v=ar:=by
 rcases b with⟨_,rfl⟩|⟨_,rfl⟩<;>rcases a with⟨_,rfl⟩|⟨_,rfl⟩<;>rfl
inductive RF(b:Z V)(H:Hp)(Q:VK):Prop
 |mk (d:U) (c:bI) (F:Z Fc) (k a:af) (o:V) (i:b=[.ref d,.str k,.str a,o]) (h:FL H c d F) (g:Flat o) (q:∀e,ah H e->Q (.bl (qJ c F k a o)) e):RF b H Q
def S1:Sp:=λa H Q _=>RF a H Q
inductive S2(d:Z V)(H:Hp)(Q:VK)(E:XK):Prop
 |mk (b:U) (a:bI) (k:af) (i j:Nat) (n:d=[.ref b,.str k,.str (aw a i),.str (aw a j)]) (g:H b=O (.dK (iu a))) (e:(a.map (·.1)).Nodup) (m:i<a.length) (l:j<a.length) (h:k="mother"\/k="father"\/k="wed"\/k="sibling") (q:∀c,ah H c->Q (.bl (mF k (gu a i) (gu a j))) c)
def RG(j:cL xs q b):y∈ic b a↔∃c∈b.F,cT c.k=ar/\aw b.ps c.one=a/\kV (bo b.ps c)=.str y:=by
 constructor
 ·intro h;obtain⟨v,l,rfl⟩:=Yk.mp h;unfold qD at l;obtain⟨k,_,e⟩:=Jv.mp l;obtain⟨p,g,d,s,i,rfl,r⟩:=SR j e;have m:p.2.k≠bj:=λz=>by
   rw[z] at d;exact absurd d QK
  exact⟨p.2,Yk.mpr ⟨p,g,Y⟩,d,i,by rw[iH m];rfl⟩
 ·rintro⟨c,o,d,rfl,i⟩;obtain⟨p,g,rfl⟩:=Yk.mp o;have n:(([.inr p.2.k,.inr (aw b.ps p.2.one)]:Z Key),kV (bo b.ps p.2))∈cD b.ps b.fs:=Yk.mpr ⟨p,Y4.mpr ⟨g,d⟩,Y⟩;have e:=SG j.pr n;refine Yk.mpr ⟨.str y,?_,Y⟩;unfold qD;refine Jv.mpr ⟨p.2.k,?_,by rw[e,i]⟩;unfold cT at d;rw[N5,hU,hU] at d;rcases d with z|z<;>rw[z];·exact Ym
  ·exact Yx _ Ym
structure x_(b:BS)(a:af)(ks:Z af):Prop where
 nd:ks.Nodup
 sd:∀k∈ks,gX b a k
 ma:a∈ks
def x_.len(u:x_ b a e)(c:cL xs h b)(d:a∈b.ps.map (·.1)):e.length<=b.ps.length:=by
 have:=u.nd.length_le_of_subset λk g=>BJ c d (u.sd k g)
 grind
theorem x_.all(u:x_ b a c)(j:∀r,r<c.length->∀k,c[r]?=O k->∀p∈ic b k,p∈c)(z:af):z∈c↔gX b a z:=by
 refine⟨u.sd z,λh=>?_⟩;induction h with
 |refl=>exact u.ma
 |step _ g e=>
  obtain⟨r,d,i⟩:=W1.mp e;exact j r d _ (by rw[Yb d,i]) _ g
inductive WX(i:Z V)(H:Hp)(Q:VK)(E:XK):Prop
 |mk (e:U) (h g:Z Int) (b:BS) (a:af) (l:i=[.ref e,.str a]) (k:FL H b.ps e b.F) (ok:cL h g b) (j:a∈b.ps.map (·.1)) (q:∀(p:U) (d:Z af) (c:Hp),ah H c->c p=O (.lst (d.map V.str))->(∀z,z∈d↔gX b a z)->Q (.ref p) c)
def muU(m:Nat):St->Hp->Nat:=λa _=>match List.getD (α:=bS V) a 3 aG with|some (V.int z)=>m+1-z.toNat|_=>0
inductive ZX(H:Hp)(b:BS)(a:af)(l d:U)(i:St)(h:Hp):Prop
 |mk (c:Z af) (r:Nat) (q o n m:bS V) (g:ah H h) (t:h d=O (.lst (c.map V.str))) (up:x_ b a c) (s:r<=c.length) (u:∀j,j<r->∀k,c[j]?=O k->∀p∈ic b k,p∈c) (e:i=[O (.ref l),O (.str a),O (.ref d),O (.int (r:Int)),q,o,n,m]):ZX H b a l d i h
inductive N6(H:Hp)(b:BS)(a:af)(n h:U)(r:Nat)(m:Z af)(k:af)(j:Nat)(l:St)(i:Hp):Prop
 |mk (d o:Z af) (t s q p:bS V) (g:ah H i) (u:i h=O (.lst (d.map V.str))) (up:x_ b a d) (v:d=m++o) (x:∀c∈b.F.take j,cT c.k=ar->aw b.ps c.one=k->∀y,kV (bo b.ps c)=.str y->y∈d) (e:l=[O (.ref n),O (.str a),O (.ref h),O (.int (r:Int)),t,s,q,p]):N6 H b a n h r m k j l i
def Pr(h:Flat o):jP o=ar:=by
 rcases h with⟨_,rfl⟩|⟨_,rfl⟩<;>rfl
def yI(a:Z af):(a.map V.str).all jP=ar:=by
 rw[Wm];intro v b;obtain⟨k,_,rfl⟩:=Yk.mp b;rfl
def sE(y:af)(ks:Z af):eW (.str y) (ks.map V.str)=ar↔y∈ks:=by
 unfold eW;rw[J9];constructor
 ·rintro⟨v,a,e⟩;obtain⟨k,b,rfl⟩:=Yk.mp a;have:(k==y)=ar:=e
  grind
 ·intro h;exact⟨.str y,Yk.mpr ⟨y,h,Y⟩,by show(y==y)=ar;rw[beq_iff_eq]⟩
noncomputable abbrev Md:Z af:=["_law_facts","_law_kind","_law_one","_law_other"]
def yu:aQ ["_law_facts","_law_kind","_law_one","_law_other","_law_number","_law_had","_law_here","_law_there"] Md (aI Hx):=.a9
def Zcu(F:aP K "_law_told" "_law_told" Hx f fd):aE P w K B I aO 1 f fd Md S1:=by
 refine F.o yu λs H hr h=>?_;obtain⟨y,i,F,k,a,o,rfl,L,D,q⟩:=h;refine⟨_,(aq (dI hY Y (dY Y (pv 0)) (hZ Y Y (bq (a8 4 yu.nd) (bq (a8 5 yu.nd) (bq (a8 6 yu.nd) (bq (a8 7 yu.nd) hV))))) (aq (aU (PW.pt (pw_and (bG b_ (pv 5) (pv 1)) (pw_and (bG b_ (pv 6) (pv 2)) (pw_and1 (PW.pt (pw_or (bG b_ (pv 7) (pv 3)) (pw_or1 (fV (kH Y) (pv 1) (dq (aa aT (aa aT ae))) QU)))))))) (av (aK gH)) bb) (av (aU (PW.pt (pw_and (bG b_ (pv 5) (pv 1)) (pw_and (bG b_ (pv 1) aT) (pw_and (bG b_ (pv 7) (pv 2)) (pw_and1 (bG b_ (pv 6) (pv 3))))))) (av (aK gH)) bb)))) (av (aK (rV (fO b_ (pv 1) aT) (oQ (fO b_ (pv 2) (pv 3))))))),?_⟩;refine ie ?_;intros;refine cu L.get λas G al T=>?_;refine fW (λd l=>ah H l/\F.any (nW i k a o)=a_/\∃r p n m:bS V,d=[O (.ref y),O (.str k),O (.str a),O o,r,p,n,m]) (λkM X=>?_) ?_
 ·refine⟨_,Y,y,Y,⟨_,aj.of G⟩,g_ (λj d l=>ah H l/\(F.take j).any (nW i k a o)=a_/\∃r p n m:bS V,d=[O (.ref y),O (.str k),O (.str a),O o,r,p,n,m])
   ⟨ah.refl _,Y,aG,aG,aG,aG,Y⟩ (λj d l _ ⟨g,_⟩=>aj.of (g _ _ G)) ?_ ?_⟩
  ·rintro j v d l Q ⟨g,no,r,p,n,m,rfl⟩;refine jI (T l j v g Q) λc0 c z js N J R=>?_;subst js;have x:nW i k a o c=ar->qJ i F k a o=ar:=λh=>by
    unfold qJ;rw[J9.mpr ⟨c,Yj N,h⟩];rfl
   refine⟨c0,_,Y,aC.of R,Y,_,_,Y,aS ⟨_,_,Y,aS ⟨_,_,Y,aS ⟨_,_,Y,aS ⟨Y,?_⟩⟩⟩⟩⟩;refine kr (λd u=>ah H u/\(decide (c.k=k)&&(decide (aw i c.one=a)&&(decide (kV (bo i c)=o)||cT k)))=a_/\d=[O (.ref y),O (.str k),O (.str a),O o,O (.int z),O (.str c.k),O (.str (aw i c.one)),O (kV (bo i c))]) (λrh W=>?_) ?_
   ·refine(Bt.and (Vt.test (Vt.eq (Vt.var Y) (λ_ _=>Vt.var Y) Y)) λ_ _ _=>Bt.and (Vt.test (Vt.eq (Vt.var Y) (λ_ _=>Vt.var Y) Y)) λ_ _ _=>Bt.or (Vt.test (Vt.eq (Vt.var Y) (λ_ _=>Vt.var Y) (Bv (yZ _) D))) λ_ _ _=>Vt.test (Vt.LA (Vt.var Y))) _ λu t=>?_;rw[d9,d9];refine bC (λb=>?_) (λb=>?_)
    ·have:=x (by unfold nW;rw[Wu] at b⊢;exact⟨b.1,by rw[b.2];rfl⟩);rw[this] at q;exact q u (g.trans t)
    ·exact aX (W _ _ ⟨g.trans t,Jn.mpr b,Y⟩)
   ·rintro d u ⟨t,A,rfl⟩;refine(Bt.and (Vt.test (Vt.eq (Vt.var Y) (λ_ _=>Vt.var Y) Y)) λ_ _ _=>Bt.and (Vt.test (Vt.eq (Vt.var Y) (λ_ _=>Vt.c) Y)) λ_ _ _=>Bt.and (Vt.test (Vt.eq (Vt.var Y) (λ_ _=>Vt.var Y) (Bv (yZ _) (.inr ⟨_,Y⟩)))) λ_ _ _=>Vt.test (Vt.eq (Vt.var Y) (λ_ _=>Vt.var Y) (Bv (.inr ⟨_,Y⟩) D))) _ λH8 E=>?_;rw[d9,d9];refine bC (λb=>?_) (λb=>aX ?_)
    ·have:=x (by unfold nW;rw[Wu] at b⊢;exact⟨b.1,by rw[b.2,Bool.or_true]⟩);rw[this] at q;exact q H8 (t.trans E)
    ·refine⟨t.trans E,?_,_,_,_,_,Y⟩;rw[J,List.any_append,no,DM,J0,List.any_nil,zT];unfold nW;rw[Bool.and_or_distrib_left,A,DM];exact Jn.mpr b
  ·rintro d l ⟨g,no,r,p,n,m,rfl⟩;rw[Ya,al,Wc] at no;exact X _ _ ⟨g,no,r,p,n,m,Y⟩
 rintro d l ⟨g,no,r,p,n,m,rfl⟩;refine(Vt.WW (Vt.eq (Vt.var Y) (λ_ _=>Vt.c) Y) λ_ _ _=>Vt.eq (Vt.var Y) (λ_ _=>Vt.var Y) (Bv (.inr ⟨_,Y⟩) D)) _ λu t=>?_;have e:=q u (g.trans t);unfold qJ at e;rw[no,DM] at e;rwa[d9]
noncomputable abbrev Di:Z af:=["_law_sides","_law_kind","_law_one","_law_other"]
def ZbP:aQ Di Di (aI GR):=.a9
def ZbQ(F:aP K "_law_sided" "_law_sided" GR f fd):aE P w K B I aO 1 f fd Di S2:=by
 refine F.o ZbP λs H l h=>?_;obtain⟨g,m,k,i,j,rfl,p,n,x,t,d,q⟩:=h;refine⟨_,(aq (aU (bG b_ (pv 1) aT) (av (aK (fO b_ (dy (bw l) (pv 0) (pv 3) (λ_ _=>Y)) aT))) bb) (aq (aU (bG b_ (pv 1) aT) (av (aK (fO b_ (dy (bw l) (pv 0) (pv 3) (λ_ _=>Y)) aT))) bb) (av (aK (La (fO nL (pv 1) aT) (oQ (rV (fO b_ (dy (bw l) (pv 0) (pv 2) (λ_ _=>Y)) aT) (oQ (fO b_ (dy (bw l) (pv 0) (pv 3) (λ_ _=>Y)) aT))))))))),?_⟩;have u:=c_ p (qw n t);refine⟨_,Y,Y,_,Y,?_⟩;rw[d9];refine bC (λc=>?_) (λc=>aX ?_)
 ·have e:k="mother":=eL c;refine⟨_,Y,_,Y,g,_,Y,u,Y,?_⟩;rw[d9];unfold mF at q;rw[bR e] at q;exact q H (ah.refl _)
 have o:k≠"mother":=λz=>c (d6 z);refine⟨_,Y,Y,_,Y,?_⟩;rw[d9];refine bC (λc=>?_) (λc=>aX ?_)
 ·have e:k="father":=eL c;refine⟨_,Y,_,Y,g,_,Y,u,Y,?_⟩;rw[d9];unfold mF at q;rw[bt o,bR e] at q;exact q H (ah.refl _)
 have r:k≠"father":=λz=>c (d6 z);have D:(!decide (k="wed"))=decide (k="sibling"):=by
  rcases d with z|z|z|z;·exact absurd z o
  ·exact absurd z r
  ·rw[z];decide+kernel
  ·rw[z];decide+kernel
 refine(Vt.orV (a:=decide (k="sibling")) (b:=decide (gu m i="man")&&decide (gu m j="woman")) ?_ λJ _ v=>Vt.WW (a:=decide (gu m i="man")) ?_ λG _ y=>?_) _ λE A=>?_
 ·rw[←D,←d9];exact Vt.ne (Vt.var Y) (λ_ _=>Vt.c) Y
 ·rw[←d9];exact Vt.eq (λk d=>⟨_,Y,_,Y,g,_,Y,c_ (v _ _ p) (qw n x),d _ (ah.refl _)⟩) (λ_ _=>Vt.c) Y
 ·rw[←d9];exact Vt.eq (λk d=>⟨_,Y,_,Y,g,_,Y,c_ (y _ _ (v _ _ p)) (qw n t),d _ (ah.refl _)⟩) (λ_ _=>Vt.c) Y
 ·unfold mF at q;rw[bt o,bt r] at q;exact q E A
noncomputable abbrev Me:Z af:=["_law_facts","_law_name_here"]
def rH:aQ ["_law_facts","_law_name_here","_law_row_here","_law_at","_law_number","_law_kind","_law_one","_law_other"] Me (aI JE):=.a9
def Zey(F:aP K "_law_up" "_law_up" JE f fd)(bl:Bl B):aE P w K B I aO 1 f fd Me WX:=by
 refine F.o rH λs H hr h=>?_;obtain⟨Q,xs,ys,b,a,rfl,lQ,ok,ma,q⟩:=h;refine⟨_,(aq (bM 2 rH.nd (cO (aa (pv 1) ae))) (aq (bM 3 rH.nd aF) (aq (IV hY (bG oY (pv 3) (dF K bl (pv 2))) (aq (dI hY Y (dY (K:=K) Y (pv 0)) (hZ (K:=K) (n:=4) Y Y (bq (a8 4 rH.nd) (bq (a8 5 rH.nd) (bq (a8 6 rH.nd) (bq (a8 7 rH.nd) hV))))) (av (aU (PW.pt (pw_and (fV (kH (K:=K) Y) (pv 5) (dq (aa aT (aa aT ae))) QU) (pw_and (bG b_ (pv 6) (bc (iL K) (pv 2) (pv 3))) (pw_and1 (fV (KJ (K:=K) Y) (pv 7) (pv 2) QU))))) (av (bY (kW (K:=K) Y (iK l3 my mr l_ (pv 2) (aa (pv 7) ae))))) bb))) (av (Td (i:=3) rH.nd Y (iC Y) aF Te)))) (av (aK (pv 2)))))),?_⟩;refine nY ?_;intros;have sz:(10000:Nat)<=sizeLine:=by rw[du];decide
 refine cu lQ.get λas cW al gt=>?_;have m64:=ok.m;refine bT ?_;refine⟨_,Y,by show 1<=sizeLine;decide,λm H1 AO g1 NY=>?_⟩;refine setC ?_;refine fW (λD R=>∃ks:Z af,ah H R/\R m=O (.lst (ks.map V.str))/\(∀z,z∈ks↔gX b a z)/\∃o3 o4 o5 o6 o7:bS V,D=[O (.ref Q),O (.str a),O (.ref m),o3,o4,o5,o6,o7]) (λkM dP=>?_) ?_
 ·refine IW (ZX H b a Q m) (muU b.ps.length) ⟨[a],0,aG,aG,aG,aG,g1,NY,⟨Y3.mpr ⟨(λz=>nomatch z),W5⟩,λk X=>by rw[Yi.mp X];exact .refl,Ym⟩,Yw _,λr hr=>absurd hr (Wt _),Y⟩ ?_ ?_
  ·rintro D R ⟨ks,r,o4,o5,o6,o7,g6,W,up,rl,cl,rfl⟩;have kl:(ks.map V.str).length=ks.length:=Ya _;have gl:=up.len ok ma;refine⟨_,Y,_,Y,m,_,Y,.inl (aj.of W),_,_,Y,Y,_,Y,?_⟩;rw[kl];refine bC (λc=>?_) (λc=>?_)
   ·have T:r<ks.length:=by have:=eL c;omega
    obtain⟨k,ek⟩:∃k,ks[r]?=O k:=⟨_,Yb T⟩;have mk:k∈ks:=Yj ek;refine fW (N6 H b a Q m r ks k b.F.length) (λxU kO=>?_) ?_
    ·refine⟨_,Y,Q,Y,⟨_,aj.of (g6 _ _ cW)⟩,g_ (K:=K) (a:=Q) (xs:=as.map V.ref) (N6 H b a Q m r ks k) ⟨ks,[],o4,o5,o6,o7,g6,W,up,by rw[Y8],λc hc=>(nomatch hc),Y⟩ (λj D H8 _ ⟨_,_,_,_,_,_,g,_,_,_,_,_⟩=>aj.of (g _ _ cW)) ?_ ?_⟩
     ·rintro j v D H8 hj ⟨fQ,tl,p4,p5,p6,p7,g8,N,t,A,jF,rfl⟩;refine jI (gt H8 j v g8 hj) λc0 c z js jD ni hc=>?_;subst js;have mc:c∈b.F:=Yj jD;have EE:fQ[r]?=O k:=by rw[A,Wl T];exact ek
      have gl8:=t.len ok ma;refine⟨c0,_,Y,aC.of hc,Y,_,_,Y,aS ⟨_,_,Y,aS ⟨_,_,Y,aS ⟨_,_,Y,aS ⟨Y,?_⟩⟩⟩⟩⟩;refine(Bt.and (Vt.test (Vt.LA (k:=c.k) (Vt.var Y))) λHA _ gA=>Bt.and (Vt.test (Vt.eq (x:=.str (aw b.ps c.one)) (y:=.str k) (Vt.var Y) (λHB gB kk X=>⟨_,Y,_,Y,m,_,_,_,Y,Y,aj.of (gB _ _ (gA _ _ N)),dM (by rw[Yf,EE];rfl),X _ (ah.refl _)⟩) Y)) λHB _ gB=>Vt.test (b:=!eW (kV (bo b.ps c)) (fQ.map V.str)) λkk X=>⟨_,Y,_,Y,m,_,Y,.inl (aj.of (gB _ _ (gA _ _ N))),Pr (yZ _),yI _,X _ (ah.refl _)⟩) _ λH9 g9=>?_;rw[d9];have x8:∀iz:Z af,(∀x∈fQ,x∈iz)->(cT c.k=ar->aw b.ps c.one=k->∀y,kV (bo b.ps c)=.str y->y∈iz)->∀c'∈b.F.take (j+1),cT c'.k=ar->aw b.ps c'.one=k->∀y,kV (bo b.ps c')=.str y->y∈iz:=λiz sub hh c' L J G y E=>by
       rw[ni] at L;rcases Yq.mp L with L|L;·exact sub _ (jF c' L J G y E)
       ·rw[Yi.mp L] at J G E;exact hh J G y E
      refine bC (λcc=>?_) (λcc=>aX ?_)
      ·rw[Wu,Wu,hU] at cc;refine c7 cc λc1 c2 c3=>?_;have ns:c.k≠bj:=λz=>by rw[z] at c1;exact absurd c1 QK
       have eo:kV (bo b.ps c)=.str (aw b.ps c.aH.toNat):=by rw[iH ns];rfl
       have vm:=g9 _ _ N;refine⟨_,Y,.inl ⟨Y,_,aj.of vm⟩,_,Y,m,_,_,Y,Y,vm,by rw[Ya];omega,λqY AR q_=>?_⟩;have no:aw b.ps c.aH.toNat∉fQ:=λz=>by
        rw[eo,(sE _ _).mpr z] at c3;cases c3
       refine⟨fQ++[aw b.ps c.aH.toNat],tl++[aw b.ps c.aH.toNat],_,_,_,_,λd o e=>AR _ _ (g9 _ _ (g8 _ _ e)) (bU e AO),by rw[q_,Yr,eo];rfl,⟨?_,λx l=>?_,Ys _ t.ma⟩,by rw[A,Jo],x8 _ (λx l=>Ys _ l) λ_ _ y hy=>?_,Y⟩
       ·refine Wz.mpr ⟨t.nd,QS,λu hu w hw z=>?_⟩;rw[Yi] at hw;rw[z,hw] at hu;exact no hu
       ·rcases Yq.mp l with l|l;·exact t.sd x l
        ·rw[Yi.mp l];exact .step (t.sd k (Yj EE)) ((RG ok).mpr ⟨c,mc,c1,c2,eo⟩)
       ·rw[eo] at hy;rw[←V.str.inj hy];exact Yg _ Ym
      ·refine⟨fQ,tl,_,_,_,_,g8.trans g9,g9 _ _ N,t,A,x8 _ (λ_ h=>h) λJ G y E=>?_,Y⟩;rw[J,Jc,d6 G,Jc,E] at cc;by_cases z:y∈fQ;·exact z
       ·exact absurd (by rw[Jn.mpr (λw=>z ((sE _ _).mp w))];rfl) cc
     ·grind
    ·rintro D H8 ⟨fQ,tl,p4,p5,p6,p7,g8,N,t,A,jF,rfl⟩;rw[Wc] at jF;have EE:fQ[r]?=O k:=by rw[A,Wl T];exact ek
     refine⟨_,Y,_,_,Y,Y,?_⟩;refine⟨⟨fQ,r+1,p4,p5,p6,p7,g8,N,t,by rw[A,Yl];exact l5 (Qdh _ T),λr' h' x l p hp=>?_,Y⟩,?_⟩
     ·by_cases z:r'=r
      ·rw[z,EE] at l;cases l;refine nh ((RG ok).mp hp) λc mc J G E=>?_;exact jF c mc J G p E
      ·rw[A,Wl (i2 h' (l5 T))] at l;rw[A];exact Ys _ (cl r' (eO (fI h') z) x l p hp)
     ·show b.ps.length+1-(r+1)<b.ps.length+1-r;omega
   ·have re:¬((r:Int)<(ks.length:Int)):=λz=>c (d6 z);exact dP _ _ ⟨ks,g6,W,up.all (λr' h'=>cl r' QO),_,_,_,_,_,Y⟩
  ·rintro D R Q1 Q2 mo ⟨v1,w1,v2,w2,v3,v4,w3,w4,v5,v6,w5,w6,v7,w7,h⟩;exact⟨v1,w1,v2,w2,v3,v4,w3,w4,v5,v6,w5,w6,v7,w7,mo _ _ h⟩
 rintro D R ⟨ks,g6,W,al,o3,o4,o5,o6,o7,rfl⟩;exact⟨_,Y,q m ks R g6 W al⟩
open Classical in
noncomputable def o_ (n:Nat) (b:BS) (c:Fc):af:=if c.k≠bj/\mF c.k (gu b.ps c.one) (gu b.ps c.aH.toNat)=a_ then"wrong side" else if qJ b.ps b.F c.k (aw b.ps c.one) (kV (bo b.ps c))=ar then"told twice" else if cT c.k=ar/\gX b (aw b.ps c.aH.toNat) (aw b.ps c.one) then"own elder" else if qH (b.F++[c]) n c.one=[] then"barred" else""
inductive UD(k:Z V)(H:Hp)(Q:VK)(E:XK):Prop
 |mk (g i e h:U) (a d:Z Int) (b:BS) (c:Fc) (r:k=[.ref g,.ref i,.ref e,.ref h]) (m:H g=O (.dK (iu b.ps))) (n:FL H b.ps i b.F) (l:iX H e a d) (o:H h=O (.tup [.str c.k,.str (aw b.ps c.one),kV (bo b.ps c)])) (ok:cL a d b) (p:fY a d b.ps.length c) (q:∀j,ah H j->Q (.str (o_ a.length b c)) j)
def Zi_(b:fY xs d m c)(a:c.k≠bj):c.k="mother"\/c.k="father"\/c.k="wed"\/c.k="sibling":=by
 have h:=b.wI a
 grind
noncomputable abbrev Mf:Z af:=["_law_sides","_law_facts","_law_turns_here","_law_fact_here"]
def A9:aQ ["_law_sides","_law_facts","_law_turns_here","_law_fact_here","_law_kind","_law_one","_law_other"] Mf (aI Hy):=.a9
open Classical in
theorem Zcv(F:aP K "_law_word" "_law_word" Hy f fd)(G_:HasFn P w K B I 1 "_law_sided" Di S2)(Ic:HasFn P w K B I 1 "_law_told" Md S1)(JQ:HasFn P w K B I 1 "_law_up" Me WX)(Ie:HasFn P w K B I 3 "_law_room" Mb UC)(bl:Bl B):aE P w K B I aO 4 f fd Mf UD:=by
 refine F.o A9 λs H d h=>?_;obtain⟨v,E,A,ff,y,ys,b,c,rfl,D,T,N,hc,ok,j,q⟩:=h;have hu:=d.oS;refine⟨_,(aq (mC (pv 3) (hZ (K:=K) (n:=3) Y Y (bq (a8 4 A9.nd) (bq (a8 5 A9.nd) (bq (a8 6 A9.nd) hV))))) (aq (aU (bG b_ (pv 4) aT) (aq (aU (kq (nG (bw d) (pv 5) (pv 0)) QU) (av (aK aT)) bb) (av (aU (PW.pt (pw_or (bG oY (pv 6) aF) (pw_or1 (bG Zjr (pv 6) (dF K bl (dy (bw d) (pv 2) aT (λ_ _=>Y))))))) (av (aK aT)) bb))) (aq (aU (kq (nG (bw d) (pv 4) (pv 2)) QU) (av (aK aT)) bb) (aq (aU (PW.pt (pw_or (kq (nG (bw d) (pv 5) (pv 0)) QU) (pw_or1 (kq (nG (bw d) (pv 6) (pv 0)) QU)))) (av (aK aT)) bb) (av (aU (jO (fh (aY G_ d (aa (pv 0) (aa (pv 4) (aa (pv 5) (aa (pv 6) ae))))))) (av (aK aT)) bb))))) (aq (aU (fh (aY Ic d (aa (pv 1) (aa (pv 4) (aa (pv 5) (aa (pv 6) ae)))))) (av (aK aT)) bb) (aq (aU (PW.pt (pw_and (fV (kH (K:=K) Y) (pv 4) (dq (aa aT (aa aT ae))) QU) (pw_and1 (fV (kH (K:=K) Y) (pv 5) (aY JQ d (aa (pv 1) (aa (pv 6) ae))) QU)))) (av (aK aT)) bb) (aq (aU (bG (Tx hu) (aY Ie d (aa (aZ yT (pv 1) (cO (aa (dq (aa (aZ B7 aF aF) (aa (pv 4) (aa (pv 5) (aa (pv 6) ae))))) ae))) (aa (pv 2) (aa (pv 5) ae)))) (cO ae)) (av (aK aT)) bb) (av (aK aT))))))),?_⟩;refine tI ?_;intros;have sz:(10000:Nat)<=sizeLine:=by rw[du];decide
 have one:=j.ok.one;have o:=qw ok.nm one;refine⟨_,Y,ff,_,Y,aC.of hc,Y,_,_,Y,aS ⟨_,_,Y,aS ⟨_,_,Y,aS ⟨Y,?_⟩⟩⟩⟩;dsimp only;refine kr (λσ H7=>ah H H7/\¬(c.k≠bj/\mF c.k (gu b.ps c.one) (gu b.ps c.aH.toNat)=a_)/\σ=[O (.ref v),O (.ref E),O (.ref A),O (.ref ff),O (.str c.k),O (.str (aw b.ps c.one)),O (kV (bo b.ps c))]) (λrh gk=>?_) ?_
 ·refine⟨_,Y,Y,_,Y,?_⟩;rw[d9];refine bC (λcc=>?_) (λcc=>?_)
  ·have J:c.k=bj:=eL cc;have r:kV (bo b.ps c)=.int c.aH:=by rw[oG J];rfl
   refine⟨_,Y,_,Y,v,_,Y,c_ D o,_,Y,bV (aX ?_)⟩;obtain⟨s0,s1⟩:=j.L3 J;refine kA (id N) λ_ _ _ u0 L _ _ _ x9=>?_;refine(Bt.or (a:=decide (c.aH<0)) (b:=decide ((((bK y.length).map V.int).length:Int)<=c.aH)) (λk i=>⟨_,Y,c.aH,0,r,Y,_,Y,i _ (ah.refl _)⟩) λH1 _ o k i=>⟨_,Y,_,Y,A,.ref u0,Y,c_ (o _ _ L) Y,u0,_,Y,.inr (aC.of (o _ _ x9)),c.aH,_,r,Y,_,Y,i _ (ah.refl _)⟩) _ λH2 m=>?_;rw[ij (Int.not_lt_of_ge s0),ij (by rw[Ya,fR];exact Int.not_le_of_gt s1)];exact bV (aX (gk _ _ ⟨m,λz=>z.1 J,Y⟩))
  ·have g:c.k≠bj:=λz=>cc (d6 z);have r:kV (bo b.ps c)=.str (aw b.ps c.aH.toNat):=by rw[iH g];rfl
   refine gR (N.get (j.wI g)) λtk u L vu _=>?_;have m:=qw ok.nm (j.ok.iV g).1.2;refine⟨_,Y,_,Y,A,_,Y,c_ L vu,_,Y,bV (aX ?_)⟩;refine(Bt.or (a:=a_) (b:=a_) (λk i=>⟨_,Y,_,Y,v,_,Y,c_ D o,_,Y,i _ (ah.refl _)⟩) λH1 _ o k i=>⟨_,Y,_,Y,v,O (.str (gu b.ps c.aH.toNat)),Y,(by rw[r];exact c_ (o _ _ D) m),_,Y,i _ (ah.refl _)⟩) _ λH2 m=>bV (aX ?_);refine⟨_,Y,_,Y,_,Y,_,Y,v,b.ps,c.k,c.one,c.aH.toNat,by rw[r];rfl,m _ _ D,ok.nm,one,(j.ok.iV g).1.2,Zi_ j g,λH3 g3=>⟨_,Y,?_⟩⟩;cases es:mF c.k (gu b.ps c.one) (gu b.ps c.aH.toNat) with
   |true=>exact bV (aX (gk _ _ ⟨m.trans g3,λz=>by rw[es] at z;exact absurd z.2 QD,Y⟩))
   |false=>
    refine dh ?_;have e:o_ y.length b c="wrong side":=bR ⟨g,es⟩;rw[e] at q;exact q _ (m.trans g3)
 rintro σ H7 ⟨g7,nw,rfl⟩;refine⟨_,Y,_,Y,_,Y,_,Y,E,b.ps,b.F,c.k,aw b.ps c.one,kV (bo b.ps c),Y,T.same g7,yZ _,λH8 g8=>⟨_,Y,?_⟩⟩;have N7:=g7.trans g8;unfold o_ at q;rw[bt nw] at q;refine bC (λct=>?_) (λct=>aX ?_)
 ·rw[bR ct] at q;exact q _ N7
 rw[bt ct] at q;refine(Bt.and (b:=decide (gX b (aw b.ps c.aH.toNat) (aw b.ps c.one))) (Vt.test (Vt.LA (k:=c.k) (Vt.var Y))) λH9 ip X k i=>?_) _ λH9 X=>?_
 ·have g:c.k≠bj:=λz=>by rw[z] at ip;exact absurd ip QK
  have r:kV (bo b.ps c)=.str (aw b.ps c.aH.toNat):=by rw[iH g];rfl
  refine⟨_,Y,_,Y,_,Y,E,y,ys,b,aw b.ps c.aH.toNat,by rw[r];rfl,T.same (N7.trans X),ok,wq (j.ok.iV g).1.2,λp ks H' g' R al=>⟨p,_,Y,.inl (aj.of R),Y,yI _,_,Y,?_⟩⟩;have e:eW (V.str (aw b.ps c.one)) (ks.map V.str)=decide (gX b (aw b.ps c.aH.toNat) (aw b.ps c.one)):=by
   rw[Wn,hU,sE,al]
  rw[e];exact i _ g'
 have G:=N7.trans X;refine bC (λx=>?_) (λx=>aX ?_)
 ·rw[Wu,hU] at x;rw[bR x] at q;exact q _ G
 rw[Wu,hU] at x;rw[bt x] at q;refine bh (T.same G) λas cW eZ=>?_;have al:=dk eZ;have fl:=ok.fl;have Fl:b.F.length=b.fs.length:=Ya _;refine⟨_,Y,_,_,Y,Y,_,Y,_,Y,_,Y,by show 4<=sizeLine;decide,λt Ht nt gt N8=>⟨by show 1<=sizeLine;decide,λl Hl nl W hl=>⟨E,l,_,_,Y,Y,W _ _ (gt _ _ cW),hl,by rw[Ya];show _+1<=_;omega,λp Hp np gp R=>⟨_,Y,_,Y,?_⟩⟩⟩⟩;have N9:=(gt.trans W).trans gp;refine⟨p,A,b.ps,y,ys,b.F++[c],c.one,Y,⟨as++[t],by rw[R,Yr];rfl,kj (F:=AN Hp b.ps) ⟨-1,gp _ _ (W _ _ N8)⟩ (_L.Paired.bN eZ λ_ _ ⟨z,e⟩=>⟨z,N9 _ _ e⟩)⟩,N.same (G.trans N9),ok.nm,λc' d_=>?_,ok.gd.2.2.2.2,by have:=ok.m;omega,by rw[Yl];show _+1<=64;omega,one,λpr Hr npr gr Q=>⟨by show 0<=sizeLine;decide,λe He ne ge he=>⟨pr,e,_,[],Y,Y,aj.of (ge _ _ Q),aj.of he,_,Y,?_⟩⟩⟩
 ·rcases Yq.mp d_ with h|h
  ·obtain⟨pp,N_,rfl⟩:=Yk.mp (show c'∈b.fs.map (·.2) from h);exact ok.fg pp N_
  ·rw[Yi.mp h];exact j
 have gE:=(G.trans N9).trans (gr.trans ge);refine bC (λcr=>?_) (λcr=>aX ?_)
 ·rw[bR (eL cr)] at q;exact q _ gE
 ·rw[bt (λz=>cr (d6 z))] at q;exact q _ gE
def S3(a b:af):(_L.sr a b=a/\_L.su a b=b)\/(_L.sr a b=b/\_L.su a b=a):=by
 unfold _L.sr _L.su;by_cases d:b.cps.toList<a.cps.toList;·grind
 ·rw[bt d];by_cases c:a.cps.toList<b.cps.toList;·grind
  ·rw[bt c];have e:a=b:=by
    cases a with|mk ca=>cases b with|mk g=>
     grind
   grind
theorem RH{b:BS}(h:qJ b.ps b.F c.k (aw b.ps c.one) (kV (bo b.ps c))=a_):gn b.ps c∉b.keys/\(cT c.k=ar->[.inr c.k,.inr (aw b.ps c.one)]∉(cD b.ps b.fs).map (·.1))/\¬(c.k="sibling"/\V.str (aw b.ps c.one)=kV (bo b.ps c)):=by
 unfold qJ at h;rw[Bool.or_eq_false_iff] at h;refine hI h λJ E=>?_;have no:∀p∈b.fs,nW b.ps c.k (aw b.ps c.one) (kV (bo b.ps c)) p.2=a_:=λp k=>by
  have:=Xq.mp J p.2 (Yk.mpr ⟨p,k,Y⟩);exact Jn.mpr this
 have s:∀{u v:Key},u=v->kV u=kV v:=λe=>by rw[e]
 refine⟨λH=>?_,λG k=>?_,λ⟨g,a⟩=>?_⟩
 ·obtain⟨p,k,e⟩:=Yk.mp H;have n:=no p k;have l:p.2.k=c.k->((aw b.ps p.2.one=aw b.ps c.one/\bo b.ps p.2=bo b.ps c)\/(c.k="sibling"/\bo b.ps p.2=.inr (aw b.ps c.one)/\Sum.inr (aw b.ps p.2.one)=bo b.ps c))->False:=λg a=>by
   have:nW b.ps c.k (aw b.ps c.one) (kV (bo b.ps c)) p.2=ar:=by
    unfold nW;rw[d6 g,Jc];rcases a with⟨a,d⟩|⟨a,d,L⟩;·rw[d6 a,d6 (s d)];rfl
    ·rw[d6 a,d6 (show kV (bo b.ps p.2)=.str (aw b.ps c.one) by rw[d];rfl),d6 (show V.str (aw b.ps p.2.one)=kV (bo b.ps c) by rw[←L];rfl)];simp
   rw[this] at n;cases n
  unfold gn at e;cases j:bo b.ps p.2 with
  |inl t=>
   cases i:bo b.ps c with
   |inl o=>
    rw[j,i] at e;injection e with g e;injection e with a e;injection e with d _;exact l (We g) (.inl ⟨We a,by rw[j,i,d]⟩)
   |inr o=>
    rw[j,i] at e;unfold keyOf at e;dsimp at e;split at e
    ·injection e with g e;injection e with a e;injection e with d _;cases d
    ·injection e with g e;injection e with a e;injection e with d _;cases d
  |inr t=>
   cases i:bo b.ps c with
   |inl o=>
    rw[j,i] at e;unfold keyOf at e;dsimp at e;split at e
    ·injection e with g e;injection e with a e;injection e with d _;cases d
    ·injection e with g e;injection e with a e;injection e with d _;cases d
   |inr o=>
    rw[j,i] at e;have r:p.2.k=c.k:=by
     unfold keyOf at e;dsimp at e;split at e<;>split at e<;>(injection e with g _;exact We g)
    unfold keyOf at e;dsimp at e;rw[r] at e;by_cases m:c.k="sibling"
    ·rw[bR m,bR m] at e;injection e with _ e;injection e with a e;injection e with d _;have a:=We a;have d:=We d;refine l r ?_;rcases S3 (aw b.ps p.2.one) t with⟨A,z⟩|⟨A,z⟩<;>rcases S3 (aw b.ps c.one) o with⟨y,x⟩|⟨y,x⟩<;>rw[A,y] at a<;>rw[z,x] at d;·exact .inl ⟨a,by rw[j,i,d]⟩
     ·exact .inr ⟨m,by rw[j,d],by rw[i,a]⟩
     ·exact .inr ⟨m,by rw[j,a],by rw[i,d]⟩
     ·exact .inl ⟨d,by rw[j,i,a]⟩
    ·rw[bt m,bt m] at e;injection e with _ e;injection e with a e;injection e with d _;exact l r (.inl ⟨We a,by rw[j,i,d]⟩)
 ·obtain⟨q,D,e⟩:=Yk.mp k;unfold cD at D;obtain⟨p,k,rfl⟩:=Yk.mp D;obtain⟨F,N⟩:=Y4.mp k;have n:=no p F;injection e with g e;injection e with a _;unfold nW at n;rw[d6 (We g),d6 (We a),G] at n;simp at n
 ·rw[d6 g,d6 a] at E;cases E
def Zez(e:cL xs i b)(o:fY xs i b.ps.length c)(h:qH (b.F++[c]) xs.length c.one≠[]):∃f,pR xs.length b.ps.length f/\∀c'∈b.F++[c],gS f c':=by
 obtain⟨a,n⟩:=List.exists_mem_of_ne_nil _ h;obtain⟨_,g,p,m⟩:=Zep.mp n;refine bh e.lv λt inr j=>?_;have l:∀c'∈b.F++[c],fG xs.length b.ps.length c':=λc' d=>by
  rcases Yq.mp d with h|h
  ·obtain⟨k,q,rfl⟩:=Yk.mp h;exact(e.fg k q).ok
  ·rw[Yi.mp h];exact o.ok
 obtain⟨f,s,r,_⟩:=ZbD l inr (λc' d=>by
  rcases Yq.mp d with h|h;·grind
  ·rw[Yi.mp h];exact .inl Y) p m
 grind
def S4{a:Z Int}(h:o_ a.length b c=""):¬(c.k≠bj/\mF c.k (gu b.ps c.one) (gu b.ps c.aH.toNat)=a_)/\qJ b.ps b.F c.k (aw b.ps c.one) (kV (bo b.ps c))=a_/\¬(cT c.k=ar/\gX b (aw b.ps c.aH.toNat) (aw b.ps c.one))/\qH (b.F++[c]) a.length c.one≠[]:=by
 unfold o_ at h;by_cases g:c.k≠bj/\mF c.k (gu b.ps c.one) (gu b.ps c.aH.toNat)=a_;·rw[bR g] at h;exact absurd h QK
 rw[bt g] at h;by_cases e:qJ b.ps b.F c.k (aw b.ps c.one) (kV (bo b.ps c))=ar;·rw[bR e] at h;exact absurd h QK
 rw[bt e] at h;by_cases d:cT c.k=ar/\gX b (aw b.ps c.aH.toNat) (aw b.ps c.one);·rw[bR d] at h;exact absurd h QK
 rw[bt d] at h;by_cases i:qH (b.F++[c]) a.length c.one=[];·rw[bR i] at h;exact absurd h QK
 grind
def JR(g:cL xs d b)(e:fY xs d b.ps.length c)(a:b.fs.length<63)(h:o_ xs.length b c=""):C7 xs d b c:=by
 refine d7 (S4 h) λ_ l _ k=>?_;refine c7 (RH l) λj i _=>?_;exact⟨e,j,i,Zez g e k,a⟩
def Zf4(i:cL xs d b)(o:fY xs d b.ps.length c)(a:b.fs.length<63)(h:o_ xs.length b c="")(e:c.k≠bj):Ly xs d b c:=by
 refine d7 (S4 h) λt n m _=>?_;refine c7 (RH n) λs k j=>?_;have g:=iH (ps:=b.ps) e;refine⟨JR i o a h,e,?_,⟨k,λ_=>⟨?_,λ⟨q,p⟩=>j ⟨q,by rw[g,p];rfl⟩⟩⟩,λl r=>m ⟨l,r⟩⟩;·grind
 ·rwa[←g]
noncomputable def oz(a:bI):Z V:=a.map λp=>.str p.1
def Kq(a:bI):(oz a).length=a.length:=Ya _
def Zja(b:0<=z)(h:z<(a.length:Int)):dN (oz a) z=O (.str (aw a z.toNat)):=by
 obtain⟨k,rfl⟩:∃k:Nat,z=(k:Int):=⟨z.toNat,(nO (wh b))⟩;refine dM ?_;unfold oz aw
 grind
def zm{n:Nat}(h:0<n):0<=z % (n:Int)/\z % (n:Int)<(n:Int):=⟨W7 _ QO,W0 _ QO⟩
def Vt.Kr(d:σ[i]?=O (O (.ref nl)))(c:H nl=O (.lst (oz a)))(g:0<a.length)(n:Vt e σ H (.int z)):Vt (jZ (wK K) (gP i) (jZ (rI (λ_ j=>0<j) λi j=>V.int (i % j)) e (n5 (zG K) (h_ (gP i) jr)))) σ H (.str (aw a (z % (a.length:Int)).toNat)):=λk h=>⟨_,d,n _ λo b=>by
 have l:=Kq a;have m:=zm (z:=z) g;exact⟨_,d,nl,_,Y,.inl (aj.of (b _ _ c)),_,_,Y,Y,QO,nl,_,_,_,Y,Y,aj.of (b _ _ c),by rw[l];exact Zja m.1 m.2,h o b⟩⟩
inductive UE(e:Z V)(H:Hp)(Q:VK)(E:XK):Prop
 |mk (c b:U) (a:bI) (z:Int) (s:af) (m:e=[.ref c,.ref b,.int z,.str s]) (l:H c=O (.lst (oz a))) (k:H b=O (.dK (iu a))) (j:(a.map (·.1)).Nodup) (h:0<a.length) (g:a.length<=100) (q:∀i,i<a.length->∀d,ah H d->Q (.str (aw a i)) d)
def Zf5(a b:Z Int)(h:0<=d/\d<4):∃(k:af) (c:Z Int) (w:af),dN [V.str "mother",V.str "father",V.str "wed",V.str "sibling"] d=O (.str k)/\(k,c)∈r9 a b/\dN [V.str "woman",V.str "man",V.str "woman",V.str ""] d=O (.str w):=by
 have:d=0\/d=1\/d=2\/d=3:=QO
 rcases this with rfl|rfl|rfl|rfl;·exact⟨_,inv a,_,Y,QS,Y⟩
 ·exact⟨_,inv (bQ a b),_,Y,QS,Y⟩
 ·exact⟨_,b,_,Y,QS,Y⟩
 ·exact⟨_,bK a.length,_,Y,QS,Y⟩
inductive UG(l:Z V)(H:Hp)(Q:VK)(E:XK):Prop
 |mk (j i k:U) (a:bI) (b h:Z Int) (p o n m e:Int) (z:l=[.ref j,.ref i,.ref k,.int (b.length:Int)]) (v:H j=O (.lst (oz a))) (u:H i=O (.dK (iu a))) (t:(a.map (·.1)).Nodup) (s:0<a.length) (r:a.length<=100) (hd:H k=O (.lst ([p,o,n,m,e].map V.int))) (y:0<=e/\e<4) (x:oZ b h) (q:∀c,fY b h a.length c->∀(d:U) (g:Hp),H d=aG->ah H g->g d=O (.tup [.str c.k,.str (aw a c.one),kV (bo a c)])->Q (.ref d) g)
noncomputable abbrev Mg:Z af:=["_law_names","_law_sides","_law_at","_law_side"]
def OU:aQ ["_law_names","_law_sides","_law_at","_law_side","_law_k"] Mg (aI Hz):=.a9
def Zcw(F:aP K "_law_pick" "_law_pick" Hz f fd)(l:Bl B):aE P w K B I aO 1 f fd Mg UE:=by
 refine F.o OU λs H R h=>?_;obtain⟨r,p,d,z,o,rfl,v,Q,N,u,pm,q⟩:=h;refine⟨_,(aq (dI hY Y (oF Y l.jM (aa (dF K l (pv 0)) ae)) (a8 4 OU.nd) (av (aU (PW.pt (pw_or (bG b_ (pv 3) aT) (pw_or1 (bG b_ (dy (bw R) (pv 1) (bc (iL K) (pv 0) (aZ eG (aZ fq (pv 2) (pv 4)) (dF K l (pv 0)))) (λ_ _=>Y)) (pv 3))))) (av (aK (bc (iL K) (pv 0) (aZ eG (aZ fq (pv 2) (pv 4)) (dF K l (pv 0)))))) bb))) (av (aK (bc (iL K) (pv 0) (aZ eG (pv 2) (dF K l (pv 0))))))),?_⟩;have ya:=Kq d;have at_:∀z:Int,(z % (d.length:Int)).toNat<d.length:=λz=>by have:=zm (z:=z) u;omega
 refine fW (λc b=>ah H b/\∃g:bS V,c=[O (.ref r),O (.ref p),O (.int z),O (.str o),g]) (λkM T=>?_) ?_
 ·refine⟨_,Y,r,_,Y,.inl (aj.of v),_,Y,QO,QO,yD (lo:=0) (n:=(((oz d).length:Nat):Int).toNat) (λ_ c b=>ah H b/\∃g:bS V,c=[O (.ref r),O (.ref p),O (.int z),O (.str o),g]) ⟨ah.refl _,aG,Y⟩ ?_ (λc b h=>T _ _ h)⟩;rintro j c b hj ⟨a,g,rfl⟩;rw[An];have J:∀m,ah b m->Vt _ _ m _:=λm t=>Vt.Kr (K:=K) (i:=0) (σ:=[O (.ref r),O (.ref p),O (.int z),O (.str o),O (.int (j:Int))]) (z:=z+(j:Int)) (e:=jZ (sI λi j=>V.int (i+j)) (gP 2) (gP 4)) Y (t _ _ (a _ _ v)) u (λk A=>⟨_,Y,_,Y,_,_,Y,Y,A _ (ah.refl _)⟩);refine(Bt.or (Vt.test (Vt.eq (Vt.var Y) (λ_ _=>Vt.c) Y)) λm _ t=>Vt.test (Vt.eq (x:=.str (gu d ((z+(j:Int)) % (d.length:Int)).toNat)) (y:=.str o) (λk A=>⟨_,Y,J m t _ λX L=>⟨p,_,Y,c_ (L _ _ (t _ _ (a _ _ Q))) (qw N (at_ _)),A X L⟩⟩) (λ_ _=>Vt.var Y) Y)) _ λW E=>?_;refine bC (λ_=>?_) (λ_=>aX ⟨a.trans E,_,Y⟩);exact J W E _ λG D=>q _ (at_ _) G ((a.trans E).trans D)
 rintro c b ⟨a,g,rfl⟩;exact Vt.Kr (K:=K) (i:=0) (z:=z) Y (a _ _ v) u (Vt.var Y) _ λG D=>q _ (at_ _) G (a.trans D)
noncomputable abbrev Mh:Z af:=["_law_names","_law_sides","_law_drawn","_law_size"]
def yv:aQ ["_law_names","_law_sides","_law_drawn","_law_size","_law_kind","_law_one","_law_want"] Mh (aI HH):=.a9
def Zcx(F:aP K "_law_fact" "_law_fact" HH f fd)(Bi:HasFn P w K B I 1 "_law_pick" Mg UE)(bl:Bl B):aE P w K B I aO 2 f fd Mh UG:=by
 refine F.o yv λs H N h=>?_;obtain⟨r,p,b,c,d,ys,d0,y,d2,d3,d4,rfl,t,L,J,l,E,hd,b4,R,q⟩:=h;refine⟨_,(aq (bM 4 yv.nd (bc (iL K) (cO (aa aT (aa aT (aa aT (aa aT ae))))) (bc (iL K) (pv 2) aF))) (aq (bM 5 yv.nd (bc (iL K) (pv 0) (aZ eG (bc (iL K) (pv 2) aF) (dF K bl (pv 0))))) (aq (aU (bG Lb (bc (iL K) (pv 2) aF) aF) (av (aK (dq (aa aT (aa (pv 5) (aa (aZ eG (bc (iL K) (pv 2) aF) (pv 3)) ae)))))) bb) (aq (aU (bG b_ (pv 4) aT) (av (bM 5 yv.nd (aY Bi N (aa (pv 0) (aa (pv 1) (aa (bc (iL K) (pv 2) aF) (aa aT ae))))))) bb) (aq (bM 6 yv.nd (bc (iL K) (cO (aa aT (aa aT (aa aT (aa aT ae))))) (bc (iL K) (pv 2) aF))) (av (aK (dq (aa (pv 4) (aa (pv 5) (aa (aY Bi N (aa (pv 0) (aa (pv 1) (aa (bc (iL K) (pv 2) aF) (aa (pv 6) ae))))) ae))))))))))),?_⟩;refine tI ?_;intros;have sz:(10000:Nat)<=sizeLine:=by rw[du];decide
 refine pk (Zf5 d ys b4) λk tn wt ek e ew=>?_;have at_:∀z:Int,(z % (c.length:Int)).toNat<c.length:=λz=>by have:=zm (z:=z) l;omega
 refine ng (id R) λ_ _ _ l2 l8=>?_;have WY:(0:Int)<(d.length:Int):=QO
 refine bT ?_;refine⟨by show 4<=sizeLine;decide,λkl H1 ZY m sP=>⟨_,Y,b,_,_,_,Y,Y,aj.of (m _ _ hd),Y,kl,_,_,_,Y,Y,aj.of sP,ek,?_⟩⟩;refine bT ?_;have kO:=m _ _ t;refine Vt.Kr (K:=K) (i:=0) (z:=y) Y kO l (λkk e=>⟨_,Y,b,_,_,_,Y,Y,aj.of (m _ _ hd),Y,e _ (ah.refl _)⟩) _ λH2 g2=>?_;have a:=m.trans g2;refine⟨_,Y,b,_,_,_,Y,Y,aj.of (a _ _ hd),Y,_,_,Y,Y,_,Y,bC (λ_=>?_) (λ_=>aX ?_)⟩
 ·refine⟨_,Y,_,Y,b,_,_,_,Y,Y,aj.of (a _ _ hd),Y,_,Y,_,_,Y,Y,WY,by show 3<=sizeLine;decide,λx H3 A v o=>?_⟩;have mm:=zm (z:=d3) (n:=d.length) (i2 (rn _) l2);exact q ⟨bj,(y % (c.length:Int)).toNat,d3 % (d.length:Int),[]⟩ ⟨⟨at_ _,λz=>absurd Y z⟩,.inl Y,λ_=>mm⟩ x H3 (a.free A) (a.trans v) (by rw[o,oG Y];rfl)
 have G:k≠bj:=λz=>Zdn (z▸e);refine kr (λD H6=>ah H H6/\∃i:Nat,i<c.length/\D=[O (.ref r),O (.ref p),O (.ref b),O (.int (d.length:Int)),O (.str k),O (.str (aw c i)),aG]) (λrh Q=>?_) ?_
 ·refine⟨_,Y,Y,_,Y,bC (λ_=>?_) (λ_=>aX (Q _ _ ⟨a,_,at_ _,Y⟩))⟩;refine⟨_,Y,_,Y,_,Y,b,_,_,_,Y,Y,aj.of (a _ _ hd),Y,r,p,c,y,"man",Y,a _ _ t,a _ _ L,J,l,E,λi u H3 v=>aS (Q _ _ ⟨a.trans v,i,u,Y⟩)⟩
 rintro D H6 ⟨X,i,u,rfl⟩;refine bT ?_;refine⟨by show 4<=sizeLine;decide,λwl H7 ZH W z5=>⟨_,Y,b,_,_,_,Y,Y,aj.of (W _ _ (X _ _ hd)),Y,wl,_,_,_,Y,Y,aj.of z5,ew,?_⟩⟩;have g:=X.trans W;refine⟨_,Y,_,Y,_,Y,_,Y,_,Y,b,_,_,_,Y,Y,aj.of (g _ _ hd),Y,_,Y,r,p,c,d2,wt,Y,g _ _ t,g _ _ L,J,l,E,λj hj H8 T=>⟨by show 3<=sizeLine;decide,λx H9 A g9 o=>?_⟩⟩;obtain⟨ft,tl⟩:=ZfT R e;exact q ⟨k,i,(j:Int),tn⟩ ⟨⟨u,λ_=>⟨⟨by show(0:Int)<=(j:Int);exact Al _,hj⟩,ft,tl⟩⟩,.inr e,λz=>absurd z G⟩ x H9 (g.free (T.free A)) ((g.trans T).trans g9) (by rw[o,iH G];rfl)
noncomputable def kg(n:Nat):Z Nat:=if n<10 then[48+n] else[48+n/10,48+n % 10]
noncomputable def lV(n:Nat):af:=.ofString (toString (n:Int))
def Ks:∀n<61,(lV n).cps.toList=kg n:=QK
noncomputable def fZ(k z:Nat):Nat:=if z/3 % 3=1 then 9 else(k*z+z) % 5
noncomputable def lW(m:Nat):af:=Txt.mul "q" (m:Int)
def Zhx:∀m<10,(lW m).cps.toList=List.replicate m 113:=QK
noncomputable def vv:af:="abcdefghijklmnopqrstuvwxyz"
def K4:∀i<26,dN vv.cps.toList ((i:Nat):Int)=O (97+i):=QK
noncomputable def dB(i:Nat):af:=⟨#[97+i]⟩
def dD(z k:Nat):af:=if z % 3=0 then(dB ((k*7+z) % 26)++lV (k/26))++lW (fZ k z) else if z % 3=1 then(dB (z % 26)++lW (fZ k z))++lV ((k*17+z) % 61) else(dB (z % 26)++lV ((k*17+z) % 61))++lW (fZ k z)
def K5(k z:Nat):fZ k z<10:=by
 unfold fZ;split<;>omega
def wu(a b:af):(a++b).cps.toList=a.cps.toList++b.cps.toList:=Pw
def Bw(z k:Nat)(a:k<60):(dD z k).cps.toList=if z % 3=0 then[97+(k*7+z) % 26,48+k/26]++List.replicate (fZ k z) 113 else if z % 3=1 then(97+z % 26)::(List.replicate (fZ k z) 113++kg ((k*17+z) % 61)) else(97+z % 26)::(kg ((k*17+z) % 61)++List.replicate (fZ k z) 113):=by
 have f:=Zhx _ (K5 k z);unfold dD;split
 ·rw[wu,wu,f,Ks _ QO];unfold kg;rw[bR QO];rfl
 split
 ·rw[wu,wu,f,Ks _ (lL _ (by decide))];rfl
 ·rw[wu,wu,f,Ks _ (lL _ (by decide))];rfl
noncomputable def Oa(l:Z Nat):Nat:=l.foldl (λa c=>10*a+(c-48)) 0
def CF:Oa (kg n)=n:=by
 unfold kg;split;·exact(DT _).trans (ZZ _ _)
 ·show 10*(10*0+(48+n/10-48))+(48+n % 10-48)=n;rw[ZZ,ZZ,Nat.mul_zero,DT,Nat.div_add_mod]
def UH(h:n<61):∀c∈kg n,48<=c/\c<58:=by
 unfold kg
 grind
def Bj(h:n<61):(kg n).filter (λc=>decide (c<58))=kg n:=List.filter_eq_self.mpr λc a=>d6 (UH h c a).2
def Bk(m:Nat):(List.replicate m 113).filter (λc=>decide (c<58))=[]:=by
 grind
def ZeA(l:k<60)(j:k'<60)(e:dD z k=dD z k'):k=k':=by
 have e:(dD z k).cps.toList=(dD z k').cps.toList:=by rw[e]
 rw[Bw z k l,Bw z k' j] at e;by_cases i:z % 3=0
 ·rw[bR i,bR i] at e;injection e with m e;injection e with a _;omega
 rw[bt i,bt i] at e;have b:(k*17+z) % 61=(k'*17+z) % 61->k=k':=λh=>QO
 by_cases g:z % 3=1
 ·rw[bR g,bR g] at e;injection e with _ e;have a:=eJ (List.filter λc=>decide (c<58)) e;rw[Ws,Ws,Bk,Bk,Bj (lL _ (by decide)),Bj (lL _ (by decide)),YA,YA] at a;have d:=eJ Oa a;rw[CF,CF] at d;exact b d
 ·rw[bt g,bt g] at e;injection e with _ e;have a:=eJ (List.filter λc=>decide (c<58)) e;rw[Ws,Ws,Bk,Bk,Bj (lL _ (by decide)),Bj (lL _ (by decide)),Y8,Y8] at a;have d:=eJ Oa a;rw[CF,CF] at d;exact b d
def UI:∀i<26,gW qv (97+i)=ar/\gW nK (97+i)=ar:=QK
def UJ:∀i<10,gW nK (48+i)=ar:=QK
def Zlm:gW nK 113=ar:=QK
def Pt(l:k<60):uq (dD z k)=ar/\(dD z k).length<=12:=by
 have q:=K5 k z;have b:(List.replicate (fZ k z) 113).all (gW nK)=ar:=Wm.mpr λc d=>by rw[List.eq_of_mem_replicate d];exact Zlm
 have s:∀n,n<61->(kg n).all (gW nK)=ar/\(kg n).length<=2:=λn j=>by
  refine⟨Wm.mpr λc d=>?_,?_⟩
  ·have:=UH j c d;have e:=UJ (c-48) QO
   grind
  ·unfold kg;split<;>simp
 have len:(dD z k).length=(dD z k).cps.toList.length:=Y;have c:=Bw z k l;have a:∃(i:Nat) (r:Z Nat),i<26/\(dD z k).cps.toList=(97+i)::r/\r.length<=11/\r.all (gW nK)=ar:=by
  by_cases m:z % 3=0
  ·rw[bR m] at c;refine⟨_,_,(lL _ (by decide)),c,?_,?_⟩
   ·show((48+k/26)::List.replicate (fZ k z) 113).length<=11
    grind
   ·show((48+k/26)::List.replicate (fZ k z) 113).all (gW nK)=ar;rw[Js,b,UJ _ QO];rfl
  grind
 refine d5 a λi r g e p o=>?_;have h:(dD z k).length<=12:=by
  grind
 refine⟨?_,h⟩;rw[Qo e,d6 h,(UI i g).1,Js,(UI i g).2,o];rfl
def Zhy:∀m<10,(lW m).length<=9:=QK
def S5:∀n<61,(lV n).length<=2:=QK
def Ku(a b:af):(a++b).length=a.length+b.length:=XM
inductive UK(a:Z V)(H:Hp)(Q:VK)(E:XK):Prop
 |mk (k z:Nat) (d:a=[.int (k:Int),.int (z:Int)]) (c:k<60) (b:z<97) (q:Q (.str (dD z k)) H)
noncomputable abbrev Mi:Z af:=["_law_k","_law_salt"]
def yw:aQ ["_law_k","_law_salt","_law_letters","_law_fill","_law_number"] Mi (aI Hw):=.a9
def Zcy(F:aP K "_law_name" "_law_name" Hw f fd)(t:Bl B):aE P w K B I aO 1 f fd Mi UK:=by
 refine F.o yw λs H R h=>?_;obtain⟨k,z,rfl,W,Q,q⟩:=h;refine⟨_,(aq (bM 2 yw.nd aT) (aq (bM 3 yw.nd (aZ Kh aT (aZ eG (aZ fq (aZ oR (pv 0) (pv 1)) (pv 1)) aF))) (aq (bM 4 yw.nd (aZ eG (aZ fq (aZ oR (pv 0) aF) (pv 1)) aF)) (aq (aU (bG b_ (aZ eG (aZ BM (pv 1) aF) aF) aF) (av (bM 3 yw.nd (aZ Kh aT aF))) bb) (aq (aU (bG b_ (aZ eG (pv 1) aF) aF) (av (aK (aZ qh (aZ qh (bc t8 (pv 2) (aZ eG (aZ fq (aZ oR (pv 0) aF) (pv 1)) aF)) (fJ Ge Y t.zp za (aa (aZ BM (pv 0) aF) ae))) (pv 3)))) bb) (aq (aU (bG b_ (aZ eG (pv 1) aF) aF) (av (aK (aZ qh (aZ qh (bc t8 (pv 2) (aZ eG (pv 1) aF)) (pv 3)) (fJ Ge Y t.zp za (aa (pv 4) ae))))) bb) (av (aK (aZ qh (aZ qh (bc t8 (pv 2) (aZ eG (pv 1) aF)) (fJ Ge Y t.zp za (aa (pv 4) ae))) (pv 3)))))))))),?_⟩;have G:zA (k:Int) (z:Int):=.inl ⟨QO,QO⟩;have A:∀j:Int,zA (k:Int) j:=λj=>.inl ⟨QO,QO⟩;have J:LH (z:Int) 3:=⟨(by decide),(by decide)⟩;have p:LH (k:Int) 26:=⟨(by decide),(by decide)⟩;have sz:(10000:Nat)<=sizeLine:=by rw[du];decide
 have y:((k:Int)*17+(z:Int)) % 61=(((k*17+z) % 61:Nat):Int):=Y
 have b:((k:Int)*7+(z:Int)) % 26=(((k*7+z) % 26:Nat):Int):=Y
 have x:(z:Int) % 26=((z % 26:Nat):Int):=Y
 have o:(k:Int)/26=((k/26:Nat):Int):=Y
 have E:((k:Int)*(z:Int)+(z:Int)) % 5=(((k*z+z) % 5:Nat):Int):=by rw[Int.natCast_emod,Zj,Int.natCast_mul];rfl
 refine setC ?_;refine bT ?_;refine⟨_,Y,_,Y,_,_,Y,Y,G,_,Y,_,_,Y,Y,_,_,Y,Y,(by decide),"q",(k*z+z) % 5,Y,eJ V.int E,QK,QO,?_⟩;refine bT ?_;refine⟨_,Y,_,_,Y,Y,A _,_,Y,_,_,Y,Y,_,_,Y,Y,(by decide),?_⟩;refine kr (λu D=>D=H/\u=[O (.int (k:Int)),O (.int (z:Int)),O (.str vv),O (.str (lW (fZ k z))),O (.int (((k*17+z) % 61:Nat):Int))]) (λL v=>?_) ?_
 ·refine⟨_,Y,_,_,Y,Y,J,_,_,Y,Y,(by decide),Y,_,Y,bC (λc=>?_) (λc=>aX ?_)⟩
  ·have c:=V.int.inj (eL c);have r:z/3 % 3=1:=QO
   have m:fZ k z=9:=bR r;refine⟨"q",9,Y,Y,QK,(by decide),aS (v _ _ ⟨Y,?_⟩)⟩;rw[m,←y];rfl
  ·have r:¬z/3 % 3=1:=λw=>c (d6 (eJ V.int QO));have m:fZ k z=(k*z+z) % 5:=bt r;refine v _ _ ⟨Y,?_⟩;rw[m,←y];rfl
 rintro u D ⟨rfl,rfl⟩;have N:=Zhy _ (K5 k z);have d:vv.length<=sizeLine:=Yy (show vv.length<=100 by decide+kernel) (by decide);have g:∀n:Nat,n<61->(n:Int).natAbs.log2<1920:=λn T=>Ji (Nat.log2_le_self _) QO;refine⟨_,Y,_,_,Y,Y,(by decide),Y,_,Y,bC (λc=>?_) (λc=>aX ?_)⟩
 ·have a:z % 3=0:=by have:=V.int.inj (eL c);omega
  have ld:=S5 (k/26) QO;refine⟨_,Y,_,Y,_,_,Y,Y,A _,_,Y,_,_,Y,Y,_,_,Y,Y,(by decide),vv,_,_,Y,eJ V.int b,d,K4 _ (lL _ (by decide)),_,Y,_,_,Y,Y,p,((k/26:Nat):Int),eJ (λi=>[V.int i]) o,g _ QO,_,_,Y,Y,?_,_,Y,_,_,Y,Y,?_,?_⟩
  ·show 1+(lV (k/26)).length<=sizeLine;omega
  ·show(dB ((k*7+z) % 26)++lV (k/26)).length+(lW (fZ k z)).length<=sizeLine;rw[Ku];show 1+_+_<=_;omega
  ·have e:dD z k=(dB ((k*7+z) % 26)++lV (k/26))++lW (fZ k z):=bR a;rw[e] at q;exact q
 have a:¬z % 3=0:=λw=>c (d6 (eJ V.int QO));have ld:=S5 ((k*17+z) % 61) (lL _ (by decide));refine⟨_,Y,_,_,Y,Y,(by decide),Y,_,Y,bC (λc=>?_) (λc=>aX ?_)⟩
 ·have l:z % 3=1:=by have:=V.int.inj (eL c);omega
  refine⟨_,Y,_,Y,_,_,Y,Y,(by decide),vv,_,_,Y,eJ V.int x,d,K4 _ (lL _ (by decide)),_,Y,_,_,Y,Y,?_,_,Y,_,Y,g _ (lL _ (by decide)),_,_,Y,Y,?_,?_⟩
  ·show 1+(lW (fZ k z)).length<=sizeLine;omega
  ·show(dB (z % 26)++lW (fZ k z)).length+(lV ((k*17+z) % 61)).length<=sizeLine;rw[Ku];show 1+_+_<=_;omega
  ·have e:dD z k=(dB (z % 26)++lW (fZ k z))++lV ((k*17+z) % 61):=(bt a).trans (bR l);rw[e] at q;exact q
 have l:¬z % 3=1:=λw=>c (d6 (eJ V.int QO));refine⟨_,Y,_,Y,_,_,Y,Y,(by decide),vv,_,_,Y,eJ V.int x,d,K4 _ (lL _ (by decide)),_,Y,_,Y,g _ (lL _ (by decide)),_,_,Y,Y,?_,_,Y,_,_,Y,Y,?_,?_⟩
 ·show 1+(lV ((k*17+z) % 61)).length<=sizeLine;omega
 ·show(dB (z % 26)++lV ((k*17+z) % 61)).length+(lW (fZ k z)).length<=sizeLine;rw[Ku];show 1+_+_<=_;omega
 ·have e:dD z k=(dB (z % 26)++lV ((k*17+z) % 61))++lW (fZ k z):=(bt a).trans (bt l);rw[e] at q;exact q
inductive Vx(C CL CJ:U)(i:Z V)(H:Hp)(Q:VK)(E:XK):Prop
 |mk (l:BL) (b:BS) (a d:Z Int) (c:Fc) (h:U) (p:i=[.ref l.h,.ref h]) (o:bA H C CL CJ l a d b) (ok:cL a d b) (m:H h=O (.tup [.str c.k,.str (aw b.ps c.one),kV (bo b.ps c)])) (n:fY a d b.ps.length c) (j:b.fs.length<63) (k:o_ a.length b c="") (dl:b.dn.length<200) (q:∀(g:BL) (e:Hp),cC H e l g->bA e C CL CJ g a d (b.zx c)->Q (.int (b.co:Int)) e)
structure jG(C CL CJ:U)(H:Hp)(xs ys:Z Int)(z j:Nat)(td:U)(l:BL)(b:BS)(nl sd fl st:U):Prop where
 ba:bA H C CL CJ l xs ys b
 ok:cL xs ys b
 names:H nl=O (.lst (oz b.ps))
 n1:nl∉l.fp
 dz:H sd=O (.dK (iu b.ps))
 n2:sd∉l.fp
 facts:∃as:Z U,H fl=O (.lst (as.map V.ref))/\Paired (dG H b.ps) as b.fs
 n3:fl∉l.fp
 tup:H st=O (.tup [.ref nl,.ref sd,.ref fl,.int (b.co:Int)])
 turns:iX H td xs ys
 n4:td∉l.fp
 nm:b.ps.map (·.1)=(List.range b.ps.length).map (dD z)
 so:(b.fs.map (·.1)).Pairwise (·<·)
 cp:b.ps.length<=j
 cf:b.ps.length+b.fs.length<=j
 cd:b.dn.length<=j
section
variable {H W:Hp}{xs X:Z Int}{z j:Nat}{T:U}{l l':BL}{b:BS}{P Q R st:U}
def jG.same(g:ah H W)(s:jG C CL CJ H xs X z j T l b P Q R st):jG C CL CJ W xs X z j T l b P Q R st:=
 ⟨s.ba.same g,s.ok,g _ _ s.names,s.n1,g _ _ s.dz,s.n2,let⟨as,c,a⟩:=s.facts;⟨as,g _ _ c,_L.Paired.bN a λ _ _=>g _ _⟩,s.n3,g _ _ s.tup,s.turns.same g,s.n4,s.nm,s.so,s.cp,s.cf,s.cd⟩
def jG.more(s:jG C CL CJ H xs X z j T l b P Q R st):jG C CL CJ H xs X z (j+1) T l b P Q R st:=
 ⟨s.ba,s.ok,s.names,s.n1,s.dz,s.n2,s.facts,s.n3,s.tup,s.turns,s.n4,s.nm,s.so,Jq s.cp,Jq s.cf,Jq s.cd⟩
theorem jG.FL(s:jG C CL CJ H xs X z j T l b P Q R st):FL H b.ps R b.F:=by
 obtain⟨a,g,d⟩:=s.facts;refine⟨a,g,?_⟩;have:∀{a:Z U} {fs:Z (Nat×Fc)},Paired (dG H b.ps) a fs->Paired (AN H b.ps) a (fs.map (·.2)):=λh=>by
  induction h with
  |nil=>exact .nil
  |cons e _ c=>exact .cons ⟨_,e⟩ c
 exact this d
def cC.off(w:cC H W l l')(h:H a=O o)(n:a∉l.fp):W a=O o/\a∉l'.fp:=
 ⟨w.out _ _ h n,λz=>(w.grow a z).elim n λq=>by rw[h] at q;cases q⟩
def cC.bZ(w:cC H W l l')(c:bA H C CL CJ l xs X b)(h:H a=O (.tup us)):W a=O (.tup us):=w.out _ _ h (c.tup h)
def cC.iX(w:cC H W l l')(a:bA H C CL CJ l xs X b)(h:iX H T xs X)(n:T∉l.fp):iX W T xs X:=by
 obtain⟨m,f,c,s,k,i,g,e,d⟩:=h;exact⟨m,f,c,s,w.out _ _ k n,w.bZ a i,w.bZ a g,w.bZ a e,w.bZ a d⟩
def IP(w:cC H W l l')(c:bA H C CL CJ l xs X b)(h:Paired (dG H a) as fs):Paired (dG W a) as fs:=_L.Paired.bN h λ_ _ e=>w.bZ c e
def bA.fresh(c:bA H C CL CJ l xs X b)(h:H a=aG):a∉l.fp:=λz=>c.there z h
def dG.ext(d:fY xs X c.length p.2)(h:dG H c a p):dG H (c++[(n,s)]) a p:=by
 have e:∀i,i<c.length->aw (c++[(n,s)]) i=aw c i:=λi m=>by
  unfold aw
  grind
 unfold dG e_ at h⊢;have g:bo (c++[(n,s)]) p.2=bo c p.2:=by
  by_cases k:p.2.k=bj;·rw[oG k,oG k]
  ·rw[iH k,iH k,e _ (d.ok.iV k).1.2]
 rwa[e _ d.ok.one,g]
def jG.fresh(s:jG C CL CJ H xs X z j T l b P Q R st)(a:j<60)(jH:af)(g:K2 jH=ar):L4 b (dD z b.ps.length) jH:=by
 have c:=s.cp;obtain⟨n,h⟩:=Pt (pY c a);refine⟨n,g,λm=>?_,QO,(gm h (by decide))⟩;rw[s.nm] at m;refine bh (Yk.mp m) λi d e=>?_;have d:=Wk.mp d;have:=ZeA QO (pY c a) e;omega
def nm_more(h:b.ps.map (·.1)=(List.range b.ps.length).map (dD z))(s:af):(b.ps++[(dD z b.ps.length,s)]).map (·.1)=(List.range (b.ps++[(dD z b.ps.length,s)]).length).map (dD z):=by
 rw[Yr,h,Yl];show _++[dD z b.ps.length]=(List.range (b.ps.length+1)).map (dD z);rw[Zg,Yr];rfl
end
inductive S6(C CL CJ:U)(m:Z V)(H:Hp)(Q:VK)(E:XK):Prop
 |mk (g e:Z Int) (z j:Nat) (a:Int) (c:U) (l:BL) (b:BS) (o n t st:U) (y:m=[.ref l.h,.ref st,.int a,.ref c,.int (z:Int)]) (u:jG C CL CJ H g e z j c l b o n t st) (v:z<97) (x:j<60) (q:∀(h:BL) (i:BS) (p r s k:U) (d:Hp),cC H d l h->jG C CL CJ d g e z (j+1) c h i p r s k->0<i.ps.length->Q (.ref k) d)
theorem Zcz{P Q:α->β->Prop}(h:∀a b,b∈bs->P a b->Q a b)(p:Paired P as bs):Paired Q as bs:=by
 induction p with
 |nil=>exact .nil
 |cons e _ c=>exact .cons (h _ _ Ym e) (c λa b d=>h a b (Yx _ d))
def Zdw(a:Z b)(p:b->cF):((List.range a.length).filter λi=>(a[i]?.map p).getD a_).map (λi=>a[i]?)=(a.filter p).map O:=by
 have e:(List.range a.length).map (λi=>a[i]?)=a.map O:=Wx λi=>by
  grind
 have h:=Jz (f:=λi=>a[i]?) (l:=List.range a.length) (p:=λo:bS b=>(o.map p).getD a_);rw[e,Jz] at h;exact h.symm
theorem S7:∀{l:Z (Nat×α)},(l.map (·.1)).Nodup->∀{p q:Nat×α},p∈l->q∈l->p.1=q.1->p=q
 |[],_,_,_,h,_,_=>nomatch h
 |a::l,b,p,q,g,d,e=>by
  obtain⟨n,c⟩:=Y3.mp (show(a.1::l.map (·.1)).Nodup from b);rcases Yp.mp g with m|j<;>rcases Yp.mp d with k|i;·rw[m,k]
  ·grind
  ·grind
  ·exact S7 c j i e
def UL(a:Z Key):(a.map kV).all pL=ar:=by
 rw[Wm];intro v b;obtain⟨k,_,rfl⟩:=Yk.mp b;cases k<;>rfl
def Zhz:∃s:af,dN [V.str "man",V.str "woman"] (d % 2)=O (.str s)/\K2 s=ar:=by
 have:d % 2=0\/d % 2=1:=QO
 rcases this with e|e<;>rw[e];·exact⟨_,Y,QK⟩
 ·exact⟨_,Y,QK⟩
noncomputable abbrev Dj:Z af:=["_law_book","_law_fact_here"]
def Zdx:aQ Dj Dj (aI IG):=.a9
def Zdy(F:aP K "_law_put" "_law_put" IG f fd)(y:cJ P w K B I 12 "say" C Df (Uz C CL CJ))(x:cJ P w K B I 12 "tie" C qN (Uy C CL CJ)):aE P w K B I aO 13 f fd Dj (Vx C CL CJ):=by
 refine F.o Zdx λs H r h=>?_;obtain⟨l,b,m,k,c,d,rfl,j,ok,a,u,e,p,dl,q⟩:=h;refine⟨_,(aq (aU (bG b_ (bc (iT K) (pv 1) aF) aT) (av (aK (df y r (by decide) (pv 0) (aa (bc (iT K) (pv 1) aF) (aa (bc (iT K) (pv 1) aF) ae))))) bb) (av (aK (df x r (by decide) (pv 0) (aa (bc (iT K) (pv 1) aF) (aa (bc (iT K) (pv 1) aF) (aa (bc (iT K) (pv 1) aF) ae))))))),?_⟩;refine ie ?_;intros;obtain⟨v,t⟩:=j.obj;refine⟨_,Y,d,_,_,_,Y,Y,aC.of a,Y,Y,_,Y,?_⟩;rw[d9];refine bC (λi=>?_) (λi=>aX ?_)
 ·have n:=eL i;have g:kV (bo b.ps c)=.int c.aH:=by rw[oG n];rfl
  exact⟨_,Y,l.h,v,_,Y,t,Y,_,Y,d,_,_,_,Y,Y,aC.of a,Y,_,Y,d,_,_,_,Y,Y,aC.of a,Y,l,b,m,k,c,by rw[g];rfl,j,ok,⟨JR ok u e p,n⟩,dl,q⟩
 ·have o:=λz=>i (d6 z);have g:kV (bo b.ps c)=.str (aw b.ps c.aH.toNat):=by rw[iH o];rfl
  exact⟨_,Y,l.h,v,_,Y,t,Y,_,Y,d,_,_,_,Y,Y,aC.of a,Y,_,Y,d,_,_,_,Y,Y,aC.of a,Y,_,Y,d,_,_,_,Y,Y,aC.of a,Y,l,b,m,k,c,by rw[g];rfl,j,ok,Zf4 ok u e p o,dl,q⟩
noncomputable abbrev Mj:Z af:=["_law_book","_law_state","_law_cell_here","_law_turns_here","_law_salt"]
def nC:aQ ["_law_book","_law_state","_law_cell_here","_law_turns_here","_law_salt","_law_names","_law_sides","_law_facts","_law_after_here","_law_drawn","_law_name_here","_law_side","_law_fact_here","_law_out"] Mj (aI HP):=.a9
theorem ZcA(F:aP K "_law_step" "_law_step" HP f fd)(l9:HasFn P w K B I 1 "_law_draws" xF (yR K))(Ig:HasFn P w K B I 1 "_law_name" Mi UK)(Ih:HasFn P w K B I 2 "_law_fact" Mh UG)(Ii:HasFn P w K B I 4 "_law_word" Mf UD)(IQ:HasFn P w K B I 13 "_law_put" Dj (Vx C CL CJ))(Fz:cJ P w K B I 11 "person" C C9 (Rz C CL CJ))(Gb:cJ P w K B I 11 "take" C zK (Uv C CL CJ))(bl:Bl B):aE P w K B I aO 14 f fd Mj (S6 C CL CJ):=by
 refine F.o nC λs H T h=>?_;obtain⟨xs,X,z,j,cell,td,l,b,nl,sd,fl,st,rfl,r,hz,hj,q⟩:=h;have hu:=T.oS;refine⟨_,(aq (mC (pv 1) (hZ (K:=K) (n:=4) Y Y (bq (a8 5 nC.nd) (bq (a8 6 nC.nd) (bq (a8 7 nC.nd) (bq (a8 8 nC.nd) hV)))))) (aq (bM 9 nC.nd (aY l9 T (aa (pv 2) (aa (cO (aa aF (aa aF (aa aF (aa aF (aa aF ae)))))) ae)))) (aq (aU (PW.pt (pw_or (bG oY (dF K bl (pv 5)) aF) (pw_or1 (bG oY (bc (iL K) (pv 9) aF) aF)))) (aq (bM 10 nC.nd (aY Ig T (aa (dF K bl (pv 5)) (aa (pv 4) ae)))) (aq (bM 11 nC.nd (bc (iL K) (cO (aa aT (aa aT ae))) (aZ eG (bc (iL K) (pv 9) aF) aF))) (aq (bY (df Fz T (by decide) (pv 0) (aa (pv 10) (aa (pv 11) ae)))) (aq (bM 6 nC.nd (fJ Zch Y bl.Zid ZgR (aa (pv 6) ae))) (aq (oI (bw T) (pv 6) (pv 10) (pv 11)) (av (aK (dq (aa (aZ yT (pv 5) (cO (aa (pv 10) ae))) (aa (pv 6) (aa (pv 7) (aa (pv 8) ae)))))))))))) bb) (aq (aU (bG oY (bc (iL K) (pv 9) aF) aF) (aq (bM 12 nC.nd (aY Ih T (aa (pv 5) (aa (pv 6) (aa (pv 9) (aa (dF K bl (dy (bw T) (pv 3) aT (λ_ _=>Y))) ae)))))) (aq (aU (bG nL (aY Ii T (aa (pv 6) (aa (pv 7) (aa (pv 3) (aa (pv 12) ae))))) aT) (av (aK (pv 1))) bb) (aq (bY (aY IQ T (aa (pv 0) (aa (pv 12) ae)))) (av (aK (dq (aa (pv 5) (aa (pv 6) (aa (aZ yT (pv 7) (cO (aa (aZ Zgn (dq (aa (pv 8) ae)) (pv 12)) ae))) (aa (aZ fq (pv 8) aF) ae)))))))))) bb) (aq (aU (bG (Si (K:=K) Y (ZiG hu)) (pv 7) (cO ae)) (av (aK (pv 1))) bb) (aq (f_ (i:=13) nC.nd Y (w_ Y) (bc (iL K) (pv 7) (aZ eG (bc (iL K) (pv 9) aF) (dF K bl (pv 7))))) (aq (bY (df Gb T (by decide) (pv 0) (aa (bc (iT K) (pv 13) aF) ae))) (av (aK (dq (aa (pv 5) (aa (pv 6) (aa (jj (x:="_law_one") (fr:=[("_law_out",13)]) (cl:=[("_law_out",s.heap.objs.size+1)]) Y (.ir ⟨Y,trivial⟩ ⟨⟨Y,.inl Y,.inl Y,Y⟩,trivial⟩) (dY (K:=K) Y (pv 7)) (λ_ _ _ _=>wj (bG (ZiT (K:=K) Y hu) (pv 0) (pv 1))) (λ_ _ _ _=>(pv 0))) (aa (pv 8) ae)))))))))))))),?_⟩;refine zl8 ?_;intros;refine zl8 ?_;intros;have sz:(10000:Nat)<=sizeLine:=by rw[ro];decide
 refine⟨_,Y,st,_,Y,aC.of r.tup,Y,_,_,Y,aS ⟨_,_,Y,aS ⟨_,_,Y,aS ⟨_,_,Y,aS ⟨Y,?_⟩⟩⟩⟩⟩;dsimp only;refine bT ?_;refine⟨_,Y,by show 5<=sizeLine;decide,λpp H1 np g1 L=>⟨cell,pp,[16,61,59,8,4],Y,aj.of L,by decide,by decide,λdr ds H2 nd g2 h2 bd=>?_⟩⟩;obtain⟨d0,d1,d2,d3,d4,rfl,_,_,_,_,b4⟩:=Zg4 bd;have nj:=g1.trans g2;have s2:=r.same nj;obtain⟨dx,ho⟩:=s2.ba.obj;have ya:=Kq b.ps;have cp:=r.cp;have cf:=r.cf;have cd:=r.cd;have m64:=r.ok.m;have f63:=r.ok.fl;have ix:∀{i:Int} {v:Int} {H9:Hp},ah H2 H9->dN ([d0,d1,d2,d3,d4].map V.int) i=O (.int v)->∀σ:St,σ[9]?=O (O (.ref dr))->Vt (jZ (wK K) (gP 9) (tC (V.int i))) σ H9 (.int v):=λg e σ hσ kk hk=>⟨_,hσ,dr,_,_,_,Y,Y,aj.of (g _ _ h2),e,hk _ (ah.refl _)⟩;refine(Bt.or (a:=decide (((oz b.ps).length:Int)<2)) (b:=decide (d0<5)) (λkk hk=>⟨_,Y,nl,_,Y,.inl (aj.of s2.names),_,_,Y,Y,_,Y,hk _ (ah.refl _)⟩) λH3 _ g3 kk hk=>ix g3 Y _ Y _ λH4 E=>⟨_,_,Y,Y,_,Y,hk _ E⟩) _ λH3 g3=>?_;have s3:=s2.same g3;have kL:=nj.trans g3;rw[ya];refine bC (λcc=>?_) (λcc=>aX ?_)
 ·refine tI ?_;intros;refine bT ?_;refine⟨_,Y,nl,_,Y,.inl (aj.of s3.names),_,Y,b.ps.length,z,by rw[ya];rfl,pY cp hj,hz,?_⟩;refine bT ?_;refine bh (Zhz (d:=d1)) λsx es so=>?_;refine⟨by show 2<=sizeLine;decide,λsl H4 D8 E hsl=>ix (g3.trans E) Y _ Y _ λH5 N=>⟨_,_,Y,Y,by decide,sl,_,_,_,Y,Y,aj.of (N _ _ hsl),es,?_⟩⟩;have k:=(s3.same E).same N;have EH:=(kL.trans E).trans N;obtain⟨Oc,Od⟩:=k.ba.obj;refine⟨_,Y,l.h,Oc,_,Y,Od,Y,_,Y,_,Y,l,b,xs,X,dD z b.ps.length,sx,Y,k.ba,k.ok,k.fresh hj sx so,by omega,λl' H6 J nv=>?_⟩;have vw:=k.fresh hj sx so;dsimp only;refine bT ?_;have off:=λ{a:U} {o:HO} (h:H5 a=O o) (n:a∉l.fp)=>J.off h n;obtain⟨AV,Dk⟩:=off k.dz k.n2;obtain⟨AW,Dl⟩:=off k.names k.n1;obtain⟨A,sR,eZ⟩:=k.facts;obtain⟨yb,Ml⟩:=off sR k.n3;refine⟨_,Y,sd,_,Y,AV,λs' H7 cG W q0=>?_⟩;have vn:aL (iu b.ps) (.inr (dD z b.ps.length))=aG:=qg λhm=>vw.new (by
   obtain⟨p,L,e⟩:=Yk.mp hm;obtain⟨p',Oe,rfl⟩:=Yk.mp L;exact Yk.mpr ⟨p',Oe,We e⟩)
  refine⟨_,Y,_,Y,_,Y,s',_,.inr (dD z b.ps.length),Y,q0,Y,by rw[Ya];omega,λH8 b8 e8=>?_⟩;have Q:ah H6 H8:=λc o e=>b8 _ _ (W _ _ e) (bU e cG);rw[ko _ vn] at e8;refine⟨_,Y,_,Y,by show 1<=sizeLine;decide,λt H9 nt g9 ht=>⟨nl,t,_,_,Y,Y,g9 _ _ (Q _ _ AW),ht,by rw[ya];show _+1<=_;omega,λn' HA nn' gA xf=>⟨_,Y,_,Y,_,Y,by show 4<=sizeLine;decide,λaN HB DY gB dA=>?_⟩⟩⟩;have AX:=(g9.trans gA).trans gB;have R:=Q.trans AX;have pe:(b.Lw (dD z b.ps.length) sx).ps=b.ps++[(dD z b.ps.length,sx)]:=Y;obtain⟨tm,tf,tw,ts,iq,_⟩:=id k.turns;refine q l' (b.Lw (dD z b.ps.length) sx) n' s' fl aN HB ((cC.after EH J).same R) ⟨nv.same R,r.ok.Zk4 vw.new vw.lim (Ye _) (by rw[Yl];show _+1<=200;omega) (Yw _),?_,((nv.same Q).same g9).fresh nn',?_,nv.fresh cG,⟨A,R _ _ yb,?_⟩,Ml,dA,(J.iX k.ba k.turns k.n4).same R,(off iq k.n4).2,nm_more r.nm sx,r.so,?_,?_,?_⟩ (by rw[pe,Yl];exact rn _)
  ·rw[gB _ _ xf,pe,oz,oz,Yr];rfl
  ·rw[AX _ _ e8,pe];show _=O (HO.dK ((b.ps++[(dD z b.ps.length,sx)]).map _));rw[Yr];rfl
  ·have:=IP J k.ba eZ;refine Zcz (λa p L e=>?_) this;exact dG.ext (r.ok.fg p L) (R _ _ e)
  ·rw[pe,Yl];show _+1<=_;omega
  ·rw[pe,Yl];show _+1+b.fs.length<=_;omega
  ·show(b.dn++[_]).length<=_;rw[Yl];show _+1<=_;omega
 have p0:0<b.ps.length:=by
  rw[N5,ri] at cc;omega
 refine⟨_,Y,dr,_,_,_,Y,Y,aj.of (g3 _ _ h2),Y,_,_,Y,Y,_,Y,?_⟩;refine bC (λcc2=>?_) (λcc2=>aX ?_)
 ·refine nY ?_;intros;refine bT ?_;refine kA (id s3.turns) λtm tf tw u0 iq _ _ _ x9=>?_;refine⟨_,Y,_,Y,_,Y,_,Y,td,.ref u0,Y,c_ iq Y,u0,_,Y,.inr (aC.of x9),nl,sd,dr,b.ps,xs,X,d0,d1,d2,d3,d4,by rw[Ya,fR];rfl,s3.names,s3.dz,r.ok.nm,p0,gm m64 (by decide),g3 _ _ h2,b4,r.ok.gd,λc fg ff H4 EG E vq=>?_⟩;have s4:=s3.same E;refine⟨_,Y,_,Y,_,Y,_,Y,sd,fl,td,ff,xs,X,b,c,Y,s4.dz,s4.FL,s4.turns,vq,r.ok,fg,λH5 N=>⟨Y,_,Y,?_⟩⟩;have k:=s4.same N;have EH:=(kL.trans E).trans N;rw[d9];refine bC (λcw=>?_) (λcw=>aX ?_);·exact⟨_,Y,q l b nl sd fl st H5 (cC.of EH) k.more p0⟩
  have hw:o_ xs.length b c="":=by
   by_cases e:o_ xs.length b c="";·exact e
   ·rw[Qc1 e] at cw;exact absurd Y cw
  have nf:=JR r.ok fg (by omega) hw;refine⟨_,Y,_,Y,l,b,xs,X,c,ff,Y,k.ba,r.ok,N _ _ vq,fg,by omega,hw,by omega,λl' H6 J nv=>?_⟩;have off:=λ{a:U} {o:HO} (h:H5 a=O o) (n:a∉l.fp)=>J.off h n;obtain⟨AV,Dk⟩:=off k.dz k.n2;obtain⟨AW,Dl⟩:=off k.names k.n1;obtain⟨A,sR,eZ⟩:=k.facts;obtain⟨yb,Ml⟩:=off sR k.n3;have ff6:=J.bZ k.ba (N _ _ vq);have al:=dk eZ;refine⟨_,Y,_,Y,_,Y,_,Y,by show 1<=sizeLine;decide,λt1 H7 nt1 W N8=>⟨_,Y,t1,ff,_,_,Y,Y,aC.of N8,aC.of (W _ _ ff6),by simp,by show 1+3<=sizeLine;decide,λe=>(by cases e),λ_ t2 nt2=>?_⟩⟩;obtain⟨H8,e8⟩:∃H8,H8=upd H7 t2 (.tup ([V.int (b.co:Int)]++[V.str c.k,V.str (aw b.ps c.one),kV (bo b.ps c)])):=⟨_,Y⟩;have g8:ah H7 H8:=by rw[e8];exact cE nt2 _
  have ht2:dG H8 b.ps t2 (b.co,c):=by
   show H8 t2=_;rw[e8,aW];rfl
  rw[←e8];have Q:=W.trans g8;refine⟨by show 1<=sizeLine;decide,λl1 H9 nl1 g9 hl1=>⟨fl,l1,_,_,Y,Y,g9 _ _ (Q _ _ yb),hl1,by rw[Ya];show _+1<=_;omega,λjC HA Zln gA Zlo=>⟨_,Y,_,_,Y,Y,by show 4<=sizeLine;decide,λaN HB DY gB dA=>?_⟩⟩⟩;have AX:=(g9.trans gA).trans gB;have R:=Q.trans AX;obtain⟨tm,tf,tw,ts,Mm,_⟩:=id k.turns;have Z3:=r.ok.lt;refine q l' (b.zx c) nl sd jC aN HB ((cC.after EH J).same R) ⟨nv.same R,?_,R _ _ AW,Dl,R _ _ AV,Dk,⟨A++[t2],?_,?_⟩,((nv.same Q).same g9).fresh Zln,dA,(J.iX k.ba k.turns k.n4).same R,(off Mm k.n4).2,r.nm,?_,Jq cp,?_,?_⟩ p0
  ·exact r.ok.Zk5 fg (λm=>by
    obtain⟨p,L,e⟩:=Yk.mp m;have:=Z3 p L;omega) nf.nk nf.np nf.lv (by omega) (co:=b.co+1) (xm _) (Jg _) (by rw[Yl];show _+1<=200;omega) (Yw _)
  ·rw[gB _ _ Zlo,Yr];rfl
  ·exact kj (F:=dG HB b.ps) (AX _ _ ht2) (_L.Paired.bN (IP J k.ba eZ) λ_ _ e=>R _ _ e)
  ·show((b.fs++[(b.co,c)]).map (·.1)).Pairwise _;rw[Yr];refine List.pairwise_append.mpr ⟨r.so,by simp,λu hu v hv=>?_⟩;obtain⟨p,L,rfl⟩:=Yk.mp hu;have:v=b.co:=by simpa using hv
   rw[this];exact Z3 p L
  ·show _+(b.fs++[_]).length<=_;rw[Yl];show b.ps.length+(_+1)<=_;exact Qdf cf
  ·show(b.dn++[_]).length<=_;rw[Yl];show _+1<=_;omega
 refine bh s3.facts λA sR eZ=>?_;have al:=dk eZ;refine⟨_,Y,by show 0<=sizeLine;decide,λe0 H4 AQ E Az=>⟨fl,e0,_,Y,Y,aj.of (E _ _ sR),aj.of Az,_,Y,bC (λce=>?_) (λce=>aX ?_)⟩⟩;·exact⟨_,Y,q l b nl sd fl st H4 (cC.of (kL.trans E)) (s3.same E).more p0⟩
 refine bT ?_;have s4:=s3.same E;have f0:0<A.length:=by
  cases e:A with
  |nil=>rw[e] at ce;exact absurd Y ce
  |cons _ _=>exact rn _
 have mi:=zm (z:=d1) f0;refine⟨_,Y,ix (g3.trans E) Y _ Y _ λH5 N=>?_⟩;have k:=s4.same N;have Mn:=N _ _ (E _ _ sR);obtain⟨i,ei⟩:∃i:Nat,d1 % (A.length:Int)=(i:Int):=⟨(d1 % (A.length:Int)).toNat,by omega⟩;have hi:i<A.length:=by omega
 obtain⟨ao,Z4⟩:∃ao,A[i]?=O ao:=⟨_,Yb hi⟩;obtain⟨⟨G,c0⟩,AY,NV⟩:=gY eZ Z4;have WZ:=N _ _ (E _ _ NV);refine⟨_,Y,fl,_,Y,.inl (aj.of Mn),_,_,Y,Y,by rw[Ya];omega,fl,_,_,.ref ao,Y,Y,aj.of Mn,?_,?_⟩
 ·rw[Ya,ei];exact dM (by rw[Yf,Z4];rfl)
 obtain⟨Oc,Od⟩:=k.ba.obj;refine⟨_,Y,l.h,Oc,_,Y,Od,Y,_,Y,ao,_,_,_,Y,Y,aC.of WZ,Y,l,b,xs,X,G,c0,Y,k.ba,r.ok,Yj AY,by omega,λl' H6 J nv=>?_⟩;have off:=λ{a:U} {o:HO} (h:H5 a=O o) (n:a∉l.fp)=>J.off h n;obtain⟨AV,Dk⟩:=off k.dz k.n2;obtain⟨AW,Dl⟩:=off k.names k.n1;obtain⟨yb,Ml⟩:=off Mn k.n3;have Zlp:Paired (dG H5 b.ps) A b.fs:=_L.Paired.bN eZ λ_ _ e=>N _ _ (E _ _ e);have W_:=IP J k.ba Zlp;have al5:=dk eZ;have ao6:=J.bZ k.ba WZ;refine⟨_,Y,_,Y,_,Y,fl,Y,⟨_,aj.of yb⟩,λD hD=>?_⟩;have qe:∀p∈b.fs,p.1=G->p=(G,c0):=λp L e=>S7 r.ok.zs L (Yj AY) e;refine yA (K:=K) (aj.of yb) (by rw[Ya];omega) hD (λi=>(b.fs[i]?.map λp=>decide (p.1≠G)).getD a_) (λi y _=>∃a,A[i]?=O a/\y=.ref a) (λ_ _ _ _ _ h=>h) (λi v hi H7 W _ Kt Kf kt kf=>?_) λus H7 W h7 pr=>?_
 ·rw[Yf] at hi;obtain⟨a,ea,rfl⟩:∃a,A[i]?=O a/\V.ref a=v:=by
   cases e:A[i]? with
   |none=>rw[e] at hi;cases hi
   |some c=>rw[e] at hi;exact⟨c,Y,Yo hi⟩
  obtain⟨p,ep,L⟩:=gY W_ ea;have mp:=Yj ep;have pb:(b.fs[i]?.map λp=>decide (p.1≠G)).getD a_=decide (p.1≠G):=by rw[ep];rfl
  rw[pb] at kt kf;refine⟨_,Y,_,Y,a,ao,_,_,Y,Y,aC.of (W _ _ L),aC.of (W _ _ ao6),UL _,UL _,_,Y,?_⟩;have ed:(!decide ((e_ b.ps p.1 p.2).map kV=(e_ b.ps G c0).map kV))=decide (p.1≠G):=by
   by_cases e:p.1=G
   ·rw[qe p mp e];simp
   ·rw[wk e,Qc1 (λh=>e ?_)];·rfl
    ·injection h with h1 _;have:=V.int.inj h1;exact nF this
  show(if(!decide ((e_ b.ps p.1 p.2).map kV=(e_ b.ps G c0).map kV))=ar then _ else _);rw[ed];cases e:decide (p.1≠G) with
  |true=>exact dh ⟨_,Y,kt _ H7 e (ah.refl _) ⟨a,ea,Y⟩⟩
  |false=>exact bV (kf H7 e (ah.refl _))
 rw[Ya,al5] at pr;obtain⟨iU,rfl,Zlq⟩:∃iU:Z U,us=iU.map V.ref/\Paired (dG H7 b.ps) iU (di G b.fs):=by
  have aux:∀{X:Z V} {is:Z Nat} {gs:Z (Nat×Fc)},Paired (λy i=>∃a,A[i]?=O a/\y=.ref a) X is->is.map (λi=>b.fs[i]?)=gs.map O->∃A:Z U,X=A.map V.ref/\Paired (dG H7 b.ps) A gs:=by
   intro X is gs pr;induction pr generalizing gs with
   |nil=>
    intro e;cases gs with
    |nil=>exact⟨[],Y,.nil⟩
    |cons _ _=>cases e
   |cons f _ ih=>
    intro e;cases gs with
    |nil=>cases e
    |cons g gs=>
     obtain⟨a,e1,e2⟩:=f;obtain⟨p,ep,L⟩:=gY W_ e1;injection e with e4 e5;obtain⟨A,r1,r2⟩:=ih e5;exact⟨a::A,by rw[e2,r1];rfl,.cons (by rw[←Yo (ep.symm.trans e4)];exact W _ _ L) r2⟩
  exact aux pr (Zdw b.fs λp=>decide (p.1≠G))
 refine⟨_,Y,by show 4<=sizeLine;decide,λaN H8 DY g8 dA=>?_⟩;have Q:=W.trans g8;obtain⟨tm,tf,tw,ts,Mm,_⟩:=id k.turns;have sub:(di G b.fs).Sublist b.fs:=NP;refine q l' (b.without G c0) nl sd D aN H8 ((cC.after (((kL.trans E).trans N)) J).same Q) ⟨nv.same Q,r.ok.drop G (Ye _) (by rw[Yl];show _+1<=200;omega) (Yw _),Q _ _ AW,Dl,Q _ _ AV,Dk,⟨iU,g8 _ _ h7,_L.Paired.bN Zlq λ_ _ e=>g8 _ _ e⟩,nv.fresh hD,dA,(J.iX k.ba k.turns k.n4).same Q,(off Mm k.n4).2,r.nm,r.so.sublist (sub.map _),Jq cp,Jq (Yy (QcU sub.length_le _) cf),?_⟩ p0;show(b.dn++[_]).length<=_;rw[Yl];show _+1<=_;omega
def cL.nil(b:oZ xs a):cL xs a ⟨[],[],0,[],[]⟩:=
 ⟨b,W5,Yw _,Yw _,λ_ h=>(nomatch h),W5,λ_ h=>(nomatch h),W5,W5,⟨λ_=>0,λ_ h=>absurd h (Wt _),λ_ h=>(nomatch h)⟩,Yw _,Yw _⟩
inductive UM(C CL CJ:U)(k:Z V)(H:Hp)(Q:VK)(E:XK):Prop
 |mk (c a:Z Int) (z:Nat) (e d:U) (l:BL) (b:BS) (i:Z Int) (F:k=[.ref l.h,.ref e,.ref d,.int (z:Int)]) (D:bA H C CL CJ l c a b) (A:b=⟨[],[],0,[],[]⟩) (y:oZ c a) (x:H e=O (.lst (i.map V.int))) (s:e∉l.fp) (v:iX H d c a) (r:d∉l.fp) (u:z<97) (t:i.length<=59) (q:∀(h:BL) (p:BS) (m n o j:U) (g:Hp),cC H g l h->jG C CL CJ g c a z 59 d h p m n o j->Q (.ref j) g)
noncomputable abbrev Mo:Z af:=["_law_book","_law_cells","_law_turns_here","_law_salt"]
def A_:aQ ["_law_book","_law_cells","_law_turns_here","_law_salt","_law_state","_law_cell_here"] Mo (aI HQ):=.a9
def ZcB(F:aP K "_law_grow" "_law_grow" HQ f fd)(Ij:HasFn P w K B I 14 "_law_step" Mj (S6 C CL CJ))(bl:Bl B):aE P w K B I aO 15 f fd Mo (UM C CL CJ):=by
 refine F.o A_ λs H hr h=>?_;obtain⟨u,t,z,N,r,l,b,cs,rfl,Q,rfl,gd,W,nc,ht,nt,hz,A,q⟩:=h;refine⟨_,(aq (bM 4 A_.nd (dq (aa (cO ae) (aa rG (aa (cO ae) (aa aF ae)))))) (aq (dI hY Y (dY (K:=K) Y (pv 1)) (a8 5 A_.nd) (av (bM 4 A_.nd (aY Ij hr (aa (pv 0) (aa (pv 4) (aa (pv 5) (aa (pv 2) (aa (pv 3) ae))))))))) (av (aK (pv 4))))),?_⟩;refine me ?_;intros;have sz:(10000:Nat)<=sizeLine:=by rw[du];decide
 refine bT ?_;refine⟨by decide,λT H1 n1 X h1=>?_⟩;refine λR H2 n2 J h2=>?_;refine⟨by decide,λfl H3 n3 G h3=>⟨by show 4<=sizeLine;decide,λst H4 n4 D h4=>?_⟩⟩;have y:=((X.trans J).trans G).trans D;have c8:=Q.same X;have sX:=c8.same J;have si:jG C CL CJ H4 u t z 0 r l ⟨[],[],0,[],[]⟩ T R fl st:=⟨Q.same y,cL.nil gd,D _ _ (G _ _ (J _ _ h1)),Q.fresh n1,D _ _ (G _ _ h2),c8.fresh n2,⟨[],D _ _ h3,.nil⟩,sX.fresh n3,h4,ht.same y,nt,Y,Xv,Yw _,Yw _,Yw _⟩;refine fW (λo e=>∃(c:BL) (m:BS) (g i k d:U) (p:bS V),cC H e l c/\jG C CL CJ e u t z 59 r c m g i k d/\o=[O (.ref l.h),O (.ref N),O (.ref r),O (.int (z:Int)),O (.ref d),p]) (λkM dP=>?_) ?_
 ·refine⟨_,Y,N,Y,⟨_,aj.of (y _ _ W)⟩,g_ (λj o e=>∃(c:BL) (m:BS) (g i k d:U) (p:bS V),cC H e l c/\jG C CL CJ e u t z j r c m g i k d/\o=[O (.ref l.h),O (.ref N),O (.ref r),O (.int (z:Int)),O (.ref d),p])
   ⟨l,_,T,R,fl,st,aG,cC.of y,si,Y⟩ (λj o e _ ⟨_,_,_,_,_,_,_,n,_⟩=>aj.of (n.off W nc).1) ?_ ?_⟩
  ·intro j v o e hj ZH;obtain⟨c,m,g,i,k,d,p,n,a,rfl⟩:=ZH;refine bh (mw hj) λx jm hx=>?_;subst jm;have jl:=(Yh.mp hx).1;refine aS ?_;rw[←n.h];refine⟨_,Y,_,Y,_,Y,_,Y,_,Y,u,t,z,j,x,r,c,m,g,i,k,d,Y,a,hz,(oO (i2 jl A)),λl2 b2 NF MW L fM H7 E s7 _=>aS ⟨l2,b2,NF,MW,L,fM,_,n.trans E,s7,Y⟩⟩
  ·intro o e ZH;obtain⟨c,m,g,i,k,d,p,n,a,rfl⟩:=ZH;rw[Ya] at a;exact dP _ _ ⟨c,m,g,i,k,d,p,n,⟨a.ba,a.ok,a.names,a.n1,a.dz,a.n2,a.facts,a.n3,a.tup,a.turns,a.n4,a.nm,a.so,Yy a.cp A,Yy a.cf A,Yy a.cd A⟩,Y⟩
 intro o e ZH;obtain⟨c,m,g,i,k,d,p,n,a,rfl⟩:=ZH;exact⟨_,Y,q c m g i k d e n a⟩
noncomputable abbrev Mp:Z (af×af):=[("m","c"),("c","m"),("f","k"),("k","f"),("w","h"),("h","w"),("s","s")]
noncomputable def lY(k:af):af:=if k="mother" then"m" else if k="father" then"f" else if k="wed" then"w" else"s"
noncomputable def ltB(k:af):af:=if k="mother" then"c" else if k="father" then"k" else if k="wed" then"h" else"s"
def mP(k:af):Prop:=k="mother"\/k="father"\/k="wed"\/k="sibling"
structure Eg where
 s:af
 l:af
 g:af
def iE(a:bI)(c:Fc):Z Eg:=if c.k=bj then[] else[⟨aw a c.one,lY c.k,aw a c.aH.toNat⟩,⟨aw a c.aH.toNat,ltB c.k,aw a c.one⟩]
def iF(a:bI)(F:Z Fc):Z Eg:=F.flatMap (iE a)
def Dm(H:Hp)(p:U)(e:Eg):Prop:=∃z w:Int,H p=O (.tup [.str e.s,.str e.l,.str e.g,.int z,.int w])
def y6(h:mP k):PyProof.Rows.KTD.datumAt k lD=O (lY k)/\PyProof.Rows.KTD.datumAt (lY k) Mp=O (ltB k)/\i4 lD k=ar/\k≠bj:=by
 rcases h with rfl|rfl|rfl|rfl<;>exact⟨QK,QK,QK,QK⟩
def Kv(a:bI)(c:Fc):(iE a c).length<=2:=by
 unfold iE;split;·exact Yw _
 ·exact Ye _
theorem B5(a:bI):∀F:Z Fc,(iF a F).length<=2*F.length
 |[]=>Ye _
 |c::F=>by
  have b:=B5 a F;have:=Kv a c;show(iE a c++iF a F).length<=_;rw[Yl,Wh];omega
structure pZ(H0 H:Hp)(d:U)(L:Z Eg):Prop where
 new:H0 d=aG
 same:ah H0 H
 pr:∃es:Z U,H d=O (.lst (es.map V.ref))/\Paired (Dm H) es L
def pZ.to(h:pZ e H d L)(g:ah H H1):pZ e H1 d L:=by
 refine bh h.pr λb c a=>?_;exact⟨h.new,h.same.trans g,b,g _ _ c,_L.Paired.bN a λ_ _ ⟨z,w,q⟩=>⟨z,w,g _ _ q⟩⟩
def r6{H:Hp}(h:H a=O o)(d:H b=O c)(n:o≠c):a≠b:=λe=>by
 rw[e,d] at h;exact n (Yo h).symm
def pZ.app(h:pZ x H d L)(g:ah H H1)(t:Dm H1 e y)(b:aB d H1 j)(u:H d=O (.lst (i.map V.ref)))(s:Paired (Dm H) i L)(v:j d=O (.lst (i.map V.ref++[.ref e]))):pZ x j d (L++[y]):=by
 have k:∀p a,H1 p=O (.tup a)->j p=O (.tup a):=λc a l=>b _ _ l (r6 l (g _ _ u) (λz=>by cases z));obtain⟨n,r,t⟩:=t;exact⟨h.new,λc o m=>b _ _ (g _ _ (h.same _ _ m)) (bU m h.new),i++[e],by rw[v,Yr];rfl,_L.kj (_L.Paired.bN s λ_ _ ⟨z,w,q⟩=>⟨z,w,k _ _ (g _ _ q)⟩) ⟨n,r,k _ _ t⟩⟩
inductive Qs(c:Z V)(H:Hp)(Q:VK)(E:XK):Prop
 |mk (p:U) (z w:Int) (k a o:af) (g:c=[.ref p,.int w]) (e:H p=O (.tup [.int z,.str k,.str a,.str o])) (d:mP k) (q:∀(t:U) (b:Hp),ah H b->b t=O (.tup [.str (if w=1 then a else o),.str (if w=1 then lY k else ltB k),.str (if w=1 then o else a)])->Q (.ref t) b)
inductive Pu(e:Z V)(H:Hp)(Q:VK)(E:XK):Prop
 |mk (b:U) (a:bI) (F:Z Fc) (j:e=[.ref b]) (i:FL H a b F) (h:∀c∈F,c.k=bj\/mP c.k) (g:F.length<=64) (q:∀(p:U) (d:Hp),pZ H d p (iF a F)->Q (.ref p) d)
def vP:aQ ["fact","way","number","kind","one","other","letter"] ["fact","way"] (aI Hq):=.a9
def ZcC(F:aP K "tie_step" "tie_step" Hq f fd)(r:B "TIE_LETTERS"=O (.ref e))(n:qM K e lD)(j:B "WAYS_BACK"=O (.ref d))(l:qM K d Mp)(i:B "FORTH"=O (.int 1 t1)):aE P w K B I aO 1 f fd ["fact","way"] Qs:=by
 refine F.o vP λs H D h=>?_;obtain⟨p,z,w,k,a,o,rfl,x,m,q⟩:=h;refine⟨_,(aq (mC (pv 0) (hZ (K:=K) Y Y (bq (a8 2 vP.nd) (bq (a8 3 vP.nd) (bq (a8 4 vP.nd) (bq (a8 5 vP.nd) hV)))))) (aq (bM 6 vP.nd (bc (Ke Y) (c9 (v:=.ref e) Y r Y) (pv 3))) (av (aK (Qy (bG b_ (pv 1) (c9 (v:=.int (1)) Y i ⟨_,Y⟩)) (dq (aa (pv 4) (aa (pv 6) (aa (pv 5) ae)))) (dq (aa (pv 5) (aa (bc (Ke Y) (c9 (v:=.ref d) Y j Y) (pv 6)) (aa (pv 4) ae))))))))),?_⟩;have sz:(10000:Nat)<=sizeLine:=by rw[du];decide
 refine c7 (y6 m) λA y _=>?_;refine⟨_,Y,p,_,Y,aC.of x,Y,_,_,Y,aS ⟨_,_,Y,aS ⟨_,_,Y,aS ⟨_,_,Y,aS ⟨Y,?_⟩⟩⟩⟩⟩;dsimp;refine bT ?_;refine⟨_,Y,e,k,lY k,lD,Y,Y,n,A,?_⟩;refine⟨_,Y,Y,_,Y,bC (λc=>?_) (λc=>?_)⟩
 ·have b:=V.int.inj (eL c);rw[bR b,bR b,bR b] at q;exact⟨_,Y,_,Y,_,Y,by show 3<=sizeLine;decide,λ t g u=>q t g⟩
 ·have b:¬w=1:=λz=>c (d6 (by rw[z]));rw[bt b,bt b,bt b] at q;exact⟨_,Y,_,Y,d,lY k,ltB k,Mp,Y,Y,l,y,_,Y,by show 3<=sizeLine;decide,λ t g u=>q t g⟩
def tP:aQ ["kept","steps","fact","way","start","letter","goal"] ["kept"] (aI GO):=.a9
theorem ZbR(F:aP K "tie_steps" "tie_steps" GO f fd)(wx:B "FORTH"=O (.int 1 t1))(K6:B "BACK"=O (.int (-1) t2))(qt:HasFn P w K B I 1 "is_tie" ["kind"] BZ)(Ik:HasFn P w K B I 1 "tie_step" ["fact","way"] Qs)(bl:Bl B):aE P w K B I aO 2 f fd ["kept"] Pu:=by
 refine F.o tP λs H hr h=>?_;obtain⟨J,b,F,rfl,fl,kd,ln,q⟩:=h;refine⟨_,(aq (bM 1 tP.nd (cO ae)) (aq (dI Ax Y (dY (K:=K) Y (pv 0)) (a8 2 tP.nd) (av (aU (fh (aY qt hr (aa (bc (iT K) (pv 2) aF) ae))) (av (dI hY Y (B6 (dq (aa (c9 (v:=.int (1)) Y wx ⟨_,Y⟩) (aa (c9 (v:=.int (-1)) Y K6 ⟨_,Y⟩) ae)))) (a8 3 tP.nd) (aq (mC (aY Ik hr (aa (pv 2) (aa (pv 3) ae))) (hZ (K:=K) (n:=3) Y Y (bq (a8 4 tP.nd) (bq (a8 5 tP.nd) (bq (a8 6 tP.nd) hV))))) (av (bY (kW (K:=K) Y (iK l3 my mr l_ (pv 1) (aa (dq (aa (pv 4) (aa (pv 5) (aa (pv 6) (aa (bc (iT K) (pv 2) aF) (aa (pv 3) ae)))))) ae)))))))) bb))) (av (aK (pv 1))))),?_⟩;refine me ?_;intros;have sz:(10000:Nat)<=sizeLine:=by rw[ro];decide
 refine bT ?_;refine⟨by show 0<=sizeLine;decide,λd H1 nd g1 hd=>?_⟩;refine cu fl.get λas cW al get=>?_;refine fW (λk r=>∃(u p o m l:bS V),pZ H r d (iF b F)/\k=[O (.ref J),O (.ref d),u,p,o,m,l]) (λkM dP=>?_) ?_
 ·refine⟨_,Y,J,Y,⟨_,aj.of (g1 _ _ cW)⟩,g_ (K:=K) (a:=J) (xs:=as.map V.ref) (λj k r=>∃(u p o m l:bS V),pZ H r d (iF b (F.take j))/\k=[O (.ref J),O (.ref d),u,p,o,m,l])
   ⟨aG,aG,aG,aG,aG,⟨nd,g1,[],hd,.nil⟩,Y⟩
   (λj k r _ ⟨_,_,_,_,_,g,_⟩=>aj.of (g.same _ _ cW)) ?_ ?_⟩
  ·intro j v k r hj ZH;obtain⟨u,p,o,m,l,g,rfl⟩:=ZH;refine jI (get r j v g.same hj) λy c z js ec ni E=>?_;subst js;have jl:j<F.length:=(Yh.mp ec).1;have W:iF b (F.take (j+1))=iF b (F.take j)++iE b c:=by
    rw[ni];unfold iF;rw[Pe]
    congr 1
    exact Y8 _
   refine aS ?_;refine⟨_,Y,y,_,_,_,Y,Y,aC.of E,dM (j:=1) Y,_,Y,?_⟩;rcases kd c (Yj ec) with ks|X
   ·rw[ks,show i4 lD bj=a_ from by decide+kernel];refine⟨_,Y,bV (aX ?_)⟩;refine⟨_,_,_,_,_,?_,Y⟩;rw[W];unfold iE;rw[bR ks,Y8];exact g
   ·refine d7 (y6 X) λ_ _ hs ns=>?_;rw[hs];refine⟨_,Y,dh ?_⟩;have eo:iE b c=[⟨aw b c.one,lY c.k,aw b c.aH.toNat⟩,⟨aw b c.aH.toNat,ltB c.k,aw b c.one⟩]:=by unfold iE;rw[bt ns]
    rw[iH ns] at E;have E:r y=O (.tup [.int z,.str c.k,.str (aw b c.one),.str (aw b c.aH.toNat)]):=E;refine⟨by show 2<=sizeLine;decide,λR H7 ntp g7 Z5=>⟨R,Y,⟨_,aC.of Z5⟩,Zgg (K:=K) (a:=R) (xs:=[.int 1,.int (-1)]) (λi k N=>∃(p o m l:bS V),N R=O (.tup [.int 1,.int (-1)])/\N y=O (.tup [.int z,.str c.k,.str (aw b c.one),.str (aw b c.aH.toNat)])/\pZ H N d (iF b (F.take j)++(iE b c).take i)/\k=[O (.ref J),O (.ref d),O (.ref y),p,o,m,l]) ⟨_,_,_,_,Z5,g7 _ _ E,?_,Y⟩ (λi k N _ ⟨_,_,_,_,h,_⟩=>aC.of h) ?_ ?_⟩⟩
    ·rw[M_,Y8];exact g.to g7
    ·rintro i v k H8 D ⟨p,o,m,l,Z6,Q,G,rfl⟩;obtain⟨w,rfl,ew⟩:∃w:Int,v=.int w/\(iE b c)[i]?=O ⟨if w=1 then aw b c.one else aw b c.aH.toNat,if w=1 then lY c.k else ltB c.k,if w=1 then aw b c.aH.toNat else aw b c.one⟩:=by
      rw[eo];match i,D with
      |0,D=>exact⟨1,(Yo D).symm,Y⟩
      |1,D=>exact⟨-1,(Yo D).symm,Y⟩
     obtain⟨es,A,tH⟩:=id G.pr;have el:es.length<=200:=by
      rw[dk tH,Yl];have:=B5 b (F.take j);have:=N4 j F;have:=Z7 i (iE b c);have:=Kv b c;omega
     refine aS ?_;refine⟨_,Y,_,Y,y,z,w,c.k,_,_,Y,Q,X,λt H9 x ht=>⟨t,_,Y,aC.of ht,Y,_,_,Y,aS ⟨_,_,Y,aS ⟨_,_,Y,aS ⟨Y,?_⟩⟩⟩⟩⟩;refine⟨_,Y,.inl ⟨Y,_,aj.of (x _ _ A)⟩,?_⟩;refine⟨_,Y,_,Y,_,Y,_,Y,y,_,_,_,Y,Y,aC.of (x _ _ Q),dM (j:=0) Y,_,Y,by show 5<=sizeLine;decide,λe HA ne L he=>?_⟩;refine⟨d,_,_,Y,Y,L _ _ (x _ _ A),by rw[Ya];omega,λHB T eB=>?_⟩;refine⟨_,_,_,_,T _ _ (L _ _ (x _ _ Z6)) (r6 Z6 A (λz=>by cases z)),T _ _ (L _ _ (x _ _ Q)) (r6 Q A (λz=>by cases z)),?_,Y⟩;rw[Yz,ew,←Jo];exact G.app (x.trans L) ⟨_,_,he⟩ T A tH eB
    ·rintro k H8 ⟨p,o,m,l,_,_,G,rfl⟩;refine⟨_,_,_,_,_,?_,Y⟩;rw[W];have:(iE b c).take ([.int 1,.int (-1)]:Z V).length=iE b c:=Wg (Kv b c);rw[this] at G;exact G
  ·rintro k r ⟨u,p,o,m,l,g,rfl⟩;rw[Ya,al,Wc] at g;exact dP _ _ ⟨_,_,_,_,_,g,Y⟩
 rintro k r ⟨u,p,o,m,l,g,rfl⟩;exact⟨_,Y,q d r g⟩
def RI[DecidableEq a](l m:Z (a×V))(k:a):aL (l++m) k=(aL l k).or (aL m k):=by
 unfold aL;rw[List.find?_append];cases l.find? λb=>decide (b.1=k)<;>rfl
noncomputable def eF(x l:af):Z Key:=[.inr x,.inr l]
noncomputable def dQ(E:Z Eg)(x l:af):Z af:=(E.filter λe=>decide (e.s=x)&&decide (e.l=l)).map Eg.g
def ZhA(h:eF x l=eF a l'):x=a/\l=l':=by
 injection h with c h;injection h with b _;exact⟨We c,We b⟩
def ZhB(E:Z Eg)(x l:af):(dQ E x l).length<=E.length:=by
 unfold dQ;rw[Ya];exact Wj _ _
def RJ(E:Z Eg)(e:Eg)(x l:af):dQ (E++[e]) x l=if e.s=x/\e.l=l then dQ E x l++[e.g] else dQ E x l:=by
 unfold dQ;rw[Ws];by_cases c:e.s=x/\e.l=l
 ·rw[bR c,Jb (by simp[c.1,c.2]),Yr];rfl
 ·rw[bt c,X5 (by simpa using λb a=>c ⟨b,a⟩),List.filter_nil,Y8]
def S8:y∈dQ E x l↔∃e∈E,e.s=x/\e.l=l/\e.g=y:=by
 unfold dQ;constructor
 ·intro h;refine bh (Yk.mp h) λe d g=>?_;subst g;obtain⟨m,c⟩:=Y4.mp d;obtain⟨b,a⟩:=Ja.mp c;exact⟨e,m,eL b,eL a,Y⟩
 ·rintro⟨e,m,b,a,rfl⟩;exact Yk.mpr ⟨e,Y4.mpr ⟨m,by rw[d6 b,d6 a];rfl⟩,Y⟩
structure lZ(H0 H:Hp)(d:U)(E:Z Eg)(kvs:Z (Z Key×V)):Prop where
 at_:H d=O (.dT kvs)
 new:H0 d=aG
 same:ah H0 H
 len:kvs.length<=E.length
 val:∀x l,(aL kvs (eF x l)=aG/\dQ E x l=[])\/∃a,aL kvs (eF x l)=O (.ref a)/\H0 a=aG/\a≠d/\H a=O (.lst ((dQ E x l).map V.str))
 inj:∀x l x' l' a,aL kvs (eF x l)=O (.ref a)->aL kvs (eF x' l')=O (.ref a)->x=x'/\l=l'
def vy(H:Hp)(d:U)(E:Z Eg):Prop:=∃b,H d=O (.dT b)/\∀x l,(aL b (eF x l)=aG/\dQ E x l=[])\/∃a,aL b (eF x l)=O (.ref a)/\H a=O (.lst ((dQ E x l).map V.str))
def vy.same{H c:Hp}{d:U}{E:Z Eg}(g:ah H c)(h:vy H d E):vy c d E:=by
 refine bh h λb j i=>?_;exact⟨b,g _ _ j,λx l=>(i x l).imp id λ⟨a,e,k⟩=>⟨a,e,g _ _ k⟩⟩
def lZ.done(m:lZ c H d E b):vy H d E:=⟨b,m.at_,λx l=>(m.val x l).imp id λ⟨a,e,_,_,k⟩=>⟨a,e,k⟩⟩
def lZ.to(m:lZ h H d E kvs)(g:ah H H1):lZ h H1 d E kvs:=
 ⟨g _ _ m.at_,m.new,m.same.trans g,m.len,λx l=>(m.val x l).imp id λ⟨a,e,c,b,k⟩=>⟨a,e,c,b,g _ _ k⟩,m.inj⟩
def lZ.old(m:lZ s H d E kvs)(h:aL kvs (eF e.s e.l)=O (.ref a))(b:aB a H H1)(t:H1 a=O (.lst ((dQ E e.s e.l).map V.str++[.str e.g]))):lZ s H1 d (E++[e]) kvs:=by
 have i:s a=aG/\a≠d:=by
  rcases m.val e.s e.l with⟨n,_⟩|⟨r,g,p,j,_⟩;·rw[n] at h;cases h
  ·rw[h] at g;cases g;exact⟨p,j⟩
 refine⟨b _ _ m.at_ (kK i.2),m.new,λc o q=>b _ _ (m.same _ _ q) (bU q i.1),by rw[Yl];have:=m.len;exact lK this,λx l=>?_,m.inj⟩;rw[RJ];by_cases c:e.s=x/\e.l=l
 ·obtain⟨rfl,rfl⟩:=c;rw[bR ⟨Y,Y⟩];exact .inr ⟨a,h,i.1,i.2,by rw[t,Yr];rfl⟩
 ·rw[bt c];refine(m.val x l).imp id λ⟨r,g,p,j,k⟩=>⟨r,g,p,j,b _ _ k λz=>c ?_⟩;rw[z] at g;exact m.inj _ _ _ _ a h g
def lZ.fresh(m:lZ P H d E i)(A:aL i (eF e.s e.l)=aG)(s:H a=aG)(g:ah H H1)(b:aB d H1 N)(R:N d=O (.dT (i++[(eF e.s e.l,.ref a)])))(u:aB a N L)(T:L a=O (.lst [.str e.g])):lZ P L d (E++[e]) (i++[(eF e.s e.l,.ref a)]):=by
 have D:a≠d:=λz=>by rw[z,m.at_] at s;cases s
 have G:P a=aG:=m.same.free s;have X:dQ E e.s e.l=[]:=by
  rcases m.val e.s e.l with⟨_,h⟩|⟨q,j,_⟩;·exact h
  ·rw[A] at j;cases j
 have y:∀x l,aL (i++[(eF e.s e.l,V.ref a)]) (eF x l)=if e.s=x/\e.l=l then O (.ref a) else aL i (eF x l):=λx l=>by
  rw[RI];by_cases c:e.s=x/\e.l=l
  ·obtain⟨rfl,rfl⟩:=c;rw[bR ⟨Y,Y⟩,A];exact fU Y
  ·rw[bt c];have:aL [(eF e.s e.l,V.ref a)] (eF x l)=aG:=fK λz=>c (ZhA z);rw[this];cases aL i (eF x l)<;>rfl
 have old:∀{x l:af} {q:U},aL i (eF x l)=O (.ref q)->q≠a:=λ{x l q} h z=>by
  rcases m.val x l with⟨n,_⟩|⟨W,j,_,_,k⟩;·rw[n] at h;cases h
  ·rw[h] at j;cases j;rw[z,s] at k;cases k
 refine⟨u _ _ R (kK D),m.new,λc o t=>u _ _ (b _ _ (g _ _ (m.same _ _ t)) (bU t m.new)) (bU t G),by rw[Yl,Yl];have:=m.len;exact X3 this,λx l=>?_,λx l v J q h p=>?_⟩
 ·rw[RJ,y];by_cases c:e.s=x/\e.l=l
  ·rw[bR c,bR c];obtain⟨rfl,rfl⟩:=c;exact .inr ⟨a,Y,G,D,by rw[T,X];rfl⟩
  ·rw[bt c,bt c];exact(m.val x l).imp id λ⟨q,j,Q,F,k⟩=>⟨q,j,Q,F,u _ _ (b _ _ (g _ _ k) F) (old j)⟩
 ·rw[y] at h p;by_cases c:e.s=x/\e.l=l
  ·by_cases r:e.s=v/\e.l=J;·exact⟨c.1.symm.trans r.1,c.2.symm.trans r.2⟩
   ·rw[bR c] at h;rw[bt r] at p;cases h;exact absurd Y (old p)
  ·by_cases r:e.s=v/\e.l=J
   ·rw[bt c] at h;rw[bR r] at p;cases p;exact absurd Y (old h)
   ·rw[bt c] at h;rw[bt r] at p;exact m.inj _ _ _ _ _ h p
inductive Px(e:Z V)(H:Hp)(Q:VK)(E:XK):Prop
 |mk (d:U) (b:bI) (F:Z Fc) (j:e=[.ref d]) (i:FL H b d F) (h:∀c∈F,c.k=bj\/mP c.k) (g:F.length<=64) (q:∀(p:U) (a:Hp),ah H a->vy a p (iF b F)->Q (.ref p) a)
inductive Qt(g:Z V)(H:Hp)(Q:VK)(E:XK):Prop
 |mk (d e:U) (E:Z Eg) (a:Z af) (l:af) (m:g=[.ref d,.ref e,.str l]) (h:vy H d E) (j:E.length<=130) (k:H e=O (.lst (a.map V.str))) (i:a.length<=200) (q:∀(p:U) (b:Z af) (c:Hp),ah H c->c p=O (.lst (b.map V.str))->b.Nodup->(∀y,y∈b↔∃x∈a,y∈dQ E x l)->Q (.ref p) c)
def oA(a:Z af):Z (Key×V):=a.map λk=>(.inr k,.bl ar)
def Zf6(h:k∉a):aL (oA a) (.inr k)=aG:=qg λm=>by
 obtain⟨p,b,e⟩:=Yk.mp m;obtain⟨d,c,rfl⟩:=Yk.mp b;exact h (by rwa[←We e])
def ZhC(c:Z af)(k:af):∃d,putK (oA c) (.inr k) (.bl ar)=oA d/\(∀y,y∈d↔y∈c\/y=k)/\(c.Nodup->d.Nodup):=by
 by_cases h:k∈c
 ·refine⟨c,?_,λy=>⟨.inl,λz=>z.elim id λe=>by rwa[e]⟩,id⟩;have:((oA c).any λi=>decide (i.1=(.inr k:Key)))=ar:=by
   rw[J9];exact⟨(.inr k,.bl ar),Yk.mpr ⟨k,h,Y⟩,d6 Y⟩
  unfold putK;rw[bR this];unfold oA;rw[Y9];refine Wq λx _=>?_;show(if(Sum.inr x:Key)=.inr k then _ else _)=_;by_cases e:(Sum.inr x:Key)=.inr k;·rw[bR e]
  ·rw[bt e]
 ·refine⟨c++[k],?_,λy=>by rw[Yq,Yi],λg=>Wz.mpr ⟨g,QS,λa l b j e=>h (by rwa[←Yi.mp j,←e])⟩⟩;rw[ko _ (Zf6 h)];unfold oA;rw[Yr];rfl
def K7{b zs:Z af}(c:b.Nodup)(a:∀k∈b,k∈zs):b.length<=zs.length:=c.length_le_of_subset a
def tL:aQ ["kept","steps","start","letter","goal","number","way"] ["kept"] (aI FG):=.a9
theorem ZaM(F:aP K "letter_steps" "letter_steps" FG f fd)(Hd:HasFn P w K B I 2 "tie_steps" ["kept"] Pu)(bl:Bl B):aE P w K B I aO 3 f fd ["kept"] Px:=by
 refine F.o tL λs H hr h=>?_;obtain⟨fa,r,F,rfl,fl,kd,ln,q⟩:=h;have hu:=hr.oS;refine⟨_,(aq (bM 1 tL.nd Iz) (aq (dI hY Y (dY (K:=K) Y (aY Hd hr (aa (pv 0) ae))) (hZ (K:=K) (n:=5) Y Y (bq (a8 2 tL.nd) (bq (a8 3 tL.nd) (bq (a8 4 tL.nd) (bq (a8 5 tL.nd) (bq (a8 6 tL.nd) hV)))))) (av (bY (kW (K:=K) Y (iK l3 my mr l_ (Zci (bw hr) (pv 1) (dq (aa (pv 2) (aa (pv 3) ae))) (cO ae) ⟨Y,Y,Y,Y⟩) (aa (pv 4) ae)))))) (av (aK (pv 1))))),?_⟩;have sz:(10000:Nat)<=sizeLine:=by rw[du];decide
 refine bT ?_;refine λd H1 nd g1 hd=>?_;refine fW (λy o=>∃(b:Z (Z Key×V)) (N L J G E:bS V),lZ H o d (iF r F) b/\y=[O (.ref fa),O (.ref d),N,L,J,G,E]) (λkM dP=>?_) ?_
 ·refine⟨_,Y,fa,r,F,Y,fl.same g1,kd,ln,λp H2 gr=>?_⟩;refine bh (id gr.pr) λT hp tH=>?_;have le:=B5 r F;have lp:=dk tH;have Z8:∀x l,dQ [] x l=[]:=λ_ _=>Y;refine⟨p,Y,⟨_,aj.of hp⟩,g_ (K:=K) (a:=p) (xs:=T.map V.ref) (λj y o=>∃(b:Z (Z Key×V)) (N L J G E:bS V),(o p=O (.lst (T.map V.ref))/\Paired (Dm o) T (iF r F)/\lZ H o d ((iF r F).take j) b/\(∀x l a,aL b (eF x l)=O (.ref a)->a≠p))/\y=[O (.ref fa),O (.ref d),N,L,J,G,E]) ⟨[],aG,aG,aG,aG,aG,⟨hp,tH,⟨gr.same _ _ hd,nd,g1.trans gr.same,Ye _,λx l=>.inl ⟨Y,Y⟩,λ_ _ _ _ _ h=>(nomatch h)⟩,λ_ _ _ h=>(nomatch h)⟩,Y⟩ (λj y o _ ⟨_,_,_,_,_,_,⟨h,_⟩,_⟩=>aj.of h) ?_ ?_⟩
  ·intro j v y o R ZH;obtain⟨b,N,L,J,G,E,⟨EJ,Of,g,vw⟩,rfl⟩:=ZH;rw[Yf] at R;obtain⟨X,ec0,rfl⟩:∃X,T[j]?=O X/\V.ref X=v:=by
    cases e:T[j]? with
    |none=>rw[e] at R;cases R
    |some c=>rw[e] at R;exact⟨c,Y,Yo R⟩
   obtain⟨e,ee,z,w,hc⟩:=gY Of ec0;have tk:(iF r F).take (j+1)=(iF r F).take j++[e]:=by rw[Yz,ee];rfl
   have jl:=(Yh.mp ee).1;refine⟨X,_,Y,aC.of hc,Y,_,_,Y,aS ⟨_,_,Y,aS ⟨_,_,Y,aS ⟨_,_,Y,aS ⟨_,_,Y,aS ⟨Y,?_⟩⟩⟩⟩⟩⟩;have lt:=N4 j (iF r F);have ml:=g.len;refine⟨_,Y,d,Y,.inr ⟨_,.inl g.at_⟩,_,Y,_,Y,by show 2<=sizeLine;decide,λt H7 nt i ht=>⟨by show 0<=sizeLine;decide,λW H8 Q m yd=>⟨b,eF e.s e.l,t,m _ _ (i _ _ g.at_),Y,m _ _ ht,QO,λv A=>?_,λA=>?_⟩⟩⟩
   ·have m8:=g.to (i.trans m);rcases m8.val e.s e.l with⟨n,_⟩|⟨a,e1,n1,n2,ka⟩;·rw[n] at A;cases A
    ·rw[A] at e1;cases e1;have lg:=ZhB ((iF r F).take j) e.s e.l;have Og:=m _ _ (i _ _ EJ);refine⟨.inl ⟨Y,_,aj.of ka⟩,_,Y,a,_,_,Y,Y,ka,by rw[Ya];omega,λHB D eB=>?_⟩;refine⟨b,_,_,_,_,_,⟨D _ _ Og (kK (vw _ _ _ A)),_L.Paired.bN Of λ_ _ ⟨z,w,k⟩=>⟨z,w,D _ _ (m _ _ (i _ _ k)) (r6 (m _ _ (i _ _ k)) ka (λz=>by cases z))⟩,?_,vw⟩,Y⟩;rw[tk];exact m8.old A D eB
   ·intro H9 b9 h9;have Og:=m _ _ (i _ _ EJ);have nld:W≠d:=λz=>by rw[z,i _ _ g.at_] at Q;cases Q
    have Z9:W≠p:=λz=>by rw[z,i _ _ EJ] at Q;cases Q
    have Z_:=b9 _ _ yd nld;refine⟨.inl ⟨Y,_,aj.of Z_⟩,_,Y,W,_,_,Y,Y,Z_,by show 0<_;decide,λHB D eB=>?_⟩;have pd:p≠d:=r6 EJ g.at_ (λz=>by cases z);refine⟨b++[(eF e.s e.l,.ref W)],_,_,_,_,_,⟨D _ _ (b9 _ _ Og pd) (kK Z9),_L.Paired.bN Of λ_ _ ⟨z,w,k⟩=>⟨z,w,D _ _ (b9 _ _ (m _ _ (i _ _ k)) (r6 k g.at_ (λz=>by cases z))) (r6 (m _ _ (i _ _ k)) yd (λz=>by cases z))⟩,?_,λx l a h=>?_⟩,Y⟩
    ·rw[tk];exact g.fresh A (i.free Q) (i.trans m) b9 h9 D eB
    ·rw[RI] at h;cases hx:aL b (eF x l) with
     |some u=>rw[hx] at h;exact vw x l a (by rw[hx];exact h)
     |none=>
      rw[hx] at h;by_cases c:eF e.s e.l=eF x l
      ·rw[show Option.or aG _=_ from Y,fU c] at h;cases h;exact Z9
      ·rw[show Option.or aG _=_ from Y,fK c] at h;cases h
  ·rintro y o ⟨b,N,L,J,G,E,⟨_,_,g,_⟩,rfl⟩;rw[Ya,lp,Wc] at g;exact dP _ _ ⟨b,_,_,_,_,_,g,Y⟩
 rintro y o ⟨b,N,L,J,G,E,g,rfl⟩;exact⟨_,Y,q d o g.same g.done⟩
noncomputable abbrev iY:Z Nat:=[99,102,104,107,109,115,119]
def ZeB:(Str.ofString "cfhkmsw").cps.toList=iY:=QK
def fw(z:af):Prop:=∀c∈z.cps.toList,c∈iY
def ZeC(d:fw y)(b:fw z):fw (y++z):=λc a=>by
 have e:(y++z).cps.toList=y.cps.toList++z.cps.toList:=by
  show(y.cps++z.cps).toList=_;simp
 rw[e] at a;rcases Yq.mp a with q|q;·exact d c q
 ·exact b c q
def Qu(h:fw z)(a b:bS Int):fw (sh z a b):=λc d=>by
 have e:c∈(z.cps.toList.drop (HT.cv z.length 0 a)).take (HT.cv z.length z.length b-HT.cv z.length 0 a):=by simpa[sh] using d
 exact h c (Qbq (Jk e))
inductive RK(K:ag)(c:Z V)(H:Hp)(Q:VK):Prop
 |mk (a:U) (d:Z Int) (b:Nat) (j:c=[.ref a,.int (b:Int)]) (i:aj K H a (d.map V.int)) (g:d.length<=63) (h:∀(z:af) (e:Hp),fw z->z.length<=b->ah H e->Q (.str z) e):RK K c H Q
def UN(K:ag):Sp:=λa H Q _=>RK K a H Q
def ZhD{a b c d e f g h:Int}(p:Paired Bd ds [a,b,c,d,e,f,g,h]):∃t u v w x y z s,ds=[t,u,v,w,x,y,z,s]/\Bd t a/\Bd u b/\Bd v c/\Bd w d/\Bd x e/\Bd y f/\Bd z g/\Bd s h:=by
 cases p with|cons q p=>cases p with|cons o p=>cases p with|cons n p=>cases p with|cons m p=>cases p with|cons l p=>cases p with|cons k p=>cases p with|cons j p=>cases p with|cons i p=>
  cases p;exact⟨_,_,_,_,_,_,_,_,Y,q,o,n,m,l,k,j,i⟩
def ZeD(h:v∈k9 xs lo a):v∈xs.drop (HT.cv xs.length 0 lo):=Jk h
noncomputable abbrev Mq:Z af:=["_law_cells","_law_most"]
def vR:aQ ["_law_cells","_law_most","_law_word_here","_law_cell_here","_law_drawn","_law_at"] Mq (aI HR):=.a9
def ZhE(F:aP K "_law_text" "_law_text" HR f fd)(l9:HasFn P w K B I 1 "_law_draws" xF (yR K))(bl:Bl B):aE P w K B I aO 2 f fd Mq (UN K):=by
 refine F.o vR λs H hr h=>?_;obtain⟨a,ns,d,rfl,hs,ln,q⟩:=h;refine⟨_,(aq (bM 2 vR.nd aT) (aq (dI hY Y (dY (K:=K) Y (pv 0)) (a8 3 vR.nd) (aq (bM 4 vR.nd (aY l9 hr (aa (pv 3) (aa (cO (aa aF (aa aF (aa aF (aa aF (aa aF (aa aF (aa aF (aa aF ae))))))))) ae)))) (av (dI hY Y (dY (K:=K) Y (wa (BB (K:=K) Y) (pv 4) (rN aF) (rN (aZ fq aF (aZ oR aF (bc (iL K) (pv 4) aF)))))) (a8 5 vR.nd) (av (bM 2 vR.nd (aZ qh (pv 2) (bc t8 aT (pv 5))))))))) (av (aK (wa T8 (pv 2) BP (rN (pv 1))))))),?_⟩;refine aS ?_;dsimp only;have e0:(Str.ofString "").length=0:=QD
 have s0:fw (Str.ofString ""):=λc r=>by
  have:(Str.ofString "").cps.toList=[]:=QK
  rw[this] at r;cases r
 have l7:(Str.ofString "cfhkmsw").length=7:=QK
 have sz:(10000:Nat)<=sizeLine:=by rw[du];decide
 refine⟨_,Y,a,Y,⟨_,hs⟩,g_ (xs:=ns.map V.int) (λi e u=>ah H u/\∃(z:af) (R Q o:bS V),fw z/\z.length<=7*i/\e=[O (.ref a),O (.int (d:Int)),O (.str z),R,Q,o]) ⟨ah.refl _,_,aG,aG,aG,s0,by rw[e0];decide,Y⟩ (λi e u _ ⟨g,_⟩=>g.seq hs) ?_ ?_⟩
 ·rintro i v e u hi ⟨g1,z,R,Q,o,W,T,rfl⟩;refine bh (mw hi) λn jm r=>?_;subst jm;have dU:i<ns.length:=(Yh.mp r).1;refine aS ?_;refine⟨_,Y,by show 8<=sizeLine;decide,λp H2 np g2 hp=>?_⟩;refine⟨n,p,[4,7,7,7,7,7,7,7],Y,aj.of hp,QD,QD,λdl ds H3 nd g3 h3 bd=>aS ?_⟩;dsimp only;obtain⟨L,J,G,E,D,A,y,x,rfl,b0,b1,b2,b3,b4,b5,b6,b7⟩:=ZhD bd;refine⟨_,Y,_,Y,_,Y,dl,_,_,_,Y,Y,aj.of h3,dM (j:=0) Y,_,_,Y,Y,.inl ⟨QD,QD⟩,_,_,Y,Y,_,Y,dl,_,Y,aj.of h3,λcl H4 ncl g4 Ak=>?_⟩;obtain⟨t,em⟩:=IY [L,J,G,E,D,A,y,x] (O 1) (O (2+2*L));have dO:∀m∈t,0<=m/\m<7:=λm hm=>by
   have z:V.int m∈k9 ([L,J,G,E,D,A,y,x].map V.int) (O 1) (O (2+2*L)):=by rw[em];exact Yk.mpr ⟨m,hm,Y⟩
   have z2:V.int m∈[V.int J,.int G,.int E,.int D,.int A,.int y,.int x]:=ZeD z;simp only[Yp,Y1,gV,V.int.injEq] at z2;rcases z2 with rfl|rfl|rfl|rfl|rfl|rfl|rfl;·exact b1
   ·exact b2
   ·exact b3
   ·exact b4
   ·exact b5
   ·exact b6
   ·exact b7
  have ml:t.length<=7:=by
   have z:(t.map V.int).length<=([V.int J,.int G,.int E,.int D,.int A,.int y,.int x]:Z V).length:=by
    rw[←em];unfold k9;rw[Wd];exact X4 _ _
   rw[Ya] at z;exact z
  rw[em] at Ak;refine⟨cl,Y,⟨_,aj.of Ak⟩,g_ (xs:=t.map V.int) (λj e N=>ah H4 N/\∃(k:af) (o:bS V),fw k/\k.length<=7*i+j/\e=[O (.ref a),O (.int (d:Int)),O (.str k),O (.int n),O (.ref dl),o]) ⟨ah.refl _,z,o,W,T,Y⟩ (λj e N _ ⟨g,_⟩=>aj.of (g _ _ Ak)) ?_ ?_⟩
  ·rintro j v e N hj ⟨X,k,Oh,Oi,l,rfl⟩;obtain⟨b,rfl,ha⟩:=mw hj;have ML:j<t.length:=(Yh.mp ha).1;obtain⟨a0,a1⟩:=dO b (Yj ha);have an:b.toNat<iY.length:=by show b.toNat<7;omega
   have ea:b=((b.toNat:Nat):Int):=(nO (wh a0))
   have e2:=dM (xs:=(Str.ofString "cfhkmsw").cps.toList) (j:=b.toNat) (v:=iY[b.toNat]) (by rw[ZeB,Yb an]);rw[←ea] at e2;refine aS ?_;refine⟨_,Y,_,Y,_,_,_,Y,Y,(by decide),e2,_,_,Y,Y,?_,aS ⟨X,k++⟨#[iY[b.toNat]]⟩,_,ZeC Oi (λc r=>?_),?_,Y⟩⟩
   ·show k.length+1<=sizeLine;omega
   ·have:c=iY[b.toNat]:=by simpa using r
    rw[this];exact Wo an
   ·rw[nq];show k.length+1<=_;exact Qc8 l _
  ·rintro e N ⟨X,k,Oh,Oi,l,rfl⟩;rw[Ya] at l;exact⟨((g1.trans g2).trans g3).trans (g4.trans X),k,_,_,_,Oi,(gm l (QcU ml _)),Y⟩
 ·rintro e u ⟨g1,z,R,Q,o,W,T,rfl⟩;rw[Ya] at T;refine⟨_,Y,_,Y,_,Y,z,Y,QO,q _ u (Qu W _ _) ?_ g1⟩;show(((z.cps.toList.drop _).take _).toArray).size<=d;rw[Yt,Wd];have:HT.cv z.length z.length (O (d:Int))=min d z.length:=HT.RY _ _ _;omega
noncomputable def Zj5(c:Nat):Nat:=if c=109 then 99 else if c=99 then 109 else if c=102 then 107 else if c=107 then 102 else if c=119 then 104 else if c=104 then 119 else c
noncomputable abbrev ye:Z (af×af):=[("m","c"),("c","m"),("f","k"),("k","f"),("w","h"),("h","w"),("s","s")]
def Zj6(h:c∈iY):PyProof.Rows.KTD.datumAt (⟨#[c]⟩:af) ye=O ⟨#[Zj5 c]⟩:=by
 simp[Yp,Y1,gV] at h;rcases h with rfl|rfl|rfl|rfl|rfl|rfl|rfl<;>rfl
theorem Py{z:af}:∀{D:Z (af×af)},(∀p∈D,z≠p.1)->PyProof.Rows.KTD.datumAt z D=aG
 |[],_=>rfl
 |p::D,h=>by
  unfold PyProof.Rows.KTD.datumAt;have e:=h p Ym;simp[e,uR,decide_false,Jj];exact Py λq a=>h q (Yx _ a)
def ud(a:x=⟨#[d]⟩)(h:(⟨#[c]⟩:af)=x):c=d:=by
 rw[a] at h;have:=eJ (λz:af=>z.cps.toList) h;simpa using this
def Zjb(h:c∉iY):PyProof.Rows.KTD.datumAt (⟨#[c]⟩:af) ye=aG:=by
 refine Py λp a e=>h ?_;simp[Yp,Y1,gV] at a;rcases a with rfl|rfl|rfl|rfl|rfl|rfl|rfl;·rw[ud Y e];decide
 ·rw[ud Y e];decide
 ·rw[ud Y e];decide
 ·rw[ud Y e];decide
 ·rw[ud Y e];decide
 ·rw[ud Y e];decide
 ·rw[ud Y e];decide
def RL(c:U):Sp:=λa H Q E=>∃z:af,a=[.str z]/\(fw z->Q .aA H)/\(¬fw z->XP H c "no word" E)
def OD:aQ ["word","letter"] ["word"] (aI Gk):=.a9
def Zbk(F:aP K "check_word" "check_word" Gk f fd)(r:B "WAYS_BACK"=O (.ref l))(t:qM K l ye)(G:zc P w K B I "BadWord" "no word" c):aE P w K B I (oa P w) 4 f fd ["word"] (RL c):=by
 refine F.DJ OD (λp H Q E h=>?_) (λJ A k s H p Q E u h=>?_)
 ·obtain⟨z,rfl,_⟩:=h;rfl
 obtain⟨z,rfl,q,x⟩:=h;refine⟨_,(av (dI wN Y (Cd (pv 0)) (a8 1 OD.nd) (av (aU (fV (Zec (K:=K) Y) (pv 1) (c9 (v:=.ref l) Y r Y) QU) (av (PX G u (by decide) Y Y zo (pv 1))) bb)))),?_⟩;refine⟨_,Y,z,Y,Kd (λi g m=>m=H/\(∀c∈z.cps.toList.take i,c∈iY)/\∃o:bS V,g=[O (.str z),o]) ⟨Y,(λc a=>by cases a),aG,Y⟩ ?_ ?_⟩
 ·rintro i c' g m D ⟨rfl,b,o,rfl⟩;have n:z.cps.toList[i]?=O c':=by rw[Ww];exact D
  refine aS ?_;refine⟨_,Y,⟨#[c']⟩,l,ye,Y,Y,t,_,Y,?_⟩;rw[bR Y];by_cases a:c'∈iY
  ·have e:i4 ye ⟨#[c']⟩=ar:=by unfold i4;rw[Zj6 a];rfl
   rw[e];refine bV (aX ⟨Y,λd hd=>?_,_,Y⟩);rw[Yz,n] at hd;rcases Yq.mp hd with y|y;·exact b d y
   ·have:d=c':=by simpa using y
    rw[this];exact a
  ·have e:i4 ye ⟨#[c']⟩=a_:=by unfold i4;rw[Zjb a];rfl
   rw[e];exact dh ⟨_,Y,⟨#[c']⟩,Y,by show 1<=1000000;decide,x λj=>a (j c' (Yj n))⟩
 ·rintro g m ⟨rfl,b,o,rfl⟩;rw[Wg (by show z.cps.toList.length<=z.cps.size;simp)] at b;exact q b
noncomputable abbrev Mr:Z af:=["steps","names","letter"]
def Ba:aQ ["steps","names","letter","found","name","goal"] Mr (aI Hs):=.a9
theorem ZcD(F:aP K "led_from" "led_from" Hs f fd)(bl:Bl B):aE P w K B I aO 1 f fd Mr Qt:=by
 refine F.o Ba λs H hr h=>?_;obtain⟨d,nl,u,J,l,rfl,tb,le,hn,ln,q⟩:=h;have hu:=hr.oS;refine⟨_,(aq (bM 3 Ba.nd rG) (aq (dI hY Y (dY Y (pv 1)) (a8 4 Ba.nd) (av (dI hY Y (dY Y (QW (bw hr) (pv 0) (dq (aa (pv 4) (aa (pv 2) ae))) (cO ae) ⟨Y,Y,Y,Y⟩)) (a8 5 Ba.nd) (av (oI (bw hr) (pv 3) (pv 5) gH))))) (av (aK (fJ (OM Y) Y bl.t9 tV (aa (pv 3) ae)))))),?_⟩;refine me ?_;intros;have sz:(10000:Nat)<=sizeLine:=by rw[du];decide
 refine bh tb λX hd val=>?_;refine bT ?_;refine λG H1 EK g1 D4=>?_;have inE:∀{x y:af},y∈dQ u x l->y∈u.map Eg.g:=λh=>by
  obtain⟨e,m,_,_,rfl⟩:=S8.mp h;exact Yk.mpr ⟨e,m,Y⟩
 refine fW (λA r=>∃(b:Z af) (Q D:bS V),ah H r/\r G=O (.dK (oA b))/\b.Nodup/\(∀y,y∈b↔∃x∈J,y∈dQ u x l)/\A=[O (.ref d),O (.ref nl),O (.str l),O (.ref G),Q,D]) (λkM dP=>?_) ?_
 ·refine⟨_,Y,nl,Y,⟨_,aj.of (g1 _ _ hn)⟩,g_ (λi A r=>∃(b:Z af) (Q D:bS V),ah H r/\r G=O (.dK (oA b))/\b.Nodup/\(∀y,y∈b↔∃x∈J.take i,y∈dQ u x l)/\A=[O (.ref d),O (.ref nl),O (.str l),O (.ref G),Q,D]) ⟨[],aG,aG,g1,D4,W5,λy=>⟨(λh=>nomatch h),λ⟨x,h,_⟩=>(nomatch h)⟩,Y⟩ (λi A r _ ⟨_,_,_,g,_⟩=>aj.of (g _ _ hn)) ?_ ?_⟩
  ·intro i v A r hi ZH;refine kS ZH λb Q D E R T L CK=>?_;subst CK;rw[Yf] at hi;obtain⟨x,ex,rfl⟩:∃x,J[i]?=O x/\V.str x=v:=by
    cases e:J[i]? with
    |none=>rw[e] at hi;cases hi
    |some c=>rw[e] at hi;exact⟨c,Y,Yo hi⟩
   have tk:J.take (i+1)=J.take i++[x]:=by rw[Yz,ex];rfl
   refine aS ?_;refine⟨_,Y,d,Y,.inr ⟨_,.inl (E _ _ hd)⟩,_,Y,_,Y,by show 2<=sizeLine;decide,λt H7 nt g7 ht=>⟨by show 0<=sizeLine;decide,λl0 H8 yc g8 yd=>?_⟩⟩;have iD:=g7.trans g8;obtain⟨a,o,eo,ev,ha⟩:∃(a:U) (o:bS V),aL X (eF x l)=o/\o.getD (.ref l0)=.ref a/\H8 a=O (.lst ((dQ u x l).map V.str)):=by
    rcases val x l with⟨n,e⟩|⟨a,e,k⟩;·exact⟨l0,aG,n,Y,by rw[yd,e];rfl⟩
    ·exact⟨a,O (.ref a),e,Y,iD _ _ (E _ _ k)⟩
   refine⟨o,.inr ⟨X,eF x l,t,.inl (iD _ _ (E _ _ hd)),Y,g8 _ _ ht,eo.symm⟩,?_⟩;rw[ev];have afo:=r6 ha (iD _ _ R) (λz=>by cases z);refine⟨a,Y,⟨_,aj.of ha⟩,g_ (λj A r=>∃(b:Z af) (D:bS V),ah H r/\r a=O (.lst ((dQ u x l).map V.str))/\r G=O (.dK (oA b))/\b.Nodup/\(∀y,y∈b↔(∃x∈J.take i,y∈dQ u x l)\/y∈(dQ u x l).take j)/\A=[O (.ref d),O (.ref nl),O (.str l),O (.ref G),O (.str x),D]) ⟨b,D,E.trans iD,ha,iD _ _ R,T,λy=>⟨λh=>.inl ((L y).mp h),λh=>h.elim (L y).mpr λz=>(nomatch z)⟩,Y⟩ (λj A r _ ⟨_,_,_,h,_⟩=>aj.of h) ?_ ?_⟩
   ·rintro j v A H9 hj ⟨iz,Oh,g9,ha9,h9,EL,W,rfl⟩;rw[Yf] at hj;obtain⟨y,ey,rfl⟩:∃y,(dQ u x l)[j]?=O y/\V.str y=v:=by
     cases e:(dQ u x l)[j]? with
     |none=>rw[e] at hj;cases hj
     |some c=>rw[e] at hj;exact⟨c,Y,Yo hj⟩
    have tj:(dQ u x l).take (j+1)=(dQ u x l).take j++[y]:=by rw[Yz,ey];rfl
    have kl:iz.length<=130:=by
     refine Yy (K7 EL (zs:=u.map Eg.g) λk hk=>?_) (by rwa[Ya]);rcases(W k).mp hk with⟨x',_,h⟩|h;·exact inE h
     ·exact inE (Jk h)
    obtain⟨vA,ep,mk,Nv⟩:=ZhC iz y;refine aS ?_;refine⟨_,Y,_,Y,G,_,.inr y,Y,h9,Y,by unfold oA;rw[Ya];omega,λHB bB eB=>?_⟩;rw[ep] at eB;refine⟨vA,_,λc o ec=>bB _ _ (g9 _ _ ec) (bU ec EK),bB _ _ ha9 afo,eB,Nv EL,λz=>?_,Y⟩;rw[mk,W,tj,Yq,Yi,or_assoc]
   ·rintro A H9 ⟨iz,Oh,g9,ha9,h9,EL,W,rfl⟩;rw[Ya,Wc] at W;refine⟨iz,_,_,g9,h9,EL,λy=>?_,Y⟩;rw[W,tk];constructor
    ·rintro(⟨x',N,h2⟩|h);·exact⟨x',Ys _ N,h2⟩
     ·exact⟨x,Yg _ Ym,h⟩
    ·rintro⟨x',N,h2⟩;rcases Yq.mp N with N|N;·exact .inl ⟨x',N,h2⟩
     ·rw[Yi.mp N] at h2;exact .inr h2
  ·rintro A r ⟨b,Q,D,E,R,T,L,rfl⟩;rw[Ya,Wc] at L;exact dP _ _ ⟨b,_,_,E,R,T,L,Y⟩
 rintro A r ⟨b,Q,D,E,R,T,L,rfl⟩;refine⟨_,Y,G,_,Y,R,λp H7 np g7 hp=>?_⟩;refine q p b H7 (E.trans g7) ?_ T L;rw[hp];unfold oA;rw[Y9];rfl
inductive RM(C CL CJ:U)(d:Z V)(H:Hp)(Q:VK)(E:XK):Prop
 |mk (l:BL) (b:BS) (c a:Z Int) (i:Nat) (j:d=[.ref l.h,.str (aw b.ps i)]) (h:bA H C CL CJ l c a b) (e:(b.ps.map (·.1)).Nodup) (g:i<b.ps.length) (q:Q (.int (i:Int)) H)
def Ox:aQ jX jX (aI A3):=.a9
def ZcE(F:aP K "place_of" "Hearth.place_of" A3 f fd)(a:fX K C):aE P w K B I aO 1 f fd jX (RM C CL CJ):=by
 refine F.o Ox λs H e h=>?_;obtain⟨l,b,o,n,i,rfl,c,k,m,q⟩:=h;refine⟨_,(aq (aU (kq (nG (bw e) (pv 1) (pF K 0)) QU) gw bb) (av (aK (dy (bw e) (pF K 0) (pv 1) (λ_ _=>Y))))),?_⟩;refine ie ?_;intros;obtain⟨j,g⟩:=c.obj;have d:=rU k m;exact⟨_,Y,_,Y,l.h,C,j,_,_,Y,g,a.cls,a.oK,Y,l.pl,O _,Y,c_ c.places d,_,Y,bV (aX ⟨_,Y,l.h,C,j,_,_,Y,g,a.cls,a.oK,Y,_,Y,l.pl,_,Y,c_ c.places d,q⟩)⟩
def Co(h:z∈b.map (·.1)):∃i,i<b.length/\z=aw b i:=by
 obtain⟨i,a,e⟩:=Ob h;rw[Ya] at a;refine⟨i,a,?_⟩;rw[←e,xg,aw,Yd,Yb a];rfl
def ZeE(c:b.length=ps.length)(a:mM b is)(d:α):(is.map λi=>ps.getD i d).Perm ps:=by
 have:=a.1.map λi=>ps.getD i d;rw[c,range_getD] at this;exact this
noncomputable def eP(a:bI)(x:af):Nat:=(a.map (·.1)).findIdx λy=>decide (y=x)
def Cp(d:(a.map (·.1)).Nodup)(g:i<a.length):eP a (aw a i)=i:=by
 unfold eP;have b:i<(a.map (·.1)).length:=by rwa[Ya]
 have e:aw a i=(a.map (·.1))[i]:=by
  rw[xg,aw,Yd,Yb g];rfl
 rw[e];refine(List.findIdx_eq b).mpr ⟨d6 Y,λj c=>?_⟩;refine ij λz=>?_;exact Wa.mp d j i (tr c b) b c z
def nm_pairwise{a:bI}(d:(a.map (·.1)).Nodup):(a.map (·.1)).Pairwise λx y=>eP a x<eP a y:=by
 rw[Wa];intro i j g e h;have at_:∀k (b:k<(a.map (·.1)).length),eP a (a.map (·.1))[k]=k:=λk b=>by
  have c:k<a.length:=by rw[Ya] at b;exact b
  have:=Cp d c
  rwa [show aw a k=(a.map (·.1))[k] by rw[xg,aw,Yd,Yb c];rfl] at this
 rwa[at_ i g,at_ j e]
def Zdz(u:(e.map (·.1)).Nodup){ks:Z af}(v:ks.Nodup)(m:∀k∈ks,k∈e.map (·.1))(t:mM (ks.map λx=>(eP e x:Int)) is)(d:af):(is.map λi=>ks.getD i d)=(e.map (·.1)).filter λx=>decide (x∈ks):=by
 have H:(ks.map λx=>(eP e x:Int)).length=ks.length:=Ya _;have n:=ZeE H t d;have D:∀i∈is,i<ks.length:=λi l=>by have:=Wk.mp (t.1.subset l);omega
 have G:((e.map (·.1)).filter λx=>decide (x∈ks)).Perm ks:=(List.perm_ext_iff_of_nodup (u.sublist NP) v).mpr λx=>by
  rw[Y4];exact⟨λh=>eL h.2,λh=>⟨m x h,d6 h⟩⟩
 refine List.Perm.eq_of_pairwise (λa b _ _ R Q=>QO) ?_ ((nm_pairwise u).sublist NP) (n.trans G.symm);rw[W3];have y:=(t.1.nodup_iff.mpr XR);refine(Y_.mp (t.2.and y)).imp λ{i j} E=>?_;refine d7 E λl P h ne=>?_;have z:∀i,i<ks.length->(ks.map λx=>(eP e x:Int)).getD i 0=(eP e (ks.getD i d):Int):=λi l=>by
  rw[Yd,Yf,Yb l,Yd,Yb l];rfl
 have s:=D i l;have r:=D j P;rw[z i s,z j r] at h;rcases h with h|⟨h,_⟩;·omega
 ·have o:∀k,k<ks.length->ks.getD k d∈e.map (·.1):=λk N=>m _ (by rw[Yd,Yb N];exact Wo _);refine bh (Co (o i s)) λp L g=>?_;obtain⟨q,J,A⟩:=Co (o j r);rw[g,A,Cp u L,Cp u J] at h;have F:p=q:=(nF h)
  rw[F,←A] at g;exfalso;rw[Yd,Yb s,Yd,Yb r] at g;have g:=g;rcases VA ne with c|c;·exact Wa.mp v i j s r c g
  ·exact Wa.mp v j i r s c g.symm
inductive Pz(C CL CJ c:U)(a:Z V)(H:Hp)(Q:VK)(E:XK):Prop
 |mk (l:BL) (b:BS) (g d:Z Int) (z:af) (m:a=[.ref l.h,.str z]) (k:bA H C CL CJ l g d b) (h:(b.ps.map (·.1)).Nodup) (j:z.length<=1000) (e:∀i,i<b.ps.length->z=aw b.ps i->Q (.int (i:Int)) H) (no:z∉b.ps.map (·.1)->XP H c "no person" E):Pz C CL CJ c a H Q E
def Qv(C CL CJ b:U):Sp:=λa H Q E=>Pz C CL CJ b a H Q E
def Zf7(h:z∉b.map (·.1)):aL (jB b) (.inr z)=aG:=qg λm=>h (by
 refine bh (Yk.mp m) λp c e=>?_;obtain⟨⟨q,i⟩,a,rfl⟩:=Yk.mp c;exact Yk.mpr ⟨q,(Mw (by rw[List.zipIdx_eq_zip_range'] at a;exact a)).1,We e⟩)
def ZbS(F:aP K "place_of" "Hearth.place_of" A3 f fd)(a:fX K C)(x:zc P w K B I "NoPerson" "no person" v):aE P w K B I (oa P w) 4 f fd jX (Qv C CL CJ v):=by
 refine F.DJ Ox (λr H Q E h=>?_) (λy A e s H r Q E g h=>?_)
 ·obtain⟨l,b,q,p,z,rfl,_⟩:=h;rfl
 obtain⟨l,b,q,p,z,rfl,c,t,u,d,no⟩:=h;refine⟨_,(aq (aU (kq (nG (bw g) (pv 1) (pF K 0)) QU) (av (PX x g (by decide) Y Y zo (pv 1))) bb) (av (aK (dy (bw g) (pF K 0) (pv 1) (λ_ _=>Y))))),?_⟩;refine hH c.obj λk j=>?_;by_cases m:z∈b.ps.map (·.1)
 ·refine bh (Co m) λi o D=>?_;subst D;have n:=rU t o;exact⟨_,Y,_,Y,l.h,C,k,_,_,Y,j,a.cls,a.oK,Y,l.pl,O _,Y,c_ c.places n,_,Y,bV (aX ⟨_,Y,l.h,C,k,_,_,Y,j,a.cls,a.oK,Y,_,Y,l.pl,_,Y,c_ c.places n,d i o Y⟩)⟩
 ·exact⟨_,Y,_,Y,l.h,C,k,_,_,Y,j,a.cls,a.oK,Y,l.pl,aG,Y,c_ c.places (Zf7 m),_,Y,dh ⟨_,Y,z,Y,(gm u (by decide)),no m⟩⟩
theorem Zf8(z k:Nat)(d:k<60):dD z k≠"stranger":=λe=>by
 have e:(dD z k).cps.toList[1]?=O 116:=by rw[e];decide+kernel
 rw[Bw z k d] at e;have c:∀(n:Nat) (r:Z Nat),n<61->(kg n++r)[0]?≠O 116:=λn r h=>by
  unfold kg;split;·intro z;injection z with z;omega
  ·intro z;injection z with z;omega
 by_cases b:z % 3=0
 ·rw[bR b] at e;injection e with e;omega
 ·rw[bt b] at e;by_cases a:z % 3=1
  ·rw[bR a,YC] at e;cases f:fZ k z with
   |zero=>rw[f] at e;exact c ((k*17+z) % 61) [] (lL _ (by decide)) (by simpa using e)
   |succ m=>rw[f,NS] at e;injection e with e;omega
  ·rw[bt a,YC] at e;exact c ((k*17+z) % 61) _ (lL _ (by decide)) e
def getD_map(g:α->β)(a:Z α)(d:α)(e:β)(h:i<a.length):(a.map g).getD i e=g (a.getD i d):=by
 rw[Yd,Yf,Yb h,Yd,Yb h];rfl
def Led(b:BS)(l x y:af):Prop:=∃c∈b.F,∃e∈iE b.ps c,e.s=x/\e.l=l/\e.g=y
def Rn(b:BS)(a z:af):Nat->af->Prop
 |0,y=>y=a
 |i+1,y=>∃x c,Rn b a z i x/\z.cps[i]?=O c/\Led b ⟨#[c]⟩ x y
def S9(g:F.Perm b.F):y∈dQ (iF b.ps F) x l↔Led b l x y:=by
 rw[S8];constructor
 ·rintro⟨e,m,h⟩;refine bh (Ec.mp m) λc d a=>?_;exact⟨c,g.subset d,e,a,h⟩
 ·rintro⟨c,d,e,a,h⟩;exact⟨e,Ec.mpr ⟨c,g.symm.subset d,a⟩,h⟩
def kinds_ok(a:cL xs e b)(h:c∈b.F):c.k=bj\/mP c.k:=by
 obtain⟨p,d,rfl⟩:=Yk.mp h;rcases(a.fg p d).kind with k|k;·exact .inl k
 ·simp[Yp,Y1,gV,Prod.mk.injEq] at k;rcases k with k|k|k|k;·exact .inr (.inl k.1)
  ·exact .inr (.inr (.inl k.1))
  ·exact .inr (.inr (.inr (.inl k.1)))
  ·exact .inr (.inr (.inr (.inr k.1)))
def Zf9(i:cL xs m b)(h:Led b l x y):y∈b.ps.map (·.1):=by
 obtain⟨c,k,e,a,_,_,rfl⟩:=h;obtain⟨p,j,rfl⟩:=Yk.mp k;have d:=(i.fg p j).ok;unfold iE at a;split at a;·cases a
 ·rename_i ns
  obtain⟨⟨_,g⟩,_⟩:=d.iV ns;rcases Yp.mp a with rfl|a;·exact wq g
  ·rw[Yi.mp a];exact wq d.one
theorem Kw{e d:Z Int}{b:BS}(g:cL e d b){a z:af}(j:a∈b.ps.map (·.1)):∀{i:Nat} {y:af},Rn b a z i y->y∈b.ps.map (·.1)
 |0,y,h=>by have:=h;rwa[this]
 |i+1,y,⟨x,c,_,_,h⟩=>Zf9 g h
inductive Qw(C CL CJ h i:U)(e:Z V)(H:Hp)(Q:VK)(E:XK):Prop
 |mk (l:BL) (b:BS) (d c:Z Int) (u z:af) (o:e=[.ref l.h,.str u,.str z]) (n:bA H C CL CJ l d c b) (ok:cL d c b) (k:b.ps.length<=60) (m:u.length<=1000) (j:¬fw z->XP H i "no word" E) (no:fw z->u∉b.ps.map (·.1)->XP H h "no person" E)
  (yes:fw z->u∈b.ps.map (·.1)->∀(p:U) (g:Z af) (a:Hp),ah H a->(∀y,y∈g↔Rn b u z z.length y)->a p=O (.lst (((b.ps.map (·.1)).filter λx=>decide (x∈g)).map V.str))->Q (.ref p) a):Qw C CL CJ h i e H Q E
def JT(C CL CJ b c:U):Sp:=λa H Q E=>Qw C CL CJ b c a H Q E
noncomputable abbrev Dn:Z af:=["hearth","name","word"]
def yJ:aQ ["hearth","name","word","steps","names","letter"] Dn (aI JD):=.a9
theorem ZdA(F:aP K "called" "called" JD f fd)(bn:∀f,Meth K C "place_of" f->wR K C "place_of" f)(GA:CS P w K B I 4 "check_word" ["word"] (RL cB))(E9:T5 P w K B I 4 "place_of" C jX (Qv C CL CJ cN))(yk:cJ P w K B I 1 "place_of" C jX (RM C CL CJ))(Gd:cJ P w K B I 1 "kept" C jV (Us C CL CJ))(FW:HasFn P w K B I 3 "letter_steps" ["kept"] Px)(Im:HasFn P w K B I 1 "led_from" Mr Qt)(bl:Bl B):aE P w K B I (oa P w) 6 f fd Dn (JT C CL CJ cN cB):=by
 refine F.DJ yJ (λvs H Q E h=>?_) (λbL A outer s H vs Q E t h=>?_)
 ·obtain⟨l,b,W,T,u,z,rfl,_⟩:=h;rfl
 obtain⟨l,b,W,T,u,z,rfl,ba,ok,pl,lu,bad,no,yes⟩:=h;have hu:=t.oS;have Zan:=yk;have yk:=E9;refine⟨_,(aq (bY (KG GA t (by decide) zo Y (aa (pv 2) ae))) (aq (bY (Zis yk t (by decide) zo (pv 0) (aa (pv 1) ae))) (aq (bM 3 yJ.nd (aY FW t (aa (ze Gd t (by decide) (pv 0)) ae))) (aq (bM 4 yJ.nd (cO (aa (pv 1) ae))) (aq (dI wN Y (Cd (pv 2)) (a8 5 yJ.nd) (av (bM 4 yJ.nd (aY Im t (aa (pv 3) (aa (pv 4) (aa (pv 5) ae))))))) (av (aK (ZfA Y Zan bn t (by decide) Y bl.yM yG (aa (pv 4) ae) (pv 0))))))))),?_⟩;refine tI ?_;intros;have sz:(10000:Nat)<=sizeLine:=by rw[du];decide
 obtain⟨dx,h1⟩:=ba.obj;refine⟨_,Y,z,Y,λsv=>?_,bad⟩;refine⟨_,Y,l.h,dx,_,Y,h1,Y,_,Y,l,b,W,T,u,Y,ba,ok.nm,lu,λi q ez=>?_,no sv⟩;have mu:u∈b.ps.map (·.1):=by rw[ez];exact wq q
 dsimp only;refine bT ?_;refine⟨_,Y,l.h,dx,_,Y,h1,Y,l,b,W,T,Y,ba,ok.zs,ok.fl,λp as N H1 np g1 pm so hp pr=>?_⟩;have Oj:(N.map (·.2)).Perm b.F:=pm.map _;have lF:(N.map (·.2)).length<=63:=by rw[Ya,pm.length_eq];exact ok.fl
 have fl:FL H1 b.ps p (N.map (·.2)):=by
  refine⟨as,hp,?_⟩;have:∀{as:Z U} {fs:Z (Nat×Fc)},Paired (dG H1 b.ps) as fs->Paired (AN H1 b.ps) as (fs.map (·.2)):=λh=>by
   induction h with
   |nil=>exact .nil
   |cons e _ ih=>exact .cons ⟨_,e⟩ ih
  exact this pr
 refine⟨p,b.ps,N.map (·.2),Y,fl,λc X=>kinds_ok ok (Oj.subset X),(lK lF),λd H2 g2 tb=>?_⟩;have le:=B5 b.ps (N.map (·.2));refine bT ?_;refine⟨_,Y,by show 1<=sizeLine;decide,λn0 H3 nn0 g3 dP=>?_⟩;have gH3:ah H H3:=(g1.trans g2).trans g3;refine fW (λD n=>∃(g:U) (a:Z af) (G:bS V),ah H n/\n g=O (.lst (a.map V.str))/\a.Nodup/\(∀y,y∈a↔Rn b u z z.length y)/\D=[O (.ref l.h),O (.str u),O (.str z),O (.ref d),O (.ref g),G]) (λkM hnx=>?_) ?_
 ·refine⟨_,Y,z,Y,Kd (λi D n=>∃(g:U) (a:Z af) (G:bS V),ah H n/\vy n d (iF b.ps (N.map (·.2)))/\n g=O (.lst (a.map V.str))/\a.Nodup/\(∀y,y∈a↔Rn b u z i y)/\D=[O (.ref l.h),O (.str u),O (.str z),O (.ref d),O (.ref g),G]) ⟨n0,[u],aG,gH3,tb.same g3,dP,Y3.mpr ⟨(λz=>nomatch z),W5⟩,λy=>Yi,Y⟩ ?_ ?_⟩
  ·intro i c D n X ZH;refine lG ZH λg a G L Ol R J o CT=>?_;subst CT;have kl:a.length<=64:=Yy (K7 J (zs:=b.ps.map (·.1)) λk m=>Kw ok mu ((o k).mp m)) (by rw[Ya];omega);refine aS ?_;refine⟨_,Y,_,Y,_,Y,d,g,_,a,_,Y,Ol,QO,R,(gm kl (by decide)),λp' vA H7 g7 Oe NK iff=>?_⟩;refine⟨p',vA,_,L.trans g7,Ol.same g7,Oe,NK,λy=>?_,Y⟩;rw[iff];constructor
   ·rintro⟨x,hx,hy⟩;exact⟨x,c,(o x).mp hx,X,(S9 Oj).mp hy⟩
   ·rintro⟨x,c',hx,d_,hy⟩;rw[X] at d_;cases d_;exact⟨x,(o x).mpr hx,(S9 Oj).mpr hy⟩
  ·intro D n ZH;refine lG ZH λg a G L Ol R J o CT=>?_;subst CT;exact hnx _ _ ⟨g,a,_,L,R,J,o,Y⟩
 intro D n ZH;refine kS ZH λg a G L R J o CK=>?_;subst CK;have nv:=ba.same L;obtain⟨dx6,xC⟩:=nv.obj;have sub:∀k∈a,k∈b.ps.map (·.1):=λk m=>Kw ok mu ((o k).mp m);have kl:a.length<=60:=Yy (K7 J (zs:=b.ps.map (·.1)) sub) (by rw[Ya];exact pl);refine⟨_,Y,_,Y,l.h,dx6,_,a.map V.str,a.map (λx=>(eP b.ps x:Int)),Y,xC,Y,⟨g,Y,.inl (aj.of R)⟩,by rw[Ya,Ya],by rw[Ya];omega,λi v k r m=>?_,λis sb p7 H7 np7 g7 EM=>?_⟩
 ·rw[Yf] at r m;have q:i<a.length:=by
   cases e:a[i]? with
   |none=>rw[e] at r;cases r
   |some x=>exact(Yh.mp e).1
  rw[Yb q] at r m;have r:V.str a[i]=v:=Yo r;have m:(eP b.ps a[i]:Int)=k:=Yo m;refine bh (Co (sub _ (Wo q))) λj hj ej=>?_;rw[ej,Cp ok.nm hj] at m;exact⟨l,b,W,T,j,by rw[←r,ej],nv,ok.nm,hj,m▸Y,Y⟩
 have dO:∀i∈is,i<a.length:=λi q=>by have:=Wk.mp (sb.1.subset q);rwa [Ya] at this
 have Zj7:(is.map λi=>(a.map V.str).getD i .aA)=((b.ps.map (·.1)).filter λx=>decide (x∈a)).map V.str:=by
  rw[←Zdz ok.nm J sub sb "",Y9];exact Wq λi q=>getD_map V.str a "" .aA (dO i q)
 rw[Zj7] at EM;exact yes sv mu p7 a H7 (L.trans g7) o EM
def Zjc(h:c∈iY):(Builtin.Str.occurrences "mfws" ⟨#[c]⟩ 0 (Str.ofString "mfws").length 1=[]/\∀k,mP k->lY k≠⟨#[c]⟩)\/∃(j:Nat) (r:Z Nat) (k:af),Builtin.Str.occurrences "mfws" ⟨#[c]⟩ 0 (Str.ofString "mfws").length 1=j::r/\dN [V.str "mother",V.str "father",V.str "wed",V.str "sibling"] (j:Int)=O (.str k)/\mP k/\lY k=⟨#[c]⟩/\∀b,mP b->lY b=⟨#[c]⟩->b=k:=by
 simp[Yp,Y1,gV] at h;rcases h with rfl|rfl|rfl|rfl|rfl|rfl|rfl;·exact .inl ⟨QK,by rintro k (rfl|rfl|rfl|rfl)<;>decide+kernel⟩
 ·exact .inr ⟨1,[],"father",QK,Y,.inr (.inl Y),QK,by rintro k (rfl|rfl|rfl|rfl) e<;>first|rfl|exact absurd e QK⟩
 ·exact .inl ⟨QK,by rintro k (rfl|rfl|rfl|rfl)<;>decide+kernel⟩
 ·exact .inl ⟨QK,by rintro k (rfl|rfl|rfl|rfl)<;>decide+kernel⟩
 ·exact .inr ⟨0,[],"mother",QK,Y,.inl Y,QK,by rintro k (rfl|rfl|rfl|rfl) e<;>first|rfl|exact absurd e QK⟩
 ·exact .inr ⟨3,[],"sibling",QK,Y,.inr (.inr (.inr Y)),QK,by rintro k (rfl|rfl|rfl|rfl) e<;>first|rfl|exact absurd e QK⟩
 ·exact .inr ⟨2,[],"wed",QK,Y,.inr (.inr (.inl Y)),QK,by rintro k (rfl|rfl|rfl|rfl) e<;>first|rfl|exact absurd e QK⟩
def Zjd(h:c∈iY):(Builtin.Str.occurrences "ckhs" ⟨#[c]⟩ 0 (Str.ofString "ckhs").length 1=[]/\∀k,mP k->ltB k≠⟨#[c]⟩)\/∃(j:Nat) (r:Z Nat) (k:af),Builtin.Str.occurrences "ckhs" ⟨#[c]⟩ 0 (Str.ofString "ckhs").length 1=j::r/\dN [V.str "mother",V.str "father",V.str "wed",V.str "sibling"] (j:Int)=O (.str k)/\mP k/\ltB k=⟨#[c]⟩/\∀b,mP b->ltB b=⟨#[c]⟩->b=k:=by
 simp[Yp,Y1,gV] at h;rcases h with rfl|rfl|rfl|rfl|rfl|rfl|rfl;·exact .inr ⟨0,[],"mother",QK,Y,.inl Y,QK,by rintro k (rfl|rfl|rfl|rfl) e<;>first|rfl|exact absurd e QK⟩
 ·exact .inl ⟨QK,by rintro k (rfl|rfl|rfl|rfl)<;>decide+kernel⟩
 ·exact .inr ⟨2,[],"wed",QK,Y,.inr (.inr (.inl Y)),QK,by rintro k (rfl|rfl|rfl|rfl) e<;>first|rfl|exact absurd e QK⟩
 ·exact .inr ⟨1,[],"father",QK,Y,.inr (.inl Y),QK,by rintro k (rfl|rfl|rfl|rfl) e<;>first|rfl|exact absurd e QK⟩
 ·exact .inl ⟨QK,by rintro k (rfl|rfl|rfl|rfl)<;>decide+kernel⟩
 ·exact .inr ⟨3,[],"sibling",QK,Y,.inr (.inr (.inr Y)),QK,by rintro k (rfl|rfl|rfl|rfl) e<;>first|rfl|exact absurd e QK⟩
 ·exact .inl ⟨QK,by rintro k (rfl|rfl|rfl|rfl)<;>decide+kernel⟩
inductive UO(j:Z V)(H:Hp)(Q:VK)(E:XK):Prop
 |mk (i h:U) (b:BS) (a:Z af) (e:Nat) (r:j=[.ref i,.ref h,.str ⟨#[e]⟩]) (o:FL H b.ps i b.F) (m:∀c∈b.F,c.k=bj\/mP c.k) (l:b.F.length<=64) (n:H h=O (.lst (a.map V.str))) (k:e∈iY) (q:∀(p:U) (d:Z af) (g:Hp),ah H g->g p=O (.lst (d.map V.str))->(∀y,y∈d↔∃x∈a,Led b ⟨#[e]⟩ x y)->d.length<=200->Q (.ref p) g)
def sF(b:BS)(l:af)(a:Z af)(j:Nat)(y:af):Prop:=∃x∈a,∃c∈b.F.take j,∃e∈iE b.ps c,e.s=x/\e.l=l/\e.g=y
def sF.step(n:b.F.take (j+1)=b.F.take j++[c])(y:af):sF b l row (j+1) y↔(sF b l row j y\/((c.k≠bj/\lY c.k=l/\aw b.ps c.one∈row)/\y=aw b.ps c.aH.toNat))\/((c.k≠bj/\ltB c.k=l/\aw b.ps c.aH.toNat∈row)/\y=aw b.ps c.one):=by
 unfold sF;constructor
 ·rintro⟨x,k,o,h,e,a,g,d,m⟩;rw[n] at h;rcases Yq.mp h with h|h;·exact .inl (.inl ⟨x,k,o,h,e,a,g,d,m⟩)
  ·rw[Yi.mp h] at a;unfold iE at a;split at a;·cases a
   ·rename_i i
    rcases Yp.mp a with rfl|a;·exact .inl (.inr ⟨⟨i,d,by rw[show aw b.ps c.one=x from g];exact k⟩,m.symm⟩)
    ·rw[Yi.mp a] at g d m;exact .inr ⟨⟨i,d,by rw[show aw b.ps c.aH.toNat=x from g];exact k⟩,m.symm⟩
 ·have p:c∈b.F.take (j+1):=by exact n▸Yg _ Ym
  rintro((⟨x,k,o,h,r⟩|⟨⟨i,d,g⟩,rfl⟩)|⟨⟨i,d,g⟩,rfl⟩);·exact⟨x,k,o,by exact n▸Ys _ h,r⟩
  ·exact⟨_,g,c,p,⟨_,_,_⟩,by unfold iE;rw[bt i];exact Ym,Y,d,Y⟩
  ·exact⟨_,g,c,p,⟨_,_,_⟩,by unfold iE;rw[bt i];exact Yx _ Ym,Y,d,Y⟩
abbrev sN(e a d:U)(g:Nat)(z:Int)(c:Fc)(b:BS):St:=[O (.ref e),O (.ref a),O (.str ⟨#[g]⟩),O (.ref d),O (.int z),O (.str c.k),O (.str (aw b.ps c.one)),O (kV (bo b.ps c))]
inductive AZ(H:Hp)(b:BS)(a:Z af)(p o d:U)(i j:Nat)(n:St)(k:Hp):Prop
 |mk (c:Z af) (t s r q:bS V) (g:ah H k) (h:k d=O (.lst (c.map V.str))) (m:∀y,y∈c↔sF b ⟨#[i]⟩ a j y) (l:c.length<=2*j) (e:n=[O (.ref p),O (.ref o),O (.str ⟨#[i]⟩),O (.ref d),t,s,r,q]):AZ H b a p o d i j n k
noncomputable abbrev Ms:Z af:=["_law_facts","_law_row_here","_law_letter"]
def vS:aQ ["_law_facts","_law_row_here","_law_letter","_law_found","_law_number","_law_kind","_law_one","_law_other"] Ms (aI HS):=.a9
def ZcF(F:aP K "_law_next" "_law_next" HS f fd)(bl:Bl B):aE P w K B I aO 1 f fd Ms UO:=by
 refine F.o vS λs H hr h=>?_;obtain⟨E,D,b,i,A,rfl,fl,kd,ln,hrl,sv,q⟩:=h;have hu:=hr.oS;refine⟨_,(aq (bM 3 vS.nd (cO ae)) (aq (dI Ax rfl (dY (K:=K) rfl (pv 0)) (hZ (K:=K) (n:=4) rfl rfl (bq (a8 4 vS.nd) (bq (a8 5 vS.nd) (bq (a8 6 vS.nd) (bq (a8 7 vS.nd) hV))))) (aq (aU (PW.pt (pw_and (fV Iu (pv 2) aT (by with_unfolding_all rfl)) (pw_and (bG b_ (pv 5) (bc (iL K) (cO (aa aT (aa aT (aa aT (aa aT ae))))) (iK Qdn Qdm Qdl P5 aT (aa (pv 2) ae)))) (pw_and1 (fV (kH (K:=K) rfl) (pv 6) (pv 1) (by with_unfolding_all rfl)))))) (av (bY (kW (K:=K) rfl (iK Aw QcS QcR l_ (pv 3) (aa (pv 7) ae))))) bb) (av (aU (PW.pt (pw_and (fV Iu (pv 2) aT (by with_unfolding_all rfl)) (pw_and (bG b_ (pv 5) (bc (iL K) (cO (aa aT (aa aT (aa aT (aa aT ae))))) (iK Qdn Qdm Qdl P5 aT (aa (pv 2) ae)))) (pw_and1 (fV (kH (K:=K) rfl) (pv 7) (pv 1) (by with_unfolding_all rfl)))))) (av (bY (kW (K:=K) Y (iK Aw QcS QcR l_ (pv 3) (aa (pv 6) ae))))) bb)))) (av (aK (pv 3))))),?_⟩;refine me ?_;intros;refine me ?_;intros;have sz:(10000:Nat)<=sizeLine:=by rw[ro];decide
 refine cu fl.get λas cW al get=>?_;obtain⟨ll,el⟩:∃ll:af,ll=⟨#[A]⟩:=⟨_,Y⟩;refine bT ?_;refine⟨by show 0<=sizeLine;decide,λx H1 EK g1 D4=>?_⟩;refine fW (AZ H b i E D x A b.F.length) (λkM dP=>?_) ?_
 ·refine⟨_,Y,E,Y,⟨_,aj.of (g1 _ _ cW)⟩,g_ (K:=K) (a:=E) (xs:=as.map V.ref) (AZ H b i E D x A) ⟨[],aG,aG,aG,aG,g1,D4,λy=>⟨(λh=>nomatch h),λ⟨_,_,_,h,_⟩=>(nomatch h)⟩,Ye _,Y⟩ (λj T H6 _ ⟨_,_,_,_,_,g,_,_,_,_⟩=>aj.of (g _ _ cW)) ?_ ?_⟩
  ·rintro j v T H6 hj ⟨W,o4,o5,o6,o7,N,X,L,l6,rfl⟩;refine jI (get H6 j v N hj) λc0 c z js ec ni hc=>?_;subst js;have jl:j<b.F.length:=(Yh.mp ec).1;have st:=sF.step (l:=⟨#[A]⟩) (row:=i) ni;have kc:=kd c (Yj ec);refine⟨c0,_,Y,aC.of hc,Y,_,_,Y,aS ⟨_,_,Y,aS ⟨_,_,Y,aS ⟨_,_,Y,aS ⟨Y,?_⟩⟩⟩⟩⟩;obtain⟨A1,EN⟩:∃A1:Prop,A1=(c.k≠bj/\lY c.k=⟨#[A]⟩/\aw b.ps c.one∈i):=⟨_,Y⟩;obtain⟨A2,EO⟩:∃A2:Prop,A2=(c.k≠bj/\ltB c.k=⟨#[A]⟩/\aw b.ps c.aH.toNat∈i):=⟨_,Y⟩;rw[←EN,←EO] at st;refine ie ?_;intros;refine kr (λT H'=>∃(R:Z af),ah H H'/\H' x=O (.lst (R.map V.str))/\(∀y,y∈R↔sF b ⟨#[A]⟩ i j y\/(A1/\y=aw b.ps c.aH.toNat))/\R.length<=2*j+1/\T=sN E D x A z c b) (λxU kO=>?_) ?_
   ·have Vy:¬A1->∀H',ah H6 H'->xU (sN E D x A z c b) H':=λna H' g'=>kO _ _ ⟨W,N.trans g',g' _ _ X,λy=>⟨λh=>.inl ((L y).mp h),λh=>h.elim (L y).mpr λh=>absurd h.1 na⟩,lK l6,Y⟩;rcases Zjc sv with⟨G,no⟩|⟨ix,r,k,G,ak,tk,ek,un⟩
    ·refine(Bt.and (a:=a_) (b:=ar) (λQ p=>⟨_,Y,_,_,Y,Y,_,Y,by rw[G];exact p _ (ah.refl _)⟩) λ_ h=>(by cases h)) _ λJ t=>bV (aX (Vy (λh=>?_) J t));rw[EN] at h;exact no c.k (kc.resolve_left h.1) h.2.1
    ·refine(Bt.and (a:=ar) (λQ p=>⟨_,Y,_,_,Y,Y,_,Y,by rw[G];exact p _ (ah.refl _)⟩) λH7 _ g7=>Bt.and (a:=decide (c.k=k)) (b:=eW (.str (aw b.ps c.one)) (i.map V.str)) (λQ p=>⟨_,Y,by show 4<=sizeLine;decide,λkl H8 ZY g8 sP=>⟨Y,_,Y,_,_,ix,r,Y,Y,G,kl,_,_,_,Y,Y,aj.of sP,ak,Y,_,Y,by rw[d9];exact p _ g8⟩⟩) λH8 _ g8 Q p=>⟨_,Y,_,Y,D,_,Y,.inl (aj.of (g8 _ _ (g7 _ _ (N _ _ hrl)))),Y,yI i,_,Y,p _ (ah.refl _)⟩) _ λJ t=>bC (λh=>?_) (λh=>aX (Vy (λu=>h ?_) J t))
     ·rw[Jc] at h;obtain⟨h1,h2⟩:=Ja.mp h;have ck:c.k=k:=wd h1;have ns:c.k≠bj:=by rw[ck];exact(y6 tk).2.2.2
      have eo:kV (bo b.ps c)=.str (aw b.ps c.aH.toNat):=by rw[iH ns];rfl
      have u:A1:=by rw[EN];exact⟨ns,by rw[ck];exact ek,(sE _ _).mp h2⟩
      have h69:=t _ _ X;refine⟨_,Y,.inl ⟨Y,_,aj.of h69⟩,_,Y,x,_,_,Y,Y,h69,by rw[Ya];omega,λHB bB eB=>?_⟩;refine kO _ _ ⟨W++[aw b.ps c.aH.toNat],λd o e=>bB _ _ (t _ _ (N _ _ e)) (bU e EK),by rw[eB,eo,Yr];rfl,λy=>?_,by rw[Yl];show _+1<=_;omega,Y⟩;rw[Yq,L,Yi];exact⟨λh=>h.imp id λe=>⟨u,e⟩,λh=>h.imp id λe=>e.2⟩
     ·rw[EN] at u;rw[Jc];exact Ja.mpr ⟨wk (un c.k (kc.resolve_left u.1) u.2.1),(sE _ _).mpr u.2.2⟩
   ·rintro T H7 ⟨R,g7,h7,m7,l7,rfl⟩;have fin:∀(H':Hp) (zP:Z af),ah H H'->H' x=O (.lst (zP.map V.str))->(∀y,y∈zP↔y∈R\/(A2/\y=aw b.ps c.one))->zP.length<=2*j+2->AZ H b i E D x A (j+1) (sN E D x A z c b) H':=λH' zP g h m l=>⟨zP,_,_,_,_,g,h,λy=>by rw[m,m7,st],l,Y⟩;have Vz:¬A2->∀H',ah H7 H'->AZ H b i E D x A (j+1) (sN E D x A z c b) H':=λna H' g'=>fin H' R (g7.trans g') (g' _ _ h7) (λy=>⟨.inl,λh=>h.elim id λh=>absurd h.1 na⟩) (lK l7);rcases Zjd sv with⟨G,no⟩|⟨ix,r,k,G,ak,tk,ek,un⟩
    ·refine(Bt.and (a:=a_) (b:=ar) (λQ p=>⟨_,Y,_,_,Y,Y,_,Y,by rw[G];exact p _ (ah.refl _)⟩) λ_ h=>(by cases h)) _ λJ t=>bV (aX (Vz (λh=>?_) J t));rw[EO] at h;exact no c.k (kc.resolve_left h.1) h.2.1
    ·refine(Bt.and (a:=ar) (λQ p=>⟨_,Y,_,_,Y,Y,_,Y,by rw[G];exact p _ (ah.refl _)⟩) λH8 _ g8=>Bt.and (a:=decide (c.k=k)) (b:=eW (.str (aw b.ps c.aH.toNat)) (i.map V.str)) (λQ p=>⟨_,Y,by show 4<=sizeLine;decide,λkl J ZY t sP=>⟨Y,_,Y,_,_,ix,r,Y,Y,G,kl,_,_,_,Y,Y,aj.of sP,ak,Y,_,Y,by rw[d9];exact p _ t⟩⟩) λJ ct t Q p=>⟨kV (bo b.ps c),Y,_,Y,D,_,Y,.inl (aj.of (t _ _ (g8 _ _ (g7 _ _ hrl)))),Pr (yZ _),yI i,_,Y,by rw[show kV (bo b.ps c)=.str (aw b.ps c.aH.toNat) from by rw[iH (by rw[wd ct];exact(y6 tk).2.2.2)];rfl];exact p _ (ah.refl _)⟩) _ λJ t=>bC (λh=>?_) (λh=>aX (Vz (λu=>h ?_) J t))
     ·rw[Jc] at h;obtain⟨h1,h2⟩:=Ja.mp h;have ck:c.k=k:=wd h1;have ns:c.k≠bj:=by rw[ck];exact(y6 tk).2.2.2
      have u:A2:=by rw[EO];exact⟨ns,by rw[ck];exact ek,(sE _ _).mp h2⟩
      have h79:=t _ _ h7;refine⟨_,Y,.inl ⟨Y,_,aj.of h79⟩,_,Y,x,_,_,Y,Y,h79,by rw[Ya];omega,λHB bB eB=>?_⟩;refine fin HB (R++[aw b.ps c.one]) (λd o e=>bB _ _ (t _ _ (g7 _ _ e)) (bU e EK)) (by rw[eB,Yr];rfl) (λy=>?_) (by rw[Yl];show _+1<=_;exact Qc8 l7 _);rw[Yq,Yi];exact⟨λh=>h.imp id λe=>⟨u,e⟩,λh=>h.imp id λe=>e.2⟩
     ·rw[EO] at u;rw[Jc];exact Ja.mpr ⟨wk (un c.k (kc.resolve_left u.1) u.2.1),(sE _ _).mpr u.2.2⟩
  ·rintro T H6 ⟨W,o4,o5,o6,o7,N,X,L,l6,rfl⟩;rw[Ya,al] at L l6;exact dP _ _ ⟨W,_,_,_,_,N,X,L,l6,Y⟩
 rintro T H6 ⟨W,o4,o5,o6,o7,N,X,L,l6,rfl⟩;refine⟨_,Y,q x W H6 N X (λy=>?_) (by omega)⟩;rw[L];unfold sF Led;rw[Wc]
inductive RN(C CL CJ:U)(e:Z V)(H:Hp)(Q:VK):Prop
 |mk (l:BL) (b:BS) (d c:Z Int) (u z:af) (m:e=[.ref l.h,.str u,.str z]) (k:bA H C CL CJ l d c b) (ok:cL d c b) (i:b.ps.length<=60) (j:u.length<=1000) (h:¬fw z->∀(p:U) (a:Hp),ah H a->a p=O (.tup [.str "no word",.bl ar,.bl a_])->Q (.ref p) a) (no:fw z->u∉b.ps.map (·.1)->∀(p:U) (a:Hp),ah H a->a p=O (.tup [.str "no person",.bl a_,.bl ar])->Q (.ref p) a)
  (yes:fw z->u∈b.ps.map (·.1)->∀(p:U) (g:Z af) (a:Hp),ah H a->(∀y,y∈g↔Rn b u z z.length y)->a p=O (.lst (((b.ps.map (·.1)).filter λx=>decide (x∈g)).map V.str))->Q (.ref p) a):RN C CL CJ e H Q
def S_(C CL CJ:U):Sp:=λa H Q _=>RN C CL CJ a H Q
noncomputable abbrev Mt:Z af:=["_law_book","_law_name_here","_law_word_here"]
def OH:aQ ["_law_book","_law_name_here","_law_word_here","e"] Mt (aI GS):=.a9
def ZbT(F:aP K "_law_asked" "_law_asked" GS f fd)(X:CS P w K B I 6 "called" Dn (JT C CL CJ a fS))(qi:B "KinError"=O (.ref x))(Io:dH K x)
  (Bm:B "NoPerson"=O (.ref a))(o:dH K a)(N:dt K a "word")(EV:PySem.W.mroIn K a (.ref x)=O ar)(Bx:B "BadWord"=O (.ref fS))(n:dH K fS)(T:dt K fS "word")(EY:PySem.W.mroIn K fS (.ref x)=O ar)(q:PySem.W.mroIn K a (.ref fS)=O a_)(EZ:PySem.W.mroIn K fS (.ref a)=O a_)(E6:PySem.W.mroIn K fS (.ref fS)=O ar)(L:Bl B):aE P w K B I aO 12 f fd Mt (S_ C CL CJ):=by
 refine F.o OH @λbL A t vs Q E s H hr h=>?_;obtain⟨l,b,W,R,u,z,rfl,ba,ok,pl,lu,G,no,r⟩:=h;have JU:=X;have ne:a≠fS:=λe=>by rw[e,E6] at q;cases q
 refine⟨_,(av (Zib (i:=3) ⟨Y,Y⟩ OH.nd Y Y Y qi Io (λpn xe E hx ow=>(av (aK (KG JU hr (by decide) hx Y (aa (pv 0) (aa (pv 1) (aa (pv 2) ae))))))) (λ_=>(av (aK (dq (aa (Ze8 Y (pv 3)) (aa (hJ (QP Y) Y L.Gg FZ (aa (pv 3) (aa (c9 (v:=.ref fS) Y Bx Y) ae))) (aa (hJ (QP Y) Y L.Gg FZ (aa (pv 3) (aa (c9 (v:=.ref a) Y Bm Y) ae))) ae))))))))),?_⟩;refine⟨_,Y,_,Y,_,Y,l,b,W,R,u,z,Y,ba,ok,pl,lu,λm=>?_,λm1 m2=>?_,r⟩
 ·intro a' c H1 _ _ g e1 k;refine⟨fS,c,Y,Y,n,EY,λd j=>?_⟩;refine⟨_,Y,d,fS,c,_,_,Y,j,k,n,T,Y,?_⟩;refine⟨_,Y,d,fS,c,_,_,_,ar,Y,Y,j,k,n,QN _,?_⟩;refine⟨_,Y,d,fS,c,_,_,_,a_,Y,Y,j,k,n,PV o ne.symm EZ,?_⟩;exact⟨QD,λp J np D y=>G m p J (g.trans D) y⟩
 ·intro a' c H1 _ _ g e1 k;refine⟨a,c,Y,Y,o,EV,λd j=>?_⟩;refine⟨_,Y,d,a,c,_,_,Y,j,k,o,N,Y,?_⟩;refine⟨_,Y,d,a,c,_,_,_,a_,Y,Y,j,k,o,PV n ne q,?_⟩;refine⟨_,Y,d,a,c,_,_,_,ar,Y,Y,j,k,o,QN _,?_⟩;exact⟨QD,λp J np D y=>no m1 m2 p J (g.trans D) y⟩
theorem RO(b:dg Nat):∀(n:Nat) (a:dg Nat),(∀c∈((List.replicate n b).foldl (·++·) a).toList,c∈a.toList\/c∈b.toList)/\((List.replicate n b).foldl (·++·) a).size=a.size+n*b.size
 |0,a=>⟨λc h=>.inl h,QS⟩
 |n+1,a=>by
  obtain⟨e,d⟩:=RO b n (a++b);refine⟨λc h=>?_,?_⟩
  ·rcases e c h with h|h
   ·rw[Pw] at h;rcases Yq.mp h with h|h;·exact .inl h
    ·exact .inr h
   ·exact .inr h
  ·show((List.replicate n b).foldl (·++·) (a++b)).size=_;rw[d,XM,Nat.succ_mul];omega
def ZeF(h:fw z)(n:Nat):fw (Txt.mul z (n:Int))/\(Txt.mul z (n:Int)).length<=n*z.length:=by
 unfold Txt.mul;split;·exact⟨λc a=>(by cases a),Yw _⟩
 ·rename_i g
  split;·exact⟨h,Nat.le_mul_of_pos_left _ QO⟩
  ·obtain⟨e,d⟩:=RO z.cps (n:Int).toNat #[];refine⟨λc a=>?_,?_⟩
   ·rcases e c a with b|b;·cases b
    ·exact h c b
   ·show((List.replicate (n:Int).toNat z.cps).foldl (·++·) #[]).size<=_;exact d▸xl (DT _)
theorem PB{b:Z af}(d:b.Nodup)(h:x∈b)(p:af->cF)(c:∀y,p y=ar↔y=x):b.filter p=[x]:=by
 induction b with
 |nil=>cases h
 |cons a r j=>
  obtain⟨i,g⟩:=Y3.mp d;by_cases e:a=x
  ·rw[Jb ((c a).mpr e),e]
   congr 1
   exact List.filter_eq_nil_iff.mpr λy k z=>i (by rwa[e,←(c y).mp z])
  ·rw[X5 λz=>e ((c a).mp z)];exact j g ((Yp.mp h).resolve_left λz=>e z.symm)
theorem Zf_{xs:Z af}(h:(xs.map V.str)[i]?=O v):i<xs.length/\v=.str (xs.getD i "")/\xs.getD i ""∈xs:=by
 rw[Yf] at h;have a:i<xs.length:=by
  cases e:xs[i]? with
  |none=>rw[e] at h;cases h
  |some x=>exact(Yh.mp e).1
 rw[Yb a] at h;have b:xs.getD i ""=xs[i]:=by rw[Yd,Yb a];rfl
 exact⟨a,by exact b▸(Yo h).symm,by exact b▸Wo a⟩
theorem Qx{H:Hp}{m:Nat}:∀a:Z af,Paired (At H m) (a.map V.str) (a.map Dt.str)
 |[]=>.nil
 |x::a=>.cons (KN x) (Qx a)
def ZeG(h:xs.length<=63):(k9 xs (O 4) (O 58)).length<=59:=by
 unfold k9;have e:HT.cv xs.length 0 (O 4)=min 4 xs.length:=HT.RY _ _ 4;exact Yy (Z7 _ _) (by rw[Ju,e];omega)
noncomputable abbrev CG:af:="abdegijlnopqrtuvxyzCM1 -?S"
def ZhF(i:Nat)(b:i<26):∃c,CG.cps.toList[i]?=O c/\c∉iY:=by
 have l:CG.cps.toList.length=26:=QK
 have a:(CG.cps.toList.all λc=>decide (c∉iY))=ar:=QK
 have b:i<CG.cps.toList.length:=(i2 b (by decide))
 exact⟨_,Yb b,eL (Wm.mp a _ (Wo b))⟩
noncomputable abbrev zQ:Z af:=["mc","fk","wh","ss","cm","kf","hw"]
def Zje(i:Nat)(b:i<7):∃z:af,(zQ.map V.str)[i]?=O (.str z)/\fw z/\z.length=2:=by
 have a:(zQ.all λz=>decide (z.length=2)&&z.cps.toList.all λc=>decide (c∈iY))=ar:=QK
 have h:=Wm.mp a _ (Wo b);obtain⟨g,e⟩:=Ja.mp h;exact⟨zQ[i],by rw[Yf,Yb b];rfl,λc d=>eL (Wm.mp e c d),eL g⟩
def Zga(z:af)(a b:bS Int):(sh z a b).length<=z.length:=by
 show(((z.cps.toList.drop _).take _).toArray).size<=z.cps.size;rw[Yt];refine Yy (Z7 _ _) ?_;rw[Ju,Y5];exact B1 _ _
theorem ZbU(h:Paired (λy i=>y=g i) us is):us=is.map g:=by
 induction h with
 |nil=>rfl
 |cons e _ a=>rw[e,a];rfl
abbrev oB(d m a b h e c g:U)(n z i:Nat)(r:Z (bS V)):St:=O (.ref d)::O (.int (n:Int))::O (.ref m)::O (.ref a)::O (.ref b)::O (.int (z:Int))::O (.ref h)::O (.ref e)::O (.ref c)::O (.ref g)::O (.int (i:Int))::r
def CH(K:ag):Sp:=λc H Q _=>∃(a:U) (b:Z Int),c=[.ref a]/\aj K H a (b.map V.int)/\b.length<=63/\∀d,Q (.bl ar) d
noncomputable abbrev Dp:Z af:=["_law_script"]
def eI:aQ ["_law_script","_law_size","_law_mother","_law_wife","_law_turns_here","_law_salt","_law_book","_law_names","_law_sides","_law_facts","_law_after_here","_law_k","_law_cell_here","_law_word_here","_law_drawn","_law_name_here","_law_at","_law_here","_law_letter"] Dp (aI um):=.a9
open Classical in
theorem Zjf(F:aP K "law" "law" um f fd)(rE:HasFn P w K B I 1 "_law_cell" DU (TK K))(l9:HasFn P w K B I 1 "_law_draws" xF (yR K))(By:HasFn P w K B I 2 "_law_row" L7 Vp)(Hf:HasFn P w K B I 2 "_law_turns" Mc S0)(rC:HasFn P w K B I 4 "_law_same" pM (t_ 4))(Ip:HasFn P w K B I 15 "_law_grow" Mo (UM C CL CJ))(Iq:HasFn P w K B I 2 "_law_text" Mq (UN K))(Ir:HasFn P w K B I 1 "_law_next" Ms UO)(yy:HasFn P w K B I 12 "_law_asked" Mt (S_ C CL CJ))(wg:CS P w K B I 6 "called" Dn (JT C CL CJ cN cB))
  (IT:HasFn P w K B I 7 "land_of" C0 (Rh CL))(JV:wF P w K B I 1 "Hearth" C C_ (SQ C CL CJ))(bl:Bl B):aE P w K B I (oa P w) 16 f fd Dp (CH K):=by
 refine F.DJ eI (λvs H Q E h=>?_) (λbL A outer s H vs Q E N h=>?_)
 ·refine hP h λa ns lr _=>?_;subst lr;rfl
 refine d5 h λa ns lr hs hlen q=>?_;subst lr;have hu:=N.oS;have JU:=wg;refine⟨_,(aq (bM 0 eI.nd (wa (BB (K:=K) rfl) (pv 0) BP (rN aF))) (aq (bM 1 eI.nd (aZ fq aF (aZ eG (aY rE N (aa (pv 0) (aa aF ae))) aF))) (aq (bM 2 eI.nd (aY By N (aa (aY rE N (aa (pv 0) (aa aF ae))) (aa (pv 1) ae)))) (aq (bM 3 eI.nd (aY By N (aa (aY rE N (aa (pv 0) (aa aF ae))) (aa (pv 1) ae)))) (aq (bM 4 eI.nd (aY Hf N (aa (pv 2) (aa (pv 3) ae)))) (aq (bM 5 eI.nd (aZ eG (aY rE N (aa (pv 0) (aa aF ae))) aF)) (aq (bM 6 eI.nd (Ll JV N (by omega) rfl (aa (aY IT N (aa (pv 2) (aa (pv 3) ae))) ae))) (aq (mC (aY Ip N (aa (pv 6) (aa (wa (BB (K:=K) rfl) (pv 0) (rN aF) (rN aF)) (aa (pv 4) (aa (pv 5) ae))))) (hZ (K:=K) (n:=4) Y rfl (bq (a8 7 eI.nd) (bq (a8 8 eI.nd) (bq (a8 9 eI.nd) (bq (a8 10 eI.nd) hV)))))) (aq (dI wN Y (oF rfl bl.jM (aa aF ae)) (a8 11 eI.nd) (aq (bM 12 eI.nd (aZ fq (aZ fq (aY rE N (aa (pv 0) (aa (aZ fq aF (aZ eG (pv 11) aF)) ae))) (aY rE N (aa (pv 0) (aa (aZ fq aF (pv 11)) ae)))) (pv 11))) (aq (bM 13 eI.nd (aY Iq N (aa (cO (aa (pv 12) ae)) (aa aF ae)))) (aq (bM 14 eI.nd (aY l9 N (aa (aZ fq (pv 12) aF) (aa (cO (aa aF (aa aF (aa aF (aa aF ae))))) ae)))) (aq (aU (bG b_ (pv 11) aF) (av (bM 13 eI.nd (wa T8 (pv 13) BP (rN aF)))) bb) (aq (aU (bG b_ (pv 11) aF) (av (bM 13 eI.nd (aZ Kh (bc (iL K) (cO (aa aT (aa aT (aa aT (aa aT (aa aT (aa aT (aa aT ae)))))))) (aZ eG (bc (iL K) (pv 14) aF) aF)) (aZ fq (aZ fq aF (bc (iL K) (pv 14) aF)) (bc (iL K) (pv 14) aF))))) bb) (aq (aU (bG b_ (bc (iL K) (pv 14) aF) aF) (aq (bM 13 eI.nd (aZ qh (aZ qh (pv 13) (bc t8 aT (bc (iL K) (pv 14) aF))) aT)) (aq (dI wN Y (dY (K:=K) Y (aZ yT (wa (BB (K:=K) Y) (pv 7) BP (rN aF)) (cO (aa aT ae)))) (a8 15 eI.nd) (av (aU (jO (fh (aY rC N (aa (aY yy N (aa (pv 6) (aa (pv 15) (aa (pv 13) ae)))) (aa (dq (aa aT (aa gH (aa gH ae)))) ae))))) (av (aK gH)) bb))) (av Zb6))) bb) (aq (aU (jO (fh (aY rC N (aa (aY yy N (aa (pv 6) (aa aT (aa (pv 13) ae)))) (aa (dq (aa aT (aa gH (aa gH ae)))) ae))))) (av (aK gH)) bb) (av (dI wN Y (oF Y bl.jM (aa (hJ (ZdO Y) rfl bl.U9 TC (aa aF (aa (dF K bl (pv 7)) ae))) ae)) (a8 16 eI.nd) (aq (bM 15 eI.nd (bc (iL K) (pv 7) (aZ eG (aZ fq (bc (iL K) (pv 14) aF) (pv 16)) (dF K bl (pv 7))))) (aq (f_ (i:=17) eI.nd Y (w_ Y) (cO (aa (pv 15) ae))) (aq (dI wN Y (Cd (pv 13)) (a8 18 eI.nd) (aq (f_ (i:=17) eI.nd Y (w_ rfl) (aY Ir N (aa (pv 9) (aa (pv 17) (aa (pv 18) ae))))) (av (f_ (i:=17) eI.nd Y (w_ rfl) (jj (x:="_law_one") (fr:=[("_law_here",17)]) (cl:=[("_law_here",s.heap.objs.size+1)]) rfl (.ir ⟨Y,trivial⟩ ⟨⟨Y,.inl Y,.inl Y,Y⟩,trivial⟩) (dY (K:=K) rfl (pv 7)) (λ_ _ _ _=>wj (fV (kH (K:=K) rfl) (pv 0) (pv 1) (by with_unfolding_all rfl))) (λ_ _ _ _=>(pv 0))))))) (aq (aU (jO (fh (aY rC N (aa (aY yy N (aa (pv 6) (aa (pv 15) (aa (pv 13) ae)))) (aa (pv 17) ae))))) (av (aK gH)) bb) (av (aU (jO (fh (aY rC N (aa (KG JU N (by omega) zo Y (aa (pv 6) (aa (pv 15) (aa aT ae)))) (aa (cO (aa (pv 15) ae)) ae))))) (av (aK gH)) bb)))))))))))))))) (av (aK gH))))))))))),?_⟩;refine sm ?_;intros;refine sm ?_;intros;have sz:(10000:Nat)<=sizeLine:=by rw[ro];omega
 obtain⟨ms,em⟩:=IY ns aG (O 63);have lms:ms.length<=ns.length:=by
  have:=GD (ns.map V.int) aG (O 63);rw[em,Ya,Ya] at this;exact this
 obtain⟨cs,ec⟩:=IY ms (O 4) (O 58);have lcs:cs.length<=59:=by
  have:=ZeG (xs:=ms.map V.int) (by rw[Ya];omega);rw[ec,Ya] at this;exact this
 refine bT ?_;refine⟨_,Y,_,Y,a,_,Y,hs,λT H0 n1 g0 yf=>?_⟩;rw[em] at yf;refine bT ?_;refine⟨_,Y,T,ms,0,Y,aj.of yf,Int.le_refl 0,λc0=>⟨_,_,Y,Y,(by show(0:Int)<7;decide),_,_,Y,Y,?_⟩⟩;try dsimp only
 have m0:=W7 c0 (show(7:Int)≠0 by decide);have m1:=W0 c0 (show(0:Int)<7 by decide);obtain⟨n,en⟩:∃n:Nat,2+c0 % 7=(n:Int):=⟨(2+c0 % 7).toNat,by omega⟩;rw[en];have n2:2<=n:=by omega
 have n8:n<=8:=by omega
 refine bT ?_;refine⟨_,Y,T,ms,1,Y,aj.of yf,by decide,λc1=>⟨_,Y,c1,n,Y,by omega,by omega,λm xs H1 nm g1 hM px=>?_⟩⟩;refine bT ?_;refine⟨_,Y,T,ms,2,Y,aj.of (g1 _ _ yf),by decide,λc2=>⟨_,Y,c2,n,Y,by omega,by omega,λwi ys H2 nw g2 hW py=>?_⟩⟩;have lx:xs.length=n:=by rw[px.length_eq,fR]
 have ly:ys.length=n:=by rw[py.length_eq,fR]
 have gd:oZ xs ys:=⟨tX px,tX py,by omega,by omega,by omega⟩;refine bT ?_;refine⟨_,Y,_,Y,m,wi,xs,ys,Y,g2 _ _ hM,hW,gd,λtd H3 ntd g3 ht=>?_⟩;have kL:=(g1.trans g2).trans g3;refine bT ?_;refine⟨_,Y,T,ms,3,Y,aj.of (kL _ _ yf),by decide,λc3=>⟨_,_,Y,Y,(by show(0:Int)<97;decide),?_⟩⟩;try dsimp only
 have z0:=W7 c3 (show(97:Int)≠0 by decide);have z1:=W0 c3 (show(0:Int)<97 by decide);obtain⟨z,ez⟩:∃z:Nat,c3 % 97=(z:Int):=⟨(c3 % 97).toNat,by omega⟩;rw[ez];have hz:z<97:=by omega
 refine bT ?_;refine⟨_,Y,_,Y,m,wi,xs,ys,Y,g3 _ _ (g2 _ _ hM),g3 _ _ hW,gd.1,gd.2.1,gd.2.2.1,gd.2.2.2.1,gd.2.2.2.2,λLd H4 g4 la=>λx dx nx Ap nd=>?_⟩;have Aq:upd H4 dx (.own x) x=aG:=by rw[aJ (λz=>nd z.symm)];exact nx
 obtain⟨H5,e5⟩:∃H5,H5=upd (upd H4 dx (.own x)) x (.ins C dx []):=⟨_,Y⟩;have g5:ah H4 H5:=by rw[e5];exact(cE Ap _).trans (cE Aq _)
 have hx5:H5 x=O (.ins C dx []):=by rw[e5];exact aW
 rw[←e5];refine⟨x,dx,Ld,xs,ys,Y,hx5,la.same g5,λl H6 eh Eo b6 ba=>⟨Y,?_⟩⟩;subst eh;have keep:∀{a:U} {o:HO},H4 a=O o->H6 a=O o/\a∉l.fp:=λ{a o} e=>by
  have na:a≠l.h:=bU e nx;refine⟨b6 _ _ (g5 _ _ e) na,λz=>?_⟩;have:=Eo a z na;rw[g5 _ _ e] at this;cases this
 have Om:=g4 _ _ (kL _ _ yf);have ht4:=ht.same g4;obtain⟨tm,tf,tw,ts,iq,q1,q2,q3,q4⟩:=ht4;have ht6:iX H6 td xs ys:=⟨tm,tf,tw,ts,(keep iq).1,(keep q1).1,(keep q2).1,(keep q3).1,(keep q4).1⟩;refine⟨_,Y,_,Y,_,Y,_,Y,T,_,Y,aj.of (keep Om).1,λca H7 nca g7 hca=>⟨_,Y,_,Y,xs,ys,z,ca,td,l,⟨[],[],0,[],[]⟩,cs,Y,ba.same g7,Y,gd,by rw[hca,ec],ba.fresh nca,ht6.same g7,(keep iq).2,hz,lcs,λl2 b W sd fl st H8 wt R=>?_⟩⟩;refine⟨st,_,Y,aC.of R.tup,Y,_,_,Y,aS ⟨_,_,Y,aS ⟨_,_,Y,aS ⟨_,_,Y,aS ⟨Y,?_⟩⟩⟩⟩⟩;dsimp only;have eh:=wt.h;have hs8:=(wt.off (g7 _ _ (keep Om).1) (keep Om).2).1;obtain⟨D,eN⟩:∃D,D=b.ps.map (·.1):=⟨_,Y⟩;have ER:H8 W=O (.lst (D.map V.str)):=by rw[R.names,eN,Y9];rfl
 have cp:=R.cp;have D8:D.length<=59:=by rw[eN,Ya];exact cp
 have nnd:D.Nodup:=by rw[eN];exact R.ok.nm
 have uY:∀x∈D,x∈b.ps.map (·.1)/\x.length<=1000:=λx hx=>by
  rw[eN] at hx;refine⟨hx,?_⟩;rw[R.nm] at hx;obtain⟨k,hk,rfl⟩:=Yk.mp hx;have hk:=Wk.mp hk;have:=(Pt (z:=z) (show k<60 by omega)).2;omega
 have nos:(Str.ofString "stranger")∉b.ps.map (·.1):=λh=>by
  rw[R.nm] at h;obtain⟨k,hk,e⟩:=Yk.mp h;have hk:=Wk.mp hk;exact Zf8 z k (by omega) e
 have FLs:∀{G:Hp},ah H8 G->FL G b.ps fl b.F:=λ{G} g=>by
  obtain⟨as,h1,h2⟩:=R.facts;refine⟨as,g _ _ h1,?_⟩;have:∀{as:Z U} {fs:Z (Nat×Fc)},Paired (dG H8 b.ps) as fs->Paired (AN G b.ps) as (fs.map (·.2)):=λh=>by
   induction h with
   |nil=>exact .nil
   |cons e _ ih=>exact .cons ⟨_,g _ _ e⟩ ih
  exact this h2
 have lF:b.F.length<=64:=by show(b.fs.map (·.2)).length<=64;rw[Ya];have:=R.ok.fl;omega
 have Zjg:fw (Str.ofString ""):=λc hc=>by
  have:(Str.ofString "").cps.toList=[]:=by decide+kernel
  rw[this] at hc;cases hc
 have Xa:∀{H:Hp} {p:U},H p=O (.tup [.str "no word",.bl ar,.bl a_])->At H 3 (.ref p) (.tup [.str "no word",.bl ar,.bl a_]):=λh=>T3 h (by show 3<=1000;decide) (.cons (KN _) (.cons (Cy _) (.cons (Cy _) .nil)));have no3:∀{H:Hp} {p:U},H p=O (.tup [.str "no person",.bl a_,.bl ar])->At H 3 (.ref p) (.tup [.str "no person",.bl a_,.bl ar]):=λh=>T3 h (by show 3<=1000;decide) (.cons (KN _) (.cons (Cy _) (.cons (Cy _) .nil)));have L:∀{H:Hp} {p:U} {xs:Z af},H p=O (.lst (xs.map V.str))->xs.length<=1000->At H 3 (.ref p) (.lst (xs.map Dt.str)):=λh l=>Zir h (by rw[Ya];exact l) (Qx _);refine fW (λ_ G=>True) (λkM dP=>?_) (λr G _=>q G);refine⟨6,Y,by decide,by decide,yD (lo:=0) (n:=(6:Int).toNat) (λ_ r G=>∃oq ot ou o14 kh p_ qa X:bS V,ah H8 G/\r=oB T m wi td l.h W sd fl n z b.co [oq,ot,ou,o14,kh,p_,qa,X]) ⟨aG,aG,aG,aG,aG,aG,aG,aG,ah.refl _,Y⟩ ?_ (λr G _=>dP _ _ trivial)⟩;intro kk r H9 hkk ZH;obtain⟨oq,ot,ou,o14,kh,p_,qa,X,g9,rfl⟩:=ZH;have hk6:kk<6:=hkk;rw[An];refine aS (bT ?_);have hs9:=g9 _ _ hs8;refine⟨_,Y,_,Y,_,_,Y,Y,by show(0:Int)<5;decide,_,_,Y,Y,T,ms,_,Y,aj.of hs9,by have:=W7 (kk:Int) (show(5:Int)≠0 by decide);omega,λc4=>⟨_,Y,_,Y,_,_,Y,Y,T,ms,_,Y,aj.of hs9,by omega,λc5=>⟨_,_,Y,Y,_,Y,_,_,Y,Y,?_⟩⟩⟩;obtain⟨d,Zj8⟩:∃d:Int,d=c4+c5+(kk:Int):=⟨_,Y⟩;dsimp only;rw[←Zj8];refine Cv ?_;intros;refine bT ?_;refine⟨_,Y,by show 1<=sizeLine;omega,λpq HA npq gA hpq=>⟨pq,[d],7,Y,aj.of hpq,by show 1<=63;decide,λz1 HB sv1 lz1 gB=>?_⟩⟩;refine bT ?_;refine⟨_,Y,_,_,Y,Y,by show 4<=sizeLine;omega,λpr HC npr gC oo=>⟨_,pr,[5,26,61,4],Y,aj.of oo,by decide,by decide,λdr ds HD ndr gD hdr bd=>?_⟩⟩;obtain⟨d0,d1,d2,d3,rfl,b0,b1,b2,b3⟩:∃d0 d1 d2 d3,ds=[d0,d1,d2,d3]/\Bd d0 5/\Bd d1 26/\Bd d2 61/\Bd d3 4:=by
  cases bd with|cons h1 bd=>cases bd with|cons h2 bd=>cases bd with|cons h3 bd=>cases bd with|cons h4 bd=>
   cases bd;exact⟨_,_,_,_,Y,h1,h2,h3,h4⟩
 have gAD:=((gA.trans gB).trans gC).trans gD;have g8D:=g9.trans gAD;refine kr (λr G=>∃z2:af,ah HD G/\fw z2/\z2.length<=7/\r=oB T m wi td l.h W sd fl n z b.co [O (.int (kk:Int)),O (.int d),O (.str z2),O (.ref dr),kh,p_,qa,X]) (λxU kO=>?_) ?_
 ·refine⟨_,Y,Y,_,Y,bC (λc=>?_) (λc=>aX (kO _ _ ⟨z1,ah.refl _,sv1,lz1,Y⟩))⟩;exact⟨_,Y,_,Y,z1,Y,by omega,kO _ _ ⟨sh z1 aG (O 1),ah.refl _,Qu sv1 _ _,Yy (Zga _ _ _) lz1,Y⟩⟩
 rintro r HE ⟨z2,gE,sv2,lz2,rfl⟩;have Zlr:=gE _ _ hdr;refine kr (λr G=>∃J:af,ah HD G/\fw J/\J.length<=300/\r=oB T m wi td l.h W sd fl n z b.co [O (.int (kk:Int)),O (.int d),O (.str J),O (.ref dr),kh,p_,qa,X]) (λrh gk=>?_) ?_
 ·refine⟨_,Y,Y,_,Y,bC (λc=>?_) (λc=>aX (gk _ _ ⟨z2,gE,sv2,by omega,Y⟩))⟩;unfold Bd at b1 b2;obtain⟨j7,hj7,ej7⟩:∃j:Nat,j<7/\d1 % 7=(j:Int):=⟨(d1 % 7).toNat,by omega,by omega⟩;obtain⟨zz,ezz,svz,lzz⟩:=Zje j7 hj7;obtain⟨nn,enn⟩:∃nn:Nat,5+d2+d1=(nn:Int):=⟨(5+d2+d1).toNat,by omega⟩;have Oo:=ZeF svz nn;refine⟨by show 7<=sizeLine;omega,λp7 HF np7 gF EM=>?_⟩;have uH:=gF _ _ Zlr;refine⟨_,Y,dr,_,_,_,Y,Y,aj.of uH,dM (j:=1) Y,_,_,Y,Y,by show(0:Int)<7;decide,p7,_,_,_,Y,Y,aj.of EM,by rw[ej7];exact dM ezz,?_⟩;refine⟨_,Y,dr,_,_,_,Y,Y,aj.of uH,dM (j:=2) Y,_,_,Y,Y,_,Y,dr,_,_,_,Y,Y,aj.of uH,dM (j:=1) Y,_,_,Y,Y,zz,nn,Y,by show V.int (5+d2+d1)=_;rw[enn],by omega,by omega,?_⟩;exact gk _ _ ⟨_,gE.trans gF,Oo.1,by rw[lzz] at Oo;have:=Oo.2;omega,Y⟩
 rintro r HF ⟨J,gF,Oq,lz3,rfl⟩;have uH:=gF _ _ hdr;have Ot:=g8D.trans gF;refine kr (λr G=>ah HF G/\r=oB T m wi td l.h W sd fl n z b.co [O (.int (kk:Int)),O (.int d),O (.str J),O (.ref dr),kh,p_,qa,X]) (λnx3 hn3=>?_) ?_
 ·refine⟨_,Y,dr,_,_,_,Y,Y,aj.of uH,dM (j:=0) Y,Y,_,Y,bC (λc=>?_) (λc=>aX (hn3 _ _ ⟨ah.refl _,Y⟩))⟩;unfold Bd at b1;obtain⟨j1,hj1,ej1⟩:∃j:Nat,j<26/\d1=(j:Int):=⟨d1.toNat,by omega,by omega⟩;obtain⟨A0,ecs,ncs⟩:=ZhF j1 hj1;have pT:=dM (xs:=(Str.ofString "abdegijlnopqrtuvxyzCM1 -?S").cps.toList) (j:=j1) ecs;rw[←ej1] at pT;have l26:(Str.ofString "abdegijlnopqrtuvxyzCM1 -?S").length=26:=by decide+kernel
  have l1m:(Str.ofString "m").length=1:=by decide+kernel
  have lz4:(J++(⟨#[A0]⟩:af)).length<=301:=by rw[strLen_append];show _+1<=_;omega
  refine bT ?_;refine⟨_,Y,_,Y,dr,_,_,_,Y,Y,aj.of uH,dM (j:=1) Y,_,_,_,Y,Y,by omega,pT,_,_,Y,Y,by show J.length+1<=sizeLine;omega,_,_,Y,Y,by omega,?_⟩;obtain⟨z4,ez4⟩:∃z4:af,z4=J++(⟨#[A0]⟩:af)++Str.ofString "m":=⟨_,Y⟩;have Xb:¬fw z4:=λsv=>ncs (sv A0 (by rw[ez4];show A0∈((J.cps++#[A0])++(Str.ofString "m").cps).toList;simp));rw[←ez4];refine fW (λr G=>∃kh:bS V,ah H8 G/\r=oB T m wi td l.h W sd fl n z b.co [O (.int (kk:Int)),O (.int d),O (.str z4),O (.ref dr),kh,p_,qa,X]) (λnx4 Ou=>?_) ?_
  ·refine⟨_,Y,_,Y,W,_,Y,aj.of (Ot _ _ ER),λf1 HG nf1 gG El=>⟨by show 1<=sizeLine;omega,λf2 HI nf2 gI Em=>⟨f1,f2,_,_,Y,Y,gI _ _ El,Em,by have:=GD (D.map V.str) aG (O 1);rw[Ya] at this;show _+1<=_;omega,λf3 HJ nf3 gJ Ov=>?_⟩⟩⟩;have ES:=((Ot.trans gG).trans gI).trans gJ;obtain⟨fs,AY⟩:∃fs,fs=k9 (D.map V.str) aG (O 1)++[V.str "stranger"]:=⟨_,Y⟩;rw[←AY] at Ov;refine⟨f3,Y,⟨_,aj.of Ov⟩,g_ (K:=K) (a:=f3) (xs:=fs) (λi r G=>∃kh:bS V,ah HJ G/\r=oB T m wi td l.h W sd fl n z b.co [O (.int (kk:Int)),O (.int d),O (.str z4),O (.ref dr),kh,p_,qa,X]) ⟨kh,ah.refl _,Y⟩ (λi r G _ ⟨_,g,_⟩=>aj.of (g _ _ Ov)) ?_ (λr G ⟨kh,g,e⟩=>Ou _ _ ⟨kh,ES.trans g,e⟩)⟩;rintro i v r HK hi ⟨Zls,gK,rfl⟩;obtain⟨u,rfl,lu⟩:∃u:af,v=.str u/\u.length<=1000:=by
    have hv:=Yj hi;rw[AY] at hv;rcases Yq.mp hv with hv|hv
    ·obtain⟨x,hx,e⟩:=Yk.mp (Qc9 (Jk hv));exact⟨x,e.symm,(uY x hx).2⟩
    ·rw[Yi.mp hv];exact⟨"stranger",Y,by decide+kernel⟩
   have g8K:=ES.trans gK;refine aS ?_;refine⟨_,Y,_,Y,_,Y,l2,b,xs,ys,u,z4,by rw[eh];rfl,R.ba.same g8K,R.ok,by omega,lu,λ_ p HL gL hp=>?_,λsv=>absurd sv Xb,λsv=>absurd sv Xb⟩;exact⟨by show 3<=sizeLine;omega,λt HM nt gM ht=>⟨_,_,.tup [.str "no word",.bl ar,.bl a_],3,Y,Y,Xa (gM _ _ hp),Xa ht,λHZ gZ=>⟨_,Y,bV (aX ⟨_,((gK.trans gL).trans gM).trans gZ,Y⟩)⟩⟩⟩
  ·rintro r HG ⟨Zls,gG,rfl⟩;exact⟨_,_,_,_,_,_,_,_,gG,Y⟩
 rintro r HG ⟨gG,rfl⟩;have g8G:=Ot.trans gG;have Zlt:=gG _ _ uH;refine kr (λr G=>ah HG G/\r=oB T m wi td l.h W sd fl n z b.co [O (.int (kk:Int)),O (.int d),O (.str J),O (.ref dr),kh,p_,qa,X]) (λnx4 Ou=>?_) ?_
 ·refine⟨_,Y,_,Y,l2,b,xs,ys,"stranger",J,by rw[eh];rfl,R.ba.same g8G,R.ok,by omega,by decide+kernel,λh=>absurd Oq h,λ_ _ p HL gL hp=>?_,λ_ h=>absurd h nos⟩;exact⟨by show 3<=sizeLine;omega,λt HM nt gM ht=>⟨_,_,.tup [.str "no person",.bl a_,.bl ar],3,Y,Y,no3 (gM _ _ hp),no3 ht,λHZ gZ=>⟨_,Y,bV (aX (Ou _ _ ⟨(gL.trans gM).trans gZ,Y⟩))⟩⟩⟩
 rintro r HI ⟨gI,rfl⟩;have yg:=g8G.trans gI;have Zlu:=gI _ _ Zlt;have ya:(D.map V.str).length=D.length:=Ya _;obtain⟨mn,CW,Zlv⟩:∃mn:Nat,(if(((D.map V.str).length:Nat):Int)<4 then(((D.map V.str).length:Nat):Int) else 4)=(mn:Int)/\(0<mn->0<D.length)/\mn<=4:=by
  by_cases c:(((D.map V.str).length:Nat):Int)<4
  ·rw[uW c];exact⟨(D.map V.str).length,Y,by omega,by omega⟩
  ·rw[rp c];exact⟨4,Y,by omega,by omega⟩
 refine⟨_,Y,W,_,Y,.inl (aj.of (yg _ _ ER)),4,_,Y,_,Y,by rw[CW];omega,by rw[CW];omega,?_⟩;rw[CW];refine yD (lo:=0) (n:=(mn:Int).toNat) (λ_ r G=>∃kh p_ qa X:bS V,ah HI G/\r=oB T m wi td l.h W sd fl n z b.co [O (.int (kk:Int)),O (.int d),O (.str J),O (.ref dr),kh,p_,qa,X]) ⟨_,_,_,_,ah.refl _,Y⟩ ?_ (λr G ⟨_,_,_,_,g,e⟩=>⟨_,_,_,_,_,_,_,_,yg.trans g,e⟩);rintro at' r HJ hat ⟨p15,p16,p17,p18,gJ,rfl⟩;rw[Wb] at hat;have WY:=Zlv.1 (by omega);have ES:=yg.trans gJ;have hNJ:=ES _ _ ER;have Zlw:=gJ _ _ Zlu;have Xc:(0:Int)<(((D.map V.str).length:Nat):Int):=by omega
 refine aS (bT ?_);refine⟨_,Y,_,Y,dr,_,_,_,Y,Y,aj.of Zlw,dM (j:=2) Y,_,Y,_,_,Y,Y,_,Y,W,_,Y,.inl (aj.of hNJ),_,_,Y,Y,Xc,?_⟩;obtain⟨x,mx,ax⟩:∃x,x∈D/\dN (D.map V.str) ((d2+(0+(at':Int))) % (((D.map V.str).length:Nat):Int))=O (.str x):=by
  have h1:=W7 (d2+(0+(at':Int))) (show(((D.map V.str).length:Nat):Int)≠0 by omega);have h2:=W0 (d2+(0+(at':Int))) Xc;obtain⟨j,ej⟩:∃j:Nat,(d2+(0+(at':Int))) % (((D.map V.str).length:Nat):Int)=(j:Int):=⟨_,(Jt h1).symm⟩;rw[ej] at h2⊢;have hj:j<D.length:=by omega
  exact⟨D[j],Wo hj,dM (by rw[Yf,Yb hj];rfl)⟩
 obtain⟨D_,lx1⟩:=uY x mx;refine⟨W,_,_,_,Y,Y,aj.of hNJ,ax,?_⟩;refine nY ?_;intros;refine bT ?_;refine⟨_,Y,by show 1<=sizeLine;omega,λyd HK nhl gK hhl=>?_⟩;have gIK:=gJ.trans gK;have qO:∀(p:af->cF),((List.range D.length).filter λi=>p (D.getD i "")).map (λi=>V.str (D.getD i ""))=(D.filter p).map V.str:=λp=>by
  conv=>rhs;rw[←range_getD D "",Jz,Y9]
  rfl
 have Ae:D.filter (λy=>decide (Rn b x J 0 y))=[x]:=PB nnd mx _ λy=>by rw[ri];exact Iff.rfl
 refine fW (λr G=>∃(hl:U) (X:bS V),ah HI G/\G hl=O (.lst ((D.filter λy=>decide (Rn b x J J.length y)).map V.str))/\r=oB T m wi td l.h W sd fl n z b.co [O (.int (kk:Int)),O (.int d),O (.str J),O (.ref dr),O (.str x),O (.int (0+(at':Int))),O (.ref hl),X]) (λnx5 hn5=>?_) ?_
 ·refine⟨_,Y,J,Y,Kd (λi r G=>∃(hl:U) (X:bS V),ah HI G/\G hl=O (.lst ((D.filter λy=>decide (Rn b x J i y)).map V.str))/\r=oB T m wi td l.h W sd fl n z b.co [O (.int (kk:Int)),O (.int d),O (.str J),O (.ref dr),O (.str x),O (.int (0+(at':Int))),O (.ref hl),X]) ⟨yd,_,gIK,by rw[hhl,Ae];rfl,Y⟩ ?_ (λr G ⟨hl,X,g,h,e⟩=>hn5 _ _ ⟨hl,X,g,h,e⟩)⟩;rintro i c r HL hc ⟨hl,Xd,gL,Ow,rfl⟩;have sc:c∈iY:=Oq c (Yj (by rw[Ww];exact hc));refine aS (bT ?_);refine⟨_,Y,_,Y,_,Y,fl,hl,b,_,c,Y,FLs (yg.trans gL),λc' d_=>kinds_ok R.ok d_,lF,Ow,sc,λp ys HM gM hp iff lys=>?_⟩;have hNM:=gM _ _ (gL _ _ (yg _ _ ER));refine⟨_,Y,W,Y,⟨_,aj.of hNM⟩,λD5 hD5=>yA (K:=K) (aj.of hNM) (by omega) hD5 (λi=>eW (.str (D.getD i "")) (ys.map V.str)) (λi y _=>y=.str (D.getD i "")) (λ_ _ _ _ _ h=>h) (λi v hi HN gN hDN Kt Kf kt kf=>?_) λus HN gN hN5 pr5=>?_⟩
  ·obtain⟨_,rfl,_⟩:=Zf_ hi;generalize D.getD i ""=y at kt kf;exact⟨_,Y,_,Y,p,_,Y,.inl (aj.of (gN _ _ hp)),Y,yI ys,_,Y,bC (λcc=>⟨_,Y,kt _ _ cc (ah.refl _) Y⟩) (λcc=>kf _ (Jn.mpr cc) (ah.refl _))⟩
  rw[ya] at pr5;refine⟨D5,_,(gL.trans gM).trans gN,?_,Y⟩;rw[hN5,ZbU pr5,qO λy=>eW (.str y) (ys.map V.str)]
  congr 3
  refine NL λy _=>?_;refine Wn.mpr ?_;rw[sE,iff,ri];constructor
  ·rintro⟨x',MI,led⟩;exact⟨x',c,wd (Y4.mp MI).2,hc,led⟩
  ·rintro⟨x',c',r',d_,led⟩;rw[hc] at d_;cases d_;exact⟨x',Y4.mpr ⟨by rw[eN];exact Kw R.ok D_ r',wk r'⟩,led⟩
 rintro r HL ⟨hl,Xd,gL,Ow,rfl⟩;have g8L:=yg.trans gL;have ll:∀p:af->cF,(D.filter p).length<=1000:=λp=>by have:=Wj p D;omega
 refine ie ?_;intros;refine kr (λr G=>ah HL G/\r=oB T m wi td l.h W sd fl n z b.co [O (.int (kk:Int)),O (.int d),O (.str J),O (.ref dr),O (.str x),O (.int (0+(at':Int))),O (.ref hl),Xd]) (λnx6 vB=>?_) ?_
 ·refine⟨_,Y,_,Y,_,Y,l2,b,xs,ys,x,J,by rw[eh];rfl,R.ba.same g8L,R.ok,by omega,lx1,λh=>absurd Oq h,λ_ h=>absurd D_ h,λ_ _ p ks HM gM iff hp=>?_⟩;have ef:(b.ps.map (·.1)).filter (λy=>decide (y∈ks))=D.filter λy=>decide (Rn b x J J.length y):=by
   rw[←eN];refine NL λy _=>?_;refine Wn.mpr ?_;rw[ri,ri];exact iff y
  rw[ef] at hp;exact⟨_,Y,_,_,.lst ((D.filter λy=>decide (Rn b x J J.length y)).map Dt.str),3,Y,Y,L hp (ll _),L (gM _ _ Ow) (ll _),λHZ gZ=>⟨_,Y,bV (aX (vB _ _ ⟨gM.trans gZ,Y⟩))⟩⟩
 rintro r HM ⟨gM,rfl⟩;have g8M:=g8L.trans gM;refine⟨_,Y,_,Y,l2,b,xs,ys,x,"",by rw[eh];rfl,R.ba.same g8M,R.ok,by omega,lx1,λh=>absurd Zjg h,λ_ h=>absurd D_ h,λ_ _ p ks HN gN iff hp=>?_⟩;have l0:(Str.ofString "").length=0:=by decide+kernel
 have ef:(b.ps.map (·.1)).filter (λy=>decide (y∈ks))=[x]:=by
  rw[←eN];refine PB nnd mx _ λy=>?_;rw[ri,iff y,l0];exact Iff.rfl
 rw[ef] at hp;refine⟨_,Y,by show 1<=sizeLine;omega,λt HO nt gO ht=>⟨_,_,.lst ([x].map Dt.str),3,Y,Y,L (gO _ _ hp) (by show 1<=1000;decide),L (xs:=[x]) ht (by show 1<=1000;decide),λHZ gZ=>⟨_,Y,bV (aX ?_)⟩⟩⟩;exact⟨_,_,_,_,(((gL.trans gM).trans gN).trans gO).trans gZ,Y⟩
section
open PySem PySem.W PySem.Spec PyProof.Rows
def ZhG(b:wR K C m f)(a:PySem.W.findIn K (.ref C) m=O (O (.ref f)))(f':U)(h:Meth K C m f'):wR K C m f':=by
 have:=h.at_;rw[a] at this;cases this;exact b
end
def all_mk{l:PySem.W.OpenLaw}{w:dm}{K:ag}{h:cX}{B:aR}{fa:U}(X:K.In h)(G:h.Ns mainGlobals B)(cW:B "law"=O (.ref fa))
  (p1:bP K "is_turn" IC f1)
  (p2:bP K "still" Kj f2)
  (p3:bP K "behind" JB f3)
  (p4:bP K "back" KS f4)
  (p5:bP K "check_turn" Gi f5)
  (p6:bP K "check_rows" Gj f6)
  (p7:bP K "check_parents" Fi f7)
  (p8:bP K "land_of" ID f8)
  (p9:bP K "followed" Hk f9)
  (p10:bP K "turned_back" F1 MT)
  (p11:bP K "lines_up" Hm f11)
  (p12:bP K "is_tie" JC f12)
  (p13:bP K "tie_turn" Hn f13)
  (p14:bP K "fact_key" Ho f14)
  (p15:bP K "keep_fact" GI f15)
  (p16:bP K "fact_fits" GJ f16)
  (p17:bP K "is_name" IE f17)
  (p18:bP K "check_person" FA f18)
  (p19:bP K "check_tie" GK f19)
  (p20:bP K "sides_fit" GL f20)
  (p21:bP K "told_already" FC f21)
  (p22:bP K "check_elders" FD f22)
  (p23:bP K "check_saying" FE f23)
  (p24:bP K "check_section" Fj f24)
  (p25:bP K "is_person" GN f25)
  (p26:bP K "check_word" Gk f26)
  (p27:bP K "tie_step" Hq f27)
  (p28:bP K "tie_steps" GO f28)
  (p29:bP K "letter_steps" FG f29)
  (p30:bP K "led_from" Hs f30)
  (p31:bP K "called" JD f31)
  (p32:bP K "_law_cell" Pg f32)
  (p33:bP K "_law_draws" OO f33)
  (p34:bP K "_law_turn" Ph f34)
  (p35:bP K "_law_row" IF f35)
  (p36:bP K "_law_inverse" F2 f36)
  (p37:bP K "_law_after" GP f37)
  (p38:bP K "_law_turns" GQ f38)
  (p39:bP K "_law_same" Bc f39)
  (p40:bP K "_law_nets" Hu f40)
  (p41:bP K "_law_carried" F3 f41)
  (p42:bP K "_law_room" Hv f42)
  (p43:bP K "_law_name" Hw f43)
  (p44:bP K "_law_up" JE f44)
  (p45:bP K "_law_told" Hx f45)
  (p46:bP K "_law_sided" GR f46)
  (p47:bP K "_law_word" Hy f47)
  (p48:bP K "_law_pick" Hz f48)
  (p49:bP K "_law_fact" HH f49)
  (p50:bP K "_law_put" IG f50)
  (p51:bP K "_law_step" HP f51)
  (p52:bP K "_law_grow" HQ f52)
  (p53:bP K "_law_text" HR f53)
  (p54:bP K "_law_next" HS f54)
  (p55:bP K "_law_asked" GS f55)
  (p56:bP K "law" um f56)
  (z:sQ K ["len","abs","list","range","tuple","any","all","isinstance","bool","int","str","sorted","min","max","sum","dict","reversed","ValueError"])
  (Zbl:nsIn K mainGlobals "LEAST_SIZE"=O (O (.int (2) ZlP)))
  (ZbV:nsIn K mainGlobals "MOST_SIZE"=O (O (.int (8) ZlV)))
  (ZaN:nsIn K mainGlobals "LONGEST_NAME"=O (O (.int (12) ZlH)))
  (ZeH:nsIn K mainGlobals "PUT_IN"=O (O (.int (1) Zmi)))
  (ZbW:nsIn K mainGlobals "TAKEN_OUT"=O (O (.int (-1) ZlW)))
  (Zgb:nsIn K mainGlobals "FORTH"=O (O (.int (1) Zml)))
  (ZhH:nsIn K mainGlobals "BACK"=O (O (.int (-1) Zmn)))
  (Za2:nsIn K mainGlobals "TIE_LETTERS"=O (O (.ref jJ)))
  (FX:PyProof.Rows.KTD.tabLook PyProof.Rows.KTD.flatLooks (λb=>K.lookup b) jJ [("mother",PyData.str "m"),("father",PyData.str "f"),("wed",PyData.str "w"),("sibling",PyData.str "s")]=ar)
  (ZbX:nsIn K mainGlobals "WAYS_BACK"=O (O (.ref nE)))
  (OI:PyProof.Rows.KTD.tabLook PyProof.Rows.KTD.flatLooks (λb=>K.lookup b) nE [("m",PyData.str "c"),("c",PyData.str "m"),("f",PyData.str "k"),("k",PyData.str "f"),("w",PyData.str "h"),("h",PyData.str "w"),("s",PyData.str "s")]=ar)
  (ZdB:nsIn K mainGlobals "PARENTS"=O (O (.ref dW)))
  (ZdC:K.lookup dW=O ⟨.type "tuple",Zmc,.seq #[.str "mother" ZlX,.str "father" ZlY] Zmd,Zme⟩)
  (Zjh:nsIn K mainGlobals "MAN"=O (O (.str "man" Zms)))
  (Zgc:nsIn K mainGlobals "WOMAN"=O (O (.str "woman" Zmm)))
  (Zag:nsIn K mainGlobals "LETTERS_OF_NAMES"=O (O (.str "abcdefghijklmnopqrstuvwxyz" Zly)))
  (Zao:nsIn K mainGlobals "SIGNS_OF_NAMES"=O (O (.str "abcdefghijklmnopqrstuvwxyz0123456789" ZlC)))
  (ZhI:nsIn K mainGlobals "SAID"=O (O (.str "said" Zmo)))
  (ZdD:nsIn K mainGlobals "SIBLING"=O (O (.str "sibling" Zmf)))
  (ZcG:xE K "KinError" "KinError.__init__" [] Fq r ZcH)
  (vK:Cu K r "__init__" ZcH)
  (ZcI:xE K "NoPerson" "NoPerson.__init__" [r] Fs iG Zl5)
  (ZdE:xE K "BadWord" "BadWord.__init__" [r] FK fS Zmg)
  (Zji:Ah K "Land" d)
  (p:wH K d)
  (ZcJ:cY K d "__init__" "Land.__init__" GU Zl6)
  (ZcK:cY K d "step" "Land.step" GV Zl7)
  (ZhJ:Ah K "Joins" c)
  (o:oV K c)
  (ZbY:cY K c "__init__" "Joins.__init__" Gm ZlZ)
  (ZcL:cY K c "add" "Joins.add" GW Zl8)
  (ZcM:cY K c "tie" "Joins.tie" GX Zl9)
  (ZcN:cY K c "say" "Joins.say" GY Zl_)
  (ZaO:cY K c "open_at" "Joins.open_at" Fm ZlI)
  (ZbZ:cY K c "left" "Joins.left" Gn Zl0)
  (Zaz:cY K c "together" "Joins.together" Fb ZlE)
  (Zbm:cY K c "pairs" "Joins.pairs" F4 ZlQ)
  (Za3:cY K c "narrow" "Joins.narrow" FH ZlM)
  (Zab:cY K c "bring_together" "Joins.bring_together" ET Zlx)
  (Zb0:cY K c "move" "Joins.move" Gp Zl1)
  (Zgd:Ah K "Hearth" g)
  (i:fX K g)
  (Zbn:cY K g "__init__" "Hearth.__init__" F5 ZlR)
  (ZaP:cY K g "person" "Hearth.person" Fn ZlJ)
  (Zb1:cY K g "tie" "Hearth.tie" Gq Zl2)
  (Zb2:cY K g "say" "Hearth.say" Gr Zl3)
  (Zbo:cY K g "keep" "Hearth.keep" F6 ZlS)
  (Zbp:cY K g "take" "Hearth.take" F7 ZlT)
  (ZaQ:cY K g "people" "Hearth.people" Fo ZlK)
  (ZaA:cY K g "side_of" "Hearth.side_of" Fd ZlF)
  (Zbq:cY K g "kept" "Hearth.kept" F8 ZlU)
  (Zb3:cY K g "has" "Hearth.has" Gs Zl4)
  (Zai:cY K g "parent_of" "Hearth.parent_of" E1 ZlA)
  (Zah:cY K g "parents_of" "Hearth.parents_of" EW Zlz)
  (Za4:cY K g "joins" "Hearth.joins" FI ZlN)
  (ZaB:cY K g "do_deed" "Hearth.do_deed" Fe ZlG)
  (Za5:cY K g "shift" "Hearth.shift" FJ ZlO)
  (ZaR:cY K g "put_in" "Hearth.put_in" Fp ZlL)
  (Zaj:cY K g "note_fact" "Hearth.note_fact" E2 ZlB)
  (Zap:cY K g "take_out" "Hearth.take_out" E7 ZlD)
  (E_:cY K g "place_of" "Hearth.place_of" A3 Zaq)
  (EV:PySem.W.mroIn K iG (.ref r)=O ar)
  (EY:PySem.W.mroIn K fS (.ref r)=O ar)
  (yi:PySem.W.mroIn K iG (.ref fS)=O a_)
  (EZ:PySem.W.mroIn K fS (.ref iG)=O a_)
  (E6:PySem.W.mroIn K fS (.ref fS)=O ar)
  (bn0:wR K g "place_of" Zaq)
  :∃fd:FuncData,(∀(s:cb) (v:a7),BindsTo s fd ⟨[v],[]⟩ [("_law_script",v)])/\∀I:cX,K.In I->I.Ns mainGlobals B->aE l.prog w K B I (oa l.prog w) 16 fa fd Dp (CH K):=by
 obtain @⟨od,an,sl,oc,kV,dc,pm,cd,ct,ax,lx,cx,kx⟩:=p56;have e:=cW.symm.trans (kN X G ax);cases e;have bl:=z.bl X G;have Gu:=kN X G Zbl;have GZ:=kN X G ZbV;have FP:=kN X G ZaN;have E:=kN X G ZeH;have G6:=kN X G ZbW;have wx:=kN X G Zgb;have K6:=kN X G ZhH;have T:=kN X G Za2;have vQ:=kN X G ZbX;have t:=kN X G ZdB;have q:∀H,aC K H dW [.str "mother",.str "father"]:=λ_=>.inr ⟨_,_,_,ZdC,Y,Y,by show 2<=sizeLine;decide,(.cons ⟨_,Y⟩ (.cons ⟨_,Y⟩ .nil))⟩;have ur:=kN X G Zjh;have t4:=kN X G Zgc;have E4:=kN X G Zag;have Fh:=kN X G Zao;have u:=kN X G ZhI;have N:=kN X G ZdD;obtain⟨_,PD,vT,Io,Zmh,R,Zma⟩:=ZcG.b X G sS;obtain⟨_,ZdF,ZdG,P,ZdH,Bm,y⟩:=ZcI.b X G pJ;obtain⟨_,ZeI,ZeJ,L,ZeK,Bx,A⟩:=ZdE.b X G pJ;have Zjj:=p.cls;have n:=o.cls;have j:=i.cls;refine⟨fnOf "law" "law" (mj um) (ji um) (aI um) .none kV dc pm an cd ct,λs v=>.of_eq Y,λI _ _=>?_⟩;have F:=y_ (st:=um) lx cx kx;have bn:=ZhG bn0 (let⟨a,_,_,_,_⟩:=E_;a);have D:jA l.prog w K B I:=⟨X,G⟩;have Il:zc l.prog w K B I "NoPerson" "no person" iG:=⟨_,_,ZdH,Zcj ZdF vK (OP PD bl) vT R P y,ZdG,Bm,P,y⟩;have IS:zc l.prog w K B I "BadWord" "no word" fS:=⟨_,_,ZeK,Zdc ZeI vK (OP PD bl) vT R L A,ZeJ,Bx,L,A⟩;have rE:=D.d p32 (λ_ F=>Zg2 F bl.Cw);have x:=D.d p33 (λ_ F=>ZfB F bl.ZjF);have vY:=D.d p1 (λ_ F=>Zde F bl);have rD:=D.d p9 (λ_ F=>Zcm F bl);have W:=D.d p10 (λ_ F=>ZaX F bl);have wo:=D.d p2 (λ_ F=>ZfE F bl);have G1:=D.m Zjj ZcK (λ_ F=>Zg8 F p);have Ko:=D.j ZhJ ZbY (λ_ F=>ZfI F o bl);have vC:=D.m n Zaz (λ_ F=>Zcn F o bl);have oC:=D.m n ZaO (λ_ F=>Zdi F o bl);have vD:=D.m n Za3 (λ_ F=>Zen F o bl);have J:=D.d p12 (λ_ F=>Zet F T FX);have Q:=D.d p14 (λ_ F=>Zcr F N bl);have Fx:=D.m j ZaQ (λ_ F=>Zeu (CL:=d) (CJ:=c) F i bl);have tK:=D.m j ZaA (λ_ F=>Zdp (CL:=d) (CJ:=c) F i bl);have vL:=D.d p25 (λ_ F=>ZbH F bl);have E5:=D.m j Zai (λ_ F=>ZbI (CL:=d) (CJ:=c) F i);have EX:=D.m j Zah (λ_ F=>Zbh (CL:=d) (CJ:=c) F i t q);have Gd:=D.m j Zbq (λ_ F=>Zhh (CL:=d) (CJ:=c) F i bl);have IL:=D.d p17 (λ_ F=>Zds F FP E4 Fh bl);have JV:=D.j Zgd Zbn (λ_ F=>Zf1 (CL:=d) (CJ:=c) F i);have G7:=D.d p20 (λ_ F=>ZbK F ur t4 N);have Fy:=D.d p24 (λ_ F=>Zay (C:=g) (CL:=d) (CJ:=c) F i p bl);have G9:=D.d p37 (λ_ F=>ZbO F bl);have tN:=D.d p36 (λ_ F=>Zdu F bl);have Ga:=D.d p41 (λ_ F=>Zdv F bl);have Ic:=D.d p45 (λ_ F=>Zcu F);have G_:=D.d p46 (λ_ F=>ZbQ F);have JQ:=D.d p44 (λ_ F=>Zey F bl);have Bi:=D.d p48 (λ_ F=>Zcw F bl);have Ig:=D.d p43 (λ_ F=>Zcy F bl);have Ik:=D.d p27 (λ_ F=>ZcC F T FX vQ OI wx);have GA:=D.dX p26 (λ_ F=>Zbk F vQ OI IS);have Im:=D.d p30 (λ_ F=>ZcD F bl);have yk:=D.m j E_ (λ_ F=>ZcE (CL:=d) (CJ:=c) F i);have E9:=D.mX j E_ (λ_ F=>ZbS (CL:=d) (CJ:=c) F i Il);have Ir:=D.d p54 (λ_ F=>ZcF F bl);have Ia:=D.d p34 (λ_ F=>Zg3 F bl.t9 bl.jM bl.oM);have rC:HasFn l.prog w K B I 4 "_law_same" pM (t_ 4):=let⟨_,F,b,k,m⟩:=D.p (ps:=pM) p39;⟨_,_,Sq F b k m bl 4,b,k,m⟩;have tO:=D.d p5 (λ_ F=>ZiZ F vY);have vG:=D.d p6 (λ_ F=>Zg6 F vY Gu GZ bl);have vM:=D.m n ZcL (λ_ F=>Zi0 F o wo bl);have G3:=D.m n ZcN (λ_ F=>Zi1 F oC vD bl);have A4:=D.m n Zb0 (λ_ F=>Zg_ F o rD W bl);have F_:=D.m n Zbm (λ_ F=>ZfM F o vC oC bl);have vV:=D.d p13 (λ_ F=>Zcp (CL:=d) F T FX p J G1);have vI:=D.m j Zb3 (λ_ F=>Zi7 (CL:=d) (CJ:=c) F i Q);have E3:=D.m j Zaj (λ_ F=>Zhm (CL:=d) (CJ:=c) F i t q Q);have E8:=D.m j Zap (λ_ F=>Zcs (CL:=d) (CJ:=c) F i t q vL Q);have FQ:=D.d p18 (λ_ F=>ZaH (C:=g) (CL:=d) (CJ:=c) F IL ur t4 Fx);have H_:=D.d p11 (λ_ F=>Zct (C:=g) (CL:=d) (CJ:=c) F EX);have By:=D.d p35 (λ_ F=>Zdt F x Ia bl);have Ib:=D.d p40 (λ_ F=>Zhu F tN bl);have Hf:=D.d p38 (λ_ F=>Zf3 F tN G9 bl);have Ih:=D.d p49 (λ_ F=>Zcx F Bi bl);have Hd:=D.d p28 (λ_ F=>ZbR F wx K6 J Ik bl);have Iq:=D.d p53 (λ_ F=>ZhE F x bl);have we:=D.d p3 (λ_ F=>ZjW F tO rD bl);have zh:=D.d p4 (λ_ F=>ZjX F tO W bl);have EU:=D.m n Zab (λ_ F=>ZfL F o W A4 bl);have vH:=D.m n ZbZ (λ_ F=>Zha F F_ bl);have FT:=D.d p21 (λ_ F=>Zhq (C:=g) (CL:=d) (CJ:=c) F N t q E5 vI);have FU:=D.d p22 (λ_ F=>ZaJ (C:=g) (CL:=d) (CJ:=c) F H_);have FV:=D.d p23 (λ_ F=>ZaL (C:=g) (CL:=d) (CJ:=c) F u tK Fy vI);have Ie:=D.d p42 (λ_ F=>Zhw F Ib Ga bl);have FW:=D.d p29 (λ_ F=>ZaM F Hd bl);have Ft:=D.d p7 (λ_ F=>Zdf F we bl);have G4:=D.m n ZcM (λ_ F=>Zi4 F o vH vC EU vD bl);have G5:=D.d p16 (λ_ F=>ZbF (CL:=d) (CJ:=c) F u vV oC vH);have G8:=D.d p19 (λ_ F=>ZbM (C:=g) (CL:=d) (CJ:=c) F t q J G7 tK FT FU);have Ii:=D.d p47 (λ_ F=>Zcv F G_ Ic JQ Ie bl);have wg:=D.dX p31 (λ_ F=>ZdA (C:=g) (CL:=d) (CJ:=c) F bn GA E9 yk Gd FW Im bl);have KW:=D.j Zji ZcJ (λ_ F=>Zg7 F p vG Ft zh wo bl);have vN:=D.d p15 (λ_ F=>ZbE (CL:=d) (CJ:=c) F u vV G3 G4);have yy:=D.d p55 (λ_ F=>ZbT (C:=g) (CL:=d) (CJ:=c) F wg R Io Bm P y EV Bx L A EY yi EZ E6 bl);have IT:=D.d p8 (λ_ F=>Zdh (C:=d) F vG we KW);have Fv:=D.m j ZaR (λ_ F=>Zew (CL:=d) (CJ:=c) F i vL vM E3 vN bl);have FR:=D.m j Za4 (λ_ F=>ZfZ (CL:=d) (CJ:=c) F i p Ko vM vN);have FO:=D.m j Za5 (λ_ F=>ZfY (CL:=d) (CJ:=c) F i E Fv E8);have qb:=D.m j ZaB (λ_ F=>Zdq (CL:=d) (CJ:=c) F i FO);have Fz:=D.m j ZaP (λ_ F=>Zex (CL:=d) (CJ:=c) F i E FQ qb);have vF:=D.m j Zbo (λ_ F=>Zho (CL:=d) (CJ:=c) F i E G5 FR qb);have Gb:=D.m j Zbp (λ_ F=>Zhp (CL:=d) (CJ:=c) F i G6 qb);have Gz:=D.m j Zb1 (λ_ F=>Zhr (CL:=d) (CJ:=c) F i G8 vF);have Gy:=D.m j Zb2 (λ_ F=>Zhs (CL:=d) (CJ:=c) F i u FV vF);have IQ:=D.d p50 (λ_ F=>Zdy (C:=g) (CL:=d) (CJ:=c) F Gy Gz);have Ij:=D.d p51 (λ_ F=>ZcA (C:=g) (CL:=d) (CJ:=c) F x Ig Ih Ii IQ Fz Gb bl);have Ip:=D.d p52 (λ_ F=>ZcB (C:=g) (CL:=d) (CJ:=c) F Ij bl);exact Zjf F rE x By Hf rC Ip Iq Ir yy wg IT JV bl
def walk{l:PySem.W.OpenLaw}{q:dC}{b:Z af}{p:(af->bS a7)->cX->Prop}{e:dm->cX->Prop}{d:DefRec}{K:Params->ag}(k:l.most=O 63)(g:d.params.defaults=[])
  (n:∀(w:dm) (h:cX),e w h->(K w.params).In h)
  (F:∀(w:dm) (B:aR) (c:U) (h:cX),(K w.params).In h->h.Ns mainGlobals B->B d.name=O (.ref c)->
   ∃fd:FuncData,(∀(s:cb) (u:a7),BindsTo s fd ⟨[u],[]⟩ [("_law_script",u)])/\∀I:cX,(K w.params).In I->I.Ns mainGlobals B->aE l.prog w (K w.params) B I (oa l.prog w) 16 c fd Dp (CH (K w.params))):
  PySem.W.WalkO q b p e l.row.toRowW d [] (λf i=>PySem.call f i):=
 _L.Zgr k QD g ⟨Y,QD,QD,Y⟩ n F (λ_ _ a j m _ o=>⟨a,j,Y,o,m,λ_=>Y⟩) λ_ _ _ _ _ h=>by obtain⟨_,_,_,_,_,_,_,_,_,_,_,_,_,_,z⟩:=h;exact z
end M9
namespace PySem.W.Fast
theorem t:True:=⟨⟩
open Lean in
local macro_rules|`(#print $s:str)=>do
 let mut o:=#[];let mut n:=0;let mut k:=0
 for c in s.getString.toList do
  n:=n*89+(c.toNat-if c<'[' then 35 else 38);k:=k+1
  if k%10=0 then
   let x:=mkIdent (.mkSimple s!"tw{n}");o:=o.push (←`(def $x:ident:=t));n:=0
 return mkNullNode o
#print "Dx^N^I^pm%U6pW$ydKSl1%eP6m`dgLGXp8X^QsfK'eJA.vB^t41hMaX'BghV<9:1T)?jy{)CyKbHf~ad*a{.2//+=k0>BMwd0>(iJY3)/=CIe>LXlFD?Oq2ZBU&seg1|yg>:&-2@3<<s*d.L%xORu>K=7'NJi(t,+?GK@Hae#e%E8s>'TWQ/@=9jCA$aF|)%3jw4Vz%^U(AtGn4)kG=fk4Zl^J<VWX%Xw:y&5SELpmmCBK'x4Sv/5UjR_W3QsTk/0v&'NWy&oT<<52Kq<'1544l=3=~#n6KZlTVwZ0C{)mKT)O?de}-ic;G@-~B{oxjAI=lgl2Oh}.6d%#k1/6|-903`*9HNtPGUWP)aftq?5P*qF6gl~m9mD6VXYeG{4gz:_^h?V#6L0T,?00}2?I=U;CCM^C%>P`qFwMB?2O~nolaJG$-1's?RxdIv8wyZ(TZ,GT>6:32tGy_o3xqhnx7)b'*a1l}#9+T~:*^{XB@I|b@NWq('je0W:`q7&L%MRIW@iu1lK(x2I.Ddw6he4uGzla`_iar35#MeU0.S(WSpewaUU?>:54NN6hPn3jDe5fcILu44*j6i,WQjx8Uti-67D=U(Q.erRgL+^h<zs8?;24@*@Lcn6OaG>LW-P^lunOAoN~%l:'b}V?Nct%i}VPBZH`<gQ>=&gtLNOBAM,8u1KK8kYtp-%,5U/v%;jBfuPCkZb,Im)4399Xnl0FlQ0V&7#$X$kZTNZxKrt9{7I_npZja-@E1$^8El9|&(@gZ#9IV-}=B$t6<80*)i5oHt(_9gmFJimo<k/njQ/)o$HF~-~,Bw%5m$|JVG@AqrOCB:8-<FHs?C/C<3F.q%m_NgN;%qMx9fRS3nP-huYr3Gm^V=<(ZBzz3k3qxGO%&4I>L@3rT/$hYk-=Q<mPGcOjJuhCII5r=>0YmT+kL-&W8*o~XNk)>i,z$Pzs$}xCT(pQ9'fgN+L-^y{:*ZQR1D:}5ov%^r;VRTuAz>/=#p<`o$v0B$P/0A=Y+,;v7`GyO%Cg>MH*NQt9mU?A$A+JnSCIDYMQ=fU&BG-0$@@x&*WGN&9'Jn:AztYVDyXV$*P.Su%9?k}ZEHwP&mh*IO{plc3,H#jnSjJ8/sM?MV{dIH1A2jH8M_tV;:0TTLOJx6Afjq.ZG)aWJg9r{#vXdlKe#,{'X9mc0B$TGt%cgh,Y:nl$DG+FO+43&y2K<03:c&o46.g-L>C/?i{,MG/SHyb,v6nIBRcl*6n2sOW#_}mJ#xQ)(Ntl},SO&L+@J1nebWxF7*i0@BYBo@T9ENWDWRSnM{/'XDn^4jTb?)f(q'BnP#NWm+|w$.#p4k/?6W'S@&*:ffMRlS8J^EZc1Dd,.oo81;3h<r5|*{jil*0@3>ytX3qM:DSV?VnV>C@>(M%o>M|s'R(um=H-R<5nVbI`W$i0$q#&vR?ctB6ZR`t(c0scm`4*|K$u|$$(&WMXD05}Jr2*@uMtisnVNrte6lNYy<C|xg3EJY$}/QS,^H+|;(-GkT,aZ@*wHD-R6V#k>u1L_aeUZkUa0o2.h%nqK}LN8kIZa|w/?.<1gv~kXs.^NVKsLQUQ04@JVg>.AeQ5%~y|YVq+DfD}W6BwfKHGq5-QJwC?Sd=/3syax}QR@=~Ur{ZDQq,:<An{~a-VPZ}E`,:(PUx5#</TV4/Vg5E-Q|MgT<(y*uYrfeG0zw&3)eW-Ee8s#)`BF=0`|Cl;=4ky$)4Q6Zfuo1)cM_hrkz-.Lr%nl3Rd|3S*zk(1_2{%Rq>>(,(Pq+%@bt8pX$;tQ/JskzatnABM8a&KJ1.`,Y|nl,uF)i1k((Lm_G*9#);TqtcGgeI;)Z'Y^:~q,+/s$=-0L=4fx4l:1uzw0hff%%kb}ATET'C0sQD,'j{w-yqlQMMq~3-*'%U|-bRra0{-5|#ouC^gPvY)6{DH.8Ug8t'Q}pGM*$u7?bsS8x8&.HIY^^DW9er4&SpwH_/EZqGd98,9B6Ex5oVpC@S:V>WPvdU+g_'bCoN}wMB)6'JA|fk$KUX'SbJu7P*YqJ(PS~kEOveq0>$HNG|W(B<hP}K38g;J@6>:NHy%aP>fBSy&f`8@H;'Nx;mF(TVIyIHp8`.EL@_)'V?BD#Ef,n9f$p5t:5>T(BwKe^-#P,s>+KC%*QW/C9J33@9F@UD,A'f#)ZKBmY:H5W<jc2(w7k3R87H.ty(PUwCef0gRS^?0<2Oo@d}n-pIM_t^Pl`BD?P/gE(82`q#vh2'%@@nSI3K:7RNGWL$C1U$/jYGBBav1(fFhT0Ma*_a,2EwUW1da;/UfpmVoWIEKFu5I?9WSE'G%@W'??kHYX34~EAVkyZJ'Kx9Sg|_@0A.DGY'S2b+LTW*|Dg-jS<cf;hm(|V;54-1AXiwUm+W@.M|wp&uW`#/J~Ohd%i8?Blf8wc)G`dH#.H4zSB#k&_e'yep`zH:'dH6UxkJ5GQ?K,EagdQ$=8|O8:YSd2/3|aNg3T*%h8?gN4qJ'<SblC,X$:d>pg*`;I&9.3G|26dm~2TW_OH(|Ih=V.{v{&h/YLAJERTr#Vo,G,h{(2-aV:.:EmFQJ/)OvM4;Ge|rvI%L@cbD5TF&6JOnE=`eZWH:9ABH=g$DyMawMGtmJ|I1_7MwY}%s('>hULSO>?CDUv{Qm7JNn%Njo8<LKQ<3OJ.vz;@r/5?XR#gqu<hC/5bMi(#PKFm4M=yv4rV9?$SXU23UN((Ybr&1@SKS>j5|9gS=d;#BS*-1t*i:^8JJJp~vc9,6,{En2l?0qJ<hxWXG'G~hC8e-pb2)S>5KFsBpYO:<1;66?HVE(Cn.dq,m>I>ET,.g=YLQ?k9vkjEa.'0YC=*#A,CHoCrZyv*`z;<o#9)ZEC%74LVJ^XS$tHRkT_jkkF0#6U7T::XC0W+e)T5yJp)DCT$Yd/IrI#2R|vkJs(*Ks)%xy|cAo0)@u'}AQ}VFEoR)+SrrbJ+}kcEA|E'?1iGd3hY~'K94v$%~ncO9B@ftRaSs_-5<dFkaT-,-'ob&%tVQ-Vvu{3Sj(2EAK)TV+_1t1IxLc`6o7L_UlLXvG=iDr#txJ-_e&2G<;yL9x&2xk'+H(,umH=PQi.N}:Rn+R=M)k~+>+yh?1S1s2&N3j1Zfrl`RC/:%q;yKruyBN2xLq^&W):H(k*efk'%OV,W<Y5gL;;=OB%4(Bbi$$?1S+_bo.RSA1_RJr#;?K6L,bn6sN-F3y-&9X*IW2'5o?l.Z*a|Dd~x&8h`xX=CkX}7+aK+AR=(RF'2RlT{YDz&sDzS'+I&u.`|jj;h+xu>fogV*x+us+#<VZC:4m<&nufoIq'VA`ZNAE-b>quU^@h1;G8(uJ<5)%BB~yKI&)R8)~~3_i*2AUO%<+&a=6{K0j`X7@iFq{6D^9cBB-tcQ}q7R#%E%OOlXkxz5J&@+PO&Jpf_?T;vrmv{-|}c$mwV$E>FWQ)tP/&cc.D43W4eZk.~yI'Op'u=<cqBRz84nxWj0o?-2eZ}X2NE6U52d@$BO1-/tJ%p'w%b&riu1H~)bIA3Z+1@MO_UI5W;:VpKHyEt=97^qwy.8hV~bxWPwtBMqHP0a^%V=X/*PH)F+H*{O}B.A^;`TMm$SESt72MUN6}#e;wxKm;^}B:cN.;8po'X1',`7Q|Peswl$(GSi4aA=/_n.v&OmaIWBH<gRZ3s+Ln%.Mgc.^wUe@PDu='k5qt91|?*a>GB-_.Jv:?}^o=s+`FN3y%GOJ)8MM$qh@u5I{:X%5|H{vC?eZ,#B#{qS3VFBC'%5wP4@$h>D_j}S0(Tc8$$`S&%<fj(`LjECqX)77Flrh2g7l=.69?JC&si*'V.x{9<7fcyDNde850aa^FHcNOI5M1nRBQ@:#105{92vt6m7l$P:1F$2ytMH|hQ1a3,JF,Y5Ew/C(GlOW^Zdd#-,J8hN^MF-pa|o3+NR3C{Ie<>+6g6'yMzRN|@h0G(YvUZf+BbINx8203-HA6~Mdk:R5SlKQL,M~N{`F>.&HH8DUO=61.KkRvf'6;0iQ>(5.`i%}ZW`by$,vHS-NHb-n^z(ozAm9>L6/6AT#K&R_t4VSY-Q@@T$e)i%7?zvql?I>2D_pVT$XL>w//@/EL^No=?=^V_JgC,<',bxmi=2;x(d:xd?MM&C(ok>|DG+mhK>tv.In4^aR7-3>YF-a6rf(}pL80D=ja7I1Wc5I)9Po6R<ERdRyFTl:&:3SqC.Q3?D#ScUt`'LKq(,GR6=7T3yl?2-(uG=r|#+NHms:RCI~/S=},M2p=4>V'cHx$k6#(zQl3hEL&_*5=X4.5e:BFr6qh'ls-LJ?v,&.n>?9La/4<`R4,BHrfqU(3ZsEMcUZshca'~HB?J_{e`Z?D7>MSqcTw:,kqUMe+(l}/c,O/}if?BVf^uQ$er3H&uUA'wI6U<<PQCM~aH-F$_mO2b,aYk39auk4i{&lP/@oqss*Ni,`fT*XyN)M)Ma2njeJlR/7qTSB;Vep:Ey%IWKE>V@GXQ$5i,eMIz<1L|5s^W?S@r><fUBr0D|n*ACrIB1mNyRaxdW158iS;uCw=?I3w|'(kj9WV:Shna&fz8(<NP-&@'_G,rtMC/x,?xB..I4{mB@jJ|;7AWR5(cO{`g;PuwjMQv.KV1NfkP5f9pM$-Q:R9bki=_{Li<%j9&MXLP,KA;$Q?v{6muGJUpL5{5HE,82S2CP:u0:rb5'8|km<3%N5Pi#oG-7Qvun/e.7tC#,-zZ_^UhJ{6/*j%)&+-d9ZjFpk3H2_M6).1sVlDZ_s>6:)=)I,b,RxHx?tVy}P1>-UT~=Pm(?+rM'CKeIi_1-^@d)~WB5OCR/-+Qf,D=f#qM;&nbo~0U6)DcBm)BOUG1(wq(t|nkOxCeI'7k/wlp=lPE-RS/%r#:hraOn6~,TfC?<Ejj3><=#Wv(J=:5HId8Xk#GD`MK*)rbqhA6PHp.u5avFAUDMZI:;cv|,}iA5s=dcC9O5*fn,4Bd-;BJ=CPt<L87Z$'`+RiK<?bp{GTR5j@Ajj2mY4`=.Sk9Q$n<E>S`@Hpfy?r1'$BVr0Ke?)57$M@'Vjj/5}_=D(m#I%=<b;rxj_t,-A?3r',FNo%Ci426.8f1AJ}jg-)mglJ|@0#9ohvj(/BAmAEXsM:);vnX^^)}PcnV>LwAMy5yhjn1+}(rASHr~v<K:1Cj26A0zE+D=``oU^D$uzN*i'+`v'Ih=zfKQ+*;77$zRjQO1?<dR%K@NDp*BQ#>`<Z'fiq51CRbxy^Z5T4H70nA03cYL2WoeG7*yH:TwU7%#aB0DKr-m%B.Z0-0<-n$3?+3:t#FUZs~p8H2t5v<'IeqQ65}Rn*fQ35Pudp=o1$AR~bE'h2twf+u/omM5k'F/%t1yxKG85TbWyLos3~>,jf/WeVf#9FE>R070dt^P-z.Q%Gn8dWGuBCMJ&U+%s360m1-?i#(~nHFNx/50=YVhbB'&.<;rKd?d`oz4b08uMiA>.O/c=M&bH'a0_7Uw)O/>A&7RF>42Yq<TP$>)x{>3LJDy#NZ`MA=P<DCXf`=6AV{`FJ3VF@g$p:||2,Gb$')?<wOnFwKUV<jR-Z,giC=~.7/>wtR4bzOb$tA~59$Nh&g}(ew<ti@%mR0)4Q`r^%zC'N(/Odbw:Rfi>9U#~L6%LtEHmb>BN.w'B(I+ufa~SAm)uoH0rzoj684IQ@l(x-|%CMqV0&nL|@u?zU/y'WrCk0Adl~OHLDvss6V$x.{Fx/}V|$_}oH=+<5=0bSg9fy(,gY)U320*,Ngj17lK7BRf./Wa@7q-Pj397a,4/?#/D3;2h9AiO}kfJA.FJ2`nS&+KL:I+++ed#4JEShsS|iBRYR*>wBIsH;10gUSQ)VQFL;AmIk;@m-MIxrDZ70u)M54`2C7U*,-%h5D?IdCXvUaP,z6#r^m2QLuelqpzA@zgG0:mj34&)_kTcSkT4E^q(Dn*w*_JtAYwl:JqiKV*8hDgZKX1weqQr${>53*MH<Y-^682M<AOLD?)r'TTU%{0x);*?2$QQF2%+IqJYWKWA7_:3B8c~FY%y>w<~FyR82&2G*#lwdGM'3xIr%0%}$>;pQ'<mGEtg"
end PySem.W.Fast
open PySem PySem.W PyProof.Rows
set_option maxRecDepth 100000 in
set_option maxHeartbeats 0 in
theorem PySem.Challenge.cw_kinhearth_k40_called_by_a_word_holds : PySem.Challenge.rw_kinhearth_k40_called_by_a_word.Holds := by
 w_on; o_law; k_head; (case hw=>w_witness2)
 k_fill
 refine M9.walk (l:=PySem.Challenge.rw_kinhearth_k40_called_by_a_word) rfl rfl (λ w h Y=>kIn_of Y) ?F
 case F=>
  intro w mg fa h KX G z7
  apply M9.all_mk KX G z7 <;> repeat' first | k_is | (show _=_; k_is) | kernel_rfl | constructor

