import PyProof.Rows.All
import Wide.All
import OpenK.AllK
import Wide.FinOn
import Lean
import PyProof.EqAt
import PyProof.EqKinds
import PyProof.TupleCall
import PyProof.NeKinds
import PyProof.ConsumeWalk
import PyProof.ListRange
import PyProof.TupleOfSeq
import PyProof.Rows.SortWalk
import PyProof.CompFree
import PySem.Challenge.RW_kinhearth_k32_a_dealing_told
noncomputable section
set_option compiler.extract_closed false
set_option genSizeOf false
set_option Elab.async false
set_option linter.all false
set_option maxRecDepth 100000
set_option maxHeartbeats 4000000
abbrev ah:=PySem.W.Frag
abbrev bw:=PySem.Value->PySem.Shared->Prop
abbrev bq:=List (PySem.Addr×PySem.Obj)
abbrev a8:=PySem.Str->Option PySem.Value
open PySem
noncomputable abbrev Z:=@Option.some
noncomputable abbrev aJ:=@Option.none
noncomputable abbrev af:=true
noncomputable abbrev bg:=false
abbrev O:=List
abbrev U:=Addr
abbrev a7:=Value
abbrev bN:=Shared
abbrev bS:=Option
abbrev dC:=Program
abbrev dg:=World
abbrev cb:=Stmt
abbrev c8:=Heap
abbrev fb:=Around
abbrev dq:=Array
abbrev cu:=Bool
abbrev ar:=Str
abbrev cH:=Expr
open PySem.W (instObj methodObj lookIn plainGet hasDictIn handedIn plainGet_of findObj_own isFn plainOver takerIn set_plain any_some makesIn typeIn emptyDict keepIn specialIn takesIn kitOne kia_one kitx_list kitx_dict callWith_K methodCall_KW callWith_K0 cellsFrom_some fnOf codeIn notCls check_slot KitX osa_eq kitCls findCls subIn nsIn mg_of kIn_of)
open PySem.F (slot_tuple_add excBase_ValueError slot_dict_delitem slot_dict_pop slot_dict_get entry_dict_get plainAttrs_dict type_dict_get plainAttrs_list slot_list_pop type_list_pop)
abbrev Ya:=@List.length_map
abbrev Yb:=@List.getElem?_eq_getElem
abbrev Yc:=@Heap.get?_push_of_some
abbrev Yd:=@Nat.le_refl
abbrev Ye:=@List.getElem?_map
abbrev Yf:=@List.mem_map
abbrev Yg:=@List.mem_of_getElem?
abbrev Yh:=@List.getElem?_eq_some_iff
abbrev Yi:=@List.mem_singleton
abbrev Yj:=@List.length_append
abbrev Yk:=@List.getD_eq_getElem?_getD
abbrev Yl:=@Bool.false_ne_true
abbrev Ym:=@List.mem_cons
abbrev Yn:=@List.map_append
abbrev Yo:=@List.mem_cons_self
abbrev Yp:=@Option.some.inj
abbrev Yq:=@List.size_toArray
abbrev Yr:=@List.mem_append_right
abbrev Ys:=@Heap.get?_push_size
abbrev Yt:=@List.mem_append_left
abbrev Yu:=@Heap.lt_size
abbrev Yv:=@List.mem_append
abbrev Yw:=@List.mem_cons_of_mem
abbrev Yx:=@Nat.zero_le
abbrev Yy:=@Nat.le_trans
abbrev Yz:=@Nat.ne_of_lt
abbrev Y0:=@List.nodup_cons
abbrev Y1:=@List.take_add_one
abbrev Y2:=@List.not_mem_nil
abbrev Y3:=@Nat.lt_of_lt_of_le
abbrev Y4:=@List.getElem?_eq_none
abbrev Y5:=@List.mem_filter
abbrev Y6:=@List.map_map
abbrev Y7:=@Int.toNat_natCast
abbrev Y8:=@Array.getD_eq_getD_getElem?
abbrev Y9:=@Sum.inr.inj
abbrev Wa:=@Heap.get?_update_other
abbrev Wb:=@List.length_take
abbrev Wc:=@Bool.and_eq_true
abbrev Wd:=@List.take_length
abbrev We:=@Nat.lt_irrefl
abbrev Wf:=@List.append_nil
abbrev Wg:=@List.mem_range
abbrev Wh:=@List.getElem?_append_left
abbrev Wi:=@List.length_cons
abbrev Wj:=@List.map_cons
abbrev Wk:=@Nat.not_lt_zero
abbrev Wl:=@List.length_filter_le
abbrev Wm:=@List.filter_append
abbrev Wn:=@Bool.eq_iff_iff
abbrev Wo:=@List.all_eq_true
abbrev Wp:=@Array.length_toList
abbrev Wq:=@Heap.get?_update_self
abbrev Wr:=@Nat.lt_succ_of_lt
abbrev Ws:=@List.pairwise_map
abbrev Wt:=@List.ext_getElem?
abbrev Wu:=@List.length_range
abbrev Wv:=@Int.emod_lt_of_pos
abbrev Ww:=@List.mem_iff_getElem
abbrev Wx:=@List.take_of_length_le
abbrev Wy:=@List.nodup_append
abbrev Wz:=@Array.getElem?_eq_getElem
abbrev W0:=@List.pairwise_iff_getElem
abbrev W1:=@List.length_replicate
abbrev W3:=@Nat.lt_of_le_of_lt
abbrev W4:=@List.lookup_cons
abbrev W5:=@List.filter_cons
abbrev W6:=@Bool.eq_false_iff
abbrev W7:=@Nat.le_succ_of_le
abbrev W8:=@List.length_set
abbrev W9:=@Int.emod_nonneg
abbrev Ja:=@List.getElem?_range
abbrev Jb:=@List.map_congr_left
abbrev Jc:=@List.length_zip
abbrev Jd:=@Option.map_eq_some_iff
abbrev Je:=@List.nodup_iff_pairwise_ne
abbrev Jf:=@Nat.lt_succ_self
abbrev Jg:=@List.any_eq_true
abbrev Jh:=@List.any_cons
abbrev Ji:=@Nat.le_of_ble_eq_true
abbrev Jj:=@List.nodup_nil
abbrev Jk:=@Option.isSome_iff_exists
abbrev Jl:=@Array.getElem?_setIfInBounds_ne
abbrev Jm:=@Bool.or_eq_true
abbrev Jn:=@Nat.le_of_lt
abbrev Jo:=@Nat.ne_of_gt
abbrev Jp:=@List.filterMap_cons
abbrev Jq:=@List.all_cons
abbrev Jr:=@List.mem_filterMap
abbrev Js:=@List.filter_filter
abbrev Jt:=@Nat.le_succ
abbrev Ju:=@Array.getElem?_toList
abbrev Jv:=@List.range_succ
abbrev Jw:=@Heap.get?_push_ne
abbrev Jx:=@List.append_assoc
abbrev Jy:=@List.getElem?_append_right
abbrev Jz:=@Array.getElem?_eq_some_iff
abbrev J0:=@Array.perm_iff_toList_perm
abbrev J1:=@Heap.get?_none_of_le
abbrev J3:=@Heap.size_push
abbrev J7:=@List.getElem_mem
abbrev J8:=@List.length_drop
abbrev J9:=@Sum.inl.inj
abbrev NK:=@Int.toNat_of_nonneg
abbrev Xy:=@Array.size_setIfInBounds
abbrev XY:=@List.filter_cons_of_pos
abbrev X6:=@List.getElem?_cons_succ
abbrev Ej:=@List.filter_map
abbrev AV:=@Bool.true_and
abbrev ZT:=@Nat.add_sub_cancel_left
abbrev XO:=@Array.getElem?_eq_none
abbrev AE:=@Int.zero_add
abbrev WZ:=@List.getElem?_set_ne
abbrev DQ:=@Bool.false_or
abbrev MI:=@List.of_mem_zip
abbrev XE:=@Heap.get?_update_ne
abbrev MU:=@List.find?_cons
abbrev XX:=@List.filter_eq_self
abbrev Nd:=@List.foldl_cons
abbrev DF:=@Nat.le_of_eq
abbrev YG:=@List.zip_cons_cons
abbrev Xh:=@List.any_eq_false
abbrev XN:=@Option.isSome_map
abbrev X0:=@List.foldl_append
abbrev XM:=@List.cons_append
abbrev YU:=@List.mem_flatMap
abbrev MS:=@Int.ne_of_gt
abbrev Xv:=@List.length_nil
abbrev Na:=@List.all_map
abbrev X4:=@List.nil_append
abbrev Oi:=@Nat.succ_pos
def eW{d:Sort _}{b:d->Prop}{G:Prop}(h:∃a,b a)(k:∀a,b a->G):G:=by obtain⟨a,c⟩:=h;exact k a c
def B2{n:Sort _}{m:Sort _}{l:Sort _}{j:Sort _}{f e:n->m->l->j->Prop}{G:Prop}(h:∃d,∃c,∃b,∃a,f d c b a/\e d c b a)(k:∀d c b a,f d c b a->e d c b a->G):G:=by obtain⟨d,c,b,a,i,g⟩:=h;exact k d c b a i g
def gb{b a G:Prop}(h:b/\a)(k:b->a->G):G:=k h.1 h.2
def qp{r:Sort _}{q:Sort _}{p:Sort _}{o:Sort _}{i g f e:r->q->p->o->Prop}{G:Prop}(h:∃d,∃c,∃b,∃a,i d c b a/\g d c b a/\f d c b a/\e d c b a)(k:∀d c b a,i d c b a->g d c b a->f d c b a->e d c b a->G):G:=by obtain⟨d,c,b,a,n,m,l,j⟩:=h;exact k d c b a n m l j
def t5{v:Sort _}{u:Sort _}{t:Sort _}{s:Sort _}{l j i g f e:v->u->t->s->Prop}{G:Prop}(h:∃d,∃c,∃b,∃a,l d c b a/\j d c b a/\i d c b a/\g d c b a/\f d c b a/\e d c b a)(k:∀d c b a,l d c b a->j d c b a->i d c b a->g d c b a->f d c b a->e d c b a->G):G:=by obtain⟨d,c,b,a,r,q,p,o,n,m⟩:=h;exact k d c b a r q p o n m
def um{r:Sort _}{q:Sort _}{p:Sort _}{o:Sort _}{n:Sort _}{i g f:r->q->p->o->n->Prop}{G:Prop}(h:∃e,∃d,∃c,∃b,∃a,i e d c b a/\g e d c b a/\f e d c b a)(k:∀e d c b a,i e d c b a->g e d c b a->f e d c b a->G):G:=by obtain⟨e,d,c,b,a,m,l,j⟩:=h;exact k e d c b a m l j
def qL{v:Sort _}{u:Sort _}{t:Sort _}{s:Sort _}{r:Sort _}{q:Sort _}{l j i g:v->u->t->s->r->q->Prop}{G:Prop}(h:∃f,∃e,∃d,∃c,∃b,∃a,l f e d c b a/\j f e d c b a/\i f e d c b a/\g f e d c b a)(k:∀f e d c b a,l f e d c b a->j f e d c b a->i f e d c b a->g f e d c b a->G):G:=by obtain⟨f,e,d,c,b,a,p,o,n,m⟩:=h;exact k f e d c b a p o n m
def q7{u:Sort _}{t:Sort _}{s:Sort _}{r:Sort _}{q:Sort _}{p:Sort _}{o:Sort _}{j i g:u->t->s->r->q->p->o->Prop}{G:Prop}(h:∃f,∃e,∃d,∃c,∃b,∃a,∃x6,j f e d c b a x6/\i f e d c b a x6/\g f e d c b a x6)(k:∀f e d c b a x6,j f e d c b a x6->i f e d c b a x6->g f e d c b a x6->G):G:=by obtain⟨f,e,d,c,b,a,x6,n,m,l⟩:=h;exact k f e d c b a x6 n m l
def c9{c b a G:Prop}(h:c/\b/\a)(k:c->b->a->G):G:=k h.1 h.2.1 h.2.2
def eJ{d c b a G:Prop}(h:d/\c/\b/\a)(k:d->c->b->a->G):G:=k h.1 h.2.1 h.2.2.1 h.2.2.2
def m8{e d c b a G:Prop}(h:e/\d/\c/\b/\a)(k:e->d->c->b->a->G):G:=k h.1 h.2.1 h.2.2.1 h.2.2.2.1 h.2.2.2.2
def ie{f e d c b a G:Prop}(h:f/\e/\d/\c/\b/\a)(k:f->e->d->c->b->a->G):G:=k h.1 h.2.1 h.2.2.1 h.2.2.2.1 h.2.2.2.2.1 h.2.2.2.2.2
def uI{g f e d c b a G:Prop}(h:g/\f/\e/\d/\c/\b/\a)(k:g->f->e->d->c->b->a->G):G:=k h.1 h.2.1 h.2.2.1 h.2.2.2.1 h.2.2.2.2.1 h.2.2.2.2.2.1 h.2.2.2.2.2.2
def u3{i g f e d c b a G:Prop}(h:i/\g/\f/\e/\d/\c/\b/\a)(k:i->g->f->e->d->c->b->a->G):G:=k h.1 h.2.1 h.2.2.1 h.2.2.2.1 h.2.2.2.2.1 h.2.2.2.2.2.1 h.2.2.2.2.2.2.1 h.2.2.2.2.2.2.2
def bo{f:Sort _}{c b:f->Prop}{G:Prop}(h:∃a,c a/\b a)(k:∀a,c a->b a->G):G:=by obtain⟨a,e,d⟩:=h;exact k a e d
def cm{i:Sort _}{d c b:i->Prop}{G:Prop}(h:∃a,d a/\c a/\b a)(k:∀a,d a->c a->b a->G):G:=by obtain⟨a,g,f,e⟩:=h;exact k a g f e
def lr{l:Sort _}{e d c b:l->Prop}{G:Prop}(h:∃a,e a/\d a/\c a/\b a)(k:∀a,e a->d a->c a->b a->G):G:=by obtain⟨a,j,i,g,f⟩:=h;exact k a j i g f
def iy{n:Sort _}{f e d c b:n->Prop}{G:Prop}(h:∃a,f a/\e a/\d a/\c a/\b a)(k:∀a,f a->e a->d a->c a->b a->G):G:=by obtain⟨a,m,l,j,i,g⟩:=h;exact k a m l j i g
def vg{p:Sort _}{g f e d c b:p->Prop}{G:Prop}(h:∃a,g a/\f a/\e a/\d a/\c a/\b a)(k:∀a,g a->f a->e a->d a->c a->b a->G):G:=by obtain⟨a,o,n,m,l,j,i⟩:=h;exact k a o n m l j i
def vi{f:Sort _}{e:Sort _}{c:f->e->Prop}{G:Prop}(h:∃b,∃a,c b a)(k:∀b a,c b a->G):G:=by obtain⟨b,a,d⟩:=h;exact k b a d
def iF{i:Sort _}{g:Sort _}{d c:i->g->Prop}{G:Prop}(h:∃b,∃a,d b a/\c b a)(k:∀b a,d b a->c b a->G):G:=by obtain⟨b,a,f,e⟩:=h;exact k b a f e
def gR{l:Sort _}{j:Sort _}{e d c:l->j->Prop}{G:Prop}(h:∃b,∃a,e b a/\d b a/\c b a)(k:∀b a,e b a->d b a->c b a->G):G:=by obtain⟨b,a,i,g,f⟩:=h;exact k b a i g f
def dE{n:Sort _}{m:Sort _}{f e d c:n->m->Prop}{G:Prop}(h:∃b,∃a,f b a/\e b a/\d b a/\c b a)(k:∀b a,f b a->e b a->d b a->c b a->G):G:=by obtain⟨b,a,l,j,i,g⟩:=h;exact k b a l j i g
def vj{p:Sort _}{o:Sort _}{g f e d c:p->o->Prop}{G:Prop}(h:∃b,∃a,g b a/\f b a/\e b a/\d b a/\c b a)(k:∀b a,g b a->f b a->e b a->d b a->c b a->G):G:=by obtain⟨b,a,n,m,l,j,i⟩:=h;exact k b a n m l j i
def rb{r:Sort _}{q:Sort _}{i g f e d c:r->q->Prop}{G:Prop}(h:∃b,∃a,i b a/\g b a/\f b a/\e b a/\d b a/\c b a)(k:∀b a,i b a->g b a->f b a->e b a->d b a->c b a->G):G:=by obtain⟨b,a,p,o,n,m,l,j⟩:=h;exact k b a p o n m l j
def CB{i:Sort _}{g:Sort _}{f:Sort _}{d:i->g->f->Prop}{G:Prop}(h:∃c,∃b,∃a,d c b a)(k:∀c b a,d c b a->G):G:=by obtain⟨c,b,a,e⟩:=h;exact k c b a e
def ng{l:Sort _}{j:Sort _}{i:Sort _}{e d:l->j->i->Prop}{G:Prop}(h:∃c,∃b,∃a,e c b a/\d c b a)(k:∀c b a,e c b a->d c b a->G):G:=by obtain⟨c,b,a,g,f⟩:=h;exact k c b a g f
def nF{n:Sort _}{m:Sort _}{l:Sort _}{f e d:n->m->l->Prop}{G:Prop}(h:∃c,∃b,∃a,f c b a/\e c b a/\d c b a)(k:∀c b a,f c b a->e c b a->d c b a->G):G:=by obtain⟨c,b,a,j,i,g⟩:=h;exact k c b a j i g
def lV{p:Sort _}{o:Sort _}{n:Sort _}{g f e d:p->o->n->Prop}{G:Prop}(h:∃c,∃b,∃a,g c b a/\f c b a/\e c b a/\d c b a)(k:∀c b a,g c b a->f c b a->e c b a->d c b a->G):G:=by obtain⟨c,b,a,m,l,j,i⟩:=h;exact k c b a m l j i
def kW{r:Sort _}{q:Sort _}{p:Sort _}{i g f e d:r->q->p->Prop}{G:Prop}(h:∃c,∃b,∃a,i c b a/\g c b a/\f c b a/\e c b a/\d c b a)(k:∀c b a,i c b a->g c b a->f c b a->e c b a->d c b a->G):G:=by obtain⟨c,b,a,o,n,m,l,j⟩:=h;exact k c b a o n m l j
def nR{t:Sort _}{s:Sort _}{r:Sort _}{j i g f e d:t->s->r->Prop}{G:Prop}(h:∃c,∃b,∃a,j c b a/\i c b a/\g c b a/\f c b a/\e c b a/\d c b a)(k:∀c b a,j c b a->i c b a->g c b a->f c b a->e c b a->d c b a->G):G:=by obtain⟨c,b,a,q,p,o,n,m,l⟩:=h;exact k c b a q p o n m l
def CF{p:Sort _}{o:Sort _}{n:Sort _}{m:Sort _}{g f e:p->o->n->m->Prop}{G:Prop}(h:∃d,∃c,∃b,∃a,g d c b a/\f d c b a/\e d c b a)(k:∀d c b a,g d c b a->f d c b a->e d c b a->G):G:=by obtain⟨d,c,b,a,l,j,i⟩:=h;exact k d c b a l j i
def ju{t:Sort _}{s:Sort _}{r:Sort _}{q:Sort _}{j i g f e:t->s->r->q->Prop}{G:Prop}(h:∃d,∃c,∃b,∃a,j d c b a/\i d c b a/\g d c b a/\f d c b a/\e d c b a)(k:∀d c b a,j d c b a->i d c b a->g d c b a->f d c b a->e d c b a->G):G:=by obtain⟨d,c,b,a,p,o,n,m,l⟩:=h;exact k d c b a p o n m l
def vl{t:Sort _}{s:Sort _}{r:Sort _}{q:Sort _}{p:Sort _}{j i g f:t->s->r->q->p->Prop}{G:Prop}(h:∃e,∃d,∃c,∃b,∃a,j e d c b a/\i e d c b a/\g e d c b a/\f e d c b a)(k:∀e d c b a,j e d c b a->i e d c b a->g e d c b a->f e d c b a->G):G:=by obtain⟨e,d,c,b,a,o,n,m,l⟩:=h;exact k e d c b a o n m l
def QO{p:Prop}(h:p:=by omega):p:=h
def QS{p:Prop}(h:p:=by simp):p:=h
def QD{p:Prop}(h:p:=by decide):p:=h
def QU{p:Prop}(h:p:=by with_unfolding_all rfl):p:=h
def QR{p:Prop}(h:p:=by rfl):p:=h
def QK{p:Prop}(h:p:=by decide+kernel):p:=h
def QJ{p:Prop}(h:p:=by kernel_rfl):p:=h
def QG{p:Prop}(h:p:=by grind):p:=h
def QA{p:Prop}(h:p:=by simp_all):p:=h
def bt:=@PySem.wpAny_bind
def cv:=@PySem.wpAny_pure
def bC:=@if_pos
def d9:=@decide_eq_true
def bF:=@if_neg
def fI:=@of_decide_eq_true
def d6:=@PySem.sizeLine_eq
def jV:=@decide_eq_true_iff
def jb:=@decide_eq_false
def eH:=@PySem.wpAny_mono
def iJ:=@PySem.PassesOwn.never
def lW:=@PySem.F.type_list_append
def me:=@PySem.F.slot_list_append
def eL:=@congrArg
def lg:=@PySem.F.plainAttrs_list
def kY:=@PySem.wpAny_holding
def mn:=@PySem.wpAny_loadPart_at
def kS:=@True.intro
def nV:=@PySem.Calls.callWith_builtin
def i1:=@or_false
def nh:=@PySem.wpAny_truthy_bool
def ni:=@PySem.wpAny_newObj_type
def mu:=@PySem.wpAny_standAt
def pB:=@PySem.wpAny_isSubtype_exc
def hY:=@Or.inl
def pQ:=@PySem.tupleKind_room_in1
def pY:=@PySem.Calls.spliced_cons
def my:=@PySem.wpAny_field
def rj:=@PySem.Calls.evalArgs_plain
def nj:=@PySem.strLen_append
def lp:=@Ne.symm
def nq:=@PySem.codeAny_mono
def rn:=@PySem.wpAny_Call_Name_kw
def sV:=@PySem.F.excBase_ValueError
def pZ:=@PySem.wpAny_passesOwn
def oa:=@PySem.call_meetsIn
def rz:=@PySem.wpAny_call_entry
def k8:=@not_or
def tc:=@PySem.mem_of_lookup
def vm:=@PySem.wpAny_comprehension_free
def th:=@PySem.wpAny_pyIter_list
def tq:=@PySem.Calls.spliced_nil
def xp:=@PySem.plainObj_wpAny_Assign_Attribute
def mF:=@Or.inr
def oD:=@PySem.wpAny_call
def oE:=@PySem.call_meets
def mh:=@PySem.W.kia_one
def sF:=@PySem.F.slot_dict_get
def sQ:=@PySem.W.methodCall_KW
def vr:=@PySem.Obj.data_mapDictKeys
def tr:=@PySem.F.plainAttrs_dict
def lq:=@PySem.W.mg_of
def qd:=@PySem.W.callWith_K
def tK:=@PySem.wpAny_setField
def tL:=@List.Perm.refl
def vt:=@PySem.SeqAt.EqAt.int_int
def xA:=@PySem.Calls.call_function_entry
def vA:=@PySem.wpAny_Call_method
def vE:=@PySem.F.slot_dict_delitem
def sU:=@PySem.typeIs_str
def vH:=@PySem.wpAny_execs_nil
def vI:=@PySem.codeAny_builtin
def vK:=@and_congr_right
def xN:=@PySem.wpAny_notOrdered_dict
def xQ:=@PySem.Obj.isFreed_of_fields
def vL:=@PySem.wpAny_loadPart
def vN:=@PySem.F.entry_dict_get
def xU:=@PySem.codeAny_call_builtin
def vO:=@PySem.wpAny_newList
def tM:=@PySem.wpAny_rule
def x9:=@PySem.wpAny_pyIter_tuple
def ya:=@PySem.Obj.data_mapFields
def vV:=@PySem.wpAny_typeOf
def yj:=@bne_self_eq_false
def yn:=@PySem.Within.cons
def C4:=@PyProof.Rows.slot_tuple_getitem
def tO:=@And.intro
def yo:=@PySem.wpAny_lookBehind
def yT:=@PySem.pastItsLine_dict
def Dx:=@PyProof.Rows.callWith_builtin1
def y0:=@PySem.wpAny_tests_nil
def y9:=@Array.Perm.refl
def Dy:=@PySem.F.slot_dict_setdefault
def Dz:=@PySem.F.args_dict_delitem_2
def DA:=@PyProof.Rows.callWith_type1
def QaJ:=@Nat.mod_lt
def zi:=@Nat.mul_le_mul
def zj:=@List.take_zero
def DB:=@PySem.F.entry_dict_delitem
def DH:=@PySem.Calls.Name_function_global
def zl:=@PySem.rangeSize_one
def zL:=@PySem.plainId_quiet
def zS:=@Bool.or_false
def DJ:=@PySem.F.slot_dict_values
def DW:=@PySem.F.args_tuple_add_2
def DY:=@List.getElem?_take_of_lt
def D0:=@List.Perm.eq_of_pairwise
def D8:=@PySem.wpAny_callSpecial?_slot
def Ep:=@PySem.wpAny_Call_method0_late
def EC:=@PySem.SeqAt.eq_list_lengthsAt
def ED:=@PySem.F.entry_tuple_add
def EJ:=@PySem.F.args_dict_get_3
def G2:=@PySem.F.args_dict_get_2
def zT:=@PySem.wpAny_nsSet1
def zW:=@PySem.seqIndex_neg
def zX:=@PySem.codeAny_loop
def zY:=@Nat.zero_add
def Ad:=@List.map_nil
def J5:=@PySem.wpAny_delete_Subscript
def J6:=@PySem.wpAny_Call_method_late
def KL:=@PySem.wpAny_Assign_Subscript
def KN:=@Nat.lt_of_succ_lt_succ
def LS:=@List.getElem?_set_self
def L0:=@PySem.wpAny_isTrue_Compare1
def L3:=@PySem.wpAny_deleteEach_cons
def vW:=@PySem.W.any_some
def Ae:=@PySem.wpAny_noted
def Ag:=@PySem.wpAny_letGo
def Ah:=@PySem.seqIndex_of
def Ai:=@PySem.W.plainGet_of
def MW:=@PySem.wpAny_updateDictKeys
def M7:=@PySem.wpAny_loadName_local
def M_:=@PySem.wpAny_deleteEach_nil
def Nc:=@PySem.lookup_relabel_local
def Nh:=@List.replicate_succ'
def Ni:=@List.getElem_toArray
def NH:=@Array.toArray_toList
def NL:=@PySem.Around.under_plainId
def NM:=@PySem.wpAny_loadName_cell
def NN:=@PySem.wpAt_of_wpAny
def NO:=@PySem.evalArgs_none
def N8:=@PySem.Obj.isFreed_of_dict
def Qbu:=@Nat.add_le_add_left
def Od:=@List.replicate_succ
def Qbw:=@List.filter_sublist
def Pe:=@PySem.Heap.SameBut.update
def Aj:=@PySem.wpAny_Name
def An:=@PySem.Walks.list
def Pw:=@PySem.wpAny_delItem_slot
def SF:=@PySem.wpAny_List_spliced
def TF:=@PySem.findBy_of_findIdx?
def US:=@PySem.SeqAt.notIn_listAt
def QbE:=@PySem.SeqAt.EqAt.str_int
def QbF:=@PySem.SeqAt.EqAt.int_str
def Vj:=@List.zip_nil_right
def VE:=@PySem.F.slot_tuple_index
def VP:=@PySem.Code.quiet_builtin
def VQ:=@Bool.false_eq_true
def VR:=@PySem.wpAny_sequenceKey
def VT:=@PySem.wpAny_dictEntries
def V1:=@PySem.wpAny_collect_seq
def WX:=@PySem.wpAny_assign_Name
def WY:=@PySem.slot_dict_getitem
def Xj:=@PySem.richCompare_gives
def Xl:=@not_false_eq_true
def Xm:=@decide_eq_true_eq
def Xn:=@Nat.le_of_succ_le
def Xo:=@List.reverse_cons
def Xp:=@List.filter_congr
def Xz:=@List.Pairwise.nil
def XD:=@Int.emod_eq_of_lt
def XG:=@PySem.Heap.Ns1.of_empty
def XH:=@Array.getElem_mem
def Az:=@PySem.small_one
def XI:=@PySem.wpAny_madeBy_exc
def XS:=@PySem.wpAny_execs_cons
def XT:=@PySem.wpAny_Dict_empty
def XU:=@PySem.noFill_tuple_add
def XW:=@Nat.succ_le_succ
def XZ:=@Nat.le_of_not_lt
def X1:=@List.nodup_range
def X2:=@PySem.Heap.size_update
def X3:=@PySem.F.entry_list_pop
def X5:=@PySem.wpAny_loadPart'
def X7:=@PySem.codeAny_of_tree
def X8:=@PySem.SeqAt.in_listAt
def YP:=@PySem.SeqAt.eq_listAt
def YW:=@PySem.SeqAt.EqAt.same
def YY:=@PySem.wpAt_bind
def YZ:=@Option.map_some
def Zf:=@Int.natCast_add
def Zg:=@PySem.Heap.DictOf.new
def Zh:=@PySem.F.slot_list_pop
def AD:=@if_false
def ZU:=@PySem.wpAny_Compare1
def ZV:=@PySem.F.slot_tuple_add
def ZW:=@PySem.refuseLoop_ref
def Qcn:=@PySem.W.cellsFrom_some
def Qco:=@Bool.false_and
def Qcp:=@Array.size_map
def qf:=@decide_eq_false
def qg:=@decide_eq_true
def tT:=@decide_eq_true_iff
def vX:=@Nat.mod_lt
def Qcu:=@of_decide_eq_true
def wa:=@PySem.sizeLine_eq
def tV:=@if_pos
def Qcx:=@Nat.add_le_add_left
def Qcy:=@List.filter_sublist
def wd:=@if_neg
def wh:=@Or.inr
def QcB:=@PySem.PassesOwn.never
namespace _L
open PySem PySem.Spec PyProof.Rows
abbrev Key:=Sum Int ar
noncomputable def uF:Key->a7->cu
 |.inl k,v=>Value.isInt k v
 |.inr x,v=>Value.isStrOf x v
noncomputable def ZjZ(w:dg):Key->Int
 |.inl k=>hashInt k
 |.inr x=>hashStr w x
theorem nG:∀{k:Key} {v:a7},uF k v=af->(∃i t,k=Sum.inl i/\v=Value.int i t)\/(∃x t,k=Sum.inr x/\v=Value.str x t)
 |.inl i,v,h=>by
  obtain⟨t,e⟩:=Value.isInt_shape h
  simp_all
 |.inr x,v,h=>by
  obtain⟨t,e⟩:=Value.isStrOf_shape h
  simp_all
def Zd3(i:Int)(t:Tok):uF (.inl i) (.int i t)=af:=by simp[uF,Value.isInt]
def Zd4(x:ar)(t:Tok):uF (.inr x) (.str x t)=af:=by simp[uF,Value.isStrOf]
def ZhM(a b:Int):decide ((Sum.inl a:Key)=Sum.inl b)=(a==b):=by
 grind
def ZhN(a b:ar):decide ((Sum.inr a:Key)=Sum.inr b)=decide (a=b):=by
 simp_all
def ZhO(a:Int)(b:ar):decide ((Sum.inl a:Key)=Sum.inr b)=bg:=jb (λq=>nomatch q)
def ZhP(a:ar)(b:Int):decide ((Sum.inr a:Key)=Sum.inl b)=bg:=jb (λq=>nomatch q)
def dJ(c:dC)(w:dg):PySem.KeyKind c w Key where
 is:=uF
 hash:=ZjZ w
 inj:=λv a b m g=>by
  rcases nG m with⟨i,t,rfl,rfl⟩|⟨x,t,rfl,rfl⟩
  ·rcases nG g with⟨j,u,rfl,e⟩|⟨y,u,rfl,e⟩;·injection e with d _;rw[d]
   ·exact nomatch e
  ·rcases nG g with⟨j,u,rfl,e⟩|⟨y,u,rfl,e⟩;·exact nomatch e
   ·injection e with d _;rw[d]
 byValue:=λk v h=>by
  rcases nG h with⟨i,t,rfl,rfl⟩|⟨x,t,rfl,rfl⟩<;>rfl
 pyHash:=λf h=>by
  rcases nG f with⟨i,t,rfl,rfl⟩|⟨x,t,rfl,rfl⟩;·exact wpAny_pyHash_int h
  ·exact wpAny_pyHash_str h
 eqBool:=λl f h=>by
  rcases nG l with⟨i,t,rfl,rfl⟩|⟨x,t,rfl,rfl⟩
  ·rcases nG f with⟨j,u,rfl,rfl⟩|⟨y,u,rfl,rfl⟩;·rw[ZhM] at h;exact wpAny_eqBool_int h
   ·rw[ZhO] at h;exact SeqAt.EqAt.int_str i t y u _ _ _ _ h
  ·rcases nG f with⟨j,u,rfl,rfl⟩|⟨y,u,rfl,rfl⟩;·rw[ZhP] at h;exact SeqAt.EqAt.str_int x t j u _ _ _ _ h
   ·rw[ZhN] at h;exact wpAny_eqBool_str h
 «strs»:=λk x t v h=>by
  rcases nG h with⟨i,u,rfl,e⟩|⟨y,u,rfl,e⟩;·exact nomatch e
  ·injection e with d _;subst d;cases v<;>rfl
def Zcf(a:dC)(w:dg)(i:Int)(t:Tok):(dJ a w).is (.inl i) (.int i t)=af:=Zd3 i t
def Zcg(a:dC)(w:dg)(x:ar)(t:Tok):(dJ a w).is (.inr x) (.str x t)=af:=Zd4 x t
inductive V where
 |ay|bl (b:cu)|int (i:Int)|str (x:ar)|kP (b:dq UInt8)|vh (b:UInt64)|ref (a:U)|ty (n:String)
 deriving DecidableEq
def RelV:V->a7->Prop
 |.ay,u=>u=Value.none
 |.bl b,u=>u=Value.bool b
 |.int i,u=>∃t,u=Value.int i t
 |.str x,u=>∃t,u=Value.str x t
 |.kP b,u=>∃t,u=Value.bytes b t
 |.vh b,u=>∃t,u=Value.float b t
 |.ref a,u=>u=Value.ref a
 |.ty n,u=>u=Value.type n
abbrev Vals:O V->O a7->Prop:=Paired RelV
def Vals.length(r:Vals xs us):xs.length=us.length:=Paired.length r
theorem Vals.get:∀{a:O V} {b:O a7} {i:Nat} {x:V},Vals a b->a[i]?=Z x->∃u,b[i]?=Z u/\RelV x u
 |_,_,_,_,.nil,e=>by simp at e
 |_,_,0,_,.cons r _,e=>by simp at e;subst e;exact⟨_,rfl,r⟩
 |_,_,i+1,x,.cons _ t,e=>by
  obtain⟨u,d,c⟩:=Vals.get t (by simpa using e)
  simp_all
theorem Vals.set{x:V}{u:a7}(r:RelV x u):∀{a:O V} {b:O a7} (i:Nat),Vals a b->Vals (a.set i x) (b.set i u)
 |_,_,_,.nil=>.nil
 |_,_,0,.cons _ t=>.cons r t
 |_,_,i+1,.cons q t=>.cons q (Vals.set r i t)
theorem Vals.append:∀{b a:O V} {d c:O a7},Vals b d->Vals a c->Vals (b++a) (d++c):=by
 intro b a d c h f;induction h with
 |nil=>exact f
 |cons r t e=>exact .cons r e
theorem Vals.take:∀{a:O V} {b:O a7} (n:Nat),Vals a b->Vals (a.take n) (b.take n)
 |_,_,0,_=>.nil
 |_,_,_+1,.nil=>.nil
 |_,_,n+1,.cons r t=>.cons r (Vals.take n t)
theorem Vals.drop:∀{a:O V} {b:O a7} (n:Nat),Vals a b->Vals (a.drop n) (b.drop n)
 |_,_,0,r=>r
 |_,_,_+1,.nil=>.nil
 |_,_,n+1,.cons _ t=>Vals.drop n t
def fG:bS V->bS a7->Prop
 |some v,some u=>RelV v u
 |none,none=>True
 |_,_=>False
def KV{a:Type}:O (a×V)->O (a×a7)->Prop:=Paired λ(p:a×V) (q:a×a7)=>p.1=q.1/\RelV p.2 q.2
noncomputable def kV:Key->V
 |.inl i=>.int i
 |.inr x=>.str x
inductive HO where
 /--a list-/
 |lst(d:O V)
 /--a tuple(never changes)-/
 |tup(d:O V)
 /--a dict Zjg keys are ints and texts;one Zjg keys are tuples of ints and texts(qO empty one is both)-/
 |dK(c:O (Key×V))|dT(c:O (O Key×V))
 /--a set of ints:ai members,ai size-/
 |set (b:Int->cu) (n:Nat)
 /--an instance of qO class at C,ai dict at g,ai attributes-/
 |ins (C g:U) (fs:O (ar×V))
 /--qO dict of qO instance at x-/
 |own (x:U)
 /--qO dict of an exception-/
 |xd (fs:O (ar×V))
 /--a bound method,f of x-/
 |met (f x:U)
 /--a range object lo,lo+1,.. below e-/
 |kQ (lo e:Int)
 /--a Zjh Zmv is known to qO object (qO SY;a dict while a loop walks it):read,never written while it is so-/
 |cU (o:Obj) (u:HO)
 /--a code Zmj table-/
 |sJ (j:dq a7)
 /--any other Zjh,by Zj0 is af of ai one object (a def of Zmr own:Zmw a b n:=HO.ext λh=>..)-/
 |ext (i:c8->Prop)
set_option genInjectivity false
abbrev Hp:=U->bS HO
def upd(H:Hp)(a:U)(o:HO):Hp:=λb=>if b=a then Z o else H b
def a9:upd H a o a=Z o:=by unfold upd;rw[bC rfl]
def aS(h:b≠a):upd H a o b=H b:=by unfold upd;rw[bF h]
def JV:upd (upd H a o) a u=upd H a u:=by
 funext b;unfold upd;split<;>rfl
def Uw{H:Hp}(h:H a=Z o)(c:H b=Z u)(d:o≠u):a≠b:=by
 intro e;subst e;rw[h] at c;exact d (Yp c)
def cC{H:Hp}(h:H a=Z o)(c:H b=aJ):a≠b:=by
 grind
section
variable (P:dC)(w:dg)
def nS(h:c8)(a:U)(b:dq a7):Prop:=∃o,h.get? a=Z o/\o.cls=.type "tuple"/\∃n,o.data=.seq b n/\o.dict=aJ
def nS.tup(x:nS h a items):IsTup h a items:=let⟨o,e,c,n,d,_⟩:=x;⟨o,e,c,n,d⟩
def nS.lt(x:nS h a items):a<h.objs.size:=x.tup.lt
def nS.new(h:c8)(items:dq a7):nS (h.push {cls:=.type "tuple",data:=.seq items}) h.objs.size items:=⟨_,Ys _ rfl,rfl,_,rfl,rfl⟩
def cX(H:Hp)(h:c8)(a:U):HO->Prop
 |.lst b=>b.length<=sizeLine/\∃(d:O a7) (n:Nat),Vals b d/\h.get? a=Z {cls:=.type "list",data:=.seq d.toArray n}
 |.tup b=>b.length<=sizeLine/\∃d:O a7,Vals b d/\nS h a d.toArray
 |.dK kvs=>kvs.length<=sizeLine/\(a==sysModules)=bg/\∃e,KV kvs e/\h.DictOf (dJ P w) a e
 |.dT kvs=>kvs.length<=sizeLine/\(a==sysModules)=bg/\∃b:O (O Key×U×a7),
   Paired (λ(p:O Key×V) (q:O Key×U×a7)=>p.1=q.1/\H q.2.1=Z (.tup (p.1.map kV))/\RelV p.2 q.2.2) kvs b/\
   ∃o j k,h.get? a=Z o/\o.ExactDict/\o.data=.dict j k/\j.toList=b.map (entryOfKey (tupleKind (dJ P w)))/\(b.map (·.1)).Nodup
 |.set S n=>h.SetOf (intKind P w) a S n
 |.ins C dx fs=>H dx=Z (.own a)/\fs.length<=1000/\dx≠a/\h.get? a=Z (instObj C dx)/\
   ∃c,h.Ns1 dx c/\(∀f,fG (fs.lookup f) (c f))/\PySem.Within c (fs.map (·.1))
 |.own _=>∃o,h.get? a=Z o
 |.xd fs=>∃c,h.Ns1 a c/\∀f,fG (fs.lookup f) (c f)
 |.kQ lo hi=>∃t u v,h.get? a=Z {cls:=.type "range",data:=.fields #[.int lo t,.int hi u,.int 1 v]}
 |.cU o u=>h.get? a=Z o/\cX H h a u
 |.sJ ps=>h.get? a=Z {cls:=.none,data:=.fields ps}
 |.met f x=>h.get? a=Z (methodObj (.ref f) (.ref x))
 |.ext φ=>φ h/\(∃o,h.get? a=Z o)/\∀i g:c8,φ i->(∀o,i.get? a=Z o->g.get? a=Z o)->φ g
def dH(H:Hp)(h:c8):Prop:=∀a o,H a=Z o->cX P w H h a o
end
theorem cX.lt(x:cX P w H h a o):a<h.objs.size:=by
 cases o with
 |lst xs=>obtain⟨_,_,_,_,e⟩:=x;exact Yu e
 |tup xs=>obtain⟨_,_,_,p⟩:=x;exact p.lt
 |dK b=>obtain⟨_,_,_,_,o,_,_,e,_⟩:=x;exact Yu e
 |dT b=>obtain⟨_,_,_,_,o,_,_,e,_⟩:=x;exact Yu e
 |set S n=>obtain⟨o,_,_,_,e,_⟩:=x;exact Yu e
 |ins C j fs=>obtain⟨_,_,_,e,_⟩:=x;exact Yu e
 |own y=>obtain⟨_,e⟩:=x;exact Yu e
 |xd fs=>obtain⟨_,⟨_,_,_,e,_⟩,_⟩:=x;exact Yu e
 |kQ lo i=>obtain⟨_,_,_,e⟩:=x;exact Yu e
 |cU g u=>obtain⟨e,_⟩:=x;exact Yu e
 |sJ d=>exact Yu (x)
 |met f y=>exact Yu (x)
 |ext c=>obtain⟨_,⟨_,e⟩,_⟩:=x;exact Yu e
theorem Paired.bH:∀{c:O α} {l₂:O β},Paired F c l₂->(∀a b,F a b->G a b)->Paired G c l₂:=by
 intro c l₂ h f;induction h with
 |nil=>exact .nil
 |cons r t d=>exact .cons (f _ _ r) d
theorem cX.jq(x:cX P w H h a o)(k:∀b u,(b=a\/H b=Z (.own a))->h.get? b=Z u->J.get? b=Z u)
  (I:∀b,H b=Z (.own a)->D b=Z (.own a))(G:∀b l,H b=Z (.tup l)->D b=Z (.tup l)):cX P w D J a o:=by
 induction o with
 |lst l=>obtain⟨z,B,n,r,e⟩:=x;exact⟨z,B,n,r,k _ _ (.inl rfl) e⟩
 |tup l=>obtain⟨z,B,r,g,e,c⟩:=x;exact⟨z,B,r,g,k _ _ (.inl rfl) e,c⟩
 |dK A=>obtain⟨z,y,E,r,g,i,j,e,c⟩:=x;exact⟨z,y,E,r,g,i,j,k _ _ (.inl rfl) e,c⟩
 |dT A=>
  obtain⟨z,y,l,r,g,i,j,e,c⟩:=x;exact⟨z,y,l,Paired.bH r λp q z=>⟨z.1,G _ _ z.2.1,z.2.2⟩,g,i,j,k _ _ (.inl rfl) e,c⟩
 |set S n=>obtain⟨g,i,j,t,e,c⟩:=x;exact⟨g,i,j,t,k _ _ (.inl rfl) e,c⟩
 |ins C T fs=>
  obtain⟨d,z,ne,e,s,⟨m,i,j,L,c⟩,r⟩:=x;exact⟨I _ d,z,ne,k _ _ (.inl rfl) e,s,⟨m,i,j,k _ _ (.inr d) L,c⟩,r⟩
 |own y=>obtain⟨g,e⟩:=x;exact⟨g,k _ _ (.inl rfl) e⟩
 |xd fs=>obtain⟨s,⟨m,i,j,e,c⟩,r⟩:=x;exact⟨s,⟨m,i,j,k _ _ (.inl rfl) e,c⟩,r⟩
 |kQ lo R=>obtain⟨t,u,v,e⟩:=x;exact⟨t,u,v,k _ _ (.inl rfl) e⟩
 |cU g u F=>obtain⟨e,q⟩:=x;exact⟨k _ _ (.inl rfl) e,F q⟩
 |sJ Q=>
  have e:=x;exact k a _ (.inl rfl) e
 |met f y=>
  have e:=x;exact k a _ (.inl rfl) e
 |ext N=>obtain⟨p,⟨o,e⟩,st⟩:=x;exact⟨st _ _ p λo q=>k _ _ (.inl rfl) q,⟨o,k _ _ (.inl rfl) e⟩,st⟩
def dH.lt(x:dH P w H h)(e:H a=Z o):a<h.objs.size:=(x a o e).lt
theorem dH.fresh(x:dH P w H h)(e:h.objs.size<=a):H a=aJ:=by
 cases q:H a with
 |none=>rfl
 |some u=>exact absurd (Y3 (x.lt q) e) (We _)
def dH.kept(x:dH P w H h)(k:∀b u,h.get? b=Z u->h'.get? b=Z u):dH P w H h':=λa o e=>
 (x a o e).jq (λ b u _=>k b u) (λ_ q=>q) λ_ _ q=>q
def dH.laid(x:dH P w H h)(k:∀b u,h.get? b=Z u->h'.get? b=Z u)(i:h.objs.size<=a)(d:cX P w (upd H a o) h' a o):dH P w (upd H a o) h':=λb u e=>by
 have f:=x.fresh i;by_cases g:b=a;·subst g;rw[a9] at e;cases e;exact d
 ·rw[aS g] at e;exact(x b u e).jq (λ c v _=>k c v) (λc q=>by rwa[aS (cC q f)]) λc j q=>by rwa[aS (cC q f)]
def Rd(H:Hp)(a:U)(u:HO):Prop:=H a=Z u\/∃o,H a=Z (.cU o u)
def Rd.ok(r:Rd H a u)(x:dH P w H h):cX P w H h a u:=by
 rcases r with r|⟨o,r⟩;·exact x a u r
 ·obtain⟨_,q⟩:=x a _ r;exact q
def Ac:bS HO->Prop
 |some (.lst _)=>True
 |some (.dK _)=>True
 |some (.dT _)=>True
 |some (.set _ _)=>True
 |some (.ins _ _ _)=>True
 |some (.ext _)=>True
 |_=>False
def dH.write(s:dH P w H h)(d:Ac (H x))(o:e=x\/H e=Z (.own x))(k:∀b u,b≠e->h.get? b=Z u->h'.get? b=Z u)(t:∃u,h'.get? e=Z u)
  (j:cX P w (upd H x n) h' x n):dH P w (upd H x n) h':=λb u q=>by
 have p:∀c y,H c=Z (.own y)->c≠x:=λc y r z=>by subst z;rw[r] at d;exact d
 have l:∀c a,H c=Z (.tup a)->c≠x:=λc a r z=>by subst z;rw[r] at d;exact d
 by_cases g:b=x;·subst g;rw[a9] at q;cases q;exact j
 ·rw[aS g] at q;by_cases i:b=e
  ·have m:H b=Z (.own x):=by
    rcases o with z|z;·exact absurd (i.trans z) g
    ·rwa[i]
   rw[q] at m;cases m;obtain⟨v,A⟩:=t;exact⟨v,by rwa[i]⟩
  ·refine(s b u q).jq (λc v f r=>k c v ?_ r) (λc r=>by rwa[aS (p c b r)]) λc a r=>by rwa[aS (l c a r)]
   rcases f with rfl|f;·exact i
   ·rintro rfl;rcases o with z|z;·exact p c b f z
    ·rw[f] at z;cases z;exact g rfl
structure Un(fs ex:O U)(H H':Hp)(h h':c8):Prop where
 keep:∀b o,h.get? b=Z o->H b=aJ->b∉fs->b∉ex->h'.get? b=Z o
 slot:∀b o,h.get? b=Z o->H b=aJ->b∈fs->b∉ex->∃sl,h'.get? b=Z {o with slots:=sl}
 free:∀b o,h.get? b=Z o->H b=aJ->b∉ex->H' b=aJ
 there:∀b o,h.get? b=Z o->b∉ex->∃o',h'.get? b=Z o'
 iZ:∀b xs,H b=Z (.tup xs)->H' b=Z (.tup xs)
 jr:∀b o u,H b=Z (.cU o u)->H' b=Z (.cU o u)
 jM:∀b ps,H b=Z (.sJ ps)->∃more,H' b=Z (.sJ (ps++more))
section
variable {fs X:O U}{H H1 T:Hp}{h W R h':c8}{a:U}{o:HO}
def Un.any(u:Un fs X H H1 h W)(q:h.get? b=Z c)(n:H b=aJ)(d:b∉X):∃f,W.get? b=Z {c with slots:=f}:=by
 by_cases e:b∈fs;·exact u.slot b c q n e d
 ·exact⟨c.slots,u.keep b c q n e d⟩
theorem Un.trans(a:Un fs X H H1 h W)(b:Un fs X H1 T W R):Un fs X H T h R where
 keep:=λc d q n i e=>b.keep c d (a.keep c d q n i e) (a.free c d q n e) i e
 slot:=λc d q n i e=>by
  obtain⟨m,f⟩:=a.slot c d q n i e;obtain⟨s,l⟩:=b.slot c _ f (a.free c d q n e) i e
  grind
 free:=λc d q n e=>by
  obtain⟨j,f⟩:=a.there c d q e;exact b.free c j f (a.free c d q n e) e
 there:=λc d q e=>by
  obtain⟨j,f⟩:=a.there c d q e;exact b.there c j f e
 iZ:=λc g q=>b.iZ c g (a.iZ c g q)
 jr:=λc d g q=>b.jr c d g (a.jr c d g q)
 jM:=λc k q=>by
  obtain⟨r,f⟩:=a.jM c k q;obtain⟨p,l⟩:=b.jM c _ f
  grind
def Un.kept(k:∀b u,h.get? b=Z u->h'.get? b=Z u):Un fs X H H h h':=
 ⟨λb c q _ _ _=>k b c q,λb c q _ _ _=>⟨c.slots,k b c q⟩,λ_ _ _ n _=>n,λb c q _=>⟨c,k b c q⟩,λ_ _ q=>q,λ_ _ _ q=>q,λ_ d q=>⟨#[],by rw[q];simp⟩⟩
def Un.refl:Un fs X H H h h:=Un.kept λ_ _ q=>q
theorem Un.laid(k:∀b u,h.get? b=Z u->h'.get? b=Z u)(e:h.objs.size<=a)(c:H a=aJ):Un fs X H (upd H a o) h h' where
 keep:=λb u q _ _ _=>k b u q
 slot:=λb u q _ _ _=>⟨u.slots,k b u q⟩
 free:=λb u q n _=>by rw[aS (Yz (Y3 (Yu q) e))];exact n
 there:=λb u q _=>⟨u,k b u q⟩
 iZ:=λb d q=>by rw[aS (cC q c)];exact q
 jr:=λb u d q=>by rw[aS (cC q c)];exact q
 jM:=λb f q=>⟨#[],by rw[aS (cC q c),q];simp⟩
def Un.write(c:Ac (H x))(m:e=x\/H e=Z (.own x))(k:∀b u,b≠e->h.get? b=Z u->h'.get? b=Z u)(p:∃u,h'.get? e=Z u):Un fs X H (upd H x o) h h':=by
 have j:∀b,H b=aJ->b≠x:=λb n z=>by subst z;rw[n] at c;exact c
 have f:∀b,H b=aJ->b≠e:=λb n z=>by
  grind
 have d:∀b u,H b=Z u->¬Ac (Z u)->b≠x:=λb u q i z=>by subst z;rw[q] at c;exact i c
 refine⟨λb u q n _ _=>k b u (f b n) q,λb u q n _ _=>⟨u.slots,k b u (f b n) q⟩,λb u q n _=>by rwa[aS (j b n)],λb u q _=>?_,
  λb g q=>by rwa[aS (d b _ q λz=>z)],λb u g q=>by rwa[aS (d b _ q λz=>z)],λb l q=>⟨#[],by rw[aS (d b _ q λz=>z),q];simp⟩⟩
 grind
end
noncomputable def xK(h:c8)(H:Hp):O U:=(List.range h.objs.size).filter λa=>(H a).isSome
def qJ(h:c8)(H:Hp):c8:=PySem.W.hideAll h (xK h H)
def Zd5(h:c8)(H:Hp):(qJ h H).objs.size=h.objs.size:=PySem.W.hideAll_size _ _
def ZeU(e:h.get? b=Z o)(n:H b=aJ):(qJ h H).get? b=Z o:=
 PySem.W.hideAll_get _ e λa=>by
  have q:=(Y5.mp a).2
  grind
theorem Zgp(e:(qJ h H).get? b=Z o):h.get? b=Z o/\H b=aJ:=by
 have a:=PySem.W.of_hideAll (xK h H) e;refine⟨a,?_⟩;cases q:H b with
 |none=>rfl
 |some x=>
  have z:(qJ h H).get? b=aJ:=PySem.W.hideAll_none (xK h H) (Y5.mpr ⟨Wg.mpr (Yu a),by simp[q]⟩)
  grind
structure Mod(K:ah)(mg:a8)(base:c8):Prop where
 oB:K.In base
 glob:base.Ns mainGlobals mg
 blt:∃mb,base.Ns builtinsNs mb/\∀x:ar,x≠"__name__"->mb x=bootBuiltins x
 nolimit:base.NoLimit
structure Cx where
 prog:dC
 w:dg
 K:ah
 mg:ar->bS a7
 base:c8
 A:fb
 N:O ar
 dB:bN
 mY:Hp
 env:Env
 outer:O Env
 stack:O Env
 ex:O U
 fn:ar->cu
 calm:cu
 pn:O (U×Obj)
 xe:a7->bN->Prop
noncomputable abbrev Cx.md(X:Cx):=model X.prog X.w
abbrev jv(X:Cx)(e:cH)(a:O cH):Prop:=starEach (e::a) X.env=(bg,eval e X.env)::starEach a X.env
abbrev jR(X:Cx)(a:Pos)(b:O cH):Prop:=(backTo a (starEach b X.env)).any (·.1)=bg
noncomputable def di(l:O Env):O U:=l.filterMap (·.frame)
abbrev Cx.fs(X:Cx):O U:=di X.outer
def vq(a:Scope)(x:ar):Prop:=a.names.lookup x=Z .local\/a.names.lookup x=Z .cell\/a.names.lookup x=Z .free
def Loc(a:Scope)(x:ar):Prop:=a.names.lookup x=Z .local\/a.names.lookup x=Z .cell
def Look(a:Env)(h:c8)(m:a8)(x:ar)(u:a7):Prop:=
 (a.kindOf x=Z .local/\m x=Z u)\/((a.kindOf x=Z .cell\/a.kindOf x=Z .free)/\∃c,a.cells.lookup x=Z c/\h.IsCell c (Z u))
structure Cx.Ok(X:Cx):Prop where
 mod:Mod X.K X.mg X.base
 kind:X.env.scope.kind=.function
 glob:X.env.globals=mainGlobals
 blt:X.env.builtins=builtinsNs
 above:X.dB.heap.objs.size<=X.env.locals
 inj:∀x y c,X.env.cells.lookup x=Z c->X.env.cells.lookup y=Z c->x=y
 has:∀x,(X.env.kindOf x=Z .cell\/X.env.kindOf x=Z .free)->∃c,X.env.cells.lookup x=Z c
 vv:∀x c,X.fn x=af->X.env.cells.lookup x=Z c->X.dB.heap.objs.size<=c
 hd:X.calm=af->X.A.handled=aJ
 frames:X.A.frames=Z X.stack
 xM:X.stack=X.outer\/(X.stack=X.env::X.outer/\X.env.frame=Z X.env.locals)
 sL:∀b∈X.ex,b≠X.env.locals/\∀x c,X.env.cells.lookup x=Z c->c≠b
 bs:∀b o,X.base.get? b=Z o->X.dB.heap.get? b=Z o/\X.mY b=aJ
 oC:X.base.objs.size<=X.dB.heap.objs.size
 uS:∀b o,X.base.get? b=Z o->b∉X.ex
 sv:∀b∈X.ex,b∉X.fs
 kK:X.dB.heap.FunFrames X.base X.outer
 qQ:∀b∈X.fs,X.mY b=aJ
structure Inv(X:Cx)(pins:bq)(σ:O (bS V))(H:Hp)(s:bN):Prop where
 ok:X.Ok
 os:s.os=X.dB.os
 bare:AllBare s.gens
 base:Un X.fs X.ex X.mY H X.dB.heap s.heap
 loc:∃m,s.heap.Ns X.env.locals m/\∀(i:Nat) (x:ar) (v:V),X.N[i]?=Z x->σ[i]?=Z (Z v)->vq X.env.scope x->∃u,RelV v u/\Look X.env s.heap m x u
 cell:∀x c,X.env.cells.lookup x=Z c->∃v,s.heap.IsCell c v
 free:H X.env.locals=aJ
 jo:∀x c,X.env.cells.lookup x=Z c->H c=aJ
 pin:∀p∈X.pn++pins,s.heap.get? p.1=Z p.2/\H p.1=aJ/\p.1≠X.env.locals/\p.1∉X.fs/\∀v,p.2.data≠.cell v
 aw:dH X.prog X.w H s.heap
 len:σ.length=X.N.length
section
variable {X:Cx}{W:bq}{σ:O (bS V)}{H T:Hp}{s:bN}{h':c8}
def Cx.Ok.Zj2(a:X.Ok)(e:X.base.get? b=Z o):b∉X.fs:=λc=>by
 have:=(a.kK.mem c).1
 grind
def Inv.bs(I:Inv X W σ H s):∀b o,X.base.get? b=Z o->s.heap.get? b=Z o/\H b=aJ:=λb o e=>
 ⟨I.base.keep b o (I.ok.bs b o e).1 (I.ok.bs b o e).2 (I.ok.Zj2 e) (I.ok.uS b o e),I.base.free b o (I.ok.bs b o e).1 (I.ok.bs b o e).2 (I.ok.uS b o e)⟩
def Inv.bk(I:Inv X W σ H s):∀b o,X.base.get? b=Z o->s.heap.get? b=Z o:=λb o e=>(I.bs b o e).1
def Inv.mod(I:Inv X W σ H s):Mod X.K X.mg X.base:=I.ok.mod
def Inv.cO(I:Inv X W σ H s):X.K.In s.heap:=I.ok.mod.oB.keeps I.bk
def Inv.lt(I:Inv X W σ H s):X.env.locals<s.heap.objs.size:=let⟨_,a,_⟩:=I.loc;a.lt
def Inv.sz(I:Inv X W σ H s):X.dB.heap.objs.size<=s.heap.objs.size:=Yy I.ok.above (Jn I.lt)
def Inv.Zj3(I:Inv X W σ H s)(h:s.heap.objs.size<=a):a∉X.fs:=λc=>by
 obtain⟨_,o,b,_⟩:=I.ok.kK.mem c;exact absurd (Y3 (Yu b) (Yy I.sz h)) (We _)
def Inv.qR(I:Inv X W σ H s):∀x c,X.env.cells.lookup x=Z c->c≠X.env.locals:=λx c e z=>by
 refine iF (I.cell x c e) λv o f hd=>?_;obtain⟨m,⟨d,g,h,b,a,_⟩,_⟩:=I.loc
 grind
theorem Inv.kK(I:Inv X W σ H s):s.heap.FunFrames X.base X.outer:=by
 have all:∀(l:O Env),(∀b∈di l,b∈X.fs)->X.dB.heap.FunFrames X.base l->s.heap.FunFrames X.base l:=by
  intro l;induction l with
  |nil=>intro _ _;trivial
  |cons env r g=>
   rintro f ⟨k,⟨L,o,a,j,i,hd⟩,h⟩;have d:=f L (by unfold di;rw[Jp,a];exact Yo);obtain⟨m,e⟩:=I.base.slot L o i (I.ok.qQ L d) d λz=>I.ok.sv L z d;exact⟨k,⟨L,_,a,j,e,hd⟩,g (λb c=>f b (by unfold di;rw[Jp,a];exact Yw _ c)) h⟩
 exact all X.outer (λ_ c=>c) I.ok.kK
def Inv.stack(I:Inv X W σ H s):s.heap.FunFrames X.base X.stack:=by
 rcases I.ok.xM with e|⟨e,b⟩;·exact e▸I.kK
 ·rw[e];refine bo I.loc λm a _=>?_;refine .cons (by rw[I.ok.kind];decide) b a ?_ I.kK;exact J1 (Yy I.ok.oC I.ok.above)
def Inv.KA(I:Inv X W σ H s):∀b∈di X.stack,b∈X.env.locals::X.fs:=λb a=>by
 rcases I.ok.xM with e|⟨e,c⟩;·grind
 ·rw[e] at a;unfold di at a;rw[Jp,c] at a;exact a
def Inv.BY(I:Inv X W σ H s):∀b∈di X.stack,H b=aJ:=λb a=>by
 rcases Ym.mp (I.KA b a) with e|a;·exact e▸I.free
 ·obtain⟨_,o,c,_⟩:=I.ok.kK.mem a;exact I.base.free b o c (I.ok.qQ b a) λz=>I.ok.sv b z a
def Inv.step{g':dq GenState}{t':Nat}{d':Drawn}{ch:O U}(I:Inv X W σ H s)
  (C:∀b∈ch,(b∈X.ex\/X.dB.heap.objs.size<=b)/\b≠X.env.locals/\(∀x c,X.env.cells.lookup x=Z c->c≠b)/\∀p∈X.pn++W,p.1≠b)
  (g:∀b o,b≠X.env.locals->b∉X.fs->b∉ch->s.heap.get? b=Z o->H b=aJ->h'.get? b=Z o)
  (w:∀b o,b≠X.env.locals->b∈X.fs->b∉ch->s.heap.get? b=Z o->H b=aJ->∃L,h'.get? b=Z {o with slots:=L})(f:∀b o,b∉ch->s.heap.get? b=Z o->H b=aJ->T b=aJ)
  (y:∀b o,b∉ch->s.heap.get? b=Z o->∃D,h'.get? b=Z D)
  (iZ:∀b t,H b=Z (.tup t)->T b=Z (.tup t))(jr:∀b o u,H b=Z (.cU o u)->T b=Z (.cU o u))(jM:∀b G,H b=Z (.sJ G)->∃more,T b=Z (.sJ (G++more)))
  (ns:∀m,s.heap.Ns X.env.locals m->h'.Ns X.env.locals m)(aw:dH X.prog X.w T h')(hg:AllBare g'):
  Inv X W σ T {s with heap:=h',gens:=g',drawn:=d',toks:=t'}:=by
 have R:∀b o,X.dB.heap.get? b=Z o->b≠X.env.locals:=λb o e=>Yz (Y3 (Yu e) I.ok.above);have J:∀b o,X.dB.heap.get? b=Z o->b∉X.ex->b∉ch:=λb o e a A=>by
  rcases(C b A).1 with z|z;·exact a z
  ·exact absurd (Y3 (Yu e) z) (We _)
 have h:∀x c,X.env.cells.lookup x=Z c->∀v,s.heap.IsCell c v->h'.IsCell c v:=λx c e v ⟨o,B,hd⟩=>by
  have F:=λz=>(C c z).2.2.1 x c e rfl;by_cases Q:c∈X.fs
  ·obtain⟨L,q⟩:=w c o (I.qR x c e) Q F B (I.jo x c e);exact⟨_,q,hd⟩
  ·exact⟨o,g c o (I.qR x c e) Q F B (I.jo x c e),hd⟩
 refine⟨I.ok,I.os,hg,⟨λb o e n A a=>?_,λb o e n A a=>?_,λb o e n a=>?_,λb o e a=>?_,λb t e=>iZ b t (I.base.iZ b t e),λb o t e=>jr b o t (I.base.jr b o t e),λb G e=>?_⟩,?_,λx c e=>?_,?_,λx c e=>?_,λp P=>?_,aw,I.len⟩;·exact g b o (R b o e) A (J b o e a) (I.base.keep b o e n A a) (I.base.free b o e n a)
 ·obtain⟨L,j⟩:=I.base.slot b o e n A a;obtain⟨WW,E⟩:=w b _ (R b o e) A (J b o e a) j (I.base.free b o e n a);exact⟨WW,E⟩
 ·obtain⟨D,j⟩:=I.base.there b o e a;exact f b D (J b o e a) j (I.base.free b o e n a)
 ·obtain⟨D,j⟩:=I.base.there b o e a;exact y b D (J b o e a) j
 ·obtain⟨m1,j⟩:=I.base.jM b G e;obtain⟨m2,E⟩:=jM b _ j;exact⟨m1++m2,by rw[E,Array.append_assoc]⟩
 ·refine bo I.loc λm hn hl=>?_;refine⟨m,ns m hn,λi x v j E e3=>?_⟩;obtain⟨u,r,l⟩:=hl i x v j E e3;refine⟨u,r,?_⟩;rcases l with l|⟨k,c,e,z⟩;·exact .inl l
  ·exact .inr ⟨k,c,e,h x c e _ z⟩
 ·obtain⟨v,z⟩:=I.cell x c e;exact⟨v,h x c e v z⟩
 ·refine bo I.loc λm gV _=>?_;obtain ⟨o,_,_,B,_⟩:=gV;exact f _ o (λz=>(C _ z).2.1 rfl) B I.free
 ·refine iF (I.cell x c e) λv o B hd=>?_;exact f c o (λz=>(C c z).2.2.1 x c e rfl) B (I.jo x c e)
 ·refine m8 (I.pin p P) λe n ne N d=>?_;have F:=λz=>(C p.1 z).2.2.2 p P rfl;exact⟨g p.1 p.2 ne N F e n,f p.1 p.2 F e n,ne,N,d⟩
def Inv.un(I:Inv X W σ H s)(u:Un X.fs [] H T s.heap h')(i:dH X.prog X.w T h'):Inv X W σ T {s with heap:=h',toks:=l}:=by
 obtain⟨m,⟨o,v,w,d,r⟩,_⟩:=id I.loc;obtain⟨p,h⟩:=u.any d I.free QS;exact I.step (g':=s.gens) (ch:=[]) (λ_ z=>nomatch z) (λb o _ a _ e n=>u.keep b o e n a QS) (λb o _ a _ e n=>u.slot b o e n a QS) (λb o _ e n=>u.free b o e n QS) (λb o _ e=>u.there b o e QS) u.iZ u.jr u.jM (λt g=>by
  obtain⟨q,j,k,c,f⟩:=g;rw[d] at c;cases c;exact⟨_,j,k,h,f⟩) i I.bare
def Inv.call(I:Inv X W σ H s)(u:Un (di X.stack) ch H T s.heap h')(t:dH X.prog X.w T h')(k:AllBare q)
  (g:∀b∈ch,(b∈X.ex\/X.dB.heap.objs.size<=b)/\b≠X.env.locals/\(∀x c,X.env.cells.lookup x=Z c->c≠b)/\∀p∈X.pn++W,p.1≠b):
  Inv X W σ T {s with heap:=h',gens:=q,drawn:=F,toks:=y}:=by
 obtain⟨m,⟨o,D,E,h,r⟩,_⟩:=id I.loc;obtain⟨A,d⟩:=u.any h I.free λz=>(g _ z).2.1 rfl;exact I.step g (λb o d l a e n=>u.keep b o e n (λz=>(Ym.mp (I.KA b z)).elim d l) a) (λb o _ _ a e n=>u.any e n a) (λb o a e n=>u.free b o e n a) (λb o a e=>u.there b o e a) u.iZ u.jr u.jM (λC j=>by
  obtain⟨B,v,w,f,i⟩:=j;rw[h] at f;cases f;exact⟨_,v,w,d,i⟩) t k
def Inv.turned(I:Inv X W σ H s)(k:∀b o,b≠it->s.heap.get? b=Z o->h'.get? b=Z o)(h:H it=aJ)(d:it≠X.env.locals)
  (w:it∈X.ex\/X.dB.heap.objs.size<=it)(t:∀x c,X.env.cells.lookup x=Z c->c≠it)(l:∀p∈X.pn++W,p.1≠it):Inv X W σ H {s with heap:=h',toks:=B}:=by
 have f:∀b u,H b=Z u->b≠it:=λb u e z=>by rw[z,h] at e;cases e
 refine I.step (g':=s.gens) (ch:=[it]) (λb j=>?_) (λb o _ _ a e _=>k b o (λz=>a (by simp[z])) e) (λb o _ _ a e _=>⟨o.slots,k b o (λz=>a (by simp[z])) e⟩) (λ_ _ _ _ n=>n)
  (λb o a e=>⟨o,k b o (λz=>a (by simp[z])) e⟩) (λ_ _ e=>e) (λ_ _ _ e=>e) (λb C e=>⟨#[],by rw[e];simp⟩) (λm i=>?_) (λb u e=>?_) I.bare
 ·have e:b=it:=by simpa using j
  subst e;exact⟨w,d,t,l⟩
 ·refine ng i λo y A g r=>?_;exact⟨o,y,A,k _ o (lp d) g,r⟩
 ·refine(I.aw b u e).jq (λc v a q=>k c v ?_ q) (λ_ q=>q) λ_ _ q=>q;rcases a with z|z;·exact z▸f b u e
  ·exact f c _ z
def Inv.tok(I:Inv X W σ H s)(t:Nat):Inv X W σ H {s with toks:=t}:=I.un Un.refl I.aw
def Inv.kept(I:Inv X W σ H s)(k:∀b u,s.heap.get? b=Z u->h'.get? b=Z u):Inv X W σ H {s with heap:=h',toks:=t'}:=I.un (Un.kept k) (I.aw.kept k)
def Inv.laid(I:Inv X W σ H s)(k:∀b u,s.heap.get? b=Z u->h'.get? b=Z u)(d:s.heap.objs.size<=a)(c:cX X.prog X.w (upd H a o) h' a o):
  Inv X W σ (upd H a o) {s with heap:=h',toks:=t'}:=I.un (Un.laid k d (I.aw.fresh d)) (I.aw.laid k d c)
def Inv.write(I:Inv X W σ H s)(c:Ac (H x))(d:e=x\/H e=Z (.own x))(k:∀b u,b≠e->s.heap.get? b=Z u->h'.get? b=Z u)(f:∃u,h'.get? e=Z u)
  (a:cX X.prog X.w (upd H x o) h' x o):Inv X W σ (upd H x o) {s with heap:=h',toks:=t'}:=I.un (Un.write c d k f) (I.aw.write c d k f a)
def Inv.RF(I:Inv X W σ H s)(h:∀p∈b,s.heap.get? p.1=Z p.2/\H p.1=aJ/\p.1≠X.env.locals/\p.1∉X.fs/\∀v,p.2.data≠.cell v):Inv X b σ H s:=
 ⟨I.ok,I.os,I.bare,I.base,I.loc,I.cell,I.free,I.jo,λp a=>(Yv.mp a).elim (λz=>I.pin p (Yt _ z)) (h p),I.aw,I.len⟩
def IV{N:O ar}(c:N.Nodup){i j:Nat}{x:ar}(a:N[i]?=Z x)(b:N[j]?=Z x):i=j:=by
 obtain⟨g,e⟩:=Yh.mp a;obtain⟨f,d⟩:=Yh.mp b;exact(List.getElem_inj c).mp (e.trans d.symm)
def PL{f:Model}{A:fb}{E:bw}{i:Nat}{x:ar}{v:V}{u:a7}{Q:Unit->bN->Prop}(I:Inv X W σ H s)(hN:X.N.Nodup)(J:X.N[i]?=Z x)(B:Loc X.env.scope x)(r:RelV v u)
  (h:∀s',Inv X W (σ.set i (Z v)) H s'->(∃a,Heap.SameBut a s.heap s'.heap/\(a=X.env.locals\/X.env.cells.lookup x=Z a))->Q () s')(hf:X.fn x=af\/X.env.scope.names.lookup x=Z .local:=by first|exact .inl rfl|exact .inr rfl|assumption):wpAny f A (storeName X.env x u) Q E s:=by
 refine bo (id I.loc) λm hn hl=>?_;have Zj4:(X.env.scope.kind==.class||(X.env.scope.kind==.module&&X.env.locals !=X.env.globals))=bg:=by rw[I.ok.kind];rfl
 have Vk:i<σ.length:=by rw[I.len];exact(Yh.mp J).1
 have qR:=I.qR;have l:∀{a:U} {h':c8},(∃o,s.heap.get? a=Z o/\H a=aJ)->Heap.SameBut a s.heap h'->dH X.prog X.w H h':=λ{a h'} ha g b ob e=>by
  refine bo ha λ_ _ Ux=>?_;refine(I.aw b ob e).jq (λc L w q=>(g.2 c ?_).trans q) (λ_ q=>q) λ_ _ q=>q;rintro rfl;rcases w with rfl|w;·rw[Ux] at e;cases e
  ·rw[Ux] at w;cases w
 rcases B with D|D
 ·refine wpAny_storeName_local D hn (λh' xP g=>?_) Zj4;refine ng (id hn) λoL _ _ qS _=>?_;refine h _ ⟨I.ok,I.os,I.bare,⟨λb o e n G B=>?_,λb o e n G B=>?_,I.base.free,λb o e B=>?_,I.base.iZ,I.base.jr,I.base.jM⟩,⟨_,xP,λj y P t C e3=>?_⟩,λy c e=>?_,I.free,I.jo,λp hp=>?_,l ⟨oL,qS,I.free⟩ g,by simpa using I.len⟩ ⟨_,g,.inl rfl⟩;·exact(g.2 b (Yz (Y3 (Yu e) I.ok.above))).trans (I.base.keep b o e n G B)
  ·obtain⟨sl,t⟩:=I.base.slot b o e n G B;exact⟨sl,(g.2 b (Yz (Y3 (Yu e) I.ok.above))).trans t⟩
  ·obtain⟨o',t⟩:=I.base.there b o e B;exact⟨o',(g.2 b (Yz (Y3 (Yu e) I.ok.above))).trans t⟩
  ·by_cases F:j=i
   ·subst F;rw[J] at t;cases t;rw[LS Vk] at C;cases C;exact⟨u,r,.inl ⟨D,QS⟩⟩
   ·rw[WZ (lp F)] at C;obtain⟨R,r',q⟩:=hl j y P t C e3;refine⟨R,r',?_⟩;rcases q with⟨k,e⟩|⟨k,c,e,z⟩
    ·refine .inl ⟨k,?_⟩;have:y≠x:=λe=>F (IV hN t (e▸J));simp[this,e]
    ·exact .inr ⟨k,c,e,z.sameBut g (qR y c e)⟩
  ·obtain⟨L,z⟩:=I.cell y c e;exact⟨L,z.sameBut g (qR y c e)⟩
  ·obtain⟨e,n,ne,nf,d⟩:=I.pin p hp;exact⟨(g.2 p.1 ne).trans e,n,ne,nf,d⟩
 ·have MF:X.fn x=af:=by
   rcases hf with z|z;·exact z
   ·rw[z] at D;cases D
  obtain⟨c,w⟩:=I.ok.has x (.inl D);obtain⟨L,z⟩:=I.cell x c w;refine wpAny_storeName_cell I.ok.kind D w z (λh' pC g=>?_);refine bo (id z) λoc W_ Zj5=>?_;refine h {s with heap:=h'} ⟨I.ok,I.os,I.bare,⟨λb o e n G B=>?_,λb o e n G B=>?_,I.base.free,λb o e B=>?_,I.base.iZ,I.base.jr,I.base.jM⟩,⟨m,hn.sameBut g (lp (qR x c w)),λj y P t C e3=>?_⟩,λy N e=>?_,I.free,I.jo,λp hp=>?_,l ⟨oc,W_,I.jo x c w⟩ g,by simpa using I.len⟩ ⟨c,g,.inr w⟩;·exact(g.2 b (Yz (Y3 (Yu e) (I.ok.vv x c MF w)))).trans (I.base.keep b o e n G B)
  ·obtain⟨sl,t⟩:=I.base.slot b o e n G B;exact⟨sl,(g.2 b (Yz (Y3 (Yu e) (I.ok.vv x c MF w)))).trans t⟩
  ·obtain⟨o',t⟩:=I.base.there b o e B;exact⟨o',(g.2 b (Yz (Y3 (Yu e) (I.ok.vv x c MF w)))).trans t⟩
  ·by_cases F:j=i
   ·subst F;rw[J] at t;cases t;rw[LS Vk] at C;cases C;exact⟨u,r,.inr ⟨.inl D,c,w,pC⟩⟩
   ·rw[WZ (lp F)] at C;obtain⟨R,r',q⟩:=hl j y P t C e3;refine⟨R,r',?_⟩;rcases q with q|⟨k,N,e,z'⟩;·exact .inl q
    ·refine .inr ⟨k,N,e,z'.sameBut g ?_⟩;rintro rfl;exact F (IV hN t (I.ok.inj _ _ _ e w▸J))
  ·by_cases Xa:N=c;·subst Xa;exact⟨_,pC⟩
   ·obtain⟨w2,z2⟩:=I.cell y N e;exact⟨w2,z2.sameBut g Xa⟩
  ·obtain⟨e,n,ne,nf,d⟩:=I.pin p hp;refine⟨(g.2 p.1 ?_).trans e,n,ne,nf,d⟩;intro q;rw[q,W_] at e;have q':=Yp e;exact d L (by rwa[←q'])
def BK{a:Model}{A:fb}{E:bw}{i:Nat}{x:ar}{v:V}{u:a7}{Q:Unit->bN->Prop}(I:Inv X W σ H s)(f:X.N.Nodup)(d:X.N[i]?=Z x)(c:Loc X.env.scope x)(r:RelV v u)
  (h:∀b,Inv X W (σ.set i (Z v)) H b->Q () b)(e:X.fn x=af\/X.env.scope.names.lookup x=Z .local:=by first|exact .inl rfl|exact .inr rfl|assumption):wpAny a A (storeName X.env x u) Q E s:=
 PL I f d c r (λb g _=>h b g) e
def Inv.Li(I:Inv X W σ H s)(d:s'.os=s.os)(u:Un (di X.stack) ch H T s.heap s'.heap)(g:dH X.prog X.w T s'.heap)(f:AllBare s'.gens)
  (a:∀b∈ch,(b∈X.ex\/X.dB.heap.objs.size<=b)/\b≠X.env.locals/\(∀x c,X.env.cells.lookup x=Z c->c≠b)/\∀p∈X.pn++W,p.1≠b):Inv X W σ T s':=by
 obtain⟨h',j,k,h,i⟩:=s';have e:=d;subst e;exact I.call u g f a
end
abbrev XK:=a7->bS U->Hp->Prop
abbrev St:=O (bS V)
abbrev VK:=V->Hp->Prop
abbrev TE:=St->Hp->VK->Prop
abbrev TT:=St->Hp->(cu->Hp->Prop)->Prop
abbrev TA:=St->Hp->(O V->Hp->Prop)->Prop
structure Ends where
 nx:St->Hp->Prop
 rt:VK
 bk:St->Hp->Prop:=λ_ _=>False
 ct:St->Hp->Prop:=λ_ _=>False
abbrev TS:=Ends->St->Hp->Prop
inductive Vl(X:Cx)(a:bq)(b:St)(Q:VK)(u:a7)(c:bN):Prop
 |mk (v d) (g:Inv X a b d c) (e:RelV v u) (f:Q v d):Vl X a b Q u c
def EP(X:Cx)(a:bq)(b:St)(Q:VK)(u:a7)(c:bN):Prop:=Vl X a b Q u c
inductive Vm(X:Cx)(a:bq)(b:St)(R:Hp->Prop)(c:bN):Prop
 |mk (d:Hp) (f:Inv X a b d c) (e:R d):Vm X a b R c
def TP(X:Cx)(a:bq)(c:St)(Q:cu->Hp->Prop)(b:cu)(d:bN):Prop:=Vm X a c (Q b) d
inductive Vn(X:Cx)(a:bq)(b:St)(Q:O V->Hp->Prop)(d:O a7)(e:bN):Prop
 |mk (c f) (i:Inv X a b f e) (g:Vals c d) (h:Q c f):Vn X a b Q d e
def AP(X:Cx)(a:bq)(b:St)(Q:O V->Hp->Prop)(c:O a7)(d:bN):Prop:=Vn X a b Q c d
inductive uT(X:Cx)(a:bq)(Q:St->Hp->Prop)(b:bN):Prop
 |mk (c:St) (d:Hp) (f:Inv X a c d b) (e:Q c d):uT X a Q b
inductive Vo(X:Cx)(a:bq)(Q:VK)(u:a7)(b:bN):Prop
 |mk (v:V) (d:St) (c:Hp) (g:Inv X a d c b) (e:RelV v u) (f:Q v c):Vo X a Q u b
def SP(X:Cx)(a:bq)(D:Ends)(f:Flow)(b:bN):Prop:=
 match f with
 |.next=>uT X a D.nx b
 |.brk=>uT X a D.bk b
 |.cont=>uT X a D.ct b
 |.ret u=>Vo X a D.rt u b
def PE(X:Cx)(e:cH)(t:TE):Prop:=
 ∀(a:bq) (s:bN) (b:St) (H:Hp) (Q:VK),Inv X a b H s->t b H Q->wpAny X.md X.A (eval e X.env) (EP X a b Q) X.xe s
def PT(X:Cx)(e:cH)(t:TT):Prop:=
 ∀(a:bq) (s:bN) (b:St) (H:Hp) (Q:cu->Hp->Prop),Inv X a b H s->t b H Q->wpAny X.md X.A (isTrue e X.env (eval e X.env)) (TP X a b Q) X.xe s
def PW(X:Cx)(e:cH)(t:TT):Prop:=
 ∀(b:Sem a7) (a:bq) (s:bN) (c:St) (H:Hp) (Q:cu->Hp->Prop),Inv X a c H s->t c H Q->wpAny X.md X.A (isTrue e X.env b) (TP X a c Q) X.xe s
def PW.pt(h:PW X e t):PT X e t:=h _
def PA(X:Cx)(d:O cH)(t:TA):Prop:=
 ∀(c:Pos) (a:bq) (s:bN) (b:St) (H:Hp) (Q:O V->Hp->Prop),Inv X a b H s->t b H Q->wpAny X.md X.A (spliced (backTo c (starEach d X.env))) (AP X a b Q) X.xe s
def PS(X:Cx)(c:cb)(t:TS):Prop:=
 ∀(a:bq) (s:bN) (b:St) (H:Hp) (D:Ends),Inv X a b H s->t D b H->wpAny X.md X.A (exec c X.env) (SP X a D) X.xe s
def gO(X:Cx)(c:O cb)(t:TS):Prop:=
 ∀(a:bq) (s:bN) (b:St) (H:Hp) (D:Ends),Inv X a b H s->t D b H->wpAny X.md X.A (execs c X.env) (SP X a D) X.xe s
def aC(h:wpAny M A t Q E s)(b:∀a s,Q a s->c a s):wpAny M A t c E s:=eH h b λ_ _ x=>x
section
variable {X:Cx}
inductive S0(i:Nat)(a:St)(H:Hp)(Q:VK):Prop
 |mk (v) (c:a[i]?=Z (Z v)) (b:Q v H):S0 i a H Q
def hV(i:Nat):TE:=λa H Q=>S0 i a H Q
def tC(v:V):TE:=λ_ H Q=>Q v H
def ZhQ{i:Nat}{x:ar}{W:Pos}(q:X.N[i]?=Z x)(k:vq X.env.scope x)(d:(x==("__debug__":ar))=bg:=by decide)(t:(x==("__classdict__":ar))=bg:=by decide):PE X (.Name x W) (hV i):=by
 rintro b s j H Q I ⟨v,e,h⟩;refine bo I.loc λm n p=>?_;refine bo (p i x v q e k) λu r l=>?_;have fin:EP X b j Q u s:=⟨v,H,I,r,h⟩;rcases l with⟨a,o⟩|⟨a,c,f,g⟩;·exact Aj (M7 I.ok.kind a n o fin) d
 ·rcases a with a|a;·exact Aj (NM I.ok.kind a f g fin) d
  ·exact Aj (wpAny_loadName_free I.ok.kind a f g fin t) d
def aP:PE X (.Constant (.int i) j W) (tC (.int i)):=λ_ _ _ H _ I h=>wpAny_Constant_int ⟨.int i,H,I.tok _,⟨_,rfl⟩,h⟩
def d7:PE X (.Constant (.bool b) j W) (tC (.bl b)):=λ_ _ _ H _ I h=>Constant_bool ⟨.bl b,H,I,rfl,h⟩
def lI:PE X (.Constant .none j W) (tC .ay):=λ_ _ _ H _ I h=>Constant_none ⟨.ay,H,I,rfl,h⟩
def bB:PE X (.Constant (.str x) j W) (tC (.str x)):=λ_ _ _ H _ I h=>Calls.Constant_str ⟨.str x,H,I.tok _,⟨_,rfl⟩,h⟩
def Gl(X:Cx)(x:ar):Prop:=X.env.kindOf x=Z .globalImplicit
def uo{E:bw}{a:bq}{s:bN}{b:St}{H:Hp}{x:ar}{u:a7}{W:Pos}{Q:bw}(I:Inv X a b H s)(d:Gl X x)(c:X.mg x=Z u)(h:Q u s)
  (e:(x==("__debug__":ar))=bg:=by decide):wpAny X.md X.A (eval (.Name x W) X.env) Q E s:=
 DH I.ok.kind d (Calls.loadGlobal_global (by exact I.ok.glob▸I.mod.glob.keeps I.bk) c h) e
def zo{E:bw}{a:bq}{s:bN}{b:St}{H:Hp}{x:ar}{u:a7}{W:Pos}{Q:bw}(I:Inv X a b H s)(f:Gl X x)(e:X.mg x=aJ)(c:bootBuiltins x=Z u)(h:Q u s)
  (d:x≠"__name__":=by decide)(g:(x==("__debug__":ar))=bg:=by decide):wpAny X.md X.A (eval (.Name x W) X.env) Q E s:=by
 refine bo I.mod.blt λk j i=>?_;exact DH I.ok.kind f (Calls.loadGlobal_builtin (by exact I.ok.glob▸I.mod.glob.keeps I.bk) e (by exact I.ok.blt▸j.keeps I.bk) ((i x d).trans c) h) g
def dW{x:ar}{v:V}{u:a7}{W:Pos}(b:Gl X x)(a:X.mg x=Z u)(r:RelV v u)(c:(x==("__debug__":ar))=bg:=by decide):PE X (.Name x W) (tC v):=
 λ_ _ _ H _ I h=>uo I b a ⟨v,H,I,r,h⟩ c
def Zgq{x:ar}{v:V}{u:a7}{W:Pos}(d:Gl X x)(c:X.mg x=aJ)(a:bootBuiltins x=Z u)(r:RelV v u)(b:x≠"__name__":=by decide)(e:(x==("__debug__":ar))=bg:=by decide):PE X (.Name x W) (tC v):=
 λ_ _ _ H _ I h=>zo I d c a ⟨v,H,I,r,h⟩ b e
variable {a b:cH}{T R:TE}{W:Pos}
def PC(X:Cx)(e:CmpOp)(a b:cH)(t:TE):Prop:=
 ∀(c:bq) (s:bN) (d:St) (H:Hp) (Q:VK),Inv X c d H s->t d H Q->
  wpAny X.md X.A (eval a X.env) (λv g=>wpAny X.md X.A (eval b X.env) (λu f=>wpAny X.md X.A (compareOp e v u) (EP X c d Q) X.xe f) X.xe g) X.xe s
inductive Vp(Q:cu->Hp->Prop)(x:V)(d:Hp):Prop
 |mk (c) (f:x=.bl c) (e:Q c d):Vp Q x d
def tB(t:TE):TT:=λc H Q=>t c H λx d=>Vp Q x d
def ZhR{d:CmpOp}{t:TE}(h:PC X d a b t)(g:behindInMarks d b=bg:=by first|exact i _ QD QD|rfl):PE X (.Compare a [d] [b] W) t:=λc s e H Q I f=>ZU (h c s e H Q I f) g
def lJ{f:CmpOp}{t:TE}(h:PC X f a b t)(g:behindInMarks f b=bg:=by first|exact o _ QD QD|rfl):PT X (.Compare a [f] [b] W) (tB t):=by
 intro e s i H Q I m;refine L0 (aC (h e s i H _ I m) λv z g=>aC g λu y n=>aC n λc w j=>?_) g;obtain⟨x,r,p,k,l⟩:=j;obtain⟨d,rfl,q⟩:=l;cases k;exact nh ⟨r,p,q⟩
def d5{e:cH}{t:TE}(h:PE X e t)(m:∀c,isTrue e X.env c=(do let v←c;standAt e.pos;holding [v] (truthy v)):=by intro _;rfl):PT X e (tB t):=by
 intro f s g H Q I l;refine isTrue_plain (aC (h f s g H _ I l) λv p i=>?_) (m _);obtain⟨x,o,n,j,k⟩:=i;obtain⟨d,rfl,q⟩:=k;cases j;exact nh ⟨o,n,q⟩
def Vq(t u:TT):TT:=λd H Q=>t d H λc e=>if c=af then u d e Q else Q bg e
def Xb(t u:TT):TT:=λd H Q=>t d H λc e=>if c=af then Q af e else u d e Q
def Zj6(t:TT):TT:=λd H Q=>t d H λc e=>Q (!c) e
theorem pw_and1(g:PT X a tA):PW X (.BoolOp .And [a] W) tA:=by
 intro i d s f H Q I h;refine isTrue_and (aC (g d s f H Q I h) λc j e=>?_);cases c with
 |true=>exact isTrue_and_nil e
 |false=>exact e
theorem pw_or1(g:PT X a tA):PW X (.BoolOp .Or [a] W) tA:=by
 intro i d s f H Q I h;refine isTrue_or (aC (g d s f H Q I h) λc j e=>?_);cases c with
 |false=>exact isTrue_or_nil e
 |true=>exact e
theorem pw_and(o:PT X a l)(n:PW X (.BoolOp .And (b::rest) W) p):PW X (.BoolOp .And (a::b::rest) W) (Vq l p):=by
 intro k d s e H Q I h;refine isTrue_and (aC (o d s e H _ I h) λc m j=>?_);obtain⟨i,g,f⟩:=j;cases c with
 |true=>exact n k d m e i Q g f
 |false=>exact⟨i,g,f⟩
theorem pw_or(o:PT X a l)(n:PW X (.BoolOp .Or (b::rest) W) p):PW X (.BoolOp .Or (a::b::rest) W) (Xb l p):=by
 intro k d s e H Q I h;refine isTrue_or (aC (o d s e H _ I h) λc m j=>?_);obtain⟨i,g,f⟩:=j;cases c with
 |true=>exact⟨i,g,f⟩
 |false=>exact n k d m e i Q g f
def gn(g:PT X a f):PT X (.UnaryOp .Not a W) (Zj6 f):=by
 intro d s e H Q I h;exact isTrue_not (g d s e H (λc i=>Q (!c) i) I h)
def Uy(T R:TE):TE:=λd H Q=>T d H λx e=>∃c,x=.bl c/\if c=af then R d e Q else Q (.bl bg) e
def Vr(T R:TE):TE:=λd H Q=>T d H λx e=>∃c,x=.bl c/\if c=af then Q (.bl af) e else R d e Q
def Zji(T:TE):TE:=λd H Q=>T d H λx e=>∃c,x=.bl c/\Q (.bl (!c)) e
def nU(h:PE X a t):PE X (.BoolOp op [a] W) t:=λc s d H Q I e=>BoolOp_one (h c s d H Q I e)
theorem qy(n:PE X a T)(m:PE X (.BoolOp .And (b::rest) W) R):PE X (.BoolOp .And (a::b::rest) W) (Uy T R):=by
 intro d s f H Q I h;refine BoolOp_and (aC (n d s f H _ I h) λv k j=>?_);obtain⟨x,i,g,l,e⟩:=j;obtain⟨c,rfl,e⟩:=e;cases l;refine nh ?_;cases c with
 |true=>exact m d k f i Q g e
 |false=>exact⟨.bl bg,i,g,rfl,e⟩
theorem Lj(n:PE X a T)(m:PE X (.BoolOp .Or (b::rest) W) R):PE X (.BoolOp .Or (a::b::rest) W) (Vr T R):=by
 intro d s f H Q I h;refine BoolOp_or (aC (n d s f H _ I h) λv k j=>?_);obtain⟨x,i,g,l,e⟩:=j;obtain⟨c,rfl,e⟩:=e;cases l;refine nh ?_;cases c with
 |false=>exact m d k f i Q g e
 |true=>exact⟨.bl af,i,g,rfl,e⟩
def ZhS(j:PE X a T):PE X (.UnaryOp .Not a W) (Zji T):=by
 intro d s f H Q I h;refine UnaryOp_ (aC (j d s f H _ I h) λv m g=>?_);obtain⟨x,l,k,i,e⟩:=g;obtain⟨c,rfl,e⟩:=e;cases i;exact not_of (nh ⟨.bl (!c),l,k,rfl,e⟩)
def tIf(t:TT)(T R:TE):TE:=λd H Q=>t d H λc e=>if c=af then T d e Q else R d e Q
theorem ZeW(n:PT X c m)(p:PE X a T)(o:PE X b R):PE X (.IfExp c a b W) (tIf m T R):=by
 intro e s f H Q I h;refine wpAny_IfExp (aC (n e s f H _ I h) λd g l=>?_);obtain⟨k,j,i⟩:=l;cases d with
 |true=>exact p e g f k Q j i
 |false=>exact o e g f k Q j i
end
def aq(K:ah)(H:Hp)(a:U)(c:O V):Prop:=
 Rd H a (.lst c)\/
  ∃(o:Obj) (b:dq a7) (n:Nat),K.lookup a=Z o/\o.cls=.type "list"/\o.dict=aJ/\o.data=.seq b n/\b.size<=sizeLine/\Vals c b.toList
def az(K:ah)(H:Hp)(a:U)(c:O V):Prop:=
 Rd H a (.tup c)\/
  ∃(o:Obj) (b:dq a7) (n:Nat),K.lookup a=Z o/\o.cls=.type "tuple"/\o.data=.seq b n/\b.size<=sizeLine/\Vals c b.toList
def Zj7:a7->bS V
 |.none=>Z .ay
 |.bool b=>Z (.bl b)
 |.int i _=>Z (.int i)
 |.str x _=>Z (.str x)
 |.bytes b _=>Z (.kP b)
 |.float b _=>Z (.vh b)
 |.ref a=>Z (.ref a)
 |.type n=>Z (.ty n)
 |_=>aJ
theorem RelV.abs(r:RelV x u):Zj7 u=Z x:=by
 cases x with
 |ay=>cases r;rfl
 |bl _=>cases r;rfl
 |int _=>obtain⟨t,rfl⟩:=r;rfl
 |str _=>obtain⟨t,rfl⟩:=r;rfl
 |kP _=>obtain⟨t,rfl⟩:=r;rfl
 |vh _=>obtain⟨t,rfl⟩:=r;rfl
 |ref _=>cases r;rfl
 |ty _=>cases r;rfl
def RelV.inj(r:RelV x u)(q:RelV y u):x=y:=Yp (r.abs.symm.trans q.abs)
theorem Vals.inj:∀{a ys:O V} {b:O a7},Vals a b->Vals ys b->a=ys:=by
 intro a ys b h;induction h generalizing ys with
 |nil=>intro c;cases c;rfl
 |cons r t f=>
  intro c;cases c with
  |cons e d=>rw[r.inj e,f d]
def aq.of{K:ah}(h:H a=Z (.lst xs)):aq K H a xs:=.inl (.inl h)
def az.of{K:ah}(h:H a=Z (.tup xs)):az K H a xs:=.inl (.inl h)
def Inv.list(I:Inv X pins σ H s)(h:aq X.K H a xs):∃b:O a7,Vals xs b/\PlainL s.heap a b.toArray/\xs.length<=sizeLine:=by
 rcases h with h|⟨o,b,n,d,f,hd,c,g,r⟩
 ·obtain⟨z,b,n,r,e⟩:=h.ok I.aw;exact⟨b,r,⟨_,n,e,rfl,rfl,rfl⟩,z⟩
 ·refine⟨b.toList,r,⟨o,n,I.cO a o d,f,hd,by simpa using c⟩,?_⟩;have e:=r.length
  simp_all
def Inv.tuple(I:Inv X pins σ H s)(h:az X.K H a xs):∃b:O a7,Vals xs b/\IsTup s.heap a b.toArray/\xs.length<=sizeLine:=by
 rcases h with h|⟨o,b,n,d,f,c,g,r⟩
 ·obtain⟨z,b,r,p⟩:=h.ok I.aw;exact⟨b,r,p.tup,z⟩
 ·refine⟨b.toList,r,⟨o,I.cO a o d,f,n,by simpa using c⟩,?_⟩;have e:=r.length
  simp_all
def Inv.ZeX(I:Inv X pins σ H s)(h:aq X.K H a xs)(g:aq X.K H a ys):xs=ys:=by
 obtain⟨j,r,⟨o,n,e,_,_,d⟩,_⟩:=I.list h;obtain⟨ri,f,⟨k,l,b,_,_,c⟩,_⟩:=I.list g;rw[e] at b;cases b;rw[d] at c;injection c with i _;have:j=ri:=by simpa using eL Array.toList i
 subst this;exact r.inj f
def Inv.Zd6(I:Inv X pins σ H s)(h:az X.K H a xs)(g:az X.K H a ys):xs=ys:=by
 obtain⟨j,r,⟨o,e,_,n,d⟩,_⟩:=I.tuple h;obtain⟨ri,f,⟨k,b,_,l,c⟩,_⟩:=I.tuple g;rw[e] at b;cases b;rw[d] at c;injection c with i _;have:j=ri:=by simpa using eL Array.toList i
 subst this;exact r.inj f
noncomputable abbrev Cx.lL(X:Cx)(E:bw):Cx:={X with xe:=E}
abbrev Cx.pE(X:Cx):Cx:=X.lL λ_ _=>False
def Cx.Ok.lL{X:Cx}(a:X.Ok)(E:bw):(X.lL E).Ok:=
 ⟨a.mod,a.kind,a.glob,a.blt,a.above,a.inj,a.has,a.vv,a.hd,a.frames,a.xM,a.sL,a.bs,a.oC,a.uS,a.sv,a.kK,a.qQ⟩
def Cx.Ok.rX{X:Cx}(a:(X.lL E).Ok):X.Ok:=
 ⟨a.mod,a.kind,a.glob,a.blt,a.above,a.inj,a.has,a.vv,a.hd,a.frames,a.xM,a.sL,a.bs,a.oC,a.uS,a.sv,a.kK,a.qQ⟩
def Inv.lL(I:Inv X pins σ H s)(E:bw):Inv (X.lL E) pins σ H s:=⟨I.ok.lL E,I.os,I.bare,I.base,I.loc,I.cell,I.free,I.jo,I.pin,I.aw,I.len⟩
def Inv.rX(I:Inv (X.lL E) pins σ H s):Inv X pins σ H s:=⟨I.ok.rX,I.os,I.bare,I.base,I.loc,I.cell,I.free,I.jo,I.pin,I.aw,I.len⟩
theorem SP.rX(h:SP (X.lL E) pins D f s'):SP X pins D f s':=by
 cases f with
 |next=>obtain⟨a,b,I,q⟩:=h;exact⟨a,b,I.rX,q⟩
 |brk=>obtain⟨a,b,I,q⟩:=h;exact⟨a,b,I.rX,q⟩
 |cont=>obtain⟨a,b,I,q⟩:=h;exact⟨a,b,I.rX,q⟩
 |ret u=>obtain⟨v,a,b,I,r,q⟩:=h;exact⟨v,a,b,I.rX,r,q⟩
def gO.pE{b:O cb}(h:gO X.pE b t):gO X b t:=λa s c H D I d=>
 eH (h a s c H D (I.lL _) d) (λ_ _ q=>q.rX) λ_ _ z=>False.elim z
section
variable {X:Cx}{st:cb}{t u:TS}{e:cH}{T:TE}{W:Pos}
def Uz:TS:=λD a H=>D.nx a H
def zP(t u:TS):TS:=λD a H=>t {D with nx:=u D} a H
def mI{b a:TS}{D}{s H}(h:let c:=a;zP b c D s H):(zP b a) D s H:=h
def oP{c b a:TS}{D}{s H}(h:let d:=a;let f:=zP b d;zP c f D s H):(zP c (zP b a)) D s H:=h
def pz{d c b a:TS}{D}{s H}(h:let f:=a;let g:=zP b f;let i:=zP c g;zP d i D s H):(zP d (zP c (zP b a))) D s H:=h
def AF{f d c b a:TS}{D}{s H}(h:let g:=a;let i:=zP b g;let j:=zP c i;let k:=zP d j;zP f k D s H):(zP f (zP d (zP c (zP b a)))) D s H:=h
def AN{g f d c b a:TS}{D}{s H}(h:let i:=a;let j:=zP b i;let k:=zP c j;let l:=zP d k;let m:=zP f l;zP g m D s H):(zP g (zP f (zP d (zP c (zP b a))))) D s H:=h
def zl7{i g f d c b a:TS}{D}{s H}(h:let c6:=a;let j:=zP b c6;let k:=zP c j;let l:=zP d k;let m:=zP f l;let n:=zP g m;zP i n D s H):(zP i (zP g (zP f (zP d (zP c (zP b a)))))) D s H:=h
def AO{j i g f d c b a:TS}{D}{s H}(h:let c7:=a;let c6:=zP b c7;let k:=zP c c6;let l:=zP d k;let m:=zP f l;let n:=zP g m;let o:=zP i n;zP j o D s H):(zP j (zP i (zP g (zP f (zP d (zP c (zP b a))))))) D s H:=h
def CU{l k j i g f d c b a:TS}{D}{s H}(h:let m:=a;let n:=zP b m;let c7:=zP c n;let c6:=zP d c7;let o:=zP f c6;let p:=zP g o;let q:=zP i p;let r:=zP j q;let v:=zP k r;zP l v D s H):(zP l (zP k (zP j (zP i (zP g (zP f (zP d (zP c (zP b a))))))))) D s H:=h
def C1{P N L J I G F E C n m l k j i g f d c b a:TS}{D}{s H}(h:let o:=a;let p:=zP b o;let q:=zP c p;let r:=zP d q;let v:=zP f r;let w:=zP g v;let x:=zP i w;let y:=zP j x;let z:=zP k y;let A:=zP l z;let B:=zP m A;let Q:=zP n B;let R:=zP C Q;let c7:=zP E R;let c6:=zP F c7;let c5:=zP G c6;let c4:=zP I c5;let c3:=zP J c4;let c2:=zP L c3;let c1:=zP N c2;zP P c1 D s H):(zP P (zP N (zP L (zP J (zP I (zP G (zP F (zP E (zP C (zP n (zP m (zP l (zP k (zP j (zP i (zP g (zP f (zP d (zP c (zP b a)))))))))))))))))))) D s H:=h
def a_:gO X [] Uz:=λ_ _ a H _ I h=>vH ⟨a,H,I,h⟩
theorem ak(g:PS X st t)(d:gO X rest u):gO X (st::rest) (zP t u):=by
 intro a s b H D I h;refine XS (aC (g a s b H {D with nx:=u D} I h) λf c q=>?_);cases f with
 |next=>
  obtain⟨i,k,j,q⟩:=q;exact d a c i k D j q
 |ret v=>exact q
 |brk=>exact q
 |cont=>exact q
theorem av(c:PS X st t):gO X [st] t:=by
 intro a s b H D I h;refine XS (aC (c a s b H D I h) λf d q=>?_);cases f with
 |next=>exact vH q
 |ret v=>exact q
 |brk=>exact q
 |cont=>exact q
def Inv.quiet(I:Inv X pins σ H s):interactive X.env=bg:=by simp[interactive,I.ok.kind]
def Zjj(T:TE):TS:=λD a H=>T a H λ_ b=>D.nx a b
def cz(f:PE X e T)(d:swapsWith e aJ W.line X.env=pure bg:=by rfl):PS X (.Expr e W) (Zjj T):=by
 intro a s b H D I h;exact wpAny_Expr_any (aC (f a s b H _ I h) λv j ⟨x,i,g,k,c⟩=>⟨b,i,g,c⟩) I.quiet d
def Zj8(T:TE):TS:=λD a H=>T a H D.rt
def aK(f:PE X e T):PS X (.Return (Z e) W) (Zj8 T):=by
 intro a s b H D I h;exact wpAny_Return_some (aC (f a s b H _ I h) λv j ⟨x,i,g,c,d⟩=>⟨x,b,i,g,c,d⟩)
def LI(c:TT)(t u:TS):TS:=λD a H=>c a H λb d=>if b=af then t D a d else u D a d
theorem aX(o:PT X c n)(q:gO X a t)(p:gO X b u):PS X (.If c a b W) (LI n t u):=by
 intro f s g H D I h;refine wpAny_If (aC (o f s g H _ I h) λd i m=>?_);obtain⟨l,k,j⟩:=m;cases d with
 |true=>exact q f i g l D k j
 |false=>exact p f i g l D k j
def ZhT:TS:=λ_ _ _=>False
def ir:gO X a ZhT:=λ_ _ _ _ _ _ h=>h.elim
end
abbrev TG:=V->St->Hp->(St->Hp->Prop)->Prop
abbrev pG:=O V->St->Hp->(St->Hp->Prop)->Prop
def PG(X:Cx)(a:cH)(t:TG):Prop:=
 ∀(b:bq) (s:bN) (c:St) (H:Hp) (v:V) (u:a7) (Q:St->Hp->Prop),Inv X b c H s->RelV v u->t v c H Q->
  wpAny X.md X.A (assign a X.env u) (λ_ d=>uT X b Q d) X.xe s
def Af(X:Cx)(e:O cH)(t:pG):Prop:=
 ∀(a:bq) (s:bN) (b:St) (H:Hp) (c:O V) (d:O a7) (Q:St->Hp->Prop),Inv X a b H s->Vals c d->t c b H Q->
  wpAny X.md X.A (assignInOrder ((assignEach e X.env).map (·.2)) d) (λ_ f=>uT X a Q f) X.xe s
abbrev LJ:=V->V->V->Hp->(Hp->Prop)->Prop
def uU(X:Cx)(t:LJ):Prop:=
 ∀(a:bq) (s:bN) (b:St) (H:Hp) (o i v:V) (c d u:a7) (Q:Hp->Prop),Inv X a b H s->RelV o c->RelV i d->RelV v u->t o i v H Q->
  wpAny X.md X.A (setItem c d u) (λ_ f=>∃e,Inv X a b e f/\Q e) X.xe s
abbrev DC:=V->V->Hp->VK->Prop
def Xc(X:Cx)(c:Operator)(t:DC):Prop:=
 ∀(a:bq) (s:bN) (b:St) (H:Hp) (x y:V) (v u:a7) (Q:VK),Inv X a b H s->RelV x v->RelV y u->t x y H Q->
  wpAny X.md X.A (inplaceOp c v u) (EP X a b Q) X.xe s
section
variable {X:Cx}{W:Pos}
def n_(i:Nat):TG:=λv a H Q=>Q (a.set i (Z v)) H
def qw{i:Nat}{x:ar}(e:X.N.Nodup)(c:X.N[i]?=Z x)(b:Loc X.env.scope x)(d:X.fn x=af\/X.env.scope.names.lookup x=Z .local:=by first|exact .inl rfl|exact .inr rfl|assumption):PG X (.Name x W) (n_ i):=by
 intro a s g H v u Q I r h;exact WX (BK I e c b r (λj f=>⟨_,H,f,h⟩) d)
def Vs:pG:=λb a H Q=>b=[]/\Q a H
inductive RG(t:TG)(u:pG)(b:O V)(a:St)(H:Hp)(Q:St->Hp->Prop):Prop
 |mk (v r) (f:b=v::r) (e:t v a H λc d=>u r c d Q):RG t u b a H Q
def Lk(t:TG)(u:pG):pG:=λb a H Q=>RG t u b a H Q
def iN:Af X [] Vs:=by
 rintro a s b H c d Q I r ⟨e,h⟩;subst e;exact assignInOrder_nil ⟨b,H,I,h⟩
theorem bW{e:cH}{b:O cH}{t:TG}{u:pG}(l:PG X e t)(k:Af X b u)
  (j:(assignEach (e::b) X.env).map (·.2)=assign e X.env::(assignEach b X.env).map (·.2):=by rfl):Af X (e::b) (Lk t u):=by
 rintro a s c H p w Q I r ⟨v,q,m,h⟩;subst m;cases r with
 |cons r g=>
  exact j▸assignInOrder_cons (aC (l a s c H _ _ _ I r h) λ_ f ⟨d,o,n,i⟩=>k a f d o _ _ Q n g i)
inductive S1(K:ah)(n:Nat)(t:pG)(v:V)(c:St)(H:Hp)(Q:St->Hp->Prop):Prop
 |mk (a b) (g:v=.ref a) (e:az K H a b) (f:b.length=n) (d:t b c H Q):S1 K n t v c H Q
def LK(K:ah)(n:Nat)(t:pG):TG:=λv a H Q=>S1 K n t v a H Q
def ZhU{d:O cH}{k:Nat}{t:pG}{n:Nat}(x:X.calm=af)(h:Af X d t)
  (q:(assignEach d X.env).length=n:=by rfl)(z:(assignEach d X.env).findIdx? (·.1)=aJ:=by rfl):PG X (.Tuple d k W) (LK X.K n t):=by
 rintro c s g H v u Q I r ⟨a,i,y,p,w,l⟩;subst y;cases r;refine cm (I.tuple p) λC f m A=>?_;exact assign_Tuple_tuple (I.ok.hd x) m (by simp[q,←w,f.length]) z λB j=>h c _ g H i _ Q (I.kept λb o e=>j b o (Yz (Yu e)) e) (by simpa using f) l
def Vu(b c:TE)(t:LJ):TG:=λv a H Q=>b a H λo f=>c a f λi e=>t o i v e λd=>Q a d
def ZhV{o i:cH}{e f:TE}{t:LJ}(w:PE X o e)(z:PE X i f)(q:uU X t)
  (J:∀v,assign (.Subscript o i W) X.env v=(do
   let b←holding [v] (eval o X.env);let c←holding [v,b] (eval i X.env)
   standAt W
   holding [v,b,c] (setItem b c v)
   release [v,b,c] []):=by intro _;rfl):PG X (.Subscript o i W) (Vu e f t):=by
 intro a s d H v u Q I r h;exact bt (kY (aC (w a s d H _ I h) λb j ⟨x,F,C,l,p⟩=>bt (kY (aC (z a j d F _ C p) λc g ⟨y,E,B,k,n⟩=>bt (mu (bt (kY (aC (q a g d E x y v b c u _ B l k r n) λ_ G ⟨D,A,m⟩=>wpAny_release ⟨d,D,A,m⟩))))))))
def uV(b:TE)(g:TG):TS:=λD a H=>b a H λx c=>g x a c D.nx
def mN{b e:cH}{d:TE}{g:TG}(o:PE X e d)(n:PG X b g)(m:swapsWithSole [b] e W.line X.env=pure bg:=by rfl)(l:swappedStores [b] e X.env=pure aJ:=by rfl)
  (p:(assignEach [b] X.env).map (·.2)=[assign b X.env]:=by rfl):PS X (.Assign [b] e W) (uV d g):=by
 intro a s c H D I h;refine wpAny_Assign_stores (aC (o a s c H _ I h) λv i f=>?_) m l;obtain⟨x,t,r,j,k⟩:=f;exact p▸aC (n a i c t x v _ r j k) λ_ u q=>q
def iC{i:Nat}{x:ar}{e:cH}{c:TE}{a:Pos}(p:X.N.Nodup)(m:X.N[i]?=Z x)(k:Loc X.env.scope x)(o:PE X e c)(l:swapsWith e (Z (.Name x a)) W.line X.env=pure bg:=by rfl)(n:X.fn x=af\/X.env.scope.names.lookup x=Z .local:=by first|exact .inl rfl|exact .inr rfl|assumption):
  PS X (.Assign [.Name x a] e W) (uV c (n_ i)):=by
 intro b s d H D I h;refine wpAny_Assign_Name (aC (o b s d H _ I h) λv w f=>?_) l;obtain⟨y,t,r,g,j⟩:=f;exact BK r p m k g (λu q=>⟨_,t,q,j⟩) n
def Zj9(i:Nat)(c:TE)(b:DC):TS:=λD a H=>∃x,a[i]?=Z (Z x)/\c a H λy e=>b x y e λz d=>D.nx (a.set i (Z z)) d
def S2{i:Nat}{x:ar}{e:cH}{o:TE}{f:Operator}{n:DC}{d:Pos}(R:X.N.Nodup)(p:X.N[i]?=Z x)(g:Loc X.env.scope x)(P:PE X e o)(F:Xc X f n)(N:X.fn x=af\/X.env.scope.names.lookup x=Z .local:=by first|exact .inl rfl|exact .inr rfl|assumption):
  PS X (.AugAssign (.Name x d) f e W) (Zj9 i o n):=by
 intro a s j H D I ZH;refine bo ZH λv e1 h=>?_;refine bo I.loc λm G L=>?_;have MG:vq X.env.scope x:=by rcases g with k|k;exact .inl k;exact .inr (.inl k)
 refine bo (L i x v p e1 MG) λu r l=>?_;refine wpAny_AugAssign_Name ?_;have q:wpAny X.md X.A (eval e X.env) (λw T=>wpAny X.md X.A (inplaceOp f u w) (λr eZ=>wpAny X.md X.A (storeName X.env x r) (λ_=>SP X a D .next) X.xe eZ) X.xe T) X.xe s:=aC (P a s j H _ I h) λw t ⟨y,H1,I1,B,E⟩=>aC (F a t j H1 v y u w _ I1 r B E) λz s2 ⟨zv,H2,I2,A,C⟩=>BK I2 R p g A (λs3 I3=>⟨_,H2,I3,C⟩) N;rcases l with⟨b,J⟩|⟨b,c,Q,Cy⟩;·exact M7 I.ok.kind b G J q
 ·rcases b with b|b;·exact NM I.ok.kind b Q Cy q
  ·rcases g with k|k
   ·have:X.env.scope.names.lookup x=Z .free:=b
    grind
   ·have:X.env.scope.names.lookup x=Z .free:=b
    grind
inductive UA(f:Int->Int->Int)(x:V)(y:V)(H:Hp)(Q:VK):Prop
 |mk (i j) (c:x=.int i) (a:y=.int j) (b:Q (.int (f i j)) H):UA f x y H Q
def ipI(f:Int->Int->Int):DC:=λx y H Q=>UA f x y H Q
def S3:Xc X .Add (ipI λi j=>i+j):=by
 rintro a s f H x y v u Q I c b ⟨i,j,e,d,q⟩;subst e;subst d;obtain⟨t,rfl⟩:=c;obtain⟨g,rfl⟩:=b;exact iadd_int ⟨.int _,H,I.tok _,⟨_,rfl⟩,q⟩
end
def S4(c:TT)(h:TS):TS:=λD a H=>∃W:Nat->St->Hp->Prop,(∃m,W m a H)/\∀m a H,W m a H->
 c a H λb f=>if b=af then ∃N:St->Hp->Prop,(∀e g,N e g->∃d,d<m/\W d e g)/\h {D with nx:=N,ct:=N,bk:=D.nx} a f else D.nx a f
theorem IW(r:PassesOwn X.md X.A X.env X.xe)(P:PT X c C)(Q:gO X body E):PS X (.While c body [] pos) (S4 C E):=by
 intro a s y H D I h;refine bo h λW gV d=>?_;obtain ⟨L,B⟩:=gV;refine wpAny_While (codeAny_whileLoop (λn J=>uT X a (W n) J) ?_ L ⟨y,H,I,B⟩);rintro n G ⟨i,x,R,A⟩;refine pZ r (aC (P a G i x _ R (d n i x A)) λb F z=>?_);obtain⟨w,u,k⟩:=z;cases b with
 |true=>
  obtain⟨N,t,k⟩:=k;rw[bC rfl];refine pZ r (aC (Q a F i w _ u k) λf T j=>?_);cases f with
  |next=>
   obtain⟨e,g,q,m⟩:=j;obtain⟨o,p,l⟩:=t e g m;exact⟨o,p,e,g,q,l⟩
  |cont=>
   obtain⟨e,g,q,m⟩:=j;obtain⟨o,p,l⟩:=t e g m;exact⟨o,p,e,g,q,l⟩
  |brk=>exact j
  |ret v=>exact j
 |false=>
  rw[bF Yl];exact vH ⟨i,w,u,k⟩
structure It where
 go:Nat->Hp->Prop
 sM:Nat->Hp->V->Hp->Prop
 stop:Nat->Hp->Prop
def jN(X:Cx)(a:bq)(H:Hp)(b:U):Prop:=
 H b=aJ/\b≠X.env.locals/\b∉X.fs/\(b∈X.ex\/X.dB.heap.objs.size<=b)/\(∀x c,X.env.cells.lookup x=Z c->c≠b)/\∀p∈X.pn++a,p.1≠b
def Inv.sy(I:Inv X pins σ H s)(a:s.heap.objs.size<=b)(f:g b=aJ):jN X pins g b:=by
 refine⟨f,Jo (Y3 I.lt a),I.Zj3 a,.inr (Yy I.sz a),λx c e z=>?_,λp d z=>?_⟩
 ·obtain⟨v,q⟩:=I.cell x c e;exact absurd (Y3 q.lt (by rwa[z])) (We _)
 ·exact absurd (Y3 (Yu (I.pin p d).1) (by rwa[z])) (We _)
structure Turn(P:dC)(w:dg)(K:ah)(tg:cH)(J:It)(fp:O U)(it:U)(tn:Nat->c8->Prop):Prop where
 mem:it∈fp
 obj:∀i h,tn i h->∀b∈fp,∃o,h.get? b=Z o/\∀v,o.data≠.cell v
 keep:∀i h h',tn i h->(∀b∈fp,∀o,h.get? b=Z o->h'.get? b=Z o)->tn i h'
 item:∀(X:Cx),X.prog=P->X.w=w->X.K=K->X.calm=af->∀(i:Nat) (pins:bq) (s:bN) (σ:St) (H:Hp) (E:bw),Inv X pins σ H s->(∀b∈fp,jN X pins H b)->tn i s.heap->J.go i H->
  wpAny (model P w) X.A (pyNext (.ref it)) (λr s1=>∃u,r=Z u/\
   wpAny (model P w) X.A (letOwnedTupleGo tg (.ref it) u) (λ_ s2=>∃x H',Inv X pins σ H' s2/\RelV x u/\J.sM i H x H'/\tn (i+1) s2.heap/\∀b∈fp,H' b=aJ) E s1) E s
 done:∀(X:Cx),X.prog=P->X.w=w->X.K=K->X.calm=af->∀(i:Nat) (pins:bq) (s:bN) (σ:St) (H:Hp) (E:bw),Inv X pins σ H s->(∀b∈fp,jN X pins H b)->tn i s.heap->J.stop i H->
  wpAny (model P w) X.A (pyNext (.ref it)) (λr s1=>r=aJ/\Inv X pins σ H s1) E s
 self:∀(A:fb) (i:Nat) (s:bN) (Q:bw) (E:bw),tn i s.heap->Q (.ref it) s->wpAny (model P w) A (pyIter (.ref it)) Q E s
abbrev TI:=St->Hp->(It->Hp->Prop)->Prop
def Xd(X:Cx)(a:bq)(g:St)(i:cH)(R:It->Hp->Prop)(h:a7)(e:bN):Prop:=
 ∃(f:U) (fp:O U) (d:Nat->c8->Prop) (J:It) (c:Hp),h=.ref f/\Inv X a g c e/\Turn X.prog X.w X.K i J fp f d/\d 0 e.heap/\(∀b∈fp,jN X a c b)/\R J c
def PI(X:Cx)(e b:cH)(d:TI):Prop:=
 ∀(a:bq) (s:bN) (c:St) (H:Hp) (R:It->Hp->Prop),Inv X a c H s->d c H R->
  wpAny X.md X.A (eval b X.env) (λv f=>wpAny X.md X.A (pyIter v) (Xd X a c e R) X.xe f) X.xe s
theorem uG(d:s.heap.get? it=Z o)(g:o.cls=.type n)(f:o.data=.fields b)
    (e:["enumerate","zip","dict_itemiterator","dict_reverseitemiterator","odict_iterator","itertools.zip_longest","itertools.pairwise"].contains n=bg)(a:Q () s):wpAny M A (letOwnedTupleGo c (.ref it) u) Q E s:=by
  unfold letOwnedTupleGo;cases c <;> first
    | exact cv a
    | (cases u <;> first
        | exact cv a
        | (refine bt (wpAny_load d ?_)
           rw [g,f];show wpAny M A (if (["enumerate","zip","dict_itemiterator","dict_reverseitemiterator","odict_iterator","itertools.zip_longest","itertools.pairwise"].contains n&&b[0]? == Z (rawInt _))=af then _ else _) Q E s;rw [bF (by intro h; rw [e,Qco] at h; cases h)];exact cv a))
noncomputable def kR(K:ah)(a:U):It:=
 ⟨λi H=>∃b x,aq K H a b/\b[i]?=Z x,λi H x c=>c=H/\∀b,aq K H a b->b[i]?=Z x,λi H=>∃b,aq K H a b/\b.length<=i⟩
noncomputable def xR(K:ah)(a:U):It:=
 ⟨λi H=>∃b x,az K H a b/\b[i]?=Z x,λi H x c=>c=H/\∀b,az K H a b->b[i]?=Z x,λi H=>∃b,az K H a b/\b.length<=i⟩
noncomputable def pH(a:Int)(n:Nat):It:=⟨λi _=>i<n,λi H x b=>b=H/\x=.int (a+i),λi _=>n<=i⟩
theorem PM{P:dC}{w:dg}{K:ah}{N:cH}(a it:U):Turn P w K N (kR K a) [it] it (λi h=>h.IsListIter it a i) where
 mem:=QS
 obj:=λi h st b g=>by
  have e:b=it:=by simpa using g
  refine cm st λo e c d=>?_
  simp_all
 keep:=λi h F st k=>st.at λo e=>k it QS o e
 item:=by
  intro X t q v D i f s J H E I l st r;subst t q v;refine iF r λL x j n=>?_;refine cm (I.list j) λai m p T=>?_;obtain⟨u,hu,R⟩:=m.get n;obtain⟨C,B,f2,A,z,y⟩:=l it QS;refine wpAny_pyNext_list_item st p.isList (by simpa using hu) λF G Q=>?_;obtain⟨o,e,c,d⟩:=id G;exact⟨u,rfl,uG e c d QD ⟨x,H,(I.turned (λb o g e=>(Q.2 b g).trans e) C B A z y),R,⟨rfl,λys W=>by rw[I.ZeX W j];exact n⟩,G,λb g=>(l b g).1⟩⟩
 done:=by
  intro X t q v D i f s J H E I l st r;subst t q v;refine bo r λL j n=>?_;refine cm (I.list j) λai m p T=>?_;obtain⟨C,B,f2,A,z,y⟩:=l it QS;have hl:=m.length;exact wpAny_pyNext_list_end (I.ok.hd D) st p.isList (by simp;omega) λF eb=>⟨rfl,I.turned (eb) C B A z y⟩
 self:=λ_ _ _ _ _ st h=>wpAny_pyIter_listiter st h
theorem O6{P:dC}{w:dg}{K:ah}{N:cH}(a it:U):Turn P w K N (xR K a) [it] it (λi h=>h.IsTupleIter it a i) where
 mem:=QS
 obj:=λi h st b g=>by
  have e:b=it:=by simpa using g
  refine cm st λo e c d=>?_
  simp_all
 keep:=λi h F st k=>st.at λo e=>k it QS o e
 item:=by
  intro X t q v D i f s J H E I l st r;subst t q v;refine iF r λL x j n=>?_;refine cm (I.tuple j) λai m p T=>?_;obtain⟨u,hu,R⟩:=m.get n;obtain⟨C,B,f2,A,z,y⟩:=l it QS;refine wpAny_pyNext_tuple_item st (p) (by simpa using hu) λF G Q=>?_;obtain⟨o,e,c,d⟩:=id G;exact⟨u,rfl,uG e c d QD ⟨x,H,(I.turned (λb o g e=>(Q.2 b g).trans e) C B A z y),R,⟨rfl,λys W=>by rw[I.Zd6 W j];exact n⟩,G,λb g=>(l b g).1⟩⟩
 done:=by
  intro X t q v D i f s J H E I l st r;subst t q v;refine bo r λL j n=>?_;refine cm (I.tuple j) λai m p T=>?_;obtain⟨C,B,f2,A,z,y⟩:=l it QS;have hl:=m.length;exact wpAny_pyNext_tuple_end (I.ok.hd D) st (p) (by simp;omega) λF eb=>⟨rfl,I.turned (eb) C B A z y⟩
 self:=λ_ _ _ _ _ st h=>wpAny_pyIter_tupleiter st h
theorem Zc1{P:dC}{w:dg}{K:ah}{D:cH}(a:U)(d:Int)(n:Nat):Turn P w K D (pH d n) [a] a (λi h=>IsRangeIter h a (d+(i:Nat)*1) ((n:Int)-(i:Nat)) 1) where
 mem:=QS
 obj:=λi h st b g=>by
  simp_all
 keep:=λi h A st k=>k a QS _ st
 item:=by
  intro X p j q m i c s C H E I f st l;subst p j q;refine ie (f a QS) λz y J x u r=>?_;refine(Walks.range (I.ok.hd m) a d 1 n).item i s _ _ l st λv A N G B F=>?_;obtain⟨t,rfl⟩:=G;refine⟨_,rfl,uG B rfl rfl QD ⟨.int (d+i),H,(I.turned (λb o g e=>F b o (by simpa using g) e) z y x u r),⟨t,?_⟩,⟨rfl,rfl⟩,B,λb g=>(f b g).1⟩⟩;rw[Int.mul_one]
 done:=by
  intro X p j q m i c s C H E I f st l;subst p j q;refine ie (f a QS) λz y J x u r=>?_;exact wpAny_pyNext_range_end (I.ok.hd m) st (by have:n<=i:=l;omega) λA L=>⟨rfl,I.turned (L) z y x u r⟩
 self:=λ_ _ _ _ _ st h=>wpAny_pyIter_rangeiter st h
section
variable {X:Cx}{Q:cH}
inductive RH(K:ah)(R:It->Hp->Prop)(x:V)(b:Hp):Prop
 |mk (a) (f:x=.ref a) (d:(∃c,aq K b a c)) (e:R (kR K a) b):RH K R x b
def UB(K:ah)(b:TE):TI:=λa H R=>b a H λx c=>RH K R x c
inductive S5(K:ah)(R:It->Hp->Prop)(x:V)(b:Hp):Prop
 |mk (a) (f:x=.ref a) (d:(∃c,az K b a c)) (e:R (xR K a) b):S5 K R x b
def Zj_(K:ah)(b:TE):TI:=λa H R=>b a H λx c=>S5 K R x c
def RI(r:PE X l j):PI X Q l (UB X.K j):=by
 intro c s g H R I h;refine aC (r c s g H _ I h) λv f i=>?_;obtain⟨x,u,d,k,m⟩:=i;obtain⟨a,e,⟨w,n⟩,q⟩:=m;subst e;cases k;refine cm (d.list n) λA y p z=>?_;refine th p.isList ⟨f.heap.objs.size,[f.heap.objs.size],_,_,u,rfl,d.kept λ b o=>Yc _,PM a _,⟨_,Ys _ rfl,rfl,rfl⟩,λb t=>?_,q⟩;have e:b=f.heap.objs.size:=by simpa using t
 subst e;exact d.sy (Yd _) (d.aw.fresh (Yd _))
def KC(r:PE X l j):PI X Q l (Zj_ X.K j):=by
 intro c s g H R I h;refine aC (r c s g H _ I h) λv f i=>?_;obtain⟨x,u,d,k,m⟩:=i;obtain⟨a,e,⟨w,n⟩,q⟩:=m;subst e;cases k;refine cm (d.tuple n) λA y p z=>?_;refine x9 (p) ⟨f.heap.objs.size,[f.heap.objs.size],_,_,u,rfl,d.kept λ b o=>Yc _,O6 a _,⟨_,Ys _ rfl,rfl,rfl⟩,λb t=>?_,q⟩;have e:b=f.heap.objs.size:=by simpa using t
 subst e;exact d.sy (Yd _) (d.aw.fresh (Yd _))
def ZeY{a:bq}{d:St}{H:Hp}{s:bN}{R:It->Hp->Prop}{E:bw}{lo c:Int}{t u v:Tok}{g:Nat}(I:Inv X a d H s)(l:-(2^62)<=lo)(k:lo<2^62)(j:-(2^62)<=c)(i:c<2^62)
  (q:R (pH lo (c-lo).toNat) H):wpAny X.md X.A (pyIter (.ref s.heap.objs.size)) (Xd X a d Q R) E {s with heap:=s.heap.push {cls:=.type "range",data:=.fields #[.int lo t,.int c u,.int 1 v]},toks:=g}:=by
 refine wpAny_pyIter_range (IsRange.new ..) (Az l k j i) ?_;have f:Inv X a d H {s with heap:=s.heap.push {cls:=.type "range",data:=.fields #[.int lo t,.int c u,.int 1 v]},toks:=g}:=I.kept λb o e=>Yc _ e;refine⟨(s.heap.push {cls:=.type "range",data:=.fields #[.int lo t,.int c u,.int 1 v]}).objs.size,[(s.heap.push {cls:=.type "range",data:=.fields #[.int lo t,.int c u,.int 1 v]}).objs.size],_,_,H,rfl,
  f.kept λ b o=>Yc _,Zc1 _ lo (c-lo).toNat,?_,λb h=>?_,q⟩
 ·have n:lo+((0:Nat):Int)*1=lo:=QS
  have m:(((c-lo).toNat:Nat):Int)-((0:Nat):Int)=Builtin.Range.rangeSize lo c 1:=by rw[zl];split<;>omega
  rw[n,m];exact Ys _ rfl
 ·have e:b=(s.heap.push {cls:=.type "range",data:=.fields #[.int lo t,.int c u,.int 1 v]}).objs.size:=by simpa using h
  subst e;exact f.sy (Yd _) (f.aw.fresh (Yd _))
inductive RJ(R:It->Hp->Prop)(a:O V)(b:Hp):Prop
 |mk (j:Int) (f:a=[.int j]) (d:-(2^62)<=j) (e:j<2^62) (c:R (pH 0 j.toNat) b):RJ R a b
def Zjk(c:TA):TI:=λa H R=>c a H λb d=>RJ R b d
theorem nK{a:cH}{f:TA}{p b:Pos}(u:Gl X "range")(o:X.mg "range"=aJ)(v:PA X [a] f)(n:starEach [a] X.env=[(bg,eval a X.env)]:=by rfl):PI X Q (.Call (.Name "range" p) [a] [] b) (Zjk f):=by
 intro c s g H R I h;refine Call_ (zo I u o boot_range (DA (aC (v b c s g H _ I h) λy z i=>?_) n rfl));obtain⟨x,A,w,l,d⟩:=i;obtain⟨j,e,d,m,q⟩:=d;subst e;cases l with
 |cons r k=>
  cases k;obtain⟨t,rfl⟩:=r;exact call_range_1 (ZeY w (by decide) (by decide) d m (by simpa using q))
def LL(e:TI)(g:TG)(f:TS):TS:=λD a H=>e a H λJ k=>∃W:Nat->Nat->St->Hp->Prop,(∃m,W 0 m a k)/\∀i m a H,W i m a H->
 (J.stop i H/\D.nx a H)\/(J.go i H/\∃N:St->Hp->Prop,(∀d b,N d b->∃c,c<m/\W (i+1) c d b)/\∀x b,J.sM i H x b->g x a b λh j=>f {D with nx:=N,ct:=N,bk:=D.nx} h j)
noncomputable def rY(a:O U)(h:c8):O (U×Obj):=a.filterMap λb=>(h.get? b).map λo=>(b,o)
def rC(a:b∈fp)(e:h.get? b=Z o):(b,o)∈rY fp h:=Jr.mpr ⟨b,a,by rw[e];rfl⟩
theorem Zd7(a:p∈rY fp h):p.1∈fp/\h.get? p.1=Z p.2:=by
 refine bo (Jr.mp a) λb c e=>?_;cases q:h.get? b with
 |none=>grind
 |some o=>grind
def Inv.pinned(I:Inv X pins σ H s)(c:∀b∈fp,jN X pins H b)(f:∀b∈fp,∃o,s.heap.get? b=Z o/\∀v,o.data≠.cell v):Inv X (pins++rY fp s.heap) σ H s:=
 I.RF λp a=>(Yv.mp a).elim (λz=>I.pin p (Yr _ z)) λz=>by
  obtain⟨d,e⟩:=Zd7 z;refine eJ (c p.1 d) λi h g _=>?_
  grind
def Inv.wR(I:Inv X (pins++b) σ H s):Inv X pins σ H s:=I.RF λp a=>I.pin p (Yr _ (Yt _ a))
theorem fS{j:cH}{t:O cb}{wi:TI}{g:TG}{tb:TS}{P:Pos}(A:PassesOwn X.md X.A X.env X.xe)(hc:X.calm=af)(hi:PI X Q j wi)(hg:PG X Q g)(k:gO X t tb)
  (hs:∀x,foldedSetIterable j X.env x=pure x:=by intro _;rfl):PS X (.For Q j t [] P) (LL wi g tb):=by
 intro a s σ H D I h;refine wpAny_For (aC (hi a s σ H _ I h) λv s1 h1=>aC h1 λvw s2 h2=>?_) hs;obtain⟨it,fp,tn,J,H2,e,I2,T,fq,f2,W,⟨m0,w0⟩,w⟩:=h2;subst e;have R:∀{H':Hp},(∀b∈fp,H' b=aJ)->∀b∈fp,jN X a H' b:=λhn b k=>⟨hn b k,(f2 b k).2⟩;refine codeAny_forLoop_any (λn s'=>∃i C H',Inv X a C H' s'/\tn i s'.heap/\(∀b∈fp,H' b=aJ)/\W i n C H') ?_ m0 ⟨0,σ,H2,I2,fq,λb k=>(f2 b k).1,w0⟩;intro n s3 ZH;refine lV ZH λi B E I3 Xe xS w3=>?_;rcases w i n B E w3 with⟨y,qn⟩|⟨go,N,hN,step⟩
 ·refine pZ A (aC (T.done X rfl rfl rfl hc i a s3 B E X.xe I3 (R xS) Xe y) λr s4 F=>?_);refine gb F λhr I4=>?_;subst hr;exact vH ⟨B,E,I4,qn⟩
 ·refine pZ A (aC (T.item X rfl rfl rfl hc i a s3 B E X.xe I3 (R xS) Xe go) λr s4 F=>?_);refine bo F λu hr h4=>?_;subst hr;refine pZ A (aC h4 λ_ s5 ⟨x,H5,I5,r5,y5,L,vy⟩=>pZ A (aC (hg _ s5 B H5 x u _ (I5.pinned (R vy) (T.obj _ _ L)) r5 (step x H5 y5)) λ_ s6 ⟨DD,H6,I6,q6⟩=>pZ A (aC (k _ s6 DD H6 _ I6 q6) λf G q=>?_)));have again:∀{c:St} {p:Hp},Inv X (a++rY fp s5.heap) c p G->N c p->∃m,m<n/\∃i C H',Inv X a C H' G/\tn i G.heap/\(∀b∈fp,H' b=aJ)/\W i m C H':=λ{c p} l z=>by
   obtain⟨m',hm,w7⟩:=hN c p z;refine⟨m',hm,i+1,c,p,l.wR,T.keep _ _ _ L λb k o e=>(l.pin (b,o) (Yr _ (Yr _ (rC k e)))).1,λb k=>?_,w7⟩;obtain⟨o,e,d⟩:=T.obj _ _ L b k;exact(l.pin (b,o) (Yr _ (Yr _ (rC k e)))).2.1
  cases f with
  |next=>obtain⟨c,p,l,z⟩:=q;exact again l z
  |cont=>obtain⟨c,p,l,z⟩:=q;exact again l z
  |brk=>obtain⟨c,p,l,q⟩:=q;exact⟨c,p,l.wR,q⟩
  |ret v=>obtain⟨x7,c,p,l,r7,q⟩:=q;exact⟨x7,c,p,l.wR,r7,q⟩
end
def jE{K:ah}{a:U}{xs:O V}{g:TG}{k:TS}{D:Ends}{b:St}{H:Hp}(c:Nat->St->Hp->Prop)(v:c 0 b H)(s:∀i b H,i<=xs.length->c i b H->aq K H a xs)
  (r:∀i x b H,xs[i]?=Z x->c i b H->g x b H λf j=>k {D with nx:=c (i+1),ct:=c (i+1),bk:=D.nx} f j)(u:∀b H,c xs.length b H->D.nx b H):
  ∃W:Nat->Nat->St->Hp->Prop,(∃m,W 0 m b H)/\∀i m b H,W i m b H->
   ((kR K a).stop i H/\D.nx b H)\/((kR K a).go i H/\∃N:St->Hp->Prop,(∀h d,N h d->∃l,l<m/\W (i+1) l h d)/\∀x d,(kR K a).sM i H x d->g x b d λf j=>k {D with nx:=N,ct:=N,bk:=D.nx} f j):=by
 refine⟨λi m b H=>m=xs.length-i/\i<=xs.length/\c i b H,⟨xs.length,QS,Yx _,v⟩,?_⟩;rintro i m b H ⟨rfl,t,p⟩;have q:=s i b H t p;by_cases n:i<xs.length
 ·refine .inr ⟨⟨xs,xs[i],q,by simp[n]⟩,c (i+1),λh d o=>⟨xs.length-(i+1),QO,rfl,n,o⟩,λx d y=>?_⟩;obtain⟨e,y⟩:=y;subst e;exact r i x b _ (y xs q) p
 ·have e:i=xs.length:=(Nat.le_antisymm t (Nat.le_of_not_lt n))
  subst e;exact .inl ⟨⟨xs,q,Yd _⟩,u b H p⟩
def yW{lo:Int}{n:Nat}{g:TG}{j:TS}{D:Ends}{a:St}{H:Hp}(b:Nat->St->Hp->Prop)(r:b 0 a H)
  (s:∀i a H,i<n->b i a H->g (.int (lo+i)) a H λd h=>j {D with nx:=b (i+1),ct:=b (i+1),bk:=D.nx} d h)(q:∀a H,b n a H->D.nx a H):
  ∃W:Nat->Nat->St->Hp->Prop,(∃m,W 0 m a H)/\∀i m a H,W i m a H->
   ((pH lo n).stop i H/\D.nx a H)\/((pH lo n).go i H/\∃N:St->Hp->Prop,(∀f c,N f c->∃k,k<m/\W (i+1) k f c)/\∀x c,(pH lo n).sM i H x c->g x a c λd h=>j {D with nx:=N,ct:=N,bk:=D.nx} d h):=by
 refine⟨λi m a H=>m=n-i/\i<=n/\b i a H,⟨n,QS,Yx _,r⟩,?_⟩;rintro i m a H ⟨rfl,t,p⟩;by_cases l:i<n
 ·refine .inr ⟨l,b (i+1),λf c o=>⟨n-(i+1),QO,rfl,l,o⟩,λx c y=>?_⟩;obtain⟨e,y⟩:=y
  simp_all
 ·have e:i=n:=(Nat.le_antisymm t (Nat.le_of_not_lt l))
  subst e;exact .inl ⟨Yd _,q a H p⟩
theorem IX{c:TT}{j:TS}{D:Ends}{a:St}{H:Hp}(i:St->Hp->Prop)(g:St->Hp->Nat)(r:i a H)
  (o:∀a H,i a H->c a H λb e=>if b=af then j {D with nx:=λd f=>i d f/\g d f<g a H,ct:=λd f=>i d f/\g d f<g a H,bk:=D.nx} a e else D.nx a e)
  (h:∀a H Q k,(∀b e,Q b e->k b e)->c a H Q->c a H k):S4 c j D a H:=by
 refine⟨λm a H=>m=g a H/\i a H,⟨_,rfl,r⟩,?_⟩;rintro m a H ⟨rfl,p⟩;refine h a H _ _ (λb e q=>?_) (o a H p);cases b with
 |true=>exact⟨_,λd f ⟨n,l⟩=>⟨_,l,rfl,n⟩,q⟩
 |false=>exact q
abbrev R2:=V->V->Hp->VK->Prop
def cV(X:Cx)(f:a7->a7->Sem a7)(r:R2):Prop:=
 ∀(a:bq) (s:bN) (b:St) (H:Hp) (x y:V) (v u:a7) (Q:VK),Inv X a b H s->RelV x v->RelV y u->r x y H Q->
  wpAny X.md X.A (f v u) (EP X a b Q) X.xe s
def MH(X:Cx)(f:a7->Sem a7)(r:V->Hp->VK->Prop):Prop:=
 ∀(a:bq) (s:bN) (b:St) (H:Hp) (x:V) (v:a7) (Q:VK),Inv X a b H s->RelV x v->r x H Q->
  wpAny X.md X.A (f v) (EP X a b Q) X.xe s
def dz(X:Cx)(f:a7)(r:O V->Hp->VK->Prop):Prop:=
 ∀(a:bq) (s:bN) (b:St) (H:Hp) (c:O V) (d:O a7) (Q:VK),Inv X a b H s->Vals c d->r c H Q->
  wpAny X.md X.A (call f d) (EP X a b Q) X.xe s
def Zka(X:Cx)(r:V->Hp->(cu->Hp->Prop)->Prop):Prop:=
 ∀(a:bq) (s:bN) (b:St) (H:Hp) (x:V) (v:a7) (Q:cu->Hp->Prop),Inv X a b H s->RelV x v->r x H Q->
  wpAny X.md X.A (truthy v) (TP X a b Q) X.xe s
def ku(r:R2)(c b:TE):TE:=λa H Q=>c a H λx e=>b a e λy d=>r x y d Q
def tUn(r:V->Hp->VK->Prop)(b:TE):TE:=λa H Q=>b a H λx c=>r x c Q
inductive Vv(C:Int->Int->Prop)(g:Int->Int->V)(x:V)(y:V)(H:Hp)(Q:VK):Prop
 |mk (i j) (d:x=.int i) (b:y=.int j) (c:C i j) (a:Q (g i j) H):Vv C g x y H Q
def rI(C:Int->Int->Prop)(g:Int->Int->V):R2:=λx y H Q=>Vv C g x y H Q
inductive UC(g:Int->Int->V)(x:V)(y:V)(H:Hp)(Q:VK):Prop
 |mk (i j) (c:x=.int i) (a:y=.int j) (b:Q (g i j) H):UC g x y H Q
def sN(g:Int->Int->V):R2:=λx y H Q=>UC g x y H Q
inductive Vw(g:Int->V)(x:V)(H:Hp)(Q:VK):Prop
 |mk (i) (b:x=.int i) (a:Q (g i) H):Vw g x H Q
def rU(g:Int->V):V->Hp->VK->Prop:=λx H Q=>Vw g x H Q
section
variable {X:Cx}
def LM(p:PE X a l)(o:PE X b k){c:bq}{s:bN}{d:St}{H:Hp}{R:V->V->Hp->Prop}(I:Inv X c d H s)
  (h:l d H λx j=>k d j λy e=>R x y e){Q:bw}{f:a7->a7->Sem a7}
  (B:∀v u i x y e,Inv X c d e i->RelV x v->RelV y u->R x y e->wpAny X.md X.A (f v u) Q X.xe i):
  wpAny X.md X.A (eval a X.env) (λv r=>wpAny X.md X.A (eval b X.env) (λu q=>wpAny X.md X.A (f v u) Q X.xe q) X.xe r) X.xe s:=by
 refine aC (p c s d H _ I h) λv m g=>?_;obtain⟨x,j,t,z,n⟩:=g;refine aC (o c m d j _ t n) λu i g=>?_;obtain⟨y,e,C,w,A⟩:=g
 grind
def bA(i:cV X (binaryOp op) r)(k:PE X a f)(j:PE X b e):PE X (.BinOp a op b pos) (ku r f e):=by
 intro c s d H Q I h;exact wpAny_BinOp (LM k j I h λ v u g x y l=>i c g d l x y v u Q)
def zI(i:MH X (unaryOp op) r)(j:PE X a d):PE X (.UnaryOp op a pos) (tUn r d):=by
 intro b s c H Q I h;exact UnaryOp_ (aC (j b s c H _ I h) λv e ⟨x,l,k,f,g⟩=>i b e c l x v Q k f g)
def DE{f:a7->a7->Sem a7}{C:Int->Int->Prop}{g:Int->Int->Int}
  (a:∀(i j:Int) (t u:Tok) (s:bN) (Q:bw) (E:bw),C i j->Q (.int (g i j) s.toks) {s with toks:=s.toks+1}->wpAny X.md X.A (f (.int i t) (.int j u)) Q E s):
  cV X f (rI C λi j=>.int (g i j)):=by
 rintro b s k H x y v u Q I e d ⟨i,j,rfl,rfl,h,q⟩;obtain⟨t,rfl⟩:=e;obtain⟨c,rfl⟩:=d;exact a i j t c s _ _ h ⟨.int (g i j),H,I.tok _,⟨_,rfl⟩,q⟩
def Vx{f:a7->a7->Sem a7}{g:Int->Int->Int}
  (a:∀(i j:Int) (t u:Tok) (s:bN) (Q:bw) (E:bw),Q (.int (g i j) s.toks) {s with toks:=s.toks+1}->wpAny X.md X.A (f (.int i t) (.int j u)) Q E s):
  cV X f (sN λi j=>.int (g i j)):=by
 rintro b s h H x y v u Q I e d ⟨i,j,rfl,rfl,q⟩;obtain⟨t,rfl⟩:=e;obtain⟨c,rfl⟩:=d;exact a i j t c s _ _ ⟨.int (g i j),H,I.tok _,⟨_,rfl⟩,q⟩
def LN{g:Int->Int->cu}
  (a:∀(i j:Int) (t u:Tok) (s:bN) (Q:bw) (E:bw),Q (.bool (g i j)) s->wpAny X.md X.A (f (.int i t) (.int j u)) Q E s):
  cV X f (sN λi j=>.bl (g i j)):=by
 rintro b s h H x y v u Q I e d ⟨i,j,rfl,rfl,q⟩;obtain⟨t,rfl⟩:=e;obtain⟨c,rfl⟩:=d;exact a i j t c s _ _ ⟨.bl (g i j),H,I,rfl,q⟩
def LO(i j:Int):Prop:=0<j/\j<1073741824
def Vy(i j:Int):Prop:=0<=j/\j<=1000000/\i.natAbs<2^64
def zQ(i j:Int):Prop:=(-(2^64)<i/\i<2^64)\/(-(2^64)<j/\j<2^64)
def zQ.ok(h:zQ i j):IntMulOk i j:=by
 rcases h with⟨b,a⟩|⟨b,a⟩;·exact .of_left (intBits_le_64 b a)
 ·exact .of_right (intBits_le_64 b a)
def iQ:cV X (binaryOp .Add) (sN λi j=>.int (i+j)):=Vx λ_ _ _ _ _ _ _ q=>add_int q
def Ci:cV X (binaryOp .Sub) (sN λi j=>.int (i-j)):=Vx λ_ _ _ _ _ _ _ q=>sub_int q
def qz:cV X (binaryOp .Mult) (rI zQ λi j=>.int (i*j)):=DE λ_ _ _ _ _ _ _ a q=>mul_int q a.ok
def BZ:cV X (binaryOp .FloorDiv) (rI LO λi j=>.int (i/j)):=DE λi j _ _ _ _ _ a q=>by
 have c:(0:Int)<j:=a.1;have b:j<1073741824:=a.2;exact floordiv_int (Int.ne_of_gt c) (by rw[Int.fdiv_eq_ediv_of_nonneg i (Int.le_of_lt c)];exact q) (.inl (PyProof.noPylong_small QO))
def eM:cV X (binaryOp .Mod) (rI (λ_ j=>0<j) λi j=>.int (i % j)):=DE λi j _ _ _ _ _ a q=>by
 exact mod_int' (Int.ne_of_gt a) (by rwa[Int.fmod_eq_emod_of_nonneg i (Int.le_of_lt a)])
def KD:cV X (binaryOp .Pow) (rI Vy λi j=>.int (i^j.toNat)):=DE λ_ _ _ _ _ _ _ a q=>pow_int_small a.1 a.2.1 a.2.2 q
def unI{f:a7->Sem a7}{g:Int->Int}
  (a:∀(i:Int) (t:Tok) (s:bN) (Q:bw) (E:bw),Q (.int (g i) s.toks) {s with toks:=s.toks+1}->wpAny X.md X.A (f (.int i t)) Q E s):
  MH X f (rU λi=>.int (g i)):=by
 rintro b s d H x v Q I c ⟨i,rfl,q⟩;obtain⟨t,rfl⟩:=c;exact a i t s _ _ ⟨.int (g i),H,I.tok _,⟨_,rfl⟩,q⟩
def zp:MH X (unaryOp .USub) (rU λi=>.int (-i)):=unI λ_ _ _ _ _ q=>neg_int q
end
def zR:V->V->cu
 |.ay,.ay=>af|.ay,.int _=>af|.int _,.ay=>af|.ay,.bl _=>af|.bl _,.ay=>af|.ay,.str _=>af|.str _,.ay=>af
 |.int _,.int _=>af|.bl _,.bl _=>af|.str _,.str _=>af|.kP _,.kP _=>af
 |.int _,.str _=>af|.str _,.int _=>af|.bl _,.str _=>af|.str _,.bl _=>af
 |_,_=>bg
def Xf:R2:=λx y H Q=>zR x y=af/\Q (.bl (decide (x=y))) H
def Xg:R2:=λx y H Q=>zR x y=af/\Q (.bl (!decide (x=y))) H
def RK:decide (V.int i=V.int j)=(i==j):=by
 grind
def S6:decide (V.bl i=V.bl j)=(i==j):=by
 grind
def RL:decide (V.str i=V.str j)=(i==j):=by
 grind
def RM:decide (V.kP i=V.kP j)=(i.toList==j.toList):=by
 rw[Wn];simp_all
section
variable {b:cH}
def de(I:Inv X pins σ H s)(q:Q (.bl k) H)(e:k=a):EP X pins σ Q (.bool a) s:=by
 subst e;exact⟨.bl k,H,I,rfl,q⟩
theorem cP:cV X (compareOp .Eq) Xf:=by
 intro f s g H x y v u Q I e a h;obtain⟨d,q⟩:=h;cases x with
 |ay=>
  cases e;cases y with
  |ay=>cases a;exact PySem.EqNone.eq_none_none (de I q QS)
  |bl j=>cases a;exact PySem.EqNone.eq_none_bool (de I q QS)
  |int j=>obtain⟨c,rfl⟩:=a;exact PySem.EqNone.eq_none_int (de I q QS)
  |str j=>obtain⟨c,rfl⟩:=a;exact PySem.EqNone.eq_none_str (de I q QS)
  |_=>exact absurd (d) Yl
 |bl i=>
  cases e;cases y with
  |ay=>cases a;exact PySem.EqNone.eq_bool_none (de I q QS)
  |bl j=>cases a;exact eq_bool (de I q S6)
  |str j=>obtain⟨c,rfl⟩:=a;exact PySem.EqMixed.eq_bool_str (de I q QS)
  |_=>exact absurd (d) Yl
 |int i=>
  obtain⟨t,rfl⟩:=e;cases y with
  |ay=>cases a;exact PySem.EqNone.eq_int_none (de I q QS)
  |int j=>obtain⟨c,rfl⟩:=a;exact eq_int (de I q RK)
  |str j=>obtain⟨c,rfl⟩:=a;exact PySem.EqMixed.eq_int_str (de I q QS)
  |_=>exact absurd (d) Yl
 |str i=>
  obtain⟨t,rfl⟩:=e;cases y with
  |ay=>cases a;exact PySem.EqNone.eq_str_none (de I q QS)
  |bl j=>cases a;exact PySem.EqMixed.eq_str_bool (de I q QS)
  |int j=>obtain⟨c,rfl⟩:=a;exact PySem.EqMixed.eq_str_int (de I q QS)
  |str j=>obtain⟨c,rfl⟩:=a;exact eq_str (de I q RL)
  |_=>exact absurd (d) Yl
 |kP i=>
  obtain⟨t,rfl⟩:=e;cases y with
  |kP j=>obtain⟨c,rfl⟩:=a;exact PySem.W.eq_bytes (de I q RM)
  |_=>exact absurd (d) Yl
 |_=>cases y<;>exact absurd (d) Yl
theorem iU:cV X (compareOp .NotEq) Xg:=by
 intro f s g H x y v u Q I e a h;obtain⟨d,q⟩:=h;cases x with
 |ay=>
  cases e;cases y with
  |ay=>cases a;exact PySem.EqNone.ne_none_none (de I q QS)
  |bl j=>cases a;exact PySem.EqNone.ne_none_bool (de I q QS)
  |int j=>obtain⟨c,rfl⟩:=a;exact PySem.EqNone.ne_none_int (de I q QS)
  |str j=>obtain⟨c,rfl⟩:=a;exact PySem.EqNone.ne_none_str (de I q QS)
  |_=>exact absurd (d) Yl
 |bl i=>
  cases e;cases y with
  |ay=>cases a;exact PySem.EqNone.ne_bool_none (de I q QS)
  |bl j=>cases a;exact ne_bool (de I q (eL not S6))
  |str j=>obtain⟨c,rfl⟩:=a;exact PySem.EqMixed.ne_bool_str (de I q QS)
  |_=>exact absurd (d) Yl
 |int i=>
  obtain⟨t,rfl⟩:=e;cases y with
  |ay=>cases a;exact PySem.EqNone.ne_int_none (de I q QS)
  |int j=>obtain⟨c,rfl⟩:=a;exact ne_int (de I q (eL not RK))
  |str j=>obtain⟨c,rfl⟩:=a;exact PySem.EqMixed.ne_int_str (de I q QS)
  |_=>exact absurd (d) Yl
 |str i=>
  obtain⟨t,rfl⟩:=e;cases y with
  |ay=>cases a;exact PySem.EqNone.ne_str_none (de I q QS)
  |bl j=>cases a;exact PySem.EqMixed.ne_str_bool (de I q QS)
  |int j=>obtain⟨c,rfl⟩:=a;exact PySem.EqMixed.ne_str_int (de I q QS)
  |str j=>obtain⟨c,rfl⟩:=a;exact ne_str (de I q (eL not RL))
  |_=>exact absurd (d) Yl
 |kP i=>
  obtain⟨t,rfl⟩:=e;cases y with
  |kP j=>obtain⟨c,rfl⟩:=a;exact PySem.W.ne_bytes (de I q (eL not RM))
  |_=>exact absurd (d) Yl
 |_=>cases y<;>exact absurd (d) Yl
def oZ:cV X (compareOp .Lt) (sN λi j=>.bl (decide (i<j))):=LN λ_ _ _ _ _ _ _ q=>lt_int q
def Ll:cV X (compareOp .Gt) (sN λi j=>.bl (decide (j<i))):=LN λ_ _ _ _ _ _ _ q=>gt_int q
def Zjl:cV X (compareOp .GtE) (sN λi j=>.bl (decide (j<=i))):=LN λ_ _ _ _ _ _ _ q=>ge_int q
def Zd8:cV X (compareOp .In) (λx y H Q=>∃i j,x=.str i/\y=.str j/\Q (.bl (!(Builtin.Str.occurrences j i 0 j.length 1).isEmpty)) H):=by
 intro a s e H x y v u Q I d c h;obtain⟨i,j,rfl,rfl,q⟩:=h;obtain⟨t,rfl⟩:=d;obtain⟨f,rfl⟩:=c;exact in_str (de I q rfl)
theorem KG:cV X (compareOp .Is) (λx y H Q=>y=.ay/\Q (.bl (decide (x=.ay))) H):=by
 intro c s e H x y v u Q I a d h;obtain⟨rfl,q⟩:=h;cases d;refine is_none_gen (de I q ?_);cases x<;>first
  |(cases a;rfl)
  |(obtain⟨t,rfl⟩:=a;rfl)
theorem B0:cV X (compareOp .IsNot) (λx y H Q=>y=.ay/\Q (.bl (!decide (x=.ay))) H):=by
 rintro c s e H x y v u Q I a d ⟨rfl,q⟩;cases d;refine isnot_none_gen (de I q ?_);cases x<;>first
  |(cases a;rfl)
  |(obtain⟨t,rfl⟩:=a;rfl)
def ZbF:cV X (compareOp .NotIn) (λx y H Q=>∃i j,x=.str i/\y=.str j/\Q (.bl (!(!(Builtin.Str.occurrences j i 0 j.length 1).isEmpty))) H):=by
 rintro a s e H x y v u Q I d c ⟨i,j,rfl,rfl,q⟩;obtain⟨t,rfl⟩:=d;obtain⟨f,rfl⟩:=c;exact notIn_str (de I q rfl)
def S7(b:cH){a:CmpOp}(h:a≠.In:=by decide)(c:a≠.NotIn:=by decide):behindInMarks a b=bg:=by
 have e:(a==CmpOp.In)=bg:=by cases a<;>first|rfl|exact absurd rfl h
 have d:(a==CmpOp.NotIn)=bg:=by cases a<;>first|rfl|exact absurd rfl c
 cases b<;>simp[behindInMarks,e,d]
def B3(i:cV X (compareOp op) r)(l:PE X a f)(k:PE X b e)(j:behindInMarks op b=bg):PE X (.Compare a [op] [b] pos) (ku r f e):=by
 intro c s d H Q I h;exact ZU (LM l k I h λ v u g x y m=>i c g d m x y v u Q) j
inductive RN(Q:cu->Hp->Prop)(x:V)(a:Hp):Prop
 |mk (k) (d:x=.bl k) (c:Q k a):RN Q x a
def Lm(t:TE):TT:=λa H Q=>t a H λx c=>RN Q x c
def gm(w:cV X (compareOp op) r)(C:PE X a i)(B:PE X b g)(A:behindInMarks op b=bg):PT X (.Compare a [op] [b] pos) (Lm (ku r i g)):=by
 intro d s f H Q I h;refine L0 (aC (C d s f H _ I h) λv l ⟨x,L,F,o,t⟩=>aC (B d l f L _ F t) λu j ⟨y,J,E,n,q⟩=>
  aC (w d j f J x y v u _ E o n q) λc N ⟨z,G,D,m,k,e,p⟩=>?_) A
 subst e;cases m;exact nh ⟨G,D,p⟩
def CT(K:ah)(x:V)(H:Hp)(k:cu):Prop:=
 match x with
 |.ay=>k=bg
 |.bl b=>k=b
 |.int i=>k=(i !=0)
 |.str y=>y.length<=sizeLine/\k=((y.length:Int)!=0)
 |.kP y=>y.size<=sizeLine/\k=((y.size:Int)!=0)
 |.ref p=>(∃a,aq K H p a/\k=!a.isEmpty)\/(∃a,az K H p a/\k=!a.isEmpty)\/∃c,H p=Z (.dK c)/\k=!c.isEmpty
 |_=>False
def Zc2(r:KV a c):(!c.isEmpty)=!a.isEmpty:=by
 cases r<;>rfl
def O7(r:Vals xs a):(!a.toArray.isEmpty)=!xs.isEmpty:=by
 cases r<;>simp
def uz:(sizeLine:Nat)<2^63:=by rw[d6];decide
theorem ZhW:Zka X (λx H Q=>∃k,CT X.K x H k/\Q k H):=by
 intro l s A H x v Q I f h;obtain⟨k,e,q⟩:=h;have B:sizeLine=16777216:=d6;cases x with
 |ay=>
  cases f;have a:k=bg:=e;subst a;exact truthy_none ⟨H,I,q⟩
 |bl b=>
  cases f;have a:k=b:=e;subst a;exact nh ⟨H,I,q⟩
 |int i=>
  obtain⟨t,rfl⟩:=f;have a:k=(i !=0):=e;subst a;exact PySem.P.truthy_int ⟨H,I,q⟩
 |str y=>
  obtain⟨t,rfl⟩:=f;obtain⟨u,a⟩:y.length<=sizeLine/\k=((y.length:Int)!=0):=e;subst a;exact PySem.P.truthy_str QO ⟨H,I.tok _,q⟩
 |kP y=>
  obtain⟨t,rfl⟩:=f;obtain⟨u,a⟩:y.size<=sizeLine/\k=((y.size:Int)!=0):=e;subst a;exact PySem.W.truthy_bytes (Nat.le_trans u (by decide)) ⟨H,I.tok _,q⟩
 |ref p=>
  cases f;have a:=e;rcases a with⟨o,g,a⟩|⟨o,g,a⟩|⟨d,g,a⟩
  ·subst a;obtain⟨z,r,j,n⟩:=I.list g;have c:=r.length;exact wpAny_truthy_list j.isList (by simp only[Yq];omega) ⟨H,I.tok _,by rw[O7 r];exact q⟩
  ·subst a;obtain⟨z,r,j,n⟩:=I.tuple g;have c:=r.length;exact truthy_tuple j (by simp only[Yq];omega) ⟨H,I.tok _,by rw[O7 r];exact q⟩
  ·subst a;obtain⟨n,w,vs,r,m⟩:d.length<=sizeLine/\(p==sysModules)=bg/\∃vs,KV d vs/\s.heap.DictOf (dJ X.prog X.w) p vs:=I.aw p _ g;have c:d.length=vs.length:=Paired.length r;exact wpAny_truthy_dict w m QO ⟨H,I.tok _,by rwa[Zc2 r]⟩
 |_=>exact(e).elim
def BM(n:PE X a g)(m:∀c,isTrue a X.env c=(do let v←c;standAt a.pos;holding [v] (truthy v))):
  PT X a (λe H Q=>g e H λx f=>∃k,CT X.K x f k/\Q k f):=by
 intro d s e H Q I h;exact isTrue_plain (aC (n d s e H _ I h) λv i ⟨x,p,o,j,l⟩=>ZhW d i e p x v Q o j l) (m _)
def wG:cV X (binaryOp .Add) (λx y H Q=>∃i j,x=.str i/\y=.str j/\i.length+j.length<=sizeLine/\Q (.str (i++j)) H):=by
 rintro a s g H x y v u Q I e d ⟨i,j,rfl,rfl,f,q⟩;obtain⟨t,rfl⟩:=e;obtain⟨c,rfl⟩:=d;exact add_str (λc h=>⟨.str (i++j),H,I.tok _,⟨_,rfl⟩,q⟩) f
theorem vals1(r:Vals [x] us):∃u,us=[u]/\RelV x u:=by
 cases r with
 |cons c a=>cases a;exact⟨_,rfl,c⟩
theorem vals2(r:Vals [x,y] us):∃u w',us=[u,w']/\RelV x u/\RelV y w':=by
 cases r with
 |cons e d=>
  cases d with
  |cons c a=>cases a;exact⟨_,_,rfl,e,c⟩
def Qx:dz X (.builtin "abs") (λa H Q=>∃i,a=[.int i]/\Q (.int (if i<0 then-i else i)) H):=by
 rintro c s d H a e Q I r ⟨i,rfl,q⟩;obtain⟨u,rfl,t,rfl⟩:=vals1 r;exact call_abs_int λu f=>⟨.int (if i<0 then-i else i),H,I.tok _,⟨_,rfl⟩,q⟩
def Zd9(e:X.calm=af):dz X (.builtin "min") (λc H Q=>∃i j,c=[.int i,.int j]/\Q (.int (if j<i then j else i)) H):=by
 rintro d s f H c h Q I r ⟨i,j,rfl,q⟩;obtain⟨u,g,rfl,⟨t,rfl⟩,⟨m,rfl⟩⟩:=vals2 r;refine min_two_ints (I.ok.hd e) λn l k=>⟨_,H,I.kept k,?_,q⟩;by_cases a:j<i;·rw[bC a,bC a];exact⟨_,rfl⟩
 ·rw[bF a,bF a];exact⟨_,rfl⟩
def Gf:dz X (.type "str") (λa H Q=>∃i,a=[.int i]/\i.natAbs.log2<1920/\Q (.str (toString i)) H):=by
 rintro c s e H a f Q I r ⟨i,rfl,d,q⟩;obtain⟨u,rfl,t,rfl⟩:=vals1 r;exact PySem.P.str_of_int d ⟨.str _,H,I.tok _,⟨_,rfl⟩,q⟩
end
structure uW(h:c8)(x dx C:U)(mA:a8):Prop where
 obj:h.get? x=Z (instObj C dx)
 ns:h.Ns1 dx mA
 ne:dx≠x
def Io{h:c8}(n:h.Ns1 m f):∃c,h.get? m=Z c/\∀b,lookIn b c=Z (f b):=by
 refine kW n λo l p i hd k _ j=>?_;refine⟨o,i,λb=>?_⟩;have e:=j b;unfold nsFind findBy at e;rw[←Array.find?_toList] at e;unfold lookIn;rw[hd];dsimp;split;·grind
 ·rename_i q
  have a:l.toList.any (·.refKey)=bg:=by
   rw[Xh];intro y g;refine vi (k y (Array.mem_toList_iff.mp g)) λz t d=>?_;simp[DictEntry.refKey,d]
  grind
def uW.look(I:uW h x f C c):∃b,PySem.W.InstAt h x (instObj C f) C (Z b)/\∀a,lookIn a b=Z (c a):=
 let⟨b,d,e⟩:=Io I.ns
 ⟨b,⟨I.obj,rfl,rfl,d⟩,e⟩
section
variable {prog:dC}{w:dg}{A:fb}{E:bw}{s:bN}{K:ah}{x T C f:U}{mA:a8}{W:ar}{v:a7}
def get_map{a:cu}{Q:bw}(X:K.In s.heap)(I:uW s.heap x T C mA)(g:plainGet K C W=af)(e:hasDictIn K C=af)
  (i:PySem.W.findIn K (.ref C) W=Z aJ)(c:mA W=Z v)(b:handedIn v=af)(h:Q v {s with toks:=s.toks+1}):
  wpAny (model prog w) A (getAttr (.ref x) W a) Q E s:=by
 refine bo I.look λj J d=>?_;exact PySem.W.get_value X J (Ai g).1 (findObj_own e i rfl (by rw[d,c])) b h
def ZeZ(X:K.In s.heap)(I:uW s.heap x T C mA)(a:plainGet K C W=af)
  (g:PySem.W.findIn K (.ref C) W=Z (Z (.ref f)))(d:isFn K (.ref f)=af)(c:mA W=aJ)(h:Q (.ref f,[.ref x]) s):
  wpAny (model prog w) A (getMethod (.ref x) W i) Q E s:=by
 refine bo I.look λb J e=>?_;exact PySem.W.method_fn X J (Ai a).1 (Ai a).2 g (beq_iff_eq.mp d) (by show(lookIn W b).map (·.isSome)=Z bg;rw[e,c];rfl) h
def Zgr{d:O ar}{Q:Unit->bN->Prop}(X:K.In s.heap)(I:uW s.heap x T C mA)
  (l:PySem.W.findIn K (.ref C) "__setattr__"=Z (Z (.builtin "object.__setattr__")))(m:plainOver K C=af)(j:takerIn K C W=Z aJ)(n:hasDictIn K C=af)
  (i:PySem.Within mA d)(k:d.length<=sizeLine)
  (h:∀a,uW a x T C (λy=>if y=W then Z v else mA y)->Heap.SameBut T s.heap a->Q () {s with heap:=a,toks:=s.toks+2}):
  wpAny (model prog w) A (setAttr (.ref x) W v) Q E s:=by
 refine bo I.look λt J z=>?_;refine set_plain X J l (PySem.W.osa_open X J m j λb=>?_);refine bo (vW n) λB o g=>?_;refine bt (cv (bt (bt (vL I.obj (bt (PySem.W.Looks.here (PySem.W.looks_clsIn X o) ?_))))));rw[g];refine cv (bt (cv (bt (zT I.ns λa e c=>?_))));obtain⟨u,F,D,r,q,p⟩:=e.count (yn W v i);exact bt (yo r (by exact q▸yT (Yy p (by rw[Wi];exact Nat.add_le_add k (by decide)))) (cv (h _ ⟨(c.2 _ (lp I.ne)).trans I.obj,e,I.ne⟩ c)))
def Ze0{R:Result->bN->Prop}{b:O a7}{c:O (ar×a7)}(X:K.In s.heap)(e:makesIn K C=af)
  (i:PySem.W.findIn K (.ref C) "__init__"=Z (Z (.ref f)))(j:typeIn K (.ref f)=Z (.type "function"))
  (h:codeAny (model prog w) (A.under (.builtin "type.__call__" ⟨.ref C::b,c⟩)) (.call (.ref f) ⟨.ref (s.heap.objs.size+1)::b,c⟩) (PySem.W.InitBack (s.heap.objs.size+1) R)
   {s with heap:=(s.heap.push emptyDict).push (instObj C s.heap.objs.size)}):
  codeAny (model prog w) A (.call (.ref C) ⟨b,c⟩) R s:=by
 obtain⟨k,g,d,t,os⟩:=s;exact PySem.W.make_core (PySem.W.makes_of X e) (PySem.W.looks_findIn X i) (λa=>PySem.W.bind_fn X a j) (.inl rfl) h
end
noncomputable def dh(f:ar)(v:V):O (ar×V)->O (ar×V)
 |[]=>[(f,v)]
 |(g,x)::r=>if g=f then(g,v)::r else(g,x)::dh f v r
theorem GB(f g:ar)(v:V):∀fs:O (ar×V),(dh f v fs).lookup g=if g=f then Z v else fs.lookup g
 |[]=>by
  show List.lookup g [(f,v)]=_
  grind
 |(k,x)::r=>by
  have a:=GB f g v r;rw[show dh f v ((k,x)::r)=(if k=f then(k,v)::r else(k,x)::dh f v r) from rfl]
  grind
theorem yX(f:ar)(v:V):∀fs:O (ar×V),f∈(dh f v fs).map (·.1)/\∀g,g∈fs.map (·.1)->g∈(dh f v fs).map (·.1)
 |[]=>⟨by simp[dh],λg h=>by simp at h⟩
 |(k,x)::r=>by
  obtain⟨b,a⟩:=yX f v r;rw[show dh f v ((k,x)::r)=(if k=f then(k,v)::r else(k,x)::dh f v r) from rfl]
  grind
theorem GC(f:ar)(v:V):∀fs:O (ar×V),(dh f v fs).length<=fs.length+1
 |[]=>by simp[dh]
 |(k,x)::r=>by
  have a:=GC f v r;rw[show dh f v ((k,x)::r)=(if k=f then(k,v)::r else(k,x)::dh f v r) from rfl]
  grind
theorem fG.some_of(r:fG (Z v) o):∃u,o=Z u/\RelV v u:=by
 cases o with
 |none=>exact(r).elim
 |some u=>exact⟨u,rfl,r⟩
theorem fG.none_of(r:fG aJ o):o=aJ:=by
 cases o with
 |none=>rfl
 |some u=>exact(r).elim
theorem PN(r:RelV v u):handedIn u=af:=by
 cases v with
 |ay=>cases(r);rfl
 |bl b=>cases(r);rfl
 |int i=>obtain⟨t,e⟩:=(show ∃t,u=Value.int i t from r);cases e;rfl
 |str x=>obtain⟨t,e⟩:=(show ∃t,u=Value.str x t from r);cases e;rfl
 |kP b=>obtain⟨t,e⟩:=(show ∃t,u=Value.bytes b t from r);cases e;rfl
 |vh b=>obtain⟨t,e⟩:=(show ∃t,u=Value.float b t from r);cases e;rfl
 |ref a=>cases(r);rfl
 |ty n=>cases(r);rfl
def B4(i:dH P w H h)(e:H a=Z (.ins C c fs)):∃b,uW h a c C b/\(∀f,fG (fs.lookup f) (b f))/\PySem.Within b (fs.map (·.1))/\fs.length<=1000/\H c=Z (.own a):=by
 obtain⟨d,z,ne,g,b,n,r,q⟩:=(i a _ e);exact⟨b,⟨g,n,ne⟩,r,q,z,d⟩
structure h_(K:ah)(C:U):Prop where
 pg:plainGet K C Str.empty=af
 hd:hasDictIn K C=af
 po:plainOver K C=af
 sa:PySem.W.findIn K (.ref C) "__setattr__"=Z (Z (.builtin "object.__setattr__"))
def h_.get{K:ah}(c:h_ K C)(f:ar):plainGet K C f=af:=c.pg
def dA(K:ah)(C:U)(f:ar):Prop:=PySem.W.findIn K (.ref C) f=Z aJ
def dA.Zjm{K:ah}(n:dA K C f):takerIn K C f=Z aJ:=by
 unfold takerIn;rw[n];rfl
structure Meth(K:ah)(C:U)(m:ar)(f:U):Prop where
 at_:PySem.W.findIn K (.ref C) m=Z (Z (.ref f))
 fn:isFn K (.ref f)=af
 kp:keepIn K (.ref f)=af
def Zc3(I:Inv X pins σ H s)(e:H a=Z (.ins C m fs))(c:h_ X.K C)(n:dA X.K C f)(l:fs.lookup f=Z v)
  (h:∀u g,Inv X pins σ H g->RelV v u->Q u g):wpAny X.md A (getAttr (.ref a) f b) Q E s:=by
 refine iy (B4 I.aw e) λk d r _ _ _=>?_;obtain⟨u,j,i⟩:=fG.some_of (by exact l▸r f);exact get_map I.cO d (c.get f) c.hd n j (PN i) (h u _ (I.tok _) i)
def Bq(I:Inv X pins σ H s)(e:H a=Z (.ins C i fs))(c:h_ X.K C)(k:Meth X.K C m g)(l:fs.lookup m=aJ)
  (h:Q (.ref g,[.ref a]) s):wpAny X.md A (getMethod (.ref a) m d) Q E s:=by
 refine iy (B4 I.aw e) λf b r _ _ _=>?_;exact ZeZ I.cO b (c.get m) k.at_ k.fn (fG.none_of (by exact l▸r m)) h
def O8(I:Inv X pins σ H s)(e:H a=Z (.ins C x fs))(c:h_ X.K C)(n:dA X.K C f)(F:fs.length<1000)(B:RelV y u)
  (h:∀k,Inv X pins σ (upd H a (.ins C x (dh f y fs))) k->Q () k):wpAny X.md A (setAttr (.ref a) f u) Q E s:=by
 refine iy (B4 I.aw e) λD d r j _ p=>?_;have m:(fs.map (·.1)).length<=sizeLine:=by rw[Ya,d6];exact Nat.le_of_lt (Nat.lt_of_lt_of_le F (by decide))
 refine Zgr I.cO d c.sa c.po n.Zjm c.hd j m λG i l=>h _ (I.write (by exact e▸kS) (.inr p) (λb q v z=>(l.2 b v).trans z) (let⟨o,_,_,w,_⟩:=i.ns;⟨o,w⟩) ⟨by rwa[aS d.ne],?_,d.ne,i.obj,_,i.ns,λg=>?_,λg t=>?_⟩);·have:=GC f y fs;exact Nat.le_trans this (Nat.succ_le_of_lt F)
 ·rw[GB];by_cases q:g=f;·rwa[bC q,bC q]
  ·grind
 ·by_cases q:g=f;·exact q▸(yX f y fs).1
  ·refine(yX f y fs).2 g (j g λz=>t ?_)
   grind
def Inv.made(I:Inv X pins σ H s):Inv X pins σ (upd (upd H s.heap.objs.size (.own (s.heap.objs.size+1))) (s.heap.objs.size+1) (.ins C s.heap.objs.size []))
  {s with heap:=(s.heap.push emptyDict).push (instObj C s.heap.objs.size)}:=by
 have c:(s.heap.push emptyDict).get? s.heap.objs.size=Z emptyDict:=Ys s.heap rfl;have g:((s.heap.push emptyDict).push (instObj C s.heap.objs.size)).get? (s.heap.objs.size+1)=Z (instObj C s.heap.objs.size):=by
  have:=Ys (s.heap.push emptyDict) (o:=instObj C s.heap.objs.size) rfl
  rwa [J3] at this
 have f:(s.heap.push emptyDict).Ns s.heap.objs.size (λ_=>aJ):=⟨emptyDict,#[],_,c,rfl,(λe d=>absurd d QS),λ_=>rfl⟩;have h:=I.laid (a:=s.heap.objs.size) (o:=.own (s.heap.objs.size+1)) (h':=s.heap.push emptyDict) (t':=s.toks) (λb u q=>Yc _ q) (Yd _) ⟨_,c⟩;refine h.laid (λb u q=>Yc _ q) (DF (J3 _ _)) ?_;have ne:s.heap.objs.size≠s.heap.objs.size+1:=Yz (Jf _);refine⟨by rw[aS ne,a9],Yx _,ne,g,λ_=>aJ,(XG f).at λ o=>Yc _,λ_=>kS,λ y=>absurd rfl⟩
def RO(a:attributeBase e f env (eval e env)=eval e env)
  (h:wpAny (model prog w) A (eval e env) (λo b=>wpAny (model prog w) A (getAttr o f af) Q E b) E s):wpAny (model prog w) A (eval (.Attribute e f pos) env) Q E s:=
 Attribute_any_ h (by rw[arm_eval_Attribute,a])
inductive S8(K:ah)(f:ar)(Q:VK)(x:V)(b:Hp):Prop
 |mk (a C c fs v) (j:x=.ref a) (h:b a=Z (.ins C c fs)) (i:h_ K C) (e:dA K C f) (g:fs.lookup f=Z v) (d:Q v b):S8 K f Q x b
def LP(K:ah)(b:TE)(f:ar):TE:=λa H Q=>b a H λx c=>S8 K f Q x c
def Zkb(K:ah)(g e:TE)(f:ar):TS:=λD b H=>e b H λy h=>g b h λx d=>∃a C c fs,x=.ref a/\d a=Z (.ins C c fs)/\h_ K C/\dA K C f/\fs.length<1000/\
 D.nx b (upd d a (.ins C c (dh f y fs)))
def ZhX(m:PE X e i)(o:attributeBase e f X.env (eval e X.env)=eval e X.env):PE X (.Attribute e f pos) (LP X.K i f):=by
 intro b s d H Q I h;refine RO o (aC (m b s d H _ I h) λu B g=>?_);obtain⟨x,y,w,j,a,C,D,fs,v,p,r,c,n,l,q⟩:=g;subst p;obtain rfl:u=Value.ref a:=j;exact Zc3 w r c n l λz A t k=>⟨v,y,t,k,q⟩
def zr(w:PE X o i)(t:PE X value g)(v:swapsWith value (Z (.Attribute o f pos')) pos.line X.env=pure bg):PS X (.Assign [.Attribute o f pos'] value pos) (Zkb X.K i g f):=by
 intro b s d H D I h;refine xp (aC (t b s d H _ I h) λu j e=>?_) v;obtain⟨y,G,F,k,q⟩:=e;refine aC (w b j d G _ F q) λr L e=>?_;obtain⟨x,P,E,m,a,C,N,fs,z,A,c,n,l,p⟩:=e;subst z;obtain rfl:r=Value.ref a:=m;exact O8 E A c n l k λJ B=>⟨d,_,B,p⟩
section
variable {X:Cx}{W:bq}{σ:St}{H:Hp}{s:bN}{A:fb}{E:bw}{Q:bw}{c:a7}{b:cu}
inductive ko(K:ah)(H:Hp):V->a7->Prop where
 |ay:ko K H .ay (.type "NoneType")
 |bl (x:cu):ko K H (.bl x) (.type "bool")
 |int (i:Int):ko K H (.int i) (.type "int")
 |str (x:ar):ko K H (.str x) (.type "str")
 |vh (x:UInt64):ko K H (.vh x) (.type "float")
 |lst {a:U} {f:O V} (e:H a=Z (.lst f)):ko K H (.ref a) (.type "list")
 |cU {a:U} {o:Obj} {f:O V} (e:H a=Z (.cU o (.lst f))):ko K H (.ref a) (.type "list")
 |tup {a:U} {f:O V} (e:H a=Z (.tup f)):ko K H (.ref a) (.type "tuple")
 |dK {a:U} {d:O (Key×V)} (e:H a=Z (.dK d)):ko K H (.ref a) (.type "dict")
 |dT {a:U} {d:O (O Key×V)} (e:H a=Z (.dT d)):ko K H (.ref a) (.type "dict")
 |ins {a C g:U} {fs:O (ar×V)} (e:H a=Z (.ins C g fs)) (j:h_ K C) (h:PySem.W.findIn K (.ref C) "__class__"=Z (Z (.builtin "object.__class__")))
   (hn:specialIn K (.builtin "object.__class__") "__get__"=Z (Z (.builtin "getset_descriptor.__get__"))) (Xk:takesIn K (.builtin "object.__class__")=Z af)
   (hm:PySem.W.mroIn K C (.type "object")=Z af):ko K H (.ref a) (.ref C)
theorem Zd_{x:V}{u t:a7}(I:Inv X W σ H s)(f:RelV x u)(r:ko X.K H x t)(e:kitOne X.K t c=Z b)(h:∀v,Q (.bool b) {s with toks:=v}):
  wpAny X.md A (call (.builtin "isinstance") [u,c]) Q E s:=by
 cases r with
 |ay=>cases(show u=Value.none from f);exact mh PySem.W.kitx_none I.cO kS e (λz=>nomatch z) h
 |bl y=>cases(show u=Value.bool y from f);exact mh PySem.W.kitx_bool I.cO kS e (λz=>nomatch z) h
 |int i=>obtain⟨t,q⟩:=(show ∃t,u=Value.int i t from f);cases q;exact mh PySem.W.kitx_int I.cO kS e (λz=>nomatch z) h
 |str y=>obtain⟨t,q⟩:=(show ∃t,u=Value.str y t from f);cases q;exact mh PySem.W.kitx_str I.cO kS e (λz=>nomatch z) h
 |vh y=>obtain⟨t,q⟩:=(show ∃t,u=Value.float y t from f);cases q;exact mh PySem.W.kitx_float I.cO kS e (λz=>nomatch z) h
 |@lst a l g=>
  cases(show u=Value.ref a from f);obtain⟨_,_,n,_,j⟩:=(show cX X.prog X.w H s.heap a (.lst l) from I.aw a _ g);exact mh kitx_list I.cO ⟨_,j,rfl⟩ e (λz=>nomatch z) h
 |@cU a w l g=>
  cases(show u=Value.ref a from f);obtain⟨_,_,_,n,_,j⟩:=(show cX X.prog X.w H s.heap a (.cU w (.lst l)) from I.aw a _ g);exact mh kitx_list I.cO ⟨_,j,rfl⟩ e (λz=>nomatch z) h
 |@tup a l g=>
  cases(show u=Value.ref a from f);obtain⟨_,_,_,p⟩:=(show cX X.prog X.w H s.heap a (.tup l) from I.aw a _ g);refine cm p λo j m _=>?_;exact mh PySem.W.kitx_tuple I.cO ⟨o,j,m⟩ e (λz=>nomatch z) h
 |@dK a k g=>
  cases(show u=Value.ref a from f);obtain⟨_,_,N,_,p⟩:=(show cX X.prog X.w H s.heap a (.dK k) from I.aw a _ g);refine nF p λo F G j m _=>?_;exact mh kitx_dict I.cO ⟨o,j,m.1⟩ e (λz=>nomatch z) h
 |@dT a k g=>
  cases(show u=Value.ref a from f);obtain⟨_,_,l,_,o,F,G,j,m,_⟩:=(show cX X.prog X.w H s.heap a (.dT k) from I.aw a _ g);exact mh kitx_dict I.cO ⟨o,j,m.1⟩ e (λz=>nomatch z) h
 |@ins a C T fs g cl D B L hm=>
  cases(show u=Value.ref a from f);refine bo (B4 I.aw g) λR d _=>?_;obtain⟨P,J,_⟩:=d.look;exact mh (PySem.W.kitx_own (cl.get _) cl.hd D B L hm) I.cO J e (λz=>nomatch z) h
end
structure cW(k:Nat)(A:fb):Prop where
 hd:A.handled=aJ
 dp:A.depth+3*k+5<recursionLimit
 un:A.units+16*k+200<cLine
 gd:A.guards=Z []
def cW.mono(r:cW k A)(h:j<=k):cW j A:=⟨r.hd,by have:=r.dp;omega,by have:=r.un;omega,r.gd⟩
def cW.deeper(r:cW (k+1) A)(a:Env):cW k (A.deeper a):=
 ⟨r.hd,by have:=r.dp;show A.depth+1+3*k+5<_;omega,by have:=r.un;show A.units+3+16*k+200<_;omega,r.gd⟩
def Zc4{A:fb}:(A.under (.builtin "type.__call__" ⟨.ref C::us,kw⟩)).depth=A.depth+1:=by
 rfl
def Zc5{A:fb}:(A.under (.builtin "type.__call__" ⟨.ref C::us,kw⟩)).units=A.units+1:=by
 rfl
def cW.make(r:cW (k+1) A)(C:U)(a:O a7)(b:O (ar×a7)):cW k (A.under (.builtin "type.__call__" ⟨.ref C::a,b⟩)):=
 ⟨r.hd,by have:=r.dp;rw[Zc4];omega,by have:=r.un;rw[Zc5];omega,by first|exact r.gd|simpa[Around.under,Code.isGuard,Code.isFrame,guardIds] using r.gd⟩
def cW.depth(r:cW k A):A.depth<recursionLimit:=by have:=r.dp;omega
def cW.units(r:cW k A):A.units+64<cLine:=by have:=r.un;omega
def cW.w_(r:cW k A):A.units<cLine:=by have:=r.un;omega
def jO:TA:=λ_ H Q=>Q [] H
def iV(d:TE)(c:TA):TA:=λa H Q=>d a H λx f=>c a f λb e=>Q (x::b) e
section
variable {X:Cx}{e:cH}{W:O cH}{T:TE}{t:TA}
def ag:PA X [] jO:=λ_ _ _ _ H Q I h=>tq ⟨[],H,I,.nil,h⟩
def aa(n:PE X e T)(m:PA X W t)(l:jv X e W:=by rfl):PA X (e::W) (iV T t):=by
 intro b a s c H Q I h;exact l▸pY (aC (n a s c H _ I h) λu f ⟨x,r,p,i,k⟩=>aC (m b a f c r _ p k) λv w ⟨d,q,o,g,j⟩=>⟨x::d,q,o,.cons i g,j⟩)
def Zkc(t:TA):TE:=λc H Q=>t c H λa b=>a.length<=sizeLine/\∀p,b p=aJ->Q (.ref p) (upd b p (.lst a))
def zt(h:PA X W t):PE X (.List W pos) (Zkc t):=by
 intro a s f H Q I j;refine SF (aC (h pos a s f H _ I j) λi c ⟨g,k,d,r,z,q⟩=>⟨by rwa[←r.length],⟨.ref c.heap.objs.size,upd k c.heap.objs.size (.lst g),d.laid (λ b u=>Yc _) (Yd _) ?_,rfl,q _ (d.aw.fresh (Yd _))⟩⟩);exact⟨z,i,0,r,Ys _ rfl⟩
end
abbrev Sp:=O V->Hp->VK->XK->Prop
abbrev lO:=O Env->Hp->bN->XK->a7->bN->Prop
structure uX(P:dC)(w:dg)(K:ah)(mg:a8)(base:c8)(A:fb)(outer:O Env)(s:bN)(H:Hp):Prop where
 frames:A.frames=Z outer
 mod:Mod K mg base
 bs:∀b o,base.get? b=Z o->s.heap.get? b=Z o/\H b=aJ
 oC:base.objs.size<=s.heap.objs.size
 kK:s.heap.FunFrames base outer
 qQ:∀b∈di outer,H b=aJ
 aw:dH P w H s.heap
 bare:AllBare s.gens
def CE(a:O Env)(P:dC)(w:dg)(H:Hp)(s:bN)(Q:VK)(u:a7)(b:bN):Prop:=
 ∃v c,b.os=s.os/\AllBare b.gens/\Un (di a) [] H c s.heap b.heap/\dH P w c b.heap/\RelV v u/\Q v c
def CR(c:lO)(a:O Env)(P:dC)(w:dg)(H:Hp)(s:bN)(Q:VK)(E:XK)(r:Result)(b:bN):Prop:=
 match r with
 |.ok (.ret u)=>CE a P w H s Q u b
 |.ok _=>False
 |.error e=>c a H s E e b
structure aI(P:dC)(w:dg)(K:ah)(mg:a8)(base:c8)(CX:lO)(k:Nat)(f:U)(fd:FuncData)(ps:O ar)(sp:Sp):Prop where
 len:∀vs H Q E,sp vs H Q E->vs.length=ps.length
 run:∀(A:fb) (outer:O Env) (s:bN) (H:Hp) (args:Args) (us:O a7) (vs:O V) (Q:VK) (E:XK),cW k A->uX P w K mg base A outer s H->BindsTo s fd args (ps.zip us)->Vals vs us->sp vs H Q E->
  codeAny (model P w) A (.call (.ref f) args) (CR CX outer P w H s Q E) s
def uX.make{K:ah}(e:uX P w K b base A outer s H)(C:U)(a:O a7)(c:O (ar×a7)):
  uX P w K b base (A.under (.builtin "type.__call__" ⟨.ref C::a,c⟩)) outer s H:=⟨by first|exact e.frames|(simpa[Around.under,Code.envs,Code.isFrame,pushEnvs] using e.frames),e.mod,e.bs,e.oC,e.kK,e.qQ,e.aw,e.bare⟩
def Inv.CV(I:Inv X pins σ H s):uX X.prog X.w X.K X.mg X.base X.A X.stack s H:=
 ⟨I.ok.frames,I.ok.mod,I.bs,Yy I.ok.oC I.sz,I.stack,I.BY,I.aw,I.bare⟩
def Inv.after(I:Inv X pins σ H s)(h:CE X.stack X.prog X.w H s Q u s'):EP X pins σ Q u s':=by
 refine rb h λv e os a un c r q=>?_;obtain⟨i,g,d,t,f⟩:=s';obtain rfl:f=s.os:=os;exact⟨v,e,I.call un c a (λb z=>absurd z QS),r,q⟩
def Cz(c:Sp)(d:O V)(E:XK)(t:TA):TE:=λa H Q=>t a H λb e=>c (b++d) e Q E
def CA(C:U)(m:ar)(f:Sp)(h:O V)(E:XK)(e:TE)(t:TA):TE:=λb H Q=>e b H λx c=>∃a g fs,x=.ref a/\c a=Z (.ins C g fs)/\fs.lookup m=aJ/\
 t b c λd i=>f (x::(d++h)) i Q E
def UD(C:U)(e:Sp)(f:O V)(E:XK)(t:TA):TE:=λc H Q=>t c H λd b=>∀x a,b x=aJ->b a=aJ->a≠x->
 e (.ref x::(d++f)) (upd (upd b a (.own x)) x (.ins C a [])) (λv g=>v=.ay/\Q (.ref x) g) E
def Binds(K:ah)(d:FuncData)(b:O ar)(c:O a7):Prop:=
 ∀(s:bN) (a:O a7),K.In s.heap->(a++c).length=b.length->BindsTo s d ⟨a,[]⟩ (b.zip (a++c))
def Binds.all{K:ah}(h:∀a:O a7,a.length=b.length->bindArgs fd ⟨a,[]⟩=pure (b.zip a)):Binds K fd b []:=λs a _ c=>by
 rw[Wf] at c⊢;exact .of_eq (h a c)
def Passes(d:lO)(X:Cx)(E:XK):Prop:=∀(a:bq) (c:St) (H:Hp) (s:bN) (e:a7) (b:bN),Inv X a c H s->d X.stack H s E e b->X.xe e b
section
variable {X:Cx}{J:lO}{k:Nat}{f C:U}{L:FuncData}{ps:O ar}{G:Sp}{N:O V}{R:O a7}{E:XK}{x m:ar}{p W T:Pos}{e o:cH}{P:O cH}{D:TE}{t:TA}
theorem Cj(F:aI X.prog X.w X.K X.mg X.base J k f L ps G)(g:cW k X.A)(l:Binds X.K L ps R)(j:Vals N R)(d:Passes J X E)
  (I:Inv X pins σ H s)(r:Vals vs us)(h:G (vs++N) H Q E):wpAny X.md X.A (call (.ref f) us) (EP X pins σ Q) X.xe s:=by
 have b:=r.append j;have i:(us++R).length=ps.length:=by exact b.length▸F.len _ _ _ _ h
 refine oD (nq (F.run X.A X.stack s H ⟨us,[]⟩ (us++R) (vs++N) Q E g I.CV (l s us I.cO i) b h) λr c a=>?_);cases r with
 |error e=>exact d pins σ H s e c I a
 |ok n=>
  cases n with
  |ret u=>exact I.after a
  |next=>exact False.elim a
  |brk=>exact False.elim a
  |cont=>exact False.elim a
def Zgs(F:aI X.prog X.w X.K X.mg X.base J k f L ps G)(g:cW k X.A)(l:Gl X x)(i:X.mg x=Z (.ref f))(j:keepIn X.K (.ref f)=af)(v:Binds X.K L ps R)(u:Vals N R)(d:Passes J X E)
  (w:PA X (e::P) t)(y:(x==("__debug__":ar))=bg:=by decide)(n:jv X e P:=by rfl)(z:jR X W P:=by rfl):
  PE X (.Call (.Name x p) (e::P) [] W) (Cz G N E t):=by
 intro a s c H Q I h;exact rn (uo I l i (qd I.ok.mod.oB j (aC (w W a s c H _ I h) λB s1 ⟨A,H1,b,r,q⟩=>⟨b.cO,Cj F g v u d b r q⟩) n z) y)
def Zgt{B:Sem cu}(he:PE X o D)(c:h_ X.K C)(i:Meth X.K C m f)(F:aI X.prog X.w X.K X.mg X.base J k f L ps G)(hr:cW k X.A)(hb:Binds X.K L ps R)(hd:Vals N R)(hx:Passes J X E)(ha:PA X (e::P) t)
  (dN:jv X e P:=by rfl)(cJ:jR X W P:=by rfl)
  (ht:eval (.Call (.Attribute o m T) (e::P) [] W) X.env=(do
   let g←eval o X.env
   standAt T.atName
   let(f,first)←holding [g] (getMethod g m B)
   callWith W f first (backTo W (starEach (e::P) X.env)) (backToKw W (keywordEach [] X.env))):=by rfl):
  PE X (.Call (.Attribute o m T) (e::P) [] W) (CA C m G N E D t):=by
 intro b s d H Q I h;refine sQ (aC (he b s d H _ I h) λu y v=>?_) ht;obtain⟨x,H1,n,z,a,dx,fs,ex,ea,l,q⟩:=v;subst ex;obtain rfl:u=Value.ref a:=z;refine Bq n ea c i l ?_;refine qd I.ok.mod.oB i.kp (aC (ha W b y d H1 _ n q) λus s2 ⟨w,H2,j,r,A⟩=>⟨j.cO,?_⟩) dN cJ;exact Cj (vs:=.ref a::w) F hr hb hd hx j (.cons rfl r) A
def Ze1{v:Sem cu}(A:PE X o D)(c:h_ X.K C)(i:Meth X.K C m f)(F:aI X.prog X.w X.K X.mg X.base J k f L ps G)(z:cW k X.A)(hb:Binds X.K L ps R)(B:Vals N R)(w:Passes J X E)
  (y:eval (.Call (.Attribute o m T) [] [] W) X.env=(do
   let g←eval o X.env
   standAt T.atName
   let(f,first)←holding [g] (getMethod g m v)
   callWith W f first (backTo W (starEach [] X.env)) (backToKw W (keywordEach [] X.env))):=by rfl):
  PE X (.Call (.Attribute o m T) [] [] W) (CA C m G N E D jO):=by
 intro b s j H Q I h;refine sQ (aC (A b s j H _ I h) λu s1 n=>?_) y;obtain⟨x,H1,d,r,a,dx,fs,ex,ea,l,q⟩:=n;subst ex;obtain rfl:u=Value.ref a:=r;refine Bq d ea c i l ?_;exact callWith_K0 d.cO i.kp (Cj (vs:=[.ref a]) F z hb B w d (.cons rfl .nil) q)
structure Mk(K:ah)(C f:U):Prop where
 makes:makesIn K C=af
 init:PySem.W.findIn K (.ref C) "__init__"=Z (Z (.ref f))
 fn:isFn K (.ref f)=af
 kp:keepIn K (.ref C)=af
theorem Ze2(a:Mk X.K C f)(F:aI X.prog X.w X.K X.mg X.base J k f L ps G)(y:cW (k+1) X.A)(B:Binds X.K L ps R)(A:Vals N R)
  (w:Passes J X E)(I:Inv X pins σ H s)(r:Vals g us)
  (h:∀x c,H x=aJ->H c=aJ->c≠x->G (.ref x::(g++N)) (upd (upd H c (.own x)) x (.ins C c [])) (λv H2=>v=.ay/\Q (.ref x) H2) E):
  wpAny X.md X.A (call (.ref C) us) (EP X pins σ Q) X.xe s:=by
 have j:=h (s.heap.objs.size+1) s.heap.objs.size (I.aw.fresh (Jt _)) (I.aw.fresh (Yd _)) (Yz (Jf _));have d:=Inv.made (C:=C) I;have i:Vals (V.ref (s.heap.objs.size+1)::(g++N)) (Value.ref (s.heap.objs.size+1)::(us++R)):=.cons rfl (r.append A);have z:(Value.ref (s.heap.objs.size+1)::us++R).length=ps.length:=by
  have e:=i.length;rw[F.len _ _ _ _ j] at e;exact e.symm
 refine oD (Ze0 I.cO a.makes a.init (beq_iff_eq.mp a.fn) (nq (F.run _ X.stack _ _ ⟨Value.ref (s.heap.objs.size+1)::us,[]⟩ (Value.ref (s.heap.objs.size+1)::(us++R)) _ _ E (y.make C us [])
  (d.CV.make C us []) (B _ (Value.ref (s.heap.objs.size+1)::us) d.cO z) i j) λr l b=>?_))
 cases r with
 |error e=>exact w pins σ _ _ e l d b
 |ok fl=>
  cases fl with
  |ret u=>
   obtain⟨v,H',I3,n,ev,q⟩:=d.after b;subst ev;exact⟨n,⟨V.ref (s.heap.objs.size+1),H',I3,rfl,q⟩⟩
  |next=>exact False.elim b
  |brk=>exact False.elim b
  |cont=>exact False.elim b
def Zgu(a:Mk X.K C f)(F:aI X.prog X.w X.K X.mg X.base J k f L ps G)(i:cW (k+1) X.A)(l:Gl X x)(j:X.mg x=Z (.ref C))(v:Binds X.K L ps R)(u:Vals N R)(g:Passes J X E)
  (w:PA X (e::P) t)(y:(x==("__debug__":ar))=bg:=by decide)(n:jv X e P:=by rfl)(z:jR X W P:=by rfl):
  PE X (.Call (.Name x p) (e::P) [] W) (UD C G N E t):=by
 intro b s d H Q I h;exact rn (uo I l j (qd I.ok.mod.oB a.kp (aC (w W b s d H _ I h) λB s1 ⟨A,H1,c,r,q⟩=>⟨c.cO,Ze2 a F i v u g c r q⟩) n z) y)
end
structure aW(N P:O ar)(sc:Scope):Prop where
 kind:sc.kind=.function
 co:sc.isCoroutine=bg
 gen:sc.isGenerator=bg
 nd:N.Nodup
 pre:N.take P.length=P
 par:∀x∈P,sc.names.lookup x=Z .local\/sc.names.lookup x=Z .cell
 ZhY:∀y∈sc.names,y.2≠.free
theorem PQ{a:ar->bS NameKind}{x:ar}:∀{binds:O (ar×a7)} {m:a8},(∀v,(x,v)∉binds)->bindL a binds m x=m x
 |[],_,_=>rfl
 |(n,v)::r,m,h=>by
  unfold bindL;rw[PQ λw b=>h w (Yw _ b)];split;·grind
  ·rfl
theorem PR{a:ar->bS NameKind}{x:ar}:∀{binds:O (ar×a7)} {m:a8},(∀v,(x,v)∉binds)->bindC a binds m x=m x
 |[],_,_=>rfl
 |(n,v)::r,m,h=>by
  unfold bindC;rw[PR λw b=>h w (Yw _ b)];split;·rfl
  ·grind
theorem PU{a:ar->bS NameKind}{x:ar}{v:a7}:∀{P:O ar} {b:O a7} {i:Nat} {m:a8},P.Nodup->P[i]?=Z x->b[i]?=Z v->a x=Z .local->
  bindL a (P.zip b) m x=Z v
 |[],_,_,_,_,h,_,_=>by simp at h
 |_::_,[],_,_,_,_,h,_=>by simp at h
 |p::P,w::b,0,m,e,d,c,f=>by
  simp at d c;subst d;subst c;show bindL a ((p,w)::P.zip b) m p=_;unfold bindL;rw[PQ λv g=>(Y0.mp e).1 (MI g).1,bC f];simp
 |p::P,w::b,i+1,m,e,d,c,f=>by
  unfold bindL;exact PU (Y0.mp e).2 (by simpa using d) (by simpa using c) f
theorem PV{a:ar->bS NameKind}{x:ar}{v:a7}:∀{P:O ar} {b:O a7} {i:Nat} {m:a8},P.Nodup->P[i]?=Z x->b[i]?=Z v->a x≠Z .local->
  bindC a (P.zip b) m x=Z v
 |[],_,_,_,_,h,_,_=>by simp at h
 |_::_,[],_,_,_,_,h,_=>by simp at h
 |p::P,w::b,0,m,e,d,c,f=>by
  simp at d c;subst d;subst c;show bindC a ((p,w)::P.zip b) m p=_;unfold bindC;rw[PR λv g=>(Y0.mp e).1 (MI g).1,bF f];simp
 |p::P,w::b,i+1,m,e,d,c,f=>by
  unfold bindC;exact PV (Y0.mp e).2 (by simpa using d) (by simpa using c) f
def start(N:O ar)(a:O V):St:=a.map Z++List.replicate (N.length-a.length) aJ
def lM(g:lO)(P:dC)(w:dg)(K:ah)(mg:a8)(base:c8)(N:O ar)(b:ar)(a:Scope)(f:U)(c:a7)(A:fb)(outer:O Env)(s:bN)(H:Hp)(E:XK):Cx where
 prog:=P
 w:=w
 K:=K
 mg:=mg
 base:=base
 A:=A.deeper (envOfC b a s.heap.objs.size f c)
 N:=N
 dB:=s
 mY:=H
 env:=envOfC b a s.heap.objs.size f c
 outer:=outer
 stack:=envOfC b a s.heap.objs.size f c::outer
 ex:=[]
 calm:=af
 fn:=λ_=>af
 pn:=[]
 xe:=λe h=>wpAny (model P w) (A.deeper (envOfC b a s.heap.objs.size f c)) (leaving (envOfC b a s.heap.objs.size f c) e) (λ_ d=>g outer H s E e d) (λi d=>g outer H s E i d) h
def Qy{a:Scope}(h:a.names.lookup x=Z .cell):∃c,(cellsFrom n a.names []).lookup x=Z c:=by
 exact Jk.mp (Qcn a.names n [] (.inl h))
theorem Zea{K:ah}
  (d:aW N l scope)(L:A.handled=aJ)(g:uX P w K C base A outer s H)(W:m.length=l.length)(r:Vals m us)
  (x:InCallC s s.heap.objs.size (bindL (envOfC qual scope s.heap.objs.size f cd).kindOf (l.zip us) λ_=>aJ) (cellsFrom (s.heap.objs.size+1) scope.names []) (bindC (envOfC qual scope s.heap.objs.size f cd).kindOf (l.zip us) λ_=>aJ) s1):
  Inv (lM R P w K C base N qual scope f cd A outer s H E) [] (start N m) H s1:=by
 have cJ:l.length<=N.length:=by have:=eL List.length d.pre;rw[Wb] at this;omega
 refine iF x.done λB T gU F=>?_;subst gU;have t:∀b:U,b∉(lM R P w K C base N qual scope f cd A outer s H E).ex:=λb z=>absurd (show b∈([]:O U) from z) QS;refine⟨⟨g.mod,d.kind,rfl,rfl,Yd _,λy z c B o=>?_,λy j=>?_,λy c _ h=>?_,λ_=>L,Around.frames_deeper g.frames,.inr ⟨rfl,rfl⟩,λb z=>absurd z (t b),g.bs,g.oC,λb _ _=>t b,λb z=>absurd z (t b),g.kK,g.qQ⟩,
  rfl,g.bare,Un.kept F,⟨_,x.toInCall.ns,λi y v B o X=>?_⟩,λy c h=>⟨_,x.cell y c h⟩,g.aw.fresh (Yd _),λy c h=>?_,λp n=>absurd (show p∈([]:bq) from n) QS,g.aw.kept F,?_⟩
 ·exact name_of_addr x.apart (tc B) (tc o)
 ·have j:=j;rcases j with j|j;·exact Qy j
  ·exact absurd rfl (d.ZhY _ (tc j))
 ·exact Jn (x.above y c (tc h))
 ·have J:i<m.length:=by
   unfold start at o
   grind
  have Q:m[i]?=Z v:=by
   unfold start at o;rw[Wh (by simpa using J),Ye] at o;cases e:m[i]? with
   |none=>simp_all
   |some a=>simp_all
  refine bo (r.get Q) λu D I=>?_;have n:l[i]?=Z y:=by
   rwa[←d.pre,DY (Nat.lt_of_lt_of_le J (Nat.le_of_eq W))]
  have G:l.Nodup:=by exact d.pre▸d.nd.sublist (List.take_sublist _ _)
  refine⟨u,I,?_⟩;rcases d.par y (Yg n) with k|k;·exact .inl ⟨k,PU G n D k⟩
  ·obtain⟨c,e⟩:=Qy k;refine .inr ⟨.inl k,c,e,?_⟩;have q:=x.cell y c e;rw[PV G n D (by show scope.names.lookup y≠_;rw[k];decide)] at q;exact q
 ·exact g.aw.fresh (Jn (x.above y c (tc h)))
 ·unfold start;show _=N.length
  simp_all
theorem Ln{T:lO}{P:dC}{w:dg}{K:ah}{L:a8}{i:c8}{k:Nat}{f:U}{m g:ar}{h:Arguments}{j:O cb}{c:Scope}{dV kV F pm z ct oc:a7}{an od:bS U}
  {jS:dq (bS a7)}{N G:O ar}{sp:Sp}(lk:K.lookup f=Z ⟨oc,od,.func (fnOf m g h j c dV kV F pm an z ct),jS⟩)(gP:codeIn K z g=af)(a:aW N G c)
  (C:∀l H Q E,sp l H Q E->l.length=G.length)
  (qD:∀(A:fb) (d:O Env) (s:bN) (H:Hp) (l:O V) (Q:VK) (E:XK),cW k (A.deeper (envOfC g c s.heap.objs.size f z))->sp l H Q E->
   ∃t,gO (lM T P w K L i N g c f z A d s H E) j t/\t {nx:=λ_ p=>Q .ay p,rt:=Q} (start N l) H):
  aI P w K L i T (k+1) f (fnOf m g h j c dV kV F pm an z ct) G sp:=by
 refine⟨C,λA d s H args us l Q E hr D hb r m7=>?_⟩;have hl:=C _ _ _ _ m7;have KX:K.In s.heap:=D.mod.oB.keeps λb o e=>(D.bs b o e).1;have X:s.heap.NoLimit:=D.mod.nolimit.keeps λb o e=>(D.bs b o e).1;have Zjn:∀y∈G.zip us,c.names.lookup y.1=Z .local\/(c.names.lookup y.1=Z .cell/\((cellsFrom (s.heap.objs.size+1) c.names []).lookup y.1).isSome=af):=λ⟨n,v⟩ hy=>by
  rcases a.par n (MI hy).1 with q|q;·exact .inl q
  ·exact .inr ⟨q,Qcn _ _ _ (.inl q)⟩
 refine codeAny_call_function hr.depth (KX _ _ lk) rfl a.co a.gen rfl (PySem.W.codeRec_of KX gP) (hb _ _ _ _ ?_);refine wpAny_newFunctionEnv_cells a.kind Zjn λenv he s1 x=>?_;subst he;refine⟨X.keeps x.toInCall.keep,codeAny_func ?_⟩;refine bo (qD A d s H l Q E (hr.deeper _) m7) λt ht hq=>?_;have I:Inv (lM T P w K L i N g c f z A d s H E) [] (start N l) H s1:=Zea a hr.hd D hl r x;refine eH (ht [] s1 (start N l) H _ I hq) (λfl s' B=>?_) λe s' B=>B;have fin:∀{R:St} {p:Hp} {v:V} {u:a7},Inv (lM T P w K L i N g c f z A d s H E) [] R p s'->RelV v u->Q v p->CE d P w H s Q u s':=
  λ{R p v u} J W q=>⟨v,p,J.os,J.bare,J.base,J.aw,W,q⟩
 cases fl with
 |ret u=>
  obtain⟨v,R,p,J,W,q⟩:=B;exact fin J W q
 |next=>
  obtain⟨R,p,J,q⟩:=B;exact fin (v:=V.ay) (u:=Value.none) J rfl q
 |brk=>
  obtain⟨_,_,_,q⟩:=B;exact False.elim q
 |cont=>
  obtain⟨_,_,_,q⟩:=B;exact False.elim q
section
variable {X:Cx}{x:ar}{p W:Pos}{e:cH}{R:O cH}{t:TA}{id T:String}{r:O V->Hp->VK->Prop}
def oG(r:O V->Hp->VK->Prop)(t:TA):TE:=λa H Q=>t a H λb c=>r b c Q
def iu(o:dz X (.builtin id) r)(m:Gl X x)(l:X.mg x=aJ)(j:bootBuiltins x=Z (.builtin id))(q:PA X (e::R) t)(k:x≠"__name__":=by decide)(u:(x==("__debug__":ar))=bg:=by decide)
  (n:jv X e R:=by rfl)(v:jR X W R:=by rfl):PE X (.Call (.Name x p) (e::R) [] W) (oG r t):=by
 intro a s b H Q I h;refine rn (zo I m l j ?_ k u);exact Dx (aC (q W a s b H _ I h) λd f ⟨c,y,w,g,i⟩=>o a f b y c d Q w g i) n v
def fC(o:dz X (.type T) r)(m:Gl X x)(l:X.mg x=aJ)(j:bootBuiltins x=Z (.type T))(q:PA X (e::R) t)(k:x≠"__name__":=by decide)(u:(x==("__debug__":ar))=bg:=by decide)
  (n:jv X e R:=by rfl)(v:jR X W R:=by rfl):PE X (.Call (.Name x p) (e::R) [] W) (oG r t):=by
 intro a s b H Q I h;refine rn (zo I m l j ?_ k u);exact DA (aC (q W a s b H _ I h) λd f ⟨c,y,w,g,i⟩=>o a f b y c d Q w g i) n v
end
end _L
namespace HT
open PySem PyProof.Rows
section
open PySem.SeqAt
open PySem.AutoSeq1 (wpAny_loadPart')
open PySem.MeetsSeq PySem.MeetsSeq2 PySem.MeetsSeq3
end
section
variable {prog:dC}{w:dg}{A:fb}{E:bw}{s:bN}
def Zgv{t b:U}{c a:O a7}{Q:bw}(u:IsTup s.heap t c.toArray)(x:IsTup s.heap b a.toArray)(k:c≠[])
  (z:a=[]->Q (.ref t) s)(y:a≠[]->Q (.ref s.heap.objs.size) {s with heap:=s.heap.push {cls:=.type "tuple",data:=.seq (c++a).toArray}})
  (v:c.length+a.length<=sizeLine):wpAny (model prog w) A (binaryOp .Add (.ref t) (.ref b)) Q E s:=by
 obtain⟨⟨B,m,o,i⟩,g,l,n,hd⟩:=id u;obtain⟨⟨C,r,data2,q⟩,h,p,j,d⟩:=id x;simp only at l hd p d;subst l hd p d;have e:c.toArray++a.toArray=(c++a).toArray:=QS
 by_cases f:a=[]
 ·exact concat_meets ⟨_,g,rfl⟩ ⟨_,h,rfl⟩ XU seq_tuple_add ZV ED (DW _ _)
   (tuple_addW1 t b c.toArray a.toArray n j m r i q (by simpa using k) (by simp[f])) ⟨g,h,z f⟩
 ·refine concat_meets ⟨_,g,rfl⟩ ⟨_,h,rfl⟩ XU seq_tuple_add ZV ED (DW _ _)
   (tuple_addW2 t b c.toArray a.toArray n j m r i q (by simpa using k) (by simpa using f) (by rwa[Yq,Yq])) ⟨g,h,?_⟩
  exact e▸y f
noncomputable def cK(n d:Nat):bS Int->Nat
 |none=>d
 |some v=>if v<0 then(v+(n:Int)).toNat else min v.toNat n
def Zgw(n d k:Nat):cK n d (Z (k:Int))=min k n:=by
 show(if(k:Int)<0 then((k:Int)+(n:Int)).toNat else min (k:Int).toNat n)=min k n;rfl
def RP(v:Int)(n d:Nat):(if v<0 then max (v+(n:Int)) 0 else min v (n:Int))=((cK n d (Z v):Nat):Int):=by
 show(if v<0 then max (v+(n:Int)) 0 else min v (n:Int))=(((if v<0 then(v+(n:Int)).toNat else min v.toNat n):Nat):Int)
 grind
theorem Zc6(a b:bS Int)(n:Nat):Builtin.Slice.sliceAdjust a b 1 (n:Int)=(((cK n 0 a:Nat):Int),((cK n n b:Nat):Int)):=by
 have c:¬((1:Int)<0):=QO
 unfold Builtin.Slice.sliceAdjust;refine Prod.ext ?_ ?_
 ·cases a with
  |none=>rfl
  |some v=>exact RP v n 0
 ·cases b with
  |none=>rfl
  |some v=>exact RP v n n
def Zc7(i j:Nat):Builtin.Slice.slicePlaces (i:Int) (j:Int) 1=j-i:=by
 unfold Builtin.Slice.slicePlaces
 grind
theorem O9(p:IsPart v o)(h:Q o s):wpAny (model prog w) A (Builtin.Slice.slicePartIndex v) Q E s:=by
 cases p with
 |none=>exact slicePart_none h
 |int i t=>exact slicePart_int h
def Zav{g:U}{f e:a7}{a b:bS Int}{n:Nat}{Q:Int×Int×Nat->bN->Prop}(k:s.heap.IsSliceOf g f e .none)(j:IsPart f a)(i:IsPart e b)
  (h:Q (((cK n 0 a:Nat):Int),1,cK n n b-cK n 0 a) s):wpAny (model prog w) A (Builtin.Slice.sliceApplied (.ref g) (pure (n:Int))) Q E s:=by
 refine cm (id k) λos d l c=>?_;refine bt (bt (my d c rfl (bt (my d c rfl (bt (my d c rfl (cv (bt (slicePart_none (bt (O9 j (bt (O9 i (bt (cv ?_)))))))))))))));show wpAny _ _ (match Builtin.Slice.sliceAdjust a b 1 (n:Int) with|(a,b)=>pure (a,(1:Int),Builtin.Slice.slicePlaces a b 1)) _ _ s;rw[Zc6 a b n];show wpAny _ _ (pure (((cK n 0 a:Nat):Int),(1:Int),Builtin.Slice.slicePlaces ((cK n 0 a:Nat):Int) ((cK n n b:Nat):Int) 1)) _ _ s;rw[Zc7];exact cv h
def Ze3(a:dq a7)(i k:Nat):((List.range k).filterMap λ(m:Nat)=>a[((i:Int)+(m:Int)*1).toNat]?).toArray=((a.toList.drop i).take k).toArray:=by
 have e:(λ(m:Nat)=>a[((i:Int)+(m:Int)*1).toNat]?)=λm=>a[i+m]?:=by
  grind
 rw[e];have:=pick_run a i k;rw[List.filterMap_map] at this;have b:((λx=>a[x]?)∘λx=>i+x)=λm=>a[i+m]?:=rfl
 grind
theorem Zam{t i:U}{a:dq a7}{g f:a7}{b c:bS Int}{Q:bw}(d:IsTup s.heap t a)(j:s.heap.IsSliceOf i g f .none)(l:IsPart g b)(k:IsPart f c)
  (r:¬(cK a.size 0 b=0/\cK a.size a.size c=a.size))
  (h:Q (.ref s.heap.objs.size) {s with heap:=s.heap.push {cls:=.type "tuple",data:=.seq ((a.toList.drop (cK a.size 0 b)).take (cK a.size a.size c-cK a.size 0 b)).toArray}})
  (m:a.size<=sizeLine):wpAny (model prog w) A (getItem (.ref t) (.ref i)) Q E s:=by
 have e:sizeOk (.seq ((a.toList.drop (cK a.size 0 b)).take (cK a.size a.size c-cK a.size 0 b)).toArray):=by
  show((a.toList.drop (cK a.size 0 b)).take (cK a.size a.size c-cK a.size 0 b)).toArray.size<=sizeLine
  grind
 refine cm (id j) λos p n q=>?_;unfold getItem;try with_reducible refine kY ?_
 refine bt (VR d.typeIs QD ?_);refine bt (D8 d.typeIs C4
  (rz C4 d.typeIs entry_tuple_getitem ?_ (args_tuple_getitem _ _)))
 show wpAny _ _ (Builtin.Tuple.tupleItemsOf (.ref t)>>=_) _ _ s;refine bt (tupleItemsOf_ d (bt (vV ⟨os,p,n⟩ (bt (Zav j l k ?_)))));have o:¬((((cK a.size 0 b:Nat):Int)==0&&(1:Int)==1&&(cK a.size a.size c-cK a.size 0 b)==a.size)=af):=by
  simp_all
 show wpAny _ _ (if(((cK a.size 0 b:Nat):Int)==0&&(1:Int)==1&&(cK a.size a.size c-cK a.size 0 b)==a.size)=af then _ else _) _ _ s;rw[bF o,Ze3];first
  |exact bt (ni (cv ⟨_,rfl,cv h⟩) e)
  |exact bt (ni (bt (cv (cv ⟨_,rfl,cv h⟩))) e)
  |exact bt (bt (ni (cv (cv ⟨_,rfl,cv h⟩)) e))
  |exact bt (bt (ni (cv ⟨_,rfl,cv h⟩) e))
end
end HT
namespace _L
open PySem PySem.Spec PyProof.Rows
abbrev TO:=St->Hp->(bS Int->Hp->Prop)->Prop
def PO(X:Cx)(e:bS cH)(t:TO):Prop:=
 ∀(a:bq) (s:bN) (b:St) (H:Hp) (Q:bS Int->Hp->Prop),Inv X a b H s->t b H Q->
  wpAny X.md X.A (evalPart e X.env) (λu d=>∃o c,Inv X a b c d/\IsPart u o/\Q o c) X.xe s
def Zgx:TO:=λ_ H Q=>Q aJ H
inductive RQ(Q:bS Int->Hp->Prop)(x:V)(a:Hp):Prop
 |mk (i) (c:x=.int i) (b:Q (Z i) a):RQ Q x a
def Zjo(t:TE):TO:=λa H Q=>t a H λx b=>RQ Q x b
theorem intsAre_of:∀{a:O a7},Vals (ns.map V.int) a->IntsAre a ns:=by
 induction ns with
 |nil=>intro a r;rw[Ad] at r;cases r;exact .nil
 |cons n ns d=>
  intro a r;cases r with
  |cons c b=>
   obtain⟨t,e⟩:=c;subst e;exact .cons n t (d b)
section
variable {X:Cx}{R:TE}{lo W:bS cH}{P N:TO}
def JW:PO X aJ Zgx:=by
 intro a s b H Q I h;exact cv ⟨aJ,H,I,.none,h⟩
def JX(h:PE X e R):PO X (Z e) (Zjo R):=by
 intro a s b H Q I g;refine aC (h a s b H _ I g) λu l c=>?_;obtain⟨x,k,j,d,f⟩:=c;obtain⟨i,rfl,q⟩:=f;obtain⟨t,rfl⟩:=d;exact⟨Z i,k,j,.int i t,q⟩
def sP(X:Cx)(r:V->bS Int->bS Int->Hp->VK->Prop):Prop:=
 ∀(a:bq) (s:bN) (b:St) (H:Hp) (x:V) (v d c:a7) (lo W:bS Int) (e:U) (Q:VK),Inv X a b H s->RelV x v->s.heap.IsSliceOf e d c .none->IsPart d lo->IsPart c W->r x lo W H Q->
  ∃T id,typeLookup (.type T) "__getitem__"=pure (Z (.builtin id))/\s.TypeIs v T/\wpAny X.md X.A (getItem v (.ref e)) (EP X a b Q) X.xe s
def tSl(r:V->bS Int->bS Int->Hp->VK->Prop)(R:TE)(P N:TO):TE:=λa H Q=>R a H λx d=>P a d λl c=>N a c λu b=>r x l u b Q
def IY(B:sP X r)(E:PE X e R)(C:PO X lo P)(z:PO X W N):PE X (.Subscript e (.Slice lo W aJ p2) pos) (tSl r R P N):=by
 intro a s c H Q I h;refine Subscript_ (aC (E a s c H _ I h) λv m d=>?_);obtain⟨x,H1,I1,n,t⟩:=d;refine wpAny_Slice (aC (C a m c H1 _ I1 t) λi k d=>?_);refine gR d λl H2 L y p=>?_;refine aC (z a k c H2 _ L p) λg f d=>?_;refine gR d λu j J w o=>?_;rw[evalPart_none];refine cv ?_;have G:Inv X a c j {f with heap:=f.heap.push {cls:=.type "slice",data:=.fields #[i,g,.none]}}:=J.kept λb ob q=>Yc _ q;obtain⟨T,id,F,A,D⟩:=B a {f with heap:=f.heap.push {cls:=.type "slice",data:=.fields #[i,g,.none]}} c j x v i g l u f.heap.objs.size Q G n (Heap.IsSliceOf.new ..) y w o;exact tail_any A F D QU
def oq(a:O V)(lo W:bS Int):O V:=(a.drop (HT.cK a.length 0 lo)).take (HT.cK a.length a.length W-HT.cK a.length 0 lo)
def GD(a:O V)(lo W:bS Int):(oq a lo W).length<=a.length:=by
 unfold oq
 grind
def Vz(K:ah):V->bS Int->bS Int->Hp->VK->Prop:=λx lo W H Q=>∃a b,x=.ref a/\az K H a b/\
 ¬(HT.cK b.length 0 lo=0/\HT.cK b.length b.length W=b.length)/\∀p,H p=aJ->Q (.ref p) (upd H p (.tup (oq b lo W)))
def ZhZ:sP X (Vz X.K):=by
 intro e s n H x v p o lo W t Q I g l i h z;refine dE z λa d y k w q=>?_;subst y;cases g;refine cm (I.tuple k) λm r f j=>?_;have c:m.toArray.size=d.length:=by exact Yq▸r.length.symm
 refine⟨"tuple",_,PyProof.Rows.slot_tuple_getitem.lookup,f.typeIs,HT.Zam f l i h (by rwa[c]) ?_ (by rwa[c])⟩;rw[c];refine⟨.ref s.heap.objs.size,_,I.laid (λ b u=>Yc _) (Yd _) ?_,rfl,q _ (I.aw.fresh (Yd _))⟩;exact⟨Yy (GD d lo W) j,_,(r.drop (HT.cK d.length 0 lo)).take (HT.cK d.length d.length W-HT.cK d.length 0 lo),nS.new _ _⟩
def Zjp(K:ah):R2:=λx y H Q=>∃a b d c,x=.ref a/\y=.ref b/\az K H a d/\az K H b c/\d≠[]/\d.length+c.length<=sizeLine/\
 (c=[]->Q (.ref a) H)/\(c≠[]->∀p,H p=aJ->Q (.ref p) (upd H p (.tup (d++c))))
theorem Vals.JY(r:Vals xs us):us=[]↔xs=[]:=by
 cases r with
 |nil=>simp
 |cons _ _=>simp
def RS:cV X (binaryOp .Add) (Zjp X.K):=by
 rintro e s o H x y v u Q I g f ⟨a,b,q,p,rfl,rfl,n,m,l,t,i,h⟩;cases g;cases f;refine cm (I.tuple n) λB d k _=>?_;refine cm (I.tuple m) λA c j _=>?_;refine HT.Zgv k j (λz=>l (d.JY.mp z)) (λz=>⟨.ref a,H,I,rfl,i (c.JY.mp z)⟩) (λz=>⟨.ref s.heap.objs.size,_,I.laid (λ b r=>Yc _) (Yd _) ?_,rfl,h (λw=>z (c.JY.mpr w)) _ (I.aw.fresh (Yd _))⟩) (by rwa[←d.length,←c.length]);exact⟨by rwa[Yj],_,d.append c,nS.new _ _⟩
end
def kT(n:Nat)(i:Int):bS Nat:=if 0<=i then(if i<n then Z i.toNat else aJ) else if-(n:Int)<=i then Z (i+n).toNat else aJ
def dY{α:Type}(a:O α)(i:Int):bS α:=(kT a.length i).bind λj=>a[j]?
def JZ(h:kT n i=Z j):seqIndex? i n=Z j/\j<n/\-(n:Int)<=i/\i<n:=by
 unfold kT at h;by_cases b:0<=i
 ·rw[bC b] at h;by_cases a:i<n
  ·rw[bC a] at h;have e:=Yp h;exact⟨by rw[Ah b a,e],QO,QO,a⟩
  ·simp_all
 ·rw[bF b] at h;by_cases a:-(n:Int)<=i
  ·rw[bC a] at h;have e:=Yp h;exact⟨by rw[zW QO a,e],QO,a,QO⟩
  ·simp_all
theorem J_(h:dY xs i=Z v):∃j,seqIndex? i xs.length=Z j/\xs[j]?=Z v/\j<xs.length/\-(xs.length:Int)<=i/\i<xs.length:=by
 unfold dY at h;cases e:kT xs.length i with
 |none=>simp_all
 |some j=>
  refine eJ (JZ e) λd c b a=>?_
  simp_all
def iz{j:Nat}(h:xs[j]?=Z v):dY xs (j:Int)=Z v:=by
 have e:kT xs.length (j:Int)=Z j:=by
  unfold kT
  grind
 unfold dY;rwa[e]
def Ze4(a:O α)(v:α):dY (a++[v]) (-1)=Z v:=by
 have b:(a++[v]).length=a.length+1:=QS
 have e:kT (a++[v]).length (-1)=Z a.length:=by
  unfold kT
  grind
 unfold dY
 simp_all
def RT(b:cH):Prop:=∀o i,subscripted b bg o i=operate [o,i] (getItem o i)
def jT(X:Cx)(r:R2):Prop:=
 ∀(c a:cH) (b:bq) (s:bN) (d:St) (H:Hp) (x y:V) (v u:a7) (Q:VK),Inv X b d H s->RelV x v->RelV y u->r x y H Q->
  subscripted a bg v u=operate [v,u] (getItem v u)->wpAny X.md X.A (subscriptTail c a v u) (EP X b d Q) X.xe s
def Xq(X:Cx)(id:String)(r:V->O V->Hp->VK->Prop):Prop:=
 ∀(a:bq) (s:bN) (b:St) (H:Hp) (x:V) (c:O V) (v:a7) (d:O a7) (Q:VK),Inv X a b H s->RelV x v->Vals c d->r x c H Q->
  wpAny X.md X.A (call (.builtin id) (v::d)) (EP X a b Q) X.xe s
section
variable {X:Cx}{a b:cH}
def jT.or(h:jT X r)(l:jT X k):jT X (λx y H Q=>r x y H Q\/k x y H Q):=by
 intro c d e s f H x y v u Q I i g q j;rcases q with q|q;·exact h c d e s f H x y v u Q I i g q j
 ·exact l c d e s f H x y v u Q I i g q j
def UE(l:jT X r)(n:PE X a f)(m:PE X b e)(k:RT b):PE X (.Subscript a b pos) (ku r f e):=by
 intro c s d H Q I h;exact Subscript_ (LM n m I h λv u g x y p o j i q=>l a b c g d p x y v u Q o j i q (k _ _))
inductive S9(K:ah)(x:V)(y:V)(H:Hp)(Q:VK):Prop
 |mk (p c i v) (h:x=.ref p) (f:y=.int i) (g:aq K H p c) (d:dY c i=Z v) (e:Q v H):S9 K x y H Q
def xw(K:ah):R2:=λx y H Q=>S9 K x y H Q
inductive S_(K:ah)(x:V)(y:V)(H:Hp)(Q:VK):Prop
 |mk (p c i v) (h:x=.ref p) (f:y=.int i) (g:az K H p c) (d:dY c i=Z v) (e:Q v H):S_ K x y H Q
def CW(K:ah):R2:=λx y H Q=>S_ K x y H Q
inductive Ta(x:V)(y:V)(H:Hp)(Q:VK):Prop
 |mk (z i c) (h:x=.str z) (f:y=.int i) (g:z.length<=sizeLine) (d:dY z.cps.toList i=Z c) (e:Q (.str ⟨#[c]⟩) H):Ta x y H Q
def VA:R2:=λx y H Q=>Ta x y H Q
def Ka:jT X (xw X.K):=by
 intro d e c s o H x y v u Q I B A h l;obtain⟨p,N,i,z,rfl,rfl,D,E,q⟩:=h;cases B;obtain⟨t,rfl⟩:=A;refine cm (I.list D) λL r f P=>?_;obtain⟨j,k,J,W,G,F⟩:=J_ E;obtain⟨w,n,C⟩:=r.get J;have T:=r.length;have R:=uz;have fin:EP X c o Q w s:=⟨z,H,I,C,q⟩;by_cases m:0<=i
 ·have g:i.toNat=j:=by
   rw[Ah m F] at k;exact Yp k
  exact item_listR f.isList m QO (by rw[g];simpa using n) fin l
 ·have g:(i+(L.toArray.size:Int)).toNat=j:=by
   rw[zW QO G] at k
   simp_all
  exact subscriptTail_builtinR (x:=w) f.isList.typeIs slot_list_getitem.lookup
   (wpAny_getItem_list_neg f.isList QO (by rw[Yq]<;>omega) QO (by rw[g];simpa using n) ⟨rfl,fin⟩) l
def Tb:jT X (CW X.K):=by
 intro c d f s C H x y v u Q I k g h m;obtain⟨p,D,i,z,rfl,rfl,n,o,q⟩:=h;cases k;obtain⟨t,rfl⟩:=g;refine cm (I.tuple n) λP r e E=>?_;obtain⟨j,N,A,L,J,G⟩:=J_ o;obtain⟨w,B,l⟩:=r.get A;have F:=uz;exact subscriptTail_builtinR e.typeIs slot_tuple_getitem.lookup
  (getItem_tuple e QO QO (by rwa[Yq,←r.length]) (by simpa using B) ⟨rfl,⟨z,H,I,l,q⟩⟩) m
def zu:jT X VA:=by
 intro d e f s A H x y v u Q I l k h m;obtain⟨z,i,c,rfl,rfl,C,o,q⟩:=h;obtain⟨t,rfl⟩:=l;obtain⟨B,rfl⟩:=k;refine iy (J_ o) λj g w E r p=>?_;have n:z.cps.toList.length=z.length:=by simp[Str.length]
 rw[n] at g r p;have D:=uz;exact tail_any (sU s z t) slot_str_getitem.lookup (getItem_str (by
  rw[(jb QO),(jb QO),zS]) (by rw[g];simpa using w) ⟨.str ⟨#[c]⟩,H,I.tok _,⟨_,rfl⟩,q⟩) m
def MJ(K:ah):R2:=λx y H Q=>xw K x y H Q\/CW K x y H Q\/VA x y H Q
def Zh0:jT X (MJ X.K):=Ka.or (Tb.or zu)
def Zc8(c:O a7)(n j:Nat)(u:a7):Obj.mapSeq (·.setIfInBounds j u) {cls:=.type "list",data:=.seq c.toArray n}={cls:=.type "list",data:=.seq (c.set j u).toArray n}:=by
 simp[Obj.mapSeq]
def Inv.lst(I:Inv X pins σ H s)(h:H p=Z (.lst xs)):
  ∃(c:O a7) (n:Nat),Vals xs c/\s.heap.get? p=Z {cls:=.type "list",data:=.seq c.toArray n}/\xs.length<=sizeLine:=by
 obtain⟨z,c,n,r,e⟩:=I.aw p _ h
 simp_all
def Inv.Zh1{d:bq}{j:St}{H:Hp}{s:bN}{p:U}{m g:O V}{l c:O a7}{n i:Nat}{f:Obj->Obj}(I:Inv X d j H s)(h:H p=Z (.lst m))
  (v:s.heap.get? p=Z {cls:=.type "list",data:=.seq l.toArray n})(k:f {cls:=.type "list",data:=.seq l.toArray n}={cls:=.type "list",data:=.seq c.toArray i})(r:Vals g c)(o:g.length<=sizeLine)(t:Nat):
  Inv X d j (upd H p (.lst g)) {s with heap:=s.heap.update p f,toks:=t}:=by
 have e:(s.heap.update p f).get? p=Z {cls:=.type "list",data:=.seq c.toArray i}:=by
  rw[Wq f v (by rw[k]<;>rfl),k]
 refine I.write (by rw[h];trivial) (.inl rfl) (λb u w q=>(Wa _ _ (lp w)).trans q) ⟨_,e⟩ ?_;exact⟨o,c,i,r,e⟩
def Zjq:V->V->V->Hp->(Hp->Prop)->Prop:=λo i v H Q=>∃p c k j,o=.ref p/\i=.int k/\H p=Z (.lst c)/\kT c.length k=Z j/\Q (upd H p (.lst (c.set j v)))
def set_list:uU X Zjq:=by
 intro c s z H o i v G J u Q I C D B T;refine ju T λp A k j R P f F q=>?_;subst R;subst P;cases C;obtain⟨t,rfl⟩:=D;refine gR (I.lst f) λx n r d E=>?_;obtain⟨m,N,l,h⟩:=JZ F;have g:=r.length;have L:=uz;have y:Inv X c z (upd H p (.lst (A.set j v))) {s with heap:=s.heap.update p (Obj.mapSeq (·.setIfInBounds j u))}:=
  I.Zh1 f d (Zc8 x n j u) (r.set B j) (by rw[W8];exact E) s.toks
 by_cases w:0<=k
 ·have e:k.toNat=j:=by
   rw[Ah w h] at m
   grind
  exact PySem.W.ki_setAt d w QO (by rw[Yq,←g];exact h) (by rw[e];exact⟨_,y,q⟩)
 ·have e:(k+(x.toArray.size:Int)).toNat=j:=by
   rw[zW QO l] at m
   grind
  exact PySem.W.ki_setBack d QO (by rw[Yq,←g];exact l) QO (by exact e▸⟨_,y,q⟩)
theorem ZbG(c d:bS Int)(n:Nat):(sliceBounds c d aJ n).1=((HT.cK n 0 c:Nat):Int)/\(sliceBounds c d aJ n).2.1=((HT.cK n n d:Nat):Int)/\(sliceBounds c d aJ n).2.2=1:=by
 refine⟨?_,?_,rfl⟩
 ·cases c with
  |none=>rfl
  |some i=>
   simp[sliceBounds,HT.cK]
   grind
 ·cases d with
  |none=>rfl
  |some i=>
   simp[sliceBounds,HT.cK]
   grind
def Zbb(c:O a7)(d e:bS Int):slicePick c.toArray d e aJ=((c.drop (HT.cK c.length 0 d)).take (HT.cK c.length c.length e-HT.cK c.length 0 d)).toArray:=by
 refine c9 (ZbG d e c.toArray.size) λh g f=>?_;unfold slicePick;rw[h,g,f];simp only[sliceRange_one,pick_run]<;>rfl
def Zkd(K:ah):V->bS Int->bS Int->Hp->VK->Prop:=λx lo d H Q=>∃a c,x=.ref a/\aq K H a c/\∀p,H p=aJ->Q (.ref p) (upd H p (.lst (oq c lo d)))
def Zgy:sP X (Zkd X.K):=by
 intro e s n H x v p o lo g t Q I h m j i z;refine gR z λa c y l q=>?_;subst y;cases h;refine cm (I.list l) λw r f k=>?_;have d:=r.length;refine⟨"list",_,slot_list_getitem.lookup,f.isList.typeIs,wpAny_getItem_list_slice f.isList m j i .none QS ?_ (by rw[Yq]<;>omega)⟩;rw[Zbb,←d];refine⟨.ref s.heap.objs.size,_,I.laid (λ b u=>Yc _) (Yd _) ?_,rfl,q _ (I.aw.fresh (Yd _))⟩;exact⟨Yy (GD c lo g) k,_,0,(r.drop (HT.cK c.length 0 lo)).take (HT.cK c.length c.length g-HT.cK c.length 0 lo),Ys _ rfl⟩
def kh:V->cu
 |.ay=>af
 |.bl _=>af
 |.int _=>af
 |.str _=>af
 |_=>bg
def jU:V->V->cu
 |.ay,.ay=>af
 |.bl a,.bl b=>a==b
 |.bl a,.int b=>(if a then 1 else 0)==b
 |.int a,.bl b=>a==(if b then 1 else 0)
 |.int a,.int b=>a==b
 |.str a,.str b=>a==b
 |_,_=>bg
theorem KH(e:RelV y u)(c:RelV x v)(g:kh y=af)(f:kh x=af):SeqAt.EqAt A s u v (jU y x):=by
 cases y with
 |ay=>
  cases e;cases x with
  |ay=>cases c;exact YW _
  |bl b=>cases c;exact SeqAt.EqAt.none_bool b
  |int b=>obtain⟨t,rfl⟩:=c;exact SeqAt.EqAt.none_int b t
  |str b=>obtain⟨t,rfl⟩:=c;exact SeqAt.EqAt.none_str b t
  |_=>exact absurd (f) Yl
 |bl a=>
  cases e;cases x with
  |ay=>cases c;exact SeqAt.EqAt.bool_none a
  |bl b=>cases c;exact SeqAt.EqAt.bool_bool a b
  |int b=>obtain⟨t,rfl⟩:=c;exact SeqAt.EqAt.bool_int a b t
  |str b=>obtain⟨t,rfl⟩:=c;exact SeqAt.EqAt.bool_str a b t
  |_=>exact absurd (f) Yl
 |int a=>
  obtain⟨d,rfl⟩:=e;cases x with
  |ay=>cases c;exact SeqAt.EqAt.int_none a d
  |bl b=>cases c;exact SeqAt.EqAt.int_bool a d b
  |int b=>obtain⟨t,rfl⟩:=c;exact vt a d b t
  |str b=>obtain⟨t,rfl⟩:=c;exact QbF a d b t
  |_=>exact absurd (f) Yl
 |str a=>
  obtain⟨d,rfl⟩:=e;cases x with
  |ay=>cases c;exact SeqAt.EqAt.str_none a d
  |bl b=>cases c;exact SeqAt.EqAt.str_bool a d b
  |int b=>obtain⟨t,rfl⟩:=c;exact QbE a d b t
  |str b=>obtain⟨t,rfl⟩:=c;exact SeqAt.EqAt.str_str a d b t
  |_=>exact absurd (f) Yl
 |_=>exact absurd (g) Yl
def jw(x:V)(u:a7):cu:=match u with
 |.none=>jU .ay x
 |.bool b=>jU (.bl b) x
 |.int i _=>jU (.int i) x
 |.str z _=>jU (.str z) x
 |_=>bg
theorem Tc(r:RelV y u)(f:kh y=af):jw x u=jU y x:=by
 cases y with
 |ay=>cases r;rfl
 |bl b=>cases r;rfl
 |int i=>obtain⟨t,rfl⟩:=r;rfl
 |str z=>obtain⟨t,rfl⟩:=r;rfl
 |_=>exact absurd (f) Yl
theorem zb{x:V}:∀{c:O V} {d:O a7},Vals c d->c.all kh=af->d.any (jw x)=c.any λy=>jU y x
 |_,_,.nil,_=>rfl
 |y::c,u::d,.cons r t,f=>by
  rw[Jq,Wc] at f;rw[Jh,Jh,Tc r f.1,zb t f.2]
theorem y_(i:RelV x v)(k:kh x=af):∀{d:O V} {e:O a7},Vals d e->d.all kh=af->∀u∈e,SeqAt.EqAt A s u v (jw x u):=by
 intro d e h;induction h with
 |nil=>intro _ u c;cases c
 |cons r t j=>
  intro f g c;rw[Jq,Wc] at f;rcases Ym.mp c with rfl|c;·rw[Tc r f.1];exact KH r i f.1 k
  ·exact j f.2 g c
def gT(x:V)(c:O V):cu:=c.any λy=>jU y x
def Al(K:ah)(d:cu):R2:=λx y H Q=>∃p c,y=.ref p/\(aq K H p c\/az K H p c)/\kh x=af/\c.all kh=af/\Q (.bl (if d then !gT x c else gT x c)) H
def Zeb:cV X (compareOp .In) (Al X.K bg):=by
 intro h s l H x y v u Q I g j o;refine vj o λp m n c i fs q=>?_;subst n;cases j;rcases c with c|c
 ·refine cm (I.list c) λd r e k=>?_;refine X8 (jw x) e.isList (λw f=>y_ g i r fs w (by simpa using f)) ⟨.bl _,H,I,rfl,?_⟩;rw[show d.toArray.any (jw x)=d.any (jw x) by simp,zb r fs];exact q
 ·refine cm (I.tuple c) λd r e k=>?_;refine SeqAt.in_tupleAt (jw x) e (λw f=>y_ g i r fs w (by simpa using f)) ⟨.bl _,H,I,rfl,?_⟩;rw[show d.toArray.any (jw x)=d.any (jw x) by simp,zb r fs];exact q
def ZbH:cV X (compareOp .NotIn) (Al X.K af):=by
 intro h s l H x y v u Q I g j o;refine vj o λp m n c i fs q=>?_;subst n;cases j;rcases c with c|c
 ·refine cm (I.list c) λd r e k=>?_;refine US (jw x) e.isList (λw f=>y_ g i r fs w (by simpa using f)) ⟨.bl _,H,I,rfl,?_⟩;rw[show d.toArray.any (jw x)=d.any (jw x) by simp,zb r fs];exact q
 ·refine cm (I.tuple c) λd r e k=>?_;refine SeqAt.notIn_tupleAt (jw x) e (λw f=>y_ g i r fs w (by simpa using f)) ⟨.bl _,H,I,rfl,?_⟩;rw[show d.toArray.any (jw x)=d.any (jw x) by simp,zb r fs];exact q
def OQ:dz X (.builtin "len") (λh H Q=>∃p d,h=[.ref p]/\(aq X.K H p d\/az X.K H p d)/\Q (.int d.length) H):=by
 rintro i s m H h n Q I r ⟨p,d,rfl,e,q⟩;obtain⟨u,rfl,j⟩:=vals1 r;cases j;have o:=uz;rcases e with e|e
 ·obtain⟨l,f,g,k⟩:=I.list e;have c:=f.length;exact Calls.call_len_list g.isList (by simp only[Yq]<;>omega) ⟨.int d.length,H,I.tok _,⟨s.toks+1,by rw[Yq,c]⟩,q⟩
 ·obtain⟨l,f,g,k⟩:=I.tuple e;have c:=f.length;exact len_tuple g (by simp only[Yq]<;>omega) ⟨.int d.length,H,I.tok _,⟨s.toks+1,by rw[Yq,c]⟩,q⟩
def ZbI:dz X (.builtin "len") (λc H Q=>∃z,c=[.str z]/\z.length<=sizeLine/\Q (.int z.length) H):=by
 rintro d s e H c f Q I r ⟨z,rfl,g,q⟩;obtain⟨u,rfl,t,rfl⟩:=vals1 r;have h:=uz;exact len_str QO ⟨.int z.length,H,I.tok _,⟨_,rfl⟩,q⟩
def wk:dz X (.type "tuple") (λk H Q=>∃p c,k=[.ref p]/\((aq X.K H p c/\∀l,H l=aJ->Q (.ref l) (upd H l (.tup c)))\/(az X.K H p c/\Q (.ref p) H))):=by
 rintro d s v H k z Q I r ⟨p,c,rfl,h⟩;obtain⟨u,rfl,w⟩:=vals1 r;cases w;rcases h with⟨g,q⟩|⟨g,q⟩
 ·obtain⟨j,e,f,m⟩:=I.list g;have n:=e.length;refine call_tuple_list f.isList (λi x=>?_) (by simp only[Yq]<;>omega);have t:=I.kept (t':=s.toks) x;have y:Inv X d v (upd H i.objs.size (.tup c)) {s with heap:=i.push {cls:=.type "tuple",data:=.seq j.toArray}}:=
   t.laid (λ b o=>Yc _) (Yd _) (show cX X.prog X.w _ _ _ (.tup c) from⟨m,j,e,nS.new _ _⟩)
  exact⟨.ref i.objs.size,_,y,rfl,q _ (t.aw.fresh (Yd _))⟩
 ·obtain⟨j,e,f,m⟩:=I.tuple g;exact call_tuple_same f ⟨.ref p,H,I,rfl,q⟩
def MK(K:ah)(T:String)(x:V)(H:Hp):Prop:=match x with
 |.str _=>T="str"
 |.int _=>T="int"
 |.ref p=>(T="list"/\∃e,aq K H p e)\/(T="tuple"/\∃o,K.lookup p=Z o/\o.cls=.type "tuple"/\o.dict=aJ)\/
   (T="dict"/\((∃d,H p=Z (.dK d))\/∃d,H p=Z (.dT d)))\/(T="set"/\∃c n,H p=Z (.set c n))
 |_=>False
theorem Td(I:Inv X pins σ H s)(r:RelV x v)(h:MK X.K T x H):
  s.TypeIs v T/\∀a,v=.ref a->∃m,s.heap.get? a=Z m/\m.dict=aJ:=by
 cases x with
 |str z=>
  obtain⟨t,rfl⟩:=r;cases(show T="str" from h);exact⟨sU s z t,λ_ e=>nomatch e⟩
 |int i=>
  obtain⟨t,rfl⟩:=r;cases(show T="int" from h);exact⟨typeIs_int s i t,λ_ e=>nomatch e⟩
 |ref p=>
  cases r;rcases h with⟨rfl,w,q⟩|⟨rfl,o,f,u,hd⟩|⟨rfl,f⟩|⟨rfl,d,n,f⟩
  ·refine cm (I.list q) λy _ l _=>?_;refine⟨l.isList.typeIs,λa e=>?_⟩;obtain⟨o,n,e,c,hd,_⟩:=l
   grind
  ·refine⟨⟨o,I.cO p o f,u⟩,λa e=>?_⟩;cases e;exact⟨o,I.cO _ o f,hd⟩
  ·have z:∃o,s.heap.get? p=Z o/\o.ExactDict:=by
    rcases f with⟨j,f⟩|⟨j,f⟩
    ·obtain⟨_,_,_,_,o,_,_,e,g,_⟩:=I.aw p _ f;exact⟨o,e,g⟩
    ·obtain⟨_,_,_,_,o,_,_,e,g,_⟩:=I.aw p _ f;exact⟨o,e,g⟩
   refine bo z λo e g=>?_;refine⟨⟨o,e,g.1⟩,λa k=>?_⟩;cases k;exact⟨o,e,g.2.1⟩
  ·refine CF (I.aw p _ f) λo _ _ _ e g _=>?_;refine⟨⟨o,e,g.1⟩,λa k=>?_⟩;cases k;exact⟨o,e,g.2.1⟩
 |_=>exact False.elim h
def LQ(K:ah)(T:String)(r:V->O V->Hp->VK->Prop)(N:TE):TE:=λd H Q=>N d H λx c=>MK K T x c/\r x [] c Q
def Am(K:ah)(T:String)(r:V->O V->Hp->VK->Prop)(N:TE)(t:TA):TE:=λc H Q=>N c H λx d=>MK K T x d/\t c d λe f=>r x e f Q
variable {o e:cH}{L:O cH}{N:TE}{t:TA}{W:ar}{R P:Pos}{T id:String}{r:V->O V->Hp->VK->Prop}
def KI(p:PlainAttrs T)(d:Slot T W id)(z:typeOf (.builtin id)=pure (.type "method_descriptor"))(u:Xq X id r)(q:PE X o N)
  (l:attributeBase o W X.env (eval o X.env)=eval o X.env:=by rfl)(k:(R.endLine==P.line)=af:=by rfl):PE X (.Call (.Attribute o W R) [] [] P) (LQ X.K T r N):=by
 intro c s f H Q I h;refine Ep l k (aC (q c s f H _ I h) λv m j=>?_);obtain⟨x,A,i,g,ty,n⟩:=j;obtain⟨y,w⟩:=Td i g ty;exact⟨T,id,p,d,z,y,w,nV rfl (NO (u c m f A x [] v [] Q i g .nil n))⟩
def kJ(B:PlainAttrs T)(d:Slot T W id)(ML:typeOf (.builtin id)=pure (.type "method_descriptor"))(E:Xq X id r)(D:PE X o N)(F:PA X (e::L) t)
  (q:attributeBase o W X.env (eval o X.env)=eval o X.env:=by rfl)
  (LR:((backTo P (starEach (e::L) X.env)).all (λx=>!x.1)&&(backToKw P (keywordEach [] X.env)).all (λx=>x.1.isSome)
   &&decide ((e::L).length+([]:O Keyword).length+(if([]:O Keyword).isEmpty then 0 else 1)<30))=af:=by rfl)
  (p:(R.endLine==P.line)=af:=by rfl)(C:jv X e L:=by rfl)(g:jR X P L:=by rfl):
  PE X (.Call (.Attribute o W R) (e::L) [] P) (Am X.K T r N t):=by
 intro c s f H Q I h;refine J6 q LR p rfl (aC (D c s f H _ I h) λv w l=>?_);obtain⟨x,H1,k,i,ty,A⟩:=l;obtain⟨J,G⟩:=Td k i ty;refine⟨T,id,B,d,ML,J,G,?_⟩;have j:=F P c w f H1 _ k A;rw[C] at j⊢;exact nV (by show(bg||(backTo P (starEach L X.env)).any (·.1))=bg;rw[g]<;>rfl) (rj (aC j λn u ⟨m,H2,I2,y,z⟩=>E c u f H2 x m v n Q I2 i y z))
end
def lQ(X:Cx)(id:String)(r:V->O V->Hp->VK->Prop):Prop:=
 ∀(a:bq) (s:bN) (b:St) (H:Hp) (x:V) (c:O V) (v:a7) (d:O a7) (Q:VK),Inv X a b H s->RelV x v->Vals c d->r x c H Q->
  wpAny X.md X.A (call (.builtin id) (v::d)) (EP X a b Q) X.xe s
theorem Vals.one:∀{x:V} {a:O a7},Vals [x] a->∃u,a=[u]/\RelV x u:=by
 intro x a h;cases h with
 |cons r t=>
  cases t;exact⟨_,rfl,r⟩
theorem Vals.zero:∀{a:O a7},Vals [] a->a=[]
 |_,.nil=>rfl
theorem Vals.dropLast(h:Vals xs us):Vals xs.dropLast us.dropLast:=by
 induction h with
 |nil=>exact .nil
 |cons r t a=>
  cases t with
  |nil=>exact .nil
  |cons q b=>exact .cons r a
theorem Vals.eraseIdx:∀{a:O V} {b:O a7} (i:Nat),Vals a b->Vals (a.eraseIdx i) (b.eraseIdx i)
 |_,_,_,.nil=>.nil
 |_,_,0,.cons _ t=>t
 |_,_,i+1,.cons r t=>.cons r (Vals.eraseIdx i t)
theorem Vals.reverse(h:Vals xs us):Vals xs.reverse us.reverse:=by
 induction h with
 |nil=>exact .nil
 |cons r t a=>rw[Xo,Xo];exact Vals.append a (.cons r .nil)
section
variable {X:Cx}{W:bq}{σ:St}{H:Hp}{s:bN}{l:U}{xs T:O V}
def Inv.xx{b a:O a7}{n:Nat}{f:dq a7->dq a7}{c:Nat}(I:Inv X W σ H s)(k:H l=Z (.lst xs))
  (e:s.heap.get? l=Z {cls:=.type "list",data:=.seq b.toArray n})(i:f b.toArray=a.toArray)(g:Vals T a)(d:T.length<=sizeLine):
  Inv X W σ (upd H l (.lst T)) {s with heap:=s.heap.update l (Obj.mapSeq f),toks:=c}:=by
 have q:=PySem.IsL.update e f;rw[i] at q;refine I.write (by rw[k];exact trivial) (.inl rfl) (λm u j h=>(Wa s.heap (Obj.mapSeq f) (lp j)).trans h) ⟨_,q⟩ ?_;exact⟨d,a,_,g,q⟩
def Inv.Zke(I:Inv X W σ H s)(c:Vals T a)(b:T.length<=sizeLine):
  Inv X W σ (upd H s.heap.objs.size (.lst T)) {s with heap:=s.heap.push {cls:=.type "list",data:=.seq a.toArray},toks:=d}:=
 I.laid (λ _ _=>Yc _) (Yd _) ⟨b,a,0,c,Ys _ rfl⟩
def Inv.fresh(I:Inv X W σ H s):H s.heap.objs.size=aJ:=I.aw.fresh (Yd _)
def Inv.qK(I:Inv X W σ H s)(b:H l=Z (.lst xs)):xs.length<=sizeLine/\∃(a:O a7) (n:Nat),Vals xs a/\xs.length=a.length/\s.heap.get? l=Z {cls:=.type "list",data:=.seq a.toArray n}:=by
 obtain⟨z,a,n,r,e⟩:=I.aw l _ b;exact⟨z,a,n,r,r.length,e⟩
def Ze5(h:n<=sizeLine):Builtin.List.listTooLong n=bg:=by
 exact jb (Nat.not_lt_of_le h)
end
def Zgz:V->O V->Hp->VK->Prop:=λx b H Q=>∃l a y,x=.ref l/\b=[y]/\H l=Z (.lst a)/\a.length<sizeLine/\Q .ay (upd H l (.lst (a++[y])))
def yY:lQ X "list.append" Zgz:=by
 intro a s i H x k v m Q I c d h;refine kW h λl j y w t b o q=>?_;subst w;subst t;cases c;obtain⟨u,rfl,f⟩:=d.one;obtain⟨z,g,n,r,p,e⟩:=I.qK b;refine oE F.slot_list_append ⟨_,e,rfl⟩ F.entry_list_append (F.args_list_append_2 _ _) (PySem.list_append l g.toArray n u (by rw[Yq];omega)) ⟨e,?_⟩;refine⟨.ay,_,I.xx b e QS (r.append (.cons f .nil)) ?_,rfl,q⟩
 grind
def ZgA:V->O V->Hp->VK->Prop:=λx d H Q=>∃l b c a,x=.ref l/\d=[.ref b]/\H l=Z (.lst c)/\H b=Z (.lst a)/\c.length+a.length<=sizeLine/\Q .ay (upd H l (.lst (c++a)))
def Zec:lQ X "list.extend" ZgA:=by
 intro g s w H x D v E Q I i j P;refine t5 P λl b B y N L h p G q=>?_;subst N;subst L;cases i;obtain⟨u,rfl,k⟩:=j.one;cases k;obtain⟨z,a,n,r,J,e⟩:=I.qK h;obtain⟨A,d,o,m,C,t⟩:=I.qK p;have c:a.toArray.size+d.toArray.size<=sizeLine:=by rw[Yq,Yq];omega
 have f:¬(!a.toArray.isEmpty&&Builtin.List.listTooLong (a.toArray.size+d.toArray.size))=af:=by
  rw[Ze5 c,Bool.and_false]
  grind
 refine oE F.slot_list_extend ⟨_,e,rfl⟩ F.entry_list_extend (F.args_list_extend_2 _ _)
  (AutoSeq1.list_extend_list_list_0 l a.toArray n b d.toArray o f (by rw[Yq];exact Nat.le_of_add_le_add_right (Nat.le_add_right_of_le c)) (Nat.le_succ_of_le c)) ⟨e,t,?_⟩
 refine⟨.ay,_,I.xx h e QS (r.append m) ?_,rfl,q⟩
 grind
def Zkf:V->O V->Hp->VK->Prop:=λx b H Q=>∃l a y,x=.ref l/\b=[]/\H l=Z (.lst a)/\a[a.length-1]?=Z y/\Q y (upd H l (.lst a.dropLast))
def Zh3:lQ X "list.pop" Zkf:=by
 intro c s k H x o v p Q I f g C;refine kW C λl m y B A d i q=>?_;subst B;subst A;cases f;have j:=g.zero;subst j;obtain⟨z,b,n,r,w,e⟩:=I.qK d;refine bo (r.get i) λu t h=>?_;have a:b.toArray[b.toArray.size-1]?=Z u:=by
  grind
 refine oE Zh ⟨_,e,rfl⟩ X3 (F.args_list_pop_1 _) (MeetsSeq.list_pop_last l b.toArray n u a (by rw[Yq];omega)) ⟨e,?_⟩;refine⟨y,_,I.xx d e ?_ r.dropLast ?_,h,q⟩;·grind
 ·grind
def Zh4:V->O V->Hp->VK->Prop:=λx b H Q=>∃l a i k y,x=.ref l/\b=[.int i]/\H l=Z (.lst a)/\-(2^63)<=i/\i<2^63/\seqIndex? i a.length=Z k/\a[k]?=Z y/\Q y (upd H l (.lst (a.eraseIdx k)))
def Ze6:lQ X "list.pop" Zh4:=by
 rintro a s A H x C v D Q I c d ⟨l,B,i,k,y,rfl,rfl,b,o,m,G,h,q⟩;cases c;obtain⟨u,rfl,f⟩:=d.one;obtain⟨t,rfl⟩:=f;obtain⟨z,p,n,r,j,e⟩:=I.qK b;obtain⟨w,E,g⟩:=r.get h;refine oE Zh ⟨_,e,rfl⟩ X3 (F.args_list_pop_2 _ _)
  (MeetsSeq.list_pop_at l p.toArray n i t k w (fitsIndex_both o m) (by rwa[Yq,←j]) (by rwa[←Ju]) (by rw[Yq];omega)) ⟨e,?_⟩
 refine⟨y,_,I.xx b e ?_ (r.eraseIdx k) ?_,g,q⟩;·grind
 ·grind
def Ze7:V->O V->Hp->VK->Prop:=λx b H Q=>∃l a,x=.ref l/\b=[]/\H l=Z (.lst a)/\Q .ay (upd H l (.lst a.reverse))
def Zc9:lQ X "list.reverse" Ze7:=by
 intro a s h H x j v k Q I c d t;refine dE t λl i p o b q=>?_;subst p;subst o;cases c;have g:=d.zero;subst g;obtain⟨z,f,n,r,m,e⟩:=I.qK b;refine oE F.slot_list_reverse ⟨_,e,rfl⟩ F.entry_list_reverse (F.args_list_reverse_1 _) (AutoSeq1.list_reverse_list_0 l f.toArray n (by rw[Yq];omega)) ⟨e,⟨.ay,_,I.xx b e QS r.reverse ?_,rfl,q⟩⟩
 simp_all
def Zh5:V->O V->Hp->VK->Prop:=λx b H Q=>∃l a,x=.ref l/\b=[]/\H l=Z (.lst a)/\Q .ay (upd H l (.lst []))
def Ze8:lQ X "list.clear" Zh5:=by
 rintro a s h H x j v k Q I c d ⟨l,i,rfl,rfl,b,q⟩;cases c;have g:=d.zero;subst g;obtain⟨z,f,n,r,m,e⟩:=I.qK b;exact oE F.slot_list_clear ⟨_,e,rfl⟩ F.entry_list_clear (F.args_list_clear_1 _) (AutoSeq1.list_clear_list_0 l f.toArray n (by rw[Yq];omega)) ⟨e,⟨.ay,_,I.xx b e rfl .nil (Yx _),rfl,q⟩⟩
def Zkg:R2:=λx y H Q=>∃l b c a,x=.ref l/\y=.ref b/\H l=Z (.lst c)/\H b=Z (.lst a)/\c.length+a.length<=sizeLine/\∀p,H p=aJ->Q (.ref p) (upd H p (.lst (c++a)))
def Zh6:cV X (binaryOp .Add) Zkg:=by
 intro a s o H x y v u Q I g f G;refine t5 G λl b w p F E i j C q=>?_;subst F;subst E;cases g;cases f;obtain⟨z,d,n,r,D,e⟩:=I.qK i;obtain⟨t,c,B,h,A,m⟩:=I.qK j;refine PySem.P.add_list e m ?_ (by rw[Yq,Yq];omega);have k:d.toArray++c.toArray=(d++c).toArray:=QS
 exact k▸⟨.ref _,_,I.Zke (r.append h) (by rw[Yj];omega),rfl,q _ I.fresh⟩
section
set_option maxRecDepth 100000 in
end
end _L
namespace Xr
open PySem PySem.W PySem.Calls PyProof.Rows
theorem ZaH:∀(ns:O Int) (c:O a7),WellAll P h c (ns.map WData.int)->IntsAre c ns:=by
 intro ns;induction ns with
 |nil=>
  intro c w;cases w;exact .nil
 |cons n ns d=>
  intro c w;cases w with
  |cons a b=>
   cases a;exact .cons _ _ (d _ b)
theorem Zed{l:OpenLaw}(m:l.most=Z n)
  (g:l.row.toRowW.claim.pre args=af)(t:WellAll P h vals args):
  ∃a f b,vals=[Value.ref a]/\args=[WData.list (b.map WData.int)]/\h.get? a=Z {cls:=.type "list",data:=.seq f.toArray}/\IntsAre f b/\b.length<=n:=by
 refine gR (hasAllW_cons ((pre_splitW g).1)) λd r w q p=>?_;subst w;obtain rfl:=hasAllW_nil p;obtain⟨u,rfl,o⟩:=hasW_list q;obtain⟨b,rfl⟩:=items_int o;have c:b.length<=n:=by
  have e:(WTm.not (.lt (.lit (.int (n:Int))) (.len (.arg 0)))).holds [] {args:=[.list (b.map .int)]}=af:=by
   have e:=(holds_andW ((pre_splitW g).2)).1;rw[m] at e;exact e
  have v:=condW_of e (w_not (w_lt w_lit (w_len_list (w_arg rfl))))
  simp_all
 cases t with
 |cons j i=>
  cases i;cases j with
  |list k s=>exact⟨_,_,b,rfl,rfl,k,ZaH b _ s,c⟩
def Zee(l:OpenLaw)(a:O WData):l.row.toRowW.claim.post a (.bool af) a=af:=
 postW_of
  (by first|rfl|decide|simp[WShape.has])
  (show(WTm.eq .res (.lit (.bool af))).value [] {args:=a,res:=Z (.bool af),after:=a}=Z (.bool (af==af)) from w_eq_bool (w_res rfl) w_lit) rfl
def Zch{l:OpenLaw}{n:Nat}{q:dC}{c:O ar}{D:(ar->bS a7)->c8->Prop}{C:dg->c8->Prop}{d:DefRec}
  (I:l.most=Z n)(Ap:d.params.defaults=[])
  (m:∀(w:dg) (y e:bN) (t x:a8) (k:U) (o:Obj) (v u h:a7) (a:U) (i:O a7) (s:O Int),
   Ground q c [] D w y t x e.heap->C w e.heap->
   e.heap.get? k=Z o->o.data=.func (docDef d.name d.params d.body d.scope v u h)->e.heap.CodeRec u d.name->t d.name=Z (.ref k)->
   e.heap.get? a=Z {cls:=.type "list",data:=.seq i.toArray}->IntsAre i s->s.length<=n->e.gens=#[]->
   codeAny (model l.prog w) callerA (.call (.ref k) ⟨[.ref a],[]⟩) (λr p=>r=.ok (.ret (.bool af))/\OldK e.heap p.heap/\p.os=e.os/\AllBare p.gens) e):
  WalkO q c D C l.row.toRowW d [] (λf i=>PySem.call f i):=by
 intro w y e t x G b k o v u h W kV H hd T A Aq N B z as CY X E Ao L;obtain rfl:W=.none:=Dflts.none A Ap;obtain rfl:kV=.none:=Dflts.noKw A;refine kW (Zed I CY Ao) λa i s hI mR LU g j=>?_;subst hI;subst mR;refine enter_call (nq (m w y e t x k o v u h a i s G b H (fd_plain hd) T Aq LU g j N) λr p F=>?_);refine eJ F λjs R Q P=>?_;subst js;exact⟨.inl ⟨.bool af,.bool af,[],rfl,λ_=>rfl,.bool af,Zee l _,λ_=>⟨Xz,λ_ J=>(nomatch J)⟩⟩,R,Q,P⟩
end Xr
namespace _L
open PySem PySem.Spec PyProof.Rows
theorem Ip:∀{vs:O a7} {a:O Int},IntsAre vs a->Vals (a.map V.int) vs:=by
 intro vs a h;induction h with
 |nil=>exact .nil
 |cons n t h b=>exact .cons ⟨t,rfl⟩ b
def LV(H:Hp):Prop:=∀b,H b=aJ\/∃o a,H b=Z (.cU o (.lst a))
theorem Ze9{P:dC}{w:dg}{K:ah}{t E:a8}{CX:lO}{k:Nat}{J a:U}{fd:FuncData}{x:ar}{T:Sp}{bX:bN}{j:O a7}{p:O Int}
  (KX:K.In bX.heap)(Xs:bX.heap.Ns mainGlobals t)(c:bX.heap.Ns builtinsNs E)(I:∀x:ar,x≠"__name__"->E x=bootBuiltins x)(Q:bX.heap.NoLimit)(hg:bX.gens=#[])
  (A:bX.heap.get? a=Z {cls:=.type "list",data:=.seq j.toArray})(hi:IntsAre j p)(hl:p.length<=sizeLine)(hr:cW k callerA)
  (F:∀g:c8,K.In g->g.Ns mainGlobals t->aI P w K t g CX k J fd [x] T)(R:∀(s:bN) (u:a7),BindsTo s fd ⟨[u],[]⟩ [(x,u)])
  (m7:∀H:Hp,LV H->aq K H a (p.map V.int)->T [.ref a] H (λv _=>v=.bl af) λ_ _ _=>False)
  (MM:∀H e f,CX [] H bX (λ_ _ _=>False) e f->False):
  codeAny (model P w) callerA (.call (.ref J) ⟨[.ref a],[]⟩) (λr f=>r=.ok (.ret (.bool af))/\OldK bX.heap f.heap/\f.os=bX.os/\AllBare f.gens) bX:=by
 have W:=Ip hi;have N:=hi.length
 --from an abstract heap in Zms nothing but X SY may be tracked
 have i:∀H:Hp,LV H->aq K H a (p.map V.int)->dH P w H bX.heap->(∀b,H b≠aJ->b=a)->(H a≠aJ->K.lookup a=aJ)->
   codeAny (model P w) callerA (.call (.ref J) ⟨[.ref a],[]⟩) (λr f=>r=.ok (.ret (.bool af))/\OldK bX.heap f.heap/\f.os=bX.os/\AllBare f.gens) bX:=by
  intro H hO hS aw hA hK;have RU:∀{b:U} {o:Obj},bX.heap.get? b=Z o->H b=aJ->(qJ bX.heap H).get? b=Z o:=λe n=>ZeU e n;have lP:∀{b:U} {o:Obj} {B:dq DictEntry} {C:Nat},bX.heap.get? b=Z o->o.data=.dict B C->H b=aJ:=λ{b o B C} e d=>by
   cases q:H b with
   |none=>rfl
   |some u=>
    have L:b=a:=hA b (by rw[q];simp);subst L;rw[A] at e;cases e;have d':=d;cases d'
  have D:∀{b:U} {m:a8},bX.heap.Ns b m->(qJ bX.heap H).Ns b m:=λ{b m} ⟨o,B,C,e,d,r⟩=>⟨o,B,C,RU e (lP e d),d,r⟩;have Xt:=λb o e=>RU (KX b o e) (by
   cases q:H b with
   |none=>rfl
   |some u=>
    have L:=hA b (by rw[q];simp);subst L;rw[hK (by rw[q];simp)] at e;cases e)
  have hM:Mod K t (qJ bX.heap H):=⟨Xt,D Xs,⟨E,D c,I⟩,let⟨mc,h1,h2⟩:=Q;⟨mc,D h1,h2⟩⟩;have e0:uX P w K t (qJ bX.heap H) callerA [] bX H:=⟨rfl,hM,λ b o=>Zgp,DF (Zd5 _ _),trivial,λb c=>absurd (show b∈([]:O U) from c) QS,aw,.of_eq hg⟩;refine nq ((F _ Xt (D Xs)).run callerA [] bX H ⟨[.ref a],[]⟩ [.ref a] [.ref a] _ _ hr e0 (R bX (.ref a)) (.cons rfl .nil) (m7 H hO hS)) λr f h=>?_;cases r with
  |error e=>exact(MM H e f h).elim
  |ok fl=>
   cases fl with
   |next=>exact False.elim h
   |brk=>exact False.elim h
   |cont=>exact False.elim h
   |ret u=>
    refine rb h λv H' os y un LW r' q=>?_;have q':=q;subst q';obtain rfl:u=Value.bool af:=r';refine⟨rfl,OldK.of_keep λb o e=>?_,os,y⟩;cases q:H b with
    |none=>exact un.keep b o e q (by intro z;exact absurd (show b∈([]:O U) from z) QS) QS
    |some u=>
     rcases hO b with z|⟨ob,xs,z⟩;·rw[q] at z;cases z
     ·have z2:=un.jr b ob _ z;obtain⟨e1,_⟩:=aw b _ z;obtain⟨e2,_⟩:=LW b _ z2;rw[e] at e1;cases e1;exact e2
 cases G:K.lookup a with
 |some o=>
  --X SY is one of X Zmk own objects
  have e:=KX a o G;rw[A] at e;cases e;refine i (λ_=>aJ) (λ_=>.inl rfl) (.inr ⟨_,j.toArray,_,G,rfl,rfl,rfl,by rwa[Yq,N],by simpa using W⟩) (λb u z=>by have l:=z;cases l) (λ b=>absurd rfl) λz=>absurd rfl z
 |none=>
  refine i (λb=>if b=a then Z (.cU {cls:=.type "list",data:=.seq j.toArray} (.lst (p.map V.int))) else aJ) (λb=>?_) (.inl (.inr ⟨{cls:=.type "list",data:=.seq j.toArray},bC rfl⟩)) (λb u z=>?_) (λb z=>?_) λ_=>G
  ·by_cases c:b=a;·exact .inr ⟨_,_,bC c⟩
   ·exact .inl (bF c)
  ·by_cases c:b=a
   ·have l:=(bC c).symm.trans z;cases l;subst c;exact⟨A,by rwa[Ya],j,_,W,A⟩
   ·have l:=(bF c).symm.trans z;cases l
  ·by_cases c:b=a;·exact c
   ·exact absurd (bF c) z
def ZgB{l:PySem.W.OpenLaw}{n k:Nat}{q:dC}{i:O ar}{X:(ar->bS a7)->c8->Prop}{B:dg->c8->Prop}{d:DefRec}{K:Params->ah}{D:dg->lO}{A:dg->Sp}{x:ar}
  (J:l.most=Z n)(R:n<=sizeLine)(Ap:d.params.defaults=[])(I:cW k callerA)
  (P:∀(w:dg) (h:c8),B w h->(K w.params).In h)
  (F:∀(w:dg) (m:a8) (r:U) (h:c8),(K w.params).In h->h.Ns mainGlobals m->m d.name=Z (.ref r)->
   ∃y:FuncData,(∀(s:bN) (u:a7),BindsTo s y ⟨[u],[]⟩ [(x,u)])/\
    ∀c:c8,(K w.params).In c->c.Ns mainGlobals m->aI l.prog w (K w.params) m c (D w) k r y [x] (A w))
  (E:∀(w:dg) (H:Hp) (a:U) (p:O Int),p.length<=n->LV H->aq (K w.params) H a (p.map V.int)->A w [.ref a] H (λv _=>v=.bl af) λ_ _ _=>False)
  (MM:∀(w:dg) (H:Hp) (s:bN) (e:a7) (t:bN),D w [] H s (λ_ _ _=>False) e t->False):
  PySem.W.WalkO q i X B l.row.toRowW d [] (λf z=>PySem.call f z):=by
 refine Xr.Zch J Ap λw dB W m mb r o pm cd T a z p G b ho hd gP Aq LU j g L=>?_;have C:=P w _ b;refine bo (F w m r _ C G.T.g Aq) λy N Q=>?_;exact Ze9 C G.T.g G.T.b G.T.builtins G.T.nolimit L LU j (Yy g R) I Q N (λ H=>E w H a p g) λH e t=>MM w H W e t
noncomputable def inClass(s:cb)(j:Nat):cb:=match s with
 |.ClassDef _ _ _ body _ _ _ _ _ _ _=>body.getD j (.Pass ⟨0,0,0,0⟩)
 |_=>.Pass ⟨0,0,0,0⟩
def mK(s:cb):Arguments:=match s with
 |.FunctionDef _ a _ _ _ _ _ _ _ _=>a
 |_=>{posonlyargs:=[],args:=[],vararg:=aJ,kwonlyargs:=[],kw_defaults:=[],kwarg:=aJ,defaults:=[]}
noncomputable def jF(s:cb):O cb:=match s with
 |.FunctionDef _ _ b _ _ _ _ _ _ _=>b
 |_=>[]
def aL(s:cb):Scope:=match s with
 |.FunctionDef _ _ _ _ _ _ sc _ _ _=>sc
 |_=>{kind:=.function,names:=[],isGenerator:=bg,isCoroutine:=bg}
abbrev aR:lO:=λ_ _ _ _ _ _=>False
abbrev E0:XK:=λ_ _ _=>False
def uJ:Passes aR X E0:=λ_ _ _ _ _ _ _ h=>h.elim
structure aT(K:ah)(x qual:ar)(st:cb)(f:U)(fd:FuncData):Prop where
 ex:∃(oc:a7) (od:bS U) (kV doc pm:a7) (an:bS U) (bR ct:a7) (jS:dq (bS a7)),
  fd=fnOf x qual (mK st) (jF st) (aL st) .none kV doc pm an bR ct/\K.lookup f=Z ⟨oc,od,.func fd,jS⟩/\codeIn K bR qual=af
 kp:keepIn K (.ref f)=af
section
variable {P:dC}{w:dg}{K:ah}{W:a8}{X:c8}
def aT.ok{x c:ar}{e:cb}{f:U}{l:FuncData}{N i:O ar}{k:Nat}{sp:Sp}(F:aT K x c e f l)(a:aW N i (aL e))(j:∀d H Q E,sp d H Q E->d.length=i.length)
  (m:∀(g:a7) (A:fb) (b:O Env) (s:bN) (H:Hp) (d:O V) (Q:VK) (E:XK),cW k (A.deeper (envOfC c (aL e) s.heap.objs.size f g))->sp d H Q E->
   ∃t,gO (lM aR P w K W X N c (aL e) f g A b s H E).pE (jF e) t/\t {nx:=λ_ v=>Q .ay v,rt:=Q} (start N d) H):aI P w K W X aR (k+1) f l i sp:=by
 obtain⟨B,z,kV,u,y,G,g,D,C,rfl,o,r⟩:=F.ex;refine Ln o r a j λA b s H d Q E p n=>?_;refine bo (m g A b s H d Q E p n) λt h q=>?_;exact⟨t,h.pE,q⟩
def aT.binds{b:cb}(F:aT K x qual b f fd)
  (h:∀(kV a d:a7) (i:bS U) (g e:a7) (c:O a7),c.length=j.length->bindArgs (fnOf x qual (mK b) (jF b) (aL b) .none kV a d i g e) ⟨c,[]⟩=pure (j.zip c)):Binds K fd j []:=by
 obtain⟨l,k,kV,a,d,i,g,e,n,rfl,m,o⟩:=F.ex;exact .all (h kV a d i g e)
def zw{x a:ar}{st:cb}{f:U}{m:a7}{j i:bS U}{n:dq (bS a7)}{g b e d h:a7}(l:K.lookup f=Z ⟨m,j,.func (fnOf x a (mK st) (jF st) (aL st) .none g b e i d h),n⟩)
  (c:codeIn K d a=af)(k:keepIn K (.ref f)=af):aT K x a st f (fnOf x a (mK st) (jF st) (aL st) .none g b e i d h):=⟨⟨m,j,g,b,e,i,d,h,n,rfl,l,c⟩,k⟩
end
def bL(a:cW k A):A.units+1<cLine:=W3 (Qbu (by decide:1<=64) _) a.units
def lE(h:n<=1000):n<sizeLine:=W3 h QD
section
variable {X:Cx}
def pv(i:Nat){x:ar}{a:Pos}(d:X.N[i]?=Z x:=by rfl)(b:vq X.env.scope x:=by first|exact hY rfl|exact mF (hY rfl)|exact mF (mF rfl))(c:(x==("__debug__":ar))=bg:=by decide)
  (e:(x==("__classdict__":ar))=bg:=by decide):PE X (.Name x a) (hV i):=ZhQ d b c e
end
def bV{A B:Prop}(h:B):if bg=af then A else B:=by
 grind
def c6{A B:Prop}(h:A):if af=af then A else B:=by
 grind
def bY{c A B:Prop}[Decidable c](b:c->A)(a:¬c->B):if c then A else B:=by
 simp_all
def xl{c A B:Prop}[Decidable c](a:c)(h:B):if(!decide c)=af then A else B:=by
 grind
def aj(H a:Hp):Prop:=∀b o,H b=Z o->a b=Z o
def aj.refl(H:Hp):aj H H:=λ_ _ h=>h
def aj.trans(a:aj H H1)(b:aj H1 H2):aj H H2:=λc o h=>b c o (a c o h)
theorem aj.free(e:aj H a)(h:a l=Option.none):H l=Option.none:=by
 cases q:H l with
 |none=>rfl
 |some o=>
  rw[e l o q] at h;cases h
def aj.seq{K:ah}(e:aj H b)(h:aq K H a xs):aq K b a xs:=by
 rcases h with(h|⟨o,h⟩)|h;·exact .inl (.inl (e _ _ h))
 ·exact .inl (.inr ⟨o,e _ _ h⟩)
 ·exact .inr h
def rP(a:O (ar×U)):O (ar×U)->Prop
 |[]=>True
 |p::r=>a.lookup p.1=Z p.2/\rP a r
theorem rP.look:∀{d:O (ar×U)},rP cells d->∀(x:ar) (c:U),d.lookup x=Z c->cells.lookup x=Z c
 |[],_,x,c,h=>by simp at h
 |(n,a)::r,b,x,c,h=>by
  rw[W4] at h;cases e:x==n with
  |true=>
   rw[e] at h;rw[(eq_of_beq e),←(Yp h)];exact b.1
  |false=>
   rw[e] at h;exact rP.look b.2 x c h
theorem Gg{a:Env}:∀{b:O (ar×NameKind)} {x:ar} {k:NameKind},
  (b.map λ(n,k)=>if(k==NameKind.free&&a.scope.kind==.function&&a.kindOf n==Z .cell) then(n,NameKind.cell) else(n,k)).lookup x=Z k->
  ∃c,(x,c)∈b/\(k=c\/c=.free)
 |[],_,_,h=>by simp at h
 |(n,c)::r,x,k,h=>by
  have h:List.lookup x ((if(c==NameKind.free&&a.scope.kind==.function&&a.kindOf n==Z .cell)=af then(n,NameKind.cell) else(n,c))::(r.map λ(n,k)=>if(k==NameKind.free&&a.scope.kind==.function&&a.kindOf n==Z .cell) then(n,NameKind.cell) else(n,k)))=Z k:=h;by_cases d:(c==NameKind.free&&a.scope.kind==.function&&a.kindOf n==Z .cell)=af
  ·rw[bC d,W4] at h;cases e:x==n with
   |true=>grind
   |false=>
    rw[e] at h;obtain⟨f,m,q⟩:=Gg h
    grind
  ·rw[bF d,W4] at h;cases e:x==n with
   |true=>grind
   |false=>
    rw[e] at h;obtain⟨f,m,q⟩:=Gg h
    grind
structure Te(X:Cx)(scope:Scope)(cl:O (ar×U))(y:ar)(j:Nat):Prop where
 ix:X.N[j]?=Z y
 out:X.env.kindOf y=Z .cell\/X.env.kindOf y=Z .free
 vB:(relabel scope X.env).names.lookup y=Z .cell\/(relabel scope X.env).names.lookup y=Z .free
 cl:(cl.lookup y).isSome=af
def rQ(X:Cx)(a:Scope)(b:O (ar×U)):O (ar×Nat)->Prop
 |[]=>True
 |p::r=>Te X a b p.1 p.2/\rQ X a b r
theorem rQ.get:∀{b:O (ar×Nat)} {k:Nat} {p:ar×Nat},rQ X scope cl b->b[k]?=Z p->Te X scope cl p.1 p.2
 |[],k,p,_,h=>by simp at h
 |q::r,0,p,a,h=>by
  have e:q=p:=by simpa using h
  exact e▸a.1
 |q::r,k+1,p,a,h=>rQ.get a.2 (by simpa using h)
structure yZ(X:Cx)(scope:Scope)(cl:O (ar×U))(x:ar)(fr:O (ar×Nat)):Prop where
 xy:closureFor scope X.env=pure cl
 sub:rP X.env.cells cl
 kind:scope.kind=.function
 names:∀y∈scope.names,y.2=.local->scope.names.lookup y.1=Z .local
 lx:scope.names.lookup x=Z .local
 CC:∀y∈scope.names,y.2≠.cell
 has:(scope.names.all λy=>!(y.2==.free)||(cl.lookup y.1).isSome)=af
 di:rQ X scope cl fr
 nd:(x::fr.map (·.1)).Nodup
noncomputable def iW(a:St)(b:O (ar×Nat)):St:=b.map λp=>(a[p.2]?).join
structure rD(X:Cx)(scope:Scope)(cl:O (ar×U))(xs:O ar)(fr:O (ar×Nat)):Prop where
 xy:closureFor scope X.env=pure cl
 sub:rP X.env.cells cl
 kind:scope.kind=.function
 names:∀y∈scope.names,y.2=.local->scope.names.lookup y.1=Z .local
 CC:∀y∈scope.names,y.2≠.cell
 has:(scope.names.all λy=>!(y.2==.free)||(cl.lookup y.1).isSome)=af
 di:rQ X scope cl fr
 nd:(xs++fr.map (·.1)).Nodup
def dw(X:Cx)(b:O ar)(c:O (ar×Nat))(a:Scope)(e:O (ar×U))(C:U)(s:bN)(H:Hp)(d:O U):Cx where
 prog:=X.prog
 w:=X.w
 K:=X.K
 mg:=X.mg
 base:=X.base
 A:=X.A
 N:=b++c.map (·.1)
 dB:=s
 mY:=H
 env:=compEnvC a e C X.env
 outer:=X.stack
 stack:=X.stack
 ex:=d
 fn:=λ_=>bg
 calm:=X.calm
 pn:=[]
 xe:=λ_ _=>False
theorem Zef(a:rD X scope cl xs fr)(I:Inv X pins σ H s)(D:C=s.heap.objs.size)(t:∀b∈fp,jN X pins H b)(bZ:∀b∈fp,b<s.heap.objs.size)
  (g:∀b o,s.heap.get? b=Z o->E.get? b=Z o)(W:E.Ns C m):Inv (dw X xs fr scope cl C s H fp) [] (List.replicate xs.length aJ++iW σ fr) H {s with heap:=E,toks:=tk}:=by
 have look:=a.sub.look;refine⟨⟨I.ok.mod,a.kind,I.ok.glob,I.ok.blt,by exact D▸Yd _,λy z c d f=>I.ok.inj y z c (look y c d) (look z c f),λy w=>?_,λy c h=>?_,I.ok.hd,I.ok.frames,.inl rfl,λb j=>⟨?_,λy c h=>?_⟩,
   I.bs,Yy I.ok.oC I.sz,λb o e j=>?_,λb j B=>?_,I.stack,I.BY⟩,
  rfl,I.bare,Un.kept g,⟨m,W,λi y v d f h3=>?_⟩,λy c h=>?_,?_,λy c h=>I.jo y c (look y c h),λp T=>absurd (show p∈([]:bq) from T) QS,I.aw.kept g,?_⟩
 ·have w:=w;have fin:∀{k:NameKind},(relabel scope X.env).names.lookup y=Z k->(k=.cell\/k=.free)->∃c,cl.lookup y=Z c:=λ{k} e hk=>by
   obtain⟨R,J,q⟩:=Gg e;have A:R=.free:=by
    rcases q with q|q
    ·rcases hk with z|z;·exact absurd (q.symm.trans z) (a.CC _ J)
     ·exact q.symm.trans z
    ·exact q
   have G:=Wo.mp a.has _ J;rw[A] at G;exact Jk.mp (by simpa using G)
  rcases w with e|e;·exact fin e (.inl rfl)
  ·exact fin e (.inr rfl)
 ·exact absurd (h) Yl
 ·exact λz=>absurd (bZ b j) (by rw[z,D];exact We _)
 ·exact(t b j).2.2.2.2.1 y c (look y c h)
 ·obtain⟨_,_,_,z,_⟩:=t b j;rcases z with z|z;·exact I.ok.uS b o e z
  ·have d:=Yu e;have f:=I.ok.oC;exact absurd (Y3 d (Yy f z)) (We _)
 ·have z:=I.KA b B;rcases Ym.mp z with z|z;·exact(t b j).2.1 z
  ·exact(t b j).2.2.1 z
 ·by_cases L:i<xs.length;·grind
  ·have d:(xs++fr.map (·.1))[i]?=Z y:=d;rw[Jy (XZ L)] at d;rw[Jy (by exact W1▸XZ L),W1] at f;generalize i-xs.length=k at d f;have f:(fr.map λp=>(σ[p.2]?).join)[k]?=Z (Z v):=f;rw[Ye] at d f;cases e:fr[k]? with
   |none=>rw[e] at d;cases d
   |some p=>
    rw[e] at d f;have e1:p.1=y:=Yp d;have Q:(σ[p.2]?).join=Z v:=Yp f;have F:=a.di.get e;rw[e1] at F;have e3:σ[p.2]?=Z (Z v):=by
     cases q:σ[p.2]? with
     |none=>rw[q] at Q;cases Q
     |some o=>simp_all
    obtain⟨m0,_,hl⟩:=I.loc;have MG:vq X.env.scope y:=by
     rcases F.out with z|z;·exact .inr (.inl z)
     ·exact .inr (.inr z)
    obtain⟨u,r,l⟩:=hl p.2 y v F.ix e3 MG;refine⟨u,r,.inr ⟨F.vB,?_⟩⟩;obtain⟨c,N⟩:=Jk.mp F.cl;refine⟨c,N,?_⟩;rcases l with⟨n,_⟩|⟨_,c',e',z⟩
    ·rcases F.out with q|q;·rw[q] at n;cases n
     ·rw[q] at n;cases n
    ·have P:=look y c N;rw[e'] at P;cases P;obtain⟨o,x,hd⟩:=z;exact⟨o,g _ _ x,hd⟩
 ·obtain⟨v,o,x,hd⟩:=I.cell y c (look y c h);exact⟨v,o,g _ _ x,hd⟩
 ·exact D▸I.aw.fresh (Yd _)
 ·show(List.replicate xs.length aJ++iW σ fr).length=(xs++fr.map (·.1)).length;simp[iW]
abbrev xf(X:Cx)(x:ar)(b:O (ar×Nat))(a:Scope)(d:O (ar×U))(C:U)(s:bN)(H:Hp)(c:O U):Cx:=dw X [x] b a d C s H c
theorem Zae(I:Nat->bN->Prop)
  (d:∀n s,I n s->wpAny (model prog w) A (pyNext it) (λr i=>match r with
   |none=>R (.ok .next) i
   |some v=>wpAny (model prog w) A (letOwnedTupleGo target it v) (λ_ q=>wpAny (model prog w) A (assign target env v) (λ_ p=>
     wpAny (model prog w) A (forIn ifs af λc r=>if r=af then do let ok←isTrue c env (eval c env);pure (ForInStep.yield ok) else pure (ForInStep.yield r)) (λok g=>
      if ok=af then wpAny (model prog w) A (eval elt env) (λx l=>
       wpAny (model prog w) A (call (.builtin "list.append") [acc,x]) (λ_ k=>∃m,m<n/\I m k) (notedBy (model prog w) A env λe a=>R (.error e) a) l) (notedBy (model prog w) A env λe a=>R (.error e) a) g
      else ∃m,m<n/\I m g) (notedBy (model prog w) A env λe a=>R (.error e) a) p) (notedBy (model prog w) A env λe a=>R (.error e) a) q) (notedBy (model prog w) A env λe a=>R (.error e) a) i) (notedBy (model prog w) A env λe a=>R (.error e) a) s)
  (n:Nat)(h:I n s):codeAny (model prog w) A (.compLoop (.ListComp elt [⟨target,iter,ifs,0⟩] scope pos) 0 it acc env) R s:=by
 refine zX rfl I (λn s z=>Ae (bt (mu (bt (eH (d n s z) (λr i o=>?_) λ_ _ b=>b))))) n h;cases r with
 |none=>exact cv o
 |some v=>
  refine bt (eH o (λ_ q f=>bt (eH f (λ_ p y=>bt (eH y (λok g j=>?_) λ_ _ b=>b)) λ_ _ b=>b)) λ_ _ b=>b);cases ok with
  |false=>exact cv ⟨rfl,j⟩
  |true=>
   exact bt (bt (eH j (λx l u=>bt (eH u (λ_ k t=>cv (cv ⟨rfl,t⟩)) λ_ _ b=>b)) λ_ _ b=>b))
def vC(X:Cx)(d:O cH)(t:TT):Prop:=
 ∀(a:bq) (s:bN) (b:St) (H:Hp) (Q:cu->Hp->Prop),Inv X a b H s->t b H Q->
  wpAny X.md X.A (forIn d af λc r=>if r=af then do let ok←isTrue c X.env (eval c X.env);pure (ForInStep.yield ok) else pure (ForInStep.yield r)) (TP X a b Q) X.xe s
def zU:TT:=λ_ H Q=>Q af H
def lH:vC X [] zU:=λ_ _ _ H _ I h=>y0 ⟨H,I,h⟩
def zc(h:PT X c t):vC X [c] t:=λa s b H Q I d=>wpAny_tests_one (h a s b H Q I d)
def KJ(n:Nat)(J:It)(o:TG)(l:TT)(p:TE)(h:St)(D:U)(H:Hp)(Q:VK):Prop:=
 ∃W:Nat->Nat->O V->Hp->Prop,(∃m,W 0 m [] (upd H D (.lst [])))/\∀i m a H,W i m a H->
  (J.stop i H/\Q (.ref D) H)\/(J.go i H/\∃N:O V->Hp->Prop,(∀g b,N g b->∃e,e<m/\W (i+1) e g b)/\
   ∀v b,J.sM i H v b->∀os:St,os.length=n->o v (os++h) b λd q=>(∃f:St,f.length=n/\d=f++h)/\l d q λc k=>if c=af then p d k λy j=>j D=Z (.lst a)/\a.length<sizeLine/\N (a++[y]) (upd j D (.lst (a++[y]))) else N a k)
def Qz{h:Hp}{s2:bN}{L:U}{g:O U}{A:Nat->c8->Prop}{J:It}{Q:VK}{F:a7->U->Result->bN->Prop}{E:bw}{rest:O Comprehension}(a:rD X d cl xs fr)
  (I2:Inv X pins σ h s2)(T:Turn X.prog X.w X.K tgt J g L A)(fq:A 0 s2.heap)(l:∀b∈g,jN X pins h b)
  (hR:∀D C H H1 m,Inv X pins σ H1 H->H.heap.Ns C m->H1 C=aJ->C≠X.env.locals->X.dB.heap.objs.size<=C->(∀y c,X.env.cells.lookup y=Z c->c≠C)->(∀p∈X.pn++pins,p.1≠C)->Q (.ref D) H1->F (.ref D) C (.ok .next) H)
  (hl:∀(D C:U) (s:bN) (x:Hp) (t:bN),h D=aJ->x=upd h D (.lst [])->Inv (dw X xs fr d cl C s x g) [] (List.replicate xs.length aJ++iW σ fr) x t->A 0 t.heap->(∀b∈g,x b=aJ)->
   (∀B DD G,Inv (dw X xs fr d cl C s x g) [] DD G B->Q (.ref D) G->F (.ref D) C (.ok .next) B)->
   codeAny X.md X.A (.compLoop (.ListComp elt (⟨tgt,iter,ifs,0⟩::rest) d pos) 0 (.ref L) (.ref D) (compEnvC d cl C X.env)) (F (.ref D) C) t):
  wpAny X.md X.A (newList []) (λw t=>wpAny X.md X.A (newFunctionEnv d X.env.globals cl [] X.env.qual aJ .none (Z X.env)) (λou jP=>
   codeAny X.md X.A (.compStart (.ListComp elt (⟨tgt,iter,ifs,0⟩::rest) d pos) 0 (.ref L) w {ou with scope:=relabel d X.env}) (F w ou.locals) jP) E t) E s2:=by
 refine ni (wpAny_newFunctionEnv a.CC (by intro y hy;simp at hy) (λi4 W R=>?_) a.kind);dsimp only at W R⊢;have j:Inv X pins σ (upd h s2.heap.objs.size (.lst [])) {s2 with heap:=s2.heap.push {cls:=.type "list",dict:=aJ,data:=.seq ([]:O a7).toArray}}:=
  I2.laid (t':=s2.toks) (λb u e=>Yc _ e) (Yd _) ⟨Yx _,[],0,.nil,Ys _ rfl⟩
 have P:h s2.heap.objs.size=aJ:=I2.aw.fresh (Yd _);have VB:∀b∈g,b<s2.heap.objs.size:=λb f=>by
  refine bo (T.obj _ _ fq b f) λo e _=>?_;exact Yu e
 generalize Xu:s2.heap.push {cls:=.type "list",dict:=aJ,data:=.seq ([]:O a7).toArray}=k at W R j⊢;have hC:k.objs.size=s2.heap.objs.size+1:=by rw[←Xu,J3]
 have r:∀b o,k.get? b=Z o->i4.get? b=Z o:=λb o e=>R.extBut b o (Yz (Yu e)) (Yc _ e);have f3:∀b∈g,jN X pins (upd h s2.heap.objs.size (.lst [])) b:=λb f=>by
  have:=VB b f;exact⟨by rw[aS (Yz this)];exact(l b f).1,(l b f).2⟩
 have I:∀b∈g,b<k.objs.size:=λb f=>by
  rw[hC];exact Wr (VB b f)
 have xV:A 0 i4:=T.keep _ _ _ fq λb f o e=>r b o ((λb o e=>Xu▸Yc _ e) b o e);have I4:Inv (dw X xs fr d cl k.objs.size {s2 with heap:=k} (upd h s2.heap.objs.size (.lst [])) g) [] (List.replicate xs.length aJ++iW σ fr) (upd h s2.heap.objs.size (.lst [])) {s2 with heap:=i4,toks:=s2.toks+([]:O (ar×a7)).length}:=
  Zef a j rfl f3 I r W
 have i:=hl s2.heap.objs.size k.objs.size {s2 with heap:=k} _ {s2 with heap:=i4,toks:=s2.toks+([]:O (ar×a7)).length} P rfl I4 xV (λb f=>(f3 b f).1) λB DD G n qn=>by
   refine bo n.loc λm N _=>?_;have I7:=j.Li n.os n.base n.aw n.bare λb f=>⟨(l b f).2.2.2.1,(l b f).2.1,(l b f).2.2.2.2.1,(l b f).2.2.2.2.2⟩;refine hR _ _ B G m I7 N n.free ?_ ?_ (λy c e z=>?_) (λp hp z=>?_) qn;·exact Jo j.lt
   ·exact j.sz
   ·obtain⟨v,q⟩:=j.cell y c e;exact absurd q.lt (by exact z▸We _)
   ·exact absurd (Yu (j.pin p hp).1) (by exact z▸We _)
 exact codeAny_compStart_list i (T.self _ 0 _ _ _ xV i)
theorem O_{H2:Hp}{s2:bN}{it:U}{g:O U}{L:Nat->c8->Prop}{J:It}{Q:VK}{RR:a7->U->Result->bN->Prop}{E:bw}
  (hc:X.calm=af)(a:rD X f cl xs fr)(hg:∀C s H g,PG (dw X xs fr f cl C s H g) B tg)
  (ht:∀C s H g,vC (dw X xs fr f cl C s H g) ifs tt)(he:∀C s H g,PE (dw X xs fr f cl C s H g) elt te)
  (I2:Inv X pins σ H2 s2)(T:Turn X.prog X.w X.K B J g it L)(fq:L 0 s2.heap)(f2:∀b∈g,jN X pins H2 b)
  (hw:∀D,H2 D=aJ->KJ xs.length J tg tt te (iW σ fr) D H2 Q)
  (hR:∀D C s1 H1 m,Inv X pins σ H1 s1->s1.heap.Ns C m->H1 C=aJ->C≠X.env.locals->X.dB.heap.objs.size<=C->(∀y c,X.env.cells.lookup y=Z c->c≠C)->(∀p∈X.pn++pins,p.1≠C)->Q (.ref D) H1->RR (.ref D) C (.ok .next) s1):
  wpAny X.md X.A (newList []) (λG eZ=>wpAny X.md X.A (newFunctionEnv f X.env.globals cl [] X.env.qual aJ .none (Z X.env)) (λou jP=>
   codeAny X.md X.A (.compStart (.ListComp elt [⟨B,iter,ifs,0⟩] f pos) 0 (.ref it) G {ou with scope:=relabel f X.env}) (RR G ou.locals) jP) E eZ) E s2:=by
 refine Qz (rest:=[]) a I2 T fq f2 hR λD C s t eZ hD e3 I4 xV xS fin=>?_;refine bo (hw D hD) λW gV A=>?_;obtain ⟨m0,w0⟩:=gV;rw[←e3] at w0;refine Zae (λk s'=>∃i l H' os,os.length=xs.length/\Inv (dw X xs fr f cl C s t g) [] (os++iW σ fr) H' s'/\L i s'.heap/\(∀b∈g,H' b=aJ)/\W i k l H') ?_ m0
  ⟨0,[],_,List.replicate xs.length aJ,W1,I4,xV,xS,w0⟩
 intro n s5 ZH;refine ju ZH λi l H5 os qU I qT vy w5=>?_;have oo:∀{H':Hp},(∀b∈g,H' b=aJ)->∀b∈g,jN (dw X xs fr f cl C s t g) [] H' b:=λ{H'} hn b j=>
  ⟨hn b j,(I.ok.sL b j).1,I.ok.sv b j,.inl j,(I.ok.sL b j).2,λp hp=>absurd (show p∈([]:bq) from hp) QS⟩
 rcases A i n l H5 w5 with⟨F,qn⟩|⟨go,N,hN,step⟩
 ·refine aC (T.done (dw X xs fr f cl C s t g) rfl rfl rfl hc i [] s5 _ H5 _ I (oo vy) qT F) λr s6 h=>?_;refine gb h λhr I6=>?_;subst hr;exact fin _ _ _ I6 qn
 ·refine aC (T.item (dw X xs fr f cl C s t g) rfl rfl rfl hc i [] s5 _ H5 _ I (oo vy) qT go) λr s6 h=>?_;refine bo h λu hr h6=>?_;subst hr;refine aC h6 λ_ s7 h=>?_;obtain⟨v,H7,I7,r7,y7,vD,MN⟩:=h;have MO:=I7.pinned (oo MN) (T.obj _ _ vD);refine eH (hg _ _ _ _ _ s7 _ H7 v u _ MO r7 (step v H7 y7 os qU)) (λ_ s8 h=>?_) λ _ _=>False.elim;obtain⟨σ8,H8,I8,⟨lR,LX,e8⟩,q8⟩:=h;subst e8;have again:∀{R:St} {q:Hp} {w:bN} {P:O V},R.length=xs.length->Inv (dw X xs fr f cl C s t g) ([]++rY g s7.heap) (R++iW σ fr) q w->N P q->
    ∃m,m<n/\∃i l H' os,os.length=xs.length/\Inv (dw X xs fr f cl C s t g) [] (os++iW σ fr) H' w/\L i w.heap/\(∀b∈g,H' b=aJ)/\W i m l H':=λ{R q w P} l1 x n9=>by
   obtain⟨m',hm,w9⟩:=hN P q n9;refine⟨m',hm,i+1,P,q,R,l1,x.wR,T.keep _ _ _ vD λb j o e=>(x.pin (b,o) (Yr _ (Yr _ (rC j e)))).1,λb j=>?_,w9⟩;obtain⟨o,e,d⟩:=T.obj _ _ vD b j;exact(x.pin (b,o) (Yr _ (Yr _ (rC j e)))).2.1
  refine eH (ht _ _ _ _ _ s8 _ H8 _ I8 q8) (λok w h=>?_) λ _ _=>False.elim;obtain⟨q,x,q9⟩:=h;cases ok with
  |false=>
   rw[bF Yl] at q9⊢;exact again LX x q9
  |true=>
   rw[bC rfl];rw[bC rfl] at q9;refine eH (he _ _ _ _ _ w _ q _ x q9) (λu1 MP h=>?_) λ _ _=>False.elim;obtain⟨y,qX,MQ,r10,hD,hz,qY⟩:=h;refine eH (yY (X:=dw X xs fr f cl C s t g) _ MP _ qX (.ref D) [y] _ [u1] (λ_ H'=>N (l++[y]) H') MQ rfl (.cons r10 .nil) ⟨_,l,y,rfl,rfl,hD,hz,qY⟩) (λ_ MR h=>?_) λ_ _ z=>False.elim z;obtain⟨_,Ar,DK,_,q11⟩:=h;exact again LX DK q11
def jI(J:It)(j:TT)(k:TE)(f:St)(D:U)(H:Hp)(Q:VK):Prop:=
 ∃W:Nat->Nat->O V->Hp->Prop,(∃m,W 0 m [] (upd H D (.lst [])))/\∀i m a H,W i m a H->
  (J.stop i H/\Q (.ref D) H)\/(J.go i H/\∃N:O V->Hp->Prop,(∀e b,N e b->∃d,d<m/\W (i+1) d e b)/\
   ∀v b,J.sM i H v b->j (Z v::f) b λc h=>if c=af then k (Z v::f) h λy g=>g D=Z (.lst a)/\a.length<sizeLine/\N (a++[y]) (upd g D (.lst (a++[y]))) else N a h)
section
variable {X:Cx}{G P:cH}{x:ar}{w F:Pos}{L:O cH}{R:Scope}{cl:O (ar×U)}{fr:O (ar×Nat)}{B:TT}{A:TE}{σ:St}
theorem PX{f:Hp}{s2:bN}{n:U}{d:O U}{k:Nat->c8->Prop}{J:It}{Q:VK}{r:a7->U->Result->bN->Prop}{E:bw}
  (hc:X.calm=af)(a:yZ X R cl x fr)
  (ht:∀C s H d,vC (xf X x fr R cl C s H d) L B)(he:∀C s H d,PE (xf X x fr R cl C s H d) G A)
  (I2:Inv X pins σ f s2)(T:Turn X.prog X.w X.K (.Name x w) J d n k)(fq:k 0 s2.heap)(f2:∀b∈d,jN X pins f b)
  (I:∀D,f D=aJ->jI J B A (iW σ fr) D f Q)
  (hR:∀D C g j m,Inv X pins σ j g->g.heap.Ns C m->j C=aJ->C≠X.env.locals->X.dB.heap.objs.size<=C->(∀y c,X.env.cells.lookup y=Z c->c≠C)->(∀p∈X.pn++pins,p.1≠C)->Q (.ref D) j->r (.ref D) C (.ok .next) g):
  wpAny X.md X.A (newList []) (λe eZ=>wpAny X.md X.A (newFunctionEnv R X.env.globals cl [] X.env.qual aJ .none (Z X.env)) (λl u=>
   codeAny X.md X.A (.compStart (.ListComp G [⟨.Name x w,P,L,0⟩] R F) 0 (.ref n) e {l with scope:=relabel R X.env}) (r e l.locals) u) E eZ) E s2:=by
 refine O_ (xs:=[x]) hc ⟨a.xy,a.sub,a.kind,a.names,a.CC,a.has,a.di,a.nd⟩ (λC s H d=>qw (i:=0) a.nd rfl (.inl (Nc a.lx)) (.inr (Nc a.lx))) ht he I2 T fq f2 (λD hD=>?_) hR;refine bo (I D hD) λW h0 h=>?_;refine⟨W,h0,λi m t H p=>?_⟩;rcases h i m t H p with z|⟨z,N,hN,q⟩;·exact .inl z
 ·refine .inr ⟨z,N,hN,λv H' y os hl=>?_⟩;match os,hl with
  |[o],_=>exact⟨⟨[Z v],rfl,rfl⟩,q v H' y⟩
def UG(b:TI)(fr:O (ar×Nat))(B:TT)(A:TE):TE:=λσ H Q=>b σ H λJ a=>∀D,a D=aJ->jI J B A (iW σ fr) D a Q
def jG(o:X.calm=af)(a:yZ X R cl x fr)(l:PI X (.Name x w) P c)
  (i:∀C s H fp,vC (xf X x fr R cl C s H fp) L B)(n:∀C s H fp,PE (xf X x fr R cl C s H fp) G A)
  (j:∀x,foldedSetIterable P X.env x=pure x:=by intro _;rfl):PE X (.ListComp G [⟨.Name x w,P,L,0⟩] R F) (UG c fr B A):=by
 intro b s σ H Q I h;refine vm rfl j a.xy a.kind a.names (aC (l b s σ H _ I h) λv d r=>aC r λvw s2 p=>?_);obtain⟨it,fp,tn,J,H2,e,I2,T,t,E,g⟩:=p;subst e;refine PX o a i n I2 T t E g ?_;intro D C d H1 m I1 k W N z y u q;exact⟨m,k,λh' f=>⟨.ref D,H1,I1.turned (f.extBut) W N (.inr z) y u,rfl,q⟩⟩
def Zc_(hc:X.calm=af)(hN:X.N.Nodup)(f:X.N[i]?=Z y)(r:Loc X.env.scope y)(b:yZ X R cl x fr)(W:PI X (.Name x w) P l)
  (u:∀C s H fp,vC (xf X x fr R cl C s H fp) L B)(he:∀C s H fp,PE (xf X x fr R cl C s H fp) G A)
  (d:swapsWith (.ListComp G [⟨.Name x w,P,L,0⟩] R F) (Z (.Name y py)) j.line X.env=pure af:=by with_unfolding_all rfl)
  (hf:X.fn y=af\/X.env.scope.names.lookup y=Z .local:=by first|exact .inl rfl|exact .inr rfl|assumption)
  (E:∀x,foldedSetIterable P X.env x=pure x:=by intro _;rfl):PS X (.Assign [.Name y py] (.ListComp G [⟨.Name x w,P,L,0⟩] R F) j) (uV (UG l fr B A) (n_ i)):=by
 intro c s σ H D I h;rw[exec_Assign_Name_used _ _ _ _ d];refine bt (mu (bt ?_));show wpAny _ X.A (do let _←comprehension (.ListComp G [⟨.Name x w,P,L,0⟩] R F) R X.env _ (newList []) bg (eval P X.env) (Z (assign (.Name y py) X.env))) _ _ s;refine bt (eH (vm rfl E b.xy b.kind b.names
  (aC (W c s σ H _ I h) λv o h1=>aC h1 λvw s2 h2=>?_)) (λ_ s' N=>cv (cv N)) λ_ _ e=>e)
 obtain⟨it,fp,tn,J,H2,e,I2,T,fq,f2,t⟩:=h2;subst e;refine PX hc b u he I2 T fq f2 t ?_;intro Dl C o H1 m I1 Q f0 f1 f3 k f5 q;refine WX (PL I1 hN f r (v:=.ref Dl) rfl (λs3 I3 z=>?_) hf);refine bo z λa n ha=>?_;have g:C≠a:=by
  rcases ha with z|z;·rwa[z]
  ·exact λq=>k _ _ z q.symm
 refine⟨m,Q.sameBut n g,λh' p=>?_⟩;exact⟨_,H1,I3.turned (p.extBut) f0 f1 (.inr f3) k f5,q⟩
end
def Iq{K:ah}(d:Nat->O V->Hp->Prop)(s:d 0 [] (upd H D (.lst [])))(n:∀i b H,i<=xs.length->d i b H->aq K H a xs)
  (w:∀i v b H,xs[i]?=Z v->d i b H->tt (Z v::f) H λc j=>if c=af then k (Z v::f) j λy h=>h D=Z (.lst b)/\b.length<sizeLine/\d (i+1) (b++[y]) (upd h D (.lst (b++[y]))) else d (i+1) b j)
  (r:∀b H,d xs.length b H->Q (.ref D) H):jI (kR K a) tt k f D H Q:=by
 refine⟨λi m b H=>m=xs.length-i/\i<=xs.length/\d i b H,⟨xs.length,QS,Yx _,s⟩,?_⟩;rintro i m b H ⟨rfl,o,p⟩;have q:=n i b H o p;by_cases g:i<xs.length
 ·refine .inr ⟨⟨xs,xs[i],q,by simp[g]⟩,d (i+1),λu t l=>⟨xs.length-(i+1),QO,rfl,g,l⟩,λx t y=>?_⟩;refine gb y λe y=>?_
  grind
 ·have e:i=xs.length:=(Nat.le_antisymm o (Nat.le_of_not_lt g))
  subst e;exact .inl ⟨⟨xs,q,Yd _⟩,r b H p⟩
def BN{K:ah}(d:Nat->O V->Hp->Prop)(s:d 0 [] (upd H D (.lst [])))(n:∀i b H,i<=xs.length->d i b H->az K H a xs)
  (w:∀i v b H,xs[i]?=Z v->d i b H->tt (Z v::f) H λc j=>if c=af then k (Z v::f) j λy h=>h D=Z (.lst b)/\b.length<sizeLine/\d (i+1) (b++[y]) (upd h D (.lst (b++[y]))) else d (i+1) b j)
  (r:∀b H,d xs.length b H->Q (.ref D) H):jI (xR K a) tt k f D H Q:=by
 refine⟨λi m b H=>m=xs.length-i/\i<=xs.length/\d i b H,⟨xs.length,QS,Yx _,s⟩,?_⟩;intro i m b H A;refine c9 A λz o p=>?_;subst z;have q:=n i b H o p;by_cases g:i<xs.length
 ·refine .inr ⟨⟨xs,xs[i],q,by simp[g]⟩,d (i+1),λu t l=>⟨xs.length-(i+1),QO,rfl,g,l⟩,λx t y=>?_⟩;refine gb y λe y=>?_
  grind
 ·have e:i=xs.length:=(Nat.le_antisymm o (Nat.le_of_not_lt g))
  subst e;exact .inl ⟨⟨xs,q,Yd _⟩,r b H p⟩
def yQ{lo:Int}{n:Nat}{f:TT}{g:TE}{d:St}{D:U}{H:Hp}{Q:VK}(b:Nat->O V->Hp->Prop)(q:b 0 [] (upd H D (.lst [])))
  (t:∀i a H,i<n->b i a H->f (Z (.int (lo+i))::d) H λc k=>if c=af then g (Z (.int (lo+i))::d) k λy j=>j D=Z (.lst a)/\a.length<sizeLine/\b (i+1) (a++[y]) (upd j D (.lst (a++[y]))) else b (i+1) a k)
  (o:∀a H,b n a H->Q (.ref D) H):jI (pH lo n) f g d D H Q:=by
 refine⟨λi m a H=>m=n-i/\i<=n/\b i a H,⟨n,QS,Yx _,q⟩,?_⟩;intro i m a H w;refine c9 w λv u p=>?_;subst v;by_cases h:i<n
 ·refine .inr ⟨h,b (i+1),λs r l=>⟨n-(i+1),QO,rfl,h,l⟩,λx r y=>?_⟩;refine gb y λe y=>?_
  simp_all
 ·have e:i=n:=(Nat.le_antisymm u (Nat.le_of_not_lt h))
  subst e;exact .inl ⟨Yd _,o a H p⟩
def Zkk(K:ah)(e:TE):TI:=λd H R=>e d H λx b=>∃a,x=.ref a/\((∃c,aq K b a c)/\R (kR K a) b\/(∃c,az K b a c)/\R (xR K a) b)
def Zh7(z:PE X l t):PI X B l (Zkk X.K t):=by
 intro f s m H R I h;refine aC (z f s m H _ I h) λv d n=>?_;obtain⟨x,k,c,w,g⟩:=n;obtain⟨a,e,g⟩:=g;subst e;cases w;rcases g with⟨⟨r,i⟩,q⟩|⟨⟨r,i⟩,q⟩
 ·obtain⟨A,u,p,y⟩:=c.list i;refine th p.isList ⟨d.heap.objs.size,[d.heap.objs.size],_,_,k,rfl,c.kept λ b o=>Yc _,PM a _,⟨_,Ys _ rfl,rfl,rfl⟩,λb j=>?_,q⟩;have e:b=d.heap.objs.size:=by simpa using j
  subst e;exact c.sy (Yd _) (c.aw.fresh (Yd _))
 ·obtain⟨A,u,p,y⟩:=c.tuple i;refine x9 (p) ⟨d.heap.objs.size,[d.heap.objs.size],_,_,k,rfl,c.kept λ b o=>Yc _,O6 a _,⟨_,Ys _ rfl,rfl,rfl⟩,λb j=>?_,q⟩;have e:b=d.heap.objs.size:=by simpa using j
  subst e;exact c.sy (Yd _) (c.aw.fresh (Yd _))
theorem GF:∀{a:O V} {b:O a7},a.length=b.length->(∀(i:Nat) (x:V) (u:a7),a[i]?=Z x->b[i]?=Z u->RelV x u)->Vals a b
 |[],[],_,_=>.nil
 |[],_::_,h,_=>by simp at h
 |_::_,[],h,_=>by simp at h
 |x::a,u::b,h,k=>.cons (k 0 x u rfl rfl) (GF (by simpa using h) λi y w d c=>k (i+1) y w (by simpa using d) (by simpa using c))
theorem Pa:∀{bs:O cu} {a:O a7},Vals (bs.map V.bl) a->a=bs.map Value.bool:=by
 intro bs;induction bs with
 |nil=>intro a r;cases r;rfl
 |cons b bs c=>
  intro a r;rw[Wj] at r;cases r with
  |cons r t=>
   have d:=r;rw[d,c t];rfl
noncomputable def bQ(n:Nat):O Int:=(List.range n).map λi:Nat=>(i:Int)
def fR(n:Nat):(bQ n).length=n:=by simp[bQ]
def nL(h:i<n):(bQ n)[i]?=Z (i:Int):=by
 unfold bQ
 simp_all
def Ze_(a:O cu):(List.range a.length).any (λi=>a.getD i bg)=a.any id:=by
 rw[Wn,Jg,Jg];constructor
 ·rintro⟨i,c,d⟩;rw[Wg] at c;have e:a.getD i bg=a[i]:=by rw[Yk,Yb c];rfl
  rw[e] at d;exact⟨a[i],J7 c,d⟩
 ·rintro⟨b,d,e⟩;obtain⟨i,c,rfl⟩:=Ww.mp d;refine⟨i,Wg.mpr c,?_⟩
  simp_all
def Zfa(c:O cu):(List.range c.length).all (λi=>c.getD i bg)=c.all id:=by
 rw[Wn,Wo,Wo];constructor
 ·intro h b d;obtain⟨i,a,rfl⟩:=Ww.mp d;simp_all
 ·intro h i a;rw[Wg] at a;rw[Yk,Yb a];exact h _ (J7 a)
def Zci:∀{a b:O Int},a.length=b.length->(List.range a.length).all (λj=>a.getD j 0==b.getD j 0)=decide (a=b):=by
 intro a b c;rw[Wn,Wo,jV];constructor
 ·intro h;refine List.ext_getElem c λi e d=>?_;simp_all
 ·grind
section
variable {X:Cx}
def VC(K:ah):O V->Hp->VK->Prop:=λa H Q=>∃(p:U) (bs:O cu),a=[.ref p]/\aq K H p (bs.map V.bl)/\Q (.bl (bs.any id)) H
def VD(K:ah):O V->Hp->VK->Prop:=λa H Q=>∃(p:U) (bs:O cu),a=[.ref p]/\aq K H p (bs.map V.bl)/\Q (.bl (bs.all id)) H
theorem ZaW(l:X.calm=af):dz X (.builtin "any") (VC X.K):=by
 intro d s w H x y Q I r L;refine gR L λp bs J j q=>?_;subst J;obtain⟨u,rfl,f⟩:=vals1 r;cases f;obtain⟨E,g,h,B⟩:=I.list j;have e:=Pa g;subst e;have c:=h.isList;have t:p<s.heap.objs.size:=by obtain⟨_,e,_⟩:=c;exact Yu e
 refine call_any_walk (th c ⟨s.heap.objs.size,_,_,_,_,_,λi=>bs.getD i bg,rfl,An (show X.A.in1.handled=aJ from I.ok.hd l) s.heap.objs.size p (Yz t) (bs.map Value.bool).toArray,⟨⟨_,Ys _ rfl,rfl,rfl⟩,c.push _⟩,?_,λD z k=>?_⟩)
 ·intro i v A F G m C;have a:(bs.map Value.bool)[i]?=Z v:=by simpa using m
  rw[Ye] at a;cases e:bs[i]? with
  |none=>simp_all
  |some b=>
   rw[e] at a;have n:=Yp a;subst n;refine nh ?_
   simp_all
 ·refine⟨.bl (bs.any id),H,I.kept (λb o e=>k b o (by simpa using Yz (Yu e)) (Yc _ e)),?_,q⟩;show Value.bool _=Value.bool _;have e:(bs.map Value.bool).toArray.size=bs.length:=QS
  rw[e,Ze_]
theorem ZaX(l:X.calm=af):dz X (.builtin "all") (VD X.K):=by
 rintro d s w H x y Q I r ⟨p,bs,rfl,j,q⟩;obtain⟨u,rfl,f⟩:=vals1 r;cases f;obtain⟨E,g,h,B⟩:=I.list j;have e:=Pa g;subst e;have c:=h.isList;have t:p<s.heap.objs.size:=by obtain⟨_,e,_⟩:=c;exact Yu e
 refine call_all_walk (th c ⟨s.heap.objs.size,_,_,_,_,_,λi=>bs.getD i bg,rfl,An (show X.A.in1.handled=aJ from I.ok.hd l) s.heap.objs.size p (Yz t) (bs.map Value.bool).toArray,⟨⟨_,Ys _ rfl,rfl,rfl⟩,c.push _⟩,?_,λD z k=>?_⟩)
 ·intro i v A F G m C;have a:(bs.map Value.bool)[i]?=Z v:=by simpa using m
  rw[Ye] at a;cases e:bs[i]? with
  |none=>simp_all
  |some b=>
   rw[e] at a;have n:=Yp a;subst n;refine nh ?_
   simp_all
 ·refine⟨.bl (bs.all id),H,I.kept (λb o e=>k b o (by simpa using Yz (Yu e)) (Yc _ e)),?_,q⟩;show Value.bool _=Value.bool _;have e:(bs.map Value.bool).toArray.size=bs.length:=QS
  rw[e,Zfa]
inductive Tf(K:ah)(a:O V)(H:Hp)(Q:VK):Prop
 |mk (x:V) (t:a7) (c:String) (b:cu) (g:a=[x,.ty c]) (e:ko K H x t) (f:kitOne K t (.type c)=Z b) (d:Q (.bl b) H):Tf K a H Q
def CZ(K:ah):O V->Hp->VK->Prop:=λa H Q=>Tf K a H Q
def Zcj:dz X (.builtin "isinstance") (CZ X.K):=by
 rintro a s h H i k Q I r ⟨x,t,c,b,rfl,ty,e,q⟩;refine gR (vals2 r) λu j l g f=>?_;subst l;cases f;exact Zd_ I g ty e λd=>⟨.bl b,H,I.tok d,rfl,q⟩
def Pb(u:T="list"\/T="tuple")
  (p:s.heap.get? l=Z o)(t:o.cls=.type T)(r:o.data=.seq ai.toArray n)(v:IntsAre ai ns)(m:ai.length<64)(f:ai.toArray.size<=sizeLine)
  (h:∀(a g:c8) (out:dq a7) (c:O Int) (e:Nat),(∀b o,s.heap.get? b=Z o->a.get? b=Z o)->(∀b o,a.get? b=Z o->g.get? b=Z o)->g.get? a.objs.size=Z (seqObj "list" out e)->IntsAre out.toList c->c.Perm ns->c.Pairwise (·<=·)->Q (.ref a.objs.size) {s with heap:=g}):
  wpAny (model prog w) A (call (.builtin "sorted") [.ref l]) Q E s:=by
 refine xA kind_sorted plain_sorted entry_sorted (args_sorted1 _) (bt (cv ?_));refine bt (V1 l u p t r (λa k=>bt (vO ?_)) f);have x:ai.toArray.toList=ai:=QS
 rw[x];have d:(a.push (seqObj "list" ai.toArray 0)).get? a.objs.size=Z (seqObj "list" ai.toArray 0):=Ys _ rfl;refine bt (kY (rz slot_list_sort ⟨_,d,rfl⟩ entry_list_sort (list_sort_tree d v m λout c B z y=>⟨_,rfl,?_⟩) (args_list_sort _)));obtain⟨e,q⟩:=sortedHeap_at d;exact cv ⟨_,rfl,h a _ out c e k (λb C j=>by
  have i:=Yu j;rw[sortedHeap_old (Yz i) (by rw[size_push'];exact Wr i),Jw _ _ _ (Yz i)];exact j) q B z y⟩
def Kb(K:ah):O V->Hp->VK->Prop:=λc H Q=>∃(p:U) (a:O Int),c=[.ref p]/\(aq K H p (a.map V.int)\/az K H p (a.map V.int))/\a.length<64/\
  ∀(l:U) (b:O Int),H l=aJ->b.Perm a->b.Pairwise (·<=·)->Q (.ref l) (upd H l (.lst (b.map V.int)))
def OV:dz X (.builtin "sorted") (Kb X.K):=by
 intro f s w H F G Q I r N;refine dE N λp y L g J q=>?_;subst L;obtain⟨u,rfl,x⟩:=vals1 r;cases x;have fin:∀(a h:c8) (out:dq a7) (c:O Int) (e:Nat),(∀b o,s.heap.get? b=Z o->a.get? b=Z o)->(∀b o,a.get? b=Z o->h.get? b=Z o)->h.get? a.objs.size=Z (seqObj "list" out e)->IntsAre out.toList c->c.Perm y->c.Pairwise (·<=·)->
   EP X f w Q (.ref a.objs.size) {s with heap:=h}:=λa h out c e z E A D t C=>by
  have v:=I.kept (t':=s.toks) z;refine⟨.ref a.objs.size,_,v.laid (o:=.lst (c.map V.int)) E (Yd _) ⟨?_,out.toList,e,Ip D,by simpa[seqObj] using A⟩,rfl,q _ c (v.aw.fresh (Yd _)) t C⟩;rw[Ya,t.length_eq];exact Jn (lE QO)
 rcases g with g|g
 ·obtain⟨B,d,i,j⟩:=I.list g;obtain⟨o,n,k,m,_,hd⟩:=i;have l:=d.length;rw[Ya] at l;rw[Ya] at j;exact Pb (.inl rfl) k m hd (intsAre_of d) QO (by rw[Yq];omega) fin
 ·obtain⟨B,d,i,j⟩:=I.tuple g;obtain⟨o,k,m,n,hd⟩:=i;have l:=d.length;rw[Ya] at l;rw[Ya] at j;exact Pb (.inr rfl) k m hd (intsAre_of d) QO (by rw[Yq];omega) fin
def RV:O V->Hp->VK->Prop:=λa H Q=>∃j:Int,a=[.int j]/\∀p:U,H p=aJ->Q (.ref p) (upd H p (.kQ 0 j))
def QB:O V->Hp->VK->Prop:=λa H Q=>∃(p:U) (n:Nat),a=[.ref p]/\H p=Z (.kQ 0 (n:Int))/\n<=1000/\∀l:U,H l=aJ->Q (.ref l) (upd H l (.lst ((bQ n).map V.int)))
def zV(K:ah):O V->Hp->VK->Prop:=λb H Q=>∃(p:U) (a:O V),b=[.ref p]/\(aq K H p a\/az K H p a)/\Q (.int a.length) H
def Zda:dz X (.builtin "len") (zV X.K):=OQ
def Bi:dz X (.type "range") RV:=by
 rintro a s c H d f Q I r ⟨j,rfl,q⟩;obtain⟨u,rfl,t,rfl⟩:=vals1 r;exact call_range_1 ⟨.ref s.heap.objs.size,_,I.laid (o:=.kQ 0 j) (λb o e=>Yc _ e) (Yd _) ⟨_,_,_,Ys _ rfl⟩,rfl,q _ (I.aw.fresh (Yd _))⟩
def FY(w:X.calm=af):dz X (.type "list") QB:=by
 intro d s B H C D Q I r J;refine dE J λp n G h k q=>?_;subst G;obtain⟨u,rfl,g⟩:=vals1 r;cases g;obtain⟨t,u,v,j⟩:=I.aw p _ h;refine call_list_range (I.ok.hd w) j (Az (by decide) (by decide) QO QO) (n:=n) (by rw[zl];split<;>omega) (Nat.le_trans k (by decide)) λF E c A l a e=>⟨.ref s.heap.objs.size,_,I.laid (o:=.lst ((bQ n).map V.int)) l (Yd _) ⟨?_,c.toList,A,?_,by simpa using a⟩,rfl,q _ (I.aw.fresh (Yd _))⟩
 ·rw[Ya,fR];exact Jn (lE k)
 ·refine GF (by rw[Ya,fR];simp[e.1]) λi x u b z=>?_;obtain⟨f,rfl⟩:=e.2 i u (by simpa using z);have m:i<n:=by
   have:=(Yh.mp b).1;rw[Ya,fR] at this;exact this
  rw[Ye,nL m] at b;have y:=Yp b;subst y;exact⟨f,by rw[show(0:Int)+(i:Int)*1=(i:Int) by omega]⟩
def RW{a:O Int}(r:Vals (a.map V.int) b)(h:j<b.length):∃t,b[j]=.int (a.getD j 0) t:=by
 have c:=r.length;rw[Ya] at c;have d:j<a.length:=QO
 obtain⟨u,e,t,rfl⟩:=r.get (by rw[Ye,Yb d];rfl)
 simp_all
def VF(K:ah)(b:cu):R2:=λx y H Q=>∃(p q:U) (a c:O Int),x=.ref p/\y=.ref q/\aq K H p (a.map V.int)/\aq K H q (c.map V.int)/\Q (.bl (if b=af then !decide (a=c) else decide (a=c))) H
def Tg(o:X.A.units<cLine):cV X (compareOp .Eq) (VF X.K bg):=by
 intro i s G H x y v u Q I z w R;refine ju R λp q a b P N d c k=>?_;subst P;subst N;cases z;cases w;refine cm (I.list d) λF h m L=>?_;refine cm (I.list c) λC g l J=>?_;have n:=h.length;have A:=g.length;rw[Ya] at n A;by_cases B:a.length=b.length
 ·refine YP (e:=λj=>a.getD j 0==b.getD j 0) m.isList l.isList (by simp;omega) o (λj d c=>?_) (de I k ?_)
  ·obtain⟨t,E⟩:=RW h (by simpa using d);obtain⟨t',D⟩:=RW g (by simpa using c);have r:F.toArray[j]=.int (a.getD j 0) t:=by simpa using E
   have f:C.toArray[j]=.int (b.getD j 0) t':=by simpa using D
   rw[r,f];exact vt _ _ _ _
  ·rw[bF Yl,Yq,←n,Zci B]
 ·refine EC m.isList l.isList (by simp;omega) o (de I k ?_)
  grind
def hU(a:St->Hp->Prop)(e:∀c:St->Hp->Prop,(∀b H,a b H->c b H)->t {D with nx:=c} b H)(d:∀b H,a b H->u D b H):zP t u D b H:=e _ d
def jJ(d:Gl X x)(c:X.mg x=aJ)(a:bootBuiltins x=Z (.type T))(b:x≠"__name__":=by decide)(e:(x==("__debug__":ar))=bg:=by decide):PE X (.Name x pos) (tC (.ty T)):=Zgq d c a rfl b e
end
def HasFn(P:dC)(w:dg)(K:ah)(c:a8)(a:c8)(k:Nat)(x:ar)(b:O ar)(e:Sp):Prop:=
 ∃f d,aI P w K c a aR k f d b e/\Binds K d b []/\keepIn K (.ref f)=af/\c x=Z (.ref f)
section
variable {K:ah}{X:Cx}{k j:Nat}{W:Sp}{x:ar}{ps:O ar}
def Lo(h:HasFn X.prog X.w X.K X.mg X.base k x ps W)(c:cW j X.A)(d:k<=j)(g:Gl X x)(l:PA X (e::es) t)
  (n:(x==("__debug__":ar))=bg:=by decide)(i:jv X e es:=by rfl)(o:jR X pos es:=by rfl):
  PE X (.Call (.Name x p) (e::es) [] pos) (Cz W [] E0 t):=by
 refine dE h λf q F b a m=>?_;exact Zgs F (c.mono d) g m a b .nil uJ l n i o
def cF(h:H p=aJ)(o:HO):aj H (upd H p o):=λb u q=>by rwa[aS (cC q h)]
def aj.kz(e:aj H b)(h:az K H a xs):az K b a xs:=by
 rcases h with(h|⟨o,h⟩)|h;·exact .inl (.inl (e _ _ h))
 ·exact .inl (.inr ⟨o,e _ _ h⟩)
 ·exact .inr h
def Zfb(h:X.K=K):jT X (xw K):=h▸Ka
def ZgC(h:X.K=K):jT X (CW K):=h▸Tb
def ZgD(h:X.K=K):dz X (.builtin "isinstance") (CZ K):=h▸Zcj
def Zkm(h:X.K=K):dz X (.builtin "len") (zV K):=h▸Zda
def kL(h:Q af H):zU σ H Q:=h
def aZ(h:n σ H):Uz ⟨n,a,bk,b⟩ σ H:=h
def rZ(d:St->Hp->Prop)(h:∀f:St->Hp->Prop,(∀e H,d e H->f e H)->LI c a b {D with nx:=f} e H)(g:∀e H,d e H->u D e H):zP (LI c a b) u D e H:=h _ g
def Zh8(x:Int)(c:0<m)(d:m<=2^62):-(2^64)<x % m/\x % m<2^64:=by
 have a:=W9 x (MS c);have b:=Wv x c;omega
theorem Pc:∀(l:O α) (k:Nat) (h:k<l.length),l.Perm (l[k]::l.eraseIdx k)
 |[],k,h=>absurd h (Wk k)
 |a::r,0,_=>tL _
 |a::r,k+1,h=>(List.Perm.cons a (Pc r k (KN h))).trans (List.Perm.swap _ _ _)
theorem PY(f:α->β):∀(l:O α) (k:Nat),(l.map f).eraseIdx k=(l.eraseIdx k).map f
 |[],_=>rfl
 |_::_,0=>rfl
 |a::r,k+1=>by
  show f a::(r.map f).eraseIdx k=f a::(r.eraseIdx k).map f;rw[PY f r k]
def KO{n:Nat}{i:Int}(b:0<=i)(a:i<n):kT n i=Z i.toNat:=by
 unfold kT
 simp_all
def oX{a:O Int}{i:Int}(c:0<=i)(b:i<a.length):dY (a.map V.int) i=Z (.int (a.getD i.toNat 0)):=by
 have e:i=((i.toNat:Nat):Int):=(Eq.symm (Int.toNat_of_nonneg c))
 rw[e];refine iz ?_
 grind
theorem mM{a:O Int}{i:Nat}{y:V}(h:(a.map V.int)[i]?=Z y):∃z,y=.int z/\a[i]?=Z z:=by
 rw[Ye] at h;cases e:a[i]? with
 |none=>simp_all
 |some z=>simp_all
def QC(a:O Int)(z:Int):a.map V.int++[V.int z]=(a++[z]).map V.int:=QS
def QE(a:O Int)(b c:bS Int):∃d:O Int,oq (a.map V.int) b c=d.map V.int:=by
 refine⟨(a.drop (HT.cK a.length 0 b)).take (HT.cK a.length a.length c-HT.cK a.length 0 b),?_⟩;unfold oq;simp_all
end
def Th:bootBuiltins "abs"=Z (.builtin "abs"):=QK
def Zh9:bootBuiltins "any"=Z (.builtin "any"):=QK
def Ti:bootBuiltins "all"=Z (.builtin "all"):=QK
def Ck:bootBuiltins "len"=Z (.builtin "len"):=QK
def Tj:bootBuiltins "min"=Z (.builtin "min"):=QK
def BA:bootBuiltins "sorted"=Z (.builtin "sorted"):=QK
def FZ:bootBuiltins "isinstance"=Z (.builtin "isinstance"):=QK
def uq:bootBuiltins "list"=Z (.type "list"):=QK
def nM:bootBuiltins "tuple"=Z (.type "tuple"):=QK
def uj:bootBuiltins "range"=Z (.type "range"):=QK
def zd:bootBuiltins "bool"=Z (.type "bool"):=QK
def KP:bootBuiltins "int"=Z (.type "int"):=QK
def zx:bootBuiltins "str"=Z (.type "str"):=QK
def Bd(d p:Int):Prop:=0<=d/\d<p
inductive QF(K:ah)(b:O V)(H:Hp)(Q:VK):Prop
 |mk (a:U) (d:O Int) (k:Int) (h:b=[.ref a,.int k]) (f:aq K H a (d.map V.int)) (g:0<=k) (e:∀c:Int,Q (.int c) H):QF K b H Q
def Tn(K:ah):Sp:=λa H Q _=>QF K a H Q
inductive PZ(K:ah)(e:O V)(H:Hp)(Q:VK):Prop
 |mk (c:Int) (a:U) (b:O Int) (k:e=[.int c,.ref a]) (i:aq K H a (b.map V.int)) (j:(∀p∈b,0<p/\p<1073741824)) (g:b.length<=60) (h:∀(l:U) (f:O Int) (d:Hp),H l=aJ->aj H d->d l=Z (.lst (f.map V.int))->Paired Bd f b->Q (.ref l) d):PZ K e H Q
def Kc(K:ah):Sp:=λa H Q _=>PZ K a H Q
inductive QH(b:O V)(H:Hp)(Q:VK):Prop
 |mk (c:Int) (n:Nat) (g:b=[.int c,.int (n:Int)]) (e:n<=60) (f:∀(t:U) (d:O Int) (a:Hp),H t=aJ->aj H a->a t=Z (.tup (d.map V.int))->d.Perm (bQ n)->Q (.ref t) a):QH b H Q
def To:Sp:=λa H Q _=>QH a H Q
def RX(h:PE X o to)(j:PE X i d)(g:uU X t)(k:PE X e f)
  (p:swapsWithSole [.Subscript o i a] e pos.line X.env=pure bg:=by rfl)(n:swappedStores [.Subscript o i a] e X.env=pure aJ:=QR)
  (m:(assignEach [.Subscript o i a] X.env).map (·.2)=[assign (.Subscript o i a) X.env]:=QR)
  (l:∀v,assign (.Subscript o i a) X.env v=(do
   let b←holding [v] (eval o X.env);let c←holding [v,b] (eval i X.env)
   standAt a
   holding [v,b,c] (setItem b c v)
   release [v,b,c] []):=by intro _;rfl):PS X (.Assign [.Subscript o i a] e pos) (uV f (Vu to d t)):=mN k (ZhV h j g l) p n m
def iD(h:c8)(a C:U)(d:bS U)(c:dq a7):Prop:=∃b:Obj,h.get? a=Z b/\b.cls=.ref C/\b.dict=d/\b.data=.fields c/\1<c.size
noncomputable def xo(a C:U)(d:bS U):HO:=.ext λh=>∃b,iD h a C d b
def N0(a:dq a7):Prop:=a[1]?=Z Value.none/\a[2]?=Z Value.none/\a.size=6
noncomputable def xn(a C:U)(d:bS U):HO:=.ext λh=>∃b,iD h a C d b/\N0 b
def iD.keep(x:iD f a C d vs)(k:∀o,f.get? a=Z o->c.get? a=Z o):iD c a C d vs:=by
 refine bo x λb e r=>?_;exact⟨b,k _ e,r⟩
def UH(x:iD h a C d c):cX P w H h a (xo a C d):=
 ⟨⟨c,x⟩,let⟨f,e,_⟩:=x;⟨f,e⟩,λ_ _ ⟨b,y⟩ k=>⟨b,y.keep k⟩⟩
def Lp(x:iD h a C d vs)(z:N0 vs):cX P w H h a (xn a C d):=
 ⟨⟨vs,x,z⟩,let⟨c,e,_⟩:=x;⟨c,e⟩,λ_ _ ⟨b,y,q⟩ k=>⟨b,y.keep k,q⟩⟩
def Tp(b:dH P w H h)(e:H a=Z (xo a C d)):∃vs,iD h a C d vs:=(b a _ e).1
def Cm(b:dH P w H h)(e:H a=Z (xn a C d)):∃vs,iD h a C d vs/\N0 vs:=(b a _ e).1
def xW(d:Nat)(H:Hp)(h:c8)(a:dq a7):Prop:=
 a[1]?=Z Value.none\/∃T c b,a[1]?=Z (Value.ref T)/\d<=T/\H T=aJ/\h.get? T=Z c/\c.data=.fields b/\b[3]?=Z Value.none
def i_(b:cu)(P:dC)(w:dg):lO:=λc H s E e f=>∃(a C d:U) (g:Hp) (h:dq a7),e=.ref a/\s.heap.objs.size<=a/\f.os=s.os/\AllBare f.gens/\Un (di c) [] H g s.heap f.heap/\dH P w g f.heap/\
 g a=Z (xo a C (Z d))/\iD f.heap a C (Z d) h/\(xW s.heap.objs.size g f.heap h/\(b=af->h[2]?=Z Value.none))/\E (.ref C) (Z d) g
abbrev lS:=i_ af
section
variable {M:Model}{A:fb}{X:bw}{s:bN}
def P0{l:c8}{d:Env}{a:O Env}{L e:U}{u:Obj}{n:dq a7}{g:a7}{b0:cu}{Q:Unit->bN->Prop}
  (fr:A.frames=Z (d::a))(H:s.heap.FunFrames l (d::a))(hL:d.frame=Z L)(m:s.heap.get? e=Z u)(f:u.data=.fields n)(F:1<n.size)
  (k:∀i T D,(∀b o,b≠e->b∉di (d::a)->s.heap.get? b=Z o->i.get? b=Z o)->(∀b o,b∈di (d::a)->s.heap.get? b=Z o->∃r,i.get? b=Z {o with slots:=r})->
   i.get? e=Z {u with data:=.fields (n.setIfInBounds 1 (.ref T))}->s.heap.objs.size<=T->T≠e->i.get? T=Z {cls:=.type "traceback",dict:=aJ,data:=.fields D}->D[3]?=Z Value.none->Q () {s with heap:=i}):
  wpAny M A (do let fo←frameOf d;let t←entryPlaceOf L b0;let en←EntryCells.newEntry g fo .none (rawInt L) .none t;setField (.ref e) 1 en) (λ_ R=>wpAny M A (setFlight (.ref e) aJ) Q X R) X s:=by
 have out:e∉di (d::a):=λz=>by
  obtain⟨_,o,q,W⟩:=H.mem z;rw[m] at q;cases q;exact W n f
 refine bt (wpAny_frameOf_fun fr H hL λh p=>bt (wpAny_entryPlaceOf λt ip=>?_));unfold EntryCells.newEntry newFields;refine bt (ni ?_ (ip.sizeOk5 _ _ _ _ _));generalize w:([g,Value.ref L,Value.none,rawInt L,Value.none]++(if t.isEmpty=af then List.replicate 6 Value.none else t)).toArray=v;have G:3<v.size:=by
  rw[←w,Yq,Yj];simp[Wi,Xv];exact Nat.lt_add_right _ (by decide)
 have N:=(p.2.1 e out).trans m;have lt:=Yu N;have J:=Yc {cls:=.type "traceback",dict:=aJ,data:=.fields v} N;refine tK J f F ?_;have P:=ya f (·.setIfInBounds 1 (Value.ref h.objs.size));have I:=Wq (Obj.mapFields (·.setIfInBounds 1 (Value.ref h.objs.size))) J (xQ P);have E:=(Wa (h.push {cls:=.type "traceback",dict:=aJ,data:=.fields v}) (Obj.mapFields (·.setIfInBounds 1 (Value.ref h.objs.size))) (Yz lt)).trans (Ys h rfl);unfold setFlight;refine bt (my I P (x:=.ref h.objs.size) (by simp[F]) ?_);rw[bC QS];refine tK E rfl G (k _ h.objs.size (v.setIfInBounds 3 Value.none) ?_ ?_ ?_ (DF p.1.symm) (Jo lt) ?_ (by simp[G]))
 ·intro b o C B y;have j:=(p.2.1 b B).trans y;rw[Wa _ _ (Jo (Yu j)),Wa _ _ (lp C)];exact Yc _ j
 ·intro b o B y;obtain⟨r,j⟩:=p.2.2 b o y;have C:b≠e:=λz=>out (z▸B);refine⟨r,?_⟩;rw[Wa _ _ (Jo (Yu j)),Wa _ _ (lp C)];exact Yc _ j
 ·rw[Wa _ _ (Jo lt),I];obtain⟨c,dd,da,r⟩:=u;cases f;rfl
 ·exact Wq _ E (xQ (ya rfl _))
end
theorem Zfc
  (fr:A.frames=Z (env::outer))(jt:s1.heap.FunFrames base (env::outer))(B:∀b∈di (env::outer),H1 b=aJ)(hL:env.frame=Z L)(cx:i_ b P w (env::outer) H1 s1 E e s')
  (k:∀s3,i_ b P w (env::outer) H1 s1 E e s3->(∀a,e=.ref a->∃o ws T,s3.heap.get? a=Z o/\o.data=.fields ws/\ws[1]?=Z (Value.ref T))->Q () s3):
  wpAny (model P w) A (noteFrame e env) (λ_ s2=>wpAny (model P w) A (setFlight e aJ) Q Er s2) Er s':=by
 obtain⟨a,C,d,D,vs,rfl,lo,os,bare,un,aw,ha,xr,⟨fl,fz⟩,q⟩:=cx;refine iy xr λoe at_ cls dic n sz=>?_;have nx:∀b:U,b∉([]:O U):=λb z=>absurd z QS;have m:s'.heap.FunFrames base (env::outer):=by
  have all:∀l:O Env,(∀b∈di l,b∈di (env::outer))->s1.heap.FunFrames base l->s'.heap.FunFrames base l:=by
   intro l;induction l with
   |nil=>exact λ_ _=>trivial
   |cons x r ih=>
    rintro hs ⟨kd,⟨L',o,j,W,f,F⟩,R⟩;have X:L'∈di (x::r):=by
     unfold di;rw[Jp,j];exact Yo
    obtain⟨N,v⟩:=un.slot L' o f (B L' (hs _ X)) (hs _ X) (nx _);refine⟨kd,⟨L',_,j,W,v,F⟩,ih (λb h=>hs b ?_) R⟩;unfold di at h⊢;rw[Jp,j];exact Yw _ h
  exact all _ (λ_ z=>z) jt
 have VG:s1.heap.get? a=aJ:=J1 lo;have cA:∀b∈di (env::outer),∃o,s'.heap.get? b=Z o/\∀ws,o.data≠.fields ws:=λb h=>(m.mem h).2;have Xw:∀b∈di (env::outer),D b=aJ:=λb h=>by
  obtain⟨_,o,f,_⟩:=jt.mem h;exact un.free b o f (B b h) (nx _)
 have frS:∀b∈di (env::outer),b<s1.heap.objs.size:=λb h=>let⟨_,o,f,_⟩:=jt.mem h;Yu f
 --Zj0 is wanted of any ZmA end
 have fin:∀(h':c8) (T:U) (p:dq a7),(∀b o,b≠a->b∉di (env::outer)->s1.heap.objs.size<=b\/D b≠aJ\/s'.heap.get? b=Z o->s'.heap.get? b=Z o->(D b≠aJ\/b<s1.heap.objs.size)->h'.get? b=Z o)->
   (∀b o,b∈di (env::outer)->s'.heap.get? b=Z o->∃N,h'.get? b=Z {o with slots:=N})->h'.get? a=Z {oe with data:=.fields (vs.setIfInBounds 1 (.ref T))}->
   s'.heap.objs.size<=T->T≠a->h'.get? T=Z {cls:=.type "traceback",dict:=aJ,data:=.fields p}->p[3]?=Z Value.none->i_ b P w (env::outer) H1 s1 E (.ref a) {s' with heap:=h'}/\∀a',Value.ref a=.ref a'->∃o ws T,h'.get? a'=Z o/\o.data=.fields ws/\ws[1]?=Z (Value.ref T):=by
  intro h' T p kp N ea lT neT eT t3;have DL:∀b o,b≠a->b∉di (env::outer)->s'.heap.get? b=Z o->(D b≠aJ\/b<s1.heap.objs.size)->h'.get? b=Z o:=λb o t H I G=>kp b o t H (.inr (.inr I)) I G;have szs:s1.heap.objs.size<=s'.heap.objs.size:=Yy lo (Jn (Yu at_));have nT:D T=aJ:=aw.fresh lT;have Xx:iD h' a C (Z d) (vs.setIfInBounds 1 (.ref T)):=⟨_,ea,cls,dic,rfl,by rw[Xy];exact sz⟩;have LW:dH P w D h':=by
   intro b o h;by_cases e1:b=a
   ·subst e1;rw[ha] at h;cases h;exact UH Xx
   ·have F:b∉di (env::outer):=λz=>by rw[Xw b z] at h;cases h
    have own:∀c,D c=Z (.own b)->c≠a:=λc i z=>by rw[z,ha] at i;cases i
    refine(aw b o h).jq (λc u i g=>?_) (λc i=>i) (λc xs i=>i);rcases i with rfl|i;·exact DL _ u e1 F g (.inl (by rw[h];simp))
    ·exact DL c u (own c i) (λz=>by rw[Xw c z] at i;cases i) g (.inl (by rw[i];simp))
  refine⟨?_,λa' e'=>by cases e';exact⟨_,_,T,ea,rfl,by simp[sz]⟩⟩;refine⟨a,C,d,D,_,rfl,lo,os,bare,⟨λb o f W j J=>?_,λb o f W j J=>?_,un.free,λb o f J=>?_,un.iZ,un.jr,un.jM⟩,LW,ha,Xx,⟨.inr ⟨T,_,p,by simp[sz],Yy szs lT,nT,eT,rfl,t3⟩,λz=>by rw[Jl QD];exact fz z⟩,q⟩
  ·have v:=un.keep b o f W j J;exact DL b o (λz=>by rw[z,VG] at f;cases f) j v (.inr (Yu f))
  ·obtain⟨s0,v⟩:=un.slot b o f W j J;obtain⟨s2,g3⟩:=N b _ j v;exact⟨s2,g3⟩
  ·obtain⟨o',v⟩:=un.there b o f J;have h:b≠a:=λz=>by rw[z,VG] at f;cases f
   by_cases j:b∈di (env::outer)
   ·obtain⟨s2,g3⟩:=N b _ j v;exact⟨_,g3⟩
   ·exact⟨o',DL b o' h j v (.inr (Yu f))⟩
 have hE:(env.frame=Z L):=hL;unfold noteFrame;simp only[hE];refine bt ?_;rcases fl with z|⟨T0,oT,Au,z,lT,MT,g0,d0,t0⟩
 ·refine my at_ n z ?_;rw[bF QD];refine P0 fr m hL at_ n sz λh' T p k1 k2 k3 k4 k5 k6 k7=>(λz=>k _ z.1 z.2) (fin h' T p (λb o t H _ I _=>k1 b o t H I) k2 k3 k4 k5 k6 k7)
 ·refine my at_ n z ?_;rw[bC QS];have DM:T0≠a:=λy=>by rw[y,ha] at MT;cases MT
  refine bt (my g0 d0 t0 ?_);rw[bF (by simp[rawInt])];refine bt (tK g0 d0 (Jz.mp t0).1 ?_);have aU:∀b,b≠T0->(s'.heap.update T0 (Obj.mapFields (·.setIfInBounds 3 Value.none))).get? b=s'.heap.get? b:=λb h=>Wa _ _ (lp h);have fT:T0∉di (env::outer):=λy=>by
   obtain⟨o,f,F⟩:=cA T0 y;rw[g0] at f;cases f;exact F _ d0
  have szu:(s'.heap.update T0 (Obj.mapFields (·.setIfInBounds 3 Value.none))).objs.size=s'.heap.objs.size:=Heap.size_after_update ..;refine P0 (s:={s' with heap:=s'.heap.update T0 (Obj.mapFields (·.setIfInBounds 3 Value.none))}) fr (m.of_keeps λb o f F=>⟨o,(aU b λy=>by rw[y,g0] at f;cases f;exact F _ d0).trans f,rfl⟩) hL ((aU a (lp DM)).trans at_) n sz
   λh' T p k1 k2 k3 k4 k5 k6 k7=>(λz=>k _ z.1 z.2) (fin h' T p (λb o t H _ I G=>?_) (λb o t H=>?_) k3 (by rw[←szu];exact k4) k5 k6 k7)
  ·have nb:b≠T0:=λy=>by
    subst y;rcases G with G|G;·exact G MT
    ·exact absurd lT (Nat.not_le.mpr G)
   exact k1 b o t H ((aU b nb).trans I)
  ·exact k2 b o t ((aU b λy=>fT (y▸t)).trans H)
def RY
  (i:A.frames=Z (env::outer))(g:s1.heap.FunFrames base (env::outer))(a:∀b∈di (env::outer),H1 b=aJ)(h:env.frame=Z L)(j:i_ b P w (env::outer) H1 s1 E e s')
  (k:∀d,i_ b P w (env::outer) H1 s1 E e d->Q () d):
  wpAny (model P w) A (noteFrame e env) (λ_ f=>wpAny (model P w) A (setFlight e aJ) Q l f) l s':=Zfc i g a h j λd c _=>k d c
def xW.mono{a b:Nat}(f:xW a H h vs)(l:b<=a):xW b H h vs:=by
 rcases f with z|⟨T,d,c,g,e,r⟩;·exact .inl z
 ·exact .inr ⟨T,d,c,g,Yy l e,r⟩
def uK(b:cu)(X:Cx)(E:St->XK):Prop:=∀(a:bq) (c:St) (H:Hp) (s:bN) (e:a7) (d:bN),Inv X a c H s->i_ b X.prog X.w X.stack H s (E c) e d->X.xe e d
abbrev CD:=uK af
def Inv.Tq(I:Inv X pins σ H1 s1)(j:i_ b X.prog X.w X.stack H1 s1 E e s3):
  ∃(a C d:U) (H':Hp) (c:dq a7),e=.ref a/\s1.heap.objs.size<=a/\Inv X pins σ H' s3/\H' a=Z (xo a C (Z d))/\iD s3.heap a C (Z d) c/\(xW s1.heap.objs.size H' s3.heap c/\(b=af->c[2]?=Z Value.none))/\E (.ref C) (Z d) H':=by
 obtain⟨a,C,d,H',c,rfl,lo,os,f,un,k,h,g,i,q⟩:=j;exact⟨a,C,d,H',c,rfl,lo,I.Li os un k f (λb z=>absurd z QS),h,g,i,q⟩
section
variable {P:dC}{w:dg}{K:ah}{Q:a8}{R:c8}{N:O ar}{T:ar}{W:Scope}{f:U}{L:a7}{A:fb}{X:O Env}{s:bN}{H:Hp}{E:XK}
def qE{b c:cu}(z:(b||!c)=af:=by decide):uK b (lM (i_ c P w) P w K Q R N T W f L A X s H E) (λ_=>E):=by
 intro g p u t e k I m;show wpAny (model P w) _ (leaving _ e) _ _ k;unfold leaving;refine bt (RY I.ok.frames I.stack I.BY rfl m λr n=>?_);obtain⟨a,C,d,o,j,rfl,lo,J,l,i,h,q⟩:=I.Tq n;have sz:=I.sz;exact⟨a,C,d,o,j,rfl,Yy sz lo,J.os,J.bare,J.base,J.aw,l,i,⟨h.1.mono sz,λy=>h.2 (by subst y;cases b<;>first|rfl|cases z)⟩,q⟩
def VH:PassesOwn (model P w) (lM (i_ b P w) P w K Q R N T W f L A X s H E).A (lM (i_ b P w) P w K Q R N T W f L A X s H E).env (lM (i_ b P w) P w K Q R N T W f L A X s H E).xe:=
 λe a h=>PassesOwn.leaving e a h
end
def Zh_(c:Sp)(d:O V)(E:St->XK)(t:TA):TE:=λa H Q=>t a H λb e=>c (b++d) e Q (E a)
def UI(b:cu)(P:dC)(w:dg)(K:ah)(d:a8)(a:c8)(k:Nat)(x:ar)(c:O ar)(g:Sp):Prop:=
 ∃f e,aI P w K d a (i_ b P w) k f e c g/\Binds K e c []/\keepIn K (.ref f)=af/\d x=Z (.ref f)
abbrev C0:=UI af
section
variable {X:Cx}{k j:Nat}{f C:U}{N:FuncData}{ps:O ar}{P:Sp}{E:St->XK}{x m:ar}{p W T:Pos}{e o:cH}{R:O cH}{L:TE}{t:TA}
theorem Kd(F:aI X.prog X.w X.K X.mg X.base (i_ b X.prog X.w) k f N ps P)(l:cW k X.A)(u:Binds X.K N ps ds)(q:Vals d ds)(i:uK b X E)
  (I:Inv X pins σ H s)(r:Vals vs us)(h:P (vs++d) H Q (E σ)):wpAny X.md X.A (call (.ref f) us) (EP X pins σ Q) X.xe s:=by
 have c:=r.append q;have n:(us++ds).length=ps.length:=by exact c.length▸F.len _ _ _ _ h
 refine oD (nq (F.run X.A X.stack s H ⟨us,[]⟩ (us++ds) (vs++d) Q (E σ) l I.CV (u s us I.cO n) c h) λr g a=>?_);cases r with
 |error e=>exact i pins σ H s e g I a
 |ok v=>cases v<;>first|exact I.after a|exact False.elim a
def KQ{b:cu}(h:UI b X.prog X.w X.K X.mg X.base k x ps P)(l:cW j X.A)(u:k<=j)(i:uK b X E)(v:Gl X x)(y:PA X (e::R) t)
  (z:(x==("__debug__":ar))=bg:=by decide)(w:jv X e R:=by rfl)(A:jR X W R:=by rfl):
  PE X (.Call (.Name x p) (e::R) [] W) (Zh_ P [] E t):=by
 refine dE h λf N F b g n=>?_;intro a s d H Q I h;exact rn (uo I v n (qd I.ok.mod.oB g (aC (y W a s d H _ I h) λD G ⟨B,J,c,r,q⟩=>⟨c.cO,Kd F (l.mono u) b .nil i c r q⟩) w A) z)
def KR(C:U)(m:ar)(P:Sp)(E:St->XK)(L:TE)(t:TA):TE:=λb H Q=>L b H λx c=>∃a g fs,x=.ref a/\c a=Z (.ins C g fs)/\fs.lookup m=aJ/\t b c λd h=>P (x::(d++[])) h Q (E b)
def Zfd{b:cu}{G:Sem cu}(he:PE X o L)(c:h_ X.K C)(n:Meth X.K C m f)(F:aI X.prog X.w X.K X.mg X.base (i_ b X.prog X.w) k f N ps P)(hr:cW k X.A)(hb:Binds X.K N ps [])(J:uK b X E)(ha:PA X (e::R) t)
  (dN:jv X e R:=by rfl)(cJ:jR X W R:=by rfl)
  (ht:eval (.Call (.Attribute o m T) (e::R) [] W) X.env=(do
   let i←eval o X.env
   standAt T.atName
   let(f,first)←holding [i] (getMethod i m G)
   callWith W f first (backTo W (starEach (e::R) X.env)) (backToKw W (keywordEach [] X.env))):=by rfl):
  PE X (.Call (.Attribute o m T) (e::R) [] W) (KR C m P E L t):=by
 intro d s g H Q I h;refine sQ (aC (he d s g H _ I h) λu A y=>?_) ht;obtain⟨x,H1,w,B,a,dx,fs,ex,ea,l,q⟩:=y;subst ex;obtain rfl:u=Value.ref a:=B;exact Bq w ea c n l (qd I.ok.mod.oB n.kp (aC (ha W d A g H1 _ w q) λus s2 ⟨z,H2,v,r,D⟩=>⟨v.cO,Kd (vs:=.ref a::z) F hr hb .nil J v (.cons rfl r) D⟩) dN cJ)
end
section
variable {P:dC}{w:dg}{K:ah}{W:a8}{X:c8}
def aT.xX{b:cu}{x d:ar}{g:cb}{f:U}{l:FuncData}{N i:O ar}{k:Nat}{sp:Sp}(F:aT K x d g f l)(a:aW N i (aL g))(j:∀e H Q E,sp e H Q E->e.length=i.length)
  (m:∀(h:a7) (A:fb) (c:O Env) (s:bN) (H:Hp) (e:O V) (Q:VK) (E:XK),cW k (A.deeper (envOfC d (aL g) s.heap.objs.size f h))->sp e H Q E->
   ∃t,gO (lM (i_ b P w) P w K W X N d (aL g) f h A c s H E) (jF g) t/\t {nx:=λ_ u=>Q .ay u,rt:=Q} (start N e) H):aI P w K W X (i_ b P w) (k+1) f l i sp:=by
 obtain⟨z,y,kV,r,v,D,h,C,B,rfl,o,q⟩:=F.ex;exact Ln o q a j λA c s H e Q E p n=>m h A c s H e Q E p n
end
structure xB(K:ah)(C f:U):Prop where
 mZ:∃(nm q:ar) (N:U) (bs bm:O a7) (sn:O ar) (sub:O a7) (ab:cu) (col:bS cu) (dd:bS U) (k0 k1 k2 k3 k5:bS a7),
  K.lookup C=Z (excClassObj nm q C N bs bm af sn sub ab col dd k0 k1 k2 k3 k5 "ValueError.__new__")
 m9:PySem.W.mroIn K C (.type "ValueError")=Z af
 Av:PySem.W.mroIn K C (.type "BaseException")=Z af
 lP:PySem.W.mroIn K C (.type "AttributeError")=Z bg
 vF:PySem.W.mroIn K C (.type "NameError")=Z bg
 init:PySem.W.findIn K (.ref C) "__init__"=Z (Z (.ref f))
 fn:isFn K (.ref f)=af
 kp:keepIn K (.ref C)=af
def ze{K:ah}
  (l:K.lookup C=Z (excClassObj nm q C N bs bm hd sn sub j col i g f e d c a))(h:PySem.W.mroIn K C v=Z b):(Value.ref C::bm).contains v=b:=by
 unfold PySem.W.mroIn PySem.W.clsIn at h
 simp_all
section
variable {prog:dC}{w:dg}{A:fb}{E:bw}{h:c8}{g:dq GenState}{d:Drawn}{t:Nat}{os:OsState}
variable {I q:ar}{C N:U}{bs X:O a7}{L:cu}{P:O ar}{sub:O a7}{y:cu}{W:bS cu}{T:bS U}{B H F J D:bS a7}
local macro_rules|`(tactic|walk_at "vlu")=>`(tactic|exact excBase_ValueError)
def Zeg(a:h.get? C=Z (excClassObj I q C N bs X L P sub y W T B H F J D "ValueError.__new__"))(b:(Value.ref C::X).contains (.type "ValueError")=af)
  (z:Q () ⟨h,g,d,t,os⟩):wpAny M A (checkBuiltinCall "ValueError.__new__" ⟨.ref C::rest,[]⟩) Q E ⟨h,g,d,t,os⟩:=by
 have G:=sV;simp[checkBuiltinCall,G.newKind,G.newSplit,G.newRow];repeat (first|refine mn a ?_|(refine pB a ?_;rw[b])|refine wpAny_staticBase_exc a ?_|refine XI a ?_|simp only[yj,AD]|wp_step)
 exact z
def Zfe{R:Result->bN->Prop}{a:O a7}(b:h.get? C=Z (excClassObj I q C N bs X L P sub y W T B H F J D "ValueError.__new__"))(i:(Value.ref C::X).contains (.type "ValueError")=af)
  (k:(Value.ref C::X).contains (.type "AttributeError")=bg)(f:(Value.ref C::X).contains (.type "NameError")=bg)
  (z:R (.ok (.ret (.ref (h.objs.size+1)))) ⟨(h.push {cls:=.type "tuple",data:=.seq a.toArray}).push {cls:=.ref C,data:=.fields #[.ref h.objs.size,.none,.none,.none,.bool bg,.none]},g,d,t,os⟩)(j:a.length<=sizeLine):
  codeAny (model prog w) A (.builtin "ValueError.__new__" ⟨.ref C::a,[]⟩) R ⟨h,g,d,t,os⟩:=by
 have G:=sV;have e:=G.ends;refine codeAny_builtinAt G.entry ?_;refine YY ?_;refine YY (PySem.wpAt_stack λp c=>NN ?_)
 wp_walk
 refine NN ?_;rw[G.owner];repeat (first|with_reducible refine wpAny_madeHere_exc G.canon b ?_|with_reducible refine mn b ?_|(with_reducible refine pB b ?_;first|rw[i]|rw[k]|rw[f])|wp_step)
 simp_all
def Zff{a:O a7}{k:U}{Q:Fin->bN->Prop}(c:h.get? C=Z (excClassObj I q C N bs X L P sub y W T B H F J D "ValueError.__new__"))(n:(Value.ref C::X).contains (.type "ValueError")=af)
  (v:(Value.ref C::X).contains (.type "AttributeError")=bg)(p:(Value.ref C::X).contains (.type "NameError")=bg)
  (u:PySem.W.Looks (model prog w) h (typeLookup (.ref C) "__init__") (Z (.ref k)))(s:PySem.W.Looks (model prog w) h (typeOf (.ref k)) (.type "function"))
  (z:wpAny (model prog w) A (call (.ref k) (.ref (h.objs.size+1)::a)) (λr m=>r=.none/\Q (.done (.ret (.ref (h.objs.size+1)))) m) E
   ⟨(h.push {cls:=.type "tuple",data:=.seq a.toArray}).push {cls:=.ref C,data:=.fields #[.ref h.objs.size,.none,.none,.none,.bool bg,.none]},g,d,t,os⟩)(i:a.length<=sizeLine):
  wpAny (model prog w) A (Builtin.«type.__call__» ⟨.ref C::a,[]⟩) Q E ⟨h,g,d,t,os⟩:=by
 have G:=sV;repeat (first|with_reducible refine mn c ?_|with_reducible refine XI c ?_|wp_step)
 refine codeAny_call_builtin_code (VP _ G.quiet) (Zeg c n (Zfe c n v p ?_ i));show wpAny _ _ _ _ _ _;have f:∀b o,h.get? b=Z o->((h.push {cls:=.type "tuple",data:=.seq a.toArray}).push {cls:=.ref C,data:=.fields #[.ref h.objs.size,.none,.none,.none,.bool bg,.none]}).get? b=Z o:=
  λb o e=>Yc _ (Yc _ e)
 have j:=f _ _ c;have l:(Value.ref C::X).contains (.ref C)=af:=QS
 unfold isInstance;repeat (first|with_reducible refine mn here ?_|(with_reducible refine pB j ?_;rw[l])|wp_step)
 refine(u.keeps f) _ _ _ _ (λ_ _ e=>e) ?_;refine kY (bt ?_);unfold bindSpecial;refine bt ((s.keeps f) _ _ _ _ (λ_ _ e=>e) ?_);rw[bC QD];refine cv (bt (eH z (λr m R=>?_) λ_ _ x=>x));obtain⟨rfl,hQ⟩:=R
 wp_walk
 exact hQ
def Zfg{a:O a7}{e:U}{Q:bw}(c:h.get? C=Z (excClassObj I q C N bs X L P sub y W T B H F J D "ValueError.__new__"))(j:(Value.ref C::X).contains (.type "ValueError")=af)
  (m:(Value.ref C::X).contains (.type "AttributeError")=bg)(f:(Value.ref C::X).contains (.type "NameError")=bg)
  (l:PySem.W.Looks (model prog w) h (typeLookup (.ref C) "__init__") (Z (.ref e)))(k:PySem.W.Looks (model prog w) h (typeOf (.ref e)) (.type "function"))
  (z:wpAny (model prog w) (A.under (.builtin "type.__call__" ⟨.ref C::a,[]⟩)) (call (.ref e) (.ref (h.objs.size+1)::a)) (λr i=>r=.none/\Q (.ref (h.objs.size+1)) i) E
   ⟨(h.push {cls:=.type "tuple",data:=.seq a.toArray}).push {cls:=.ref C,data:=.fields #[.ref h.objs.size,.none,.none,.none,.bool bg,.none]},g,d,t,os⟩)(b:a.length<=sizeLine):
  wpAny (model prog w) A (call (.ref C) a) Q E ⟨h,g,d,t,os⟩:=by
 have o:=tc_lookup;have n:=tc_bind (.ref C);refine oD (X7 ?_);repeat (any_goals (first|assumption|with_reducible refine mn c ?_|wp_step))
 exact⟨rfl,codeAny_call_builtin_at (VP _ QK) entry_typeCall (wpAny_check_type_call_sub c (Zff c j m f l k z b))⟩
end
end _L
namespace _L
open PySem PySem.Spec PyProof.Rows
open PySem.W (Looks InstAt looks_findIn looks_typeIn looks_clsIn looks_mroIn looks_find findObj findIn mroIn clsIn)
noncomputable abbrev pj:O a7:=[.type "ValueError",.type "Exception",.type "BaseException",.type "object"]
structure dR(K:ah)(C:U):Prop where
 mZ:∃(nm q:ar) (N:U) (bs:O a7) (cs:O U) (sn:O ar) (sub:O a7) (ab:cu) (col:bS cu) (dd:bS U) (k0 k1 k2 k3 k5:bS a7),
  K.lookup C=Z (excClassObj nm q C N bs (cs.map Value.ref++pj) af sn sub ab col dd k0 k1 k2 k3 k5 "ValueError.__new__")
 ga:findIn K (.ref C) "__getattribute__"=Z (Z (.builtin "BaseException.__getattribute__"))
 gh:findIn K (.ref C) "__getattr__"=Z aJ
 sa:findIn K (.ref C) "__setattr__"=Z (Z (.builtin "object.__setattr__"))
 cl:findIn K (.ref C) "__class__"=Z (Z (.builtin "object.__class__"))
 cg:specialIn K (.builtin "object.__class__") "__get__"=Z (Z (.builtin "getset_descriptor.__get__"))
 ct:takesIn K (.builtin "object.__class__")=Z af
def UJ(C:U)(a:O U)(v:a7)(h:pj.contains v=af):(Value.ref C::(a.map Value.ref++pj)).contains v=af:=by
 grind
def dR.mro{K:ah}(x:dR K C)(v:a7)(h:pj.contains v=af):mroIn K C v=Z af:=by
 obtain⟨c,q,N,bs,k,b,sub,m,a,j,i,g,f,e,d,l⟩:=x.mZ;unfold PySem.W.mroIn PySem.W.clsIn
 grind
def dR.hd{K:ah}(x:dR K C):hasDictIn K C=af:=by
 obtain⟨c,q,N,bs,j,b,sub,k,a,i,h,g,f,e,d,l⟩:=x.mZ;unfold hasDictIn PySem.W.clsIn;rw[l];rfl
def iD.inst(x:iD h a C (Z d) l)(e:h.get? d=Z f):∃b,InstAt h a b C (Z f):=by
 refine iy x λc k j i g _=>?_;refine⟨c,k,j,?_,?_⟩
 ·unfold notCls;rw[g]
 ·rwa[i]
def iD.Zju(x:iD h a C aJ g):∃b,InstAt h a b C aJ:=by
 refine iy x λc f e i d _=>?_;refine⟨c,f,e,?_,?_⟩
 ·unfold notCls;rw[d]
 ·grind
section
variable {prog:dC}{w:dg}{A:fb}{E:bw}{s:bN}{K:ah}{x C:U}{P:Obj}{T:bS Obj}{W:ar}
def Tr(d:K.In s.heap)(I:InstAt s.heap x P C T)(X:dR K C)
  (k:wpAny (model prog w) A.in1 (Builtin.«object.__getattribute__» ⟨[.ref x,.str W c],[]⟩) (λfin a=>match fin with|.done f=>R (.ok f) a|.again b=>b.quiet=af/\codeAny (model prog w) A b R a) (λe a=>R (.error e) a) s):
  codeAny (model prog w) A (.call (.builtin "BaseException.__getattribute__") ⟨[.ref x,.str W c],[]⟩) R s:=by
 have G:=PySem.F.attr_ValueError;exact xU G.ga.plain PySem.F.entry_bexc_ga (check_slot (i:="BaseException.__getattribute__") (owner:="BaseException") (n:="__getattribute__") QK QK ((I.type).andThen (looks_mroIn d (X.mro _ QD))) (PySem.F.args_bexc_ga _ _) k)
theorem Ts{b a:cu}(d:K.In s.heap)(I:InstAt s.heap x P C T)(X:dR K C)
  (k:codeAny (model prog w) A (.call (.builtin "BaseException.__getattribute__") ⟨[.ref x,.str W i],[]⟩) (λr c=>match r with|.ok (.ret v)=>handedIn v=af/\Q v c|_=>False) s):
  wpAny (model prog w) A (getAttrBy (.ref x) (.str W i) b a) Q E s:=by
 refine kY (bt ((I.type).here (bt ((looks_findIn d X.ga).here ?_))));refine bt ((looks_findIn d X.gh).here (bt (wpAny_attempt (kY ?_))));unfold callGetattribute;rw[bF (by cases a<;>exact Yl)];refine bt (cv (oD (nq k λr c z=>?_)));cases r with
 |error e=>grind
 |ok f=>
  cases f with
  |ret v=>
   obtain⟨h,g⟩:=z;show wpAny _ _ (handedOut v) _ _ _;rw[PySem.W.handedOut_of h];exact cv g
  |next=>grind
  |brk=>grind
  |cont=>grind
def Zkn{a:cu}{v:a7}{Q:bw}(b:K.In s.heap)(I:InstAt s.heap x P C T)(X:dR K C)(d:findObj K C T W=Z (.value v))(c:handedIn v=af)(q:Q v {s with toks:=s.toks+1}):
  wpAny (model prog w) A (getAttr (.ref x) W a) Q E s:=by
 exact bt (wpAny_mkText (Ts b I X (Tr b I X (bt (cv (bt (cv (bt ((I.type).at (bt ((looks_find b I d).at (cv (tO c q)))))))))))))
def Zdb{T:Obj}{Q:bS a7->bN->Prop}(a:K.In s.heap)(I:InstAt s.heap x P C (Z T))(X:dR K C)(q:Q (Z (.ref C)) {s with toks:=s.toks+1}):wpAny (model prog w) A (getAttr? (.ref x) "__class__") Q E s:=by
 exact bt (wpAny_mkText (bt (wpAny_attempt (Ts a I X (Tr a I X (bt (cv (bt (cv (bt ((I.type).here (s:={s with toks:=s.toks+1}) (bt ((looks_find a I (PySem.W.findObj_data (by obtain⟨c,b,_⟩:=vW X.hd;rw[b];rfl) X.cl X.cg X.ct)).here (s:={s with toks:=s.toks+1}) (bt (kY (oD (PySem.W.class_get a I (X.mro _ QD) (cv ⟨rfl,cv q⟩))))))))))))))))))
theorem Zfh{T:Obj}(X:dR K C):KitX K (.ref x) (.ref C) (λh=>∃P,InstAt h x P C (Z T)) where
 ty:=λ_ _ _ ⟨_,I⟩=>I.type
 it:=λ_ _ a _=>by
  obtain⟨d,q,N,bs,r,c,sub,t,b,p,m,j,i,g,f,l⟩:=X.mZ;intro H F G B k q;exact bt (vL (k _ _ (a _ _ l)) (cv q))
 ne:=λh u o D n v a e=>by
  obtain⟨d,q,N,bs,r,c,sub,t,b,p,m,j,i,g,f,l⟩:=X.mZ;refine W6.mpr λz=>?_;have z:=Value.ref.inj (beq_iff_eq.mp z);subst z;have y:=eL Obj.cls (Yp ((a _ _ l).symm.trans e))
  grind
 ca:=λa ⟨_,I⟩ k=>Zdb a I X k
theorem Pd(a:a7):∀b:O U,refuseLoop a "__setattr__" (b.map Value.ref++pj)=pure ()
 |[]=>PySem.F.store_ValueError.passes a
 |c::r=>by
  show refuseLoop a "__setattr__" (.ref c::(r.map Value.ref++pj))=pure ();rw[ZW];exact Pd a r
def VI{v:a7}{Q:Unit->bN->Prop}(b:K.In s.heap)(I:InstAt s.heap x P C T)(X:dR K C)(d:findIn K (.ref C) W=Z aJ)
  (k:wpAny (model prog w) A.in1 (Builtin.ObjectAttr.storeInOwnDict (.ref x) (.ref C) (.str W s.toks) W v bg) (λfin c=>fin=PySem.Fin.done (.ret .none)/\Q () c) (λ_ _=>False) {s with toks:=s.toks+1}):
  wpAny (model prog w) A (setAttr (.ref x) W v) Q E s:=by
 have a:=PySem.F.store_object;refine set_plain b I X.sa ?_;have sub:Looks (model prog w) s.heap (isInstance (.ref x) (.type "object")) af:=I.type.andThen (looks_mroIn b (X.mro _ QD));refine xU a.slot.plain a.entry (@check_slot (model prog w) _ _ {s with toks:=s.toks+1} "object.__setattr__" "object" "__setattr__" (.ref x) [.str W s.toks,v] [] _ a.kind a.split sub (a.args (.ref x) (.str W s.toks) v) ?_);obtain⟨j,q,N,bs,f,h,i,u,g,t,r,p,o,n,m,l⟩:=X.mZ;have e:Looks (model prog w) s.heap (mroOf (.ref C)) (.ref C::(f.map Value.ref++pj)):=(looks_clsIn b (by unfold PySem.W.clsIn;rw[l])).andThen .now;rw[osa_eq,refuse_eq];refine bt (bt (I.type.here (s:={s with toks:=s.toks+1}) (bt (e.here (s:={s with toks:=s.toks+1}) ?_))));rw[ZW,Pd];refine cv (bt (I.type.here (s:={s with toks:=s.toks+1}) (bt ((looks_findIn b d).here (s:={s with toks:=s.toks+1}) (bt (cv ?_))))));refine eH k (λfin c z=>?_) λ_ _ z=>z.elim;obtain⟨rfl,z⟩:=z;exact z
end
noncomputable def xq(d:U)(b:O (ar×V)):HO:=.ext λh=>∃a,h.Ns1 d a/\(∀f,fG (b.lookup f) (a f))/\PySem.Within a (b.map (·.1))
def UK(n:h.Ns1 d a)(r:∀f,fG (fs.lookup f) (a f))(b:PySem.Within a (fs.map (·.1))):cX P w H h d (xq d fs):=
 ⟨⟨a,n,r,b⟩,let⟨o,_,_,e,_⟩:=n;⟨o,e⟩,λ_ _ ⟨m,y,q⟩ k=>⟨m,y.at k,q⟩⟩
def KS(b:dH P w H h)(e:H d=Z (xq d fs)):∃a,h.Ns1 d a/\(∀f,fG (fs.lookup f) (a f))/\PySem.Within a (fs.map (·.1)):=(b d _ e).1
def RZ{mA:a8}(a:RelV y u)(r:∀g,fG (fs.lookup g) (mA g)):∀g,fG ((dh f y fs).lookup g) (if g=f then Z u else mA g):=λg=>by
 rw[GB];by_cases q:g=f;·rwa[bC q,bC q]
 ·simp_all
def Pf(a:PySem.Within b (fs.map (·.1))):PySem.Within (λg=>if g=f then Z u else b g) ((dh f y fs).map (·.1)):=λg c=>by
 by_cases q:g=f;·exact q▸(yX f y fs).1
 ·refine(yX f y fs).2 g (a g λz=>c ?_)
  grind
section
variable {prog:dC}{w:dg}{A:fb}{E:bw}{s:bN}{K:ah}{x C:U}{W:ar}{v:a7}{b:cu}{T:Tok}
def Zeh{a:Obj}{d:U}{e:a8}{f:O ar}{Q:PySem.Fin->bN->Prop}(t:K.In s.heap)(X:dR K C)(m:s.heap.get? x=Z a)(q:a.cls=.ref C)(p:a.dict=Z d)(n:s.heap.Ns1 d e)(h:PySem.Within e f)(D:f.length<sizeLine)
  (k:∀c i,c.Ns1 d (λy=>if y=W then Z v else e y)->Heap.SameBut d s.heap c->Q (.done (.ret .none)) {s with heap:=c,toks:=i}):
  wpAny (model prog w) A (Builtin.ObjectAttr.storeInOwnDict (.ref x) (.ref C) (.str W T) W v b) Q E s:=by
 obtain⟨F,l,N,H⟩:=a;subst q p;obtain⟨I,r,o⟩:=vW X.hd;refine bt (cv (bt (bt (vL m (bt ((looks_clsIn t r).here ?_))))));rw[o];refine cv (bt (cv (bt (zT n λc g j=>?_))));obtain⟨G,L,J,B,z,u⟩:=g.count (yn W v h);exact bt (yo B (by exact z▸yT (Yy u (by rw[Wi];omega))) (cv (k _ _ g j)))
def Zei{a:Obj}{i:dq a7}{Q:PySem.Fin->bN->Prop}(G:K.In s.heap)(X:dR K C)(f:s.heap.get? x=Z a)(g:a.cls=.ref C)(B:a.dict=aJ)(u:a.data=.fields i)
  (k:∀d p,d.Ns1 s.heap.objs.size (λy=>if y=W then Z v else aJ)->d.get? x=Z {a with dict:=Z s.heap.objs.size}->(∀c o,c≠x->s.heap.get? c=Z o->d.get? c=Z o)->Q (.done (.ret .none)) {s with heap:=d,toks:=p}):
  wpAny (model prog w) A (Builtin.ObjectAttr.storeInOwnDict (.ref x) (.ref C) (.str W T) W v b) Q E s:=by
 obtain⟨L,q,XA,r⟩:=a;subst g B u;obtain⟨P,F,t⟩:=vW X.hd;refine bt (cv (bt (bt (vL f (bt ((looks_clsIn G F).here ?_))))));rw[t];have h:=Yz (Yu f);have n:(s.heap.push {cls:=.type "dict",data:=.dict #[]}).get? x=Z ⟨.ref C,aJ,.fields i,r⟩:=Yc _ f;refine bt (wpAny_alloc' (bt (wpAny_update' n (cv ?_))));have D:((s.heap.push {cls:=.type "dict",data:=.dict #[]}).update x λo=>{o with dict:=Z s.heap.objs.size}).get? s.heap.objs.size=Z {cls:=.type "dict",data:=.dict #[]}:=
  (XE _ _ _ _ h.symm).trans (Heap.get?_push_at rfl rfl)
 refine bt (cv (bt (zT (XG ⟨_,#[],_,D,rfl,λe z=>absurd z QS,λ_=>rfl⟩) λd l j=>?_)));obtain⟨N,Xi,R,J,I,H⟩:=l.count (yn W v PySem.Within.nil);refine bt (yo J (by exact I▸yT (Yy H (by rw[Wi,Xv,d6];decide))) (cv (k _ _ l ?_ λc o g m=>?_)));·exact(j.2 x h).trans (Wq _ n rfl)
 ·exact(j.2 c (Yz (Yu m))).trans ((XE _ _ _ _ g).trans (Yc _ m))
end
def UL(K:ah)(g e:TE)(f:ar):TS:=λ D c H=>e c H λ y h=>g c h λ x b=>∃ a C,x=.ref a/\dR K C/\dA K C f /\
  ((b a=Z (xn a C aJ)/\∀ d,b d=aJ->d≠a->D.nx c (upd (upd b d (xq d [(f,y)])) a (xn a C (Z d)))) \/
   ∃ d fs,b a=Z (xn a C (Z d))/\b d=Z (xq d fs)/\d≠a/\fs.length < 1000/\D.nx c (upd b d (xq d (dh f y fs))))
def UM(K:ah)(e:TE)(f:ar):TE:=λc H Q=>e c H λx b=>∃a C d fs v,x=.ref a/\b a=Z (xo a C (Z d))/\b d=Z (xq d fs)/\dR K C/\dA K C f/\fs.lookup f=Z v/\Q v b
inductive R0(K:ah)(e:O V)(H:Hp)(Q:VK):Prop
 |mk (a C d:U) (fs:O (ar×V)) (c:V) (u:a7) (b:cu) (l:e=[.ref a,c]) (j:RelV c u) (k:H a=Z (xo a C (Z d))) (h:H d=Z (xq d fs)) (i:dR K C) (g:kitOne K (.ref C) u=Z b) (f:Q (.bl b) H):R0 K e H Q
def UN(K:ah):O V->Hp->VK->Prop:=λa H Q=>R0 K a H Q
section
variable {X:Cx}{o e W:cH}{f:ar}{R T:Pos}{P N:TE}
def ZgE(ha:PE X o P)(hv:PE X W N)(hs:swapsWith W (Z (.Attribute o f T)) R.line X.env=pure bg:=by rfl):PS X (.Assign [.Attribute o f T] W R) (UL X.K P N f):=by
 intro p s A H D I h;refine xp (aC (hv p s A H _ I h) λu s1 zq=>?_) hs;obtain⟨y,H1,I1,ry,q⟩:=zq;refine aC (ha p s1 A H1 _ I1 q) λov F zq=>?_;obtain⟨x,H2,l,rx,a,C,Q,E,na,v⟩:=zq;subst Q;obtain rfl:ov=Value.ref a:=rx;rcases v with⟨m,v⟩|⟨d,fs,m,ed,nd,lim,v⟩
 ·obtain⟨vs,r,v1⟩:=Cm l.aw m;obtain⟨ox,J⟩:=r.Zju;obtain⟨oe,e1,e2,e3,e4,e5⟩:=r;refine VI l.cO J E na (Zei l.cO E e1 e2 e3 e4 λh' tk G Q kp=>⟨rfl,?_⟩);have w:=l.aw.fresh (Yd _);have ne:=Jo (Yu e1);refine⟨A,_,?_,v F.heap.objs.size w ne⟩;have DN:iD h' a C (Z F.heap.objs.size) vs:=⟨_,Q,e2,rfl,e4,e5⟩;refine l.un ⟨λb j i n _ _=>?_,λb j i n fr _=>?_,λb j i n _=>?_,λb j i _=>?_,λb B i=>?_,λb j u i=>?_,λb ps i=>?_⟩ λb j i=>?_;·exact kp b j (λz=>by rw[z,m] at n;cases n) i
  ·exact⟨j.slots,kp b j (λz=>by rw[z,m] at n;cases n) i⟩
  ·rw[aS (λz=>by rw[z,m] at n;cases n),aS (Yz (Yu i))];exact n
  ·by_cases z:b=a;·exact⟨_,z▸Q⟩
   ·exact⟨j,kp b j z i⟩
  ·rw[aS (λz=>by rw[z,m] at i;cases i),aS (λz=>by rw[z,w] at i;cases i)];exact i
  ·rw[aS (λz=>by rw[z,m] at i;cases i),aS (λz=>by rw[z,w] at i;cases i)];exact i
  ·exact⟨#[],by rw[aS (λz=>by rw[z,m] at i;cases i),aS (λz=>by rw[z,w] at i;cases i),i];simp⟩
  ·by_cases z:b=a
   ·subst z;rw[a9] at i;cases i;exact(λH0=>Lp DN v1) _
   ·rw[aS z] at i;by_cases z2:b=F.heap.objs.size
    ·subst z2;rw[a9] at i;cases i;exact(λH0=>UK G (RZ (fs:=[]) (mA:=λ_=>aJ) ry λg=>trivial) (Pf λ g=>absurd rfl)) _
    ·rw[aS z2] at i;have DO:∀c t,H2 c=Z t->t=.own b\/(∃B,t=.tup B)->c≠a/\c≠F.heap.objs.size:=λc t k L=>by
      refine⟨λy=>?_,λy=>by rw[y,w] at k;cases k⟩;rw[y,m] at k;cases k;rcases L with L|⟨B,L⟩<;>cases L
     refine(l.aw b j i).jq (λc u k hg=>?_) (λc k=>?_) λc B k=>?_;·grind
     ·rwa[aS (DO c _ k (.inl rfl)).1,aS (DO c _ k (.inl rfl)).2]
     ·rwa[aS (DO c _ k (.inr ⟨_,rfl⟩)).1,aS (DO c _ k (.inr ⟨_,rfl⟩)).2]
 ·obtain⟨vs,r,v1⟩:=Cm l.aw m;obtain⟨mA,n1,rl,wi⟩:=KS l.aw ed;obtain⟨od,_,_,lU,_⟩:=id n1;obtain⟨ox,J⟩:=r.inst lU;obtain⟨oe,e1,e2,e3,e4,e5⟩:=r;refine VI l.cO J E na (Zeh l.cO E e1 e2 e3 n1 wi (by rw[Ya,d6];exact Nat.lt_of_lt_of_le lim (by decide)) λh' tk G sb=>⟨rfl,A,_,?_,v⟩);have hd:∃o,h'.get? d=Z o:=let⟨o,_,_,e',_⟩:=G;⟨o,e'⟩;exact l.write (by exact ed▸kS) (.inl rfl) (λb q i z=>(sb.2 b i).trans z) hd (UK G (RZ ry rl) (Pf wi))
def ZgF(B:PE X e P)(D:attributeBase e f X.env (eval e X.env)=eval e X.env:=by rfl):PE X (.Attribute e f R) (UM X.K P f):=by
 intro b s j H Q I h;refine RO D (aC (B b s j H _ I h) λu s1 k=>?_);obtain⟨x,L,c,n,a,C,d,fs,v,E,G,F,g,t,l,q⟩:=k;subst E;obtain rfl:u=Value.ref a:=n;obtain⟨vs,m⟩:=Tp c.aw G;refine cm (KS c.aw F) λmA w p wi=>?_;obtain⟨od,z,y⟩:=Io w;obtain⟨ox,J⟩:=m.inst z;have r:=p f;rw[l] at r;obtain⟨u,A,i⟩:=r.some_of;exact Zkn c.cO J g (findObj_own g.hd t rfl (by rw[y,A])) (PN i) ⟨v,L,c.tok _,i,q⟩
def ZbJ:dz X (.builtin "isinstance") (UN X.K):=by
 rintro j s E H F us Q I r ⟨a,C,d,fs,c,u,b,rfl,h,B,A,n,e,q⟩;refine gR (vals2 r) λp g gU v i=>?_;subst gU;obtain rfl:p=Value.ref a:=v;obtain⟨L,m⟩:=Tp I.aw B;obtain⟨mA,x,rl,G⟩:=KS I.aw A;obtain⟨od,y,lk⟩:=Io x;obtain⟨w,J⟩:=m.inst y;have same:kitOne X.K (.ref C) g=Z b:=by
  have D:g=u:=by
   cases c<;>first|exact(i).trans (h).symm|skip
   all_goals (obtain⟨t1,l⟩:=i;obtain⟨t2,k⟩:=h;subst l;subst k)
   all_goals (exfalso;revert e;simp[kitOne,kitCls])
  rwa[D]
 exact mh (Zfh n) I.cO ⟨w,J⟩ same (λz=>nomatch z) λt=>⟨.bl b,H,I.tok t,rfl,q⟩
end
structure zJ(K:ah)(C:U)(m:ar)(f:U):Prop where
 ga:specialIn K (.ref C) "__getattribute__"=Z (Z (.builtin "type.__getattribute__"))
 rd:PySem.W.readsIn K C (.type "type")=af
 at_:findCls K (.ref C) (.type "type") m=Z (.val (.ref f))
 kp:keepIn K (.ref f)=af
section
variable {X:Cx}{L:lO}{k:Nat}{f C:U}{N:FuncData}{ps:O ar}{J:Sp}{G:O V}{P:O a7}{E:XK}{x m:ar}{p W T:Pos}{e:cH}{R:O cH}{t:TA}
def IZ{j:Sem cu}(b:zJ X.K C m f)(F:aI X.prog X.w X.K X.mg X.base L k f N ps J)(o:cW k X.A)(u:Gl X x)(q:X.mg x=Z (.ref C))(w:Binds X.K N ps P)(v:Vals G P)(l:Passes L X E)(y:PA X (e::R) t)
  (z:(x==("__debug__":ar))=bg:=by decide)(A:jv X e R:=by rfl)(B:jR X W R:=by rfl)
  (n:eval (.Call (.Attribute (.Name x p) m T) (e::R) [] W) X.env=(do
   let c←eval (.Name x p) X.env
   standAt T.atName
   let(f,first)←holding [c] (getMethod c m j)
   callWith W f first (backTo W (starEach (e::R) X.env)) (backToKw W (keywordEach [] X.env))):=by rfl):
  PE X (.Call (.Attribute (.Name x p) m T) (e::R) [] W) (Cz J G E t):=by
 intro a s g H Q I h;exact sQ (uo I u q (PySem.W.method_cls I.cO b.ga (PySem.W.cls_value I.cO b.rd b.at_ rfl (qd I.ok.mod.oB b.kp (aC (y W a _ g H _ (I.tok (s.toks+1)) h) λus s2 ⟨D,H2,d,r,i⟩=>⟨d.cO,Cj F o w v l d r i⟩) A B))) z) n
end
def KU(K:ah):O V->Hp->VK->Prop:=λb H Q=>∃(a C:U) (y:V),b=[.ref a,y]/\dR K C/\H a=Z (xn a C aJ)/\Q .ay H
section
variable {K:ah}
def Zdc(m:K.In s.heap)(X:dR K C)(i:s.heap.get? a=Z c)(f:c.cls=.ref C)(z:Q () s):wpAny M A (checkBuiltinCall "ValueError.__init__" ⟨.ref a::rest,[]⟩) Q E s:=by
 obtain⟨r,q,N,bs,j,o,p,I,k,H,F,D,B,y,w,l⟩:=X.mZ;have b:=m _ _ l;have e:=UJ C j (.type "ValueError") QD;have G:=sV;obtain⟨h,g,d,t,os⟩:=s;simp[checkBuiltinCall,G.initKind,G.initSplit,G.initRow];repeat (first|(with_reducible refine mn i ?_;rw[f])|with_reducible refine mn b ?_|(with_reducible refine pB b ?_;rw[e])|wp_step)
 refine wpAny_onRaise ?_;rw[show ∀(u v:String) (n:Nat),Bind.check ⟨.positional,"*","ValueError",.self,[⟨"args",.varPos,bg⟩]⟩ u v n (List.map (λx=>x.fst) ({pos:=Value.ref a::rest}:Args).kw)=pure () from λu v n=>check_star_args _ _ _ _ _ _];exact cv z
end
section
variable {X:Cx}{p W T:Pos}{e:cH}{R:O cH}{t:TA}
def Zfi(I:Inv X pins σ H s)(r:Vals xs us)(h:KU X.K xs H Q):wpAny X.md X.A (call (.builtin "ValueError.__init__") us) (EP X pins σ Q) X.xe s:=by
 refine lV h λa C y hI w l q=>?_;subst hI;refine gR (vals2 r) λB j gU E r2=>?_;subst gU;obtain rfl:B=Value.ref a:=E;obtain⟨f,v,i⟩:=Cm I.aw l;obtain⟨F,n,P,N,d,e5⟩:=id v;have G:=sV;refine oD (xU G.init.plain G.initEntry (Zdc I.cO w n P ?_));unfold Builtin.«BaseException.__init__»;show wpAny _ _ (do let D←newTuple [j];Builtin.BaseException.bexcPut (.ref a) 0 D;ret .none) _ _ _;refine bt ?_;unfold newTuple;refine ni (bt ?_);have k:=Yc {cls:=.type "tuple",dict:=aJ,data:=.seq [j].toArray} n;have A:f[0]?=Z f[0]:=Wz QO;unfold Builtin.BaseException.bexcPut;refine bt (my k d A (bt (tK k d QO ?_)));have fin:EP X pins σ Q Value.none {s with heap:=(s.heap.push {cls:=.type "tuple",dict:=aJ,data:=.seq [j].toArray}).update a (Obj.mapFields (·.setIfInBounds 0 (Value.ref s.heap.objs.size)))}:=by
  have u:=ya d (·.setIfInBounds 0 (Value.ref s.heap.objs.size));have m:=Wq (Obj.mapFields (·.setIfInBounds 0 (Value.ref s.heap.objs.size))) k (xQ u);have J:=I.write (x:=a) (e:=a) (o:=xn a C aJ) (t':=s.toks) (by exact l▸kS) (.inl rfl)
   (λb o L g=>by rw[Wa _ _ (lp L)];exact Yc _ g) ⟨_,m⟩
   (Lp ⟨_,m,by rwa[Obj.cls_mapFields],by obtain⟨c,dd,da,sl⟩:=F;cases d;exact N,u,by rwa[Xy]⟩ ⟨by rw[Jl QD];exact i.1,by rw[Jl QD];exact i.2.1,by rw[Xy];exact i.2.2⟩)
  have same:upd H a (xn a C aJ)=H:=by
   funext b
   by_cases z:b=a;·rw[z,a9,l]
   ·rw[aS z]
  rw[same] at J;exact⟨.ay,H,J,rfl,q⟩
 generalize f[0]=old;cases old<;>first|exact cv (cv fin)|exact Ag (cv fin)|exact bt (Ag (cv (cv fin)))
def ZgG{K:ah}:findCls K (.type "ValueError") (.type "type") "__init__"=Z (.val (.builtin "ValueError.__init__")):=QJ
def UO{K:ah}:findIn K (.type "type") "__getattribute__"=Z (Z (.builtin "type.__getattribute__")):=QJ
def Zia{K:ah}:subIn K (.type "type") (.type "type")=Z af:=QJ
def UP:typeOf (.type "ValueError")=pure (.type "type"):=QJ
def Zjv:opaqueClassAbove (.type "ValueError")=pure aJ:=QJ
def ZgH:bootBuiltins "ValueError"=Z (.type "ValueError"):=QK
def Zej{a:dC}{w:dg}{A:fb}{E:bw}{s:bN}{K:ah}{c:Sem cu}{Q:a7×O a7->bN->Prop}(b:K.In s.heap)(z:Q (.builtin "ValueError.__init__",[]) {s with toks:=s.toks+1}):
  wpAny (model a w) A (getMethod (.type "ValueError") "__init__" c) Q E s:=by
 have d:Looks (model a w) s.heap (specialOf (.type "ValueError") "__getattribute__") (Z (.builtin "type.__getattribute__")):=(Looks.of_pure UP).andThen (looks_findIn b UO);unfold getMethod;refine bt (d.here ?_);show wpAny _ _ (if(Manifest.canonical "type.__getattribute__" !="object.__getattribute__")=af then _ else _) _ _ _;rw[bC PySem.W.canon_tga];refine bt (PySem.W.cls_open b (Looks.of_pure Zjv) (Looks.of_pure UP) UO (Looks.of_pure rfl) Zia ZgG ?_);exact cv (PySem.W.handed_on rfl (cv z))
def Zfj{i:Sem cu}(l:Gl X "ValueError")(k:X.mg "ValueError"=aJ)(m:PA X (e::R) t)
  (n:jv X e R:=by rfl)(o:jR X W R:=by rfl)
  (j:eval (.Call (.Attribute (.Name "ValueError" p) "__init__" T) (e::R) [] W) X.env=(do
   let b←eval (.Name "ValueError" p) X.env
   standAt T.atName
   let(f,first)←holding [b] (getMethod b "__init__" i)
   callWith W f first (backTo W (starEach (e::R) X.env)) (backToKw W (keywordEach [] X.env))):=by rfl):
  PE X (.Call (.Attribute (.Name "ValueError" p) "__init__" T) (e::R) [] W) (oG (KU X.K) t):=by
 intro a s c H Q I h;refine sQ (zo I l k ZgH ?_) j;refine Zej I.cO ?_;exact Dx (aC (m W a _ c H _ (I.tok _) h) λu v ⟨r,w,q,d,g⟩=>Zfi q d g) n o
end
def Zib(C:U)(g:Sp)(h:O V)(E:St->XK)(t:TA):TS:=λ_ b H=>t b H λc f=>c.length<=1000/\∀a,f a=aJ->
 g (.ref a::(c++h)) (upd f a (xn a C aJ)) (λv e=>v=.ay/\∃d,e a=Z (xn a C (Z d))/\E b (.ref C) (Z d) (upd e a (xo a C (Z d)))) E0
section
variable {X:Cx}{k:Nat}{f C:U}{L:FuncData}{ps:O ar}{J:Sp}{P:O V}{T:O a7}{E:St->XK}{x:ar}{p R Q:Pos}{e:cH}{W:O cH}{t:TA}
theorem Zfk(i:xB X.K C f)(F:aI X.prog X.w X.K X.mg X.base aR k f L ps J)(hr:cW (k+1) X.A)(B:X.calm=af)(hg:Gl X x)(hm:X.mg x=Z (.ref C))(j:Binds X.K L ps T)(hd:Vals P T)(hx:CD X E)(ha:PA X (e::W) t)
  (fV:(x==("__debug__":ar))=bg:=by decide)(he:jv X e W:=by rfl)(cJ:jR X Q W:=by rfl):
  PS X (.Raise (Z (.Call (.Name x p) (e::W) [] Q)) aJ R) (Zib C J P E t):=by
 intro w s σ H D I h;rw[arm_exec_Raise];refine bt (mu ?_);show wpAny _ X.A (raiseStmt X.env (Z (do let v←eval (.Call (.Name x p) (e::W) [] Q) X.env;standAt R;pure v)) aJ) _ _ s;unfold raiseStmt;refine bt (bt ?_);refine rn (uo I hg hm ?_ fV);refine qd (h₀:=X.base) I.ok.mod.oB i.kp (aC (ha Q w s σ H _ I h) λA l ⟨vs,H1,I1,r,lim,q⟩=>⟨I1.cO,?_⟩) he cJ;obtain⟨nm,qn,N,bs,bm,sn,sub,ab,col,dd,k0,k1,k2,k3,k5,lk⟩:=i.mZ;have kc:=I1.cO _ _ lk;have fr:H1 (l.heap.objs.size+1)=aJ:=I1.aw.fresh (Jt _);have hq:=q (l.heap.objs.size+1) fr;have r2:Vals (V.ref (l.heap.objs.size+1)::(vs++P)) (Value.ref (l.heap.objs.size+1)::(A++T)):=.cons rfl (r.append hd);have hl:((Value.ref (l.heap.objs.size+1)::A)++T).length=ps.length:=by
  have z:=r2.length;rw[F.len _ _ _ _ hq] at z;exact z.symm
 have here:((l.heap.push {cls:=.type "tuple",data:=.seq A.toArray}).push {cls:=.ref C,data:=.fields #[.ref l.heap.objs.size,.none,.none,.none,.bool bg,.none]}).get? (l.heap.objs.size+1)=
   Z {cls:=.ref C,data:=.fields #[.ref l.heap.objs.size,.none,.none,.none,.bool bg,.none]}:=by heap_get
 have up:∀b o,l.heap.get? b=Z o->((l.heap.push {cls:=.type "tuple",data:=.seq A.toArray}).push {cls:=.ref C,data:=.fields #[.ref l.heap.objs.size,.none,.none,.none,.bool bg,.none]}).get? b=Z o:=
  λb o z=>Yc _ (Yc _ z)
 have new:cX X.prog X.w (upd H1 (l.heap.objs.size+1) (xn (l.heap.objs.size+1) C aJ)) _ (l.heap.objs.size+1) (xn (l.heap.objs.size+1) C aJ):=Lp (vs:=#[.ref l.heap.objs.size,.none,.none,.none,.bool bg,.none]) ⟨_,here,rfl,rfl,rfl,by show 1<6;decide⟩ ⟨rfl,rfl,rfl⟩;have I2:=I1.laid (a:=l.heap.objs.size+1) (o:=xn (l.heap.objs.size+1) C aJ) (t':=l.toks) up (Jt _) new;have L1:=looks_findIn (M:=model X.prog X.w) I1.cO i.init;have _L:=looks_typeIn (M:=model X.prog X.w) I1.cO (beq_iff_eq.mp i.fn);have ul:A.length<=sizeLine:=by
  rw[←r.length,d6];exact Nat.le_trans lim (by decide)
 obtain⟨m,g1,d1,t1,o1⟩:=l;refine Zfg kc (ze lk i.m9) (ze lk i.lP) (ze lk i.vF) L1 _L (oD (nq (F.run _ X.stack _ _ ⟨Value.ref (m.objs.size+1)::A,[]⟩ (Value.ref (m.objs.size+1)::(A++T)) _ _ E0 (hr.make C A [])
  (I2.CV.make C A []) (j _ (Value.ref (m.objs.size+1)::A) I2.cO hl) r2 hq) λr s' oF=>?_)) ul
 cases r with
 |error _=>exact False.elim oF
 |ok fl=>
  cases fl with
  |next=>exact False.elim oF
  |brk=>exact False.elim oF
  |cont=>exact False.elim oF
  |ret u=>
   obtain⟨v,H',DG,G,un,aw,rv,rfl,d,ea,lL⟩:=oF;obtain rfl:u=Value.none:=rv;refine⟨rfl,bt (mu (cv ?_))⟩;obtain⟨ws,xr,w1,w2,_⟩:=Cm aw ea;obtain⟨oe,e1,e2,e3,e4,e5⟩:=id xr;have I3:Inv X w σ H' s':=I2.Li (ch:=[]) DG un aw G λb z=>absurd z QS;have XF:=I3.cO _ _ lk;have Av:=ze lk i.Av;obtain⟨oc,od,XA,jS⟩:=oe;dsimp only at e2 e3 e4;subst e2 e3 e4;have xe:X.xe (.ref (m.objs.size+1)) s':=by
    refine hx w σ H1 ⟨m,g1,d1,t1,o1⟩ _ s' I1 ⟨m.objs.size+1,C,d,upd H' (m.objs.size+1) (xo (m.objs.size+1) C (Z d)),ws,rfl,Jt _,DG,G,?_,?_,a9,xr,⟨.inl w1,λ_=>w2⟩,lL⟩
    ·have vG:Un (di X.stack) [] H1 H' m s'.heap:=(Un.laid up (Jt _) fr).trans un;have old:∀b o,m.get? b=Z o->b≠m.objs.size+1:=λb o j=>Yz (Wr (Yu j));have tk:∀b u,H1 b=Z u->b≠m.objs.size+1:=λb u j z=>by rw[z,fr] at j;cases j
     exact⟨vG.keep,vG.slot,λb o j n x'=>by rw[aS (old b o j)];exact vG.free b o j n x',vG.there,λb xs j=>by rw[aS (tk b _ j)];exact vG.iZ b xs j,
      λb o u j=>by rw[aS (tk b _ j)];exact vG.jr b o u j,λb ps j=>by rw[aS (tk b _ j)];exact vG.jM b ps j⟩
    ·intro b o j;by_cases z:b=m.objs.size+1
     ·subst z;rw[a9] at j;cases j;exact UH xr
     ·rw[aS z] at j;have nz:∀c u,H' c=Z u->(u=.own b\/∃xs,u=.tup xs)->c≠m.objs.size+1:=λc u B hu y=>by
       rw[y,ea] at B;cases B;rcases hu with hu|⟨xs,hu⟩<;>cases hu
      exact(aw b o j).jq (λ_ _ _ g=>g) (λc B=>by rw[aS (nz c _ B (.inl rfl))];exact B) λc xs B=>by rw[aS (nz c _ B (.inr ⟨_,rfl⟩))];exact B
   have hh:=I.ok.hd B;obtain⟨h',g',d',t',o'⟩:=s';repeat (first|with_reducible refine mn e1 ?_|with_reducible refine mn XF ?_|(with_reducible refine pB XF ?_;rw[Av])|with_reducible refine my e1 rfl w1 ?_|wp_step)
   exact wpAny_raiseNew_none hh xe
end
abbrev Cx.hand(X:Cx)(a:U):Cx:={X with A:=X.A.mark (Z (.ref a)),calm:=bg}
def Cx.Ok.hand{X:Cx}(b:X.Ok)(a:U):(X.hand a).Ok:=
 ⟨b.mod,b.kind,b.glob,b.blt,b.above,b.inj,b.has,b.vv,λz=>absurd (z) Yl,b.frames,b.xM,b.sL,b.bs,b.oC,b.uS,b.sv,b.kK,b.qQ⟩
section
variable {X:Cx}{σ:St}{H:Hp}{s:bN}
def Inv.hand(I:Inv X pins σ H s)(a:U):Inv (X.hand a) pins σ H s:=⟨I.ok.hand a,I.os,I.bare,I.base,I.loc,I.cell,I.free,I.jo,I.pin,I.aw,I.len⟩
def Inv.Zic(b:X.Ok)(I:Inv (X.hand a).pE pins σ H s):Inv X pins σ H s:=⟨b,I.os,I.bare,I.base,I.loc,I.cell,I.free,I.jo,I.pin,I.aw,I.len⟩
def Inv.zy{a:bq}{b:bw}{c:bq}(d:X.Ok)(I:Inv {X with pn:=X.pn++a,xe:=b} c σ H s):Inv X a σ H s:=
 ⟨d,I.os,I.bare,I.base,I.loc,I.cell,I.free,I.jo,λp e=>I.pin p (Yt _ e),I.aw,I.len⟩
def Inv.Zid(I:Inv X a σ H s):Inv {X with pn:=X.pn++a,xe:=c} [] σ H s:=
 ⟨⟨I.ok.mod,I.ok.kind,I.ok.glob,I.ok.blt,I.ok.above,I.ok.inj,I.ok.has,I.ok.vv,I.ok.hd,I.ok.frames,I.ok.xM,I.ok.sL,I.ok.bs,I.ok.oC,I.ok.uS,I.ok.sv,I.ok.kK,I.ok.qQ⟩,
  I.os,I.bare,I.base,I.loc,I.cell,I.free,I.jo,λp b=>I.pin p (by rw[Wf] at b;exact b),I.aw,I.len⟩
theorem Inv.gone(I:Inv X pins σ H s)(hN:X.N.Nodup)(hi:X.N[i]?=Z n)(hn:s.heap.Ns X.env.locals m)
  (T:∀(i:Nat) (x:ar) (v:V),X.N[i]?=Z x->σ[i]?=Z (Z v)->vq X.env.scope x->∃u,RelV v u/\Look X.env s.heap m x u)
  (R:G.Ns X.env.locals (λx=>if x=n then v else m x))(Q:Heap.SameBut X.env.locals s.heap G):Inv X pins (σ.set i aJ) H {s with heap:=G,toks:=t'}:=by
 have h:∀b o,X.dB.heap.get? b=Z o->b≠X.env.locals:=λb o d z=>absurd (Yu (z▸d)) (Nat.not_lt.mpr I.ok.above);have k:∀b o,b≠X.env.locals->s.heap.get? b=Z o->G.get? b=Z o:=λb o d E=>(Q.2 b d).trans E;have xK:∀b u,H b=Z u->b≠X.env.locals:=λb u d z=>by rw[z,I.free] at d;cases d
 refine⟨I.ok,I.os,I.bare,⟨λb o e D f x=>k b o (h b o e) (I.base.keep b o e D f x),λb o e D f x=>?_,I.base.free,λb o e x=>?_,I.base.iZ,I.base.jr,I.base.jM⟩,⟨_,R,λj x w N J e3=>?_⟩,λx c e=>?_,I.free,I.jo,λp W=>?_,λb u d=>?_,?_⟩
 ·obtain⟨P,g⟩:=I.base.slot b o e D f x;exact⟨P,k b _ (h b o e) g⟩
 ·obtain⟨L,g⟩:=I.base.there b o e x;exact⟨L,k b L (h b o e) g⟩
 ·by_cases z:i=j
  ·subst z;have a:=J;rw[List.getElem?_set_self'] at a;cases q:σ[i]? with
   |none=>rw[q] at a;cases a
   |some y=>rw[q] at a;cases a
  ·rw[WZ z] at J;refine bo (T j x w N J e3) λu r l=>?_;refine⟨u,r,?_⟩;have ne:x≠n:=λy=>z (IV hN hi (y▸N));rcases l with⟨C,B⟩|⟨C,c,B,⟨o,t,A⟩⟩
   ·refine .inl ⟨C,?_⟩;show(if x=n then v else m x)=Z u;rwa[bF ne]
   ·exact .inr ⟨C,c,B,o,k c o (I.qR x c B) t,A⟩
 ·refine iF (I.cell x c e) λw o t A=>?_;exact⟨w,o,k c o (I.qR x c e) t,A⟩
 ·refine eJ (I.pin p W) λC B t A=>?_;exact⟨k p.1 p.2 t C,B,t,A⟩
 ·refine(I.aw b u d).jq (λc o F E=>k c o ?_ E) (λ_ q=>q) λ_ _ q=>q;rcases F with rfl|F;·exact xK _ _ d
  ·exact xK _ _ F
 ·rw[W8];exact I.len
end
section
variable {K:ah}
def Zek(h:K.In s.heap)(F:dR K B)(D:dR K C)(i:iD s.heap a C d H)(n:mroIn K C (.ref B)=Z b)(z:Q b s):wpAny M A (excMatches (.ref a) (.ref B)) Q E s:=by
 obtain⟨R,q,N,bs,u,I,J,ab,v,dd,k0,k1,k2,k3,k5,l⟩:=F.mZ;obtain⟨m,L,N',w,t,j,k,x,y,jy,l0,l1,X,W,T,e⟩:=D.mZ;have g:=h _ _ l;have o:=h _ _ e;refine cm i λP r p _=>?_;have G:=UJ B u (.type "BaseException") QD;have c:=ze e n;have f:=tc_notTuple;unfold excMatches;repeat (first|(with_reducible refine mn r ?_;rw[p])|with_reducible refine mn g ?_|(with_reducible refine pB g ?_;rw[G])|(with_reducible refine pB o ?_;rw[c])|wp_step)
 cases b<;>(wp_walk;exact z)
def ZgI{l:Nat}(h:iD s.heap a C d i)(m:xW l H s.heap i)(z:Q () s):wpAny M A (setFlight (.ref a) aJ) Q E s:=by
 refine iy h λn f q p e o=>?_;rcases m with y|⟨T,k,j,y,_,_,c,g,b⟩
 ·refine bt (my f e y ?_);exact cv z
 ·refine bt (my f e y ?_);refine tK c g (Jz.mp b).1 ?_;have same:=Heap.update_setField_same s.heap T k j 3 Value.none c g b;simp_all
end
def hX(K:ah)(B:U)(i:Nat)(g:TS)(D:Ends):St->XK:=λf c o H=>∃C d,c=.ref C/\o=Z d/\dR K C/\mroIn K C (.ref B)=Z af/\
 ∀a,H a=Z (xo a C (Z d))->g {nx:=λb e=>D.nx (b.set i aJ) e,rt:=D.rt,bk:=λb e=>D.bk (b.set i aJ) e,ct:=λb e=>D.ct (b.set i aJ) e} (f.set i (Z (.ref a))) H
section
variable {X:Cx}{B:U}{i:Nat}{n x:ar}{W R:O cb}{N:cb}{F P T:Pos}{G:(St->XK)->TS}{L:TS}
theorem Zie{b:cu}(y:X.stack=X.env::X.outer/\X.env.frame=Z X.env.locals)(hN:X.N.Nodup)(hi:X.N[i]?=Z n)(hl:X.env.scope.names.lookup n=Z .local)(hg:Gl X x)(hm:X.mg x=Z (.ref B))(XB:dR X.K B)
  (hb:∀pn t E,uK b {X with pn:=pn,xe:=t} E->PassesOwn X.md X.A X.env t->gO {X with pn:=pn,xe:=t} W (G E))
  (hh:∀a,gO (X.hand a).pE (N::R) L)(fV:(x==("__debug__":ar))=bg:=by decide):
  PS X (.Try W [.ExceptHandler (Z (.Name x F)) (Z n) (N::R) P] [] [] T) (λD σ H=>G (hX X.K B i L D) D σ H):=by
 intro c s σ H D I h;refine bt (mu (wpAny_tryStmt_except ?_));let t:a7->bN->Prop:=λe A=>wpAny X.md X.A (noteFrame e X.env) (λ_ s2=>wpAny X.md X.A (setFlight e aJ) (λ_ s3=>wpAny X.md X.A (handleBy e X.env [.ExceptHandler (Z (.Name x F)) (Z n) (N::R) P]) (SP X c D) X.xe s3) X.xe s2) X.xe A;have px':uK b {X with pn:=X.pn++c,xe:=t} (hX X.K B i L D):=by
  intro Lh l H1 A e s' I' cx;have st:X.A.frames=Z (X.env::X.outer):=by exact y.1▸I.ok.frames
  have f1:A.heap.FunFrames X.base (X.env::X.outer):=by exact y.1▸I'.stack
  have f2:∀b∈di (X.env::X.outer),H1 b=aJ:=by exact y.1▸I'.BY
  refine RY st f1 f2 y.2 (by rwa[←y.1]) λs3 c3=>?_;rw[←y.1] at c3;obtain⟨a,C,d,o,vs,rfl,lo,J,ea,xr,⟨fl,_⟩,C',d',ec,ed,XC,mt,q⟩:=I'.Tq c3;cases ec;cases ed;have J2:=J.zy I.ok;refine wpAny_handleBy_cons (codeAny_handlers_test (uo (J2.hand a) hg hm (Zek J2.cO XB XC xr mt (codeAny_handlers_suite_as (ZgI xr fl (BK (v:=.ref a) J2 hN hi (.inl hl) rfl (λs4 J4=>eH (hh a c s4 _ _ _ ((J4.hand a).lL _) (q a ea)) (λf s5 z=>?_) λ _ _=>False.elim) (.inr hl))))) fV)) (by intro z;cases z);have fin:∀{p:St} {r:Hp},Inv (X.hand a).pE c p r s5->∀Q:Unit->bN->Prop,(∀w,Inv X c (p.set i aJ) r w->Q () w)->wpAny X.md X.A (do bindName X.env n .none;unbindBehindTheSuite X.env n P) Q X.xe s5:=by
   intro p r j Q k;have g:=Inv.Zic I.ok j;refine bo g.loc λm hn lk=>?_;refine wpAny_nameGoes_keeps (hl) hn (by rw[I.ok.kind];rfl) λh' v n2 sb=>k _ (g.gone hN hi hn lk n2 sb)
  cases f with
  |next=>
   obtain⟨p,r,j,z⟩:=z;exact fin j _ λw g=>⟨_,_,g,z⟩
  |brk=>
   obtain⟨p,r,j,z⟩:=z;exact fin j _ λw g=>⟨_,_,g,z⟩
  |cont=>
   obtain⟨p,r,j,z⟩:=z;exact fin j _ λw g=>⟨_,_,g,z⟩
  |ret u=>
   obtain⟨v,p,r,j,rv,z⟩:=z;exact fin j _ λw g=>⟨_,_,_,g,rv,z⟩
 refine eH (hb _ t _ px' (PassesOwn.looking) [] s σ H D I.Zid h) (λf A z=>?_) λ_ _ z=>z;cases f with
 |next=>
  obtain⟨l,o,J,q⟩:=z;exact cv ⟨l,o,J.zy I.ok,q⟩
 |brk=>
  obtain⟨l,o,J,q⟩:=z;exact⟨l,o,J.zy I.ok,q⟩
 |cont=>
  obtain⟨l,o,J,q⟩:=z;exact⟨l,o,J.zy I.ok,q⟩
 |ret u=>
  obtain⟨v,l,o,J,rv,q⟩:=z;exact⟨v,l,o,J.zy I.ok,rv,q⟩
end
def Zko(K:ah)(e:TE):TE:=λd H Q=>e d H λx c=>(∃y:ar,x=.str y/\y.length<=sizeLine/\Q (.str y) c)\/(∃i:Int,x=.int i/\i.natAbs.log2<1920/\Q (.str (toString i)) c)\/
 ∃(a:U) (b:O Int),x=.ref a/\az K c a (b.map V.int)/\(∀n∈b,n.natAbs.log2<1920)/\(PyData.tuple (b.map PyData.int)).shown.length<=sizeLine/\Q (.str (PyData.tuple (b.map PyData.int)).shown) c
theorem Zdd{b:O Int}:∀{a:O a7},Vals (b.map V.int) a->∃as,ReadsAll h a (b.map PyData.int) as:=by
 induction b with
 |nil=>intro a r;cases r;exact⟨[],.nil⟩
 |cons n r e=>
  intro a q;cases q with
  |cons d c=>
   obtain⟨t,rfl⟩:=d;obtain⟨as,z⟩:=e c;exact⟨_,.cons (.int n t) z⟩
theorem Zel{a:O Int}(h:∀n∈a,n.natAbs.log2<1920):PyData.showableAll (a.map PyData.int)=af:=by
 induction a with
 |nil=>rfl
 |cons n r b=>
  show(decide (n.natAbs.log2<1920)&&PyData.showableAll (r.map PyData.int))=af
  simp_all
theorem Zck(a:O Int):PyData.hasDictAll (a.map PyData.int)=bg:=by
 induction a with
 |nil=>rfl
 |cons n r b=>exact b
theorem Zde(a:O Int):PyData.depthAll (a.map PyData.int)=0:=by
 induction a with
 |nil=>rfl
 |cons n r b=>
  show max (PyData.int n).depth (PyData.depthAll (r.map PyData.int))=0;rw[b];rfl
def KW(m:cW j X.A)(J:PE X e w):PE X (.FormattedValue e (-1) aJ pos) (Zko X.K w):=by
 intro b s p H Q I h;refine wpAny_FormattedValue_plain (aC (J b s p H _ I h) λu N v=>?_);obtain⟨x,d,c,f,q⟩:=v;rcases q with⟨y,rfl,D,q⟩|⟨i,rfl,E,q⟩|⟨a,k,rfl,G,A,sz,q⟩
 ·obtain⟨t,rfl⟩:=f;exact wpAny_formatField_str ⟨.str y,d,c,⟨t,rfl⟩,q⟩ ⟨.str y,d,c.tok _,⟨_,rfl⟩,q⟩ D
 ·obtain⟨t,rfl⟩:=f;exact wpAny_formatField_int E ⟨.str (toString i),d,c.tok _,⟨_,rfl⟩,q⟩
 ·obtain rfl:u=Value.ref a:=f;obtain⟨ai,r,⟨o,g,C,n,B⟩,R⟩:=c.tuple G;obtain⟨W,P⟩:=Zdd r;refine formatField_of_reads (.tuple g C B (by rwa[List.toList_toArray])) (Zel A) (λz=>?_) m.gd ?_ (λ_ _ z=>z) (λT u L F=>⟨.str (PyData.tuple (k.map PyData.int)).shown,d,c.kept F,⟨u,rfl⟩,q⟩) sz
  ·have l:PyData.hasDictAll (k.map PyData.int)=af:=z;rw[Zck] at l;cases l
  ·show X.A.units+(PyData.depthAll (k.map PyData.int)+1+2)<cLine;rw[Zde];have:=m.un;omega
def ZgJ(c:PE X e te):PE X (.JoinedStr [e] pos) te:=λa s b H Q I h=>wpAny_JoinedStr_one (c a s b H Q I h)
abbrev TJ:=ar->St->Hp->(ar->Hp->Prop)->Prop
def PJ(X:Cx)(f:O cH)(t:TJ):Prop:=
 ∀(a:bq) (s:bN) (c:St) (H:Hp) (b:ar) (R:ar->Hp->Prop) (Q:ar->bN->Prop),Inv X a c H s->t b c H R->(∀y d e,Inv X a c e d->R y e->Q y d)->PySem.Joins X.md X.A X.xe (evalEach f X.env) b Q s
def Zkp:TJ:=λa _ H R=>R a H
def Zjw(d:TE)(c:TJ):TJ:=λa b H R=>d b H λx e=>∃y,x=.str y/\(a++y).length<=sizeLine/\c (a++y) b e R
def Zjx(t:TJ):TE:=λa H Q=>t Str.empty a H λy b=>y.length<=sizeLine/\Q (.str y) b
def Zif:PJ X [] Zkp:=λ_ s _ H a _ _ I h k=>k a s H I h
def Ke(n:PE X e g)(m:PJ X p t):PJ X (e::p) (Zjw g t):=by
 intro a s c H b R Q I h k;refine aC (n a s c H _ I h) λu i d=>?_;obtain⟨x,v,r,j,y,o,l,q⟩:=d;subst o;obtain⟨f,rfl⟩:=j;exact⟨y,f,rfl,l,m a i c v (b++y) R Q r q k⟩
def ZgK(h:PJ X (e::f::d) t):PE X (.JoinedStr (e::f::d) pos) (Zjx t):=by
 intro a s b H Q I c;refine wpAny_JoinedStr (h a s b H Str.empty _ _ I c λy j i g ⟨l,q⟩=>⟨l,.str y,i,g.tok _,⟨_,rfl⟩,q⟩)
end _L
namespace _L
open PySem PySem.Spec PyProof.Rows
structure Bl(mg:a8):Prop where
 CG:mg "len"=aJ
 Zjy:mg "abs"=aJ
 uA:mg "list"=aJ
 jk:mg "range"=aJ
 nO:mg "tuple"=aJ
 Zjz:mg "any"=aJ
 UQ:mg "all"=aJ
 Gh:mg "isinstance"=aJ
 zA:mg "bool"=aJ
 Lq:mg "int"=aJ
 zK:mg "str"=aJ
 BO:mg "sorted"=aJ
 UR:mg "min"=aJ
 ZjA:mg "max"=aJ
 Zmt:mg "sum"=aJ
 Tt:mg "dict"=aJ
 Zmc:mg "reversed"=aJ
 ZbK:mg "ValueError"=aJ
def Zkq{K:ah}(a:X.calm=af)(h:X.K=K):dz X (.builtin "any") (VC K):=h▸ZaW a
def VJ{K:ah}(a:X.calm=af)(h:X.K=K):dz X (.builtin "all") (VD K):=h▸ZaX a
def sortedK{K:ah}(h:X.K=K):dz X (.builtin "sorted") (Kb K):=h▸OV
def oI{K:ah}(h:X.K=K):cV X (compareOp .In) (Al K bg):=h▸Zeb
def xg{K:ah}(h:X.K=K):cV X (compareOp .NotIn) (Al K af):=h▸ZbH
def R1{K:ah}(h:X.K=K):jT X (MJ K):=h▸Zh0
structure uY(K:ah)(x qual:ar)(st:cb)(f:U)(fd:FuncData):Prop where
 ex:∃(oc:a7) (od:bS U) (dV kV doc pm:a7) (an:bS U) (bR ct:a7) (jS:dq (bS a7)),
  fd=fnOf x qual (mK st) (jF st) (aL st) dV kV doc pm an bR ct/\K.lookup f=Z ⟨oc,od,.func fd,jS⟩/\codeIn K bR qual=af
 kp:keepIn K (.ref f)=af
section
variable {P:dC}{w:dg}{K:ah}{W:a8}{X:c8}
def uY.ok{x c:ar}{e:cb}{f:U}{l:FuncData}{N i:O ar}{k:Nat}{sp:Sp}(F:uY K x c e f l)(a:aW N i (aL e))(j:∀d H Q E,sp d H Q E->d.length=i.length)
  (m:∀(g:a7) (A:fb) (b:O Env) (s:bN) (H:Hp) (d:O V) (Q:VK) (E:XK),cW k (A.deeper (envOfC c (aL e) s.heap.objs.size f g))->sp d H Q E->
   ∃t,gO (lM aR P w K W X N c (aL e) f g A b s H E).pE (jF e) t/\t {nx:=λ_ v=>Q .ay v,rt:=Q} (start N d) H):aI P w K W X aR (k+1) f l i sp:=by
 obtain⟨B,z,D,kV,u,y,I,g,G,C,rfl,o,r⟩:=F.ex;refine Ln o r a j λA b s H d Q E p n=>?_;refine bo (m g A b s H d Q E p n) λt h q=>?_;exact⟨t,h.pE,q⟩
end
def KY{K:ah}:kitOne K (.type "int") (.type "int")=Z af:=QJ
def Cn{K:ah}:kitOne K (.type "int") (.type "bool")=Z bg:=QJ
def Tu{K:ah}:kitOne K (.type "bool") (.type "bool")=Z af:=QJ
def Zig{K:ah}:kitOne K (.type "str") (.type "bool")=Z bg:=QJ
def Zih{K:ah}:kitOne K (.type "str") (.type "int")=Z bg:=QJ
def Tv{K:ah}:kitOne K (.type "str") (.type "str")=Z af:=QJ
def Zii{K:ah}:kitOne K (.type "list") (.type "bool")=Z bg:=QJ
def Zij{K:ah}:kitOne K (.type "list") (.type "int")=Z bg:=QJ
def Zik{K:ah}:kitOne K (.type "list") (.type "str")=Z bg:=QJ
def Tw{K:ah}:kitOne K (.type "list") (.type "list")=Z af:=QJ
def Zil{K:ah}:kitOne K (.type "list") (.type "tuple")=Z bg:=QJ
def Zim{K:ah}:kitOne K (.type "tuple") (.type "bool")=Z bg:=QJ
def Zin{K:ah}:kitOne K (.type "tuple") (.type "int")=Z bg:=QJ
def Zio{K:ah}:kitOne K (.type "tuple") (.type "str")=Z bg:=QJ
def Ziq{K:ah}:kitOne K (.type "tuple") (.type "list")=Z bg:=QJ
def Tx{K:ah}:kitOne K (.type "tuple") (.type "tuple")=Z af:=QJ
def Ir(a:O Int)(o:bS Int):(a++o.toList).map V.int=a.map V.int++o.toList.map V.int:=QS
inductive Dt where
 |ay|bl (b:cu)|int (i:Int)|str (x:ar)|lst (a:List Dt)|tup (a:List Dt)
def At(H:Hp):Nat->V->Dt->Prop
 |_,v,.ay=>v=.ay
 |_,v,.bl b=>v=.bl b
 |_,v,.int i=>v=.int i
 |_,v,.str x=>v=.str x
 |0,_,.lst _=>False
 |0,_,.tup _=>False
 |m+1,v,.lst ds=>∃a c,v=.ref a/\H a=Z (.lst c)/\ds.length<=1000/\Paired (At H m) c ds
 |m+1,v,.tup ds=>∃a c,v=.ref a/\H a=Z (.tup c)/\ds.length<=1000/\Paired (At H m) c ds
theorem At.same(g:aj H j):∀{m:Nat} {v:V} {d:Dt},At H m v d->At j m v d
 |_,_,.ay,h=>by unfold At at h⊢;exact h
 |_,_,.bl _,h=>by unfold At at h⊢;exact h
 |_,_,.int _,h=>by unfold At at h⊢;exact h
 |_,_,.str _,h=>by unfold At at h⊢;exact h
 |0,_,.lst _,h=>by unfold At at h;exact h.elim
 |0,_,.tup _,h=>by unfold At at h;exact h.elim
 |m+1,_,.lst _,h=>by
  refine dE h λa b e i f c=>?_;exact⟨a,b,e,g _ _ i,f,_L.Paired.bH c λ _ _=>At.same g⟩
 |m+1,_,.tup _,h=>by
  refine dE h λa b e i f c=>?_;exact⟨a,b,e,g _ _ i,f,_L.Paired.bH c λ _ _=>At.same g⟩
def Zir:At H m .ay .ay:=by unfold At;rfl
def CH(b:cu):At H m (.bl b) (.bl b):=by unfold At;rfl
def KZ(x:ar):At H m (.str x) (.str x):=by unfold At;rfl
def K0(h:H a=Z (.tup xs))(l:ds.length<=1000)(p:Paired (At H m) xs ds):At H (m+1) (.ref a) (.tup ds):=by unfold At;exact⟨a,xs,rfl,h,l,p⟩
theorem gf:∀{b:O α} {a:O β} {i:Nat} {x:α},Paired F b a->b[i]?=Z x->∃y,a[i]?=Z y/\F x y:=by
 intro b a i x h;induction h generalizing i with
 |nil=>intro e;simp at e
 |cons r t c=>
  intro e;cases i with
  |zero=>
   have e:=Yp (by simpa using e);subst e;exact⟨_,rfl,r⟩
  |succ i=>
   obtain⟨y,f,d⟩:=c (by simpa using e);exact⟨y,by simpa using f,d⟩
theorem c7:∀{b:O α} {a:O β},Paired F b a->b.length=a.length:=by
 intro b a h;induction h with
 |nil=>rfl
 |cons _ _ c=>rw[Wi,Wi,c]
def nN{i:Nat}(h:xs[i]?=Z x):dY xs (0+(i:Int))=Z x:=by
 rw[show(0:Int)+(i:Int)=(i:Int) from by omega];exact iz h
def XP(H:Hp)(C:U)(c:ar)(E:XK):Prop:=∀(a d:U) (b:Hp),H a=aJ->H d=aJ->aj H b->b a=Z (xo a C (Z d))->b d=Z (xq d [("word",.str c)])->E (.ref C) (Z d) b
def XP.same(x:XP H C b E)(g:aj H H1):XP H1 C b E:=λa d j h f i e c=>x a d j (g.free h) (g.free f) (g.trans i) e c
def xB.of{K:ah}(x:dR K C)(a:PySem.W.findIn K (.ref C) "__init__"=Z (Z (.ref f)))(m:isFn K (.ref f)=af)(e:keepIn K (.ref C)=af):xB K C f:=by
 obtain⟨d,q,N,bs,s,c,sub,p,b,o,k,j,i,h,g,l⟩:=id x.mZ;have no:∀n:String,pj.contains (.type n)=bg->PySem.W.mroIn K C (.type n)=Z bg:=λn r=>by
  unfold PySem.W.mroIn PySem.W.clsIn
  simp_all
 exact⟨⟨d,q,N,bs,_,c,sub,p,b,o,k,j,i,h,g,l⟩,x.mro _ QD,x.mro _ QD,no _ QD,no _ QD,a,m,e⟩
def QI{K:ah}(C:U):kitOne K (.ref C) (.ref C)=Z af:=by unfold kitOne;rw[bC (beq_self_eq_true _)]
def P1{K:ah}(x:dR K B)(e:C≠B)(h:PySem.W.mroIn K C (.ref B)=Z b):kitOne K (.ref C) (.ref B)=Z b:=by
 obtain⟨d,q,N,bs,f,c,sub,j,a,r,p,o,n,m,k,l⟩:=x.mZ;unfold kitOne;rw[bF (λz=>e (Value.ref.inj (beq_iff_eq.mp z)))];unfold kitCls;have i:PySem.W.clsIn K B=Z {name:=d,bases:=bs,mro:=.ref B::(f.map Value.ref++pj),ns:=N,qualname:=q,hasDict:=af,slotNames:=c,subclasses:=sub,abstract:=j,collection:=a,hasDel:=bg}:=by
  unfold PySem.W.clsIn;rw[l]
 have g:typeIn K (.ref B)=Z (.type "type"):=by
  show(K.lookup B).map (·.cls)=_;rw[l];rfl
 dsimp;rw[bC (by rw[i,g];rfl)];exact h
def ZgL:O V->Hp->VK->Prop:=λa H Q=>∃(p:U) (n:Nat),a=[.ref p]/\H p=Z (.kQ 0 (n:Int))/\n<=1000/\∀l:U,H l=aJ->Q (.ref l) (upd H l (.tup ((bQ n).map V.int)))
section
variable {prog:dC}{w:dg}{A:fb}{E:bw}{s:bN}
theorem Zcl{Q:O a7->bN->Prop}{r:U}{n:Nat}{t u v:Tok}(D:A.handled=aJ)(l:IsRange s.heap r 0 (n:Int) 1 t u v)(F:n<=1000)
  (k:∀g h (d:dq a7),(∀b o,s.heap.get? b=Z o->g.get? b=Z o)->ItemsOf (λi v=>∃t,v=.int (0+i*1) t) d n->Q d.toList {s with heap:=g,toks:=h}):
  wpAny (model prog w) A (collect (.ref r)) Q E s:=by
 refine bt (wpAny_runValue (vI PySem.F.entry_proto_collect (bt (ni (cv ⟨zL PySem.F.plain_list_iadd _,vI PySem.F.entry_list_iadd ?_⟩)))));have y:∀s':bN,(∃(g:c8) (h:Nat) (d:dq a7) (c:Nat),s'={s with heap:=g,toks:=h}/\(∀b o,b≠s.heap.objs.size->(s.heap.push {cls:=.type "list",data:=.seq ([]:O a7).toArray}).get? b=Z o->g.get? b=Z o)/\
   g.get? s.heap.objs.size=Z {cls:=.type "list",dict:=aJ,data:=.seq d c,slots:=#[]}/\ItemsOf (λi v=>∃t,v=.int (0+i*1) t) d n)->
   wpAny (model prog w) A (match Value.ref s.heap.objs.size with
    |Value.ref a=>do
     match(←load a).data with
      |Data.seq xs _=>pure xs.toList
      |_=>unsupported "internal:collect"
    |_=>unsupported "internal:collect") Q E s':=by
  intro s' I;refine qp I λg h d c H j here m=>?_;subst H;exact bt (wpAny_load here (cv (k g h d (λb o p=>j b o (Yz (Yu p)) (Yc _ p)) m)))
 refine eH (wpAny_extend_range (s:={s with heap:=s.heap.push {cls:=.type "list",data:=.seq ([]:O a7).toArray}})
  (R:=λr s'=>r=.ok (.ret (.ref s.heap.objs.size))/\∃(g:c8) (h:Nat) (d:dq a7) (c:Nat),s'={s with heap:=g,toks:=h}/\(∀b o,b≠s.heap.objs.size->(s.heap.push {cls:=.type "list",data:=.seq ([]:O a7).toArray}).get? b=Z o->g.get? b=Z o)/\
   g.get? s.heap.objs.size=Z {cls:=.type "list",dict:=aJ,data:=.seq d c,slots:=#[]}/\ItemsOf (λi v=>∃t,v=.int (0+i*1) t) d n)
  D (Yc _ l) (Az (by decide) (by decide) QO QO) (by rw[zl];split<;>omega) (Nat.le_trans F (by decide)) _ _ 0 (Ys _ rfl) λg h d c j here m=>⟨rfl,g,h,d,c,rfl,j,here,m⟩) (λfin s' z=>?_) λe s' z=>?_
 ·cases fin with
  |done f=>obtain⟨q,x⟩:=z;cases q;exact y _ x
  |again G=>exact⟨z.1,nq z.2 λr B l=>by obtain⟨rfl,C⟩:=l;exact y B C⟩
 ·cases z.1
def ZgM(r:U)(n:Nat)(t u v:Tok)(y:n<=1000):
  Meets (Builtin.«tuple.__new__» ⟨[.type "tuple",.ref r],[]⟩) (λA R s=>A.handled=aJ/\IsRange s.heap r 0 (n:Int) 1 t u v/\∀(a:c8) (f:Nat) (acc:dq a7),(∀b o,s.heap.get? b=Z o->a.get? b=Z o)->ItemsOf (λi v=>∃t,v=.int (0+i*1) t) acc n->
   R (.ok (.ret (.ref a.objs.size))) {s with heap:=a.push {cls:=.type "tuple",data:=.seq acc},toks:=f}):=
 .of_wp λprog w A R s h=>by
  obtain⟨C,g,d,f,os⟩:=s;refine c9 h λz j q=>?_;have sub:=sub_tuple_self;have x:=init_tuple_lookup;have B:=madeHere_tuple;have c:A.in1.handled=aJ:=z
  wp_walk using PySem.AutoSeq1.wpAny_loadPart' j,vV ty,Zcl (A:=A.in1) c j y
  intro a l acc p k;show wpAny _ _ (Builtin.Tuple.tupleExact acc.toList.toArray>>=λv=>ret v) _ _ _;unfold Builtin.Tuple.tupleExact;have m:acc.toList.toArray.size<=sizeLine:=by
   have e:=k.1;rw[d6];simp;exact Nat.le_trans (Nat.le_of_eq e) (Nat.le_trans y (by decide))
  refine bt (ni (cv ⟨_,rfl,?_⟩) m);have e:acc.toList.toArray=acc:=QS
  exact e▸q a l acc p k
end
def OJ(E:X.calm=af):dz X (.type "tuple") ZgL:=by
 intro c s m H L N Q I r h;refine dE h λp n P B j q=>?_;subst P;obtain⟨u,rfl,z⟩:=vals1 r;cases z;obtain⟨t,u,v,C⟩:=I.aw p _ B;refine callType_new PySem.F.called_tuple QD (PySem.F.typeCall_tuple_1 _) (PySem.F.newCall_tuple_1 _) (λe=>PySem.F.args_object_init_2 e _) PySem.F.entry_tuple_new (ZgM p n t u v j) ⟨I.ok.hd E,C,λd g a A k=>⟨⟨_,Ys _ rfl,rfl⟩,?_⟩⟩;have l:=I.kept (t':=g) A;have w:Vals ((bQ n).map V.int) a.toList:=by
  refine GF (by rw[Ya,fR];simp[k.1]) λi x u f G=>?_;obtain⟨y,rfl⟩:=k.2 i u (by simpa using G);have D:i<n:=by
   have:=(Yh.mp f).1;rw[Ya,fR] at this;exact this
  rw[Ye,nL D] at f;have F:=Yp f;subst F;exact⟨y,by rw[show(0:Int)+(i:Int)*1=(i:Int) by omega]⟩
 have J:Inv X c m (upd H d.objs.size (.tup ((bQ n).map V.int))) {s with heap:=d.push {cls:=.type "tuple",data:=.seq a},toks:=g}:=
  l.laid (λ b o=>Yc _) (Yd _) (show cX X.prog X.w _ _ _ (.tup _) from⟨by rw[Ya,fR];exact Jn (lE j),a.toList,w,by simpa using nS.new d a⟩)
 exact⟨.ref d.objs.size,_,J,rfl,q _ (l.aw.fresh (Yd _))⟩
inductive R3(K:ah)(c:O V)(H:Hp)(Q:VK):Prop
 |mk (a C:U) (b y:ar) (k:c=[.ref a,.str b,.str y]) (i:H a=Z (xn a C aJ)) (j:dR K C) (g:dA K C "word") (h:b.length<=100) (f:y.length<=1000000) (e:∀d,H d=aJ->d≠a->Q .ay (upd (upd H d (xq d [("word",.str b)])) a (xn a C (Z d)))):R3 K c H Q
def CI(K:ah):Sp:=λa H Q _=>R3 K a H Q
def CK(b:ar)(c:U):Sp:=λe H Q _=>∃(a:U) (y:ar),e=[.ref a,.str y]/\H a=Z (xn a c aJ)/\y.length<=1000000/\
 ∀d,H d=aJ->d≠a->Q .ay (upd (upd H d (xq d [("word",.str b)])) a (xn a c (Z d)))
noncomputable abbrev kU:O ar:=["self","why"]
def uB(P:dC)(w:dg)(K:ah)(b:a8)(a:c8)(x f:ar)(c:U):Prop:=
 ∃d e,xB K c d/\aI P w K b a aR 2 d e kU (CK f c)/\Binds K e kU []/\b x=Z (.ref c)/\dR K c/\dA K c "word"
def tW(c:TE)(R:St->Hp->VK):TE:=λa H Q=>c a H (R a H)/\∀v b,R a H v b->Q v b
def PE.weak(h:PE X e d)(R:St->Hp->VK):PE X e (tW d R):=λa s b H Q I ⟨q,k⟩=>aC (h a s b H (R b H) I q) λ_ _ ⟨v,c,f,r,z⟩=>⟨v,c,f,r,k v c z⟩
def ZgN(c:U)(b:ar)(E:St->XK)(d:TE):TS:=λ_ a H=>d a H λv e=>∃y:ar,v=.str y/\y.length<=1000000/\XP e c b (E a)
def Iu{X:Cx}{j:Nat}{x i:ar}{c:U}{E:St->XK}{e:cH}{t:TE}{p k T:Pos}(h:uB X.prog X.w X.K X.mg X.base x i c)(J:cW j X.A)(L:3<=j)(Q:X.calm=af)(N:Gl X x)(G:CD X E)(P:PE X e t)
  (R:(x==("__debug__":ar))=bg:=by decide)(w:starEach [e] X.env=[(bg,eval e X.env)]:=by rfl):
  PS X (.Raise (Z (.Call (.Name x p) [e] [] T)) aJ k) (ZgN c i E t):=by
 refine rb h λfi fd B F b m W na=>?_;intro f s g H D I q;refine Zfk B F (J.mono L) Q N m b .nil G (aa (P.weak λg _ v r=>∃y:ar,v=.str y/\y.length<=1000000/\XP r c i (E g)) ag w) R w rfl f s g H D I ⟨q,?_⟩;rintro v r ⟨y,rfl,C,A⟩;refine⟨by show 1<=1000;decide,λa u=>⟨a,y,rfl,a9,C,λd hd l=>⟨rfl,d,a9,?_⟩⟩⟩;have z:r d=aJ:=by rw[aS l] at hd;exact hd
 refine A a d _ u z (λb o e=>?_) a9 ?_
 ·have n:=cC e u;rwa[aS n,aS n,aS (cC e z),aS n]
 ·rw[aS l,aS l,a9]
def QL{K:ah}(h:X.K=K):dz X (.builtin "isinstance") (UN K):=h▸ZbJ
def Zfl{X:Cx}{K:ah}{e:cH}{b:TE}{f:ar}{a:Pos}(h:X.K=K)(c:PE X e b)(d:attributeBase e f X.env (eval e X.env)=eval e X.env:=by rfl):PE X (.Attribute e f a) (UM K b f):=h▸ZgF c d
end _L
namespace _L
open PySem PySem.Spec PyProof.Rows
open PySem.W (Looks InstAt looks_findIn looks_typeIn looks_clsIn looks_mroIn looks_find findObj findIn mroIn clsIn)
def K1{X:Cx}{k j:Nat}{m:ar}{C:U}{n:O ar}{l:Sp}{E:St->XK}{a d:Pos}{o e:cH}{es:O cH}{t:TA}{i:TE}{q:Sem cu}(h:∃f g,h_ X.K C/\Meth X.K C m f/\aI X.prog X.w X.K X.mg X.base (lS X.prog X.w) k f g n l/\Binds X.K g n [])(u:cW j X.A)(x:k<=j)(r:CD X E)(v:PE X o i)(y:PA X (e::es) t)
  (z:jv X e es:=by rfl)(A:jR X a es:=by rfl)
  (s:eval (.Call (.Attribute o m d) (e::es) [] a) X.env=(do
   let p←eval o X.env
   standAt d.atName
   let(f,first)←holding [p] (getMethod p m q)
   callWith a f first (backTo a (starEach (e::es) X.env)) (backToKw a (keywordEach [] X.env))):=by rfl):
  PE X (.Call (.Attribute o m d) (e::es) [] a) (KR C m l E i t):=by
 refine dE h λf g c w F b=>?_;exact Zfd v c w F (u.mono x) b r y z A s
end _L
namespace DP
open _L
def Hi(n:Nat):(bQ n).Nodup:=by
 exact List.Pairwise.map _ (λa b h e=>h (Int.ofNat.inj e)) X1
end DP
namespace _L
open PySem PySem.Spec PyProof.Rows
def Row(K:ah)(H:Hp)(p:U)(a:O Int):Prop:=aq K H p (a.map V.int)\/az K H p (a.map V.int)
def Row.same{K:ah}(e:aj H a)(h:Row K H p ns):Row K a p ns:=by
 rcases h with h|h;·exact .inl (e.seq h)
 ·exact .inr (e.kz h)
def full(a:O Int):cu:=decide (a.Perm (bQ a.length))
def rG(h:full ns=af):ns.Perm (bQ ns.length):=fI h
def ur(h:ns.Perm (bQ n)):full ns=af:=d9 (by rwa[h.length_eq,fR])
def Zcm(n:Nat):(bQ n).Pairwise (·<=·):=by
 unfold bQ;rw[Ws];exact List.pairwise_lt_range.imp λh=>QO
theorem Pg:∀{c bs:O Int},c.Perm bs->c.Pairwise (·<=·)->bs.Pairwise (·<=·)->c=bs
 |[],bs,p,_,_=>by
  simp_all
 |a::c,[],p,_,_=>by
  simp_all
 |a::c,b::bs,p,f,d=>by
  rw[List.pairwise_cons] at f d;have e:a=b:=by
   have h:=p.subset Yo;have g:=p.symm.subset Yo
   grind
  subst e;rw[Pg (List.Perm.cons_inv p) f.2 d.2]
def Zcn(p:a.Perm ns)(h:a.Pairwise (·<=·)):decide (a=bQ ns.length)=full ns:=by
 unfold full;rw[Wn,jV,jV];constructor;·grind
 ·intro q;exact Pg (p.trans q) h (Zcm _)
def UT(K:ah)(a:cu)(b:TE):TE:=ku (VF K a) (oG (Kb K) (iV b jO)) (oG QB (iV (oG RV (iV (oG (zV K) (iV b jO)) jO)) jO))
def Zfm{K:ah}(c:σ[i]?=Z (Z (.ref p)))(d:Row K H p ns)(k:ns.length<64)(q:∀g,aj H g->Q (.bl (if neg=af then !full ns else full ns)) g):
   (UT K neg (hV i)) σ H Q:=by
 refine⟨_,c,p,ns,rfl,d,k,λl f m j h=>?_⟩;have e:aj H (upd H l (.lst (f.map V.int))):=cF m _;refine⟨_,c,p,ns.map V.int,rfl,Row.same e d,_,rfl,λr a=>⟨r,(ns.map V.int).length,rfl,a9,by rw[Ya];exact Nat.le_of_lt (Nat.lt_of_lt_of_le k (by decide)),λu b=>?_⟩⟩;have n:=(e.trans (cF a (.kQ 0 (((ns.map V.int).length:Nat):Int)))).trans (cF b (.lst ((bQ (ns.map V.int).length).map V.int)));refine⟨l,u,f,bQ (ns.map V.int).length,rfl,rfl,aq.of ?_,aq.of a9,?_⟩
 ·rw[aS (cC ((cF a _) _ _ a9) b)];exact(cF a _) _ _ a9
 ·rw[Ya,Zcn j h]
  simp_all
theorem any_false(n:Nat):(List.replicate n bg).any id=bg:=by
 induction n with
 |zero=>rfl
 |succ n a=>simp_all
section
open PySem.AutoSeq1 (wpAny_loadPart')
open PySem.MeetsSeq PySem.SeqAt
def Zbc(l:U)(a:dq a7)(n:Nat)(G:bS U)(z:dq (bS a7))(x:a7)(e:a7->cu)(j:Nat)(J:j<a.size)
  (o:e a[j]=af)(H:∀m (I:m<a.size),m<j->e a[m]=bg):
  Meets (Builtin.«tuple.index» ⟨[.ref l,x],[]⟩)
   (λA R s=>s.heap.get? l=Z {cls:=.type "tuple",dict:=G,data:=.seq a n,slots:=z}/\(∀y,y∈a->EqAt A.in1 s y x (e y))/\R (.ok (.ret (.int j s.toks))) {s with toks:=s.toks+1}):=
 .of_wp λf w A R s h=>by
  obtain⟨B,g,d,v,os⟩:=s;obtain⟨C,D,h⟩:=h
  wp_walk using X5 C
  show wpAny _ _ (forIn (m:=Sem) [:min a.size a.size] (aJ,()) _) _ _ _;rw[Std.Legacy.Range.forIn_eq_forIn_range'];refine wpAny_forIn_list _ (λc b q=>q=⟨B,g,d,v,os⟩/\∃i,i<=j/\c=List.range' i (a.size-i)) _ ?_ ?_ _ _ ⟨rfl,0,Yx _,QS⟩
  ·rintro k c b q ⟨rfl,i,L,r⟩;have p:i<a.size:=(Nat.lt_of_le_of_lt L J)
   obtain⟨rfl,u⟩:k=i/\c=List.range' (i+1) (a.size-(i+1)):=by
    have e:a.size-i=(a.size-(i+1))+1:=QO
    rw[e,List.range'_succ] at r;injection r with F E;exact⟨F,E⟩
   rw[Wz p];refine bt (D _ (XH p) f w _ _ ?_);rcases Nat.lt_or_ge k j with t|t
   ·rw[H k p t]
    wp_walk
    exact⟨rfl,k+1,(Nat.succ_le_of_lt t),u⟩
   ·obtain rfl:k=j:=(Nat.le_antisymm L t)
    rw[o]
    wp_walk
    exact⟨_,rfl,h⟩
  ·grind
end
def Zis(f:TE)(t:TA):TE:=λb H Q=>f b H λx d=>∃(p:U) (a:O Int),x=.ref p/\d p=Z (.tup (a.map V.int))/\t b d λe c=>∃(z:Int) (j:Nat),e=[.int z]/\c p=Z (.tup (a.map V.int))/\a[j]?=Z z/\(∀m,m<j->a[m]?≠Z z)/\Q (.int (j:Int)) c
theorem Zbd:∀{b:O Int} {a:O a7} {j:Nat} (h:j<a.length),Vals (b.map V.int) a->∃n t,b[j]?=Z n/\a[j]=.int n t:=by
 intro b;induction b with
 |nil=>intro a j h r;cases r;simp at h
 |cons n b e=>
  intro a j h r;rw[Wj] at r;cases r with
  |cons r t=>
   cases j with
   |zero=>
    obtain⟨c,rfl⟩:=r;exact⟨n,c,rfl,rfl⟩
   |succ j=>
    obtain⟨d,c,g,f⟩:=e (by simpa using h) t;exact⟨d,c,by simpa using g,by simpa using f⟩
theorem Zem(a:O Int):(a.map V.int).all kh=af:=by
 induction a with
 |nil=>rfl
 |cons n a b=>rw[Wj,Jq,b];rfl
def OW(ho:PE X o to)(ha:PA X [e] t)
  (uH:attributeBase o "index" X.env (eval o X.env)=eval o X.env:=by rfl)
  (LR:((backTo k (starEach [e] X.env)).all (λx=>!x.1)&&(backToKw k (keywordEach [] X.env)).all (λx=>x.1.isSome)
   &&decide ([e].length+([]:O Keyword).length+(if([]:O Keyword).isEmpty then 0 else 1)<30))=af:=by rfl)
  (W:(apos.endLine==k.line)=af:=by rfl)(hs:starEach [e] X.env=(bg,eval e X.env)::starEach [] X.env:=by rfl):
  PE X (.Call (.Attribute o "index" apos) [e] [] k) (Zis to t):=by
 intro b s q H Q I h;refine J6 uH LR W rfl (aC (ho b s q H _ I h) λv w l=>?_);obtain⟨x,T,R,r1,p,f,ex,hp,q1⟩:=l;subst ex;obtain rfl:v=Value.ref p:=r1;obtain⟨_,_,_,A,g,oc,_,_,od⟩:=(show cX X.prog X.w T w.heap p (.tup (f.map V.int)) from R.aw p _ hp);refine⟨"tuple","tuple.index",F.plainAttrs_tuple,VE,F.type_tuple_index,⟨A,g,oc⟩,λa ea=>by cases ea;exact⟨A,g,od⟩,?_⟩;have E:=ha k b w q T _ R q1;rw[hs] at E⊢;refine nV rfl (rj ?_);refine aC E λus s2 l=>?_;obtain⟨vs,H2,P,r2,z,j,ev,eO,D,Ak,q2⟩:=l;subst ev;refine bo r2.one λu gV ru=>?_;subst gV;obtain⟨r,rfl⟩:=ru;obtain⟨_,d,n,⟨cls,dd,J,sl⟩,G,N,n2,L,_⟩:=(P.aw p _ eO);simp only at N L;subst N L;have c:d.length=f.length:=by have:=n.length;rw[Ya] at this;exact Eq.symm this
 have XJ:j<d.length:=by exact c▸(Yh.mp D).1
 have C:∀m (i:m<d.length),jw (.int z) d[m]=decide (f[m]?=Z z):=λm i=>by
  obtain⟨B,t',e1,e2⟩:=Zbd i n;rw[e1,e2];show(B==z)=decide (Z B=Z z)
  grind
 refine oE VE ⟨_,G,rfl⟩ F.entry_tuple_index (F.args_tuple_index_2 _ _) (Zbc p d.toArray n2 dd sl (.int z r) (jw (.int z)) j (by rwa[Yq]) ?_ ?_) ⟨G,?_,?_⟩;·rw[Ni,C j XJ];exact d9 D
 ·intro m i bZ;rw[Ni,C m (by simpa using i)];exact jb (Ak m bZ)
 ·intro y hy;exact y_ (x:=.int z) ⟨r,rfl⟩ rfl n (Zem f) y (by simpa using hy)
 ·exact⟨.int _,H2,P.tok _,⟨_,rfl⟩,q2⟩
section
variable {X:Type}[DecidableEq X]
noncomputable def aY(a:O (X×V))(k:X):bS V:=(a.find? λb=>decide (b.1=k)).map (·.2)
def putK(a:O (X×V))(k:X)(v:V):O (X×V):=
 if(a.any λb=>decide (b.1=k))=af then a.map (λb=>if b.1=k then(b.1,v) else b) else a++[(k,v)]
noncomputable def iX(a:O (X×V))(k:X):O (X×V):=a.filter λb=>decide (b.1≠k)
def gw{k:X}(e:p.1=k):aY (p::r) k=Z p.2:=by simp[aY,MU,e]
def gk{k:X}(e:¬p.1=k):aY (p::r) k=aY r k:=by simp[aY,MU,e]
theorem wU(k:X):∀a:O (X×V),(a.any λb=>decide (b.1=k))=(aY a k).isSome
 |[]=>rfl
 |p::r=>by
  rw[Jh];by_cases e:p.1=k;·simp[gw e,d9 e,Bool.true_or,Option.isSome_some]
  ·rw[gk e,jb e,DQ];exact wU k r
theorem QM(k j:X)(y:V):∀a:O (X×V),aY (a.map λb=>if b.1=k then(b.1,y) else b) j=(aY a j).map λx=>if j=k then y else x
 |[]=>rfl
 |p::r=>by
  have c:=QM k j y r;rw[Wj];by_cases h:p.1=k
  ·rw[bC h];by_cases e:p.1=j;·rw[gw (p:=(p.1,y)) e,gw e,YZ,bC (e.symm.trans h)]
   ·rw[gk (p:=(p.1,y)) e,gk e,c]
  ·rw[bF h];by_cases e:p.1=j;·rw[gw e,gw e,YZ,bF (λz=>h (e.trans z))]
   ·rw[gk e,gk e,c]
theorem uh(k j:X)(y:V):∀a:O (X×V),aY a k=aJ->aY (a++[(k,y)]) j=if j=k then Z y else aY a j
 |[],_=>by
  by_cases e:k=j;·rw[bC e.symm];exact gw (p:=(k,y)) e
  ·rw[bF (λz=>e z.symm)];exact gk (p:=(k,y)) e
 |p::r,b=>by
  rw[XM];have c:¬p.1=k:=λz=>by rw[gw z] at b;cases b
  rw[gk c] at b;by_cases e:p.1=j;·rw[gw e,gw e,bF (λz=>c (e.trans z))]
  ·rw[gk e,gk e,(uh k j y r b)]
theorem I0(b:O (X×V))(k j:X)(y:V):aY (putK b k y) j=if j=k then Z y else aY b j:=by
 unfold putK;by_cases a:(b.any λc=>decide (c.1=k))=af
 ·rw[bC a,QM];rw[wU] at a;by_cases e:j=k
  ·obtain⟨x,d⟩:=Jk.mp a
   grind
  ·simp_all
 ·rw[bF a];refine uh k j y b ?_;rw[wU] at a;cases q:aY b k with
  |none=>rfl
  |some x=>grind
def Bj(a:O (X×V))(k:X)(v:V):(putK a k v).length<=a.length+1:=by
 unfold putK
 grind
def lF{k:X}(v:V)(h:aY a k=aJ):putK a k v=a++[(k,v)]:=by
 unfold putK;rw[wU,h];rfl
theorem fG.wJ(r:fG o u):o.isSome=u.isSome:=by
 cases o with
 |none=>cases u with
  |none=>rfl
  |some _=>exact(r).elim
 |some _=>cases u with
  |none=>exact(r).elim
  |some _=>rfl
theorem fG.getD(r:fG o u)(a:RelV d b):RelV (o.getD d) (u.getD b):=by
 cases o with
 |none=>cases u with
  |none=>exact a
  |some _=>exact(r).elim
 |some _=>cases u with
  |none=>exact(r).elim
  |some _=>exact r
theorem KV.val(r:KV c g)(k:X):fG (aY c k) (valueAt g k):=by
 unfold KV at r;induction r with
 |nil=>exact kS
 |@cons p q i a h t j=>
  obtain⟨f,l⟩:=h;by_cases e:p.1=k
  ·have d:=f.symm.trans e;have b:valueAt (q::a) k=Z q.2:=by simp[valueAt,MU,d]
   rwa[gw e,b]
  ·have d:¬q.1=k:=λz=>e (f.trans z);have b:valueAt (q::a) k=valueAt a k:=by simp[valueAt,MU,d]
   rwa[gk e,b]
theorem KV.any(r:KV a c)(k:X):(a.any λb=>decide (b.1=k))=c.any λb=>decide (b.1=k):=by
 induction r with
 |nil=>rfl
 |cons h t d=>simp_all
theorem KV.LY(r:KV b c)(k:X)(e:RelV y u):
  KV (b.map λa=>if a.1=k then(a.1,y) else a) (c.map λa=>if a.1=k then(a.1,u) else a):=by
 induction r with
 |nil=>exact .nil
 |@cons p q g f h t d=>
  refine .cons ?_ d
  grind
def KV.put(r:KV a b)(k:X)(c:RelV y u):KV (putK a k y) (stored b k u):=by
 unfold putK stored;rw[r.any k];by_cases e:(b.any λd=>decide (d.1=k))=af;·rw[bC e,bC e];exact r.LY k c
 ·rw[bF e,bF e];exact Paired.snoc r ⟨rfl,c⟩
theorem KV.drop(r:KV c f)(k:X):KV (iX c k) (without f k):=by
 unfold iX without;induction r with
 |nil=>exact .nil
 |@cons p q m l h t g=>
  obtain⟨d,i⟩:=h;rw[W5,W5];by_cases e:p.1=k;·simp_all
  ·have j:¬q.1=k:=λz=>e (d.trans z);have a:decide (p.1≠k)=af:=by simp[e]
   have b:decide (q.1≠k)=af:=by simp[j]
   rw[bC a,bC b];exact .cons ⟨d,i⟩ g
theorem KV.keys{a:O (X×V)}(r:KV a b):a.map (·.1)=b.map (·.1):=by
 induction r with
 |nil=>rfl
 |cons h t c=>simp_all
def KV.length(r:KV a b):a.length=b.length:=Paired.length r
def QN(a:O (X×V))(k:X):(iX a k).length<=a.length:=Wl _ _
end
theorem mS(r:RelV (kV k) u):(dJ P w).is k u=af:=by
 cases k with
 |inl i=>obtain⟨t,e⟩:=(show ∃t,u=Value.int i t from r);subst e;exact Zcf P w i t
 |inr x=>obtain⟨t,e⟩:=(show ∃t,u=Value.str x t from r);subst e;exact Zcg P w x t
theorem P2:∀{a:O Key} {b:O a7},Vals (a.map kV) b->ItemsAre (dJ P w) a b
 |[],_,r=>by rw[Ad] at r;cases r;exact .nil
 |k::a,_,r=>by
  cases r with
  |cons h t=>exact .cons (mS h) (P2 t)
abbrev KT(H:Hp):O (O Key×V)->O (O Key×U×a7)->Prop:=Paired λp q=>p.1=q.1/\H q.2.1=Z (.tup (p.1.map kV))/\RelV p.2 q.2.2
theorem KT.val(r:KT H c xs)(k:O Key):fG (aY c k) ((atKey xs k).map (·.2)):=by
 induction r with
 |nil=>exact kS
 |@cons p q g a h t i=>
  refine c9 h λf _ j=>?_;by_cases e:p.1=k
  ·have d:=f.symm.trans e;have b:atKey (q::a) k=Z q.2:=by simp[atKey,d]
   rwa[gw e,b]
  ·have d:¬q.1=k:=λz=>e (f.trans z);have b:atKey (q::a) k=atKey a k:=by simp[atKey,d]
   rwa[gk e,b]
theorem KT.LY(r:KT H a xs)(k:O Key)(d:RelV y u):
  KT H (a.map λb=>if b.1=k then(b.1,y) else b) (xs.map (putAt k u)):=by
 induction r with
 |nil=>exact .nil
 |@cons p q f e h t c=>
  refine .cons ?_ c;unfold putAt
  grind
def KT.put(r:KT H a xs)(k:O Key)(f:H b=Z (.tup (k.map kV)))(c:RelV y u):
  KT H (putK a k y) (storedH xs k b u):=by
 have e:(a.any λd=>decide (d.1=k))=(atKey xs k).isSome:=by
  rw[wU,(r.val k).wJ,XN]
 unfold putK storedH;rw[e];by_cases q:(atKey xs k).isSome=af;·rw[bC q,bC q];exact r.LY k c
 ·rw[bF q,bF q];exact Paired.snoc r ⟨rfl,f,c⟩
def KT.keeps(r:KT H a xs)(d:∀b c,H b=Z (.tup c)->e b=Z (.tup c)):KT e a xs:=
 Paired.bH r λ_ _ z=>⟨z.1,d _ _ z.2.1,z.2.2⟩
def UU(b:dH P w H h)(e:Rd H a u):cX P w H h a u:=e.ok b
def qF(c:dH P w H h)(e:Rd H a (.dK b)):b.length<=sizeLine/\(a==sysModules)=bg/\∃vs,KV b vs/\h.DictOf (dJ P w) a vs:=
 UU c e
def o_(c:dH P w H h)(e:H a=Z (.dK b)):b.length<=sizeLine/\(a==sysModules)=bg/\∃vs,KV b vs/\h.DictOf (dJ P w) a vs:=qF c (.inl e)
def r6(b:dH P w H h)(e:H a=Z (.tup (c.map kV))):(tupleKind (dJ P w)).is h c a:=by
 obtain⟨_,i,r,o,g,f,n,d,_⟩:=(b a _ e);exact⟨o,i.toArray,n,g,f,d,by simpa using P2 r⟩
theorem sh(d:dH P w H h)(e:Rd H a (.dT b)):b.length<=sizeLine/\(a==sysModules)=bg/\
  ∃xs,KT H b xs/\h.DictOfH (tupleKind (dJ P w)) a xs:=by
 obtain⟨z,y,xs,r,o,u,v,s,n,k,j,i⟩:=(UU d e);refine⟨z,y,xs,r,o,u,v,s,n,k,j,λx c=>?_,i⟩;have all:∀{l:O (O Key×V)} {m:O (O Key×U×a7)},KT H l m->∀x∈m,(tupleKind (dJ P w)).is h x.1 x.2.1:=by
  intro l m q;induction q with
  |nil=>grind
  |@cons p q B A f t g=>
   intro x c;rcases Ym.mp c with e|c
   ·subst e;exact r6 d (by exact f.1▸f.2.1)
   ·exact g x c
 grind
def UW(c:dH P w H h)(e:H a=Z (.dT b)):b.length<=sizeLine/\(a==sysModules)=bg/\
  ∃xs,KT H b xs/\h.DictOfH (tupleKind (dJ P w)) a xs:=sh c (.inl e)
def fJ(H:Hp)(a:U)(y:V)(r:bS V):Prop:=
 (∃c k,Rd H a (.dK c)/\y=kV k/\r=aY c k)\/∃c k b,Rd H a (.dT c)/\y=.ref b/\H b=Z (.tup (k.map kV))/\r=aY c k
def uZ(H:Hp)(a:U)(y v:V)(d:Hp):Prop:=
 (∃c k,H a=Z (.dK c)/\y=kV k/\c.length<sizeLine/\d=upd H a (.dK (putK c k v)))\/
 ∃c k b,H a=Z (.dT c)/\y=.ref b/\H b=Z (.tup (k.map kV))/\c.length<sizeLine/\d=upd H a (.dT (putK c k v))
def fJ.k{k:Key}(e:H a=Z (.dK b)):fJ H a (kV k) (aY b k):=.inl ⟨b,k,.inl e,rfl,rfl⟩
def fJ.t{k:O Key}(e:H a=Z (.dT c))(d:H b=Z (.tup (k.map kV))):fJ H a (.ref b) (aY c k):=.inr ⟨c,k,b,.inl e,rfl,d,rfl⟩
def uZ.k{k:Key}(e:H a=Z (.dK b))(c:b.length<sizeLine):uZ H a (kV k) v (upd H a (.dK (putK b k v))):=.inl ⟨b,k,e,rfl,c,rfl⟩
def uZ.t{H:Hp}{a b:U}{c:O (O Key×V)}{k:O Key}{v:V}(e:H a=Z (.dT c))(f:H b=Z (.tup (k.map kV)))(d:c.length<sizeLine):
  uZ H a (.ref b) v (upd H a (.dT (putK c k v))):=.inr ⟨c,k,b,e,rfl,f,d,rfl⟩
def Inv.big(I:Inv X pins σ H s):sysModules<s.heap.objs.size:=by
 exact Nat.lt_trans QD ((I.mod.glob.keeps I.bk).lt)
def Zen(r:A.units+1<cLine)(I:Inv X pins σ H s)(g:fJ H a y (Z v))(q:RelV y u)(h:∀d o,Inv X pins σ H o->RelV v d->Q d o):
  wpAny X.md A (getItem (.ref a) u) Q E s:=by
 rcases g with⟨f,k,e,m,l⟩|⟨f,k,b,e,m,w,l⟩
 ·subst m;obtain⟨z,hd,C,c,n⟩:=qF I.aw e;obtain⟨d,j,i⟩:=fG.some_of (by exact l▸c.val k);exact wpAny_getItem_of (mS q) n.mapOf j (h d _ (I.tok _) i)
 ·subst m;cases(q);obtain⟨z,hd,B,c,n⟩:=sh I.aw e;obtain⟨d,j,i⟩:=fG.some_of (by exact l▸c.val k);refine bo (Jd.mp j) λp t x=>?_;refine wpAny_getItem_heap (pQ r) (r6 I.aw w) n t ?_;exact x▸h d _ (I.tok _) i
def Zkr(n:A.units+1<cLine)(I:Inv X pins σ H s)(g:fJ H a y o)(m:RelV y u)(h:∀j,Inv X pins σ H j->Q (.bool o.isSome) j):
  wpAny X.md A (compareOp .In u (.ref a)) Q E s:=by
 rcases g with⟨d,k,e,f,l⟩|⟨d,k,b,e,f,p,l⟩
 ·subst f;obtain⟨z,hd,t,c,i⟩:=qF I.aw e;refine wpAny_in_of (mS m) hd i.mapOf ?_;rw[←(c.val k).wJ,←l];exact h _ (I.tok _)
 ·subst f;cases(m);obtain⟨z,hd,r,c,i⟩:=sh I.aw e;refine wpAny_in_heap (pQ n) (r6 I.aw p) hd i ?_;have q:=(c.val k).wJ;rw[XN] at q;rw[←q,←l];exact h _ (I.tok _)
def ZgO(n:A.units+1<cLine)(I:Inv X pins σ H s)(g:fJ H a y o)(m:RelV y u)(h:∀j,Inv X pins σ H j->Q (.bool (!o.isSome)) j):
  wpAny X.md A (compareOp .NotIn u (.ref a)) Q E s:=by
 rcases g with⟨d,k,e,f,l⟩|⟨d,k,b,e,f,p,l⟩
 ·subst f;obtain⟨z,hd,t,c,i⟩:=qF I.aw e;refine wpAny_notIn_of (mS m) hd i.mapOf ?_;rw[←(c.val k).wJ,←l];exact h _ (I.tok _)
 ·subst f;cases(m);obtain⟨z,hd,r,c,i⟩:=sh I.aw e;refine wpAny_notIn_heap (pQ n) (r6 I.aw p) hd i ?_;have q:=(c.val k).wJ;rw[XN] at q;rw[←q,←l];exact h _ (I.tok _)
def uu(I:Inv X pins σ H s)(f:Ac (H a))(g:Heap.SameBut a s.heap d)(h:∃q,d.get? a=Z q)(c:cX X.prog X.w (upd H a e) d a e):
  Inv X pins σ (upd H a e) {s with heap:=d,toks:=j}:=
 I.write f (.inl rfl) (λb q i z=>(g.2 b i).trans z) h c
def xh(z:b.length<=sizeLine)(e:(a==sysModules)=bg)(c:KV b d)(g:f.DictOf (dJ P w) a d):
  cX P w h f a (.dK b):=⟨z,e,d,c,g⟩
def P4(L:A.units+1<cLine)(I:Inv X pins σ H s)(g:uZ H a y v H')(x:RelV y u)(B:RelV v r)(h:∀w,Inv X pins σ H' w->Q () w):
  wpAny X.md A (setItem (.ref a) u r) Q E s:=by
 rcases g with⟨f,k,e,o,l,p⟩|⟨f,k,b,e,o,D,l,p⟩
 ·subst o p;obtain⟨z,hd,G,d,t⟩:=o_ I.aw e;have J:G.length<=sizeLine:=by rwa[←d.length]
  have n:(putK f k v).length<=sizeLine:=by have:=Bj f k v;exact Nat.le_trans this (Nat.succ_le_of_lt l)
  refine wpAny_setItem_pairs (mS x) t λC i m=>h _ ?_;have N:∃q,C.get? a=Z q:=let⟨q,_,_,j,_⟩:=i;⟨q,j⟩;exact uu I (by exact e▸kS) m N (xh n hd (d.put k B) i)
 ·subst o p;cases(x);obtain⟨z,hd,F,d,t⟩:=UW I.aw e;have J:F.length<=sizeLine:=by rwa[←Paired.length d]
  have n:(putK f k v).length<=sizeLine:=by have:=Bj f k v;exact Nat.le_trans this (Nat.succ_le_of_lt l)
  refine wpAny_setItem_heap (pQ L) (r6 I.aw D) t λC i m=>h _ ?_;refine nR i λq es ep j W T R _ P=>?_;refine uu I (by exact e▸kS) m ⟨q,j⟩ ⟨n,hd,_,(d.put k D B).keeps λc ys ec=>?_,q,es,ep,j,W,T,R,P⟩;rwa[aS (Uw ec e (λz=>nomatch z))]
def Zeo(I:Inv X pins σ H s)(e:H a=Z (.dK c))(j:RelV (kV k) u)(l:(aY c k).isSome=af)(h:∀f,Inv X pins σ (upd H a (.dK (iX c k))) f->Q () f):
  wpAny X.md A (delItem (.ref a) u) Q E s:=by
 obtain⟨z,hd,i,b,d⟩:=o_ I.aw e;refine Pw d.typeIs QD vE
  (oa vE d.typeIs DB (Dz _ _) (meets_dict_delitem_pairs (dJ X.prog X.w) a (mS j)) ⟨i,d,by rw[←b.length];exact z,by rwa[←(b.val k).wJ],λp g m=>h _ ?_⟩)
 have o:∃q,p.get? a=Z q:=let⟨q,_,_,n,_⟩:=g;⟨q,n⟩;exact uu I (by exact e▸kS) m o (xh (Yy (QN c k) z) hd (b.drop k) g)
theorem ZjB(I:Inv X pins σ H s)(e:H a=Z (.dK c))(f:RelV (kV k) u)(l:aY c k=Z v)(m:more=[]\/∃x,more=[x])
  (h:∀d g,Inv X pins σ (upd H a (.dK (iX c k))) g->RelV v d->Q d g):wpAny X.md A (call (.builtin "dict.pop") (.ref a::u::more)) Q E s:=by
 obtain⟨z,hd,o,b,n⟩:=o_ I.aw e;obtain⟨d,r,p⟩:=fG.some_of (v:=v) (by exact l▸b.val k);have B:(keyPart u).isSome=af:=by
  cases k with
  |inl i=>obtain⟨t,q⟩:=(show ∃t,u=Value.int i t from f);subst q;rfl
  |inr x=>obtain⟨t,q⟩:=(show ∃t,u=Value.str x t from f);subst q;rfl
 have D:argsOk "dict.pop" ⟨.ref a::u::more,[]⟩:=by
  rcases m with q|⟨x,q⟩;·subst q;exact PySem.F.args_dict_pop_2 _ _
  ·subst q;exact PySem.F.args_dict_pop_3 _ _ _
 refine oa slot_dict_pop n.typeIs PySem.F.entry_dict_pop D (meets_dict_pop_there (dJ X.prog X.w) a (mS f) more m B)
  ⟨o,d,n,by rwa[←b.length],r,λF j w=>h d _ ?_ p⟩
 have C:∃q,F.get? a=Z q:=let⟨q,_,_,y,_⟩:=j;⟨q,y⟩;exact uu I (by exact e▸kS) w C (xh (Yy (QN c k) z) hd (b.drop k) j)
def ZjC(I:Inv X pins σ H s)(e:Rd H a (.dK c))(h:∀t d,Inv X pins σ H d->Q (.int c.length t) d):wpAny X.md A (call (.builtin "len") [.ref a]) Q E s:=by
 obtain⟨z,hd,g,b,f⟩:=qF I.aw e;refine call_len_dict hd f (by rw[←b.length];rw[d6] at z;omega) ?_;exact b.length▸h _ _ (I.tok _)
def VL(i:cH):Prop:=∀a b,subscripted i bg a b=operate [a,b] (getItem a b)
theorem ZgP{a:dC}{w:dg}{A:fb}{E:bw}{s:bN}{d:Env}{c b:cH}{f:Pos}{T id:String}{Q:bw}
  (n:typeLookup (.type T) "__getitem__"=pure (Z (.builtin id)))(m:VL b)
  (h:wpAny (model a w) A (eval c d) (λo j=>wpAny (model a w) A (eval b d) (λi fH=>fH.TypeIs o T/\wpAny (model a w) A (getItem o i) Q E fH) E j) E s):
  wpAny (model a w) A (eval (.Subscript c b f) d) Q E s:=by
 refine Subscript_ (eH h (λo j l=>eH l (λi fH e=>?_) λ_ _ x=>x) λ_ _ x=>x);obtain⟨p,e⟩:=e;refine bt (bt (wpAny_specialOf p n ?_));have fin:wpAny (model a w) A (subscripted b bg o i) (λr g=>wpAny (model a w) A (letTemporaryGo c o r>>=λ_=>pure r) Q E g) E fH:=by
  rw[m o i];exact wpAny_operating (eH e (λr g k=>bt (wpAny_letTemporaryGo (cv k))) λ_ _ x=>x)
 first
  |exact cv (bt fin)
  |exact bt (cv (bt fin))
  |exact bt fin
def Zco(I:Inv X pins σ H s)(g:fJ H a y o):s.TypeIs (.ref a) "dict":=by
 rcases g with⟨c,k,e,_,_⟩|⟨c,k,b,e,_,_,_⟩
 ·obtain⟨_,_,h,_,d⟩:=qF I.aw e;exact d.typeIs
 ·obtain⟨_,_,f,_,d⟩:=sh I.aw e;exact d.typeIs
inductive R4(Q:VK)(x:V)(y:V)(b:Hp):Prop
 |mk (a v) (e:x=.ref a) (c:fJ b a y (Z v)) (d:Q v b):R4 Q x y b
def ZjD(c b:TE):TE:=λa H Q=>c a H λx e=>b a e λy d=>R4 Q x y d
inductive Tz(Q:VK)(y:V)(x:V)(b:Hp):Prop
 |mk (a o) (e:x=.ref a) (c:fJ b a y o) (d:Q (.bl o.isSome) b):Tz Q y x b
def Zks(b c:TE):TE:=λa H Q=>b a H λy e=>c a e λx d=>Tz Q y x d
inductive P5(Q:VK)(y:V)(x:V)(b:Hp):Prop
 |mk (a o) (e:x=.ref a) (c:fJ b a y o) (d:Q (.bl (!o.isSome)) b):P5 Q y x b
def ZgQ(b c:TE):TE:=λa H Q=>b a H λy e=>c a e λx d=>P5 Q y x d
def dm(q:X.A.units+1<cLine)(t:PE X o f)(w:PE X i ty)(r:VL i):PE X (.Subscript o i pos) (ZjD f ty):=by
 intro b s d H Q I h;refine ZgP PySem.F.slot_dict_getitem.lookup r (aC (t b s d H _ I h) λu j c=>?_);obtain⟨x,D,B,l,n⟩:=c;refine aC (w b j d D _ B n) λJ G c=>?_;obtain⟨y,C,e,k,a,v,z,g,m⟩:=c;subst z;obtain rfl:u=Value.ref a:=l;exact⟨Zco e g,Zen q e g k λE F A p=>⟨v,C,A,p,m⟩⟩
def Co(p:X.A.units+1<cLine)(r:PE X i ty)(q:PE X o e):PC X .In i o (Zks ty e):=by
 intro b s d H Q I h;refine aC (r b s d H _ I h) λE f c=>?_;obtain⟨y,B,z,j,m⟩:=c;refine aC (q b f d B _ z m) λu D c=>?_;obtain⟨x,A,w,k,a,n,t,g,l⟩:=c;subst t;obtain rfl:u=Value.ref a:=k;exact Zkr p w g j λC v=>⟨.bl n.isSome,A,v,rfl,l⟩
def oS(p:X.A.units+1<cLine)(r:PE X i ty)(q:PE X o e):PC X .NotIn i o (ZgQ ty e):=by
 intro b s d H Q I h;refine aC (r b s d H _ I h) λE f c=>?_;obtain⟨y,B,z,j,m⟩:=c;refine aC (q b f d B _ z m) λu D c=>?_;obtain⟨x,A,w,k,a,n,t,g,l⟩:=c;subst t;obtain rfl:u=Value.ref a:=k;exact ZgO p w g j λC v=>⟨.bl (!n.isSome),A,v,rfl,l⟩
def QP(h:c8)(a:sysModules<h.objs.size):cX P w H (h.push {cls:=.type "dict",data:=.dict #[]}) h.objs.size (.dK []):=
 ⟨Yx _,beq_eq_false_iff_ne.mpr (lp (Yz a)),[],.nil,Zg h⟩
def Zfn(h:c8)(a:sysModules<h.objs.size):cX P w H (h.push {cls:=.type "dict",data:=.dict #[]}) h.objs.size (.dT []):=
 ⟨Yx _,beq_eq_false_iff_ne.mpr (lp (Yz a)),[],.nil,_,#[],0,Ys _ rfl,⟨rfl,rfl,rfl⟩,rfl,rfl,Jj⟩
def Zit:TE:=λ_ H Q=>∀p,H p=aJ->Q (.ref p) (upd H p (.dK []))
def Ziu:TE:=λ_ H Q=>∀p,H p=aJ->Q (.ref p) (upd H p (.dT []))
def Zfo:PE X (.Dict [] [] pos) Zit:=λa s b H Q I h=>
 XT ⟨.ref s.heap.objs.size,_,I.laid (λ _ _=>Yc _) (Yd _) (QP s.heap I.big),rfl,h _ (I.aw.fresh (Yd _))⟩
def Zfp:PE X (.Dict [] [] pos) Ziu:=λa s b H Q I h=>
 XT ⟨.ref s.heap.objs.size,_,I.laid (λ _ _=>Yc _) (Yd _) (Zfn s.heap I.big),rfl,h _ (I.aw.fresh (Yd _))⟩
def K2:O (TE×TE)->St->Hp->(O (V×V)->Hp->Prop)->Prop
 |[],_,H,Q=>Q [] H
 |(tk,tv)::r,σ,H,Q=>tk σ H λx d=>tv σ d λy c=>K2 r σ c λa b=>Q ((x,y)::a) b
abbrev VV:O (V×V)->O (a7×a7)->Prop:=Paired λp q=>RelV p.1 q.1/\RelV p.2 q.2
def DR(X:Cx)(e:Pos)(c:O (bS cH))(a:O cH)(i:O (TE×TE)):Prop:=
 ∀(b:bq) (s:bN) (d:St) (H:Hp) (Q:O (V×V)->Hp->Prop),Inv X b d H s->K2 i d H Q->
  wpAny X.md X.A (evalPairs (pairTrees c a X.env e)) (λh j=>∃f g,Inv X b d g j/\VV f h/\Q f g) X.xe s
def zf:DR X pos [] [] []:=λa s b H Q I h=>pairTrees_nil_walk ⟨[],H,I,.nil,h⟩
def kG(z:PE X k g)(t:PE X v f)(w:DR X pos r d e):
  DR X pos (Z k::r) (v::d) ((g,f)::e):=λa s b H Q I h=>
 pairTrees_cons_walk (aC (z a s b H _ I h) λu j ⟨x,F,C,m,p⟩=>aC (t a j b F _ C p) λJ i ⟨y,E,B,l,o⟩=>
  aC (w a i b E _ B o) λG L ⟨q,D,A,c,n⟩=>⟨(x,y)::q,D,A,.cons ⟨m,l⟩ c,n⟩)
def oY(b a:O (Key×V)):O (Key×V):=a.foldl (λc d=>putK c d.1 d.2) b
theorem KV.merge:∀{more:O (Key×V)} {c:O (Key×a7)} {a:O (Key×V)} {b:O (Key×a7)},KV more c->KV a b->KV (oY a more) (merged b c):=by
 intro more c a b r;induction r generalizing a b with
 |nil=>intro q;exact q
 |@cons p q i g h t f=>
  intro d;have e:KV (putK a p.1 p.2) (stored b q.1 q.2):=by
   have:=d.put p.1 h.2
   grind
  exact f e
theorem OM:∀(more a:O (Key×V)),(oY a more).length<=a.length+more.length
 |[],a=>by show a.length<=a.length+0;exact Nat.le_refl _
 |p::r,a=>by
  have c:=OM r (putK a p.1 p.2);have b:=Bj a p.1 p.2;show(oY (putK a p.1 p.2) r).length<=_
  grind
theorem Ph:∀{d:O (Key×V)} {f:O (a7×a7)},VV (d.map λg=>(kV g.1,g.2)) f->∃e,Carries (dJ P w) f e/\KV d e
 |[],_,r=>by rw[Ad] at r;cases r;exact⟨[],kS,.nil⟩
 |p::d,_,r=>by
  cases r with
  |@cons a b as bs h t=>
   obtain⟨e,c,q⟩:=Ph t;obtain⟨j,i⟩:=b;exact⟨(p.1,i)::e,⟨mS h.1,rfl,c⟩,.cons ⟨rfl,h.2⟩ q⟩
def ZjE(e:O (TE×TE)):TE:=λd H Q=>∀p,H p=aJ->K2 e d (upd H p (.dK [])) λf c=>c p=Z (.dK [])/\∃a:O (Key×V),f=a.map (λb=>(kV b.1,b.2))/\a.length<=15/\Q (.ref p) (upd c p (.dK (oY [] a)))
def zg(h:DR X pos keys values l)(B:keys.all (·.isSome)=af)(v:keys.length=values.length)(x:keys≠[])
  (f:keys.length<=15):PE X (.Dict keys values pos) (ZjE l):=by
 intro a s j H Q I q;refine wpAny_Dict_walk (knd:=dJ X.prog X.w) B v x f (aC (h a _ j _ _ (I.laid (λ _ _=>Yc _) (Yd _) (QP s.heap I.big)) (q _ (I.aw.fresh (Yd s.heap.objs.size)))) λC D ⟨E,J,i,d,e,b,y,F,p⟩=>?_);subst y;obtain⟨m,c,n⟩:=Ph d;obtain⟨z,hd,k,o,A⟩:=o_ i.aw e;cases o;refine⟨m,c,A,λG g t=>⟨.ref s.heap.objs.size,_,?_,rfl,p⟩⟩;have r:(oY [] b).length<=sizeLine:=by
  have w:=OM b [];rw[Xv] at w;rw[d6];omega
 exact uu i (by exact e▸kS) t (let⟨q,_,_,u,_⟩:=g;⟨q,u⟩) (xh r hd (n.merge .nil) g)
structure M1(X:Cx)(o:cH)(m:ar)(apos:Pos)(e:cH)(cR:Pos):Prop where
 base:attributeBase o m X.env (eval o X.env)=eval o X.env
 cM:((backTo cR (starEach [e] X.env)).all (λx=>!x.1)&&(backToKw cR (keywordEach [] X.env)).all (λx=>x.1.isSome)
  &&decide (([e]:O cH).length+([]:O Keyword).length+(if([]:O Keyword).isEmpty then 0 else 1)<30))=af
 line:(apos.endLine==cR.line)=af
 trees:backTo cR (starEach [e] X.env)=[(bg,eval e X.env)]
structure M2(X:Cx)(o:cH)(m:ar)(apos:Pos)(e f:cH)(cR:Pos):Prop where
 base:attributeBase o m X.env (eval o X.env)=eval o X.env
 cM:((backTo cR (starEach [e,f] X.env)).all (λx=>!x.1)&&(backToKw cR (keywordEach [] X.env)).all (λx=>x.1.isSome)
  &&decide (([e,f]:O cH).length+([]:O Keyword).length+(if([]:O Keyword).isEmpty then 0 else 1)<30))=af
 line:(apos.endLine==cR.line)=af
 trees:backTo cR (starEach [e,f] X.env)=[(bg,eval e X.env),(bg,eval f X.env)]
def Aw(H:Hp)(a:U):Prop:=(∃b,Rd H a (.dK b))\/∃b,Rd H a (.dT b)
def zB(I:Inv X pins σ H s)(d:Aw H a):
  s.TypeIs (.ref a) "dict"/\(∀b,Value.ref a=.ref b->∃c,s.heap.get? b=Z c/\c.dict=aJ)/\(a==sysModules)=bg:=by
 rcases d with⟨g,e⟩|⟨g,e⟩
 ·obtain⟨_,hd,k,_,f⟩:=qF I.aw e;refine⟨f.typeIs,λb q=>?_,hd⟩;cases q;refine nF f λc _ _ i h _=>?_;exact⟨c,i,h.2.1⟩
 ·obtain⟨_,hd,j,_,f⟩:=sh I.aw e;refine⟨f.typeIs,λb q=>?_,hd⟩;cases q;refine nF f λc _ _ i h _=>?_;exact⟨c,i,h.2.1⟩
def Ziv(q:A.units+1<cLine)(I:Inv X pins σ H s)(g:fJ H a y o)(n:RelV y u)(h:∀j m,Inv X pins σ H m->RelV (o.getD .ay) j->Q j m):
  wpAny X.md A (call (.builtin "dict.get") [.ref a,u]) Q E s:=by
 rcases g with⟨f,k,e,i,l⟩|⟨f,k,b,e,i,r,l⟩
 ·subst i;obtain⟨z,hd,t,c,d⟩:=qF I.aw e;refine oa sF d.typeIs vN (G2 _ _) (meets_dict_get (dJ X.prog X.w) a (mS n) hd) ⟨_,d.mapOf,h _ _ (I.tok _) ?_⟩;exact l▸(c.val k).getD rfl
 ·subst i;cases(n);obtain⟨z,hd,p,c,d⟩:=sh I.aw e;refine oa sF d.typeIs vN (G2 _ _) (meetsH_dict_get (tupleKind (dJ X.prog X.w)) a b hd) ⟨pQ q,k,p,r6 I.aw r,d,h _ _ (I.tok _) ?_⟩;exact l▸(c.val k).getD rfl
def Ziw(v:A.units+1<cLine)(I:Inv X pins σ H s)(g:fJ H a y o)(p:RelV y u)(q:RelV d r)(h:∀m n,Inv X pins σ H n->RelV (o.getD d) m->Q m n):
  wpAny X.md A (call (.builtin "dict.get") [.ref a,u,r]) Q E s:=by
 rcases g with⟨i,k,e,j,l⟩|⟨i,k,b,e,j,w,l⟩
 ·subst j;obtain⟨z,hd,x,c,f⟩:=qF I.aw e;refine oa sF f.typeIs vN (EJ _ _ _) (meets_dict_get_default (dJ X.prog X.w) a (mS p) hd r) ⟨_,f.mapOf,h _ _ (I.tok _) ?_⟩;exact l▸(c.val k).getD q
 ·subst j;cases(p);obtain⟨z,hd,t,c,f⟩:=sh I.aw e;refine oa sF f.typeIs vN (EJ _ _ _) (meetsH_dict_get_default (tupleKind (dJ X.prog X.w)) a b hd r) ⟨pQ v,k,t,r6 I.aw w,f,h _ _ (I.tok _) ?_⟩;exact l▸(c.val k).getD q
def Zix(f e:TE):TE:=λb H Q=>f b H λx d=>∃a,x=.ref a/\Aw d a/\e b d λy c=>∃o,fJ c a y o/\Q (o.getD .ay) c
def Ziy(g e f:TE):TE:=λb H Q=>g b H λx d=>∃a,x=.ref a/\Aw d a/\e b d λy h=>f b h λz c=>∃o,fJ c a y o/\Q (o.getD z) c
def Zfq(w:X.A.units+1<cLine)(z:PE X o j)(A:PE X e ty)(m:M1 X o "get" apos e C):PE X (.Call (.Attribute o "get" apos) [e] [] C) (Zix j ty):=by
 intro b s c H Q I h;refine vA m.base m.cM m.line tr sF type_dict_get (aC (z b s c H _ I h) λu n i=>?_);obtain⟨x,G,f,q,a,B,d,t⟩:=i;subst B;obtain rfl:u=Value.ref a:=q;refine c9 (zB f d) λl k _=>?_;refine⟨l,k,?_⟩;exact m.trees▸nV rfl (rj (pY (aC (A b n c G _ f t) λR N ⟨y,F,E,p,P,g,r⟩=>tq (Ziv w E g p λJ L D v=>⟨_,F,D,v,r⟩))))
def Zfr(E:X.A.units+1<cLine)(F:PE X o l)(J:PE X e ty)(G:PE X f k)(m:M2 X o "get" apos e f N):PE X (.Call (.Attribute o "get" apos) [e,f] [] N) (Ziy l ty k):=by
 intro b s c H Q I h;refine vA m.base m.cM m.line tr sF type_dict_get (aC (F b s c H _ I h) λu r j=>?_);obtain⟨x,H1,i,w,a,L,d,C⟩:=j;subst L;obtain rfl:u=Value.ref a:=w;refine c9 (zB i d) λp n _=>?_;refine⟨p,n,?_⟩;rw[m.trees];refine nV rfl (rj (pY (aC (J b r c H1 _ i C) λiv q ⟨y,H2,T,v,B⟩=>
  pY (aC (G b q c H2 _ T B) λfv s3 ⟨z,W,R,t,ov,g,A⟩=>tq ?_))))
 exact Ziw E R g v t λw' s4 P D=>⟨_,W,P,D,A⟩
def xm(P:dC)(w:dg)(K:ah)(c:a8)(a:c8)(k:Nat)(x:ar)(C:U)(b:O ar)(e:Sp):Prop:=
 ∃f d,Mk K C f/\aI P w K c a aR k f d b e/\Binds K d b []/\c x=Z (.ref C)
def cI(P:dC)(w:dg)(K:ah)(e:a8)(a:c8)(k:Nat)(m:ar)(C:U)(b:O ar)(d:Sp):Prop:=
 ∃f c,h_ K C/\Meth K C m f/\aI P w K e a aR k f c b d/\Binds K c b []
def zC(P:dC)(w:dg)(K:ah)(e:a8)(a:c8)(k:Nat)(m:ar)(C:U)(b:O ar)(d:Sp):Prop:=
 ∃f c,h_ K C/\Meth K C m f/\aI P w K e a (lS P w) k f c b d/\Binds K c b []
section
variable {X:Cx}{k j:Nat}{x m:ar}{C:U}{ps:O ar}{Q:Sp}{p W T:Pos}{o e:cH}{R:O cH}{t:TA}{P:TE}
def Lr(h:xm X.prog X.w X.K X.mg X.base k x C ps Q)(c:cW j X.A)(g:k+1<=j)(i:Gl X x)(n:PA X (e::R) t)(q:(x==("__debug__":ar))=bg:=by decide)
  (l:jv X e R:=by rfl)(r:jR X W R:=by rfl):PE X (.Call (.Name x p) (e::R) [] W) (UD C Q [] E0 t):=by
 refine dE h λf s a F b d=>?_;exact Zgu a F (c.mono g) i d b .nil uJ n q l r
def cY(h:cI X.prog X.w X.K X.mg X.base k m C ps Q)(g:cW j X.A)(n:k<=j)(i:PE X o P)(q:PA X (e::R) t)
  (r:jv X e R:=by rfl)(s:jR X W R:=by rfl)
  (d:eval (.Call (.Attribute o m T) (e::R) [] W) X.env=(do
   let a←eval o X.env
   standAt T.atName
   let(f,first)←holding [a] (getMethod a m u)
   callWith W f first (backTo W (starEach (e::R) X.env)) (backToKw W (keywordEach [] X.env))):=by rfl):
  PE X (.Call (.Attribute o m T) (e::R) [] W) (CA C m Q [] E0 P t):=by
 refine dE h λf v c l F b=>?_;exact Zgt i c l F (g.mono n) b .nil uJ q r s d
end
def uv{K:ah}(h:X.K=K)(b:PE X e a)(c:attributeBase e f X.env (eval e X.env)=eval e X.env):PE X (.Attribute e f pos) (LP K a f):=h▸ZhX b c
section
open PySem.AutoSeq1 (wpAny_loadPart')
def Zep(a b x:Int):(Builtin.Range.rangePlace? a b 1 x).isSome=decide (a<=x/\x<b):=by
 unfold Builtin.Range.rangePlace?
 grind
def Zaw(p:U)(f i x:Int)(a b c t:Tok):
  Meets (Builtin.«range.__contains__» ⟨[.ref p,.int x t],[]⟩)
   (λ_ R s=>s.heap.get? p=Z {cls:=.type "range",data:=.fields #[.int f a,.int i b,.int 1 c]}/\R (.ok (.ret (.bool (decide (f<=x/\x<i))))) s):=
 .of_wp λe w A R s h=>by
  obtain⟨l,g,d,k,os⟩:=s;obtain⟨j,h⟩:=h;rw[←Zep] at h
  wp_walk using X5 j
  simp_all
end
def Ziz(a:cu):R2:=λx y H Q=>∃(i lo b:Int) (p:U),x=.int i/\y=.ref p/\H p=Z (.kQ lo b)/\Q (.bl (if a=af then !decide (lo<=i/\i<b) else decide (lo<=i/\i<b))) H
def OR:cV X (compareOp .NotIn) (Ziz af):=by
 intro d s k H x y v u Q I f e n;refine qp n λi lo j p m l h q=>?_;subst m;subst l;obtain⟨t,rfl⟩:=f;cases e;refine CB (I.aw p _ h) λa b c g=>?_;exact SeqRoads2.notIn_meets ⟨_,g,rfl⟩ F.slot_range_contains F.entry_range_contains (F.args_range_contains_2 _ _) (Zaw p lo j i a b c t) ⟨g,_,rfl,.bl _,H,I,rfl,q⟩
def wz(p:Nat->cu)(n:Nat):(List.range (n+1)).filter p=(List.range n).filter p++(if p n=af then[n] else[]):=by
 rw[Jv,Wm]
 grind
theorem jh:∀{b:O α} {a:O β} {x:α} {y:β},Paired F b a->F x y->Paired F (b++[x]) (a++[y]):=by
 intro b a x y h f;induction h with
 |nil=>exact .cons f .nil
 |cons r t c=>exact .cons r c
theorem GG:∀{b:O α} {a:O β},Paired F b a->b.length=a.length:=by
 intro b a h;induction h with
 |nil=>rfl
 |cons _ _ c=>rw[Wi,Wi,c]
theorem F0:∀{b:O V} {a:O β},Paired (λx y=>x=f y) b a->b=a.map f:=by
 intro b a h;induction h with
 |nil=>rfl
 |cons r t c=>rw[Wj,←r,←c]
def yR(n:Nat):(List.range n).filter (λ_=>af)=List.range n:=QS
theorem ON(a:O α)(f:Nat->β)(g:α->β)(h:∀(i:Nat) (v:α),a[i]?=Z v->f i=g v):(List.range a.length).map f=a.map g:=by
 refine Wt λi=>?_;rw[Ye,Ye];cases e:a[i]? with
 |none=>rw[Y4 (by exact Wu▸List.getElem?_eq_none_iff.mp e)];rfl
 |some v=>rw[Ja (Yh.mp e).1];exact eL Z (h i v e)
def aG(D:U)(H a:Hp):Prop:=∀b o,H b=Z o->b≠D->a b=Z o
def aG.of(g:aj H H'):aG D H H':=λb o e _=>g b o e
def aG.put(g:aG D H a):aG D H (upd a D o):=λb u e n=>by rw[aS n];exact g b u e n
def xt(j:TT)(k:TE)(e:St)(D:U)(H:Hp)(v:V)(b:cu)(l:V->Hp->Prop):Prop:=
 ∀d,aj H d->(∃i,d D=Z (.lst i))->∀(f:VK) (g:Hp->Prop),(∀y a,b=af->aj d a->l y a->f y a)->(∀a,b=bg->aj d a->g a)->j (Z v::e) d λc h=>if c=af then k (Z v::e) h f else g h
def yS{K:ah}(C:aq K H a xs)(L:xs.length<=1000)(u:H D=aJ)(p:Nat->cu)(l:Nat->V->Hp->Prop)(c:∀i y d x,aG D d x->l i y d->l i y x)
  (k:∀(i:Nat) (v:V),xs[i]?=Z v->xt tt A E D H v (p i) (l i))(G:∀f m,aj H m->m D=Z (.lst f)->Paired (λy i=>l i y m) f ((List.range xs.length).filter p)->Q (.ref D) m):jI (kR K a) tt A E D H Q:=by
 refine Iq (λi f d=>i<=xs.length/\aj H d/\d D=Z (.lst f)/\Paired (λy j=>l j y d) f ((List.range i).filter p)) ⟨Yx _,cF u _,a9,.nil⟩ (λi f d _ ⟨_,g,_,_⟩=>g.seq C) ?_ ?_
 ·intro i v f d t N;refine eJ N λ_ g s n=>?_;have w:=(Yh.mp t).1;have J:=GG n;have F:=Wl p (List.range i);rw[Wu] at F;refine k i v t d g ⟨_,s⟩ _ _ (λy I r h B=>⟨h _ _ s,by rw[d6];omega,w,?_,a9,?_⟩) (λI r h=>⟨w,g.trans h,h _ _ s,?_⟩)
  ·intro b o e;rw[aS (cC e u)];exact h _ _ (g _ _ e)
  ·rw[wz,bC r];exact jh (Paired.bH n λz j q=>c _ _ _ _ (aG.put (aG.of h)) q) (c _ _ _ _ (aG.put (aG.of (aj.refl _))) B)
  ·rw[wz,bF (by rw[r];exact Yl),Wf];exact Paired.bH n λz j q=>c _ _ _ _ (aG.of h) q
 ·simp_all
def Zdf{K:ah}(k:aq K H a xs)(l:xs.length<=1000)(m:H D=aJ)(p:Nat->cu)(f:Nat->V)
  (b:∀(i:Nat) (v:V),xs[i]?=Z v->xt tt h n D H v (p i) (λy _=>y=f i))(d:∀c,aj H c->c D=Z (.lst (((List.range xs.length).filter p).map f))->Q (.ref D) c):jI (kR K a) tt h n D H Q:=
 yS k l m p (λi y _=>y=f i) (λ_ _ _ _ _ e=>e) b λo c g q j=>d c g (by rwa[←F0 j])
def Zdg{K:ah}(m:aq K H a xs)(n:xs.length<=1000)(o:H D=aJ)(f:V->V)
  (h:∀(i:Nat) (v:V),xs[i]?=Z v->∀c,aj H c->∀e:VK,(∀k,aj c k->e (f v) k)->l (Z v::q) c e)(d:∀b,aj H b->b D=Z (.lst (xs.map f))->Q (.ref D) b):jI (kR K a) zU l q D H Q:=by
 refine Zdf m n o (λ_=>af) (λi=>f (xs.getD i .ay)) (λi v j c g _ e s r _=>kL (c6 ?_)) λb g p=>d b g ?_;·grind
 ·rw[p,yR,ON xs (λi=>f (xs.getD i .ay)) f λi v j=>by rw[Yk,j];rfl]
def Zeq{K:ah}(C:az K H a xs)(L:xs.length<=1000)(u:H D=aJ)(p:Nat->cu)(l:Nat->V->Hp->Prop)(c:∀i y d x,aG D d x->l i y d->l i y x)
  (k:∀(i:Nat) (v:V),xs[i]?=Z v->xt tt A E D H v (p i) (l i))(G:∀f m,aj H m->m D=Z (.lst f)->Paired (λy i=>l i y m) f ((List.range xs.length).filter p)->Q (.ref D) m):jI (xR K a) tt A E D H Q:=by
 refine BN (λi f d=>i<=xs.length/\aj H d/\d D=Z (.lst f)/\Paired (λy j=>l j y d) f ((List.range i).filter p)) ⟨Yx _,cF u _,a9,.nil⟩ (λi f d _ ⟨_,g,_,_⟩=>g.kz C) ?_ ?_
 ·intro i v f d t N;refine eJ N λ_ g s n=>?_;have w:=(Yh.mp t).1;have J:=GG n;have F:=Wl p (List.range i);rw[Wu] at F;refine k i v t d g ⟨_,s⟩ _ _ (λy I r h B=>⟨h _ _ s,by rw[d6];omega,w,?_,a9,?_⟩) (λI r h=>⟨w,g.trans h,h _ _ s,?_⟩)
  ·intro b o e;rw[aS (cC e u)];exact h _ _ (g _ _ e)
  ·rw[wz,bC r];exact jh (Paired.bH n λz j q=>c _ _ _ _ (aG.put (aG.of h)) q) (c _ _ _ _ (aG.put (aG.of (aj.refl _))) B)
  ·rw[wz,bF (by rw[r];exact Yl),Wf];exact Paired.bH n λz j q=>c _ _ _ _ (aG.of h) q
 ·simp_all
def Zer{K:ah}(k:az K H a xs)(l:xs.length<=1000)(m:H D=aJ)(p:Nat->cu)(f:Nat->V)
  (b:∀(i:Nat) (v:V),xs[i]?=Z v->xt tt h n D H v (p i) (λy _=>y=f i))(d:∀c,aj H c->c D=Z (.lst (((List.range xs.length).filter p).map f))->Q (.ref D) c):jI (xR K a) tt h n D H Q:=
 Zeq k l m p (λi y _=>y=f i) (λ_ _ _ _ _ e=>e) b λo c g q j=>d c g (by rwa[←F0 j])
def Zcp{v:Int}{n:Nat}{t:TT}{u:TE}{A:St}{D:U}{H:Hp}{Q:VK}(L:n<=1000)(x:H D=aJ)(p:Nat->cu)(k:Nat->V->Hp->Prop)(a:∀i y c C,aG D c C->k i y c->k i y C)
  (h:∀i,i<n->xt t u A D H (.int (v+i)) (p i) (k i))(G:∀f l,aj H l->l D=Z (.lst f)->Paired (λy i=>k i y l) f ((List.range n).filter p)->Q (.ref D) l):jI (pH v n) t u A D H Q:=by
 refine yQ (λi f c=>i<=n/\aj H c/\c D=Z (.lst f)/\Paired (λy j=>k j y c) f ((List.range i).filter p)) ⟨Yx _,cF x _,a9,.nil⟩ ?_ ?_
 ·intro i f c w N;refine eJ N λ_ g s m=>?_;have B:=w;have J:=GG m;have F:=Wl p (List.range i);rw[Wu] at F;refine h i w c g ⟨_,s⟩ _ _ (λy I r d E=>⟨d _ _ s,by rw[d6];omega,B,?_,a9,?_⟩) (λI r d=>⟨B,g.trans d,d _ _ s,?_⟩)
  ·intro b o e;rw[aS (cC e x)];exact d _ _ (g _ _ e)
  ·rw[wz,bC r];exact jh (Paired.bH m λz j q=>a _ _ _ _ (aG.put (aG.of d)) q) (a _ _ _ _ (aG.put (aG.of (aj.refl _))) E)
  ·rw[wz,bF (by rw[r];exact Yl),Wf];exact Paired.bH m λz j q=>a _ _ _ _ (aG.of d) q
 ·simp_all
def OX{lo:Int}{n:Nat}{d:TT}{h:TE}{j:St}{D:U}{H:Hp}{Q:VK}(l:n<=1000)(m:H D=aJ)(p:Nat->cu)(f:Nat->V)
  (a:∀i,i<n->xt d h j D H (.int (lo+i)) (p i) (λy _=>y=f i))(c:∀b,aj H b->b D=Z (.lst (((List.range n).filter p).map f))->Q (.ref D) b):jI (pH lo n) d h j D H Q:=
 Zcp l m p (λi y _=>y=f i) (λ_ _ _ _ _ e=>e) a λo b g q k=>c b g (by rwa[←F0 k])
def Zcq{k:Int}{n:Nat}{j:TE}{l:St}{D:U}{H:Hp}{Q:VK}(o:n<=1000)(q:H D=aJ)(f:Nat->V)
  (a:∀i,i<n->∀b,aj H b->∀d:VK,(∀e,aj b e->d (f i) e)->j (Z (.int (k+i))::l) b d)(h:∀c,aj H c->c D=Z (.lst ((List.range n).map f))->Q (.ref D) c):jI (pH k n) zU j l D H Q:=
 OX o q (λ_=>af) f (λi p b g _ d t m _=>kL (c6 (a i p b g d λe s=>m (f i) e rfl s rfl))) λc g r=>h c g (by rw[r,yR])
abbrev Nw(H:Hp)(o:HO)(Q:VK):Prop:=∀(p:U) (a:Hp),H p=aJ->aj H a->a p=Z o->Q (.ref p) a
def Nw.at(h:Nw H o Q):∀p,H p=aJ->Q (.ref p) (upd H p o):=λp a=>h p _ a (cF a o) a9
def zM(t:TA):TE:=λb H Q=>t b H λa c=>a.length<=sizeLine/\Nw c (.tup a) Q
def UX(t:TA):TE:=λb H Q=>t b H λa c=>a.length<=sizeLine/\Nw c (.lst a) Q
section
variable {K:ah}
def du(h:PA X j t):PE X (.Tuple j l pos) (zM t):=by
 intro a s e H Q I i;refine wpAny_Tuple_spliced (aC (h pos a s e H _ I i) λg c ⟨f,k,d,r,z,q⟩=>⟨by rwa[←r.length],⟨.ref c.heap.objs.size,upd k c.heap.objs.size (.tup f),d.laid (λ b u=>Yc _) (Yd _) ?_,rfl,q.at _ (d.aw.fresh (Yd _))⟩⟩);exact⟨z,g,r,⟨_,Ys _ rfl,rfl,_,rfl,rfl⟩⟩
def dU(h:PA X j t):PE X (.List j pos) (UX t):=by
 intro a s e H Q I i;refine SF (aC (h pos a s e H _ I i) λg c ⟨f,k,d,r,z,q⟩=>⟨by rwa[←r.length],⟨.ref c.heap.objs.size,upd k c.heap.objs.size (.lst f),d.laid (λ b u=>Yc _) (Yd _) ?_,rfl,q.at _ (d.aw.fresh (Yd _))⟩⟩);exact⟨z,g,0,r,Ys _ rfl⟩
def dz.mono(h:dz X f r)(m:∀a H Q,r' a H Q->r a H Q):dz X f r':=λb s c H a d Q I v q=>h b s c H a d Q I v (m a H Q q)
def cV.mono(h:cV X f r)(m:∀x y H Q,r' x y H Q->r x y H Q):cV X f r':=λa s b H x y v u Q I d c q=>h a s b H x y v u Q I d c (m x y H Q q)
def sP.mono(h:sP X r)(m:∀x lo b H Q,r' x lo b H Q->r x lo b H Q):sP X r':=λa s c H x v e d lo b f Q I g k j i q=>h a s c H x v e d lo b f Q I g k j i (m x lo b H Q q)
inductive Pj(a:O V)(H:Hp)(Q:VK):Prop
 |mk (j:Int) (c:a=[.int j]) (b:Nw H (.kQ 0 j) Q):Pj a H Q
def Zfs:O V->Hp->VK->Prop:=λa H Q=>Pj a H Q
def Bg:dz X (.type "range") Zfs:=Bi.mono λ_ _ _ a=>by obtain⟨j,e,q⟩:=a;exact⟨j,e,q.at⟩
inductive OY(a:O V)(H:Hp)(Q:VK):Prop
 |mk (p:U) (n:Nat) (e:a=[.ref p]) (c:H p=Z (.kQ 0 (n:Int))) (d:n<=1000) (b:Nw H (.lst ((bQ n).map V.int)) Q):OY a H Q
def Zes:O V->Hp->VK->Prop:=λa H Q=>OY a H Q
def ZaY(b:X.calm=af):dz X (.type "list") Zes:=(FY b).mono λ_ _ _ a=>by obtain⟨p,n,e,h,l,q⟩:=a;exact⟨p,n,e,h,l,q.at⟩
inductive Pk(a:O V)(H:Hp)(Q:VK):Prop
 |mk (p:U) (n:Nat) (e:a=[.ref p]) (c:H p=Z (.kQ 0 (n:Int))) (d:n<=1000) (b:Nw H (.tup ((bQ n).map V.int)) Q):Pk a H Q
def Zft:O V->Hp->VK->Prop:=λa H Q=>Pk a H Q
def ZaI(b:X.calm=af):dz X (.type "tuple") Zft:=(OJ b).mono λ_ _ _ a=>by obtain⟨p,n,e,h,l,q⟩:=a;exact⟨p,n,e,h,l,q.at⟩
def Zfu(K:ah):O V->Hp->VK->Prop:=λc H Q=>∃(p:U) (a:O Int),c=[.ref p]/\(aq K H p (a.map V.int)\/az K H p (a.map V.int))/\a.length<64/\
  ∀b:O Int,b.Perm a->b.Pairwise (·<=·)->Nw H (.lst (b.map V.int)) Q
def Zfv(h:X.K=K):dz X (.builtin "sorted") (Zfu K):=h▸OV.mono λ_ _ _ b=>by obtain⟨p,f,e,s,l,q⟩:=b;exact⟨p,f,e,s,l,λa i g d c=>(q i d c).at a g⟩
inductive R5(K:ah)(x:V)(c:bS Int)(d:bS Int)(H:Hp)(Q:VK):Prop
 |mk (a b) (g:x=.ref a) (e:aq K H a b) (f:Nw H (.lst (oq b c d)) Q):R5 K x c d H Q
def ZjF(K:ah):V->bS Int->bS Int->Hp->VK->Prop:=λx lo a H Q=>R5 K x lo a H Q
def QQ(h:X.K=K):sP X (ZjF K):=h▸Zgy.mono λ_ _ _ _ _ b=>by obtain⟨a,c,e,s,q⟩:=b;exact⟨a,c,e,s,q.at⟩
def ZjG:R2:=λx y H Q=>∃l b c a,x=.ref l/\y=.ref b/\H l=Z (.lst c)/\H b=Z (.lst a)/\c.length+a.length<=sizeLine/\Nw H (.lst (c++a)) Q
def zh:cV X (binaryOp .Add) ZjG:=Zh6.mono λ_ _ _ _ c=>by obtain⟨l,b,d,a,h,g,f,e,z,q⟩:=c;exact⟨l,b,d,a,h,g,f,e,z,q.at⟩
def ZgR:TE:=λ_ H Q=>Nw H (.dK []) Q
def rH:PE X (.Dict [] [] pos) ZgR:=λa s b H Q I q=>Zfo a s b H Q I q.at
def ZgS:TE:=λ_ H Q=>Nw H (.dT []) Q
def P6:PE X (.Dict [] [] pos) ZgS:=λa s b H Q I q=>Zfp a s b H Q I q.at
end
abbrev Ch(H:Hp)(a:U)(o:HO)(R:Hp->Prop):Prop:=∀b,aG a H b->b a=Z o->R b
def Ch.at(h:Ch H a o R):R (upd H a o):=h _ (aG.put (aG.of (aj.refl _))) a9
section
variable {X:Cx}
def lQ.mono{id:String}(h:lQ X id r)(m:∀x a H Q,r' x a H Q->r x a H Q):lQ X id r':=λb s c H x a v d Q I e f q=>h b s c H x a v d Q I e f (m x a H Q q)
inductive Pl(x:V)(b:O V)(H:Hp)(Q:VK):Prop
 |mk (l a y) (g:x=.ref l) (e:b=[y]) (f:H l=Z (.lst a)) (c:a.length<sizeLine) (d:Ch H l (.lst (a++[y])) (Q .ay)):Pl x b H Q
def QT:V->O V->Hp->VK->Prop:=λx a H Q=>Pl x a H Q
def oR:lQ X "list.append" QT:=yY.mono λ_ _ _ _ a=>by obtain⟨l,b,y,d,c,h,z,q⟩:=a;exact⟨l,b,y,d,c,h,z,q.at⟩
def Zfw:V->O V->Hp->VK->Prop:=λx d H Q=>∃l b c a,x=.ref l/\d=[.ref b]/\H l=Z (.lst c)/\H b=Z (.lst a)/\c.length+a.length<=sizeLine/\Ch H l (.lst (c++a)) (Q .ay)
def Zdh:lQ X "list.extend" Zfw:=Zec.mono λ_ _ _ _ c=>by obtain⟨l,b,d,a,h,g,f,e,z,q⟩:=c;exact⟨l,b,d,a,h,g,f,e,z,q.at⟩
def ZjH:V->O V->Hp->VK->Prop:=λx b H Q=>∃l a y,x=.ref l/\b=[]/\H l=Z (.lst a)/\a[a.length-1]?=Z y/\Ch H l (.lst a.dropLast) (Q y)
def ZgT:lQ X "list.pop" ZjH:=Zh3.mono λ_ _ _ _ a=>by obtain⟨l,b,y,d,c,h,z,q⟩:=a;exact⟨l,b,y,d,c,h,z,q.at⟩
def ZgU:V->O V->Hp->VK->Prop:=λx b H Q=>∃l a,x=.ref l/\b=[]/\H l=Z (.lst a)/\Ch H l (.lst []) (Q .ay)
def Zet:lQ X "list.clear" ZgU:=Ze8.mono λ_ _ _ _ a=>by obtain⟨l,b,d,c,h,q⟩:=a;exact⟨l,b,d,c,h,q.at⟩
def uU.mono(h:uU X t)(m:∀o i v H Q,t' o i v H Q->t o i v H Q):uU X t':=by
 intro a s b H o i x f g v Q I e d c q;exact h a s b H o i x f g v Q I e d c (m _ _ _ _ _ q)
def ZiA:V->V->V->Hp->(Hp->Prop)->Prop:=λo i v H Q=>∃p a k j,o=.ref p/\i=.int k/\H p=Z (.lst a)/\kT a.length k=Z j/\Ch H p (.lst (a.set j v)) Q
def P7:uU X ZiA:=set_list.mono λ_ _ _ _ _ a=>by obtain⟨p,b,k,j,d,c,h,z,q⟩:=a;exact⟨p,b,k,j,d,c,h,z,q.at⟩
variable {o i W:cH}{N ty P L:TE}{R T:Pos}{f:ar}
inductive QV(D:Ends)(d:St)(v:V)(x:V)(y:V)(c:Hp):Prop
 |mk (a b k) (l:x=.ref a) (h:c a=Z (.dK b)) (j:y=kV k) (e:b.length<sizeLine) (g:Ch c a (.dK (putK b k v)) (D.nx d)):QV D d v x y c
def ZiB(N ty P:TE):TS:=λD a H=>P a H λv d=>N a d λx c=>ty a c λy b=>QV D a v x y b
inductive P8(D:Ends)(e:St)(v:V)(x:V)(y:V)(d:Hp):Prop
 |mk (a b c k) (n:x=.ref a) (l:d a=Z (.dT c)) (m:y=.ref b) (h:d b=Z (.tup (k.map kV))) (j:c.length<sizeLine) (g:Ch d a (.dT (putK c k v)) (D.nx e)):P8 D e v x y d
def ZgV(N ty P:TE):TS:=λD a H=>P a H λv d=>N a d λx c=>ty a c λy b=>P8 D a v x y b
def oU(A:X.A.units+1<cLine)(C:PE X o N)(E:PE X i ty)(z:PE X W P)(B:swapsWith W (Z (.Subscript o i T)) R.line X.env=pure bg:=by rfl):
  PS X (.Assign [.Subscript o i T] W R) (ZiB N ty P):=by
 intro b s d H D I h;refine KL (aC (z b s d H _ I h) λr g c=>?_) B;obtain⟨v,H1,I1,n,t⟩:=c;refine aC (C b g d H1 _ I1 t) λu e c=>?_;obtain⟨x,H2,I2,m,q⟩:=c;refine aC (E b e d H2 _ I2 q) λiv s3 c=>?_;obtain⟨y,H3,I3,j,a,w,k,J,F,G,l,p⟩:=c;subst J;subst G;obtain rfl:u=Value.ref a:=m;exact P4 A I3 (uZ.k F l) j n λs4 Q=>⟨d,_,Q,p.at⟩
def P9(B:X.A.units+1<cLine)(E:PE X o N)(F:PE X i ty)(A:PE X W P)(C:swapsWith W (Z (.Subscript o i T)) R.line X.env=pure bg:=by rfl):
  PS X (.Assign [.Subscript o i T] W R) (ZgV N ty P):=by
 intro c s e H D I h;refine KL (aC (A c s e H _ I h) λr j d=>?_) C;obtain⟨v,H1,I1,p,w⟩:=d;refine aC (E c j e H1 _ I1 w) λu g d=>?_;obtain⟨x,H2,I2,n,t⟩:=d;refine aC (F c g e H2 _ I2 t) λiv s3 d=>?_;obtain⟨y,H3,I3,m,a,b,z,k,ex,J,Q,G,l,q⟩:=d;subst ex;subst Q;obtain rfl:u=Value.ref a:=n;exact P4 B I3 (uZ.t J G l) m p λs4 I4=>⟨e,_,I4,q.at⟩
def ZjI(K:ah)(L P:TE)(f:ar):TS:=λD b H=>P b H λy e=>L b e λx d=>∃a C c fs,x=.ref a/\d a=Z (.ins C c fs)/\h_ K C/\dA K C f/\fs.length<1000/\Ch d a (.ins C c (dh f y fs)) (D.nx b)
def iO{K:ah}(w:X.K=K)(v:PE X o L)(r:PE X W P)(t:swapsWith W (Z (.Attribute o f T)) R.line X.env=pure bg:=by rfl):PS X (.Assign [.Attribute o f T] W R) (ZjI K L P f):=by
 subst w;intro b s d H D I h;refine xp (aC (r b s d H _ I h) λu g e=>?_) t;obtain⟨y,G,F,j,q⟩:=e;refine aC (v b g d G _ F q) λp Q e=>?_;obtain⟨x,H2,E,k,a,C,dx,fs,z,A,c,n,l,m⟩:=e;subst z;obtain rfl:p=Value.ref a:=k;exact O8 E A c n l j λJ B=>⟨d,_,B,m.at⟩
end
noncomputable def Ax(x:ar):It:=⟨λi _=>i<x.length,λi H v a=>a=H/\∃c,x.cps[i]?=Z c/\v=.str ⟨#[c]⟩,λi _=>x.length<=i⟩
theorem ZaZ{P:dC}{w:dg}{K:ah}{B:cH}(it:U)(x:ar)(t:Tok):Turn P w K B (Ax x) [it] it (λi h=>h.IsStrIter it "str_ascii_iterator" x t i) where
 mem:=QS
 obj:=λi h st b f=>by
  have e:b=it:=by simpa using f
  refine cm st λo e c d=>?_
  grind
 keep:=λi h y st k=>let⟨o,e,r⟩:=st;⟨o,k it QS o e,r⟩
 item:=by
  intro X F D G v i a s A H E I g st j;refine ie (g it QS) λq p J n m l=>?_;have u:=Wz j;refine wpAny_pyNext_ascii_item st u λy z C=>?_;refine cm (id z) λo e c d=>?_;exact⟨_,rfl,uG e c d QD ⟨.str ⟨#[x.cps[i]]⟩,H,(I.turned (λb o f e=>(C.2 b f).trans e) q p n m l),⟨_,rfl⟩,⟨rfl,_,u,rfl⟩,z,λb f=>(g b f).1⟩⟩
 done:=by
  intro X F D G v i a s A H E I g st j;refine ie (g it QS) λq p J n m l=>?_;exact wpAny_pyNext_ascii_end (I.ok.hd v) st (XO j) λy L=>⟨rfl,I.turned (L) q p n m l⟩
 self:=λ_ _ _ _ _ st h=>wpAny_pyIter_striter_ascii st h
theorem Zbe{P:dC}{w:dg}{K:ah}{B:cH}(it:U)(x:ar)(t:Tok):Turn P w K B (Ax x) [it] it (λi h=>h.IsStrIter it "str_iterator" x t i) where
 mem:=QS
 obj:=λi h st b f=>by
  have e:b=it:=by simpa using f
  refine cm st λo e c d=>?_
  grind
 keep:=λi h y st k=>let⟨o,e,r⟩:=st;⟨o,k it QS o e,r⟩
 item:=by
  intro X F D G v i a s A H E I g st j;refine ie (g it QS) λq p J n m l=>?_;have u:=Wz j;refine wpAny_pyNext_wide_item st u λy z C=>?_;refine cm (id z) λo e c d=>?_;exact⟨_,rfl,uG e c d QD ⟨.str ⟨#[x.cps[i]]⟩,H,(I.turned (λb o f e=>(C.2 b f).trans e) q p n m l),⟨_,rfl⟩,⟨rfl,_,u,rfl⟩,z,λb f=>(g b f).1⟩⟩
 done:=by
  intro X F D G v i a s A H E I g st j;refine ie (g it QS) λq p J n m l=>?_;exact wpAny_pyNext_wide_end (I.ok.hd v) st (XO j) λy L=>⟨rfl,I.turned (L) q p n m l⟩
 self:=λ_ _ _ _ _ st h=>wpAny_pyIter_striter_wide st h
inductive TB(R:It->Hp->Prop)(v:V)(a:Hp):Prop
 |mk (x) (c:v=.str x) (b:R (Ax x) a):TB R v a
def Zkt(b:TE):TI:=λa H R=>b a H λv c=>TB R v c
theorem ZiC(p:PE X l k):PI X u l (Zkt k):=by
 intro a s i H R I h;refine aC (p a s i H _ I h) λv c j=>?_;obtain⟨x,f,d,m,n⟩:=j;obtain⟨z,e,q⟩:=n;subst e;obtain⟨t,rfl⟩:=m;have fin:∀b∈[c.heap.objs.size],jN X a f b:=λb r=>by
  have e:b=c.heap.objs.size:=by simpa using r
  subst e;exact d.sy (Yd _) (d.aw.fresh (Yd _))
 cases g:z.cps.all (·<128) with
 |true=>exact wpAny_pyIter_ascii g ⟨c.heap.objs.size,[c.heap.objs.size],_,_,f,rfl,d.kept λb o e=>Yc _ e,ZaZ _ z t,⟨_,Ys _ rfl,rfl,rfl⟩,fin,q⟩
 |false=>exact wpAny_pyIter_wide g ⟨c.heap.objs.size,[c.heap.objs.size],_,_,f,rfl,d.kept λb o e=>Yc _ e,Zbe _ z t,⟨_,Ys _ rfl,rfl,rfl⟩,fin,q⟩
noncomputable abbrev sg(c:Nat):V:=.str ⟨#[c]⟩
def Zfx(d:Nat->O V->Hp->Prop)(o:d 0 [] (upd H D (.lst [])))
  (s:∀(i c:Nat) (a:O V) (H:Hp),x.cps[i]?=Z c->d i a H->tt (Z (sg c)::f) H λb j=>if b=af then k (Z (sg c)::f) j λy h=>h D=Z (.lst a)/\a.length<sizeLine/\d (i+1) (a++[y]) (upd h D (.lst (a++[y]))) else d (i+1) a j)
  (n:∀a H,d x.length a H->Q (.ref D) H):jI (Ax x) tt k f D H Q:=by
 refine⟨λi m a H=>m=x.length-i/\i<=x.length/\d i a H,⟨x.length,QS,Yx _,o⟩,?_⟩;intro i m a H z;refine c9 z λw t p=>?_;subst w;by_cases g:i<x.length
 ·refine .inr ⟨g,d (i+1),λr q l=>⟨x.length-(i+1),QO,rfl,g,l⟩,λv q y=>?_⟩;obtain⟨e,c,u,rfl⟩:=y
  simp_all
 ·have e:i=x.length:=(Nat.le_antisymm t (Nat.le_of_not_lt g))
  subst e;exact .inl ⟨Yd _,n a H p⟩
def Zeu(y:x.length<=100000)(p:H D=aJ)(f:Nat->V)
  (d:∀(i c:Nat),x.cps[i]?=Z c->∀a,aj H a->∀s:VK,(∀m,aj a m->s (f c) m)->t (Z (sg c)::v) a s)(l:∀n,aj H n->n D=Z (.lst (x.cps.toList.map f))->Q (.ref D) n):jI (Ax x) zU t v D H Q:=by
 refine Zfx (λi h a=>i<=x.length/\aj H a/\a D=Z (.lst h)/\h=(x.cps.toList.take i).map f) ⟨Yx _,cF p _,a9,rfl⟩ ?_ ?_
 ·intro i c h a j z;refine eJ z λ_ g k e=>?_;have w:i<x.length:=(Jz.mp j).1;refine kL (c6 (d i c j a g _ λm r=>⟨r _ _ k,?_,w,?_,a9,?_⟩))
  ·rw[e,Ya,Wb,d6];omega
  ·intro b o q;rw[aS (cC q p)];exact r _ _ (g _ _ q)
  ·have u:x.cps.toList[i]?=Z c:=by rw[Ju];exact j
   rw[e,Y1,u,Yn];rfl
 ·intro h a z;refine eJ z λ_ g k e=>?_;refine l a g ?_;rw[k,e,Wx (by show x.cps.toList.length<=x.cps.size;simp)]
end _L
namespace _L
open PySem PySem.W PySem.Spec PyProof.Rows
def ZiD:O V->Hp->VK->Prop:=λb H Q=>∃(p:U) (a:O (Key×V)),b=[.ref p]/\H p=Z (.dK a)/\Nw H (.lst (a.map λc=>kV c.1)) Q
theorem Iv:∀{c:O Key} {b:O a7},b.length=c.length->(∀(j:Nat) (v:a7),b[j]?=Z v->∃k,c[j]?=Z k/\(dJ P w).is k v=af)->Vals (c.map kV) b
 |[],[],_,_=>.nil
 |k::c,u::b,a,h=>by
  refine bo (h 0 u rfl) λk' e d=>?_;have g:k=k':=by simpa using e
  subst g;refine .cons ?_ (Iv (by simpa using a) λj v f=>by simpa using h (j+1) v (by simpa using f));rcases nG (d) with⟨i,t,rfl,rfl⟩|⟨x,t,rfl,rfl⟩;·exact⟨t,rfl⟩
  ·exact⟨t,rfl⟩
 |[],_::_,a,_=>by simp at a
 |_::_,[],a,_=>by simp at a
def Zcr(z:X.calm=af):dz X (.type "list") ZiD:=by
 intro g s C H D E Q I r ZH;refine gR ZH λp b gU y q=>?_;subst gU;obtain⟨u,rfl,m⟩:=vals1 r;obtain rfl:u=Value.ref p:=m;obtain⟨n,i,l,a,A⟩:=o_ I.aw y;obtain⟨W,B⟩:=A.dictAt;have G:=a.length;refine kdl_call (kdl_dict i) (I.ok.hd z) B QO λT F f c t R h=>?_;have d:Vals (b.map λa=>kV a.1) f.toList:=by
  have e:(b.map λa=>kV a.1)=(l.map (·.1)).map kV:=by rw[←a.keys,Y6];rfl
  rw[e];refine Iv (P:=X.prog) (w:=X.w) (by rw[Wp,Ya];exact h.1) λj v N=>?_;obtain⟨k,x,J,L⟩:=h.2 j v (by rwa[←Ju])
  simp_all
 exact⟨.ref s.heap.objs.size,_,(I.laid (o:=.lst (b.map λa=>kV a.1)) t (Yd _) ⟨by rwa[Ya],f.toList,c,d,by rwa[NH]⟩),rfl,q.at _ (I.aw.fresh (Yd _))⟩
end _L
namespace _L
open PySem PySem.Spec PyProof.Rows
noncomputable abbrev CM(D:O (ar×ar)):O (ar×PyData):=D.map λp=>(p.1,PyData.str p.2)
def xC(K:ah)(a:U)(D:O (ar×ar)):Prop:=KTD.tabLook KTD.flatLooks (λb=>K.lookup b) a (CM D)=af
theorem y6(f:a->b)(k:ar):∀D:O (ar×a),KTD.datumAt k (D.map λp=>(p.1,f p.2))=(KTD.datumAt k D).map f
 |[]=>rfl
 |p::D=>by
  rw[Wj];unfold KTD.datumAt;by_cases e:k=p.1;·simp[e]
  ·simp[e];exact y6 f k D
def xC.here{K:ah}(t:xC K a D)(b:K.In h):KTD.Here h h a ((CM D).map λp=>(p.1,KTD.Dat.flat p.2)):=
 ⟨KTD.TabOf.text (KTD.tab_of_look (λ_ _=>KTD.flat_of_looks) (b) t),λ_ _ e=>e⟩
noncomputable def pA(D:O (ar×ar))(z:ar):cu:=(KTD.datumAt z D).isSome
def keys_has(D:O (ar×ar))(z:ar):KTD.inKeys z ((CM D).map λp=>(p.1,KTD.Dat.flat p.2))=pA D z:=by
 rw[←KTD.isSome_datumAt,y6 KTD.Dat.flat,y6 PyData.str];unfold pA
 grind
def ZiE(K:ah)(b:cu):R2:=λx y H Q=>∃(z:ar) (a:U) (D:O (ar×ar)),x=.str z/\y=.ref a/\xC K a D/\Q (.bl (if b=af then !pA D z else pA D z)) H
def ZiF{K:ah}(e:X.K=K):cV X (compareOp .In) (ZiE K bg):=by
 subst e;intro b s f H x y v u Q I d c j;refine lV j λz a D i h t q=>?_;subst i;subst h;obtain⟨g,rfl⟩:=d;obtain rfl:u=Value.ref a:=c;refine KTD.in_text (t.here I.cO) ?_;rw[keys_has];exact⟨.bl (pA D z),H,I.tok _,rfl,q⟩
def ZiG(K:ah):R2:=λx y H Q=>∃(a:U) (z r:ar) (D:O (ar×ar)),x=.ref a/\y=.str z/\xC K a D/\KTD.datumAt z D=Z r/\Q (.str r) H
theorem ZgW{K:ah}(A:X.K=K):jT X (ZiG K):=by
 subst A;intro b c f s B H x y v u Q I n m h w;refine ju h λa z r D E C t e q=>?_;subst E;subst C;obtain⟨k,rfl⟩:=m;obtain rfl:v=Value.ref a:=n;have T:=t.here I.cO;refine tail_any T.typeIs slot_dict_getitem.lookup ?_ w;unfold getItem;try with_reducible refine kY ?_
 refine bt (VR T.typeIs QD ?_);refine bt (D8 T.typeIs WY
  (rz WY T.typeIs entry_dict_getitem ?_ (args_dict_getitem _ _)))
 show wpAny _ _ (dictGet a (.str z k)>>=_) _ _ s;have j:KTD.datumAt z ((CM D).map λp=>(p.1,KTD.Dat.flat p.2))=Z (.flat (.str r)):=by rw[y6 KTD.Dat.flat,y6 PyData.str,e];rfl
 refine bt (KTD.dictGet_text T (λd v i o=>cv ⟨v,rfl,cv ?_⟩) λg=>by rw[j] at g;cases g);rw[j] at i;cases i;cases o s.heap with
 |str x l=>exact⟨.str r,H,I.tok _,⟨l,rfl⟩,q⟩
def qA(h:cI X.prog X.w X.K X.mg X.base k m C p sp)(g:cW j X.A)(n:k<=j)(i:PE X o d)
  (e:eval (.Call (.Attribute o m apos) [] [] pos) X.env=(do
   let a←eval o X.env
   standAt apos.atName
   let(f,first)←holding [a] (getMethod a m q)
   callWith pos f first (backTo pos (starEach [] X.env)) (backToKw pos (keywordEach [] X.env))):=by rfl):
  PE X (.Call (.Attribute o m apos) [] [] pos) (CA C m sp [] E0 d jO):=by
 refine dE h λf r c l F b=>?_;exact Ze1 i c l F (g.mono n) b .nil uJ e
def ZgX(h:zC X.prog X.w X.K X.mg X.base k m C J sp)(y:cW j X.A)(A:k<=j)(v:CD X E)(z:PE X o r)
  (w:eval (.Call (.Attribute o m apos) [] [] pos) X.env=(do
   let g←eval o X.env
   standAt apos.atName
   let(f,first)←holding [g] (getMethod g m L)
   callWith pos f first (backTo pos (starEach [] X.env)) (backToKw pos (keywordEach [] X.env))):=by rfl):
  PE X (.Call (.Attribute o m apos) [] [] pos) (KR C m sp E r jO):=by
 refine dE h λf N c i F b=>?_;intro d s n H Q I h;refine sQ (aC (z d s n H _ I h) λu G p=>?_) w;obtain⟨x,R,e,t,a,P,fs,B,D,l,q⟩:=p;subst B;obtain rfl:u=Value.ref a:=t;exact Bq e D c i l (callWith_K0 e.cO i.kp (Kd (vs:=[.ref a]) F (y.mono A) b .nil v e (.cons rfl .nil) q))
def C2(K:ah)(b:cu):R2:=λx y H Q=>∃(p q:U) (a:O V),x=.ref p/\y=.ref q/\aq K H p a/\aq K H q []/\Q (.bl (if b=af then !a.isEmpty else a.isEmpty)) H
theorem TC(h:X.A.units<cLine):cV X (compareOp .Eq) (C2 X.K bg):=by
 intro d s w H x y v u Q I m l G;refine kW G λp q i F E b t k=>?_;subst F;subst E;cases m;cases l;refine cm (I.list b) λD c g B=>?_;obtain⟨C,n,f,A⟩:=I.list t;cases n;have o:=c.length;cases i with
 |nil=>
  cases c;exact YP (e:=λ_=>af) g.isList f.isList rfl h (λj b _=>absurd b QS) (de I k QS)
 |cons a r=>exact EC g.isList f.isList (by simp;intro z;subst z;simp at o) h (de I k QS)
theorem ZiH(h:X.A.units<cLine):cV X (compareOp .NotEq) (C2 X.K af):=by
 intro d s w H x y v u Q I m l G;refine kW G λp q i F E b t k=>?_;subst F;subst E;cases m;cases l;refine cm (I.list b) λD c g B=>?_;refine cm (I.list t) λC n f A=>?_;cases n;have o:=c.length;cases i with
 |nil=>
  cases c;exact SeqAt.RcNeAt.lists (e:=λ_=>af) g.isList f.isList rfl h (λj b _=>absurd b QS) _ _ _ _ (de I k QS)
 |cons a r=>exact SeqAt.RcNeAt.lists_lengths g.isList f.isList (by simp;intro z;subst z;simp at o) h _ _ _ _ (de I k QS)
def Zdi:dz X (.builtin "len") (λb H Q=>∃p a,b=[.ref p]/\H p=Z (.dK a)/\Q (.int (a.length:Int)) H):=by
 intro c s g H b h Q I r k;refine gR k λp a j e q=>?_;subst j;obtain⟨u,rfl,d⟩:=vals1 r;obtain rfl:u=Value.ref p:=d;exact ZjC I (.inl e) λt i f=>⟨.int (a.length:Int),H,f,⟨t,rfl⟩,q⟩
def aG.trans(g:aG D H c)(a:aG D c MV):aG D H MV:=λb o e n=>a b o (g b o e n) n
def Out(a:O U)(H c:Hp):Prop:=∀b o,H b=Z o->b∉a->c b=Z o
def Out.of(g:aj H H'):Out fp H H':=λb o e _=>g b o e
def Out.trans(g:Out fp H c)(a:Out fp c MV):Out fp H MV:=λb o e n=>a b o (g b o e n) n
def Out.bar(g:aG a H H')(m:a∈fp):Out fp H H':=λb o e n=>g b o e λz=>n (by rwa[z])
def setC(h:u D (σ.set i (Z v)) H):zP (uV (tC v) (n_ i)) u D σ H:=h
def cD(h:a σ H λx b=>u D (σ.set i (Z x)) b):zP (uV a (n_ i)) u D σ H:=h
def df(h:H a=Z (.dK b))(e:aY b (.inr z)=o):fJ H a (.str z) o:=.inl ⟨b,.inr z,.inl h,rfl,e.symm⟩
section
variable {X:Cx}{N R tgt:cH}{xs:O ar}{E:Pos}{P:O cH}{W:Scope}{cl:O (ar×U)}{fr:O (ar×Nat)}{G:TG}{L:TT}{F:TE}{σ:St}
def ZiI(n:Nat)(b:TI)(fr:O (ar×Nat))(G:TG)(L:TT)(F:TE):TE:=λσ H Q=>b σ H λJ a=>∀D,a D=aJ->KJ n J G L F (iW σ fr) D a Q
def Zfy(p:X.calm=af)(a:rD X W cl xs fr)(n:∀C s H fp,PG (dw X xs fr W cl C s H fp) tgt G)(l:PI X tgt R c)
  (i:∀C s H fp,vC (dw X xs fr W cl C s H fp) P L)(o:∀C s H fp,PE (dw X xs fr W cl C s H fp) N F)
  (j:∀x,foldedSetIterable R X.env x=pure x:=by intro _;rfl):PE X (.ListComp N [⟨tgt,R,P,0⟩] W E) (ZiI xs.length c fr G L F):=by
 intro b s σ H Q I h;refine vm rfl j a.xy a.kind a.names (aC (l b s σ H _ I h) λv d t=>aC t λvw s2 r=>?_);obtain⟨it,fp,tn,J,H2,e,I2,T,u,A,g⟩:=r;subst e;refine O_ p a n i o I2 T u A g ?_;intro D C d H1 m I1 k f0 B z y w q;exact⟨m,k,λh' f=>⟨.ref D,H1,I1.turned (f.extBut) f0 B (.inr z) y w,rfl,q⟩⟩
end
def Zdj{K:ah}(d:Nat->O V->Hp->Prop)(z:d 0 [] (upd H D (.lst [])))(t:∀i b H,i<=xs.length->d i b H->aq K H a xs)
  (E:∀i v b H,xs[i]?=Z v->d i b H->∀os:St,os.length=n->o v (os++h) H λf A=>(∃g:St,g.length=n/\f=g++h)/\tt f A λc l=>if c=af then r f l λy k=>k D=Z (.lst b)/\b.length<sizeLine/\d (i+1) (b++[y]) (upd k D (.lst (b++[y]))) else d (i+1) b l)
  (w:∀b H,d xs.length b H->Q (.ref D) H):KJ n (kR K a) o tt r h D H Q:=by
 refine⟨λi m b H=>m=xs.length-i/\i<=xs.length/\d i b H,⟨xs.length,QS,Yx _,z⟩,?_⟩;intro i m b H G;refine c9 G λF u p=>?_;subst F;have q:=t i b H u p;by_cases j:i<xs.length
 ·refine .inr ⟨⟨xs,xs[i],q,by simp[j]⟩,d (i+1),λC B s=>⟨xs.length-(i+1),QO,rfl,j,s⟩,λx B y=>?_⟩;refine gb y λe y=>?_
  grind
 ·have e:i=xs.length:=QO
  subst e;exact .inl ⟨⟨xs,q,Yd _⟩,w b H p⟩
noncomputable abbrev sR(c e g d f:cH)(a:Scope)(b:Pos):cH:=.ListComp c [⟨e,g,[],0⟩,⟨d,f,[],0⟩] a b
theorem Zev(I:Nat->bN->Prop)
  (c:∀n s,I n s->wpAny (model prog w) A (pyNext it) (λr f=>match r with
   |none=>R (.ok .next) f
   |some v=>wpAny (model prog w) A (letOwnedTupleGo g it v) (λ_ o=>wpAny (model prog w) A (assign g env v) (λ_ l=>
     wpAny (model prog w) A (eval elt env) (λx j=>
       wpAny (model prog w) A (call (.builtin "list.append") [acc,x]) (λ_ i=>∃m,m<n/\I m i) (notedBy (model prog w) A env λe a=>R (.error e) a) j) (notedBy (model prog w) A env λe a=>R (.error e) a) l) (notedBy (model prog w) A env λe a=>R (.error e) a) o) (notedBy (model prog w) A env λe a=>R (.error e) a) f) (notedBy (model prog w) A env λe a=>R (.error e) a) s)
  (n:Nat)(h:I n s):codeAny (model prog w) A (.compLoop (sR elt t1 z g y scope pos) 1 it acc env) R s:=by
 refine zX rfl I (λn s u=>Ae (bt (mu (bt (eH (c n s u) (λr f k=>?_) λ_ _ b=>b))))) n h;cases r with
 |none=>exact cv k
 |some v=>
  exact bt (eH k (λ_ o d=>bt (eH d (λ_ l t=>bt (y0 (bt (bt (eH t (λx j q=>bt (eH q (λ_ i p=>cv (cv ⟨rfl,p⟩)) λ_ _ b=>b)) λ_ _ b=>b))))) λ_ _ b=>b)) λ_ _ b=>b)
theorem Zew(E:∀x,foldedSetIterable g env x=pure x)(I:Nat->bN->Prop)
  (c:∀n s,I n s->wpAny (model prog w) A (pyNext it) (λr i=>match r with
   |none=>R (.ok .next) i
   |some v=>wpAny (model prog w) A (letOwnedTupleGo t1 it v) (λ_ q=>wpAny (model prog w) A (assign t1 env v) (λ_ o=>
     wpAny (model prog w) A (eval g env) (λx p=>wpAny (model prog w) A (pyIter x) (λt k=>
      codeAny (model prog w) A (.compStart (sR elt t1 D B g scope pos) 1 t acc env) (λr j=>match r with|.ok _=>∃m,m<n/\I m j|.error _=>False) k)
      (notedBy (model prog w) A env λe a=>R (.error e) a) p) (notedBy (model prog w) A env λe a=>R (.error e) a) o) (notedBy (model prog w) A env λe a=>R (.error e) a) q) (notedBy (model prog w) A env λe a=>R (.error e) a) i) (notedBy (model prog w) A env λe a=>R (.error e) a) s)
  (n:Nat)(h:I n s):codeAny (model prog w) A (.compLoop (sR elt t1 D B g scope pos) 0 it acc env) R s:=by
 refine zX rfl I (λn s F=>Ae (bt (mu (bt (eH (c n s F) (λr i l=>?_) λ_ _ b=>b))))) n h;cases r with
 |none=>exact cv l
 |some v=>
  refine bt (eH l (λ_ q d=>bt (eH d (λ_ o C=>bt (y0 (bt (eH C (λx p z=>bt (mu ?_)) λ_ _ b=>b)))) λ_ _ b=>b)) λ_ _ b=>b);rw[E];refine bt (cv (bt (kY (eH z (λt k y=>bt (wpAny_runOwn (nq y λr j u=>?_))) λ_ _ b=>b))));cases r with
  |error e=>simp_all
  |ok f=>exact cv ⟨rfl,u⟩
theorem ZbL
  (g:codeAny (model prog w) A (.compLoop (sR elt t1 f d e scope pos) 1 it acc env) R s)
  (h:wpAny (model prog w) A (pyIter it) (λc a=>codeAny (model prog w) A (.compLoop (sR elt t1 f d e scope pos) 1 c acc env) R a) (notedBy (model prog w) A env λx a=>R (.error x) a) s):
  codeAny (model prog w) A (.compStart (sR elt t1 f d e scope pos) 1 it acc env) R s:=by
 refine X7 (wpAny_notedAt (bt (wpAny_askSetting (wpAny_ite ?_))));split
 ·first
   |exact bt (cv (cv (tO rfl g)))
   |exact cv (tO rfl g)
 ·first
   |exact bt (tM (bt (mu (bt (eH h (λc a b=>cv (tO rfl b)) λ_ _ x=>x)))))
   |(refine bt (tM ?_);exact bt (mu (bt (eH h (λc a b=>cv (tO rfl b)) λ_ _ x=>x))))
def K3(n:Nat)(J:It)(E:TG)(C:TI)(B:TG)(A:TE)(h:St)(D:U)(H:Hp)(Q:VK):Prop:=
 ∃W:Nat->Nat->O V->Hp->Prop,(∃m,W 0 m [] (upd H D (.lst [])))/\∀i m p H,W i m p H->
  (J.stop i H/\Q (.ref D) H)\/(J.go i H/\∃N:O V->Hp->Prop,(∀d a,N d a->∃c,c<m/\W (i+1) c d a)/\
   ∀v a,J.sM i H v a->∀os:St,os.length=n->E v (os++h) a λk I=>(∃s:St,s.length=n/\k=s++h)/\C k I λo G=>
    ∃l:Nat->Nat->O V->St->Hp->Prop,(∃g,l 0 g p k G)/\∀e g b j f,l e g b j f->
     (o.stop e f/\(∃q:St,q.length=n/\j=q++h)/\N b f)\/(o.go e f/\∃u:O V->St->Hp->Prop,(∀d t a,u d t a->∃c,c<g/\l (e+1) c d t a)/\
      ∀r x,o.sM e f r x->B r j x λz F=>A z F λy w=>w D=Z (.lst b)/\b.length<sizeLine/\u (b++[y]) z (upd w D (.lst (b++[y])))))
section
variable {X:Cx}{P L g B F:cH}{xs:O ar}{G:Pos}{R:Scope}{cl:O (ar×U)}{fr:O (ar×Nat)}{w A:TG}{l:TI}{t:TE}{σ:St}
def Zdk{H2:Hp}{s2:bN}{it:U}{f:O U}{tn:Nat->c8->Prop}{J:It}{Q:VK}{RR:a7->U->Result->bN->Prop}{E:bw}
  (hc:X.calm=af)(a:rD X R cl xs fr)(hg:∀C s H f,PG (dw X xs fr R cl C s H f) L w)(pI:∀C s H f,PI (dw X xs fr R cl C s H f) B F l)(MX:∀C s H f,PG (dw X xs fr R cl C s H f) B A)(he:∀C s H f,PE (dw X xs fr R cl C s H f) P t)
  (sO:∀C x,foldedSetIterable F (compEnvC R cl C X.env) x=pure x)
  (I2:Inv X pins σ H2 s2)(T:Turn X.prog X.w X.K L J f it tn)(fq:tn 0 s2.heap)(f2:∀b∈f,jN X pins H2 b)
  (hw:∀D,H2 D=aJ->K3 xs.length J w l A t (iW σ fr) D H2 Q)
  (hR:∀D C s1 H1 m,Inv X pins σ H1 s1->s1.heap.Ns C m->H1 C=aJ->C≠X.env.locals->X.dB.heap.objs.size<=C->(∀y c,X.env.cells.lookup y=Z c->c≠C)->(∀p∈X.pn++pins,p.1≠C)->Q (.ref D) H1->RR (.ref D) C (.ok .next) s1):
  wpAny X.md X.A (newList []) (λacc eZ=>wpAny X.md X.A (newFunctionEnv R X.env.globals cl [] X.env.qual aJ .none (Z X.env)) (λou jP=>
   codeAny X.md X.A (.compStart (sR P L g B F R G) 0 (.ref it) acc {ou with scope:=relabel R X.env}) (RR acc ou.locals) jP) E eZ) E s2:=by
 refine Qz (tgt:=L) a I2 T fq f2 hR λD C s I eZ hD e3 I4 xV xS fin=>?_;refine bo (hw D hD) λW gV turn=>?_;obtain ⟨m0,w0⟩:=gV;rw[←e3] at w0;refine Zew (sO _) (λk s'=>∃i ys H' os,os.length=xs.length/\Inv (dw X xs fr R cl C s I f) [] (os++iW σ fr) H' s'/\tn i s'.heap/\(∀b∈f,H' b=aJ)/\W i k ys H') ?_ m0
  ⟨0,[],_,List.replicate xs.length aJ,W1,I4,xV,xS,w0⟩
 intro n s5 ZH;refine ju ZH λi ys H5 os qU I5 qT vy w5=>?_;have oo:∀{H':Hp},(∀b∈f,H' b=aJ)->∀b∈f,jN (dw X xs fr R cl C s I f) [] H' b:=λ{H'} hn b h=>
  ⟨hn b h,(I5.ok.sL b h).1,I5.ok.sv b h,.inl h,(I5.ok.sL b h).2,λp hp=>absurd (show p∈([]:bq) from hp) QS⟩
 rcases turn i n ys H5 w5 with⟨stop,qn⟩|⟨go,N,hN,step⟩
 ·refine aC (T.done (dw X xs fr R cl C s I f) rfl rfl rfl hc i [] s5 _ H5 _ I5 (oo vy) qT stop) λr s6 q=>?_;refine gb q λhr I6=>?_;subst hr;exact fin _ _ _ I6 qn
 ·refine aC (T.item (dw X xs fr R cl C s I f) rfl rfl rfl hc i [] s5 _ H5 _ I5 (oo vy) qT go) λr s6 q=>?_;refine bo q λu hr h6=>?_;subst hr;refine aC h6 λ_ s7 q=>?_;obtain⟨v,H7,I7,r7,y7,vD,MN⟩:=q;have MO:=I7.pinned (oo MN) (T.obj _ _ vD);refine eH (hg _ _ _ _ _ s7 _ H7 v u _ MO r7 (step v H7 y7 os qU)) (λ_ s8 q=>?_) λ _ _=>False.elim;obtain⟨σ8,H8,I8,⟨lR,LX,e8⟩,q8⟩:=q;subst e8;have again:∀{qV:St} {H9:Hp} {s9:bN} {qW:O V},qV.length=xs.length->Inv (dw X xs fr R cl C s I f) ([]++rY f s7.heap) (qV++iW σ fr) H9 s9->N qW H9->
    ∃m,m<n/\∃i ys H' os,os.length=xs.length/\Inv (dw X xs fr R cl C s I f) [] (os++iW σ fr) H' s9/\tn i s9.heap/\(∀b∈f,H' b=aJ)/\W i m ys H':=λ{qV H9 s9 qW} l1 I9 n9=>by
   obtain⟨m',hm,w9⟩:=hN qW H9 n9;refine⟨m',hm,i+1,qW,H9,qV,l1,I9.wR,T.keep _ _ _ vD λb h o e=>(I9.pin (b,o) (Yr _ (Yr _ (rC h e)))).1,λb h=>?_,w9⟩;obtain⟨o,e,d⟩:=T.obj _ _ vD b h;exact(I9.pin (b,o) (Yr _ (Yr _ (rC h e)))).2.1
  refine eH (pI _ _ _ _ _ s8 _ H8 _ I8 q8) (λx s9 h9=>eH h9 (λvw MP h10=>?_) λ _ _=>False.elim) λ _ _=>False.elim;obtain⟨DS,MY,tn2,J2,qX,q0,MQ,T2,VM,MZ,W2,⟨m2,w2⟩,ZjJ⟩:=h10;subst q0;have Ls:∀{H':Hp},(∀b∈MY,H' b=aJ)->∀b∈MY,jN (dw X xs fr R cl C s I f) ([]++rY f s7.heap) H' b:=λhn b h=>⟨hn b h,(MZ b h).2⟩;have UY:codeAny X.md X.A (.compLoop (sR P L g B F R G) 1 (.ref DS) (.ref D) (compEnvC R cl C X.env)) (λr ot=>match r with|.ok _=>∃m,m<n/\∃i ys H' os,os.length=xs.length/\Inv (dw X xs fr R cl C s I f) [] (os++iW σ fr) H' ot/\tn i ot.heap/\(∀b∈f,H' b=aJ)/\W i m ys H'|.error _=>False) MP:=by
   refine Zev (λk s'=>∃j zs aQ H',Inv (dw X xs fr R cl C s I f) ([]++rY f s7.heap) aQ H' s'/\tn2 j s'.heap/\(∀b∈MY,H' b=aJ)/\W2 j k zs aQ H') ?_ m2 ⟨0,ys,_,qX,MQ,VM,λb h=>(MZ b h).1,w2⟩;intro k MR ZH;refine qp ZH λj zs Zku Ar DK VN VO w11=>?_;rcases ZjJ j k zs Zku Ar w11 with⟨stop,⟨xY,Zkv,e3⟩,qn⟩|⟨go,N2,hN2,ZjK⟩
   ·refine aC (T2.done (dw X xs fr R cl C s I f) rfl rfl rfl hc j _ MR _ Ar _ DK (Ls VO) VN stop) λr s12 q=>?_;obtain⟨hr,I12⟩:=q;subst hr;subst e3;exact again Zkv I12 qn
   ·refine aC (T2.item (dw X xs fr R cl C s I f) rfl rfl rfl hc j _ MR _ Ar _ DK (Ls VO) VN go) λr s12 q=>?_;obtain⟨u2,hr,DT⟩:=q;subst hr;refine aC DT λ_ s13 q=>?_;obtain⟨v2,DU,I13,r13,y13,LZ,Zkw⟩:=q;have Zkx:=I13.pinned (Ls Zkw) (T2.obj _ _ LZ);refine eH (MX _ _ _ _ _ s13 _ DU v2 u2 _ Zkx r13 (ZjK v2 DU y13)) (λ_ s14 q=>?_) λ _ _=>False.elim;obtain⟨Zky,sS,I14,q14⟩:=q;refine eH (he _ _ _ _ _ s14 _ sS _ I14 q14) (λu1 s15 q=>?_) λ _ _=>False.elim;obtain⟨y,M0,I15,r15,hD,hz,oM⟩:=q;refine eH (yY (X:=dw X xs fr R cl C s I f) _ s15 _ M0 (.ref D) [y] _ [u1] (λ_ H'=>N2 (zs++[y]) Zky H') I15 rfl (.cons r15 .nil) ⟨_,zs,y,rfl,rfl,hD,hz,oM⟩) (λ_ s16 q=>?_) λ_ _ z=>False.elim z;obtain⟨_,XQ,M3,_,q16⟩:=q;obtain⟨m',hm,w16⟩:=hN2 _ _ _ q16;refine⟨m',hm,j+1,_,_,XQ,M3.wR,T2.keep _ _ _ LZ λb h o e=>(M3.pin (b,o) (Yr _ (Yr _ (rC h e)))).1,λb h=>?_,w16⟩;obtain⟨o,e,d⟩:=T2.obj _ _ LZ b h;exact(M3.pin (b,o) (Yr _ (Yr _ (rC h e)))).2.1
  exact ZbL UY (T2.self _ 0 _ _ _ VM UY)
def ZiJ(n:Nat)(b:TI)(fr:O (ar×Nat))(w:TG)(l:TI)(A:TG)(t:TE):TE:=λσ H Q=>b σ H λJ a=>∀D,a D=aJ->K3 n J w l A t (iW σ fr) D a Q
def Zfz(y:X.calm=af)(a:rD X R cl xs fr)(r:∀C s H fp,PG (dw X xs fr R cl C s H fp) L w)(p:PI X L g c)(i:∀C s H fp,PI (dw X xs fr R cl C s H fp) B F l)(MX:∀C s H fp,PG (dw X xs fr R cl C s H fp) B A)
  (u:∀C s H fp,PE (dw X xs fr R cl C s H fp) P t)(n:∀x,foldedSetIterable g X.env x=pure x:=by intro _;rfl)(d:∀C x,foldedSetIterable F (compEnvC R cl C X.env) x=pure x:=by intro _ _;rfl):
  PE X (.ListComp P [⟨L,g,[],0⟩,⟨B,F,[],0⟩] R G) (ZiJ xs.length c fr w l A t):=by
 intro b s σ H Q I h;refine vm rfl n a.xy a.kind a.names (aC (p b s σ H _ I h) λv f E=>aC E λvw s2 z=>?_);obtain⟨it,fp,tn,J,H2,e,I2,T,N,f2,k⟩:=z;subst e;refine Zdk y a r i MX u d I2 T N f2 k ?_;intro D C f H1 m I1 o f0 f1 f3 f4 W q;exact⟨m,o,λh' j=>⟨.ref D,H1,I1.turned (j.extBut) f0 f1 (.inr f3) f4 W,rfl,q⟩⟩
end
def fD{K:ah}(h:X.K=K)(b:PE X l a):PI X c l (UB K a):=h▸RI b
def iP{X:Cx}{K:ah}{b:Pos}{a:O cH}{k:Nat}{t:pG}{n:Nat}(h:X.K=K)(e:X.calm=af)(d:Af X a t)
  (c:(assignEach a X.env).length=n:=by rfl)(f:(assignEach a X.env).findIdx? (·.1)=aJ:=by rfl):PG X (.Tuple a k b) (LK K n t):=h▸ZhU e d c f
def ZgY{K:ah}(h:Nat->O V->Hp->Prop)(h0:h 0 [] (upd H D (.lst [])))(hl:∀i c H,i<=xs.length->h i c H->aq K H a xs)
  (hs:∀i v c H,xs[i]?=Z v->h i c H->∀os:St,os.length=n->C v (os++E) H λt H2=>(∃P:St,P.length=n/\t=P++E)/\B t H2 λW H3=>∃(b:U) (f:O V) (g:Nat->O V->St->Hp->Prop),W=kR K b/\g 0 c t H3/\
   (∀k c d H,k<=f.length->g k c d H->aq K H b f)/\
   (∀k s c d H,f[k]?=Z s->g k c d H->oK s d H λAy H6=>te Ay H6 λy X=>X D=Z (.lst c)/\c.length<sizeLine/\g (k+1) (c++[y]) Ay (upd X D (.lst (c++[y]))))/\
   ∀c d H,g f.length c d H->(∃I:St,I.length=n/\d=I++E)/\h (i+1) c H)
  (hd:∀c H,h xs.length c H->Q (.ref D) H)(G:∀d H (R o:It->Hp->Prop),(∀J H,R J H->o J H)->B d H R->B d H o)(F:∀v d H (R o:St->Hp->Prop),(∀d H,R d H->o d H)->C v d H R->C v d H o):K3 n (kR K a) C B oK te E D H Q:=by
 refine⟨λi m c H=>m=xs.length-i/\i<=xs.length/\h i c H,⟨xs.length,QS,Yx _,h0⟩,?_⟩;intro i m c H ZH;refine c9 ZH λjs hi p=>?_;subst js;have q:=hl i c H hi p;by_cases T:i<xs.length
 ·refine .inr ⟨⟨xs,xs[i],q,by simp[T]⟩,h (i+1),λi6 H' A=>⟨xs.length-(i+1),QO,rfl,T,A⟩,λx H' y os qU=>?_⟩;obtain⟨e,y⟩:=y;subst e;refine F _ _ _ _ _ (λt H2 ⟨h1,h2⟩=>⟨h1,G _ _ _ _ (λW H3 h3=>?_) h2⟩) (hs i x c _ (y xs q) p os qU);refine kW h3 λb f g hI w0 wl ws L=>?_;subst hI;refine⟨λk N j l r=>N=f.length-k/\k<=f.length/\g k j l r,⟨f.length,QS,Yx _,w0⟩,?_⟩;intro k N j l r ZH;refine c9 ZH λjs hk w=>?_;subst js;have z:=wl k j l r hk w;by_cases DV:k<f.length
  ·refine .inr ⟨⟨f,f[k],z,by simp[DV]⟩,g (k+1),λi6 aQ H' A=>⟨f.length-(k+1),QO,rfl,DV,A⟩,λs H5 u=>?_⟩;obtain⟨e2,u⟩:=u;subst e2;exact ws k s j l _ (u f z) w
  ·have e:k=f.length:=(Nat.le_antisymm hk (Nat.le_of_not_lt DV))
   subst e;exact .inl ⟨⟨f,z,Yd _⟩,(L j l r w).1,(L j l r w).2⟩
 ·have e:i=xs.length:=(Nat.le_antisymm hi (Nat.le_of_not_lt T))
  subst e;exact .inl ⟨⟨xs,q,Yd _⟩,hd c H p⟩
section
variable {prog:dC}{w:dg}{X:Type}[DecidableEq X]{knd:PySem.KeyKind prog w X}{A:fb}{E:bw}{s:bN}
theorem Zac{d:U}{a:O (X×a7)}{k:X}{f b:a7}{Q:bw}(g:knd.is k f=af)(C:s.heap.DictOf knd d a)
  (r:∀v,valueAt a k=Z v->Q v {s with toks:=s.toks+1})
  (z:valueAt a k=aJ->∀q,q.DictOf knd d (stored a k b)->Heap.SameBut d s.heap q->Q b {s with heap:=q,toks:=s.toks+1})
  (B:a.length<=sizeLine):wpAny (model prog w) A (dictSetDefault d f b) Q E s:=by
 refine nR C λo c H j G hd t h J=>?_;have D:c.size<=sizeLine:=by
  have L:=h.length
  grind
 have u:∀x,findBy knd.is c x=valueAt a x:=λx=>by
  rw[←h.find x];simp[findBy]
 unfold dictSetDefault;try with_reducible refine kY ?_
 refine bt (knd.pyHash g (bt (wpAny_dictFind_of g j hd t ?_)));have I:(c.findIdx? λe=>knd.is k e.key)=a.findIdx? λn=>decide (n.1=k):=by
  rw[←h.findIdx k];obtain⟨l⟩:=c;simp
 cases p:c.findIdx? λe=>knd.is k e.key with
 |some i=>
  have m:valueAt a k=(c[i]?).map (·.val):=by rw[←u k,TF,p]
  refine bt (VT j hd ?_);cases F:c[i]? with
  |none=>
   have:=Array.findIdx?_eq_some_iff_findIdx_eq.mp p
   grind
  |some e=>
   rw[F] at m;exact bt (tM (cv (r e.val m)))
 |none=>
  have m:valueAt a k=aJ:=by rw[←u k,TF,p]
  have y:¬(a.any λn=>decide (n.1=k))=af:=by
   grind
  refine bt (tM (bt (MW j hd (cv (z m _ ⟨_,_,H+1,Wq _ j (N8 (vr hd _)),
   G.mapDictKeys _,vr hd _,t.push g _,?_,?_⟩ (Pe ..))))))
  ·rw[stored,bF y];have:=h.append g (knd.hash k) b
   grind
  ·rw[stored,bF y,Yn,Wy]
   grind
def Zax(g:knd.is k key=af)(m:(d==sysModules)=bg)(a:a7):
  MeetsIn prog w (Builtin.«dict.setdefault» ⟨[.ref d,key,a],[]⟩) (λ_ R s=>∃b,s.heap.DictOf knd d b/\b.length<=sizeLine/\
   (∀v,valueAt b k=Z v->R (.ok (.ret v)) {s with toks:=s.toks+1})/\
   (valueAt b k=aJ->∀c,c.DictOf knd d (stored b k a)->Heap.SameBut d s.heap c->R (.ok (.ret a)) {s with heap:=c,toks:=s.toks+1})):=
 .of_wp λA R s ⟨b,f,i,o,n⟩=>by
  refine bt (bt (xN f.typeIs (cv ?_)));show wpAny _ _ (if(d==sysModules)=af then _ else(dictSetDefault d key a>>=_)) _ _ s;rw[bF (by rw[m];exact Yl)];exact bt (Zac g f (λv j=>cv ⟨v,rfl,o v j⟩) (λl c e h=>cv ⟨a,rfl,n l c e h⟩) i)
end
theorem ZfA(I:Inv X pins σ H s)(e:H a=Z (.dK b))(p:RelV (kV k) u)(o:RelV z r)(l:b.length<sizeLine)
  (F:∀v h g,aY b k=Z v->Inv X pins σ H g->RelV v h->Q h g)(D:∀g,aY b k=aJ->Inv X pins σ (upd H a (.dK (putK b k z))) g->Q r g):
  wpAny X.md A (call (.builtin "dict.setdefault") [.ref a,u,r]) Q E s:=by
 obtain⟨G,hd,i,c,n⟩:=o_ I.aw e;have t:i.length<=sizeLine:=by rwa[←c.length]
 have f:=c.val k;refine oa Dy n.typeIs PySem.F.entry_dict_setdefault (PySem.F.args_dict_setdefault_3 _ _ _) (Zax (mS p) hd r) ⟨i,n,t,λv m=>?_,λB J j w=>?_⟩
 ·cases d:aY b k with
  |none=>rw[d,m] at f;cases f
  |some x=>
   rw[d,m] at f;exact F x v _ d (I.tok _) f
 ·have d:aY b k=aJ:=by
   cases d:aY b k with
   |none=>rfl
   |some x=>rw[d,B] at f;cases f
  have C:(putK b k z).length<=sizeLine:=by have:=Bj b k z;exact Nat.le_trans this (Nat.succ_le_of_lt l)
  exact D _ d (uu I (by exact e▸kS) w (let⟨q,_,_,y,_⟩:=j;⟨q,y⟩) (xh C hd (c.put k o) j))
def I_(h f g:TE):TE:=λc H Q=>h c H λx e=>∃a,x=.ref a/\Aw e a/\f c e λy i=>g c i λz d=>∃b k,d a=Z (.dK b)/\y=kV k/\b.length<sizeLine/\
 (∀v,aY b k=Z v->Q v d)/\(aY b k=aJ->Ch d a (.dK (b++[(k,z)])) (Q z))
def ZgZ(g f:TE):TE:=λc H Q=>g c H λx e=>∃a,x=.ref a/\Aw e a/\f c e λy d=>∃b k v,d a=Z (.dK b)/\y=kV k/\aY b k=Z v/\Ch d a (.dK (iX b k)) (Q v)
def Hj(R:PE X o q)(W:PE X e ty)(T:PE X f p)(m:M2 X o "setdefault" apos e f cR):PE X (.Call (.Attribute o "setdefault" apos) [e,f] [] cR) (I_ q ty p):=by
 intro b s i H Q I h;refine vA m.base m.cM m.line tr Dy PySem.F.type_dict_setdefault (aC (R b s i H _ I h) λu B n=>?_);obtain⟨x,H1,l,D,a,ex,d,L⟩:=n;subst ex;obtain rfl:u=Value.ref a:=D;refine c9 (zB l d) λt r _=>?_;refine⟨t,r,?_⟩;rw[m.trees];refine nV rfl (rj (pY (aC (W b B i H1 _ l L) λiv A ⟨y,H2,I2,C,J⟩=>
  pY (aC (T b A i H2 _ I2 J) λfv s3 ⟨z,H3,I3,j,P,k,ea,ey,N,G,F⟩=>tq ?_))))
 subst ey;refine ZfA I3 ea C j N (λv w' w c g E=>⟨v,H3,g,E,G v c⟩) λw c g=>?_;rw[lF _ c] at g;exact⟨z,_,g,j,(F c).at⟩
def P_(B:PE X o i)(C:PE X e ty)(m:M1 X o "pop" apos e G):PE X (.Call (.Attribute o "pop" apos) [e] [] G) (ZgZ i ty):=by
 intro b s c H Q I h;refine vA m.base m.cM m.line tr slot_dict_pop PySem.F.type_dict_pop (aC (B b s c H _ I h) λu p g=>?_);obtain⟨x,N,f,r,a,E,d,w⟩:=g;subst E;obtain rfl:u=Value.ref a:=r;refine c9 (zB f d) λn j _=>?_;refine⟨n,j,?_⟩;rw[m.trees];refine nV rfl (rj (pY (aC (C b p c N _ f w) λW T ⟨y,H2,L,q,z,k,v,F,D,l,t⟩=>tq ?_)));subst D;exact ZjB L F q l (.inl rfl) λP R J A=>⟨v,_,J,A,t.at⟩
end _L
namespace _L
open PySem PySem.W PySem.Calls PySem.Spec PyProof.Rows
def fK{c:Type}(n:Nat)(P:c->Prop):KasT c->Prop
 |.ret a=>P a
 |.ask i j k=>i<n/\j<n/\∀b,fK n P (k b)
theorem fK.bind{c d:Type}{n:Nat}{P:c->Prop}{Q:d->Prop}{f:c->KasT d}(e:∀a,P a->fK n Q (f a)):∀{t:KasT c},fK n P t->fK n Q (t.bind f)
 |.ret a,h=>e a h
 |.ask _ _ _,h=>⟨h.1,h.2.1,λb=>fK.bind e (h.2.2 b)⟩
def Good(n:Nat)(p:dq Nat):Prop:=0<n/\p.Perm (List.range n).toArray
def Good.get(g:Good n p)(m:Nat):p.getD m 0<n:=by
 by_cases h:m<p.size
 ·have e:p.getD m 0=p[m]:=by rw[Y8,Wz h];rfl
  rw[e];have:=g.2.mem_iff.mp (XH h);simpa using this
 ·have e:p.getD m 0=0:=by rw[Y8,XO (Nat.le_of_not_lt h)];rfl
  rw[e];exact g.1
def Good.rev(g:Good n p)(i j:Nat):Good n (kas_rev p i j):=⟨g.1,(mirror_perm p i j _).trans g.2⟩
theorem JA(g:Good n p):∀f m,fK n (λ_=>True) (kas_asc p f m)
 |0,_=>trivial
 |f+1,m=>⟨g.get m,g.get (m-1),λb=>by
  cases b with
  |true=>(dsimp only;rw[bC rfl]);exact trivial
  |false=>(dsimp only;rw[bF Yl]);exact JA g f (m+1)⟩
theorem BB:∀f (p:dq Nat) m q,Good n p->fK n (λr=>Good n r.1) (kas_desc f p m q)
 |0,_,_,_,g=>g
 |f+1,p,m,q,g=>⟨g.get m,g.get (m-1),λb=>by
  cases b with
  |true=>
   split;·exact BB f _ _ _ (g.rev _ _)
   ·exact BB f _ _ _ g
  |false=>
   refine⟨g.get (m-1),g.get m,λd=>?_⟩;cases d with
   |true=>(dsimp only;rw[bC rfl]);exact g
   |false=>(dsimp only;rw[bF Yl]);exact BB f _ _ _ g⟩
def Pm(g:Good n p):fK n (λr=>Good n r.2) (kas_tail3 m k p):=by
 refine fK.bind (λa _=>?_) (JA (g.rev 0 m) _ _);exact g.rev 0 m
def OO(g:Good n p):fK n (λr=>Good n r.2) (kas_descPart m k p):=by
 refine fK.bind (λr a=>?_) (BB _ p _ _ g);split;·exact Pm (Good.rev a _ _)
 ·exact Pm a
theorem Pn(g:Good n p):fK n (λr=>Good n r.2) (kas_count k p):=by
 refine fK.bind (λm _=>?_) (JA g _ _);split;·exact g
 ·split
  ·refine⟨g.get _,g.get _,λb=>?_⟩;cases b with
   |true=>(dsimp only;rw[bC rfl]);exact g
   |false=>(dsimp only;rw[bF Yl]);exact OO (g.rev _ _)
  ·exact OO g
theorem Hk(g:Good n p):∀f l r,fK n (λ_=>True) (kas_place p k f l r)
 |0,_,_=>trivial
 |f+1,l,r=>by
  unfold kas_place;split;·exact trivial
  ·refine⟨g.get _,g.get _,λb=>?_⟩;cases b with
   |true=>(dsimp only;rw[bC rfl]);exact Hk g f _ _
   |false=>(dsimp only;rw[bF Yl]);exact Hk g f _ _
theorem QW{n:Nat}:∀f (p:dq Nat) k,Good n p->fK n (Good n) (kas_bin f p k)
 |0,_,_,g=>g
 |f+1,p,k,g=>fK.bind (λl _=>QW f _ _ ⟨g.1,(bubble_perm p k _).trans g.2⟩) (Hk g _ _ _)
def Zex(h:0<n):fK n (Good n) (kas_sort n):=by
 refine fK.bind (λr a=>?_) (Pn ⟨h,y9 _⟩);split;·exact QW _ _ _ a
 ·exact a
def range_getD(vs:O α)(d:α):(List.range vs.length).map (λi=>vs.getD i d)=vs:=by
 refine Wt λi=>?_
 grind
def Cp(h:c8)(b:O a7):Prop:=∀v∈b,∃(a:U) (o:Obj) (n:Nat) (x y:Int) (t u:Tok),v=.ref a/\h.get? a=Z o/\o.cls=.type "tuple"/\o.data=.seq #[.int x t,.int y u] n
theorem Cp.XR:∀{b:O a7},Cp h b->∃fs:O a7,KatTups h b fs/\fs.length=b.length/\∀v∈fs,∃x t,v=Value.int x t
 |[],_=>⟨[],KatTups.nil,rfl,λ_ h=>by cases h⟩
 |v::b,c=>by
  obtain⟨a,o,n,x,y,t,u,rfl,j,i,g⟩:=c v Yo;refine cm (Cp.XR λz f=>c z (Yw _ f)) λfs e d k=>?_;refine⟨.int x t::fs,KatTups.cons j i g rfl e,by rw[Wi,Wi,d],λv c=>?_⟩
  grind
theorem Iw:∀{c:O U} {b:O a7},Vals (c.map V.ref) b->b=c.map Value.ref
 |[],_,.nil=>rfl
 |a::c,u::b,.cons r t=>by
  rw[r,Iw t,Wj]
theorem Qa:∀a:O U,Vals (a.map V.ref) (a.map Value.ref)
 |[]=>.nil
 |_::a=>.cons rfl (Qa a)
noncomputable def Run{b:Type}(c:Nat->Nat->cu):KasT b->b
 |.ret a=>a
 |.ask i j k=>Run c (k (c i j))
theorem Run.bind:∀t:KasT α,Run lt (t.bind f)=Run lt (f (Run lt t))
 |.ret _=>rfl
 |.ask i j k=>Run.bind (k (lt i j))
theorem fK.run(b:∀i j (C:cu->bN->Prop),i<n->j<n->C (lt i j) s->cmp i j C s):∀{t:KasT α},fK n P t->G (Run lt t) s->t.kasWp cmp G s
 |.ret _,_,a=>a
 |.ask i j k,h,a=>b i j _ h.1 h.2.1 (fK.run b (h.2.2 _) a)
structure lX(n:Nat)(lt:Nat->Nat->cu):Prop where
 trans:∀i j k,i<n->j<n->k<n->lt i j=af->lt j k=af->lt i k=af
 DX:∀i j,i<n->j<n->i≠j->lt i j=bg->lt j i=af
 Zkz:∀i j,i<n->j<n->lt i j=af->lt j i=bg
def Sd(a:Nat->Nat->cu)(p:dq Nat)(m:Nat):Prop:=∀i j,i<j->j<m->a (p.getD i 0) (p.getD j 0)=af
def Ds(a:Nat->Nat->cu)(p:dq Nat)(m:Nat):Prop:=∀i j,i<j->j<m->a (p.getD j 0) (p.getD i 0)=af
def Good.size(g:Good n p):p.size=n:=by
 have:=g.2.size_eq
 grind
def Good.ne(g:Good n p)(h:i<n)(f:j<n)(b:i≠j):p.getD i 0≠p.getD j 0:=by
 have c:p.toList.Nodup:=by
  have:=(J0.mp g.2).nodup_iff.mpr (by simpa using X1);exact this
 have sz:=g.size;have e:∀k (d:k<n),p.getD k 0=p.toList[k]'(by rw[Wp];omega):=λk d=>by
  simp_all
 have a:=W0.mp c;rw[e i h,e j f];intro z;rcases Nat.lt_or_gt_of_ne b with q|q;·exact a _ _ _ _ q z
 ·exact a _ _ _ _ q z.symm
section
variable {n:Nat}{lt:Nat->Nat->cu}
def R6(L:lX n lt)(g:Good n p)(f:1<=m)(a:Sd lt p m)(h:lt (p.getD (m-1) 0) (p.getD m 0)=af):Sd lt p (m+1):=by
 intro i j b d;by_cases e:j=m
 ·subst e;by_cases c:i=j-1;·rwa[c]
  ·exact L.trans _ _ _ (g.get _) (g.get _) (g.get _) (a i (j-1) QO QO) h
 ·exact a i j b (Nat.lt_of_le_of_ne (Nat.le_of_lt_succ d) e)
def Zg0(L:lX n lt)(g:Good n p)(f:1<=m)(a:Ds lt p m)(h:lt (p.getD m 0) (p.getD (m-1) 0)=af):Ds lt p (m+1):=by
 intro i j b d;by_cases e:j=m
 ·subst e;by_cases c:i=j-1;·rwa[c]
  ·exact L.trans _ _ _ (g.get _) (g.get _) (g.get _) h (a i (j-1) QO QO)
 ·exact a i j b (Nat.lt_of_le_of_ne (Nat.le_of_lt_succ d) e)
theorem B5(L:lX n lt)(g:Good n p):∀f m,1<=m->m+f<=n->Sd lt p m->Sd lt p (Run lt (kas_asc p f m))/\m<=Run lt (kas_asc p f m)/\Run lt (kas_asc p f m)<=m+f
 |0,m,_,_,h=>⟨h,Yd _,Yd _⟩
 |f+1,m,i,k,h=>by
  have e:Run lt (kas_asc p (f+1) m)=Run lt (if lt (p.getD m 0) (p.getD (m-1) 0)=af then KasT.ret m else kas_asc p f (m+1)):=rfl;rw[e];by_cases c:lt (p.getD m 0) (p.getD (m-1) 0)=af
  ·rw[bC c];exact⟨h,Yd _,by show m<=_;exact Nat.le_add_right _ _⟩
  ·rw[bF c];have j:lt (p.getD m 0) (p.getD (m-1) 0)=bg:=by cases z:lt (p.getD m 0) (p.getD (m-1) 0) with|true=>exact absurd z c|false=>rfl
   refine c9 (B5 L g f (m+1) (Nat.le_succ_of_le i) QO (R6 L g i h (L.DX _ _ (g.get _) (g.get _) (g.ne QO QO QO) j))) λa b d=>?_
   grind
theorem QX(L:lX n lt)(g:Good n p):∀f m,1<=m->m+f<=n->Ds lt p m->∃h,Run lt (kas_desc f p m 0)=(p,h,0)/\Ds lt p h/\m<=h/\h<=m+f
 |0,m,_,_,ds=>⟨m,rfl,ds,Yd _,Yd _⟩
 |f+1,m,i,l,ds=>by
  have e:Run lt (kas_desc (f+1) p m 0)=Run lt (if lt (p.getD m 0) (p.getD (m-1) 0)=af then(if 0>0 then kas_desc f (kas_rev p (m-(0+1)) m) (m+1) 0 else kas_desc f p (m+1) 0) else KasT.ask (p.getD (m-1) 0) (p.getD m 0) λd=>if d=af then KasT.ret (p,m,0) else kas_desc f p (m+1) (0+1)):=rfl;rw[e];by_cases c:lt (p.getD m 0) (p.getD (m-1) 0)=af
  ·rw[bC c,bF (by decide)];refine lr (QX L g f (m+1) (Nat.le_succ_of_le i) QO (Zg0 L g i ds c)) λh a b d o=>?_
   grind
  ·rw[bF c];have k:lt (p.getD m 0) (p.getD (m-1) 0)=bg:=by cases z:lt (p.getD m 0) (p.getD (m-1) 0) with|true=>exact absurd z c|false=>rfl
   have j:Run lt (KasT.ask (p.getD (m-1) 0) (p.getD m 0) λd=>if d=af then KasT.ret (p,m,0) else kas_desc f p (m+1) (0+1))=Run lt (if lt (p.getD (m-1) 0) (p.getD m 0)=af then KasT.ret (p,m,0) else kas_desc f p (m+1) (0+1)):=rfl;rw[j,bC (L.DX _ _ (g.get m) (g.get (m-1)) (g.ne QO QO QO) k)];exact⟨m,rfl,ds,Yd _,(Nat.le_add_right _ _)⟩
def R7(a:m<=p.size)(b:i<m):(kas_rev p 0 m).getD i 0=p.getD (m-1-i) 0:=by
 unfold kas_rev;rw[Y8,getElem?_mirror_all a,bC ⟨Yx _,b⟩,←Y8]
 congr 1
 omega
def Zey(L:lX n lt)(g:Good n p)(h:1<=m)(o:m<=n)(k:Ds lt p m):Good n (Run lt (kas_tail3 m n p)).2/\Sd lt (Run lt (kas_tail3 m n p)).2 (Run lt (kas_tail3 m n p)).1/\m<=(Run lt (kas_tail3 m n p)).1/\(Run lt (kas_tail3 m n p)).1<=n:=by
 have d:Sd lt (kas_rev p 0 m) m:=λi j l f=>by
  rw[R7 (by rwa[g.size]) (Nat.lt_trans l f),R7 (by rwa[g.size]) f];exact k _ _ QO QO
 have e:Run lt (kas_tail3 m n p)=(Run lt (kas_asc (kas_rev p 0 m) (n-m) m),kas_rev p 0 m):=by
  unfold kas_tail3;rw[Run.bind];rfl
 refine c9 (B5 L (g.rev 0 m) (n-m) m h (Nat.le_of_eq (Nat.add_sub_of_le o)) d) λa b c=>?_;rw[e];exact⟨g.rev 0 m,a,b,QO⟩
def Zez(L:lX n lt)(g:Good n p):Good n (Run lt (kas_count n p)).2/\Sd lt (Run lt (kas_count n p)).2 (Run lt (kas_count n p)).1/\1<=(Run lt (kas_count n p)).1/\(Run lt (kas_count n p)).1<=n:=by
 have I:=g.1;refine c9 (B5 L g (n-1) 1 (Yd _) QO (λi j s t=>QO)) λf k A=>?_;have e:Run lt (kas_count n p)=Run lt (if(Run lt (kas_asc p (n-1) 1)==n)=af then KasT.ret (Run lt (kas_asc p (n-1) 1),p) else if Run lt (kas_asc p (n-1) 1)>1 then KasT.ask (p.getD 0 0) (p.getD (Run lt (kas_asc p (n-1) 1)-1) 0) λc=>if c=af then KasT.ret (Run lt (kas_asc p (n-1) 1),p) else kas_descPart (Run lt (kas_asc p (n-1) 1)) n (kas_rev p 0 (Run lt (kas_asc p (n-1) 1))) else kas_descPart (Run lt (kas_asc p (n-1) 1)) n p):=by
  unfold kas_count;rw[Run.bind]
 rw[e];generalize h:Run lt (kas_asc p (n-1) 1)=r at f k A;by_cases o:(r==n)=af
 ·rw[bC o];exact⟨g,f,k,by show r<=n;omega⟩
 ·rw[bF o];have H:r≠n:=λz=>o (beq_iff_eq.mpr z);by_cases u:r>1
  ·rw[bC u];have D:Run lt (KasT.ask (p.getD 0 0) (p.getD (r-1) 0) λc=>if c=af then KasT.ret (r,p) else kas_descPart r n (kas_rev p 0 r))=Run lt (if lt (p.getD 0 0) (p.getD (r-1) 0)=af then KasT.ret (r,p) else kas_descPart r n (kas_rev p 0 r)):=rfl;rw[D,bC (f 0 (r-1) (Nat.sub_pos_of_lt u) QO)];exact⟨g,f,k,by show r<=n;omega⟩
  ·rw[bF u];have y:r=1:=(Nat.le_antisymm (Nat.le_of_not_lt u) k)
   subst y;have hd:lt (p.getD 1 0) (p.getD 0 0)=af:=by
    have:n-1=(n-2)+1:=QO
    rw[this] at h;have C:Run lt (kas_asc p (n-2+1) 1)=Run lt (if lt (p.getD 1 0) (p.getD (1-1) 0)=af then KasT.ret 1 else kas_asc p (n-2) (1+1)):=rfl;rw[C] at h;by_cases c:lt (p.getD 1 0) (p.getD (1-1) 0)=af;·exact c
    ·rw[bF c] at h;have E:lt (p.getD 1 0) (p.getD (1-1) 0)=bg:=by cases z:lt (p.getD 1 0) (p.getD (1-1) 0) with|true=>exact absurd z c|false=>rfl
     have F:=R6 L g (Yd _) (λi j s t=>QO) (L.DX _ _ (g.get _) (g.get _) (g.ne (Nat.lt_of_le_of_ne (Nat.succ_le_of_lt I) H) I (by decide)) E);refine c9 (B5 L g (n-2) 2 (by decide) QO F) λ_ b _=>?_;rw[show 1+1=2 from rfl] at h;omega
   have l:Ds lt p 2:=λi j s t=>by
    obtain rfl:j=1:=QO
    obtain rfl:i=0:=(Nat.le_antisymm (Nat.le_of_lt_succ s) (Nat.zero_le _))
    exact hd
   refine lr (QX L g (n-(1+1)) (1+1) (by decide) QO l) λq a b c d=>?_;have B:Run lt (kas_descPart 1 n p)=Run lt (kas_tail3 q n p):=by
    unfold kas_descPart;rw[Run.bind,a];dsimp only;rw[bF (by decide)]
   rw[B];obtain⟨x,w,G,v⟩:=Zey L g (m:=q) (Nat.le_of_succ_le c) QO b;exact⟨x,w,(Nat.le_of_succ_le (Nat.le_trans c G)),v⟩
theorem R8(L:lX n lt)(g:Good n p)(a:Sd lt p n):∀f m,1<=m->m+f<=n->Run lt (kas_asc p f m)=m+f
 |0,_,_,_=>rfl
 |f+1,m,c,b=>by
  have e:Run lt (kas_asc p (f+1) m)=Run lt (if lt (p.getD m 0) (p.getD (m-1) 0)=af then KasT.ret m else kas_asc p f (m+1)):=rfl;rw[e,bF (by rw[L.Zkz _ _ (g.get _) (g.get _) (a (m-1) m QO QO)];exact Yl),R8 L g a f (m+1) (Nat.le_succ_of_le c) QO];exact Nat.add_right_comm _ _ _
def ZeA(L:lX n lt)(g:Good n p)(a:Sd lt p n):Run lt (kas_count n p)=(n,p):=by
 have b:=g.1;unfold kas_count;rw[Run.bind,(R8 L g a (n-1) 1 (Yd _) QO),bC (beq_iff_eq.mpr (Nat.add_sub_of_le (Nat.succ_le_of_lt b)))];show(1+(n-1),p)=(n,p)
 grind
theorem Iy(L:lX n lt)(g:Good n p)(o:k<n)(b:Sd lt p k):∀f l r,l<=r->r<=k->r-l<=f->(∀i,i<l->lt (p.getD i 0) (p.getD k 0)=af)->(∀i,r<=i->i<k->lt (p.getD k 0) (p.getD i 0)=af)->
  Run lt (kas_place p k f l r)<=k/\(∀i,i<Run lt (kas_place p k f l r)->lt (p.getD i 0) (p.getD k 0)=af)/\∀i,Run lt (kas_place p k f l r)<=i->i<k->lt (p.getD k 0) (p.getD i 0)=af
 |0,l,r,x,u,w,h,d=>⟨by show l<=k;exact Nat.le_trans x u,h,λi (q:l<=i) a=>d i QO a⟩
 |f+1,l,r,x,u,w,h,d=>by
  rw[kas_place];by_cases c:l≥r
  ·rw[bC c];exact⟨by show l<=k;exact Nat.le_trans x u,h,λi (q:l<=i) a=>d i (Nat.le_trans c q) a⟩
  ·rw[bF c];have s:l<=(l+r)/2:=QO
   have v:(l+r)/2<r:=QO
   generalize(l+r)/2=m at s v;have y:Run lt (KasT.ask (p.getD k 0) (p.getD m 0) λc=>if c=af then kas_place p k f l m else kas_place p k f (m+1) r)=Run lt (if lt (p.getD k 0) (p.getD m 0)=af then kas_place p k f l m else kas_place p k f (m+1) r):=rfl;rw[y];by_cases j:lt (p.getD k 0) (p.getD m 0)=af
   ·rw[bC j];refine Iy L g o b f l m s (Nat.le_of_lt (Nat.lt_of_lt_of_le v u)) QO h λi q a=>?_;by_cases e:i=m;·rwa[e]
    ·exact L.trans _ _ _ (g.get _) (g.get _) (g.get _) j (b m i (Nat.lt_of_le_of_ne q (Ne.symm e)) a)
   ·rw[bF j];have A:lt (p.getD k 0) (p.getD m 0)=bg:=by cases z:lt (p.getD k 0) (p.getD m 0) with|true=>exact absurd z j|false=>rfl
    have t:=L.DX _ _ (g.get k) (g.get m) (g.ne o (Nat.lt_of_lt_of_le (Nat.lt_of_lt_of_le v u) (Nat.le_of_lt o)) (Nat.ne_of_gt (Nat.lt_of_lt_of_le v u))) A;refine Iy L g o b f (m+1) r (Nat.succ_le_of_lt v) u QO (λi q=>?_) d;by_cases e:i=m;·rwa[e]
    ·exact L.trans _ _ _ (g.get _) (g.get _) (g.get _) (b i m (Nat.lt_of_le_of_ne (Nat.le_of_lt_succ q) e) (Nat.lt_of_lt_of_le v u)) t
theorem R9(L:lX n lt):∀f (p:dq Nat) k,Good n p->k+f=n->Sd lt p k->Good n (Run lt (kas_bin f p k))/\Sd lt (Run lt (kas_bin f p k)) n
 |0,p,k,g,e,d=>by
  have A:k=n:=e
  refine⟨g,?_⟩;rw[←A];exact d
 |f+1,p,k,g,e,d=>by
  have v:k<n:=QO
  refine c9 (Iy L g v d k 0 k (Yx _) (Yd _) (Nat.le_refl _) (λi w=>absurd w (Wk _)) (λi D C=>QO)) λa b c=>?_;have y:Run lt (kas_bin (f+1) p k)=Run lt (kas_bin f (bubble p k (k-Run lt (kas_place p k k 0 k))) (k+1)):=by
   rw[kas_bin,Run.bind]
  rw[y];generalize Run lt (kas_place p k k 0 k)=l at a b c;have x:Good n (bubble p k (k-l)):=⟨g.1,(bubble_perm p k _).trans g.2⟩;have sz:=g.size;have get:∀i,(bubble p k (k-l)).getD i 0=if i=l then p.getD k 0 else if l<i/\i<=k then p.getD (i-1) 0 else p.getD i 0:=λi=>by
   have h:=getElem?_bubble (xs:=p) (src:=k) QO (k-l) (Nat.sub_le _ _) i;rw[show k-(k-l)=l by omega] at h;rw[Y8,h];by_cases z:i=l;·rw[bC z,bC z,←Y8]
   ·rw[bF z,bF z];by_cases m:l<i/\i<=k;·rw[bC m,bC m,←Y8]
    ·rw[bF m,bF m,←Y8]
  refine R9 L f _ (k+1) x QO λi j t B=>?_;rw[get i,get j];by_cases s:i=l
  ·rw[bC s,bF QO,bC QO];exact c (j-1) QO QO
  ·rw[bF s];by_cases r:l<i/\i<=k
   ·rw[bC r,bF QO,bC QO];exact d (i-1) (j-1) QO QO
   ·rw[bF r];have u:i<l:=QO
    by_cases q:j=l;·rw[bC q];exact b i u
    ·rw[bF q];by_cases o:l<j/\j<=k
     ·rw[bC o];exact d i (j-1) QO QO
     ·rw[bF o];exact d i j t QO
def ZfB(L:lX n lt)(h:0<n):Good n (Run lt (kas_sort n))/\Sd lt (Run lt (kas_sort n)) n:=by
 refine eJ (Zez L ⟨h,y9 _⟩) λa b c d=>?_;have e:Run lt (kas_sort n)=Run lt (if(Run lt (kas_count n (List.toArray (List.range n)))).1<n then kas_bin (n-max (Run lt (kas_count n (List.toArray (List.range n)))).1 1) (Run lt (kas_count n (List.toArray (List.range n)))).2 (max (Run lt (kas_count n (List.toArray (List.range n)))).1 1) else KasT.ret (Run lt (kas_count n (List.toArray (List.range n)))).2):=by
  unfold kas_sort;rw[Run.bind]
 rw[e];generalize Run lt (kas_count n (List.toArray (List.range n)))=r at a b c d;have f:max r.1 1=r.1:=QO
 by_cases z:r.1<n
 ·rw[bC z,f];exact R9 L _ _ _ a (Nat.add_sub_of_le d) b
 ·rw[bF z];have:r.1=n:=(Nat.le_antisymm d (Nat.le_of_not_lt z))
  refine⟨a,?_⟩;rw[this] at b;exact b
end
def kj(p q:Int×Int):Prop:=p.1<q.1\/(p.1=q.1/\p.2<q.2)
noncomputable def ltB(p q:Int×Int):cu:=if p.1=q.1 then decide (p.2<q.2) else decide (p.1<q.1)
def ltB_iff:ltB p q=af↔kj p q:=by
 unfold ltB kj
 grind
def lZ(a:O (Int×Int))(i j:Nat):cu:=ltB (a.getD i (0,0)) (a.getD j (0,0))
theorem ZiL(d:c.Nodup):lX c.length (lZ c):=by
 have n:∀{p q:Int×Int},ltB p q=bg->¬kj p q:=λ{p q} h z=>by rw[ltB_iff.mpr z] at h;cases h
 refine⟨λi j k _ _ _ m l=>?_,λi j g f ne h=>?_,λi j _ _ h=>?_⟩
 ·have a:=ltB_iff.mp m;have b:=ltB_iff.mp l;refine ltB_iff.mpr ?_;unfold kj at*;omega
 ·refine ltB_iff.mpr ?_;have a:=n h;have e:c.getD i (0,0)≠c.getD j (0,0):=by
   rw[Yk,Yk,Yb g,Yb f];have o:=W0.mp d
   grind
  have r:¬((c.getD i (0,0)).1=(c.getD j (0,0)).1/\(c.getD i (0,0)).2=(c.getD j (0,0)).2):=λz=>e (Prod.ext z.1 z.2);unfold kj at*;omega
 ·cases z:lZ c j i with
  |false=>rfl
  |true=>
   have a:=ltB_iff.mp h;have b:=ltB_iff.mp z;unfold kj at a b;omega
def uL(h:c8)(b:O a7)(c:O (Int×Int)):Prop:=Paired (λv (p:Int×Int)=>∃(a:U) (o:Obj) (n:Nat) (t u:Tok),v=.ref a/\h.get? a=Z o/\o.cls=.type "tuple"/\o.data=.seq #[.int p.1 t,.int p.2 u] n) b c
theorem uL.iZ(q:uL h vs b):Cp h vs:=by
 intro v a;induction q with
 |nil=>cases a
 |cons f _ c=>grind
def GH{c a:Type}{F:c->a->Prop}{d:O c}{g:O a}(h:Paired F d g){i:Nat}(j:i<d.length)(x:c)(y:a):F (d.getD i x) (g.getD i y):=by
 refine bo (gf h (Yb j)) λb e f=>?_
 simp_all
section
variable {prog:dC}{w:dg}{A:fb}{E:bw}{s:bN}
def ZfC(f:uL s.heap d e)(x:i<d.length)(v:j<d.length)(b:C (lZ e i j) s):kas_ask prog w A (tuples' af) d i j C s:=by
 unfold kas_ask;refine vl (GH f x Value.none (0,0)) λa o n t u B y I g=>?_;refine vl (GH f v Value.none (0,0)) λJ F H m l k r G h=>?_;unfold lZ at b;rw[B,k];generalize e.getD i (0,0)=p at b g;generalize e.getD j (0,0)=q at b h;refine kat_lt y g r h ?_;unfold ltB at b;refine kat_cons (vt p.1 t q.1 m prog w _ _ (kat_go (λc=>kat_yes (kat_cons (vt p.2 u q.2 l prog w _ _ (kat_go (λD=>kat_yes (kat_nil ?_)) λD=>kat_no ?_)))) λc=>kat_no ?_));·simp_all
 ·rw[bC (beq_iff_eq.mp c)] at b;exact kat_one _ _ (lt_int b)
 ·rw[bF (λz=>by rw[beq_iff_eq.mpr z] at c;cases c)] at b;exact kat_lt_int b
def ZiM
  (k:∀c:SortSt,arrOf c=(List.toArray (List.range 64)).map (kas_item it)->failedOf c=aJ->Q () c s)
  (h:(kas_count 64 (List.toArray (List.range 64))).kasWp (kas_cmp prog w A a it) (λr d=>r=(64,List.toArray (List.range 64))/\d=s) s):kasC (model prog w) A E sortRuns' Q (kas_st a it (List.toArray (List.range 64))) s:=by
 have g:(List.toArray (List.range 64)).size=64:=rfl;have b:(arrOf (kas_st a it (List.toArray (List.range 64)))).size=64:=(Qcp (f:=kas_item it)).trans g;have i:minRun' 64 64 0=32:=QK
 rw[sortRuns'_eq];refine kasC_bind (kasC_get ?_);(try dsimp only);simp only[b,i];refine kasC_bind (kasC_range ?_);show kasC _ _ _ (forIn (0::1::List.range' 2 62) _ _) _ _ _;refine kasC_cons ?_;(try dsimp only);rw[bF (show ¬(0:Nat)≥64 by decide)];simp only[Nat.sub_zero];refine kasC_bind (kas_count_ (show 1<=64 by decide) (DF g.symm) (λm l d _ _ _ j=>?_) h);obtain⟨e,rfl⟩:=j;cases e;(try dsimp only);rw[bF (show ¬(64:Nat)<32 by decide)];refine kasC_bind (kasC_get ?_);rw[show(pendingOf (kas_st a it (List.toArray (List.range 64)))).back?=aJ from rfl];(try dsimp only);refine kasC_bind (kasC_modify (kasC_pure ?_));show kasC _ _ _ (forIn (1::List.range' 2 62) _ _) _ _ _;refine kasC_cons ?_;(try dsimp only);rw[bC (show(0:Nat)+64≥64 by decide)];refine kasC_pure ?_;(try dsimp only);refine kasC_bind (kasC_range ?_);show kasC _ _ _ (forIn (0::1::List.range' 2 62) _ _) _ _ _;refine kasC_cons ?_;refine kasC_bind (kasC_get ?_);(try dsimp only);rw[bC (show(pendingOf (setPending (kas_st a it (List.toArray (List.range 64))) ((pendingOf (kas_st a it (List.toArray (List.range 64)))).push (0,64,0)))).size<=1 from Yd 1)];refine kasC_pure ?_;(try dsimp only);exact kasC_pure (k _ rfl rfl)
def Zbf{R:dq Nat->Prop}{a:U}{vs:O a7}{n:Nat}{P:PySem.Fin->bN->Prop}(l:s.heap.get? a=Z (seqObj "list" vs.toArray n))(i8:vs.length<=64)
  (J:2<=vs.length->∀f:c8,(∀b o,b≠a->s.heap.get? b=Z o->f.get? b=Z o)->∃t:SortKind,(∀(Q:SortKind->bN->Prop),Q t {s with heap:=f}->wpAny (model prog w) A (keyKind' vs.toArray) Q E {s with heap:=f})/\
   ∀D:SortSt->bN->Prop,(∀(p:dq Nat) (d:SortSt),p.size=vs.length->arrOf d=p.map (kas_item (vs.toArray.zip vs.toArray))->failedOf d=aJ->Good vs.length p->R p->D d {s with heap:=f})->wpAny (model prog w) A (sortRuns'.run (SortSt.mk' t (vs.toArray.zip vs.toArray) #[] 7 aJ)) (λr k=>D r.2 k) E {s with heap:=f})
  (h:∀out:O a7,out.Perm vs->(2<=vs.length->∃p:dq Nat,Good vs.length p/\R p/\out=p.toList.map λi=>vs.getD i Value.none)->P (.done (.ret .none)) {s with heap:=sortedHeap s.heap a vs out.toArray}):
  wpAny (model prog w) A (Builtin.«list.sort» ⟨[.ref a],[]⟩) P E s:=by
 rw[list_sort_plain];have y:a<s.heap.objs.size:=Yu l;refine bt (listItems_at l rfl ?_);refine bt (listUpdate_at l rfl ?_);obtain⟨j,x⟩:∃j,(s.heap.update a (Obj.mapSeq λ_=>#[])).get? a=Z (seqObj "list" #[] j):=⟨_,get?_update_seq l (λ_=>#[])⟩;refine bt (seqEpoch_at x rfl ?_);refine bt (wpAny_newTuple ?_);refine bt (vO ?_);refine kY ?_;have q:(((s.heap.update a (Obj.mapSeq λ_=>#[])).push (seqObj "tuple" vs.toArray 0)).push (seqObj "list" #[] 0)).get? a=Z (seqObj "list" #[] j):=by
  rw[Jw _ _ _ (by rw[size_push',X2];exact Yz (Wr y)),Jw _ _ _ (by rw[X2];exact Yz y)];exact x
 have keep:∀b o,b≠a->s.heap.get? b=Z o->(((s.heap.update a (Obj.mapSeq λ_=>#[])).push (seqObj "tuple" vs.toArray 0)).push (seqObj "list" #[] 0)).get? b=Z o:=λb o G e=>
  Yc _ (Yc _ (by rw[XE _ _ _ _ G];exact e))
 dsimp only;have I:vs.toArray.size=vs.length:=QS
 by_cases m:vs.toArray.size<2
 ·rw[bC m,bC m];refine bt (cv ?_);rw[StateT.run_pure];refine bt (cv ?_);dsimp only;refine bt (seqEpoch_at q rfl ?_);refine bt (listUpdate_at q rfl ?_ (hsz2:=by rw[Qcp];show(pairsOf vs).size<=_;rw[pairsOf_size,d6];exact Nat.le_trans i8 (by decide)));simp only[yj,VQ,AD];have e:(arrOf (SortSt.mk' general' (vs.toArray.zip vs.toArray) #[] 7 aJ)).map (·.2)=vs.toArray:=by
   grind
  have:=h vs (tL _) (λz=>QO);rw[←e] at this;exact cv this
 ·rw[bF m,bF m];have F:2<=vs.length:=(Nat.le_of_not_lt m)
  refine bo (J F _ keep) λt H v=>?_;refine bt (H _ ?_);refine bt (eH (v (λd k=>k={s with heap:=((s.heap.update a (Obj.mapSeq λ_=>#[])).push (seqObj "tuple" vs.toArray 0)).push (seqObj "list" #[] 0)}/\∃p:dq Nat,p.size=vs.length/\arrOf d=p.map (kas_item (vs.toArray.zip vs.toArray))/\failedOf d=aJ/\R p/\Good vs.length p) λp d a1 a2 X W T=>⟨rfl,p,a1,a2,X,T,W⟩) ?_ λ_ _ e=>e);rintro⟨⟨⟩,d⟩ k ⟨rfl,p,hp,u,L,N,g⟩;dsimp only;have C:=kat_snds rfl u;have c:(p.toList.map λi=>vs.getD i Value.none).Perm vs:=by
   have j:p.toList.Perm (List.range vs.length):=by
    have:=J0.mp g.2;simpa using this
   have B:=j.map λi=>vs.getD i Value.none;rw[range_getD] at B;exact B
  refine bt (seqEpoch_at q rfl ?_);refine bt (listUpdate_at q rfl ?_ (hsz2:=by rw[C,Yq,c.length_eq,d6];exact Nat.le_trans i8 (by decide)));rw[L];simp[yj,VQ,AD];have:=h _ c (λ_=>⟨p,g,N,rfl⟩);rw[←C] at this;exact cv this
def ZfD(h:a.Pairwise kj):Sd (lZ a) (List.toArray (List.range a.length)) a.length:=λi j c b=>by
 have e:∀k,k<a.length->(List.toArray (List.range a.length)).getD k 0=k:=λk d=>by
  simp_all
 rw[e i (Nat.lt_trans c b),e j b];refine ltB_iff.mpr ?_;rw[Yk,Yk,Yb (Nat.lt_trans c b),Yb b];exact W0.mp h i j (Nat.lt_trans c b) b c
def ZjN{m:SortSt->bN->Prop}(x:c.length=64)(u:c.length=f.length)(L:lX c.length (lZ f))(t:f.Pairwise kj)(g:∀i j (C:cu->bN->Prop),i<c.length->j<c.length->C (lZ f i j) s->kas_ask prog w A h c i j C s)
  (v:∀(p:dq Nat) (d:SortSt),p.size=c.length->arrOf d=p.map (kas_item (c.toArray.zip c.toArray))->failedOf d=aJ->Good c.length p->Sd (lZ f) p c.length->m d s):wpAny (model prog w) A (sortRuns'.run (SortSt.mk' h (c.toArray.zip c.toArray) #[] 7 aJ)) (λr e=>m r.2 e) E s:=by
 have l:Good c.length (List.toArray (List.range c.length)):=⟨QO,y9 _⟩;have q:Sd (lZ f) (List.toArray (List.range c.length)) c.length:=by rw[u];exact ZfD t
 rw[kat_ask_eq rfl] at g;have k:(c.toArray.zip c.toArray).size=c.length:=QS
 have y:SortSt.mk' h (c.toArray.zip c.toArray) #[] 7 aJ=kas_st h (c.toArray.zip c.toArray) (List.toArray (List.range c.length)):=by
  unfold kas_st;rw[←k,kas_range]
 rw[y];have n:=fK.run (G:=λr e=>r=(c.length,List.toArray (List.range c.length))/\e=s) g (Pn l) ⟨(ZeA L l q),rfl⟩;have o:=λd a b=>v _ d QS a b l q;rw[x] at n o⊢;exact ZiM (Q:=λ_ d e=>m d e) o n
def ZbM(ho:s.heap.get? l=Z o)(hc:o.cls=.type "list")(hd:o.data=.seq ai.toArray n)(J:uL s.heap ai ps)(nd:ps.Nodup)(i8:ai.length<64\/(ai.length=64/\ps.Pairwise kj))(q:ai.toArray.size<=sizeLine)
  (h:∀(d c:c8) (out:O a7) (e:Nat),(∀b o,s.heap.get? b=Z o->d.get? b=Z o)->(∀b o,d.get? b=Z o->c.get? b=Z o)->c.get? d.objs.size=Z (seqObj "list" out.toArray e)->out.Perm ai->(2<=ai.length->∃p:dq Nat,Good ai.length p/\Sd (lZ ps) p ai.length/\out=p.toList.map λi=>ai.getD i Value.none)->Q (.ref d.objs.size) {s with heap:=c}):
  wpAny (model prog w) A (call (.builtin "sorted") [.ref l]) Q E s:=by
 refine xA kind_sorted plain_sorted entry_sorted (args_sorted1 _) ?_;unfold Builtin.«sorted»;refine bt (m:=checkCount "sorted" 1 1 _) (cv ?_);refine bt (V1 l (.inl rfl) ho hc hd (λd F=>?_) q);refine bt (vO ?_);have e1:ai.toArray.toList=ai:=QS
 rw[e1];have f:(d.push (seqObj "list" ai.toArray 0)).get? d.objs.size=Z (seqObj "list" ai.toArray 0):=Ys _ rfl;refine bt (kY (rz slot_list_sort ⟨_,f,rfl⟩ entry_list_sort (Zbf (R:=λp=>Sd (lZ ps) p ai.length) f QO (λh2 c k=>?_) λout pm eo=>⟨_,rfl,?_⟩) (args_list_sort _)))
 ·have y:uL c ai ps:=_L.Paired.bH J λv p ⟨a,o,n,t,u,e,W,P,N⟩=>by
   have I:=F _ _ W;exact⟨a,o,n,t,u,e,k _ _ (Yz (Yu I)) (Yc _ I),P,N⟩
  refine cm y.iZ.XR λfs k1 k2 k3=>?_;have D:=c7 y;have ask:∀(B:fb) i j (C:cu->bN->Prop),i<ai.length->j<ai.length->C (lZ ps i j) {s with heap:=c}->kas_ask prog w B (tuples' af) ai i j C {s with heap:=c}:=λB i j C hi hj hC=>ZfC (s:={s with heap:=c}) y hi hj hC;have L:=ZiL nd;rw[←D] at L;refine⟨tuples' af,λQ hQ=>?_,λQ' M6=>?_⟩
  rotate_left
  ·rcases i8 with lt|⟨M5,X⟩
   ·refine gb (ZfB L (Nat.lt_of_lt_of_le (Nat.succ_pos _) h2)) λg sd=>?_;refine kat_run (G:=λp z=>z={s with heap:=c}/\p=Run (lZ ps) (kas_sort ai.length)) rfl h2 lt (λp aV z a1 a2 a3 a4=>?_) (fK.run (ask _) (Zex (Nat.lt_of_lt_of_le (Nat.succ_pos _) h2)) ⟨rfl,rfl⟩)
    grind
   ·exact ZjN M5 D L X (ask _) M6
  refine kat_kind (T:=.type "int") k1 QO (λv hv=>?_) QD hQ;refine vi (k3 v hv) λx t gU=>?_;subst gU;exact .now
 ·obtain⟨e,he⟩:=sortedHeap_at f;exact cv ⟨_,rfl,h d _ out e F (λb ob H=>by
   have r:=Yu H;rw[sortedHeap_old (Yz r) (by rw[size_push'];exact Wr r),Jw _ _ _ (Yz r)];exact H) he pm eo⟩
end
def ZfE(K:ah):O V->Hp->VK->Prop:=λe H Q=>∃(p:U) (b:O U) (prs:O (Int×Int)),e=[.ref p]/\aq K H p (b.map V.ref)/\Paired (λa (p:Int×Int)=>H a=Z (.tup [.int p.1,.int p.2])) b prs/\prs.Nodup/\(b.length<64\/(b.length=64/\prs.Pairwise kj))/\
 ∀(d:O U) (c:O (Int×Int)),Paired (λa (p:Int×Int)=>H a=Z (.tup [.int p.1,.int p.2])) d c->c.Perm prs->c.Pairwise kj->Nw H (.lst (d.map V.ref)) Q
theorem OZ:∀{a:O c},(∀z∈a,F (f z) (g z))->Paired F (a.map f) (a.map g)
 |[],_=>.nil
 |z::a,h=>.cons (h z Yo) (OZ λz b=>h z (Yw _ b))
theorem ZfF{K:ah}(hK:X.K=K):dz X (.builtin "sorted") (ZfE K):=by
 subst hK;intro l s L H xs us Q I r h;refine nR h λp b prs hI hq v nd i8 q=>?_;subst hI;obtain⟨u,rfl,R⟩:=vals1 r;cases R;obtain⟨ai,W,pl,D⟩:=I.list hq;obtain⟨o,n,ho,hc,_,hd⟩:=pl;have ei:=Iw W;subst ei;rw[Ya] at D;have t:=c7 v;have N:uL s.heap (b.map Value.ref) prs:=by
  have x:∀{b:O U} {prs:O (Int×Int)},Paired (λa (p:Int×Int)=>H a=Z (.tup [.int p.1,.int p.2])) b prs->uL s.heap (b.map Value.ref) prs:=λ{b prs} h=>by
   induction h with
   |nil=>exact .nil
   |cons w _ ih=>
    refine .cons ?_ ih;obtain⟨fU,T,⟨o2,g1,g2,n2,g3⟩,_⟩:=I.tuple (az.of w);obtain⟨u1,u2,rfl,⟨t1,rfl⟩,⟨t2,rfl⟩⟩:=vals2 T
    grind
  exact x v
 refine ZbM (ps:=prs) ho hc hd N nd (by rwa[Ya]) (by rw[Yq,Ya];exact D) λw h' out e kp As he k f=>?_;have J:Inv X l L H {s with heap:=w}:=I.kept (t':=s.toks) kp;obtain⟨d,m,y,C,B,pw⟩:∃(d:O U) (m:O (Int×Int)),out=d.map Value.ref/\Paired (λa (p:Int×Int)=>H a=Z (.tup [.int p.1,.int p.2])) d m/\m.Perm prs/\m.Pairwise kj:=by
  by_cases z:2<=(b.map Value.ref).length
  ·have f:=f z;rw[Ya] at f z;obtain⟨P,g,A,f⟩:=f;rw[t] at g A;have G:P.toList.Perm (List.range prs.length):=by
    have:=J0.mp g.2;simpa using this
   have F:∀i∈P.toList,i<prs.length:=λi c=>Wg.mp (G.subset c);refine⟨P.toList.map λi=>b.getD i 0,P.toList.map λi=>prs.getD i (0,0),?_,OZ λi c=>GH v (by exact t▸F i c) 0 (0,0),?_,?_⟩
   ·rw[f,Y6];refine Jb λi c=>?_;have:=F i c;show(b.map Value.ref).getD i Value.none=Value.ref (b.getD i 0);rw[Yk,Ye,Yb QO,Yk,Yb QO];rfl
   ·have:=G.map λi=>prs.getD i (0,0);rw[range_getD] at this;exact this
   ·rw[Ws,W0];intro i j c E lY;have sz:=g.size;have gi:P.toList[i]=P.getD i 0:=by
     rw[Wp] at c;simp_all
    have gj:P.toList[j]=P.getD j 0:=by
     rw[Wp] at E;simp_all
    rw[gi,gj];rw[Wp] at E;exact ltB_iff.mp (A i j lY QO)
  ·rw[Ya] at z;have eq:out=b.map Value.ref:=by
    match b,out,z,k with
    |[],out,_,k=>exact List.Perm.eq_nil k
    |[a],out,_,k=>exact List.Perm.eq_singleton k
    |_::_::_,_,z,_=>exact absurd QS z
   refine⟨b,prs,eq,v,tL _,?_⟩;match prs,t with
   |[],_=>exact .nil
   |[a],_=>exact List.pairwise_singleton _ _
   |_::_::_,t=>exact absurd t (by simp;omega)
 refine⟨.ref w.objs.size,_,J.laid (o:=.lst (d.map V.ref)) As (Yd _) ⟨?_,out,e,by rw[y];exact Qa d,by simpa[seqObj] using he⟩,rfl,(q d m C B pw).at _ (J.aw.fresh (Yd _))⟩;rw[Ya,c7 C,B.length_eq];exact Jn (lE QO)
end _L
namespace _L
open PySem PySem.Spec PyProof.Rows
def nW{K:ah}(h:X.K=K)(p:PE X ex (Am X.K T r to t)):PE X ex (Am K T r to t):=h▸p
def Kg{K:ah}(h:X.K=K)(p:PE X ex (LQ X.K T r to)):PE X ex (LQ K T r to):=h▸p
def BC{X:Cx}{K:ah}{a:cH}{d:TE}(h:X.K=K)(p:PT X a (λc H Q=>d c H λx b=>∃k,CT X.K x b k/\Q k b)):PT X a (λc H Q=>d c H λx b=>∃k,CT K x b k/\Q k b):=h▸p
def Kh{K:ah}(h:X.K=K)(p:cV X f (C2 X.K b)):cV X f (C2 K b):=h▸p
def qG(a:Hp)(d:U):Prop:=(∀b,a d≠Z (.tup b))/\(∀o u,a d≠Z (.cU o u))/\∀c,a d≠Z (.sJ c)
def Inv.UZ(I:Inv X pins σ H s)(e:H d=Z (.dK c)):qG X.mY d:=
 ⟨(λa z=>by have:=I.base.iZ d a z;rw[e] at this;cases this),(λo u z=>by have:=I.base.jr d o u z;rw[e] at this;cases this),(λb z=>by obtain⟨m,h⟩:=I.base.jM d b z;rw[e] at h;cases h)⟩
def Inv.swap(I:Inv X pins σ H s)(e:H d=Z o)(i:qG X.mY d)(y:∀a,o≠.own a)(w:∀f,o≠.tup f)(C:cX X.prog X.w H s.heap d o'):Inv X pins σ (upd H d o') s:=by
 have jq:∀{a:U} {o1:HO},cX X.prog X.w H s.heap a o1->cX X.prog X.w (upd H d o') s.heap a o1:=λ{a o1} x=>x.jq (λ_ _ _ z=>z)
  (λb z=>by rw[aS (λq=>y a (Yp (e.symm.trans (by rw[←q];exact z))))];exact z)
  (λb f z=>by rw[aS (λq=>w f (Yp (e.symm.trans (by rwa[←q]))))];exact z)
 have ne:∀{b:U},H b=aJ->b≠d:=λ{b} l z=>by rw[z,e] at l;cases l
 refine⟨I.ok,I.os,I.bare,⟨I.base.keep,I.base.slot,λb g q n A=>?_,I.base.there,λb f q=>?_,λb g u q=>?_,λb k q=>?_⟩,I.loc,I.cell,?_,λx c m=>?_,λp B=>?_,λa o1 j=>?_,I.len⟩
 ·have h:=I.base.free b g q n A;rwa[aS (ne h)]
 ·rw[aS (λz=>i.1 f (by rwa[←z]))];exact I.base.iZ b f q
 ·rw[aS (λz=>i.2.1 g u (by rwa[←z]))];exact I.base.jr b g u q
 ·rw[aS (λz=>i.2.2 k (by rwa[←z]))];exact I.base.jM b k q
 ·rw[aS (ne I.free)];exact I.free
 ·rw[aS (ne (I.jo x c m))];exact I.jo x c m
 ·refine c9 (I.pin p B) λv t r=>?_;exact⟨v,by rwa[aS (ne t)],r⟩
 ·by_cases z:a=d
  ·subst z;rw[a9] at j
   grind
  ·rw[aS z] at j;exact jq (I.aw a o1 j)
def ZjO(h:(dJ P w).is k u=af):RelV (kV k) u:=by
 rcases nG h with⟨i,t,rfl,rfl⟩|⟨x,t,rfl,rfl⟩;·exact⟨t,rfl⟩
 ·exact⟨t,rfl⟩
def TH:∀{a:O (Key×V)} {b:O (Key×a7)} {i:Nat} {k:Key} {y:V},KV a b->a[i]?=Z (k,y)->∃v,b[i]?=Z (k,v)/\RelV y v:=λ{a b i k y} r h=>by
 obtain⟨q,e,d,c⟩:=gf r h
 grind
def Cq(I:Inv X pins σ H s)(e:H d=Z (.cU f (.dK c)))(h:f.data=.dict m ep):∃a,KV c a/\s.heap.DictAt (dJ X.prog X.w) d a ep:=by
 obtain⟨g,_,_,a,b,o,n,p,j,l,i,k⟩:=(I.aw d _ e);rw[g] at j;cases j;rw[h] at i;cases i;exact⟨a,b,f,m,g,l,h,k⟩
def Inv.C3(I:Inv X pins σ H s)(c:qG X.mY d)(e:H d=Z (.cU g (.dK b))):Inv X pins σ (upd H d (.dK b)) s:=
 I.swap e c (λa z=>by cases z) (λf z=>by cases z) (I.aw d _ e).2
noncomputable def M8(d:U)(b:Obj)(a:O (Key×V)):It:=⟨λi H=>H d=Z (.cU b (.dK a))/\i<a.length,λi H v c=>c=H/\∃k y,a[i]?=Z (k,y)/\v=kV k,λi H=>H d=Z (.cU b (.dK a))/\a.length<=i⟩
theorem ZeB{P:dC}{w:dg}{K:ah}{tg:cH}(it d:U)(G:Obj)(es:dq DictEntry)(T:Nat)(J:G.data=.dict es T)(a:O (Key×V)):Turn P w K tg (M8 d G a) [it] it (λi h=>h.IsKeyIter it d i a.length T) where
 mem:=QS
 obj:=λi h st b q=>by
  have e:b=it:=by simpa using q
  refine cm st λo e c W=>?_
  grind
 keep:=λi h R st k=>let⟨o,e,r⟩:=st;⟨o,k it QS o e,r⟩
 item:=by
  intro X t n u N i g s σ H E I l st p;subst t n u;refine ie (l it QS) λD C f2 B z x=>?_;refine gb p λm bZ=>?_;obtain⟨vs,f,F⟩:=Cq I m J;have j:=f.length;obtain⟨k,y,L⟩:∃k y,a[i]?=Z (k,y):=⟨a[i].1,a[i].2,Yb bZ⟩;obtain⟨v,hv,ry⟩:=TH f L;rw[j] at st;refine wpAny_pyNext_dict_item st F hv λkey R ph aV sb=>?_;obtain⟨o,e,c,W⟩:=id aV;exact⟨_,rfl,uG e c W QD ⟨kV k,H,(I.turned (sb.extBut) D C B z x),ZjO ph,⟨rfl,k,y,L,rfl⟩,by rw[j];exact aV,λb q=>(l b q).1⟩⟩
 done:=by
  intro X t n u N i g s σ H E I l st p;subst t n u;refine ie (l it QS) λD C f2 B z x=>?_;refine gb p λm hle=>?_;obtain⟨vs,f,F⟩:=Cq I m J;have j:=f.length;rw[j] at st;exact wpAny_pyNext_dict_end (I.ok.hd N) st F (Y4 QO) λR eb=>⟨rfl,I.turned (eb) D C B z x⟩
 self:=λA i s Q E st h=>wpAny_pyIter_keyiter st h
def Lu(g:Hp)(f:TE):TI:=λe H R=>f e H λx c=>∃d a,x=.ref d/\c d=Z (.dK a)/\∀b,qG g d->R (M8 d b a) (upd c d (.cU b (.dK a)))
def Zg1(J:X.mY=H0)(F:PE X l C):PI X tg l (Lu H0 C):=by
 subst J;intro c s n H R I h;refine aC (F c s n H _ I h) λv g y=>?_;obtain⟨x,P,j,D,d,f,L,hd,q⟩:=y;subst L;obtain rfl:v=Value.ref d:=D;obtain⟨T,Q,B,k,N⟩:=o_ j.aw hd;refine lV (id N) λi t u m E r A=>?_;have p:=j.UZ hd;refine wpAny_pyIter_dict Q ⟨i,t,m,E,r,A⟩ ?_;have w:Inv X c n P {g with heap:=g.heap.push {cls:=.type "dict_keyiterator",data:=.fields #[.ref d,.int 0 0,.int B.length 0,.int u 0]},toks:=g.toks}:=j.kept λb o e=>Yc _ e;refine⟨g.heap.objs.size,[g.heap.objs.size],_,M8 d i f,_,rfl,(w.swap (o':=.cU i (.dK f)) hd p (λa z=>by cases z) (λW z=>by cases z) ⟨Yc _ m,(w.aw d _ hd)⟩),ZeB _ d i t u r f,⟨_,Ys _ rfl,rfl,by rw[k.length];rfl⟩,λb G=>?_,q i p⟩;have e:b=g.heap.objs.size:=by simpa using G
 subst e;exact j.sy (Yd _) (by rw[aS (Jo (Yu m))];exact j.aw.fresh (Yd _))
def U0(e:Hp)(h:TE)(g:TG)(i:TS):TS:=λD f H=>LL (Lu e h) g i ⟨λj b=>∃d c a,qG e d/\b d=Z (.cU c (.dK a))/\D.nx j (upd b d (.dK a)),λv b=>∃d c a,qG e d/\b d=Z (.cU c (.dK a))/\D.rt v (upd b d (.dK a)),λ_ _=>False,λ_ _=>False⟩ f H
theorem Zdl(C:X.mY=H0)(w:PassesOwn X.md X.A X.env X.xe)(A:X.calm=af)(y:PI X k l (Lu H0 n))(z:PG X k g)(B:gO X body o)(t:∀x,foldedSetIterable l X.env x=pure x:=by intro _;rfl):PS X (.For k l body [] pos) (U0 H0 n g o):=by
 subst C;intro a s m H D I h;refine aC (fS w A y z B t a s m H _ I h) λf F q=>?_;cases f with
 |next=>obtain⟨i,E,j,d,p,c,b,e,q⟩:=q;exact⟨i,_,j.C3 b e,q⟩
 |brk=>obtain⟨_,_,_,q⟩:=q;exact False.elim q
 |cont=>obtain⟨_,_,_,q⟩:=q;exact False.elim q
 |ret u=>obtain⟨v,i,E,j,r,d,p,c,b,e,q⟩:=q;exact⟨v,i,_,j.C3 b e,r,q⟩
def ZfG(E:∀R:VK,R (.ref d) H1->r σ H R)(B:H1 d=Z (.dK kvs))(n:Nat->St->Hp->Prop)
  (v:∀b,n 0 σ (upd H1 d (.cU b (.dK kvs))))
  (z:∀b i k y j h (N:St->Hp->Prop) (t:VK) (bk:St->Hp->Prop),kvs[i]?=Z (k,y)->n i j h->h d=Z (.cU b (.dK kvs))->(∀l f,n (i+1) l f->f d=Z (.cU b (.dK kvs))->N l f)->g (kV k) j h λF J=>s ⟨N,t,bk,N⟩ F J)
  (G:∀b j h,n kvs.length j h->h d=Z (.cU b (.dK kvs))->D.nx j (upd h d (.dK kvs))):U0 P r g s D σ H:=by
 refine E _ ⟨d,kvs,rfl,B,λb w=>⟨λi m j h=>m=kvs.length-i/\i<=kvs.length/\n i j h/\h d=Z (.cU b (.dK kvs)),⟨kvs.length,(Nat.add_zero _),Yx _,v b,a9⟩,?_⟩⟩;intro i m j h T;refine eJ T λQ L p o=>?_;subst Q;by_cases q:i<kvs.length
 ·refine .inr ⟨⟨o,q⟩,λl f=>n (i+1) l f/\f d=Z (.cU b (.dK kvs)),λl f ⟨a,c⟩=>⟨kvs.length-(i+1),QO,rfl,q,a,c⟩,?_⟩;rintro x I ⟨rfl,k,y,A,rfl⟩;exact z b i k y j I (λl f=>n (i+1) l f/\f d=Z (.cU b (.dK kvs))) _ _ A p o λl f u C=>⟨u,C⟩
 ·have e:i=kvs.length:=(Nat.le_antisymm L (Nat.le_of_not_lt q))
  subst e;exact .inl ⟨⟨o,Yd _⟩,d,b,kvs,w,o,G b _ _ p o⟩
theorem Zg2(r:KT H a xs):xs.map (·.1)=a.map (·.1):=by
 induction r with
 |nil=>rfl
 |cons f _ b=>simp_all
def R_:bootBuiltins "dict"=Z (.type "dict"):=QK
noncomputable def M9(d:U)(b:Obj)(a:O (Key×V)):It:=⟨λi H=>H d=Z (.cU b (.dK a))/\i<a.length,λi H v c=>c=H/\∃k,a[i]?=Z (k,v),λi H=>H d=Z (.cU b (.dK a))/\a.length<=i⟩
theorem ZeC{P:dC}{w:dg}{K:ah}{tg:cH}(it d:U)(G:Obj)(es:dq DictEntry)(T:Nat)(J:G.data=.dict es T)(a:O (Key×V)):Turn P w K tg (M9 d G a) [it] it (λi h=>h.IsValIter it d i a.length T) where
 mem:=QS
 obj:=λi h st b q=>by
  have e:b=it:=by simpa using q
  refine cm st λo e c W=>?_
  grind
 keep:=λi h R st k=>let⟨o,e,r⟩:=st;⟨o,k it QS o e,r⟩
 item:=by
  intro X t n u N i g s σ H E I l st p;subst t n u;refine ie (l it QS) λD C f2 B z x=>?_;obtain⟨m,bZ⟩:=p;obtain⟨vs,f,F⟩:=Cq I m J;have j:=f.length;obtain⟨k,y,L⟩:∃k y,a[i]?=Z (k,y):=⟨a[i].1,a[i].2,Yb bZ⟩;obtain⟨v,hv,ry⟩:=TH f L;rw[j] at st;refine wpAny_pyNext_values_item st F hv λR aV sb=>?_;obtain⟨o,e,c,W⟩:=id aV;exact⟨_,rfl,uG e c W QD ⟨y,H,(I.turned (sb.extBut) D C B z x),ry,⟨rfl,k,L⟩,by rw[j];exact aV,λb q=>(l b q).1⟩⟩
 done:=by
  intro X t n u N i g s σ H E I l st p;subst t n u;refine ie (l it QS) λD C f2 B z x=>?_;obtain⟨m,hle⟩:=p;obtain⟨vs,f,F⟩:=Cq I m J;have j:=f.length;rw[j] at st;exact wpAny_pyNext_values_end (I.ok.hd N) st F (Y4 QO) λR eb=>⟨rfl,I.turned (eb) D C B z x⟩
 self:=λA i s Q E st h=>wpAny_pyIter_valiter st h
def Lv(g:Hp)(f:TE):TI:=λe H R=>f e H λx c=>∃d a,x=.ref d/\c d=Z (.dK a)/\∀b,qG g d->R (M9 d b a) (upd c d (.cU b (.dK a)))
def Zg3{X:Cx}{H0:Hp}{T:cH}{g F:Pos}{o:cH}{B:TE}(h0:X.mY=H0)(ho:PE X o B)(Q:attributeBase o "values" X.env (eval o X.env)=eval o X.env:=by rfl)(P:(g.endLine==F.line)=af:=by rfl):PI X T (.Call (.Attribute o "values" g) [] [] F) (Lv H0 B):=by
 subst h0;intro f s y H R I h;refine Ep Q P (aC (ho f s y H _ I h) λv i L=>?_);obtain⟨x,H1,j,r1,d,c,ex,hd,q⟩:=L;subst ex;obtain rfl:v=Value.ref d:=r1;refine c9 (zB j (.inl ⟨c,.inl hd⟩)) λt1 W AA=>?_;refine⟨"dict","dict.values",tr,DJ,PySem.F.type_dict_values,t1,W,nV rfl (NO ?_)⟩;obtain⟨zz,_,A,m,u⟩:=o_ j.aw hd;refine oa DJ u.typeIs PySem.F.entry_dict_values (PySem.F.args_dict_values_1 _) (meets_dict_values (dJ X.prog X.w) d AA) ⟨⟨A,u⟩,?_⟩;refine lV (id u) λk E r n hx D N=>?_;have C:=j.UZ hd;have l:∀b o,i.heap.get? b=Z o->(i.heap.push {cls:=.type "dict_values",data:=.fields #[.ref d]}).get? b=Z o:=λb o e=>Yc _ e;refine wpAny_pyIter_values (knd:=dJ X.prog X.w) (d:=d) (ep:=r) ⟨_,Ys _ rfl,rfl,rfl⟩ ⟨k,E,l _ _ n,hx,D,N⟩ ?_;generalize hG:i.heap.push {cls:=.type "dict_values",data:=.fields #[.ref d]}=G at l⊢;have J:Inv X f y H1 {i with heap:=G.push {cls:=.type "dict_valueiterator",data:=.fields #[.ref d,.int 0 0,.int A.length 0,.int r 0]},toks:=i.toks}:=j.kept (t':=i.toks) λb o e=>Yc _ (l b o e);have p:=J.aw d _ hd;have I3:=J.swap (o':=.cU k (.dK c)) hd C (λa z=>by cases z) (λxs z=>by cases z) ⟨Yc _ (l _ _ n),p⟩;have w:i.heap.objs.size<=G.objs.size:=by rw[←hG,J3];exact Nat.le_add_right _ _
 refine⟨G.objs.size,[G.objs.size],_,M9 d k c,_,rfl,I3,ZeC _ d k E r D c,⟨_,Ys _ rfl,rfl,by rw[m.length];rfl⟩,λb hb=>?_,q k C⟩;have e:b=G.objs.size:=by simpa using hb
 subst e;have t:=Yu n;exact j.sy w (by rw[aS (Jo (Y3 t w))];exact j.aw.fresh w)
def U1(e:Hp)(h:TE)(g:TG)(i:TS):TS:=λD f H=>LL (Lv e h) g i ⟨λj b=>∃d c a,qG e d/\b d=Z (.cU c (.dK a))/\D.nx j (upd b d (.dK a)),λv b=>∃d c a,qG e d/\b d=Z (.cU c (.dK a))/\D.rt v (upd b d (.dK a)),λ_ _=>False,λ_ _=>False⟩ f H
theorem Zdm(A:X.mY=H0)(t:PassesOwn X.md X.A X.env X.xe)(y:X.calm=af)(w:PI X k (.Call (.Attribute o "values" apos) [] [] B) (Lv H0 m))(x:PG X k g)(z:gO X body n):
  PS X (.For k (.Call (.Attribute o "values" apos) [] [] B) body [] pos) (U1 H0 m g n):=by
 subst A;intro a s l H D I h;refine aC (fS t y w x z (λ_=>rfl) a s l H _ I h) λf E q=>?_;cases f with
 |next=>obtain⟨i,C,j,d,p,c,b,e,q⟩:=q;exact⟨i,_,j.C3 b e,q⟩
 |brk=>obtain⟨_,_,_,q⟩:=q;exact False.elim q
 |cont=>obtain⟨_,_,_,q⟩:=q;exact False.elim q
 |ret u=>obtain⟨v,i,C,j,r,d,p,c,b,e,q⟩:=q;exact⟨v,i,_,j.C3 b e,r,q⟩
def ZfH(E:∀R:VK,R (.ref d) H1->r σ H R)(B:H1 d=Z (.dK kvs))(n:Nat->St->Hp->Prop)
  (v:∀b,n 0 σ (upd H1 d (.cU b (.dK kvs))))
  (z:∀b i k y j h (N:St->Hp->Prop) (t:VK) (bk:St->Hp->Prop),kvs[i]?=Z (k,y)->n i j h->h d=Z (.cU b (.dK kvs))->(∀l f,n (i+1) l f->f d=Z (.cU b (.dK kvs))->N l f)->g y j h λF J=>s ⟨N,t,bk,N⟩ F J)
  (G:∀b j h,n kvs.length j h->h d=Z (.cU b (.dK kvs))->D.nx j (upd h d (.dK kvs))):U1 P r g s D σ H:=by
 refine E _ ⟨d,kvs,rfl,B,λb w=>⟨λi m j h=>m=kvs.length-i/\i<=kvs.length/\n i j h/\h d=Z (.cU b (.dK kvs)),⟨kvs.length,(Nat.add_zero _),Yx _,v b,a9⟩,?_⟩⟩;intro i m j h T;refine eJ T λQ L p o=>?_;subst Q;by_cases q:i<kvs.length
 ·refine .inr ⟨⟨o,q⟩,λl f=>n (i+1) l f/\f d=Z (.cU b (.dK kvs)),λl f ⟨a,c⟩=>⟨kvs.length-(i+1),QO,rfl,q,a,c⟩,?_⟩;rintro x I ⟨rfl,k,A⟩;exact z b i k x j I (λl f=>n (i+1) l f/\f d=Z (.cU b (.dK kvs))) _ _ A p o λl f u C=>⟨u,C⟩
 ·have e:i=kvs.length:=(Nat.le_antisymm L (Nat.le_of_not_lt q))
  subst e;exact .inl ⟨⟨o,Yd _⟩,d,b,kvs,w,o,G b _ _ p o⟩
section
variable {W ty:TE}
def ZiN(W ty:TE):TS:=λD c H=>W c H λx e=>ty c e λy d=>∃a b k,x=.ref a/\d a=Z (.dK b)/\y=kV k/\(aY b k).isSome=af/\Ch d a (.dK (iX b k)) (D.nx c)
def ZfI(q:PE X o W)(r:PE X i ty):PS X (.Delete [.Subscript o i J] pos) (ZiN W ty):=by
 intro b s c H D I h;refine wpAny_Delete (L3 (J5 (aC (q b s c H _ I h) λu f d=>?_)));obtain⟨x,B,A,j,n⟩:=d;refine aC (r b f c B _ A n) λF E d=>?_;obtain⟨y,G,z,g,a,p,k,v,e,t,l,m⟩:=d;subst v t;obtain rfl:u=Value.ref a:=j;exact Zeo z e g l λC w=>M_ ⟨c,_,w,m.at⟩
theorem QY[DecidableEq α]:∀{a:O (α×β)} {j:Nat} {k:α} {p:β},(a.map (·.1)).Nodup->a[j]?=Z (k,p)->a.eraseIdx j=a.filter λx=>decide (x.1≠k)
 |[],_,_,_,_,h=>rfl
 |x::a,0,k,p,b,h=>by
  have e:x=(k,p):=by simpa using h
  subst e;rw[List.eraseIdx_cons_zero,List.filter_cons_of_neg QS];refine(XX.mpr λy g=>?_).symm
  grind
 |x::a,j+1,k,p,b,h=>by
  obtain⟨f,d⟩:=Y0.mp (show(x.1::a.map (·.1)).Nodup from b);have c:a[j]?=Z (k,p):=by simpa using h
  rw[List.eraseIdx_cons_succ,QY d c,XY (by simpa using(λz=>f (by exact z▸Yf.mpr ⟨_,Yg c,rfl⟩)))]
theorem QZ(f:α->β):∀(a:O α) (j:Nat),(a.map f).eraseIdx j=(a.eraseIdx j).map f
 |[],_=>rfl
 |_::_,0=>rfl
 |x::a,j+1=>by
  show f x::(a.map f).eraseIdx j=f x::(a.eraseIdx j).map f;rw[QZ f a j]
theorem Zg4(k:O Key)(r:KT H a xs):KT H (iX a k) (xs.filter λx=>decide (x.1≠k)):=by
 unfold iX;induction r with
 |nil=>exact .nil
 |@cons p x c xs f t b=>
  by_cases e:p.1=k;·simp_all
  ·rw[XY (by simpa using e),XY (by rw[←f.1];simpa using e)];exact .cons f b
def ZfJ{P:dC}{w:dg}{A:fb}{E:bw}{s:bN}{d a:U}{b:HeapKind P w (O Key)}{h:O (O Key×U×a7)}{k:O Key}{Q:bS DictEntry->bN->Prop}(c:b.room A)(t:b.is s.heap k a)(D:s.heap.DictOfH b d h)(f:k∈h.map (·.1))(H:h.length<=sizeLine)
  (y:∀e m u,m.DictOfH b d (h.filter λx=>decide (x.1≠k))->Heap.SameBut d s.heap m->Q (Z e) {s with heap:=m,toks:=u}):wpAny (model P w) A (Builtin.Dict.takeOut d (.ref a)) Q E s:=by
 refine nR D λG n B g z hd i o r=>?_;refine kY (bt (b.pyHash c t (bt (wpAny_dictFind_heap c t g hd i o r (λno=>?_) λj p e=>?_))))
 ·refine bo (Yf.mp f) λx l e=>?_;obtain⟨j,v,C⟩:=Ww.mp l;exact absurd (by rw[Yb v,C,←e]) (no j x.2)
 ·have sz:n.size=h.length:=by rw[←Wp,i,Ya]
  refine bt (VT g hd ?_);rw[entry_at i j,e];have q:=Pe s.heap d (Obj.mapDictKeys λx=>x.eraseIdxIfInBounds j);refine bt (MW g hd (cv (y _ _ _ ⟨_,_,B+1,Wq _ g (N8 (vr hd _)),z.mapDictKeys _,vr hd _,?_,λx l=>?_,?_⟩ q)) (by rwa[sz]))
  ·rw[←QY r e];have F:(n.eraseIdxIfInBounds j).toList=n.toList.eraseIdx j:=by
    simp_all
   rw[F,i,QZ]
  ·exact b.keeps (o x (Y5.mp l).1) g hd q
  ·grind
theorem Zdn(w:A.units+1<cLine)(I:Inv X pins σ H s)(e:H a=Z (.dT d))(J:H b=Z (.tup (k.map kV)))(l:(aY d k).isSome=af)(h:∀n,Inv X pins σ (upd H a (.dT (iX d k))) n->Q () n):
  wpAny X.md A (delItem (.ref a) (.ref b)) Q E s:=by
 obtain⟨z,r,m,f,i⟩:=UW I.aw e;have R:d.length=m.length:=Paired.length f;have there:k∈m.map (·.1):=by
  rw[Zg2 f];cases g:aY d k with
  |none=>rw[g] at l;cases l
  |some v=>
   unfold aY at g;cases j:d.find? λu=>decide (u.1=k) with
   |none=>rw[j] at g;cases g
   |some p=>exact Yf.mpr ⟨p,List.mem_of_find?_eq_some j,fI (by simpa using List.find?_some j)⟩
 refine Pw i.typeIs QD vE (rz vE i.typeIs DB ?_ (Dz _ _));unfold Builtin.«dict.__delitem__»;refine bt ?_;unfold Builtin.Dict.dictSlotArgs;refine bt (xN i.typeIs ?_);show wpAny _ _ (pure (Value.ref a,Value.ref b)) _ _ s;refine cv ?_;show wpAny _ _ (Builtin.Dict.takeOut a (.ref b)>>=_) _ _ s;refine bt (ZfJ (pQ w) (r6 I.aw J) i there QO λen T P L t=>?_);refine bt (Ag (cv ⟨.none,rfl,?_⟩));obtain⟨o,D,F,q,C,B,y,_,x⟩:=L;refine h _ (uu I (by exact e▸kS) t ⟨o,q⟩ ⟨Yy (Wl _ _) z,r,_,(Zg4 k f).keeps λc N G=>by
   rwa[aS (Uw G e (λz=>nomatch z))],o,D,F,q,C,B,y,x⟩)
def ZiO(W ty:TE):TS:=λD d H=>W d H λx f=>ty d f λy e=>∃a b c k,x=.ref a/\e a=Z (.dT c)/\y=.ref b/\e b=Z (.tup (k.map kV))/\(aY c k).isSome=af/\Ch e a (.dT (iX c k)) (D.nx d)
def Q0(t:X.A.units+1<cLine)(v:PE X o W)(w:PE X i ty):PS X (.Delete [.Subscript o i P] pos) (ZiO W ty):=by
 intro c s d H D I h;refine wpAny_Delete (L3 (J5 (aC (v c s d H _ I h) λu g f=>?_)));obtain⟨x,G,F,m,p⟩:=f;refine aC (w c g d G _ F p) λr L f=>?_;obtain⟨y,N,E,j,a,b,q,k,A,e,z,B,l,n⟩:=f;subst A z;obtain rfl:u=Value.ref a:=m;obtain rfl:r=Value.ref b:=j;exact Zdn t E e B l λJ C=>M_ ⟨d,_,C,n.at⟩
end
end _L
namespace _L
open PySem PySem.W PySem.Spec PyProof.Rows
def ZiP:O V->Hp->VK->Prop:=λd H Q=>∃(p:U) (a:O (Key×V)) (b:O Int),d=[.ref p]/\H p=Z (.dK a)/\a.map (·.1)=b.map Sum.inl/\b.length<64/\∀c:O Int,c.Perm b->c.Pairwise (·<=·)->Nw H (.lst (c.map V.int)) Q
def Zcs(L:(d==sysModules)=bg)(B:A.handled=aJ)
  (G:s.heap.DictAt (dJ prog w) d i D)(z:i.map (·.1)=ns.map Sum.inl)(T:i.length<64)
  (h:∀(f p:c8) (m:Nat) (out:dq a7) (l:O Int) (e:Nat),(∀b o,s.heap.get? b=Z o->f.get? b=Z o)->(∀b o,f.get? b=Z o->p.get? b=Z o)->p.get? f.objs.size=Z (seqObj "list" out e)->IntsAre out.toList l->l.Perm ns->l.Pairwise (·<=·)->Q (.ref f.objs.size) {s with heap:=p,toks:=m}):
  wpAny (model prog w) A (call (.builtin "sorted") [.ref d]) Q E s:=by
 refine xA kind_sorted plain_sorted entry_sorted (args_sorted1 _) ?_;refine bt (cv ?_);have g:i.length<=sizeLine:=by rw[d6];exact Nat.le_of_lt (Nat.lt_of_lt_of_le T (by decide))
 refine bt (kdu_collect (kdl_dict (kvs:=i) (ep:=D) L) B G g λf m a u n=>?_);have c:Vals ((i.map (·.1)).map kV) a.toList:=by
  refine Iv (P:=prog) (w:=w) (by rw[Wp,Ya];exact n.1) λj v X=>?_;obtain⟨k,x,W,R⟩:=n.2 j v (by rwa[←Ju])
  grind
 have F:(i.map (·.1)).map kV=ns.map V.int:=by rw[z,Y6];rfl
 rw[F] at c;have y:a.toList.length<64:=by rwa[Wp,n.1]
 refine bt (vO ?_);have r:(f.push (seqObj "list" a.toList.toArray 0)).get? f.objs.size=Z (seqObj "list" a.toList.toArray 0):=by exact NH▸(Ys _ rfl)
 refine bt (kY (rz slot_list_sort ⟨_,r,rfl⟩ entry_list_sort (list_sort_tree r (intsAre_of c) y λout l J I H=>⟨_,rfl,?_⟩) (args_list_sort _)));obtain⟨e,C⟩:=sortedHeap_at r;exact cv ⟨_,rfl,h f _ m out l e u (λb N t=>by
  have q:=Yu t;rw[sortedHeap_old (Yz q) (by rw[size_push'];exact Wr q),Jw _ _ _ (Yz q)];exact t) C J I H⟩
def Zbg(v:X.calm=af):dz X (.builtin "sorted") ZiP:=by
 intro b s C H D F Q I r W;refine kW W λp a k T n d N q=>?_;subst T;obtain⟨u,rfl,j⟩:=vals1 r;obtain rfl:u=Value.ref p:=j;obtain⟨l,i,E,c,x⟩:=o_ I.aw n;obtain⟨R,y⟩:=x.dictAt;have L:=c.length;have J:a.length=k.length:=by have:=eL List.length d;rwa [Ya,Ya] at this
 refine Zcs i (I.ok.hd v) y (by rw[←c.keys];exact d) QO λw P G out f e m B t A g z=>?_;have h:=I.kept (t':=s.toks) m;refine⟨.ref w.objs.size,_,h.laid (o:=.lst (f.map V.int)) B (Yd _) ⟨?_,out.toList,e,Ip A,by simpa[seqObj] using t⟩,rfl,(q f g z).at _ (h.aw.fresh (Yd _))⟩;rw[Ya,g.length_eq]
 simp_all
def Zg5:O V->Hp->VK->Prop:=λb H Q=>∃(p:U) (a:O (Key×V)),b=[.ref p]/\H p=Z (.dK a)/\Nw H (.dK a) Q
def Zct:dz X (.type "dict") Zg5:=by
 rintro d s n H t v Q I r ⟨p,c,rfl,k,q⟩;obtain⟨u,rfl,j⟩:=vals1 r;obtain rfl:u=Value.ref p:=j;obtain⟨a,g,h,f,l⟩:=o_ I.aw k;have w:=f.length;exact PySem.kt_call_dict g l QO λx m i=>⟨.ref s.heap.objs.size,_,I.laid (o:=.dK c) (λb o e=>(i.2 b (Yz (Yu e))).trans (Yc _ e)) (Yd _) ⟨a,beq_eq_false_iff_ne.mpr (lp (Yz I.big)),h,f,m⟩,rfl,q.at _ (I.aw.fresh (Yd _))⟩
def Zdo(a:Nat->ar)(b:∀i v,P i v->∃t,v=.str (a i) t):CmpOf prog w A .Lt P (λi j=>decide ((a i).cps.toList<(a j).cps.toList)):=λi j d c s Q E f e h=>by
 obtain⟨t,rfl⟩:=b i d f;obtain⟨u,rfl⟩:=b j c e;exact Xj (sU s _ t) (sU s _ u) F.slot_str_lt F.entry_str_lt (F.args_str_lt_2 _ _) (gives_str_lt _ _ t u) (λx=>nomatch x) h
def Zdp(a:Nat->ar)(b:∀i v,P i v->∃t,v=.str (a i) t):CmpOf prog w A .Gt P (λi j=>decide ((a j).cps.toList<(a i).cps.toList)):=λi j d c s Q E f e h=>by
 obtain⟨t,rfl⟩:=b i d f;obtain⟨u,rfl⟩:=b j c e;exact Xj (sU s _ t) (sU s _ u) F.slot_str_gt F.entry_str_gt (F.args_str_gt_2 _ _) (gives_str_gt _ _ t u) (λx=>nomatch x) h
noncomputable def sC(a b:ar):ar:=if b.cps.toList<a.cps.toList then b else a
noncomputable def sD(a b:ar):ar:=if a.cps.toList<b.cps.toList then b else a
def ZiQ{s:bN}:(s.heap.push {cls:=.type "tuple",data:=.seq #[a,b]}).IsTuple s.heap.objs.size #[a,b]:=⟨_,Ys _ rfl,rfl,0,rfl⟩
section
variable {prog:dC}{w:dg}{A:fb}{E:bw}{s:bN}
theorem Sa(i:Nat)(v:a7)(h:(#[Value.str a t,Value.str b u]:dq a7)[i]?=Z v):∃t',v=.str (([a,b]:O ar).getD i "") t':=by
 match i,h with
 |0,h=>exact⟨t,(Yp h).symm⟩
 |1,h=>exact⟨u,(Yp h).symm⟩
 |i+2,h=>simp at h
def Q4{a b:ar}{t u:Tok}{Q:bw}{y:CmpOp}(f:ar->ar->cu)(G:A.handled=aJ)
  (r:CmpOf prog w A.in1 y (λi v=>(#[Value.str a t,Value.str b u]:dq a7)[i]?=Z v) λi j=>f (([a,b]:O ar).getD i "") (([a,b]:O ar).getD j ""))
  (h:∀g k t',(∀c o,s.heap.get? c=Z o->g.get? c=Z o)->Q (.str (if f b a=af then b else a) t') {s with heap:=g,toks:=k}):
  wpAny (model prog w) A.in1 (pyIter (.ref s.heap.objs.size)) (λC p=>∃I fp x n P St B,C=.ref I/\Walks prog w A.in1 I fp x n P St/\St 0 p.heap/\(∀b∈fp,b<p.heap.objs.size)/\0<n/\CmpOf prog w A.in1 y P B/\
   ∀v g k,P (argBest B (n-1)) v->(∀b o,b∉x->p.heap.get? b=Z o->g.get? b=Z o)->Q v {p with heap:=g,toks:=k}) E
   {s with heap:=s.heap.push {cls:=.type "tuple",data:=.seq #[.str a t,.str b u]}}:=by
 have z:=ZiQ (a:=.str a t) (b:=.str b u) (s:=s);refine x9 z ?_;have d:(s.heap.push {cls:=.type "tuple",data:=.seq #[.str a t,.str b u]}).objs.size=s.heap.objs.size+1:=J3 ..;refine⟨_,[_,s.heap.objs.size],[_],_,_,_,_,rfl,Walks.tuple (A:=A.in1) G _ s.heap.objs.size (by rw[d];exact Yz (Jf _)) #[.str a t,.str b u],
  ⟨⟨_,Ys _ rfl,rfl,rfl⟩,z.push _⟩,λc q=>?_,QS,r,λv g k H F=>?_⟩
 ·show c<((s.heap.push _).push _).objs.size;rw[J3,d];rcases Ym.mp q with rfl|q;·rw[d];exact Jf _
  ·rw[Yi.mp q];exact Wr (Jf _)
 ·have l:∀c o,s.heap.get? c=Z o->g.get? c=Z o:=λc o e=>by
   refine F c o (λD=>?_) (Yc _ (Yc _ e));have:=Yu e;rw[Yi.mp D,d] at this;exact We _ (Nat.lt_of_succ_lt this)
  have m:(#[Value.str a t,Value.str b u]:dq a7)[if f b a=af then 1 else 0]?=Z v:=H;obtain⟨t',J⟩:∃t',v=.str (if f b a=af then b else a) t':=by
   by_cases c:f b a=af
   ·rw[bC c] at m⊢;exact⟨u,by simpa using m.symm⟩
   ·rw[bF c] at m⊢;exact⟨t,by simpa using m.symm⟩
  subst J;exact h g k t' l
end
def Zdq(d:X.calm=af):dz X (.builtin "min") (λa H Q=>∃i j:ar,a=[.str i,.str j]/\Q (.str (sC i j)) H):=by
 intro b s e H a g Q I r h;obtain⟨i,j,rfl,q⟩:=h;obtain⟨u,f,rfl,⟨t,rfl⟩,⟨m,rfl⟩⟩:=vals2 r;exact call_min_two (Q4 (λx y=>decide (x.cps.toList<y.cps.toList)) (I.ok.hd d) (Zdo _ Sa) λn l c k=>⟨.str (sC i j),H,I.kept k,⟨c,by unfold sC;simp[Xm]⟩,q⟩)
def Zdr(d:X.calm=af):dz X (.builtin "max") (λa H Q=>∃i j:ar,a=[.str i,.str j]/\Q (.str (sD i j)) H):=by
 intro b s e H a g Q I r h;refine iF h λi j o q=>?_;subst o;obtain⟨u,f,rfl,⟨t,rfl⟩,⟨m,rfl⟩⟩:=vals2 r;exact call_max_two (Q4 (λx y=>decide (y.cps.toList<x.cps.toList)) (I.ok.hd d) (Zdp _ Sa) λn l c k=>⟨.str (sD i j),H,I.kept k,⟨c,by unfold sD;simp[Xm]⟩,q⟩)
def ZiR:bootBuiltins "max"=Z (.builtin "max"):=QK
def Sb:cV X (binaryOp .Mult) (λx y H Q=>∃(z:ar) (n:Nat),x=.str z/\y=.int (n:Int)/\z.length<=100/\n<=100/\Q (.str (Txt.mul z (n:Int))) H):=by
 intro a s i H x y v u Q I d c h;obtain⟨z,n,rfl,rfl,e,f,q⟩:=h;obtain⟨t,rfl⟩:=d;obtain⟨j,rfl⟩:=c;have l:z.length*n<=10000:=Yy (zi e f) (by decide);refine PySem.SB.mul ⟨?_,λr _=>?_,λ_ _=>?_⟩ λb k=>⟨.str (Txt.mul z (n:Int)),H,I.tok k,⟨b,rfl⟩,q⟩;·rw[jb QO,jb QO];rfl
 ·have m:(1:Int)<=(n:Int):=QO
  intro g;have p:((2:Int)^63-1)/(n:Int)≥(2^63-1)/100:=by
   refine Int.le_ediv_of_mul_le QO ?_
   grind
  have o:((2:Int)^63-1)/100>100:=QD
  omega
 ·rw[Y7];exact jb (by rw[d6];exact Nat.not_lt_of_le (Nat.le_trans l (by decide)))
def iH:V->cu
 |.int _=>af
 |.str _=>af
 |_=>bg
def B6(h:iH x=af):kh x=af:=by cases x<;>first|rfl|cases h
theorem ZiS(d:iH x=af)(c:iH y=af):jU x y=decide (x=y):=by
 cases x with
 |int a=>
  cases y with
  |int b=>
   show(a==b)=_
   grind
  |str b=>rfl
  |_=>cases c
 |str a=>
  cases y with
  |int b=>rfl
  |str b=>
   show(a==b)=_
   grind
  |_=>cases c
 |_=>cases d
theorem Iz:∀{a b:O V},a.length=b.length->a.all iH=af->b.all iH=af->((List.range a.length).all λj=>jU (a.getD j .ay) (b.getD j .ay))=decide (a=b)
 |[],[],_,_,_=>rfl
 |[],_::_,h,_,_=>by simp at h
 |_::_,[],h,_,_=>by simp at h
 |x::a,y::b,h,d,c=>by
  rw[Jq,Wc] at d c;rw[Wi,List.range_succ_eq_map,Jq,Na];have e:((λj=>jU ((x::a).getD j .ay) ((y::b).getD j .ay))∘Nat.succ)=λj=>jU (a.getD j .ay) (b.getD j .ay):=rfl;rw[e,(Iz (by simpa using h) d.2 c.2)];show(jU x y&&_)=_;rw[ZiS d.1 c.1,Wn,Wc,jV,jV,jV,List.cons.injEq]
def ZkB(K:ah)(c:cu):R2:=λx y H Q=>∃(p q:U) (b a:O V),x=.ref p/\y=.ref q/\az K H p b/\az K H q a/\b.all iH=af/\a.all iH=af/\Q (.bl (if c=af then !decide (b=a) else decide (b=a))) H
theorem B7(r:Vals xs us):∀{j:Nat} (h:j<us.length),RelV (xs.getD j .ay) us[j]:=by
 induction r with
 |nil=>intro j h;cases h
 |cons f _ a=>
  intro j h;cases j with
  |zero=>exact f
  |succ j=>exact a (KN h)
def B8{a:O V}(f:a.all iH=af)(h:j<a.length):iH (a.getD j .ay)=af:=by
 simp_all
def ZiT{K:ah}(G:X.K=K)(F:X.A.units<cLine):cV X (compareOp .NotEq) (ZkB K af):=by
 subst G;intro m s R H x y v u Q I w t h;obtain⟨p,q,g,f,rfl,rfl,b,a,r,o,k⟩:=h;cases w;cases t;refine cm (I.tuple b) λd l A W=>?_;refine cm (I.tuple a) λc i z T=>?_;have C:=l.length;have B:=i.length;show wpAny _ _ (richCompare .NotEq _ _) _ _ _;refine SeqAt.RcNeAt.tuples (e:=λj=>jU (g.getD j .ay) (f.getD j .ay)) A z F (λj b a=>?_) _ _ _ _ (de I k ?_)
 ·have E:j<d.length:=by simpa using b
  have D:j<c.length:=by simpa using a
  have L:=B7 l E;have J:=B7 i D;have P:d.toArray[j]=d[j]:=QS
  have N:c.toArray[j]=c[j]:=QS
  rw[P,N];exact KH L J (B6 (B8 r QO)) (B6 (B8 o QO))
 ·rw[bC rfl,Yq,Yq,←C,←B];by_cases n:g.length=f.length
  ·rw[←n,Nat.min_self,Iz n r o];simp
  ·grind
def Zg6{K:ah}(h:X.K=K):sP X (Vz K):=h▸ZhZ
def qH(H:Hp)(b:O V)(u:a7):cu:=match u with
 |.ref a=>match H a with
  |some (.tup ys)=>decide (ys=b)
  |_=>bg
 |_=>bg
def VS(e:cu):R2:=λx y H Q=>∃(p q:U) (c:O V) (f:O U) (d:O (O V)),x=.ref p/\y=.ref q/\H p=Z (.tup c)/\c.all iH=af/\H q=Z (.lst (f.map V.ref))/\Paired (λa b=>H a=Z (.tup b)/\b.all iH=af) f d/\Q (.bl (if e=af then !d.any λb=>decide (b=c) else d.any λb=>decide (b=c))) H
def JB(h:H a=Z (.tup b)):qH H xs (.ref a)=decide (b=xs):=by
 unfold qH
 simp_all
theorem IA:∀{f:O U} {d:O (O V)} {c:O a7},Vals (f.map V.ref) c->Paired (λa b=>H a=Z (.tup b)/\b.all iH=af) f d->c.any (qH H xs)=d.any λb=>decide (b=xs)
 |_,_,_,v,.nil=>by cases v;rfl
 |a::f,b::d,c,v,.cons e p=>by
  cases v with
  |cons r t=>
   cases r;rw[Jh,Jh,JB e.1,IA t p]
theorem IB{H:Hp}:∀{f:O U} {g:O (O V)} {d:O a7},Vals (f.map V.ref) d->Paired (λa b=>H a=Z (.tup b)/\b.all iH=af) f g->∀u∈d,∃a b,u=.ref a/\H a=Z (.tup b)/\b.all iH=af
 |_,_,_,v,.nil=>by cases v;intro u c;cases c
 |a::f,b::g,d,v,.cons e p=>by
  cases v with
  |cons r t=>
   cases r;intro u c;rcases Ym.mp c with rfl|c;·grind
   ·exact IB t p u c
def Q5(v:X.A.units+1<cLine)(I:Inv X pins σ H s)(g:H p=Z (.tup xs))(m:xs.all iH=af)(b:H a=Z (.tup c))(l:c.all iH=af):SeqAt.EqAt X.A.in1 s (.ref a) (.ref p) (decide (c=xs)):=by
 by_cases e:a=p
 ·subst e;have:c=xs:=by
   rw[g] at b;injection b with b;injection b with b;exact b.symm
  rw[d9 this];exact YW _
 refine cm (I.tuple (az.of b)) λf i o D=>?_;refine cm (I.tuple (az.of g)) λd h n C=>?_;have r:=i.length;have q:=h.length;refine SeqAt.EqAt.of_refs e ?_;have E:=SeqAt.RcAt.tuples (A:=X.A.in1) (e:=λj=>jU (c.getD j .ay) (xs.getD j .ay)) o n v (λj g b=>?_)
 ·have w:((List.range (min f.toArray.size d.toArray.size)).all (λj=>jU (c.getD j .ay) (xs.getD j .ay))&&f.toArray.size==d.toArray.size)=decide (c=xs):=by
   rw[Yq,Yq,←r,←q];by_cases k:c.length=xs.length
   ·rw[←k,Nat.min_self,Iz k l m];simp
   ·grind
  rwa[←w]
 ·have u:j<f.length:=by simpa using g
  have t:j<d.length:=by simpa using b
  have y:=B7 i u;have x:=B7 h t;have B:f.toArray[j]=f[j]:=QS
  have z:d.toArray[j]=d[j]:=QS
  rw[B,z];exact KH y x (B6 (B8 l QO)) (B6 (B8 m QO))
def ZiU(l:X.A.units+1<cLine):cV X (compareOp .In) (VS bg):=by
 rintro d s z H x y v u Q I h g ⟨p,q,b,D,B,rfl,rfl,n,t,m,c,k⟩;cases h;cases g;refine cm (I.list (aq.of m)) λf r i C=>?_;refine X8 (qH H b) i.isList (λw j=>?_) ⟨.bl _,H,I,rfl,?_⟩
 ·obtain⟨a,A,rfl,e,o⟩:=IB r c w (by simpa using j);rw[JB e];exact Q5 l I n t e o
 ·rw[show f.toArray.any (qH H b)=f.any (qH H b) by simp,IA r c];exact k
def ZeD(l:X.A.units+1<cLine):cV X (compareOp .NotIn) (VS af):=by
 rintro d s z H x y v u Q I h g ⟨p,q,b,D,B,rfl,rfl,n,t,m,c,k⟩;cases h;cases g;refine cm (I.list (aq.of m)) λf r i C=>?_;refine US (qH H b) i.isList (λw j=>?_) ⟨.bl _,H,I,rfl,?_⟩
 ·obtain⟨a,A,rfl,e,o⟩:=IB r c w (by simpa using j);rw[JB e];exact Q5 l I n t e o
 ·rw[show f.toArray.any (qH H b)=f.any (qH H b) by simp,IA r c];exact k
noncomputable def x6(g:Nat->a7):Nat->Nat->O a7
 |0,_=>[]
 |n+1,i=>g i::x6 g n (i+1)
theorem K4(g:Nat->a7):∀(b:O a7) (i:Nat),(∀k,b[k]?=Z (g (i+k))\/b.length<=k)->b=x6 g b.length i
 |[],_,_=>rfl
 |a::r,i,h=>by
  have e:a=g i:=by
   rcases h 0 with z|z;·grind
   ·cases z
  refine congr (eL _ e) (K4 g r (i+1) λk=>?_);have:=h (k+1)
  grind
inductive cy(K:ah)(x:ar)(b:cb)(f:U):Prop
 |mk {h n:bS U} {e:dq (bS a7)} {i kV j g d m:a7} (a:nsIn K mainGlobals x=Z (Z (.ref f))) (l:K.lookup f=Z ⟨i,h,.func (fnOf x x (mK b) (jF b) (aL b) .none kV j g n d m),e⟩) (c:codeIn K d x=af) (k:keepIn K (.ref f)=af):cy K x b f
inductive dk(K:ah)(C:U)(x q:ar)(d:cb)(f:U):Prop
 |mk {i o:bS U} {g:dq (bS a7)} {j kV m h e n:a7} (a:PySem.W.findIn K (.ref C) x=Z (Z (.ref f))) (b:isFn K (.ref f)=af) (l:K.lookup f=Z ⟨j,i,.func (fnOf x q (mK d) (jF d) (aL d) .none kV m h o e n),g⟩) (c:codeIn K e q=af) (k:keepIn K (.ref f)=af):dk K C x q d f
inductive jW(P:dC)(w:dg)(K:ah)(b:a8)(a:c8):Prop
 |mk {h:c8} (X:K.In h) (G:h.Ns mainGlobals b):jW P w K b a
abbrev nv(x q:ar)(a:cb)(b:O ar):Prop:=∀(kV c d:a7) (h:bS U) (f e:a7) (g:Nat->a7),bindArgs (fnOf x q (mK a) (jF a) (aL a) .none kV c d h f e) ⟨x6 g b.length 0,[]⟩=pure (b.zip (x6 g b.length 0))
def nv.at{x q:ar}{c:cb}{d:O ar}(b:nv x q c d)(h f g:a7)(l:bS U)(j i:a7)(a:O a7)(m:a.length=d.length):bindArgs (fnOf x q (mK c) (jF c) (aL c) .none h f g l j i) ⟨a,[]⟩=pure (d.zip a):=by
 have e:=K4 (λk=>a.getD k .none) a 0 λk=>by
  grind
 grind
section
variable {P:dC}{w:dg}{K:ah}{T:a8}{W:c8}{C f:U}{x q:ar}{st:cb}{ps:O ar}{n:Nat}{R:Sp}
def jW.p(D:jW P w K T W)(p:cy K x st f)(b:nv x x st ps:=by intro _ _ _ _ _ _ _;rfl):∃d,aT K x x st f d/\Binds K d ps []/\keepIn K (.ref f)=af/\T x=Z (.ref f):=by
 obtain⟨X,G⟩:=D;obtain⟨a,l,c,k⟩:=p;exact⟨_,zw l c k,(zw l c k).binds (nv.at b),k,lq X G a⟩
def jW.d(D:jW P w K T W)(p:cy K x st f)(o:∀a,aT K x x st f a->aI P w K T W aR n f a ps R)(b:nv x x st ps:=by intro _ _ _ _ _ _ _;rfl):HasFn P w K T W n x ps R:=by
 refine lr (D.p p b) λa F b k m=>?_;exact⟨f,a,o _ F,b,k,m⟩
def jW.dX(D:jW P w K T W)(p:cy K x st f)(o:∀a,aT K x x st f a->aI P w K T W (lS P w) n f a ps R)(b:nv x x st ps:=by intro _ _ _ _ _ _ _;rfl):C0 P w K T W n x ps R:=by
 refine lr (D.p p b) λa F b k m=>?_;exact⟨f,a,o _ F,b,k,m⟩
def dk.p(p:dk K C x q st f)(b:nv x q st ps):∃d,aT K x q st f d/\Binds K d ps []/\Meth K C x f/\PySem.W.findIn K (.ref C) x=Z (Z (.ref f))/\isFn K (.ref f)=af:=by
 obtain⟨a,e,l,c,k⟩:=p;exact⟨_,zw l c k,(zw l c k).binds (nv.at b),⟨a,e,k⟩,a,e⟩
def jW.m(_:jW P w K T W)(c:h_ K C)(p:dk K C x q st f)(o:∀a,aT K x q st f a->aI P w K T W aR n f a ps R)(b:nv x q st ps:=by intro _ _ _ _ _ _ _;rfl):cI P w K T W n x C ps R:=by
 refine iy (p.p b) λa F b m _ _=>?_;exact⟨f,a,c,m,o _ F,b⟩
def jW.mX(_:jW P w K T W)(c:h_ K C)(p:dk K C x q st f)(o:∀a,aT K x q st f a->aI P w K T W (lS P w) n f a ps R)(b:nv x q st ps:=by intro _ _ _ _ _ _ _;rfl):zC P w K T W n x C ps R:=by
 refine iy (p.p b) λa F b m _ _=>?_;exact⟨f,a,c,m,o _ F,b⟩
def jW.i(_:jW P w K T W){y:ar}(m:T y=Z (.ref C))(g:makesIn K C=af)(d:keepIn K (.ref C)=af)(p:dk K C "__init__" q st f)(o:∀c,aT K "__init__" q st f c->aI P w K T W aR n f c ps R)(b:nv "__init__" q st ps:=by intro _ _ _ _ _ _ _;rfl):xm P w K T W n y C ps R:=by
 refine iy (p.p b) λc F b _ a e=>?_;exact⟨f,c,⟨g,a,e,d⟩,o _ F,b,m⟩
end
end _L
namespace _L
open PySem PySem.Spec PyProof.Rows
section
variable {X:Cx}
def cj(i:Nat){x:ar}{e:cH}{c:TE}{b a:Pos}(k:X.N.Nodup)(j:PE X e c)(g:X.N[i]?=Z x:=by rfl)(d:Loc X.env.scope x:=by exact hY rfl)(f:swapsWith e (Z (.Name x a)) b.line X.env=pure bg:=by rfl)
  (h:X.fn x=af\/X.env.scope.names.lookup x=Z .local:=by first|exact .inl rfl|exact .inr rfl|assumption):PS X (.Assign [.Name x a] e b) (uV c (n_ i)):=iC k g d j f h
def bI(i:Nat){x:ar}{a:Pos}(e:X.N.Nodup)(c:X.N[i]?=Z x:=by rfl)(b:Loc X.env.scope x:=by exact hY rfl)
  (d:X.fn x=af\/X.env.scope.names.lookup x=Z .local:=by first|exact .inl rfl|exact .inr rfl|assumption):PG X (.Name x a) (n_ i):=qw e c b d
def pF(K:ah)(i:Nat){x f:ar}{p a:Pos}(h:X.K=K:=by rfl)(e:X.N[i]?=Z x:=by rfl)(b:vq X.env.scope x:=by first|exact hY rfl|exact mF (hY rfl)|exact mF (mF rfl))(c:(x==("__debug__":ar))=bg:=by decide)
  (g:(x==("__classdict__":ar))=bg:=by decide)(d:attributeBase (.Name x p) f X.env (eval (.Name x p) X.env)=eval (.Name x p) X.env:=QR):PE X (.Attribute (.Name x p) f a) (LP K (hV i) f):=uv h (pv i e b c g) d
def bh{k j:Nat}{x:ar}{c:O ar}{b:Sp}{p a:Pos}{e:cH}{es:O cH}{t:TA}(h:HasFn X.prog X.w X.K X.mg X.base k x c b)(d:cW j X.A)(l:PA X (e::es) t)(f:k<=j:=by omega)(g:Gl X x:=by rfl)
  (m:(x==("__debug__":ar))=bg:=by decide)(i:jv X e es:=by rfl)(n:jR X a es:=by rfl):
  PE X (.Call (.Name x p) (e::es) [] a) (Cz b [] E0 t):=Lo h d f g l m i n
def bc{r:R2}{a b:cH}{e d:TE}{c:Pos}(g:jT X r)(i:PE X a e)(h:PE X b d)(f:RT b:=by exact λ_ _=>rfl):PE X (.Subscript a b c) (ku r e d):=UE g i h f
end
section
variable {P:dC}{w:dg}{K:ah}{W:a8}{X:c8}
def aT.o{x b:ar}{e:cb}{f:U}{j:FuncData}{N g:O ar}{k:Nat}{sp:Sp}(F:aT K x b e f j)(a:aW N g (aL e))
  (m:∀{l:a7} {A:fb} {c:O Env} {d:O V} {Q:VK} {E:XK} (s:bN) (H:Hp),cW k (A.deeper (envOfC b (aL e) s.heap.objs.size f l))->sp d H Q E->
   ∃t,gO (lM aR P w K W X N b (aL e) f l A c s H E).pE (jF e) t/\t {nx:=λ_ n=>Q .ay n,rt:=Q} (start N d) H)
  (i:∀d H Q E,sp d H Q E->d.length=g.length:=by intro d H Q E h;first|(cases h;subst_vars;rfl)|((repeat obtain⟨_,h⟩:=h);subst_vars;rfl)):aI P w K W X aR (k+1) f j g sp:=F.ok a i λ_ _ _ s H _ _ _=>m s H
end
def aW.bp{N P:O ar}{sc:Scope}(a:sc.kind=.function:=by rfl)(b:sc.isCoroutine=bg:=by rfl)(c:sc.isGenerator=bg:=by rfl)(d:N.Nodup:=by decide+kernel)(e:N.take P.length=P:=by rfl)(f:∀x∈P,sc.names.lookup x=Z .local\/sc.names.lookup x=Z .cell:=by decide+kernel)(g:∀y∈sc.names,y.2≠.free:=by decide+kernel):aW N P sc:=⟨a,b,c,d,e,f,g⟩
def yZ.ia{X:Cx}{h:Scope}{cl:O (ar×U)}{x:ar}{fr:O (ar×Nat)}(i:rP X.env.cells cl)(j:rQ X h cl fr)(a:closureFor h X.env=pure cl:=by with_unfolding_all rfl)(b:h.kind=.function:=by rfl)(c:∀y∈h.names,y.2=.local->h.names.lookup y.1=Z .local:=by decide+kernel)(d:h.names.lookup x=Z .local:=by rfl)
  (e:∀y∈h.names,y.2≠.cell:=by decide+kernel)(f:(h.names.all λy=>!(y.2==.free)||(cl.lookup y.1).isSome)=af:=by rfl)(g:(x::fr.map (·.1)).Nodup:=by decide+kernel):yZ X h cl x fr:=⟨a,i,b,c,d,e,f,j,g⟩
def rD.ia{X:Cx}{d:Scope}{cl:O (ar×U)}{i:O ar}{fr:O (ar×Nat)}(h:rP X.env.cells cl)(j:rQ X d cl fr)(a:closureFor d X.env=pure cl:=by with_unfolding_all rfl)(b:d.kind=.function:=by rfl)(c:∀y∈d.names,y.2=.local->d.names.lookup y.1=Z .local:=by decide+kernel)
  (e:∀y∈d.names,y.2≠.cell:=by decide+kernel)(f:(d.names.all λy=>!(y.2==.free)||(cl.lookup y.1).isSome)=af:=by rfl)(g:(i++fr.map (·.1)).Nodup:=by decide+kernel):rD X d cl i fr:=⟨a,h,b,c,e,f,j,g⟩
end _L
namespace _L
open PySem PySem.W PySem.Spec PyProof.Rows
inductive sT(K:ah):O ar->Prop
 |nil:sT K []
 |cons {x:ar} {l:O ar} (h:nsIn K mainGlobals x=Z aJ) (t:sT K l):sT K (x::l)
theorem sT.at{K:ah}{x:ar}:∀{l:O ar},sT K l->x∈l->nsIn K mainGlobals x=Z aJ
 |_,.cons h t,m=>by
  cases m with
  |head=>exact h
  |tail _ m=>exact t.at m
def sT.bl{K:ah}(z:sT K ["len","abs","list","range","tuple","any","all","isinstance","bool","int","str","sorted","min","max","sum","dict","reversed","ValueError"])(X:K.In h)(G:h.Ns mainGlobals mg):Bl mg:=by
 constructor<;>exact PySem.W.mg_none_of X G (z.at QD)
inductive AB(K:ah)(x:ar)(C:U):Prop
 |mk (a:nsIn K mainGlobals x=Z (Z (.ref C))) (b:makesIn K C=af) (c:keepIn K (.ref C)=af):AB K x C
def jW.j{P:dC}{w:dg}{K:ah}{e:a8}{c:c8}{C f:U}{y q:ar}{d:cb}{ps:O ar}{n:Nat}{sp:Sp}(D:jW P w K e c)(g:AB K y C)(p:dk K C "__init__" q d f)(o:∀h,aT K "__init__" q d f h->aI P w K e c aR n f h ps sp)(b:nv "__init__" q d ps:=by intro _ _ _ _ _ _ _;rfl):xm P w K e c n y C ps sp:=by
 obtain⟨a,m,k⟩:=g;exact D.i (let⟨X,G⟩:=D;lq X G a) m k p o b
inductive vJ(K:ah)(x q:ar)(d:O U)(b:cb)(C f:U):Prop
 |mk {N t:U} {s n:ar} {bs sub:O a7} {k:O ar} {G:cu} {c:bS cu} {B:bS U} {z y w v u:bS a7} {p F i:bS U} {m g:dq (bS a7)} {r kV D o e E j A:a7} {h:Nat}
  (a:nsIn K mainGlobals x=Z (Z (.ref C))) (l:K.lookup C=Z (excClassObj s n C N bs (d.map Value.ref++pj) af k sub G c B z y w v u "ValueError.__new__"))
  (g1:PySem.W.findIn K (.ref C) "__getattribute__"=Z (Z (.builtin "BaseException.__getattribute__"))) (g2:PySem.W.findIn K (.ref C) "__getattr__"=Z aJ) (g3:PySem.W.findIn K (.ref C) "__setattr__"=Z (Z (.builtin "object.__setattr__"))) (g4:PySem.W.findIn K (.ref C) "__class__"=Z (Z (.builtin "object.__class__")))
  (g5:specialIn K (.builtin "object.__class__") "__get__"=Z (Z (.builtin "getset_descriptor.__get__"))) (g6:takesIn K (.builtin "object.__class__")=Z af)
  (ci:PySem.W.findIn K (.ref C) "__init__"=Z (Z (.ref f))) (cn:isFn K (.ref f)=af) (ck:keepIn K (.ref C)=af)
  (fl:K.lookup f=Z ⟨r,p,.func (fnOf "__init__" q (mK b) (jF b) (aL b) (.ref t) kV D o F e E),m⟩) (fc:codeIn K e q=af) (fk:keepIn K (.ref f)=af) (ft:K.lookup t=Z ⟨j,i,.seq #[A] h,g⟩)
  (na:PySem.W.findIn K (.ref C) "word"=Z aJ):vJ K x q d b C f
abbrev BdE(q:ar)(a:cb)(b:O ar):Prop:=∀(s:bN) (kV c i j h:a7) (f:bS U) (d:dq (bS a7)) (e:Nat) (t:U) (m:bS U) (l k:a7) (g:Nat->a7),s.heap.get? t=Z ⟨h,f,.seq #[j] e,d⟩->BindsTo s (fnOf "__init__" q (mK a) (jF a) (aL a) (.ref t) kV c i m l k) ⟨x6 g b.length 0,[]⟩ (b.zip (x6 g b.length 0))
def vJ.b{K:ah}{h:c8}{i:a8}{x q:ar}{n:O U}{c:cb}{C f:U}(p:vJ K x q n c C f)(X:K.In h)(G:h.Ns mainGlobals i)(ps:O ar)(b:BdE q c ps:=by intro _ _ _ _ _ _ _ _ _ _ _ _ _ _ z;exact BindsTo.of_defaults rfl z rfl rfl rfl):
  ∃m,uY K "__init__" q c f m/\Binds K m ps []/\dR K C/\xB K C f/\i x=Z (.ref C)/\dA K C "word":=by
 obtain⟨a,l,y,w,v,u,t,r,I,F,H,B,E,D,A,o⟩:=p;have d:dR K C:=⟨⟨_,_,_,_,n,_,_,_,_,_,_,_,_,_,_,l⟩,y,w,v,u,t,r⟩;refine⟨_,⟨⟨_,_,_,_,_,_,_,_,_,_,rfl,B,E⟩,D⟩,λs g J j=>?_,d,xB.of d I F H,lq X G a,o⟩;rw[Wf] at j⊢;have e:=K4 (λk=>g.getD k .none) g 0 λk=>by
  grind
 rw[e,j];exact b s _ _ _ _ _ _ _ _ _ _ _ _ _ (J _ _ A)
end _L
namespace _L
open PySem PySem.Spec PyProof.Rows
section
variable {X:Cx}{a b e T:cH}{R P Q N:TE}{p W:Pos}
def dv(K:ah)(i:Bl X.mg)(f:PE X e Q)(h:X.K=K:=by rfl)(d:Gl X "len":=by rfl)(c:starEach [e] X.env=(bg,eval e X.env)::starEach [] X.env:=by rfl)(g:(backTo W (starEach [] X.env)).any (·.1)=bg:=QR):PE X (.Call (.Name "len" p) [e] [] W) (oG (zV K) (iV Q jO)):=iu (Zkm h) d i.CG Ck (aa f ag c) QD QD c g
def jX(K:ah)(k:Bl X.mg)(g:PE X e Q)(i:PE X T N)(h:X.K=K:=by rfl)(f:Gl X "isinstance":=by rfl)(d:starEach [T] X.env=(bg,eval T X.env)::starEach [] X.env:=by rfl)(c:starEach [e,T] X.env=(bg,eval e X.env)::starEach [T] X.env:=by rfl)(j:(backTo W (starEach [T] X.env)).any (·.1)=bg:=by rfl):PE X (.Call (.Name "isinstance" p) [e,T] [] W) (oG (CZ K) (iV Q (iV N jO))):=iu (ZgD h) f k.Gh FZ (aa g (aa i ag d) c) QD QD c j
def iL(K:ah)(h:X.K=K:=by rfl):jT X (xw K):=Zfb h
def iT(K:ah)(h:X.K=K:=by rfl):jT X (CW K):=ZgC h
def bO{c:CmpOp}{r:R2}(d:cV X (compareOp c) r)(h:PE X a R)(g:PE X b P)(f:behindInMarks c b=bg:=by exact S7 _):PT X (.Compare a [c] [b] W) (Lm (ku r R P)):=gm d h g f
def fX{c:CmpOp}{r:R2}(d:cV X (compareOp c) r)(h:PE X a R)(g:PE X b P)(f:behindInMarks c b=bg:=by exact S7 _):PE X (.Compare a [c] [b] W) (ku r R P):=B3 d h g f
end
end _L
namespace _L
open PySem PySem.W PySem.Spec PyProof.Rows
def ZbN:typeLookup (.type "list") "keys"=pure aJ:=am_miss_of_fast QJ
def Qb:entryFor table "dict.update.loop"=Z Builtin.«dict.update.loop»:=entryFor_of_tree QJ
def BD:plainId "dict.update.loop"=af:=QK
def Zbh{f:dC}{w:dg}{A:fb}{E:bw}{s:bN}{a:U}{o:Obj}{j:dq a7}{k:Nat}{Q:bS a7->bN->Prop}
  (n:s.heap.get? a=Z o)(q:o.cls=.type "list")(t:o.data=.seq j k)(p:o.dict=aJ)(z:A.handled=aJ)
  (h:∀i l,(∀b u,s.heap.get? b=Z u->i.get? b=Z u)->Q aJ {s with heap:=i,toks:=l}):
  wpAny (model f w) A (getAttr? (.ref a) "keys") Q E s:=by
 obtain⟨c,B,C,x⟩:=o;simp only at q t p;subst q t p;obtain⟨y,g,d,l,os⟩:=s;have r:∀m,(⟨y,g,d,m,os⟩:bN).TypeIs (.ref a) "list":=λ_=>⟨_,n,rfl⟩;have N:=sub_AttributeError;have L:=F.slot_list_getattribute.lookup;have J:=F.slot_list_getattribute.bind (.ref a);have I:=am_list_getattr_none;have sz:(Str.ofString "keys").length+100<=sizeLine:=QK
 unfold getAttr? getAttrBy? getAttrBy;repeat (any_goals (first|assumption|exact r _|((with_reducible show wpAny _ _ (call (Value.builtin "list.__getattribute__") _ _) _ _ _);refine oE F.slot_list_getattribute (r _) am_entry_list_getattribute (F.args_list_getattribute_2 _ _) (meets_getattribute_miss_list a j k x (Str.ofString "keys") _ ZbN QD sz) ⟨n,z,λi m e v=>?_⟩)|wp_step))
 obtain⟨G,D,H⟩:=v.there;unfold getattributeRaised;repeat (any_goals (first|assumption|wp_step))
 exact h _ _ v.keeps
def Zds(h:wpAny M A m Q (λ_ _=>False) s):wpAny M A (m.tryCatch hd) Q E s:=λb p a=>by
 rw[Sem.wp_tryCatch];exact Sem.wp_mono M b m (λ_ _ _ z=>z) (λ_ _ _ z=>z.elim) p s (h b p a)
def L4{b:dC}{w:dg}(h:c8)(c:Key×a7)(v:a7):Prop:=∃(a:U) (o:Obj) (x y:a7) (k:Nat),v=.ref a/\h.get? a=Z o/\o.cls=.type "tuple"/\o.data=.seq #[x,y] k/\(dJ b w).is c.1 x=af/\c.2=y
noncomputable def pK(a:Nat->Key×a7)(n:Nat):O (Key×a7):=(List.range n).foldl (λd j=>stored d (a j).1 (a j).2) []
def JC(a:Nat->Key×a7)(n:Nat):pK a (n+1)=stored (pK a n) (a n).1 (a n).2:=by
 unfold pK;rw[Jv,X0];rfl
def Zdt{k:Key}:(stored d k v).length<=d.length+1:=by
 unfold stored;split;·rw[Ya];exact Nat.le_add_right _ _
 ·exact Yj▸Yd _
theorem Ki(a:Nat->Key×a7):∀n,(pK a n).length<=n
 |0=>Yd _
 |n+1=>by rw[JC];exact Yy Zdt (XW (Ki a n))
section
variable {prog:dC}{w:dg}{A:fb}{R:Result->bN->Prop}{I l D:U}{X:dq a7}{kv:Nat->Key×a7}{T:c8}
theorem ZfK(hh:A.in1.handled=aJ)(F:D≠I)(nI:T.get? I=aJ)(nD:T.get? D=aJ)(u:T.IsList l X)(hp:∀i v,X[i]?=Z v->@L4 prog w T (kv i) v)(cM:X.size<=sizeLine):
  ∀(k i:Nat) (s:bN),X.size-i=k->i<=X.size->s.heap.IsListIter I l i->(∀b o,T.get? b=Z o->s.heap.get? b=Z o)->s.heap.DictOf (dJ prog w) D (pK kv i)->
   (∀c h,(∀b o,T.get? b=Z o->c.get? b=Z o)->c.DictOf (dJ prog w) D (pK kv X.size)->R (.ok (.ret .none)) {s with heap:=c,toks:=h})->
   codeAny (model prog w) A (.builtin "dict.update.loop" ⟨[.ref D,.ref I,rawInt (i:Int),.none],[]⟩) R s:=by
 have j:∀{b:U} {o:Obj},T.get? b=Z o->b≠I:=λe z=>by rw[z,nI] at e;cases e
 have p:∀{b:U} {o:Obj},T.get? b=Z o->b≠D:=λe z=>by rw[z,nD] at e;cases e
 have t:l≠I:=let⟨_,e,_⟩:=u;j e;have W:=An (prog:=prog) (w:=w) hh I l t X;intro k;induction k with
 |zero=>
  intro i s hk hi d g hd E;have pL:i=X.size:=QO
  subst pL;refine vI Qb ?_;rw[NL BD _];show wpAny _ A.in1 (pyNext (.ref I)>>=_) _ _ s;refine bt (W.done s _ _ ⟨d,u.at λo e=>g l o e⟩ λc h f=>?_);show wpAny _ A.in1 (Builtin.Dict.addKeywords D []>>=_) _ _ _;refine bt (cv (cv ?_));exact E c h (λb o e=>f b o (by simpa using j e) (g b o e)) (by
   refine ng hd λo G H q r=>?_;exact⟨o,G,H,f D o (by simpa using F) q,r⟩)
 |succ k ih=>
  intro i s hk hi d g hd E;have Q:i<X.size:=QO
  refine vI Qb ?_;rw[NL BD _];show wpAny _ A.in1 (pyNext (.ref I)>>=_) _ _ s;refine bt (W.item i s _ _ Q ⟨d,u.at λo e=>g l o e⟩ λv c h hv st f=>?_);obtain⟨a,o,x,y,n,rfl,P,hc,Nb,B,ev⟩:=hp i v hv;have N:=f a o (by simpa using j P) (g a o P);have hT:(⟨c,s.gens,s.drawn,h,s.os⟩:bN).TypeIs (.ref a) "tuple":=⟨_,N,hc⟩;have xO:c.DictOf (dJ prog w) D (pK kv i):=by
   refine ng hd λL G H q r=>?_;exact⟨L,G,H,f D L (by simpa using F) q,r⟩
  show wpAny _ A.in1 (holding [Value.ref a] _>>=_) _ _ _;refine bt (kY (bt (Zds ?_)));unfold Builtin.Dict.pairItems;refine bt (vV hT ?_);rw[bC QD];refine bt (wpAny_seqItems N Nb (cv ?_));show wpAny _ A.in1 (holding [x,y] (dictSet D x y)) _ _ _;have dl:=Ki kv i;refine kY (wpAny_dictSet_pairs (kvs:=pK kv i) B xO (λh2 C J=>?_) (Nat.le_trans dl (Nat.le_trans hi cM)));refine cv ⟨zL BD _,?_⟩;have en:rawInt ((i:Int)+1)=rawInt ((i+1:Nat):Int):=rfl;rw[en];refine ih (i+1) _ QO Q (st.1.at λo e=>?_) (λb o e=>?_) (by rw[JC,ev];exact C) (λh3 m k3 d3=>?_);·exact(J.2 I (lp F)).trans e
  ·exact(J.2 b (p e)).trans (f b o (by simpa using j e) (g b o e))
  ·exact E h3 m k3 d3
def Zbi{p:U}{s:bN}{E:bw}{n:Nat}{Q:bw}(y:A.handled=aJ)(m:∃o,s.heap.get? p=Z o/\o.cls=.type "list"/\o.data=.seq X n/\o.dict=aJ)(x:s.heap.IsList p X)
  (J:∀i v,X[i]?=Z v->@L4 prog w s.heap (kv i) v)(cM:X.size<=sizeLine)
  (h:∀c g,(∀b o,s.heap.get? b=Z o->c.get? b=Z o)->c.DictOf (dJ prog w) s.heap.objs.size (pK kv X.size)->Q (.ref s.heap.objs.size) {s with heap:=c,toks:=g}):
  wpAny (model prog w) A (call (.type "dict") [.ref p]) Q E s:=by
 refine callType_codes (Q₁:=λa B=>a=.ref s.heap.objs.size/\B={s with heap:=s.heap.push {cls:=.type "dict",data:=.dict #[]}}) PySem.F.kt_called_dict (PySem.F.kt_typeCall_dict_1 _) F.entry_dict_init (kt_code_dict_new _ ⟨rfl,rfl⟩) ?_;rintro a B ⟨rfl,rfl⟩;have f:(s.heap.push {cls:=.type "dict",data:=.dict #[]}).DictOf (dJ prog w) s.heap.objs.size []:=Zg s.heap;refine lr m λo L z Nb q=>?_;have t:(s.heap.push {cls:=.type "dict",data:=.dict #[]}).get? p=Z o:=Yc _ L;refine⟨f.typeIs,F.args_dict_init_2 _ _,?_⟩;unfold Builtin.«dict.__init__»;refine bt ?_;unfold Builtin.Dict.selfAndRest;refine bt (xN f.typeIs ?_);refine cv ?_;show wpAny _ _ (Builtin.Dict.updateFrom "dict.__init__" s.heap.objs.size (.ref p) [] .none) _ _ _;unfold Builtin.Dict.updateFrom;refine bt (vV ⟨_,t,z⟩ ?_);rw[bC QD];refine bt (Zbh t z Nb q y λh1 G j=>?_);have C:=λb u e=>j b u (Yc _ e);have W:=j _ _ (Ys _ rfl);have lt:=Yu W;refine bt (tM (bt (th (x.at λ o=>C _ _) (cv ⟨zL BD _,?_⟩))));refine ZfK (A:=A.in1) y (Yz lt) (J1 (Jn lt)) (J1 (Yd _)) x J cM X.size 0 _ rfl (Yx _) ⟨_,Ys _ rfl,rfl,rfl⟩ (λb o e=>Yc _ (C b o e)) ?_ λc g k d=>⟨rfl,h c g k d⟩;refine ng f λH N P m r=>?_;exact⟨H,N,P,Yc _ (j _ _ m),r⟩
end
def x8(a:O (Int×Int)):O (Key×V):=a.foldl (λd q=>putK d (.inl q.1) (.int q.2)) []
def ZfL:O V->Hp->VK->Prop:=λc H Q=>∃(p:U) (b:O U) (prs:O (Int×Int)),c=[.ref p]/\H p=Z (.lst (b.map V.ref))/\Paired (λa (q:Int×Int)=>H a=Z (.tup [.int q.1,.int q.2])) b prs/\prs.length<=1000/\Nw H (.dK (x8 prs)) Q
theorem TK{kv:Nat->Key×a7}{prs:O (Int×Int)}(h:∀j q,prs[j]?=Z q->(kv j).1=.inl q.1/\RelV (.int q.2) (kv j).2):∀j,j<=prs.length->KV (x8 (prs.take j)) (pK kv j)
 |0,_=>.nil
 |j+1,a=>by
  have e:=Yb a;obtain⟨c,b⟩:=h j _ e;rw[JC,c];unfold x8;rw[Y1,e,X0];exact(TK h j (Xn a)).put _ b
def Zcu(hc:X.calm=af):dz X (.type "dict") ZfL:=by
 intro B s σ H xs us Q I r ZH;refine kW ZH λp g prs w W A cM q=>?_;subst w;obtain⟨u,rfl,N⟩:=vals1 r;obtain rfl:u=Value.ref p:=N;obtain⟨z,ai,n,t,e⟩:=(show cX X.prog X.w H s.heap p (.lst (g.map V.ref)) from I.aw p _ W);have pl:=c7 A;have ex:∀j:Nat,∃m:Key×a7,∀q a,prs[j]?=Z q->g[j]?=Z a->@L4 X.prog X.w s.heap m (.ref a)/\m.1=.inl q.1/\RelV (.int q.2) m.2:=λj=>by
  by_cases b:j<prs.length
  ·have D:prs[j]?=Z (prs[j]'b):=Yb b;have c:g[j]?=Z (g[j]' QO):=Yb QO;obtain⟨q',G,T⟩:=gf A c;rw[D] at G;cases G;obtain⟨_,fU,P,o,h1,h2,R,h3,_⟩:=(show cX X.prog X.w H s.heap _ (.tup [.int (prs[j]'b).1,.int (prs[j]'b).2]) from I.aw _ _ T);obtain⟨x,y,rfl,L,J⟩:=vals2 P;refine⟨(.inl (prs[j]'b).1,y),λq a f E=>?_⟩;rw[D] at f;rw[c] at E;cases f;cases E;exact⟨⟨_,o,x,y,R,rfl,h1,h2,h3,mS (k:=.inl (prs[j]'b).1) L,rfl⟩,rfl,J⟩
  ·exact⟨(.inl 0,.none),λq a f _=>absurd (Yh.mp f).1 b⟩
 obtain⟨h,F⟩:=Classical.axiomOfChoice ex;have sz:ai.toArray.size=prs.length:=by
  have:=t.length;rw[Ya] at this;rw[Yq];omega
 have l:=TK (kv:=h) (prs:=prs) (λj q f=>by
  have b:=(Yh.mp f).1;have c:g[j]?=Z (g[j]' QO):=Yb QO;exact(F j q _ f c).2) prs.length (Yd _)
 rw[Wd] at l;have lz:(1000:Nat)<=sizeLine:=QD
 refine Zbi (kv:=h) (I.ok.hd hc) ⟨_,e,rfl,rfl,rfl⟩ ⟨_,e,rfl,n,rfl⟩ (λi v C=>?_) (Nat.le_trans (Nat.le_of_eq sz) (Nat.le_trans cM lz)) λh' tk k d=>?_
 ·have e0:=Iw t;subst e0;rw[List.getElem?_toArray,Ye] at C;obtain⟨a,c,rfl⟩:=Jd.mp C;have hi:=(Yh.mp c).1;exact(F i _ a (Yb (Nat.lt_of_lt_of_le hi (Nat.le_of_eq pl))) c).1
 ·rw[sz] at d;have l1:=l.length;have l2:=Ki h prs.length;exact⟨.ref s.heap.objs.size,_,I.laid (o:=.dK (x8 prs)) k (Yd _) (xh QO (beq_eq_false_iff_ne.mpr (lp (Yz I.big))) l d),rfl,q.at _ (I.aw.fresh (Yd _))⟩
theorem Se{x:Int}:∀(prs:O (Int×Int)) (d:O (Key×V)),x∉prs.map (·.1)->aY (prs.foldl (λd q=>putK d (.inl q.1) (.int q.2)) d) (.inl x)=aY d (.inl x)
 |[],_,_=>rfl
 |q::t,d,h=>by
  rw[Wj,Ym,k8] at h;rw[Nd,Se t _ h.2,I0,bF λz=>h.1 (J9 z)]
theorem TL{x y:Int}:∀(prs:O (Int×Int)) (d:O (Key×V)),(prs.map (·.1)).Nodup->(x,y)∈prs->aY (prs.foldl (λd q=>putK d (.inl q.1) (.int q.2)) d) (.inl x)=Z (.int y)
 |q::t,d,a,m=>by
  rw[Wj,Y0] at a;rcases Ym.mp m with rfl|m;·rw[Nd,Se t _ a.1,I0,bC rfl]
  ·rw[Nd,TL t _ a.2 m]
def Zg7(a:(prs.map (·.1)).Nodup)(m:(x,y)∈prs):aY (x8 prs) (.inl x)=Z (.int y):=TL prs [] a m
end _L
namespace Nf
open PySem _L
variable {w:dg}{K:PySem.W.Frag}{B:ar->bS a7}{I:c8}{f C CL CJ:U}{fd:FuncData}
noncomputable def top(i:Nat):cb:=PySem.Challenge.pw_kinhearth_k32_a_dealing_told.main.body.getD i (.Pass ⟨0,0,0,0⟩)
abbrev IC:cb:=top 20
abbrev Kj:cb:=top 21
abbrev JD:cb:=top 22
abbrev K5:cb:=top 24
abbrev Gi:cb:=top 26
abbrev Gj:cb:=top 77
abbrev Fq:cb:=top 78
abbrev ID:cb:=top 79
abbrev Hm:cb:=top 23
abbrev F1:cb:=top 25
abbrev Hn:cb:=top 2
abbrev JE:cb:=top 35
abbrev Ho:cb:=top 36
abbrev Hq:cb:=top 39
abbrev GI:cb:=top 40
abbrev GJ:cb:=top 41
abbrev IE:cb:=top 48
abbrev FH:cb:=top 49
abbrev GK:cb:=top 50
abbrev GL:cb:=top 51
abbrev FI:cb:=top 52
abbrev FJ:cb:=top 53
abbrev FK:cb:=top 54
abbrev Bc:cb:=top 55
abbrev GN:cb:=top 72
abbrev IF:cb:=top 57
abbrev IG:cb:=top 58
abbrev Po:cb:=top 81
abbrev O0:cb:=top 82
abbrev Pp:cb:=top 83
abbrev IH:cb:=top 84
abbrev F2:cb:=top 85
abbrev GO:cb:=top 86
abbrev GP:cb:=top 87
abbrev Br:cb:=top 88
abbrev Hs:cb:=top 89
abbrev F3:cb:=top 90
abbrev Hu:cb:=top 91
abbrev Hv:cb:=top 92
abbrev JG:cb:=top 93
abbrev Hw:cb:=top 94
abbrev GQ:cb:=top 95
abbrev Hx:cb:=top 96
abbrev Hy:cb:=top 97
abbrev Hz:cb:=top 98
abbrev II:cb:=top 99
abbrev HR:cb:=top 100
abbrev HS:cb:=top 101
abbrev GR:cb:=top 102
abbrev GS:cb:=top 103
abbrev FN:cb:=top 104
abbrev uM:cb:=top 105
abbrev GU:cb:=inClass (top 76) 0
abbrev GV:cb:=inClass (top 76) 1
abbrev Gk:cb:=inClass (top 60) 0
abbrev GW:cb:=inClass (top 60) 1
abbrev GX:cb:=inClass (top 60) 2
abbrev GY:cb:=inClass (top 60) 3
abbrev Fs:cb:=inClass (top 60) 4
abbrev Gm:cb:=inClass (top 60) 5
abbrev Fh:cb:=inClass (top 60) 6
abbrev F4:cb:=inClass (top 60) 8
abbrev FO:cb:=inClass (top 60) 12
abbrev EY:cb:=inClass (top 60) 13
abbrev Gn:cb:=inClass (top 60) 14
abbrev Ft:cb:=inClass (top 60) 7
abbrev F5:cb:=inClass (top 71) 0
abbrev Fu:cb:=inClass (top 71) 1
abbrev Gp:cb:=inClass (top 71) 2
abbrev Gq:cb:=inClass (top 71) 3
abbrev F6:cb:=inClass (top 71) 4
abbrev F7:cb:=inClass (top 71) 5
abbrev Fv:cb:=inClass (top 71) 10
abbrev Fi:cb:=inClass (top 71) 11
abbrev F8:cb:=inClass (top 71) 12
abbrev Gr:cb:=inClass (top 71) 13
abbrev E7:cb:=inClass (top 71) 17
abbrev E5:cb:=inClass (top 71) 18
abbrev FP:cb:=inClass (top 71) 19
abbrev Fj:cb:=inClass (top 71) 20
abbrev FQ:cb:=inClass (top 71) 21
abbrev Fw:cb:=inClass (top 71) 22
abbrev E8:cb:=inClass (top 71) 23
abbrev Fe:cb:=inClass (top 71) 24
abbrev Ff:cb:=inClass (top 71) 16
abbrev F9:cb:=inClass (top 71) 6
abbrev Fx:cb:=inClass (top 4) 0
abbrev Fy:cb:=inClass (top 11) 0
abbrev Fm:cb:=inClass (top 12) 0
abbrev E9:cb:=inClass (top 18) 0
abbrev U2:cb:=Po
abbrev TM:cb:=O0
abbrev U3:cb:=Pp
noncomputable abbrev pM:O ar:=["self","word","why"]
def Zay:aW pM pM (aL Fx):=.bp
def GZ(F:uY K "__init__" "KinError.__init__" Fx f fd)(m:Bl B):aI P w K B I aR 1 f fd pM (CI K):=by
 refine F.ok Zay (λj H Q E h=>?_) (λr A d s H j Q E g h=>?_)
 ·obtain⟨a,C,b,y,rfl,_⟩:=h;rfl
 obtain⟨a,C,b,y,rfl,i,e,k,p,o,q⟩:=h;refine⟨_,(ak (cz (Zfj rfl m.ZbK (aa (pv 0) (aa (ZeW (BC (K:=K) rfl (BM (pv 2) (λ_=>rfl))) (ZgK (Ke (KW g (pv 1)) (Ke bB (Ke (KW g (pv 2)) Zif)))) (pv 1)) ag)))) (av (ZgE (pv 0) (pv 1)))),?_⟩;refine mI ?_;intros;have fin:∀t:ar,KU K [.ref a,.str t] H λ_ H1=>UL K (hV 0) (hV 1) "word" {nx:=λ_ n=>Q .ay n,rt:=Q} [Z (.ref a),Z (.str b),Z (.str y)] H1:=λt=>
  ⟨a,C,.str t,rfl,e,i,_,rfl,_,rfl,a,C,rfl,e,k,.inl ⟨i,q⟩⟩
 have l:(1000200:Nat)<=sizeLine:=by rw[d6];omega
 refine⟨_,rfl,_,rfl,_,⟨QO,rfl⟩,?_⟩;refine bY (λc=>?_) (λc=>?_)
 ·refine⟨_,rfl,.inl ⟨b,rfl,QO,b,rfl,?_,?_⟩⟩
  ·rw[nj];show 0+b.length<=sizeLine;omega
  refine⟨_,rfl,?_,?_⟩
  ·rw[nj,nj];show 0+b.length+2<=sizeLine;omega
  refine⟨_,rfl,.inl ⟨y,rfl,QO,y,rfl,?_,?_,fin _⟩⟩
  ·rw[nj,nj,nj];show 0+b.length+2+y.length<=sizeLine;omega
  ·rw[nj,nj,nj];show 0+b.length+2+y.length<=sizeLine;omega
 ·exact⟨_,rfl,fin _⟩
def Zaz:aW kU kU (aL Fy):=.bp
def Zcv(F:uY K "__init__" "NoPerson.__init__" Fy f fd)(k:zJ K t "__init__" r)(d:aI P w K B I aR 1 r i pM (CI K))(j:Binds K i pM [])(m:B "KinError"=Z (.ref t))(e:dR K c)(l:dA K c "word"):
  aI P w K B I aR 2 f fd kU (CK "no person" c):=by
 refine F.ok Zaz (λg H Q E h=>?_) (λu A b s H g Q E o h=>?_)
 ·refine iF h λa y v _=>?_;subst v;rfl
 refine dE h λa y v p n q=>?_;subst v;refine⟨_,(av (cz (IZ k d (o.mono QO) rfl m j .nil uJ (aa (pv 0) (aa bB (aa (pv 1) ag)))))),?_⟩;exact⟨_,rfl,_,rfl,a,c,_,y,rfl,p,e,l,QD,n,q⟩
def Zan:aW kU kU (aL Fm):=.bp
def ZbO(F:uY K "__init__" "NoSection.__init__" Fm f fd)(k:zJ K t "__init__" r)(d:aI P w K B I aR 1 r i pM (CI K))(j:Binds K i pM [])(m:B "KinError"=Z (.ref t))(e:dR K c)(l:dA K c "word"):
  aI P w K B I aR 2 f fd kU (CK "no section" c):=by
 refine F.ok Zan (λg H Q E h=>?_) (λu A b s H g Q E o h=>?_)
 ·refine iF h λa y v _=>?_;subst v;rfl
 refine dE h λa y v p n q=>?_;subst v;refine⟨_,(av (cz (IZ k d (o.mono (by decide)) rfl m j .nil uJ (aa (pv 0) (aa bB (aa (pv 1) ag)))))),?_⟩;exact⟨_,rfl,_,rfl,a,c,_,y,rfl,p,e,l,QD,n,q⟩
def Zaf:aW kU kU (aL E9):=.bp
def Za0(F:uY K "__init__" "NothingLeft.__init__" E9 f fd)(k:zJ K t "__init__" r)(d:aI P w K B I aR 1 r i pM (CI K))(j:Binds K i pM [])(m:B "KinError"=Z (.ref t))(e:dR K c)(l:dA K c "word"):
  aI P w K B I aR 2 f fd kU (CK "nothing left" c):=by
 refine F.ok Zaf (λg H Q E h=>?_) (λu A b s H g Q E o h=>?_)
 ·refine iF h λa y v _=>?_;subst v;rfl
 refine dE h λa y v p n q=>?_;subst v;refine⟨_,(av (cz (IZ k d (o.mono QO) rfl m j .nil uJ (aa (pv 0) (aa bB (aa (pv 1) ag)))))),?_⟩;exact⟨_,rfl,_,rfl,a,c,_,y,rfl,p,e,l,QD,n,q⟩
noncomputable abbrev D1:O ar:=["_law_script","_law_k"]
def ZiV:aW D1 D1 (aL U2):=⟨rfl,rfl,rfl,QK,rfl,QK,QK⟩
def Zg8(F:aT K "_law_cell" "_law_cell" U2 f fd)(j:B "len"=aJ):aI P w K B I aR 1 f fd D1 (Tn K):=by
 refine F.ok ZiV (λg H Q E h=>?_) (λn A b s H g Q E m h=>?_)
 ·obtain⟨a,i,k,rfl,_⟩:=h;rfl
 obtain⟨a,i,k,rfl,d,l,q⟩:=h;refine⟨_,ak (aX (bO oZ (pv 1) (iu OQ rfl j Ck (aa (pv 0) ag))) (av (aK (UE Ka (pv 0) (pv 1) (λ_ _=>rfl)))) a_)
  (av (aK aP)),?_⟩
 refine⟨_,rfl,_,rfl,a,_,rfl,.inl d,_,_,rfl,rfl,_,rfl,?_⟩;refine bY (λc=>?_) (λc=>?_)
 ·have e:=fI c;rw[(Ya _)] at e;exact⟨_,rfl,_,rfl,a,_,_,_,rfl,rfl,d,oX l e,q _⟩
 ·exact q _
noncomputable abbrev D3:O ar:=["_law_cell_here","_law_parts"]
def qx:aW ["_law_cell_here","_law_parts","_law_one","_law_two","_law_six","_law_found","_law_part"] D3 (aL TM):=⟨rfl,rfl,rfl,QK,rfl,QK,QK⟩
def ZfM(F:aT K "_law_draws" "_law_draws" TM f fd)(X:B "abs"=aJ):aI P w K B I aR 1 f fd D3 (Kc K):=by
 refine F.ok qx (λvs H Q E h=>?_) (λbR A D s H vs Q E hr h=>?_)
 ·obtain⟨c,a,v,rfl,_⟩:=h;rfl
 obtain⟨c,a,v,rfl,hS,J,hlen,q⟩:=h;refine⟨_,ak (aX (bO oZ (iu Qx rfl X Th (aa (pv 0) ag)) (bA KD aP aP))
   (ak (iC (i:=2) qx.nd rfl (hY rfl) (bA eM (bA iQ (bA qz (pv 0) aP) aP) aP))
   (ak (iC (i:=3) qx.nd rfl (hY rfl) (bA eM (bA iQ (bA iQ (bA qz (pv 2) (pv 2)) (bA qz aP (pv 2))) (pv 0)) aP))
   (ak (iC (i:=4) qx.nd rfl (hY rfl) (bA eM (bA iQ (bA qz (pv 3) aP) (pv 2)) aP))
   (av (iC (i:=0) qx.nd rfl (hY rfl) (bA iQ (pv 3) (bA qz aP (bA iQ (pv 4) (bA qz aP (pv 2))))))))))
   (av (iC (i:=0) qx.nd rfl (hY rfl) (bA Ci (iu Qx rfl X Th (aa (pv 0) ag)) (bA KD aP aP)))))
  (ak (iC (i:=5) qx.nd rfl (hY rfl) (zt ag))
  (ak (fS iJ rfl (RI (pv 1)) (qw (i:=6) qx.nd rfl (hY rfl))
   (ak (cz (kJ lg me lW yY (pv 5) (aa (bA eM (pv 0) (pv 6)) ag)))
   (av (iC (i:=0) qx.nd rfl (hY rfl) (bA BZ (pv 0) (pv 6))))))
  (av (aK (pv 5))))),?_⟩
 refine hU (λm H'=>H'=H/\∃R j g d,m=[Z (.int R),Z (.ref a),j,g,d,aJ,aJ]) (λnx k=>?_) ?_
 ·refine⟨_,rfl,c,rfl,_,_,rfl,rfl,⟨QD,QD,QD⟩,_,_,rfl,rfl,_,rfl,?_⟩;refine bY (λ_=>?_) (λ_=>?_)
  ·refine⟨_,rfl,_,_,rfl,rfl,.inr ⟨QD,QD⟩,_,_,rfl,rfl,_,_,rfl,rfl,(by show(0:Int)<2147483647;decide),?_⟩;refine⟨_,rfl,_,rfl,_,_,rfl,rfl,.inl (Zh8 _ QD QD),_,rfl,_,_,rfl,rfl,.inl ⟨QD,QD⟩,_,_,rfl,rfl,_,rfl,_,_,rfl,rfl,_,_,rfl,rfl,(by show(0:Int)<2147483399;decide),?_⟩;refine⟨_,rfl,_,_,rfl,rfl,.inr ⟨QD,QD⟩,_,rfl,_,_,rfl,rfl,_,_,rfl,rfl,(by show(0:Int)<1000000007;decide),?_⟩;refine⟨_,rfl,_,rfl,_,rfl,_,_,rfl,rfl,.inl ⟨QD,QD⟩,_,_,rfl,rfl,_,_,rfl,rfl,.inl ⟨QD,QD⟩,_,_,rfl,rfl,k _ _ ⟨rfl,_,_,_,_,rfl⟩⟩
  ·exact⟨_,rfl,c,rfl,_,_,rfl,rfl,⟨QD,QD,QD⟩,_,_,rfl,rfl,k _ _ ⟨rfl,_,_,_,_,rfl⟩⟩
 ·rintro m T ⟨rfl,R,j,g,d,rfl⟩;refine⟨(by show 0<=sizeLine;decide),λl N=>?_⟩;have W:aj T (upd T l (.lst [])):=cF N _;refine⟨_,rfl,a,rfl,⟨_,W.seq hS⟩,jE (K:=K) (a:=a) (xs:=v.map V.int) (λi m r=>∃c j g d G n,m=[Z (.int c),Z (.ref a),j,g,d,Z (.ref l),G]/\aj T r/\r l=Z (.lst (n.map V.int))/\Paired Bd n (v.take i))
   ⟨R,j,g,d,aJ,[],rfl,W,a9,by rw[zj];exact .nil⟩ (λi m r _ ⟨_,_,_,_,_,_,_,t,_⟩=>t.seq hS) ?_ ?_⟩
  ·intro i y m r hi ZH;refine qL ZH λc j g d G n A4 t z u=>?_;subst A4;refine bo (mM hi) λp gV L=>?_;subst gV;have eP:i<v.length:=(Yh.mp L).1;refine gb (J p (Yg L)) λx p1=>?_;have dl:=u.length;rw[Wb] at dl;refine⟨_,rfl,.inl ⟨rfl,_,aq.of z⟩,_,rfl,_,rfl,_,_,rfl,rfl,x,l,_,_,rfl,rfl,z,(by rw[Ya];exact lE QO),?_⟩;refine⟨_,rfl,_,rfl,_,_,rfl,rfl,⟨x,p1⟩,?_⟩;refine⟨_,j,g,d,_,n++[c % p],rfl,λb o e=>?_,?_,?_⟩
   ·rw[aS (cC e N)];exact t b o e
   ·rw[a9,QC]
   ·rw[Y1,L];exact u.snoc ⟨W9 _ (MS x),Wv _ x⟩
  ·intro m r ZH;refine qL ZH λc j g d G n A4 t z u=>?_;subst A4;rw[Ya,Wd] at u;exact⟨_,rfl,q l n r N t z u⟩
noncomputable abbrev Ng:O ar:=["_law_code","_law_size"]
def zD:aW ["_law_code","_law_size","_law_free","_law_found","_law_k"] Ng (aL U3):=⟨rfl,rfl,rfl,QK,rfl,QK,QK⟩
def Zg9(F:aT K "_law_turn" "_law_turn" U3 f fd)(mL:B "list"=aJ)(J:B "range"=aJ)(mT:B "tuple"=aJ):aI P w K B I aR 1 f fd Ng To:=by
 refine F.ok zD (λvs H Q E h=>?_) (λbR A x s H vs Q E hr h=>?_)
 ·obtain⟨c,n,rfl,_⟩:=h;rfl
 obtain⟨c,n,rfl,hn,q⟩:=h;refine⟨_,ak (iC (i:=2) zD.nd rfl (hY rfl) (fC (FY rfl) rfl mL uq (aa (fC Bi rfl J uj (aa (pv 1) ag)) ag)))
  (ak (iC (i:=3) zD.nd rfl (hY rfl) (zt ag))
  (ak (fS iJ rfl (nK rfl J (aa (pv 1) ag)) (qw (i:=4) zD.nd rfl (hY rfl))
   (ak (cz (kJ lg me lW yY (pv 3) (aa (kJ lg slot_list_pop type_list_pop Ze6 (pv 2) (aa (bA eM (pv 0) (bA Ci (pv 1) (pv 4))) ag)) ag)))
   (av (iC (i:=0) zD.nd rfl (hY rfl) (bA BZ (pv 0) (bA Ci (pv 1) (pv 4)))))))
  (av (aK (fC wk rfl mT nM (aa (pv 3) ag)))))),?_⟩
 refine⟨_,rfl,_,rfl,λr X=>?_⟩;refine⟨r,n,rfl,a9,QO,λu L=>?_⟩;refine⟨(by show 0<=sizeLine;decide),λl z=>?_⟩;have W:aj H (upd H r (.kQ 0 (n:Int))):=cF X _;have T:=W.trans (cF L (.lst ((bQ n).map V.int)));have g3:=T.trans (cF z (.lst []));have G:=cC a9 z;refine⟨_,rfl,(n:Int),rfl,QO,QO,yW (λi m g=>∃c y a fs,m=[Z (.int c),Z (.int (n:Int)),Z (.ref u),Z (.ref l),y]/\aj H g/\g u=Z (.lst (fs.map V.int))/\g l=Z (.lst (a.map V.int))/\(a++fs).Perm (bQ n)/\a.length=i)
  ⟨c,aJ,[],bQ n,rfl,g3,by rw[aS G];exact a9,a9,by rw[X4],rfl⟩ ?_ ?_⟩
 ·rintro i m g hi ⟨c,y,a,fs,rfl,j,D,p,d,dl⟩;have v:=d.length_eq;rw[Yj,fR,dl] at v;have k:(0:Int)<(n:Int)-(0+(i:Int)):=QO
  have m0:=W9 c (MS k);have m1:=Wv c k;have R:(c % ((n:Int)-(0+(i:Int)))).toNat<fs.length:=QO
  refine⟨_,rfl,.inl ⟨rfl,_,aq.of p⟩,_,rfl,.inl ⟨rfl,_,aq.of D⟩,_,rfl,_,rfl,_,rfl,_,_,rfl,rfl,_,_,rfl,rfl,k,u,_,_,_,.int fs[(c % ((n:Int)-(0+(i:Int)))).toNat],rfl,rfl,D,QO,QO,((JZ (KO m0 (by rw[Ya];omega))).1),by rw[Ye,Yb R];rfl,?_⟩;refine⟨l,_,_,rfl,rfl,by rwa[aS G.symm],(by rw[Ya];exact lE QO),?_⟩;refine⟨_,rfl,_,rfl,_,rfl,_,_,rfl,rfl,_,_,rfl,rfl,⟨k,QO⟩,?_⟩;refine⟨_,_,a++[fs[(c % ((n:Int)-(0+(i:Int)))).toNat]],fs.eraseIdx (c % ((n:Int)-(0+(i:Int)))).toNat,rfl,λb o e=>?_,?_,?_,?_,?_⟩
  ·have nl:=cC (T b o e) z;have nu:=cC (W b o e) L;rw[aS nl,aS nu];exact j b o e
  ·rw[aS G,a9,PY]
  ·rw[a9,QC]
  ·refine List.Perm.trans ?_ d;rw[Jx];refine List.Perm.append_left a ?_;exact(Pc fs _ R).symm
  ·rw[Yj,List.length_singleton,dl]
 ·rintro m g ⟨c,y,a,fs,rfl,j,D,p,d,dl⟩;have v:=d.length_eq;rw[Yj,fR,dl] at v;have e:fs=[]:=List.eq_nil_of_length_eq_zero QO;rw[e,Wf] at d;refine⟨_,rfl,l,_,rfl,.inl ⟨aq.of p,λt N=>?_⟩⟩;exact q t a _ (j.free N) (j.trans (cF N _)) a9 d
def Zg_(h:Paired Bd ds [a,b,c,d,e]):∃v w x y z,ds=[v,w,x,y,z]/\Bd v a/\Bd w b/\Bd x c/\Bd y d/\Bd z e:=by
 cases h with|cons l h=>cases h with|cons k h=>cases h with|cons j h=>cases h with|cons i h=>cases h with|cons g h=>
  cases h
  grind
def bj(h:q (σ.set i (Z x)) H):n_ i x σ H q:=h
def TN{K:ah}{H:Hp}{p:U}{b:O V}{i:Nat}{x:V}{Q:VK}(a:aq K H p b\/az K H p b)(h:b[i]?=Z x)(q:Q x H):MJ K (.ref p) (.int (0+(i:Int))) H Q:=by
 rcases a with a|a;·exact .inl ⟨p,_,_,_,rfl,rfl,a,nN h,q⟩
 ·exact .inr (.inl ⟨p,_,_,_,rfl,rfl,a,nN h,q⟩)
def BP(v:V):decide (v=v)=af:=d9 rfl
theorem all_true(n:Nat):(List.replicate n af).all id=af:=by
 induction n with
 |zero=>rfl
 |succ n a=>rw[Od,Jq,a];rfl
inductive Q6(m:Nat)(a:O V)(H:Hp)(Q:VK):Prop
 |mk (x y:V) (d:Dt) (k:Nat) (i:a=[x,y]) (g:m=k+1) (h:At H k x d) (c:At H k y d) (e:∀b,aj H b->Q (.bl af) b):Q6 m a H Q
def r8(m:Nat):Sp:=λa H Q _=>Q6 m a H Q
section
variable {K:ah}{X:a8}
noncomputable abbrev oN:O ar:=["_law_found","_law_due"]
def Zcw:aW oN oN (aL Br):=.bp
theorem ZfN(F:aT K "_law_same" "_law_same" Br f fd)(nJ:HasFn P w K X I n "_law_same" oN (r8 n))(j:Bl X):aI P w K X I aR (n+1) f fd oN (r8 (n+1)):=by
 refine F.o Zcw λs H hr h=>?_;obtain⟨x,y,d,k,rfl,ek,l,u,q⟩:=h;obtain rfl:k=n:=(Eq.symm (Nat.add_right_cancel ek))
 have hu:=hr.w_;refine⟨_,(ak (aX (bO KG (pv 1) lI) (av (aK (fX KG (pv 0) lI))) a_) (ak (aX (d5 (jX K j (pv 1) (jJ rfl j.zA zd))) (av (aK (qy (jX K j (pv 0) (jJ rfl j.zA zd)) (nU (fX cP (pv 0) (pv 1)))))) a_) (ak (aX (d5 (jX K j (pv 1) (jJ rfl j.Lq KP))) (av (aK (qy (jX K j (pv 0) (jJ rfl j.Lq KP)) (qy (ZhS (jX K j (pv 0) (jJ rfl j.zA zd))) (nU (fX cP (pv 0) (pv 1))))))) a_) (ak (aX (d5 (jX K j (pv 1) (jJ rfl j.zK zx))) (av (aK (qy (jX K j (pv 0) (jJ rfl j.zK zx)) (nU (fX cP (pv 0) (pv 1)))))) a_) (ak (aX (PW.pt (pw_or (bO iU (jX K j (pv 1) (jJ rfl j.uA uq)) (jX K j (pv 0) (jJ rfl j.uA uq))) (pw_or1 (bO iU (jX K j (pv 1) (jJ rfl j.nO nM)) (jX K j (pv 0) (jJ rfl j.nO nM)))))) (av (aK d7)) a_) (ak (aX (bO iU (dv K j (pv 0)) (dv K j (pv 1))) (av (aK d7)) a_) (av (aK (iu (VJ (K:=K) rfl rfl) rfl j.UQ Ti (aa (jG (x:="_law_k") (fr:=[("_law_found",0),("_law_due",1)]) (cl:=[("_law_found",s.heap.objs.size+1),("_law_due",s.heap.objs.size+1+1)]) rfl (.ia ⟨rfl,⟨rfl,trivial⟩⟩ ⟨⟨rfl,.inl rfl,.inl rfl,rfl⟩,⟨⟨rfl,.inl rfl,.inl rfl,rfl⟩,trivial⟩⟩) (nK rfl j.jk (aa (dv K j (pv 1)) ag)) (λ_ _ _ _=>lH) (λ_ _ _ _=>(Lo nJ hr (Nat.le_refl _) rfl (aa (bc (R1 (K:=K) rfl) (pv 1) (pv 0)) (aa (bc (R1 (K:=K) rfl) (pv 2) (pv 0)) ag))))) ag)))))))))),?_⟩;refine zl7 ?_;intros;have sq:(∃(p r:U) (A v:O V) (G:O Dt) (t:a7) (b1 b2:cu) (m:Nat),x=.ref p/\y=.ref r/\ko K H (.ref p) t/\ko K H (.ref r) t/\kitOne K t (.type "bool")=Z bg/\kitOne K t (.type "int")=Z bg/\kitOne K t (.type "str")=Z bg/\
   kitOne K t (.type "list")=Z b1/\kitOne K t (.type "tuple")=Z b2/\(aq K H p A\/az K H p A)/\(aq K H r v\/az K H r v)/\G.length<=1000/\Paired (At H m) A G/\Paired (At H m) v G/\k=m+1)\/
   (x=.ay/\y=.ay)\/(∃b,x=.bl b/\y=.bl b)\/(∃i,x=.int i/\y=.int i)\/∃z,x=.str z/\y=.str z:=by
  cases d with
  |ay=>unfold At at l u;exact .inr (.inl ⟨l,u⟩)
  |bl b=>unfold At at l u;exact .inr (.inr (.inl ⟨b,l,u⟩))
  |int i=>unfold At at l u;exact .inr (.inr (.inr (.inl ⟨i,l,u⟩)))
  |str z=>unfold At at l u;exact .inr (.inr (.inr (.inr ⟨z,l,u⟩)))
  |lst G=>
   cases k with
   |zero=>unfold At at l;exact l.elim
   |succ m=>
    unfold At at l u;refine dE l λa A e0 J lz Q=>?_;refine dE u λb v Nj E _ N=>?_;exact .inl ⟨a,b,A,v,G,.type "list",af,bg,m,e0,Nj,.lst J,.lst E,Zii,Zij,Zik,Tw,Zil,.inl (aq.of J),.inl (aq.of E),lz,Q,N,rfl⟩
  |tup G=>
   cases k with
   |zero=>unfold At at l;exact l.elim
   |succ m=>
    unfold At at l u;refine dE l λa A e0 J lz Q=>?_;refine dE u λb v Nj E _ N=>?_;exact .inl ⟨a,b,A,v,G,.type "tuple",bg,af,m,e0,Nj,.tup J,.tup E,Zim,Zin,Zio,Ziq,Tx,.inr (az.of J),.inr (az.of E),lz,Q,N,rfl⟩
 clear l u;rcases sq with⟨p,r,A,v,G,t,b1,b2,m,rfl,rfl,T1,T,kb,ki,ksr,kl,kt,hp,hq,hz,Q,N,ek⟩|⟨rfl,rfl⟩|⟨b,rfl,rfl⟩|⟨i,rfl,rfl⟩|⟨z,rfl,rfl⟩
 ·have l1:=c7 Q;have l2:=c7 N;refine⟨_,rfl,rfl,_,rfl,?_⟩;refine bY (λc=>absurd (fI c) (λz=>nomatch z)) (λ_=>aZ ?_);refine⟨_,rfl,_,_,_,bg,rfl,T,kb,_,rfl,bV (aZ ?_)⟩;refine⟨_,rfl,_,_,_,bg,rfl,T,ki,_,rfl,bV (aZ ?_)⟩;refine⟨_,rfl,_,_,_,bg,rfl,T,ksr,_,rfl,bV (aZ ?_)⟩;refine⟨_,rfl,_,_,_,b1,rfl,T,kl,_,rfl,_,_,_,b1,rfl,T1,kl,rfl,_,rfl,xl rfl ?_⟩;refine⟨_,rfl,_,_,_,b2,rfl,T,kt,_,rfl,_,_,_,b2,rfl,T1,kt,rfl,_,rfl,xl rfl (aZ ?_)⟩;refine⟨_,rfl,p,_,rfl,hp,_,rfl,r,_,rfl,hq,rfl,_,rfl,xl (by rw[l1,l2]) (aZ ?_)⟩;refine⟨_,rfl,r,_,rfl,hq,_,rfl,QO,QO,λD hD=>yQ (lo:=0) (n:=((v.length:Nat):Int).toNat)
   (λi W L=>aj H L/\L D=Z (.lst W)/\W=(List.replicate i af).map V.bl) ⟨cF hD _,a9,rfl⟩ ?_ ?_⟩
  ·rintro i W L hi ⟨g,h1,rfl⟩;rw[Y7] at hi;have sq:∀{a:U} {R:O V},(aq K H a R\/az K H a R)->(aq K L a R\/az K L a R):=λ{a R} z=>by
    rcases z with z|z;·exact .inl (g.seq z)
    ·exact .inr (g.kz z)
   have gx:A[i]?=Z A[i]:=Yb QO;have gy:v[i]?=Z v[i]:=Yb hi;refine bo (gf Q gx) λd1 J a1=>?_;refine bo (gf N gy) λd2 E a2=>?_;rw[J] at E;cases E;refine kL (c6 ?_);refine⟨_,rfl,_,rfl,TN (sq hp) gx ?_⟩;refine⟨_,rfl,_,rfl,TN (sq hq) gy ?_⟩;refine⟨_,_,d1,m,rfl,ek,a1.same g,a2.same g,λH2 g2=>?_⟩;refine⟨g2 _ _ h1,by rw[Ya,W1];exact lE QO,λb o e=>?_,a9,?_⟩
   ·rw[aS (cC e hD)];exact g2 b o (g b o e)
   ·rw[Nh,Yn];rfl
  ·rintro W L ⟨g,h1,e⟩;refine⟨D,_,rfl,aq.of (by rw[h1,e]),?_⟩;rw[all_true];exact q L g
 ·refine⟨_,rfl,rfl,_,rfl,?_⟩;refine bY (λc=>?_) (λc=>absurd (BP _) c);exact⟨_,rfl,rfl,q H (aj.refl H)⟩
 ·refine⟨_,rfl,rfl,_,rfl,?_⟩;refine bY (λc=>absurd (fI c) (λz=>nomatch z)) (λ_=>aZ ?_);refine⟨_,rfl,_,_,_,af,rfl,.bl b,Tu,_,rfl,c6 ?_⟩;refine⟨_,rfl,_,_,_,af,rfl,.bl b,Tu,_,rfl,c6 ?_⟩;refine⟨_,rfl,_,rfl,rfl,?_⟩;rw[BP];exact q H (aj.refl H)
 ·refine⟨_,rfl,rfl,_,rfl,?_⟩;refine bY (λc=>absurd (fI c) (λz=>nomatch z)) (λ_=>aZ ?_);refine⟨_,rfl,_,_,_,bg,rfl,.int i,Cn,_,rfl,bV (aZ ?_)⟩;refine⟨_,rfl,_,_,_,af,rfl,.int i,KY,_,rfl,c6 ?_⟩;refine⟨_,rfl,_,_,_,af,rfl,.int i,KY,_,rfl,c6 ?_⟩;refine⟨_,rfl,_,_,_,bg,rfl,.int i,Cn,_,rfl,_,rfl,c6 ?_⟩;refine⟨_,rfl,_,rfl,rfl,?_⟩;rw[BP];exact q H (aj.refl H)
 ·refine⟨_,rfl,rfl,_,rfl,?_⟩;refine bY (λc=>absurd (fI c) (λz=>nomatch z)) (λ_=>aZ ?_);refine⟨_,rfl,_,_,_,bg,rfl,.str z,Zig,_,rfl,bV (aZ ?_)⟩;refine⟨_,rfl,_,_,_,bg,rfl,.str z,Zih,_,rfl,bV (aZ ?_)⟩;refine⟨_,rfl,_,_,_,af,rfl,.str z,Tv,_,rfl,c6 ?_⟩;refine⟨_,rfl,_,_,_,af,rfl,.str z,Tv,_,rfl,c6 ?_⟩;refine⟨_,rfl,_,rfl,rfl,?_⟩;rw[BP];exact q H (aj.refl H)
def same_none:aI P w K X I aR 0 f fd oN (r8 0):=by
 have no:∀a H Q E,¬r8 0 a H Q E:=λa H Q E h=>by
  obtain⟨_,_,_,_,_,z,_⟩:=h;omega
 exact⟨λa H Q E h=>absurd h (no a H Q E),λA b s H c d a Q E _ _ _ _ h=>absurd h (no a H Q E)⟩
theorem Sf(F:aT K "_law_same" "_law_same" Br f fd)(c:Binds K fd oN [])(a:keepIn K (.ref f)=af)(m:X "_law_same"=Z (.ref f))(b:Bl X):
  ∀n:Nat,aI P w K X I aR n f fd oN (r8 n)
 |0=>same_none
 |n+1=>ZfN F ⟨f,fd,Sf F c a m b n,c,a,m⟩ b
end
inductive TQ(K:ah)(b:O V)(H:Hp)(Q:VK):Prop
 |mk (p:U) (a:O Int) (h:b=[.ref p]) (e:Row K H p a) (g:a.length<64) (d:∀c,aj H c->Q (.bl (full a)) c):TQ K b H Q
def L5(K:ah):Sp:=λa H Q _=>TQ K a H Q
noncomputable def b_(a b:O Int):O Int:=b.map λx=>a.getD x.toNat 0
def rR(h:full a=af)(c:x∈a):0<=x/\x<a.length:=by
 have b:=(rG h).subset c;unfold bQ at b;obtain⟨i,d,rfl⟩:=Yf.mp b;have:=Wg.mp d;omega
noncomputable abbrev kA:O ar:=["row"]
def Zdu:aW kA kA (aL IC):=.bp
def Zdv(F:aT K "is_turn" "is_turn" IC f fd)(n:Bl B):aI P w K B I aR 1 f fd kA (L5 K):=by
 refine F.o Zdu @λbR A G vs Q E s H hr h=>?_;obtain⟨p,r,rfl,N,X,q⟩:=h;have hu:=hr.w_;refine⟨_,(ak (aX (d5 (iu (Zkq (K:=K) rfl rfl) rfl n.Zjz Zh9 (aa (jG (x:="number") (fr:=[]) (cl:=[]) rfl (.ia trivial trivial) (Zh7 (pv 0)) (λ_ _ _ _=>lH) (λ_ _ _ _=>(jX K n (pv 0) (jJ rfl n.zA zd)))) ag))) (av (aK d7)) a_) (av (aK (fX (Tg hu) (iu (sortedK (K:=K) rfl) rfl n.BO BA (aa (pv 0) ag)) (fC (FY rfl) rfl n.uA uq (aa (fC Bi rfl n.jk uj (aa (dv K n (pv 0)) ag)) ag)))))),?_⟩;refine mI ?_;intros;have L:(r.map V.int).length=r.length:=Ya _;have k:∀(D:U) (a:Hp),aj H a->a D=Z (.lst ((List.replicate r.length bg).map V.bl))->
   ∃(T:U) (bs:O cu),[V.ref D]=[V.ref T]/\aq K a T (bs.map V.bl)/\tB (tC (V.bl (bs.any id))) [] a (λc W=>if c=af then Q (.bl bg) W else
    (UT K bg (hV 0)) [Z (.ref p)] W Q):=λD a R m=>by
  refine⟨D,_,rfl,aq.of m,_,rfl,?_⟩;rw[any_false];refine bV ?_;exact Zfm rfl (Row.same R N) X λH' g=>q H' (R.trans g)
 have j:∀(D:U),H D=aJ->∀(i:Nat) (v:V) (d:O V) (a:Hp),(r.map V.int)[i]?=Z v->(aj H a/\a D=Z (.lst d)/\d=(List.replicate i bg).map V.bl)->
   oG (CZ K) (iV (hV 0) (iV (tC (V.ty "bool")) jO)) [Z v] a λy J=>J D=Z (.lst d)/\d.length<sizeLine/\
    (aj H (upd J D (.lst (d++[y])))/\upd J D (.lst (d++[y])) D=Z (.lst (d++[y]))/\d++[y]=(List.replicate (i+1) bg).map V.bl):=λD l i v d a t ⟨g,m,e⟩=>by
  obtain⟨z,rfl,hz⟩:=mM t;have eP:i<r.length:=(Yh.mp hz).1;refine⟨_,rfl,_,_,_,bg,rfl,.int z,Cn,m,?_,λb o q=>?_,a9,?_⟩
  ·rw[e,Ya,W1];exact lE QO
  ·rw[aS (cC q l)];exact g b o q
  ·rw[e,Nh,Yn];rfl
 refine⟨_,rfl,p,rfl,?_⟩;rcases N with u|u
 ·refine .inl ⟨⟨_,u⟩,λD l=>Iq (λi d a=>aj H a/\a D=Z (.lst d)/\d=(List.replicate i bg).map V.bl) ⟨cF l _,a9,rfl⟩ (λi d a _ ⟨g,_,_⟩=>g.seq u) (λi v d a t h=>kL (c6 (j D l i v d a t h))) ?_⟩;rintro d a ⟨g,m,e⟩;exact k D a g (by rw[m,e,L])
 ·refine .inr ⟨⟨_,u⟩,λD l=>BN (λi d a=>aj H a/\a D=Z (.lst d)/\d=(List.replicate i bg).map V.bl) ⟨cF l _,a9,rfl⟩ (λi d a _ ⟨g,_,_⟩=>g.kz u) (λi v d a t h=>kL (c6 (j D l i v d a t h))) ?_⟩;rintro d a ⟨g,m,e⟩;exact k D a g (by rw[m,e,L])
inductive Sg(K:ah)(g:O V)(H:Hp)(Q:VK):Prop
 |mk (a b:U) (c d:O Int) (m:g=[.ref a,.ref b]) (k:az K H a (c.map V.int)) (l:az K H b (d.map V.int)) (i:(∀x∈c,0<=x/\x<d.length)) (j:c.length<64) (h:∀(t:U) (e:Hp),H t=aJ->aj H e->e t=Z (.tup ((b_ d c).map V.int))->Q (.ref t) e):Sg K g H Q
def Lw(K:ah):Sp:=λa H Q _=>Sg K a H Q
noncomputable abbrev pN:O ar:=["first","then"]
def Zcx:aW pN pN (aL Hm):=.bp
def Zcy(F:aT K "followed" "followed" Hm f fd)(N:Bl B):aI P w K B I aR 1 f fd pN (Lw K):=by
 refine F.o Zcx λs H Q h=>?_;obtain⟨a,b,k,m,rfl,y,L,G,R,q⟩:=h;have E:(b_ m k).length=k.length:=by unfold b_;rw[Ya]
 refine⟨_,(av (aK (fC (wk) rfl N.nO nM (aa (jG (x:="section") (fr:=[("then",1)]) (cl:=[("then",s.heap.objs.size+1)]) rfl (.ia ⟨rfl,trivial⟩ ⟨⟨rfl,.inl rfl,.inl rfl,rfl⟩,trivial⟩) (KC (pv 0)) (λ_ _ _ _=>lH) (λ_ _ _ _=>(bc (iT K) (pv 1) (pv 0)))) ag)))),?_⟩;refine⟨_,rfl,a,rfl,⟨_,y⟩,λD u=>BN (λi e g=>aj H g/\g D=Z (.lst e)/\e=((b_ m k).take i).map V.int) ⟨cF u _,a9,rfl⟩ (λi e g _ ⟨c,_,_⟩=>c.kz y) ?_ ?_⟩
 ·rintro i v e g J ⟨c,l,j⟩;obtain⟨z,rfl,p⟩:=mM J;have A:=G z (Yg p);refine kL (c6 ⟨_,rfl,_,rfl,b,_,_,_,rfl,rfl,c.kz L,oX A.1 A.2,l,?_,λd o n=>?_,a9,?_⟩)
  ·rw[j,Ya,Wb,E];exact lE QO
  ·rw[aS (cC n u)];exact c d o n
  ·rw[j,Y1,Ir];unfold b_;rw[Ye,p];rfl
 ·rintro e g ⟨c,l,j⟩;refine⟨D,_,rfl,.inl ⟨aq.of l,λt r=>q t _ (c.free r) (c.trans (cF r _)) ?_⟩⟩;rw[a9,j,Ya,Wx (by rw[E];exact Nat.le_refl _)]
noncomputable def lN(x:Int):O Int->Nat
 |[]=>0
 |y::r=>if y=x then 0 else lN x r+1
theorem BQ{x:Int}:∀{l:O Int},x∈l->l[lN x l]?=Z x/\∀m,m<lN x l->l[m]?≠Z x
 |[],h=>by cases h
 |y::r,h=>by
  unfold lN;by_cases e:y=x;·simp_all
  ·rw[bF e];obtain⟨c,b⟩:=BQ ((Ym.mp h).resolve_left λz=>e z.symm);refine⟨by rwa[X6],λm a=>?_⟩;cases m with
   |zero=>simp_all
   |succ m=>simp_all
def BE(b:l.Nodup)(h:l[k]?=Z x):lN x l=k:=by
 obtain⟨a,c⟩:=BQ (Yg h);exact(List.getElem?_inj (by rcases Yh.mp a with⟨z,_⟩;exact z) b).mp (a.trans h.symm)
def inv(a:O Int):O Int:=(bQ a.length).map λi=>(lN i a:Int)
def hJ(a:O Int):(inv a).length=a.length:=by unfold inv;rw[Ya,fR]
def B9{i:Nat}(h:i<xs.length):(inv xs)[i]?=Z (lN (i:Int) xs:Int):=by
 unfold inv;rw[Ye,nL h];rfl
def Bs(h:full xs=af):xs.Nodup:=(rG h).nodup_iff.mpr (DP.Hi _)
def Q7(h:full xs=af)(a:i<xs.length):(i:Int)∈xs:=(rG h).symm.subset (Yg (nL a))
def lG(h:full xs=af):full (inv xs)=af:=by
 have p:(xs.map λi=>(lN i xs:Int)).Perm (inv xs):=(rG h).map _;have e:xs.map (λi=>(lN i xs:Int))=bQ xs.length:=by
  refine Wt λi=>?_;rw[Ye];by_cases a:i<xs.length
  ·rw[nL a,Yb a];show Z (lN xs[i] xs:Int)=Z (i:Int);rw[BE (Bs h) (Yb a)]
  ·rw[Y4 (Nat.le_of_not_lt a),Y4 (by rw[fR];exact Nat.le_of_not_lt a)];rfl
 rw[e] at p;exact ur p.symm
def inv_inv(h:full xs=af):inv (inv xs)=xs:=by
 refine Wt λi=>?_;by_cases a:i<xs.length
 ·rw[B9 (by rwa[hJ]),Yb a];have b:=rR h (J7 a);have c:(xs[i]).toNat<xs.length:=QO
  have e:((xs[i].toNat:Nat):Int)=xs[i]:=QO
  have g:(inv xs)[(xs[i]).toNat]?=Z (i:Int):=by rw[B9 c,e,BE (Bs h) (Yb a)]
  rw[BE (Bs (lG h)) g,e]
 ·rw[Y4 (by rw[hJ,hJ];exact Nat.le_of_not_lt a),Y4 (Nat.le_of_not_lt a)]
def Q8(a:i<xs.length):(inv xs).take (i+1)=(inv xs).take i++[(lN (i:Int) xs:Int)]:=by
 rw[Y1,B9 a];rfl
inductive TR(d:O V)(H:Hp)(Q:VK):Prop
 |mk (a:U) (b:O Int) (j:d=[.ref a]) (h:H a=Z (.tup (b.map V.int))) (i:b.length<64) (e:full b=af) (g:∀(t:U) (c:Hp),H t=aJ->aj H c->c t=Z (.tup ((inv b).map V.int))->Q (.ref t) c):TR d H Q
def C5:Sp:=λa H Q _=>TR a H Q
noncomputable abbrev pO:O ar:=["turn"]
def Za1:aW pO pO (aL F1):=.bp
def Za2(F:aT K "turned_back" "turned_back" F1 f fd)(p:Bl B):aI P w K B I aR 1 f fd pO C5:=by
 refine F.ok Za1 (λJ H Q E h=>?_) (λW A l s N J Q E T h=>?_)
 ·obtain⟨a,b,rfl,_⟩:=h;rfl
 obtain⟨a,b,rfl,z,R,L,q⟩:=h;refine⟨_,(av (aK (fC (wk) rfl p.nO nM (aa (jG (x:="section") (fr:=[("turn",0)]) (cl:=[("turn",s.heap.objs.size+1)]) rfl (.ia ⟨rfl,trivial⟩ ⟨⟨rfl,.inl rfl,.inl rfl,rfl⟩,trivial⟩) (nK rfl p.jk (aa (dv K p (pv 0)) ag)) (λ_ _ _ _=>lH) (λ_ _ _ _=>(OW (pv 1) (aa (pv 0) ag)))) ag)))),?_⟩;have g:(b.map V.int).length=b.length:=Ya _;refine⟨_,rfl,a,_,rfl,.inr (az.of z),_,rfl,by rw[g];omega,by rw[g];omega,λD y=>yQ
   (λi e k=>aj N k/\k D=Z (.lst e)/\e=((inv b).take i).map V.int) ⟨cF y _,a9,rfl⟩ ?_ ?_⟩
 ·intro i e k m X;refine c9 X λc n j=>?_;rw[Y7,g] at m;rw[AE];have u:=BQ (Q7 L m);have G:=c _ _ z;refine kL (c6 ⟨_,rfl,a,b,rfl,G,_,rfl,(i:Int),lN (i:Int) b,rfl,G,u.1,u.2,n,?_,λd o r=>?_,a9,?_⟩)
  ·rw[j,Ya,Wb,hJ];exact lE QO
  ·rw[aS (cC r y)];exact c d o r
  ·rw[j,Q8 m,Yn];rfl
 ·intro e k X;refine c9 X λc n j=>?_;refine⟨D,_,rfl,.inl ⟨aq.of n,λt v=>q t _ (c.free v) (c.trans (cF v _)) ?_⟩⟩;rw[a9,j,Y7,g,Wx (by rw[hJ];omega)]
inductive Qc(b:O V)(H:Hp)(Q:VK):Prop
 |mk (n:Nat) (e:b=[.int (n:Int)]) (c:n<=1000) (d:∀(t:U) (a:Hp),H t=aJ->aj H a->a t=Z (.tup ((bQ n).map V.int))->Q (.ref t) a):Qc b H Q
def Kk:Sp:=λa H Q _=>Qc a H Q
def ZfO:aW ["size"] ["size"] (aL Kj):=.bp
def ZfP(F:aT K "still" "still" Kj f fd)(c:Bl B):aI P w K B I aR 1 f fd ["size"] Kk:=by
 refine F.o ZfO λs H e h=>?_;obtain⟨n,rfl,d,q⟩:=h;refine⟨_,(av (aK (fC (OJ rfl) rfl c.nO nM (aa (fC Bi rfl c.jk uj (aa (pv 0) ag)) ag)))),?_⟩;exact⟨_,rfl,_,rfl,λr a=>⟨r,n,rfl,a9,d,λt b=>q t _ ((cF a _).free b) ((cF a _).trans (cF b _)) a9⟩⟩
inductive Sh(K:ah)(b:O V)(H:Hp)(Q:VK):Prop
 |mk (p:U) (a:O Int) (i:b=[.ref p]) (g:az K H p (a.map V.int)) (h:a.length<64) (d:full a=af) (e:∀c,aj H c->Q .ay c):Sh K b H Q
def Lx(K:ah):Sp:=λa H Q _=>Sh K a H Q
inductive TU(K:ah)(g:O V)(H:Hp)(Q:VK):Prop
 |mk (a b:U) (c d:O Int) (o:g=[.ref a,.ref b]) (m:az K H a (c.map V.int)) (n:az K H b (d.map V.int)) (k:c.length<64) (l:full c=af) (j:full d=af) (i:c.length=d.length) (h:∀(t:U) (e:Hp),H t=aJ->aj H e->e t=Z (.tup ((b_ d c).map V.int))->Q (.ref t) e):TU K g H Q
def L6(K:ah):Sp:=λa H Q _=>TU K a H Q
inductive TV(d:O V)(H:Hp)(Q:VK):Prop
 |mk (a:U) (b:O Int) (j:d=[.ref a]) (h:H a=Z (.tup (b.map V.int))) (i:b.length<64) (e:full b=af) (g:∀(t:U) (c:Hp),H t=aJ->aj H c->c t=Z (.tup ((inv b).map V.int))->Q (.ref t) c):TV d H Q
def VU:Sp:=λa H Q _=>TV a H Q
inductive Q9(K:ah)(c:O V)(H:Hp)(Q:VK):Prop
 |mk (l e:U) (d:O U) (n:Nat) (o:c=[.ref l]) (k:aq K H l ((e::d).map V.ref)) (m:2<=n) (i:n<=8) (j:(∀a∈e::d,∃b:O Int,az K H a (b.map V.int)/\b.length=n/\full b=af)) (h:∀g,aj H g->Q .ay g):Q9 K c H Q
def K6(K:ah):Sp:=λa H Q _=>Q9 K a H Q
inductive O1(K:ah)(c:O V)(H:Hp)(Q:VK):Prop
 |mk (m f w:U) (a b:O Int) (o:c=[.ref m,.ref f,.ref w]) (l:az K H m (a.map V.int)) (n:az K H f ((b_ a b).map V.int)) (j:az K H w (b.map V.int)) (k:full a=af) (i:full b=af) (h:a.length=b.length) (g:a.length<=8) (e:∀d,aj H d->Q .ay d):O1 K c H Q
def Qd(K:ah):Sp:=λa H Q _=>O1 K a H Q
def ug(b a:O Int):(b_ b a).length=a.length:=by unfold b_;rw[Ya]
def JH(g:full xs=af)(d:full a=af)(e:xs.length=a.length):full (b_ xs a)=af:=by
 have b:(b_ xs a).Perm ((bQ a.length).map λx=>xs.getD x.toNat 0):=(rG d).map _;have h:((bQ a.length).map λx=>xs.getD x.toNat 0)=xs:=by
  refine Wt λi=>?_;rw[Ye];by_cases c:i<a.length
  ·rw[nL c]
   simp_all
  ·rw[Y4 (by rw[fR];exact Nat.le_of_not_lt c),Y4 (Nat.le_trans (Nat.le_of_eq e) (Nat.le_of_not_lt c))];rfl
 rw[h] at b;exact ur (b.trans (rG g))
noncomputable abbrev ZjP(n:Nat)(m f w d:U):O (ar×V):=[("size",.int (n:Int)),("mother",.ref m),("father",.ref f),("wife",.ref w),("steps",.ref d)]
noncomputable abbrev zE(m f w d b c a:U):O (Key×V):=[(.inr "c",.ref m),(.inr "k",.ref f),(.inr "w",.ref w),(.inr "m",.ref d),(.inr "f",.ref b),(.inr "h",.ref c),(.inr "s",.ref a)]
def cq(H:Hp)(a:U)(b:O Int):Prop:=H a=Z (.tup (b.map V.int))
inductive Q_(H:Hp)(C L:U)(a b:O Int):Prop
 |mk (h d m f w g c e st:U) (r:H L=Z (.ins C h (ZjP a.length m f w d))) (p:H d=Z (.dK (zE m f w g c e st))) (q:cq H m a) (n:cq H f (b_ a b)) (o:cq H w b) (l:cq H g (inv a)) (k:cq H c (inv (b_ a b))) (j:cq H e (inv b)) (i:cq H st (bQ a.length)):Q_ H C L a b
def jH(H:Hp)(C L:U)(b a:O Int):Prop:=Q_ H C L b a
def jH.same(g:aj H s)(h:jH H C L xs ys):jH s C L xs ys:=by
 obtain⟨r,d,m,f,w,c,a,b,st,q,p,o,n,l,k,j,i,e⟩:=h;exact⟨r,d,m,f,w,c,a,b,st,g _ _ q,g _ _ p,g _ _ o,g _ _ n,g _ _ l,g _ _ k,g _ _ j,g _ _ i,g _ _ e⟩
inductive Ra(C:U)(e:O V)(H:Hp)(Q:VK):Prop
 |mk (x g m f w:U) (a c:O Int) (r:e=[.ref x,.ref m,.ref f,.ref w]) (p:H x=Z (.ins C g [])) (q:cq H m a) (l:cq H f (b_ a c)) (n:cq H w c) (k:full a=af) (j:full c=af) (i:a.length=c.length) (h:2<=a.length) (t:a.length<=8) (s:∀d,(∀b o,H b=Z o->b≠x->d b=Z o)->jH d C x a c->Q .ay d):Ra C e H Q
def TX(C:U):Sp:=λa H Q _=>Ra C a H Q
inductive Pq(C:U)(d:O V)(H:Hp)(Q:VK):Prop
 |mk (m w:U) (a b:O Int) (o:d=[.ref m,.ref w]) (l:cq H m a) (n:cq H w b) (j:full a=af) (k:full b=af) (i:a.length=b.length) (h:2<=a.length) (g:a.length<=8) (e:∀(L:U) (c:Hp),aj H c->jH c C L a b->Q (.ref L) c):Pq C d H Q
def Rb(C:U):Sp:=λa H Q _=>Pq C a H Q
structure uN(K:ah)(C:U):Prop where
 cls:h_ K C
 r9:dA K C "size"
 ZfQ:dA K C "mother"
 ZfR:dA K C "father"
 ZiW:dA K C "wife"
 Kl:dA K C "steps"
def Zbj:aW kA kA (aL Gi):=.bp
def ZiX(F:aT K "check_turn" "check_turn" Gi f fd)(a:HasFn P w K B I 1 "is_turn" kA (L5 K)):aI P w K B I aR 2 f fd kA (Lx K):=by
 refine F.o Zbj λs H d h=>?_;obtain⟨p,b,rfl,e,c,i,q⟩:=h;refine⟨_,(av (aX (gn (d5 (bh a d (aa (pv 0) ag)))) ir a_)),?_⟩;refine⟨_,rfl,p,b,rfl,.inr e,c,λj g=>⟨_,rfl,?_⟩⟩;rw[i];exact bV (q j g)
def ZeE:aW pN pN (aL JD):=.bp
def ZjQ(F:aT K "behind" "behind" JD f fd)(j:HasFn P w K B I 2 "check_turn" kA (Lx K))(x:HasFn P w K B I 1 "followed" pN (Lw K))(r:Bl B):aI P w K B I aR 3 f fd pN (L6 K):=by
 refine F.o ZeE λs H d h=>?_;obtain⟨a,b,i,e,rfl,m,l,k,o,J,eq,q⟩:=h;refine⟨_,(ak (cz (bh j d (aa (pv 0) ag))) (ak (cz (bh j d (aa (pv 1) ag))) (ak (aX (bO iU (dv K r (pv 0)) (dv K r (pv 1))) ir a_) (av (aK (bh x d (aa (pv 0) (aa (pv 1) ag)))))))),?_⟩;refine pz ?_;intros;refine⟨_,rfl,a,i,rfl,m,k,o,λQ n=>?_⟩;refine⟨_,rfl,b,e,rfl,n.kz l,QO,J,λN G=>?_⟩;have g:=n.trans G;have v:=g.kz m;have u:=g.kz l;have p:∀c:O Int,(c.map V.int).length=c.length:=λc=>Ya _;refine⟨_,rfl,a,_,rfl,.inr v,_,rfl,b,_,rfl,.inr u,rfl,_,rfl,xl (by rw[p,p,eq]) (aZ ?_)⟩;exact⟨_,rfl,_,rfl,a,b,i,e,rfl,v,u,λz A=>by exact eq▸rR o A,k,λt L y E D=>q t L (g.free y) (g.trans E) D⟩
def Zha:aW pO pO (aL K5):=.bp
def ZjR(F:aT K "back" "back" K5 f fd)(j:HasFn P w K B I 2 "check_turn" kA (Lx K))(k:HasFn P w K B I 1 "turned_back" pO C5)(p:Bl B):aI P w K B I aR 3 f fd pO VU:=by
 refine F.o Zha λs H e h=>?_;obtain⟨a,c,rfl,g,d,i,q⟩:=h;refine⟨_,(ak (cz (bh j e (aa (pv 0) ag))) (av (aK (bh k e (aa (pv 0) ag))))),?_⟩;refine⟨_,rfl,a,c,rfl,az.of g,d,i,λr b=>?_⟩;exact⟨_,rfl,a,c,rfl,b _ _ g,d,i,λt o l n m=>q t o (b.free l) (b.trans n) m⟩
def F_:aW ["rows","size","row"] ["rows"] (aL Gj):=.bp
theorem Zhb(F:aT K "check_rows" "check_rows" Gj f fd)(A:HasFn P w K B I 1 "is_turn" kA (L5 K))(R:B "LEAST_SIZE"=Z (.int 2 t1))(T:B "MOST_SIZE"=Z (.int 8 X))(x:Bl B):aI P w K B I aR 2 f fd ["rows"] (K6 K):=by
 refine F.o F_ λs H G h=>?_;obtain⟨l,c,y,n,rfl,p,n2,n8,b,q⟩:=h;refine⟨_,(ak (cj 1 F_.nd (dv K x (bc (iL K) (pv 0) aP))) (ak (aX (PW.pt (pw_or (bO oZ (pv 1) (dW (v:=.int (2)) rfl R ⟨_,rfl⟩)) (pw_or1 (bO Ll (pv 1) (dW (v:=.int (8)) rfl T ⟨_,rfl⟩))))) ir a_) (av (fS iJ rfl (fD (K:=K) rfl (pv 0)) (bI 2 F_.nd) (av (aX (PW.pt (pw_or (bO iU (dv K x (pv 2)) (pv 1)) (pw_or1 (gn (d5 (bh A G (aa (pv 2) ag))))))) ir a_)))))),?_⟩;refine oP ?_;intros;have u:∀k:O Int,(k.map V.int).length=k.length:=λk=>Ya _;refine cm (b c Yo) λW L E f0=>?_;refine⟨_,rfl,l,_,0,.ref c,rfl,rfl,p,iz rfl,c,_,rfl,.inr L,?_⟩;rw[u,E];refine⟨_,rfl,_,_,rfl,rfl,_,rfl,bY (λr=>absurd (fI r) QO) (λ_=>?_)⟩;refine⟨_,rfl,_,_,rfl,rfl,_,rfl,bY (λr=>absurd (fI r) QO) (λ_=>aZ ?_)⟩;refine⟨_,rfl,l,rfl,⟨_,p⟩,jE (λi j d=>aj H d/\∃m:bS V,j=[Z (.ref l),Z (.int (n:Int)),m]) ⟨aj.refl _,aJ,rfl⟩ (λi j d _ ⟨g,_⟩=>g.seq p) ?_ ?_⟩
 ·rintro i v j d o ⟨g,m,rfl⟩;rw[Ye] at o;obtain⟨a,J,rfl⟩:∃a,a∈c::y/\V.ref a=v:=by
   cases e:(c::y)[i]? with
   |none=>rw[e] at o;cases o
   |some a=>grind
  refine cm (b a J) λz t D Q=>?_;refine⟨_,rfl,a,_,rfl,.inr (g.kz t),_,rfl,rfl,_,rfl,xl (by rw[u,D]) ?_⟩;refine⟨_,rfl,a,z,rfl,.inr (g.kz t),QO,λH2 N=>⟨_,rfl,?_⟩⟩;rw[Q];exact bV (aZ ⟨g.trans N,_,rfl⟩)
 ·rintro j d ⟨g,m,rfl⟩;exact q d g
noncomputable abbrev Nk:O ar:=["mother","father","wife"]
def Fn:aW ["mother","father","wife","by_mothers","section"] Nk (aL Fq):=.bp
def Zdw(F:aT K "check_parents" "check_parents" Fq f fd)(r:HasFn P w K B I 3 "behind" pN (L6 K))(p:Bl B):aI P w K B I aR 4 f fd Nk (Qd K):=by
 refine F.o Fn λs H v h=>?_;obtain⟨m,j,n,b,a,rfl,z,o,y,D,A,eq,J,q⟩:=h;refine⟨_,(ak (cj 3 Fn.nd (bh r v (aa (pv 2) (aa (pv 0) ag)))) (av (fS iJ rfl (nK rfl p.jk (aa (dv K p (pv 1)) ag)) (bI 4 Fn.nd) (av (aX (bO iU (bc (iT K) (pv 3) (pv 4)) (bc (iT K) (pv 1) (pv 4))) ir a_))))),?_⟩;have k:∀d:O Int,(d.map V.int).length=d.length:=λd=>Ya _;refine⟨_,rfl,_,rfl,n,m,a,b,rfl,y,z,QO,A,D,eq.symm,λt E G g u=>?_⟩;have L:=ug b a;refine⟨_,rfl,j,_,rfl,.inr (g.kz o),_,rfl,by rw[k];omega,by rw[k];omega,yW
  (λi c l=>l=E/\∃e:bS V,c=[Z (.ref m),Z (.ref j),Z (.ref n),Z (.ref t),e]) ⟨rfl,aJ,rfl⟩ ?_ ?_⟩
 ·rintro i c l x ⟨rfl,e,rfl⟩;rw[Y7,k] at x;have at_:dY ((b_ b a).map V.int) (0+(i:Int))=Z (.int ((b_ b a).getD (0+(i:Int)).toNat 0)):=oX QO QO;refine⟨_,rfl,_,rfl,t,_,_,_,rfl,rfl,az.of u,at_,_,rfl,_,rfl,j,_,_,_,rfl,rfl,g.kz o,at_,rfl,_,rfl,xl rfl (aZ ⟨rfl,_,rfl⟩)⟩
 ·rintro c l ⟨rfl,e,rfl⟩;exact q _ g
def x_{f:ar}(h:fs.length<=n):(dh f y fs).length<=n+1:=Yy (GC f y fs) (XW h)
def fs4(a b c d:V):dh "wife" d (dh "father" c (dh "mother" b (dh "size" a [])))=([("size",a),("mother",b),("father",c),("wife",d)]:O (ar×V)):=rfl
def fs5(a b c d e:V):dh "steps" e [("size",a),("mother",b),("father",c),("wife",d)]=([("size",a),("mother",b),("father",c),("wife",d),("steps",e)]:O (ar×V)):=rfl
def ds7(a b c d e f g:V):oY [] [(.inr "c",a),(.inr "k",b),(.inr "w",c),(.inr "m",d),(.inr "f",e),(.inr "h",f),(.inr "s",g)]=[(.inr "c",a),(.inr "k",b),(.inr "w",c),(.inr "m",d),(.inr "f",e),(.inr "h",f),(.inr "s",g)]:=rfl
noncomputable abbrev C6:O ar:=["self","mother","father","wife"]
def ZbP:aW C6 C6 (aL GU):=.bp
def Zhc(F:aT K "__init__" "Land.__init__" GU f fd)(p:uN K C)(wu:HasFn P w K B I 2 "check_rows" ["rows"] (K6 K))(Fz:HasFn P w K B I 4 "check_parents" Nk (Qd K))
  (zF:HasFn P w K B I 3 "back" pO VU)(wY:HasFn P w K B I 1 "still" ["size"] Kk)(bl:Bl B):aI P w K B I aR 5 f fd C6 (TX C):=by
 refine F.o ZbP λs H y h=>?_;obtain⟨x,k,m,i,c,j,v,rfl,hx,hM,hF,hW,W,T,eq,l2,l8,q⟩:=h;refine⟨_,(ak (cz (bh wu y (aa (zt (aa (pv 1) (aa (pv 2) (aa (pv 3) ag)))) ag))) (ak (cz (bh Fz y (aa (pv 1) (aa (pv 2) (aa (pv 3) ag))))) (ak (zr (pv 0) (dv K bl (pv 1)) rfl) (ak (zr (pv 0) (pv 1) rfl) (ak (zr (pv 0) (pv 2) rfl) (ak (zr (pv 0) (pv 3) rfl) (av (zr (pv 0) (zg (kG bB (pv 1) (kG bB (pv 2) (kG bB (pv 3) (kG bB (bh zF y (aa (pv 1) ag)) (kG bB (bh zF y (aa (pv 2) ag)) (kG bB (bh zF y (aa (pv 3) ag)) (kG bB (bh wY y (aa (dv K bl (pv 1)) ag)) zf))))))) rfl rfl (λz=>nomatch z) (Ji rfl)) rfl)))))))),?_⟩;refine zl7 ?_;intros;have el:∀zs:O Int,(zs.map V.int).length=zs.length:=λzs=>Ya _;have X9:=JH W T eq;have al:=ug j v;refine⟨_,rfl,_,rfl,_,rfl,by show 3<=sizeLine;decide,λl nl=>?_⟩;have R:=cF nl (.lst [.ref m,.ref i,.ref c]);refine⟨l,m,[i,c],j.length,rfl,aq.of a9,l2,l8,λa A=>?_,λH2 g2=>?_⟩
 ·rcases Ym.mp A with rfl|A;·exact⟨j,az.of (R _ _ hM),rfl,W⟩
  ·rcases Ym.mp A with rfl|A;·exact⟨b_ j v,az.of (R _ _ hF),by rw[al,eq],X9⟩
   ·rw[Yi] at A;subst A;exact⟨v,az.of (R _ _ hW),eq.symm,T⟩
 have G:=R.trans g2;refine⟨_,rfl,_,rfl,_,rfl,m,i,c,j,v,rfl,az.of (G _ _ hM),az.of (G _ _ hF),az.of (G _ _ hW),W,T,eq,l8,λH3 g3=>?_⟩;have g:=G.trans g3;have D5:=g _ _ hx;have D6:=g _ _ hM;have Nl:=g _ _ hF;have Nm:=g _ _ hW;have nm:m≠x:=λe=>by rw[e,D5] at D6;cases D6
 have nf:i≠x:=λe=>by rw[e,D5] at Nl;cases Nl
 have nw:c≠x:=λe=>by rw[e,D5] at Nm;cases Nm
 refine⟨_,rfl,m,_,rfl,.inr (az.of D6),_,rfl,x,C,k,_,rfl,D5,p.cls,p.r9,by decide,?_⟩;refine⟨_,rfl,_,rfl,x,C,k,_,rfl,a9,p.cls,p.ZfQ,W3 (x_ (Yd 0)) (by decide),?_⟩;refine⟨_,rfl,_,rfl,x,C,k,_,rfl,a9,p.cls,p.ZfR,W3 (x_ (x_ (Yd 0))) (by decide),?_⟩;refine⟨_,rfl,_,rfl,x,C,k,_,rfl,a9,p.cls,p.ZiW,W3 (x_ (x_ (x_ (Yd 0)))) (by decide),?_⟩;rw[JV,JV,JV,el,fs4];have Nn:upd H3 x (.ins C k [("size",.int (j.length:Int)),("mother",.ref m),("father",.ref i),("wife",.ref c)]) x=Z (.ins C k [("size",.int (j.length:Int)),("mother",.ref m),("father",.ref i),("wife",.ref c)]):=a9;have D:∀b o,H3 b=Z o->b≠x->upd H3 x (.ins C k [("size",.int (j.length:Int)),("mother",.ref m),("father",.ref i),("wife",.ref c)]) b=Z o:=λb o e n=>by rw[aS n];exact e
 generalize upd H3 x (.ins C k [("size",.int (j.length:Int)),("mother",.ref m),("father",.ref i),("wife",.ref c)])=H4 at Nn D⊢;have Np:=D _ _ D6 nm;have X_:=D _ _ Nl nf;have YA:=D _ _ Nm nw;intro d nd;have r:=cF nd (.dK []);have Nq:upd H4 d (.dK []) d=Z (.dK []):=a9;generalize upd H4 d (.dK [])=H5 at r Nq⊢;refine⟨_,rfl,_,rfl,_,rfl,?_⟩;refine⟨_,rfl,m,j,rfl,r _ _ Np,Nat.lt_of_le_of_lt l8 (by decide),W,λN H6 nim g6 Nr=>?_⟩;refine⟨_,rfl,i,b_ j v,rfl,g6 _ _ (r _ _ X_),by omega,X9,λJ H7 njf g7 Nt=>?_⟩;refine⟨_,rfl,c,v,rfl,g7 _ _ (g6 _ _ (r _ _ YA)),by omega,T,λL H8 niw g8 hiw=>?_⟩;have YB:=(g6.trans g7).trans g8;refine⟨_,rfl,m,_,rfl,.inr (az.of (YB _ _ (r _ _ Np))),j.length,by rw[el];rfl,Nat.le_trans l8 (by decide),λst X D7 Q dN=>?_⟩;have t:=YB.trans Q;refine⟨t _ _ Nq,zE m i c N J L st,rfl,by show 7<=15;decide,?_⟩;have kB:d≠x:=cC Nn nd |>.symm;have YC:=t _ _ (r _ _ Nn);refine⟨_,rfl,x,C,k,_,rfl,by rw[aS kB.symm];exact YC,p.cls,p.Kl,by show 4<1000;decide,?_⟩;rw[fs5,ds7];have E:∀{b:U} {o:HO},X b=Z o->b≠d->b≠x->upd (upd X d (.dK (zE m i c N J L st))) x (.ins C k [("size",.int (j.length:Int)),("mother",.ref m),("father",.ref i),("wife",.ref c),("steps",.ref d)]) b=Z o:=λ{b o} e n1 n2=>by
  rw[aS n2,aS n1];exact e
 have u:∀{b:U} {zs:O Int},X b=Z (.tup (zs.map V.int))->cq (upd (upd X d (.dK (zE m i c N J L st))) x (.ins C k [("size",.int (j.length:Int)),("mother",.ref m),("father",.ref i),("wife",.ref c),("steps",.ref d)])) b zs:=λ{b zs} e=>
  E e (λz=>by rw[z,t _ _ Nq] at e;cases e) (λz=>by rw[z,YC] at e;cases e)
 refine q _ (λb o e n=>?_) ⟨k,d,m,i,c,N,J,L,st,a9,by rw[aS kB];exact a9,u (t _ _ (r _ _ Np)),u (t _ _ (r _ _ X_)),u (t _ _ (r _ _ YA)),u (Q _ _ (g8 _ _ (g7 _ _ Nr))),u (Q _ _ (g8 _ _ Nt)),u (Q _ _ hiw),u dN⟩;have e4:=D _ _ (g _ _ e) n;refine E (t _ _ (r _ _ e4)) (cC e4 nd) n
noncomputable abbrev C7:O ar:=["mother","wife"]
def Zdx:aW C7 C7 (aL ID):=.bp
def Zdy(F:aT K "land_of" "land_of" ID f fd)(N:HasFn P w K B I 2 "check_rows" ["rows"] (K6 K))(Q:HasFn P w K B I 3 "behind" pN (L6 K))
  (K7:xm P w K B I 5 "Land" C C6 (TX C)):aI P w K B I aR 7 f fd C7 (Rb C):=by
 refine F.o Zdx λs H p h=>?_;obtain⟨m,d,c,n,rfl,t,r,A,y,eq,J,G,q⟩:=h;refine⟨_,(ak (cz (bh N p (aa (zt (aa (pv 0) (aa (pv 1) ag))) ag))) (av (aK (Lr K7 p (by decide) rfl (aa (pv 0) (aa (bh Q p (aa (pv 1) (aa (pv 0) ag))) (aa (pv 1) ag))))))),?_⟩;refine⟨_,rfl,_,rfl,by show 2<=sizeLine;decide,λl R=>?_⟩;have v:=cF R (.lst [.ref m,.ref d]);refine⟨l,m,[d],c.length,rfl,aq.of a9,J,G,λa i=>?_,λH2 g2=>?_⟩
 ·rcases Ym.mp i with rfl|i;·exact⟨c,az.of (v _ _ t),rfl,A⟩
  ·rw[Yi] at i;subst i;exact⟨n,az.of (v _ _ r),eq.symm,y⟩
 have g:=v.trans g2;refine⟨_,rfl,_,rfl,_,rfl,d,m,n,c,rfl,az.of (g _ _ r),az.of (g _ _ t),QO,y,A,eq.symm,λfa D YD X dO=>?_⟩;have u:=g.trans X;refine⟨_,rfl,λx k E AG ne=>?_⟩;have AH:upd D k (.own x) x=aJ:=by rw[aS (λz=>ne z.symm)];exact E
 have j:aj D (upd (upd D k (.own x)) x (.ins C k [])):=(cF AG _).trans (cF AH _);refine⟨x,k,m,fa,d,c,n,rfl,a9,j _ _ (u _ _ t),j _ _ dO,j _ _ (u _ _ r),A,y,eq,J,G,λH5 W T=>⟨rfl,q x H5 (λb o e=>?_) T⟩⟩;have L:=u _ _ e;exact W b o (j _ _ L) (cC L E)
abbrev Cr(a b:O Int):O (ar×O Int):=[("c",a),("k",b_ a b),("w",b),("m",inv a),("f",inv (b_ a b)),("h",inv b),("s",bQ a.length)]
inductive Rc(C:U)(c:O V)(H:Hp)(Q:VK):Prop
 |mk (L:U) (z:ar) (b a d:O Int) (i:c=[.ref L,.str z]) (g:jH H C L b a) (h:(z,d)∈Cr b a) (e:∀t:U,cq H t d->Q (.ref t) H):Rc C c H Q
def TY(C:U):Sp:=λa H Q _=>Rc C a H Q
def step_at{H:Hp}{a b ns:O Int}{z:ar}{m f w g d e c:U}(h:(z,ns)∈Cr a b)(p:cq H m a)(o:cq H f (b_ a b))(n:cq H w b)(l:cq H g (inv a))(k:cq H d (inv (b_ a b)))(j:cq H e (inv b))(i:cq H c (bQ a.length)):
  ∃t,aY (zE m f w g d e c) (.inr z)=Z (.ref t)/\cq H t ns:=by
 simp[Ym,Y2,i1] at h;rcases h with⟨rfl,rfl⟩|⟨rfl,rfl⟩|⟨rfl,rfl⟩|⟨rfl,rfl⟩|⟨rfl,rfl⟩|⟨rfl,rfl⟩|⟨rfl,rfl⟩;·exact⟨m,rfl,p⟩
 ·exact⟨f,rfl,o⟩
 ·exact⟨w,rfl,n⟩
 ·exact⟨g,rfl,l⟩
 ·exact⟨d,rfl,k⟩
 ·exact⟨e,rfl,j⟩
 ·exact⟨c,rfl,i⟩
noncomputable abbrev C8:O ar:=["self","letter"]
def ZbQ:aW C8 C8 (aL GV):=.bp
def Zhd(F:aT K "step" "Land.step" GV f fd)(a:uN K C):aI P w K B I aR 1 f fd C8 (TY C):=by
 refine F.o ZbQ λs H b h=>?_;obtain⟨L,z,D,A,G,rfl,i,j,q⟩:=h;refine⟨_,(ak (aX (lJ (oS (bL b) (pv 1) (pF K 0)) QU) ir a_) (av (aK (dm (bL b) (pF K 0) (pv 1) (λ_ _=>rfl))))),?_⟩;obtain⟨e,d,m,R,E,Q,J,N,st,c,y,x,v,u,r,p,o,n⟩:=i;refine bo (step_at j x v u r p o n) λt k l=>?_;have g:=k▸fJ.k y;exact⟨_,rfl,_,rfl,L,C,e,_,.ref d,rfl,c,a.cls,a.Kl,rfl,d,_,rfl,g,_,rfl,bV (aZ ⟨_,rfl,L,C,e,_,.ref d,rfl,c,a.cls,a.Kl,rfl,_,rfl,d,_,rfl,g,q t l⟩)⟩
structure JS where
 hd:O Nat
 ld:O (O Int)
 mem:O (Nat×O Nat)
 fr:O (Nat×O Int)
structure JL where
 J:U
 ha:U
 la:U
 md:U
 fd:U
 fY:O U
 ib:O U
 cB:O U
noncomputable def JL.fp(l:JL):O U:=l.J::l.ha::l.la::l.md::l.fd::l.ib
noncomputable abbrev JF(n:Nat)(c b a fd:U):O (ar×V):=[("size",.int (n:Int)),("heads",.ref c),("leads",.ref b),("members",.ref a),("free",.ref fd)]
def jf5(a b c d e:V):dh "free" e (dh "members" d (dh "leads" c (dh "heads" b (dh "size" a []))))=([("size",a),("heads",b),("leads",c),("members",d),("free",e)]:O (ar×V)):=rfl
noncomputable abbrev eQ(a:O Nat):O V:=a.map λi:Nat=>V.int (i:Int)
noncomputable def bM(a:O Nat)(b:O U):O (Key×V):=(a.zip b).map λp=>(.inl (p.1:Int),.ref p.2)
structure c_(H:Hp)(C:U)(n:Nat)(l:JL)(st:JS):Prop where
 obj:∃dx,H l.J=Z (.ins C dx (JF n l.ha l.la l.md l.fd))
 heads:H l.ha=Z (.lst (eQ st.hd))
 jK:H l.la=Z (.lst (l.fY.map V.ref))
 lead:Paired (λa xs=>H a=Z (.tup (xs.map V.int))) l.fY st.ld
 kM:H l.md=Z (.dK (bM (st.mem.map (·.1)) l.ib))
 mem:Paired (λa p=>H a=Z (.lst (eQ p.2))) l.ib st.mem
 frees:H l.fd=Z (.dK (bM (st.fr.map (·.1)) l.cB))
 free:Paired (λa p=>H a=Z (.lst (p.2.map V.int))) l.cB st.fr
 nd:l.fp.Nodup
 out:∀a∈l.cB,a∉l.fp
def c_.same(g:aj H c)(a:c_ H C n l st):c_ c C n l st:=
 ⟨let⟨b,h⟩:=a.obj;⟨b,g _ _ h⟩,g _ _ a.heads,g _ _ a.jK,_L.Paired.bH a.lead λ _ _=>g _ _,g _ _ a.kM,_L.Paired.bH a.mem λ _ _=>g _ _,g _ _ a.frees,_L.Paired.bH a.free λ _ _=>g _ _,a.nd,a.out⟩
theorem yU:∀{a:O α} {b:O β} {x:α},Paired F a b->x∈a->∃y,F x y:=by
 intro a b x p;induction p with
 |nil=>grind
 |cons f t c=>grind
def c_.ne(a:c_ H C n l st)(h:H p=aJ):p∉l.fp:=by
 intro z;unfold JL.fp at z;simp[Ym] at z;rcases z with rfl|rfl|rfl|rfl|rfl|z
 ·obtain⟨b,e⟩:=a.obj
  grind
 ·rw[a.heads] at h;cases h
 ·rw[a.jK] at h;cases h
 ·rw[a.kM] at h;cases h
 ·rw[a.frees] at h;cases h
 ·obtain⟨y,e⟩:=yU a.mem z
  grind
theorem qm{g:Type}{H:Hp}{f:g->HO}:∀{as:O U} {c:O (Nat×g)} {k:Nat} {v:g},Paired (λa p=>H a=Z (f p.2)) as c->c.lookup k=Z v->∃a,a∈as/\aY (bM (c.map (·.1)) as) (.inl (k:Int))=Z (.ref a)/\H a=Z (f v):=by
 intro as c k v j;induction j with
 |nil=>simp_all
 |@cons a p as c e t l=>
  intro h;have n:bM ((p::c).map (·.1)) (a::as)=(Sum.inl (p.1:Int),V.ref a)::bM (c.map (·.1)) as:=rfl;rw[W4] at h;by_cases d:k=p.1
  ·have i:=beq_iff_eq.mpr d;rw[i] at h;exact⟨a,Yo,gw (by rw[d]),by rwa[←(Yp h)]⟩
  ·have i:=beq_eq_false_iff_ne.mpr d;rw[i] at h;refine cm (l h) λb m q w=>?_;refine⟨b,Yw _ m,?_,w⟩;rw[n,gk (λz=>d (by have:=J9 z;exact Eq.symm (Int.ofNat.inj this)))];exact q
def ZfS{q k:Nat}(z:((Sum.inl (q:Int):Key),v).1=.inl (k:Int)):k∈q::ks:=by
 grind
theorem y8:∀{as:O U} {b:O Nat} {k:Nat},k∉b->aY (bM b as) (.inl (k:Int))=aJ
 |[],b,k,_=>by unfold bM;rw[Vj];rfl
 |a::as,[],k,_=>rfl
 |a::as,q::b,k,h=>by
  have c:bM (q::b) (a::as)=(Sum.inl (q:Int),V.ref a)::bM b as:=rfl;rw[c,gk (λz=>h (ZfS z))];exact y8 λz=>h (Yw _ z)
theorem yV:∀{c:O Nat} {as:O U} (k:Nat) (a:U),c.length=as.length->bM c as++[(.inl (k:Int),.ref a)]=bM (c++[k]) (as++[a])
 |[],[],_,_,_=>rfl
 |q::c,b::as,k,a,h=>by
  have d:bM (q::c) (b::as)=(Sum.inl (q:Int),V.ref b)::bM c as:=rfl;rw[d,XM,(yV k a (by simpa using h))];rfl
 |[],_::_,_,_,h=>by simp at h
 |_::_,[],_,_,h=>by simp at h
structure nX(K:ah)(C:U):Prop where
 cls:h_ K C
 r9:dA K C "size"
 kH:dA K C "heads"
 oV:dA K C "leads"
 wL:dA K C "members"
 uC:dA K C "free"
def JS.more(n:Nat)(a:JS):JS:=⟨a.hd++[a.hd.length],a.ld++[bQ n],a.mem++[(a.hd.length,[a.hd.length])],a.fr++[(a.hd.length,bQ n)]⟩
inductive Si(C:U)(c:O V)(H:Hp)(Q:VK)(E:XK):Prop
 |mk (x d:U) (n:Nat) (h:c=[.ref x,.int (n:Int)]) (e:H x=Z (.ins C d [])) (g:∀(l:JL) (a:Hp),l.J=x->l.ib=[]->(∀b∈l.fp,b≠x->H b=aJ)->aG x H a->c_ a C n l ⟨[],[],[],[]⟩->Q .ay a)
inductive HU(C:U)(c:O V)(H:Hp)(Q:VK)(E:XK):Prop
 |mk (l:JL) (st:JS) (n i j a b:Nat) (k:c=[.ref l.J,.int (i:Int),.int (j:Int)]) (g:c_ H C n l st) (h:st.hd[i]?=Z a) (d:st.hd[j]?=Z b) (e:Q (.bl (decide (a=b))) H)
inductive wW(C:U)(d:O V)(H:Hp)(Q:VK)(E:XK):Prop
 |mk (l:JL) (st:JS) (n i h:Nat) (t a:O Int) (r:d=[.ref l.J,.int (i:Int)]) (o:c_ H C n l st) (q:st.hd[i]?=some h) (k:st.ld[i]?=some t) (m:st.fr.lookup h=some a) (j:(∀z∈a,0<=z/\z<t.length)) (g:a.length<64) (e:∀(p:U) (b:O Int) (c:Hp),H p=none->aj H c->b.Perm (a.map λz=>t.getD z.toNat 0)->b.Pairwise (·<=·)->c p=Z (.lst (b.map V.int))->Q (.ref p) c)
inductive Ly(C:U)(d:O V)(H:Hp)(Q:VK)(E:XK):Prop
 |mk (l:JL) (st:JS) (n:Nat) (p:d=[.ref l.J]) (m:c_ H C n l st) (o:n<=1000) (j:st.hd.length<1000) (k:st.mem.length<=st.hd.length) (i:st.fr.length<=st.hd.length) (h:st.ld.length=st.hd.length) (g:st.hd.length∉st.mem.map (·.1)) (e:st.hd.length∉st.fr.map (·.1)) (q:∀(a:JL) (c:Hp),a.J=l.J->Out l.fp H c->(∀b∈a.fp,b∈l.fp\/H b=aJ)->c_ c C n a (st.more n)->Q (.int (st.hd.length:Int)) c)
def oW{i h:Nat}(e:is[i]?=Z h):dY (eQ is) (i:Int)=Z (.int (h:Int)):=iz (by rw[Ye,e];rfl)
noncomputable abbrev C9:O ar:=["self","size"]
def Zbk:aW C9 C9 (aL Gk):=.bp
theorem ZfT(F:aT K "__init__" "Joins.__init__" Gk f fd)(c:nX K C)(bl:Bl B):aI P w K B I aR 1 f fd C9 (Si C):=by
 refine F.o Zbk λs H hr h=>?_;obtain⟨x,j,n,rfl,hx,q⟩:=h;refine⟨_,(ak (iO (K:=K) rfl (pv 0) (pv 1)) (ak (iO (K:=K) rfl (pv 0) (dU ag)) (ak (iO (K:=K) rfl (pv 0) (dU ag)) (ak (iO (K:=K) rfl (pv 0) rH) (av (iO (K:=K) rfl (pv 0) rH)))))),?_⟩;refine AF ?_;intros;refine⟨_,rfl,_,rfl,x,C,j,[],rfl,hx,c.cls,c.r9,by show 0<1000;decide,λH1 N h1=>?_⟩;refine⟨by show 0<=sizeLine;exact Yx _,λp H2 E G e2=>⟨_,rfl,x,C,j,_,rfl,G _ _ h1,c.cls,c.kH,by show 1<1000;decide,λH3 L h3=>?_⟩⟩;refine⟨by show 0<=sizeLine;exact Yx _,λla H4 m v e4=>⟨_,rfl,x,C,j,_,rfl,v _ _ h3,c.cls,c.oV,by show 2<1000;decide,λH5 A h5=>?_⟩⟩;refine λmd H6 i r e6=>⟨_,rfl,x,C,j,_,rfl,r _ _ h5,c.cls,c.wL,by show 3<1000;decide,λH7 u h7=>?_⟩;refine λfe H8 g g8 e8=>⟨_,rfl,x,C,j,_,rfl,g8 _ _ h7,c.cls,c.uC,by show 4<1000;decide,λH9 b9 h9=>?_⟩;rw[jf5] at h9;have W:aG x H8 H9:=b9;have X:aG x H6 H9:=u.trans ((aG.of g8).trans W);have k4:aG x H4 H9:=A.trans ((aG.of r).trans X);have k2:aG x H2 H9:=L.trans ((aG.of v).trans k4);have k0:aG x H H9:=N.trans ((aG.of G).trans k2);have l:p≠x:=λz=>by rw[z,h1] at E;cases E
 have t:la≠x:=λz=>by rw[z,h3] at m;cases m
 have y:md≠x:=λz=>by rw[z,h5] at i;cases i
 have J:fe≠x:=λz=>by rw[z,h7] at g;cases g
 have i3:=L _ _ e2 l;have i5:=A _ _ (v _ _ i3) l;have i7:=u _ _ (r _ _ i5) l;have j5:=A _ _ e4 t;have j7:=u _ _ (r _ _ j5) t;have l7:=u _ _ e6 y;have a1:p≠la:=λz=>by rw[←z,i3] at m;cases m
 have a2:p≠md:=λz=>by rw[←z,i5] at i;cases i
 have a3:p≠fe:=λz=>by rw[←z,i7] at g;cases g
 have a4:la≠md:=λz=>by rw[←z,j5] at i;cases i
 have a5:la≠fe:=λz=>by rw[←z,j7] at g;cases g
 have a6:md≠fe:=λz=>by rw[←z,l7] at g;cases g
 have D:∀{b:U} {Q:Hp},aG x H Q->b≠x->Q b=aJ->H b=aJ:=λ{b Q} k d n=>by
  cases e:H b with
  |none=>rfl
  |some o=>rw[k b o e d] at n;cases n
 have T:aG x H H3:=N.trans ((aG.of G).trans L);have R:aG x H H5:=T.trans ((aG.of v).trans A);have t7:aG x H H7:=R.trans ((aG.of r).trans u);refine q ⟨x,p,la,md,fe,[],[],[]⟩ H9 rfl rfl (λb hb nb=>?_) k0 ⟨⟨j,h9⟩,k2 _ _ e2 l,k4 _ _ e4 t,.nil,X _ _ e6 y,.nil,W _ _ e8 J,.nil,?_,λa kX=>by cases kX⟩
 ·simp only[JL.fp,Ym,Y2,i1] at hb;rcases hb with rfl|rfl|rfl|rfl|rfl;·exact absurd rfl nb
  ·exact D N l E
  ·exact D T t m
  ·exact D R y i
  ·exact D t7 J g
 ·simp only[JL.fp,Y0,Ym,Y2,i1,k8,Xl,Jj,and_true];exact⟨⟨λz=>l z.symm,λz=>t z.symm,λz=>y z.symm,λz=>J z.symm⟩,⟨a1,a2,a3⟩,⟨a4,a5⟩,a6⟩
noncomputable abbrev qM:O ar:=["self","one","other"]
def Zao:aW qM qM (aL Fh):=.bp
def Zcz(F:aT K "together" "Joins.together" Fh f fd)(c:nX K C)(v:Bl B):aI P w K B I aR 1 f fd qM (HU C):=by
 refine F.o Zao @λx A d t Q E s H u h=>?_;obtain⟨l,st,n,i,j,a,b,rfl,g,r,p,q⟩:=h;refine⟨_,(av (aK (fX cP (bc (iL K) (pF K 0) (pv 1)) (bc (iL K) (pF K 0) (pv 2))))),?_⟩;obtain⟨m,k⟩:=g.obj;have o:Q (.bl (decide (V.int (a:Int)=V.int (b:Int)))) H:=by
  have e:decide (V.int (a:Int)=V.int (b:Int))=decide (a=b):=by
   rw[Wn,jV,jV];exact⟨λz=>by have:=V.int.inj z;exact Int.ofNat.inj this,λz=>by rw[z]⟩
  rwa[e]
 exact⟨_,rfl,l.J,C,m,_,_,rfl,k,c.cls,c.kH,rfl,_,rfl,l.ha,_,_,_,rfl,rfl,aq.of g.heads,oW r,_,rfl,l.J,C,m,_,_,rfl,k,c.cls,c.kH,rfl,_,rfl,l.ha,_,_,_,rfl,rfl,aq.of g.heads,oW p,rfl,o⟩
def eY{H:Hp}(h:H a=Z o)(e:H b=Z c)(d:o≠c):a≠b:=λz=>by
 grind
def ZfU(a:O Nat)(k:Nat):eQ (a++[k])=eQ a++[.int (k:Int)]:=Yn
def ud{H:Hp}(h:H a=Z o)(c:H b=aJ):b≠a:=λz=>by
 grind
theorem jh(f:F x y)(h:Paired F xs a):Paired F (xs++[x]) (a++[y]):=by
 induction h with
 |nil=>exact .cons f .nil
 |cons r t b=>exact .cons r b
theorem wM{e d:Type}{F:e->d->Prop}:∀{c:O e} {i:O d},Paired F c i->Paired (λa b=>F a b/\a∈c) c i
 |_,_,.nil=>.nil
 |_,_,.cons g t=>.cons ⟨g,Yo⟩ (_L.Paired.bH (wM t) λ_ _ h=>⟨h.1,Yw _ h.2⟩)
def qB(h:H a=Z (.dK b))(e:aY b (.inl (k:Int))=o):fJ H a (.int (k:Int)) o:=.inl ⟨b,.inl (k:Int),.inl h,rfl,e.symm⟩
noncomputable abbrev oz:O ar:=["self","one"]
def OG:aW ["self","one","lead"] oz (aL Fs):=.bp
def Zdz(F:aT K "open_at" "Joins.open_at" Fs f fd)(b:nX K C)(bl:Bl B):aI P w K B I aR 2 f fd oz (wW C):=by
 refine F.o OG λs H W h=>?_;obtain⟨l,st,n,i,h,t,d,rfl,a,hi,T,hf,N,i8,q⟩:=h;refine⟨_,(ak (iC (i:=2) OG.nd rfl (mF rfl) (bc (iL K) (pF K 0) (pv 1))) (av (aK (iu (Zfv (K:=K) rfl) rfl bl.BO BA (aa (jG (x:="section") (fr:=[("lead",2)]) (cl:=[("lead",s.heap.objs.size+1)]) rfl (.ia ⟨rfl,trivial⟩ ⟨⟨rfl,.inl rfl,.inl rfl,rfl⟩,trivial⟩) (fD (K:=K) rfl (dm (bL W) (pF K 0) (bc (iL K) (pF K 0) (pv 1)) (λ_ _=>rfl))) (λ_ _ _ _=>lH) (λ_ _ _ _=>(bc (iT K) (pv 1) (pv 0)))) ag))))),?_⟩;refine mI ?_;intros;obtain⟨o,g⟩:=a.obj;refine cm (qm (f:=λv:O Int=>HO.lst (v.map V.int)) a.free hf) λfa YE G A=>?_;obtain⟨c,m,Nu⟩:∃c,l.fY[i]?=Z c/\H c=Z (.tup (t.map V.int)):=by
  have X:=c7 a.lead;have eP:i<l.fY.length:=by exact X▸(Yh.mp T).1
  obtain⟨y,ey,u⟩:=gf a.lead (Yb eP)
  grind
 have Nv:dY (l.fY.map V.ref) (i:Int)=Z (.ref c):=iz (by rw[Ye,m];rfl);refine cD ?_;refine⟨_,rfl,l.J,C,o,_,_,rfl,g,b.cls,b.oV,rfl,_,rfl,l.la,_,_,_,rfl,rfl,aq.of a.jK,Nv,?_⟩;refine⟨_,rfl,l.J,C,o,_,_,rfl,g,b.cls,b.uC,rfl,_,rfl,l.J,C,o,_,_,rfl,g,b.cls,b.kH,rfl,_,rfl,l.ha,_,_,_,rfl,rfl,aq.of a.heads,oW hi,l.fd,_,rfl,qB a.frees G,fa,rfl,⟨_,aq.of A⟩,λD hD=>Zdg (aq.of A) (by rw[Ya];exact Nat.le_of_lt (Nat.lt_of_lt_of_le i8 (by decide))) hD (λv=>match v with|.int z=>.int (t.getD z.toNat 0)|_=>.ay) (λj v hj r e Kt k=>?_) λr e h1=>?_⟩
 ·obtain⟨z,rfl,R⟩:=mM hj;have E:=N z (Yg R);exact⟨_,rfl,_,rfl,c,_,_,_,rfl,rfl,az.of (e _ _ Nu),oX E.1 E.2,k r (aj.refl _)⟩
 ·have u:r D=Z (.lst ((d.map λz=>t.getD z.toNat 0).map V.int)):=by
   rw[h1,Y6,Y6];rfl
  exact⟨D,_,rfl,.inl (aq.of u),by rwa[Ya],λcT L J p H2 Q g2 h2=>q p cT H2 (e.free Q) (e.trans g2) L J h2⟩
noncomputable abbrev gI:O ar:=["self"]
noncomputable abbrev zZ:O ar:=["self","number"]
def OS:aW zZ gI (aL GW):=.bp
theorem ZiY(F:aT K "add" "Joins.add" GW f fd)(d:nX K C)(wY:HasFn P w K B I 1 "still" ["size"] Kk)(bl:Bl B):aI P w K B I aR 2 f fd gI (Ly C):=by
 refine F.o OS λs H hr h=>?_;obtain⟨l,st,n,rfl,c,hn,lh,lm,lf,ll,nm,nf,q⟩:=h;refine⟨_,(ak (cj 1 OS.nd (dv K bl (pF K 0))) (ak (cz (nW (K:=K) rfl (kJ lg me lW oR (pF K 0) (aa (pv 1) ag)))) (ak (cz (nW (K:=K) rfl (kJ lg me lW oR (pF K 0) (aa (bh wY hr (aa (pF K 0) ag)) ag)))) (ak (oU (bL hr) (pF K 0) (pv 1) (dU (aa (pv 1) ag))) (ak (oU (bL hr) (pF K 0) (pv 1) (fC (ZaY rfl) rfl bl.uA uq (aa (fC Bg rfl bl.jk uj (aa (pF K 0) ag)) ag))) (av (aK (pv 1)))))))),?_⟩;refine AN ?_;intros;have sz:(10000:Nat)<=sizeLine:=by rw[d6];decide
 obtain⟨A,ho⟩:=c.obj;have hl:(eQ st.hd).length=st.hd.length:=Ya _;have pl1:=c7 c.lead;have Nx:=c7 c.mem;have D9:=c7 c.free;have W:=c.nd;simp only[JL.fp,Y0,Ym,k8] at W;refine ie W λjs gV gU hI v1 v2=>?_;obtain ⟨x1,x2,x3,x4,x5⟩:=js;obtain ⟨R,Q,y3,y4⟩:=gV;obtain ⟨z1,z2,z3⟩:=gU;obtain ⟨w1,w2⟩:=hI;have dl:∀{ks:O Nat} {as:O U},(bM ks as).length<=as.length:=λ{ks as}=>by unfold bM;rw[Ya,Jc];exact Nat.min_le_right _ _
 refine cD ?_;refine⟨_,rfl,l.J,C,A,_,_,rfl,ho,d.cls,d.kH,rfl,l.ha,_,rfl,.inl (aq.of c.heads),?_⟩;rw[hl];refine⟨_,rfl,l.J,C,A,_,_,rfl,ho,d.cls,d.kH,rfl,.inl ⟨rfl,_,aq.of c.heads⟩,_,rfl,l.ha,_,_,rfl,rfl,c.heads,by rw[hl];exact Nat.lt_of_lt_of_le lh (by decide),λH1 v e1=>?_⟩;have o1:=v _ _ ho x1;have X:=v _ _ c.jK (λz=>R z.symm);refine⟨_,rfl,l.J,C,A,_,_,rfl,o1,d.cls,d.oV,rfl,.inl ⟨rfl,_,aq.of X⟩,_,rfl,l.J,C,A,_,_,rfl,o1,d.cls,d.r9,rfl,n,rfl,hn,λt H2 nt k ht=>?_⟩;refine⟨l.la,_,_,rfl,rfl,k _ _ X,by rw[Ya];omega,λH3 u e3=>?_⟩;have o3:=u _ _ (k _ _ o1) x2;have m3:=u _ _ (k _ _ (v _ _ c.kM (λz=>Q z.symm))) (λz=>z1 z.symm);refine⟨_,rfl,by show 1<=sizeLine;decide,λm H4 J j em=>?_⟩;have o4:=j _ _ o3;refine⟨_,rfl,l.J,C,A,_,_,rfl,o4,d.cls,d.wL,rfl,_,rfl,l.md,_,.inl (st.hd.length:Int),rfl,j _ _ m3,rfl,?_,λH5 g e5=>?_⟩
 ·have:=dl (ks:=st.mem.map (·.1)) (as:=l.ib);omega
 have T:=g _ _ o4 x3;refine⟨_,rfl,l.J,C,A,_,_,rfl,T,d.cls,d.r9,rfl,(n:Int),rfl,λr D nr x er=>⟨r,n,rfl,er,hn,λfa H7 YD g7 ef=>?_⟩⟩;have D_:=x.trans g7;have f5:=g _ _ (j _ _ (u _ _ (k _ _ (v _ _ c.frees (λz=>y3 z.symm))) (λz=>z2 z.symm))) (λz=>w1 z.symm);refine⟨_,rfl,l.J,C,A,_,_,rfl,D_ _ _ T,d.cls,d.uC,rfl,_,rfl,l.fd,_,.inl (st.hd.length:Int),rfl,D_ _ _ f5,rfl,?_,λi b8 e8=>?_⟩
 ·have:=dl (ks:=st.fr.map (·.1)) (as:=l.cB);omega
 have keep:∀b o,H b=Z o->b≠l.ha->b≠l.la->b≠l.md->b≠l.fd->i b=Z o:=λb o e n1 n2 n3 n4=>b8 _ _ (D_ _ _ (g _ _ (j _ _ (u _ _ (k _ _ (v _ _ e n1)) n2)) n3)) n4;rw[lF _ (y8 nm),yV _ _ (by rw[Ya];exact Eq.symm Nx)] at e5;rw[lF _ (y8 nf),yV _ _ (by rw[Ya];exact Eq.symm D9)] at e8;have Ny:H m=aJ:=by
  cases e:H m with
  |none=>rfl
  |some o=>
   have hm1:m≠l.ha:=λz=>by rw[z,u _ _ (k _ _ e1) R] at J;cases J
   have hm2:m≠l.la:=λz=>by rw[z,e3] at J;cases J
   rw[u _ _ (k _ _ (v _ _ e hm1)) hm2] at J;cases J
 have en:=c.ne Ny;have Nz:fa∉l.fp/\fa≠m:=by
  have G:D fa=aJ:=YD;have h5:∀b o,H b=Z o->b≠l.ha->b≠l.la->b≠l.md->D b=Z o:=λb o e n1 n2 n3=>x _ _ (g _ _ (j _ _ (u _ _ (k _ _ (v _ _ e n1)) n2)) n3);have f1:D l.ha=Z _:=x _ _ (g _ _ (j _ _ (u _ _ (k _ _ e1) R)) Q);have f2:D l.la=Z _:=x _ _ (g _ _ (j _ _ e3) z1);have f3:D l.md=Z _:=x _ _ e5;have f4:D m=Z _:=x _ _ (g _ _ em (λz=>en (by rw[z];simp[JL.fp])));have f5':D l.fd=Z _:=x _ _ f5;have f6:D l.J=Z _:=x _ _ T;refine⟨λz=>?_,ud f4 G⟩;simp only[JL.fp,Ym] at z;rcases z with z|z|z|z|z|z;·exact ud f6 G z
  ·exact ud f1 G z
  ·exact ud f2 G z
  ·exact ud f3 G z
  ·exact ud f5' G z
  ·obtain⟨y,ey⟩:=yU c.mem z;refine ud (h5 _ _ ey ?_ ?_ ?_) G rfl;·exact λq=>y4 (by rw[←q];exact z)
   ·exact λq=>z3 (by rw[←q];exact z)
   ·exact λq=>w2 (by rw[←q];exact z)
 have kt:∀a∈l.fY,∀E:O Int,H a=Z (.tup (E.map V.int))->i a=Z (.tup (E.map V.int)):=λa _ E e=>keep a _ e (eY e c.heads (λz=>by cases z)) (eY e c.jK (λz=>by cases z)) (eY e c.kM (λz=>by cases z)) (eY e c.frees (λz=>by cases z));have L:∀b o,H5 b=Z o->b≠l.fd->i b=Z o:=λb o e n=>b8 _ _ (D_ _ _ e) n;have nmd:m≠l.md:=λz=>en (by rw[z];simp[JL.fp]);have nmf:m≠l.fd:=λz=>en (by rw[z];simp[JL.fp]);have ntf:t≠l.fd:=λz=>by
  have:=v _ _ c.frees (λz=>y3 z.symm);rw[←z,nt] at this;cases this
 have NA:t≠l.la:=λz=>by rw[←z,nt] at X;cases X
 have YF:t≠l.md:=λz=>by
  have:=v _ _ c.kM (λz=>Q z.symm);rw[←z,nt] at this;cases this
 refine⟨_,rfl,q ⟨l.J,l.ha,l.la,l.md,l.fd,l.fY++[t],l.ib++[m],l.cB++[fa]⟩ i rfl (λb o e N=>?_) (λb hb=>?_) ⟨⟨A,L _ _ T x4⟩,?_,?_,?_,?_,?_,?_,?_,?_,?_⟩⟩
 ·simp only[JL.fp,Ym,k8] at N;exact keep b o e N.2.1 N.2.2.1 N.2.2.2.1 N.2.2.2.2.1
 ·simp only[JL.fp,Ym,Yv,Y2,i1] at hb⊢;rcases hb with h|h|h|h|h|h|h;·exact .inl (.inl h)
  ·exact .inl (.inr (.inl h))
  ·exact .inl (.inr (.inr (.inl h)))
  ·exact .inl (.inr (.inr (.inr (.inl h))))
  ·exact .inl (.inr (.inr (.inr (.inr (.inl h)))))
  ·exact .inl (.inr (.inr (.inr (.inr (.inr h)))))
  ·rw[h];exact .inr Ny
 ·show i l.ha=Z (.lst (eQ (st.hd++[st.hd.length])));rw[L _ _ (g _ _ (j _ _ (u _ _ (k _ _ e1) R)) Q) y3,ZfU]
 ·show i l.la=Z (.lst ((l.fY++[t]).map V.ref));rw[L _ _ (g _ _ (j _ _ e3) z1) z2,Yn];rfl
 ·exact jh (F:=λa (E:O Int)=>i a=Z (.tup (E.map V.int))) (L _ _ (g _ _ (j _ _ (u _ _ ht NA)) YF) ntf) (_L.Paired.bH (wM c.lead) λa E h=>kt a h.2 E h.1)
 ·show i l.md=Z (.dK (bM ((st.mem++[(st.hd.length,[st.hd.length])]).map (·.1)) (l.ib++[m])));rw[L _ _ e5 w1,Yn];rfl
 ·refine jh (F:=λa (p:Nat×O Nat)=>i a=Z (.lst (eQ p.2))) (L _ _ (g _ _ em nmd) nmf) (_L.Paired.bH (wM c.mem) λa p h=>keep a _ h.1 ?_ ?_ ?_ ?_);·exact λz=>y4 (by rw[←z];exact h.2)
  ·exact λz=>z3 (by rw[←z];exact h.2)
  ·exact λz=>w2 (by rw[←z];exact h.2)
  ·exact λz=>v1 (by rw[←z];exact h.2)
 ·show i l.fd=Z (.dK (bM ((st.fr++[(st.hd.length,bQ n)]).map (·.1)) (l.cB++[fa])));rw[e8,Yn];rfl
 ·have nfd:fa≠l.fd:=λz=>Nz.1 (by rw[z];simp[JL.fp]);refine jh (F:=λa (p:Nat×O Int)=>i a=Z (.lst (p.2.map V.int))) (b8 _ _ ef nfd) (_L.Paired.bH (wM c.free) λa p h=>?_);have no:=c.out a h.2;simp only[JL.fp,Ym,k8] at no;exact keep a _ h.1 no.2.1 no.2.2.1 no.2.2.2.1 no.2.2.2.2.1
 ·have W:=c.nd;have e0:JL.fp ⟨l.J,l.ha,l.la,l.md,l.fd,l.fY++[t],l.ib++[m],l.cB++[fa]⟩=l.fp++[m]:=rfl;rw[e0,Wy];refine⟨W,QS,λa ha b hb=>?_⟩;have eb:b=m:=by simpa using hb
  intro z;rw[z,eb] at ha;exact en ha
 ·intro a ha;have e0:JL.fp ⟨l.J,l.ha,l.la,l.md,l.fd,l.fY++[t],l.ib++[m],l.cB++[fa]⟩=l.fp++[m]:=rfl;rw[e0,Yv];have kX:a∈l.cB++[fa]:=ha;rcases Yv.mp kX with h|h
  ·rintro(z|z);·exact c.out a h z
   ·have e:a=m:=by simpa using z
    obtain⟨y,ey⟩:=yU c.free h;rw[e,Ny] at ey;cases ey
  ·have e:a=fa:=by simpa using h
   rw[e];rintro(z|z);·exact Nz.1 z
   ·exact Nz.2 (by simpa using z)
def ZdA{K:ah}{a:U}{ns:O Int}{t:TT}{u:TE}{r:St}{D:U}{H:Hp}{Q:VK}(N:aq K H a (ns.map V.int))(T:ns.length<=1000)(x:H D=aJ)(p:Int->cu)(g:Int->V)
  (k:∀z∈ns,∀d,aj H d->∀(E:VK) (F:Hp->Prop),(p z=af->∀h,aj d h->E (g z) h)->(p z=bg->∀h,aj d h->F h)->t (Z (.int z)::r) d λc G=>if c=af then u (Z (.int z)::r) G E else F G)
  (R:∀s,aj H s->s D=Z (.lst ((ns.filter p).map g))->Q (.ref D) s):jI (kR K a) t u r D H Q:=by
 refine Iq (λi j d=>i<=ns.length/\aj H d/\d D=Z (.lst j)/\j=((ns.take i).filter p).map g) ⟨Yx _,cF x _,a9,rfl⟩ (λi j d _ ⟨_,m,_,_⟩=>m.seq N) ?_ ?_
 ·intro i v j d P X;refine eJ X λ_ m y e=>?_;refine bo (mM P) λz W n=>?_;subst W;have A:=(Yh.mp n).1;have J:j.length<sizeLine:=by
   have:=Wl p (ns.take i);rw[Wb] at this;rw[e,Ya,d6];omega
  refine k z (Yg n) d m _ _ (λL h l=>⟨l _ _ y,J,A,λb o q=>?_,a9,?_⟩) (λL h l=>⟨A,m.trans l,l _ _ y,?_⟩)
  ·rw[aS (cC q x)];exact l _ _ (m _ _ q)
  ·rw[e,Y1,n,Wm,Yn]
   simp_all
  ·rw[e,Y1,n,Wm,Yn]
   simp_all
 ·simp_all
theorem rS(x:Int):∀a:O Int,gT (.int x) (a.map V.int)=decide (x∈a)
 |[]=>rfl
 |s::a=>by
  have b:=rS x a;unfold gT at b⊢;rw[Wj,Jh,b];show((s==x)||decide (x∈a))=_
  grind
def uk(a:O Int):(a.map V.int).all kh=af:=by
 rw[Na,Wo];intro p _;rfl
noncomputable def kq(a:O Nat)(b:O U)(h:Nat)(c:U):O U:=(a.zip b).map λp=>if p.1=h then c else p.2
theorem Qe(h:Nat)(a':U):∀{b:O Nat} {as:O U},b.length=as.length->(bM b as).map (λc=>if c.1=(.inl (h:Int):Key) then(c.1,V.ref a') else c)=bM b (kq b as h a')
 |[],[],_=>rfl
 |k::b,a::as,e=>by
  have d:=Qe h a' (by simpa using e);have j:bM (k::b) (a::as)=(Sum.inl (k:Int),V.ref a)::bM b as:=rfl;have i:kq (k::b) (a::as) h a'=(if k=h then a' else a)::kq b as h a':=rfl;have g:bM (k::b) ((if k=h then a' else a)::kq b as h a')=(Sum.inl (k:Int),V.ref (if k=h then a' else a))::bM b (kq b as h a'):=rfl
  grind
 |[],_::_,e=>rfl
 |_::_,[],e=>rfl
def ZfV{h:Nat}(e:b.length=as.length)(d:aY (bM b as) (.inl (h:Int))=Z (.ref a)):putK (bM b as) (.inl (h:Int)) (.ref c)=bM b (kq b as h c):=by
 unfold putK;rw[bC (by rw[wU,d];rfl)];exact Qe h c e
noncomputable def fL{a:Type}(h:Nat)(v:a)(b:O (Nat×a)):O (Nat×a):=b.map λp=>if p.1=h then(p.1,v) else p
theorem ui{b:Type}(h:Nat)(v:b):∀a:O (Nat×b),(fL h v a).map (·.1)=a.map (·.1)
 |[]=>rfl
 |p::a=>by
  have c:=ui h v a;show(if p.1=h then(p.1,v) else p).1::(fL h v a).map (·.1)=_
  grind
theorem ZdB{v:α}(g:∀k,G m (k,v)):∀{d:O U} {c:O (Nat×α)},Paired F d c->(∀a p,F a p->a∈d->G a p)->Paired G (kq (c.map (·.1)) d h m) (fL h v c):=by
 intro d c e;induction e with
 |nil=>intro _;exact .nil
 |@cons a p d c f t i=>
  intro k;refine .cons ?_ (i λb q l j=>k b q l (Yw _ j))
  grind
theorem Rf{h:Nat}{e b:U}:∀{d:O Nat} {c:O U},b∈kq d c h e->b=e\/b∈c
 |[],_,m=>by unfold kq at m;simp at m
 |_::_,[],m=>by unfold kq at m;simp at m
 |k::d,a::c,m=>by
  rcases Ym.mp m with z|z;·grind
  ·rcases Rf z with w|w;·exact .inl w
   ·grind
def JS.mU(a:JS)(h:Nat)(v:O Int):JS:={a with fr:=fL h v a.fr}
structure u4(st:JS)(i h:Nat)(t hP:O Int):Prop where
 hd:st.hd[i]?=Z h
 ld:st.ld[i]?=Z t
 fr:st.fr.lookup h=Z hP
 gq:∀z∈hP,0<=z/\z<t.length
 cM:hP.length<64
 dist:(hP.map λz=>t.getD z.toNat 0).Nodup
inductive JI(K:ah)(C:U)(g:O V)(H:Hp)(Q:VK)(E:XK):Prop
 |mk (l:JL) (st:JS) (n i h:Nat) (t a d:O Int) (e:U) (q:g=[.ref l.J,.int (i:Int),.ref e]) (o:c_ H C n l st) (p:u4 st i h t a) (k:st.fr.length<1000) (m:aq K H e (d.map V.int)) (j:∀(b:JL) (c:Hp),b.J=l.J->b.fp=l.fp->Out l.fp H c->c_ c C n b (st.mU h (a.filter λz=>decide (t.getD z.toNat 0∈d)))->Q .ay c)
noncomputable abbrev C_:O ar:=["self","one","sections"]
def FA:aW ["self","one","sections","lead","head"] C_ (aL FO):=.bp
def ZeF(F:aT K "narrow" "Joins.narrow" FO f fd)(g:nX K C)(bl:Bl B):aI P w K B I aR 2 f fd C_ (JI K C):=by
 refine F.o FA λs H hr h=>?_;obtain⟨l,st,n,i,h,t,r,E,sl,rfl,d,one,lf,AI,q⟩:=h;refine⟨_,(ak (iC (i:=3) FA.nd rfl (mF rfl) (bc (iL K) (pF K 0) (pv 1))) (ak (cj 4 FA.nd (bc (iL K) (pF K 0) (pv 1))) (av (oU (bL hr) (pF K 0) (pv 4) (jG (x:="section") (fr:=[("sections",2),("lead",3)]) (cl:=[("sections",s.heap.objs.size+1),("lead",s.heap.objs.size+1+1)]) rfl (.ia ⟨rfl,⟨rfl,trivial⟩⟩ ⟨⟨rfl,.inl rfl,.inl rfl,rfl⟩,⟨⟨rfl,.inl rfl,.inl rfl,rfl⟩,trivial⟩⟩) (fD (K:=K) rfl (dm (bL hr) (pF K 0) (pv 4) (λ_ _=>rfl))) (λ_ _ _ _=>zc (gm (oI (K:=K) rfl) (bc (iT K) (pv 2) (pv 0)) (pv 1) QU)) (λ_ _ _ _=>(pv 0))))))),?_⟩;refine oP ?_;intros;have sz:(10000:Nat)<=sizeLine:=by rw[d6];decide
 obtain⟨A,u⟩:=d.obj;refine cm (qm (f:=λv:O Int=>HO.lst (v.map V.int)) d.free one.fr) λfa YE T dO=>?_;obtain⟨m,J,Nu⟩:∃m,l.fY[i]?=Z m/\H m=Z (.tup (t.map V.int)):=by
  have hl:=c7 d.lead;have eP:i<l.fY.length:=by rw[hl];exact(Yh.mp one.ld).1
  obtain⟨y,ey,hy⟩:=gf d.lead (Yb eP);rw[one.ld] at ey;cases ey;exact⟨_,Yb eP,hy⟩
 have Nv:dY (l.fY.map V.ref) (i:Int)=Z (.ref m):=iz (by rw[Ye,J];rfl);have D9:=c7 d.free;refine cD ?_;refine⟨_,rfl,l.J,C,A,_,_,rfl,u,g.cls,g.oV,rfl,_,rfl,l.la,_,_,_,rfl,rfl,aq.of d.jK,Nv,?_⟩;refine cD ?_;refine⟨_,rfl,l.J,C,A,_,_,rfl,u,g.cls,g.kH,rfl,_,rfl,l.ha,_,_,_,rfl,rfl,aq.of d.heads,oW one.hd,?_⟩;refine⟨_,rfl,l.J,C,A,_,_,rfl,u,g.cls,g.uC,rfl,_,rfl,l.fd,_,rfl,qB d.frees T,fa,rfl,⟨_,aq.of dO⟩,λD hD=>ZdA (ns:=r) (aq.of dO) (by have:=one.cM;exact Nat.le_of_lt (Nat.lt_of_lt_of_le this (by decide))) hD (λz=>decide (t.getD z.toNat 0∈E)) V.int (λz hz Q j Kt Kf kt kf=>?_) λQ j h1=>?_⟩
 ·have bz:=one.gq z hz;refine⟨_,rfl,_,rfl,m,_,_,_,rfl,rfl,az.of (j _ _ Nu),oX bz.1 bz.2,_,rfl,sl,_,rfl,.inl (j.seq AI),rfl,uk E,_,rfl,?_⟩;rw[bF Yl,rS];refine bY (λc=>?_) (λc=>?_);·exact⟨_,rfl,kt c Q (aj.refl _)⟩
  ·exact kf (by cases e:decide (t.getD z.toNat 0∈E) with|true=>exact absurd e c|false=>rfl) Q (aj.refl _)
 ·refine⟨_,rfl,l.J,C,A,_,_,rfl,j _ _ u,g.cls,g.uC,rfl,_,rfl,l.fd,_,.inl (h:Int),rfl,j _ _ d.frees,rfl,?_,λN L e2=>?_⟩
  ·unfold bM;rw[Ya,Jc,Ya];exact Nat.lt_of_le_of_lt (Nat.min_le_left _ _) (Nat.lt_of_lt_of_le lf (by decide))
  rw[ZfV (by rw[Ya];exact D9.symm) T] at e2;have W:=d.nd;have R:l.fd∈l.fp:=by simp[JL.fp]
  simp only[JL.fp,Y0,Ym,k8] at W;obtain⟨⟨x1,x2,x3,x4,x5⟩,⟨y1,y2,y3,y4⟩,⟨z1,z2,z3⟩,⟨w1,w2⟩,v1,v2⟩:=W;have keep:∀b o,H b=Z o->b≠l.fd->N b=Z o:=λb o e nb=>L _ _ (j _ _ e) nb;have X:D∉l.fp:=d.ne hD;have G:D≠l.fd:=λz=>X (by rw[z];exact R);refine q ⟨l.J,l.ha,l.la,l.md,l.fd,l.fY,l.ib,kq (st.fr.map (·.1)) l.cB h D⟩ N rfl rfl ((Out.of j).trans (Out.bar L R)) ⟨⟨A,keep _ _ u x4⟩,keep _ _ d.heads y3,keep _ _ d.jK z2,_L.Paired.bH d.lead λa xs e=>keep a _ e (eY e d.frees (λz=>by cases z)),keep _ _ d.kM w1,_L.Paired.bH (wM d.mem) λa p e=>keep a _ e.1 (λz=>v1 (by rw[←z];exact e.2)),?_,?_,d.nd,λa ha=>?_⟩
  ·show N l.fd=Z (.dK (bM ((fL h _ st.fr).map (·.1)) _));rw[ui];exact e2
  ·exact ZdB (λk=>L _ _ h1 G) d.free λa p e ma=>keep a _ e (λz=>d.out a ma (by rw[z];exact R))
  ·rcases Rf ha with rfl|z;·exact X
   ·exact d.out a z
inductive U4(C:U)(e:O V)(H:Hp)(Q:VK)(E:XK):Prop
 |mk (l:JL) (st:JS) (n i h:Nat) (t b:O Int) (a:Int) (p:e=[.ref l.J,.int (i:Int),.int a]) (m:c_ H C n l st) (o:u4 st i h t b) (j:st.fr.length<1000) (k:(a∈b.map (λz=>t.getD z.toNat 0)->∀(d:JL) (c:Hp),d.J=l.J->d.fp=l.fp->Out l.fp H c->c_ c C n d (st.mU h (b.filter λz=>decide (t.getD z.toNat 0∈[a])))->Q (.bl af) c)) (g:(a∉b.map (λz=>t.getD z.toNat 0)->∀c,aj H c->Q (.bl bg) c))
noncomputable abbrev Dc:O ar:=["self","one","section"]
def ZbR:aW Dc Dc (aL GY):=.bp
def ZiZ(F:aT K "say" "Joins.say" GY f fd)(J:cI P w K B I 2 "open_at" C oz (wW C))(q:cI P w K B I 2 "narrow" C C_ (JI K C))(bl:Bl B):aI P w K B I aR 3 f fd Dc (U4 C):=by
 refine F.o ZbR λs H j h=>?_;obtain⟨l,st,n,i,h,t,b,a,rfl,e,one,A,v,u⟩:=h;refine⟨_,(ak (aX (gm (xg rfl) (pv 2) (cY J j (by decide) (pv 0) (aa (pv 1) ag)) QU) (av (aK d7)) a_) (ak (cz (cY q j (by decide) (pv 0) (aa (pv 1) (aa (dU (aa (pv 2) ag)) ag)))) (av (aK d7)))),?_⟩;refine eW e.obj λo k=>?_;refine⟨_,rfl,_,rfl,l.J,o,_,rfl,k,rfl,_,rfl,l,st,n,i,h,t,b,rfl,e,one.hd,one.ld,one.fr,one.gq,one.cM,λp ns T X d g W N=>⟨p,_,rfl,.inl (aq.of N),rfl,uk ns,_,rfl,?_⟩⟩;rw[bC rfl,rS];refine bY (λc=>?_) (λc=>aZ ?_)
 ·refine u (λz=>?_) T d;rw[d9 (g.symm.subset z)] at c;cases c
 ·have x:a∈ns:=by
   by_cases z:a∈ns;·exact z
   ·rw[jb z] at c;exact absurd rfl c
  refine⟨_,rfl,l.J,o,_,rfl,d _ _ k,rfl,_,rfl,_,rfl,by show 1<=sizeLine;rw[d6];decide,λr H2 n2 m Q=>?_⟩;exact⟨l,st,n,i,h,t,b,[a],r,rfl,(e.same d).same m,one,A,aq.of Q,λD R G E y L=>v (g.subset x) D R G E ((Out.of (d.trans m)).trans y) L⟩
noncomputable def eV(a:O Nat)(b:O U)(h:Nat):O U:=((a.zip b).filter λp=>decide (p.1≠h)).map (·.2)
noncomputable def dt{a:Type}(h:Nat)(b:O (Nat×a)):O (Nat×a):=b.filter λp=>decide (p.1≠h)
theorem Bu(h:Nat):∀{b:O Nat} {as:O U},b.length=as.length->iX (bM b as) (.inl (h:Int))=bM (b.filter λk=>decide (k≠h)) (eV b as h)
 |[],[],_=>rfl
 |k::b,a::as,e=>by
  have c:=Bu h (by simpa using e);have i:bM (k::b) (a::as)=(Sum.inl (k:Int),V.ref a)::bM b as:=rfl;unfold iX at c⊢;rw[i,W5,W5];have g:eV (k::b) (a::as) h=(if decide (k≠h)=af then(a::eV b as h) else eV b as h):=by
   unfold eV;rw[YG,W5];split<;>rfl
  rw[g,c];by_cases z:k=h;·simp_all
  ·have d:¬((Sum.inl (k:Int):Key)=.inl (h:Int)):=λw=>z (by have:=J9 w;exact Int.ofNat.inj this);rw[bC (by simp[d]),bC (by simp[z]),bC (by simp[z])];rfl
 |[],_::_,e=>rfl
 |_::_,[],e=>by simp at e
theorem qr{b:Type}(h:Nat):∀a:O (Nat×b),(dt h a).map (·.1)=(a.map (·.1)).filter λk=>decide (k≠h)
 |[]=>rfl
 |p::a=>by
  have c:=qr h a;unfold dt at c⊢
  grind
theorem HV:∀{d:O U} {c:O (Nat×α)},Paired F d c->(∀a p,F a p->a∈d->p.1≠h->G a p)->Paired G (eV (c.map (·.1)) d h) (dt h c):=by
 intro d c e;induction e with
 |nil=>intro _;exact .nil
 |@cons a p d c f t i=>
  intro k;have n:eV ((p::c).map (·.1)) (a::d) h=(if decide (p.1≠h)=af then(a::eV (c.map (·.1)) d h) else eV (c.map (·.1)) d h):=by
   unfold eV;rw[Wj,YG,W5];split<;>rfl
  have m:dt h (p::c)=(if decide (p.1≠h)=af then(p::dt h c) else dt h c):=by
   unfold dt
   grind
  rw[n,m];by_cases z:p.1=h;·simp_all
  ·rw[bC (by simp[z]),bC (by simp[z])];exact .cons (k a p f Yo z) (i λb q l j g=>k b q l (Yw _ j) g)
theorem BR{h:Nat}:∀{ks:O Nat} {as:O U},(eV ks as h).Sublist as
 |[],as=>by
  unfold eV;simp_all
 |_::_,[]=>by
  unfold eV;simp_all
 |k::ks,a::as=>by
  have b:=BR (h:=h) (ks:=ks) (as:=as);have c:eV (k::ks) (a::as) h=(if decide (k≠h)=af then(a::eV ks as h) else eV ks as h):=by
   unfold eV;rw[YG,W5];split<;>rfl
  grind
theorem wH{a:Type}{h k:Nat}(b:k≠h):∀{ps:O (Nat×a)},(dt h ps).lookup k=ps.lookup k
 |[]=>rfl
 |p::ps=>by
  have c:=wH b (ps:=ps);have d:dt h (p::ps)=(if decide (p.1≠h)=af then(p::dt h ps) else dt h ps):=by
   unfold dt
   grind
  grind
theorem ZdC{i:Type}{F G:U->Nat×i->Prop}{h:Nat}{m:U}{v:i}(j:∀k,G m (k,v)):∀{as:O U} {ps:O (Nat×i)},Paired F as ps->as.Nodup->(ps.map (·.1)).Nodup->aY (bM (ps.map (·.1)) as) (.inl (h:Int))=Z (.ref m)->(∀a p,F a p->a∈as->a≠m->G a p)->Paired G as (fL h v ps):=by
 intro as ps s;induction s with
 |nil=>intro _ _ e _;cases e
 |@cons a p as ps f t o=>
  intro d l e k;have g:bM ((p::ps).map (·.1)) (a::as)=(Sum.inl (p.1:Int),V.ref a)::bM (ps.map (·.1)) as:=rfl;have H:fL h v (p::ps)=(if p.1=h then(p.1,v) else p)::fL h v ps:=rfl;rw[Y0] at d;rw[Wj,Y0] at l;rw[H];by_cases z:p.1=h
  ·rw[g,gw (by rw[z])] at e;have r:=V.ref.inj (Yp e);have same:fL h v ps=ps:=by
    unfold fL;refine(Jb λq A=>?_).trans (List.map_id _);rw[bF λw=>l.1 (by rw[z,←w];exact Yf.mpr ⟨q,A,rfl⟩)];rfl
   rw[bC z,same,r];refine .cons (j p.1) (_L.Paired.bH (wM t) λb q c=>k b q c.1 (Yw _ c.2) λw=>d.1 (by rw[r,←w];exact c.2))
  ·rw[g,gk (p:=((Sum.inl (p.1:Int):Key),V.ref a)) (λw=>z (by have:=J9 w;exact Int.ofNat.inj this))] at e;rw[bF z];have J:a≠m:=λw=>by
    have:∀{n:O Nat} {bs:O U},aY (bM n bs) (.inl (h:Int))=Z (.ref m)->m∈bs:=λ{n}=>by
     induction n with
     |nil=>intro bs q;unfold bM at q;rw[List.zip_nil_left] at q;cases q
     |cons x xs o=>
      intro bs q;cases bs with
      |nil=>unfold bM at q;rw[Vj] at q;cases q
      |cons b bs=>
       have g:bM (x::xs) (b::bs)=(Sum.inl (x:Int),V.ref b)::bM xs bs:=rfl;rw[g] at q;by_cases y:x=h
       ·rw[gw (by rw[y])] at q;have E:=V.ref.inj (Yp q);rw[E];exact Yo
       ·rw[gk (λw=>y (by have:=J9 w;exact Int.ofNat.inj this))] at q;exact Yw _ (o q)
    exact d.1 (by exact w▸this e)
   exact .cons (k a p f Yo J) (o d.2 l.2 e λb q D c u=>k b q D (Yw _ c) u)
def q5(b:O Int)(a:O (O Int))(i:Nat):O (O Int):=a.set i (b_ (a.getD i []) b)
def kg(b a:O Int):(b_ b a).length=a.length:=by unfold b_;rw[Ya]
def Zi0(j:∀x∈xs,0<=x/\x<n)(d:∀y∈a,0<=y/\y<xs.length):∀z∈b_ xs a,0<=z/\z<n:=λz c=>by
 obtain⟨y,b,rfl⟩:=Yf.mp c;obtain⟨i,h⟩:=d y b;have g:y.toNat<xs.length:=QO
 have e:xs.getD y.toNat 0=xs[y.toNat]:=by rw[Yk,Yb g];rfl
 simp_all
noncomputable def lK(d:Nat)(b:O Nat)(c:O Nat):O Nat:=b.foldl (λa i=>a.set i d) c
def iY(c:O Int)(a:O Nat)(b:O (O Int)):O (O Int):=a.foldl (q5 c) b
def JS.mv(a:JS)(d c:Nat)(e b:O Nat)(g:O Int):JS:=⟨lK d b a.hd,iY g b a.ld,fL d (e++b) (dt c a.mem),dt c a.fr⟩
inductive TZ(C:U)(r:O V)(H:Hp)(Q:VK)(E:XK):Prop
 |mk (l:JL) (st:JS) (n a b d h:Nat) (q p e s:O Int) (o:U) (g j:O Nat) (X:r=[.ref l.J,.int (a:Int),.int (b:Int),.ref o]) (T:c_ H C n l st) (W:H o=Z (.tup (e.map V.int))) (P:n<=8) (R:e.length=n) (N:full e=af) (L:st.hd[a]?=Z d) (J:st.hd[b]?=Z h) (G:st.ld[a]?=Z q) (D4:st.ld[b]?=Z p) (L7:(∀t∈st.ld,full t=af/\t.length=n)) (VW:st.ld.length=st.hd.length) (F:st.mem.lookup d=Z g) (D:st.mem.lookup h=Z j) (A:st.fr.lookup d=Z s) (z:d≠h) (y:(∀i∈g,i<st.hd.length)) (x:g.length+j.length<=1000) (v:(st.mem.map (·.1)).Nodup) (u:∀(k:JL) (m:Hp),k.J=l.J->(∀c∈k.fp,c∈l.fp)->Out l.fp H m->c_ m C n k (st.mv h d j g (b_ (inv q) (b_ e p)))->Q .ay m)
theorem yG{b e:Type}{g:O b->e->O b}(h:∀a i,(g a i).length=a.length):∀(d:O e) (c:O b),(d.foldl g c).length=c.length
 |[],_=>rfl
 |i::d,c=>by
  rw[Nd,yG h d,h]
def Pr{a:O β}(h:a[j]?=Z i)(b:O α):(a.take (j+1)).foldl g b=g ((a.take j).foldl g b) i:=by
 rw[Y1,h,X0];rfl
def Zhe(a:O Nat)(i k:Nat):(eQ a).set i (.int (k:Int))=eQ (a.set i k):=by
 simp_all
theorem Pt{b a:Type}{F:b->a->Prop}{x:b}{y:a}(f:F x y):∀{d:O b} {c:O a} (i:Nat),Paired F d c->Paired F (d.set i x) (c.set i y)
 |_,_,_,.nil=>.nil
 |_,_,0,.cons _ t=>.cons f t
 |_,_,i+1,.cons g t=>.cons g (Pt f i t)
def rL(g:full xs=af)(d:full a=af)(e:xs.length=a.length):full (b_ xs a)=af:=by
 have b:(b_ xs a).Perm ((bQ a.length).map λx=>xs.getD x.toNat 0):=(rG d).map _;have h:((bQ a.length).map λx=>xs.getD x.toNat 0)=xs:=by
  refine Wt λi=>?_;rw[Ye];by_cases c:i<a.length
  ·rw[nL c]
   simp_all
  ·rw[Y4 (by rw[fR];exact Nat.le_of_not_lt c),Y4 (Nat.le_trans (Nat.le_of_eq e) (Nat.le_of_not_lt c))];rfl
 rw[h] at b;exact ur (b.trans (rG g))
inductive Lz(k:Hp)(l:JL)(j:O Nat)(d:O (O Int))(n:Nat)(h:bS V->St)(g:St)(b:Hp):Prop
 |mk (i:O U) (p:bS V) (v:b l.ha=some (.lst (eQ j))) (u:b l.la=some (.lst (i.map V.ref))) (s:Paired (λa (m:O Int)=>b a=Z (.tup (m.map V.int))) i d) (r:∀t∈d,full t=af/\t.length=n) (q:∀c o,k c=Z o->c≠l.ha->c≠l.la->b c=Z o) (e:g=h p):Lz k l j d n h g b
def VX(l:JL)(a b i j:Int)(c e d h:U)(g:bS V):St:=[Z (.ref l.J),Z (.int a),Z (.int b),Z (.ref c),Z (.int i),Z (.int j),Z (.ref e),Z (.ref d),Z (.ref h),g]
noncomputable abbrev L8:O ar:=["self","mover","stayer","turn"]
def t_:aW ["self","mover","stayer","turn","head","old_head","to_mover","to_old_head","moved","number"] L8 (aL Gn):=.bp
theorem Zhf(F:aT K "move" "Joins.move" Gn f fd)(r:nX K C)(rE:HasFn P w K B I 1 "followed" pN (Lw K))(qb:HasFn P w K B I 1 "turned_back" pO C5)(bl:Bl B):aI P w K B I aR 2 f fd L8 (TZ C):=by
 refine F.o t_ λs H hr h=>?_;obtain⟨l,st,n,a,b,A,hb,ta,tb,tn,fm,tu,g,mb,rfl,d,hu,n8,tl,ft,hA,hB,lA,lB,fl,ll,mA,mB,fA,neq,min,lm,ndk,q⟩:=h;refine⟨_,(ak (cj 4 t_.nd (bc (iL K) (pF K 0) (pv 2))) (ak (cj 5 t_.nd (bc (iL K) (pF K 0) (pv 1))) (ak (cj 6 t_.nd (bh rE hr (aa (bc (iL K) (pF K 0) (pv 2)) (aa (pv 3) ag)))) (ak (cj 7 t_.nd (bh rE hr (aa (pv 6) (aa (bh qb hr (aa (bc (iL K) (pF K 0) (pv 1)) ag)) ag)))) (ak (cj 8 t_.nd (P_ (pF K 0) (pv 5) ⟨rfl,rfl,rfl,rfl⟩)) (ak (cz (P_ (pF K 0) (pv 5) ⟨rfl,rfl,rfl,rfl⟩)) (ak (fS iJ rfl (fD (K:=K) rfl (pv 8)) (bI 9 t_.nd) (ak (RX (pF K 0) (pv 9) P7 (pv 4)) (av (RX (pF K 0) (pv 9) P7 (bh rE hr (aa (pv 7) (aa (bc (iL K) (pF K 0) (pv 9)) ag))))))) (av (cz (nW (K:=K) rfl (kJ lg PySem.F.slot_list_extend PySem.F.type_list_extend Zdh (dm (bL hr) (pF K 0) (pv 4) (λ_ _=>rfl)) (aa (pv 8) ag)))))))))))),?_⟩;refine AO ?_;intros;have sz:(10000:Nat)<=sizeLine:=by rw[d6];decide
 obtain⟨N,ho⟩:=d.obj;have zN:∀{i:Nat} {t:O Int},st.ld[i]?=Z t->∃x,l.fY[i]?=Z x/\H x=Z (.tup (t.map V.int)):=λ{i t} ht=>by
  have hl:=c7 d.lead;have eP:i<l.fY.length:=by rw[hl];exact(Yh.mp ht).1
  refine bo (gf d.lead (Yb eP)) λy ey hy=>?_;rw[ht] at ey;cases ey;exact⟨_,Yb eP,hy⟩
 refine bo (zN lA) λxa exa NB=>?_;obtain⟨xb,exb,NC⟩:=zN lB;have ata:dY (l.fY.map V.ref) (a:Int)=Z (.ref xa):=iz (by rw[Ye,exa];rfl);have atb:dY (l.fY.map V.ref) (b:Int)=Z (.ref xb):=iz (by rw[Ye,exb];rfl);obtain⟨YH,lta⟩:=fl ta (Yg lA);obtain⟨ND,NF⟩:=fl tb (Yg lB);obtain⟨mo,AJ,vmo,YI⟩:=qm (f:=λv:O Nat=>HO.lst (eQ v)) d.mem mA;obtain⟨ms,mms,vms,hms⟩:=qm (f:=λv:O Nat=>HO.lst (eQ v)) d.mem mB;obtain⟨fo,mfo,vfo,hfo⟩:=qm (f:=λv:O Int=>HO.lst (v.map V.int)) d.free fA;have Nx:=c7 d.mem;have D9:=c7 d.free;have nd:=d.nd;have Ea:∀{x:U},x∈l.ib->x∈l.fp:=λ{x} h=>by simp[JL.fp,h]
 simp only[JL.fp,Y0,Ym,k8] at nd;obtain⟨⟨x1,x2,x3,x4,x5⟩,⟨y1,y2,y3,y4⟩,⟨z1,z2,z3⟩,⟨w1,w2⟩,v1,v2⟩:=nd;refine cD ?_;refine⟨_,rfl,l.J,C,N,_,_,rfl,ho,r.cls,r.kH,rfl,_,rfl,l.ha,_,_,_,rfl,rfl,aq.of d.heads,oW hB,?_⟩;refine cD ?_;refine⟨_,rfl,l.J,C,N,_,_,rfl,ho,r.cls,r.kH,rfl,_,rfl,l.ha,_,_,_,rfl,rfl,aq.of d.heads,oW hA,?_⟩;refine cD ?_;refine⟨_,rfl,l.J,C,N,_,_,rfl,ho,r.cls,r.oV,rfl,_,rfl,l.la,_,_,_,rfl,rfl,aq.of d.jK,atb,_,rfl,xb,tu,tb,tn,rfl,az.of NC,az.of hu,λx R=>by rw[tl,←NF];exact rR ND R,(Nat.lt_of_le_of_lt (Nat.le_of_eq NF) (Nat.lt_of_le_of_lt n8 (by decide))),λtm H1 YF g1 htm=>?_⟩;refine cD ?_;refine⟨_,rfl,_,rfl,l.J,C,N,_,_,rfl,g1 _ _ ho,r.cls,r.oV,rfl,_,rfl,l.la,_,_,_,rfl,rfl,aq.of (g1 _ _ d.jK),ata,xa,ta,rfl,g1 _ _ NB,QO,YH,λti H2 nti g2 Eb=>?_⟩;refine⟨tm,ti,b_ tn tb,inv ta,rfl,az.of (g2 _ _ htm),az.of Eb,?_,by rw[kg];omega,λto H3 Ec g3 YJ=>?_⟩
 ·rw[hJ,lta];exact Zi0 (n:=n) (λx R=>by rw[←tl];exact rR ft R) (λy hy=>by rw[tl,←NF];exact rR ND hy)
 have kZ:=(g1.trans g2).trans g3;generalize ZkC:b_ (inv ta) (b_ tn tb)=D at YJ q;have xD:full D=af/\D.length=n:=by
  rw[←ZkC];refine⟨rL (lG YH) (rL ft ND QO) (by rw[hJ,kg];omega),by rw[kg,kg];exact NF⟩
 refine cD ?_;refine⟨_,rfl,l.J,C,N,_,_,rfl,kZ _ _ ho,r.cls,r.wL,rfl,l.md,rfl,.inl ⟨_,.inl (kZ _ _ d.kM)⟩,_,rfl,_,.inl (A:Int),.ref mo,kZ _ _ d.kM,rfl,vmo,λH4 b4 e4=>?_⟩;rw[Bu A (by rw[Ya];exact Nx.symm)] at e4;have o4:=b4 _ _ (kZ _ _ ho) x3;have f4:=b4 _ _ (kZ _ _ d.frees) (λz=>w1 z.symm);refine⟨_,rfl,l.J,C,N,_,_,rfl,o4,r.cls,r.uC,rfl,l.fd,rfl,.inl ⟨_,.inl f4⟩,_,rfl,_,.inl (A:Int),.ref fo,f4,rfl,vfo,λH5 b5 e5=>?_⟩;rw[Bu A (by rw[Ya];exact D9.symm)] at e5;have L:∀c o,H c=Z o->c≠l.md->c≠l.fd->H5 c=Z o:=λc o e J Q=>b5 _ _ (b4 _ _ (kZ _ _ e) J) Q;have e45:H5 l.md=Z _:=b5 _ _ e4 w1;have X:∀{x:U},x∈l.ib->x≠l.ha/\x≠l.la/\x≠l.md/\x≠l.fd:=λ{x} R=>⟨λz=>y4 (by rw[←z];exact R),λz=>z3 (by rw[←z];exact R),λz=>w2 (by rw[←z];exact R),λz=>v1 (by rw[←z];exact R)⟩;have YK:=L _ _ YI (X AJ).2.2.1 (X AJ).2.2.2;have yb:H5 to=Z (.tup (D.map V.int)):=by
  have J:to≠l.md:=λz=>by rw[z,g1.trans g2 _ _ d.kM] at Ec;cases Ec
  have Q:to≠l.fd:=λz=>by rw[z,g1.trans g2 _ _ d.frees] at Ec;cases Ec
  exact b5 _ _ (b4 _ _ YJ J) Q
 dsimp only;have NG:(eQ g).length=g.length:=Ya _;have hlen:∀is:O Nat,(lK hb is st.hd).length=st.hd.length:=λis=>yG (λ_ _=>W8) is st.hd;have ZkD:∀is:O Nat,(iY D is st.ld).length=st.ld.length:=λis=>yG (λ_ _=>by unfold q5;exact W8) is st.ld;refine hU (Lz H5 l (lK hb g st.hd) (iY D g st.ld) n (VX l a b hb A tu tm to mo)) (λl9 eR=>?_) ?_
 ·refine⟨_,rfl,mo,rfl,⟨_,aq.of YK⟩,jE (K:=K) (a:=mo) (xs:=eQ g) (λj=>Lz H5 l (lK hb (g.take j) st.hd) (iY D (g.take j) st.ld) n (VX l a b hb A tu tm to mo))
   ⟨l.fY,aJ,L _ _ d.heads y2 y3,L _ _ d.jK z1 z2,_L.Paired.bH d.lead λc xs e=>L c _ e (eY e d.kM (λz=>by cases z)) (eY e d.frees (λz=>by cases z)),fl,λc o e _ _=>e,rfl⟩
   (λj σ H6 _ ⟨_,_,_,_,_,_,G,_⟩=>aq.of (G _ _ YK (X AJ).1 (X AJ).2.1)) ?_ ?_⟩
  ·rintro j v σ H6 hj ⟨E,o9,T,k2,k3,k4,G,rfl⟩;rw[Ye] at hj;obtain⟨i,mi,rfl⟩:∃i,g[j]?=Z i/\V.int (i:Int)=v:=by
    cases e:g[j]? with
    |none=>rw[e] at hj;cases hj
    |some i=>rw[e] at hj;exact⟨i,rfl,Yp hj⟩
   have hi:=min i (Yg mi);have il:i<(iY D (g.take j) st.ld).length:=by rw[ZkD];omega
   have Zmu:=c7 k3;obtain⟨t,et,Eb⟩:=gf k3 (Yb (show i<E.length by omega));obtain⟨ftt,YL⟩:=k4 t (Yg et);have oJ:=G _ _ (L _ _ ho x3 x4) x1 x2;have ixh:kT (eQ (lK hb (g.take j) st.hd)).length (i:Int)=Z i:=by
    rw[KO (Int.natCast_nonneg _) (by rw[Ya,hlen];omega),Y7]
   have ixl:kT (E.map V.ref).length (i:Int)=Z i:=by
    rw[KO (Int.natCast_nonneg _) (by rw[Ya];omega),Y7]
   refine bj ?_;refine⟨_,rfl,_,rfl,l.J,C,N,_,_,rfl,oJ,r.cls,r.kH,rfl,_,rfl,l.ha,_,_,i,rfl,rfl,T,ixh,λH7 b7 e7=>?_⟩;have YM:=b7 _ _ oJ x1;have AK:=b7 _ _ k2 (λz=>y1 z.symm);have to7:H7 to=Z (.tup (D.map V.int)):=b7 _ _ (G _ _ yb (eY yb (L _ _ d.heads y2 y3) (λz=>by cases z)) (eY yb (L _ _ d.jK z1 z2) (λz=>by cases z))) (eY (G _ _ yb (eY yb (L _ _ d.heads y2 y3) (λz=>by cases z)) (eY yb (L _ _ d.jK z1 z2) (λz=>by cases z))) T (λz=>by cases z));have x7:H7 E[i]=Z (.tup (t.map V.int)):=b7 _ _ Eb (eY Eb T (λz=>by cases z));have atx:dY (E.map V.ref) (i:Int)=Z (.ref E[i]):=iz (by rw[Ye,Yb (show i<E.length by omega)];rfl);refine⟨_,rfl,_,rfl,l.J,C,N,_,_,rfl,YM,r.cls,r.oV,rfl,_,rfl,l.la,_,_,_,rfl,rfl,aq.of AK,atx,to,E[i],D,t,rfl,az.of to7,az.of x7,λx R=>by rw[YL,←xD.2];exact rR xD.1 R,by have:=xD.2;omega,λtt H8 YN g8 htt=>?_⟩;refine⟨_,rfl,l.J,C,N,_,_,rfl,g8 _ _ YM,r.cls,r.oV,rfl,_,rfl,l.la,_,_,i,rfl,rfl,g8 _ _ AK,ixl,λH9 b9 e9=>?_⟩;have gt:(iY D (g.take j) st.ld).getD i []=t:=by rw[Yk,et];rfl
   have eh:lK hb (g.take (j+1)) st.hd=(lK hb (g.take j) st.hd).set i hb:=Pr mi st.hd;have el:iY D (g.take (j+1)) st.ld=(iY D (g.take j) st.ld).set i (b_ t D):=by
    have e1:iY D (g.take (j+1)) st.ld=q5 D (iY D (g.take j) st.ld) i:=Pr mi st.ld;rw[e1,←gt];rfl
   have NA:tt≠l.la:=λz=>by rw[z,AK] at YN;cases YN
   have h9:∀c o,H6 c=Z o->c≠l.ha->c≠l.la->H9 c=Z o:=λc o e J Q=>b9 _ _ (g8 _ _ (b7 _ _ e J)) Q;refine⟨E.set i tt,_,?_,?_,?_,?_,λc o e J Q=>h9 c o (G c o e J Q) J Q,rfl⟩
   ·rw[eh,←Zhe];exact b9 _ _ (g8 _ _ e7) y1
   ·rw[e9,List.map_set]
   ·rw[el];exact Pt (F:=λa (xs:O Int)=>H9 a=Z (.tup (xs.map V.int))) (b9 _ _ htt NA) i (_L.Paired.bH k3 λc xs e=>h9 c _ e (eY e T (λz=>by cases z)) (eY e k2 (λz=>by cases z)))
   ·intro u AL;rw[el] at AL;rcases List.mem_or_eq_of_mem_set AL with z|z;·exact k4 u z
    ·rw[z];exact⟨rL ftt xD.1 (by rw[YL,xD.2]),by rw[kg];exact xD.2⟩
  ·rintro σ H6 ⟨E,o9,T,k2,k3,k4,G,rfl⟩;rw[NG,Wd] at T k3 k4;exact eR _ _ ⟨E,o9,T,k2,k3,k4,G,rfl⟩
 rintro σ H6 ⟨E,o9,T,k2,k3,k4,G,rfl⟩;have oJ:=G _ _ (L _ _ ho x3 x4) x1 x2;have YO:=G _ _ e45 (λz=>y2 z.symm) (λz=>z1 z.symm);have fd6:=G _ _ e5 (λz=>y3 z.symm) (λz=>z2 z.symm);have Ed:=X mms;have Ee:=X AJ;have zO:∀c o,H c=Z o->c≠l.ha->c≠l.la->c≠l.md->c≠l.fd->H6 c=Z o:=λc o e J Q n3 n4=>G _ _ (L _ _ e n3 n4) J Q;have ms6:=zO _ _ hms Ed.1 Ed.2.1 Ed.2.2.1 Ed.2.2.2;have mo6:=zO _ _ YI Ee.1 Ee.2.1 Ee.2.2.1 Ee.2.2.2;have YQ:Paired (λc (p:Nat×O Nat)=>H6 c=Z (.lst (eQ p.2))/\c∈l.ib) (eV (st.mem.map (·.1)) l.ib A) (dt A st.mem):=HV d.mem λc p e mc _=>by
  obtain⟨q1,q2,q3,q4⟩:=X mc;exact⟨zO _ _ e q1 q2 q3 q4,mc⟩
 have lkB:(dt A st.mem).lookup hb=Z mb:=by rw[wH (λz=>neq z.symm)];exact mB
 obtain⟨yc,ZkE,L9,L_⟩:=qm (f:=λv:O Nat=>HO.lst (eQ v)) (_L.Paired.bH YQ λ_ _ h=>h.1) lkB;rw[qr] at L9;have CN:yc∈l.ib:=BR.subset ZkE;refine⟨_,rfl,l.J,C,N,_,_,rfl,oJ,r.cls,r.wL,rfl,_,rfl,l.md,.ref yc,rfl,qB YO L9,.inl ⟨rfl,_,aq.of L_⟩,_,rfl,yc,mo,_,_,rfl,rfl,L_,mo6,by rw[NG,Ya];omega,λH7 b7 e7=>?_⟩;obtain⟨r1,r2,r3,r4⟩:=X CN;have sub:=BR (h:=A) (ks:=st.mem.map (·.1)) (as:=l.ib);have ZkF:=BR (h:=A) (ks:=st.fr.map (·.1)) (as:=l.cB);have YR:∀c∈JL.fp ⟨l.J,l.ha,l.la,l.md,l.fd,E,eV (st.mem.map (·.1)) l.ib A,eV (st.fr.map (·.1)) l.cB A⟩,c∈l.fp:=λc hc=>by
  simp only[JL.fp,Ym] at hc⊢;rcases hc with h|h|h|h|h|h;·exact .inl h
  ·exact .inr (.inl h)
  ·exact .inr (.inr (.inl h))
  ·exact .inr (.inr (.inr (.inl h)))
  ·exact .inr (.inr (.inr (.inr (.inl h))))
  ·exact .inr (.inr (.inr (.inr (.inr (sub.subset h)))))
 have W:∀c o,H6 c=Z o->c≠yc->H7 c=Z o:=λc o e J=>b7 _ _ e J;refine q ⟨l.J,l.ha,l.la,l.md,l.fd,E,eV (st.mem.map (·.1)) l.ib A,eV (st.fr.map (·.1)) l.cB A⟩ H7 rfl YR (λc o e nc=>?_) ⟨⟨N,W _ _ oJ (λz=>x5 (by rw[z];exact CN))⟩,W _ _ T (λz=>r1 z.symm),W _ _ k2 (λz=>r2 z.symm),_L.Paired.bH k3 λc xs e=>W c _ e (eY e L_ (λz=>by cases z)),?_,?_,?_,?_,?_,λc hc z=>?_⟩
 ·simp only[JL.fp,Ym,k8] at nc;exact W _ _ (zO _ _ e nc.2.1 nc.2.2.1 nc.2.2.2.1 nc.2.2.2.2.1) (λz=>nc.2.2.2.2.2 (by rw[z];exact CN))
 ·show H7 l.md=Z (.dK (bM ((fL hb (mb++g) (dt A st.mem)).map (·.1)) _));rw[ui,qr];exact W _ _ YO (λz=>r3 z.symm)
 ·refine ZdC (F:=λc (p:Nat×O Nat)=>H6 c=Z (.lst (eQ p.2))/\c∈l.ib) (m:=yc) (λk=>?_) YQ (sub.nodup v2) ?_ (by rw[qr];exact L9) λc p e _ nc=>W _ _ e.1 nc
  ·show H7 yc=Z (.lst (eQ (mb++g)));rw[e7,eQ,eQ,eQ,Yn]
  ·rw[qr];exact ndk.filter _
 ·show H7 l.fd=Z (.dK (bM ((dt A st.fr).map (·.1)) _));rw[qr];exact W _ _ fd6 (λz=>r4 z.symm)
 ·refine HV d.free λc p e mc _=>?_;have no:=d.out c mc;simp only[JL.fp,Ym,k8] at no;exact W _ _ (zO _ _ e no.2.1 no.2.2.1 no.2.2.2.1 no.2.2.2.2.1) (λz=>no.2.2.2.2.2 (by rw[z];exact CN))
 ·have e0:(JL.fp ⟨l.J,l.ha,l.la,l.md,l.fd,E,eV (st.mem.map (·.1)) l.ib A,eV (st.fr.map (·.1)) l.cB A⟩).Sublist l.fp:=(((((sub.cons₂ l.fd).cons₂ l.md).cons₂ l.la).cons₂ l.ha).cons₂ l.J);exact e0.nodup d.nd
 ·exact d.out c (ZkF.subset hc) (YR c z)
structure VY(st:JS)(n a b ha hb:Nat)(ta tb fma AM:O Int)(ma mb:O Nat):Prop where
 hA:st.hd[a]?=Z ha
 hB:st.hd[b]?=Z hb
 lA:st.ld[a]?=Z ta
 lB:st.ld[b]?=Z tb
 fl:∀t∈st.ld,full t=af/\t.length=n
 ll:st.ld.length=st.hd.length
 mA:st.mem.lookup ha=Z ma
 mB:st.mem.lookup hb=Z mb
 fA:st.fr.lookup ha=Z fma
 fB:st.fr.lookup hb=Z AM
 ne:ha≠hb
 iA:∀i∈ma,i<st.hd.length
 iB:∀i∈mb,i<st.hd.length
 lm:ma.length+mb.length<=1000
 nd:(st.mem.map (·.1)).Nodup
inductive Sj(C:U)(s:O V)(H:Hp)(Q:VK)(E:XK):Prop
 |mk (l:JL) (st:JS) (n a b m k:Nat) (g e d o t:O Int) (r:U) (i h:O Nat) (F:s=[.ref l.J,.int (a:Int),.int (b:Int),.ref r]) (A:c_ H C n l st) (D:H r=Z (.tup (d.map V.int))) (y:n<=8) (z:d.length=n) (x:full d=af) (v:VY st n a b m k g e o t i h) (u:∀(j:JL) (p:JS) (q:Hp),j.J=l.J->(∀c∈j.fp,c∈l.fp)->Out l.fp H q->c_ q C n j p->(p=st.mv k m h i (b_ (inv g) (b_ (inv d) e))\/p=st.mv m k i h (b_ (inv e) (b_ d g)))->Q .ay q)
noncomputable abbrev m5:O ar:=["self","one","other","turn"]
def Zaa:aW m5 m5 (aL EY):=.bp
def ZfW(F:aT K "bring_together" "Joins.bring_together" EY f fd)(d:nX K C)(qb:HasFn P w K B I 1 "turned_back" pO C5)(Bh:cI P w K B I 2 "move" C L8 (TZ C))(bl:Bl B):aI P w K B I aR 3 f fd m5 (Sj C):=by
 refine F.o Zaa λs H i h=>?_;obtain⟨l,st,n,a,b,ha,X,N,L,m,A,AM,J,T,R,rfl,c,W,Q,tl,y,two,q⟩:=h;refine⟨_,(av (aX (bO oZ (dv K bl (dm (bL i) (pF K 0) (bc (iL K) (pF K 0) (pv 1)) (λ_ _=>rfl))) (dv K bl (dm (bL i) (pF K 0) (bc (iL K) (pF K 0) (pv 2)) (λ_ _=>rfl)))) (av (cz (cY Bh i QO (pv 0) (aa (pv 1) (aa (pv 2) (aa (bh qb i (aa (pv 3) ag)) ag)))))) (av (cz (cY Bh i QO (pv 0) (aa (pv 2) (aa (pv 1) (aa (pv 3) ag)))))))),?_⟩;refine eW c.obj λg e=>?_;refine cm (qm (f:=λv:O Nat=>HO.lst (eQ v)) c.mem two.mA) λG mxa k NB=>?_;obtain⟨E,mxb,j,NC⟩:=qm (f:=λv:O Nat=>HO.lst (eQ v)) c.mem two.mB;refine⟨_,rfl,l.J,C,g,_,_,rfl,e,d.cls,d.wL,rfl,_,rfl,l.J,C,g,_,_,rfl,e,d.cls,d.kH,rfl,_,rfl,l.ha,_,_,_,rfl,rfl,aq.of c.heads,oW two.hA,l.md,.ref G,rfl,qB c.kM k,G,_,rfl,.inl (aq.of NB),?_⟩;refine⟨_,rfl,l.J,C,g,_,_,rfl,e,d.cls,d.wL,rfl,_,rfl,l.J,C,g,_,_,rfl,e,d.cls,d.kH,rfl,_,rfl,l.ha,_,_,_,rfl,rfl,aq.of c.heads,oW two.hB,l.md,.ref E,rfl,qB c.kM j,E,_,rfl,.inl (aq.of NC),_,_,rfl,rfl,_,rfl,bY (λ_=>?_) (λ_=>?_)⟩
 ·refine⟨_,rfl,l.J,g,_,rfl,e,rfl,_,rfl,_,rfl,_,rfl,J,m,rfl,W,QO,y,λtv H1 ntv g1 x=>?_⟩;refine⟨l,st,n,a,b,ha,X,N,L,inv m,A,tv,T,R,rfl,c.same g1,x,Q,by rwa[hJ],lG y,two.hA,two.hB,two.lA,two.lB,two.fl,two.ll,two.mA,two.mB,two.fA,two.ne,two.iA,two.lm,two.nd,λp D t r o u=>q p _ D t r ((Out.of g1).trans o) u (.inl rfl)⟩
 ·refine⟨_,rfl,l.J,g,_,rfl,e,rfl,_,rfl,_,rfl,_,rfl,?_⟩;exact⟨l,st,n,b,a,X,ha,L,N,m,AM,J,R,T,rfl,c,W,Q,tl,y,two.hB,two.hA,two.lB,two.lA,two.fl,two.ll,two.mB,two.mA,two.fB,(λz=>two.ne z.symm),two.iB,by have:=two.lm;omega,two.nd,λp D t r o u=>q p _ D t r o u (.inr rfl)⟩
def U5(H:Hp)(c:O U)(b:O (Int×Int)):Prop:=Paired (λa (p:Int×Int)=>H a=Z (.tup [.int p.1,.int p.2])) c b
noncomputable def jL(g e:Nat)(b a c d:O Int):O (Int×Int):=if g=e then c.map λz=>(b.getD z.toNat 0,a.getD z.toNat 0) else(c.map λz=>b.getD z.toNat 0).flatMap λx=>d.map λz=>(x,a.getD z.toNat 0)
inductive Km(C:U)(m:O V)(H:Hp)(Q:VK)(E:XK):Prop
 |mk (l:JL) (st:JS) (n i j h g:Nat) (c b e d:O Int) (t:m=[.ref l.J,.int (i:Int),.int (j:Int)]) (r:c_ H C n l st) (s:u4 st i h c e) (o:u4 st j g b d) (q:∀(p:U) (k:O U) (prs:O (Int×Int)) (a:Hp),H p=aJ->aj H a->a p=Z (.lst (k.map V.ref))->U5 a k prs->prs.Perm (jL h g c b e d)->prs.Pairwise kj->Q (.ref p) a)
inductive K8(C:U)(r:O V)(H:Hp)(Q:VK)(E:XK):Prop
 |mk (l:JL) (st:JS) (n i j g e:Nat) (b a d c h:O Int) (o:U) (A:r=[.ref l.J,.int (i:Int),.int (j:Int),.ref o]) (y:c_ H C n l st) (z:u4 st i g b d) (v:u4 st j e a c) (x:H o=some (.tup (h.map V.int))) (u:(∀q∈jL g e b a d c,0<=q.1/\q.1<h.length)) (t:(jL g e b a d c).length<=1000) (s:∀(p:U) (k:O Int) (m:Hp),H p=none->aj H m->m p=some (.lst (k.map V.int))->k.Perm (((jL g e b a d c).filter λq=>decide (h.getD q.1.toNat 0=q.2)).map (·.1))->k.Pairwise (·<·)->Q (.ref p) m)
def Zbl:aW m5 m5 (aL Gm):=.bp
theorem Zhg(F:aT K "left" "Joins.left" Gm f fd)(wm:cI P w K B I 3 "pairs" C qM (Km C))(bl:Bl B):aI P w K B I aR 4 f fd m5 (K8 C):=by
 refine F.o Zbl λs H hr h=>?_;obtain⟨l,st,n,i,j,hi,hj,ti,tj,si,sj,d,tu,rfl,ja,o1,o2,hu,gq,cM,q⟩:=h;refine⟨_,(av (aK (Zfy (xs:=["first","second"]) (fr:=[("turn",3)]) (cl:=[("turn",s.heap.objs.size+1)]) rfl (.ia ⟨rfl,trivial⟩ ⟨⟨rfl,.inl rfl,.inl rfl,rfl⟩,trivial⟩) (λ_ _ _ _=>(iP (K:=K) (n:=2) rfl rfl (bW (qw (i:=0) (show(["first","second","turn"]:O ar).Nodup by decide+kernel) rfl (hY rfl)) (bW (qw (i:=1) (show(["first","second","turn"]:O ar).Nodup by decide+kernel) rfl (hY rfl)) iN)))) (fD (K:=K) rfl (cY wm hr QO (pv 0) (aa (pv 1) (aa (pv 2) ag)))) (λ_ _ _ _=>zc (bO cP (bc (iT K) (pv 2) (pv 0)) (pv 1))) (λ_ _ _ _=>(pv 0))))),?_⟩;refine eW ja.obj λdx ho=>?_;refine⟨_,rfl,l.J,dx,_,rfl,ho,rfl,_,rfl,_,rfl,l,st,n,i,j,hi,hj,ti,tj,si,sj,rfl,ja,o1,o2,λp J prs H1 np T hp pr L pw=>?_⟩;have pl:=c7 pr;have al:(J.map V.ref).length=prs.length:=by rwa[Ya]
 have VZ:=L.length_eq;refine⟨p,rfl,⟨_,aq.of hp⟩,λD R=>Zdj (xs:=J.map V.ref) (λk m r=>k<=prs.length/\aj H1 r/\r D=Z (.lst m)/\m=((prs.take k).filter λq=>decide (d.getD q.1.toNat 0=q.2)).map λq=>V.int q.1) ⟨Yx _,cF R _,a9,rfl⟩ (λk m r _ ⟨_,g,_,_⟩=>aq.of (g _ _ hp)) ?_ ?_⟩
 ·rintro k v m r t ⟨_,g,G,u⟩ os qU;obtain⟨E,A,rfl⟩:∃E A,os=[E,A]:=by
   match os,qU with
   |[E,A],_=>exact⟨E,A,rfl⟩
  rw[Ye] at t;obtain⟨c,ec,rfl⟩:∃c,J[k]?=Z c/\V.ref c=v:=by
   cases e:J[k]? with
   |none=>rw[e] at t;cases t
   |some c=>rw[e] at t;exact⟨c,rfl,Yp t⟩
  obtain⟨⟨x,y⟩,X,N⟩:=gf pr ec;have kl:k<prs.length:=(Yh.mp X).1;have bx:=gq (x,y) (L.subset (Yg X));have Q:=g _ _ N;have yl:m.length<sizeLine:=by
   have:=Wl (λq:Int×Int=>decide (d.getD q.1.toNat 0=q.2)) (prs.take k);rw[Wb] at this;rw[u,Ya,d6];omega
  refine⟨c,_,rfl,az.of Q,rfl,_,_,rfl,bj ⟨_,_,rfl,bj ⟨rfl,⟨[Z (.int x),Z (.int y)],rfl,rfl⟩,?_⟩⟩⟩;refine⟨_,rfl,_,rfl,tu,_,_,_,rfl,rfl,az.of (g _ _ (T _ _ hu)),oX bx.1 bx.2,_,rfl,rfl,_,rfl,?_⟩;have ed:decide (V.int (d.getD x.toNat 0)=V.int y)=decide (d.getD x.toNat 0=y):=by
   rw[Wn,jV,jV];exact⟨V.int.inj,λz=>by rw[z]⟩
  rw[ed];have et:∀(b:cu),decide (d.getD x.toNat 0=y)=b->((prs.take (k+1)).filter λq=>decide (d.getD q.1.toNat 0=q.2)).map (λq=>V.int q.1)=m++(if b=af then[V.int x] else[]):=λb eb=>by
   rw[u,Y1,X,Wm,Yn]
   congr 1
   show([((x,y):Int×Int)].filter _).map _=_;rw[W5,eb];cases b<;>rfl
  refine bY (λW=>?_) (λW=>?_)
  ·refine⟨_,rfl,G,yl,kl,λb o e=>?_,a9,?_⟩
   ·rw[aS (cC e R)];exact g _ _ e
   ·rw[et af W];rfl
  ·refine⟨kl,g,G,?_⟩;rw[et bg (by cases e:decide (d.getD x.toNat 0=y) with|true=>exact absurd e W|false=>rfl)];simp
 ·intro m r ZH;refine eJ ZH λ_ g G u=>?_;rw[al,Wd] at u;refine q D ((prs.filter λq=>decide (d.getD q.1.toNat 0=q.2)).map (·.1)) r (T.free R) (T.trans g) (by rw[G,u,Y6];rfl) ((L.filter _).map _) ?_;rw[Ws];refine(List.Pairwise.and_mem.mp (pw.filter _)).imp ?_;rintro a b ⟨ma,mb,lt⟩;have e1:=fI (Y5.mp ma).2;have e2:=fI (Y5.mp mb).2;rcases lt with lt|⟨e,lt⟩;·exact lt
  ·rw[←e1,←e2,e] at lt;exact absurd lt (Int.lt_irrefl _)
theorem Zi1:∀{c:O V} {d:O Nat},Paired (λy k=>∃a,y=V.ref a/\H a=Z (.tup [.int (g k).1,.int (g k).2])) c d->∃b:O U,c=b.map V.ref/\U5 H b (d.map g):=by
 intro c d i;induction i with
 |nil=>exact⟨[],rfl,.nil⟩
 |cons z t j=>
  refine bo z λa e h=>?_;refine bo j λb m l=>?_;exact⟨a::b,by rw[e,m];rfl,.cons h l⟩
def map_range(g:Int->α)(a:O Int):(List.range a.length).map (λk=>g (a.getD k 0))=a.map g:=by
 have b:(List.range a.length).map (λk=>g (a.getD k 0))=((List.range a.length).map λk=>a.getD k 0).map g:=by rw[Y6];rfl
 rw[b,(range_getD a 0)]
def V0(D:U)(H:Hp)(c:O U)(b:O (Int×Int)):Prop:=Paired (λa (p:Int×Int)=>a≠D/\H a=Z (.tup [.int p.1,.int p.2])) c b
theorem JJ{d c e:Type}(g:d->c->e)(b:O c):∀a:O d,(a.flatMap λx=>b.map (g x)).length=a.length*b.length
 |[]=>QS
 |x::a=>by rw[List.flatMap_cons,Yj,JJ g b a,Ya,Wi,Nat.succ_mul];exact Nat.add_comm _ _
def ZeG{a β c:Type}{g:a->O c}{b:O a}{i:Nat}{x:a}(h:b[i]?=Z x):(b.take (i+1)).flatMap g=(b.take i).flatMap g++g x:=by
 rw[Y1,h,List.flatMap_append];simp
def Qf{a:O Int}(b:a.Pairwise (·<=·))(c:a.Nodup):a.Pairwise (·<·):=by
 refine(List.Pairwise.and b (Je.mp c)).imp ?_
 grind
def Zhh(x:Int){a:O Int}(b:a.Pairwise (·<·)):(a.map λy=>((x,y):Int×Int)).Pairwise kj:=by
 rw[Ws];exact b.imp λh=>.inr ⟨rfl,h⟩
def Zhi{a:O Int}(b:a.Pairwise (·<·))(d:a[k]?=Z x)(c:y∈a.take k):y<x:=by
 obtain⟨i,g,rfl⟩:=Ww.mp c;obtain⟨e,rfl⟩:=Yh.mp d;rw[Wb] at g;rw[List.getElem_take];exact W0.mp b i k (Nat.lt_of_lt_of_le g (Nat.min_le_right _ _)) e (Nat.lt_of_lt_of_le g (Nat.min_le_left _ _))
def FR:aW ["self","one","other","here","there"] qM (aL F4):=.bp
theorem ZfX(F:aT K "pairs" "Joins.pairs" F4 f fd)(X:nX K C)(wc:cI P w K B I 1 "together" C qM (HU C))(jC:cI P w K B I 2 "open_at" C oz (wW C))(bl:Bl B):aI P w K B I aR 3 f fd qM (Km C):=by
 refine F.o FR λs H hr h=>?_;obtain⟨l,st,n,i,j,hi,hj,ti,Q,u,sj,rfl,L,E,A,q⟩:=h;refine⟨_,(ak (aX (gn (d5 (cY wc hr (by decide) (pv 0) (aa (pv 1) (aa (pv 2) ag))))) (av (aK (Zfz (xs:=["first","second"]) (fr:=[("self",0),("other",2)]) (cl:=[("self",s.heap.objs.size+1),("other",s.heap.objs.size+1+1)]) rfl (.ia ⟨rfl,⟨rfl,trivial⟩⟩ ⟨⟨rfl,.inl rfl,.inl rfl,rfl⟩,⟨⟨rfl,.inl rfl,.inl rfl,rfl⟩,trivial⟩⟩) (λ_ _ _ _=>(qw (i:=0) (show(["first","second","self","other"]:O ar).Nodup by decide+kernel) rfl (hY rfl))) (fD (K:=K) rfl (cY jC hr (by decide) (pv 0) (aa (pv 1) ag))) (λ_ _ _ _=>(fD (K:=K) rfl (cY jC hr (by decide) (pv 2) (aa (pv 3) ag)))) (λ_ _ _ _=>(qw (i:=1) (show(["first","second","self","other"]:O ar).Nodup by decide+kernel) rfl (hY rfl))) (λ_ _ _ _=>(du (aa (pv 0) (aa (pv 1) ag))))))) a_) (ak (iC (i:=3) FR.nd rfl (mF rfl) (bc (iL K) (pF K 0) (pv 1))) (ak (iC (i:=4) FR.nd rfl (mF rfl) (bc (iL K) (pF K 0) (pv 2))) (av (aK (iu (ZfF (K:=K) rfl) rfl bl.BO BA (aa (jG (x:="section") (fr:=[("there",4),("here",3)]) (cl:=[("there",s.heap.objs.size+1+1+1+1),("here",s.heap.objs.size+1+1+1)]) rfl (.ia ⟨rfl,⟨rfl,trivial⟩⟩ ⟨⟨rfl,.inl rfl,.inl rfl,rfl⟩,⟨⟨rfl,.inl rfl,.inl rfl,rfl⟩,trivial⟩⟩) (fD (K:=K) rfl (dm (bL hr) (pF K 0) (bc (iL K) (pF K 0) (pv 1)) (λ_ _=>rfl))) (λ_ _ _ _=>lH) (λ_ _ _ _=>(du (aa (bc (iT K) (pv 2) (pv 0)) (aa (bc (iT K) (pv 1) (pv 0)) ag))))) ag))))))),?_⟩;refine pz ?_;intros;obtain⟨dx,ho⟩:=L.obj;have f1:=E.cM;have f2:=A.cM;refine⟨_,rfl,l.J,dx,_,rfl,ho,rfl,_,rfl,_,rfl,l,st,n,i,j,hi,hj,rfl,L,E.hd,A.hd,_,rfl,?_⟩;by_cases eh:hi=hj
 ·rw[d9 eh];refine bV (aZ ?_);have es:u=sj:=by have a:=E.fr;have b:=A.fr;rw[eh,b] at a;exact(Yp a).symm
  have zN:∀{k:Nat} {t:O Int},st.ld[k]?=Z t->∃x,l.fY[k]?=Z x/\H x=Z (.tup (t.map V.int)):=λ{k t} ht=>by
   have hl:=c7 L.lead;have eP:k<l.fY.length:=by rw[hl];exact(Yh.mp ht).1
   obtain⟨y,ey,hy⟩:=gf L.lead (Yb eP);rw[ht] at ey;cases ey;exact⟨_,Yb eP,hy⟩
  obtain⟨xi,exi,hxi⟩:=zN E.ld;obtain⟨xj,exj,hxj⟩:=zN A.ld;have ati:dY (l.fY.map V.ref) (i:Int)=Z (.ref xi):=iz (by rw[Ye,exi];rfl);have atj:dY (l.fY.map V.ref) (j:Int)=Z (.ref xj):=iz (by rw[Ye,exj];rfl);obtain⟨fa,YE,vf,dO⟩:=qm (f:=λv:O Int=>HO.lst (v.map V.int)) L.free E.fr;refine cD ?_;refine⟨_,rfl,l.J,C,dx,_,_,rfl,ho,X.cls,X.oV,rfl,_,rfl,l.la,_,_,_,rfl,rfl,aq.of L.jK,ati,?_⟩;refine cD ?_;refine⟨_,rfl,l.J,C,dx,_,_,rfl,ho,X.cls,X.oV,rfl,_,rfl,l.la,_,_,_,rfl,rfl,aq.of L.jK,atj,?_⟩;refine⟨_,rfl,l.J,C,dx,_,_,rfl,ho,X.cls,X.uC,rfl,_,rfl,l.J,C,dx,_,_,rfl,ho,X.cls,X.kH,rfl,_,rfl,l.ha,_,_,_,rfl,rfl,aq.of L.heads,oW E.hd,l.fd,_,rfl,qB L.frees vf,fa,rfl,⟨_,aq.of dO⟩,λD hD=>yS (xs:=u.map V.int) (aq.of dO) (by rw[Ya];exact Nat.le_of_lt (Nat.lt_of_lt_of_le f1 (by decide))) hD (λ_=>af) (λk y H1=>∃a,y=V.ref a/\a≠D/\H1 a=Z (.tup [.int (ti.getD (u.getD k 0).toNat 0),.int (Q.getD (u.getD k 0).toNat 0)])) (λk y H1 J b ⟨a,e1,e2,e3⟩=>⟨a,e1,e2,b _ _ e3 e2⟩) (λk v hk H1 N NI Kt Kf kt kf=>?_) λys H1 N h1 pr=>?_⟩
  ·obtain⟨z,rfl,hz⟩:=mM hk;have gz:u.getD k 0=z:=by rw[Yk,hz];rfl
   have b1:=E.gq z (Yg hz);have b2:=A.gq z (by rw[←es];exact Yg hz);refine kL (c6 ?_);refine⟨_,rfl,_,rfl,xi,_,_,_,rfl,rfl,az.of (N _ _ hxi),oX b1.1 b1.2,_,rfl,_,rfl,xj,_,_,_,rfl,rfl,az.of (N _ _ hxj),oX b2.1 b2.2,by show 2<=sizeLine;rw[d6];decide,λa J na G ha=>?_⟩;obtain⟨ys,NI⟩:=NI;exact kt _ J rfl G ⟨a,rfl,(λz=>by rw[z,NI] at na;cases na),by rw[gz];exact ha⟩
  ·rw[yR,Ya] at pr;obtain⟨as,eas,eA⟩:=Zi1 (g:=λk=>(ti.getD (u.getD k 0).toNat 0,Q.getD (u.getD k 0).toNat 0)) (_L.Paired.bH pr λy k ⟨a,e1,e2,e3⟩=>⟨a,e1,e3⟩);have em:(List.range u.length).map (λk=>((ti.getD (u.getD k 0).toNat 0,Q.getD (u.getD k 0).toNat 0):Int×Int))=u.map λz=>(ti.getD z.toNat 0,Q.getD z.toNat 0):=map_range (λz=>(ti.getD z.toNat 0,Q.getD z.toNat 0)) u;rw[em] at eA;have al:=c7 eA;rw[Ya] at al;rw[eas] at h1;have ndp:(u.map λz=>((ti.getD z.toNat 0,Q.getD z.toNat 0):Int×Int)).Nodup:=by
    have d:=E.dist;rw[Je,Ws] at d⊢;exact d.imp λh e=>h (eL (·.1) e)
   refine⟨D,as,_,rfl,aq.of h1,eA,ndp,.inl (Nat.lt_of_le_of_lt (Nat.le_of_eq al) f1),λfW oy pr2 p2 pw p J np G hp=>?_⟩;refine q p fW oy J (N.free np) (N.trans G) hp (_L.Paired.bH pr2 λ_ _ e=>G _ _ e) ?_ pw;unfold jL;rw[bC eh];exact p2
 ·rw[jb eh];refine c6 ?_;refine⟨_,rfl,l.J,dx,_,rfl,ho,rfl,_,rfl,l,st,n,i,hi,ti,u,rfl,L,E.hd,E.ld,E.fr,E.gq,E.cM,λp T H1 np N pm srt hp=>?_⟩;have nl:=pm.length_eq;rw[Ya] at nl;have sns:=Qf srt (pm.nodup_iff.mpr E.dist);refine⟨p,rfl,⟨_,aq.of hp⟩,λD hD=>ZgY (xs:=T.map V.int) (λk ys J=>k<=T.length/\aj H1 J/\J D=Z (.lst ys)/\∃(as:O U) (prs:O (Int×Int)),ys=as.map V.ref/\V0 D J as prs/\prs.Perm ((T.take k).flatMap λx=>sj.map λz=>(x,Q.getD z.toNat 0))/\prs.Pairwise kj/\∀p∈prs,p.1∈T.take k) ⟨Yx _,cF hD _,a9,[],[],rfl,.nil,.nil,.nil,λ_ h=>(nomatch h)⟩ (λk ys J _ ⟨_,G,_⟩=>aq.of (G _ _ hp)) ?_ ?_ ?_ (λv σ H R R' m h=>m _ _ h)⟩
  ·rintro k v ys J hk ⟨kl,G,h2,as,prs,ey,pa,pp,pw,pin⟩ os qU;obtain⟨u1,u2,rfl⟩:∃u1 u2,os=[u1,u2]:=by
    match os,qU with
    |[u1,u2],_=>exact⟨u1,u2,rfl⟩
   obtain⟨x,rfl,hx⟩:=mM hk;have kl':k<T.length:=(Yh.mp hx).1;refine bj ⟨⟨[Z (.int x),u2],rfl,rfl⟩,?_⟩;refine⟨_,rfl,l.J,dx,_,rfl,G _ _ (N _ _ ho),rfl,_,rfl,l,st,n,j,hj,Q,sj,rfl,L.same (N.trans G),A.hd,A.ld,A.fr,A.gq,A.cM,λp2 vM H3 q_ g3 yd ZkG eO=>?_⟩;have NJ:=yd.length_eq;rw[Ya] at NJ;have ZkH:=Qf ZkG (yd.nodup_iff.mpr A.dist);have pD:p2≠D:=λz=>by rw[z,h2] at q_;cases q_
   have VZ:=pp.length_eq;rw[JJ (λx z=>((x,Q.getD z.toNat 0):Int×Int)) sj (T.take k),Wb] at VZ;have ZmL:=c7 pa;have ZmM:min k T.length*sj.length<=64*64:=zi QO (Nat.le_of_lt f2);refine⟨p2,rfl,⟨_,aq.of eO⟩,p2,vM.map V.int,λk2 iG σ H4=>k2<=vM.length/\aj H1 H4/\H4 D=Z (.lst iG)/\H4 p2=Z (.lst (vM.map V.int))/\(∃A,σ=[Z (.int x),A]++_)/\∃(rf:O U) (xE:O (Int×Int)),iG=rf.map V.ref/\V0 D H4 rf xE/\xE=prs++(vM.take k2).map λy=>(x,y),rfl,⟨Yx _,G.trans g3,g3 _ _ h2,eO,⟨u2,rfl⟩,as,prs,ey,_L.Paired.bH pa λ_ _ e=>⟨e.1,g3 _ _ e.2⟩,QS⟩,λk2 iG σ H4 _ ⟨_,_,_,e,_⟩=>aq.of e,?_,?_⟩
   ·rintro k2 v2 iG σ H4 hk2 ⟨k2l,g4,h4,e4,⟨YS,rfl⟩,rf,xE,Ef,Eg,k9⟩;obtain⟨y,rfl,hy⟩:=mM hk2;have ZkI:k2<vM.length:=(Yh.mp hy).1;have YT:=c7 Eg;rw[k9,Yj,Ya,Wb] at YT;refine bj ⟨_,rfl,_,rfl,by show 2<=sizeLine;rw[d6];decide,λa H5 na g5 ha=>⟨g5 _ _ h4,by rw[Ef,Ya,YT,d6];have:=A.cM;omega,ZkI,?_,a9,?_,⟨Z (.int y),rfl⟩,rf++[a],xE++[(x,y)],by rw[Ef,Yn];rfl,?_,?_⟩⟩
    ·intro b o e;rw[aS (cC e hD)];exact g5 _ _ (g4 _ _ e)
    ·rw[aS pD];exact g5 _ _ e4
    ·have aD:a≠D:=λz=>by rw[z,h4] at na;cases na
     exact jh (F:=λa (p:Int×Int)=>a≠D/\upd H5 D _ a=Z (.tup [.int p.1,.int p.2])) ⟨aD,by rw[aS aD];exact ha⟩ (_L.Paired.bH Eg λb p e=>⟨e.1,by rw[aS e.1];exact g5 _ _ e.2⟩)
    ·rw[k9,Y1,hy,Yn,Jx];rfl
   ·rintro iG σ H4 ⟨_,g4,h4,e4,⟨YS,rfl⟩,rf,xE,Ef,Eg,k9⟩;rw[Ya,Wd] at k9;refine⟨⟨[Z (.int x),YS],rfl,rfl⟩,kl',g4,h4,rf,xE,Ef,Eg,?_,?_,λp W=>?_⟩
    ·rw[k9,ZeG (β:=Int) hx];refine pp.append ?_;have:=yd.map λy:Int=>((x,y):Int×Int);rw[Y6] at this;exact this
    ·rw[k9];refine List.pairwise_append.mpr ⟨pw,Zhh x ZkH,λp W q' mq=>.inl ?_⟩;obtain⟨y,_,rfl⟩:=Yf.mp mq;exact Zhi sns hx (pin p W)
    ·rw[k9] at W;rw[Y1,hx];rcases Yv.mp W with W|W;·exact Yt _ (pin p W)
     ·obtain⟨y,_,rfl⟩:=Yf.mp W;exact Yr _ Yo
  ·rintro ys J ⟨_,G,h2,as,prs,ey,pa,pp,pw,_⟩;rw[Ya,Wd] at pp;rw[ey] at h2;refine q D as prs J (N.free hD) (N.trans G) h2 (_L.Paired.bH pa λ_ _ e=>e.2) (pp.trans ?_) pw;unfold jL;rw[bF eh];exact pm.flatMap_right _
  ·rintro σ H R R' m ⟨x1,e1,x2,x3,x4,e2,e3,e4,x5,e5,l,st,n,i,h,t,hP,e6,j1,j2,j3,j4,j5,j6,k⟩;refine⟨x1,e1,x2,x3,x4,e2,e3,e4,x5,e5,l,st,n,i,h,t,hP,e6,j1,j2,j3,j4,j5,j6,λp T H' a b c d e=>?_⟩;obtain⟨a,e,s,r⟩:=k p T H' a b c d e;exact⟨a,e,s,m _ _ r⟩
noncomputable def ap(t:O Int)(z:Int):Int:=t.getD z.toNat 0
def K9(a:0<=z)(h:z<t.length):t[z.toNat]?=Z (ap t z):=by
 unfold ap
 simp_all
def oh(a:full t=af)(b:t.length=n){z:Int}(h:0<=z/\z<n):0<=ap t z/\ap t z<n:=by
 have:=rR a (Yg (K9 h.1 QO));omega
def wZ(a:full t=af)(c:t.length=n){z:Int}(h:0<=z/\z<n):ap (inv t) (ap t z)=z:=by
 have b:=oh a c h;have d:=B9 (xs:=t) (i:=(ap t z).toNat) QO;rw[(NK b.1),BE (Bs a) (K9 h.1 QO)] at d;have e:ap (inv t) (ap t z)=((z.toNat:Nat):Int):=by
  show(inv t).getD (ap t z).toNat 0=_
  grind
 grind
def Sk(a:full t=af)(b:t.length=n){z:Int}(h:0<=z/\z<n):ap t (ap (inv t) z)=z:=by
 have:=wZ (lG a) (by rwa[hJ]) h;rw[inv_inv a] at this;exact this
def Cs(c:full t=af)(b:t.length=n){z z':Int}(h:0<=z/\z<n)(d:0<=z'/\z'<n)(e:ap t z=ap t z'):z=z':=by
 have a:=wZ c b h;rw[e,wZ c b d] at a;exact a.symm
def Ct(h:0<=z/\z<a.length):ap (b_ xs a) z=ap xs (ap a z):=by
 show(b_ xs a).getD z.toNat 0=_;unfold b_;rw[Yk,Ye,(K9 h.1 h.2)];rfl
noncomputable def JS.ae(a:JS)(i:Nat):Nat:=a.hd.getD i 0
noncomputable def JS.bK(a:JS)(i:Nat):O Int:=a.ld.getD i []
noncomputable def JS.cA(a:JS)(h:Nat):O Int:=(a.fr.lookup h).getD []
def dG(a:JS)(f:Nat->Int):Prop:=∃s:Nat->Int,∀i,i<a.hd.length->s (a.ae i)∈a.cA (a.ae i)/\f i=ap (a.bK i) (s (a.ae i))
structure WF(n:Nat)(st:JS):Prop where
 ll:st.ld.length=st.hd.length
 fl:∀t∈st.ld,full t=af/\t.length=n
 fr:∀i,i<st.hd.length->∃hP,st.fr.lookup (st.ae i)=Z hP/\hP.Nodup/\∀z∈hP,0<=z/\z<(n:Int)
 mem:∀i,i<st.hd.length->∃ms,st.mem.lookup (st.ae i)=Z ms/\ms.Nodup/\∀k,k∈ms↔k<st.hd.length/\st.ae k=st.ae i
 nm:(st.mem.map (·.1)).Nodup
 lm:∀k∈st.mem.map (·.1),k<st.hd.length
 nf:(st.fr.map (·.1)).Nodup
 lf:∀k∈st.fr.map (·.1),k<st.hd.length
 hf:∀k∈st.fr.map (·.1),∃i,i<st.hd.length/\st.ae i=k
def yH{a:O Nat}(b:a.Nodup)(h:∀x∈a,x<m):a.length<=m:=by
 have l:=b.length_le_of_subset λx c=>Wg.mpr (h x c)
 simp_all
def Gu{c:O Int}{n:Nat}(d:c.Nodup)(h:∀x∈c,0<=x/\x<(n:Int)):c.length<=n:=by
 have l:=d.length_le_of_subset (l₂:=bQ n) λx e=>by
  obtain⟨a,b⟩:=h x e;have:=Yg (nL (n:=n) (i:=x.toNat) QO)
  grind
 rwa [fR] at l
theorem HW{b:Type}:∀{a:O (Nat×b)} {k:Nat} {v:b},a.lookup k=Z v->k∈a.map (·.1)
 |[],_,_,h=>by simp at h
 |p::a,k,v,h=>by
  rw[W4] at h;by_cases e:k=p.1;·grind
  ·rw[beq_eq_false_iff_ne.mpr e] at h;exact Yw _ (HW h)
theorem Bk{a:Type}(h:Nat)(v:a)(k:Nat):∀ps:O (Nat×a),(fL h v ps).lookup k=if k=h then(ps.lookup h).map λ_=>v else ps.lookup k
 |[]=>by show([]:O (Nat×a)).lookup k=_;simp
 |p::ps=>by
  have b:=Bk h v k ps;have c:fL h v (p::ps)=(if p.1=h then(p.1,v) else p)::fL h v ps:=rfl
  grind
section
variable {n:Nat}{st:JS}
def zk(h:i<st.hd.length):st.hd[i]?=Z (st.ae i):=by
 unfold JS.ae;rw[Yk,Yb h];rfl
def WF.Cu(a:WF n st)(h:i<st.hd.length):st.ld[i]?=Z (st.bK i):=by
 unfold JS.bK;rw[Yk,Yb (by rwa[a.ll])];rfl
def WF.l_(a:WF n st)(h:i<st.hd.length):full (st.bK i)=af/\(st.bK i).length=n:=a.fl _ (Yg (a.Cu h))
def WF.eU(c:WF n st)(h:i<st.hd.length):st.fr.lookup (st.ae i)=Z (st.cA (st.ae i))/\(st.cA (st.ae i)).Nodup/\∀z∈st.cA (st.ae i),0<=z/\z<(n:Int):=by
 refine cm (c.fr i h) λhP e a b=>?_;have d:st.cA (st.ae i)=hP:=by unfold JS.cA;rw[e];rfl
 simp_all
def WF.dist(c:WF n st)(h:i<st.hd.length):((st.cA (st.ae i)).map λz=>(st.bK i).getD z.toNat 0).Nodup:=by
 refine c9 (c.eU h) λe a b=>?_;rw[Je,Ws];refine(List.Pairwise.and_mem.mp (Je.mp a)).imp ?_;rintro u v ⟨d,mv,ne⟩ z;exact ne (Cs (c.l_ h).1 (c.l_ h).2 (b u d) (b v mv) z)
def WF.one(c:WF n st)(g:n<=8)(h:i<st.hd.length):u4 st i (st.ae i) (st.bK i) (st.cA (st.ae i)):=by
 refine c9 (c.eU h) λe a b=>?_;have:=Gu a b;refine⟨zk h,c.Cu h,e,λz d=>by rw[(c.l_ h).2];exact b z d,QO,c.dist h⟩
def WF.two(a:WF n st)(g:i<st.hd.length)(e:j<st.hd.length)(s:st.hd.length<=400)(p:st.ae i≠st.ae j):∃d c,VY st n i j (st.ae i) (st.ae j) (st.bK i) (st.bK j) (st.cA (st.ae i)) (st.cA (st.ae j)) d c/\(d.Nodup/\∀k,k∈d↔k<st.hd.length/\st.ae k=st.ae i)/\(c.Nodup/\∀k,k∈c↔k<st.hd.length/\st.ae k=st.ae j):=by
 refine cm (a.mem i g) λd r o l=>?_;refine cm (a.mem j e) λc q m h=>?_;have u:=yH o λk b=>((l k).mp b).1;have t:=yH m λk b=>((h k).mp b).1;exact⟨d,c,⟨zk g,zk e,a.Cu g,a.Cu e,a.fl,a.ll,r,q,(a.eU g).1,(a.eU e).1,p,λk b=>((l k).mp b).1,λk b=>((h k).mp b).1,QO,a.nm⟩,⟨o,l⟩,m,h⟩
def WF.CO(a:WF n st):st.fr.length<=st.hd.length:=by
 have:=yH a.nf a.lf
 simp_all
def WF.T3(a:WF n st):st.mem.length<=st.hd.length:=by
 have:=yH a.nm a.lm
 simp_all
def wf0:WF n ⟨[],[],[],[]⟩:=⟨rfl,λ_ h=>(nomatch h),λ_ h=>absurd h (Wk _),λ_ h=>absurd h (Wk _),.nil,λ_ h=>(nomatch h),.nil,λ_ h=>(nomatch h),λ_ h=>(nomatch h)⟩
theorem IJ(st:JS)(h k:Nat)(v:O Int)(a:st.fr.lookup h≠aJ):(st.mU h v).cA k=if k=h then v else st.cA k:=by
 show((fL h v st.fr).lookup k).getD []=_;rw[Bk];by_cases e:k=h
 ·rw[bC e,bC e];cases b:st.fr.lookup h with
  |none=>grind
  |some x=>rfl
 ·rw[bF e,bF e];rfl
def WF.mU(c:WF n st)(h:i<st.hd.length):WF n (st.mU (st.ae i) ((st.cA (st.ae i)).filter p)):=by
 refine⟨c.ll,c.fl,λk g=>?_,c.mem,c.nm,c.lm,?_,?_,?_⟩
 ·refine c9 (c.eU g) λe a b=>?_;show ∃d,(fL _ _ st.fr).lookup (st.ae k)=Z d/\_;rw[Bk]
  grind
 ·show((fL _ _ st.fr).map (·.1)).Nodup;rw[ui];exact c.nf
 ·show ∀k∈(fL _ _ st.fr).map (·.1),_;rw[ui];exact c.lf
 ·show ∀k∈(fL _ _ st.fr).map (·.1),_;rw[ui];exact c.hf
def yL(j:WF n st)(g:i<st.hd.length)(ss:O Int)(f:Nat->Int):dG (st.mU (st.ae i) ((st.cA (st.ae i)).filter λz=>decide ((st.bK i).getD z.toNat 0∈ss))) f↔dG st f/\f i∈ss:=by
 have e:st.fr.lookup (st.ae i)≠aJ:=by rw[(j.eU g).1];exact λz=>nomatch z
 constructor
 ·rintro⟨s,h⟩;have c:∀k,k<st.hd.length->s (st.ae k)∈st.cA (st.ae k)/\f k=ap (st.bK k) (s (st.ae k)):=λk c=>by
   obtain⟨a,b⟩:=h k c;refine⟨?_,b⟩;have d:s (st.ae k)∈(st.mU (st.ae i) ((st.cA (st.ae i)).filter λz=>decide ((st.bK i).getD z.toNat 0∈ss))).cA (st.ae k):=a;rw[IJ st _ _ _ e] at d
   grind
  refine⟨⟨s,c⟩,?_⟩;obtain⟨a,b⟩:=h i g;have d:s (st.ae i)∈(st.mU (st.ae i) ((st.cA (st.ae i)).filter λz=>decide ((st.bK i).getD z.toNat 0∈ss))).cA (st.ae i):=a;rw[IJ st _ _ _ e,bC rfl] at d;rw[b];exact fI (Y5.mp d).2
 ·rintro⟨⟨s,h⟩,m⟩;refine⟨s,λk c=>?_⟩;obtain⟨a,b⟩:=h k c;refine⟨?_,b⟩;show s (st.ae k)∈(st.mU (st.ae i) ((st.cA (st.ae i)).filter λz=>decide ((st.bK i).getD z.toNat 0∈ss))).cA (st.ae k);rw[IJ st _ _ _ e];by_cases z:st.ae k=st.ae i
  ·rw[bC z];rw[z] at a⊢;refine Y5.mpr ⟨a,d9 ?_⟩;rw[((h i g).2)] at m;exact m
  ·simp_all
def BG(l:WF n st){f:Nat->Int}(d:dG st f)(g c:Nat)(b a:Int)(p:b∈st.cA g)(o:a∈st.cA c)(m:g=c->b=a):∃i,dG st i/\∀k,k<st.hd.length->(st.ae k=g->i k=ap (st.bK k) b)/\(st.ae k=c->i k=ap (st.bK k) a):=by
 obtain⟨s,h⟩:=d;refine⟨λk=>ap (st.bK k) ((λq=>if q=g then b else if q=c then a else s q) (st.ae k)),⟨λq=>if q=g then b else if q=c then a else s q,λk j=>⟨?_,rfl⟩⟩,λk j=>⟨λe=>?_,λe=>?_⟩⟩;·grind
 ·simp_all
 ·simp_all
def za(m:WF n st)(k:i<st.hd.length)(g:j<st.hd.length){f:Nat->Int}(d:dG st f):(f i,f j)∈jL (st.ae i) (st.ae j) (st.bK i) (st.bK j) (st.cA (st.ae i)) (st.cA (st.ae j)):=by
 refine eW d λs h=>?_;obtain⟨c,b⟩:=h i k;obtain⟨l,a⟩:=h j g;unfold jL;by_cases e:st.ae i=st.ae j
 ·rw[bC e];refine Yf.mpr ⟨s (st.ae i),c,?_⟩;rw[b,a,←e];rfl
 ·rw[bF e];refine YU.mpr ⟨f i,Yf.mpr ⟨_,c,b.symm⟩,Yf.mpr ⟨_,l,?_⟩⟩;rw[a];rfl
def Rg(b:WF n st)(h:i<st.hd.length)(g:j<st.hd.length)(a:∃f,dG st f)(m:(x,y)∈jL (st.ae i) (st.ae j) (st.bK i) (st.bK j) (st.cA (st.ae i)) (st.cA (st.ae j))):∃f,dG st f/\f i=x/\f j=y:=by
 obtain⟨E,l⟩:=a;unfold jL at m;by_cases e:st.ae i=st.ae j
 ·rw[bC e] at m;refine bo (Yf.mp m) λz c k=>?_;obtain⟨f,d,q⟩:=BG b l (st.ae i) (st.ae i) z z c c (λ_=>rfl);exact⟨f,d,((q i h).1 rfl).trans (eL (·.1) k),((q j g).1 e.symm).trans (eL (·.2) k)⟩
 ·rw[bF e] at m;refine bo (YU.mp m) λD t s=>?_;obtain⟨r,A,v⟩:=Yf.mp t;obtain⟨p,u,o⟩:=Yf.mp s;obtain⟨f,d,q⟩:=BG b l (st.ae i) (st.ae j) r p A u (λz=>absurd z e);exact⟨f,d,(((q i h).1 rfl).trans v).trans (eL (·.1) o),((q j g).2 rfl).trans (eL (·.2) o)⟩
end
theorem Qg(a:Nat):∀(mv:O Nat) (hd:O Nat) (i:Nat),i<hd.length->(lK a mv hd)[i]?=if i∈mv then Z a else hd[i]?
 |[],hd,i,h=>rfl
 |k::mv,hd,i,h=>by
  have b:=Qg a mv (hd.set k a) i (by rw[W8];exact h);have c:lK a (k::mv) hd=lK a mv (hd.set k a):=rfl
  grind
theorem Qh(a:O Int):∀(mv:O Nat) (ld:O (O Int)) (i:Nat),mv.Nodup->i<ld.length->(iY a mv ld)[i]?=if i∈mv then Z (b_ (ld.getD i []) a) else ld[i]?
 |[],ld,i,_,h=>rfl
 |k::mv,ld,i,b,h=>by
  obtain⟨e,c⟩:=Y0.mp b;have d:iY a (k::mv) ld=iY a mv (q5 a ld k):=rfl;rw[d,(Qh a mv (q5 a ld k) i c (by unfold q5;rwa[W8]))];by_cases m:i∈mv
  ·unfold q5
   grind
  ·rw[bF m];unfold q5
   grind
def Qi(c:Nat)(b a:O Nat):(lK c b a).length=a.length:=yG (λ_ _=>W8) b a
def Qj(c:O Int)(b:O Nat)(a:O (O Int)):(iY c b a).length=a.length:=yG (λ_ _=>by unfold q5;exact W8) b a
section
variable {st:JS}
def r_(j:WF n st)(d:∀k,k∈c↔k<st.hd.length/\st.ae k=st.ae a)(h:O Int)(g:i<st.hd.length):(st.mv (st.ae b) (st.ae a) mb c h).ae i=if st.ae i=st.ae a then st.ae b else st.ae i:=by
 show(lK (st.ae b) c st.hd).getD i 0=_;rw[Yk,Qg _ _ _ _ g];by_cases e:st.ae i=st.ae a;·simp_all
 ·rw[bF (λz=>e ((d i).mp z).2),bF e,←Yk];rfl
def K_(g:WF n st)(h:b.Nodup)(d:∀k,k∈b↔k<st.hd.length/\st.ae k=st.ae a)(c:O Int)(l:Nat)(j:i<st.hd.length):(st.mv l (st.ae a) mb b c).bK i=if st.ae i=st.ae a then b_ (st.bK i) c else st.bK i:=by
 show(iY c b st.ld).getD i []=_;rw[Yk,Qh _ _ _ _ h (by rwa[g.ll])];by_cases e:st.ae i=st.ae a;·rw[bC ((d i).mpr ⟨j,e⟩),bC e];rfl
 ·rw[bF (λz=>e ((d i).mp z).2),bF e,←Yk];rfl
def T4(c a:Nat)(d:O Int)(b:h≠a):(st.mv c a e g d).cA h=st.cA h:=by
 show((dt a st.fr).lookup h).getD []=_;rw[wH b];rfl
def zG(a b:Nat)(c:O Int):(st.mv a b d e c).hd.length=st.hd.length:=Qi _ _ _
def WF.mv(c:WF n st)(W:a<st.hd.length)(G:b<st.hd.length)(E:st.ae a≠st.ae b)(D:j.Nodup)(o:∀k,k∈j↔k<st.hd.length/\st.ae k=st.ae a)(Q:d.Nodup)(R:∀k,k∈d↔k<st.hd.length/\st.ae k=st.ae b)(L:st.mem.lookup (st.ae b)=Z d)(H:full h=af)(A:h.length=n):WF n (st.mv (st.ae b) (st.ae a) d j h):=by
 have len:(st.mv (st.ae b) (st.ae a) d j h).hd.length=st.hd.length:=zG _ _ _;have y:∀k,k<st.hd.length->(if st.ae k=st.ae a then st.ae b else st.ae k)≠st.ae a:=λk l=>by
  grind
 have u:(st.mv (st.ae b) (st.ae a) d j h).mem.map (·.1)=(st.mem.map (·.1)).filter λk=>decide (k≠st.ae a):=by
  show(fL _ _ (dt _ st.mem)).map (·.1)=_;rw[ui,qr]
 have p:(st.mv (st.ae b) (st.ae a) d j h).fr.map (·.1)=(st.fr.map (·.1)).filter λk=>decide (k≠st.ae a):=qr _ _;refine⟨?_,λt F=>?_,λi g=>?_,λi g=>?_,?_,?_,?_,?_,?_⟩
 ·show(iY _ _ _).length=(lK _ _ _).length;rw[Qj,Qi];exact c.ll
 ·obtain⟨i,g,rfl⟩:=Ww.mp F;have v:i<st.hd.length:=by
   have:(iY h j st.ld).length=st.ld.length:=Qj _ _ _;have X:i<(iY h j st.ld).length:=g;have:=c.ll;omega
  have e:=K_ (mb:=d) c D o h (st.ae b) v;have N:(st.mv (st.ae b) (st.ae a) d j h).bK i=(st.mv (st.ae b) (st.ae a) d j h).ld[i]:=by
   unfold JS.bK;rw[Yk,Yb g];rfl
  rw[←N,e];obtain⟨x,J⟩:=c.l_ v;by_cases z:st.ae i=st.ae a;·rw[bC z];exact⟨rL x H QO,by rw[kg];exact A⟩
  ·rw[bF z];exact⟨x,J⟩
 ·rw[len] at g;rw[r_ (mb:=d) c o h g];show ∃m,(dt (st.ae a) st.fr).lookup _=Z m/\_;rw[wH (y i g)];by_cases e:st.ae i=st.ae a;·rw[bC e];exact⟨_,c.eU G⟩
  ·rw[bF e];exact⟨_,c.eU g⟩
 ·rw[len] at g;rw[r_ (mb:=d) c o h g];show ∃q,(fL (st.ae b) (d++j) (dt (st.ae a) st.mem)).lookup _=Z q/\_;rw[Bk,wH (y i g),wH (λz=>E z.symm),L];have iff:∀k,k<st.hd.length->((st.mv (st.ae b) (st.ae a) d j h).ae k=(if st.ae k=st.ae a then st.ae b else st.ae k)):=λk l=>r_ (mb:=d) c o h l;by_cases e:(if st.ae i=st.ae a then st.ae b else st.ae i)=st.ae b
  ·rw[bC e];refine⟨_,rfl,?_,λk=>?_⟩;·grind
   ·grind
  ·have P:¬st.ae i=st.ae a:=λz=>e (bC z);rw[bF P] at e⊢;rw[bF e];obtain⟨q,s,r,T⟩:=c.mem i g
   grind
 ·rw[u];exact c.nm.filter _
 ·rw[u,len];exact λk l=>c.lm k (Y5.mp l).1
 ·rw[p];exact c.nf.filter _
 ·rw[p,len];exact λk l=>c.lf k (Y5.mp l).1
 ·rw[p,len];intro k l;obtain⟨s,r⟩:=Y5.mp l;obtain⟨i,g,e⟩:=c.hf k s;refine⟨i,g,?_⟩;rw[r_ (mb:=d) c o h g,bF (λz=>fI r (e.symm.trans z))];exact e
def Sl(g:WF n st)(t:a<st.hd.length)(j:b<st.hd.length)(m:st.ae a≠st.ae b)(J:L.Nodup)(p:∀k,k∈L↔k<st.hd.length/\st.ae k=st.ae a)(N:full l=af)(H:l.length=n)(f:Nat->Int):
  dG (st.mv (st.ae b) (st.ae a) mb L (b_ (inv (st.bK a)) (b_ l (st.bK b)))) f↔∃s:Nat->Int,(∀i,i<st.hd.length->(0<=s (st.ae i)/\s (st.ae i)<(n:Int))/\(st.ae i≠st.ae a->s (st.ae i)∈st.cA (st.ae i))/\f i=ap (st.bK i) (s (st.ae i)))/\f a=ap l (f b):=by
 refine gb (g.l_ t) λD y=>?_;obtain⟨P,o⟩:=g.l_ j;have fi:=lG D;have X:(inv (st.bK a)).length=n:=by rw[hJ];exact y
 generalize Q:b_ (inv (st.bK a)) (b_ l (st.bK b))=d;have G:∀z:Int,0<=z/\z<(n:Int)->ap d z=ap (inv (st.bK a)) (ap l (ap (st.bK b) z)):=λz r=>by
  rw[←Q,Ct (by rw[kg,o];exact r),Ct (by rwa[o])]
 have F:∀z:Int,0<=z/\z<(n:Int)->0<=ap d z/\ap d z<(n:Int):=λz r=>by
  rw[G z r];exact oh fi X (oh N H (oh P o r))
 have R:d.length=n:=by rwa[←Q,kg,kg]
 constructor
 ·rintro⟨s,h⟩;have u:=λi c=>by
   have x:=h i (by rwa[zG]);rw[r_ g p d c,K_ g J p d _ c,T4] at x;·exact x
   ·by_cases e:st.ae i=st.ae a;·rw[bC e];exact λz=>m z.symm
    ·rwa[bF e]
  have A:=u b j;rw[bF (λz=>m z.symm),bF (λz=>m z.symm)] at A;have v:=(g.eU j).2.2 _ A.1;have eq:∀i,i<st.hd.length->f i=ap (st.bK i) (if st.ae i=st.ae a then ap d (s (st.ae b)) else s (st.ae i)):=λi c=>by
   have x:=(u i c).2;by_cases e:st.ae i=st.ae a
   ·rw[bC e,bC e,Ct (by rw[R];exact v)] at x;rw[bC e];exact x
   ·rw[bF e,bF e] at x;rw[bF e];exact x
  refine⟨λq=>if q=st.ae a then ap d (s (st.ae b)) else s q,λi c=>⟨?_,λe=>?_,eq i c⟩,?_⟩
  ·show 0<=(if st.ae i=st.ae a then _ else _)/\(if st.ae i=st.ae a then _ else _)<_;by_cases e:st.ae i=st.ae a;·rw[bC e];exact F _ v
   ·rw[bF e];have x:=(u i c).1;rw[bF e] at x;exact(g.eU c).2.2 _ x
  ·show(if st.ae i=st.ae a then _ else _)∈_;have x:=(u i c).1;rw[bF e] at x;rwa[bF e]
  ·rw[eq a t,bC rfl,G _ v,Sk D y (oh N H (oh P o v)),A.2]
 ·rintro⟨s,h,ef⟩;have T:=(h b j).1;have W:=(h a t).1;have E:ap d (s (st.ae b))=s (st.ae a):=by
   rw[G _ T,←(h b j).2.2,←ef,(h a t).2.2,wZ D y W]
  refine⟨s,λi c=>?_⟩;rw[zG] at c;rw[r_ g p d c,K_ g J p d _ c,T4]
  ·by_cases e:st.ae i=st.ae a
   ·rw[bC e,bC e];refine⟨(h b j).2.1 (λz=>m z.symm),?_⟩;rw[Ct (by rwa[R]),E,←e];exact(h i c).2.2
   ·rw[bF e,bF e];exact⟨(h i c).2.1 e,(h i c).2.2⟩
  ·by_cases e:st.ae i=st.ae a;·rw[bC e];exact λz=>m z.symm
   ·rwa[bF e]
end
section
variable {st:JS}{i j:Nat}{ns:O Int}
def Rh{P:O (Int×Int)}(b:ns.Perm ((P.filter λq=>decide (a.getD q.1.toNat 0=q.2)).map (·.1)))(x:Int):x∈ns↔(x,ap a x)∈P:=by
 rw[b.mem_iff,Yf];constructor
 ·rintro⟨⟨u,v⟩,m,rfl⟩;obtain⟨d,c⟩:=Y5.mp m;have e:ap a u=v:=fI c;rw[e];exact d
 ·intro m;exact⟨_,Y5.mpr ⟨m,d9 rfl⟩,rfl⟩
abbrev JS.prs(st:JS)(i j:Nat):O (Int×Int):=jL (st.ae i) (st.ae j) (st.bK i) (st.bK j) (st.cA (st.ae i)) (st.cA (st.ae j))
def IK(d:st.ae i≠st.ae j)(m:(x,y)∈st.prs i j):(∃z∈st.cA (st.ae i),ap (st.bK i) z=x)/\∃z∈st.cA (st.ae j),ap (st.bK j) z=y:=by
 unfold JS.prs jL at m;rw[bF d] at m;refine bo (YU.mp m) λn g e=>?_;refine bo (Yf.mp g) λc l k=>?_;obtain⟨b,h,a⟩:=Yf.mp e;exact⟨⟨c,l,k.trans (eL (·.1) a)⟩,b,h,(eL (·.2) a)⟩
def T5(a:WF n st)(c:i<st.hd.length)(m:(x,y)∈st.prs i j):0<=x/\x<(n:Int):=by
 obtain⟨h,g⟩:=a.l_ c;by_cases e:st.ae i=st.ae j
 ·unfold JS.prs jL at m;rw[bC e] at m;obtain⟨z,b,d⟩:=Yf.mp m;have k:ap (st.bK i) z=x:=eL (·.1) d;rw[←k];exact oh h g ((a.eU c).2.2 z b)
 ·obtain⟨⟨z,b,d⟩,_⟩:=IK e m;exact d▸oh h g ((a.eU c).2.2 z b)
def Kn(c:WF n st)(h:n<=8)(g:i<st.hd.length)(d:j<st.hd.length):(st.prs i j).length<=64:=by
 have a:=Gu (c.eU g).2.1 (c.eU g).2.2;have b:=Gu (c.eU d).2.1 (c.eU d).2.2;unfold JS.prs jL;by_cases e:st.ae i=st.ae j;·grind
 ·rw[bF e,JJ (λ(x z:Int)=>((x,(st.bK j).getD z.toNat 0):Int×Int)),Ya];exact Yy (zi (show _<=8 by omega) (show _<=8 by omega)) (by decide)
def ZfY(b:WF n st)(a:i<st.hd.length)(k:j<st.hd.length)(e:st.ae i=st.ae j)(q:∀x,x∈ns↔(x,ap g x)∈st.prs i j)(f:Nat->Int):dG st f/\f i∈ns↔dG st f/\f j=ap g (f i):=by
 refine vK λd=>?_;constructor
 ·intro m;have c:=(q _).mp m;obtain⟨s,h⟩:=d;unfold JS.prs jL at c;rw[bC e] at c;refine bo (Yf.mp c) λz p o=>?_;have u:ap (st.bK j) z=ap g (f i):=eL (·.2) o;obtain⟨t,r⟩:=b.l_ a;have l:=(b.eU a).2.2;rw[(h j k).2,←e,←(Cs t r (l z p) (l _ (h i a).1) ((eL (·.1) o).trans (h i a).2)),u]
 ·intro m;have:=za b a k d
  grind
def Zhj(b:WF n st)(a:i<st.hd.length)(g:j<st.hd.length)(q:st.ae i≠st.ae j)(D:t.Nodup)(G:∀k,k∈t↔k<st.hd.length/\st.ae k=st.ae i)(o:full l=af)(p:l.length=n)(r:∀x,x∈ns↔(x,ap l x)∈st.prs i j)(f:Nat->Int):
  dG (st.mv (st.ae j) (st.ae i) N t (b_ (inv (st.bK i)) (b_ (inv l) (st.bK j)))) f/\f i∈ns↔dG st f/\f j=ap l (f i):=by
 rw[Sl b a g q D G (lG o) (by rwa[hJ])];refine gb (b.l_ a) λv u=>?_;obtain⟨H,F⟩:=b.l_ g;constructor
 ·rintro⟨⟨s,h,L⟩,m⟩;obtain⟨⟨z,E,J⟩,_⟩:=IK q ((r _).mp m);have P:=Cs v u ((b.eU a).2.2 z E) (h i a).1 (J.trans (h i a).2.2);refine⟨⟨s,λk c=>⟨?_,(h k c).2.2⟩⟩,?_⟩;·grind
  ·have y:0<=f j/\f j<(n:Int):=by rw[(h j g).2.2];exact oh H F (h j g).1
   rw[L,Sk o p y]
 ·rintro⟨d,e⟩;have m:=za b a g d;rw[e] at m;obtain⟨s,h⟩:=d;refine⟨⟨s,λk c=>⟨(b.eU c).2.2 _ (h k c).1,λ_=>(h k c).1,(h k c).2⟩,?_⟩,(r _).mpr m⟩;have A:0<=f i/\f i<(n:Int):=by rw[(h i a).2];exact oh v u ((b.eU a).2.2 _ (h i a).1)
  rw[e,wZ o p A]
def Zhk(c:WF n st)(q:i<st.hd.length)(b:j<st.hd.length)(l:st.ae i≠st.ae j)(t:p.Nodup)(u:∀k,k∈p↔k<st.hd.length/\st.ae k=st.ae j)(D:full g=af)(v:g.length=n)(o:∀x,x∈ns↔(x,ap g x)∈st.prs i j)(f:Nat->Int):
  dG (st.mv (st.ae i) (st.ae j) G p (b_ (inv (st.bK j)) (b_ g (st.bK i)))) f/\f i∈ns↔dG st f/\f j=ap g (f i):=by
 rw[Sl c b q (λz=>l z.symm) t u D v];refine gb (c.l_ b) λE A=>?_;constructor
 ·rintro⟨⟨s,h,r⟩,m⟩;obtain⟨_,z,y,F⟩:=IK l ((o _).mp m);have H:=Cs E A ((c.eU b).2.2 z y) (h j b).1 ((F.trans r.symm).trans (h j b).2.2);refine⟨⟨s,λk a=>⟨?_,(h k a).2.2⟩⟩,r⟩
  grind
 ·rintro⟨d,e⟩;have m:=za c q b d;rw[e] at m;obtain⟨s,h⟩:=d;exact⟨⟨s,λk a=>⟨(c.eU a).2.2 _ (h k a).1,λ_=>(h k a).1,(h k a).2⟩,e⟩,(o _).mpr m⟩
end
def uD(b d:JS)(i j:Nat):Prop:=∀a c,a<b.hd.length->c<b.hd.length->(d.ae a=d.ae c↔b.ae a=b.ae c\/(b.ae a=b.ae i/\b.ae c=b.ae j)\/(b.ae a=b.ae j/\b.ae c=b.ae i))
def ZfZ(e:st.ae i=st.ae j):uD st st i j:=λa c _ _=>⟨.inl,λh=>h.elim id λh=>h.elim (λh=>h.1.trans (e.trans h.2.symm)) λh=>h.1.trans (e.symm.trans h.2.symm)⟩
def T6(d:WF n st)(e:∀k,k∈g↔k<st.hd.length/\st.ae k=st.ae a)(c:O Int)(j:st.ae a≠st.ae b):uD st (st.mv (st.ae b) (st.ae a) l g c) a b:=λx y i h=>by
 rw[r_ d e c i,r_ d e c h]
 grind
def uD.symm(h:uD st e j i):uD st e i j:=λa c d b=>(h a c d b).trans (or_congr Iff.rfl or_comm)
structure T7(n:Nat)(st aV:JS)(b:cu)(i j:Nat)(tn:O Int):Prop where
 wf:WF n aV
 len:aV.hd.length=st.hd.length
 yes:b=af->(∃f,dG aV f)/\∀f,dG aV f↔dG st f/\f j=ap tn (f i)
 no:b=bg->aV=st/\∀f,dG st f->f j≠ap tn (f i)
 xT:b=af->uD st aV i j
inductive U6(C:U)(k:O V)(H:Hp)(Q:VK)(E:XK):Prop
 |mk (l:JL) (st:JS) (n i j:Nat) (a:O Int) (g:U) (v:k=[.ref l.J,.int (i:Int),.int (j:Int),.ref g]) (t:c_ H C n l st) (u:WF n st) (r:(∃f,dG st f)) (s:n<=8) (q:st.hd.length<=400) (p:i<st.hd.length) (o:j<st.hd.length) (m:H g=Z (.tup (a.map V.int))) (z:full a=af) (y:a.length=n) (x:∀(b:cu) (d:JL) (h:JS) (e:Hp),d.J=l.J->(∀c∈d.fp,c∈l.fp)->Out l.fp H e->c_ e C n d h->T7 n st h b i j a->Q (.bl b) e)
def OT:aW ["self","one","other","turn","sections"] m5 (aL GX):=.bp
theorem Zi2(F:aT K "tie" "Joins.tie" GX f fd)(jc:nX K C)(wx:cI P w K B I 4 "left" C m5 (K8 C))(wc:cI P w K B I 1 "together" C qM (HU C))(EZ:cI P w K B I 3 "bring_together" C m5 (Sj C))(wg:cI P w K B I 2 "narrow" C C_ (JI K C))(bl:Bl B):aI P w K B I aR 5 f fd m5 (U6 C):=by
 refine F.o OT λs H hr h=>?_;obtain⟨l,st,n,i,j,tn,X,rfl,D,g,L,G,m4,k,t,hu,R,tl,q⟩:=h;refine⟨_,(ak (cj 4 OT.nd (cY wx hr (by decide) (pv 0) (aa (pv 1) (aa (pv 2) (aa (pv 3) ag))))) (ak (aX (gn (BC (K:=K) rfl (BM (pv 4) (λ_=>rfl)))) (av (aK d7)) a_) (ak (aX (gn (d5 (cY wc hr (by decide) (pv 0) (aa (pv 1) (aa (pv 2) ag))))) (av (cz (cY EZ hr (by decide) (pv 0) (aa (pv 1) (aa (pv 2) (aa (pv 3) ag)))))) a_) (ak (cz (cY wg hr (by decide) (pv 0) (aa (pv 1) (aa (pv 4) ag)))) (av (aK d7)))))),?_⟩;refine AF ?_;intros;obtain⟨dx,ho⟩:=D.obj;have pf:=Kn g G k t;refine cD ?_;refine⟨_,rfl,l.J,dx,_,rfl,ho,rfl,_,rfl,_,rfl,_,rfl,l,st,n,i,j,_,_,_,_,_,_,tn,X,rfl,D,g.one G k,g.one G t,hu,λp Q=>by rw[tl];exact T5 g k (x:=p.1) (y:=p.2) Q,Yy pf (by decide),λp ns H1 np v Q pm _=>?_⟩;have J:=Rh pm;refine rZ (λσ E=>σ=[Z (.ref l.J),Z (.int (i:Int)),Z (.int (j:Int)),Z (.ref X),Z (.ref p)]/\E=H1/\ns≠[]) (λnx hn=>?_) ?_
 ·refine⟨_,rfl,_,.inl ⟨_,aq.of Q,rfl⟩,?_⟩;refine bY (λc=>?_) (λc=>aZ (hn _ _ ⟨rfl,rfl,λz=>?_⟩))
  ·have e:ns=[]:=by
    cases ns with
    |nil=>rfl
    |cons a r=>cases c
   refine q bg l st H1 rfl (λ_ h=>h) (Out.of v) (D.same v) ⟨g,rfl,(λz=>nomatch z),λ_=>⟨rfl,λf d z=>?_⟩,(λz=>nomatch z)⟩;have m:=za g k t d;rw[z] at m;have:=(J _).mpr m;rw[e] at this;cases this
  ·rw[z] at c;exact c rfl
 rintro _ _ ⟨rfl,rfl,nne⟩;refine rZ (λσ E=>σ=[Z (.ref l.J),Z (.int (i:Int)),Z (.int (j:Int)),Z (.ref X),Z (.ref p)]/\∃(A:JL) (u:JS),A.J=l.J/\(∀c∈A.fp,c∈l.fp)/\Out l.fp H E/\c_ E C n A u/\E p=Z (.lst (ns.map V.int))/\WF n u/\u.hd.length=st.hd.length/\(∀f,dG u f/\f i∈ns↔dG st f/\f j=ap tn (f i))/\uD st u i j) (λnx hn=>?_) ?_
 ·refine⟨_,rfl,l.J,dx,_,rfl,v _ _ ho,rfl,_,rfl,_,rfl,l,st,n,i,j,_,_,rfl,D.same v,zk k,zk t,_,rfl,?_⟩;refine bY (λc=>?_) (λc=>aZ (hn _ _ ⟨rfl,l,st,rfl,λ_ h=>h,Out.of v,D.same v,Q,g,rfl,?_,?_⟩))
  ·have ne:st.ae i≠st.ae j:=λz=>by
    rw[d9 z] at c;cases c
   refine dE (g.two k t m4 ne) λma mb two hI ye W=>?_;obtain ⟨pP,jz⟩:=hI;refine⟨_,rfl,l.J,dx,_,rfl,v _ _ ho,rfl,_,rfl,_,rfl,_,rfl,l,st,n,i,j,_,_,_,_,tn,_,_,X,ma,mb,rfl,D.same v,v _ _ hu,G,tl,R,two,λA u E N k2 o2 j2 es=>hn _ _ ⟨rfl,A,u,N,k2,(Out.of v).trans o2,j2,o2 _ _ Q (D.ne np),?_⟩⟩;obtain⟨fi,li⟩:=g.l_ k;obtain⟨fj,lj⟩:=g.l_ t;rcases es with rfl|rfl;·exact⟨g.mv k t ne pP jz ye W two.mB (rL (lG fi) (rL (lG R) fj (by rw[hJ];omega)) (by rw[hJ,kg];omega)) (by rwa[kg,kg]),zG _ _ _,Zhj g k t ne pP jz R tl J,T6 g jz _ ne⟩
   ·exact⟨g.mv t k (λz=>ne z.symm) ye W pP jz two.mA (rL (lG fj) (rL R fi QO) (by rw[hJ,kg];omega)) (by rwa[kg,kg]),zG _ _ _,Zhk g k t ne ye W R tl J,(T6 g W _ (λz=>ne z.symm)).symm⟩
  ·have e:st.ae i=st.ae j:=by
    by_cases z:st.ae i=st.ae j;·exact z
    ·rw[jb z] at c;exact absurd rfl c
   exact ZfY g k t e J
  ·have e:st.ae i=st.ae j:=by
    by_cases z:st.ae i=st.ae j;·exact z
    ·rw[jb z] at c;exact absurd rfl c
   exact ZfZ e
 rintro _ E ⟨rfl,A,u,N,k2,o2,j2,eO,T,V2,iff,hdj⟩;obtain⟨sW,pJ⟩:=j2.obj;have Eh:i<u.hd.length:=by rwa[V2]
 have fl:=T.CO;refine⟨_,rfl,A.J,sW,_,by rw[N],pJ,rfl,_,rfl,_,rfl,A,u,n,i,_,_,_,ns,p,by rw[N];rfl,j2,T.one G Eh,QO,aq.of eO,λl2 H3 k3 k4 o3 j3=>?_⟩;refine q af l2 _ H3 (k3.trans N) (λc hc=>k2 c (by rw[←k4];exact hc)) (λb o e nb=>o3 _ _ (o2 _ _ e nb) λz=>nb (k2 b z)) j3 ⟨T.mU Eh,V2,λ_=>⟨?_,λf=>?_⟩,(λz=>nomatch z),λ_=>hdj⟩
 ·obtain⟨x,mx⟩:∃x,x∈ns:=by
   cases ns with
   |nil=>exact absurd rfl nne
   |cons a r=>exact⟨a,Yo⟩
  refine cm (Rg g k t L ((J x).mp mx)) λf d e1 e2=>?_;refine⟨f,(yL T Eh ns f).mpr ((iff f).mpr ⟨d,?_⟩)⟩;rw[e2,e1]
 ·exact(yL T Eh ns f).trans (iff f)
def oi(a b:O Int):Prop:=full a=af/\full b=af/\a.length=b.length/\2<=a.length/\a.length<=8
def ZdD(g:oi xs d)(h:(z,ns)∈Cr xs d):full ns=af/\ns.length=xs.length:=by
 refine m8 g λb a e _ _=>?_;have c:=JH b a e;simp[Ym,Y2,i1,Prod.mk.injEq] at h;rcases h with⟨rfl,rfl⟩|⟨rfl,rfl⟩|⟨rfl,rfl⟩|⟨rfl,rfl⟩|⟨rfl,rfl⟩|⟨rfl,rfl⟩|⟨rfl,rfl⟩;·exact⟨b,rfl⟩
 ·exact⟨c,by rw[ug];exact e.symm⟩
 ·exact⟨a,e.symm⟩
 ·exact⟨lG b,hJ _⟩
 ·exact⟨lG c,by rw[hJ,ug];exact e.symm⟩
 ·exact⟨lG a,by rw[hJ];exact e.symm⟩
 ·exact⟨ur (tL _),fR _⟩
structure Fc where
 k:ar
 one:Nat
 aU:Int
 tn:O Int
noncomputable abbrev bb:ar:="said"
def hZ(F:O Fc)(x y:Nat)(t:O Int):Prop:=∃c∈F,c.k≠bb/\((c.one=x/\c.aU.toNat=y/\t=c.tn)\/(c.aU.toNat=x/\c.one=y/\t=inv c.tn))
def kI(n:Nat)(F:O Fc)(g:Nat->bS Int):Prop:=(∀x y t u,hZ F x y t->g x=Z u->g y=Z (ap t u))/\(∀c∈F,c.k=bb->∀u,g c.one=Z u->u=c.aU)/\∀k v,g k=Z v->0<=v/\v<(n:Int)
structure eB(n m:Nat)(c:Fc):Prop where
 one:c.one<m
 ic:c.k≠bb->(0<=c.aU/\c.aU.toNat<m)/\full c.tn=af/\c.tn.length=n
noncomputable def u5(L:Nat->O (Nat×O Int))(x:Nat)(p:Nat×O Int):Nat->O (Nat×O Int):=λz=>if z=x then L x++[p] else L z
def uh{k k':Key}(h:aY a k=aJ):aY (a++[(k,v)]) k'=if k'=k then Z v else aY a k':=by
 rw[←lF v h];exact I0 _ _ _ _
def Ri:q∈u5 L x p z↔q∈L z\/(z=x/\q=p):=by
 unfold u5;by_cases e:z=x
 ·rw[bC e,Yv,e];simp
 ·rw[bF e];simp[e]
def Zf0:¬hZ [] x y t:=λ⟨_,m,_⟩=>nomatch m
def rM:hZ (F++[c]) x y t↔hZ F x y t\/(c.k≠bb/\((c.one=x/\c.aU.toNat=y/\t=c.tn)\/(c.aU.toNat=x/\c.one=y/\t=inv c.tn))):=by
 constructor
 ·rintro⟨a,m,d,b⟩;rcases Yv.mp m with m|m;·exact .inl ⟨a,m,d,b⟩
  ·rw[Yi] at m;subst m;exact .inr ⟨d,b⟩
 ·rintro(⟨a,m,h⟩|h);·exact⟨a,Yt _ m,h⟩
  ·exact⟨c,Yr _ Yo,h⟩
theorem lookup_mem:∀{a:O (Nat×α)} {k:Nat} {v:α},a.lookup k=Z v->(k,v)∈a
 |[],_,_,h=>by simp at h
 |p::a,k,v,h=>by
  rw[W4] at h;by_cases e:k=p.1;·grind
  ·rw[beq_eq_false_iff_ne.mpr e] at h;exact Yw _ (lookup_mem h)
theorem mem_lookup:∀{a:O (Nat×α)} {k:Nat} {v:α},(a.map (·.1)).Nodup->(k,v)∈a->a.lookup k=Z v
 |p::a,k,v,b,h=>by
  obtain⟨d,c⟩:=Y0.mp (show(p.1::a.map (·.1)).Nodup from b);rw[W4];rcases Ym.mp h with h|h;·grind
  ·have e:k≠p.1:=λz=>d (by rw[←z];exact Yf.mpr ⟨_,h,rfl⟩);rw[beq_eq_false_iff_ne.mpr e];exact mem_lookup c h
def Bv{k:Nat}(h:a.lookup k=Z v):(a++[q]).lookup k=Z v:=by
 grind
def Pu{k:Nat}(h:a.lookup k=aJ):(a++[(k,v)]).lookup k=Z v:=by
 grind
def zm(a:∀c∈F,eB n m c)(e:hZ F x y t):x<m/\y<m/\full t=af/\t.length=n:=by
 refine cm e λc b i h=>?_;obtain⟨⟨l,d⟩,j,k⟩:=(a c b).ic i;have g:=(a c b).one;rcases h with⟨rfl,rfl,rfl⟩|⟨rfl,rfl,rfl⟩;·simp_all
 ·exact⟨d,g,lG j,by rwa[hJ]⟩
inductive eN(F:O Fc)(x:Nat):Nat->Prop
 |refl:eN F x x
 |step {y z:Nat} {t:O Int}:eN F x y->hZ F y z t->eN F x z
structure BF(F:O Fc)(n m x:Nat)(a:Int)(g:O (Nat×Int)):Prop where
 nd:(g.map (·.1)).Nodup
 lt:∀p∈g,p.1<m/\0<=p.2/\p.2<(n:Int)
 hd:g.lookup x=Z a
 snd:∀g',kI n F g'->g' x=Z a->∀p∈g,g' p.1=Z p.2
 conn:∀p∈g,eN F x p.1
section
variable {n:Nat}{g:O (Nat×Int)}
def bf0(c:x<m)(d:0<=a/\a<(n:Int)):BF F n m x a [(x,a)]:=by
 refine⟨QS,λp b=>?_,QS,λe _ h p b=>?_,λp b=>?_⟩;·simp_all
 ·simp_all
 ·rw[Yi] at b;exact b▸.refl
def BF.len(b:BF F n m x a g):g.length<=m:=by
 have:=yH b.nd λk d=>by
  obtain⟨p,c,rfl⟩:=Yf.mp d;exact(b.lt p c).1
 simp_all
def BF.add(b:BF F n m x a g)(o:∀c∈F,eB n m c)(e:hZ F k y t)(q:g.lookup k=Z v)(s:g.lookup y=aJ):BF F n m x a (g++[(y,ap t v)]):=by
 refine eJ (zm o e) λ_ j r l=>?_;have mk:=lookup_mem q;refine⟨?_,λp d=>?_,Bv b.hd,λi c h p d=>?_,λp d=>?_⟩
 ·rw[Yn];refine Wy.mpr ⟨b.nd,QS,λu D w A z=>?_⟩
  grind
 ·rcases Yv.mp d with d|d;·exact b.lt p d
  ·rw[Yi] at d;exact d▸⟨j,oh r l (b.lt _ mk).2⟩
 ·rcases Yv.mp d with d|d;·exact b.snd i c h p d
  ·rw[Yi] at d;exact d▸c.1 k y t v e (b.snd i c h _ mk)
 ·rcases Yv.mp d with d|d;·exact b.conn p d
  ·rw[Yi] at d;exact d▸.step (b.conn _ mk) e
def BF.ZjS(b:BF F n m x a g)(e:hZ F k y t)(l:g.lookup k=Z v)(j:g.lookup y=Z i)(o:i≠ap t v):¬∃d,kI n F d/\d x=Z a:=by
 rintro⟨d,c,h⟩;have q:=b.snd d c h _ (lookup_mem j);have p:=c.1 k y t v e (b.snd d c h _ (lookup_mem l))
 grind
def BF.Zi3(b:BF F n m x a g)(k:c∈F)(i:c.k=bb)(l:g.lookup c.one=Z v)(j:v≠c.aU):¬∃d,kI n F d/\d x=Z a:=by
 rintro⟨d,e,h⟩;exact j (e.2.1 c k i v (b.snd d e h _ (lookup_mem l)))
def Cl(L:Nat->O (Nat×O Int))(g:O (Nat×Int))(r:Nat):Prop:=∀p,g[r]?=Z p->∀q∈L p.1,g.lookup q.1=Z (ap q.2 p.2)
def BF.done(b:BF F n m x a g)(o:∀x y t,(y,t)∈L x↔hZ F x y t)(p:∀r,r<g.length->Cl L g r)(i:∀c∈F,c.k=bb->∀u,g.lookup c.one=Z u->u=c.aU):kI n F (λk=>g.lookup k):=by
 refine⟨λk y t u e j=>?_,i,λk v h=>(b.lt _ (lookup_mem h)).2⟩;obtain⟨r,d,l⟩:=Ww.mp (lookup_mem j);have:=p r d (k,u) (by rw[Yb d,l]) (y,t) ((o _ _ _).mpr e);exact this
end
def Bm{a:Type}{b c:O (Nat×a)}{k:Nat}{v:a}(h:b.lookup k=Z v):(b++c).lookup k=Z v:=by
 grind
def Cl.app(b:r<g.length)(c:Cl L g r):Cl L (g++e) r:=λp a q d=>by
 rw[Wh b] at a;exact Bm (c p a q d)
open Classical in
noncomputable def dP (F:O Fc) (n x:Nat):O Int:=(bQ n).filter λa=>decide (∃g,kI n F g/\g x=Z a)
def e_(f:Nat->Int)(c:Fc):Prop:=(c.k=bb->f c.one=c.aU)/\(c.k≠bb->f c.aU.toNat=ap c.tn (f c.one))
def kC(n m:Nat)(f:Nat->Int):Prop:=∀i,i<m->0<=f i/\f i<(n:Int)
structure d_(n:Nat)(st:JS)(F:O Fc):Prop where
 wf:WF n st
 gW:∀c∈F,eB n st.hd.length c
 iff:∀f,dG st f↔kC n st.hd.length f/\∀c∈F,e_ f c
 live:∃f,dG st f
 conn:∀i j,i<st.hd.length->j<st.hd.length->(st.ae i=st.ae j↔eN F i j)
def Zbm{f:Nat->Int}(j:∀c∈F,eB n m c)(inr:kC n m f)(d:∀c∈F,e_ f c):∃g,kI n F g/\∀x,x<m->g x=Z (f x):=by
 refine⟨λi=>if i<m then Z (f i) else aJ,⟨λu v t a e p=>?_,λc b D u p=>?_,λk v G=>?_⟩,λx E=>bC E⟩
 ·refine eJ (zm j e) λJ y _ _=>?_;refine cm e λc b l h=>?_;have s:=(d c b).2 l;obtain⟨_,H,A⟩:=(j c b).ic l;have q:f u=a:=by
   simp_all
  show(if v<m then Z (f v) else aJ)=_;rw[bC y];rcases h with⟨rfl,rfl,rfl⟩|⟨rfl,rfl,rfl⟩;·rw[s,q]
  ·rw[←q,s,wZ H A (inr _ (j c b).one)]
 ·have r:(if c.one<m then Z (f c.one) else aJ)=Z u:=p;rw[bC (j c b).one] at r;rw[←Yp r];exact(d c b).1 D
 ·have o:(if k<m then Z (f k) else aJ)=Z v:=G;by_cases z:k<m
  ·rw[bC z] at o;rw[←Yp o];exact inr k z
  ·simp_all
def Gv{f:Nat->Int}(b:∀c∈F,eB n m c)(d:x<m)(inr:kC n m f)(a:∀c∈F,e_ f c):∃g,kI n F g/\g x=Z (f x):=by
 refine bo (Zbm b inr a) λg c h=>?_
 grind
theorem Zbn(t:∀c∈F,eB n m c)(inr:kC n m f0)(b:∀c∈F,c.one=x\/e_ f0 c)(j:kI n F g)(o:g x=Z a):∃f,kC n m f/\(∀c∈F,e_ f c)/\f x=a/\∀i,f i=(g i).getD (f0 i):=by
 refine⟨λi=>(g i).getD (f0 i),λi p=>?_,λc d=>⟨λl=>?_,λk=>?_⟩,by show(g x).getD _=a;rw[o];rfl,λ_=>rfl⟩
 ·show 0<=(g i).getD (f0 i)/\(g i).getD (f0 i)<_;cases e:g i with
  |none=>exact inr i p
  |some v=>exact j.2.2 i v e
 ·show(g c.one).getD (f0 c.one)=_;cases e:g c.one with
  |none=>
   rcases b c d with h|h;·grind
   ·exact h.1 l
  |some v=>exact j.2.1 c d l v e
 ·show(g c.aU.toNat).getD (f0 c.aU.toNat)=ap c.tn ((g c.one).getD (f0 c.one));have s:hZ F c.one c.aU.toNat c.tn:=⟨c,d,k,.inl ⟨rfl,rfl,rfl⟩⟩;have r:hZ F c.aU.toNat c.one (inv c.tn):=⟨c,d,k,.inr ⟨rfl,rfl,rfl⟩⟩;cases e:g c.one with
  |some v=>
   rw[j.1 _ _ _ v s e];rfl
  |none=>
   have q:g c.aU.toNat=aJ:=by
    cases z:g c.aU.toNat with
    |none=>rfl
    |some v=>rw[j.1 _ _ _ v r z] at e;cases e
   rw[q];rcases b c d with h|h;·grind
   ·exact h.2 k
def Gw(d:∀c∈F,eB n m c)(inr:kC n m f0)(b:∀c∈F,c.one=x\/e_ f0 c)(h:kI n F g)(e:g x=Z a):∃f,kC n m f/\(∀c∈F,e_ f c)/\f x=a:=by
 refine lr (Zbn d inr b h e) λf k j i _=>?_
 grind
open Classical in
def wN:a∈dP F n x↔(0<=a/\a<(n:Int))/\∃g,kI n F g/\g x=Z a:=by
 unfold dP;rw[Y5,tT];refine and_congr_left λ_=>?_;unfold bQ;rw[Yf];constructor
 ·rintro⟨i,b,rfl⟩;have:=Wg.mp b;omega
 ·intro h;exact⟨a.toNat,Wg.mpr (by omega),NK h.1⟩
section
variable {n x:Nat}{st:JS}{F:O Fc}
def d_.room(b:d_ n st F)(k:x<st.hd.length)(a:Int):a∈dP F n x↔∃f,dG st f/\f x=a:=by
 rw[wN];constructor
 ·rintro⟨_,g,r,h⟩;obtain⟨p,q⟩:=b.live;obtain⟨o,l⟩:=(b.iff p).mp q;refine cm (Gw b.gW o (λc m=>.inr (l c m)) r h) λf i j e=>?_;exact⟨f,(b.iff f).mpr ⟨i,j⟩,e⟩
 ·rintro⟨f,d,rfl⟩;obtain⟨i,j⟩:=(b.iff f).mp d;exact⟨i x k,Gv b.gW k i j⟩
def d_.yes(a:d_ n st F)(b:x<st.hd.length):dP F n x≠[]:=by
 obtain⟨f,d⟩:=a.live;have:=(a.room b (f x)).mpr ⟨f,d,rfl⟩
 grind
def d_.put(h:d_ n st F)(l:eB n st.hd.length c)(g:WF n b)(a:b.hd.length=st.hd.length)(d:∃f,dG b f)(iff:∀f,dG b f↔dG st f/\e_ f c)(m:∀i j,i<st.hd.length->j<st.hd.length->(b.ae i=b.ae j↔eN (F++[c]) i j)):d_ n b (F++[c]):=by
 refine⟨g,λk e=>?_,λf=>?_,d,by rwa[a]⟩
 ·rw[a];rcases Yv.mp e with e|e;·exact h.gW k e
  ·grind
 ·rw[iff,h.iff,a,and_assoc]
  grind
def Zf1(F:O Fc)(n x:Nat):(dP F n x).Pairwise (·<=·)/\(dP F n x).Nodup:=by
 have a:(bQ n).Pairwise (·<=·):=by
  unfold bQ;rw[Ws];exact List.pairwise_lt_range.imp λh=>QO
 exact⟨a.filter _,(DP.Hi n).filter _⟩
def d_.YV(e:d_ n st F)(c:x<st.hd.length)(j:ns.Perm ((st.cA (st.ae x)).map λz=>(st.bK x).getD z.toNat 0))(i:ns.Pairwise (·<=·)):ns=dP F n x:=by
 obtain⟨l,k⟩:=Zf1 F n x;refine D0 (λa b _ _ p o=>QO) i l (j.trans ((List.perm_ext_iff_of_nodup ((e.wf.dist c)) k).mpr λa=>?_));rw[e.room c,Yf];constructor
 ·rintro⟨z,g,rfl⟩;obtain⟨r,m⟩:=e.live;refine bo (BG e.wf m (st.ae x) (st.ae x) z z g g (λ_=>rfl)) λf d q=>?_;exact⟨f,d,(q x c).1 rfl⟩
 ·rintro⟨f,⟨s,h⟩,rfl⟩;exact⟨s (st.ae x),(h x c).1,(h x c).2.symm⟩
def mJ(a:i<st.hd.length):(st.more n).ae i=st.ae i:=by
 show(st.hd++[_]).getD i 0=st.hd.getD i 0
 grind
def qo:(st.more n).ae st.hd.length=st.hd.length:=by
 show(st.hd++[_]).getD _ 0=_;simp
def Rj(a:WF n st)(b:i<st.hd.length):(st.more n).bK i=st.bK i:=by
 show(st.ld++[_]).getD i []=st.ld.getD i [];rw[Yk,Wh (by rwa[a.ll]),←Yk]
def Qk(a:WF n st):(st.more n).bK st.hd.length=bQ n:=by
 show(st.ld++[_]).getD _ []=_;rw[←a.ll];simp
theorem G1{b:Type}{a:O (Nat×b)}{k:Nat}{v:b}(h:k∉a.map (·.1)):(a++[(k,v)]).lookup k=Z v:=by
 refine Pu ?_;cases e:a.lookup k with
 |none=>rfl
 |some x=>exact absurd (HW e) h
def ke:(st.more n).hd.length=st.hd.length+1:=by
 show(st.hd++[_]).length=_;simp
def ZeH(n:Nat):full (bQ n)=af/\(bQ n).length=n:=⟨ur (tL (bQ n)),fR n⟩
def Sm(h:0<=z/\z<(n:Int)):ap (bQ n) z=z:=by
 show(bQ n).getD z.toNat 0=z;rw[Yk,nL QO]
 grind
def BU:z∈bQ n↔0<=z/\z<(n:Int):=by
 unfold bQ;rw[Yf];constructor;·grind
 ·intro h;exact⟨z.toNat,Wg.mpr QO,NK h.1⟩
def WF.z4(a:WF n st)(b:i<st.hd.length):st.ae i<st.hd.length:=a.lf _ (HW (a.eU b).1)
def WF.more(c:WF n st):WF n (st.more n):=by
 have p:st.hd.length∉st.mem.map (·.1):=λz=>We _ (c.lm _ z);have q:=λz=>We _ (c.lf _ z);have s:(st.more n).mem.map (·.1)=st.mem.map (·.1)++[st.hd.length]:=by
  show(st.mem++[(st.hd.length,[st.hd.length])]).map (·.1)=_;rw[Yn];rfl
 have m:(st.more n).fr.map (·.1)=st.fr.map (·.1)++[st.hd.length]:=by
  show(st.fr++[(st.hd.length,bQ n)]).map (·.1)=_;rw[Yn];rfl
 have r:∀{l:O Nat},l.Nodup->st.hd.length∉l->(l++[st.hd.length]).Nodup:=λ{l} h E=>Wy.mpr ⟨h,QS,λu v w A z=>by
  have:w=st.hd.length:=by simpa using A
  rw[z,this] at v;exact E v⟩
 refine⟨?_,λt D=>?_,λi j=>?_,λi j=>?_,?_,?_,?_,?_,?_⟩
 ·show(st.ld++[_]).length=(st.hd++[_]).length;rw[Yj,Yj,c.ll];rfl
 ·rcases Yv.mp (D) with h|h;·exact c.fl t h
  ·rw[Yi] at h;exact h▸ZeH n
 ·rw[ke] at j;by_cases z:i=st.hd.length
  ·rw[z,qo];exact⟨bQ n,G1 q,DP.Hi n,λ z=>BU.mp⟩
  ·rw[mJ (Nat.lt_of_le_of_ne (Nat.le_of_lt_succ j) z)];exact⟨_,Bv (c.eU (Nat.lt_of_le_of_ne (Nat.le_of_lt_succ j) z)).1,(c.eU (Nat.lt_of_le_of_ne (Nat.le_of_lt_succ j) z)).2⟩
 ·rw[ke] at j;by_cases z:i=st.hd.length
  ·rw[z,qo];refine⟨[st.hd.length],G1 p,QS,λk=>?_⟩;rw[Yi,ke];constructor
   ·rintro rfl;exact⟨(Nat.lt_succ_self _),qo⟩
   ·rintro⟨o,d⟩;by_cases w:k=st.hd.length;·exact w
    ·rw[mJ (Nat.lt_of_le_of_ne (Nat.le_of_lt_succ o) w)] at d;have:=c.z4 (i:=k) (Nat.lt_of_le_of_ne (Nat.le_of_lt_succ o) w);omega
  ·refine cm (c.mem i (Nat.lt_of_le_of_ne (Nat.le_of_lt_succ j) z)) λy e a b=>?_;rw[mJ (Nat.lt_of_le_of_ne (Nat.le_of_lt_succ j) z)];refine⟨y,Bv e,a,λk=>?_⟩;rw[b,ke];constructor
   ·rintro⟨o,d⟩;exact⟨(Nat.lt_succ_of_lt o),by rwa[mJ o]⟩
   ·rintro⟨o,d⟩;by_cases w:k=st.hd.length
    ·rw[w,qo] at d;have:=c.z4 (i:=i) (Nat.lt_of_le_of_ne (Nat.le_of_lt_succ j) z);omega
    ·rw[mJ (Nat.lt_of_le_of_ne (Nat.le_of_lt_succ o) w)] at d;exact⟨(Nat.lt_of_le_of_ne (Nat.le_of_lt_succ o) w),d⟩
 ·exact s▸r c.nm p
 ·rw[s,ke];intro k g;rcases Yv.mp g with h|h;·have:=c.lm k h;exact Nat.lt_succ_of_lt this
  ·rw[Yi] at h;exact Nat.lt_succ_of_le (Nat.le_of_eq h)
 ·exact m▸r c.nf q
 ·rw[m,ke];intro k g;rcases Yv.mp g with h|h;·have:=c.lf k h;exact Nat.lt_succ_of_lt this
  ·rw[Yi] at h;exact Nat.lt_succ_of_le (Nat.le_of_eq h)
 ·rw[m,ke];intro k g;rcases Yv.mp g with h|h
  ·refine bo (c.hf k h) λi j e=>?_;exact⟨i,(Nat.lt_succ_of_lt j),by rwa[mJ j]⟩
  ·rw[Yi] at h;exact⟨st.hd.length,(Nat.lt_succ_self _),by rw[qo,h]⟩
def Ql(a:WF n st)(f:Nat->Int):dG (st.more n) f↔dG st f/\(0<=f st.hd.length/\f st.hd.length<(n:Int)):=by
 have g:(st.more n).cA st.hd.length=bQ n:=by
  show((st.fr++[(st.hd.length,bQ n)]).lookup st.hd.length).getD []=_;rw[G1 (λz=>We _ (a.lf _ z))];rfl
 have e:∀i,i<st.hd.length->(st.more n).cA (st.ae i)=st.cA (st.ae i):=λi c=>by
  show((st.fr++[(st.hd.length,bQ n)]).lookup _).getD []=_;rw[Bv (a.eU c).1];rfl
 constructor
 ·rintro⟨s,h⟩;refine⟨⟨s,λi c=>?_⟩,?_⟩
  ·have x:=h i (by rw[ke];exact Nat.lt_succ_of_lt c);rw[mJ c,Rj a c,e i c] at x;exact x
  ·have x:=h st.hd.length (by rw[ke];exact Nat.lt_succ_self _);rw[qo,Qk a,g] at x;have b:=BU.mp x.1;rwa[x.2,Sm b]
 ·rintro⟨⟨s,h⟩,b⟩;refine⟨λq=>if q=st.hd.length then f st.hd.length else s q,λi c=>?_⟩;rw[ke] at c;by_cases z:i=st.hd.length
  ·rw[z,qo,Qk a,g];show(if st.hd.length=st.hd.length then _ else _)∈_/\f st.hd.length=ap _ (if st.hd.length=st.hd.length then _ else _);rw[bC rfl,Sm b];exact⟨BU.mpr b,rfl⟩
  ·have d:i<st.hd.length:=(Nat.lt_of_le_of_ne (Nat.le_of_lt_succ c) z)
   have:=a.z4 d;rw[mJ d,Rj a d,e i d]
   grind
theorem Zhl(a:∀c∈F,eB n m c)(h:eN F x y)(b:x<m):y<m:=by
 cases h with
 |refl=>exact b
 |step _ e=>exact(zm a e).2.1
theorem d_.more(a:d_ n st F)(v:0<n):d_ n (st.more n) F:=by
 refine⟨a.wf.more,λc q=>?_,λf=>?_,?_,λi j g t=>?_⟩
 ·have ok:=a.gW c q;exact ke▸⟨Wr ok.one,λm=>⟨⟨(ok.ic m).1.1,Wr (ok.ic m).1.2⟩,(ok.ic m).2⟩⟩
 ·rw[Ql a.wf,a.iff,ke];constructor
  ·rintro⟨⟨l,o⟩,y⟩;refine⟨λi g=>?_,o⟩;by_cases z:i=st.hd.length;·rwa[z]
   ·exact l i (Nat.lt_of_le_of_ne (Nat.le_of_lt_succ g) z)
  ·rintro⟨l,o⟩;exact⟨⟨λi g=>l i (Nat.lt_succ_of_lt g),o⟩,l _ (Nat.lt_succ_self _)⟩
 ·obtain⟨u,s,h⟩:=a.live;refine⟨λi=>if i=st.hd.length then 0 else u i,(Ql a.wf _).mpr ⟨⟨s,λi g=>?_⟩,?_⟩⟩;·grind
  ·simp_all
 ·rw[ke] at g t;by_cases p:i=st.hd.length
  ·by_cases d:j=st.hd.length;·rw[p,d];exact⟨λ_=>.refl,λ_=>rfl⟩
   ·rw[p,qo,mJ (Nat.lt_of_le_of_ne (Nat.le_of_lt_succ t) d)];have:=a.wf.z4 (i:=j) (Nat.lt_of_le_of_ne (Nat.le_of_lt_succ t) d);refine⟨λz=>QO,λz=>?_⟩;have b:∀{k:Nat},eN F st.hd.length k->k=st.hd.length:=λ{k} h=>by
     induction h with
     |refl=>rfl
     |step _ e r=>rw[r] at e;exact absurd (zm a.gW e).1 (We _)
    exact absurd (b z) d
  ·by_cases d:j=st.hd.length
   ·rw[d,qo,mJ (Nat.lt_of_le_of_ne (Nat.le_of_lt_succ g) p)];have:=a.wf.z4 (i:=i) (Nat.lt_of_le_of_ne (Nat.le_of_lt_succ g) p);refine⟨λz=>QO,λz=>?_⟩;have:=Zhl a.gW z (Nat.lt_of_le_of_ne (Nat.le_of_lt_succ g) p);omega
   ·rw[mJ (Nat.lt_of_le_of_ne (Nat.le_of_lt_succ g) p),mJ (Nat.lt_of_le_of_ne (Nat.le_of_lt_succ t) d)];exact a.conn i j (Nat.lt_of_le_of_ne (Nat.le_of_lt_succ g) p) (Nat.lt_of_le_of_ne (Nat.le_of_lt_succ t) d)
def ZjT:d_ n ⟨[],[],[],[]⟩ []:=⟨wf0,λ_ h=>(nomatch h),λf=>⟨λ_=>⟨λ_ h=>absurd h (Wk _),λ_ h=>(nomatch h)⟩,λ_=>⟨λ_=>0,λ_ h=>absurd h (Wk _)⟩⟩,⟨λ_=>0,λ_=>0,λ_ h=>absurd h (Wk _)⟩,λ_ _ h=>absurd h (Wk _)⟩
end
theorem eN.mono(h:∀x y t,hZ F x y t->hZ G x y t)(c:eN F x y):eN G x y:=by
 induction c with
 |refl=>exact .refl
 |step _ e a=>exact .step a (h _ _ _ e)
theorem eN.trans(c:eN F x y)(d:eN F y z):eN F x z:=by
 induction d with
 |refl=>exact c
 |step _ e a=>exact .step a e
def ZeI(h:c.k=bb):eN (F++[c]) x y↔eN F x y:=
 ⟨eN.mono λ_ _ _ e=>(rM.mp e).elim id λz=>absurd h z.1,eN.mono λ_ _ _ e=>rM.mpr (.inl e)⟩
theorem Zf2(h:c.k≠bb):eN (F++[c]) x y↔eN F x y\/(eN F x c.one/\eN F c.aU.toNat y)\/(eN F x c.aU.toNat/\eN F c.one y):=by
 have g:∀{x y:Nat},eN F x y->eN (F++[c]) x y:=λd=>d.mono λ_ _ _ e=>rM.mpr (.inl e);have k:hZ (F++[c]) c.one c.aU.toNat c.tn:=rM.mpr (.inr ⟨h,.inl ⟨rfl,rfl,rfl⟩⟩);have j:hZ (F++[c]) c.aU.toNat c.one (inv c.tn):=rM.mpr (.inr ⟨h,.inr ⟨rfl,rfl,rfl⟩⟩);constructor
 ·intro d;induction d with
  |refl=>exact .inl .refl
  |step _ e i=>
   rcases rM.mp e with e|⟨_,⟨rfl,rfl,_⟩|⟨rfl,rfl,_⟩⟩
   ·rcases i with a|⟨a,b⟩|⟨a,b⟩;·exact .inl (.step a e)
    ·exact .inr (.inl ⟨a,.step b e⟩)
    ·exact .inr (.inr ⟨a,.step b e⟩)
   ·rcases i with a|⟨a,b⟩|⟨a,b⟩;·exact .inr (.inl ⟨a,.refl⟩)
    ·exact .inr (.inl ⟨a,.refl⟩)
    ·exact .inl a
   ·rcases i with a|⟨a,b⟩|⟨a,b⟩;·exact .inr (.inr ⟨a,.refl⟩)
    ·exact .inl a
    ·exact .inr (.inr ⟨a,.refl⟩)
 ·rintro(a|⟨a,b⟩|⟨a,b⟩);·exact g a
  ·exact((g a).step k).trans (g b)
  ·exact((g a).step j).trans (g b)
section
variable {n i j:Nat}{st X:JS}{F:O Fc}{k:ar}{tn:O Int}{b:cu}
def Zf3(a:d_ n st F)(c:T7 n st X b i j tn)(o:k≠bb)(p:eB n st.hd.length ⟨k,i,(j:Int),tn⟩):(b=af->d_ n X (F++[⟨k,i,(j:Int),tn⟩]))/\(b=bg->d_ n X F/\∀f,dG X f->¬e_ f ⟨k,i,(j:Int),tn⟩):=by
 have g:∀f,e_ f ⟨k,i,(j:Int),tn⟩↔f j=ap tn (f i):=λf=>⟨λh=>by have:=h.2 o;rwa [show((⟨k,i,(j:Int),tn⟩:Fc).aU.toNat)=j from Y7 j] at this,λh=>⟨λz=>absurd z o,λ_=>by rwa[show((⟨k,i,(j:Int),tn⟩:Fc).aU.toNat)=j from Y7 j]⟩⟩;refine⟨λe=>?_,λe=>?_⟩
 ·obtain⟨s,iff⟩:=c.yes e;have r:=p.one;have q:j<st.hd.length:=by
   have:=(p.ic o).1.2
   rwa [show((⟨k,i,(j:Int),tn⟩:Fc).aU.toNat)=j from Y7 j] at this
  refine a.put p c.wf c.len s (λf=>by rw[iff,g]) λx y m l=>?_;rw[c.xT e x y m l,Zf2 o,show((⟨k,i,(j:Int),tn⟩:Fc).aU.toNat)=j from Y7 j,a.conn x y m l,a.conn x i m r,a.conn x j m q,←a.conn j y q l,←a.conn i y r l];exact or_congr_right (or_congr (vK λ_=>eq_comm) (vK λ_=>eq_comm))
 ·obtain⟨t,no⟩:=c.no e;exact t▸⟨a,λf d z=>no f d ((g f).mp z)⟩
def Sn(c:d_ n st F)(e:i<st.hd.length)(m:a∈(st.cA (st.ae i)).map λz=>(st.bK i).getD z.toNat 0):d_ n (st.mU (st.ae i) ((st.cA (st.ae i)).filter λz=>decide ((st.bK i).getD z.toNat 0∈[a]))) (F++[⟨bb,i,a,tn⟩]):=by
 refine c.put ⟨e,absurd rfl⟩ (c.wf.mU e) rfl ?_ (λf=>?_) λx y o l=>?_
 ·obtain⟨z,g,rfl⟩:=Yf.mp m;obtain⟨r,p⟩:=c.live;obtain⟨f,d,q⟩:=BG c.wf p (st.ae i) (st.ae i) z z g g (λ_=>rfl);exact⟨f,(yL c.wf e _ f).mpr ⟨d,by rw[(q i e).1 rfl];exact Yo⟩⟩
 ·rw[yL c.wf e,Yi];refine vK λ_=>?_;exact⟨λh=>⟨λ_=>h,absurd rfl⟩,λh=>h.1 rfl⟩
 ·rw[ZeI rfl];exact c.conn x y o l
def Zi4(g:d_ n st F)(c:i<st.hd.length)(m:a∉(st.cA (st.ae i)).map λz=>(st.bK i).getD z.toNat 0)(f:Nat->Int)(d:dG st f):¬e_ f ⟨bb,i,a,tn⟩:=by
 obtain⟨s,h⟩:=d;intro z;have e:f i=a:=z.1 rfl;refine m (Yf.mpr ⟨s (st.ae i),(h i c).1,?_⟩);rw[←e,(h i c).2];rfl
end
abbrev bP:=O (ar×ar)
noncomputable def au(a:bP)(i:Nat):ar:=(a.getD i ("","")).1
def bJ(a:bP)(c:Fc):Key:=if c.k=bb then .inl c.aU else .inr (au a c.aU.toNat)
def eF(a:bP)(z:Nat)(c:Fc):O Key:=[.inl (z:Int),.inr c.k,.inr (au a c.one),bJ a c]
def keyOf(k a:ar):Key->O Key
 |.inl b=>[.inr k,.inr a,.inl b]
 |.inr b=>if k="sibling" then[.inr k,.inr (_L.sC a b),.inr (_L.sD a b)] else[.inr k,.inr a,.inr b]
def gu(a:bP)(c:Fc):O Key:=keyOf c.k (au a c.one) (bJ a c)
noncomputable def cZ(k:ar):cu:=decide (k="mother")||decide (k="father")
def gX(a:bP)(b:O (Nat×Fc)):O (O Key×V):=b.map λp=>(gu a p.2,.int (p.1:Int))
def cQ(a:bP)(b:O (Nat×Fc)):O (O Key×V):=(b.filter λp=>cZ p.2.k).map λp=>([.inr p.2.k,.inr (au a p.2.one)],kV (bJ a p.2))
noncomputable def jY(a:bP):O (Key×V):=a.zipIdx.map λp=>(.inr p.1.1,.int (p.2:Int))
structure xF where
 way:Int
 row:O Key
 c0:Nat
 c1:Nat
def nY(H:Hp)(a:U)(d:xF):Prop:=∃r,H a=Z (.tup [.int d.way,.ref r,.int (d.c0:Int),.int (d.c1:Int)])/\H r=Z (.tup (d.row.map kV))
structure BS where
 ps:bP
 fs:O (Nat×Fc)
 co:Nat
 dn:O xF
 un:O xF
noncomputable def BS.F(b:BS):O Fc:=b.fs.map (·.2)
structure BL where
 h:U
 L:U
 sd:U
 pl:U
 fc:U
 kn:U
 pr:U
 dn:U
 un:U
 rk:V
 cB:O U
 eX:O U
 ig:O U
 fN:O U
noncomputable def BL.own(l:BL):O U:=[l.h,l.sd,l.pl,l.fc,l.kn,l.pr,l.dn,l.un]
def BL.fp(l:BL):O U:=l.own++l.fN
structure fE(K:ah)(C:U):Prop where
 cls:h_ K C
 uE:dA K C "land"
 uw:dA K C "sides"
 rN:dA K C "places"
 rT:dA K C "facts"
 B_:dA K C "known"
 wO:dA K C "parents"
 rO:dA K C "coming"
 Cv:dA K C "done"
 JK:dA K C "undone"
 jD:dA K C "reckoned"
noncomputable abbrev HF(L b e h g d:U)(j:Int)(i a:U)(c:V):O (ar×V):=[("land",.ref L),("sides",.ref b),("places",.ref e),("facts",.ref h),("known",.ref g),("parents",.ref d),("coming",.int j),("done",.ref i),("undone",.ref a),("reckoned",c)]
def ZkK(a b c d e f g h i j:V):dh "reckoned" j (dh "undone" i (dh "done" h (dh "coming" g (dh "parents" f (dh "known" e (dh "facts" d (dh "places" c (dh "sides" b (dh "land" a [])))))))))=
  ([("land",a),("sides",b),("places",c),("facts",d),("known",e),("parents",f),("coming",g),("done",h),("undone",i),("reckoned",j)]:O (ar×V)):=rfl
noncomputable abbrev iI(a:bP):O (Key×V):=a.map λp=>(.inr p.1,.str p.2)
inductive u6(H:Hp)(CJ:U)(n:Nat)(l:BL)(b:BS):Prop
 |no (e:l.rk=.ay) (d:l.fN=[])
 |at_ (c:JL) (st:JS) (e:l.rk=.ref c.J) (d:l.fN=c.fp) (h:c_ H CJ n c st) (g:d_ n st b.F) (len:st.hd.length=b.ps.length) (i:∀a∈l.own,a∉c.fp)
structure bu(H:Hp)(C CL CJ:U)(l:BL)(xs ys:O Int)(b:BS):Prop where
 obj:∃dx,H l.h=Z (.ins C dx (HF l.L l.sd l.pl l.fc l.kn l.pr (b.co:Int) l.dn l.un l.rk))
 land:∀H',Out l.fp H H'->jH H' CL l.L xs ys
 dD:H l.sd=Z (.dK (iI b.ps))
 places:H l.pl=Z (.dK (jY b.ps))
 facts:H l.fc=Z (.dK (bM (b.fs.map (·.1)) l.cB))
 fact:Paired (λa (p:Nat×Fc)=>H a=Z (.tup ((eF b.ps p.1 p.2).map kV))) l.cB b.fs
 known:H l.kn=Z (.dT (gX b.ps b.fs))
 parents:H l.pr=Z (.dT (cQ b.ps b.fs))
 done:H l.dn=Z (.lst (l.eX.map V.ref))
 kN:Paired (nY H) l.eX b.dn
 iR:H l.un=Z (.lst (l.ig.map V.ref))
 mO:Paired (nY H) l.ig b.un
 uO:u6 H CJ xs.length l b
 nd:l.own.Nodup
def nY.out(o:Out fp H g)(t:∀a e,H a=Z (.tup e)->a∉fp)(h:nY H a d):nY g a d:=by
 refine bo h λr c b=>?_;exact⟨r,o _ _ c (t _ _ c),o _ _ b (t _ _ b)⟩
def c_.off(j:c_ H C n l st)(h:H a=Z (.tup xs)):a∉l.fp:=by
 intro z;unfold JL.fp at z;simp[Ym] at z;rcases z with rfl|rfl|rfl|rfl|rfl|z
 ·obtain⟨b,e⟩:=j.obj
  grind
 ·rw[j.heads] at h;cases h
 ·rw[j.jK] at h;cases h
 ·rw[j.kM] at h;cases h
 ·rw[j.frees] at h;cases h
 ·obtain⟨y,e⟩:=yU j.mem z
  grind
theorem c_.jq(j:c_ H C n l st)(o:Out fp H g)(v:∀a∈fp,a∉l.fp)(s:∀a∈fp,a∉l.cB)(t:∀a q,H a=Z (.tup q)->a∉fp):c_ g C n l st:=by
 have k:∀{a:U} {u:HO},H a=Z u->a∈l.fp->g a=Z u:=λ{a u} e m=>o _ _ e λz=>v _ z m;obtain⟨r,e⟩:=j.obj;refine⟨⟨r,k e (by simp[JL.fp])⟩,k j.heads (by simp[JL.fp]),k j.jK (by simp[JL.fp]),_L.Paired.bH j.lead λa x h=>o _ _ h (t _ _ h),k j.kM (by simp[JL.fp]),?_,k j.frees (by simp[JL.fp]),?_,j.nd,j.out⟩
 ·have d:∀{b:O U} {ps:O (Nat×O Nat)},Paired (λa p=>H a=Z (.lst (eQ p.2))) b ps->(∀a∈b,a∈l.fp)->Paired (λa p=>g a=Z (.lst (eQ p.2))) b ps:=by
   intro b ps p;induction p with
   |nil=>intro _;exact .nil
   |cons f _ i=>intro m;exact .cons (k f (m _ Yo)) (i λa c=>m a (Yw _ c))
  exact d j.mem λa c=>by simp[JL.fp,c]
 ·have d:∀{b:O U} {ps:O (Nat×O Int)},Paired (λa p=>H a=Z (.lst (p.2.map V.int))) b ps->(∀a∈b,a∈l.cB)->Paired (λa p=>g a=Z (.lst (p.2.map V.int))) b ps:=by
   intro b ps p;induction p with
   |nil=>intro _;exact .nil
   |cons f _ i=>intro m;exact .cons (o _ _ f λz=>s _ z (m _ Yo)) (i λa c=>m a (Yw _ c))
  exact d j.free λa c=>c
section
variable {H:Hp}{l:BL}{b:BS}
def bu.landAt(h:bu H C CL CJ l xs ys b):jH H CL l.L xs ys:=h.land H (Out.of (aj.refl _))
theorem bu.tup(h:bu H C CL CJ l xs g b)(e:H a=Z (.tup us)):a∉l.fp:=by
 intro z;unfold BL.fp BL.own at z;rcases Yv.mp z with z|z
 ·simp[Ym,Y2,i1] at z;rcases z with rfl|rfl|rfl|rfl|rfl|rfl|rfl|rfl
  ·obtain⟨j,q⟩:=h.obj
   simp_all
  ·rw[h.dD] at e;cases e
  ·rw[h.places] at e;cases e
  ·rw[h.facts] at e;cases e
  ·rw[h.known] at e;cases e
  ·rw[h.parents] at e;cases e
  ·rw[h.done] at e;cases e
  ·rw[h.iR] at e;cases e
 ·cases h.uO with
  |no _ c=>simp_all
  |at_ i st _ c d=>rw[c] at z;exact d.off e z
theorem bu.there(h:bu H C CL CJ l xs g b)(z:a∈l.fp):H a≠aJ:=by
 intro e;unfold BL.fp BL.own at z;rcases Yv.mp z with z|z
 ·simp[Ym,Y2,i1] at z;rcases z with rfl|rfl|rfl|rfl|rfl|rfl|rfl|rfl
  ·obtain⟨j,q⟩:=h.obj
   grind
  ·rw[h.dD] at e;cases e
  ·rw[h.places] at e;cases e
  ·rw[h.facts] at e;cases e
  ·rw[h.known] at e;cases e
  ·rw[h.parents] at e;cases e
  ·rw[h.done] at e;cases e
  ·rw[h.iR] at e;cases e
 ·cases h.uO with
  |no _ c=>grind
  |at_ i st _ c d=>rw[c] at z;exact d.ne e z
theorem u6.same(g:aj H k)(h:u6 H CJ n l b):u6 k CJ n l b:=by
 cases h with
 |no c a=>exact .no c a
 |at_ e st c a i d len j=>exact .at_ e st c a (i.same g) d len j
def bu.same(g:aj H k)(h:bu H C CL CJ l xs d b):bu k C CL CJ l xs d b:=
 ⟨let⟨i,e⟩:=h.obj;⟨i,g _ _ e⟩,λj o=>h.land j ((Out.of g).trans o),g _ _ h.dD,g _ _ h.places,g _ _ h.facts,_L.Paired.bH h.fact λ _ _=>g _ _,g _ _ h.known,g _ _ h.parents,g _ _ h.done,_L.Paired.bH h.kN λ_ _ ⟨r,c,a⟩=>⟨r,g _ _ c,g _ _ a⟩,g _ _ h.iR,_L.Paired.bH h.mO λ_ _ ⟨r,c,a⟩=>⟨r,g _ _ c,g _ _ a⟩,h.uO.same g,h.nd⟩
def fM(d c:O U)(H:Hp):Prop:=∀a∈c,a∈d\/H a=aJ
def fM.refl(a:O U)(H:Hp):fM a a H:=λ_ h=>.inl h
def JM(o:Out fp H H1)(g:fM fp c H)(d:Out c H1 H2):Out fp H H2:=λa u e n=>d _ _ (o _ _ e n) λz=>(g a z).elim n λq=>by rw[e] at q;cases q
theorem fM.trans(g:fM fp d H)(o:Out fp H H1)(h:fM d c H1):fM fp c H:=λa z=>by
 rcases h a z with q|q;·exact g a q
 ·by_cases m:a∈fp;·exact .inl m
  ·right
   cases e:H a with
   |none=>rfl
   |some u=>rw[o _ _ e m] at q;cases q
def fM.same(s:aj H H1)(d:fM fp c H1):fM fp c H:=λa z=>(d a z).imp id λq=>s.free q
def Zf4(c:d_ n st F)(m:(k,a)∈st.fr):a≠[]:=by
 obtain⟨i,g,e⟩:=c.wf.hf k (Yf.mpr ⟨_,m,rfl⟩);obtain⟨f,s,d⟩:=c.live;have q:=(d i g).1;unfold JS.cA at q;rw[e,(mem_lookup c.wf.nf m)] at q
 grind
theorem Zhm(A:c_ H CJ n z st)(v:d_ n st b.F)(h:∃W t,H l.h=Z (.ins C W t))(R:∃k,H l.sd=Z (.dK k))(Q:∃k,H l.pl=Z (.dK k))(P:∃k,H l.fc=Z (.dK k))(N:∃k,H l.kn=Z (.dT k))(L:∃k,H l.pr=Z (.dT k))(J:∃c:O U,H l.dn=Z (.lst (c.map V.ref)))(G:∃c:O U,H l.un=Z (.lst (c.map V.ref))):∀a∈l.own,a∉z.cB:=by
 intro a g F;obtain⟨p,E,e⟩:∃p∈st.fr,H a=Z (.lst (p.2.map V.int)):=by
  have j:∀{c:O U} {d:O (Nat×O Int)},Paired (λa p=>H a=Z (.lst (p.2.map V.int))) c d->a∈c->∃p∈d,H a=Z (.lst (p.2.map V.int)):=by
   intro c d u;induction u with
   |nil=>intro h;cases h
   |cons f _ D=>
    intro h;rcases Ym.mp h with rfl|h;·exact⟨_,Yo,f⟩
    ·refine bo (D h) λq m e=>?_;exact⟨q,Yw _ m,e⟩
  exact j A.free F
 have ne:=Zf4 v (k:=p.1) E;have lst:∀c:O U,H a=Z (.lst (c.map V.ref))->False:=λc q=>by
  rw[q] at e;have i:c.map V.ref=p.2.map V.int:=by injection e with e;injection e
  cases o:p.2 with
  |nil=>exact ne o
  |cons x r=>
   rw[o] at i;cases c with
   |nil=>cases i
   |cons y s=>injection i with T _;cases T
 unfold BL.own at g;simp[Ym,Y2,i1] at g;rcases g with rfl|rfl|rfl|rfl|rfl|rfl|rfl|rfl;·obtain⟨_,_,q⟩:=h;rw[q] at e;cases e
 ·obtain⟨_,q⟩:=R;rw[q] at e;cases e
 ·obtain⟨_,q⟩:=Q;rw[q] at e;cases e
 ·obtain⟨_,q⟩:=P;rw[q] at e;cases e
 ·obtain⟨_,q⟩:=N;rw[q] at e;cases e
 ·obtain⟨_,q⟩:=L;rw[q] at e;cases e
 ·obtain⟨_,q⟩:=J;exact lst _ q
 ·obtain⟨_,q⟩:=G;exact lst _ q
def bu.La(h:bu H C CL CJ l xs j b)(g:c_ H CJ xs.length d st)(c:d_ xs.length st b.F):∀a∈l.own,a∉d.cB:=
 Zhm g c (let⟨i,e⟩:=h.obj;⟨i,_,e⟩) ⟨_,h.dD⟩ ⟨_,h.places⟩ ⟨_,h.facts⟩ ⟨_,h.known⟩ ⟨_,h.parents⟩ ⟨_,h.done⟩ ⟨_,h.iR⟩
def bu.build(h:bu H C CL CJ l xs z b)(v:l'.h=l.h)(x:l'.L=l.L)(n:l'.sd=l.sd)(r:l'.pl=l.pl)(t:l'.fc=l.fc)(s:l'.kn=l.kn)(q:l'.pr=l.pr)(u:l'.dn=l.dn)(m:l'.un=l.un)(o:Out l.fp H c)(g:fM l.fp l'.fp H)
  (E:∃L,c l.h=Z (.ins C L (HF l.L l.sd l.pl l.fc l.kn l.pr (b'.co:Int) l.dn l.un l'.rk)))(Q:c l.sd=Z (.dK (iI b'.ps)))(i:c l.pl=Z (.dK (jY b'.ps)))(k:c l.fc=Z (.dK (bM (b'.fs.map (·.1)) l'.cB)))
  (e:Paired (λa (p:Nat×Fc)=>c a=Z (.tup ((eF b'.ps p.1 p.2).map kV))) l'.cB b'.fs)(j:c l.kn=Z (.dT (gX b'.ps b'.fs)))(d:c l.pr=Z (.dT (cQ b'.ps b'.fs)))
  (y:c l.dn=Z (.lst (l'.eX.map V.ref)))(J:Paired (nY c) l'.eX b'.dn)(P:c l.un=Z (.lst (l'.ig.map V.ref)))(G:Paired (nY c) l'.ig b'.un)(A:u6 c CJ xs.length l' b'):bu c C CL CJ l' xs z b':=by
 have D:l'.own=l.own:=by unfold BL.own;rw[v,n,r,t,s,q,u,m]
 refine⟨?_,λN F=>?_,by rwa[n],by rwa[r],by rwa[t],e,by rwa[s],by rwa[q],by rwa[u],J,by rwa[m],G,A,by exact D▸h.nd⟩;·rwa[v,x,n,r,t,s,q,u,m]
 ·exact x▸h.land N (JM o g F)
theorem bu.owned(h:bu H C CL CJ l xs L b)(F:l'.h=l.h)(G:l'.L=l.L)(s:l'.sd=l.sd)(v:l'.pl=l.pl)(y:l'.fc=l.fc)(x:l'.kn=l.kn)(t:l'.pr=l.pr)(A:l'.dn=l.dn)(r:l'.un=l.un)
  (D:(l'.rk=l.rk/\l'.fN=l.fN/\b'.F=b.F/\b'.ps.length=b.ps.length)\/(l'.rk=.ay/\l'.fN=[]))(o:Out l.own H H')
  (Q:∃dx,H' l.h=Z (.ins C dx (HF l.L l.sd l.pl l.fc l.kn l.pr (b'.co:Int) l.dn l.un l'.rk)))(dD:H' l.sd=Z (.dK (iI b'.ps)))(j:H' l.pl=Z (.dK (jY b'.ps)))(q:H' l.fc=Z (.dK (bM (b'.fs.map (·.1)) l'.cB)))
  (d:Paired (λa (p:Nat×Fc)=>H' a=Z (.tup ((eF b'.ps p.1 p.2).map kV))) l'.cB b'.fs)(m:H' l.kn=Z (.dT (gX b'.ps b'.fs)))(c:H' l.pr=Z (.dT (cQ b'.ps b'.fs)))
  (J:H' l.dn=Z (.lst (l'.eX.map V.ref)))(X:Paired (nY H') l'.eX b'.dn)(iR:H' l.un=Z (.lst (l'.ig.map V.ref)))(W:Paired (nY H') l'.ig b'.un):bu H' C CL CJ l' xs L b'/\fM l.fp l'.fp H:=by
 have k:l'.own=l.own:=by unfold BL.own;rw[F,s,v,y,x,t,A,r]
 have sub:∀a∈l'.fp,a∈l.fp:=λa z=>by
  unfold BL.fp at z⊢;rw[k] at z;rcases D with⟨_,e,_⟩|⟨_,e⟩;·rw[e] at z;exact z
  ·rw[e,Wf] at z;exact Yt _ z
 have of:Out l.fp H H':=λa u e n=>o _ _ e λz=>n (Yt _ z);refine⟨⟨?_,λH2 R=>?_,by rwa[s],by rwa[v],by rwa[y],d,by rwa[x],by rwa[t],by rwa[A],X,by rwa[r],W,?_,by exact k▸h.nd⟩,λa z=>.inl (sub a z)⟩;·rwa[F,G,s,v,y,x,t,A,r]
 ·exact G▸h.land H2 (JM of (λa z=>.inl (sub a z)) R)
 ·rcases D with⟨i,g,P,N⟩|⟨i,g⟩
  ·cases h.uO with
   |no e1 e2=>exact .no (by rwa[i]) (by rwa[g])
   |at_ jl st e1 e2 E T len gY=>
    exact .at_ jl st (by rwa[i]) (by rwa[g]) (E.jq o gY (h.La E T) λa us e=>λz=>h.tup e (Yt _ z)) (by rwa[P]) (by rwa[N]) (by rwa[k])
  ·exact .no i g
end
noncomputable abbrev sG:O (ar×ar):=[("mother","m"),("father","f"),("wed","w"),("sibling","s")]
abbrev sr(a b:O Int):O (ar×O Int):=[("mother",inv a),("father",inv (b_ a b)),("wed",b),("sibling",bQ a.length)]
structure fF(xs ys:O Int)(m:Nat)(c:Fc):Prop where
 ok:eB xs.length m c
 kind:c.k=bb\/(c.k,c.tn)∈sr xs ys
 Ma:c.k=bb->0<=c.aU/\c.aU<(xs.length:Int)
def ZdE:(bb,a)∉sr xs ys:=by
 intro h;simp[Ym,Y2,i1] at h;rcases h with⟨h,_⟩|⟨h,_⟩|⟨h,_⟩|⟨h,_⟩<;>exact absurd h QK
def Gx(h:(k,a)∈sr xs ys):∃r,PyProof.Rows.KTD.datumAt k sG=Z r/\(r,a)∈Cr xs ys:=by
 simp[Ym,Y2,i1] at h;rcases h with⟨rfl,rfl⟩|⟨rfl,rfl⟩|⟨rfl,rfl⟩|⟨rfl,rfl⟩;·exact⟨"m",QK,QS⟩
 ·exact⟨"f",QK,QS⟩
 ·exact⟨"w",QK,QS⟩
 ·exact⟨"s",QK,QS⟩
def fF.uP(g:fF xs ys m c)(h:c.k≠bb):(c.k,c.tn)∈sr xs ys:=g.kind.resolve_left h
def Zf5(d:oi xs b)(h:(k,a)∈sr xs b):full a=af/\a.length=xs.length:=by
 refine bo (Gx h) λr _ c=>?_;exact ZdD d c
theorem ux(b:(a.map (·.1)).Nodup)(d:i<a.length):aY (jY a) (.inr (au a i))=Z (.int (i:Int)):=by
 have g:∀(a:bP) (k i:Nat),(a.map (·.1)).Nodup->i<a.length->aY ((a.zipIdx k).map λp=>((.inr p.1.1:Key),V.int (p.2:Int))) (.inr (au a i))=Z (.int ((k+i:Nat):Int)):=by
  intro a;induction a with
  |nil=>intro k i _ h;cases h
  |cons p a n=>
   intro k i b d;obtain⟨l,j⟩:=Y0.mp (show(p.1::a.map (·.1)).Nodup from b);rw[List.zipIdx_cons,Wj];cases i with
   |zero=>exact gw rfl
   |succ i=>
    have c:i<a.length:=by simpa using d
    have e:au (p::a) (i+1)=au a i:=rfl;have m:au a i∈a.map (·.1):=by
     unfold au;rw[Yk,Yb c];exact Yf.mpr ⟨_,J7 c,rfl⟩
    rw[e,gk (λz=>l (by rwa[Y9 z])),n (k+1) i j c]
    congr 2
    omega
 have:=g a 0 i b d
 rwa [zY] at this
def ji(h:c.k=bb):bJ a c=.inl c.aU:=bC h
def jj(h:c.k≠bb):bJ ps c=.inr (au ps c.aU.toNat):=bF h
inductive Ko(a:O V)(H:Hp)(Q:VK)(E:XK):Prop
 |mk (k:ar) (c:a=[.str k]) (b:Q (.bl (pA sG k)) H)
inductive IL(CL:U)(d:O V)(H:Hp)(Q:VK)(E:XK):Prop
 |mk (L:U) (k:ar) (b a c:O Int) (i:d=[.ref L,.str k]) (g:jH H CL L b a) (h:(k,c)∈sr b a) (e:∀t:U,cq H t c->Q (.ref t) H)
inductive CP(c:O V)(H:Hp)(Q:VK)(E:XK):Prop
 |mk (k a:ar) (o:Key) (g:c=[.str k,.str a,kV o]) (d:k="sibling"->∃b,o=.inr b) (e:Nw H (.tup ((keyOf k a o).map kV)) Q)
inductive Rk(CL CJ:U)(k:O V)(H:Hp)(Q:VK):Prop
 |mk (e:JL) (st:JS) (L l m:U) (b g:O Int) (d:bP) (F:O Fc) (z:Nat) (c:Fc) (D:k=[.ref e.J,.ref L,.ref l,.ref m]) (t:c_ H CJ b.length e st) (o:d_ b.length st F) (s:jH H CL L b g) (y:oi b g) (u:H l=Z (.dK (jY d))) (n:(d.map (·.1)).Nodup) (len:st.hd.length=d.length) (p:d.length<=100) (x:H m=Z (.tup ((eF d z c).map kV))) (A:fF b g d.length c) (r:∃f,dG st f/\e_ f c)
   (q:∀(v:V) (h:JL) (i:JS) (j:Hp),h.J=e.J->(∀a∈h.fp,a∈e.fp)->Out e.fp H j->c_ j CJ b.length h i->d_ b.length i (F++[c])->i.hd.length=st.hd.length->Q v j):Rk CL CJ k H Q
def Kp(CL CJ:U):Sp:=λa H Q _=>Rk CL CJ a H Q
inductive So(CL CJ:U)(g:O V)(H:Hp)(Q:VK):Prop
 |mk (i:JL) (st:JS) (L h j:U) (b e:O Int) (a:bP) (F:O Fc) (z:Nat) (c:Fc) (t:g=[.ref i.J,.ref L,.ref h,.ref j]) (o:c_ H CJ b.length i st) (l:d_ b.length st F) (n:jH H CL L b e) (r:oi b e) (p:H h=Z (.dK (jY a))) (k:(a.map (·.1)).Nodup) (len:st.hd.length=a.length) (m:a.length<=100) (q:H j=Z (.tup ((eF a z c).map kV))) (s:fF b e a.length c)
   (q1:(∃f,dG st f/\e_ f c)->∀d,aj H d->Q (.bl af) d) (q2:(∀f,dG st f->¬e_ f c)->∀d,aj H d->Q (.bl bg) d):So CL CJ g H Q
def T8(CL CJ:U):Sp:=λa H Q _=>So CL CJ a H Q
def Ca:∀b:cu,decide (V.str k=V.str bb)=b->(b=af↔k=bb):=λb e=>by
 grind
def ZeJ:aW ["kind"] ["kind"] (aL JE):=.bp
def ZeK(F:aT K "is_tie" "is_tie" JE f fd)(b:B "TIE_LETTERS"=Z (.ref a))(c:xC K a sG):aI P w K B I aR 1 f fd ["kind"] Ko:=by
 refine F.o ZeJ λs H d h=>?_;obtain⟨k,rfl,q⟩:=h;refine⟨_,(av (aK (B3 (ZiF (K:=K) rfl) (pv 0) (dW (v:=.ref a) rfl b rfl) QU))),?_⟩;exact⟨_,rfl,k,a,sG,rfl,rfl,c,q⟩
noncomputable abbrev z5:O ar:=["land","kind"]
def ZcA:aW z5 z5 (aL Ho):=.bp
def ZcB(F:aT K "tie_turn" "tie_turn" Ho f fd)(j:B "TIE_LETTERS"=Z (.ref a))(n:xC K a sG)(D:uN K CL)(l:HasFn P w K B I 1 "is_tie" ["kind"] Ko)(y:cI P w K B I 1 "step" CL C8 (TY CL)):aI P w K B I aR 2 f fd z5 (IL CL):=by
 refine F.o ZcA λs H c h=>?_;obtain⟨L,k,i,g,m,rfl,b,t,q⟩:=h;refine⟨_,(ak (aX (gn (d5 (bh l c (aa (pv 1) ag)))) ir a_) (av (aK (cY y c QO (pv 0) (aa (bc (ZgW (K:=K) rfl) (dW (v:=.ref a) rfl j rfl) (pv 1)) ag))))),?_⟩;refine mI ?_;intros;refine bo (Gx t) λr e p=>?_;have o:pA sG k=af:=by unfold pA;rw[e];rfl
 obtain⟨x,d,A,E,z,N,G,J,st,u,_⟩:=id b;refine⟨_,rfl,k,rfl,_,rfl,?_⟩;rw[o];refine bV (aZ ?_);exact⟨_,rfl,L,x,_,rfl,u,rfl,_,rfl,a,k,r,sG,rfl,rfl,n,e,L,r,i,g,m,rfl,b,p,q⟩
noncomputable abbrev xG:O ar:=["kind","one","other"]
def ZcC:aW xG xG (aL Hq):=.bp
theorem ZcD(F:aT K "fact_key" "fact_key" Hq f fd)(g:B "SIBLING"=Z (.str "sibling" t1))(d:Bl B):aI P w K B I aR 1 f fd xG CP:=by
 refine F.o ZcC λs H l h=>?_;obtain⟨k,a,o,rfl,j,q⟩:=h;refine⟨_,(ak (aX (bO cP (pv 0) (dW (v:=.str "sibling") rfl g ⟨_,rfl⟩)) (av (aK (du (aa (pv 0) (aa (iu (Zdq rfl) rfl d.UR Tj (aa (pv 1) (aa (pv 2) ag))) (aa (iu (Zdr rfl) rfl d.ZjA ZiR (aa (pv 1) (aa (pv 2) ag))) ag)))))) a_) (av (aK (du (aa (pv 0) (aa (pv 1) (aa (pv 2) ag))))))),?_⟩;refine⟨_,rfl,rfl,_,rfl,?_⟩;by_cases e:k="sibling"
 ·obtain⟨b,rfl⟩:=j e;rw[d9 (by rw[e])];refine⟨_,rfl,_,rfl,_,rfl,_,_,rfl,_,rfl,_,rfl,_,_,rfl,by show 3<=sizeLine;decide,?_⟩;have c:keyOf k a (.inr b)=[.inr k,.inr (_L.sC a b),.inr (_L.sD a b)]:=bC e;rw[c] at q;exact q
 ·rw[jb (λz=>e (V.str.inj z))];refine⟨_,rfl,_,rfl,_,rfl,by show 3<=sizeLine;decide,?_⟩;have c:(keyOf k a o).map kV=[.str k,.str a,kV o]:=by
   cases o with
   |inl i=>rfl
   |inr b=>
    have:keyOf k a (.inr b)=[.inr k,.inr a,.inr b]:=bF e;rw[this];rfl
  rw[c] at q;exact q
noncomputable abbrev u7:O ar:=["joins","land","places","fact"]
noncomputable abbrev V3:O ar:=["joins","land","places","fact","number","kind","one","other"]
def yI:aW V3 u7 (aL GI):=.bp
theorem ZbS(F:aT K "keep_fact" "keep_fact" GI f fd)(mP:B "SAID"=Z (.str "said" t1))(wI:HasFn P w K B I 2 "tie_turn" z5 (IL CL))(G4:cI P w K B I 3 "say" CJ Dc (U4 CJ))(G5:cI P w K B I 5 "tie" CJ m5 (U6 CJ)):aI P w K B I aR 6 f fd u7 (Kp CL CJ):=by
 refine F.o yI λs H g h=>?_;obtain⟨i,st,L,u,fa,l,ys,m,FF,z,c,rfl,E,d,la,gd,J,nd,len,m4,hf,k,lv,q⟩:=h;refine⟨_,(ak (mN (pv 3) (iP (K:=K) rfl rfl (bW (bI 4 yI.nd) (bW (bI 5 yI.nd) (bW (bI 6 yI.nd) (bW (bI 7 yI.nd) iN)))))) (ak (aX (bO cP (pv 5) (dW (v:=.str "said") rfl mP ⟨_,rfl⟩)) (av (aK (cY G4 g QO (pv 0) (aa (dm (bL g) (pv 2) (pv 6) (λ_ _=>rfl)) (aa (pv 7) ag))))) a_) (av (aK (cY G5 g QO (pv 0) (aa (dm (bL g) (pv 2) (pv 6) (λ_ _=>rfl)) (aa (dm (bL g) (pv 2) (pv 7) (λ_ _=>rfl)) (aa (bh wI g (aa (pv 1) (aa (pv 5) ag))) ag)))))))),?_⟩;refine oP ?_;intros;refine eW E.obj λdx ho=>?_;have p1:=ux nd k.ok.one;have n8:=gd.2.2.2.2;have j:c.one<st.hd.length:=by exact len▸k.ok.one
 refine⟨_,rfl,fa,_,rfl,az.of hf,rfl,_,_,rfl,bj ⟨_,_,rfl,bj ⟨_,_,rfl,bj ⟨_,_,rfl,bj ⟨rfl,?_⟩⟩⟩⟩⟩;refine⟨_,rfl,rfl,_,rfl,bY (λT=>?_) (λT=>aZ ?_)⟩
 ·have e:=(Ca _ rfl).mp T;have N:kV (bJ m c)=.int c.aU:=by rw[ji e];rfl
  refine⟨_,rfl,i.J,dx,_,rfl,ho,rfl,_,rfl,_,rfl,u,_,rfl,df J p1,_,rfl,?_⟩;have one:=d.wf.one n8 j;have AQ:=d.wf.CO;refine bo lv λf0 R r=>?_;obtain⟨p,h0⟩:=id R;have mm:c.aU∈(st.cA (st.ae c.one)).map (λz=>(st.bK c.one).getD z.toNat 0):=Yf.mpr ⟨p (st.ae c.one),(h0 c.one j).1,by rw[←r.1 e,(h0 c.one j).2];rfl⟩;refine⟨i,st,l.length,c.one,_,_,_,c.aU,?_,E,one,QO,λ_ y X D A x G=>?_,absurd mm⟩
  ·show[V.ref i.J,V.int (c.one:Int),kV (bJ m c)]=_;rw[N]
  ·have n:c=⟨bb,c.one,c.aU,c.tn⟩:=by rw[←e]
   refine q _ y _ X D (λa ha=>by rw[A] at ha;exact ha) x G ?_ rfl;exact n▸Sn d j mm
 ·have e:=λz=>T ((Ca _ rfl).mpr z);refine c9 (k.ok.ic e) λjs ft tl=>?_;obtain ⟨o0,om⟩:=js;have N:kV (bJ m c)=.str (au m c.aU.toNat):=by rw[jj e];rfl
  have p2:=ux nd om;have hj:c.aU.toNat<st.hd.length:=by rwa[len]
  refine⟨_,rfl,i.J,dx,_,rfl,ho,rfl,_,rfl,_,rfl,u,_,rfl,df J p1,_,rfl,_,rfl,u,.int (c.aU.toNat:Int),rfl,?_,_,rfl,_,rfl,L,c.k,l,ys,c.tn,rfl,la,k.uP e,λt ht=>?_⟩
  ·exact N▸df J p2
  refine⟨i,st,l.length,c.one,c.aU.toNat,c.tn,t,rfl,E,d.wf,d.live,n8,QO,j,hj,ht,ft,tl,λb y aV X D A x G o=>?_⟩;have n:c=⟨c.k,c.one,(c.aU.toNat:Int),c.tn⟩:=by rw[NK o0]
  have W:eB l.length st.hd.length ⟨c.k,c.one,(c.aU.toNat:Int),c.tn⟩:=by rw[←n,len];exact k.ok
  obtain⟨tm,tf⟩:=Zf3 d o e W;have Q:b=af:=by
   cases Q:b with
   |true=>rfl
   |false=>
    refine bo lv λf0 R r=>?_;obtain⟨es,no⟩:=o.no Q;exact absurd (r.2 e) (no f0 R)
  refine q _ y aV X D A x G ?_ o.len;have:=tm Q;rw[←n] at this;exact this
def yJ:aW V3 u7 (aL GJ):=.bp
theorem ZbT(F:aT K "fact_fits" "fact_fits" GJ f fd)(mP:B "SAID"=Z (.str "said" t1))(wI:HasFn P w K B I 2 "tie_turn" z5 (IL CL))(jC:cI P w K B I 2 "open_at" CJ oz (wW CJ))(wx:cI P w K B I 4 "left" CJ m5 (K8 CJ)):aI P w K B I aR 5 f fd u7 (T8 CL CJ):=by
 refine F.o yJ @λbR A outer vs Q E s H k h=>?_;obtain⟨N,st,L,G,fa,u,ys,i,FF,z,c,rfl,ja,b,la,gd,o,nd,len,m4,hf,T,q1,q2⟩:=h;have hu:=k.w_;refine⟨_,(ak (mN (pv 3) (iP (K:=K) (n:=4) rfl rfl (bW (bI 4 yJ.nd) (bW (bI 5 yJ.nd) (bW (bI 6 yJ.nd) (bW (bI 7 yJ.nd) iN)))))) (ak (aX (bO cP (pv 5) (dW (v:=.str "said") rfl mP ⟨_,rfl⟩)) (av (aK (B3 (oI (K:=K) rfl) (pv 7) (cY jC k (by decide) (pv 0) (aa (dm (bL k) (pv 2) (pv 6) (λ_ _=>rfl)) ag)) QU))) a_) (av (aK (fX (Kh (K:=K) rfl (ZiH hu)) (cY wx k (by decide) (pv 0) (aa (dm (bL k) (pv 2) (pv 6) (λ_ _=>rfl)) (aa (dm (bL k) (pv 2) (pv 7) (λ_ _=>rfl)) (aa (bh wI k (aa (pv 1) (aa (pv 5) ag))) ag)))) (dU ag)))))),?_⟩;refine oP ?_;intros;obtain⟨dx,ho⟩:=ja.obj;have p1:=ux nd T.ok.one;have J:u.length<=8:=gd.2.2.2.2;have g:c.one<st.hd.length:=by rw[len];exact T.ok.one
 refine⟨_,rfl,fa,_,rfl,az.of hf,rfl,_,_,rfl,bj ⟨_,_,rfl,bj ⟨_,_,rfl,bj ⟨_,_,rfl,bj ⟨rfl,?_⟩⟩⟩⟩⟩;refine⟨_,rfl,rfl,_,rfl,bY (λcc=>?_) (λcc=>aZ ?_)⟩
 ·have e:c.k=bb:=(Ca _ rfl).mp cc;have W:kV (bJ i c)=.int c.aU:=by rw[ji e];rfl
  have one:=b.wf.one J g;refine⟨_,rfl,_,rfl,N.J,dx,_,rfl,ho,rfl,_,rfl,_,rfl,G,_,rfl,df o p1,N,st,u.length,c.one,_,_,_,rfl,ja,one.hd,one.ld,one.fr,one.gq,one.cM,λp j X np q D so qZ=>⟨p,_,rfl,.inl (aq.of qZ),?_,uk j,?_⟩⟩
  ·show kh (kV (bJ i c))=af;rw[W];rfl
  show Q (.bl (if(bg:cu)=af then !gT (kV (bJ i c)) (j.map V.int) else gT (kV (bJ i c)) (j.map V.int))) X;rw[bF Yl,W,rS];have ec:c=⟨bb,c.one,c.aU,c.tn⟩:=by rw[←e]
  by_cases m:c.aU∈j
  ·rw[d9 m];refine q1 ?_ X q;have YX:=Sn (tn:=c.tn) b g (D.subset m);obtain⟨f,d⟩:=YX.live;obtain⟨_,s⟩:=(YX.iff f).mp d;refine⟨f,((yL b.wf g _ f).mp d).1,?_⟩;rw[ec];exact s _ (Yr _ Yo)
  ·rw[jb m];refine q2 (λf d=>?_) X q;rw[ec];exact Zi4 b g (λz=>m (D.symm.subset z)) f d
 ·have e:c.k≠bb:=λz=>cc ((Ca _ rfl).mpr z);refine c9 (T.ok.ic e) λjs ft tl=>?_;obtain ⟨o0,om⟩:=js;have W:kV (bJ i c)=.str (au i c.aU.toNat):=by rw[jj e];rfl
  have p2:=ux nd om;have R:c.aU.toNat<st.hd.length:=by rw[len];exact om
  have pf:=Kn b.wf J g R;refine⟨_,rfl,N.J,dx,_,rfl,ho,rfl,_,rfl,_,rfl,G,_,rfl,df o p1,_,rfl,_,rfl,G,.int (c.aU.toNat:Int),rfl,?_,_,rfl,_,rfl,L,c.k,u,ys,c.tn,rfl,la,T.uP e,λt ht=>?_⟩
  ·show fJ H G (kV (bJ i c)) _;rw[W];exact df o p2
  refine⟨N,st,u.length,c.one,c.aU.toNat,_,_,_,_,_,_,c.tn,t,rfl,ja,b.wf.one J g,b.wf.one J R,ht,λp o=>by rw[tl];exact T5 b.wf g (x:=p.1) (y:=p.2) o,Yy pf (by decide),λp j X np q qZ D _=>?_⟩;have ms:=Rh D;refine⟨by show 0<=sizeLine;exact Yx _,λe0 H2 n2 g2 vP=>?_⟩;refine⟨p,e0,j.map V.int,rfl,rfl,aq.of (g2 _ _ qZ),aq.of vP,?_⟩;rw[bC rfl];have l:∀f,e_ f c↔f c.aU.toNat=ap c.tn (f c.one):=λf=>⟨λh=>h.2 e,λh=>⟨λz=>absurd z e,λ_=>h⟩⟩;cases j with
  |nil=>
   refine q2 (λf d z=>?_) H2 (q.trans g2);have m:=za b.wf g R d;rw[(l f).mp z] at m;exact absurd ((ms _).mpr m) (λz=>nomatch z)
  |cons a r=>
   refine q1 ?_ H2 (q.trans g2);have m:=(ms a).mp Yo;refine cm (Rg b.wf g R b.live m) λf d e1 e2=>?_;exact⟨f,d,(l f).mpr (by rw[e1,e2])⟩
def BS.keys(b:BS):O (O Key):=b.fs.map λp=>gu b.ps p.2
def BS.told(b:BS)(k:O Key):cu:=(aY (gX b.ps b.fs) k).isSome
structure cE(xs ys:O Int)(b:BS):Prop where
 gd:oi xs ys
 nm:(b.ps.map (·.1)).Nodup
 m:b.ps.length<=64
 fl:b.fs.length<=63
 fg:∀p∈b.fs,fF xs ys b.ps.length p.2
 zs:(b.fs.map (·.1)).Nodup
 lt:∀p∈b.fs,p.1<b.co
 ky:b.keys.Nodup
 pr:((cQ b.ps b.fs).map (·.1)).Nodup
 lv:∃f,kC xs.length b.ps.length f/\∀c∈b.F,e_ f c
 dl:b.dn.length<=200
 ul:b.un.length<=200
structure bT(H H':Hp)(l l':BL):Prop where
 h:l'.h=l.h
 out:Out l.fp H H'
 grow:fM l.fp l'.fp H
def bT.of(g:aj H a):bT H a l l:=⟨rfl,Out.of g,fM.refl _ _⟩
def bT.trans(a:bT H H1 l l1)(b:bT H1 c l1 l2):bT H c l l2:=⟨b.h.trans a.h,JM a.out a.grow b.out,a.grow.trans a.out b.grow⟩
def bT.same(a:bT H H1 l l1)(g:aj H1 b):bT H b l l1:=⟨a.h,a.out.trans (Out.of g),a.grow⟩
def bT.after(g:aj H H1)(a:bT H1 b l l1):bT H b l l1:=⟨a.h,(Out.of g).trans a.out,a.grow.same g⟩
theorem BV[DecidableEq b](a:O (b×V))(k:b):(aY a k).isSome=af↔k∈a.map (·.1):=by
 induction a with
 |nil=>exact⟨(λz=>nomatch z),(λz=>nomatch z)⟩
 |cons p r c=>
  by_cases e:p.1=k
  ·rw[gw e]
   grind
  ·rw[gk e,c]
   grind
theorem qc[DecidableEq b]{k:b}(h:k∉a.map (·.1)):aY a k=aJ:=by
 cases e:aY a k with
 |none=>rfl
 |some v=>exact absurd ((BV a k).mp (by rw[e];rfl)) h
theorem Sq[DecidableEq b]{k:b}(c:(a.map (·.1)).Nodup)(h:(k,v)∈a):aY a k=Z v:=by
 induction a with
 |nil=>cases h
 |cons p r g=>
  obtain⟨e,d⟩:=Y0.mp (show(p.1::r.map (·.1)).Nodup from c);rcases Ym.mp h with h|h;·exact h▸gw rfl
  ·rw[gk (λz=>e (by exact z▸Yf.mpr ⟨_,h,rfl⟩))];exact g d h
def rV(h:i<ps.length):au ps i∈ps.map (·.1):=by
 unfold au
 grind
inductive JN(C CL CJ:U)(d:O V)(H:Hp)(Q:VK)(E:XK):Prop
 |mk (l:BL) (b:BS) (c a:O Int) (h:d=[.ref l.h]) (e:bu H C CL CJ l c a b) (g:Nw H (.lst (b.ps.map λp=>V.str p.1)) Q)
inductive JO(C CL CJ:U)(d:O V)(H:Hp)(Q:VK)(E:XK):Prop
 |mk (l:BL) (b:BS) (c a:O Int) (z:ar) (v:V) (i:d=[.ref l.h,.str z]) (g:bu H C CL CJ l c a b) (h:aY (iI b.ps) (.inr z)=Z v) (e:Q v H)
inductive LA(C CL CJ:U)(g:O V)(H:Hp)(Q:VK)(E:XK):Prop
 |mk (l:BL) (b:BS) (e d:O Int) (k a:ar) (o:Key) (m:g=[.ref l.h,.str k,.str a,kV o]) (i:bu H C CL CJ l e d b) (j:k="sibling"->∃b,o=.inr b) (h:∀c,aj H c->Q (.bl (b.told (keyOf k a o))) c)
inductive Px(C CL CJ:U)(g:O V)(H:Hp)(Q:VK)(E:XK):Prop
 |mk (l:BL) (b:BS) (e d:O Int) (k a:ar) (j:g=[.ref l.h,.str k,.str a]) (i:bu H C CL CJ l e d b) (h:∀c,aj H c->Q ((aY (cQ b.ps b.fs) [.inr k,.inr a]).getD .ay) c)
noncomputable abbrev jQ:O ar:=["mother","father"]
def qC(b:BS)(a:ar):O V:=jQ.filterMap λk=>aY (cQ b.ps b.fs) [.inr k,.inr a]
def Zf6(g:Nat->bS V):((List.range 2).filter λi=>(g i).isSome).map (λi=>(g i).getD .ay)=[g 0,g 1].filterMap id:=by
 show(([0,1]:O Nat).filter _).map _=_
 grind
def Rl(b:BS)(k:O Key):b.told k=af↔k∈b.keys:=by
 unfold BS.told;rw[BV];unfold gX BS.keys
 simp_all
inductive O2(C CL CJ:U)(g:O V)(H:Hp)(Q:VK)(E:XK):Prop
 |mk (l:BL) (b:BS) (e d:O Int) (a:ar) (j:g=[.ref l.h,.str a]) (i:bu H C CL CJ l e d b) (h:∀(p:U) (c:Hp),H p=aJ->aj H c->c p=Z (.lst (qC b a))->Q (.ref p) c)
def dM(H:Hp)(b:bP)(a:U)(p:Nat×Fc):Prop:=H a=Z (.tup ((eF b p.1 p.2).map kV))
inductive T9(C CL CJ:U)(h:O V)(H:Hp)(Q:VK)(E:XK):Prop
 |mk (l:BL) (b:BS) (g e:O Int) (n:h=[.ref l.h]) (m:bu H C CL CJ l g e b) (i:(b.fs.map (·.1)).Nodup) (j:b.fs.length<=63) (k:∀(p:U) (d:O U) (c:O (Nat×Fc)) (a:Hp),H p=aJ->aj H a->c.Perm b.fs->(c.map (·.1)).Pairwise (·<·)->a p=Z (.lst (d.map V.ref))->Paired (dM a b.ps) d c->Q (.ref p) a)
def HY(K:ah):Sp:=λb H Q _=>∃(r:U) (a:O V),b=[.ref r]/\az K H r a/\Q (.bl (decide (a.length=2))) H
theorem Kq:∀{as:O U} {fs:O (Nat×Fc)} {p:Nat×Fc},Paired (dM H ps) as fs->(fs.map (·.1)).Nodup->p∈fs->∃a,aY (bM (fs.map (·.1)) as) (.inl (p.1:Int))=Z (.ref a)/\dM H ps a p:=by
 intro as fs p b;induction b with
 |nil=>grind
 |@cons a q as fs f t i=>
  intro c h;obtain⟨g,d⟩:=Y0.mp (show(q.1::fs.map (·.1)).Nodup from c);have l:bM ((q::fs).map (·.1)) (a::as)=(Sum.inl (q.1:Int),V.ref a)::bM (fs.map (·.1)) as:=rfl;rw[l];rcases Ym.mp h with rfl|h;·exact⟨a,gw rfl,f⟩
  ·refine bo (i d h) λn k j=>?_;refine⟨n,?_,j⟩;rw[gk (λz=>g (by
    have e:=J9 z;have m:q.1=p.1:=(Int.ofNat.inj e)
    exact m▸Yf.mpr ⟨_,h,rfl⟩))]
   exact k
theorem Py:∀{b:O Nat} {as:O U},b.length=as.length->(bM b as).map (·.1)=(b.map λk:Nat=>(k:Int)).map Sum.inl
 |[],[],_=>rfl
 |k::b,a::as,h=>by
  have c:bM (k::b) (a::as)=(Sum.inl (k:Int),V.ref a)::bM b as:=rfl;rw[c,Wj,Py (by simpa using h)];rfl
 |[],_::_,h=>rfl
 |_::_,[],h=>by simp at h
theorem ZdF(t:(fs.map (·.1)).Nodup)(d:c.Perm ((fs.map (·.1)).map λk:Nat=>(k:Int)))(r:c.Pairwise (·<=·)):∃b:O (Nat×Fc),b.Perm fs/\(b.map (·.1)).Pairwise (·<·)/\c=(b.map (·.1)).map λk:Nat=>(k:Int):=by
 have o:∀{c:O Int} {fs:O (Nat×Fc)},c.Perm ((fs.map (·.1)).map λk:Nat=>(k:Int))->∃b:O (Nat×Fc),b.Perm fs/\c=(b.map (·.1)).map λk:Nat=>(k:Int):=by
  intro c;induction c with
  |nil=>
   intro fs d;have:=d.symm.eq_nil;have e:fs=[]:=by simpa using this
   exact⟨[],by rw[e],rfl⟩
  |cons a c u=>
   intro fs d;have s:a∈(fs.map (·.1)).map λk:Nat=>(k:Int):=d.subset Yo;rw[Y6] at s;obtain⟨p,v,rfl⟩:=Yf.mp s;obtain⟨l,j,rfl⟩:=List.append_of_mem v;have m:c.Perm (((l++j).map (·.1)).map λk:Nat=>(k:Int)):=by
    have x:(((l++p::j).map (·.1)).map λk:Nat=>(k:Int)).Perm ((p.1:Int)::((l++j).map (·.1)).map λk:Nat=>(k:Int)):=by
     have:=(List.perm_middle (a:=p) (l₁:=l) (l₂:=j)).map λq:Nat×Fc=>((q.1:Nat):Int);simpa[Y6,Function.comp_def] using this
    exact(d.trans x).cons_inv
   obtain⟨b,i,g⟩:=u m;exact⟨p::b,(i.cons p).trans List.perm_middle.symm,by rw[g];rfl⟩
 obtain⟨b,i,g⟩:=o d;refine⟨b,i,?_,g⟩;have n:=(i.map _).nodup_iff.mpr t;rw[g,Ws] at r;exact(r.and n).imp λh=>by
  omega
def ZaA:aW gI gI (aL Fv):=.bp
def ZeL(F:aT K "people" "Hearth.people" Fv f fd)(a:fE K C)(k:Bl B):aI P w K B I aR 1 f fd gI (JN C CL CJ):=by
 refine F.o ZaA λs H r h=>?_;obtain⟨l,b,o,n,rfl,c,q⟩:=h;refine⟨_,(av (aK (fC (Zcr rfl) rfl k.uA uq (aa (pF K 0) ag)))),?_⟩;obtain⟨j,i⟩:=c.obj;refine⟨_,rfl,l.h,C,j,_,_,rfl,i,a.cls,a.uw,rfl,l.sd,_,rfl,c.dD,λp m d g e=>q p m d g ?_⟩;rw[e,Y6];rfl
noncomputable abbrev kO:O ar:=["self","name"]
def Zap:aW kO kO (aL Fi):=.bp
def ZdG(F:aT K "side_of" "Hearth.side_of" Fi f fd)(a:fE K C)(m:Bl B):aI P w K B I aR 1 f fd kO (JO C CL CJ):=by
 refine F.o Zap λs H d h=>?_;obtain⟨l,b,k,j,z,v,rfl,c,g,q⟩:=h;refine⟨_,(ak (aX (lJ (oS (bL d) (pv 1) (pF K 0)) QU) ir a_) (av (aK (dm (bL d) (pF K 0) (pv 1) (λ_ _=>rfl))))),?_⟩;refine eW c.obj λi e=>?_;exact⟨_,rfl,_,rfl,l.h,C,i,_,_,rfl,e,a.cls,a.uw,rfl,l.sd,Z v,rfl,df c.dD g,_,rfl,bV (aZ ⟨_,rfl,l.h,C,i,_,_,rfl,e,a.cls,a.uw,rfl,_,rfl,l.sd,v,rfl,df c.dD g,q⟩)⟩
def ZbU:aW kA kA (aL GN):=.bp
def ZbV(F:aT K "is_person" "is_person" GN f fd)(c:Bl B):aI P w K B I aR 1 f fd kA (HY K):=by
 refine F.o ZbU λs H d h=>?_;refine gR h λr a g b q=>?_;subst g;refine⟨_,(av (aK (fX cP (dv K c (pv 0)) aP))),?_⟩;refine⟨_,rfl,r,a,rfl,.inr b,rfl,?_⟩;have e:decide (V.int (a.length:Int)=V.int 2)=decide (a.length=2):=by
  rw[Wn,jV,jV];exact⟨λz=>by have:=V.int.inj z;exact Int.ofNat.inj this,λz=>by rw[z];rfl⟩
 rw[←e] at q;exact q
noncomputable abbrev qN:O ar:=["self","kind","one","other"]
def Zbo:aW qN qN (aL Gr):=.bp
def Zi5(F:aT K "has" "Hearth.has" Gr f fd)(e:fE K C)(i:HasFn P w K B I 1 "fact_key" xG CP):aI P w K B I aR 2 f fd qN (LA C CL CJ):=by
 refine F.o Zbo λs H d h=>?_;obtain⟨l,b,v,u,k,a,o,rfl,g,j,q⟩:=h;refine⟨_,(av (aK (ZhR (Co (bL d) (bh i d (aa (pv 1) (aa (pv 2) (aa (pv 3) ag)))) (pF K 0)) QU))),?_⟩;refine⟨_,rfl,_,rfl,_,rfl,k,a,o,rfl,j,λp t x c m=>?_⟩;obtain⟨r,n⟩:=g.obj;refine⟨_,rfl,l.h,C,r,_,_,rfl,c _ _ n,e.cls,e.B_,rfl,l.kn,_,rfl,fJ.t (c _ _ g.known) m,?_⟩;exact q t c
noncomputable abbrev Dd:O ar:=["self","kind","name"]
def Zag:aW Dd Dd (aL E7):=.bp
def ZbW(F:aT K "parent_of" "Hearth.parent_of" E7 f fd)(d:fE K C):aI P w K B I aR 1 f fd Dd (Px C CL CJ):=by
 refine F.o Zag λs H g h=>?_;obtain⟨l,b,r,o,k,a,rfl,c,q⟩:=h;refine⟨_,(av (aK (Zfq (bL g) (pF K 0) (du (aa (pv 1) (aa (pv 2) ag))) ⟨rfl,rfl,rfl,rfl⟩))),?_⟩;obtain⟨m,j⟩:=c.obj;refine⟨_,rfl,l.h,C,m,_,_,rfl,j,d.cls,d.wO,rfl,l.pr,rfl,.inr ⟨_,.inl c.parents⟩,_,rfl,_,rfl,by show 2<=sizeLine;decide,λp n t e i=>?_⟩;exact⟨_,fJ.t (k:=[.inr k,.inr a]) (e _ _ c.parents) i,q n e⟩
def Zad:aW kO kO (aL E5):=.bp
theorem Zbp(F:aT K "parents_of" "Hearth.parents_of" E5 f fd)(j:fE K C)(N:B "PARENTS"=Z (.ref o))(t:∀H,az K H o (jQ.map V.str)):aI P w K B I aR 1 f fd kO (O2 C CL CJ):=by
 refine F.o Zad λs H y h=>?_;obtain⟨l,b,xs,ys,a,rfl,r,q⟩:=h;refine⟨_,(av (aK (jG (x:="kind") (fr:=[("self",0),("name",1)]) (cl:=[("self",s.heap.objs.size+1),("name",s.heap.objs.size+1+1)]) rfl (.ia ⟨rfl,⟨rfl,trivial⟩⟩ ⟨⟨rfl,.inl rfl,.inl rfl,rfl⟩,⟨⟨rfl,.inl rfl,.inl rfl,rfl⟩,trivial⟩⟩) (KC (dW (v:=.ref o) rfl N rfl)) (λ_ _ _ _=>zc (lJ (Co (bL y) (du (aa (pv 0) (aa (pv 2) ag))) (uv (K:=K) rfl (pv 1) rfl)) QU)) (λ_ _ _ _=>(dm (bL y) (uv (K:=K) rfl (pv 1) rfl) (du (aa (pv 0) (aa (pv 2) ag))) (λ_ _=>rfl)))))),?_⟩;obtain⟨J,E⟩:=r.obj;let val:Nat->bS V:=λi=>aY (cQ b.ps b.fs) [.inr (jQ.getD i ""),.inr a];refine⟨o,rfl,⟨_,t _⟩,λD A=>Zer (t _) QD A (λi=>(val i).isSome) (λi=>(val i).getD .ay) (λi v c L g _ Kt Kf m n=>?_) λL g R=>q D L A g ?_⟩
 ·obtain⟨k,rfl,W⟩:∃k:ar,v=.str k/\jQ.getD i ""=k:=by
   match i,c with
   |0,c=>exact⟨"mother",(Yp c).symm,rfl⟩
   |1,c=>exact⟨"father",(Yp c).symm,rfl⟩
   |i+2,c=>simp at c
  have T:val i=aY (cQ b.ps b.fs) [.inr k,.inr a]:=by show aY (cQ b.ps b.fs) [.inr (jQ.getD i ""),.inr a]=_;rw[W]
  refine⟨_,rfl,_,rfl,by show 2<=sizeLine;decide,λp H2 np d Q=>?_⟩;refine⟨_,rfl,l.h,C,J,_,_,rfl,d _ _ (g _ _ E),j.cls,j.wO,rfl,l.pr,_,rfl,fJ.t (k:=[.inr k,.inr a]) (d _ _ (g _ _ r.parents)) Q,_,rfl,?_⟩;rw[T] at m n;cases e:aY (cQ b.ps b.fs) [.inr k,.inr a] with
  |none=>
   rw[e] at n;exact bV (n H2 rfl d)
  |some u=>
   rw[e] at m;refine c6 ?_;refine⟨_,rfl,l.h,C,J,_,_,rfl,d _ _ (g _ _ E),j.cls,j.wO,rfl,_,rfl,_,rfl,by show 2<=sizeLine;decide,λp3 X NR G Ei=>?_⟩;refine⟨l.pr,u,rfl,?_,m u X rfl (d.trans G) rfl⟩;have z:=fJ.t (k:=[.inr k,.inr a]) (G _ _ (d _ _ (g _ _ r.parents))) Ei;rw[e] at z;exact z
 ·rw[R];have e:((List.range (jQ.map V.str).length).filter λi=>(val i).isSome).map (λi=>(val i).getD .ay)=qC b a:=by
   exact Zf6 val
  rw[e]
def Za3:aW gI gI (aL F8):=.bp
theorem Zhn(F:aT K "kept" "Hearth.kept" F8 f fd)(u:fE K C)(bl:Bl B):aI P w K B I aR 1 f fd gI (T9 C CL CJ):=by
 refine F.o Za3 λs H hr h=>?_;obtain⟨l,b,xs,t,rfl,r,X,fl,q⟩:=h;refine⟨_,(av (aK (jG (x:="number") (fr:=[("self",0)]) (cl:=[("self",s.heap.objs.size+1)]) rfl (.ia ⟨rfl,trivial⟩ ⟨⟨rfl,.inl rfl,.inl rfl,rfl⟩,trivial⟩) (fD (K:=K) rfl (iu (Zbg rfl) rfl bl.BO BA (aa (pF K 0) ag))) (λ_ _ _ _=>lH) (λ_ _ _ _=>(dm (bL hr) (uv (K:=K) rfl (pv 1) rfl) (pv 0) (λ_ _=>rfl)))))),?_⟩;refine eW r.obj λdx h1=>?_;have al:(b.fs.map (·.1)).length=l.cB.length:=by rw[Ya];exact(c7 r.fact).symm
 refine⟨_,rfl,l.h,C,dx,_,_,rfl,h1,u.cls,u.rT,rfl,l.fc,_,(b.fs.map (·.1)).map (λk:Nat=>(k:Int)),rfl,r.facts,Py al,by rw[Ya,Ya];exact Nat.lt_succ_of_le fl,λns pm so p H1 np A hp=>?_⟩;refine cm (ZdF X pm so) λdQ L q2 q3=>?_;have jZ:dQ.length<=63:=by rw[L.length_eq];exact fl
 subst q3;have nl:(((dQ.map (·.1)).map λk:Nat=>(k:Int)).map V.int).length=dQ.length:=by rw[Ya,Ya,Ya]
 refine⟨p,rfl,⟨_,aq.of hp⟩,λD R=>?_⟩;refine yS (aq.of hp) (Nat.le_trans (Nat.le_of_eq nl) (Nat.le_trans jZ (by decide))) R (λ_=>af) (λi y m=>∃a c,dQ[i]?=Z c/\y=.ref a/\dM m b.ps a c/\dM H b.ps a c) (λi y m H3 br ⟨a,c,o,n,e3,G⟩=>⟨a,c,o,n,br _ _ e3 (λz=>by
   have:=A _ _ G;rw[z,R] at this;cases this),G⟩) (λi v d m T _ Kt Kf kt _=>kL (c6 ?_)) λfW m T h2 c=>?_
 ·rw[Ye,Ye,Ye] at d;cases E:dQ[i]? with
  |none=>rw[E] at d;cases d
  |some N=>
   rw[E] at d;obtain rfl:V.int (N.1:Int)=v:=Yp d;refine bo (Kq r.fact X (L.subset (Yg E))) λa o n=>?_;have J:=A.trans T;refine⟨_,rfl,l.h,C,dx,_,_,rfl,J _ _ h1,u.cls,u.rT,rfl,_,rfl,l.fc,.ref a,rfl,qB (J _ _ r.facts) o,kt _ m rfl (aj.refl _) ⟨a,N,E,rfl,J _ _ n,n⟩⟩
 ·rw[yR,nl] at c;obtain⟨j,ea,pa⟩:∃j:O U,fW=j.map V.ref/\Paired (dM m b.ps) j dQ:=by
   have W:∀{t:O V} {Q:O Nat} {gs:O (Nat×Fc)},Paired (λy i=>∃a c,dQ[i]?=Z c/\y=.ref a/\dM m b.ps a c/\dM H b.ps a c) t Q->Q.map (λi=>dQ[i]?)=gs.map Z->∃j:O U,t=j.map V.ref/\Paired (dM m b.ps) j gs:=by
    intro t Q gs c;induction c generalizing gs with
    |nil=>
     intro e;cases gs with
     |nil=>exact⟨[],rfl,.nil⟩
     |cons _ _=>cases e
    |cons f _ ih=>
     intro e;cases gs with
     |nil=>cases e
     |cons g gs=>
      refine dE f λa N o n e3 _=>?_;injection e with G e5;refine bo (ih e5) λj r1 r2=>?_;exact⟨a::j,by rw[n,r1];rfl,.cons (by rwa[←Yp (o.symm.trans G)]) r2⟩
   refine W c (Wt λi=>?_);rw[Ye,Ye];by_cases d:i<dQ.length;·rw[Ja d,Yb d];exact eL Z (Yb d)
   ·rw[Y4 (by rw[Wu];exact Nat.le_of_not_lt d),Y4 (Nat.le_of_not_lt d)];rfl
  subst ea;exact q D j dQ m (A.free R) (A.trans T) L q2 h2 pa
def Cb(h:i<a.length):au (a++[x]) i=au a i:=by
 unfold au
 grind
def JP(b:eB n a.length c):bJ (a++[x]) c=bJ a c:=by
 unfold bJ;by_cases e:c.k=bb;·grind
 ·rw[bF e,bF e,Cb (b.ic e).1.2]
def Zho(b:eB n a.length c):eF (a++[x]) z c=eF a z c:=by
 unfold eF;rw[JP b,Cb b.one]
def Sr(b:eB n a.length c):gu (a++[x]) c=gu a c:=by
 unfold gu;rw[JP b,Cb b.one]
def Zhp(b:∀p∈fs,eB n a.length p.2):gX (a++[x]) fs=gX a fs:=by
 exact Jb λp c=>by rw[Sr (b p c)]
def Ss(b:∀p∈fs,eB n a.length p.2):cQ (a++[x]) fs=cQ a fs:=by
 exact Jb λp c=>by
  have o:=b p (Y5.mp c).1;rw[JP o,Cb o.one]
def Zhq(a:bP)(n s:ar):iI (a++[(n,s)])=iI a++[(.inr n,.str s)]:=Yn
def Zhr(a:bP)(x:ar×ar):jY (a++[x])=jY a++[(.inr x.1,.int (a.length:Int))]:=by
 unfold jY
 grind
def Zf7(a:bP)(b:O (Nat×Fc))(z:Nat)(c:Fc):gX a (b++[(z,c)])=gX a b++[(gu a c,.int (z:Int))]:=Yn
def Rm(h:cZ c.k=af):cQ a (fs++[(z,c)])=cQ a fs++[([.inr c.k,.inr (au a c.one)],kV (bJ a c))]:=by
 unfold cQ
 simp_all
def Rn(h:cZ c.k=bg):cQ a (fs++[(z,c)])=cQ a fs:=by
 unfold cQ
 simp_all
def Cc(k:ar):gT (.str k) (jQ.map V.str)=cZ k:=by
 show((("mother":ar)==k)||((("father":ar)==k)||bg))=(decide (k="mother")||decide (k="father"))
 grind
theorem O3{c e d:Type}[DecidableEq e][DecidableEq d]{f:c->e}{g:c->d}:∀{b:O c} {x:c},(b.map f).Nodup->(b.map g).Nodup->x∈b->b.filter (λy=>decide (f y≠f x))=b.filter (λy=>decide (g y≠g x)):=by
 intro b x l k j;have inj:∀{i:Type} {h:c->i},(b.map h).Nodup->∀y∈b,h y=h x->y=x:=by
  induction b with
  |nil=>cases j
  |cons a r m=>grind
 refine Xp λy n=>?_
 grind
def Zf8(b:(fs.map (·.1)).Nodup)(d:(fs.map λp=>gu a p.2).Nodup)(m:(z,c)∈fs):iX (gX a fs) (gu a c)=gX a (dt z fs):=by
 unfold gX iX dt;rw[Ej];exact eL _ (O3 d b m)
def Zf9(d:(fs.map (·.1)).Nodup)(b:((cQ a fs).map (·.1)).Nodup)(m:(z,c)∈fs)(h:cZ c.k=af):iX (cQ a fs) [.inr c.k,.inr (au a c.one)]=cQ a (dt z fs):=by
 unfold cQ at b⊢;rw[Y6] at b;unfold iX dt;rw[Ej,Js];have e:=O3 b (d.sublist (List.filter_sublist.map _)) (Y5.mpr ⟨m,h⟩);rw[Js,Js] at e;rw[Js];exact eL _ (e.trans (eL (fs.filter ·) (funext λp=>Bool.and_comm _ _)))
theorem ZeM(d:(fs.map (·.1)).Nodup)(m:(z,c)∈fs)(h:cZ c.k=bg):cQ g fs=cQ g (dt z fs):=by
 unfold cQ dt;rw[Js];refine eL _ (Xp λp i=>?_);by_cases e:p.1=z
 ·have:p=(z,c):=by
   have b:∀{fs:O (Nat×Fc)},(fs.map (·.1)).Nodup->p∈fs->(z,c)∈fs->p=(z,c):=by
    induction fs with
    |nil=>grind
    |cons a r j=>grind
   exact b d i m
  simp_all
 ·simp_all
inductive Move(a d:O Int)(H:Hp)(r:U)(b:BS):Int->BS->Prop
 |pin (n s:ar) (g:H r=Z (.tup [.str n,.str s])) (new:n∉b.ps.map (·.1)) (e:b.ps.length<64):Move a d H r b 1 {b with ps:=b.ps++[(n,s)]}
 |fin (z:Nat) (c:Fc) (g:dM H b.ps r (z,c)) (o:fF a d b.ps.length c) (i:z∉b.fs.map (·.1)) (k:gu b.ps c∉b.keys) (j:cZ c.k=af->[.inr c.k,.inr (au b.ps c.one)]∉(cQ b.ps b.fs).map (·.1)) (l:∃f,kC a.length b.ps.length f/\∀h∈b.F++[c],e_ f h) (e:b.fs.length<63):Move a d H r b 1 {b with fs:=b.fs++[(z,c)]}
 |u9 (z:Nat) (c:Fc) (g:dM H b.ps r (z,c)) (m:(z,c)∈b.fs):Move a d H r b (-1) {b with fs:=dt z b.fs}
theorem Move.out{w:Int}(m:Move xs e H r b w b')(k:∀d,H r=Z (.tup d)->j r=Z (.tup d)):Move xs e j r b w b':=by
 cases m with
 |pin n s a new lim=>exact .pin n s (k _ a) new lim
 |fin z c a i g h np lv lim=>exact .fin z c (k _ a) i g h np lv lim
 |u9 z c a m=>exact .u9 z c (k _ a) m
theorem Move.ZjU{w:Int}(m:Move xs g H r b w k)(e d:O xF):Move xs g H r {b with dn:=e,un:=d} w {k with dn:=e,un:=d}:=by
 cases m with
 |pin n s a new lim=>exact .pin n s a new lim
 |fin z c a j h i np lv lim=>exact .fin z c a j h i np lv lim
 |u9 z c a m=>exact .u9 z c a m
inductive Su(C CL CJ:U)(e:O V)(H:Hp)(Q:VK):Prop
 |mk (l:BL) (b:BS) (h g:O Int) (d:U) (z:Nat) (c:Fc) (p:e=[.ref l.h,.ref d]) (o:bu H C CL CJ l h g b) (m:dM H b.ps d (z,c)) (i:z∉b.fs.map (·.1)) (k:gu b.ps c∉b.keys) (j:cZ c.k=af->[.inr c.k,.inr (au b.ps c.one)]∉(cQ b.ps b.fs).map (·.1)) (n:b.fs.length<=63)
   (q:∀a,Out [l.fc,l.kn,l.pr] H a->a l.fc=Z (.dK (bM ((b.fs++[(z,c)]).map (·.1)) (l.cB++[d])))->a l.kn=Z (.dT (gX b.ps (b.fs++[(z,c)])))->a l.pr=Z (.dT (cQ b.ps (b.fs++[(z,c)])))->Q .ay a):Su C CL CJ e H Q
def T_(C CL CJ:U):Sp:=λa H Q _=>Su C CL CJ a H Q
inductive Sv(C CL CJ:U)(h:O V)(H:Hp)(Q:VK)(E:XK):Prop
 |mk (l:BL) (b g:BS) (c a:O Int) (r:U) (j:h=[.ref l.h,.ref r]) (i:bu H C CL CJ l c a b) (ok:cE c a b) (mv:Move c a H r b 1 g) (q:∀(e:BL) (d:Hp),bT H d l e->bu d C CL CJ e c a g->Q .ay d)
inductive Qm(C CL CJ:U)(h:O V)(H:Hp)(Q:VK)(E:XK):Prop
 |mk (l:BL) (b g:BS) (c a:O Int) (r:U) (j:h=[.ref l.h,.ref r]) (i:bu H C CL CJ l c a b) (ok:cE c a b) (mv:Move c a H r b (-1) g) (q:∀(e:BL) (d:Hp),bT H d l e->bu d C CL CJ e c a g->Q .ay d)
inductive Kr(C CL CJ:U)(i:O V)(H:Hp)(Q:VK)(E:XK):Prop
 |mk (l:BL) (b h:BS) (c a:O Int) (r:U) (w:Int) (g:Nat) (k:i=[.ref l.h,.int w,.ref r,.int (g:Int)]) (j:bu H C CL CJ l c a b) (ok:cE c a b) (mv:Move c a H r b w h) (q:∀(e:BL) (d:Hp),bT H d l e->bu d C CL CJ e c a {h with co:=g}->Q .ay d)
inductive BW(C CL CJ:U)(j:O V)(H:Hp)(Q:VK)(E:XK):Prop
 |mk (l:BL) (b i:BS) (d c:O Int) (r:U) (w:Int) (e:Nat) (a:O Key) (n:j=[.ref l.h,.int w,.ref r,.int (e:Int)]) (m:bu H C CL CJ l d c b) (ok:cE d c b) (dl:b.dn.length<200) (k:H r=Z (.tup (a.map kV))) (mv:Move d c H r b w i) (q:∀(h:BL) (g:Hp),bT H g l h->bu g C CL CJ h d c {i with co:=e,dn:=b.dn++[⟨w,a,b.co,e⟩],un:=[]}->Q .ay g)
def Sw{c:Fc}(e:c.k="sibling"):∃b,bJ a c=.inr b:=⟨_,jj (by rw[e];decide+kernel)⟩
noncomputable abbrev u_:O ar:=["self","fact"]
noncomputable abbrev V4:O ar:=["self","fact","number","kind","one","other"]
def yA:aW V4 u_ (aL E8):=.bp
theorem Zhs(F:aT K "note_fact" "Hearth.note_fact" E8 f fd)(g:fE K C)(ka:B "PARENTS"=Z (.ref E))(qP:∀H,az K H E (jQ.map V.str))(qi:HasFn P w K B I 1 "fact_key" xG CP):aI P w K B I aR 2 f fd u_ (T_ C CL CJ):=by
 refine F.o yA λs H k h=>?_;obtain⟨l,b,xs,ys,D,z,c,rfl,d,hf,nz,nk,np,fl,q⟩:=h;refine⟨_,(ak (mN (pv 1) (iP (K:=K) (n:=4) rfl rfl (bW (bI 2 yA.nd) (bW (bI 3 yA.nd) (bW (bI 4 yA.nd) (bW (bI 5 yA.nd) iN)))))) (ak (oU (bL k) (pF K 0) (pv 2) (pv 1)) (ak (P9 (bL k) (pF K 0) (bh qi k (aa (pv 3) (aa (pv 4) (aa (pv 5) ag)))) (pv 2)) (av (aX (gm (oI (K:=K) rfl) (pv 3) (dW (v:=.ref E) rfl ka rfl) QU) (av (P9 (bL k) (pF K 0) (du (aa (pv 3) (aa (pv 4) ag))) (pv 5))) a_))))),?_⟩;refine pz ?_;intros;obtain⟨G,i⟩:=d.obj;have sz:(10000:Nat)<=sizeLine:=by rw[d6];decide
 have al:(b.fs.map (·.1)).length=l.cB.length:=by rw[Ya];exact(c7 d.fact).symm
 have Ek:l.h≠l.fc:=eY i d.facts (λz=>by cases z);have x:l.h≠l.kn:=eY i d.known (λz=>by cases z);have X:l.kn≠l.fc:=eY d.known d.facts (λz=>by cases z);have N:l.pr≠l.fc:=eY d.parents d.facts (λz=>by cases z);have W:l.pr≠l.kn:=λe=>by
  have:=d.nd;unfold BL.own at this;simp[e] at this
 refine⟨_,rfl,D,_,rfl,az.of hf,rfl,_,_,rfl,bj ⟨_,_,rfl,bj ⟨_,_,rfl,bj ⟨_,_,rfl,bj ⟨rfl,?_⟩⟩⟩⟩⟩;refine⟨_,rfl,_,rfl,l.h,C,G,_,_,rfl,i,g.cls,g.rT,rfl,_,rfl,l.fc,_,.inl (z:Int),rfl,d.facts,rfl,by unfold bM;rw[Ya,Jc,Ya];exact Nat.lt_of_le_of_lt (Nat.min_le_left _ _) (Nat.lt_of_le_of_lt fl (by decide)),λH1 L R=>?_⟩;have vz:aY (bM (b.fs.map (·.1)) l.cB) (.inl (z:Int))=aJ:=y8 nz;rw[lF _ vz,yV z D al] at R;refine⟨_,rfl,_,rfl,l.h,C,G,_,_,rfl,L _ _ i Ek,g.cls,g.B_,rfl,_,rfl,_,rfl,_,rfl,c.k,au b.ps c.one,bJ b.ps c,rfl,λe=>Sw e,λp H2 q_ A eO=>?_⟩;refine⟨l.kn,p,_,gu b.ps c,rfl,A _ _ (L _ _ d.known X),rfl,eO,by unfold gX;rw[Ya];exact Nat.lt_of_le_of_lt fl (by decide),λu T j=>?_⟩;have vk:aY (gX b.ps b.fs) (gu b.ps c)=aJ:=qc (by
  have:(gX b.ps b.fs).map (·.1)=b.keys:=by unfold gX BS.keys;rw[Y6];rfl
  rw[this];exact nk)
 rw[lF _ vk] at j
 replace j:u l.kn=Z (.dT (gX b.ps (b.fs++[(z,c)]))):=by rw[Zf7];exact j
 have y:∀{a:U} {o:HO},H a=Z o->a≠l.fc->a≠l.kn->u a=Z o:=λ{a o} e n1 n2=>T _ _ (A _ _ (L _ _ e n1)) n2;have Q:u l.fc=Z (.dK (bM ((b.fs++[(z,c)]).map (·.1)) (l.cB++[D]))):=by
  have:=T _ _ (A _ _ R) (λz=>X z.symm);rw[this,Yn];rfl
 have AR:=y d.parents N W;refine⟨_,rfl,E,_,rfl,.inr (qP _),rfl,rfl,_,rfl,?_⟩;dsimp only;rw[bF Yl,show gT (kV (Sum.inr c.k)) (jQ.map V.str)=cZ c.k from Cc c.k];refine bY (λt=>?_) (λt=>aZ ?_)
 ·refine⟨_,rfl,_,rfl,l.h,C,G,_,_,rfl,y i Ek x,g.cls,g.wO,rfl,_,rfl,_,rfl,by show 2<=sizeLine;decide,λp4 H4 np4 m NS=>?_⟩;refine⟨l.pr,p4,_,[.inr c.k,.inr (au b.ps c.one)],rfl,m _ _ AR,rfl,NS,?_,λH5 J r=>?_⟩
  ·unfold cQ;rw[Ya];have:=Wl (λp:Nat×Fc=>cZ p.2.k) b.fs;exact Nat.lt_of_le_of_lt this (Nat.lt_of_le_of_lt fl (by decide))
  have vp:aY (cQ b.ps b.fs) [.inr c.k,.inr (au b.ps c.one)]=aJ:=qc (np t);rw[lF _ vp] at r
  replace r:H5 l.pr=Z (.dT (cQ b.ps (b.fs++[(z,c)]))):=by rw[Rm t];exact r
  refine q H5 (λa o e n=>?_) (J _ _ (m _ _ Q) (λz=>N z.symm)) (J _ _ (m _ _ j) (λz=>W z.symm)) r;simp only[Ym,Y2,i1,k8] at n;exact J _ _ (m _ _ (y e n.1 n.2.1)) n.2.2
 ·have ef:cZ c.k=bg:=by
   cases e:cZ c.k with
   |true=>exact absurd e t
   |false=>rfl
  refine q u (λa o e n=>?_) Q j (by rw[Rn ef];exact AR)
  grind
theorem Ua{l:BL}{H g:Hp}{c d:JL}(i:l.fN=c.fp)(o:Out l.own H g)(h:fM c.fp d.fp g):fM l.fp ({l with fN:=d.fp}:BL).fp H:=λa z=>by
 rcases Yv.mp (z) with q|q;·exact .inl (Yt _ q)
 ·rcases h a q with m|m;·exact .inl (Yr _ (by rwa[i]))
  ·by_cases b:a∈l.own;·exact .inl (Yt _ b)
   ·right
    cases e:H a with
    |none=>rfl
    |some u=>rw[o _ _ e b] at m;cases m
def U7{l:BL}{b:JL}(d:l.fN=b.fp)(o:Out l.own H H1)(c:Out b.fp H1 H2):Out l.fp H H2:=λa u e n=>c _ _ (o _ _ e λz=>n (Yt _ z)) λz=>n (Yr _ (by rwa[d]))
def rW{l:BL}(o:Out l.own H H1):Out l.fp H H1:=λa u e n=>o _ _ e λz=>n (Yt _ z)
noncomputable abbrev xH:O ar:=["self","row"]
def Fo:aW ["self","row","name","side"] xH (aL Fw):=.bp
theorem ZeN(F:aT K "put_in" "Hearth.put_in" Fw f fd)(i:fE K C)(wA:HasFn P w K B I 1 "is_person" kA (HY K))(wB:cI P w K B I 2 "add" CJ gI (Ly CJ))(E_:cI P w K B I 2 "note_fact" C u_ (T_ C CL CJ))(wC:HasFn P w K B I 6 "keep_fact" u7 (Kp CL CJ))(bl:Bl B):aI P w K B I aR 8 f fd xH (Sv C CL CJ):=by
 refine F.o Fo @λbR A outer vs Q E s H hr h=>?_;obtain⟨l,b,b',N,ys,r,rfl,d,ok,mv,q⟩:=h;refine⟨_,(av (aX (d5 (bh wA hr (aa (pv 1) ag))) (ak (mN (pv 1) (iP (K:=K) (n:=2) rfl rfl (bW (bI 2 Fo.nd) (bW (bI 3 Fo.nd) iN)))) (ak (oU (bL hr) (pF K 0) (pv 2) (iu (Zdi) rfl bl.CG Ck (aa (pF K 0) ag))) (ak (oU (bL hr) (pF K 0) (pv 2) (pv 3)) (av (aX (bO B0 (pF K 0) lI) (av (cz (qA wB hr (by decide) (pF K 0)))) a_))))) (ak (cz (cY E_ hr (by decide) (pv 0) (aa (pv 1) ag))) (av (aX (bO B0 (pF K 0) lI) (av (cz (bh wC hr (aa (pF K 0) (aa (pF K 0) (aa (pF K 0) (aa (pv 1) ag))))))) a_))))),?_⟩;refine eW d.obj λD h1=>?_;have sz:(10000:Nat)<=sizeLine:=by rw[d6];decide
 have nd:=d.nd;unfold BL.own at nd;have Y_:=nd;simp only[Y0,Ym,Y2,i1,k8] at Y_;refine eJ Y_ λjs gV gU _=>?_;obtain ⟨ny,cJ,jA,nA,pR,mj,oO⟩:=js;obtain ⟨yf,sX,sY,sZ,s_,tD⟩:=gV;obtain ⟨rh,tE,tF,tG,tH⟩:=gU;have va:∀p∈b.fs,eB N.length b.ps.length p.2:=λp hp=>(ok.fg p hp).ok;cases mv with
 |pin n s hR new lim=>
  refine⟨_,rfl,r,_,rfl,az.of hR,_,rfl,c6 ?_⟩;refine⟨_,rfl,r,_,rfl,az.of hR,rfl,_,_,rfl,bj ⟨_,_,rfl,bj ⟨rfl,?_⟩⟩⟩;have kl:(iI b.ps).length=b.ps.length:=Ya _;have pl':(jY b.ps).length=b.ps.length:=by unfold jY;rw[Ya,List.length_zipIdx]
  refine⟨_,rfl,l.h,C,D,_,_,rfl,h1,i.cls,i.uw,rfl,l.sd,_,rfl,d.dD,_,rfl,l.h,C,D,_,_,rfl,h1,i.cls,i.rN,rfl,_,rfl,l.pl,_,.inr n,rfl,d.places,rfl,(Nat.lt_of_le_of_lt (Nat.le_of_eq pl') (Nat.lt_of_lt_of_le lim (by decide))),λH1 b1 e1=>?_⟩;have ZjV:(jY b.ps).map (·.1)=b.ps.map λp=>(.inr p.1:Key):=by
   unfold jY;rw[Y6];have:(λp:(ar×ar)×Nat=>((.inr p.1.1:Key),V.int (p.2:Int)).1)=(λp:ar×ar=>(.inr p.1:Key))∘Prod.fst:=rfl;show b.ps.zipIdx.map (λp:(ar×ar)×Nat=>((.inr p.1.1:Key),V.int (p.2:Int)).1)=_;rw[this,←Y6,List.zipIdx_map_fst]
  have V5:∀{ks:O Key},ks=(b.ps.map λp=>(.inr p.1:Key))->(.inr n:Key)∉ks:=λ{ks} e z=>by
   rw[e] at z;refine bo (Yf.mp z) λp hp ep=>?_;exact new (Yf.mpr ⟨p,hp,Y9 ep⟩)
  have vp:aY (jY b.ps) (.inr n)=aJ:=qc (V5 ZjV);have vs':aY (iI b.ps) (.inr n)=aJ:=qc (V5 (by show(b.ps.map _).map _=_;rw[Y6];rfl));rw[lF _ vp,kl] at e1;refine⟨_,rfl,_,rfl,l.h,C,D,_,_,rfl,b1 _ _ h1 cJ,i.cls,i.uw,rfl,_,rfl,l.sd,_,.inr n,rfl,b1 _ _ d.dD yf,rfl,(Nat.lt_of_le_of_lt (Nat.le_of_eq kl) (Nat.lt_of_lt_of_le lim (by decide))),λH2 b2 e2=>?_⟩;rw[lF _ vs'] at e2;have j:∀{a:U} {o:HO},H a=Z o->a≠l.pl->a≠l.sd->H2 a=Z o:=λ{a o} e n1 n2=>b2 _ _ (b1 _ _ e n1) n2;have J:Out l.own H H2:=λa u e na=>j e (λz=>na (by rw[z];simp[BL.own])) (λz=>na (by rw[z];simp[BL.own]));have s2:H2 l.sd=Z (.dK (iI (b.ps++[(n,s)]))):=by rw[Zhq];exact e2
  have p2:H2 l.pl=Z (.dK (jY (b.ps++[(n,s)]))):=by rw[Zhr];exact b2 _ _ e1 (λz=>yf z.symm)
  have R:=j h1 cJ ny;have tp:∀{a:U} {G:O V} {H3:Hp},Out l.fp H H3->H a=Z (.tup G)->H3 a=Z (.tup G):=λo e=>o _ _ e (d.tup e);have mk:∀(x:BL) (H3:Hp),x={l with fN:=x.fN}->Out l.fp H H3->fM l.fp x.fp H->(∀a u,H2 a=Z u->a∈l.own->H3 a=Z u)->u6 H3 CJ N.length x {b with ps:=b.ps++[(n,s)]}->Q .ay H3:=λx H3 t o g k rk=>by
   refine q x H3 ⟨by rw[t],o,g⟩ ?_;refine d.build (l':=x) (b':={b with ps:=b.ps++[(n,s)]}) (by rw[t]) (by rw[t]) (by rw[t]) (by rw[t]) (by rw[t]) (by rw[t]) (by rw[t]) (by rw[t]) (by rw[t]) o g ⟨D,?_⟩ (k _ _ s2 (by simp[BL.own])) (k _ _ p2 (by simp[BL.own])) ?_ ?_ ?_ ?_ ?_ ?_ ?_ ?_ rk
   ·have:x.rk=l.rk:=by rw[t]
    rw[this];exact k _ _ R (by simp[BL.own])
   ·have:x.cB=l.cB:=by rw[t]
    rw[this];exact k _ _ (j d.facts (λz=>rh z.symm) (λz=>sX z.symm)) (by simp[BL.own])
   ·have:x.cB=l.cB:=by rw[t]
    rw[this];have aux:∀{as:O U} {fs:O (Nat×Fc)},Paired (λa (p:Nat×Fc)=>H a=Z (.tup ((eF b.ps p.1 p.2).map kV))) as fs->(∀p∈fs,eB N.length b.ps.length p.2)->Paired (λa (p:Nat×Fc)=>H3 a=Z (.tup ((eF (b.ps++[(n,s)]) p.1 p.2).map kV))) as fs:=by
     intro as fs pr;induction pr with
     |nil=>intro _;exact .nil
     |cons f _ ih=>intro m;exact .cons (by rw[Zho (m _ Yo)];exact tp o f) (ih λp hp=>m p (Yw _ hp))
    exact aux d.fact va
   ·show H3 l.kn=Z (.dT (gX (b.ps++[(n,s)]) b.fs));rw[Zhp va];exact k _ _ (j d.known (λz=>tE z.symm) (λz=>sY z.symm)) (by simp[BL.own])
   ·show H3 l.pr=Z (.dT (cQ (b.ps++[(n,s)]) b.fs));rw[Ss va];exact k _ _ (j d.parents (λz=>tF z.symm) (λz=>sZ z.symm)) (by simp[BL.own])
   ·have:x.eX=l.eX:=by rw[t]
    rw[this];exact k _ _ (j d.done (λz=>tG z.symm) (λz=>s_ z.symm)) (by simp[BL.own])
   ·have:x.eX=l.eX:=by rw[t]
    rw[this];exact _L.Paired.bH d.kN λ_ _ e=>e.out o λa G e=>d.tup e
   ·have:x.ig=l.ig:=by rw[t]
    rw[this];exact k _ _ (j d.iR (λz=>tH z.symm) (λz=>tD z.symm)) (by simp[BL.own])
   ·have:x.ig=l.ig:=by rw[t]
    rw[this];exact _L.Paired.bH d.mO λ_ _ e=>e.out o λa G e=>d.tup e
  cases hj:d.uO with
  |no L W=>
   rw[L] at R;refine⟨_,rfl,l.h,C,D,_,_,rfl,R,i.cls,i.jD,rfl,rfl,_,rfl,bV (aZ ?_)⟩;exact mk l H2 rfl (rW J) (fM.refl _ _) (λ_ _ e _=>e) (.no L W)
  |at_ jl st L W ja X len gY=>
   have T:=R;rw[L] at T;have El:=ja.jq J gY (d.La ja X) λa G e z=>d.tup e (Yt _ z);refine eW El.obj λdj ej=>?_;have wf:=X.wf;have ml:=wf.T3;have AQ:=wf.CO;have n8:N.length<=8:=ok.gd.2.2.2.2;refine⟨_,rfl,l.h,C,D,_,_,rfl,T,i.cls,i.jD,rfl,rfl,_,rfl,c6 ?_⟩;refine⟨_,rfl,l.h,C,D,_,_,rfl,T,i.cls,i.jD,rfl,jl.J,dj,_,rfl,ej,rfl,jl,st,N.length,rfl,El,(Nat.le_trans n8 (by decide)),QO,ml,AQ,wf.ll,λz=>We _ (wf.lm _ z),λz=>We _ (wf.lf _ z),λjd H3 k1 o3 gr NT=>?_⟩;refine mk {l with fN:=jd.fp} H3 rfl (U7 W J o3) (Ua W J gr) (λa u e m=>o3 _ _ e (gY a m)) ?_;refine .at_ jd _ (by rw[k1];exact L) rfl NT (X.more (by have:=ok.gd.2.2.2.1;exact Nat.lt_of_lt_of_le (Nat.succ_pos _) this)) ?_ λa m z=>?_;·rw[ke,len,Yj];rfl
   ·rcases gr a z with y|y;·exact gY a m y
    ·have:=d.there (a:=a) (Yt _ m);have:H2 a≠aJ:=by
      have m':a∈l.own:=m;unfold BL.own at m';simp only[Ym,Y2,i1] at m';rcases m' with rfl|rfl|rfl|rfl|rfl|rfl|rfl|rfl;·rw[R];exact λz=>nomatch z
      ·rw[s2];exact λz=>nomatch z
      ·rw[p2];exact λz=>nomatch z
      ·rw[j d.facts (λz=>rh z.symm) (λz=>sX z.symm)];exact λz=>nomatch z
      ·rw[j d.known (λz=>tE z.symm) (λz=>sY z.symm)];exact λz=>nomatch z
      ·rw[j d.parents (λz=>tF z.symm) (λz=>sZ z.symm)];exact λz=>nomatch z
      ·rw[j d.done (λz=>tG z.symm) (λz=>s_ z.symm)];exact λz=>nomatch z
      ·rw[j d.iR (λz=>tH z.symm) (λz=>tD z.symm)];exact λz=>nomatch z
     exact this y
 |fin z c hR fg nz nk np lv lim=>
  refine⟨_,rfl,r,_,rfl,az.of hR,_,rfl,bV ?_⟩;refine⟨_,rfl,l.h,D,_,rfl,h1,rfl,_,rfl,l,b,N,ys,r,z,c,rfl,d,hR,nz,nk,np,(Nat.le_of_lt lim),λH1 o1 f1 k1 p1=>?_⟩;have j:∀{a:U} {o:HO},H a=Z o->a≠l.fc->a≠l.kn->a≠l.pr->H1 a=Z o:=λ{a o} e n1 n2 n3=>o1 _ _ e (by simp[n1,n2,n3]);have J:Out l.own H H1:=λa u e na=>j e (λz=>na (by rw[z];simp[BL.own])) (λz=>na (by rw[z];simp[BL.own])) (λz=>na (by rw[z];simp[BL.own]));have R:=j h1 jA nA pR;have Za:=nd;simp only[Y0,Ym,Y2,i1,k8] at Za;refine uI Za λ_ _ _ hI mR qh _=>?_;obtain ⟨yg,yh,tI,jt⟩:=hI;obtain ⟨AS,vQ,vR⟩:=mR;obtain ⟨vS,vT⟩:=qh;have s2:=j d.dD sX sY sZ;have p2:=j d.places rh tE tF;have d2:=j d.done (λz=>tI z.symm) (λz=>vQ z.symm) (λz=>vS z.symm);have u2:=j d.iR (λz=>jt z.symm) (λz=>vR z.symm) (λz=>vT z.symm);have tp:∀{a:U} {G:O V} {H3:Hp},Out l.fp H H3->H a=Z (.tup G)->H3 a=Z (.tup G):=λo e=>o _ _ e (d.tup e);have mk:∀(jf:O U) (H3:Hp),Out l.fp H H3->fM l.fp ({l with cB:=l.cB++[r],fN:=jf}:BL).fp H->(∀a u,H1 a=Z u->a∈l.own->H3 a=Z u)->u6 H3 CJ N.length {l with cB:=l.cB++[r],fN:=jf} {b with fs:=b.fs++[(z,c)]}->Q .ay H3:=λjf H3 o g k rk=>by
   refine q {l with cB:=l.cB++[r],fN:=jf} H3 ⟨rfl,o,g⟩ ?_;refine d.build (l':={l with cB:=l.cB++[r],fN:=jf}) (b':={b with fs:=b.fs++[(z,c)]}) rfl rfl rfl rfl rfl rfl rfl rfl rfl o g ⟨D,k _ _ R (by simp[BL.own])⟩ (k _ _ s2 (by simp[BL.own])) (k _ _ p2 (by simp[BL.own])) (k _ _ f1 (by simp[BL.own])) ?_ (k _ _ k1 (by simp[BL.own])) (k _ _ p1 (by simp[BL.own])) (k _ _ d2 (by simp[BL.own])) (_L.Paired.bH d.kN λ_ _ e=>e.out o λa G e=>d.tup e) (k _ _ u2 (by simp[BL.own])) (_L.Paired.bH d.mO λ_ _ e=>e.out o λa G e=>d.tup e) rk;exact jh (F:=λa (p:Nat×Fc)=>H3 a=Z (.tup ((eF b.ps p.1 p.2).map kV))) (tp o hR) (_L.Paired.bH d.fact λ_ _ e=>tp o e)
  cases hj:d.uO with
  |no L W=>
   rw[L] at R;refine⟨_,rfl,l.h,C,D,_,_,rfl,R,i.cls,i.jD,rfl,rfl,_,rfl,bV (aZ ?_)⟩;exact mk l.fN H1 (rW J) (fM.refl _ _) (λ_ _ e _=>e) (.no L W)
  |at_ jl st L W ja X len gY=>
   have T:=R;rw[L] at T;have El:=ja.jq J gY (d.La ja X) λa G e z=>d.tup e (Yt _ z);have la2:jH H1 CL l.L N ys:=d.land H1 (rW J);refine⟨_,rfl,l.h,C,D,_,_,rfl,T,i.cls,i.jD,rfl,rfl,_,rfl,c6 ?_⟩;refine⟨_,rfl,l.h,C,D,_,_,rfl,T,i.cls,i.jD,rfl,_,rfl,l.h,C,D,_,_,rfl,T,i.cls,i.uE,rfl,_,rfl,l.h,C,D,_,_,rfl,T,i.cls,i.rN,rfl,_,rfl,jl,st,l.L,l.pl,r,N,ys,b.ps,b.F,z,c,rfl,El,X,la2,ok.gd,p2,ok.nm,len,by have:=ok.m;exact Nat.le_trans this (by decide),tp (rW J) hR,fg,?_,λv jd aV H3 e1 sub o3 NT me3 ZkN=>?_⟩
   ·obtain⟨f0,i0,s0⟩:=lv;exact⟨f0,(X.iff f0).mpr ⟨by rw[len];exact i0,λc' m'=>s0 c' (Yt _ m')⟩,s0 c (Yr _ Yo)⟩
   have gr:fM jl.fp jd.fp H1:=λa z=>.inl (sub a z);refine mk jd.fp H3 (U7 W J o3) (Ua W J gr) (λa u e m=>o3 _ _ e (gY a m)) ?_;refine .at_ jd aV (by rw[e1];exact L) rfl NT ?_ (by rw[ZkN];exact len) λa m z=>gY a m (sub a z);show d_ N.length aV ((b.fs++[(z,c)]).map (·.2));rw[Yn];exact me3
def Ro{l b:BL}(d:b.own=l.own)(c:b.fN=[]):fM l.fp b.fp H:=λa z=>.inl (by
 unfold BL.fp at z;rw[d,c,Wf] at z;exact Yt _ z)
def yB:aW ["self","row","number","kind","one","other"] xH (aL Fe):=.bp
theorem ZcE(F:aT K "take_out" "Hearth.take_out" Fe f fd)(g:fE K C)(ka:B "PARENTS"=Z (.ref eI))(qP:∀H,az K H eI (jQ.map V.str))(wA:HasFn P w K B I 1 "is_person" kA (HY K))(qi:HasFn P w K B I 1 "fact_key" xG CP):aI P w K B I aR 2 f fd xH (Qm C CL CJ):=by
 refine F.o yB @λbR A outer vs Q E s H W h=>?_;obtain⟨l,b,b',xs,ys,r,rfl,d,ok,mv,q⟩:=h;refine⟨_,(ak (aX (d5 (bh wA W (aa (pv 1) ag))) ir (ak (mN (pv 1) (iP (K:=K) (n:=4) rfl rfl (bW (bI 2 yB.nd) (bW (bI 3 yB.nd) (bW (bI 4 yB.nd) (bW (bI 5 yB.nd) iN)))))) (ak (ZfI (pF K 0) (pv 2)) (ak (Q0 (bL W) (pF K 0) (bh qi W (aa (pv 3) (aa (pv 4) (aa (pv 5) ag))))) (av (aX (gm (oI (K:=K) rfl) (pv 3) (dW (v:=.ref eI) rfl ka rfl) QU) (av (Q0 (bL W) (pF K 0) (du (aa (pv 3) (aa (pv 4) ag))))) a_)))))) (av (iO (K:=K) rfl (pv 0) lI))),?_⟩;refine mI ?_;intros;refine eW d.obj λk J=>?_;have sz:(10000:Nat)<=sizeLine:=by rw[d6];decide
 have nd:=d.nd;unfold BL.own at nd;simp only[Y0,Ym,Y2,i1,k8] at nd;refine uI nd λjs gV gU hI mR qh _=>?_;obtain ⟨ny,cJ,G,T,pR,mj,oO⟩:=js;obtain ⟨yf,sX,sY,sZ,s_,tD⟩:=gV;obtain ⟨rh,tE,tF,tG,tH⟩:=gU;obtain ⟨yg,yh,tI,jt⟩:=hI;obtain ⟨AS,vQ,vR⟩:=mR;obtain ⟨vS,vT⟩:=qh;cases mv with
 |u9 z c hR m=>
  have al:(b.fs.map (·.1)).length=l.cB.length:=by rw[Ya];exact(c7 d.fact).symm
  refine bo (Kq (H:=H) (ps:=b.ps) d.fact ok.zs m) λfa Em _=>?_;have ZjW:(gX b.ps b.fs).map (·.1)=b.keys:=by unfold gX BS.keys;rw[Y6];rfl
  refine⟨_,rfl,r,_,rfl,az.of hR,_,rfl,bV ?_⟩;refine⟨_,rfl,r,_,rfl,az.of hR,rfl,_,_,rfl,bj ⟨_,_,rfl,bj ⟨_,_,rfl,bj ⟨_,_,rfl,bj ⟨rfl,?_⟩⟩⟩⟩⟩;refine⟨_,rfl,l.h,C,k,_,_,rfl,J,g.cls,g.rT,rfl,_,rfl,l.fc,_,.inl (z:Int),rfl,d.facts,rfl,by rw[Em];rfl,λH1 b1 e1=>?_⟩;rw[Bu z al,←qr] at e1;refine⟨_,rfl,l.h,C,k,_,_,rfl,b1 _ _ J G,g.cls,g.B_,rfl,_,rfl,_,rfl,_,rfl,c.k,au b.ps c.one,bJ b.ps c,rfl,λe=>Sw e,λp H2 q_ g2 eO=>?_⟩;refine⟨l.kn,p,_,gu b.ps c,rfl,g2 _ _ (b1 _ _ d.known (λz=>yg z.symm)),rfl,eO,(BV _ _).mpr (by rw[ZjW];exact Yf.mpr ⟨_,m,rfl⟩),λH3 b3 e3=>?_⟩;rw[Zf8 ok.zs ok.ky m] at e3;have D:∀{a:U} {o:HO},H a=Z o->a≠l.fc->a≠l.kn->H3 a=Z o:=λ{a o} e n1 n2=>b3 _ _ (g2 _ _ (b1 _ _ e n1)) n2;have ef3:=b3 _ _ (g2 _ _ e1) yg;have AR:=D d.parents (λz=>yh z.symm) (λz=>AS z.symm);have i:∀t,(∀{a:U} {o:HO},H3 a=Z o->a≠l.pr->t a=Z o)->t l.pr=Z (.dT (cQ b.ps (dt z b.fs)))->∀H6,aG l.h t H6->H6 l.h=Z (.ins C k (HF l.L l.sd l.pl l.fc l.kn l.pr (b.co:Int) l.dn l.un .ay))->Q .ay H6:=λt x X H6 j L=>by
   have y:∀{a:U} {o:HO},H a=Z o->a≠l.fc->a≠l.kn->a≠l.pr->a≠l.h->H6 a=Z o:=λ{a o} e n1 n2 n3 n4=>j _ _ (x (D e n1 n2) n3) n4;have o6:Out l.own H H6:=λa u e R=>y e (λz=>R (by rw[z];simp[BL.own])) (λz=>R (by rw[z];simp[BL.own])) (λz=>R (by rw[z];simp[BL.own])) (λz=>R (by rw[z];simp[BL.own]));have of:=rW o6;have tp:∀{a:U} {N:O V},H a=Z (.tup N)->H6 a=Z (.tup N):=λe=>of _ _ e (d.tup e);refine q {l with rk:=.ay,fN:=[],cB:=eV (b.fs.map (·.1)) l.cB z} H6 ⟨rfl,of,Ro rfl rfl⟩ ?_;exact d.build (l':={l with rk:=.ay,fN:=[],cB:=eV (b.fs.map (·.1)) l.cB z}) (b':={b with fs:=dt z b.fs}) rfl rfl rfl rfl rfl rfl rfl rfl rfl of (Ro rfl rfl) ⟨k,L⟩ (y d.dD sX sY sZ (λz=>ny z.symm)) (y d.places rh tE tF (λz=>cJ z.symm)) (j _ _ (x ef3 yh) (λz=>G z.symm)) (HV d.fact λa p e _ _=>tp e) (j _ _ (x e3 AS) (λz=>T z.symm)) (j _ _ X (λz=>pR z.symm)) (y d.done (λz=>tI z.symm) (λz=>vQ z.symm) (λz=>vS z.symm) (λz=>mj z.symm)) (_L.Paired.bH d.kN λ_ _ e=>e.out of λa N e=>d.tup e) (y d.iR (λz=>jt z.symm) (λz=>vR z.symm) (λz=>vT z.symm) (λz=>oO z.symm)) (_L.Paired.bH d.mO λ_ _ e=>e.out of λa N e=>d.tup e) (.no rfl rfl)
  refine⟨_,rfl,eI,_,rfl,.inr (qP _),rfl,rfl,_,rfl,?_⟩;dsimp only;rw[bF Yl,show gT (kV (Sum.inr c.k)) (jQ.map V.str)=cZ c.k from Cc c.k];refine bY (λcc=>?_) (λcc=>aZ ?_)
  ·refine⟨_,rfl,l.h,C,k,_,_,rfl,D J G T,g.cls,g.wO,rfl,_,rfl,_,rfl,by show 2<=sizeLine;decide,λp4 H4 np4 g4 NS=>?_⟩;refine⟨l.pr,p4,_,[.inr c.k,.inr (au b.ps c.one)],rfl,g4 _ _ AR,rfl,NS,(BV _ _).mpr ?_,λt b5 X=>?_⟩
   ·unfold cQ;rw[Y6];exact Yf.mpr ⟨(z,c),Y5.mpr ⟨m,cc⟩,rfl⟩
   rw[Zf9 ok.zs ok.pr m cc] at X;have x:∀{a:U} {o:HO},H3 a=Z o->a≠l.pr->t a=Z o:=λ{a o} e n=>b5 _ _ (g4 _ _ e) n;refine⟨_,rfl,l.h,C,k,_,rfl,x (D J G T) pR,g.cls,g.jD,by show 10<1000;decide,λH6 j L=>?_⟩;exact i t x X H6 j L
  ·have ef:cZ c.k=bg:=by
    cases e:cZ c.k with
    |true=>exact absurd e cc
    |false=>rfl
   refine⟨_,rfl,l.h,C,k,_,rfl,D J G T,g.cls,g.jD,by show 10<1000;decide,λH6 j L=>?_⟩;exact i H3 (λe _=>e) (by rw[←ZeM ok.zs m ef];exact AR) H6 j L
noncomputable abbrev oA:O ar:=["self","way","row","coming"]
def ZaJ:aW oA oA (aL FQ):=.bp
def Zf_(F:aT K "shift" "Hearth.shift" FQ f fd)(x:fE K C)(qt:B "PUT_IN"=Z (.int 1 t1))(FC:cI P w K B I 8 "put_in" C xH (Sv C CL CJ))(Fg:cI P w K B I 2 "take_out" C xH (Qm C CL CJ)):aI P w K B I aR 9 f fd oA (Kr C CL CJ):=by
 refine F.o ZaJ @λbR A D vs Q E s H W h=>?_;obtain⟨l,b,n,t,p,r,N,J,rfl,L,ok,mv,q⟩:=h;refine⟨_,(ak (aX (bO cP (pv 1) (dW (v:=.int (1)) rfl qt ⟨_,rfl⟩)) (av (cz (cY FC W (by decide) (pv 0) (aa (pv 2) ag)))) (av (cz (cY Fg W (by decide) (pv 0) (aa (pv 2) ag))))) (av (iO (K:=K) rfl (pv 0) (pv 3)))),?_⟩;refine eW L.obj λdx X=>?_;have T:∀(c:BL) (g:Hp),bT H g l c->bu g C CL CJ c t p n->∀(i:U) (H2:Hp),g c.h=Z (.ins C i (HF c.L c.sd c.pl c.fc c.kn c.pr (n.co:Int) c.dn c.un c.rk))->aG c.h g H2->H2 c.h=Z (.ins C i (HF c.L c.sd c.pl c.fc c.kn c.pr (J:Int) c.dn c.un c.rk))->Q .ay H2:=λc g m d i H2 o j e2=>by
  have G:=d.nd;unfold BL.own at G;simp only[Y0,Ym,Y2,i1,k8] at G;obtain⟨⟨ny,cJ,jA,nA,pR,mj,oO⟩,_⟩:=G;have R:Out c.own g H2:=λa u e na=>j _ _ e (λz=>na (by rw[z];simp[BL.own]));have of:=rW R;have pS:=(d.owned (b':={n with co:=J}) rfl rfl rfl rfl rfl rfl rfl rfl rfl (.inl ⟨rfl,rfl,rfl,rfl⟩) R ⟨i,e2⟩ (j _ _ d.dD (λz=>ny z.symm)) (j _ _ d.places (λz=>cJ z.symm)) (j _ _ d.facts (λz=>jA z.symm)) (_L.Paired.bH d.fact λ_ _ e=>(λe=>of _ _ e (d.tup e)) e) (j _ _ d.known (λz=>nA z.symm)) (j _ _ d.parents (λz=>pR z.symm)) (j _ _ d.done (λz=>mj z.symm)) (_L.Paired.bH d.kN λ_ _ e=>e.out of λ a us=>d.tup) (j _ _ d.iR (λz=>oO z.symm)) (_L.Paired.bH d.mO λ_ _ e=>e.out of λa us e=>d.tup e)).1;exact q c H2 (m.trans ⟨rfl,of,fM.refl _ _⟩) pS
 have go:∀(c:BL) (g:Hp),bT H g l c->bu g C CL CJ c t p n->∃i,g l.h=Z (.ins C i (HF c.L c.sd c.pl c.fc c.kn c.pr (n.co:Int) c.dn c.un c.rk))/\∀H2,aG l.h g H2->H2 l.h=Z (.ins C i (HF c.L c.sd c.pl c.fc c.kn c.pr (J:Int) c.dn c.un c.rk))->Q .ay H2:=λc g m d=>by
  obtain⟨i,o⟩:=d.obj;have eh:=m.h
  grind
 have y:N=1\/N=-1:=by cases mv<;>first|exact .inl rfl|exact .inr rfl
 rcases y with rfl|rfl
 ·refine⟨_,rfl,rfl,_,rfl,c6 ?_⟩;refine⟨_,rfl,l.h,dx,_,rfl,X,rfl,_,rfl,l,b,n,t,p,r,rfl,L,ok,mv,λc g m d=>?_⟩;refine bo (go c g m d) λi o k=>?_;exact⟨_,rfl,_,rfl,l.h,C,i,_,rfl,o,x.cls,x.rO,by show 10<1000;decide,k⟩
 ·refine⟨_,rfl,rfl,_,rfl,bV ?_⟩;refine⟨_,rfl,l.h,dx,_,rfl,X,rfl,_,rfl,l,b,n,t,p,r,rfl,L,ok,mv,λc g m d=>?_⟩;refine bo (go c g m d) λi o k=>?_;exact⟨_,rfl,_,rfl,l.h,C,i,_,rfl,o,x.cls,x.rO,by show 10<1000;decide,k⟩
def Zaq:aW oA oA (aL Fj):=.bp
def ZdH(F:aT K "do_deed" "Hearth.do_deed" Fj f fd)(g:fE K C)(wj:cI P w K B I 9 "shift" C oA (Kr C CL CJ)):aI P w K B I aR 10 f fd oA (BW C CL CJ):=by
 refine F.o Zaq λs H hr h=>?_;obtain⟨l,b,b',X,W,r,E,Q,x,rfl,c,ok,dl,hR,mv,q⟩:=h;refine⟨_,(ak (cz (nW (K:=K) rfl (kJ lg me lW oR (pF K 0) (aa (du (aa (pv 1) (aa (pv 2) (aa (pF K 0) (aa (pv 3) ag))))) ag)))) (ak (cz (Kg (K:=K) rfl (KI lg PySem.F.slot_list_clear PySem.F.type_list_clear Zet (pF K 0)))) (av (cz (cY wj hr (by decide) (pv 0) (aa (pv 1) (aa (pv 2) (aa (pv 3) ag)))))))),?_⟩;refine oP ?_;intros;obtain⟨j,i⟩:=c.obj;have sz:(10000:Nat)<=sizeLine:=by rw[d6];decide
 have y:=c.nd;unfold BL.own at y;simp only[Y0,Ym,Y2,i1,k8] at y;refine u3 y λjs gV gU hI mR qh T _=>?_;obtain ⟨ny,cJ,jA,nA,pR,A,G⟩:=js;obtain ⟨yf,sX,sY,sZ,s_,tD⟩:=gV;obtain ⟨rh,tE,tF,tG,tH⟩:=gU;obtain ⟨yg,yh,tI,jt⟩:=hI;obtain ⟨AS,vQ,vR⟩:=mR;obtain ⟨vS,vT⟩:=qh;have dal:=c7 c.kN;refine⟨_,rfl,l.h,C,j,_,_,rfl,i,g.cls,g.Cv,rfl,.inl ⟨rfl,_,aq.of c.done⟩,?_⟩;refine⟨_,rfl,_,rfl,_,rfl,l.h,C,j,_,_,rfl,i,g.cls,g.rO,rfl,_,rfl,by show 4<=sizeLine;decide,λp H1 m n e1=>?_⟩;refine⟨l.dn,_,_,rfl,rfl,n _ _ c.done,by rw[Ya];exact Nat.lt_of_le_of_lt (Nat.le_of_eq dal) (Nat.lt_of_lt_of_le dl (by decide)),λH2 t e2=>?_⟩;have a1:=t _ _ (n _ _ i) A;have R:=t _ _ (n _ _ c.iR) (λz=>T z.symm);refine⟨_,rfl,l.h,C,j,_,_,rfl,a1,g.cls,g.JK,rfl,.inl ⟨rfl,_,aq.of R⟩,l.un,_,rfl,rfl,R,λH3 D e3=>?_⟩;have d:∀{a:U} {o:HO},H a=Z o->a≠l.dn->a≠l.un->H3 a=Z o:=λ{a o} e n1 n2=>D _ _ (t _ _ (n _ _ e) n1) n2;have J:Out l.own H H3:=λa u e L=>d e (λz=>L (by rw[z];simp[BL.own])) (λz=>L (by rw[z];simp[BL.own]));have of:=rW J;have v:∀{a:U} {k:O V},H a=Z (.tup k)->H3 a=Z (.tup k):=λe=>of _ _ e (c.tup e);have pu:p≠l.un:=λz=>by rw[z,c.iR] at m;cases m
 have ed:H3 l.dn=Z (.lst ((l.eX++[p]).map V.ref)):=by rw[Yn];exact D _ _ e2 T
 have N:=(c.owned (l':={l with eX:=l.eX++[p],ig:=[]}) (b':={b with dn:=b.dn++[⟨E,x,b.co,Q⟩],un:=[]}) rfl rfl rfl rfl rfl rfl rfl rfl rfl (.inl ⟨rfl,rfl,rfl,rfl⟩) J ⟨j,d i A G⟩ (d c.dD s_ tD) (d c.places tG tH) (d c.facts tI jt) (_L.Paired.bH c.fact λ_ _ e=>v e) (d c.known vQ vR) (d c.parents vS vT) ed (jh (F:=nY H3) ⟨r,D _ _ (t _ _ e1 (λz=>by rw[z,c.done] at m;cases m)) pu,v hR⟩ (_L.Paired.bH c.kN λ_ _ e=>e.out of λa k e=>c.tup e)) e3 .nil);have h3:=d i A G;refine⟨_,rfl,l.h,j,_,rfl,h3,rfl,_,rfl,_,rfl,_,rfl,{l with eX:=l.eX++[p],ig:=[]},_,_,X,W,r,E,Q,rfl,N.1,⟨ok.gd,ok.nm,ok.m,ok.fl,ok.fg,ok.zs,ok.lt,ok.ky,ok.pr,ok.lv,by show(b.dn++[_]).length<=200;rw[Yj];show b.dn.length+1<=200;exact Nat.succ_le_of_lt dl,Yx _⟩,((mv.ZjU _ _).out λk e=>v e),λl' H4 wt pT=>?_⟩;exact q l' H4 (bT.trans (l1:={l with eX:=l.eX++[p],ig:=[]}) ⟨rfl,of,N.2⟩ wt) pT
inductive Sx(C CL CJ j:U)(g:O V)(H:Hp)(Q:VK)(E:XK):Prop
 |mk (l:BL) (b:BS) (e c:O Int) (o:g=[.ref l.h]) (n:bu H C CL CJ l e c b) (ok:cE e c b) (m:b.un.length<200)
   (yes:∀(i:O xF) (d:xF),b.dn=i++[d]->∃k:BS,(∀a r,a r=Z (.tup (d.row.map kV))->Move e c a r {b with dn:=i,un:=b.un++[d]} (-d.way) k)/\∀(h:BL) (a:Hp),bT H a l h->bu a C CL CJ h e c {k with co:=d.c0}->Q .ay a) (no:b.dn=[]->XP H j "nothing left" E):Sx C CL CJ j g H Q E
def Ub(C CL CJ b:U):Sp:=λa H Q E=>Sx C CL CJ b a H Q E
theorem ZcF(p:Paired R as (bs++[y])):∃c a,as=c++[a]/\Paired R c bs/\R a y:=by
 induction bs generalizing as with
 |nil=>cases p with|cons r t=>cases t;exact⟨[],_,rfl,.nil,r⟩
 |cons b bs g=>
  cases p with
  |cons r t=>
   refine gR (g t) λc a h d e=>?_;subst h;exact⟨_::c,a,rfl,.cons r d,e⟩
def yD:aW ["self","way","row","ahead","behind"] gI (aL F9):=.bp
def Zga(F:aT K "undo" "Hearth.undo" F9 f fd)(m:fE K C)(wj:cI P w K B I 9 "shift" C oA (Kr C CL CJ))(Ga:uB P w K B I "NothingLeft" "nothing left" cN):aI P w K B I (lS P w) 10 f fd gI (Ub C CL CJ cN):=by
 refine F.xX yD (λvs H Q E h=>?_) (λbR A N s H vs Q E hr h=>?_)
 ·obtain⟨l,b,xs,ys,rfl,_⟩:=h;rfl
 obtain⟨l,b,xs,ys,rfl,g,ok,ul,yes,no⟩:=h;refine⟨_,(ak (aX (gn (BC (K:=K) rfl (BM (pF K 0) (λ_=>rfl)))) (av (Iu Ga hr (by decide) rfl rfl qE bB)) a_) (ak (mN (Kg (K:=K) rfl (KI lg slot_list_pop type_list_pop ZgT (pF K 0))) (iP (K:=K) (n:=4) rfl rfl (bW (bI 1 yD.nd) (bW (bI 2 yD.nd) (bW (bI 3 yD.nd) (bW (bI 4 yD.nd) iN)))))) (ak (cz (nW (K:=K) rfl (kJ lg me lW oR (pF K 0) (aa (du (aa (pv 1) (aa (pv 2) (aa (pv 3) (aa (pv 4) ag))))) ag)))) (av (cz (cY wj hr (by decide) (pv 0) (aa (zI zp (pv 1)) (aa (pv 2) (aa (pv 3) ag))))))))),?_⟩;refine pz ?_;intros;refine eW g.obj λt v=>?_;have sz:(10000:Nat)<=sizeLine:=by rw[d6];decide
 have R:=g.nd;unfold BL.own at R;simp only[Y0,Ym,Y2,i1,k8] at R;refine u3 R λjs gV gU hI mR qh AU _=>?_;obtain ⟨ny,cJ,jA,nA,pR,mj,oO⟩:=js;obtain ⟨yf,sX,sY,sZ,s_,tD⟩:=gV;obtain ⟨rh,tE,tF,tG,tH⟩:=gU;obtain ⟨yg,yh,tI,jt⟩:=hI;obtain ⟨AS,vQ,vR⟩:=mR;obtain ⟨vS,vT⟩:=qh;refine⟨_,rfl,l.h,C,t,_,_,rfl,v,m.cls,m.Cv,rfl,_,.inl ⟨_,aq.of g.done,rfl⟩,?_⟩;rcases List.eq_nil_or_concat b.dn with k|⟨dn,d,k⟩
 ·have y:l.eX=[]:=by
   have:=c7 g.kN;rw[k] at this;exact List.length_eq_zero_iff.mp this
  rw[y];exact c6 ⟨_,rfl,QD,no k⟩
 rw[List.concat_eq_append] at k;have pd:=g.kN;rw[k] at pd;obtain⟨x,da,y,L,r,Zb,V6⟩:=ZcF pd;refine bo (yes dn d k) λb' mv q=>?_;rw[y];refine bY (λc=>absurd c QS) (λ_=>aZ ?_);have Mb:=g.done;rw[y] at Mb;have nt:∀{a:U} {i:O V},H a=Z (.tup i)->a≠l.dn/\a≠l.un:=λ{a i} e=>⟨λz=>(by rw[z,g.done] at e;cases e),λz=>(by rw[z,g.iR] at e;cases e)⟩;refine⟨_,rfl,l.h,C,t,_,_,rfl,v,m.cls,m.Cv,rfl,.inl ⟨rfl,_,aq.of Mb⟩,l.dn,_,.ref da,rfl,rfl,Mb,QS,λH1 D e2=>?_⟩;have X:=D _ _ Zb (nt Zb).1;refine⟨da,_,rfl,az.of X,rfl,_,_,rfl,bj ⟨_,_,rfl,bj ⟨_,_,rfl,bj ⟨_,_,rfl,bj ⟨rfl,?_⟩⟩⟩⟩⟩;have G:=D _ _ g.iR (λz=>AU z.symm);have ual:=c7 g.mO;refine⟨_,rfl,l.h,C,t,_,_,rfl,D _ _ v mj,m.cls,m.JK,rfl,.inl ⟨rfl,_,aq.of G⟩,_,rfl,_,rfl,_,rfl,_,rfl,by show 4<=sizeLine;decide,λp H2 np T hp=>?_⟩;refine⟨l.un,_,_,rfl,rfl,T _ _ G,by rw[Ya];exact Nat.lt_of_le_of_lt (Nat.le_of_eq ual) (Nat.lt_of_lt_of_le ul (by decide)),λH3 W e3=>?_⟩;have j:∀{a:U} {o:HO},H a=Z o->a≠l.dn->a≠l.un->H3 a=Z o:=λ{a o} e n1 n2=>W _ _ (T _ _ (D _ _ e n1)) n2;have o3:Out l.own H H3:=λa u e na=>j e (λz=>na (by rw[z];simp[BL.own])) (λz=>na (by rw[z];simp[BL.own]));have of:=rW o3;have J:∀{a:U} {i:O V},H a=Z (.tup i)->H3 a=Z (.tup i):=λe=>of _ _ e (g.tup e);have pu:p≠l.un:=λz=>by rw[z,G] at np;cases np
 have ed:H3 l.dn=Z (.lst (x.map V.ref)):=by
  have:=W _ _ (T _ _ e2) AU;rw[this,Yn];simp
 have eu:H3 l.un=Z (.lst ((l.ig++[p]).map V.ref)):=by rw[Yn];exact e3
 have h3:=j v mj oO;have fO:=(g.owned (l':={l with eX:=x,ig:=l.ig++[p]}) (b':={b with dn:=dn,un:=b.un++[d]}) rfl rfl rfl rfl rfl rfl rfl rfl rfl (.inl ⟨rfl,rfl,rfl,rfl⟩) o3 ⟨t,h3⟩ (j g.dD s_ tD) (j g.places tG tH) (j g.facts tI jt) (_L.Paired.bH g.fact λ_ _ e=>J e) (j g.known vQ vR) (j g.parents vS vT) ed (_L.Paired.bH L λ_ _ e=>e.out of λa i e=>g.tup e) eu (jh (F:=nY H3) ⟨r,W _ _ hp pu,J V6⟩ (_L.Paired.bH g.mO λ_ _ e=>e.out of λa i e=>g.tup e)));have ll:=ok.dl;rw[k,Yj] at ll;exact⟨_,rfl,l.h,t,_,rfl,h3,rfl,_,rfl,_,rfl,_,rfl,_,rfl,{l with eX:=x,ig:=l.ig++[p]},_,b',xs,ys,r,-d.way,d.c0,rfl,fO.1,⟨ok.gd,ok.nm,ok.m,ok.fl,ok.fg,ok.zs,ok.lt,ok.ky,ok.pr,ok.lv,Yy (Nat.le_add_right _ _) ll,by show(b.un++[d]).length<=200;rw[Yj];show _+1<=200;exact Nat.succ_le_of_lt ul⟩,mv H3 r (J V6),λl' H4 wt pT=>q l' H4 (bT.trans (l1:={l with eX:=x,ig:=l.ig++[p]}) ⟨rfl,of,fO.2⟩ wt) pT⟩
def c_.ZkP(j:c_ H C n l st)(h:a∈l.cB):∃b,H a=Z (.lst b):=by
 obtain⟨p,e⟩:=yU j.free h
 grind
def c_.vU(j:c_ H C n l st)(e:H a=Z o)(p:∀c,o≠.lst c)(m:∀c,o≠.tup c)(r:a∉l.fp)(i:aG a H k):c_ k C n l st:=by
 refine j.jq (fp:=[a]) (λb u g h=>i _ _ g λz=>h (by rw[z];exact Yo)) (λb d=>?_) (λb d z=>?_) λb c g z=>?_;·grind
 ·rw[Yi.mp d] at z;obtain⟨c,q⟩:=j.ZkP z
  grind
 ·grind
inductive qI(H:Hp)(C CJ g d:U)(l:BL)(b:BS)(n:Nat)(J:U)(F:O Fc)(m:Nat)(c:Hp):Prop
 |mk (e:JL) (st:JS) (k:e.J=J) (keep:∀a u,H a=Z u->a≠l.h->a≠d->c a=Z u) (h:c l.h=Z (.ins C g (HF l.L l.sd l.pl l.fc l.kn l.pr (b.co:Int) l.dn l.un (.ref J)))) (j:c_ c CJ n e st) (i:d_ n st F) (len:st.hd.length=m) (new:∀a∈e.fp,H a=aJ):qI H C CJ g d l b n J F m c
def qI.vU(j:qI H C CJ G d l b n J F m k)(A:H c≠aJ)(e:k c=Z o)(q:∀g,o≠.lst g)(p:∀g,o≠.tup g)(r:c≠l.h)(i:aG c k H7)(L:∀u,H d=Z u->d≠c->d≠l.h->H7 d=Z u):qI H C CJ G c l b n J F m H7:=by
 obtain⟨x,st,E,keep,h,y,v,len,new⟩:=j;refine⟨x,st,E,λa u D t s=>?_,i _ _ h (λz=>r z.symm),y.vU e q p (λz=>A (new _ z)) i,v,len,new⟩;by_cases z:a=d;·simp_all
 ·exact i _ _ (keep a u D t z) s
theorem Qn:∀{c:O Nat} {as:O U} {i:Nat} {k:Key} {y:V},(bM c as)[i]?=Z (k,y)->∃a,as[i]?=Z a/\y=.ref a
 |[],as,i,k,y,h=>by
  unfold bM at h;simp at h
 |_::_,[],i,k,y,h=>by
  unfold bM at h;simp at h
 |q::c,a::as,0,k,y,h=>by
  injection(Yp h) with _ e
  simp_all
 |q::c,a::as,i+1,k,y,h=>by
  have g:bM (q::c) (a::as)=(Sum.inl (q:Int),V.ref a)::bM c as:=rfl;rw[g] at h;have d:(bM c as)[i]?=Z (k,y):=by simpa using h
  refine bo (Qn d) λb j e=>?_
  simp_all
inductive Cd(C CL CJ:U)(i:O V)(H:Hp)(Q:VK)(E:XK):Prop
 |mk (l:BL) (b:BS) (d h:O Int) (k:i=[.ref l.h]) (j:bu H C CL CJ l d h b) (ok:cE d h b) (q:∀(c:BL) (e:JL) (st:JS) (g:Hp),bT H g l c->bu g C CL CJ c d h b->c.rk=.ref e.J->c.fN=e.fp->c_ g CJ d.length e st->d_ d.length st b.F->st.hd.length=b.ps.length->(∀a∈c.own,a∉e.fp)->(l.rk≠.ay->g=H/\c=l)->Q (.ref e.J) g)
def FD:aW ["self","name","fact"] gI (aL FP):=.bp
theorem Zgb(F:aT K "joins" "Hearth.joins" FP f fd)(t:fE K C)(lc:uN K CL)(Ks:xm P w K B I 1 "Joins" CJ C9 (Si CJ))(wB:cI P w K B I 2 "add" CJ gI (Ly CJ))(wC:HasFn P w K B I 6 "keep_fact" u7 (Kp CL CJ)):aI P w K B I aR 8 f fd gI (Cd C CL CJ):=by
 refine F.o FD λs H hr h=>?_;obtain⟨l,b,xs,ys,rfl,g,ok,q⟩:=h;refine⟨_,(ak (aX (bO KG (pF K 0) lI) (ak (iO (K:=K) rfl (pv 0) (Lr Ks hr (by decide) rfl (aa (uv (K:=K) rfl (pF K 0) rfl) ag))) (ak (Zdl (H0:=H) rfl iJ rfl (Zg1 (H0:=H) rfl (pF K 0)) (bI 1 FD.nd) (av (cz (qA wB hr (by decide) (pF K 0))))) (av (Zdm (H0:=H) rfl iJ rfl (Zg3 (H0:=H) rfl (pF K 0)) (bI 2 FD.nd) (av (cz (bh wC hr (aa (pF K 0) (aa (pF K 0) (aa (pF K 0) (aa (pv 2) ag))))))))))) a_) (av (aK (pF K 0)))),?_⟩;refine eW g.obj λA h1=>?_;have n8:xs.length<=8:=ok.gd.2.2.2.2;have n0:0<xs.length:=by have:=ok.gd.2.2.2.1;exact Nat.lt_of_lt_of_le (Nat.succ_pos _) this
 have nd:=g.nd;unfold BL.own at nd;simp only[Y0,Ym,Y2,i1,k8] at nd;refine m8 nd λjs gV gU hI _=>?_;obtain ⟨ny,cJ,jA,nA,pR,mj,oO⟩:=js;obtain ⟨yf,sX,sY,sZ,s_,tD⟩:=gV;obtain ⟨rh,tE,tF,tG,tH⟩:=gU;obtain ⟨yg,yh,tI,jt⟩:=hI;cases hj:g.uO with
 |at_ p st j1 j2 T L len gY=>
  have m_:=h1;rw[j1] at m_;refine⟨_,rfl,l.h,C,A,_,_,rfl,m_,t.cls,t.jD,rfl,rfl,_,rfl,bV (aZ ?_)⟩;exact⟨_,rfl,l.h,C,A,_,_,rfl,m_,t.cls,t.jD,rfl,q l p st H (bT.of (aj.refl _)) g j1 j2 T L len gY λ_=>⟨rfl,rfl⟩⟩
 |no j1 j2=>
  have m_:=h1;rw[j1] at m_;refine rZ (λσ H6=>∃(J:U) (E D:bS V),σ=[Z (.ref l.h),E,D]/\qI H C CJ A l.h l b xs.length J b.F b.ps.length H6) (λnx hn=>?_) ?_
  ·refine⟨_,rfl,l.h,C,A,_,_,rfl,m_,t.cls,t.jD,rfl,rfl,_,rfl,c6 ?_⟩;obtain⟨dL,dS,mo,k_,wi,im,jf,iw,DZ,hL,_⟩:=g.landAt;refine⟨_,rfl,l.h,C,A,_,_,rfl,m_,t.cls,t.uE,rfl,l.L,CL,dL,_,_,rfl,hL,lc.cls,lc.r9,rfl,λx En tJ AG nd2=>?_⟩;have AH:upd H En (.own x) x=aJ:=by rw[aS (λz=>nd2 z.symm)];exact tJ
   have Zc:aj H (upd (upd H En (.own x)) x (.ins CJ En [])):=(cF AG _).trans (cF AH _);refine⟨x,En,xs.length,rfl,a9,λNU H2 eJ1 em1 fr1 b2 ja1=>⟨rfl,?_⟩⟩;have f1:∀a∈NU.fp,H a=aJ:=λa ha=>by
    by_cases z:a=x;·rw[z];exact tJ
    ·exact Zc.free (fr1 a ha z)
   have g2:aj H H2:=λa o e=>b2 _ _ (Zc _ _ e) (cC e tJ);refine⟨_,rfl,l.h,C,A,_,rfl,g2 _ _ m_,t.cls,t.jD,by show 10<1000;decide,λH3 b3 e3=>?_⟩;have Zd:H3 l.h=Z (.ins C A (HF l.L l.sd l.pl l.fc l.kn l.pr (b.co:Int) l.dn l.un (.ref x))):=e3;have Ek:l.h∉NU.fp:=λz=>by have:=f1 _ z;rw[h1] at this;cases this
   have jm3:qI H C CJ A l.h l b xs.length x [] 0 H3:=⟨NU,_,eJ1,λa u e n1 _=>b3 _ _ (g2 _ _ e) n1,Zd,ja1.vU (g2 _ _ m_) (λG z=>nomatch z) (λG z=>nomatch z) Ek b3,ZjT,rfl,f1⟩;have s3:H3 l.sd=Z (.dK (iI b.ps)):=b3 _ _ (g2 _ _ g.dD) (λz=>ny z.symm);dsimp only;refine hU (λσ H6=>∃E D:bS V,σ=[Z (.ref l.h),E,D]/\qI H C CJ A l.h l b xs.length x [] b.ps.length H6) (λEo pU=>?_) ?_
   ·refine ZfG (d:=l.sd) (kvs:=iI b.ps) (H1:=H3) (λR r=>⟨_,rfl,l.h,C,A,_,_,rfl,Zd,t.cls,t.uw,rfl,r⟩) s3 (λi σ H6=>∃E D:bS V,σ=[Z (.ref l.h),E,D]/\qI H C CJ A l.sd l b xs.length x [] i H6) (λod=>⟨aJ,aJ,rfl,jm3.vU (by rw[g.dD];exact λz=>nomatch z) s3 (λG z=>nomatch z) (λG z=>nomatch z) (λz=>ny z.symm) (aG.put (aG.of (aj.refl _))) (λu _ _ z=>absurd rfl z)⟩) ?_ ?_
    ·rintro od i k y aQ H6 N rt bk hk ⟨E,D,rfl,Q⟩ fz hN;obtain⟨p,st,W,keep,j,T,L,len,new⟩:=Q;have il:i<b.ps.length:=by
      have:=(Yh.mp hk).1
      rwa [Ya] at this
     have im:=ok.m;obtain⟨dj,ej⟩:=T.obj;have wf:=L.wf;have ml:=wf.T3;have AQ:=wf.CO;refine bj ?_;refine⟨_,rfl,l.h,C,A,_,_,rfl,j,t.cls,t.jD,rfl,p.J,dj,_,by rw[W],ej,rfl,p,st,xs.length,by rw[W];rfl,T,(Nat.le_trans n8 (by decide)),QO,ml,AQ,wf.ll,λz=>We _ (wf.lm _ z),λz=>We _ (wf.lf _ z),λjd H7 k1 o7 gr ja7=>?_⟩;have X:∀{a:U} {u:HO},H a=Z u->a∉p.fp:=λ{a u} e z=>by rw[new _ z] at e;cases e
     refine hN _ _ ⟨_,_,rfl,jd,_,k1.trans W,λa u e n1 n2=>o7 _ _ (keep a u e n1 n2) (X e),o7 _ _ j (X h1),ja7,L.more n0,by rw[ke,len],λa z=>?_⟩ (o7 _ _ fz (X g.dD));rcases gr a z with y|y;·exact new a y
     ·cases e:H a with
      |none=>rfl
      |some u=>
       by_cases z1:a=l.h;·rw[z1,j] at y;cases y
       ·by_cases z2:a=l.sd;·rw[z2,fz] at y;cases y
        ·rw[keep a u e z1 z2] at y;cases y
    ·rintro od aQ H6 ⟨E,D,rfl,Q⟩ fz;rw[Ya] at Q;refine pU _ _ ⟨E,D,rfl,?_⟩;obtain⟨p,st,W,keep,j,T,L,len,new⟩:=Q;have X:l.sd∉p.fp:=λz=>by have:=new _ z;rw[g.dD] at this;cases this
     refine⟨p,st,W,λa u e n1 _=>?_,by rw[aS ny];exact j,T.vU fz (λG z=>nomatch z) (λG z=>nomatch z) X (aG.put (aG.of (aj.refl _))),L,len,new⟩;by_cases z:a=l.sd
     ·subst z;rw[a9];rw[g.dD] at e;exact e
     ·rw[aS z];exact keep a u e n1 z
   ·rintro σ H6 ⟨E,D,rfl,Q⟩;obtain⟨jl0,ZmN,eJ0,ZjX,ZkQ,ja0,me0,len0,ZmO⟩:=id Q;have f6:H6 l.fc=Z (.dK (bM (b.fs.map (·.1)) l.cB)):=ZjX _ _ g.facts (λz=>jA z.symm) (λz=>jA z.symm);have al:=c7 g.fact;refine ZfH (d:=l.fc) (kvs:=bM (b.fs.map (·.1)) l.cB) (H1:=H6) (λR r=>⟨_,rfl,l.h,C,A,_,_,rfl,ZkQ,t.cls,t.rT,rfl,r⟩) f6 (λi σ H6=>∃E D:bS V,σ=[Z (.ref l.h),E,D]/\qI H C CJ A l.fc l b xs.length x (b.F.take i) b.ps.length H6) (λod=>⟨E,D,rfl,Q.vU (by rw[g.facts];exact λz=>nomatch z) f6 (λG z=>nomatch z) (λG z=>nomatch z) (λz=>jA z.symm) (aG.put (aG.of (aj.refl _))) (λu _ _ z=>absurd rfl z)⟩) ?_ ?_
    ·rintro od i k y aQ H7 N rt bk hk ⟨E,D,rfl,Q⟩ fz hN;obtain⟨fa,efa,rfl⟩:=Qn hk;obtain⟨⟨z,c⟩,Ze,dO⟩:=gf g.fact efa;have mzc:=Yg Ze;obtain⟨p,st,W,keep,j,T,L,len,new⟩:=Q;have X:∀{a:U} {u:HO},H a=Z u->a∉p.fp:=λ{a u} e z=>by rw[new _ z] at e;cases e
     have of:Out l.fp H H7:=λa u e n=>keep a u e (λz=>n (by rw[z];simp[BL.fp,BL.own])) (λz=>n (by rw[z];simp[BL.fp,BL.own]));have fg:=ok.fg _ mzc;have im:=ok.m;have ec:b.F[i]?=Z c:=by unfold BS.F;rw[Ye,Ze];rfl
     have tk:b.F.take (i+1)=b.F.take i++[c]:=by rw[Y1,ec];rfl
     refine bj ?_;refine⟨_,rfl,l.h,C,A,_,_,rfl,j,t.cls,t.jD,rfl,_,rfl,l.h,C,A,_,_,rfl,j,t.cls,t.uE,rfl,_,rfl,l.h,C,A,_,_,rfl,j,t.cls,t.rN,rfl,_,rfl,p,st,l.L,l.pl,fa,xs,ys,b.ps,b.F.take i,z,c,by rw[W];rfl,T,L,g.land H7 of,ok.gd,keep _ _ g.places (λz=>cJ z.symm) rh,ok.nm,len,(Nat.le_trans im (by decide)),of _ _ dO (g.tup dO),fg,?_,λv jd aV H8 e1 sub o8 ja8 me8 ZkR=>?_⟩
     ·obtain⟨f0,i0,s0⟩:=ok.lv;exact⟨f0,(L.iff f0).mpr ⟨by rw[len];exact i0,λc' m'=>s0 c' (List.mem_of_mem_take m')⟩,s0 c (Yg ec)⟩
     ·refine hN _ _ ⟨_,_,rfl,jd,aV,e1.trans W,λa u e n1 n2=>o8 _ _ (keep a u e n1 n2) (X e),o8 _ _ j (X h1),ja8,by rw[tk];exact me8,ZkR.trans len,λa z=>new a (sub a z)⟩ (o8 _ _ fz (X g.facts))
    ·rintro od aQ H7 ⟨E,D,rfl,Q⟩ fz;have dl:(bM (b.fs.map (·.1)) l.cB).length=b.F.length:=by
      unfold bM BS.F;rw[Ya,Jc,Ya,Ya];omega
     rw[dl,Wd] at Q;refine hn _ _ ⟨x,E,D,rfl,?_⟩;obtain⟨p,st,W,keep,j,T,L,len,new⟩:=Q;have X:l.fc∉p.fp:=λz=>by have:=new _ z;rw[g.facts] at this;cases this
     refine⟨p,st,W,λa u e n1 _=>?_,by rw[aS jA];exact j,T.vU fz (λG z=>nomatch z) (λG z=>nomatch z) X (aG.put (aG.of (aj.refl _))),L,len,new⟩;by_cases z:a=l.fc
     ·subst z;rw[a9];rw[g.facts] at e;exact e
     ·rw[aS z];exact keep a u e n1 z
  ·rintro σ H6 ⟨J,E,D,rfl,Q⟩;obtain⟨p,st,W,keep,j,T,L,len,new⟩:=Q;refine⟨_,rfl,l.h,C,A,_,_,rfl,j,t.cls,t.jD,rfl,?_⟩;have k6:∀{a:U} {u:HO},H a=Z u->a≠l.h->H6 a=Z u:=λ{a u} e n=>keep a u e n n;have of:Out l.fp H H6:=λa u e n=>k6 e (λz=>n (by rw[z];simp[BL.fp,BL.own]));have tp:∀{a:U} {G:O V},H a=Z (.tup G)->H6 a=Z (.tup G):=λe=>of _ _ e (g.tup e);have gr:fM l.fp ({l with rk:=.ref p.J,fN:=p.fp}:BL).fp H:=λa z=>by
    rcases Yv.mp (show a∈l.own++p.fp from z) with y|y;·exact .inl (Yt _ y)
    ·exact .inr (new a y)
   have gY:∀a∈l.own,a∉p.fp:=λa m z=>g.there (Yt _ m) (new a z);subst W;refine q {l with rk:=.ref p.J,fN:=p.fp} p st H6 ⟨rfl,of,gr⟩ ?_ rfl rfl T L len gY λz=>absurd j1 z;exact g.build (l':={l with rk:=.ref p.J,fN:=p.fp}) (b':=b) rfl rfl rfl rfl rfl rfl rfl rfl rfl of gr ⟨A,j⟩ (k6 g.dD (λz=>ny z.symm)) (k6 g.places (λz=>cJ z.symm)) (k6 g.facts (λz=>jA z.symm)) (_L.Paired.bH g.fact λ_ _ e=>tp e) (k6 g.known (λz=>nA z.symm)) (k6 g.parents (λz=>pR z.symm)) (k6 g.done (λz=>mj z.symm)) (_L.Paired.bH g.kN λ_ _ e=>e.out of λa G e=>g.tup e) (k6 g.iR (λz=>oO z.symm)) (_L.Paired.bH g.mO λ_ _ e=>e.out of λa G e=>g.tup e) (.at_ p st rfl rfl T L len gY)
noncomputable def ij(z:ar)(c:Nat):cu:=!(Builtin.Str.occurrences z ⟨#[c]⟩ 0 z.length 1).isEmpty
noncomputable abbrev qu:ar:="abcdefghijklmnopqrstuvwxyz"
noncomputable abbrev nZ:ar:="abcdefghijklmnopqrstuvwxyz0123456789"
def uQ(z:ar):cu:=match z.cps.toList with
 |[]=>bg
 |c::r=>decide (z.length<=12)&&(ij qu c&&(c::r).all (ij nZ))
def ZkS(v:ar):v.cps.toList.length=v.length:=by simp[Str.length]
def Zht{z:ar}(h:z.cps.toList=[]):z="":=by
 cases z with|mk a=>cases a with|mk l=>cases h;rfl
def Zgc(h:z.cps.toList=[]):uQ z=bg:=by unfold uQ;rw[h]
def Qo(h:z.cps.toList=c::r):uQ z=(decide (z.length<=12)&&(ij qu c&&(c::r).all (ij nZ))):=by unfold uQ;rw[h]
def Rp:Sp:=λb H Q _=>∃z:ar,b=[.str z]/\z.length<=1000/\∀a,aj H a->Q (.bl (uQ z)) a
def ZdI:aW ["text"] ["text"] (aL IE):=.bp
theorem ZdJ(F:aT K "is_name" "is_name" IE f fd)(y:B "LONGEST_NAME"=Z (.int 12 t1))(x:B "LETTERS_OF_NAMES"=Z (.str "abcdefghijklmnopqrstuvwxyz" E))(u:B "SIGNS_OF_NAMES"=Z (.str "abcdefghijklmnopqrstuvwxyz0123456789" t3))(j:Bl B):
  aI P w K B I aR 1 f fd ["text"] Rp:=by
 refine F.o ZdI λs H J h=>?_;obtain⟨z,rfl,G,q⟩:=h;refine⟨_,(ak (aX (PW.pt (pw_or (bO cP (pv 0) bB) (pw_or (bO Ll (iu (ZbI) rfl j.CG Ck (aa (pv 0) ag)) (dW (v:=.int (12)) rfl y ⟨_,rfl⟩)) (pw_or1 (gm ZbF (bc zu (pv 0) aP) (dW (v:=.str "abcdefghijklmnopqrstuvwxyz") rfl x ⟨_,rfl⟩) QU))))) (av (aK d7)) a_) (av (aK (iu (VJ (K:=K) rfl rfl) rfl j.UQ Ti (aa (jG (fr:=[]) (cl:=[]) rfl (.ia trivial trivial) (ZiC (pv 0)) (λ_ _ _ _=>lH) (λ_ _ _ _=>(B3 Zd8 (pv 0) (dW (v:=.str "abcdefghijklmnopqrstuvwxyz0123456789") rfl u ⟨_,rfl⟩) QU))) ag))))),?_⟩;have sz:(10000:Nat)<=sizeLine:=by rw[d6];decide
 cases a:z.cps.toList with
 |nil=>
  have e:=Zht a;rw[Zgc a] at q;refine⟨_,rfl,rfl,_,rfl,bY (λ_=>?_) (λc=>absurd (d9 (by rw[e])) c)⟩;exact q H (aj.refl H)
 |cons c r=>
  have m:=ZkS z;rw[a,Wi] at m;rw[Qo a] at q;refine⟨_,rfl,rfl,_,rfl,bY (λb=>?_) (λ_=>?_)⟩
  ·have e:=V.str.inj (fI b);have p:(Str.ofString "").cps.toList=[]:=QK
   rw[e,p] at a;cases a
  refine⟨_,rfl,z,rfl,(Nat.le_trans G (by decide)),_,_,rfl,rfl,_,rfl,bY (λb=>?_) (λb=>?_)⟩
  ·have l:=fI b;rw[jb (by omega:¬z.length<=12)] at q;exact q H (aj.refl H)
  have A:z.length<=12:=by
   grind
  rw[d9 A,AV] at q;refine⟨_,rfl,_,_,_,rfl,rfl,(Nat.le_trans G (by decide)),iz (by rw[a];rfl),_,_,rfl,rfl,_,rfl,bY (λb=>?_) (λb=>aZ ?_)⟩
  ·have l:ij qu c=bg:=by
    have z:(!ij qu c)=af:=b;cases e:ij qu c;·rfl
    ·rw[e] at z;cases z
   rw[l,Qco] at q;exact q H (aj.refl H)
  have t:ij qu c=af:=by
   cases e:ij qu c;·exact absurd (show(!ij qu c)=af by rw[e];rfl) b
   ·rfl
  rw[t,AV,←a] at q;refine⟨_,rfl,z,rfl,λD n=>Zeu (Nat.le_trans G (by decide)) n (λc=>V.bl (ij nZ c)) (λi c L d g N k=>?_) λd g o=>?_⟩;·exact⟨_,rfl,_,_,rfl,rfl,k d (aj.refl _)⟩
  ·refine⟨D,z.cps.toList.map (ij nZ),rfl,aq.of (by rw[o,Y6];rfl),?_⟩;exact Na▸q d g
def eB.more(h:eB n m c)(l:m<=g):eB n g c:=⟨by have:=h.one;exact Nat.lt_of_lt_of_le this l,λe=>by obtain⟨⟨a,b⟩,d⟩:=h.ic e;exact⟨⟨a,(Nat.lt_of_lt_of_le b l)⟩,d⟩⟩
def fF.more(h:fF xs a m c)(l:m<=b):fF xs a b c:=⟨h.ok.more l,h.kind,h.Ma⟩
def Zi6{f g:Nat->Int}(a:eB n m c)(e:∀i,i<m->g i=f i)(s:e_ f c):e_ g c:=⟨λh=>by rw[e _ a.one];exact s.1 h,λh=>by rw[e _ a.one,e _ (a.ic h).1.2];exact s.2 h⟩
section
variable {xs X:O Int}{b:BS}
def cE.ZkT(a:cE xs X b)(l:n∉b.ps.map (·.1))(o:b.ps.length<64)(r:b.co<=y)(x:t.length<=200)(j:un.length<=200):cE xs X {b with ps:=b.ps++[(n,s)],co:=y,dn:=t,un:=un}:=by
 have e:=λp d=>(a.fg p d).ok;have len:(b.ps++[(n,s)]).length=b.ps.length+1:=by rw[Yj];rfl
 refine⟨a.gd,?_,by show(b.ps++[(n,s)]).length<=64;exact Nat.le_trans (Nat.le_of_eq len) (Nat.succ_le_of_lt o),a.fl,λp d=>?_,a.zs,λp d=>Y3 (a.lt p d) r,?_,?_,?_,x,j⟩
 ·show((b.ps++[(n,s)]).map (·.1)).Nodup;rw[Yn];refine Wy.mpr ⟨a.nm,QS,λu D v A z=>?_⟩
  grind
 ·exact len▸(a.fg p d).more (Jt _)
 ·show(b.fs.map λp=>gu (b.ps++[(n,s)]) p.2).Nodup;rw[(Jb λp d=>by rw[Sr (e p d)])];exact a.ky
 ·show((cQ (b.ps++[(n,s)]) b.fs).map (·.1)).Nodup;rw[Ss e];exact a.pr
 ·refine bo a.lv λf q k=>?_;refine⟨λi=>if i<b.ps.length then f i else 0,λi g=>?_,λc m=>?_⟩
  ·show 0<=(if i<b.ps.length then f i else 0)/\(if i<b.ps.length then f i else 0)<(xs.length:Int);by_cases h:i<b.ps.length;·rw[bC h];exact q i h
   ·rw[bF h];have:=a.gd.2.2.2.1
    grind
  ·obtain⟨p,d,rfl⟩:=Yf.mp m;exact Zi6 (e p d) (λi g=>bC g) (k _ m)
theorem cE.V7(g:cE xs X b)(N:fF xs X b.ps.length c)(o:z∉b.fs.map (·.1))(r:gu b.ps c∉b.keys)(q:cZ c.k=af->[.inr c.k,.inr (au b.ps c.one)]∉(cQ b.ps b.fs).map (·.1))(s:∃f,kC xs.length b.ps.length f/\∀h∈b.F++[c],e_ f h)(t:b.fs.length<63)(D:b.co<=co)(J:z<co)(H:G.length<=200)(k:un.length<=200):cE xs X {b with fs:=b.fs++[(z,c)],co:=co,dn:=G,un:=un}:=by
 have a:∀{i:Type} {l:O i} {x:i},l.Nodup->x∉l->(l++[x]).Nodup:=λ{i l x} F E=>Wy.mpr ⟨F,QS,λu L v A e=>by
  have:v=x:=by simpa using A
  exact E (by rwa[←this,←e])⟩
 refine⟨g.gd,g.nm,g.m,by show(b.fs++[(z,c)]).length<=63;rwa[Yj],λp d=>?_,?_,λp d=>?_,?_,?_,?_,H,k⟩
 ·rcases Yv.mp d with d|d;·exact g.fg p d
  ·rwa[Yi.mp d]
 ·show((b.fs++[(z,c)]).map (·.1)).Nodup;exact Yn▸a g.zs o
 ·rcases Yv.mp d with d|d;·exact Y3 (g.lt p d) D
  ·rwa[Yi.mp d]
 ·show((b.fs++[(z,c)]).map λp=>gu b.ps p.2).Nodup;exact Yn▸a g.ky r
 ·show((cQ b.ps (b.fs++[(z,c)])).map (·.1)).Nodup;cases e:cZ c.k with
  |true=>rw[Rm e,Yn];exact a g.pr (q e)
  |false=>rw[Rn e];exact g.pr
 ·refine bo s λf y n=>?_;refine⟨f,y,λh m=>n h ?_⟩;have j:h∈(b.fs++[(z,c)]).map (·.2):=m;rw[Yn] at j;exact j
def cE.drop(a:cE xs X b)(z:Nat)(i:b.co<=l)(k:j.length<=200)(e:un.length<=200):cE xs X {b with fs:=dt z b.fs,co:=l,dn:=j,un:=un}:=by
 have sub:(dt z b.fs).Sublist b.fs:=Qbw;refine⟨a.gd,a.nm,a.m,Yy sub.length_le a.fl,λp d=>a.fg p (sub.subset d),a.zs.sublist (sub.map _),λp d=>Y3 (a.lt p (sub.subset d)) i,a.ky.sublist (sub.map _),?_,?_,k,e⟩
 ·show((cQ b.ps (dt z b.fs)).map (·.1)).Nodup;refine a.pr.sublist ?_;unfold cQ
  grind
 ·refine bo a.lv λf h g=>?_;exact⟨f,h,λc m=>g c ((sub.map _).subset m)⟩
end
noncomputable def BS.LB(b:BS)(n s:ar):BS:={b with ps:=b.ps++[(n,s)],co:=b.co,dn:=b.dn++[⟨1,[.inr n,.inr s],b.co,b.co⟩],un:=[]}
def BS.oj(b:BS)(c:Fc):BS:={b with fs:=b.fs++[(b.co,c)],co:=b.co+1,dn:=b.dn++[⟨1,eF b.ps b.co c,b.co,b.co+1⟩],un:=[]}
def BS.without(b:BS)(z:Nat)(c:Fc):BS:={b with fs:=dt z b.fs,co:=b.co,dn:=b.dn++[⟨-1,eF b.ps z c,b.co,b.co⟩],un:=[]}
def Lb(s:ar):cu:=gT (.str s) [.str "man",.str "woman"]
structure Mc(b:BS)(n s:ar):Prop where
 ZkU:uQ n=af
 side:Lb s=af
 new:n∉b.ps.map (·.1)
 lim:b.ps.length<64
 nl:n.length<=1000
structure De(xs ys:O Int)(b:BS)(c:Fc):Prop where
 fg:fF xs ys b.ps.length c
 nk:gu b.ps c∉b.keys
 np:cZ c.k=af->[.inr c.k,.inr (au b.ps c.one)]∉(cQ b.ps b.fs).map (·.1)
 lv:∃f,kC xs.length b.ps.length f/\∀c'∈b.F++[c],e_ f c'
 lim:b.fs.length<63
inductive Rq(C CL CJ:U)(e:O V)(H:Hp)(Q:VK)(E:XK):Prop
 |mk (l:BL) (b:BS) (d c:O Int) (n s:ar) (i:e=[.ref l.h,.str n,.str s]) (h:bu H C CL CJ l d c b) (g:Mc b n s) (q:∀a,aj H a->Q .ay a)
inductive Rr(C CL CJ:U)(g:O V)(H:Hp)(Q:VK)(E:XK):Prop
 |mk (l:BL) (b:BS) (c a:O Int) (n s:ar) (j:g=[.ref l.h,.str n,.str s]) (i:bu H C CL CJ l c a b) (ok:cE c a b) (h:Mc b n s) (dl:b.dn.length<200) (q:∀(e:BL) (d:Hp),bT H d l e->bu d C CL CJ e c a (b.LB n s)->Q .ay d)
inductive Lc(C CL CJ:U)(i:O V)(H:Hp)(Q:VK)(E:XK):Prop
 |mk (l:BL) (b:BS) (d a:O Int) (h:U) (c:Fc) (n:i=[.ref l.h,.ref h]) (m:bu H C CL CJ l d a b) (ok:cE d a b) (k:dM H b.ps h (b.co,c)) (j:De d a b c) (dl:b.dn.length<200) (q:∀(g:BL) (e:Hp),bT H e l g->bu e C CL CJ g d a (b.oj c)->Q (.int (b.co:Int)) e)
inductive Uc(C CL CJ:U)(h:O V)(H:Hp)(Q:VK)(E:XK):Prop
 |mk (l:BL) (b:BS) (d a:O Int) (z:Nat) (c:Fc) (j:h=[.ref l.h,.int (z:Int)]) (i:bu H C CL CJ l d a b) (ok:cE d a b) (m:(z,c)∈b.fs) (dl:b.dn.length<200) (q:∀(g:BL) (e:Hp),bT H e l g->bu e C CL CJ g d a (b.without z c)->Q .ay e)
inductive Sy(C CL CJ:U)(e:O V)(H:Hp)(Q:VK)(E:XK):Prop
 |mk (x g L:U) (d c:O Int) (j:e=[.ref x,.ref L]) (i:H x=Z (.ins C g [])) (h:jH H CL L d c) (q:∀(l:BL) (b:Hp),l.h=x->(∀a∈l.fp,a≠x->H a=aJ)->aG x H b->bu b C CL CJ l d c ⟨[],[],0,[],[]⟩->Q .ay b)
def jH.free(g:jH H CL L xs ys)(A:∀a∈fp,H a=aJ\/∃C b,H a=Z (.ins C b []))(o:Out fp H c):jH c CL L xs ys:=by
 obtain⟨b,d,m,f,w,j,h,i,st,y,x,v,t,s,r,q,p,l⟩:=g;have k:∀{a:U} {u:HO},H a=Z u->(∀C b,u≠.ins C b [])->c a=Z u:=λ{a u} e n=>o _ _ e λz=>by
  grind
 exact⟨b,d,m,f,w,j,h,i,st,k y (λ_ _ z=>by cases z),k x (λ_ _ z=>by cases z),k v (λ_ _ z=>by cases z),k t (λ_ _ z=>by cases z),k s (λ_ _ z=>by cases z),k r (λ_ _ z=>by cases z),k q (λ_ _ z=>by cases z),k p (λ_ _ z=>by cases z),k l (λ_ _ z=>by cases z)⟩
noncomputable abbrev Df:O ar:=["hearth","name","side"]
def ZaK:aW Df Df (aL FH):=.bp
def ZaL(F:aT K "check_person" "check_person" FH f fd)(N:HasFn P w K B I 1 "is_name" ["text"] Rp)(r:B "MAN"=Z (.str "man" t1))(o:B "WOMAN"=Z (.str "woman" R))(m:cI P w K B I 1 "people" C gI (JN C CL CJ)):aI P w K B I aR 2 f fd Df (Rq C CL CJ):=by
 refine F.o ZaK λs H e h=>?_;obtain⟨l,b,k,j,n,s,rfl,L,a,q⟩:=h;refine⟨_,(ak (aX (PW.pt (pw_or (gn (d5 (bh N e (aa (pv 1) ag)))) (pw_or1 (gm (xg (K:=K) rfl) (pv 2) (du (aa (dW (v:=.str "man") rfl r ⟨_,rfl⟩) (aa (dW (v:=.str "woman") rfl o ⟨_,rfl⟩) ag))) QU)))) ir a_) (av (aX (gm (oI rfl) (pv 1) (qA m e (by decide) (pv 0)) QU) ir a_))),?_⟩;refine mI ?_;intros;have sz:(10000:Nat)<=sizeLine:=by rw[d6];decide
 refine⟨_,rfl,n,rfl,a.nl,λH1 D=>⟨_,rfl,?_⟩⟩;rw[a.ZkU];refine bV ?_;refine⟨_,rfl,by show 2<=sizeLine;decide,λp X T A c=>⟨p,_,rfl,.inr (az.of c),rfl,rfl,_,rfl,?_⟩⟩;have t:gT (.str s) [.str "man",.str "woman"]=af:=a.side;dsimp only;rw[bC rfl,t];refine bV (aZ ?_);have g:=D.trans A;have d:=L.same g;obtain⟨J,x⟩:=d.obj;refine⟨_,rfl,_,rfl,l.h,J,_,rfl,x,rfl,l,b,k,j,rfl,d,λu Q W y G=>?_⟩;have E:(b.ps.map λp=>V.str p.1).all kh=af:=by
  rw[Na,Wo];intro p _;rfl
 refine⟨u,_,rfl,.inl (aq.of G),rfl,E,_,rfl,?_⟩;try dsimp only
 have no:gT (.str n) (b.ps.map λp=>V.str p.1)=bg:=by
  unfold gT;rw[List.any_map,Xh];intro p c z;have i:(p.1==n)=af:=z;exact a.new (by rw[←eq_of_beq i];exact Yf.mpr ⟨p,c,rfl⟩)
 rw[bF Yl,no];exact bV (aZ (q Q (g.trans y)))
noncomputable abbrev Dg:O ar:=["self","name","side"]
def ZaB:aW Dg Dg (aL Fu):=.bp
def ZeO(F:aT K "person" "Hearth.person" Fu f fd)(i:fE K C)(x:B "PUT_IN"=Z (.int 1 t1))(E:HasFn P w K B I 2 "check_person" Df (Rq C CL CJ))(y:cI P w K B I 10 "do_deed" C oA (BW C CL CJ)):aI P w K B I aR 11 f fd Dg (Rr C CL CJ):=by
 refine F.o ZaB λs H g h=>?_;obtain⟨l,b,e,d,n,s,rfl,t,ok,a,dl,q⟩:=h;refine⟨_,(ak (cz (bh E g (aa (pv 0) (aa (pv 1) (aa (pv 2) ag))))) (av (cz (cY y g (by decide) (pv 0) (aa (dW (v:=.int (1)) rfl x ⟨_,rfl⟩) (aa (du (aa (pv 1) (aa (pv 2) ag))) (aa (pF K 0) ag))))))),?_⟩;refine mI ?_;intros;refine⟨_,rfl,_,rfl,_,rfl,l,b,e,d,n,s,rfl,t,a,λL m=>?_⟩;have p:=t.same m;obtain⟨o,k⟩:=p.obj;refine⟨_,rfl,l.h,o,_,rfl,k,rfl,_,rfl,_,rfl,by show 2<=sizeLine;decide,λr J G c j=>?_⟩;refine⟨_,rfl,l.h,C,o,_,_,rfl,c _ _ k,i.cls,i.rO,rfl,l,b,_,e,d,r,1,b.co,[.inr n,.inr s],rfl,p.same c,ok,dl,j,.pin n s j a.new a.lim,λz D u A=>?_⟩;exact q z D (bT.after (m.trans c) u) A
def yE:aW V4 u_ (aL F6):=.bp
def Zhu(F:aT K "keep" "Hearth.keep" F6 f fd)(j:fE K C)(N:B "PUT_IN"=Z (.int 1 t1))(G6:HasFn P w K B I 5 "fact_fits" u7 (T8 CL CJ))(Q:cI P w K B I 8 "joins" C gI (Cd C CL CJ))(R:cI P w K B I 10 "do_deed" C oA (BW C CL CJ)):aI P w K B I aR 11 f fd u_ (Lc C CL CJ):=by
 refine F.o yE λs H u h=>?_;obtain⟨l,b,o,n,y,c,rfl,A,ok,x,d,dl,q⟩:=h;refine⟨_,(ak (mN (pv 1) (iP (K:=K) rfl rfl (bW (bI 2 yE.nd) (bW (bI 3 yE.nd) (bW (bI 4 yE.nd) (bW (bI 5 yE.nd) iN)))))) (ak (aX (gn (d5 (bh G6 u (aa (qA Q u (by decide) (pv 0)) (aa (pF K 0) (aa (pF K 0) (aa (pv 1) ag))))))) ir a_) (ak (cz (cY R u (by decide) (pv 0) (aa (dW (v:=.int (1)) rfl N ⟨_,rfl⟩) (aa (pv 1) (aa (bA iQ (pv 2) aP) ag))))) (av (aK (pv 2)))))),?_⟩;refine pz ?_;intros;obtain⟨dx,h1⟩:=A.obj;refine⟨_,rfl,y,_,rfl,az.of x,rfl,_,_,rfl,bj ⟨_,_,rfl,bj ⟨_,_,rfl,bj ⟨_,_,rfl,bj ⟨rfl,?_⟩⟩⟩⟩⟩;refine⟨_,rfl,l.h,dx,_,rfl,h1,rfl,l,b,o,n,rfl,A,ok,λa jl st H1 g m r1 r2 ja E len gY _=>?_⟩;obtain⟨i,e1⟩:=m.obj;have t:H1 l.h=Z (.ins C i (HF a.L a.sd a.pl a.fc a.kn a.pr (b.co:Int) a.dn a.un a.rk)):=by rwa[←g.h]
 have L:=g.out _ _ x (A.tup x);have im:=ok.m;refine⟨_,rfl,l.h,C,i,_,_,rfl,t,j.cls,j.uE,rfl,_,rfl,l.h,C,i,_,_,rfl,t,j.cls,j.rN,rfl,_,rfl,jl,st,a.L,a.pl,y,o,n,b.ps,b.F,b.co,c,rfl,ja,E,m.landAt,ok.gd,m.places,ok.nm,len,(Nat.le_trans im (by decide)),L,d.fg,λ_ H2 k=>?_,λno=>?_⟩
 ·refine⟨_,rfl,bV (aZ ?_)⟩;have T:=m.same k;have J:=k _ _ L;have W:b.co∉b.fs.map (·.1):=λz=>by
   refine bo (Yf.mp z) λp hp e=>?_;have:=ok.lt p hp;omega
  refine⟨_,rfl,l.h,i,_,rfl,k _ _ t,rfl,_,rfl,_,rfl,_,_,rfl,rfl,a,b,_,o,n,y,1,b.co+1,eF b.ps b.co c,?_,T,ok,dl,J,.fin b.co c J d.fg W d.nk d.np d.lv d.lim,λl' H3 r fO=>?_⟩;·rw[g.h];rfl
  ·exact⟨_,rfl,q l' H3 ((g.same k).trans r) fO⟩
 ·refine bo d.lv λG i0 D=>?_;exact absurd (D c (Yr _ Yo)) (no G ((E.iff G).mpr ⟨by rwa[len],λc' X=>D c' (Yt _ X)⟩))
def Za4:aW zZ zZ (aL F7):=.bp
def Zhv(F:aT K "take" "Hearth.take" F7 f fd)(a:fE K C)(A:B "TAKEN_OUT"=Z (.int (-1) t1))(t:cI P w K B I 10 "do_deed" C oA (BW C CL CJ)):aI P w K B I aR 11 f fd zZ (Uc C CL CJ):=by
 refine F.o Za4 λs H i h=>?_;obtain⟨l,b,p,o,z,c,rfl,d,ok,m,dl,q⟩:=h;refine⟨_,(ak (aX (lJ (oS (bL i) (pv 1) (pF K 0)) QU) ir a_) (av (cz (cY t i (by decide) (pv 0) (aa (dW (v:=.int (-1)) rfl A ⟨_,rfl⟩) (aa (dm (bL i) (pF K 0) (pv 1) (λ_ _=>rfl)) (aa (pF K 0) ag))))))),?_⟩;refine mI ?_;intros;obtain⟨g,e⟩:=d.obj;refine bo (Kq d.fact ok.zs m) λj n k=>?_;refine⟨_,rfl,_,rfl,l.h,C,g,_,_,rfl,e,a.cls,a.rT,rfl,l.fc,Z (.ref j),rfl,qB d.facts n,_,rfl,bV (aZ ?_)⟩;refine⟨_,rfl,l.h,g,_,rfl,e,rfl,_,rfl,l.h,C,g,_,_,rfl,e,a.cls,a.rT,rfl,_,rfl,l.fc,.ref j,rfl,qB d.facts n,_,rfl,l.h,C,g,_,_,rfl,e,a.cls,a.rO,rfl,l,b,_,p,o,j,-1,b.co,eF b.ps z c,rfl,d,ok,dl,k,.u9 z c k m,λu y r x=>?_⟩;exact q u y r x
noncomputable abbrev Dh:O ar:=["self","land"]
def Za5:aW Dh Dh (aL F5):=.bp
theorem Zgd(F:aT K "__init__" "Hearth.__init__" F5 f fd)(b:fE K C):aI P w K B I aR 1 f fd Dh (Sy C CL CJ):=by
 refine F.o Za5 λs H hr h=>?_;obtain⟨x,g,L,xs,ys,rfl,hx,la,q⟩:=h;refine⟨_,(ak (iO (K:=K) rfl (pv 0) (pv 1)) (ak (iO (K:=K) rfl (pv 0) rH) (ak (iO (K:=K) rfl (pv 0) rH) (ak (iO (K:=K) rfl (pv 0) rH) (ak (iO (K:=K) rfl (pv 0) P6) (ak (iO (K:=K) rfl (pv 0) P6) (ak (iO (K:=K) rfl (pv 0) aP) (ak (iO (K:=K) rfl (pv 0) (dU ag)) (ak (iO (K:=K) rfl (pv 0) (dU ag)) (av (iO (K:=K) rfl (pv 0) lI))))))))))),?_⟩;refine CU ?_;intros;refine⟨_,rfl,_,rfl,x,C,g,[],rfl,hx,b.cls,b.uE,by show 0<1000;decide,λH1 b1 h1=>?_⟩;refine λsd Q n2 g2 G=>⟨_,rfl,x,C,g,_,rfl,g2 _ _ h1,b.cls,b.uw,by show 1<1000;decide,λH3 b3 h3=>?_⟩;refine λpl H4 n4 g4 W=>⟨_,rfl,x,C,g,_,rfl,g4 _ _ h3,b.cls,b.rN,by show 2<1000;decide,λH5 b5 h5=>?_⟩;refine λfc H6 n6 g6 e6=>⟨_,rfl,x,C,g,_,rfl,g6 _ _ h5,b.cls,b.rT,by show 3<1000;decide,λH7 b7 h7=>?_⟩;refine λkn H8 R T e8=>⟨_,rfl,x,C,g,_,rfl,T _ _ h7,b.cls,b.B_,by show 4<1000;decide,λH9 N h9=>?_⟩;refine λpr qX D A q0=>⟨_,rfl,x,C,g,_,rfl,A _ _ h9,b.cls,b.wO,by show 5<1000;decide,λAr y h11=>?_⟩;refine⟨_,rfl,x,C,g,_,rfl,h11,b.cls,b.rO,by show 6<1000;decide,λyi v DT=>?_⟩;refine⟨by show 0<=sizeLine;exact Yx _,λdn DU p r Zi=>⟨_,rfl,x,C,g,_,rfl,r _ _ DT,b.cls,b.Cv,by show 7<1000;decide,λsS m Zj=>?_⟩⟩;refine⟨by show 0<=sizeLine;exact Yx _,λun M0 j Zk e15=>⟨_,rfl,x,C,g,_,rfl,Zk _ _ Zj,b.cls,b.JK,by show 8<1000;decide,λXQ b16 h16=>?_⟩⟩;refine⟨_,rfl,x,C,g,_,rfl,h16,b.cls,b.jD,by show 9<1000;decide,λrp b17 Zl=>?_⟩;rw[ZkK] at Zl;have Zm:aG x M0 rp:=b16.trans b17;have Zn:aG x DU rp:=m.trans ((aG.of Zk).trans Zm);have Zo:aG x qX rp:=y.trans (v.trans ((aG.of r).trans Zn));have j8:aG x H8 rp:=N.trans ((aG.of A).trans Zo);have j6:aG x H6 rp:=b7.trans ((aG.of T).trans j8);have j4:aG x H4 rp:=b5.trans ((aG.of g6).trans j6);have j2:aG x Q rp:=b3.trans ((aG.of g4).trans j4);have j0:aG x H rp:=b1.trans ((aG.of g2).trans j2);have i3:aG x H H3:=b1.trans ((aG.of g2).trans b3);have i5:aG x H H5:=i3.trans ((aG.of g4).trans b5);have i7:aG x H H7:=i5.trans ((aG.of g6).trans b7);have i9:aG x H H9:=i7.trans ((aG.of T).trans N);have i12:aG x H yi:=i9.trans ((aG.of A).trans (y.trans v));have i14:aG x H sS:=i12.trans ((aG.of r).trans m);have E:∀{a:U} {H':Hp},aG x H H'->a≠x->H' a=aJ->H a=aJ:=λ{a H'} k d n=>by
  cases e:H a with
  |none=>rfl
  |some o=>rw[k a o e d] at n;cases n
 have t:sd≠x:=λz=>by rw[z,h1] at n2;cases n2
 have J:pl≠x:=λz=>by rw[z,h3] at n4;cases n4
 have X:fc≠x:=λz=>by rw[z,h5] at n6;cases n6
 have d8:kn≠x:=λz=>by rw[z,h7] at R;cases R
 have Es:pr≠x:=λz=>by rw[z,h9] at D;cases D
 have NV:dn≠x:=λz=>by rw[z,DT] at p;cases p
 have Zp:un≠x:=λz=>by rw[z,Zj] at j;cases j
 have ne:∀{a c:U} {Ha Hc:Hp} {o:HO},Ha a=Z o->aG x Ha Hc->a≠x->Hc c=aJ->a≠c:=λ{a c Ha Hc o} e k d n z=>by rw[←z,k a o e d] at n;cases n
 have k24:aG x Q H3:=b3;have Zq:aG x Q H5:=b3.trans ((aG.of g4).trans b5);have Zr:aG x Q H7:=Zq.trans ((aG.of g6).trans b7);have V8:aG x Q H9:=Zr.trans ((aG.of T).trans N);have V9:aG x Q yi:=V8.trans ((aG.of A).trans (y.trans v));have ZkV:aG x Q sS:=V9.trans ((aG.of r).trans m);have Zs:aG x H4 H7:=b5.trans ((aG.of g6).trans b7);have V_:aG x H4 H9:=Zs.trans ((aG.of T).trans N);have WA:aG x H4 yi:=V_.trans ((aG.of A).trans (y.trans v));have ZkW:aG x H4 sS:=WA.trans ((aG.of r).trans m);have WB:aG x H6 H9:=b7.trans ((aG.of T).trans N);have WC:aG x H6 yi:=WB.trans ((aG.of A).trans (y.trans v));have ZkX:aG x H6 sS:=WC.trans ((aG.of r).trans m);have WD:aG x H8 yi:=N.trans ((aG.of A).trans (y.trans v));have ZkY:aG x H8 sS:=WD.trans ((aG.of r).trans m);have U8:aG x qX yi:=y.trans v;have ZjY:aG x qX sS:=U8.trans ((aG.of r).trans m);let l:BL:=⟨x,L,sd,pl,fc,kn,pr,dn,un,.ay,[],[],[],[]⟩;have Et:∀a∈l.fp,a≠x->H a=aJ:=λa ha i=>by
  have kX:a∈[x,sd,pl,fc,kn,pr,dn,un]:=by
   have:l.fp=[x,sd,pl,fc,kn,pr,dn,un]:=rfl;rw[this] at ha;exact ha
  simp only[Ym,Y2,i1] at kX;rcases kX with rfl|rfl|rfl|rfl|rfl|rfl|rfl|rfl;·exact absurd rfl i
  ·exact E b1 i n2
  ·exact E i3 i n4
  ·exact E i5 i n6
  ·exact E i7 i R
  ·exact E i9 i D
  ·exact E i12 i p
  ·exact E i14 i j
 refine q l rp rfl Et j0 ⟨⟨g,Zl⟩,λH' o=>?_,j2 _ _ G t,j4 _ _ W J,j6 _ _ e6 X,.nil,j8 _ _ e8 d8,Zo _ _ q0 Es,Zn _ _ Zi NV,.nil,Zm _ _ e15 Zp,.nil,.no rfl rfl,?_⟩
 ·refine la.free (fp:=l.fp) (λa ha=>?_) λa u e i=>o _ _ (j0 _ _ e λz=>i (by rw[z];exact Yo)) i;by_cases z:a=x;·rw[z];exact .inr ⟨C,g,hx⟩
  ·exact .inl (Et a ha z)
 ·show[x,sd,pl,fc,kn,pr,dn,un].Nodup;simp only[Y0,Ym,Y2,i1,k8,Xl,Jj,and_true];exact⟨⟨t.symm,J.symm,X.symm,d8.symm,Es.symm,NV.symm,Zp.symm⟩,⟨ne G k24 t n4,ne G Zq t n6,ne G Zr t R,ne G V8 t D,ne G V9 t p,ne G ZkV t j⟩,⟨ne W b5 J n6,ne W Zs J R,ne W V_ J D,ne W WA J p,ne W ZkW J j⟩,⟨ne e6 b7 X R,ne e6 WB X D,ne e6 WC X p,ne e6 ZkX X j⟩,⟨ne e8 N d8 D,ne e8 WD d8 p,ne e8 ZkY d8 j⟩,⟨ne q0 U8 Es p,ne q0 ZjY Es j⟩,ne Zi m NV j⟩
noncomputable def strOf:V->ar
 |.str s=>s
 |_=>""
def iE(b:BS)(a:ar):O ar:=(qC b a).map strOf
inductive iq(b:BS)(a:ar):ar->Prop
 |refl:iq b a a
 |step {x y:ar}:iq b a x->y∈iE b x->iq b a y
theorem Sz(i:cE xs u b)(h:aY (cQ b.ps b.fs) [.inr k,.inr a]=Z v):∃p∈b.fs,cZ p.2.k=af/\p.2.k=k/\au b.ps p.2.one=a/\v=.str (au b.ps p.2.aU.toNat)/\p.2.aU.toNat<b.ps.length:=by
 have m:([.inr k,.inr a],v)∈cQ b.ps b.fs:=by
  unfold aY at h;cases x:(cQ b.ps b.fs).find? λj=>decide (j.1=[.inr k,.inr a]) with
  |none=>grind
  |some q=>grind
 refine bo (Yf.mp m) λp l e=>?_;obtain⟨d,c⟩:=Y5.mp l;injection e with t s;injection t with r o;injection o with n _;have g:p.2.k≠bb:=λz=>by
  rw[z] at c;exact absurd c QK
 refine⟨p,d,c,Y9 r,Y9 n,?_,((i.fg p d).ok.ic g).1.2⟩;rw[←s,jj g];rfl
def Pz(d:cE xs i b)(a:ar):qC b a=(iE b a).map V.str/\(∀s∈iE b a,s∈b.ps.map (·.1))/\(iE b a).length<=2:=by
 have all:∀v∈qC b a,∃s,v=.str s/\s∈b.ps.map (·.1):=λv c=>by
  obtain⟨k,_,e⟩:=Jr.mp c;obtain⟨p,_,_,_,_,h,l⟩:=Sz d e;exact⟨_,h,rV l⟩
 refine⟨?_,λs g=>?_,?_⟩
 ·unfold iE;rw[Y6];refine(List.map_id _).symm.trans (Jb λv c=>?_);obtain⟨s,rfl,_⟩:=all v c;rfl
 ·obtain⟨v,c,rfl⟩:=Yf.mp g;obtain⟨s,rfl,m⟩:=all v c;exact m
 ·unfold iE qC
  grind
noncomputable def jB(a:O ar)(b:O U):O (Key×V):=(a.zip b).map λp=>(.inr p.1,.ref p.2)
theorem Rt:∀{b:O ar} {as:O U},b.length=as.length->(jB b as).map (·.1)=b.map Sum.inr
 |[],[],_=>rfl
 |k::b,a::as,h=>by
  have c:jB (k::b) (a::as)=(Sum.inr k,V.ref a)::jB b as:=rfl;rw[c,Wj,Rt (by simpa using h)];rfl
 |[],_::_,h=>rfl
 |_::_,[],h=>by simp at h
theorem Ru:∀{b:O ar} {as:O U} (k:ar) (a:U),b.length=as.length->jB b as++[(.inr k,.ref a)]=jB (b++[k]) (as++[a])
 |[],[],_,_,_=>rfl
 |q::b,c::as,k,a,h=>by
  have d:jB (q::b) (c::as)=(Sum.inr q,V.ref c)::jB b as:=rfl;rw[d,XM,Ru k a (by simpa using h)];rfl
 |[],_::_,_,_,h=>by simp at h
 |_::_,[],_,_,h=>by simp at h
theorem Ku:∀{b:O ar} {as:O U} {k:ar},b.length=as.length->k∈b->∃a∈as,aY (jB b as) (.inr k)=Z (.ref a)
 |[],_,_,_,h=>by cases h
 |q::b,c::as,k,d,h=>by
  have g:jB (q::b) (c::as)=(Sum.inr q,V.ref c)::jB b as:=rfl;rw[g];by_cases e:q=k;·exact⟨c,Yo,gw (by rw[e])⟩
  ·rcases Ym.mp h with h|h;·grind
   ·obtain⟨a,m,v⟩:=Ku (by simpa using d) h;exact⟨a,Yw _ m,by rwa[gk (λz=>e (Y9 z))]⟩
 |_::_,[],_,h,_=>by simp at h
def JQ(b:a.length=as.length)(h:k∉a):aY (jB a as) (.inr k)=aJ:=qc (by
 rw[Rt b];intro z;obtain⟨q,c,e⟩:=Yf.mp z;exact h (by rwa[←Y9 e]))
structure sH(H H6:Hp)(ln:U)(ks:O ar)(as:O U):Prop where
 same:aj H H6
 at_:H6 ln=Z (.dK (jB ks as))
 len:ks.length=as.length
 lst:∀a∈as,∃us:O V,H6 a=Z (.lst us)/\us.length<=ks.length/\a≠ln
 nd:ks.Nodup
def IP(g:cE xs e b){c:O ar}(d:c.Nodup)(a:∀k∈c,k∈b.ps.map (·.1)):c.length<=b.ps.length:=by
 have:=d.length_le_of_subset a
 simp_all
theorem BX(c:cE xs e b)(d:a∈b.ps.map (·.1))(h:iq b a z):z∈b.ps.map (·.1):=by
 cases h with
 |refl=>exact d
 |step _ m=>exact(Pz c _).2.1 _ m
inductive SA(C CL CJ:U)(h:O V)(H:Hp)(Q:VK)(E:XK):Prop
 |mk (l:BL) (b:BS) (d c:O Int) (a:ar) (m:h=[.ref l.h,.str a]) (k:bu H C CL CJ l d c b) (ok:cE d c b) (j:a∈b.ps.map (·.1)) (q:∀(p:U) (e:O ar) (i:O U) (g:Hp),sH H g p e i->(∀z,z∈e↔iq b a z)->Q (.ref p) g)
def z6(b:U)(N:Nat):St->Hp->Nat:=λa H=>(match H b with|some (.dK kvs)=>2*(N-kvs.length)|_=>0)+(match List.getD (α:=bS V) a 3 aJ with|some (V.ref nw)=>(match H nw with|some (.lst (_::_))=>1|_=>0)|_=>0)
inductive Zt(H:Hp)(b:BS)(a:ar)(h g:U)(l:St)(j:Hp):Prop
 |mk (c d:O ar) (q:O U) (i:U) (o n m:bS V) (v:sH H j g c q) (x:j i=Z (.lst (d.map V.str))) (t:i≠g) (sub:∀k∈d,k∈c) (y:∀k∈c,k∉d->∀p∈iE b k,p∈c) (s:∀k∈c,iq b a k) (u:a∈c) (r:d.length<=64) (e:l=[Z (.ref h),Z (.str a),Z (.ref g),Z (.ref i),o,n,m]):Zt H b a h g l j
inductive NW(H:Hp)(b:BS)(a:ar)(h g d c:U)(o m:O ar)(j:Nat)(n:St)(l:Hp):Prop
 |mk (i fs:O ar) (q:O U) (s r:bS V) (v:sH H l g i q) (x:l d=Z (.lst (m.map V.str))) (y:l c=Z (.lst (fs.map V.str))) (u:d≠g/\c≠g/\c≠d) (D:c∉q) (z:i=o++fs) (A:∀k∈m.take j,∀p∈iE b k,p∈i) (t:∀k∈i,iq b a k) (e:n=[Z (.ref h),Z (.str a),Z (.ref g),Z (.ref d),Z (.ref c),s,r]):NW H b a h g d c o m j n l
inductive Zu(H:Hp)(b:BS)(a:ar)(h g l d:U)(s q:O ar)(j:Nat)(c:ar)(o:U)(i:Nat)(r:St)(n:Hp):Prop
 |mk (m fs:O ar) (t:O U) (u:bS V) (y:sH H n g m t) (A:n l=Z (.lst (q.map V.str))) (D:n d=Z (.lst (fs.map V.str))) (z:n o=Z (.lst ((iE b c).map V.str))) (x:l≠g/\d≠g/\d≠l/\o≠g/\o≠d) (J:d∉t) (E:m=s++fs) (G:∀k∈q.take j,∀p∈iE b k,p∈m) (F:∀p∈(iE b c).take i,p∈m) (v:∀k∈m,iq b a k) (e:r=[Z (.ref h),Z (.str a),Z (.ref g),Z (.ref l),Z (.ref d),Z (.str c),u]):Zu H b a h g l d s q j c o i r n
noncomputable abbrev vc:O ar:=["hearth","name"]
def ue:aW ["hearth","name","lines","newest","further","one","parent"] vc (aL Hn):=.bp
theorem ZcG(F:aT K "lines_up" "lines_up" Hn f fd)(E6:cI P w K B I 1 "parents_of" C kO (O2 C CL CJ)):aI P w K B I aR 2 f fd vc (SA C CL CJ):=by
 refine F.o ue λs H hr h=>?_;obtain⟨l,b,xs,ys,a,rfl,ba,ok,ma,q⟩:=h;refine⟨_,(ak (cj 2 ue.nd (zg (kG (pv 1) (dU (aa (pv 1) ag)) zf) rfl rfl (λz=>nomatch z) (Ji rfl))) (ak (cj 3 ue.nd (dU (aa (pv 1) ag))) (ak (IW iJ (BC (K:=K) rfl (BM (pv 3) (λ_=>rfl))) (ak (cj 4 ue.nd (dU ag)) (ak (fS iJ rfl (fD (K:=K) rfl (pv 3)) (bI 5 ue.nd) (av (fS iJ rfl (fD (K:=K) rfl (cY E6 hr (by decide) (pv 0) (aa (pv 5) ag))) (bI 6 ue.nd) (av (aX (lJ (oS (bL hr) (pv 6) (pv 2)) QU) (ak (oU (bL hr) (pv 2) (pv 6) (bA zh (dm (bL hr) (pv 2) (pv 5) (λ_ _=>rfl)) (dU (aa (pv 6) ag)))) (av (cz (nW (K:=K) rfl (kJ lg me lW oR (pv 4) (aa (pv 6) ag)))))) a_))))) (av (cj 3 ue.nd (pv 4)))))) (av (aK (pv 2)))))),?_⟩;refine pz ?_;intros;have sz:(10000:Nat)<=sizeLine:=by rw[d6];decide
 have im:=ok.m;refine cD ?_;refine λln Eu=>⟨_,rfl,_,rfl,by show 1<=sizeLine;decide,λll H0 Zv g0 hll=>?_⟩;refine⟨g0 _ _ a9,[(.inr a,.ref ll)],rfl,(by show 1<=15;decide),?_⟩;obtain⟨H1,tN⟩:∃H1,H1=upd H0 ln (.dK (oY [] [(.inr a,.ref ll)])):=⟨_,rfl⟩;rw[←tN];have Zw:ll≠ln:=λz=>by rw[z,a9] at Zv;cases Zv
 have g1:aj H H1:=λc o e=>by
  have nc:=cC e Eu;rw[tN,aS nc];exact g0 _ _ (by rw[aS nc];exact e)
 have Zx:sH H H1 ln [a] [ll]:=⟨g1,by rw[tN,a9];rfl,rfl,λc L=>by
  rw[Yi.mp L];exact⟨[.str a],by rw[tN,aS Zw];exact hll,Yd _,Zw⟩,QS⟩
 refine cD ?_;refine⟨_,rfl,by show 1<=sizeLine;decide,λnw H2 Zy g2 hnw=>?_⟩;have Zz:nw≠ln:=λz=>by rw[z,Zx.at_] at Zy;cases Zy
 have LC:∀{Ha Hb:Hp} {y:O ar} {as:O U},sH H Ha ln y as->aj Ha Hb->sH H Hb ln y as:=λD g=>⟨D.same.trans g,g _ _ D.at_,D.len,λc L=>by obtain⟨R,e,z,n⟩:=D.lst c L;exact⟨R,g _ _ e,z,n⟩,D.nd⟩;refine hU (λJ H6=>∃y as,sH H H6 ln y as/\(∀z,z∈y↔iq b a z)/\∃o3 o4 o5 o6:bS V,J=[Z (.ref l.h),Z (.str a),Z (.ref ln),o3,o4,o5,o6]) (λl9 eR=>?_) ?_
 ·refine IX (Zt H b a l.h ln) (z6 ln 100) ⟨[a],[a],[ll],nw,aJ,aJ,aJ,LC Zx g2,hnw,Zz,λ_ h=>h,λk d no=>absurd d no,λk d=>by rw[Yi.mp d];exact .refl,Yo,by show 1<=64;decide,rfl⟩ ?_ ?_
  ·rintro J H6 ⟨y,E,as,nw,o4,o5,o6,D,hn,nn,sub,cl,sd,ZA,vM,rfl⟩;have kf:y.length<=64:=Yy (IP ok D.nd λk d=>BX ok ma (sd k d)) im;refine⟨_,rfl,_,.inl ⟨_,aq.of hn,rfl⟩,?_⟩;refine bY (λc=>?_) (λc=>?_)
   ·have ZkZ:E≠[]:=λz=>by rw[z] at c;cases c
    have mu0:z6 ln 100 [Z (.ref l.h),Z (.str a),Z (.ref ln),Z (.ref nw),o4,o5,o6] H6=2*(100-y.length)+1:=by
     unfold z6;have kl:(jB y as).length=y.length:=by unfold jB;rw[Ya,Jc];have:=D.len;omega
     have g3:List.getD (α:=bS V) [Z (.ref l.h),Z (.str a),Z (.ref ln),Z (.ref nw),o4,o5,o6] 3 aJ=Z (.ref nw):=rfl;rw[D.at_,g3];dsimp only;rw[hn,kl];cases E with
     |nil=>exact absurd rfl ZkZ
     |cons x r=>rfl
    refine cD ?_;refine⟨by show 0<=sizeLine;exact Yx _,λfu H7 X g7 hfu=>?_⟩;have AK:=LC D g7;have ZC:fu≠ln:=λz=>by rw[z,D.at_] at X;cases X
    have fnw:fu≠nw:=λz=>by rw[z,hn] at X;cases X
    refine hU (NW H b a l.h ln nw fu y E E.length) (λEo pU=>?_) ?_
    ·refine⟨_,rfl,nw,rfl,⟨_,aq.of (g7 _ _ hn)⟩,jE (K:=K) (a:=nw) (xs:=E.map V.str) (NW H b a l.h ln nw fu y E) ⟨y,[],as,o5,o6,AK,g7 _ _ hn,hfu,⟨nn,ZC,fnw⟩,(λz=>by obtain⟨R,e,_⟩:=D.lst _ z;rw[X] at e;cases e),by rw[Wf],λk d=>(by rw[zj] at d;cases d),sd,rfl⟩ (λj J H8 _ ⟨_,_,_,_,_,_,h,_,_,_,_,_,_,_⟩=>aq.of h) ?_ ?_⟩
     ·rintro j v J H8 hj ⟨fZ,fs,Ew,p5,p6,N,ZD,lu,AW,ZE,Q,j9,Ex,rfl⟩;rw[Ye] at hj;obtain⟨one,e1,rfl⟩:∃one,E[j]?=Z one/\V.str one=v:=by
       cases z:E[j]? with
       |none=>rw[z] at hj;cases hj
       |some o=>rw[z] at hj;exact⟨o,rfl,Yp hj⟩
      have NX:E.take (j+1)=E.take j++[one]:=by rw[Y1,e1];rfl
      have Zmp:one∈fZ:=by rw[Q];exact Yt _ (sub _ (Yg e1))
      have ZF:=ba.same N.same;obtain⟨dx8,h8⟩:=ZF.obj;refine c9 (Pz ok one) λpe pin Nx=>?_;refine bj ?_;refine⟨_,rfl,l.h,dx8,_,rfl,h8,rfl,_,rfl,l,b,xs,ys,one,rfl,ZF,λpl H9 yk g9 cJ=>?_⟩;rw[pe] at cJ;have pln:pl≠ln:=λz=>by rw[z,N.at_] at yk;cases yk
      have plf:pl≠fu:=λz=>by rw[z,lu] at yk;cases yk
      refine⟨pl,rfl,⟨_,aq.of cJ⟩,jE (K:=K) (a:=pl) (xs:=(iE b one).map V.str) (Zu H b a l.h ln nw fu y E j one pl) ⟨fZ,fs,Ew,p6,LC N g9,g9 _ _ ZD,g9 _ _ lu,cJ,⟨AW.1,AW.2.1,AW.2.2,pln,plf⟩,ZE,Q,j9,λp t=>(by rw[zj] at t;cases t),Ex,rfl⟩ (λi J HA _ ⟨_,_,_,_,_,_,_,h,_,_,_,_,_,_,_⟩=>aq.of h) ?_ ?_⟩
      ·rintro i v J HA hi ⟨lC,AX,Ey,q6,A,Ez,pV,NY,G,AY,W,EA,AZ,T,rfl⟩;rw[Ye] at hi;obtain⟨par,e2,rfl⟩:∃par,(iE b one)[i]?=Z par/\V.str par=v:=by
        cases z:(iE b one)[i]? with
        |none=>rw[z] at hi;cases hi
        |some o=>rw[z] at hi;exact⟨o,rfl,Yp hi⟩
       have mp:=Yg e2;have ZG:(iE b one).take (i+1)=(iE b one).take i++[par]:=by rw[Y1,e2];rfl
       have WE:one∈lC:=by rw[W];exact Yt _ (sub _ (Yg e1))
       have kf9:lC.length<=64:=Yy (IP ok A.nd λk d=>BX ok ma (T k d)) im;refine bj ?_;by_cases vB:par∈lC
       ·obtain⟨ap,_,vp⟩:=Ku A.len vB;refine⟨_,rfl,_,rfl,ln,Z (.ref ap),rfl,df A.at_ vp,_,rfl,bV (aZ ?_)⟩;refine⟨lC,AX,Ey,_,A,Ez,pV,NY,G,AY,W,EA,λp t=>?_,T,rfl⟩;rw[ZG] at t;rcases Yv.mp t with t|t;·exact AZ p t
        ·rw[Yi.mp t];exact vB
       ·obtain⟨ao,mao,vo⟩:=Ku A.len WE;obtain⟨R,NZ,ul,aon⟩:=A.lst ao mao;refine⟨_,rfl,_,rfl,ln,aJ,rfl,df A.at_ (JQ A.len vB),_,rfl,c6 ?_⟩;refine⟨_,rfl,_,rfl,ln,.ref ao,rfl,df A.at_ vo,_,rfl,by show 1<=sizeLine;decide,λe1l HB neb gB heB=>?_⟩;refine⟨ao,e1l,R,_,rfl,rfl,gB _ _ NZ,heB,by show R.length+1<=sizeLine;omega,λnl HC N1 gC hnl=>?_⟩;have ZH:=gB.trans gC;refine⟨_,rfl,_,rfl,ln,_,.inr par,rfl,ZH _ _ A.at_,rfl,?_,λHD bD eD=>?_⟩;·unfold jB;rw[Ya,Jc];omega
        rw[lF _ (JQ A.len vB),Ru par nl A.len] at eD;have WG:nl≠ln:=λz=>by rw[z,gB _ _ A.at_] at N1;cases N1
        have kD:∀{c:U} {o:HO},HA c=Z o->c≠ln->HD c=Z o:=λ{c o} e n=>bD _ _ (ZH _ _ e) n;have ZI:HA nl=aJ:=gB.free N1;refine⟨_,rfl,.inl ⟨rfl,_,aq.of (kD pV G.2.1)⟩,_,rfl,fu,_,_,rfl,rfl,kD pV G.2.1,?_,λHE bE eE=>?_⟩
        ·rw[Ya];have:AX.length<=lC.length:=by rw[W,Yj];exact Nat.le_add_left _ _
         exact Nat.lt_of_le_of_lt this (Nat.lt_of_le_of_lt kf9 (by decide))
        have kE:∀{c:U} {o:HO},HA c=Z o->c≠ln->c≠fu->HE c=Z o:=λ{c o} e n1 n2=>bE _ _ (kD e n1) n2;have WH:nl≠fu:=λz=>by rw[z,pV] at ZI;cases ZI
        refine⟨lC++[par],AX++[par],Ey++[nl],_,⟨λc o e=>?_,bE _ _ eD (λz=>G.2.1 z.symm),by rw[Yj,Yj,A.len];rfl,λc L=>?_,?_⟩,kE Ez G.1 (λz=>G.2.2.1 z.symm),?_,kE NY G.2.2.2.1 G.2.2.2.2,G,(λz=>by rcases Yv.mp z with z|z;exact AY z;exact WH (Yi.mp z).symm),by rw[W,Jx],λk d p t=>Yt _ (EA k d p t),λp t=>?_,λk d=>?_,rfl⟩
        ·have nc:=cC e Eu;have ncf:c≠fu:=cC e ((D.same.free X));exact kE (A.same _ _ e) nc ncf
        ·rcases Yv.mp L with L|L
         ·obtain⟨us',e',z',n'⟩:=A.lst c L;have cf:c≠fu:=λz=>AY (by rw[←z];exact L);exact⟨us',kE e' n' cf,by rw[Yj];exact Nat.le_succ_of_le z',n'⟩
         ·rw[Yi.mp L];exact⟨R++[.str par],bE _ _ (bD _ _ hnl WG) WH,by rw[Yj,Yj];show R.length+1<=lC.length+1;exact Nat.add_le_add ul (by decide),WG⟩
        ·refine Wy.mpr ⟨A.nd,QS,λu hu v hv z=>?_⟩;have:v=par:=by simpa using hv
         exact vB (by rw[←this,←z];exact hu)
        ·rw[eE,Yn];rfl
        ·rw[ZG] at t;rcases Yv.mp t with t|t;·exact Yt _ (AZ p t)
         ·rw[Yi.mp t];exact Yr _ Yo
        ·rcases Yv.mp d with d|d;·exact T k d
         ·rw[Yi.mp d];exact .step (T one WE) mp
      ·rintro J HA ⟨lC,AX,Ey,q6,A,Ez,pV,NY,G,AY,W,EA,AZ,T,rfl⟩;rw[Ya,Wd] at AZ;refine⟨lC,AX,Ey,_,_,A,Ez,pV,⟨G.1,G.2.1,G.2.2.1⟩,AY,W,λk d=>?_,T,rfl⟩;rw[NX] at d;rcases Yv.mp d with d|d;·exact EA k d
       ·rw[Yi.mp d];exact AZ
     ·rintro J H8 h8;rw[Ya] at h8;exact pU _ _ h8
    ·rintro J H8 ⟨fZ,fs,Ew,p5,p6,N,ZD,lu,AW,ZE,Q,j9,Ex,rfl⟩;rw[Wd] at j9;refine⟨_,rfl,?_⟩;have kf8:fZ.length<=64:=Yy (IP ok N.nd λk d=>BX ok ma (Ex k d)) im;have ZJ:fZ.length=y.length+fs.length:=by rw[Q,Yj]
     refine⟨⟨fZ,fs,Ew,fu,_,_,_,N,lu,AW.2.1,λk d=>by rw[Q];exact Yr _ d,λk d no p t=>?_,Ex,by rw[Q];exact Yt _ ZA,QO,rfl⟩,?_⟩
     ·rw[Q] at d;rcases Yv.mp d with d|d
      ·by_cases z:k∈E;·exact j9 k z p t
       ·rw[Q];exact Yt _ (cl k d z p t)
      ·exact absurd d no
     ·rw[mu0];show z6 ln 100 [Z (.ref l.h),Z (.str a),Z (.ref ln),Z (.ref fu),Z (.ref fu),p5,p6] H8<_;unfold z6;have kl:(jB fZ Ew).length=fZ.length:=by unfold jB;rw[Ya,Jc];have:=N.len;omega
      have g3:List.getD (α:=bS V) [Z (.ref l.h),Z (.str a),Z (.ref ln),Z (.ref fu),Z (.ref fu),p5,p6] 3 aJ=Z (.ref fu):=rfl;rw[N.at_,g3];dsimp only;rw[lu,kl];cases fs with
      |nil=>
       show 2*(100-fZ.length)+0<_;have:fZ.length=y.length+0:=ZJ;omega
      |cons x r=>
       show 2*(100-fZ.length)+1<_;have:fZ.length=y.length+(r.length+1):=ZJ;omega
   ·have nse:E=[]:=by
     cases E with
     |nil=>rfl
     |cons x r=>exact absurd rfl c
    subst nse;refine eR _ _ ⟨y,as,D,λz=>⟨λh=>sd z h,λh=>?_⟩,_,_,_,_,rfl⟩;induction h with
    |refl=>exact ZA
    |step _ m ih=>exact cl _ ih (λz=>nomatch z) _ m
  ·rintro J H6 Q1 Q2 mo ⟨v1,w1,v2,w2,h⟩;exact⟨v1,w1,v2,w2,mo _ _ h⟩
 ·rintro J H6 ⟨y,as,D,iff,o3,o4,o5,o6,rfl⟩;exact⟨_,rfl,q ln y as H6 D iff⟩
noncomputable def g_(a:bP)(i:Nat):ar:=(a.getD i ("","")).2
def qv(d:(a.map (·.1)).Nodup)(c:i<a.length):aY (iI a) (.inr (au a i))=Z (.str (g_ a i)):=by
 have b:((iI a).map (·.1)).Nodup:=by
  grind
 refine Sq b (Yf.mpr ⟨a[i],J7 c,?_⟩);unfold au g_
 simp_all
noncomputable def mQ(k h t:ar):cu:=if k="mother" then decide (t="woman") else if k="father" then decide (t="man") else decide (k="sibling")||(decide (h="man")&&decide (t="woman"))
inductive SD(a:O V)(H:Hp)(Q:VK)(E:XK):Prop
 |mk (k h t:ar) (b:a=[.str k,.str h,.str t]) (q:Q (.bl (mQ k h t)) H)
structure Ud(b:BS)(k a:ar)(o:ar):Prop where
 par:cZ k=af->[.inr k,.inr a]∉(cQ b.ps b.fs).map (·.1)
 aU:cZ k=bg->keyOf k a (.inr o)∉b.keys/\¬(k="sibling"/\a=o)
inductive Ue(C CL CJ:U)(g:O V)(H:Hp)(Q:VK)(E:XK):Prop
 |mk (l:BL) (b:BS) (e d:O Int) (k a o:ar) (i:g=[.ref l.h,.str k,.str a,.str o]) (h:bu H C CL CJ l e d b) (un:Ud b k a o) (q:∀c,aj H c->Q (.bl bg) c)
inductive Rv(C CL CJ:U)(h:O V)(H:Hp)(Q:VK)(E:XK):Prop
 |mk (l:BL) (b:BS) (d c:O Int) (e a:ar) (k:h=[.ref l.h,.str e,.str a]) (j:bu H C CL CJ l d c b) (ok:cE d c b) (i:a∈b.ps.map (·.1)) (no:¬iq b a e) (q:∀g,aj H g->Q .ay g)
structure LD(xs ys:O Int)(b:BS)(c:Fc):Prop where
 nf:De xs ys b c
 ns:c.k≠bb
 dD:mQ c.k (g_ b.ps c.one) (g_ b.ps c.aU.toNat)=af
 un:Ud b c.k (au b.ps c.one) (au b.ps c.aU.toNat)
 el:cZ c.k=af->¬iq b (au b.ps c.aU.toNat) (au b.ps c.one)
inductive Rw(C CL CJ:U)(g:O V)(H:Hp)(Q:VK)(E:XK):Prop
 |mk (l:BL) (b:BS) (d a:O Int) (c:Fc) (j:g=[.ref l.h,.str c.k,.str (au b.ps c.one),.str (au b.ps c.aU.toNat)]) (i:bu H C CL CJ l d a b) (ok:cE d a b) (h:LD d a b c) (q:∀e,aj H e->Q .ay e)
inductive Ug(C CL CJ:U)(h:O V)(H:Hp)(Q:VK)(E:XK):Prop
 |mk (l:BL) (b:BS) (d a:O Int) (c:Fc) (k:h=[.ref l.h,.str c.k,.str (au b.ps c.one),.str (au b.ps c.aU.toNat)]) (j:bu H C CL CJ l d a b) (ok:cE d a b) (i:LD d a b c) (dl:b.dn.length<200) (q:∀(g:BL) (e:Hp),bT H e l g->bu e C CL CJ g d a (b.oj c)->Q (.int (b.co:Int)) e)
structure xu(xs ys:O Int)(b:BS)(c:Fc):Prop where
 nf:De xs ys b c
 sk:c.k=bb
inductive Rx(C CL CJ:U)(g:O V)(H:Hp)(Q:VK)(E:XK):Prop
 |mk (l:BL) (b:BS) (d a:O Int) (c:Fc) (j:g=[.ref l.h,.str (au b.ps c.one),.int c.aU]) (i:bu H C CL CJ l d a b) (ok:cE d a b) (h:xu d a b c) (q:∀e,aj H e->Q .ay e)
inductive Qp(C CL CJ:U)(e:O V)(H:Hp)(Q:VK)(E:XK):Prop
 |mk (l:BL) (b:BS) (a d:O Int) (i:Int) (j:e=[.ref l.h,.int i]) (h:bu H C CL CJ l a d b) (g:0<=i/\i<(a.length:Int)) (q:∀c,aj H c->Q .ay c)
inductive Uh(C CL CJ:U)(h:O V)(H:Hp)(Q:VK)(E:XK):Prop
 |mk (l:BL) (b:BS) (d a:O Int) (c:Fc) (k:h=[.ref l.h,.str (au b.ps c.one),.int c.aU]) (j:bu H C CL CJ l d a b) (ok:cE d a b) (i:xu d a b c) (dl:b.dn.length<200) (q:∀(g:BL) (e:Hp),bT H e l g->bu e C CL CJ g d a (b.oj c)->Q (.int (b.co:Int)) e)
def fh(x y:ar):decide (V.str x=V.str y)=decide (x=y):=by
 simp_all
noncomputable abbrev Di:O ar:=["kind","here","there"]
def ZbX:aW Di Di (aL GL):=.bp
theorem ZbY(F:aT K "sides_fit" "sides_fit" GL f fd)(d:B "MAN"=Z (.str "man" t1))(c:B "WOMAN"=Z (.str "woman" m))(i:B "SIBLING"=Z (.str "sibling" t3)):aI P w K B I aR 1 f fd Di SD:=by
 refine F.o ZbX λs H n h=>?_;obtain⟨k,h,t,rfl,q⟩:=h;refine⟨_,(ak (aX (bO cP (pv 0) bB) (av (aK (fX cP (pv 2) (dW (v:=.str "woman") rfl c ⟨_,rfl⟩)))) a_) (ak (aX (bO cP (pv 0) bB) (av (aK (fX cP (pv 2) (dW (v:=.str "man") rfl d ⟨_,rfl⟩)))) a_) (av (aK (Lj (fX cP (pv 0) (dW (v:=.str "sibling") rfl i ⟨_,rfl⟩)) (nU (qy (fX cP (pv 1) (dW (v:=.str "man") rfl d ⟨_,rfl⟩)) (nU (fX cP (pv 2) (dW (v:=.str "woman") rfl c ⟨_,rfl⟩)))))))))),?_⟩;unfold mQ at q;refine⟨_,rfl,rfl,_,rfl,?_⟩;rw[fh];refine bY (λa=>?_) (λa=>aZ ?_)
 ·rw[bC (fI a)] at q;refine⟨_,rfl,rfl,?_⟩;rwa[fh]
 ·rw[bF (λz=>a (d9 z))] at q;refine⟨_,rfl,rfl,_,rfl,?_⟩;rw[fh];refine bY (λb=>?_) (λb=>aZ ?_)
  ·rw[bC (fI b)] at q;refine⟨_,rfl,rfl,?_⟩;rwa[fh]
  ·rw[bF (λz=>b (d9 z))] at q;refine⟨_,rfl,rfl,_,rfl,?_⟩;rw[fh];refine bY (λl=>?_) (λl=>?_);·simp_all
   ·have j:decide (k="sibling")=bg:=by
     cases e:decide (k="sibling") with
     |true=>simp_all
     |false=>rfl
    rw[j,DQ] at q;refine⟨_,rfl,rfl,_,rfl,?_⟩;rw[fh];refine bY (λg=>?_) (λg=>?_)
    ·rw[g,AV] at q;refine⟨_,rfl,rfl,?_⟩;rwa[fh]
    ·simp_all
noncomputable abbrev sI:O ar:=["hearth","kind","one","other"]
def ZaM:aW sI sI (aL FI):=.bp
theorem Zhw(F:aT K "told_already" "told_already" FI f fd)(D:B "SIBLING"=Z (.str "sibling" t1))(J:B "PARENTS"=Z (.ref g))(E:∀H,az K H g (jQ.map V.str))(L:cI P w K B I 1 "parent_of" C Dd (Px C CL CJ))(x:cI P w K B I 2 "has" C qN (LA C CL CJ)):aI P w K B I aR 3 f fd sI (Ue C CL CJ):=by
 refine F.o ZaM λs H p h=>?_;obtain⟨l,b,n,m,k,a,o,rfl,j,un,q⟩:=h;refine⟨_,(ak (aX (gm (oI (K:=K) rfl) (pv 1) (dW (v:=.ref g) rfl J rfl) QU) (av (aK (fX B0 (cY L p QO (pv 0) (aa (pv 1) (aa (pv 2) ag))) lI))) a_) (av (aK (Lj (cY x p QO (pv 0) (aa (pv 1) (aa (pv 2) (aa (pv 3) ag)))) (nU (qy (fX cP (pv 1) (dW (v:=.str "sibling") rfl D ⟨_,rfl⟩)) (nU (fX cP (pv 2) (pv 3))))))))),?_⟩;refine mI ?_;intros;obtain⟨t,r⟩:=j.obj;refine⟨_,rfl,g,_,rfl,.inr (E _),rfl,rfl,_,rfl,?_⟩;try dsimp only
 rw[bF Yl,Cc k];refine bY (λi=>?_) (λi=>aZ ?_)
 ·refine⟨_,rfl,l.h,t,_,rfl,r,rfl,_,rfl,_,rfl,l,b,n,m,k,a,rfl,j,λd c=>?_⟩;rw[qc (un.par i)];exact⟨rfl,q d c⟩
 ·have G:cZ k=bg:=by
   cases e:cZ k with
   |true=>exact absurd e i
   |false=>rfl
  obtain⟨A,y⟩:=un.aU G;refine⟨_,rfl,l.h,t,_,rfl,r,rfl,_,rfl,_,rfl,_,rfl,l,b,n,m,k,a,.inr o,rfl,j,λ_=>⟨o,rfl⟩,λd c=>⟨_,rfl,?_⟩⟩;have e:b.told (keyOf k a (.inr o))=bg:=by
   cases e:b.told (keyOf k a (.inr o)) with
   |true=>exact absurd ((Rl _ _).mp e) A
   |false=>rfl
  rw[e];refine bV ?_;refine⟨_,rfl,rfl,_,rfl,?_⟩;rw[fh];refine bY (λu=>?_) (λu=>?_)
  ·refine⟨_,rfl,_,rfl,rfl,?_⟩;rw[fh,jb (λz=>y ⟨fI u,z⟩)];exact q d c
  ·exact q d c
noncomputable abbrev Md:O ar:=["hearth","child","parent"]
def OI:aW ["hearth","child","parent","lines"] Md (aL FJ):=.bp
def ZaN(F:aT K "check_elders" "check_elders" FJ f fd)(n:HasFn P w K B I 2 "lines_up" vc (SA C CL CJ)):aI P w K B I aR 4 f fd Md (Rv C CL CJ):=by
 refine F.o OI λs H c h=>?_;obtain⟨l,b,e,d,k,g,rfl,m,ok,j,no,q⟩:=h;refine⟨_,(ak (cj 3 OI.nd (bh n c (aa (pv 0) (aa (pv 2) ag)))) (av (aX (lJ (Co (bL c) (pv 1) (pv 3)) QU) ir a_))),?_⟩;refine⟨_,rfl,_,rfl,l,b,e,d,g,rfl,m,ok,j,λp r t o a iff=>bj ?_⟩;have i:=λz=>no ((iff k).mp z);exact⟨_,rfl,_,rfl,p,aJ,rfl,df a.at_ (JQ a.len i),_,rfl,bV (aZ (q o a.same))⟩
def ZbZ:aW sI sI (aL GK):=.bp
def Zb0(F:aT K "check_tie" "check_tie" GK f fd)(y:B "PARENTS"=Z (.ref k))(x:∀H,az K H k (jQ.map V.str))(u:HasFn P w K B I 1 "is_tie" ["kind"] Ko)(J:HasFn P w K B I 1 "sides_fit" Di SD)(m:cI P w K B I 1 "side_of" C kO (JO C CL CJ))(N:HasFn P w K B I 3 "told_already" sI (Ue C CL CJ))(L:HasFn P w K B I 4 "check_elders" Md (Rv C CL CJ)):aI P w K B I aR 6 f fd sI (Rw C CL CJ):=by
 refine F.o ZbZ λs H d h=>?_;obtain⟨l,b,i,g,c,rfl,e,ok,a,q⟩:=h;refine⟨_,(ak (aX (gn (d5 (bh u d (aa (pv 1) ag)))) ir a_) (ak (aX (gn (d5 (bh J d (aa (pv 1) (aa (cY m d QO (pv 0) (aa (pv 2) ag)) (aa (cY m d QO (pv 0) (aa (pv 3) ag)) ag)))))) ir a_) (ak (aX (d5 (bh N d (aa (pv 0) (aa (pv 1) (aa (pv 2) (aa (pv 3) ag)))))) ir a_) (av (aX (gm (oI (K:=K) rfl) (pv 1) (dW (v:=.ref k) rfl y rfl) QU) (av (cz (bh L d (aa (pv 0) (aa (pv 2) (aa (pv 3) ag)))))) a_))))),?_⟩;refine pz ?_;intros;obtain⟨p,o⟩:=e.obj;refine bo (Gx (a.nf.fg.uP a.ns)) λr D Q=>?_;have z:pA sG c.k=af:=by unfold pA;rw[D];rfl
 have n:=(a.nf.fg.ok.ic a.ns).1.2;refine⟨_,rfl,c.k,rfl,_,rfl,?_⟩;rw[z];refine⟨_,rfl,_,rfl,l.h,p,_,rfl,o,rfl,_,rfl,l,b,i,g,_,_,rfl,e,qv ok.nm a.nf.fg.ok.one,⟨_,rfl,l.h,p,_,rfl,o,rfl,_,rfl,l,b,i,g,_,_,rfl,e,qv ok.nm n,⟨c.k,_,_,rfl,_,rfl,?_⟩⟩⟩;rw[a.dD];refine⟨_,rfl,_,rfl,_,rfl,_,rfl,l,b,i,g,c.k,_,_,rfl,e,a.un,λG j=>⟨_,rfl,bV (aZ ⟨_,rfl,k,_,rfl,.inr (x _),rfl,rfl,_,rfl,?_⟩)⟩⟩;rw[bF Yl,Cc c.k];refine bY (λt=>⟨_,rfl,_,rfl,_,rfl,l,b,i,g,_,_,rfl,e.same j,ok,rV n,a.el t,λE A=>q E (j.trans A)⟩) (λt=>aZ (q G j))
noncomputable abbrev xI:O ar:=["hearth","section"]
def OH:aW xI xI (aL Bc):=.bp
def ZaC(F:aT K "check_section" "check_section" Bc f fd)(c:fE K C)(a:uN K CL)(r:Bl B):aI P w K B I aR 1 f fd xI (Qp C CL CJ):=by
 refine F.o OH λs H J h=>?_;obtain⟨l,b,v,u,i,rfl,d,g,q⟩:=h;refine⟨_,(av (aX (gm OR (pv 1) (fC Bg rfl r.jk uj (aa (uv rfl (pF K 0) rfl) ag)) QU) ir a_)),?_⟩;refine eW d.obj λn k=>?_;obtain⟨o,L,z,A,x,G,D,E,N,j,_⟩:=d.landAt;refine⟨_,rfl,_,rfl,l.h,C,n,_,_,rfl,k,c.cls,c.uE,rfl,l.L,CL,o,_,_,rfl,j,a.cls,a.r9,rfl,_,rfl,λp t y m e=>?_⟩;refine⟨_,_,_,p,rfl,rfl,e,_,rfl,?_⟩;rw[bC rfl,d9 g];exact bV (aZ (q t m))
noncomputable abbrev vd:O ar:=["hearth","name","section"]
def ZaO:aW vd vd (aL FK):=.bp
theorem ZaP(F:aT K "check_saying" "check_saying" FK f fd)(t:B "SAID"=Z (.str "said" t1))(r:cI P w K B I 1 "side_of" C kO (JO C CL CJ))(o:HasFn P w K B I 1 "check_section" xI (Qp C CL CJ))(p:cI P w K B I 2 "has" C qN (LA C CL CJ)):aI P w K B I aR 3 f fd vd (Rx C CL CJ):=by
 refine F.o ZaO λs H j h=>?_;obtain⟨l,b,i,g,c,rfl,d,ok,a,q⟩:=h;refine⟨_,(ak (cz (cY r j QO (pv 0) (aa (pv 1) ag))) (ak (cz (bh o j (aa (pv 0) (aa (pv 2) ag)))) (av (aX (d5 (cY p j QO (pv 0) (aa (dW (v:=.str "said") rfl t ⟨_,rfl⟩) (aa (pv 1) (aa (pv 2) ag))))) ir a_)))),?_⟩;refine oP ?_;intros;obtain⟨n,m⟩:=d.obj;refine⟨_,rfl,l.h,n,_,rfl,m,rfl,_,rfl,l,b,i,g,_,_,rfl,d,qv ok.nm a.nf.fg.ok.one,⟨_,rfl,_,rfl,l,b,i,g,c.aU,rfl,d,a.nf.fg.Ma a.sk,λA k=>⟨_,rfl,l.h,n,_,rfl,k _ _ m,rfl,_,rfl,_,rfl,l,b,i,g,"said",au b.ps c.one,.inl c.aU,rfl,d.same k,(λz=>absurd z QK),λy u=>⟨_,rfl,?_⟩⟩⟩⟩;have x:keyOf "said" (au b.ps c.one) (.inl c.aU)=gu b.ps c:=by
  unfold gu;rw[ji a.sk,a.sk]
 have e:b.told (keyOf "said" (au b.ps c.one) (.inl c.aU))=bg:=by
  cases e:b.told (keyOf "said" (au b.ps c.one) (.inl c.aU)) with
  |true=>exact absurd ((Rl _ _).mp e) (by exact x▸a.nf.nk)
  |false=>rfl
 exact e▸bV (aZ (q y (k.trans u)))
def Zbq:aW qN qN (aL Gp):=.bp
def Zhx(F:aT K "tie" "Hearth.tie" Gp f fd)(i:fE K C)(D:HasFn P w K B I 6 "check_tie" sI (Rw C CL CJ))(v:cI P w K B I 11 "keep" C u_ (Lc C CL CJ)):aI P w K B I aR 12 f fd qN (Ug C CL CJ):=by
 refine F.o Zbq λs H g h=>?_;obtain⟨l,b,e,d,c,rfl,p,ok,a,dl,q⟩:=h;refine⟨_,(ak (cz (bh D g (aa (pv 0) (aa (pv 1) (aa (pv 2) (aa (pv 3) ag)))))) (av (aK (cY v g (by decide) (pv 0) (aa (du (aa (pF K 0) (aa (pv 1) (aa (pv 2) (aa (pv 3) ag))))) ag))))),?_⟩;refine mI ?_;intros;refine⟨_,rfl,_,rfl,_,rfl,_,rfl,l,b,e,d,c,rfl,p,ok,a,λJ m=>?_⟩;have o:=p.same m;obtain⟨n,j⟩:=o.obj;refine⟨_,rfl,l.h,n,_,rfl,j,rfl,_,rfl,l.h,C,n,_,_,rfl,j,i.cls,i.rO,rfl,_,rfl,_,rfl,_,rfl,by show 4<=sizeLine;decide,λr t E k G=>?_⟩;have y:dM t b.ps r (b.co,c):=by
  show t r=Z (.tup ((eF b.ps b.co c).map kV));unfold eF;rwa[jj a.ns]
 refine⟨l,b,e,d,r,c,rfl,o.same k,ok,y,a.nf,dl,λx A u z=>q x A (bT.after (m.trans k) u) z⟩
noncomputable abbrev Dj:O ar:=["self","name","section"]
def Zbr:aW Dj Dj (aL Gq):=.bp
def Zhy(F:aT K "say" "Hearth.say" Gq f fd)(i:fE K C)(y:B "SAID"=Z (.str "said" t1))(G:HasFn P w K B I 3 "check_saying" vd (Rx C CL CJ))(x:cI P w K B I 11 "keep" C u_ (Lc C CL CJ)):aI P w K B I aR 12 f fd Dj (Uh C CL CJ):=by
 refine F.o Zbr λs H g h=>?_;obtain⟨l,b,e,d,c,rfl,p,ok,a,dl,q⟩:=h;refine⟨_,(ak (cz (bh G g (aa (pv 0) (aa (pv 1) (aa (pv 2) ag))))) (av (aK (cY x g (by decide) (pv 0) (aa (du (aa (pF K 0) (aa (dW (v:=.str "said") rfl y ⟨_,rfl⟩) (aa (pv 1) (aa (pv 2) ag))))) ag))))),?_⟩;refine⟨_,rfl,_,rfl,_,rfl,l,b,e,d,c,rfl,p,ok,a,λN m=>?_⟩;have o:=p.same m;obtain⟨n,j⟩:=o.obj;refine⟨_,rfl,l.h,n,_,rfl,j,rfl,_,rfl,l.h,C,n,_,_,rfl,j,i.cls,i.rO,rfl,_,rfl,_,rfl,by show 4<=sizeLine;decide,λr t J k L=>?_⟩;have A:dM t b.ps r (b.co,c):=by
  show t r=Z (.tup ((eF b.ps b.co c).map kV));unfold eF;rwa[ji a.sk,a.sk]
 refine⟨l,b,e,d,r,c,rfl,o.same k,ok,A,a.nf,dl,λz E u D=>q z E (bT.after (m.trans k) u) D⟩
noncomputable def pW(n:Nat)(d:Int):O Int:=(List.range n).map λi:Nat=>((i:Int)+d) % (n:Int)
def rot_length(n:Nat)(d:Int):(pW n d).length=n:=by simp[pW]
def Zge(q:0<n)(d:Int):(pW n d).Perm (bQ n):=by
 have c:(0:Int)<(n:Int):=QO
 have p:=W9 d (MS c);have o:=Wv d c;obtain⟨r,j⟩:∃r:Nat,d % (n:Int)=(r:Int):=⟨(d % (n:Int)).toNat,(Eq.symm (Int.toNat_of_nonneg p))⟩;have m:r<n:=QO
 have e:pW n d=(bQ n).drop r++(bQ n).take r:=by
  refine Wt λi=>?_;have a:=fR n;by_cases g:i<n
  ·have b:(pW n d)[i]?=Z (((i:Int)+d) % (n:Int)):=by
    unfold pW;rw[Ye,Ja g];rfl
   have k:((i:Int)+d) % (n:Int)=((r:Int)+(i:Int)) % (n:Int):=by
    rw[Int.add_comm,←Int.emod_add_emod,j]
   rw[b,k];by_cases h:r+i<n;·rw[Wh (by rw[J8,a];omega),List.getElem?_drop,nL h,XD QO QO,Zf]
   ·rw[Jy (by rw[J8,a];omega),J8,a,DY QO,nL (Nat.sub_lt_of_lt g)];have l:(r:Int)+(i:Int)=((i-(n-r):Nat):Int)+(n:Int)*1:=QO
    rw[l,Int.add_mul_emod_self_left,XD (Int.natCast_nonneg _) QO]
  ·rw[Y4 (by rw[rot_length];exact Nat.le_of_not_lt g),Y4 (by rw[Yj,J8,Wb,a];omega)]
 exact e▸List.perm_append_comm.trans (by rw[List.take_append_drop])
inductive SE(b:O V)(H:Hp)(Q:VK):Prop
 |mk (c:Int) (n:Nat) (i:b=[.int c,.int (n:Int)]) (g:0<n) (h:n<=60) (e:∀(t:U) (d:O Int) (a:Hp),H t=aJ->aj H a->cq a t d->d.Perm (bQ n)->Q (.ref t) a):SE b H Q
def U9:Sp:=λa H Q _=>SE a H Q
inductive SG(K:ah)(g:O V)(H:Hp)(Q:VK):Prop
 |mk (a b:U) (c d:O Int) (n:g=[.ref a,.ref b]) (k:az K H a (c.map V.int)) (m:az K H b (d.map V.int)) (i:(∀x∈c,0<=x/\x<d.length)) (j:c.length<=60) (h:∀(l:U) (e:Hp),H l=aJ->aj H e->cq e l (b_ d c)->Q (.ref l) e):SG K g H Q
def U_(K:ah):Sp:=λa H Q _=>SG K a H Q
def Zhz(h:Paired Bd ds [a,b]):∃v w,ds=[v,w]/\Bd v a/\Bd w b:=by
 cases h with|cons d h=>cases h with|cons c h=>
  cases h;exact⟨_,_,rfl,d,c⟩
noncomputable abbrev Me:O ar:=["_law_cell_here","_law_size"]
def PB:aW ["_law_cell_here","_law_size","_law_drawn"] Me (aL IH):=.bp
def ZdK(F:aT K "_law_row" "_law_row" IH f fd)(G:HasFn P w K B I 1 "_law_draws" D3 (Kc K))(Ia:HasFn P w K B I 1 "_law_turn" Ng To)(E:Bl B):
  aI P w K B I aR 2 f fd Me U9:=by
 refine F.o PB λs H y h=>?_;obtain⟨c,n,rfl,R,r,q⟩:=h;refine⟨_,(ak (iC (i:=2) PB.nd rfl (mF rfl) (bh G y (aa (pv 0) (aa (zt (aa aP (aa aP ag))) ag)))) (ak (aX (bO cP (bc (iL K) (pv 2) aP) aP) (av (aK (fC (wk) rfl E.nO nM (aa (jG (fr:=[("_law_size",1),("_law_drawn",2)]) (cl:=[("_law_size",s.heap.objs.size+1),("_law_drawn",s.heap.objs.size+1+1)]) rfl (.ia ⟨rfl,⟨rfl,trivial⟩⟩ ⟨⟨rfl,.inl rfl,.inl rfl,rfl⟩,⟨⟨rfl,.inl rfl,.inl rfl,rfl⟩,trivial⟩⟩) (nK rfl E.jk (aa (pv 1) ag)) (λ_ _ _ _=>lH) (λ_ _ _ _=>(bA eM (bA iQ (pv 0) (bc (iL K) (pv 2) aP)) (pv 1)))) ag)))) a_) (av (aK (bh Ia y (aa (bc (iL K) (pv 2) aP) (aa (pv 1) ag))))))),?_⟩;refine oP ?_;intros;refine⟨_,rfl,QD,λp Q=>?_⟩;refine⟨c,p,[3,40320],rfl,aq.of a9,QD,QD,λdl ds H1 nd W v bd=>?_⟩;obtain⟨X,a,rfl,⟨a0,a0'⟩,⟨a1,a1'⟩⟩:=Zhz bd;have g:=(cF Q _).trans W;have m:(0:Int)<(n:Int):=QO
 refine⟨_,rfl,dl,_,0,.int X,rfl,rfl,aq.of v,rfl,rfl,_,rfl,bY (λ_=>?_) (λ_=>aZ ?_)⟩
 ·refine⟨_,rfl,(n:Int),rfl,QO,QO,λD A=>yQ (λi j e=>aj H1 e/\e D=Z (.lst j)/\j=((pW n a).take i).map V.int) ⟨cF A _,a9,rfl⟩ ?_ ?_⟩
  ·intro i j e z ZH;refine c9 ZH λb u k=>?_;rw[Y7] at z;rw[AE];refine kL (c6 ⟨_,rfl,_,rfl,dl,_,1,.int a,rfl,rfl,aq.of (b _ _ v),rfl,_,_,rfl,rfl,_,rfl,_,_,rfl,rfl,m,u,?_,λd o x=>?_,a9,?_⟩)
   ·rw[k,Ya,Wb,rot_length];exact lE (Nat.le_trans (Nat.min_le_right _ _) (Nat.le_trans r (by decide)))
   ·rw[aS (cC x A)];exact b d o x
   ·have T:(pW n a)[i]?=Z (((i:Int)+a) % (n:Int)):=by
     unfold pW;rw[Ye,Ja z];rfl
    rw[k,Y1,Ir,T];rfl
  ·intro j e ZH;refine c9 ZH λb u k=>?_;rw[Y7,Wx (by rw[rot_length];exact Nat.le_refl _)] at k;refine⟨D,_,rfl,.inl ⟨aq.of u,λt l=>q t (pW n a) _ (g.free (b.free l)) ((g.trans b).trans (cF l _)) ?_ (Zge R a)⟩⟩;show upd e t (.tup j) t=_;rw[a9,k]
 ·exact⟨_,rfl,dl,_,1,.int a,rfl,rfl,aq.of v,rfl,_,rfl,a,n,rfl,r,λt J e N b l L=>q t J e (g.free N) (g.trans b) l L⟩
noncomputable abbrev Dk:O ar:=["_law_first","_law_then"]
def Zb1:aW Dk Dk (aL GO):=.bp
def Zb2(F:aT K "_law_after" "_law_after" GO f fd)(L:Bl B):aI P w K B I aR 1 f fd Dk (U_ K):=by
 refine F.o Zb1 λs H N h=>?_;obtain⟨a,b,A,y,rfl,r,J,E,Q,q⟩:=h;refine⟨_,(av (aK (fC (wk) rfl L.nO nM (aa (jG (x:="_law_one") (fr:=[("_law_then",1)]) (cl:=[("_law_then",s.heap.objs.size+1)]) rfl (.ia ⟨rfl,trivial⟩ ⟨⟨rfl,.inl rfl,.inl rfl,rfl⟩,trivial⟩) (KC (pv 0)) (λ_ _ _ _=>lH) (λ_ _ _ _=>(bc (iT K) (pv 1) (pv 0)))) ag)))),?_⟩;refine⟨_,rfl,a,rfl,⟨_,r⟩,λD p=>BN (λi e g=>aj H g/\g D=Z (.lst e)/\e=((b_ y A).take i).map V.int) ⟨cF p _,a9,rfl⟩ (λi e g _ ⟨c,_,_⟩=>c.kz r) ?_ ?_⟩
 ·rintro i v e g G ⟨c,k,j⟩;refine bo (mM G) λz R m=>?_;subst R;have u:=E z (Yg m);refine kL (c6 ⟨_,rfl,_,rfl,b,_,_,_,rfl,rfl,c.kz J,oX u.1 u.2,k,?_,λd o l=>?_,a9,?_⟩)
  ·rw[j,Ya,Wb,ug];exact lE (Nat.le_trans (Nat.min_le_right _ _) (Nat.le_trans Q (by decide)))
  ·rw[aS (cC l p)];exact c d o l
  ·rw[j,Y1,Ir];unfold b_;rw[Ye,m];rfl
 ·rintro e g ⟨c,k,j⟩;refine⟨D,_,rfl,.inl ⟨aq.of k,λt n=>q t _ (c.free n) (c.trans (cF n _)) ?_⟩⟩;show upd g t (.tup e) t=_;rw[a9,j,Ya,Wx (by rw[ug];exact Nat.le_refl _)]
inductive SH(d:O V)(H:Hp)(Q:VK):Prop
 |mk (a:U) (b:O Int) (j:d=[.ref a]) (h:cq H a b) (i:b.length<64) (e:full b=af) (g:∀(t:U) (c:Hp),H t=aJ->aj H c->cq c t (inv b)->Q (.ref t) c):SH d H Q
def LF:Sp:=λa H Q _=>SH a H Q
noncomputable abbrev z7:O ar:=["_law_turn_here"]
def Za6:aW z7 z7 (aL F2):=.bp
def ZdL(F:aT K "_law_inverse" "_law_inverse" F2 f fd)(n:Bl B):aI P w K B I aR 1 f fd z7 LF:=by
 refine F.o Za6 λs H G h=>?_;obtain⟨a,c,rfl,y,E,A,q⟩:=h;refine⟨_,(av (aK (fC (wk) rfl n.nO nM (aa (jG (x:="_law_at") (fr:=[("_law_turn_here",0)]) (cl:=[("_law_turn_here",s.heap.objs.size+1)]) rfl (.ia ⟨rfl,trivial⟩ ⟨⟨rfl,.inl rfl,.inl rfl,rfl⟩,trivial⟩) (nK rfl n.jk (aa (dv K n (pv 0)) ag)) (λ_ _ _ _=>lH) (λ_ _ _ _=>(OW (pv 1) (aa (pv 0) ag)))) ag)))),?_⟩;have j:(c.map V.int).length=c.length:=Ya _;refine⟨_,rfl,a,_,rfl,.inr (az.of y),_,rfl,by rw[j];omega,by rw[j];omega,λD v=>yQ
   (λi b g=>aj H g/\g D=Z (.lst b)/\b=((inv c).take i).map V.int) ⟨cF v _,a9,rfl⟩ ?_ ?_⟩
 ·intro i b g l J;refine c9 J λe m k=>?_;rw[Y7,j] at l;rw[AE];have r:=BQ (Q7 A l);have z:=e _ _ y;refine kL (c6 ⟨_,rfl,a,c,rfl,z,_,rfl,(i:Int),lN (i:Int) c,rfl,z,r.1,r.2,m,?_,λd o p=>?_,a9,?_⟩)
  ·rw[k,Ya,Wb,hJ];exact lE QO
  ·rw[aS (cC p v)];exact e d o p
  ·rw[k,Q8 l,Yn];rfl
 ·intro b g J;refine c9 J λe m k=>?_;refine⟨D,_,rfl,.inl ⟨aq.of m,λt u=>q t _ (e.free u) (e.trans (cF u _)) ?_⟩⟩;show upd g t (.tup b) t=_;rw[a9,k,Y7,j,Wx (by rw[hJ];exact Nat.le_refl _)]
structure kr(H0 H:Hp)(ps:bP)(d:U)(b:Nat)(kvs:O (Key×V))(L:Nat->O (Nat×O Int)):Prop where
 dict:H d=Z (.dK kvs)
 len:kvs.length<=b
 new:H0 d=aJ
 at_:∀x:Nat,x<ps.length->(aY kvs (.inr (au ps x))=aJ/\L x=[])\/∃(a:U) (es:O U),aY kvs (.inr (au ps x))=Z (.ref a)/\H0 a=aJ/\H a=Z (.lst (es.map V.ref))/\(L x).length<=b/\Paired (λe (p:Nat×O Int)=>∃u,H e=Z (.tup [.str (au ps p.1),.ref u])/\cq H u p.2) es (L x)
 inj:∀(x y:Nat) (a:U),x<ps.length->y<ps.length->aY kvs (.inr (au ps x))=Z (.ref a)->aY kvs (.inr (au ps y))=Z (.ref a)->x=y
def nP(b:(a.map (·.1)).Nodup)(d:i<a.length)(c:j<a.length)(e:au a i=au a j):i=j:=by
 have g:=ux b d;rw[e,ux b c] at g
 grind
def kr.same(g:aj H s)(h:kr r H e d b c L):kr r s e d b c L:=by
 refine⟨g _ _ h.dict,h.len,h.new,λx i=>?_,h.inj⟩;rcases h.at_ x i with z|⟨a,o,n,m,l,k,j⟩;·exact .inl z
 ·exact .inr ⟨a,o,n,m,g _ _ l,k,_L.Paired.bH j λ_ _ ⟨u,q,p⟩=>⟨u,g _ _ q,g _ _ p⟩⟩
def kr.app(h:kr H0 H i d b l L)(X:x<i.length)(J:aY l (.inr (au i x))=Z (.ref a))(j:H a=Z (.lst ys))(P:H e=Z (.tup [.str (au i y),.ref u]))(N:cq H u t)(k:aG a H r)(W:r a=Z (.lst (ys++[.ref e]))):kr H0 r i d (b+1) l (u5 L x (y,t)):=by
 have m:∀{c:U} {G:O V},H c=Z (.tup G)->c≠a:=λ{c G} hc=>eY hc j (λz=>by cases z);refine⟨k _ _ h.dict (eY h.dict j (λz=>by cases z)),by have:=h.len;exact Nat.le_succ_of_le this,h.new,λz s=>?_,h.inj⟩;have Q:∀{g:O U} {qs:O (Nat×O Int)},Paired (λe (p:Nat×O Int)=>∃u,H e=Z (.tup [.str (au i p.1),.ref u])/\cq H u p.2) g qs->Paired (λe (p:Nat×O Int)=>∃u,r e=Z (.tup [.str (au i p.1),.ref u])/\cq r u p.2) g qs:=λ{g qs} hp=>_L.Paired.bH hp λ_ _ ⟨u,T,R⟩=>⟨u,k _ _ T (m T),k _ _ R (m R)⟩;by_cases E:z=x
 ·subst E;rcases h.at_ z s with⟨F,_⟩|⟨o,g,n,D,A,h4,v⟩;·simp_all
  ·obtain rfl:o=a:=V.ref.inj (Yp (n.symm.trans J));rw[A] at j;obtain rfl:g.map V.ref=ys:=by injection j with j;injection j
   refine .inr ⟨o,g++[e],n,D,by rw[W,Yn];rfl,?_,?_⟩;·unfold u5;rw[bC rfl,Yj];show(L z).length+1<=b+1;exact Nat.add_le_add h4 (by decide)
   ·unfold u5;rw[bC rfl];exact jh ⟨u,k _ _ P (m P),k _ _ (N) (m (N))⟩ (Q v)
 ·unfold u5;rw[bF E];rcases h.at_ z s with F|⟨o,g,n,D,A,h4,v⟩;·exact .inl F
  ·refine .inr ⟨o,g,n,D,k _ _ A (λq=>E (h.inj z x a s X (by rwa[←q]) J)),(Nat.le_succ_of_le h4),Q v⟩
def kr.neu(hb:kr H0 Hb l d b i L)(A:(l.map (·.1)).Nodup)(E:x<l.length)(g:aj Hb H)(np:Hb p=aJ)(EB:H0 p=aJ)(N:aY i (.inr (au l x))=aJ)(X:H p=Z (.lst []))(F:aG d H H')(xO:H' d=Z (.dK (i++[(.inr (au l x),.ref p)]))):kr H0 H' l d (b+1) (i++[(.inr (au l x),.ref p)]) L:=by
 have h:=hb.same g;have T:∀{c:U} {r:O V},H c=Z (.tup r)->c≠d:=λ{c r} P=>eY P h.dict (λz=>by cases z);have W:∀{c:U} {r:O V},H c=Z (.lst r)->c≠d:=λ{c r} P=>eY P h.dict (λz=>by cases z);refine⟨xO,by rw[Yj];have:=h.len;show i.length+1<=b+1;exact Nat.add_le_add this (by decide),h.new,λz v=>?_,λo n a J D k j=>?_⟩
 ·rw[uh N];by_cases Q:z=x
  ·rw[bC (by rw[Q])];rcases h.at_ z v with⟨_,n⟩|⟨a1,R,m,_⟩;·exact .inr ⟨p,[],rfl,EB,F _ _ X (W X),by exact n▸Yx _,by exact n▸.nil⟩
   ·rw[Q,N] at m;cases m
  ·rw[bF (λq=>Q (nP A v E (Y9 q)))];rcases h.at_ z v with o|⟨a1,R,m,h2,y,h4,h5⟩;·exact .inl o
   ·exact .inr ⟨a1,R,m,h2,F _ _ y (W y),(Nat.le_succ_of_le h4),_L.Paired.bH h5 λ_ _ ⟨u,k,j⟩=>⟨u,F _ _ k (T k),F _ _ j (T j)⟩⟩
 ·have t:∀{z:Nat},z<l.length->aY i (.inr (au l z))=Z (.ref p)->False:=λ{z} v e=>by
   rcases hb.at_ z v with⟨o,_⟩|⟨a1,R,m,h2,y,_⟩;·rw[o] at e;cases e
   ·rw[e] at m;obtain rfl:p=a1:=V.ref.inj (Yp m);rw[np] at y;cases y
  rw[uh N] at k j;by_cases G:o=x
  ·by_cases s:n=x;·rw[G,s]
   ·rw[bC (by rw[G])] at k;rw[bF (λq=>s (nP A D E (Y9 q))),←k] at j;exact absurd j (t D)
  ·rw[bF (λq=>G (nP A J E (Y9 q)))] at k;by_cases s:n=x
   ·rw[bC (by rw[s])] at j;rw[←j] at k;exact absurd k (t J)
   ·rw[bF (λq=>s (nP A D E (Y9 q)))] at j;exact h.inj _ _ a J D k j
def Qq(h2:∀H Q,Q (.ref d) H->hV 2 σ H Q)(nd:(ps.map (·.1)).Nodup)(F:x<ps.length)(hi:∀H Q,Q (.str (au ps x)) H->hV i σ H Q)(hk:∀H Q,Q (.str (au ps y)) H->hV k σ H Q)(h:kr n H ps d b m L)(g:aj n H)(lb:b<1000)
  (hx:∀(D:Hp) (Q1:VK),aj n D->(∀(u:U) (H2:Hp),aj D H2->cq H2 u t->Q1 (.ref u) H2)->tx σ D Q1)(q:∀(v:V) (W:O (Key×V)) (X:Hp),aj n X->kr n X ps d (b+2) W (u5 L x (y,t))->Q v X):Am K "list" QT (I_ (hV 2) (hV i) (UX jO)) (iV (zM (iV (hV k) (iV tx jO))) jO) σ H Q:=by
 have sz:(10000:Nat)<=sizeLine:=by rw[d6];decide
 have ln:=h.len;unfold Am I_;refine h2 _ _ ⟨d,rfl,.inl ⟨_,.inl h.dict⟩,hi _ _ ⟨by show 0<=sizeLine;exact Yx _,λp D np j J=>⟨m,.inr (au ps x),j _ _ h.dict,rfl,(Nat.lt_of_lt_of_le (Nat.lt_of_le_of_lt ln lb) (by decide)),λv r=>?_,λr H2 T e2=>?_⟩⟩⟩
 ·rcases h.at_ x F with⟨z1,_⟩|⟨a,es,h3,h4,P,h6,h7⟩;·simp_all
  obtain rfl:v=.ref a:=Yp (r.symm.trans h3);have pl:=c7 h7;refine⟨.inl ⟨rfl,_,aq.of (j _ _ P)⟩,?_⟩;unfold iV zM;refine hk _ _ (hx _ _ (g.trans j) λu H2 g2 G=>⟨by show 2<=sizeLine;decide,λe H3 ne A N=>?_⟩);have s:=(j.trans g2).trans A;refine⟨a,_,_,rfl,rfl,s _ _ P,by rw[Ya];omega,λH4 b4 e4=>?_⟩;have l:=(h.same s).app F h3 (s _ _ P) N (A _ _ G) b4 e4;exact q _ _ H4 (λc o e=>b4 _ _ (s _ _ (g _ _ e)) (cC e h4)) ⟨l.dict,by have:=l.len;exact Nat.le_succ_of_le this,l.new,λz hz=>by
   rcases l.at_ z hz with w|⟨a,es,w1,w2,w3,w4,w5⟩;·exact .inl w
   ·exact .inr ⟨a,es,w1,w2,w3,(Nat.le_succ_of_le w4),w5⟩,l.inj⟩
 ·have EB:=g.free np;have R:=T _ _ J (eY J (j _ _ h.dict) (λz=>by cases z));have gg:aj n H2:=λc o e=>T _ _ (j _ _ (g _ _ e)) (cC e h.new);refine⟨.inl ⟨rfl,_,aq.of R⟩,?_⟩;unfold iV zM;refine hk _ _ (hx _ _ gg λu H3 A G=>⟨by show 2<=sizeLine;decide,λe H4 ne g4 N=>?_⟩);have E:=A.trans g4;refine⟨p,_,_,rfl,rfl,E _ _ R,by show 0<sizeLine;decide,λH5 b5 e5=>?_⟩;have vx:aY (m++[(Sum.inr (au ps x),V.ref p)]) (.inr (au ps x))=Z (.ref p):=by rw[uh r,bC rfl]
  exact q _ _ H5 (λc o e=>b5 _ _ (E _ _ (gg _ _ e)) (cC e EB)) (((h.neu nd F j np EB r J T e2).same E).app F vx (E _ _ R) N (g4 _ _ G) b5 e5)
def EE(H:Hp)(b:bP)(a:U)(c:Fc):Prop:=∃z:Int,H a=Z (.tup [.int z,.str c.k,.str (au b c.one),kV (bJ b c)])
def FL(H:Hp)(b:bP)(c:U)(F:O Fc):Prop:=∃a:O U,H c=Z (.lst (a.map V.ref))/\Paired (EE H b) a F
noncomputable abbrev xk(m f w s:U):O (Key×V):=[(.inr "mother",.ref m),(.inr "father",.ref f),(.inr "wed",.ref w),(.inr "sibling",.ref s)]
def fP(H:Hp)(c:U)(a b:O Int):Prop:=∃m f w s:U,H c=Z (.dK (xk m f w s))/\cq H m (inv a)/\cq H f (inv (b_ a b))/\cq H w b/\cq H s (bQ a.length)
def FL.same(g:aj H j)(h:FL H a d F):FL j a d F:=by
 refine bo h λi c b=>?_;exact⟨i,g _ _ c,_L.Paired.bH b λ_ _ ⟨z,e⟩=>⟨z,g _ _ e⟩⟩
def fP.same(g:aj H j)(h:fP H a xs ys):fP j a xs ys:=by
 refine ju h λm f w s i e d c b=>?_;exact⟨m,f,w,s,g _ _ i,g _ _ e,g _ _ d,g _ _ c,g _ _ b⟩
def fP.get(h:fP H j xs i)(m:(k,tn)∈sr xs i):∃e u,H j=Z (.dK e)/\aY e (.inr k)=Z (.ref u)/\cq H u tn:=by
 refine ju h λa b c d g p o n l=>?_;simp[Ym,Y2,i1] at m;rcases m with⟨rfl,rfl⟩|⟨rfl,rfl⟩|⟨rfl,rfl⟩|⟨rfl,rfl⟩;·exact⟨_,a,g,rfl,p⟩
 ·exact⟨_,b,g,rfl,o⟩
 ·exact⟨_,c,g,rfl,n⟩
 ·exact⟨_,d,g,rfl,l⟩
inductive Ui(k:O V)(H:Hp)(Q:VK)(E:XK):Prop
 |mk (j i:U) (a:bP) (b h:O Int) (F:O Fc) (s:k=[.ref j,.ref i]) (q:FL H a j F) (m:fP H i b h) (l:(a.map (·.1)).Nodup) (r:∀c∈F,fF b h a.length c) (o:b.length<=8) (p:F.length<=64) (n:∀(d:U) (e:O (Key×V)) (L:Nat->O (Nat×O Int)) (g:Hp),aj H g->kr H g a d 300 e L->(∀x y t,(y,t)∈L x↔hZ F x y t)->Q (.ref d) g)
noncomputable abbrev Mf:O ar:=["_law_facts","_law_turns_here"]
def wF:aW ["_law_facts","_law_turns_here","_law_found","_law_number","_law_kind","_law_one","_law_other"] Mf (aL Hs):=.bp
theorem ZhA(F:aT K "_law_nets" "_law_nets" Hs f fd)(ua:HasFn P w K B I 1 "_law_inverse" z7 LF)(bl:Bl B):aI P w K B I aR 2 f fd Mf Ui:=by
 refine F.o wF λs H hr h=>?_;obtain⟨R,J,D,xs,ys,F,rfl,k_,ht,mw,fgA,n8,EF,q⟩:=h;refine⟨_,(ak (cj 2 wF.nd rH) (ak (fS iJ rfl (fD (K:=K) rfl (pv 0)) (iP (K:=K) (n:=4) rfl rfl (bW (bI 3 wF.nd) (bW (bI 4 wF.nd) (bW (bI 5 wF.nd) (bW (bI 6 wF.nd) iN))))) (av (aX (bO iU (pv 4) bB) (ak (cz (nW (K:=K) rfl (kJ lg me lW oR (Hj (pv 2) (pv 5) (dU ag) ⟨rfl,rfl,rfl,rfl⟩) (aa (du (aa (pv 6) (aa (dm (bL hr) (pv 1) (pv 4) (λ_ _=>rfl)) ag))) ag)))) (av (cz (nW (K:=K) rfl (kJ lg me lW oR (Hj (pv 2) (pv 6) (dU ag) ⟨rfl,rfl,rfl,rfl⟩) (aa (du (aa (pv 5) (aa (bh ua hr (aa (dm (bL hr) (pv 1) (pv 4) (λ_ _=>rfl)) ag)) ag))) ag)))))) a_))) (av (aK (pv 2))))),?_⟩;refine cD ?_;refine λd H1 nd g1 hd=>?_;refine bo (id k_) λas dO eA=>?_;have al:=c7 eA;have sz:(10000:Nat)<=sizeLine:=by rw[d6];decide
 refine hU (λl k=>∃(i:O (Key×V)) (L:Nat->O (Nat×O Int)) (r p o m:bS V),aj H k/\kr H k D d 300 i L/\(∀x y t,(y,t)∈L x↔hZ F x y t)/\l=[Z (.ref R),Z (.ref J),Z (.ref d),r,p,o,m]) (λl9 eR=>?_) ?_
 ·refine⟨_,rfl,R,rfl,⟨_,aq.of (g1 _ _ dO)⟩,jE (K:=K) (a:=R) (xs:=as.map V.ref) (λj l k=>∃(i:O (Key×V)) (L:Nat->O (Nat×O Int)) (r p o m:bS V),aj H k/\kr H k D d (4*j) i L/\(∀x y t,(y,t)∈L x↔hZ (F.take j) x y t)/\l=[Z (.ref R),Z (.ref J),Z (.ref d),r,p,o,m])
   ⟨[],λ_=>[],aJ,aJ,aJ,aJ,g1,⟨hd,Yd _,nd,λx _=>.inl ⟨rfl,rfl⟩,λ_ _ _ _ _ e=>(nomatch e)⟩,λx y t=>⟨λz=>(nomatch z),λz=>absurd z Zf0⟩,rfl⟩
   (λj l k _ ⟨_,_,_,_,_,_,g,_⟩=>aq.of (g _ _ dO)) ?_ ?_⟩
  ·intro j v l k E ZH;refine qL ZH λi L r p o m g ne A ql=>?_;subst ql;rw[Ye] at E;obtain⟨T,ec,rfl⟩:∃T,as[j]?=Z T/\V.ref T=v:=by
    cases e:as[j]? with
    |none=>rw[e] at E;cases E
    |some c=>rw[e] at E;exact⟨c,rfl,Yp E⟩
   obtain⟨c,je,z,hc⟩:=gf eA ec;have mc:=Yg je;have fg:=fgA c mc;have ok:=fg.ok;have jl:j<F.length:=(Yh.mp je).1;have tP:F.take (j+1)=F.take j++[c]:=by rw[Y1,je];rfl
   refine⟨T,_,rfl,az.of (g _ _ hc),rfl,_,_,rfl,bj ⟨_,_,rfl,bj ⟨_,_,rfl,bj ⟨_,_,rfl,bj ⟨rfl,?_⟩⟩⟩⟩⟩;have ev:∀b:cu,decide (V.str c.k=V.str bb)=b->(b=af↔c.k=bb):=λb e=>by
    rw[←e,jV];exact⟨V.str.inj,λz=>by rw[z]⟩
   refine⟨_,rfl,rfl,_,rfl,?_⟩;refine bY (λG=>?_) (λG=>aZ ?_)
   ·have ns:c.k≠bb:=λz=>by
     rw[(ev _ rfl).mpr z] at G;cases G
    refine gR (ht.get (fg.uP ns)) λtk u dZ vu hu=>?_;obtain⟨⟨o0,om⟩,ft,tl⟩:=ok.ic ns;have eo:kV (bJ D c)=.str (au D c.aU.toNat):=by rw[jj ns];rfl
    refine Qq (ps:=D) (x:=c.one) (y:=c.aU.toNat) (t:=c.tn) (λ_ _ h=>⟨_,rfl,h⟩) mw ok.one (λ_ _ h=>⟨_,rfl,h⟩) (λ_ _ h=>⟨_,rfl,by rw[eo];exact h⟩) ne g QO (λH2 Q2 Q k2=>⟨_,rfl,_,rfl,J,.ref u,rfl,df (Q _ _ dZ) vu,k2 u H2 (aj.refl _) (Q _ _ hu)⟩) λv2 ZmP H2 Q n2=>?_;refine Qq (ps:=D) (x:=c.aU.toNat) (y:=c.one) (t:=inv c.tn) (λ_ _ h=>⟨_,rfl,h⟩) mw om (λ_ _ h=>⟨_,rfl,by rw[eo];exact h⟩) (λ_ _ h=>⟨_,rfl,h⟩) n2 Q QO (λH3 Q3 N k3=>⟨_,rfl,_,rfl,J,.ref u,rfl,df (N _ _ dZ) vu,u,c.tn,rfl,N _ _ hu,(Nat.lt_of_le_of_lt (Nat.le_of_eq tl) (Nat.lt_of_le_of_lt n8 (by decide))),ft,λw H4 _ g4 hw=>k3 w H4 g4 hw⟩) λv3 Zk1 H3 N n3=>?_;refine⟨Zk1,_,_,_,_,_,N,n3,λx y t=>?_,rfl⟩;rw[tP,rM,Ri,Ri,A]
    grind
   ·have sd:c.k=bb:=by
     by_cases z:c.k=bb;·exact z
     ·cases e:decide (V.str c.k=V.str bb) with
      |true=>exact absurd ((ev _ e).mp rfl) z
      |false=>rw[e] at G;exact absurd rfl G
    refine⟨i,L,_,_,_,_,g,⟨ne.dict,by have:=ne.len;exact Nat.le_add_right_of_le this,ne.new,λz hz=>?_,ne.inj⟩,λx y t=>?_,rfl⟩
    ·rcases ne.at_ z hz with w|⟨a,es,w1,w2,X,w4,W⟩;·exact .inl w
     ·exact .inr ⟨a,es,w1,w2,X,(Nat.le_add_right_of_le w4),W⟩
    ·rw[tP,rM,A];exact⟨.inl,λh=>h.elim id λz=>absurd sd z.1⟩
  ·rintro l k ⟨i,L,r,p,o,m,g,ne,A,rfl⟩;rw[Ya,al] at ne;rw[Ya,al,Wd] at A;refine eR _ _ ⟨i,L,r,p,o,m,g,⟨ne.dict,by have:=ne.len;omega,ne.new,λz hz=>?_,ne.inj⟩,A,rfl⟩;rcases ne.at_ z hz with w|⟨a,es,w1,w2,X,w4,W⟩;·exact .inl w
   ·exact .inr ⟨a,es,w1,w2,X,QO,W⟩
 rintro l k ⟨i,L,r,p,o,m,g,ne,A,rfl⟩;exact⟨_,rfl,q d i L k g ne A⟩
def Le{t:O Int}{z:Int}(a:0<=z)(h:z<t.length):dY (t.map V.int) z=Z (.int (ap t z)):=oX a h
def gN(a:bP)(g:O (Nat×Int)):O (Key×V):=g.map λp=>(.inr (au a p.1),.int p.2)
def rq(a:bP)(g:O (Nat×Int)):O V:=g.map λp=>.str (au a p.1)
def Zi7(a:bP)(g:O (Nat×Int)):(gN a g).length=g.length:=Ya _
def SI(a:bP)(g:O (Nat×Int)):(rq a g).length=g.length:=Ya _
theorem se(b:(a.map (·.1)).Nodup)(c:k<a.length):∀{g:O (Nat×Int)},(∀p∈g,p.1<a.length)->aY (gN a g) (.inr (au a k))=(g.lookup k).map V.int
 |[],_=>rfl
 |p::g,lt=>by
  have h:gN a (p::g)=(Sum.inr (au a p.1),V.int p.2)::gN a g:=rfl;rw[h,W4];by_cases e:k=p.1
  ·rw[beq_iff_eq.mpr e,gw (by rw[e])];rfl
  ·rw[beq_eq_false_iff_ne.mpr e,gk (λz=>e (nP b c (lt p Yo) (Y9 (show(Sum.inr (au a p.1):Key)=Sum.inr (au a k) from z)).symm))];exact se b c λq d=>lt q (Yw _ d)
def ZhB{r k:Nat}(h:g[r]?=Z (k,v)):dY (rq a g) (r:Int)=Z (.str (au a k)):=iz (by unfold rq;rw[Ye,h];rfl)
def yp(e:bP)(d l k n:U)(x:Nat)(a:Int)(r:Nat)(i h g m c b j:bS V):St:=[Z (.ref d),Z (.ref l),Z (.str (au e x)),Z (.int a),Z (.ref k),Z (.ref n),Z (.int (r:Int)),i,h,g,m,c,b,j]
def muC(m:Nat):St->Hp->Nat:=λa _=>match List.getD (α:=bS V) a 6 aJ with|some (V.int z)=>m+1-z.toNat|_=>0
inductive Va(H:Hp)(F:O Fc)(L:Nat->O (Nat×O Int))(n:Nat)(b:bP)(d k e h:U)(x:Nat)(a:Int)(i:St)(c:Hp):Prop
 |mk (g:O (Nat×Int)) (r:Nat) (o m l:bS V) (y:aj H c) (u:c e=Z (.dK (gN b g))) (v:c h=Z (.lst (rq b g))) (s:BF F n b.length x a g) (t:r<=g.length) (q:(∀j,j<r->Cl L g j)) (p:i=yp b d k e h x a r o m l aJ aJ aJ aJ):Va H F L n b d k e h x a i c
def Zk2(H:Hp)(F:O Fc)(L:Nat->O (Nat×O Int))(n:Nat)(c:bP)(d g e h:U)(x:Nat)(a:Int)(b:St)(i:Hp):Prop:=Va H F L n c d g e h x a b i
inductive Vb(H:Hp)(F:O Fc)(L:Nat->O (Nat×O Int))(n:Nat)(b:bP)(d j c k:U)(x:Nat)(a:Int)(h:St)(e:Hp):Prop
 |mk (g:O (Nat×Int)) (r:Nat) (o m l:bS V) (u:aj H e) (s:e c=Z (.dK (gN b g))) (t:BF F n b.length x a g) (p:(∀i,i<g.length->Cl L g i)) (q:h=yp b d j c k x a r o m l aJ aJ aJ aJ):Vb H F L n b d j c k x a h e
def Zk3(H:Hp)(F:O Fc)(L:Nat->O (Nat×O Int))(n:Nat)(c:bP)(d g e h:U)(x:Nat)(a:Int)(b:St)(i:Hp):Prop:=Vb H F L n c d g e h x a b i
inductive WI(H:Hp)(F:O Fc)(L:Nat->O (Nat×O Int))(n:Nat)(b:bP)(d m h i:U)(x:Nat)(a:Int)(r k:Nat)(v:Int)(g:O (Nat×Int))(p:U)(o:O U)(j:Nat)(l:St)(e:Hp):Prop
 |mk (c s:O (Nat×Int)) (u t:bS V) (N:aj H e) (G:e p=Z (.lst (o.map V.ref))) (J:e h=Z (.dK (gN b c))) (D:e i=Z (.lst (rq b c))) (E:BF F n b.length x a c) (A:c=g++s) (z:(∀q∈(L k).take j,c.lookup q.1=Z (ap q.2 v))) (y:l=yp b d m h i x a r (Z (.str (au b k))) u t aJ aJ aJ aJ):WI H F L n b d m h i x a r k v g p o j l e
def CIn(H:Hp)(F:O Fc)(L:Nat->O (Nat×O Int))(n:Nat)(c:bP)(d h e l:U)(x:Nat)(a:Int)(r k:Nat)(v:Int)(g:O (Nat×Int))(m:U)(i:O U)(j:Nat)(b:St)(o:Hp):Prop:=WI H F L n c d h e l x a r k v g m i j b o
inductive Vc(H:Hp)(F:O Fc)(L:Nat->O (Nat×O Int))(n:Nat)(b:bP)(d l h i:U)(x:Nat)(a:Int)(r k:Nat)(v:Int)(g:O (Nat×Int))(j:St)(e:Hp):Prop
 |mk (c m:O (Nat×Int)) (p o:bS V) (D:aj H e) (z:e h=Z (.dK (gN b c))) (A:e i=Z (.lst (rq b c))) (u:BF F n b.length x a c) (y:c=g++m) (t:(∀q∈L k,c.lookup q.1=Z (ap q.2 v))) (s:j=yp b d l h i x a r (Z (.str (au b k))) p o aJ aJ aJ aJ):Vc H F L n b d l h i x a r k v g j e
def Zk4(H:Hp)(F:O Fc)(L:Nat->O (Nat×O Int))(n:Nat)(c:bP)(d h e i:U)(x:Nat)(a:Int)(r k:Nat)(v:Int)(g:O (Nat×Int))(b:St)(j:Hp):Prop:=Vc H F L n c d h e i x a r k v g b j
inductive Vd(H:Hp)(F:O Fc)(n:Nat)(b:bP)(d l g h:U)(x:Nat)(a:Int)(r k y:Nat)(u:U)(j:O (Nat×Int))(o:U)(m:O U)(i:St)(e:Hp):Prop
 |mk (c q:O (Nat×Int)) (p:Int) (G:aj H e) (D:e o=Z (.lst (m.map V.ref))) (E:e g=Z (.dK (gN b c))) (z:e h=Z (.lst (rq b c))) (A:BF F n b.length x a c) (v:c=j++q) (t:c.lookup y=Z p) (s:i=yp b d l g h x a r (Z (.str (au b k))) (Z (.str (au b y))) (Z (.ref u)) aJ aJ aJ aJ):Vd H F n b d l g h x a r k y u j o m i e
def Zk5(H:Hp)(F:O Fc)(n:Nat)(c:bP)(d h g j:U)(x:Nat)(a:Int)(r k y:Nat)(u:U)(e:O (Nat×Int))(l:U)(i:O U)(b:St)(m:Hp):Prop:=Vd H F n c d h g j x a r k y u e l i b m
def Ve(i:bP)(F:O Fc)(t:Hp)(d o n q:U)(x:Nat)(a:Int)(r:Nat)(g:O (Nat×Int))(l k j:bS V)(b:St)(s:Hp):Prop:=s=t/\(∀c∈F,c.k=bb->∀u,g.lookup c.one=Z u->u=c.aU)/\∃p h e m:bS V,b=yp i d o n q x a r l k j p h e m
inductive Qr(j:O V)(H:Hp)(Q:VK)(E:XK):Prop
 |mk (l:Hp) (d i:U) (h:O (Key×V)) (L:Nat->O (Nat×O Int)) (n:Nat) (b:bP) (F:O Fc) (x:Nat) (a:Int) (D:j=[.ref d,.ref i,.str (au b x),.int a]) (o:(b.map (·.1)).Nodup) (z:kr l H b d 300 h L) (A:(∀x y t,(y,t)∈L x↔hZ F x y t)) (u:FL H b i F) (v:(∀c∈F,eB n b.length c)) (s:n<=8) (r:b.length<=100) (q:F.length<=64) (m:x<b.length) (N:(0<=a/\a<(n:Int))) (J:((¬∃g,kI n F g/\g x=some a)->∀e,aj H e->Q .ay e)) (G:∀(p:U) (g:O (Nat×Int)) (e:Hp),aj H e->e p=some (.dK (gN b g))->BF F n b.length x a g->kI n F (λk=>g.lookup k)->Q (.ref p) e)
noncomputable abbrev Mg:O ar:=["_law_nets_here","_law_facts","_law_name_here","_law_section"]
def mG:aW ["_law_nets_here","_law_facts","_law_name_here","_law_section","_law_found","_law_row_here","_law_at","_law_here","_law_that","_law_turn_here","_law_number","_law_kind","_law_one","_law_said"] Mg (aL F3):=.bp
theorem ZdM(F:aT K "_law_carried" "_law_carried" F3 f fd)(bl:Bl B):aI P w K B I aR 1 f fd Mg Qr:=by
 refine F.o mG λs H hr h=>?_;obtain⟨H0,d,X,kvs,L,n,l,F,x,a,rfl,mw,Dm,ed,k_,gW,n8,WJ,EF,hx,Zk6,q1,q2⟩:=h;refine⟨_,(ak (cj 4 mG.nd (zg (kG (pv 2) (pv 3) zf) rfl rfl (λz=>nomatch z) (Ji rfl))) (ak (cj 5 mG.nd (dU (aa (pv 2) ag))) (ak (cj 6 mG.nd aP) (ak (IW iJ (bO oZ (pv 6) (dv K bl (pv 5))) (ak (cj 7 mG.nd (bc (iL K) (pv 5) (pv 6))) (ak (fS iJ rfl (fD (K:=K) rfl (Zfr (bL hr) (pv 0) (pv 7) (dU ag) ⟨rfl,rfl,rfl,rfl⟩)) (iP (K:=K) (n:=2) rfl rfl (bW (bI 8 mG.nd) (bW (bI 9 mG.nd) iN))) (ak (aX (lJ (oS (bL hr) (pv 8) (pv 4)) QU) (ak (oU (bL hr) (pv 4) (pv 8) (bc (iT K) (pv 9) (dm (bL hr) (pv 4) (pv 7) (λ_ _=>rfl)))) (av (cz (nW (K:=K) rfl (kJ lg me lW oR (pv 5) (aa (pv 8) ag)))))) a_) (av (aX (bO iU (dm (bL hr) (pv 4) (pv 8) (λ_ _=>rfl)) (bc (iT K) (pv 9) (dm (bL hr) (pv 4) (pv 7) (λ_ _=>rfl)))) (av (aK lI)) a_)))) (av (S2 (i:=6) mG.nd rfl (hY rfl) aP S3))))) (ak (fS iJ rfl (fD (K:=K) rfl (pv 1)) (iP (K:=K) (n:=4) rfl rfl (bW (bI 10 mG.nd) (bW (bI 11 mG.nd) (bW (bI 12 mG.nd) (bW (bI 13 mG.nd) iN))))) (av (aX (PW.pt (pw_and (bO cP (pv 11) bB) (pw_and (lJ (Co (bL hr) (pv 12) (pv 4)) QU) (pw_and1 (bO iU (dm (bL hr) (pv 4) (pv 12) (λ_ _=>rfl)) (pv 13)))))) (av (aK lI)) a_))) (av (aK (pv 4)))))))),?_⟩;refine AN ?_;intros;refine cD ?_;refine λfn EG=>⟨_,rfl,_,rfl,a9,[(.inr (au l x),.int a)],rfl,(by show 1<=15;decide),?_⟩;obtain⟨H1,tN⟩:∃H1,H1=upd (upd H fn (.dK [])) fn (.dK (oY [] [(.inr (au l x),.int a)])):=⟨_,rfl⟩;have g1:aj H H1:=λb o e=>by rw[tN,aS (cC e EG),aS (cC e EG)];exact e
 have h1:H1 fn=Z (.dK (gN l [(x,a)])):=by rw[tN,a9];rfl
 rw[←tN];refine cD ?_;refine⟨_,rfl,by show 1<=sizeLine;rw[d6];decide,λbU H2 A0 g2 N4=>?_⟩;refine setC ?_;have WK:=g1.free A0;have fr_ne:fn≠bU:=λz=>by rw[←z,h1] at A0;cases A0
 have sz:(10000:Nat)<=sizeLine:=by rw[d6];decide
 have hdH:=Dm.dict;refine bo (id k_) λas dO eA=>?_;have N:=c7 eA;refine hU (Zk3 H F L n l d X fn bU x a) (λl9 eR=>?_) ?_
 ·refine IX (Zk2 H F L n l d X fn bU x a) (muC l.length)
   ⟨[(x,a)],0,aJ,aJ,aJ,g1.trans g2,g2 _ _ h1,N4,bf0 hx Zk6,Yx _,λ_ z=>absurd z (Wk _),rfl⟩ ?_ ?_
  ·rintro D H6 ⟨g,r,o7,o8,o9,R,vY,pX,J,rl,cl,rfl⟩;have kl:=SI l g;have gl:=J.len;refine⟨_,rfl,_,rfl,bU,_,rfl,.inl (aq.of pX),_,_,rfl,rfl,_,rfl,?_⟩;rw[kl];refine bY (λc=>?_) (λc=>?_)
   ·have yq:r<g.length:=by have:=fI c;omega
    obtain⟨k,v,N5⟩:∃(k:Nat) (v:Int),g[r]?=Z (k,v):=⟨g[r].1,g[r].2,Yb yq⟩;have ZK:(k,v)∈g:=Yg N5;have lkv:g.lookup k=Z v:=mem_lookup J.nd ZK;refine c9 (J.lt _ ZK) λkm v0 vn=>?_;have ZL:=R _ _ hdH;refine cD ?_;refine⟨_,rfl,_,rfl,bU,_,_,_,rfl,rfl,aq.of pX,ZhB N5,?_⟩;refine hU (Zk4 H F L n l d X fn bU x a r k v g) (λEo pU=>?_) ?_
    ·refine⟨_,rfl,d,rfl,.inl ⟨_,.inl ZL⟩,_,rfl,by show 0<=sizeLine;exact Yx _,λe0 H7 yr g7 vP=>?_⟩;have fn7:=g7 _ _ vY;have rw7:=g7 _ _ pX;have nf0:e0≠fn:=λz=>by rw[z,vY] at yr;cases yr
     have nr0:e0≠bU:=λz=>by rw[z,pX] at yr;cases yr
     obtain⟨N,W,eal,ZM,Zk7,Zk8,ZN⟩:∃(N:U) (W:O U),(aY kvs (.inr (au l k))).getD (.ref e0)=.ref N/\H7 N=Z (.lst (W.map V.ref))/\N≠fn/\N≠bU/\Paired (λe (p:Nat×O Int)=>∃u,H e=Z (.tup [.str (au l p.1),.ref u])/\cq H u p.2) W (L k):=by
      rcases Dm.at_ k km with⟨z1,z2⟩|⟨a1,W,w1,w2,w3,w4,w5⟩;·exact⟨e0,[],by rw[z1];rfl,vP,nf0,nr0,by rw[z2];exact .nil⟩
      ·exact⟨a1,W,by rw[w1];rfl,g7 _ _ (R _ _ w3),cC w3 EG,cC w3 WK,w5⟩
     have esl:=c7 ZN;refine⟨_,df (g7 _ _ ZL) rfl,N,eal,⟨_,aq.of ZM⟩,jE (K:=K) (a:=N) (xs:=W.map V.ref) (CIn H F L n l d X fn bU x a r k v g N W)
      ⟨g,[],o8,o9,R.trans g7,ZM,fn7,rw7,J,by rw[Wf],λq E=>(nomatch E),rfl⟩ (λj D A _ ⟨_,_,_,_,_,h,_,_,_,_,_,_⟩=>aq.of h) ?_ ?_⟩
     ·rintro j w D A G ⟨T,tl,p8,p9,g8,Mh,lu,mC,Q,eg,j9,rfl⟩;rw[Ye] at G;obtain⟨e,ee,rfl⟩:∃e,W[j]?=Z e/\V.ref e=w:=by
       cases z:W[j]? with
       |none=>rw[z] at G;cases G
       |some c=>rw[z] at G;exact⟨c,rfl,Yp G⟩
      obtain⟨⟨y,t⟩,ZO,u,he,hu⟩:=gf ZN ee;have Mi:hZ F k y t:=(ed _ _ _).mp (Yg ZO);refine eJ (zm gW Mi) λ_ ym ft tl8=>?_;have N6:T.lookup k=Z v:=by rw[eg];exact Bm lkv
      have vb:v<(t.length:Int):=by rw[tl8];exact vn
      have xc:=Q.len;have he8:A e=Z (.tup [.str (au l y),.ref u]):=g8 _ _ he;have NX:(L k).take (j+1)=(L k).take j++[(y,t)]:=by rw[Y1,ZO];rfl
      refine⟨e,_,rfl,az.of he8,rfl,_,_,rfl,bj ⟨_,_,rfl,bj ⟨rfl,?_⟩⟩⟩;refine rZ (Zk5 H F n l d X fn bU x a r k y u T N W) (λtJ gS=>?_) ?_
      ·refine⟨_,rfl,_,rfl,fn,_,rfl,df lu (se mw ym λp m=>(Q.lt p m).1),_,rfl,?_⟩;cases ly:T.lookup y with
       |none=>
        refine c6 ?_;refine⟨_,rfl,_,rfl,_,rfl,fn,.int v,rfl,df lu (by rw[se mw km λp m=>(Q.lt p m).1,N6];rfl),u,_,_,_,rfl,rfl,az.of (g8 _ _ hu),Le v0 vb,_,rfl,_,rfl,fn,_,.inr (au l y),rfl,lu,rfl,by rw[Zi7];exact Nat.lt_of_le_of_lt xc (Nat.lt_of_le_of_lt WJ (by decide)),λH9 b9 e9=>?_⟩;have vn0:aY (gN l T) (.inr (au l y))=aJ:=by rw[se mw ym λp m=>(Q.lt p m).1,ly];rfl
        rw[lF _ vn0] at e9;have vZ:=b9 _ _ mC (λz=>fr_ne z.symm);refine⟨_,rfl,.inl ⟨rfl,_,aq.of vZ⟩,_,rfl,bU,_,_,rfl,rfl,vZ,by rw[SI];exact Nat.lt_of_le_of_lt xc (Nat.lt_of_le_of_lt WJ (by decide)),λqX A1 q0=>?_⟩;refine gS _ _ ⟨T++[(y,ap t v)],[(y,ap t v)],ap t v,λc o z=>A1 _ _ (b9 _ _ (g8 _ _ z) (cC z EG)) (cC z WK),A1 _ _ (b9 _ _ Mh Zk7) Zk8,?_,?_,Q.add gW Mi N6 ly,rfl,Pu ly,rfl⟩;·rw[A1 _ _ e9 fr_ne,gN,gN,Yn];rfl
        ·rw[q0,rq,rq,Yn];rfl
       |some v'=>
        refine bV (aZ ?_);exact gS _ _ ⟨T,[],v',g8,Mh,lu,mC,Q,by rw[Wf],ly,rfl⟩
      ·rintro D H9 ⟨tS,N3,v',g9,Zk9,pV,vZ,EH,N7,lv,rfl⟩;have ZP:tS.lookup k=Z v:=by rw[N7];exact Bm N6
       refine⟨_,rfl,_,rfl,fn,.int v',rfl,df pV (by rw[se mw ym λp m=>(EH.lt p m).1,lv];rfl),_,rfl,_,rfl,_,rfl,fn,.int v,rfl,df pV (by rw[se mw km λp m=>(EH.lt p m).1,ZP];rfl),u,_,_,_,rfl,rfl,az.of (g9 _ _ hu),Le v0 vb,rfl,_,rfl,?_⟩;refine bY (λc=>?_) (λc=>aZ ?_)
       ·refine q1 (EH.ZjS Mi ZP lv λz=>?_) H9 g9;rw[z] at c;simp at c
       ·have ev:v'=ap t v:=by
         by_cases z:v'=ap t v;·exact z
         ·exact absurd (by simp[z]) c
        refine⟨tS,tl++N3,_,_,g9,Zk9,pV,vZ,EH,by rw[N7,eg,Jx],λq E=>?_,rfl⟩;rw[NX] at E;rcases Yv.mp E with E|E;·rw[N7];exact Bm (j9 q E)
        ·rw[Yi] at E;rw[E,lv,ev]
     ·rintro D A ⟨T,tl,p8,p9,g8,Mh,lu,mC,Q,eg,j9,rfl⟩;rw[Ya,esl,Wd] at j9;exact pU _ _ ⟨T,tl,p8,p9,g8,lu,mC,Q,eg,j9,rfl⟩
    ·rintro D A ⟨T,tl,p8,p9,g8,lu,mC,Q,eg,j9,rfl⟩;have rr:r<(g++tl).length:=by rw[Yj];exact Nat.lt_add_right _ yq
     have ge:(g++tl)[r]?=Z (k,v):=by rw[Wh yq];exact N5
     have m_:((r:Int)+1)=((r+1:Nat):Int):=QO
     refine⟨_,rfl,_,_,rfl,rfl,?_⟩;refine⟨⟨T,r+1,Z (.str (au l k)),p8,p9,g8,lu,mC,Q,by rw[eg];exact rr,λr' h'=>?_,rfl⟩,?_⟩
     ·rw[eg];by_cases z:r'=r
      ·subst z;intro p m qq E;rw[ge] at m;cases m;rw[←eg];exact j9 qq E
      ·exact(cl r' (Nat.lt_of_le_of_ne (Nat.le_of_lt_succ h') z)).app (Nat.lt_of_lt_of_le h' (Nat.succ_le_of_lt yq))
     ·show l.length+1-(r+1)<l.length+1-r;omega
   ·have re:¬((r:Int)<(g.length:Int)):=λz=>c (d9 z);exact eR _ _ ⟨g,r,o7,o8,o9,R,vY,J,λr' h'=>cl r' QO,rfl⟩
  ·rintro D H6 Q1 Q2 mo ⟨v1,w1,v2,w2,v3,v4,w3,w4,v5,v6,w5,w6,v7,w7,h⟩;exact⟨v1,w1,v2,w2,v3,v4,w3,w4,v5,v6,w5,w6,v7,w7,mo _ _ h⟩
 rintro D H6 ⟨g,r,o7,o8,o9,R,vY,J,cl,rfl⟩;refine hU (Ve l F H6 d X fn bU x a r g o7 o8 o9) (λl9 eR=>?_) ?_
 ·refine⟨_,rfl,X,rfl,⟨_,aq.of (R _ _ dO)⟩,jE (K:=K) (a:=X) (xs:=as.map V.ref) (λj=>Ve l (F.take j) H6 d X fn bU x a r g o7 o8 o9)
   ⟨rfl,λc hc=>(nomatch hc),aJ,aJ,aJ,aJ,rfl⟩ (λj D A _ ⟨e,_⟩=>by rw[e];exact aq.of (R _ _ dO)) ?_ ?_⟩
  ·rintro j v D A G ⟨rfl,sd,eS,tQ,tR,jg,rfl⟩;rw[Ye] at G;obtain⟨c0,ec,rfl⟩:∃c0,as[j]?=Z c0/\V.ref c0=v:=by
    cases e:as[j]? with
    |none=>rw[e] at G;cases G
    |some c=>rw[e] at G;exact⟨c,rfl,Yp G⟩
   obtain⟨c,je,z,hc⟩:=gf eA ec;have mc:=Yg je;have tP:F.take (j+1)=F.take j++[c]:=by rw[Y1,je];rfl
   refine⟨c0,_,rfl,az.of (R _ _ hc),rfl,_,_,rfl,bj ⟨_,_,rfl,bj ⟨_,_,rfl,bj ⟨_,_,rfl,bj ⟨rfl,?_⟩⟩⟩⟩⟩;have ev:∀b:cu,decide (V.str c.k=V.str bb)=b->(b=af↔c.k=bb):=λb e=>by
    rw[←e,jV];exact⟨V.str.inj,λz=>by rw[z]⟩
   have yt:(c.k=bb->∀u,g.lookup c.one=Z u->u=c.aU)->∃eS tQ tR jg:bS V,(A=A/\∀c∈F.take (j+1),c.k=bb->∀u,g.lookup c.one=Z u->u=c.aU)/\True:=λh=>⟨aJ,aJ,aJ,aJ,⟨rfl,λc' m'=>by
    rw[tP] at m';rcases Yv.mp m' with m'|m';·exact sd c' m'
    ·rw[Yi] at m';rw[m'];exact h⟩,trivial⟩
   refine⟨_,rfl,rfl,_,rfl,bY (λcc=>?_) (λcc=>?_)⟩
   ·have sk:=(ev _ rfl).mp cc;have eo:kV (bJ l c)=.int c.aU:=by rw[ji sk];rfl
    refine⟨_,rfl,_,rfl,fn,_,rfl,df vY (se mw (gW c mc).one λp m=>(J.lt p m).1),_,rfl,?_⟩;cases lk:g.lookup c.one with
    |none=>
     refine bV (bV (aZ ?_));obtain⟨_,_,_,_,⟨_,h⟩,_⟩:=yt λ_ u e=>by rw[lk] at e;cases e
     exact⟨rfl,h,_,_,_,_,rfl⟩
    |some u=>
     refine c6 ?_;refine⟨_,rfl,_,rfl,fn,.int u,rfl,df vY (by rw[se mw (gW c mc).one λp m=>(J.lt p m).1,lk];rfl),_,rfl,by rw[eo];rfl,_,rfl,bY (λc2=>?_) (λc2=>aZ ?_)⟩
     ·refine q1 (J.Zi3 mc sk lk λz=>?_) A R;rw[z,eo] at c2;simp at c2
     ·have eu:u=c.aU:=by
       by_cases z:u=c.aU;·exact z
       ·exact absurd (by rw[eo];simp[z]) c2
      obtain⟨_,_,_,_,⟨_,h⟩,_⟩:=yt λ_ u' e=>by rw[lk] at e;rw[←Yp e];exact eu
      exact⟨rfl,h,_,_,_,_,rfl⟩
   ·refine bV (aZ ?_);refine B2 (yt λz=>absurd ((ev _ rfl).mpr z) cc) λ_ _ _ _ mR _=>?_;obtain ⟨_,h⟩:=mR;exact⟨rfl,h,_,_,_,_,rfl⟩
  ·rintro D A ⟨rfl,sd,eS,tQ,tR,jg,rfl⟩;rw[Ya,N,Wd] at sd;exact eR _ _ ⟨rfl,sd,eS,tQ,tR,jg,rfl⟩
 rintro D A ⟨rfl,sd,eS,tQ,tR,jg,rfl⟩;exact⟨_,rfl,q2 fn g A R vY J (J.done ed cl sd)⟩
inductive Cw(i:O V)(H:Hp)(Q:VK)(E:XK):Prop
 |mk (h g:U) (a:bP) (b e:O Int) (F:O Fc) (x:Nat) (t:i=[.ref h,.ref g,.str (au a x)]) (r:FL H a h F) (m:fP H g b e) (j:(a.map (·.1)).Nodup) (s:∀c∈F,fF b e a.length c) (o:b.length<=8) (q:a.length<=100) (n:F.length<=64) (l:x<a.length) (k:∀(p:U) (d:Hp),H p=aJ->aj H d->d p=Z (.lst ((dP F b.length x).map V.int))->Q (.ref p) d)
inductive SJ(g:O V)(H:Hp)(Q:VK)(E:XK):Prop
 |mk (a b:U) (d c:O Int) (l:g=[.ref a,.ref b]) (j:cq H a d) (k:cq H b c) (h:oi d c) (i:∀(p:U) (e:Hp),H p=aJ->aj H e->fP e p d c->Q (.ref p) e)
noncomputable abbrev z8:O ar:=["_law_facts","_law_turns_here","_law_name_here"]
def O4:aW ["_law_facts","_law_turns_here","_law_name_here","_law_nets_here"] z8 (aL Hu):=.bp
open Classical in
def ZhC(F:aT K "_law_room" "_law_room" Hu f fd)(Ib:HasFn P w K B I 2 "_law_nets" Mf Ui)(Gb:HasFn P w K B I 1 "_law_carried" Mg Qr)(T:Bl B):aI P w K B I aR 3 f fd z8 Cw:=by
 refine F.o O4 λs H m h=>?_;obtain⟨Q,y,j,u,ys,F,x,rfl,E,G,A,N,k,WJ,X,hx,q⟩:=h;refine⟨_,(ak (iC (i:=3) O4.nd rfl (wh rfl) (bh Ib m (aa (pv 0) (aa (pv 1) ag)))) (av (aK (jG (x:="_law_at") (fr:=[("_law_nets_here",3),("_law_name_here",2),("_law_facts",0)]) (cl:=[("_law_nets_here",s.heap.objs.size+1+1+1),("_law_name_here",s.heap.objs.size+1+1),("_law_facts",s.heap.objs.size+1)]) rfl (.ia ⟨rfl,⟨rfl,⟨rfl,trivial⟩⟩⟩ ⟨⟨rfl,.inl rfl,.inl rfl,rfl⟩,⟨⟨rfl,.inl rfl,.inl rfl,rfl⟩,⟨⟨rfl,.inl rfl,.inl rfl,rfl⟩,trivial⟩⟩⟩) (nK rfl T.jk (aa (dv K T (dm (bL m) (pv 1) bB (λ_ _=>rfl))) ag)) (λ_ _ _ _=>zc (bO B0 (Lo Gb m (by omega) rfl (aa (pv 1) (aa (pv 3) (aa (pv 2) (aa (pv 0) ag))))) lI)) (λ_ _ _ _=>(pv 0)))))),?_⟩;refine cD ?_;refine⟨_,rfl,_,rfl,Q,y,j,u,ys,F,rfl,E,G,A,N,k,X,λd l L H1 a Dm ed=>?_⟩;obtain⟨_,_,_,v,dZ,_,_,_,t⟩:=id G;obtain⟨n,R⟩:∃n,n=u.length:=⟨_,rfl⟩;have gW:∀c∈F,eB n j.length c:=λc hc=>by rw[R];exact(N c hc).ok
 rw[←R] at t k q;have ul:((bQ n).map V.int).length=n:=by rw[Ya,fR]
 refine⟨_,rfl,y,.ref v,rfl,df (a _ _ dZ) rfl,v,_,rfl,.inr (az.of (a _ _ t)),?_⟩;rw[ul];refine⟨(n:Int),rfl,by omega,by omega,λD J=>?_⟩;refine OX (lo:=0) (by omega) J (λi=>decide (∃g,kI n F g/\g x=Z (i:Int))) (λi=>V.int (i:Int)) (λi hi W b _ Kt Kf kt kf=>?_) λW b h2=>?_
 ·rw[AE];have pL:(i:Nat)<n:=by omega
  refine⟨_,rfl,_,rfl,_,rfl,_,rfl,H,d,Q,l,L,n,j,F,x,(i:Int),rfl,A,Dm.same b,ed,(E.same a).same b,gW,k,WJ,X,hx,⟨by omega,by omega⟩,λno r o=>?_,λp gg r o Ei bf cl=>?_⟩
  ·refine⟨rfl,_,rfl,?_⟩;rw[qg (show V.ay=V.ay from rfl)];exact bV (kf r (qf no) o)
  ·refine⟨rfl,_,rfl,?_⟩;rw[qf (show ¬V.ref p=V.ay from λz=>nomatch z)];exact c6 ⟨_,rfl,kt _ r (qg ⟨_,cl,bf.hd⟩) o rfl⟩
 ·refine q D W (a.free J) (a.trans b) ?_;rw[h2,Y7];have e:dP F n x=((List.range n).filter λi:Nat=>decide (∃g,kI n F g/\g x=Z (i:Int))).map λi:Nat=>(i:Int):=by
   unfold dP bQ;rw[Ej];rfl
  rw[e,Y6];rfl
noncomputable abbrev Mj:O ar:=["_law_mother","_law_wife"]
def Gy:aW ["_law_mother","_law_wife","_law_father","_law_alone"] Mj (aL GP):=.bp
def Zgf(F:aT K "_law_turns" "_law_turns" GP f fd)(Q:HasFn P w K B I 1 "_law_inverse" z7 LF)(G_:HasFn P w K B I 1 "_law_after" Dk (U_ K))(J:Bl B):aI P w K B I aR 2 f fd Mj SJ:=by
 refine F.o Gy λs H A h=>?_;obtain⟨a,b,j,r,rfl,D,R,gl,q⟩:=h;refine m8 (id gl) λfx fy le l2 l8=>?_;refine⟨_,(ak (cj 2 Gy.nd (bh G_ A (aa (pv 1) (aa (pv 0) ag)))) (ak (cj 3 Gy.nd (fC (ZaI rfl) rfl J.nO nM (aa (fC Bg rfl J.jk uj (aa (dv K J (pv 0)) ag)) ag))) (av (aK (zg (kG bB (bh Q A (aa (pv 0) ag)) (kG bB (bh Q A (aa (pv 2) ag)) (kG bB (pv 1) (kG bB (pv 3) zf)))) rfl rfl (λz=>nomatch z) (Ji rfl)))))),?_⟩;refine cD ?_;have lv:∀x∈r,0<=x/\x<(j.length:Int):=λx hx=>by rw[le];exact rR fy hx
 refine⟨_,rfl,_,rfl,b,a,r,j,rfl,az.of R,az.of D,lv,QO,λl H1 nl p hl=>?_⟩;refine cD ?_;have el:(j.map V.int).length=j.length:=Ya _;refine⟨_,rfl,a,_,rfl,.inr (az.of (p _ _ D)),_,rfl,λrg H2 nrg g2 y=>⟨rg,j.length,rfl,by rw[y,el],(Nat.le_trans l8 (by decide)),λst H3 D7 g3 dN=>?_⟩⟩;have E:=g2.trans g3;intro d v;have G:=cF v (.dK []);have N:upd H3 d (.dK []) d=Z (.dK []):=a9;generalize upd H3 d (.dK [])=H4 at G N⊢;have ZQ:=E.trans G;have u:=p.trans ZQ;refine⟨_,rfl,a,j,rfl,u _ _ D,(Nat.lt_of_le_of_lt l8 (by decide)),fx,λi H5 nim X Nr=>?_⟩;refine⟨_,rfl,l,b_ j r,rfl,X _ _ (ZQ _ _ hl),by rw[ug];omega,JH fx fy le,λg k njf W Nt=>?_⟩;have m:=X.trans W;refine⟨_,rfl,_,rfl,m _ _ N,[(.inr "mother",.ref i),(.inr "father",.ref g),(.inr "wed",.ref b),(.inr "sibling",.ref st)],rfl,by show 4<=15;decide,?_⟩;have L:aG d k (upd k d (.dK (xk i g b st))):=aG.put (aG.of (aj.refl _));have ZR:upd k d (.dK (xk i g b st)) d=Z (.dK (xk i g b st)):=a9;have em:oY [] [((.inr "mother":Key),V.ref i),(.inr "father",.ref g),(.inr "wed",.ref b),(.inr "sibling",.ref st)]=xk i g b st:=rfl;rw[em];generalize upd k d (.dK (xk i g b st))=H7 at L ZR⊢;have t:∀{c:U} {zs:O Int},cq k c zs->c≠d:=λT z=>by rw[cq,z,m _ _ N] at T;cases T
 have n:∀{c:U} {zs:O Int},cq k c zs->cq H7 c zs:=λh=>L _ _ h (t h);refine q d H7 (p.free (E.free v)) (λc o e=>L _ _ (m _ _ (u _ _ e)) (cC e (p.free (E.free v)))) ⟨i,g,b,st,ZR,n (W _ _ Nr),n Nt,n (m _ _ (u _ _ R)),n (m _ _ (G _ _ dN))⟩
theorem FL.get(h:FL H i o F):∃b:O U,H o=Z (.lst (b.map V.ref))/\b.length=F.length/\∀(d:Hp) (j:Nat) (v:V),aj H d->(b.map V.ref)[j]?=Z v->∃(a:U) (c:Fc) (z:Int),v=.ref a/\F[j]?=Z c/\F.take (j+1)=F.take j++[c]/\d a=Z (.tup [.int z,.str c.k,.str (au i c.one),kV (bJ i c)]):=by
 refine bo h λb q l=>?_;refine⟨b,q,c7 l,λd j v g m=>?_⟩;rw[Ye] at m;obtain⟨a,p,rfl⟩:∃a,b[j]?=Z a/\V.ref a=v:=by
  cases e:b[j]? with
  |none=>simp_all
  |some c=>simp_all
 obtain⟨c,k,z,n⟩:=gf l p;exact⟨a,c,z,rfl,k,by rw[Y1,k];rfl,g _ _ n⟩
def m6(b:bP)(k a:ar)(o:V)(c:Fc):cu:=decide (c.k=k)&&((decide (au b c.one=a)&&(decide (kV (bJ b c)=o)||cZ k))||(decide (k="sibling")&&(decide (kV (bJ b c)=.str a)&&decide (V.str (au b c.one)=o))))
def mV(b:bP)(F:O Fc)(k a:ar)(o:V):cu:=F.any (m6 b k a o)||(decide (k="sibling")&&decide (V.str a=o))
def Bt(t:TT)(c:St)(H:Hp)(b:cu):Prop:=∀k:cu->Hp->Prop,(∀a,aj H a->k b a)->t c H k
def Vt(t:TE)(b:St)(H:Hp)(v:V):Prop:=∀k:VK,(∀a,aj H a->k v a)->t b H k
theorem Bt.and(h:Bt t σ H a)(g:∀d,a=af->aj H d->Bt u σ d b):Bt (Vq t u) σ H (a&&b):=λk e=>h _ λl c=>by
 cases a with
 |true=>exact c6 (g l rfl c _ λj i=>e j (c.trans i))
 |false=>simp_all
theorem Bt.or(h:Bt t σ H a)(g:∀d,a=bg->aj H d->Bt u σ d b):Bt (Xb t u) σ H (a||b):=λk e=>h _ λl c=>by
 cases a with
 |true=>grind
 |false=>exact bV (g l rfl c _ λj i=>e j (c.trans i))
def Vt.var(h:σ[i]?=Z (Z x)):Vt (hV i) σ H x:=λ_ a=>⟨x,h,a H (aj.refl _)⟩
def Vt.c:Vt (tC x) σ H x:=λ_ a=>a H (aj.refl _)
def Vt.test(h:Vt d σ H (.bl b)):Bt (Lm d) σ H b:=λk a=>h _ λe c=>⟨b,rfl,a e c⟩
def Vt.eq(g:Vt j σ H x)(e:∀b,aj H b->Vt i σ b y)(c:zR x y=af):Vt (ku Xf j i) σ H (.bl (decide (x=y))):=λk d=>g _ λm a=>e m a _ λl h=>⟨c,d l (a.trans h)⟩
def Vt.ne(g:Vt j σ H x)(e:∀b,aj H b->Vt i σ b y)(c:zR x y=af):Vt (ku Xg j i) σ H (.bl (!decide (x=y))):=λk d=>g _ λm a=>e m a _ λl h=>⟨c,d l (a.trans h)⟩
theorem Vt.WL(i:Vt m σ H (.bl a))(h:∀g,a=af->aj H g->Vt l σ g (.bl b)):Vt (Uy m l) σ H (.bl (a&&b)):=λk d=>i _ λe c=>⟨a,rfl,by
 cases a with
 |true=>exact c6 (h e rfl c _ λn j=>d n (c.trans j))
 |false=>exact bV (d e c)⟩
theorem Vt.orV(h:Vt l σ H (.bl a))(g:∀d,a=bg->aj H d->Vt j σ d (.bl b)):Vt (Vr l j) σ H (.bl (a||b)):=λk e=>h _ λn c=>⟨a,rfl,by
 cases a with
 |true=>grind
 |false=>exact bV (g n rfl c _ λm i=>e m (c.trans i))⟩
def Vt.LG(c:Vt h σ H (.str k)):Vt (ku (Al K bg) h (zM (iV (tC (V.str "mother")) (iV (tC (V.str "father")) jO)))) σ H (.bl (cZ k)):=λq b=>c _ λl g=>by
 refine⟨by show 2<=sizeLine;rw[d6];decide,λp i j d a=>⟨p,_,rfl,.inr (az.of a),rfl,rfl,?_⟩⟩;have e:gT (V.str k) [V.str "mother",V.str "father"]=cZ k:=by
  rw[Wn];unfold gT cZ;rw[Jh,Jh,List.any_nil,zS,Jm,Jm,jV,jV];show((("mother":ar)==k)=af\/(("father":ar)==k)=af)↔_
  grind
 exact e▸b i (g.trans d)
def Flat(o:V):Prop:=(∃z,o=.int z)\/∃z,o=.str z
theorem Ce(k:Key):Flat (kV k):=by
 cases k with
 |inl z=>exact .inl ⟨z,rfl⟩
 |inr z=>exact .inr ⟨z,rfl⟩
def BH(b:Flat u)(a:Flat v):zR u v=af:=by
 rcases b with⟨_,rfl⟩|⟨_,rfl⟩<;>rcases a with⟨_,rfl⟩|⟨_,rfl⟩<;>rfl
inductive Ry(b:O V)(H:Hp)(Q:VK):Prop
 |mk (d:U) (c:bP) (F:O Fc) (k a:ar) (o:V) (i:b=[.ref d,.str k,.str a,o]) (h:FL H c d F) (g:Flat o) (q:∀e,aj H e->Q (.bl (mV c F k a o)) e):Ry b H Q
def SK:Sp:=λa H Q _=>Ry a H Q
inductive SM(d:O V)(H:Hp)(Q:VK)(E:XK):Prop
 |mk (b:U) (a:bP) (k:ar) (i j:Nat) (n:d=[.ref b,.str k,.str (au a i),.str (au a j)]) (g:H b=Z (.dK (iI a))) (e:(a.map (·.1)).Nodup) (m:i<a.length) (l:j<a.length) (h:k="mother"\/k="father"\/k="wed"\/k="sibling") (q:∀c,aj H c->Q (.bl (mQ k (g_ a i) (g_ a j))) c)
def Rz(j:cE xs q b):y∈iE b a↔∃c∈b.F,cZ c.k=af/\au b.ps c.one=a/\kV (bJ b.ps c)=.str y:=by
 constructor
 ·intro h;obtain⟨v,l,rfl⟩:=Yf.mp (h);unfold qC at l;obtain⟨k,_,e⟩:=Jr.mp l;obtain⟨p,g,d,s,i,rfl,r⟩:=Sz j e;have m:p.2.k≠bb:=λz=>by
   rw[z] at d;exact absurd d QK
  exact⟨p.2,Yf.mpr ⟨p,g,rfl⟩,d,i,by rw[jj m];rfl⟩
 ·rintro⟨c,o,d,rfl,i⟩;obtain⟨p,g,rfl⟩:=Yf.mp (o);have n:(([.inr p.2.k,.inr (au b.ps p.2.one)]:O Key),kV (bJ b.ps p.2))∈cQ b.ps b.fs:=Yf.mpr ⟨p,Y5.mpr ⟨g,d⟩,rfl⟩;have e:=Sq j.pr n;refine Yf.mpr ⟨.str y,?_,rfl⟩;unfold qC;refine Jr.mpr ⟨p.2.k,?_,by rw[e,i]⟩;unfold cZ at d;rw[Jm,jV,jV] at d;rcases d with z|z<;>rw[z];·exact Yo
  ·exact Yw _ Yo
structure yv(b:BS)(a:ar)(ks:O ar):Prop where
 nd:ks.Nodup
 sd:∀k∈ks,iq b a k
 ma:a∈ks
def yv.len(u:yv b a e)(c:cE xs h b)(d:a∈b.ps.map (·.1)):e.length<=b.ps.length:=by
 have:=u.nd.length_le_of_subset λk g=>BX c d (u.sd k g)
 simp_all
theorem yv.all(u:yv b a c)(j:∀r,r<c.length->∀k,c[r]?=Z k->∀p∈iE b k,p∈c)(z:ar):z∈c↔iq b a z:=by
 refine⟨u.sd z,λh=>?_⟩;induction h with
 |refl=>exact u.ma
 |step _ g e=>
  obtain⟨r,d,i⟩:=Ww.mp e;exact j r d _ (by rw[Yb d,i]) _ g
inductive WM(i:O V)(H:Hp)(Q:VK)(E:XK):Prop
 |mk (e:U) (h g:O Int) (b:BS) (a:ar) (l:i=[.ref e,.str a]) (k:FL H b.ps e b.F) (ok:cE h g b) (j:a∈b.ps.map (·.1)) (q:∀(p:U) (d:O ar) (c:Hp),aj H c->c p=Z (.lst (d.map V.str))->(∀z,z∈d↔iq b a z)->Q (.ref p) c)
def muU(m:Nat):St->Hp->Nat:=λa _=>match List.getD (α:=bS V) a 3 aJ with|some (V.int z)=>m+1-z.toNat|_=>0
inductive ZS(H:Hp)(b:BS)(a:ar)(l d:U)(i:St)(h:Hp):Prop
 |mk (c:O ar) (r:Nat) (q o n m:bS V) (g:aj H h) (u:h d=Z (.lst (c.map V.str))) (s:yv b a c) (t:r<=c.length) (v:∀j,j<r->∀k,c[j]?=Z k->∀p∈iE b k,p∈c) (e:i=[Z (.ref l),Z (.str a),Z (.ref d),Z (.int (r:Int)),q,o,n,m]):ZS H b a l d i h
inductive N9(H:Hp)(b:BS)(a:ar)(n h:U)(r:Nat)(m:O ar)(k:ar)(j:Nat)(l:St)(i:Hp):Prop
 |mk (d o:O ar) (t s q p:bS V) (g:aj H i) (v:i h=Z (.lst (d.map V.str))) (u:yv b a d) (x:d=m++o) (z:∀c∈b.F.take j,cZ c.k=af->au b.ps c.one=k->∀y,kV (bJ b.ps c)=.str y->y∈d) (e:l=[Z (.ref n),Z (.str a),Z (.ref h),Z (.int (r:Int)),t,s,q,p]):N9 H b a n h r m k j l i
def ZdN(h:Flat o):kh o=af:=by
 rcases h with⟨_,rfl⟩|⟨_,rfl⟩<;>rfl
def Qs(a:O ar):(a.map V.str).all kh=af:=by
 rw[Wo];intro v b;obtain⟨k,_,rfl⟩:=Yf.mp b;rfl
def Ml(y:ar)(ks:O ar):gT (.str y) (ks.map V.str)=af↔y∈ks:=by
 unfold gT;rw[Jg];constructor
 ·rintro⟨v,a,e⟩;obtain⟨k,b,rfl⟩:=Yf.mp a;have:(k==y)=af:=e
  simp_all
 ·intro h;exact⟨.str y,Yf.mpr ⟨y,h,rfl⟩,by show(y==y)=af;rw[beq_iff_eq]⟩
noncomputable abbrev Mm:O ar:=["_law_facts","_law_kind","_law_one","_law_other"]
def yM:aW ["_law_facts","_law_kind","_law_one","_law_other","_law_number","_law_had","_law_here","_law_there"] Mm (aL Hw):=.bp
def ZcH(F:aT K "_law_told" "_law_told" Hw f fd):aI P w K B I aR 1 f fd Mm SK:=by
 refine F.o yM λs H hr h=>?_;obtain⟨y,i,F,k,a,o,rfl,L,D,q⟩:=h;refine⟨_,(ak (fS iJ rfl (fD rfl (pv 0)) (iP rfl rfl (bW (bI 4 yM.nd) (bW (bI 5 yM.nd) (bW (bI 6 yM.nd) (bW (bI 7 yM.nd) iN))))) (ak (aX (PW.pt (pw_and (bO cP (pv 5) (pv 1)) (pw_and (bO cP (pv 6) (pv 2)) (pw_and1 (PW.pt (pw_or (bO cP (pv 7) (pv 3)) (pw_or1 (gm (oI rfl) (pv 1) (du (aa bB (aa bB ag))) QU)))))))) (av (aK d7)) a_) (av (aX (PW.pt (pw_and (bO cP (pv 5) (pv 1)) (pw_and (bO cP (pv 1) bB) (pw_and (bO cP (pv 7) (pv 2)) (pw_and1 (bO cP (pv 6) (pv 3))))))) (av (aK d7)) a_)))) (av (aK (qy (fX cP (pv 1) bB) (nU (fX cP (pv 2) (pv 3))))))),?_⟩;refine cm L.get λas G al T=>?_;refine hU (λd l=>aj H l/\F.any (m6 i k a o)=bg/\∃r p n m:bS V,d=[Z (.ref y),Z (.str k),Z (.str a),Z o,r,p,n,m]) (λl9 X=>?_) ?_
 ·refine⟨_,rfl,y,rfl,⟨_,aq.of G⟩,jE (λj d l=>aj H l/\(F.take j).any (m6 i k a o)=bg/\∃r p n m:bS V,d=[Z (.ref y),Z (.str k),Z (.str a),Z o,r,p,n,m])
   ⟨aj.refl _,rfl,aJ,aJ,aJ,aJ,rfl⟩ (λj d l _ ⟨g,_⟩=>aq.of (g _ _ G)) ?_ ?_⟩
  ·rintro j v d l Q ⟨g,no,r,p,n,m,rfl⟩;refine lV (T l j v g Q) λc0 c z hI N J R=>?_;subst hI;have x:m6 i k a o c=af->mV i F k a o=af:=λh=>by
    unfold mV;rw[Jg.mpr ⟨c,Yg N,h⟩];rfl
   refine⟨c0,_,rfl,az.of R,rfl,_,_,rfl,bj ⟨_,_,rfl,bj ⟨_,_,rfl,bj ⟨_,_,rfl,bj ⟨rfl,?_⟩⟩⟩⟩⟩;refine rZ (λd u=>aj H u/\(decide (c.k=k)&&(decide (au i c.one=a)&&(decide (kV (bJ i c)=o)||cZ k)))=bg/\d=[Z (.ref y),Z (.str k),Z (.str a),Z o,Z (.int z),Z (.str c.k),Z (.str (au i c.one)),Z (kV (bJ i c))]) (λtJ W=>?_) ?_
   ·refine(Bt.and (Vt.test (Vt.eq (Vt.var rfl) (λ_ _=>Vt.var rfl) rfl)) λ_ _ _=>Bt.and (Vt.test (Vt.eq (Vt.var rfl) (λ_ _=>Vt.var rfl) rfl)) λ_ _ _=>Bt.or (Vt.test (Vt.eq (Vt.var rfl) (λ_ _=>Vt.var rfl) (BH (Ce _) D))) λ_ _ _=>Vt.test (Vt.LG (Vt.var rfl))) _ λu t=>?_;rw[fh,fh];refine bY (λb=>?_) (λb=>?_)
    ·have:=x (by unfold m6;rw[Wc] at b⊢;exact⟨b.1,by rw[b.2];rfl⟩);rw[this] at q;exact q u (g.trans t)
    ·exact aZ (W _ _ ⟨g.trans t,W6.mpr b,rfl⟩)
   ·rintro d u ⟨t,A,rfl⟩;refine(Bt.and (Vt.test (Vt.eq (Vt.var rfl) (λ_ _=>Vt.var rfl) rfl)) λ_ _ _=>Bt.and (Vt.test (Vt.eq (Vt.var rfl) (λ_ _=>Vt.c) rfl)) λ_ _ _=>Bt.and (Vt.test (Vt.eq (Vt.var rfl) (λ_ _=>Vt.var rfl) (BH (Ce _) (.inr ⟨_,rfl⟩)))) λ_ _ _=>Vt.test (Vt.eq (Vt.var rfl) (λ_ _=>Vt.var rfl) (BH (.inr ⟨_,rfl⟩) D))) _ λH8 E=>?_;rw[fh,fh];refine bY (λb=>?_) (λb=>aZ ?_)
    ·have:=x (by unfold m6;rw[Wc] at b⊢;exact⟨b.1,by rw[b.2,Bool.or_true]⟩);rw[this] at q;exact q H8 (t.trans E)
    ·refine⟨t.trans E,?_,_,_,_,_,rfl⟩;rw[J,List.any_append,no,DQ,Jh,List.any_nil,zS];unfold m6;rw[Bool.and_or_distrib_left,A,DQ];exact W6.mpr b
  ·rintro d l ⟨g,no,r,p,n,m,rfl⟩;rw[Ya,al,Wd] at no;exact X _ _ ⟨g,no,r,p,n,m,rfl⟩
 rintro d l ⟨g,no,r,p,n,m,rfl⟩;refine(Vt.WL (Vt.eq (Vt.var rfl) (λ_ _=>Vt.c) rfl) λ_ _ _=>Vt.eq (Vt.var rfl) (λ_ _=>Vt.var rfl) (BH (.inr ⟨_,rfl⟩) D)) _ λu t=>?_;have e:=q u (g.trans t);unfold mV at e;rw[no,DQ] at e;rwa[fh]
noncomputable abbrev Dn:O ar:=["_law_sides","_law_kind","_law_one","_law_other"]
def Zb3:aW Dn Dn (aL GQ):=.bp
def Zb4(F:aT K "_law_sided" "_law_sided" GQ f fd):aI P w K B I aR 1 f fd Dn SM:=by
 refine F.o Zb3 λs H l h=>?_;obtain⟨g,m,k,i,j,rfl,p,n,x,t,d,q⟩:=h;refine⟨_,(ak (aX (bO cP (pv 1) bB) (av (aK (fX cP (dm (bL l) (pv 0) (pv 3) (λ_ _=>rfl)) bB))) a_) (ak (aX (bO cP (pv 1) bB) (av (aK (fX cP (dm (bL l) (pv 0) (pv 3) (λ_ _=>rfl)) bB))) a_) (av (aK (Lj (fX iU (pv 1) bB) (nU (qy (fX cP (dm (bL l) (pv 0) (pv 2) (λ_ _=>rfl)) bB) (nU (fX cP (dm (bL l) (pv 0) (pv 3) (λ_ _=>rfl)) bB))))))))),?_⟩;have u:=df p (qv n t);refine⟨_,rfl,rfl,_,rfl,?_⟩;rw[fh];refine bY (λc=>?_) (λc=>aZ ?_)
 ·have e:k="mother":=fI c;refine⟨_,rfl,_,rfl,g,_,rfl,u,rfl,?_⟩;rw[fh];unfold mQ at q;rw[bC e] at q;exact q H (aj.refl _)
 have o:k≠"mother":=λz=>c (d9 z);refine⟨_,rfl,rfl,_,rfl,?_⟩;rw[fh];refine bY (λc=>?_) (λc=>aZ ?_)
 ·have e:k="father":=fI c;refine⟨_,rfl,_,rfl,g,_,rfl,u,rfl,?_⟩;rw[fh];unfold mQ at q;rw[bF o,bC e] at q;exact q H (aj.refl _)
 have r:k≠"father":=λz=>c (d9 z);have D:(!decide (k="wed"))=decide (k="sibling"):=by
  rcases d with z|z|z|z;·exact absurd z o
  ·exact absurd z r
  ·rw[z];decide+kernel
  ·rw[z];decide+kernel
 refine(Vt.orV (a:=decide (k="sibling")) (b:=decide (g_ m i="man")&&decide (g_ m j="woman")) ?_ λJ _ v=>Vt.WL (a:=decide (g_ m i="man")) ?_ λG _ y=>?_) _ λE A=>?_
 ·rw[←D,←fh];exact Vt.ne (Vt.var rfl) (λ_ _=>Vt.c) rfl
 ·rw[←fh];exact Vt.eq (λk d=>⟨_,rfl,_,rfl,g,_,rfl,df (v _ _ p) (qv n x),d _ (aj.refl _)⟩) (λ_ _=>Vt.c) rfl
 ·rw[←fh];exact Vt.eq (λk d=>⟨_,rfl,_,rfl,g,_,rfl,df (y _ _ (v _ _ p)) (qv n t),d _ (aj.refl _)⟩) (λ_ _=>Vt.c) rfl
 ·unfold mQ at q;rw[bF o,bF r] at q;exact q E A
noncomputable abbrev Mn:O ar:=["_law_facts","_law_name_here"]
def rJ:aW ["_law_facts","_law_name_here","_law_row_here","_law_at","_law_number","_law_kind","_law_one","_law_other"] Mn (aL JG):=.bp
def ZeP(F:aT K "_law_up" "_law_up" JG f fd)(bl:Bl B):aI P w K B I aR 1 f fd Mn WM:=by
 refine F.o rJ λs H hr h=>?_;obtain⟨Q,xs,ys,b,a,rfl,k_,ok,ma,q⟩:=h;refine⟨_,(ak (cj 2 rJ.nd (dU (aa (pv 1) ag))) (ak (cj 3 rJ.nd aP) (ak (IW iJ (bO oZ (pv 3) (dv K bl (pv 2))) (ak (fS iJ rfl (fD (K:=K) rfl (pv 0)) (iP (K:=K) (n:=4) rfl rfl (bW (bI 4 rJ.nd) (bW (bI 5 rJ.nd) (bW (bI 6 rJ.nd) (bW (bI 7 rJ.nd) iN))))) (av (aX (PW.pt (pw_and (gm (oI (K:=K) rfl) (pv 5) (du (aa bB (aa bB ag))) QU) (pw_and (bO cP (pv 6) (bc (iL K) (pv 2) (pv 3))) (pw_and1 (gm (xg (K:=K) rfl) (pv 7) (pv 2) QU))))) (av (cz (nW (K:=K) rfl (kJ lg me lW oR (pv 2) (aa (pv 7) ag))))) a_))) (av (S2 (i:=3) rJ.nd rfl (hY rfl) aP S3)))) (av (aK (pv 2)))))),?_⟩;refine pz ?_;intros;have sz:(10000:Nat)<=sizeLine:=by rw[d6];decide
 refine cm k_.get λas dO al gt=>?_;have A2:=ok.m;refine cD ?_;refine⟨_,rfl,by show 1<=sizeLine;decide,λm H1 A0 g1 N4=>?_⟩;refine setC ?_;refine hU (λD R=>∃ks:O ar,aj H R/\R m=Z (.lst (ks.map V.str))/\(∀z,z∈ks↔iq b a z)/\∃o3 o4 o5 o6 o7:bS V,D=[Z (.ref Q),Z (.str a),Z (.ref m),o3,o4,o5,o6,o7]) (λl9 eR=>?_) ?_
 ·refine IX (ZS H b a Q m) (muU b.ps.length) ⟨[a],0,aJ,aJ,aJ,aJ,g1,N4,⟨Y0.mpr ⟨(λz=>nomatch z),Jj⟩,λk W=>by rw[Yi.mp W];exact .refl,Yo⟩,Yx _,λr hr=>absurd hr (Wk _),rfl⟩ ?_ ?_
  ·rintro D R ⟨ks,r,o4,o5,o6,o7,g6,T,up,rl,cl,rfl⟩;have kl:(ks.map V.str).length=ks.length:=Ya _;have gl:=up.len ok ma;refine⟨_,rfl,_,rfl,m,_,rfl,.inl (aq.of T),_,_,rfl,rfl,_,rfl,?_⟩;rw[kl];refine bY (λc=>?_) (λc=>?_)
   ·have yq:r<ks.length:=by have:=fI c;omega
    obtain⟨k,ek⟩:∃k,ks[r]?=Z k:=⟨_,Yb yq⟩;have mk:k∈ks:=Yg ek;refine hU (N9 H b a Q m r ks k b.F.length) (λEo pU=>?_) ?_
    ·refine⟨_,rfl,Q,rfl,⟨_,aq.of (g6 _ _ dO)⟩,jE (K:=K) (a:=Q) (xs:=as.map V.ref) (N9 H b a Q m r ks k) ⟨ks,[],o4,o5,o6,o7,g6,T,up,by rw[Wf],λc hc=>(nomatch hc),rfl⟩ (λj D H8 _ ⟨_,_,_,_,_,_,g,_,_,_,_,_⟩=>aq.of (g _ _ dO)) ?_ ?_⟩
     ·rintro j v D H8 hj ⟨fZ,tl,p4,p5,p6,p7,X,L,t,A,j9,rfl⟩;refine lV (gt H8 j v X hj) λc0 c z hI je tP hc=>?_;subst hI;have mc:c∈b.F:=Yg je;have EI:fZ[r]?=Z k:=by rw[A,Wh yq];exact ek
      have xc:=t.len ok ma;refine⟨c0,_,rfl,az.of hc,rfl,_,_,rfl,bj ⟨_,_,rfl,bj ⟨_,_,rfl,bj ⟨_,_,rfl,bj ⟨rfl,?_⟩⟩⟩⟩⟩;refine(Bt.and (Vt.test (Vt.LG (k:=c.k) (Vt.var rfl))) λHA _ gA=>Bt.and (Vt.test (Vt.eq (x:=.str (au b.ps c.one)) (y:=.str k) (Vt.var rfl) (λHB gB kk W=>⟨_,rfl,_,rfl,m,_,_,_,rfl,rfl,aq.of (gB _ _ (gA _ _ L)),iz (by rw[Ye,EI];rfl),W _ (aj.refl _)⟩) rfl)) λHB _ gB=>Vt.test (b:=!gT (kV (bJ b.ps c)) (fZ.map V.str)) λkk W=>⟨_,rfl,_,rfl,m,_,rfl,.inl (aq.of (gB _ _ (gA _ _ L))),ZdN (Ce _),Qs _,W _ (aj.refl _)⟩) _ λH9 g9=>?_;rw[fh];have yt:∀lC:O ar,(∀x∈fZ,x∈lC)->(cZ c.k=af->au b.ps c.one=k->∀y,kV (bJ b.ps c)=.str y->y∈lC)->∀c'∈b.F.take (j+1),cZ c'.k=af->au b.ps c'.one=k->∀y,kV (bJ b.ps c')=.str y->y∈lC:=λlC sub hh c' N J G y E=>by
       rw[tP] at N;rcases Yv.mp N with N|N;·exact sub _ (j9 c' N J G y E)
       ·rw[Yi.mp N] at J G E;exact hh J G y E
      refine bY (λcc=>?_) (λcc=>aZ ?_)
      ·rw[Wc,Wc,jV] at cc;refine c9 cc λc1 c2 c3=>?_;have ns:c.k≠bb:=λz=>by rw[z] at c1;exact absurd c1 QK
       have eo:kV (bJ b.ps c)=.str (au b.ps c.aU.toNat):=by rw[jj ns];rfl
       have vZ:=g9 _ _ L;refine⟨_,rfl,.inl ⟨rfl,_,aq.of vZ⟩,_,rfl,m,_,_,rfl,rfl,vZ,by rw[Ya];exact Nat.lt_of_le_of_lt xc (Nat.lt_of_le_of_lt A2 (by decide)),λqX A1 q0=>?_⟩;have no:au b.ps c.aU.toNat∉fZ:=λz=>by
        rw[eo,(Ml _ _).mpr z] at c3;cases c3
       refine⟨fZ++[au b.ps c.aU.toNat],tl++[au b.ps c.aU.toNat],_,_,_,_,λd o e=>A1 _ _ (g9 _ _ (X _ _ e)) (cC e A0),by rw[q0,Yn,eo];rfl,⟨?_,λx l=>?_,Yt _ t.ma⟩,by rw[A,Jx],yt _ (λx l=>Yt _ l) λ_ _ y hy=>?_,rfl⟩
       ·refine Wy.mpr ⟨t.nd,QS,λu hu w hw z=>?_⟩;rw[Yi] at hw;rw[z,hw] at hu;exact no hu
       ·rcases Yv.mp l with l|l;·exact t.sd x l
        ·rw[Yi.mp l];exact .step (t.sd k (Yg EI)) ((Rz ok).mpr ⟨c,mc,c1,c2,eo⟩)
       ·rw[eo] at hy;rw[←V.str.inj hy];exact Yr _ Yo
      ·refine⟨fZ,tl,_,_,_,_,X.trans g9,g9 _ _ L,t,A,yt _ (λ_ h=>h) λJ G y E=>?_,rfl⟩;rw[J,AV,d9 G,AV,E] at cc;by_cases z:y∈fZ;·exact z
       ·exact absurd (by rw[W6.mpr (λw=>z ((Ml _ _).mp w))];rfl) cc
     ·simp_all
    ·rintro D H8 ⟨fZ,tl,p4,p5,p6,p7,X,L,t,A,j9,rfl⟩;rw[Wd] at j9;have EI:fZ[r]?=Z k:=by rw[A,Wh yq];exact ek
     refine⟨_,rfl,_,_,rfl,rfl,?_⟩;refine⟨⟨fZ,r+1,p4,p5,p6,p7,X,L,t,by rw[A,Yj];exact Nat.succ_le_of_lt (Nat.lt_add_right _ yq),λr' h' x l p hp=>?_,rfl⟩,?_⟩
     ·by_cases z:r'=r
      ·rw[z,EI] at l;cases l;refine lr ((Rz ok).mp hp) λc mc J G E=>?_;exact j9 c mc J G p E
      ·rw[A,Wh (Nat.lt_of_lt_of_le h' (Nat.succ_le_of_lt yq))] at l;rw[A];exact Yt _ (cl r' (Nat.lt_of_le_of_ne (Nat.le_of_lt_succ h') z) x l p hp)
     ·show b.ps.length+1-(r+1)<b.ps.length+1-r;omega
   ·have re:¬((r:Int)<(ks.length:Int)):=λz=>c (d9 z);exact eR _ _ ⟨ks,g6,T,up.all (λr' h'=>cl r' QO),_,_,_,_,_,rfl⟩
  ·rintro D R Q1 Q2 mo ⟨v1,w1,v2,w2,v3,v4,w3,w4,v5,v6,w5,w6,v7,w7,h⟩;exact⟨v1,w1,v2,w2,v3,v4,w3,w4,v5,v6,w5,w6,v7,w7,mo _ _ h⟩
 rintro D R ⟨ks,g6,T,al,o3,o4,o5,o6,o7,rfl⟩;exact⟨_,rfl,q m ks R g6 T al⟩
open Classical in
noncomputable def mW (n:Nat) (b:BS) (c:Fc):ar:=if c.k≠bb/\mQ c.k (g_ b.ps c.one) (g_ b.ps c.aU.toNat)=bg then"wrong side" else if mV b.ps b.F c.k (au b.ps c.one) (kV (bJ b.ps c))=af then"told twice" else if cZ c.k=af/\iq b (au b.ps c.aU.toNat) (au b.ps c.one) then"own elder" else if dP (b.F++[c]) n c.one=[] then"barred" else""
inductive Uj(k:O V)(H:Hp)(Q:VK)(E:XK):Prop
 |mk (g i e h:U) (a d:O Int) (b:BS) (c:Fc) (r:k=[.ref g,.ref i,.ref e,.ref h]) (m:H g=Z (.dK (iI b.ps))) (n:FL H b.ps i b.F) (l:fP H e a d) (o:H h=Z (.tup [.str c.k,.str (au b.ps c.one),kV (bJ b.ps c)])) (ok:cE a d b) (p:fF a d b.ps.length c) (q:∀j,aj H j->Q (.str (mW a.length b c)) j)
def Zi8(b:fF xs d m c)(a:c.k≠bb):c.k="mother"\/c.k="father"\/c.k="wed"\/c.k="sibling":=by
 have h:=b.uP a
 grind
noncomputable abbrev Mo:O ar:=["_law_sides","_law_facts","_law_turns_here","_law_fact_here"]
def Bn:aW ["_law_sides","_law_facts","_law_turns_here","_law_fact_here","_law_kind","_law_one","_law_other"] Mo (aL Hx):=.bp
open Classical in
theorem ZcI(F:aT K "_law_word" "_law_word" Hx f fd)(Hd:HasFn P w K B I 1 "_law_sided" Dn SM)(Ic:HasFn P w K B I 1 "_law_told" Mm SK)(JR:HasFn P w K B I 1 "_law_up" Mn WM)(qj:HasFn P w K B I 3 "_law_room" z8 Cw)(bl:Bl B):aI P w K B I aR 4 f fd Mo Uj:=by
 refine F.o Bn λs H d h=>?_;obtain⟨v,E,A,ff,y,ys,b,c,rfl,D,R,L,hc,ok,j,q⟩:=h;have hu:=d.w_;refine⟨_,(ak (mN (pv 3) (iP (K:=K) (n:=3) rfl rfl (bW (bI 4 Bn.nd) (bW (bI 5 Bn.nd) (bW (bI 6 Bn.nd) iN))))) (ak (aX (bO cP (pv 4) bB) (ak (aX (lJ (oS (bL d) (pv 5) (pv 0)) (by with_unfolding_all rfl)) (av (aK bB)) a_) (av (aX (PW.pt (pw_or (bO oZ (pv 6) aP) (pw_or1 (bO Zjl (pv 6) (dv K bl (dm (bL d) (pv 2) bB (λ_ _=>rfl))))))) (av (aK bB)) a_))) (ak (aX (lJ (oS (bL d) (pv 4) (pv 2)) (by with_unfolding_all rfl)) (av (aK bB)) a_) (ak (aX (PW.pt (pw_or (lJ (oS (bL d) (pv 5) (pv 0)) (by with_unfolding_all rfl)) (pw_or1 (lJ (oS (bL d) (pv 6) (pv 0)) (by with_unfolding_all rfl))))) (av (aK bB)) a_) (av (aX (gn (d5 (bh Hd d (aa (pv 0) (aa (pv 4) (aa (pv 5) (aa (pv 6) ag))))))) (av (aK bB)) a_))))) (ak (aX (d5 (bh Ic d (aa (pv 1) (aa (pv 4) (aa (pv 5) (aa (pv 6) ag)))))) (av (aK bB)) a_) (ak (aX (PW.pt (pw_and (gm (oI (K:=K) rfl) (pv 4) (du (aa bB (aa bB ag))) (by with_unfolding_all rfl)) (pw_and1 (gm (oI (K:=K) rfl) (pv 5) (bh JR d (aa (pv 1) (aa (pv 6) ag))) (by with_unfolding_all rfl))))) (av (aK bB)) a_) (ak (aX (bO (Tg hu) (bh qj d (aa (bA zh (pv 1) (dU (aa (du (aa (bA Ci aP aP) (aa (pv 4) (aa (pv 5) (aa (pv 6) ag))))) ag))) (aa (pv 2) (aa (pv 5) ag)))) (dU ag)) (av (aK bB)) a_) (av (aK bB))))))),?_⟩;have sz:(10000:Nat)<=sizeLine:=by rw[wa];omega
 have one:=j.ok.one;have o:=qv ok.nm one;refine⟨_,rfl,ff,_,rfl,az.of hc,rfl,_,_,rfl,bj ⟨_,_,rfl,bj ⟨_,_,rfl,bj ⟨rfl,?_⟩⟩⟩⟩;dsimp only;refine rZ (λσ H7=>aj H H7/\¬(c.k≠bb/\mQ c.k (g_ b.ps c.one) (g_ b.ps c.aU.toNat)=bg)/\σ=[Z (.ref v),Z (.ref E),Z (.ref A),Z (.ref ff),Z (.str c.k),Z (.str (au b.ps c.one)),Z (kV (bJ b.ps c))]) (λtJ gS=>?_) ?_
 ·refine⟨_,rfl,rfl,_,rfl,?_⟩;rw[fh];refine bY (λcc=>?_) (λcc=>?_)
  ·have J:c.k=bb:=Qcu cc;have r:kV (bJ b.ps c)=.int c.aU:=by rw[ji J];rfl
   refine⟨_,rfl,_,rfl,v,_,rfl,df D o,_,rfl,bV (aZ ?_)⟩;obtain⟨s0,s1⟩:=j.Ma J;obtain⟨_,_,_,u0,X,_,_,_,yu⟩:=id L;refine(Bt.or (a:=decide (c.aU<0)) (b:=decide ((((bQ y.length).map V.int).length:Int)<=c.aU)) (λk i=>⟨_,rfl,c.aU,0,r,rfl,_,rfl,i _ (aj.refl _)⟩) λH1 _ o k i=>⟨_,rfl,_,rfl,A,.ref u0,rfl,df (o _ _ X) rfl,u0,_,rfl,.inr (az.of (o _ _ yu)),c.aU,_,r,rfl,_,rfl,i _ (aj.refl _)⟩) _ λH2 m=>?_;rw[qf (by omega),qf (by rw[Ya,fR];omega)];exact bV (aZ (gS _ _ ⟨m,λz=>z.1 J,rfl⟩))
  ·have g:c.k≠bb:=λz=>cc (qg z);have r:kV (bJ b.ps c)=.str (au b.ps c.aU.toNat):=by rw[jj g];rfl
   obtain⟨tk,u,X,vu,_⟩:=L.get (j.uP g);have m:=qv ok.nm (j.ok.ic g).1.2;refine⟨_,rfl,_,rfl,A,_,rfl,df X vu,_,rfl,bV (aZ ?_)⟩;refine(Bt.or (a:=bg) (b:=bg) (λk i=>⟨_,rfl,_,rfl,v,_,rfl,df D o,_,rfl,i _ (aj.refl _)⟩) λH1 _ o k i=>⟨_,rfl,_,rfl,v,Z (.str (g_ b.ps c.aU.toNat)),rfl,(by rw[r];exact df (o _ _ D) m),_,rfl,i _ (aj.refl _)⟩) _ λH2 m=>bV (aZ ?_);refine⟨_,rfl,_,rfl,_,rfl,_,rfl,v,b.ps,c.k,c.one,c.aU.toNat,by rw[r];rfl,m _ _ D,ok.nm,one,(j.ok.ic g).1.2,Zi8 j g,λH3 g3=>⟨_,rfl,?_⟩⟩;cases es:mQ c.k (g_ b.ps c.one) (g_ b.ps c.aU.toNat) with
   |true=>exact bV (aZ (gS _ _ ⟨m.trans g3,λz=>by rw[es] at z;exact absurd z.2 (by decide),rfl⟩))
   |false=>
    refine c6 ?_;have e:mW y.length b c="wrong side":=tV ⟨g,es⟩;rw[e] at q;exact q _ (m.trans g3)
 rintro σ H7 ⟨g7,nw,rfl⟩;refine⟨_,rfl,_,rfl,_,rfl,_,rfl,E,b.ps,b.F,c.k,au b.ps c.one,kV (bJ b.ps c),rfl,R.same g7,Ce _,λH8 g8=>⟨_,rfl,?_⟩⟩;have N_:=g7.trans g8;unfold mW at q;rw[wd nw] at q;refine bY (λct=>?_) (λct=>aZ ?_)
 ·rw[tV ct] at q;exact q _ N_
 rw[wd ct] at q;refine(Bt.and (b:=decide (iq b (au b.ps c.aU.toNat) (au b.ps c.one))) (Vt.test (Vt.LG (k:=c.k) (Vt.var rfl))) λH9 ip W k i=>?_) _ λH9 W=>?_
 ·have g:c.k≠bb:=λz=>by rw[z] at ip;exact absurd ip (by decide+kernel)
  have r:kV (bJ b.ps c)=.str (au b.ps c.aU.toNat):=by rw[jj g];rfl
  refine⟨_,rfl,_,rfl,_,rfl,E,y,ys,b,au b.ps c.aU.toNat,by rw[r];rfl,R.same (N_.trans W),ok,rV (j.ok.ic g).1.2,λp ks H' g' Q al=>⟨p,_,rfl,.inl (aq.of Q),rfl,Qs _,_,rfl,?_⟩⟩;have e:gT (V.str (au b.ps c.one)) (ks.map V.str)=decide (iq b (au b.ps c.aU.toNat) (au b.ps c.one)):=by
   rw[Wn,tT,Ml,al]
  rw[e];exact i _ g'
 have G:=N_.trans W;refine bY (λx=>?_) (λx=>aZ ?_)
 ·rw[Wc,tT] at x;rw[tV x] at q;exact q _ G
 rw[Wc,tT] at x;rw[wd x] at q;obtain⟨as,dO,eA⟩:=R.same G;have al:=c7 eA;have fl:=ok.fl;have Fl:b.F.length=b.fs.length:=Ya _;refine⟨_,rfl,_,_,rfl,rfl,_,rfl,_,rfl,_,rfl,by show 4<=sizeLine;omega,λt Ht nt gt A3=>⟨by show 1<=sizeLine;omega,λl Hl nl T hl=>⟨E,l,_,_,rfl,rfl,T _ _ (gt _ _ dO),hl,by rw[Ya];show _+1<=_;omega,λp Hp np gp Q=>⟨_,rfl,_,rfl,?_⟩⟩⟩⟩;have Oa:=(gt.trans T).trans gp;refine⟨p,A,b.ps,y,ys,b.F++[c],c.one,rfl,⟨as++[t],by rw[Q,Yn];rfl,jh (F:=EE Hp b.ps) ⟨_,gp _ _ (T _ _ A3)⟩ (_L.Paired.bH eA λ_ _ ⟨z,e⟩=>⟨z,Oa _ _ e⟩)⟩,L.same (G.trans Oa),ok.nm,λc' pC=>?_,ok.gd.2.2.2.2,by have:=ok.m;omega,by rw[Yj];show _+1<=64;omega,one,λpr Hr npr gr N=>⟨by show 0<=sizeLine;omega,λe He ne ge he=>⟨pr,e,_,[],rfl,rfl,aq.of (ge _ _ N),aq.of he,_,rfl,?_⟩⟩⟩
 ·rcases Yv.mp pC with h|h
  ·obtain⟨pp,Ob,rfl⟩:=Yf.mp (show c'∈b.fs.map (·.2) from h);exact ok.fg pp Ob
  ·rw[Yi.mp h];exact j
 have gE:=(G.trans Oa).trans (gr.trans ge);refine bY (λcr=>?_) (λcr=>aZ ?_)
 ·rw[tV (Qcu cr)] at q;exact q _ gE
 ·rw[wd (λz=>cr (qg z))] at q;exact q _ gE
def SN(a b:ar):(_L.sC a b=a/\_L.sD a b=b)\/(_L.sC a b=b/\_L.sD a b=a):=by
 unfold _L.sC _L.sD;by_cases d:b.cps.toList<a.cps.toList;·grind
 ·rw[bF d];by_cases c:a.cps.toList<b.cps.toList;·grind
  ·rw[bF c];have e:a=b:=by
    cases a with|mk ca=>cases b with|mk g=>
     grind
   grind
theorem RA{b:BS}(h:mV b.ps b.F c.k (au b.ps c.one) (kV (bJ b.ps c))=bg):gu b.ps c∉b.keys/\(cZ c.k=af->[.inr c.k,.inr (au b.ps c.one)]∉(cQ b.ps b.fs).map (·.1))/\¬(c.k="sibling"/\V.str (au b.ps c.one)=kV (bJ b.ps c)):=by
 unfold mV at h;rw[Bool.or_eq_false_iff] at h;refine gb h λJ E=>?_;have no:∀p∈b.fs,m6 b.ps c.k (au b.ps c.one) (kV (bJ b.ps c)) p.2=bg:=λp k=>by
  have:=Xh.mp J p.2 (Yf.mpr ⟨p,k,rfl⟩);exact W6.mpr this
 have s:∀{u v:Key},u=v->kV u=kV v:=λe=>by rw[e]
 refine⟨λH=>?_,λG k=>?_,λ⟨g,a⟩=>?_⟩
 ·refine bo (Yf.mp H) λp k e=>?_;have n:=no p k;have l:p.2.k=c.k->((au b.ps p.2.one=au b.ps c.one/\bJ b.ps p.2=bJ b.ps c)\/(c.k="sibling"/\bJ b.ps p.2=.inr (au b.ps c.one)/\Sum.inr (au b.ps p.2.one)=bJ b.ps c))->False:=λg a=>by
   have:m6 b.ps c.k (au b.ps c.one) (kV (bJ b.ps c)) p.2=af:=by
    unfold m6;rw[d9 g,AV];rcases a with⟨a,d⟩|⟨a,d,L⟩;·rw[d9 a,d9 (s d)];rfl
    ·rw[d9 a,d9 (show kV (bJ b.ps p.2)=.str (au b.ps c.one) by rw[d];rfl),d9 (show V.str (au b.ps p.2.one)=kV (bJ b.ps c) by rw[←L];rfl)];simp
   rw[this] at n;cases n
  unfold gu at e;cases j:bJ b.ps p.2 with
  |inl t=>
   cases i:bJ b.ps c with
   |inl o=>
    rw[j,i] at e;injection e with g e;injection e with a e;injection e with d _;exact l (Y9 g) (.inl ⟨Y9 a,by rw[j,i,d]⟩)
   |inr o=>
    rw[j,i] at e;unfold keyOf at e;dsimp at e;split at e
    ·injection e with g e;injection e with a e;injection e with d _;cases d
    ·injection e with g e;injection e with a e;injection e with d _;cases d
  |inr t=>
   cases i:bJ b.ps c with
   |inl o=>
    rw[j,i] at e;unfold keyOf at e;dsimp at e;split at e
    ·injection e with g e;injection e with a e;injection e with d _;cases d
    ·injection e with g e;injection e with a e;injection e with d _;cases d
   |inr o=>
    rw[j,i] at e;have r:p.2.k=c.k:=by
     unfold keyOf at e;dsimp at e;split at e<;>split at e<;>(injection e with g _;exact Y9 g)
    unfold keyOf at e;dsimp at e;rw[r] at e;by_cases m:c.k="sibling"
    ·rw[bC m,bC m] at e;injection e with _ e;injection e with a e;injection e with d _;have a:=Y9 a;have d:=Y9 d;refine l r ?_;rcases SN (au b.ps p.2.one) t with⟨A,z⟩|⟨A,z⟩<;>rcases SN (au b.ps c.one) o with⟨y,x⟩|⟨y,x⟩<;>rw[A,y] at a<;>rw[z,x] at d;·exact .inl ⟨a,by rw[j,i,d]⟩
     ·exact .inr ⟨m,by rw[j,d],by rw[i,a]⟩
     ·exact .inr ⟨m,by rw[j,a],by rw[i,d]⟩
     ·exact .inl ⟨d,by rw[j,i,a]⟩
    ·rw[bF m,bF m] at e;injection e with _ e;injection e with a e;injection e with d _;exact l r (.inl ⟨Y9 a,by rw[j,i,d]⟩)
 ·obtain⟨q,D,e⟩:=Yf.mp k;unfold cQ at D;obtain⟨p,k,rfl⟩:=Yf.mp D;obtain⟨F,N⟩:=Y5.mp k;have n:=no p F;injection e with g e;injection e with a _;unfold m6 at n;rw[d9 (Y9 g),d9 (Y9 a),G] at n;simp at n
 ·rw[d9 g,d9 a] at E;cases E
def ZeQ(e:cE xs i b)(o:fF xs i b.ps.length c)(h:dP (b.F++[c]) xs.length c.one≠[]):∃f,kC xs.length b.ps.length f/\∀c'∈b.F++[c],e_ f c':=by
 obtain⟨a,m⟩:=List.exists_mem_of_ne_nil _ h;obtain⟨_,g,p,l⟩:=wN.mp m;refine bo e.lv λt inr j=>?_;have n:∀c'∈b.F++[c],eB xs.length b.ps.length c':=λc' d=>by
  rcases Yv.mp d with h|h
  ·obtain⟨k,q,rfl⟩:=Yf.mp (h);exact(e.fg k q).ok
  ·rw[Yi.mp h];exact o.ok
 obtain⟨f,s,r,_⟩:=Gw n inr (λc' d=>by
  rcases Yv.mp d with h|h;·grind
  ·rw[Yi.mp h];exact .inl rfl) p l
 grind
def SO{a:O Int}(h:mW a.length b c=""):¬(c.k≠bb/\mQ c.k (g_ b.ps c.one) (g_ b.ps c.aU.toNat)=bg)/\mV b.ps b.F c.k (au b.ps c.one) (kV (bJ b.ps c))=bg/\¬(cZ c.k=af/\iq b (au b.ps c.aU.toNat) (au b.ps c.one))/\dP (b.F++[c]) a.length c.one≠[]:=by
 unfold mW at h;by_cases g:c.k≠bb/\mQ c.k (g_ b.ps c.one) (g_ b.ps c.aU.toNat)=bg;·rw[bC g] at h;exact absurd h QK
 rw[bF g] at h;by_cases e:mV b.ps b.F c.k (au b.ps c.one) (kV (bJ b.ps c))=af;·rw[bC e] at h;exact absurd h QK
 rw[bF e] at h;by_cases d:cZ c.k=af/\iq b (au b.ps c.aU.toNat) (au b.ps c.one);·rw[bC d] at h;exact absurd h QK
 rw[bF d] at h;by_cases i:dP (b.F++[c]) a.length c.one=[];·rw[bC i] at h;exact absurd h QK
 simp_all
def JT(g:cE xs d b)(e:fF xs d b.ps.length c)(a:b.fs.length<63)(h:mW xs.length b c=""):De xs d b c:=by
 refine eJ (SO h) λ_ l _ k=>?_;refine c9 (RA l) λj i _=>?_;exact⟨e,j,i,ZeQ g e k,a⟩
def Zgg(i:cE xs d b)(o:fF xs d b.ps.length c)(a:b.fs.length<63)(h:mW xs.length b c="")(e:c.k≠bb):LD xs d b c:=by
 refine eJ (SO h) λt n m _=>?_;refine c9 (RA n) λs k j=>?_;have g:=jj (ps:=b.ps) e;refine⟨JT i o a h,e,?_,⟨k,λ_=>⟨?_,λ⟨q,p⟩=>j ⟨q,by rw[g,p];rfl⟩⟩⟩,λl r=>m ⟨l,r⟩⟩;·grind
 ·rwa[←g]
noncomputable def fQ(a:bP):O V:=a.map λp=>.str p.1
def nQ(a:bP):(fQ a).length=a.length:=Ya _
def Zi9(b:0<=z)(h:z<(a.length:Int)):dY (fQ a) z=Z (.str (au a z.toNat)):=by
 obtain⟨k,rfl⟩:∃k:Nat,z=(k:Int):=⟨z.toNat,(Eq.symm (Int.toNat_of_nonneg b))⟩;refine iz ?_;unfold fQ au
 simp_all
def zH{n:Nat}(h:0<n):0<=z % (n:Int)/\z % (n:Int)<(n:Int):=⟨W9 _ QO,Wv _ QO⟩
def Vt.Kv(d:σ[i]?=Z (Z (.ref nl)))(c:H nl=Z (.lst (fQ a)))(g:0<a.length)(n:Vt e σ H (.int z)):Vt (ku (xw K) (hV i) (ku (rI (λ_ j=>0<j) λi j=>V.int (i % j)) e (oG (zV K) (iV (hV i) jO)))) σ H (.str (au a (z % (a.length:Int)).toNat)):=λk h=>⟨_,d,n _ λo b=>by
 have l:=nQ a;have m:=zH (z:=z) g;exact⟨_,d,nl,_,rfl,.inl (aq.of (b _ _ c)),_,_,rfl,rfl,QO,nl,_,_,_,rfl,rfl,aq.of (b _ _ c),by rw[l];exact Zi9 m.1 m.2,h o b⟩⟩
inductive Uk(e:O V)(H:Hp)(Q:VK)(E:XK):Prop
 |mk (c b:U) (a:bP) (z:Int) (s:ar) (m:e=[.ref c,.ref b,.int z,.str s]) (l:H c=Z (.lst (fQ a))) (k:H b=Z (.dK (iI a))) (j:(a.map (·.1)).Nodup) (h:0<a.length) (g:a.length<=100) (q:∀i,i<a.length->∀d,aj H d->Q (.str (au a i)) d)
def Zgh(a b:O Int)(h:0<=d/\d<4):∃(k:ar) (c:O Int) (w:ar),dY [V.str "mother",V.str "father",V.str "wed",V.str "sibling"] d=Z (.str k)/\(k,c)∈sr a b/\dY [V.str "woman",V.str "man",V.str "woman",V.str ""] d=Z (.str w):=by
 have:d=0\/d=1\/d=2\/d=3:=QO
 rcases this with rfl|rfl|rfl|rfl;·exact⟨_,inv a,_,rfl,QS,rfl⟩
 ·exact⟨_,inv (b_ a b),_,rfl,QS,rfl⟩
 ·exact⟨_,b,_,rfl,QS,rfl⟩
 ·exact⟨_,bQ a.length,_,rfl,QS,rfl⟩
inductive Ul(l:O V)(H:Hp)(Q:VK)(E:XK):Prop
 |mk (j i k:U) (a:bP) (b h:O Int) (p o n m e:Int) (z:l=[.ref j,.ref i,.ref k,.int (b.length:Int)]) (v:H j=Z (.lst (fQ a))) (u:H i=Z (.dK (iI a))) (t:(a.map (·.1)).Nodup) (s:0<a.length) (r:a.length<=100) (hd:H k=Z (.lst ([p,o,n,m,e].map V.int))) (y:0<=e/\e<4) (x:oi b h) (q:∀c,fF b h a.length c->∀(d:U) (g:Hp),H d=aJ->aj H g->g d=Z (.tup [.str c.k,.str (au a c.one),kV (bJ a c)])->Q (.ref d) g)
noncomputable abbrev Mp:O ar:=["_law_names","_law_sides","_law_at","_law_side"]
def O5:aW ["_law_names","_law_sides","_law_at","_law_side","_law_k"] Mp (aL Hy):=.bp
def ZcJ(F:aT K "_law_pick" "_law_pick" Hy f fd)(l:Bl B):aI P w K B I aR 1 f fd Mp Uk:=by
 refine F.o O5 λs H R h=>?_;obtain⟨r,p,d,z,o,rfl,v,Q,N,u,pm,q⟩:=h;refine⟨_,(ak (fS iJ rfl (nK rfl l.jk (aa (dv K l (pv 0)) ag)) (bI 4 O5.nd) (av (aX (PW.pt (pw_or (bO cP (pv 3) bB) (pw_or1 (bO cP (dm (bL R) (pv 1) (bc (iL K) (pv 0) (bA eM (bA iQ (pv 2) (pv 4)) (dv K l (pv 0)))) (λ_ _=>rfl)) (pv 3))))) (av (aK (bc (iL K) (pv 0) (bA eM (bA iQ (pv 2) (pv 4)) (dv K l (pv 0)))))) a_))) (av (aK (bc (iL K) (pv 0) (bA eM (pv 2) (dv K l (pv 0))))))),?_⟩;have EK:=nQ d;have at_:∀z:Int,(z % (d.length:Int)).toNat<d.length:=λz=>by have:=zH (z:=z) u;omega
 refine hU (λc b=>aj H b/\∃g:bS V,c=[Z (.ref r),Z (.ref p),Z (.int z),Z (.str o),g]) (λl9 T=>?_) ?_
 ·refine⟨_,rfl,r,_,rfl,.inl (aq.of v),_,rfl,QO,QO,yW (lo:=0) (n:=(((fQ d).length:Nat):Int).toNat) (λ_ c b=>aj H b/\∃g:bS V,c=[Z (.ref r),Z (.ref p),Z (.int z),Z (.str o),g]) ⟨aj.refl _,aJ,rfl⟩ ?_ (λc b h=>T _ _ h)⟩;rintro j c b hj ⟨a,g,rfl⟩;rw[AE];have J:∀m,aj b m->Vt _ _ m _:=λm t=>Vt.Kv (K:=K) (i:=0) (σ:=[Z (.ref r),Z (.ref p),Z (.int z),Z (.str o),Z (.int (j:Int))]) (z:=z+(j:Int)) (e:=ku (sN λi j=>V.int (i+j)) (hV 2) (hV 4)) rfl (t _ _ (a _ _ v)) u (λk A=>⟨_,rfl,_,rfl,_,_,rfl,rfl,A _ (aj.refl _)⟩);refine(Bt.or (Vt.test (Vt.eq (Vt.var rfl) (λ_ _=>Vt.c) rfl)) λm _ t=>Vt.test (Vt.eq (x:=.str (g_ d ((z+(j:Int)) % (d.length:Int)).toNat)) (y:=.str o) (λk A=>⟨_,rfl,J m t _ λX L=>⟨p,_,rfl,df (L _ _ (t _ _ (a _ _ Q))) (qv N (at_ _)),A X L⟩⟩) (λ_ _=>Vt.var rfl) rfl)) _ λW E=>?_;refine bY (λ_=>?_) (λ_=>aZ ⟨a.trans E,_,rfl⟩);exact J W E _ λG D=>q _ (at_ _) G ((a.trans E).trans D)
 rintro c b ⟨a,g,rfl⟩;exact Vt.Kv (K:=K) (i:=0) (z:=z) rfl (a _ _ v) u (Vt.var rfl) _ λG D=>q _ (at_ _) G (a.trans D)
noncomputable abbrev Mq:O ar:=["_law_names","_law_sides","_law_drawn","_law_size"]
def yN:aW ["_law_names","_law_sides","_law_drawn","_law_size","_law_kind","_law_one","_law_want"] Mq (aL Hz):=.bp
def ZcK(F:aT K "_law_fact" "_law_fact" Hz f fd)(Bw:HasFn P w K B I 1 "_law_pick" Mp Uk)(bl:Bl B):aI P w K B I aR 2 f fd Mq Ul:=by
 refine F.o yN λs H Q h=>?_;obtain⟨r,p,b,c,d,ys,d0,y,d2,d3,d4,rfl,t,N,L,l,G,hd,b4,R,q⟩:=h;refine⟨_,(ak (cj 4 yN.nd (bc (iL K) (dU (aa bB (aa bB (aa bB (aa bB ag))))) (bc (iL K) (pv 2) aP))) (ak (cj 5 yN.nd (bc (iL K) (pv 0) (bA eM (bc (iL K) (pv 2) aP) (dv K bl (pv 0))))) (ak (aX (bO Ll (bc (iL K) (pv 2) aP) aP) (av (aK (du (aa bB (aa (pv 5) (aa (bA eM (bc (iL K) (pv 2) aP) (pv 3)) ag)))))) a_) (ak (aX (bO cP (pv 4) bB) (av (cj 5 yN.nd (bh Bw Q (aa (pv 0) (aa (pv 1) (aa (bc (iL K) (pv 2) aP) (aa bB ag))))))) a_) (ak (cj 6 yN.nd (bc (iL K) (dU (aa bB (aa bB (aa bB (aa bB ag))))) (bc (iL K) (pv 2) aP))) (av (aK (du (aa (pv 4) (aa (pv 5) (aa (bh Bw Q (aa (pv 0) (aa (pv 1) (aa (bc (iL K) (pv 2) aP) (aa (pv 6) ag))))) ag))))))))))),?_⟩;refine AN ?_;intros;have sz:(10000:Nat)<=sizeLine:=by rw[d6];decide
 refine nF (Zgh d ys b4) λk tn wt ek e ew=>?_;have at_:∀z:Int,(z % (c.length:Int)).toNat<c.length:=λz=>by have:=zH (z:=z) l;omega
 refine m8 (id R) λ_ _ _ l2 l8=>?_;have A:(0:Int)<(d.length:Int):=QO
 refine cD ?_;refine⟨by show 4<=sizeLine;decide,λkl H1 nkl m DV=>⟨_,rfl,b,_,_,_,rfl,rfl,aq.of (m _ _ hd),rfl,kl,_,_,_,rfl,rfl,aq.of DV,ek,?_⟩⟩;refine cD ?_;have pU:=m _ _ t;refine Vt.Kv (K:=K) (i:=0) (z:=y) rfl pU l (λkk e=>⟨_,rfl,b,_,_,_,rfl,rfl,aq.of (m _ _ hd),rfl,e _ (aj.refl _)⟩) _ λH2 g2=>?_;have a:=m.trans g2;refine⟨_,rfl,b,_,_,_,rfl,rfl,aq.of (a _ _ hd),rfl,_,_,rfl,rfl,_,rfl,bY (λ_=>?_) (λ_=>aZ ?_)⟩
 ·refine⟨_,rfl,_,rfl,b,_,_,_,rfl,rfl,aq.of (a _ _ hd),rfl,_,rfl,_,_,rfl,rfl,A,by show 3<=sizeLine;decide,λx H3 D v o=>?_⟩;have mm:=zH (z:=d3) (n:=d.length) (Nat.lt_of_lt_of_le (Nat.succ_pos _) l2);exact q ⟨bb,(y % (c.length:Int)).toNat,d3 % (d.length:Int),[]⟩ ⟨⟨at_ _,λz=>absurd rfl z⟩,.inl rfl,λ_=>mm⟩ x H3 (a.free D) (a.trans v) (by rw[o,ji rfl];rfl)
 have J:k≠bb:=λz=>ZdE (z▸e);refine rZ (λE H6=>aj H H6/\∃i:Nat,i<c.length/\E=[Z (.ref r),Z (.ref p),Z (.ref b),Z (.int (d.length:Int)),Z (.str k),Z (.str (au c i)),aJ]) (λtJ T=>?_) ?_
 ·refine⟨_,rfl,rfl,_,rfl,bY (λ_=>?_) (λ_=>aZ (T _ _ ⟨a,_,at_ _,rfl⟩))⟩;refine⟨_,rfl,_,rfl,_,rfl,b,_,_,_,rfl,rfl,aq.of (a _ _ hd),rfl,r,p,c,y,"man",rfl,a _ _ t,a _ _ N,L,l,G,λi u H3 v=>bj (T _ _ ⟨a.trans v,i,u,rfl⟩)⟩
 rintro E H6 ⟨g6,i,u,rfl⟩;refine cD ?_;refine⟨by show 4<=sizeLine;decide,λwl H7 Zz X Ao=>⟨_,rfl,b,_,_,_,rfl,rfl,aq.of (X _ _ (g6 _ _ hd)),rfl,wl,_,_,_,rfl,rfl,aq.of Ao,ew,?_⟩⟩;have g:=g6.trans X;refine⟨_,rfl,_,rfl,_,rfl,_,rfl,_,rfl,b,_,_,_,rfl,rfl,aq.of (g _ _ hd),rfl,_,rfl,r,p,c,d2,wt,rfl,g _ _ t,g _ _ N,L,l,G,λj hj H8 W=>⟨by show 3<=sizeLine;decide,λx H9 D g9 o=>?_⟩⟩;obtain⟨ft,tl⟩:=Zf5 R e;exact q ⟨k,i,(j:Int),tn⟩ ⟨⟨u,λ_=>⟨⟨by show(0:Int)<=(j:Int);exact Int.natCast_nonneg _,hj⟩,ft,tl⟩⟩,.inr e,λz=>absurd z J⟩ x H9 (g.free (W.free D)) ((g.trans W).trans g9) (by rw[o,jj J];rfl)
noncomputable def kF(n:Nat):O Nat:=if n<10 then[48+n] else[48+n/10,48+n % 10]
noncomputable def mD(n:Nat):ar:=.ofString (toString (n:Int))
def Kw:∀n<61,(mD n).cps.toList=kF n:=QK
noncomputable def gv(k z:Nat):Nat:=if z/3 % 3=1 then 9 else(k*z+z) % 5
noncomputable def mE(m:Nat):ar:=Txt.mul "q" (m:Int)
def ZhD:∀m<10,(mE m).cps.toList=List.replicate m 113:=QK
noncomputable def v8:ar:="abcdefghijklmnopqrstuvwxyz"
def Lf:∀i<26,dY v8.cps.toList ((i:Nat):Int)=Z (97+i):=QK
noncomputable def rA(i:Nat):ar:=⟨#[97+i]⟩
def dF(z k:Nat):ar:=if z % 3=0 then(rA ((k*7+z) % 26)++mD (k/26))++mE (gv k z) else if z % 3=1 then(rA (z % 26)++mE (gv k z))++mD ((k*17+z) % 61) else(rA (z % 26)++mD ((k*17+z) % 61))++mE (gv k z)
def Lg(k z:Nat):gv k z<10:=by
 unfold gv;split<;>omega
def w8(a b:ar):(a++b).cps.toList=a.cps.toList++b.cps.toList:=Array.toList_append
def BI(z k:Nat)(a:k<60):(dF z k).cps.toList=if z % 3=0 then[97+(k*7+z) % 26,48+k/26]++List.replicate (gv k z) 113 else if z % 3=1 then(97+z % 26)::(List.replicate (gv k z) 113++kF ((k*17+z) % 61)) else(97+z % 26)::(kF ((k*17+z) % 61)++List.replicate (gv k z) 113):=by
 have f:=ZhD _ (Lg k z);unfold dF;split
 ·rw[w8,w8,f,Kw _ (Nat.lt_of_le_of_lt (Nat.div_le_self _ _) (Nat.lt_succ_of_lt a))];unfold kF;rw[bC QO];rfl
 split
 ·rw[w8,w8,f,Kw _ (Nat.mod_lt _ (by decide))];rfl
 ·rw[w8,w8,f,Kw _ (Nat.mod_lt _ (by decide))];rfl
noncomputable def Oc(l:O Nat):Nat:=l.foldl (λa c=>10*a+(c-48)) 0
def CQ:Oc (kF n)=n:=by
 unfold kF;split;·exact(zY _).trans (ZT _ _)
 ·show 10*(10*0+(48+n/10-48))+(48+n % 10-48)=n;rw[ZT,ZT,Nat.mul_zero,zY,Nat.div_add_mod]
def Um(h:n<61):∀c∈kF n,48<=c/\c<58:=by
 unfold kF
 grind
def Bx(h:n<61):(kF n).filter (λc=>decide (c<58))=kF n:=XX.mpr λc a=>d9 (Um h c a).2
def By(m:Nat):(List.replicate m 113).filter (λc=>decide (c<58))=[]:=by
 simp_all
def ZeR(l:k<60)(j:k'<60)(e:dF z k=dF z k'):k=k':=by
 have e:(dF z k).cps.toList=(dF z k').cps.toList:=by rw[e]
 rw[BI z k l,BI z k' j] at e;by_cases i:z % 3=0
 ·rw[bC i,bC i] at e;injection e with m e;injection e with a _;omega
 rw[bF i,bF i] at e;have b:(k*17+z) % 61=(k'*17+z) % 61->k=k':=λh=>QO
 by_cases g:z % 3=1
 ·rw[bC g,bC g] at e;injection e with _ e;have a:=eL (List.filter λc=>decide (c<58)) e;rw[Wm,Wm,By,By,Bx (Nat.mod_lt _ (by decide)),Bx (Nat.mod_lt _ (by decide)),X4,X4] at a;have d:=eL Oc a;rw[CQ,CQ] at d;exact b d
 ·rw[bF g,bF g] at e;injection e with _ e;have a:=eL (List.filter λc=>decide (c<58)) e;rw[Wm,Wm,By,By,Bx (Nat.mod_lt _ (by decide)),Bx (Nat.mod_lt _ (by decide)),Wf,Wf] at a;have d:=eL Oc a;rw[CQ,CQ] at d;exact b d
def Uo:∀i<26,ij qu (97+i)=af/\ij nZ (97+i)=af:=QK
def Up:∀i<10,ij nZ (48+i)=af:=QK
def Zlb:ij nZ 113=af:=QK
def PD(l:k<60):uQ (dF z k)=af/\(dF z k).length<=12:=by
 have q:=Lg k z;have b:(List.replicate (gv k z) 113).all (ij nZ)=af:=Wo.mpr λc d=>by rw[List.eq_of_mem_replicate d];exact Zlb
 have s:∀n,n<61->(kF n).all (ij nZ)=af/\(kF n).length<=2:=λn j=>by
  refine⟨Wo.mpr λc d=>?_,?_⟩
  ·have:=Um j c d;have e:=Up (c-48) QO
   grind
  ·unfold kF;split<;>simp
 have len:(dF z k).length=(dF z k).cps.toList.length:=rfl;have c:=BI z k l;have a:∃(i:Nat) (r:O Nat),i<26/\(dF z k).cps.toList=(97+i)::r/\r.length<=11/\r.all (ij nZ)=af:=by
  by_cases m:z % 3=0
  ·rw[bC m] at c;refine⟨_,_,(Nat.mod_lt _ (by decide)),c,?_,?_⟩
   ·show((48+k/26)::List.replicate (gv k z) 113).length<=11
    grind
   ·show((48+k/26)::List.replicate (gv k z) 113).all (ij nZ)=af;rw[Jq,b,Up _ QO];rfl
  grind
 refine dE a λi r g e p o=>?_;have h:(dF z k).length<=12:=by
  grind
 refine⟨?_,h⟩;rw[Qo e,d9 h,(Uo i g).1,Jq,(Uo i g).2,o];rfl
def ZhE:∀m<10,(mE m).length<=9:=QK
def SQ:∀n<61,(mD n).length<=2:=QK
def Kx(a b:ar):(a++b).length=a.length+b.length:=Array.size_append
inductive Uq(a:O V)(H:Hp)(Q:VK)(E:XK):Prop
 |mk (k z:Nat) (d:a=[.int (k:Int),.int (z:Int)]) (c:k<60) (b:z<97) (q:Q (.str (dF z k)) H)
noncomputable abbrev Mr:O ar:=["_law_k","_law_salt"]
def yO:aW ["_law_k","_law_salt","_law_letters","_law_fill","_law_number"] Mr (aL Hv):=.bp
def ZcL(F:aT K "_law_name" "_law_name" Hv f fd)(t:Bl B):aI P w K B I aR 1 f fd Mr Uq:=by
 refine F.o yO λs H R h=>?_;obtain⟨k,z,rfl,W,Q,q⟩:=h;refine⟨_,(ak (cj 2 yO.nd bB) (ak (cj 3 yO.nd (bA Sb bB (bA eM (bA iQ (bA qz (pv 0) (pv 1)) (pv 1)) aP))) (ak (cj 4 yO.nd (bA eM (bA iQ (bA qz (pv 0) aP) (pv 1)) aP)) (ak (aX (bO cP (bA eM (bA BZ (pv 1) aP) aP) aP) (av (cj 3 yO.nd (bA Sb bB aP))) a_) (ak (aX (bO cP (bA eM (pv 1) aP) aP) (av (aK (bA wG (bA wG (bc zu (pv 2) (bA eM (bA iQ (bA qz (pv 0) aP) (pv 1)) aP)) (fC Gf rfl t.zK zx (aa (bA BZ (pv 0) aP) ag))) (pv 3)))) a_) (ak (aX (bO cP (bA eM (pv 1) aP) aP) (av (aK (bA wG (bA wG (bc zu (pv 2) (bA eM (pv 1) aP)) (pv 3)) (fC Gf rfl t.zK zx (aa (pv 4) ag))))) a_) (av (aK (bA wG (bA wG (bc zu (pv 2) (bA eM (pv 1) aP)) (fC Gf rfl t.zK zx (aa (pv 4) ag))) (pv 3)))))))))),?_⟩;have G:zQ (k:Int) (z:Int):=.inl ⟨QO,QO⟩;have A:∀j:Int,zQ (k:Int) j:=λj=>.inl ⟨QO,QO⟩;have J:LO (z:Int) 3:=⟨(by decide),(by decide)⟩;have p:LO (k:Int) 26:=⟨(by decide),(by decide)⟩;have sz:(10000:Nat)<=sizeLine:=by rw[d6];decide
 have y:((k:Int)*17+(z:Int)) % 61=(((k*17+z) % 61:Nat):Int):=QO
 have b:((k:Int)*7+(z:Int)) % 26=(((k*7+z) % 26:Nat):Int):=QO
 have x:(z:Int) % 26=((z % 26:Nat):Int):=QO
 have o:(k:Int)/26=((k/26:Nat):Int):=QO
 have E:((k:Int)*(z:Int)+(z:Int)) % 5=(((k*z+z) % 5:Nat):Int):=by rw[Int.natCast_emod,Zf,Int.natCast_mul];rfl
 refine setC ?_;refine cD ?_;refine⟨_,rfl,_,rfl,_,_,rfl,rfl,G,_,rfl,_,_,rfl,rfl,_,_,rfl,rfl,(by decide),"q",(k*z+z) % 5,rfl,eL V.int E,QK,QO,?_⟩;refine cD ?_;refine⟨_,rfl,_,_,rfl,rfl,A _,_,rfl,_,_,rfl,rfl,_,_,rfl,rfl,(by decide),?_⟩;refine rZ (λu D=>D=H/\u=[Z (.int (k:Int)),Z (.int (z:Int)),Z (.str v8),Z (.str (mE (gv k z))),Z (.int (((k*17+z) % 61:Nat):Int))]) (λL v=>?_) ?_
 ·refine⟨_,rfl,_,_,rfl,rfl,J,_,_,rfl,rfl,(by decide),rfl,_,rfl,bY (λc=>?_) (λc=>aZ ?_)⟩
  ·have c:=V.int.inj (fI c);have r:z/3 % 3=1:=QO
   have m:gv k z=9:=bC r;refine⟨"q",9,rfl,rfl,QK,(by decide),bj (v _ _ ⟨rfl,?_⟩)⟩;rw[m,←y];rfl
  ·have r:¬z/3 % 3=1:=λw=>c (d9 (eL V.int QO));have m:gv k z=(k*z+z) % 5:=bF r;refine v _ _ ⟨rfl,?_⟩;rw[m,←y];rfl
 rintro u D ⟨rfl,rfl⟩;have N:=ZhE _ (Lg k z);have d:v8.length<=sizeLine:=Yy (show v8.length<=100 by decide+kernel) (by decide);have g:∀n:Nat,n<61->(n:Int).natAbs.log2<1920:=λn T=>W3 (Nat.log2_le_self _) QO;refine⟨_,rfl,_,_,rfl,rfl,(by decide),rfl,_,rfl,bY (λc=>?_) (λc=>aZ ?_)⟩
 ·have a:z % 3=0:=by have:=V.int.inj (fI c);omega
  have ld:=SQ (k/26) (Nat.lt_of_le_of_lt (Nat.div_le_self _ _) (Nat.lt_succ_of_lt W));refine⟨_,rfl,_,rfl,_,_,rfl,rfl,A _,_,rfl,_,_,rfl,rfl,_,_,rfl,rfl,(by decide),v8,_,_,rfl,eL V.int b,d,Lf _ (Nat.mod_lt _ (by decide)),_,rfl,_,_,rfl,rfl,p,((k/26:Nat):Int),eL (λi=>[V.int i]) o,g _ (Nat.lt_of_le_of_lt (Nat.div_le_self _ _) (Nat.lt_succ_of_lt W)),_,_,rfl,rfl,?_,_,rfl,_,_,rfl,rfl,?_,?_⟩
  ·show 1+(mD (k/26)).length<=sizeLine;exact Nat.le_trans (Nat.add_le_add_left ld _) (by decide)
  ·show(rA ((k*7+z) % 26)++mD (k/26)).length+(mE (gv k z)).length<=sizeLine;rw[Kx];show 1+_+_<=_;omega
  ·have e:dF z k=(rA ((k*7+z) % 26)++mD (k/26))++mE (gv k z):=bC a;rw[e] at q;exact q
 have a:¬z % 3=0:=λw=>c (d9 (eL V.int QO));have ld:=SQ ((k*17+z) % 61) (Nat.mod_lt _ (by decide));refine⟨_,rfl,_,_,rfl,rfl,(by decide),rfl,_,rfl,bY (λc=>?_) (λc=>aZ ?_)⟩
 ·have l:z % 3=1:=by have:=V.int.inj (fI c);omega
  refine⟨_,rfl,_,rfl,_,_,rfl,rfl,(by decide),v8,_,_,rfl,eL V.int x,d,Lf _ (Nat.mod_lt _ (by decide)),_,rfl,_,_,rfl,rfl,?_,_,rfl,_,rfl,g _ (Nat.mod_lt _ (by decide)),_,_,rfl,rfl,?_,?_⟩
  ·show 1+(mE (gv k z)).length<=sizeLine;exact Nat.le_trans (Nat.add_le_add_left N _) (by decide)
  ·show(rA (z % 26)++mE (gv k z)).length+(mD ((k*17+z) % 61)).length<=sizeLine;rw[Kx];show 1+_+_<=_;omega
  ·have e:dF z k=(rA (z % 26)++mE (gv k z))++mD ((k*17+z) % 61):=(bF a).trans (bC l);rw[e] at q;exact q
 have l:¬z % 3=1:=λw=>c (d9 (eL V.int QO));refine⟨_,rfl,_,rfl,_,_,rfl,rfl,(by decide),v8,_,_,rfl,eL V.int x,d,Lf _ (Nat.mod_lt _ (by decide)),_,rfl,_,rfl,g _ (Nat.mod_lt _ (by decide)),_,_,rfl,rfl,?_,_,rfl,_,_,rfl,rfl,?_,?_⟩
 ·show 1+(mD ((k*17+z) % 61)).length<=sizeLine;exact Nat.le_trans (Nat.add_le_add_left ld _) (by decide)
 ·show(rA (z % 26)++mD ((k*17+z) % 61)).length+(mE (gv k z)).length<=sizeLine;rw[Kx];show 1+_+_<=_;omega
 ·have e:dF z k=(rA (z % 26)++mD ((k*17+z) % 61))++mE (gv k z):=(bF a).trans (bF l);rw[e] at q;exact q
inductive LH(C CL CJ:U)(i:O V)(H:Hp)(Q:VK)(E:XK):Prop
 |mk (l:BL) (b:BS) (a d:O Int) (c:Fc) (h:U) (p:i=[.ref l.h,.ref h]) (o:bu H C CL CJ l a d b) (ok:cE a d b) (m:H h=Z (.tup [.str c.k,.str (au b.ps c.one),kV (bJ b.ps c)])) (n:fF a d b.ps.length c) (j:b.fs.length<63) (k:mW a.length b c="") (dl:b.dn.length<200) (q:∀(g:BL) (e:Hp),bT H e l g->bu e C CL CJ g a d (b.oj c)->Q (.int (b.co:Int)) e)
structure f_(C CL CJ:U)(H:Hp)(xs ys:O Int)(z j:Nat)(td:U)(l:BL)(b:BS)(nl sd fl st:U):Prop where
 ba:bu H C CL CJ l xs ys b
 ok:cE xs ys b
 names:H nl=Z (.lst (fQ b.ps))
 n1:nl∉l.fp
 dD:H sd=Z (.dK (iI b.ps))
 n2:sd∉l.fp
 facts:∃as:O U,H fl=Z (.lst (as.map V.ref))/\Paired (dM H b.ps) as b.fs
 n3:fl∉l.fp
 tup:H st=Z (.tup [.ref nl,.ref sd,.ref fl,.int (b.co:Int)])
 turns:fP H td xs ys
 n4:td∉l.fp
 nm:b.ps.map (·.1)=(List.range b.ps.length).map (dF z)
 so:(b.fs.map (·.1)).Pairwise (·<·)
 cp:b.ps.length<=j
 cf:b.ps.length+b.fs.length<=j
 cd:b.dn.length<=j
section
variable {H W:Hp}{xs X:O Int}{z j:Nat}{T:U}{l l':BL}{b:BS}{Q P R st:U}
def f_.same(g:aj H W)(s:f_ C CL CJ H xs X z j T l b Q P R st):f_ C CL CJ W xs X z j T l b Q P R st:=
 ⟨s.ba.same g,s.ok,g _ _ s.names,s.n1,g _ _ s.dD,s.n2,let⟨as,c,a⟩:=s.facts;⟨as,g _ _ c,_L.Paired.bH a λ _ _=>g _ _⟩,s.n3,g _ _ s.tup,s.turns.same g,s.n4,s.nm,s.so,s.cp,s.cf,s.cd⟩
def f_.more(s:f_ C CL CJ H xs X z j T l b Q P R st):f_ C CL CJ H xs X z (j+1) T l b Q P R st:=
 ⟨s.ba,s.ok,s.names,s.n1,s.dD,s.n2,s.facts,s.n3,s.tup,s.turns,s.n4,s.nm,s.so,W7 s.cp,W7 s.cf,W7 s.cd⟩
theorem f_.FL(s:f_ C CL CJ H xs X z j T l b Q P R st):FL H b.ps R b.F:=by
 obtain⟨a,g,d⟩:=s.facts;refine⟨a,g,?_⟩;have:∀{a:O U} {fs:O (Nat×Fc)},Paired (dM H b.ps) a fs->Paired (EE H b.ps) a (fs.map (·.2)):=λh=>by
  induction h with
  |nil=>exact .nil
  |cons e _ c=>exact .cons ⟨_,e⟩ c
 exact this d
def bT.off(w:bT H W l l')(h:H a=Z o)(n:a∉l.fp):W a=Z o/\a∉l'.fp:=
 ⟨w.out _ _ h n,λz=>(w.grow a z).elim n λq=>by rw[h] at q;cases q⟩
def bT.cq(w:bT H W l l')(c:bu H C CL CJ l xs X b)(h:H a=Z (.tup us)):W a=Z (.tup us):=w.out _ _ h (c.tup h)
def bT.fP(w:bT H W l l')(a:bu H C CL CJ l xs X b)(h:fP H T xs X)(n:T∉l.fp):fP W T xs X:=by
 obtain⟨m,f,c,s,k,i,g,e,d⟩:=h;exact⟨m,f,c,s,w.out _ _ k n,w.cq a i,w.cq a g,w.cq a e,w.cq a d⟩
def rK(w:bT H W l l')(c:bu H C CL CJ l xs X b)(h:Paired (dM H a) as fs):Paired (dM W a) as fs:=_L.Paired.bH h λ_ _ e=>w.cq c e
def bu.fresh(c:bu H C CL CJ l xs X b)(h:H a=aJ):a∉l.fp:=λz=>c.there z h
def dM.ext(d:fF xs X c.length p.2)(h:dM H c a p):dM H (c++[(n,s)]) a p:=by
 have e:∀i,i<c.length->au (c++[(n,s)]) i=au c i:=λi m=>by
  unfold au
  grind
 unfold dM eF at h⊢;have g:bJ (c++[(n,s)]) p.2=bJ c p.2:=by
  by_cases k:p.2.k=bb;·rw[ji k,ji k]
  ·rw[jj k,jj k,e _ (d.ok.ic k).1.2]
 rwa[e _ d.ok.one,g]
def f_.fresh(s:f_ C CL CJ H xs X z j T l b Q P R st)(g:j<60)(j_:ar)(d:Lb j_=af):Mc b (dF z b.ps.length) j_:=by
 have c:=s.cp;obtain⟨h,n⟩:=PD (k:=b.ps.length) (Nat.lt_of_le_of_lt c g);refine⟨h,d,λm=>?_,(Nat.lt_of_lt_of_le (Nat.lt_of_le_of_lt c g) (by decide)),(Nat.le_trans n (by decide))⟩;rw[s.nm] at m;obtain⟨i,a,e⟩:=Yf.mp m;have a:=Wg.mp a;have:=ZeR (Nat.lt_of_lt_of_le (Nat.lt_of_lt_of_le a c) (Nat.le_of_lt g)) (Nat.lt_of_le_of_lt c g) e;omega
def nm_more(h:b.ps.map (·.1)=(List.range b.ps.length).map (dF z))(s:ar):(b.ps++[(dF z b.ps.length,s)]).map (·.1)=(List.range (b.ps++[(dF z b.ps.length,s)]).length).map (dF z):=by
 rw[Yn,h,Yj];show _++[dF z b.ps.length]=(List.range (b.ps.length+1)).map (dF z);rw[Jv,Yn];rfl
end
inductive SR(C CL CJ:U)(m:O V)(H:Hp)(Q:VK)(E:XK):Prop
 |mk (g e:O Int) (z j:Nat) (a:Int) (c:U) (l:BL) (b:BS) (o n t st:U) (y:m=[.ref l.h,.ref st,.int a,.ref c,.int (z:Int)]) (u:f_ C CL CJ H g e z j c l b o n t st) (v:z<97) (x:j<60) (q:∀(h:BL) (i:BS) (p r s k:U) (d:Hp),bT H d l h->f_ C CL CJ d g e z (j+1) c h i p r s k->0<i.ps.length->Q (.ref k) d)
theorem ZcM{P Q:α->β->Prop}(h:∀a b,b∈bs->P a b->Q a b)(p:Paired P as bs):Paired Q as bs:=by
 induction p with
 |nil=>exact .nil
 |cons e _ c=>exact .cons (h _ _ Yo e) (c λa b d=>h a b (Yw _ d))
def ZdO(a:O b)(p:b->cu):((List.range a.length).filter λi=>(a[i]?.map p).getD bg).map (λi=>a[i]?)=(a.filter p).map Z:=by
 have e:(List.range a.length).map (λi=>a[i]?)=a.map Z:=Wt λi=>by
  grind
 have h:=Ej (f:=λi=>a[i]?) (l:=List.range a.length) (p:=λo:bS b=>(o.map p).getD bg);rw[e,Ej] at h;exact h.symm
theorem SS:∀{l:O (Nat×α)},(l.map (·.1)).Nodup->∀{p q:Nat×α},p∈l->q∈l->p.1=q.1->p=q
 |[],_,_,_,h,_,_=>nomatch h
 |a::l,b,p,q,g,d,e=>by
  obtain⟨n,c⟩:=Y0.mp (show(a.1::l.map (·.1)).Nodup from b);rcases Ym.mp g with m|j<;>rcases Ym.mp d with k|i;·rw[m,k]
  ·grind
  ·grind
  ·exact SS c j i e
def Ur(a:O Key):(a.map kV).all iH=af:=by
 rw[Wo];intro v b;obtain⟨k,_,rfl⟩:=Yf.mp b;cases k<;>rfl
def ZhF:∃s:ar,dY [V.str "man",V.str "woman"] (d % 2)=Z (.str s)/\Lb s=af:=by
 have:d % 2=0\/d % 2=1:=QO
 rcases this with e|e<;>rw[e];·exact⟨_,rfl,QK⟩
 ·exact⟨_,rfl,QK⟩
noncomputable abbrev z9:O ar:=["_law_book","_law_fact_here"]
def ZdP:aW z9 z9 (aL II):=.bp
def ZdQ(F:aT K "_law_put" "_law_put" II f fd)(x:cI P w K B I 12 "say" C Dj (Uh C CL CJ))(y:cI P w K B I 12 "tie" C qN (Ug C CL CJ)):aI P w K B I aR 13 f fd z9 (LH C CL CJ):=by
 refine F.o ZdP λs H r h=>?_;obtain⟨l,b,m,k,c,d,rfl,j,ok,a,u,e,p,dl,q⟩:=h;refine⟨_,(ak (aX (bO cP (bc (iT K) (pv 1) aP) bB) (av (aK (cY x r QO (pv 0) (aa (bc (iT K) (pv 1) aP) (aa (bc (iT K) (pv 1) aP) ag))))) a_) (av (aK (cY y r QO (pv 0) (aa (bc (iT K) (pv 1) aP) (aa (bc (iT K) (pv 1) aP) (aa (bc (iT K) (pv 1) aP) ag))))))),?_⟩;refine mI ?_;intros;obtain⟨v,t⟩:=j.obj;refine⟨_,rfl,d,_,_,_,rfl,rfl,az.of a,rfl,rfl,_,rfl,?_⟩;rw[fh];refine bY (λi=>?_) (λi=>aZ ?_)
 ·have n:=fI i;have g:kV (bJ b.ps c)=.int c.aU:=by rw[ji n];rfl
  exact⟨_,rfl,l.h,v,_,rfl,t,rfl,_,rfl,d,_,_,_,rfl,rfl,az.of a,rfl,_,rfl,d,_,_,_,rfl,rfl,az.of a,rfl,l,b,m,k,c,by rw[g];rfl,j,ok,⟨JT ok u e p,n⟩,dl,q⟩
 ·have o:=λz=>i (d9 z);have g:kV (bJ b.ps c)=.str (au b.ps c.aU.toNat):=by rw[jj o];rfl
  exact⟨_,rfl,l.h,v,_,rfl,t,rfl,_,rfl,d,_,_,_,rfl,rfl,az.of a,rfl,_,rfl,d,_,_,_,rfl,rfl,az.of a,rfl,_,rfl,d,_,_,_,rfl,rfl,az.of a,rfl,l,b,m,k,c,by rw[g];rfl,j,ok,Zgg ok u e p o,dl,q⟩
noncomputable abbrev Ms:O ar:=["_law_book","_law_state","_law_cell_here","_law_turns_here","_law_salt"]
def nH:aW ["_law_book","_law_state","_law_cell_here","_law_turns_here","_law_salt","_law_names","_law_sides","_law_facts","_law_after_here","_law_drawn","_law_name_here","_law_side","_law_fact_here","_law_out"] Ms (aL HR):=.bp
theorem ZcN(F:aT K "_law_step" "_law_step" HR f fd)(wD:HasFn P w K B I 1 "_law_draws" D3 (Kc K))(Ie:HasFn P w K B I 1 "_law_name" Mr Uq)(Ig:HasFn P w K B I 2 "_law_fact" Mq Ul)(Ih:HasFn P w K B I 4 "_law_word" Mo Uj)(wQ:HasFn P w K B I 13 "_law_put" z9 (LH C CL CJ))(FE:cI P w K B I 11 "person" C Dg (Rr C CL CJ))(Gd:cI P w K B I 11 "take" C zZ (Uc C CL CJ))(bl:Bl B):aI P w K B I aR 14 f fd Ms (SR C CL CJ):=by
 refine F.o nH λs H T h=>?_;obtain⟨xs,X,z,j,cell,td,l,b,nl,sd,fl,st,rfl,r,hz,hj,q⟩:=h;have hu:=T.w_;refine⟨_,(ak (mN (pv 1) (iP (K:=K) (n:=4) rfl rfl (bW (bI 5 nH.nd) (bW (bI 6 nH.nd) (bW (bI 7 nH.nd) (bW (bI 8 nH.nd) iN)))))) (ak (cj 9 nH.nd (bh wD T (aa (pv 2) (aa (dU (aa aP (aa aP (aa aP (aa aP (aa aP ag)))))) ag)))) (ak (aX (PW.pt (pw_or (bO oZ (dv K bl (pv 5)) aP) (pw_or1 (bO oZ (bc (iL K) (pv 9) aP) aP)))) (ak (cj 10 nH.nd (bh Ie T (aa (dv K bl (pv 5)) (aa (pv 4) ag)))) (ak (cj 11 nH.nd (bc (iL K) (dU (aa bB (aa bB ag))) (bA eM (bc (iL K) (pv 9) aP) aP))) (ak (cz (cY FE T (by decide) (pv 0) (aa (pv 10) (aa (pv 11) ag)))) (ak (cj 6 nH.nd (fC Zct rfl bl.Tt R_ (aa (pv 6) ag))) (ak (oU (bL T) (pv 6) (pv 10) (pv 11)) (av (aK (du (aa (bA zh (pv 5) (dU (aa (pv 10) ag))) (aa (pv 6) (aa (pv 7) (aa (pv 8) ag)))))))))))) a_) (ak (aX (bO oZ (bc (iL K) (pv 9) aP) aP) (ak (cj 12 nH.nd (bh Ig T (aa (pv 5) (aa (pv 6) (aa (pv 9) (aa (dv K bl (dm (bL T) (pv 3) bB (λ_ _=>rfl))) ag)))))) (ak (aX (bO iU (bh Ih T (aa (pv 6) (aa (pv 7) (aa (pv 3) (aa (pv 12) ag))))) bB) (av (aK (pv 1))) a_) (ak (cz (bh wQ T (aa (pv 0) (aa (pv 12) ag)))) (av (aK (du (aa (pv 5) (aa (pv 6) (aa (bA zh (pv 7) (dU (aa (bA RS (du (aa (pv 8) ag)) (pv 12)) ag))) (aa (bA iQ (pv 8) aP) ag)))))))))) a_) (ak (aX (bO (Kh (K:=K) rfl (TC hu)) (pv 7) (dU ag)) (av (aK (pv 1))) a_) (ak (iC (i:=13) nH.nd rfl (wh rfl) (bc (iL K) (pv 7) (bA eM (bc (iL K) (pv 9) aP) (dv K bl (pv 7))))) (ak (cz (cY Gd T (by decide) (pv 0) (aa (bc (iT K) (pv 13) aP) ag))) (av (aK (du (aa (pv 5) (aa (pv 6) (aa (jG (x:="_law_one") (fr:=[("_law_out",13)]) (cl:=[("_law_out",s.heap.objs.size+1)]) rfl (.ia ⟨rfl,trivial⟩ ⟨⟨rfl,.inl rfl,.inl rfl,rfl⟩,trivial⟩) (fD (K:=K) rfl (pv 7)) (λ_ _ _ _=>zc (bO (ZiT (K:=K) rfl hu) (pv 0) (pv 1))) (λ_ _ _ _=>(pv 0))) (aa (pv 8) ag)))))))))))))),?_⟩;refine AO ?_;intros;have sz:(10000:Nat)<=sizeLine:=by rw[wa];decide
 refine⟨_,rfl,st,_,rfl,az.of r.tup,rfl,_,_,rfl,bj ⟨_,_,rfl,bj ⟨_,_,rfl,bj ⟨_,_,rfl,bj ⟨rfl,?_⟩⟩⟩⟩⟩;dsimp only;refine cD ?_;refine⟨_,rfl,by show 5<=sizeLine;decide,λpp H1 np g1 L=>⟨cell,pp,[16,61,59,8,4],rfl,aq.of L,by decide,by decide,λdr ds H2 nd g2 h2 bd=>?_⟩⟩;obtain⟨d0,d1,d2,d3,d4,rfl,_,_,_,_,b4⟩:=Zg_ bd;have nB:=g1.trans g2;have s2:=r.same nB;obtain⟨dx,ho⟩:=s2.ba.obj;have EK:=nQ b.ps;have cp:=r.cp;have cf:=r.cf;have cd:=r.cd;have A2:=r.ok.m;have f63:=r.ok.fl;have ix:∀{i:Int} {v:Int} {H9:Hp},aj H2 H9->dY ([d0,d1,d2,d3,d4].map V.int) i=Z (.int v)->∀σ:St,σ[9]?=Z (Z (.ref dr))->Vt (ku (xw K) (hV 9) (tC (V.int i))) σ H9 (.int v):=λg e σ hσ kk hk=>⟨_,hσ,dr,_,_,_,rfl,rfl,aq.of (g _ _ h2),e,hk _ (aj.refl _)⟩;refine(Bt.or (a:=decide (((fQ b.ps).length:Int)<2)) (b:=decide (d0<5)) (λkk hk=>⟨_,rfl,nl,_,rfl,.inl (aq.of s2.names),_,_,rfl,rfl,_,rfl,hk _ (aj.refl _)⟩) λH3 _ g3 kk hk=>ix g3 rfl _ rfl _ λH4 E=>⟨_,_,rfl,rfl,_,rfl,hk _ E⟩) _ λH3 g3=>?_;have s3:=s2.same g3;have kZ:=nB.trans g3;rw[EK];refine bY (λcc=>?_) (λcc=>aZ ?_)
 ·refine cD ?_;refine⟨_,rfl,nl,_,rfl,.inl (aq.of s3.names),_,rfl,b.ps.length,z,by rw[EK];rfl,Nat.lt_of_le_of_lt cp hj,hz,?_⟩;refine cD ?_;refine bo (ZhF (d:=d1)) λsx es so=>?_;refine⟨by show 2<=sizeLine;decide,λsl H4 NG E hsl=>ix (g3.trans E) rfl _ rfl _ λH5 N=>⟨_,_,rfl,rfl,by decide,sl,_,_,_,rfl,rfl,aq.of (N _ _ hsl),es,?_⟩⟩;have k:=(s3.same E).same N;have EM:=(kZ.trans E).trans N;obtain⟨Oe,Of⟩:=k.ba.obj;refine⟨_,rfl,l.h,Oe,_,rfl,Of,rfl,_,rfl,_,rfl,l,b,xs,X,dF z b.ps.length,sx,rfl,k.ba,k.ok,k.fresh hj sx so,Nat.lt_of_lt_of_le (Nat.lt_of_le_of_lt cd hj) (by decide),λl' H6 J lD=>?_⟩;have Og:=k.fresh hj sx so;dsimp only;refine cD ?_;have off:=λ{a:U} {o:HO} (h:H5 a=Z o) (n:a∉l.fp)=>J.off h n;obtain⟨A5,Dp⟩:=off k.dD k.n2;obtain⟨A6,Dq⟩:=off k.names k.n1;obtain⟨A,nE,eA⟩:=k.facts;obtain⟨yw,Mt⟩:=off nE k.n3;refine⟨_,rfl,sd,_,rfl,A5,λs' H7 cT W oH=>?_⟩;have vn:aY (iI b.ps) (.inr (dF z b.ps.length))=aJ:=qc λhm=>Og.new (by
   obtain⟨p,L,e⟩:=Yf.mp hm;obtain⟨p',Oh,rfl⟩:=Yf.mp L;exact Yf.mpr ⟨p',Oh,Y9 e⟩)
  refine⟨_,rfl,_,rfl,_,rfl,s',_,.inr (dF z b.ps.length),rfl,oH,rfl,by rw[Ya];exact Nat.lt_of_le_of_lt A2 (by decide),λH8 b8 e8=>?_⟩;have Q:aj H6 H8:=λc o e=>b8 _ _ (W _ _ e) (cC e cT);rw[lF _ vn] at e8;refine⟨_,rfl,_,rfl,by show 1<=sizeLine;decide,λt H9 nt g9 ht=>⟨nl,t,_,_,rfl,rfl,g9 _ _ (Q _ _ A6),ht,by rw[EK];show _+1<=_;exact Nat.succ_le_of_lt (Nat.lt_of_le_of_lt A2 (by decide)),λn' HA nn' gA xP=>⟨_,rfl,_,rfl,_,rfl,by show 4<=sizeLine;decide,λaV HB D7 gB dN=>?_⟩⟩⟩;have A7:=(g9.trans gA).trans gB;have R:=Q.trans A7;have pe:(b.LB (dF z b.ps.length) sx).ps=b.ps++[(dF z b.ps.length,sx)]:=rfl;obtain⟨tm,tf,tw,ts,dZ,_⟩:=id k.turns;refine q l' (b.LB (dF z b.ps.length) sx) n' s' fl aV HB ((bT.after EM J).same R) ⟨lD.same R,r.ok.ZkT Og.new Og.lim (Yd _) (by rw[Yj];show _+1<=200;omega) (Yx _),?_,((lD.same Q).same g9).fresh nn',?_,lD.fresh cT,⟨A,R _ _ yw,?_⟩,Mt,dN,(J.fP k.ba k.turns k.n4).same R,(off dZ k.n4).2,nm_more r.nm sx,r.so,?_,?_,?_⟩ (by rw[pe,Yj];exact Oi _)
  ·rw[gB _ _ xP,pe,fQ,fQ,Yn];rfl
  ·rw[A7 _ _ e8,pe];show _=Z (HO.dK ((b.ps++[(dF z b.ps.length,sx)]).map _));rw[Yn];rfl
  ·have:=rK J k.ba eA;refine ZcM (λa p L e=>?_) this;exact dM.ext (r.ok.fg p L) (R _ _ e)
  ·rw[pe,Yj];show _+1<=_;exact Nat.add_le_add cp (by decide)
  ·rw[pe,Yj];show _+1+b.fs.length<=_;omega
  ·show(b.dn++[_]).length<=_;rw[Yj];show _+1<=_;exact Nat.add_le_add cd (by decide)
 have p0:0<b.ps.length:=by
  rw[Jm,tT] at cc;omega
 refine⟨_,rfl,dr,_,_,_,rfl,rfl,aq.of (g3 _ _ h2),rfl,_,_,rfl,rfl,_,rfl,?_⟩;refine bY (λcc2=>?_) (λcc2=>aZ ?_)
 ·refine cD ?_;refine ju (id s3.turns) λtm tf tw u0 dZ _ _ _ yu=>?_;refine⟨_,rfl,_,rfl,_,rfl,_,rfl,td,.ref u0,rfl,df dZ rfl,u0,_,rfl,.inr (az.of yu),nl,sd,dr,b.ps,xs,X,d0,d1,d2,d3,d4,by rw[Ya,fR];rfl,s3.names,s3.dD,r.ok.nm,p0,Nat.le_trans A2 (by decide),g3 _ _ h2,b4,r.ok.gd,λc fg ff H4 EL E tX=>?_⟩;have s4:=s3.same E;refine⟨_,rfl,_,rfl,_,rfl,_,rfl,sd,fl,td,ff,xs,X,b,c,rfl,s4.dD,s4.FL,s4.turns,tX,r.ok,fg,λH5 N=>⟨rfl,_,rfl,?_⟩⟩;have k:=s4.same N;have EM:=(kZ.trans E).trans N;rw[fh];refine bY (λcw=>?_) (λcw=>aZ ?_);·exact⟨_,rfl,q l b nl sd fl st H5 (bT.of EM) k.more p0⟩
  have hw:mW xs.length b c="":=by
   by_cases e:mW xs.length b c="";·exact e
   ·rw[qf e] at cw;exact absurd rfl cw
  have nf:=JT r.ok fg (by omega) hw;refine⟨_,rfl,_,rfl,l,b,xs,X,c,ff,rfl,k.ba,r.ok,N _ _ tX,fg,by omega,hw,Nat.lt_of_lt_of_le (Nat.lt_of_le_of_lt cd hj) (by decide),λl' H6 J lD=>?_⟩;have off:=λ{a:U} {o:HO} (h:H5 a=Z o) (n:a∉l.fp)=>J.off h n;obtain⟨A5,Dp⟩:=off k.dD k.n2;obtain⟨A6,Dq⟩:=off k.names k.n1;obtain⟨A,nE,eA⟩:=k.facts;obtain⟨yw,Mt⟩:=off nE k.n3;have ff6:=J.cq k.ba (N _ _ tX);have al:=c7 eA;refine⟨_,rfl,_,rfl,_,rfl,_,rfl,by show 1<=sizeLine;decide,λt1 H7 nt1 W A3=>⟨_,rfl,t1,ff,_,_,rfl,rfl,az.of A3,az.of (W _ _ ff6),by simp,by show 1+3<=sizeLine;decide,λe=>(by cases e),λ_ t2 EN=>?_⟩⟩;obtain⟨H8,e8⟩:∃H8,H8=upd H7 t2 (.tup ([V.int (b.co:Int)]++[V.str c.k,V.str (au b.ps c.one),kV (bJ b.ps c)])):=⟨_,rfl⟩;have g8:aj H7 H8:=by rw[e8];exact cF EN _
  have v9:dM H8 b.ps t2 (b.co,c):=by
   show H8 t2=_;rw[e8,a9];rfl
  rw[←e8];have Q:=W.trans g8;refine⟨by show 1<=sizeLine;decide,λl1 H9 nl1 g9 hl1=>⟨fl,l1,_,_,rfl,rfl,g9 _ _ (Q _ _ yw),hl1,by rw[Ya];show _+1<=_;omega,λjZ HA Zlc gA Zld=>⟨_,rfl,_,_,rfl,rfl,by show 4<=sizeLine;decide,λaV HB D7 gB dN=>?_⟩⟩⟩;have A7:=(g9.trans gA).trans gB;have R:=Q.trans A7;obtain⟨tm,tf,tw,ts,Mu,_⟩:=id k.turns;have ZX:=r.ok.lt;refine q l' (b.oj c) nl sd jZ aV HB ((bT.after EM J).same R) ⟨lD.same R,?_,R _ _ A6,Dq,R _ _ A5,Dp,⟨A++[t2],?_,?_⟩,((lD.same Q).same g9).fresh Zlc,dN,(J.fP k.ba k.turns k.n4).same R,(off Mu k.n4).2,r.nm,?_,W7 cp,?_,?_⟩ p0
  ·exact r.ok.V7 fg (λm=>by
    obtain⟨p,L,e⟩:=Yf.mp m;have:=ZX p L;omega) nf.nk nf.np nf.lv (by omega) (co:=b.co+1) (Jt _) (Jf _) (by rw[Yj];show _+1<=200;omega) (Yx _)
  ·rw[gB _ _ Zld,Yn];rfl
  ·exact jh (F:=dM HB b.ps) (A7 _ _ v9) (_L.Paired.bH (rK J k.ba eA) λ_ _ e=>R _ _ e)
  ·show((b.fs++[(b.co,c)]).map (·.1)).Pairwise _;rw[Yn];refine List.pairwise_append.mpr ⟨r.so,by simp,λu hu v hv=>?_⟩;obtain⟨p,L,rfl⟩:=Yf.mp hu;have:v=b.co:=by simpa using hv
   rw[this];exact ZX p L
  ·show _+(b.fs++[_]).length<=_;rw[Yj];show b.ps.length+(_+1)<=_;exact Nat.succ_le_succ cf
  ·show(b.dn++[_]).length<=_;rw[Yj];show _+1<=_;exact Nat.add_le_add cd (by decide)
 refine bo s3.facts λA nE eA=>?_;have al:=c7 eA;refine⟨_,rfl,by show 0<=sizeLine;decide,λe0 H4 yr E vP=>⟨fl,e0,_,rfl,rfl,aq.of (E _ _ nE),aq.of vP,_,rfl,bY (λce=>?_) (λce=>aZ ?_)⟩⟩;·exact⟨_,rfl,q l b nl sd fl st H4 (bT.of (kZ.trans E)) (s3.same E).more p0⟩
 refine cD ?_;have s4:=s3.same E;have f0:0<A.length:=by
  cases e:A with
  |nil=>rw[e] at ce;exact absurd rfl ce
  |cons _ _=>exact Oi _
 have mi:=zH (z:=d1) f0;refine⟨_,rfl,ix (g3.trans E) rfl _ rfl _ λH5 N=>?_⟩;have k:=s4.same N;have Mv:=N _ _ (E _ _ nE);obtain⟨i,ei⟩:∃i:Nat,d1 % (A.length:Int)=(i:Int):=⟨(d1 % (A.length:Int)).toNat,by omega⟩;have hi:i<A.length:=by omega
 obtain⟨ao,ZY⟩:∃ao,A[i]?=Z ao:=⟨_,Yb hi⟩;obtain⟨⟨G,c0⟩,ZZ,NZ⟩:=gf eA ZY;have WN:=N _ _ (E _ _ NZ);refine⟨_,rfl,fl,_,rfl,.inl (aq.of Mv),_,_,rfl,rfl,by rw[Ya];omega,fl,_,_,.ref ao,rfl,rfl,aq.of Mv,?_,?_⟩
 ·rw[Ya,ei];exact iz (by rw[Ye,ZY];rfl)
 obtain⟨Oe,Of⟩:=k.ba.obj;refine⟨_,rfl,l.h,Oe,_,rfl,Of,rfl,_,rfl,ao,_,_,_,rfl,rfl,az.of WN,rfl,l,b,xs,X,G,c0,rfl,k.ba,r.ok,Yg ZZ,Nat.lt_of_lt_of_le (Nat.lt_of_le_of_lt cd hj) (by decide),λl' H6 J lD=>?_⟩;have off:=λ{a:U} {o:HO} (h:H5 a=Z o) (n:a∉l.fp)=>J.off h n;obtain⟨A5,Dp⟩:=off k.dD k.n2;obtain⟨A6,Dq⟩:=off k.names k.n1;obtain⟨yw,Mt⟩:=off Mv k.n3;have Zle:Paired (dM H5 b.ps) A b.fs:=_L.Paired.bH eA λ_ _ e=>N _ _ (E _ _ e);have WO:=rK J k.ba Zle;have al5:=c7 eA;have ao6:=J.cq k.ba WN;refine⟨_,rfl,_,rfl,_,rfl,fl,rfl,⟨_,aq.of yw⟩,λD hD=>?_⟩;have qe:∀p∈b.fs,p.1=G->p=(G,c0):=λp L e=>SS r.ok.zs L (Yg ZZ) e;refine yS (K:=K) (aq.of yw) (by rw[Ya];exact Nat.le_trans (Nat.le_of_eq al) (Nat.le_trans f63 (by decide))) hD (λi=>(b.fs[i]?.map λp=>decide (p.1≠G)).getD bg) (λi y _=>∃a,A[i]?=Z a/\y=.ref a) (λ_ _ _ _ _ h=>h) (λi v hi H7 W _ Kt Kf kt kf=>?_) λus H7 W h7 pr=>?_
 ·rw[Ye] at hi;obtain⟨a,ea,rfl⟩:∃a,A[i]?=Z a/\V.ref a=v:=by
   cases e:A[i]? with
   |none=>rw[e] at hi;cases hi
   |some c=>rw[e] at hi;exact⟨c,rfl,Yp hi⟩
  obtain⟨p,ep,L⟩:=gf WO ea;have mp:=Yg ep;have pb:(b.fs[i]?.map λp=>decide (p.1≠G)).getD bg=decide (p.1≠G):=by rw[ep];rfl
  rw[pb] at kt kf;refine⟨_,rfl,_,rfl,a,ao,_,_,rfl,rfl,az.of (W _ _ L),az.of (W _ _ ao6),Ur _,Ur _,_,rfl,?_⟩;have ed:(!decide ((eF b.ps p.1 p.2).map kV=(eF b.ps G c0).map kV))=decide (p.1≠G):=by
   by_cases e:p.1=G
   ·rw[qe p mp e];simp
   ·rw[qg e,qf (λh=>e ?_)];·rfl
    ·injection h with h1 _;have:=V.int.inj h1;exact Int.ofNat.inj this
  show(if(!decide ((eF b.ps p.1 p.2).map kV=(eF b.ps G c0).map kV))=af then _ else _);rw[ed];cases e:decide (p.1≠G) with
  |true=>exact c6 ⟨_,rfl,kt _ H7 e (aj.refl _) ⟨a,ea,rfl⟩⟩
  |false=>exact bV (kf H7 e (aj.refl _))
 rw[Ya,al5] at pr;obtain⟨fW,rfl,Zlf⟩:∃fW:O U,us=fW.map V.ref/\Paired (dM H7 b.ps) fW (dt G b.fs):=by
  have aux:∀{X:O V} {is:O Nat} {gs:O (Nat×Fc)},Paired (λy i=>∃a,A[i]?=Z a/\y=.ref a) X is->is.map (λi=>b.fs[i]?)=gs.map Z->∃A:O U,X=A.map V.ref/\Paired (dM H7 b.ps) A gs:=by
   intro X is gs pr;induction pr generalizing gs with
   |nil=>
    intro e;cases gs with
    |nil=>exact⟨[],rfl,.nil⟩
    |cons _ _=>cases e
   |cons f _ ih=>
    intro e;cases gs with
    |nil=>cases e
    |cons g gs=>
     obtain⟨a,e1,e2⟩:=f;obtain⟨p,ep,L⟩:=gf WO e1;injection e with e4 e5;obtain⟨A,r1,r2⟩:=ih e5;exact⟨a::A,by rw[e2,r1];rfl,.cons (by rw[←Yp (ep.symm.trans e4)];exact W _ _ L) r2⟩
  exact aux pr (ZdO b.fs λp=>decide (p.1≠G))
 refine⟨_,rfl,by show 4<=sizeLine;decide,λaV H8 D7 g8 dN=>?_⟩;have Q:=W.trans g8;obtain⟨tm,tf,tw,ts,Mu,_⟩:=id k.turns;have sub:(dt G b.fs).Sublist b.fs:=Qcy;refine q l' (b.without G c0) nl sd D aV H8 ((bT.after (((kZ.trans E).trans N)) J).same Q) ⟨lD.same Q,r.ok.drop G (Yd _) (by rw[Yj];show _+1<=200;omega) (Yx _),Q _ _ A6,Dq,Q _ _ A5,Dp,⟨fW,g8 _ _ h7,_L.Paired.bH Zlf λ_ _ e=>g8 _ _ e⟩,lD.fresh hD,dN,(J.fP k.ba k.turns k.n4).same Q,(off Mu k.n4).2,r.nm,r.so.sublist (sub.map _),W7 cp,W7 (Yy (Qcx sub.length_le _) cf),?_⟩ p0;show(b.dn++[_]).length<=_;rw[Yj];show _+1<=_;exact Nat.add_le_add cd (by decide)
def cE.nil(b:oi xs a):cE xs a ⟨[],[],0,[],[]⟩:=
 ⟨b,Jj,Yx _,Yx _,λ_ h=>(nomatch h),Jj,λ_ h=>(nomatch h),Jj,Jj,⟨λ_=>0,λ_ h=>absurd h (Wk _),λ_ h=>(nomatch h)⟩,Yx _,Yx _⟩
inductive Us(C CL CJ:U)(k:O V)(H:Hp)(Q:VK)(E:XK):Prop
 |mk (c a:O Int) (z:Nat) (e d:U) (l:BL) (b:BS) (i:O Int) (F:k=[.ref l.h,.ref e,.ref d,.int (z:Int)]) (D:bu H C CL CJ l c a b) (A:b=⟨[],[],0,[],[]⟩) (y:oi c a) (x:H e=Z (.lst (i.map V.int))) (s:e∉l.fp) (v:fP H d c a) (r:d∉l.fp) (u:z<97) (t:i.length<=59) (q:∀(h:BL) (p:BS) (m n o j:U) (g:Hp),bT H g l h->f_ C CL CJ g c a z 59 d h p m n o j->Q (.ref j) g)
noncomputable abbrev Mw:O ar:=["_law_book","_law_cells","_law_turns_here","_law_salt"]
def Bo:aW ["_law_book","_law_cells","_law_turns_here","_law_salt","_law_state","_law_cell_here"] Mw (aL HS):=.bp
def ZcO(F:aT K "_law_grow" "_law_grow" HS f fd)(Ii:HasFn P w K B I 14 "_law_step" Ms (SR C CL CJ))(bl:Bl B):aI P w K B I aR 15 f fd Mw (Us C CL CJ):=by
 refine F.o Bo λs H hr h=>?_;obtain⟨u,t,z,N,r,l,b,cs,rfl,Q,rfl,gd,W,nc,ht,nt,hz,E,q⟩:=h;refine⟨_,(ak (cj 4 Bo.nd (du (aa (dU ag) (aa rH (aa (dU ag) (aa aP ag)))))) (ak (fS iJ rfl (fD (K:=K) rfl (pv 1)) (bI 5 Bo.nd) (av (cj 4 Bo.nd (bh Ii hr (aa (pv 0) (aa (pv 4) (aa (pv 5) (aa (pv 2) (aa (pv 3) ag))))))))) (av (aK (pv 4))))),?_⟩;have sz:(10000:Nat)<=sizeLine:=by rw[d6];decide
 refine cD ?_;refine⟨by show 0<=sizeLine;decide,λT H1 n1 X h1=>?_⟩;refine λR H2 n2 J h2=>?_;refine⟨by show 0<=sizeLine;decide,λfl H3 n3 G h3=>⟨by show 4<=sizeLine;decide,λst H4 n4 A h4=>?_⟩⟩;have y:=((X.trans J).trans G).trans A;have cG:=Q.same X;have pS:=cG.same J;have si:f_ C CL CJ H4 u t z 0 r l ⟨[],[],0,[],[]⟩ T R fl st:=⟨Q.same y,cE.nil gd,A _ _ (G _ _ (J _ _ h1)),Q.fresh n1,A _ _ (G _ _ h2),cG.fresh n2,⟨[],A _ _ h3,.nil⟩,pS.fresh n3,h4,ht.same y,nt,rfl,Xz,Yx _,Yx _,Yx _⟩;refine hU (λo e=>∃(c:BL) (m:BS) (g i k d:U) (p:bS V),bT H e l c/\f_ C CL CJ e u t z 59 r c m g i k d/\o=[Z (.ref l.h),Z (.ref N),Z (.ref r),Z (.int (z:Int)),Z (.ref d),p]) (λl9 eR=>?_) ?_
 ·refine⟨_,rfl,N,rfl,⟨_,aq.of (y _ _ W)⟩,jE (λj o e=>∃(c:BL) (m:BS) (g i k d:U) (p:bS V),bT H e l c/\f_ C CL CJ e u t z j r c m g i k d/\o=[Z (.ref l.h),Z (.ref N),Z (.ref r),Z (.int (z:Int)),Z (.ref d),p])
   ⟨l,_,T,R,fl,st,aJ,bT.of y,si,rfl⟩ (λj o e _ ⟨_,_,_,_,_,_,_,n,_⟩=>aq.of (n.off W nc).1) ?_ ?_⟩
  ·intro j v o e hj ZH;refine q7 ZH λc m g i k d p n a ql=>?_;subst ql;obtain⟨x,rfl,hx⟩:=mM hj;have jl:j<cs.length:=(Yh.mp hx).1;refine bj ?_;rw[←n.h];refine⟨_,rfl,_,rfl,_,rfl,_,rfl,_,rfl,u,t,z,j,x,r,c,m,g,i,k,d,rfl,a,hz,(Nat.lt_succ_of_lt (Nat.lt_of_lt_of_le jl E)),λl2 b2 NJ M4 L fq H7 D s7 _=>bj ⟨l2,b2,NJ,M4,L,fq,_,n.trans D,s7,rfl⟩⟩
  ·intro o e ZH;refine q7 ZH λc m g i k d p n a ql=>?_;subst ql;rw[Ya] at a;exact eR _ _ ⟨c,m,g,i,k,d,p,n,⟨a.ba,a.ok,a.names,a.n1,a.dD,a.n2,a.facts,a.n3,a.tup,a.turns,a.n4,a.nm,a.so,Yy a.cp E,Yy a.cf E,Yy a.cd E⟩,rfl⟩
 intro o e ZH;refine q7 ZH λc m g i k d p n a ql=>?_;subst ql;exact⟨_,rfl,q c m g i k d e n a⟩
def f_.xJ(s:f_ C CL CJ H xs a z j e l b nl g k st)(w:bT H d l c)(q:bu d C CL CJ c xs a b):f_ C CL CJ d xs a z j e c b nl g k st:=by
 obtain⟨v,p⟩:=w.off s.names s.n1;obtain⟨u,o⟩:=w.off s.dD s.n2;refine bo s.facts λr i h=>?_;obtain⟨t,n⟩:=w.off i s.n3;obtain⟨_,_,_,_,m,_⟩:=id s.turns;exact⟨q,s.ok,v,p,u,o,⟨r,t,rK w s.ba h⟩,n,w.cq s.ba s.tup,w.fP s.ba s.turns s.n4,(w.off m s.n4).2,s.nm,s.so,s.cp,s.cf,s.cd⟩
def Zgi(h:xs.length<=63):(oq xs (Z 4) aJ).length<=59:=by
 unfold oq;have e:HT.cK xs.length 0 (Z 4)=min 4 xs.length:=HT.Zgw _ _ 4;exact Yy (List.length_take_le' _ _) (by rw[J8,e];omega)
def f_.nam(s:f_ C CL CJ H xs c z j d l b nl g h st)(a:i<b.ps.length):au b.ps i=dF z i:=by
 have e:(b.ps.map (·.1))[i]?=((List.range b.ps.length).map (dF z))[i]?:=by rw[s.nm]
 rw[Ye,Ye,Ja a,Yb a] at e;rw[au,Yk,Yb a];exact Yp e
def f_.len(s:f_ C CL CJ H xs d z j e l b nl g h st)(c:j<=60)(a:i<b.ps.length):(au b.ps i).length<=1000:=by
 rw[s.nam a];have:=(PD (z:=z) (k:=i) (by have:=s.cp;exact Nat.lt_of_lt_of_le a (Nat.le_trans this c))).2;exact Nat.le_trans this (by decide)
def Cf(h:j<a.length):(fQ a)[j]?=Z (.str (au a j)):=by
 unfold fQ au;rw[Ye,Yb h,Yk,Yb h];rfl
theorem ZdR(d:cE xs l b)(g:i<b.ps.length):∃(r:Int) (rs:O Int),dP b.F xs.length i=r::rs:=by
 refine bo d.lv λf inr a=>?_;have k:∀c∈b.F,eB xs.length b.ps.length c:=λc j=>by
  obtain⟨p,h,rfl⟩:=Yf.mp (j);exact(d.fg p h).ok
 have m:=wN.mpr ⟨inr i g,Gv k g inr a⟩;cases e:dP b.F xs.length i with
 |nil=>grind
 |cons r rs=>grind
inductive PF(C CL CJ c:U)(a:O V)(H:Hp)(Q:VK)(E:XK):Prop
 |mk (l:BL) (b:BS) (e d:O Int) (z:ar) (k:a=[.ref l.h,.str z]) (j:bu H C CL CJ l e d b) (g:(b.ps.map (·.1)).Nodup) (h:z.length<=1000) (yes:∀i,i<b.ps.length->z=au b.ps i->Q (.int (i:Int)) H) (no:z∉b.ps.map (·.1)->XP H c "no person" E):PF C CL CJ c a H Q E
def IQ(C CL CJ b:U):Sp:=λa H Q E=>PF C CL CJ b a H Q E
def Zi_(h:z∈b.map (·.1)):∃i,i<b.length/\z=au b i:=by
 obtain⟨i,a,e⟩:=List.getElem_of_mem h;rw[Ya] at a;refine⟨i,a,?_⟩;rw[←e,List.getElem_map,au,Yk,Yb a];rfl
def Zgj(h:z∉b.map (·.1)):aY (jY b) (.inr z)=aJ:=qc λm=>h (by
 obtain⟨p,c,e⟩:=Yf.mp m;obtain⟨⟨q,i⟩,a,rfl⟩:=Yf.mp c;exact Yf.mpr ⟨q,(MI (by rw[List.zipIdx_eq_zip_range'] at a;exact a)).1,Y9 e⟩)
def Zaj:aW kO kO (aL Ff):=.bp
def ZcP(F:aT K "place_of" "Hearth.place_of" Ff f fd)(a:fE K C)(u:uB P w K B I "NoPerson" "no person" t):aI P w K B I (lS P w) 4 f fd kO (IQ C CL CJ t):=by
 refine F.xX Zaj (λq H Q E h=>?_) (λx A d s H q Q E e h=>?_)
 ·obtain⟨l,b,p,o,z,rfl,_⟩:=h;rfl
 obtain⟨l,b,p,o,z,rfl,c,r,v,yes,no⟩:=h;refine⟨_,(ak (aX (lJ (oS (bL e) (pv 1) (pF K 0)) QU) (av (Iu u e (by decide) rfl rfl qE (pv 1))) a_) (av (aK (dm (bL e) (pF K 0) (pv 1) (λ_ _=>rfl))))),?_⟩;refine eW c.obj λj g=>?_;by_cases m:z∈b.ps.map (·.1)
 ·refine bo (Zi_ m) λi n y=>?_;subst y;have k:=ux r n;exact⟨_,rfl,_,rfl,l.h,C,j,_,_,rfl,g,a.cls,a.rN,rfl,l.pl,Z _,rfl,df c.places k,_,rfl,bV (aZ ⟨_,rfl,l.h,C,j,_,_,rfl,g,a.cls,a.rN,rfl,_,rfl,l.pl,_,rfl,df c.places k,yes i n rfl⟩)⟩
 ·exact⟨_,rfl,_,rfl,l.h,C,j,_,_,rfl,g,a.cls,a.rN,rfl,l.pl,aJ,rfl,df c.places (Zgj m),_,rfl,c6 ⟨_,rfl,z,rfl,(Nat.le_trans v (by decide)),no m⟩⟩
theorem Zgk(z k:Nat)(d:k<60):dF z k≠"stranger":=λe=>by
 have e:(dF z k).cps.toList[1]?=Z 116:=by rw[e];decide+kernel
 rw[BI z k d] at e;have c:∀(n:Nat) (r:O Nat),n<61->(kF n++r)[0]?≠Z 116:=λn r h=>by
  unfold kF;split;·intro z;injection z with z;omega
  ·intro z;injection z with z;omega
 by_cases b:z % 3=0
 ·rw[bC b] at e;injection e with e;omega
 ·rw[bF b] at e;by_cases a:z % 3=1
  ·rw[bC a,X6] at e;cases f:gv k z with
   |zero=>rw[f] at e;exact c ((k*17+z) % 61) [] (Nat.mod_lt _ (by decide)) (by simpa using e)
   |succ m=>rw[f,Od] at e;injection e with e;omega
  ·rw[bF a,X6] at e;exact c ((k*17+z) % 61) _ (Nat.mod_lt _ (by decide)) e
inductive Qt(C CL CJ j:U)(h:O V)(H:Hp)(Q:VK)(E:XK):Prop
 |mk (l:BL) (b:BS) (c e:O Int) (z:ar) (n:h=[.ref l.h,.str z]) (m:bu H C CL CJ l c e b) (ok:cE c e b) (k:z.length<=1000) (yes:∀i,i<b.ps.length->z=au b.ps i->∀(d:BL) (a:Hp) (p:U) (g:Hp),bT H a l d->bu a C CL CJ d c e b->a p=aJ->aj a g->g p=Z (.lst ((dP b.F c.length i).map V.int))->Q (.ref p) g) (no:z∉b.ps.map (·.1)->∀(d:BL) (a:Hp),bT H a l d->bu a C CL CJ d c e b->XP a j "no person" E):Qt C CL CJ j h H Q E
def RB(C CL CJ b:U):Sp:=λa H Q E=>Qt C CL CJ b a H Q E
def ZdS:aW vc vc (aL IF):=.bp
def ZdT(F:aT K "open_of" "open_of" IF f fd)(L:cI P w K B I 8 "joins" C gI (Cd C CL CJ))(D:zC P w K B I 4 "place_of" C kO (IQ C CL CJ cN))(W:cI P w K B I 2 "open_at" CJ oz (wW CJ)):aI P w K B I (lS P w) 9 f fd vc (RB C CL CJ cN):=by
 refine F.xX ZdS (λy H Q E h=>?_) (λbR A g s H y Q E k h=>?_)
 ·obtain⟨l,b,a,e,z,rfl,_⟩:=h;rfl
 obtain⟨l,b,a,e,z,rfl,v,ok,T,yes,no⟩:=h;refine⟨_,(av (aK (cY W k (by decide) (qA L k (by decide) (pv 0)) (aa (K1 D k (by decide) qE (pv 0) (aa (pv 1) ag)) ag)))),?_⟩;refine eW v.obj λdx X=>?_;refine⟨_,rfl,l.h,dx,_,rfl,X,rfl,l,b,a,e,rfl,v,ok,λj q st x c d e1 e2 r o len gY _=>?_⟩;obtain⟨dy,hj⟩:=r.obj;obtain⟨J,n⟩:=d.obj;rw[c.h] at n;refine⟨q.J,dy,_,rfl,hj,rfl,_,rfl,l.h,J,_,rfl,n,rfl,_,rfl,j,b,a,e,z,by rw[c.h];rfl,d,ok.nm,T,λi hi ez=>?_,λm=>no m j x c d⟩;have t:i<st.hd.length:=by rwa[len]
 have one:=o.wf.one ok.gd.2.2.2.2 t;refine⟨q,st,a.length,i,_,_,_,rfl,r,one.hd,one.ld,one.fr,one.gq,one.cM,λp ns H2 R g2 N G u=>?_⟩;rw[o.YV t N G] at u;exact yes i hi ez j x p H2 c d R g2 u
inductive SU(C CL CJ d:U)(c:O V)(H:Hp)(Q:VK)(E:XK):Prop
 |mk (l:BL) (b:BS) (a g:O Int) (i:Int) (k:c=[.ref l.h,.int i]) (j:bu H C CL CJ l a g b) (h:i.natAbs.log2<1920) (yes:0<=i/\i<(a.length:Int)->∀e,aj H e->Q .ay e) (no:¬(0<=i/\i<(a.length:Int))->XP H d "no section" E):SU C CL CJ d c H Q E
def Ut(C CL CJ b:U):Sp:=λa H Q E=>SU C CL CJ b a H Q E
def z_(H:Hp)(b:bP)(c:O U)(f:Nat->Int)(n:Nat):Prop:=Paired (λa (j:Nat)=>H a=Z (.tup [.str (au b j),.int (f j)])) c (List.range n)
inductive PH(C CL CJ o n:U)(m:O V)(H:Hp)(Q:VK)(E:XK):Prop
 |mk (l:BL) (b:BS) (a g:O Int) (y:ar) (k:Int) (v:m=[.ref l.h,.str y,.int k]) (u:bu H C CL CJ l a g b) (ok:cE a g b) (s:y.length<=1000) (t:∀j,j<b.ps.length->(au b.ps j).length<=1000) (r:k.natAbs.log2<1920)
  (no:y∉b.ps.map (·.1)->XP H o "no person" E)
  (dI:y∈b.ps.map (·.1)->¬(0<=k/\k<(a.length:Int))->XP H n "no section" E)
  (Aa:∀i,i<b.ps.length->y=au b.ps i->(0<=k/\k<(a.length:Int))->k∉dP b.F a.length i->∀(e:BL) (d:Hp),bT H d l e->bu d C CL CJ e a g b->Q .ay d)
  (yes:∀i,i<b.ps.length->y=au b.ps i->k∈dP b.F a.length i->∀(e:BL) (h:Hp) (p:U) (q:O U) (f:Nat->Int) (d:Hp),bT H h l e->bu h C CL CJ e a g b->kC a.length b.ps.length f->(∀c∈b.F,e_ f c)->f i=k->h p=aJ->aj h d->d p=Z (.lst (q.map V.ref))->z_ d b.ps q f b.ps.length->Q (.ref p) d):PH C CL CJ o n m H Q E
def Qu(C CL CJ c b:U):Sp:=λa H Q E=>PH C CL CJ c b a H Q E
inductive RC(C:U)(b:O V)(H:Hp)(Q:VK)(E:XK):Prop
 |mk (l:JL) (st:JS) (n i a:Nat) (g:b=[.ref l.J,.int (i:Int)]) (d:c_ H C n l st) (e:st.hd[i]?=Z a) (c:Q (.int (a:Int)) H)
theorem PK(p:Paired R ts b)(h:k∈b):∃a,aY (bM b ts) (.inl (k:Int))=Z (.ref a)/\R a k:=by
 induction p with
 |nil=>cases h
 |@cons a q ts b e t i=>
  have j:bM (q::b) (a::ts)=(Sum.inl (q:Int),V.ref a)::bM b ts:=rfl;by_cases d:k=q;·exact⟨a,gw (by rw[d]),by rwa[d]⟩
  ·refine bo (i ((Ym.mp h).resolve_left d)) λc g w=>?_;refine⟨c,?_,w⟩;rw[j,gk (λz=>d (by have:=J9 z;exact Eq.symm (Int.ofNat.inj this)))];exact g
def Oj(b:JS)(s:Nat->Int)(H:Hp)(a:U)(k:Nat):Prop:=∃c:Nat,c<b.hd.length/\b.ae c=k/\s k∈b.cA k/\H a=Z (.tup [.int (c:Int),.int (ap (b.bK c) (s k))])
def ZhG(b:WF n st)(c:i<st.hd.length)(e:st.ae i=st.ae j)(g:z∈st.cA (st.ae j))(a:prs.Perm (st.prs i j)):aY (x8 prs) (.inl (ap (st.bK i) z))=Z (.int (ap (st.bK j) z)):=by
 have d:st.prs i j=(st.cA (st.ae i)).map λz=>((st.bK i).getD z.toNat 0,(st.bK j).getD z.toNat 0):=by
  unfold JS.prs jL;rw[bC e]
 rw[d] at a;refine Zg7 ?_ (a.mem_iff.mpr (Yf.mpr ⟨z,by rwa[e],rfl⟩));have:=(a.map (·.1)).nodup_iff.mpr (by rw[Y6];exact b.dist c);exact this
structure DI(ps:bP)(st:JS)(H0:Hp)(d dl:U)(j:Nat)(ks:O Nat)(ts as:O U)(s:Nat->Int)(H':Hp):Prop where
 kp:∀c o,H0 c=Z o->c≠d->c≠dl->H' c=Z o
 dict:H' d=Z (.dK (bM ks ts))
 tl:Paired (Oj st s H') ts ks
 lst:H' dl=Z (.lst (as.map V.ref))
 out:z_ H' ps as (λi=>ap (st.bK i) (s (st.ae i))) j
 seen:∀i,i<j->st.ae i∈ks
 nd:d≠dl
theorem Qv(p:Paired R as bs)(h:∀a b,b∈bs->R a b->S a b):Paired S as bs:=by
 induction p with
 |nil=>exact .nil
 |cons e _ c=>exact .cons (h _ _ Yo e) (c λa b m=>h a b (Yw _ m))
def DI.same(h:DI k st q d dl j n i as s r)(g:aj r H2):DI k st q d dl j n i as s H2:=
 ⟨λc o e m l=>g _ _ (h.kp c o e m l),g _ _ h.dict,_L.Paired.bH h.tl λ_ _ ⟨p,a,b,c,e⟩=>⟨p,a,b,c,g _ _ e⟩,g _ _ h.lst,_L.Paired.bH h.out λ _ _=>g _ _,h.seen,h.nd⟩
def DI.more(h:DI r st N d dl j l n as s v)(H:j<st.hd.length)(t:st.ae j∉l)(Q:z∈st.cA (st.ae j))(b:aG d v H2)(L:H2 a=Z (.tup [.int (j:Int),.int (ap (st.bK j) z)]))(e:H2 d=Z (.dK (bM l n++[(.inl (st.ae j:Int),.ref a)]))):
  DI r st N d dl j (l++[st.ae j]) (n++[a]) as (λk=>if k=st.ae j then z else s k) H2:=by
 have p:∀{c:U} {g:O V},v c=Z (.tup g)->H2 c=Z (.tup g):=λ{c g} q=>b _ _ q (λy=>by rw[y,h.dict] at q;cases q);refine⟨λc o q u F=>b _ _ (h.kp c o q u F) u,?_,?_,b _ _ h.lst (λy=>h.nd y.symm),?_,λi J=>Yt _ (h.seen i J),h.nd⟩;·rw[e,yV _ _ (c7 h.tl).symm]
 ·refine jh ⟨j,H,rfl,by show(if st.ae j=st.ae j then z else s (st.ae j))∈_;rwa[bC rfl],by show H2 a=Z (.tup [.int (j:Int),.int (ap (st.bK j) (if st.ae j=st.ae j then z else s (st.ae j)))]);rw[bC rfl];exact L⟩ (Qv h.tl λc k mk x=>?_);refine lr x λm E D P A=>?_;have ne:k≠st.ae j:=λy=>t (by rw[←y];exact mk);exact⟨m,E,D,by show(if k=st.ae j then z else s k)∈_;rwa[bF ne],by show H2 c=Z (.tup [.int (m:Int),.int (ap (st.bK m) (if k=st.ae j then z else s k))]);rw[bF ne];exact p A⟩
 ·refine Qv h.out λc i G q=>?_;have ne:st.ae i≠st.ae j:=λy=>t (by rw[←y];exact h.seen i (Wg.mp G));show H2 c=Z (.tup [.str (au r i),.int (ap (st.bK i) (if st.ae i=st.ae j then z else s (st.ae i)))]);rw[bF ne];exact p q
def DI.next(h:DI k st F d dl j m p as s n)(mk:st.ae j∈m)(b:aG dl n H2)(A:H2 t=Z (.tup [.str (au k j),.int (ap (st.bK j) (s (st.ae j)))]))(e:H2 dl=Z (.lst (as.map V.ref++[.ref t]))):DI k st F d dl (j+1) m p (as++[t]) s H2:=by
 have g:∀{c:U} {a:O V},n c=Z (.tup a)->H2 c=Z (.tup a):=λ{c a} q=>b _ _ q (λy=>by rw[y,h.lst] at q;cases q);refine⟨λc o q z l=>b _ _ (h.kp c o q z l) l,b _ _ h.dict h.nd,_L.Paired.bH h.tl λ_ _ ⟨E,x,v,u,r⟩=>⟨E,x,v,u,g r⟩,by rw[e,Yn];rfl,?_,λi D=>?_,h.nd⟩
 ·unfold z_;rw[Jv];exact jh A (_L.Paired.bH h.out λ _ _=>g)
 ·rcases Nat.lt_succ_iff_lt_or_eq.mp D with q|rfl;·exact h.seen i q
  ·exact mk
def DI.pick{R:V->Hp->Prop}(i:DI L st T d dl j ks H as s n)(W:ks.length<=100)(E:j<st.hd.length)(N:z∈st.cA (st.ae j))(t:∀x∈ks,s x∈st.cA x)(p:n a=Z (.tup [.int (j:Int),.int (ap (st.bK j) z)]))
  (h:∀(l:O Nat) (Q:O U) (o:Nat->Int) (c:U) (r:Hp),DI L st T d dl j l Q as o r->l.length<=ks.length+1->(∀x∈ks,x∈l/\o x=s x)->(∀x∈l,o x∈st.cA x)->st.ae j∈l->Oj st o r c (st.ae j)->R (.ref c) r):
  ∃(b:O (Key×V)) (k:Key),n d=Z (.dK b)/\V.int (st.ae j:Int)=kV k/\b.length<sizeLine/\(∀v,aY b k=Z v->R v n)/\(aY b k=aJ->Ch n d (.dK (b++[(k,.ref a)])) (R (.ref a))):=by
 refine⟨_,.inl (st.ae j:Int),i.dict,rfl,?_,λv g=>?_,λg G F P=>?_⟩
 ·unfold bM;rw[Ya,Jc,d6];exact Nat.lt_of_le_of_lt (Nat.min_le_left _ _) (Nat.lt_of_le_of_lt W (by decide))
 ·by_cases mk:st.ae j∈ks
  ·refine bo (PK i.tl mk) λc e J=>?_;rw[e] at g;cases g;exact h ks H s c n i (Jt _) (λx m=>⟨m,rfl⟩) t mk J
  ·rw[y8 mk] at g;cases g
 ·have u:st.ae j∉ks:=λmk=>by
   refine bo (PK i.tl mk) λc e _=>?_;rw[e] at g;cases g
  have A:=F _ _ p (λy=>by rw[y,i.dict] at p;cases p);have D:∀x,x∈ks->(if x=st.ae j then z else s x)=s x:=λx m=>bF λy=>u (by rw[←y];exact m);refine h _ _ _ a G (i.more E u N F A P) (by exact Yj▸Yd _) (λx m=>⟨Yt _ m,D x m⟩) (λx m=>?_) (Yr _ (Yi.mpr rfl)) ⟨j,E,rfl,?_,?_⟩
  ·show(if x=st.ae j then z else s x)∈_;rcases Yv.mp m with q|q;·rw[D x q];exact t x q
   ·rwa[Yi.mp q,bC rfl]
  ·show(if st.ae j=st.ae j then z else s (st.ae j))∈_;rwa[bC rfl]
  ·show G a=Z (.tup [.int (j:Int),.int (ap (st.bK j) (if st.ae j=st.ae j then z else s (st.ae j)))]);rw[bC rfl];exact A
def Zar(F:aT K "check_section" "check_section" Bc f fd)(k:fE K C)(g:uN K CL)(D:uB P w K B I "NoSection" "no section" y)(z:Bl B):aI P w K B I (lS P w) 4 f fd xI (Ut C CL CJ y):=by
 refine F.xX OH (λq H Q E h=>?_) (λbR A c s H q Q E j h=>?_)
 ·obtain⟨l,b,d,o,i,rfl,_⟩:=h;rfl
 obtain⟨l,b,d,o,i,rfl,n,e,yes,no⟩:=h;refine⟨_,(av (aX (gm OR (pv 1) (fC Bg rfl z.jk uj (aa (uv rfl (pF K 0) rfl) ag)) QU) (av (Iu D j (by decide) rfl rfl qE (ZgJ (KW j (pv 1))))) a_)),?_⟩;refine eW n.obj λv u=>?_;obtain⟨x,dS,R,T,J,im,W,X,DZ,t,_⟩:=n.landAt;refine⟨_,rfl,_,rfl,l.h,C,v,_,_,rfl,u,k.cls,k.uE,rfl,l.L,CL,x,_,_,rfl,t,g.cls,g.r9,rfl,_,rfl,λp G N m r=>?_⟩;refine⟨_,_,_,p,rfl,rfl,r,_,rfl,?_⟩;rw[bC rfl];by_cases a:0<=i/\i<(d.length:Int)
 ·rw[d9 a];exact bV (aZ (yes a G m))
 ·rw[jb a];have L:(Str.ofString (toString i)).length<=4000:=Yy (PyProof.Rows.int_text_len_1921 e) (by decide);exact c6 ⟨_,rfl,.inr (.inl ⟨i,rfl,e,_,rfl,(Nat.le_trans L (by decide)),(no a).same m⟩)⟩
def ZaD:aW oz oz (aL Ft):=.bp
def ZdU(F:aT K "head_of" "Joins.head_of" Ft f fd)(b:nX K C):aI P w K B I aR 1 f fd oz (RC C):=by
 refine F.o ZaD λs H j h=>?_;obtain⟨l,st,n,i,a,rfl,c,e,q⟩:=h;refine⟨_,(av (aK (bc (iL K) (pF K 0) (pv 1)))),?_⟩;obtain⟨g,d⟩:=c.obj;exact⟨_,rfl,l.J,C,g,_,_,rfl,d,b.cls,b.kH,rfl,_,rfl,l.ha,_,_,_,rfl,rfl,aq.of c.heads,oW e,q⟩
def qk:aW ["hearth","name","section","place","joins","settling","dealt","member","there","first","chosen"] vd (aL IG):=.bp
theorem ZdV(F:aT K "dealing" "dealing" IG f fd)(hc:fE K C)(qa:cI P w K B I 8 "joins" C gI (Cd C CL CJ))(we:cI P w K B I 1 "people" C gI (JN C CL CJ))(t6:zC P w K B I 4 "place_of" C kO (IQ C CL CJ cN))(FG:C0 P w K B I 4 "check_section" xI (Ut C CL CJ cS))(IS:C0 P w K B I 9 "open_of" vc (RB C CL CJ cN))(Be:cI P w K B I 1 "head_of" CJ oz (RC CJ))(jC:cI P w K B I 2 "open_at" CJ oz (wW CJ))(wm:cI P w K B I 3 "pairs" CJ qM (Km CJ))(bl:Bl B):aI P w K B I (lS P w) 10 f fd vd (Qu C CL CJ cN cS):=by
 refine F.xX qk (λvs H Q E h=>?_) (λbR A outer s H vs Q E u h=>?_)
 ·obtain⟨l,b,m,T,y,k,rfl,_⟩:=h;rfl
 obtain⟨l,b,m,T,y,k,rfl,ba,ok,ly,ll,sk,no,dI,Aa,yes⟩:=h;have yC:=FG;refine⟨_,(ak (cj 3 qk.nd (K1 t6 u QO qE (pv 0) (aa (pv 1) ag))) (ak (cz (KQ yC u QO qE rfl (aa (pv 0) (aa (pv 2) ag)))) (ak (aX (gm (xg (K:=K) rfl) (pv 2) (KQ IS u QO qE rfl (aa (pv 0) (aa (pv 1) ag))) QU) (av (aK lI)) a_) (ak (cj 4 qk.nd (qA qa u QO (pv 0))) (ak (cj 5 qk.nd (zg (kG (cY Be u QO (pv 4) (aa (pv 3) ag)) (du (aa (pv 3) (aa (pv 2) ag))) zf) rfl rfl (λz=>nomatch z) (Ji rfl))) (ak (cj 6 qk.nd (dU ag)) (ak (fS VH rfl (fD (K:=K) rfl (qA we u QO (pv 0))) (bI 7 qk.nd) (ak (cj 8 qk.nd (K1 t6 u QO qE (pv 0) (aa (pv 7) ag))) (ak (mN (Hj (pv 5) (cY Be u QO (pv 4) (aa (pv 8) ag)) (du (aa (pv 8) (aa (bc (iL K) (cY jC u QO (pv 4) (aa (pv 8) ag)) aP) ag))) ⟨rfl,rfl,rfl,rfl⟩) (iP (K:=K) (n:=2) rfl rfl (bW (bI 9 qk.nd) (bW (bI 10 qk.nd) iN)))) (av (cz (nW (K:=K) rfl (kJ lg me lW oR (pv 6) (aa (du (aa (pv 7) (aa (dm (bL u) (fC (Zcu rfl) rfl bl.Tt R_ (aa (cY wm u QO (pv 4) (aa (pv 9) (aa (pv 8) ag))) ag)) (pv 10) (λ_ _=>rfl)) ag))) ag)))))))) (av (aK (pv 6)))))))))),?_⟩;refine AO ?_;intros;have A2:=ok.m;have n8:=ok.gd.2.2.2.2;obtain⟨dx,ho⟩:=ba.obj;refine⟨_,rfl,l.h,dx,_,rfl,ho,rfl,_,rfl,l,b,m,T,y,rfl,ba,ok.nm,ly,λi hi ey=>?_,no⟩;subst ey;have mi:=rV (ps:=b.ps) hi;refine bj ?_;refine⟨_,rfl,_,rfl,l,b,m,T,k,rfl,ba,sk,λhk H1 g1=>?_,dI mi⟩;have cG:=ba.same g1;refine⟨_,rfl,_,rfl,_,rfl,l,b,m,T,au b.ps i,rfl,cG,ok,ly,λi2 pI e2 l1 H2 p H3 w1 pS np g3 hp=>⟨p,_,rfl,.inl (aq.of hp),rfl,uk _,_,rfl,?_⟩,λz=>absurd mi z⟩;obtain rfl:=nP ok.nm hi pI e2;have EO:=(bT.after g1 w1).same g3;have fO:=pS.same g3;rw[bC rfl,rS];refine bY (λc=>?_) (λc=>aZ ?_)
 ·refine Aa i hi rfl hk (λz=>?_) l1 H3 EO fO;rw[d9 z] at c;cases c
 have mk:k∈dP b.F m.length i:=by
  by_cases z:k∈dP b.F m.length i;·exact z
  ·rw[jb z] at c;exact absurd rfl c
 obtain⟨dx3,Z0⟩:=fO.obj;rw[EO.h] at Z0;refine cD ?_;refine⟨_,rfl,l.h,dx3,_,rfl,Z0,rfl,l1,b,m,T,by rw[EO.h];rfl,fO,ok,λl2 G st H4 w2 pT e1 e2 ja L len gY sm=>?_⟩;have A8:=EO.trans w2;obtain⟨dy,hj⟩:=ja.obj;have pI:i<st.hd.length:=QO
 refine cD ?_;have ehd:st.hd[i]?=Z (st.ae i):=(L.wf.one n8 pI).hd;refine λd nd=>⟨_,rfl,G.J,dy,_,rfl,cF nd _ _ _ hj,rfl,_,rfl,G,st,m.length,i,st.ae i,rfl,ja.same (cF nd _),ehd,?_⟩;refine⟨_,rfl,_,rfl,by show 2<=sizeLine;decide,λt H5 nt g5 ht=>?_⟩;refine⟨g5 _ _ a9,[(.inl (st.ae i:Int),.ref t)],rfl,(by show 1<=15;omega),?_⟩;refine bo ((L.room pI k).mp mk) λf0 gV ef0=>?_;obtain ⟨s0,tY⟩:=gV;obtain⟨Z1,Om⟩:=tY i pI;rw[ef0] at Om;obtain⟨H6,Oo⟩:∃H6,H6=upd H5 d (.dK (oY [] [(.inl (st.ae i:Int),.ref t)])):=⟨_,rfl⟩;rw[←Oo];have e6:H6 d=Z (.dK (bM [st.ae i] [t])):=by rw[Oo];exact a9
 have b6:∀c o,H5 c=Z o->c≠d->H6 c=Z o:=λc o e n=>by rw[Oo,aS n];exact e
 have td:t≠d:=λz=>by rw[z,a9] at nt;cases nt
 have tU:aj H4 H6:=λc o e=>b6 _ _ (g5 _ _ (cF nd _ _ _ e)) (cC e nd);refine cD ?_;refine⟨by show 0<=sizeLine;omega,λdl H7 Oq g7 Z2=>?_⟩;have Ot:=tU.trans g7;have Mx:H4 dl=aJ:=tU.free Oq;have ddl:d≠dl:=λz=>by rw[←z,e6] at Oq;cases Oq
 have A9:=pT.same Ot;obtain⟨dx7,Z3⟩:=A9.obj;rw[A8.h] at Z3;refine hU (λN H'=>∃(H8:Hp) (q:O Nat) (J D:O U) (s:Nat->Int) (o7 X W eS:bS V),aj H7 H8/\DI b.ps st H8 d dl b.ps.length q J D s H'/\s (st.ae i)=s0 (st.ae i)/\(∀x∈q,s x∈st.cA x)/\N=[Z (.ref l.h),Z (.str (au b.ps i)),Z (.int k),Z (.int (i:Int)),Z (.ref G.J),Z (.ref d),Z (.ref dl),o7,X,W,eS]) (λl9 eR=>?_) ?_
 ·refine⟨_,rfl,l.h,dx7,_,rfl,Z3,rfl,l2,b,m,T,by rw[A8.h];rfl,A9,λnp H8 ER g8 Z4=>⟨np,rfl,⟨_,aq.of Z4⟩,?_⟩⟩;have g48:=Ot.trans g8;have npd:np≠d:=λz=>by rw[z,g7 _ _ e6] at ER;cases ER
  have yk:np≠dl:=λz=>by rw[z,Z2] at ER;cases ER
  have keep:∀{q:O Nat} {J D:O U} {s:Nat->Int} {j:Nat} {H':Hp},DI b.ps st H8 d dl j q J D s H'->aj H4 H':=λg c o e=>g.kp c o (g48 _ _ e) (cC e nd) (cC e Mx);refine jE (K:=K) (a:=np) (xs:=b.ps.map λp=>V.str p.1) (λj N H'=>∃(q:O Nat) (J D:O U) (s:Nat->Int) (o7 X W eS:bS V),DI b.ps st H8 d dl j q J D s H'/\q.length<=j+1/\st.ae i∈q/\s (st.ae i)=s0 (st.ae i)/\(∀x∈q,s x∈st.cA x)/\N=[Z (.ref l.h),Z (.str (au b.ps i)),Z (.int k),Z (.int (i:Int)),Z (.ref G.J),Z (.ref d),Z (.ref dl),o7,X,W,eS])
   ⟨[st.ae i],[t],[],s0,aJ,aJ,aJ,aJ,⟨λ_ _ e _ _=>e,g8 _ _ (g7 _ _ e6),.cons ⟨i,pI,rfl,Z1,g8 _ _ (g7 _ _ (b6 _ _ (by rw[←Om];exact ht) td))⟩ .nil,g8 _ _ Z2,.nil,(λi h=>absurd h (Wk _)),ddl⟩,Yd _,Yi.mpr rfl,rfl,(λx hx=>by rw[Yi.mp hx];exact Z1),rfl⟩ (λj N H' _ ⟨_,_,_,_,_,_,_,_,g,_⟩=>aq.of (g.kp _ _ Z4 npd yk)) ?_ ?_
  ·rintro j v N H9 hj ⟨q,J,D,s,o7,X,W,eS,g,kl,ik,es,sf,rfl⟩;have jm:j<b.ps.length:=by
    have:=(Yh.mp hj).1;rw[Ya] at this;exact this
   obtain rfl:V.str (au b.ps j)=v:=Yp ((Cf jm).symm.trans hj);have A_:j<st.hd.length:=QO
   refine bj ?_;have Z5:=pT.same (keep g);have Ou:=ja.same (keep g);obtain⟨dx9,Z6⟩:=Z5.obj;rw[A8.h] at Z6;obtain⟨Z7,Z8⟩:=Ou.obj;have one:=L.wf.one n8 A_;refine⟨_,rfl,l.h,dx9,_,rfl,Z6,rfl,_,rfl,l2,b,m,T,au b.ps j,by rw[A8.h];rfl,Z5,ok.nm,ll j jm,λj2 Ov ej=>?_,λz=>absurd (rV jm) z⟩;obtain rfl:=nP ok.nm jm Ov ej;refine bj ?_;refine⟨_,rfl,d,rfl,.inl ⟨_,.inl g.dict⟩,_,rfl,G.J,Z7,_,rfl,Z8,rfl,_,rfl,G,st,m.length,j,st.ae j,rfl,Ou,one.hd,?_⟩;refine⟨_,rfl,_,rfl,G.J,Z7,_,rfl,Z8,rfl,_,rfl,G,st,m.length,j,_,_,_,rfl,Ou,one.hd,one.ld,one.fr,one.gq,one.cM,λp ns HA npA gA pm so hp=>?_⟩;have ens:=L.YV A_ pm so;obtain⟨r,rs,er⟩:∃r rs,ns=r::rs:=by
    cases e:ns with
    |nil=>exact absurd (ens.symm.trans e) (L.yes A_)
    |cons r rs=>exact⟨r,rs,rfl⟩
   subst er;obtain⟨z,mz,ez⟩:=Yf.mp (pm.subset Yo);have ez:ap (st.bK j) z=r:=ez;refine⟨p,_,_,_,rfl,rfl,aq.of hp,iz (j:=0) (v:=V.int r) rfl,by show 2<=sizeLine;decide,λa HB na gB ha=>?_⟩;refine DI.pick (R:=λx HX=>LK K 2 (Lk (n_ 9) (Lk (n_ 10) Vs)) x _ HX _) ((g.same gA).same gB) (z:=z) QO A_ mz sf (by rw[ez];exact ha) λv_ Ol s' c HX gx kx mono sx jx zq=>?_;obtain⟨fi,q1,q2,q3,q4⟩:=zq;have Z9:=ja.same (keep gx);obtain⟨dyX,hjX⟩:=Z9.obj;refine⟨c,_,rfl,az.of q4,rfl,_,_,rfl,bj ⟨_,_,rfl,bj ⟨rfl,?_⟩⟩⟩;refine⟨_,rfl,.inl ⟨rfl,_,aq.of gx.lst⟩,_,rfl,_,rfl,G.J,dyX,_,rfl,hjX,rfl,_,rfl,_,rfl,G,st,m.length,fi,j,_,_,_,_,_,_,rfl,Z9,L.wf.one n8 q1,one,λp2 rf prs HD npD gD hpD pa yd lex=>?_⟩;have cM:=Yy (DF yd.length_eq) (Kn L.wf n8 q1 A_);refine⟨p2,rf,prs,rfl,hpD,pa,Yy cM QD,λdd HE ndd gE hdd=>?_⟩;refine⟨_,rfl,dd,_,rfl,.inl ⟨_,.inl (ap (st.bK fi) (s' (st.ae j))),.inl hdd,rfl,(ZhG L.wf q1 q2 q3 yd).symm⟩,by show 2<=sizeLine;decide,λt2 HF EN gF v9=>?_⟩;have ES:=((gx.same gD).same gE).same gF;have al:=c7 ES.out;rw[Wu] at al;refine⟨dl,_,_,rfl,rfl,ES.lst,by rw[Ya,al,d6];omega,λHG bG eG=>?_⟩;exact⟨v_,Ol,D++[t2],s',_,_,_,_,ES.next jx bG (bG _ _ v9 (λy=>by rw[y,ES.lst] at v9;cases v9)) eG,QO,(mono _ ik).1,((mono _ ik).2).trans es,sx,rfl⟩
  ·rintro N H9 ⟨q,J,D,s,o7,X,W,eS,g,kl,ik,es,sf,rfl⟩;rw[Ya] at g;exact eR _ _ ⟨H8,q,J,D,s,o7,X,W,eS,g8,g,es,sf,rfl⟩
 rintro N H9 ⟨H8,q,J,D,s,o7,X,W,eS,g8,g,es,sf,rfl⟩;have g4:aj H4 H9:=λc o e=>g.kp c o (g8 _ _ (Ot _ _ e)) (cC e nd) (cC e Mx);have dd:dG st λi=>ap (st.bK i) (s (st.ae i)):=⟨s,λi hi=>⟨sf _ (g.seen i QO),rfl⟩⟩;obtain⟨inr,sat⟩:=(L.iff _).mp dd;rw[len] at inr;exact⟨_,rfl,yes i hi rfl mk l2 H4 dl D _ H9 A8 pT inr sat (by show ap (st.bK i) (s (st.ae i))=k;rw[es,←Om]) Mx g4 g.lst g.out⟩
inductive RD(C CL CJ:U)(m:O V)(H:Hp)(Q:VK):Prop
 |mk (l:BL) (b:BS) (d h:O Int) (y:ar) (k:Int) (u:m=[.ref l.h,.str y,.int k]) (s:bu H C CL CJ l d h b) (ok:cE d h b) (q:y.length<=1000) (r:∀j,j<b.ps.length->(au b.ps j).length<=1000) (o:k.natAbs.log2<1920)
  (no:y∉b.ps.map (·.1)->∀(p:U) (a:Hp),aj H a->a p=Z (.tup [.str "no person",.bl af,.bl bg])->Q (.ref p) a)
  (dI:y∈b.ps.map (·.1)->¬(0<=k/\k<(d.length:Int))->∀(p:U) (a:Hp),aj H a->a p=Z (.tup [.str "no section",.bl bg,.bl af])->Q (.ref p) a)
  (Aa:∀i,i<b.ps.length->y=au b.ps i->(0<=k/\k<(d.length:Int))->k∉dP b.F d.length i->∀(g:BL) (e:Hp) (p:U) (a:Hp),bT H e l g->bu e C CL CJ g d h b->aj e a->a p=Z (.tup [.str "told",.ay])->Q (.ref p) a)
  (yes:∀i,i<b.ps.length->y=au b.ps i->k∈dP b.F d.length i->∀(g:BL) (e:Hp) (t p:U) (n:O U) (f:Nat->Int) (a:Hp),bT H e l g->bu e C CL CJ g d h b->kC d.length b.ps.length f->(∀c∈b.F,e_ f c)->f i=k->e p=aJ->aj e a->a t=Z (.tup [.str "told",.ref p])->a p=Z (.lst (n.map V.ref))->z_ a b.ps n f b.ps.length->Q (.ref t) a):RD C CL CJ m H Q
def Ky(C CL CJ:U):Sp:=λa H Q _=>RD C CL CJ a H Q
noncomputable abbrev Dr:O ar:=["_law_book","_law_name_here","_law_section"]
def OU:aW ["_law_book","_law_name_here","_law_section","e"] Dr (aL GR):=.bp
def Zb5(F:aT K "_law_asked" "_law_asked" GR f fd)(IT:C0 P w K B I 10 "dealing" vd (Qu C CL CJ a gc))(mH:B "KinError"=Z (.ref R))(Ik:dR K R)
  (Bz:B "NoPerson"=Z (.ref a))(r:dR K a)(yP:dA K a "word")(E4:PySem.W.mroIn K a (.ref R)=Z af)(Bp:B "NoSection"=Z (.ref gc))(u:dR K gc)(yK:dA K gc "word")(E2:PySem.W.mroIn K gc (.ref R)=Z af)(G:PySem.W.mroIn K a (.ref gc)=Z bg)(E3:PySem.W.mroIn K gc (.ref a)=Z bg)(E1:PySem.W.mroIn K gc (.ref gc)=Z af)(bl:Bl B):aI P w K B I aR 12 f fd Dr (Ky C CL CJ):=by
 refine F.o OU @λbR A N vs Q E s H hr h=>?_;obtain⟨l,b,xs,ys,y,k,rfl,ba,ok,ly,ll,sk,no,dI,Aa,yes⟩:=h;have ne:a≠gc:=λe=>by rw[e,E1] at G;cases G
 refine⟨_,(av (Zie (i:=3) ⟨rfl,rfl⟩ OU.nd rfl rfl rfl mH Ik (λpn xe E hx ow=>(av (aK (du (aa bB (aa (KQ IT hr (by decide) hx rfl (aa (pv 0) (aa (pv 1) (aa (pv 2) ag)))) ag)))))) (λ_=>(av (aK (du (aa (Zfl rfl (pv 3)) (aa (iu (QL rfl) rfl bl.Gh FZ (aa (pv 3) (aa (dW (v:=.ref a) rfl Bz rfl) ag))) (aa (iu (QL rfl) rfl bl.Gh FZ (aa (pv 3) (aa (dW (v:=.ref gc) rfl Bp rfl) ag))) ag))))))))),?_⟩;refine⟨_,rfl,_,rfl,_,rfl,l,b,xs,ys,y,k,rfl,ba,ok,ly,ll,sk,λm=>?_,λm W=>?_,λi X ey W nk T z J cG=>?_,λi X ey mk T z p as f H2 J cG inr L fi D g2 x da=>?_⟩
 ·intro a' c z _ _ g e1 o;refine⟨a,c,rfl,rfl,r,E4,λd n=>?_⟩;refine⟨_,rfl,d,a,c,_,_,rfl,n,o,r,yP,rfl,?_⟩;refine⟨_,rfl,d,a,c,_,_,_,af,rfl,rfl,n,o,r,QI _,?_⟩;refine⟨_,rfl,d,a,c,_,_,_,bg,rfl,rfl,n,o,r,P1 u ne G,?_⟩;exact⟨QD,λp q D j x=>no m p q (g.trans j) x⟩
 ·intro a' c z _ _ g e1 o;refine⟨gc,c,rfl,rfl,u,E2,λd n=>?_⟩;refine⟨_,rfl,d,gc,c,_,_,rfl,n,o,u,yK,rfl,?_⟩;refine⟨_,rfl,d,gc,c,_,_,_,bg,rfl,rfl,n,o,u,P1 r ne.symm E3,?_⟩;refine⟨_,rfl,d,gc,c,_,_,_,af,rfl,rfl,n,o,u,QI _,?_⟩;exact⟨QD,λp q D j x=>dI m W p q (g.trans j) x⟩
 ·exact⟨QD,λ p q D=>Aa i X ey W nk T z p q J cG⟩
 ·exact⟨by show 2<=sizeLine;decide,λt q nt j ht=>yes i X ey mk T z t p as f q J cG inr L fi D (g2.trans j) ht (j _ _ x) (_L.Paired.bH da λ _ _=>j _ _)⟩
def rB(a:bP)(f:Nat->Int)(m:Nat):O (Key×V):=(List.range m).map λi=>(.inr (au a i),.int (f i))
def RE(a:bP)(f:Nat->Int)(m:Nat):rB a f (m+1)=rB a f m++[(.inr (au a m),.int (f m))]:=by
 unfold rB;rw[Jv,Yn];rfl
def Uu{f:Nat->Int}(d:(a.map (·.1)).Nodup)(c:j<a.length):aY (rB a f j) (.inr (au a j))=aJ:=qc λm=>by
 unfold rB at m;rw[Y6] at m;refine bo (Yf.mp m) λi b e=>?_;have b:=Wg.mp b;have:=nP d (Nat.lt_trans b c) c (Y9 e);omega
theorem Kz{a:bP}{f:Nat->Int}(b:(a.map (·.1)).Nodup):∀{m i:Nat},m<=a.length->i<m->aY (rB a f m) (.inr (au a i))=Z (.int (f i))
 |m+1,i,hm,c=>by
  rw[RE,uh (Uu b hm)];by_cases e:i=m;·rw[e,bC rfl]
  ·rw[bF λz=>e (nP b (Nat.lt_of_lt_of_le c hm) hm (Y9 z))];exact Kz b (Xn hm) (Nat.lt_of_le_of_ne (Nat.le_of_lt_succ c) e)
def ve{x y:V}{a b:Prop}(e:x=y)(h:b):if(!decide (x=y))=af then a else b:=by
 rwa[d9 e]
inductive SV(l:O V)(H:Hp)(Q:VK)(E:XK):Prop
 |mk (g h i e:U) (j:O U) (a:bP) (b d:O Int) (f:Nat->Int) (F:O Fc) (y:l=[.ref g,.ref h,.ref i,.ref e]) (r:H g=Z (.lst (j.map V.ref))) (x:z_ H a j f a.length) (s:H h=Z (.lst (fQ a))) (o:(a.map (·.1)).Nodup) (n:a.length<=64) (t:FL H a i F) (p:fP H e b d) (u:oi b d) (v:∀c∈F,fF b d a.length c) (inr:kC b.length a.length f) (m:∀c∈F,e_ f c) (q:∀k,aj H k->Q (.bl af) k)
noncomputable abbrev My:O ar:=["_law_rows","_law_names","_law_facts","_law_turns_here"]
def uc:aW ["_law_rows","_law_names","_law_facts","_law_turns_here","_law_found","_law_k","_law_number","_law_kind","_law_one","_law_other"] My (aL GS):=.bp
def Zb6(F:aT K "_law_holds" "_law_holds" GS f fd)(k:Bl B):aI P w K B I aR 2 f fd My SV:=by
 refine F.o uc λs H R h=>?_;obtain⟨p,N,fl,W,as,E,xs,ys,g,F',rfl,Ow,da,hn,nd,p64,hf,ht,gd,fg,inr,sat,q⟩:=h;refine⟨_,(ak (aX (PW.pt (pw_or (gn (d5 (jX K k (pv 0) (jJ rfl k.uA uq)))) (pw_or1 (bO iU (dv K k (pv 0)) (dv K k (pv 1)))))) (av (aK d7)) a_) (ak (cj 4 uc.nd rH) (ak (fS QcB rfl (nK rfl k.jk (aa (dv K k (pv 1)) ag)) (bI 5 uc.nd) (ak (aX (PW.pt (pw_or (gn (d5 (jX K k (bc (iL K) (pv 0) (pv 5)) (jJ rfl k.nO nM)))) (pw_or (bO iU (dv K k (bc (iL K) (pv 0) (pv 5))) aP) (pw_or1 (bO iU (bc (iT K) (bc (iL K) (pv 0) (pv 5)) aP) (bc (iL K) (pv 1) (pv 5))))))) (av (aK d7)) a_) (ak (aX (PW.pt (pw_or (gn (d5 (jX K k (bc (iT K) (bc (iL K) (pv 0) (pv 5)) aP) (jJ rfl k.Lq KP)))) (pw_or (d5 (jX K k (bc (iT K) (bc (iL K) (pv 0) (pv 5)) aP) (jJ rfl k.zA zd))) (pw_or1 (gm (xg (K:=K) rfl) (bc (iT K) (bc (iL K) (pv 0) (pv 5)) aP) (dm (bL R) (pv 3) bB (λ_ _=>rfl)) (by with_unfolding_all rfl)))))) (av (aK d7)) a_) (av (oU (bL R) (pv 4) (bc (iL K) (pv 1) (pv 5)) (bc (iT K) (bc (iL K) (pv 0) (pv 5)) aP)))))) (ak (fS QcB rfl (fD (K:=K) rfl (pv 2)) (iP (K:=K) (n:=4) rfl rfl (bW (bI 6 uc.nd) (bW (bI 7 uc.nd) (bW (bI 8 uc.nd) (bW (bI 9 uc.nd) iN))))) (ak (aX (PW.pt (pw_and (bO cP (pv 7) bB) (pw_and1 (bO iU (dm (bL R) (pv 4) (pv 8) (λ_ _=>rfl)) (pv 9))))) (av (aK d7)) a_) (av (aX (PW.pt (pw_and (bO iU (pv 7) bB) (pw_and1 (bO iU (bc (iT K) (dm (bL R) (pv 3) (pv 7) (λ_ _=>rfl)) (dm (bL R) (pv 4) (pv 8) (λ_ _=>rfl))) (dm (bL R) (pv 4) (pv 9) (λ_ _=>rfl)))))) (av (aK d7)) a_)))) (av (aK d7)))))),?_⟩;refine AF ?_;intros;have sz:(10000:Nat)<=sizeLine:=by rw[wa];decide
 have al:as.length=E.length:=by have:=c7 da;rwa [Wu] at this
 have Z_:=gd.2.2.2.2;refine⟨_,rfl,_,_,_,af,rfl,.lst Ow,Tw,_,rfl,bV ?_⟩;refine⟨_,rfl,p,_,rfl,.inl (aq.of Ow),_,rfl,N,_,rfl,.inl (aq.of hn),rfl,_,rfl,ve (by rw[Ya,al,nQ]) (aZ ?_)⟩;refine cD ?_;refine λd H1 n1 g1 h1=>?_;refine hU (λb l=>aj H l/\l d=Z (.dK (rB E g E.length))/\∃A y x t r,b=[Z (.ref p),Z (.ref N),Z (.ref fl),Z (.ref W),Z (.ref d),A,y,x,t,r]) (λl9 eR=>?_) ?_
 ·refine ju (id ht) λmm T ww ss dZ hmm tX hww AI=>?_;refine⟨_,rfl,N,_,rfl,.inl (aq.of (g1 _ _ hn)),_,rfl,by rw[nQ];omega,by rw[nQ];omega,yW (lo:=0) (n:=(((fQ E).length:Nat):Int).toNat) (λj b l=>aj H l/\l d=Z (.dK (rB E g j))/\∃A y x t r,b=[Z (.ref p),Z (.ref N),Z (.ref fl),Z (.ref W),Z (.ref d),A,y,x,t,r]) ⟨g1,h1,aJ,aJ,aJ,aJ,aJ,rfl⟩ ?_ ?_⟩
  ·rintro j b H2 hj ⟨m,G,A,y,x,t,r,rfl⟩;have X:j<E.length:=by rw[nQ] at hj;omega
   have ea:as[j]?=Z (as[j]'(by omega)):=Yb (by omega);refine bo (gf da ea) λj' ej ha=>?_;rw[Ja X] at ej;cases ej;obtain⟨a,haa⟩:∃a,a=as[j]'(by omega):=⟨_,rfl⟩;rw[←haa] at ea ha;have J:(as.map V.ref)[j]?=Z (.ref a):=by rw[Ye,ea];rfl
   have L:=aq.of (K:=K) (m _ _ Ow);have gS:=aq.of (K:=K) (m _ _ hn);have ha2:=m _ _ ha;have Q:=az.of (K:=K) ha2;refine bj ?_;refine⟨_,rfl,_,rfl,p,_,_,_,rfl,rfl,L,nN J,_,_,_,af,rfl,.tup ha2,Tx,_,rfl,bV ?_⟩;refine⟨_,rfl,_,rfl,p,_,_,_,rfl,rfl,L,nN J,a,_,rfl,.inr Q,rfl,_,rfl,ve rfl ?_⟩;refine⟨_,rfl,_,rfl,p,_,_,_,rfl,rfl,L,nN J,a,_,_,_,rfl,rfl,Q,by rfl,_,rfl,_,rfl,N,_,_,_,rfl,rfl,gS,nN (Cf X),rfl,_,rfl,ve rfl (aZ ?_)⟩;refine⟨_,rfl,_,rfl,p,_,_,_,rfl,rfl,L,nN J,a,_,_,_,rfl,rfl,Q,by rfl,_,_,_,af,rfl,.int _,KY,_,rfl,bV ?_⟩;refine⟨_,rfl,_,rfl,p,_,_,_,rfl,rfl,L,nN J,a,_,_,_,rfl,rfl,Q,by rfl,_,_,_,bg,rfl,.int _,Cn,_,rfl,bV ?_⟩;refine⟨_,rfl,_,rfl,p,_,_,_,rfl,rfl,L,nN J,a,_,_,_,rfl,rfl,Q,by rfl,_,rfl,W,_,rfl,df (m _ _ dZ) (o:=Z (.ref ss)) rfl,ss,_,rfl,.inr (az.of (m _ _ AI)),rfl,uk _,_,rfl,?_⟩;rw[tV rfl,rS,qg (BU.mpr (inr j X))];refine bV (aZ ?_);refine⟨_,rfl,_,rfl,p,_,_,_,rfl,rfl,L,nN J,a,_,_,_,rfl,rfl,Q,by rfl,_,rfl,_,rfl,_,rfl,N,_,_,_,rfl,rfl,gS,nN (Cf X),d,_,.inr (au E j),rfl,G,rfl,by unfold rB;rw[Ya,Wu];exact Nat.lt_of_lt_of_le X (Nat.le_trans p64 (by decide)),λH3 b3 e3=>?_⟩;rw[lF _ (Uu nd X),←RE] at e3;exact⟨λc o e=>b3 _ _ (m _ _ e) (cC e n1),e3,_,_,_,_,_,rfl⟩
  ·rintro b H2 ⟨m,G,A,y,x,t,r,rfl⟩;exact eR _ _ ⟨m,by rw[show(((fQ E).length:Nat):Int).toNat=E.length by rw[nQ];rfl] at G;exact G,A,y,x,t,r,rfl⟩
 rintro b H2 ⟨m,G,A,y,x,t,r,rfl⟩;refine bo (hf.same m) λcB nE pf=>?_;refine hU (λb l=>l=H2) (λl9 eR=>?_) ?_
 ·refine⟨_,rfl,fl,rfl,⟨_,aq.of nE⟩,jE (K:=K) (a:=fl) (xs:=cB.map V.ref) (λi b l=>l=H2/\∃A y x t r,b=[Z (.ref p),Z (.ref N),Z (.ref fl),Z (.ref W),Z (.ref d),A,y,x,t,r]) ⟨rfl,A,y,x,t,r,rfl⟩ (λi b l _ ⟨e,_⟩=>by rw[e];exact aq.of nE) ?_ ?_⟩
  ·rintro i v b l hi ⟨rfl,A,y,x,t,r,rfl⟩;rw[Ye] at hi;refine bo (Jd.mp hi) λc ec gU=>?_;subst gU;obtain⟨fc,je,z,hc⟩:=gf pf ec;have mf:=Yg je;have T:=fg _ mf;have st:=sat _ mf;have g1:=Kz (f:=g) nd (Yd _) T.ok.one;by_cases D:fc.k=bb
   ·rw[ji D] at hc;refine⟨c,_,rfl,az.of hc,rfl,_,_,rfl,bj ⟨_,_,rfl,bj ⟨_,_,rfl,bj ⟨_,_,rfl,bj ⟨rfl,?_⟩⟩⟩⟩⟩;refine⟨_,rfl,rfl,_,rfl,?_⟩;rw[show decide (V.str fc.k=V.str bb)=af from qg (by rw[D])];refine c6 ⟨_,rfl,_,rfl,d,_,rfl,df G g1,_,rfl,rfl,_,rfl,ve (by rw[st.1 D];rfl) (aZ ?_)⟩;exact⟨_,rfl,rfl,_,rfl,ve (by rw[D]) (bV (aZ ⟨rfl,_,_,_,_,_,rfl⟩))⟩
   ·rw[jj D] at hc;refine⟨c,_,rfl,az.of hc,rfl,_,_,rfl,bj ⟨_,_,rfl,bj ⟨_,_,rfl,bj ⟨_,_,rfl,bj ⟨rfl,?_⟩⟩⟩⟩⟩;have ed:decide (V.str fc.k=V.str bb)=bg:=qf λz=>D (V.str.inj z);have og:=(T.ok.ic D).1;have g2':=Kz (f:=g) nd (Yd _) og.2;refine⟨_,rfl,rfl,_,rfl,?_⟩;rw[ed];refine bV (bV (aZ ⟨_,rfl,rfl,_,rfl,?_⟩));rw[ed];refine c6 ?_;refine gR ((ht.same m).get (T.uP D)) λkvs u dZ hu htu=>?_;have tl:=(T.ok.ic D).2.2;have io:=inr _ T.ok.one;exact⟨_,rfl,_,rfl,W,_,rfl,df dZ hu,_,rfl,_,rfl,d,_,rfl,df G g1,u,_,_,_,rfl,rfl,az.of htu,Le io.1 (by rw[tl];exact io.2),_,rfl,_,rfl,d,_,rfl,df G g2',rfl,_,rfl,ve (by rw[st.2 D]) (aZ ⟨rfl,_,_,_,_,_,rfl⟩)⟩
  ·rintro b l ⟨rfl,_⟩;exact eR _ _ rfl
 rintro b l rfl;exact q _ m
structure AT(C CL CJ:U)(xs ys:O Int)(b:BS)(is:O Nat)(cM nl fl td:U)(H:Hp)(l:BL):Prop where
 ba:bu H C CL CJ l xs ys b
 fw:H cM=Z (.lst (is.map λi=>.str (au b.ps i)))
 f1:cM∉l.fp
 hn:H nl=Z (.lst (fQ b.ps))
 n1:nl∉l.fp
 hf:∃as:O U,H fl=Z (.lst (as.map V.ref))/\Paired (EE H b.ps) as b.F
 l1:fl∉l.fp
 ht:fP H td xs ys
 t1:td∉l.fp
def AT.same(h:AT C CL CJ xs a b is e nl d c H l)(g:aj H i):AT C CL CJ xs a b is e nl d c i l:=
 ⟨h.ba.same g,g _ _ h.fw,h.f1,g _ _ h.hn,h.n1,FL.same g h.hf,h.l1,h.ht.same g,h.t1⟩
def AT.xJ(h:AT C CL CJ xs a b is m nl j d H l)(w:bT H c l l')(q:bu c C CL CJ l' xs a b):AT C CL CJ xs a b is m nl j d c l':=by
 obtain⟨u,p⟩:=w.off h.fw h.f1;obtain⟨t,o⟩:=w.off h.hn h.n1;refine bo h.hf λr i g=>?_;obtain⟨s,n⟩:=w.off i h.l1;obtain⟨_,_,_,_,k,_⟩:=id h.ht;exact⟨q,u,p,t,o,⟨r,s,_L.Paired.bH g λ_ _ ⟨z,e⟩=>⟨z,w.cq h.ba e⟩⟩,n,w.fP h.ba h.ht h.t1,(w.off k h.t1).2⟩
inductive SW(C CL CJ:U)(p:O V)(H:Hp)(Q:VK)(E:XK):Prop
 |mk (l:BL) (b:BS) (c a:O Int) (d:O Nat) (o k n h:U) (e:Int) (x:p=[.ref l.h,.ref o,.ref k,.ref n,.ref h,.int e]) (at_:AT C CL CJ c a b d o k n h H l) (ok:cE c a b) (r:∀j,j<b.ps.length->(au b.ps j).length<=1000) (t:∀i∈d,i<b.ps.length) (s:d.length<=100) (v:0<=e) (u:e<10^50) (q:∀(m:BL) (g:Hp),bT H g l m->bu g C CL CJ m c a b->Q (.bl af) g)
theorem Zja{H:Hp}{c:bP}{f:Nat->Int}{g:O U}{d:O Nat}(h:Paired (λa (j:Nat)=>H a=Z (.tup [.str (au c j),.int (f j)])) g d):Paired (λa b=>H a=Z (.tup b)/\b.all iH=af) g (d.map λj=>[.str (au c j),.int (f j)]):=by
 induction h with
 |nil=>exact .nil
 |cons e _ i=>exact .cons ⟨e,rfl⟩ i
def su{k:Int}(h:k.natAbs<=10^50+100):k.natAbs.log2<1920:=by
 by_cases z:k.natAbs=0;·rw[z];decide
 ·exact(Nat.log2_lt z).mpr (W3 h QD)
def cE.wb(a:cE xs d b):(∀c∈b.F,fF xs d b.ps.length c)/\b.F.length<=64:=by
 refine⟨λc g=>?_,?_⟩
 ·obtain⟨p,e,rfl⟩:=Yf.mp (g);exact a.fg p e
 ·show(b.fs.map (·.2)).length<=64;rw[Ya];exact W7 a.fl
noncomputable abbrev Mz:O ar:=["_law_book","_law_few","_law_names","_law_facts","_law_turns_here","_law_far"]
def t9:aW ["_law_book","_law_few","_law_names","_law_facts","_law_turns_here","_law_far","_law_size","_law_name_here","_law_section","_law_room_here","_law_found"] Mz (aL FN):=.bp
def ZdW(F:aT K "_law_all_told" "_law_all_told" FN f fd)(nJ:HasFn P w K B I 4 "_law_same" oN (r8 4))(qj:HasFn P w K B I 3 "_law_room" z8 Cw)(uf:HasFn P w K B I 12 "_law_asked" Dr (Ky C CL CJ))(Hg:HasFn P w K B I 2 "_law_holds" My SV)(bl:Bl B):aI P w K B I aR 13 f fd Mz (SW C CL CJ):=by
 refine F.o t9 λs H T h=>?_;obtain⟨l,b,d,A,is,N,Q,G,D,L,rfl,Ox,ok,ll,hi,il,f0,fz,q⟩:=h;refine⟨_,(ak (cj 6 t9.nd (dv K bl (dm (bL T) (pv 4) bB (λ_ _=>rfl)))) (ak (fS iJ rfl (fD (K:=K) rfl (pv 1)) (bI 7 t9.nd) (ak (fS iJ rfl (fD (K:=K) rfl (dU (aa (zI zp aP) (aa (pv 6) (aa (bA iQ (pv 5) (pv 6)) ag))))) (bI 8 t9.nd) (av (aX (gn (d5 (bh nJ T (aa (bh uf T (aa (pv 0) (aa (pv 7) (aa (pv 8) ag)))) (aa (du (aa bB (aa d7 (aa d7 ag)))) ag))))) (av (aK d7)) a_))) (ak (cj 9 t9.nd (bh qj T (aa (pv 3) (aa (pv 4) (aa (pv 7) ag))))) (av (fS iJ rfl (nK rfl bl.jk (aa (pv 6) ag)) (bI 8 t9.nd) (ak (cj 10 t9.nd (bh uf T (aa (pv 0) (aa (pv 7) (aa (pv 8) ag))))) (av (aX (gm (xg (K:=K) rfl) (pv 8) (pv 9) QU) (av (aX (gn (d5 (bh nJ T (aa (pv 10) (aa (du (aa bB (aa lI ag))) ag))))) (av (aK d7)) a_)) (ak (aX (PW.pt (pw_or (bO iU (bc (iT K) (pv 10) aP) bB) (pw_or1 (gn (d5 (bh Hg T (aa (bc (iT K) (pv 10) aP) (aa (pv 2) (aa (pv 3) (aa (pv 4) ag)))))))))) (av (aK d7)) a_) (ak (aX (gm (ZeD (bL T)) (du (aa (pv 7) (aa (pv 8) ag))) (bc (iT K) (pv 10) aP) QU) (av (aK d7)) a_) (av (cz (Kg (K:=K) rfl (KI lg PySem.F.slot_list_reverse PySem.F.type_list_reverse Zc9 (bc (iT K) (pv 10) aP))))))))))))))) (av (aK d7)))),?_⟩;refine oP ?_;intros;have Z_:=ok.gd.2.2.2.2;have gd2:=ok.gd.2.2.2.1;have A2:=ok.m;obtain⟨fg,wb⟩:=ok.wb;refine ju (id Ox.ht) λmm ff ww ss dZ _ _ _ AI=>?_;refine cD ?_;refine⟨_,rfl,D,_,rfl,df dZ (o:=Z (.ref ss)) rfl,ss,_,rfl,.inr (az.of AI),?_⟩;rw[show(((bQ d.length).map V.int).length:Int)=(d.length:Int) by rw[Ya,fR]];refine hU (λr y=>∃(z:BL),bT H y l z/\bu y C CL CJ z d A b) (λl9 eR=>?_) ?_
 ·refine⟨_,rfl,N,rfl,⟨_,aq.of Ox.fw⟩,jE (K:=K) (a:=N) (xs:=is.map λi=>V.str (au b.ps i)) (λi r y=>∃(z:BL) (o7 E R J:bS V),bT H y l z/\AT C CL CJ d A b is N Q G D y z/\r=[Z (.ref l.h),Z (.ref N),Z (.ref Q),Z (.ref G),Z (.ref D),Z (.int L),Z (.int (d.length:Int)),o7,E,R,J]) ⟨l,aJ,aJ,aJ,aJ,bT.of (aj.refl _),Ox,rfl⟩ (λi r y _ ⟨_,_,_,_,_,_,a,_⟩=>aq.of a.fw) ?_ ?_⟩
  ·intro i v r H1 hj ZH;refine um ZH λl1 o7 E R J w1 a1 B1=>?_;subst B1;rw[Ye] at hj;obtain⟨x,ex,rfl⟩:=Jd.mp hj;have X:=hi x (Yg ex);have mx:=rV (ps:=b.ps) X;refine bj ?_;refine hU (λr y=>∃(z:BL) (E R J:bS V),bT H y l z/\AT C CL CJ d A b is N Q G D y z/\r=[Z (.ref l.h),Z (.ref N),Z (.ref Q),Z (.ref G),Z (.ref D),Z (.int L),Z (.int (d.length:Int)),Z (.str (au b.ps x)),E,R,J]) (λEo pU=>?_) ?_
   ·refine⟨_,rfl,_,rfl,_,rfl,_,rfl,_,_,rfl,rfl,by show 3<=sizeLine;decide,λp H2 np g2 hp=>⟨p,rfl,⟨_,aq.of hp⟩,?_⟩⟩;have ec:([V.int (-1),.int (d.length:Int),.int (L+(d.length:Int))]:O V)=[-1,(d.length:Int),L+(d.length:Int)].map V.int:=rfl;have out:∀k:Int,k∈[-1,(d.length:Int),L+(d.length:Int)]->¬(0<=k/\k<(d.length:Int))/\k.natAbs.log2<1920:=λk mk=>by
     have fz':L<100000000000000000000000000000000000000000000000000:=fz;have tZ:(10:Nat)^50+100=100000000000000000000000000000000000000000000000100:=QD
     rcases Ym.mp mk with rfl|mk;·exact⟨QO,su (by rw[tZ];decide)⟩
     ·rcases Ym.mp mk with rfl|mk;·exact⟨QO,su (by rw[tZ];omega)⟩
      ·rw[Yi.mp mk];exact⟨QO,su (by rw[tZ];omega)⟩
    have Ba:∀{H:Hp} {p:U},H p=Z (.tup [.str "no section",.bl bg,.bl af])->At H 3 (.ref p) (.tup [.str "no section",.bl bg,.bl af]):=λh=>K0 h (by show 3<=1000;decide) (.cons (KZ _) (.cons (CH _) (.cons (CH _) .nil)));refine jE (K:=K) (a:=p) (xs:=[-1,(d.length:Int),L+(d.length:Int)].map V.int) (λi r y=>∃(z:BL) (E R J:bS V),bT H y l z/\AT C CL CJ d A b is N Q G D y z/\y p=Z (.lst ([-1,(d.length:Int),L+(d.length:Int)].map V.int))/\p∉z.fp/\r=[Z (.ref l.h),Z (.ref N),Z (.ref Q),Z (.ref G),Z (.ref D),Z (.int L),Z (.int (d.length:Int)),Z (.str (au b.ps x)),E,R,J]) ⟨l1,E,R,J,w1.same g2,a1.same g2,hp,a1.ba.fresh np,rfl⟩ (λi r y _ ⟨_,_,_,_,_,_,Oh,_⟩=>aq.of Oh) ?_ ?_
    ·rintro i2 v r H3 Ov ⟨l3,q8,q9,ET,w3,a3,Ei,NR,rfl⟩;obtain⟨k,rfl,ek⟩:=mM Ov;obtain⟨nk,sk⟩:=out k (Yg ek);refine bj ?_;refine⟨_,rfl,_,rfl,_,rfl,l3,b,d,A,au b.ps x,k,by rw[w3.h];rfl,a3.ba,ok,ll x X,ll,sk,λm=>absurd mx m,λm hk pq H4 g4 Oy=>?_,λi hi e hk=>absurd hk nk,λi hi e mk=>absurd (wN.mp mk).1 nk⟩;exact⟨by show 3<=sizeLine;decide,λp2 H5 n5 g5 e5=>⟨_,_,.tup [.str "no section",.bl bg,.bl af],3,rfl,rfl,Ba (g5 _ _ Oy),Ba e5,λHZ gZ=>⟨_,rfl,bV (aZ ⟨l3,_,_,_,w3.same ((g4.trans g5).trans gZ),a3.same ((g4.trans g5).trans gZ),gZ _ _ (g5 _ _ (g4 _ _ Ei)),NR,rfl⟩)⟩⟩⟩
    ·rintro r H3 ⟨l3,q8,q9,ET,w3,a3,_,_,rfl⟩;exact pU _ _ ⟨l3,q8,q9,ET,w3,a3,rfl⟩
   rintro r H2 ⟨l2,p8,p9,Oz,w2,a2,rfl⟩;refine cD ?_;refine⟨_,rfl,_,rfl,_,rfl,G,D,b.ps,d,A,b.F,x,rfl,a2.hf,a2.ht,ok.nm,fg,Z_,(Nat.le_trans A2 (by decide)),wb,X,λrm H3 nrm g3 EU=>?_⟩;have a3:=a2.same g3;have Zlg:=a2.ba.fresh nrm;have told:∀{H:Hp} {p:U},H p=Z (.tup [.str "told",.ay])->At H 3 (.ref p) (.tup [.str "told",.ay]):=λh=>K0 h (by show 2<=1000;decide) (.cons (KZ _) (.cons Zir .nil));refine⟨_,rfl,_,rfl,QO,QO,yW (lo:=0) (n:=(d.length:Int).toNat) (λi r y=>∃(z:BL) (E J:bS V),bT H y l z/\AT C CL CJ d A b is N Q G D y z/\y rm=Z (.lst ((dP b.F d.length x).map V.int))/\rm∉z.fp/\r=[Z (.ref l.h),Z (.ref N),Z (.ref Q),Z (.ref G),Z (.ref D),Z (.int L),Z (.int (d.length:Int)),Z (.str (au b.ps x)),E,Z (.ref rm),J]) ⟨l2,p8,Oz,w2.same g3,a3,EU,Zlg,rfl⟩ ?_ ?_⟩
   ·rintro j r H4 hj4 ⟨l4,q8,ET,w4,a4,MA,MB,rfl⟩;have jn:(0:Int)<=0+(j:Int)/\0+(j:Int)<(d.length:Int):=QO
    refine bj ?_;refine cD ?_;refine⟨_,rfl,_,rfl,_,rfl,l4,b,d,A,au b.ps x,0+(j:Int),by rw[w4.h];rfl,a4.ba,ok,ll x X,ll,su QO,λm=>absurd mx m,λm hk=>absurd jn hk,λi hi e hk nk l5 H5 p H6 W t4 g6 hp=>?_,λi hi e mk l5 H5 t p as f H6 W t4 inr sat fi np g6 hp hl da=>?_⟩
    ·obtain rfl:=nP ok.nm X hi e;obtain⟨Ab,MC⟩:=W.off MA MB;refine⟨_,rfl,_,rfl,rm,_,rfl,.inl (aq.of (g6 _ _ Ab)),rfl,uk _,_,rfl,?_⟩;rw[bC rfl,rS,jb nk];refine c6 ⟨_,rfl,by show 2<=sizeLine;decide,λp2 H7 n7 g7 e7=>⟨_,_,.tup [.str "told",.ay],3,rfl,rfl,told (g7 _ _ hp),told e7,λHZ gZ=>⟨_,rfl,bV (aZ ?_)⟩⟩⟩;have g:=(g6.trans g7).trans gZ;exact⟨l5,_,_,(w4.trans W).same g,(a4.xJ W t4).same g,g _ _ Ab,MC,rfl⟩
    ·obtain rfl:=nP ok.nm X hi e;obtain⟨Ab,MC⟩:=W.off MA MB;have a5:=a4.xJ W t4;have a6:=a5.same g6;refine⟨_,rfl,_,rfl,rm,_,rfl,.inl (aq.of (g6 _ _ Ab)),rfl,uk _,_,rfl,?_⟩;rw[bC rfl,rS,d9 mk];refine bV ?_;have st:=az.of (K:=K) hp;refine⟨_,rfl,t,_,_,_,rfl,rfl,st,QR,rfl,_,rfl,ve rfl ?_⟩;refine⟨_,rfl,t,_,_,_,rfl,rfl,st,QR,_,rfl,_,rfl,_,rfl,p,Q,G,D,as,b.ps,d,A,f,b.F,rfl,hl,da,a6.hn,ok.nm,A2,a6.hf,a6.ht,ok.gd,fg,inr,sat,λH7 g7=>⟨_,rfl,bV (aZ ?_)⟩⟩;refine⟨_,rfl,_,rfl,by show 2<=sizeLine;decide,λu H8 nu g8 hu=>?_⟩;have iK:=g7.trans g8;have hp8:=az.of (K:=K) (iK _ _ hp);refine⟨_,rfl,t,_,_,_,rfl,rfl,hp8,QR,u,p,_,as,(List.range b.ps.length).map λj=>[.str (au b.ps j),.int (f j)],rfl,rfl,hu,rfl,iK _ _ hl,?_,?_⟩;·exact Zja (_L.Paired.bH da λ_ _ e=>iK _ _ e)
     rw[bC rfl,show((List.range b.ps.length).map λj=>([.str (au b.ps j),.int (f j)]:O V)).any (λA=>decide (A=[.str (au b.ps x),.int (0+(j:Int))]))=af from Jg.mpr ⟨_,Yf.mpr ⟨x,Wg.mpr X,rfl⟩,by rw[fi];exact d9 rfl⟩];refine⟨_,rfl,bV (aZ ?_)⟩;have hl8:=iK _ _ hl;refine⟨_,rfl,t,_,_,.ref p,rfl,rfl,hp8,QR,.inl ⟨rfl,_,aq.of hl8⟩,p,_,rfl,rfl,hl8,?_⟩;have g:aj H5 (upd H8 p (.lst (as.map V.ref).reverse)):=λc o e=>(aS (cC e np)).trans (iK _ _ (g6 _ _ e));exact⟨l5,_,_,(w4.trans W).same g,a5.same g,g _ _ Ab,MC,rfl⟩
   ·rintro r H4 ⟨l4,q8,ET,w4,a4,MA,MB,rfl⟩;exact⟨l4,_,_,_,_,w4,a4,rfl⟩
  ·intro r H1 ZH;refine um ZH λl1 o7 E R J w1 a1 B1=>?_;subst B1;exact eR _ _ ⟨l1,w1,a1.ba⟩
 intro r H1 ZH;refine bo ZH λl1 w1 cG=>?_;exact q l1 H1 w1 cG
noncomputable def EV:Key->Dt
 |.inl i=>.int i
 |.inr z=>.str z
def OA(a:bP)(b:O (Nat×Fc)):Dt:=.lst (b.map λp=>.tup ((eF a p.1 p.2).map EV))
def Zjb(H:Hp)(m:Nat)(k:Key):At H m (kV k) (EV k):=by
 cases k<;>(unfold EV At;rfl)
theorem SX(H:Hp)(m:Nat):∀a:O Key,Paired (At H m) (a.map kV) (a.map EV)
 |[]=>.nil
 |k::a=>.cons (Zjb H m k) (SX H m a)
theorem Cg(h:H p=Z (.lst (as.map V.ref)))(b:Paired (dM H a) as fs)(l:fs.length<=1000):At H 3 (.ref p) (OA a fs):=by
 refine⟨p,_,rfl,h,by rwa[Ya],?_⟩;clear h l;induction b with
 |nil=>exact .nil
 |cons e _ c=>
  exact .cons ⟨_,_,rfl,e,by show 4<=1000;decide,SX H 1 _⟩ c
def Vf{fs e:O (Nat×Fc)}(g:e.Perm fs)(d:(e.map (·.1)).Pairwise (·<·))(c:(fs.map (·.1)).Pairwise (·<·)):e=fs:=by
 rw[Ws] at d c;exact D0 (λa b _ _ d c=>QO) d c g
def rowOf(a:bP)(p:Nat×Fc):O V:=[.str p.2.k,.str (au a p.2.one),kV (bJ a p.2)]
def xv(b:BS)(r:O V):cu:=(b.fs.map (rowOf b.ps)).any λa=>decide (a=r)
def Uv(h:kV k=kV k'):k=k':=by
 cases k<;>cases k'<;>cases h<;>rfl
def Qw:xv b [.str k,.str a,kV o]=af↔∃p∈b.fs,p.2.k=k/\au b.ps p.2.one=a/\bJ b.ps p.2=o:=by
 unfold xv;rw[Jg];constructor
 ·rintro⟨r,d,e⟩;obtain⟨p,c,rfl⟩:=Yf.mp d;have e:=fI e;injection e with i e;injection e with h e;injection e with g _;exact⟨p,c,V.str.inj i,V.str.inj h,Uv g⟩
 ·rintro⟨p,c,rfl,rfl,rfl⟩;exact⟨_,Yf.mpr ⟨p,c,rfl⟩,d9 rfl⟩
theorem ZhH{H:Hp}{d:bP}{D:U}{l:O (Nat×Fc)}:∀{c:O V} {h:O Nat} {b:O (Nat×Fc)},Paired (λy i=>∃a p,l[i]?=Z p/\y=.ref a/\a≠D/\H a=Z (.tup (rowOf d p))) c h->h.map (λi=>l[i]?)=b.map Z->∃k:O U,c=k.map V.ref/\Paired (λa j=>H a=Z (.tup j)/\j.all iH=af) k (b.map (rowOf d)):=by
 intro c h b o;induction o generalizing b with
 |nil=>
  intro e;cases b with
  |nil=>exact⟨[],rfl,.nil⟩
  |cons _ _=>cases e
 |cons f _ q=>
  intro e;cases b with
  |nil=>cases e
  |cons g b=>
   refine dE f λa p u t _ x=>?_;injection e with s r;refine bo (q r) λv n m=>?_;refine⟨a::v,by rw[t,n];rfl,.cons ⟨by rwa[←(Yp (u.symm.trans s))],?_⟩ m⟩;unfold rowOf;cases bJ d g.2<;>rfl
def ZhI(a:O α):(List.range a.length).map (λi=>a[i]?)=a.map Z:=ON a _ _ λ_ _ h=>h
def ZhJ(l:cE xs n b)(u:i<b.ps.length)(s:r∈dP b.F xs.length i)(m:xv b [.str bb,.str (au b.ps i),kV (.inl r)]=bg)(d:b.fs.length<63):xu xs n b ⟨bb,i,r,[]⟩:=by
 obtain⟨o,g,G,v⟩:=wN.mp s;refine bo l.lv λJ inr a=>?_;have D:∀c∈b.F,eB xs.length b.ps.length c:=λc k=>by
  obtain⟨p,j,rfl⟩:=Yf.mp (k);exact(l.fg p j).ok
 obtain⟨f,A,y,x⟩:=Gw D inr (λc k=>.inr (a c k)) G v;refine⟨⟨⟨⟨u,absurd rfl⟩,.inl rfl,λ_=>o⟩,λt=>?_,λz=>absurd z (by show ¬cZ bb=af;decide+kernel),⟨f,A,λH q=>?_⟩,d⟩,rfl⟩
 ·obtain⟨p,j,e⟩:=Yf.mp t;have e:keyOf p.2.k (au b.ps p.2.one) (bJ b.ps p.2)=[.inr bb,.inr (au b.ps i),.inl r]:=e.trans (by unfold gu;rw[ji rfl];rfl);by_cases h:p.2.k=bb
  ·have L:=e;rw[ji h] at e;injection e with _ e;injection e with F e;injection e with E _;rw[Qw.mpr ⟨p,j,h,Y9 F,by rw[ji h,J9 E]⟩] at m;cases m
  ·rw[jj h] at e;unfold keyOf at e
   grind
 ·rcases Yv.mp q with h|h;·exact y H h
  ·rw[Yi.mp h];exact⟨λ_=>x,absurd rfl⟩
def Zgl{c:Fc}(h:z∉fs.map (·.1)):dt z (fs++[(z,c)])=fs:=by
 unfold dt;have e:fs.filter (λp=>decide (p.1≠z))=fs:=XX.mpr λp a=>d9 λq=>h (by rw[←q];exact Yf.mpr ⟨p,a,rfl⟩);rw[Wm,e];simp
def ZeS(e:xv b [.str bb,.str (au b.ps i),kV (.inl r)]=bg):mV b.ps b.F bb (au b.ps i) (kV (.inl r))=bg:=by
 refine W6.mpr λh=>?_;unfold mV at h;rw[Jm,Wc] at h;rcases h with h|h
 ·obtain⟨c,g,a⟩:=Jg.mp h;obtain⟨p,j,rfl⟩:=Yf.mp (g);unfold m6 at a;rw[Wc,Jm,Wc,Jm,Wc] at a;obtain⟨m,⟨l,d⟩|⟨k,_⟩⟩:=a
  ·have d:=d.resolve_right QK;rw[Qw.mpr ⟨p,j,fI m,fI l,Uv (fI d)⟩] at e;cases e
  ·exact absurd (fI k) QK
 ·exact absurd (fI h.1) QK
def Zgm(k:cE xs j b)(g:i<b.ps.length)(d:xu xs j b ⟨bb,i,r,[]⟩)(l:xv b [.str bb,.str (au b.ps i),kV (.inl r)]=bg):mW xs.length b ⟨bb,i,r,[]⟩="":=by
 have e:kV (bJ b.ps ⟨bb,i,r,[]⟩)=kV (.inl r):=by rw[ji rfl]
 refine bo d.nf.lv λf inr a=>?_;have o:∀c∈b.F++[⟨bb,i,r,[]⟩],eB xs.length b.ps.length c:=λc n=>by
  rcases Yv.mp n with h|h;·exact(k.wb.1 c h).ok
  ·rw[Yi.mp h];exact d.nf.fg.ok
 have ne:dP (b.F++[⟨bb,i,r,[]⟩]) xs.length i≠[]:=λz=>by
  have m:=wN.mpr ⟨inr i g,Gv o g inr a⟩;rw[z] at m;cases m
 unfold mW;rw[bF (λh=>h.1 rfl),bF (by rw[e,ZeS l];exact Yl),bF (λh=>absurd h.1 (by show ¬cZ bb=af;decide+kernel)),bF ne]
def xu.book(a:xu xs d b c)(g:cE xs d b)(i:b.dn.length<200):cE xs d (b.oj c):=
 g.V7 a.nf.fg (λm=>by
   obtain⟨p,h,e⟩:=Yf.mp m;have:=g.lt p h;omega) a.nf.nk a.nf.np a.nf.lv a.nf.lim (Jt _) (Jf _) (by rw[Yj];show _+1<=200;exact Nat.succ_le_of_lt i) (Yx _)
def AT.Vg(h:AT C CL CJ xs k b is j nl g d H l)(w:bT H c l a):c j=Z (.lst (is.map λi=>.str (au b.ps i)))/\j∉a.fp/\c nl=Z (.lst (fQ b.ps))/\nl∉a.fp/\FL c b.ps g b.F/\g∉a.fp/\fP c d xs k/\d∉a.fp:=by
 refine gb (w.off h.fw h.f1) λv r=>?_;obtain⟨u,q⟩:=w.off h.hn h.n1;refine bo h.hf λs n m=>?_;obtain⟨t,p⟩:=w.off n h.l1;obtain⟨_,_,_,_,o,_⟩:=id h.ht;exact⟨v,r,u,q,⟨s,t,_L.Paired.bH m λ_ _ ⟨z,e⟩=>⟨z,w.cq h.ba e⟩⟩,p,w.fP h.ba h.ht h.t1,(w.off o h.t1).2⟩
theorem Vh(h:H c=Z (.lst (as.map V.ref)))(p:Paired (dM H a) as fs):FL H a c (fs.map (·.2)):=by
 refine⟨as,h,?_⟩;clear h;induction p with
 |nil=>exact .nil
 |cons e _ b=>exact .cons ⟨_,e⟩ b
def CS(K:ah):Sp:=λc H Q _=>∃(a:U) (b:O Int),c=[.ref a]/\aq K H a (b.map V.int)/\b.length<=63/\∀d,Q (.bl af) d
def sgL(i m d e h j g l:U)(n z p o q:Int)(k c b a:bS V):St:=[Z (.ref i),Z (.int n),Z (.ref m),Z (.ref d),Z (.ref e),Z (.int z),Z (.ref h),Z (.ref j),Z (.ref g),Z (.ref l),Z (.int p),Z (.int o),Z (.int q),k,c,b,a]
noncomputable abbrev Du:O ar:=["_law_script"]
def iS:aW ["_law_script","_law_size","_law_mother","_law_wife","_law_turns_here","_law_salt","_law_book","_law_names","_law_sides","_law_facts","_law_after_here","_law_far","_law_begin","_law_section","_law_few","_law_room_here","_law_fact_here"] Du (aL uM):=.bp
theorem Zjc(F:aT K "law" "law" uM f fd)(rF:HasFn P w K B I 1 "_law_cell" D1 (Tn K))(BJ:HasFn P w K B I 2 "_law_row" Me U9)(Hh:HasFn P w K B I 2 "_law_turns" Mj SJ)(nJ:HasFn P w K B I 4 "_law_same" oN (r8 4))(qj:HasFn P w K B I 3 "_law_room" z8 Cw)(Il:HasFn P w K B I 15 "_law_grow" Mw (Us C CL CJ))(wQ:HasFn P w K B I 13 "_law_put" z9 (LH C CL CJ))(uf:HasFn P w K B I 12 "_law_asked" Dr (Ky C CL CJ))(yF:HasFn P w K B I 13 "_law_all_told" Mz (SW C CL CJ))
  (IU:HasFn P w K B I 7 "land_of" C7 (Rb CL))(JU:xm P w K B I 1 "Hearth" C Dh (Sy C CL CJ))(Bf:cI P w K B I 1 "kept" C gI (T9 C CL CJ))(Ge:zC P w K B I 10 "undo" C gI (Ub C CL CJ cL))(bl:Bl B):aI P w K B I (lS P w) 16 f fd Du (CS K):=by
 refine F.xX iS (λvs H Q E h=>?_) (λbR A outer s H vs Q E u h=>?_)
 ·refine iF h λa ns gU _=>?_;subst gU;rfl
 refine dE h λa ns gU hs hlen q=>?_;subst gU;have hu:=u.w_;have Zbs:=Ge;refine⟨_,(ak (cj 0 iS.nd (IY (QQ (K:=K) rfl) (pv 0) JW (JX aP))) (ak (cj 1 iS.nd (bA iQ aP (bA eM (bh rF u (aa (pv 0) (aa aP ag))) aP))) (ak (cj 2 iS.nd (bh BJ u (aa (bh rF u (aa (pv 0) (aa aP ag))) (aa (pv 1) ag)))) (ak (cj 3 iS.nd (bh BJ u (aa (bh rF u (aa (pv 0) (aa aP ag))) (aa (pv 1) ag)))) (ak (cj 4 iS.nd (bh Hh u (aa (pv 2) (aa (pv 3) ag)))) (ak (cj 5 iS.nd (bA eM (bh rF u (aa (pv 0) (aa aP ag))) aP)) (ak (cj 6 iS.nd (Lr JU u (by decide) rfl (aa (bh IU u (aa (pv 2) (aa (pv 3) ag))) ag))) (ak (mN (bh Il u (aa (pv 6) (aa (IY (QQ (K:=K) rfl) (pv 0) (JX aP) JW) (aa (pv 4) (aa (pv 5) ag))))) (iP (K:=K) (n:=4) rfl rfl (bW (qw (i:=7) iS.nd rfl (wh rfl)) (bW (bI 8 iS.nd) (bW (bI 9 iS.nd) (bW (bI 10 iS.nd) iN)))))) (ak (cj 11 iS.nd (bA eM (bh rF u (aa (pv 0) (aa aP ag))) (bA KD aP aP))) (ak (iC (i:=12) iS.nd rfl (wh rfl) (bA eM (bh rF u (aa (pv 0) (aa aP ag))) aP)) (ak (fS VH rfl (fD (K:=K) rfl (dU (aa (zI zp aP) (aa aP (aa (pv 1) (aa (bA iQ (pv 11) (pv 1)) ag)))))) (bI 13 iS.nd) (av (aX (gn (d5 (bh nJ u (aa (bh uf u (aa (pv 6) (aa bB (aa (pv 13) ag)))) (aa (du (aa bB (aa d7 (aa d7 ag)))) ag))))) (av (aK d7)) a_))) (ak (Zc_ (i:=14) (x:="_law_k") (fr:=[("_law_names",7),("_law_begin",12)]) (cl:=[("_law_names",s.heap.objs.size+1),("_law_begin",s.heap.objs.size+1+1)]) rfl iS.nd rfl (Or.inl rfl) (.ia ⟨rfl,⟨rfl,trivial⟩⟩ ⟨⟨rfl,.inl rfl,.inl rfl,rfl⟩,⟨⟨rfl,.inl rfl,.inl rfl,rfl⟩,trivial⟩⟩) (nK rfl bl.jk (aa (iu (Zd9 rfl) rfl bl.UR Tj (aa aP (aa (dv K bl (pv 7)) ag))) ag)) (λ_ _ _ _=>lH) (λ_ _ _ _=>(bc (iL K) (pv 1) (bA eM (bA iQ (pv 2) (pv 0)) (dv K bl (pv 1)))))) (ak (aX (PW.pt (pw_or (gn (d5 (bh yF u (aa (pv 6) (aa (pv 14) (aa (pv 7) (aa (pv 9) (aa (pv 4) (aa (pv 11) ag))))))))) (pw_or1 (gn (d5 (bh nJ u (aa (qA Bf u (by decide) (pv 6)) (aa (pv 9) ag)))))))) (av (aK d7)) a_) (ak (aX (bO (Kh (K:=K) rfl (TC hu)) (pv 7) (dU ag)) (av (aK d7)) a_) (ak (cj 15 iS.nd (bh qj u (aa (pv 9) (aa (pv 4) (aa (bc (iL K) (pv 14) (zI zp aP)) ag))))) (ak (cj 16 iS.nd (du (aa bB (aa (bc (iL K) (pv 14) (zI zp aP)) (aa (bc (iL K) (pv 15) (bA eM (pv 12) (dv K bl (pv 15)))) ag))))) (ak (aX (gm (ZiU (bL u)) (pv 16) (jG (x:="_law_row_here") (fr:=[]) (cl:=[]) rfl (.ia trivial trivial) (fD (K:=K) rfl (pv 9)) (λ_ _ _ _=>lH) (λ_ _ _ _=>(IY (Zg6 (K:=K) rfl) (pv 0) (JX aP) JW))) (by with_unfolding_all rfl)) (av (aK d7)) a_) (ak (cz (bh wQ u (aa (pv 6) (aa (pv 16) ag)))) (ak (aX (gn (d5 (bh yF u (aa (pv 6) (aa (pv 14) (aa (pv 7) (aa (bA zh (pv 9) (dU (aa (bA RS (du (aa (pv 10) ag)) (pv 16)) ag))) (aa (pv 4) (aa (pv 11) ag))))))))) (av (aK d7)) a_) (ak (cz (ZgX Zbs u (by decide) qE (pv 6))) (av (aK (qy (bh yF u (aa (pv 6) (aa (pv 14) (aa (pv 7) (aa (pv 9) (aa (pv 4) (aa (pv 11) ag))))))) (nU (bh nJ u (aa (qA Bf u (by decide) (pv 6)) (aa (pv 9) ag))))))))))))))))))))))))))),?_⟩;refine C1 ?_;intros;have sz:(10000:Nat)<=sizeLine:=by rw[wa];decide
 obtain⟨ms,em⟩:=QE ns aJ (Z 63);have lms:ms.length<=ns.length:=by
  have:=GD (ns.map V.int) aJ (Z 63);rw[em,Ya,Ya] at this;exact this
 obtain⟨cs,ec⟩:=QE ms (Z 4) aJ;have lcs:cs.length<=59:=by
  have:=Zgi (xs:=ms.map V.int) (by rw[Ya];exact Nat.le_trans lms hlen);rw[ec,Ya] at this;exact this
 refine cD ?_;refine⟨_,rfl,_,rfl,a,_,rfl,hs,λX H0 n1 g0 tY=>?_⟩;rw[em] at tY;refine cD ?_;refine⟨_,rfl,X,ms,0,rfl,aq.of tY,Int.le_refl 0,λc0=>⟨_,_,rfl,rfl,(by show(0:Int)<7;decide),_,_,rfl,rfl,?_⟩⟩;try dsimp only
 have m0:=W9 c0 (show(7:Int)≠0 by decide);have m1:=Wv c0 (show(0:Int)<7 by decide);obtain⟨n,en⟩:∃n:Nat,2+c0 % 7=(n:Int):=⟨(2+c0 % 7).toNat,by omega⟩;rw[en];have n2:2<=n:=by omega
 have n8:n<=8:=by omega
 refine cD ?_;refine⟨_,rfl,X,ms,1,rfl,aq.of tY,by decide,λc1=>⟨_,rfl,c1,n,rfl,Nat.lt_of_lt_of_le (Nat.succ_pos _) n2,Nat.le_trans n8 (by decide),λm c H1 nm g1 hM px=>?_⟩⟩;refine cD ?_;refine⟨_,rfl,X,ms,2,rfl,aq.of (g1 _ _ tY),by decide,λc2=>⟨_,rfl,c2,n,rfl,Nat.lt_of_lt_of_le (Nat.succ_pos _) n2,Nat.le_trans n8 (by decide),λwi ys H2 nw g2 hW py=>?_⟩⟩;have lx:c.length=n:=by rw[px.length_eq,fR]
 have ly:ys.length=n:=by rw[py.length_eq,fR]
 have gd:oi c ys:=⟨ur px,ur py,by omega,by omega,Nat.le_trans (Nat.le_of_eq lx) n8⟩;refine cD ?_;refine⟨_,rfl,_,rfl,m,wi,c,ys,rfl,g2 _ _ hM,hW,gd,λR H3 ntd g3 ht=>?_⟩;have kZ:=(g1.trans g2).trans g3;refine cD ?_;refine⟨_,rfl,X,ms,3,rfl,aq.of (kZ _ _ tY),by decide,λc3=>⟨_,_,rfl,rfl,(by show(0:Int)<97;decide),?_⟩⟩;try dsimp only
 have z0:=W9 c3 (show(97:Int)≠0 by decide);have z1:=Wv c3 (show(0:Int)<97 by decide);obtain⟨z,ez⟩:∃z:Nat,c3 % 97=(z:Int):=⟨(c3 % 97).toNat,Eq.symm (Int.toNat_of_nonneg z0)⟩;rw[ez];have hz:z<97:=by omega
 refine cD ?_;refine⟨_,rfl,_,rfl,m,wi,c,ys,rfl,g3 _ _ (g2 _ _ hM),g3 _ _ hW,gd.1,gd.2.1,gd.2.2.1,gd.2.2.2.1,gd.2.2.2.2,λLd H4 g4 la=>λx dx nx AG nd=>?_⟩;have AH:upd H4 dx (.own x) x=aJ:=by rw[aS (λz=>nd z.symm)];exact nx
 obtain⟨H5,e5⟩:∃H5,H5=upd (upd H4 dx (.own x)) x (.ins C dx []):=⟨_,rfl⟩;have g5:aj H4 H5:=by rw[e5];exact(cF AG _).trans (cF AH _)
 have hx5:H5 x=Z (.ins C dx []):=by rw[e5];exact a9
 rw[←e5];refine⟨x,dx,Ld,c,ys,rfl,hx5,la.same g5,λl H6 eh Et b6 ba=>⟨rfl,?_⟩⟩;subst eh;have keep:∀{a:U} {o:HO},H4 a=Z o->H6 a=Z o/\a∉l.fp:=λ{a o} e=>by
  have na:a≠l.h:=cC e nx;refine⟨b6 _ _ (g5 _ _ e) na,λz=>?_⟩;have:=Et a z na;rw[g5 _ _ e] at this;cases this
 have OB:=g4 _ _ (kZ _ _ tY);have ht4:=ht.same g4;obtain⟨tm,tf,tw,ts,dZ,q1,q2,q3,q4⟩:=ht4;have ht6:fP H6 R c ys:=⟨tm,tf,tw,ts,(keep dZ).1,(keep q1).1,(keep q2).1,(keep q3).1,(keep q4).1⟩;refine⟨_,rfl,_,rfl,_,rfl,X,_,rfl,aq.of (keep OB).1,λca H7 nca g7 hca=>⟨_,rfl,_,rfl,c,ys,z,ca,R,l,⟨[],[],0,[],[]⟩,cs,rfl,ba.same g7,rfl,gd,by rw[hca,ec],ba.fresh nca,ht6.same g7,(keep dZ).2,hz,lcs,λl2 b L sd W st H8 wt J=>?_⟩⟩;refine⟨st,_,rfl,az.of J.tup,rfl,_,_,rfl,bj ⟨_,_,rfl,bj ⟨_,_,rfl,bj ⟨_,_,rfl,bj ⟨rfl,?_⟩⟩⟩⟩⟩;(try dsimp only);have eh:=wt.h;have A2:=J.ok.m;have ok:=J.ok;obtain⟨hs8,ns8⟩:=wt.off (g7 _ _ (keep OB).1) (keep OB).2;refine cD ?_;refine⟨_,rfl,X,ms,5,rfl,aq.of hs8,by decide,λc5=>⟨_,_,rfl,rfl,by unfold Vy;decide,_,_,rfl,rfl,by show(0:Int)<10^(50:Int).toNat;decide,?_⟩⟩;(try dsimp only);obtain⟨dI,Dv⟩:∃dI:Int,dI=c5 % ((10:Int)^(50:Int).toNat):=⟨_,rfl⟩;rw[←Dv];have f0:0<=dI:=by rw[Dv];exact W9 _ (by decide)
 have fz:dI<10^50:=by rw[Dv];exact Wv _ (by decide)
 clear Dv;refine cD ?_;refine⟨_,rfl,X,ms,4,rfl,aq.of hs8,by decide,λc4=>⟨_,_,rfl,rfl,by show(0:Int)<61;decide,?_⟩⟩;(try dsimp only);obtain⟨G,ebg⟩:∃G:Nat,c4 % 61=(G:Int):=⟨(c4 % 61).toNat,by omega⟩;rw[ebg];have OC:(Str.ofString "stranger")∉b.ps.map (·.1):=λh=>by
  rw[J.nm] at h;obtain⟨k,hk,e⟩:=Yf.mp h;have:=Wg.mp hk;have:=J.cp;exact Zgk z k (by omega) e
 have ll:∀j,j<b.ps.length->(au b.ps j).length<=1000:=λj hj=>J.len (by decide) hj;have Ba:∀{H:Hp} {p:U},H p=Z (.tup [.str "no person",.bl af,.bl bg])->At H 3 (.ref p) (.tup [.str "no person",.bl af,.bl bg]):=λh=>K0 h (by show 3<=1000;decide) (.cons (KZ _) (.cons (CH _) (.cons (CH _) .nil)));refine hU (λσ H'=>∃jg,aj H8 H'/\σ=sgL X m wi R l.h L sd W n z b.co dI G jg aJ aJ aJ) (λl9 eR=>?_) ?_
 ·refine⟨_,rfl,_,rfl,_,rfl,_,rfl,_,_,rfl,rfl,by show 4<=sizeLine;decide,λp H9 np g9 hp=>⟨p,rfl,⟨_,aq.of hp⟩,?_⟩⟩;have out:∀k:Int,k∈[-1,0,(n:Int),dI+(n:Int)]->k.natAbs.log2<1920:=λk mk=>by
   have fz':dI<100000000000000000000000000000000000000000000000000:=fz;have tZ:(10:Nat)^50+100=100000000000000000000000000000000000000000000000100:=by decide
   rcases Ym.mp mk with rfl|mk;·exact su (by rw[tZ];decide)
   ·rcases Ym.mp mk with rfl|mk;·exact su (by rw[tZ];decide)
    ·rcases Ym.mp mk with rfl|mk;·exact su (by rw[tZ];omega)
     ·rw[Yi.mp mk];exact su (by rw[tZ];omega)
  refine jE (K:=K) (a:=p) (xs:=[-1,0,(n:Int),dI+(n:Int)].map V.int) (λi σ H'=>∃jg,aj H9 H'/\σ=sgL X m wi R l.h L sd W n z b.co dI G jg aJ aJ aJ) ⟨aJ,aj.refl _,rfl⟩ (λi σ H' _ ⟨_,g,_⟩=>aq.of (g _ _ hp)) ?_ ?_
  ·rintro i v σ HA hj ⟨jg,gA,rfl⟩;obtain⟨k,rfl,ek⟩:=mM hj;refine bj ?_;refine⟨_,rfl,_,rfl,l2,b,c,ys,"stranger",k,by rw[eh];rfl,J.ba.same (g9.trans gA),ok,by decide+kernel,ll,out k (Yg ek),λ_ pq HB gB Oy=>?_,λmm=>absurd mm OC,λi T e=>absurd (by rw[e];exact rV T) OC,λi T e=>absurd (by rw[e];exact rV T) OC⟩;exact⟨by show 3<=sizeLine;decide,λp2 HC nC gC eC=>⟨_,_,.tup [.str "no person",.bl af,.bl bg],3,rfl,rfl,Ba (gC _ _ Oy),Ba eC,λHZ gZ=>⟨_,rfl,bV (aZ ⟨_,((gA.trans gB).trans gC).trans gZ,rfl⟩)⟩⟩⟩
  ·rintro σ HA ⟨jg,gA,rfl⟩;exact eR _ _ ⟨jg,g9.trans gA,rfl⟩
 rintro σ H9 ⟨jg,g9,rfl⟩;have s9:=J.same g9;refine cD ?_;obtain⟨cnt,MD⟩:∃cnt:Nat,(if((fQ b.ps).length:Int)<4 then((fQ b.ps).length:Int) else 4)=(cnt:Int):=⟨(if((fQ b.ps).length:Int)<4 then((fQ b.ps).length:Int) else 4).toNat,by split<;>omega⟩;have c4:cnt<=4/\(0<cnt->0<b.ps.length)/\(0<b.ps.length->0<cnt):=by
  rw[nQ] at MD;split at MD<;>omega
 refine⟨_,rfl,L,_,rfl,.inl (aq.of s9.names),_,_,rfl,?_⟩;rw[MD];refine⟨_,rfl,by omega,by omega,λD hD=>Zcq (by omega) hD (λi=>.str (au b.ps ((G+i) % b.ps.length))) (λi T H1 g1 Kt kt=>?_) λHA gA EW=>?_⟩
 ·have p0:=c4.2.1 (by omega);have e:((G:Int)+(0+(i:Int))) % ((fQ b.ps).length:Int)=(((G+i) % b.ps.length:Nat):Int):=by
   rw[nQ,AE]
   norm_cast
  have nmH:=aq.of (K:=K) (g1 _ _ s9.names);refine⟨_,rfl,_,rfl,_,rfl,_,_,rfl,rfl,_,rfl,L,_,rfl,.inl nmH,_,_,rfl,rfl,by rw[nQ];omega,L,_,_,_,rfl,rfl,nmH,?_,kt _ (aj.refl _)⟩;rw[e];exact iz (Cf (vX _ p0))
 rw[show((cnt:Int)).toNat=cnt from rfl] at EW;obtain⟨N,EX⟩:∃N:O Nat,N=(List.range cnt).map λi=>(G+i) % b.ps.length:=⟨_,rfl⟩;have EW:HA D=Z (.lst (N.map λi=>.str (au b.ps i))):=by rw[EW,EX,Y6];rfl
 have xZ:∀i∈N,i<b.ps.length:=λi T=>by
  rw[EX] at T;obtain⟨j,hj,rfl⟩:=Yf.mp T;exact vX _ (c4.2.1 (by have:=Wg.mp hj;exact Nat.pos_of_ne_zero (Nat.ne_zero_of_lt this)))
 have isl:N.length=cnt:=by rw[EX,Ya,Wu]
 have sA:=s9.same gA;have aA:AT C CL CJ c ys b N D L W R HA l2:=⟨sA.ba,EW,s9.ba.fresh hD,sA.names,sA.n1,sA.FL,sA.n3,sA.turns,sA.n4⟩;refine⟨_,rfl,_,rfl,_,rfl,_,rfl,_,rfl,_,rfl,l2,b,c,ys,N,D,L,W,R,dI,by rw[eh];rfl,aA,ok,ll,xZ,by omega,f0,fz,λl3 HB w3 fO=>⟨_,rfl,bV ?_⟩⟩;have sB:=sA.xJ w3 fO;have aB:=aA.xJ w3 fO;have e3:l3.h=l.h:=w3.h.trans eh;obtain⟨dxB,hoB⟩:=fO.obj;rw[e3] at hoB;have Dw:b.fs.length<=1000:=Yy ok.fl (by decide);refine⟨_,rfl,l.h,dxB,_,rfl,hoB,rfl,l3,b,c,ys,by rw[e3];rfl,fO,ok.zs,ok.fl,λp rf dQ HC npC gC pm so hk pk=>?_⟩;have ef:=Vf pm so J.so;rw[ef] at pk;obtain⟨cB,nE,eA⟩:=sB.facts;refine⟨_,rfl,_,_,OA b.ps b.fs,3,rfl,rfl,Cg hk pk Dw,Cg (gC _ _ nE) (_L.Paired.bH eA λ_ _ e=>gC _ _ e) Dw,λHD gD=>⟨_,rfl,bV (aZ ?_)⟩⟩;have gBD:=gC.trans gD;refine⟨_,rfl,by show 0<=sizeLine;decide,λe0 HE yr gE vP=>⟨L,e0,_,rfl,rfl,aq.of (gE _ _ (gBD _ _ sB.names)),aq.of vP,_,rfl,bY (λ_=>q HE) (λce=>aZ ?_)⟩⟩;have p0:0<b.ps.length:=by
  cases e:b.ps with
  |nil=>unfold fQ at ce;rw[e] at ce;exact absurd rfl ce
  |cons _ _=>exact Oi _
 have OD:=gBD.trans gE;have sE:=sB.same OD;have aE:=aB.same OD;obtain⟨cc,ecc⟩:∃cc,cnt=cc+1:=⟨cnt-1,by have:=c4.2.2 p0;omega⟩;obtain⟨x,ex⟩:∃x,x=(G+cc) % b.ps.length:=⟨_,rfl⟩;have hx:x<b.ps.length:=by rw[ex];exact vX _ p0
 have Vi:dY (N.map λi=>V.str (au b.ps i)) (-1)=Z (.str (au b.ps x)):=by
  rw[EX,ecc,Jv,Yn,Yn,Y6];show dY (_++[V.str (au b.ps ((G+cc) % b.ps.length))]) (-1)=_;rw[Ze4,ex]
 obtain⟨fg,wb⟩:=ok.wb;refine cD ?_;refine⟨_,rfl,_,rfl,_,rfl,_,rfl,D,_,_,_,rfl,rfl,aq.of aE.fw,Vi,W,R,b.ps,c,ys,b.F,x,rfl,aE.hf,aE.ht,ok.nm,fg,gd.2.2.2.2,Nat.le_trans A2 (by decide),wb,hx,λrm HF nrm gF EU=>?_⟩;have aF:=aE.same gF;obtain⟨r0,rs0,er0⟩:=ZdR ok hx;have rl:0<(dP b.F c.length x).length:=by rw[er0];exact Oi _
 obtain⟨r,er⟩:∃r,(dP b.F c.length x)[G % (dP b.F c.length x).length]?=Z r:=⟨_,Yb (vX _ rl)⟩;have mr:=Yg er;have Zlh:(G:Int) % (((dP b.F c.length x).map V.int).length:Int)=((G % (dP b.F c.length x).length:Nat):Int):=by
  rw[Ya]
  norm_cast
 have eat:dY ((dP b.F c.length x).map V.int) ((G:Int) % (((dP b.F c.length x).map V.int).length:Int))=Z (.int r):=by
  rw[Zlh];exact iz (by rw[Ye,er];rfl)
 refine cD ?_;refine⟨_,rfl,_,rfl,D,_,_,_,rfl,rfl,aq.of aF.fw,Vi,_,rfl,_,rfl,_,rfl,rm,_,rfl,.inl (aq.of EU),_,_,rfl,rfl,by rw[Ya];omega,rm,_,_,_,rfl,rfl,aq.of EU,eat,by show 3<=sizeLine;decide,λt HG nt gG ht=>?_⟩;have gBG:=(OD.trans gF).trans gG;have ME:=gBG _ _ nE;have WQ:=_L.Paired.bH eA λ_ _ e=>gBG _ _ e;have fal:=c7 eA;refine⟨_,rfl,_,rfl,W,rfl,⟨_,aq.of ME⟩,λD2 hD2=>?_⟩;refine yS (K:=K) (aq.of ME) (by rw[Ya];omega) hD2 (λ_=>af) (λi y H2=>∃a p,b.fs[i]?=Z p/\y=.ref a/\a≠D2/\H2 a=Z (.tup (rowOf b.ps p))) (λi y H1 H2 br ⟨a,p,e1,e2,e3,e4⟩=>⟨a,p,e1,e2,e3,br _ _ e4 e3⟩) (λi v T H2 g2 ⟨yz,hDD⟩ Kt Kf kt kf=>kL (c6 ?_)) λus HH gH hH pr=>?_
 ·rw[Ye] at T;obtain⟨a,ea,rfl⟩:=Jd.mp T;obtain⟨p,epp,hp⟩:=gf WQ ea;refine⟨_,rfl,_,rfl,a,_,rfl,az.of (g2 _ _ hp),λh=>absurd (show HT.cK 4 0 (Z 1)=0 from h.1) (by decide),λp2 q_=>kt _ _ rfl (cF q_ _) ⟨p2,p,epp,rfl,(λw=>by rw[w,hDD] at q_;cases q_),a9⟩⟩
 rw[yR,Ya,fal] at pr;obtain⟨ra,rfl,prr⟩:=ZhH pr (ZhI b.fs);refine⟨t,D2,_,ra,_,rfl,rfl,gH _ _ ht,rfl,hH,prr,_,rfl,bY (λ_=>q HH) (λcr=>aZ ?_)⟩;have nr:xv b [.str bb,.str (au b.ps x),kV (.inl r)]=bg:=W6.mpr cr;have cf:=J.cf;have cd:=J.cd;have so:=ZhJ ok hx mr nr (by omega);have aH:=(aF.same gG).same gH;have hfH:=gH _ _ ME;have Zli:=_L.Paired.bH WQ λ_ _ e=>gH _ _ e;have htH:=gH _ _ ht;have hfp:=aE.f1;refine⟨_,rfl,_,rfl,l3,b,c,ys,⟨bb,x,r,[]⟩,t,by rw[e3];rfl,aH.ba,ok,by rw[ji rfl];exact htH,so.nf.fg,by omega,Zgm ok hx so nr,Nat.lt_of_le_of_lt cd (by decide),λl4 HI w4 pT=>?_⟩;have e4:l4.h=l.h:=w4.h.trans e3;have okW:=so.book ok (Nat.lt_of_le_of_lt cd (by decide));obtain⟨fwI,fwn,nlI,Eu,FLI,ZC,tdI,tdn⟩:=aH.Vg w4;have htI:=w4.cq aH.ba htH;obtain⟨WR,Zlj⟩:=w4.off hfH aH.l1;have Zlk:=rK w4 aH.ba Zli;refine⟨_,rfl,_,rfl,_,rfl,_,rfl,_,rfl,by show 1<=sizeLine;decide,λt1 HJ nt1 gJ A3=>⟨_,rfl,t1,t,_,_,rfl,rfl,az.of A3,az.of (gJ _ _ htI),by simp,by show 1+3<=sizeLine;decide,λe=>(by cases e),λ_ t2 EN=>?_⟩⟩;obtain⟨HK,eK⟩:∃HK,HK=upd HJ t2 (.tup ([.int (b.co:Int)]++[.str "said",.str (au b.ps x),.int r])):=⟨_,rfl⟩;rw[←eK];have gK:aj HJ HK:=by rw[eK];exact cF EN _
 have v9:HK t2=Z (.tup [.int (b.co:Int),.str "said",.str (au b.ps x),.int r]):=by rw[eK];exact a9
 clear eK;have gIK:=gJ.trans gK;refine⟨by show 1<=sizeLine;decide,λr1 HL nr1 gL hr1=>⟨W,r1,_,_,rfl,rfl,gL _ _ (gIK _ _ WR),hr1,by rw[Ya];show _+1<=_;omega,λro HM nro gM hro=>?_⟩⟩;have gIL:=gIK.trans gL;have yx:=gIL.trans gM;have baM:=pT.same yx;have WS:=_L.Paired.bH Zlk λ_ _ e=>yx _ _ e;have FLM:FL HM b.ps ro (b.oj ⟨bb,x,r,[]⟩).F:=Vh (as:=cB++[t2]) (fs:=b.fs++[(b.co,⟨bb,x,r,[]⟩)]) (by rw[hro,Yn];rfl) (jh (F:=dM HM b.ps) (by unfold dM eF;rw[ji rfl];exact gM _ _ (gL _ _ v9)) WS);have aM:AT C CL CJ c ys (b.oj ⟨bb,x,r,[]⟩) N D L ro R HM l4:=⟨baM,yx _ _ fwI,fwn,yx _ _ nlI,Eu,FLM,(pT.same gIL).fresh nro,tdI.same yx,tdn⟩;refine⟨_,rfl,_,rfl,l4,b.oj ⟨bb,x,r,[]⟩,c,ys,N,D,L,ro,R,dI,by rw[e4];rfl,aM,okW,ll,xZ,by omega,f0,fz,λl5 HN w5 t4=>⟨_,rfl,bV (aZ ?_)⟩⟩;have e5:l5.h=l.h:=w5.h.trans e4;have aN:=aM.xJ w5 t4;obtain⟨Zll,Zlm⟩:=w5.off (yx _ _ WR) Zlj;have Zln:=rK w5 baM WS;obtain⟨dxN,hoN⟩:=t4.obj;rw[e5] at hoN;have nz:b.co∉b.fs.map (·.1):=λm=>by
  obtain⟨p,hp,e⟩:=Yf.mp m;have:=ok.lt p hp;omega
 refine⟨_,rfl,l.h,dxN,_,rfl,hoN,rfl,l5,b.oj ⟨bb,x,r,[]⟩,c,ys,by rw[e5];rfl,t4,okW,by show 0<200;decide,λdn d ed=>?_,λe=>absurd e (by show b.dn++[_]≠[];simp)⟩;obtain⟨NP,NQ⟩:=List.append_inj' (show b.dn++[⟨1,eF b.ps b.co ⟨bb,x,r,[]⟩,b.co,b.co+1⟩]=dn++[d] from ed) rfl;obtain rfl:=NP;obtain rfl:=(List.cons.inj NQ).1;refine⟨_,λH' rr u=>Move.u9 b.co ⟨bb,x,r,[]⟩ u (Yr _ (Yi.mpr rfl)),λl6 HO w6 lD=>?_⟩;have e6:l6.h=l.h:=w6.h.trans e5;obtain⟨b2,Bb⟩:∃b2:BS,b2={b with un:=[⟨1,eF b.ps b.co ⟨bb,x,r,[]⟩,b.co,b.co+1⟩]}:=⟨_,rfl⟩;have lD:bu HO C CL CJ l6 c ys b2:=by
  have e:dt b.co (b.fs++[(b.co,(⟨bb,x,r,[]⟩:Fc))])=b.fs:=Zgl nz;rw[Bb];have:=lD;unfold BS.oj at this;(try dsimp only at this);rw[e] at this;exact this
 have k9:b2.ps=b.ps:=by rw[Bb]
 have ef2:b2.fs=b.fs:=by rw[Bb]
 have OE:cE c ys b2:=by
  rw[Bb];exact⟨ok.gd,ok.nm,ok.m,ok.fl,ok.fg,ok.zs,ok.lt,ok.ky,ok.pr,ok.lv,ok.dl,by show 1<=200;decide⟩
 clear Bb;obtain⟨fwO,Zlo,nlO,Zlp,_,_,tdO,Zlq⟩:=aN.Vg w6;obtain⟨WT,WU⟩:=w6.off Zll Zlm;have WV:=rK w6 t4 Zln;have aO:AT C CL CJ c ys b2 N D L W R HO l6:=⟨lD,by rw[k9];exact fwO,Zlo,by rw[k9];exact nlO,Zlp,by show FL HO b2.ps W (b2.fs.map (·.2));rw[k9,ef2];exact Vh WT WV,WU,tdO,Zlq⟩;refine⟨_,rfl,_,rfl,_,rfl,_,rfl,_,rfl,_,rfl,l6,b2,c,ys,N,D,L,W,R,dI,by rw[e6];rfl,aO,OE,by rw[k9];exact ll,by rw[k9];exact xZ,by omega,f0,fz,λl7 HP w7 A9=>⟨af,rfl,c6 ?_⟩⟩;have e7:l7.h=l.h:=w7.h.trans e6;obtain⟨dxP,hoP⟩:=A9.obj;rw[e7] at hoP;obtain⟨Zlr,_⟩:=w7.off WT WU;have Zls:=rK w7 lD WV;refine⟨_,rfl,l.h,dxP,_,rfl,hoP,rfl,l7,b2,c,ys,by rw[e7];rfl,A9,OE.zs,OE.fl,λp as3 fs3 HQ npQ gQ pm3 so3 hk3 OF=>?_⟩;rw[k9] at OF;rw[ef2] at pm3;rw[Vf pm3 so3 J.so] at OF;exact⟨_,rfl,_,_,OA b.ps b.fs,3,rfl,rfl,Cg hk3 OF Dw,Cg (gQ _ _ Zlr) (_L.Paired.bH Zls λ_ _ e=>gQ _ _ e) Dw,λHZ _=>q HZ⟩
def all_mk{l:PySem.W.OpenLaw}{w:dg}{K:ah}{h:c8}{B:a8}{fa:U}(X:K.In h)(G:h.Ns mainGlobals B)(dO:B "law"=Z (.ref fa))
  (p1:cy K "is_turn" IC f1)
  (p2:cy K "still" Kj f2)
  (p3:cy K "behind" JD f3)
  (p4:cy K "back" K5 f4)
  (p5:cy K "check_turn" Gi f5)
  (p6:cy K "check_rows" Gj f6)
  (p7:cy K "check_parents" Fq f7)
  (p8:cy K "land_of" ID f8)
  (p9:cy K "followed" Hm f9)
  (Oz:cy K "turned_back" F1 MZ)
  (p11:cy K "lines_up" Hn f11)
  (p12:cy K "is_tie" JE f12)
  (p13:cy K "tie_turn" Ho f13)
  (p14:cy K "fact_key" Hq f14)
  (p15:cy K "keep_fact" GI f15)
  (p16:cy K "fact_fits" GJ f16)
  (p17:cy K "is_name" IE f17)
  (p18:cy K "check_person" FH f18)
  (p19:cy K "check_tie" GK f19)
  (p20:cy K "sides_fit" GL f20)
  (p21:cy K "told_already" FI f21)
  (p22:cy K "check_elders" FJ f22)
  (p23:cy K "check_saying" FK f23)
  (r:cy K "check_section" Bc f24)
  (p25:cy K "is_person" GN f25)
  (p26:cy K "open_of" IF f26)
  (p27:cy K "dealing" IG f27)
  (p28:cy K "_law_cell" Po f28)
  (p29:cy K "_law_draws" O0 f29)
  (p30:cy K "_law_turn" Pp f30)
  (p31:cy K "_law_row" IH f31)
  (p32:cy K "_law_inverse" F2 f32)
  (p33:cy K "_law_after" GO f33)
  (p34:cy K "_law_turns" GP f34)
  (p35:cy K "_law_same" Br f35)
  (p36:cy K "_law_nets" Hs f36)
  (p37:cy K "_law_carried" F3 f37)
  (p38:cy K "_law_room" Hu f38)
  (p39:cy K "_law_name" Hv f39)
  (p40:cy K "_law_up" JG f40)
  (p41:cy K "_law_told" Hw f41)
  (p42:cy K "_law_sided" GQ f42)
  (p43:cy K "_law_word" Hx f43)
  (p44:cy K "_law_pick" Hy f44)
  (p45:cy K "_law_fact" Hz f45)
  (p46:cy K "_law_put" II f46)
  (p47:cy K "_law_step" HR f47)
  (p48:cy K "_law_grow" HS f48)
  (p49:cy K "_law_asked" GR f49)
  (p50:cy K "_law_holds" GS f50)
  (p51:cy K "_law_all_told" FN f51)
  (p52:cy K "law" uM f52)
  (z:sT K ["len","abs","list","range","tuple","any","all","isinstance","bool","int","str","sorted","min","max","sum","dict","reversed","ValueError"])
  (Zbt:nsIn K mainGlobals "LEAST_SIZE"=Z (Z (.int (2) ZlO)))
  (Zb7:nsIn K mainGlobals "MOST_SIZE"=Z (Z (.int (8) ZlV)))
  (ZaQ:nsIn K mainGlobals "LONGEST_NAME"=Z (Z (.int (12) ZlE)))
  (ZeT:nsIn K mainGlobals "PUT_IN"=Z (Z (.int (1) Zmi)))
  (Zb8:nsIn K mainGlobals "TAKEN_OUT"=Z (Z (.int (-1) ZlW)))
  (Za7:nsIn K mainGlobals "TIE_LETTERS"=Z (Z (.ref oQ)))
  (OK:PyProof.Rows.KTD.tabLook PyProof.Rows.KTD.flatLooks (λb=>K.lookup b) oQ [("mother",PyData.str "m"),("father",PyData.str "f"),("wed",PyData.str "w"),("sibling",PyData.str "s")]=af)
  (ZdX:nsIn K mainGlobals "PARENTS"=Z (Z (.ref eI)))
  (ZdY:K.lookup eI=Z ⟨.type "tuple",Zmd,.seq #[.str "mother" ZlX,.str "father" ZlY] Zme,Zmf⟩)
  (Zjd:nsIn K mainGlobals "MAN"=Z (Z (.str "man" Zmq)))
  (Zgn:nsIn K mainGlobals "WOMAN"=Z (Z (.str "woman" Zml)))
  (Zah:nsIn K mainGlobals "LETTERS_OF_NAMES"=Z (Z (.str "abcdefghijklmnopqrstuvwxyz" Zlu)))
  (Zas:nsIn K mainGlobals "SIGNS_OF_NAMES"=Z (Z (.str "abcdefghijklmnopqrstuvwxyz0123456789" Zly)))
  (ZhK:nsIn K mainGlobals "SAID"=Z (Z (.str "said" Zmm)))
  (ZdZ:nsIn K mainGlobals "SIBLING"=Z (Z (.str "sibling" Zmg)))
  (ZcQ:vJ K "KinError" "KinError.__init__" [] Fx p ZcR)
  (W:zJ K p "__init__" ZcR)
  (ZcS:vJ K "NoPerson" "NoPerson.__init__" [p] Fy iM Zl6)
  (Zb9:vJ K "NoSection" "NoSection.__init__" [p] Fm gc ZlZ)
  (Za8:vJ K "NothingLeft" "NothingLeft.__init__" [p] E9 Zbu ZlK)
  (Zje:AB K "Land" c)
  (o:uN K c)
  (ZcT:dk K c "__init__" "Land.__init__" GU Zl7)
  (ZcU:dk K c "step" "Land.step" GV Zl8)
  (ZhL:AB K "Joins" a)
  (n:nX K a)
  (Zb_:dk K a "__init__" "Joins.__init__" Gk Zl0)
  (ZcV:dk K a "add" "Joins.add" GW Zl9)
  (ZcW:dk K a "tie" "Joins.tie" GX Zl_)
  (ZcX:dk K a "say" "Joins.say" GY Zma)
  (ZaR:dk K a "open_at" "Joins.open_at" Fs ZlF)
  (Zca:dk K a "left" "Joins.left" Gm Zl1)
  (ZaE:dk K a "together" "Joins.together" Fh ZlB)
  (Zbv:dk K a "pairs" "Joins.pairs" F4 ZlP)
  (Za9:dk K a "narrow" "Joins.narrow" FO ZlL)
  (Zab:dk K a "bring_together" "Joins.bring_together" EY Zlt)
  (Zcb:dk K a "move" "Joins.move" Gn Zl2)
  (ZaS:dk K a "head_of" "Joins.head_of" Ft ZlG)
  (Zgo:AB K "Hearth" d)
  (g:fE K d)
  (Zbw:dk K d "__init__" "Hearth.__init__" F5 ZlQ)
  (ZaT:dk K d "person" "Hearth.person" Fu ZlH)
  (Zcc:dk K d "tie" "Hearth.tie" Gp Zl3)
  (Zcd:dk K d "say" "Hearth.say" Gq Zl4)
  (Zbx:dk K d "keep" "Hearth.keep" F6 ZlR)
  (Zby:dk K d "take" "Hearth.take" F7 ZlS)
  (ZaU:dk K d "people" "Hearth.people" Fv ZlI)
  (ZaF:dk K d "side_of" "Hearth.side_of" Fi ZlC)
  (Zbz:dk K d "kept" "Hearth.kept" F8 ZlT)
  (Zce:dk K d "has" "Hearth.has" Gr Zl5)
  (Zak:dk K d "parent_of" "Hearth.parent_of" E7 Zlw)
  (Zai:dk K d "parents_of" "Hearth.parents_of" E5 Zlv)
  (Za_:dk K d "joins" "Hearth.joins" FP ZlM)
  (ZaG:dk K d "do_deed" "Hearth.do_deed" Fj ZlD)
  (Zba:dk K d "shift" "Hearth.shift" FQ ZlN)
  (ZaV:dk K d "put_in" "Hearth.put_in" Fw ZlJ)
  (Zal:dk K d "note_fact" "Hearth.note_fact" E8 Zlx)
  (Zat:dk K d "take_out" "Hearth.take_out" Fe Zlz)
  (Zau:dk K d "place_of" "Hearth.place_of" Ff ZlA)
  (ZbA:dk K d "undo" "Hearth.undo" F9 ZlU)
  (E4:PySem.W.mroIn K iM (.ref p)=Z af)
  (E2:PySem.W.mroIn K gc (.ref p)=Z af)
  (yy:PySem.W.mroIn K iM (.ref gc)=Z bg)
  (E3:PySem.W.mroIn K gc (.ref iM)=Z bg)
  (E1:PySem.W.mroIn K gc (.ref gc)=Z af)
  :∃fd:FuncData,(∀(s:bN) (v:a7),BindsTo s fd ⟨[v],[]⟩ [("_law_script",v)])/\∀I:c8,K.In I->I.Ns mainGlobals B->aI l.prog w K B I (lS l.prog w) 16 fa fd Du (CS K):=by
 obtain @⟨od,an,sl,oc,kV,dc,pm,cd,ct,ax,lx,cx,kx⟩:=p52;have e:=dO.symm.trans (lq X G ax);cases e;have bl:=z.bl X G;have Gs:=lq X G Zbt;have G0:=lq X G Zb7;have FT:=lq X G ZaQ;have J:=lq X G ZeT;have G7:=lq X G Zb8;have wo:=lq X G Za7;have t:=lq X G ZdX;have q:∀H,az K H eI [.str "mother",.str "father"]:=λ_=>.inr ⟨_,_,_,ZdY,rfl,rfl,by show 2<=sizeLine;decide,(.cons ⟨_,rfl⟩ (.cons ⟨_,rfl⟩ .nil))⟩;have uR:=lq X G Zjd;have uy:=lq X G Zgn;have Fb:=lq X G Zah;have Fp:=lq X G Zas;have x:=lq X G ZhK;have L:=lq X G ZdZ;refine vg (ZcQ.b X G pM) λ_ Im R Ik Zmh y Zmb=>?_;refine vg (ZcS.b X G kU) λ_ Zd0 Zd1 N Zd2 Bz A=>?_;obtain⟨_,ZcY,ZcZ,T,Zc0,Bp,E⟩:=Zb9.b X G kU;obtain⟨_,ZbB,ZbC,OP,ZbD,ZbE,OL⟩:=Za8.b X G kU;have Zjf:=o.cls;have j:=n.cls;have i:=g.cls;refine⟨fnOf "law" "law" (mK uM) (jF uM) (aL uM) .none kV dc pm an cd ct,λs v=>.of_eq rfl,λI _ _=>?_⟩;have F:=zw (st:=uM) lx cx kx;have D:jW l.prog w K B I:=⟨X,G⟩;have Ij:uB l.prog w K B I "NoPerson" "no person" iM:=⟨_,_,Zd2,Zcv Zd0 W (GZ Im bl) R y N A,Zd1,Bz,N,A⟩;have Hf:uB l.prog w K B I "NoSection" "no section" gc:=⟨_,_,Zc0,ZbO ZcY W (GZ Im bl) R y T E,ZcZ,Bp,T,E⟩;have Ga:uB l.prog w K B I "NothingLeft" "nothing left" Zbu:=⟨_,_,ZbD,Za0 ZbB W (GZ Im bl) R y OP OL,ZbC,ZbE,OP,OL⟩;have rF:=D.d p28 (λ_ F=>Zg8 F bl.CG);have wD:=D.d p29 (λ_ F=>ZfM F bl.Zjy);have wK:=D.d p1 (λ_ F=>Zdv F bl);have rE:=D.d p9 (λ_ F=>Zcy F bl);have qb:=D.d Oz (λ_ F=>Za2 F bl);have wY:=D.d p2 (λ_ F=>ZfP F bl);have G3:=D.m Zjf ZcU (λ_ F=>Zhd F o);have Ks:=D.j ZhL Zb_ (λ_ F=>ZfT F n bl);have wc:=D.m j ZaE (λ_ F=>Zcz F n bl);have u:=D.m j ZaR (λ_ F=>Zdz F n bl);have wg:=D.m j Za9 (λ_ F=>ZeF F n bl);have wX:=D.d p12 (λ_ F=>ZeK F wo OK);have Q:=D.d p14 (λ_ F=>ZcD F L bl);have we:=D.m i ZaU (λ_ F=>ZeL (CL:=c) (CJ:=a) F g bl);have t8:=D.m i ZaF (λ_ F=>ZdG (CL:=c) (CJ:=a) F g bl);have wA:=D.d p25 (λ_ F=>ZbV F bl);have Fd:=D.m i Zak (λ_ F=>ZbW (CL:=c) (CJ:=a) F g);have E6:=D.m i Zai (λ_ F=>Zbp (CL:=c) (CJ:=a) F g t q);have Bf:=D.m i Zbz (λ_ F=>Zhn (CL:=c) (CJ:=a) F g bl);have IM:=D.d p17 (λ_ F=>ZdJ F FT Fb Fp bl);have JU:=D.j Zgo Zbw (λ_ F=>Zgd (CL:=c) (CJ:=a) F g);have G8:=D.d p20 (λ_ F=>ZbY F uR uy L);have yC:=D.d r (λ_ F=>ZaC (C:=d) (CL:=c) (CJ:=a) F g o bl);have G_:=D.d p33 (λ_ F=>Zb2 F bl);have ua:=D.d p32 (λ_ F=>ZdL F bl);have Gb:=D.d p37 (λ_ F=>ZdM F bl);have Ic:=D.d p41 (λ_ F=>ZcH F);have Hd:=D.d p42 (λ_ F=>Zb4 F);have JR:=D.d p40 (λ_ F=>ZeP F bl);have Bw:=D.d p44 (λ_ F=>ZcJ F bl);have Ie:=D.d p39 (λ_ F=>ZcL F bl);have t6:=D.mX i Zau (λ_ F=>ZcP (CL:=c) (CJ:=a) F g Ij);have FG:=D.dX r (λ_ F=>Zar (C:=d) (CL:=c) (CJ:=a) F g o Hf bl);have Be:=D.m j ZaS (λ_ F=>ZdU F n);have Hg:=D.d p50 (λ_ F=>Zb6 F bl);have Ia:=D.d p30 (λ_ F=>Zg9 F bl.uA bl.jk bl.nO);have nJ:HasFn l.prog w K B I 4 "_law_same" oN (r8 4):=let⟨_,F,b,k,m⟩:=D.p (ps:=oN) p35;⟨_,_,Sf F b k m bl 4,b,k,m⟩;have ub:=D.d p5 (λ_ F=>ZiX F wK);have wu:=D.d p6 (λ_ F=>Zhb F wK Gs G0 bl);have wB:=D.m j ZcV (λ_ F=>ZiY F n wY bl);have G4:=D.m j ZcX (λ_ F=>ZiZ F u wg bl);have Bh:=D.m j Zcb (λ_ F=>Zhf F n rE qb bl);have wm:=D.m j Zbv (λ_ F=>ZfX F n wc u bl);have wI:=D.d p13 (λ_ F=>ZcB (CL:=c) F wo OK o wX G3);have wy:=D.m i Zce (λ_ F=>Zi5 (CL:=c) (CJ:=a) F g Q);have E_:=D.m i Zal (λ_ F=>Zhs (CL:=c) (CJ:=a) F g t q Q);have Fg:=D.m i Zat (λ_ F=>ZcE (CL:=c) (CJ:=a) F g t q wA Q);have FU:=D.d p18 (λ_ F=>ZaL (C:=d) (CL:=c) (CJ:=a) F IM uR uy we);have H_:=D.d p11 (λ_ F=>ZcG (C:=d) (CL:=c) (CJ:=a) F E6);have BJ:=D.d p31 (λ_ F=>ZdK F wD Ia bl);have Ib:=D.d p36 (λ_ F=>ZhA F ua bl);have Hh:=D.d p34 (λ_ F=>Zgf F ua G_ bl);have Ig:=D.d p45 (λ_ F=>ZcK F Bw bl);have wV:=D.d p3 (λ_ F=>ZjQ F ub rE bl);have zF:=D.d p4 (λ_ F=>ZjR F ub qb bl);have EZ:=D.m j Zab (λ_ F=>ZfW F n qb Bh bl);have wx:=D.m j Zca (λ_ F=>Zhg F wm bl);have FV:=D.d p21 (λ_ F=>Zhw (C:=d) (CL:=c) (CJ:=a) F L t q Fd wy);have FW:=D.d p22 (λ_ F=>ZaN (C:=d) (CL:=c) (CJ:=a) F H_);have FX:=D.d p23 (λ_ F=>ZaP (C:=d) (CL:=c) (CJ:=a) F x t8 yC wy);have P:=D.d p38 (λ_ F=>ZhC F Ib Gb bl);have Fz:=D.d p7 (λ_ F=>Zdw F wV bl);have G5:=D.m j ZcW (λ_ F=>Zi2 F n wx wc EZ wg bl);have G6:=D.d p16 (λ_ F=>ZbT (CL:=c) (CJ:=a) F x wI u wx);have G9:=D.d p19 (λ_ F=>Zb0 (C:=d) (CL:=c) (CJ:=a) F t q wX G8 t8 FV FW);have Ih:=D.d p43 (λ_ F=>ZcI F Hd Ic JR P bl);have K7:=D.j Zje ZcT (λ_ F=>Zhc F o wu Fz zF wY bl);have wC:=D.d p15 (λ_ F=>ZbS (CL:=c) (CJ:=a) F x wI G4 G5);have IU:=D.d p8 (λ_ F=>Zdy (C:=c) F wu wV K7);have FC:=D.m i ZaV (λ_ F=>ZeN (CL:=c) (CJ:=a) F g wA wB E_ wC bl);have qa:=D.m i Za_ (λ_ F=>Zgb (CL:=c) (CJ:=a) F g o Ks wB wC);have wj:=D.m i Zba (λ_ F=>Zf_ (CL:=c) (CJ:=a) F g J FC Fg);have IS:=D.dX p26 (λ_ F=>ZdT (C:=d) (CL:=c) (CJ:=a) F qa t6 u);have p_:=D.m i ZaG (λ_ F=>ZdH (CL:=c) (CJ:=a) F g wj);have Ge:=D.mX i ZbA (λ_ F=>Zga (CL:=c) (CJ:=a) F g wj Ga);have IT:=D.dX p27 (λ_ F=>ZdV (C:=d) (CL:=c) (CJ:=a) F g qa we t6 FG IS Be u wm bl);have FE:=D.m i ZaT (λ_ F=>ZeO (CL:=c) (CJ:=a) F g J FU p_);have wq:=D.m i Zbx (λ_ F=>Zhu (CL:=c) (CJ:=a) F g J G6 qa p_);have Gd:=D.m i Zby (λ_ F=>Zhv (CL:=c) (CJ:=a) F g G7 p_);have uf:=D.d p49 (λ_ F=>Zb5 (C:=d) (CL:=c) (CJ:=a) F IT y Ik Bz N A E4 Bp T E E2 yy E3 E1 bl);have GA:=D.m i Zcc (λ_ F=>Zhx (CL:=c) (CJ:=a) F g G9 wq);have Gz:=D.m i Zcd (λ_ F=>Zhy (CL:=c) (CJ:=a) F g x FX wq);have yF:=D.d p51 (λ_ F=>ZdW (C:=d) (CL:=c) (CJ:=a) F nJ P uf Hg bl);have wQ:=D.d p46 (λ_ F=>ZdQ (C:=d) (CL:=c) (CJ:=a) F Gz GA);have Ii:=D.d p47 (λ_ F=>ZcN (C:=d) (CL:=c) (CJ:=a) F wD Ie Ig Ih wQ FE Gd bl);have Il:=D.d p48 (λ_ F=>ZcO (C:=d) (CL:=c) (CJ:=a) F Ii bl);exact Zjc F rF BJ Hh nJ P Il wQ uf yF IU JU Bf Ge bl
def walk{l:PySem.W.OpenLaw}{q:dC}{b:O ar}{o:(ar->bS a7)->c8->Prop}{e:dg->c8->Prop}{d:DefRec}{K:Params->ah}(j:l.most=Z 63)(p:d.params.defaults=[])
  (m:∀(w:dg) (h:c8),e w h->(K w.params).In h)
  (F:∀(w:dg) (B:a8) (c:U) (h:c8),(K w.params).In h->h.Ns mainGlobals B->B d.name=Z (.ref c)->
   ∃fd:FuncData,(∀(s:bN) (u:a7),BindsTo s fd ⟨[u],[]⟩ [("_law_script",u)])/\∀I:c8,(K w.params).In I->I.Ns mainGlobals B->aI l.prog w (K w.params) B I (lS l.prog w) 16 c fd Du (CS (K w.params))):
  PySem.W.WalkO q b o e l.row.toRowW d [] (λf g=>PySem.call f g):=
 _L.ZgB j QD p ⟨rfl,QD,QD,rfl⟩ m F (λ_ _ a i k _ n=>⟨a,i,rfl,n,k,λ_=>rfl⟩) λ_ _ _ _ _ h=>by obtain⟨_,_,_,_,_,_,_,_,_,_,_,_,_,_,z⟩:=h;exact z
end Nf
namespace PySem.W.Fast
theorem t:True:=⟨⟩
open Lean in
local macro_rules|`(#print $s:str)=>do
 let mut o:=#[];let mut n:=0;let mut k:=0
 for c in s.getString.toList do
  n:=n*89+(c.toNat-if c<'[' then 35 else 38);k:=k+1
  if k%10=0 then
   let x:=mkIdent (.mkSimple s!"tw{n}");o:=o.push (←`(def $x:ident:=t));n:=0
 return mkNullNode o
#print "3Du@PnU6P$O1o3$o'=,t/<JA@_ZMKu+E?h{V3%w@C><%4%J|4_)Z}N$&T|kh,x4:`zngo9D=utlQL>{u&}s4sqkf4lP:#q>U=c1G-+=~h3h')W1&)#NtLcvC@)rN1w:v,98`xdSh|Kth<6$gdvY;LsQn4w3F?nD^=cgZ5,_7nr-a><4W)DTsA>2x7r/MJH:>Z,kK1vq'7Tzsf$g5vNK%5&*YQx8P?ON_4WWs1QTo7@P~d+weP`)pOL}Z:k%gXCgt95XVS)b}Vrym9*/')YpGV%l5Ry?4'_F-k,.6d8-;@z-w0'(F#0(sky5l4s&#=1MX,NXTF2H.r=I^=Xb?5=T~7&E)x/B7*bU1Fbm9.hZ&(Sj6#*Ht-GHSy@>iD,hX0Ifd|r&2+^Gp4|Oe`ij/C@{}>CYUqm%Z}^%bE`#/'n6RpQf:8H17wW2&3r~-#=EskxC8@lEi(f-'g43e=o~NVhv<7,N}K*5t'8Mc2(m_a/QJg<S5qAM$`H6&HkpR1Sh*)6L1b$-vn/ad7-bBGth^nQ)N8agpZDc>8|-.5'X`ZK6W_B12E;(M?yR/7wUC&MBz$9Z;H_1_DR;u|>bylo<c.jE/ff}08J76QD,X.OWQMl0@4lbC+X6e{E<W497zIU:X+?X^L*55:p-icF8dVf+3U,9S>M-J;JWg0NQHeX%9LiZu9f@rQ<z/)X?NY5{Tx==&0|Jk%)J~?>91q-h|H`&E*,%?d8yM-:8Jm7Dkv?Lv?kFcZHff@:1bi~h~pw3H326mR>1K2Q2bZ#brlX^~1&AIVX*y5P<|B{<Cgt7p=j_3'icdOO/9cxH2Pp+B(+=`ii}R90Rb),&=/s)64V|#5/`T3Z/h-{sc;{^fM;ypw`sGj,>7)1tm#S)~$KyXNl~yaXSC?2DqA;6DTP#oUQ=IK?'PiCf1BMD)L,w56U*.nE3@H,s^FkVYP?YM-3tpS1L`C?uAc97Q%wCj4*Qg?)CpvXo1ULH'.y5Uv:f1C99lBs#M/T#42We?M{+1>G<s|g.AcM2NK_J/v700p)=7Du`1$*XnO9Hfem#WX*711jEK4HCfNqD;v%-'Y^4Xj0}(QpV-*J|Z1J~LcFA~H3`}pCrn<ZtFn&ZvYmCs1bUD@K(BF8A@rXFefq4~MNU-uAs54F--,5Tnk69IuaO%e_mm#{Gf~Hlp^pI|CBR4&4w`EQo%e;2RtHU66c:qVzF3((xthVV.?H?sL0lCU8fx*Y|_;UD%'p4Uk-zI2RTx8)UtcLjK9LB_m1+sP{f2Gzv-(=tmd+%zSh@j1SpM/X&QQAbZyc32&O)<NO,)24x_gu.@t1A~xp#JJs#ZOp`i~C^m(HMM(p{2&Qv{JgLG#Cui2c=Ss4S,/=F{,Of+`UE1BjCbe6lBLBB`9LT2;:p2QYMSJ9J2@+k76s4LjsowrtJyI5.p,?>^=+,%N?AOG8:6dnctk;F&KUAE)=^Zz-D2mU4x`,mM&DMOeESrmo6dJPBryem_3i{7~%vOf@@f8X)VX19T>AsGf@o+vSO$r:|s@yZ2EDEV+OoSkI9_*A>L)h.-PKtwt?}`|u5s*+k&JR10TEY<&FsHuX5F0WogvF$5G|zxl/#$aiEHMsaR`{uFO.d6gG~18q#6Cny;e`1A'u)_${Bni|*W9itD<5x18%:^?bQ26HCCt%h*DRhPB(T?VUGH(G$7rB/$fnr-@1fQ^S6*7v5X}9^I{n^EL<u*iQzC*91aB+cteG(0-.y@FfL&k->g8I&P`4~tOu%zb77/Ot=l`hy*Ne@OL&t+^qubq2D0+Y-%.*aQU~bFJr:}NzFDM:gr@M:(H^#{&+tFSWBGlXZh0nXIWBC*V)X,i7VPfi:WeUZlR`4p?fz;p=-ZzwsV%NhyL6<O8W`b<%1u}1k0^l9l(RskQ+tF3kT)8'LkU+_5%SI'rItkf?PxefE>n:>J*=+R>Dyxu@(#)2L^XC1M&1'G#2b>E37=i:JwvG~C7n}nT^x6>G>-q0T}n1OL5IHaPN*.x2#1IsB0fdn(2x-bk<Eb6M15Mb?_d6THEc{`b=tIkZRw<;*2gneqL{1SH9_pqQRXN?$k)X99(38nf,gM,%.`S}'0gShk0NYva3:vcw.k=C5T*j)YVs?c5Nn7y@Ed%yWsU4-j75wyE_YbghRDv?`A9fe(/n8;LYUpeGT#Q0?Z(gP4Sy$K:'T%O(L/;{aAljD/UsSZ|h+LWAT#MM'wqCPQDR..X:lM7)I$%6P;vLYP8QdC%Q)R)7Rj5+Z?`^<1(I2@U^x&/u((C}PLJ>VcAmgqV@)ff:EDilt|(:$%#%AXBOJrMUP;Kn>wM6p~L/i,pIX|9yB1<5:tG@Q{7i)Hhy(IKo#dP#,J#{Q9=:;8{k4=cC)wHzi,E&akPuR'^V^+<&/~4J^uL9&>6IXb(StPPr3+T4+;G1lA:I3Acy^<))7kgeiX`-0I=s&9{p5QOR)2,UA=V4QfF{1J_'rJTT*bmThOr%eo3ciws1@(oe+P@9T-2uR#+fo_K%?7?g2JrO*(UO*0H5U5ioZATpLx@j$B.`R|Ex4Ad/{w'5W5^W-ga8Rx8WJGa@wA,K*&7:mbJUm'IwB4GusF&FH@g-./$#=J?h_nA<:oMpV5NhpsP3O_Hl,3/RVB/Z(c;'{QHV?|4UUagU8T~~)T.'0%P3SI)bBMV&+zCz**G7F4`{p-+2W^sNlT>~D'jclRG8a)-/Mcb,_*ouCzU7^>J1q7/_foK(~WVNMA:U,gA,c(#{ac16s2}~0ESL8,Z=7^*f|vhqz;_W6&.1<AMROA(0{|6=NrCW&*_<W6)iJ;EAc9#}tAfG.OI`.rRB|#+ThAqTU*6#:;&z$T{@OX*c==Q(:FwPNQr@O~o8J:M8M66)VW)-:WCrx*}m3C40jIAYmx&IOAC0I+dj*1;9F0m=YZvI5fmx9xHjS}NEKPR>+7rT(7~RM',#JQ@r|b.%~YN`8V#t<@jX}`,gDzx>X:1iB9{&34xeh*%(#=o<sD*|PV>d3_rc4pF<%9A5yoEiSw+_Hn()X2Qe|;t7XSrSPCggsM%uQMRBQS1N((YeGJGM)8~vhW6?XyI1%Rd.AQNGRSl<263Z/IDZYEu)UZX35eCv5>RkN6jXk'(3F/GO1d%m%dKK#tZg:C}u@Jse&ljdYo6EI(vSU?&&V2|)3Zj.|;GB,6_&fa<9759,;_U$vV:k>P:l8pj~'ygiZ$S@vx*0K>hd7BfCPEfzcpXacY'36zJ1J7e;Pwi$~|m$r%1|*CQ2U&W86|=bcsCfZ?/Igp<XL&42FiE.T_LV'qDmr}4)q@tv@T&K(./.ktV$cIRk6UKf$vywyW-}HV+4W@9hIE+0R#:i,gvENmF}l?)c@p|w#`v=c:3dX3@4=0FR#u@`@G~e5V1T'`*_B<sL_;RZ.xrF-3)RbXTlW6CQ'LY/KP+eT9$8c<C.1v;t)'unS%%<|{V8G.JuWnstN1o(#vqSw?FnpO(:kv_9C(kGVGZ@.O~tSVACj3fnQWX`SWN7n>H^YpF&0@=2}}f}-r@8xsg%z5M_%yxh-XgZEr)7COjjr+-yk2nRz(^cTXNlIa8FV9JU'Y*xA-9sCYW)3ZXt{mWC=x(jzFSzHbF#bSnx|.7.TkEzM#?O/GX?*^BzCV.LvnJ'}G4u$('|>@M06SRrK~Zq{mY@FP)DqMmW^.7dJtF;=wP9.Du1wd=hX|GNK*N}~>Q&?i3B%B30o*M/qUj8sCef%7L~47*<%_9:Q6-AjulK7<b3Kq)uzENA2#IM|crvN+R+MGC&DrK'-9U'L:D>?ny&@<GB4?L=}jcR>V8T+>vA89w7~F;FXzS~X(>88KR;Q<^|j/G&CJ+W,s~%9RVK6e@wBD<G~I}4<g+lM4GaP1OFUDRAt)<'`V4f/${SrW&))eV9xN2fEy_v&g^}R7BFF%3QyHK^de)m*~9x({GmWyRO0;aDGuURF7sezPTMZQ/N;PWxV8:MBAD>Kr)Q?Z?.NOR>u9;;6~OLaA~;cm6+szSw,tsX.JRi^cY^:o/{=){lTGvDWJIqgfu~.g+nltgJ^=mV(2b;CV6ixk:#&{GcA{2..=qvGdeye}OJ$G<f%f`;W<'OyEvups&.57r?J~P^9QsNNe^^6q?=le*|_PaUEd9{~FCwQtOBC+YNKM@jSrd-T1shTIK20d6f8,~yQrrr@cpzde,QVd,f&j&:4q_vFl*5(,/)G|xKk^xAHH%Xn6b*QkPx&V6<?P_7+{+pixtBViAT#ES#0rY79M^22v_$D/&Pe);D4'kZ0iGBggQ#8eU*'RJ{>xOzKm'_+*N6e&(1%5#p*%JY*Crwuo*oL:Dw<GBPu;BLWC($&(gr+0%*?:o0AZCtUN?=RG(yL4>Jv0'b,6I%MVegu,j>{$?o^/AIVUFm<?PLe$p<Y>Eh,71{(6YF=MW-0SN(m22k?zVQONH&TPbby+322QK)<074aww:Ms01%7q{V1H):cx2$.`vKk2<%%rm=R.KKg+iYab5;YAHVppS+p&l_YJ/8>HZVyz6%LK=ANKmTlfnVThC8x2EvSloktUkHf{*_:*OAF:=z84=XR3,{y)N7H85Q}v8dg5t.ZRqj|4Chq@b#V&;?5}*EY/UGB&#D'g@9o9*t|8LaQ-KbBk`jgo)F(*hAm0>Rk)YXws<rCqRBG(Eh;d+d:WW;>-n0Bf7)Vr8UROAOE0E3&F2*}*q;Kr:1j&9#{<jw8a%'W@e/=/;@hRXL+/E2GOAC8=R1wghl;C`/mUwFLG-V`J|U(uEB{Syo;#DTd>`f@60K&5Qnus.6=$s?aUI,D`xIOcQb8D(.<I*LK-o^3Hz$0`PkVSci7+`#a{B9SJGNs6t(5/_%^E|5t)g7:.Q@%j6;O>|T,'d$$/G8EzuTYx7I-a(2R>wfsenqTIm#QXG^?'Scf3H@r6x2;mB3Z6b6'F#^@>q%W6mo}uf@hz'#I1_79D22Mt)V8S#P>xEMS@GDCQz%ailrVS),$IGOpZhLg486rccyEUH7;c}(H0@|^>10Mzs91AD9}=.M(qyl)Nh:}9'}BV.'jjK-:aXWB,<`>1q.^h`VY=8|WzvvF>-s:gu})*8Ac&uAoWBOs3iWtJ#=s$(N:Gw&EmWX?D^j=lW&=2rG>1D0Wm$c2&F:L5d%BJvQGg6x<x2'eEoVpJo?k-(57bT_%E3x39GFkJlNLr@?>;j*xIM<zE.~1>*g`Rj&q|LC8<ETH&eDBSyFmCG:Rmio2oK<YLk2h,4W`rK/euIoyl#J@RbkQ(+Lg8Q-Z~mesx~Z,Hq'rFhf'S<@IiGD**QdsN#CN&V|jqp@bl.W2F)LxT.x0VEO@0(6.cifz~^C#J`}DJt)YRE,q:SapVP4^4CjosowzPB8hxl/lG;aE?pCw.aK(Jj#FmY6@MVuVTEhT7g?@yr4k?ZC:)v%|BJJ=Rs$8;8/zJ8*Rrj910X5Uwv(#PW7,X(_7^v0H31Uy92}qmP8Axf&?a&RbKR@72By+-&)|>C&d5(7PH'~_.F6GnXSIqBRp6nUt7JF;(<iLTB;W{f#zeSWz@3TsK_PdV+N'kF(IJNx*RJ4j}c8/441Dx(Bc,Rf2FO_2^+Le?tO/Azc?I'Hx-)GZVA|DP{/lgND>zB8|?'e>f//R%AN/*0a#j9G2*i&5nvm%GqDcQ`7Q7x>,=bh'b6Niap<lQ=9IY9<iC9dygWgnSN*g>828NeJ:.L}LHLxtp@S5)<(KC#%3V>3R1~aIK7FnlV7-1UkS'x&b1-g$f7VI@K5>dzOV*6RDlGq0OHDTzRh}~JIMHI~.>AO,Q65(dEu#~-=sA;wV0OaD~<B:2.ISs-V;>'o(5h(<GQ&>obv*'#e6B.Z{RX/6aqA9(G&(nz>DEZ0@E?Z'yr1'0<KD)NvZ&T57uh7'BtG^+uT8Ip#;R|4p^B.`jg.nYLJ'acJJ3%Wzr=:peH51./wvhS0i>`GInU'=B%C8xpot0t)1J}k5Tu>%cp'Fv8MLyIspT'3wyG8UH7THw<V6VHswV1e`HPskJ3VvhVDUO.7o6?-0(_r2-/:spJxhW?1:?b)'qprQio76PKvAAe%GD61.UNxKY'%fw'7_)IgiU*/t.A+cgE1X#50)'=P,QPHrb3)&9D'u3S>L?v(,01iWX=+DKw&S,Ef;GnbQEeu>nLA4gfP/jfF2Qj'4U1|bZ_yI9R*~7NLJ9FG%-k|Q80$@HJ0{J.sRYsyNGC0'f0Wm6(Oxe3e(a,re,7*PE{}lU|IsE{8@o)evVl|KFFVKI.Fk5Xo_+6f9:dyx~bPU3QArbbhqze.(MM^9DF9p/&QSDVC-7.X'RE~S*LC<HyT``X@I@L3vW7sSldf.c8(PN$qg+J+G*G&=M1Yoc810u/?p1IDbJ+nH0y6tM1RZ}8av=1ac*Vld@.gk^U8Kx<^C8F%g8f7?rOknB/:>J5m4Tb`&&AS~F<Zti7K3=/-ZEHR:/37`Z|m-b</p,Cx-ClA);A?=I8(B*9?M#'|pZz<VO0(O'`t86?$UNiBi4'9}J.A5<N)i&xSta/bi+gvN45E3Lh{K|>6;n{uoB8wt?q0HQEB17fELsMmbPNI8#YX)5g>9,b<pqymag?p.)MTi{8yHSL@fpe,<w~=5@w.Qly?#7xNVgI/hKHHMP,n)VA$S`{-c)_gw6Fr$<XfC@Zo&-|#z:,VzVaC84?XGk)#-|&7Q5|T16)4=>+(L$30;AQBY8/ylrg>0J,P1s25brpMFi<aJ<#06+6C-,>OVEb1BZk$T^%Lc8,E^Y0Yt_W;qm74d=u0&%U%,bJ}'fZ,fJq-%a/3dG7@x43`H0MD7DV6Jc%)cK8A+T~^8<E-yFkiH1>QH9;j)k5uY3CB<R=b)R&QE0=Hh}9l/,|E)x^y<u>iOO^faRG,U+o={*/LQWwzDEwq65u:dbWJ9<oFJyrRCW1DSe@f'}c?ff8(t3(@?@SYEl=X^~Z@s(A:T~MKeK^:T,G&?A~')?_z%mqW0O:n59Bk|aB(<fP52oloN-mM`N**IWI.16hUg%{Wu/Xbk.uO)Gu0rb/<S>Ym30~GJq2koD4:'mry<7IP=D{+.^}-JDwHA/JG}IZaiJzJhs1`UHQ2O<s@rKH7xBe.99ILTUcK7^nXnY`Ho0t)t3>|7`T?|onBpCQEbEjdlx2yo8q=o/V-R<#0cCuLr{j3dv8>0fE8O/P|XV~kbm`MgCp,sPME1fA#|@lbD3J+N7|A+0adc7Y1cB<#U),UWj+B<I{+L&@T9C6?i:DQhR7DM6jhwuI~QKfqp;;.,;{O'StjPK`7{O@BS1w/sL$RP24OB'<K^U.1N2wKkS5UXKVK$|g>YWPn1sfL|98)RLT-x5*x&-`W}{<o?r,/ENia@%p'{3ns_ZpFjPT4Cydog9icw72L-<@i&i`96KA^o$T7=%O2L?j^0X(>8eQ$lybi5>k7|NyCoYMW-%@F4^P6+%)s2Hf2Q;EBK'6>|'H-XC*&|DR_WNRD17LLnfdFNI%*PKp,EbXP8qvNXgMwqQ)pqI:'5JLRX;(IG7ym?SMh$wf-H8JT}XADD9hQtV#$S#@Jp3J#U4VPwl-#q)e;siNzy~6,sm}%dA-C4;8FTYCABQx=#{#Tg8oWx>V)~^j'CAVM+l+r'Lu?&M9H&P/-^,4Qo(H-f0G0h,U>>d-VJ_y.SB$ElwJao6|IWMEz`oB7Pgy1:yDJJ<}%S?,gO/j=?IVn3e'87=NADD$qNtLBVj{q(FsjJ,Gp;nI#lXdM5W:xts>sZUf^b6rv0zR2{9h%Z~(|,"
end PySem.W.Fast
open PySem PySem.W PyProof.Rows
set_option maxRecDepth 100000 in
set_option maxHeartbeats 0 in
theorem PySem.Challenge.cw_kinhearth_k32_a_dealing_told_holds : PySem.Challenge.rw_kinhearth_k32_a_dealing_told.Holds := by
 w_on; o_law; k_head; (case hw=>w_witness2)
 k_fill
 refine Nf.walk (l:=PySem.Challenge.rw_kinhearth_k32_a_dealing_told) rfl rfl (λ w h Y=>kIn_of Y) ?F
 case F=>
  intro w mg fa h KX G Aq
  apply Nf.all_mk KX G Aq <;> repeat' first | k_is | (show _=_; k_is) | kernel_rfl | constructor

