import PyProof.Rows.All
import Wide.All
import OpenK.AllK
import Wide.FinOn
import Lean
import PyProof.EqAt
import PyProof.EqKinds
import PyProof.TupleCall
import PyProof.NeKinds
import PyProof.ConsumeWalk
import PyProof.ListRange
import PyProof.TupleOfSeq
import PyProof.Rows.SortWalk
import PyProof.CompFree
import PySem.Challenge.RW_kinhearth_k47_lands_as_texts
set_option Elab.async false
set_option linter.all false
set_option maxRecDepth 100000
set_option maxHeartbeats 4000000
abbrev ae:=PySem.W.Frag
abbrev aC:=PySem.Value->PySem.Shared->Prop
abbrev ax:=List (PySem.Addr×PySem.Obj)
abbrev aF:=PySem.Str->Option PySem.Value
open PySem
open PySem.W (instObj methodObj lookIn plainGet hasDictIn handedIn findObj_own plainOver takerIn set_plain any_some makesIn typeIn emptyDict specialIn takesIn kitOne kia_one kitx_list kitx_dict keepIn callWith_K isFn cellsFrom_some fnOf codeIn codeRec_of notCls check_slot KitX osa_eq kitCls readsIn findCls methodCall_KW method_cls cls_value subIn nsIn mg_of mg_none_of kIn_of)
open PySem.F (excBase_ValueError slot_str_split entry_str_split args_str_split_2 plainAttrs_list plainAttrs_str slot_str_join type_str_join type_str_split)
abbrev Ya:=@List.length_map
abbrev Yb:=@Heap.get?_push_of_some
abbrev Yc:=@Nat.le_refl
abbrev Yd:=@Heap.lt_size
abbrev Ye:=@Heap.get?_push_size
abbrev Yf:=@List.size_toArray
abbrev Yg:=@Bool.false_ne_true
abbrev Yh:=@Nat.ne_of_lt
abbrev Yi:=@Heap.get?_update_other
abbrev Yj:=@List.getElem?_map
abbrev Yk:=@List.getElem?_eq_some_iff
abbrev Yl:=@Option.some.inj
abbrev Ym:=@Array.size_setIfInBounds
abbrev Yn:=@Nat.le_trans
abbrev Yo:=@Nat.lt_of_lt_of_le
abbrev Yp:=@Array.getElem?_setIfInBounds_ne
abbrev Yq:=@List.mem_of_getElem?
abbrev Yr:=@List.mem_cons
abbrev Ys:=@List.getElem?_eq_getElem
abbrev Yt:=@List.mem_append_right
abbrev Yu:=@Heap.get?_update_self
abbrev Yv:=@List.take_of_length_le
abbrev Yw:=@List.mem_cons_of_mem
abbrev Yx:=@List.append_nil
abbrev Yy:=@List.length_cons
abbrev Yz:=@List.length_take
abbrev Y0:=@Array.getElem?_eq_getElem
abbrev Y1:=@Nat.zero_le
abbrev Y2:=@List.mem_cons_self
abbrev Y3:=@Nat.lt_of_le_of_lt
abbrev Y4:=@List.getElem?_eq_none
abbrev Y5:=@List.getD_eq_getElem?_getD
abbrev Y6:=@Array.getElem?_eq_some_iff
abbrev Y7:=@List.all_eq_true
abbrev Y8:=@Array.getElem?_toList
abbrev Y9:=@Int.toNat_natCast
abbrev Wa:=@Int.emod_lt_of_pos
abbrev Wb:=@List.map_congr_left
abbrev Wc:=@List.map_map
abbrev Wd:=@List.take_add_one
abbrev We:=@Int.emod_nonneg
abbrev Wf:=@Nat.lt_irrefl
abbrev Wg:=@List.length_append
abbrev Wh:=@List.length_replicate
abbrev Wi:=@List.map_cons
abbrev Wj:=@Nat.le_succ
abbrev Wk:=@List.mem_map
abbrev Wl:=@List.filterMap_cons
abbrev Wm:=@List.not_mem_nil
abbrev Wn:=@Array.getElem?_eq_none
abbrev Wo:=@Nat.le_of_lt
abbrev Wp:=@Nat.ne_of_gt
abbrev Wq:=@Nat.lt_succ_of_lt
abbrev Wr:=@List.ext_getElem?
abbrev Ws:=@List.getElem?_append_right
abbrev Wt:=@Bool.and_eq_true_iff
abbrev Wu:=@Option.isSome_iff_exists
abbrev Wv:=@Bool.eq_iff_iff
abbrev Ww:=@List.of_mem_zip
abbrev Wx:=@List.length_set
abbrev Wy:=@List.map_append
abbrev Wz:=@List.mem_singleton
abbrev W0:=@List.cons.inj
abbrev W1:=@Bool.eq_false_iff
abbrev W2:=@List.length_range
abbrev W3:=@List.mem_range
abbrev W4:=@Nat.lt_succ_self
abbrev W5:=@List.eq_nil_of_length_eq_zero
abbrev W6:=@List.length_drop
abbrev W7:=@List.mem_append_left
abbrev W8:=@List.getElem?_set_ne
abbrev W9:=@List.nodup_cons
abbrev Ja:=@List.getElem?_range
abbrev Jb:=@Nat.le_of_eq
abbrev Jc:=@Nat.lt_or_ge
abbrev Jd:=@Int.ofNat.inj
abbrev Je:=@List.lookup_cons
abbrev Jf:=@List.mem_append
abbrev Jg:=@Int.ne_of_gt
abbrev Jh:=@List.length_nil
namespace L2
open PySem PySem.Spec PyProof.Rows
abbrev Key:=Sum Int Str
def kq:Key->Value->Bool
 |.inl k,v=>Value.isInt k v
 |.inr x,v=>Value.isStrOf x v
def ME(w:World):Key->Int
 |.inl k=>hashInt k
 |.inr x=>hashStr w x
theorem fY:∀{k:Key} {v:Value},kq k v=true->(∃i t,k=Sum.inl i/\v=Value.int i t)\/(∃x t,k=Sum.inr x/\v=Value.str x t)
 |.inl i,v,h=>by
  obtain⟨t,e⟩:=Value.isInt_shape h
  grind
 |.inr x,v,h=>by
  obtain⟨t,e⟩:=Value.isStrOf_shape h
  grind
theorem HX(i:Int)(t:Tok):kq (.inl i) (.int i t)=true:=by simp[kq,Value.isInt]
theorem HY(x:Str)(t:Tok):kq (.inr x) (.str x t)=true:=by simp[kq,Value.isStrOf]
theorem KL(a b:Int):decide ((Sum.inl a:Key)=Sum.inl b)=(a==b):=by
 grind
theorem KN(a b:Str):decide ((Sum.inr a:Key)=Sum.inr b)=decide (a=b):=by
 grind
theorem KO(a:Int)(b:Str):decide ((Sum.inl a:Key)=Sum.inr b)=false:=decide_eq_false (λq=>nomatch q)
theorem KP(a:Str)(b:Int):decide ((Sum.inr a:Key)=Sum.inl b)=false:=decide_eq_false (λq=>nomatch q)
def eU(prog:Program)(w:World):PySem.KeyKind prog w Key where
 is:=kq
 hash:=ME w
 inj:=λv a b ha hb=>by
  rcases fY ha with⟨i,t,rfl,rfl⟩|⟨x,t,rfl,rfl⟩
  ·rcases fY hb with⟨j,u,rfl,e⟩|⟨y,u,rfl,e⟩;·injection e with e1 _;rw[e1]
   ·exact nomatch e
  ·rcases fY hb with⟨j,u,rfl,e⟩|⟨y,u,rfl,e⟩;·exact nomatch e
   ·injection e with e1 _;rw[e1]
 byValue:=λk v h=>by
  rcases fY h with⟨i,t,rfl,rfl⟩|⟨x,t,rfl,rfl⟩<;>rfl
 pyHash:=λhv h=>by
  rcases fY hv with⟨i,t,rfl,rfl⟩|⟨x,t,rfl,rfl⟩;·exact wpAny_pyHash_int h
  ·exact wpAny_pyHash_str h
 eqBool:=λhu hv h=>by
  rcases fY hu with⟨i,t,rfl,rfl⟩|⟨x,t,rfl,rfl⟩
  ·rcases fY hv with⟨j,u,rfl,rfl⟩|⟨y,u,rfl,rfl⟩;·rw[KL] at h;exact wpAny_eqBool_int h
   ·rw[KO] at h;exact SeqAt.EqAt.int_str i t y u _ _ _ _ h
  ·rcases fY hv with⟨j,u,rfl,rfl⟩|⟨y,u,rfl,rfl⟩;·rw[KP] at h;exact SeqAt.EqAt.str_int x t j u _ _ _ _ h
   ·rw[KN] at h;exact wpAny_eqBool_str h
 «strs»:=λk x t v h=>by
  rcases fY h with⟨i,u,rfl,e⟩|⟨y,u,rfl,e⟩;·exact nomatch e
  ·injection e with e1 _;subst e1;cases v<;>rfl
theorem FE(prog:Program)(w:World)(i:Int)(t:Tok):(eU prog w).is (.inl i) (.int i t)=true:=HX i t
theorem FF(prog:Program)(w:World)(x:Str)(t:Tok):(eU prog w).is (.inr x) (.str x t)=true:=HY x t
inductive V where
 |ao|bl (b:Bool)|int (i:Int)|str (x:Str)|dM (b:Array UInt8)|i5 (b:UInt64)|ref (a:Addr)|ty (n:String)
 deriving DecidableEq
def RelV:V->Value->Prop
 |.ao,u=>u=Value.none
 |.bl b,u=>u=Value.bool b
 |.int i,u=>∃t,u=Value.int i t
 |.str x,u=>∃t,u=Value.str x t
 |.dM b,u=>∃t,u=Value.bytes b t
 |.i5 b,u=>∃t,u=Value.float b t
 |.ref a,u=>u=Value.ref a
 |.ty n,u=>u=Value.type n
abbrev Vals:List V->List Value->Prop:=Paired RelV
theorem Vals.length{xs:List V}{us:List Value}(r:Vals xs us):xs.length=us.length:=Paired.length r
theorem Vals.get:∀{xs:List V} {us:List Value} {i:Nat} {x:V},Vals xs us->xs[i]?=some x->∃u,us[i]?=some u/\RelV x u
 |_,_,_,_,.nil,e=>by simp at e
 |_,_,0,_,.cons r _,e=>by simp at e;subst e;exact⟨_,rfl,r⟩
 |_,_,i+1,x,.cons _ t,e=>by
  obtain⟨u,h1,h2⟩:=Vals.get t (by simpa using e)
  grind
theorem Vals.set{x:V}{u:Value}(r:RelV x u):∀{xs:List V} {us:List Value} (i:Nat),Vals xs us->Vals (xs.set i x) (us.set i u)
 |_,_,_,.nil=>.nil
 |_,_,0,.cons _ t=>.cons r t
 |_,_,i+1,.cons q t=>.cons q (Vals.set r i t)
theorem Vals.append:∀{xs ys:List V} {us ws:List Value},Vals xs us->Vals ys ws->Vals (xs++ys) (us++ws):=by
 intro xs ys us ws h h';induction h with
 |nil=>exact h'
 |cons r t ih=>exact .cons r ih
theorem Vals.take:∀{xs:List V} {us:List Value} (n:Nat),Vals xs us->Vals (xs.take n) (us.take n)
 |_,_,0,_=>.nil
 |_,_,_+1,.nil=>.nil
 |_,_,n+1,.cons r t=>.cons r (Vals.take n t)
theorem Vals.drop:∀{xs:List V} {us:List Value} (n:Nat),Vals xs us->Vals (xs.drop n) (us.drop n)
 |_,_,0,r=>r
 |_,_,_+1,.nil=>.nil
 |_,_,n+1,.cons _ t=>Vals.drop n t
def eG:Option V->Option Value->Prop
 |some v,some u=>RelV v u
 |none,none=>True
 |_,_=>False
def KV{κ:Type}:List (κ×V)->List (κ×Value)->Prop:=Paired λ(p:κ×V) (q:κ×Value)=>p.1=q.1/\RelV p.2 q.2
def kV:Key->V
 |.inl i=>.int i
 |.inr x=>.str x
inductive HO where
 /--a list-/
 |lst(xs:List V)
 /--a tuple(never changes)-/
 |tup(xs:List V)
 /--a dict LQ keys are ints and texts;one LQ keys are tuples of ints and texts(gF empty one is both)-/
 |dK(av:List (Key×V))|dT(av:List (List Key×V))
 /--a set of ints:af members,af size-/
 |set (S:Int->Bool) (n:Nat)
 /--an instance of gF class at C,af dict at dx,af attributes-/
 |ins (C dx:Addr) (fs:List (Str×V))
 /--gF dict of gF instance at x-/
 |own (x:Addr)
 /--gF dict of an exception-/
 |xd (fs:List (Str×V))
 /--a bound method,f of x-/
 |met (f x:Addr)
 /--a range object lo,lo+1,.. below hi-/
 |e6 (lo hi:Int)
 /--a LR Ub is known to gF object (gF Bh;a dict while a loop walks it):read,never written while it is so-/
 |dN (o:Obj) (u:HO)
 /--a code T4 table-/
 |i6 (ps:Array Value)
 /--any other LR,by MF is true of af one object (a def of T9 own:Uc a S n:=HO.ext λh=>..)-/
 |ext (φ:Heap->Prop)
abbrev Hp:=Addr->Option HO
def upd(H:Hp)(a:Addr)(o:HO):Hp:=λb=>if b=a then some o else H b
theorem aw{H:Hp}{a:Addr}{o:HO}:upd H a o a=some o:=by unfold upd;rw[if_pos rfl]
theorem ak{H:Hp}{a b:Addr}{o:HO}(h:b≠a):upd H a o b=H b:=by unfold upd;rw[if_neg h]
theorem jW{H:Hp}{a:Addr}{o u:HO}:upd (upd H a o) a u=upd H a u:=by
 funext b;unfold upd;split<;>rfl
theorem bg{H:Hp}{a b:Addr}{o:HO}(h:H a=some o)(h':H b=none):a≠b:=by
 grind
section
variable (P:Program)(w:World)
def gk(h:Heap)(a:Addr)(items:Array Value):Prop:=∃o,h.get? a=some o/\o.cls=.type "tuple"/\∃n,o.data=.seq items n/\o.dict=none
theorem gk.tup{h:Heap}{a:Addr}{items:Array Value}(x:gk h a items):IsTup h a items:=let⟨o,e,c,n,d,_⟩:=x;⟨o,e,c,n,d⟩
theorem gk.lt{h:Heap}{a:Addr}{items:Array Value}(x:gk h a items):a<h.objs.size:=x.tup.lt
theorem gk.new(h:Heap)(items:Array Value):gk (h.push {cls:=.type "tuple",data:=.seq items}) h.objs.size items:=⟨_,Ye _ rfl,rfl,_,rfl,rfl⟩
def bo(H:Hp)(h:Heap)(a:Addr):HO->Prop
 |.lst xs=>xs.length<=sizeLine/\∃(af:List Value) (n:Nat),Vals xs af/\h.get? a=some {cls:=.type "list",data:=.seq af.toArray n}
 |.tup xs=>xs.length<=sizeLine/\∃af:List Value,Vals xs af/\gk h a af.toArray
 |.dK av=>av.length<=sizeLine/\(a==sysModules)=false/\∃vs,KV av vs/\h.DictOf (eU P w) a vs
 |.dT av=>av.length<=sizeLine/\(a==sysModules)=false/\∃xs:List (List Key×Addr×Value),
   Paired (λ(p:List Key×V) (q:List Key×Addr×Value)=>p.1=q.1/\H q.2.1=some (.tup (p.1.map kV))/\RelV p.2 q.2.2) av xs/\
   ∃o es ep,h.get? a=some o/\o.ExactDict/\o.data=.dict es ep/\es.toList=xs.map (entryOfKey (tupleKind (eU P w)))/\(xs.map (·.1)).Nodup
 |.set S n=>h.SetOf (intKind P w) a S n
 |.ins C dx fs=>H dx=some (.own a)/\fs.length<=1000/\dx≠a/\h.get? a=some (instObj C dx)/\
   ∃mA,h.Ns1 dx mA/\(∀f,eG (fs.lookup f) (mA f))/\PySem.Within mA (fs.map (·.1))
 |.own _=>∃o,h.get? a=some o
 |.xd fs=>∃mA,h.Ns1 a mA/\∀f,eG (fs.lookup f) (mA f)
 |.e6 lo hi=>∃t u v,h.get? a=some {cls:=.type "range",data:=.fields #[.int lo t,.int hi u,.int 1 v]}
 |.dN o u=>h.get? a=some o/\bo H h a u
 |.i6 ps=>h.get? a=some {cls:=.none,data:=.fields ps}
 |.met f x=>h.get? a=some (methodObj (.ref f) (.ref x))
 |.ext φ=>φ h/\(∃o,h.get? a=some o)/\∀h1 h2:Heap,φ h1->(∀o,h1.get? a=some o->h2.get? a=some o)->φ h2
def bw(H:Hp)(h:Heap):Prop:=∀a o,H a=some o->bo P w H h a o
end
section
variable {P:Program}{w:World}{H H':Hp}{h h':Heap}{a:Addr}{o:HO}
theorem bo.lt(x:bo P w H h a o):a<h.objs.size:=by
 cases o with
 |lst xs=>obtain⟨_,_,_,_,e⟩:=x;exact Yd e
 |tup xs=>obtain⟨_,_,_,p⟩:=x;exact p.lt
 |dK av=>obtain⟨_,_,_,_,o,_,_,e,_⟩:=x;exact Yd e
 |dT av=>obtain⟨_,_,_,_,o,_,_,e,_⟩:=x;exact Yd e
 |set S n=>obtain⟨o,_,_,_,e,_⟩:=x;exact Yd e
 |ins C dx fs=>obtain⟨_,_,_,e,_⟩:=x;exact Yd e
 |own y=>obtain⟨_,e⟩:=x;exact Yd e
 |xd fs=>obtain⟨_,⟨_,_,_,e,_⟩,_⟩:=x;exact Yd e
 |e6 lo hi=>obtain⟨_,_,_,e⟩:=x;exact Yd e
 |dN ob u=>obtain⟨e,_⟩:=x;exact Yd e
 |i6 ps=>exact Yd (show h.get? a=some _ from x)
 |met f y=>exact Yd (show h.get? a=some _ from x)
 |ext φ=>obtain⟨_,⟨_,e⟩,_⟩:=x;exact Yd e
theorem Paired.iU{α β:Type}{F G:α->β->Prop}:∀{vv:List α} {vw:List β},Paired F vv vw->(∀a b,F a b->G a b)->Paired G vv vw:=by
 intro vv vw h f;induction h with
 |nil=>exact .nil
 |cons r t ih=>exact .cons (f _ _ r) ih
theorem bo.eH(x:bo P w H h a o)(k:∀b u,(b=a\/H b=some (.own a))->h.get? b=some u->h'.get? b=some u)
  (ho:∀b,H b=some (.own a)->H' b=some (.own a))(ht:∀b xs,H b=some (.tup xs)->H' b=some (.tup xs)):bo P w H' h' a o:=by
 induction o with
 |lst xs=>obtain⟨z,af,n,r,e⟩:=x;exact⟨z,af,n,r,k _ _ (.inl rfl) e⟩
 |tup xs=>obtain⟨z,af,r,ob,e,c⟩:=x;exact⟨z,af,r,ob,k _ _ (.inl rfl) e,c⟩
 |dK av=>obtain⟨z,y,vs,r,ob,es,ep,e,c⟩:=x;exact⟨z,y,vs,r,ob,es,ep,k _ _ (.inl rfl) e,c⟩
 |dT av=>
  obtain⟨z,y,xs,r,ob,es,ep,e,c⟩:=x;exact⟨z,y,xs,Paired.iU r λp q z=>⟨z.1,ht _ _ z.2.1,z.2.2⟩,ob,es,ep,k _ _ (.inl rfl) e,c⟩
 |set S n=>obtain⟨ob,es,ep,t,e,c⟩:=x;exact⟨ob,es,ep,t,k _ _ (.inl rfl) e,c⟩
 |ins C dx fs=>
  obtain⟨d,z,ne,e,mA,⟨od,es,ep,e2,c⟩,r⟩:=x;exact⟨ho _ d,z,ne,k _ _ (.inl rfl) e,mA,⟨od,es,ep,k _ _ (.inr d) e2,c⟩,r⟩
 |own y=>obtain⟨ob,e⟩:=x;exact⟨ob,k _ _ (.inl rfl) e⟩
 |xd fs=>obtain⟨mA,⟨od,es,ep,e,c⟩,r⟩:=x;exact⟨mA,⟨od,es,ep,k _ _ (.inl rfl) e,c⟩,r⟩
 |e6 lo hi=>obtain⟨t,u,v,e⟩:=x;exact⟨t,u,v,k _ _ (.inl rfl) e⟩
 |dN ob u ih=>obtain⟨e,q⟩:=x;exact⟨k _ _ (.inl rfl) e,ih q⟩
 |i6 ps=>
  have e:h.get? a=some {cls:=.none,data:=.fields ps}:=x;show h'.get? a=some {cls:=.none,data:=.fields ps};exact k a _ (.inl rfl) e
 |met f y=>
  have e:h.get? a=some (methodObj (.ref f) (.ref y)):=x;show h'.get? a=some (methodObj (.ref f) (.ref y));exact k a _ (.inl rfl) e
 |ext φ=>obtain⟨p,⟨o,e⟩,st⟩:=x;exact⟨st _ _ p λo q=>k _ _ (.inl rfl) q,⟨o,k _ _ (.inl rfl) e⟩,st⟩
theorem bw.lt(x:bw P w H h)(e:H a=some o):a<h.objs.size:=(x a o e).lt
theorem bw.fresh(x:bw P w H h)(e:h.objs.size<=a):H a=none:=by
 cases q:H a with
 |none=>rfl
 |some u=>exact absurd (Yo (x.lt q) e) (Wf _)
theorem bw.kept(x:bw P w H h)(k:∀b u,h.get? b=some u->h'.get? b=some u):bw P w H h':=λa o e=>
 (x a o e).eH (λb u _ q=>k b u q) (λ_ q=>q) λ_ _ q=>q
theorem bw.laid(x:bw P w H h)(k:∀b u,h.get? b=some u->h'.get? b=some u)(hp:h.objs.size<=a)(new:bo P w (upd H a o) h' a o):bw P w (upd H a o) h':=λb u e=>by
 have hn:=x.fresh hp;by_cases hb:b=a;·subst hb;rw[aw] at e;cases e;exact new
 ·rw[ak hb] at e;exact(x b u e).eH (λc v _ q=>k c v q) (λc q=>by rw[ak (bg q hn)];exact q) λc xs q=>by rw[ak (bg q hn)];exact q
end
def Rd(H:Hp)(a:Addr)(u:HO):Prop:=H a=some u\/∃o,H a=some (.dN o u)
theorem Rd.ok{P:Program}{w:World}{H:Hp}{h:Heap}{a:Addr}{u:HO}(r:Rd H a u)(x:bw P w H h):bo P w H h a u:=by
 rcases r with r|⟨o,r⟩;·exact x a u r
 ·obtain⟨_,q⟩:=x a _ r;exact q
def mE:Option HO->Prop
 |some (.lst _)=>True
 |some (.dK _)=>True
 |some (.dT _)=>True
 |some (.set _ _)=>True
 |some (.ins _ _ _)=>True
 |some (.ext _)=>True
 |_=>False
section
variable {P:Program}{w:World}{H:Hp}{h h':Heap}{x e:Addr}{o':HO}
theorem bw.write(ok:bw P w H h)(mu:mE (H x))(he:e=x\/H e=some (.own x))(k:∀b u,b≠e->h.get? b=some u->h'.get? b=some u)(mF:∃u,h'.get? e=some u)
  (new:bo P w (upd H x o') h' x o'):bw P w (upd H x o') h':=λb u q=>by
 have Cn:∀c y,H c=some (.own y)->c≠x:=λc y r z=>by subst z;rw[r] at mu;exact mu
 have MG:∀c xs,H c=some (.tup xs)->c≠x:=λc xs r z=>by subst z;rw[r] at mu;exact mu
 by_cases hb:b=x;·subst hb;rw[aw] at q;cases q;exact new
 ·rw[ak hb] at q;by_cases pH:b=e
  ·have q':H b=some (.own x):=by
    rcases he with z|z;·exact absurd (pH.trans z) hb
    ·rw[pH];exact z
   rw[q] at q';cases q';obtain⟨v,hv⟩:=mF;exact⟨v,by rw[pH];exact hv⟩
  ·refine(ok b u q).eH (λc v hc r=>k c v ?_ r) (λc r=>by rw[ak (Cn c b r)];exact r) λc xs r=>by rw[ak (MG c xs r)];exact r
   rcases hc with rfl|hc;·exact pH
   ·rintro rfl;rcases he with z|z;·exact Cn c b hc z
    ·rw[hc] at z;cases z;exact hb rfl
end
structure Un(fs ex:List Addr)(H H':Hp)(h h':Heap):Prop where
 keep:∀b o,h.get? b=some o->H b=none->b∉fs->b∉ex->h'.get? b=some o
 slot:∀b o,h.get? b=some o->H b=none->b∈fs->b∉ex->∃sl,h'.get? b=some {o with slots:=sl}
 free:∀b o,h.get? b=some o->H b=none->b∉ex->H' b=none
 there:∀b o,h.get? b=some o->b∉ex->∃o',h'.get? b=some o'
 cN:∀b xs,H b=some (.tup xs)->H' b=some (.tup xs)
 cH:∀b o u,H b=some (.dN o u)->H' b=some (.dN o u)
 cO:∀b ps,H b=some (.i6 ps)->∃more,H' b=some (.i6 (ps++more))
section
variable {fs vO ex Ul:List Addr}{H H1 H2:Hp}{h h1 h2 h':Heap}{a x e:Addr}{o:HO}
theorem Un.any(u:Un fs ex H H1 h h1){b:Addr}{ob:Obj}(q:h.get? b=some ob)(n:H b=none)(hx:b∉ex):∃sl,h1.get? b=some {ob with slots:=sl}:=by
 by_cases hb:b∈fs;·exact u.slot b ob q n hb hx
 ·exact⟨ob.slots,u.keep b ob q n hb hx⟩
theorem Un.trans(a:Un fs ex H H1 h h1)(b:Un fs ex H1 H2 h1 h2):Un fs ex H H2 h h2 where
 keep:=λc ob q n hc hx=>b.keep c ob (a.keep c ob q n hc hx) (a.free c ob q n hx) hc hx
 slot:=λc ob q n hc hx=>by
  obtain⟨sl,e1⟩:=a.slot c ob q n hc hx;obtain⟨Dk,e2⟩:=b.slot c _ e1 (a.free c ob q n hx) hc hx
  grind
 free:=λc ob q n hx=>by
  obtain⟨o',e1⟩:=a.there c ob q hx;exact b.free c o' e1 (a.free c ob q n hx) hx
 there:=λc ob q hx=>by
  obtain⟨o',e1⟩:=a.there c ob q hx;exact b.there c o' e1 hx
 cN:=λc xs q=>b.cN c xs (a.cN c xs q)
 cH:=λc ob xs q=>b.cH c ob xs (a.cH c ob xs q)
 cO:=λc ps q=>by
  obtain⟨m1,e1⟩:=a.cO c ps q;obtain⟨m2,e2⟩:=b.cO c _ e1
  grind
theorem Un.kept(k:∀b u,h.get? b=some u->h'.get? b=some u):Un fs ex H H h h':=
 ⟨λb ob q _ _ _=>k b ob q,λb ob q _ _ _=>⟨ob.slots,k b ob q⟩,λ_ _ _ n _=>n,λb ob q _=>⟨ob,k b ob q⟩,λ_ _ q=>q,λ_ _ _ q=>q,λ_ ps q=>⟨#[],by rw[q];simp⟩⟩
theorem Un.refl:Un fs ex H H h h:=Un.kept λ_ _ q=>q
theorem Un.laid(k:∀b u,h.get? b=some u->h'.get? b=some u)(hp:h.objs.size<=a)(hn:H a=none):Un fs ex H (upd H a o) h h' where
 keep:=λb u q _ _ _=>k b u q
 slot:=λb u q _ _ _=>⟨u.slots,k b u q⟩
 free:=λb u q n _=>by rw[ak (Yh (Yo (Yd q) hp))];exact n
 there:=λb u q _=>⟨u,k b u q⟩
 cN:=λb xs q=>by rw[ak (bg q hn)];exact q
 cH:=λb u xs q=>by rw[ak (bg q hn)];exact q
 cO:=λb ps q=>⟨#[],by rw[ak (bg q hn),q];simp⟩
theorem Un.write(mu:mE (H x))(he:e=x\/H e=some (.own x))(k:∀b u,b≠e->h.get? b=some u->h'.get? b=some u)(mF:∃u,h'.get? e=some u):Un fs ex H (upd H x o) h h':=by
 have hx:∀b,H b=none->b≠x:=λb n z=>by subst z;rw[n] at mu;exact mu
 have hb:∀b,H b=none->b≠e:=λb n z=>by
  grind
 have hm:∀b u,H b=some u->¬mE (some u)->b≠x:=λb u q nm z=>by subst z;rw[q] at mu;exact nm mu
 refine⟨λb u q n _ _=>k b u (hb b n) q,λb u q n _ _=>⟨u.slots,k b u (hb b n) q⟩,λb u q n _=>by rw[ak (hx b n)];exact n,λb u q _=>?_,
  λb xs q=>by rw[ak (hm b _ q λz=>z)];exact q,λb u xs q=>by rw[ak (hm b _ q λz=>z)];exact q,λb ps q=>⟨#[],by rw[ak (hm b _ q λz=>z),q];simp⟩⟩
 grind
end
def kJ(h:Heap)(H:Hp):List Addr:=(List.range h.objs.size).filter λa=>(H a).isSome
def gB(h:Heap)(H:Hp):Heap:=PySem.W.hideAll h (kJ h H)
theorem HZ(h:Heap)(H:Hp):(gB h H).objs.size=h.objs.size:=PySem.W.hideAll_size _ _
theorem IV{h:Heap}{H:Hp}{b:Addr}{o:Obj}(e:h.get? b=some o)(n:H b=none):(gB h H).get? b=some o:=
 PySem.W.hideAll_get _ e λhm=>by
  have q:=(List.mem_filter.mp hm).2
  grind
theorem JP{h:Heap}{H:Hp}{b:Addr}{o:Obj}(e:(gB h H).get? b=some o):h.get? b=some o/\H b=none:=by
 have e':=PySem.W.of_hideAll (kJ h H) e;refine⟨e',?_⟩;cases q:H b with
 |none=>rfl
 |some x=>
  have z:(gB h H).get? b=none:=PySem.W.hideAll_none (kJ h H) (List.mem_filter.mpr ⟨W3.mpr (Yd e'),by simp[q]⟩)
  grind
structure Mod(K:ae)(mg:aF)(base:Heap):Prop where
 eJ:K.In base
 glob:base.Ns mainGlobals mg
 blt:∃mb,base.Ns builtinsNs mb/\∀x:Str,x≠"__name__"->mb x=bootBuiltins x
 nolimit:base.NoLimit
structure Cx where
 prog:Program
 w:World
 K:ae
 mg:Str->Option Value
 base:Heap
 A:Around
 N:List Str
 bG:Shared
 hZ:Hp
 env:Env
 outer:List Env
 stack:List Env
 ex:List Addr
 fn:Str->Bool
 calm:Bool
 pn:List (Addr×Obj)
 xe:Value->Shared->Prop
abbrev Cx.md(X:Cx):=model X.prog X.w
abbrev cR(X:Cx)(e:Expr)(es:List Expr):Prop:=starEach (e::es) X.env=(false,eval e X.env)::starEach es X.env
abbrev cX(X:Cx)(pos:Pos)(es:List Expr):Prop:=(backTo pos (starEach es X.env)).any (·.1)=false
def aO(l:List Env):List Addr:=l.filterMap (·.frame)
abbrev Cx.fs(X:Cx):List Addr:=aO X.outer
def kK(sc:Scope)(x:Str):Prop:=sc.names.lookup x=some .local\/sc.names.lookup x=some .cell\/sc.names.lookup x=some .free
def Loc(sc:Scope)(x:Str):Prop:=sc.names.lookup x=some .local\/sc.names.lookup x=some .cell
def Look(env:Env)(h:Heap)(m:aF)(x:Str)(u:Value):Prop:=
 (env.kindOf x=some .local/\m x=some u)\/((env.kindOf x=some .cell\/env.kindOf x=some .free)/\∃c,env.cells.lookup x=some c/\h.IsCell c (some u))
structure Cx.Ok(X:Cx):Prop where
 mod:Mod X.K X.mg X.base
 kind:X.env.scope.kind=.function
 glob:X.env.globals=mainGlobals
 blt:X.env.builtins=builtinsNs
 above:X.bG.heap.objs.size<=X.env.locals
 inj:∀x y c,X.env.cells.lookup x=some c->X.env.cells.lookup y=some c->x=y
 has:∀x,(X.env.kindOf x=some .cell\/X.env.kindOf x=some .free)->∃c,X.env.cells.lookup x=some c
 i7:∀x c,X.fn x=true->X.env.cells.lookup x=some c->X.bG.heap.objs.size<=c
 hd:X.calm=true->X.A.handled=none
 frames:X.A.frames=some X.stack
 kL:X.stack=X.outer\/(X.stack=X.env::X.outer/\X.env.frame=some X.env.locals)
 kM:∀b∈X.ex,b≠X.env.locals/\∀x c,X.env.cells.lookup x=some c->c≠b
 bs:∀b o,X.base.get? b=some o->X.bG.heap.get? b=some o/\X.hZ b=none
 eK:X.base.objs.size<=X.bG.heap.objs.size
 iV:∀b o,X.base.get? b=some o->b∉X.ex
 iW:∀b∈X.ex,b∉X.fs
 dh:X.bG.heap.FunFrames X.base X.outer
 fK:∀b∈X.fs,X.hZ b=none
structure Inv(X:Cx)(pins:ax)(σ:List (Option V))(H:Hp)(s:Shared):Prop where
 ok:X.Ok
 os:s.os=X.bG.os
 bare:AllBare s.gens
 base:Un X.fs X.ex X.hZ H X.bG.heap s.heap
 loc:∃m,s.heap.Ns X.env.locals m/\∀(i:Nat) (x:Str) (v:V),X.N[i]?=some x->σ[i]?=some (some v)->kK X.env.scope x->∃u,RelV v u/\Look X.env s.heap m x u
 cell:∀x c,X.env.cells.lookup x=some c->∃v,s.heap.IsCell c v
 free:H X.env.locals=none
 de:∀x c,X.env.cells.lookup x=some c->H c=none
 pin:∀p∈X.pn++pins,s.heap.get? p.1=some p.2/\H p.1=none/\p.1≠X.env.locals/\p.1∉X.fs/\∀v,p.2.data≠.cell v
 ah:bw X.prog X.w H s.heap
 len:σ.length=X.N.length
section
variable {X:Cx}{pins:ax}{σ:List (Option V)}{H H':Hp}{s:Shared}{h':Heap}
theorem Cx.Ok.MH(ok:X.Ok){b:Addr}{o:Obj}(e:X.base.get? b=some o):b∉X.fs:=λhb=>by
 have:=(ok.dh.mem hb).1
 grind
theorem Inv.bs(I:Inv X pins σ H s):∀b o,X.base.get? b=some o->s.heap.get? b=some o/\H b=none:=λb o e=>
 ⟨I.base.keep b o (I.ok.bs b o e).1 (I.ok.bs b o e).2 (I.ok.MH e) (I.ok.iV b o e),I.base.free b o (I.ok.bs b o e).1 (I.ok.bs b o e).2 (I.ok.iV b o e)⟩
theorem Inv.bk(I:Inv X pins σ H s):∀b o,X.base.get? b=some o->s.heap.get? b=some o:=λb o e=>(I.bs b o e).1
theorem Inv.mod(I:Inv X pins σ H s):Mod X.K X.mg X.base:=I.ok.mod
theorem Inv.aI(I:Inv X pins σ H s):X.K.In s.heap:=I.ok.mod.eJ.keeps I.bk
theorem Inv.lt(I:Inv X pins σ H s):X.env.locals<s.heap.objs.size:=let⟨_,hn,_⟩:=I.loc;hn.lt
theorem Inv.sz(I:Inv X pins σ H s):X.bG.heap.objs.size<=s.heap.objs.size:=Yn I.ok.above (Wo I.lt)
theorem Inv.MI(I:Inv X pins σ H s){a:Addr}(h:s.heap.objs.size<=a):a∉X.fs:=λhb=>by
 obtain⟨_,o,ho,_⟩:=I.ok.dh.mem hb;exact absurd (Yo (Yd ho) (Yn I.sz h)) (Wf _)
theorem Inv.gG(I:Inv X pins σ H s):∀x c,X.env.cells.lookup x=some c->c≠X.env.locals:=λx c e z=>by
 obtain⟨v,o,ho,hd⟩:=I.cell x c e;obtain⟨m,⟨o',es,ep,kN,kO,_⟩,_⟩:=I.loc
 grind
theorem Inv.dh(I:Inv X pins σ H s):s.heap.FunFrames X.base X.outer:=by
 have all:∀(l:List Env),(∀b∈aO l,b∈X.fs)->X.bG.heap.FunFrames X.base l->s.heap.FunFrames X.base l:=by
  intro l;induction l with
  |nil=>intro _ _;trivial
  |cons env r ih=>
   rintro hs ⟨hk,⟨L,o,hf,hn,ho,hd⟩,hr⟩;have hL:=hs L (by unfold aO;rw[Wl,hf];exact Y2);obtain⟨sl,e⟩:=I.base.slot L o ho (I.ok.fK L hL) hL λz=>I.ok.iW L z hL;exact⟨hk,⟨L,_,hf,hn,e,hd⟩,ih (λb hb=>hs b (by unfold aO;rw[Wl,hf];exact Yw _ hb)) hr⟩
 exact all X.outer (λ_ hb=>hb) I.ok.dh
theorem Inv.stack(I:Inv X pins σ H s):s.heap.FunFrames X.base X.stack:=by
 rcases I.ok.kL with e|⟨e,hf⟩;·rw[e];exact I.dh
 ·rw[e];obtain⟨m,hn,_⟩:=I.loc;refine .cons (by rw[I.ok.kind];decide) hf hn ?_ I.dh;exact Heap.get?_none_of_le (Yn I.ok.eK I.ok.above)
theorem Inv.uD(I:Inv X pins σ H s):∀b∈aO X.stack,b∈X.env.locals::X.fs:=λb hb=>by
 rcases I.ok.kL with e|⟨e,hf⟩;·grind
 ·rw[e] at hb;unfold aO at hb;rw[Wl,hf] at hb;exact hb
theorem Inv.jX(I:Inv X pins σ H s):∀b∈aO X.stack,H b=none:=λb hb=>by
 rcases Yr.mp (I.uD b hb) with e|hb;·rw[e];exact I.free
 ·obtain⟨_,o,ho,_⟩:=I.ok.dh.mem hb;exact I.base.free b o ho (I.ok.fK b hb) λz=>I.ok.iW b z hb
theorem Inv.step{g':Array GenState}{t':Nat}{d':Drawn}{ch:List Addr}(I:Inv X pins σ H s)
  (fL:∀b∈ch,(b∈X.ex\/X.bG.heap.objs.size<=b)/\b≠X.env.locals/\(∀x c,X.env.cells.lookup x=some c->c≠b)/\∀p∈X.pn++pins,p.1≠b)
  (keep:∀b o,b≠X.env.locals->b∉X.fs->b∉ch->s.heap.get? b=some o->H b=none->h'.get? b=some o)
  (slot:∀b o,b≠X.env.locals->b∈X.fs->b∉ch->s.heap.get? b=some o->H b=none->∃sl,h'.get? b=some {o with slots:=sl})(free:∀b o,b∉ch->s.heap.get? b=some o->H b=none->H' b=none)
  (there:∀b o,b∉ch->s.heap.get? b=some o->∃o',h'.get? b=some o')
  (cN:∀b xs,H b=some (.tup xs)->H' b=some (.tup xs))(cH:∀b o u,H b=some (.dN o u)->H' b=some (.dN o u))(cO:∀b ps,H b=some (.i6 ps)->∃more,H' b=some (.i6 (ps++more)))
  (ns:∀m,s.heap.Ns X.env.locals m->h'.Ns X.env.locals m)(ah:bw X.prog X.w H' h')(hg:AllBare g'):
  Inv X pins σ H' {s with heap:=h',gens:=g',drawn:=d',toks:=t'}:=by
 have Dm:∀b o,X.bG.heap.get? b=some o->b≠X.env.locals:=λb o e=>Yh (Yo (Yd e) I.ok.above);have pI:∀b o,X.bG.heap.get? b=some o->b∉X.ex->b∉ch:=λb o e hx hb=>by
  rcases(fL b hb).1 with z|z;·exact hx z
  ·exact absurd (Yo (Yd e) z) (Wf _)
 have cellK:∀x c,X.env.cells.lookup x=some c->∀v,s.heap.IsCell c v->h'.IsCell c v:=λx c e v ⟨o,ho,hd⟩=>by
  have mG:c∉ch:=λz=>(fL c z).2.2.1 x c e rfl;by_cases hc:c∈X.fs
  ·obtain⟨sl,q⟩:=slot c o (I.gG x c e) hc mG ho (I.de x c e);exact⟨_,q,hd⟩
  ·exact⟨o,keep c o (I.gG x c e) hc mG ho (I.de x c e),hd⟩
 refine⟨I.ok,I.os,hg,⟨λb o e n hb hx=>?_,λb o e n hb hx=>?_,λb o e n hx=>?_,λb o e hx=>?_,λb xs e=>cN b xs (I.base.cN b xs e),λb o xs e=>cH b o xs (I.base.cH b o xs e),λb ps e=>?_⟩,?_,λx c e=>?_,?_,λx c e=>?_,λp hp=>?_,ah,I.len⟩;·exact keep b o (Dm b o e) hb (pI b o e hx) (I.base.keep b o e n hb hx) (I.base.free b o e n hx)
 ·obtain⟨sl,e1⟩:=I.base.slot b o e n hb hx;obtain⟨Dk,e2⟩:=slot b _ (Dm b o e) hb (pI b o e hx) e1 (I.base.free b o e n hx);exact⟨Dk,e2⟩
 ·obtain⟨o',e1⟩:=I.base.there b o e hx;exact free b o' (pI b o e hx) e1 (I.base.free b o e n hx)
 ·obtain⟨o',e1⟩:=I.base.there b o e hx;exact there b o' (pI b o e hx) e1
 ·obtain⟨m1,e1⟩:=I.base.cO b ps e;obtain⟨m2,e2⟩:=cO b _ e1;exact⟨m1++m2,by rw[e2,Array.append_assoc]⟩
 ·obtain⟨m,hn,hl⟩:=I.loc;refine⟨m,ns m hn,λi x v e1 e2 e3=>?_⟩;obtain⟨u,r,l⟩:=hl i x v e1 e2 e3;refine⟨u,r,?_⟩;rcases l with l|⟨k,c,e,z⟩;·exact .inl l
  ·exact .inr ⟨k,c,e,cellK x c e _ z⟩
 ·obtain⟨v,z⟩:=I.cell x c e;exact⟨v,cellK x c e v z⟩
 ·obtain⟨m,⟨o,_,_,ho,_⟩,_⟩:=I.loc;exact free _ o (λz=>(fL _ z).2.1 rfl) ho I.free
 ·obtain⟨v,o,ho,hd⟩:=I.cell x c e;exact free c o (λz=>(fL c z).2.2.1 x c e rfl) ho (I.de x c e)
 ·obtain⟨e,n,ne,nf,d⟩:=I.pin p hp;have mG:p.1∉ch:=λz=>(fL p.1 z).2.2.2 p hp rfl;exact⟨keep p.1 p.2 ne nf mG e n,free p.1 p.2 mG e n,ne,nf,d⟩
theorem Inv.un{t':Nat}(I:Inv X pins σ H s)(u:Un X.fs [] H H' s.heap h')(ah:bw X.prog X.w H' h'):Inv X pins σ H' {s with heap:=h',toks:=t'}:=by
 obtain⟨m,⟨o,es,ep,ho,r⟩,_⟩:=id I.loc;obtain⟨sl,hL⟩:=u.any ho I.free (by simp);exact I.step (g':=s.gens) (d':=s.drawn) (ch:=[]) (λ_ z=>nomatch z) (λb o _ hb _ e n=>u.keep b o e n hb (by simp)) (λb o _ hb _ e n=>u.slot b o e n hb (by simp)) (λb o _ e n=>u.free b o e n (by simp)) (λb o _ e=>u.there b o e (by simp)) u.cN u.cH u.cO (λm' hm=>by
  obtain⟨o',vP,vQ,kN,r'⟩:=hm;rw[ho] at kN;cases kN;exact⟨_,vP,vQ,hL,r'⟩) ah I.bare
theorem Inv.call{g':Array GenState}{t':Nat}{d':Drawn}{ch:List Addr}(I:Inv X pins σ H s)(u:Un (aO X.stack) ch H H' s.heap h')(ah:bw X.prog X.w H' h')(hg:AllBare g')
  (fL:∀b∈ch,(b∈X.ex\/X.bG.heap.objs.size<=b)/\b≠X.env.locals/\(∀x c,X.env.cells.lookup x=some c->c≠b)/\∀p∈X.pn++pins,p.1≠b):
  Inv X pins σ H' {s with heap:=h',gens:=g',drawn:=d',toks:=t'}:=by
 obtain⟨m,⟨o,es,ep,ho,r⟩,_⟩:=id I.loc;obtain⟨sl,hL⟩:=u.any ho I.free λz=>(fL _ z).2.1 rfl;exact I.step (ch:=ch) fL (λb o hL hb hc e n=>u.keep b o e n (λz=>(Yr.mp (I.uD b z)).elim hL hb) hc) (λb o _ _ hc e n=>u.any e n hc) (λb o hc e n=>u.free b o e n hc) (λb o hc e=>u.there b o e hc) u.cN u.cH u.cO (λm' hm=>by
  obtain⟨o',vP,vQ,kN,r'⟩:=hm;rw[ho] at kN;cases kN;exact⟨_,vP,vQ,hL,r'⟩) ah hg
theorem Inv.turned{t':Nat}{it:Addr}(I:Inv X pins σ H s)(k:∀b o,b≠it->s.heap.get? b=some o->h'.get? b=some o)(hn:H it=none)(hL:it≠X.env.locals)
  (h1:it∈X.ex\/X.bG.heap.objs.size<=it)(h2:∀x c,X.env.cells.lookup x=some c->c≠it)(h3:∀p∈X.pn++pins,p.1≠it):Inv X pins σ H {s with heap:=h',toks:=t'}:=by
 have Dn:∀b u,H b=some u->b≠it:=λb u e z=>by rw[z,hn] at e;cases e
 refine I.step (g':=s.gens) (d':=s.drawn) (ch:=[it]) (λb hb=>?_) (λb o _ _ hc e _=>k b o (λz=>hc (by simp[z])) e) (λb o _ _ hc e _=>⟨o.slots,k b o (λz=>hc (by simp[z])) e⟩) (λ_ _ _ _ n=>n)
  (λb o hc e=>⟨o,k b o (λz=>hc (by simp[z])) e⟩) (λ_ _ e=>e) (λ_ _ _ e=>e) (λb ps e=>⟨#[],by rw[e];simp⟩) (λm hm=>?_) (λb u e=>?_) I.bare
 ·have e:b=it:=by simpa using hb
  subst e;exact⟨h1,hL,h2,h3⟩
 ·obtain⟨o,es,ep,ho,r⟩:=hm;exact⟨o,es,ep,k _ o (Ne.symm hL) ho,r⟩
 ·refine(I.ah b u e).eH (λc v hc q=>k c v ?_ q) (λ_ q=>q) λ_ _ q=>q;rcases hc with z|z;·rw[z];exact Dn b u e
  ·exact Dn c _ z
theorem Inv.tok(I:Inv X pins σ H s)(t:Nat):Inv X pins σ H {s with toks:=t}:=I.un (h':=s.heap) (t':=t) Un.refl I.ah
theorem Inv.kept{t':Nat}(I:Inv X pins σ H s)(k:∀b u,s.heap.get? b=some u->h'.get? b=some u):Inv X pins σ H {s with heap:=h',toks:=t'}:=I.un (Un.kept k) (I.ah.kept k)
theorem Inv.laid{a:Addr}{o:HO}{t':Nat}(I:Inv X pins σ H s)(k:∀b u,s.heap.get? b=some u->h'.get? b=some u)(hp:s.heap.objs.size<=a)(new:bo X.prog X.w (upd H a o) h' a o):
  Inv X pins σ (upd H a o) {s with heap:=h',toks:=t'}:=I.un (Un.laid k hp (I.ah.fresh hp)) (I.ah.laid k hp new)
theorem Inv.write{x e:Addr}{o:HO}{t':Nat}(I:Inv X pins σ H s)(mu:mE (H x))(he:e=x\/H e=some (.own x))(k:∀b u,b≠e->s.heap.get? b=some u->h'.get? b=some u)(mF:∃u,h'.get? e=some u)
  (new:bo X.prog X.w (upd H x o) h' x o):Inv X pins σ (upd H x o) {s with heap:=h',toks:=t'}:=I.un (Un.write mu he k mF) (I.ah.write mu he k mF new)
theorem Inv.Az{oO:ax}(I:Inv X pins σ H s)(h:∀p∈oO,s.heap.get? p.1=some p.2/\H p.1=none/\p.1≠X.env.locals/\p.1∉X.fs/\∀v,p.2.data≠.cell v):Inv X oO σ H s:=
 ⟨I.ok,I.os,I.bare,I.base,I.loc,I.cell,I.free,I.de,λp hp=>(Jf.mp hp).elim (λz=>I.pin p (W7 _ z)) (h p),I.ah,I.len⟩
theorem tM{N:List Str}(hN:N.Nodup){i j:Nat}{x:Str}(a:N[i]?=some x)(b:N[j]?=some x):i=j:=by
 obtain⟨h1,e1⟩:=Yk.mp a;obtain⟨h2,e2⟩:=Yk.mp b;exact(List.getElem_inj hN).mp (e1.trans e2.symm)
theorem zy{M:Model}{A:Around}{E:aC}{i:Nat}{x:Str}{v:V}{u:Value}{Q:Unit->Shared->Prop}(I:Inv X pins σ H s)(hN:X.N.Nodup)(hi:X.N[i]?=some x)(hx:Loc X.env.scope x)(r:RelV v u)
  (h:∀s',Inv X pins (σ.set i (some v)) H s'->(∃a,Heap.SameBut a s.heap s'.heap/\(a=X.env.locals\/X.env.cells.lookup x=some a))->Q () s')(hf:X.fn x=true\/X.env.scope.names.lookup x=some .local:=by first|exact .inl rfl|exact .inr rfl|assumption):wpAny M A (storeName X.env x u) Q E s:=by
 obtain⟨m,hn,hl⟩:=id I.loc;have MJ:(X.env.scope.kind==.class||(X.env.scope.kind==.module&&X.env.locals !=X.env.globals))=false:=by rw[I.ok.kind];rfl
 have Co:i<σ.length:=by rw[I.len];exact(Yk.mp hi).1
 have gG:=I.gG;have tracked:∀{a:Addr} {h':Heap},(∃o,s.heap.get? a=some o/\H a=none)->Heap.SameBut a s.heap h'->bw X.prog X.w H h':=λ{a h'} ha hs b ob e=>by
  obtain⟨_,_,BX⟩:=ha;refine(I.ah b ob e).eH (λc w' hc q=>(hs.2 c ?_).trans q) (λ_ q=>q) λ_ _ q=>q;rintro rfl;rcases hc with rfl|hc;·rw[BX] at e;cases e
  ·rw[BX] at hc;cases hc
 rcases hx with hk|hk
 ·refine wpAny_storeName_local hk hn (λh' eL hs=>?_) MJ;obtain⟨oL,_,_,mH,_⟩:=id hn;refine h _ ⟨I.ok,I.os,I.bare,⟨λb o e n hb hx=>?_,λb o e n hb hx=>?_,I.base.free,λb o e hx=>?_,I.base.cN,I.base.cH,I.base.cO⟩,⟨_,eL,λj y v' e1 e2 e3=>?_⟩,λy c e=>?_,I.free,I.de,λp hp=>?_,tracked ⟨oL,mH,I.free⟩ hs,by simpa using I.len⟩ ⟨_,hs,.inl rfl⟩;·exact(hs.2 b (Yh (Yo (Yd e) I.ok.above))).trans (I.base.keep b o e n hb hx)
  ·obtain⟨sl,e1⟩:=I.base.slot b o e n hb hx;exact⟨sl,(hs.2 b (Yh (Yo (Yd e) I.ok.above))).trans e1⟩
  ·obtain⟨o',e1⟩:=I.base.there b o e hx;exact⟨o',(hs.2 b (Yh (Yo (Yd e) I.ok.above))).trans e1⟩
  ·by_cases hj:j=i
   ·subst hj;rw[hi] at e1;cases e1;rw[List.getElem?_set_self Co] at e2;cases e2;exact⟨u,r,.inl ⟨hk,by simp⟩⟩
   ·rw[W8 (Ne.symm hj)] at e2;obtain⟨u',r',q⟩:=hl j y v' e1 e2 e3;refine⟨u',r',?_⟩;rcases q with⟨k,e⟩|⟨k,c,e,z⟩
    ·refine .inl ⟨k,?_⟩;have:y≠x:=λe=>hj (tM hN e1 (e▸hi));simp[this,e]
    ·exact .inr ⟨k,c,e,z.sameBut hs (gG y c e)⟩
  ·obtain⟨w',z⟩:=I.cell y c e;exact⟨w',z.sameBut hs (gG y c e)⟩
  ·obtain⟨e,n,ne,nf,d⟩:=I.pin p hp;exact⟨(hs.2 p.1 ne).trans e,n,ne,nf,d⟩
 ·have vR:X.fn x=true:=by
   rcases hf with z|z;·exact z
   ·rw[z] at hk;cases hk
  obtain⟨c,hc⟩:=I.ok.has x (.inl hk);obtain⟨w',z⟩:=I.cell x c hc;refine wpAny_storeName_cell I.ok.kind hk hc z (λh' Dp hs=>?_);obtain⟨oc,Dq,MK⟩:=id z;refine h {s with heap:=h'} ⟨I.ok,I.os,I.bare,⟨λb o e n hb hx=>?_,λb o e n hb hx=>?_,I.base.free,λb o e hx=>?_,I.base.cN,I.base.cH,I.base.cO⟩,⟨m,hn.sameBut hs (Ne.symm (gG x c hc)),λj y v' e1 e2 e3=>?_⟩,λy c' e=>?_,I.free,I.de,λp hp=>?_,tracked ⟨oc,Dq,I.de x c hc⟩ hs,by simpa using I.len⟩ ⟨c,hs,.inr hc⟩;·exact(hs.2 b (Yh (Yo (Yd e) (I.ok.i7 x c vR hc)))).trans (I.base.keep b o e n hb hx)
  ·obtain⟨sl,e1⟩:=I.base.slot b o e n hb hx;exact⟨sl,(hs.2 b (Yh (Yo (Yd e) (I.ok.i7 x c vR hc)))).trans e1⟩
  ·obtain⟨o',e1⟩:=I.base.there b o e hx;exact⟨o',(hs.2 b (Yh (Yo (Yd e) (I.ok.i7 x c vR hc)))).trans e1⟩
  ·by_cases hj:j=i
   ·subst hj;rw[hi] at e1;cases e1;rw[List.getElem?_set_self Co] at e2;cases e2;exact⟨u,r,.inr ⟨.inl hk,c,hc,Dp⟩⟩
   ·rw[W8 (Ne.symm hj)] at e2;obtain⟨u',r',q⟩:=hl j y v' e1 e2 e3;refine⟨u',r',?_⟩;rcases q with q|⟨k,c',e,z'⟩;·exact .inl q
    ·refine .inr ⟨k,c',e,z'.sameBut hs ?_⟩;rintro rfl;exact hj (tM hN e1 (I.ok.inj _ _ _ e hc▸hi))
  ·by_cases Dr:c'=c;·subst Dr;exact⟨_,Dp⟩
   ·obtain⟨w2,z2⟩:=I.cell y c' e;exact⟨w2,z2.sameBut hs Dr⟩
  ·obtain⟨e,n,ne,nf,d⟩:=I.pin p hp;refine⟨(hs.2 p.1 ?_).trans e,n,ne,nf,d⟩;intro q;rw[q,Dq] at e;have q':oc=p.2:=Yl e;exact d w' (by rw[←q'];exact MK)
theorem tN{M:Model}{A:Around}{E:aC}{i:Nat}{x:Str}{v:V}{u:Value}{Q:Unit->Shared->Prop}(I:Inv X pins σ H s)(hN:X.N.Nodup)(hi:X.N[i]?=some x)(hx:Loc X.env.scope x)(r:RelV v u)
  (h:∀s',Inv X pins (σ.set i (some v)) H s'->Q () s')(hf:X.fn x=true\/X.env.scope.names.lookup x=some .local:=by first|exact .inl rfl|exact .inr rfl|assumption):wpAny M A (storeName X.env x u) Q E s:=
 zy I hN hi hx r (λs' I' _=>h s' I') hf
theorem Inv.lY{s':Shared}{ch:List Addr}(I:Inv X pins σ H s)(ho:s'.os=s.os)(u:Un (aO X.stack) ch H H' s.heap s'.heap)(ah:bw X.prog X.w H' s'.heap)(hg:AllBare s'.gens)
  (fL:∀b∈ch,(b∈X.ex\/X.bG.heap.objs.size<=b)/\b≠X.env.locals/\(∀x c,X.env.cells.lookup x=some c->c≠b)/\∀p∈X.pn++pins,p.1≠b):Inv X pins σ H' s':=by
 obtain⟨h',g',d',t',o'⟩:=s';have e:o'=s.os:=ho;subst e;exact I.call (g':=g') (t':=t') (d':=d') u ah hg fL
end
abbrev XK:=Value->Option Addr->Hp->Prop
abbrev St:=List (Option V)
abbrev VK:=V->Hp->Prop
abbrev TE:=St->Hp->VK->Prop
abbrev TT:=St->Hp->(Bool->Hp->Prop)->Prop
abbrev TA:=St->Hp->(List V->Hp->Prop)->Prop
structure Ends where
 nx:St->Hp->Prop
 rt:VK
 bk:St->Hp->Prop:=λ_ _=>False
 ct:St->Hp->Prop:=λ_ _=>False
abbrev TS:=Ends->St->Hp->Prop
inductive Cp(X:Cx)(pins:ax)(σ:St)(Q:VK)(u:Value)(s':Shared):Prop
 |mk (v H') (aP:Inv X pins σ H' s') (aQ:RelV v u) (bc:Q v H'):Cp X pins σ Q u s'
def EP(X:Cx)(pins:ax)(σ:St)(Q:VK)(u:Value)(s':Shared):Prop:=Cp X pins σ Q u s'
inductive Cq(X:Cx)(pins:ax)(σ:St)(R:Hp->Prop)(s':Shared):Prop
 |mk (H':Hp) (aP:Inv X pins σ H' s') (aQ:R H'):Cq X pins σ R s'
def TP(X:Cx)(pins:ax)(σ:St)(Q:Bool->Hp->Prop)(b:Bool)(s':Shared):Prop:=Cq X pins σ (Q b) s'
inductive Cr(X:Cx)(pins:ax)(σ:St)(Q:List V->Hp->Prop)(us:List Value)(s':Shared):Prop
 |mk (vs H') (aP:Inv X pins σ H' s') (aQ:Vals vs us) (bc:Q vs H'):Cr X pins σ Q us s'
def AP(X:Cx)(pins:ax)(σ:St)(Q:List V->Hp->Prop)(us:List Value)(s':Shared):Prop:=Cr X pins σ Q us s'
inductive kB(X:Cx)(pins:ax)(Q:St->Hp->Prop)(s':Shared):Prop
 |mk (aB:St) (H':Hp) (aP:Inv X pins aB H' s') (aQ:Q aB H'):kB X pins Q s'
inductive Cs(X:Cx)(pins:ax)(Q:VK)(u:Value)(s':Shared):Prop
 |mk (v:V) (aB:St) (H':Hp) (aP:Inv X pins aB H' s') (aQ:RelV v u) (bc:Q v H'):Cs X pins Q u s'
def SP(X:Cx)(pins:ax)(D:Ends)(f:Flow)(s':Shared):Prop:=
 match f with
 |.next=>kB X pins D.nx s'
 |.brk=>kB X pins D.bk s'
 |.cont=>kB X pins D.ct s'
 |.ret u=>Cs X pins D.rt u s'
def PE(X:Cx)(e:Expr)(t:TE):Prop:=
 ∀(pins:ax) (s:Shared) (σ:St) (H:Hp) (Q:VK),Inv X pins σ H s->t σ H Q->wpAny X.md X.A (eval e X.env) (EP X pins σ Q) X.xe s
def PT(X:Cx)(e:Expr)(t:TT):Prop:=
 ∀(pins:ax) (s:Shared) (σ:St) (H:Hp) (Q:Bool->Hp->Prop),Inv X pins σ H s->t σ H Q->wpAny X.md X.A (isTrue e X.env (eval e X.env)) (TP X pins σ Q) X.xe s
def PW(X:Cx)(e:Expr)(t:TT):Prop:=
 ∀(whole:Sem Value) (pins:ax) (s:Shared) (σ:St) (H:Hp) (Q:Bool->Hp->Prop),Inv X pins σ H s->t σ H Q->wpAny X.md X.A (isTrue e X.env whole) (TP X pins σ Q) X.xe s
theorem PW.pt{X:Cx}{e:Expr}{t:TT}(h:PW X e t):PT X e t:=h _
def PA(X:Cx)(es:List Expr)(t:TA):Prop:=
 ∀(pos:Pos) (pins:ax) (s:Shared) (σ:St) (H:Hp) (Q:List V->Hp->Prop),Inv X pins σ H s->t σ H Q->wpAny X.md X.A (spliced (backTo pos (starEach es X.env))) (AP X pins σ Q) X.xe s
def PS(X:Cx)(st:Stmt)(t:TS):Prop:=
 ∀(pins:ax) (s:Shared) (σ:St) (H:Hp) (D:Ends),Inv X pins σ H s->t D σ H->wpAny X.md X.A (exec st X.env) (SP X pins D) X.xe s
def cv(X:Cx)(st:List Stmt)(t:TS):Prop:=
 ∀(pins:ax) (s:Shared) (σ:St) (H:Hp) (D:Ends),Inv X pins σ H s->t D σ H->wpAny X.md X.A (execs st X.env) (SP X pins D) X.xe s
theorem ay{α:Type}{t:Sem α}{Q Q':α->Shared->Prop}{M:Model}{A:Around}{E:aC}{s:Shared}(h:wpAny M A t Q E s)(hQ:∀a s,Q a s->Q' a s):wpAny M A t Q' E s:=wpAny_mono h hQ λ_ _ x=>x
section
variable {X:Cx}
inductive Bi(i:Nat)(σ:St)(H:Hp)(Q:VK):Prop
 |mk (v) (aP:σ[i]?=some (some v)) (aQ:Q v H):Bi i σ H Q
def di(i:Nat):TE:=λσ H Q=>Bi i σ H Q
def tC(v:V):TE:=λ_ H Q=>Q v H
theorem KQ{i:Nat}{x:Str}{pos:Pos}(hN:X.N[i]?=some x)(hv:kK X.env.scope x)(hd:(x==("__debug__":Str))=false:=by decide)(bW:(x==("__classdict__":Str))=false:=by decide):PE X (.Name x pos) (di i):=by
 rintro pins s σ H Q I ⟨v,e,h⟩;obtain⟨m,hn,hl⟩:=I.loc;obtain⟨u,r,l⟩:=hl i x v hN e hv;have fin:EP X pins σ Q u s:=⟨v,H,I,r,h⟩;rcases l with⟨hk,hm⟩|⟨hk,c,hc,BY⟩;·exact wpAny_Name (wpAny_loadName_local I.ok.kind hk hn hm fin) hd
 ·rcases hk with hk|hk;·exact wpAny_Name (wpAny_loadName_cell I.ok.kind hk hc BY fin) hd
  ·exact wpAny_Name (wpAny_loadName_free I.ok.kind hk hc BY fin bW) hd
theorem aE{i j pos}:PE X (.Constant (.int i) j pos) (tC (.int i)):=λ_ _ _ H _ I h=>wpAny_Constant_int ⟨.int i,H,I.tok _,⟨_,rfl⟩,h⟩
theorem eE{b j pos}:PE X (.Constant (.bool b) j pos) (tC (.bl b)):=λ_ _ _ H _ I h=>Constant_bool ⟨.bl b,H,I,rfl,h⟩
theorem lM{j pos}:PE X (.Constant .none j pos) (tC .ao):=λ_ _ _ H _ I h=>Constant_none ⟨.ao,H,I,rfl,h⟩
theorem aK{x j pos}:PE X (.Constant (.str x) j pos) (tC (.str x)):=λ_ _ _ H _ I h=>Calls.Constant_str ⟨.str x,H,I.tok _,⟨_,rfl⟩,h⟩
def Gl(X:Cx)(x:Str):Prop:=X.env.kindOf x=some .globalImplicit
theorem eC{E:aC}{pins:ax}{s:Shared}{σ:St}{H:Hp}{x:Str}{u:Value}{pos:Pos}{Q:aC}(I:Inv X pins σ H s)(hg:Gl X x)(hm:X.mg x=some u)(h:Q u s)
  (hd:(x==("__debug__":Str))=false:=by decide):wpAny X.md X.A (eval (.Name x pos) X.env) Q E s:=
 Calls.Name_function_global I.ok.kind hg (Calls.loadGlobal_global (by rw[I.ok.glob];exact I.mod.glob.keeps I.bk) hm h) hd
theorem lN{E:aC}{pins:ax}{s:Shared}{σ:St}{H:Hp}{x:Str}{u:Value}{pos:Pos}{Q:aC}(I:Inv X pins σ H s)(hg:Gl X x)(hm:X.mg x=none)(hv:bootBuiltins x=some u)(h:Q u s)
  (hn:x≠"__name__":=by decide)(hd:(x==("__debug__":Str))=false:=by decide):wpAny X.md X.A (eval (.Name x pos) X.env) Q E s:=by
 obtain⟨mb,h1,h2⟩:=I.mod.blt;exact Calls.Name_function_global I.ok.kind hg (Calls.loadGlobal_builtin (by rw[I.ok.glob];exact I.mod.glob.keeps I.bk) hm (by rw[I.ok.blt];exact h1.keeps I.bk) ((h2 x hn).trans hv) h) hd
theorem gZ{x:Str}{v:V}{u:Value}{pos:Pos}(hg:Gl X x)(hm:X.mg x=some u)(r:RelV v u)(hd:(x==("__debug__":Str))=false:=by decide):PE X (.Name x pos) (tC v):=
 λ_ _ _ H _ I h=>eC I hg hm ⟨v,H,I,r,h⟩ hd
theorem JQ{x:Str}{v:V}{u:Value}{pos:Pos}(hg:Gl X x)(hm:X.mg x=none)(hv:bootBuiltins x=some u)(r:RelV v u)(hn:x≠"__name__":=by decide)(hd:(x==("__debug__":Str))=false:=by decide):PE X (.Name x pos) (tC v):=
 λ_ _ _ H _ I h=>lN I hg hm hv ⟨v,H,I,r,h⟩ hn hd
variable {a b:Expr}{ta tb:TE}{pos:Pos}
inductive Ct(Q:Bool->Hp->Prop)(x:V)(H1:Hp):Prop
 |mk (c) (aP:x=.bl c) (aQ:Q c H1):Ct Q x H1
def tB(t:TE):TT:=λσ H Q=>t σ H λx H1=>Ct Q x H1
theorem dY{e:Expr}{t:TE}(h:PE X e t)(he:∀whole,isTrue e X.env whole=(do let v←whole;standAt e.pos;holding [v] (truthy v)):=by intro _;rfl):PT X e (tB t):=by
 intro pins s σ H Q I hw;refine isTrue_plain (ay (h pins s σ H _ I hw) λv s1 zq=>?_) (he _);obtain⟨x,H1,I1,r1,q1⟩:=zq;obtain⟨d,rfl,q⟩:=q1;cases r1;exact wpAny_truthy_bool ⟨H1,I1,q⟩
variable {tA Ds:TT}{rest:List Expr}
def PZ(t u:TT):TT:=λσ H Q=>t σ H λc H1=>if c=true then Q true H1 else u σ H1 Q
def Cu(t:TT):TT:=λσ H Q=>t σ H λc H1=>Q (!c) H1
theorem pw_or1(ha:PT X a tA):PW X (.BoolOp .Or [a] pos) tA:=by
 intro wh pins s σ H Q I h;refine isTrue_or (ay (ha pins s σ H Q I h) λc s1 e=>?_);cases c with
 |false=>exact isTrue_or_nil e
 |true=>exact e
theorem pw_or(ha:PT X a tA)(hb:PW X (.BoolOp .Or (b::rest) pos) Ds):PW X (.BoolOp .Or (a::b::rest) pos) (PZ tA Ds):=by
 intro wh pins s σ H Q I h;refine isTrue_or (ay (ha pins s σ H _ I h) λc s1 zq=>?_);obtain⟨H1,I1,q1⟩:=zq;cases c with
 |true=>exact⟨H1,I1,q1⟩
 |false=>exact hb wh pins s1 σ H1 Q I1 q1
theorem gm(ha:PT X a tA):PT X (.UnaryOp .Not a pos) (Cu tA):=by
 intro pins s σ H Q I h;exact isTrue_not (ha pins s σ H (λc H1=>Q (!c) H1) I h)
def LS(ta tb:TE):TE:=λσ H Q=>ta σ H λx H1=>∃c,x=.bl c/\if c=true then tb σ H1 Q else Q (.bl false) H1
def LU(ta:TE):TE:=λσ H Q=>ta σ H λx H1=>∃c,x=.bl c/\Q (.bl (!c)) H1
theorem oz{op}{t:TE}(h:PE X a t):PE X (.BoolOp op [a] pos) t:=λpins s σ H Q I hw=>BoolOp_one (h pins s σ H Q I hw)
theorem lO(ha:PE X a ta)(hb:PE X (.BoolOp .And (b::rest) pos) tb):PE X (.BoolOp .And (a::b::rest) pos) (LS ta tb):=by
 intro pins s σ H Q I h;refine BoolOp_and (ay (ha pins s σ H _ I h) λv s1 zq=>?_);obtain⟨x,H1,I1,r1,q1⟩:=zq;obtain⟨c,rfl,q1⟩:=q1;cases r1;refine wpAny_truthy_bool ?_;cases c with
 |true=>exact hb pins s1 σ H1 Q I1 q1
 |false=>exact⟨.bl false,H1,I1,rfl,q1⟩
theorem KR(ha:PE X a ta):PE X (.UnaryOp .Not a pos) (LU ta):=by
 intro pins s σ H Q I h;refine UnaryOp_ (ay (ha pins s σ H _ I h) λv s1 zq=>?_);obtain⟨x,H1,I1,r1,q1⟩:=zq;obtain⟨c,rfl,q1⟩:=q1;cases r1;exact not_of (wpAny_truthy_bool ⟨.bl (!c),H1,I1,rfl,q1⟩)
def P0(t:TT)(ta tb:TE):TE:=λσ H Q=>t σ H λc H1=>if c=true then ta σ H1 Q else tb σ H1 Q
theorem zW{c:Expr}(hc:PT X c tA)(ha:PE X a ta)(hb:PE X b tb):PE X (.IfExp c a b pos) (P0 tA ta tb):=by
 intro pins s σ H Q I h;refine wpAny_IfExp (ay (hc pins s σ H _ I h) λd s1 zq=>?_);obtain⟨H1,I1,q1⟩:=zq;cases d with
 |true=>exact ha pins s1 σ H1 Q I1 q1
 |false=>exact hb pins s1 σ H1 Q I1 q1
end
def ai(K:ae)(H:Hp)(a:Addr)(xs:List V):Prop:=
 Rd H a (.lst xs)\/
  ∃(o:Obj) (af:Array Value) (n:Nat),K.lookup a=some o/\o.cls=.type "list"/\o.dict=none/\o.data=.seq af n/\af.size<=sizeLine/\Vals xs af.toList
def aq(K:ae)(H:Hp)(a:Addr)(xs:List V):Prop:=
 Rd H a (.tup xs)\/
  ∃(o:Obj) (af:Array Value) (n:Nat),K.lookup a=some o/\o.cls=.type "tuple"/\o.data=.seq af n/\af.size<=sizeLine/\Vals xs af.toList
def ML:Value->Option V
 |.none=>some .ao
 |.bool b=>some (.bl b)
 |.int i _=>some (.int i)
 |.str x _=>some (.str x)
 |.bytes b _=>some (.dM b)
 |.float b _=>some (.i5 b)
 |.ref a=>some (.ref a)
 |.type n=>some (.ty n)
 |_=>none
theorem RelV.abs{x:V}{u:Value}(r:RelV x u):ML u=some x:=by
 cases x with
 |ao=>cases r;rfl
 |bl _=>cases r;rfl
 |int _=>obtain⟨t,rfl⟩:=r;rfl
 |str _=>obtain⟨t,rfl⟩:=r;rfl
 |dM _=>obtain⟨t,rfl⟩:=r;rfl
 |i5 _=>obtain⟨t,rfl⟩:=r;rfl
 |ref _=>cases r;rfl
 |ty _=>cases r;rfl
theorem RelV.inj{x y:V}{u:Value}(r:RelV x u)(q:RelV y u):x=y:=Yl (r.abs.symm.trans q.abs)
theorem Vals.inj:∀{xs ys:List V} {us:List Value},Vals xs us->Vals ys us->xs=ys:=by
 intro xs ys us h;induction h generalizing ys with
 |nil=>intro h';cases h';rfl
 |cons r t ih=>
  intro h';cases h' with
  |cons r' t'=>rw[r.inj r',ih t']
section
variable {X:Cx}{pins:ax}{σ:St}{H:Hp}{s:Shared}{a:Addr}{xs ys:List V}
theorem ai.of{K:ae}(h:H a=some (.lst xs)):ai K H a xs:=.inl (.inl h)
theorem aq.of{K:ae}(h:H a=some (.tup xs)):aq K H a xs:=.inl (.inl h)
theorem Inv.list(I:Inv X pins σ H s)(h:ai X.K H a xs):∃af:List Value,Vals xs af/\PlainL s.heap a af.toArray/\xs.length<=sizeLine:=by
 rcases h with h|⟨o,af,n,hk,hc,hd,hs,hz,r⟩
 ·obtain⟨z,af,n,r,e⟩:=h.ok I.ah;exact⟨af,r,⟨_,n,e,rfl,rfl,rfl⟩,z⟩
 ·refine⟨af.toList,r,⟨o,n,I.aI a o hk,hc,hd,by simpa using hs⟩,?_⟩;have e:=r.length
  grind
theorem Inv.tuple(I:Inv X pins σ H s)(h:aq X.K H a xs):∃af:List Value,Vals xs af/\IsTup s.heap a af.toArray/\xs.length<=sizeLine:=by
 rcases h with h|⟨o,af,n,hk,hc,hs,hz,r⟩
 ·obtain⟨z,af,r,p⟩:=h.ok I.ah;exact⟨af,r,p.tup,z⟩
 ·refine⟨af.toList,r,⟨o,I.aI a o hk,hc,n,by simpa using hs⟩,?_⟩;have e:=r.length
  grind
theorem Inv.IW(I:Inv X pins σ H s)(h:ai X.K H a xs)(h':ai X.K H a ys):xs=ys:=by
 obtain⟨af,r,⟨o,n,e,_,_,d⟩,_⟩:=I.list h;obtain⟨its',r',⟨o',n',e',_,_,d'⟩,_⟩:=I.list h';rw[e] at e';cases e';rw[d] at d';injection d' with d1 _;have:af=its':=by simpa using congrArg Array.toList d1
 subst this;exact r.inj r'
theorem Inv.H_(I:Inv X pins σ H s)(h:aq X.K H a xs)(h':aq X.K H a ys):xs=ys:=by
 obtain⟨af,r,⟨o,e,_,n,d⟩,_⟩:=I.tuple h;obtain⟨its',r',⟨o',e',_,n',d'⟩,_⟩:=I.tuple h';rw[e] at e';cases e';rw[d] at d';injection d' with d1 _;have:af=its':=by simpa using congrArg Array.toList d1
 subst this;exact r.inj r'
end
abbrev Cx.cG(X:Cx)(E:aC):Cx:={X with xe:=E}
abbrev Cx.e7(X:Cx):Cx:=X.cG λ_ _=>False
theorem Cx.Ok.cG{X:Cx}(ok:X.Ok)(E:aC):(X.cG E).Ok:=
 ⟨ok.mod,ok.kind,ok.glob,ok.blt,ok.above,ok.inj,ok.has,ok.i7,ok.hd,ok.frames,ok.kL,ok.kM,ok.bs,ok.eK,ok.iV,ok.iW,ok.dh,ok.fK⟩
theorem Cx.Ok.g_{X:Cx}{E:aC}(ok:(X.cG E).Ok):X.Ok:=
 ⟨ok.mod,ok.kind,ok.glob,ok.blt,ok.above,ok.inj,ok.has,ok.i7,ok.hd,ok.frames,ok.kL,ok.kM,ok.bs,ok.eK,ok.iV,ok.iW,ok.dh,ok.fK⟩
section
variable {X:Cx}{pins:ax}{σ:St}{H:Hp}{s:Shared}{E:aC}
theorem Inv.cG(I:Inv X pins σ H s)(E:aC):Inv (X.cG E) pins σ H s:=⟨I.ok.cG E,I.os,I.bare,I.base,I.loc,I.cell,I.free,I.de,I.pin,I.ah,I.len⟩
theorem Inv.g_(I:Inv (X.cG E) pins σ H s):Inv X pins σ H s:=⟨I.ok.g_,I.os,I.bare,I.base,I.loc,I.cell,I.free,I.de,I.pin,I.ah,I.len⟩
theorem SP.g_{D:Ends}{f:Flow}{s':Shared}(h:SP (X.cG E) pins D f s'):SP X pins D f s':=by
 cases f with
 |next=>obtain⟨aB,H',I,q⟩:=h;exact⟨aB,H',I.g_,q⟩
 |brk=>obtain⟨aB,H',I,q⟩:=h;exact⟨aB,H',I.g_,q⟩
 |cont=>obtain⟨aB,H',I,q⟩:=h;exact⟨aB,H',I.g_,q⟩
 |ret u=>obtain⟨v,aB,H',I,r,q⟩:=h;exact⟨v,aB,H',I.g_,r,q⟩
theorem cv.e7{st:List Stmt}{t:TS}(h:cv X.e7 st t):cv X st t:=λpins s σ H D I hw=>
 wpAny_mono (h pins s σ H D (I.cG _) hw) (λ_ _ q=>q.g_) λ_ _ z=>False.elim z
end
section
variable {X:Cx}{st:Stmt}{rest:List Stmt}{t u:TS}{e:Expr}{te:TE}{pos:Pos}
def BZ:TS:=λD σ H=>D.nx σ H
def o_(t u:TS):TS:=λD σ H=>t {D with nx:=u D} σ H
theorem bu:cv X [] BZ:=λ_ _ σ H _ I h=>wpAny_execs_nil ⟨σ,H,I,h⟩
theorem au(h1:PS X st t)(h2:cv X rest u):cv X (st::rest) (o_ t u):=by
 intro pins s σ H D I h;refine wpAny_execs_cons (ay (h1 pins s σ H {D with nx:=u D} I h) λf s1 q=>?_);cases f with
 |next=>
  obtain⟨aB,H',I',q⟩:=q;exact h2 pins s1 aB H' D I' q
 |ret v=>exact q
 |brk=>exact q
 |cont=>exact q
theorem az(h1:PS X st t):cv X [st] t:=by
 intro pins s σ H D I h;refine wpAny_execs_cons (ay (h1 pins s σ H D I h) λf s1 q=>?_);cases f with
 |next=>exact wpAny_execs_nil q
 |ret v=>exact q
 |brk=>exact q
 |cont=>exact q
theorem Inv.quiet{pins:ax}{σ:St}{H:Hp}{s:Shared}(I:Inv X pins σ H s):interactive X.env=false:=by simp[interactive,I.ok.kind]
def LV(te:TE):TS:=λD σ H=>te σ H λ_ H1=>D.nx σ H1
theorem cM(he:PE X e te)(hs:swapsWith e none pos.line X.env=pure false:=by rfl):PS X (.Expr e pos) (LV te):=by
 intro pins s σ H D I h;exact wpAny_Expr_any (ay (he pins s σ H _ I h) λv s1 ⟨x,H1,I1,r1,q1⟩=>⟨σ,H1,I1,q1⟩) I.quiet hs
def MM(te:TE):TS:=λD σ H=>te σ H D.rt
theorem aN(he:PE X e te):PS X (.Return (some e) pos) (MM te):=by
 intro pins s σ H D I h;exact wpAny_Return_some (ay (he pins s σ H _ I h) λv s1 ⟨x,H1,I1,r1,q1⟩=>⟨x,σ,H1,I1,r1,q1⟩)
def MN(c:TT)(t u:TS):TS:=λD σ H=>c σ H λb H1=>if b=true then t D σ H1 else u D σ H1
theorem bp{c:Expr}{a b:List Stmt}{tc:TT}(hc:PT X c tc)(ha:cv X a t)(hb:cv X b u):PS X (.If c a b pos) (MN tc t u):=by
 intro pins s σ H D I h;refine wpAny_If (ay (hc pins s σ H _ I h) λd s1 zq=>?_);obtain⟨H1,I1,q1⟩:=zq;cases d with
 |true=>exact ha pins s1 σ H1 D I1 q1
 |false=>exact hb pins s1 σ H1 D I1 q1
def KS:TS:=λ_ _ _=>False
theorem lF{P1:List Stmt}:cv X P1 KS:=λ_ _ _ _ _ _ h=>h.elim
end
abbrev TG:=V->St->Hp->(St->Hp->Prop)->Prop
abbrev e9:=List V->St->Hp->(St->Hp->Prop)->Prop
def PG(X:Cx)(target:Expr)(t:TG):Prop:=
 ∀(pins:ax) (s:Shared) (σ:St) (H:Hp) (v:V) (u:Value) (Q:St->Hp->Prop),Inv X pins σ H s->RelV v u->t v σ H Q->
  wpAny X.md X.A (assign target X.env u) (λ_ s'=>kB X pins Q s') X.xe s
def i8(X:Cx)(ts:List Expr)(t:e9):Prop:=
 ∀(pins:ax) (s:Shared) (σ:St) (H:Hp) (vs:List V) (us:List Value) (Q:St->Hp->Prop),Inv X pins σ H s->Vals vs us->t vs σ H Q->
  wpAny X.md X.A (assignInOrder ((assignEach ts X.env).map (·.2)) us) (λ_ s'=>kB X pins Q s') X.xe s
abbrev vy:=V->V->V->Hp->(Hp->Prop)->Prop
def vz(X:Cx)(t:vy):Prop:=
 ∀(pins:ax) (s:Shared) (σ:St) (H:Hp) (o i v:V) (ov iv u:Value) (Q:Hp->Prop),Inv X pins σ H s->RelV o ov->RelV i iv->RelV v u->t o i v H Q->
  wpAny X.md X.A (setItem ov iv u) (λ_ s'=>∃H',Inv X pins σ H' s'/\Q H') X.xe s
section
variable {X:Cx}{pos:Pos}
def gs(i:Nat):TG:=λv σ H Q=>Q (σ.set i (some v)) H
theorem n_{i:Nat}{x:Str}(hN:X.N.Nodup)(hi:X.N[i]?=some x)(hx:Loc X.env.scope x)(hf:X.fn x=true\/X.env.scope.names.lookup x=some .local:=by first|exact .inl rfl|exact .inr rfl|assumption):PG X (.Name x pos) (gs i):=by
 intro pins s σ H v u Q I r h;exact wpAny_assign_Name (tN I hN hi hx r (λs' I'=>⟨_,H,I',h⟩) hf)
def MO:e9:=λvs σ H Q=>vs=[]/\Q σ H
inductive AA(t:TG)(u:e9)(vs:List V)(σ:St)(H:Hp)(Q:St->Hp->Prop):Prop
 |mk (v r) (aP:vs=v::r) (aQ:t v σ H λaB H'=>u r aB H' Q):AA t u vs σ H Q
def LW(t:TG)(u:e9):e9:=λvs σ H Q=>AA t u vs σ H Q
theorem AB:i8 X [] MO:=by
 rintro pins s σ H vs us Q I r ⟨e,h⟩;subst e;exact assignInOrder_nil ⟨σ,H,I,h⟩
theorem lJ{e:Expr}{es:List Expr}{t:TG}{u:e9}(h1:PG X e t)(h2:i8 X es u)
  (hs:(assignEach (e::es) X.env).map (·.2)=assign e X.env::(assignEach es X.env).map (·.2):=by rfl):i8 X (e::es) (LW t u):=by
 rintro pins s σ H vs us Q I r ⟨v,vr,e1,h⟩;subst e1;cases r with
 |cons r rr=>
  rw[hs];exact assignInOrder_cons (ay (h1 pins s σ H _ _ _ I r h) λ_ s1 ⟨P2,H1,I1,q1⟩=>h2 pins s1 P2 H1 _ _ Q I1 rr q1)
def Cv(to ti:TE)(t:vy):TG:=λv σ H Q=>to σ H λo H1=>ti σ H1 λi H2=>t o i v H2 λH3=>Q σ H3
theorem KU{o i:Expr}{to ti:TE}{t:vy}(ho:PE X o to)(hi:PE X i ti)(hs:vz X t)
  (ha:∀v,assign (.Subscript o i pos) X.env v=(do
   let ov←holding [v] (eval o X.env);let iv←holding [v,ov] (eval i X.env)
   standAt pos
   holding [v,ov,iv] (setItem ov iv v)
   release [v,ov,iv] []):=by intro _;rfl):PG X (.Subscript o i pos) (Cv to ti t):=by
 intro pins s σ H v u Q I r h;exact wpAny_bind (wpAny_holding (ay (ho pins s σ H _ I h) λov s1 ⟨x,H1,I1,r1,q1⟩=>wpAny_bind (wpAny_holding (ay (hi pins s1 σ H1 _ I1 q1) λiv s2 ⟨y,H2,I2,r2,q2⟩=>wpAny_bind (wpAny_standAt (wpAny_bind (wpAny_holding (ay (hs pins s2 σ H2 x y v ov iv u _ I2 r1 r2 r q2) λ_ s3 ⟨H3,I3,q3⟩=>wpAny_release ⟨σ,H3,I3,q3⟩))))))))
def iX(te:TE)(g:TG):TS:=λD σ H=>te σ H λx H1=>g x σ H1 D.nx
theorem uE{tg e:Expr}{te:TE}{g:TG}(he:PE X e te)(hg:PG X tg g)(hs:swapsWithSole [tg] e pos.line X.env=pure false:=by rfl)(hw:swappedStores [tg] e X.env=pure none:=by rfl)
  (h1:(assignEach [tg] X.env).map (·.2)=[assign tg X.env]:=by rfl):PS X (.Assign [tg] e pos) (iX te g):=by
 intro pins s σ H D I h;refine wpAny_Assign_stores (ay (he pins s σ H _ I h) λv s1 zq=>?_) hs hw;obtain⟨x,H1,I1,r1,q1⟩:=zq;rw[h1];exact ay (hg pins s1 σ H1 x v _ I1 r1 q1) λ_ s2 q=>q
theorem eD{i:Nat}{x:Str}{e:Expr}{te:TE}{pos':Pos}(hN:X.N.Nodup)(hi:X.N[i]?=some x)(hx:Loc X.env.scope x)(he:PE X e te)(hs:swapsWith e (some (.Name x pos')) pos.line X.env=pure false:=by rfl)(hf:X.fn x=true\/X.env.scope.names.lookup x=some .local:=by first|exact .inl rfl|exact .inr rfl|assumption):
  PS X (.Assign [.Name x pos'] e pos) (iX te (gs i)):=by
 intro pins s σ H D I h;refine wpAny_Assign_Name (ay (he pins s σ H _ I h) λv s1 zq=>?_) hs;obtain⟨y,H1,I1,r1,q1⟩:=zq;exact tN I1 hN hi hx r1 (λs2 I2=>⟨_,H1,I2,q1⟩) hf
end
section
variable {X:Cx}{pos:Pos}
end
structure It where
 go:Nat->Hp->Prop
 i9:Nat->Hp->V->Hp->Prop
 stop:Nat->Hp->Prop
def d6(X:Cx)(pins:ax)(H:Hp)(b:Addr):Prop:=
 H b=none/\b≠X.env.locals/\b∉X.fs/\(b∈X.ex\/X.bG.heap.objs.size<=b)/\(∀x c,X.env.cells.lookup x=some c->c≠b)/\∀p∈X.pn++pins,p.1≠b
theorem Inv.kC{X:Cx}{pins:ax}{σ:St}{H H':Hp}{s:Shared}{b:Addr}(I:Inv X pins σ H s)(hb:s.heap.objs.size<=b)(hn:H' b=none):d6 X pins H' b:=by
 refine⟨hn,Wp (Yo I.lt hb),I.MI hb,.inr (Yn I.sz hb),λx c e z=>?_,λp hp z=>?_⟩
 ·obtain⟨v,q⟩:=I.cell x c e;exact absurd (Yo q.lt (by rw[z];exact hb)) (Wf _)
 ·exact absurd (Yo (Yd (I.pin p hp).1) (by rw[z];exact hb)) (Wf _)
structure Turn(P:Program)(w:World)(K:ae)(tg:Expr)(J:It)(fp:List Addr)(it:Addr)(tn:Nat->Heap->Prop):Prop where
 mem:it∈fp
 obj:∀i h,tn i h->∀b∈fp,∃o,h.get? b=some o/\∀v,o.data≠.cell v
 keep:∀i h h',tn i h->(∀b∈fp,∀o,h.get? b=some o->h'.get? b=some o)->tn i h'
 item:∀(X:Cx),X.prog=P->X.w=w->X.K=K->X.calm=true->∀(i:Nat) (pins:ax) (s:Shared) (σ:St) (H:Hp) (E:aC),Inv X pins σ H s->(∀b∈fp,d6 X pins H b)->tn i s.heap->J.go i H->
  wpAny (model P w) X.A (pyNext (.ref it)) (λr s1=>∃u,r=some u/\
   wpAny (model P w) X.A (letOwnedTupleGo tg (.ref it) u) (λ_ s2=>∃x H',Inv X pins σ H' s2/\RelV x u/\J.i9 i H x H'/\tn (i+1) s2.heap/\∀b∈fp,H' b=none) E s1) E s
 done:∀(X:Cx),X.prog=P->X.w=w->X.K=K->X.calm=true->∀(i:Nat) (pins:ax) (s:Shared) (σ:St) (H:Hp) (E:aC),Inv X pins σ H s->(∀b∈fp,d6 X pins H b)->tn i s.heap->J.stop i H->
  wpAny (model P w) X.A (pyNext (.ref it)) (λr s1=>r=none/\Inv X pins σ H s1) E s
 self:∀(A:Around) (i:Nat) (s:Shared) (Q:aC) (E:aC),tn i s.heap->Q (.ref it) s->wpAny (model P w) A (pyIter (.ref it)) Q E s
abbrev TI:=St->Hp->(It->Hp->Prop)->Prop
def Du(X:Cx)(pins:ax)(σ:St)(tg:Expr)(R:It->Hp->Prop)(pJ:Value)(s2:Shared):Prop:=
 ∃(it:Addr) (fp:List Addr) (tn:Nat->Heap->Prop) (J:It) (H':Hp),pJ=.ref it/\Inv X pins σ H' s2/\Turn X.prog X.w X.K tg J fp it tn/\tn 0 s2.heap/\(∀b∈fp,d6 X pins H' b)/\R J H'
def PI(X:Cx)(tg iter:Expr)(wi:TI):Prop:=
 ∀(pins:ax) (s:Shared) (σ:St) (H:Hp) (R:It->Hp->Prop),Inv X pins σ H s->wi σ H R->
  wpAny X.md X.A (eval iter X.env) (λv s1=>wpAny X.md X.A (pyIter v) (Du X pins σ tg R) X.xe s1) X.xe s
theorem lZ{M:Model}{A:Around}{E:aC}{s:Shared}{tg:Expr}{it:Addr}{u:Value}{o:Obj}{n:String}{vs:Array Value}{Q:Unit->Shared->Prop}(ho:s.heap.get? it=some o)(hc:o.cls=.type n)(hd:o.data=.fields vs)
    (hn:["enumerate","zip","dict_itemiterator","dict_reverseitemiterator","odict_iterator","itertools.zip_longest","itertools.pairwise"].contains n=false)(hQ:Q () s):wpAny M A (letOwnedTupleGo tg (.ref it) u) Q E s:=by
  unfold letOwnedTupleGo;cases tg <;> first
    | exact wpAny_pure hQ
    | (cases u <;> first
        | exact wpAny_pure hQ
        | (refine wpAny_bind (wpAny_load ho ?_)
           rw [hc,hd];show wpAny M A (if (["enumerate","zip","dict_itemiterator","dict_reverseitemiterator","odict_iterator","itertools.zip_longest","itertools.pairwise"].contains n&&vs[0]? == some (rawInt _))=true then _ else _) Q E s;rw [if_neg (by intro h; rw [hn,Bool.false_and] at h; cases h)];exact wpAny_pure hQ))
def fM(K:ae)(a:Addr):It:=
 ⟨λi H=>∃xs x,ai K H a xs/\xs[i]?=some x,λi H x H'=>H'=H/\∀xs,ai K H a xs->xs[i]?=some x,λi H=>∃xs,ai K H a xs/\xs.length<=i⟩
def fN(K:ae)(a:Addr):It:=
 ⟨λi H=>∃xs x,aq K H a xs/\xs[i]?=some x,λi H x H'=>H'=H/\∀xs,aq K H a xs->xs[i]?=some x,λi H=>∃xs,aq K H a xs/\xs.length<=i⟩
def i_(lo:Int)(n:Nat):It:=⟨λi _=>i<n,λi H x H'=>H'=H/\x=.int (lo+i),λi _=>n<=i⟩
theorem zz{P:Program}{w:World}{K:ae}{tg:Expr}(a it:Addr):Turn P w K tg (fM K a) [it] it (λi h=>h.IsListIter it a i) where
 mem:=by simp
 obj:=λi h st b hb=>by
  have e:b=it:=by simpa using hb
  obtain⟨o,e,c,d⟩:=st
  grind
 keep:=λi h h' st k=>st.at λo e=>k it (by simp) o e
 item:=by
  intro X hP hw hK hc i pins s σ H E I hf st hg;subst hP hw hK;obtain⟨xs,x,hq,hx⟩:=hg;obtain⟨af,rv,p,hz⟩:=I.list hq;obtain⟨u,hu,ru⟩:=rv.get hx;obtain⟨f0,f1,f2,f3,f4,f5⟩:=hf it (by simp);refine wpAny_pyNext_list_item st p.isList (by simpa using hu) λh' dO sb=>?_;obtain⟨o,e,c,d⟩:=id dO;exact⟨u,rfl,lZ e c d (by decide) ⟨x,H,(I.turned (λb o hb e=>(sb.2 b hb).trans e) f0 f1 f3 f4 f5),ru,⟨rfl,λys hy=>by rw[I.IW hy hq];exact hx⟩,dO,λb hb=>(hf b hb).1⟩⟩
 done:=by
  intro X hP hw hK hc i pins s σ H E I hf st hg;subst hP hw hK;obtain⟨xs,hq,hx⟩:=hg;obtain⟨af,rv,p,hz⟩:=I.list hq;obtain⟨f0,f1,f2,f3,f4,f5⟩:=hf it (by simp);have hl:=rv.length;exact wpAny_pyNext_list_end (I.ok.hd hc) st p.isList (by simp;omega) λh' eb=>⟨rfl,I.turned (λb o hb e=>eb b o hb e) f0 f1 f3 f4 f5⟩
 self:=λ_ _ _ _ _ st h=>wpAny_pyIter_listiter st h
theorem yT{P:Program}{w:World}{K:ae}{tg:Expr}(a it:Addr):Turn P w K tg (fN K a) [it] it (λi h=>h.IsTupleIter it a i) where
 mem:=by simp
 obj:=λi h st b hb=>by
  have e:b=it:=by simpa using hb
  obtain⟨o,e,c,d⟩:=st
  grind
 keep:=λi h h' st k=>st.at λo e=>k it (by simp) o e
 item:=by
  intro X hP hw hK hc i pins s σ H E I hf st hg;subst hP hw hK;obtain⟨xs,x,hq,hx⟩:=hg;obtain⟨af,rv,p,hz⟩:=I.tuple hq;obtain⟨u,hu,ru⟩:=rv.get hx;obtain⟨f0,f1,f2,f3,f4,f5⟩:=hf it (by simp);refine wpAny_pyNext_tuple_item st (show s.heap.IsTuple a af.toArray from p) (by simpa using hu) λh' dO sb=>?_;obtain⟨o,e,c,d⟩:=id dO;exact⟨u,rfl,lZ e c d (by decide) ⟨x,H,(I.turned (λb o hb e=>(sb.2 b hb).trans e) f0 f1 f3 f4 f5),ru,⟨rfl,λys hy=>by rw[I.H_ hy hq];exact hx⟩,dO,λb hb=>(hf b hb).1⟩⟩
 done:=by
  intro X hP hw hK hc i pins s σ H E I hf st hg;subst hP hw hK;obtain⟨xs,hq,hx⟩:=hg;obtain⟨af,rv,p,hz⟩:=I.tuple hq;obtain⟨f0,f1,f2,f3,f4,f5⟩:=hf it (by simp);have hl:=rv.length;exact wpAny_pyNext_tuple_end (I.ok.hd hc) st (show s.heap.IsTuple a af.toArray from p) (by simp;omega) λh' eb=>⟨rfl,I.turned (λb o hb e=>eb b o hb e) f0 f1 f3 f4 f5⟩
 self:=λ_ _ _ _ _ st h=>wpAny_pyIter_tupleiter st h
theorem Gw{P:Program}{w:World}{K:ae}{tg:Expr}(it:Addr)(lo:Int)(n:Nat):Turn P w K tg (i_ lo n) [it] it (λi h=>IsRangeIter h it (lo+(i:Nat)*1) ((n:Int)-(i:Nat)) 1) where
 mem:=by simp
 obj:=λi h st b hb=>by
  grind
 keep:=λi h h' st k=>k it (by simp) _ st
 item:=by
  intro X hP hw hK hc i pins s σ H E I hf st hg;subst hP hw hK;obtain⟨f0,f1,f2,f3,f4,f5⟩:=hf it (by simp);refine(Walks.range (I.ok.hd hc) it lo 1 n).item i s _ _ hg st λv h' tk hv dO kk=>?_;obtain⟨t,rfl⟩:=hv;refine⟨_,rfl,lZ dO rfl rfl (by decide) ⟨.int (lo+i),H,(I.turned (λb o hb e=>kk b o (by simpa using hb) e) f0 f1 f3 f4 f5),⟨t,?_⟩,⟨rfl,rfl⟩,dO,λb hb=>(hf b hb).1⟩⟩;rw[Int.mul_one]
 done:=by
  intro X hP hw hK hc i pins s σ H E I hf st hg;subst hP hw hK;obtain⟨f0,f1,f2,f3,f4,f5⟩:=hf it (by simp);exact wpAny_pyNext_range_end (I.ok.hd hc) st (by have:n<=i:=hg;omega) λh' eb=>⟨rfl,I.turned (λb o hb e=>eb b o hb e) f0 f1 f3 f4 f5⟩
 self:=λ_ _ _ _ _ st h=>wpAny_pyIter_rangeiter st h
section
variable {X:Cx}{tg:Expr}
inductive AD(K:ae)(R:It->Hp->Prop)(x:V)(H1:Hp):Prop
 |mk (a) (aP:x=.ref a) (aQ:(∃xs,ai K H1 a xs)) (bc:R (fM K a) H1):AD K R x H1
def B0(K:ae)(tl:TE):TI:=λσ H R=>tl σ H λx H1=>AD K R x H1
inductive Bj(K:ae)(R:It->Hp->Prop)(x:V)(H1:Hp):Prop
 |mk (a) (aP:x=.ref a) (aQ:(∃xs,aq K H1 a xs)) (bc:R (fN K a) H1):Bj K R x H1
def Cw(K:ae)(tl:TE):TI:=λσ H R=>tl σ H λx H1=>Bj K R x H1
theorem AE{l:Expr}{tl:TE}(hl:PE X l tl):PI X tg l (B0 X.K tl):=by
 intro pins s σ H R I h;refine ay (hl pins s σ H _ I h) λv s1 zq=>?_;obtain⟨x,H1,I1,r1,q1⟩:=zq;obtain⟨a,e,⟨xs,hq⟩,q⟩:=q1;subst e;cases r1;obtain⟨af,rv,p,hz⟩:=I1.list hq;refine wpAny_pyIter_list p.isList ⟨s1.heap.objs.size,[s1.heap.objs.size],_,_,H1,rfl,I1.kept λb o e=>Yb _ e,zz a _,⟨_,Ye _ rfl,rfl,rfl⟩,λb hb=>?_,q⟩;have e:b=s1.heap.objs.size:=by simpa using hb
 subst e;exact I1.kC (Yc _) (I1.ah.fresh (Yc _))
theorem lP{l:Expr}{tl:TE}(hl:PE X l tl):PI X tg l (Cw X.K tl):=by
 intro pins s σ H R I h;refine ay (hl pins s σ H _ I h) λv s1 zq=>?_;obtain⟨x,H1,I1,r1,q1⟩:=zq;obtain⟨a,e,⟨xs,hq⟩,q⟩:=q1;subst e;cases r1;obtain⟨af,rv,p,hz⟩:=I1.tuple hq;refine wpAny_pyIter_tuple (show s1.heap.IsTuple a af.toArray from p) ⟨s1.heap.objs.size,[s1.heap.objs.size],_,_,H1,rfl,I1.kept λb o e=>Yb _ e,yT a _,⟨_,Ye _ rfl,rfl,rfl⟩,λb hb=>?_,q⟩;have e:b=s1.heap.objs.size:=by simpa using hb
 subst e;exact I1.kC (Yc _) (I1.ah.fresh (Yc _))
theorem IX{pins:ax}{σ:St}{H:Hp}{s:Shared}{R:It->Hp->Prop}{E:aC}{lo hi:Int}{t u v:Tok}{tk:Nat}(I:Inv X pins σ H s)(h1:-(2^62)<=lo)(h2:lo<2^62)(h3:-(2^62)<=hi)(h4:hi<2^62)
  (q:R (i_ lo (hi-lo).toNat) H):wpAny X.md X.A (pyIter (.ref s.heap.objs.size)) (Du X pins σ tg R) E {s with heap:=s.heap.push {cls:=.type "range",data:=.fields #[.int lo t,.int hi u,.int 1 v]},toks:=tk}:=by
 refine wpAny_pyIter_range (IsRange.new ..) (small_one h1 h2 h3 h4) ?_;have I1:Inv X pins σ H {s with heap:=s.heap.push {cls:=.type "range",data:=.fields #[.int lo t,.int hi u,.int 1 v]},toks:=tk}:=I.kept λb o e=>Yb _ e;refine⟨(s.heap.push {cls:=.type "range",data:=.fields #[.int lo t,.int hi u,.int 1 v]}).objs.size,[(s.heap.push {cls:=.type "range",data:=.fields #[.int lo t,.int hi u,.int 1 v]}).objs.size],_,_,H,rfl,
  I1.kept (t':=tk) λb o e=>Yb _ e,Gw _ lo (hi-lo).toNat,?_,λb hb=>?_,q⟩
 ·have e1:lo+((0:Nat):Int)*1=lo:=by simp
  have e2:(((hi-lo).toNat:Nat):Int)-((0:Nat):Int)=Builtin.Range.rangeSize lo hi 1:=by rw[rangeSize_one];split<;>omega
  show IsRangeIter _ _ (lo+((0:Nat):Int)*1) ((((hi-lo).toNat:Nat):Int)-((0:Nat):Int)) 1;rw[e1,e2];exact Ye _ rfl
 ·have e:b=(s.heap.push {cls:=.type "range",data:=.fields #[.int lo t,.int hi u,.int 1 v]}).objs.size:=by simpa using hb
  subst e;exact I1.kC (Yc _) (I1.ah.fresh (Yc _))
inductive AF(R:It->Hp->Prop)(vs:List V)(H1:Hp):Prop
 |mk (j:Int) (aP:vs=[.int j]) (aQ:-(2^62)<=j) (bc:j<2^62) (bN:R (i_ 0 j.toNat) H1):AF R vs H1
def LX(ta:TA):TI:=λσ H R=>ta σ H λvs H1=>AF R vs H1
theorem jQ{a:Expr}{ta:TA}{p pos:Pos}(hg:Gl X "range")(hm:X.mg "range"=none)(ha:PA X [a] ta)(hs:starEach [a] X.env=[(false,eval a X.env)]:=by rfl):PI X tg (.Call (.Name "range" p) [a] [] pos) (LX ta):=by
 intro pins s σ H R I h;refine Call_ (lN I hg hm boot_range (PyProof.Rows.callWith_type1 (ay (ha pos pins s σ H _ I h) λus s1 zq=>?_) hs rfl));obtain⟨vs,H1,I1,r1,q1⟩:=zq;obtain⟨j,e,q1,q2,q⟩:=q1;subst e;cases r1 with
 |cons r rr=>
  cases rr;obtain⟨t,rfl⟩:=r;exact call_range_1 (IX I1 (by omega) (by omega) q1 q2 (by simpa using q))
def MP(wi:TI)(g:TG)(tb:TS):TS:=λD σ H=>wi σ H λJ H1=>∃W:Nat->Nat->St->Hp->Prop,(∃m,W 0 m σ H1)/\∀i m σ H,W i m σ H->
 (J.stop i H/\D.nx σ H)\/(J.go i H/\∃N:St->Hp->Prop,(∀aB H',N aB H'->∃m',m'<m/\W (i+1) m' aB H')/\∀x H',J.i9 i H x H'->g x σ H' λcS H2=>tb {D with nx:=N,ct:=N,bk:=D.nx} cS H2)
def lQ(fp:List Addr)(h:Heap):List (Addr×Obj):=fp.filterMap λb=>(h.get? b).map λo=>(b,o)
theorem nH{fp:List Addr}{h:Heap}{b:Addr}{o:Obj}(hb:b∈fp)(e:h.get? b=some o):(b,o)∈lQ fp h:=List.mem_filterMap.mpr ⟨b,hb,by rw[e];rfl⟩
theorem Ia{fp:List Addr}{h:Heap}{p:Addr×Obj}(hp:p∈lQ fp h):p.1∈fp/\h.get? p.1=some p.2:=by
 obtain⟨b,hb,e⟩:=List.mem_filterMap.mp hp;cases q:h.get? b with
 |none=>grind
 |some o=>grind
theorem Inv.pinned{pins:ax}{σ:St}{H:Hp}{s:Shared}{fp:List Addr}(I:Inv X pins σ H s)(hf:∀b∈fp,d6 X pins H b)(ho:∀b∈fp,∃o,s.heap.get? b=some o/\∀v,o.data≠.cell v):Inv X (pins++lQ fp s.heap) σ H s:=
 I.Az λp hp=>(Jf.mp hp).elim (λz=>I.pin p (Yt _ z)) λz=>by
  obtain⟨hb,e⟩:=Ia z;obtain⟨f0,f1,f2,_⟩:=hf p.1 hb
  grind
theorem Inv.nW{pins pl:ax}{σ:St}{H:Hp}{s:Shared}(I:Inv X (pins++pl) σ H s):Inv X pins σ H s:=I.Az λp hp=>I.pin p (Yt _ (W7 _ hp))
theorem gp{iter:Expr}{body:List Stmt}{wi:TI}{g:TG}{tb:TS}{pos:Pos}(hp:PassesOwn X.md X.A X.env X.xe)(hc:X.calm=true)(hi:PI X tg iter wi)(hg:PG X tg g)(hb:cv X body tb)
  (hs:∀x,foldedSetIterable iter X.env x=pure x:=by intro _;rfl):PS X (.For tg iter body [] pos) (MP wi g tb):=by
 intro pins s σ H D I h;refine wpAny_For (ay (hi pins s σ H _ I h) λv s1 h1=>ay h1 λpJ s2 h2=>?_) hs;obtain⟨it,fp,tn,J,H2,e,I2,T,eM,f2,W,⟨m0,w0⟩,turn⟩:=h2;subst e;have iY:∀{H':Hp},(∀b∈fp,H' b=none)->∀b∈fp,d6 X pins H' b:=λhn b hb=>⟨hn b hb,(f2 b hb).2⟩;refine codeAny_forLoop_any (λn s'=>∃i aB H',Inv X pins aB H' s'/\tn i s'.heap/\(∀b∈fp,H' b=none)/\W i n aB H') ?_ m0 ⟨0,σ,H2,I2,eM,λb hb=>(f2 b hb).1,w0⟩;rintro n s3 ⟨i,mI,H3,I3,Dv,pK,w3⟩;rcases turn i n mI H3 w3 with⟨stop,qn⟩|⟨go,N,hN,step⟩
 ·refine wpAny_passesOwn hp (ay (T.done X rfl rfl rfl hc i pins s3 mI H3 X.xe I3 (iY pK) Dv stop) λr s4 zq=>?_);obtain⟨hr,I4⟩:=zq;subst hr;exact wpAny_execs_nil ⟨mI,H3,I4,qn⟩
 ·refine wpAny_passesOwn hp (ay (T.item X rfl rfl rfl hc i pins s3 mI H3 X.xe I3 (iY pK) Dv go) λr s4 zq=>?_);obtain⟨u,hr,h4⟩:=zq;subst hr;refine wpAny_passesOwn hp (ay h4 λ_ s5 ⟨x,H5,I5,r5,y5,kP,pL⟩=>wpAny_passesOwn hp (ay (hg _ s5 mI H5 x u _ (I5.pinned (iY pL) (T.obj _ _ kP)) r5 (step x H5 y5)) λ_ s6 ⟨pM,H6,I6,q6⟩=>wpAny_passesOwn hp (ay (hb _ s6 pM H6 _ I6 q6) λf s7 q7=>?_)));have again:∀{e_:St} {H7:Hp},Inv X (pins++lQ fp s5.heap) e_ H7 s7->N e_ H7->∃m,m<n/\∃i aB H',Inv X pins aB H' s7/\tn i s7.heap/\(∀b∈fp,H' b=none)/\W i m aB H':=λ{e_ H7} I7 n7=>by
   obtain⟨m',hm,w7⟩:=hN e_ H7 n7;refine⟨m',hm,i+1,e_,H7,I7.nW,T.keep _ _ _ kP λb hb o e=>(I7.pin (b,o) (Yt _ (Yt _ (nH hb e)))).1,λb hb=>?_,w7⟩;obtain⟨o,e,d⟩:=T.obj _ _ kP b hb;exact(I7.pin (b,o) (Yt _ (Yt _ (nH hb e)))).2.1
  cases f with
  |next=>obtain⟨e_,H7,I7,n7⟩:=q7;exact again I7 n7
  |cont=>obtain⟨e_,H7,I7,n7⟩:=q7;exact again I7 n7
  |brk=>obtain⟨e_,H7,I7,q7⟩:=q7;exact⟨e_,H7,I7.nW,q7⟩
  |ret v=>obtain⟨x7,e_,H7,I7,r7,q7⟩:=q7;exact⟨x7,e_,H7,I7.nW,r7,q7⟩
end
theorem lK{K:ae}{a:Addr}{xs:List V}{g:TG}{tb:TS}{D:Ends}{σ:St}{H:Hp}(Pv:Nat->St->Hp->Prop)(h0:Pv 0 σ H)(hl:∀i σ H,i<=xs.length->Pv i σ H->ai K H a xs)
  (hs:∀i x σ H,xs[i]?=some x->Pv i σ H->g x σ H λcS H2=>tb {D with nx:=Pv (i+1),ct:=Pv (i+1),bk:=D.nx} cS H2)(hd:∀σ H,Pv xs.length σ H->D.nx σ H):
  ∃W:Nat->Nat->St->Hp->Prop,(∃m,W 0 m σ H)/\∀i m σ H,W i m σ H->
   ((fM K a).stop i H/\D.nx σ H)\/((fM K a).go i H/\∃N:St->Hp->Prop,(∀aB H',N aB H'->∃m',m'<m/\W (i+1) m' aB H')/\∀x H',(fM K a).i9 i H x H'->g x σ H' λcS H2=>tb {D with nx:=N,ct:=N,bk:=D.nx} cS H2):=by
 refine⟨λi m σ H=>m=xs.length-i/\i<=xs.length/\Pv i σ H,⟨xs.length,by simp,Y1 _,h0⟩,?_⟩;rintro i m σ H ⟨rfl,hi,p⟩;have q:=hl i σ H hi p;by_cases bf:i<xs.length
 ·refine .inr ⟨⟨xs,xs[i],q,by simp[bf]⟩,Pv (i+1),λaB H' p'=>⟨xs.length-(i+1),by omega,rfl,bf,p'⟩,λx H' y=>?_⟩;obtain⟨e,y⟩:=y;subst e;exact hs i x σ _ (y xs q) p
 ·have e:i=xs.length:=by omega
  subst e;exact .inl ⟨⟨xs,q,Yc _⟩,hd σ H p⟩
theorem JR{K:ae}{a:Addr}{xs:List V}{g:TG}{tb:TS}{D:Ends}{σ:St}{H:Hp}(Pv:Nat->St->Hp->Prop)(h0:Pv 0 σ H)(hl:∀i σ H,i<=xs.length->Pv i σ H->aq K H a xs)
  (hs:∀i x σ H,xs[i]?=some x->Pv i σ H->g x σ H λcS H2=>tb {D with nx:=Pv (i+1),ct:=Pv (i+1),bk:=D.nx} cS H2)(hd:∀σ H,Pv xs.length σ H->D.nx σ H):
  ∃W:Nat->Nat->St->Hp->Prop,(∃m,W 0 m σ H)/\∀i m σ H,W i m σ H->
   ((fN K a).stop i H/\D.nx σ H)\/((fN K a).go i H/\∃N:St->Hp->Prop,(∀aB H',N aB H'->∃m',m'<m/\W (i+1) m' aB H')/\∀x H',(fN K a).i9 i H x H'->g x σ H' λcS H2=>tb {D with nx:=N,ct:=N,bk:=D.nx} cS H2):=by
 refine⟨λi m σ H=>m=xs.length-i/\i<=xs.length/\Pv i σ H,⟨xs.length,by simp,Y1 _,h0⟩,?_⟩;rintro i m σ H ⟨rfl,hi,p⟩;have q:=hl i σ H hi p;by_cases bf:i<xs.length
 ·refine .inr ⟨⟨xs,xs[i],q,by simp[bf]⟩,Pv (i+1),λaB H' p'=>⟨xs.length-(i+1),by omega,rfl,bf,p'⟩,λx H' y=>?_⟩;obtain⟨e,y⟩:=y
  grind
 ·have e:i=xs.length:=by omega
  subst e;exact .inl ⟨⟨xs,q,Yc _⟩,hd σ H p⟩
theorem tq{lo:Int}{n:Nat}{g:TG}{tb:TS}{D:Ends}{σ:St}{H:Hp}(Pv:Nat->St->Hp->Prop)(h0:Pv 0 σ H)
  (hs:∀i σ H,i<n->Pv i σ H->g (.int (lo+i)) σ H λcS H2=>tb {D with nx:=Pv (i+1),ct:=Pv (i+1),bk:=D.nx} cS H2)(hd:∀σ H,Pv n σ H->D.nx σ H):
  ∃W:Nat->Nat->St->Hp->Prop,(∃m,W 0 m σ H)/\∀i m σ H,W i m σ H->
   ((i_ lo n).stop i H/\D.nx σ H)\/((i_ lo n).go i H/\∃N:St->Hp->Prop,(∀aB H',N aB H'->∃m',m'<m/\W (i+1) m' aB H')/\∀x H',(i_ lo n).i9 i H x H'->g x σ H' λcS H2=>tb {D with nx:=N,ct:=N,bk:=D.nx} cS H2):=by
 refine⟨λi m σ H=>m=n-i/\i<=n/\Pv i σ H,⟨n,by simp,Y1 _,h0⟩,?_⟩;rintro i m σ H ⟨rfl,hi,p⟩;by_cases bf:i<n
 ·refine .inr ⟨bf,Pv (i+1),λaB H' p'=>⟨n-(i+1),by omega,rfl,bf,p'⟩,λx H' y=>?_⟩;obtain⟨e,y⟩:=y
  grind
 ·have e:i=n:=by omega
  subst e;exact .inl ⟨Yc _,hd σ H p⟩
abbrev R2:=V->V->Hp->VK->Prop
def bE(X:Cx)(f:Value->Value->Sem Value)(r:R2):Prop:=
 ∀(pins:ax) (s:Shared) (σ:St) (H:Hp) (x y:V) (v u:Value) (Q:VK),Inv X pins σ H s->RelV x v->RelV y u->r x y H Q->
  wpAny X.md X.A (f v u) (EP X pins σ Q) X.xe s
def vS(X:Cx)(f:Value->Sem Value)(r:V->Hp->VK->Prop):Prop:=
 ∀(pins:ax) (s:Shared) (σ:St) (H:Hp) (x:V) (v:Value) (Q:VK),Inv X pins σ H s->RelV x v->r x H Q->
  wpAny X.md X.A (f v) (EP X pins σ Q) X.xe s
def bC(X:Cx)(f:Value)(r:List V->Hp->VK->Prop):Prop:=
 ∀(pins:ax) (s:Shared) (σ:St) (H:Hp) (xs:List V) (us:List Value) (Q:VK),Inv X pins σ H s->Vals xs us->r xs H Q->
  wpAny X.md X.A (call f us) (EP X pins σ Q) X.xe s
def MQ(X:Cx)(r:V->Hp->(Bool->Hp->Prop)->Prop):Prop:=
 ∀(pins:ax) (s:Shared) (σ:St) (H:Hp) (x:V) (v:Value) (Q:Bool->Hp->Prop),Inv X pins σ H s->RelV x v->r x H Q->
  wpAny X.md X.A (truthy v) (TP X pins σ Q) X.xe s
def gK(r:R2)(ta tb:TE):TE:=λσ H Q=>ta σ H λx H1=>tb σ H1 λy H2=>r x y H2 Q
def P4(r:V->Hp->VK->Prop)(ta:TE):TE:=λσ H Q=>ta σ H λx H1=>r x H1 Q
inductive Cy(C:Int->Int->Prop)(g:Int->Int->V)(x:V)(y:V)(H:Hp)(Q:VK):Prop
 |mk (i j) (aP:x=.int i) (aQ:y=.int j) (bc:C i j) (bN:Q (g i j) H):Cy C g x y H Q
def rI(C:Int->Int->Prop)(g:Int->Int->V):R2:=λx y H Q=>Cy C g x y H Q
inductive B3(g:Int->Int->V)(x:V)(y:V)(H:Hp)(Q:VK):Prop
 |mk (i j) (aP:x=.int i) (aQ:y=.int j) (bc:Q (g i j) H):B3 g x y H Q
def kQ(g:Int->Int->V):R2:=λx y H Q=>B3 g x y H Q
inductive Cz(g:Int->V)(x:V)(H:Hp)(Q:VK):Prop
 |mk (i) (aP:x=.int i) (aQ:Q (g i) H):Cz g x H Q
def rU(g:Int->V):V->Hp->VK->Prop:=λx H Q=>Cz g x H Q
section
variable {X:Cx}{a b c:Expr}{ta tb tc:TE}{pos:Pos}
theorem vA(ha:PE X a ta)(hb:PE X b tb){pins:ax}{s:Shared}{σ:St}{H:Hp}{R:V->V->Hp->Prop}(I:Inv X pins σ H s)
  (h:ta σ H λx H1=>tb σ H1 λy H2=>R x y H2){Q:aC}{f:Value->Value->Sem Value}
  (hf:∀v u s2 x y H2,Inv X pins σ H2 s2->RelV x v->RelV y u->R x y H2->wpAny X.md X.A (f v u) Q X.xe s2):
  wpAny X.md X.A (eval a X.env) (λv aU=>wpAny X.md X.A (eval b X.env) (λu pb=>wpAny X.md X.A (f v u) Q X.xe pb) X.xe aU) X.xe s:=by
 refine ay (ha pins s σ H _ I h) λv s1 zq=>?_;obtain⟨x,H1,I1,r1,q1⟩:=zq;refine ay (hb pins s1 σ H1 _ I1 q1) λu s2 zq=>?_;obtain⟨y,H2,I2,r2,q2⟩:=zq
 grind
theorem aJ{op:Operator}{r:R2}(ho:bE X (binaryOp op) r)(ha:PE X a ta)(hb:PE X b tb):PE X (.BinOp a op b pos) (gK r ta tb):=by
 intro pins s σ H Q I h;exact wpAny_BinOp (vA ha hb I h λv u s2 x y H2 I2 rx ry q=>ho pins s2 σ H2 x y v u Q I2 rx ry q)
theorem LY{op:UnaryOp}{r:V->Hp->VK->Prop}(ho:vS X (unaryOp op) r)(ha:PE X a ta):PE X (.UnaryOp op a pos) (P4 r ta):=by
 intro pins s σ H Q I h;exact UnaryOp_ (ay (ha pins s σ H _ I h) λv s1 ⟨x,H1,I1,r1,q1⟩=>ho pins s1 σ H1 x v Q I1 r1 q1)
theorem pN{f:Value->Value->Sem Value}{C:Int->Int->Prop}{g:Int->Int->Int}
  (rule:∀(i j:Int) (t u:Tok) (s:Shared) (Q:aC) (E:aC),C i j->Q (.int (g i j) s.toks) {s with toks:=s.toks+1}->wpAny X.md X.A (f (.int i t) (.int j u)) Q E s):
  bE X f (rI C λi j=>.int (g i j)):=by
 rintro pins s σ H x y v u Q I rx ry ⟨i,j,rfl,rfl,hc,q⟩;obtain⟨t,rfl⟩:=rx;obtain⟨t',rfl⟩:=ry;exact rule i j t t' s _ _ hc ⟨.int (g i j),H,I.tok _,⟨_,rfl⟩,q⟩
theorem CA{f:Value->Value->Sem Value}{g:Int->Int->Int}
  (rule:∀(i j:Int) (t u:Tok) (s:Shared) (Q:aC) (E:aC),Q (.int (g i j) s.toks) {s with toks:=s.toks+1}->wpAny X.md X.A (f (.int i t) (.int j u)) Q E s):
  bE X f (kQ λi j=>.int (g i j)):=by
 rintro pins s σ H x y v u Q I rx ry ⟨i,j,rfl,rfl,q⟩;obtain⟨t,rfl⟩:=rx;obtain⟨t',rfl⟩:=ry;exact rule i j t t' s _ _ ⟨.int (g i j),H,I.tok _,⟨_,rfl⟩,q⟩
theorem CB{f:Value->Value->Sem Value}{g:Int->Int->Bool}
  (rule:∀(i j:Int) (t u:Tok) (s:Shared) (Q:aC) (E:aC),Q (.bool (g i j)) s->wpAny X.md X.A (f (.int i t) (.int j u)) Q E s):
  bE X f (kQ λi j=>.bl (g i j)):=by
 rintro pins s σ H x y v u Q I rx ry ⟨i,j,rfl,rfl,q⟩;obtain⟨t,rfl⟩:=rx;obtain⟨t',rfl⟩:=ry;exact rule i j t t' s _ _ ⟨.bl (g i j),H,I,rfl,q⟩
def MR(i j:Int):Prop:=0<j/\j<1073741824
def MS(i j:Int):Prop:=0<=j/\j<=1000000/\i.natAbs<2^64
def vB(i j:Int):Prop:=(-(2^64)<i/\i<2^64)\/(-(2^64)<j/\j<2^64)
theorem vB.ok{i j:Int}(h:vB i j):IntMulOk i j:=by
 rcases h with⟨h1,h2⟩|⟨h1,h2⟩;·exact .of_left (intBits_le_64 h1 h2)
 ·exact .of_right (intBits_le_64 h1 h2)
theorem dE:bE X (binaryOp .Add) (kQ λi j=>.int (i+j)):=CA λ_ _ _ _ _ _ _ q=>add_int q
theorem uF:bE X (binaryOp .Sub) (kQ λi j=>.int (i-j)):=CA λ_ _ _ _ _ _ _ q=>sub_int q
theorem j8:bE X (binaryOp .Mult) (rI vB λi j=>.int (i*j)):=pN λ_ _ _ _ _ _ _ hc q=>mul_int q hc.ok
theorem AG:bE X (binaryOp .FloorDiv) (rI MR λi j=>.int (i/j)):=pN λi j _ _ _ _ _ hc q=>by
 have h1:(0:Int)<j:=hc.1;have h2:j<1073741824:=hc.2;exact floordiv_int (by omega) (by rw[Int.fdiv_eq_ediv_of_nonneg i (by omega)];exact q) (.inl (PyProof.noPylong_small (by omega)))
theorem fB:bE X (binaryOp .Mod) (rI (λ_ j=>0<j) λi j=>.int (i % j)):=pN λi j _ _ _ _ _ hc q=>by
 have h1:(0:Int)<j:=hc;exact mod_int' (by omega) (by rw[Int.fmod_eq_emod_of_nonneg i (by omega)];exact q)
theorem Bk:bE X (binaryOp .Pow) (rI MS λi j=>.int (i^j.toNat)):=pN λ_ _ _ _ _ _ _ hc q=>pow_int_small hc.1 hc.2.1 hc.2.2 q
theorem P5{f:Value->Sem Value}{g:Int->Int}
  (rule:∀(i:Int) (t:Tok) (s:Shared) (Q:aC) (E:aC),Q (.int (g i) s.toks) {s with toks:=s.toks+1}->wpAny X.md X.A (f (.int i t)) Q E s):
  vS X f (rU λi=>.int (g i)):=by
 rintro pins s σ H x v Q I rx ⟨i,rfl,q⟩;obtain⟨t,rfl⟩:=rx;exact rule i t s _ _ ⟨.int (g i),H,I.tok _,⟨_,rfl⟩,q⟩
theorem KW:vS X (unaryOp .USub) (rU λi=>.int (-i)):=P5 λ_ _ _ _ _ q=>neg_int q
end
def CC:V->V->Bool
 |.ao,.ao=>true|.ao,.int _=>true|.int _,.ao=>true|.ao,.bl _=>true|.bl _,.ao=>true|.ao,.str _=>true|.str _,.ao=>true
 |.int _,.int _=>true|.bl _,.bl _=>true|.str _,.str _=>true|.dM _,.dM _=>true
 |.int _,.str _=>true|.str _,.int _=>true|.bl _,.str _=>true|.str _,.bl _=>true
 |_,_=>false
def P6:R2:=λx y H Q=>CC x y=true/\Q (.bl (decide (x=y))) H
def P7:R2:=λx y H Q=>CC x y=true/\Q (.bl (!decide (x=y))) H
theorem AH{i j:Int}:decide (V.int i=V.int j)=(i==j):=by
 grind
theorem Bm{i j:Bool}:decide (V.bl i=V.bl j)=(i==j):=by
 grind
theorem AI{i j:Str}:decide (V.str i=V.str j)=(i==j):=by
 grind
theorem AJ{i j:Array UInt8}:decide (V.dM i=V.dM j)=(i.toList==j.toList):=by
 rw[Wv];simp_all
section
variable {X:Cx}{a b c:Expr}{ta tb tc:TE}{pos:Pos}
theorem bj{pins:ax}{σ:St}{H:Hp}{s:Shared}{Q:VK}{k k':Bool}(I:Inv X pins σ H s)(q:Q (.bl k) H)(e:k=k'):EP X pins σ Q (.bool k') s:=by
 subst e;exact⟨.bl k,H,I,rfl,q⟩
theorem eX:bE X (compareOp .Eq) P6:=by
 intro pins s σ H x y v u Q I rx ry h;obtain⟨hs,q⟩:=h;cases x with
 |ao=>
  cases rx;cases y with
  |ao=>cases ry;exact PySem.EqNone.eq_none_none (bj I q (by simp))
  |bl j=>cases ry;exact PySem.EqNone.eq_none_bool (bj I q (by simp))
  |int j=>obtain⟨t',rfl⟩:=ry;exact PySem.EqNone.eq_none_int (bj I q (by simp))
  |str j=>obtain⟨t',rfl⟩:=ry;exact PySem.EqNone.eq_none_str (bj I q (by simp))
  |_=>exact absurd (show false=true from hs) Yg
 |bl i=>
  cases rx;cases y with
  |ao=>cases ry;exact PySem.EqNone.eq_bool_none (bj I q (by simp))
  |bl j=>cases ry;exact eq_bool (bj I q Bm)
  |str j=>obtain⟨t',rfl⟩:=ry;exact PySem.EqMixed.eq_bool_str (bj I q (by simp))
  |_=>exact absurd (show false=true from hs) Yg
 |int i=>
  obtain⟨t,rfl⟩:=rx;cases y with
  |ao=>cases ry;exact PySem.EqNone.eq_int_none (bj I q (by simp))
  |int j=>obtain⟨t',rfl⟩:=ry;exact eq_int (bj I q AH)
  |str j=>obtain⟨t',rfl⟩:=ry;exact PySem.EqMixed.eq_int_str (bj I q (by simp))
  |_=>exact absurd (show false=true from hs) Yg
 |str i=>
  obtain⟨t,rfl⟩:=rx;cases y with
  |ao=>cases ry;exact PySem.EqNone.eq_str_none (bj I q (by simp))
  |bl j=>cases ry;exact PySem.EqMixed.eq_str_bool (bj I q (by simp))
  |int j=>obtain⟨t',rfl⟩:=ry;exact PySem.EqMixed.eq_str_int (bj I q (by simp))
  |str j=>obtain⟨t',rfl⟩:=ry;exact eq_str (bj I q AI)
  |_=>exact absurd (show false=true from hs) Yg
 |dM i=>
  obtain⟨t,rfl⟩:=rx;cases y with
  |dM j=>obtain⟨t',rfl⟩:=ry;exact PySem.W.eq_bytes (bj I q AJ)
  |_=>exact absurd (show false=true from hs) Yg
 |_=>cases y<;>exact absurd (show false=true from hs) Yg
theorem dZ:bE X (compareOp .NotEq) P7:=by
 intro pins s σ H x y v u Q I rx ry h;obtain⟨hs,q⟩:=h;cases x with
 |ao=>
  cases rx;cases y with
  |ao=>cases ry;exact PySem.EqNone.ne_none_none (bj I q (by simp))
  |bl j=>cases ry;exact PySem.EqNone.ne_none_bool (bj I q (by simp))
  |int j=>obtain⟨t',rfl⟩:=ry;exact PySem.EqNone.ne_none_int (bj I q (by simp))
  |str j=>obtain⟨t',rfl⟩:=ry;exact PySem.EqNone.ne_none_str (bj I q (by simp))
  |_=>exact absurd (show false=true from hs) Yg
 |bl i=>
  cases rx;cases y with
  |ao=>cases ry;exact PySem.EqNone.ne_bool_none (bj I q (by simp))
  |bl j=>cases ry;exact ne_bool (bj I q (congrArg not Bm))
  |str j=>obtain⟨t',rfl⟩:=ry;exact PySem.EqMixed.ne_bool_str (bj I q (by simp))
  |_=>exact absurd (show false=true from hs) Yg
 |int i=>
  obtain⟨t,rfl⟩:=rx;cases y with
  |ao=>cases ry;exact PySem.EqNone.ne_int_none (bj I q (by simp))
  |int j=>obtain⟨t',rfl⟩:=ry;exact ne_int (bj I q (congrArg not AH))
  |str j=>obtain⟨t',rfl⟩:=ry;exact PySem.EqMixed.ne_int_str (bj I q (by simp))
  |_=>exact absurd (show false=true from hs) Yg
 |str i=>
  obtain⟨t,rfl⟩:=rx;cases y with
  |ao=>cases ry;exact PySem.EqNone.ne_str_none (bj I q (by simp))
  |bl j=>cases ry;exact PySem.EqMixed.ne_str_bool (bj I q (by simp))
  |int j=>obtain⟨t',rfl⟩:=ry;exact PySem.EqMixed.ne_str_int (bj I q (by simp))
  |str j=>obtain⟨t',rfl⟩:=ry;exact ne_str (bj I q (congrArg not AI))
  |_=>exact absurd (show false=true from hs) Yg
 |dM i=>
  obtain⟨t,rfl⟩:=rx;cases y with
  |dM j=>obtain⟨t',rfl⟩:=ry;exact PySem.W.ne_bytes (bj I q (congrArg not AJ))
  |_=>exact absurd (show false=true from hs) Yg
 |_=>cases y<;>exact absurd (show false=true from hs) Yg
theorem l_:bE X (compareOp .Lt) (kQ λi j=>.bl (decide (i<j))):=CB λ_ _ _ _ _ _ _ q=>lt_int q
theorem uY:bE X (compareOp .Gt) (kQ λi j=>.bl (decide (j<i))):=CB λ_ _ _ _ _ _ _ q=>gt_int q
theorem zA:bE X (compareOp .In) (λx y H Q=>∃i j,x=.str i/\y=.str j/\Q (.bl (!(Builtin.Str.occurrences j i 0 j.length 1).isEmpty)) H):=by
 intro pins s σ H x y v u Q I rx ry h;obtain⟨i,j,rfl,rfl,q⟩:=h;obtain⟨t,rfl⟩:=rx;obtain⟨t',rfl⟩:=ry;exact in_str (bj I q rfl)
theorem Bn:bE X (compareOp .Is) (λx y H Q=>y=.ao/\Q (.bl (decide (x=.ao))) H):=by
 intro pins s σ H x y v u Q I rx ry h;obtain⟨rfl,q⟩:=h;cases ry;refine is_none_gen (bj I q ?_);cases x<;>first
  |(cases rx;rfl)
  |(obtain⟨t,rfl⟩:=rx;rfl)
theorem Bo(b:Expr){op:CmpOp}(h:op≠.In:=by decide)(h2:op≠.NotIn:=by decide):behindInMarks op b=false:=by
 have e1:(op==CmpOp.In)=false:=by cases op<;>first|rfl|exact absurd rfl h
 have e2:(op==CmpOp.NotIn)=false:=by cases op<;>first|rfl|exact absurd rfl h2
 cases b<;>simp[behindInMarks,e1,e2]
theorem t4{op:CmpOp}{r:R2}(ho:bE X (compareOp op) r)(ha:PE X a ta)(hb:PE X b tb)(hm:behindInMarks op b=false):PE X (.Compare a [op] [b] pos) (gK r ta tb):=by
 intro pins s σ H Q I h;exact wpAny_Compare1 (vA ha hb I h λv u s2 x y H2 I2 rx ry q=>ho pins s2 σ H2 x y v u Q I2 rx ry q) hm
inductive AK(Q:Bool->Hp->Prop)(x:V)(H':Hp):Prop
 |mk (k) (aP:x=.bl k) (aQ:Q k H'):AK Q x H'
def B4(t:TE):TT:=λσ H Q=>t σ H λx H'=>AK Q x H'
theorem AL{op:CmpOp}{r:R2}(ho:bE X (compareOp op) r)(ha:PE X a ta)(hb:PE X b tb)(hm:behindInMarks op b=false):PT X (.Compare a [op] [b] pos) (B4 (gK r ta tb)):=by
 intro pins s σ H Q I h;refine wpAny_isTrue_Compare1 (ay (ha pins s σ H _ I h) λv s1 ⟨x,H1,I1,r1,q1⟩=>ay (hb pins s1 σ H1 _ I1 q1) λu s2 ⟨y,H2,I2,r2,q2⟩=>
  ay (ho pins s2 σ H2 x y v u _ I2 r1 r2 q2) λc s3 ⟨z,H3,I3,r3,k,e,q3⟩=>?_) hm
 subst e;cases r3;exact wpAny_truthy_bool ⟨H3,I3,q3⟩
def pd(K:ae)(x:V)(H:Hp)(k:Bool):Prop:=
 match x with
 |.ao=>k=false
 |.bl b=>k=b
 |.int i=>k=(i !=0)
 |.str y=>y.length<=sizeLine/\k=((y.length:Int)!=0)
 |.dM y=>y.size<=sizeLine/\k=((y.size:Int)!=0)
 |.ref p=>(∃xs,ai K H p xs/\k=!xs.isEmpty)\/(∃xs,aq K H p xs/\k=!xs.isEmpty)\/∃av,H p=some (.dK av)/\k=!av.isEmpty
 |_=>False
theorem Gx{κ:Type}{av:List (κ×V)}{vs:List (κ×Value)}(r:KV av vs):(!vs.isEmpty)=!av.isEmpty:=by
 cases r<;>rfl
theorem yU{xs:List V}{af:List Value}(r:Vals xs af):(!af.toArray.isEmpty)=!xs.isEmpty:=by
 cases r<;>simp
theorem iO:(sizeLine:Nat)<2^63:=by rw[sizeLine_eq];decide
theorem KY:MQ X (λx H Q=>∃k,pd X.K x H k/\Q k H):=by
 intro pins s σ H x v Q I rx h;obtain⟨k,e,q⟩:=h;have hl:=iO;have hs:sizeLine=16777216:=sizeLine_eq;cases x with
 |ao=>
  cases rx;have e':k=false:=e;subst e';exact truthy_none ⟨H,I,q⟩
 |bl b=>
  cases rx;have e':k=b:=e;subst e';exact wpAny_truthy_bool ⟨H,I,q⟩
 |int i=>
  obtain⟨t,rfl⟩:=rx;have e':k=(i !=0):=e;subst e';exact PySem.P.truthy_int ⟨H,I,q⟩
 |str y=>
  obtain⟨t,rfl⟩:=rx;obtain⟨hy,e'⟩:y.length<=sizeLine/\k=((y.length:Int)!=0):=e;subst e';exact PySem.P.truthy_str (by omega) ⟨H,I.tok _,q⟩
 |dM y=>
  obtain⟨t,rfl⟩:=rx;obtain⟨hy,e'⟩:y.size<=sizeLine/\k=((y.size:Int)!=0):=e;subst e';exact PySem.W.truthy_bytes (by omega) ⟨H,I.tok _,q⟩
 |ref p=>
  cases rx;have e':=e;rcases e' with⟨xs,hx,e'⟩|⟨xs,hx,e'⟩|⟨av,hx,e'⟩
  ·subst e';obtain⟨af,r,pl,hz⟩:=I.list hx;have hlen:=r.length;exact wpAny_truthy_list pl.isList (by simp only[Yf];omega) ⟨H,I.tok _,by rw[yU r];exact q⟩
  ·subst e';obtain⟨af,r,pl,hz⟩:=I.tuple hx;have hlen:=r.length;exact truthy_tuple pl (by simp only[Yf];omega) ⟨H,I.tok _,by rw[yU r];exact q⟩
  ·subst e';obtain⟨hz,hS,vs,r,m⟩:av.length<=sizeLine/\(p==sysModules)=false/\∃vs,KV av vs/\s.heap.DictOf (eU X.prog X.w) p vs:=I.ah p _ hx;have hlen:av.length=vs.length:=Paired.length r;exact wpAny_truthy_dict hS m (by omega) ⟨H,I.tok _,by rw[Gx r];exact q⟩
 |_=>exact(show False from e).elim
theorem zX(ha:PE X a ta)(he:∀whole,isTrue a X.env whole=(do let v←whole;standAt a.pos;holding [v] (truthy v))):
  PT X a (λσ H Q=>ta σ H λx H'=>∃k,pd X.K x H' k/\Q k H'):=by
 intro pins s σ H Q I h;exact isTrue_plain (ay (ha pins s σ H _ I h) λv s1 ⟨x,H1,I1,r1,q1⟩=>KY pins s1 σ H1 x v Q I1 r1 q1) (he _)
theorem cK:bE X (binaryOp .Add) (λx y H Q=>∃i j,x=.str i/\y=.str j/\i.length+j.length<=sizeLine/\Q (.str (i++j)) H):=by
 rintro pins s σ H x y v u Q I rx ry ⟨i,j,rfl,rfl,hz,q⟩;obtain⟨t,rfl⟩:=rx;obtain⟨t',rfl⟩:=ry;exact add_str (λt' tk=>⟨.str (i++j),H,I.tok _,⟨_,rfl⟩,q⟩) hz
theorem vals1{x:V}{us:List Value}(r:Vals [x] us):∃u,us=[u]/\RelV x u:=by
 cases r with
 |cons r1 r2=>cases r2;exact⟨_,rfl,r1⟩
theorem vals2{x y:V}{us:List Value}(r:Vals [x,y] us):∃u w',us=[u,w']/\RelV x u/\RelV y w':=by
 cases r with
 |cons r1 r2=>
  cases r2 with
  |cons r3 r4=>cases r4;exact⟨_,_,rfl,r1,r3⟩
theorem zY:bC X (.builtin "abs") (λxs H Q=>∃i,xs=[.int i]/\Q (.int (if i<0 then-i else i)) H):=by
 rintro pins s σ H xs us Q I r ⟨i,rfl,q⟩;obtain⟨u,rfl,t,rfl⟩:=vals1 r;exact call_abs_int λu tk=>⟨.int (if i<0 then-i else i),H,I.tok _,⟨_,rfl⟩,q⟩
theorem Ib(hc:X.calm=true):bC X (.builtin "max") (λxs H Q=>∃i j,xs=[.int i,.int j]/\Q (.int (if j>i then j else i)) H):=by
 rintro pins s σ H xs us Q I r ⟨i,j,rfl,q⟩;obtain⟨u,w',rfl,⟨t,rfl⟩,⟨t',rfl⟩⟩:=vals2 r;refine max_two_ints (I.ok.hd hc) λh' tk k=>⟨_,H,I.kept k,?_,q⟩;by_cases hj:j>i;·rw[if_pos hj,if_pos hj];exact⟨_,rfl⟩
 ·rw[if_neg hj,if_neg hj];exact⟨_,rfl⟩
theorem Ic(hc:X.calm=true):bC X (.builtin "min") (λxs H Q=>∃i j,xs=[.int i,.int j]/\Q (.int (if j<i then j else i)) H):=by
 rintro pins s σ H xs us Q I r ⟨i,j,rfl,q⟩;obtain⟨u,w',rfl,⟨t,rfl⟩,⟨t',rfl⟩⟩:=vals2 r;refine min_two_ints (I.ok.hd hc) λh' tk k=>⟨_,H,I.kept k,?_,q⟩;by_cases hj:j<i;·rw[if_pos hj,if_pos hj];exact⟨_,rfl⟩
 ·rw[if_neg hj,if_neg hj];exact⟨_,rfl⟩
theorem yx:bC X (.type "str") (λxs H Q=>∃i,xs=[.int i]/\i.natAbs.log2<1920/\Q (.str (toString i)) H):=by
 rintro pins s σ H xs us Q I r ⟨i,rfl,hz,q⟩;obtain⟨u,rfl,t,rfl⟩:=vals1 r;exact PySem.P.str_of_int hz ⟨.str _,H,I.tok _,⟨_,rfl⟩,q⟩
end
structure kD(h:Heap)(x dx C:Addr)(mA:aF):Prop where
 obj:h.get? x=some (instObj C dx)
 ns:h.Ns1 dx mA
 ne:dx≠x
theorem tw{h:Heap}{dx:Addr}{mA:aF}(n:h.Ns1 dx mA):∃od,h.get? dx=some od/\∀name,lookIn name od=some (mA name):=by
 obtain⟨o,es,ep,ho,hd,hk,_,hm⟩:=n;refine⟨o,ho,λname=>?_⟩;have e:=hm name;unfold nsFind findBy at e;rw[←Array.find?_toList] at e;unfold lookIn;rw[hd];dsimp only;split;·grind
 ·rename_i q
  have a:es.toList.any (·.refKey)=false:=by
   rw[List.any_eq_false];intro y hy;obtain⟨z,t,MT⟩:=hk y (Array.mem_toList_iff.mp hy);simp[DictEntry.refKey,MT]
  grind
theorem kD.look{h:Heap}{x dx C:Addr}{mA:aF}(I:kD h x dx C mA):∃od,PySem.W.InstAt h x (instObj C dx) C (some od)/\∀name,lookIn name od=some (mA name):=
 let⟨od,ho,hl⟩:=tw I.ns
 ⟨od,⟨I.obj,rfl,rfl,ho⟩,hl⟩
section
variable {prog:Program}{w:World}{A:Around}{E:aC}{s:Shared}{K:ae}{x dx C f:Addr}{mA:aF}{name:Str}{v:Value}
theorem get_map{expr:Bool}{Q:aC}(X:K.In s.heap)(I:kD s.heap x dx C mA)(hg:plainGet K C name=true)(hh:hasDictIn K C=true)
  (ha:PySem.W.findIn K (.ref C) name=some none)(hv:mA name=some v)(P8:handedIn v=true)(h:Q v {s with toks:=s.toks+1}):
  wpAny (model prog w) A (getAttr (.ref x) name expr) Q E s:=by
 obtain⟨od,J,hl⟩:=I.look;exact PySem.W.get_value X J (PySem.W.plainGet_of hg).1 (findObj_own hh ha rfl (by rw[hl,hv])) P8 h
theorem JS{ns:List Str}{Q:Unit->Shared->Prop}(X:K.In s.heap)(I:kD s.heap x dx C mA)
  (hs:PySem.W.findIn K (.ref C) "__setattr__"=some (some (.builtin "object.__setattr__")))(hp:plainOver K C=true)(ht:takerIn K C name=some none)(hh:hasDictIn K C=true)
  (hw:PySem.Within mA ns)(Dw:ns.length<=sizeLine)
  (h:∀h',kD h' x dx C (λy=>if y=name then some v else mA y)->Heap.SameBut dx s.heap h'->Q () {s with heap:=h',toks:=s.toks+2}):
  wpAny (model prog w) A (setAttr (.ref x) name v) Q E s:=by
 obtain⟨od,J,hl⟩:=I.look;refine set_plain X J hs (PySem.W.osa_open X J hp ht λb=>?_);obtain⟨cd,hc,kO⟩:=any_some hh;refine wpAny_bind (wpAny_pure (wpAny_bind (wpAny_bind (wpAny_loadPart I.obj (wpAny_bind (PySem.W.Looks.here (PySem.W.looks_clsIn X hc) ?_))))));rw[kO];refine wpAny_pure (wpAny_bind (wpAny_pure (wpAny_bind (wpAny_nsSet1 I.ns λh' pO kR=>?_))));obtain⟨oD,Dx,Dy,mJ,mK,mM⟩:=pO.count (PySem.Within.cons name v hw);exact wpAny_bind (wpAny_lookBehind mJ (by rw[mK];exact pastItsLine_dict (Yn mM (by rw[Yy];omega))) (wpAny_pure (h _ ⟨(kR.2 _ (Ne.symm I.ne)).trans I.obj,pO,I.ne⟩ kR)))
theorem zZ{R:Result->Shared->Prop}{vs:List Value}{kw:List (Str×Value)}(X:K.In s.heap)(hm:makesIn K C=true)
  (hi:PySem.W.findIn K (.ref C) "__init__"=some (some (.ref f)))(hf:typeIn K (.ref f)=some (.type "function"))
  (h:codeAny (model prog w) (A.under (.builtin "type.__call__" ⟨.ref C::vs,kw⟩)) (.call (.ref f) ⟨.ref (s.heap.objs.size+1)::vs,kw⟩) (PySem.W.InitBack (s.heap.objs.size+1) R)
   {s with heap:=(s.heap.push emptyDict).push (instObj C s.heap.objs.size)}):
  codeAny (model prog w) A (.call (.ref C) ⟨vs,kw⟩) R s:=by
 obtain⟨hh,g,d,t,os⟩:=s;exact PySem.W.make_core (PySem.W.makes_of X hm) (PySem.W.looks_findIn X hi) (λself=>PySem.W.bind_fn X self hf) (.inl rfl) h
end
def bO(f:Str)(v:V):List (Str×V)->List (Str×V)
 |[]=>[(f,v)]
 |(g,x)::r=>if g=f then(g,v)::r else(g,x)::bO f v r
theorem rg(f g:Str)(v:V):∀fs:List (Str×V),(bO f v fs).lookup g=if g=f then some v else fs.lookup g
 |[]=>by
  show List.lookup g [(f,v)]=_
  grind
 |(k,x)::r=>by
  have ih:=rg f g v r;rw[show bO f v ((k,x)::r)=(if k=f then(k,v)::r else(k,x)::bO f v r) from rfl]
  grind
theorem lG(f:Str)(v:V):∀fs:List (Str×V),f∈(bO f v fs).map (·.1)/\∀g,g∈fs.map (·.1)->g∈(bO f v fs).map (·.1)
 |[]=>⟨by simp[bO],λg h=>by simp at h⟩
 |(k,x)::r=>by
  obtain⟨i1,i2⟩:=lG f v r;rw[show bO f v ((k,x)::r)=(if k=f then(k,v)::r else(k,x)::bO f v r) from rfl]
  grind
theorem rh(f:Str)(v:V):∀fs:List (Str×V),(bO f v fs).length<=fs.length+1
 |[]=>by simp[bO]
 |(k,x)::r=>by
  have ih:=rh f v r;rw[show bO f v ((k,x)::r)=(if k=f then(k,v)::r else(k,x)::bO f v r) from rfl]
  grind
theorem eG.some_of{v:V}{o:Option Value}(r:eG (some v) o):∃u,o=some u/\RelV v u:=by
 cases o with
 |none=>exact(show False from r).elim
 |some u=>exact⟨u,rfl,r⟩
theorem zB{v:V}{u:Value}(r:RelV v u):handedIn u=true:=by
 cases v with
 |ao=>cases(show u=Value.none from r);rfl
 |bl b=>cases(show u=Value.bool b from r);rfl
 |int i=>obtain⟨t,e⟩:=(show ∃t,u=Value.int i t from r);cases e;rfl
 |str x=>obtain⟨t,e⟩:=(show ∃t,u=Value.str x t from r);cases e;rfl
 |dM b=>obtain⟨t,e⟩:=(show ∃t,u=Value.bytes b t from r);cases e;rfl
 |i5 b=>obtain⟨t,e⟩:=(show ∃t,u=Value.float b t from r);cases e;rfl
 |ref a=>cases(show u=Value.ref a from r);rfl
 |ty n=>cases(show u=Value.type n from r);rfl
section
variable {P:Program}{w:World}{H H':Hp}{h h':Heap}{a C dx:Addr}{fs vO:List (Str×V)}
theorem t5(ah:bw P w H h)(e:H a=some (.ins C dx fs)):∃mA,kD h a dx C mA/\(∀f,eG (fs.lookup f) (mA f))/\PySem.Within mA (fs.map (·.1))/\fs.length<=1000/\H dx=some (.own a):=by
 obtain⟨d,z,ne,ob,mA,n,r,q⟩:=(show bo P w H h a (.ins C dx fs) from ah a _ e);exact⟨mA,⟨ob,n,ne⟩,r,q,z,d⟩
end
structure gL(K:ae)(C:Addr):Prop where
 pg:plainGet K C Str.empty=true
 hd:hasDictIn K C=true
 po:plainOver K C=true
 sa:PySem.W.findIn K (.ref C) "__setattr__"=some (some (.builtin "object.__setattr__"))
theorem gL.get{K:ae}{C:Addr}(c:gL K C)(f:Str):plainGet K C f=true:=c.pg
def b_(K:ae)(C:Addr)(f:Str):Prop:=PySem.W.findIn K (.ref C) f=some none
theorem b_.LZ{K:ae}{C:Addr}{f:Str}(n:b_ K C f):takerIn K C f=some none:=by
 unfold takerIn;rw[show PySem.W.findIn K (.ref C) f=some none from n];rfl
section
variable {X:Cx}{pins:ax}{σ:St}{H:Hp}{s:Shared}{a C dx:Addr}{fs:List (Str×V)}{f:Str}{v:V}{A:Around}{E:aC}
theorem Gy{b:Bool}{Q:aC}(I:Inv X pins σ H s)(e:H a=some (.ins C dx fs))(c:gL X.K C)(n:b_ X.K C f)(l:fs.lookup f=some v)
  (h:∀u s',Inv X pins σ H s'->RelV v u->Q u s'):wpAny X.md A (getAttr (.ref a) f b) Q E s:=by
 obtain⟨mA,O,r,_,_,_⟩:=t5 I.ah e;obtain⟨u,hu,ru⟩:=eG.some_of (by rw[←l];exact r f);exact get_map I.aI O (c.get f) c.hd n hu (zB ru) (h u _ (I.tok _) ru)
theorem Gz{y:V}{u:Value}{Q:Unit->Shared->Prop}(I:Inv X pins σ H s)(e:H a=some (.ins C dx fs))(c:gL X.K C)(n:b_ X.K C f)(hl:fs.length<1000)(ry:RelV y u)
  (h:∀s',Inv X pins σ (upd H a (.ins C dx (bO f y fs))) s'->Q () s'):wpAny X.md A (setAttr (.ref a) f u) Q E s:=by
 obtain⟨mA,O,r,wi,_,ho⟩:=t5 I.ah e;have hz:(fs.map (·.1)).length<=sizeLine:=by rw[Ya,sizeLine_eq];omega
 refine JS I.aI O c.sa c.po n.LZ c.hd wi hz λh' O' sb=>h _ (I.write (by rw[e];exact True.intro) (.inr ho) (λb q hb z=>(sb.2 b hb).trans z) (let⟨o,_,_,e',_⟩:=O'.ns;⟨o,e'⟩) ⟨by rw[ak O.ne];exact ho,?_,O.ne,O'.obj,_,O'.ns,λg=>?_,λg hg=>?_⟩);·have:=rh f y fs;omega
 ·show eG ((bO f y fs).lookup g) (if g=f then some u else mA g);rw[rg];by_cases q:g=f;·rw[if_pos q,if_pos q];exact ry
  ·grind
 ·by_cases q:g=f;·rw[q];exact(lG f y fs).1
  ·refine(lG f y fs).2 g (wi g λz=>hg ?_)
   grind
theorem Inv.made(I:Inv X pins σ H s):Inv X pins σ (upd (upd H s.heap.objs.size (.own (s.heap.objs.size+1))) (s.heap.objs.size+1) (.ins C s.heap.objs.size []))
  {s with heap:=(s.heap.push emptyDict).push (instObj C s.heap.objs.size)}:=by
 have e1:(s.heap.push emptyDict).get? s.heap.objs.size=some emptyDict:=Ye s.heap rfl;have e2:((s.heap.push emptyDict).push (instObj C s.heap.objs.size)).get? (s.heap.objs.size+1)=some (instObj C s.heap.objs.size):=by
  have:=Ye (s.heap.push emptyDict) (o:=instObj C s.heap.objs.size) rfl
  rwa [Heap.size_push] at this
 have e3:(s.heap.push emptyDict).Ns s.heap.objs.size (λ_=>none):=⟨emptyDict,#[],_,e1,rfl,(λe he=>absurd he (by simp)),λ_=>rfl⟩;have I1:=I.laid (a:=s.heap.objs.size) (o:=.own (s.heap.objs.size+1)) (h':=s.heap.push emptyDict) (t':=s.toks) (λb u q=>Yb _ q) (Yc _) ⟨_,e1⟩;refine I1.laid (a:=s.heap.objs.size+1) (o:=.ins C s.heap.objs.size []) (t':=s.toks) (λb u q=>Yb _ q) (Jb (Heap.size_push _ _)) ?_;have ne:s.heap.objs.size≠s.heap.objs.size+1:=Yh (W4 _);refine⟨by rw[ak ne,aw],Y1 _,ne,e2,λ_=>none,(Heap.Ns1.of_empty e3).at λo q=>Yb _ q,λ_=>True.intro,λy hy=>absurd rfl hy⟩
theorem AM{prog:Program}{w:World}{env:Env}{e:Expr}{f:Str}{pos:Pos}{s:Shared}{Q:aC}(hb:attributeBase e f env (eval e env)=eval e env)
  (h:wpAny (model prog w) A (eval e env) (λo aU=>wpAny (model prog w) A (getAttr o f true) Q E aU) E s):wpAny (model prog w) A (eval (.Attribute e f pos) env) Q E s:=
 Attribute_any_ h (by rw[arm_eval_Attribute,hb])
end
inductive Bp(K:ae)(f:Str)(Q:VK)(x:V)(H1:Hp):Prop
 |mk (a C dx fs v) (aP:x=.ref a) (aQ:H1 a=some (.ins C dx fs)) (bc:gL K C) (bN:b_ K C f) (cw:fs.lookup f=some v) (fb:Q v H1):Bp K f Q x H1
def vC(K:ae)(ta:TE)(f:Str):TE:=λσ H Q=>ta σ H λx H1=>Bp K f Q x H1
def MU(K:ae)(ta tv:TE)(f:Str):TS:=λD σ H=>tv σ H λy H1=>ta σ H1 λx H2=>∃a C dx fs,x=.ref a/\H2 a=some (.ins C dx fs)/\gL K C/\b_ K C f/\fs.length<1000/\
 D.nx σ (upd H2 a (.ins C dx (bO f y fs)))
section
variable {X:Cx}{o e value:Expr}{f:Str}{pos pos' CD:Pos}{ta tv:TE}
theorem KZ(he:PE X e ta)(hb:attributeBase e f X.env (eval e X.env)=eval e X.env):PE X (.Attribute e f pos) (vC X.K ta f):=by
 intro pins s σ H Q I h;refine AM hb (ay (he pins s σ H _ I h) λu s1 zq=>?_);obtain⟨x,H1,I1,rx,a,C,dx,fs,v,ex,ea,c,n,l,q⟩:=zq;subst ex;obtain rfl:u=Value.ref a:=rx;exact Gy I1 ea c n l λu' s2 I2 ru=>⟨v,H1,I2,ru,q⟩
theorem fC(ha:PE X o ta)(hv:PE X value tv)(hs:swapsWith value (some (.Attribute o f pos')) pos.line X.env=pure false):PS X (.Assign [.Attribute o f pos'] value pos) (MU X.K ta tv f):=by
 intro pins s σ H D I h;refine plainObj_wpAny_Assign_Attribute (ay (hv pins s σ H _ I h) λu s1 zq=>?_) hs;obtain⟨y,H1,I1,ry,q⟩:=zq;refine ay (ha pins s1 σ H1 _ I1 q) λov s2 zq=>?_;obtain⟨x,H2,I2,rx,a,C,dx,fs,ex,ea,c,n,l,q2⟩:=zq;subst ex;obtain rfl:ov=Value.ref a:=rx;exact Gz I2 ea c n l ry λs3 I3=>⟨σ,_,I3,q2⟩
end
section
variable {X:Cx}{pins:ax}{σ:St}{H:Hp}{s:Shared}{A:Around}{E:aC}{Q:aC}{c:Value}{b:Bool}
inductive dj(K:ae)(H:Hp):V->Value->Prop where
 |ao:dj K H .ao (.type "NoneType")
 |bl (x:Bool):dj K H (.bl x) (.type "bool")
 |int (i:Int):dj K H (.int i) (.type "int")
 |str (x:Str):dj K H (.str x) (.type "str")
 |i5 (x:UInt64):dj K H (.i5 x) (.type "float")
 |lst {a:Addr} {xs:List V} (e:H a=some (.lst xs)):dj K H (.ref a) (.type "list")
 |dN {a:Addr} {o:Obj} {xs:List V} (e:H a=some (.dN o (.lst xs))):dj K H (.ref a) (.type "list")
 |tup {a:Addr} {xs:List V} (e:H a=some (.tup xs)):dj K H (.ref a) (.type "tuple")
 |dK {a:Addr} {av:List (Key×V)} (e:H a=some (.dK av)):dj K H (.ref a) (.type "dict")
 |dT {a:Addr} {av:List (List Key×V)} (e:H a=some (.dT av)):dj K H (.ref a) (.type "dict")
 |ins {a C dx:Addr} {fs:List (Str×V)} (e:H a=some (.ins C dx fs)) (cl:gL K C) (ha:PySem.W.findIn K (.ref C) "__class__"=some (some (.builtin "object.__class__")))
   (hn:specialIn K (.builtin "object.__class__") "__get__"=some (some (.builtin "getset_descriptor.__get__"))) (Dz:takesIn K (.builtin "object.__class__")=some true)
   (hm:PySem.W.mroIn K C (.type "object")=some true):dj K H (.ref a) (.ref C)
theorem Ie{x:V}{u t:Value}(I:Inv X pins σ H s)(rx:RelV x u)(ty:dj X.K H x t)(e:kitOne X.K t c=some b)(h:∀tk,Q (.bool b) {s with toks:=tk}):
  wpAny X.md A (call (.builtin "isinstance") [u,c]) Q E s:=by
 cases ty with
 |ao=>cases(show u=Value.none from rx);exact kia_one PySem.W.kitx_none I.aI True.intro e (λz=>nomatch z) h
 |bl y=>cases(show u=Value.bool y from rx);exact kia_one PySem.W.kitx_bool I.aI True.intro e (λz=>nomatch z) h
 |int i=>obtain⟨t,q⟩:=(show ∃t,u=Value.int i t from rx);cases q;exact kia_one PySem.W.kitx_int I.aI True.intro e (λz=>nomatch z) h
 |str y=>obtain⟨t,q⟩:=(show ∃t,u=Value.str y t from rx);cases q;exact kia_one PySem.W.kitx_str I.aI True.intro e (λz=>nomatch z) h
 |i5 y=>obtain⟨t,q⟩:=(show ∃t,u=Value.float y t from rx);cases q;exact kia_one PySem.W.kitx_float I.aI True.intro e (λz=>nomatch z) h
 |@lst a xs ea=>
  cases(show u=Value.ref a from rx);obtain⟨_,_,n,_,h1⟩:=(show bo X.prog X.w H s.heap a (.lst xs) from I.ah a _ ea);exact kia_one kitx_list I.aI ⟨_,h1,rfl⟩ e (λz=>nomatch z) h
 |@dN a ob xs ea=>
  cases(show u=Value.ref a from rx);obtain⟨_,_,_,n,_,h1⟩:=(show bo X.prog X.w H s.heap a (.dN ob (.lst xs)) from I.ah a _ ea);exact kia_one kitx_list I.aI ⟨_,h1,rfl⟩ e (λz=>nomatch z) h
 |@tup a xs ea=>
  cases(show u=Value.ref a from rx);obtain⟨_,_,_,p⟩:=(show bo X.prog X.w H s.heap a (.tup xs) from I.ah a _ ea);obtain⟨o,h1,h2,_⟩:=p;exact kia_one PySem.W.kitx_tuple I.aI ⟨o,h1,h2⟩ e (λz=>nomatch z) h
 |@dK a av ea=>
  cases(show u=Value.ref a from rx);obtain⟨_,_,vs,_,p⟩:=(show bo X.prog X.w H s.heap a (.dK av) from I.ah a _ ea);obtain⟨o,es,ep,h1,h2,_⟩:=p;exact kia_one kitx_dict I.aI ⟨o,h1,h2.1⟩ e (λz=>nomatch z) h
 |@dT a av ea=>
  cases(show u=Value.ref a from rx);obtain⟨_,_,xs,_,o,es,ep,h1,h2,_⟩:=(show bo X.prog X.w H s.heap a (.dT av) from I.ah a _ ea);exact kia_one kitx_dict I.aI ⟨o,h1,h2.1⟩ e (λz=>nomatch z) h
 |@ins a C dx fs ea cl ha hn Dz hm=>
  cases(show u=Value.ref a from rx);obtain⟨mA,O,_⟩:=t5 I.ah ea;obtain⟨od,J,_⟩:=O.look;exact kia_one (PySem.W.kitx_own (cl.get _) cl.hd ha hn Dz hm) I.aI J e (λz=>nomatch z) h
end
structure aV(k:Nat)(A:Around):Prop where
 hd:A.handled=none
 dp:A.depth+3*k+5<recursionLimit
 un:A.units+16*k+200<cLine
 gd:A.guards=some []
theorem aV.mono{j k:Nat}{A:Around}(r:aV k A)(h:j<=k):aV j A:=⟨r.hd,by have:=r.dp;omega,by have:=r.un;omega,r.gd⟩
theorem aV.deeper{k:Nat}{A:Around}(r:aV (k+1) A)(env:Env):aV k (A.deeper env):=
 ⟨r.hd,by have:=r.dp;show A.depth+1+3*k+5<_;omega,by have:=r.un;show A.units+3+16*k+200<_;omega,r.gd⟩
theorem GA{A:Around}{C:Addr}{us:List Value}{kw:List (Str×Value)}:(A.under (.builtin "type.__call__" ⟨.ref C::us,kw⟩)).depth=A.depth+1:=by
 rfl
theorem GB{A:Around}{C:Addr}{us:List Value}{kw:List (Str×Value)}:(A.under (.builtin "type.__call__" ⟨.ref C::us,kw⟩)).units=A.units+1:=by
 rfl
theorem aV.make{k:Nat}{A:Around}(r:aV (k+1) A)(C:Addr)(us:List Value)(kw:List (Str×Value)):aV k (A.under (.builtin "type.__call__" ⟨.ref C::us,kw⟩)):=
 ⟨r.hd,by have:=r.dp;rw[GA];omega,by have:=r.un;rw[GB];omega,by first|exact r.gd|simpa[Around.under,Code.isGuard,Code.isFrame,guardIds] using r.gd⟩
theorem aV.depth{k:Nat}{A:Around}(r:aV k A):A.depth<recursionLimit:=by have:=r.dp;omega
theorem aV.units{k:Nat}{A:Around}(r:aV k A):A.units+64<cLine:=by have:=r.un;omega
theorem aV.j9{k:Nat}{A:Around}(r:aV k A):A.units<cLine:=by have:=r.un;omega
def cP:TA:=λ_ H Q=>Q [] H
def cC(ta:TE)(tr:TA):TA:=λσ H Q=>ta σ H λx H1=>tr σ H1 λxs H2=>Q (x::xs) H2
section
variable {X:Cx}{e:Expr}{es:List Expr}{te:TE}{t:TA}{pos:Pos}
theorem ag:PA X [] cP:=λ_ _ _ _ H Q I h=>Calls.spliced_nil ⟨[],H,I,.nil,h⟩
theorem aa(ha:PE X e te)(hr:PA X es t)(hs:cR X e es:=by rfl):PA X (e::es) (cC te t):=by
 intro pos pins s σ H Q I h;rw[hs];exact Calls.spliced_cons (ay (ha pins s σ H _ I h) λu s1 ⟨x,H1,I1,r1,q1⟩=>ay (hr pos pins s1 σ H1 _ I1 q1) λus s2 ⟨xs,H2,I2,r2,q2⟩=>⟨x::xs,H2,I2,.cons r1 r2,q2⟩)
def MV(t:TA):TE:=λσ H Q=>t σ H λxs H1=>xs.length<=sizeLine/\∀p,H1 p=none->Q (.ref p) (upd H1 p (.lst xs))
theorem j_(h:PA X es t):PE X (.List es pos) (MV t):=by
 intro pins s σ H Q I hq;refine wpAny_List_spliced (ay (h pos pins s σ H _ I hq) λus s1 ⟨xs,H1,I1,r,z,q⟩=>⟨by rw[←r.length];exact z,⟨.ref s1.heap.objs.size,upd H1 s1.heap.objs.size (.lst xs),I1.laid (λb u e=>Yb _ e) (Yc _) ?_,rfl,q _ (I1.ah.fresh (Yc _))⟩⟩);exact⟨z,us,0,r,Ye _ rfl⟩
end
abbrev Sp:=List V->Hp->VK->XK->Prop
abbrev dP:=List Env->Hp->Shared->XK->Value->Shared->Prop
structure eZ(P:Program)(w:World)(K:ae)(mg:aF)(base:Heap)(A:Around)(outer:List Env)(s:Shared)(H:Hp):Prop where
 frames:A.frames=some outer
 mod:Mod K mg base
 bs:∀b o,base.get? b=some o->s.heap.get? b=some o/\H b=none
 eK:base.objs.size<=s.heap.objs.size
 dh:s.heap.FunFrames base outer
 fK:∀b∈aO outer,H b=none
 ah:bw P w H s.heap
 bare:AllBare s.gens
def CE(outer:List Env)(P:Program)(w:World)(H:Hp)(s:Shared)(Q:VK)(u:Value)(s':Shared):Prop:=
 ∃v H',s'.os=s.os/\AllBare s'.gens/\Un (aO outer) [] H H' s.heap s'.heap/\bw P w H' s'.heap/\RelV v u/\Q v H'
def CR(CX:dP)(outer:List Env)(P:Program)(w:World)(H:Hp)(s:Shared)(Q:VK)(E:XK)(r:Result)(s':Shared):Prop:=
 match r with
 |.ok (.ret u)=>CE outer P w H s Q u s'
 |.ok _=>False
 |.error e=>CX outer H s E e s'
structure aG(P:Program)(w:World)(K:ae)(mg:aF)(base:Heap)(CX:dP)(k:Nat)(f:Addr)(fd:FuncData)(ps:List Str)(sp:Sp):Prop where
 len:∀vs H Q E,sp vs H Q E->vs.length=ps.length
 run:∀(A:Around) (outer:List Env) (s:Shared) (H:Hp) (args:Args) (us:List Value) (vs:List V) (Q:VK) (E:XK),aV k A->eZ P w K mg base A outer s H->BindsTo s fd args (ps.zip us)->Vals vs us->sp vs H Q E->
  codeAny (model P w) A (.call (.ref f) args) (CR CX outer P w H s Q E) s
theorem eZ.make{P:Program}{w:World}{K:ae}{mg:aF}{base:Heap}{A:Around}{outer:List Env}{s:Shared}{H:Hp}(e:eZ P w K mg base A outer s H)(C:Addr)(us:List Value)(kw:List (Str×Value)):
  eZ P w K mg base (A.under (.builtin "type.__call__" ⟨.ref C::us,kw⟩)) outer s H:=⟨by first|exact e.frames|(simpa[Around.under,Code.envs,Code.isFrame,pushEnvs] using e.frames),e.mod,e.bs,e.eK,e.dh,e.fK,e.ah,e.bare⟩
section
variable {X:Cx}{pins:ax}{σ:St}{H:Hp}{s s':Shared}
theorem Inv.iZ(I:Inv X pins σ H s):eZ X.prog X.w X.K X.mg X.base X.A X.stack s H:=
 ⟨I.ok.frames,I.ok.mod,I.bs,Yn I.ok.eK I.sz,I.stack,I.jX,I.ah,I.bare⟩
theorem Inv.after{Q:VK}{u:Value}(I:Inv X pins σ H s)(h:CE X.stack X.prog X.w H s Q u s'):EP X pins σ Q u s':=by
 obtain⟨v,H',os,bare,un,ah,r,q⟩:=h;obtain⟨hh,g,d,t,ig⟩:=s';obtain rfl:ig=s.os:=os;exact⟨v,H',I.call (h':=hh) (g':=g) (d':=d) (t':=t) (ch:=[]) un ah bare (λb z=>absurd z (by simp)),r,q⟩
end
def hU(sp:Sp)(bq:List V)(E:XK)(t:TA):TE:=λσ H Q=>t σ H λvs H1=>sp (vs++bq) H1 Q E
def B5(C:Addr)(sp:Sp)(bq:List V)(E:XK)(t:TA):TE:=λσ H Q=>t σ H λvs H1=>∀x dx,H1 x=none->H1 dx=none->dx≠x->
 sp (.ref x::(vs++bq)) (upd (upd H1 dx (.own x)) x (.ins C dx [])) (λv H2=>v=.ao/\Q (.ref x) H2) E
def Binds(K:ae)(fd:FuncData)(ps:List Str)(ds:List Value):Prop:=
 ∀(s:Shared) (us:List Value),K.In s.heap->(us++ds).length=ps.length->BindsTo s fd ⟨us,[]⟩ (ps.zip (us++ds))
theorem Binds.all{K:ae}{fd:FuncData}{ps:List Str}(h:∀us:List Value,us.length=ps.length->bindArgs fd ⟨us,[]⟩=pure (ps.zip us)):Binds K fd ps []:=λs us _ hl=>by
 rw[Yx] at hl⊢;exact .of_eq (h us hl)
def Passes(CX:dP)(X:Cx)(E:XK):Prop:=∀(pins:ax) (σ:St) (H:Hp) (s:Shared) (e:Value) (s':Shared),Inv X pins σ H s->CX X.stack H s E e s'->X.xe e s'
section
variable {X:Cx}{CX:dP}{k:Nat}{f C:Addr}{fd:FuncData}{ps:List Str}{sp:Sp}{bq:List V}{ds:List Value}{E:XK}{x m:Str}{p pos apos:Pos}{e o:Expr}{es:List Expr}{ta:TE}{t:TA}
theorem Bq{pins:ax}{σ:St}{H:Hp}{s:Shared}{Q:VK}{us:List Value}{vs:List V}(F:aG X.prog X.w X.K X.mg X.base CX k f fd ps sp)(hr:aV k X.A)(hb:Binds X.K fd ps ds)(hd:Vals bq ds)(hx:Passes CX X E)
  (I:Inv X pins σ H s)(r:Vals vs us)(h:sp (vs++bq) H Q E):wpAny X.md X.A (call (.ref f) us) (EP X pins σ Q) X.xe s:=by
 have r2:Vals (vs++bq) (us++ds):=r.append hd;have hl:(us++ds).length=ps.length:=by rw[←r2.length];exact F.len _ _ _ _ h
 refine wpAny_call (codeAny_mono (F.run X.A X.stack s H ⟨us,[]⟩ (us++ds) (vs++bq) Q E hr I.iZ (hb s us I.aI hl) r2 h) λr s' hq=>?_);cases r with
 |error e=>exact hx pins σ H s e s' I hq
 |ok fl=>
  cases fl with
  |ret u=>exact I.after hq
  |next=>exact False.elim hq
  |brk=>exact False.elim hq
  |cont=>exact False.elim hq
theorem JT(F:aG X.prog X.w X.K X.mg X.base CX k f fd ps sp)(hr:aV k X.A)(hg:Gl X x)(hm:X.mg x=some (.ref f))(hk:keepIn X.K (.ref f)=true)(hb:Binds X.K fd ps ds)(hd:Vals bq ds)(hx:Passes CX X E)
  (ha:PA X (e::es) t)(bx:(x==("__debug__":Str))=false:=by decide)(he:cR X e es:=by rfl)(bt:cX X pos es:=by rfl):
  PE X (.Call (.Name x p) (e::es) [] pos) (hU sp bq E t):=by
 intro pins s σ H Q I h;exact wpAny_Call_Name_kw (eC I hg hm (callWith_K I.ok.mod.eJ hk (ay (ha pos pins s σ H _ I h) λus s1 ⟨vs,H1,I1,r,q⟩=>⟨I1.aI,Bq F hr hb hd hx I1 r q⟩) he bt) bx)
structure Mk(K:ae)(C f:Addr):Prop where
 makes:makesIn K C=true
 init:PySem.W.findIn K (.ref C) "__init__"=some (some (.ref f))
 fn:isFn K (.ref f)=true
 kp:keepIn K (.ref C)=true
theorem IY{pins:ax}{σ:St}{H:Hp}{s:Shared}{Q:VK}{us:List Value}{vs:List V}(M:Mk X.K C f)(F:aG X.prog X.w X.K X.mg X.base CX k f fd ps sp)(hr:aV (k+1) X.A)(hb:Binds X.K fd ps ds)(hd:Vals bq ds)
  (hx:Passes CX X E)(I:Inv X pins σ H s)(r:Vals vs us)
  (h:∀x dx,H x=none->H dx=none->dx≠x->sp (.ref x::(vs++bq)) (upd (upd H dx (.own x)) x (.ins C dx [])) (λv H2=>v=.ao/\Q (.ref x) H2) E):
  wpAny X.md X.A (call (.ref C) us) (EP X pins σ Q) X.xe s:=by
 have hq:=h (s.heap.objs.size+1) s.heap.objs.size (I.ah.fresh (Wj _)) (I.ah.fresh (Yc _)) (Yh (W4 _));have I2:=Inv.made (C:=C) I;have r2:Vals (V.ref (s.heap.objs.size+1)::(vs++bq)) (Value.ref (s.heap.objs.size+1)::(us++ds)):=.cons rfl (r.append hd);have hl:(Value.ref (s.heap.objs.size+1)::us++ds).length=ps.length:=by
  have e:=r2.length;rw[F.len _ _ _ _ hq] at e;exact e.symm
 refine wpAny_call (zZ I.aI M.makes M.init (beq_iff_eq.mp M.fn) (codeAny_mono (F.run _ X.stack _ _ ⟨Value.ref (s.heap.objs.size+1)::us,[]⟩ (Value.ref (s.heap.objs.size+1)::(us++ds)) _ _ E (hr.make C us [])
  (I2.iZ.make C us []) (hb _ (Value.ref (s.heap.objs.size+1)::us) I2.aI hl) r2 hq) λr s' cj=>?_))
 cases r with
 |error e=>exact hx pins σ _ _ e s' I2 cj
 |ok fl=>
  cases fl with
  |ret u=>
   obtain⟨v,H',I3,rv,ev,q3⟩:=I2.after cj;subst ev;exact⟨rv,⟨V.ref (s.heap.objs.size+1),H',I3,rfl,q3⟩⟩
  |next=>exact False.elim cj
  |brk=>exact False.elim cj
  |cont=>exact False.elim cj
theorem JU(M:Mk X.K C f)(F:aG X.prog X.w X.K X.mg X.base CX k f fd ps sp)(hr:aV (k+1) X.A)(hg:Gl X x)(hm:X.mg x=some (.ref C))(hb:Binds X.K fd ps ds)(hd:Vals bq ds)(hx:Passes CX X E)
  (ha:PA X (e::es) t)(bx:(x==("__debug__":Str))=false:=by decide)(he:cR X e es:=by rfl)(bt:cX X pos es:=by rfl):
  PE X (.Call (.Name x p) (e::es) [] pos) (B5 C sp bq E t):=by
 intro pins s σ H Q I h;exact wpAny_Call_Name_kw (eC I hg hm (callWith_K I.ok.mod.eJ M.kp (ay (ha pos pins s σ H _ I h) λus s1 ⟨vs,H1,I1,r,q⟩=>⟨I1.aI,IY M F hr hb hd hx I1 r q⟩) he bt) bx)
end
section
variable {X:Cx}{CX:dP}{k:Nat}{f C:Addr}{fd:FuncData}{ps ks:List Str}{sp:Sp}{E:XK}{x m:Str}{p pos apos Ud:Pos}{e o:Expr}{es:List Expr}{Um:List Keyword}{te ta:TE}{t tk:TA}{nm:Option Str}
variable {g:List Value->List Value->List Value}{gV:List V->List V->List V}
end
structure aY(N P:List Str)(sc:Scope):Prop where
 kind:sc.kind=.function
 co:sc.isCoroutine=false
 gen:sc.isGenerator=false
 nd:N.Nodup
 pre:N.take P.length=P
 par:∀x∈P,sc.names.lookup x=some .local\/sc.names.lookup x=some .cell
 K0:∀y∈sc.names,y.2≠.free
theorem zC{kindOf:Str->Option NameKind}{x:Str}:∀{binds:List (Str×Value)} {m:aF},(∀v,(x,v)∉binds)->bindL kindOf binds m x=m x
 |[],_,_=>rfl
 |(n,v)::r,m,h=>by
  unfold bindL;rw[zC λw hw=>h w (Yw _ hw)];split;·grind
  ·rfl
theorem zD{kindOf:Str->Option NameKind}{x:Str}:∀{binds:List (Str×Value)} {m:aF},(∀v,(x,v)∉binds)->bindC kindOf binds m x=m x
 |[],_,_=>rfl
 |(n,v)::r,m,h=>by
  unfold bindC;rw[zD λw hw=>h w (Yw _ hw)];split;·rfl
  ·grind
theorem zE{kindOf:Str->Option NameKind}{x:Str}{v:Value}:∀{P:List Str} {vs:List Value} {i:Nat} {m:aF},P.Nodup->P[i]?=some x->vs[i]?=some v->kindOf x=some .local->
  bindL kindOf (P.zip vs) m x=some v
 |[],_,_,_,_,h,_,_=>by simp at h
 |_::_,[],_,_,_,_,h,_=>by simp at h
 |p::P,w::vs,0,m,nd,h1,h2,hk=>by
  simp at h1 h2;subst h1;subst h2;show bindL kindOf ((p,w)::P.zip vs) m p=_;unfold bindL;rw[zC λv hv=>(W9.mp nd).1 (Ww hv).1,if_pos hk];simp
 |p::P,w::vs,i+1,m,nd,h1,h2,hk=>by
  unfold bindL;exact zE (W9.mp nd).2 (by simpa using h1) (by simpa using h2) hk
theorem zF{kindOf:Str->Option NameKind}{x:Str}{v:Value}:∀{P:List Str} {vs:List Value} {i:Nat} {m:aF},P.Nodup->P[i]?=some x->vs[i]?=some v->kindOf x≠some .local->
  bindC kindOf (P.zip vs) m x=some v
 |[],_,_,_,_,h,_,_=>by simp at h
 |_::_,[],_,_,_,_,h,_=>by simp at h
 |p::P,w::vs,0,m,nd,h1,h2,hk=>by
  simp at h1 h2;subst h1;subst h2;show bindC kindOf ((p,w)::P.zip vs) m p=_;unfold bindC;rw[zD λv hv=>(W9.mp nd).1 (Ww hv).1,if_neg hk];simp
 |p::P,w::vs,i+1,m,nd,h1,h2,hk=>by
  unfold bindC;exact zF (W9.mp nd).2 (by simpa using h1) (by simpa using h2) hk
def start(N:List Str)(vs:List V):St:=vs.map some++List.replicate (N.length-vs.length) none
def cV(CX:dP)(P:Program)(w:World)(K:ae)(mg:aF)(base:Heap)(N:List Str)(qual:Str)(scope:Scope)(f:Addr)(cd:Value)(A:Around)(outer:List Env)(s:Shared)(H:Hp)(E:XK):Cx where
 prog:=P
 w:=w
 K:=K
 mg:=mg
 base:=base
 A:=A.deeper (envOfC qual scope s.heap.objs.size f cd)
 N:=N
 bG:=s
 hZ:=H
 env:=envOfC qual scope s.heap.objs.size f cd
 outer:=outer
 stack:=envOfC qual scope s.heap.objs.size f cd::outer
 ex:=[]
 calm:=true
 fn:=λ_=>true
 pn:=[]
 xe:=λe s'=>wpAny (model P w) (A.deeper (envOfC qual scope s.heap.objs.size f cd)) (leaving (envOfC qual scope s.heap.objs.size f cd) e) (λ_ ja=>CX outer H s E e ja) (λe' ja=>CX outer H s E e' ja) s'
theorem z8{sc:Scope}{n:Nat}{x:Str}(h:sc.names.lookup x=some .cell):∃c,(cellsFrom n sc.names []).lookup x=some c:=by
 exact Wu.mp (cellsFrom_some sc.names n [] (.inl h))
theorem tD{CX:dP}{P:Program}{w:World}{K:ae}{mg:aF}{base:Heap}{N ps:List Str}{qual:Str}{scope:Scope}{f:Addr}{cd:Value}{A:Around}{outer:List Env}{s s1:Shared}{H:Hp}{E:XK}{us:List Value}{vs:List V}
  (S:aY N ps scope)(hd:A.handled=none)(e0:eZ P w K mg base A outer s H)(hl:vs.length=ps.length)(r:Vals vs us)
  (x:InCallC s s.heap.objs.size (bindL (envOfC qual scope s.heap.objs.size f cd).kindOf (ps.zip us) λ_=>none) (cellsFrom (s.heap.objs.size+1) scope.names []) (bindC (envOfC qual scope s.heap.objs.size f cd).kindOf (ps.zip us) λ_=>none) s1):
  Inv (cV CX P w K mg base N qual scope f cd A outer s H E) [] (start N vs) H s1:=by
 have bt:ps.length<=N.length:=by have:=congrArg List.length S.pre;rw[Yz] at this;omega
 obtain⟨h1,tk,rfl,hk⟩:=x.done;have dQ:∀b:Addr,b∉(cV CX P w K mg base N qual scope f cd A outer s H E).ex:=λb z=>absurd (show b∈([]:List Addr) from z) (by simp);refine⟨⟨e0.mod,S.kind,rfl,rfl,Yc _,λy z c h1 h2=>?_,λy hy=>?_,λy c _ h=>?_,λ_=>hd,Around.frames_deeper e0.frames,.inr ⟨rfl,rfl⟩,λb z=>absurd z (dQ b),e0.bs,e0.eK,λb _ _=>dQ b,λb z=>absurd z (dQ b),e0.dh,e0.fK⟩,
  rfl,e0.bare,Un.kept hk,⟨_,x.toInCall.ns,λi y v h1 h2 h3=>?_⟩,λy c h=>⟨_,x.cell y c h⟩,e0.ah.fresh (Yc _),λy c h=>?_,λp hp=>absurd (show p∈([]:ax) from hp) (by simp),e0.ah.kept hk,?_⟩
 ·exact name_of_addr x.apart (PySem.mem_of_lookup h1) (PySem.mem_of_lookup h2)
 ·have hy:scope.names.lookup y=some .cell\/scope.names.lookup y=some .free:=hy;rcases hy with hy|hy;·exact z8 hy
  ·exact absurd rfl (S.K0 _ (PySem.mem_of_lookup hy))
 ·exact Wo (x.above y c (PySem.mem_of_lookup h))
 ·have hi:i<vs.length:=by
   unfold start at h2
   grind
  have ha:vs[i]?=some v:=by
   unfold start at h2;rw[List.getElem?_append_left (by simpa using hi),Yj] at h2;cases e:vs[i]? with
   |none=>grind
   |some a=>grind
  obtain⟨u,hu,rv⟩:=r.get ha;have hp:ps[i]?=some y:=by
   rw[←S.pre,List.getElem?_take_of_lt (by omega)];exact h1
  have DA:ps.Nodup:=by rw[←S.pre];exact S.nd.sublist (List.take_sublist _ _)
  refine⟨u,rv,?_⟩;rcases S.par y (Yq hp) with k|k;·exact .inl ⟨k,zE DA hp hu k⟩
  ·obtain⟨c,e⟩:=z8 k;refine .inr ⟨.inl k,c,e,?_⟩;have q:=x.cell y c e;rw[zF DA hp hu (by show scope.names.lookup y≠_;rw[k];decide)] at q;exact q
 ·exact e0.ah.fresh (Wo (x.above y c (PySem.mem_of_lookup h)))
 ·unfold start;show _=N.length
  grind
theorem uZ{CX:dP}{P:Program}{w:World}{K:ae}{mg:aF}{base:Heap}{k:Nat}{f:Addr}{name qual:Str}{params:Arguments}{body:List Stmt}{scope:Scope}{dV kV doc pm aD ct oc:Value}{an od:Option Addr}
  {cy:Array (Option Value)}{N ps:List Str}{sp:Sp}(lk:K.lookup f=some ⟨oc,od,.func (fnOf name qual params body scope dV kV doc pm an aD ct),cy⟩)(bW:codeIn K aD qual=true)(S:aY N ps scope)
  (len:∀vs H Q E,sp vs H Q E->vs.length=ps.length)
  (gu:∀(A:Around) (outer:List Env) (s:Shared) (H:Hp) (vs:List V) (Q:VK) (E:XK),aV k (A.deeper (envOfC qual scope s.heap.objs.size f aD))->sp vs H Q E->
   ∃t,cv (cV CX P w K mg base N qual scope f aD A outer s H E) body t/\t {nx:=λ_ H'=>Q .ao H',rt:=Q} (start N vs) H):
  aG P w K mg base CX (k+1) f (fnOf name qual params body scope dV kV doc pm an aD ct) ps sp:=by
 refine⟨len,λA outer s H args us vs Q E hr e0 hb r cJ=>?_⟩;have hl:=len _ _ _ _ cJ;have KX:K.In s.heap:=e0.mod.eJ.keeps λb o e=>(e0.bs b o e).1;have lim:s.heap.NoLimit:=e0.mod.nolimit.keeps λb o e=>(e0.bs b o e).1;have L0:∀y∈ps.zip us,scope.names.lookup y.1=some .local\/(scope.names.lookup y.1=some .cell/\((cellsFrom (s.heap.objs.size+1) scope.names []).lookup y.1).isSome=true):=λ⟨n,v⟩ hy=>by
  rcases S.par n (Ww hy).1 with q|q;·exact .inl q
  ·exact .inr ⟨q,cellsFrom_some _ _ _ (.inl q)⟩
 refine codeAny_call_function hr.depth (KX _ _ lk) rfl S.co S.gen rfl (codeRec_of KX bW) (hb _ _ _ _ ?_);refine wpAny_newFunctionEnv_cells S.kind L0 λenv he s1 x=>?_;subst he;refine⟨lim.keeps x.toInCall.keep,codeAny_func ?_⟩;obtain⟨t,ht,hq⟩:=gu A outer s H vs Q E (hr.deeper _) cJ;have I:Inv (cV CX P w K mg base N qual scope f aD A outer s H E) [] (start N vs) H s1:=tD S hr.hd e0 hl r x;refine wpAny_mono (ht [] s1 (start N vs) H _ I hq) (λfl s' hs=>?_) λe s' hs=>hs;have fin:∀{aB:St} {H':Hp} {v:V} {u:Value},Inv (cV CX P w K mg base N qual scope f aD A outer s H E) [] aB H' s'->RelV v u->Q v H'->CE outer P w H s Q u s':=
  λ{aB H' v u} J rv q=>⟨v,H',J.os,J.bare,J.base,J.ah,rv,q⟩
 cases fl with
 |ret u=>
  obtain⟨v,aB,H',J,rv,q⟩:=hs;exact fin J rv q
 |next=>
  obtain⟨aB,H',J,q⟩:=hs;exact fin (v:=V.ao) (u:=Value.none) J rfl q
 |brk=>
  obtain⟨_,_,_,q⟩:=hs;exact False.elim q
 |cont=>
  obtain⟨_,_,_,q⟩:=hs;exact False.elim q
section
variable {X:Cx}{x:Str}{p pos:Pos}{e:Expr}{es:List Expr}{t:TA}{id T:String}{r:List V->Hp->VK->Prop}
def dq(r:List V->Hp->VK->Prop)(t:TA):TE:=λσ H Q=>t σ H λvs H1=>r vs H1 Q
theorem cF(hc:bC X (.builtin id) r)(hg:Gl X x)(hm:X.mg x=none)(hv:bootBuiltins x=some (.builtin id))(ha:PA X (e::es) t)(hn:x≠"__name__":=by decide)(bx:(x==("__debug__":Str))=false:=by decide)
  (he:cR X e es:=by rfl)(bt:cX X pos es:=by rfl):PE X (.Call (.Name x p) (e::es) [] pos) (dq r t):=by
 intro pins s σ H Q I h;refine wpAny_Call_Name_kw (lN I hg hm hv ?_ hn bx);exact PyProof.Rows.callWith_builtin1 (ay (ha pos pins s σ H _ I h) λus s1 ⟨vs,H1,I1,r1,q1⟩=>hc pins s1 σ H1 vs us Q I1 r1 q1) he bt
theorem cB(hc:bC X (.type T) r)(hg:Gl X x)(hm:X.mg x=none)(hv:bootBuiltins x=some (.type T))(ha:PA X (e::es) t)(hn:x≠"__name__":=by decide)(bx:(x==("__debug__":Str))=false:=by decide)
  (he:cR X e es:=by rfl)(bt:cX X pos es:=by rfl):PE X (.Call (.Name x p) (e::es) [] pos) (dq r t):=by
 intro pins s σ H Q I h;refine wpAny_Call_Name_kw (lN I hg hm hv ?_ hn bx);exact PyProof.Rows.callWith_type1 (ay (ha pos pins s σ H _ I h) λus s1 ⟨vs,H1,I1,r1,q1⟩=>hc pins s1 σ H1 vs us Q I1 r1 q1) he bt
end
end L2
namespace HT
open PySem PyProof.Rows
section
open PySem.SeqAt
open PySem.AutoSeq1 (wpAny_loadPart')
open PySem.MeetsSeq PySem.MeetsSeq2 PySem.MeetsSeq3
end
section
variable {prog:Program}{w:World}{A:Around}{E:aC}{s:Shared}
def aM(n d:Nat):Option Int->Nat
 |none=>d
 |some v=>if v<0 then(v+(n:Int)).toNat else min v.toNat n
theorem og(n d k:Nat):aM n d (some (k:Int))=min k n:=by
 show(if(k:Int)<0 then((k:Int)+(n:Int)).toNat else min (k:Int).toNat n)=min k n;rfl
end
end HT
namespace L2
open PySem PySem.Spec PyProof.Rows
abbrev TO:=St->Hp->(Option Int->Hp->Prop)->Prop
def PO(X:Cx)(e:Option Expr)(t:TO):Prop:=
 ∀(pins:ax) (s:Shared) (σ:St) (H:Hp) (Q:Option Int->Hp->Prop),Inv X pins σ H s->t σ H Q->
  wpAny X.md X.A (evalPart e X.env) (λu s'=>∃o H',Inv X pins σ H' s'/\IsPart u o/\Q o H') X.xe s
def JV:TO:=λ_ H Q=>Q none H
inductive AN(Q:Option Int->Hp->Prop)(x:V)(H1:Hp):Prop
 |mk (i) (aP:x=.int i) (aQ:Q (some i) H1):AN Q x H1
def L3(t:TE):TO:=λσ H Q=>t σ H λx H1=>AN Q x H1
theorem intsAre_of{ns:List Int}:∀{us:List Value},Vals (ns.map V.int) us->IntsAre us ns:=by
 induction ns with
 |nil=>intro us r;rw[List.map_nil] at r;cases r;exact .nil
 |cons n ns ih=>
  intro us r;cases r with
  |cons r1 r2=>
   obtain⟨t,e⟩:=r1;subst e;exact .cons n t (ih r2)
section
variable {X:Cx}{e:Expr}{te:TE}{lo hi:Option Expr}{tl th:TO}{pos p2:Pos}
theorem fw:PO X none JV:=by
 intro pins s σ H Q I h;exact wpAny_pure ⟨none,H,I,.none,h⟩
theorem dD(h:PE X e te):PO X (some e) (L3 te):=by
 intro pins s σ H Q I hw;refine ay (h pins s σ H _ I hw) λu s1 zq=>?_;obtain⟨x,H1,I1,r1,q1⟩:=zq;obtain⟨i,rfl,q⟩:=q1;obtain⟨t,rfl⟩:=r1;exact⟨some i,H1,I1,.int i t,q⟩
def jb(X:Cx)(r:V->Option Int->Option Int->Hp->VK->Prop):Prop:=
 ∀(pins:ax) (s:Shared) (σ:St) (H:Hp) (x:V) (v vl vu:Value) (lo hi:Option Int) (sl:Addr) (Q:VK),Inv X pins σ H s->RelV x v->s.heap.IsSliceOf sl vl vu .none->IsPart vl lo->IsPart vu hi->r x lo hi H Q->
  ∃T id,typeLookup (.type T) "__getitem__"=pure (some (.builtin id))/\s.TypeIs v T/\wpAny X.md X.A (getItem v (.ref sl)) (EP X pins σ Q) X.xe s
def P9(r:V->Option Int->Option Int->Hp->VK->Prop)(te:TE)(tl th:TO):TE:=λσ H Q=>te σ H λx H1=>tl σ H1 λl H2=>th σ H2 λu H3=>r x l u H3 Q
theorem eB{r:V->Option Int->Option Int->Hp->VK->Prop}(hr:jb X r)(he:PE X e te)(hl:PO X lo tl)(hu:PO X hi th):PE X (.Subscript e (.Slice lo hi none p2) pos) (P9 r te tl th):=by
 intro pins s σ H Q I h;refine Subscript_ (ay (he pins s σ H _ I h) λv s1 zq=>?_);obtain⟨x,H1,I1,r1,q1⟩:=zq;refine wpAny_Slice (ay (hl pins s1 σ H1 _ I1 q1) λvl s2 zq=>?_);obtain⟨l,H2,I2,pl,q2⟩:=zq;refine ay (hu pins s2 σ H2 _ I2 q2) λvu s3 zq=>?_;obtain⟨u,H3,I3,pu,q3⟩:=zq;rw[evalPart_none];refine wpAny_pure ?_;have I4:Inv X pins σ H3 {s3 with heap:=s3.heap.push {cls:=.type "slice",data:=.fields #[vl,vu,.none]}}:=I3.kept (t':=s3.toks) λb ob q=>Yb _ q;obtain⟨T,id,hT,ht,hg⟩:=hr pins {s3 with heap:=s3.heap.push {cls:=.type "slice",data:=.fields #[vl,vu,.none]}} σ H3 x v vl vu l u s3.heap.objs.size Q I4 r1 (Heap.IsSliceOf.new ..) pl pu q3;show wpAny X.md X.A (subscriptTail e (.Slice lo hi none p2) v (.ref s3.heap.objs.size)) (EP X pins σ Q) X.xe {s3 with heap:=s3.heap.push {cls:=.type "slice",data:=.fields #[vl,vu,.none]}};exact tail_any (ops:=[.ref s3.heap.objs.size,v]) ht hT hg (by with_unfolding_all rfl)
def i0(xs:List V)(lo hi:Option Int):List V:=(xs.drop (HT.aM xs.length 0 lo)).take (HT.aM xs.length xs.length hi-HT.aM xs.length 0 lo)
theorem rj(xs:List V)(lo hi:Option Int):(i0 xs lo hi).length<=xs.length:=by
 unfold i0
 grind
end
def gM(n:Nat)(i:Int):Option Nat:=if 0<=i then(if i<n then some i.toNat else none) else if-(n:Int)<=i then some (i+n).toNat else none
def d8{α:Type}(xs:List α)(i:Int):Option α:=(gM xs.length i).bind λj=>xs[j]?
theorem t6{n:Nat}{i:Int}{j:Nat}(h:gM n i=some j):seqIndex? i n=some j/\j<n/\-(n:Int)<=i/\i<n:=by
 unfold gM at h;by_cases h0:0<=i
 ·rw[if_pos h0] at h;by_cases h1:i<n
  ·rw[if_pos h1] at h;have e:=Yl h;exact⟨by rw[seqIndex_of h0 h1,e],by omega,by omega,h1⟩
  ·grind
 ·rw[if_neg h0] at h;by_cases h1:-(n:Int)<=i
  ·rw[if_pos h1] at h;have e:=Yl h;exact⟨by rw[seqIndex_neg (by omega) h1,e],by omega,h1,by omega⟩
  ·grind
theorem t7{α:Type}{xs:List α}{i:Int}{v:α}(h:d8 xs i=some v):∃j,seqIndex? i xs.length=some j/\xs[j]?=some v/\j<xs.length/\-(xs.length:Int)<=i/\i<xs.length:=by
 unfold d8 at h;cases e:gM xs.length i with
 |none=>grind
 |some j=>
  obtain⟨h1,h2,h3,h4⟩:=t6 e
  grind
theorem bZ{α:Type}{xs:List α}{j:Nat}{v:α}(h:xs[j]?=some v):d8 xs (j:Int)=some v:=by
 have e:gM xs.length (j:Int)=some j:=by
  unfold gM
  grind
 unfold d8;rw[e];exact h
def AO(b:Expr):Prop:=∀o i,subscripted b false o i=operate [o,i] (getItem o i)
def dt(X:Cx)(r:R2):Prop:=
 ∀(value slice:Expr) (pins:ax) (s:Shared) (σ:St) (H:Hp) (x y:V) (v u:Value) (Q:VK),Inv X pins σ H s->RelV x v->RelV y u->r x y H Q->
  subscripted slice false v u=operate [v,u] (getItem v u)->wpAny X.md X.A (subscriptTail value slice v u) (EP X pins σ Q) X.xe s
def P_(X:Cx)(id:String)(r:V->List V->Hp->VK->Prop):Prop:=
 ∀(pins:ax) (s:Shared) (σ:St) (H:Hp) (x:V) (xs:List V) (v:Value) (us:List Value) (Q:VK),Inv X pins σ H s->RelV x v->Vals xs us->r x xs H Q->
  wpAny X.md X.A (call (.builtin id) (v::us)) (EP X pins σ Q) X.xe s
section
variable {X:Cx}{a b:Expr}{ta tb:TE}{pos:Pos}
theorem dt.or{r r':R2}(h:dt X r)(h':dt X r'):dt X (λx y H Q=>r x y H Q\/r' x y H Q):=by
 intro value slice pins s σ H x y v u Q I rx ry q hs;rcases q with q|q;·exact h value slice pins s σ H x y v u Q I rx ry q hs
 ·exact h' value slice pins s σ H x y v u Q I rx ry q hs
theorem B6{r:R2}(hr:dt X r)(ha:PE X a ta)(hb:PE X b tb)(hs:AO b):PE X (.Subscript a b pos) (gK r ta tb):=by
 intro pins s σ H Q I h;exact Subscript_ (vA ha hb I h λv u s2 x y H2 I2 rx ry q=>hr a b pins s2 σ H2 x y v u Q I2 rx ry q (hs _ _))
inductive Br(K:ae)(x:V)(y:V)(H:Hp)(Q:VK):Prop
 |mk (p xs i v) (aP:x=.ref p) (aQ:y=.int i) (bc:ai K H p xs) (bN:d8 xs i=some v) (cw:Q v H):Br K x y H Q
def pe(K:ae):R2:=λx y H Q=>Br K x y H Q
inductive Bs(K:ae)(x:V)(y:V)(H:Hp)(Q:VK):Prop
 |mk (p xs i v) (aP:x=.ref p) (aQ:y=.int i) (bc:aq K H p xs) (bN:d8 xs i=some v) (cw:Q v H):Bs K x y H Q
def pf(K:ae):R2:=λx y H Q=>Bs K x y H Q
inductive Bt(x:V)(y:V)(H:Hp)(Q:VK):Prop
 |mk (z i c) (aP:x=.str z) (aQ:y=.int i) (bc:z.length<=sizeLine) (bN:d8 z.cps.toList i=some c) (cw:Q (.str ⟨#[c]⟩) H):Bt x y H Q
def CF:R2:=λx y H Q=>Bt x y H Q
theorem t8:dt X (pe X.K):=by
 intro value slice pins s σ H x y v u Q I rx ry h hs;obtain⟨p,xs,i,z,rfl,rfl,hq,he,q⟩:=h;cases rx;obtain⟨t,rfl⟩:=ry;obtain⟨af,r,pl,hz⟩:=I.list hq;obtain⟨j,h1,h2,h3,h4,h5⟩:=t7 he;obtain⟨w,ew,mN⟩:=r.get h2;have hl:=r.length;have hn:=iO;have fin:EP X pins σ Q w s:=⟨z,H,I,mN,q⟩;by_cases h0:0<=i
 ·have hj:i.toNat=j:=by
   rw[seqIndex_of h0 h5] at h1;exact Yl h1
  exact item_listR pl.isList h0 (by omega) (by rw[hj];simpa using ew) fin hs
 ·have hj:(i+(af.toArray.size:Int)).toNat=j:=by
   rw[seqIndex_neg (by omega) h4] at h1
   grind
  exact subscriptTail_builtinR (x:=w) pl.isList.typeIs slot_list_getitem.lookup
   (wpAny_getItem_list_neg pl.isList (by omega) (by rw[Yf]<;>omega) (by omega) (by rw[hj];simpa using ew) ⟨rfl,fin⟩) hs
theorem Bu:dt X (pf X.K):=by
 intro value slice pins s σ H x y v u Q I rx ry h hs;obtain⟨p,xs,i,z,rfl,rfl,hq,he,q⟩:=h;cases rx;obtain⟨t,rfl⟩:=ry;obtain⟨af,r,pl,hz⟩:=I.tuple hq;obtain⟨j,h1,h2,h3,h4,h5⟩:=t7 he;obtain⟨w,ew,mN⟩:=r.get h2;have hn:=iO;exact subscriptTail_builtinR pl.typeIs slot_tuple_getitem.lookup
  (getItem_tuple pl (by omega) (by omega) (by rw[Yf,←r.length];exact h1) (by simpa using ew) ⟨rfl,⟨z,H,I,mN,q⟩⟩) hs
theorem lR:dt X CF:=by
 intro value slice pins s σ H x y v u Q I rx ry h hs;obtain⟨z,i,c,rfl,rfl,hz,he,q⟩:=h;obtain⟨t,rfl⟩:=rx;obtain⟨t',rfl⟩:=ry;obtain⟨j,h1,h2,h3,h4,h5⟩:=t7 he;have hl:z.cps.toList.length=z.length:=by simp[Str.length]
 rw[hl] at h1 h4 h5;have hn:=iO;exact tail_any (typeIs_str s z t) slot_str_getitem.lookup (getItem_str (by
  rw[(decide_eq_false (by omega)),(decide_eq_false (by omega)),Bool.or_false]) (by rw[h1];simpa using h2) ⟨.str ⟨#[c]⟩,H,I.tok _,⟨_,rfl⟩,q⟩) hs
def vU(K:ae):R2:=λx y H Q=>pe K x y H Q\/pf K x y H Q\/CF x y H Q
theorem K1:dt X (vU X.K):=t8.or (Bu.or lR)
theorem GC(af:List Value)(n j:Nat)(u:Value):Obj.mapSeq (·.setIfInBounds j u) {cls:=.type "list",data:=.seq af.toArray n}={cls:=.type "list",data:=.seq (af.set j u).toArray n}:=by
 simp[Obj.mapSeq]
theorem Inv.lst{pins:ax}{σ:St}{H:Hp}{s:Shared}{p:Addr}{xs:List V}(I:Inv X pins σ H s)(h:H p=some (.lst xs)):
  ∃(af:List Value) (n:Nat),Vals xs af/\s.heap.get? p=some {cls:=.type "list",data:=.seq af.toArray n}/\xs.length<=sizeLine:=by
 obtain⟨z,af,n,r,e⟩:=I.ah p _ h
 grind
theorem Inv.K2{pins:ax}{σ:St}{H:Hp}{s:Shared}{p:Addr}{xs ys:List V}{af its':List Value}{n n':Nat}{f:Obj->Obj}(I:Inv X pins σ H s)(h:H p=some (.lst xs))
  (ho:s.heap.get? p=some {cls:=.type "list",data:=.seq af.toArray n})(hf:f {cls:=.type "list",data:=.seq af.toArray n}={cls:=.type "list",data:=.seq its'.toArray n'})(r:Vals ys its')(hz:ys.length<=sizeLine)(t:Nat):
  Inv X pins σ (upd H p (.lst ys)) {s with heap:=s.heap.update p f,toks:=t}:=by
 have e:(s.heap.update p f).get? p=some {cls:=.type "list",data:=.seq its'.toArray n'}:=by
  rw[Yu f ho (by rw[hf]<;>rfl),hf]
 refine I.write (x:=p) (e:=p) (by rw[h];trivial) (.inl rfl) (λb u hb q=>(Yi _ _ (Ne.symm hb)).trans q) ⟨_,e⟩ ?_;exact⟨hz,its',n',r,e⟩
def L4:V->V->V->Hp->(Hp->Prop)->Prop:=λo i v H Q=>∃p xs k j,o=.ref p/\i=.int k/\H p=some (.lst xs)/\gM xs.length k=some j/\Q (upd H p (.lst (xs.set j v)))
theorem set_list:vz X L4:=by
 rintro pins s σ H o i v ov iv u Q I ro ri rv ⟨p,xs,k,j,rfl,rfl,hp,hj,q⟩;cases ro;obtain⟨t,rfl⟩:=ri;obtain⟨af,n,r,ho,hz⟩:=I.lst hp;obtain⟨h1,h2,h3,h4⟩:=t6 hj;have hl:=r.length;have hn:=iO;have I':Inv X pins σ (upd H p (.lst (xs.set j v))) {s with heap:=s.heap.update p (Obj.mapSeq (·.setIfInBounds j u))}:=
  I.K2 hp ho (GC af n j u) (r.set rv j) (by rw[Wx];exact hz) s.toks
 by_cases h0:0<=k
 ·have hk:k.toNat=j:=by
   rw[seqIndex_of h0 h4] at h1
   grind
  exact PySem.W.ki_setAt ho h0 (by omega) (by rw[Yf,←hl];exact h4) (by rw[hk];exact⟨_,I',q⟩)
 ·have hk:(k+(af.toArray.size:Int)).toNat=j:=by
   rw[seqIndex_neg (by omega) h3] at h1
   grind
  exact PySem.W.ki_setBack ho (by omega) (by rw[Yf,←hl];exact h3) (by omega) (by rw[hk];exact⟨_,I',q⟩)
theorem Fi(lo hi:Option Int)(n:Nat):(sliceBounds lo hi none n).1=((HT.aM n 0 lo:Nat):Int)/\(sliceBounds lo hi none n).2.1=((HT.aM n n hi:Nat):Int)/\(sliceBounds lo hi none n).2.2=1:=by
 refine⟨?_,?_,rfl⟩
 ·cases lo with
  |none=>rfl
  |some i=>
   simp only[sliceBounds,HT.aM]
   grind
 ·cases hi with
  |none=>rfl
  |some i=>
   simp only[sliceBounds,HT.aM]
   grind
theorem E7(af:List Value)(lo hi:Option Int):slicePick af.toArray lo hi none=((af.drop (HT.aM af.length 0 lo)).take (HT.aM af.length af.length hi-HT.aM af.length 0 lo)).toArray:=by
 obtain⟨h1,h2,h3⟩:=Fi lo hi af.toArray.size;unfold slicePick;rw[h1,h2,h3];simp only[sliceRange_one,pick_run]<;>rfl
def MW(K:ae):V->Option Int->Option Int->Hp->VK->Prop:=λx lo hi H Q=>∃a xs,x=.ref a/\ai K H a xs/\∀p,H p=none->Q (.ref p) (upd H p (.lst (i0 xs lo hi)))
theorem JW:jb X (MW X.K):=by
 rintro pins s σ H x v vl vu lo hi sl Q I rx hs pl pu ⟨a,xs,rfl,hx,q⟩;cases rx;obtain⟨af,r,ht,hz⟩:=I.list hx;have hlen:=r.length;refine⟨"list",_,slot_list_getitem.lookup,ht.isList.typeIs,wpAny_getItem_list_slice ht.isList hs pl pu .none (by simp) ?_ (by rw[Yf]<;>omega)⟩;rw[E7,←hlen];refine⟨.ref s.heap.objs.size,_,I.laid (o:=.lst (i0 xs lo hi)) (λb ob q=>Yb _ q) (Yc _) ?_,rfl,q _ (I.ah.fresh (Yc _))⟩;exact⟨Yn (rj xs lo hi) hz,_,0,(r.drop (HT.aM xs.length 0 lo)).take (HT.aM xs.length xs.length hi-HT.aM xs.length 0 lo),Ye _ rfl⟩
def kr:V->Bool
 |.ao=>true
 |.bl _=>true
 |.int _=>true
 |.str _=>true
 |_=>false
def kT:V->V->Bool
 |.ao,.ao=>true
 |.bl a,.bl b=>a==b
 |.bl a,.int b=>(if a then 1 else 0)==b
 |.int a,.bl b=>a==(if b then 1 else 0)
 |.int a,.int b=>a==b
 |.str a,.str b=>a==b
 |_,_=>false
theorem K3{A:Around}{s:Shared}{y x:V}{u v:Value}(ry:RelV y u)(rx:RelV x v)(fy:kr y=true)(fx:kr x=true):SeqAt.EqAt A s u v (kT y x):=by
 cases y with
 |ao=>
  cases ry;cases x with
  |ao=>cases rx;exact SeqAt.EqAt.same _
  |bl b=>cases rx;exact SeqAt.EqAt.none_bool b
  |int b=>obtain⟨t,rfl⟩:=rx;exact SeqAt.EqAt.none_int b t
  |str b=>obtain⟨t,rfl⟩:=rx;exact SeqAt.EqAt.none_str b t
  |_=>exact absurd (show false=true from fx) Yg
 |bl a=>
  cases ry;cases x with
  |ao=>cases rx;exact SeqAt.EqAt.bool_none a
  |bl b=>cases rx;exact SeqAt.EqAt.bool_bool a b
  |int b=>obtain⟨t,rfl⟩:=rx;exact SeqAt.EqAt.bool_int a b t
  |str b=>obtain⟨t,rfl⟩:=rx;exact SeqAt.EqAt.bool_str a b t
  |_=>exact absurd (show false=true from fx) Yg
 |int a=>
  obtain⟨t',rfl⟩:=ry;cases x with
  |ao=>cases rx;exact SeqAt.EqAt.int_none a t'
  |bl b=>cases rx;exact SeqAt.EqAt.int_bool a t' b
  |int b=>obtain⟨t,rfl⟩:=rx;exact SeqAt.EqAt.int_int a t' b t
  |str b=>obtain⟨t,rfl⟩:=rx;exact SeqAt.EqAt.int_str a t' b t
  |_=>exact absurd (show false=true from fx) Yg
 |str a=>
  obtain⟨t',rfl⟩:=ry;cases x with
  |ao=>cases rx;exact SeqAt.EqAt.str_none a t'
  |bl b=>cases rx;exact SeqAt.EqAt.str_bool a t' b
  |int b=>obtain⟨t,rfl⟩:=rx;exact SeqAt.EqAt.str_int a t' b t
  |str b=>obtain⟨t,rfl⟩:=rx;exact SeqAt.EqAt.str_str a t' b t
  |_=>exact absurd (show false=true from fx) Yg
 |_=>exact absurd (show false=true from fy) Yg
def pP(x:V)(u:Value):Bool:=match u with
 |.none=>kT .ao x
 |.bool b=>kT (.bl b) x
 |.int i _=>kT (.int i) x
 |.str z _=>kT (.str z) x
 |_=>false
theorem K4{x y:V}{u:Value}(r:RelV y u)(f:kr y=true):pP x u=kT y x:=by
 cases y with
 |ao=>cases r;rfl
 |bl b=>cases r;rfl
 |int i=>obtain⟨t,rfl⟩:=r;rfl
 |str z=>obtain⟨t,rfl⟩:=r;rfl
 |_=>exact absurd (show false=true from f) Yg
theorem IZ{A:Around}{s:Shared}{x:V}{v:Value}(rx:RelV x v)(fx:kr x=true):∀{xs:List V} {us:List Value},Vals xs us->xs.all kr=true->∀u∈us,SeqAt.EqAt A s u v (pP x u):=by
 intro xs us h;induction h with
 |nil=>intro _ u hu;cases hu
 |cons r t ih=>
  intro f u' hu;rw[List.all_cons,Bool.and_eq_true] at f;rcases Yr.mp hu with rfl|hu;·rw[K4 r f.1];exact K3 r rx f.1 fx
  ·exact ih f.2 u' hu
theorem yy:bC X (.builtin "len") (λxs H Q=>∃p ys,xs=[.ref p]/\(ai X.K H p ys\/aq X.K H p ys)/\Q (.int ys.length) H):=by
 rintro pins s σ H xs us Q I r ⟨p,ys,rfl,hq,q⟩;obtain⟨u,rfl,rx⟩:=vals1 r;cases rx;have hn:=iO;rcases hq with hq|hq
 ·obtain⟨af,r',pl,hz⟩:=I.list hq;have hlen:=r'.length;exact Calls.call_len_list pl.isList (by simp only[Yf]<;>omega) ⟨.int ys.length,H,I.tok _,⟨s.toks+1,by rw[Yf,hlen]⟩,q⟩
 ·obtain⟨af,r',pl,hz⟩:=I.tuple hq;have hlen:=r'.length;exact len_tuple pl (by simp only[Yf]<;>omega) ⟨.int ys.length,H,I.tok _,⟨s.toks+1,by rw[Yf,hlen]⟩,q⟩
theorem nC:bC X (.builtin "len") (λxs H Q=>∃z,xs=[.str z]/\z.length<=sizeLine/\Q (.int z.length) H):=by
 rintro pins s σ H xs us Q I r ⟨z,rfl,hz,q⟩;obtain⟨u,rfl,t,rfl⟩:=vals1 r;have hn:=iO;exact len_str (by omega) ⟨.int z.length,H,I.tok _,⟨_,rfl⟩,q⟩
theorem jw:bC X (.type "tuple") (λxs H Q=>∃p ys,xs=[.ref p]/\((ai X.K H p ys/\∀l,H l=none->Q (.ref l) (upd H l (.tup ys)))\/(aq X.K H p ys/\Q (.ref p) H))):=by
 rintro pins s σ H xs us Q I r ⟨p,ys,rfl,h⟩;obtain⟨u,rfl,rx⟩:=vals1 r;cases rx;rcases h with⟨hq,q⟩|⟨hq,q⟩
 ·obtain⟨af,r',pl,hz⟩:=I.list hq;have hlen:=r'.length;refine call_tuple_list pl.isList (λh' kp=>?_) (by simp only[Yf]<;>omega);have I1:=I.kept (t':=s.toks) kp;have I2:Inv X pins σ (upd H h'.objs.size (.tup ys)) {s with heap:=h'.push {cls:=.type "tuple",data:=.seq af.toArray}}:=
   I1.laid (λb o e=>Yb _ e) (Yc _) (show bo X.prog X.w _ _ _ (.tup ys) from⟨hz,af,r',gk.new _ _⟩)
  exact⟨.ref h'.objs.size,_,I2,rfl,q _ (I1.ah.fresh (Yc _))⟩
 ·obtain⟨af,r',pl,hz⟩:=I.tuple hq;exact call_tuple_same pl ⟨.ref p,H,I,rfl,q⟩
def DB(K:ae)(T:String)(x:V)(H:Hp):Prop:=match x with
 |.str _=>T="str"
 |.int _=>T="int"
 |.ref p=>(T="list"/\∃xs,ai K H p xs)\/(T="tuple"/\∃o,K.lookup p=some o/\o.cls=.type "tuple"/\o.dict=none)\/
   (T="dict"/\((∃av,H p=some (.dK av))\/∃av,H p=some (.dT av)))\/(T="set"/\∃S n,H p=some (.set S n))
 |_=>False
theorem K5{pins:ax}{σ:St}{H:Hp}{s:Shared}{T:String}{x:V}{v:Value}(I:Inv X pins σ H s)(r:RelV x v)(ty:DB X.K T x H):
  s.TypeIs v T/\∀a,v=.ref a->∃ob,s.heap.get? a=some ob/\ob.dict=none:=by
 cases x with
 |str z=>
  obtain⟨t,rfl⟩:=r;cases(show T="str" from ty);exact⟨typeIs_str s z t,λ_ e=>nomatch e⟩
 |int i=>
  obtain⟨t,rfl⟩:=r;cases(show T="int" from ty);exact⟨typeIs_int s i t,λ_ e=>nomatch e⟩
 |ref p=>
  cases r;rcases ty with⟨rfl,xs,hq⟩|⟨rfl,o,hk,hc,hd⟩|⟨rfl,hk⟩|⟨rfl,S,n,hk⟩
  ·obtain⟨af,_,pl,_⟩:=I.list hq;refine⟨pl.isList.typeIs,λa e=>?_⟩;obtain⟨o,n,e,c,hd,_⟩:=pl
   grind
  ·refine⟨⟨o,I.aI p o hk,hc⟩,λa e=>?_⟩;cases e;exact⟨o,I.aI _ o hk,hd⟩
  ·have z:∃o,s.heap.get? p=some o/\o.ExactDict:=by
    rcases hk with⟨av,hk⟩|⟨av,hk⟩
    ·obtain⟨_,_,_,_,o,_,_,e,ex,_⟩:=I.ah p _ hk;exact⟨o,e,ex⟩
    ·obtain⟨_,_,_,_,o,_,_,e,ex,_⟩:=I.ah p _ hk;exact⟨o,e,ex⟩
   obtain⟨o,e,ex⟩:=z;refine⟨⟨o,e,ex.1⟩,λa e2=>?_⟩;cases e2;exact⟨o,e,ex.2.1⟩
  ·obtain⟨o,_,_,_,e,ex,_⟩:=I.ah p _ hk;refine⟨⟨o,e,ex.1⟩,λa e2=>?_⟩;cases e2;exact⟨o,e,ex.2.1⟩
 |_=>exact False.elim ty
def pQ(K:ae)(T:String)(r:V->List V->Hp->VK->Prop)(to:TE)(t:TA):TE:=λσ H Q=>to σ H λx H1=>DB K T x H1/\t σ H1 λxs H2=>r x xs H2 Q
variable {o e:Expr}{es:List Expr}{to:TE}{t:TA}{name:Str}{apos bI:Pos}{T id:String}{r:V->List V->Hp->VK->Prop}
theorem gv(pa:PlainAttrs T)(slot:Slot T name id)(Qa:typeOf (.builtin id)=pure (.type "method_descriptor"))(hm:P_ X id r)(ho:PE X o to)(ha:PA X (e::es) t)
  (u3:attributeBase o name X.env (eval o X.env)=eval o X.env:=by rfl)
  (vD:((backTo bI (starEach (e::es) X.env)).all (λx=>!x.1)&&(backToKw bI (keywordEach [] X.env)).all (λx=>x.1.isSome)
   &&decide ((e::es).length+([]:List Keyword).length+(if([]:List Keyword).isEmpty then 0 else 1)<30))=true:=by rfl)
  (u4:(apos.endLine==bI.line)=true:=by rfl)(hs:cR X e es:=by rfl)(K6:cX X bI es:=by rfl):
  PE X (.Call (.Attribute o name apos) (e::es) [] bI) (pQ X.K T r to t):=by
 intro pins s σ H Q I h;refine wpAny_Call_method_late u3 vD u4 rfl (ay (ho pins s σ H _ I h) λv s1 zq=>?_);obtain⟨x,H1,I1,r1,ty,q1⟩:=zq;obtain⟨h1,h2⟩:=K5 I1 r1 ty;refine⟨T,id,pa,slot,Qa,h1,h2,?_⟩;have hA:=ha bI pins s1 σ H1 _ I1 q1;rw[hs] at hA⊢;exact Calls.callWith_builtin (by show(false||(backTo bI (starEach es X.env)).any (·.1))=false;rw[K6]<;>rfl) (Calls.evalArgs_plain (ay hA λus s2 ⟨vs,H2,I2,r2,q2⟩=>hm pins s2 σ H2 x vs v us Q I2 r1 r2 q2))
end
def ij(X:Cx)(id:String)(r:V->List V->Hp->VK->Prop):Prop:=
 ∀(pins:ax) (s:Shared) (σ:St) (H:Hp) (x:V) (xs:List V) (v:Value) (us:List Value) (Q:VK),Inv X pins σ H s->RelV x v->Vals xs us->r x xs H Q->
  wpAny X.md X.A (call (.builtin id) (v::us)) (EP X pins σ Q) X.xe s
theorem Vals.one:∀{x:V} {us:List Value},Vals [x] us->∃u,us=[u]/\RelV x u:=by
 intro x us h;cases h with
 |cons r t=>
  cases t;exact⟨_,rfl,r⟩
theorem Vals.eraseIdx:∀{xs:List V} {us:List Value} (i:Nat),Vals xs us->Vals (xs.eraseIdx i) (us.eraseIdx i)
 |_,_,_,.nil=>.nil
 |_,_,0,.cons _ t=>t
 |_,_,i+1,.cons r t=>.cons r (Vals.eraseIdx i t)
section
variable {X:Cx}{pins:ax}{σ:St}{H:Hp}{s:Shared}{l b:Addr}{xs ys zs:List V}
theorem Inv.CG{af its':List Value}{n:Nat}{f:Array Value->Array Value}{t':Nat}(I:Inv X pins σ H s)(hH:H l=some (.lst xs))
  (e:s.heap.get? l=some {cls:=.type "list",data:=.seq af.toArray n})(hf:f af.toArray=its'.toArray)(hv:Vals ys its')(hz:ys.length<=sizeLine):
  Inv X pins σ (upd H l (.lst ys)) {s with heap:=s.heap.update l (Obj.mapSeq f),toks:=t'}:=by
 have q:=PySem.IsL.update e f;rw[hf] at q;refine I.write (by rw[hH];exact trivial) (.inl rfl) (λb' u hb hu=>(Yi s.heap (Obj.mapSeq f) (Ne.symm hb)).trans hu) ⟨_,q⟩ ?_;exact⟨hz,its',_,hv,q⟩
theorem Inv.MX{af:List Value}{t':Nat}(I:Inv X pins σ H s)(hv:Vals ys af)(hz:ys.length<=sizeLine):
  Inv X pins σ (upd H s.heap.objs.size (.lst ys)) {s with heap:=s.heap.push {cls:=.type "list",data:=.seq af.toArray},toks:=t'}:=
 I.laid (λ_ _ q=>Yb _ q) (Yc _) ⟨hz,af,0,hv,Ye _ rfl⟩
theorem Inv.fresh(I:Inv X pins σ H s):H s.heap.objs.size=none:=I.ah.fresh (Yc _)
theorem Inv.mm(I:Inv X pins σ H s)(hH:H l=some (.lst xs)):xs.length<=sizeLine/\∃(af:List Value) (n:Nat),Vals xs af/\xs.length=af.length/\s.heap.get? l=some {cls:=.type "list",data:=.seq af.toArray n}:=by
 obtain⟨z,af,n,r,e⟩:=I.ah l _ hH;exact⟨z,af,n,r,r.length,e⟩
end
section
variable {X:Cx}
def JX:V->List V->Hp->VK->Prop:=λx vs H Q=>∃l xs y,x=.ref l/\vs=[y]/\H l=some (.lst xs)/\xs.length<sizeLine/\Q .ao (upd H l (.lst (xs++[y])))
theorem nM:ij X "list.append" JX:=by
 intro pins s σ H x vs v us Q I rx rv h;obtain⟨l,xs,y,rfl,rfl,hH,hz,q⟩:=h;cases rx;obtain⟨u,rfl,ru⟩:=rv.one;obtain⟨z,af,n,r,hl,e⟩:=I.mm hH;refine call_meets F.slot_list_append ⟨_,e,rfl⟩ F.entry_list_append (F.args_list_append_2 _ _) (PySem.list_append l af.toArray n u (by rw[Yf];omega)) ⟨e,?_⟩;refine⟨.ao,_,I.CG (its':=af++[u]) hH e (by simp) (r.append (.cons ru .nil)) ?_,rfl,q⟩
 grind
def K7:V->List V->Hp->VK->Prop:=λx vs H Q=>∃l xs i k y,x=.ref l/\vs=[.int i]/\H l=some (.lst xs)/\-(2^63)<=i/\i<2^63/\seqIndex? i xs.length=some k/\xs[k]?=some y/\Q y (upd H l (.lst (xs.eraseIdx k)))
theorem I0:ij X "list.pop" K7:=by
 rintro pins s σ H x vs v us Q I rx rv ⟨l,xs,i,k,y,rfl,rfl,hH,h1,h2,hk,hy,q⟩;cases rx;obtain⟨u,rfl,ru⟩:=rv.one;obtain⟨t,rfl⟩:=ru;obtain⟨z,af,n,r,hl,e⟩:=I.mm hH;obtain⟨w,hw,mN⟩:=r.get hy;refine call_meets F.slot_list_pop ⟨_,e,rfl⟩ F.entry_list_pop (F.args_list_pop_2 _ _)
  (MeetsSeq.list_pop_at l af.toArray n i t k w (fitsIndex_both h1 h2) (by rw[Yf,←hl];exact hk) (by rw[←Y8];exact hw) (by rw[Yf];omega)) ⟨e,?_⟩
 refine⟨y,_,I.CG hH e ?_ (r.eraseIdx k) ?_,mN,q⟩;·grind
 ·grind
def MY:R2:=λx y H Q=>∃l b xs zs,x=.ref l/\y=.ref b/\H l=some (.lst xs)/\H b=some (.lst zs)/\xs.length+zs.length<=sizeLine/\∀p,H p=none->Q (.ref p) (upd H p (.lst (xs++zs)))
theorem K8:bE X (binaryOp .Add) MY:=by
 rintro pins s σ H x y v u Q I rx ry ⟨l,b,xs,zs,rfl,rfl,hH,hB,hz,q⟩;cases rx;cases ry;obtain⟨z,af,n,r,hl,e⟩:=I.mm hH;obtain⟨z2,h_,n2,r2,cD,e2⟩:=I.mm hB;refine PySem.P.add_list e e2 ?_ (by rw[Yf,Yf];omega);have ea:af.toArray++h_.toArray=(af++h_).toArray:=by simp
 rw[ea];exact⟨.ref _,_,I.MX (r.append r2) (by rw[Wg];omega),rfl,q _ I.fresh⟩
end
section
variable {prog:Program}{w:World}{A:Around}{E:aC}{s:Shared}
set_option maxRecDepth 100000 in
end
section
variable {X:Cx}
end
end L2
namespace DC
open PySem PySem.W PySem.Calls PyProof.Rows
theorem ET{P:Params}{h:Heap}:∀(ns:List Int) (vs:List Value),WellAll P h vs (ns.map WData.int)->IntsAre vs ns:=by
 intro ns;induction ns with
 |nil=>
  intro vs w;cases w;exact .nil
 |cons n ns ih=>
  intro vs w;cases w with
  |cons a b=>
   cases a;exact .cons _ _ (ih _ b)
theorem Ig{l:OpenLaw}{n:Nat}(hn:l.most=some n){P:Params}{h:Heap}{args:List WData}{vals:List Value}
  (ph:l.row.toRowW.claim.pre args=true)(vV:WellAll P h vals args):
  ∃a vs ns,vals=[Value.ref a]/\args=[WData.list (ns.map WData.int)]/\h.get? a=some {cls:=.type "list",data:=.seq vs.toArray}/\IntsAre vs ns/\ns.length<=n:=by
 obtain⟨d,r,rfl,h1,h2⟩:=hasAllW_cons ((pre_splitW ph).1);obtain rfl:=hasAllW_nil h2;obtain⟨xs,rfl,h3⟩:=hasW_list h1;obtain⟨ns,rfl⟩:=items_int h3;have hlen:ns.length<=n:=by
  have h4:(WTm.not (.lt (.lit (.int (n:Int))) (.len (.arg 0)))).holds [] {args:=[.list (ns.map .int)]}=true:=by
   have h4:=(holds_andW ((pre_splitW ph).2)).1;rw[hn] at h4;exact h4
  have h5:=condW_of h4 (w_not (w_lt w_lit (w_len_list (w_arg rfl))))
  grind
 cases vV with
 |cons w1 w2=>
  cases w2;cases w1 with
  |list ho vE=>exact⟨_,_,ns,rfl,rfl,ho,ET ns _ vE,hlen⟩
theorem Ih(l:OpenLaw)(args:List WData):l.row.toRowW.claim.post args (.bool true) args=true:=
 postW_of (X:=(true==true))
  (show WShape.has [] (.bool true) .bool=true by first|rfl|decide|simp[WShape.has])
  (show(WTm.eq .res (.lit (.bool true))).value [] {args:=args,res:=some (.bool true),after:=args}=some (.bool (true==true)) from w_eq_bool (w_res rfl) w_lit) rfl
theorem FG{l:OpenLaw}{n:Nat}{q:Program}{loose:List Str}{XP:(Str->Option Value)->Heap->Prop}{YP:World->Heap->Prop}{d:DefRec}
  (hn:l.most=some n)(mO:d.params.defaults=[])
  (call:∀(w:World) (bG aU:Shared) (mg mb:aF) (fa:Addr) (o:Obj) (pm cd doc:Value) (a:Addr) (vs:List Value) (ns:List Int),
   Ground q loose [] XP w bG mg mb aU.heap->YP w aU.heap->
   aU.heap.get? fa=some o->o.data=.func (docDef d.name d.params d.body d.scope pm cd doc)->aU.heap.CodeRec cd d.name->mg d.name=some (.ref fa)->
   aU.heap.get? a=some {cls:=.type "list",data:=.seq vs.toArray}->IntsAre vs ns->ns.length<=n->aU.gens=#[]->
   codeAny (model l.prog w) callerA (.call (.ref fa) ⟨[.ref a],[]⟩) (λr s'=>r=.ok (.ret (.bool true))/\OldK aU.heap s'.heap/\s'.os=aU.os/\AllBare s'.gens) aU):
  WalkO q loose XP YP l.row.toRowW d [] (λf vs=>PySem.call f vs):=by
 intro w bG aU mg mb G Y fa o pm cd doc dV kV ho hd bW hD mP hg args vals as ph Ue Uo vV Up;obtain rfl:dV=.none:=Dflts.none hD mO;obtain rfl:kV=.none:=Dflts.noKw hD;obtain⟨a,vs,ns,rfl,rfl,vF,hints,hlen⟩:=Ig hn ph vV;refine enter_call (codeAny_mono (call w bG aU mg mb fa o pm cd doc a vs ns G Y ho (fd_plain hd) bW mP vF hints hlen hg) λr s' hq=>?_);obtain⟨rfl,h2,h3,h4⟩:=hq;exact⟨.inl ⟨.bool true,.bool true,[],rfl,λ_=>rfl,.bool true,Ih l _,λ_=>⟨List.Pairwise.nil,λ_ hm=>(nomatch hm)⟩⟩,h2,h3,h4⟩
section
variable {prog:Program}{w:World}{A:Around}{E:aC}{s:Shared}{K:Frag}
end
end DC
namespace L2
open PySem PySem.Spec PyProof.Rows
theorem zG:∀{vs:List Value} {ns:List Int},IntsAre vs ns->Vals (ns.map V.int) vs:=by
 intro vs ns h;induction h with
 |nil=>exact .nil
 |cons n t h ih=>exact .cons ⟨t,rfl⟩ ih
def vG(H:Hp):Prop:=∀b,H b=none\/∃o xs,H b=some (.dN o (.lst xs))
theorem I_{P:Program}{w:World}{K:ae}{mg mb:aF}{CX:dP}{k:Nat}{fa a:Addr}{fd:FuncData}{x:Str}{sp:Sp}{aU:Shared}{vs:List Value}{ns:List Int}
  (KX:K.In aU.heap)(DD:aU.heap.Ns mainGlobals mg)(hb:aU.heap.Ns builtinsNs mb)(pR:∀x:Str,x≠"__name__"->mb x=bootBuiltins x)(MZ:aU.heap.NoLimit)(hg:aU.gens=#[])
  (ha:aU.heap.get? a=some {cls:=.type "list",data:=.seq vs.toArray})(hi:IntsAre vs ns)(hl:ns.length<=sizeLine)(hr:aV k callerA)
  (F:∀base:Heap,K.In base->base.Ns mainGlobals mg->aG P w K mg base CX k fa fd [x] sp)(L5:∀(s:Shared) (u:Value),BindsTo s fd ⟨[u],[]⟩ [(x,u)])
  (cJ:∀H:Hp,vG H->ai K H a (ns.map V.int)->sp [.ref a] H (λv _=>v=.bl true) λ_ _ _=>False)
  (vW:∀H e s',CX [] H aU (λ_ _ _=>False) e s'->False):
  codeAny (model P w) callerA (.call (.ref fa) ⟨[.ref a],[]⟩) (λr s'=>r=.ok (.ret (.bool true))/\OldK aU.heap s'.heap/\s'.os=aU.os/\AllBare s'.gens) aU:=by
 have rv:=zG hi;have M0:=hi.length
 --from an abstract heap in T_ nothing but gF Bh may be tracked
 have core:∀H:Hp,vG H->ai K H a (ns.map V.int)->bw P w H aU.heap->(∀b,H b≠none->b=a)->(H a≠none->K.lookup a=none)->
   codeAny (model P w) callerA (.call (.ref fa) ⟨[.ref a],[]⟩) (λr s'=>r=.ok (.ret (.bool true))/\OldK aU.heap s'.heap/\s'.os=aU.os/\AllBare s'.gens) aU:=by
  intro H hO hS ah hA hK;have AQ:∀{b:Addr} {o:Obj},aU.heap.get? b=some o->H b=none->(gB aU.heap H).get? b=some o:=λe n=>IV e n;have dQ:∀{b:Addr} {o:Obj} {es:Array DictEntry} {ep:Nat},aU.heap.get? b=some o->o.data=.dict es ep->H b=none:=λ{b o es ep} e d=>by
   cases q:H b with
   |none=>rfl
   |some u=>
    have e':b=a:=hA b (by rw[q];simp);subst e';rw[ha] at e;cases e;have d':Data.seq vs.toArray _=Data.dict es ep:=d;cases d'
  have pS:∀{b:Addr} {m:aF},aU.heap.Ns b m->(gB aU.heap H).Ns b m:=λ{b m} ⟨o,es,ep,e,d,r⟩=>⟨o,es,ep,AQ e (dQ e d),d,r⟩;have DE:K.In (gB aU.heap H):=λb o e=>AQ (KX b o e) (by
   cases q:H b with
   |none=>rfl
   |some u=>
    have e':b=a:=hA b (by rw[q];simp);subst e';rw[hK (by rw[q];simp)] at e;cases e)
  have hM:Mod K mg (gB aU.heap H):=⟨DE,pS DD,⟨mb,pS hb,pR⟩,let⟨mc,h1,h2⟩:=MZ;⟨mc,pS h1,h2⟩⟩;have e0:eZ P w K mg (gB aU.heap H) callerA [] aU H:=⟨rfl,hM,λb o e=>JP e,Jb (HZ _ _),trivial,λb hb=>absurd (show b∈([]:List Addr) from hb) (by simp),ah,.of_eq hg⟩;refine codeAny_mono ((F _ DE (pS DD)).run callerA [] aU H ⟨[.ref a],[]⟩ [.ref a] [.ref a] _ _ hr e0 (L5 aU (.ref a)) (.cons rfl .nil) (cJ H hO hS)) λr s' h=>?_;cases r with
  |error e=>exact(vW H e s' h).elim
  |ok fl=>
   cases fl with
   |next=>exact False.elim h
   |brk=>exact False.elim h
   |cont=>exact False.elim h
   |ret u=>
    obtain⟨v,H',os,bare,un,vH,r',q⟩:=h;have q':v=.bl true:=q;subst q';obtain rfl:u=Value.bool true:=r';refine⟨rfl,OldK.of_keep λb o e=>?_,os,bare⟩;cases q:H b with
    |none=>exact un.keep b o e q (by intro z;exact absurd (show b∈([]:List Addr) from z) (by simp)) (by simp)
    |some u=>
     rcases hO b with z|⟨ob,xs,z⟩;·rw[q] at z;cases z
     ·have z2:=un.cH b ob _ z;obtain⟨e1,_⟩:=ah b _ z;obtain⟨e2,_⟩:=vH b _ z2;rw[e] at e1;cases e1;exact e2
 cases hk:K.lookup a with
 |some o=>
  --gF Bh is one of gF T5 own objects
  have e:=KX a o hk;rw[ha] at e;cases e;refine core (λ_=>none) (λ_=>.inl rfl) (.inr ⟨_,vs.toArray,_,hk,rfl,rfl,rfl,by rw[Yf,M0];exact hl,by simpa using rv⟩) (λb u z=>by have z':(none:Option HO)=some u:=z;cases z') (λb z=>absurd rfl z) λz=>absurd rfl z
 |none=>
  refine core (λb=>if b=a then some (.dN {cls:=.type "list",data:=.seq vs.toArray} (.lst (ns.map V.int))) else none) (λb=>?_) (.inl (.inr ⟨{cls:=.type "list",data:=.seq vs.toArray},if_pos rfl⟩)) (λb u z=>?_) (λb z=>?_) λ_=>hk
  ·by_cases hb:b=a;·exact .inr ⟨_,_,if_pos hb⟩
   ·exact .inl (if_neg hb)
  ·by_cases hb:b=a
   ·have z':=(if_pos hb).symm.trans z;cases z';subst hb;exact⟨ha,by rw[Ya];exact hl,vs,_,rv,ha⟩
   ·have z':=(if_neg hb).symm.trans z;cases z'
  ·by_cases hb:b=a;·exact hb
   ·exact absurd (if_neg hb) z
theorem JY{l:PySem.W.OpenLaw}{n k:Nat}{q:Program}{loose:List Str}{XP:(Str->Option Value)->Heap->Prop}{YP:World->Heap->Prop}{d:DefRec}{K:Params->ae}{CX:World->dP}{sp:World->Sp}{x:Str}
  (hn:l.most=some n)(pO:n<=sizeLine)(mO:d.params.defaults=[])(hr:aV k callerA)
  (hY:∀(w:World) (h:Heap),YP w h->(K w.params).In h)
  (F:∀(w:World) (mg:aF) (fa:Addr) (h:Heap),(K w.params).In h->h.Ns mainGlobals mg->mg d.name=some (.ref fa)->
   ∃fd:FuncData,(∀(s:Shared) (u:Value),BindsTo s fd ⟨[u],[]⟩ [(x,u)])/\
    ∀base:Heap,(K w.params).In base->base.Ns mainGlobals mg->aG l.prog w (K w.params) mg base (CX w) k fa fd [x] (sp w))
  (cJ:∀(w:World) (H:Hp) (a:Addr) (ns:List Int),ns.length<=n->vG H->ai (K w.params) H a (ns.map V.int)->sp w [.ref a] H (λv _=>v=.bl true) λ_ _ _=>False)
  (vW:∀(w:World) (H:Hp) (s:Shared) (e:Value) (s':Shared),CX w [] H s (λ_ _ _=>False) e s'->False):
  PySem.W.WalkO q loose XP YP l.row.toRowW d [] (λf vs=>PySem.call f vs):=by
 refine DC.FG hn mO λw bG aU mg mb fa o pm cd doc a vs ns G Y ho hd bW mP vF hints hlen hg=>?_;have KX:=hY w _ Y;obtain⟨fd,hb,hF⟩:=F w mg fa _ KX G.T.g mP;exact I_ KX G.T.g G.T.b G.T.builtins G.T.nolimit hg vF hints (Yn hlen pO) hr hF hb (λH hO hS=>cJ w H a ns hlen hO hS) λH e s'=>vW w H aU e s'
def inClass(s:Stmt)(j:Nat):Stmt:=match s with
 |.ClassDef _ _ _ body _ _ _ _ _ _ _=>body.getD j (.Pass ⟨0,0,0,0⟩)
 |_=>.Pass ⟨0,0,0,0⟩
def aZ(s:Stmt):Arguments:=match s with
 |.FunctionDef _ a _ _ _ _ _ _ _ _=>a
 |_=>{posonlyargs:=[],args:=[],vararg:=none,kwonlyargs:=[],kw_defaults:=[],kwarg:=none,defaults:=[]}
def aT(s:Stmt):List Stmt:=match s with
 |.FunctionDef _ _ b _ _ _ _ _ _ _=>b
 |_=>[]
def ar(s:Stmt):Scope:=match s with
 |.FunctionDef _ _ _ _ _ _ sc _ _ _=>sc
 |_=>{kind:=.function,names:=[],isGenerator:=false,isCoroutine:=false}
abbrev aR:dP:=λ_ _ _ _ _ _=>False
abbrev E0:XK:=λ_ _ _=>False
theorem me{X:Cx}:Passes aR X E0:=λ_ _ _ _ _ _ _ h=>h.elim
structure aX(K:ae)(x qual:Str)(st:Stmt)(f:Addr)(fd:FuncData):Prop where
 ex:∃(oc:Value) (od:Option Addr) (kV doc pm:Value) (an:Option Addr) (aD ct:Value) (cy:Array (Option Value)),
  fd=fnOf x qual (aZ st) (aT st) (ar st) .none kV doc pm an aD ct/\K.lookup f=some ⟨oc,od,.func fd,cy⟩/\codeIn K aD qual=true
 kp:keepIn K (.ref f)=true
section
variable {P:Program}{w:World}{K:ae}{mg:aF}{base:Heap}
theorem aX.ok{x qual:Str}{st:Stmt}{f:Addr}{fd:FuncData}{N ps:List Str}{k:Nat}{sp:Sp}(F:aX K x qual st f fd)(S:aY N ps (ar st))(len:∀vs H Q E,sp vs H Q E->vs.length=ps.length)
  (gu:∀(aD:Value) (A:Around) (outer:List Env) (s:Shared) (H:Hp) (vs:List V) (Q:VK) (E:XK),aV k (A.deeper (envOfC qual (ar st) s.heap.objs.size f aD))->sp vs H Q E->
   ∃t,cv (cV aR P w K mg base N qual (ar st) f aD A outer s H E).e7 (aT st) t/\t {nx:=λ_ H'=>Q .ao H',rt:=Q} (start N vs) H):aG P w K mg base aR (k+1) f fd ps sp:=by
 obtain⟨oc,od,kV,doc,pm,an,aD,ct,cy,rfl,lk,bW⟩:=F.ex;refine uZ lk bW S len λA outer s H vs Q E hr cJ=>?_;obtain⟨t,h,q⟩:=gu aD A outer s H vs Q E hr cJ;exact⟨t,h.e7,q⟩
theorem aX.binds{x qual:Str}{st:Stmt}{f:Addr}{fd:FuncData}{ps:List Str}(F:aX K x qual st f fd)
  (h:∀(kV doc pm:Value) (an:Option Addr) (aD ct:Value) (us:List Value),us.length=ps.length->bindArgs (fnOf x qual (aZ st) (aT st) (ar st) .none kV doc pm an aD ct) ⟨us,[]⟩=pure (ps.zip us)):Binds K fd ps []:=by
 obtain⟨oc,od,kV,doc,pm,an,aD,ct,cy,rfl,lk,bW⟩:=F.ex;exact .all (h kV doc pm an aD ct)
theorem bL{x qual:Str}{st:Stmt}{f:Addr}{oc:Value}{od an:Option Addr}{cy:Array (Option Value)}{kV doc pm aD ct:Value}(l:K.lookup f=some ⟨oc,od,.func (fnOf x qual (aZ st) (aT st) (ar st) .none kV doc pm an aD ct),cy⟩)
  (c:codeIn K aD qual=true)(k:keepIn K (.ref f)=true):aX K x qual st f (fnOf x qual (aZ st) (aT st) (ar st) .none kV doc pm an aD ct):=⟨⟨oc,od,kV,doc,pm,an,aD,ct,cy,rfl,l,c⟩,k⟩
end
theorem L6{A:Around}{k:Nat}(hr:aV k A):A.units+1<cLine:=Y3 (Nat.add_le_add_left (by decide:1<=64) _) hr.units
theorem eS{n:Nat}(h:n<=1000):n<sizeLine:=Y3 h (by decide)
section
variable {X:Cx}
theorem pv(i:Nat){x:Str}{pos:Pos}(hN:X.N[i]?=some x:=by rfl)(hv:kK X.env.scope x:=by first|exact Or.inl rfl|exact Or.inr (Or.inl rfl)|exact Or.inr (Or.inr rfl))(hd:(x==("__debug__":Str))=false:=by decide)
  (bW:(x==("__classdict__":Str))=false:=by decide):PE X (.Name x pos) (di i):=KQ hN hv hd bW
end
theorem fF{A B:Prop}(h:B):if false=true then A else B:=by
 grind
theorem bP{A B:Prop}(h:A):if true=true then A else B:=by
 grind
theorem ba{c A B:Prop}[Decidable c](h1:c->A)(h2:¬c->B):if c then A else B:=by
 grind
theorem ku{c A B:Prop}[Decidable c](hc:c)(h:B):if(!decide c)=true then A else B:=by
 grind
def aj(H H':Hp):Prop:=∀b o,H b=some o->H' b=some o
theorem aj.refl(H:Hp):aj H H:=λ_ _ h=>h
theorem aj.trans{H H1 H2:Hp}(a:aj H H1)(b:aj H1 H2):aj H H2:=λc o h=>b c o (a c o h)
theorem aj.free{H H':Hp}(e:aj H H'){l:Addr}(h:H' l=Option.none):H l=Option.none:=by
 cases q:H l with
 |none=>rfl
 |some o=>
  rw[e l o q] at h;cases h
theorem aj.seq{K:ae}{H H':Hp}{a:Addr}{xs:List V}(e:aj H H')(h:ai K H a xs):ai K H' a xs:=by
 rcases h with(h|⟨o,h⟩)|h;·exact .inl (.inl (e _ _ h))
 ·exact .inl (.inr ⟨o,e _ _ h⟩)
 ·exact .inr h
def iK(cells:List (Str×Addr)):List (Str×Addr)->Prop
 |[]=>True
 |p::r=>cells.lookup p.1=some p.2/\iK cells r
theorem iK.look:∀{cl:List (Str×Addr)},iK cells cl->∀(x:Str) (c:Addr),cl.lookup x=some c->cells.lookup x=some c
 |[],_,x,c,h=>by simp at h
 |(n,a)::r,hh,x,c,h=>by
  rw[Je] at h;cases e:x==n with
  |true=>
   rw[e] at h;rw[(eq_of_beq e),←(Yl h)];exact hh.1
  |false=>
   rw[e] at h;exact iK.look hh.2 x c h
theorem qP{env:Env}:∀{names:List (Str×NameKind)} {x:Str} {k:NameKind},
  (names.map λ(n,k)=>if(k==NameKind.free&&env.scope.kind==.function&&env.kindOf n==some .cell) then(n,NameKind.cell) else(n,k)).lookup x=some k->
  ∃k0,(x,k0)∈names/\(k=k0\/k0=.free)
 |[],_,_,h=>by simp at h
 |(n,k0)::r,x,k,h=>by
  have h:List.lookup x ((if(k0==NameKind.free&&env.scope.kind==.function&&env.kindOf n==some .cell)=true then(n,NameKind.cell) else(n,k0))::(r.map λ(n,k)=>if(k==NameKind.free&&env.scope.kind==.function&&env.kindOf n==some .cell) then(n,NameKind.cell) else(n,k)))=some k:=h;by_cases hc:(k0==NameKind.free&&env.scope.kind==.function&&env.kindOf n==some .cell)=true
  ·rw[if_pos hc,Je] at h;cases e:x==n with
   |true=>grind
   |false=>
    rw[e] at h;obtain⟨k1,m,q⟩:=qP h
    grind
  ·rw[if_neg hc,Je] at h;cases e:x==n with
   |true=>grind
   |false=>
    rw[e] at h;obtain⟨k1,m,q⟩:=qP h
    grind
structure Bv(X:Cx)(scope:Scope)(cl:List (Str×Addr))(y:Str)(j:Nat):Prop where
 ix:X.N[j]?=some y
 out:X.env.kindOf y=some .cell\/X.env.kindOf y=some .free
 Qb:(relabel scope X.env).names.lookup y=some .cell\/(relabel scope X.env).names.lookup y=some .free
 cl:(cl.lookup y).isSome=true
def iM(X:Cx)(scope:Scope)(cl:List (Str×Addr)):List (Str×Nat)->Prop
 |[]=>True
 |p::r=>Bv X scope cl p.1 p.2/\iM X scope cl r
theorem iM.get:∀{fr:List (Str×Nat)} {k:Nat} {p:Str×Nat},iM X scope cl fr->fr[k]?=some p->Bv X scope cl p.1 p.2
 |[],k,p,_,h=>by simp at h
 |q::r,0,p,hh,h=>by
  have e:q=p:=by simpa using h
  rw[←e];exact hh.1
 |q::r,k+1,p,hh,h=>iM.get hh.2 (by simpa using h)
structure lH(X:Cx)(scope:Scope)(cl:List (Str×Addr))(x:Str)(fr:List (Str×Nat)):Prop where
 pj:closureFor scope X.env=pure cl
 sub:iK X.env.cells cl
 kind:scope.kind=.function
 names:∀y∈scope.names,y.2=.local->scope.names.lookup y.1=some .local
 lx:scope.names.lookup x=some .local
 oP:∀y∈scope.names,y.2≠.cell
 has:(scope.names.all λy=>!(y.2==.free)||(cl.lookup y.1).isSome)=true
 aO:iM X scope cl fr
 nd:(x::fr.map (·.1)).Nodup
def eY(σ:St)(fr:List (Str×Nat)):St:=fr.map λp=>(σ[p.2]?).join
structure rQ(X:Cx)(scope:Scope)(cl:List (Str×Addr))(xs:List Str)(fr:List (Str×Nat)):Prop where
 pj:closureFor scope X.env=pure cl
 sub:iK X.env.cells cl
 kind:scope.kind=.function
 names:∀y∈scope.names,y.2=.local->scope.names.lookup y.1=some .local
 oP:∀y∈scope.names,y.2≠.cell
 has:(scope.names.all λy=>!(y.2==.free)||(cl.lookup y.1).isSome)=true
 aO:iM X scope cl fr
 nd:(xs++fr.map (·.1)).Nodup
def c_(X:Cx)(xs:List Str)(fr:List (Str×Nat))(scope:Scope)(cl:List (Str×Addr))(C:Addr)(s:Shared)(H:Hp)(fp:List Addr):Cx where
 prog:=X.prog
 w:=X.w
 K:=X.K
 mg:=X.mg
 base:=X.base
 A:=X.A
 N:=xs++fr.map (·.1)
 bG:=s
 hZ:=H
 env:=compEnvC scope cl C X.env
 outer:=X.stack
 stack:=X.stack
 ex:=fp
 fn:=λ_=>false
 calm:=X.calm
 pn:=[]
 xe:=λ_ _=>False
section
variable {X:Cx}{scope:Scope}{cl:List (Str×Addr)}{xs:List Str}{fr:List (Str×Nat)}{pins:ax}{σ:St}{H:Hp}{s:Shared}
theorem Ii(S:rQ X scope cl xs fr)(I:Inv X pins σ H s)(hC:C=s.heap.objs.size)(hf:∀b∈fp,d6 X pins H b)(bf:∀b∈fp,b<s.heap.objs.size)
  (old:∀b o,s.heap.get? b=some o->fG.get? b=some o)(hn:fG.Ns C m):Inv (c_ X xs fr scope cl C s H fp) [] (List.replicate xs.length none++eY σ fr) H {s with heap:=fG,toks:=tk}:=by
 have look:=S.sub.look;refine⟨⟨I.ok.mod,S.kind,I.ok.glob,I.ok.blt,by show s.heap.objs.size<=C;rw[hC];exact Yc _,λy z c h1 h2=>I.ok.inj y z c (look y c h1) (look z c h2),λy hy=>?_,λy c h=>?_,I.ok.hd,I.ok.frames,.inl rfl,λb hb=>⟨?_,λy c h=>?_⟩,
   I.bs,Yn I.ok.eK I.sz,λb o e hb=>?_,λb hb pT=>?_,I.stack,I.jX⟩,
  rfl,I.bare,Un.kept old,⟨m,hn,λi y v h1 h2 h3=>?_⟩,λy c h=>?_,?_,λy c h=>I.de y c (look y c h),λp hp=>absurd (show p∈([]:ax) from hp) (by simp),I.ah.kept old,?_⟩
 ·have hy:(relabel scope X.env).names.lookup y=some .cell\/(relabel scope X.env).names.lookup y=some .free:=hy;have fin:∀{k:NameKind},(relabel scope X.env).names.lookup y=some k->(k=.cell\/k=.free)->∃c,cl.lookup y=some c:=λ{k} e hk=>by
   obtain⟨k0,hm,q⟩:=qP (env:=X.env) e;have Qc:k0=.free:=by
    rcases q with q|q
    ·rcases hk with z|z;·exact absurd (q.symm.trans z) (S.oP _ hm)
     ·exact q.symm.trans z
    ·exact q
   have hq:=Y7.mp S.has _ hm;rw[Qc] at hq;exact Wu.mp (by simpa using hq)
  rcases hy with e|e;·exact fin e (.inl rfl)
  ·exact fin e (.inr rfl)
 ·exact absurd (show false=true from h) Yg
 ·show b≠C;exact λz=>absurd (bf b hb) (by rw[show b=C from z,hC];exact Wf _)
 ·exact(hf b hb).2.2.2.2.1 y c (look y c h)
 ·obtain⟨_,_,_,z,_⟩:=hf b hb;rcases z with z|z;·exact I.ok.iV b o e z
  ·have h1:=Yd e;have h2:=I.ok.eK;exact absurd (Yo h1 (Yn h2 z)) (Wf _)
 ·have z:=I.uD b pT;rcases Yr.mp z with z|z;·exact(hf b hb).2.1 z
  ·exact(hf b hb).2.2.1 z
 ·by_cases hi:i<xs.length;·grind
  ·have h1:(xs++fr.map (·.1))[i]?=some y:=h1;rw[Ws (Nat.le_of_not_lt hi)] at h1;rw[Ws (by rw[Wh];exact Nat.le_of_not_lt hi),Wh] at h2;generalize i-xs.length=k at h1 h2;have h2:(fr.map λp=>(σ[p.2]?).join)[k]?=some (some v):=h2;rw[Yj] at h1 h2;cases e:fr[k]? with
   |none=>rw[e] at h1;cases h1
   |some p=>
    rw[e] at h1 h2;have e1:p.1=y:=Yl h1;have e2:(σ[p.2]?).join=some v:=Yl h2;have F:=S.aO.get e;rw[e1] at F;have e3:σ[p.2]?=some (some v):=by
     cases q:σ[p.2]? with
     |none=>rw[q] at e2;cases e2
     |some o=>grind
    obtain⟨m0,_,hl⟩:=I.loc;have Qd:kK X.env.scope y:=by
     rcases F.out with z|z;·exact .inr (.inl z)
     ·exact .inr (.inr z)
    obtain⟨u,r,l⟩:=hl p.2 y v F.ix e3 Qd;refine⟨u,r,.inr ⟨F.Qb,?_⟩⟩;obtain⟨c,hc⟩:=Wu.mp F.cl;refine⟨c,hc,?_⟩;rcases l with⟨k1,_⟩|⟨_,c',e',z⟩
    ·rcases F.out with q|q;·rw[q] at k1;cases k1
     ·rw[q] at k1;cases k1
    ·have e4:=look y c hc;rw[e'] at e4;cases e4;obtain⟨o,ho,hd⟩:=z;exact⟨o,old _ _ ho,hd⟩
 ·obtain⟨v,o,ho,hd⟩:=I.cell y c (look y c h);exact⟨v,o,old _ _ ho,hd⟩
 ·show H C=none;rw[hC];exact I.ah.fresh (Yc _)
 ·show(List.replicate xs.length none++eY σ fr).length=(xs++fr.map (·.1)).length;simp[eY]
end
abbrev ka(X:Cx)(x:Str)(fr:List (Str×Nat))(scope:Scope)(cl:List (Str×Addr))(C:Addr)(s:Shared)(H:Hp)(fp:List Addr):Cx:=c_ X [x] fr scope cl C s H fp
section
variable {prog:Program}{w:World}{A:Around}{R:Result->Shared->Prop}{s:Shared}
theorem EO(I:Nat->Shared->Prop)
  (turn:∀n s,I n s->wpAny (model prog w) A (pyNext it) (λr aU=>match r with
   |none=>R (.ok .next) aU
   |some v=>wpAny (model prog w) A (letOwnedTupleGo target it v) (λ_ bG=>wpAny (model prog w) A (assign target env v) (λ_ pb=>
     wpAny (model prog w) A (forIn ifs true λc r=>if r=true then do let ok←isTrue c env (eval c env);pure (ForInStep.yield ok) else pure (ForInStep.yield r)) (λok dH=>
      if ok=true then wpAny (model prog w) A (eval elt env) (λx ia=>
       wpAny (model prog w) A (call (.builtin "list.append") [acc,x]) (λ_ CH=>∃m,m<n/\I m CH) (notedBy (model prog w) A env λe s'=>R (.error e) s') ia) (notedBy (model prog w) A env λe s'=>R (.error e) s') dH
      else ∃m,m<n/\I m dH) (notedBy (model prog w) A env λe s'=>R (.error e) s') pb) (notedBy (model prog w) A env λe s'=>R (.error e) s') bG) (notedBy (model prog w) A env λe s'=>R (.error e) s') aU) (notedBy (model prog w) A env λe s'=>R (.error e) s') s)
  (n:Nat)(h:I n s):codeAny (model prog w) A (.compLoop (.ListComp elt [⟨target,iter,ifs,0⟩] scope pos) 0 it acc env) R s:=by
 refine codeAny_loop rfl I (λn s hI=>wpAny_noted (wpAny_bind (wpAny_standAt (wpAny_bind (wpAny_mono (turn n s hI) (λr aU fG=>?_) λ_ _ h'=>h'))))) n h;cases r with
 |none=>exact wpAny_pure fG
 |some v=>
  refine wpAny_bind (wpAny_mono fG (λ_ bG h₀=>wpAny_bind (wpAny_mono h₀ (λ_ pb M1=>wpAny_bind (wpAny_mono M1 (λok dH CI=>?_) λ_ _ h'=>h')) λ_ _ h'=>h')) λ_ _ h'=>h');cases ok with
  |false=>exact wpAny_pure ⟨rfl,CI⟩
  |true=>
   exact wpAny_bind (wpAny_bind (wpAny_mono CI (λx ia M3=>wpAny_bind (wpAny_mono M3 (λ_ CH M4=>wpAny_pure (wpAny_pure ⟨rfl,M4⟩)) λ_ _ h'=>h')) λ_ _ h'=>h'))
end
def mQ(X:Cx)(ifs:List Expr)(t:TT):Prop:=
 ∀(pins:ax) (s:Shared) (σ:St) (H:Hp) (Q:Bool->Hp->Prop),Inv X pins σ H s->t σ H Q->
  wpAny X.md X.A (forIn ifs true λc r=>if r=true then do let ok←isTrue c X.env (eval c X.env);pure (ForInStep.yield ok) else pure (ForInStep.yield r)) (TP X pins σ Q) X.xe s
def kE:TT:=λ_ H Q=>Q true H
theorem cT:mQ X [] kE:=λ_ _ _ H _ I h=>wpAny_tests_nil ⟨H,I,h⟩
def K9(n:Nat)(J:It)(tg:TG)(tt:TT)(te:TE)(fv:St)(D:Addr)(H:Hp)(Q:VK):Prop:=
 ∃W:Nat->Nat->List V->Hp->Prop,(∃m,W 0 m [] (upd H D (.lst [])))/\∀i m ys H,W i m ys H->
  (J.stop i H/\Q (.ref D) H)\/(J.go i H/\∃N:List V->Hp->Prop,(∀fc H',N fc H'->∃m',m'<m/\W (i+1) m' fc H')/\
   ∀v H',J.i9 i H v H'->∀os:St,os.length=n->tg v (os++fv) H' λcS H2=>(∃vX:St,vX.length=n/\cS=vX++fv)/\tt cS H2 λc H1=>if c=true then te cS H1 λy H3=>H3 D=some (.lst ys)/\ys.length<sizeLine/\N (ys++[y]) (upd H3 D (.lst (ys++[y]))) else N ys H1)
section
variable {X:Cx}{elt iter ik:Expr}{xs:List Str}{pos:Pos}{ifs:List Expr}{scope:Scope}{cl:List (Str×Addr)}{fr:List (Str×Nat)}{tg:TG}{tt:TT}{te:TE}{pins:ax}{σ:St}
theorem Ji{H2:Hp}{s2:Shared}{it:Addr}{fp:List Addr}{tn:Nat->Heap->Prop}{J:It}{Q:VK}{RR:Value->Addr->Result->Shared->Prop}{E:aC}{rest:List Comprehension}(S:rQ X scope cl xs fr)
  (I2:Inv X pins σ H2 s2)(T:Turn X.prog X.w X.K ik J fp it tn)(eM:tn 0 s2.heap)(f2:∀b∈fp,d6 X pins H2 b)
  (hR:∀D C s1 H1 m,Inv X pins σ H1 s1->s1.heap.Ns C m->H1 C=none->C≠X.env.locals->X.bG.heap.objs.size<=C->(∀y c,X.env.cells.lookup y=some c->c≠C)->(∀p∈X.pn++pins,p.1≠C)->Q (.ref D) H1->RR (.ref D) C (.ok .next) s1)
  (hl:∀(D C:Addr) (s:Shared) (H3:Hp) (dH:Shared),H2 D=none->H3=upd H2 D (.lst [])->Inv (c_ X xs fr scope cl C s H3 fp) [] (List.replicate xs.length none++eY σ fr) H3 dH->tn 0 dH.heap->(∀b∈fp,H3 b=none)->
   (∀s6 pM H5,Inv (c_ X xs fr scope cl C s H3 fp) [] pM H5 s6->Q (.ref D) H5->RR (.ref D) C (.ok .next) s6)->
   codeAny X.md X.A (.compLoop (.ListComp elt (⟨ik,iter,ifs,0⟩::rest) scope pos) 0 (.ref it) (.ref D) (compEnvC scope cl C X.env)) (RR (.ref D) C) dH):
  wpAny X.md X.A (newList []) (λacc dH=>wpAny X.md X.A (newFunctionEnv scope X.env.globals cl [] X.env.qual none .none (some X.env)) (λib ia=>
   codeAny X.md X.A (.compStart (.ListComp elt (⟨ik,iter,ifs,0⟩::rest) scope pos) 0 (.ref it) acc {ib with scope:=relabel scope X.env}) (RR acc ib.locals) ia) E dH) E s2:=by
 refine wpAny_newObj_type (wpAny_newFunctionEnv S.oP (by intro y hy;simp at hy) (λfG uG uH=>?_) S.kind);dsimp only at uG uH⊢;have I3:Inv X pins σ (upd H2 s2.heap.objs.size (.lst [])) {s2 with heap:=s2.heap.push {cls:=.type "list",dict:=none,data:=.seq ([]:List Value).toArray}}:=
  I2.laid (t':=s2.toks) (λb u e=>Yb _ e) (Yc _) ⟨Y1 _,[],0,.nil,Ye _ rfl⟩
 have Qe:H2 s2.heap.objs.size=none:=I2.ah.fresh (Yc _);have CK:∀b∈fp,b<s2.heap.objs.size:=λb hb=>by
  obtain⟨o,e,_⟩:=T.obj _ _ eM b hb;exact Yd e
 generalize DF:s2.heap.push {cls:=.type "list",dict:=none,data:=.seq ([]:List Value).toArray}=G2 at uG uH I3⊢;have hC:G2.objs.size=s2.heap.objs.size+1:=by rw[←DF,Heap.size_push]
 have old:∀b o,G2.get? b=some o->fG.get? b=some o:=λb o e=>uH.extBut b o (Yh (Yd e)) (Yb _ e);have f3:∀b∈fp,d6 X pins (upd H2 s2.heap.objs.size (.lst [])) b:=λb hb=>by
  have:=CK b hb;exact⟨by rw[ak (Yh this)];exact(f2 b hb).1,(f2 b hb).2⟩
 have Qf:∀b∈fp,b<G2.objs.size:=λb hb=>by
  rw[hC];exact Wq (CK b hb)
 have pU:tn 0 fG:=T.keep _ _ _ eM λb hb o e=>old b o ((λb o e=>DF▸Yb _ e) b o e);have I4:Inv (c_ X xs fr scope cl G2.objs.size {s2 with heap:=G2} (upd H2 s2.heap.objs.size (.lst [])) fp) [] (List.replicate xs.length none++eY σ fr) (upd H2 s2.heap.objs.size (.lst [])) {s2 with heap:=fG,toks:=s2.toks+([]:List (Str×Value)).length}:=
  Ii (tk:=s2.toks+([]:List (Str×Value)).length) S I3 rfl f3 Qf old uG
 have loop:=hl s2.heap.objs.size G2.objs.size {s2 with heap:=G2} _ {s2 with heap:=fG,toks:=s2.toks+([]:List (Str×Value)).length} Qe rfl I4 pU (λb hb=>(f3 b hb).1) λs6 pM H5 I6 qn=>by
   obtain⟨m,Qg,_⟩:=I6.loc;have I7:Inv X pins σ H5 s6:=I3.lY (ch:=fp) I6.os I6.base I6.ah I6.bare λb hb=>⟨(f2 b hb).2.2.2.1,(f2 b hb).2.1,(f2 b hb).2.2.2.2.1,(f2 b hb).2.2.2.2.2⟩;refine hR _ _ s6 H5 m I7 Qg I6.free ?_ ?_ (λy c e z=>?_) (λp hp z=>?_) qn;·exact Wp I3.lt
   ·exact I3.sz
   ·obtain⟨v,q⟩:=I3.cell y c e;exact absurd q.lt (by rw[z];exact Wf _)
   ·exact absurd (Yd (I3.pin p hp).1) (by rw[z];exact Wf _)
 exact codeAny_compStart_list loop (T.self _ 0 _ _ _ pU loop)
theorem GD{H2:Hp}{s2:Shared}{it:Addr}{fp:List Addr}{tn:Nat->Heap->Prop}{J:It}{Q:VK}{RR:Value->Addr->Result->Shared->Prop}{E:aC}
  (hc:X.calm=true)(S:rQ X scope cl xs fr)(hg:∀C s H fp,PG (c_ X xs fr scope cl C s H fp) ik tg)
  (ht:∀C s H fp,mQ (c_ X xs fr scope cl C s H fp) ifs tt)(he:∀C s H fp,PE (c_ X xs fr scope cl C s H fp) elt te)
  (I2:Inv X pins σ H2 s2)(T:Turn X.prog X.w X.K ik J fp it tn)(eM:tn 0 s2.heap)(f2:∀b∈fp,d6 X pins H2 b)
  (hw:∀D,H2 D=none->K9 xs.length J tg tt te (eY σ fr) D H2 Q)
  (hR:∀D C s1 H1 m,Inv X pins σ H1 s1->s1.heap.Ns C m->H1 C=none->C≠X.env.locals->X.bG.heap.objs.size<=C->(∀y c,X.env.cells.lookup y=some c->c≠C)->(∀p∈X.pn++pins,p.1≠C)->Q (.ref D) H1->RR (.ref D) C (.ok .next) s1):
  wpAny X.md X.A (newList []) (λacc dH=>wpAny X.md X.A (newFunctionEnv scope X.env.globals cl [] X.env.qual none .none (some X.env)) (λib ia=>
   codeAny X.md X.A (.compStart (.ListComp elt [⟨ik,iter,ifs,0⟩] scope pos) 0 (.ref it) acc {ib with scope:=relabel scope X.env}) (RR acc ib.locals) ia) E dH) E s2:=by
 refine Ji (rest:=[]) S I2 T eM f2 hR λD C s H3 dH hD e3 I4 pU pK fin=>?_;obtain⟨W,⟨m0,w0⟩,turn⟩:=hw D hD;rw[←e3] at w0;refine EO (λk s'=>∃i ys H' os,os.length=xs.length/\Inv (c_ X xs fr scope cl C s H3 fp) [] (os++eY σ fr) H' s'/\tn i s'.heap/\(∀b∈fp,H' b=none)/\W i k ys H') ?_ m0
  ⟨0,[],_,List.replicate xs.length none,Wh,I4,pU,pK,w0⟩
 rintro n s5 ⟨i,ys,H5,os,Qh,I5,kP,pL,w5⟩;have iY:∀{H':Hp},(∀b∈fp,H' b=none)->∀b∈fp,d6 (c_ X xs fr scope cl C s H3 fp) [] H' b:=λ{H'} hn b hb=>
  ⟨hn b hb,(I5.ok.kM b hb).1,I5.ok.iW b hb,.inl hb,(I5.ok.kM b hb).2,λp hp=>absurd (show p∈([]:ax) from hp) (by simp)⟩
 rcases turn i n ys H5 w5 with⟨stop,qn⟩|⟨go,N,hN,step⟩
 ·refine ay (T.done (c_ X xs fr scope cl C s H3 fp) rfl rfl rfl hc i [] s5 _ H5 _ I5 (iY pL) kP stop) λr s6 zq=>?_;obtain⟨hr,I6⟩:=zq;subst hr;exact fin _ _ _ I6 qn
 ·refine ay (T.item (c_ X xs fr scope cl C s H3 fp) rfl rfl rfl hc i [] s5 _ H5 _ I5 (iY pL) kP go) λr s6 zq=>?_;obtain⟨u,hr,h6⟩:=zq;subst hr;refine ay h6 λ_ s7 zq=>?_;obtain⟨v,H7,I7,r7,y7,vY,Qi⟩:=zq;have Qj:=I7.pinned (iY Qi) (T.obj _ _ vY);refine wpAny_mono (hg _ _ _ _ _ s7 _ H7 v u _ Qj r7 (step v H7 y7 os Qh)) (λ_ s8 zq=>?_) λ_ _ z=>False.elim z;obtain⟨Uq,H8,I8,⟨vX,CM,e8⟩,q8⟩:=zq;subst e8;have again:∀{pV:St} {H9:Hp} {s9:Shared} {pW:List V},pV.length=xs.length->Inv (c_ X xs fr scope cl C s H3 fp) ([]++lQ fp s7.heap) (pV++eY σ fr) H9 s9->N pW H9->
    ∃m,m<n/\∃i ys H' os,os.length=xs.length/\Inv (c_ X xs fr scope cl C s H3 fp) [] (os++eY σ fr) H' s9/\tn i s9.heap/\(∀b∈fp,H' b=none)/\W i m ys H':=λ{pV H9 s9 pW} l1 I9 n9=>by
   obtain⟨m',hm,w9⟩:=hN pW H9 n9;refine⟨m',hm,i+1,pW,H9,pV,l1,I9.nW,T.keep _ _ _ vY λb hb o e=>(I9.pin (b,o) (Yt _ (Yt _ (nH hb e)))).1,λb hb=>?_,w9⟩;obtain⟨o,e,d⟩:=T.obj _ _ vY b hb;exact(I9.pin (b,o) (Yt _ (Yt _ (nH hb e)))).2.1
  refine wpAny_mono (ht _ _ _ _ _ s8 _ H8 _ I8 q8) (λok s9 zq=>?_) λ_ _ z=>False.elim z;obtain⟨H9,I9,q9⟩:=zq;cases ok with
  |false=>
   rw[if_neg Yg] at q9⊢;exact again CM I9 q9
  |true=>
   rw[if_pos rfl];rw[if_pos rfl] at q9;refine wpAny_mono (he _ _ _ _ _ s9 _ H9 _ I9 q9) (λu1 Qk zq=>?_) λ_ _ z=>False.elim z;obtain⟨y,DG,Ql,Qm,hD,hz,Qn⟩:=zq;refine wpAny_mono (nM (X:=c_ X xs fr scope cl C s H3 fp) _ Qk _ DG (.ref D) [y] _ [u1] (λ_ H'=>N (ys++[y]) H') Ql rfl (.cons Qm .nil) ⟨_,ys,y,rfl,rfl,hD,hz,Qn⟩) (λ_ Ur zq=>?_) λ_ _ z=>False.elim z;obtain⟨_,DH,Qo,_,Qp⟩:=zq;exact again CM Qo Qp
end
def d4(J:It)(tt:TT)(te:TE)(fv:St)(D:Addr)(H:Hp)(Q:VK):Prop:=
 ∃W:Nat->Nat->List V->Hp->Prop,(∃m,W 0 m [] (upd H D (.lst [])))/\∀i m ys H,W i m ys H->
  (J.stop i H/\Q (.ref D) H)\/(J.go i H/\∃N:List V->Hp->Prop,(∀fc H',N fc H'->∃m',m'<m/\W (i+1) m' fc H')/\
   ∀v H',J.i9 i H v H'->tt (some v::fv) H' λc H1=>if c=true then te (some v::fv) H1 λy H3=>H3 D=some (.lst ys)/\ys.length<sizeLine/\N (ys++[y]) (upd H3 D (.lst (ys++[y]))) else N ys H1)
section
variable {X:Cx}{elt iter:Expr}{x:Str}{px pos:Pos}{ifs:List Expr}{scope:Scope}{cl:List (Str×Addr)}{fr:List (Str×Nat)}{tt:TT}{te:TE}{pins:ax}{σ:St}
theorem zH{H2:Hp}{s2:Shared}{it:Addr}{fp:List Addr}{tn:Nat->Heap->Prop}{J:It}{Q:VK}{RR:Value->Addr->Result->Shared->Prop}{E:aC}
  (hc:X.calm=true)(S:lH X scope cl x fr)
  (ht:∀C s H fp,mQ (ka X x fr scope cl C s H fp) ifs tt)(he:∀C s H fp,PE (ka X x fr scope cl C s H fp) elt te)
  (I2:Inv X pins σ H2 s2)(T:Turn X.prog X.w X.K (.Name x px) J fp it tn)(eM:tn 0 s2.heap)(f2:∀b∈fp,d6 X pins H2 b)
  (hw:∀D,H2 D=none->d4 J tt te (eY σ fr) D H2 Q)
  (hR:∀D C s1 H1 m,Inv X pins σ H1 s1->s1.heap.Ns C m->H1 C=none->C≠X.env.locals->X.bG.heap.objs.size<=C->(∀y c,X.env.cells.lookup y=some c->c≠C)->(∀p∈X.pn++pins,p.1≠C)->Q (.ref D) H1->RR (.ref D) C (.ok .next) s1):
  wpAny X.md X.A (newList []) (λacc dH=>wpAny X.md X.A (newFunctionEnv scope X.env.globals cl [] X.env.qual none .none (some X.env)) (λib ia=>
   codeAny X.md X.A (.compStart (.ListComp elt [⟨.Name x px,iter,ifs,0⟩] scope pos) 0 (.ref it) acc {ib with scope:=relabel scope X.env}) (RR acc ib.locals) ia) E dH) E s2:=by
 refine GD (xs:=[x]) hc ⟨S.pj,S.sub,S.kind,S.names,S.oP,S.has,S.aO,S.nd⟩ (λC s H fp=>n_ (i:=0) S.nd rfl (.inl (lookup_relabel_local S.lx)) (.inr (lookup_relabel_local S.lx))) ht he I2 T eM f2 (λD hD=>?_) hR;obtain⟨W,h0,h⟩:=hw D hD;refine⟨W,h0,λi m ys H p=>?_⟩;rcases h i m ys H p with z|⟨z,N,hN,q⟩;·exact .inl z
 ·refine .inr ⟨z,N,hN,λv H' y os hl=>?_⟩;match os,hl with
  |[o],_=>exact⟨⟨[some v],rfl,rfl⟩,q v H' y⟩
def u5(wi:TI)(fr:List (Str×Nat))(tt:TT)(te:TE):TE:=λσ H Q=>wi σ H λJ H1=>∀D,H1 D=none->d4 J tt te (eY σ fr) D H1 Q
theorem dc(hc:X.calm=true)(S:lH X scope cl x fr)(hi:PI X (.Name x px) iter wi)
  (ht:∀C s H fp,mQ (ka X x fr scope cl C s H fp) ifs tt)(he:∀C s H fp,PE (ka X x fr scope cl C s H fp) elt te)
  (hs:∀x,foldedSetIterable iter X.env x=pure x:=by intro _;rfl):PE X (.ListComp elt [⟨.Name x px,iter,ifs,0⟩] scope pos) (u5 wi fr tt te):=by
 intro pins s σ H Q I h;refine wpAny_comprehension_free rfl hs S.pj S.kind S.names (ay (hi pins s σ H _ I h) λv s1 h1=>ay h1 λpJ s2 h2=>?_);obtain⟨it,fp,tn,J,H2,e,I2,T,eM,f2,hw⟩:=h2;subst e;refine zH (RR:=λacc C=>compPost X.md X.A X.xe none (EP X pins σ Q) acc C) hc S ht he I2 T eM f2 hw ?_;intro D C s1 H1 m I1 hn f0 f1 f3 f4 f5 q;exact⟨m,hn,λh' vZ=>⟨.ref D,H1,I1.turned (λb o hb e=>vZ.extBut b o hb e) f0 f1 (.inr f3) f4 f5,rfl,q⟩⟩
theorem GF(hc:X.calm=true)(hN:X.N.Nodup)(Qq:X.N[i]?=some y)(hy:Loc X.env.scope y)(S:lH X scope cl x fr)(hi:PI X (.Name x px) iter wi)
  (ht:∀C s H fp,mQ (ka X x fr scope cl C s H fp) ifs tt)(he:∀C s H fp,PE (ka X x fr scope cl C s H fp) elt te)
  (Qr:swapsWith (.ListComp elt [⟨.Name x px,iter,ifs,0⟩] scope pos) (some (.Name y py)) M5.line X.env=pure true:=by with_unfolding_all rfl)
  (hf:X.fn y=true\/X.env.scope.names.lookup y=some .local:=by first|exact .inl rfl|exact .inr rfl|assumption)
  (hs:∀x,foldedSetIterable iter X.env x=pure x:=by intro _;rfl):PS X (.Assign [.Name y py] (.ListComp elt [⟨.Name x px,iter,ifs,0⟩] scope pos) M5) (iX (u5 wi fr tt te) (gs i)):=by
 intro pins s σ H D I h;rw[exec_Assign_Name_used _ _ _ _ Qr];refine wpAny_bind (wpAny_standAt (wpAny_bind ?_));show wpAny _ X.A (do let _←comprehension (.ListComp elt [⟨.Name x px,iter,ifs,0⟩] scope pos) scope X.env _ (newList []) false (eval iter X.env) (some (assign (.Name y py) X.env))) _ _ s;refine wpAny_bind (wpAny_mono (wpAny_comprehension_free (use:=some (assign (.Name y py) X.env)) (Q:=λ_ s'=>SP X pins D .next s') rfl hs S.pj S.kind S.names
  (ay (hi pins s σ H _ I h) λv s1 h1=>ay h1 λpJ s2 h2=>?_)) (λ_ s' hq=>wpAny_pure (wpAny_pure hq)) λ_ _ e=>e)
 obtain⟨it,fp,tn,J,H2,e,I2,T,eM,f2,hw⟩:=h2;subst e;refine zH (Q:=λv H1=>gs i v σ H1 D.nx) (RR:=λacc C=>compPost X.md X.A X.xe (some (assign (.Name y py) X.env)) (λ_ s'=>SP X pins D .next s') acc C) hc S ht he I2 T eM f2 hw ?_;intro Dl C s1 H1 m I1 hn f0 f1 f3 f4 f5 q;show wpAny _ X.A (assign (.Name y py) X.env (.ref Dl)) _ _ s1;refine wpAny_assign_Name (zy I1 hN Qq hy (v:=.ref Dl) rfl (λs3 I3 z=>?_) hf);obtain⟨a,sb,ha⟩:=z;have Qs:C≠a:=by
  rcases ha with z|z;·rw[z];exact f1
  ·exact λq=>f4 _ _ z q.symm
 refine⟨m,hn.sameBut sb Qs,λh' vZ=>?_⟩;exact⟨_,H1,I3.turned (t':=s3.toks) (λb o hb e=>vZ.extBut b o hb e) f0 f1 (.inr f3) f4 f5,q⟩
end
theorem zI{K:ae}{a:Addr}{xs:List V}{tt:TT}{te:TE}{fv:St}{D:Addr}{H:Hp}{Q:VK}(Pv:Nat->List V->Hp->Prop)(h0:Pv 0 [] (upd H D (.lst [])))(hl:∀i ys H,i<=xs.length->Pv i ys H->ai K H a xs)
  (hs:∀i v ys H,xs[i]?=some v->Pv i ys H->tt (some v::fv) H λc H1=>if c=true then te (some v::fv) H1 λy H3=>H3 D=some (.lst ys)/\ys.length<sizeLine/\Pv (i+1) (ys++[y]) (upd H3 D (.lst (ys++[y]))) else Pv (i+1) ys H1)
  (hd:∀ys H,Pv xs.length ys H->Q (.ref D) H):d4 (fM K a) tt te fv D H Q:=by
 refine⟨λi m ys H=>m=xs.length-i/\i<=xs.length/\Pv i ys H,⟨xs.length,by simp,Y1 _,h0⟩,?_⟩;rintro i m ys H ⟨rfl,hi,p⟩;have q:=hl i ys H hi p;by_cases bf:i<xs.length
 ·refine .inr ⟨⟨xs,xs[i],q,by simp[bf]⟩,Pv (i+1),λfc H' p'=>⟨xs.length-(i+1),by omega,rfl,bf,p'⟩,λx H' y=>?_⟩;obtain⟨e,y⟩:=y
  grind
 ·have e:i=xs.length:=by omega
  subst e;exact .inl ⟨⟨xs,q,Yc _⟩,hd ys H p⟩
theorem nX{K:ae}{a:Addr}{xs:List V}{tt:TT}{te:TE}{fv:St}{D:Addr}{H:Hp}{Q:VK}(Pv:Nat->List V->Hp->Prop)(h0:Pv 0 [] (upd H D (.lst [])))(hl:∀i ys H,i<=xs.length->Pv i ys H->aq K H a xs)
  (hs:∀i v ys H,xs[i]?=some v->Pv i ys H->tt (some v::fv) H λc H1=>if c=true then te (some v::fv) H1 λy H3=>H3 D=some (.lst ys)/\ys.length<sizeLine/\Pv (i+1) (ys++[y]) (upd H3 D (.lst (ys++[y]))) else Pv (i+1) ys H1)
  (hd:∀ys H,Pv xs.length ys H->Q (.ref D) H):d4 (fN K a) tt te fv D H Q:=by
 refine⟨λi m ys H=>m=xs.length-i/\i<=xs.length/\Pv i ys H,⟨xs.length,by simp,Y1 _,h0⟩,?_⟩;rintro i m ys H ⟨rfl,hi,p⟩;have q:=hl i ys H hi p;by_cases bf:i<xs.length
 ·refine .inr ⟨⟨xs,xs[i],q,by simp[bf]⟩,Pv (i+1),λfc H' p'=>⟨xs.length-(i+1),by omega,rfl,bf,p'⟩,λx H' y=>?_⟩;obtain⟨e,y⟩:=y
  grind
 ·have e:i=xs.length:=by omega
  subst e;exact .inl ⟨⟨xs,q,Yc _⟩,hd ys H p⟩
theorem rR{lo:Int}{n:Nat}{tt:TT}{te:TE}{fv:St}{D:Addr}{H:Hp}{Q:VK}(Pv:Nat->List V->Hp->Prop)(h0:Pv 0 [] (upd H D (.lst [])))
  (hs:∀i ys H,i<n->Pv i ys H->tt (some (.int (lo+i))::fv) H λc H1=>if c=true then te (some (.int (lo+i))::fv) H1 λy H3=>H3 D=some (.lst ys)/\ys.length<sizeLine/\Pv (i+1) (ys++[y]) (upd H3 D (.lst (ys++[y]))) else Pv (i+1) ys H1)
  (hd:∀ys H,Pv n ys H->Q (.ref D) H):d4 (i_ lo n) tt te fv D H Q:=by
 refine⟨λi m ys H=>m=n-i/\i<=n/\Pv i ys H,⟨n,by simp,Y1 _,h0⟩,?_⟩;rintro i m ys H ⟨rfl,hi,p⟩;by_cases bf:i<n
 ·refine .inr ⟨bf,Pv (i+1),λfc H' p'=>⟨n-(i+1),by omega,rfl,bf,p'⟩,λx H' y=>?_⟩;obtain⟨e,y⟩:=y
  grind
 ·have e:i=n:=by omega
  subst e;exact .inl ⟨Yc _,hd ys H p⟩
def M6(K:ae)(tl:TE):TI:=λσ H R=>tl σ H λx H1=>∃a,x=.ref a/\((∃xs,ai K H1 a xs)/\R (fM K a) H1\/(∃xs,aq K H1 a xs)/\R (fN K a) H1)
theorem K_(hl:PE X l tl):PI X tg l (M6 X.K tl):=by
 intro pins s σ H R I h;refine ay (hl pins s σ H _ I h) λv s1 zq=>?_;obtain⟨x,H1,I1,r1,q1⟩:=zq;obtain⟨a,e,q1⟩:=q1;subst e;cases r1;rcases q1 with⟨⟨xs,hq⟩,q⟩|⟨⟨xs,hq⟩,q⟩
 ·obtain⟨af,rv,p,hz⟩:=I1.list hq;refine wpAny_pyIter_list p.isList ⟨s1.heap.objs.size,[s1.heap.objs.size],_,_,H1,rfl,I1.kept λb o e=>Yb _ e,zz a _,⟨_,Ye _ rfl,rfl,rfl⟩,λb hb=>?_,q⟩;have e:b=s1.heap.objs.size:=by simpa using hb
  subst e;exact I1.kC (Yc _) (I1.ah.fresh (Yc _))
 ·obtain⟨af,rv,p,hz⟩:=I1.tuple hq;refine wpAny_pyIter_tuple (show s1.heap.IsTuple a af.toArray from p) ⟨s1.heap.objs.size,[s1.heap.objs.size],_,_,H1,rfl,I1.kept λb o e=>Yb _ e,yT a _,⟨_,Ye _ rfl,rfl,rfl⟩,λb hb=>?_,q⟩;have e:b=s1.heap.objs.size:=by simpa using hb
  subst e;exact I1.kC (Yc _) (I1.ah.fresh (Yc _))
theorem nD:∀{xs:List V} {us:List Value},xs.length=us.length->(∀(i:Nat) (x:V) (u:Value),xs[i]?=some x->us[i]?=some u->RelV x u)->Vals xs us
 |[],[],_,_=>.nil
 |[],_::_,h,_=>by simp at h
 |_::_,[],h,_=>by simp at h
 |x::xs,u::us,h,k=>.cons (k 0 x u rfl rfl) (nD (by simpa using h) λi y w e1 e2=>k (i+1) y w (by simpa using e1) (by simpa using e2))
theorem yV:∀{bs:List Bool} {us:List Value},Vals (bs.map V.bl) us->us=bs.map Value.bool:=by
 intro bs;induction bs with
 |nil=>intro us r;cases r;rfl
 |cons b bs ih=>
  intro us r;rw[Wi] at r;cases r with
  |cons r t=>
   have e1:_=Value.bool b:=r;rw[e1,ih t];rfl
def bD(n:Nat):List Int:=(List.range n).map λi:Nat=>(i:Int)
theorem dB(n:Nat):(bD n).length=n:=by simp[bD]
theorem iJ(h:i<n):(bD n)[i]?=some (i:Int):=by
 unfold bD
 grind
theorem Jj(bs:List Bool):(List.range bs.length).any (λi=>bs.getD i false)=bs.any id:=by
 rw[Wv,List.any_eq_true,List.any_eq_true];constructor
 ·rintro⟨i,hi,hb⟩;rw[W3] at hi;have e:bs.getD i false=bs[i]:=by rw[Y5,Ys hi];rfl
  rw[e] at hb;exact⟨bs[i],List.getElem_mem hi,hb⟩
 ·rintro⟨b,hb,e⟩;obtain⟨i,hi,rfl⟩:=List.mem_iff_getElem.mp hb;refine⟨i,W3.mpr hi,?_⟩
  grind
theorem Jk(bs:List Bool):(List.range bs.length).all (λi=>bs.getD i false)=bs.all id:=by
 rw[Wv,Y7,Y7];constructor
 ·intro h b hb;obtain⟨i,hi,rfl⟩:=List.mem_iff_getElem.mp hb;simp_all
 ·intro h i hi;rw[W3] at hi;rw[Y5,Ys hi];exact h _ (List.getElem_mem hi)
theorem rm:∀{ns ms:List Int},ns.length=ms.length->(List.range ns.length).all (λj=>ns.getD j 0==ms.getD j 0)=decide (ns=ms):=by
 intro ns ms hl;rw[Wv,Y7,decide_eq_true_iff];constructor
 ·intro h;refine List.ext_getElem hl λi h1 h2=>?_;simp_all
 ·grind
section
variable {X:Cx}
def CN(K:ae):List V->Hp->VK->Prop:=λxs H Q=>∃(p:Addr) (bs:List Bool),xs=[.ref p]/\ai K H p (bs.map V.bl)/\Q (.bl (bs.any id)) H
def CO(K:ae):List V->Hp->VK->Prop:=λxs H Q=>∃(p:Addr) (bs:List Bool),xs=[.ref p]/\ai K H p (bs.map V.bl)/\Q (.bl (bs.all id)) H
theorem EX(hc:X.calm=true):bC X (.builtin "any") (CN X.K):=by
 rintro pins s σ H xs us Q I r ⟨p,bs,rfl,hq,q⟩;obtain⟨u,rfl,rx⟩:=vals1 r;cases rx;obtain⟨af,r',pl,hz⟩:=I.list hq;have e:=yV r';subst e;have hl:=pl.isList;have bf:p<s.heap.objs.size:=by obtain⟨_,e,_⟩:=hl;exact Yd e
 refine call_any_walk (wpAny_pyIter_list hl ⟨s.heap.objs.size,_,_,_,_,_,λi=>bs.getD i false,rfl,Walks.list (show X.A.in1.handled=none from I.ok.hd hc) s.heap.objs.size p (Yh bf) (bs.map Value.bool).toArray,⟨⟨_,Ye _ rfl,rfl,rfl⟩,hl.push _⟩,?_,λh' tk hk=>?_⟩)
 ·intro i v s' Q' E' hP hQ;have jc:(bs.map Value.bool)[i]?=some v:=by simpa using hP
  rw[Yj] at jc;cases e:bs[i]? with
  |none=>grind
  |some b=>
   rw[e] at jc;have ev:=Yl jc;subst ev;refine wpAny_truthy_bool ?_
   grind
 ·refine⟨.bl (bs.any id),H,I.kept (λb o e=>hk b o (by simpa using Yh (Yd e)) (Yb _ e)),?_,q⟩;show Value.bool _=Value.bool _;have e:(bs.map Value.bool).toArray.size=bs.length:=by simp
  rw[e,Jj]
theorem EY(hc:X.calm=true):bC X (.builtin "all") (CO X.K):=by
 rintro pins s σ H xs us Q I r ⟨p,bs,rfl,hq,q⟩;obtain⟨u,rfl,rx⟩:=vals1 r;cases rx;obtain⟨af,r',pl,hz⟩:=I.list hq;have e:=yV r';subst e;have hl:=pl.isList;have bf:p<s.heap.objs.size:=by obtain⟨_,e,_⟩:=hl;exact Yd e
 refine call_all_walk (wpAny_pyIter_list hl ⟨s.heap.objs.size,_,_,_,_,_,λi=>bs.getD i false,rfl,Walks.list (show X.A.in1.handled=none from I.ok.hd hc) s.heap.objs.size p (Yh bf) (bs.map Value.bool).toArray,⟨⟨_,Ye _ rfl,rfl,rfl⟩,hl.push _⟩,?_,λh' tk hk=>?_⟩)
 ·intro i v s' Q' E' hP hQ;have jc:(bs.map Value.bool)[i]?=some v:=by simpa using hP
  rw[Yj] at jc;cases e:bs[i]? with
  |none=>grind
  |some b=>
   rw[e] at jc;have ev:=Yl jc;subst ev;refine wpAny_truthy_bool ?_
   grind
 ·refine⟨.bl (bs.all id),H,I.kept (λb o e=>hk b o (by simpa using Yh (Yd e)) (Yb _ e)),?_,q⟩;show Value.bool _=Value.bool _;have e:(bs.map Value.bool).toArray.size=bs.length:=by simp
  rw[e,Jk]
inductive Bw(K:ae)(xs:List V)(H:Hp)(Q:VK):Prop
 |mk (x:V) (t:Value) (c:String) (b:Bool) (aP:xs=[x,.ty c]) (aQ:dj K H x t) (bc:kitOne K t (.type c)=some b) (bN:Q (.bl b) H):Bw K xs H Q
def pq(K:ae):List V->Hp->VK->Prop:=λxs H Q=>Bw K xs H Q
theorem FH:bC X (.builtin "isinstance") (pq X.K):=by
 rintro pins s σ H xs us Q I r ⟨x,t,c,b,rfl,ty,e,q⟩;obtain⟨u,w',rfl,rx,ry⟩:=vals2 r;cases ry;exact Ie I rx ty e λtk=>⟨.bl b,H,I.tok tk,rfl,q⟩
theorem yW(hT:T="list"\/T="tuple")
  (ho:s.heap.get? l=some o)(hc:o.cls=.type T)(hd:o.data=.seq af.toArray n)(hI:IntsAre af ns)(fO:af.length<64)(Dw:af.toArray.size<=sizeLine)
  (h:∀(h1 h':Heap) (out:Array Value) (bJ:List Int) (e:Nat),(∀b o,s.heap.get? b=some o->h1.get? b=some o)->(∀b o,h1.get? b=some o->h'.get? b=some o)->h'.get? h1.objs.size=some (seqObj "list" out e)->IntsAre out.toList bJ->bJ.Perm ns->bJ.Pairwise (·<=·)->Q (.ref h1.objs.size) {s with heap:=h'}):
  wpAny (model prog w) A (call (.builtin "sorted") [.ref l]) Q E s:=by
 refine Calls.call_function_entry kind_sorted plain_sorted entry_sorted (args_sorted1 _) (wpAny_bind (wpAny_pure ?_));refine wpAny_bind (wpAny_collect_seq l hT ho hc hd (λh1 kp=>wpAny_bind (wpAny_newList ?_)) Dw);have e1:af.toArray.toList=af:=by simp
 rw[e1];have mH:(h1.push (seqObj "list" af.toArray 0)).get? h1.objs.size=some (seqObj "list" af.toArray 0):=Ye _ rfl;refine wpAny_bind (wpAny_holding (wpAny_call_entry slot_list_sort ⟨_,mH,rfl⟩ entry_list_sort (list_sort_tree mH hI fO λout bJ a1 a2 a3=>⟨_,rfl,?_⟩) (args_list_sort _)));obtain⟨e,he⟩:=sortedHeap_at mH;exact wpAny_pure ⟨_,rfl,h h1 _ out bJ e kp (λb ob hb=>by
  have bf:=Yd hb;rw[sortedHeap_old (Yh bf) (by rw[size_push'];exact Wq bf),Heap.get?_push_ne _ _ _ (Yh bf)];exact hb) he a1 a2 a3⟩
def t9(K:ae):List V->Hp->VK->Prop:=λxs H Q=>∃(p:Addr) (ns:List Int),xs=[.ref p]/\(ai K H p (ns.map V.int)\/aq K H p (ns.map V.int))/\ns.length<64/\
  ∀(l:Addr) (bJ:List Int),H l=none->bJ.Perm ns->bJ.Pairwise (·<=·)->Q (.ref l) (upd H l (.lst (bJ.map V.int)))
theorem yF:bC X (.builtin "sorted") (t9 X.K):=by
 rintro pins s σ H xs us Q I r ⟨p,ns,rfl,hq,fO,q⟩;obtain⟨u,rfl,rx⟩:=vals1 r;cases rx;have fin:∀(h1 h':Heap) (out:Array Value) (bJ:List Int) (e:Nat),(∀b o,s.heap.get? b=some o->h1.get? b=some o)->(∀b o,h1.get? b=some o->h'.get? b=some o)->h'.get? h1.objs.size=some (seqObj "list" out e)->IntsAre out.toList bJ->bJ.Perm ns->bJ.Pairwise (·<=·)->
   EP X pins σ Q (.ref h1.objs.size) {s with heap:=h'}:=λh1 h' out bJ e kp Qt he a1 a2 a3=>by
  have I1:=I.kept (t':=s.toks) kp;refine⟨.ref h1.objs.size,_,I1.laid (o:=.lst (bJ.map V.int)) Qt (Yc _) ⟨?_,out.toList,e,zG a1,by simpa[seqObj] using he⟩,rfl,q _ bJ (I1.ah.fresh (Yc _)) a2 a3⟩;rw[Ya,a2.length_eq];exact Wo (eS (by omega))
 rcases hq with hq|hq
 ·obtain⟨af,r',pl,hz⟩:=I.list hq;obtain⟨o,n,ho,hc,_,hd⟩:=pl;have hl:=r'.length;rw[Ya] at hl;rw[Ya] at hz;exact yW (.inl rfl) ho hc hd (intsAre_of r') (by omega) (by rw[Yf];omega) fin
 ·obtain⟨af,r',pl,hz⟩:=I.tuple hq;obtain⟨o,ho,hc,n,hd⟩:=pl;have hl:=r'.length;rw[Ya] at hl;rw[Ya] at hz;exact yW (.inr rfl) ho hc hd (intsAre_of r') (by omega) (by rw[Yf];omega) fin
def AR:List V->Hp->VK->Prop:=λxs H Q=>∃j:Int,xs=[.int j]/\∀p:Addr,H p=none->Q (.ref p) (upd H p (.e6 0 j))
def z9:List V->Hp->VK->Prop:=λxs H Q=>∃(p:Addr) (n:Nat),xs=[.ref p]/\H p=some (.e6 0 (n:Int))/\n<=1000/\∀l:Addr,H l=none->Q (.ref l) (upd H l (.lst ((bD n).map V.int)))
def mn(K:ae):List V->Hp->VK->Prop:=λxs H Q=>∃(p:Addr) (ys:List V),xs=[.ref p]/\(ai K H p ys\/aq K H p ys)/\Q (.int ys.length) H
theorem GG:bC X (.builtin "len") (mn X.K):=yy
theorem nE:bC X (.type "range") AR:=by
 rintro pins s σ H xs us Q I r ⟨j,rfl,q⟩;obtain⟨u,rfl,t,rfl⟩:=vals1 r;exact call_range_1 ⟨.ref s.heap.objs.size,_,I.laid (o:=.e6 0 j) (λb o e=>Yb _ e) (Yc _) ⟨_,_,_,Ye _ rfl⟩,rfl,q _ (I.ah.fresh (Yc _))⟩
theorem qJ(hc:X.calm=true):bC X (.type "list") z9:=by
 rintro pins s σ H xs us Q I r ⟨p,n,rfl,hp,hn,q⟩;obtain⟨u,rfl,rx⟩:=vals1 r;cases rx;obtain⟨t,u,v,ho⟩:=I.ah p _ hp;refine call_list_range (I.ok.hd hc) ho (small_one (by omega) (by omega) (by omega) (by omega)) (n:=n) (by rw[rangeSize_one];split<;>omega) (by omega) λh' tk vI c' hk v3 mq=>⟨.ref s.heap.objs.size,_,I.laid (o:=.lst ((bD n).map V.int)) hk (Yc _) ⟨?_,vI.toList,c',?_,by simpa using v3⟩,rfl,q _ (I.ah.fresh (Yc _))⟩
 ·rw[Ya,dB];exact Wo (eS hn)
 ·refine nD (by rw[Ya,dB];simp[mq.1]) λi x u e1 e2=>?_;obtain⟨t',rfl⟩:=mq.2 i u (by simpa using e2);have hi:i<n:=by
   have:=(Yk.mp e1).1;rw[Ya,dB] at this;exact this
  rw[Yj,iJ hi] at e1;have e3:=Yl e1;subst e3;exact⟨t',by rw[show(0:Int)+(i:Int)*1=(i:Int) by omega]⟩
theorem jY{ns:List Int}{af:List Value}(r:Vals (ns.map V.int) af){j:Nat}(h:j<af.length):∃t,af[j]=.int (ns.getD j 0) t:=by
 have hl:=r.length;rw[Ya] at hl;have hj:j<ns.length:=by omega
 obtain⟨u,hu,t,rfl⟩:=r.get (by rw[Yj,Ys hj];rfl)
 grind
def pw(K:ae)(neg:Bool):R2:=λx y H Q=>∃(p q:Addr) (ns ms:List Int),x=.ref p/\y=.ref q/\ai K H p (ns.map V.int)/\ai K H q (ms.map V.int)/\Q (.bl (if neg=true then !decide (ns=ms) else decide (ns=ms))) H
inductive Bx(K:ae)(neg:Bool)(x:V)(y:V)(H:Hp)(Q:VK):Prop
 |mk (p q:Addr) (ns ms:List Int) (aP:x=.ref p) (aQ:y=.ref q) (bc:aq K H p (ns.map V.int)) (bN:aq K H q (ms.map V.int)) (cw:Q (.bl (if neg=true then !decide (ns=ms) else decide (ns=ms))) H):Bx K neg x y H Q
def CP(K:ae)(neg:Bool):R2:=λx y H Q=>Bx K neg x y H Q
theorem La(hu:X.A.units<cLine):bE X (compareOp .Eq) (pw X.K false):=by
 rintro pins s σ H x y v u Q I rx ry ⟨p,q,ns,ms,rfl,rfl,h1,h2,k⟩;cases rx;cases ry;obtain⟨af,r1,p1,z1⟩:=I.list h1;obtain⟨h_,r2,p2,z2⟩:=I.list h2;have l1:=r1.length;have l2:=r2.length;rw[Ya] at l1 l2;by_cases hl:ns.length=ms.length
 ·refine SeqAt.eq_listAt (e:=λj=>ns.getD j 0==ms.getD j 0) p1.isList p2.isList (by simp;omega) hu (λj h1 h2=>?_) (bj I k ?_)
  ·obtain⟨t,e1⟩:=jY r1 (by simpa using h1);obtain⟨t',e2⟩:=jY r2 (by simpa using h2);have mS:af.toArray[j]=.int (ns.getD j 0) t:=by simpa using e1
   have mU:h_.toArray[j]=.int (ms.getD j 0) t':=by simpa using e2
   rw[mS,mU];exact SeqAt.EqAt.int_int _ _ _ _
  ·rw[if_neg Yg,Yf,←l1,rm hl]
 ·refine SeqAt.eq_list_lengthsAt p1.isList p2.isList (by simp;omega) hu (bj I k ?_)
  grind
theorem By(hu:X.A.units<cLine):bE X (compareOp .NotEq) (pw X.K true):=by
 rintro pins s σ H x y v u Q I rx ry ⟨p,q,ns,ms,rfl,rfl,h1,h2,k⟩;cases rx;cases ry;obtain⟨af,r1,p1,z1⟩:=I.list h1;obtain⟨h_,r2,p2,z2⟩:=I.list h2;have l1:=r1.length;have l2:=r2.length;rw[Ya] at l1 l2;by_cases hl:ns.length=ms.length
 ·refine SeqAt.RcNeAt.lists (e:=λj=>ns.getD j 0==ms.getD j 0) p1.isList p2.isList (by simp;omega) hu (λj h1 h2=>?_) _ _ _ _ (bj I k ?_)
  ·obtain⟨t,e1⟩:=jY r1 (by simpa using h1);obtain⟨t',e2⟩:=jY r2 (by simpa using h2);have mS:af.toArray[j]=.int (ns.getD j 0) t:=by simpa using e1
   have mU:h_.toArray[j]=.int (ms.getD j 0) t':=by simpa using e2
   rw[mS,mU];exact SeqAt.EqAt.int_int _ _ _ _
  ·rw[if_pos rfl,Yf,←l1,rm hl]
 ·refine SeqAt.RcNeAt.lists_lengths p1.isList p2.isList (by simp;omega) hu _ _ _ _ (bj I k ?_)
  grind
theorem oh(M:St->Hp->Prop)(h1:∀nx:St->Hp->Prop,(∀σ H,M σ H->nx σ H)->t {D with nx:=nx} σ H)(h2:∀σ H,M σ H->u D σ H):o_ t u D σ H:=h1 _ h2
theorem eF(hg:Gl X x)(hm:X.mg x=none)(hv:bootBuiltins x=some (.type T))(hn:x≠"__name__":=by decide)(hd:(x==("__debug__":Str))=false:=by decide):PE X (.Name x pos) (tC (.ty T)):=JQ hg hm hv rfl hn hd
end
def HasFn(P:Program)(w:World)(K:ae)(mg:aF)(base:Heap)(k:Nat)(x:Str)(ps:List Str)(sp:Sp):Prop:=
 ∃f fd,aG P w K mg base aR k f fd ps sp/\Binds K fd ps []/\keepIn K (.ref f)=true/\mg x=some (.ref f)
section
variable {P:Program}{w:World}{K:ae}{mg:aF}{base:Heap}{X:Cx}{k j:Nat}{sp:Sp}{x:Str}{ps:List Str}
theorem mf(h:HasFn X.prog X.w X.K X.mg X.base k x ps sp)(hr:aV j X.A)(hj:k<=j)(hg:Gl X x)(ha:PA X (e::es) t)
  (bx:(x==("__debug__":Str))=false:=by decide)(he:cR X e es:=by rfl)(bt:cX X pos es:=by rfl):
  PE X (.Call (.Name x p) (e::es) [] pos) (hU sp [] E0 t):=by
 obtain⟨f,fd,F,b,kp,m⟩:=h;exact JT F (hr.mono hj) hg m kp b .nil me ha bx he bt
theorem a_(h:H p=none)(o:HO):aj H (upd H p o):=λb u q=>by rw[ak (bg q h)];exact q
theorem aj.cm(e:aj H H')(h:aq K H a xs):aq K H' a xs:=by
 rcases h with(h|⟨o,h⟩)|h;·exact .inl (.inl (e _ _ h))
 ·exact .inl (.inr ⟨o,e _ _ h⟩)
 ·exact .inr h
theorem Jl(h:X.K=K):dt X (pe K):=h▸t8
theorem JZ(h:X.K=K):dt X (pf K):=h▸Bu
theorem J0(h:X.K=K):bC X (.builtin "isinstance") (pq K):=h▸FH
theorem M7(h:X.K=K):bC X (.builtin "len") (mn K):=h▸GG
theorem d7(h:Q true H):kE σ H Q:=h
theorem bh(h:n σ H):BZ ⟨n,rt,bk,ct⟩ σ H:=h
theorem Lb(x:Int)(h0:0<m)(h1:m<=2^62):-(2^64)<x % m/\x % m<2^64:=by
 have a:=We x (Jg h0);have b:=Wa x h0;omega
theorem yX:∀(l:List α) (k:Nat) (h:k<l.length),l.Perm (l[k]::l.eraseIdx k)
 |[],k,h=>absurd h (Nat.not_lt_zero k)
 |a::r,0,_=>List.Perm.refl _
 |a::r,k+1,h=>(List.Perm.cons a (yX r k (Nat.lt_of_succ_lt_succ h))).trans (List.Perm.swap _ _ _)
theorem zJ(f:α->β):∀(l:List α) (k:Nat),(l.map f).eraseIdx k=(l.eraseIdx k).map f
 |[],_=>rfl
 |_::_,0=>rfl
 |a::r,k+1=>by
  show f a::(r.map f).eraseIdx k=f a::(r.eraseIdx k).map f;rw[zJ f r k]
theorem uI{n:Nat}{i:Int}(h0:0<=i)(h1:i<n):gM n i=some i.toNat:=by
 unfold gM
 grind
theorem ke{ns:List Int}{i:Int}(h0:0<=i)(h1:i<ns.length):d8 (ns.map V.int) i=some (.int (ns.getD i.toNat 0)):=by
 have e:i=((i.toNat:Nat):Int):=by omega
 rw[e];refine bZ ?_
 grind
theorem iN{ns:List Int}{i:Nat}{y:V}(h:(ns.map V.int)[i]?=some y):∃z,y=.int z/\ns[i]?=some z:=by
 rw[Yj] at h;cases e:ns[i]? with
 |none=>grind
 |some z=>grind
theorem z_(ns:List Int)(z:Int):ns.map V.int++[V.int z]=(ns++[z]).map V.int:=by simp
theorem Aa(ns:List Int)(lo hi:Option Int):∃ms:List Int,i0 (ns.map V.int) lo hi=ms.map V.int:=by
 refine⟨(ns.drop (HT.aM ns.length 0 lo)).take (HT.aM ns.length ns.length hi-HT.aM ns.length 0 lo),?_⟩;unfold i0;simp_all
end
theorem Bz:bootBuiltins "abs"=some (.builtin "abs"):=by decide+kernel
theorem Lc:bootBuiltins "any"=some (.builtin "any"):=by decide+kernel
theorem oA:bootBuiltins "all"=some (.builtin "all"):=by decide+kernel
theorem kg:bootBuiltins "len"=some (.builtin "len"):=by decide+kernel
theorem Ld:bootBuiltins "min"=some (.builtin "min"):=by decide+kernel
theorem zK:bootBuiltins "sorted"=some (.builtin "sorted"):=by decide+kernel
theorem yt:bootBuiltins "isinstance"=some (.builtin "isinstance"):=by decide+kernel
theorem jZ:bootBuiltins "list"=some (.type "list"):=by decide+kernel
theorem ft:bootBuiltins "tuple"=some (.type "tuple"):=by decide+kernel
theorem nY:bootBuiltins "range"=some (.type "range"):=by decide+kernel
theorem oi:bootBuiltins "bool"=some (.type "bool"):=by decide+kernel
theorem oB:bootBuiltins "int"=some (.type "int"):=by decide+kernel
theorem oC:bootBuiltins "str"=some (.type "str"):=by decide+kernel
def Bd(d p:Int):Prop:=0<=d/\d<p
inductive Ab(K:ae)(vs:List V)(H:Hp)(Q:VK):Prop
 |mk (a:Addr) (ns:List Int) (k:Int) (aP:vs=[.ref a,.int k]) (aQ:ai K H a (ns.map V.int)) (bc:0<=k) (bN:∀c:Int,Q (.int c) H):Ab K vs H Q
def uJ(K:ae):Sp:=λvs H Q _=>Ab K vs H Q
inductive zL(K:ae)(vs:List V)(H:Hp)(Q:VK):Prop
 |mk (c:Int) (a:Addr) (ps:List Int) (aP:vs=[.int c,.ref a]) (aQ:ai K H a (ps.map V.int)) (bc:(∀p∈ps,0<p/\p<1073741824)) (bN:ps.length<=60) (cw:∀(l:Addr) (ds:List Int) (H':Hp),H l=none->aj H H'->H' l=some (.lst (ds.map V.int))->Paired Bd ds ps->Q (.ref l) H'):zL K vs H Q
def oj(K:ae):Sp:=λvs H Q _=>zL K vs H Q
inductive Ac(vs:List V)(H:Hp)(Q:VK):Prop
 |mk (c:Int) (n:Nat) (aP:vs=[.int c,.int (n:Int)]) (aQ:n<=60) (bc:∀(t:Addr) (ns:List Int) (H':Hp),H t=none->aj H H'->H' t=some (.tup (ns.map V.int))->ns.Perm (bD n)->Q (.ref t) H'):Ac vs H Q
def uK:Sp:=λvs H Q _=>Ac vs H Q
theorem AS(ho:PE X o to)(hi:PE X i ti)(hs:vz X t)(he:PE X e te)
  (h1:swapsWithSole [.Subscript o i tp] e pos.line X.env=pure false:=by rfl)(h2:swappedStores [.Subscript o i tp] e X.env=pure none:=by rfl)
  (h3:(assignEach [.Subscript o i tp] X.env).map (·.2)=[assign (.Subscript o i tp) X.env]:=by rfl)
  (ha:∀v,assign (.Subscript o i tp) X.env v=(do
   let ov←holding [v] (eval o X.env);let iv←holding [v,ov] (eval i X.env)
   standAt tp
   holding [v,ov,iv] (setItem ov iv v)
   release [v,ov,iv] []):=by intro _;rfl):PS X (.Assign [.Subscript o i tp] e pos) (iX te (Cv to ti t)):=uE he (KU ho hi hs ha) h1 h2 h3
def bQ(h:Heap)(a C:Addr)(d:Option Addr)(vs:Array Value):Prop:=∃oe:Obj,h.get? a=some oe/\oe.cls=.ref C/\oe.dict=d/\oe.data=.fields vs/\1<vs.size
def xo(a C:Addr)(d:Option Addr):HO:=.ext λh=>∃vs,bQ h a C d vs
def N0(vs:Array Value):Prop:=vs[1]?=some Value.none/\vs[2]?=some Value.none/\vs.size=6
def xn(a C:Addr)(d:Option Addr):HO:=.ext λh=>∃vs,bQ h a C d vs/\N0 vs
theorem bQ.keep{h1 h2:Heap}{a C:Addr}{d:Option Addr}{vs:Array Value}(x:bQ h1 a C d vs)(k:∀o,h1.get? a=some o->h2.get? a=some o):bQ h2 a C d vs:=by
 obtain⟨oe,e,r⟩:=x;exact⟨oe,k _ e,r⟩
theorem oQ{P:Program}{w:World}{H:Hp}{h:Heap}{a C:Addr}{d:Option Addr}{vs:Array Value}(x:bQ h a C d vs):bo P w H h a (xo a C d):=
 ⟨⟨vs,x⟩,let⟨oe,e,_⟩:=x;⟨oe,e⟩,λ_ _ ⟨ws,y⟩ k=>⟨ws,y.keep k⟩⟩
theorem oR{P:Program}{w:World}{H:Hp}{h:Heap}{a C:Addr}{d:Option Addr}{vs:Array Value}(x:bQ h a C d vs)(z:N0 vs):bo P w H h a (xn a C d):=
 ⟨⟨vs,x,z⟩,let⟨oe,e,_⟩:=x;⟨oe,e⟩,λ_ _ ⟨ws,y,q⟩ k=>⟨ws,y.keep k,q⟩⟩
theorem BA{P:Program}{w:World}{H:Hp}{h:Heap}{a C:Addr}{d:Option Addr}(ok:bw P w H h)(e:H a=some (xo a C d)):∃vs,bQ h a C d vs:=(ok a _ e).1
theorem lS{P:Program}{w:World}{H:Hp}{h:Heap}{a C:Addr}{d:Option Addr}(ok:bw P w H h)(e:H a=some (xn a C d)):∃vs,bQ h a C d vs/\N0 vs:=(ok a _ e).1
def kU(lo:Nat)(H:Hp)(h:Heap)(vs:Array Value):Prop:=
 vs[1]?=some Value.none\/∃T oT ts,vs[1]?=some (Value.ref T)/\lo<=T/\H T=none/\h.get? T=some oT/\oT.data=.fields ts/\ts[3]?=some Value.none
def cz(b:Bool)(P:Program)(w:World):dP:=λouter H s E e s'=>∃(a C d:Addr) (H':Hp) (vs:Array Value),e=.ref a/\s.heap.objs.size<=a/\s'.os=s.os/\AllBare s'.gens/\Un (aO outer) [] H H' s.heap s'.heap/\bw P w H' s'.heap/\
 H' a=some (xo a C (some d))/\bQ s'.heap a C (some d) vs/\(kU s.heap.objs.size H' s'.heap vs/\(b=true->vs[2]?=some Value.none))/\E (.ref C) (some d) H'
abbrev gN:=cz true
abbrev Qu:=cz false
section
variable {M:Model}{A:Around}{Er:aC}{s:Shared}
theorem zM{base:Heap}{env:Env}{outer:List Env}{L e:Addr}{oe:Obj}{vs:Array Value}{head:Value}{b0:Bool}{Q:Unit->Shared->Prop}
  (fr:A.frames=some (env::outer))(gC:s.heap.FunFrames base (env::outer))(hL:env.frame=some L)(at_:s.heap.get? e=some oe)(dat:oe.data=.fields vs)(sz:1<vs.size)
  (k:∀h' T ts,(∀b o,b≠e->b∉aO (env::outer)->s.heap.get? b=some o->h'.get? b=some o)->(∀b o,b∈aO (env::outer)->s.heap.get? b=some o->∃sl,h'.get? b=some {o with slots:=sl})->
   h'.get? e=some {oe with data:=.fields (vs.setIfInBounds 1 (.ref T))}->s.heap.objs.size<=T->T≠e->h'.get? T=some {cls:=.type "traceback",dict:=none,data:=.fields ts}->ts[3]?=some Value.none->Q () {s with heap:=h'}):
  wpAny M A (do let fo←frameOf env;let pl←entryPlaceOf L b0;let en←EntryCells.newEntry head fo .none (rawInt L) .none pl;setField (.ref e) 1 en) (λ_ s2=>wpAny M A (setFlight (.ref e) none) Q Er s2) Er s:=by
 have out:e∉aO (env::outer):=λz=>by
  obtain⟨_,o,q,nf⟩:=gC.mem z;rw[at_] at q;cases q;exact nf vs dat
 refine wpAny_bind (wpAny_frameOf_fun fr gC hL λh1 so=>wpAny_bind (wpAny_entryPlaceOf λpl ip=>?_));unfold EntryCells.newEntry newFields;refine wpAny_bind (wpAny_newObj_type ?_ (ip.sizeOk5 _ _ _ _ _));generalize v5:([head,Value.ref L,Value.none,rawInt L,Value.none]++(if pl.isEmpty=true then List.replicate 6 Value.none else pl)).toArray=fP;have l3:3<fP.size:=by
  rw[←v5,Yf,Wg];simp only[Yy,Jh];omega
 have e1:h1.get? e=some oe:=(so.2.1 e out).trans at_;have lt:e<h1.objs.size:=Yd e1;have e2:=Yb {cls:=.type "traceback",dict:=none,data:=.fields fP} e1;refine wpAny_setField e2 dat sz ?_;have d3:=Obj.data_mapFields dat (·.setIfInBounds 1 (Value.ref h1.objs.size));have e3:=Yu (Obj.mapFields (·.setIfInBounds 1 (Value.ref h1.objs.size))) e2 (Obj.isFreed_of_fields d3);have t3:=(Yi (h1.push {cls:=.type "traceback",dict:=none,data:=.fields fP}) (Obj.mapFields (·.setIfInBounds 1 (Value.ref h1.objs.size))) (Yh lt)).trans (Ye h1 rfl);unfold setFlight;refine wpAny_bind (wpAny_field e3 d3 (x:=.ref h1.objs.size) (by simp[sz]) ?_);rw[if_pos (by simp)];refine wpAny_setField t3 rfl l3 (k _ h1.objs.size (fP.setIfInBounds 3 Value.none) ?_ ?_ ?_ (Jb so.1.symm) (Wp lt) ?_ (by simp[l3]))
 ·intro b o hb hf hg;have g1:h1.get? b=some o:=(so.2.1 b hf).trans hg;rw[Yi _ _ (Wp (Yd g1)),Yi _ _ (Ne.symm hb)];exact Yb _ g1
 ·intro b o hf hg;obtain⟨sl,g1⟩:=so.2.2 b o hg;have hb:b≠e:=λz=>out (z▸hf);refine⟨sl,?_⟩;rw[Yi _ _ (Wp (Yd g1)),Yi _ _ (Ne.symm hb)];exact Yb _ g1
 ·rw[Yi _ _ (Wp lt),e3];obtain⟨c,dd,da,sl⟩:=oe;cases dat;rfl
 ·exact Yu _ t3 (Obj.isFreed_of_fields (Obj.data_mapFields rfl _))
end
section
variable {P:Program}{w:World}{A:Around}{Er:aC}
theorem t_{b:Bool}{base:Heap}{env:Env}{outer:List Env}{L:Addr}{H1:Hp}{s1 s':Shared}{E:XK}{e:Value}{Q:Unit->Shared->Prop}
  (fr:A.frames=some (env::outer))(gC:s1.heap.FunFrames base (env::outer))(free:∀b∈aO (env::outer),H1 b=none)(hL:env.frame=some L)(cx:cz b P w (env::outer) H1 s1 E e s')
  (k:∀s3,cz b P w (env::outer) H1 s1 E e s3->Q () s3):
  wpAny (model P w) A (noteFrame e env) (λ_ s2=>wpAny (model P w) A (setFlight e none) Q Er s2) Er s':=by
 obtain⟨a,C,d,H',vs,rfl,lo,os,bare,un,ah,ha,xr,⟨fl,fz⟩,q⟩:=cx;obtain⟨oe,at_,cls,pX,dat,sz⟩:=xr;have nx:∀b:Addr,b∉([]:List Addr):=λb z=>absurd z (by simp);have fun2:s'.heap.FunFrames base (env::outer):=by
  have all:∀l:List Env,(∀b∈aO l,b∈aO (env::outer))->s1.heap.FunFrames base l->s'.heap.FunFrames base l:=by
   intro l;induction l with
   |nil=>exact λ_ _=>trivial
   |cons x r ih=>
    rintro hs ⟨kd,⟨L',o,f',n',g',nf⟩,rest⟩;have mem:L'∈aO (x::r):=by
     unfold aO;rw[Wl,f'];exact Y2
    obtain⟨sl,g2⟩:=un.slot L' o g' (free L' (hs _ mem)) (hs _ mem) (nx _);refine⟨kd,⟨L',_,f',n',g2,nf⟩,ih (λb hb=>hs b ?_) rest⟩;unfold aO at hb⊢;rw[Wl,f'];exact Yw _ hb
  exact all _ (λ_ z=>z) gC
 have CQ:s1.heap.get? a=none:=Heap.get?_none_of_le lo;have Qv:∀b∈aO (env::outer),∃o,s'.heap.get? b=some o/\∀ws,o.data≠.fields ws:=λb hb=>(fun2.mem hb).2;have DI:∀b∈aO (env::outer),H' b=none:=λb hb=>by
  obtain⟨_,o,g',_⟩:=gC.mem hb;exact un.free b o g' (free b hb) (nx _)
 have Us:∀b∈aO (env::outer),b<s1.heap.objs.size:=λb hb=>let⟨_,o,g',_⟩:=gC.mem hb;Yd g'
 --MF is wanted of any Ug end
 have fin:∀(h':Heap) (T:Addr) (ts:Array Value),(∀b o,b≠a->b∉aO (env::outer)->s1.heap.objs.size<=b\/H' b≠none\/s'.heap.get? b=some o->s'.heap.get? b=some o->(H' b≠none\/b<s1.heap.objs.size)->h'.get? b=some o)->
   (∀b o,b∈aO (env::outer)->s'.heap.get? b=some o->∃sl,h'.get? b=some {o with slots:=sl})->h'.get? a=some {oe with data:=.fields (vs.setIfInBounds 1 (.ref T))}->
   s'.heap.objs.size<=T->T≠a->h'.get? T=some {cls:=.type "traceback",dict:=none,data:=.fields ts}->ts[3]?=some Value.none->cz b P w (env::outer) H1 s1 E (.ref a) {s' with heap:=h'}:=by
  intro h' T ts kp sl ea lT neT eT t3;have pY:∀b o,b≠a->b∉aO (env::outer)->s'.heap.get? b=some o->(H' b≠none\/b<s1.heap.objs.size)->h'.get? b=some o:=λb o h1 h2 h3 h4=>kp b o h1 h2 (.inr (.inr h3)) h3 h4;have v7:s1.heap.objs.size<=s'.heap.objs.size:=Yn lo (Wo (Yd at_));have nT:H' T=none:=ah.fresh lT;have DJ:bQ h' a C (some d) (vs.setIfInBounds 1 (.ref T)):=⟨_,ea,cls,pX,rfl,by rw[Ym];exact sz⟩;have vH:bw P w H' h':=by
   intro b o hb;by_cases e1:b=a
   ·subst e1;rw[ha] at hb;cases hb;exact oQ DJ
   ·have nf:b∉aO (env::outer):=λz=>by rw[DI b z] at hb;cases hb
    have own:∀c,H' c=some (.own b)->c≠a:=λc hc z=>by rw[z,ha] at hc;cases hc
    refine(ah b o hb).eH (λc u hc g=>?_) (λc hc=>hc) (λc xs hc=>hc);rcases hc with rfl|hc;·exact pY _ u e1 nf g (.inl (by rw[hb];simp))
    ·exact pY c u (own c hc) (λz=>by rw[DI c z] at hc;cases hc) g (.inl (by rw[hc];simp))
  refine⟨a,C,d,H',_,rfl,lo,os,bare,⟨λb o g' n' f' x'=>?_,λb o g' n' f' x'=>?_,un.free,λb o g' x'=>?_,un.cN,un.cH,un.cO⟩,vH,ha,DJ,⟨.inr ⟨T,_,ts,by simp[sz],Yn v7 lT,nT,eT,rfl,t3⟩,λz=>by rw[Yp (by decide)];exact fz z⟩,q⟩
  ·have g2:=un.keep b o g' n' f' x';exact pY b o (λz=>by rw[z,CQ] at g';cases g') f' g2 (.inr (Yd g'))
  ·obtain⟨s0,g2⟩:=un.slot b o g' n' f' x';obtain⟨s2,g3⟩:=sl b _ f' g2;exact⟨s2,g3⟩
  ·obtain⟨o',g2⟩:=un.there b o g' x';have hb:b≠a:=λz=>by rw[z,CQ] at g';cases g'
   by_cases f':b∈aO (env::outer)
   ·obtain⟨s2,g3⟩:=sl b _ f' g2;exact⟨_,g3⟩
   ·exact⟨o',pY b o' hb f' g2 (.inr (Yd g'))⟩
 have hE:(env.frame=some L):=hL;unfold noteFrame;simp only[hE];refine wpAny_bind ?_;rcases fl with z|⟨T0,oT,fP,z,lT,v8,g0,d0,t0⟩
 ·refine wpAny_field at_ dat z ?_;rw[if_neg (by decide)];refine zM fr fun2 hL at_ dat sz λh' T ts k1 k2 k3 k4 k5 k6 k7=>k _ (fin h' T ts (λb o h1 h2 _ h3 _=>k1 b o h1 h2 h3) k2 k3 k4 k5 k6 k7)
 ·refine wpAny_field at_ dat z ?_;rw[if_pos (by simp)];have Qw:T0≠a:=λy=>by rw[y,ha] at v8;cases v8
  refine wpAny_bind (wpAny_field g0 d0 t0 ?_);rw[if_neg (by simp[rawInt])];refine wpAny_bind (wpAny_setField g0 d0 (Y6.mp t0).1 ?_);have cA:∀b,b≠T0->(s'.heap.update T0 (Obj.mapFields (·.setIfInBounds 3 Value.none))).get? b=s'.heap.get? b:=λb hb=>Yi _ _ (Ne.symm hb);have fT:T0∉aO (env::outer):=λy=>by
   obtain⟨o,g',nf⟩:=Qv T0 y;rw[g0] at g';cases g';exact nf _ d0
  have Qx:(s'.heap.update T0 (Obj.mapFields (·.setIfInBounds 3 Value.none))).objs.size=s'.heap.objs.size:=Heap.size_after_update ..;refine zM (s:={s' with heap:=s'.heap.update T0 (Obj.mapFields (·.setIfInBounds 3 Value.none))}) fr (fun2.of_keeps λb o g' nf=>⟨o,(cA b λy=>by rw[y,g0] at g';cases g';exact nf _ d0).trans g',rfl⟩) hL ((cA a (Ne.symm Qw)).trans at_) dat sz
   λh' T ts k1 k2 k3 k4 k5 k6 k7=>k _ (fin h' T ts (λb o h1 h2 _ h3 h4=>?_) (λb o h1 h2=>?_) k3 (by rw[←Qx];exact k4) k5 k6 k7)
  ·have nb:b≠T0:=λy=>by
    subst y;rcases h4 with h4|h4;·exact h4 v8
    ·exact absurd lT (Nat.not_le.mpr h4)
   exact k1 b o h1 h2 ((cA b nb).trans h3)
  ·exact k2 b o h1 ((cA b λy=>fT (y▸h1)).trans h2)
end
theorem kU.mono{lo DK:Nat}{H:Hp}{h:Heap}{vs:Array Value}(f:kU lo H h vs)(l:DK<=lo):kU DK H h vs:=by
 rcases f with z|⟨T,oT,ts,h1,h2,r⟩;·exact .inl z
 ·exact .inr ⟨T,oT,ts,h1,Yn l h2,r⟩
def iQ(b:Bool)(X:Cx)(E:St->XK):Prop:=∀(pins:ax) (σ:St) (H:Hp) (s:Shared) (e:Value) (s':Shared),Inv X pins σ H s->cz b X.prog X.w X.stack H s (E σ) e s'->X.xe e s'
abbrev ky:=iQ true
theorem Inv.oE{b:Bool}{X:Cx}{pins:ax}{σ:St}{H1:Hp}{s1 s3:Shared}{E:XK}{e:Value}(I:Inv X pins σ H1 s1)(cx:cz b X.prog X.w X.stack H1 s1 E e s3):
  ∃(a C d:Addr) (H':Hp) (vs:Array Value),e=.ref a/\s1.heap.objs.size<=a/\Inv X pins σ H' s3/\H' a=some (xo a C (some d))/\bQ s3.heap a C (some d) vs/\(kU s1.heap.objs.size H' s3.heap vs/\(b=true->vs[2]?=some Value.none))/\E (.ref C) (some d) H':=by
 obtain⟨a,C,d,H',vs,rfl,lo,os,bare,un,ah,ha,xr,fl,q⟩:=cx;exact⟨a,C,d,H',vs,rfl,lo,I.lY (ch:=[]) os un ah bare (λb z=>absurd z (by simp)),ha,xr,fl,q⟩
section
variable {P:Program}{w:World}{K:ae}{mg:aF}{base:Heap}{N:List Str}{qual:Str}{scope:Scope}{f:Addr}{cd:Value}{A:Around}{outer:List Env}{s:Shared}{H:Hp}{E:XK}
theorem hV{b c:Bool}(z:(b||!c)=true:=by decide):iQ b (cV (cz c P w) P w K mg base N qual scope f cd A outer s H E) (λ_=>E):=by
 intro pins σ H1 s1 e s' I cx;show wpAny (model P w) _ (leaving _ e) _ _ s';unfold leaving;refine wpAny_bind (t_ (base:=base) I.ok.frames I.stack I.jX rfl cx λs3 c3=>?_);obtain⟨a,C,d,H',vs,rfl,lo,J,ha,xr,fl,q⟩:=I.oE c3;have sz:s.heap.objs.size<=s1.heap.objs.size:=I.sz;exact⟨a,C,d,H',vs,rfl,Yn sz lo,J.os,J.bare,J.base,J.ah,ha,xr,⟨fl.1.mono sz,λy=>fl.2 (by subst y;cases b<;>first|rfl|cases z)⟩,q⟩
theorem mw{b:Bool}:PassesOwn (model P w) (cV (cz b P w) P w K mg base N qual scope f cd A outer s H E).A (cV (cz b P w) P w K mg base N qual scope f cd A outer s H E).env (cV (cz b P w) P w K mg base N qual scope f cd A outer s H E).xe:=
 λe s' h=>PassesOwn.leaving (Q₁:=λe ja=>cz b P w outer H s E e ja) e s' h
end
def Le(sp:Sp)(bq:List V)(E:St->XK)(t:TA):TE:=λσ H Q=>t σ H λvs H1=>sp (vs++bq) H1 Q (E σ)
def oS(b:Bool)(P:Program)(w:World)(K:ae)(mg:aF)(base:Heap)(k:Nat)(x:Str)(ps:List Str)(sp:Sp):Prop:=
 ∃f fd,aG P w K mg base (cz b P w) k f fd ps sp/\Binds K fd ps []/\keepIn K (.ref f)=true/\mg x=some (.ref f)
abbrev kF:=oS true
section
variable {X:Cx}{k j:Nat}{f C:Addr}{fd:FuncData}{ps:List Str}{sp:Sp}{bq:List V}{ds:List Value}{E:St->XK}{x m:Str}{p pos apos:Pos}{e o:Expr}{es:List Expr}{ta:TE}{t:TA}
theorem J1{b:Bool}{pins:ax}{σ:St}{H:Hp}{s:Shared}{Q:VK}{us:List Value}{vs:List V}(F:aG X.prog X.w X.K X.mg X.base (cz b X.prog X.w) k f fd ps sp)(hr:aV k X.A)(hb:Binds X.K fd ps ds)(hd:Vals bq ds)(hx:iQ b X E)
  (I:Inv X pins σ H s)(r:Vals vs us)(h:sp (vs++bq) H Q (E σ)):wpAny X.md X.A (call (.ref f) us) (EP X pins σ Q) X.xe s:=by
 have r2:=r.append hd;have hl:(us++ds).length=ps.length:=by rw[←r2.length];exact F.len _ _ _ _ h
 refine wpAny_call (codeAny_mono (F.run X.A X.stack s H ⟨us,[]⟩ (us++ds) (vs++bq) Q (E σ) hr I.iZ (hb s us I.aI hl) r2 h) λr s' hq=>?_);cases r with
 |error e=>exact hx pins σ H s e s' I hq
 |ok fl=>cases fl<;>first|exact I.after hq|exact False.elim hq
theorem oF{b:Bool}(h:oS b X.prog X.w X.K X.mg X.base k x ps sp)(hr:aV j X.A)(hj:k<=j)(hx:iQ b X E)(hg:Gl X x)(ha:PA X (e::es) t)
  (bx:(x==("__debug__":Str))=false:=by decide)(he:cR X e es:=by rfl)(bt:cX X pos es:=by rfl):
  PE X (.Call (.Name x p) (e::es) [] pos) (Le sp [] E t):=by
 obtain⟨f,fd,F,b,kp,hm⟩:=h;intro pins s σ H Q I h;exact wpAny_Call_Name_kw (eC I hg hm (callWith_K I.ok.mod.eJ kp (ay (ha pos pins s σ H _ I h) λus s1 ⟨vs,H1,I1,r,q⟩=>⟨I1.aI,J1 F (hr.mono hj) b .nil hx I1 r q⟩) he bt) bx)
def BB(C:Addr)(sp:Sp)(E:St->XK)(t:TA):TE:=λσ H Q=>t σ H λvs H1=>∀x dx,H1 x=none->H1 dx=none->dx≠x->
 sp (.ref x::(vs++[])) (upd (upd H1 dx (.own x)) x (.ins C dx [])) (λv H2=>v=.ao/\Q (.ref x) H2) (E σ)
theorem Jm{b:Bool}(M:Mk X.K C f)(F:aG X.prog X.w X.K X.mg X.base (cz b X.prog X.w) k f fd ps sp)(hr:aV (k+1) X.A)(hg:Gl X x)(hm:X.mg x=some (.ref C))(hb:Binds X.K fd ps [])(hx:iQ b X E)
  (ha:PA X (e::es) t)(bx:(x==("__debug__":Str))=false:=by decide)(he:cR X e es:=by rfl)(bt:cX X pos es:=by rfl):
  PE X (.Call (.Name x p) (e::es) [] pos) (BB C sp E t):=by
 intro pins s σ H Q I h;refine wpAny_Call_Name_kw (eC I hg hm (callWith_K I.ok.mod.eJ M.kp (ay (ha pos pins s σ H _ I h) λus s1 ⟨vs,H1,I1,r,q⟩=>⟨I1.aI,?_⟩) he bt) bx);have hq:=q (s1.heap.objs.size+1) s1.heap.objs.size (I1.ah.fresh (Wj _)) (I1.ah.fresh (Yc _)) (Yh (W4 _));have I2:=Inv.made (C:=C) I1;have r2:Vals (V.ref (s1.heap.objs.size+1)::(vs++[])) (Value.ref (s1.heap.objs.size+1)::us):=.cons rfl (by rw[Yx];exact r);have hl:((Value.ref (s1.heap.objs.size+1)::us)++[]).length=ps.length:=by
  have e:=r2.length;rw[F.len _ _ _ _ hq] at e
  grind
 have pT:=hb {s1 with heap:=(s1.heap.push emptyDict).push (instObj C s1.heap.objs.size)} (Value.ref (s1.heap.objs.size+1)::us) I2.aI hl;rw[Yx] at pT;refine wpAny_call (zZ I1.aI M.makes M.init (beq_iff_eq.mp M.fn) (codeAny_mono (F.run _ X.stack _ _ ⟨Value.ref (s1.heap.objs.size+1)::us,[]⟩ (Value.ref (s1.heap.objs.size+1)::us) _ _ (E σ) (hr.make C us [])
  (I2.iZ.make C us []) pT r2 hq) λr s' cj=>?_))
 cases r with
 |error e=>exact hx pins σ _ _ e s' I2 cj
 |ok fl=>
  cases fl with
  |ret u=>
   obtain⟨v,H',I3,rv,ev,q3⟩:=I2.after cj;subst ev;exact⟨rv,⟨V.ref (s1.heap.objs.size+1),H',I3,rfl,q3⟩⟩
  |next=>exact False.elim cj
  |brk=>exact False.elim cj
  |cont=>exact False.elim cj
end
section
variable {P:Program}{w:World}{K:ae}{mg:aF}{base:Heap}
theorem aX.mV{b:Bool}{x qual:Str}{st:Stmt}{f:Addr}{fd:FuncData}{N ps:List Str}{k:Nat}{sp:Sp}(F:aX K x qual st f fd)(S:aY N ps (ar st))(len:∀vs H Q E,sp vs H Q E->vs.length=ps.length)
  (gu:∀(aD:Value) (A:Around) (outer:List Env) (s:Shared) (H:Hp) (vs:List V) (Q:VK) (E:XK),aV k (A.deeper (envOfC qual (ar st) s.heap.objs.size f aD))->sp vs H Q E->
   ∃t,cv (cV (cz b P w) P w K mg base N qual (ar st) f aD A outer s H E) (aT st) t/\t {nx:=λ_ H'=>Q .ao H',rt:=Q} (start N vs) H):aG P w K mg base (cz b P w) (k+1) f fd ps sp:=by
 obtain⟨oc,od,kV,doc,pm,an,aD,ct,cy,rfl,lk,bW⟩:=F.ex;exact uZ lk bW S len λA outer s H vs Q E hr cJ=>gu aD A outer s H vs Q E hr cJ
end
structure dI(K:ae)(C f:Addr):Prop where
 dk:∃(nm q:Str) (N:Addr) (bs bm:List Value) (sn:List Str) (sub:List Value) (ab:Bool) (col:Option Bool) (dd:Option Addr) (k0 k1 k2 k3 k5:Option Value),
  K.lookup C=some (excClassObj nm q C N bs bm true sn sub ab col dd k0 k1 k2 k3 k5 "ValueError.__new__")
 d_:PySem.W.mroIn K C (.type "ValueError")=some true
 fQ:PySem.W.mroIn K C (.type "BaseException")=some true
 dQ:PySem.W.mroIn K C (.type "AttributeError")=some false
 il:PySem.W.mroIn K C (.type "NameError")=some false
 init:PySem.W.findIn K (.ref C) "__init__"=some (some (.ref f))
 fn:isFn K (.ref f)=true
 kp:keepIn K (.ref C)=true
theorem eV{K:ae}{C:Addr}{nm q:Str}{N:Addr}{bs bm:List Value}{hd:Bool}{sn:List Str}{sub:List Value}{ab:Bool}{col:Option Bool}{dd:Option Addr}{k0 k1 k2 k3 k5:Option Value}{Qy:String}{v:Value}{b:Bool}
  (l:K.lookup C=some (excClassObj nm q C N bs bm hd sn sub ab col dd k0 k1 k2 k3 k5 Qy))(h:PySem.W.mroIn K C v=some b):(Value.ref C::bm).contains v=b:=by
 unfold PySem.W.mroIn PySem.W.clsIn at h
 grind
section
variable {prog:Program}{w:World}{A:Around}{E:aC}{h:Heap}{g:Array GenState}{d:Drawn}{t:Nat}{os:OsState}
variable {nm q:Str}{C N:Addr}{bs bm:List Value}{pz:Bool}{sn:List Str}{sub:List Value}{ab:Bool}{col:Option Bool}{dd:Option Addr}{k0 k1 k2 k3 k5:Option Value}
local macro_rules|`(tactic|walk_at "vlu")=>`(tactic|exact excBase_ValueError)
theorem Ij{M:Model}{rest:List Value}{Q:Unit->Shared->Prop}(kc:h.get? C=some (excClassObj nm q C N bs bm pz sn sub ab col dd k0 k1 k2 k3 k5 "ValueError.__new__"))(d_:(Value.ref C::bm).contains (.type "ValueError")=true)
  (z:Q () ⟨h,g,d,t,os⟩):wpAny M A (checkBuiltinCall "ValueError.__new__" ⟨.ref C::rest,[]⟩) Q E ⟨h,g,d,t,os⟩:=by
 have G:=excBase_ValueError;simp only[checkBuiltinCall,G.newKind,G.newSplit,G.newRow];repeat (first|refine wpAny_loadPart_at kc ?_|(refine wpAny_isSubtype_exc kc ?_;rw[d_])|refine wpAny_staticBase_exc kc ?_|refine wpAny_madeBy_exc kc ?_|simp only[bne_self_eq_false,if_false]|wp_step)
 exact z
theorem Jn{R:Result->Shared->Prop}{rest:List Value}(kc:h.get? C=some (excClassObj nm q C N bs bm pz sn sub ab col dd k0 k1 k2 k3 k5 "ValueError.__new__"))(d_:(Value.ref C::bm).contains (.type "ValueError")=true)
  (dQ:(Value.ref C::bm).contains (.type "AttributeError")=false)(il:(Value.ref C::bm).contains (.type "NameError")=false)
  (z:R (.ok (.ret (.ref (h.objs.size+1)))) ⟨(h.push {cls:=.type "tuple",data:=.seq rest.toArray}).push {cls:=.ref C,data:=.fields #[.ref h.objs.size,.none,.none,.none,.bool false,.none]},g,d,t,os⟩)(lim:rest.length<=sizeLine):
  codeAny (model prog w) A (.builtin "ValueError.__new__" ⟨.ref C::rest,[]⟩) R ⟨h,g,d,t,os⟩:=by
 have G:=excBase_ValueError;have ends:=G.ends;refine codeAny_builtinAt G.entry ?_;refine PySem.wpAt_bind ?_;refine PySem.wpAt_bind (PySem.wpAt_stack λp below=>PySem.wpAt_of_wpAny ?_)
 wp_walk
 refine PySem.wpAt_of_wpAny ?_;rw[G.owner];repeat (first|with_reducible refine wpAny_madeHere_exc G.canon kc ?_|with_reducible refine wpAny_loadPart_at kc ?_|(with_reducible refine wpAny_isSubtype_exc kc ?_;first|rw[d_]|rw[dQ]|rw[il])|wp_step)
 simp_all
theorem Jo{rest:List Value}{fI:Addr}{Q:Fin->Shared->Prop}(kc:h.get? C=some (excClassObj nm q C N bs bm pz sn sub ab col dd k0 k1 k2 k3 k5 "ValueError.__new__"))(d_:(Value.ref C::bm).contains (.type "ValueError")=true)
  (dQ:(Value.ref C::bm).contains (.type "AttributeError")=false)(il:(Value.ref C::bm).contains (.type "NameError")=false)
  (li:PySem.W.Looks (model prog w) h (typeLookup (.ref C) "__init__") (some (.ref fI)))(lt:PySem.W.Looks (model prog w) h (typeOf (.ref fI)) (.type "function"))
  (z:wpAny (model prog w) A (call (.ref fI) (.ref (h.objs.size+1)::rest)) (λr s'=>r=.none/\Q (.done (.ret (.ref (h.objs.size+1)))) s') E
   ⟨(h.push {cls:=.type "tuple",data:=.seq rest.toArray}).push {cls:=.ref C,data:=.fields #[.ref h.objs.size,.none,.none,.none,.bool false,.none]},g,d,t,os⟩)(lim:rest.length<=sizeLine):
  wpAny (model prog w) A (Builtin.«type.__call__» ⟨.ref C::rest,[]⟩) Q E ⟨h,g,d,t,os⟩:=by
 have G:=excBase_ValueError;repeat (first|with_reducible refine wpAny_loadPart_at kc ?_|with_reducible refine wpAny_madeBy_exc kc ?_|wp_step)
 refine codeAny_call_builtin_code (Code.quiet_builtin _ G.quiet) (Ij kc d_ (Jn kc d_ dQ il ?_ lim));show wpAny _ _ _ _ _ _;have up:∀b o,h.get? b=some o->((h.push {cls:=.type "tuple",data:=.seq rest.toArray}).push {cls:=.ref C,data:=.fields #[.ref h.objs.size,.none,.none,.none,.bool false,.none]}).get? b=some o:=
  λb o e=>Yb _ (Yb _ e)
 have Qz:=up _ _ kc;have L7:(Value.ref C::bm).contains (.ref C)=true:=by simp
 unfold isInstance;repeat (first|with_reducible refine wpAny_loadPart_at here ?_|(with_reducible refine wpAny_isSubtype_exc Qz ?_;rw[L7])|wp_step)
 refine(li.keeps up) _ _ _ _ (λ_ _ e=>e) ?_;refine wpAny_holding (wpAny_bind ?_);unfold bindSpecial;refine wpAny_bind ((lt.keeps up) _ _ _ _ (λ_ _ e=>e) ?_);rw[if_pos (by decide)];refine wpAny_pure (wpAny_bind (wpAny_mono z (λr s' hr=>?_) λ_ _ x=>x));obtain⟨rfl,hQ⟩:=hr
 wp_walk
 exact hQ
theorem Ad{rest:List Value}{fI:Addr}{Q:aC}(kc:h.get? C=some (excClassObj nm q C N bs bm pz sn sub ab col dd k0 k1 k2 k3 k5 "ValueError.__new__"))(d_:(Value.ref C::bm).contains (.type "ValueError")=true)
  (dQ:(Value.ref C::bm).contains (.type "AttributeError")=false)(il:(Value.ref C::bm).contains (.type "NameError")=false)
  (li:PySem.W.Looks (model prog w) h (typeLookup (.ref C) "__init__") (some (.ref fI)))(lt:PySem.W.Looks (model prog w) h (typeOf (.ref fI)) (.type "function"))
  (z:wpAny (model prog w) (A.under (.builtin "type.__call__" ⟨.ref C::rest,[]⟩)) (call (.ref fI) (.ref (h.objs.size+1)::rest)) (λr s'=>r=.none/\Q (.ref (h.objs.size+1)) s') E
   ⟨(h.push {cls:=.type "tuple",data:=.seq rest.toArray}).push {cls:=.ref C,data:=.fields #[.ref h.objs.size,.none,.none,.none,.bool false,.none]},g,d,t,os⟩)(lim:rest.length<=sizeLine):
  wpAny (model prog w) A (call (.ref C) rest) Q E ⟨h,g,d,t,os⟩:=by
 have f1:=tc_lookup;have f2:=tc_bind (.ref C);refine wpAny_call (codeAny_of_tree ?_);repeat (any_goals (first|assumption|with_reducible refine wpAny_loadPart_at kc ?_|wp_step))
 exact⟨rfl,codeAny_call_builtin_at (Code.quiet_builtin _ (by decide+kernel)) entry_typeCall (wpAny_check_type_call_sub kc (Jo kc d_ dQ il li lt z lim))⟩
end
end L2
namespace L2
open PySem PySem.Spec PyProof.Rows
open PySem.W (Looks InstAt looks_findIn looks_typeIn looks_clsIn looks_mroIn looks_find findObj findIn mroIn clsIn)
abbrev dJ:List Value:=[.type "ValueError",.type "Exception",.type "BaseException",.type "object"]
structure aW(K:ae)(C:Addr):Prop where
 dk:∃(nm q:Str) (N:Addr) (bs:List Value) (cs:List Addr) (sn:List Str) (sub:List Value) (ab:Bool) (col:Option Bool) (dd:Option Addr) (k0 k1 k2 k3 k5:Option Value),
  K.lookup C=some (excClassObj nm q C N bs (cs.map Value.ref++dJ) true sn sub ab col dd k0 k1 k2 k3 k5 "ValueError.__new__")
 ga:findIn K (.ref C) "__getattribute__"=some (some (.builtin "BaseException.__getattribute__"))
 gh:findIn K (.ref C) "__getattr__"=some none
 sa:findIn K (.ref C) "__setattr__"=some (some (.builtin "object.__setattr__"))
 cl:findIn K (.ref C) "__class__"=some (some (.builtin "object.__class__"))
 cg:specialIn K (.builtin "object.__class__") "__get__"=some (some (.builtin "getset_descriptor.__get__"))
 ct:takesIn K (.builtin "object.__class__")=some true
theorem oU(C:Addr)(cs:List Addr)(v:Value)(h:dJ.contains v=true):(Value.ref C::(cs.map Value.ref++dJ)).contains v=true:=by
 grind
theorem aW.mro{K:ae}{C:Addr}(x:aW K C)(v:Value)(h:dJ.contains v=true):mroIn K C v=some true:=by
 obtain⟨nm,q,N,bs,cs,sn,sub,ab,col,dd,k0,k1,k2,k3,k5,l⟩:=x.dk;unfold PySem.W.mroIn PySem.W.clsIn
 grind
theorem aW.hd{K:ae}{C:Addr}(x:aW K C):hasDictIn K C=true:=by
 obtain⟨nm,q,N,bs,cs,sn,sub,ab,col,dd,k0,k1,k2,k3,k5,l⟩:=x.dk;unfold hasDictIn PySem.W.clsIn;rw[l];rfl
theorem bQ.inst{h:Heap}{a C d:Addr}{vs:Array Value}{od:Obj}(x:bQ h a C (some d) vs)(e:h.get? d=some od):∃ox,InstAt h a ox C (some od):=by
 obtain⟨oe,e1,e2,e3,e4,_⟩:=x;refine⟨oe,e1,e2,?_,?_⟩
 ·unfold notCls;rw[e4]
 ·rw[e3];exact e
theorem bQ.L8{h:Heap}{a C:Addr}{vs:Array Value}(x:bQ h a C none vs):∃ox,InstAt h a ox C none:=by
 obtain⟨oe,e1,e2,e3,e4,_⟩:=x;refine⟨oe,e1,e2,?_,?_⟩
 ·unfold notCls;rw[e4]
 ·grind
section
variable {prog:Program}{w:World}{A:Around}{E:aC}{s:Shared}{K:ae}{x C:Addr}{ox:Obj}{od:Option Obj}{name:Str}
theorem BC{tk:Tok}{R:Result->Shared->Prop}(KX:K.In s.heap)(I:InstAt s.heap x ox C od)(X:aW K C)
  (k:wpAny (model prog w) A.in1 (Builtin.«object.__getattribute__» ⟨[.ref x,.str name tk],[]⟩) (λfin s'=>match fin with|.done f=>R (.ok f) s'|.again c'=>c'.quiet=true/\codeAny (model prog w) A c' R s') (λe s'=>R (.error e) s') s):
  codeAny (model prog w) A (.call (.builtin "BaseException.__getattribute__") ⟨[.ref x,.str name tk],[]⟩) R s:=by
 have G:=PySem.F.attr_ValueError;exact codeAny_call_builtin G.ga.plain PySem.F.entry_bexc_ga (check_slot (i:="BaseException.__getattribute__") (owner:="BaseException") (n:="__getattribute__") (by decide+kernel) (by decide+kernel) ((I.type).andThen (looks_mroIn KX (X.mro _ (by decide)))) (PySem.F.args_bexc_ga _ _) k)
theorem BD{tk:Tok}{fill expr:Bool}{Q:aC}(KX:K.In s.heap)(I:InstAt s.heap x ox C od)(X:aW K C)
  (k:codeAny (model prog w) A (.call (.builtin "BaseException.__getattribute__") ⟨[.ref x,.str name tk],[]⟩) (λr s'=>match r with|.ok (.ret v)=>handedIn v=true/\Q v s'|_=>False) s):
  wpAny (model prog w) A (getAttrBy (.ref x) (.str name tk) fill expr) Q E s:=by
 refine wpAny_holding (wpAny_bind ((I.type).here (wpAny_bind ((looks_findIn KX X.ga).here ?_))));show wpAny _ _ (if(onTheHeap (Value.ref C)&&Value.builtin "BaseException.__getattribute__"==Value.builtin "object.__getattribute__")=true then _ else getAttrByItsOwn (.ref x) (.str name tk) (.ref C) (.builtin "BaseException.__getattribute__") fill expr) _ _ _;refine wpAny_bind ((looks_findIn KX X.gh).here (wpAny_bind (wpAny_attempt (wpAny_holding ?_))));unfold callGetattribute;rw[if_neg (by cases expr<;>exact Yg)];refine wpAny_bind (wpAny_pure (wpAny_call (codeAny_mono k λr s' z=>?_)));cases r with
 |error e=>grind
 |ok f=>
  cases f with
  |ret v=>
   obtain⟨z1,z2⟩:=z;show wpAny _ _ (handedOut v) _ _ _;rw[PySem.W.handedOut_of z1];exact wpAny_pure z2
  |next=>grind
  |brk=>grind
  |cont=>grind
theorem M8{expr:Bool}{v:Value}{Q:aC}(KX:K.In s.heap)(I:InstAt s.heap x ox C od)(X:aW K C)(hf:findObj K C od name=some (.value v))(hh:handedIn v=true)(q:Q v {s with toks:=s.toks+1}):
  wpAny (model prog w) A (getAttr (.ref x) name expr) Q E s:=by
 exact wpAny_bind (wpAny_mkText (BD KX I X (BC KX I X (wpAny_bind (wpAny_pure (wpAny_bind (wpAny_pure (wpAny_bind ((I.type).at (wpAny_bind ((looks_find KX I hf).at (wpAny_pure (And.intro hh q)))))))))))))
theorem GH{od:Obj}{Q:Option Value->Shared->Prop}(KX:K.In s.heap)(I:InstAt s.heap x ox C (some od))(X:aW K C)(q:Q (some (.ref C)) {s with toks:=s.toks+1}):wpAny (model prog w) A (getAttr? (.ref x) "__class__") Q E s:=by
 exact wpAny_bind (wpAny_mkText (wpAny_bind (wpAny_attempt (BD KX I X (BC KX I X (wpAny_bind (wpAny_pure (wpAny_bind (wpAny_pure (wpAny_bind ((I.type).here (s:={s with toks:=s.toks+1}) (wpAny_bind ((looks_find KX I (PySem.W.findObj_data (by obtain⟨cd,hc,_⟩:=any_some X.hd;rw[hc];rfl) X.cl X.cg X.ct)).here (s:={s with toks:=s.toks+1}) (wpAny_bind (wpAny_holding (wpAny_call (PySem.W.class_get KX I (X.mro _ (by decide)) (wpAny_pure ⟨rfl,wpAny_pure q⟩))))))))))))))))))
theorem Jp{od:Obj}(X:aW K C):KitX K (.ref x) (.ref C) (λh=>∃ox,InstAt h x ox C (some od)) where
 ty:=λ_ _ _ ⟨_,I⟩=>I.type
 it:=λ_ _ KX _=>by
  obtain⟨nm,q,N,bs,cs,sn,sub,ab,col,dd,k0,k1,k2,k3,k5,l⟩:=X.dk;intro A' Q' E' s' k q;exact wpAny_bind (wpAny_loadPart (k _ _ (KX _ _ l)) (wpAny_pure q))
 ne:=λh tp Ut af n sl KX e=>by
  obtain⟨nm,q,N,bs,cs,sn,sub,ab,col,dd,k0,k1,k2,k3,k5,l⟩:=X.dk;refine W1.mpr λz=>?_;have z:=Value.ref.inj (beq_iff_eq.mp z);subst z;have y:=congrArg Obj.cls (Yl ((KX _ _ l).symm.trans e))
  grind
 ca:=λKX ⟨_,I⟩ k=>GH KX I X k
theorem yY(self:Value):∀cs:List Addr,refuseLoop self "__setattr__" (cs.map Value.ref++dJ)=pure ()
 |[]=>PySem.F.store_ValueError.passes self
 |c::r=>by
  show refuseLoop self "__setattr__" (.ref c::(r.map Value.ref++dJ))=pure ();rw[refuseLoop_ref];exact yY self r
theorem CS{v:Value}{Q:Unit->Shared->Prop}(KX:K.In s.heap)(I:InstAt s.heap x ox C od)(X:aW K C)(na:findIn K (.ref C) name=some none)
  (k:wpAny (model prog w) A.in1 (Builtin.ObjectAttr.storeInOwnDict (.ref x) (.ref C) (.str name s.toks) name v false) (λfin s'=>fin=PySem.Fin.done (.ret .none)/\Q () s') (λ_ _=>False) {s with toks:=s.toks+1}):
  wpAny (model prog w) A (setAttr (.ref x) name v) Q E s:=by
 have SF:=PySem.F.store_object;refine set_plain KX I X.sa ?_;have sub:Looks (model prog w) s.heap (isInstance (.ref x) (.type "object")) true:=I.type.andThen (looks_mroIn KX (X.mro _ (by decide)));refine codeAny_call_builtin SF.slot.plain SF.entry (@check_slot (model prog w) _ _ {s with toks:=s.toks+1} "object.__setattr__" "object" "__setattr__" (.ref x) [.str name s.toks,v] [] _ SF.kind SF.split sub (SF.args (.ref x) (.str name s.toks) v) ?_);obtain⟨nm,q,N,bs,cs,sn,sb,ab,col,dd,k0,k1,k2,k3,k5,l⟩:=X.dk;have hm:Looks (model prog w) s.heap (mroOf (.ref C)) (.ref C::(cs.map Value.ref++dJ)):=(looks_clsIn KX (by unfold PySem.W.clsIn;rw[l])).andThen .now;rw[osa_eq,refuse_eq];refine wpAny_bind (wpAny_bind (I.type.here (s:={s with toks:=s.toks+1}) (wpAny_bind (hm.here (s:={s with toks:=s.toks+1}) ?_))));rw[refuseLoop_ref,yY];refine wpAny_pure (wpAny_bind (I.type.here (s:={s with toks:=s.toks+1}) (wpAny_bind ((looks_findIn KX na).here (s:={s with toks:=s.toks+1}) (wpAny_bind (wpAny_pure ?_))))));refine wpAny_mono k (λfin s' z=>?_) λ_ _ z=>z.elim;obtain⟨rfl,z⟩:=z;exact z
end
def xq(d:Addr)(fs:List (Str×V)):HO:=.ext λh=>∃mA,h.Ns1 d mA/\(∀f,eG (fs.lookup f) (mA f))/\PySem.Within mA (fs.map (·.1))
theorem B7{P:Program}{w:World}{H:Hp}{h:Heap}{d:Addr}{fs:List (Str×V)}{mA:aF}(n:h.Ns1 d mA)(r:∀f,eG (fs.lookup f) (mA f))(wi:PySem.Within mA (fs.map (·.1))):bo P w H h d (xq d fs):=
 ⟨⟨mA,n,r,wi⟩,let⟨o,_,_,e,_⟩:=n;⟨o,e⟩,λ_ _ ⟨m,y,q⟩ k=>⟨m,y.at k,q⟩⟩
theorem uL{P:Program}{w:World}{H:Hp}{h:Heap}{d:Addr}{fs:List (Str×V)}(ok:bw P w H h)(e:H d=some (xq d fs)):∃mA,h.Ns1 d mA/\(∀f,eG (fs.lookup f) (mA f))/\PySem.Within mA (fs.map (·.1)):=(ok d _ e).1
theorem AU{f:Str}{y:V}{u:Value}{fs:List (Str×V)}{mA:aF}(ry:RelV y u)(r:∀g,eG (fs.lookup g) (mA g)):∀g,eG ((bO f y fs).lookup g) (if g=f then some u else mA g):=λg=>by
 rw[rg];by_cases q:g=f;·rw[if_pos q,if_pos q];exact ry
 ·grind
theorem yZ{f:Str}{y:V}{u:Value}{fs:List (Str×V)}{mA:aF}(wi:PySem.Within mA (fs.map (·.1))):PySem.Within (λg=>if g=f then some u else mA g) ((bO f y fs).map (·.1)):=λg hg=>by
 by_cases q:g=f;·rw[q];exact(lG f y fs).1
 ·refine(lG f y fs).2 g (wi g λz=>hg ?_)
  grind
section
variable {prog:Program}{w:World}{A:Around}{E:aC}{s:Shared}{K:ae}{x C:Addr}{name:Str}{nV v:Value}{b:Bool}{tk:Tok}
theorem Ik{ox:Obj}{d:Addr}{mA:aF}{ns:List Str}{Q:PySem.Fin->Shared->Prop}(KX:K.In s.heap)(X:aW K C)(hx:s.heap.get? x=some ox)(hc:ox.cls=.ref C)(hd:ox.dict=some d)(n:s.heap.Ns1 d mA)(wi:PySem.Within mA ns)(sz:ns.length<sizeLine)
  (k:∀h' mW,h'.Ns1 d (λy=>if y=name then some v else mA y)->Heap.SameBut d s.heap h'->Q (.done (.ret .none)) {s with heap:=h',toks:=mW}):
  wpAny (model prog w) A (Builtin.ObjectAttr.storeInOwnDict (.ref x) (.ref C) (.str name tk) name v b) Q E s:=by
 obtain⟨oc,QA,v9,cy⟩:=ox;subst hc hd;obtain⟨cd,bW,hh⟩:=any_some X.hd;refine wpAny_bind (wpAny_pure (wpAny_bind (wpAny_bind (wpAny_loadPart hx (wpAny_bind ((looks_clsIn KX bW).here ?_))))));rw[hh];refine wpAny_pure (wpAny_bind (wpAny_pure (wpAny_bind (wpAny_nsSet1 n λh' n2 s2=>?_))));obtain⟨oD,Dx,Dy,mJ,mK,mM⟩:=n2.count (PySem.Within.cons name v wi);exact wpAny_bind (wpAny_lookBehind mJ (by rw[mK];exact pastItsLine_dict (Yn mM (by rw[Yy];omega))) (wpAny_pure (k _ _ n2 s2)))
theorem Il{ox:Obj}{vs:Array Value}{Q:PySem.Fin->Shared->Prop}(KX:K.In s.heap)(X:aW K C)(hx:s.heap.get? x=some ox)(hc:ox.cls=.ref C)(hd:ox.dict=none)(hf:ox.data=.fields vs)
  (k:∀h' mW,h'.Ns1 s.heap.objs.size (λy=>if y=name then some v else none)->h'.get? x=some {ox with dict:=some s.heap.objs.size}->(∀c o,c≠x->s.heap.get? c=some o->h'.get? c=some o)->Q (.done (.ret .none)) {s with heap:=h',toks:=mW}):
  wpAny (model prog w) A (Builtin.ObjectAttr.storeInOwnDict (.ref x) (.ref C) (.str name tk) name v b) Q E s:=by
 obtain⟨oc,QA,v9,cy⟩:=ox;subst hc hd hf;obtain⟨cd,bW,hh⟩:=any_some X.hd;refine wpAny_bind (wpAny_pure (wpAny_bind (wpAny_bind (wpAny_loadPart hx (wpAny_bind ((looks_clsIn KX bW).here ?_))))));rw[hh];have xs:=Yh (Yd hx);have DL:(s.heap.push {cls:=.type "dict",data:=.dict #[]}).get? x=some ⟨.ref C,none,.fields vs,cy⟩:=Yb _ hx;refine wpAny_bind (wpAny_alloc' (wpAny_bind (wpAny_update' DL (wpAny_pure ?_))));have gd:((s.heap.push {cls:=.type "dict",data:=.dict #[]}).update x λo=>{o with dict:=some s.heap.objs.size}).get? s.heap.objs.size=some {cls:=.type "dict",data:=.dict #[]}:=
  (Heap.get?_update_ne _ _ _ _ xs.symm).trans (Heap.get?_push_at rfl rfl)
 refine wpAny_bind (wpAny_pure (wpAny_bind (wpAny_nsSet1 (Heap.Ns1.of_empty ⟨_,#[],_,gd,rfl,λe he=>absurd he (by simp),λ_=>rfl⟩) λh' n2 s2=>?_)));obtain⟨oD,Dx,Dy,mJ,mK,mM⟩:=n2.count (PySem.Within.cons name v PySem.Within.nil);refine wpAny_bind (wpAny_lookBehind mJ (by rw[mK];exact pastItsLine_dict (Yn mM (by rw[Yy,Jh,sizeLine_eq];omega))) (wpAny_pure (k _ _ n2 ?_ λc o hc hg=>?_)));·exact(s2.2 x xs).trans (Yu _ DL rfl)
 ·exact(s2.2 c (Yh (Yd hg))).trans ((Heap.get?_update_ne _ _ _ _ hc).trans (Yb _ hg))
end
def u6(K:ae)(ta tv:TE)(f:Str):TS:=λ D σ H=>tv σ H λ y H1=>ta σ H1 λ x H2=>∃ a C,x=.ref a/\aW K C/\b_ K C f /\
  ((H2 a=some (xn a C none)/\∀ d,H2 d=none->d≠a->D.nx σ (upd (upd H2 d (xq d [(f,y)])) a (xn a C (some d)))) \/
   ∃ d fs,H2 a=some (xn a C (some d))/\H2 d=some (xq d fs)/\d≠a/\fs.length < 1000/\D.nx σ (upd H2 d (xq d (bO f y fs))))
def B8(K:ae)(ta:TE)(f:Str):TE:=λσ H Q=>ta σ H λx H1=>∃a C d fs v,x=.ref a/\H1 a=some (xo a C (some d))/\H1 d=some (xq d fs)/\aW K C/\b_ K C f/\fs.lookup f=some v/\Q v H1
inductive AV(K:ae)(xs:List V)(H:Hp)(Q:VK):Prop
 |mk (a C d:Addr) (fs:List (Str×V)) (c:V) (u:Value) (b:Bool) (aP:xs=[.ref a,c]) (aQ:RelV c u) (bc:H a=some (xo a C (some d))) (bN:H d=some (xq d fs)) (cw:aW K C) (fb:kitOne K (.ref C) u=some b) (kW:Q (.bl b) H):AV K xs H Q
def B9(K:ae):List V->Hp->VK->Prop:=λxs H Q=>AV K xs H Q
section
variable {X:Cx}{o e value:Expr}{f:Str}{pos pos':Pos}{ta tv:TE}
theorem ua(ha:PE X o ta)(hv:PE X value tv)(hs:swapsWith value (some (.Attribute o f pos')) pos.line X.env=pure false:=by rfl):PS X (.Assign [.Attribute o f pos'] value pos) (u6 X.K ta tv f):=by
 intro pins s σ H D I h;refine plainObj_wpAny_Assign_Attribute (ay (hv pins s σ H _ I h) λu s1 zq=>?_) hs;obtain⟨y,H1,I1,ry,q⟩:=zq;refine ay (ha pins s1 σ H1 _ I1 q) λov s2 zq=>?_;obtain⟨x,H2,I2,rx,a,C,ex,xa,na,q2⟩:=zq;subst ex;obtain rfl:ov=Value.ref a:=rx;rcases q2 with⟨ea,q2⟩|⟨d,fs,ea,ed,nd,lim,q2⟩
 ·obtain⟨vs,xr,v1⟩:=lS I2.ah ea;obtain⟨ox,J⟩:=xr.L8;obtain⟨oe,e1,e2,e3,e4,e5⟩:=xr;refine CS I2.aI J xa na (Il (s:={s2 with toks:=s2.toks+1}) I2.aI xa e1 e2 e3 e4 λh' tk n2 ex kp=>⟨rfl,?_⟩);have dn:H2 s2.heap.objs.size=none:=I2.ah.fresh (Yc _);have ne:s2.heap.objs.size≠a:=Wp (Yd e1);refine⟨σ,_,?_,q2 s2.heap.objs.size dn ne⟩;have QB:bQ h' a C (some s2.heap.objs.size) vs:=⟨_,ex,e2,rfl,e4,e5⟩;refine I2.un (h':=h') (t':=tk) ⟨λb ob hb n _ _=>?_,λb ob hb n fr _=>?_,λb ob hb n _=>?_,λb ob hb _=>?_,λb xs hb=>?_,λb ob u hb=>?_,λb ps hb=>?_⟩ λb ob hb=>?_;·exact kp b ob (λz=>by rw[z,ea] at n;cases n) hb
  ·exact⟨ob.slots,kp b ob (λz=>by rw[z,ea] at n;cases n) hb⟩
  ·rw[ak (λz=>by rw[z,ea] at n;cases n),ak (Yh (Yd hb))];exact n
  ·by_cases z:b=a;·exact⟨_,z▸ex⟩
   ·exact⟨ob,kp b ob z hb⟩
  ·rw[ak (λz=>by rw[z,ea] at hb;cases hb),ak (λz=>by rw[z,dn] at hb;cases hb)];exact hb
  ·rw[ak (λz=>by rw[z,ea] at hb;cases hb),ak (λz=>by rw[z,dn] at hb;cases hb)];exact hb
  ·exact⟨#[],by rw[ak (λz=>by rw[z,ea] at hb;cases hb),ak (λz=>by rw[z,dn] at hb;cases hb),hb];simp⟩
  ·by_cases z:b=a
   ·subst z;rw[aw] at hb;cases hb;exact(λH0=>oR QB v1) _
   ·rw[ak z] at hb;by_cases z2:b=s2.heap.objs.size
    ·subst z2;rw[aw] at hb;cases hb;exact(λH0=>B7 n2 (AU (fs:=[]) (mA:=λ_=>none) ry λg=>trivial) (yZ (y:=y) (fs:=[]) (mA:=λ_=>none) λg hg=>absurd rfl hg)) _
    ·rw[ak z2] at hb;have pZ:∀c t,H2 c=some t->t=.own b\/(∃xs,t=.tup xs)->c≠a/\c≠s2.heap.objs.size:=λc t hc ht=>by
      refine⟨λy=>?_,λy=>by rw[y,dn] at hc;cases hc⟩;rw[y,ea] at hc;cases hc;rcases ht with ht|⟨xs,ht⟩<;>cases ht
     refine(I2.ah b ob hb).eH (λc u hc hg=>?_) (λc hc=>?_) λc xs hc=>?_;·grind
     ·rw[ak (pZ c _ hc (.inl rfl)).1,ak (pZ c _ hc (.inl rfl)).2];exact hc
     ·rw[ak (pZ c _ hc (.inr ⟨_,rfl⟩)).1,ak (pZ c _ hc (.inr ⟨_,rfl⟩)).2];exact hc
 ·obtain⟨vs,xr,v1⟩:=lS I2.ah ea;obtain⟨mA,n1,rl,wi⟩:=uL I2.ah ed;obtain⟨od,_,_,iq,_⟩:=id n1;obtain⟨ox,J⟩:=xr.inst iq;obtain⟨oe,e1,e2,e3,e4,e5⟩:=xr;refine CS I2.aI J xa na (Ik (s:={s2 with toks:=s2.toks+1}) I2.aI xa e1 e2 e3 n1 wi (by rw[Ya,sizeLine_eq];omega) λh' tk n2 sb=>⟨rfl,σ,_,?_,q2⟩);have hd:∃o,h'.get? d=some o:=let⟨o,_,_,e',_⟩:=n2;⟨o,e'⟩;exact I2.write (x:=d) (e:=d) (t':=tk) (by rw[ed];exact True.intro) (.inl rfl) (λb q hb z=>(sb.2 b hb).trans z) hd (B7 n2 (AU ry rl) (yZ wi))
theorem J7(he:PE X e ta)(hb:attributeBase e f X.env (eval e X.env)=eval e X.env:=by rfl):PE X (.Attribute e f pos) (B8 X.K ta f):=by
 intro pins s σ H Q I h;refine AM hb (ay (he pins s σ H _ I h) λu s1 zq=>?_);obtain⟨x,H1,I1,rx,a,C,d,fs,v,ex,ea,ed,xa,na,l,q⟩:=zq;subst ex;obtain rfl:u=Value.ref a:=rx;obtain⟨vs,xr⟩:=BA I1.ah ea;obtain⟨mA,n1,rl,wi⟩:=uL I1.ah ed;obtain⟨od,iq,lk⟩:=tw n1;obtain⟨ox,J⟩:=xr.inst iq;have r:=rl f;rw[l] at r;obtain⟨u,hu,ru⟩:=r.some_of;exact M8 I1.aI J xa (findObj_own xa.hd na rfl (by rw[lk,hu])) (zB ru) ⟨v,H1,I1.tok _,ru,q⟩
theorem Fj:bC X (.builtin "isinstance") (B9 X.K):=by
 rintro pins s σ H xs us Q I r ⟨a,C,d,fs,c,u,b,rfl,rc,ea,ed,xa,e,q⟩;obtain⟨u1,u2,rfl,r1,r2⟩:=vals2 r;obtain rfl:u1=Value.ref a:=r1;obtain⟨vs,xr⟩:=BA I.ah ea;obtain⟨mA,n1,rl,wi⟩:=uL I.ah ed;obtain⟨od,iq,lk⟩:=tw n1;obtain⟨ox,J⟩:=xr.inst iq;have same:kitOne X.K (.ref C) u2=some b:=by
  have e2:u2=u:=by
   cases c<;>first|exact(show u2=_ from r2).trans (show u=_ from rc).symm|skip
   all_goals (obtain⟨t1,z1⟩:=r2;obtain⟨t2,z2⟩:=rc;subst z1;subst z2)
   all_goals (exfalso;revert e;simp[kitOne,kitCls])
  rw[e2];exact e
 exact kia_one (Jp xa) I.aI ⟨ox,J⟩ same (λz=>nomatch z) λtk=>⟨.bl b,H,I.tok tk,rfl,q⟩
end
structure iR(K:ae)(C:Addr)(m:Str)(f:Addr):Prop where
 ga:specialIn K (.ref C) "__getattribute__"=some (some (.builtin "type.__getattribute__"))
 rd:readsIn K C (.type "type")=true
 at_:findCls K (.ref C) (.type "type") m=some (.val (.ref f))
 kp:keepIn K (.ref f)=true
section
variable {X:Cx}{CX:dP}{k:Nat}{f C:Addr}{fd:FuncData}{ps:List Str}{sp:Sp}{bq:List V}{ds:List Value}{E:XK}{x m:Str}{p pos apos:Pos}{e:Expr}{es:List Expr}{t:TA}
theorem tO{pl:Sem Bool}(cf:iR X.K C m f)(F:aG X.prog X.w X.K X.mg X.base CX k f fd ps sp)(hr:aV k X.A)(hg:Gl X x)(hm:X.mg x=some (.ref C))(hb:Binds X.K fd ps ds)(hd:Vals bq ds)(hx:Passes CX X E)(ha:PA X (e::es) t)
  (bx:(x==("__debug__":Str))=false:=by decide)(cq:cR X e es:=by rfl)(bt:cX X pos es:=by rfl)
  (ht:eval (.Call (.Attribute (.Name x p) m apos) (e::es) [] pos) X.env=(do
   let ov←eval (.Name x p) X.env
   standAt apos.atName
   let(f,first)←holding [ov] (getMethod ov m pl)
   callWith pos f first (backTo pos (starEach (e::es) X.env)) (backToKw pos (keywordEach [] X.env))):=by rfl):
  PE X (.Call (.Attribute (.Name x p) m apos) (e::es) [] pos) (hU sp bq E t):=by
 intro pins s σ H Q I h;exact methodCall_KW (eC I hg hm (method_cls I.aI cf.ga (cls_value I.aI cf.rd cf.at_ rfl (callWith_K I.ok.mod.eJ cf.kp (ay (ha pos pins _ σ H _ (I.tok (s.toks+1)) h) λus s2 ⟨vs,H2,I2,r,q2⟩=>⟨I2.aI,Bq F hr hb hd hx I2 r q2⟩) cq bt))) bx) ht
end
def oG(K:ae):List V->Hp->VK->Prop:=λxs H Q=>∃(a C:Addr) (y:V),xs=[.ref a,y]/\aW K C/\H a=some (xn a C none)/\Q .ao H
section
variable {M:Model}{A:Around}{E:aC}{s:Shared}{K:ae}{a C:Addr}
theorem GI{oe:Obj}{rest:List Value}{Q:Unit->Shared->Prop}(KX:K.In s.heap)(X:aW K C)(e1:s.heap.get? a=some oe)(e2:oe.cls=.ref C)(z:Q () s):wpAny M A (checkBuiltinCall "ValueError.__init__" ⟨.ref a::rest,[]⟩) Q E s:=by
 obtain⟨nm,q,N,bs,cs,sn,sb,ab,col,dd,k0,k1,k2,k3,k5,l⟩:=X.dk;have kc:=KX _ _ l;have d_:=oU C cs (.type "ValueError") (by decide);have G:=excBase_ValueError;have star:=G.noStar;obtain⟨h,g,d,t,os⟩:=s;simp only[checkBuiltinCall,G.initKind,G.initSplit,G.initRow];repeat (first|(with_reducible refine wpAny_loadPart_at e1 ?_;rw[e2])|with_reducible refine wpAny_loadPart_at kc ?_|(with_reducible refine wpAny_isSubtype_exc kc ?_;rw[d_])|wp_step)
 refine wpAny_onRaise ?_;rw[show ∀(u v:String) (n:Nat),Bind.check ⟨.positional,"*","ValueError",.self,[⟨"args",.varPos,false⟩]⟩ u v n (List.map (λx=>x.fst) ({pos:=Value.ref a::rest}:Args).kw)=pure () from λu v n=>check_star_args _ _ _ _ _ _];exact wpAny_pure z
end
section
variable {X:Cx}{x:Str}{p pos apos:Pos}{e:Expr}{es:List Expr}{t:TA}
theorem Jq{pins:ax}{s:Shared}{σ:St}{H:Hp}{xs:List V}{us:List Value}{Q:VK}(I:Inv X pins σ H s)(r:Vals xs us)(h:oG X.K xs H Q):wpAny X.md X.A (call (.builtin "ValueError.__init__") us) (EP X pins σ Q) X.xe s:=by
 obtain⟨a,C,y,rfl,xa,ea,q⟩:=h;obtain⟨u1,u2,rfl,r1,r2⟩:=vals2 r;obtain rfl:u1=Value.ref a:=r1;obtain⟨vs,xr,v1⟩:=lS I.ah ea;obtain⟨oe,e1,e2,e3,e4,e5⟩:=id xr;have G:=excBase_ValueError;refine wpAny_call (codeAny_call_builtin G.init.plain G.initEntry (GI I.aI xa e1 e2 ?_));unfold Builtin.«BaseException.__init__»;show wpAny _ _ (do let tu←newTuple [u2];Builtin.BaseException.bexcPut (.ref a) 0 tu;ret .none) _ _ _;refine wpAny_bind ?_;unfold newTuple;refine wpAny_newObj_type (wpAny_bind ?_);have ep:=Yb {cls:=.type "tuple",dict:=none,data:=.seq [u2].toArray} e1;have v0:vs[0]?=some vs[0]:=Y0 (by omega);unfold Builtin.BaseException.bexcPut;refine wpAny_bind (wpAny_field ep e4 v0 (wpAny_bind (wpAny_setField ep e4 (by omega) ?_)));have fin:EP X pins σ Q Value.none {s with heap:=(s.heap.push {cls:=.type "tuple",dict:=none,data:=.seq [u2].toArray}).update a (Obj.mapFields (·.setIfInBounds 0 (Value.ref s.heap.objs.size)))}:=by
  have d3:=Obj.data_mapFields e4 (·.setIfInBounds 0 (Value.ref s.heap.objs.size));have g3:=Yu (Obj.mapFields (·.setIfInBounds 0 (Value.ref s.heap.objs.size))) ep (Obj.isFreed_of_fields d3);have J:=I.write (x:=a) (e:=a) (o:=xn a C none) (t':=s.toks) (h':=(s.heap.push {cls:=.type "tuple",dict:=none,data:=.seq [u2].toArray}).update a (Obj.mapFields (·.setIfInBounds 0 (Value.ref s.heap.objs.size)))) (by rw[ea];exact True.intro) (.inl rfl)
   (λb o hb g=>by rw[Yi _ _ (Ne.symm hb)];exact Yb _ g) ⟨_,g3⟩
   (oR (vs:=vs.setIfInBounds 0 (Value.ref s.heap.objs.size)) ⟨_,g3,by rw[Obj.cls_mapFields];exact e2,by obtain⟨c,dd,da,sl⟩:=oe;cases e4;exact e3,d3,by rw[Ym];exact e5⟩ ⟨by rw[Yp (by decide)];exact v1.1,by rw[Yp (by decide)];exact v1.2.1,by rw[Ym];exact v1.2.2⟩)
  have same:upd H a (xn a C none)=H:=by
   funext b
   by_cases z:b=a;·rw[z,aw,ea]
   ·rw[ak z]
  rw[same] at J;exact⟨.ao,H,J,rfl,q⟩
 generalize vs[0]=old;cases old<;>first|exact wpAny_pure (wpAny_pure fin)|exact wpAny_letGo (wpAny_pure fin)|exact wpAny_bind (wpAny_letGo (wpAny_pure (wpAny_pure fin)))
theorem J8{K:ae}:findCls K (.type "ValueError") (.type "type") "__init__"=some (.val (.builtin "ValueError.__init__")):=by kernel_rfl
theorem B_{K:ae}:findIn K (.type "type") "__getattribute__"=some (some (.builtin "type.__getattribute__")):=by kernel_rfl
theorem Lf{K:ae}:subIn K (.type "type") (.type "type")=some true:=by kernel_rfl
theorem Ca:typeOf (.type "ValueError")=pure (.type "type"):=by kernel_rfl
theorem L9:opaqueClassAbove (.type "ValueError")=pure none:=by kernel_rfl
theorem J9:bootBuiltins "ValueError"=some (.type "ValueError"):=by decide+kernel
theorem Im{prog:Program}{w:World}{A:Around}{E:aC}{s:Shared}{K:ae}{pl:Sem Bool}{Q:Value×List Value->Shared->Prop}(KX:K.In s.heap)(z:Q (.builtin "ValueError.__init__",[]) {s with toks:=s.toks+1}):
  wpAny (model prog w) A (getMethod (.type "ValueError") "__init__" pl) Q E s:=by
 have L1:Looks (model prog w) s.heap (specialOf (.type "ValueError") "__getattribute__") (some (.builtin "type.__getattribute__")):=(Looks.of_pure Ca).andThen (looks_findIn KX B_);unfold getMethod;refine wpAny_bind (L1.here ?_);show wpAny _ _ (if(Manifest.canonical "type.__getattribute__" !="object.__getattribute__")=true then _ else _) _ _ _;rw[if_pos PySem.W.canon_tga];refine wpAny_bind (PySem.W.cls_open KX (Looks.of_pure L9) (Looks.of_pure Ca) B_ (hook:=none) (Looks.of_pure rfl) Lf J8 ?_);exact wpAny_pure (PySem.W.handed_on rfl (wpAny_pure z))
theorem Ae{pl:Sem Bool}(hg:Gl X "ValueError")(hm:X.mg "ValueError"=none)(ha:PA X (e::es) t)
  (cq:cR X e es:=by rfl)(bt:cX X pos es:=by rfl)
  (ht:eval (.Call (.Attribute (.Name "ValueError" p) "__init__" apos) (e::es) [] pos) X.env=(do
   let ov←eval (.Name "ValueError" p) X.env
   standAt apos.atName
   let(f,first)←holding [ov] (getMethod ov "__init__" pl)
   callWith pos f first (backTo pos (starEach (e::es) X.env)) (backToKw pos (keywordEach [] X.env))):=by rfl):
  PE X (.Call (.Attribute (.Name "ValueError" p) "__init__" apos) (e::es) [] pos) (dq (oG X.K) t):=by
 intro pins s σ H Q I h;refine methodCall_KW (pl:=pl) (lN I hg hm J9 ?_) ht;refine Im I.aI ?_;exact PyProof.Rows.callWith_builtin1 (ay (ha pos pins _ σ H _ (I.tok _) h) λus s1 ⟨vs,H1,I1,r1,q1⟩=>Jq I1 r1 q1) cq bt
end
def Lg(C:Addr)(sp:Sp)(bq:List V)(E:St->XK)(t:TA):TS:=λ_ σ H=>t σ H λvs H1=>vs.length<=1000/\∀a,H1 a=none->
 sp (.ref a::(vs++bq)) (upd H1 a (xn a C none)) (λv H2=>v=.ao/\∃d,H2 a=some (xn a C (some d))/\E σ (.ref C) (some d) (upd H2 a (xo a C (some d)))) E0
section
variable {X:Cx}{k:Nat}{f C:Addr}{fd:FuncData}{ps:List Str}{sp:Sp}{bq:List V}{ds:List Value}{E:St->XK}{x:Str}{p pos bI:Pos}{e:Expr}{es:List Expr}{t:TA}
theorem Af(M:dI X.K C f)(F:aG X.prog X.w X.K X.mg X.base aR k f fd ps sp)(hr:aV (k+1) X.A)(hc:X.calm=true)(hg:Gl X x)(hm:X.mg x=some (.ref C))(hb:Binds X.K fd ps ds)(hd:Vals bq ds)(hx:ky X E)(ha:PA X (e::es) t)
  (bx:(x==("__debug__":Str))=false:=by decide)(he:cR X e es:=by rfl)(bt:cX X bI es:=by rfl):
  PS X (.Raise (some (.Call (.Name x p) (e::es) [] bI)) none pos) (Lg C sp bq E t):=by
 intro pins s σ H D I h;rw[arm_exec_Raise];refine wpAny_bind (wpAny_standAt ?_);show wpAny _ X.A (raiseStmt X.env (some (do let v←eval (.Call (.Name x p) (e::es) [] bI) X.env;standAt pos;pure v)) none) _ _ s;unfold raiseStmt;refine wpAny_bind (wpAny_bind ?_);refine wpAny_Call_Name_kw (eC I hg hm ?_ bx);refine callWith_K (h₀:=X.base) I.ok.mod.eJ M.kp (ay (ha bI pins s σ H _ I h) λus s1 ⟨vs,H1,I1,r,lim,q⟩=>⟨I1.aI,?_⟩) he bt;obtain⟨nm,qn,N,bs,bm,sn,sub,ab,col,dd,k0,k1,k2,k3,k5,lk⟩:=M.dk;have kc:=I1.aI _ _ lk;have fr:H1 (s1.heap.objs.size+1)=none:=I1.ah.fresh (Wj _);have hq:=q (s1.heap.objs.size+1) fr;have r2:Vals (V.ref (s1.heap.objs.size+1)::(vs++bq)) (Value.ref (s1.heap.objs.size+1)::(us++ds)):=.cons rfl (r.append hd);have hl:((Value.ref (s1.heap.objs.size+1)::us)++ds).length=ps.length:=by
  have z:=r2.length;rw[F.len _ _ _ _ hq] at z;exact z.symm
 have here:((s1.heap.push {cls:=.type "tuple",data:=.seq us.toArray}).push {cls:=.ref C,data:=.fields #[.ref s1.heap.objs.size,.none,.none,.none,.bool false,.none]}).get? (s1.heap.objs.size+1)=
   some {cls:=.ref C,data:=.fields #[.ref s1.heap.objs.size,.none,.none,.none,.bool false,.none]}:=by heap_get
 have up:∀b o,s1.heap.get? b=some o->((s1.heap.push {cls:=.type "tuple",data:=.seq us.toArray}).push {cls:=.ref C,data:=.fields #[.ref s1.heap.objs.size,.none,.none,.none,.bool false,.none]}).get? b=some o:=
  λb o z=>Yb _ (Yb _ z)
 have new:bo X.prog X.w (upd H1 (s1.heap.objs.size+1) (xn (s1.heap.objs.size+1) C none)) _ (s1.heap.objs.size+1) (xn (s1.heap.objs.size+1) C none):=oR (vs:=#[.ref s1.heap.objs.size,.none,.none,.none,.bool false,.none]) ⟨_,here,rfl,rfl,rfl,by show 1<6;decide⟩ ⟨rfl,rfl,rfl⟩;have I2:=I1.laid (a:=s1.heap.objs.size+1) (o:=xn (s1.heap.objs.size+1) C none) (t':=s1.toks) up (Wj _) new;have L1:=looks_findIn (M:=model X.prog X.w) I1.aI M.init;have L2:=looks_typeIn (M:=model X.prog X.w) I1.aI (beq_iff_eq.mp M.fn);have ul:us.length<=sizeLine:=by
  rw[←r.length,sizeLine_eq];omega
 obtain⟨h1,g1,d1,t1,o1⟩:=s1;refine Ad kc (eV lk M.d_) (eV lk M.dQ) (eV lk M.il) L1 L2 (wpAny_call (codeAny_mono (F.run _ X.stack _ _ ⟨Value.ref (h1.objs.size+1)::us,[]⟩ (Value.ref (h1.objs.size+1)::(us++ds)) _ _ E0 (hr.make C us [])
  (I2.iZ.make C us []) (hb _ (Value.ref (h1.objs.size+1)::us) I2.aI hl) r2 hq) λr s' cj=>?_)) ul
 cases r with
 |error _=>exact False.elim cj
 |ok fl=>
  cases fl with
  |next=>exact False.elim cj
  |brk=>exact False.elim cj
  |cont=>exact False.elim cj
  |ret u=>
   obtain⟨v,H',ig,bare,un,ah,rv,rfl,d,ea,cG⟩:=cj;obtain rfl:u=Value.none:=rv;refine⟨rfl,wpAny_bind (wpAny_standAt (wpAny_pure ?_))⟩;obtain⟨ws,xr,w1,w2,_⟩:=lS ah ea;obtain⟨oe,e1,e2,e3,e4,e5⟩:=id xr;have I3:Inv X pins σ H' s':=I2.lY (ch:=[]) ig un ah bare λb z=>absurd z (by simp);have jd:=I3.aI _ _ lk;have fQ:=eV lk M.fQ;obtain⟨oc,od,v9,cy⟩:=oe;dsimp only at e2 e3 e4;subst e2 e3 e4;have xe:X.xe (.ref (h1.objs.size+1)) s':=by
    refine hx pins σ H1 ⟨h1,g1,d1,t1,o1⟩ _ s' I1 ⟨h1.objs.size+1,C,d,upd H' (h1.objs.size+1) (xo (h1.objs.size+1) C (some d)),ws,rfl,Wj _,ig,bare,?_,?_,aw,xr,⟨.inl w1,λ_=>w2⟩,cG⟩
    ·have du:Un (aO X.stack) [] H1 H' h1 s'.heap:=(Un.laid up (Wj _) fr).trans un;have old:∀b o,h1.get? b=some o->b≠h1.objs.size+1:=λb o hb=>Yh (Wq (Yd hb));have tk:∀b u,H1 b=some u->b≠h1.objs.size+1:=λb u hb z=>by rw[z,fr] at hb;cases hb
     exact⟨du.keep,du.slot,λb o hb n x'=>by rw[ak (old b o hb)];exact du.free b o hb n x',du.there,λb xs hb=>by rw[ak (tk b _ hb)];exact du.cN b xs hb,
      λb o u hb=>by rw[ak (tk b _ hb)];exact du.cH b o u hb,λb ps hb=>by rw[ak (tk b _ hb)];exact du.cO b ps hb⟩
    ·intro b o hb;by_cases z:b=h1.objs.size+1
     ·subst z;rw[aw] at hb;cases hb;exact oQ xr
     ·rw[ak z] at hb;have nz:∀c u,H' c=some u->(u=.own b\/∃xs,u=.tup xs)->c≠h1.objs.size+1:=λc u hc hu y=>by
       rw[y,ea] at hc;cases hc;rcases hu with hu|⟨xs,hu⟩<;>cases hu
      exact(ah b o hb).eH (λ_ _ _ g=>g) (λc hc=>by rw[ak (nz c _ hc (.inl rfl))];exact hc) λc xs hc=>by rw[ak (nz c _ hc (.inr ⟨_,rfl⟩))];exact hc
   have hh:=I.ok.hd hc;obtain⟨h',g',d',t',o'⟩:=s';repeat (first|with_reducible refine wpAny_loadPart_at e1 ?_|with_reducible refine wpAny_loadPart_at jd ?_|(with_reducible refine wpAny_isSubtype_exc jd ?_;rw[fQ])|with_reducible refine wpAny_field e1 rfl w1 ?_|wp_step)
   exact wpAny_raiseNew_none hh xe
end
abbrev Cx.hand(X:Cx)(a:Addr):Cx:={X with A:=X.A.mark (some (.ref a)),calm:=false}
theorem Cx.Ok.hand{X:Cx}(ok:X.Ok)(a:Addr):(X.hand a).Ok:=
 ⟨ok.mod,ok.kind,ok.glob,ok.blt,ok.above,ok.inj,ok.has,ok.i7,λz=>absurd (show false=true from z) Yg,ok.frames,ok.kL,ok.kM,ok.bs,ok.eK,ok.iV,ok.iW,ok.dh,ok.fK⟩
section
variable {X:Cx}{pins:ax}{σ:St}{H:Hp}{s:Shared}
theorem Inv.hand(I:Inv X pins σ H s)(a:Addr):Inv (X.hand a) pins σ H s:=⟨I.ok.hand a,I.os,I.bare,I.base,I.loc,I.cell,I.free,I.de,I.pin,I.ah,I.len⟩
theorem Inv.BE{a:Addr}(ok:X.Ok)(I:Inv (X.hand a).e7 pins σ H s):Inv X pins σ H s:=⟨ok,I.os,I.bare,I.base,I.loc,I.cell,I.free,I.de,I.pin,I.ah,I.len⟩
theorem Inv.fD{pn:ax}{xe:aC}{pl:ax}(ok:X.Ok)(I:Inv {X with pn:=X.pn++pn,xe:=xe} pl σ H s):Inv X pn σ H s:=
 ⟨ok,I.os,I.bare,I.base,I.loc,I.cell,I.free,I.de,λp hp=>I.pin p (W7 _ hp),I.ah,I.len⟩
theorem Inv.BF{xe:aC}(I:Inv X pins σ H s):Inv {X with pn:=X.pn++pins,xe:=xe} [] σ H s:=
 ⟨⟨I.ok.mod,I.ok.kind,I.ok.glob,I.ok.blt,I.ok.above,I.ok.inj,I.ok.has,I.ok.i7,I.ok.hd,I.ok.frames,I.ok.kL,I.ok.kM,I.ok.bs,I.ok.eK,I.ok.iV,I.ok.iW,I.ok.dh,I.ok.fK⟩,
  I.os,I.bare,I.base,I.loc,I.cell,I.free,I.de,λp hp=>I.pin p (by rw[Yx] at hp;exact hp),I.ah,I.len⟩
theorem Inv.gone{n:Str}{i:Nat}{h':Heap}{v:Option Value}{m:aF}{t':Nat}(I:Inv X pins σ H s)(hN:X.N.Nodup)(hi:X.N[i]?=some n)(hn:s.heap.Ns X.env.locals m)
  (lk:∀(i:Nat) (x:Str) (v:V),X.N[i]?=some x->σ[i]?=some (some v)->kK X.env.scope x->∃u,RelV v u/\Look X.env s.heap m x u)
  (n2:h'.Ns X.env.locals (λx=>if x=n then v else m x))(sb:Heap.SameBut X.env.locals s.heap h'):Inv X pins (σ.set i none) H {s with heap:=h',toks:=t'}:=by
 have old:∀b o,X.bG.heap.get? b=some o->b≠X.env.locals:=λb o hb z=>absurd (Yd (z▸hb)) (Nat.not_lt.mpr I.ok.above);have kp:∀b o,b≠X.env.locals->s.heap.get? b=some o->h'.get? b=some o:=λb o hb hg=>(sb.2 b hb).trans hg;have kJ:∀b u,H b=some u->b≠X.env.locals:=λb u hb z=>by rw[z,I.free] at hb;cases hb
 refine⟨I.ok,I.os,I.bare,⟨λb o e n' f x=>kp b o (old b o e) (I.base.keep b o e n' f x),λb o e n' f x=>?_,I.base.free,λb o e x=>?_,I.base.cN,I.base.cH,I.base.cO⟩,⟨_,n2,λj x w e1 e2 e3=>?_⟩,λx c e=>?_,I.free,I.de,λp hp=>?_,λb u hb=>?_,?_⟩
 ·obtain⟨sl,g⟩:=I.base.slot b o e n' f x;exact⟨sl,kp b _ (old b o e) g⟩
 ·obtain⟨o',g⟩:=I.base.there b o e x;exact⟨o',kp b o' (old b o e) g⟩
 ·by_cases z:i=j
  ·subst z;have bad:(σ.set i none)[i]?=some (some w):=e2;rw[List.getElem?_set_self'] at bad;cases q:σ[i]? with
   |none=>rw[q] at bad;cases bad
   |some y=>rw[q] at bad;cases bad
  ·rw[W8 z] at e2;obtain⟨u,r,l⟩:=lk j x w e1 e2 e3;refine⟨u,r,?_⟩;have ne:x≠n:=λy=>z (tM hN hi (y▸e1));rcases l with⟨k1,k2⟩|⟨k1,c,k2,⟨o,k3,k4⟩⟩
   ·refine .inl ⟨k1,?_⟩;show(if x=n then v else m x)=some u;rw[if_neg ne];exact k2
   ·exact .inr ⟨k1,c,k2,o,kp c o (I.gG x c k2) k3,k4⟩
 ·obtain⟨w,o,k3,k4⟩:=I.cell x c e;exact⟨w,o,kp c o (I.gG x c e) k3,k4⟩
 ·obtain⟨k1,k2,k3,k4⟩:=I.pin p hp;exact⟨kp p.1 p.2 k3 k1,k2,k3,k4⟩
 ·refine(I.ah b u hb).eH (λc o hc hg=>kp c o ?_ hg) (λ_ q=>q) λ_ _ q=>q;rcases hc with rfl|hc;·exact kJ _ _ hb
  ·exact kJ _ _ hc
 ·rw[Wx];exact I.len
end
section
variable {M:Model}{A:Around}{E:aC}{s:Shared}{K:ae}{a C B:Addr}{d:Option Addr}{vs:Array Value}
theorem Io{Q:Bool->Shared->Prop}{b:Bool}(KX:K.In s.heap)(XB:aW K B)(XC:aW K C)(xr:bQ s.heap a C d vs)(mt:mroIn K C (.ref B)=some b)(z:Q b s):wpAny M A (excMatches (.ref a) (.ref B)) Q E s:=by
 obtain⟨nm,q,N,bs,cs,sn,sb,ab,col,dd,k0,k1,k2,k3,k5,l⟩:=XB.dk;obtain⟨QC,q',N',QD,QE,QF,QG,QH,M9,p4,l0,l1,l2,l3,l5,l'⟩:=XC.dk;have kb:=KX _ _ l;have kc:=KX _ _ l';obtain⟨oe,e1,e2,_⟩:=xr;have fQ:=oU B cs (.type "BaseException") (by decide);have v_:=eV l' mt;have f:=tc_notTuple;unfold excMatches;repeat (first|(with_reducible refine wpAny_loadPart_at e1 ?_;rw[e2])|with_reducible refine wpAny_loadPart_at kb ?_|(with_reducible refine wpAny_isSubtype_exc kb ?_;rw[fQ])|(with_reducible refine wpAny_isSubtype_exc kc ?_;rw[v_])|wp_step)
 cases b<;>(wp_walk;exact z)
theorem AW{Q:Unit->Shared->Prop}{lo:Nat}{H:Hp}(xr:bQ s.heap a C d vs)(fl:kU lo H s.heap vs)(z:Q () s):wpAny M A (setFlight (.ref a) none) Q E s:=by
 obtain⟨oe,e1,e2,e3,e4,e5⟩:=xr;rcases fl with y|⟨T,oT,ts,y,_,_,g0,d0,t0⟩
 ·refine wpAny_bind (wpAny_field e1 e4 y ?_);exact wpAny_pure z
 ·refine wpAny_bind (wpAny_field e1 e4 y ?_);refine wpAny_setField g0 d0 (Y6.mp t0).1 ?_;have same:=Heap.update_setField_same s.heap T oT ts 3 Value.none g0 d0 t0;simp_all
end
def hX(K:ae)(B:Addr)(i:Nat)(th:TS)(D:Ends):St->XK:=λσ c o H=>∃C d,c=.ref C/\o=some d/\aW K C/\mroIn K C (.ref B)=some true/\
 ∀a,H a=some (xo a C (some d))->th {nx:=λaB H'=>D.nx (aB.set i none) H',rt:=D.rt,bk:=λaB H'=>D.bk (aB.set i none) H',ct:=λaB H'=>D.ct (aB.set i none) H'} (σ.set i (some (.ref a))) H
section
variable {X:Cx}{B:Addr}{i:Nat}{n x:Str}{body mi:List Stmt}{b0:Stmt}{px hp pos:Pos}{tb:(St->XK)->TS}{th:TS}
theorem Lh{b:Bool}(fr:X.stack=X.env::X.outer/\X.env.frame=some X.env.locals)(hN:X.N.Nodup)(hi:X.N[i]?=some n)(hl:X.env.scope.names.lookup n=some .local)(hg:Gl X x)(hm:X.mg x=some (.ref B))(XB:aW X.K B)
  (hb:∀pn xe E,iQ b {X with pn:=pn,xe:=xe} E->PassesOwn X.md X.A X.env xe->cv {X with pn:=pn,xe:=xe} body (tb E))
  (hh:∀a,cv (X.hand a).e7 (b0::mi) th)(bx:(x==("__debug__":Str))=false:=by decide):
  PS X (.Try body [.ExceptHandler (some (.Name x px)) (some n) (b0::mi) hp] [] [] pos) (λD σ H=>tb (hX X.K B i th D) D σ H):=by
 intro pins s σ H D I h;refine wpAny_bind (wpAny_standAt (wpAny_tryStmt_except ?_));let xe:Value->Shared->Prop:=λe s1=>wpAny X.md X.A (noteFrame e X.env) (λ_ s2=>wpAny X.md X.A (setFlight e none) (λ_ s3=>wpAny X.md X.A (handleBy e X.env [.ExceptHandler (some (.Name x px)) (some n) (b0::mi) hp]) (SP X pins D) X.xe s3) X.xe s2) X.xe s1;have wa:iQ b {X with pn:=X.pn++pins,xe:=xe} (hX X.K B i th D):=by
  intro oO aB H1 s1 e s' I' cx;have st:X.A.frames=some (X.env::X.outer):=by rw[←fr.1];exact I.ok.frames
  have f1:s1.heap.FunFrames X.base (X.env::X.outer):=by rw[←fr.1];exact I'.stack
  have f2:∀b∈aO (X.env::X.outer),H1 b=none:=by rw[←fr.1];exact I'.jX
  refine t_ st f1 f2 fr.2 (by rw[←fr.1];exact cx) λs3 c3=>?_;rw[←fr.1] at c3;obtain⟨a,C,d,H',vs,rfl,lo,J,ea,xr,⟨fl,_⟩,C',d',ec,ed,XC,mt,q⟩:=I'.oE c3;cases ec;cases ed;have J2:=J.fD I.ok;refine wpAny_handleBy_cons (codeAny_handlers_test (eC (J2.hand a) hg hm (Io J2.aI XB XC xr mt (codeAny_handlers_suite_as (AW xr fl (tN (v:=.ref a) J2 hN hi (.inl hl) rfl (λs4 J4=>wpAny_mono (hh a pins s4 _ _ _ ((J4.hand a).cG _) (q a ea)) (λf s5 z=>?_) λ_ _ z=>False.elim z) (.inr hl))))) bx)) (by intro z;cases z);have fin:∀{je:St} {H5:Hp},Inv (X.hand a).e7 pins je H5 s5->∀Q:Unit->Shared->Prop,(∀s6,Inv X pins (je.set i none) H5 s6->Q () s6)->wpAny X.md X.A (do bindName X.env n .none;unbindBehindTheSuite X.env n hp) Q X.xe s5:=by
   intro je H5 J5 Q k;have J6:=Inv.BE I.ok J5;obtain⟨m,hn,lk⟩:=J6.loc;refine wpAny_nameGoes_keeps (show X.env.kindOf n=some .local from hl) hn (by rw[I.ok.kind];rfl) λh' v n2 sb=>k _ (J6.gone hN hi hn lk n2 sb)
  cases f with
  |next=>
   obtain⟨je,H5,J5,z⟩:=z;exact fin J5 _ λs6 J6=>⟨_,_,J6,z⟩
  |brk=>
   obtain⟨je,H5,J5,z⟩:=z;exact fin J5 _ λs6 J6=>⟨_,_,J6,z⟩
  |cont=>
   obtain⟨je,H5,J5,z⟩:=z;exact fin J5 _ λs6 J6=>⟨_,_,J6,z⟩
  |ret u=>
   obtain⟨v,je,H5,J5,rv,z⟩:=z;exact fin J5 _ λs6 J6=>⟨_,_,_,J6,rv,z⟩
 refine wpAny_mono (hb _ xe _ wa (PassesOwn.looking (K:=λe s2=>wpAny X.md X.A (setFlight e none) (λ_ s3=>wpAny X.md X.A (handleBy e X.env [.ExceptHandler (some (.Name x px)) (some n) (b0::mi) hp]) (SP X pins D) X.xe s3) X.xe s2)) [] s σ H D I.BF h) (λf s1 z=>?_) λ_ _ z=>z;cases f with
 |next=>
  obtain⟨aB,H',J,q⟩:=z;exact wpAny_pure ⟨aB,H',J.fD I.ok,q⟩
 |brk=>
  obtain⟨aB,H',J,q⟩:=z;exact⟨aB,H',J.fD I.ok,q⟩
 |cont=>
  obtain⟨aB,H',J,q⟩:=z;exact⟨aB,H',J.fD I.ok,q⟩
 |ret u=>
  obtain⟨v,aB,H',J,rv,q⟩:=z;exact⟨v,aB,H',J.fD I.ok,rv,q⟩
end
def M_(K:ae)(te:TE):TE:=λσ H Q=>te σ H λx H1=>(∃y:Str,x=.str y/\y.length<=sizeLine/\Q (.str y) H1)\/(∃i:Int,x=.int i/\i.natAbs.log2<1920/\Q (.str (toString i)) H1)\/
 ∃(a:Addr) (ns:List Int),x=.ref a/\aq K H1 a (ns.map V.int)/\(∀n∈ns,n.natAbs.log2<1920)/\(PyData.tuple (ns.map PyData.int)).shown.length<=sizeLine/\Q (.str (PyData.tuple (ns.map PyData.int)).shown) H1
theorem GJ{h:Heap}{ns:List Int}:∀{us:List Value},Vals (ns.map V.int) us->∃as,ReadsAll h us (ns.map PyData.int) as:=by
 induction ns with
 |nil=>intro us r;cases r;exact⟨[],.nil⟩
 |cons n r ih=>
  intro us q;cases q with
  |cons q1 q2=>
   obtain⟨t,rfl⟩:=q1;obtain⟨as,z⟩:=ih q2;exact⟨_,.cons (.int n t) z⟩
theorem Ip{ns:List Int}(h:∀n∈ns,n.natAbs.log2<1920):PyData.showableAll (ns.map PyData.int)=true:=by
 induction ns with
 |nil=>rfl
 |cons n r ih=>
  show(decide (n.natAbs.log2<1920)&&PyData.showableAll (r.map PyData.int))=true
  grind
theorem FI(ns:List Int):PyData.hasDictAll (ns.map PyData.int)=false:=by
 induction ns with
 |nil=>rfl
 |cons n r ih=>exact ih
theorem GK(ns:List Int):PyData.depthAll (ns.map PyData.int)=0:=by
 induction ns with
 |nil=>rfl
 |cons n r ih=>
  show max (PyData.int n).depth (PyData.depthAll (r.map PyData.int))=0;rw[ih];rfl
section
variable {X:Cx}{e:Expr}{te:TE}{pos:Pos}
theorem gq{j:Nat}(hr:aV j X.A)(he:PE X e te):PE X (.FormattedValue e (-1) none pos) (M_ X.K te):=by
 intro pins s σ H Q I h;refine wpAny_FormattedValue_plain (ay (he pins s σ H _ I h) λu s1 zq=>?_);obtain⟨x,H1,I1,rx,q⟩:=zq;rcases q with⟨y,rfl,ly,q⟩|⟨i,rfl,li,q⟩|⟨a,ns,rfl,hq,sm,sz,q⟩
 ·obtain⟨t,rfl⟩:=rx;exact wpAny_formatField_str ⟨.str y,H1,I1,⟨t,rfl⟩,q⟩ ⟨.str y,H1,I1.tok _,⟨_,rfl⟩,q⟩ ly
 ·obtain⟨t,rfl⟩:=rx;exact wpAny_formatField_int li ⟨.str (toString i),H1,I1.tok _,⟨_,rfl⟩,q⟩
 ·obtain rfl:u=Value.ref a:=rx;obtain⟨af,r,⟨o,g,oc,n,od⟩,hz⟩:=I1.tuple hq;obtain⟨as,ra⟩:=GJ (h:=s1.heap) r;refine formatField_of_reads (prog:=X.prog) (w:=X.w) (.tuple g oc od (by rw[List.toList_toArray];exact ra)) (show PyData.showableAll _=true from Ip sm) (λz=>?_) hr.gd ?_ (λ_ _ z=>z) (λh' u tk kp=>⟨.str (PyData.tuple (ns.map PyData.int)).shown,H1,I1.kept (t':=tk) kp,⟨u,rfl⟩,q⟩) sz
  ·have z':PyData.hasDictAll (ns.map PyData.int)=true:=z;rw[FI] at z';cases z'
  ·show X.A.units+(PyData.depthAll (ns.map PyData.int)+1+2)<cLine;rw[GK];have:=hr.un;omega
theorem J_(he:PE X e te):PE X (.JoinedStr [e] pos) te:=λpins s σ H Q I h=>wpAny_JoinedStr_one (he pins s σ H Q I h)
end
abbrev TJ:=Str->St->Hp->(Str->Hp->Prop)->Prop
def PJ(X:Cx)(es:List Expr)(t:TJ):Prop:=
 ∀(pins:ax) (s:Shared) (σ:St) (H:Hp) (acc:Str) (R:Str->Hp->Prop) (Q:Str->Shared->Prop),Inv X pins σ H s->t acc σ H R->(∀y s' H',Inv X pins σ H' s'->R y H'->Q y s')->PySem.Joins X.md X.A X.xe (evalEach es X.env) acc Q s
def Na:TJ:=λacc _ H R=>R acc H
def L_(te:TE)(tr:TJ):TJ:=λacc σ H R=>te σ H λx H1=>∃y,x=.str y/\(acc++y).length<=sizeLine/\tr (acc++y) σ H1 R
def Ma(t:TJ):TE:=λσ H Q=>t Str.empty σ H λy H1=>y.length<=sizeLine/\Q (.str y) H1
section
variable {X:Cx}{e e2:Expr}{es:List Expr}{te:TE}{t:TJ}{pos:Pos}
theorem uM:PJ X [] Na:=λ_ s _ H acc _ _ I h k=>k acc s H I h
theorem dX(he:PE X e te)(hr:PJ X es t):PJ X (e::es) (L_ te t):=by
 intro pins s σ H acc R Q I h k;refine ay (he pins s σ H _ I h) λu s1 zq=>?_;obtain⟨x,H1,I1,rx,y,ex,l,q⟩:=zq;subst ex;obtain⟨tk,rfl⟩:=rx;exact⟨y,tk,rfl,l,hr pins s1 σ H1 (acc++y) R Q I1 q k⟩
theorem ub(h:PJ X (e::e2::es) t):PE X (.JoinedStr (e::e2::es) pos) (Ma t):=by
 intro pins s σ H Q I hq;refine wpAny_JoinedStr (h pins s σ H Str.empty _ _ I hq λy s1 H1 I1 ⟨l,q⟩=>⟨l,.str y,H1,I1.tok _,⟨_,rfl⟩,q⟩)
end
end L2
namespace L2
open PySem PySem.Spec PyProof.Rows
structure Bl(mg:aF):Prop where
 kz:mg "len"=none
 Mb:mg "abs"=none
 kh:mg "list"=none
 gc:mg "range"=none
 fA:mg "tuple"=none
 Mc:mg "any"=none
 oV:mg "all"=none
 yA:mg "isinstance"=none
 oH:mg "bool"=none
 oW:mg "int"=none
 oX:mg "str"=none
 Ag:mg "sorted"=none
 Md:mg "min"=none
 Me:mg "max"=none
 Ua:mg "sum"=none
 T6:mg "dict"=none
 TZ:mg "reversed"=none
 yB:mg "ValueError"=none
theorem Nb{X:Cx}{K:ae}(hc:X.calm=true)(h:X.K=K):bC X (.builtin "any") (CN K):=h▸EX hc
theorem pA{X:Cx}{K:ae}(hc:X.calm=true)(h:X.K=K):bC X (.builtin "all") (CO K):=h▸EY hc
theorem sortedK{X:Cx}{K:ae}(h:X.K=K):bC X (.builtin "sorted") (t9 K):=h▸yF
theorem AX{X:Cx}{K:ae}(h:X.K=K):dt X (vU K):=h▸K1
structure eI(K:ae)(x qual:Str)(st:Stmt)(f:Addr)(fd:FuncData):Prop where
 ex:∃(oc:Value) (od:Option Addr) (dV kV doc pm:Value) (an:Option Addr) (aD ct:Value) (cy:Array (Option Value)),
  fd=fnOf x qual (aZ st) (aT st) (ar st) dV kV doc pm an aD ct/\K.lookup f=some ⟨oc,od,.func fd,cy⟩/\codeIn K aD qual=true
 kp:keepIn K (.ref f)=true
section
variable {P:Program}{w:World}{K:ae}{mg:aF}{base:Heap}
theorem eI.ok{x qual:Str}{st:Stmt}{f:Addr}{fd:FuncData}{N ps:List Str}{k:Nat}{sp:Sp}(F:eI K x qual st f fd)(S:aY N ps (ar st))(len:∀vs H Q E,sp vs H Q E->vs.length=ps.length)
  (gu:∀(aD:Value) (A:Around) (outer:List Env) (s:Shared) (H:Hp) (vs:List V) (Q:VK) (E:XK),aV k (A.deeper (envOfC qual (ar st) s.heap.objs.size f aD))->sp vs H Q E->
   ∃t,cv (cV aR P w K mg base N qual (ar st) f aD A outer s H E).e7 (aT st) t/\t {nx:=λ_ H'=>Q .ao H',rt:=Q} (start N vs) H):aG P w K mg base aR (k+1) f fd ps sp:=by
 obtain⟨oc,od,dV,kV,doc,pm,an,aD,ct,cy,rfl,lk,bW⟩:=F.ex;refine uZ lk bW S len λA outer s H vs Q E hr cJ=>?_;obtain⟨t,h,q⟩:=gu aD A outer s H vs Q E hr cJ;exact⟨t,h.e7,q⟩
end
theorem BG{K:ae}:kitOne K (.type "int") (.type "int")=some true:=by kernel_rfl
theorem uN{K:ae}:kitOne K (.type "int") (.type "bool")=some false:=by kernel_rfl
theorem BH{K:ae}:kitOne K (.type "bool") (.type "bool")=some true:=by kernel_rfl
theorem Li{K:ae}:kitOne K (.type "str") (.type "bool")=some false:=by kernel_rfl
theorem Lj{K:ae}:kitOne K (.type "str") (.type "int")=some false:=by kernel_rfl
theorem BI{K:ae}:kitOne K (.type "str") (.type "str")=some true:=by kernel_rfl
theorem Lk{K:ae}:kitOne K (.type "list") (.type "bool")=some false:=by kernel_rfl
theorem Ll{K:ae}:kitOne K (.type "list") (.type "int")=some false:=by kernel_rfl
theorem Lm{K:ae}:kitOne K (.type "list") (.type "str")=some false:=by kernel_rfl
theorem Ln{K:ae}:kitOne K (.type "list") (.type "list")=some true:=by kernel_rfl
theorem Lo{K:ae}:kitOne K (.type "list") (.type "tuple")=some false:=by kernel_rfl
theorem Lp{K:ae}:kitOne K (.type "tuple") (.type "bool")=some false:=by kernel_rfl
theorem Lq{K:ae}:kitOne K (.type "tuple") (.type "int")=some false:=by kernel_rfl
theorem Lr{K:ae}:kitOne K (.type "tuple") (.type "str")=some false:=by kernel_rfl
theorem Ls{K:ae}:kitOne K (.type "tuple") (.type "list")=some false:=by kernel_rfl
theorem Lu{K:ae}:kitOne K (.type "tuple") (.type "tuple")=some true:=by kernel_rfl
theorem tE(ns:List Int)(o:Option Int):(ns++o.toList).map V.int=ns.map V.int++o.toList.map V.int:=by simp
inductive Dt where
 |ao|bl (b:Bool)|int (i:Int)|str (x:Str)|lst (ds:List Dt)|tup (ds:List Dt)
def At(H:Hp):Nat->V->Dt->Prop
 |_,v,.ao=>v=.ao
 |_,v,.bl b=>v=.bl b
 |_,v,.int i=>v=.int i
 |_,v,.str x=>v=.str x
 |0,_,.lst _=>False
 |0,_,.tup _=>False
 |m+1,v,.lst ds=>∃a xs,v=.ref a/\H a=some (.lst xs)/\ds.length<=1000/\Paired (At H m) xs ds
 |m+1,v,.tup ds=>∃a xs,v=.ref a/\H a=some (.tup xs)/\ds.length<=1000/\Paired (At H m) xs ds
theorem At.same(g:aj H H'):∀{m:Nat} {v:V} {d:Dt},At H m v d->At H' m v d
 |_,_,.ao,h=>by unfold At at h⊢;exact h
 |_,_,.bl _,h=>by unfold At at h⊢;exact h
 |_,_,.int _,h=>by unfold At at h⊢;exact h
 |_,_,.str _,h=>by unfold At at h⊢;exact h
 |0,_,.lst _,h=>by unfold At at h;exact h.elim
 |0,_,.tup _,h=>by unfold At at h;exact h.elim
 |m+1,_,.lst _,h=>by
  obtain⟨a,xs,e,h1,h2,h3⟩:=h;exact⟨a,xs,e,g _ _ h1,h2,L2.Paired.iU h3 λ_ _ z=>At.same g z⟩
 |m+1,_,.tup _,h=>by
  obtain⟨a,xs,e,h1,h2,h3⟩:=h;exact⟨a,xs,e,g _ _ h1,h2,L2.Paired.iU h3 λ_ _ z=>At.same g z⟩
section
variable {H:Hp}{m:Nat}
theorem Cb(b:Bool):At H m (.bl b) (.bl b):=by unfold At;rfl
theorem BJ(i:Int):At H m (.int i) (.int i):=by unfold At;rfl
theorem lU(x:Str):At H m (.str x) (.str x):=by unfold At;rfl
theorem oI(h:H a=some (.tup xs))(l:ds.length<=1000)(p:Paired (At H m) xs ds):At H (m+1) (.ref a) (.tup ds):=by unfold At;exact⟨a,xs,rfl,h,l,p⟩
theorem AY:∀ns:List Int,Paired (At H m) (ns.map V.int) (ns.map Dt.int)
 |[]=>.nil
 |n::r=>.cons (BJ n) (AY r)
theorem uc{a:Addr}{ns:List Int}(h:H a=some (.tup (ns.map V.int)))(l:ns.length<=1000):At H (m+1) (.ref a) (.tup (ns.map Dt.int)):=oI h (by rw[Ya];exact l) (AY ns)
end
theorem y0:∀{xs:List α} {ys:List β} {i:Nat} {x:α},Paired F xs ys->xs[i]?=some x->∃y,ys[i]?=some y/\F x y:=by
 intro xs ys i x h;induction h generalizing i with
 |nil=>intro e;simp at e
 |cons r t ih=>
  intro e;cases i with
  |zero=>
   have e:=Yl (show some _=some _ by simpa using e);subst e;exact⟨_,rfl,r⟩
  |succ i=>
   obtain⟨y,h1,h2⟩:=ih (i:=i) (by simpa using e);exact⟨y,by simpa using h1,h2⟩
theorem y4:∀{xs:List α} {ys:List β},Paired F xs ys->xs.length=ys.length:=by
 intro xs ys h;induction h with
 |nil=>rfl
 |cons _ _ ih=>rw[Yy,Yy,ih]
theorem Ah{α:Type}{xs:List α}{i:Nat}{x:α}(h:xs[i]?=some x):d8 xs (0+(i:Int))=some x:=by
 rw[show(0:Int)+(i:Int)=(i:Int) from by omega];exact bZ h
def XP(H:Hp)(C:Addr)(wd:Str)(E:XK):Prop:=∀(a d:Addr) (H':Hp),H a=none->H d=none->aj H H'->H' a=some (xo a C (some d))->H' d=some (xq d [("word",.str wd)])->E (.ref C) (some d) H'
theorem XP.same(x:XP H C wd E)(g:aj H H1):XP H1 C wd E:=λa d H' h1 h2 g' h3 h4=>x a d H' (g.free h1) (g.free h2) (g.trans g') h3 h4
theorem dI.of{K:ae}{C f:Addr}(x:aW K C)(init:PySem.W.findIn K (.ref C) "__init__"=some (some (.ref f)))(fn:isFn K (.ref f)=true)(kp:keepIn K (.ref C)=true):dI K C f:=by
 obtain⟨nm,q,N,bs,cs,sn,sub,ab,col,dd,k0,k1,k2,k3,k5,l⟩:=id x.dk;have no:∀n:String,dJ.contains (.type n)=false->PySem.W.mroIn K C (.type n)=some false:=λn hn=>by
  unfold PySem.W.mroIn PySem.W.clsIn
  grind
 exact⟨⟨nm,q,N,bs,_,sn,sub,ab,col,dd,k0,k1,k2,k3,k5,l⟩,x.mro _ (by decide),x.mro _ (by decide),no _ (by decide),no _ (by decide),init,fn,kp⟩
theorem Ka{K:ae}{C:Addr}{nm q:Str}{N:Addr}{bs:List Value}{sn:List Str}{sub:List Value}{ab:Bool}{col:Option Bool}{dd:Option Addr}{k0 k1 k2 k3 k5:Option Value}
  (l:K.lookup C=some (excClassObj nm q C N bs dJ true sn sub ab col dd k0 k1 k2 k3 k5 "ValueError.__new__"))(h1:PySem.W.findIn K (.ref C) "__getattribute__"=some (some (.builtin "BaseException.__getattribute__")))(h2:PySem.W.findIn K (.ref C) "__getattr__"=some none)
  (h3:PySem.W.findIn K (.ref C) "__setattr__"=some (some (.builtin "object.__setattr__")))(h4:PySem.W.findIn K (.ref C) "__class__"=some (some (.builtin "object.__class__")))(h5:specialIn K (.builtin "object.__class__") "__get__"=some (some (.builtin "getset_descriptor.__get__")))
  (h6:takesIn K (.builtin "object.__class__")=some true):aW K C:=⟨⟨nm,q,N,bs,[],sn,sub,ab,col,dd,k0,k1,k2,k3,k5,l⟩,h1,h2,h3,h4,h5,h6⟩
theorem ud{K:ae}{C B:Addr}{nm q:Str}{N:Addr}{bs:List Value}{sn:List Str}{sub:List Value}{ab:Bool}{col:Option Bool}{dd:Option Addr}{k0 k1 k2 k3 k5:Option Value}
  (l:K.lookup C=some (excClassObj nm q C N bs (.ref B::dJ) true sn sub ab col dd k0 k1 k2 k3 k5 "ValueError.__new__"))(h1:PySem.W.findIn K (.ref C) "__getattribute__"=some (some (.builtin "BaseException.__getattribute__")))(h2:PySem.W.findIn K (.ref C) "__getattr__"=some none)
  (h3:PySem.W.findIn K (.ref C) "__setattr__"=some (some (.builtin "object.__setattr__")))(h4:PySem.W.findIn K (.ref C) "__class__"=some (some (.builtin "object.__class__")))(h5:specialIn K (.builtin "object.__class__") "__get__"=some (some (.builtin "getset_descriptor.__get__")))
  (h6:takesIn K (.builtin "object.__class__")=some true):aW K C:=⟨⟨nm,q,N,bs,[B],sn,sub,ab,col,dd,k0,k1,k2,k3,k5,l⟩,h1,h2,h3,h4,h5,h6⟩
theorem Jr{K:ae}(C:Addr):kitOne K (.ref C) (.ref C)=some true:=by unfold kitOne;rw[if_pos (beq_self_eq_true _)]
def Kb:List V->Hp->VK->Prop:=λxs H Q=>∃(p:Addr) (n:Nat),xs=[.ref p]/\H p=some (.e6 0 (n:Int))/\n<=1000/\∀l:Addr,H l=none->Q (.ref l) (upd H l (.tup ((bD n).map V.int)))
section
variable {prog:Program}{w:World}{A:Around}{E:aC}{s:Shared}
theorem FJ{Q:List Value->Shared->Prop}{r:Addr}{n:Nat}{t u v:Tok}(hh:A.handled=none)(hr:IsRange s.heap r 0 (n:Int) 1 t u v)(hn:n<=1000)
  (k:∀h' tk (acc:Array Value),(∀b o,s.heap.get? b=some o->h'.get? b=some o)->ItemsOf (λi v=>∃t,v=.int (0+i*1) t) acc n->Q acc.toList {s with heap:=h',toks:=tk}):
  wpAny (model prog w) A (collect (.ref r)) Q E s:=by
 refine wpAny_bind (wpAny_runValue (codeAny_builtin PySem.F.entry_proto_collect (wpAny_bind (wpAny_newObj_type (wpAny_pure ⟨plainId_quiet PySem.F.plain_list_iadd _,codeAny_builtin PySem.F.entry_list_iadd ?_⟩)))));have Cc:∀s':Shared,(∃(h':Heap) (tk:Nat) (acc:Array Value) (c:Nat),s'={s with heap:=h',toks:=tk}/\(∀b o,b≠s.heap.objs.size->(s.heap.push {cls:=.type "list",data:=.seq ([]:List Value).toArray}).get? b=some o->h'.get? b=some o)/\
   h'.get? s.heap.objs.size=some {cls:=.type "list",dict:=none,data:=.seq acc c,slots:=#[]}/\ItemsOf (λi v=>∃t,v=.int (0+i*1) t) acc n)->
   wpAny (model prog w) A (match Value.ref s.heap.objs.size with
    |Value.ref a=>do
     match(←load a).data with
      |Data.seq xs _=>pure xs.toList
      |_=>unsupported "internal:collect"
    |_=>unsupported "internal:collect") Q E s':=by
  rintro s' ⟨h',tk,acc,c,rfl,kp,here,af⟩;exact wpAny_bind (wpAny_load here (wpAny_pure (k h' tk acc (λb o hb=>kp b o (Yh (Yd hb)) (Yb _ hb)) af)))
 refine wpAny_mono (wpAny_extend_range (s:={s with heap:=s.heap.push {cls:=.type "list",data:=.seq ([]:List Value).toArray}})
  (R:=λr s'=>r=.ok (.ret (.ref s.heap.objs.size))/\∃(h':Heap) (tk:Nat) (acc:Array Value) (c:Nat),s'={s with heap:=h',toks:=tk}/\(∀b o,b≠s.heap.objs.size->(s.heap.push {cls:=.type "list",data:=.seq ([]:List Value).toArray}).get? b=some o->h'.get? b=some o)/\
   h'.get? s.heap.objs.size=some {cls:=.type "list",dict:=none,data:=.seq acc c,slots:=#[]}/\ItemsOf (λi v=>∃t,v=.int (0+i*1) t) acc n)
  hh (Yb _ hr) (small_one (by omega) (by omega) (by omega) (by omega)) (by rw[rangeSize_one];split<;>omega) (by omega) _ _ 0 (Ye _ rfl) λh' tk acc c kp here af=>⟨rfl,h',tk,acc,c,rfl,kp,here,af⟩) (λfin s' z=>?_) λe s' z=>?_
 ·cases fin with
  |done f=>obtain⟨q,x⟩:=z;cases q;exact Cc _ x
  |again c'=>exact⟨z.1,codeAny_mono z.2 λr ja hr=>by obtain⟨rfl,hz⟩:=hr;exact Cc ja hz⟩
 ·cases z.1
theorem Kc(r:Addr)(n:Nat)(t u v:Tok)(hn:n<=1000):
  Meets (Builtin.«tuple.__new__» ⟨[.type "tuple",.ref r],[]⟩) (λA R s=>A.handled=none/\IsRange s.heap r 0 (n:Int) 1 t u v/\∀(h':Heap) (tk:Nat) (acc:Array Value),(∀b o,s.heap.get? b=some o->h'.get? b=some o)->ItemsOf (λi v=>∃t,v=.int (0+i*1) t) acc n->
   R (.ok (.ret (.ref h'.objs.size))) {s with heap:=h'.push {cls:=.type "tuple",data:=.seq acc},toks:=tk}):=
 .of_wp λprog w A R s h=>by
  obtain⟨hp,g,d,tk,os⟩:=s;obtain⟨hh,ht,q⟩:=h;have sub:=sub_tuple_self;have Uu:=init_tuple_lookup;have mh:=madeHere_tuple;have QI:A.in1.handled=none:=hh
  wp_walk using PySem.AutoSeq1.wpAny_loadPart' ht,wpAny_typeOf ty,FJ (A:=A.in1) QI ht hn
  intro h' mW acc kp af;show wpAny _ _ (Builtin.Tuple.tupleExact acc.toList.toArray>>=λv=>ret v) _ _ _;unfold Builtin.Tuple.tupleExact;have lz:acc.toList.toArray.size<=sizeLine:=by
   have e:=af.1;rw[sizeLine_eq];simp;omega
  refine wpAny_bind (wpAny_newObj_type (wpAny_pure ⟨_,rfl,?_⟩) lz);have e:acc.toList.toArray=acc:=by simp
  rw[e];exact q h' mW acc kp af
end
theorem EZ(hc:X.calm=true):bC X (.type "tuple") Kb:=by
 intro pins s σ H xs us Q I r h;obtain⟨p,n,rfl,hp,hn,q⟩:=h;obtain⟨u,rfl,rx⟩:=vals1 r;cases rx;obtain⟨t,u,v,ho⟩:=I.ah p _ hp;refine callType_new PySem.F.called_tuple (by decide) (PySem.F.typeCall_tuple_1 _) (PySem.F.newCall_tuple_1 _) (λobj=>PySem.F.args_object_init_2 obj _) PySem.F.entry_tuple_new (Kc p n t u v hn) ⟨I.ok.hd hc,ho,λh' tk acc kp af=>⟨⟨_,Ye _ rfl,rfl⟩,?_⟩⟩;have I1:=I.kept (t':=tk) kp;have vs:Vals ((bD n).map V.int) acc.toList:=by
  refine nD (by rw[Ya,dB];simp[af.1]) λi x u e1 e2=>?_;obtain⟨t',rfl⟩:=af.2 i u (by simpa using e2);have hi:i<n:=by
   have:=(Yk.mp e1).1;rw[Ya,dB] at this;exact this
  rw[Yj,iJ hi] at e1;have e3:=Yl e1;subst e3;exact⟨t',by rw[show(0:Int)+(i:Int)*1=(i:Int) by omega]⟩
 have I2:Inv X pins σ (upd H h'.objs.size (.tup ((bD n).map V.int))) {s with heap:=h'.push {cls:=.type "tuple",data:=.seq acc},toks:=tk}:=
  I1.laid (t':=tk) (λb o e=>Yb _ e) (Yc _) (show bo X.prog X.w _ _ _ (.tup _) from⟨by rw[Ya,dB];exact Wo (eS hn),acc.toList,vs,by simpa using gk.new h' acc⟩)
 exact⟨.ref h'.objs.size,_,I2,rfl,q _ (I1.ah.fresh (Yc _))⟩
inductive AZ(K:ae)(vs:List V)(H:Hp)(Q:VK):Prop
 |mk (a C:Addr) (wd y:Str) (aP:vs=[.ref a,.str wd,.str y]) (aQ:H a=some (xn a C none)) (bc:aW K C) (bN:b_ K C "word") (cw:wd.length<=100) (fb:y.length<=1000000) (kW:∀d,H d=none->d≠a->Q .ao (upd (upd H d (xq d [("word",.str wd)])) a (xn a C (some d)))):AZ K vs H Q
def iS(K:ae):Sp:=λvs H Q _=>AZ K vs H Q
def kA(wd:Str)(c:Addr):Sp:=λvs H Q _=>∃(a:Addr) (y:Str),vs=[.ref a,.str y]/\H a=some (xn a c none)/\y.length<=1000000/\
 ∀d,H d=none->d≠a->Q .ao (upd (upd H d (xq d [("word",.str wd)])) a (xn a c (some d)))
abbrev eg:List Str:=["self","why"]
def kj(P:Program)(w:World)(K:ae)(mg:aF)(base:Heap)(x wd:Str)(c:Addr):Prop:=
 ∃fi fd,dI K c fi/\aG P w K mg base aR 2 fi fd eg (kA wd c)/\Binds K fd eg []/\mg x=some (.ref c)/\aW K c/\b_ K c "word"
abbrev TF:=St->Hp->(Hp->Prop)->Prop
def Nc:TF:=λ_ H R=>R H
def Mf(te:TE)(tr:TF):TF:=λσ H R=>te σ H λx H1=>∃y:Str,x=.str y/\y.length<=4000/\tr σ H1 R
def PF(X:Cx)(es:List Expr)(t:TF):Prop:=
 ∀(pins:ax) (s:Shared) (σ:St) (H:Hp) (acc:Str) (R:Hp->Prop) (Q:Str->Shared->Prop),Inv X pins σ H s->acc.length+4000*es.length<=sizeLine->t σ H R->
  (∀z s' H',Inv X pins σ H' s'->z.length<=acc.length+4000*es.length->R H'->Q z s')->PySem.Joins X.md X.A X.xe (evalEach es X.env) acc Q s
def QJ(n:Nat)(t:TF):TE:=λσ H Q=>t σ H λH1=>∀z:Str,z.length<=4000*n->Q (.str z) H1
section
variable {X:Cx}{e e2:Expr}{es:List Expr}{te:TE}{t:TF}{pos:Pos}
theorem BK:PF X [] Nc:=λ_ s _ H acc _ _ I _ h k=>k acc s H I (by simp) h
theorem om(he:PE X e te)(hr:PF X es t):PF X (e::es) (Mf te t):=by
 intro pins s σ H acc R Q I lim h k;refine ay (he pins s σ H _ I h) λu s1 zq=>?_;obtain⟨x,H1,I1,rx,y,ex,l,q⟩:=zq;subst ex;obtain⟨tk,rfl⟩:=rx;rw[Yy] at lim;have e1:(acc++y).length=acc.length+y.length:=strLen_append ..;refine⟨y,tk,rfl,by omega,hr pins s1 σ H1 (acc++y) R Q I1 (by omega) q λz s' H' I' lz r=>k z s' H' I' ?_ r⟩
 grind
theorem Ai{n:Nat}(h:PF X (e::e2::es) t)(hn:(e::e2::es).length=n:=by rfl)(sm:n<=100:=by decide):PE X (.JoinedStr (e::e2::es) pos) (QJ n t):=by
 subst hn;intro pins s σ H Q I hq;have lim:Str.empty.length+4000*(e::e2::es).length<=sizeLine:=by
  have e0:Str.empty.length=0:=rfl;rw[sizeLine_eq];omega
 refine wpAny_JoinedStr (h pins s σ H Str.empty _ _ I lim hq λy s1 H1 I1 l q=>?_);have e0:Str.empty.length=0:=rfl;exact⟨by omega,.str y,H1,I1.tok _,⟨_,rfl⟩,q y (by omega)⟩
end
def tW(te:TE)(R:St->Hp->VK):TE:=λσ H Q=>te σ H (R σ H)/\∀v H1,R σ H v H1->Q v H1
theorem PE.weak{X:Cx}{e:Expr}{te:TE}(h:PE X e te)(R:St->Hp->VK):PE X e (tW te R):=λpins s σ H Q I ⟨q,k⟩=>ay (h pins s σ H (R σ H) I q) λ_ _ ⟨v,H1,I1,r,z⟩=>⟨v,H1,I1,r,k v H1 z⟩
def A1(c:Addr)(wd:Str)(E:St->XK)(te:TE):TS:=λ_ σ H=>te σ H λv H1=>∃y:Str,v=.str y/\y.length<=1000000/\XP H1 c wd (E σ)
theorem nN{X:Cx}{j:Nat}{x wd:Str}{c:Addr}{E:St->XK}{e:Expr}{te:TE}{p pos bI:Pos}(h:kj X.prog X.w X.K X.mg X.base x wd c)(hr:aV j X.A)(hj:3<=j)(hc:X.calm=true)(hg:Gl X x)(hx:ky X E)(he:PE X e te)
  (bx:(x==("__debug__":Str))=false:=by decide)(cq:starEach [e] X.env=[(false,eval e X.env)]:=by rfl):
  PS X (.Raise (some (.Call (.Name x p) [e] [] bI)) none pos) (A1 c wd E te):=by
 obtain⟨fi,fd,xc,F,b,m,xa,na⟩:=h;intro pins s σ H D I q;refine Af xc F (hr.mono hj) hc hg m b .nil hx (aa (he.weak λσ _ v H1=>∃y:Str,v=.str y/\y.length<=1000000/\XP H1 c wd (E σ)) ag cq) bx cq rfl pins s σ H D I ⟨q,?_⟩;rintro v H1 ⟨y,rfl,ly,xp⟩;refine⟨by show 1<=1000;omega,λa ha=>⟨a,y,rfl,aw,ly,λd hd nd=>⟨rfl,d,aw,?_⟩⟩⟩;have gO:H1 d=none:=by rw[ak nd] at hd;exact hd
 refine xp a d _ ha gO (λb o e=>?_) aw ?_
 ·have n1:b≠a:=bg e ha;rw[ak n1,ak n1,ak (bg e gO),ak n1];exact e
 ·rw[ak nd,ak nd,aw]
theorem Js{X:Cx}{K:ae}(h:X.K=K):bC X (.builtin "isinstance") (B9 K):=h▸Fj
theorem Jt{X:Cx}{K:ae}{e:Expr}{ta:TE}{f:Str}{pos:Pos}(h:X.K=K)(he:PE X e ta)(hb:attributeBase e f X.env (eval e X.env)=eval e X.env:=by rfl):PE X (.Attribute e f pos) (B8 K ta f):=h▸J7 he hb
end L2
namespace L2
open PySem PySem.Spec PyProof.Rows
open PySem.W (Looks InstAt looks_findIn looks_typeIn looks_clsIn looks_mroIn looks_find findObj findIn mroIn clsIn)
def jg(H:Hp)(C:Addr)(fs:List (Str×V))(E:XK):Prop:=∀(a d:Addr) (H':Hp),H a=none->H d=none->aj H H'->H' a=some (xo a C (some d))->H' d=some (xq d fs)->E (.ref C) (some d) H'
theorem jg.same{H H1:Hp}{C:Addr}{fs:List (Str×V)}{E:XK}(x:jg H C fs E)(g:aj H H1):jg H1 C fs E:=λa d H' h1 h2 g' h3 h4=>x a d H' (g.free h1) (g.free h2) (g.trans g') h3 h4
def DM(c:Addr)(pre:List V->List (Str×V)->Prop):Sp:=λvs H Q _=>∃(a:Addr) (as:List V) (fs:List (Str×V)),vs=.ref a::as/\H a=some (xn a c none)/\pre as fs/\
 ∀(d:Addr) (H':Hp),H d=none->d≠a->(∀b o,H b=some o->b≠a->H' b=some o)->H' a=some (xn a c (some d))->H' d=some (xq d fs)->Q .ao H'
def ue(P:Program)(w:World)(K:ae)(mg:aF)(base:Heap)(k:Nat)(x:Str)(c:Addr)(ps:List Str)(pre:List V->List (Str×V)->Prop):Prop:=
 ∃fi fd,dI K c fi/\aG P w K mg base aR k fi fd ("self"::ps) (DM c pre)/\Binds K fd ("self"::ps) []/\mg x=some (.ref c)/\aW K c/\b_ K c "word"
def Kd(c:Addr)(pre:List V->List (Str×V)->Prop)(E:St->XK)(t:TA):TS:=λ_ σ H=>t σ H λas H1=>∃fs,as.length<=1000/\pre as fs/\jg H1 c fs (E σ)
def QK(t:TA)(R:St->Hp->List V->Hp->Prop):TA:=λσ H Q=>t σ H (R σ H)/\∀vs H1,R σ H vs H1->Q vs H1
theorem PA.weak{X:Cx}{es:List Expr}{t:TA}(h:PA X es t)(R:St->Hp->List V->Hp->Prop):PA X es (QK t R):=λpos pins s σ H Q I ⟨q,k⟩=>ay (h pos pins s σ H (R σ H) I q) λ_ _ ⟨vs,H1,I1,r,z⟩=>⟨vs,H1,I1,r,k vs H1 z⟩
theorem Iq{X:Cx}{j k:Nat}{x:Str}{c:Addr}{ps:List Str}{pre:List V->List (Str×V)->Prop}{E:St->XK}{e:Expr}{es:List Expr}{t:TA}{p pos bI:Pos}(h:ue X.prog X.w X.K X.mg X.base k x c ps pre)(hr:aV j X.A)(hj:k+1<=j)(hc:X.calm=true)(hg:Gl X x)(hx:ky X E)(ha:PA X (e::es) t)
  (bx:(x==("__debug__":Str))=false:=by decide)(he:cR X e es:=by rfl)(bt:cX X bI es:=by rfl):
  PS X (.Raise (some (.Call (.Name x p) (e::es) [] bI)) none pos) (Kd c pre E t):=by
 obtain⟨fi,fd,xc,F,b,m,xa,na⟩:=h;intro pins s σ H D I q;refine Af xc F (hr.mono hj) hc hg m b .nil hx (ha.weak λσ _ as H1=>∃fs,as.length<=1000/\pre as fs/\jg H1 c fs (E σ)) bx he bt pins s σ H D I ⟨q,?_⟩;rintro as H1 ⟨fs,lim,p0,xp⟩;refine⟨lim,λa ha=>⟨a,as++[],fs,rfl,aw,by rw[Yx];exact p0,λd H' hd nd kp ea ed=>⟨rfl,d,ea,?_⟩⟩⟩;have gO:H1 d=none:=by rw[ak nd] at hd;exact hd
 refine xp a d _ ha gO (λb o e=>?_) aw (by rw[ak nd];exact ed);have n1:=bg e ha;rw[ak n1];exact kp b o (by rw[ak n1];exact e) n1
section
variable {X:Cx}{B1 B2:Addr}{i:Nat}{n x1 x2:Str}{body T7 T8:List Stmt}{b1 b2:Stmt}{Uv Uw Ux ir pos:Pos}{tb:(St->XK)->TS}{Uy Uz:TS}
end
def uO(P:Program)(w:World)(K:ae)(mg:aF)(base:Heap)(k:Nat)(x:Str)(C:Addr)(ps:List Str)(sp:Sp):Prop:=
 ∃f fd,Mk K C f/\aG P w K mg base (gN P w) k f fd ps sp/\Binds K fd ps []/\mg x=some (.ref C)
theorem Lv{X:Cx}{k j:Nat}{x:Str}{C:Addr}{ps:List Str}{sp:Sp}{E:St->XK}{p pos:Pos}{e:Expr}{es:List Expr}{t:TA}(h:uO X.prog X.w X.K X.mg X.base k x C ps sp)(hr:aV j X.A)(hj:k+1<=j)(hx:ky X E)(hg:Gl X x)(ha:PA X (e::es) t)(bx:(x==("__debug__":Str))=false:=by decide)
  (he:cR X e es:=by rfl)(bt:cX X pos es:=by rfl):PE X (.Call (.Name x p) (e::es) [] pos) (BB C sp E t):=by
 obtain⟨f,fd,M,F,b,hm⟩:=h;exact Jm M F (hr.mono hj) hg hm b hx ha bx he bt
end L2
namespace QL
open L2
section
variable {t:List Int}{n:Nat}
end
end QL
namespace L2
open PySem PySem.Spec PyProof.Rows
def Row(K:ae)(H:Hp)(p:Addr)(ns:List Int):Prop:=ai K H p (ns.map V.int)\/aq K H p (ns.map V.int)
theorem Row.same{K:ae}{H H':Hp}{p:Addr}{ns:List Int}(e:aj H H')(h:Row K H p ns):Row K H' p ns:=by
 rcases h with h|h;·exact .inl (e.seq h)
 ·exact .inr (e.cm h)
def full(ns:List Int):Bool:=decide (ns.Perm (bD ns.length))
theorem nO(h:full ns=true):ns.Perm (bD ns.length):=of_decide_eq_true h
theorem uf(h:ns.Perm (bD n)):full ns=true:=decide_eq_true (by rw[h.length_eq,dB];exact h)
theorem FK(n:Nat):(bD n).Pairwise (·<=·):=by
 unfold bD;rw[List.pairwise_map];exact List.pairwise_lt_range.imp λh=>by omega
theorem y6:∀{as bs:List Int},as.Perm bs->as.Pairwise (·<=·)->bs.Pairwise (·<=·)->as=bs
 |[],bs,p,_,_=>by
  simp_all
 |a::as,[],p,_,_=>by
  simp_all
 |a::as,b::bs,p,h1,h2=>by
  rw[List.pairwise_cons] at h1 h2;have e:a=b:=by
   have ha:=p.subset Y2;have hb:=p.symm.subset Y2
   grind
  subst e;rw[y6 (List.Perm.cons_inv p) h1.2 h2.2]
theorem yG(p:bJ.Perm ns)(h:bJ.Pairwise (·<=·)):decide (bJ=bD ns.length)=full ns:=by
 unfold full;rw[Wv,decide_eq_true_iff,decide_eq_true_iff];constructor;·grind
 ·intro q;exact y6 (p.trans q) h (FK _)
def Cd(K:ae)(neg:Bool)(tr:TE):TE:=gK (pw K neg) (dq (t9 K) (cC tr cP)) (dq z9 (cC (dq AR (cC (dq (mn K) (cC tr cP)) cP)) cP))
theorem Ju{K:ae}{i:Nat}{neg:Bool}{σ:St}{H:Hp}{p:Addr}{ns:List Int}{Q:VK}(hi:σ[i]?=some (some (.ref p)))(hR:Row K H p ns)(fO:ns.length<64)(q:∀H',aj H H'->Q (.bl (if neg=true then !full ns else full ns)) H'):
   (Cd K neg (di i)) σ H Q:=by
 refine⟨_,hi,p,ns,rfl,hR,fO,λl bJ hl pm so=>?_⟩;have g1:aj H (upd H l (.lst (bJ.map V.int))):=a_ hl _;refine⟨_,hi,p,ns.map V.int,rfl,Row.same g1 hR,_,rfl,λr hr=>⟨r,(ns.map V.int).length,rfl,aw,by rw[Ya];omega,λu hu=>?_⟩⟩;have g3:=(g1.trans (a_ hr (.e6 0 (((ns.map V.int).length:Nat):Int)))).trans (a_ hu (.lst ((bD (ns.map V.int).length).map V.int)));refine⟨l,u,bJ,bD (ns.map V.int).length,rfl,rfl,ai.of ?_,ai.of aw,?_⟩
 ·rw[ak (bg ((a_ hr _) _ _ aw) hu)];exact(a_ hr _) _ _ aw
 ·rw[Ya,yG pm so]
  grind
theorem any_false(n:Nat):(List.replicate n false).any id=false:=by
 induction n with
 |zero=>rfl
 |succ n ih=>grind
abbrev Sm(n:Int):Prop:=n.natAbs.log2<1920
theorem y8:∀{ns:List Int},(∀n∈ns,Sm n)->piled (PyData.shownAll (ns.map PyData.int))<=1923*ns.length
 |[],_=>by simp[PyData.shownAll,piled]
 |n::r,h=>by
  have ih:=y8 λm hm=>h m (Yw _ hm);have h1:=PyProof.Rows.int_text_len_1921 (h n Y2);have e:piled (PyData.shownAll ((n::r).map PyData.int))=((Str.ofString (toString n)).length+2)+piled (PyData.shownAll (r.map PyData.int)):=by
   rfl
  grind
theorem shown_le{ns:List Int}(h:∀n∈ns,Sm n)(l:ns.length<64):(PyData.tuple (ns.map PyData.int)).shown.length<=200000:=by
 have hp:=y8 h;show(tupleText (PyData.shownAll (ns.map PyData.int))).length<=200000;unfold tupleText;rw[strLen_append,strLen_append];have e1:(Str.ofString "(").length=1:=rfl;have e2:∀b:Bool,(Str.ofString (if b=true then",)" else")")).length<=2:=λb=>by cases b<;>decide
 have e3:=e2 ((PyData.shownAll (ns.map PyData.int)).length==1);have e4:(Str.join ", " (PyData.shownAll (ns.map PyData.int))).length<=1923*ns.length:=by
  by_cases z:PyData.shownAll (ns.map PyData.int)=[]
  ·rw[z];exact Y1 _
  ·have:=join_length_add _ z;omega
 omega
theorem tP(h0:-(2^1000)<n)(h1:n<2^1000):Sm n:=by
 have h:n.natAbs<2^1000:=by omega
 by_cases z:n.natAbs=0;·simp_all
 ·exact Nat.lt_trans ((Nat.log2_lt z).mpr h) (by decide)
section
open PySem.AutoSeq1 (wpAny_loadPart')
open PySem.MeetsSeq PySem.SeqAt
theorem E8(l:Addr)(items:Array Value)(n:Nat)(dd:Option Addr)(sl:Array (Option Value))(x:Value)(e:Value->Bool)(j:Nat)(hj:j<items.size)
  (hit:e items[j]=true)(wb:∀m (hm:m<items.size),m<j->e items[m]=false):
  Meets (Builtin.«tuple.index» ⟨[.ref l,x],[]⟩)
   (λA R s=>s.heap.get? l=some {cls:=.type "tuple",dict:=dd,data:=.seq items n,slots:=sl}/\(∀y,y∈items->EqAt A.in1 s y x (e y))/\R (.ok (.ret (.int j s.toks))) {s with toks:=s.toks+1}):=
 .of_wp λprog w A R s h=>by
  obtain⟨hp,g,d,tk,os⟩:=s;obtain⟨hl,he,h⟩:=h
  wp_walk using wpAny_loadPart' hl
  show wpAny _ _ (forIn (m:=Sem) [:min items.size items.size] (none,()) _) _ _ _;rw[Std.Legacy.Range.forIn_eq_forIn_range'];refine wpAny_forIn_list _ (λrest b s'=>s'=⟨hp,g,d,tk,os⟩/\∃i,i<=j/\rest=List.range' i (items.size-i)) _ ?_ ?_ _ _ ⟨rfl,0,Y1 _,by simp⟩
  ·rintro k rest b s' ⟨rfl,i,hi,hr⟩;have bf:i<items.size:=by omega
   obtain⟨rfl,Mg⟩:k=i/\rest=List.range' (i+1) (items.size-(i+1)):=by
    have e:items.size-i=(items.size-(i+1))+1:=by omega
    rw[e,List.range'_succ] at hr;injection hr with h1 h2;exact⟨h1,h2⟩
   rw[Y0 bf];refine wpAny_bind (he _ (Array.getElem_mem bf) prog w _ _ ?_);rcases Jc k j with hk|hk
   ·rw[wb k bf hk]
    wp_walk
    exact⟨rfl,k+1,by omega,Mg⟩
   ·obtain rfl:k=j:=by omega
    rw[hit]
    wp_walk
    exact⟨_,rfl,h⟩
  ·grind
end
def Lw(to:TE)(t:TA):TE:=λσ H Q=>to σ H λx H1=>∃(p:Addr) (ns:List Int),x=.ref p/\H1 p=some (.tup (ns.map V.int))/\t σ H1 λvs H2=>∃(z:Int) (j:Nat),vs=[.int z]/\H2 p=some (.tup (ns.map V.int))/\ns[j]?=some z/\(∀m,m<j->ns[m]?≠some z)/\Q (.int (j:Int)) H2
theorem E9:∀{ns:List Int} {us:List Value} {j:Nat} (h:j<us.length),Vals (ns.map V.int) us->∃n t,ns[j]?=some n/\us[j]=.int n t:=by
 intro ns;induction ns with
 |nil=>intro us j h r;cases r;simp at h
 |cons n ns ih=>
  intro us j h r;rw[Wi] at r;cases r with
  |cons r t=>
   cases j with
   |zero=>
    obtain⟨t',rfl⟩:=r;exact⟨n,t',rfl,rfl⟩
   |succ j=>
    obtain⟨n',t',e1,e2⟩:=ih (j:=j) (by simpa using h) t;exact⟨n',t',by simpa using e1,by simpa using e2⟩
theorem Ir(ns:List Int):(ns.map V.int).all kr=true:=by
 induction ns with
 |nil=>rfl
 |cons n ns ih=>rw[Wi,List.all_cons,ih];rfl
theorem FL(ho:PE X o to)(ha:PA X [e] t)
  (u3:attributeBase o "index" X.env (eval o X.env)=eval o X.env:=by rfl)
  (vD:((backTo bI (starEach [e] X.env)).all (λx=>!x.1)&&(backToKw bI (keywordEach [] X.env)).all (λx=>x.1.isSome)
   &&decide ([e].length+([]:List Keyword).length+(if([]:List Keyword).isEmpty then 0 else 1)<30))=true:=by rfl)
  (u4:(apos.endLine==bI.line)=true:=by rfl)(hs:starEach [e] X.env=(false,eval e X.env)::starEach [] X.env:=by rfl):
  PE X (.Call (.Attribute o "index" apos) [e] [] bI) (Lw to t):=by
 intro pins s σ H Q I h;refine wpAny_Call_method_late u3 vD u4 rfl (ay (ho pins s σ H _ I h) λv s1 zq=>?_);obtain⟨x,H1,I1,r1,p,ns,ex,hp,q1⟩:=zq;subst ex;obtain rfl:v=Value.ref p:=r1;obtain⟨_,_,_,ob,g,oc,_,_,od⟩:=(show bo X.prog X.w H1 s1.heap p (.tup (ns.map V.int)) from I1.ah p _ hp);refine⟨"tuple","tuple.index",F.plainAttrs_tuple,F.slot_tuple_index,F.type_tuple_index,⟨ob,g,oc⟩,λa ea=>by cases ea;exact⟨ob,g,od⟩,?_⟩;have hA:=ha bI pins s1 σ H1 _ I1 q1;rw[hs] at hA⊢;refine Calls.callWith_builtin rfl (Calls.evalArgs_plain ?_);refine ay hA λus s2 zq=>?_;obtain⟨vs,H2,I2,r2,z,j,ev,ir,hj,wb,q2⟩:=zq;subst ev;obtain⟨u,rfl,ru⟩:=r2.one;obtain⟨tz,rfl⟩:=ru;obtain⟨_,af,rv,⟨cls,dd,data,sl⟩,g2,p5,n2,p6,_⟩:=(show bo X.prog X.w H2 s2.heap p (.tup (ns.map V.int)) from I2.ah p _ ir);simp only at p5 p6;subst p5 p6;have hlen:af.length=ns.length:=by have:=rv.length;rw[Ya] at this;omega
 have DN:j<af.length:=by rw[hlen];exact(Yk.mp hj).1
 have ix:∀m (hm:m<af.length),pP (.int z) af[m]=decide (ns[m]?=some z):=λm hm=>by
  obtain⟨n',t',e1,e2⟩:=E9 hm rv;rw[e1,e2];show(n'==z)=decide (some n'=some z)
  grind
 refine call_meets F.slot_tuple_index ⟨_,g2,rfl⟩ F.entry_tuple_index (F.args_tuple_index_2 _ _) (E8 p af.toArray n2 dd sl (.int z tz) (pP (.int z)) j (by rw[Yf];exact DN) ?_ ?_) ⟨g2,?_,?_⟩;·rw[List.getElem_toArray,ix j DN];exact decide_eq_true hj
 ·intro m hm bf;rw[List.getElem_toArray,ix m (by simpa using hm)];exact decide_eq_false (wb m bf)
 ·intro y hy;exact IZ (x:=.int z) ⟨tz,rfl⟩ rfl rv (Ir ns) y (by simpa using hy)
 ·exact⟨.int _,H2,I2.tok _,⟨_,rfl⟩,q2⟩
section
variable {κ:Type}[DecidableEq κ]
def putK(av:List (κ×V))(k:κ)(v:V):List (κ×V):=
 if(av.any λkv=>decide (kv.1=k))=true then av.map (λkv=>if kv.1=k then(kv.1,v) else kv) else av++[(k,v)]
theorem FN(av:List (κ×V))(k:κ)(v:V):(putK av k v).length<=av.length+1:=by
 unfold putK
 grind
theorem KV.any(r:KV av vs)(k:κ):(av.any λkv=>decide (kv.1=k))=vs.any λkv=>decide (kv.1=k):=by
 induction r with
 |nil=>rfl
 |cons h t ih=>grind
theorem KV.Nd(r:KV av vs)(k:κ)(ry:RelV y u):
  KV (av.map λkv=>if kv.1=k then(kv.1,y) else kv) (vs.map λkv=>if kv.1=k then(kv.1,u) else kv):=by
 induction r with
 |nil=>exact .nil
 |@cons p q ps qs h t ih=>
  refine .cons ?_ ih
  grind
theorem KV.put(r:KV av vs)(k:κ)(ry:RelV y u):KV (putK av k y) (stored vs k u):=by
 unfold putK stored;rw[r.any k];by_cases e:(vs.any λkv=>decide (kv.1=k))=true;·rw[if_pos e,if_pos e];exact r.Nd k ry
 ·rw[if_neg e,if_neg e];exact Paired.snoc r ⟨rfl,ry⟩
end
theorem Mh(r:RelV (kV k) u):(eU P w).is k u=true:=by
 cases k with
 |inl i=>obtain⟨t,e⟩:=(show ∃t,u=Value.int i t from r);subst e;exact FE P w i t
 |inr x=>obtain⟨t,e⟩:=(show ∃t,u=Value.str x t from r);subst e;exact FF P w x t
section
variable {P:Program}{w:World}{H:Hp}{h:Heap}{a:Addr}
theorem Mi(ok:bw P w H h)(e:Rd H a u):bo P w H h a u:=e.ok ok
theorem Mj(ok:bw P w H h)(e:Rd H a (.dK av)):av.length<=sizeLine/\(a==sysModules)=false/\∃vs,KV av vs/\h.DictOf (eU P w) a vs:=
 show bo P w H h a (.dK av) from Mi ok e
theorem Ml(ok:bw P w H h)(e:H a=some (.dK av)):av.length<=sizeLine/\(a==sysModules)=false/\∃vs,KV av vs/\h.DictOf (eU P w) a vs:=Mj ok (.inl e)
end
section
variable {X:Cx}{pins:ax}{σ:St}{H:Hp}{s:Shared}{a:Addr}{y v:V}{u r:Value}{o:Option V}{A:Around}{E:aC}
theorem Inv.big(I:Inv X pins σ H s):sysModules<s.heap.objs.size:=by
 exact Nat.lt_trans (by decide) ((I.mod.glob.keeps I.bk).lt)
theorem Ke(I:Inv X pins σ H s)(mu:mE (H a))(hs:Heap.SameBut a s.heap h')(he:∃q,h'.get? a=some q)(new:bo X.prog X.w (upd H a ob) h' a ob):
  Inv X pins σ (upd H a ob) {s with heap:=h',toks:=t'}:=
 I.write (x:=a) (e:=a) mu (.inl rfl) (λb q hb z=>(hs.2 b hb).trans z) he new
theorem Lx(z:av.length<=sizeLine)(hd:(a==sysModules)=false)(rel:KV av vs)(dd:h'.DictOf (eU P w) a vs):
  bo P w H' h' a (.dK av):=⟨z,hd,vs,rel,dd⟩
end
section
variable {X:Cx}{pins:ax}{σ:St}{H:Hp}{s:Shared}{a:Addr}{av:List (Key×V)}{k:Key}{u:Value}{A:Around}{E:aC}
end
section
variable {X:Cx}{o i e value:Expr}{pos pos' CD:Pos}{td ty tv:TE}
end
theorem Jv(h:Heap)(hb:sysModules<h.objs.size):bo P w H (h.push {cls:=.type "dict",data:=.dict #[]}) h.objs.size (.dK []):=
 ⟨Y1 _,beq_eq_false_iff_ne.mpr (Ne.symm (Yh hb)),[],.nil,Heap.DictOf.new h⟩
section
variable {X:Cx}{pos:Pos}
end
def uP:List (TE×TE)->St->Hp->(List (V×V)->Hp->Prop)->Prop
 |[],_,H,Q=>Q [] H
 |(tk,tv)::r,σ,H,Q=>tk σ H λx H1=>tv σ H1 λy H2=>uP r σ H2 λps H3=>Q ((x,y)::ps) H3
abbrev VV:List (V×V)->List (Value×Value)->Prop:=Paired λp q=>RelV p.1 q.1/\RelV p.2 q.2
def p7(X:Cx)(pos:Pos)(keys:List (Option Expr))(values:List Expr)(jh:List (TE×TE)):Prop:=
 ∀(pins:ax) (s:Shared) (σ:St) (H:Hp) (Q:List (V×V)->Hp->Prop),Inv X pins σ H s->uP jh σ H Q->
  wpAny X.md X.A (evalPairs (pairTrees keys values X.env pos)) (λvs s'=>∃ps H',Inv X pins σ H' s'/\VV ps vs/\Q ps H') X.xe s
theorem A2:p7 X pos [] [] []:=λpins s σ H Q I h=>pairTrees_nil_walk ⟨[],H,I,.nil,h⟩
theorem dC(hk:PE X k tk)(hv:PE X v tv)(hr:p7 X pos ks vs jh):
  p7 X pos (some k::ks) (v::vs) ((tk,tv)::jh):=λpins s σ H Q I h=>
 pairTrees_cons_walk (ay (hk pins s σ H _ I h) λu s1 ⟨x,H1,I1,rx,q1⟩=>ay (hv pins s1 σ H1 _ I1 q1) λw2 s2 ⟨y,H2,I2,ry,q2⟩=>
  ay (hr pins s2 σ H2 _ I2 q2) λws s3 ⟨ps,H3,I3,rel,q3⟩=>⟨(x,y)::ps,H3,I3,.cons ⟨rx,ry⟩ rel,q3⟩)
def km(av more:List (Key×V)):List (Key×V):=more.foldl (λacc kv=>putK acc kv.1 kv.2) av
theorem KV.merge:∀{more:List (Key×V)} {rs:List (Key×Value)} {av:List (Key×V)} {vs:List (Key×Value)},KV more rs->KV av vs->KV (km av more) (merged vs rs):=by
 intro more rs av vs r;induction r generalizing av vs with
 |nil=>intro q;exact q
 |@cons p q ps qs h t ih=>
  intro r0;have e:KV (putK av p.1 p.2) (stored vs q.1 q.2):=by
   have:=r0.put p.1 h.2
   grind
  exact ih e
theorem yu:∀(more av:List (Key×V)),(km av more).length<=av.length+more.length
 |[],av=>by show av.length<=av.length+0;omega
 |p::r,av=>by
  have h1:=yu r (putK av p.1 p.2);have h2:=FN av p.1 p.2;show(km (putK av p.1 p.2) r).length<=_
  grind
theorem y9:∀{av:List (Key×V)} {ws:List (Value×Value)},VV (av.map λkv=>(kV kv.1,kv.2)) ws->∃rs,Carries (eU P w) ws rs/\KV av rs
 |[],_,r=>by rw[List.map_nil] at r;cases r;exact⟨[],True.intro,.nil⟩
 |p::av,_,r=>by
  cases r with
  |@cons a b as bs h t=>
   obtain⟨rs,c,q⟩:=y9 t;obtain⟨b1,b2⟩:=b;exact⟨(p.1,b2)::rs,⟨Mh h.1,rfl,c⟩,.cons ⟨rfl,h.2⟩ q⟩
def Mm(jh:List (TE×TE)):TE:=λσ H Q=>∀p,H p=none->uP jh σ (upd H p (.dK [])) λps H2=>H2 p=some (.dK [])/\∃av:List (Key×V),ps=av.map (λkv=>(kV kv.1,kv.2))/\av.length<=15/\Q (.ref p) (upd H2 p (.dK (km [] av)))
theorem A3(h:p7 X pos keys values jh)(vE:keys.all (·.isSome)=true)(hl:keys.length=values.length)(h0:keys≠[])
  (QM:keys.length<=15):PE X (.Dict keys values pos) (Mm jh):=by
 intro pins s σ H Q I q;refine wpAny_Dict_walk (knd:=eU X.prog X.w) vE hl h0 QM (ay (h pins _ σ _ _ (I.laid (λ_ _ q=>Yb _ q) (Yc _) (Jv s.heap I.big)) (q _ (I.ah.fresh (Yc s.heap.objs.size)))) λws s2 ⟨ps,H2,I2,rel,e,av,ep,lk,q2⟩=>?_);subst ep;obtain⟨rs,c,rk⟩:=y9 rel;obtain⟨z,hd,UA,r0,dd⟩:=Ml I2.ah e;cases r0;refine⟨rs,c,dd,λh' p4 hs=>⟨.ref s.heap.objs.size,_,?_,rfl,q2⟩⟩;have hz:(km [] av).length<=sizeLine:=by
  have h1:=yu av [];rw[Jh] at h1;rw[sizeLine_eq];omega
 exact Ke I2 (by rw[e];exact True.intro) hs (let⟨q,_,_,hq,_⟩:=p4;⟨q,hq⟩) (Lx hz hd (rk.merge .nil) p4)
section
variable {X:Cx}{pins:ax}{σ:St}{H:Hp}{s:Shared}{a:Addr}{y d:V}{u r:Value}{o:Option V}{A:Around}{E:aC}
end
section
variable {X:Cx}{o e f:Expr}{apos bI:Pos}{td ty tx:TE}
end
section
variable {X:Cx}{pins:ax}{σ:St}{H:Hp}{s:Shared}{a:Addr}{av:List (Key×V)}{A:Around}{E:aC}
end
section
variable {X:Cx}{pins:ax}{σ:St}{H:Hp}{s:Shared}{a:Addr}{y:V}{u:Value}{A:Around}{E:aC}
end
def u7(P:Program)(w:World)(K:ae)(mg:aF)(base:Heap)(k:Nat)(x:Str)(C:Addr)(ps:List Str)(sp:Sp):Prop:=
 ∃f fd,Mk K C f/\aG P w K mg base aR k f fd ps sp/\Binds K fd ps []/\mg x=some (.ref C)
section
variable {X:Cx}{k j:Nat}{x m:Str}{C:Addr}{ps:List Str}{sp:Sp}{p pos apos:Pos}{o e:Expr}{es:List Expr}{t:TA}{ta:TE}
theorem Mn(h:u7 X.prog X.w X.K X.mg X.base k x C ps sp)(hr:aV j X.A)(hj:k+1<=j)(hg:Gl X x)(ha:PA X (e::es) t)(bx:(x==("__debug__":Str))=false:=by decide)
  (he:cR X e es:=by rfl)(bt:cX X pos es:=by rfl):PE X (.Call (.Name x p) (e::es) [] pos) (B5 C sp [] E0 t):=by
 obtain⟨f,fd,M,F,b,hm⟩:=h;exact JU M F (hr.mono hj) hg hm b .nil me ha bx he bt
end
theorem Kg{X:Cx}{K:ae}{e:Expr}{ta:TE}{f:Str}{pos:Pos}(h:X.K=K)(he:PE X e ta)(hb:attributeBase e f X.env (eval e X.env)=eval e X.env):PE X (.Attribute e f pos) (vC K ta f):=h▸KZ he hb
section
open PySem.AutoSeq1 (wpAny_loadPart')
end
theorem nF(p:Nat->Bool)(n:Nat):(List.range (n+1)).filter p=(List.range n).filter p++(if p n=true then[n] else[]):=by
 rw[List.range_succ,List.filter_append]
 grind
theorem yH{α β:Type}{F:α->β->Prop}:∀{xs:List α} {ys:List β} {x:α} {y:β},Paired F xs ys->F x y->Paired F (xs++[x]) (ys++[y]):=by
 intro xs ys x y h f;induction h with
 |nil=>exact .cons f .nil
 |cons r t ih=>exact .cons r ih
theorem yI:∀{xs:List α} {ys:List β},Paired F xs ys->xs.length=ys.length:=by
 intro xs ys h;induction h with
 |nil=>rfl
 |cons _ _ ih=>rw[Yy,Yy,ih]
theorem yv:∀{xs:List V} {ys:List β},Paired (λx y=>x=f y) xs ys->xs=ys.map f:=by
 intro xs ys h;induction h with
 |nil=>rfl
 |cons r t ih=>rw[Wi,←r,←ih]
theorem lu(n:Nat):(List.range n).filter (λ_=>true)=List.range n:=by simp
theorem yw(xs:List α)(f:Nat->β)(g:α->β)(h:∀(i:Nat) (v:α),xs[i]?=some v->f i=g v):(List.range xs.length).map f=xs.map g:=by
 refine Wr λi=>?_;rw[Yj,Yj];cases e:xs[i]? with
 |none=>rw[Y4 (by rw[W2];exact List.getElem?_eq_none_iff.mp e)];rfl
 |some v=>rw[Ja (Yk.mp e).1];exact congrArg some (h i v e)
def cE(D:Addr)(H H':Hp):Prop:=∀b o,H b=some o->b≠D->H' b=some o
theorem cE.of(g:aj H H'):cE D H H':=λb o e _=>g b o e
theorem cE.put(g:cE D H H'):cE D H (upd H' D o):=λb u e n=>by rw[ak n];exact g b u e n
def oY(tt:TT)(te:TE)(fv:St)(D:Addr)(H:Hp)(v:V)(b:Bool)(Pe:V->Hp->Prop):Prop:=
 ∀H1,aj H H1->(∃ys,H1 D=some (.lst ys))->∀(Kt:VK) (Kf:Hp->Prop),(∀y H3,b=true->aj H1 H3->Pe y H3->Kt y H3)->(∀H3,b=false->aj H1 H3->Kf H3)->tt (some v::fv) H1 λc H2=>if c=true then te (some v::fv) H2 Kt else Kf H2
theorem nI{K:ae}{a:Addr}{xs:List V}{tt:TT}{te:TE}{fv:St}{D:Addr}{H:Hp}{Q:VK}(hs:ai K H a xs)(hn:xs.length<=1000)(hD:H D=none)(p:Nat->Bool)(Pe:Nat->V->Hp->Prop)(mono:∀i y H1 H2,cE D H1 H2->Pe i y H1->Pe i y H2)
  (turn:∀(i:Nat) (v:V),xs[i]?=some v->oY tt te fv D H v (p i) (Pe i))(fin:∀ys H',aj H H'->H' D=some (.lst ys)->Paired (λy i=>Pe i y H') ys ((List.range xs.length).filter p)->Q (.ref D) H'):d4 (fM K a) tt te fv D H Q:=by
 refine zI (λi ys H1=>i<=xs.length/\aj H H1/\H1 D=some (.lst ys)/\Paired (λy j=>Pe j y H1) ys ((List.range i).filter p)) ⟨Y1 _,a_ hD _,aw,.nil⟩ (λi ys H1 _ ⟨_,g,_,_⟩=>g.seq hs) ?_ ?_
 ·rintro i v ys H1 hi ⟨_,g,h1,pr⟩;have fR:=(Yk.mp hi).1;have ll:=yI pr;have fl:=List.length_filter_le p (List.range i);rw[W2] at fl;refine turn i v hi H1 g ⟨_,h1⟩ _ _ (λy H3 pi g3 py=>⟨g3 _ _ h1,by rw[sizeLine_eq];omega,fR,?_,aw,?_⟩) (λH3 pi g3=>⟨fR,g.trans g3,g3 _ _ h1,?_⟩)
  ·intro b o e;rw[ak (bg e hD)];exact g3 _ _ (g _ _ e)
  ·rw[nF,if_pos pi];exact yH (Paired.iU pr λz j q=>mono _ _ _ _ (cE.put (cE.of g3)) q) (mono _ _ _ _ (cE.put (cE.of (aj.refl _))) py)
  ·rw[nF,if_neg (by rw[pi];exact Yg),Yx];exact Paired.iU pr λz j q=>mono _ _ _ _ (cE.of g3) q
 ·grind
theorem GL{K:ae}{a:Addr}{xs:List V}{tt:TT}{te:TE}{fv:St}{D:Addr}{H:Hp}{Q:VK}(hs:ai K H a xs)(hn:xs.length<=1000)(hD:H D=none)(p:Nat->Bool)(f:Nat->V)
  (turn:∀(i:Nat) (v:V),xs[i]?=some v->oY tt te fv D H v (p i) (λy _=>y=f i))(fin:∀H',aj H H'->H' D=some (.lst (((List.range xs.length).filter p).map f))->Q (.ref D) H'):d4 (fM K a) tt te fv D H Q:=
 nI hs hn hD p (λi y _=>y=f i) (λ_ _ _ _ _ e=>e) turn λys H' g h1 pr=>fin H' g (by rw[←yv pr];exact h1)
theorem GN{K:ae}{a:Addr}{xs:List V}{te:TE}{fv:St}{D:Addr}{H:Hp}{Q:VK}(hs:ai K H a xs)(hn:xs.length<=1000)(hD:H D=none)(f:V->V)
  (turn:∀(i:Nat) (v:V),xs[i]?=some v->∀H1,aj H H1->∀Kt:VK,(∀H3,aj H1 H3->Kt (f v) H3)->te (some v::fv) H1 Kt)(fin:∀H',aj H H'->H' D=some (.lst (xs.map f))->Q (.ref D) H'):d4 (fM K a) kE te fv D H Q:=by
 refine GL hs hn hD (λ_=>true) (λi=>f (xs.getD i .ao)) (λi v hi H1 g _ Kt Kf kt _=>d7 (bP ?_)) λH' g h1=>fin H' g ?_;·grind
 ·rw[h1,lu,yw xs (λi=>f (xs.getD i .ao)) f λi v hi=>by rw[Y5,hi];rfl]
theorem Iu{K:ae}{a:Addr}{xs:List V}{tt:TT}{te:TE}{fv:St}{D:Addr}{H:Hp}{Q:VK}(hs:aq K H a xs)(hn:xs.length<=1000)(hD:H D=none)(p:Nat->Bool)(Pe:Nat->V->Hp->Prop)(mono:∀i y H1 H2,cE D H1 H2->Pe i y H1->Pe i y H2)
  (turn:∀(i:Nat) (v:V),xs[i]?=some v->oY tt te fv D H v (p i) (Pe i))(fin:∀ys H',aj H H'->H' D=some (.lst ys)->Paired (λy i=>Pe i y H') ys ((List.range xs.length).filter p)->Q (.ref D) H'):d4 (fN K a) tt te fv D H Q:=by
 refine nX (λi ys H1=>i<=xs.length/\aj H H1/\H1 D=some (.lst ys)/\Paired (λy j=>Pe j y H1) ys ((List.range i).filter p)) ⟨Y1 _,a_ hD _,aw,.nil⟩ (λi ys H1 _ ⟨_,g,_,_⟩=>g.cm hs) ?_ ?_
 ·rintro i v ys H1 hi ⟨_,g,h1,pr⟩;have fR:=(Yk.mp hi).1;have ll:=yI pr;have fl:=List.length_filter_le p (List.range i);rw[W2] at fl;refine turn i v hi H1 g ⟨_,h1⟩ _ _ (λy H3 pi g3 py=>⟨g3 _ _ h1,by rw[sizeLine_eq];omega,fR,?_,aw,?_⟩) (λH3 pi g3=>⟨fR,g.trans g3,g3 _ _ h1,?_⟩)
  ·intro b o e;rw[ak (bg e hD)];exact g3 _ _ (g _ _ e)
  ·rw[nF,if_pos pi];exact yH (Paired.iU pr λz j q=>mono _ _ _ _ (cE.put (cE.of g3)) q) (mono _ _ _ _ (cE.put (cE.of (aj.refl _))) py)
  ·rw[nF,if_neg (by rw[pi];exact Yg),Yx];exact Paired.iU pr λz j q=>mono _ _ _ _ (cE.of g3) q
 ·grind
theorem Iv{K:ae}{a:Addr}{xs:List V}{tt:TT}{te:TE}{fv:St}{D:Addr}{H:Hp}{Q:VK}(hs:aq K H a xs)(hn:xs.length<=1000)(hD:H D=none)(p:Nat->Bool)(f:Nat->V)
  (turn:∀(i:Nat) (v:V),xs[i]?=some v->oY tt te fv D H v (p i) (λy _=>y=f i))(fin:∀H',aj H H'->H' D=some (.lst (((List.range xs.length).filter p).map f))->Q (.ref D) H'):d4 (fN K a) tt te fv D H Q:=
 Iu hs hn hD p (λi y _=>y=f i) (λ_ _ _ _ _ e=>e) turn λys H' g h1 pr=>fin H' g (by rw[←yv pr];exact h1)
theorem zN{K:ae}{a:Addr}{xs:List V}{te:TE}{fv:St}{D:Addr}{H:Hp}{Q:VK}(hs:aq K H a xs)(hn:xs.length<=1000)(hD:H D=none)(f:V->V)
  (turn:∀(i:Nat) (v:V),xs[i]?=some v->∀H1,aj H H1->∀Kt:VK,(∀H3,aj H1 H3->Kt (f v) H3)->te (some v::fv) H1 Kt)(fin:∀H',aj H H'->H' D=some (.lst (xs.map f))->Q (.ref D) H'):d4 (fN K a) kE te fv D H Q:=by
 refine Iv hs hn hD (λ_=>true) (λi=>f (xs.getD i .ao)) (λi v hi H1 g _ Kt Kf kt _=>d7 (bP ?_)) λH' g h1=>fin H' g ?_;·grind
 ·rw[h1,lu,yw xs (λi=>f (xs.getD i .ao)) f λi v hi=>by rw[Y5,hi];rfl]
abbrev Nw(H:Hp)(o:HO)(Q:VK):Prop:=∀(p:Addr) (H':Hp),H p=none->aj H H'->H' p=some o->Q (.ref p) H'
theorem Nw.at(h:Nw H o Q):∀p,H p=none->Q (.ref p) (upd H p o):=λp np=>h p _ np (a_ np o) aw
def Mo(t:TA):TE:=λσ H Q=>t σ H λxs H1=>xs.length<=sizeLine/\Nw H1 (.tup xs) Q
def Mp(t:TA):TE:=λσ H Q=>t σ H λxs H1=>xs.length<=sizeLine/\Nw H1 (.lst xs) Q
section
variable {X:Cx}{es:List Expr}{t:TA}{pos:Pos}{K:ae}
theorem gf{x1}(h:PA X es t):PE X (.Tuple es x1 pos) (Mo t):=by
 intro pins s σ H Q I hq;refine wpAny_Tuple_spliced (ay (h pos pins s σ H _ I hq) λus s1 ⟨xs,H1,I1,r,z,q⟩=>⟨by rw[←r.length];exact z,⟨.ref s1.heap.objs.size,upd H1 s1.heap.objs.size (.tup xs),I1.laid (λb u e=>Yb _ e) (Yc _) ?_,rfl,q.at _ (I1.ah.fresh (Yc _))⟩⟩);exact⟨z,us,r,⟨_,Ye _ rfl,rfl,_,rfl,rfl⟩⟩
theorem oo(h:PA X es t):PE X (.List es pos) (Mp t):=by
 intro pins s σ H Q I hq;refine wpAny_List_spliced (ay (h pos pins s σ H _ I hq) λus s1 ⟨xs,H1,I1,r,z,q⟩=>⟨by rw[←r.length];exact z,⟨.ref s1.heap.objs.size,upd H1 s1.heap.objs.size (.lst xs),I1.laid (λb u e=>Yb _ e) (Yc _) ?_,rfl,q.at _ (I1.ah.fresh (Yc _))⟩⟩);exact⟨z,us,0,r,Ye _ rfl⟩
theorem bC.mono(h:bC X f r)(m:∀xs H Q,r' xs H Q->r xs H Q):bC X f r':=λpins s σ H xs us Q I v q=>h pins s σ H xs us Q I v (m xs H Q q)
theorem bE.mono(h:bE X f r)(m:∀x y H Q,r' x y H Q->r x y H Q):bE X f r':=λpins s σ H x y v u Q I rx ry q=>h pins s σ H x y v u Q I rx ry (m x y H Q q)
theorem jb.mono(h:jb X r)(m:∀x lo hi H Q,r' x lo hi H Q->r x lo hi H Q):jb X r':=λpins s σ H x v vl vu lo hi sl Q I rx hs pl pu q=>h pins s σ H x v vl vu lo hi sl Q I rx hs pl pu (m x lo hi H Q q)
inductive y_(xs:List V)(H:Hp)(Q:VK):Prop
 |mk (j:Int) (aP:xs=[.int j]) (aQ:Nw H (.e6 0 j) Q):y_ xs H Q
def Aj:List V->Hp->VK->Prop:=λxs H Q=>y_ xs H Q
theorem Fl:bC X (.type "range") Aj:=nE.mono λ_ _ _ zq=>by obtain⟨j,e,q⟩:=zq;exact⟨j,e,q.at⟩
inductive yJ(xs:List V)(H:Hp)(Q:VK):Prop
 |mk (p:Addr) (n:Nat) (aP:xs=[.ref p]) (aQ:H p=some (.e6 0 (n:Int))) (bc:n<=1000) (bN:Nw H (.lst ((bD n).map V.int)) Q):yJ xs H Q
def zO:List V->Hp->VK->Prop:=λxs H Q=>yJ xs H Q
theorem E1(hc:X.calm=true):bC X (.type "list") zO:=(qJ hc).mono λ_ _ _ zq=>by obtain⟨p,n,e,h,l,q⟩:=zq;exact⟨p,n,e,h,l,q.at⟩
inductive za(K:ae)(xs:List V)(H:Hp)(Q:VK):Prop
 |mk (p ys) (aP:xs=[.ref p]) (aQ:ai K H p ys) (bc:Nw H (.tup ys) Q):za K xs H Q
def Jw(K:ae):List V->Hp->VK->Prop:=λxs H Q=>za K xs H Q
theorem yq(h:X.K=K):bC X (.type "tuple") (Jw K):=h▸jw.mono λ_ _ _ zq=>by obtain⟨p,ys,e,s,q⟩:=zq;exact⟨p,ys,e,.inl ⟨s,q.at⟩⟩
def Ak(K:ae):List V->Hp->VK->Prop:=λxs H Q=>∃(p:Addr) (ns:List Int),xs=[.ref p]/\(ai K H p (ns.map V.int)\/aq K H p (ns.map V.int))/\ns.length<64/\
  ∀bJ:List Int,bJ.Perm ns->bJ.Pairwise (·<=·)->Nw H (.lst (bJ.map V.int)) Q
theorem Jx(h:X.K=K):bC X (.builtin "sorted") (Ak K):=h▸yF.mono λ_ _ _ zq=>by obtain⟨p,ns,e,s,l,q⟩:=zq;exact⟨p,ns,e,s,l,λa bJ na pm so=>(q bJ pm so).at a na⟩
inductive A4(K:ae)(x:V)(lo:Option Int)(hi:Option Int)(H:Hp)(Q:VK):Prop
 |mk (a xs) (aP:x=.ref a) (aQ:ai K H a xs) (bc:Nw H (.lst (i0 xs lo hi)) Q):A4 K x lo hi H Q
def Mq(K:ae):V->Option Int->Option Int->Hp->VK->Prop:=λx lo hi H Q=>A4 K x lo hi H Q
theorem tQ(h:X.K=K):jb X (Mq K):=h▸JW.mono λ_ _ _ _ _ zq=>by obtain⟨a,xs,e,s,q⟩:=zq;exact⟨a,xs,e,s,q.at⟩
def Mr:R2:=λx y H Q=>∃l b xs zs,x=.ref l/\y=.ref b/\H l=some (.lst xs)/\H b=some (.lst zs)/\xs.length+zs.length<=sizeLine/\Nw H (.lst (xs++zs)) Q
theorem Kh:bE X (binaryOp .Add) Mr:=K8.mono λ_ _ _ _ zq=>by obtain⟨l,b,xs,zs,e1,e2,h1,h2,z,q⟩:=zq;exact⟨l,b,xs,zs,e1,e2,h1,h2,z,q.at⟩
end
abbrev Ch(H:Hp)(a:Addr)(o:HO)(R:Hp->Prop):Prop:=∀H',cE a H H'->H' a=some o->R H'
theorem Ch.at(h:Ch H a o R):R (upd H a o):=h _ (cE.put (cE.of (aj.refl _))) aw
section
variable {X:Cx}
theorem ij.mono{id:String}{r r':V->List V->Hp->VK->Prop}(h:ij X id r)(m:∀x xs H Q,r' x xs H Q->r x xs H Q):ij X id r':=λpins s σ H x xs v us Q I rx rv q=>h pins s σ H x xs v us Q I rx rv (m x xs H Q q)
inductive zb(x:V)(vs:List V)(H:Hp)(Q:VK):Prop
 |mk (l xs y) (aP:x=.ref l) (aQ:vs=[y]) (bc:H l=some (.lst xs)) (bN:xs.length<sizeLine) (cw:Ch H l (.lst (xs++[y])) (Q .ao)):zb x vs H Q
def Jy:V->List V->Hp->VK->Prop:=λx vs H Q=>zb x vs H Q
theorem GO:ij X "list.append" Jy:=nM.mono λ_ _ _ _ zq=>by obtain⟨l,xs,y,e1,e2,h,z,q⟩:=zq;exact⟨l,xs,y,e1,e2,h,z,q.at⟩
variable {o i value:Expr}{td ty tv ta:TE}{pos pos':Pos}{f:Str}
end
def Ly(K:ae)(neg:Bool)(tr:TE):TE:=gK (pw K neg) (dq (Ak K) (cC tr cP)) (dq zO (cC (dq Aj (cC (dq (mn K) (cC tr cP)) cP)) cP))
theorem Iw{K:ae}{i:Nat}{neg:Bool}{σ:St}{H:Hp}{p:Addr}{ns:List Int}{Q:VK}(hi:σ[i]?=some (some (.ref p)))(hR:Row K H p ns)(fO:ns.length<64)(q:∀H',aj H H'->Q (.bl (if neg=true then !full ns else full ns)) H'):
   (Ly K neg (di i)) σ H Q:=by
 refine⟨_,hi,p,ns,rfl,hR,fO,λbJ pm so l H1 hl g1 h1=>⟨_,hi,p,ns.map V.int,rfl,Row.same g1 hR,_,rfl,λr H2 hr g2 h2=>⟨r,(ns.map V.int).length,rfl,h2,by rw[Ya];omega,λu H3 hu g3 h3=>⟨l,u,bJ,bD (ns.map V.int).length,rfl,rfl,ai.of (g3 _ _ (g2 _ _ h1)),ai.of h3,?_⟩⟩⟩⟩;rw[Ya,yG pm so];exact q _ ((g1.trans g2).trans g3)
def mX(x:Str):It:=⟨λi _=>i<x.length,λi H v H'=>H'=H/\∃c,x.cps[i]?=some c/\v=.str ⟨#[c]⟩,λi _=>x.length<=i⟩
theorem E2{P:Program}{w:World}{K:ae}{tg:Expr}(it:Addr)(x:Str)(t:Tok):Turn P w K tg (mX x) [it] it (λi h=>h.IsStrIter it "str_ascii_iterator" x t i) where
 mem:=by simp
 obj:=λi h st b hb=>by
  have e:b=it:=by simpa using hb
  obtain⟨o,e,c,d⟩:=st
  grind
 keep:=λi h h' st k=>let⟨o,e,r⟩:=st;⟨o,k it (by simp) o e,r⟩
 item:=by
  intro X hP hw hK hc i pins s σ H E I hf st hg;obtain⟨f0,f1,f2,f3,f4,f5⟩:=hf it (by simp);have hx:=Y0 hg;refine wpAny_pyNext_ascii_item st hx λh' dO sb=>?_;obtain⟨o,e,c,d⟩:=id dO;exact⟨_,rfl,lZ e c d (by decide) ⟨.str ⟨#[x.cps[i]]⟩,H,(I.turned (λb o hb e=>(sb.2 b hb).trans e) f0 f1 f3 f4 f5),⟨_,rfl⟩,⟨rfl,_,hx,rfl⟩,dO,λb hb=>(hf b hb).1⟩⟩
 done:=by
  intro X hP hw hK hc i pins s σ H E I hf st hg;obtain⟨f0,f1,f2,f3,f4,f5⟩:=hf it (by simp);exact wpAny_pyNext_ascii_end (I.ok.hd hc) st (Wn hg) λh' eb=>⟨rfl,I.turned (λb o hb e=>eb b o hb e) f0 f1 f3 f4 f5⟩
 self:=λ_ _ _ _ _ st h=>wpAny_pyIter_striter_ascii st h
theorem E_{P:Program}{w:World}{K:ae}{tg:Expr}(it:Addr)(x:Str)(t:Tok):Turn P w K tg (mX x) [it] it (λi h=>h.IsStrIter it "str_iterator" x t i) where
 mem:=by simp
 obj:=λi h st b hb=>by
  have e:b=it:=by simpa using hb
  obtain⟨o,e,c,d⟩:=st
  grind
 keep:=λi h h' st k=>let⟨o,e,r⟩:=st;⟨o,k it (by simp) o e,r⟩
 item:=by
  intro X hP hw hK hc i pins s σ H E I hf st hg;obtain⟨f0,f1,f2,f3,f4,f5⟩:=hf it (by simp);have hx:=Y0 hg;refine wpAny_pyNext_wide_item st hx λh' dO sb=>?_;obtain⟨o,e,c,d⟩:=id dO;exact⟨_,rfl,lZ e c d (by decide) ⟨.str ⟨#[x.cps[i]]⟩,H,(I.turned (λb o hb e=>(sb.2 b hb).trans e) f0 f1 f3 f4 f5),⟨_,rfl⟩,⟨rfl,_,hx,rfl⟩,dO,λb hb=>(hf b hb).1⟩⟩
 done:=by
  intro X hP hw hK hc i pins s σ H E I hf st hg;obtain⟨f0,f1,f2,f3,f4,f5⟩:=hf it (by simp);exact wpAny_pyNext_wide_end (I.ok.hd hc) st (Wn hg) λh' eb=>⟨rfl,I.turned (λb o hb e=>eb b o hb e) f0 f1 f3 f4 f5⟩
 self:=λ_ _ _ _ _ st h=>wpAny_pyIter_striter_wide st h
inductive BL(R:It->Hp->Prop)(v:V)(H1:Hp):Prop
 |mk (x) (aP:v=.str x) (aQ:R (mX x) H1):BL R v H1
def Nf(te:TE):TI:=λσ H R=>te σ H λv H1=>BL R v H1
theorem oJ{X:Cx}{tg l:Expr}{tl:TE}(hl:PE X l tl):PI X tg l (Nf tl):=by
 intro pins s σ H R I h;refine ay (hl pins s σ H _ I h) λv s1 zq=>?_;obtain⟨x,H1,I1,r1,q1⟩:=zq;obtain⟨z,e,q⟩:=q1;subst e;obtain⟨t,rfl⟩:=r1;have fin:∀b∈[s1.heap.objs.size],d6 X pins H1 b:=λb hb=>by
  have e:b=s1.heap.objs.size:=by simpa using hb
  subst e;exact I1.kC (Yc _) (I1.ah.fresh (Yc _))
 cases ha:z.cps.all (·<128) with
 |true=>exact wpAny_pyIter_ascii ha ⟨s1.heap.objs.size,[s1.heap.objs.size],_,_,H1,rfl,I1.kept λb o e=>Yb _ e,E2 _ z t,⟨_,Ye _ rfl,rfl,rfl⟩,fin,q⟩
 |false=>exact wpAny_pyIter_wide ha ⟨s1.heap.objs.size,[s1.heap.objs.size],_,_,H1,rfl,I1.kept λb o e=>Yb _ e,E_ _ z t,⟨_,Ye _ rfl,rfl,rfl⟩,fin,q⟩
abbrev sg(c:Nat):V:=.str ⟨#[c]⟩
theorem Jz(Pv:Nat->List V->Hp->Prop)(h0:Pv 0 [] (upd H D (.lst [])))
  (hs:∀(i c:Nat) (ys:List V) (H:Hp),x.cps[i]?=some c->Pv i ys H->tt (some (sg c)::fv) H λb H1=>if b=true then te (some (sg c)::fv) H1 λy H3=>H3 D=some (.lst ys)/\ys.length<sizeLine/\Pv (i+1) (ys++[y]) (upd H3 D (.lst (ys++[y]))) else Pv (i+1) ys H1)
  (hd:∀ys H,Pv x.length ys H->Q (.ref D) H):d4 (mX x) tt te fv D H Q:=by
 refine⟨λi m ys H=>m=x.length-i/\i<=x.length/\Pv i ys H,⟨x.length,by simp,Y1 _,h0⟩,?_⟩;rintro i m ys H ⟨rfl,hi,p⟩;by_cases bf:i<x.length
 ·refine .inr ⟨bf,Pv (i+1),λfc H' p'=>⟨x.length-(i+1),by omega,rfl,bf,p'⟩,λv H' y=>?_⟩;obtain⟨e,c,hc,rfl⟩:=y
  grind
 ·have e:i=x.length:=by omega
  subst e;exact .inl ⟨Yc _,hd ys H p⟩
theorem nP(hn:x.length<=100000)(hD:H D=none)(f:Nat->V)
  (turn:∀(i c:Nat),x.cps[i]?=some c->∀H1,aj H H1->∀Kt:VK,(∀H3,aj H1 H3->Kt (f c) H3)->te (some (sg c)::fv) H1 Kt)(fin:∀H',aj H H'->H' D=some (.lst (x.cps.toList.map f))->Q (.ref D) H'):d4 (mX x) kE te fv D H Q:=by
 refine Jz (λi ys H1=>i<=x.length/\aj H H1/\H1 D=some (.lst ys)/\ys=(x.cps.toList.take i).map f) ⟨Y1 _,a_ hD _,aw,rfl⟩ ?_ ?_
 ·rintro i c ys H1 hi ⟨_,g,h1,e⟩;have fR:i<x.length:=(Y6.mp hi).1;refine d7 (bP (turn i c hi H1 g _ λH3 g3=>⟨g3 _ _ h1,?_,fR,?_,aw,?_⟩))
  ·rw[e,Ya,Yz,sizeLine_eq];omega
  ·intro b o q;rw[ak (bg q hD)];exact g3 _ _ (g _ _ q)
  ·have QN:x.cps.toList[i]?=some c:=by rw[Y8];exact hi
   rw[e,Wd,QN,Wy];rfl
 ·rintro ys H1 ⟨_,g,h1,e⟩;refine fin H1 g ?_;rw[h1,e,Yv (by show x.cps.toList.length<=x.cps.size;simp)]
def cI(z:Str)(lo hi:Option Int):Str:=⟨((z.cps.toList.drop (HT.aM z.length 0 lo)).take (HT.aM z.length z.length hi-HT.aM z.length 0 lo)).toArray⟩
theorem oK(hd:d<=n)(o:Option Int):HT.aM n d o<=n:=by
 cases o with
 |none=>exact hd
 |some v=>
  show(if v<0 then(v+(n:Int)).toNat else min v.toNat n)<=n;split<;>omega
theorem JA(n:Nat)(lo hi:Option Int):Builtin.Str.strSliceIndices lo hi 1 n=(List.range (HT.aM n n hi-HT.aM n 0 lo)).map (λk=>HT.aM n 0 lo+k):=by
 have h0:=oK (Y1 n) lo;have h1:=oK (Yc n) hi;have cl:∀v:Int,max 0 (min (if v<0 then v+(n:Int) else v) (n:Int))=(((if v<0 then(v+(n:Int)).toNat else min v.toNat n:Nat)):Int):=λv=>by
  split<;>omega
 have e:Builtin.Str.strSliceIndices lo hi 1 n=sliceRange ((HT.aM n 0 lo:Nat):Int) ((HT.aM n n hi:Nat):Int) 1:=by
  have one:((1:Int)>0)=True:=by simp
  cases lo with
  |none=>
   cases hi with
   |none=>simp only[Builtin.Str.strSliceIndices,HT.aM,one,if_true];rfl
   |some v=>simp only[Builtin.Str.strSliceIndices,HT.aM,one,if_true,cl v];rfl
  |some u=>
   cases hi with
   |none=>simp only[Builtin.Str.strSliceIndices,HT.aM,one,if_true,cl u]
   |some v=>simp only[Builtin.Str.strSliceIndices,HT.aM,one,if_true,cl u,cl v]
 rw[e];unfold sliceRange;simp only[show((1:Int)>0)=True from by simp,if_true];by_cases bf:((HT.aM n 0 lo:Nat):Int)<((HT.aM n n hi:Nat):Int)
 ·have e3:((((HT.aM n n hi:Nat):Int)-((HT.aM n 0 lo:Nat):Int)+1-1)/1).toNat=HT.aM n n hi-HT.aM n 0 lo:=by
   rw[Int.ediv_one];omega
  simp only[bf,if_true,e3];refine Wb λk _=>?_;omega
 ·have:HT.aM n n hi-HT.aM n 0 lo=0:=by omega
  simp[bf,this]
theorem Iy(z:Str)(lo hi:Option Int):Txt.slice z lo hi=cI z lo hi:=by
 have h0:=oK (Y1 z.length) lo;have h1:=oK (Yc z.length) hi;have zl:z.cps.toList.length=z.length:=by simp[Str.length]
 have pk:=StrLaws.picks z.cps.toList (HT.aM z.length z.length hi-HT.aM z.length 0 lo) (HT.aM z.length 0 lo) (by omega);unfold Txt.slice cI;rw[JA];split
 ·rename_i h
  rw[Ya,W2] at h;have h':HT.aM z.length z.length hi-HT.aM z.length 0 lo=z.length:=by simpa using h
  have e0:HT.aM z.length 0 lo=0:=by omega
  rw[h',e0,List.drop_zero,Yv (by omega)]
 ·congr 2
  rw[←pk];simp
inductive BM(x:V)(lo:Option Int)(hi:Option Int)(H:Hp)(Q:VK):Prop
 |mk (z) (aP:x=.str z) (aQ:z.length<=sizeLine) (bc:Q (.str (cI z lo hi)) H):BM x lo hi H Q
def Ng:V->Option Int->Option Int->Hp->VK->Prop:=λx lo hi H Q=>BM x lo hi H Q
theorem gr:jb X Ng:=by
 intro pins s σ H x v vl vu lo hi sl Q I rx hs pl pu h;obtain⟨z,rfl,hz,q⟩:=h;obtain⟨t,rfl⟩:=rx;refine⟨"str",_,F.slot_str_getitem.lookup,typeIs_str _ _ _,?_⟩;have part:∀{v:Value} {o:Option Int},IsPart v o->∃p:Option (Int×Tok),v=partValue p/\p.map (·.1)=o:=by
  intro v o h;cases h with
  |none=>exact⟨none,rfl,rfl⟩
  |int i t=>exact⟨some (i,t),rfl,rfl⟩
 obtain⟨l,rfl,el⟩:=part pl;obtain⟨u,rfl,eu⟩:=part pu;refine wpAny_getItem_str_slice (l:=l) (u:=u) (st:=none) hs rfl (post_val_or_str ⟨?_,λt' k=>?_⟩)
 ·show(Txt.slice z (l.map (·.1)) (u.map (·.1))).length<=sizeLine;exact Yn (Txt.slice_le z _ _) hz
 ·show EP X pins σ Q (.str (Txt.slice z (l.map (·.1)) (u.map (·.1))) t') _;rw[el,eu,Iy];exact⟨.str (cI z lo hi),H,I.tok k,⟨t',rfl⟩,q⟩
theorem zc:∀{ys:List Str} {us:List Value},Vals (ys.map V.str) us->StrsAre us ys
 |[],us,r=>by
  rw[List.map_nil] at r;cases r;exact .nil
 |y::ys,us,r=>by
  rw[Wi] at r;cases r with
  |cons r1 r2=>
   obtain⟨t,e⟩:=r1;subst e;exact .cons y t (zc r2)
def rJoin(K:ae):V->List V->Hp->VK->Prop:=λx vs H Q=>∃(sep:Str) (p:Addr) (ys:List Str),x=.str sep/\vs=[.ref p]/\ai K H p (ys.map V.str)/\(ys.map (·.length)).sum+ys.length*sep.length<=16777216/\Q (.str (Str.join sep ys)) H
theorem tR{X:Cx}{K:ae}(hK:X.K=K):ij X "str.join" (rJoin K):=by
 subst hK;intro pins s σ H x xs v us Q I rx rv h;obtain⟨sep,p,ys,rfl,rfl,hp,lim,q⟩:=h;obtain⟨t,rfl⟩:=rx;obtain⟨u,rfl,ru⟩:=rv.one;obtain rfl:u=Value.ref p:=ru;obtain⟨af,vl,pl,_⟩:=I.list hp;refine join_list pl.isList (zc (by simpa using vl)) lim λt' k=>?_;have e:Txt.join sep ys=Str.join sep ys:=StrLaws.glued_eq_join sep ys;rw[e];exact⟨.str (Str.join sep ys),H,I.tok k,⟨t',rfl⟩,q⟩
end L2
namespace L2
open PySem PySem.W PySem.Spec PyProof.Rows
end L2
namespace L2
open PySem PySem.Spec PyProof.Rows
theorem setC(h:u D (σ.set i (some v)) H):o_ (iX (tC v) (gs i)) u D σ H:=h
theorem vJ(h:te σ H λx H1=>u D (σ.set i (some x)) H1):o_ (iX te (gs i)) u D σ H:=h
section
variable {X:Cx}{elt iter ik:Expr}{xs:List Str}{pos:Pos}{ifs:List Expr}{scope:Scope}{cl:List (Str×Addr)}{fr:List (Str×Nat)}{tg:TG}{tt:TT}{te:TE}{pins:ax}{σ:St}
end
section
variable {prog:Program}{w:World}{A:Around}{R:Result->Shared->Prop}{s:Shared}{elt t1 i1 t2 i2:Expr}{scope:Scope}{pos:Pos}{it acc:Value}{env:Env}
end
section
variable {X:Cx}{elt t1 i1 t2 i2:Expr}{xs:List Str}{pos:Pos}{scope:Scope}{cl:List (Str×Addr)}{fr:List (Str×Nat)}{UB UC:TG}{UD:TI}{te:TE}{pins:ax}{σ:St}
end
theorem gY{X:Cx}{K:ae}{tg l:Expr}{tl:TE}(h:X.K=K)(hl:PE X l tl):PI X tg l (B0 K tl):=h▸AE hl
section
variable {prog:Program}{w:World}{κ:Type}[DecidableEq κ]{knd:PySem.KeyKind prog w κ}{A:Around}{E:aC}{s:Shared}
end
section
variable {X:Cx}{pins:ax}{σ:St}{H:Hp}{s:Shared}{a:Addr}{av:List (Key×V)}{k:Key}{z:V}{u r:Value}{A:Around}{E:aC}
end
section
variable {X:Cx}{o e f:Expr}{apos bI:Pos}{td ty tx:TE}
end
end L2
namespace L2
open PySem PySem.W PySem.Calls PySem.Spec PyProof.Rows
section
variable {prog:Program}{w:World}{A:Around}{E:aC}{s:Shared}
end
section
variable {prog:Program}{w:World}{A:Around}{E:aC}{s:Shared}
end
section
variable {prog:Program}{w:World}{A:Around}{E:aC}{s:Shared}
end
section
variable {n:Nat}{lt:Nat->Nat->Bool}
end
section
variable {prog:Program}{w:World}{A:Around}{E:aC}{s:Shared}
end
end L2
namespace L2
open PySem PySem.Spec PyProof.Rows
theorem Lz{X:Cx}{K:ae}{ex:Expr}{T:String}{r:V->List V->Hp->VK->Prop}{to:TE}{t:TA}(h:X.K=K)(p:PE X ex (pQ X.K T r to t)):PE X ex (pQ K T r to t):=h▸p
theorem Iz{X:Cx}{K:ae}{a:Expr}{ta:TE}(h:X.K=K)(p:PT X a (λσ H Q=>ta σ H λx H'=>∃k,pd X.K x H' k/\Q k H')):PT X a (λσ H Q=>ta σ H λx H'=>∃k,pd K x H' k/\Q k H'):=h▸p
section
variable {X:Cx}{pins:ax}{σ:St}{H:Hp}{s:Shared}{d:Addr}{av:List (Key×V)}
end
section
variable {P:Program}{w:World}{A:Around}{E:aC}{s:Shared}{it d:Addr}{i n ep:Nat}{ok ov:Value}{o:Obj}{es:Array DictEntry}{e:DictEntry}
end
section
variable {P:Program}{w:World}{A:Around}{E:aC}{s:Shared}{d o:Addr}{knd:HeapKind P w (List Key)}{xs ms:List (List Key×Addr×Value)}
end
section
variable {X:Cx}
end
section
variable {X:Cx}{pins:ax}{σ:St}{H:Hp}{s:Shared}{d:Addr}{av:List (List Key×V)}
end
theorem LA{X:Cx}(hu:X.A.units<cLine):bE X (compareOp .NotEq) (CP X.K true):=by
 intro pins s σ H x y v u Q I rx ry h;obtain⟨p,q,ns,ms,rfl,rfl,h1,h2,k⟩:=h;cases rx;cases ry;obtain⟨af,r1,p1,z1⟩:=I.tuple h1;obtain⟨h_,r2,p2,z2⟩:=I.tuple h2;have l1:=r1.length;have l2:=r2.length;rw[Ya] at l1 l2;show wpAny _ _ (richCompare .NotEq _ _) _ _ _;refine SeqAt.RcNeAt.tuples (e:=λj=>ns.getD j 0==ms.getD j 0) p1 p2 hu (λj h1 h2=>?_) _ _ _ _ (bj I k ?_)
 ·obtain⟨t,e1⟩:=jY r1 (j:=j) (by simpa using h1);obtain⟨t',e2⟩:=jY r2 (j:=j) (by simpa using h2);have mS:af.toArray[j]=.int (ns.getD j 0) t:=by simpa using e1
  have mU:h_.toArray[j]=.int (ms.getD j 0) t':=by simpa using e2
  rw[mS,mU];exact SeqAt.EqAt.int_int _ _ _ _
 ·rw[if_pos rfl,Yf,Yf,←l1,←l2];by_cases hl:ns.length=ms.length
  ·rw[←hl,Nat.min_self,rm hl];simp
  ·rw[show(ns.length==ms.length)=false from by simpa using hl,Bool.and_false];have:decide (ns=ms)=false:=decide_eq_false λe=>hl (by rw[e]);rw[this]
theorem Ki{X:Cx}{K:ae}(h:X.K=K)(hu:X.A.units<cLine):bE X (compareOp .NotEq) (CP K true):=h▸LA hu
section
variable {X:Cx}{o i:Expr}{td ty:TE}{CD pos:Pos}
end
end L2
namespace L2
open PySem PySem.W PySem.Spec PyProof.Rows
section
variable {prog:Program}{w:World}{A:Around}{E:aC}{s:Shared}
end
theorem LB:bootBuiltins "max"=some (.builtin "max"):=by decide+kernel
section
variable {X:Cx}
end
section
variable {P:Program}{w:World}{K:ae}{mg:aF}{base:Heap}{C f:Addr}{x q:Str}{st:Stmt}{ps:List Str}{n:Nat}{sp:Sp}
end
end L2
namespace L2
open PySem PySem.Spec PyProof.Rows
section
variable {X:Cx}{K:ae}
theorem bR(i:Nat){x:Str}{e:Expr}{te:TE}{pos pos':Pos}(hN:X.N.Nodup)(he:PE X e te)(hi:X.N[i]?=some x:=by rfl)(hx:Loc X.env.scope x:=by exact Or.inl rfl)(hs:swapsWith e (some (.Name x pos')) pos.line X.env=pure false:=by rfl)
  (hf:X.fn x=true\/X.env.scope.names.lookup x=some .local:=by first|exact .inl rfl|exact .inr rfl|assumption):PS X (.Assign [.Name x pos'] e pos) (iX te (gs i)):=eD hN hi hx he hs hf
theorem eN(i:Nat){x:Str}{pos:Pos}(hN:X.N.Nodup)(hi:X.N[i]?=some x:=by rfl)(hx:Loc X.env.scope x:=by exact Or.inl rfl)
  (hf:X.fn x=true\/X.env.scope.names.lookup x=some .local:=by first|exact .inl rfl|exact .inr rfl|assumption):PG X (.Name x pos) (gs i):=n_ hN hi hx hf
theorem pF(K:ae)(i:Nat){x f:Str}{p pos:Pos}(h:X.K=K:=by rfl)(hN:X.N[i]?=some x:=by rfl)(hv:kK X.env.scope x:=by first|exact Or.inl rfl|exact Or.inr (Or.inl rfl)|exact Or.inr (Or.inr rfl))(hd:(x==("__debug__":Str))=false:=by decide)
  (bW:(x==("__classdict__":Str))=false:=by decide)(hb:attributeBase (.Name x p) f X.env (eval (.Name x p) X.env)=eval (.Name x p) X.env:=by rfl):PE X (.Attribute (.Name x p) f pos) (vC K (di i) f):=Kg h (pv i hN hv hd bW) hb
theorem aS{k j:Nat}{x:Str}{ps:List Str}{sp:Sp}{p pos:Pos}{e:Expr}{es:List Expr}{t:TA}(h:HasFn X.prog X.w X.K X.mg X.base k x ps sp)(hr:aV j X.A)(ha:PA X (e::es) t)(hj:k<=j:=by omega)(hg:Gl X x:=by rfl)
  (bx:(x==("__debug__":Str))=false:=by decide)(he:cR X e es:=by rfl)(bt:cX X pos es:=by rfl):
  PE X (.Call (.Name x p) (e::es) [] pos) (hU sp [] E0 t):=mf h hr hj hg ha bx he bt
theorem bA{r:R2}{a b:Expr}{ta tb:TE}{pos:Pos}(hr:dt X r)(ha:PE X a ta)(hb:PE X b tb)(hs:AO b:=by exact λ_ _=>rfl):PE X (.Subscript a b pos) (gK r ta tb):=B6 hr ha hb hs
end
section
variable {P:Program}{w:World}{K:ae}{mg:aF}{base:Heap}
theorem aX.o{x qual:Str}{st:Stmt}{f:Addr}{fd:FuncData}{N ps:List Str}{k:Nat}{sp:Sp}(F:aX K x qual st f fd)(S:aY N ps (ar st))
  (gu:∀{aD:Value} {A:Around} {outer:List Env} {vs:List V} {Q:VK} {E:XK} (s:Shared) (H:Hp),aV k (A.deeper (envOfC qual (ar st) s.heap.objs.size f aD))->sp vs H Q E->
   ∃t,cv (cV aR P w K mg base N qual (ar st) f aD A outer s H E).e7 (aT st) t/\t {nx:=λ_ H'=>Q .ao H',rt:=Q} (start N vs) H)
  (len:∀vs H Q E,sp vs H Q E->vs.length=ps.length:=by intro vs H Q E h;first|(cases h;subst_vars;rfl)|((repeat obtain⟨_,h⟩:=h);subst_vars;rfl)):aG P w K mg base aR (k+1) f fd ps sp:=F.ok S len λ_ _ _ s H _ _ _=>gu s H
end
theorem aY.bM{N P:List Str}{sc:Scope}(a:sc.kind=.function:=by rfl)(b:sc.isCoroutine=false:=by rfl)(c:sc.isGenerator=false:=by rfl)(d:N.Nodup:=by decide+kernel)(e:N.take P.length=P:=by rfl)(f:∀x∈P,sc.names.lookup x=some .local\/sc.names.lookup x=some .cell:=by decide+kernel)(g:∀y∈sc.names,y.2≠.free:=by decide+kernel):aY N P sc:=⟨a,b,c,d,e,f,g⟩
theorem lH.cY{X:Cx}{scope:Scope}{cl:List (Str×Addr)}{x:Str}{fr:List (Str×Nat)}(sub:iK X.env.cells cl)(aO:iM X scope cl fr)(a:closureFor scope X.env=pure cl:=by with_unfolding_all rfl)(b:scope.kind=.function:=by rfl)(c:∀y∈scope.names,y.2=.local->scope.names.lookup y.1=some .local:=by decide+kernel)(d:scope.names.lookup x=some .local:=by rfl)
  (e:∀y∈scope.names,y.2≠.cell:=by decide+kernel)(f:(scope.names.all λy=>!(y.2==.free)||(cl.lookup y.1).isSome)=true:=by rfl)(g:(x::fr.map (·.1)).Nodup:=by decide+kernel):lH X scope cl x fr:=⟨a,sub,b,c,d,e,f,aO,g⟩
end L2
namespace L2
open PySem PySem.W PySem.Spec PyProof.Rows
end L2
namespace L2
open PySem PySem.Spec PyProof.Rows
section
variable {X:Cx}{a b e e2:Expr}{ta tb te DO:TE}{p pos:Pos}
theorem bY(K:ae)(bl:Bl X.mg)(he:PE X e te)(h:X.K=K:=by rfl)(hg:Gl X "len":=by rfl)(cq:starEach [e] X.env=(false,eval e X.env)::starEach [] X.env:=by rfl)(bt:(backTo pos (starEach [] X.env)).any (·.1)=false:=by rfl):PE X (.Call (.Name "len" p) [e] [] pos) (dq (mn K) (cC te cP)):=cF (M7 h) hg bl.kz kg (aa he ag cq) (by decide) (by decide) cq bt
theorem eO(K:ae)(bl:Bl X.mg)(he:PE X e te)(h2:PE X e2 DO)(h:X.K=K:=by rfl)(hg:Gl X "isinstance":=by rfl)(kR:starEach [e2] X.env=(false,eval e2 X.env)::starEach [] X.env:=by rfl)(cq:starEach [e,e2] X.env=(false,eval e X.env)::starEach [e2] X.env:=by rfl)(bt:(backTo pos (starEach [e2] X.env)).any (·.1)=false:=by rfl):PE X (.Call (.Name "isinstance" p) [e,e2] [] pos) (dq (pq K) (cC te (cC DO cP))):=cF (J0 h) hg bl.yA yt (aa he (aa h2 ag kR) cq) (by decide) (by decide) cq bt
theorem iL(K:ae)(h:X.K=K:=by rfl):dt X (pe K):=Jl h
theorem iT(K:ae)(h:X.K=K:=by rfl):dt X (pf K):=JZ h
theorem bF{op:CmpOp}{r:R2}(ho:bE X (compareOp op) r)(ha:PE X a ta)(hb:PE X b tb)(hm:behindInMarks op b=false:=by exact Bo _):PT X (.Compare a [op] [b] pos) (B4 (gK r ta tb)):=AL ho ha hb hm
theorem kX{op:CmpOp}{r:R2}(ho:bE X (compareOp op) r)(ha:PE X a ta)(hb:PE X b tb)(hm:behindInMarks op b=false:=by exact Bo _):PE X (.Compare a [op] [b] pos) (gK r ta tb):=t4 ho ha hb hm
end
section
variable {V V' W H H':Hp}{a x d C:Addr}{o:HO}
end
section
variable {n k:Nat}{V:Nat->Hp}{ks UE:List (Addr×HO)}{H H' W:Hp}{a p x d C:Addr}{o o':HO}
end
end L2
namespace L2
open PySem PySem.W PySem.Spec PyProof.Rows
section
variable {prog:Program}{w:World}{A:Around}{R:Result->Shared->Prop}{s:Shared}
end
section
variable {X:Cx}{kx vx iter ik:Expr}{xs:List Str}{pos:Pos}{ifs:List Expr}{scope:Scope}{cl:List (Str×Addr)}{fr:List (Str×Nat)}{tg:TG}{tk tv:TE}{pins:ax}{σ:St}
end
section
variable {X:Cx}{kx vx iter:Expr}{x:Str}{px pos:Pos}{scope:Scope}{cl:List (Str×Addr)}{fr:List (Str×Nat)}{tk tv:TE}
end
end L2
namespace L2
open PySem PySem.Spec PyProof.Rows
open PySem.W (Looks InstAt looks_findIn looks_typeIn looks_clsIn looks_mroIn looks_find findObj findIn mroIn clsIn)
section
variable {X:Cx}{B:Addr}{x:Str}{body mi:List Stmt}{b0:Stmt}{px hp pos:Pos}{tb:(St->XK)->TS}{th:TS}
end
def Nh(L:Addr)(lo:Nat)(H:Hp)(h:Heap)(vs:Array Value):Prop:=
 ∃T oT ts,vs[1]?=some (Value.ref T)/\lo<=T/\H T=none/\h.get? T=some oT/\oT.data=.fields ts/\ts[3]?=some (rawInt L)
def QO(L:Addr)(P:Program)(w:World):dP:=λouter H s E e s'=>∃(a C d:Addr) (H':Hp) (vs:Array Value),e=.ref a/\s.heap.objs.size<=a/\s'.os=s.os/\AllBare s'.gens/\Un (aO outer) [] H H' s.heap s'.heap/\bw P w H' s'.heap/\
 H' a=some (xo a C (some d))/\bQ s'.heap a C (some d) vs/\Nh L s.heap.objs.size H' s'.heap vs/\E (.ref C) (some d) H'
def Ce(X:Cx)(E:St->XK):Prop:=∀(pins:ax) (σ:St) (H:Hp) (s:Shared) (e:Value) (s':Shared),Inv X pins σ H s->QO X.env.locals X.prog X.w X.stack H s (E σ) e s'->X.xe e s'
section
variable {P:Program}{w:World}{K:ae}{mg:aF}{base:Heap}{N:List Str}{qual:Str}{scope:Scope}{f:Addr}{cd:Value}{A:Around}{outer:List Env}{s:Shared}{H:Hp}{E:XK}
theorem Ms:Ce (cV (cz false P w) P w K mg base N qual scope f cd A outer s H E) (λ_=>E):=by
 intro pins σ H1 s1 e s' I cx;obtain⟨a,C,d,H',vs,rfl,lo,os,bare,un,ah,ha,xr,⟨T,oT,ts,vT,lT,nT,gT,dT,t3⟩,q⟩:=cx;obtain⟨oe,at_,cls,pX,dat,sz⟩:=id xr
 replace t3:ts[3]?=some (rawInt (s.heap.objs.size:Int)):=t3
 have QP:T≠a:=λz=>by rw[z,ha] at nT;cases nT
 have l3:3<ts.size:=(Y6.mp t3).1;show wpAny (model P w) _ (leaving _ _) _ _ s';unfold leaving;refine wpAny_bind ?_;show wpAny _ _ (do
  let head←field (.ref a) 1
  _) _ _ _
 refine wpAny_bind (wpAny_field at_ dat vT ?_);rw[if_pos (by simp)];refine wpAny_bind (wpAny_field gT dT t3 ?_);rw[if_pos (beq_self_eq_true _)];refine wpAny_pure ?_;unfold setFlight;refine wpAny_bind (wpAny_field at_ dat vT ?_);rw[if_pos (by simp)];refine wpAny_setField gT dT l3 ?_;have cA:∀b,b≠T->(s'.heap.update T (Obj.mapFields (·.setIfInBounds 3 Value.none))).get? b=s'.heap.get? b:=λb hb=>Yi _ _ (Ne.symm hb);have d3:=Obj.data_mapFields dT (·.setIfInBounds 3 Value.none);have g3:=Yu (Obj.mapFields (·.setIfInBounds 3 Value.none)) gT (Obj.isFreed_of_fields d3);have old:∀b o,s1.heap.get? b=some o->b≠T:=λb o hb z=>absurd (Yd (z▸hb)) (Nat.not_lt.mpr lT);have c3:cz false P w (envOfC qual scope s.heap.objs.size f cd::outer) H1 s1 E (.ref a) {s' with heap:=s'.heap.update T (Obj.mapFields (·.setIfInBounds 3 Value.none))}:=by
  refine⟨a,C,d,H',vs,rfl,lo,os,bare,⟨λb o g n f x=>?_,λb o g n f x=>?_,un.free,λb o g x=>?_,un.cN,un.cH,un.cO⟩,?_,ha,xr.keep λo g=>(cA a (Ne.symm QP)).trans g,⟨.inr ⟨T,_,_,vT,lT,nT,g3,d3,by simp[l3]⟩,λz=>by cases z⟩,q⟩;·exact(cA b (old b o g)).trans (un.keep b o g n f x)
  ·obtain⟨sl,g2⟩:=un.slot b o g n f x;exact⟨sl,(cA b (old b o g)).trans g2⟩
  ·obtain⟨o',g2⟩:=un.there b o g x;exact⟨o',(cA b (old b o g)).trans g2⟩
  ·intro b o hb;refine(ah b o hb).eH (λc u hc g=>?_) (λc hc=>hc) (λc xs hc=>hc);refine(cA c λz=>?_).trans g;rcases hc with rfl|hc;·rw[z,nT] at hb;cases hb
   ·rw[z,nT] at hc;cases hc
 obtain⟨a',C',d',H2,QQ,rfl',QR,J,QS,QT,QU,q2⟩:=I.oE c3;have DP:s.heap.objs.size<=s1.heap.objs.size:=I.sz;exact⟨a',C',d',H2,QQ,rfl',Yn DP QR,J.os,J.bare,J.base,J.ah,QS,QT,⟨QU.1.mono DP,λz=>by cases z⟩,q2⟩
end
section
variable {M:Model}{A:Around}{E:aC}{s:Shared}{K:ae}{a C B1 B2:Addr}{d:Option Addr}{vs:Array Value}
theorem GP{t:Addr}{Q:Bool->Shared->Prop}{b1 b2:Bool}(KX:K.In s.heap)(wc:aW K B1)(we:aW K B2)(XC:aW K C)(xr:bQ s.heap a C d vs)(it:s.heap.get? t=some {cls:=.type "tuple",data:=.seq #[.ref B1,.ref B2]})(m1:mroIn K C (.ref B1)=some b1)(m2:mroIn K C (.ref B2)=some b2)(z:Q (b1||b2) s):wpAny M A (excMatches (.ref a) (.ref t)) Q E s:=by
 obtain⟨nm,q,N,bs,cs,sn,sb,ab,col,dd,k0,k1,k2,k3,k5,l⟩:=wc.dk;obtain⟨UG,q2,N2,UH,QV,UI,DQ,UJ,Uh,UK,j0,j1,j2,j3,j5,l2⟩:=we.dk;obtain⟨QC,q',N',QD,QE,QF,QG,QH,M9,p4,l0,l1,UL,l3,l5,l'⟩:=XC.dk;have kb:=KX _ _ l;have kb2:=KX _ _ l2;have kc:=KX _ _ l';obtain⟨oe,e1,e2,_⟩:=xr;have fQ:=oU B1 cs (.type "BaseException") (by decide);have Ni:=oU B2 QV (.type "BaseException") (by decide);have v_:=eV l' m1;have CT:=eV l' m2;have tt:isSubtype (.type "tuple") (.type "tuple")=pure true:=by kernel_rfl
 unfold excMatches;repeat (first|with_reducible refine wpAny_loadPart_at it ?_|wp_step)
 repeat (first|with_reducible refine wpAny_loadPart_at it ?_|wp_step)
 repeat (first|(with_reducible refine wpAny_loadPart_at e1 ?_;rw[e2])|with_reducible refine wpAny_loadPart_at it ?_|with_reducible refine wpAny_loadPart_at kb ?_|with_reducible refine wpAny_loadPart_at kb2 ?_|(with_reducible refine wpAny_isSubtype_exc kb ?_;rw[fQ])|(with_reducible refine wpAny_isSubtype_exc kb2 ?_;rw[Ni])|(with_reducible refine wpAny_isSubtype_exc kc ?_;first|rw[v_]|rw[CT])|wp_step)
 cases b1 with
 |true=>wp_walk;exact z
 |false=>
  wp_walk
  with_reducible refine wpAny_isSubtype_exc kc ?_
  rw[CT];cases b2<;>(wp_walk;exact z)
end
def xf(a C:Addr)(d:Option Addr):HO:=.ext λh=>∃vs,bQ h a C d vs/\vs[2]?=some Value.none
theorem Mt{P:Program}{w:World}{H:Hp}{h:Heap}{a C:Addr}{d:Option Addr}{vs:Array Value}(x:bQ h a C d vs)(z:vs[2]?=some Value.none):bo P w H h a (xf a C d):=
 ⟨⟨vs,x,z⟩,let⟨oe,e,_⟩:=x;⟨oe,e⟩,λ_ _ ⟨ws,y,q⟩ k=>⟨ws,y.keep k,q⟩⟩
theorem LC{P:Program}{w:World}{H:Hp}{h:Heap}{a C:Addr}{d:Option Addr}(ok:bw P w H h)(e:H a=some (xf a C d)):∃vs,bQ h a C d vs/\vs[2]?=some Value.none:=(ok a _ e).1
theorem JB{M:Model}{A:Around}{Er:aC}{s:Shared}{base:Heap}{env:Env}{outer:List Env}{L e:Addr}{oe:Obj}{vs:Array Value}{Q:Unit->Shared->Prop}
  (fr:A.frames=some (env::outer))(gC:s.heap.FunFrames base (env::outer))(hL:env.frame=some L)(at_:s.heap.get? e=some oe)(dat:oe.data=.fields vs)(v1:vs[1]?=some Value.none)
  (k:∀h' T ts,(∀b o,b≠e->b∉aO (env::outer)->s.heap.get? b=some o->h'.get? b=some o)->(∀b o,b∈aO (env::outer)->s.heap.get? b=some o->∃sl,h'.get? b=some {o with slots:=sl})->
   h'.get? e=some {oe with data:=.fields (vs.setIfInBounds 1 (.ref T))}->s.heap.objs.size<=T->T≠e->h'.get? T=some {cls:=.type "traceback",dict:=none,data:=.fields ts}->ts[3]?=some (rawInt L)->Q () {s with heap:=h'}):
  wpAny M A (noteFrame (.ref e) env) Q Er s:=by
 have sz:1<vs.size:=(Y6.mp v1).1;have out:e∉aO (env::outer):=λz=>by
  obtain⟨_,o,q,nf⟩:=gC.mem z;rw[at_] at q;cases q;exact nf vs dat
 unfold noteFrame;simp only[hL];refine wpAny_bind (wpAny_field at_ dat v1 ?_);rw[if_neg (by decide)];refine wpAny_bind (wpAny_frameOf_fun fr gC hL λh1 so=>wpAny_bind (wpAny_entryPlaceOf λpl ip=>?_));unfold EntryCells.newEntry newFields;refine wpAny_bind (wpAny_newObj_type ?_ (ip.sizeOk5 _ _ _ _ _));generalize v5:([Value.none,Value.ref L,Value.none,rawInt L,Value.none]++(if pl.isEmpty=true then List.replicate 6 Value.none else pl)).toArray=fP;have l3:fP[3]?=some (rawInt L):=by rw[←v5];simp
 have e1:h1.get? e=some oe:=(so.2.1 e out).trans at_;have lt:e<h1.objs.size:=Yd e1;have e2:=Yb {cls:=.type "traceback",dict:=none,data:=.fields fP} e1;refine wpAny_setField e2 dat sz ?_;have d3:=Obj.data_mapFields dat (·.setIfInBounds 1 (Value.ref h1.objs.size));have e3:=Yu (Obj.mapFields (·.setIfInBounds 1 (Value.ref h1.objs.size))) e2 (Obj.isFreed_of_fields d3);have t3:=(Yi (h1.push {cls:=.type "traceback",dict:=none,data:=.fields fP}) (Obj.mapFields (·.setIfInBounds 1 (Value.ref h1.objs.size))) (Yh lt)).trans (Ye h1 rfl);refine k _ h1.objs.size fP ?_ ?_ ?_ (Jb so.1.symm) (Wp lt) t3 l3
 ·intro b o hb hf hg;have g1:h1.get? b=some o:=(so.2.1 b hf).trans hg;rw[Yi _ _ (Ne.symm hb)];exact Yb _ g1
 ·intro b o hf hg;obtain⟨sl,g1⟩:=so.2.2 b o hg;have hb:b≠e:=λz=>out (z▸hf);refine⟨sl,?_⟩;rw[Yi _ _ (Ne.symm hb)];exact Yb _ g1
 ·rw[e3];obtain⟨c,dd,da,sl⟩:=oe;cases dat;rfl
theorem IA{prog:Program}{w:World}{A:Around}{E:aC}{s:Shared}{a n:Addr}{oa on:Obj}{va vn:Array Value}{α:Type}{Q:α->Shared->Prop}(hh:A.handled=some (.ref a))(na:n≠a)
  (ga:s.heap.get? a=some oa)(da:oa.data=.fields va)(v2:va[2]?=some Value.none)(gn:s.heap.get? n=some on)(dn:on.data=.fields vn)(sz:2<vn.size)
  (k:E (.ref n) {s with heap:=s.heap.update n (Obj.mapFields (·.setIfInBounds 2 (.ref a)))}):wpAny (model prog w) A (raiseNew (.ref n):Sem α) Q E s:=by
 unfold raiseNew;refine wpAny_bind (wpAny_handled ?_);rw[hh];dsimp only;rw[if_pos (bne_iff_ne.mpr λz=>na (Value.ref.inj z).symm)];refine wpAny_bind (wpAny_holding (runValue_entry (b:=Builtin.«proto.unchain») (by kernel_rfl) ?_));show wpAny _ _ (do
  let context←field (.ref a) 2
  _) _ _ _
 refine wpAny_bind (wpAny_field ga da v2 ?_);rw[if_pos (by decide)];refine wpAny_pure ⟨_,rfl,?_⟩;show wpAny _ _ (do
  setField (.ref n) 2 (.ref a)
  throw (.ref n)) _ _ _
 exact wpAny_bind (wpAny_setField gn dn sz (wpAny_throw k))
abbrev A0(A:Around):Around:={A with handled:=none}
structure ji(P:Program)(w:World)(K:ae)(mg:aF)(base:Heap)(k:Nat)(f:Addr)(fd:FuncData)(ps:List Str)(sp:Sp):Prop where
 len:∀vs H Q E,sp vs H Q E->vs.length=ps.length
 go:∀(A:Around) (a:Addr) (outer:List Env) (s:Shared) (H:Hp) (args:Args) (us:List Value) (vs:List V) (Q:VK),A.handled=some (.ref a)->aV k (A0 A)->eZ P w K mg base (A0 A) outer s H->BindsTo s fd args (ps.zip us)->Vals vs us->sp vs H Q E0->
  codeAny (model P w) A (.call (.ref f) args) (CR aR outer P w H s Q E0) s
theorem eI.DR{P:Program}{w:World}{K:ae}{mg:aF}{base:Heap}{x qual:Str}{st:Stmt}{f:Addr}{fd:FuncData}{N ps:List Str}{k:Nat}{sp:Sp}(F:eI K x qual st f fd)(S:aY N ps (ar st))(len:∀vs H Q E,sp vs H Q E->vs.length=ps.length)
  (body:∀(aD:Value) (A:Around) (a:Addr) (outer:List Env) (s:Shared) (H:Hp) (vs:List V) (Q:VK),aV k (A.deeper (envOfC qual (ar st) s.heap.objs.size f aD))->sp vs H Q E0->
   ∃t,cv ((cV aR P w K mg base N qual (ar st) f aD A outer s H E0).hand a).e7 (aT st) t/\t {nx:=λ_ H'=>Q .ao H',rt:=Q} (start N vs) H):ji P w K mg base (k+1) f fd ps sp:=by
 obtain⟨oc,od,dV,kV,doc,pm,an,aD,ct,cy,rfl,lk,bW⟩:=F.ex;constructor;·exact len
 intro A a outer s H args us vs Q hh hr e0 hb r cJ;have KX:K.In s.heap:=e0.mod.eJ.keeps λb o e=>(e0.bs b o e).1;refine codeAny_call_function hr.depth (KX _ _ lk) rfl S.co S.gen rfl (codeRec_of KX bW) (hb _ _ _ _ (wpAny_newFunctionEnv_cells S.kind (λ⟨n,v⟩ hy=>?_) λenv he s1 x=>?_))
 ·rcases S.par n (Ww hy).1 with q|q;·exact .inl q
  ·exact .inr ⟨q,cellsFrom_some _ _ _ (.inl q)⟩
 subst he;refine⟨(e0.mod.nolimit.keeps λb o e=>(e0.bs b o e).1).keeps x.toInCall.keep,codeAny_func ?_⟩;obtain⟨t,ht,hq⟩:=body aD (A0 A) a outer s H vs Q (hr.deeper _) cJ;have eA:((A0 A).deeper (envOfC qual (ar st) s.heap.objs.size f aD)).mark (some (.ref a))=A.deeper (envOfC qual (ar st) s.heap.objs.size f aD):=by
  obtain⟨h,d,fr,gd,un⟩:=A;cases hh;rfl
 have go:=ht [] s1 _ H _ (((tD S (hr.hd) e0 (len _ _ _ _ cJ) r x).hand a).cG _) hq;have go2:wpAny (model P w) (((A0 A).deeper (envOfC qual (ar st) s.heap.objs.size f aD)).mark (some (.ref a))) _ _ _ _:=go;rw[eA] at go2;refine wpAny_mono go2 (λfl s' hs=>?_) λe s' hs=>hs.elim;cases fl with
 |ret u=>
  obtain⟨v,aB,H',J,rv,q⟩:=hs;exact⟨v,H',J.os,J.bare,J.base,J.ah,rv,q⟩
 |next=>
  obtain⟨aB,H',J,q⟩:=hs;exact⟨.ao,H',J.os,J.bare,J.base,J.ah,rfl,q⟩
 |brk=>
  obtain⟨_,_,_,q⟩:=hs;exact q.elim
 |cont=>
  obtain⟨_,_,_,q⟩:=hs;exact q.elim
theorem eZ.calm{P:Program}{w:World}{K:ae}{mg:aF}{base:Heap}{A:Around}{outer:List Env}{s:Shared}{H:Hp}(e:eZ P w K mg base A outer s H):eZ P w K mg base (A0 A) outer s H:=⟨e.frames,e.mod,e.bs,e.eK,e.dh,e.fK,e.ah,e.bare⟩
section
variable {X:Cx}{k:Nat}{a f C:Addr}{fd:FuncData}{ps:List Str}{sp:Sp}{bq:List V}{ds:List Value}{x m:Str}{p pos apos:Pos}{e:Expr}{es:List Expr}{t:TA}{te:TE}
theorem Kj{pins:ax}{σ:St}{H:Hp}{s:Shared}{Q:VK}{us:List Value}{vs:List V}(F:ji X.prog X.w X.K X.mg X.base k f fd ps sp)(hh:X.A.handled=some (.ref a))(hr:aV k (A0 X.A))(hb:Binds X.K fd ps ds)(hd:Vals bq ds)
  (I:Inv X pins σ H s)(r:Vals vs us)(h:sp (vs++bq) H Q E0):wpAny X.md X.A (call (.ref f) us) (EP X pins σ Q) X.xe s:=by
 have r2:=r.append hd;have hl:(us++ds).length=ps.length:=by rw[←r2.length];exact F.len _ _ _ _ h
 refine wpAny_call (codeAny_mono (F.go X.A a X.stack s H ⟨us,[]⟩ (us++ds) (vs++bq) Q hh hr I.iZ.calm (hb s us I.aI hl) r2 h) λr s' hq=>?_);cases r with
 |error e=>exact False.elim hq
 |ok fl=>cases fl<;>first|exact I.after hq|exact False.elim hq
theorem IB{pl:Sem Bool}(cf:iR X.K C m f)(F:ji X.prog X.w X.K X.mg X.base k f fd ps sp)(hh:X.A.handled=some (.ref a))(hr:aV k (A0 X.A))(hg:Gl X x)(hm:X.mg x=some (.ref C))(hb:Binds X.K fd ps ds)(hd:Vals bq ds)(ha:PA X (e::es) t)
  (bx:(x==("__debug__":Str))=false:=by decide)(cq:cR X e es:=by rfl)(bt:cX X pos es:=by rfl)
  (ht:eval (.Call (.Attribute (.Name x p) m apos) (e::es) [] pos) X.env=(do
   let ov←eval (.Name x p) X.env
   standAt apos.atName
   let(f,first)←holding [ov] (getMethod ov m pl)
   callWith pos f first (backTo pos (starEach (e::es) X.env)) (backToKw pos (keywordEach [] X.env))):=by rfl):
  PE X (.Call (.Attribute (.Name x p) m apos) (e::es) [] pos) (hU sp bq E0 t):=by
 intro pins s σ H Q I h;exact methodCall_KW (eC I hg hm (method_cls I.aI cf.ga (cls_value I.aI cf.rd cf.at_ rfl (callWith_K I.ok.mod.eJ cf.kp (ay (ha pos pins _ σ H _ (I.tok (s.toks+1)) h) λus s2 ⟨vs,H2,I2,r,q2⟩=>⟨I2.aI,Kj F hh hr hb hd I2 r q2⟩) cq bt))) bx) ht
def Mu(te:TE):TE:=λσ H Q=>te σ H λx H1=>∃y:Str,x=.str y/\y.length<=sizeLine/\Q (.str y) H1
theorem A5(he:PE X e te):PE X (.FormattedValue e (-1) none pos) (Mu te):=by
 intro pins s σ H Q I h;refine wpAny_FormattedValue_plain (ay (he pins s σ H _ I h) λu s1 zq=>?_);obtain⟨x,H1,I1,rx,y,ex,ly,q⟩:=zq;subst ex;obtain⟨t,rfl⟩:=rx;exact wpAny_formatField_str ⟨.str y,H1,I1,⟨t,rfl⟩,q⟩ ⟨.str y,H1,I1.tok _,⟨_,rfl⟩,q⟩ ly
end
def oq(P:Program)(w:World)(K:ae)(mg:aF)(base:Heap)(x wd:Str)(c:Addr):Prop:=
 ∃fi fd,dI K c fi/\ji P w K mg base 2 fi fd eg (kA wd c)/\Binds K fd eg []/\mg x=some (.ref c)/\aW K c/\b_ K c "word"
section
variable {X:Cx}{B1 B2 c:Addr}{x1 x2 y wd txt:Str}{j ck nk tk:Nat}{body:List Stmt}{p1 p2 tp py cp bI np kG hp pos:Pos}{tb:(St->XK)->TS}{E:St->XK}
theorem GQ{a C d:Addr}{pins:ax}{s:Shared}{σ:St}{H:Hp}{E:XK}{Q:Flow->Shared->Prop}{Xe:aC}(h:oq X.prog X.w X.K X.mg X.base y wd c)(hr:aV j (A0 X.A))(hj:3<=j)(hg:Gl X y)(I:Inv X pins σ H s)(ea:H a=some (xf a C (some d)))(hh:X.A.handled=some (.ref a))(ht:txt.length<=1000000)
  (xp:XP H c wd E)(k:∀s1 n d' H' vs s',Inv X pins σ H s1->s1.heap.objs.size<=n->s'.os=s1.os->AllBare s'.gens->Un (aO X.stack) [] H H' s1.heap s'.heap->bw X.prog X.w H' s'.heap->H' n=some (xo n c (some d'))->bQ s'.heap n c (some d') vs->vs[1]?=some Value.none->E (.ref c) (some d') H'->Xe (.ref n) s')
  (bx:(y==("__debug__":Str))=false:=by decide):
  wpAny X.md X.A (exec (.Raise (some (.Call (.Name y py) [.Constant (.str txt) ck cp] [] bI)) (some (.Constant .none nk np)) kG) X.env) Q Xe s:=by
 obtain⟨fi,fd,M,F,hb,hm,xa,na⟩:=h;rw[arm_exec_Raise];refine wpAny_bind (wpAny_standAt ?_);show wpAny _ X.A (raiseStmt X.env (some (do let v←eval (.Call (.Name y py) [.Constant (.str txt) ck cp] [] bI) X.env;standAt kG;pure v)) (some (do let v←eval (.Constant .none nk np) X.env;standAt kG;pure v))) _ _ s;unfold raiseStmt;refine wpAny_bind (wpAny_bind ?_);refine wpAny_Call_Name_kw (eC I hg hm ?_ bx);refine callWith_K (h₀:=X.base) I.ok.mod.eJ M.kp (Calls.spliced_cons (Calls.Constant_str (k:=ck) (pos:=cp) (Calls.spliced_nil ?_))) rfl rfl;have I1:Inv X pins σ H {s with toks:=s.toks+1}:=I.tok _;refine⟨I1.aI,?_⟩;generalize QW:({s with toks:=s.toks+1}:Shared)=s1 at I1⊢;clear QW I;obtain⟨nm,qn,N,bs,bm,sn,sub,ab,col,dd,k0,k1,k2,k3,k5,lk⟩:=M.dk;have kc:=I1.aI _ _ lk;have fr:H (s1.heap.objs.size+1)=none:=I1.ah.fresh (Wj _);have hq:kA wd c (.ref (s1.heap.objs.size+1)::([.str txt]++[])) (upd H (s1.heap.objs.size+1) (xn (s1.heap.objs.size+1) c none)) (λv H2=>v=.ao/\∃d',H2 (s1.heap.objs.size+1)=some (xn (s1.heap.objs.size+1) c (some d'))/\H2 a=some (xf a C (some d))/\E (.ref c) (some d') (upd H2 (s1.heap.objs.size+1) (xo (s1.heap.objs.size+1) c (some d')))) E0:=by
  refine⟨_,txt,rfl,aw,ht,λd' hd nd=>⟨rfl,d',aw,?_,?_⟩⟩
  ·have n1:a≠s1.heap.objs.size+1:=bg ea fr;have gO:H d'=none:=by rw[ak nd] at hd;exact hd
   rw[ak n1,ak (bg ea gO),ak n1];exact ea
  ·have gO:H d'=none:=by rw[ak nd] at hd;exact hd
   refine xp _ d' _ fr gO (λb o e=>?_) aw ?_
   ·have n1:b≠s1.heap.objs.size+1:=bg e fr;rw[ak n1,ak n1,ak (bg e gO),ak n1];exact e
   ·rw[ak nd,ak nd,aw]
 have r2:Vals (V.ref (s1.heap.objs.size+1)::([V.str txt]++[])) (Value.ref (s1.heap.objs.size+1)::([Value.str txt s.toks]++[])):=.cons rfl (.cons ⟨_,rfl⟩ .nil);have hl:([Value.ref (s1.heap.objs.size+1),Value.str txt s.toks]++[]).length=[("self":Str),"why"].length:=rfl;have here:((s1.heap.push {cls:=.type "tuple",data:=.seq [Value.str txt s.toks].toArray}).push {cls:=.ref c,data:=.fields #[.ref s1.heap.objs.size,.none,.none,.none,.bool false,.none]}).get? (s1.heap.objs.size+1)=
   some {cls:=.ref c,data:=.fields #[.ref s1.heap.objs.size,.none,.none,.none,.bool false,.none]}:=by heap_get
 have up:∀b o,s1.heap.get? b=some o->((s1.heap.push {cls:=.type "tuple",data:=.seq [Value.str txt s.toks].toArray}).push {cls:=.ref c,data:=.fields #[.ref s1.heap.objs.size,.none,.none,.none,.bool false,.none]}).get? b=some o:=
  λb o z=>Yb _ (Yb _ z)
 have new:bo X.prog X.w (upd H (s1.heap.objs.size+1) (xn (s1.heap.objs.size+1) c none)) _ (s1.heap.objs.size+1) (xn (s1.heap.objs.size+1) c none):=oR (vs:=#[.ref s1.heap.objs.size,.none,.none,.none,.bool false,.none]) ⟨_,here,rfl,rfl,rfl,by show 1<6;decide⟩ ⟨rfl,rfl,rfl⟩;have I2:=I1.laid (a:=s1.heap.objs.size+1) (o:=xn (s1.heap.objs.size+1) c none) (t':=s1.toks) up (Wj _) new;have L1:=looks_findIn (M:=model X.prog X.w) I1.aI M.init;have L2:=looks_typeIn (M:=model X.prog X.w) I1.aI (beq_iff_eq.mp M.fn);have pR:=hb _ (Value.ref (s1.heap.objs.size+1)::[Value.str txt s.toks]) I2.aI hl;rw[Yx] at pR;rw[Yx] at r2;rw[Yx] at hq;obtain⟨h1,g1,d1,t1,o1⟩:=s1;show wpAny _ _ (call (.ref c) [Value.str txt s.toks]) _ _ _;refine Ad kc (eV lk M.d_) (eV lk M.dQ) (eV lk M.il) L1 L2 (wpAny_call (codeAny_mono (F.go (X.A.under (.builtin "type.__call__" ⟨.ref c::[Value.str txt s.toks],[]⟩)) a X.stack _ _ ⟨Value.ref (h1.objs.size+1)::[Value.str txt s.toks],[]⟩ (Value.ref (h1.objs.size+1)::[Value.str txt s.toks]) _ _ hh ((hr.mono hj).make c [Value.str txt s.toks] [])
  (I2.iZ.make c [Value.str txt s.toks] []).calm pR r2 hq) λr s' cj=>?_)) (by rw[sizeLine_eq];show 1<=_;omega)
 cases r with
 |error _=>exact False.elim cj
 |ok fl=>
  cases fl with
  |next=>exact False.elim cj
  |brk=>exact False.elim cj
  |cont=>exact False.elim cj
  |ret u=>
   obtain⟨v,H',ig,bare,un,ah,rv,rfl,d',en,QX,cG⟩:=cj;obtain rfl:u=Value.none:=rv;refine⟨rfl,wpAny_bind (wpAny_standAt (wpAny_pure ?_))⟩;obtain⟨ws,xr,w1,w2,w6⟩:=lS ah en;obtain⟨oe,e1,e2,e3,e4,e5⟩:=id xr;obtain⟨va,DS,QY⟩:=LC ah QX;obtain⟨oa,a1,a2,a3,a4,a5⟩:=id DS;have I3:Inv X pins σ H' s':=I2.lY (ch:=[]) ig un ah bare λb z=>absurd z (by simp);have jd:=I3.aI _ _ lk;have fQ:=eV lk M.fQ;have wg:h1.objs.size+1≠a:=Ne.symm (bg ea fr);obtain⟨oc,od,v9,cy⟩:=oe;dsimp only at e2 e3 e4;subst e2 e3 e4;have cn:c≠h1.objs.size+1:=λz=>by
    have:=lk▸(I1.aI _ _ lk);exact absurd (Yd kc) (by rw[z];exact Nat.not_lt.mpr (Wj _))
   obtain⟨h',g',d9,t',o'⟩:=s';dsimp only at e1 a1 jd un ah xr DS ig bare;have cA:∀(f:Obj->Obj) (h:Heap) b,b≠h1.objs.size+1->(h.update (h1.objs.size+1) f).get? b=h.get? b:=λf h b hb=>Yi _ _ (Ne.symm hb);have q3:(h'.update (h1.objs.size+1) (Obj.mapFields λx=>x.setIfInBounds 3 Value.none)).get? (h1.objs.size+1)=some {cls:=.ref c,dict:=some d',data:=.fields (ws.setIfInBounds 3 Value.none),slots:=cy}:=Yu _ e1 (Obj.isFreed_of_fields rfl);have q4:((h'.update (h1.objs.size+1) (Obj.mapFields λx=>x.setIfInBounds 3 Value.none)).update (h1.objs.size+1) (Obj.mapFields λx=>x.setIfInBounds 4 (Value.bool true))).get? (h1.objs.size+1)=some {cls:=.ref c,dict:=some d',data:=.fields ((ws.setIfInBounds 3 Value.none).setIfInBounds 4 (Value.bool true)),slots:=cy}:=Yu _ q3 (Obj.isFreed_of_fields rfl);have UM:=(cA (Obj.mapFields λx=>x.setIfInBounds 4 (Value.bool true)) _ c cn).trans ((cA (Obj.mapFields λx=>x.setIfInBounds 3 Value.none) _ c cn).trans jd);have mY:=(cA (Obj.mapFields λx=>x.setIfInBounds 4 (Value.bool true)) _ a (Ne.symm wg)).trans ((cA (Obj.mapFields λx=>x.setIfInBounds 3 Value.none) _ a (Ne.symm wg)).trans a1);have q5:=Yu (Obj.mapFields (·.setIfInBounds 2 (Value.ref a))) q4 (Obj.isFreed_of_fields rfl);repeat (first|with_reducible refine wpAny_loadPart_at e1 ?_|with_reducible refine wpAny_loadPart_at jd ?_|(with_reducible refine wpAny_isSubtype_exc jd ?_;rw[fQ])|wp_step)
   rw[show((ws.setIfInBounds 3 Value.none).setIfInBounds 4 (Value.bool true))[1]?=some Value.none by rw[Yp (by decide),Yp (by decide)];exact w1];refine wpAny_pure ?_;rw[if_neg (by decide)];refine wpAny_pure (IA hh wg mY a4 QY q4 rfl (by rw[Ym,Ym];omega) ?_);refine k ⟨h1,g1,d1,t1,o1⟩ _ d' (upd H' (h1.objs.size+1) (xo (h1.objs.size+1) c (some d'))) (((ws.setIfInBounds 3 Value.none).setIfInBounds 4 (Value.bool true)).setIfInBounds 2 (Value.ref a)) _ I1 (Wj _) ig bare ?_ ?_ aw ⟨_,q5,rfl,rfl,rfl,?_⟩ ?_ cG
   ·have du:Un (aO X.stack) [] H H' h1 h':=(Un.laid up (Wj _) fr).trans un;have old:∀b o,h1.get? b=some o->b≠h1.objs.size+1:=λb o hb=>Yh (Wq (Yd hb));have tk:∀b u,H b=some u->b≠h1.objs.size+1:=λb u hb z=>by rw[z,fr] at hb;cases hb
    have al:∀b,b≠h1.objs.size+1->_=_:=λb hb=>(cA (Obj.mapFields (·.setIfInBounds 2 (Value.ref a))) _ b hb).trans ((cA (Obj.mapFields λx=>x.setIfInBounds 4 (Value.bool true)) _ b hb).trans (cA (Obj.mapFields λx=>x.setIfInBounds 3 Value.none) h' b hb));refine⟨λb o hb n f x=>(al b (old b o hb)).trans (du.keep b o hb n f x),λb o hb n f x=>?_,λb o hb n x'=>by rw[ak (old b o hb)];exact du.free b o hb n x',λb o hb x=>?_,λb xs hb=>by rw[ak (tk b _ hb)];exact du.cN b xs hb,
     λb o u hb=>by rw[ak (tk b _ hb)];exact du.cH b o u hb,λb ps hb=>by rw[ak (tk b _ hb)];exact du.cO b ps hb⟩
    ·obtain⟨sl,g2⟩:=du.slot b o hb n f x;exact⟨sl,(al b (old b o hb)).trans g2⟩
    ·obtain⟨QZ,g2⟩:=du.there b o hb x;exact⟨QZ,(al b (old b o hb)).trans g2⟩
   ·intro b o hb;have al:∀b,b≠h1.objs.size+1->_=_:=λb hb=>(cA (Obj.mapFields (·.setIfInBounds 2 (Value.ref a))) _ b hb).trans ((cA (Obj.mapFields λx=>x.setIfInBounds 4 (Value.bool true)) _ b hb).trans (cA (Obj.mapFields λx=>x.setIfInBounds 3 Value.none) h' b hb));by_cases z:b=h1.objs.size+1
    ·subst z;rw[aw] at hb;cases hb;exact oQ ⟨_,q5,rfl,rfl,rfl,by rw[Ym,Ym,Ym];omega⟩
    ·rw[ak z] at hb;have nz:∀c' u,H' c'=some u->(u=.own b\/∃xs,u=.tup xs)->c'≠h1.objs.size+1:=λc' u hc hu y=>by
      rw[y,en] at hc;cases hc;rcases hu with hu|⟨xs,hu⟩<;>cases hu
     refine(ah b o hb).eH (λc' u hc g=>?_) (λc' hc=>by rw[ak (nz c' _ hc (.inl rfl))];exact hc) λc' xs hc=>by rw[ak (nz c' _ hc (.inr ⟨_,rfl⟩))];exact hc
     rcases hc with rfl|hc;·exact(al _ z).trans g
     ·exact(al _ (nz c' _ hc (.inl rfl))).trans g
   ·rw[Ym,Ym,Ym];omega
   ·rw[Yp (by decide),Yp (by decide),Yp (by decide)];exact w1
end
def DT(K:ae)(B1 B2 c:Addr)(wd:Str)(H0:Hp)(E:St->XK):St->XK:=λσ v o H=>∃C d,v=.ref C/\o=some d/\aW K C/\(∃b1 b2,mroIn K C (.ref B1)=some b1/\mroIn K C (.ref B2)=some b2/\(b1||b2)=true)/\
 ∀a H',H0 a=none->(∀b o,b≠a->H b=some o->H' b=some o)->XP H' c wd (E σ)
theorem aX.Q0{b:Bool}{P:Program}{w:World}{K:ae}{mg:aF}{base:Heap}{x qual:Str}{st:Stmt}{f:Addr}{fd:FuncData}{N ps:List Str}{k:Nat}{sp:Sp}(F:aX K x qual st f fd)(S:aY N ps (ar st))(len:∀vs H Q E,sp vs H Q E->vs.length=ps.length)
  (body:∀(aD:Value) (A:Around) (outer:List Env) (s:Shared) (H:Hp) (vs:List V) (Q:VK) (E:XK),aV k (A.deeper (envOfC qual (ar st) s.heap.objs.size f aD))->(∀a:Addr,s.heap.objs.size<=a->H a=none)->sp vs H Q E->
   ∃t,cv (cV (cz b P w) P w K mg base N qual (ar st) f aD A outer s H E) (aT st) t/\t {nx:=λ_ H'=>Q .ao H',rt:=Q} (start N vs) H):aG P w K mg base (cz b P w) (k+1) f fd ps sp:=by
 obtain⟨oc,od,kV,doc,pm,an,aD,ct,cy,rfl,lk,bW⟩:=F.ex;constructor;·exact len
 intro A outer s H args us vs Q E hr e0 hb r cJ;have KX:K.In s.heap:=e0.mod.eJ.keeps λb o e=>(e0.bs b o e).1;refine codeAny_call_function hr.depth (KX _ _ lk) rfl S.co S.gen rfl (codeRec_of KX bW) (hb _ _ _ _ (wpAny_newFunctionEnv_cells S.kind (λ⟨n,v⟩ hy=>?_) λenv he s1 x=>?_))
 ·rcases S.par n (Ww hy).1 with q|q;·exact .inl q
  ·exact .inr ⟨q,cellsFrom_some _ _ _ (.inl q)⟩
 subst he;refine⟨(e0.mod.nolimit.keeps λb o e=>(e0.bs b o e).1).keeps x.toInCall.keep,codeAny_func ?_⟩;obtain⟨t,ht,hq⟩:=body aD A outer s H vs Q E (hr.deeper _) (λa h=>e0.ah.fresh h) cJ;refine wpAny_mono (ht [] s1 _ H _ (tD S hr.hd e0 (len _ _ _ _ cJ) r x) hq) (λfl s' hs=>?_) λe s' hs=>hs;cases fl with
 |ret u=>
  obtain⟨v,aB,H',J,rv,q⟩:=hs;exact⟨v,H',J.os,J.bare,J.base,J.ah,rv,q⟩
 |next=>
  obtain⟨aB,H',J,q⟩:=hs;exact⟨.ao,H',J.os,J.bare,J.base,J.ah,rfl,q⟩
 |brk=>
  obtain⟨_,_,_,q⟩:=hs;exact q.elim
 |cont=>
  obtain⟨_,_,_,q⟩:=hs;exact q.elim
section
variable {X:Cx}{B1 B2 c:Addr}{x1 x2 y wd txt:Str}{j ck nk tk:Nat}{body:List Stmt}{p1 p2 tp py cp bI np kG hp pos:Pos}{tb:(St->XK)->TS}{E:St->XK}
theorem Kk(fr:X.stack=X.env::X.outer/\X.env.frame=some X.env.locals)(Q1:Gl X x1)(Q2:X.mg x1=some (.ref B1))(wc:aW X.K B1)(Q3:Gl X x2)(mZ:X.mg x2=some (.ref B2))(we:aW X.K B2)
  (hE:oq X.prog X.w X.K X.mg X.base y wd c)(hr:aV j X.A)(hj:3<=j)(hg:Gl X y)(hx:Ce X E)(hf:∀a:Addr,X.bG.heap.objs.size<=a->X.hZ a=none)(ht:txt.length<=1000000)
  (hb:∀pn xe E,ky {X with pn:=pn,xe:=xe} E->PassesOwn X.md X.A X.env xe->cv {X with pn:=pn,xe:=xe} body (tb E))
  (Nj:(x1==("__debug__":Str))=false:=by decide)(Nk:(x2==("__debug__":Str))=false:=by decide)(bx:(y==("__debug__":Str))=false:=by decide):
  PS X (.Try body [.ExceptHandler (some (.Tuple [.Name x1 p1,.Name x2 p2] tk tp)) none [.Raise (some (.Call (.Name y py) [.Constant (.str txt) ck cp] [] bI)) (some (.Constant .none nk np)) kG] hp] [] [] pos) (λD σ H=>tb (DT X.K B1 B2 c wd X.hZ E) D σ H):=by
 intro pins s σ H D I h;rw[arm_exec_Try];refine wpAny_bind (wpAny_standAt (wpAny_tryStmt_except ?_));generalize Q4:ExceptHandler.ExceptHandler (some (.Tuple [.Name x1 p1,.Name x2 p2] tk tp)) none [.Raise (some (.Call (.Name y py) [.Constant (.str txt) ck cp] [] bI)) (some (.Constant .none nk np)) kG] hp=hs;let xe:Value->Shared->Prop:=λe s1=>wpAny X.md X.A (noteFrame e X.env) (λ_ s2=>wpAny X.md X.A (setFlight e none) (λ_ s3=>wpAny X.md X.A (handleBy e X.env [hs]) (SP X pins D) X.xe s3) X.xe s2) X.xe s1;have own:PassesOwn X.md X.A X.env xe:=PassesOwn.looking (K:=λe s2=>wpAny X.md X.A (setFlight e none) (λ_ s3=>wpAny X.md X.A (handleBy e X.env [hs]) (SP X pins D) X.xe s3) X.xe s2);have st:X.A.frames=some (X.env::X.outer):=by rw[←fr.1];exact I.ok.frames
 have wa:ky {X with pn:=X.pn++pins,xe:=xe} (DT X.K B1 B2 c wd X.hZ E):=by
  intro oO aB H1 s1 e s' I' cx;show xe e s';have f1:s1.heap.FunFrames X.base (X.env::X.outer):=by rw[←fr.1];exact I'.stack
  have f2:∀b∈aO (X.env::X.outer),H1 b=none:=by rw[←fr.1];exact I'.jX
  refine t_ (base:=X.base) st f1 f2 fr.2 (by rw[←fr.1];exact cx) λs3 c3=>?_;rw[←fr.1] at c3;obtain⟨a,C,d,H',vs,rfl,lo,J,ea,xr,⟨fl,fz⟩,C',d',ec,ed,XC,⟨b1,b2,m1,m2,mb⟩,q⟩:=I'.oE c3;cases ec;cases ed;have J2:Inv X pins aB H' s3:=J.fD I.ok;have J3:Inv X pins aB (upd H' a (xf a C (some d))) s3:=J2.write (x:=a) (e:=a) (o:=xf a C (some d)) (t':=s3.toks) (h':=s3.heap) (by rw[ea];exact True.intro) (.inl rfl) (λb o _ g=>g) (let⟨oe,e,_⟩:=xr;⟨oe,e⟩) (Mt xr (fz rfl));subst Q4;refine wpAny_handleBy_cons (codeAny_handlers_test ?_) (by intro z;cases z);refine wpAny_Tuple_spliced (Calls.spliced_cons (eC (X:=X.hand a) (J3.hand a) Q1 Q2 (Calls.spliced_cons (eC (X:=X.hand a) (J3.hand a) Q3 mZ (Calls.spliced_nil ⟨by rw[sizeLine_eq];show 2<=_;omega,?_⟩) Nk)) Nj));have up:∀b o,s3.heap.get? b=some o->(s3.heap.push {cls:=.type "tuple",data:=.seq #[.ref B1,.ref B2]}).get? b=some o:=λb o e=>Yb _ e;have J4:=J3.kept (t':=s3.toks) up;have DU:=xr.keep (h2:=s3.heap.push {cls:=.type "tuple",data:=.seq #[.ref B1,.ref B2]}) (up a);refine GP J4.aI wc we XC DU (Ye _ rfl) m1 m2 ?_;rw[mb];refine codeAny_handlers_suite (AW (H:=H') (lo:=s1.heap.objs.size) DU ?_ ?_)
  ·rcases fl with z|⟨T,oT,ts,h1,h2,h3,h4,h5⟩;·exact .inl z
   ·exact .inr ⟨T,oT,ts,h1,h2,h3,up _ _ h4,h5⟩
  refine wpAny_execs_cons ?_;refine GQ (X:=X.hand a) (E:=E aB) hE ⟨rfl,hr.dp,hr.un,hr.gd⟩ hj hg (J4.hand a) aw ?_ ht ?_ ?_ bx;·rfl
  ·refine q a _ (hf a (Yn I'.sz lo)) λb o nb e=>?_;rw[ak nb];exact e
  intro s5 n d5 H5 ws s6 I5 ln os bare un ah en Q5 w1 cG;obtain⟨oe,at_,cls,pX,dat,sz⟩:=id Q5;have I6:Inv (X.hand a) pins aB H5 s6:=I5.lY (ch:=[]) os un ah bare λb z=>absurd z (by simp);have Q6:s6.heap.FunFrames X.base (X.env::X.outer):=by rw[←fr.1];exact I6.stack
  have Cf:∀b∈aO (X.env::X.outer),H5 b=none:=by rw[←fr.1];exact I6.jX
  refine JB (A:=X.A.mark (some (.ref a))) st Q6 fr.2 at_ dat w1 λh' T ts k1 k2 k3 k4 k5 k6 k7=>?_;show cameBackBy _ _ _ _ _ _;have T1:(ws.setIfInBounds 1 (Value.ref T))[1]?=some (.ref T):=by simp[sz]
  unfold cameBackBy;refine wpAny_bind (wpAny_field k3 rfl T1 ?_);rw[if_neg (by simp)];unfold setFlight;refine wpAny_bind (wpAny_field k3 rfl T1 ?_);rw[if_pos (by simp),fr.2];refine wpAny_setField k6 rfl (Y6.mp k7).1 ?_;have same:=Heap.update_setField_same h' T _ ts 3 (rawInt X.env.locals) k6 rfl k7;show X.xe _ {s6 with heap:=h'.update T (Obj.mapFields (·.setIfInBounds 3 (rawInt X.env.locals)))};rw[same];have I9:Inv X pins aB _ s5:=Inv.BE (a:=a) I.ok (I5.cG _);have nT:H5 T=none:=ah.fresh k4;have DV:bQ h' n c (some d5) (ws.setIfInBounds 1 (.ref T)):=⟨_,k3,cls,pX,rfl,by rw[Ym];exact sz⟩;have old:∀b o,s5.heap.get? b=some o->b≠n:=λb o hb z=>absurd (Yd (z▸hb)) (Nat.not_lt.mpr ln);have jj:Un (aO (X.env::X.outer)) [] (upd H' a (xf a C (some d))) H5 s5.heap s6.heap:=by rw[←fr.1];exact un
  have v7:s5.heap.objs.size<=s6.heap.objs.size:=Yn ln (Wo (Yd at_));refine hx pins aB _ s5 _ _ I9 ⟨n,c,d5,H5,_,rfl,ln,os,bare,?_,?_,en,DV,⟨T,_,ts,T1,Yn v7 k4,nT,k6,rfl,k7⟩,cG⟩
  ·rw[fr.1];refine⟨λb o hb h1 h2 h3=>k1 b o (old b o hb) h2 (jj.keep b o hb h1 h2 h3),λb o hb h1 h2 h3=>?_,jj.free,λb o hb h1=>?_,jj.cN,jj.cH,jj.cO⟩
   ·obtain⟨sl,g2⟩:=jj.slot b o hb h1 h2 h3;obtain⟨s2,g3⟩:=k2 b _ h2 g2;exact⟨s2,g3⟩
   ·obtain⟨o',g2⟩:=jj.there b o hb h1;by_cases f':b∈aO (X.env::X.outer)
    ·obtain⟨s2,g3⟩:=k2 b _ f' g2;exact⟨_,g3⟩
    ·exact⟨o',k1 b o' (old b o hb) f' g2⟩
  ·intro b o hb;by_cases e1:b=n
   ·subst e1;rw[en] at hb;cases hb;exact oQ DV
   ·have nf:b∉aO (X.env::X.outer):=λz=>by rw[Cf b z] at hb;cases hb
    refine(ah b o hb).eH (λc' u hc g=>?_) (λc' hc=>hc) (λc' xs hc=>hc);rcases hc with rfl|hc;·exact k1 _ u e1 nf g
    ·exact k1 c' u (λz=>by rw[z,en] at hc;cases hc) (λz=>by rw[Cf c' z] at hc;cases hc) g
 refine wpAny_mono (hb _ xe _ wa own [] s σ H D I.BF h) (λf s1 z=>?_) λ_ _ z=>z;cases f with
 |next=>
  obtain⟨aB,H',J,q⟩:=z;exact wpAny_pure ⟨aB,H',J.fD I.ok,q⟩
 |brk=>
  obtain⟨aB,H',J,q⟩:=z;exact⟨aB,H',J.fD I.ok,q⟩
 |cont=>
  obtain⟨aB,H',J,q⟩:=z;exact⟨aB,H',J.fD I.ok,q⟩
 |ret u=>
  obtain⟨v,aB,H',J,rv,q⟩:=z;exact⟨v,aB,H',J.fD I.ok,rv,q⟩
end
end L2
namespace L2
open PySem PySem.Spec PyProof.Rows
theorem Fb(ys:List Str):∀tk:Nat,Vals (ys.map V.str) (strsFrom tk ys):=by
 induction ys with
 |nil=>exact λ_=>.nil
 |cons y r ih=>exact λtk=>.cons ⟨tk,rfl⟩ (ih (tk+1))
theorem Al(sep:Str)(hs:sep.length=1):∀ys:List Str,ys.length<=(Str.join sep ys).length+1/\∀y∈ys,y.length<=(Str.join sep ys).length:=by
 intro ys;induction ys with
 |nil=>exact⟨Y1 _,λy h=>nomatch h⟩
 |cons x r ih=>
  cases r with
  |nil=>exact⟨Nat.succ_le_succ (Y1 _),λy h=>by rw[Wz.mp h];exact Yc _⟩
  |cons z r=>
   have e:(Str.join sep (x::z::r)).length=x.length+sep.length+(Str.join sep (z::r)).length:=by
    rw[Str.join.eq_3 _ _ _ (by simp),strLen_append,strLen_append]
   rw[e,hs];refine⟨by have:=ih.1;simp only[Yy] at this⊢;omega,λy h=>?_⟩;rcases Yr.mp h with rfl|h;·omega
   ·have:=ih.2 y h;omega
abbrev bX(z:Str)(c:Nat):List Str:=Txt.split z ⟨#[c]⟩
theorem A6(z:Str)(c:Nat):(bX z c).length<=z.length+1:=by
 have h:=(Al ⟨#[c]⟩ rfl (bX z c)).1;rw[StrLaws.join_split] at h;exact h
theorem BN{z y:Str}{c:Nat}(h:y∈bX z c):y.length<=z.length:=by
 have h:=(Al ⟨#[c]⟩ rfl (bX z c)).2 y h;rw[StrLaws.join_split] at h;exact h
def LD:V->List V->Hp->VK->Prop:=λx vs H Q=>∃(z:Str) (c:Nat),x=.str z/\vs=[.str ⟨#[c]⟩]/\z.length<=100000/\Nw H (.lst ((bX z c).map V.str)) Q
theorem Am{X:Cx}:ij X "str.split" LD:=by
 intro pins s σ H x xs v us Q I rx rv h;obtain⟨z,c,rfl,rfl,lz,q⟩:=h;obtain⟨t,rfl⟩:=rx;obtain⟨u,rfl,t',rfl⟩:=rv.one;have ln:=A6 z c;have hz:((bX z c).map V.str).length<=sizeLine:=by rw[Ya,sizeLine_eq];omega
 have fin:∀(af:List Value) (tk:Nat),Vals ((bX z c).map V.str) af->EP X pins σ Q (.ref s.heap.objs.size) {s with heap:=s.heap.push {cls:=.type "list",data:=.seq af.toArray},toks:=tk}:=λaf tk r=>
  ⟨.ref s.heap.objs.size,_,I.laid (λb o e=>Yb _ e) (Yc _) (show bo X.prog X.w _ _ _ (.lst ((bX z c).map V.str)) from⟨hz,af,0,r,Ye _ rfl⟩),rfl,q.at _ (I.ah.fresh (Yc _))⟩
 by_cases h1:(decide (z.length<(⟨#[c]⟩:Str).length)||decide (Builtin.Str.strKind z<Builtin.Str.strKind ⟨#[c]⟩))=true
 ·refine call_meets slot_str_split (typeIs_str s z t) entry_str_split (args_str_split_2 _ _) (meets_str_split_cannot_occur z ⟨#[c]⟩ t t' h1) (fin [.str z t] s.toks ?_);rw[show bX z c=[z] by show Txt.split _ _=_;unfold Txt.split;rw[if_pos h1]];exact .cons ⟨t,rfl⟩ .nil
 ·by_cases h2:(Builtin.Str.occurrences z ⟨#[c]⟩ 0 z.length (z.length+1)).isEmpty=true
  ·refine call_meets slot_str_split (typeIs_str s z t) entry_str_split (args_str_split_2 _ _) (meets_str_split_not_found z ⟨#[c]⟩ t t' (W1.mpr h1) rfl h2) (fin [.str z t] s.toks ?_);rw[show bX z c=[z] by show Txt.split _ _=_;unfold Txt.split;rw[if_neg h1,if_pos h2]];exact .cons ⟨t,rfl⟩ .nil
  ·have e:bX z c=Builtin.Str.partsBetween z (Builtin.Str.occurrences z ⟨#[c]⟩ 0 z.length (z.length+1)) (⟨#[c]⟩:Str).length:=by
    show Txt.split _ _=_;unfold Txt.split;rw[if_neg h1,if_neg h2]
   have l2:(Builtin.Str.partsBetween z (Builtin.Str.occurrences z ⟨#[c]⟩ 0 z.length (z.length+1)) (⟨#[c]⟩:Str).length).length<=sizeLine:=by
    rw[←e,sizeLine_eq];omega
   refine call_meets slot_str_split (typeIs_str s z t) entry_str_split (args_str_split_2 _ _) (meets_str_split_sep z ⟨#[c]⟩ t t' (W1.mpr h1) rfl (W1.mpr h2) (by rw[sizeLine_eq];omega) l2) (fin _ _ ?_);rw[e];exact Fb _ _
theorem Kl(t:Tok):∀d:Nat,d<10->Builtin.«int.__new__» {pos:=[Value.type "int",Value.str ⟨#[48+d]⟩ t]}=(do let v←mkInt (d:Int);ret v)
 |0,_=>by kernel_rfl
 |1,_=>by kernel_rfl
 |2,_=>by kernel_rfl
 |3,_=>by kernel_rfl
 |4,_=>by kernel_rfl
 |5,_=>by kernel_rfl
 |6,_=>by kernel_rfl
 |7,_=>by kernel_rfl
 |8,_=>by kernel_rfl
 |9,_=>by kernel_rfl
 |_+10,h=>absurd h (by omega)
def Mv:List V->Hp->VK->Prop:=λxs H Q=>∃d:Nat,d<10/\xs=[.str ⟨#[48+d]⟩]/\Q (.int (d:Int)) H
theorem yC{X:Cx}:bC X (.type "int") Mv:=by
 rintro pins s σ H xs us Q I r ⟨d,hd,rfl,q⟩;obtain⟨u,rfl,t,rfl⟩:=vals1 r;refine call_int_1 (S:=λ_ R s=>R (.ok (.ret (.int (d:Int) s.toks))) {s with toks:=s.toks+1}) ?_ ?_
 ·intro prog w A R s h;rw[Kl t d hd]
  wp_walk
  exact h
 ·exact⟨typeIs_int _ _ _,.int (d:Int),H,I.tok _,⟨_,rfl⟩,q⟩
def LF:List V->Hp->VK->Prop:=λxs H Q=>∃z:Str,xs=[.str z]/\z.length<=100000/\Nw H (.lst (z.cps.toList.map λc=>V.str ⟨#[c]⟩)) Q
theorem FO{X:Cx}(hc:X.calm=true):bC X (.type "list") LF:=by
 rintro pins s σ H xs us Q I r ⟨z,rfl,lz,q⟩;obtain⟨u,rfl,t,rfl⟩:=vals1 r;have wj:z.cps.size<=sizeLine:=by rw[sizeLine_eq];show z.length<=_;omega
 refine call_list_str (I.ok.hd hc) z t (λh' tk vI c' hk v3 mq=>⟨.ref s.heap.objs.size,_,I.laid (o:=.lst (z.cps.toList.map λc=>V.str ⟨#[c]⟩)) hk (Yc _) ⟨?_,vI.toList,c',?_,by simpa using v3⟩,rfl,q.at _ (I.ah.fresh (Yc _))⟩) wj;·rw[Ya];exact wj
 ·refine nD (by rw[Ya];simp[mq.1]) λi x u e1 e2=>?_;obtain⟨c,t',e3,rfl⟩:=mq.2 i u (by simpa using e2);rw[Yj,Y8,e3] at e1;cases e1;exact⟨_,rfl⟩
theorem Walks.behind{prog:Program}{w:World}{A:Around}{I:Addr}{fp wr:List Addr}{n:Nat}{P:Nat->Value->Prop}{St:Nat->Heap->Prop}(W:PySem.Walks prog w A I fp wr (n+1) P St):PySem.Walks prog w A I fp wr n (λi=>P (i+1)) (λi=>St (i+1)):=
 ⟨W.sub,λi=>W.frame (i+1),λi s Q E hi st k=>W.item (i+1) s Q E (Nat.succ_lt_succ hi) st k,λs Q E st k=>W.done s Q E st k,λi=>W.self (i+1)⟩
section
variable {prog:Program}{w:World}{A:Around}{E:aC}{s:Shared}{l:Addr}
theorem An{items:Array Value}{Q:Bool->Shared->Prop}(hl:s.heap.IsList l items)(z:Q false s):wpAny (model prog w) A (notIterableAtAll (.ref l)) Q E s:=by
 obtain⟨o,g,c,n,d⟩:=hl;obtain⟨h,gg,dr,tk,os⟩:=s;have e:typeLookup (.type "list") "__iter__"=pure (some (.builtin "list.__iter__")):=by kernel_rfl
 unfold notIterableAtAll specialOf;refine wpAny_bind ?_;refine wpAny_bind ?_;repeat (first|(with_reducible refine wpAny_loadPart_at g ?_;rw[c])|wp_step)
 exact z
theorem zP{items:Array Value}{it:Addr}(Q7:l≠it)(n:Nat):∀(i:Nat) (s:Shared) (Q:List Value->Shared->Prop),s.heap.IsListIter it l i->s.heap.IsList l items->i+n<=items.size->
  (∀h':Heap,h'.IsListIter it l (i+n)->Heap.SameBut it s.heap h'->h'.IsList l items->Q ((items.toList.drop i).take n) {s with heap:=h'})->wpAny (model prog w) A (draw (.ref it) n) Q E s:=by
 induction n with
 |zero=>
  intro i s Q hi hl _ k;rw[draw.eq_1];refine wpAny_pure ?_;have:=k s.heap hi (Heap.SameBut.refl _ _) hl;rw[List.take_zero] at this;exact this
 |succ n ih=>
  intro i s Q hi hl hn k;have lt:i<items.size:=by omega
  rw[draw.eq_2];refine wpAny_bind (wpAny_pyNext_list_item hi hl (Y0 lt) λh1 m_ sb=>?_);dsimp only;obtain⟨o,g,c,m,d⟩:=id hl;have jk:h1.IsList l items:=⟨o,(sb.2 l Q7).trans g,c,m,d⟩;refine wpAny_bind (wpAny_holding (ih (i+1) _ _ m_ jk (by omega) λh2 Q8 DQ cD=>wpAny_pure ?_));have e:(items.toList.drop i).take (n+1)=items[i]::(items.toList.drop (i+1)).take n:=by
   rw[List.drop_eq_getElem_cons (by simpa using lt),List.take_succ_cons];rfl
  have:=k h2 (by rw[show i+(n+1)=i+1+n by omega];exact Q8) (Heap.SameBut.trans sb DQ) cD;rw[e] at this;exact this
end
section
variable {X:Cx}{pos sp:Pos}{es:List Expr}{e1 e2:Expr}{k:Nat}{t:e9}
theorem Ao{s:Shared}{l:Addr}:(s.heap.push {cls:=Value.type "list_iterator",data:=Data.fields #[Value.ref l,Value.int 0 0]}).IsListIter s.heap.objs.size l 0:=⟨_,Ye _ rfl,rfl,rfl⟩
theorem zQ{h:Heap}{l:Addr}{items:Array Value}{o:Obj}(hl:h.IsList l items):(h.push o).IsList l items:=by
 obtain⟨ol,g,r⟩:=hl;exact⟨ol,Yb _ g,r⟩
def CU(K:ae)(n:Nat)(t:e9):TG:=λv σ H Q=>∃a xs,v=.ref a/\ai K H a xs/\xs.length=n/\t xs σ H Q
theorem LG{n:Nat}(hc:X.calm=true)(h:i8 X es t)(hn:(assignEach es X.env).length=n:=by rfl)(cq:(assignEach es X.env).findIdx? (·.1)=none:=by rfl):PG X (.Tuple es k pos) (CU X.K n t):=by
 rintro pins s σ H v u Q I r ⟨a,xs,e1,hq,hl,hw⟩;subst e1;cases r;obtain⟨af,rv,pl,hz⟩:=I.list hq;have cD:=pl.isList;have ne:a≠s.heap.objs.size:=by
  obtain⟨o,g,_⟩:=cD;exact Yh (Yd g)
 have sz:af.toArray.size=n:=by rw[Yf,←rv.length,hl]
 rw[assign_Tuple];refine wpAny_bind (wpAny_standAt ?_);unfold unpack;rw[cq,hn];refine wpAny_bind (wpAny_holding ?_);unfold unpackItems;refine wpAny_bind (An cD ?_);rw[if_neg (by decide)];refine wpAny_bind (wpAny_holding (wpAny_pyIter_list cD ?_));refine wpAny_bind (wpAny_holding (zP ne n 0 _ _ Ao (zQ cD) (by omega) λh1 m_ p8 jk=>?_));have ed:(af.toArray.toList.drop 0).take n=af:=by
  rw[List.drop_zero,Yv (by simpa using Jb sz)]
 rw[ed,if_neg (by rw[←sz];simp)];refine wpAny_bind (wpAny_holding (wpAny_pyNext_list_end (I.ok.hd hc) m_ jk (by rw[Wn];omega) λh2 eb=>?_));rw[if_neg (by decide)];refine wpAny_pure (h pins _ σ H xs _ Q (I.kept (t':=s.toks) λb o e=>?_) rv hw);have nb:b≠s.heap.objs.size:=Yh (Yd e);exact eb b o nb ((p8.2 b nb).trans (Yb _ e))
def Cg(K:ae)(t:e9):TG:=λv σ H Q=>∃a x xs,v=.ref a/\ai K H a (x::xs)/\∀p H',H p=none->aj H H'->H' p=some (.lst xs)->t [x,.ref p] σ H' Q
theorem Km(hc:X.calm=true)(h:i8 X [e1,e2] t)(hm:assignEach [e1,.Starred e2 sp] X.env=[(false,assign e1 X.env),(true,assign e2 X.env)]:=by rfl)(mZ:(assignEach [e1,e2] X.env).map (·.2)=[assign e1 X.env,assign e2 X.env]:=by rfl):PG X (.Tuple [e1,.Starred e2 sp] k pos) (Cg X.K t):=by
 rintro pins s σ H v u Q I r ⟨a,x,xs,ex,hq,hw⟩;subst ex;cases r;obtain⟨af,rv,pl,hz⟩:=I.list hq;cases rv with
 |@cons _ u0 _ us r0 rr=>
 have cD:=pl.isList;have ne:a≠s.heap.objs.size:=by
  obtain⟨o,g,_⟩:=cD;exact Yh (Yd g)
 have lz:us.length+1<=sizeLine:=by
  have:=rr.length;simp only[Yy] at hz;omega
 rw[assign_Tuple];refine wpAny_bind (wpAny_standAt ?_);unfold unpack;rw[hm];refine wpAny_bind (wpAny_holding ?_);show wpAny _ _ (unpackItems (.ref a) 2 (some 1)) _ _ _;unfold unpackItems;refine wpAny_bind (An cD ?_);rw[if_neg (by decide)];refine wpAny_bind (wpAny_holding (wpAny_pyIter_list cD ?_));refine wpAny_bind (wpAny_holding (zP ne 1 0 _ _ Ao (zQ cD) (by simp) λh1 m_ p8 jk=>?_));rw[if_neg (by simp)];have W:=Walks.behind (n:=us.length) (Walks.list (prog:=X.prog) (w:=X.w) (A:=X.A.in1) (show X.A.in1.handled=none from I.ok.hd hc) s.heap.objs.size a ne (u0::us).toArray);refine wpAny_bind (wpAny_holding (wpAny_collect_iter (T:="list_iterator") (.inr (.inr (.inl rfl))) W.toS (λi s' st=>?_) ⟨m_,jk⟩ (λb hb=>?_) (by simp) (λs2 acc mv io=>?_) (by omega)))
 ·obtain⟨⟨o,g,c,_⟩,_⟩:=st;exact⟨o,g,c⟩
 ·have e0:h1.objs.size=s.heap.objs.size+1:=by rw[p8.1];exact Array.size_push ..
  have la:a<s.heap.objs.size:=by
   obtain⟨o,g,_⟩:=cD;exact Yd g
  show b<h1.objs.size;rw[e0];rcases Yr.mp hb with rfl|hb;·exact W4 _
  ·rw[Wz.mp hb];exact Wq la
 have ea:acc.toList=us:=by
  refine Wr λi=>?_;by_cases c:i<us.length
  ·have:=io.1;have g:=io.2 i _ (Y0 (by omega));rw[Y8,Y0 (by omega),←g];simp
  ·have:=io.1;rw[Y4 (l:=us) (by omega),Y8,Wn (by omega)]
 rw[ea];obtain⟨h2,g2,d2,t2,o2⟩:=s2;obtain⟨mh,mg,md,mo,_⟩:=mv;cases mg;cases md;cases mo;dsimp only;rw[if_neg (by omega)];have et:us.take (us.length-(2-1-1))=us:=Yv (by omega);have ed:us.drop (us.length-(2-1-1))=[]:=List.drop_eq_nil_of_le (by omega);have I2:Inv X pins σ H ⟨h2,s.gens,s.drawn,t2,s.os⟩:=I.kept (h':=h2) (t':=t2) λb o e=>by
  have nb:b≠s.heap.objs.size:=Yh (Yd e);exact mh b o (by simpa using nb) ((p8.2 b nb).trans (Yb _ e))
 rw[et,ed];refine wpAny_bind (wpAny_newList ?_ (by omega));have I3:=I2.laid (h':=h2.push {cls:=.type "list",data:=.seq us.toArray}) (a:=h2.objs.size) (o:=.lst xs) (t':=t2) (λb o e=>Yb _ e) (Yc _) (show bo X.prog X.w _ _ _ (.lst xs) from⟨by have:=rr.length;omega,us,0,rr,Ye _ rfl⟩);have fr:H h2.objs.size=none:=I2.ah.fresh (Yc _);refine wpAny_pure ?_;have:=h pins _ σ _ [x,.ref h2.objs.size] [u0,.ref h2.objs.size] Q I3 (.cons r0 (.cons rfl .nil)) (hw _ _ fr (a_ fr _) aw);rw[mZ] at this;exact this
end
theorem Kn{X:Cx}{K:ae}{pos:Pos}{es:List Expr}{k:Nat}{t:e9}{n:Nat}(h:X.K=K)(hc:X.calm=true)(hg:i8 X es t)(hn:(assignEach es X.env).length=n:=by rfl)(cq:(assignEach es X.env).findIdx? (·.1)=none:=by rfl):PG X (.Tuple es k pos) (CU K n t):=h▸LG hc hg hn cq
theorem JC{X:Cx}{K:ae}{pos sp:Pos}{e1 e2:Expr}{k:Nat}{t:e9}(h:X.K=K)(hc:X.calm=true)(hg:i8 X [e1,e2] t)(hm:assignEach [e1,.Starred e2 sp] X.env=[(false,assign e1 X.env),(true,assign e2 X.env)]:=by rfl)(mZ:(assignEach [e1,e2] X.env).map (·.2)=[assign e1 X.env,assign e2 X.env]:=by rfl):PG X (.Tuple [e1,.Starred e2 sp] k pos) (Cg K t):=h▸Km hc hg hm mZ
def kY:Value->Bool
 |.none=>true
 |_=>false
abbrev nT(H:Hp)(v:V):Prop:=v=.ao\/∃a ys,v=.ref a/\H a=some (.tup ys)
def Nl:R2:=λx y H Q=>∃(q:Addr) (xs:List V),x=.ao/\y=.ref q/\H q=some (.lst xs)/\(∀v∈xs,nT H v)/\Q (.bl (decide (V.ao∈xs))) H
theorem Ko{H:Hp}{xs:List V}:∀{us:List Value},Vals xs us->(∀v∈xs,nT H v)->us.any kY=decide (V.ao∈xs)/\∀u∈us,u=.none\/∃a ys,u=.ref a/\H a=some (.tup ys):=by
 induction xs with
 |nil=>intro us r _;cases r;exact⟨rfl,λu hu=>nomatch hu⟩
 |cons x r ih=>
  intro us v h;cases v with
  |@cons _ u _ us r1 r2=>
   obtain⟨e1,e2⟩:=ih r2 λv hv=>h v (Yw _ hv);rcases h x Y2 with rfl|⟨a,ys,rfl,ha⟩
   ·obtain rfl:u=Value.none:=r1;refine⟨by rw[List.any_cons,e1];simp[kY],λw hw=>?_⟩;rcases Yr.mp hw with rfl|hw;·exact .inl rfl
    ·exact e2 w hw
   ·obtain rfl:u=Value.ref a:=r1;refine⟨by rw[List.any_cons,e1];simp[kY],λw hw=>?_⟩;rcases Yr.mp hw with rfl|hw;·exact .inr ⟨a,ys,rfl,ha⟩
    ·exact e2 w hw
theorem LH{X:Cx}(hu:X.A.units+1<cLine):bE X (compareOp .In) Nl:=by
 rintro pins s σ H x y v u Q I rx ry ⟨q,xs,rfl,rfl,h2,hn,k⟩;cases ry;obtain rfl:v=Value.none:=rx;obtain⟨af,r,pl,hz⟩:=I.list (ai.of h2);obtain⟨e1,e2⟩:=Ko r hn;refine SeqAt.in_listAt kY pl.isList (λw hw=>?_) ⟨.bl _,H,I,rfl,?_⟩
 ·rcases e2 w (by simpa using hw) with rfl|⟨a,ys,rfl,ha⟩;·exact SeqAt.EqAt.same _
  ·obtain⟨is,_,p1,_⟩:=I.tuple (aq.of ha);exact SeqAt.EqAt.tuple_none p1 hu
 ·rw[show af.toArray.any kY=af.any kY by simp,e1];exact k
def Mw:R2:=λx y H Q=>∃(l:Addr) (v:V),x=.int 3/\y=.ref l/\H l=some (.lst [v])/\Nw H (.lst [v,v,v]) Q
theorem Kp{X:Cx}:bE X (binaryOp .Mult) Mw:=by
 rintro pins s σ H x y v u Q I rx ry ⟨l,w,rfl,rfl,hH,q⟩;cases ry;obtain⟨t,rfl⟩:=rx;obtain⟨z,af,n,r,hl,e⟩:=I.mm hH;obtain⟨u1,rfl,r1⟩:=r.one;have s0:seqRepeat? (.type "int")=pure none:=by kernel_rfl
 refine lm_binaryOp_repeat_right (by decide) (λs'=>typeIs_int s' 3 t) ⟨_,e,rfl⟩ PySem.F.fills_int_mul noFill_list_mul PySem.F.slot_int_mul s0 repeat_list PySem.F.slot_int_index.lookup
  (call_meets PySem.F.slot_int_mul (typeIs_int s 3 t) PySem.F.entry_int_mul (PySem.F.args_int_mul_2 _ _) (int___mul___int_list 3 t l [u1].toArray n)
   ⟨e,rfl,⟨_,e,rfl⟩,call_meets PySem.F.slot_list_mul ⟨_,e,rfl⟩ PySem.F.entry_list_mul (PySem.F.args_list_mul_2 _ _) (AutoListH.list___mul___list_int_3 l [u1].toArray n 3 t (by decide) (by simp) (by simp;decide)) ⟨e,?_⟩⟩)
 show EP X pins σ Q _ {s with heap:=s.heap.push {cls:=.type "list",data:=.seq [u1,u1,u1].toArray}};exact⟨.ref _,_,I.laid (a:=s.heap.objs.size) (o:=.lst [w,w,w]) (t':=s.toks) (λb o e=>Yb _ e) (Yc _) (show bo X.prog X.w _ _ _ (.lst [w,w,w]) from⟨by rw[sizeLine_eq];show 3<=_;omega,[u1,u1,u1],0,.cons r1 (.cons r1 (.cons r1 .nil)),Ye _ rfl⟩),rfl,q.at _ (I.ah.fresh (Yc _))⟩
end L2
namespace wk
open PySem L2
variable {P:Program}{w:World}{K:PySem.W.Frag}{mg:Str->Option Value}{base:Heap}{f C CL CJ:Addr}{fd:FuncData}
def top(i:Nat):Stmt:=PySem.Challenge.pw_kinhearth_k47_lands_as_texts.main.body.getD i (.Pass ⟨0,0,0,0⟩)
abbrev jR:Stmt:=top 8
abbrev j4:Stmt:=top 9
abbrev jV:Stmt:=top 10
abbrev kn:Stmt:=top 12
abbrev jB:Stmt:=top 14
abbrev iA:Stmt:=top 24
abbrev iz:Stmt:=top 25
abbrev jN:Stmt:=top 11
abbrev jx:Stmt:=top 13
abbrev jS:Stmt:=top 26
abbrev jC:Stmt:=top 17
abbrev jy:Stmt:=top 18
abbrev js:Stmt:=top 19
abbrev jD:Stmt:=top 29
abbrev jH:Stmt:=top 30
abbrev jO:Stmt:=top 31
abbrev lC:Stmt:=top 33
abbrev lp:Stmt:=top 34
abbrev lE:Stmt:=top 35
abbrev jT:Stmt:=top 36
abbrev jI:Stmt:=top 37
abbrev iD:Stmt:=top 38
abbrev jJ:Stmt:=top 39
abbrev jz:Stmt:=top 40
abbrev ju:Stmt:=top 41
abbrev jE:Stmt:=top 42
abbrev gw:Stmt:=top 43
abbrev iC:Stmt:=inClass (top 23) 0
abbrev fj:Stmt:=inClass (top 2) 0
abbrev fW:Stmt:=inClass (top 4) 0
abbrev fm:Stmt:=inClass (top 6) 0
abbrev jv:Stmt:=inClass (top 5) 0
abbrev Ci:Stmt:=lC
abbrev BO:Stmt:=lp
abbrev Cj:Stmt:=lE
section
variable {K:ae}{mg:aF}
abbrev dR:List Str:=["self","word","why"]
theorem yo:aY dR dR (ar fj):=.bM
theorem FP(F:eI K "__init__" "KinError.__init__" fj f fd)(bl:Bl mg):aG P w K mg base aR 1 f fd dR (iS K):=by
 refine F.ok yo (λvs H Q E h=>?_) (λaD A outer s H vs Q E hr h=>?_)
 ·obtain⟨a,C,wd,y,rfl,_⟩:=h;rfl
 obtain⟨a,C,wd,y,rfl,ha,xa,na,lw,ly,q⟩:=h;refine⟨_,(au (cM (Ae rfl bl.yB (aa (pv 0) (aa (zW (Iz (K:=K) rfl (zX (pv 2) (λ_=>rfl))) (ub (dX (gq hr (pv 1)) (dX aK (dX (gq hr (pv 2)) uM)))) (pv 1)) ag)))) (az (ua (pv 0) (pv 1)))),?_⟩;have fin:∀t:Str,oG K [.ref a,.str t] H λ_ H1=>u6 K (di 0) (di 1) "word" {nx:=λ_ H'=>Q .ao H',rt:=Q} [some (.ref a),some (.str wd),some (.str y)] H1:=λt=>
  ⟨a,C,.str t,rfl,xa,ha,_,rfl,_,rfl,a,C,rfl,xa,na,.inl ⟨ha,λd hd nd=>q d hd nd⟩⟩
 have lim:(1000200:Nat)<=sizeLine:=by rw[sizeLine_eq];omega
 refine⟨_,rfl,_,rfl,_,⟨by omega,rfl⟩,?_⟩;refine ba (λc=>?_) (λc=>?_)
 ·refine⟨_,rfl,.inl ⟨wd,rfl,by omega,wd,rfl,?_,?_⟩⟩
  ·rw[strLen_append];show 0+wd.length<=sizeLine;omega
  refine⟨_,rfl,?_,?_⟩
  ·rw[strLen_append,strLen_append];show 0+wd.length+2<=sizeLine;omega
  refine⟨_,rfl,.inl ⟨y,rfl,by omega,y,rfl,?_,?_,fin _⟩⟩
  ·rw[strLen_append,strLen_append,strLen_append];show 0+wd.length+2+y.length<=sizeLine;omega
  ·rw[strLen_append,strLen_append,strLen_append];show 0+wd.length+2+y.length<=sizeLine;omega
 ·exact⟨_,rfl,fin _⟩
end
section
variable {K:ae}{mg:aF}{fk ck c:Addr}{fe:FuncData}
theorem EU:aY eg eg (ar fW):=.bM
theorem GR(F:eI K "__init__" "BadLand.__init__" fW f fd)(eo:iR K ck "__init__" fk)(eR:aG P w K mg base aR 1 fk fe dR (iS K))(ey:Binds K fe dR [])(cZ:mg "KinError"=some (.ref ck))(xa:aW K c)(na:b_ K c "word"):
  aG P w K mg base aR 2 f fd eg (kA "no land" c):=by
 refine F.ok EU (λvs H Q E h=>?_) (λaD A outer s H vs Q E hr h=>?_)
 ·obtain⟨a,y,rfl,_⟩:=h;rfl
 obtain⟨a,y,rfl,ha,ly,q⟩:=h;refine⟨_,(az (cM (tO eo eR (hr.mono (by omega)) rfl cZ ey .nil me (aa (pv 0) (aa aK (aa (pv 1) ag)))))),?_⟩;exact⟨_,rfl,_,rfl,a,c,_,y,rfl,ha,xa,na,by decide,ly,λd hd nd=>q d hd nd⟩
end
section
variable {K:ae}{mg:aF}{fk ck c:Addr}{fe:FuncData}
theorem yp:aY eg eg (ar fm):=.bM
theorem GS(F:eI K "__init__" "BadText.__init__" fm f fd)(eo:iR K ck "__init__" fk)(eR:aG P w K mg base aR 1 fk fe dR (iS K))(ey:Binds K fe dR [])(cZ:mg "KinError"=some (.ref ck))(xa:aW K c)(na:b_ K c "word"):
  aG P w K mg base aR 2 f fd eg (kA "no text" c):=by
 refine F.ok yp (λvs H Q E h=>?_) (λaD A outer s H vs Q E hr h=>?_)
 ·obtain⟨a,y,rfl,_⟩:=h;rfl
 obtain⟨a,y,rfl,ha,ly,q⟩:=h;refine⟨_,(az (cM (tO eo eR (hr.mono (by omega)) rfl cZ ey .nil me (aa (pv 0) (aa aK (aa (pv 1) ag)))))),?_⟩;exact⟨_,rfl,_,rfl,a,c,_,y,rfl,ha,xa,na,by decide,ly,λd hd nd=>q d hd nd⟩
end
section
variable {K:ae}{mg:aF}
abbrev kZ:List Str:=["_law_script","_law_k"]
theorem LI:aY kZ kZ (ar Ci):=⟨rfl,rfl,rfl,by decide+kernel,rfl,by decide+kernel,by decide+kernel⟩
theorem Kq(F:aX K "_law_cell" "_law_cell" Ci f fd)(ml:mg "len"=none):aG P w K mg base aR 1 f fd kZ (uJ K):=by
 refine F.ok LI (λvs H Q E h=>?_) (λaD A outer s H vs Q E hr h=>?_)
 ·obtain⟨a,ns,k,rfl,_⟩:=h;rfl
 obtain⟨a,ns,k,rfl,hS,h0,q⟩:=h;refine⟨_,au (bp (bF l_ (pv 1) (cF yy rfl ml kg (aa (pv 0) ag))) (az (aN (B6 t8 (pv 0) (pv 1) (λ_ _=>rfl)))) bu)
  (az (aN aE)),?_⟩
 refine⟨_,rfl,_,rfl,a,_,rfl,.inl hS,_,_,rfl,rfl,_,rfl,?_⟩;refine ba (λc=>?_) (λc=>?_)
 ·have c':k<(((ns.map V.int).length:Nat):Int):=of_decide_eq_true c;rw[(Ya _)] at c';exact⟨_,rfl,_,rfl,a,_,_,_,rfl,rfl,hS,ke h0 c',q _⟩
 ·exact q _
abbrev k_:List Str:=["_law_cell_here","_law_parts"]
theorem gi:aY ["_law_cell_here","_law_parts","_law_one","_law_two","_law_six","_law_found","_law_part"] k_ (ar BO):=⟨rfl,rfl,rfl,by decide+kernel,rfl,by decide+kernel,by decide+kernel⟩
theorem JD(F:aX K "_law_draws" "_law_draws" BO f fd)(ma:mg "abs"=none):aG P w K mg base aR 1 f fd k_ (oj K):=by
 refine F.ok gi (λvs H Q E h=>?_) (λaD A outer s H vs Q E hr h=>?_)
 ·obtain⟨c,a,ps,rfl,_⟩:=h;rfl
 obtain⟨c,a,ps,rfl,hS,Q9,hlen,q⟩:=h;refine⟨_,au (bp (bF l_ (cF zY rfl ma Bz (aa (pv 0) ag)) (aJ Bk aE aE))
   (au (eD (i:=2) gi.nd rfl (Or.inl rfl) (aJ fB (aJ dE (aJ j8 (pv 0) aE) aE) aE))
   (au (eD (i:=3) gi.nd rfl (Or.inl rfl) (aJ fB (aJ dE (aJ dE (aJ j8 (pv 2) (pv 2)) (aJ j8 aE (pv 2))) (pv 0)) aE))
   (au (eD (i:=4) gi.nd rfl (Or.inl rfl) (aJ fB (aJ dE (aJ j8 (pv 3) aE) (pv 2)) aE))
   (az (eD (i:=0) gi.nd rfl (Or.inl rfl) (aJ dE (pv 3) (aJ j8 aE (aJ dE (pv 4) (aJ j8 aE (pv 2))))))))))
   (az (eD (i:=0) gi.nd rfl (Or.inl rfl) (aJ uF (cF zY rfl ma Bz (aa (pv 0) ag)) (aJ Bk aE aE)))))
  (au (eD (i:=5) gi.nd rfl (Or.inl rfl) (j_ ag))
  (au (gp PassesOwn.never rfl (AE (pv 1)) (n_ (i:=6) gi.nd rfl (Or.inl rfl))
   (au (cM (gv plainAttrs_list PySem.F.slot_list_append PySem.F.type_list_append nM (pv 5) (aa (aJ fB (pv 0) (pv 6)) ag)))
   (az (eD (i:=0) gi.nd rfl (Or.inl rfl) (aJ AG (pv 0) (pv 6))))))
  (az (aN (pv 5))))),?_⟩
 refine oh (λσ H'=>H'=H/\∃c' o2 o3 o4,σ=[some (.int c'),some (.ref a),o2,o3,o4,none,none]) (λnx k=>?_) ?_
 ·refine⟨_,rfl,c,rfl,_,_,rfl,rfl,⟨by decide,by decide,by decide⟩,_,_,rfl,rfl,_,rfl,?_⟩;refine ba (λ_=>?_) (λ_=>?_)
  ·refine⟨_,rfl,_,_,rfl,rfl,.inr ⟨by decide,by decide⟩,_,_,rfl,rfl,_,_,rfl,rfl,(by show(0:Int)<2147483647;decide),?_⟩;refine⟨_,rfl,_,rfl,_,_,rfl,rfl,.inl (Lb _ (by decide) (by decide)),_,rfl,_,_,rfl,rfl,.inl ⟨by decide,by decide⟩,_,_,rfl,rfl,_,rfl,_,_,rfl,rfl,_,_,rfl,rfl,(by show(0:Int)<2147483399;decide),?_⟩;refine⟨_,rfl,_,_,rfl,rfl,.inr ⟨by decide,by decide⟩,_,rfl,_,_,rfl,rfl,_,_,rfl,rfl,(by show(0:Int)<1000000007;decide),?_⟩;refine⟨_,rfl,_,rfl,_,rfl,_,_,rfl,rfl,.inl ⟨by decide,by decide⟩,_,_,rfl,rfl,_,_,rfl,rfl,.inl ⟨by decide,by decide⟩,_,_,rfl,rfl,k _ _ ⟨rfl,_,_,_,_,rfl⟩⟩
  ·exact⟨_,rfl,c,rfl,_,_,rfl,rfl,⟨by decide,by decide,by decide⟩,_,_,rfl,rfl,k _ _ ⟨rfl,_,_,_,_,rfl⟩⟩
 ·rintro σ H0 ⟨rfl,c',o2,o3,o4,rfl⟩;refine⟨(by show 0<=sizeLine;decide),λl hl=>?_⟩;have s1:aj H0 (upd H0 l (.lst [])):=a_ hl _;refine⟨_,rfl,a,rfl,⟨_,s1.seq hS⟩,lK (K:=K) (a:=a) (xs:=ps.map V.int) (λi σ H2=>∃c o2 o3 o4 o6 ds,σ=[some (.int c),some (.ref a),o2,o3,o4,some (.ref l),o6]/\aj H0 H2/\H2 l=some (.lst (ds.map V.int))/\Paired Bd ds (ps.take i))
   ⟨c',o2,o3,o4,none,[],rfl,s1,aw,by rw[List.take_zero];exact .nil⟩ (λi σ H2 _ ⟨_,_,_,_,_,_,_,s2,_⟩=>s2.seq hS) ?_ ?_⟩
  ·rintro i y σ H2 hi ⟨c,o2,o3,o4,o6,ds,rfl,s2,h2,b2⟩;obtain⟨p,rfl,hp⟩:=iN hi;have fR:i<ps.length:=(Yk.mp hp).1;obtain⟨p0,p1⟩:=Q9 p (Yq hp);have dl:=b2.length;rw[Yz] at dl;refine⟨_,rfl,.inl ⟨rfl,_,ai.of h2⟩,_,rfl,_,rfl,_,_,rfl,rfl,p0,l,_,_,rfl,rfl,h2,(by rw[Ya];exact eS (by omega)),?_⟩;refine⟨_,rfl,_,rfl,_,_,rfl,rfl,⟨p0,p1⟩,?_⟩;refine⟨_,o2,o3,o4,_,ds++[c % p],rfl,λb o e=>?_,?_,?_⟩
   ·rw[ak (bg e hl)];exact s2 b o e
   ·rw[aw,z_]
   ·rw[Wd,hp];exact b2.snoc ⟨We _ (Jg p0),Wa _ p0⟩
  ·rintro σ H2 ⟨c,o2,o3,o4,o6,ds,rfl,s2,h2,b2⟩;rw[Ya,List.take_length] at b2;exact⟨_,rfl,q l ds H2 hl s2 h2 b2⟩
abbrev nc:List Str:=["_law_code","_law_size"]
theorem lV:aY ["_law_code","_law_size","_law_free","_law_found","_law_k"] nc (ar Cj):=⟨rfl,rfl,rfl,by decide+kernel,rfl,by decide+kernel,by decide+kernel⟩
theorem Kr(F:aX K "_law_turn" "_law_turn" Cj f fd)(mL:mg "list"=none)(mR:mg "range"=none)(mT:mg "tuple"=none):aG P w K mg base aR 1 f fd nc uK:=by
 refine F.ok lV (λvs H Q E h=>?_) (λaD A outer s H vs Q E hr h=>?_)
 ·obtain⟨c,n,rfl,_⟩:=h;rfl
 obtain⟨c,n,rfl,hn,q⟩:=h;refine⟨_,au (eD (i:=2) lV.nd rfl (Or.inl rfl) (cB (qJ rfl) rfl mL jZ (aa (cB nE rfl mR nY (aa (pv 1) ag)) ag)))
  (au (eD (i:=3) lV.nd rfl (Or.inl rfl) (j_ ag))
  (au (gp PassesOwn.never rfl (jQ rfl mR (aa (pv 1) ag)) (n_ (i:=4) lV.nd rfl (Or.inl rfl))
   (au (cM (gv plainAttrs_list PySem.F.slot_list_append PySem.F.type_list_append nM (pv 3) (aa (gv plainAttrs_list PySem.F.slot_list_pop PySem.F.type_list_pop I0 (pv 2) (aa (aJ fB (pv 0) (aJ uF (pv 1) (pv 4))) ag)) ag)))
   (az (eD (i:=0) lV.nd rfl (Or.inl rfl) (aJ AG (pv 0) (aJ uF (pv 1) (pv 4)))))))
  (az (aN (cB jw rfl mT ft (aa (pv 3) ag)))))),?_⟩
 refine⟨_,rfl,_,rfl,λr jl=>?_⟩;refine⟨r,n,rfl,aw,by omega,λu hu=>?_⟩;refine⟨(by show 0<=sizeLine;decide),λl hl=>?_⟩;have g1:aj H (upd H r (.e6 0 (n:Int))):=a_ jl _;have g2:=g1.trans (a_ hu (.lst ((bD n).map V.int)));have g3:=g2.trans (a_ hl (.lst []));have wm:u≠l:=bg aw hl;refine⟨_,rfl,(n:Int),rfl,by omega,by omega,tq (lo:=0) (n:=n) (λi σ H2=>∃c o4 ds fs,σ=[some (.int c),some (.int (n:Int)),some (.ref u),some (.ref l),o4]/\aj H H2/\H2 u=some (.lst (fs.map V.int))/\H2 l=some (.lst (ds.map V.int))/\(ds++fs).Perm (bD n)/\ds.length=i)
  ⟨c,none,[],bD n,rfl,g3,by rw[ak wm];exact aw,aw,by rw[List.nil_append],rfl⟩ ?_ ?_⟩
 ·rintro i σ H2 hi ⟨c,o4,ds,fs,rfl,s2,wo,cD,pm,dl⟩;have pl:=pm.length_eq;rw[Wg,dB,dl] at pl;have pB:(0:Int)<(n:Int)-(0+(i:Int)):=by omega
  have m0:=We c (Jg pB);have m1:=Wa c pB;have hk:(c % ((n:Int)-(0+(i:Int)))).toNat<fs.length:=by omega
  refine⟨_,rfl,.inl ⟨rfl,_,ai.of cD⟩,_,rfl,.inl ⟨rfl,_,ai.of wo⟩,_,rfl,_,rfl,_,rfl,_,_,rfl,rfl,_,_,rfl,rfl,pB,u,_,_,_,.int fs[(c % ((n:Int)-(0+(i:Int)))).toNat],rfl,rfl,wo,by omega,by omega,((t6 (uI m0 (by rw[Ya];omega))).1),by rw[Yj,Ys hk];rfl,?_⟩;refine⟨l,_,_,rfl,rfl,by rw[ak wm.symm];exact cD,(by rw[Ya];exact eS (by omega)),?_⟩;refine⟨_,rfl,_,rfl,_,rfl,_,_,rfl,rfl,_,_,rfl,rfl,⟨pB,by omega⟩,?_⟩;refine⟨_,_,ds++[fs[(c % ((n:Int)-(0+(i:Int)))).toNat]],fs.eraseIdx (c % ((n:Int)-(0+(i:Int)))).toNat,rfl,λb o e=>?_,?_,?_,?_,?_⟩
  ·have nl:b≠l:=bg (g2 b o e) hl;have nu:b≠u:=bg (g1 b o e) hu;rw[ak nl,ak nu];exact s2 b o e
  ·rw[ak wm,aw,zJ]
  ·rw[aw,z_]
  ·refine List.Perm.trans ?_ pm;rw[List.append_assoc];refine List.Perm.append_left ds ?_;exact(yX fs _ hk).symm
  ·rw[Wg,List.length_singleton,dl]
 ·rintro σ H2 ⟨c,o4,ds,fs,rfl,s2,wo,cD,pm,dl⟩;have pl:=pm.length_eq;rw[Wg,dB,dl] at pl;have e:fs=[]:=W5 (by omega);rw[e,Yx] at pm;refine⟨_,rfl,l,_,rfl,.inl ⟨ai.of cD,λt ht=>?_⟩⟩;exact q t ds _ (s2.free ht) (s2.trans (a_ ht _)) aw pm
end
theorem Ks{ds:List Int}{a b c d:Int}(h:Paired Bd ds [a,b,c,d]):∃v w x y,ds=[v,w,x,y]/\Bd v a/\Bd w b/\Bd x c/\Bd y d:=by
 cases h with|cons h1 h=>cases h with|cons h2 h=>cases h with|cons h3 h=>cases h with|cons h4 h=>
  cases h
  grind
theorem gz{q:St->Hp->Prop}{i:Nat}{x:V}{σ:St}{H:Hp}(h:q (σ.set i (some x)) H):gs i x σ H q:=h
theorem BP{K:ae}{H:Hp}{p:Addr}{xs:List V}{i:Nat}{x:V}{Q:VK}(hp:ai K H p xs\/aq K H p xs)(h:xs[i]?=some x)(q:Q x H):vU K (.ref p) (.int (0+(i:Int))) H Q:=by
 rcases hp with hp|hp;·exact .inl ⟨p,_,_,_,rfl,rfl,hp,Ah h,q⟩
 ·exact .inr (.inl ⟨p,_,_,_,rfl,rfl,hp,Ah h,q⟩)
theorem nZ(v:V):decide (v=v)=true:=decide_eq_true rfl
theorem all_true(n:Nat):(List.replicate n true).all id=true:=by
 induction n with
 |zero=>rfl
 |succ n ih=>rw[List.replicate_succ,List.all_cons,ih];rfl
inductive Ap(m:Nat)(vs:List V)(H:Hp)(Q:VK):Prop
 |mk (x y:V) (d:Dt) (k:Nat) (aP:vs=[x,y]) (aQ:m=k+1) (bc:At H k x d) (bN:At H k y d) (cw:∀H',aj H H'->Q (.bl true) H'):Ap m vs H Q
def hG(m:Nat):Sp:=λvs H Q _=>Ap m vs H Q
section
variable {K:ae}{mg:aF}
abbrev fS:List Str:=["_law_found","_law_due"]
theorem FQ:aY fS fS (ar iD):=.bM
theorem JE{n:Nat}(F:aX K "_law_same" "_law_same" iD f fd)(gU:HasFn P w K mg base n "_law_same" fS (hG n))(bl:Bl mg):aG P w K mg base aR (n+1) f fd fS (hG (n+1)):=by
 refine F.o FQ λs H hr h=>?_;obtain⟨x,y,d,k,rfl,ek,hx,hy,q⟩:=h;obtain rfl:k=n:=by omega
 have hu:=hr.j9;refine⟨_,(au (bp (bF Bn (pv 1) lM) (az (aN (kX Bn (pv 0) lM))) bu) (au (bp (dY (eO K bl (pv 1) (eF rfl bl.oH oi))) (az (aN (lO (eO K bl (pv 0) (eF rfl bl.oH oi)) (oz (kX eX (pv 0) (pv 1)))))) bu) (au (bp (dY (eO K bl (pv 1) (eF rfl bl.oW oB))) (az (aN (lO (eO K bl (pv 0) (eF rfl bl.oW oB)) (lO (KR (eO K bl (pv 0) (eF rfl bl.oH oi))) (oz (kX eX (pv 0) (pv 1))))))) bu) (au (bp (dY (eO K bl (pv 1) (eF rfl bl.oX oC))) (az (aN (lO (eO K bl (pv 0) (eF rfl bl.oX oC)) (oz (kX eX (pv 0) (pv 1)))))) bu) (au (bp (PW.pt (pw_or (bF dZ (eO K bl (pv 1) (eF rfl bl.kh jZ)) (eO K bl (pv 0) (eF rfl bl.kh jZ))) (pw_or1 (bF dZ (eO K bl (pv 1) (eF rfl bl.fA ft)) (eO K bl (pv 0) (eF rfl bl.fA ft)))))) (az (aN eE)) bu) (au (bp (bF dZ (bY K bl (pv 0)) (bY K bl (pv 1))) (az (aN eE)) bu) (az (aN (cF (pA (K:=K) rfl rfl) rfl bl.oV oA (aa (dc (x:="_law_k") (fr:=[("_law_found",0),("_law_due",1)]) (cl:=[("_law_found",s.heap.objs.size+1),("_law_due",s.heap.objs.size+1+1)]) rfl (.cY ⟨rfl,⟨rfl,trivial⟩⟩ ⟨⟨rfl,.inl rfl,.inl rfl,rfl⟩,⟨⟨rfl,.inl rfl,.inl rfl,rfl⟩,trivial⟩⟩) (jQ rfl bl.gc (aa (bY K bl (pv 1)) ag)) (λ_ _ _ _=>cT) (λ_ _ _ _=>(mf gU hr (by omega) rfl (aa (bA (AX (K:=K) rfl) (pv 1) (pv 0)) (aa (bA (AX (K:=K) rfl) (pv 2) (pv 0)) ag))))) ag)))))))))),?_⟩;have sq:(∃(p r:Addr) (xs ys:List V) (ds:List Dt) (t:Value) (b1 b2:Bool) (m:Nat),x=.ref p/\y=.ref r/\dj K H (.ref p) t/\dj K H (.ref r) t/\kitOne K t (.type "bool")=some false/\kitOne K t (.type "int")=some false/\kitOne K t (.type "str")=some false/\
   kitOne K t (.type "list")=some b1/\kitOne K t (.type "tuple")=some b2/\(ai K H p xs\/aq K H p xs)/\(ai K H r ys\/aq K H r ys)/\ds.length<=1000/\Paired (At H m) xs ds/\Paired (At H m) ys ds/\k=m+1)\/
   (x=.ao/\y=.ao)\/(∃b,x=.bl b/\y=.bl b)\/(∃i,x=.int i/\y=.int i)\/∃z,x=.str z/\y=.str z:=by
  cases d with
  |ao=>unfold At at hx hy;exact .inr (.inl ⟨hx,hy⟩)
  |bl b=>unfold At at hx hy;exact .inr (.inr (.inl ⟨b,hx,hy⟩))
  |int i=>unfold At at hx hy;exact .inr (.inr (.inr (.inl ⟨i,hx,hy⟩)))
  |str z=>unfold At at hx hy;exact .inr (.inr (.inr (.inr ⟨z,hx,hy⟩)))
  |lst ds=>
   cases k with
   |zero=>unfold At at hx;exact hx.elim
   |succ m=>
    unfold At at hx hy;obtain⟨a,xs,e0,e1,lz,p1⟩:=hx;obtain⟨b,ys,wq,e2,_,p2⟩:=hy;exact .inl ⟨a,b,xs,ys,ds,.type "list",true,false,m,e0,wq,.lst e1,.lst e2,Lk,Ll,Lm,Ln,Lo,.inl (ai.of e1),.inl (ai.of e2),lz,p1,p2,rfl⟩
  |tup ds=>
   cases k with
   |zero=>unfold At at hx;exact hx.elim
   |succ m=>
    unfold At at hx hy;obtain⟨a,xs,e0,e1,lz,p1⟩:=hx;obtain⟨b,ys,wq,e2,_,p2⟩:=hy;exact .inl ⟨a,b,xs,ys,ds,.type "tuple",false,true,m,e0,wq,.tup e1,.tup e2,Lp,Lq,Lr,Ls,Lu,.inr (aq.of e1),.inr (aq.of e2),lz,p1,p2,rfl⟩
 clear hx hy;rcases sq with⟨p,r,xs,ys,ds,t,b1,b2,m,rfl,rfl,T1,T2,kb,ki,Q_,kl,kt,hp,hq,hz,p1,p2,ek⟩|⟨rfl,rfl⟩|⟨b,rfl,rfl⟩|⟨i,rfl,rfl⟩|⟨z,rfl,rfl⟩
 ·have l1:=y4 p1;have l2:=y4 p2;refine⟨_,rfl,rfl,_,rfl,?_⟩;refine ba (λc=>absurd (of_decide_eq_true c) (λz=>nomatch z)) (λ_=>bh ?_);refine⟨_,rfl,_,_,_,false,rfl,T2,kb,_,rfl,fF (bh ?_)⟩;refine⟨_,rfl,_,_,_,false,rfl,T2,ki,_,rfl,fF (bh ?_)⟩;refine⟨_,rfl,_,_,_,false,rfl,T2,Q_,_,rfl,fF (bh ?_)⟩;refine⟨_,rfl,_,_,_,b1,rfl,T2,kl,_,rfl,_,_,_,b1,rfl,T1,kl,rfl,_,rfl,ku rfl ?_⟩;refine⟨_,rfl,_,_,_,b2,rfl,T2,kt,_,rfl,_,_,_,b2,rfl,T1,kt,rfl,_,rfl,ku rfl (bh ?_)⟩;refine⟨_,rfl,p,_,rfl,hp,_,rfl,r,_,rfl,hq,rfl,_,rfl,ku (by rw[l1,l2]) (bh ?_)⟩;refine⟨_,rfl,r,_,rfl,hq,_,rfl,by omega,by omega,λD hD=>rR (lo:=0) (n:=((ys.length:Nat):Int).toNat)
   (λi zs H1=>aj H H1/\H1 D=some (.lst zs)/\zs=(List.replicate i true).map V.bl) ⟨a_ hD _,aw,rfl⟩ ?_ ?_⟩
  ·rintro i zs H1 hi ⟨g,h1,rfl⟩;rw[Y9] at hi;have sq:∀{a:Addr} {us:List V},(ai K H a us\/aq K H a us)->(ai K H1 a us\/aq K H1 a us):=λ{a us} z=>by
    rcases z with z|z;·exact .inl (g.seq z)
    ·exact .inr (g.cm z)
   have gx:xs[i]?=some xs[i]:=Ys (by omega);have gy:ys[i]?=some ys[i]:=Ys (by omega);obtain⟨d1,e1,a1⟩:=y0 p1 gx;obtain⟨d2,e2,a2⟩:=y0 p2 gy;rw[e1] at e2;cases e2;refine d7 (bP ?_);refine⟨_,rfl,_,rfl,BP (sq hp) gx ?_⟩;refine⟨_,rfl,_,rfl,BP (sq hq) gy ?_⟩;refine⟨_,_,d1,m,rfl,ek,a1.same g,a2.same g,λH2 g2=>?_⟩;refine⟨g2 _ _ h1,by rw[Ya,Wh];exact eS (by omega),λb o e=>?_,aw,?_⟩
   ·rw[ak (bg e hD)];exact g2 b o (g b o e)
   ·rw[List.replicate_succ',Wy];rfl
  ·rintro zs H1 ⟨g,h1,e⟩;refine⟨D,_,rfl,ai.of (by rw[h1,e]),?_⟩;rw[all_true];exact q H1 g
 ·refine⟨_,rfl,rfl,_,rfl,?_⟩;refine ba (λc=>?_) (λc=>absurd (nZ _) c);exact⟨_,rfl,rfl,q H (aj.refl H)⟩
 ·refine⟨_,rfl,rfl,_,rfl,?_⟩;refine ba (λc=>absurd (of_decide_eq_true c) (λz=>nomatch z)) (λ_=>bh ?_);refine⟨_,rfl,_,_,_,true,rfl,.bl b,BH,_,rfl,bP ?_⟩;refine⟨_,rfl,_,_,_,true,rfl,.bl b,BH,_,rfl,bP ?_⟩;refine⟨_,rfl,_,rfl,rfl,?_⟩;rw[nZ];exact q H (aj.refl H)
 ·refine⟨_,rfl,rfl,_,rfl,?_⟩;refine ba (λc=>absurd (of_decide_eq_true c) (λz=>nomatch z)) (λ_=>bh ?_);refine⟨_,rfl,_,_,_,false,rfl,.int i,uN,_,rfl,fF (bh ?_)⟩;refine⟨_,rfl,_,_,_,true,rfl,.int i,BG,_,rfl,bP ?_⟩;refine⟨_,rfl,_,_,_,true,rfl,.int i,BG,_,rfl,bP ?_⟩;refine⟨_,rfl,_,_,_,false,rfl,.int i,uN,_,rfl,_,rfl,bP ?_⟩;refine⟨_,rfl,_,rfl,rfl,?_⟩;rw[nZ];exact q H (aj.refl H)
 ·refine⟨_,rfl,rfl,_,rfl,?_⟩;refine ba (λc=>absurd (of_decide_eq_true c) (λz=>nomatch z)) (λ_=>bh ?_);refine⟨_,rfl,_,_,_,false,rfl,.str z,Li,_,rfl,fF (bh ?_)⟩;refine⟨_,rfl,_,_,_,false,rfl,.str z,Lj,_,rfl,fF (bh ?_)⟩;refine⟨_,rfl,_,_,_,true,rfl,.str z,BI,_,rfl,bP ?_⟩;refine⟨_,rfl,_,_,_,true,rfl,.str z,BI,_,rfl,bP ?_⟩;refine⟨_,rfl,_,rfl,rfl,?_⟩;rw[nZ];exact q H (aj.refl H)
theorem same_none:aG P w K mg base aR 0 f fd fS (hG 0):=by
 have no:∀vs H Q E,¬hG 0 vs H Q E:=λvs H Q E h=>by
  obtain⟨_,_,_,_,_,z,_⟩:=h;omega
 exact⟨λvs H Q E h=>absurd h (no vs H Q E),λA outer s H args us vs Q E _ _ _ _ h=>absurd h (no vs H Q E)⟩
theorem A7(F:aX K "_law_same" "_law_same" iD f fd)(bS:Binds K fd fS [])(kS:keepIn K (.ref f)=true)(m:mg "_law_same"=some (.ref f))(bl:Bl mg):
  ∀n:Nat,aG P w K mg base aR n f fd fS (hG n)
 |0=>same_none
 |n+1=>JE F ⟨f,fd,A7 F bS kS m bl n,bS,kS,m⟩ bl
end
inductive BQ(K:ae)(vs:List V)(H:Hp)(Q:VK):Prop
 |mk (p:Addr) (ns:List Int) (aP:vs=[.ref p]) (aQ:Row K H p ns) (bc:ns.length<64) (bN:∀H',aj H H'->Q (.bl (full ns)) H'):BQ K vs H Q
def mx(K:ae):Sp:=λvs H Q _=>BQ K vs H Q
def aH(ys xs:List Int):List Int:=xs.map λx=>ys.getD x.toNat 0
theorem lL{ys:List Int}(h:full ys=true){x:Int}(hx:x∈ys):0<=x/\x<ys.length:=by
 have hm:=(nO h).subset hx;unfold bD at hm;obtain⟨i,hi,rfl⟩:=Wk.mp hm;have:=W3.mp hi;omega
section
variable {K:ae}{mg:aF}{c:Addr}
abbrev dv:List Str:=["row"]
theorem GU:aY dv dv (ar jR):=.bM
theorem GV(F:aX K "is_turn" "is_turn" jR f fd)(bl:Bl mg):aG P w K mg base aR 1 f fd dv (mx K):=by
 refine F.o GU @λaD A outer vs Q E s H hr h=>?_;obtain⟨p,ns,rfl,hR,fO,q⟩:=h;have hu:=hr.j9;refine⟨_,(au (bp (dY (cF (Nb (K:=K) rfl rfl) rfl bl.Mc Lc (aa (dc (x:="number") (fr:=[]) (cl:=[]) rfl (.cY trivial trivial) (K_ (pv 0)) (λ_ _ _ _=>cT) (λ_ _ _ _=>(eO K bl (pv 0) (eF rfl bl.oH oi)))) ag))) (az (aN eE)) bu) (az (aN (kX (La hu) (cF (sortedK (K:=K) rfl) rfl bl.Ag zK (aa (pv 0) ag)) (cB (qJ rfl) rfl bl.kh jZ (aa (cB nE rfl bl.gc nY (aa (bY K bl (pv 0)) ag)) ag)))))),?_⟩;have hl:(ns.map V.int).length=ns.length:=Ya _;have rest:∀(D:Addr) (H1:Hp),aj H H1->H1 D=some (.lst ((List.replicate ns.length false).map V.bl))->
   ∃(DW:Addr) (bs:List Bool),[V.ref D]=[V.ref DW]/\ai K H1 DW (bs.map V.bl)/\tB (tC (V.bl (bs.any id))) [] H1 (λc H2=>if c=true then Q (.bl false) H2 else
    (Cd K false (di 0)) [some (.ref p)] H2 Q):=λD H1 g1 h1=>by
  refine⟨D,_,rfl,ai.of h1,_,rfl,?_⟩;rw[any_false];refine fF ?_;exact Ju rfl (Row.same g1 hR) fO λH' g=>q H' (g1.trans g)
 have turn:∀(D:Addr),H D=none->∀(i:Nat) (v:V) (ys:List V) (H1:Hp),(ns.map V.int)[i]?=some v->(aj H H1/\H1 D=some (.lst ys)/\ys=(List.replicate i false).map V.bl)->
   dq (pq K) (cC (di 0) (cC (tC (V.ty "bool")) cP)) [some v] H1 λy H3=>H3 D=some (.lst ys)/\ys.length<sizeLine/\
    (aj H (upd H3 D (.lst (ys++[y])))/\upd H3 D (.lst (ys++[y])) D=some (.lst (ys++[y]))/\ys++[y]=(List.replicate (i+1) false).map V.bl):=λD hD i v ys H1 hi ⟨g,h1,e⟩=>by
  obtain⟨z,rfl,hz⟩:=iN hi;have fR:i<ns.length:=(Yk.mp hz).1;refine⟨_,rfl,_,_,_,false,rfl,.int z,uN,h1,?_,λb o q=>?_,aw,?_⟩
  ·rw[e,Ya,Wh];exact eS (by omega)
  ·rw[ak (bg q hD)];exact g b o q
  ·rw[e,List.replicate_succ',Wy];rfl
 refine⟨_,rfl,p,rfl,?_⟩;rcases hR with ng|ng
 ·refine .inl ⟨⟨_,ng⟩,λD hD=>zI (xs:=ns.map V.int) (λi ys H1=>aj H H1/\H1 D=some (.lst ys)/\ys=(List.replicate i false).map V.bl) ⟨a_ hD _,aw,rfl⟩ (λi ys H1 _ ⟨g,_,_⟩=>g.seq ng) (λi v ys H1 hi h=>d7 (bP (turn D hD i v ys H1 hi h))) ?_⟩;rintro ys H1 ⟨g,h1,e⟩;exact rest D H1 g (by rw[h1,e,hl])
 ·refine .inr ⟨⟨_,ng⟩,λD hD=>nX (xs:=ns.map V.int) (λi ys H1=>aj H H1/\H1 D=some (.lst ys)/\ys=(List.replicate i false).map V.bl) ⟨a_ hD _,aw,rfl⟩ (λi ys H1 _ ⟨g,_,_⟩=>g.cm ng) (λi v ys H1 hi h=>d7 (bP (turn D hD i v ys H1 hi h))) ?_⟩;rintro ys H1 ⟨g,h1,e⟩;exact rest D H1 g (by rw[h1,e,hl])
end
inductive A8(K:ae)(vs:List V)(H:Hp)(Q:VK):Prop
 |mk (a b:Addr) (xs ys:List Int) (aP:vs=[.ref a,.ref b]) (aQ:aq K H a (xs.map V.int)) (bc:aq K H b (ys.map V.int)) (bN:(∀x∈xs,0<=x/\x<ys.length)) (cw:xs.length<64) (fb:∀(t:Addr) (H':Hp),H t=none->aj H H'->H' t=some (.tup ((aH ys xs).map V.int))->Q (.ref t) H'):A8 K vs H Q
def u9(K:ae):Sp:=λvs H Q _=>A8 K vs H Q
section
variable {K:ae}{mg:aF}
abbrev dS:List Str:=["first","then"]
theorem FR:aY dS dS (ar jN):=.bM
theorem FT(F:aX K "followed" "followed" jN f fd)(bl:Bl mg):aG P w K mg base aR 1 f fd dS (u9 K):=by
 refine F.o FR λs H hr h=>?_;obtain⟨a,b,xs,ys,rfl,hA,hB,wt,hl,q⟩:=h;have al:(aH ys xs).length=xs.length:=by unfold aH;rw[Ya]
 refine⟨_,(az (aN (cB (jw) rfl bl.fA ft (aa (dc (x:="section") (fr:=[("then",1)]) (cl:=[("then",s.heap.objs.size+1)]) rfl (.cY ⟨rfl,trivial⟩ ⟨⟨rfl,.inl rfl,.inl rfl,rfl⟩,trivial⟩) (lP (pv 0)) (λ_ _ _ _=>cT) (λ_ _ _ _=>(bA (iT K) (pv 1) (pv 0)))) ag)))),?_⟩;refine⟨_,rfl,a,rfl,⟨_,hA⟩,λD hD=>nX (xs:=xs.map V.int) (λi zs H3=>aj H H3/\H3 D=some (.lst zs)/\zs=((aH ys xs).take i).map V.int) ⟨a_ hD _,aw,rfl⟩ (λi zs H3 _ ⟨g3,_,_⟩=>g3.cm hA) ?_ ?_⟩
 ·rintro i v zs H3 hi ⟨g3,h3,e3⟩;obtain⟨z,rfl,hz⟩:=iN hi;have bz:=wt z (Yq hz);refine d7 (bP ⟨_,rfl,_,rfl,b,_,_,_,rfl,rfl,g3.cm hB,ke bz.1 bz.2,h3,?_,λd o qd=>?_,aw,?_⟩)
  ·rw[e3,Ya,Yz,al];exact eS (by omega)
  ·rw[ak (bg qd hD)];exact g3 d o qd
  ·rw[e3,Wd,tE];unfold aH;rw[Yj,hz];rfl
 ·rintro zs H3 ⟨g3,h3,e3⟩;refine⟨D,_,rfl,.inl ⟨ai.of h3,λt ht=>q t _ (g3.free ht) (g3.trans (a_ ht _)) ?_⟩⟩;show upd H3 t (.tup zs) t=_;rw[aw,e3,Ya,Yv (by rw[al];omega)]
end
def ic(x:Int):List Int->Nat
 |[]=>0
 |y::r=>if y=x then 0 else ic x r+1
theorem Aq{x:Int}:∀{l:List Int},x∈l->l[ic x l]?=some x/\∀m,m<ic x l->l[m]?≠some x
 |[],h=>by cases h
 |y::r,h=>by
  unfold ic;by_cases e:y=x;·grind
  ·rw[if_neg e];obtain⟨h1,h2⟩:=Aq ((Yr.mp h).resolve_left λz=>e z.symm);refine⟨by rw[List.getElem?_cons_succ];exact h1,λm hm=>?_⟩;cases m with
   |zero=>grind
   |succ m=>grind
def inv(xs:List Int):List Int:=(bD xs.length).map λi=>(ic i xs:Int)
theorem zd(xs:List Int):(inv xs).length=xs.length:=by unfold inv;rw[Ya,dB]
theorem Ku{xs:List Int}{i:Nat}(h:i<xs.length):(inv xs)[i]?=some (ic (i:Int) xs:Int):=by
 unfold inv;rw[Yj,iJ h];rfl
theorem JF{xs:List Int}(h:full xs=true){i:Nat}(hi:i<xs.length):(i:Int)∈xs:=(nO h).symm.subset (Yq (iJ hi))
theorem JG{xs:List Int}{i:Nat}(hi:i<xs.length):(inv xs).take (i+1)=(inv xs).take i++[(ic (i:Int) xs:Int)]:=by
 rw[Wd,Ku hi];rfl
inductive BR(vs:List V)(H:Hp)(Q:VK):Prop
 |mk (a:Addr) (xs:List Int) (aP:vs=[.ref a]) (aQ:H a=some (.tup (xs.map V.int))) (bc:xs.length<64) (bN:full xs=true) (cw:∀(t:Addr) (H':Hp),H t=none->aj H H'->H' t=some (.tup ((inv xs).map V.int))->Q (.ref t) H'):BR vs H Q
def vK:Sp:=λvs H Q _=>BR vs H Q
section
variable {K:ae}{mg:aF}
abbrev eh:List Str:=["turn"]
theorem E3:aY eh eh (ar jx):=.bM
theorem E4(F:aX K "turned_back" "turned_back" jx f fd)(bl:Bl mg):aG P w K mg base aR 1 f fd eh vK:=by
 refine F.ok E3 (λvs H Q E h=>?_) (λaD A outer s H1 vs Q E hr h=>?_)
 ·obtain⟨a,xs,rfl,_⟩:=h;rfl
 obtain⟨a,xs,rfl,hA,lx,fx,q⟩:=h;refine⟨_,(az (aN (cB (jw) rfl bl.fA ft (aa (dc (x:="section") (fr:=[("turn",0)]) (cl:=[("turn",s.heap.objs.size+1)]) rfl (.cY ⟨rfl,trivial⟩ ⟨⟨rfl,.inl rfl,.inl rfl,rfl⟩,trivial⟩) (jQ rfl bl.gc (aa (bY K bl (pv 0)) ag)) (λ_ _ _ _=>cT) (λ_ _ _ _=>(FL (pv 1) (aa (pv 0) ag)))) ag)))),?_⟩;have el:(xs.map V.int).length=xs.length:=Ya _;refine⟨_,rfl,a,_,rfl,.inr (aq.of hA),_,rfl,by rw[el];omega,by rw[el];omega,λD hD=>rR (lo:=0) (n:=(((xs.map V.int).length:Nat):Int).toNat)
   (λi zs H2=>aj H1 H2/\H2 D=some (.lst zs)/\zs=((inv xs).take i).map V.int) ⟨a_ hD _,aw,rfl⟩ ?_ ?_⟩
 ·rintro i zs H2 hi ⟨g2,h2,e2⟩;rw[Y9,el] at hi;rw[Int.zero_add];have hx:=Aq (JF fx hi);have DX:=g2 _ _ hA;refine d7 (bP ⟨_,rfl,a,xs,rfl,DX,_,rfl,(i:Int),ic (i:Int) xs,rfl,DX,hx.1,hx.2,h2,?_,λd o qd=>?_,aw,?_⟩)
  ·rw[e2,Ya,Yz,zd];exact eS (by omega)
  ·rw[ak (bg qd hD)];exact g2 d o qd
  ·rw[e2,JG hi,Wy];rfl
 ·rintro zs H2 ⟨g2,h2,e2⟩;refine⟨D,_,rfl,.inl ⟨ai.of h2,λt ht=>q t _ (g2.free ht) (g2.trans (a_ ht _)) ?_⟩⟩;rw[aw,e2,Y9,el,Yv (by rw[zd];omega)]
end
inductive zR(vs:List V)(H:Hp)(Q:VK):Prop
 |mk (n:Nat) (aP:vs=[.int (n:Int)]) (aQ:n<=1000) (bc:∀(t:Addr) (H':Hp),H t=none->aj H H'->H' t=some (.tup ((bD n).map V.int))->Q (.ref t) H'):zR vs H Q
def ot:Sp:=λvs H Q _=>zR vs H Q
section
variable {K:ae}{mg:aF}{c:Addr}
abbrev jm:List Str:=["size"]
theorem JH:aY jm jm (ar j4):=.bM
theorem JI(F:aX K "still" "still" j4 f fd)(bl:Bl mg):aG P w K mg base aR 1 f fd jm ot:=by
 refine F.o JH λs H hr h=>?_;obtain⟨n,rfl,hn,q⟩:=h;refine⟨_,(az (aN (cB (EZ rfl) rfl bl.fA ft (aa (cB nE rfl bl.gc nY (aa (pv 0) ag)) ag)))),?_⟩;exact⟨_,rfl,_,rfl,λr jl=>⟨r,n,rfl,aw,hn,λt ht=>q t _ ((a_ jl _).free ht) ((a_ jl _).trans (a_ ht _)) aw⟩⟩
end
inductive A9(K:ae)(vs:List V)(H:Hp)(Q:VK):Prop
 |mk (p:Addr) (ns:List Int) (aP:vs=[.ref p]) (aQ:aq K H p (ns.map V.int)) (bc:ns.length<64) (bN:full ns=true) (cw:∀H',aj H H'->Q .ao H'):A9 K vs H Q
def oZ(K:ae):Sp:=λvs H Q _=>A9 K vs H Q
inductive BS(K:ae)(vs:List V)(H:Hp)(Q:VK):Prop
 |mk (a b:Addr) (xs ys:List Int) (aP:vs=[.ref a,.ref b]) (aQ:aq K H a (xs.map V.int)) (bc:aq K H b (ys.map V.int)) (bN:xs.length<64) (cw:full xs=true) (fb:full ys=true) (kW:xs.length=ys.length) (p9:∀(t:Addr) (H':Hp),H t=none->aj H H'->H' t=some (.tup ((aH ys xs).map V.int))->Q (.ref t) H'):BS K vs H Q
def my(K:ae):Sp:=λvs H Q _=>BS K vs H Q
inductive BU(vs:List V)(H:Hp)(Q:VK):Prop
 |mk (a:Addr) (xs:List Int) (aP:vs=[.ref a]) (aQ:H a=some (.tup (xs.map V.int))) (bc:xs.length<64) (bN:full xs=true) (cw:∀(t:Addr) (H':Hp),H t=none->aj H H'->H' t=some (.tup ((inv xs).map V.int))->Q (.ref t) H'):BU vs H Q
def pC:Sp:=λvs H Q _=>BU vs H Q
inductive Ar(K:ae)(vs:List V)(H:Hp)(Q:VK):Prop
 |mk (l a0:Addr) (as:List Addr) (n:Nat) (aP:vs=[.ref l]) (aQ:ai K H l ((a0::as).map V.ref)) (bc:2<=n) (bN:n<=8) (cw:(∀a∈a0::as,∃xs:List Int,aq K H a (xs.map V.int)/\xs.length=n/\full xs=true)) (fb:∀H',aj H H'->Q .ao H'):Ar K vs H Q
def oM(K:ae):Sp:=λvs H Q _=>Ar K vs H Q
inductive yK(K:ae)(vs:List V)(H:Hp)(Q:VK):Prop
 |mk (m f w:Addr) (xs ys:List Int) (aP:vs=[.ref m,.ref f,.ref w]) (aQ:aq K H m (xs.map V.int)) (bc:aq K H f ((aH xs ys).map V.int)) (bN:aq K H w (ys.map V.int)) (cw:full xs=true) (fb:full ys=true) (kW:xs.length=ys.length) (p9:xs.length<=8) (wu:∀H',aj H H'->Q .ao H'):yK K vs H Q
def tF(K:ae):Sp:=λvs H Q _=>yK K vs H Q
theorem gW(xs ys:List Int):(aH xs ys).length=ys.length:=by unfold aH;rw[Ya]
theorem n4{xs ys:List Int}(fx:full xs=true)(fy:full ys=true)(e:xs.length=ys.length):full (aH xs ys)=true:=by
 have p1:(aH xs ys).Perm ((bD ys.length).map λx=>xs.getD x.toNat 0):=(nO fy).map _;have e2:((bD ys.length).map λx=>xs.getD x.toNat 0)=xs:=by
  refine Wr λi=>?_;rw[Yj];by_cases hi:i<ys.length
  ·rw[iJ hi]
   grind
  ·rw[Y4 (by rw[dB];omega),Y4 (by omega)];rfl
 rw[e2] at p1;exact uf (p1.trans (nO fx))
abbrev Mx(n:Nat)(m f w d:Addr):List (Str×V):=[("size",.int (n:Int)),("mother",.ref m),("father",.ref f),("wife",.ref w),("steps",.ref d)]
abbrev iP(m f w im jf iw st:Addr):List (Key×V):=[(.inr "c",.ref m),(.inr "k",.ref f),(.inr "w",.ref w),(.inr "m",.ref im),(.inr "f",.ref jf),(.inr "h",.ref iw),(.inr "s",.ref st)]
def bb(H:Hp)(a:Addr)(ns:List Int):Prop:=H a=some (.tup (ns.map V.int))
inductive As(H:Hp)(C L:Addr)(xs ys:List Int):Prop
 |mk (dx d m f w im jf iw st:Addr) (aP:H L=some (.ins C dx (Mx xs.length m f w d))) (aQ:H d=some (.dK (iP m f w im jf iw st))) (bc:bb H m xs) (bN:bb H f (aH xs ys)) (cw:bb H w ys) (fb:bb H im (inv xs)) (kW:bb H jf (inv (aH xs ys))) (p9:bb H iw (inv ys)) (wu:bb H st (bD xs.length)):As H C L xs ys
def lW(H:Hp)(C L:Addr)(xs ys:List Int):Prop:=As H C L xs ys
inductive Au(C:Addr)(vs:List V)(H:Hp)(Q:VK):Prop
 |mk (x dx m f w:Addr) (xs ys:List Int) (aP:vs=[.ref x,.ref m,.ref f,.ref w]) (aQ:H x=some (.ins C dx [])) (bc:bb H m xs) (bN:bb H f (aH xs ys)) (cw:bb H w ys) (fb:full xs=true) (kW:full ys=true) (p9:xs.length=ys.length) (wu:2<=xs.length) (UN:xs.length<=8) (Ui:∀H',(∀b o,H b=some o->b≠x->H' b=some o)->lW H' C x xs ys->Q .ao H'):Au C vs H Q
def uQ(C:Addr):Sp:=λvs H Q _=>Au C vs H Q
inductive ze(C:Addr)(vs:List V)(H:Hp)(Q:VK):Prop
 |mk (m w:Addr) (xs ys:List Int) (aP:vs=[.ref m,.ref w]) (aQ:bb H m xs) (bc:bb H w ys) (bN:full xs=true) (cw:full ys=true) (fb:xs.length=ys.length) (kW:2<=xs.length) (p9:xs.length<=8) (wu:∀(L:Addr) (H':Hp),aj H H'->lW H' C L xs ys->Q (.ref L) H'):ze C vs H Q
def tS(C:Addr):Sp:=λvs H Q _=>ze C vs H Q
structure mj(K:ae)(C:Addr):Prop where
 cls:gL K C
 uR:b_ K C "size"
 n5:b_ K C "mother"
 n6:b_ K C "father"
 oN:b_ K C "wife"
 A_:b_ K C "steps"
section
variable {K:ae}{mg:aF}{c:Addr}
theorem Fc:aY dv dv (ar jB):=.bM
theorem LJ(F:aX K "check_turn" "check_turn" jB f fd)(f_:HasFn P w K mg base 1 "is_turn" dv (mx K)):aG P w K mg base aR 2 f fd dv (oZ K):=by
 refine F.o Fc λs H hr h=>?_;obtain⟨p,ns,rfl,hT,fO,fl,q⟩:=h;refine⟨_,(az (bp (gm (dY (aS f_ hr (aa (pv 0) ag)))) lF bu)),?_⟩;refine⟨_,rfl,p,ns,rfl,.inr hT,fO,λH1 g=>⟨_,rfl,?_⟩⟩;rw[fl];exact fF (q H1 g)
theorem IC:aY dS dS (ar jV):=.bM
theorem My(F:aX K "behind" "behind" jV f fd)(iB:HasFn P w K mg base 2 "check_turn" dv (oZ K))(rS:HasFn P w K mg base 1 "followed" dS (u9 K))(bl:Bl mg):aG P w K mg base aR 3 f fd dS (my K):=by
 refine F.o IC λs H hr h=>?_;obtain⟨a,b,xs,ys,rfl,hA,hB,lx,fx,fy,eq,q⟩:=h;refine⟨_,(au (cM (aS iB hr (aa (pv 0) ag))) (au (cM (aS iB hr (aa (pv 1) ag))) (au (bp (bF dZ (bY K bl (pv 0)) (bY K bl (pv 1))) lF bu) (az (aN (aS rS hr (aa (pv 0) (aa (pv 1) ag)))))))),?_⟩;refine⟨_,rfl,a,xs,rfl,hA,lx,fx,λH1 g1=>?_⟩;refine⟨_,rfl,b,ys,rfl,g1.cm hB,by omega,fy,λH2 g2=>?_⟩;have g:=g1.trans g2;have DY:=g.cm hA;have DZ:=g.cm hB;have el:∀zs:List Int,(zs.map V.int).length=zs.length:=λzs=>Ya _;refine⟨_,rfl,a,_,rfl,.inr DY,_,rfl,b,_,rfl,.inr DZ,rfl,_,rfl,ku (by rw[el,el,eq]) (bh ?_)⟩;exact⟨_,rfl,_,rfl,a,b,xs,ys,rfl,DY,DZ,λz hz=>by rw[←eq];exact lL fx hz,lx,λt H3 nt g3 ht=>q t H3 (g.free nt) (g.trans g3) ht⟩
theorem Kv:aY eh eh (ar kn):=.bM
theorem Mz(F:aX K "back" "back" kn f fd)(iB:HasFn P w K mg base 2 "check_turn" dv (oZ K))(qK:HasFn P w K mg base 1 "turned_back" eh vK)(bl:Bl mg):aG P w K mg base aR 3 f fd eh pC:=by
 refine F.o Kv λs H hr h=>?_;obtain⟨a,xs,rfl,hA,lx,fx,q⟩:=h;refine⟨_,(au (cM (aS iB hr (aa (pv 0) ag))) (az (aN (aS qK hr (aa (pv 0) ag))))),?_⟩;refine⟨_,rfl,a,xs,rfl,aq.of hA,lx,fx,λH1 g1=>?_⟩;exact⟨_,rfl,a,xs,rfl,g1 _ _ hA,lx,fx,λt H2 nt g2 ht=>q t H2 (g1.free nt) (g1.trans g2) ht⟩
abbrev gD:List Str:=["rows"]
theorem jA:aY ["rows","size","row"] gD (ar iA):=.bM
theorem Kw(F:aX K "check_rows" "check_rows" iA f fd)(f_:HasFn P w K mg base 1 "is_turn" dv (mx K)){t1 t2:Tok}(jF:mg "LEAST_SIZE"=some (.int 2 t1))(jK:mg "MOST_SIZE"=some (.int 8 t2))(bl:Bl mg):aG P w K mg base aR 2 f fd gD (oM K):=by
 refine F.o jA λs H hr h=>?_;obtain⟨l,a0,as,n,rfl,hL,n2,n8,rows,q⟩:=h;refine⟨_,(au (bR 1 jA.nd (bY K bl (bA (iL K) (pv 0) aE))) (au (bp (PW.pt (pw_or (bF l_ (pv 1) (gZ (v:=.int (2)) rfl jF ⟨_,rfl⟩)) (pw_or1 (bF uY (pv 1) (gZ (v:=.int (8)) rfl jK ⟨_,rfl⟩))))) lF bu) (az (gp PassesOwn.never rfl (gY (K:=K) rfl (pv 0)) (eN 2 jA.nd) (az (bp (PW.pt (pw_or (bF dZ (bY K bl (pv 2)) (pv 1)) (pw_or1 (gm (dY (aS f_ hr (aa (pv 2) ag))))))) lF bu)))))),?_⟩;have el:∀zs:List Int,(zs.map V.int).length=zs.length:=λzs=>Ya _;obtain⟨x0,h0,l0,f0⟩:=rows a0 Y2;refine⟨_,rfl,l,_,0,.ref a0,rfl,rfl,hL,bZ (j:=0) rfl,a0,_,rfl,.inr h0,?_⟩;rw[el,l0];refine⟨_,rfl,_,_,rfl,rfl,_,rfl,ba (λcc=>absurd (of_decide_eq_true cc) (by omega)) (λ_=>?_)⟩;refine⟨_,rfl,_,_,rfl,rfl,_,rfl,ba (λcc=>absurd (of_decide_eq_true cc) (by omega)) (λ_=>bh ?_)⟩;refine⟨_,rfl,l,rfl,⟨_,hL⟩,lK (xs:=(a0::as).map V.ref) (λi σ H1=>aj H H1/\∃o2:Option V,σ=[some (.ref l),some (.int (n:Int)),o2]) ⟨aj.refl _,none,rfl⟩ (λi σ H1 _ ⟨g,_⟩=>g.seq hL) ?_ ?_⟩
 ·rintro i v σ H1 hi ⟨g,o2,rfl⟩;rw[Yj] at hi;obtain⟨a,ha,rfl⟩:∃a,a∈a0::as/\V.ref a=v:=by
   cases e:(a0::as)[i]? with
   |none=>rw[e] at hi;cases hi
   |some a=>grind
  obtain⟨xs,hx,lx,fx⟩:=rows a ha;refine⟨_,rfl,a,_,rfl,.inr (g.cm hx),_,rfl,rfl,_,rfl,ku (by rw[el,lx]) ?_⟩;refine⟨_,rfl,a,xs,rfl,.inr (g.cm hx),by omega,λH2 g2=>⟨_,rfl,?_⟩⟩;rw[fx];exact fF (bh ⟨g.trans g2,_,rfl⟩)
 ·rintro σ H1 ⟨g,o2,rfl⟩;exact q H1 g
abbrev ie:List Str:=["mother","father","wife"]
theorem jt:aY ["mother","father","wife","by_mothers","section"] ie (ar iz):=.bM
theorem GW(F:aX K "check_parents" "check_parents" iz f fd)(gb:HasFn P w K mg base 3 "behind" dS (my K))(bl:Bl mg):aG P w K mg base aR 4 f fd ie (tF K):=by
 refine F.o jt λs H hr h=>?_;obtain⟨m,fa,wi,xs,ys,rfl,hM,hF,hW,fx,fy,eq,l8,q⟩:=h;refine⟨_,(au (bR 3 jt.nd (aS gb hr (aa (pv 2) (aa (pv 0) ag)))) (az (gp PassesOwn.never rfl (jQ rfl bl.gc (aa (bY K bl (pv 1)) ag)) (eN 4 jt.nd) (az (bp (bF dZ (bA (iT K) (pv 3) (pv 4)) (bA (iT K) (pv 1) (pv 4))) lF bu))))),?_⟩;have el:∀zs:List Int,(zs.map V.int).length=zs.length:=λzs=>Ya _;refine⟨_,rfl,_,rfl,wi,m,ys,xs,rfl,hW,hM,by omega,fy,fx,eq.symm,λt H1 nt g ht=>?_⟩;have al:=gW xs ys;refine⟨_,rfl,fa,_,rfl,.inr (g.cm hF),_,rfl,by rw[el];omega,by rw[el];omega,tq (lo:=0) (n:=((((aH xs ys).map V.int).length:Nat):Int).toNat)
  (λi σ H2=>H2=H1/\∃o4:Option V,σ=[some (.ref m),some (.ref fa),some (.ref wi),some (.ref t),o4]) ⟨rfl,none,rfl⟩ ?_ ?_⟩
 ·rintro i σ H2 hi ⟨rfl,o4,rfl⟩;rw[Y9,el] at hi;have at_:d8 ((aH xs ys).map V.int) (0+(i:Int))=some (.int ((aH xs ys).getD (0+(i:Int)).toNat 0)):=ke (by omega) (by omega);refine⟨_,rfl,_,rfl,t,_,_,_,rfl,rfl,aq.of ht,at_,_,rfl,_,rfl,fa,_,_,_,rfl,rfl,g.cm hF,at_,rfl,_,rfl,ku rfl (bh ⟨rfl,_,rfl⟩)⟩
 ·rintro σ H2 ⟨rfl,o4,rfl⟩;exact q _ g
end
theorem eP{f:Str}{y:V}{fs:List (Str×V)}{n:Nat}(h:fs.length<=n):(bO f y fs).length<=n+1:=Yn (rh f y fs) (Nat.succ_le_succ h)
theorem D0(a b c d:V):bO "wife" d (bO "father" c (bO "mother" b (bO "size" a [])))=([("size",a),("mother",b),("father",c),("wife",d)]:List (Str×V)):=rfl
theorem D1(a b c d e:V):bO "steps" e [("size",a),("mother",b),("father",c),("wife",d)]=([("size",a),("mother",b),("father",c),("wife",d),("steps",e)]:List (Str×V)):=rfl
theorem D3(a b c d e f g:V):km [] [(.inr "c",a),(.inr "k",b),(.inr "w",c),(.inr "m",d),(.inr "f",e),(.inr "h",f),(.inr "s",g)]=[(.inr "c",a),(.inr "k",b),(.inr "w",c),(.inr "m",d),(.inr "f",e),(.inr "h",f),(.inr "s",g)]:=rfl
section
variable {K:ae}{mg:aF}{c:Addr}
abbrev gE:List Str:=["self","mother","father","wife"]
theorem yD:aY gE gE (ar iC):=.bM
theorem Kx(F:aX K "__init__" "Land.__init__" iC f fd)(lc:mj K C)(gS:HasFn P w K mg base 2 "check_rows" gD (oM K))(lj:HasFn P w K mg base 4 "check_parents" ie (tF K))
  (fE:HasFn P w K mg base 3 "back" eh pC)(j6:HasFn P w K mg base 1 "still" jm ot)(bl:Bl mg):aG P w K mg base aR 5 f fd gE (uQ C):=by
 refine F.o yD λs H hr h=>?_;obtain⟨x,dx,m,fa,wi,xs,ys,rfl,hx,hM,hF,hW,fx,fy,eq,l2,l8,q⟩:=h;refine⟨_,(au (cM (aS gS hr (aa (j_ (aa (pv 1) (aa (pv 2) (aa (pv 3) ag)))) ag))) (au (cM (aS lj hr (aa (pv 1) (aa (pv 2) (aa (pv 3) ag))))) (au (fC (pv 0) (bY K bl (pv 1)) rfl) (au (fC (pv 0) (pv 1) rfl) (au (fC (pv 0) (pv 2) rfl) (au (fC (pv 0) (pv 3) rfl) (az (fC (pv 0) (A3 (dC aK (pv 1) (dC aK (pv 2) (dC aK (pv 3) (dC aK (aS fE hr (aa (pv 1) ag)) (dC aK (aS fE hr (aa (pv 2) ag)) (dC aK (aS fE hr (aa (pv 3) ag)) (dC aK (aS j6 hr (aa (bY K bl (pv 1)) ag)) A2))))))) rfl rfl (λz=>nomatch z) (Nat.le_of_ble_eq_true rfl)) rfl)))))))),?_⟩;have el:∀zs:List Int,(zs.map V.int).length=zs.length:=λzs=>Ya _;have eQ:=n4 fx fy eq;have al:=gW xs ys;refine⟨_,rfl,_,rfl,_,rfl,by show 3<=sizeLine;decide,λl nl=>?_⟩;have g1:=a_ nl (.lst [.ref m,.ref fa,.ref wi]);refine⟨l,m,[fa,wi],xs.length,rfl,ai.of aw,l2,l8,λa ha=>?_,λH2 g2=>?_⟩
 ·rcases Yr.mp ha with rfl|ha;·exact⟨xs,aq.of (g1 _ _ hM),rfl,fx⟩
  ·rcases Yr.mp ha with rfl|ha;·exact⟨aH xs ys,aq.of (g1 _ _ hF),by rw[al,eq],eQ⟩
   ·rw[Wz] at ha;subst ha;exact⟨ys,aq.of (g1 _ _ hW),eq.symm,fy⟩
 have ei:=g1.trans g2;refine⟨_,rfl,_,rfl,_,rfl,m,fa,wi,xs,ys,rfl,aq.of (ei _ _ hM),aq.of (ei _ _ hF),aq.of (ei _ _ hW),fx,fy,eq,l8,λH3 g3=>?_⟩;have g:=ei.trans g3;have gP:=g _ _ hx;have gQ:=g _ _ hM;have jn:=g _ _ hF;have jo:=g _ _ hW;have nm:m≠x:=λe=>by rw[e,gP] at gQ;cases gQ
 have nf:fa≠x:=λe=>by rw[e,gP] at jn;cases jn
 have nw:wi≠x:=λe=>by rw[e,gP] at jo;cases jo
 refine⟨_,rfl,m,_,rfl,.inr (aq.of gQ),_,rfl,x,C,dx,_,rfl,gP,lc.cls,lc.uR,by decide,?_⟩;refine⟨_,rfl,_,rfl,x,C,dx,_,rfl,aw,lc.cls,lc.n5,Y3 (eP (Yc 0)) (by decide),?_⟩;refine⟨_,rfl,_,rfl,x,C,dx,_,rfl,aw,lc.cls,lc.n6,Y3 (eP (eP (Yc 0))) (by decide),?_⟩;refine⟨_,rfl,_,rfl,x,C,dx,_,rfl,aw,lc.cls,lc.oN,Y3 (eP (eP (eP (Yc 0)))) (by decide),?_⟩;rw[jW,jW,jW,el,D0];have jq:upd H3 x (.ins C dx [("size",.int (xs.length:Int)),("mother",.ref m),("father",.ref fa),("wife",.ref wi)]) x=some (.ins C dx [("size",.int (xs.length:Int)),("mother",.ref m),("father",.ref fa),("wife",.ref wi)]):=aw;have o4:∀b o,H3 b=some o->b≠x->upd H3 x (.ins C dx [("size",.int (xs.length:Int)),("mother",.ref m),("father",.ref fa),("wife",.ref wi)]) b=some o:=λb o e n=>by rw[ak n];exact e
 generalize upd H3 x (.ins C dx [("size",.int (xs.length:Int)),("mother",.ref m),("father",.ref fa),("wife",.ref wi)])=H4 at jq o4⊢;have ej:=o4 _ _ gQ nm;have fU:=o4 _ _ jn nf;have fh:=o4 _ _ jo nw;intro d nd;have g5:=a_ nd (.dK []);have jr:upd H4 d (.dK []) d=some (.dK []):=aw;generalize upd H4 d (.dK [])=H5 at g5 jr⊢;refine⟨_,rfl,_,rfl,_,rfl,?_⟩;refine⟨_,rfl,m,xs,rfl,g5 _ _ ej,by omega,fx,λim H6 Ra g6 wx=>?_⟩;refine⟨_,rfl,fa,aH xs ys,rfl,g6 _ _ (g5 _ _ fU),by omega,eQ,λjf H7 Rb g7 wy=>?_⟩;refine⟨_,rfl,wi,ys,rfl,g7 _ _ (g6 _ _ (g5 _ _ fh)),by omega,fy,λiw H8 Rc g8 wz=>?_⟩;have nh:=(g6.trans g7).trans g8;refine⟨_,rfl,m,_,rfl,.inr (aq.of (nh _ _ (g5 _ _ ej))),xs.length,by rw[el];rfl,by omega,λst H9 Rf g9 cq=>?_⟩;have dw:=nh.trans g9;refine⟨dw _ _ jr,iP m fa wi im jf iw st,rfl,by show 7<=15;decide,?_⟩;have dU:d≠x:=bg jq nd |>.symm;have ni:=dw _ _ (g5 _ _ jq);refine⟨_,rfl,x,C,dx,_,rfl,by rw[ak dU.symm];exact ni,lc.cls,lc.A_,by show 4<1000;decide,?_⟩;rw[D1,D3];have key:∀{b:Addr} {o:HO},H9 b=some o->b≠d->b≠x->upd (upd H9 d (.dK (iP m fa wi im jf iw st))) x (.ins C dx [("size",.int (xs.length:Int)),("mother",.ref m),("father",.ref fa),("wife",.ref wi),("steps",.ref d)]) b=some o:=λ{b o} e n1 n2=>by
  rw[ak n2,ak n1];exact e
 have dm:∀{b:Addr} {zs:List Int},H9 b=some (.tup (zs.map V.int))->bb (upd (upd H9 d (.dK (iP m fa wi im jf iw st))) x (.ins C dx [("size",.int (xs.length:Int)),("mother",.ref m),("father",.ref fa),("wife",.ref wi),("steps",.ref d)])) b zs:=λ{b zs} e=>
  key e (λz=>by rw[z,dw _ _ jr] at e;cases e) (λz=>by rw[z,ni] at e;cases e)
 refine q _ (λb o e n=>?_) ⟨dx,d,m,fa,wi,im,jf,iw,st,aw,by rw[ak dU];exact aw,dm (dw _ _ (g5 _ _ ej)),dm (dw _ _ (g5 _ _ fU)),dm (dw _ _ (g5 _ _ fh)),dm (g9 _ _ (g8 _ _ (g7 _ _ wx))),dm (g9 _ _ (g8 _ _ wy)),dm (g9 _ _ wz),dm cq⟩;have e4:=o4 _ _ (g _ _ e) n;refine key (dw _ _ (g5 _ _ e4)) (bg e4 nd) n
abbrev kH:List Str:=["mother","wife"]
theorem GX:aY kH kH (ar jS):=.bM
theorem GY(F:aX K "land_of" "land_of" jS f fd)(gS:HasFn P w K mg base 2 "check_rows" gD (oM K))(gb:HasFn P w K mg base 3 "behind" dS (my K))
  (lX:u7 P w K mg base 5 "Land" C gE (uQ C)):aG P w K mg base aR 7 f fd kH (tS C):=by
 refine F.o GX λs H hr h=>?_;obtain⟨m,wi,xs,ys,rfl,hM,hW,fx,fy,eq,l2,l8,q⟩:=h;refine⟨_,(au (cM (aS gS hr (aa (j_ (aa (pv 0) (aa (pv 1) ag))) ag))) (az (aN (Mn lX hr (by omega) rfl (aa (pv 0) (aa (aS gb hr (aa (pv 1) (aa (pv 0) ag))) (aa (pv 1) ag))))))),?_⟩;refine⟨_,rfl,_,rfl,by show 2<=sizeLine;decide,λl nl=>?_⟩;have g1:=a_ nl (.lst [.ref m,.ref wi]);refine⟨l,m,[wi],xs.length,rfl,ai.of aw,l2,l8,λa ha=>?_,λH2 g2=>?_⟩
 ·rcases Yr.mp ha with rfl|ha;·exact⟨xs,aq.of (g1 _ _ hM),rfl,fx⟩
  ·rw[Wz] at ha;subst ha;exact⟨ys,aq.of (g1 _ _ hW),eq.symm,fy⟩
 have g:=g1.trans g2;refine⟨_,rfl,_,rfl,_,rfl,wi,m,ys,xs,rfl,aq.of (g _ _ hW),aq.of (g _ _ hM),by omega,fy,fx,eq.symm,λfa H3 Rg g3 wA=>?_⟩;have p_:=g.trans g3;refine⟨_,rfl,λx dx nx wB ne=>?_⟩;have wC:upd H3 dx (.own x) x=none:=by rw[ak (λz=>ne z.symm)];exact nx
 have g4:aj H3 (upd (upd H3 dx (.own x)) x (.ins C dx [])):=(a_ wB _).trans (a_ wC _);refine⟨x,dx,m,fa,wi,xs,ys,rfl,aw,g4 _ _ (p_ _ _ hM),g4 _ _ wA,g4 _ _ (p_ _ _ hW),fx,fy,eq,l2,l8,λH5 k5 la=>⟨rfl,q x H5 (λb o e=>?_) la⟩⟩;have e3:=p_ _ _ e;exact k5 b o (g4 _ _ e3) (bg e3 nx)
end
def fV(n:Nat)(d:Int):List Int:=(List.range n).map λi:Nat=>((i:Int)+d) % (n:Int)
theorem rot_length(n:Nat)(d:Int):(fV n d).length=n:=by simp[fV]
theorem JJ(hn:0<n)(d:Int):(fV n d).Perm (bD n):=by
 have eL:(0:Int)<(n:Int):=by omega
 have r0:=We d (Jg eL);have r1:=Wa d eL;obtain⟨r,er⟩:∃r:Nat,d % (n:Int)=(r:Int):=⟨(d % (n:Int)).toNat,by omega⟩;have rn:r<n:=by omega
 have e:fV n d=(bD n).drop r++(bD n).take r:=by
  refine Wr λi=>?_;have ul:=dB n;by_cases hi:i<n
  ·have lhs:(fV n d)[i]?=some (((i:Int)+d) % (n:Int)):=by
    unfold fV;rw[Yj,Ja hi];rfl
   have em:((i:Int)+d) % (n:Int)=((r:Int)+(i:Int)) % (n:Int):=by
    rw[Int.add_comm,←Int.emod_add_emod,er]
   rw[lhs,em];by_cases h:r+i<n;·rw[List.getElem?_append_left (by rw[W6,ul];omega),List.getElem?_drop,iJ (by omega),Int.emod_eq_of_lt (by omega) (by omega),Int.natCast_add]
   ·rw[Ws (by rw[W6,ul];omega),W6,ul,List.getElem?_take_of_lt (by omega),iJ (by omega)];have e3:(r:Int)+(i:Int)=((i-(n-r):Nat):Int)+(n:Int)*1:=by omega
    rw[e3,Int.add_mul_emod_self_left,Int.emod_eq_of_lt (by omega) (by omega)]
  ·rw[Y4 (by rw[rot_length];omega),Y4 (by rw[Wg,W6,Yz,ul];omega)]
 rw[e];exact List.perm_append_comm.trans (by rw[List.take_append_drop])
inductive Ba(vs:List V)(H:Hp)(Q:VK):Prop
 |mk (c:Int) (n:Nat) (aP:vs=[.int c,.int (n:Int)]) (aQ:0<n) (bc:n<=60) (bN:∀(t:Addr) (ts:List Int) (H':Hp),H t=none->aj H H'->bb H' t ts->ts.Perm (bD n)->Q (.ref t) H'):Ba vs H Q
def u_:Sp:=λvs H Q _=>Ba vs H Q
inductive Bb(K:ae)(vs:List V)(H:Hp)(Q:VK):Prop
 |mk (a b:Addr) (xs ys:List Int) (aP:vs=[.ref a,.ref b]) (aQ:aq K H a (xs.map V.int)) (bc:aq K H b (ys.map V.int)) (bN:(∀x∈xs,0<=x/\x<ys.length)) (cw:xs.length<=60) (fb:∀(l:Addr) (H':Hp),H l=none->aj H H'->bb H' l (aH ys xs)->Q (.ref l) H'):Bb K vs H Q
def o5(K:ae):Sp:=λvs H Q _=>Bb K vs H Q
theorem Ky(h:Paired Bd ds [a,b]):∃v w,ds=[v,w]/\Bd v a/\Bd w b:=by
 cases h with|cons h1 h=>cases h with|cons h2 h=>
  cases h;exact⟨_,_,rfl,h1,h2⟩
section
variable {K:ae}{mg:aF}
abbrev mz:List Str:=["_law_cell_here","_law_size"]
theorem zf:aY ["_law_cell_here","_law_size","_law_drawn"] mz (ar jT):=.bM
theorem GZ(F:aX K "_law_row" "_law_row" jT f fd)(jL:HasFn P w K mg base 1 "_law_draws" k_ (oj K))(rT:HasFn P w K mg base 1 "_law_turn" nc uK)(bl:Bl mg):
  aG P w K mg base aR 2 f fd mz u_:=by
 refine F.o zf λs H hr h=>?_;obtain⟨c,n,rfl,n0,Rh,q⟩:=h;refine⟨_,(au (eD (i:=2) zf.nd rfl (Or.inr rfl) (aS jL hr (aa (pv 0) (aa (j_ (aa aE (aa aE ag))) ag)))) (au (bp (bF eX (bA (iL K) (pv 2) aE) aE) (az (aN (cB (jw) rfl bl.fA ft (aa (dc (x:="_law_at") (fr:=[("_law_size",1),("_law_drawn",2)]) (cl:=[("_law_size",s.heap.objs.size+1),("_law_drawn",s.heap.objs.size+1+1)]) rfl (.cY ⟨rfl,⟨rfl,trivial⟩⟩ ⟨⟨rfl,.inl rfl,.inl rfl,rfl⟩,⟨⟨rfl,.inl rfl,.inl rfl,rfl⟩,trivial⟩⟩) (jQ rfl bl.gc (aa (pv 1) ag)) (λ_ _ _ _=>cT) (λ_ _ _ _=>(aJ fB (aJ dE (pv 0) (bA (iL K) (pv 2) aE)) (pv 1)))) ag)))) bu) (az (aN (aS rT hr (aa (bA (iL K) (pv 2) aE) (aa (pv 1) ag))))))),?_⟩;refine⟨_,rfl,by show 2<=sizeLine;decide,λp np=>?_⟩;refine⟨c,p,[3,40320],rfl,ai.of aw,by decide,by decide,λdl ds H1 nd g1 h1 bd=>?_⟩;obtain⟨d0,d1,rfl,⟨a0,UO⟩,⟨a1,UP⟩⟩:=Ky bd;have g:=(a_ np _).trans g1;have pos:(0:Int)<(n:Int):=by omega
 refine⟨_,rfl,dl,_,0,.int d0,rfl,rfl,ai.of h1,rfl,rfl,_,rfl,ba (λ_=>?_) (λ_=>bh ?_)⟩
 ·refine⟨_,rfl,(n:Int),rfl,by omega,by omega,λD hD=>rR (lo:=0) (n:=(n:Int).toNat) (λi zs H2=>aj H1 H2/\H2 D=some (.lst zs)/\zs=((fV n d1).take i).map V.int) ⟨a_ hD _,aw,rfl⟩ ?_ ?_⟩
  ·rintro i zs H2 hi ⟨g2,h2,e2⟩;rw[Y9] at hi;rw[Int.zero_add];refine d7 (bP ⟨_,rfl,_,rfl,dl,_,1,.int d1,rfl,rfl,ai.of (g2 _ _ h1),rfl,_,_,rfl,rfl,_,rfl,_,_,rfl,rfl,pos,h2,?_,λd o qd=>?_,aw,?_⟩)
   ·rw[e2,Ya,Yz,rot_length];exact eS (by omega)
   ·rw[ak (bg qd hD)];exact g2 d o qd
   ·have ge:(fV n d1)[i]?=some (((i:Int)+d1) % (n:Int)):=by
     unfold fV;rw[Yj,Ja hi];rfl
    rw[e2,Wd,tE,ge];rfl
  ·rintro zs H2 ⟨g2,h2,e2⟩;rw[Y9,Yv (by rw[rot_length];omega)] at e2;refine⟨D,_,rfl,.inl ⟨ai.of h2,λt ht=>q t (fV n d1) _ (g.free (g2.free ht)) ((g.trans g2).trans (a_ ht _)) ?_ (JJ n0 d1)⟩⟩;show upd H2 t (.tup zs) t=_;rw[aw,e2]
 ·exact⟨_,rfl,dl,_,1,.int d1,rfl,rfl,ai.of h1,rfl,_,rfl,d1,n,rfl,Rh,λt ts H2 nt g2 ht pm=>q t ts H2 (g.free nt) (g.trans g2) ht pm⟩
abbrev i4:List Str:=["_law_first","_law_then"]
theorem Fm:aY i4 i4 (ar jI):=.bM
theorem Fn(F:aX K "_law_after" "_law_after" jI f fd)(bl:Bl mg):aG P w K mg base aR 1 f fd i4 (o5 K):=by
 refine F.o Fm λs H hr h=>?_;obtain⟨a,b,xs,ys,rfl,hA,hB,wt,hl,q⟩:=h;refine⟨_,(az (aN (cB (jw) rfl bl.fA ft (aa (dc (x:="_law_one") (fr:=[("_law_then",1)]) (cl:=[("_law_then",s.heap.objs.size+1)]) rfl (.cY ⟨rfl,trivial⟩ ⟨⟨rfl,.inl rfl,.inl rfl,rfl⟩,trivial⟩) (lP (pv 0)) (λ_ _ _ _=>cT) (λ_ _ _ _=>(bA (iT K) (pv 1) (pv 0)))) ag)))),?_⟩;refine⟨_,rfl,a,rfl,⟨_,hA⟩,λD hD=>nX (xs:=xs.map V.int) (λi zs H3=>aj H H3/\H3 D=some (.lst zs)/\zs=((aH ys xs).take i).map V.int) ⟨a_ hD _,aw,rfl⟩ (λi zs H3 _ ⟨g3,_,_⟩=>g3.cm hA) ?_ ?_⟩
 ·rintro i v zs H3 hi ⟨g3,h3,e3⟩;obtain⟨z,rfl,hz⟩:=iN hi;have fR:i<xs.length:=(Yk.mp hz).1;have bz:=wt z (Yq hz);refine d7 (bP ⟨_,rfl,_,rfl,b,_,_,_,rfl,rfl,g3.cm hB,ke bz.1 bz.2,h3,?_,λd o qd=>?_,aw,?_⟩)
  ·rw[e3,Ya,Yz,gW];exact eS (by omega)
  ·rw[ak (bg qd hD)];exact g3 d o qd
  ·rw[e3,Wd,tE];unfold aH;rw[Yj,hz];rfl
 ·rintro zs H3 ⟨g3,h3,e3⟩;refine⟨D,_,rfl,.inl ⟨ai.of h3,λt ht=>q t _ (g3.free ht) (g3.trans (a_ ht _)) ?_⟩⟩;show upd H3 t (.tup zs) t=_;rw[aw,e3,Ya,Yv (by rw[gW];omega)]
end
def Av(rs:List (Addr×List Int))(n:Nat):Prop:=2<=n/\n<=8/\∀r∈rs,r.2.length=n/\full r.2=true
def ug(K:ae)(c:Addr):Sp:=λvs H Q E=>∃(l:Addr) (r0:Addr×List Int) (rs:List (Addr×List Int)),vs=[.ref l]/\ai K H l ((r0::rs).map λr=>V.ref r.1)/\(∀r∈r0::rs,aq K H r.1 (r.2.map V.int)/\r.2.length<64/\∀z∈r.2,Sm z)/\
 (Av (r0::rs) r0.2.length->∀H',aj H H'->Q .ao H')/\(¬Av (r0::rs) r0.2.length->XP H c "no land" E)
section
variable {K:ae}{mg:aF}{c:Addr}
theorem JK(F:aX K "check_rows" "check_rows" iA f fd)(f_:HasFn P w K mg base 1 "is_turn" dv (mx K)){t1 t2:Tok}(jF:mg "LEAST_SIZE"=some (.int 2 t1))(jK:mg "MOST_SIZE"=some (.int 8 t2))(nQ:kj P w K mg base "BadLand" "no land" c)(bl:Bl mg):aG P w K mg base (gN P w) 4 f fd gD (ug K c):=by
 refine F.mV jA (λvs H Q E h=>?_) (λaD A outer s H vs Q E hr h=>?_)
 ·obtain⟨l,r0,rs,rfl,_⟩:=h;rfl
 obtain⟨l,r0,rs,rfl,hL,rows,q,x⟩:=h;refine⟨_,(au (bR 1 jA.nd (bY K bl (bA (iL K) (pv 0) aE))) (au (bp (PW.pt (pw_or (bF l_ (pv 1) (gZ (v:=.int (2)) rfl jF ⟨_,rfl⟩)) (pw_or1 (bF uY (pv 1) (gZ (v:=.int (8)) rfl jK ⟨_,rfl⟩))))) (az (nN nQ hr (by omega) rfl rfl hV (Ai (om aK (om (gq hr (pv 1)) BK))))) bu) (az (gp mw rfl (gY (K:=K) rfl (pv 0)) (eN 2 jA.nd) (az (bp (PW.pt (pw_or (bF dZ (bY K bl (pv 2)) (pv 1)) (pw_or1 (gm (dY (aS f_ hr (aa (pv 2) ag))))))) (az (nN nQ hr (by omega) rfl rfl hV (J_ (gq hr (pv 2))))) bu)))))),?_⟩;have el:∀zs:List Int,(zs.map V.int).length=zs.length:=λzs=>Ya _;have lz:(200000:Nat)<=sizeLine:=by rw[sizeLine_eq];omega
 obtain⟨h0,l0,s0⟩:=rows r0 Y2;have wD:Sm ((r0.2.length:Nat):Int):=tP (by omega) (by omega);have D4:(Str.ofString (toString ((r0.2.length:Nat):Int))).length<=4000:=Yn (PyProof.Rows.int_text_len_1921 wD) (by omega);refine⟨_,rfl,l,_,0,.ref r0.1,rfl,rfl,hL,bZ (j:=0) rfl,r0.1,_,rfl,.inr h0,?_⟩;rw[el];refine⟨_,rfl,_,_,rfl,rfl,_,rfl,ba (λcc=>?_) (λcc=>?_)⟩
 ·have lt:((r0.2.length:Nat):Int)<2:=of_decide_eq_true cc;refine⟨_,rfl,by decide,?_⟩;exact⟨_,rfl,.inr (.inl ⟨_,rfl,wD,_,rfl,D4,λz lz=>⟨z,rfl,Yn lz (by show 4000*2<=1000000;omega),x λg=>by have:=g.1;omega⟩⟩)⟩
 have Ri:2<=r0.2.length:=by
  rcases Jc r0.2.length 2 with z|z;·exact absurd (decide_eq_true (show((r0.2.length:Nat):Int)<2 by omega)) cc
  ·exact z
 refine⟨_,rfl,_,_,rfl,rfl,_,rfl,ba (λcc=>?_) (λcc=>bh ?_)⟩
 ·have gt:(8:Int)<((r0.2.length:Nat):Int):=of_decide_eq_true cc;refine⟨_,rfl,by decide,?_⟩;exact⟨_,rfl,.inr (.inl ⟨_,rfl,wD,_,rfl,D4,λz lz=>⟨z,rfl,Yn lz (by show 4000*2<=1000000;omega),x λg=>by have:=g.2.1;omega⟩⟩)⟩
 have Rj:r0.2.length<=8:=by
  rcases Jc 8 r0.2.length with z|z;·exact absurd (decide_eq_true (show(8:Int)<((r0.2.length:Nat):Int) by omega)) cc
  ·exact z
 refine⟨_,rfl,l,rfl,⟨_,hL⟩,lK (xs:=(r0::rs).map λr:Addr×List Int=>V.ref r.1) (λi σ H1=>aj H H1/\(∀r∈(r0::rs).take i,r.2.length=r0.2.length/\full r.2=true)/\∃o2:Option V,σ=[some (.ref l),some (.int ((r0.2.length:Nat):Int)),o2]) ⟨aj.refl _,(λr hr=>by cases hr),none,rfl⟩ (λi σ H1 _ ⟨g,_⟩=>g.seq hL) ?_ ?_⟩
 ·rintro i v σ H1 hi ⟨g,done,o2,rfl⟩;rw[Yj] at hi;obtain⟨r,er,rfl⟩:∃r,(r0::rs)[i]?=some r/\V.ref r.1=v:=by
   cases e:(r0::rs)[i]? with
   |none=>rw[e] at hi;cases hi
   |some r=>rw[e] at hi;exact⟨r,rfl,Yl hi⟩
  have D5:=Yq er;obtain⟨hx,lx,sx⟩:=rows r D5;have sl:=shown_le sx lx;have bad:∀H2,aj H1 H2->¬(r.2.length=r0.2.length/\full r.2=true)->XP H2 c "no land" E:=λH2 g2 z=>(x λgd=>z (gd.2.2 r D5)).same (g.trans g2);refine⟨_,rfl,r.1,_,rfl,.inr (g.cm hx),_,rfl,rfl,_,rfl,ba (λcc=>?_) (λcc=>?_)⟩
  ·have ne:¬r.2.length=r0.2.length:=λz=>by
    have c2:(!decide (V.int (((r.2.map V.int).length:Nat):Int)=V.int ((r0.2.length:Nat):Int)))=true:=cc;rw[el,z,decide_eq_true rfl] at c2;cases c2
   exact⟨_,rfl,.inr (.inr ⟨r.1,r.2,rfl,g.cm hx,sx,by omega,_,rfl,by omega,bad H1 (aj.refl _) λz=>ne z.1⟩)⟩
  have le:r.2.length=r0.2.length:=by
   have c2:¬(!decide (V.int (((r.2.map V.int).length:Nat):Int)=V.int ((r0.2.length:Nat):Int)))=true:=cc;by_cases z:r.2.length=r0.2.length;·exact z
   ·rw[el,decide_eq_false (λe=>z (by have:=V.int.inj e;omega))] at c2;exact absurd rfl c2
  refine⟨_,rfl,r.1,r.2,rfl,.inr (g.cm hx),by omega,λH2 g2=>⟨_,rfl,?_⟩⟩;cases e:full r.2 with
  |false=>exact bP ⟨_,rfl,.inr (.inr ⟨r.1,r.2,rfl,g2.cm (g.cm hx),sx,by omega,_,rfl,by omega,bad H2 g2 λz=>by rw[z.2] at e;cases e⟩)⟩
  |true=>
   refine fF (bh ⟨g.trans g2,λr' jl=>?_,_,rfl⟩);rw[Wd,er] at jl;rcases Jf.mp jl with z|z;·exact done r' z
   ·have:r'=r:=by simpa using z
    subst this;exact⟨le,e⟩
 ·rintro σ H1 ⟨g,done,o2,rfl⟩;rw[Ya,Yv (Yc _)] at done;exact q ⟨Ri,Rj,done⟩ H1 g
end
abbrev wF(i:Int):List (Str×V):=[("word",.str "unequal parents"),("section",.int i)]
def vL:List V->List (Str×V)->Prop:=λas fs=>∃i:Int,as=[.int i]/\Sm i/\fs=wF i
theorem MA(i:V):bO "section" i [("word",V.str "unequal parents")]=([("word",.str "unequal parents"),("section",i)]:List (Str×V)):=rfl
section
variable {K:ae}{mg:aF}{fk ck c:Addr}{fe:FuncData}
abbrev pD:List Str:=["self","section"]
theorem EV:aY pD pD (ar jv):=.bM
theorem G0(F:aX K "__init__" "Unequal.__init__" jv f fd)(eo:iR K ck "__init__" fk)(eR:aG P w K mg base aR 1 fk fe dR (iS K))(ey:Binds K fe dR [])(cZ:mg "KinError"=some (.ref ck))(xa:aW K c)(na:b_ K c "word")(Rk:b_ K c "section"):
  aG P w K mg base aR 2 f fd pD (DM c vL):=by
 refine F.ok EV (λvs H Q E h=>?_) (λaD A outer s H vs Q E hr h=>?_)
 ·obtain⟨a,as,fs,rfl,_,⟨i,rfl,_⟩,_⟩:=h;rfl
 obtain⟨a,as,fs,rfl,ha,⟨i,rfl,si,rfl⟩,q⟩:=h;refine⟨_,(au (cM (tO eo eR (hr.mono (by omega)) rfl cZ ey .nil me (aa (pv 0) (aa aK (aa (Ai (om aK (om (gq hr (pv 1)) BK))) ag))))) (az (ua (pv 0) (pv 1)))),?_⟩;have tl:(Str.ofString (toString i)).length<=4000:=Yn (PyProof.Rows.int_text_len_1921 si) (by omega);refine⟨_,rfl,_,rfl,by decide,_,rfl,.inr (.inl ⟨i,rfl,si,_,rfl,tl,λz lz=>?_⟩)⟩;refine⟨a,c,_,z,rfl,ha,xa,na,by decide,Yn lz (by show 4000*2<=1000000;omega),λd hd nd=>?_⟩;refine⟨_,rfl,_,rfl,a,c,rfl,xa,Rk,.inr ⟨d,_,aw,by rw[ak nd];exact aw,nd,by show 1<1000;omega,?_⟩⟩;rw[MA];refine q d _ hd nd (λb o e n=>?_) (by rw[ak (λz=>nd z.symm)];exact aw) aw;have nb:b≠d:=bg e hd;rw[ak nb,ak n,ak nb];exact e
end
def uS(K:ae)(c:Addr):Sp:=λvs H Q E=>∃(m f w:Addr) (xs fs ys:List Int),vs=[.ref m,.ref f,.ref w]/\aq K H m (xs.map V.int)/\aq K H f (fs.map V.int)/\aq K H w (ys.map V.int)/\full xs=true/\full ys=true/\xs.length=ys.length/\fs.length=xs.length/\xs.length<=8/\
 (fs=aH xs ys->∀H',aj H H'->Q .ao H')/\∀i:Nat,i<fs.length->(aH xs ys)[i]?≠fs[i]?->(∀j,j<i->(aH xs ys)[j]?=fs[j]?)->jg H c (wF i) E
section
variable {K:ae}{mg:aF}{c:Addr}
theorem Kz(F:aX K "check_parents" "check_parents" iz f fd)(gb:HasFn P w K mg base 3 "behind" dS (my K))(tG:ue P w K mg base 2 "Unequal" c ["section"] vL)(bl:Bl mg):aG P w K mg base (gN P w) 4 f fd ie (uS K c):=by
 refine F.mV jt (λvs H Q E h=>?_) (λaD A outer s H vs Q E hr h=>?_)
 ·obtain⟨m,fa,wi,xs,fs,ys,rfl,_⟩:=h;rfl
 obtain⟨m,fa,wi,xs,fs,ys,rfl,hM,hF,hW,fx,fy,eq,fl,l8,q,x⟩:=h;refine⟨_,(au (bR 3 jt.nd (aS gb hr (aa (pv 2) (aa (pv 0) ag)))) (az (gp mw rfl (jQ rfl bl.gc (aa (bY K bl (pv 1)) ag)) (eN 4 jt.nd) (az (bp (bF dZ (bA (iT K) (pv 3) (pv 4)) (bA (iT K) (pv 1) (pv 4))) (az (Iq tG hr (by omega) rfl rfl hV (aa (pv 4) ag))) bu))))),?_⟩;have el:∀zs:List Int,(zs.map V.int).length=zs.length:=λzs=>Ya _;refine⟨_,rfl,_,rfl,wi,m,ys,xs,rfl,hW,hM,by omega,fy,fx,eq.symm,λt H1 nt g ht=>?_⟩;have al:=gW xs ys;refine⟨_,rfl,fa,_,rfl,.inr (g.cm hF),_,rfl,by rw[el];omega,by rw[el];omega,tq (lo:=0) (n:=(((fs.map V.int).length:Nat):Int).toNat)
  (λi σ H2=>H2=H1/\(∀j,j<i->(aH xs ys)[j]?=fs[j]?)/\∃o4:Option V,σ=[some (.ref m),some (.ref fa),some (.ref wi),some (.ref t),o4]) ⟨rfl,(λj hj=>absurd hj (Nat.not_lt_zero _)),none,rfl⟩ ?_ ?_⟩
 ·rintro i σ H2 hi ⟨rfl,done,o4,rfl⟩;rw[Y9,el] at hi;rw[Int.zero_add];have D6:d8 ((aH xs ys).map V.int) (i:Int)=some (.int ((aH xs ys).getD (i:Int).toNat 0)):=ke (by omega) (by omega);have at2:d8 (fs.map V.int) (i:Int)=some (.int (fs.getD (i:Int).toNat 0)):=ke (by omega) (by omega);rw[Y9] at D6 at2;have g1:(aH xs ys)[i]?=some ((aH xs ys).getD i 0):=by rw[Y5,Ys (by omega)];rfl
  have g2:fs[i]?=some (fs.getD i 0):=by rw[Y5,Ys (by omega)];rfl
  refine⟨_,rfl,_,rfl,t,_,_,_,rfl,rfl,aq.of ht,D6,_,rfl,_,rfl,fa,_,_,_,rfl,rfl,g.cm hF,at2,rfl,_,rfl,ba (λcc=>?_) (λcc=>bh ⟨rfl,λj hj=>?_,_,rfl⟩)⟩
  ·have ne:¬(aH xs ys).getD i 0=fs.getD i 0:=λz=>by
    rw[z,decide_eq_true rfl] at cc;cases cc
   exact⟨_,rfl,_,by show 1<=1000;omega,⟨(i:Int),rfl,tP (by omega) (by omega),rfl⟩,(x i hi (by rw[g1,g2];exact λz=>ne (Yl z)) done).same g⟩
  ·rcases Jc j i with z|z;·exact done j z
   ·have e:j=i:=by omega
    subst e;rw[g1,g2];by_cases e2:(aH xs ys).getD j 0=fs.getD j 0;·rw[e2]
    ·rw[decide_eq_false (λz=>e2 (V.int.inj z))] at cc;exact absurd rfl cc
 ·rintro σ H2 ⟨rfl,done,o4,rfl⟩;refine q (Wr λi=>?_) _ g;rw[Y9,el] at done;rcases Jc i fs.length with z|z;·exact(done i z).symm
  ·rw[Y4 z,Y4 (by omega)]
end
def Good3(xs fs ys:List Int):Prop:=full xs=true/\full fs=true/\full ys=true/\fs.length=xs.length/\xs.length=ys.length/\2<=xs.length/\xs.length<=8
def uh(C cL cU:Addr):Sp:=λvs H Q E=>∃(x dx m f w:Addr) (xs fs ys:List Int),vs=[.ref x,.ref m,.ref f,.ref w]/\H x=some (.ins C dx [])/\bb H m xs/\bb H f fs/\bb H w ys/\(xs.length<64/\fs.length<64/\ys.length<64)/\((∀z∈xs,Sm z)/\(∀z∈fs,Sm z)/\∀z∈ys,Sm z)/\
 (Good3 xs fs ys->fs=aH xs ys->∀H',(∀b o,H b=some o->b≠x->H' b=some o)->lW H' C x xs ys->Q .ao H')/\
 (¬Good3 xs fs ys->XP H cL "no land" E)/\
 (Good3 xs fs ys->∀i:Nat,i<fs.length->(aH xs ys)[i]?≠fs[i]?->(∀j,j<i->(aH xs ys)[j]?=fs[j]?)->jg H cU (wF i) E)
section
variable {K:ae}{mg:aF}{c cL cU:Addr}
theorem JL(F:aX K "__init__" "Land.__init__" iC f fd)(lc:mj K C)(gS:kF P w K mg base 4 "check_rows" gD (ug K cL))(lj:kF P w K mg base 4 "check_parents" ie (uS K cU))
  (fE:HasFn P w K mg base 3 "back" eh pC)(j6:HasFn P w K mg base 1 "still" jm ot)(bl:Bl mg):aG P w K mg base (gN P w) 5 f fd gE (uh C cL cU):=by
 refine F.mV yD (λvs H Q E h=>?_) (λaD A outer s H vs Q E hr h=>?_)
 ·obtain⟨x,dx,m,fa,wi,xs,fs,ys,rfl,_⟩:=h;rfl
 obtain⟨x,dx,m,fa,wi,xs,fs,ys,rfl,hx,hM,hF,hW,⟨lx,lf,ly⟩,⟨sx,sf,sy⟩,q0,xl,xu⟩:=h;refine⟨_,(au (cM (oF gS hr (by omega) hV rfl (aa (j_ (aa (pv 1) (aa (pv 2) (aa (pv 3) ag)))) ag))) (au (cM (oF lj hr (by omega) hV rfl (aa (pv 1) (aa (pv 2) (aa (pv 3) ag))))) (au (fC (pv 0) (bY K bl (pv 1)) rfl) (au (fC (pv 0) (pv 1) rfl) (au (fC (pv 0) (pv 2) rfl) (au (fC (pv 0) (pv 3) rfl) (az (fC (pv 0) (A3 (dC aK (pv 1) (dC aK (pv 2) (dC aK (pv 3) (dC aK (aS fE hr (aa (pv 1) ag)) (dC aK (aS fE hr (aa (pv 2) ag)) (dC aK (aS fE hr (aa (pv 3) ag)) (dC aK (aS j6 hr (aa (bY K bl (pv 1)) ag)) A2))))))) rfl rfl (λz=>nomatch z) (Nat.le_of_ble_eq_true rfl)) rfl)))))))),?_⟩;have el:∀zs:List Int,(zs.map V.int).length=zs.length:=λzs=>Ya _;refine⟨_,rfl,_,rfl,_,rfl,by show 3<=sizeLine;decide,λl nl=>?_⟩;have g1:=a_ nl (.lst [.ref m,.ref fa,.ref wi]);have D7:∀r∈[(m,xs),(fa,fs),(wi,ys)],r=(m,xs)\/r=(fa,fs)\/r=(wi,ys):=λr hr=>by simpa using hr
 refine⟨l,(m,xs),[(fa,fs),(wi,ys)],rfl,ai.of aw,λr hr=>?_,λgd H2 g2=>?_,λgd=>(xl λz=>gd ?_).same g1⟩
 ·rcases D7 r hr with rfl|rfl|rfl;·exact⟨aq.of (g1 _ _ hM),lx,sx⟩
  ·exact⟨aq.of (g1 _ _ hF),lf,sf⟩
  ·exact⟨aq.of (g1 _ _ hW),ly,sy⟩
 rotate_left
 ·obtain⟨z1,z2,z3,z4,z5,z6,z7⟩:=z;refine⟨z6,z7,λr hr=>?_⟩;rcases D7 r hr with rfl|rfl|rfl;·exact⟨rfl,z1⟩
  ·exact⟨z4,z2⟩
  ·exact⟨z5.symm,z3⟩
 have fx:full xs=true:=(gd.2.2 (m,xs) (by simp)).2;have ff:full fs=true:=(gd.2.2 (fa,fs) (by simp)).2;have fy:full ys=true:=(gd.2.2 (wi,ys) (by simp)).2;have D8:fs.length=xs.length:=(gd.2.2 (fa,fs) (by simp)).1;have eq:xs.length=ys.length:=(gd.2.2 (wi,ys) (by simp)).1.symm;have l2:2<=xs.length:=gd.1;have l8:xs.length<=8:=gd.2.1;have g3:Good3 xs fs ys:=⟨fx,ff,fy,D8,eq,l2,l8⟩;have ei:=g1.trans g2;refine⟨_,rfl,_,rfl,_,rfl,m,fa,wi,xs,fs,ys,rfl,aq.of (ei _ _ hM),aq.of (ei _ _ hF),aq.of (ei _ _ hW),fx,fy,eq,D8,l8,λe H3 Rl=>?_,λi hi ne lt=>(xu g3 i hi ne lt).same ei⟩;have g:=ei.trans Rl;have q:=q0 g3 e;subst e;have eQ:=n4 fx fy eq;have al:=gW xs ys;have gP:=g _ _ hx;have gQ:=g _ _ hM;have jn:=g _ _ hF;have jo:=g _ _ hW;have nm:m≠x:=λe=>by rw[e,gP] at gQ;cases gQ
 have nf:fa≠x:=λe=>by rw[e,gP] at jn;cases jn
 have nw:wi≠x:=λe=>by rw[e,gP] at jo;cases jo
 refine⟨_,rfl,m,_,rfl,.inr (aq.of gQ),_,rfl,x,C,dx,_,rfl,gP,lc.cls,lc.uR,by decide,?_⟩;refine⟨_,rfl,_,rfl,x,C,dx,_,rfl,aw,lc.cls,lc.n5,Y3 (eP (Yc 0)) (by decide),?_⟩;refine⟨_,rfl,_,rfl,x,C,dx,_,rfl,aw,lc.cls,lc.n6,Y3 (eP (eP (Yc 0))) (by decide),?_⟩;refine⟨_,rfl,_,rfl,x,C,dx,_,rfl,aw,lc.cls,lc.oN,Y3 (eP (eP (eP (Yc 0)))) (by decide),?_⟩;rw[jW,jW,jW,el,D0];have jq:upd H3 x (.ins C dx [("size",.int (xs.length:Int)),("mother",.ref m),("father",.ref fa),("wife",.ref wi)]) x=some (.ins C dx [("size",.int (xs.length:Int)),("mother",.ref m),("father",.ref fa),("wife",.ref wi)]):=aw;have o4:∀b o,H3 b=some o->b≠x->upd H3 x (.ins C dx [("size",.int (xs.length:Int)),("mother",.ref m),("father",.ref fa),("wife",.ref wi)]) b=some o:=λb o e n=>by rw[ak n];exact e
 generalize upd H3 x (.ins C dx [("size",.int (xs.length:Int)),("mother",.ref m),("father",.ref fa),("wife",.ref wi)])=H4 at jq o4⊢;have ej:=o4 _ _ gQ nm;have fU:=o4 _ _ jn nf;have fh:=o4 _ _ jo nw;intro d nd;have g5:=a_ nd (.dK []);have jr:upd H4 d (.dK []) d=some (.dK []):=aw;generalize upd H4 d (.dK [])=H5 at g5 jr⊢;refine⟨_,rfl,_,rfl,_,rfl,?_⟩;refine⟨_,rfl,m,xs,rfl,g5 _ _ ej,by omega,fx,λim H6 Ra g6 wx=>?_⟩;refine⟨_,rfl,fa,aH xs ys,rfl,g6 _ _ (g5 _ _ fU),by omega,eQ,λjf H7 Rb g7 wy=>?_⟩;refine⟨_,rfl,wi,ys,rfl,g7 _ _ (g6 _ _ (g5 _ _ fh)),by omega,fy,λiw H8 Rc g8 wz=>?_⟩;have nh:=(g6.trans g7).trans g8;refine⟨_,rfl,m,_,rfl,.inr (aq.of (nh _ _ (g5 _ _ ej))),xs.length,by rw[el];rfl,by omega,λst H9 Rf g9 cq=>?_⟩;have dw:=nh.trans g9;refine⟨dw _ _ jr,iP m fa wi im jf iw st,rfl,by show 7<=15;decide,?_⟩;have dU:d≠x:=bg jq nd |>.symm;have ni:=dw _ _ (g5 _ _ jq);refine⟨_,rfl,x,C,dx,_,rfl,by rw[ak dU.symm];exact ni,lc.cls,lc.A_,by show 4<1000;decide,?_⟩;rw[D1,D3];have key:∀{b:Addr} {o:HO},H9 b=some o->b≠d->b≠x->upd (upd H9 d (.dK (iP m fa wi im jf iw st))) x (.ins C dx [("size",.int (xs.length:Int)),("mother",.ref m),("father",.ref fa),("wife",.ref wi),("steps",.ref d)]) b=some o:=λ{b o} e n1 n2=>by
  rw[ak n2,ak n1];exact e
 have dm:∀{b:Addr} {zs:List Int},H9 b=some (.tup (zs.map V.int))->bb (upd (upd H9 d (.dK (iP m fa wi im jf iw st))) x (.ins C dx [("size",.int (xs.length:Int)),("mother",.ref m),("father",.ref fa),("wife",.ref wi),("steps",.ref d)])) b zs:=λ{b zs} e=>
  key e (λz=>by rw[z,dw _ _ jr] at e;cases e) (λz=>by rw[z,ni] at e;cases e)
 refine q _ (λb o e n=>?_) ⟨dx,d,m,fa,wi,im,jf,iw,st,aw,by rw[ak dU];exact aw,dm (dw _ _ (g5 _ _ ej)),dm (dw _ _ (g5 _ _ fU)),dm (dw _ _ (g5 _ _ fh)),dm (g9 _ _ (g8 _ _ (g7 _ _ wx))),dm (g9 _ _ (g8 _ _ wy)),dm (g9 _ _ wz),dm cq⟩;have e4:=o4 _ _ (g _ _ e) n;refine key (dw _ _ (g5 _ _ e4)) (bg e4 nd) n
end
def lg(z:Str)(c:Nat):Bool:=!(Builtin.Str.occurrences z ⟨#[c]⟩ 0 z.length 1).isEmpty
def iu(c:Nat):Bool:=decide (48<=c/\c<58)
def gR(c:Nat):Bool:=decide (48<=c/\c<56)
theorem KA(c:Nat):lg "0123456789" c=iu c:=by
 unfold lg iu;rw[StrLaws.found_one,show(Str.ofString "0123456789").cps.toList=[48,49,50,51,52,53,54,55,56,57] by decide+kernel];refine decide_eq_decide.mpr ?_;simp only[Yr,Wm,or_false];omega
theorem KC(c:Nat):lg "01234567" c=gR c:=by
 unfold lg gR;rw[StrLaws.found_one,show(Str.ofString "01234567").cps.toList=[48,49,50,51,52,53,54,55] by decide+kernel];refine decide_eq_decide.mpr ?_;simp only[Yr,Wm,or_false];omega
theorem Bc{c:Nat}(h:iu c=true):∃d,d<10/\c=48+d:=by
 have:=of_decide_eq_true h;exact⟨c-48,by omega,by omega⟩
theorem Ck{c:Nat}(h:gR c=true):iu c=true:=by
 have:=of_decide_eq_true h;exact decide_eq_true (by omega)
abbrev aL(z:Str):List Nat:=z.cps.toList
theorem cW(v:Str):v.cps.toList.length=v.length:=by simp[Str.length]
theorem Be{z:Str}(h:z.cps.toList=[]):z="":=by
 cases z with|mk a=>cases a with|mk l=>cases h;rfl
def cb(z:Str):Bool:=!(aL z).isEmpty&&(aL z).all iu
abbrev nj(c:Nat):Int:=((c-48:Nat):Int)
abbrev aA(z:Str):List Int:=(aL z).map nj
def bT(ns:List Int):Str:=⟨(ns.map λi=>48+i.toNat).toArray⟩
theorem ui:∀d:Nat,d<10->Str.ofString (toString (d:Int))=⟨#[48+d]⟩
 |0,_=>by decide+kernel
 |1,_=>by decide+kernel
 |2,_=>by decide+kernel
 |3,_=>by decide+kernel
 |4,_=>by decide+kernel
 |5,_=>by decide+kernel
 |6,_=>by decide+kernel
 |7,_=>by decide+kernel
 |8,_=>by decide+kernel
 |9,_=>by decide+kernel
 |_+10,h=>absurd h (by omega)
theorem ou{x y:Str}(h:x.cps.toList=y.cps.toList):x=y:=by
 obtain⟨⟨a⟩⟩:=x;obtain⟨⟨b⟩⟩:=y;cases h;rfl
theorem eW(x y:Str):(x++y).cps.toList=x.cps.toList++y.cps.toList:=by
 show(x.cps++y.cps).toList=_;simp
theorem zg(cs:List Nat):Str.join "" (cs.map λc=>(⟨#[c]⟩:Str))=⟨cs.toArray⟩:=by
 refine ou ?_;induction cs with
 |nil=>rfl
 |cons c r ih=>
  cases r with
  |nil=>rfl
  |cons d r=>
   have Rm:((Str.ofString "").join (⟨#[d]⟩::r.map λc=>⟨#[c]⟩)).cps.toList=d::r:=ih;rw[Wi,Wi,Str.join.eq_3 _ _ _ (by simp),eW,eW,Rm];rfl
theorem Aw{ns:List Int}(h:∀n∈ns,0<=n/\n<10):Str.join "" (ns.map λi=>Str.ofString (toString i))=bT ns:=by
 have e:(ns.map λi=>Str.ofString (toString i))=(ns.map λi=>48+i.toNat).map λc=>(⟨#[c]⟩:Str):=by
  rw[Wc];refine Wb λn hn=>?_;have b:=h n hn;obtain⟨d,rfl⟩:∃d:Nat,n=(d:Int):=⟨n.toNat,by omega⟩;rw[ui d (by omega)];rfl
 rw[e,zg];rfl
theorem uT(ns:List Int):aL (bT ns)=ns.map λi=>48+i.toNat:=rfl
theorem gj(ns:List Int):(bT ns).length=ns.length:=by rw[←cW];exact Ya _
theorem uj{ns:List Int}(h:∀n∈ns,0<=n/\n<10):aA (bT ns)=ns:=by
 rw[aA,uT,Wc];refine(Wb λn hn=>?_).trans (List.map_id _);have b:=h n hn;show((48+n.toNat-48:Nat):Int)=n;omega
theorem uk{ns:List Int}(h:∀n∈ns,0<=n/\n<10)(ne:ns≠[]):cb (bT ns)=true:=by
 unfold cb;rw[uT];refine Wt.mpr ⟨?_,Y7.mpr λc hc=>?_⟩
 ·cases ns with
  |nil=>exact absurd rfl ne
  |cons=>rfl
 ·obtain⟨n,hn,rfl⟩:=Wk.mp hc;have b:=h n hn;exact decide_eq_true (by omega)
def D9:V->V
 |.int i=>.str (Str.ofString (toString i))
 |v=>v
def um:Sp:=λvs H Q _=>∃z:Str,vs=[.str z]/\z.length<=1000/\∀H',aj H H'->Q (.bl (cb z)) H'
def uo:Sp:=λvs H Q _=>∃z:Str,vs=[.str z]/\z.length<=1000/\(∀c∈aL z,iu c=true)/\∀(p:Addr) (H':Hp),H p=none->aj H H'->bb H' p (aA z)->Q (.ref p) H'
def vc(K:ae):Sp:=λvs H Q _=>∃(p:Addr) (ns:List Int),vs=[.ref p]/\aq K H p (ns.map V.int)/\ns.length<=60/\(∀n∈ns,0<=n/\n<10)/\∀H',aj H H'->Q (.str (bT ns)) H'
section
variable {K:ae}{mg:aF}
abbrev cQ:List Str:=["text"]
theorem Fd:aY cQ cQ (ar jC):=.bM
theorem Fe(F:aX K "is_figures" "is_figures" jC f fd){t1:Tok}(tH:mg "FIGURES"=some (.str "0123456789" t1))(bl:Bl mg):aG P w K mg base aR 1 f fd cQ um:=by
 refine F.o Fd λs H hr h=>?_;obtain⟨z,rfl,lz,q⟩:=h;refine⟨_,(az (aN (lO (kX dZ (pv 0) aK) (oz (cF (pA (K:=K) rfl rfl) rfl bl.oV oA (aa (dc (x:="sign") (fr:=[]) (cl:=[]) rfl (.cY trivial trivial) (oJ (pv 0)) (λ_ _ _ _=>cT) (λ_ _ _ _=>(t4 zA (pv 0) (gZ (v:=.str "0123456789") rfl tH ⟨_,rfl⟩) (by with_unfolding_all rfl)))) ag)))))),?_⟩;have ec:(!decide (V.str z=V.str (Str.ofString "")))=!(aL z).isEmpty:=by
  congr 1
  cases ez:aL z with
  |nil=>rw[Be ez];rfl
  |cons c r=>
   refine decide_eq_false λe=>?_;rw[V.str.inj e,show aL (Str.ofString "")=[] by decide+kernel] at ez;cases ez
 refine⟨_,rfl,rfl,_,rfl,?_⟩;rw[ec];unfold cb at q;cases ez:(aL z).isEmpty with
 |true=>
  rw[ez] at q;rw[if_neg (by simp)];exact q H (aj.refl H)
 |false=>
  rw[ez] at q;rw[if_pos (by simp)];refine⟨_,rfl,z,rfl,λD hD=>nP (by omega) hD (λc=>V.bl (lg "0123456789" c)) (λi c hi H1 g1 Kt k=>?_) λH1 g1 h1=>?_⟩;·exact⟨_,rfl,_,_,rfl,rfl,k H1 (aj.refl _)⟩
  ·refine⟨D,(aL z).map iu,rfl,ai.of (by rw[h1,Wc];exact congrArg some (congrArg _ (Wb λc _=>congrArg V.bl (KA c)))),?_⟩;rw[List.all_map];exact q H1 g1
theorem E5:aY cQ cQ (ar jy):=.bM
theorem E6(F:aX K "sections_of" "sections_of" jy f fd)(bl:Bl mg):aG P w K mg base aR 1 f fd cQ uo:=by
 refine F.o E5 λs H hr h=>?_;obtain⟨z,rfl,lz,hd,q⟩:=h;refine⟨_,(az (aN (cB (yq (K:=K) rfl) rfl bl.fA ft (aa (dc (x:="sign") (fr:=[]) (cl:=[]) rfl (.cY trivial trivial) (oJ (pv 0)) (λ_ _ _ _=>cT) (λ_ _ _ _=>(cB yC rfl bl.oW oB (aa (pv 0) ag)))) ag)))),?_⟩;refine⟨_,rfl,z,rfl,λD hD=>nP (by omega) hD (λc=>V.int (nj c)) (λi c hi H1 g1 Kt k=>?_) λH1 g1 h1=>?_⟩
 ·obtain⟨d,kO,rfl⟩:=Bc (hd c (Yq (by rw[Y8];exact hi)));refine⟨_,rfl,d,kO,rfl,?_⟩;rw[show(d:Int)=nj (48+d) by show(d:Int)=((48+d-48:Nat):Int);omega];exact k H1 (aj.refl _)
 ·exact⟨D,_,rfl,ai.of h1,λt H2 nt g2 ht=>q t H2 (g1.free nt) (g1.trans g2) (by rw[bb,ht,Wc];rfl)⟩
abbrev kI:List Str:=["sections"]
theorem ER:aY kI kI (ar js):=.bM
theorem ES(F:aX K "shown_sections" "shown_sections" js f fd)(bl:Bl mg):aG P w K mg base aR 1 f fd kI (vc K):=by
 refine F.o ER λs H hr h=>?_;obtain⟨p,ns,rfl,hp,ln,hn,q⟩:=h;refine⟨_,(az (aN (gv plainAttrs_str slot_str_join type_str_join (tR (K:=K) rfl) aK (aa (dc (x:="section") (fr:=[]) (cl:=[]) rfl (.cY trivial trivial) (lP (pv 0)) (λ_ _ _ _=>cT) (λ_ _ _ _=>(cB yx rfl bl.oX oC (aa (pv 0) ag)))) ag)))),?_⟩;refine⟨rfl,_,rfl,p,rfl,⟨_,hp⟩,λD hD=>zN hp (by rw[Ya];omega) hD D9 (λi v hi H1 g1 Kt k=>?_) λH1 g1 h1=>?_⟩
 ·obtain⟨n,rfl,eL⟩:=iN hi;have b:=hn n (Yq eL);exact⟨_,rfl,n,rfl,by
   obtain⟨d,rfl⟩:∃d:Nat,n=(d:Int):=⟨n.toNat,by omega⟩;exact Y3 (Nat.log2_le_self _) (by omega),k H1 (aj.refl _)⟩
 ·rw[←Aw hn] at q;have l1:∀y∈ns.map λi=>Str.ofString (toString i),y.length=1:=λy hy=>by
   obtain⟨n,eL,rfl⟩:=Wk.mp hy;have b:=hn n eL;obtain⟨d,rfl⟩:∃d:Nat,n=(d:Int):=⟨n.toNat,by omega⟩;rw[ui d (by omega)];rfl
  refine⟨"",D,ns.map λi=>Str.ofString (toString i),rfl,rfl,ai.of (by rw[h1,Wc,Wc];rfl),?_,q H1 g1⟩;have s1:((ns.map λi=>Str.ofString (toString i)).map (·.length)).sum<=60:=by
   rw[Wb (g:=λ_=>1) l1,List.map_const',Ya];simp;omega
  have s2:(Str.ofString "").length=0:=by decide+kernel
  rw[s2];omega
end
def dG(a b c:List Int):Str:=((((("land"++" ")++bT a)++" ")++bT b)++" ")++bT c
def Dg(ns:List Int):Prop:=ns.length<=60/\∀n∈ns,0<=n/\n<10
theorem gA(x:Str):Str.empty++x=x:=ou (by rw[eW];rfl)
inductive Bf(C:Addr)(vs:List V)(H:Hp)(Q:VK):Prop
 |mk (L:Addr) (xs ys:List Int) (aP:vs=[.ref L]) (aQ:lW H C L xs ys) (bc:Dg xs) (bN:Dg (aH xs ys)) (cw:Dg ys) (fb:∀H',aj H H'->Q (.str (dG xs (aH xs ys) ys)) H'):Bf C vs H Q
def vd(C:Addr):Sp:=λvs H Q _=>Bf C vs H Q
def uq(c:Addr):Sp:=λvs H Q E=>∃(z:Str) (n:Nat),vs=[.str z,.int (n:Int)]/\z.length<=1000/\
 ((bX z 32).length=n->Nw H (.lst ((bX z 32).map V.str)) Q)/\((bX z 32).length≠n->XP H c "no text" E)
section
variable {K:ae}{mg:aF}{c:Addr}
theorem Ff:aY ["land"] ["land"] (ar jD):=.bM
theorem Fg(F:aX K "shown_land" "shown_land" jD f fd)(lc:mj K C)(lh:HasFn P w K mg base 1 "shown_sections" kI (vc K)){t1:Tok}(ko:mg "LAND"=some (.str "land" t1))(bl:Bl mg):aG P w K mg base aR 2 f fd ["land"] (vd C):=by
 refine F.o Ff λs H hr h=>?_;obtain⟨L,xs,ys,rfl,la,dx,df,dy,q⟩:=h;refine⟨_,(az (aN (ub (dX (gq hr (gZ (v:=.str "land") rfl ko ⟨_,rfl⟩)) (dX aK (dX (gq hr (aS lh hr (aa (pF K 0) ag))) (dX aK (dX (gq hr (aS lh hr (aa (pF K 0) ag))) (dX aK (dX (gq hr (aS lh hr (aa (pF K 0) ag))) uM)))))))))),?_⟩;obtain⟨dU,d,mo,fa,wi,im,jf,iw,st,h1,h2,h3,h4,h5,h6,h7,h8,h9⟩:=la;have lim:(10000:Nat)<=sizeLine:=by rw[sizeLine_eq];omega
 have a1:=gj xs;have a2:=gj (aH xs ys);have a3:=gj ys;have b1:=dx.1;have b2:=df.1;have b3:=dy.1;have l0:(Str.ofString "land").length=4:=by decide+kernel
 have l1:(Str.ofString " ").length=1:=by decide+kernel
 refine .inl ⟨_,rfl,by omega,_,rfl,by rw[gA];omega,_,rfl,by simp only[strLen_append,gA,l0,l1];omega,?_⟩;refine⟨_,rfl,L,C,dU,_,_,rfl,h1,lc.cls,lc.n5,rfl,mo,xs,rfl,aq.of h3,b1,dx.2,λH1 g1=>.inl ⟨_,rfl,by omega,_,rfl,by simp only[strLen_append,gA,l0,l1];omega,_,rfl,by simp only[strLen_append,gA,l0,l1];omega,?_⟩⟩;refine⟨_,rfl,L,C,dU,_,_,rfl,g1 _ _ h1,lc.cls,lc.n6,rfl,fa,aH xs ys,rfl,aq.of (g1 _ _ h4),b2,df.2,λH2 g2=>.inl ⟨_,rfl,by omega,_,rfl,by simp only[strLen_append,gA,l0,l1];omega,_,rfl,by simp only[strLen_append,gA,l0,l1];omega,?_⟩⟩;refine⟨_,rfl,L,C,dU,_,_,rfl,g2 _ _ (g1 _ _ h1),lc.cls,lc.oN,rfl,wi,ys,rfl,aq.of (g2 _ _ (g1 _ _ h5)),b3,dy.2,λH3 g3=>.inl ⟨_,rfl,by omega,_,rfl,by simp only[strLen_append,gA,l0,l1];omega,by simp only[strLen_append,gA,l0,l1];omega,?_⟩⟩;have z:=q H3 ((g1.trans g2).trans g3);unfold dG at z;rw[←gA (Str.ofString "land")] at z;exact z
abbrev mB:List Str:=["row","many"]
theorem yL:aY ["row","many","words"] mB (ar jO):=.bM
theorem FU(F:aX K "words_of" "words_of" jO f fd)(jU:kj P w K mg base "BadText" "no text" c)(bl:Bl mg):aG P w K mg base (gN P w) 4 f fd mB (uq c):=by
 refine F.mV yL (λvs H Q E h=>?_) (λaD A outer s H vs Q E hr h=>?_)
 ·obtain⟨z,n,rfl,_⟩:=h;rfl
 obtain⟨z,n,rfl,lz,q,x⟩:=h;refine⟨_,(au (bR 2 yL.nd (gv plainAttrs_str slot_str_split type_str_split Am (pv 0) (aa aK ag))) (au (bp (bF dZ (bY K bl (pv 2)) (pv 1)) (az (nN jU hr (by omega) rfl rfl hV (pv 0))) bu) (az (aN (pv 2))))),?_⟩;refine⟨_,rfl,rfl,z,32,rfl,rfl,by omega,λl H1 nl g1 hl=>?_⟩;refine⟨_,rfl,l,_,rfl,.inl (ai.of hl),_,rfl,rfl,_,rfl,ba (λcc=>?_) (λcc=>bh ?_)⟩
 ·refine⟨_,rfl,z,rfl,by omega,(x λe=>?_).same g1⟩;rw[Ya,e,decide_eq_true rfl] at cc;cases cc
 ·refine⟨_,rfl,q ?_ l H1 nl g1 hl⟩;rw[Ya] at cc;have Rn:=Bool.not_eq_true _▸cc;have:=of_decide_eq_true (p:=V.int ((bX z 32).length:Int)=V.int (n:Int)) (by simpa using Rn);exact Jd (V.int.inj this)
end
section
variable {K:ae}{mg:aF}{fk ck c:Addr}{fe:FuncData}
theorem Fo(F:eI K "__init__" "KinError.__init__" fj f fd)(bl:Bl mg):ji P w K mg base 1 f fd dR (iS K):=by
 refine F.DR yo (λvs H Q E h=>?_) (λaD A a0 outer s H vs Q hr h=>?_)
 ·obtain⟨a,C,wd,y,rfl,_⟩:=h;rfl
 obtain⟨a,C,wd,y,rfl,ha,xa,na,lw,ly,q⟩:=h;refine⟨_,(au (cM (Ae rfl bl.yB (aa (pv 0) (aa (zW (zX (pv 2) (λ_=>rfl)) (ub (dX (A5 (pv 1)) (dX aK (dX (A5 (pv 2)) uM)))) (pv 1)) ag)))) (az (ua (pv 0) (pv 1)))),?_⟩;have fin:∀t:Str,oG K [.ref a,.str t] H λ_ H1=>u6 K (di 0) (di 1) "word" {nx:=λ_ H'=>Q .ao H',rt:=Q} [some (.ref a),some (.str wd),some (.str y)] H1:=λt=>
  ⟨a,C,.str t,rfl,xa,ha,_,rfl,_,rfl,a,C,rfl,xa,na,.inl ⟨ha,λd hd nd=>q d hd nd⟩⟩
 have lim:(1000200:Nat)<=sizeLine:=by rw[sizeLine_eq];omega
 refine⟨_,rfl,_,rfl,_,⟨by omega,rfl⟩,?_⟩;refine ba (λc=>?_) (λc=>?_)
 ·refine⟨_,rfl,wd,rfl,by omega,wd,rfl,?_,?_⟩
  ·rw[strLen_append];show 0+wd.length<=sizeLine;omega
  refine⟨_,rfl,?_,?_⟩
  ·rw[strLen_append,strLen_append];show 0+wd.length+2<=sizeLine;omega
  refine⟨_,rfl,y,rfl,by omega,y,rfl,?_,?_,fin _⟩
  ·rw[strLen_append,strLen_append,strLen_append];show 0+wd.length+2+y.length<=sizeLine;omega
  ·rw[strLen_append,strLen_append,strLen_append];show 0+wd.length+2+y.length<=sizeLine;omega
 ·exact⟨_,rfl,fin _⟩
theorem FV(F:eI K "__init__" "BadText.__init__" fm f fd)(eo:iR K ck "__init__" fk)(eR:ji P w K mg base 1 fk fe dR (iS K))(ey:Binds K fe dR [])(cZ:mg "KinError"=some (.ref ck))(xa:aW K c)(na:b_ K c "word"):
  ji P w K mg base 2 f fd eg (kA "no text" c):=by
 refine F.DR yp (λvs H Q E h=>?_) (λaD A a0 outer s H vs Q hr h=>?_)
 ·obtain⟨a,y,rfl,_⟩:=h;rfl
 obtain⟨a,y,rfl,ha,ly,q⟩:=h;refine⟨_,(az (cM (IB (a:=a0) eo eR rfl ⟨rfl,hr.dp,hr.un,hr.gd⟩ rfl cZ ey .nil (aa (pv 0) (aa aK (aa (pv 1) ag)))))),?_⟩;exact⟨_,rfl,_,rfl,a,c,_,y,rfl,ha,xa,na,by decide,ly,λd hd nd=>q d hd nd⟩
end
def dW(z:Str)(xs fs ys:List Int):Prop:=∃A B D:Str,bX z 32=[Str.ofString "land",A,B,D]/\cb A=true/\cb B=true/\cb D=true/\xs=aA A/\fs=aA B/\ys=aA D/\Good3 xs fs ys/\fs=aH xs ys
def uU(C c:Addr):Sp:=λvs H Q E=>∃z:Str,vs=[.str z]/\z.length<64/\(∀xs fs ys,dW z xs fs ys->∀(L:Addr) (H':Hp),aj H H'->lW H' C L xs ys->Q (.ref L) H')/\((∀xs fs ys,¬dW z xs fs ys)->XP H c "no text" E)
def Ro:V->V
 |.str z=>.bl (cb z)
 |v=>v
theorem four{α:Type}{l:List α}(h:l.length=4):∃a b c d,l=[a,b,c,d]:=by
 match l,h with
 |[a,b,c,d],_=>exact⟨a,b,c,d,rfl⟩
section
variable {K:ae}{mg:aF}{bK bH bB:Addr}
theorem jG:aY ["text","word","turns","mother","father","wife"] cQ (ar jH):=.bM
theorem Fp(F:aX K "read_land" "read_land" jH f fd)(rV:kF P w K mg base 4 "words_of" mB (uq bB))(qQ:HasFn P w K mg base 1 "is_figures" cQ um)(qL:HasFn P w K mg base 1 "sections_of" cQ uo)
  (lX:uO P w K mg base 5 "Land" C gE (uh C bK bH)){t1:Tok}(ko:mg "LAND"=some (.str "land" t1))(jU:kj P w K mg base "BadText" "no text" bB)(rW:oq P w K mg base "BadText" "no text" bB)
  (nR:mg "BadLand"=some (.ref bK))(iH:aW K bK)(nS:mg "Unequal"=some (.ref bH))(iI:aW K bH)
  (Rp:PySem.W.mroIn K bK (.ref bK)=some true)(Rq:PySem.W.mroIn K bK (.ref bH)=some false)(Rr:PySem.W.mroIn K bH (.ref bH)=some true)(Rt:PySem.W.mroIn K bH (.ref bK)=some false)(bl:Bl mg):
  aG P w K mg base (Qu P w) 7 f fd cQ (uU C bB):=by
 refine F.Q0 jG (λvs H Q E h=>?_) (λaD A outer s H vs Q E hr hf h=>?_)
 ·obtain⟨z,rfl,_⟩:=h;rfl
 obtain⟨z,rfl,lz,q,x⟩:=h;refine⟨_,(au (uE (oF rV hr (by omega) hV rfl (aa (pv 0) (aa aE ag))) (JC (K:=K) rfl rfl (lJ (eN 1 jG.nd) (lJ (eN 2 jG.nd) AB)))) (au (bp (PW.pt (pw_or (bF dZ (pv 1) (gZ (v:=.str "land") rfl ko ⟨_,rfl⟩)) (pw_or1 (gm (dY (cF (pA (K:=K) rfl rfl) rfl bl.oV oA (aa (dc (x:="turn") (fr:=[]) (cl:=[]) rfl (.cY trivial trivial) (gY (K:=K) rfl (pv 2)) (λ_ _ _ _=>cT) (λ_ _ _ _=>(mf qQ hr (by omega) rfl (aa (pv 0) ag)))) ag))))))) (az (nN jU hr (by omega) rfl rfl hV aK)) bu) (au (uE (dc (x:="turn") (fr:=[]) (cl:=[]) rfl (.cY trivial trivial) (gY (K:=K) rfl (pv 2)) (λ_ _ _ _=>cT) (λ_ _ _ _=>(mf qL hr (by omega) rfl (aa (pv 0) ag)))) (Kn (K:=K) (n:=3) rfl rfl (lJ (eN 3 jG.nd) (lJ (eN 4 jG.nd) (lJ (eN 5 jG.nd) AB))))) (az (Kk (B1:=bK) (B2:=bH) ⟨rfl,rfl⟩ rfl nR iH rfl nS iI rW hr (by omega) rfl Ms hf (by decide) (λpn xe E hx ow=>(az (aN (Lv lX hr (by omega) hx rfl (aa (pv 3) (aa (pv 4) (aa (pv 5) ag)))))))))))),?_⟩;refine⟨_,rfl,z,4,rfl,by omega,λe4 l H1 nl g1 hl=>?_,λne=>x λxs fs ys h=>?_⟩
 ·obtain⟨w0,A',B',D',e⟩:=four e4;rw[e] at hl;have wl:∀y∈[w0,A',B',D'],y.length<64:=λy hy=>by
   rw[←e] at hy;have:=BN hy;omega
  refine⟨l,.str w0,[.str A',.str B',.str D'],rfl,ai.of hl,λtl H2 nt g2 ht=>⟨_,_,rfl,_,_,rfl,rfl,?_⟩⟩;have bad:∀H5,aj H H5->(∀xs fs ys,¬dW z xs fs ys)->A1 bB "no text" (λ_=>E) (tC (V.str (Str.ofString "no land's text"))) {nx:=λ_ H'=>Q .ao H',rt:=Q} [some (.str z),some (.str w0),some (.ref tl),none,none,none] H5:=λH5 g5 no=>⟨_,rfl,by decide,(x no).same g5⟩;refine⟨_,rfl,rfl,_,rfl,ba (λcc=>bP ?_) (λcc=>?_)⟩
  ·have hw:w0≠Str.ofString "land":=λe=>by
    rw[e,decide_eq_true rfl] at cc;cases cc
   refine bad H2 (g1.trans g2) λxs fs ys ⟨A,B,D,h,_⟩=>hw ?_;rw[e] at h;exact(W0 h).1
  have hw:w0=Str.ofString "land":=by
   by_cases e:V.str w0=V.str (Str.ofString "land");·exact V.str.inj e
   ·rw[decide_eq_false e] at cc;exact absurd rfl cc
  subst hw;refine⟨_,rfl,tl,rfl,⟨_,ai.of ht⟩,λD hD=>GN (ai.of ht) (by show 3<=1000;decide) hD Ro (λi v hi H3 g3 Kt k=>?_) λH3 g3 h3=>?_⟩
  ·obtain⟨y,hy,rfl⟩:∃y∈[Str.ofString "land",A',B',D'],v=V.str y:=by
    have:=Yq hi;simp only[Yr,Wm,or_false] at this;rcases this with rfl|rfl|rfl;·exact⟨A',by simp,rfl⟩
    ·exact⟨B',by simp,rfl⟩
    ·exact⟨D',by simp,rfl⟩
   have:=wl y hy;exact⟨_,rfl,y,rfl,by omega,λH4 g4=>k H4 g4⟩
  refine⟨D,[cb A',cb B',cb D'],rfl,ai.of h3,_,rfl,ba (λcc=>?_) (λcc=>bh ?_)⟩
  ·refine bad H3 ((g1.trans g2).trans g3) λxs fs ys zq=>?_;obtain⟨A,B,D,h,h1,h2,h4,_⟩:=zq;rw[e] at h;cases h;rw[h1,h2,h4] at cc;cases cc
  have fg:cb A'=true/\cb B'=true/\cb D'=true:=by
   cases h1:cb A'<;>cases h2:cb B'<;>cases h4:cb D'<;>simp[h1,h2,h4] at cc⊢
  have dg:∀y,cb y=true->∀c∈aL y,iu c=true:=λy h c hc=>Y7.mp (Wt.mp h).2 c hc;have hT:H3 tl=some (.lst [.str A',.str B',.str D']):=g3 _ _ ht;refine⟨_,rfl,tl,rfl,⟨_,ai.of hT⟩,λD2 nq=>nI (ai.of hT) (by show 3<=1000;decide) nq (λ_=>true) (λi y H4=>∃a,y=.ref a/\a≠D2/\bb H4 a (aA ([A',B',D'].getD i A'))) (λi y H4 H5 br ⟨a,e1,e2,e3⟩=>⟨a,e1,e2,br _ _ e3 e2⟩) (λi v hi H4 g4 ⟨yz,hz⟩ Kt Kf kt kf=>d7 (bP ?_)) λus H4 g4 h4 pr=>?_⟩
  ·obtain⟨ev,fv⟩:v=V.str ([A',B',D'].getD i A')/\cb ([A',B',D'].getD i A')=true/\([A',B',D'].getD i A').length<64:=by
    match i,hi with
    |0,hi=>exact⟨(Yl hi).symm,fg.1,wl _ (by simp)⟩
    |1,hi=>exact⟨(Yl hi).symm,fg.2.1,wl _ (by simp)⟩
    |2,hi=>exact⟨(Yl hi).symm,fg.2.2,wl _ (by simp)⟩
   subst ev;exact⟨_,rfl,_,rfl,by omega,dg _ fv.1,λp H5 np g5 hp=>kt _ _ rfl g5 ⟨p,rfl,(λz=>by rw[z,hz] at np;cases np),hp⟩⟩
  rw[lu] at pr;obtain⟨a1,a2,a3,rfl,t1,t2,t3⟩:∃a1 a2 a3,us=[V.ref a1,V.ref a2,V.ref a3]/\bb H4 a1 (aA A')/\bb H4 a2 (aA B')/\bb H4 a3 (aA D'):=by
   cases pr with
   |cons p1 pr=>
    cases pr with
    |cons p2 pr=>
     cases pr with
     |cons p3 pr=>
      cases pr;obtain⟨a1,rfl,_,z1⟩:=p1;obtain⟨a2,rfl,_,z2⟩:=p2;obtain⟨a3,rfl,_,z3⟩:=p3;exact⟨a1,a2,a3,rfl,z1,z2,z3⟩
  refine⟨D2,_,rfl,ai.of h4,rfl,_,_,rfl,_,_,rfl,_,_,rfl,rfl,?_⟩;have gH:aj H H4:=((g1.trans g2).trans g3).trans g4;refine⟨_,rfl,_,rfl,_,rfl,λxo dx nx wB nd=>?_⟩;have wC:upd H4 dx (.own xo) xo=none:=by rw[ak (λz=>nd z.symm)];exact nx
  have g5:aj H4 (upd (upd H4 dx (.own xo)) xo (.ins C dx [])):=(a_ wB _).trans (a_ wC _);have sm:∀y,cb y=true->∀z∈aA y,Sm z:=λy h z hz=>by
   obtain⟨c,hc,rfl⟩:=Wk.mp hz;have:=of_decide_eq_true (dg y h c hc);have b:((c-48:Nat):Int)<10:=by omega
   exact tP (n:=((c-48:Nat):Int)) (by omega) (by omega)
  have ln:∀y,y∈[Str.ofString "land",A',B',D']->(aA y).length<64:=λy hy=>by
   rw[Ya,cW];exact wl y hy
  refine⟨xo,dx,a1,a2,a3,aA A',aA B',aA D',rfl,aw,g5 _ _ t1,g5 _ _ t2,g5 _ _ t3,⟨ln _ (by simp),ln _ (by simp),ln _ (by simp)⟩,⟨sm _ fg.1,sm _ fg.2.1,sm _ fg.2.2⟩,λgd ef H5 k5 la=>⟨rfl,?_⟩,λgd=>?_,λgd i hi ne' lt=>?_⟩;·exact q _ _ _ ⟨A',B',D',e,fg.1,fg.2.1,fg.2.2,rfl,rfl,rfl,gd,ef⟩ xo H5 (λb o z=>k5 b o (g5 _ _ (gH _ _ z)) (bg (gH _ _ z) nx)) la
  ·intro a' d Ru ha hd g h1 h2;refine⟨bK,d,rfl,rfl,iH,⟨true,false,Rp,Rq,rfl⟩,λa H' f0 k=>(x ?_).same λb o z=>k b o (bg z f0) (g _ _ (g5 _ _ (gH _ _ z)))⟩;rintro xs fs ys ⟨A,B,D,h,_,_,_,rfl,rfl,rfl,D_,_⟩;rw[e] at h;cases h;exact gd D_
  ·intro a' d Ru ha hd g h1 h2;refine⟨bH,d,rfl,rfl,iI,⟨false,true,Rt,Rr,rfl⟩,λa H' f0 k=>(x ?_).same λb o z=>k b o (bg z f0) (g _ _ (g5 _ _ (gH _ _ z)))⟩;rintro xs fs ys ⟨A,B,D,h,_,_,_,rfl,rfl,rfl,D_,ef⟩;rw[e] at h;cases h;rw[ef] at ne';exact ne' rfl
 ·obtain⟨A,B,D,e,_⟩:=h;rw[e] at ne;exact ne rfl
end
def hJ(C:Addr):Sp:=λvs H Q _=>∃z:Str,vs=[.str z]/\z.length<64/\
 (∀xs fs ys,dW z xs fs ys->∀(p a b c:Addr) (H':Hp),aj H H'->H' p=some (.tup [.str "told",.int (xs.length:Int),.ref a,.ref b,.ref c])->bb H' a xs->bb H' b fs->bb H' c ys->Q (.ref p) H')/\
 ((∀xs fs ys,¬dW z xs fs ys)->∀(p:Addr) (H':Hp),aj H H'->H' p=some (.tup [.str "no text",.bl true])->Q (.ref p) H')
def cu(z:Str):Prop:=aL z≠[]/\z.length<=8/\(∀c∈aL z,gR c=true)/\full (aA z)=true
def ve:Sp:=λvs H Q _=>∃z:Str,vs=[.str z]/\z.length<64/\(cu z->∀(p:Addr) (H':Hp),H p=none->aj H H'->bb H' p (aA z)->Q (.ref p) H')/\(¬cu z->∀H',aj H H'->Q .ao H')
section
variable {K:ae}{mg:aF}{bU bB:Addr}
abbrev fH:List Str:=["_law_text"]
theorem qR:aY ["_law_text","_law_land","e"] fH (ar jJ):=.bM
theorem JM(F:aX K "_law_asked" "_law_asked" jJ f fd)(lc:mj K C)(rp:oS false P w K mg base 7 "read_land" cQ (uU C bB))(cZ:mg "KinError"=some (.ref bU))(nJ:aW K bU)
  (lI:mg "BadText"=some (.ref bB))(fq:aW K bB)(na:b_ K bB "word")(mr:PySem.W.mroIn K bB (.ref bU)=some true)(bl:Bl mg):aG P w K mg base aR 9 f fd fH (hJ C):=by
 refine F.o qR @λaD A outer vs Q E s H hr h=>?_;obtain⟨z,rfl,lz,q,x⟩:=h;refine⟨_,(az (Lh (B:=bU) (i:=2) ⟨rfl,rfl⟩ qR.nd rfl rfl rfl cZ nJ (λpn xe E hx ow=>(au (bR 1 qR.nd (oF rp hr (by omega) hx rfl (aa (pv 0) ag))) (az (aN (gf (aa aK (aa (pF K 1) (aa (pF K 1) (aa (pF K 1) (aa (pF K 1) ag)))))))))) (λ_=>(az (aN (gf (aa (Jt (K:=K) rfl (pv 2)) (aa (cF (Js (K:=K) rfl) rfl bl.yA yt (aa (pv 2) (aa (gZ (v:=.ref bB) rfl lI rfl) ag))) ag)))))))),?_⟩;refine⟨_,rfl,z,rfl,lz,λxs fs ys ok L H1 g1 la=>?_,λno=>?_⟩
 ·obtain⟨dU,d,mo,fa,wi,im,jf,iw,st,h1,h2,h3,h4,h5,h6,h7,h8,h9⟩:=la;have ef:fs=aH xs ys:=by
   obtain⟨_,_,_,_,_,_,_,_,_,_,_,e⟩:=ok;exact e
  refine⟨_,rfl,L,C,dU,_,_,rfl,h1,lc.cls,lc.uR,rfl,_,rfl,L,C,dU,_,_,rfl,h1,lc.cls,lc.n5,rfl,_,rfl,L,C,dU,_,_,rfl,h1,lc.cls,lc.n6,rfl,_,rfl,L,C,dU,_,_,rfl,h1,lc.cls,lc.oN,rfl,by show 5<=sizeLine;decide,λp H2 np g2 hp=>?_⟩;exact q xs fs ys ok p mo fa wi H2 (g1.trans g2) hp (g2 _ _ h3) (by rw[ef];exact g2 _ _ h4) (g2 _ _ h5)
 ·intro a' d H1 ha hd g h1 h2;refine⟨bB,d,rfl,rfl,fq,mr,λz' h3=>?_⟩;refine⟨_,rfl,z',bB,d,_,_,rfl,h3,h2,fq,na,rfl,?_⟩;refine⟨_,rfl,z',bB,d,_,_,_,true,rfl,rfl,h3,h2,fq,Jr _,?_⟩;exact⟨by show 2<=sizeLine;decide,λp H4 np g4 hp=>x no p H4 (g.trans g4) hp⟩
abbrev mC:List Str:=["_law_word"]
theorem yr:aY ["_law_word","_law_turn_here"] mC (ar jz):=.bM
theorem G1(F:aX K "_law_turn_in" "_law_turn_in" jz f fd)(bl:Bl mg):aG P w K mg base aR 1 f fd mC ve:=by
 refine F.o yr λs H hr h=>?_;obtain⟨z,rfl,lz,q,x⟩:=h;have hu:=hr.j9;refine⟨_,(au (bp (PW.pt (pw_or (bF eX (pv 0) aK) (pw_or (bF uY (cF (nC) rfl bl.kz kg (aa (pv 0) ag)) aE) (pw_or1 (gm (dY (cF (pA (K:=K) rfl rfl) rfl bl.oV oA (aa (dc (x:="_law_sign") (fr:=[]) (cl:=[]) rfl (.cY trivial trivial) (oJ (pv 0)) (λ_ _ _ _=>cT) (λ_ _ _ _=>(t4 zA (pv 0) aK (by with_unfolding_all rfl)))) ag)))))))) (az (aN lM)) bu) (au (bR 1 yr.nd (cB (yq (K:=K) rfl) rfl bl.fA ft (aa (dc (x:="_law_sign") (fr:=[]) (cl:=[]) rfl (.cY trivial trivial) (oJ (pv 0)) (λ_ _ _ _=>cT) (λ_ _ _ _=>(cB yC rfl bl.oW oB (aa (pv 0) ag)))) ag))) (au (bp (bF (By hu) (cF (Jx (K:=K) rfl) rfl bl.Ag zK (aa (pv 1) ag)) (cB (E1 rfl) rfl bl.kh jZ (aa (cB Fl rfl bl.gc nY (aa (bY K bl (pv 1)) ag)) ag))) (az (aN lM)) bu) (az (aN (pv 1)))))),?_⟩;have lim:(10000:Nat)<=sizeLine:=by rw[sizeLine_eq];omega
 have zl:=cW z;refine⟨_,rfl,rfl,_,rfl,ba (λcc=>bP ?_) (λcc=>?_)⟩
 ·have e:=V.str.inj (of_decide_eq_true cc);exact x (λh=>h.1 (by rw[e];decide+kernel)) H (aj.refl H)
 have ne:aL z≠[]:=λe=>cc (decide_eq_true (by rw[Be e]));refine⟨_,rfl,z,rfl,by omega,_,_,rfl,rfl,_,rfl,ba (λcc=>bP ?_) (λcc=>?_)⟩
 ·have c8:(8:Int)<(z.length:Int):=of_decide_eq_true cc;exact x (λh=>by have:=h.2.1;omega) H (aj.refl H)
 have l8:z.length<=8:=by
  have:¬((8:Int)<(z.length:Int)):=λh=>cc (decide_eq_true h);omega
 refine⟨_,rfl,z,rfl,λD hD=>nP (by omega) hD (λc=>V.bl (lg "01234567" c)) (λi c hi H1 g1 Kt k=>?_) λH1 g1 h1=>?_⟩;·exact⟨_,rfl,_,_,rfl,rfl,k H1 (aj.refl _)⟩
 refine⟨D,(aL z).map gR,rfl,ai.of (by rw[h1,Wc];exact congrArg some (congrArg _ (Wb λc _=>congrArg V.bl (KC c)))),_,rfl,ba (λcc=>?_) (λcc=>bh ?_)⟩
 ·refine x (λh=>?_) H1 g1;have al:(aL z).all (id∘gR)=true:=Y7.mpr h.2.2.1;rw[List.all_map,al] at cc;cases cc
 have ho:∀c∈aL z,gR c=true:=by
  have:((aL z).map gR).all id=true:=by
   cases e:((aL z).map gR).all id
   ·rw[e] at cc;exact absurd rfl cc
   ·rfl
  rw[List.all_map] at this;exact Y7.mp this
 refine⟨_,rfl,z,rfl,λD2 nq=>nP (by omega) nq (λc=>V.int (nj c)) (λi c hi H2 g2 Kt k=>?_) λH2 g2 h2=>?_⟩
 ·obtain⟨d,kO,rfl⟩:=Bc (Ck (ho c (Yq (by rw[Y8];exact hi))));refine⟨_,rfl,d,kO,rfl,?_⟩;rw[show(d:Int)=nj (48+d) by show(d:Int)=((48+d-48:Nat):Int);omega];exact k H2 (aj.refl _)
 refine⟨D2,_,rfl,ai.of h2,λt H3 nt g3 ht=>?_⟩;have hT:bb H3 t (aA z):=by rw[bb,ht,Wc];rfl
 have gH:=(g1.trans g2).trans g3;refine Iw (i:=1) rfl (.inr (aq.of hT)) (by rw[Ya,zl];omega) λH4 g4=>⟨_,rfl,ba (λcc=>?_) (λcc=>bh ?_)⟩
 ·refine x (λh=>?_) H4 (gH.trans g4);rw[if_pos rfl,h.2.2.2] at cc;cases cc
 ·have fu:full (aA z)=true:=by
   cases e:full (aA z)
   ·rw[if_pos rfl,e] at cc;exact absurd rfl cc
   ·rfl
  exact⟨_,rfl,q ⟨ne,l8,ho,fu⟩ t H4 (((g1.trans g2).free nt)) (gH.trans g4) (g4 _ _ hT)⟩
end
theorem ur{y:Str}(h:cu y):cb y=true:=by
 unfold cb;refine Wt.mpr ⟨?_,Y7.mpr λc hc=>Ck (h.2.2.1 c hc)⟩;cases e:aL y with
 |nil=>exact absurd e h.1
 |cons=>rfl
theorem uu{y:Str}(h:cb y=true)(fu:full (aA y)=true)(l8:(aA y).length<=8):cu y:=by
 obtain⟨h1,h2⟩:=Wt.mp h;have zl:(aL y).length=y.length:=cW y;rw[Ya] at l8;refine⟨λe=>?_,by omega,λc hc=>?_,fu⟩
 ·rw[e] at h1;cases h1
 ·have d:=of_decide_eq_true (Y7.mp h2 c hc);have b:=(lL fu (Wk.mpr ⟨c,hc,rfl⟩)).2;rw[Ya] at b;have b':((c-48:Nat):Int)<((aL y).length:Int):=b;exact decide_eq_true (by omega)
def nr(A B D:Str):Prop:=cu A/\cu B/\cu D/\2<=(aA A).length/\(aA B).length=(aA A).length/\(aA D).length=(aA A).length/\aH (aA A) (aA D)=aA B
theorem MB{z A B D:Str}(e:bX z 32=[Str.ofString "land",A,B,D])(h:nr A B D):dW z (aA A) (aA B) (aA D):=by
 obtain⟨h1,h2,h3,h4,h5,h6,h7⟩:=h;have l8:=h1.2.1;have zl:(aL A).length=A.length:=cW A;have la:(aA A).length=(aL A).length:=Ya _;exact⟨A,B,D,e,ur h1,ur h2,ur h3,rfl,rfl,rfl,⟨h1.2.2.2,h2.2.2.2,h3.2.2.2,h5,h6.symm,h4,by omega⟩,h7.symm⟩
theorem MC{z:Str}{xs fs ys:List Int}(h:dW z xs fs ys):∃A B D,bX z 32=[Str.ofString "land",A,B,D]/\nr A B D/\xs=aA A/\fs=aA B/\ys=aA D:=by
 obtain⟨A,B,D,e,f1,f2,f3,rfl,rfl,rfl,⟨g1,g2,g3,g4,g5,g6,g7⟩,ef⟩:=h;exact⟨A,B,D,e,⟨uu f1 g1 g7,uu f2 g2 (by omega),uu f3 g3 (by omega),g6,g4,g5.symm,ef.symm⟩,rfl,rfl,rfl⟩
section
variable {K:ae}{mg:aF}
theorem qG:aY ["_law_text","_law_words","_law_rows"] fH (ar ju):=.bM
theorem FW(F:aX K "_law_land_due" "_law_land_due" ju f fd)(qM:HasFn P w K mg base 1 "_law_turn_in" mC ve)(jM:HasFn P w K mg base 1 "_law_after" i4 (o5 K))(bl:Bl mg):aG P w K mg base aR 3 f fd fH (hJ C):=by
 refine F.o qG @λaD A outer vs Q E s H hr h=>?_;obtain⟨z,rfl,lz,q,x⟩:=h;have hu:=hr.j9;refine⟨_,(au (bR 1 qG.nd (gv plainAttrs_str slot_str_split type_str_split Am (pv 0) (aa aK ag))) (au (bp (PW.pt (pw_or (bF dZ (bY K bl (pv 1)) aE) (pw_or1 (bF dZ (bA (iL K) (pv 1) aE) aK)))) (az (aN (gf (aa aK (aa eE ag))))) bu) (au (GF (i:=2) (x:="_law_word") (fr:=[]) (cl:=[]) rfl qG.nd rfl (Or.inl rfl) (.cY trivial trivial) (gY (K:=K) rfl (eB (tQ (K:=K) rfl) (pv 1) (dD aE) fw)) (λ_ _ _ _=>cT) (λ_ _ _ _=>(mf qM hr (by omega) rfl (aa (pv 0) ag)))) (au (bp (AL (LH (L6 hr)) lM (pv 2) (by with_unfolding_all rfl)) (az (aN (gf (aa aK (aa eE ag))))) bu) (au (bp (PW.pt (pw_or (bF l_ (bY K bl (bA (iL K) (pv 2) aE)) aE) (pw_or1 (bF (By hu) (dc (x:="_law_row_here") (fr:=[]) (cl:=[]) rfl (.cY trivial trivial) (gY (K:=K) rfl (pv 2)) (λ_ _ _ _=>cT) (λ_ _ _ _=>(bY K bl (pv 0)))) (aJ Kp aE (oo (aa (bY K bl (bA (iL K) (pv 2) aE)) ag))))))) (az (aN (gf (aa aK (aa eE ag))))) bu) (au (bp (bF (Ki (K:=K) rfl hu) (aS jM hr (aa (bA (iL K) (pv 2) aE) (aa (bA (iL K) (pv 2) aE) ag))) (bA (iL K) (pv 2) aE)) (az (aN (gf (aa aK (aa eE ag))))) bu) (az (aN (gf (aa aK (aa (bY K bl (bA (iL K) (pv 2) aE)) (aa (bA (iL K) (pv 2) aE) (aa (bA (iL K) (pv 2) aE) (aa (bA (iL K) (pv 2) aE) ag)))))))))))))),?_⟩;have lim:(10000:Nat)<=sizeLine:=by rw[sizeLine_eq];omega
 have sn:=A6 z 32;refine⟨_,rfl,rfl,z,32,rfl,rfl,by omega,λl H1 nl g1 hl=>?_⟩;have nt:∀H5,aj H H5->(∀xs fs ys,¬dW z xs fs ys)->(2<=sizeLine/\Nw H5 (.tup [.str (Str.ofString "no text"),.bl true]) Q):=λH5 g5 no=>⟨by omega,λp H6 np g6 hp=>x no p H6 (g5.trans g6) hp⟩;refine⟨_,rfl,l,_,rfl,.inl (ai.of hl),rfl,_,rfl,ba (λcc=>bP ?_) (λcc=>?_)⟩
 ·refine nt H1 g1 λxs fs ys h=>?_;obtain⟨A,B,D,e,_⟩:=h;rw[Ya,e] at cc;cases cc
 have e4:(bX z 32).length=4:=by
  rw[Ya] at cc;by_cases e:V.int ((bX z 32).length:Int)=V.int 4;·exact Jd (V.int.inj e)
  ·rw[decide_eq_false e] at cc;exact absurd rfl cc
 obtain⟨w0,A',B',D',e⟩:=four e4;rw[e] at hl;have wl:∀y∈[w0,A',B',D'],y.length<64:=λy hy=>by
  rw[←e] at hy;have:=BN hy;omega
 refine⟨_,rfl,l,_,_,_,rfl,rfl,ai.of hl,bZ (j:=0) rfl,rfl,_,rfl,ba (λcc=>?_) (λcc=>bh ?_)⟩
 ·refine nt H1 g1 λxs fs ys h=>?_;obtain⟨A,B,D,h,_⟩:=h;rw[e] at h;rw[(W0 h).1,decide_eq_true rfl] at cc;cases cc
 have hw:w0=Str.ofString "land":=by
  by_cases e:V.str w0=V.str (Str.ofString "land");·exact V.str.inj e
  ·rw[decide_eq_false e] at cc;exact absurd rfl cc
 subst hw;have tell:∀A B D:Str,nr A B D->bX z 32=[Str.ofString "land",A,B,D]->nr A' B' D':=λA B D h h2=>by
  rw[e] at h2;cases h2;exact h
 have pE:¬nr A' B' D'->∀xs fs ys,¬dW z xs fs ys:=λn xs fs ys h=>by
  obtain⟨A,B,D,h1,h2,_⟩:=MC h;exact n (tell A B D h2 h1)
 refine⟨_,rfl,_,rfl,l,_,rfl,ai.of hl,λsl H2 UQ g2 qa=>?_⟩;have qa:H2 sl=some (.lst [.str A',.str B',.str D']):=qa;refine⟨sl,rfl,⟨_,ai.of qa⟩,λD hD=>nI (ai.of qa) (by show 3<=1000;decide) hD (λ_=>true) (λi y H4=>(cu ([A',B',D'].getD i A')->∃a,y=.ref a/\a≠D/\bb H4 a (aA ([A',B',D'].getD i A')))/\(¬cu ([A',B',D'].getD i A')->y=.ao)) (λi y H4 H5 br ⟨p1,p2⟩=>⟨λh=>let⟨a,e1,e2,e3⟩:=p1 h;⟨a,e1,e2,br _ _ e3 e2⟩,p2⟩) (λi v hi H4 g4 ⟨yz,hz⟩ Kt Kf kt kf=>d7 (bP ?_)) λus H3 g3 h3 pr=>?_⟩
 ·obtain⟨ev,fv⟩:v=V.str ([A',B',D'].getD i A')/\([A',B',D'].getD i A').length<64:=by
   match i,hi with
   |0,hi=>exact⟨(Yl hi).symm,wl _ (by simp)⟩
   |1,hi=>exact⟨(Yl hi).symm,wl _ (by simp)⟩
   |2,hi=>exact⟨(Yl hi).symm,wl _ (by simp)⟩
  subst ev;exact⟨_,rfl,_,rfl,fv,λti p H5 np g5 hp=>kt _ _ rfl g5 ⟨λ_=>⟨p,rfl,(λz=>by rw[z,hz] at np;cases np),hp⟩,λn=>absurd ti n⟩,λRv H5 g5=>kt _ _ rfl g5 ⟨λti=>absurd ti Rv,λ_=>rfl⟩⟩
 rw[lu] at pr;obtain⟨y1,y2,y3,rfl,t1,t2,t3⟩:∃y1 y2 y3,us=[y1,y2,y3]/\((cu A'->∃a,y1=.ref a/\a≠D/\bb H3 a (aA A'))/\(¬cu A'->y1=.ao))/\((cu B'->∃a,y2=.ref a/\a≠D/\bb H3 a (aA B'))/\(¬cu B'->y2=.ao))/\((cu D'->∃a,y3=.ref a/\a≠D/\bb H3 a (aA D'))/\(¬cu D'->y3=.ao)):=by
  cases pr with
  |cons p1 pr=>
   cases pr with
   |cons p2 pr=>
    cases pr with
    |cons p3 pr=>
     cases pr;exact⟨_,_,_,rfl,p1,p2,p3⟩
 have gH:aj H H3:=(g1.trans g2).trans g3;have qb:∀{y:V} {W:Str},((cu W->∃a,y=.ref a/\a≠D/\bb H3 a (aA W))/\(¬cu W->y=.ao))->nT H3 y:=λh=>by
  rename_i W
  by_cases c:cu W
  ·obtain⟨a,e1,_,e3⟩:=h.1 c;exact .inr ⟨a,_,e1,e3⟩
  ·exact .inl (h.2 c)
 refine⟨_,rfl,D,_,rfl,rfl,h3,λv hv=>?_,_,rfl,ba (λcc=>?_) (λcc=>bh ?_)⟩
 ·simp only[Yr,Wm,or_false] at hv;rcases hv with rfl|rfl|rfl;·exact qb t1
  ·exact qb t2
  ·exact qb t3
 ·refine nt H3 gH (pE λok=>?_);have:=of_decide_eq_true cc;obtain⟨_,e1,_,_⟩:=t1.1 ok.1;obtain⟨_,e2,_,_⟩:=t2.1 ok.2.1;obtain⟨_,e3,_,_⟩:=t3.1 ok.2.2.1;rw[e1,e2,e3] at this;simp at this
 have ao:¬V.ao∈[y1,y2,y3]:=λh=>cc (decide_eq_true h);have i1:cu A':=Classical.byContradiction λn=>ao (by rw[t1.2 n];simp);have i2:cu B':=Classical.byContradiction λn=>ao (by rw[t2.2 n];simp);have i3:cu D':=Classical.byContradiction λn=>ao (by rw[t3.2 n];simp);obtain⟨a1,rfl,d1,s1⟩:=t1.1 i1;obtain⟨a2,rfl,d2,s2⟩:=t2.1 i2;obtain⟨a3,rfl,d3,s3⟩:=t3.1 i3;clear t1 t2 t3 qb ao pr;have lA:((aA A').map V.int).length=(aA A').length:=Ya _;have z1:(aL A').length=A'.length:=cW A';have z3:(aL D').length=D'.length:=cW D';have UR:(aA A').length<=8:=by rw[Ya,z1];exact i1.2.1
 have US:(aA D').length<=8:=by rw[Ya,z3];exact i3.2.1
 refine⟨_,rfl,D,_,_,_,rfl,rfl,ai.of h3,bZ (j:=0) rfl,a1,_,rfl,.inr (aq.of s1),_,_,rfl,rfl,_,rfl,ba (λcc=>bP ?_) (λcc=>?_)⟩
 ·have c2:(((aA A').map V.int).length:Int)<2:=of_decide_eq_true cc;exact nt H3 gH (pE λok=>by have:=ok.2.2.2.1;omega)
 have l2:2<=(aA A').length:=by
  have:¬((((aA A').map V.int).length:Int)<2):=λh=>cc (decide_eq_true h);omega
 refine⟨_,rfl,D,rfl,⟨_,ai.of h3⟩,λD2 nq=>nI (ai.of h3) (by show 3<=1000;decide) nq (λ_=>true) (λi y _=>y=.int (([aA A',aA B',aA D'].getD i []).length:Int)) (λ_ _ _ _ _ h=>h) (λi v hi H4 g4 _ Kt Kf kt kf=>d7 (bP ?_)) λus H4 g4 h4 pr=>?_⟩
 ·match i,hi with
  |0,hi=>
   cases hi;exact⟨_,rfl,a1,_,rfl,.inr (aq.of (g4 _ _ s1)),kt _ _ rfl (aj.refl _) (by rw[Ya];rfl)⟩
  |1,hi=>
   cases hi;exact⟨_,rfl,a2,_,rfl,.inr (aq.of (g4 _ _ s2)),kt _ _ rfl (aj.refl _) (by rw[Ya];rfl)⟩
  |2,hi=>
   cases hi;exact⟨_,rfl,a3,_,rfl,.inr (aq.of (g4 _ _ s3)),kt _ _ rfl (aj.refl _) (by rw[Ya];rfl)⟩
 rw[lu] at pr;obtain rfl:us=[((aA A').length:Int),((aA B').length:Int),((aA D').length:Int)].map V.int:=by
  cases pr with
  |cons p1 pr=>
   cases pr with
   |cons p2 pr=>
    cases pr with
    |cons p3 pr=>
     cases pr;rw[p1,p2,p3];rfl
 refine⟨_,rfl,D,_,_,_,rfl,rfl,ai.of (g4 _ _ h3),bZ (j:=0) rfl,a1,_,rfl,.inr (aq.of (g4 _ _ s1)),by show 1<=sizeLine;omega,λl1 H5 UT g5 jk=>⟨l1,_,rfl,rfl,jk,λl3 H6 UU g6 Ea=>?_⟩⟩;rw[lA] at Ea;have wG:=g5.trans g6;refine⟨D2,l3,_,[((aA A').length:Int),((aA A').length:Int),((aA A').length:Int)],rfl,rfl,ai.of (wG _ _ h4),ai.of Ea,_,rfl,ba (λcc=>?_) (λcc=>bh ?_)⟩
 ·refine nt H6 (gH.trans (g4.trans wG)) (pE λok=>?_);rw[if_pos rfl,decide_eq_true (by rw[ok.2.2.2.2.1,ok.2.2.2.2.2.1])] at cc;cases cc
 obtain⟨lB,lD⟩:(aA B').length=(aA A').length/\(aA D').length=(aA A').length:=by
  rw[if_pos rfl] at cc;by_cases e:[((aA A').length:Int),((aA B').length:Int),((aA D').length:Int)]=[((aA A').length:Int),((aA A').length:Int),((aA A').length:Int)]
  ·injection e with _ e;injection e with e1 e;injection e with e2 _;exact⟨Jd e1,Jd e2⟩
  ·rw[decide_eq_false e] at cc;exact absurd rfl cc
 have gI:=g4.trans wG;refine⟨_,rfl,D,_,_,_,rfl,rfl,ai.of (gI _ _ h3),bZ (j:=2) rfl,_,rfl,D,_,_,_,rfl,rfl,ai.of (gI _ _ h3),bZ (j:=0) rfl,a3,a1,aA D',aA A',rfl,aq.of (gI _ _ s3),aq.of (gI _ _ s1),λy hy=>?_,by omega,λla H7 UW g7 Rw=>?_⟩
 ·have:=lL i3.2.2.2 hy;exact⟨this.1,by have:=this.2;rw[lD] at this;exact this⟩
 have gJ:=gI.trans g7;refine⟨_,rfl,D,_,_,_,rfl,rfl,ai.of (gJ _ _ h3),bZ (j:=1) rfl,la,a2,_,aA B',rfl,rfl,aq.of Rw,aq.of (gJ _ _ s2),_,rfl,ba (λcc=>?_) (λcc=>bh ?_)⟩
 ·refine nt H7 (gH.trans gJ) (pE λok=>?_);rw[if_pos rfl,decide_eq_true ok.2.2.2.2.2.2] at cc;cases cc
 have ef:aH (aA A') (aA D')=aA B':=by
  rw[if_pos rfl] at cc;by_cases e:aH (aA A') (aA D')=aA B';·exact e
  ·rw[decide_eq_false e] at cc;exact absurd rfl cc
 have ok:dW z (aA A') (aA B') (aA D'):=MB e ⟨i1,i2,i3,l2,lB,lD,ef⟩;refine⟨_,rfl,D,_,_,_,rfl,rfl,ai.of (gJ _ _ h3),bZ (j:=0) rfl,a1,_,rfl,.inr (aq.of (gJ _ _ s1)),_,rfl,D,_,_,_,rfl,rfl,ai.of (gJ _ _ h3),bZ (j:=0) rfl,_,rfl,D,_,_,_,rfl,rfl,ai.of (gJ _ _ h3),bZ (j:=1) rfl,_,rfl,D,_,_,_,rfl,rfl,ai.of (gJ _ _ h3),bZ (j:=2) rfl,by show 5<=sizeLine;omega,λp H8 np g8 hp=>?_⟩;have hp:H8 p=some (.tup [.str (Str.ofString "told"),.int (((aA A').map V.int).length:Int),.ref a1,.ref a2,.ref a3]):=hp;rw[lA] at hp;exact q _ _ _ ok p a1 a2 a3 H8 (gH.trans (gJ.trans g8)) hp (g8 _ _ (gJ _ _ s1)) (g8 _ _ (gJ _ _ s2)) (g8 _ _ (gJ _ _ s3))
end
def tT:Sp:=λvs H Q _=>∃(z:Str) (c:Int),vs=[.str z,.int c]/\0<z.length/\z.length<63/\∀z':Str,z'.length<=z.length+1->∀H',aj H H'->Q (.str z') H'
theorem LK(z:Str)(k:Nat):(cI z none (some (k:Int))).length<=k:=by
 rw[←cW];show((z.cps.toList.drop _).take (HT.aM z.length z.length (some (k:Int))-HT.aM z.length 0 none)).length<=k;rw[HT.og,Yz];omega
theorem BV(z:Str)(k:Nat)(h:k<=z.length):(cI z (some (k:Int)) none).length<=z.length-k:=by
 rw[←cW];show((z.cps.toList.drop _).take (HT.aM z.length z.length none-HT.aM z.length 0 (some (k:Int)))).length<=_;rw[HT.og,Yz];show min (z.length-min k z.length) _<=_;omega
theorem ID(cs:List Nat):((cs.map λc=>(⟨#[c]⟩:Str)).map (·.length)).sum=cs.length:=by
 induction cs with
 |nil=>rfl
 |cons c r ih=>
  rw[Wi,Wi,List.sum_cons,ih,Yy];show 1+r.length=_;omega
abbrev fJ:Str:=Str.ofString " \n0123456789abcdefhilmnorstwx=-Q+_"
section
variable {K:ae}{mg:aF}
abbrev mD:List Str:=["_law_text","_law_cell_here"]
theorem fX:aY ["_law_text","_law_cell_here","_law_signs","_law_drawn","_law_at","_law_to","_law_sign","_law_low","_law_high"] mD (ar jE):=.bM
theorem IE(F:aX K "_law_spoilt" "_law_spoilt" jE f fd)(jL:HasFn P w K mg base 1 "_law_draws" k_ (oj K))(bl:Bl mg):aG P w K mg base aR 2 f fd mD tT:=by
 refine F.o fX @λaD A outer vs Q E s H hr h=>?_;obtain⟨z,c,rfl,z0,lz,q⟩:=h;have hu:=hr.j9;refine⟨_,(au (bR 2 fX.nd aK) (au (bR 3 fX.nd (aS jL hr (aa (pv 1) (aa (oo (aa aE (aa aE (aa aE (aa aE ag))))) ag)))) (au (bR 4 fX.nd (aJ fB (bA (iL K) (pv 3) aE) (cF (nC) rfl bl.kz kg (aa (pv 0) ag)))) (au (bR 5 fX.nd (aJ fB (bA (iL K) (pv 3) aE) (cF (nC) rfl bl.kz kg (aa (pv 0) ag)))) (au (bR 6 fX.nd (bA lR (pv 2) (aJ fB (bA (iL K) (pv 3) aE) (cF (nC) rfl bl.kz kg (aa (pv 2) ag))))) (au (bp (bF eX (bA (iL K) (pv 3) aE) aE) (az (aN (aJ cK (eB gr (pv 0) fw (dD (pv 4))) (eB gr (pv 0) (dD (aJ dE (pv 4) aE)) fw)))) bu) (au (bp (bF eX (bA (iL K) (pv 3) aE) aE) (az (aN (aJ cK (aJ cK (eB gr (pv 0) fw (dD (pv 4))) (pv 6)) (eB gr (pv 0) (dD (aJ dE (pv 4) aE)) fw)))) bu) (au (bp (bF eX (bA (iL K) (pv 3) aE) aE) (az (aN (aJ cK (aJ cK (eB gr (pv 0) fw (dD (pv 4))) (bA lR (pv 0) (pv 4))) (eB gr (pv 0) (dD (pv 4)) fw)))) bu) (au (bp (bF eX (bA (iL K) (pv 3) aE) aE) (az (aN (aJ cK (pv 0) (pv 6)))) bu) (au (bp (bF eX (bA (iL K) (pv 3) aE) aE) (az (aN (aJ cK (pv 6) (pv 0)))) bu) (au (bR 7 fX.nd (cF (Ic rfl) rfl bl.Md Ld (aa (pv 4) (aa (pv 5) ag)))) (au (bR 8 fX.nd (cF (Ib rfl) rfl bl.Me LB (aa (pv 4) (aa (pv 5) ag)))) (au (bp (bF eX (pv 7) (pv 8)) (az (aN (pv 0))) bu) (au (bR 2 fX.nd (cB (FO rfl) rfl bl.kh jZ (aa (pv 0) ag))) (au (AS (pv 2) (pv 7) set_list (bA lR (pv 0) (pv 8))) (au (AS (pv 2) (pv 8) set_list (bA lR (pv 0) (pv 7))) (az (aN (gv plainAttrs_str slot_str_join type_str_join (tR (K:=K) rfl) aK (aa (pv 2) ag)))))))))))))))))))),?_⟩;have lim:(10000:Nat)<=sizeLine:=by rw[sizeLine_eq];omega
 refine⟨_,rfl,by show 4<=sizeLine;omega,λpl H1 UX g1 bt=>⟨c,pl,[7,61,37,59],rfl,ai.of bt,by decide,by decide,λdr ds H2 UY g2 iy bd=>?_⟩⟩;obtain⟨d0,d1,d2,d3,rfl,b0,b1,b2,b3⟩:=Ks bd;have lo:fJ.length=34:=by decide+kernel
 have zp:(0:Int)<(z.length:Int):=by omega
 obtain⟨a,ea,la⟩:∃a:Nat,d1 % (z.length:Int)=(a:Int)/\a<z.length:=by
  have:=We d1 (show(z.length:Int)≠0 by omega);have:=Wa d1 zp;exact⟨(d1 % (z.length:Int)).toNat,by omega,by omega⟩
 obtain⟨b,eb,lb⟩:∃b:Nat,d3 % (z.length:Int)=(b:Int)/\b<z.length:=by
  have:=We d3 (show(z.length:Int)≠0 by omega);have:=Wa d3 zp;exact⟨(d3 % (z.length:Int)).toNat,by omega,by omega⟩
 obtain⟨e,ee,le⟩:∃e:Nat,d2 % (fJ.length:Int)=(e:Int)/\e<fJ.length:=by
  have:=We d2 (show(fJ.length:Int)≠0 by rw[lo];decide);have:=Wa d2 (show(0:Int)<(fJ.length:Int) by rw[lo];decide);exact⟨(d2 % (fJ.length:Int)).toNat,by omega,by omega⟩
 have zl:=cW z;have at_:∀(y:Str) (k:Nat),k<y.length->∃v,d8 y.cps.toList (k:Int)=some v:=λy k hk=>⟨_,bZ (Ys (by rw[cW];exact hk))⟩;obtain⟨vo,Rx⟩:=at_ fJ e le;obtain⟨va,Ry⟩:=at_ z a la;obtain⟨vb,UZ⟩:=at_ z b lb;refine⟨_,rfl,dr,_,_,_,rfl,rfl,ai.of iy,bZ (j:=1) rfl,_,rfl,z,rfl,by omega,_,_,rfl,rfl,zp,?_⟩;dsimp only;rw[ea];refine⟨_,rfl,dr,_,_,_,rfl,rfl,ai.of iy,bZ (j:=3) rfl,_,rfl,z,rfl,by omega,_,_,rfl,rfl,zp,?_⟩;dsimp only;rw[eb];refine⟨_,rfl,_,rfl,dr,_,_,_,rfl,rfl,ai.of iy,bZ (j:=2) rfl,_,rfl,fJ,rfl,by omega,_,_,rfl,rfl,by show(0:Int)<(fJ.length:Int);rw[lo];decide,fJ,_,vo,rfl,rfl,by omega,by rw[ee];exact Rx,?_⟩;have gH:=g1.trans g2;have one:∀v:Nat,(⟨#[v]⟩:Str).length=1:=λ_=>rfl;have fin:∀y:Str,y.length<=z.length+1->Q (.str y) H2:=λy hy=>q y hy H2 gH;have c1:=LK z a;have c2:=BV z (a+1) (by omega);have c3:=BV z a (by omega);have ep:(a:Int)+1=((a+1:Nat):Int):=by omega
 refine⟨_,rfl,dr,_,_,_,rfl,rfl,ai.of iy,bZ (j:=0) rfl,rfl,_,rfl,ba (λ_=>?_) (λ_=>bh ?_)⟩
 ·refine⟨_,rfl,_,rfl,_,rfl,z,rfl,by omega,_,rfl,_,rfl,_,_,rfl,rfl,_,rfl,z,rfl,by omega,_,_,rfl,rfl,?_,?_⟩;·rw[ep];omega
  ·exact fin _ (by rw[strLen_append,ep];omega)
 refine⟨_,rfl,dr,_,_,_,rfl,rfl,ai.of iy,bZ (j:=0) rfl,rfl,_,rfl,ba (λ_=>?_) (λ_=>bh ?_)⟩
 ·refine⟨_,rfl,_,rfl,_,rfl,z,rfl,by omega,_,rfl,_,_,rfl,rfl,by rw[one];omega,_,rfl,_,rfl,_,_,rfl,rfl,_,rfl,z,rfl,by omega,_,_,rfl,rfl,?_,?_⟩;·rw[ep,strLen_append,one];omega
  ·exact fin _ (by rw[strLen_append,strLen_append,one,ep];omega)
 refine⟨_,rfl,dr,_,_,_,rfl,rfl,ai.of iy,bZ (j:=0) rfl,rfl,_,rfl,ba (λ_=>?_) (λ_=>bh ?_)⟩
 ·refine⟨_,rfl,_,rfl,_,rfl,z,rfl,by omega,_,rfl,_,rfl,z,_,va,rfl,rfl,by omega,Ry,_,_,rfl,rfl,by rw[one];omega,_,rfl,_,rfl,_,rfl,z,rfl,by omega,_,_,rfl,rfl,?_,?_⟩;·rw[strLen_append,one];omega
  ·exact fin _ (by rw[strLen_append,strLen_append,one];omega)
 refine⟨_,rfl,dr,_,_,_,rfl,rfl,ai.of iy,bZ (j:=0) rfl,rfl,_,rfl,ba (λ_=>?_) (λ_=>bh ?_)⟩;·refine⟨_,rfl,_,rfl,_,_,rfl,rfl,by rw[one];omega,fin _ (by rw[strLen_append,one];omega)⟩
 refine⟨_,rfl,dr,_,_,_,rfl,rfl,ai.of iy,bZ (j:=0) rfl,rfl,_,rfl,ba (λ_=>?_) (λ_=>bh ?_)⟩;·refine⟨_,rfl,_,rfl,_,_,rfl,rfl,by rw[one];omega,fin _ (by rw[strLen_append,one];omega)⟩
 obtain⟨lw,Rz,RA⟩:∃lw:Nat,(if(b:Int)<(a:Int) then(b:Int) else(a:Int))=(lw:Int)/\lw<z.length:=by
  by_cases c:(b:Int)<(a:Int);·exact⟨b,if_pos c,lb⟩
  ·exact⟨a,if_neg c,la⟩
 obtain⟨hg,RB,RC⟩:∃hg:Nat,(if(b:Int)>(a:Int) then(b:Int) else(a:Int))=(hg:Int)/\hg<z.length:=by
  by_cases c:(b:Int)>(a:Int);·exact⟨b,if_pos c,lb⟩
  ·exact⟨a,if_neg c,la⟩
 refine⟨_,rfl,_,rfl,_,_,rfl,?_⟩;rw[Rz];refine⟨_,rfl,_,rfl,_,_,rfl,?_⟩;rw[RB];refine⟨_,rfl,_,rfl,rfl,_,rfl,ba (λ_=>⟨_,rfl,fin z (by omega)⟩) (λ_=>bh ?_)⟩;obtain⟨v1,RD⟩:=at_ z hg RC;obtain⟨v2,RE⟩:=at_ z lw RA;refine⟨_,rfl,z,rfl,by omega,λl H3 nl g3 hl=>?_⟩;have ml:((aL z).map λc=>V.str ⟨#[c]⟩).length=z.length:=by rw[Ya,cW]
 have hl:H3 l=some (.lst ((aL z).map λc=>V.str ⟨#[c]⟩)):=hl;refine⟨_,rfl,_,rfl,z,_,v1,rfl,rfl,by omega,RD,_,rfl,_,rfl,l,_,_,lw,rfl,rfl,hl,by rw[ml];exact uI (by omega) (by omega),?_⟩;refine⟨_,rfl,_,rfl,z,_,v2,rfl,rfl,by omega,RE,_,rfl,_,rfl,l,_,_,hg,rfl,rfl,aw,by rw[Wx,ml];exact uI (by omega) (by omega),?_⟩;have es:((((aL z).map λc=>V.str ⟨#[c]⟩).set lw (.str ⟨#[v1]⟩)).set hg (.str ⟨#[v2]⟩))=((((aL z).set lw v1).set hg v2).map λc=>(⟨#[c]⟩:Str)).map V.str:=by
  rw[Wc,List.map_set,List.map_set];rfl
 have hS:upd (upd H3 l (.lst (((aL z).map λc=>V.str ⟨#[c]⟩).set lw (.str ⟨#[v1]⟩)))) l (.lst ((((aL z).map λc=>V.str ⟨#[c]⟩).set lw (.str ⟨#[v1]⟩)).set hg (.str ⟨#[v2]⟩))) l=some (.lst (((((aL z).set lw v1).set hg v2).map λc=>(⟨#[c]⟩:Str)).map V.str)):=by rw[aw,es]
 have sl:(((aL z).set lw v1).set hg v2).length=z.length:=by rw[Wx,Wx,cW]
 refine⟨rfl,_,rfl,"",l,_,rfl,rfl,ai.of hS,?_,?_⟩
 ·rw[ID,sl,show(Str.ofString "").length=0 by decide+kernel,Nat.mul_zero];omega
 ·rw[zg];refine q _ ?_ _ λb' o h=>?_
  ·rw[←cW];show(((aL z).set lw v1).set hg v2).length<=_;omega
  ·have nb:b'≠l:=bg h (gH.free nl);rw[ak nb,ak nb];exact g3 _ _ (gH _ _ h)
end
def glue(sep:Nat):List (List Nat)->List Nat
 |[]=>[]
 |[x]=>x
 |x::y::r=>x++sep::glue sep (y::r)
theorem tI(c:Nat)(ys:List Str):aL (Str.join ⟨#[c]⟩ ys)=glue c (ys.map aL):=by
 induction ys with
 |nil=>rfl
 |cons x r ih=>
  cases r with
  |nil=>rfl
  |cons y r=>
   rw[Str.join.eq_3 _ _ _ (by simp)];show(x++⟨#[c]⟩++Str.join ⟨#[c]⟩ (y::r)).cps.toList=_;rw[eW,eW];show(aL x++[c])++aL (Str.join ⟨#[c]⟩ (y::r))=_;rw[ih,List.append_assoc];rfl
theorem KD{c:Nat}{x y r t:List Nat}(hx:c∉x)(hy:c∉y)(h:x++c::r=y++c::t):x=y/\r=t:=by
 induction x generalizing y with
 |nil=>
  cases y with
  |nil=>exact⟨rfl,(W0 h).2⟩
  |cons b y=>exact absurd (Yr.mpr (.inl (W0 h).1)) hy
 |cons a x ih=>
  cases y with
  |nil=>exact absurd (Yr.mpr (.inl (W0 h).1.symm)) hx
  |cons b y=>
   obtain⟨e1,e2⟩:=W0 h;obtain⟨e3,e4⟩:=ih (λm=>hx (Yw _ m)) (λm=>hy (Yw _ m)) e2;exact⟨by rw[e1,e3],e4⟩
theorem JN{c:Nat}:∀{xs ys:List (List Nat)},xs≠[]->ys≠[]->(∀x∈xs,c∉x)->(∀y∈ys,c∉y)->glue c xs=glue c ys->xs=ys:=by
 intro xs;induction xs with
 |nil=>intro ys h;exact absurd rfl h
 |cons x r ih=>
  intro ys _ hy fx fy h;cases ys with
  |nil=>exact absurd rfl hy
  |cons y t=>
   have nx:=fx x Y2;have ny:=fy y Y2;cases r with
   |nil=>
    cases t with
    |nil=>rw[show x=y from h]
    |cons z t=>
     refine absurd ?_ nx;rw[show x=y++c::glue c (z::t) from h];simp
   |cons u r=>
    cases t with
    |nil=>
     refine absurd ?_ ny;rw[show y=x++c::glue c (u::r) from h.symm];simp
    |cons z t=>
     obtain⟨e1,e2⟩:=KD nx ny h;rw[e1,ih (by simp) (by simp) (λa ha=>fx a (Yw _ ha)) (λa ha=>fy a (Yw _ ha)) e2]
theorem LL(z:Str)(c:Nat):bX z c≠[]:=by
 show Txt.split _ _≠[];unfold Txt.split;split;·simp
 ·split;·simp
  ·intro h;have:=congrArg List.length h;rw[length_partsBetween] at this;cases this
theorem LM{z:Str}{c:Nat}{ys:List Str}(ne:ys≠[])(fr:∀y∈ys,c∉aL y)(e:Str.join ⟨#[c]⟩ ys=z):bX z c=ys:=by
 have h:(bX z c).map aL=ys.map aL:=by
  refine JN (c:=c) ?_ ?_ (λx hx=>?_) (λy hy=>?_) ?_
  ·intro h;exact LL z c (List.map_eq_nil_iff.mp h)
  ·intro h;exact ne (List.map_eq_nil_iff.mp h)
  ·obtain⟨p,hp,rfl⟩:=Wk.mp hx;exact StrLaws.split_free z c p hp
  ·obtain⟨p,hp,rfl⟩:=Wk.mp hy;exact fr p hp
  ·rw[←tI,←tI,e];exact congrArg aL (StrLaws.join_split z ⟨#[c]⟩)
 exact(List.map_inj_right λa b RF=>ou RF).mp h
theorem MD:(Str.ofString " ")=⟨#[32]⟩:=by decide+kernel
theorem tU{ns:List Int}(h:Dg ns):32∉aL (bT ns):=λhm=>by
 rw[uT] at hm;obtain⟨n,hn,e⟩:=Wk.mp hm;omega
theorem IF{a b c:List Int}(ha:Dg a)(hb:Dg b)(hc:Dg c):bX (dG a b c) 32=[Str.ofString "land",bT a,bT b,bT c]:=by
 refine LM (by simp) (λy hy=>?_) ?_
 ·simp only[Yr,Wm,or_false] at hy;rcases hy with rfl|rfl|rfl|rfl;·decide+kernel
  ·exact tU ha
  ·exact tU hb
  ·exact tU hc
 ·refine ou ?_;show aL (Str.join ⟨#[32]⟩ _)=aL (dG a b c);rw[tI];unfold dG;rw[MD];show _=(_:Str).cps.toList;rw[eW,eW,eW,eW,eW,eW];show glue 32 [aL "land",aL (bT a),aL (bT b),aL (bT c)]=aL "land"++[32]++aL (bT a)++[32]++aL (bT b)++[32]++aL (bT c);simp[glue]
theorem IG(a b c:List Int):(dG a b c).length=7+a.length+b.length+c.length:=by
 unfold dG;rw[strLen_append,strLen_append,strLen_append,strLen_append,strLen_append,strLen_append,gj,gj,gj,show(Str.ofString "land").length=4 by decide+kernel,show(Str.ofString " ").length=1 by decide+kernel];omega
theorem j7{ns:List Int}(h:full ns=true)(l:ns.length<=8):Dg ns:=⟨by omega,λn hn=>by have:=lL h hn;omega⟩
theorem JO{xs ys:List Int}(fx:full xs=true)(fy:full ys=true)(e:xs.length=ys.length)(l2:2<=xs.length)(l8:xs.length<=8):dW (dG xs (aH xs ys) ys) xs (aH xs ys) ys:=by
 have fa:full (aH xs ys)=true:=n4 fx fy e;have la:=gW xs ys;have dx:=j7 fx l8;have da:=j7 fa (by omega);have dy:=j7 fy (by omega);have ne:∀ns:List Int,2<=ns.length->ns≠[]:=λns h z=>by rw[z] at h;exact absurd h (by decide)
 exact⟨bT xs,bT (aH xs ys),bT ys,IF dx da dy,uk dx.2 (ne _ l2),uk da.2 (ne _ (by omega)),uk dy.2 (ne _ (by omega)),(uj dx.2).symm,(uj da.2).symm,(uj dy.2).symm,⟨fx,fa,fy,by omega,by omega,l2,l8⟩,rfl⟩
def o9(K:ae):Sp:=λvs H Q _=>∃(a:Addr) (ns:List Int),vs=[.ref a]/\ai K H a (ns.map V.int)/\ns.length<=63/\∀H',Q (.bl true) H'
theorem Ax{z:Str}{a b c a' b' c':List Int}(h:dW z a b c)(h':dW z a' b' c'):a=a'/\b=b'/\c=c':=by
 obtain⟨A,B,D,e,_,_,_,rfl,rfl,rfl,_⟩:=h;obtain⟨A',B',D',e',_,_,_,rfl,rfl,rfl,_⟩:=h';rw[e] at e';cases e';exact⟨rfl,rfl,rfl⟩
abbrev vf(xs fs ys:List Int):Dt:=.tup [.str (Str.ofString "told"),.int (xs.length:Int),.tup (xs.map Dt.int),.tup (fs.map Dt.int),.tup (ys.map Dt.int)]
theorem oy{H:Hp}{p a b c:Addr}{xs fs ys:List Int}(hp:H p=some (.tup [.str (Str.ofString "told"),.int (xs.length:Int),.ref a,.ref b,.ref c]))(ta:bb H a xs)(tb:bb H b fs)(tc:bb H c ys)(l1:xs.length<=60)(l2:fs.length<=60)(l3:ys.length<=60):At H 3 (.ref p) (vf xs fs ys):=
 oI hp (by show 5<=1000;decide) (.cons (lU _) (.cons (BJ _) (.cons (uc ta (by omega)) (.cons (uc tb (by omega)) (.cons (uc tc (by omega)) .nil)))))
theorem KG{z:Str}{xs fs ys:List Int}(h:dW z xs fs ys):xs.length<=60/\fs.length<=60/\ys.length<=60:=by
 obtain⟨_,_,_,_,_,_,_,_,_,_,⟨_,_,_,g4,g5,_,g7⟩,_⟩:=h;omega
theorem Ay{C:Addr}{σ:St}{H:Hp}{i:Nat}{z:Str}{k:Bool->Hp->Prop}(hi:σ[i]?=some (some (.str z)))(lz:z.length<64)(q:∀H',aj H H'->k false H'):
  Cu (tB (hU (hG 4) [] E0 (cC (hU (hJ C) [] E0 (cC (di i) cP)) (cC (hU (hJ C) [] E0 (cC (di i) cP)) cP)))) σ H k:=by
 refine⟨_,hi,z,rfl,lz,λxs fs ys ok p a b c H1 g1 hp ta tb tc=>⟨_,hi,z,rfl,lz,λRG vO fc wH p' a' b' c' H2 g2 wI RH RI RJ=>?_,λno=>absurd ok (no _ _ _)⟩,λno p H1 g1 hp=>⟨_,hi,z,rfl,lz,λxs fs ys ok=>absurd ok (no _ _ _),λ_ p' H2 g2 wI=>?_⟩⟩
 ·obtain⟨rfl,rfl,rfl⟩:=Ax ok wH;obtain⟨l1,l2,l3⟩:=KG ok;exact⟨.ref p,.ref p',vf xs fs ys,3,rfl,rfl,oy (g2 _ _ hp) (g2 _ _ ta) (g2 _ _ tb) (g2 _ _ tc) l1 l2 l3,oy wI RH RI RJ l1 l2 l3,λH3 g3=>⟨true,rfl,q H3 ((g1.trans g2).trans g3)⟩⟩
 ·exact⟨.ref p,.ref p',.tup [.str (Str.ofString "no text"),.bl true],3,rfl,rfl,oI (g2 _ _ hp) (by show 2<=1000;decide) (.cons (lU _) (.cons (Cb _) .nil)),oI wI (by show 2<=1000;decide) (.cons (lU _) (.cons (Cb _) .nil)),λH3 g3=>⟨true,rfl,q H3 ((g1.trans g2).trans g3)⟩⟩
theorem tV{K:ae}{σ:St}{H:Hp}{i:Nat}{p:Addr}{ns:List Int}{Q:VK}(hi:σ[i]?=some (some (.ref p)))(hp:aq K H p (ns.map V.int))(d:Dg ns)(q:∀H',aj H H'->Q (.str (bT ns)) H'):
  pQ K "str" (rJoin K) (tC (V.str (Str.ofString ""))) (cC (u5 (Cw K (di i)) [] kE (dq (λxs H Q=>∃i,xs=[V.int i]/\i.natAbs.log2<1920/\Q (V.str (Str.ofString (toString i))) H) (cC (di 0) cP))) cP) σ H Q:=by
 have ln:=d.1;have hn:=d.2;refine⟨rfl,_,hi,p,rfl,⟨_,hp⟩,λD hD=>zN hp (by rw[Ya];omega) hD D9 (λi v hi H1 g1 Kt k=>?_) λH1 g1 h1=>?_⟩
 ·obtain⟨n,rfl,eL⟩:=iN hi;have b:=hn n (Yq eL);exact⟨_,rfl,n,rfl,by
   obtain⟨d,rfl⟩:∃d:Nat,n=(d:Int):=⟨n.toNat,by omega⟩;exact Y3 (Nat.log2_le_self _) (by omega),k H1 (aj.refl _)⟩
 ·rw[←Aw hn] at q;have l1:∀y∈ns.map λi=>Str.ofString (toString i),y.length=1:=λy hy=>by
   obtain⟨n,eL,rfl⟩:=Wk.mp hy;have b:=hn n eL;obtain⟨d,rfl⟩:∃d:Nat,n=(d:Int):=⟨n.toNat,by omega⟩;rw[ui d (by omega)];rfl
  refine⟨"",D,ns.map λi=>Str.ofString (toString i),rfl,rfl,ai.of (by rw[h1,Wc,Wc];rfl),?_,q H1 g1⟩;have s1:((ns.map λi=>Str.ofString (toString i)).map (·.length)).sum<=60:=by
   rw[Wb (g:=λ_=>1) l1,List.map_const',Ya];simp;omega
  have s2:(Str.ofString "").length=0:=by decide+kernel
  rw[s2];omega
theorem KH(z:Str)(a b:Nat):(cI z (some (a:Int)) (some (b:Int))).length<=b-a:=by
 rw[←cW];show((z.cps.toList.drop _).take (HT.aM z.length z.length (some (b:Int))-HT.aM z.length 0 (some (a:Int)))).length<=_;rw[HT.og,HT.og,Yz];omega
theorem KI(z:Str)(k:Nat)(h:0<k):(cI z (some (-(k:Int))) none).length<=k:=by
 rw[←cW];show((z.cps.toList.drop _).take (z.length-HT.aM z.length 0 (some (-(k:Int))))).length<=_;have e:HT.aM z.length 0 (some (-(k:Int)))=(-(k:Int)+z.length).toNat:=if_pos (by omega);rw[e,Yz];omega
section
variable {K:ae}{mg:aF}
abbrev pG:List Str:=["_law_script"]
theorem dF:aY ["_law_script","_law_size","_law_mother","_law_wife","_law_father","_law_text","_law_turn_here","_law_cell_here","_law_bad","_law_other","_law_odd"] pG (ar gw):=.bM
theorem LN(F:aX K "law" "law" gw f fd)(iE:HasFn P w K mg base 1 "_law_cell" kZ (uJ K))(nU:HasFn P w K mg base 2 "_law_row" mz u_)(jM:HasFn P w K mg base 1 "_law_after" i4 (o5 K))
  (gU:HasFn P w K mg base 4 "_law_same" fS (hG 4))(qS:HasFn P w K mg base 2 "shown_land" ["land"] (vd C))(tJ:HasFn P w K mg base 7 "land_of" kH (tS C))(lq:HasFn P w K mg base 9 "_law_asked" fH (hJ C))
  (nB:HasFn P w K mg base 3 "_law_land_due" fH (hJ C))(qT:HasFn P w K mg base 2 "_law_spoilt" mD tT)(bl:Bl mg):
  aG P w K mg base (gN P w) 11 f fd pG (o9 K):=by
 refine F.mV dF (λvs H Q E h=>?_) (λaD A outer s H vs Q E hr h=>?_)
 ·obtain⟨a,ns,rfl,_⟩:=h;rfl
 obtain⟨a,ns,rfl,hs,hlen,q⟩:=h;have hu:=hr.j9;refine⟨_,(au (bR 0 dF.nd (eB (tQ (K:=K) rfl) (pv 0) fw (dD aE))) (au (bR 1 dF.nd (aJ dE aE (aJ fB (aS iE hr (aa (pv 0) (aa aE ag))) aE))) (au (bR 2 dF.nd (aS nU hr (aa (aS iE hr (aa (pv 0) (aa aE ag))) (aa (pv 1) ag)))) (au (bR 3 dF.nd (aS nU hr (aa (aS iE hr (aa (pv 0) (aa aE ag))) (aa (pv 1) ag)))) (au (bR 4 dF.nd (aS jM hr (aa (pv 3) (aa (pv 2) ag)))) (au (bR 5 dF.nd aK) (au (gp mw rfl (lP (gf (aa (pv 2) (aa (pv 4) (aa (pv 3) ag))))) (eN 6 dF.nd) (az (bR 5 dF.nd (aJ cK (aJ cK (pv 5) aK) (gv plainAttrs_str slot_str_join type_str_join (tR (K:=K) rfl) aK (aa (dc (x:="_law_at") (fr:=[]) (cl:=[]) rfl (.cY trivial trivial) (lP (pv 6)) (λ_ _ _ _=>cT) (λ_ _ _ _=>(cB yx rfl bl.oX oC (aa (pv 0) ag)))) ag)))))) (au (bp (gm (dY (aS gU hr (aa (aS qS hr (aa (aS tJ hr (aa (pv 2) (aa (pv 3) ag))) ag)) (aa (pv 5) ag))))) (az (aN eE)) bu) (au (bp (gm (dY (aS gU hr (aa (aS lq hr (aa (pv 5) ag)) (aa (gf (aa aK (aa (pv 1) (aa (pv 2) (aa (pv 4) (aa (pv 3) ag)))))) ag))))) (az (aN eE)) bu) (au (gp mw rfl (gY (K:=K) rfl (aJ Kh (eB (tQ (K:=K) rfl) (pv 0) (dD aE) fw) (oo (aa (aJ dE (aS iE hr (aa (pv 0) (aa aE ag))) aE) (aa (aJ dE (aS iE hr (aa (pv 0) (aa aE ag))) aE) ag))))) (eN 7 dF.nd) (au (bR 8 dF.nd (aS qT hr (aa (pv 5) (aa (pv 7) ag)))) (az (bp (gm (dY (aS gU hr (aa (aS lq hr (aa (pv 8) ag)) (aa (aS nB hr (aa (pv 8) ag)) ag))))) (az (aN eE)) bu)))) (au (bR 9 dF.nd (aJ cK (aJ cK (aJ cK (aJ cK (aJ cK aK (eB gr (pv 5) (dD aE) (dD (aJ dE aE (pv 1))))) aK) (eB gr (pv 5) (dD aE) (dD (aJ dE aE (pv 1))))) aK) (eB gr (pv 5) (dD (LY KW (pv 1))) fw))) (au (bR 10 dF.nd (oo (aa (pv 9) (aa aK (aa aK (aa (aJ cK (pv 5) aK) (aa (aJ cK aK (pv 5)) (aa (aJ cK (pv 5) aK) (aa aK ag))))))))) (au (cM (Lz (K:=K) rfl (gv plainAttrs_list PySem.F.slot_list_append PySem.F.type_list_append GO (pv 10) (aa aK ag)))) (au (gp mw rfl (gY (K:=K) rfl (pv 10)) (eN 8 dF.nd) (az (bp (gm (dY (aS gU hr (aa (aS lq hr (aa (pv 8) ag)) (aa (aS nB hr (aa (pv 8) ag)) ag))))) (az (aN eE)) bu))) (az (aN eE)))))))))))))))),?_⟩;obtain⟨ms,em⟩:=Aa ns none (some 63);have U0:ms.length<=63:=by
  have:=rj (ns.map V.int) none (some 63);rw[em,Ya,Ya] at this;omega
 have lim:(10000:Nat)<=sizeLine:=by rw[sizeLine_eq];omega
 refine⟨_,rfl,_,rfl,a,_,rfl,hs,λs1 H0 n1 g0 nv=>?_⟩;rw[em] at nv;refine⟨_,rfl,s1,ms,0,rfl,ai.of nv,Int.le_refl 0,λc0=>⟨_,_,rfl,rfl,(by show(0:Int)<7;decide),_,_,rfl,rfl,gz ?_⟩⟩;dsimp only;have m0:=We c0 (show(7:Int)≠0 by decide);have m1:=Wa c0 (show(0:Int)<7 by decide);obtain⟨n,en⟩:∃n:Nat,2+c0 % 7=(n:Int):=⟨(2+c0 % 7).toNat,by omega⟩;rw[en];have n2:2<=n:=by omega
 have n8:n<=8:=by omega
 refine⟨_,rfl,s1,ms,1,rfl,ai.of nv,by decide,λc1=>⟨_,rfl,c1,n,rfl,by omega,by omega,λm xs H1 nm g1 hM px=>gz ?_⟩⟩;refine⟨_,rfl,s1,ms,2,rfl,ai.of (g1 _ _ nv),by decide,λc2=>⟨_,rfl,c2,n,rfl,by omega,by omega,λwi ys H2 nw g2 hW py=>gz ?_⟩⟩;have lx:xs.length=n:=by rw[px.length_eq,dB]
 have ly:ys.length=n:=by rw[py.length_eq,dB]
 have fx:=uf px;have fy:=uf py;have wJ:=g2 _ _ hM;have kR:=g2 _ _ (g1 _ _ nv);have fa:full (aH xs ys)=true:=n4 fx fy (by omega);have la:=gW xs ys;have dx:=j7 fx (by omega);have da:=j7 fa (by omega);have dy:=j7 fy (by omega);refine⟨_,rfl,_,rfl,wi,m,ys,xs,rfl,aq.of hW,aq.of wJ,λy hy=>?_,by omega,λeQ H3 Rg g3 hF=>gz ?_⟩
 ·have:=lL fy hy;omega
 dsimp only;refine setC ?_;have ll:=IG xs (aH xs ys) ys;have Eb:=JO fx fy (by omega) (by omega) (by omega);have U1:(Str.ofString "land").length=4:=by decide+kernel
 have U2:(Str.ofString " ").length=1:=by decide+kernel
 have w1:=gj xs;have w2:=gj (aH xs ys);have w3:=gj ys;refine oh (λσ H=>aj H3 H/\∃o6:Option V,σ=[some (.ref s1),some (.int (n:Int)),some (.ref m),some (.ref wi),some (.ref eQ),some (.str (dG xs (aH xs ys) ys)),o6,none,none,none,none]) (λnx hn=>?_) ?_
 ·refine⟨_,rfl,_,rfl,_,rfl,by show 3<=sizeLine;omega,λtp H4 U3 g4 Ec=>⟨tp,rfl,⟨_,aq.of Ec⟩,JR (K:=K) (a:=tp) (xs:=[.ref m,.ref eQ,.ref wi]) (λi σ H=>aj H4 H/\∃o6:Option V,σ=[some (.ref s1),some (.int (n:Int)),some (.ref m),some (.ref wi),some (.ref eQ),some (.str (match i with|0=>Str.ofString "land"|1=>(Str.ofString "land"++Str.ofString " ")++bT xs|2=>(((Str.ofString "land"++Str.ofString " ")++bT xs)++Str.ofString " ")++bT (aH xs ys)|_=>dG xs (aH xs ys) ys)),o6,none,none,none,none]) ⟨aj.refl _,none,rfl⟩ (λi σ H _ ⟨g,_⟩=>aq.of (g _ _ Ec)) (λi v σ H hi ⟨g,o6,e⟩=>?_) (λσ H ⟨g,o6,e⟩=>hn _ _ ⟨g4.trans g,o6,e⟩)⟩⟩;have ej:=g4 _ _ (g3 _ _ wJ);have fh:=g4 _ _ (g3 _ _ hW);have fU:=g4 _ _ hF;subst e;match i,hi with
  |0,hi=>
   cases hi;refine gz ⟨_,rfl,_,_,rfl,rfl,by show(Str.ofString "land").length+_<=_;omega,tV (i:=6) rfl (aq.of (g _ _ ej)) dx λH5 g5=>⟨_,_,rfl,rfl,?_,⟨g.trans g5,_,rfl⟩⟩⟩;simp only[strLen_append];omega
  |1,hi=>
   cases hi;refine gz ⟨_,rfl,_,_,rfl,rfl,by simp only[strLen_append];omega,tV (i:=6) rfl (aq.of (g _ _ fU)) da λH5 g5=>⟨_,_,rfl,rfl,?_,⟨g.trans g5,_,rfl⟩⟩⟩;simp only[strLen_append];omega
  |2,hi=>
   cases hi;refine gz ⟨_,rfl,_,_,rfl,rfl,by simp only[strLen_append];omega,tV (i:=6) rfl (aq.of (g _ _ fh)) dy λH5 g5=>⟨_,_,rfl,rfl,?_,⟨g.trans g5,_,rfl⟩⟩⟩;simp only[strLen_append];omega
 rintro σ H4 ⟨g4,o6,rfl⟩;have ej:=g4 _ _ (g3 _ _ wJ);have fh:=g4 _ _ (g3 _ _ hW);have fU:=g4 _ _ hF;have Ed:=g4 _ _ (g3 _ _ kR);refine⟨_,rfl,_,rfl,m,wi,xs,ys,rfl,ej,fh,fx,fy,by omega,by omega,by omega,λL H5 g5 RK=>⟨L,xs,ys,rfl,RK,dx,da,dy,λH6 g6=>⟨_,rfl,_,_,.str (dG xs (aH xs ys) ys),3,rfl,rfl,lU _,lU _,λH7 g7=>⟨_,rfl,ba (λc=>by cases c) (λ_=>bh ?_)⟩⟩⟩⟩;have RL:=(g5.trans g6).trans g7;refine⟨_,rfl,_,rfl,by omega,λRG vO fc wH p a b c H8 g8 hp ta tb tc=>?_,λno=>absurd Eb (no _ _ _)⟩;obtain⟨rfl,rfl,rfl⟩:=Ax Eb wH;have RM:=RL.trans g8;refine⟨_,rfl,_,rfl,_,rfl,_,rfl,by show 5<=sizeLine;omega,λp2 H9 U4 g9 ir=>?_⟩;have ir:H9 p2=some (.tup [.str (Str.ofString "told"),.int (n:Int),.ref m,.ref eQ,.ref wi]):=ir;rw[←lx] at ir;have qc:=RM.trans g9;refine⟨.ref p,.ref p2,vf xs (aH xs ys) ys,3,rfl,rfl,oy (g9 _ _ hp) (g9 _ _ ta) (g9 _ _ tb) (g9 _ _ tc) (by omega) (by omega) (by omega),oy ir (qc _ _ ej) (qc _ _ fU) (qc _ _ fh) (by omega) (by omega) (by omega),λDG RN=>⟨_,rfl,ba (λc=>by cases c) (λ_=>bh ?_)⟩⟩;have vM:=RN _ _ (qc _ _ Ed);clear ej fh fU Ed ir hp ta tb tc;have tz:(dG xs (aH xs ys) ys).length<=31:=by omega
 have Ee:0<(dG xs (aH xs ys) ys).length:=by omega
 generalize dG xs (aH xs ys) ys=z at tz Ee⊢;obtain⟨cs,ec⟩:=Aa ms (some 3) none;have lcs:cs.length<=63:=by
  have:=rj (ms.map V.int) (some 3) none;rw[ec,Ya,Ya] at this;omega
 refine oh (λσ H=>∃o6 o7 o8:Option V,σ=[some (.ref s1),some (.int (n:Int)),some (.ref m),some (.ref wi),some (.ref eQ),some (.str z),o6,o7,o8,none,none]) (λnx hn=>?_) ?_
 ·refine⟨_,rfl,_,rfl,s1,_,rfl,ai.of vM,λs3 DH n3 Ef Eg=>?_⟩;rw[ec] at Eg;refine⟨_,rfl,s1,ms,1,rfl,ai.of (Ef _ _ vM),by decide,λEh=>⟨_,_,rfl,rfl,_,rfl,s1,ms,2,rfl,ai.of (Ef _ _ vM),by decide,λEi=>⟨_,_,rfl,rfl,by show 2<=sizeLine;omega,λl2 RO U5 ei cD=>⟨s3,l2,_,_,rfl,rfl,ei _ _ Eg,cD,by rw[Ya];show cs.length+2<=_;omega,λlc qe U6 p_ qf=>?_⟩⟩⟩⟩;have qf:qe lc=some (.lst ((cs++[Eh+1,Ei+2]).map V.int)):=by rw[qf,Wy];rfl
  refine⟨lc,rfl,⟨_,ai.of qf⟩,lK (K:=K) (a:=lc) (xs:=(cs++[Eh+1,Ei+2]).map V.int) (λ_ σ H'=>aj qe H'/\∃o6 o7 o8:Option V,σ=[some (.ref s1),some (.int (n:Int)),some (.ref m),some (.ref wi),some (.ref eQ),some (.str z),o6,o7,o8,none,none]) ⟨aj.refl _,o6,none,none,rfl⟩ (λi σ H' _ ⟨g,_⟩=>ai.of (g _ _ qf)) (λi v σ H' hi ⟨g,qg,o7,o8,e⟩=>?_) (λσ H' ⟨g,qg,o7,o8,e⟩=>hn _ _ ⟨qg,o7,o8,e⟩)⟩;obtain⟨cc,rfl,_⟩:=iN hi;subst e;refine gz (vJ ⟨_,rfl,_,rfl,z,cc,rfl,Ee,by omega,λz' wj U7 RP=>Ay (i:=8) rfl (by omega) λRQ wK=>ba (λc=>by cases c) (λ_=>bh ?_)⟩);exact⟨(g.trans RP).trans wK,_,_,_,rfl⟩
 rintro σ DH ⟨qg,o7,o8,rfl⟩;have e5:(5:Int)+(n:Int)=((5+n:Nat):Int):=by omega
 have k1:(cI z (some 5) (some (5+(n:Int)))).length<=n:=by
  rw[e5];have:=KH z 5 (5+n);have e:(cI z (some ((5:Nat):Int)) (some ((5+n:Nat):Int)))=cI z (some 5) (some ((5+n:Nat):Int)):=rfl;rw[e] at this;omega
 have k2:(cI z (some (-(n:Int))) none).length<=n:=KI z n (by omega);have ld:(Str.ofString "land ").length=5:=by decide+kernel
 have U8:(Str.ofString " 01").length=3:=by decide+kernel
 have U9:(Str.ofString "").length=0:=by decide+kernel
 have Uj:(Str.ofString "land 0 0 0").length=10:=by decide+kernel
 have Uk:(Str.ofString "land 012345678 012345678 012345678").length=34:=by decide+kernel
 refine vJ ?_;refine⟨_,rfl,_,rfl,_,rfl,_,_,rfl,rfl,_,rfl,z,rfl,by omega,_,_,rfl,rfl,by omega,_,_,rfl,rfl,by simp only[strLen_append];omega,_,rfl,_,rfl,_,rfl,_,_,rfl,rfl,_,rfl,z,rfl,by omega,_,_,rfl,rfl,by simp only[strLen_append];omega,_,_,rfl,rfl,by simp only[strLen_append];omega,_,rfl,_,rfl,_,rfl,_,rfl,z,rfl,by omega,_,_,rfl,rfl,by simp only[strLen_append];omega,?_⟩;dsimp only;have ly:(Str.ofString "land "++cI z (some 5) (some (5+(n:Int)))++Str.ofString " "++cI z (some 5) (some (5+(n:Int)))++Str.ofString " "++cI z (some (-(n:Int))) none).length<64:=by
  simp only[strLen_append];omega
 generalize Str.ofString "land "++cI z (some 5) (some (5+(n:Int)))++Str.ofString " "++cI z (some 5) (some (5+(n:Int)))++Str.ofString " "++cI z (some (-(n:Int))) none=y at ly⊢;refine vJ ?_;refine⟨_,rfl,_,rfl,_,_,rfl,rfl,by omega,_,rfl,_,_,rfl,rfl,by omega,_,rfl,_,_,rfl,rfl,by omega,by show 7<=sizeLine;omega,λod RO U_ ei iq=>?_⟩;refine⟨_,rfl,.inl ⟨rfl,_,ai.of iq⟩,od,_,_,rfl,rfl,iq,by show 7<sizeLine;omega,λqe br Cm=>?_⟩;have all:∀v∈([.str y,.str (Str.ofString ""),.str (Str.ofString "land"),.str (z++Str.ofString " "),.str (Str.ofString " "++z),.str (z++Str.ofString " 01"),.str (Str.ofString "land 0 0 0"),.str (Str.ofString "land 012345678 012345678 012345678")]:List V),∃w:Str,v=.str w/\w.length<64:=by
  intro v hv;simp only[Yr,Wm,or_false] at hv;rcases hv with rfl|rfl|rfl|rfl|rfl|rfl|rfl|rfl;·exact⟨_,rfl,ly⟩
  ·exact⟨_,rfl,by omega⟩
  ·exact⟨_,rfl,by omega⟩
  ·exact⟨_,rfl,by rw[strLen_append];omega⟩
  ·exact⟨_,rfl,by rw[strLen_append];omega⟩
  ·exact⟨_,rfl,by rw[strLen_append];omega⟩
  ·exact⟨_,rfl,by omega⟩
  ·exact⟨_,rfl,by omega⟩
 dsimp only;refine oh (λ_ _=>True) (λnx hn=>?_) (λσ H' _=>q H');refine⟨_,rfl,od,rfl,⟨_,ai.of Cm⟩,lK (K:=K) (a:=od) (λ_ σ H'=>aj qe H'/\∃o8:Option V,σ=[some (.ref s1),some (.int (n:Int)),some (.ref m),some (.ref wi),some (.ref eQ),some (.str z),qg,o7,o8,some (.str y),some (.ref od)]) ⟨aj.refl _,o8,rfl⟩ (λi σ H' _ ⟨g,_⟩=>ai.of (g _ _ Cm)) (λi v σ H' hi zq=>?_) (λσ H' _=>hn _ _ trivial)⟩;obtain⟨g,Va,e⟩:=zq;obtain⟨w',rfl,lw⟩:=all v (Yq hi);subst e;refine gz (Ay (i:=8) rfl lw λRQ wK=>ba (λc=>by cases c) (λ_=>bh ?_));exact⟨g.trans wK,_,rfl⟩
end
theorem RS{C:List Value->Prop}(us:List Value)(hl:us.length=0)(z:C []):C us:=by
 have e:=W5 hl;rw[e];exact z
theorem qh{C:List Value->Prop}{n:Nat}(us:List Value)(hl:us.length=n+1)(z:∀a r,r.length=n->C (a::r)):C us:=by
 cases us with
 |nil=>cases hl
 |cons a r=>exact z a r (Nat.succ.inj hl)
theorem dz{C:List Value->Prop}(us:List Value)(hl:us.length=1)(z:∀a,C [a]):C us:=qh us hl λa r h=>RS (C:=λr=>C (a::r)) r h (z a)
theorem dA{C:List Value->Prop}(us:List Value)(hl:us.length=2)(z:∀a b,C [a,b]):C us:=qh us hl λa r h=>dz (C:=λr=>C (a::r)) r h (z a)
theorem wL{C:List Value->Prop}(us:List Value)(hl:us.length=3)(z:∀a b c,C [a,b,c]):C us:=qh us hl λa r h=>dA (C:=λr=>C (a::r)) r h (z a)
theorem RT{C:List Value->Prop}(us:List Value)(hl:us.length=4)(z:∀a b c d,C [a,b,c,d]):C us:=qh us hl λa r h=>wL (C:=λr=>C (a::r)) r h (z a)
theorem all_mk{l:PySem.W.OpenLaw}{w:World}{K:ae}{h:Heap}{mg:aF}{fa:Addr}
  {f1:Addr}{RU RV:Option Addr}{RW:Array (Option Value)}{RX RY RZ R0 Ej R1:Value}
  {f2:Addr}{p6 R3:Option Addr}{R4:Array (Option Value)}{p5 R5 R6 R7 Ek R8:Value}
  {f3:Addr}{R9 R_:Option Addr}{Sa:Array (Option Value)}{Sb Sd Se Sf El Sg:Value}
  {f4:Addr}{Sh Si:Option Addr}{Sj:Array (Option Value)}{Sk Sl Sn So Em Sq:Value}
  {f5:Addr}{Sr Ss:Option Addr}{Su:Array (Option Value)}{Sv Sw Sx Sy En Sz:Value}
  {f6:Addr}{SA SD:Option Addr}{SE:Array (Option Value)}{SG SH SI SJ Eo SK:Value}
  {f7:Addr}{SM SN:Option Addr}{SO:Array (Option Value)}{SQ SR SS SU Ep SV:Value}
  {f8:Addr}{SW SX:Option Addr}{SY:Array (Option Value)}{S0 S1 S2 S3 Es S4:Value}
  {f9:Addr}{S5 S6:Option Addr}{S7:Array (Option Value)}{S8 S9 S_ Ta Et Tb:Value}
  {wM:Addr}{Nm Nn:Option Addr}{Np:Array (Option Value)}{Nq Nr Nt Nu CV Nv:Value}
  {wN:Addr}{Nx Ny:Option Addr}{Nz:Array (Option Value)}{NA NB NC ND CW NF:Value}
  {wO:Addr}{NG NH:Option Addr}{NI:Array (Option Value)}{NJ NK NL NM CY NN:Value}
  {wQ:Addr}{NO NP:Option Addr}{NQ:Array (Option Value)}{NR NS NT NU CZ NV:Value}
  {wR:Addr}{NW NX:Option Addr}{NY:Array (Option Value)}{NZ N1 N3 N4 C0 N5:Value}
  {wU:Addr}{N6 N7:Option Addr}{N8:Array (Option Value)}{N9 N_ Oa Ob C1 Oc:Value}
  {wV:Addr}{Od Oe:Option Addr}{Of:Array (Option Value)}{Og Oh Oi Oj C2 Ol:Value}
  {wW:Addr}{Om Oo:Option Addr}{Oq:Array (Option Value)}{Ot Ou Ov Ow C3 Ox:Value}
  {wX:Addr}{Oy Oz:Option Addr}{OA:Array (Option Value)}{OB OC OD OE C4 OF:Value}
  {wY:Addr}{OG OH:Option Addr}{OI:Array (Option Value)}{OJ OK OL OM C5 ON:Value}
  {wZ:Addr}{OO OP:Option Addr}{OQ:Array (Option Value)}{OR OS OT OU C6 OV:Value}
  {w4:Addr}{OW OX:Option Addr}{OY:Array (Option Value)}{OZ O0 O1 O2 C7 O3:Value}
  {w8:Addr}{O4 O5:Option Addr}{O6:Array (Option Value)}{O7 O8 O9 O_ C8 Pa:Value}
  {w_:Addr}{Pb Pc:Option Addr}{Pd:Array (Option Value)}{Pf Pg Ph Pj C9 Pk:Value}
  {xb:Addr}{Pl Pm:Option Addr}{Pn:Array (Option Value)}{Po Pp Pq Pr C_ Pt:Value}
  {xg:Addr}{Pu Pw:Option Addr}{Px:Array (Option Value)}{Py Pz PB PC Dc PD:Value}
  {xh:Addr}{PH PK:Option Addr}{PL:Array (Option Value)}{PM PN PQ PR Dd PU:Value}
  {xi:Addr}{PV De:Option Addr}{PX:Array (Option Value)}{PY Df Dh Di vN Dj:Value}
  {bU fZ G3:Addr}{nm_KinError G4:Str}{FX Fq:List Value}{FY:List Str}{FZ:Bool}{Fs:Option Bool}{F0:Option Addr}{F_ Ga Gb Gd Ge:Option Value}{Gf yM:Option Addr}{Gg:Array (Option Value)}{Gh yN yO yP rq yQ:Value}{rX:Addr}{Gi:Option Addr}{Gj:Array (Option Value)}{Gk Gm:Value}{Gn:Nat}
  {bK iF IH:Addr}{nm_BadLand II:Str}{G5 Gp:List Value}{G6:List Str}{G7:Bool}{Gq:Option Bool}{G8:Option Addr}{G9 G_ Ha Hb Hc:Option Value}{Hd zh:Option Addr}{He:Array (Option Value)}{Hf zi zj zk rY zm:Value}{tK:Addr}{Hg:Option Addr}{Hh:Array (Option Value)}{Hi Hj:Value}{Hk:Nat}
  {bB gX IJ:Addr}{nm_BadText IK:Str}{Hl Gr:List Value}{Hm:List Str}{Hn:Bool}{Gs:Option Bool}{Ho:Option Addr}{Hq Hr Hs Ht Hu:Option Value}{Hv zo:Option Addr}{Hw:Array (Option Value)}{Hx zr zt zu rZ zv:Value}{tL:Addr}{Hy:Option Addr}{Hz:Array (Option Value)}{HA HB:Value}{HC:Nat}
  {bH jP IL:Addr}{nm_Unequal IM:Str}{HD Gu:List Value}{HE:List Str}{HF:Bool}{Gv:Option Bool}{HG:Option Addr}{HH HI HJ HK HL:Option Value}{HM HN:Option Addr}{HP:Array (Option Value)}{HQ HR HS HU zw HV:Value}
  {Fh:Tok}
  {Ft:Tok}
  {HW:Tok}
  {KJ:Tok}
  {bV:Addr}
  {lr:Addr}{Fu Fv:Option Addr}{Fw:Array (Option Value)}{Fx Fy Fz FA yE FC:Value}
  (X:K.In h)(G:h.Ns mainGlobals mg)(wA:mg "law"=some (.ref fa))
  (a1:nsIn K mainGlobals "is_turn"=some (some (.ref f1)))
  (l1:K.lookup f1=some ⟨RX,RU,.func (fnOf "is_turn" "is_turn" (aZ jR) (aT jR) (ar jR) .none RY RZ R0 RV Ej R1),RW⟩)
  (c1:codeIn K Ej "is_turn"=true)
  (k1:keepIn K (.ref f1)=true)
  (a2:nsIn K mainGlobals "still"=some (some (.ref f2)))
  (l2:K.lookup f2=some ⟨p5,p6,.func (fnOf "still" "still" (aZ j4) (aT j4) (ar j4) .none R5 R6 R7 R3 Ek R8),R4⟩)
  (c2:codeIn K Ek "still"=true)
  (k2:keepIn K (.ref f2)=true)
  (a3:nsIn K mainGlobals "behind"=some (some (.ref f3)))
  (l3:K.lookup f3=some ⟨Sb,R9,.func (fnOf "behind" "behind" (aZ jV) (aT jV) (ar jV) .none Sd Se Sf R_ El Sg),Sa⟩)
  (c3:codeIn K El "behind"=true)
  (k3:keepIn K (.ref f3)=true)
  (a4:nsIn K mainGlobals "back"=some (some (.ref f4)))
  (l4:K.lookup f4=some ⟨Sk,Sh,.func (fnOf "back" "back" (aZ kn) (aT kn) (ar kn) .none Sl Sn So Si Em Sq),Sj⟩)
  (c4:codeIn K Em "back"=true)
  (k4:keepIn K (.ref f4)=true)
  (a5:nsIn K mainGlobals "check_turn"=some (some (.ref f5)))
  (l5:K.lookup f5=some ⟨Sv,Sr,.func (fnOf "check_turn" "check_turn" (aZ jB) (aT jB) (ar jB) .none Sw Sx Sy Ss En Sz),Su⟩)
  (c5:codeIn K En "check_turn"=true)
  (k5:keepIn K (.ref f5)=true)
  (a6:nsIn K mainGlobals "check_rows"=some (some (.ref f6)))
  (l6:K.lookup f6=some ⟨SG,SA,.func (fnOf "check_rows" "check_rows" (aZ iA) (aT iA) (ar iA) .none SH SI SJ SD Eo SK),SE⟩)
  (c6:codeIn K Eo "check_rows"=true)
  (k6:keepIn K (.ref f6)=true)
  (a7:nsIn K mainGlobals "check_parents"=some (some (.ref f7)))
  (l7:K.lookup f7=some ⟨SQ,SM,.func (fnOf "check_parents" "check_parents" (aZ iz) (aT iz) (ar iz) .none SR SS SU SN Ep SV),SO⟩)
  (c7:codeIn K Ep "check_parents"=true)
  (k7:keepIn K (.ref f7)=true)
  (a8:nsIn K mainGlobals "followed"=some (some (.ref f8)))
  (l8:K.lookup f8=some ⟨S0,SW,.func (fnOf "followed" "followed" (aZ jN) (aT jN) (ar jN) .none S1 S2 S3 SX Es S4),SY⟩)
  (c8:codeIn K Es "followed"=true)
  (k8:keepIn K (.ref f8)=true)
  (a9:nsIn K mainGlobals "turned_back"=some (some (.ref f9)))
  (l9:K.lookup f9=some ⟨S8,S5,.func (fnOf "turned_back" "turned_back" (aZ jx) (aT jx) (ar jx) .none S9 S_ Ta S6 Et Tb),S7⟩)
  (c9:codeIn K Et "turned_back"=true)
  (k9:keepIn K (.ref f9)=true)
  (xj:nsIn K mainGlobals "land_of"=some (some (.ref wM)))
  (xk:K.lookup wM=some ⟨Nq,Nm,.func (fnOf "land_of" "land_of" (aZ jS) (aT jS) (ar jS) .none Nr Nt Nu Nn CV Nv),Np⟩)
  (xm:codeIn K CV "land_of"=true)
  (qi:keepIn K (.ref wM)=true)
  (xt:nsIn K mainGlobals "is_figures"=some (some (.ref wN)))
  (xv:K.lookup wN=some ⟨NA,Nx,.func (fnOf "is_figures" "is_figures" (aZ jC) (aT jC) (ar jC) .none NB NC ND Ny CW NF),Nz⟩)
  (xw:codeIn K CW "is_figures"=true)
  (qj:keepIn K (.ref wN)=true)
  (xx:nsIn K mainGlobals "sections_of"=some (some (.ref wO)))
  (xy:K.lookup wO=some ⟨NJ,NG,.func (fnOf "sections_of" "sections_of" (aZ jy) (aT jy) (ar jy) .none NK NL NM NH CY NN),NI⟩)
  (xA:codeIn K CY "sections_of"=true)
  (qk:keepIn K (.ref wO)=true)
  (xB:nsIn K mainGlobals "shown_sections"=some (some (.ref wQ)))
  (xC:K.lookup wQ=some ⟨NR,NO,.func (fnOf "shown_sections" "shown_sections" (aZ js) (aT js) (ar js) .none NS NT NU NP CZ NV),NQ⟩)
  (xD:codeIn K CZ "shown_sections"=true)
  (ql:keepIn K (.ref wQ)=true)
  (mY:nsIn K mainGlobals "shown_land"=some (some (.ref wR)))
  (xE:K.lookup wR=some ⟨NZ,NW,.func (fnOf "shown_land" "shown_land" (aZ jD) (aT jD) (ar jD) .none N1 N3 N4 NX C0 N5),NY⟩)
  (xF:codeIn K C0 "shown_land"=true)
  (qm:keepIn K (.ref wR)=true)
  (xG:nsIn K mainGlobals "read_land"=some (some (.ref wU)))
  (xH:K.lookup wU=some ⟨N9,N6,.func (fnOf "read_land" "read_land" (aZ jH) (aT jH) (ar jH) .none N_ Oa Ob N7 C1 Oc),N8⟩)
  (xI:codeIn K C1 "read_land"=true)
  (qo:keepIn K (.ref wU)=true)
  (xJ:nsIn K mainGlobals "words_of"=some (some (.ref wV)))
  (xK:K.lookup wV=some ⟨Og,Od,.func (fnOf "words_of" "words_of" (aZ jO) (aT jO) (ar jO) .none Oh Oi Oj Oe C2 Ol),Of⟩)
  (xM:codeIn K C2 "words_of"=true)
  (qp:keepIn K (.ref wV)=true)
  (xN:nsIn K mainGlobals "_law_cell"=some (some (.ref wW)))
  (xO:K.lookup wW=some ⟨Ot,Om,.func (fnOf "_law_cell" "_law_cell" (aZ lC) (aT lC) (ar lC) .none Ou Ov Ow Oo C3 Ox),Oq⟩)
  (xP:codeIn K C3 "_law_cell"=true)
  (qq:keepIn K (.ref wW)=true)
  (xQ:nsIn K mainGlobals "_law_draws"=some (some (.ref wX)))
  (xR:K.lookup wX=some ⟨OB,Oy,.func (fnOf "_law_draws" "_law_draws" (aZ lp) (aT lp) (ar lp) .none OC OD OE Oz C4 OF),OA⟩)
  (xS:codeIn K C4 "_law_draws"=true)
  (qr:keepIn K (.ref wX)=true)
  (xT:nsIn K mainGlobals "_law_turn"=some (some (.ref wY)))
  (xU:K.lookup wY=some ⟨OJ,OG,.func (fnOf "_law_turn" "_law_turn" (aZ lE) (aT lE) (ar lE) .none OK OL OM OH C5 ON),OI⟩)
  (xV:codeIn K C5 "_law_turn"=true)
  (qt:keepIn K (.ref wY)=true)
  (xW:nsIn K mainGlobals "_law_row"=some (some (.ref wZ)))
  (xX:K.lookup wZ=some ⟨OR,OO,.func (fnOf "_law_row" "_law_row" (aZ jT) (aT jT) (ar jT) .none OS OT OU OP C6 OV),OQ⟩)
  (xY:codeIn K C6 "_law_row"=true)
  (qu:keepIn K (.ref wZ)=true)
  (xZ:nsIn K mainGlobals "_law_after"=some (some (.ref w4)))
  (x3:K.lookup w4=some ⟨OZ,OW,.func (fnOf "_law_after" "_law_after" (aZ jI) (aT jI) (ar jI) .none O0 O1 O2 OX C7 O3),OY⟩)
  (x4:codeIn K C7 "_law_after"=true)
  (qv:keepIn K (.ref w4)=true)
  (x5:nsIn K mainGlobals "_law_same"=some (some (.ref w8)))
  (x6:K.lookup w8=some ⟨O7,O4,.func (fnOf "_law_same" "_law_same" (aZ iD) (aT iD) (ar iD) .none O8 O9 O_ O5 C8 Pa),O6⟩)
  (x8:codeIn K C8 "_law_same"=true)
  (nA:keepIn K (.ref w8)=true)
  (x9:nsIn K mainGlobals "_law_asked"=some (some (.ref w_)))
  (x_:K.lookup w_=some ⟨Pf,Pb,.func (fnOf "_law_asked" "_law_asked" (aZ jJ) (aT jJ) (ar jJ) .none Pg Ph Pj Pc C9 Pk),Pd⟩)
  (ya:codeIn K C9 "_law_asked"=true)
  (qw:keepIn K (.ref w_)=true)
  (yb:nsIn K mainGlobals "_law_turn_in"=some (some (.ref xb)))
  (yc:K.lookup xb=some ⟨Po,Pl,.func (fnOf "_law_turn_in" "_law_turn_in" (aZ jz) (aT jz) (ar jz) .none Pp Pq Pr Pm C_ Pt),Pn⟩)
  (yd:codeIn K C_ "_law_turn_in"=true)
  (qx:keepIn K (.ref xb)=true)
  (ye:nsIn K mainGlobals "_law_land_due"=some (some (.ref xg)))
  (yf:K.lookup xg=some ⟨Py,Pu,.func (fnOf "_law_land_due" "_law_land_due" (aZ ju) (aT ju) (ar ju) .none Pz PB PC Pw Dc PD),Px⟩)
  (yg:codeIn K Dc "_law_land_due"=true)
  (qy:keepIn K (.ref xg)=true)
  (yh:nsIn K mainGlobals "_law_spoilt"=some (some (.ref xh)))
  (yi:K.lookup xh=some ⟨PM,PH,.func (fnOf "_law_spoilt" "_law_spoilt" (aZ jE) (aT jE) (ar jE) .none PN PQ PR PK Dd PU),PL⟩)
  (yj:codeIn K Dd "_law_spoilt"=true)
  (qz:keepIn K (.ref xh)=true)
  (yk:nsIn K mainGlobals "law"=some (some (.ref xi)))
  (yl:K.lookup xi=some ⟨PY,PV,.func (fnOf "law" "law" (aZ gw) (aT gw) (ar gw) .none Df Dh Di De vN Dj),PX⟩)
  (ym:codeIn K vN "law"=true)
  (yn:keepIn K (.ref xi)=true)
  (vg:nsIn K mainGlobals "len"=some none)
  (vh:nsIn K mainGlobals "abs"=some none)
  (uV:nsIn K mainGlobals "list"=some none)
  (uv:nsIn K mainGlobals "range"=some none)
  (uw:nsIn K mainGlobals "tuple"=some none)
  (vi:nsIn K mainGlobals "any"=some none)
  (vj:nsIn K mainGlobals "all"=some none)
  (qU:nsIn K mainGlobals "isinstance"=some none)
  (uW:nsIn K mainGlobals "bool"=some none)
  (vk:nsIn K mainGlobals "int"=some none)
  (vm:nsIn K mainGlobals "str"=some none)
  (tX:nsIn K mainGlobals "sorted"=some none)
  (vp:nsIn K mainGlobals "min"=some none)
  (vq:nsIn K mainGlobals "max"=some none)
  (vt:nsIn K mainGlobals "sum"=some none)
  (uX:nsIn K mainGlobals "dict"=some none)
  (r6:nsIn K mainGlobals "reversed"=some none)
  (qV:nsIn K mainGlobals "ValueError"=some none)
  (g5:specialIn K (.builtin "object.__class__") "__get__"=some (some (.builtin "getset_descriptor.__get__")))
  (g6:takesIn K (.builtin "object.__class__")=some true)
  (rz:nsIn K mainGlobals "KinError"=some (some (.ref bU)))
  (rA:K.lookup bU=some (excClassObj nm_KinError G4 bU G3 FX dJ true FY Fq FZ Fs F0 F_ Ga Gb Gd Ge "ValueError.__new__"))
  (rB:PySem.W.findIn K (.ref bU) "__getattribute__"=some (some (.builtin "BaseException.__getattribute__")))
  (rC:PySem.W.findIn K (.ref bU) "__getattr__"=some none)
  (rD:PySem.W.findIn K (.ref bU) "__setattr__"=some (some (.builtin "object.__setattr__")))
  (rE:PySem.W.findIn K (.ref bU) "__class__"=some (some (.builtin "object.__class__")))
  (rF:PySem.W.findIn K (.ref bU) "__init__"=some (some (.ref fZ)))
  (rG:isFn K (.ref fZ)=true)
  (rH:keepIn K (.ref bU)=true)
  (rJ:K.lookup fZ=some ⟨Gh,Gf,.func (fnOf "__init__" "KinError.__init__" (aZ fj) (aT fj) (ar fj) (.ref rX) yN yO yP yM rq yQ),Gg⟩)
  (rK:codeIn K rq "KinError.__init__"=true)
  (nG:keepIn K (.ref fZ)=true)
  (rL:K.lookup rX=some ⟨Gk,Gi,.seq #[Gm] Gn,Gj⟩)
  (yR:PySem.W.findIn K (.ref bU) "word"=some none)
  (rM:specialIn K (.ref bU) "__getattribute__"=some (some (.builtin "type.__getattribute__")))
  (rN:readsIn K bU (.type "type")=true)
  (rO:findCls K (.ref bU) (.type "type") "__init__"=some (.val (.ref fZ)))
  (r8:nsIn K mainGlobals "BadLand"=some (some (.ref bK)))
  (r9:K.lookup bK=some (excClassObj nm_BadLand II bK IH G5 (.ref bU::dJ) true G6 Gp G7 Gq G8 G9 G_ Ha Hb Hc "ValueError.__new__"))
  (r_:PySem.W.findIn K (.ref bK) "__getattribute__"=some (some (.builtin "BaseException.__getattribute__")))
  (sd:PySem.W.findIn K (.ref bK) "__getattr__"=some none)
  (se:PySem.W.findIn K (.ref bK) "__setattr__"=some (some (.builtin "object.__setattr__")))
  (sh:PySem.W.findIn K (.ref bK) "__class__"=some (some (.builtin "object.__class__")))
  (sj:PySem.W.findIn K (.ref bK) "__init__"=some (some (.ref iF)))
  (sk:isFn K (.ref iF)=true)
  (sr:keepIn K (.ref bK)=true)
  (su:K.lookup iF=some ⟨Hf,Hd,.func (fnOf "__init__" "BadLand.__init__" (aZ fW) (aT fW) (ar fW) (.ref tK) zi zj zk zh rY zm),He⟩)
  (sv:codeIn K rY "BadLand.__init__"=true)
  (sA:keepIn K (.ref iF)=true)
  (sC:K.lookup tK=some ⟨Hi,Hg,.seq #[Hj] Hk,Hh⟩)
  (nK:PySem.W.findIn K (.ref bK) "word"=some none)
  (sD:nsIn K mainGlobals "BadText"=some (some (.ref bB)))
  (sE:K.lookup bB=some (excClassObj nm_BadText IK bB IJ Hl (.ref bU::dJ) true Hm Gr Hn Gs Ho Hq Hr Hs Ht Hu "ValueError.__new__"))
  (sF:PySem.W.findIn K (.ref bB) "__getattribute__"=some (some (.builtin "BaseException.__getattribute__")))
  (sG:PySem.W.findIn K (.ref bB) "__getattr__"=some none)
  (sH:PySem.W.findIn K (.ref bB) "__setattr__"=some (some (.builtin "object.__setattr__")))
  (sI:PySem.W.findIn K (.ref bB) "__class__"=some (some (.builtin "object.__class__")))
  (sJ:PySem.W.findIn K (.ref bB) "__init__"=some (some (.ref gX)))
  (sL:isFn K (.ref gX)=true)
  (sM:keepIn K (.ref bB)=true)
  (sN:K.lookup gX=some ⟨Hx,Hv,.func (fnOf "__init__" "BadText.__init__" (aZ fm) (aT fm) (ar fm) (.ref tL) zr zt zu zo rZ zv),Hw⟩)
  (sO:codeIn K rZ "BadText.__init__"=true)
  (sP:keepIn K (.ref gX)=true)
  (sQ:K.lookup tL=some ⟨HA,Hy,.seq #[HB] HC,Hz⟩)
  (iG:PySem.W.findIn K (.ref bB) "word"=some none)
  (sR:nsIn K mainGlobals "Unequal"=some (some (.ref bH)))
  (sS:K.lookup bH=some (excClassObj nm_Unequal IM bH IL HD (.ref bU::dJ) true HE Gu HF Gv HG HH HI HJ HK HL "ValueError.__new__"))
  (sT:PySem.W.findIn K (.ref bH) "__getattribute__"=some (some (.builtin "BaseException.__getattribute__")))
  (sU:PySem.W.findIn K (.ref bH) "__getattr__"=some none)
  (sV:PySem.W.findIn K (.ref bH) "__setattr__"=some (some (.builtin "object.__setattr__")))
  (sW:PySem.W.findIn K (.ref bH) "__class__"=some (some (.builtin "object.__class__")))
  (sX:PySem.W.findIn K (.ref bH) "__init__"=some (some (.ref jP)))
  (sY:isFn K (.ref jP)=true)
  (sZ:keepIn K (.ref bH)=true)
  (s_:K.lookup jP=some ⟨HQ,HM,.func (fnOf "__init__" "Unequal.__init__" (aZ jv) (aT jv) (ar jv) .none HR HS HU HN zw HV),HP⟩)
  (tf:codeIn K zw "Unequal.__init__"=true)
  (tj:keepIn K (.ref jP)=true)
  (nL:PySem.W.findIn K (.ref bH) "word"=some none)
  (qB:PySem.W.findIn K (.ref bH) "section"=some none)
  (qN:nsIn K mainGlobals "LEAST_SIZE"=some (some (.int (2) Fh)))
  (qW:nsIn K mainGlobals "MOST_SIZE"=some (some (.int (8) Ft)))
  (tm:nsIn K mainGlobals "FIGURES"=some (some (.str "0123456789" HW)))
  (ux:nsIn K mainGlobals "LAND"=some (some (.str "land" KJ)))
  (uy:nsIn K mainGlobals "Land"=some (some (.ref bV)))
  (uz:makesIn K bV=true)
  (uA:keepIn K (.ref bV)=true)
  (tY:plainGet K bV Str.empty=true)
  (uB:hasDictIn K bV=true)
  (tZ:plainOver K bV=true)
  (uC:PySem.W.findIn K (.ref bV) "__setattr__"=some (some (.builtin "object.__setattr__")))
  (qX:PySem.W.findIn K (.ref bV) "size"=some none)
  (qH:PySem.W.findIn K (.ref bV) "mother"=some none)
  (qI:PySem.W.findIn K (.ref bV) "father"=some none)
  (qY:PySem.W.findIn K (.ref bV) "wife"=some none)
  (qO:PySem.W.findIn K (.ref bV) "steps"=some none)
  (fa_Land_init:PySem.W.findIn K (.ref bV) "__init__"=some (some (.ref lr)))
  (qZ:isFn K (.ref lr)=true)
  (q_:K.lookup lr=some ⟨Fx,Fu,.func (fnOf "__init__" "Land.__init__" (aZ iC) (aT iC) (ar iC) .none Fy Fz FA Fv yE FC),Fw⟩)
  (rb:codeIn K yE "Land.__init__"=true)
  (rf:keepIn K (.ref lr)=true)
  (qA:PySem.W.mroIn K bB (.ref bU)=some true)
  (qC:PySem.W.mroIn K bK (.ref bK)=some true)
  (qD:PySem.W.mroIn K bK (.ref bH)=some false)
  (qE:PySem.W.mroIn K bH (.ref bH)=some true)
  (qF:PySem.W.mroIn K bH (.ref bK)=some false)
  :∃fd:FuncData,(∀(s:Shared) (v:Value),BindsTo s fd ⟨[v],[]⟩ [("_law_script",v)])/\∀base:Heap,K.In base->base.Ns mainGlobals mg->aG l.prog w K mg base (gN l.prog w) 11 fa fd pG (o9 K):=by
 have e:=wA.symm.trans (mg_of X G yk);cases e;have F1:=bL (st:=jR) l1 c1 k1;have b1:=F1.binds (ps:=dv) λ_ _ _ _ _ _ us hl=>dz (C:=λus=>bindArgs _ ⟨us,[]⟩=pure (List.zip _ us)) us hl λ_=>rfl;have m1:=mg_of X G a1;have F2:=bL (st:=j4) l2 c2 k2;have b2:=F2.binds (ps:=jm) λ_ _ _ _ _ _ us hl=>dz (C:=λus=>bindArgs _ ⟨us,[]⟩=pure (List.zip _ us)) us hl λ_=>rfl;have m2:=mg_of X G a2;have F3:=bL (st:=jV) l3 c3 k3;have b3:=F3.binds (ps:=dS) λ_ _ _ _ _ _ us hl=>dA (C:=λus=>bindArgs _ ⟨us,[]⟩=pure (List.zip _ us)) us hl λ_ _=>rfl;have m3:=mg_of X G a3;have F4:=bL (st:=kn) l4 c4 k4;have b4:=F4.binds (ps:=eh) λ_ _ _ _ _ _ us hl=>dz (C:=λus=>bindArgs _ ⟨us,[]⟩=pure (List.zip _ us)) us hl λ_=>rfl;have m4:=mg_of X G a4;have F5:=bL (st:=jB) l5 c5 k5;have b5:=F5.binds (ps:=dv) λ_ _ _ _ _ _ us hl=>dz (C:=λus=>bindArgs _ ⟨us,[]⟩=pure (List.zip _ us)) us hl λ_=>rfl;have m5:=mg_of X G a5;have F6:=bL (st:=iA) l6 c6 k6;have b6:=F6.binds (ps:=gD) λ_ _ _ _ _ _ us hl=>dz (C:=λus=>bindArgs _ ⟨us,[]⟩=pure (List.zip _ us)) us hl λ_=>rfl;have m6:=mg_of X G a6;have F7:=bL (st:=iz) l7 c7 k7;have b7:=F7.binds (ps:=ie) λ_ _ _ _ _ _ us hl=>wL (C:=λus=>bindArgs _ ⟨us,[]⟩=pure (List.zip _ us)) us hl λ_ _ _=>rfl;have m7:=mg_of X G a7;have F8:=bL (st:=jN) l8 c8 k8;have b8:=F8.binds (ps:=dS) λ_ _ _ _ _ _ us hl=>dA (C:=λus=>bindArgs _ ⟨us,[]⟩=pure (List.zip _ us)) us hl λ_ _=>rfl;have m8:=mg_of X G a8;have F9:=bL (st:=jx) l9 c9 k9;have b9:=F9.binds (ps:=eh) λ_ _ _ _ _ _ us hl=>dz (C:=λus=>bindArgs _ ⟨us,[]⟩=pure (List.zip _ us)) us hl λ_=>rfl;have m9:=mg_of X G a9;have Eu:=bL (st:=jS) xk xm qi;have Tc:=Eu.binds (ps:=kH) λ_ _ _ _ _ _ us hl=>dA (C:=λus=>bindArgs _ ⟨us,[]⟩=pure (List.zip _ us)) us hl λ_ _=>rfl;have Td:=mg_of X G xj;have Ew:=bL (st:=jC) xv xw qj;have Te:=Ew.binds (ps:=cQ) λ_ _ _ _ _ _ us hl=>dz (C:=λus=>bindArgs _ ⟨us,[]⟩=pure (List.zip _ us)) us hl λ_=>rfl;have Tf:=mg_of X G xt;have Ex:=bL (st:=jy) xy xA qk;have Tg:=Ex.binds (ps:=cQ) λ_ _ _ _ _ _ us hl=>dz (C:=λus=>bindArgs _ ⟨us,[]⟩=pure (List.zip _ us)) us hl λ_=>rfl;have Th:=mg_of X G xx;have Ey:=bL (st:=js) xC xD ql;have Ti:=Ey.binds (ps:=kI) λ_ _ _ _ _ _ us hl=>dz (C:=λus=>bindArgs _ ⟨us,[]⟩=pure (List.zip _ us)) us hl λ_=>rfl;have Tj:=mg_of X G xB;have Ez:=bL (st:=jD) xE xF qm;have Tn:=Ez.binds (ps:=["land"]) λ_ _ _ _ _ _ us hl=>dz (C:=λus=>bindArgs _ ⟨us,[]⟩=pure (List.zip _ us)) us hl λ_=>rfl;have To:=mg_of X G mY;have EA:=bL (st:=jH) xH xI qo;have Tp:=EA.binds (ps:=cQ) λ_ _ _ _ _ _ us hl=>dz (C:=λus=>bindArgs _ ⟨us,[]⟩=pure (List.zip _ us)) us hl λ_=>rfl;have Tq:=mg_of X G xG;have EB:=bL (st:=jO) xK xM qp;have Tr:=EB.binds (ps:=mB) λ_ _ _ _ _ _ us hl=>dA (C:=λus=>bindArgs _ ⟨us,[]⟩=pure (List.zip _ us)) us hl λ_ _=>rfl;have Ts:=mg_of X G xJ;have EC:=bL (st:=lC) xO xP qq;have Tt:=EC.binds (ps:=kZ) λ_ _ _ _ _ _ us hl=>dA (C:=λus=>bindArgs _ ⟨us,[]⟩=pure (List.zip _ us)) us hl λ_ _=>rfl;have Tu:=mg_of X G xN;have ED:=bL (st:=lp) xR xS qr;have Tv:=ED.binds (ps:=k_) λ_ _ _ _ _ _ us hl=>dA (C:=λus=>bindArgs _ ⟨us,[]⟩=pure (List.zip _ us)) us hl λ_ _=>rfl;have Tw:=mg_of X G xQ;have EE:=bL (st:=lE) xU xV qt;have Tx:=EE.binds (ps:=nc) λ_ _ _ _ _ _ us hl=>dA (C:=λus=>bindArgs _ ⟨us,[]⟩=pure (List.zip _ us)) us hl λ_ _=>rfl;have Tz:=mg_of X G xT;have EF:=bL (st:=jT) xX xY qu;have TB:=EF.binds (ps:=mz) λ_ _ _ _ _ _ us hl=>dA (C:=λus=>bindArgs _ ⟨us,[]⟩=pure (List.zip _ us)) us hl λ_ _=>rfl;have TC:=mg_of X G xW;have EG:=bL (st:=jI) x3 x4 qv;have TH:=EG.binds (ps:=i4) λ_ _ _ _ _ _ us hl=>dA (C:=λus=>bindArgs _ ⟨us,[]⟩=pure (List.zip _ us)) us hl λ_ _=>rfl;have TK:=mg_of X G xZ;have EH:=bL (st:=iD) x6 x8 nA;have EI:=EH.binds (ps:=fS) λ_ _ _ _ _ _ us hl=>dA (C:=λus=>bindArgs _ ⟨us,[]⟩=pure (List.zip _ us)) us hl λ_ _=>rfl;have EJ:=mg_of X G x5;have EK:=bL (st:=jJ) x_ ya qw;have TL:=EK.binds (ps:=fH) λ_ _ _ _ _ _ us hl=>dz (C:=λus=>bindArgs _ ⟨us,[]⟩=pure (List.zip _ us)) us hl λ_=>rfl;have TM:=mg_of X G x9;have EL:=bL (st:=jz) yc yd qx;have TN:=EL.binds (ps:=mC) λ_ _ _ _ _ _ us hl=>dz (C:=λus=>bindArgs _ ⟨us,[]⟩=pure (List.zip _ us)) us hl λ_=>rfl;have TQ:=mg_of X G yb;have EM:=bL (st:=ju) yf yg qy;have TR:=EM.binds (ps:=fH) λ_ _ _ _ _ _ us hl=>dz (C:=λus=>bindArgs _ ⟨us,[]⟩=pure (List.zip _ us)) us hl λ_=>rfl;have TU:=mg_of X G ye;have EN:=bL (st:=jE) yi yj qz;have TV:=EN.binds (ps:=mD) λ_ _ _ _ _ _ us hl=>dA (C:=λus=>bindArgs _ ⟨us,[]⟩=pure (List.zip _ us)) us hl λ_ _=>rfl;have TX:=mg_of X G yh;have TY:=bL (st:=gw) yl ym yn;have bl:Bl mg:=⟨mg_none_of X G vg,mg_none_of X G vh,mg_none_of X G uV,mg_none_of X G uv,mg_none_of X G uw,mg_none_of X G vi,mg_none_of X G vj,mg_none_of X G qU,mg_none_of X G uW,mg_none_of X G vk,mg_none_of X G vm,mg_none_of X G tX,mg_none_of X G vp,mg_none_of X G vq,mg_none_of X G vt,mg_none_of X G uX,mg_none_of X G r6,mg_none_of X G qV⟩;have nJ:aW K bU:=Ka rA rB rC rD rE g5 g6;have cZ:=mg_of X G rz;have T3:dI K bU fZ:=dI.of nJ rF rG rH;have zx:eI K "__init__" "KinError.__init__" fj fZ _:=⟨⟨_,_,_,_,_,_,_,_,_,_,rfl,rJ,rK⟩,nG⟩;have ey:Binds K (fnOf "__init__" "KinError.__init__" (aZ fj) (aT fj) (ar fj) (.ref rX) yN yO yP yM rq yQ) dR []:=λs us KX hl=>wL (C:=λus=>BindsTo s _ ⟨us,[]⟩ (List.zip _ (us++[]))) us (by rw[Yx] at hl;exact hl) λ_ _ _=>BindsTo.of_defaults rfl (KX _ _ rL) rfl rfl rfl;have eo:iR K bU "__init__" fZ:=⟨rM,rN,rO,nG⟩;have iH:aW K bK:=ud r9 r_ sd se sh g5 g6;have nR:=mg_of X G r8;have IP:dI K bK iF:=dI.of iH sj sk sr;have IQ:eI K "__init__" "BadLand.__init__" fW iF _:=⟨⟨_,_,_,_,_,_,_,_,_,_,rfl,su,sv⟩,sA⟩;have IS:Binds K (fnOf "__init__" "BadLand.__init__" (aZ fW) (aT fW) (ar fW) (.ref tK) zi zj zk zh rY zm) eg []:=λs us KX hl=>dA (C:=λus=>BindsTo s _ ⟨us,[]⟩ (List.zip _ (us++[]))) us (by rw[Yx] at hl;exact hl) λ_ _=>BindsTo.of_defaults rfl (KX _ _ sC) rfl rfl rfl;have fq:aW K bB:=ud sE sF sG sH sI g5 g6;have lI:=mg_of X G sD;have zS:dI K bB gX:=dI.of fq sJ sL sM;have zT:eI K "__init__" "BadText.__init__" fm gX _:=⟨⟨_,_,_,_,_,_,_,_,_,_,rfl,sN,sO⟩,sP⟩;have zU:Binds K (fnOf "__init__" "BadText.__init__" (aZ fm) (aT fm) (ar fm) (.ref tL) zr zt zu zo rZ zv) eg []:=λs us KX hl=>dA (C:=λus=>BindsTo s _ ⟨us,[]⟩ (List.zip _ (us++[]))) us (by rw[Yx] at hl;exact hl) λ_ _=>BindsTo.of_defaults rfl (KX _ _ sQ) rfl rfl rfl;have iI:aW K bH:=ud sS sT sU sV sW g5 g6;have nS:=mg_of X G sR;have IT:dI K bH jP:=dI.of iI sX sY sZ;have zV:=bL (st:=jv) s_ tf tj;have IU:=zV.binds (ps:=pD) λ_ _ _ _ _ _ us hl=>dA (C:=λus=>bindArgs _ ⟨us,[]⟩=pure (List.zip _ us)) us hl λ_ _=>rfl;have jF:=mg_of X G qN;have jK:=mg_of X G qW;have tH:=mg_of X G tm;have ko:=mg_of X G ux;have BW:=mg_of X G uy;have LO:gL K bV:=⟨tY,uB,tZ,uC⟩;have rP:=bL (st:=iC) q_ rb rf;have yS:=rP.binds (ps:=gE) λ_ _ _ _ _ _ us hl=>RT (C:=λus=>bindArgs _ ⟨us,[]⟩=pure (List.zip _ us)) us hl λ_ _ _ _=>rfl;have Bg:Mk K bV lr:=⟨uz,fa_Land_init,qZ,uA⟩;refine⟨fnOf "law" "law" (aZ gw) (aT gw) (ar gw) .none Df Dh Di De vN Dj,λs v=>.of_eq rfl,λbase _ _=>?_⟩;have eR:aG l.prog w K mg base aR 1 fZ _ dR (iS K):=FP zx bl;have nQ:kj l.prog w K mg base "BadLand" "no land" bK:=⟨iF,_,IP,GR IQ eo eR ey cZ iH nK,IS,nR,iH,nK⟩;have jU:kj l.prog w K mg base "BadText" "no text" bB:=⟨gX,_,zS,GS zT eo eR ey cZ fq iG,zU,lI,fq,iG⟩;have tG:ue l.prog w K mg base 2 "Unequal" bH ["section"] vL:=⟨jP,_,IT,G0 zV eo eR ey cZ iI nL qB,IU,nS,iI,nL⟩;have rW:oq l.prog w K mg base "BadText" "no text" bB:=⟨gX,_,zS,FV zT eo (Fo zx bl) ey cZ fq iG,zU,lI,fq,iG⟩;have f_:HasFn l.prog w K mg base 1 "is_turn" dv (mx K):=⟨_,_,GV F1 bl,b1,k1,m1⟩;have j6:HasFn l.prog w K mg base 1 "still" jm ot:=⟨_,_,JI F2 bl,b2,k2,m2⟩;have rS:HasFn l.prog w K mg base 1 "followed" dS (u9 K):=⟨_,_,FT F8 bl,b8,k8,m8⟩;have qK:HasFn l.prog w K mg base 1 "turned_back" eh vK:=⟨_,_,E4 F9 bl,b9,k9,m9⟩;have iB:HasFn l.prog w K mg base 2 "check_turn" dv (oZ K):=⟨_,_,LJ F5 f_,b5,k5,m5⟩;have gb:HasFn l.prog w K mg base 3 "behind" dS (my K):=⟨_,_,My F3 iB rS bl,b3,k3,m3⟩;have fE:HasFn l.prog w K mg base 3 "back" eh pC:=⟨_,_,Mz F4 iB qK bl,b4,k4,m4⟩;have gS:HasFn l.prog w K mg base 2 "check_rows" gD (oM K):=⟨_,_,Kw F6 f_ jF jK bl,b6,k6,m6⟩;have FD:kF l.prog w K mg base 4 "check_rows" gD (ug K bK):=⟨_,_,JK F6 f_ jF jK nQ bl,b6,k6,m6⟩;have lj:HasFn l.prog w K mg base 4 "check_parents" ie (tF K):=⟨_,_,GW F7 gb bl,b7,k7,m7⟩;have EW:kF l.prog w K mg base 4 "check_parents" ie (uS K bH):=⟨_,_,Kz F7 gb tG bl,b7,k7,m7⟩;have lc:mj K bV:=⟨LO,qX,qH,qI,qY,qO⟩;have lX:u7 l.prog w K mg base 5 "Land" bV gE (uQ bV):=⟨_,_,Bg,Kx rP lc gS lj fE j6 bl,yS,BW⟩;have LP:uO l.prog w K mg base 5 "Land" bV gE (uh bV bK bH):=⟨_,_,Bg,JL rP lc FD EW fE j6 bl,yS,BW⟩;have tJ:HasFn l.prog w K mg base 7 "land_of" kH (tS bV):=⟨_,_,GY Eu gS gb lX,Tc,qi,Td⟩;have qQ:HasFn l.prog w K mg base 1 "is_figures" cQ um:=⟨_,_,Fe Ew tH bl,Te,qj,Tf⟩;have qL:HasFn l.prog w K mg base 1 "sections_of" cQ uo:=⟨_,_,E6 Ex bl,Tg,qk,Th⟩;have lh:HasFn l.prog w K mg base 1 "shown_sections" kI (vc K):=⟨_,_,ES Ey bl,Ti,ql,Tj⟩;have qS:HasFn l.prog w K mg base 2 "shown_land" ["land"] (vd bV):=⟨_,_,Fg Ez lc lh ko bl,Tn,qm,To⟩;have rV:kF l.prog w K mg base 4 "words_of" mB (uq bB):=⟨_,_,FU EB jU bl,Tr,qp,Ts⟩;have rp:oS false l.prog w K mg base 7 "read_land" cQ (uU bV bB):=⟨_,_,Fp EA rV qQ qL LP ko jU rW nR iH nS iI qC qD qE qF bl,Tp,qo,Tq⟩;have iE:HasFn l.prog w K mg base 1 "_law_cell" kZ (uJ K):=⟨_,_,Kq EC bl.kz,Tt,qq,Tu⟩;have jL:HasFn l.prog w K mg base 1 "_law_draws" k_ (oj K):=⟨_,_,JD ED bl.Mb,Tv,qr,Tw⟩;have rT:HasFn l.prog w K mg base 1 "_law_turn" nc uK:=⟨_,_,Kr EE bl.kh bl.gc bl.fA,Tx,qt,Tz⟩;have nU:HasFn l.prog w K mg base 2 "_law_row" mz u_:=⟨_,_,GZ EF jL rT bl,TB,qu,TC⟩;have jM:HasFn l.prog w K mg base 1 "_law_after" i4 (o5 K):=⟨_,_,Fn EG bl,TH,qv,TK⟩;have gU:HasFn l.prog w K mg base 4 "_law_same" fS (hG 4):=⟨_,_,A7 EH EI nA EJ bl 4,EI,nA,EJ⟩;have lq:HasFn l.prog w K mg base 9 "_law_asked" fH (hJ bV):=⟨_,_,JM EK lc rp cZ nJ lI fq iG qA bl,TL,qw,TM⟩;have qM:HasFn l.prog w K mg base 1 "_law_turn_in" mC ve:=⟨_,_,G1 EL bl,TN,qx,TQ⟩;have nB:HasFn l.prog w K mg base 3 "_law_land_due" fH (hJ bV):=⟨_,_,FW EM qM jM bl,TR,qy,TU⟩;have qT:HasFn l.prog w K mg base 2 "_law_spoilt" mD tT:=⟨_,_,IE EN jL bl,TV,qz,TX⟩;exact LN TY iE nU jM gU qS tJ lq nB qT bl
theorem walk{l:PySem.W.OpenLaw}{q:Program}{loose:List Str}{XP:(Str->Option Value)->Heap->Prop}{YP:World->Heap->Prop}{d:DefRec}{K:Params->ae}(hn:l.most=some 63)(mO:d.params.defaults=[])
  (hY:∀(w:World) (h:Heap),YP w h->(K w.params).In h)
  (F:∀(w:World) (mg:aF) (fa:Addr) (h:Heap),(K w.params).In h->h.Ns mainGlobals mg->mg d.name=some (.ref fa)->
   ∃fd:FuncData,(∀(s:Shared) (u:Value),BindsTo s fd ⟨[u],[]⟩ [("_law_script",u)])/\∀base:Heap,(K w.params).In base->base.Ns mainGlobals mg->aG l.prog w (K w.params) mg base (gN l.prog w) 11 fa fd pG (o9 (K w.params))):
  PySem.W.WalkO q loose XP YP l.row.toRowW d [] (λf vs=>PySem.call f vs):=
 L2.JY (n:=63) (k:=11) (x:="_law_script") (CX:=λw=>gN l.prog w) (sp:=λw=>o9 (K w.params)) hn (by decide) mO ⟨rfl,by decide,by decide,rfl⟩ hY F (λ_ _ a ns hl _ hS=>⟨a,ns,rfl,hS,hl,λ_=>rfl⟩) λ_ _ _ _ _ h=>by obtain⟨_,_,_,_,_,_,_,_,_,_,_,_,_,_,z⟩:=h;exact z
end wk
namespace PySem.W.Fast
def tw10260687435322758493:=0
def tw12511501625826530288:=0
def tw17362121426673040738:=0
def tw12627764583651393986:=0
def tw4774541844257222147:=0
def tw11877215525010532163:=0
def tw2075081918252433156:=0
def tw13978118631598630693:=0
def tw9825330181517706632:=0
def tw941009160469666602:=0
def tw15738884709139984908:=0
def tw17824308986211995918:=0
def tw15772275154421110574:=0
def tw14913767678487516110:=0
def tw13882452695461862607:=0
def tw7505870361020291695:=0
def tw2514024042446801008:=0
def tw14774337413158844880:=0
def tw4581022904034474512:=0
def tw9563676803386101073:=0
def tw13162047604431112052:=0
def tw17225432306444939223:=0
def tw2865955964434621113:=0
def tw4388656293692793721:=0
def tw10540196939244833403:=0
def tw3961580569225693694:=0
def tw13960500778045994642:=0
def tw4923637670477500399:=0
def tw5160538606053323497:=0
def tw8676588183054182906:=0
def tw11000595874120821129:=0
def tw15287549696321336407:=0
def tw910579254571211047:=0
def tw333717837420008392:=0
def tw10364426949984382461:=0
def tw7820620852613937920:=0
def tw9206659163342149756:=0
def tw8919190777778758404:=0
def tw8914958386245394130:=0
def tw3539514026736661973:=0
def tw16260569341609816848:=0
def tw10096836385165465974:=0
def tw4485009651545628662:=0
def tw11283816505629752976:=0
def tw7269213403244913713:=0
def tw1959524427688015038:=0
def tw2723165403832836648:=0
def tw14328929869194338218:=0
def tw8096585994490557659:=0
def tw15624177746102094854:=0
def tw12828778255902315639:=0
def tw16496020892557498757:=0
def tw13828855887733899242:=0
def tw5973838250121981357:=0
def tw18420306544335088850:=0
def tw4089452176674334430:=0
def tw3387719759282101155:=0
def tw4564879897831149934:=0
def tw8157182589460128567:=0
def tw14424558794192675503:=0
def tw9842090966911044563:=0
def tw479809663070484077:=0
def tw1614890747148505817:=0
def tw6353399852797569329:=0
def tw10740235367393353814:=0
def tw15655336606130630957:=0
def tw3246798630072654873:=0
def tw2089244895492782021:=0
def tw13349516239318151146:=0
def tw17831951365564304495:=0
def tw15989940761953348598:=0
def tw2754043883957678544:=0
def tw6690562496559302549:=0
def tw4781329407969895546:=0
def tw12795383377504660431:=0
def tw10757345696405583708:=0
def tw5708565490538704686:=0
def tw11443940551318225205:=0
def tw6299029300516089917:=0
def tw3071915902120845481:=0
def tw17918202384899320888:=0
def tw15340280529241397867:=0
def tw16958308714333356194:=0
def tw4479155824179126754:=0
def tw3754603711652165630:=0
def tw14708672864448431806:=0
def tw16361746616732849037:=0
def tw106411576221890985:=0
def tw11718493588944597240:=0
def tw8642408856524947308:=0
def tw9971143736197266583:=0
def tw8648228068457419820:=0
def tw17413129750567363596:=0
def tw8256005269335548492:=0
def tw11974952533325632922:=0
def tw9870941422934738039:=0
def tw1304369059121153342:=0
def tw1918573687139650513:=0
def tw1840619051502946305:=0
def tw5855443116331084055:=0
def tw8740207992560592205:=0
def tw5091402336410523610:=0
def tw2466690274016351023:=0
def tw17738592127314606823:=0
def tw18164834054494225200:=0
def tw3260790683608754311:=0
def tw17132110822893902737:=0
def tw8357783421921142098:=0
def tw9177422192025743580:=0
def tw14377384926200625064:=0
def tw9526973989544764036:=0
def tw1139834486961259985:=0
def tw2091545517974329570:=0
def tw16868793148591398365:=0
def tw10858880222118198561:=0
def tw14918323774165573690:=0
def tw8123891666531449968:=0
def tw13465226358517990790:=0
def tw10263572334777914441:=0
def tw7493623300207450437:=0
def tw2153653490351355261:=0
def tw5561561581097797726:=0
def tw6150486438407799236:=0
def tw17391697380956742964:=0
def tw3682531208454005839:=0
def tw15767737993368545269:=0
def tw11463441810015428573:=0
def tw11525638668694270171:=0
def tw7457422934602165352:=0
def tw17980946751043887628:=0
def tw1043291504471194111:=0
def tw14547241915340234986:=0
def tw1279486005834536595:=0
def tw6347137609174967348:=0
def tw7061628520783674125:=0
def tw8425295472053985732:=0
def tw437857242354360124:=0
def tw16691182996055698423:=0
def tw59972766676181958:=0
def tw3592241272438614259:=0
def tw2412920218566043101:=0
def tw1143529497003420682:=0
def tw1102835580918842333:=0
def tw16799551416095324315:=0
def tw16038600964086954134:=0
def tw10177713514123567376:=0
def tw16488253917615307946:=0
def tw7077803029149310364:=0
def tw15730476828521209943:=0
def tw14750709798463630469:=0
def tw8731736542762411425:=0
def tw4125916814524698924:=0
def tw10979994654250154020:=0
def tw3264482665927358032:=0
def tw7018722998855865499:=0
def tw4794636011330499558:=0
def tw4048618309306105957:=0
def tw5157441213743056839:=0
def tw74131267525813460:=0
def tw4648585084440935863:=0
def tw5171199808909461409:=0
def tw9926240317853335075:=0
def tw8187862857640180221:=0
def tw17667474619722616580:=0
def tw17085800225484982757:=0
def tw16454846947112052757:=0
def tw13209636266691003519:=0
def tw9783993748833691300:=0
def tw9640351267960632406:=0
def tw9131383367495041766:=0
def tw6669765502690896975:=0
def tw5843741517295325523:=0
def tw3960296479906849857:=0
def tw3117457216683327636:=0
def tw2596071979700922383:=0
def tw1974266988836371728:=0
def tw17929429254530474782:=0
def tw16795327436469324087:=0
def tw16750483290260709770:=0
def tw13845234753346810752:=0
def tw11451652485225420114:=0
def tw10763808329174017990:=0
def tw8182268162978426916:=0
def tw4971880231613919190:=0
def tw11006137609633046144:=0
def tw7342857101322517999:=0
def tw5682141014216536449:=0
def tw4651450763975459023:=0
def tw3234332189349373321:=0
def tw9911531032352548030:=0
def tw17555389982728787568:=0
def tw1493999568563228516:=0
def tw16230282453154682041:=0
def tw14566178398031482088:=0
def tw13385762877996689209:=0
def tw5304601184108332919:=0
def tw8365879399623176289:=0
def tw8183804234838435612:=0
def tw4939970111050497765:=0
def tw3807353659783222882:=0
def tw3499649100908583627:=0
def tw2544923653925235338:=0
def tw2014802033141941802:=0
def tw1784014119980317100:=0
def tw15119250802224216730:=0
def tw14463772706679779209:=0
def tw12675543291440652920:=0
def tw5631073221005408932:=0
def tw7752097501197917753:=0
def tw4571167775941155196:=0
def tw3978665129093545766:=0
def tw1893845489825512961:=0
def tw18301211066815766251:=0
def tw8374097066130926186:=0
def tw2032713846788965807:=0
def tw17579432374448202506:=0
def tw16711243303389173324:=0
def tw9151854217651186394:=0
def tw7183044892360692122:=0
def tw13207386003499026847:=0
def tw1095565715183630116:=0
def tw3784466792943871280:=0
def tw11613555217003550089:=0
def tw11394268185696440872:=0
def tw11459682715991553778:=0
def tw1773178703091440335:=0
def tw9990425182534127606:=0
def tw8492439572544463871:=0
def tw8287043272490290724:=0
def tw6752164008289336159:=0
def tw5719488539111022277:=0
def tw4184697449397876668:=0
def tw3785231996154259457:=0
def tw2770873267699254418:=0
def tw2409676838055341177:=0
def tw1838544418747319953:=0
def tw17562730512834344713:=0
def tw17135031472423890111:=0
def tw1646436204731702069:=0
def tw15100594616829319667:=0
def tw13828683187244611788:=0
def tw13758530147646028125:=0
def tw956242014162542182:=0
def tw946481071447105941:=0
def tw9215512971899425429:=0
def tw9190514757505776430:=0
def tw8245737936769759015:=0
def tw799348701010331789:=0
def tw7366321887769448755:=0
def tw707143871961672205:=0
def tw6556824911431600059:=0
def tw6543516634184803302:=0
def tw6345129483919612419:=0
def tw5841572498701306752:=0
def tw5632527591017433348:=0
def tw5225909103138472194:=0
def tw4848882155419861583:=0
def tw4642088635278532958:=0
def tw418048256441352285:=0
def tw3878600156762761062:=0
def tw3644451268084660347:=0
def tw355977001928301082:=0
def tw3547435314338097869:=0
def tw312025006793012383:=0
def tw2441062014940073356:=0
def tw18214213973284831877:=0
def tw17234435050401075137:=0
def tw17119568050309961540:=0
def tw16371591702484434316:=0
def tw16204121051396077446:=0
def tw1605700223721664771:=0
def tw16034693965445611097:=0
def tw1563494918739109070:=0
def tw15331740986953807709:=0
def tw15311279903741393259:=0
def tw15249721097490816426:=0
def tw15224957858862718441:=0
def tw14717218102652514090:=0
def tw14605503584457622985:=0
def tw13941720512928190850:=0
def tw13888689068527065433:=0
def tw13796723661504248938:=0
def tw13789122318561257990:=0
def tw13568515108257014644:=0
def tw13092885902280729412:=0
def tw1293958512965014724:=0
def tw12896488727538774265:=0
def tw12840313122965559245:=0
def tw12537787111224999203:=0
def tw11773670047289879917:=0
def tw11485272365692998213:=0
def tw1147619032665504028:=0
def tw11414264796979973733:=0
def tw10912418291510342514:=0
def tw10828693460699908699:=0
def tw10489789612855070171:=0
def tw10291996396918761942:=0
def tw10226634458471813076:=0
def tw10167872098364197636:=0
end PySem.W.Fast
open PySem PySem.W PyProof.Rows
set_option maxRecDepth 100000 in
set_option maxHeartbeats 0 in
theorem PySem.Challenge.cw_kinhearth_k47_lands_as_texts_holds : PySem.Challenge.rw_kinhearth_k47_lands_as_texts.Holds := by
 w_on; o_law; k_head; (case hw=>w_witness2)
 k_fill
 refine wk.walk (l:=PySem.Challenge.rw_kinhearth_k47_lands_as_texts) rfl rfl (λ w h Y=>kIn_of Y) ?F
 case F=>
  intro w mg fa h KX G mP
  refine' wk.all_mk KX G mP ?a1 ?l1 ?c1 ?k1 ?a2 ?l2 ?c2 ?k2 ?a3 ?l3 ?c3 ?k3 ?a4 ?l4 ?c4 ?k4 ?a5 ?l5 ?c5 ?k5 ?a6 ?l6 ?c6 ?k6 ?a7 ?l7 ?c7 ?k7 ?a8 ?l8 ?c8 ?k8 ?a9 ?l9 ?c9 ?k9 ?xj ?xk ?xm ?qi ?xt ?xv ?xw ?qj ?xx ?xy ?xA ?qk ?xB ?xC ?xD ?ql ?mY ?xE ?xF ?qm ?xG ?xH ?xI ?qo ?xJ ?xK ?xM ?qp ?xN ?xO ?xP ?qq ?xQ ?xR ?xS ?qr ?xT ?xU ?xV ?qt ?xW ?xX ?xY ?qu ?xZ ?x3 ?x4 ?qv ?x5 ?x6 ?x8 ?nA ?x9 ?x_ ?ya ?qw ?yb ?yc ?yd ?qx ?ye ?yf ?yg ?qy ?yh ?yi ?yj ?qz ?yk ?yl ?ym ?yn ?vg ?vh ?uV ?uv ?uw ?vi ?vj ?qU ?uW ?vk ?vm ?tX ?vp ?vq ?vt ?uX ?r6 ?qV ?g5 ?g6 ?rz ?rA ?rB ?rC ?rD ?rE ?rF ?rG ?rH ?rJ ?rK ?nG ?rL ?yR ?rM ?rN ?rO ?r8 ?r9 ?r_ ?sd ?se ?sh ?sj ?sk ?sr ?su ?sv ?sA ?sC ?nK ?sD ?sE ?sF ?sG ?sH ?sI ?sJ ?sL ?sM ?sN ?sO ?sP ?sQ ?iG ?sR ?sS ?sT ?sU ?sV ?sW ?sX ?sY ?sZ ?s_ ?tf ?tj ?nL ?qB ?qN ?qW ?tm ?ux ?uy ?uz ?uA ?tY ?uB ?tZ ?uC ?qX ?qH ?qI ?qY ?qO ?fa_Land_init ?qZ ?q_ ?rb ?rf ?qA ?qC ?qD ?qE ?qF
  (case a1=>k_is)
  (case l1=>k_is)
  (case c1=>k_is)
  (case k1=>k_is)
  (case a2=>k_is)
  (case l2=>k_is)
  (case c2=>k_is)
  (case k2=>k_is)
  (case a3=>k_is)
  (case l3=>k_is)
  (case c3=>k_is)
  (case k3=>k_is)
  (case a4=>k_is)
  (case l4=>k_is)
  (case c4=>k_is)
  (case k4=>k_is)
  (case a5=>k_is)
  (case l5=>k_is)
  (case c5=>k_is)
  (case k5=>k_is)
  (case a6=>k_is)
  (case l6=>k_is)
  (case c6=>k_is)
  (case k6=>k_is)
  (case a7=>k_is)
  (case l7=>k_is)
  (case c7=>k_is)
  (case k7=>k_is)
  (case a8=>k_is)
  (case l8=>k_is)
  (case c8=>k_is)
  (case k8=>k_is)
  (case a9=>k_is)
  (case l9=>k_is)
  (case c9=>k_is)
  (case k9=>k_is)
  (case xj=>k_is)
  (case xk=>k_is)
  (case xm=>k_is)
  (case qi=>k_is)
  (case xt=>k_is)
  (case xv=>k_is)
  (case xw=>k_is)
  (case qj=>k_is)
  (case xx=>k_is)
  (case xy=>k_is)
  (case xA=>k_is)
  (case qk=>k_is)
  (case xB=>k_is)
  (case xC=>k_is)
  (case xD=>k_is)
  (case ql=>k_is)
  (case mY=>k_is)
  (case xE=>k_is)
  (case xF=>k_is)
  (case qm=>k_is)
  (case xG=>k_is)
  (case xH=>k_is)
  (case xI=>k_is)
  (case qo=>k_is)
  (case xJ=>k_is)
  (case xK=>k_is)
  (case xM=>k_is)
  (case qp=>k_is)
  (case xN=>k_is)
  (case xO=>k_is)
  (case xP=>k_is)
  (case qq=>k_is)
  (case xQ=>k_is)
  (case xR=>k_is)
  (case xS=>k_is)
  (case qr=>k_is)
  (case xT=>k_is)
  (case xU=>k_is)
  (case xV=>k_is)
  (case qt=>k_is)
  (case xW=>k_is)
  (case xX=>k_is)
  (case xY=>k_is)
  (case qu=>k_is)
  (case xZ=>k_is)
  (case x3=>k_is)
  (case x4=>k_is)
  (case qv=>k_is)
  (case x5=>k_is)
  (case x6=>k_is)
  (case x8=>k_is)
  (case nA=>k_is)
  (case x9=>k_is)
  (case x_=>k_is)
  (case ya=>k_is)
  (case qw=>k_is)
  (case yb=>k_is)
  (case yc=>k_is)
  (case yd=>k_is)
  (case qx=>k_is)
  (case ye=>k_is)
  (case yf=>k_is)
  (case yg=>k_is)
  (case qy=>k_is)
  (case yh=>k_is)
  (case yi=>k_is)
  (case yj=>k_is)
  (case qz=>k_is)
  (case yk=>k_is)
  (case yl=>k_is)
  (case ym=>k_is)
  (case yn=>k_is)
  (case vg=>k_is)
  (case vh=>k_is)
  (case uV=>k_is)
  (case uv=>k_is)
  (case uw=>k_is)
  (case vi=>k_is)
  (case vj=>k_is)
  (case qU=>k_is)
  (case uW=>k_is)
  (case vk=>k_is)
  (case vm=>k_is)
  (case tX=>k_is)
  (case vp=>k_is)
  (case vq=>k_is)
  (case vt=>k_is)
  (case uX=>k_is)
  (case r6=>k_is)
  (case qV=>k_is)
  (case g5=>k_is)
  (case g6=>k_is)
  (case rz=>k_is)
  (case rA=>k_is)
  (case rB=>k_is)
  (case rC=>k_is)
  (case rD=>k_is)
  (case rE=>k_is)
  (case rF=>k_is)
  (case rG=>k_is)
  (case rH=>k_is)
  (case rJ=>k_is)
  (case rK=>k_is)
  (case nG=>k_is)
  (case rL=>k_is)
  (case yR=>k_is)
  (case rM=>k_is)
  (case rN=>k_is)
  (case rO=>k_is)
  (case r8=>k_is)
  (case r9=>k_is)
  (case r_=>k_is)
  (case sd=>k_is)
  (case se=>k_is)
  (case sh=>k_is)
  (case sj=>k_is)
  (case sk=>k_is)
  (case sr=>k_is)
  (case su=>k_is)
  (case sv=>k_is)
  (case sA=>k_is)
  (case sC=>k_is)
  (case nK=>k_is)
  (case sD=>k_is)
  (case sE=>k_is)
  (case sF=>k_is)
  (case sG=>k_is)
  (case sH=>k_is)
  (case sI=>k_is)
  (case sJ=>k_is)
  (case sL=>k_is)
  (case sM=>k_is)
  (case sN=>k_is)
  (case sO=>k_is)
  (case sP=>k_is)
  (case sQ=>k_is)
  (case iG=>k_is)
  (case sR=>k_is)
  (case sS=>k_is)
  (case sT=>k_is)
  (case sU=>k_is)
  (case sV=>k_is)
  (case sW=>k_is)
  (case sX=>k_is)
  (case sY=>k_is)
  (case sZ=>k_is)
  (case s_=>k_is)
  (case tf=>k_is)
  (case tj=>k_is)
  (case nL=>k_is)
  (case qB=>k_is)
  (case qN=>k_is)
  (case qW=>k_is)
  (case tm=>k_is)
  (case ux=>k_is)
  (case uy=>k_is)
  (case uz=>k_is)
  (case uA=>k_is)
  (case tY=>k_is)
  (case uB=>k_is)
  (case tZ=>k_is)
  (case uC=>k_is)
  (case qX=>k_is)
  (case qH=>k_is)
  (case qI=>k_is)
  (case qY=>k_is)
  (case qO=>k_is)
  (case fa_Land_init=>k_is)
  (case qZ=>k_is)
  (case q_=>k_is)
  (case rb=>k_is)
  (case rf=>k_is)
  (case qA=>k_is)
  (case qC=>k_is)
  (case qD=>k_is)
  (case qE=>k_is)
  (case qF=>k_is)
