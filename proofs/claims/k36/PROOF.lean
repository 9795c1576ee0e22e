import PyProof.Rows.All
import Wide.All
import OpenK.AllK
import Wide.FinOn
import Lean
import PyProof.EqAt
import PyProof.EqKinds
import PyProof.TupleCall
import PyProof.NeKinds
import PyProof.ConsumeWalk
import PyProof.ListRange
import PyProof.TupleOfSeq
import PyProof.Rows.SortWalk
import PyProof.CompFree
import PySem.Challenge.RW_kinhearth_k36_papers_that_stand
set_option Elab.async false
set_option linter.all false
set_option maxRecDepth 100000
set_option maxHeartbeats 4000000
abbrev af:=PySem.W.Frag
abbrev aC:=PySem.Value->PySem.Shared->Prop
abbrev aB:=List (PySem.Addr×PySem.Obj)
abbrev aJ:=PySem.Str->Option PySem.Value
open PySem
open PySem.W (instObj methodObj lookIn plainGet hasDictIn handedIn plainGet_of isFn plainOver takerIn makesIn typeIn emptyDict keepIn kitOne kia_one kitx_list kitx_dict callWith_K cellsFrom_some fnOf codeIn nsIn mg_of kIn_of)
open PySem.F (slot_tuple_add plainAttrs_list slot_list_pop type_list_pop)
abbrev Ya:=@List.length_map
abbrev Yb:=@Heap.get?_push_of_some
abbrev Yc:=@Nat.le_refl
abbrev Yd:=@List.getElem?_map
abbrev Ye:=@List.getElem?_eq_getElem
abbrev Yf:=@Option.some.inj
abbrev Yg:=@List.mem_append_right
abbrev Yh:=@List.getElem?_eq_some_iff
abbrev Yi:=@Bool.false_ne_true
abbrev Yj:=@Heap.lt_size
abbrev Yk:=@List.size_toArray
abbrev Yl:=@Heap.get?_push_size
abbrev Ym:=@List.length_append
abbrev Yn:=@Nat.lt_of_lt_of_le
abbrev Yo:=@Nat.ne_of_lt
abbrev Yp:=@List.map_append
abbrev Yq:=@Int.toNat_natCast
abbrev Yr:=@List.mem_singleton
abbrev Ys:=@List.mem_of_getElem?
abbrev Yt:=@List.getElem?_eq_none
abbrev Yu:=@List.mem_cons
abbrev Yv:=@Int.emod_lt_of_pos
abbrev Yw:=@Nat.zero_le
abbrev Yx:=@Nat.le_trans
abbrev Yy:=@List.mem_cons_self
abbrev Yz:=@List.length_replicate
abbrev Y0:=@Int.emod_nonneg
abbrev Y1:=@List.mem_cons_of_mem
abbrev Y2:=@List.length_cons
abbrev Y3:=@List.take_add_one
abbrev Y4:=@Nat.lt_irrefl
abbrev Y5:=@List.length_take
abbrev Y6:=@List.mem_range
abbrev Y7:=@List.ext_getElem?
abbrev Y8:=@Bool.eq_iff_iff
abbrev Y9:=@List.take_of_length_le
abbrev Wa:=@List.getD_eq_getElem?_getD
abbrev Wb:=@List.not_mem_nil
abbrev Wd:=@Nat.lt_of_le_of_lt
abbrev We:=@List.mem_map
abbrev Wf:=@Option.isSome_iff_exists
abbrev Wg:=@List.length_range
abbrev Wh:=@Bool.false_and
abbrev Wi:=@List.filter_append
abbrev Wj:=@List.mem_append
abbrev Wk:=@Int.zero_add
abbrev Wl:=@Sum.inl.inj
abbrev Wm:=@List.getElem?_append_right
abbrev Wn:=@List.mem_append_left
abbrev Wo:=@List.getElem?_append_left
abbrev Wp:=@List.getElem_mem
abbrev Wq:=@List.take_length
abbrev Wr:=@List.filterMap_cons
abbrev Ws:=@List.append_nil
abbrev Wt:=@List.nodup_cons
abbrev Wu:=@List.map_cons
abbrev Wv:=@List.find?_cons
abbrev Ww:=@Nat.add_sub_cancel_left
abbrev Wx:=@Bool.true_and
abbrev Wy:=@List.getElem?_set_self
abbrev Wz:=@Nat.lt_succ_of_lt
abbrev W3:=@Nat.le_of_lt
abbrev W4:=@Nat.le_of_ble_eq_true
abbrev W5:=@List.all_eq_true
abbrev W6:=@List.length_drop
abbrev W7:=@List.getElem?_set_ne
abbrev W8:=@List.any_cons
abbrev W9:=@List.length_set
abbrev Ja:=@List.length_reverse
abbrev Jb:=@List.getElem?_range
abbrev Jc:=@List.getElem_of_mem
abbrev Jd:=@Sum.inr.inj
abbrev Je:=@Heap.size_push
abbrev Jf:=@List.take_sublist
abbrev Jg:=@Option.isSome_map
abbrev Jh:=@List.append_assoc
abbrev Ji:=@List.nodup_append
abbrev Jj:=@List.all_cons
abbrev Jk:=@List.lookup_cons
abbrev Jl:=@Nat.ne_of_gt
abbrev Jm:=@List.of_mem_zip
abbrev Jn:=@Int.ne_of_gt
abbrev Jo:=@List.range_succ
abbrev Jp:=@List.nil_append
namespace L2
open PySem PySem.Spec PyProof.Rows
abbrev Key:=Sum Int Str
def kY:Key->Value->Bool
 |.inl k,v=>Value.isInt k v
 |.inr x,v=>Value.isStrOf x v
def G1(w:World):Key->Int
 |.inl k=>hashInt k
 |.inr x=>hashStr w x
theorem ib:∀{k:Key} {v:Value},kY k v=true->(∃i t,k=Sum.inl i/\v=Value.int i t)\/(∃x t,k=Sum.inr x/\v=Value.str x t)
 |.inl i,v,h=>by
  obtain⟨t,e⟩:=Value.isInt_shape h
  grind
 |.inr x,v,h=>by
  obtain⟨t,e⟩:=Value.isStrOf_shape h
  grind
theorem C9(i:Int)(t:Tok):kY (.inl i) (.int i t)=true:=by simp[kY,Value.isInt]
theorem C_(x:Str)(t:Tok):kY (.inr x) (.str x t)=true:=by simp[kY,Value.isStrOf]
theorem Fg(a b:Int):decide ((Sum.inl a:Key)=Sum.inl b)=(a==b):=by
 grind
theorem Fh(a b:Str):decide ((Sum.inr a:Key)=Sum.inr b)=decide (a=b):=by
 grind
theorem Fi(a:Int)(b:Str):decide ((Sum.inl a:Key)=Sum.inr b)=false:=decide_eq_false (λq=>nomatch q)
theorem Fj(a:Str)(b:Int):decide ((Sum.inr a:Key)=Sum.inl b)=false:=decide_eq_false (λq=>nomatch q)
def du(prog:Program)(w:World):PySem.KeyKind prog w Key where
 is:=kY
 hash:=G1 w
 inj:=λv a b ha hb=>by
  rcases ib ha with⟨i,t,rfl,rfl⟩|⟨x,t,rfl,rfl⟩
  ·rcases ib hb with⟨j,u,rfl,e⟩|⟨y,u,rfl,e⟩;·injection e with e1 _;rw[e1]
   ·exact nomatch e
  ·rcases ib hb with⟨j,u,rfl,e⟩|⟨y,u,rfl,e⟩;·exact nomatch e
   ·injection e with e1 _;rw[e1]
 byValue:=λk v h=>by
  rcases ib h with⟨i,t,rfl,rfl⟩|⟨x,t,rfl,rfl⟩<;>rfl
 pyHash:=λhv h=>by
  rcases ib hv with⟨i,t,rfl,rfl⟩|⟨x,t,rfl,rfl⟩;·exact wpAny_pyHash_int h
  ·exact wpAny_pyHash_str h
 eqBool:=λhu hv h=>by
  rcases ib hu with⟨i,t,rfl,rfl⟩|⟨x,t,rfl,rfl⟩
  ·rcases ib hv with⟨j,u,rfl,rfl⟩|⟨y,u,rfl,rfl⟩;·rw[Fg] at h;exact wpAny_eqBool_int h
   ·rw[Fi] at h;exact SeqAt.EqAt.int_str i t y u _ _ _ _ h
  ·rcases ib hv with⟨j,u,rfl,rfl⟩|⟨y,u,rfl,rfl⟩;·rw[Fj] at h;exact SeqAt.EqAt.str_int x t j u _ _ _ _ h
   ·rw[Fh] at h;exact wpAny_eqBool_str h
 «strs»:=λk x t v h=>by
  rcases ib h with⟨i,u,rfl,e⟩|⟨y,u,rfl,e⟩;·exact nomatch e
  ·injection e with e1 _;subst e1;cases v<;>rfl
theorem Cf(prog:Program)(w:World)(i:Int)(t:Tok):(du prog w).is (.inl i) (.int i t)=true:=C9 i t
theorem Cg(prog:Program)(w:World)(x:Str)(t:Tok):(du prog w).is (.inr x) (.str x t)=true:=C_ x t
inductive V where
 |aD|bl (b:Bool)|int (i:Int)|str (x:Str)|fc (b:Array UInt8)|j4 (b:UInt64)|ref (a:Addr)|ty (n:String)
 deriving DecidableEq
def RelV:V->Value->Prop
 |.aD,u=>u=Value.none
 |.bl b,u=>u=Value.bool b
 |.int i,u=>∃t,u=Value.int i t
 |.str x,u=>∃t,u=Value.str x t
 |.fc b,u=>∃t,u=Value.bytes b t
 |.j4 b,u=>∃t,u=Value.float b t
 |.ref a,u=>u=Value.ref a
 |.ty n,u=>u=Value.type n
abbrev Vals:List V->List Value->Prop:=Paired RelV
theorem Vals.length{xs:List V}{us:List Value}(r:Vals xs us):xs.length=us.length:=Paired.length r
theorem Vals.get:∀{xs:List V} {us:List Value} {i:Nat} {x:V},Vals xs us->xs[i]?=some x->∃u,us[i]?=some u/\RelV x u
 |_,_,_,_,.nil,e=>by simp at e
 |_,_,0,_,.cons r _,e=>by simp at e;subst e;exact⟨_,rfl,r⟩
 |_,_,i+1,x,.cons _ t,e=>by
  obtain⟨u,h1,h2⟩:=Vals.get t (by simpa using e)
  grind
theorem Vals.set{x:V}{u:Value}(r:RelV x u):∀{xs:List V} {us:List Value} (i:Nat),Vals xs us->Vals (xs.set i x) (us.set i u)
 |_,_,_,.nil=>.nil
 |_,_,0,.cons _ t=>.cons r t
 |_,_,i+1,.cons q t=>.cons q (Vals.set r i t)
theorem Vals.append:∀{xs ys:List V} {us ws:List Value},Vals xs us->Vals ys ws->Vals (xs++ys) (us++ws):=by
 intro xs ys us ws h h';induction h with
 |nil=>exact h'
 |cons r t ih=>exact .cons r ih
theorem Vals.take:∀{xs:List V} {us:List Value} (n:Nat),Vals xs us->Vals (xs.take n) (us.take n)
 |_,_,0,_=>.nil
 |_,_,_+1,.nil=>.nil
 |_,_,n+1,.cons r t=>.cons r (Vals.take n t)
theorem Vals.drop:∀{xs:List V} {us:List Value} (n:Nat),Vals xs us->Vals (xs.drop n) (us.drop n)
 |_,_,0,r=>r
 |_,_,_+1,.nil=>.nil
 |_,_,n+1,.cons _ t=>Vals.drop n t
def dj:Option V->Option Value->Prop
 |some v,some u=>RelV v u
 |none,none=>True
 |_,_=>False
def KV{κ:Type}:List (κ×V)->List (κ×Value)->Prop:=Paired λ(p:κ×V) (q:κ×Value)=>p.1=q.1/\RelV p.2 q.2
def kV:Key->V
 |.inl i=>.int i
 |.inr x=>.str x
inductive HO where
 /--a list-/
 |lst(xs:List V)
 /--a tuple(never changes)-/
 |tup(xs:List V)
 /--a dict Gj keys are ints and texts;one Gj keys are tuples of ints and texts(iF empty one is both)-/
 |dK(ae:List (Key×V))|dT(ae:List (List Key×V))
 /--a set of ints:ag members,ag size-/
 |set (S:Int->Bool) (n:Nat)
 /--an instance of iF class at C,ag dict at dx,ag attributes-/
 |ins (C dx:Addr) (fs:List (Str×V))
 /--iF dict of iF instance at x-/
 |own (x:Addr)
 /--iF dict of an exception-/
 |xd (fs:List (Str×V))
 /--a bound method,f of x-/
 |met (f x:Addr)
 /--a range object lo,lo+1,.. below hi-/
 |eB (lo hi:Int)
 /--a Gk LR is known to iF object (iF yf;a dict while a loop walks it):read,never written while it is so-/
 |dS (o:Obj) (u:HO)
 /--a code LC table-/
 |j5 (ps:Array Value)
 /--any other Gk,by LS is true of ag one object (a def of LL own:LU a S n:=HO.ext λh=>..)-/
 |ext (φ:Heap->Prop)
abbrev Hp:=Addr->Option HO
def upd(H:Hp)(a:Addr)(o:HO):Hp:=λb=>if b=a then some o else H b
theorem aF{H:Hp}{a:Addr}{o:HO}:upd H a o a=some o:=by unfold upd;rw[if_pos rfl]
theorem aW{H:Hp}{a b:Addr}{o:HO}(h:b≠a):upd H a o b=H b:=by unfold upd;rw[if_neg h]
theorem rP{H:Hp}{a:Addr}{o u:HO}:upd (upd H a o) a u=upd H a u:=by
 funext b;unfold upd;split<;>rfl
theorem Gm{H:Hp}{a b:Addr}{o u:HO}(h:H a=some o)(h':H b=some u)(d:o≠u):a≠b:=by
 intro e;subst e;rw[h] at h';exact d (Yf h')
theorem bE{H:Hp}{a b:Addr}{o:HO}(h:H a=some o)(h':H b=none):a≠b:=by
 grind
section
variable (P:Program)(w:World)
def gp(h:Heap)(a:Addr)(items:Array Value):Prop:=∃o,h.get? a=some o/\o.cls=.type "tuple"/\∃n,o.data=.seq items n/\o.dict=none
theorem gp.tup{h:Heap}{a:Addr}{items:Array Value}(x:gp h a items):IsTup h a items:=let⟨o,e,c,n,d,_⟩:=x;⟨o,e,c,n,d⟩
theorem gp.lt{h:Heap}{a:Addr}{items:Array Value}(x:gp h a items):a<h.objs.size:=x.tup.lt
theorem gp.new(h:Heap)(items:Array Value):gp (h.push {cls:=.type "tuple",data:=.seq items}) h.objs.size items:=⟨_,Yl _ rfl,rfl,_,rfl,rfl⟩
def bP(H:Hp)(h:Heap)(a:Addr):HO->Prop
 |.lst xs=>xs.length<=sizeLine/\∃(ag:List Value) (n:Nat),Vals xs ag/\h.get? a=some {cls:=.type "list",data:=.seq ag.toArray n}
 |.tup xs=>xs.length<=sizeLine/\∃ag:List Value,Vals xs ag/\gp h a ag.toArray
 |.dK ae=>ae.length<=sizeLine/\(a==sysModules)=false/\∃vs,KV ae vs/\h.DictOf (du P w) a vs
 |.dT ae=>ae.length<=sizeLine/\(a==sysModules)=false/\∃xs:List (List Key×Addr×Value),
   Paired (λ(p:List Key×V) (q:List Key×Addr×Value)=>p.1=q.1/\H q.2.1=some (.tup (p.1.map kV))/\RelV p.2 q.2.2) ae xs/\
   ∃o es ep,h.get? a=some o/\o.ExactDict/\o.data=.dict es ep/\es.toList=xs.map (entryOfKey (tupleKind (du P w)))/\(xs.map (·.1)).Nodup
 |.set S n=>h.SetOf (intKind P w) a S n
 |.ins C dx fs=>H dx=some (.own a)/\fs.length<=1000/\dx≠a/\h.get? a=some (instObj C dx)/\
   ∃mA,h.Ns1 dx mA/\(∀f,dj (fs.lookup f) (mA f))/\PySem.Within mA (fs.map (·.1))
 |.own _=>∃o,h.get? a=some o
 |.xd fs=>∃mA,h.Ns1 a mA/\∀f,dj (fs.lookup f) (mA f)
 |.eB lo hi=>∃t u v,h.get? a=some {cls:=.type "range",data:=.fields #[.int lo t,.int hi u,.int 1 v]}
 |.dS o u=>h.get? a=some o/\bP H h a u
 |.j5 ps=>h.get? a=some {cls:=.none,data:=.fields ps}
 |.met f x=>h.get? a=some (methodObj (.ref f) (.ref x))
 |.ext φ=>φ h/\(∃o,h.get? a=some o)/\∀h1 h2:Heap,φ h1->(∀o,h1.get? a=some o->h2.get? a=some o)->φ h2
def bQ(H:Hp)(h:Heap):Prop:=∀a o,H a=some o->bP P w H h a o
end
section
variable {P:Program}{w:World}{H H':Hp}{h h':Heap}{a:Addr}{o:HO}
theorem bP.lt(x:bP P w H h a o):a<h.objs.size:=by
 cases o with
 |lst xs=>obtain⟨_,_,_,_,e⟩:=x;exact Yj e
 |tup xs=>obtain⟨_,_,_,p⟩:=x;exact p.lt
 |dK ae=>obtain⟨_,_,_,_,o,_,_,e,_⟩:=x;exact Yj e
 |dT ae=>obtain⟨_,_,_,_,o,_,_,e,_⟩:=x;exact Yj e
 |set S n=>obtain⟨o,_,_,_,e,_⟩:=x;exact Yj e
 |ins C dx fs=>obtain⟨_,_,_,e,_⟩:=x;exact Yj e
 |own y=>obtain⟨_,e⟩:=x;exact Yj e
 |xd fs=>obtain⟨_,⟨_,_,_,e,_⟩,_⟩:=x;exact Yj e
 |eB lo hi=>obtain⟨_,_,_,e⟩:=x;exact Yj e
 |dS ob u=>obtain⟨e,_⟩:=x;exact Yj e
 |j5 ps=>exact Yj (show h.get? a=some _ from x)
 |met f y=>exact Yj (show h.get? a=some _ from x)
 |ext φ=>obtain⟨_,⟨_,e⟩,_⟩:=x;exact Yj e
theorem Paired.cD{α β:Type}{F G:α->β->Prop}:∀{tj:List α} {tm:List β},Paired F tj tm->(∀a b,F a b->G a b)->Paired G tj tm:=by
 intro tj tm h f;induction h with
 |nil=>exact .nil
 |cons r t ih=>exact .cons (f _ _ r) ih
theorem bP.mx(x:bP P w H h a o)(k:∀b u,(b=a\/H b=some (.own a))->h.get? b=some u->h'.get? b=some u)
  (ho:∀b,H b=some (.own a)->H' b=some (.own a))(ht:∀b xs,H b=some (.tup xs)->H' b=some (.tup xs)):bP P w H' h' a o:=by
 induction o with
 |lst xs=>obtain⟨z,ag,n,r,e⟩:=x;exact⟨z,ag,n,r,k _ _ (.inl rfl) e⟩
 |tup xs=>obtain⟨z,ag,r,ob,e,c⟩:=x;exact⟨z,ag,r,ob,k _ _ (.inl rfl) e,c⟩
 |dK ae=>obtain⟨z,y,vs,r,ob,es,ep,e,c⟩:=x;exact⟨z,y,vs,r,ob,es,ep,k _ _ (.inl rfl) e,c⟩
 |dT ae=>
  obtain⟨z,y,xs,r,ob,es,ep,e,c⟩:=x;exact⟨z,y,xs,Paired.cD r λp q z=>⟨z.1,ht _ _ z.2.1,z.2.2⟩,ob,es,ep,k _ _ (.inl rfl) e,c⟩
 |set S n=>obtain⟨ob,es,ep,t,e,c⟩:=x;exact⟨ob,es,ep,t,k _ _ (.inl rfl) e,c⟩
 |ins C dx fs=>
  obtain⟨d,z,ne,e,mA,⟨od,es,ep,e2,c⟩,r⟩:=x;exact⟨ho _ d,z,ne,k _ _ (.inl rfl) e,mA,⟨od,es,ep,k _ _ (.inr d) e2,c⟩,r⟩
 |own y=>obtain⟨ob,e⟩:=x;exact⟨ob,k _ _ (.inl rfl) e⟩
 |xd fs=>obtain⟨mA,⟨od,es,ep,e,c⟩,r⟩:=x;exact⟨mA,⟨od,es,ep,k _ _ (.inl rfl) e,c⟩,r⟩
 |eB lo hi=>obtain⟨t,u,v,e⟩:=x;exact⟨t,u,v,k _ _ (.inl rfl) e⟩
 |dS ob u ih=>obtain⟨e,q⟩:=x;exact⟨k _ _ (.inl rfl) e,ih q⟩
 |j5 ps=>
  have e:h.get? a=some {cls:=.none,data:=.fields ps}:=x;show h'.get? a=some {cls:=.none,data:=.fields ps};exact k a _ (.inl rfl) e
 |met f y=>
  have e:h.get? a=some (methodObj (.ref f) (.ref y)):=x;show h'.get? a=some (methodObj (.ref f) (.ref y));exact k a _ (.inl rfl) e
 |ext φ=>obtain⟨p,⟨o,e⟩,st⟩:=x;exact⟨st _ _ p λo q=>k _ _ (.inl rfl) q,⟨o,k _ _ (.inl rfl) e⟩,st⟩
theorem bQ.lt(x:bQ P w H h)(e:H a=some o):a<h.objs.size:=(x a o e).lt
theorem bQ.fresh(x:bQ P w H h)(e:h.objs.size<=a):H a=none:=by
 cases q:H a with
 |none=>rfl
 |some u=>exact absurd (Yn (x.lt q) e) (Y4 _)
theorem bQ.kept(x:bQ P w H h)(k:∀b u,h.get? b=some u->h'.get? b=some u):bQ P w H h':=λa o e=>
 (x a o e).mx (λb u _ q=>k b u q) (λ_ q=>q) λ_ _ q=>q
theorem bQ.laid(x:bQ P w H h)(k:∀b u,h.get? b=some u->h'.get? b=some u)(hp:h.objs.size<=a)(new:bP P w (upd H a o) h' a o):bQ P w (upd H a o) h':=λb u e=>by
 have hn:=x.fresh hp;by_cases hb:b=a;·subst hb;rw[aF] at e;cases e;exact new
 ·rw[aW hb] at e;exact(x b u e).mx (λc v _ q=>k c v q) (λc q=>by rw[aW (bE q hn)];exact q) λc xs q=>by rw[aW (bE q hn)];exact q
end
def Rd(H:Hp)(a:Addr)(u:HO):Prop:=H a=some u\/∃o,H a=some (.dS o u)
theorem Rd.ok{P:Program}{w:World}{H:Hp}{h:Heap}{a:Addr}{u:HO}(r:Rd H a u)(x:bQ P w H h):bP P w H h a u:=by
 rcases r with r|⟨o,r⟩;·exact x a u r
 ·obtain⟨_,q⟩:=x a _ r;exact q
def mM:Option HO->Prop
 |some (.lst _)=>True
 |some (.dK _)=>True
 |some (.dT _)=>True
 |some (.set _ _)=>True
 |some (.ins _ _ _)=>True
 |some (.ext _)=>True
 |_=>False
section
variable {P:Program}{w:World}{H:Hp}{h h':Heap}{x e:Addr}{o':HO}
theorem bQ.write(ok:bQ P w H h)(mu:mM (H x))(he:e=x\/H e=some (.own x))(k:∀b u,b≠e->h.get? b=some u->h'.get? b=some u)(mN:∃u,h'.get? e=some u)
  (new:bP P w (upd H x o') h' x o'):bQ P w (upd H x o') h':=λb u q=>by
 have zz:∀c y,H c=some (.own y)->c≠x:=λc y r z=>by subst z;rw[r] at mu;exact mu
 have G3:∀c xs,H c=some (.tup xs)->c≠x:=λc xs r z=>by subst z;rw[r] at mu;exact mu
 by_cases hb:b=x;·subst hb;rw[aF] at q;cases q;exact new
 ·rw[aW hb] at q;by_cases pf:b=e
  ·have q':H b=some (.own x):=by
    rcases he with z|z;·exact absurd (pf.trans z) hb
    ·rw[pf];exact z
   rw[q] at q';cases q';obtain⟨v,hv⟩:=mN;exact⟨v,by rw[pf];exact hv⟩
  ·refine(ok b u q).mx (λc v hc r=>k c v ?_ r) (λc r=>by rw[aW (zz c b r)];exact r) λc xs r=>by rw[aW (G3 c xs r)];exact r
   rcases hc with rfl|hc;·exact pf
   ·rintro rfl;rcases he with z|z;·exact zz c b hc z
    ·rw[hc] at z;cases z;exact hb rfl
end
structure Un(fs ex:List Addr)(H H':Hp)(h h':Heap):Prop where
 keep:∀b o,h.get? b=some o->H b=none->b∉fs->b∉ex->h'.get? b=some o
 slot:∀b o,h.get? b=some o->H b=none->b∈fs->b∉ex->∃sl,h'.get? b=some {o with slots:=sl}
 free:∀b o,h.get? b=some o->H b=none->b∉ex->H' b=none
 there:∀b o,h.get? b=some o->b∉ex->∃o',h'.get? b=some o'
 eZ:∀b xs,H b=some (.tup xs)->H' b=some (.tup xs)
 iy:∀b o u,H b=some (.dS o u)->H' b=some (.dS o u)
 je:∀b ps,H b=some (.j5 ps)->∃more,H' b=some (.j5 (ps++more))
section
variable {fs Ig ex L3:List Addr}{H H1 H2:Hp}{h h1 h2 h':Heap}{a x e:Addr}{o:HO}
theorem Un.any(u:Un fs ex H H1 h h1){b:Addr}{ob:Obj}(q:h.get? b=some ob)(n:H b=none)(hx:b∉ex):∃sl,h1.get? b=some {ob with slots:=sl}:=by
 by_cases hb:b∈fs;·exact u.slot b ob q n hb hx
 ·exact⟨ob.slots,u.keep b ob q n hb hx⟩
theorem Un.kept(k:∀b u,h.get? b=some u->h'.get? b=some u):Un fs ex H H h h':=
 ⟨λb ob q _ _ _=>k b ob q,λb ob q _ _ _=>⟨ob.slots,k b ob q⟩,λ_ _ _ n _=>n,λb ob q _=>⟨ob,k b ob q⟩,λ_ _ q=>q,λ_ _ _ q=>q,λ_ ps q=>⟨#[],by rw[q];simp⟩⟩
theorem Un.refl:Un fs ex H H h h:=Un.kept λ_ _ q=>q
theorem Un.laid(k:∀b u,h.get? b=some u->h'.get? b=some u)(hp:h.objs.size<=a)(hn:H a=none):Un fs ex H (upd H a o) h h' where
 keep:=λb u q _ _ _=>k b u q
 slot:=λb u q _ _ _=>⟨u.slots,k b u q⟩
 free:=λb u q n _=>by rw[aW (Yo (Yn (Yj q) hp))];exact n
 there:=λb u q _=>⟨u,k b u q⟩
 eZ:=λb xs q=>by rw[aW (bE q hn)];exact q
 iy:=λb u xs q=>by rw[aW (bE q hn)];exact q
 je:=λb ps q=>⟨#[],by rw[aW (bE q hn),q];simp⟩
theorem Un.write(mu:mM (H x))(he:e=x\/H e=some (.own x))(k:∀b u,b≠e->h.get? b=some u->h'.get? b=some u)(mN:∃u,h'.get? e=some u):Un fs ex H (upd H x o) h h':=by
 have hx:∀b,H b=none->b≠x:=λb n z=>by subst z;rw[n] at mu;exact mu
 have hb:∀b,H b=none->b≠e:=λb n z=>by
  grind
 have hm:∀b u,H b=some u->¬mM (some u)->b≠x:=λb u q nm z=>by subst z;rw[q] at mu;exact nm mu
 refine⟨λb u q n _ _=>k b u (hb b n) q,λb u q n _ _=>⟨u.slots,k b u (hb b n) q⟩,λb u q n _=>by rw[aW (hx b n)];exact n,λb u q _=>?_,
  λb xs q=>by rw[aW (hm b _ q λz=>z)];exact q,λb u xs q=>by rw[aW (hm b _ q λz=>z)];exact q,λb ps q=>⟨#[],by rw[aW (hm b _ q λz=>z),q];simp⟩⟩
 grind
end
def uc(h:Heap)(H:Hp):List Addr:=(List.range h.objs.size).filter λa=>(H a).isSome
def iz(h:Heap)(H:Hp):Heap:=PySem.W.hideAll h (uc h H)
theorem Dc(h:Heap)(H:Hp):(iz h H).objs.size=h.objs.size:=PySem.W.hideAll_size _ _
theorem DH{h:Heap}{H:Hp}{b:Addr}{o:Obj}(e:h.get? b=some o)(n:H b=none):(iz h H).get? b=some o:=
 PySem.W.hideAll_get _ e λhm=>by
  have q:=(List.mem_filter.mp hm).2
  grind
theorem Em{h:Heap}{H:Hp}{b:Addr}{o:Obj}(e:(iz h H).get? b=some o):h.get? b=some o/\H b=none:=by
 have e':=PySem.W.of_hideAll (uc h H) e;refine⟨e',?_⟩;cases q:H b with
 |none=>rfl
 |some x=>
  have z:(iz h H).get? b=none:=PySem.W.hideAll_none (uc h H) (List.mem_filter.mpr ⟨Y6.mpr (Yj e'),by simp[q]⟩)
  grind
structure Mod(K:af)(mg:aJ)(base:Heap):Prop where
 j6:K.In base
 glob:base.Ns mainGlobals mg
 blt:∃mb,base.Ns builtinsNs mb/\∀x:Str,x≠"__name__"->mb x=bootBuiltins x
 nolimit:base.NoLimit
structure Cx where
 prog:Program
 w:World
 K:af
 mg:Str->Option Value
 base:Heap
 A:Around
 N:List Str
 bj:Shared
 my:Hp
 env:Env
 outer:List Env
 stack:List Env
 ex:List Addr
 fn:Str->Bool
 calm:Bool
 pn:List (Addr×Obj)
 xe:Value->Shared->Prop
abbrev Cx.md(X:Cx):=model X.prog X.w
abbrev fU(X:Cx)(e:Expr)(es:List Expr):Prop:=starEach (e::es) X.env=(false,eval e X.env)::starEach es X.env
abbrev gw(X:Cx)(pos:Pos)(es:List Expr):Prop:=(backTo pos (starEach es X.env)).any (·.1)=false
def cN(l:List Env):List Addr:=l.filterMap (·.frame)
abbrev Cx.fs(X:Cx):List Addr:=cN X.outer
def k_(sc:Scope)(x:Str):Prop:=sc.names.lookup x=some .local\/sc.names.lookup x=some .cell\/sc.names.lookup x=some .free
def Loc(sc:Scope)(x:Str):Prop:=sc.names.lookup x=some .local\/sc.names.lookup x=some .cell
def Look(env:Env)(h:Heap)(m:aJ)(x:Str)(u:Value):Prop:=
 (env.kindOf x=some .local/\m x=some u)\/((env.kindOf x=some .cell\/env.kindOf x=some .free)/\∃c,env.cells.lookup x=some c/\h.IsCell c (some u))
structure Cx.Ok(X:Cx):Prop where
 mod:Mod X.K X.mg X.base
 kind:X.env.scope.kind=.function
 glob:X.env.globals=mainGlobals
 blt:X.env.builtins=builtinsNs
 above:X.bj.heap.objs.size<=X.env.locals
 inj:∀x y c,X.env.cells.lookup x=some c->X.env.cells.lookup y=some c->x=y
 has:∀x,(X.env.kindOf x=some .cell\/X.env.kindOf x=some .free)->∃c,X.env.cells.lookup x=some c
 mO:∀x c,X.fn x=true->X.env.cells.lookup x=some c->X.bj.heap.objs.size<=c
 hd:X.calm=true->X.A.handled=none
 frames:X.A.frames=some X.stack
 ph:X.stack=X.outer\/(X.stack=X.env::X.outer/\X.env.frame=some X.env.locals)
 jh:∀b∈X.ex,b≠X.env.locals/\∀x c,X.env.cells.lookup x=some c->c≠b
 bs:∀b o,X.base.get? b=some o->X.bj.heap.get? b=some o/\X.my b=none
 iG:X.base.objs.size<=X.bj.heap.objs.size
 mz:∀b o,X.base.get? b=some o->b∉X.ex
 jR:∀b∈X.ex,b∉X.fs
 e6:X.bj.heap.FunFrames X.base X.outer
 j7:∀b∈X.fs,X.my b=none
structure Inv(X:Cx)(pins:aB)(σ:List (Option V))(H:Hp)(s:Shared):Prop where
 ok:X.Ok
 os:s.os=X.bj.os
 bare:AllBare s.gens
 base:Un X.fs X.ex X.my H X.bj.heap s.heap
 loc:∃m,s.heap.Ns X.env.locals m/\∀(i:Nat) (x:Str) (v:V),X.N[i]?=some x->σ[i]?=some (some v)->k_ X.env.scope x->∃u,RelV v u/\Look X.env s.heap m x u
 cell:∀x c,X.env.cells.lookup x=some c->∃v,s.heap.IsCell c v
 free:H X.env.locals=none
 gr:∀x c,X.env.cells.lookup x=some c->H c=none
 pin:∀p∈X.pn++pins,s.heap.get? p.1=some p.2/\H p.1=none/\p.1≠X.env.locals/\p.1∉X.fs/\∀v,p.2.data≠.cell v
 aw:bQ X.prog X.w H s.heap
 len:σ.length=X.N.length
section
variable {X:Cx}{pins:aB}{σ:List (Option V)}{H H':Hp}{s:Shared}{h':Heap}
theorem Cx.Ok.G4(ok:X.Ok){b:Addr}{o:Obj}(e:X.base.get? b=some o):b∉X.fs:=λhb=>by
 have:=(ok.e6.mem hb).1
 grind
theorem Inv.bs(I:Inv X pins σ H s):∀b o,X.base.get? b=some o->s.heap.get? b=some o/\H b=none:=λb o e=>
 ⟨I.base.keep b o (I.ok.bs b o e).1 (I.ok.bs b o e).2 (I.ok.G4 e) (I.ok.mz b o e),I.base.free b o (I.ok.bs b o e).1 (I.ok.bs b o e).2 (I.ok.mz b o e)⟩
theorem Inv.bk(I:Inv X pins σ H s):∀b o,X.base.get? b=some o->s.heap.get? b=some o:=λb o e=>(I.bs b o e).1
theorem Inv.mod(I:Inv X pins σ H s):Mod X.K X.mg X.base:=I.ok.mod
theorem Inv.cq(I:Inv X pins σ H s):X.K.In s.heap:=I.ok.mod.j6.keeps I.bk
theorem Inv.lt(I:Inv X pins σ H s):X.env.locals<s.heap.objs.size:=let⟨_,hn,_⟩:=I.loc;hn.lt
theorem Inv.sz(I:Inv X pins σ H s):X.bj.heap.objs.size<=s.heap.objs.size:=Yx I.ok.above (W3 I.lt)
theorem Inv.G5(I:Inv X pins σ H s){a:Addr}(h:s.heap.objs.size<=a):a∉X.fs:=λhb=>by
 obtain⟨_,o,ho,_⟩:=I.ok.e6.mem hb;exact absurd (Yn (Yj ho) (Yx I.sz h)) (Y4 _)
theorem Inv.j8(I:Inv X pins σ H s):∀x c,X.env.cells.lookup x=some c->c≠X.env.locals:=λx c e z=>by
 obtain⟨v,o,ho,hd⟩:=I.cell x c e;obtain⟨m,⟨o',es,ep,lb,Ag,_⟩,_⟩:=I.loc
 grind
theorem Inv.e6(I:Inv X pins σ H s):s.heap.FunFrames X.base X.outer:=by
 have all:∀(l:List Env),(∀b∈cN l,b∈X.fs)->X.bj.heap.FunFrames X.base l->s.heap.FunFrames X.base l:=by
  intro l;induction l with
  |nil=>intro _ _;trivial
  |cons env r ih=>
   rintro hs ⟨hk,⟨L,o,hf,hn,ho,hd⟩,hr⟩;have hL:=hs L (by unfold cN;rw[Wr,hf];exact Yy);obtain⟨sl,e⟩:=I.base.slot L o ho (I.ok.j7 L hL) hL λz=>I.ok.jR L z hL;exact⟨hk,⟨L,_,hf,hn,e,hd⟩,ih (λb hb=>hs b (by unfold cN;rw[Wr,hf];exact Y1 _ hb)) hr⟩
 exact all X.outer (λ_ hb=>hb) I.ok.e6
theorem Inv.stack(I:Inv X pins σ H s):s.heap.FunFrames X.base X.stack:=by
 rcases I.ok.ph with e|⟨e,hf⟩;·rw[e];exact I.e6
 ·rw[e];obtain⟨m,hn,_⟩:=I.loc;refine .cons (by rw[I.ok.kind];decide) hf hn ?_ I.e6;exact Heap.get?_none_of_le (Yx I.ok.iG I.ok.above)
theorem Inv.sr(I:Inv X pins σ H s):∀b∈cN X.stack,b∈X.env.locals::X.fs:=λb hb=>by
 rcases I.ok.ph with e|⟨e,hf⟩;·grind
 ·rw[e] at hb;unfold cN at hb;rw[Wr,hf] at hb;exact hb
theorem Inv.xy(I:Inv X pins σ H s):∀b∈cN X.stack,H b=none:=λb hb=>by
 rcases Yu.mp (I.sr b hb) with e|hb;·rw[e];exact I.free
 ·obtain⟨_,o,ho,_⟩:=I.ok.e6.mem hb;exact I.base.free b o ho (I.ok.j7 b hb) λz=>I.ok.jR b z hb
theorem Inv.step{g':Array GenState}{t':Nat}{d':Drawn}{ch:List Addr}(I:Inv X pins σ H s)
  (gz:∀b∈ch,(b∈X.ex\/X.bj.heap.objs.size<=b)/\b≠X.env.locals/\(∀x c,X.env.cells.lookup x=some c->c≠b)/\∀p∈X.pn++pins,p.1≠b)
  (keep:∀b o,b≠X.env.locals->b∉X.fs->b∉ch->s.heap.get? b=some o->H b=none->h'.get? b=some o)
  (slot:∀b o,b≠X.env.locals->b∈X.fs->b∉ch->s.heap.get? b=some o->H b=none->∃sl,h'.get? b=some {o with slots:=sl})(free:∀b o,b∉ch->s.heap.get? b=some o->H b=none->H' b=none)
  (there:∀b o,b∉ch->s.heap.get? b=some o->∃o',h'.get? b=some o')
  (eZ:∀b xs,H b=some (.tup xs)->H' b=some (.tup xs))(iy:∀b o u,H b=some (.dS o u)->H' b=some (.dS o u))(je:∀b ps,H b=some (.j5 ps)->∃more,H' b=some (.j5 (ps++more)))
  (ns:∀m,s.heap.Ns X.env.locals m->h'.Ns X.env.locals m)(aw:bQ X.prog X.w H' h')(hg:AllBare g'):
  Inv X pins σ H' {s with heap:=h',gens:=g',drawn:=d',toks:=t'}:=by
 have Ah:∀b o,X.bj.heap.get? b=some o->b≠X.env.locals:=λb o e=>Yo (Yn (Yj e) I.ok.above);have pj:∀b o,X.bj.heap.get? b=some o->b∉X.ex->b∉ch:=λb o e hx hb=>by
  rcases(gz b hb).1 with z|z;·exact hx z
  ·exact absurd (Yn (Yj e) z) (Y4 _)
 have cellK:∀x c,X.env.cells.lookup x=some c->∀v,s.heap.IsCell c v->h'.IsCell c v:=λx c e v ⟨o,ho,hd⟩=>by
  have mP:c∉ch:=λz=>(gz c z).2.2.1 x c e rfl;by_cases hc:c∈X.fs
  ·obtain⟨sl,q⟩:=slot c o (I.j8 x c e) hc mP ho (I.gr x c e);exact⟨_,q,hd⟩
  ·exact⟨o,keep c o (I.j8 x c e) hc mP ho (I.gr x c e),hd⟩
 refine⟨I.ok,I.os,hg,⟨λb o e n hb hx=>?_,λb o e n hb hx=>?_,λb o e n hx=>?_,λb o e hx=>?_,λb xs e=>eZ b xs (I.base.eZ b xs e),λb o xs e=>iy b o xs (I.base.iy b o xs e),λb ps e=>?_⟩,?_,λx c e=>?_,?_,λx c e=>?_,λp hp=>?_,aw,I.len⟩;·exact keep b o (Ah b o e) hb (pj b o e hx) (I.base.keep b o e n hb hx) (I.base.free b o e n hx)
 ·obtain⟨sl,e1⟩:=I.base.slot b o e n hb hx;obtain⟨Ih,e2⟩:=slot b _ (Ah b o e) hb (pj b o e hx) e1 (I.base.free b o e n hx);exact⟨Ih,e2⟩
 ·obtain⟨o',e1⟩:=I.base.there b o e hx;exact free b o' (pj b o e hx) e1 (I.base.free b o e n hx)
 ·obtain⟨o',e1⟩:=I.base.there b o e hx;exact there b o' (pj b o e hx) e1
 ·obtain⟨m1,e1⟩:=I.base.je b ps e;obtain⟨m2,e2⟩:=je b _ e1;exact⟨m1++m2,by rw[e2,Array.append_assoc]⟩
 ·obtain⟨m,hn,hl⟩:=I.loc;refine⟨m,ns m hn,λi x v e1 e2 e3=>?_⟩;obtain⟨u,r,l⟩:=hl i x v e1 e2 e3;refine⟨u,r,?_⟩;rcases l with l|⟨k,c,e,z⟩;·exact .inl l
  ·exact .inr ⟨k,c,e,cellK x c e _ z⟩
 ·obtain⟨v,z⟩:=I.cell x c e;exact⟨v,cellK x c e v z⟩
 ·obtain⟨m,⟨o,_,_,ho,_⟩,_⟩:=I.loc;exact free _ o (λz=>(gz _ z).2.1 rfl) ho I.free
 ·obtain⟨v,o,ho,hd⟩:=I.cell x c e;exact free c o (λz=>(gz c z).2.2.1 x c e rfl) ho (I.gr x c e)
 ·obtain⟨e,n,ne,nf,d⟩:=I.pin p hp;have mP:p.1∉ch:=λz=>(gz p.1 z).2.2.2 p hp rfl;exact⟨keep p.1 p.2 ne nf mP e n,free p.1 p.2 mP e n,ne,nf,d⟩
theorem Inv.un{t':Nat}(I:Inv X pins σ H s)(u:Un X.fs [] H H' s.heap h')(aw:bQ X.prog X.w H' h'):Inv X pins σ H' {s with heap:=h',toks:=t'}:=by
 obtain⟨m,⟨o,es,ep,ho,r⟩,_⟩:=id I.loc;obtain⟨sl,hL⟩:=u.any ho I.free (by simp);exact I.step (g':=s.gens) (d':=s.drawn) (ch:=[]) (λ_ z=>nomatch z) (λb o _ hb _ e n=>u.keep b o e n hb (by simp)) (λb o _ hb _ e n=>u.slot b o e n hb (by simp)) (λb o _ e n=>u.free b o e n (by simp)) (λb o _ e=>u.there b o e (by simp)) u.eZ u.iy u.je (λm' hm=>by
  obtain⟨o',ji,ud,lb,r'⟩:=hm;rw[ho] at lb;cases lb;exact⟨_,ji,ud,hL,r'⟩) aw I.bare
theorem Inv.call{g':Array GenState}{t':Nat}{d':Drawn}{ch:List Addr}(I:Inv X pins σ H s)(u:Un (cN X.stack) ch H H' s.heap h')(aw:bQ X.prog X.w H' h')(hg:AllBare g')
  (gz:∀b∈ch,(b∈X.ex\/X.bj.heap.objs.size<=b)/\b≠X.env.locals/\(∀x c,X.env.cells.lookup x=some c->c≠b)/\∀p∈X.pn++pins,p.1≠b):
  Inv X pins σ H' {s with heap:=h',gens:=g',drawn:=d',toks:=t'}:=by
 obtain⟨m,⟨o,es,ep,ho,r⟩,_⟩:=id I.loc;obtain⟨sl,hL⟩:=u.any ho I.free λz=>(gz _ z).2.1 rfl;exact I.step (ch:=ch) gz (λb o hL hb hc e n=>u.keep b o e n (λz=>(Yu.mp (I.sr b z)).elim hL hb) hc) (λb o _ _ hc e n=>u.any e n hc) (λb o hc e n=>u.free b o e n hc) (λb o hc e=>u.there b o e hc) u.eZ u.iy u.je (λm' hm=>by
  obtain⟨o',ji,ud,lb,r'⟩:=hm;rw[ho] at lb;cases lb;exact⟨_,ji,ud,hL,r'⟩) aw hg
theorem Inv.turned{t':Nat}{it:Addr}(I:Inv X pins σ H s)(k:∀b o,b≠it->s.heap.get? b=some o->h'.get? b=some o)(hn:H it=none)(hL:it≠X.env.locals)
  (h1:it∈X.ex\/X.bj.heap.objs.size<=it)(h2:∀x c,X.env.cells.lookup x=some c->c≠it)(h3:∀p∈X.pn++pins,p.1≠it):Inv X pins σ H {s with heap:=h',toks:=t'}:=by
 have Ai:∀b u,H b=some u->b≠it:=λb u e z=>by rw[z,hn] at e;cases e
 refine I.step (g':=s.gens) (d':=s.drawn) (ch:=[it]) (λb hb=>?_) (λb o _ _ hc e _=>k b o (λz=>hc (by simp[z])) e) (λb o _ _ hc e _=>⟨o.slots,k b o (λz=>hc (by simp[z])) e⟩) (λ_ _ _ _ n=>n)
  (λb o hc e=>⟨o,k b o (λz=>hc (by simp[z])) e⟩) (λ_ _ e=>e) (λ_ _ _ e=>e) (λb ps e=>⟨#[],by rw[e];simp⟩) (λm hm=>?_) (λb u e=>?_) I.bare
 ·have e:b=it:=by simpa using hb
  subst e;exact⟨h1,hL,h2,h3⟩
 ·obtain⟨o,es,ep,ho,r⟩:=hm;exact⟨o,es,ep,k _ o (Ne.symm hL) ho,r⟩
 ·refine(I.aw b u e).mx (λc v hc q=>k c v ?_ q) (λ_ q=>q) λ_ _ q=>q;rcases hc with z|z;·rw[z];exact Ai b u e
  ·exact Ai c _ z
theorem Inv.tok(I:Inv X pins σ H s)(t:Nat):Inv X pins σ H {s with toks:=t}:=I.un (h':=s.heap) (t':=t) Un.refl I.aw
theorem Inv.kept{t':Nat}(I:Inv X pins σ H s)(k:∀b u,s.heap.get? b=some u->h'.get? b=some u):Inv X pins σ H {s with heap:=h',toks:=t'}:=I.un (Un.kept k) (I.aw.kept k)
theorem Inv.laid{a:Addr}{o:HO}{t':Nat}(I:Inv X pins σ H s)(k:∀b u,s.heap.get? b=some u->h'.get? b=some u)(hp:s.heap.objs.size<=a)(new:bP X.prog X.w (upd H a o) h' a o):
  Inv X pins σ (upd H a o) {s with heap:=h',toks:=t'}:=I.un (Un.laid k hp (I.aw.fresh hp)) (I.aw.laid k hp new)
theorem Inv.write{x e:Addr}{o:HO}{t':Nat}(I:Inv X pins σ H s)(mu:mM (H x))(he:e=x\/H e=some (.own x))(k:∀b u,b≠e->s.heap.get? b=some u->h'.get? b=some u)(mN:∃u,h'.get? e=some u)
  (new:bP X.prog X.w (upd H x o) h' x o):Inv X pins σ (upd H x o) {s with heap:=h',toks:=t'}:=I.un (Un.write mu he k mN) (I.aw.write mu he k mN new)
theorem Inv.xA{y1:aB}(I:Inv X pins σ H s)(h:∀p∈y1,s.heap.get? p.1=some p.2/\H p.1=none/\p.1≠X.env.locals/\p.1∉X.fs/\∀v,p.2.data≠.cell v):Inv X y1 σ H s:=
 ⟨I.ok,I.os,I.bare,I.base,I.loc,I.cell,I.free,I.gr,λp hp=>(Wj.mp hp).elim (λz=>I.pin p (Wn _ z)) (h p),I.aw,I.len⟩
theorem wU{N:List Str}(hN:N.Nodup){i j:Nat}{x:Str}(a:N[i]?=some x)(b:N[j]?=some x):i=j:=by
 obtain⟨h1,e1⟩:=Yh.mp a;obtain⟨h2,e2⟩:=Yh.mp b;exact(List.getElem_inj hN).mp (e1.trans e2.symm)
theorem rf{M:Model}{A:Around}{E:aC}{i:Nat}{x:Str}{v:V}{u:Value}{Q:Unit->Shared->Prop}(I:Inv X pins σ H s)(hN:X.N.Nodup)(hi:X.N[i]?=some x)(hx:Loc X.env.scope x)(r:RelV v u)
  (h:∀s',Inv X pins (σ.set i (some v)) H s'->(∃a,Heap.SameBut a s.heap s'.heap/\(a=X.env.locals\/X.env.cells.lookup x=some a))->Q () s')(hf:X.fn x=true\/X.env.scope.names.lookup x=some .local:=by first|exact .inl rfl|exact .inr rfl|assumption):wpAny M A (storeName X.env x u) Q E s:=by
 obtain⟨m,hn,hl⟩:=id I.loc;have G6:(X.env.scope.kind==.class||(X.env.scope.kind==.module&&X.env.locals !=X.env.globals))=false:=by rw[I.ok.kind];rfl
 have zA:i<σ.length:=by rw[I.len];exact(Yh.mp hi).1
 have j8:=I.j8;have tracked:∀{a:Addr} {h':Heap},(∃o,s.heap.get? a=some o/\H a=none)->Heap.SameBut a s.heap h'->bQ X.prog X.w H h':=λ{a h'} ha hs b ob e=>by
  obtain⟨_,_,y3⟩:=ha;refine(I.aw b ob e).mx (λc w' hc q=>(hs.2 c ?_).trans q) (λ_ q=>q) λ_ _ q=>q;rintro rfl;rcases hc with rfl|hc;·rw[y3] at e;cases e
  ·rw[y3] at hc;cases hc
 rcases hx with hk|hk
 ·refine wpAny_storeName_local hk hn (λh' pk hs=>?_) G6;obtain⟨oL,_,_,mQ,_⟩:=id hn;refine h _ ⟨I.ok,I.os,I.bare,⟨λb o e n hb hx=>?_,λb o e n hb hx=>?_,I.base.free,λb o e hx=>?_,I.base.eZ,I.base.iy,I.base.je⟩,⟨_,pk,λj y v' e1 e2 e3=>?_⟩,λy c e=>?_,I.free,I.gr,λp hp=>?_,tracked ⟨oL,mQ,I.free⟩ hs,by simpa using I.len⟩ ⟨_,hs,.inl rfl⟩;·exact(hs.2 b (Yo (Yn (Yj e) I.ok.above))).trans (I.base.keep b o e n hb hx)
  ·obtain⟨sl,e1⟩:=I.base.slot b o e n hb hx;exact⟨sl,(hs.2 b (Yo (Yn (Yj e) I.ok.above))).trans e1⟩
  ·obtain⟨o',e1⟩:=I.base.there b o e hx;exact⟨o',(hs.2 b (Yo (Yn (Yj e) I.ok.above))).trans e1⟩
  ·by_cases hj:j=i
   ·subst hj;rw[hi] at e1;cases e1;rw[Wy zA] at e2;cases e2;exact⟨u,r,.inl ⟨hk,by simp⟩⟩
   ·rw[W7 (Ne.symm hj)] at e2;obtain⟨u',r',q⟩:=hl j y v' e1 e2 e3;refine⟨u',r',?_⟩;rcases q with⟨k,e⟩|⟨k,c,e,z⟩
    ·refine .inl ⟨k,?_⟩;have:y≠x:=λe=>hj (wU hN e1 (e▸hi));simp[this,e]
    ·exact .inr ⟨k,c,e,z.sameBut hs (j8 y c e)⟩
  ·obtain⟨w',z⟩:=I.cell y c e;exact⟨w',z.sameBut hs (j8 y c e)⟩
  ·obtain⟨e,n,ne,nf,d⟩:=I.pin p hp;exact⟨(hs.2 p.1 ne).trans e,n,ne,nf,d⟩
 ·have ue:X.fn x=true:=by
   rcases hf with z|z;·exact z
   ·rw[z] at hk;cases hk
  obtain⟨c,hc⟩:=I.ok.has x (.inl hk);obtain⟨w',z⟩:=I.cell x c hc;refine wpAny_storeName_cell I.ok.kind hk hc z (λh' Aj hs=>?_);obtain⟨oc,Ak,G7⟩:=id z;refine h {s with heap:=h'} ⟨I.ok,I.os,I.bare,⟨λb o e n hb hx=>?_,λb o e n hb hx=>?_,I.base.free,λb o e hx=>?_,I.base.eZ,I.base.iy,I.base.je⟩,⟨m,hn.sameBut hs (Ne.symm (j8 x c hc)),λj y v' e1 e2 e3=>?_⟩,λy c' e=>?_,I.free,I.gr,λp hp=>?_,tracked ⟨oc,Ak,I.gr x c hc⟩ hs,by simpa using I.len⟩ ⟨c,hs,.inr hc⟩;·exact(hs.2 b (Yo (Yn (Yj e) (I.ok.mO x c ue hc)))).trans (I.base.keep b o e n hb hx)
  ·obtain⟨sl,e1⟩:=I.base.slot b o e n hb hx;exact⟨sl,(hs.2 b (Yo (Yn (Yj e) (I.ok.mO x c ue hc)))).trans e1⟩
  ·obtain⟨o',e1⟩:=I.base.there b o e hx;exact⟨o',(hs.2 b (Yo (Yn (Yj e) (I.ok.mO x c ue hc)))).trans e1⟩
  ·by_cases hj:j=i
   ·subst hj;rw[hi] at e1;cases e1;rw[Wy zA] at e2;cases e2;exact⟨u,r,.inr ⟨.inl hk,c,hc,Aj⟩⟩
   ·rw[W7 (Ne.symm hj)] at e2;obtain⟨u',r',q⟩:=hl j y v' e1 e2 e3;refine⟨u',r',?_⟩;rcases q with q|⟨k,c',e,z'⟩;·exact .inl q
    ·refine .inr ⟨k,c',e,z'.sameBut hs ?_⟩;rintro rfl;exact hj (wU hN e1 (I.ok.inj _ _ _ e hc▸hi))
  ·by_cases Al:c'=c;·subst Al;exact⟨_,Aj⟩
   ·obtain⟨w2,z2⟩:=I.cell y c' e;exact⟨w2,z2.sameBut hs Al⟩
  ·obtain⟨e,n,ne,nf,d⟩:=I.pin p hp;refine⟨(hs.2 p.1 ?_).trans e,n,ne,nf,d⟩;intro q;rw[q,Ak] at e;have q':oc=p.2:=Yf e;exact d w' (by rw[←q'];exact G7)
theorem i4{M:Model}{A:Around}{E:aC}{i:Nat}{x:Str}{v:V}{u:Value}{Q:Unit->Shared->Prop}(I:Inv X pins σ H s)(hN:X.N.Nodup)(hi:X.N[i]?=some x)(hx:Loc X.env.scope x)(r:RelV v u)
  (h:∀s',Inv X pins (σ.set i (some v)) H s'->Q () s')(hf:X.fn x=true\/X.env.scope.names.lookup x=some .local:=by first|exact .inl rfl|exact .inr rfl|assumption):wpAny M A (storeName X.env x u) Q E s:=
 rf I hN hi hx r (λs' I' _=>h s' I') hf
theorem Inv.y4{s':Shared}{ch:List Addr}(I:Inv X pins σ H s)(ho:s'.os=s.os)(u:Un (cN X.stack) ch H H' s.heap s'.heap)(aw:bQ X.prog X.w H' s'.heap)(hg:AllBare s'.gens)
  (gz:∀b∈ch,(b∈X.ex\/X.bj.heap.objs.size<=b)/\b≠X.env.locals/\(∀x c,X.env.cells.lookup x=some c->c≠b)/\∀p∈X.pn++pins,p.1≠b):Inv X pins σ H' s':=by
 obtain⟨h',g',d',t',o'⟩:=s';have e:o'=s.os:=ho;subst e;exact I.call (g':=g') (t':=t') (d':=d') u aw hg gz
end
abbrev XK:=Value->Option Addr->Hp->Prop
abbrev St:=List (Option V)
abbrev VK:=V->Hp->Prop
abbrev TE:=St->Hp->VK->Prop
abbrev TT:=St->Hp->(Bool->Hp->Prop)->Prop
abbrev TA:=St->Hp->(List V->Hp->Prop)->Prop
structure Ends where
 nx:St->Hp->Prop
 rt:VK
 bk:St->Hp->Prop:=λ_ _=>False
 ct:St->Hp->Prop:=λ_ _=>False
abbrev TS:=Ends->St->Hp->Prop
inductive zB(X:Cx)(pins:aB)(σ:St)(Q:VK)(u:Value)(s':Shared):Prop
 |mk (v H') (aE:Inv X pins σ H' s') (aN:RelV v u) (a9:Q v H'):zB X pins σ Q u s'
def EP(X:Cx)(pins:aB)(σ:St)(Q:VK)(u:Value)(s':Shared):Prop:=zB X pins σ Q u s'
inductive zC(X:Cx)(pins:aB)(σ:St)(R:Hp->Prop)(s':Shared):Prop
 |mk (H':Hp) (aE:Inv X pins σ H' s') (aN:R H'):zC X pins σ R s'
def TP(X:Cx)(pins:aB)(σ:St)(Q:Bool->Hp->Prop)(b:Bool)(s':Shared):Prop:=zC X pins σ (Q b) s'
inductive zD(X:Cx)(pins:aB)(σ:St)(Q:List V->Hp->Prop)(us:List Value)(s':Shared):Prop
 |mk (vs H') (aE:Inv X pins σ H' s') (aN:Vals vs us) (a9:Q vs H'):zD X pins σ Q us s'
def AP(X:Cx)(pins:aB)(σ:St)(Q:List V->Hp->Prop)(us:List Value)(s':Shared):Prop:=zD X pins σ Q us s'
inductive jS(X:Cx)(pins:aB)(Q:St->Hp->Prop)(s':Shared):Prop
 |mk (aH:St) (H':Hp) (aE:Inv X pins aH H' s') (aN:Q aH H'):jS X pins Q s'
inductive zE(X:Cx)(pins:aB)(Q:VK)(u:Value)(s':Shared):Prop
 |mk (v:V) (aH:St) (H':Hp) (aE:Inv X pins aH H' s') (aN:RelV v u) (a9:Q v H'):zE X pins Q u s'
def SP(X:Cx)(pins:aB)(D:Ends)(f:Flow)(s':Shared):Prop:=
 match f with
 |.next=>jS X pins D.nx s'
 |.brk=>jS X pins D.bk s'
 |.cont=>jS X pins D.ct s'
 |.ret u=>zE X pins D.rt u s'
def PE(X:Cx)(e:Expr)(t:TE):Prop:=
 ∀(pins:aB) (s:Shared) (σ:St) (H:Hp) (Q:VK),Inv X pins σ H s->t σ H Q->wpAny X.md X.A (eval e X.env) (EP X pins σ Q) X.xe s
def PT(X:Cx)(e:Expr)(t:TT):Prop:=
 ∀(pins:aB) (s:Shared) (σ:St) (H:Hp) (Q:Bool->Hp->Prop),Inv X pins σ H s->t σ H Q->wpAny X.md X.A (isTrue e X.env (eval e X.env)) (TP X pins σ Q) X.xe s
def PW(X:Cx)(e:Expr)(t:TT):Prop:=
 ∀(whole:Sem Value) (pins:aB) (s:Shared) (σ:St) (H:Hp) (Q:Bool->Hp->Prop),Inv X pins σ H s->t σ H Q->wpAny X.md X.A (isTrue e X.env whole) (TP X pins σ Q) X.xe s
theorem PW.pt{X:Cx}{e:Expr}{t:TT}(h:PW X e t):PT X e t:=h _
def PA(X:Cx)(es:List Expr)(t:TA):Prop:=
 ∀(pos:Pos) (pins:aB) (s:Shared) (σ:St) (H:Hp) (Q:List V->Hp->Prop),Inv X pins σ H s->t σ H Q->wpAny X.md X.A (spliced (backTo pos (starEach es X.env))) (AP X pins σ Q) X.xe s
def PS(X:Cx)(st:Stmt)(t:TS):Prop:=
 ∀(pins:aB) (s:Shared) (σ:St) (H:Hp) (D:Ends),Inv X pins σ H s->t D σ H->wpAny X.md X.A (exec st X.env) (SP X pins D) X.xe s
def dm(X:Cx)(st:List Stmt)(t:TS):Prop:=
 ∀(pins:aB) (s:Shared) (σ:St) (H:Hp) (D:Ends),Inv X pins σ H s->t D σ H->wpAny X.md X.A (execs st X.env) (SP X pins D) X.xe s
theorem av{α:Type}{t:Sem α}{Q Q':α->Shared->Prop}{M:Model}{A:Around}{E:aC}{s:Shared}(h:wpAny M A t Q E s)(hQ:∀a s,Q a s->Q' a s):wpAny M A t Q' E s:=wpAny_mono h hQ λ_ _ x=>x
section
variable {X:Cx}
inductive yg(i:Nat)(σ:St)(H:Hp)(Q:VK):Prop
 |mk (v) (aE:σ[i]?=some (some v)) (aN:Q v H):yg i σ H Q
def fR(i:Nat):TE:=λσ H Q=>yg i σ H Q
def tC(v:V):TE:=λ_ H Q=>Q v H
theorem Fl{i:Nat}{x:Str}{pos:Pos}(hN:X.N[i]?=some x)(hv:k_ X.env.scope x)(hd:(x==("__debug__":Str))=false:=by decide)(dD:(x==("__classdict__":Str))=false:=by decide):PE X (.Name x pos) (fR i):=by
 rintro pins s σ H Q I ⟨v,e,h⟩;obtain⟨m,hn,hl⟩:=I.loc;obtain⟨u,r,l⟩:=hl i x v hN e hv;have fin:EP X pins σ Q u s:=⟨v,H,I,r,h⟩;rcases l with⟨hk,hm⟩|⟨hk,c,hc,oI⟩;·exact wpAny_Name (wpAny_loadName_local I.ok.kind hk hn hm fin) hd
 ·rcases hk with hk|hk;·exact wpAny_Name (wpAny_loadName_cell I.ok.kind hk hc oI fin) hd
  ·exact wpAny_Name (wpAny_loadName_free I.ok.kind hk hc oI fin dD) hd
theorem ao{i j pos}:PE X (.Constant (.int i) j pos) (tC (.int i)):=λ_ _ _ H _ I h=>wpAny_Constant_int ⟨.int i,H,I.tok _,⟨_,rfl⟩,h⟩
theorem eh{b j pos}:PE X (.Constant (.bool b) j pos) (tC (.bl b)):=λ_ _ _ H _ I h=>Constant_bool ⟨.bl b,H,I,rfl,h⟩
theorem jH{j pos}:PE X (.Constant .none j pos) (tC .aD):=λ_ _ _ H _ I h=>Constant_none ⟨.aD,H,I,rfl,h⟩
theorem bU{x j pos}:PE X (.Constant (.str x) j pos) (tC (.str x)):=λ_ _ _ H _ I h=>Calls.Constant_str ⟨.str x,H,I.tok _,⟨_,rfl⟩,h⟩
def Gl(X:Cx)(x:Str):Prop:=X.env.kindOf x=some .globalImplicit
theorem rQ{E:aC}{pins:aB}{s:Shared}{σ:St}{H:Hp}{x:Str}{u:Value}{pos:Pos}{Q:aC}(I:Inv X pins σ H s)(hg:Gl X x)(hm:X.mg x=some u)(h:Q u s)
  (hd:(x==("__debug__":Str))=false:=by decide):wpAny X.md X.A (eval (.Name x pos) X.env) Q E s:=
 Calls.Name_function_global I.ok.kind hg (Calls.loadGlobal_global (by rw[I.ok.glob];exact I.mod.glob.keeps I.bk) hm h) hd
theorem oz{E:aC}{pins:aB}{s:Shared}{σ:St}{H:Hp}{x:Str}{u:Value}{pos:Pos}{Q:aC}(I:Inv X pins σ H s)(hg:Gl X x)(hm:X.mg x=none)(hv:bootBuiltins x=some u)(h:Q u s)
  (hn:x≠"__name__":=by decide)(hd:(x==("__debug__":Str))=false:=by decide):wpAny X.md X.A (eval (.Name x pos) X.env) Q E s:=by
 obtain⟨mb,h1,h2⟩:=I.mod.blt;exact Calls.Name_function_global I.ok.kind hg (Calls.loadGlobal_builtin (by rw[I.ok.glob];exact I.mod.glob.keeps I.bk) hm (by rw[I.ok.blt];exact h1.keeps I.bk) ((h2 x hn).trans hv) h) hd
theorem ig{x:Str}{v:V}{u:Value}{pos:Pos}(hg:Gl X x)(hm:X.mg x=some u)(r:RelV v u)(hd:(x==("__debug__":Str))=false:=by decide):PE X (.Name x pos) (tC v):=
 λ_ _ _ H _ I h=>rQ I hg hm ⟨v,H,I,r,h⟩ hd
theorem En{x:Str}{v:V}{u:Value}{pos:Pos}(hg:Gl X x)(hm:X.mg x=none)(hv:bootBuiltins x=some u)(r:RelV v u)(hn:x≠"__name__":=by decide)(hd:(x==("__debug__":Str))=false:=by decide):PE X (.Name x pos) (tC v):=
 λ_ _ _ H _ I h=>oz I hg hm hv ⟨v,H,I,r,h⟩ hn hd
variable {a b:Expr}{ta tb:TE}{pos:Pos}
def PC(X:Cx)(op:CmpOp)(a b:Expr)(t:TE):Prop:=
 ∀(pins:aB) (s:Shared) (σ:St) (H:Hp) (Q:VK),Inv X pins σ H s->t σ H Q->
  wpAny X.md X.A (eval a X.env) (λv aG=>wpAny X.md X.A (eval b X.env) (λu cE=>wpAny X.md X.A (compareOp op v u) (EP X pins σ Q) X.xe cE) X.xe aG) X.xe s
inductive zF(Q:Bool->Hp->Prop)(x:V)(H1:Hp):Prop
 |mk (c) (aE:x=.bl c) (aN:Q c H1):zF Q x H1
def tB(t:TE):TT:=λσ H Q=>t σ H λx H1=>zF Q x H1
theorem yh{op:CmpOp}{t:TE}(h:PC X op a b t)(h1:behindInMarks op b=false:=by first|exact DI _ (by decide) (by decide)|rfl):PE X (.Compare a [op] [b] pos) t:=λpins s σ H Q I hw=>wpAny_Compare1 (h pins s σ H Q I hw) h1
theorem oA{op:CmpOp}{t:TE}(h:PC X op a b t)(h1:behindInMarks op b=false:=by first|exact DI _ (by decide) (by decide)|rfl):PT X (.Compare a [op] [b] pos) (tB t):=by
 intro pins s σ H Q I hw;refine wpAny_isTrue_Compare1 (av (h pins s σ H _ I hw) λv s1 h1=>av h1 λu s2 h2=>av h2 λc s3 zq=>?_) h1;obtain⟨x,H1,I1,r1,q1⟩:=zq;obtain⟨d,rfl,q⟩:=q1;cases r1;exact wpAny_truthy_bool ⟨H1,I1,q⟩
theorem dw{e:Expr}{t:TE}(h:PE X e t)(he:∀whole,isTrue e X.env whole=(do let v←whole;standAt e.pos;holding [v] (truthy v)):=by intro _;rfl):PT X e (tB t):=by
 intro pins s σ H Q I hw;refine isTrue_plain (av (h pins s σ H _ I hw) λv s1 zq=>?_) (he _);obtain⟨x,H1,I1,r1,q1⟩:=zq;obtain⟨d,rfl,q⟩:=q1;cases r1;exact wpAny_truthy_bool ⟨H1,I1,q⟩
variable {tA pA:TT}{rest:List Expr}
def G8(t u:TT):TT:=λσ H Q=>t σ H λc H1=>if c=true then u σ H1 Q else Q false H1
def Am(t u:TT):TT:=λσ H Q=>t σ H λc H1=>if c=true then Q true H1 else u σ H1 Q
def G9(t:TT):TT:=λσ H Q=>t σ H λc H1=>Q (!c) H1
theorem pw_and1(ha:PT X a tA):PW X (.BoolOp .And [a] pos) tA:=by
 intro wh pins s σ H Q I h;refine isTrue_and (av (ha pins s σ H Q I h) λc s1 e=>?_);cases c with
 |true=>exact isTrue_and_nil e
 |false=>exact e
theorem pw_or1(ha:PT X a tA):PW X (.BoolOp .Or [a] pos) tA:=by
 intro wh pins s σ H Q I h;refine isTrue_or (av (ha pins s σ H Q I h) λc s1 e=>?_);cases c with
 |false=>exact isTrue_or_nil e
 |true=>exact e
theorem pw_and(ha:PT X a tA)(hb:PW X (.BoolOp .And (b::rest) pos) pA):PW X (.BoolOp .And (a::b::rest) pos) (G8 tA pA):=by
 intro wh pins s σ H Q I h;refine isTrue_and (av (ha pins s σ H _ I h) λc s1 zq=>?_);obtain⟨H1,I1,q1⟩:=zq;cases c with
 |true=>exact hb wh pins s1 σ H1 Q I1 q1
 |false=>exact⟨H1,I1,q1⟩
theorem pw_or(ha:PT X a tA)(hb:PW X (.BoolOp .Or (b::rest) pos) pA):PW X (.BoolOp .Or (a::b::rest) pos) (Am tA pA):=by
 intro wh pins s σ H Q I h;refine isTrue_or (av (ha pins s σ H _ I h) λc s1 zq=>?_);obtain⟨H1,I1,q1⟩:=zq;cases c with
 |true=>exact⟨H1,I1,q1⟩
 |false=>exact hb wh pins s1 σ H1 Q I1 q1
theorem fL(ha:PT X a tA):PT X (.UnaryOp .Not a pos) (G9 tA):=by
 intro pins s σ H Q I h;exact isTrue_not (ha pins s σ H (λc H1=>Q (!c) H1) I h)
def Gn(ta tb:TE):TE:=λσ H Q=>ta σ H λx H1=>∃c,x=.bl c/\if c=true then tb σ H1 Q else Q (.bl false) H1
def Gp(ta:TE):TE:=λσ H Q=>ta σ H λx H1=>∃c,x=.bl c/\Q (.bl (!c)) H1
theorem iq{op}{t:TE}(h:PE X a t):PE X (.BoolOp op [a] pos) t:=λpins s σ H Q I hw=>BoolOp_one (h pins s σ H Q I hw)
theorem dO(ha:PE X a ta)(hb:PE X (.BoolOp .And (b::rest) pos) tb):PE X (.BoolOp .And (a::b::rest) pos) (Gn ta tb):=by
 intro pins s σ H Q I h;refine BoolOp_and (av (ha pins s σ H _ I h) λv s1 zq=>?_);obtain⟨x,H1,I1,r1,q1⟩:=zq;obtain⟨c,rfl,q1⟩:=q1;cases r1;refine wpAny_truthy_bool ?_;cases c with
 |true=>exact hb pins s1 σ H1 Q I1 q1
 |false=>exact⟨.bl false,H1,I1,rfl,q1⟩
theorem oB(ha:PE X a ta):PE X (.UnaryOp .Not a pos) (Gp ta):=by
 intro pins s σ H Q I h;refine UnaryOp_ (av (ha pins s σ H _ I h) λv s1 zq=>?_);obtain⟨x,H1,I1,r1,q1⟩:=zq;obtain⟨c,rfl,q1⟩:=q1;cases r1;exact not_of (wpAny_truthy_bool ⟨.bl (!c),H1,I1,rfl,q1⟩)
def Ii(t:TT)(ta tb:TE):TE:=λσ H Q=>t σ H λc H1=>if c=true then ta σ H1 Q else tb σ H1 Q
theorem DJ{c:Expr}(hc:PT X c tA)(ha:PE X a ta)(hb:PE X b tb):PE X (.IfExp c a b pos) (Ii tA ta tb):=by
 intro pins s σ H Q I h;refine wpAny_IfExp (av (hc pins s σ H _ I h) λd s1 zq=>?_);obtain⟨H1,I1,q1⟩:=zq;cases d with
 |true=>exact ha pins s1 σ H1 Q I1 q1
 |false=>exact hb pins s1 σ H1 Q I1 q1
end
def ah(K:af)(H:Hp)(a:Addr)(xs:List V):Prop:=
 Rd H a (.lst xs)\/
  ∃(o:Obj) (ag:Array Value) (n:Nat),K.lookup a=some o/\o.cls=.type "list"/\o.dict=none/\o.data=.seq ag n/\ag.size<=sizeLine/\Vals xs ag.toList
def au(K:af)(H:Hp)(a:Addr)(xs:List V):Prop:=
 Rd H a (.tup xs)\/
  ∃(o:Obj) (ag:Array Value) (n:Nat),K.lookup a=some o/\o.cls=.type "tuple"/\o.data=.seq ag n/\ag.size<=sizeLine/\Vals xs ag.toList
def G_:Value->Option V
 |.none=>some .aD
 |.bool b=>some (.bl b)
 |.int i _=>some (.int i)
 |.str x _=>some (.str x)
 |.bytes b _=>some (.fc b)
 |.float b _=>some (.j4 b)
 |.ref a=>some (.ref a)
 |.type n=>some (.ty n)
 |_=>none
theorem RelV.abs{x:V}{u:Value}(r:RelV x u):G_ u=some x:=by
 cases x with
 |aD=>cases r;rfl
 |bl _=>cases r;rfl
 |int _=>obtain⟨t,rfl⟩:=r;rfl
 |str _=>obtain⟨t,rfl⟩:=r;rfl
 |fc _=>obtain⟨t,rfl⟩:=r;rfl
 |j4 _=>obtain⟨t,rfl⟩:=r;rfl
 |ref _=>cases r;rfl
 |ty _=>cases r;rfl
theorem RelV.inj{x y:V}{u:Value}(r:RelV x u)(q:RelV y u):x=y:=Yf (r.abs.symm.trans q.abs)
theorem Vals.inj:∀{xs ys:List V} {us:List Value},Vals xs us->Vals ys us->xs=ys:=by
 intro xs ys us h;induction h generalizing ys with
 |nil=>intro h';cases h';rfl
 |cons r t ih=>
  intro h';cases h' with
  |cons r' t'=>rw[r.inj r',ih t']
section
variable {X:Cx}{pins:aB}{σ:St}{H:Hp}{s:Shared}{a:Addr}{xs ys:List V}
theorem ah.of{K:af}(h:H a=some (.lst xs)):ah K H a xs:=.inl (.inl h)
theorem au.of{K:af}(h:H a=some (.tup xs)):au K H a xs:=.inl (.inl h)
theorem Inv.list(I:Inv X pins σ H s)(h:ah X.K H a xs):∃ag:List Value,Vals xs ag/\PlainL s.heap a ag.toArray/\xs.length<=sizeLine:=by
 rcases h with h|⟨o,ag,n,hk,hc,hd,hs,hz,r⟩
 ·obtain⟨z,ag,n,r,e⟩:=h.ok I.aw;exact⟨ag,r,⟨_,n,e,rfl,rfl,rfl⟩,z⟩
 ·refine⟨ag.toList,r,⟨o,n,I.cq a o hk,hc,hd,by simpa using hs⟩,?_⟩;have e:=r.length
  grind
theorem Inv.tuple(I:Inv X pins σ H s)(h:au X.K H a xs):∃ag:List Value,Vals xs ag/\IsTup s.heap a ag.toArray/\xs.length<=sizeLine:=by
 rcases h with h|⟨o,ag,n,hk,hc,hs,hz,r⟩
 ·obtain⟨z,ag,r,p⟩:=h.ok I.aw;exact⟨ag,r,p.tup,z⟩
 ·refine⟨ag.toList,r,⟨o,I.cq a o hk,hc,n,by simpa using hs⟩,?_⟩;have e:=r.length
  grind
theorem Inv.DK(I:Inv X pins σ H s)(h:ah X.K H a xs)(h':ah X.K H a ys):xs=ys:=by
 obtain⟨ag,r,⟨o,n,e,_,_,d⟩,_⟩:=I.list h;obtain⟨its',r',⟨o',n',e',_,_,d'⟩,_⟩:=I.list h';rw[e] at e';cases e';rw[d] at d';injection d' with d1 _;have:ag=its':=by simpa using congrArg Array.toList d1
 subst this;exact r.inj r'
theorem Inv.Dd(I:Inv X pins σ H s)(h:au X.K H a xs)(h':au X.K H a ys):xs=ys:=by
 obtain⟨ag,r,⟨o,e,_,n,d⟩,_⟩:=I.tuple h;obtain⟨its',r',⟨o',e',_,n',d'⟩,_⟩:=I.tuple h';rw[e] at e';cases e';rw[d] at d';injection d' with d1 _;have:ag=its':=by simpa using congrArg Array.toList d1
 subst this;exact r.inj r'
end
abbrev Cx.gs(X:Cx)(E:aC):Cx:={X with xe:=E}
abbrev Cx.mS(X:Cx):Cx:=X.gs λ_ _=>False
theorem Cx.Ok.gs{X:Cx}(ok:X.Ok)(E:aC):(X.gs E).Ok:=
 ⟨ok.mod,ok.kind,ok.glob,ok.blt,ok.above,ok.inj,ok.has,ok.mO,ok.hd,ok.frames,ok.ph,ok.jh,ok.bs,ok.iG,ok.mz,ok.jR,ok.e6,ok.j7⟩
theorem Cx.Ok.i_{X:Cx}{E:aC}(ok:(X.gs E).Ok):X.Ok:=
 ⟨ok.mod,ok.kind,ok.glob,ok.blt,ok.above,ok.inj,ok.has,ok.mO,ok.hd,ok.frames,ok.ph,ok.jh,ok.bs,ok.iG,ok.mz,ok.jR,ok.e6,ok.j7⟩
section
variable {X:Cx}{pins:aB}{σ:St}{H:Hp}{s:Shared}{E:aC}
theorem Inv.gs(I:Inv X pins σ H s)(E:aC):Inv (X.gs E) pins σ H s:=⟨I.ok.gs E,I.os,I.bare,I.base,I.loc,I.cell,I.free,I.gr,I.pin,I.aw,I.len⟩
theorem Inv.i_(I:Inv (X.gs E) pins σ H s):Inv X pins σ H s:=⟨I.ok.i_,I.os,I.bare,I.base,I.loc,I.cell,I.free,I.gr,I.pin,I.aw,I.len⟩
theorem SP.i_{D:Ends}{f:Flow}{s':Shared}(h:SP (X.gs E) pins D f s'):SP X pins D f s':=by
 cases f with
 |next=>obtain⟨aH,H',I,q⟩:=h;exact⟨aH,H',I.i_,q⟩
 |brk=>obtain⟨aH,H',I,q⟩:=h;exact⟨aH,H',I.i_,q⟩
 |cont=>obtain⟨aH,H',I,q⟩:=h;exact⟨aH,H',I.i_,q⟩
 |ret u=>obtain⟨v,aH,H',I,r,q⟩:=h;exact⟨v,aH,H',I.i_,r,q⟩
theorem dm.mS{st:List Stmt}{t:TS}(h:dm X.mS st t):dm X st t:=λpins s σ H D I hw=>
 wpAny_mono (h pins s σ H D (I.gs _) hw) (λ_ _ q=>q.i_) λ_ _ z=>False.elim z
end
section
variable {X:Cx}{st:Stmt}{rest:List Stmt}{t u:TS}{e:Expr}{te:TE}{pos:Pos}
def y6:TS:=λD σ H=>D.nx σ H
def mB(t u:TS):TS:=λD σ H=>t {D with nx:=u D} σ H
theorem aY:dm X [] y6:=λ_ _ σ H _ I h=>wpAny_execs_nil ⟨σ,H,I,h⟩
theorem ar(h1:PS X st t)(h2:dm X rest u):dm X (st::rest) (mB t u):=by
 intro pins s σ H D I h;refine wpAny_execs_cons (av (h1 pins s σ H {D with nx:=u D} I h) λf s1 q=>?_);cases f with
 |next=>
  obtain⟨aH,H',I',q⟩:=q;exact h2 pins s1 aH H' D I' q
 |ret v=>exact q
 |brk=>exact q
 |cont=>exact q
theorem ay(h1:PS X st t):dm X [st] t:=by
 intro pins s σ H D I h;refine wpAny_execs_cons (av (h1 pins s σ H D I h) λf s1 q=>?_);cases f with
 |next=>exact wpAny_execs_nil q
 |ret v=>exact q
 |brk=>exact q
 |cont=>exact q
def Gq:TS:=λD σ H=>D.ct σ H
theorem Ci:PS X (.Continue pos) Gq:=λ_ _ σ H _ I h=>wpAny_Continue ⟨σ,H,I,h⟩
theorem Inv.quiet{pins:aB}{σ:St}{H:Hp}{s:Shared}(I:Inv X pins σ H s):interactive X.env=false:=by simp[interactive,I.ok.kind]
def Gr(te:TE):TS:=λD σ H=>te σ H λ_ H1=>D.nx σ H1
theorem gk(he:PE X e te)(hs:swapsWith e none pos.line X.env=pure false:=by rfl):PS X (.Expr e pos) (Gr te):=by
 intro pins s σ H D I h;exact wpAny_Expr_any (av (he pins s σ H _ I h) λv s1 ⟨x,H1,I1,r1,q1⟩=>⟨σ,H1,I1,q1⟩) I.quiet hs
def Ha(te:TE):TS:=λD σ H=>te σ H D.rt
theorem aK(he:PE X e te):PS X (.Return (some e) pos) (Ha te):=by
 intro pins s σ H D I h;exact wpAny_Return_some (av (he pins s σ H _ I h) λv s1 ⟨x,H1,I1,r1,q1⟩=>⟨x,σ,H1,I1,r1,q1⟩)
def tq(c:TT)(t u:TS):TS:=λD σ H=>c σ H λb H1=>if b=true then t D σ H1 else u D σ H1
theorem aV{c:Expr}{a b:List Stmt}{tc:TT}(hc:PT X c tc)(ha:dm X a t)(hb:dm X b u):PS X (.If c a b pos) (tq tc t u):=by
 intro pins s σ H D I h;refine wpAny_If (av (hc pins s σ H _ I h) λd s1 zq=>?_);obtain⟨H1,I1,q1⟩:=zq;cases d with
 |true=>exact ha pins s1 σ H1 D I1 q1
 |false=>exact hb pins s1 σ H1 D I1 q1
def Fm:TS:=λ_ _ _=>False
theorem kI{Ij:List Stmt}:dm X Ij Fm:=λ_ _ _ _ _ _ h=>h.elim
end
abbrev TG:=V->St->Hp->(St->Hp->Prop)->Prop
abbrev gH:=List V->St->Hp->(St->Hp->Prop)->Prop
def PG(X:Cx)(target:Expr)(t:TG):Prop:=
 ∀(pins:aB) (s:Shared) (σ:St) (H:Hp) (v:V) (u:Value) (Q:St->Hp->Prop),Inv X pins σ H s->RelV v u->t v σ H Q->
  wpAny X.md X.A (assign target X.env u) (λ_ s'=>jS X pins Q s') X.xe s
def mU(X:Cx)(ts:List Expr)(t:gH):Prop:=
 ∀(pins:aB) (s:Shared) (σ:St) (H:Hp) (vs:List V) (us:List Value) (Q:St->Hp->Prop),Inv X pins σ H s->Vals vs us->t vs σ H Q->
  wpAny X.md X.A (assignInOrder ((assignEach ts X.env).map (·.2)) us) (λ_ s'=>jS X pins Q s') X.xe s
abbrev tD:=V->V->V->Hp->(Hp->Prop)->Prop
def jT(X:Cx)(t:tD):Prop:=
 ∀(pins:aB) (s:Shared) (σ:St) (H:Hp) (o i v:V) (ov iv u:Value) (Q:Hp->Prop),Inv X pins σ H s->RelV o ov->RelV i iv->RelV v u->t o i v H Q->
  wpAny X.md X.A (setItem ov iv u) (λ_ s'=>∃H',Inv X pins σ H' s'/\Q H') X.xe s
abbrev pB:=V->V->Hp->VK->Prop
def An(X:Cx)(op:Operator)(t:pB):Prop:=
 ∀(pins:aB) (s:Shared) (σ:St) (H:Hp) (x y:V) (v u:Value) (Q:VK),Inv X pins σ H s->RelV x v->RelV y u->t x y H Q->
  wpAny X.md X.A (inplaceOp op v u) (EP X pins σ Q) X.xe s
section
variable {X:Cx}{pos:Pos}
def fO(i:Nat):TG:=λv σ H Q=>Q (σ.set i (some v)) H
theorem jE{i:Nat}{x:Str}(hN:X.N.Nodup)(hi:X.N[i]?=some x)(hx:Loc X.env.scope x)(hf:X.fn x=true\/X.env.scope.names.lookup x=some .local:=by first|exact .inl rfl|exact .inr rfl|assumption):PG X (.Name x pos) (fO i):=by
 intro pins s σ H v u Q I r h;exact wpAny_assign_Name (i4 I hN hi hx r (λs' I'=>⟨_,H,I',h⟩) hf)
def Hb:gH:=λvs σ H Q=>vs=[]/\Q σ H
inductive xB(t:TG)(u:gH)(vs:List V)(σ:St)(H:Hp)(Q:St->Hp->Prop):Prop
 |mk (v r) (aE:vs=v::r) (aN:t v σ H λaH H'=>u r aH H' Q):xB t u vs σ H Q
def Gs(t:TG)(u:gH):gH:=λvs σ H Q=>xB t u vs σ H Q
theorem fH:mU X [] Hb:=by
 rintro pins s σ H vs us Q I r ⟨e,h⟩;subst e;exact assignInOrder_nil ⟨σ,H,I,h⟩
theorem bL{e:Expr}{es:List Expr}{t:TG}{u:gH}(h1:PG X e t)(h2:mU X es u)
  (hs:(assignEach (e::es) X.env).map (·.2)=assign e X.env::(assignEach es X.env).map (·.2):=by rfl):mU X (e::es) (Gs t u):=by
 rintro pins s σ H vs us Q I r ⟨v,vr,e1,h⟩;subst e1;cases r with
 |cons r rr=>
  rw[hs];exact assignInOrder_cons (av (h1 pins s σ H _ _ _ I r h) λ_ s1 ⟨lh,H1,I1,q1⟩=>h2 pins s1 lh H1 _ _ Q I1 rr q1)
inductive yi(K:af)(n:Nat)(t:gH)(v:V)(σ:St)(H:Hp)(Q:St->Hp->Prop):Prop
 |mk (a xs) (aE:v=.ref a) (aN:au K H a xs) (a9:xs.length=n) (bV:t xs σ H Q):yi K n t v σ H Q
def zG(K:af)(n:Nat)(t:gH):TG:=λv σ H Q=>yi K n t v σ H Q
theorem Fn{es:List Expr}{k:Nat}{t:gH}{n:Nat}(hc:X.calm=true)(h:mU X es t)
  (hn:(assignEach es X.env).length=n:=by rfl)(cu:(assignEach es X.env).findIdx? (·.1)=none:=by rfl):PG X (.Tuple es k pos) (zG X.K n t):=by
 rintro pins s σ H v u Q I r ⟨a,xs,e1,hq,hl,hw⟩;subst e1;cases r;obtain⟨ag,rv,ht,hz⟩:=I.tuple hq;exact assign_Tuple_tuple (I.ok.hd hc) ht (by simp[hn,←hl,rv.length]) cu λh' hx=>h pins _ σ H xs _ Q (I.kept λb o e=>hx b o (Yo (Yj e)) e) (by simpa using rv) hw
def zH(to ti:TE)(t:tD):TG:=λv σ H Q=>to σ H λo H1=>ti σ H1 λi H2=>t o i v H2 λH3=>Q σ H3
theorem Fo{o i:Expr}{to ti:TE}{t:tD}(ho:PE X o to)(hi:PE X i ti)(hs:jT X t)
  (ha:∀v,assign (.Subscript o i pos) X.env v=(do
   let ov←holding [v] (eval o X.env);let iv←holding [v,ov] (eval i X.env)
   standAt pos
   holding [v,ov,iv] (setItem ov iv v)
   release [v,ov,iv] []):=by intro _;rfl):PG X (.Subscript o i pos) (zH to ti t):=by
 intro pins s σ H v u Q I r h;exact wpAny_bind (wpAny_holding (av (ho pins s σ H _ I h) λov s1 ⟨x,H1,I1,r1,q1⟩=>wpAny_bind (wpAny_holding (av (hi pins s1 σ H1 _ I1 q1) λiv s2 ⟨y,H2,I2,r2,q2⟩=>wpAny_bind (wpAny_standAt (wpAny_bind (wpAny_holding (av (hs pins s2 σ H2 x y v ov iv u _ I2 r1 r2 r q2) λ_ s3 ⟨H3,I3,q3⟩=>wpAny_release ⟨σ,H3,I3,q3⟩))))))))
def jg(te:TE)(g:TG):TS:=λD σ H=>te σ H λx H1=>g x σ H1 D.nx
theorem ja{tg e:Expr}{te:TE}{g:TG}(he:PE X e te)(hg:PG X tg g)(hs:swapsWithSole [tg] e pos.line X.env=pure false:=by rfl)(hw:swappedStores [tg] e X.env=pure none:=by rfl)
  (h1:(assignEach [tg] X.env).map (·.2)=[assign tg X.env]:=by rfl):PS X (.Assign [tg] e pos) (jg te g):=by
 intro pins s σ H D I h;refine wpAny_Assign_stores (av (he pins s σ H _ I h) λv s1 zq=>?_) hs hw;obtain⟨x,H1,I1,r1,q1⟩:=zq;rw[h1];exact av (hg pins s1 σ H1 x v _ I1 r1 q1) λ_ s2 q=>q
theorem eX{i:Nat}{x:Str}{e:Expr}{te:TE}{pos':Pos}(hN:X.N.Nodup)(hi:X.N[i]?=some x)(hx:Loc X.env.scope x)(he:PE X e te)(hs:swapsWith e (some (.Name x pos')) pos.line X.env=pure false:=by rfl)(hf:X.fn x=true\/X.env.scope.names.lookup x=some .local:=by first|exact .inl rfl|exact .inr rfl|assumption):
  PS X (.Assign [.Name x pos'] e pos) (jg te (fO i)):=by
 intro pins s σ H D I h;refine wpAny_Assign_Name (av (he pins s σ H _ I h) λv s1 zq=>?_) hs;obtain⟨y,H1,I1,r1,q1⟩:=zq;exact i4 I1 hN hi hx r1 (λs2 I2=>⟨_,H1,I2,q1⟩) hf
def Hc(i j:Nat)(ta:TA):TS:=λD σ H=>ta σ H λvs H1=>∃v w,vs=[v,w]/\D.nx ((σ.set i (some v)).set j (some w)) H1
theorem Fp{i j:Nat}{x y:Str}{a b:Expr}{ta:TA}{px py pt:Pos}{kt k2 j9}(hc:X.calm=true)(hN:X.N.Nodup)(hi:X.N[i]?=some x)(hj:X.N[j]?=some y)(Ik:i≠j)
  (hx:X.env.scope.names.lookup x=some .local)(hy:X.env.scope.names.lookup y=some .local)(ha:PA X [a,b] ta)
  (hw:swappedStores [.Tuple [.Name x px,.Name y py] kt pt] (.Tuple [a,b] k2 j9) X.env=pure (some [x,y]))
  (hs:swapsWithSole [.Tuple [.Name x px,.Name y py] kt pt] (.Tuple [a,b] k2 j9) pos.line X.env=pure false:=by rfl):
  PS X (.Assign [.Tuple [.Name x px,.Name y py] kt pt] (.Tuple [a,b] k2 j9) pos) (Hc i j ta):=by
 intro pins s σ H D I h;refine wpAny_bind (wpAny_standAt ?_);rw[hs];refine wpAny_bind (wpAny_pure ?_);refine wpAny_bind (Tuple_ (av (ha _ pins s σ H _ I h) λus s1 zq=>?_));obtain⟨vs,H1,I1,r1,q1⟩:=zq;obtain⟨v,w,e1,q1⟩:=q1;subst e1;obtain⟨u1,u2,rfl,rv,dE⟩:∃u1 u2,us=[u1,u2]/\RelV v u1/\RelV w u2:=by
  cases r1 with
  |cons p q=>
   cases q with
   |cons p' q'=>
    cases q'
    grind
 refine wpAny_newObj_type ?_ (by show 2<=sizeLine;decide);rw[hw];refine wpAny_bind (wpAny_pure ?_);refine wpAny_bind (wpAny_rule (wpAny_bind (unpackItems_tuple (items:=#[u1,u2]) (I.ok.hd hc) (IsTup.new s1.heap _) λh' uf=>wpAny_bind (assignInOrder_cons (wpAny_bindName (i4 ((I1.kept λb o e=>Yb _ e).kept λb o e=>uf b o (Yo (Yj e)) e) hN hj (.inl hy) dE (λs2 I4=>?_) (.inr hy)))))));refine assignInOrder_cons (wpAny_bindName (i4 I4 hN hi (.inl hx) rv (λs3 I5=>assignInOrder_nil (wpAny_pure ?_)) (.inr hx)));rw[List.set_comm _ _ (Ne.symm Ik)] at I5;exact⟨_,H1,I5,q1⟩
def Hd(i:Nat)(te:TE)(ti:pB):TS:=λD σ H=>∃x,σ[i]?=some (some x)/\te σ H λy H1=>ti x y H1 λz H2=>D.nx (σ.set i (some z)) H2
theorem Fq{i:Nat}{x:Str}{e:Expr}{te:TE}{op:Operator}{ti:pB}{pos':Pos}(hN:X.N.Nodup)(hi:X.N[i]?=some x)(hx:Loc X.env.scope x)(he:PE X e te)(ho:An X op ti)(hf:X.fn x=true\/X.env.scope.names.lookup x=some .local:=by first|exact .inl rfl|exact .inr rfl|assumption):
  PS X (.AugAssign (.Name x pos') op e pos) (Hd i te ti):=by
 rintro pins s σ H D I ⟨v,e1,h⟩;obtain⟨m,hn,hl⟩:=I.loc;have ug:k_ X.env.scope x:=by rcases hx with k|k;exact .inl k;exact .inr (.inl k)
 obtain⟨u,r,l⟩:=hl i x v hi e1 ug;refine wpAny_AugAssign_Name ?_;have go:wpAny X.md X.A (eval e X.env) (λw cE=>wpAny X.md X.A (inplaceOp op u w) (λr bw=>wpAny X.md X.A (storeName X.env x r) (λ_=>SP X pins D .next) X.xe bw) X.xe cE) X.xe s:=av (he pins s σ H _ I h) λw s1 ⟨y,H1,I1,r1,q1⟩=>av (ho pins s1 σ H1 v y u w _ I1 r r1 q1) λz s2 ⟨zv,H2,I2,r2,q2⟩=>i4 I2 hN hi hx r2 (λs3 I3=>⟨_,H2,I3,q2⟩) hf;rcases l with⟨hk,hm⟩|⟨hk,c,hc,oI⟩;·exact wpAny_loadName_local I.ok.kind hk hn hm go
 ·rcases hk with hk|hk;·exact wpAny_loadName_cell I.ok.kind hk hc oI go
  ·rcases hx with k|k
   ·have:X.env.scope.names.lookup x=some .free:=hk
    grind
   ·have:X.env.scope.names.lookup x=some .free:=hk
    grind
inductive y8(f:Int->Int->Int)(x:V)(y:V)(H:Hp)(Q:VK):Prop
 |mk (i j) (aE:x=.int i) (aN:y=.int j) (a9:Q (.int (f i j)) H):y8 f x y H Q
def Il(f:Int->Int->Int):pB:=λx y H Q=>y8 f x y H Q
theorem Fs:An X .Add (Il λi j=>i+j):=by
 rintro pins s σ H x y v u Q I r1 r2 ⟨i,j,e1,e2,q⟩;subst e1;subst e2;obtain⟨t,rfl⟩:=r1;obtain⟨t',rfl⟩:=r2;exact iadd_int ⟨.int _,H,I.tok _,⟨_,rfl⟩,q⟩
end
section
variable {X:Cx}{pos:Pos}
def yj(c:TT)(tb:TS):TS:=λD σ H=>∃W:Nat->St->Hp->Prop,(∃m,W m σ H)/\∀m σ H,W m σ H->
 c σ H λb H1=>if b=true then ∃N:St->Hp->Prop,(∀aH H',N aH H'->∃m',m'<m/\W m' aH H')/\tb {D with nx:=N,ct:=N,bk:=D.nx} σ H1 else D.nx σ H1
theorem DL{c:Expr}{body:List Stmt}{tc:TT}{tb:TS}(hp:PassesOwn X.md X.A X.env X.xe)(hc:PT X c tc)(hb:dm X body tb):PS X (.While c body [] pos) (yj tc tb):=by
 intro pins s σ H D I h;obtain⟨W,⟨m0,w0⟩,turn⟩:=h;refine wpAny_While (codeAny_whileLoop (λn s'=>jS X pins (W n) s') ?_ m0 ⟨σ,H,I,w0⟩);rintro n s1 ⟨lh,H1,I1,w1⟩;refine wpAny_passesOwn hp (av (hc pins s1 lh H1 _ I1 (turn n lh H1 w1)) λb s2 zq=>?_);obtain⟨H2,I2,q2⟩:=zq;cases b with
 |true=>
  obtain⟨N,hN,q2⟩:=q2;rw[if_pos rfl];refine wpAny_passesOwn hp (av (hb pins s2 lh H2 _ I2 q2) λf s3 q3=>?_);cases f with
  |next=>
   obtain⟨cG,H3,I3,n3⟩:=q3;obtain⟨m',hm,w3⟩:=hN cG H3 n3;exact⟨m',hm,cG,H3,I3,w3⟩
  |cont=>
   obtain⟨cG,H3,I3,n3⟩:=q3;obtain⟨m',hm,w3⟩:=hN cG H3 n3;exact⟨m',hm,cG,H3,I3,w3⟩
  |brk=>exact q3
  |ret v=>exact q3
 |false=>
  rw[if_neg Yi];exact wpAny_execs_nil ⟨lh,H2,I2,q2⟩
end
structure It where
 go:Nat->Hp->Prop
 fV:Nat->Hp->V->Hp->Prop
 stop:Nat->Hp->Prop
def cR(X:Cx)(pins:aB)(H:Hp)(b:Addr):Prop:=
 H b=none/\b≠X.env.locals/\b∉X.fs/\(b∈X.ex\/X.bj.heap.objs.size<=b)/\(∀x c,X.env.cells.lookup x=some c->c≠b)/\∀p∈X.pn++pins,p.1≠b
theorem Inv.mC{X:Cx}{pins:aB}{σ:St}{H H':Hp}{s:Shared}{b:Addr}(I:Inv X pins σ H s)(hb:s.heap.objs.size<=b)(hn:H' b=none):cR X pins H' b:=by
 refine⟨hn,Jl (Yn I.lt hb),I.G5 hb,.inr (Yx I.sz hb),λx c e z=>?_,λp hp z=>?_⟩
 ·obtain⟨v,q⟩:=I.cell x c e;exact absurd (Yn q.lt (by rw[z];exact hb)) (Y4 _)
 ·exact absurd (Yn (Yj (I.pin p hp).1) (by rw[z];exact hb)) (Y4 _)
structure Turn(P:Program)(w:World)(K:af)(tg:Expr)(J:It)(fp:List Addr)(it:Addr)(tn:Nat->Heap->Prop):Prop where
 mem:it∈fp
 obj:∀i h,tn i h->∀b∈fp,∃o,h.get? b=some o/\∀v,o.data≠.cell v
 keep:∀i h h',tn i h->(∀b∈fp,∀o,h.get? b=some o->h'.get? b=some o)->tn i h'
 item:∀(X:Cx),X.prog=P->X.w=w->X.K=K->X.calm=true->∀(i:Nat) (pins:aB) (s:Shared) (σ:St) (H:Hp) (E:aC),Inv X pins σ H s->(∀b∈fp,cR X pins H b)->tn i s.heap->J.go i H->
  wpAny (model P w) X.A (pyNext (.ref it)) (λr s1=>∃u,r=some u/\
   wpAny (model P w) X.A (letOwnedTupleGo tg (.ref it) u) (λ_ s2=>∃x H',Inv X pins σ H' s2/\RelV x u/\J.fV i H x H'/\tn (i+1) s2.heap/\∀b∈fp,H' b=none) E s1) E s
 done:∀(X:Cx),X.prog=P->X.w=w->X.K=K->X.calm=true->∀(i:Nat) (pins:aB) (s:Shared) (σ:St) (H:Hp) (E:aC),Inv X pins σ H s->(∀b∈fp,cR X pins H b)->tn i s.heap->J.stop i H->
  wpAny (model P w) X.A (pyNext (.ref it)) (λr s1=>r=none/\Inv X pins σ H s1) E s
 self:∀(A:Around) (i:Nat) (s:Shared) (Q:aC) (E:aC),tn i s.heap->Q (.ref it) s->wpAny (model P w) A (pyIter (.ref it)) Q E s
abbrev TI:=St->Hp->(It->Hp->Prop)->Prop
def Ao(X:Cx)(pins:aB)(σ:St)(tg:Expr)(R:It->Hp->Prop)(j_:Value)(s2:Shared):Prop:=
 ∃(it:Addr) (fp:List Addr) (tn:Nat->Heap->Prop) (J:It) (H':Hp),j_=.ref it/\Inv X pins σ H' s2/\Turn X.prog X.w X.K tg J fp it tn/\tn 0 s2.heap/\(∀b∈fp,cR X pins H' b)/\R J H'
def PI(X:Cx)(tg iter:Expr)(wi:TI):Prop:=
 ∀(pins:aB) (s:Shared) (σ:St) (H:Hp) (R:It->Hp->Prop),Inv X pins σ H s->wi σ H R->
  wpAny X.md X.A (eval iter X.env) (λv s1=>wpAny X.md X.A (pyIter v) (Ao X pins σ tg R) X.xe s1) X.xe s
theorem sQ{M:Model}{A:Around}{E:aC}{s:Shared}{tg:Expr}{it:Addr}{u:Value}{o:Obj}{n:String}{vs:Array Value}{Q:Unit->Shared->Prop}(ho:s.heap.get? it=some o)(hc:o.cls=.type n)(hd:o.data=.fields vs)
    (hn:["enumerate","zip","dict_itemiterator","dict_reverseitemiterator","odict_iterator","itertools.zip_longest","itertools.pairwise"].contains n=false)(hQ:Q () s):wpAny M A (letOwnedTupleGo tg (.ref it) u) Q E s:=by
  unfold letOwnedTupleGo;cases tg <;> first
    | exact wpAny_pure hQ
    | (cases u <;> first
        | exact wpAny_pure hQ
        | (refine wpAny_bind (wpAny_load ho ?_)
           rw [hc,hd];show wpAny M A (if (["enumerate","zip","dict_itemiterator","dict_reverseitemiterator","odict_iterator","itertools.zip_longest","itertools.pairwise"].contains n&&vs[0]? == some (rawInt _))=true then _ else _) Q E s;rw [if_neg (by intro h; rw [hn,Wh] at h; cases h)];exact wpAny_pure hQ))
def gQ(K:af)(a:Addr):It:=
 ⟨λi H=>∃xs x,ah K H a xs/\xs[i]?=some x,λi H x H'=>H'=H/\∀xs,ah K H a xs->xs[i]?=some x,λi H=>∃xs,ah K H a xs/\xs.length<=i⟩
def jj(K:af)(a:Addr):It:=
 ⟨λi H=>∃xs x,au K H a xs/\xs[i]?=some x,λi H x H'=>H'=H/\∀xs,au K H a xs->xs[i]?=some x,λi H=>∃xs,au K H a xs/\xs.length<=i⟩
def ka(lo:Int)(n:Nat):It:=⟨λi _=>i<n,λi H x H'=>H'=H/\x=.int (lo+i),λi _=>n<=i⟩
theorem wx{P:Program}{w:World}{K:af}{tg:Expr}(a it:Addr):Turn P w K tg (gQ K a) [it] it (λi h=>h.IsListIter it a i) where
 mem:=by simp
 obj:=λi h st b hb=>by
  have e:b=it:=by simpa using hb
  obtain⟨o,e,c,d⟩:=st
  grind
 keep:=λi h h' st k=>st.at λo e=>k it (by simp) o e
 item:=by
  intro X hP hw hK hc i pins s σ H E I hf st hg;subst hP hw hK;obtain⟨xs,x,hq,hx⟩:=hg;obtain⟨ag,rv,p,hz⟩:=I.list hq;obtain⟨u,hu,ru⟩:=rv.get hx;obtain⟨f0,f1,f2,f3,f4,f5⟩:=hf it (by simp);refine wpAny_pyNext_list_item st p.isList (by simpa using hu) λh' jk sb=>?_;obtain⟨o,e,c,d⟩:=id jk;exact⟨u,rfl,sQ e c d (by decide) ⟨x,H,(I.turned (λb o hb e=>(sb.2 b hb).trans e) f0 f1 f3 f4 f5),ru,⟨rfl,λys hy=>by rw[I.DK hy hq];exact hx⟩,jk,λb hb=>(hf b hb).1⟩⟩
 done:=by
  intro X hP hw hK hc i pins s σ H E I hf st hg;subst hP hw hK;obtain⟨xs,hq,hx⟩:=hg;obtain⟨ag,rv,p,hz⟩:=I.list hq;obtain⟨f0,f1,f2,f3,f4,f5⟩:=hf it (by simp);have hl:=rv.length;exact wpAny_pyNext_list_end (I.ok.hd hc) st p.isList (by simp;omega) λh' eb=>⟨rfl,I.turned (λb o hb e=>eb b o hb e) f0 f1 f3 f4 f5⟩
 self:=λ_ _ _ _ _ st h=>wpAny_pyIter_listiter st h
theorem vU{P:Program}{w:World}{K:af}{tg:Expr}(a it:Addr):Turn P w K tg (jj K a) [it] it (λi h=>h.IsTupleIter it a i) where
 mem:=by simp
 obj:=λi h st b hb=>by
  have e:b=it:=by simpa using hb
  obtain⟨o,e,c,d⟩:=st
  grind
 keep:=λi h h' st k=>st.at λo e=>k it (by simp) o e
 item:=by
  intro X hP hw hK hc i pins s σ H E I hf st hg;subst hP hw hK;obtain⟨xs,x,hq,hx⟩:=hg;obtain⟨ag,rv,p,hz⟩:=I.tuple hq;obtain⟨u,hu,ru⟩:=rv.get hx;obtain⟨f0,f1,f2,f3,f4,f5⟩:=hf it (by simp);refine wpAny_pyNext_tuple_item st (show s.heap.IsTuple a ag.toArray from p) (by simpa using hu) λh' jk sb=>?_;obtain⟨o,e,c,d⟩:=id jk;exact⟨u,rfl,sQ e c d (by decide) ⟨x,H,(I.turned (λb o hb e=>(sb.2 b hb).trans e) f0 f1 f3 f4 f5),ru,⟨rfl,λys hy=>by rw[I.Dd hy hq];exact hx⟩,jk,λb hb=>(hf b hb).1⟩⟩
 done:=by
  intro X hP hw hK hc i pins s σ H E I hf st hg;subst hP hw hK;obtain⟨xs,hq,hx⟩:=hg;obtain⟨ag,rv,p,hz⟩:=I.tuple hq;obtain⟨f0,f1,f2,f3,f4,f5⟩:=hf it (by simp);have hl:=rv.length;exact wpAny_pyNext_tuple_end (I.ok.hd hc) st (show s.heap.IsTuple a ag.toArray from p) (by simp;omega) λh' eb=>⟨rfl,I.turned (λb o hb e=>eb b o hb e) f0 f1 f3 f4 f5⟩
 self:=λ_ _ _ _ _ st h=>wpAny_pyIter_tupleiter st h
theorem CG{P:Program}{w:World}{K:af}{tg:Expr}(it:Addr)(lo:Int)(n:Nat):Turn P w K tg (ka lo n) [it] it (λi h=>IsRangeIter h it (lo+(i:Nat)*1) ((n:Int)-(i:Nat)) 1) where
 mem:=by simp
 obj:=λi h st b hb=>by
  grind
 keep:=λi h h' st k=>k it (by simp) _ st
 item:=by
  intro X hP hw hK hc i pins s σ H E I hf st hg;subst hP hw hK;obtain⟨f0,f1,f2,f3,f4,f5⟩:=hf it (by simp);refine(Walks.range (I.ok.hd hc) it lo 1 n).item i s _ _ hg st λv h' tk hv jk kk=>?_;obtain⟨t,rfl⟩:=hv;refine⟨_,rfl,sQ jk rfl rfl (by decide) ⟨.int (lo+i),H,(I.turned (λb o hb e=>kk b o (by simpa using hb) e) f0 f1 f3 f4 f5),⟨t,?_⟩,⟨rfl,rfl⟩,jk,λb hb=>(hf b hb).1⟩⟩;rw[Int.mul_one]
 done:=by
  intro X hP hw hK hc i pins s σ H E I hf st hg;subst hP hw hK;obtain⟨f0,f1,f2,f3,f4,f5⟩:=hf it (by simp);exact wpAny_pyNext_range_end (I.ok.hd hc) st (by have:n<=i:=hg;omega) λh' eb=>⟨rfl,I.turned (λb o hb e=>eb b o hb e) f0 f1 f3 f4 f5⟩
 self:=λ_ _ _ _ _ st h=>wpAny_pyIter_rangeiter st h
section
variable {X:Cx}{tg:Expr}
inductive xC(K:af)(R:It->Hp->Prop)(x:V)(H1:Hp):Prop
 |mk (a) (aE:x=.ref a) (aN:(∃xs,ah K H1 a xs)) (a9:R (gQ K a) H1):xC K R x H1
def y9(K:af)(tl:TE):TI:=λσ H R=>tl σ H λx H1=>xC K R x H1
inductive yk(K:af)(R:It->Hp->Prop)(x:V)(H1:Hp):Prop
 |mk (a) (aE:x=.ref a) (aN:(∃xs,au K H1 a xs)) (a9:R (jj K a) H1):yk K R x H1
def zI(K:af)(tl:TE):TI:=λσ H R=>tl σ H λx H1=>yk K R x H1
theorem xD{l:Expr}{tl:TE}(hl:PE X l tl):PI X tg l (y9 X.K tl):=by
 intro pins s σ H R I h;refine av (hl pins s σ H _ I h) λv s1 zq=>?_;obtain⟨x,H1,I1,r1,q1⟩:=zq;obtain⟨a,e,⟨xs,hq⟩,q⟩:=q1;subst e;cases r1;obtain⟨ag,rv,p,hz⟩:=I1.list hq;refine wpAny_pyIter_list p.isList ⟨s1.heap.objs.size,[s1.heap.objs.size],_,_,H1,rfl,I1.kept λb o e=>Yb _ e,wx a _,⟨_,Yl _ rfl,rfl,rfl⟩,λb hb=>?_,q⟩;have e:b=s1.heap.objs.size:=by simpa using hb
 subst e;exact I1.mC (Yc _) (I1.aw.fresh (Yc _))
theorem oC{l:Expr}{tl:TE}(hl:PE X l tl):PI X tg l (zI X.K tl):=by
 intro pins s σ H R I h;refine av (hl pins s σ H _ I h) λv s1 zq=>?_;obtain⟨x,H1,I1,r1,q1⟩:=zq;obtain⟨a,e,⟨xs,hq⟩,q⟩:=q1;subst e;cases r1;obtain⟨ag,rv,p,hz⟩:=I1.tuple hq;refine wpAny_pyIter_tuple (show s1.heap.IsTuple a ag.toArray from p) ⟨s1.heap.objs.size,[s1.heap.objs.size],_,_,H1,rfl,I1.kept λb o e=>Yb _ e,vU a _,⟨_,Yl _ rfl,rfl,rfl⟩,λb hb=>?_,q⟩;have e:b=s1.heap.objs.size:=by simpa using hb
 subst e;exact I1.mC (Yc _) (I1.aw.fresh (Yc _))
theorem DM{pins:aB}{σ:St}{H:Hp}{s:Shared}{R:It->Hp->Prop}{E:aC}{lo hi:Int}{t u v:Tok}{tk:Nat}(I:Inv X pins σ H s)(h1:-(2^62)<=lo)(h2:lo<2^62)(h3:-(2^62)<=hi)(h4:hi<2^62)
  (q:R (ka lo (hi-lo).toNat) H):wpAny X.md X.A (pyIter (.ref s.heap.objs.size)) (Ao X pins σ tg R) E {s with heap:=s.heap.push {cls:=.type "range",data:=.fields #[.int lo t,.int hi u,.int 1 v]},toks:=tk}:=by
 refine wpAny_pyIter_range (IsRange.new ..) (small_one h1 h2 h3 h4) ?_;have I1:Inv X pins σ H {s with heap:=s.heap.push {cls:=.type "range",data:=.fields #[.int lo t,.int hi u,.int 1 v]},toks:=tk}:=I.kept λb o e=>Yb _ e;refine⟨(s.heap.push {cls:=.type "range",data:=.fields #[.int lo t,.int hi u,.int 1 v]}).objs.size,[(s.heap.push {cls:=.type "range",data:=.fields #[.int lo t,.int hi u,.int 1 v]}).objs.size],_,_,H,rfl,
  I1.kept (t':=tk) λb o e=>Yb _ e,CG _ lo (hi-lo).toNat,?_,λb hb=>?_,q⟩
 ·have e1:lo+((0:Nat):Int)*1=lo:=by simp
  have e2:(((hi-lo).toNat:Nat):Int)-((0:Nat):Int)=Builtin.Range.rangeSize lo hi 1:=by rw[rangeSize_one];split<;>omega
  show IsRangeIter _ _ (lo+((0:Nat):Int)*1) ((((hi-lo).toNat:Nat):Int)-((0:Nat):Int)) 1;rw[e1,e2];exact Yl _ rfl
 ·have e:b=(s.heap.push {cls:=.type "range",data:=.fields #[.int lo t,.int hi u,.int 1 v]}).objs.size:=by simpa using hb
  subst e;exact I1.mC (Yc _) (I1.aw.fresh (Yc _))
inductive xE(R:It->Hp->Prop)(vs:List V)(H1:Hp):Prop
 |mk (j:Int) (aE:vs=[.int j]) (aN:-(2^62)<=j) (a9:j<2^62) (bV:R (ka 0 j.toNat) H1):xE R vs H1
def Gu(ta:TA):TI:=λσ H R=>ta σ H λvs H1=>xE R vs H1
theorem fD{a:Expr}{ta:TA}{p pos:Pos}(hg:Gl X "range")(hm:X.mg "range"=none)(ha:PA X [a] ta)(hs:starEach [a] X.env=[(false,eval a X.env)]:=by rfl):PI X tg (.Call (.Name "range" p) [a] [] pos) (Gu ta):=by
 intro pins s σ H R I h;refine Call_ (oz I hg hm boot_range (PyProof.Rows.callWith_type1 (av (ha pos pins s σ H _ I h) λus s1 zq=>?_) hs rfl));obtain⟨vs,H1,I1,r1,q1⟩:=zq;obtain⟨j,e,q1,q2,q⟩:=q1;subst e;cases r1 with
 |cons r rr=>
  cases rr;obtain⟨t,rfl⟩:=r;exact call_range_1 (DM I1 (by omega) (by omega) q1 q2 (by simpa using q))
def He(wi:TI)(g:TG)(tb:TS):TS:=λD σ H=>wi σ H λJ H1=>∃W:Nat->Nat->St->Hp->Prop,(∃m,W 0 m σ H1)/\∀i m σ H,W i m σ H->
 (J.stop i H/\D.nx σ H)\/(J.go i H/\∃N:St->Hp->Prop,(∀aH H',N aH H'->∃m',m'<m/\W (i+1) m' aH H')/\∀x H',J.fV i H x H'->g x σ H' λbW H2=>tb {D with nx:=N,ct:=N,bk:=D.nx} bW H2)
def ir(fp:List Addr)(h:Heap):List (Addr×Obj):=fp.filterMap λb=>(h.get? b).map λo=>(b,o)
theorem gh{fp:List Addr}{h:Heap}{b:Addr}{o:Obj}(hb:b∈fp)(e:h.get? b=some o):(b,o)∈ir fp h:=List.mem_filterMap.mpr ⟨b,hb,by rw[e];rfl⟩
theorem De{fp:List Addr}{h:Heap}{p:Addr×Obj}(hp:p∈ir fp h):p.1∈fp/\h.get? p.1=some p.2:=by
 obtain⟨b,hb,e⟩:=List.mem_filterMap.mp hp;cases q:h.get? b with
 |none=>grind
 |some o=>grind
theorem Inv.pinned{pins:aB}{σ:St}{H:Hp}{s:Shared}{fp:List Addr}(I:Inv X pins σ H s)(hf:∀b∈fp,cR X pins H b)(ho:∀b∈fp,∃o,s.heap.get? b=some o/\∀v,o.data≠.cell v):Inv X (pins++ir fp s.heap) σ H s:=
 I.xA λp hp=>(Wj.mp hp).elim (λz=>I.pin p (Yg _ z)) λz=>by
  obtain⟨hb,e⟩:=De z;obtain⟨f0,f1,f2,_⟩:=hf p.1 hb
  grind
theorem Inv.jD{pins pl:aB}{σ:St}{H:Hp}{s:Shared}(I:Inv X (pins++pl) σ H s):Inv X pins σ H s:=I.xA λp hp=>I.pin p (Yg _ (Wn _ hp))
theorem dy{iter:Expr}{body:List Stmt}{wi:TI}{g:TG}{tb:TS}{pos:Pos}(hp:PassesOwn X.md X.A X.env X.xe)(hc:X.calm=true)(hi:PI X tg iter wi)(hg:PG X tg g)(hb:dm X body tb)
  (hs:∀x,foldedSetIterable iter X.env x=pure x:=by intro _;rfl):PS X (.For tg iter body [] pos) (He wi g tb):=by
 intro pins s σ H D I h;refine wpAny_For (av (hi pins s σ H _ I h) λv s1 h1=>av h1 λj_ s2 h2=>?_) hs;obtain⟨it,fp,tn,J,H2,e,I2,T,cB,f2,W,⟨m0,w0⟩,turn⟩:=h2;subst e;have dB:∀{H':Hp},(∀b∈fp,H' b=none)->∀b∈fp,cR X pins H' b:=λhn b hb=>⟨hn b hb,(f2 b hb).2⟩;refine codeAny_forLoop_any (λn s'=>∃i aH H',Inv X pins aH H' s'/\tn i s'.heap/\(∀b∈fp,H' b=none)/\W i n aH H') ?_ m0 ⟨0,σ,H2,I2,cB,λb hb=>(f2 b hb).1,w0⟩;rintro n s3 ⟨i,cG,H3,I3,Ap,jm,w3⟩;rcases turn i n cG H3 w3 with⟨stop,qn⟩|⟨go,N,hN,step⟩
 ·refine wpAny_passesOwn hp (av (T.done X rfl rfl rfl hc i pins s3 cG H3 X.xe I3 (dB jm) Ap stop) λr s4 zq=>?_);obtain⟨hr,I4⟩:=zq;subst hr;exact wpAny_execs_nil ⟨cG,H3,I4,qn⟩
 ·refine wpAny_passesOwn hp (av (T.item X rfl rfl rfl hc i pins s3 cG H3 X.xe I3 (dB jm) Ap go) λr s4 zq=>?_);obtain⟨u,hr,h4⟩:=zq;subst hr;refine wpAny_passesOwn hp (av h4 λ_ s5 ⟨x,H5,I5,r5,y5,fg,gR⟩=>wpAny_passesOwn hp (av (hg _ s5 cG H5 x u _ (I5.pinned (dB gR) (T.obj _ _ fg)) r5 (step x H5 y5)) λ_ s6 ⟨kd,H6,I6,q6⟩=>wpAny_passesOwn hp (av (hb _ s6 kd H6 _ I6 q6) λf s7 q7=>?_)));have again:∀{fW:St} {H7:Hp},Inv X (pins++ir fp s5.heap) fW H7 s7->N fW H7->∃m,m<n/\∃i aH H',Inv X pins aH H' s7/\tn i s7.heap/\(∀b∈fp,H' b=none)/\W i m aH H':=λ{fW H7} I7 n7=>by
   obtain⟨m',hm,w7⟩:=hN fW H7 n7;refine⟨m',hm,i+1,fW,H7,I7.jD,T.keep _ _ _ fg λb hb o e=>(I7.pin (b,o) (Yg _ (Yg _ (gh hb e)))).1,λb hb=>?_,w7⟩;obtain⟨o,e,d⟩:=T.obj _ _ fg b hb;exact(I7.pin (b,o) (Yg _ (Yg _ (gh hb e)))).2.1
  cases f with
  |next=>obtain⟨fW,H7,I7,n7⟩:=q7;exact again I7 n7
  |cont=>obtain⟨fW,H7,I7,n7⟩:=q7;exact again I7 n7
  |brk=>obtain⟨fW,H7,I7,q7⟩:=q7;exact⟨fW,H7,I7.jD,q7⟩
  |ret v=>obtain⟨x7,fW,H7,I7,r7,q7⟩:=q7;exact⟨x7,fW,H7,I7.jD,r7,q7⟩
end
theorem i5{K:af}{a:Addr}{xs:List V}{g:TG}{tb:TS}{D:Ends}{σ:St}{H:Hp}(Pv:Nat->St->Hp->Prop)(h0:Pv 0 σ H)(hl:∀i σ H,i<=xs.length->Pv i σ H->ah K H a xs)
  (hs:∀i x σ H,xs[i]?=some x->Pv i σ H->g x σ H λbW H2=>tb {D with nx:=Pv (i+1),ct:=Pv (i+1),bk:=D.nx} bW H2)(hd:∀σ H,Pv xs.length σ H->D.nx σ H):
  ∃W:Nat->Nat->St->Hp->Prop,(∃m,W 0 m σ H)/\∀i m σ H,W i m σ H->
   ((gQ K a).stop i H/\D.nx σ H)\/((gQ K a).go i H/\∃N:St->Hp->Prop,(∀aH H',N aH H'->∃m',m'<m/\W (i+1) m' aH H')/\∀x H',(gQ K a).fV i H x H'->g x σ H' λbW H2=>tb {D with nx:=N,ct:=N,bk:=D.nx} bW H2):=by
 refine⟨λi m σ H=>m=xs.length-i/\i<=xs.length/\Pv i σ H,⟨xs.length,by simp,Yw _,h0⟩,?_⟩;rintro i m σ H ⟨rfl,hi,p⟩;have q:=hl i σ H hi p;by_cases bo:i<xs.length
 ·refine .inr ⟨⟨xs,xs[i],q,by simp[bo]⟩,Pv (i+1),λaH H' p'=>⟨xs.length-(i+1),by omega,rfl,bo,p'⟩,λx H' y=>?_⟩;obtain⟨e,y⟩:=y;subst e;exact hs i x σ _ (y xs q) p
 ·have e:i=xs.length:=by omega
  subst e;exact .inl ⟨⟨xs,q,Yc _⟩,hd σ H p⟩
theorem Eo{K:af}{a:Addr}{xs:List V}{g:TG}{tb:TS}{D:Ends}{σ:St}{H:Hp}(Pv:Nat->St->Hp->Prop)(h0:Pv 0 σ H)(hl:∀i σ H,i<=xs.length->Pv i σ H->au K H a xs)
  (hs:∀i x σ H,xs[i]?=some x->Pv i σ H->g x σ H λbW H2=>tb {D with nx:=Pv (i+1),ct:=Pv (i+1),bk:=D.nx} bW H2)(hd:∀σ H,Pv xs.length σ H->D.nx σ H):
  ∃W:Nat->Nat->St->Hp->Prop,(∃m,W 0 m σ H)/\∀i m σ H,W i m σ H->
   ((jj K a).stop i H/\D.nx σ H)\/((jj K a).go i H/\∃N:St->Hp->Prop,(∀aH H',N aH H'->∃m',m'<m/\W (i+1) m' aH H')/\∀x H',(jj K a).fV i H x H'->g x σ H' λbW H2=>tb {D with nx:=N,ct:=N,bk:=D.nx} bW H2):=by
 refine⟨λi m σ H=>m=xs.length-i/\i<=xs.length/\Pv i σ H,⟨xs.length,by simp,Yw _,h0⟩,?_⟩;rintro i m σ H ⟨rfl,hi,p⟩;have q:=hl i σ H hi p;by_cases bo:i<xs.length
 ·refine .inr ⟨⟨xs,xs[i],q,by simp[bo]⟩,Pv (i+1),λaH H' p'=>⟨xs.length-(i+1),by omega,rfl,bo,p'⟩,λx H' y=>?_⟩;obtain⟨e,y⟩:=y
  grind
 ·have e:i=xs.length:=by omega
  subst e;exact .inl ⟨⟨xs,q,Yc _⟩,hd σ H p⟩
theorem kJ{lo:Int}{n:Nat}{g:TG}{tb:TS}{D:Ends}{σ:St}{H:Hp}(Pv:Nat->St->Hp->Prop)(h0:Pv 0 σ H)
  (hs:∀i σ H,i<n->Pv i σ H->g (.int (lo+i)) σ H λbW H2=>tb {D with nx:=Pv (i+1),ct:=Pv (i+1),bk:=D.nx} bW H2)(hd:∀σ H,Pv n σ H->D.nx σ H):
  ∃W:Nat->Nat->St->Hp->Prop,(∃m,W 0 m σ H)/\∀i m σ H,W i m σ H->
   ((ka lo n).stop i H/\D.nx σ H)\/((ka lo n).go i H/\∃N:St->Hp->Prop,(∀aH H',N aH H'->∃m',m'<m/\W (i+1) m' aH H')/\∀x H',(ka lo n).fV i H x H'->g x σ H' λbW H2=>tb {D with nx:=N,ct:=N,bk:=D.nx} bW H2):=by
 refine⟨λi m σ H=>m=n-i/\i<=n/\Pv i σ H,⟨n,by simp,Yw _,h0⟩,?_⟩;rintro i m σ H ⟨rfl,hi,p⟩;by_cases bo:i<n
 ·refine .inr ⟨bo,Pv (i+1),λaH H' p'=>⟨n-(i+1),by omega,rfl,bo,p'⟩,λx H' y=>?_⟩;obtain⟨e,y⟩:=y
  grind
 ·have e:i=n:=by omega
  subst e;exact .inl ⟨Yc _,hd σ H p⟩
theorem DN{c:TT}{tb:TS}{D:Ends}{σ:St}{H:Hp}(Pv:St->Hp->Prop)(μ:St->Hp->Nat)(h0:Pv σ H)
  (hs:∀σ H,Pv σ H->c σ H λb H1=>if b=true then tb {D with nx:=λaH H'=>Pv aH H'/\μ aH H'<μ σ H,ct:=λaH H'=>Pv aH H'/\μ aH H'<μ σ H,bk:=D.nx} σ H1 else D.nx σ H1)
  (mono:∀σ H Q Q',(∀b H1,Q b H1->Q' b H1)->c σ H Q->c σ H Q'):yj c tb D σ H:=by
 refine⟨λm σ H=>m=μ σ H/\Pv σ H,⟨_,rfl,h0⟩,?_⟩;rintro m σ H ⟨rfl,p⟩;refine mono σ H _ _ (λb H1 q=>?_) (hs σ H p);cases b with
 |true=>exact⟨_,λaH H' ⟨p',l⟩=>⟨_,l,rfl,p'⟩,q⟩
 |false=>exact q
abbrev R2:=V->V->Hp->VK->Prop
def bx(X:Cx)(f:Value->Value->Sem Value)(r:R2):Prop:=
 ∀(pins:aB) (s:Shared) (σ:St) (H:Hp) (x y:V) (v u:Value) (Q:VK),Inv X pins σ H s->RelV x v->RelV y u->r x y H Q->
  wpAny X.md X.A (f v u) (EP X pins σ Q) X.xe s
def uh(X:Cx)(f:Value->Sem Value)(r:V->Hp->VK->Prop):Prop:=
 ∀(pins:aB) (s:Shared) (σ:St) (H:Hp) (x:V) (v:Value) (Q:VK),Inv X pins σ H s->RelV x v->r x H Q->
  wpAny X.md X.A (f v) (EP X pins σ Q) X.xe s
def ck(X:Cx)(f:Value)(r:List V->Hp->VK->Prop):Prop:=
 ∀(pins:aB) (s:Shared) (σ:St) (H:Hp) (xs:List V) (us:List Value) (Q:VK),Inv X pins σ H s->Vals xs us->r xs H Q->
  wpAny X.md X.A (call f us) (EP X pins σ Q) X.xe s
def fh(r:R2)(ta tb:TE):TE:=λσ H Q=>ta σ H λx H1=>tb σ H1 λy H2=>r x y H2 Q
def Im(r:V->Hp->VK->Prop)(ta:TE):TE:=λσ H Q=>ta σ H λx H1=>r x H1 Q
inductive zJ(C:Int->Int->Prop)(g:Int->Int->V)(x:V)(y:V)(H:Hp)(Q:VK):Prop
 |mk (i j) (aE:x=.int i) (aN:y=.int j) (a9:C i j) (bV:Q (g i j) H):zJ C g x y H Q
def rI(C:Int->Int->Prop)(g:Int->Int->V):R2:=λx y H Q=>zJ C g x y H Q
inductive y_(g:Int->Int->V)(x:V)(y:V)(H:Hp)(Q:VK):Prop
 |mk (i j) (aE:x=.int i) (aN:y=.int j) (a9:Q (g i j) H):y_ g x y H Q
def jn(g:Int->Int->V):R2:=λx y H Q=>y_ g x y H Q
inductive zK(g:Int->V)(x:V)(H:Hp)(Q:VK):Prop
 |mk (i) (aE:x=.int i) (aN:Q (g i) H):zK g x H Q
def rU(g:Int->V):V->Hp->VK->Prop:=λx H Q=>zK g x H Q
section
variable {X:Cx}{a b c:Expr}{ta tb tc:TE}{pos:Pos}
theorem tE(ha:PE X a ta)(hb:PE X b tb){pins:aB}{s:Shared}{σ:St}{H:Hp}{R:V->V->Hp->Prop}(I:Inv X pins σ H s)
  (h:ta σ H λx H1=>tb σ H1 λy H2=>R x y H2){Q:aC}{f:Value->Value->Sem Value}
  (hf:∀v u s2 x y H2,Inv X pins σ H2 s2->RelV x v->RelV y u->R x y H2->wpAny X.md X.A (f v u) Q X.xe s2):
  wpAny X.md X.A (eval a X.env) (λv aG=>wpAny X.md X.A (eval b X.env) (λu cE=>wpAny X.md X.A (f v u) Q X.xe cE) X.xe aG) X.xe s:=by
 refine av (ha pins s σ H _ I h) λv s1 zq=>?_;obtain⟨x,H1,I1,r1,q1⟩:=zq;refine av (hb pins s1 σ H1 _ I1 q1) λu s2 zq=>?_;obtain⟨y,H2,I2,r2,q2⟩:=zq
 grind
theorem aA{op:Operator}{r:R2}(ho:bx X (binaryOp op) r)(ha:PE X a ta)(hb:PE X b tb):PE X (.BinOp a op b pos) (fh r ta tb):=by
 intro pins s σ H Q I h;exact wpAny_BinOp (tE ha hb I h λv u s2 x y H2 I2 rx ry q=>ho pins s2 σ H2 x y v u Q I2 rx ry q)
theorem kZ{op:UnaryOp}{r:V->Hp->VK->Prop}(ho:uh X (unaryOp op) r)(ha:PE X a ta):PE X (.UnaryOp op a pos) (Im r ta):=by
 intro pins s σ H Q I h;exact UnaryOp_ (av (ha pins s σ H _ I h) λv s1 ⟨x,H1,I1,r1,q1⟩=>ho pins s1 σ H1 x v Q I1 r1 q1)
theorem pC{f:Value->Value->Sem Value}{C:Int->Int->Prop}{g:Int->Int->Int}
  (rule:∀(i j:Int) (t u:Tok) (s:Shared) (Q:aC) (E:aC),C i j->Q (.int (g i j) s.toks) {s with toks:=s.toks+1}->wpAny X.md X.A (f (.int i t) (.int j u)) Q E s):
  bx X f (rI C λi j=>.int (g i j)):=by
 rintro pins s σ H x y v u Q I rx ry ⟨i,j,rfl,rfl,hc,q⟩;obtain⟨t,rfl⟩:=rx;obtain⟨t',rfl⟩:=ry;exact rule i j t t' s _ _ hc ⟨.int (g i j),H,I.tok _,⟨_,rfl⟩,q⟩
theorem zL{f:Value->Value->Sem Value}{g:Int->Int->Int}
  (rule:∀(i j:Int) (t u:Tok) (s:Shared) (Q:aC) (E:aC),Q (.int (g i j) s.toks) {s with toks:=s.toks+1}->wpAny X.md X.A (f (.int i t) (.int j u)) Q E s):
  bx X f (jn λi j=>.int (g i j)):=by
 rintro pins s σ H x y v u Q I rx ry ⟨i,j,rfl,rfl,q⟩;obtain⟨t,rfl⟩:=rx;obtain⟨t',rfl⟩:=ry;exact rule i j t t' s _ _ ⟨.int (g i j),H,I.tok _,⟨_,rfl⟩,q⟩
theorem tF{f:Value->Value->Sem Value}{g:Int->Int->Bool}
  (rule:∀(i j:Int) (t u:Tok) (s:Shared) (Q:aC) (E:aC),Q (.bool (g i j)) s->wpAny X.md X.A (f (.int i t) (.int j u)) Q E s):
  bx X f (jn λi j=>.bl (g i j)):=by
 rintro pins s σ H x y v u Q I rx ry ⟨i,j,rfl,rfl,q⟩;obtain⟨t,rfl⟩:=rx;obtain⟨t',rfl⟩:=ry;exact rule i j t t' s _ _ ⟨.bl (g i j),H,I,rfl,q⟩
def tG(i j:Int):Prop:=0<j/\j<1073741824
def Hf(i j:Int):Prop:=0<=j/\j<=1000000/\i.natAbs<2^64
def mD(i j:Int):Prop:=(-(2^64)<i/\i<2^64)\/(-(2^64)<j/\j<2^64)
theorem mD.ok{i j:Int}(h:mD i j):IntMulOk i j:=by
 rcases h with⟨h1,h2⟩|⟨h1,h2⟩;·exact .of_left (intBits_le_64 h1 h2)
 ·exact .of_right (intBits_le_64 h1 h2)
theorem cv:bx X (binaryOp .Add) (jn λi j=>.int (i+j)):=zL λ_ _ _ _ _ _ _ q=>add_int q
theorem lV:bx X (binaryOp .Sub) (jn λi j=>.int (i-j)):=zL λ_ _ _ _ _ _ _ q=>sub_int q
theorem dP:bx X (binaryOp .Mult) (rI mD λi j=>.int (i*j)):=pC λ_ _ _ _ _ _ _ hc q=>mul_int q hc.ok
theorem og:bx X (binaryOp .FloorDiv) (rI tG λi j=>.int (i/j)):=pC λi j _ _ _ _ _ hc q=>by
 have h1:(0:Int)<j:=hc.1;have h2:j<1073741824:=hc.2;exact floordiv_int (by omega) (by rw[Int.fdiv_eq_ediv_of_nonneg i (by omega)];exact q) (.inl (PyProof.noPylong_small (by omega)))
theorem cj:bx X (binaryOp .Mod) (rI (λ_ j=>0<j) λi j=>.int (i % j)):=pC λi j _ _ _ _ _ hc q=>by
 have h1:(0:Int)<j:=hc;exact mod_int' (by omega) (by rw[Int.fmod_eq_emod_of_nonneg i (by omega)];exact q)
theorem oE:bx X (binaryOp .Pow) (rI Hf λi j=>.int (i^j.toNat)):=pC λ_ _ _ _ _ _ _ hc q=>pow_int_small hc.1 hc.2.1 hc.2.2 q
theorem Io{f:Value->Sem Value}{g:Int->Int}
  (rule:∀(i:Int) (t:Tok) (s:Shared) (Q:aC) (E:aC),Q (.int (g i) s.toks) {s with toks:=s.toks+1}->wpAny X.md X.A (f (.int i t)) Q E s):
  uh X f (rU λi=>.int (g i)):=by
 rintro pins s σ H x v Q I rx ⟨i,rfl,q⟩;obtain⟨t,rfl⟩:=rx;exact rule i t s _ _ ⟨.int (g i),H,I.tok _,⟨_,rfl⟩,q⟩
theorem kU:uh X (unaryOp .USub) (rU λi=>.int (-i)):=Io λ_ _ _ _ _ q=>neg_int q
end
def tH:V->V->Bool
 |.aD,.aD=>true|.aD,.int _=>true|.int _,.aD=>true|.aD,.bl _=>true|.bl _,.aD=>true|.aD,.str _=>true|.str _,.aD=>true
 |.int _,.int _=>true|.bl _,.bl _=>true|.str _,.str _=>true|.fc _,.fc _=>true
 |.int _,.str _=>true|.str _,.int _=>true|.bl _,.str _=>true|.str _,.bl _=>true
 |_,_=>false
def Aq:R2:=λx y H Q=>tH x y=true/\Q (.bl (decide (x=y))) H
def Ip:R2:=λx y H Q=>tH x y=true/\Q (.bl (!decide (x=y))) H
theorem xF{i j:Int}:decide (V.int i=V.int j)=(i==j):=by
 grind
theorem yl{i j:Bool}:decide (V.bl i=V.bl j)=(i==j):=by
 grind
theorem xG{i j:Str}:decide (V.str i=V.str j)=(i==j):=by
 grind
theorem xH{i j:Array UInt8}:decide (V.fc i=V.fc j)=(i.toList==j.toList):=by
 rw[Y8];simp_all
section
variable {X:Cx}{a b c:Expr}{ta tb tc:TE}{pos:Pos}
theorem bC{pins:aB}{σ:St}{H:Hp}{s:Shared}{Q:VK}{k k':Bool}(I:Inv X pins σ H s)(q:Q (.bl k) H)(e:k=k'):EP X pins σ Q (.bool k') s:=by
 subst e;exact⟨.bl k,H,I,rfl,q⟩
theorem bX:bx X (compareOp .Eq) Aq:=by
 intro pins s σ H x y v u Q I rx ry h;obtain⟨hs,q⟩:=h;cases x with
 |aD=>
  cases rx;cases y with
  |aD=>cases ry;exact PySem.EqNone.eq_none_none (bC I q (by simp))
  |bl j=>cases ry;exact PySem.EqNone.eq_none_bool (bC I q (by simp))
  |int j=>obtain⟨t',rfl⟩:=ry;exact PySem.EqNone.eq_none_int (bC I q (by simp))
  |str j=>obtain⟨t',rfl⟩:=ry;exact PySem.EqNone.eq_none_str (bC I q (by simp))
  |_=>exact absurd (show false=true from hs) Yi
 |bl i=>
  cases rx;cases y with
  |aD=>cases ry;exact PySem.EqNone.eq_bool_none (bC I q (by simp))
  |bl j=>cases ry;exact eq_bool (bC I q yl)
  |str j=>obtain⟨t',rfl⟩:=ry;exact PySem.EqMixed.eq_bool_str (bC I q (by simp))
  |_=>exact absurd (show false=true from hs) Yi
 |int i=>
  obtain⟨t,rfl⟩:=rx;cases y with
  |aD=>cases ry;exact PySem.EqNone.eq_int_none (bC I q (by simp))
  |int j=>obtain⟨t',rfl⟩:=ry;exact eq_int (bC I q xF)
  |str j=>obtain⟨t',rfl⟩:=ry;exact PySem.EqMixed.eq_int_str (bC I q (by simp))
  |_=>exact absurd (show false=true from hs) Yi
 |str i=>
  obtain⟨t,rfl⟩:=rx;cases y with
  |aD=>cases ry;exact PySem.EqNone.eq_str_none (bC I q (by simp))
  |bl j=>cases ry;exact PySem.EqMixed.eq_str_bool (bC I q (by simp))
  |int j=>obtain⟨t',rfl⟩:=ry;exact PySem.EqMixed.eq_str_int (bC I q (by simp))
  |str j=>obtain⟨t',rfl⟩:=ry;exact eq_str (bC I q xG)
  |_=>exact absurd (show false=true from hs) Yi
 |fc i=>
  obtain⟨t,rfl⟩:=rx;cases y with
  |fc j=>obtain⟨t',rfl⟩:=ry;exact PySem.W.eq_bytes (bC I q xH)
  |_=>exact absurd (show false=true from hs) Yi
 |_=>cases y<;>exact absurd (show false=true from hs) Yi
theorem dA:bx X (compareOp .NotEq) Ip:=by
 intro pins s σ H x y v u Q I rx ry h;obtain⟨hs,q⟩:=h;cases x with
 |aD=>
  cases rx;cases y with
  |aD=>cases ry;exact PySem.EqNone.ne_none_none (bC I q (by simp))
  |bl j=>cases ry;exact PySem.EqNone.ne_none_bool (bC I q (by simp))
  |int j=>obtain⟨t',rfl⟩:=ry;exact PySem.EqNone.ne_none_int (bC I q (by simp))
  |str j=>obtain⟨t',rfl⟩:=ry;exact PySem.EqNone.ne_none_str (bC I q (by simp))
  |_=>exact absurd (show false=true from hs) Yi
 |bl i=>
  cases rx;cases y with
  |aD=>cases ry;exact PySem.EqNone.ne_bool_none (bC I q (by simp))
  |bl j=>cases ry;exact ne_bool (bC I q (congrArg not yl))
  |str j=>obtain⟨t',rfl⟩:=ry;exact PySem.EqMixed.ne_bool_str (bC I q (by simp))
  |_=>exact absurd (show false=true from hs) Yi
 |int i=>
  obtain⟨t,rfl⟩:=rx;cases y with
  |aD=>cases ry;exact PySem.EqNone.ne_int_none (bC I q (by simp))
  |int j=>obtain⟨t',rfl⟩:=ry;exact ne_int (bC I q (congrArg not xF))
  |str j=>obtain⟨t',rfl⟩:=ry;exact PySem.EqMixed.ne_int_str (bC I q (by simp))
  |_=>exact absurd (show false=true from hs) Yi
 |str i=>
  obtain⟨t,rfl⟩:=rx;cases y with
  |aD=>cases ry;exact PySem.EqNone.ne_str_none (bC I q (by simp))
  |bl j=>cases ry;exact PySem.EqMixed.ne_str_bool (bC I q (by simp))
  |int j=>obtain⟨t',rfl⟩:=ry;exact PySem.EqMixed.ne_str_int (bC I q (by simp))
  |str j=>obtain⟨t',rfl⟩:=ry;exact ne_str (bC I q (congrArg not xG))
  |_=>exact absurd (show false=true from hs) Yi
 |fc i=>
  obtain⟨t,rfl⟩:=rx;cases y with
  |fc j=>obtain⟨t',rfl⟩:=ry;exact PySem.W.ne_bytes (bC I q (congrArg not xH))
  |_=>exact absurd (show false=true from hs) Yi
 |_=>cases y<;>exact absurd (show false=true from hs) Yi
theorem oJ:bx X (compareOp .Lt) (jn λi j=>.bl (decide (i<j))):=tF λ_ _ _ _ _ _ _ q=>lt_int q
theorem za:bx X (compareOp .Gt) (jn λi j=>.bl (decide (j<i))):=tF λ_ _ _ _ _ _ _ q=>gt_int q
theorem Gv:bx X (compareOp .GtE) (jn λi j=>.bl (decide (j<=i))):=tF λ_ _ _ _ _ _ _ q=>ge_int q
theorem oF:bx X (compareOp .Is) (λx y H Q=>y=.aD/\Q (.bl (decide (x=.aD))) H):=by
 intro pins s σ H x y v u Q I rx ry h;obtain⟨rfl,q⟩:=h;cases ry;refine is_none_gen (bC I q ?_);cases x<;>first
  |(cases rx;rfl)
  |(obtain⟨t,rfl⟩:=rx;rfl)
theorem ym(b:Expr){op:CmpOp}(h:op≠.In:=by decide)(h2:op≠.NotIn:=by decide):behindInMarks op b=false:=by
 have e1:(op==CmpOp.In)=false:=by cases op<;>first|rfl|exact absurd rfl h
 have e2:(op==CmpOp.NotIn)=false:=by cases op<;>first|rfl|exact absurd rfl h2
 cases b<;>simp[behindInMarks,e1,e2]
theorem xI{op:CmpOp}{r:R2}(ho:bx X (compareOp op) r)(ha:PE X a ta)(hb:PE X b tb)(hm:behindInMarks op b=false):PE X (.Compare a [op] [b] pos) (fh r ta tb):=by
 intro pins s σ H Q I h;exact wpAny_Compare1 (tE ha hb I h λv u s2 x y H2 I2 rx ry q=>ho pins s2 σ H2 x y v u Q I2 rx ry q) hm
inductive xJ(Q:Bool->Hp->Prop)(x:V)(H':Hp):Prop
 |mk (k) (aE:x=.bl k) (aN:Q k H'):xJ Q x H'
def sR(t:TE):TT:=λσ H Q=>t σ H λx H'=>xJ Q x H'
theorem oh{op:CmpOp}{r:R2}(ho:bx X (compareOp op) r)(ha:PE X a ta)(hb:PE X b tb)(hm:behindInMarks op b=false):PT X (.Compare a [op] [b] pos) (sR (fh r ta tb)):=by
 intro pins s σ H Q I h;refine wpAny_isTrue_Compare1 (av (ha pins s σ H _ I h) λv s1 ⟨x,H1,I1,r1,q1⟩=>av (hb pins s1 σ H1 _ I1 q1) λu s2 ⟨y,H2,I2,r2,q2⟩=>
  av (ho pins s2 σ H2 x y v u _ I2 r1 r2 q2) λc s3 ⟨z,H3,I3,r3,k,e,q3⟩=>?_) hm
 subst e;cases r3;exact wpAny_truthy_bool ⟨H3,I3,q3⟩
theorem lW:(sizeLine:Nat)<2^63:=by rw[sizeLine_eq];decide
theorem kG:bx X (binaryOp .Add) (λx y H Q=>∃i j,x=.str i/\y=.str j/\i.length+j.length<=sizeLine/\Q (.str (i++j)) H):=by
 rintro pins s σ H x y v u Q I rx ry ⟨i,j,rfl,rfl,hz,q⟩;obtain⟨t,rfl⟩:=rx;obtain⟨t',rfl⟩:=ry;exact add_str (λt' tk=>⟨.str (i++j),H,I.tok _,⟨_,rfl⟩,q⟩) hz
theorem vals1{x:V}{us:List Value}(r:Vals [x] us):∃u,us=[u]/\RelV x u:=by
 cases r with
 |cons r1 r2=>cases r2;exact⟨_,rfl,r1⟩
theorem vals2{x y:V}{us:List Value}(r:Vals [x,y] us):∃u w',us=[u,w']/\RelV x u/\RelV y w':=by
 cases r with
 |cons r1 r2=>
  cases r2 with
  |cons r3 r4=>cases r4;exact⟨_,_,rfl,r1,r3⟩
theorem wV:ck X (.builtin "abs") (λxs H Q=>∃i,xs=[.int i]/\Q (.int (if i<0 then-i else i)) H):=by
 rintro pins s σ H xs us Q I r ⟨i,rfl,q⟩;obtain⟨u,rfl,t,rfl⟩:=vals1 r;exact call_abs_int λu tk=>⟨.int (if i<0 then-i else i),H,I.tok _,⟨_,rfl⟩,q⟩
theorem qv:ck X (.type "str") (λxs H Q=>∃i,xs=[.int i]/\i.natAbs.log2<1920/\Q (.str (toString i)) H):=by
 rintro pins s σ H xs us Q I r ⟨i,rfl,hz,q⟩;obtain⟨u,rfl,t,rfl⟩:=vals1 r;exact PySem.P.str_of_int hz ⟨.str _,H,I.tok _,⟨_,rfl⟩,q⟩
end
structure jU(h:Heap)(x dx C:Addr)(mA:aJ):Prop where
 obj:h.get? x=some (instObj C dx)
 ns:h.Ns1 dx mA
 ne:dx≠x
theorem Df{h:Heap}{dx:Addr}{mA:aJ}(n:h.Ns1 dx mA):∃od,h.get? dx=some od/\∀name,lookIn name od=some (mA name):=by
 obtain⟨o,es,ep,ho,hd,hk,_,hm⟩:=n;refine⟨o,ho,λname=>?_⟩;have e:=hm name;unfold nsFind findBy at e;rw[←Array.find?_toList] at e;unfold lookIn;rw[hd];dsimp only;split;·grind
 ·rename_i q
  have a:es.toList.any (·.refKey)=false:=by
   rw[List.any_eq_false];intro y hy;obtain⟨z,t,Hg⟩:=hk y (Array.mem_toList_iff.mp hy);simp[DictEntry.refKey,Hg]
  grind
theorem jU.look{h:Heap}{x dx C:Addr}{mA:aJ}(I:jU h x dx C mA):∃od,PySem.W.InstAt h x (instObj C dx) C (some od)/\∀name,lookIn name od=some (mA name):=
 let⟨od,ho,hl⟩:=Df I.ns
 ⟨od,⟨I.obj,rfl,rfl,ho⟩,hl⟩
section
variable {prog:Program}{w:World}{A:Around}{E:aC}{s:Shared}{K:af}{x dx C f:Addr}{mA:aJ}{name:Str}{v:Value}
theorem get_map{expr:Bool}{Q:aC}(X:K.In s.heap)(I:jU s.heap x dx C mA)(hg:plainGet K C name=true)(hh:hasDictIn K C=true)
  (ha:PySem.W.findIn K (.ref C) name=some none)(hv:mA name=some v)(Iq:handedIn v=true)(h:Q v {s with toks:=s.toks+1}):
  wpAny (model prog w) A (getAttr (.ref x) name expr) Q E s:=by
 obtain⟨od,J,hl⟩:=I.look;exact PySem.W.get_value X J (plainGet_of hg).1 (PySem.W.findObj_own hh ha rfl (by rw[hl,hv])) Iq h
theorem DO{pl:Sem Bool}{Q:Value×List Value->Shared->Prop}(X:K.In s.heap)(I:jU s.heap x dx C mA)(hg:plainGet K C name=true)
  (hf:PySem.W.findIn K (.ref C) name=some (some (.ref f)))(ht:isFn K (.ref f)=true)(hv:mA name=none)(h:Q (.ref f,[.ref x]) s):
  wpAny (model prog w) A (getMethod (.ref x) name pl) Q E s:=by
 obtain⟨od,J,hl⟩:=I.look;exact PySem.W.method_fn X J (plainGet_of hg).1 (plainGet_of hg).2 hf (beq_iff_eq.mp ht) (by show(lookIn name od).map (·.isSome)=some false;rw[hl,hv];rfl) h
theorem Ep{ns:List Str}{Q:Unit->Shared->Prop}(X:K.In s.heap)(I:jU s.heap x dx C mA)
  (hs:PySem.W.findIn K (.ref C) "__setattr__"=some (some (.builtin "object.__setattr__")))(hp:plainOver K C=true)(ht:takerIn K C name=some none)(hh:hasDictIn K C=true)
  (hw:PySem.Within mA ns)(hsz:ns.length<=sizeLine)
  (h:∀h',jU h' x dx C (λy=>if y=name then some v else mA y)->Heap.SameBut dx s.heap h'->Q () {s with heap:=h',toks:=s.toks+2}):
  wpAny (model prog w) A (setAttr (.ref x) name v) Q E s:=by
 obtain⟨od,J,hl⟩:=I.look;refine PySem.W.set_plain X J hs (PySem.W.osa_open X J hp ht λb=>?_);obtain⟨cd,hc,Ag⟩:=PySem.W.any_some hh;refine wpAny_bind (wpAny_pure (wpAny_bind (wpAny_bind (wpAny_loadPart I.obj (wpAny_bind (PySem.W.Looks.here (PySem.W.looks_clsIn X hc) ?_))))));rw[Ag];refine wpAny_pure (wpAny_bind (wpAny_pure (wpAny_bind (wpAny_nsSet1 I.ns λh' dF fi=>?_))));obtain⟨oD,L4,L5,Ir,Iu,Iv⟩:=dF.count (PySem.Within.cons name v hw);exact wpAny_bind (wpAny_lookBehind Ir (by rw[Iu];exact pastItsLine_dict (Yx Iv (by rw[Y2];omega))) (wpAny_pure (h _ ⟨(fi.2 _ (Ne.symm I.ne)).trans I.obj,dF,I.ne⟩ fi)))
theorem DP{R:Result->Shared->Prop}{vs:List Value}{kw:List (Str×Value)}(X:K.In s.heap)(hm:makesIn K C=true)
  (hi:PySem.W.findIn K (.ref C) "__init__"=some (some (.ref f)))(hf:typeIn K (.ref f)=some (.type "function"))
  (h:codeAny (model prog w) (A.under (.builtin "type.__call__" ⟨.ref C::vs,kw⟩)) (.call (.ref f) ⟨.ref (s.heap.objs.size+1)::vs,kw⟩) (PySem.W.InitBack (s.heap.objs.size+1) R)
   {s with heap:=(s.heap.push emptyDict).push (instObj C s.heap.objs.size)}):
  codeAny (model prog w) A (.call (.ref C) ⟨vs,kw⟩) R s:=by
 obtain⟨hh,g,d,t,os⟩:=s;exact PySem.W.make_core (PySem.W.makes_of X hm) (PySem.W.looks_findIn X hi) (λself=>PySem.W.bind_fn X self hf) (.inl rfl) h
end
def cF(f:Str)(v:V):List (Str×V)->List (Str×V)
 |[]=>[(f,v)]
 |(g,x)::r=>if g=f then(g,v)::r else(g,x)::cF f v r
theorem vO(f g:Str)(v:V):∀fs:List (Str×V),(cF f v fs).lookup g=if g=f then some v else fs.lookup g
 |[]=>by
  show List.lookup g [(f,v)]=_
  grind
 |(k,x)::r=>by
  have ih:=vO f g v r;rw[show cF f v ((k,x)::r)=(if k=f then(k,v)::r else(k,x)::cF f v r) from rfl]
  grind
theorem rh(f:Str)(v:V):∀fs:List (Str×V),f∈(cF f v fs).map (·.1)/\∀g,g∈fs.map (·.1)->g∈(cF f v fs).map (·.1)
 |[]=>⟨by simp[cF],λg h=>by simp at h⟩
 |(k,x)::r=>by
  obtain⟨i1,i2⟩:=rh f v r;rw[show cF f v ((k,x)::r)=(if k=f then(k,v)::r else(k,x)::cF f v r) from rfl]
  grind
theorem qE(f:Str)(v:V):∀fs:List (Str×V),(cF f v fs).length<=fs.length+1
 |[]=>by simp[cF]
 |(k,x)::r=>by
  have ih:=qE f v r;rw[show cF f v ((k,x)::r)=(if k=f then(k,v)::r else(k,x)::cF f v r) from rfl]
  grind
theorem dj.some_of{v:V}{o:Option Value}(r:dj (some v) o):∃u,o=some u/\RelV v u:=by
 cases o with
 |none=>exact(show False from r).elim
 |some u=>exact⟨u,rfl,r⟩
theorem dj.none_of{o:Option Value}(r:dj none o):o=none:=by
 cases o with
 |none=>rfl
 |some u=>exact(show False from r).elim
theorem Dg{v:V}{u:Value}(r:RelV v u):handedIn u=true:=by
 cases v with
 |aD=>cases(show u=Value.none from r);rfl
 |bl b=>cases(show u=Value.bool b from r);rfl
 |int i=>obtain⟨t,e⟩:=(show ∃t,u=Value.int i t from r);cases e;rfl
 |str x=>obtain⟨t,e⟩:=(show ∃t,u=Value.str x t from r);cases e;rfl
 |fc b=>obtain⟨t,e⟩:=(show ∃t,u=Value.bytes b t from r);cases e;rfl
 |j4 b=>obtain⟨t,e⟩:=(show ∃t,u=Value.float b t from r);cases e;rfl
 |ref a=>cases(show u=Value.ref a from r);rfl
 |ty n=>cases(show u=Value.type n from r);rfl
section
variable {P:Program}{w:World}{H H':Hp}{h h':Heap}{a C dx:Addr}{fs Ig:List (Str×V)}
theorem oj(aw:bQ P w H h)(e:H a=some (.ins C dx fs)):∃mA,jU h a dx C mA/\(∀f,dj (fs.lookup f) (mA f))/\PySem.Within mA (fs.map (·.1))/\fs.length<=1000/\H dx=some (.own a):=by
 obtain⟨d,z,ne,ob,mA,n,r,q⟩:=(show bP P w H h a (.ins C dx fs) from aw a _ e);exact⟨mA,⟨ob,n,ne⟩,r,q,z,d⟩
end
structure fj(K:af)(C:Addr):Prop where
 pg:plainGet K C Str.empty=true
 hd:hasDictIn K C=true
 po:plainOver K C=true
 sa:PySem.W.findIn K (.ref C) "__setattr__"=some (some (.builtin "object.__setattr__"))
theorem fj.get{K:af}{C:Addr}(c:fj K C)(f:Str):plainGet K C f=true:=c.pg
def fM(K:af)(C:Addr)(f:Str):Prop:=PySem.W.findIn K (.ref C) f=some none
theorem fM.Gw{K:af}{C:Addr}{f:Str}(n:fM K C f):takerIn K C f=some none:=by
 unfold takerIn;rw[show PySem.W.findIn K (.ref C) f=some none from n];rfl
structure Meth(K:af)(C:Addr)(m:Str)(f:Addr):Prop where
 at_:PySem.W.findIn K (.ref C) m=some (some (.ref f))
 fn:isFn K (.ref f)=true
 kp:keepIn K (.ref f)=true
section
variable {X:Cx}{pins:aB}{σ:St}{H:Hp}{s:Shared}{a C dx:Addr}{fs:List (Str×V)}{f:Str}{v:V}{A:Around}{E:aC}
theorem CH{b:Bool}{Q:aC}(I:Inv X pins σ H s)(e:H a=some (.ins C dx fs))(c:fj X.K C)(n:fM X.K C f)(l:fs.lookup f=some v)
  (h:∀u s',Inv X pins σ H s'->RelV v u->Q u s'):wpAny X.md A (getAttr (.ref a) f b) Q E s:=by
 obtain⟨mA,O,r,_,_,_⟩:=oj I.aw e;obtain⟨u,hu,ru⟩:=dj.some_of (by rw[←l];exact r f);exact get_map I.cq O (c.get f) c.hd n hu (Dg ru) (h u _ (I.tok _) ru)
theorem CI{m:Str}{g:Addr}{pl:Sem Bool}{Q:Value×List Value->Shared->Prop}(I:Inv X pins σ H s)(e:H a=some (.ins C dx fs))(c:fj X.K C)(k:Meth X.K C m g)(l:fs.lookup m=none)
  (h:Q (.ref g,[.ref a]) s):wpAny X.md A (getMethod (.ref a) m pl) Q E s:=by
 obtain⟨mA,O,r,_,_,_⟩:=oj I.aw e;exact DO I.cq O (c.get m) k.at_ k.fn (dj.none_of (by rw[←l];exact r m)) h
theorem CK{y:V}{u:Value}{Q:Unit->Shared->Prop}(I:Inv X pins σ H s)(e:H a=some (.ins C dx fs))(c:fj X.K C)(n:fM X.K C f)(hl:fs.length<1000)(ry:RelV y u)
  (h:∀s',Inv X pins σ (upd H a (.ins C dx (cF f y fs))) s'->Q () s'):wpAny X.md A (setAttr (.ref a) f u) Q E s:=by
 obtain⟨mA,O,r,wi,_,ho⟩:=oj I.aw e;have hz:(fs.map (·.1)).length<=sizeLine:=by rw[Ya,sizeLine_eq];omega
 refine Ep I.cq O c.sa c.po n.Gw c.hd wi hz λh' O' sb=>h _ (I.write (by rw[e];exact True.intro) (.inr ho) (λb q hb z=>(sb.2 b hb).trans z) (let⟨o,_,_,e',_⟩:=O'.ns;⟨o,e'⟩) ⟨by rw[aW O.ne];exact ho,?_,O.ne,O'.obj,_,O'.ns,λg=>?_,λg hg=>?_⟩);·have:=qE f y fs;omega
 ·show dj ((cF f y fs).lookup g) (if g=f then some u else mA g);rw[vO];by_cases q:g=f;·rw[if_pos q,if_pos q];exact ry
  ·grind
 ·by_cases q:g=f;·rw[q];exact(rh f y fs).1
  ·refine(rh f y fs).2 g (wi g λz=>hg ?_)
   grind
theorem Inv.made(I:Inv X pins σ H s):Inv X pins σ (upd (upd H s.heap.objs.size (.own (s.heap.objs.size+1))) (s.heap.objs.size+1) (.ins C s.heap.objs.size []))
  {s with heap:=(s.heap.push emptyDict).push (instObj C s.heap.objs.size)}:=by
 have e1:(s.heap.push emptyDict).get? s.heap.objs.size=some emptyDict:=Yl s.heap rfl;have e2:((s.heap.push emptyDict).push (instObj C s.heap.objs.size)).get? (s.heap.objs.size+1)=some (instObj C s.heap.objs.size):=by
  have:=Yl (s.heap.push emptyDict) (o:=instObj C s.heap.objs.size) rfl
  rwa [Je] at this
 have e3:(s.heap.push emptyDict).Ns s.heap.objs.size (λ_=>none):=⟨emptyDict,#[],_,e1,rfl,(λe he=>absurd he (by simp)),λ_=>rfl⟩;have I1:=I.laid (a:=s.heap.objs.size) (o:=.own (s.heap.objs.size+1)) (h':=s.heap.push emptyDict) (t':=s.toks) (λb u q=>Yb _ q) (Yc _) ⟨_,e1⟩;refine I1.laid (a:=s.heap.objs.size+1) (o:=.ins C s.heap.objs.size []) (t':=s.toks) (λb u q=>Yb _ q) (Nat.le_of_eq (Je _ _)) ?_;have ne:s.heap.objs.size≠s.heap.objs.size+1:=Yo (Nat.lt_succ_self _);refine⟨by rw[aW ne,aF],Yw _,ne,e2,λ_=>none,(Heap.Ns1.of_empty e3).at λo q=>Yb _ q,λ_=>True.intro,λy hy=>absurd rfl hy⟩
theorem Es{prog:Program}{w:World}{env:Env}{e:Expr}{f:Str}{pos:Pos}{s:Shared}{Q:aC}(hb:attributeBase e f env (eval e env)=eval e env)
  (h:wpAny (model prog w) A (eval e env) (λo aG=>wpAny (model prog w) A (getAttr o f true) Q E aG) E s):wpAny (model prog w) A (eval (.Attribute e f pos) env) Q E s:=
 Attribute_any_ h (by rw[arm_eval_Attribute,hb])
end
inductive yn(K:af)(f:Str)(Q:VK)(x:V)(H1:Hp):Prop
 |mk (a C dx fs v) (aE:x=.ref a) (aN:H1 a=some (.ins C dx fs)) (a9:fj K C) (bV:fM K C f) (cO:fs.lookup f=some v) (iH:Q v H1):yn K f Q x H1
def tI(K:af)(ta:TE)(f:Str):TE:=λσ H Q=>ta σ H λx H1=>yn K f Q x H1
def Hh(K:af)(ta tv:TE)(f:Str):TS:=λD σ H=>tv σ H λy H1=>ta σ H1 λx H2=>∃a C dx fs,x=.ref a/\H2 a=some (.ins C dx fs)/\fj K C/\fM K C f/\fs.length<1000/\
 D.nx σ (upd H2 a (.ins C dx (cF f y fs)))
section
variable {X:Cx}{o e value:Expr}{f:Str}{pos pos' zM:Pos}{ta tv:TE}
theorem Ft(he:PE X e ta)(hb:attributeBase e f X.env (eval e X.env)=eval e X.env):PE X (.Attribute e f pos) (tI X.K ta f):=by
 intro pins s σ H Q I h;refine Es hb (av (he pins s σ H _ I h) λu s1 zq=>?_);obtain⟨x,H1,I1,rx,a,C,dx,fs,v,ex,ea,c,n,l,q⟩:=zq;subst ex;obtain rfl:u=Value.ref a:=rx;exact CH I1 ea c n l λu' s2 I2 ru=>⟨v,H1,I2,ru,q⟩
theorem lX(ha:PE X o ta)(hv:PE X value tv)(hs:swapsWith value (some (.Attribute o f pos')) pos.line X.env=pure false):PS X (.Assign [.Attribute o f pos'] value pos) (Hh X.K ta tv f):=by
 intro pins s σ H D I h;refine plainObj_wpAny_Assign_Attribute (av (hv pins s σ H _ I h) λu s1 zq=>?_) hs;obtain⟨y,H1,I1,ry,q⟩:=zq;refine av (ha pins s1 σ H1 _ I1 q) λov s2 zq=>?_;obtain⟨x,H2,I2,rx,a,C,dx,fs,ex,ea,c,n,l,q2⟩:=zq;subst ex;obtain rfl:ov=Value.ref a:=rx;exact CK I2 ea c n l ry λs3 I3=>⟨σ,_,I3,q2⟩
end
section
variable {X:Cx}{pins:aB}{σ:St}{H:Hp}{s:Shared}{A:Around}{E:aC}{Q:aC}{c:Value}{b:Bool}
inductive dk(K:af)(H:Hp):V->Value->Prop where
 |aD:dk K H .aD (.type "NoneType")
 |bl (x:Bool):dk K H (.bl x) (.type "bool")
 |int (i:Int):dk K H (.int i) (.type "int")
 |str (x:Str):dk K H (.str x) (.type "str")
 |j4 (x:UInt64):dk K H (.j4 x) (.type "float")
 |lst {a:Addr} {xs:List V} (e:H a=some (.lst xs)):dk K H (.ref a) (.type "list")
 |dS {a:Addr} {o:Obj} {xs:List V} (e:H a=some (.dS o (.lst xs))):dk K H (.ref a) (.type "list")
 |tup {a:Addr} {xs:List V} (e:H a=some (.tup xs)):dk K H (.ref a) (.type "tuple")
 |dK {a:Addr} {ae:List (Key×V)} (e:H a=some (.dK ae)):dk K H (.ref a) (.type "dict")
 |dT {a:Addr} {ae:List (List Key×V)} (e:H a=some (.dT ae)):dk K H (.ref a) (.type "dict")
 |ins {a C dx:Addr} {fs:List (Str×V)} (e:H a=some (.ins C dx fs)) (cl:fj K C) (ha:PySem.W.findIn K (.ref C) "__class__"=some (some (.builtin "object.__class__")))
   (hn:PySem.W.specialIn K (.builtin "object.__class__") "__get__"=some (some (.builtin "getset_descriptor.__get__"))) (Ar:PySem.W.takesIn K (.builtin "object.__class__")=some true)
   (hm:PySem.W.mroIn K C (.type "object")=some true):dk K H (.ref a) (.ref C)
theorem Dh{x:V}{u t:Value}(I:Inv X pins σ H s)(rx:RelV x u)(ty:dk X.K H x t)(e:kitOne X.K t c=some b)(h:∀tk,Q (.bool b) {s with toks:=tk}):
  wpAny X.md A (call (.builtin "isinstance") [u,c]) Q E s:=by
 cases ty with
 |aD=>cases(show u=Value.none from rx);exact kia_one PySem.W.kitx_none I.cq True.intro e (λz=>nomatch z) h
 |bl y=>cases(show u=Value.bool y from rx);exact kia_one PySem.W.kitx_bool I.cq True.intro e (λz=>nomatch z) h
 |int i=>obtain⟨t,q⟩:=(show ∃t,u=Value.int i t from rx);cases q;exact kia_one PySem.W.kitx_int I.cq True.intro e (λz=>nomatch z) h
 |str y=>obtain⟨t,q⟩:=(show ∃t,u=Value.str y t from rx);cases q;exact kia_one PySem.W.kitx_str I.cq True.intro e (λz=>nomatch z) h
 |j4 y=>obtain⟨t,q⟩:=(show ∃t,u=Value.float y t from rx);cases q;exact kia_one PySem.W.kitx_float I.cq True.intro e (λz=>nomatch z) h
 |@lst a xs ea=>
  cases(show u=Value.ref a from rx);obtain⟨_,_,n,_,h1⟩:=(show bP X.prog X.w H s.heap a (.lst xs) from I.aw a _ ea);exact kia_one kitx_list I.cq ⟨_,h1,rfl⟩ e (λz=>nomatch z) h
 |@dS a ob xs ea=>
  cases(show u=Value.ref a from rx);obtain⟨_,_,_,n,_,h1⟩:=(show bP X.prog X.w H s.heap a (.dS ob (.lst xs)) from I.aw a _ ea);exact kia_one kitx_list I.cq ⟨_,h1,rfl⟩ e (λz=>nomatch z) h
 |@tup a xs ea=>
  cases(show u=Value.ref a from rx);obtain⟨_,_,_,p⟩:=(show bP X.prog X.w H s.heap a (.tup xs) from I.aw a _ ea);obtain⟨o,h1,h2,_⟩:=p;exact kia_one PySem.W.kitx_tuple I.cq ⟨o,h1,h2⟩ e (λz=>nomatch z) h
 |@dK a ae ea=>
  cases(show u=Value.ref a from rx);obtain⟨_,_,vs,_,p⟩:=(show bP X.prog X.w H s.heap a (.dK ae) from I.aw a _ ea);obtain⟨o,es,ep,h1,h2,_⟩:=p;exact kia_one kitx_dict I.cq ⟨o,h1,h2.1⟩ e (λz=>nomatch z) h
 |@dT a ae ea=>
  cases(show u=Value.ref a from rx);obtain⟨_,_,xs,_,o,es,ep,h1,h2,_⟩:=(show bP X.prog X.w H s.heap a (.dT ae) from I.aw a _ ea);exact kia_one kitx_dict I.cq ⟨o,h1,h2.1⟩ e (λz=>nomatch z) h
 |@ins a C dx fs ea cl ha hn Ar hm=>
  cases(show u=Value.ref a from rx);obtain⟨mA,O,_⟩:=oj I.aw ea;obtain⟨od,J,_⟩:=O.look;exact kia_one (PySem.W.kitx_own (cl.get _) cl.hd ha hn Ar hm) I.cq J e (λz=>nomatch z) h
end
structure bM(k:Nat)(A:Around):Prop where
 hd:A.handled=none
 dp:A.depth+3*k+5<recursionLimit
 un:A.units+16*k+200<cLine
 gd:A.guards=some []
theorem bM.mono{j k:Nat}{A:Around}(r:bM k A)(h:j<=k):bM j A:=⟨r.hd,by have:=r.dp;omega,by have:=r.un;omega,r.gd⟩
theorem bM.deeper{k:Nat}{A:Around}(r:bM (k+1) A)(env:Env):bM k (A.deeper env):=
 ⟨r.hd,by have:=r.dp;show A.depth+1+3*k+5<_;omega,by have:=r.un;show A.units+3+16*k+200<_;omega,r.gd⟩
theorem CM{A:Around}{C:Addr}{us:List Value}{kw:List (Str×Value)}:(A.under (.builtin "type.__call__" ⟨.ref C::us,kw⟩)).depth=A.depth+1:=by
 rfl
theorem CN{A:Around}{C:Addr}{us:List Value}{kw:List (Str×Value)}:(A.under (.builtin "type.__call__" ⟨.ref C::us,kw⟩)).units=A.units+1:=by
 rfl
theorem bM.make{k:Nat}{A:Around}(r:bM (k+1) A)(C:Addr)(us:List Value)(kw:List (Str×Value)):bM k (A.under (.builtin "type.__call__" ⟨.ref C::us,kw⟩)):=
 ⟨r.hd,by have:=r.dp;rw[CM];omega,by have:=r.un;rw[CN];omega,by first|exact r.gd|simpa[Around.under,Code.isGuard,Code.isFrame,guardIds] using r.gd⟩
theorem bM.depth{k:Nat}{A:Around}(r:bM k A):A.depth<recursionLimit:=by have:=r.dp;omega
theorem bM.units{k:Nat}{A:Around}(r:bM k A):A.units+64<cLine:=by have:=r.un;omega
theorem bM.lY{k:Nat}{A:Around}(r:bM k A):A.units<cLine:=by have:=r.un;omega
def iA:TA:=λ_ H Q=>Q [] H
def fP(ta:TE)(tr:TA):TA:=λσ H Q=>ta σ H λx H1=>tr σ H1 λxs H2=>Q (x::xs) H2
section
variable {X:Cx}{e:Expr}{es:List Expr}{te:TE}{t:TA}{pos:Pos}
theorem ai:PA X [] iA:=λ_ _ _ _ H Q I h=>Calls.spliced_nil ⟨[],H,I,.nil,h⟩
theorem aa(ha:PE X e te)(hr:PA X es t)(hs:fU X e es:=by rfl):PA X (e::es) (fP te t):=by
 intro pos pins s σ H Q I h;rw[hs];exact Calls.spliced_cons (av (ha pins s σ H _ I h) λu s1 ⟨x,H1,I1,r1,q1⟩=>av (hr pos pins s1 σ H1 _ I1 q1) λus s2 ⟨xs,H2,I2,r2,q2⟩=>⟨x::xs,H2,I2,.cons r1 r2,q2⟩)
def Hi(t:TA):TE:=λσ H Q=>t σ H λxs H1=>xs.length<=sizeLine/\∀p,H1 p=none->Q (.ref p) (upd H1 p (.lst xs))
theorem lZ(h:PA X es t):PE X (.List es pos) (Hi t):=by
 intro pins s σ H Q I hq;refine wpAny_List_spliced (av (h pos pins s σ H _ I hq) λus s1 ⟨xs,H1,I1,r,z,q⟩=>⟨by rw[←r.length];exact z,⟨.ref s1.heap.objs.size,upd H1 s1.heap.objs.size (.lst xs),I1.laid (λb u e=>Yb _ e) (Yc _) ?_,rfl,q _ (I1.aw.fresh (Yc _))⟩⟩);exact⟨z,us,0,r,Yl _ rfl⟩
end
abbrev Sp:=List V->Hp->VK->XK->Prop
abbrev eD:=List Env->Hp->Shared->XK->Value->Shared->Prop
structure jV(P:Program)(w:World)(K:af)(mg:aJ)(base:Heap)(A:Around)(outer:List Env)(s:Shared)(H:Hp):Prop where
 frames:A.frames=some outer
 mod:Mod K mg base
 bs:∀b o,base.get? b=some o->s.heap.get? b=some o/\H b=none
 iG:base.objs.size<=s.heap.objs.size
 e6:s.heap.FunFrames base outer
 j7:∀b∈cN outer,H b=none
 aw:bQ P w H s.heap
 bare:AllBare s.gens
def CE(outer:List Env)(P:Program)(w:World)(H:Hp)(s:Shared)(Q:VK)(u:Value)(s':Shared):Prop:=
 ∃v H',s'.os=s.os/\AllBare s'.gens/\Un (cN outer) [] H H' s.heap s'.heap/\bQ P w H' s'.heap/\RelV v u/\Q v H'
def CR(CX:eD)(outer:List Env)(P:Program)(w:World)(H:Hp)(s:Shared)(Q:VK)(E:XK)(r:Result)(s':Shared):Prop:=
 match r with
 |.ok (.ret u)=>CE outer P w H s Q u s'
 |.ok _=>False
 |.error e=>CX outer H s E e s'
structure aL(P:Program)(w:World)(K:af)(mg:aJ)(base:Heap)(CX:eD)(k:Nat)(f:Addr)(fd:FuncData)(ps:List Str)(sp:Sp):Prop where
 len:∀vs H Q E,sp vs H Q E->vs.length=ps.length
 run:∀(A:Around) (outer:List Env) (s:Shared) (H:Hp) (args:Args) (us:List Value) (vs:List V) (Q:VK) (E:XK),bM k A->jV P w K mg base A outer s H->BindsTo s fd args (ps.zip us)->Vals vs us->sp vs H Q E->
  codeAny (model P w) A (.call (.ref f) args) (CR CX outer P w H s Q E) s
theorem jV.make{P:Program}{w:World}{K:af}{mg:aJ}{base:Heap}{A:Around}{outer:List Env}{s:Shared}{H:Hp}(e:jV P w K mg base A outer s H)(C:Addr)(us:List Value)(kw:List (Str×Value)):
  jV P w K mg base (A.under (.builtin "type.__call__" ⟨.ref C::us,kw⟩)) outer s H:=⟨by first|exact e.frames|(simpa[Around.under,Code.envs,Code.isFrame,pushEnvs] using e.frames),e.mod,e.bs,e.iG,e.e6,e.j7,e.aw,e.bare⟩
section
variable {X:Cx}{pins:aB}{σ:St}{H:Hp}{s s':Shared}
theorem Inv.zN(I:Inv X pins σ H s):jV X.prog X.w X.K X.mg X.base X.A X.stack s H:=
 ⟨I.ok.frames,I.ok.mod,I.bs,Yx I.ok.iG I.sz,I.stack,I.xy,I.aw,I.bare⟩
theorem Inv.after{Q:VK}{u:Value}(I:Inv X pins σ H s)(h:CE X.stack X.prog X.w H s Q u s'):EP X pins σ Q u s':=by
 obtain⟨v,H',os,bare,un,aw,r,q⟩:=h;obtain⟨hh,g,d,t,Iw⟩:=s';obtain rfl:Iw=s.os:=os;exact⟨v,H',I.call (h':=hh) (g':=g) (d':=d) (t':=t) (ch:=[]) un aw bare (λb z=>absurd z (by simp)),r,q⟩
end
def sS(sp:Sp)(cH:List V)(E:XK)(t:TA):TE:=λσ H Q=>t σ H λvs H1=>sp (vs++cH) H1 Q E
def zb(C:Addr)(m:Str)(sp:Sp)(cH:List V)(E:XK)(ta:TE)(t:TA):TE:=λσ H Q=>ta σ H λx H1=>∃a dx fs,x=.ref a/\H1 a=some (.ins C dx fs)/\fs.lookup m=none/\
 t σ H1 λvs H2=>sp (x::(vs++cH)) H2 Q E
def zc(C:Addr)(sp:Sp)(cH:List V)(E:XK)(t:TA):TE:=λσ H Q=>t σ H λvs H1=>∀x dx,H1 x=none->H1 dx=none->dx≠x->
 sp (.ref x::(vs++cH)) (upd (upd H1 dx (.own x)) x (.ins C dx [])) (λv H2=>v=.aD/\Q (.ref x) H2) E
def Binds(K:af)(fd:FuncData)(ps:List Str)(ds:List Value):Prop:=
 ∀(s:Shared) (us:List Value),K.In s.heap->(us++ds).length=ps.length->BindsTo s fd ⟨us,[]⟩ (ps.zip (us++ds))
theorem Binds.all{K:af}{fd:FuncData}{ps:List Str}(h:∀us:List Value,us.length=ps.length->bindArgs fd ⟨us,[]⟩=pure (ps.zip us)):Binds K fd ps []:=λs us _ hl=>by
 rw[Ws] at hl⊢;exact .of_eq (h us hl)
def Passes(CX:eD)(X:Cx)(E:XK):Prop:=∀(pins:aB) (σ:St) (H:Hp) (s:Shared) (e:Value) (s':Shared),Inv X pins σ H s->CX X.stack H s E e s'->X.xe e s'
section
variable {X:Cx}{CX:eD}{k:Nat}{f C:Addr}{fd:FuncData}{ps:List Str}{sp:Sp}{cH:List V}{ds:List Value}{E:XK}{x m:Str}{p pos apos:Pos}{e o:Expr}{es:List Expr}{ta:TE}{t:TA}
theorem yo{pins:aB}{σ:St}{H:Hp}{s:Shared}{Q:VK}{us:List Value}{vs:List V}(F:aL X.prog X.w X.K X.mg X.base CX k f fd ps sp)(hr:bM k X.A)(hb:Binds X.K fd ps ds)(hd:Vals cH ds)(hx:Passes CX X E)
  (I:Inv X pins σ H s)(r:Vals vs us)(h:sp (vs++cH) H Q E):wpAny X.md X.A (call (.ref f) us) (EP X pins σ Q) X.xe s:=by
 have r2:Vals (vs++cH) (us++ds):=r.append hd;have hl:(us++ds).length=ps.length:=by rw[←r2.length];exact F.len _ _ _ _ h
 refine wpAny_call (codeAny_mono (F.run X.A X.stack s H ⟨us,[]⟩ (us++ds) (vs++cH) Q E hr I.zN (hb s us I.cq hl) r2 h) λr s' hq=>?_);cases r with
 |error e=>exact hx pins σ H s e s' I hq
 |ok fl=>
  cases fl with
  |ret u=>exact I.after hq
  |next=>exact False.elim hq
  |brk=>exact False.elim hq
  |cont=>exact False.elim hq
theorem Et(F:aL X.prog X.w X.K X.mg X.base CX k f fd ps sp)(hr:bM k X.A)(hg:Gl X x)(hm:X.mg x=some (.ref f))(hk:keepIn X.K (.ref f)=true)(hb:Binds X.K fd ps ds)(hd:Vals cH ds)(hx:Passes CX X E)
  (ha:PA X (e::es) t)(eE:(x==("__debug__":Str))=false:=by decide)(he:fU X e es:=by rfl)(cI:gw X pos es:=by rfl):
  PE X (.Call (.Name x p) (e::es) [] pos) (sS sp cH E t):=by
 intro pins s σ H Q I h;exact wpAny_Call_Name_kw (rQ I hg hm (callWith_K I.ok.mod.j6 hk (av (ha pos pins s σ H _ I h) λus s1 ⟨vs,H1,I1,r,q⟩=>⟨I1.cq,yo F hr hb hd hx I1 r q⟩) he cI) eE)
theorem Eu{pl:Sem Bool}(he:PE X o ta)(c:fj X.K C)(hm:Meth X.K C m f)(F:aL X.prog X.w X.K X.mg X.base CX k f fd ps sp)(hr:bM k X.A)(hb:Binds X.K fd ps ds)(hd:Vals cH ds)(hx:Passes CX X E)(ha:PA X (e::es) t)
  (cu:fU X e es:=by rfl)(cI:gw X pos es:=by rfl)
  (ht:eval (.Call (.Attribute o m apos) (e::es) [] pos) X.env=(do
   let ov←eval o X.env
   standAt apos.atName
   let(f,first)←holding [ov] (getMethod ov m pl)
   callWith pos f first (backTo pos (starEach (e::es) X.env)) (backToKw pos (keywordEach [] X.env))):=by rfl):
  PE X (.Call (.Attribute o m apos) (e::es) [] pos) (zb C m sp cH E ta t):=by
 intro pins s σ H Q I h;refine PySem.W.methodCall_KW (pl:=pl) (av (he pins s σ H _ I h) λu s1 zq=>?_) ht;obtain⟨x,H1,I1,rx,a,dx,fs,ex,ea,l,q⟩:=zq;subst ex;obtain rfl:u=Value.ref a:=rx;refine CI I1 ea c hm l ?_;refine callWith_K (first:=[.ref a]) (h₀:=X.base) I.ok.mod.j6 hm.kp (av (ha pos pins s1 σ H1 _ I1 q) λus s2 ⟨vs,H2,I2,r,q2⟩=>⟨I2.cq,?_⟩) cu cI;exact yo (us:=.ref a::us) (vs:=.ref a::vs) F hr hb hd hx I2 (.cons rfl r) q2
structure Mk(K:af)(C f:Addr):Prop where
 makes:makesIn K C=true
 init:PySem.W.findIn K (.ref C) "__init__"=some (some (.ref f))
 fn:isFn K (.ref f)=true
 kp:keepIn K (.ref C)=true
theorem DQ{pins:aB}{σ:St}{H:Hp}{s:Shared}{Q:VK}{us:List Value}{vs:List V}(M:Mk X.K C f)(F:aL X.prog X.w X.K X.mg X.base CX k f fd ps sp)(hr:bM (k+1) X.A)(hb:Binds X.K fd ps ds)(hd:Vals cH ds)
  (hx:Passes CX X E)(I:Inv X pins σ H s)(r:Vals vs us)
  (h:∀x dx,H x=none->H dx=none->dx≠x->sp (.ref x::(vs++cH)) (upd (upd H dx (.own x)) x (.ins C dx [])) (λv H2=>v=.aD/\Q (.ref x) H2) E):
  wpAny X.md X.A (call (.ref C) us) (EP X pins σ Q) X.xe s:=by
 have hq:=h (s.heap.objs.size+1) s.heap.objs.size (I.aw.fresh (Nat.le_succ _)) (I.aw.fresh (Yc _)) (Yo (Nat.lt_succ_self _));have I2:=Inv.made (C:=C) I;have r2:Vals (V.ref (s.heap.objs.size+1)::(vs++cH)) (Value.ref (s.heap.objs.size+1)::(us++ds)):=.cons rfl (r.append hd);have hl:(Value.ref (s.heap.objs.size+1)::us++ds).length=ps.length:=by
  have e:=r2.length;rw[F.len _ _ _ _ hq] at e;exact e.symm
 refine wpAny_call (DP I.cq M.makes M.init (beq_iff_eq.mp M.fn) (codeAny_mono (F.run _ X.stack _ _ ⟨Value.ref (s.heap.objs.size+1)::us,[]⟩ (Value.ref (s.heap.objs.size+1)::(us++ds)) _ _ E (hr.make C us [])
  (I2.zN.make C us []) (hb _ (Value.ref (s.heap.objs.size+1)::us) I2.cq hl) r2 hq) λr s' mV=>?_))
 cases r with
 |error e=>exact hx pins σ _ _ e s' I2 mV
 |ok fl=>
  cases fl with
  |ret u=>
   obtain⟨v,H',I3,rv,ev,q3⟩:=I2.after mV;subst ev;exact⟨rv,⟨V.ref (s.heap.objs.size+1),H',I3,rfl,q3⟩⟩
  |next=>exact False.elim mV
  |brk=>exact False.elim mV
  |cont=>exact False.elim mV
theorem Ew(M:Mk X.K C f)(F:aL X.prog X.w X.K X.mg X.base CX k f fd ps sp)(hr:bM (k+1) X.A)(hg:Gl X x)(hm:X.mg x=some (.ref C))(hb:Binds X.K fd ps ds)(hd:Vals cH ds)(hx:Passes CX X E)
  (ha:PA X (e::es) t)(eE:(x==("__debug__":Str))=false:=by decide)(he:fU X e es:=by rfl)(cI:gw X pos es:=by rfl):
  PE X (.Call (.Name x p) (e::es) [] pos) (zc C sp cH E t):=by
 intro pins s σ H Q I h;exact wpAny_Call_Name_kw (rQ I hg hm (callWith_K I.ok.mod.j6 M.kp (av (ha pos pins s σ H _ I h) λus s1 ⟨vs,H1,I1,r,q⟩=>⟨I1.cq,DQ M F hr hb hd hx I1 r q⟩) he cI) eE)
end
section
variable {X:Cx}{CX:eD}{k:Nat}{f C:Addr}{fd:FuncData}{ps ks:List Str}{sp:Sp}{E:XK}{x m:Str}{p pos apos LV:Pos}{e o:Expr}{es:List Expr}{L6:List Keyword}{te ta:TE}{t tk:TA}{nm:Option Str}
variable {g:List Value->List Value->List Value}{gV:List V->List V->List V}
end
structure bc(N P:List Str)(sc:Scope):Prop where
 kind:sc.kind=.function
 co:sc.isCoroutine=false
 gen:sc.isGenerator=false
 nd:N.Nodup
 pre:N.take P.length=P
 par:∀x∈P,sc.names.lookup x=some .local\/sc.names.lookup x=some .cell
 Fu:∀y∈sc.names,y.2≠.free
theorem wz{kindOf:Str->Option NameKind}{x:Str}:∀{binds:List (Str×Value)} {m:aJ},(∀v,(x,v)∉binds)->bindL kindOf binds m x=m x
 |[],_,_=>rfl
 |(n,v)::r,m,h=>by
  unfold bindL;rw[wz λw hw=>h w (Y1 _ hw)];split;·grind
  ·rfl
theorem wA{kindOf:Str->Option NameKind}{x:Str}:∀{binds:List (Str×Value)} {m:aJ},(∀v,(x,v)∉binds)->bindC kindOf binds m x=m x
 |[],_,_=>rfl
 |(n,v)::r,m,h=>by
  unfold bindC;rw[wA λw hw=>h w (Y1 _ hw)];split;·rfl
  ·grind
theorem wB{kindOf:Str->Option NameKind}{x:Str}{v:Value}:∀{P:List Str} {vs:List Value} {i:Nat} {m:aJ},P.Nodup->P[i]?=some x->vs[i]?=some v->kindOf x=some .local->
  bindL kindOf (P.zip vs) m x=some v
 |[],_,_,_,_,h,_,_=>by simp at h
 |_::_,[],_,_,_,_,h,_=>by simp at h
 |p::P,w::vs,0,m,nd,h1,h2,hk=>by
  simp at h1 h2;subst h1;subst h2;show bindL kindOf ((p,w)::P.zip vs) m p=_;unfold bindL;rw[wz λv hv=>(Wt.mp nd).1 (Jm hv).1,if_pos hk];simp
 |p::P,w::vs,i+1,m,nd,h1,h2,hk=>by
  unfold bindL;exact wB (Wt.mp nd).2 (by simpa using h1) (by simpa using h2) hk
theorem wC{kindOf:Str->Option NameKind}{x:Str}{v:Value}:∀{P:List Str} {vs:List Value} {i:Nat} {m:aJ},P.Nodup->P[i]?=some x->vs[i]?=some v->kindOf x≠some .local->
  bindC kindOf (P.zip vs) m x=some v
 |[],_,_,_,_,h,_,_=>by simp at h
 |_::_,[],_,_,_,_,h,_=>by simp at h
 |p::P,w::vs,0,m,nd,h1,h2,hk=>by
  simp at h1 h2;subst h1;subst h2;show bindC kindOf ((p,w)::P.zip vs) m p=_;unfold bindC;rw[wA λv hv=>(Wt.mp nd).1 (Jm hv).1,if_neg hk];simp
 |p::P,w::vs,i+1,m,nd,h1,h2,hk=>by
  unfold bindC;exact wC (Wt.mp nd).2 (by simpa using h1) (by simpa using h2) hk
def start(N:List Str)(vs:List V):St:=vs.map some++List.replicate (N.length-vs.length) none
def fS(CX:eD)(P:Program)(w:World)(K:af)(mg:aJ)(base:Heap)(N:List Str)(qual:Str)(scope:Scope)(f:Addr)(cd:Value)(A:Around)(outer:List Env)(s:Shared)(H:Hp)(E:XK):Cx where
 prog:=P
 w:=w
 K:=K
 mg:=mg
 base:=base
 A:=A.deeper (envOfC qual scope s.heap.objs.size f cd)
 N:=N
 bj:=s
 my:=H
 env:=envOfC qual scope s.heap.objs.size f cd
 outer:=outer
 stack:=envOfC qual scope s.heap.objs.size f cd::outer
 ex:=[]
 calm:=true
 fn:=λ_=>true
 pn:=[]
 xe:=λe s'=>wpAny (model P w) (A.deeper (envOfC qual scope s.heap.objs.size f cd)) (leaving (envOfC qual scope s.heap.objs.size f cd) e) (λ_ ke=>CX outer H s E e ke) (λe' ke=>CX outer H s E e' ke) s'
theorem wW{sc:Scope}{n:Nat}{x:Str}(h:sc.names.lookup x=some .cell):∃c,(cellsFrom n sc.names []).lookup x=some c:=by
 exact Wf.mp (cellsFrom_some sc.names n [] (.inl h))
theorem Di{CX:eD}{P:Program}{w:World}{K:af}{mg:aJ}{base:Heap}{N ps:List Str}{qual:Str}{scope:Scope}{f:Addr}{cd:Value}{A:Around}{outer:List Env}{s s1:Shared}{H:Hp}{E:XK}{us:List Value}{vs:List V}
  (S:bc N ps scope)(hd:A.handled=none)(e0:jV P w K mg base A outer s H)(hl:vs.length=ps.length)(r:Vals vs us)
  (x:InCallC s s.heap.objs.size (bindL (envOfC qual scope s.heap.objs.size f cd).kindOf (ps.zip us) λ_=>none) (cellsFrom (s.heap.objs.size+1) scope.names []) (bindC (envOfC qual scope s.heap.objs.size f cd).kindOf (ps.zip us) λ_=>none) s1):
  Inv (fS CX P w K mg base N qual scope f cd A outer s H E) [] (start N vs) H s1:=by
 have cI:ps.length<=N.length:=by have:=congrArg List.length S.pre;rw[Y5] at this;omega
 obtain⟨h1,tk,rfl,hk⟩:=x.done;have mW:∀b:Addr,b∉(fS CX P w K mg base N qual scope f cd A outer s H E).ex:=λb z=>absurd (show b∈([]:List Addr) from z) (by simp);refine⟨⟨e0.mod,S.kind,rfl,rfl,Yc _,λy z c h1 h2=>?_,λy hy=>?_,λy c _ h=>?_,λ_=>hd,Around.frames_deeper e0.frames,.inr ⟨rfl,rfl⟩,λb z=>absurd z (mW b),e0.bs,e0.iG,λb _ _=>mW b,λb z=>absurd z (mW b),e0.e6,e0.j7⟩,
  rfl,e0.bare,Un.kept hk,⟨_,x.toInCall.ns,λi y v h1 h2 h3=>?_⟩,λy c h=>⟨_,x.cell y c h⟩,e0.aw.fresh (Yc _),λy c h=>?_,λp hp=>absurd (show p∈([]:aB) from hp) (by simp),e0.aw.kept hk,?_⟩
 ·exact name_of_addr x.apart (PySem.mem_of_lookup h1) (PySem.mem_of_lookup h2)
 ·have hy:scope.names.lookup y=some .cell\/scope.names.lookup y=some .free:=hy;rcases hy with hy|hy;·exact wW hy
  ·exact absurd rfl (S.Fu _ (PySem.mem_of_lookup hy))
 ·exact W3 (x.above y c (PySem.mem_of_lookup h))
 ·have hi:i<vs.length:=by
   unfold start at h2
   grind
  have ha:vs[i]?=some v:=by
   unfold start at h2;rw[Wo (by simpa using hi),Yd] at h2;cases e:vs[i]? with
   |none=>grind
   |some a=>grind
  obtain⟨u,hu,rv⟩:=r.get ha;have hp:ps[i]?=some y:=by
   rw[←S.pre,List.getElem?_take_of_lt (by omega)];exact h1
  have As:ps.Nodup:=by rw[←S.pre];exact S.nd.sublist (Jf _ _)
  refine⟨u,rv,?_⟩;rcases S.par y (Ys hp) with k|k;·exact .inl ⟨k,wB As hp hu k⟩
  ·obtain⟨c,e⟩:=wW k;refine .inr ⟨.inl k,c,e,?_⟩;have q:=x.cell y c e;rw[wC As hp hu (by show scope.names.lookup y≠_;rw[k];decide)] at q;exact q
 ·exact e0.aw.fresh (W3 (x.above y c (PySem.mem_of_lookup h)))
 ·unfold start;show _=N.length
  grind
theorem ze{CX:eD}{P:Program}{w:World}{K:af}{mg:aJ}{base:Heap}{k:Nat}{f:Addr}{name qual:Str}{params:Arguments}{body:List Stmt}{scope:Scope}{dV kV doc pm a_ ct oc:Value}{an od:Option Addr}
  {iI:Array (Option Value)}{N ps:List Str}{sp:Sp}(lk:K.lookup f=some ⟨oc,od,.func (fnOf name qual params body scope dV kV doc pm an a_ ct),iI⟩)(dD:codeIn K a_ qual=true)(S:bc N ps scope)
  (len:∀vs H Q E,sp vs H Q E->vs.length=ps.length)
  (jO:∀(A:Around) (outer:List Env) (s:Shared) (H:Hp) (vs:List V) (Q:VK) (E:XK),bM k (A.deeper (envOfC qual scope s.heap.objs.size f a_))->sp vs H Q E->
   ∃t,dm (fS CX P w K mg base N qual scope f a_ A outer s H E) body t/\t {nx:=λ_ H'=>Q .aD H',rt:=Q} (start N vs) H):
  aL P w K mg base CX (k+1) f (fnOf name qual params body scope dV kV doc pm an a_ ct) ps sp:=by
 refine⟨len,λA outer s H args us vs Q E hr e0 hb r gS=>?_⟩;have hl:=len _ _ _ _ gS;have KX:K.In s.heap:=e0.mod.j6.keeps λb o e=>(e0.bs b o e).1;have lim:s.heap.NoLimit:=e0.mod.nolimit.keeps λb o e=>(e0.bs b o e).1;have Gx:∀y∈ps.zip us,scope.names.lookup y.1=some .local\/(scope.names.lookup y.1=some .cell/\((cellsFrom (s.heap.objs.size+1) scope.names []).lookup y.1).isSome=true):=λ⟨n,v⟩ hy=>by
  rcases S.par n (Jm hy).1 with q|q;·exact .inl q
  ·exact .inr ⟨q,cellsFrom_some _ _ _ (.inl q)⟩
 refine codeAny_call_function hr.depth (KX _ _ lk) rfl S.co S.gen rfl (PySem.W.codeRec_of KX dD) (hb _ _ _ _ ?_);refine wpAny_newFunctionEnv_cells S.kind Gx λenv he s1 x=>?_;subst he;refine⟨lim.keeps x.toInCall.keep,codeAny_func ?_⟩;obtain⟨t,ht,hq⟩:=jO A outer s H vs Q E (hr.deeper _) gS;have I:Inv (fS CX P w K mg base N qual scope f a_ A outer s H E) [] (start N vs) H s1:=Di S hr.hd e0 hl r x;refine wpAny_mono (ht [] s1 (start N vs) H _ I hq) (λfl s' hs=>?_) λe s' hs=>hs;have fin:∀{aH:St} {H':Hp} {v:V} {u:Value},Inv (fS CX P w K mg base N qual scope f a_ A outer s H E) [] aH H' s'->RelV v u->Q v H'->CE outer P w H s Q u s':=
  λ{aH H' v u} J rv q=>⟨v,H',J.os,J.bare,J.base,J.aw,rv,q⟩
 cases fl with
 |ret u=>
  obtain⟨v,aH,H',J,rv,q⟩:=hs;exact fin J rv q
 |next=>
  obtain⟨aH,H',J,q⟩:=hs;exact fin (v:=V.aD) (u:=Value.none) J rfl q
 |brk=>
  obtain⟨_,_,_,q⟩:=hs;exact False.elim q
 |cont=>
  obtain⟨_,_,_,q⟩:=hs;exact False.elim q
section
variable {X:Cx}{x:Str}{p pos:Pos}{e:Expr}{es:List Expr}{t:TA}{id T:String}{r:List V->Hp->VK->Prop}
def gT(r:List V->Hp->VK->Prop)(t:TA):TE:=λσ H Q=>t σ H λvs H1=>r vs H1 Q
theorem ie(hc:ck X (.builtin id) r)(hg:Gl X x)(hm:X.mg x=none)(hv:bootBuiltins x=some (.builtin id))(ha:PA X (e::es) t)(hn:x≠"__name__":=by decide)(eE:(x==("__debug__":Str))=false:=by decide)
  (he:fU X e es:=by rfl)(cI:gw X pos es:=by rfl):PE X (.Call (.Name x p) (e::es) [] pos) (gT r t):=by
 intro pins s σ H Q I h;refine wpAny_Call_Name_kw (oz I hg hm hv ?_ hn eE);exact PyProof.Rows.callWith_builtin1 (av (ha pos pins s σ H _ I h) λus s1 ⟨vs,H1,I1,r1,q1⟩=>hc pins s1 σ H1 vs us Q I1 r1 q1) he cI
theorem cz(hc:ck X (.type T) r)(hg:Gl X x)(hm:X.mg x=none)(hv:bootBuiltins x=some (.type T))(ha:PA X (e::es) t)(hn:x≠"__name__":=by decide)(eE:(x==("__debug__":Str))=false:=by decide)
  (he:fU X e es:=by rfl)(cI:gw X pos es:=by rfl):PE X (.Call (.Name x p) (e::es) [] pos) (gT r t):=by
 intro pins s σ H Q I h;refine wpAny_Call_Name_kw (oz I hg hm hv ?_ hn eE);exact PyProof.Rows.callWith_type1 (av (ha pos pins s σ H _ I h) λus s1 ⟨vs,H1,I1,r1,q1⟩=>hc pins s1 σ H1 vs us Q I1 r1 q1) he cI
end
end L2
namespace HT
open PySem PyProof.Rows
section
open PySem.SeqAt
open PySem.AutoSeq1 (wpAny_loadPart')
open PySem.MeetsSeq PySem.MeetsSeq2 PySem.MeetsSeq3
end
section
variable {prog:Program}{w:World}{A:Around}{E:aC}{s:Shared}
theorem Ex{t b:Addr}{vs ws:List Value}{Q:aC}(ht:IsTup s.heap t vs.toArray)(hb:IsTup s.heap b ws.toArray)(hv:vs≠[])
  (h1:ws=[]->Q (.ref t) s)(h2:ws≠[]->Q (.ref s.heap.objs.size) {s with heap:=s.heap.push {cls:=.type "tuple",data:=.seq (vs++ws).toArray}})
  (hsz:vs.length+ws.length<=sizeLine):wpAny (model prog w) A (binaryOp .Add (.ref t) (.ref b)) Q E s:=by
 obtain⟨⟨cls,dd,data,sl⟩,ho,hc,n,hd⟩:=id ht;obtain⟨⟨LW,Au,data2,Av⟩,pD,Aw,n2,hd2⟩:=id hb;simp only at hc hd Aw hd2;subst hc hd Aw hd2;have e:vs.toArray++ws.toArray=(vs++ws).toArray:=by simp
 by_cases hw:ws=[]
 ·exact concat_meets ⟨_,ho,rfl⟩ ⟨_,pD,rfl⟩ noFill_tuple_add seq_tuple_add slot_tuple_add PySem.F.entry_tuple_add (PySem.F.args_tuple_add_2 _ _)
   (tuple_addW1 t b vs.toArray ws.toArray n n2 dd Au sl Av (by simpa using hv) (by simp[hw])) ⟨ho,pD,h1 hw⟩
 ·refine concat_meets ⟨_,ho,rfl⟩ ⟨_,pD,rfl⟩ noFill_tuple_add seq_tuple_add slot_tuple_add PySem.F.entry_tuple_add (PySem.F.args_tuple_add_2 _ _)
   (tuple_addW2 t b vs.toArray ws.toArray n n2 dd Au sl Av (by simpa using hv) (by simpa using hw) (by rw[Yk,Yk];exact hsz)) ⟨ho,pD,?_⟩
  rw[e];exact h2 hw
def dn(n d:Nat):Option Int->Nat
 |none=>d
 |some v=>if v<0 then(v+(n:Int)).toNat else min v.toNat n
end
end HT
namespace L2
open PySem PySem.Spec PyProof.Rows
abbrev TO:=St->Hp->(Option Int->Hp->Prop)->Prop
def PO(X:Cx)(e:Option Expr)(t:TO):Prop:=
 ∀(pins:aB) (s:Shared) (σ:St) (H:Hp) (Q:Option Int->Hp->Prop),Inv X pins σ H s->t σ H Q->
  wpAny X.md X.A (evalPart e X.env) (λu s'=>∃o H',Inv X pins σ H' s'/\IsPart u o/\Q o H') X.xe s
def Ey:TO:=λ_ H Q=>Q none H
inductive xK(Q:Option Int->Hp->Prop)(x:V)(H1:Hp):Prop
 |mk (i) (aE:x=.int i) (aN:Q (some i) H1):xK Q x H1
def Gy(t:TE):TO:=λσ H Q=>t σ H λx H1=>xK Q x H1
theorem intsAre_of{ns:List Int}:∀{us:List Value},Vals (ns.map V.int) us->IntsAre us ns:=by
 induction ns with
 |nil=>intro us r;rw[List.map_nil] at r;cases r;exact .nil
 |cons n ns ih=>
  intro us r;cases r with
  |cons r1 r2=>
   obtain⟨t,e⟩:=r1;subst e;exact .cons n t (ih r2)
section
variable {X:Cx}{e:Expr}{te:TE}{lo hi:Option Expr}{tl th:TO}{pos p2:Pos}
theorem xM:PO X none Ey:=by
 intro pins s σ H Q I h;exact wpAny_pure ⟨none,H,I,.none,h⟩
theorem xN(h:PE X e te):PO X (some e) (Gy te):=by
 intro pins s σ H Q I hw;refine av (h pins s σ H _ I hw) λu s1 zq=>?_;obtain⟨x,H1,I1,r1,q1⟩:=zq;obtain⟨i,rfl,q⟩:=q1;obtain⟨t,rfl⟩:=r1;exact⟨some i,H1,I1,.int i t,q⟩
def lj(X:Cx)(r:V->Option Int->Option Int->Hp->VK->Prop):Prop:=
 ∀(pins:aB) (s:Shared) (σ:St) (H:Hp) (x:V) (v vl vu:Value) (lo hi:Option Int) (sl:Addr) (Q:VK),Inv X pins σ H s->RelV x v->s.heap.IsSliceOf sl vl vu .none->IsPart vl lo->IsPart vu hi->r x lo hi H Q->
  ∃T id,typeLookup (.type T) "__getitem__"=pure (some (.builtin id))/\s.TypeIs v T/\wpAny X.md X.A (getItem v (.ref sl)) (EP X pins σ Q) X.xe s
def Iy(r:V->Option Int->Option Int->Hp->VK->Prop)(te:TE)(tl th:TO):TE:=λσ H Q=>te σ H λx H1=>tl σ H1 λl H2=>th σ H2 λu H3=>r x l u H3 Q
theorem wX{r:V->Option Int->Option Int->Hp->VK->Prop}(hr:lj X r)(he:PE X e te)(hl:PO X lo tl)(hu:PO X hi th):PE X (.Subscript e (.Slice lo hi none p2) pos) (Iy r te tl th):=by
 intro pins s σ H Q I h;refine Subscript_ (av (he pins s σ H _ I h) λv s1 zq=>?_);obtain⟨x,H1,I1,r1,q1⟩:=zq;refine wpAny_Slice (av (hl pins s1 σ H1 _ I1 q1) λvl s2 zq=>?_);obtain⟨l,H2,I2,pl,q2⟩:=zq;refine av (hu pins s2 σ H2 _ I2 q2) λvu s3 zq=>?_;obtain⟨u,H3,I3,pu,q3⟩:=zq;rw[evalPart_none];refine wpAny_pure ?_;have I4:Inv X pins σ H3 {s3 with heap:=s3.heap.push {cls:=.type "slice",data:=.fields #[vl,vu,.none]}}:=I3.kept (t':=s3.toks) λb ob q=>Yb _ q;obtain⟨T,id,hT,ht,hg⟩:=hr pins {s3 with heap:=s3.heap.push {cls:=.type "slice",data:=.fields #[vl,vu,.none]}} σ H3 x v vl vu l u s3.heap.objs.size Q I4 r1 (Heap.IsSliceOf.new ..) pl pu q3;show wpAny X.md X.A (subscriptTail e (.Slice lo hi none p2) v (.ref s3.heap.objs.size)) (EP X pins σ Q) X.xe {s3 with heap:=s3.heap.push {cls:=.type "slice",data:=.fields #[vl,vu,.none]}};exact tail_any (ops:=[.ref s3.heap.objs.size,v]) ht hT hg (by with_unfolding_all rfl)
def jW(xs:List V)(lo hi:Option Int):List V:=(xs.drop (HT.dn xs.length 0 lo)).take (HT.dn xs.length xs.length hi-HT.dn xs.length 0 lo)
theorem qF(xs:List V)(lo hi:Option Int):(jW xs lo hi).length<=xs.length:=by
 unfold jW
 grind
def Gz(K:af):R2:=λx y H Q=>∃a b xs ys,x=.ref a/\y=.ref b/\au K H a xs/\au K H b ys/\xs≠[]/\xs.length+ys.length<=sizeLine/\
 (ys=[]->Q (.ref a) H)/\(ys≠[]->∀p,H p=none->Q (.ref p) (upd H p (.tup (xs++ys))))
theorem Vals.rR{xs:List V}{us:List Value}(r:Vals xs us):us=[]↔xs=[]:=by
 cases r with
 |nil=>simp
 |cons _ _=>simp
theorem Ez:bx X (binaryOp .Add) (Gz X.K):=by
 rintro pins s σ H x y v u Q I rx ry ⟨a,b,xs,ys,rfl,rfl,ha,hb,hx,hz,q1,q2⟩;cases rx;cases ry;obtain⟨ag,r1,p1,_⟩:=I.tuple ha;obtain⟨e_,r2,p2,_⟩:=I.tuple hb;refine HT.Ex p1 p2 (λz=>hx (r1.rR.mp z)) (λz=>⟨.ref a,H,I,rfl,q1 (r2.rR.mp z)⟩) (λz=>⟨.ref s.heap.objs.size,_,I.laid (o:=.tup (xs++ys)) (λb ob q=>Yb _ q) (Yc _) ?_,rfl,q2 (λw=>z (r2.rR.mpr w)) _ (I.aw.fresh (Yc _))⟩) (by rw[←r1.length,←r2.length];exact hz);exact⟨by rw[Ym];exact hz,_,r1.append r2,gp.new _ _⟩
end
def eF(n:Nat)(i:Int):Option Nat:=if 0<=i then(if i<n then some i.toNat else none) else if-(n:Int)<=i then some (i+n).toNat else none
def cJ{α:Type}(xs:List α)(i:Int):Option α:=(eF xs.length i).bind λj=>xs[j]?
theorem oo{n:Nat}{i:Int}{j:Nat}(h:eF n i=some j):seqIndex? i n=some j/\j<n/\-(n:Int)<=i/\i<n:=by
 unfold eF at h;by_cases h0:0<=i
 ·rw[if_pos h0] at h;by_cases h1:i<n
  ·rw[if_pos h1] at h;have e:=Yf h;exact⟨by rw[seqIndex_of h0 h1,e],by omega,by omega,h1⟩
  ·grind
 ·rw[if_neg h0] at h;by_cases h1:-(n:Int)<=i
  ·rw[if_pos h1] at h;have e:=Yf h;exact⟨by rw[seqIndex_neg (by omega) h1,e],by omega,h1,by omega⟩
  ·grind
theorem rS{α:Type}{xs:List α}{i:Int}{v:α}(h:cJ xs i=some v):∃j,seqIndex? i xs.length=some j/\xs[j]?=some v/\j<xs.length/\-(xs.length:Int)<=i/\i<xs.length:=by
 unfold cJ at h;cases e:eF xs.length i with
 |none=>grind
 |some j=>
  obtain⟨h1,h2,h3,h4⟩:=oo e
  grind
theorem fJ{α:Type}{xs:List α}{j:Nat}{v:α}(h:xs[j]?=some v):cJ xs (j:Int)=some v:=by
 have e:eF xs.length (j:Int)=some j:=by
  unfold eF
  grind
 unfold cJ;rw[e];exact h
def xO(b:Expr):Prop:=∀o i,subscripted b false o i=operate [o,i] (getItem o i)
def dq(X:Cx)(r:R2):Prop:=
 ∀(value slice:Expr) (pins:aB) (s:Shared) (σ:St) (H:Hp) (x y:V) (v u:Value) (Q:VK),Inv X pins σ H s->RelV x v->RelV y u->r x y H Q->
  subscripted slice false v u=operate [v,u] (getItem v u)->wpAny X.md X.A (subscriptTail value slice v u) (EP X pins σ Q) X.xe s
def Iz(X:Cx)(id:String)(r:V->List V->Hp->VK->Prop):Prop:=
 ∀(pins:aB) (s:Shared) (σ:St) (H:Hp) (x:V) (xs:List V) (v:Value) (us:List Value) (Q:VK),Inv X pins σ H s->RelV x v->Vals xs us->r x xs H Q->
  wpAny X.md X.A (call (.builtin id) (v::us)) (EP X pins σ Q) X.xe s
section
variable {X:Cx}{a b:Expr}{ta tb:TE}{pos:Pos}
theorem dq.or{r r':R2}(h:dq X r)(h':dq X r'):dq X (λx y H Q=>r x y H Q\/r' x y H Q):=by
 intro value slice pins s σ H x y v u Q I rx ry q hs;rcases q with q|q;·exact h value slice pins s σ H x y v u Q I rx ry q hs
 ·exact h' value slice pins s σ H x y v u Q I rx ry q hs
theorem zf{r:R2}(hr:dq X r)(ha:PE X a ta)(hb:PE X b tb)(hs:xO b):PE X (.Subscript a b pos) (fh r ta tb):=by
 intro pins s σ H Q I h;exact Subscript_ (tE ha hb I h λv u s2 x y H2 I2 rx ry q=>hr a b pins s2 σ H2 x y v u Q I2 rx ry q (hs _ _))
inductive yp(K:af)(x:V)(y:V)(H:Hp)(Q:VK):Prop
 |mk (p xs i v) (aE:x=.ref p) (aN:y=.int i) (a9:ah K H p xs) (bV:cJ xs i=some v) (cO:Q v H):yp K x y H Q
def mE(K:af):R2:=λx y H Q=>yp K x y H Q
inductive yq(K:af)(x:V)(y:V)(H:Hp)(Q:VK):Prop
 |mk (p xs i v) (aE:x=.ref p) (aN:y=.int i) (a9:au K H p xs) (bV:cJ xs i=some v) (cO:Q v H):yq K x y H Q
def oR(K:af):R2:=λx y H Q=>yq K x y H Q
inductive yr(x:V)(y:V)(H:Hp)(Q:VK):Prop
 |mk (z i c) (aE:x=.str z) (aN:y=.int i) (a9:z.length<=sizeLine) (bV:cJ z.cps.toList i=some c) (cO:Q (.str ⟨#[c]⟩) H):yr x y H Q
def zO:R2:=λx y H Q=>yr x y H Q
theorem rT:dq X (mE X.K):=by
 intro value slice pins s σ H x y v u Q I rx ry h hs;obtain⟨p,xs,i,z,rfl,rfl,hq,he,q⟩:=h;cases rx;obtain⟨t,rfl⟩:=ry;obtain⟨ag,r,pl,hz⟩:=I.list hq;obtain⟨j,h1,h2,h3,h4,h5⟩:=rS he;obtain⟨w,ew,dE⟩:=r.get h2;have hl:=r.length;have hn:=lW;have fin:EP X pins σ Q w s:=⟨z,H,I,dE,q⟩;by_cases h0:0<=i
 ·have hj:i.toNat=j:=by
   rw[seqIndex_of h0 h5] at h1;exact Yf h1
  exact item_listR pl.isList h0 (by omega) (by rw[hj];simpa using ew) fin hs
 ·have hj:(i+(ag.toArray.size:Int)).toNat=j:=by
   rw[seqIndex_neg (by omega) h4] at h1
   grind
  exact subscriptTail_builtinR (x:=w) pl.isList.typeIs slot_list_getitem.lookup
   (wpAny_getItem_list_neg pl.isList (by omega) (by rw[Yk]<;>omega) (by omega) (by rw[hj];simpa using ew) ⟨rfl,fin⟩) hs
theorem yt:dq X (oR X.K):=by
 intro value slice pins s σ H x y v u Q I rx ry h hs;obtain⟨p,xs,i,z,rfl,rfl,hq,he,q⟩:=h;cases rx;obtain⟨t,rfl⟩:=ry;obtain⟨ag,r,pl,hz⟩:=I.tuple hq;obtain⟨j,h1,h2,h3,h4,h5⟩:=rS he;obtain⟨w,ew,dE⟩:=r.get h2;have hn:=lW;exact subscriptTail_builtinR pl.typeIs slot_tuple_getitem.lookup
  (getItem_tuple pl (by omega) (by omega) (by rw[Yk,←r.length];exact h1) (by simpa using ew) ⟨rfl,⟨z,H,I,dE,q⟩⟩) hs
theorem oG:dq X zO:=by
 intro value slice pins s σ H x y v u Q I rx ry h hs;obtain⟨z,i,c,rfl,rfl,hz,he,q⟩:=h;obtain⟨t,rfl⟩:=rx;obtain⟨t',rfl⟩:=ry;obtain⟨j,h1,h2,h3,h4,h5⟩:=rS he;have hl:z.cps.toList.length=z.length:=by simp[Str.length]
 rw[hl] at h1 h4 h5;have hn:=lW;exact tail_any (typeIs_str s z t) slot_str_getitem.lookup (getItem_str (by
  rw[(decide_eq_false (by omega)),(decide_eq_false (by omega)),Bool.or_false]) (by rw[h1];simpa using h2) ⟨.str ⟨#[c]⟩,H,I.tok _,⟨_,rfl⟩,q⟩) hs
def uj(K:af):R2:=λx y H Q=>mE K x y H Q\/oR K x y H Q\/zO x y H Q
theorem Fv:dq X (uj X.K):=rT.or (yt.or oG)
theorem CO(ag:List Value)(n j:Nat)(u:Value):Obj.mapSeq (·.setIfInBounds j u) {cls:=.type "list",data:=.seq ag.toArray n}={cls:=.type "list",data:=.seq (ag.set j u).toArray n}:=by
 simp[Obj.mapSeq]
theorem Inv.lst{pins:aB}{σ:St}{H:Hp}{s:Shared}{p:Addr}{xs:List V}(I:Inv X pins σ H s)(h:H p=some (.lst xs)):
  ∃(ag:List Value) (n:Nat),Vals xs ag/\s.heap.get? p=some {cls:=.type "list",data:=.seq ag.toArray n}/\xs.length<=sizeLine:=by
 obtain⟨z,ag,n,r,e⟩:=I.aw p _ h
 grind
theorem Inv.Fw{pins:aB}{σ:St}{H:Hp}{s:Shared}{p:Addr}{xs ys:List V}{ag its':List Value}{n n':Nat}{f:Obj->Obj}(I:Inv X pins σ H s)(h:H p=some (.lst xs))
  (ho:s.heap.get? p=some {cls:=.type "list",data:=.seq ag.toArray n})(hf:f {cls:=.type "list",data:=.seq ag.toArray n}={cls:=.type "list",data:=.seq its'.toArray n'})(r:Vals ys its')(hz:ys.length<=sizeLine)(t:Nat):
  Inv X pins σ (upd H p (.lst ys)) {s with heap:=s.heap.update p f,toks:=t}:=by
 have e:(s.heap.update p f).get? p=some {cls:=.type "list",data:=.seq its'.toArray n'}:=by
  rw[Heap.get?_update_self f ho (by rw[hf]<;>rfl),hf]
 refine I.write (x:=p) (e:=p) (by rw[h];trivial) (.inl rfl) (λb u hb q=>(Heap.get?_update_other _ _ (Ne.symm hb)).trans q) ⟨_,e⟩ ?_;exact⟨hz,its',n',r,e⟩
def GA:V->V->V->Hp->(Hp->Prop)->Prop:=λo i v H Q=>∃p xs k j,o=.ref p/\i=.int k/\H p=some (.lst xs)/\eF xs.length k=some j/\Q (upd H p (.lst (xs.set j v)))
theorem set_list:jT X GA:=by
 rintro pins s σ H o i v ov iv u Q I ro ri rv ⟨p,xs,k,j,rfl,rfl,hp,hj,q⟩;cases ro;obtain⟨t,rfl⟩:=ri;obtain⟨ag,n,r,ho,hz⟩:=I.lst hp;obtain⟨h1,h2,h3,h4⟩:=oo hj;have hl:=r.length;have hn:=lW;have I':Inv X pins σ (upd H p (.lst (xs.set j v))) {s with heap:=s.heap.update p (Obj.mapSeq (·.setIfInBounds j u))}:=
  I.Fw hp ho (CO ag n j u) (r.set rv j) (by rw[W9];exact hz) s.toks
 by_cases h0:0<=k
 ·have hk:k.toNat=j:=by
   rw[seqIndex_of h0 h4] at h1
   grind
  exact PySem.W.ki_setAt ho h0 (by omega) (by rw[Yk,←hl];exact h4) (by rw[hk];exact⟨_,I',q⟩)
 ·have hk:(k+(ag.toArray.size:Int)).toNat=j:=by
   rw[seqIndex_neg (by omega) h3] at h1
   grind
  exact PySem.W.ki_setBack ho (by omega) (by rw[Yk,←hl];exact h3) (by omega) (by rw[hk];exact⟨_,I',q⟩)
theorem B0(lo hi:Option Int)(n:Nat):(sliceBounds lo hi none n).1=((HT.dn n 0 lo:Nat):Int)/\(sliceBounds lo hi none n).2.1=((HT.dn n n hi:Nat):Int)/\(sliceBounds lo hi none n).2.2=1:=by
 refine⟨?_,?_,rfl⟩
 ·cases lo with
  |none=>rfl
  |some i=>
   simp only[sliceBounds,HT.dn]
   grind
 ·cases hi with
  |none=>rfl
  |some i=>
   simp only[sliceBounds,HT.dn]
   grind
theorem BS(ag:List Value)(lo hi:Option Int):slicePick ag.toArray lo hi none=((ag.drop (HT.dn ag.length 0 lo)).take (HT.dn ag.length ag.length hi-HT.dn ag.length 0 lo)).toArray:=by
 obtain⟨h1,h2,h3⟩:=B0 lo hi ag.toArray.size;unfold slicePick;rw[h1,h2,h3];simp only[sliceRange_one,pick_run]<;>rfl
def Hj(K:af):V->Option Int->Option Int->Hp->VK->Prop:=λx lo hi H Q=>∃a xs,x=.ref a/\ah K H a xs/\∀p,H p=none->Q (.ref p) (upd H p (.lst (jW xs lo hi)))
theorem EA:lj X (Hj X.K):=by
 rintro pins s σ H x v vl vu lo hi sl Q I rx hs pl pu ⟨a,xs,rfl,hx,q⟩;cases rx;obtain⟨ag,r,ht,hz⟩:=I.list hx;have hlen:=r.length;refine⟨"list",_,slot_list_getitem.lookup,ht.isList.typeIs,wpAny_getItem_list_slice ht.isList hs pl pu .none (by simp) ?_ (by rw[Yk]<;>omega)⟩;rw[BS,←hlen];refine⟨.ref s.heap.objs.size,_,I.laid (o:=.lst (jW xs lo hi)) (λb ob q=>Yb _ q) (Yc _) ?_,rfl,q _ (I.aw.fresh (Yc _))⟩;exact⟨Yx (qF xs lo hi) hz,_,0,(r.drop (HT.dn xs.length 0 lo)).take (HT.dn xs.length xs.length hi-HT.dn xs.length 0 lo),Yl _ rfl⟩
def iu:V->Bool
 |.aD=>true
 |.bl _=>true
 |.int _=>true
 |.str _=>true
 |_=>false
def jo:V->V->Bool
 |.aD,.aD=>true
 |.bl a,.bl b=>a==b
 |.bl a,.int b=>(if a then 1 else 0)==b
 |.int a,.bl b=>a==(if b then 1 else 0)
 |.int a,.int b=>a==b
 |.str a,.str b=>a==b
 |_,_=>false
theorem Fx{A:Around}{s:Shared}{y x:V}{u v:Value}(ry:RelV y u)(rx:RelV x v)(fy:iu y=true)(fx:iu x=true):SeqAt.EqAt A s u v (jo y x):=by
 cases y with
 |aD=>
  cases ry;cases x with
  |aD=>cases rx;exact SeqAt.EqAt.same _
  |bl b=>cases rx;exact SeqAt.EqAt.none_bool b
  |int b=>obtain⟨t,rfl⟩:=rx;exact SeqAt.EqAt.none_int b t
  |str b=>obtain⟨t,rfl⟩:=rx;exact SeqAt.EqAt.none_str b t
  |_=>exact absurd (show false=true from fx) Yi
 |bl a=>
  cases ry;cases x with
  |aD=>cases rx;exact SeqAt.EqAt.bool_none a
  |bl b=>cases rx;exact SeqAt.EqAt.bool_bool a b
  |int b=>obtain⟨t,rfl⟩:=rx;exact SeqAt.EqAt.bool_int a b t
  |str b=>obtain⟨t,rfl⟩:=rx;exact SeqAt.EqAt.bool_str a b t
  |_=>exact absurd (show false=true from fx) Yi
 |int a=>
  obtain⟨t',rfl⟩:=ry;cases x with
  |aD=>cases rx;exact SeqAt.EqAt.int_none a t'
  |bl b=>cases rx;exact SeqAt.EqAt.int_bool a t' b
  |int b=>obtain⟨t,rfl⟩:=rx;exact SeqAt.EqAt.int_int a t' b t
  |str b=>obtain⟨t,rfl⟩:=rx;exact SeqAt.EqAt.int_str a t' b t
  |_=>exact absurd (show false=true from fx) Yi
 |str a=>
  obtain⟨t',rfl⟩:=ry;cases x with
  |aD=>cases rx;exact SeqAt.EqAt.str_none a t'
  |bl b=>cases rx;exact SeqAt.EqAt.str_bool a t' b
  |int b=>obtain⟨t,rfl⟩:=rx;exact SeqAt.EqAt.str_int a t' b t
  |str b=>obtain⟨t,rfl⟩:=rx;exact SeqAt.EqAt.str_str a t' b t
  |_=>exact absurd (show false=true from fx) Yi
 |_=>exact absurd (show false=true from fy) Yi
def fX(x:V)(u:Value):Bool:=match u with
 |.none=>jo .aD x
 |.bool b=>jo (.bl b) x
 |.int i _=>jo (.int i) x
 |.str z _=>jo (.str z) x
 |_=>false
theorem yu{x y:V}{u:Value}(r:RelV y u)(f:iu y=true):fX x u=jo y x:=by
 cases y with
 |aD=>cases r;rfl
 |bl b=>cases r;rfl
 |int i=>obtain⟨t,rfl⟩:=r;rfl
 |str z=>obtain⟨t,rfl⟩:=r;rfl
 |_=>exact absurd (show false=true from f) Yi
theorem rV{x:V}:∀{xs:List V} {us:List Value},Vals xs us->xs.all iu=true->us.any (fX x)=xs.any λy=>jo y x
 |_,_,.nil,_=>rfl
 |y::xs,u::us,.cons r t,f=>by
  rw[Jj,Bool.and_eq_true] at f;rw[W8,W8,yu r f.1,rV t f.2]
theorem rD{A:Around}{s:Shared}{x:V}{v:Value}(rx:RelV x v)(fx:iu x=true):∀{xs:List V} {us:List Value},Vals xs us->xs.all iu=true->∀u∈us,SeqAt.EqAt A s u v (fX x u):=by
 intro xs us h;induction h with
 |nil=>intro _ u hu;cases hu
 |cons r t ih=>
  intro f u' hu;rw[Jj,Bool.and_eq_true] at f;rcases Yu.mp hu with rfl|hu;·rw[yu r f.1];exact Fx r rx f.1 fx
  ·exact ih f.2 u' hu
def mX(x:V)(xs:List V):Bool:=xs.any λy=>jo y x
def Ax(K:af)(neg:Bool):R2:=λx y H Q=>∃p xs,y=.ref p/\(ah K H p xs\/au K H p xs)/\iu x=true/\xs.all iu=true/\Q (.bl (if neg then !mX x xs else mX x xs)) H
theorem B3:bx X (compareOp .NotIn) (Ax X.K true):=by
 rintro pins s σ H x y v u Q I rx ry ⟨p,xs,rfl,hq,fx,fs,q⟩;cases ry;rcases hq with hq|hq
 ·obtain⟨ag,r,pl,hz⟩:=I.list hq;refine SeqAt.notIn_listAt (fX x) pl.isList (λw hw=>rD rx fx r fs w (by simpa using hw)) ⟨.bl _,H,I,rfl,?_⟩;rw[show ag.toArray.any (fX x)=ag.any (fX x) by simp,rV r fs];exact q
 ·obtain⟨ag,r,pl,hz⟩:=I.tuple hq;refine SeqAt.notIn_tupleAt (fX x) pl (λw hw=>rD rx fx r fs w (by simpa using hw)) ⟨.bl _,H,I,rfl,?_⟩;rw[show ag.toArray.any (fX x)=ag.any (fX x) by simp,rV r fs];exact q
theorem vK:ck X (.builtin "len") (λxs H Q=>∃p ys,xs=[.ref p]/\(ah X.K H p ys\/au X.K H p ys)/\Q (.int ys.length) H):=by
 rintro pins s σ H xs us Q I r ⟨p,ys,rfl,hq,q⟩;obtain⟨u,rfl,rx⟩:=vals1 r;cases rx;have hn:=lW;rcases hq with hq|hq
 ·obtain⟨ag,r',pl,hz⟩:=I.list hq;have hlen:=r'.length;exact Calls.call_len_list pl.isList (by simp only[Yk]<;>omega) ⟨.int ys.length,H,I.tok _,⟨s.toks+1,by rw[Yk,hlen]⟩,q⟩
 ·obtain⟨ag,r',pl,hz⟩:=I.tuple hq;have hlen:=r'.length;exact len_tuple pl (by simp only[Yk]<;>omega) ⟨.int ys.length,H,I.tok _,⟨s.toks+1,by rw[Yk,hlen]⟩,q⟩
theorem B4:ck X (.type "list") (λxs H Q=>∃p ys,xs=[.ref p]/\(ah X.K H p ys\/au X.K H p ys)/\∀l,H l=none->Q (.ref l) (upd H l (.lst ys))):=by
 rintro pins s σ H xs us Q I r ⟨p,ys,rfl,hq,q⟩;obtain⟨u,rfl,rx⟩:=vals1 r;cases rx;have fin:∀(ag:List Value),Vals ys ag->ys.length<=sizeLine->∀(h':Heap) (c':Nat),(∀b o',s.heap.get? b=some o'->h'.get? b=some o')->
   h'.get? s.heap.objs.size=some {cls:=.type "list",dict:=none,data:=.seq ag.toArray c',slots:=#[]}->EP X pins σ Q (.ref s.heap.objs.size) {s with heap:=h'}:=λag r' hz h' c' kp e=>
  ⟨.ref s.heap.objs.size,_,I.laid kp (Yc _) (show bP X.prog X.w _ h' _ (.lst ys) from⟨hz,ag,c',r',e⟩),rfl,q _ (I.aw.fresh (Yc _))⟩
 rcases hq with hq|hq
 ·obtain⟨ag,r',pl,hz⟩:=I.list hq;have hlen:=r'.length;obtain⟨o,ho,hc,n,hd⟩:=pl.isList;exact call_list_seq p (.inl rfl) ho hc hd (λh' c' kp e=>fin ag r' hz h' c' kp e) (by simp only[Yk]<;>omega)
 ·obtain⟨ag,r',pl,hz⟩:=I.tuple hq;have hlen:=r'.length;obtain⟨o,ho,hc,n,hd⟩:=pl;exact call_list_seq p (.inr rfl) ho hc hd (λh' c' kp e=>fin ag r' hz h' c' kp e) (by simp only[Yk]<;>omega)
theorem kA:ck X (.type "tuple") (λxs H Q=>∃p ys,xs=[.ref p]/\((ah X.K H p ys/\∀l,H l=none->Q (.ref l) (upd H l (.tup ys)))\/(au X.K H p ys/\Q (.ref p) H))):=by
 rintro pins s σ H xs us Q I r ⟨p,ys,rfl,h⟩;obtain⟨u,rfl,rx⟩:=vals1 r;cases rx;rcases h with⟨hq,q⟩|⟨hq,q⟩
 ·obtain⟨ag,r',pl,hz⟩:=I.list hq;have hlen:=r'.length;refine call_tuple_list pl.isList (λh' kp=>?_) (by simp only[Yk]<;>omega);have I1:=I.kept (t':=s.toks) kp;have I2:Inv X pins σ (upd H h'.objs.size (.tup ys)) {s with heap:=h'.push {cls:=.type "tuple",data:=.seq ag.toArray}}:=
   I1.laid (λb o e=>Yb _ e) (Yc _) (show bP X.prog X.w _ _ _ (.tup ys) from⟨hz,ag,r',gp.new _ _⟩)
  exact⟨.ref h'.objs.size,_,I2,rfl,q _ (I1.aw.fresh (Yc _))⟩
 ·obtain⟨ag,r',pl,hz⟩:=I.tuple hq;exact call_tuple_same pl ⟨.ref p,H,I,rfl,q⟩
def Ay(K:af)(T:String)(x:V)(H:Hp):Prop:=match x with
 |.str _=>T="str"
 |.int _=>T="int"
 |.ref p=>(T="list"/\∃xs,ah K H p xs)\/(T="tuple"/\∃o,K.lookup p=some o/\o.cls=.type "tuple"/\o.dict=none)\/
   (T="dict"/\((∃ae,H p=some (.dK ae))\/∃ae,H p=some (.dT ae)))\/(T="set"/\∃S n,H p=some (.set S n))
 |_=>False
theorem Fy{pins:aB}{σ:St}{H:Hp}{s:Shared}{T:String}{x:V}{v:Value}(I:Inv X pins σ H s)(r:RelV x v)(ty:Ay X.K T x H):
  s.TypeIs v T/\∀a,v=.ref a->∃ob,s.heap.get? a=some ob/\ob.dict=none:=by
 cases x with
 |str z=>
  obtain⟨t,rfl⟩:=r;cases(show T="str" from ty);exact⟨typeIs_str s z t,λ_ e=>nomatch e⟩
 |int i=>
  obtain⟨t,rfl⟩:=r;cases(show T="int" from ty);exact⟨typeIs_int s i t,λ_ e=>nomatch e⟩
 |ref p=>
  cases r;rcases ty with⟨rfl,xs,hq⟩|⟨rfl,o,hk,hc,hd⟩|⟨rfl,hk⟩|⟨rfl,S,n,hk⟩
  ·obtain⟨ag,_,pl,_⟩:=I.list hq;refine⟨pl.isList.typeIs,λa e=>?_⟩;obtain⟨o,n,e,c,hd,_⟩:=pl
   grind
  ·refine⟨⟨o,I.cq p o hk,hc⟩,λa e=>?_⟩;cases e;exact⟨o,I.cq _ o hk,hd⟩
  ·have z:∃o,s.heap.get? p=some o/\o.ExactDict:=by
    rcases hk with⟨ae,hk⟩|⟨ae,hk⟩
    ·obtain⟨_,_,_,_,o,_,_,e,ex,_⟩:=I.aw p _ hk;exact⟨o,e,ex⟩
    ·obtain⟨_,_,_,_,o,_,_,e,ex,_⟩:=I.aw p _ hk;exact⟨o,e,ex⟩
   obtain⟨o,e,ex⟩:=z;refine⟨⟨o,e,ex.1⟩,λa e2=>?_⟩;cases e2;exact⟨o,e,ex.2.1⟩
  ·obtain⟨o,_,_,_,e,ex,_⟩:=I.aw p _ hk;refine⟨⟨o,e,ex.1⟩,λa e2=>?_⟩;cases e2;exact⟨o,e,ex.2.1⟩
 |_=>exact False.elim ty
def uk(K:af)(T:String)(r:V->List V->Hp->VK->Prop)(to:TE)(t:TA):TE:=λσ H Q=>to σ H λx H1=>Ay K T x H1/\t σ H1 λxs H2=>r x xs H2 Q
variable {o e:Expr}{es:List Expr}{to:TE}{t:TA}{name:Str}{apos dC:Pos}{T id:String}{r:V->List V->Hp->VK->Prop}
theorem mj(pa:PlainAttrs T)(slot:Slot T name id)(IA:typeOf (.builtin id)=pure (.type "method_descriptor"))(hm:Iz X id r)(ho:PE X o to)(ha:PA X (e::es) t)
  (sT:attributeBase o name X.env (eval o X.env)=eval o X.env:=by rfl)
  (tJ:((backTo dC (starEach (e::es) X.env)).all (λx=>!x.1)&&(backToKw dC (keywordEach [] X.env)).all (λx=>x.1.isSome)
   &&decide ((e::es).length+([]:List Keyword).length+(if([]:List Keyword).isEmpty then 0 else 1)<30))=true:=by rfl)
  (sU:(apos.endLine==dC.line)=true:=by rfl)(hs:fU X e es:=by rfl)(Fz:gw X dC es:=by rfl):
  PE X (.Call (.Attribute o name apos) (e::es) [] dC) (uk X.K T r to t):=by
 intro pins s σ H Q I h;refine wpAny_Call_method_late sT tJ sU rfl (av (ho pins s σ H _ I h) λv s1 zq=>?_);obtain⟨x,H1,I1,r1,ty,q1⟩:=zq;obtain⟨h1,h2⟩:=Fy I1 r1 ty;refine⟨T,id,pa,slot,IA,h1,h2,?_⟩;have hA:=ha dC pins s1 σ H1 _ I1 q1;rw[hs] at hA⊢;exact Calls.callWith_builtin (by show(false||(backTo dC (starEach es X.env)).any (·.1))=false;rw[Fz]<;>rfl) (Calls.evalArgs_plain (av hA λus s2 ⟨vs,H2,I2,r2,q2⟩=>hm pins s2 σ H2 x vs v us Q I2 r1 r2 q2))
end
def kg(X:Cx)(id:String)(r:V->List V->Hp->VK->Prop):Prop:=
 ∀(pins:aB) (s:Shared) (σ:St) (H:Hp) (x:V) (xs:List V) (v:Value) (us:List Value) (Q:VK),Inv X pins σ H s->RelV x v->Vals xs us->r x xs H Q->
  wpAny X.md X.A (call (.builtin id) (v::us)) (EP X pins σ Q) X.xe s
theorem Vals.one:∀{x:V} {us:List Value},Vals [x] us->∃u,us=[u]/\RelV x u:=by
 intro x us h;cases h with
 |cons r t=>
  cases t;exact⟨_,rfl,r⟩
theorem Vals.eraseIdx:∀{xs:List V} {us:List Value} (i:Nat),Vals xs us->Vals (xs.eraseIdx i) (us.eraseIdx i)
 |_,_,_,.nil=>.nil
 |_,_,0,.cons _ t=>t
 |_,_,i+1,.cons r t=>.cons r (Vals.eraseIdx i t)
section
variable {X:Cx}{pins:aB}{σ:St}{H:Hp}{s:Shared}{l b:Addr}{xs ys zs:List V}
theorem Inv.zP{ag its':List Value}{n:Nat}{f:Array Value->Array Value}{t':Nat}(I:Inv X pins σ H s)(hH:H l=some (.lst xs))
  (e:s.heap.get? l=some {cls:=.type "list",data:=.seq ag.toArray n})(hf:f ag.toArray=its'.toArray)(hv:Vals ys its')(hz:ys.length<=sizeLine):
  Inv X pins σ (upd H l (.lst ys)) {s with heap:=s.heap.update l (Obj.mapSeq f),toks:=t'}:=by
 have q:=PySem.IsL.update e f;rw[hf] at q;refine I.write (by rw[hH];exact trivial) (.inl rfl) (λb' u hb hu=>(Heap.get?_update_other s.heap (Obj.mapSeq f) (Ne.symm hb)).trans hu) ⟨_,q⟩ ?_;exact⟨hz,its',_,hv,q⟩
theorem Inv.Hk{ag:List Value}{t':Nat}(I:Inv X pins σ H s)(hv:Vals ys ag)(hz:ys.length<=sizeLine):
  Inv X pins σ (upd H s.heap.objs.size (.lst ys)) {s with heap:=s.heap.push {cls:=.type "list",data:=.seq ag.toArray},toks:=t'}:=
 I.laid (λ_ _ q=>Yb _ q) (Yc _) ⟨hz,ag,0,hv,Yl _ rfl⟩
theorem Inv.fresh(I:Inv X pins σ H s):H s.heap.objs.size=none:=I.aw.fresh (Yc _)
theorem Inv.oS(I:Inv X pins σ H s)(hH:H l=some (.lst xs)):xs.length<=sizeLine/\∃(ag:List Value) (n:Nat),Vals xs ag/\xs.length=ag.length/\s.heap.get? l=some {cls:=.type "list",data:=.seq ag.toArray n}:=by
 obtain⟨z,ag,n,r,e⟩:=I.aw l _ hH;exact⟨z,ag,n,r,r.length,e⟩
end
section
variable {X:Cx}
def EB:V->List V->Hp->VK->Prop:=λx vs H Q=>∃l xs y,x=.ref l/\vs=[y]/\H l=some (.lst xs)/\xs.length<sizeLine/\Q .aD (upd H l (.lst (xs++[y])))
theorem lO:kg X "list.append" EB:=by
 intro pins s σ H x vs v us Q I rx rv h;obtain⟨l,xs,y,rfl,rfl,hH,hz,q⟩:=h;cases rx;obtain⟨u,rfl,ru⟩:=rv.one;obtain⟨z,ag,n,r,hl,e⟩:=I.oS hH;refine call_meets F.slot_list_append ⟨_,e,rfl⟩ F.entry_list_append (F.args_list_append_2 _ _) (PySem.list_append l ag.toArray n u (by rw[Yk];omega)) ⟨e,?_⟩;refine⟨.aD,_,I.zP (its':=ag++[u]) hH e (by simp) (r.append (.cons ru .nil)) ?_,rfl,q⟩
 grind
def FA:V->List V->Hp->VK->Prop:=λx vs H Q=>∃l xs i k y,x=.ref l/\vs=[.int i]/\H l=some (.lst xs)/\-(2^63)<=i/\i<2^63/\seqIndex? i xs.length=some k/\xs[k]?=some y/\Q y (upd H l (.lst (xs.eraseIdx k)))
theorem wY:kg X "list.pop" FA:=by
 rintro pins s σ H x vs v us Q I rx rv ⟨l,xs,i,k,y,rfl,rfl,hH,h1,h2,hk,hy,q⟩;cases rx;obtain⟨u,rfl,ru⟩:=rv.one;obtain⟨t,rfl⟩:=ru;obtain⟨z,ag,n,r,hl,e⟩:=I.oS hH;obtain⟨w,hw,dE⟩:=r.get hy;refine call_meets F.slot_list_pop ⟨_,e,rfl⟩ F.entry_list_pop (F.args_list_pop_2 _ _)
  (MeetsSeq.list_pop_at l ag.toArray n i t k w (fitsIndex_both h1 h2) (by rw[Yk,←hl];exact hk) (by rw[←Array.getElem?_toList];exact hw) (by rw[Yk];omega)) ⟨e,?_⟩
 refine⟨y,_,I.zP hH e ?_ (r.eraseIdx k) ?_,dE,q⟩;·grind
 ·grind
def Hl:R2:=λx y H Q=>∃l b xs zs,x=.ref l/\y=.ref b/\H l=some (.lst xs)/\H b=some (.lst zs)/\xs.length+zs.length<=sizeLine/\∀p,H p=none->Q (.ref p) (upd H p (.lst (xs++zs)))
theorem FC:bx X (binaryOp .Add) Hl:=by
 rintro pins s σ H x y v u Q I rx ry ⟨l,b,xs,zs,rfl,rfl,hH,hB,hz,q⟩;cases rx;cases ry;obtain⟨z,ag,n,r,hl,e⟩:=I.oS hH;obtain⟨z2,e_,n2,r2,fk,e2⟩:=I.oS hB;refine PySem.P.add_list e e2 ?_ (by rw[Yk,Yk];omega);have ea:ag.toArray++e_.toArray=(ag++e_).toArray:=by simp
 rw[ea];exact⟨.ref _,_,I.Hk (r.append r2) (by rw[Ym];omega),rfl,q _ I.fresh⟩
end
section
variable {prog:Program}{w:World}{A:Around}{E:aC}{s:Shared}
set_option maxRecDepth 100000 in
end
section
variable {X:Cx}
end
end L2
namespace Az
open PySem PySem.W PySem.Calls PyProof.Rows
theorem BI{P:Params}{h:Heap}:∀(ns:List Int) (vs:List Value),WellAll P h vs (ns.map WData.int)->IntsAre vs ns:=by
 intro ns;induction ns with
 |nil=>
  intro vs w;cases w;exact .nil
 |cons n ns ih=>
  intro vs w;cases w with
  |cons a b=>
   cases a;exact .cons _ _ (ih _ b)
theorem Dj{l:OpenLaw}{n:Nat}(hn:l.most=some n){P:Params}{h:Heap}{args:List WData}{vals:List Value}
  (oU:l.row.toRowW.claim.pre args=true)(mY:WellAll P h vals args):
  ∃a vs ns,vals=[Value.ref a]/\args=[WData.list (ns.map WData.int)]/\h.get? a=some {cls:=.type "list",data:=.seq vs.toArray}/\IntsAre vs ns/\ns.length<=n:=by
 obtain⟨d,r,rfl,h1,h2⟩:=hasAllW_cons ((pre_splitW oU).1);obtain rfl:=hasAllW_nil h2;obtain⟨xs,rfl,h3⟩:=hasW_list h1;obtain⟨ns,rfl⟩:=items_int h3;have hlen:ns.length<=n:=by
  have h4:(WTm.not (.lt (.lit (.int (n:Int))) (.len (.arg 0)))).holds [] {args:=[.list (ns.map .int)]}=true:=by
   have h4:=(holds_andW ((pre_splitW oU).2)).1;rw[hn] at h4;exact h4
  have h5:=condW_of h4 (w_not (w_lt w_lit (w_len_list (w_arg rfl))))
  grind
 cases mY with
 |cons w1 w2=>
  cases w2;cases w1 with
  |list ho tK=>exact⟨_,_,ns,rfl,rfl,ho,BI ns _ tK,hlen⟩
theorem Dk(l:OpenLaw)(args:List WData):l.row.toRowW.claim.post args (.bool true) args=true:=
 postW_of (X:=(true==true))
  (show WShape.has [] (.bool true) .bool=true by first|rfl|decide|simp[WShape.has])
  (show(WTm.eq .res (.lit (.bool true))).value [] {args:=args,res:=some (.bool true),after:=args}=some (.bool (true==true)) from w_eq_bool (w_res rfl) w_lit) rfl
theorem Cj{l:OpenLaw}{n:Nat}{q:Program}{loose:List Str}{XP:(Str->Option Value)->Heap->Prop}{YP:World->Heap->Prop}{d:DefRec}
  (hn:l.most=some n)(mZ:d.params.defaults=[])
  (call:∀(w:World) (bj aG:Shared) (mg mb:aJ) (fa:Addr) (o:Obj) (pm cd doc:Value) (a:Addr) (vs:List Value) (ns:List Int),
   Ground q loose [] XP w bj mg mb aG.heap->YP w aG.heap->
   aG.heap.get? fa=some o->o.data=.func (docDef d.name d.params d.body d.scope pm cd doc)->aG.heap.CodeRec cd d.name->mg d.name=some (.ref fa)->
   aG.heap.get? a=some {cls:=.type "list",data:=.seq vs.toArray}->IntsAre vs ns->ns.length<=n->aG.gens=#[]->
   codeAny (model l.prog w) callerA (.call (.ref fa) ⟨[.ref a],[]⟩) (λr s'=>r=.ok (.ret (.bool true))/\OldK aG.heap s'.heap/\s'.os=aG.os/\AllBare s'.gens) aG):
  WalkO q loose XP YP l.row.toRowW d [] (λf vs=>PySem.call f vs):=by
 intro w bj aG mg mb G Y fa o pm cd doc dV kV ho hd dD hD m3 hg args vals as oU LX L7 mY L8;obtain rfl:dV=.none:=Dflts.none hD mZ;obtain rfl:kV=.none:=Dflts.noKw hD;obtain⟨a,vs,ns,rfl,rfl,tL,hints,hlen⟩:=Dj hn oU mY;refine enter_call (codeAny_mono (call w bj aG mg mb fa o pm cd doc a vs ns G Y ho (fd_plain hd) dD m3 tL hints hlen hg) λr s' hq=>?_);obtain⟨rfl,h2,h3,h4⟩:=hq;exact⟨.inl ⟨.bool true,.bool true,[],rfl,λ_=>rfl,.bool true,Dk l _,λ_=>⟨List.Pairwise.nil,λ_ hm=>(nomatch hm)⟩⟩,h2,h3,h4⟩
section
variable {prog:Program}{w:World}{A:Around}{E:aC}{s:Shared}{K:Frag}
end
end Az
namespace L2
open PySem PySem.Spec PyProof.Rows
theorem wD:∀{vs:List Value} {ns:List Int},IntsAre vs ns->Vals (ns.map V.int) vs:=by
 intro vs ns h;induction h with
 |nil=>exact .nil
 |cons n t h ih=>exact .cons ⟨t,rfl⟩ ih
def tM(H:Hp):Prop:=∀b,H b=none\/∃o xs,H b=some (.dS o (.lst xs))
theorem DR{P:Program}{w:World}{K:af}{mg mb:aJ}{CX:eD}{k:Nat}{fa a:Addr}{fd:FuncData}{x:Str}{sp:Sp}{aG:Shared}{vs:List Value}{ns:List Int}
  (KX:K.In aG.heap)(AA:aG.heap.Ns mainGlobals mg)(hb:aG.heap.Ns builtinsNs mb)(IB:∀x:Str,x≠"__name__"->mb x=bootBuiltins x)(Hm:aG.heap.NoLimit)(hg:aG.gens=#[])
  (ha:aG.heap.get? a=some {cls:=.type "list",data:=.seq vs.toArray})(hi:IntsAre vs ns)(hl:ns.length<=sizeLine)(hr:bM k callerA)
  (F:∀base:Heap,K.In base->base.Ns mainGlobals mg->aL P w K mg base CX k fa fd [x] sp)(GB:∀(s:Shared) (u:Value),BindsTo s fd ⟨[u],[]⟩ [(x,u)])
  (gS:∀H:Hp,tM H->ah K H a (ns.map V.int)->sp [.ref a] H (λv _=>v=.bl true) λ_ _ _=>False)
  (um:∀H e s',CX [] H aG (λ_ _ _=>False) e s'->False):
  codeAny (model P w) callerA (.call (.ref fa) ⟨[.ref a],[]⟩) (λr s'=>r=.ok (.ret (.bool true))/\OldK aG.heap s'.heap/\s'.os=aG.os/\AllBare s'.gens) aG:=by
 have rv:=wD hi;have Hn:=hi.length
 --from an abstract heap in LM nothing but iF yf may be tracked
 have core:∀H:Hp,tM H->ah K H a (ns.map V.int)->bQ P w H aG.heap->(∀b,H b≠none->b=a)->(H a≠none->K.lookup a=none)->
   codeAny (model P w) callerA (.call (.ref fa) ⟨[.ref a],[]⟩) (λr s'=>r=.ok (.ret (.bool true))/\OldK aG.heap s'.heap/\s'.os=aG.os/\AllBare s'.gens) aG:=by
  intro H hO hS aw hA hK;have xP:∀{b:Addr} {o:Obj},aG.heap.get? b=some o->H b=none->(iz aG.heap H).get? b=some o:=λe n=>DH e n;have mW:∀{b:Addr} {o:Obj} {es:Array DictEntry} {ep:Nat},aG.heap.get? b=some o->o.data=.dict es ep->H b=none:=λ{b o es ep} e d=>by
   cases q:H b with
   |none=>rfl
   |some u=>
    have e':b=a:=hA b (by rw[q];simp);subst e';rw[ha] at e;cases e;have d':Data.seq vs.toArray _=Data.dict es ep:=d;cases d'
  have pE:∀{b:Addr} {m:aJ},aG.heap.Ns b m->(iz aG.heap H).Ns b m:=λ{b m} ⟨o,es,ep,e,d,r⟩=>⟨o,es,ep,xP e (mW e d),d,r⟩;have AB:K.In (iz aG.heap H):=λb o e=>xP (KX b o e) (by
   cases q:H b with
   |none=>rfl
   |some u=>
    have e':b=a:=hA b (by rw[q];simp);subst e';rw[hK (by rw[q];simp)] at e;cases e)
  have hM:Mod K mg (iz aG.heap H):=⟨AB,pE AA,⟨mb,pE hb,IB⟩,let⟨mc,h1,h2⟩:=Hm;⟨mc,pE h1,h2⟩⟩;have e0:jV P w K mg (iz aG.heap H) callerA [] aG H:=⟨rfl,hM,λb o e=>Em e,Nat.le_of_eq (Dc _ _),trivial,λb hb=>absurd (show b∈([]:List Addr) from hb) (by simp),aw,.of_eq hg⟩;refine codeAny_mono ((F _ AB (pE AA)).run callerA [] aG H ⟨[.ref a],[]⟩ [.ref a] [.ref a] _ _ hr e0 (GB aG (.ref a)) (.cons rfl .nil) (gS H hO hS)) λr s' h=>?_;cases r with
  |error e=>exact(um H e s' h).elim
  |ok fl=>
   cases fl with
   |next=>exact False.elim h
   |brk=>exact False.elim h
   |cont=>exact False.elim h
   |ret u=>
    obtain⟨v,H',os,bare,un,Ho,r',q⟩:=h;have q':v=.bl true:=q;subst q';obtain rfl:u=Value.bool true:=r';refine⟨rfl,OldK.of_keep λb o e=>?_,os,bare⟩;cases q:H b with
    |none=>exact un.keep b o e q (by intro z;exact absurd (show b∈([]:List Addr) from z) (by simp)) (by simp)
    |some u=>
     rcases hO b with z|⟨ob,xs,z⟩;·rw[q] at z;cases z
     ·have z2:=un.iy b ob _ z;obtain⟨e1,_⟩:=aw b _ z;obtain⟨e2,_⟩:=Ho b _ z2;rw[e] at e1;cases e1;exact e2
 cases hk:K.lookup a with
 |some o=>
  --iF yf is one of iF LD own objects
  have e:=KX a o hk;rw[ha] at e;cases e;refine core (λ_=>none) (λ_=>.inl rfl) (.inr ⟨_,vs.toArray,_,hk,rfl,rfl,rfl,by rw[Yk,Hn];exact hl,by simpa using rv⟩) (λb u z=>by have z':(none:Option HO)=some u:=z;cases z') (λb z=>absurd rfl z) λz=>absurd rfl z
 |none=>
  refine core (λb=>if b=a then some (.dS {cls:=.type "list",data:=.seq vs.toArray} (.lst (ns.map V.int))) else none) (λb=>?_) (.inl (.inr ⟨{cls:=.type "list",data:=.seq vs.toArray},if_pos rfl⟩)) (λb u z=>?_) (λb z=>?_) λ_=>hk
  ·by_cases hb:b=a;·exact .inr ⟨_,_,if_pos hb⟩
   ·exact .inl (if_neg hb)
  ·by_cases hb:b=a
   ·have z':=(if_pos hb).symm.trans z;cases z';subst hb;exact⟨ha,by rw[Ya];exact hl,vs,_,rv,ha⟩
   ·have z':=(if_neg hb).symm.trans z;cases z'
  ·by_cases hb:b=a;·exact hb
   ·exact absurd (if_neg hb) z
theorem EC{l:PySem.W.OpenLaw}{n k:Nat}{q:Program}{loose:List Str}{XP:(Str->Option Value)->Heap->Prop}{YP:World->Heap->Prop}{d:DefRec}{K:Params->af}{CX:World->eD}{sp:World->Sp}{x:Str}
  (hn:l.most=some n)(dF:n<=sizeLine)(mZ:d.params.defaults=[])(hr:bM k callerA)
  (hY:∀(w:World) (h:Heap),YP w h->(K w.params).In h)
  (F:∀(w:World) (mg:aJ) (fa:Addr) (h:Heap),(K w.params).In h->h.Ns mainGlobals mg->mg d.name=some (.ref fa)->
   ∃fd:FuncData,(∀(s:Shared) (u:Value),BindsTo s fd ⟨[u],[]⟩ [(x,u)])/\
    ∀base:Heap,(K w.params).In base->base.Ns mainGlobals mg->aL l.prog w (K w.params) mg base (CX w) k fa fd [x] (sp w))
  (gS:∀(w:World) (H:Hp) (a:Addr) (ns:List Int),ns.length<=n->tM H->ah (K w.params) H a (ns.map V.int)->sp w [.ref a] H (λv _=>v=.bl true) λ_ _ _=>False)
  (um:∀(w:World) (H:Hp) (s:Shared) (e:Value) (s':Shared),CX w [] H s (λ_ _ _=>False) e s'->False):
  PySem.W.WalkO q loose XP YP l.row.toRowW d [] (λf vs=>PySem.call f vs):=by
 refine Az.Cj hn mZ λw bj aG mg mb fa o pm cd doc a vs ns G Y ho hd dD m3 tL hints hlen hg=>?_;have KX:=hY w _ Y;obtain⟨fd,hb,hF⟩:=F w mg fa _ KX G.T.g m3;exact DR KX G.T.g G.T.b G.T.builtins G.T.nolimit hg tL hints (Yx hlen dF) hr hF hb (λH hO hS=>gS w H a ns hlen hO hS) λH e s'=>um w H aG e s'
def inClass(s:Stmt)(j:Nat):Stmt:=match s with
 |.ClassDef _ _ _ body _ _ _ _ _ _ _=>body.getD j (.Pass ⟨0,0,0,0⟩)
 |_=>.Pass ⟨0,0,0,0⟩
def ij(s:Stmt):Arguments:=match s with
 |.FunctionDef _ a _ _ _ _ _ _ _ _=>a
 |_=>{posonlyargs:=[],args:=[],vararg:=none,kwonlyargs:=[],kw_defaults:=[],kwarg:=none,defaults:=[]}
def eV(s:Stmt):List Stmt:=match s with
 |.FunctionDef _ _ b _ _ _ _ _ _ _=>b
 |_=>[]
def aM(s:Stmt):Scope:=match s with
 |.FunctionDef _ _ _ _ _ _ sc _ _ _=>sc
 |_=>{kind:=.function,names:=[],isGenerator:=false,isCoroutine:=false}
abbrev aU:eD:=λ_ _ _ _ _ _=>False
abbrev E0:XK:=λ_ _ _=>False
theorem sV{X:Cx}:Passes aU X E0:=λ_ _ _ _ _ _ _ h=>h.elim
structure aS(K:af)(x qual:Str)(st:Stmt)(f:Addr)(fd:FuncData):Prop where
 ex:∃(oc:Value) (od:Option Addr) (kV doc pm:Value) (an:Option Addr) (a_ ct:Value) (iI:Array (Option Value)),
  fd=fnOf x qual (ij st) (eV st) (aM st) .none kV doc pm an a_ ct/\K.lookup f=some ⟨oc,od,.func fd,iI⟩/\codeIn K a_ qual=true
 kp:keepIn K (.ref f)=true
section
variable {P:Program}{w:World}{K:af}{mg:aJ}{base:Heap}
theorem aS.ok{x qual:Str}{st:Stmt}{f:Addr}{fd:FuncData}{N ps:List Str}{k:Nat}{sp:Sp}(F:aS K x qual st f fd)(S:bc N ps (aM st))(len:∀vs H Q E,sp vs H Q E->vs.length=ps.length)
  (jO:∀(a_:Value) (A:Around) (outer:List Env) (s:Shared) (H:Hp) (vs:List V) (Q:VK) (E:XK),bM k (A.deeper (envOfC qual (aM st) s.heap.objs.size f a_))->sp vs H Q E->
   ∃t,dm (fS aU P w K mg base N qual (aM st) f a_ A outer s H E).mS (eV st) t/\t {nx:=λ_ H'=>Q .aD H',rt:=Q} (start N vs) H):aL P w K mg base aU (k+1) f fd ps sp:=by
 obtain⟨oc,od,kV,doc,pm,an,a_,ct,iI,rfl,lk,dD⟩:=F.ex;refine ze lk dD S len λA outer s H vs Q E hr gS=>?_;obtain⟨t,h,q⟩:=jO a_ A outer s H vs Q E hr gS;exact⟨t,h.mS,q⟩
theorem aS.binds{x qual:Str}{st:Stmt}{f:Addr}{fd:FuncData}{ps:List Str}(F:aS K x qual st f fd)
  (h:∀(kV doc pm:Value) (an:Option Addr) (a_ ct:Value) (us:List Value),us.length=ps.length->bindArgs (fnOf x qual (ij st) (eV st) (aM st) .none kV doc pm an a_ ct) ⟨us,[]⟩=pure (ps.zip us)):Binds K fd ps []:=by
 obtain⟨oc,od,kV,doc,pm,an,a_,ct,iI,rfl,lk,dD⟩:=F.ex;exact .all (h kV doc pm an a_ ct)
theorem l3{x qual:Str}{st:Stmt}{f:Addr}{oc:Value}{od an:Option Addr}{iI:Array (Option Value)}{kV doc pm a_ ct:Value}(l:K.lookup f=some ⟨oc,od,.func (fnOf x qual (ij st) (eV st) (aM st) .none kV doc pm an a_ ct),iI⟩)
  (c:codeIn K a_ qual=true)(k:keepIn K (.ref f)=true):aS K x qual st f (fnOf x qual (ij st) (eV st) (aM st) .none kV doc pm an a_ ct):=⟨⟨oc,od,kV,doc,pm,an,a_,ct,iI,rfl,l,c⟩,k⟩
end
theorem bY{A:Around}{k:Nat}(hr:bM k A):A.units+1<cLine:=Wd (Nat.add_le_add_left (by decide:1<=64) _) hr.units
theorem eR{n:Nat}(h:n<=1000):n<sizeLine:=Wd h (by decide)
section
variable {X:Cx}
theorem pv(i:Nat){x:Str}{pos:Pos}(hN:X.N[i]?=some x:=by rfl)(hv:k_ X.env.scope x:=by first|exact Or.inl rfl|exact Or.inr (Or.inl rfl)|exact Or.inr (Or.inr rfl))(hd:(x==("__debug__":Str))=false:=by decide)
  (dD:(x==("__classdict__":Str))=false:=by decide):PE X (.Name x pos) (fR i):=Fl hN hv hd dD
end
theorem bK{A B:Prop}(h:B):if false=true then A else B:=by
 grind
theorem bN{A B:Prop}(h:A):if true=true then A else B:=by
 grind
theorem aX{c A B:Prop}[Decidable c](h1:c->A)(h2:¬c->B):if c then A else B:=by
 grind
theorem k4{c A B:Prop}[Decidable c](hc:c)(h:B):if(!decide c)=true then A else B:=by
 grind
def aq(H H':Hp):Prop:=∀b o,H b=some o->H' b=some o
theorem aq.refl(H:Hp):aq H H:=λ_ _ h=>h
theorem aq.trans{H H1 H2:Hp}(a:aq H H1)(b:aq H1 H2):aq H H2:=λc o h=>b c o (a c o h)
theorem aq.free{H H':Hp}(e:aq H H'){l:Addr}(h:H' l=Option.none):H l=Option.none:=by
 cases q:H l with
 |none=>rfl
 |some o=>
  rw[e l o q] at h;cases h
theorem aq.seq{K:af}{H H':Hp}{a:Addr}{xs:List V}(e:aq H H')(h:ah K H a xs):ah K H' a xs:=by
 rcases h with(h|⟨o,h⟩)|h;·exact .inl (.inl (e _ _ h))
 ·exact .inl (.inr ⟨o,e _ _ h⟩)
 ·exact .inr h
def i7(cells:List (Str×Addr)):List (Str×Addr)->Prop
 |[]=>True
 |p::r=>cells.lookup p.1=some p.2/\i7 cells r
theorem i7.look:∀{cl:List (Str×Addr)},i7 cells cl->∀(x:Str) (c:Addr),cl.lookup x=some c->cells.lookup x=some c
 |[],_,x,c,h=>by simp at h
 |(n,a)::r,hh,x,c,h=>by
  rw[Jk] at h;cases e:x==n with
  |true=>
   rw[e] at h;rw[(eq_of_beq e),←(Yf h)];exact hh.1
  |false=>
   rw[e] at h;exact i7.look hh.2 x c h
theorem qw{env:Env}:∀{names:List (Str×NameKind)} {x:Str} {k:NameKind},
  (names.map λ(n,k)=>if(k==NameKind.free&&env.scope.kind==.function&&env.kindOf n==some .cell) then(n,NameKind.cell) else(n,k)).lookup x=some k->
  ∃k0,(x,k0)∈names/\(k=k0\/k0=.free)
 |[],_,_,h=>by simp at h
 |(n,k0)::r,x,k,h=>by
  have h:List.lookup x ((if(k0==NameKind.free&&env.scope.kind==.function&&env.kindOf n==some .cell)=true then(n,NameKind.cell) else(n,k0))::(r.map λ(n,k)=>if(k==NameKind.free&&env.scope.kind==.function&&env.kindOf n==some .cell) then(n,NameKind.cell) else(n,k)))=some k:=h;by_cases hc:(k0==NameKind.free&&env.scope.kind==.function&&env.kindOf n==some .cell)=true
  ·rw[if_pos hc,Jk] at h;cases e:x==n with
   |true=>grind
   |false=>
    rw[e] at h;obtain⟨k1,m,q⟩:=qw h
    grind
  ·rw[if_neg hc,Jk] at h;cases e:x==n with
   |true=>grind
   |false=>
    rw[e] at h;obtain⟨k1,m,q⟩:=qw h
    grind
structure yv(X:Cx)(scope:Scope)(cl:List (Str×Addr))(y:Str)(j:Nat):Prop where
 ix:X.N[j]?=some y
 out:X.env.kindOf y=some .cell\/X.env.kindOf y=some .free
 IC:(relabel scope X.env).names.lookup y=some .cell\/(relabel scope X.env).names.lookup y=some .free
 cl:(cl.lookup y).isSome=true
def i8(X:Cx)(scope:Scope)(cl:List (Str×Addr)):List (Str×Nat)->Prop
 |[]=>True
 |p::r=>yv X scope cl p.1 p.2/\i8 X scope cl r
theorem i8.get:∀{fr:List (Str×Nat)} {k:Nat} {p:Str×Nat},i8 X scope cl fr->fr[k]?=some p->yv X scope cl p.1 p.2
 |[],k,p,_,h=>by simp at h
 |q::r,0,p,hh,h=>by
  have e:q=p:=by simpa using h
  rw[←e];exact hh.1
 |q::r,k+1,p,hh,h=>i8.get hh.2 (by simpa using h)
structure kK(X:Cx)(scope:Scope)(cl:List (Str×Addr))(x:Str)(fr:List (Str×Nat)):Prop where
 jX:closureFor scope X.env=pure cl
 sub:i7 X.env.cells cl
 kind:scope.kind=.function
 names:∀y∈scope.names,y.2=.local->scope.names.lookup y.1=some .local
 lx:scope.names.lookup x=some .local
 k6:∀y∈scope.names,y.2≠.cell
 has:(scope.names.all λy=>!(y.2==.free)||(cl.lookup y.1).isSome)=true
 cN:i8 X scope cl fr
 nd:(x::fr.map (·.1)).Nodup
def cw(σ:St)(fr:List (Str×Nat)):St:=fr.map λp=>(σ[p.2]?).join
structure ic(X:Cx)(scope:Scope)(cl:List (Str×Addr))(xs:List Str)(fr:List (Str×Nat)):Prop where
 jX:closureFor scope X.env=pure cl
 sub:i7 X.env.cells cl
 kind:scope.kind=.function
 names:∀y∈scope.names,y.2=.local->scope.names.lookup y.1=some .local
 k6:∀y∈scope.names,y.2≠.cell
 has:(scope.names.all λy=>!(y.2==.free)||(cl.lookup y.1).isSome)=true
 cN:i8 X scope cl fr
 nd:(xs++fr.map (·.1)).Nodup
def aT(X:Cx)(xs:List Str)(fr:List (Str×Nat))(scope:Scope)(cl:List (Str×Addr))(C:Addr)(s:Shared)(H:Hp)(fp:List Addr):Cx where
 prog:=X.prog
 w:=X.w
 K:=X.K
 mg:=X.mg
 base:=X.base
 A:=X.A
 N:=xs++fr.map (·.1)
 bj:=s
 my:=H
 env:=compEnvC scope cl C X.env
 outer:=X.stack
 stack:=X.stack
 ex:=fp
 fn:=λ_=>false
 calm:=X.calm
 pn:=[]
 xe:=λ_ _=>False
section
variable {X:Cx}{scope:Scope}{cl:List (Str×Addr)}{xs:List Str}{fr:List (Str×Nat)}{pins:aB}{σ:St}{H:Hp}{s:Shared}
theorem wF(S:ic X scope cl xs fr)(I:Inv X pins σ H s)(hC:C=s.heap.objs.size)(hf:∀b∈fp,cR X pins H b)(bo:∀b∈fp,b<s.heap.objs.size)
  (old:∀b o,s.heap.get? b=some o->cn.get? b=some o)(hn:cn.Ns C m):Inv (aT X xs fr scope cl C s H fp) [] (List.replicate xs.length none++cw σ fr) H {s with heap:=cn,toks:=tk}:=by
 have look:=S.sub.look;refine⟨⟨I.ok.mod,S.kind,I.ok.glob,I.ok.blt,by show s.heap.objs.size<=C;rw[hC];exact Yc _,λy z c h1 h2=>I.ok.inj y z c (look y c h1) (look z c h2),λy hy=>?_,λy c h=>?_,I.ok.hd,I.ok.frames,.inl rfl,λb hb=>⟨?_,λy c h=>?_⟩,
   I.bs,Yx I.ok.iG I.sz,λb o e hb=>?_,λb hb ID=>?_,I.stack,I.xy⟩,
  rfl,I.bare,Un.kept old,⟨m,hn,λi y v h1 h2 h3=>?_⟩,λy c h=>?_,?_,λy c h=>I.gr y c (look y c h),λp hp=>absurd (show p∈([]:aB) from hp) (by simp),I.aw.kept old,?_⟩
 ·have hy:(relabel scope X.env).names.lookup y=some .cell\/(relabel scope X.env).names.lookup y=some .free:=hy;have fin:∀{k:NameKind},(relabel scope X.env).names.lookup y=some k->(k=.cell\/k=.free)->∃c,cl.lookup y=some c:=λ{k} e hk=>by
   obtain⟨k0,hm,q⟩:=qw (env:=X.env) e;have m4:k0=.free:=by
    rcases q with q|q
    ·rcases hk with z|z;·exact absurd (q.symm.trans z) (S.k6 _ hm)
     ·exact q.symm.trans z
    ·exact q
   have hq:=W5.mp S.has _ hm;rw[m4] at hq;exact Wf.mp (by simpa using hq)
  rcases hy with e|e;·exact fin e (.inl rfl)
  ·exact fin e (.inr rfl)
 ·exact absurd (show false=true from h) Yi
 ·show b≠C;exact λz=>absurd (bo b hb) (by rw[show b=C from z,hC];exact Y4 _)
 ·exact(hf b hb).2.2.2.2.1 y c (look y c h)
 ·obtain⟨_,_,_,z,_⟩:=hf b hb;rcases z with z|z;·exact I.ok.mz b o e z
  ·have h1:=Yj e;have h2:=I.ok.iG;exact absurd (Yn h1 (Yx h2 z)) (Y4 _)
 ·have z:=I.sr b ID;rcases Yu.mp z with z|z;·exact(hf b hb).2.1 z
  ·exact(hf b hb).2.2.1 z
 ·by_cases hi:i<xs.length;·grind
  ·have h1:(xs++fr.map (·.1))[i]?=some y:=h1;rw[Wm (Nat.le_of_not_lt hi)] at h1;rw[Wm (by rw[Yz];exact Nat.le_of_not_lt hi),Yz] at h2;generalize i-xs.length=k at h1 h2;have h2:(fr.map λp=>(σ[p.2]?).join)[k]?=some (some v):=h2;rw[Yd] at h1 h2;cases e:fr[k]? with
   |none=>rw[e] at h1;cases h1
   |some p=>
    rw[e] at h1 h2;have e1:p.1=y:=Yf h1;have e2:(σ[p.2]?).join=some v:=Yf h2;have F:=S.cN.get e;rw[e1] at F;have e3:σ[p.2]?=some (some v):=by
     cases q:σ[p.2]? with
     |none=>rw[q] at e2;cases e2
     |some o=>grind
    obtain⟨m0,_,hl⟩:=I.loc;have ug:k_ X.env.scope y:=by
     rcases F.out with z|z;·exact .inr (.inl z)
     ·exact .inr (.inr z)
    obtain⟨u,r,l⟩:=hl p.2 y v F.ix e3 ug;refine⟨u,r,.inr ⟨F.IC,?_⟩⟩;obtain⟨c,hc⟩:=Wf.mp F.cl;refine⟨c,hc,?_⟩;rcases l with⟨k1,_⟩|⟨_,c',e',z⟩
    ·rcases F.out with q|q;·rw[q] at k1;cases k1
     ·rw[q] at k1;cases k1
    ·have e4:=look y c hc;rw[e'] at e4;cases e4;obtain⟨o,ho,hd⟩:=z;exact⟨o,old _ _ ho,hd⟩
 ·obtain⟨v,o,ho,hd⟩:=I.cell y c (look y c h);exact⟨v,o,old _ _ ho,hd⟩
 ·show H C=none;rw[hC];exact I.aw.fresh (Yc _)
 ·show(List.replicate xs.length none++cw σ fr).length=(xs++fr.map (·.1)).length;simp[cw]
end
abbrev jb(X:Cx)(x:Str)(fr:List (Str×Nat))(scope:Scope)(cl:List (Str×Addr))(C:Addr)(s:Shared)(H:Hp)(fp:List Addr):Cx:=aT X [x] fr scope cl C s H fp
section
variable {prog:Program}{w:World}{A:Around}{R:Result->Shared->Prop}{s:Shared}
theorem BG(I:Nat->Shared->Prop)
  (turn:∀n s,I n s->wpAny (model prog w) A (pyNext it) (λr aG=>match r with
   |none=>R (.ok .next) aG
   |some v=>wpAny (model prog w) A (letOwnedTupleGo target it v) (λ_ bj=>wpAny (model prog w) A (assign target env v) (λ_ cE=>
     wpAny (model prog w) A (forIn ifs true λc r=>if r=true then do let ok←isTrue c env (eval c env);pure (ForInStep.yield ok) else pure (ForInStep.yield r)) (λok bw=>
      if ok=true then wpAny (model prog w) A (eval elt env) (λx cA=>
       wpAny (model prog w) A (call (.builtin "list.append") [acc,x]) (λ_ dQ=>∃m,m<n/\I m dQ) (notedBy (model prog w) A env λe s'=>R (.error e) s') cA) (notedBy (model prog w) A env λe s'=>R (.error e) s') bw
      else ∃m,m<n/\I m bw) (notedBy (model prog w) A env λe s'=>R (.error e) s') cE) (notedBy (model prog w) A env λe s'=>R (.error e) s') bj) (notedBy (model prog w) A env λe s'=>R (.error e) s') aG) (notedBy (model prog w) A env λe s'=>R (.error e) s') s)
  (n:Nat)(h:I n s):codeAny (model prog w) A (.compLoop (.ListComp elt [⟨target,iter,ifs,0⟩] scope pos) 0 it acc env) R s:=by
 refine codeAny_loop rfl I (λn s hI=>wpAny_noted (wpAny_bind (wpAny_standAt (wpAny_bind (wpAny_mono (turn n s hI) (λr aG cn=>?_) λ_ _ h'=>h'))))) n h;cases r with
 |none=>exact wpAny_pure cn
 |some v=>
  refine wpAny_bind (wpAny_mono cn (λ_ bj h₀=>wpAny_bind (wpAny_mono h₀ (λ_ cE fT=>wpAny_bind (wpAny_mono fT (λok bw iB=>?_) λ_ _ h'=>h')) λ_ _ h'=>h')) λ_ _ h'=>h');cases ok with
  |false=>exact wpAny_pure ⟨rfl,iB⟩
  |true=>
   exact wpAny_bind (wpAny_bind (wpAny_mono iB (λx cA jY=>wpAny_bind (wpAny_mono jY (λ_ dQ jZ=>wpAny_pure (wpAny_pure ⟨rfl,jZ⟩)) λ_ _ h'=>h')) λ_ _ h'=>h'))
end
def m5(X:Cx)(ifs:List Expr)(t:TT):Prop:=
 ∀(pins:aB) (s:Shared) (σ:St) (H:Hp) (Q:Bool->Hp->Prop),Inv X pins σ H s->t σ H Q->
  wpAny X.md X.A (forIn ifs true λc r=>if r=true then do let ok←isTrue c X.env (eval c X.env);pure (ForInStep.yield ok) else pure (ForInStep.yield r)) (TP X pins σ Q) X.xe s
def zQ:TT:=λ_ H Q=>Q true H
theorem ik:m5 X [] zQ:=λ_ _ _ H _ I h=>wpAny_tests_nil ⟨H,I,h⟩
def FD(n:Nat)(J:It)(tg:TG)(tt:TT)(te:TE)(fv:St)(D:Addr)(H:Hp)(Q:VK):Prop:=
 ∃W:Nat->Nat->List V->Hp->Prop,(∃m,W 0 m [] (upd H D (.lst [])))/\∀i m ys H,W i m ys H->
  (J.stop i H/\Q (.ref D) H)\/(J.go i H/\∃N:List V->Hp->Prop,(∀cy H',N cy H'->∃m',m'<m/\W (i+1) m' cy H')/\
   ∀v H',J.fV i H v H'->∀os:St,os.length=n->tg v (os++fv) H' λbW H2=>(∃dU:St,dU.length=n/\bW=dU++fv)/\tt bW H2 λc H1=>if c=true then te bW H1 λy H3=>H3 D=some (.lst ys)/\ys.length<sizeLine/\N (ys++[y]) (upd H3 D (.lst (ys++[y]))) else N ys H1)
section
variable {X:Cx}{elt iter tgt:Expr}{xs:List Str}{pos:Pos}{ifs:List Expr}{scope:Scope}{cl:List (Str×Addr)}{fr:List (Str×Nat)}{tg:TG}{tt:TT}{te:TE}{pins:aB}{σ:St}
theorem wZ{H2:Hp}{s2:Shared}{it:Addr}{fp:List Addr}{tn:Nat->Heap->Prop}{J:It}{Q:VK}{RR:Value->Addr->Result->Shared->Prop}{E:aC}{rest:List Comprehension}(S:ic X scope cl xs fr)
  (I2:Inv X pins σ H2 s2)(T:Turn X.prog X.w X.K tgt J fp it tn)(cB:tn 0 s2.heap)(f2:∀b∈fp,cR X pins H2 b)
  (hR:∀D C s1 H1 m,Inv X pins σ H1 s1->s1.heap.Ns C m->H1 C=none->C≠X.env.locals->X.bj.heap.objs.size<=C->(∀y c,X.env.cells.lookup y=some c->c≠C)->(∀p∈X.pn++pins,p.1≠C)->Q (.ref D) H1->RR (.ref D) C (.ok .next) s1)
  (hl:∀(D C:Addr) (s:Shared) (H3:Hp) (bw:Shared),H2 D=none->H3=upd H2 D (.lst [])->Inv (aT X xs fr scope cl C s H3 fp) [] (List.replicate xs.length none++cw σ fr) H3 bw->tn 0 bw.heap->(∀b∈fp,H3 b=none)->
   (∀s6 kd H5,Inv (aT X xs fr scope cl C s H3 fp) [] kd H5 s6->Q (.ref D) H5->RR (.ref D) C (.ok .next) s6)->
   codeAny X.md X.A (.compLoop (.ListComp elt (⟨tgt,iter,ifs,0⟩::rest) scope pos) 0 (.ref it) (.ref D) (compEnvC scope cl C X.env)) (RR (.ref D) C) bw):
  wpAny X.md X.A (newList []) (λacc bw=>wpAny X.md X.A (newFunctionEnv scope X.env.globals cl [] X.env.qual none .none (some X.env)) (λcZ cA=>
   codeAny X.md X.A (.compStart (.ListComp elt (⟨tgt,iter,ifs,0⟩::rest) scope pos) 0 (.ref it) acc {cZ with scope:=relabel scope X.env}) (RR acc cZ.locals) cA) E bw) E s2:=by
 refine wpAny_newObj_type (wpAny_newFunctionEnv S.k6 (by intro y hy;simp at hy) (λcn jI jJ=>?_) S.kind);dsimp only at jI jJ⊢;have I3:Inv X pins σ (upd H2 s2.heap.objs.size (.lst [])) {s2 with heap:=s2.heap.push {cls:=.type "list",dict:=none,data:=.seq ([]:List Value).toArray}}:=
  I2.laid (t':=s2.toks) (λb u e=>Yb _ e) (Yc _) ⟨Yw _,[],0,.nil,Yl _ rfl⟩
 have uo:H2 s2.heap.objs.size=none:=I2.aw.fresh (Yc _);have mF:∀b∈fp,b<s2.heap.objs.size:=λb hb=>by
  obtain⟨o,e,_⟩:=T.obj _ _ cB b hb;exact Yj e
 generalize m6:s2.heap.push {cls:=.type "list",dict:=none,data:=.seq ([]:List Value).toArray}=G2 at jI jJ I3⊢;have hC:G2.objs.size=s2.heap.objs.size+1:=by rw[←m6,Je]
 have old:∀b o,G2.get? b=some o->cn.get? b=some o:=λb o e=>jJ.extBut b o (Yo (Yj e)) (Yb _ e);have f3:∀b∈fp,cR X pins (upd H2 s2.heap.objs.size (.lst [])) b:=λb hb=>by
  have:=mF b hb;exact⟨by rw[aW (Yo this)];exact(f2 b hb).1,(f2 b hb).2⟩
 have uq:∀b∈fp,b<G2.objs.size:=λb hb=>by
  rw[hC];exact Wz (mF b hb)
 have fY:tn 0 cn:=T.keep _ _ _ cB λb hb o e=>old b o ((λb o e=>m6▸Yb _ e) b o e);have I4:Inv (aT X xs fr scope cl G2.objs.size {s2 with heap:=G2} (upd H2 s2.heap.objs.size (.lst [])) fp) [] (List.replicate xs.length none++cw σ fr) (upd H2 s2.heap.objs.size (.lst [])) {s2 with heap:=cn,toks:=s2.toks+([]:List (Str×Value)).length}:=
  wF (tk:=s2.toks+([]:List (Str×Value)).length) S I3 rfl f3 uq old jI
 have loop:=hl s2.heap.objs.size G2.objs.size {s2 with heap:=G2} _ {s2 with heap:=cn,toks:=s2.toks+([]:List (Str×Value)).length} uo rfl I4 fY (λb hb=>(f3 b hb).1) λs6 kd H5 I6 qn=>by
   obtain⟨m,ur,_⟩:=I6.loc;have I7:Inv X pins σ H5 s6:=I3.y4 (ch:=fp) I6.os I6.base I6.aw I6.bare λb hb=>⟨(f2 b hb).2.2.2.1,(f2 b hb).2.1,(f2 b hb).2.2.2.2.1,(f2 b hb).2.2.2.2.2⟩;refine hR _ _ s6 H5 m I7 ur I6.free ?_ ?_ (λy c e z=>?_) (λp hp z=>?_) qn;·exact Jl I3.lt
   ·exact I3.sz
   ·obtain⟨v,q⟩:=I3.cell y c e;exact absurd q.lt (by rw[z];exact Y4 _)
   ·exact absurd (Yj (I3.pin p hp).1) (by rw[z];exact Y4 _)
 exact codeAny_compStart_list loop (T.self _ 0 _ _ _ fY loop)
theorem CP{H2:Hp}{s2:Shared}{it:Addr}{fp:List Addr}{tn:Nat->Heap->Prop}{J:It}{Q:VK}{RR:Value->Addr->Result->Shared->Prop}{E:aC}
  (hc:X.calm=true)(S:ic X scope cl xs fr)(hg:∀C s H fp,PG (aT X xs fr scope cl C s H fp) tgt tg)
  (ht:∀C s H fp,m5 (aT X xs fr scope cl C s H fp) ifs tt)(he:∀C s H fp,PE (aT X xs fr scope cl C s H fp) elt te)
  (I2:Inv X pins σ H2 s2)(T:Turn X.prog X.w X.K tgt J fp it tn)(cB:tn 0 s2.heap)(f2:∀b∈fp,cR X pins H2 b)
  (hw:∀D,H2 D=none->FD xs.length J tg tt te (cw σ fr) D H2 Q)
  (hR:∀D C s1 H1 m,Inv X pins σ H1 s1->s1.heap.Ns C m->H1 C=none->C≠X.env.locals->X.bj.heap.objs.size<=C->(∀y c,X.env.cells.lookup y=some c->c≠C)->(∀p∈X.pn++pins,p.1≠C)->Q (.ref D) H1->RR (.ref D) C (.ok .next) s1):
  wpAny X.md X.A (newList []) (λacc bw=>wpAny X.md X.A (newFunctionEnv scope X.env.globals cl [] X.env.qual none .none (some X.env)) (λcZ cA=>
   codeAny X.md X.A (.compStart (.ListComp elt [⟨tgt,iter,ifs,0⟩] scope pos) 0 (.ref it) acc {cZ with scope:=relabel scope X.env}) (RR acc cZ.locals) cA) E bw) E s2:=by
 refine wZ (rest:=[]) S I2 T cB f2 hR λD C s H3 bw hD e3 I4 fY jm fin=>?_;obtain⟨W,⟨m0,w0⟩,turn⟩:=hw D hD;rw[←e3] at w0;refine BG (λk s'=>∃i ys H' os,os.length=xs.length/\Inv (aT X xs fr scope cl C s H3 fp) [] (os++cw σ fr) H' s'/\tn i s'.heap/\(∀b∈fp,H' b=none)/\W i k ys H') ?_ m0
  ⟨0,[],_,List.replicate xs.length none,Yz,I4,fY,jm,w0⟩
 rintro n s5 ⟨i,ys,H5,os,iJ,I5,fg,gR,w5⟩;have dB:∀{H':Hp},(∀b∈fp,H' b=none)->∀b∈fp,cR (aT X xs fr scope cl C s H3 fp) [] H' b:=λ{H'} hn b hb=>
  ⟨hn b hb,(I5.ok.jh b hb).1,I5.ok.jR b hb,.inl hb,(I5.ok.jh b hb).2,λp hp=>absurd (show p∈([]:aB) from hp) (by simp)⟩
 rcases turn i n ys H5 w5 with⟨stop,qn⟩|⟨go,N,hN,step⟩
 ·refine av (T.done (aT X xs fr scope cl C s H3 fp) rfl rfl rfl hc i [] s5 _ H5 _ I5 (dB gR) fg stop) λr s6 zq=>?_;obtain⟨hr,I6⟩:=zq;subst hr;exact fin _ _ _ I6 qn
 ·refine av (T.item (aT X xs fr scope cl C s H3 fp) rfl rfl rfl hc i [] s5 _ H5 _ I5 (dB gR) fg go) λr s6 zq=>?_;obtain⟨u,hr,h6⟩:=zq;subst hr;refine av h6 λ_ s7 zq=>?_;obtain⟨v,H7,I7,r7,y7,fZ,m7⟩:=zq;have m8:=I7.pinned (dB m7) (T.obj _ _ fZ);refine wpAny_mono (hg _ _ _ _ _ s7 _ H7 v u _ m8 r7 (step v H7 y7 os iJ)) (λ_ s8 zq=>?_) λ_ _ z=>False.elim z;obtain⟨AD,H8,I8,⟨dU,mG,e8⟩,q8⟩:=zq;subst e8;have again:∀{dW:St} {H9:Hp} {s9:Shared} {dX:List V},dW.length=xs.length->Inv (aT X xs fr scope cl C s H3 fp) ([]++ir fp s7.heap) (dW++cw σ fr) H9 s9->N dX H9->
    ∃m,m<n/\∃i ys H' os,os.length=xs.length/\Inv (aT X xs fr scope cl C s H3 fp) [] (os++cw σ fr) H' s9/\tn i s9.heap/\(∀b∈fp,H' b=none)/\W i m ys H':=λ{dW H9 s9 dX} l1 I9 n9=>by
   obtain⟨m',hm,w9⟩:=hN dX H9 n9;refine⟨m',hm,i+1,dX,H9,dW,l1,I9.jD,T.keep _ _ _ fZ λb hb o e=>(I9.pin (b,o) (Yg _ (Yg _ (gh hb e)))).1,λb hb=>?_,w9⟩;obtain⟨o,e,d⟩:=T.obj _ _ fZ b hb;exact(I9.pin (b,o) (Yg _ (Yg _ (gh hb e)))).2.1
  refine wpAny_mono (ht _ _ _ _ _ s8 _ H8 _ I8 q8) (λok s9 zq=>?_) λ_ _ z=>False.elim z;obtain⟨H9,I9,q9⟩:=zq;cases ok with
  |false=>
   rw[if_neg Yi] at q9⊢;exact again mG I9 q9
  |true=>
   rw[if_pos rfl];rw[if_pos rfl] at q9;refine wpAny_mono (he _ _ _ _ _ s9 _ H9 _ I9 q9) (λu1 pG zq=>?_) λ_ _ z=>False.elim z;obtain⟨y,pH,m9,uv,hD,hz,uw⟩:=zq;refine wpAny_mono (lO (X:=aT X xs fr scope cl C s H3 fp) _ pG _ pH (.ref D) [y] _ [u1] (λ_ H'=>N (ys++[y]) H') m9 rfl (.cons uv .nil) ⟨_,ys,y,rfl,rfl,hD,hz,uw⟩) (λ_ pI zq=>?_) λ_ _ z=>False.elim z;obtain⟨_,pJ,lp,_,IE⟩:=zq;exact again mG lp IE
end
def k8(J:It)(tt:TT)(te:TE)(fv:St)(D:Addr)(H:Hp)(Q:VK):Prop:=
 ∃W:Nat->Nat->List V->Hp->Prop,(∃m,W 0 m [] (upd H D (.lst [])))/\∀i m ys H,W i m ys H->
  (J.stop i H/\Q (.ref D) H)\/(J.go i H/\∃N:List V->Hp->Prop,(∀cy H',N cy H'->∃m',m'<m/\W (i+1) m' cy H')/\
   ∀v H',J.fV i H v H'->tt (some v::fv) H' λc H1=>if c=true then te (some v::fv) H1 λy H3=>H3 D=some (.lst ys)/\ys.length<sizeLine/\N (ys++[y]) (upd H3 D (.lst (ys++[y]))) else N ys H1)
section
variable {X:Cx}{elt iter:Expr}{x:Str}{px pos:Pos}{ifs:List Expr}{scope:Scope}{cl:List (Str×Addr)}{fr:List (Str×Nat)}{tt:TT}{te:TE}{pins:aB}{σ:St}
theorem wG{H2:Hp}{s2:Shared}{it:Addr}{fp:List Addr}{tn:Nat->Heap->Prop}{J:It}{Q:VK}{RR:Value->Addr->Result->Shared->Prop}{E:aC}
  (hc:X.calm=true)(S:kK X scope cl x fr)
  (ht:∀C s H fp,m5 (jb X x fr scope cl C s H fp) ifs tt)(he:∀C s H fp,PE (jb X x fr scope cl C s H fp) elt te)
  (I2:Inv X pins σ H2 s2)(T:Turn X.prog X.w X.K (.Name x px) J fp it tn)(cB:tn 0 s2.heap)(f2:∀b∈fp,cR X pins H2 b)
  (hw:∀D,H2 D=none->k8 J tt te (cw σ fr) D H2 Q)
  (hR:∀D C s1 H1 m,Inv X pins σ H1 s1->s1.heap.Ns C m->H1 C=none->C≠X.env.locals->X.bj.heap.objs.size<=C->(∀y c,X.env.cells.lookup y=some c->c≠C)->(∀p∈X.pn++pins,p.1≠C)->Q (.ref D) H1->RR (.ref D) C (.ok .next) s1):
  wpAny X.md X.A (newList []) (λacc bw=>wpAny X.md X.A (newFunctionEnv scope X.env.globals cl [] X.env.qual none .none (some X.env)) (λcZ cA=>
   codeAny X.md X.A (.compStart (.ListComp elt [⟨.Name x px,iter,ifs,0⟩] scope pos) 0 (.ref it) acc {cZ with scope:=relabel scope X.env}) (RR acc cZ.locals) cA) E bw) E s2:=by
 refine CP (xs:=[x]) hc ⟨S.jX,S.sub,S.kind,S.names,S.k6,S.has,S.cN,S.nd⟩ (λC s H fp=>jE (i:=0) S.nd rfl (.inl (lookup_relabel_local S.lx)) (.inr (lookup_relabel_local S.lx))) ht he I2 T cB f2 (λD hD=>?_) hR;obtain⟨W,h0,h⟩:=hw D hD;refine⟨W,h0,λi m ys H p=>?_⟩;rcases h i m ys H p with z|⟨z,N,hN,q⟩;·exact .inl z
 ·refine .inr ⟨z,N,hN,λv H' y os hl=>?_⟩;match os,hl with
  |[o],_=>exact⟨⟨[some v],rfl,rfl⟩,q v H' y⟩
def zg(wi:TI)(fr:List (Str×Nat))(tt:TT)(te:TE):TE:=λσ H Q=>wi σ H λJ H1=>∀D,H1 D=none->k8 J tt te (cw σ fr) D H1 Q
theorem jF(hc:X.calm=true)(S:kK X scope cl x fr)(hi:PI X (.Name x px) iter wi)
  (ht:∀C s H fp,m5 (jb X x fr scope cl C s H fp) ifs tt)(he:∀C s H fp,PE (jb X x fr scope cl C s H fp) elt te)
  (hs:∀x,foldedSetIterable iter X.env x=pure x:=by intro _;rfl):PE X (.ListComp elt [⟨.Name x px,iter,ifs,0⟩] scope pos) (zg wi fr tt te):=by
 intro pins s σ H Q I h;refine wpAny_comprehension_free rfl hs S.jX S.kind S.names (av (hi pins s σ H _ I h) λv s1 h1=>av h1 λj_ s2 h2=>?_);obtain⟨it,fp,tn,J,H2,e,I2,T,cB,f2,hw⟩:=h2;subst e;refine wG (RR:=λacc C=>compPost X.md X.A X.xe none (EP X pins σ Q) acc C) hc S ht he I2 T cB f2 hw ?_;intro D C s1 H1 m I1 hn f0 f1 f3 f4 f5 q;exact⟨m,hn,λh' gU=>⟨.ref D,H1,I1.turned (λb o hb e=>gU.extBut b o hb e) f0 f1 (.inr f3) f4 f5,rfl,q⟩⟩
theorem vV(hc:X.calm=true)(hN:X.N.Nodup)(ux:X.N[i]?=some y)(hy:Loc X.env.scope y)(S:kK X scope cl x fr)(hi:PI X (.Name x px) iter wi)
  (ht:∀C s H fp,m5 (jb X x fr scope cl C s H fp) ifs tt)(he:∀C s H fp,PE (jb X x fr scope cl C s H fp) elt te)
  (uy:swapsWith (.ListComp elt [⟨.Name x px,iter,ifs,0⟩] scope pos) (some (.Name y py)) oV.line X.env=pure true:=by with_unfolding_all rfl)
  (hf:X.fn y=true\/X.env.scope.names.lookup y=some .local:=by first|exact .inl rfl|exact .inr rfl|assumption)
  (hs:∀x,foldedSetIterable iter X.env x=pure x:=by intro _;rfl):PS X (.Assign [.Name y py] (.ListComp elt [⟨.Name x px,iter,ifs,0⟩] scope pos) oV) (jg (zg wi fr tt te) (fO i)):=by
 intro pins s σ H D I h;rw[exec_Assign_Name_used _ _ _ _ uy];refine wpAny_bind (wpAny_standAt (wpAny_bind ?_));show wpAny _ X.A (do let _←comprehension (.ListComp elt [⟨.Name x px,iter,ifs,0⟩] scope pos) scope X.env _ (newList []) false (eval iter X.env) (some (assign (.Name y py) X.env))) _ _ s;refine wpAny_bind (wpAny_mono (wpAny_comprehension_free (use:=some (assign (.Name y py) X.env)) (Q:=λ_ s'=>SP X pins D .next s') rfl hs S.jX S.kind S.names
  (av (hi pins s σ H _ I h) λv s1 h1=>av h1 λj_ s2 h2=>?_)) (λ_ s' hq=>wpAny_pure (wpAny_pure hq)) λ_ _ e=>e)
 obtain⟨it,fp,tn,J,H2,e,I2,T,cB,f2,hw⟩:=h2;subst e;refine wG (Q:=λv H1=>fO i v σ H1 D.nx) (RR:=λacc C=>compPost X.md X.A X.xe (some (assign (.Name y py) X.env)) (λ_ s'=>SP X pins D .next s') acc C) hc S ht he I2 T cB f2 hw ?_;intro Dl C s1 H1 m I1 hn f0 f1 f3 f4 f5 q;show wpAny _ X.A (assign (.Name y py) X.env (.ref Dl)) _ _ s1;refine wpAny_assign_Name (rf I1 hN ux hy (v:=.ref Dl) rfl (λs3 I3 z=>?_) hf);obtain⟨a,sb,ha⟩:=z;have uz:C≠a:=by
  rcases ha with z|z;·rw[z];exact f1
  ·exact λq=>f4 _ _ z q.symm
 refine⟨m,hn.sameBut sb uz,λh' gU=>?_⟩;exact⟨_,H1,I3.turned (t':=s3.toks) (λb o hb e=>gU.extBut b o hb e) f0 f1 (.inr f3) f4 f5,q⟩
end
theorem wH{K:af}{a:Addr}{xs:List V}{tt:TT}{te:TE}{fv:St}{D:Addr}{H:Hp}{Q:VK}(Pv:Nat->List V->Hp->Prop)(h0:Pv 0 [] (upd H D (.lst [])))(hl:∀i ys H,i<=xs.length->Pv i ys H->ah K H a xs)
  (hs:∀i v ys H,xs[i]?=some v->Pv i ys H->tt (some v::fv) H λc H1=>if c=true then te (some v::fv) H1 λy H3=>H3 D=some (.lst ys)/\ys.length<sizeLine/\Pv (i+1) (ys++[y]) (upd H3 D (.lst (ys++[y]))) else Pv (i+1) ys H1)
  (hd:∀ys H,Pv xs.length ys H->Q (.ref D) H):k8 (gQ K a) tt te fv D H Q:=by
 refine⟨λi m ys H=>m=xs.length-i/\i<=xs.length/\Pv i ys H,⟨xs.length,by simp,Yw _,h0⟩,?_⟩;rintro i m ys H ⟨rfl,hi,p⟩;have q:=hl i ys H hi p;by_cases bo:i<xs.length
 ·refine .inr ⟨⟨xs,xs[i],q,by simp[bo]⟩,Pv (i+1),λcy H' p'=>⟨xs.length-(i+1),by omega,rfl,bo,p'⟩,λx H' y=>?_⟩;obtain⟨e,y⟩:=y
  grind
 ·have e:i=xs.length:=by omega
  subst e;exact .inl ⟨⟨xs,q,Yc _⟩,hd ys H p⟩
theorem rE{K:af}{a:Addr}{xs:List V}{tt:TT}{te:TE}{fv:St}{D:Addr}{H:Hp}{Q:VK}(Pv:Nat->List V->Hp->Prop)(h0:Pv 0 [] (upd H D (.lst [])))(hl:∀i ys H,i<=xs.length->Pv i ys H->au K H a xs)
  (hs:∀i v ys H,xs[i]?=some v->Pv i ys H->tt (some v::fv) H λc H1=>if c=true then te (some v::fv) H1 λy H3=>H3 D=some (.lst ys)/\ys.length<sizeLine/\Pv (i+1) (ys++[y]) (upd H3 D (.lst (ys++[y]))) else Pv (i+1) ys H1)
  (hd:∀ys H,Pv xs.length ys H->Q (.ref D) H):k8 (jj K a) tt te fv D H Q:=by
 refine⟨λi m ys H=>m=xs.length-i/\i<=xs.length/\Pv i ys H,⟨xs.length,by simp,Yw _,h0⟩,?_⟩;rintro i m ys H ⟨rfl,hi,p⟩;have q:=hl i ys H hi p;by_cases bo:i<xs.length
 ·refine .inr ⟨⟨xs,xs[i],q,by simp[bo]⟩,Pv (i+1),λcy H' p'=>⟨xs.length-(i+1),by omega,rfl,bo,p'⟩,λx H' y=>?_⟩;obtain⟨e,y⟩:=y
  grind
 ·have e:i=xs.length:=by omega
  subst e;exact .inl ⟨⟨xs,q,Yc _⟩,hd ys H p⟩
theorem lM{lo:Int}{n:Nat}{tt:TT}{te:TE}{fv:St}{D:Addr}{H:Hp}{Q:VK}(Pv:Nat->List V->Hp->Prop)(h0:Pv 0 [] (upd H D (.lst [])))
  (hs:∀i ys H,i<n->Pv i ys H->tt (some (.int (lo+i))::fv) H λc H1=>if c=true then te (some (.int (lo+i))::fv) H1 λy H3=>H3 D=some (.lst ys)/\ys.length<sizeLine/\Pv (i+1) (ys++[y]) (upd H3 D (.lst (ys++[y]))) else Pv (i+1) ys H1)
  (hd:∀ys H,Pv n ys H->Q (.ref D) H):k8 (ka lo n) tt te fv D H Q:=by
 refine⟨λi m ys H=>m=n-i/\i<=n/\Pv i ys H,⟨n,by simp,Yw _,h0⟩,?_⟩;rintro i m ys H ⟨rfl,hi,p⟩;by_cases bo:i<n
 ·refine .inr ⟨bo,Pv (i+1),λcy H' p'=>⟨n-(i+1),by omega,rfl,bo,p'⟩,λx H' y=>?_⟩;obtain⟨e,y⟩:=y
  grind
 ·have e:i=n:=by omega
  subst e;exact .inl ⟨Yc _,hd ys H p⟩
def Hq(K:af)(tl:TE):TI:=λσ H R=>tl σ H λx H1=>∃a,x=.ref a/\((∃xs,ah K H1 a xs)/\R (gQ K a) H1\/(∃xs,au K H1 a xs)/\R (jj K a) H1)
theorem FE(hl:PE X l tl):PI X tg l (Hq X.K tl):=by
 intro pins s σ H R I h;refine av (hl pins s σ H _ I h) λv s1 zq=>?_;obtain⟨x,H1,I1,r1,q1⟩:=zq;obtain⟨a,e,q1⟩:=q1;subst e;cases r1;rcases q1 with⟨⟨xs,hq⟩,q⟩|⟨⟨xs,hq⟩,q⟩
 ·obtain⟨ag,rv,p,hz⟩:=I1.list hq;refine wpAny_pyIter_list p.isList ⟨s1.heap.objs.size,[s1.heap.objs.size],_,_,H1,rfl,I1.kept λb o e=>Yb _ e,wx a _,⟨_,Yl _ rfl,rfl,rfl⟩,λb hb=>?_,q⟩;have e:b=s1.heap.objs.size:=by simpa using hb
  subst e;exact I1.mC (Yc _) (I1.aw.fresh (Yc _))
 ·obtain⟨ag,rv,p,hz⟩:=I1.tuple hq;refine wpAny_pyIter_tuple (show s1.heap.IsTuple a ag.toArray from p) ⟨s1.heap.objs.size,[s1.heap.objs.size],_,_,H1,rfl,I1.kept λb o e=>Yb _ e,vU a _,⟨_,Yl _ rfl,rfl,rfl⟩,λb hb=>?_,q⟩;have e:b=s1.heap.objs.size:=by simpa using hb
  subst e;exact I1.mC (Yc _) (I1.aw.fresh (Yc _))
theorem qG:∀{xs:List V} {us:List Value},xs.length=us.length->(∀(i:Nat) (x:V) (u:Value),xs[i]?=some x->us[i]?=some u->RelV x u)->Vals xs us
 |[],[],_,_=>.nil
 |[],_::_,h,_=>by simp at h
 |_::_,[],h,_=>by simp at h
 |x::xs,u::us,h,k=>.cons (k 0 x u rfl rfl) (qG (by simpa using h) λi y w e1 e2=>k (i+1) y w (by simpa using e1) (by simpa using e2))
theorem vW:∀{bs:List Bool} {us:List Value},Vals (bs.map V.bl) us->us=bs.map Value.bool:=by
 intro bs;induction bs with
 |nil=>intro us r;cases r;rfl
 |cons b bs ih=>
  intro us r;rw[Wu] at r;cases r with
  |cons r t=>
   have e1:_=Value.bool b:=r;rw[e1,ih t];rfl
def a7(n:Nat):List Int:=(List.range n).map λi:Nat=>(i:Int)
theorem cL(n:Nat):(a7 n).length=n:=by simp[a7]
theorem fG(h:i<n):(a7 n)[i]?=some (i:Int):=by
 unfold a7
 grind
theorem DS(bs:List Bool):(List.range bs.length).any (λi=>bs.getD i false)=bs.any id:=by
 rw[Y8,List.any_eq_true,List.any_eq_true];constructor
 ·rintro⟨i,hi,hb⟩;rw[Y6] at hi;have e:bs.getD i false=bs[i]:=by rw[Wa,Ye hi];rfl
  rw[e] at hb;exact⟨bs[i],Wp hi,hb⟩
 ·rintro⟨b,hb,e⟩;obtain⟨i,hi,rfl⟩:=List.mem_iff_getElem.mp hb;refine⟨i,Y6.mpr hi,?_⟩
  grind
theorem DT(bs:List Bool):(List.range bs.length).all (λi=>bs.getD i false)=bs.all id:=by
 rw[Y8,W5,W5];constructor
 ·intro h b hb;obtain⟨i,hi,rfl⟩:=List.mem_iff_getElem.mp hb;simp_all
 ·intro h i hi;rw[Y6] at hi;rw[Wa,Ye hi];exact h _ (Wp hi)
theorem Ck:∀{ns ms:List Int},ns.length=ms.length->(List.range ns.length).all (λj=>ns.getD j 0==ms.getD j 0)=decide (ns=ms):=by
 intro ns ms hl;rw[Y8,W5,decide_eq_true_iff];constructor
 ·intro h;refine List.ext_getElem hl λi h1 h2=>?_;simp_all
 ·grind
section
variable {X:Cx}
def zR(K:af):List V->Hp->VK->Prop:=λxs H Q=>∃(p:Addr) (bs:List Bool),xs=[.ref p]/\ah K H p (bs.map V.bl)/\Q (.bl (bs.any id)) H
def zS(K:af):List V->Hp->VK->Prop:=λxs H Q=>∃(p:Addr) (bs:List Bool),xs=[.ref p]/\ah K H p (bs.map V.bl)/\Q (.bl (bs.all id)) H
theorem BK(hc:X.calm=true):ck X (.builtin "any") (zR X.K):=by
 rintro pins s σ H xs us Q I r ⟨p,bs,rfl,hq,q⟩;obtain⟨u,rfl,rx⟩:=vals1 r;cases rx;obtain⟨ag,r',pl,hz⟩:=I.list hq;have e:=vW r';subst e;have hl:=pl.isList;have bo:p<s.heap.objs.size:=by obtain⟨_,e,_⟩:=hl;exact Yj e
 refine call_any_walk (wpAny_pyIter_list hl ⟨s.heap.objs.size,_,_,_,_,_,λi=>bs.getD i false,rfl,Walks.list (show X.A.in1.handled=none from I.ok.hd hc) s.heap.objs.size p (Yo bo) (bs.map Value.bool).toArray,⟨⟨_,Yl _ rfl,rfl,rfl⟩,hl.push _⟩,?_,λh' tk hk=>?_⟩)
 ·intro i v s' Q' E' hP hQ;have kh:(bs.map Value.bool)[i]?=some v:=by simpa using hP
  rw[Yd] at kh;cases e:bs[i]? with
  |none=>grind
  |some b=>
   rw[e] at kh;have ev:=Yf kh;subst ev;refine wpAny_truthy_bool ?_
   grind
 ·refine⟨.bl (bs.any id),H,I.kept (λb o e=>hk b o (by simpa using Yo (Yj e)) (Yb _ e)),?_,q⟩;show Value.bool _=Value.bool _;have e:(bs.map Value.bool).toArray.size=bs.length:=by simp
  rw[e,DS]
theorem BL(hc:X.calm=true):ck X (.builtin "all") (zS X.K):=by
 rintro pins s σ H xs us Q I r ⟨p,bs,rfl,hq,q⟩;obtain⟨u,rfl,rx⟩:=vals1 r;cases rx;obtain⟨ag,r',pl,hz⟩:=I.list hq;have e:=vW r';subst e;have hl:=pl.isList;have bo:p<s.heap.objs.size:=by obtain⟨_,e,_⟩:=hl;exact Yj e
 refine call_all_walk (wpAny_pyIter_list hl ⟨s.heap.objs.size,_,_,_,_,_,λi=>bs.getD i false,rfl,Walks.list (show X.A.in1.handled=none from I.ok.hd hc) s.heap.objs.size p (Yo bo) (bs.map Value.bool).toArray,⟨⟨_,Yl _ rfl,rfl,rfl⟩,hl.push _⟩,?_,λh' tk hk=>?_⟩)
 ·intro i v s' Q' E' hP hQ;have kh:(bs.map Value.bool)[i]?=some v:=by simpa using hP
  rw[Yd] at kh;cases e:bs[i]? with
  |none=>grind
  |some b=>
   rw[e] at kh;have ev:=Yf kh;subst ev;refine wpAny_truthy_bool ?_
   grind
 ·refine⟨.bl (bs.all id),H,I.kept (λb o e=>hk b o (by simpa using Yo (Yj e)) (Yb _ e)),?_,q⟩;show Value.bool _=Value.bool _;have e:(bs.map Value.bool).toArray.size=bs.length:=by simp
  rw[e,DT]
inductive yw(K:af)(xs:List V)(H:Hp)(Q:VK):Prop
 |mk (x:V) (t:Value) (c:String) (b:Bool) (aE:xs=[x,.ty c]) (aN:dk K H x t) (a9:kitOne K t (.type c)=some b) (bV:Q (.bl b) H):yw K xs H Q
def oW(K:af):List V->Hp->VK->Prop:=λxs H Q=>yw K xs H Q
theorem Cm:ck X (.builtin "isinstance") (oW X.K):=by
 rintro pins s σ H xs us Q I r ⟨x,t,c,b,rfl,ty,e,q⟩;obtain⟨u,w',rfl,rx,ry⟩:=vals2 r;cases ry;exact Dh I rx ty e λtk=>⟨.bl b,H,I.tok tk,rfl,q⟩
theorem vX(hT:T="list"\/T="tuple")
  (ho:s.heap.get? l=some o)(hc:o.cls=.type T)(hd:o.data=.seq ag.toArray n)(hI:IntsAre ag ns)(jq:ag.length<64)(hsz:ag.toArray.size<=sizeLine)
  (h:∀(h1 h':Heap) (out:Array Value) (cK:List Int) (e:Nat),(∀b o,s.heap.get? b=some o->h1.get? b=some o)->(∀b o,h1.get? b=some o->h'.get? b=some o)->h'.get? h1.objs.size=some (seqObj "list" out e)->IntsAre out.toList cK->cK.Perm ns->cK.Pairwise (·<=·)->Q (.ref h1.objs.size) {s with heap:=h'}):
  wpAny (model prog w) A (call (.builtin "sorted") [.ref l]) Q E s:=by
 refine Calls.call_function_entry kind_sorted plain_sorted entry_sorted (args_sorted1 _) (wpAny_bind (wpAny_pure ?_));refine wpAny_bind (wpAny_collect_seq l hT ho hc hd (λh1 kp=>wpAny_bind (wpAny_newList ?_)) hsz);have e1:ag.toArray.toList=ag:=by simp
 rw[e1];have mQ:(h1.push (seqObj "list" ag.toArray 0)).get? h1.objs.size=some (seqObj "list" ag.toArray 0):=Yl _ rfl;refine wpAny_bind (wpAny_holding (wpAny_call_entry slot_list_sort ⟨_,mQ,rfl⟩ entry_list_sort (list_sort_tree mQ hI jq λout cK a1 a2 a3=>⟨_,rfl,?_⟩) (args_list_sort _)));obtain⟨e,he⟩:=sortedHeap_at mQ;exact wpAny_pure ⟨_,rfl,h h1 _ out cK e kp (λb ob hb=>by
  have bo:=Yj hb;rw[sortedHeap_old (Yo bo) (by rw[size_push'];exact Wz bo),Heap.get?_push_ne _ _ _ (Yo bo)];exact hb) he a1 a2 a3⟩
def rW(K:af):List V->Hp->VK->Prop:=λxs H Q=>∃(p:Addr) (ns:List Int),xs=[.ref p]/\(ah K H p (ns.map V.int)\/au K H p (ns.map V.int))/\ns.length<64/\
  ∀(l:Addr) (cK:List Int),H l=none->cK.Perm ns->cK.Pairwise (·<=·)->Q (.ref l) (upd H l (.lst (cK.map V.int)))
theorem Cn:ck X (.builtin "sorted") (rW X.K):=by
 rintro pins s σ H xs us Q I r ⟨p,ns,rfl,hq,jq,q⟩;obtain⟨u,rfl,rx⟩:=vals1 r;cases rx;have fin:∀(h1 h':Heap) (out:Array Value) (cK:List Int) (e:Nat),(∀b o,s.heap.get? b=some o->h1.get? b=some o)->(∀b o,h1.get? b=some o->h'.get? b=some o)->h'.get? h1.objs.size=some (seqObj "list" out e)->IntsAre out.toList cK->cK.Perm ns->cK.Pairwise (·<=·)->
   EP X pins σ Q (.ref h1.objs.size) {s with heap:=h'}:=λh1 h' out cK e kp IF he a1 a2 a3=>by
  have I1:=I.kept (t':=s.toks) kp;refine⟨.ref h1.objs.size,_,I1.laid (o:=.lst (cK.map V.int)) IF (Yc _) ⟨?_,out.toList,e,wD a1,by simpa[seqObj] using he⟩,rfl,q _ cK (I1.aw.fresh (Yc _)) a2 a3⟩;rw[Ya,a2.length_eq];exact W3 (eR (by omega))
 rcases hq with hq|hq
 ·obtain⟨ag,r',pl,hz⟩:=I.list hq;obtain⟨o,n,ho,hc,_,hd⟩:=pl;have hl:=r'.length;rw[Ya] at hl;rw[Ya] at hz;exact vX (.inl rfl) ho hc hd (intsAre_of r') (by omega) (by rw[Yk];omega) fin
 ·obtain⟨ag,r',pl,hz⟩:=I.tuple hq;obtain⟨o,ho,hc,n,hd⟩:=pl;have hl:=r'.length;rw[Ya] at hl;rw[Ya] at hz;exact vX (.inr rfl) ho hc hd (intsAre_of r') (by omega) (by rw[Yk];omega) fin
def xQ:List V->Hp->VK->Prop:=λxs H Q=>∃j:Int,xs=[.int j]/\∀p:Addr,H p=none->Q (.ref p) (upd H p (.eB 0 j))
def w8:List V->Hp->VK->Prop:=λxs H Q=>∃(p:Addr) (n:Nat),xs=[.ref p]/\H p=some (.eB 0 (n:Int))/\n<=1000/\∀l:Addr,H l=none->Q (.ref l) (upd H l (.lst ((a7 n).map V.int)))
def mH(K:af):List V->Hp->VK->Prop:=λxs H Q=>∃(p:Addr) (ys:List V),xs=[.ref p]/\(ah K H p ys\/au K H p ys)/\Q (.int ys.length) H
theorem CQ:ck X (.builtin "len") (mH X.K):=vK
theorem nM:ck X (.type "range") xQ:=by
 rintro pins s σ H xs us Q I r ⟨j,rfl,q⟩;obtain⟨u,rfl,t,rfl⟩:=vals1 r;exact call_range_1 ⟨.ref s.heap.objs.size,_,I.laid (o:=.eB 0 j) (λb o e=>Yb _ e) (Yc _) ⟨_,_,_,Yl _ rfl⟩,rfl,q _ (I.aw.fresh (Yc _))⟩
theorem vI(hc:X.calm=true):ck X (.type "list") w8:=by
 rintro pins s σ H xs us Q I r ⟨p,n,rfl,hp,hn,q⟩;obtain⟨u,rfl,rx⟩:=vals1 r;cases rx;obtain⟨t,u,v,ho⟩:=I.aw p _ hp;refine call_list_range (I.ok.hd hc) ho (small_one (by omega) (by omega) (by omega) (by omega)) (n:=n) (by rw[rangeSize_one];split<;>omega) (by omega) λh' tk Hr c' hk IG zT=>⟨.ref s.heap.objs.size,_,I.laid (o:=.lst ((a7 n).map V.int)) hk (Yc _) ⟨?_,Hr.toList,c',?_,by simpa using IG⟩,rfl,q _ (I.aw.fresh (Yc _))⟩
 ·rw[Ya,cL];exact W3 (eR hn)
 ·refine qG (by rw[Ya,cL];simp[zT.1]) λi x u e1 e2=>?_;obtain⟨t',rfl⟩:=zT.2 i u (by simpa using e2);have hi:i<n:=by
   have:=(Yh.mp e1).1;rw[Ya,cL] at this;exact this
  rw[Yd,fG hi] at e1;have e3:=Yf e1;subst e3;exact⟨t',by rw[show(0:Int)+(i:Int)*1=(i:Int) by omega]⟩
theorem xR{ns:List Int}{ag:List Value}(r:Vals (ns.map V.int) ag){j:Nat}(h:j<ag.length):∃t,ag[j]=.int (ns.getD j 0) t:=by
 have hl:=r.length;rw[Ya] at hl;have hj:j<ns.length:=by omega
 obtain⟨u,hu,t,rfl⟩:=r.get (by rw[Yd,Ye hj];rfl)
 grind
def zU(K:af)(neg:Bool):R2:=λx y H Q=>∃(p q:Addr) (ns ms:List Int),x=.ref p/\y=.ref q/\ah K H p (ns.map V.int)/\ah K H q (ms.map V.int)/\Q (.bl (if neg=true then !decide (ns=ms) else decide (ns=ms))) H
theorem FF(hu:X.A.units<cLine):bx X (compareOp .Eq) (zU X.K false):=by
 rintro pins s σ H x y v u Q I rx ry ⟨p,q,ns,ms,rfl,rfl,h1,h2,k⟩;cases rx;cases ry;obtain⟨ag,r1,p1,z1⟩:=I.list h1;obtain⟨e_,r2,p2,z2⟩:=I.list h2;have l1:=r1.length;have l2:=r2.length;rw[Ya] at l1 l2;by_cases hl:ns.length=ms.length
 ·refine SeqAt.eq_listAt (e:=λj=>ns.getD j 0==ms.getD j 0) p1.isList p2.isList (by simp;omega) hu (λj h1 h2=>?_) (bC I k ?_)
  ·obtain⟨t,e1⟩:=xR r1 (by simpa using h1);obtain⟨t',e2⟩:=xR r2 (by simpa using h2);have iK:ag.toArray[j]=.int (ns.getD j 0) t:=by simpa using e1
   have m_:e_.toArray[j]=.int (ms.getD j 0) t':=by simpa using e2
   rw[iK,m_];exact SeqAt.EqAt.int_int _ _ _ _
  ·rw[if_neg Yi,Yk,←l1,Ck hl]
 ·refine SeqAt.eq_list_lengthsAt p1.isList p2.isList (by simp;omega) hu (bC I k ?_)
  grind
theorem gm(M:St->Hp->Prop)(h1:∀nx:St->Hp->Prop,(∀σ H,M σ H->nx σ H)->t {D with nx:=nx} σ H)(h2:∀σ H,M σ H->u D σ H):mB t u D σ H:=h1 _ h2
theorem cQ(hg:Gl X x)(hm:X.mg x=none)(hv:bootBuiltins x=some (.type T))(hn:x≠"__name__":=by decide)(hd:(x==("__debug__":Str))=false:=by decide):PE X (.Name x pos) (tC (.ty T)):=En hg hm hv rfl hn hd
end
def HasFn(P:Program)(w:World)(K:af)(mg:aJ)(base:Heap)(k:Nat)(x:Str)(ps:List Str)(sp:Sp):Prop:=
 ∃f fd,aL P w K mg base aU k f fd ps sp/\Binds K fd ps []/\keepIn K (.ref f)=true/\mg x=some (.ref f)
section
variable {P:Program}{w:World}{K:af}{mg:aJ}{base:Heap}{X:Cx}{k j:Nat}{sp:Sp}{x:Str}{ps:List Str}
theorem sW(h:HasFn X.prog X.w X.K X.mg X.base k x ps sp)(hr:bM j X.A)(hj:k<=j)(hg:Gl X x)(ha:PA X (e::es) t)
  (eE:(x==("__debug__":Str))=false:=by decide)(he:fU X e es:=by rfl)(cI:gw X pos es:=by rfl):
  PE X (.Call (.Name x p) (e::es) [] pos) (sS sp [] E0 t):=by
 obtain⟨f,fd,F,b,kp,m⟩:=h;exact Et F (hr.mono hj) hg m kp b .nil sV ha eE he cI
theorem bh(h:H p=none)(o:HO):aq H (upd H p o):=λb u q=>by rw[aW (bE q h)];exact q
theorem aq.dY(e:aq H H')(h:au K H a xs):au K H' a xs:=by
 rcases h with(h|⟨o,h⟩)|h;·exact .inl (.inl (e _ _ h))
 ·exact .inl (.inr ⟨o,e _ _ h⟩)
 ·exact .inr h
theorem DU(h:X.K=K):dq X (mE K):=h▸rT
theorem ED(h:X.K=K):dq X (oR K):=h▸yt
theorem EE(h:X.K=K):ck X (.builtin "isinstance") (oW K):=h▸Cm
theorem Hs(h:X.K=K):ck X (.builtin "len") (mH K):=h▸CQ
theorem gu(h:Q true H):zQ σ H Q:=h
theorem aR(h:n σ H):y6 ⟨n,rt,bk,ct⟩ σ H:=h
theorem fN(M:St->Hp->Prop)(h1:∀nx:St->Hp->Prop,(∀σ H,M σ H->nx σ H)->tq c a b {D with nx:=nx} σ H)(h2:∀σ H,M σ H->u D σ H):mB (tq c a b) u D σ H:=h1 _ h2
theorem FG(x:Int)(h0:0<m)(h1:m<=2^62):-(2^64)<x % m/\x % m<2^64:=by
 have a:=Y0 x (Jn h0);have b:=Yv x h0;omega
theorem vY:∀(l:List α) (k:Nat) (h:k<l.length),l.Perm (l[k]::l.eraseIdx k)
 |[],k,h=>absurd h (Nat.not_lt_zero k)
 |a::r,0,_=>List.Perm.refl _
 |a::r,k+1,h=>(List.Perm.cons a (vY r k (Nat.lt_of_succ_lt_succ h))).trans (List.Perm.swap _ _ _)
theorem wI(f:α->β):∀(l:List α) (k:Nat),(l.map f).eraseIdx k=(l.eraseIdx k).map f
 |[],_=>rfl
 |_::_,0=>rfl
 |a::r,k+1=>by
  show f a::(r.map f).eraseIdx k=f a::(r.eraseIdx k).map f;rw[wI f r k]
theorem sv{n:Nat}{i:Int}(h0:0<=i)(h1:i<n):eF n i=some i.toNat:=by
 unfold eF
 grind
theorem oH{ns:List Int}{i:Int}(h0:0<=i)(h1:i<ns.length):cJ (ns.map V.int) i=some (.int (ns.getD i.toNat 0)):=by
 have e:i=((i.toNat:Nat):Int):=by omega
 rw[e];refine fJ ?_
 grind
theorem lT{ns:List Int}{i:Nat}{y:V}(h:(ns.map V.int)[i]?=some y):∃z,y=.int z/\ns[i]?=some z:=by
 rw[Yd] at h;cases e:ns[i]? with
 |none=>grind
 |some z=>grind
theorem w_(ns:List Int)(z:Int):ns.map V.int++[V.int z]=(ns++[z]).map V.int:=by simp
theorem xa(ns:List Int)(lo hi:Option Int):∃ms:List Int,jW (ns.map V.int) lo hi=ms.map V.int:=by
 refine⟨(ns.drop (HT.dn ns.length 0 lo)).take (HT.dn ns.length ns.length hi-HT.dn ns.length 0 lo),?_⟩;unfold jW;simp_all
end
theorem yx:bootBuiltins "abs"=some (.builtin "abs"):=by decide+kernel
theorem yy:bootBuiltins "any"=some (.builtin "any"):=by decide+kernel
theorem FH:bootBuiltins "all"=some (.builtin "all"):=by decide+kernel
theorem yz:bootBuiltins "len"=some (.builtin "len"):=by decide+kernel
theorem Dm:bootBuiltins "sorted"=some (.builtin "sorted"):=by decide+kernel
theorem BU:bootBuiltins "isinstance"=some (.builtin "isinstance"):=by decide+kernel
theorem gn:bootBuiltins "list"=some (.type "list"):=by decide+kernel
theorem eS:bootBuiltins "tuple"=some (.type "tuple"):=by decide+kernel
theorem lR:bootBuiltins "range"=some (.type "range"):=by decide+kernel
theorem jG:bootBuiltins "bool"=some (.type "bool"):=by decide+kernel
theorem sy:bootBuiltins "int"=some (.type "int"):=by decide+kernel
theorem l4:bootBuiltins "str"=some (.type "str"):=by decide+kernel
def Bd(d p:Int):Prop:=0<=d/\d<p
inductive xb(K:af)(vs:List V)(H:Hp)(Q:VK):Prop
 |mk (a:Addr) (ns:List Int) (k:Int) (aE:vs=[.ref a,.int k]) (aN:ah K H a (ns.map V.int)) (a9:0<=k) (bV:∀c:Int,Q (.int c) H):xb K vs H Q
def sA(K:af):Sp:=λvs H Q _=>xb K vs H Q
inductive wJ(K:af)(vs:List V)(H:Hp)(Q:VK):Prop
 |mk (c:Int) (a:Addr) (ps:List Int) (aE:vs=[.int c,.ref a]) (aN:ah K H a (ps.map V.int)) (a9:(∀p∈ps,0<p/\p<1073741824)) (bV:ps.length<=60) (cO:∀(l:Addr) (ds:List Int) (H':Hp),H l=none->aq H H'->H' l=some (.lst (ds.map V.int))->Paired Bd ds ps->Q (.ref l) H'):wJ K vs H Q
def kO(K:af):Sp:=λvs H Q _=>wJ K vs H Q
inductive xc(vs:List V)(H:Hp)(Q:VK):Prop
 |mk (c:Int) (n:Nat) (aE:vs=[.int c,.int (n:Int)]) (aN:n<=60) (a9:∀(t:Addr) (ns:List Int) (H':Hp),H t=none->aq H H'->H' t=some (.tup (ns.map V.int))->ns.Perm (a7 n)->Q (.ref t) H'):xc vs H Q
def yA:Sp:=λvs H Q _=>xc vs H Q
theorem rX(ho:PE X o to)(hi:PE X i ti)(hs:jT X t)(he:PE X e te)
  (h1:swapsWithSole [.Subscript o i tp] e pos.line X.env=pure false:=by rfl)(h2:swappedStores [.Subscript o i tp] e X.env=pure none:=by rfl)
  (h3:(assignEach [.Subscript o i tp] X.env).map (·.2)=[assign (.Subscript o i tp) X.env]:=by rfl)
  (ha:∀v,assign (.Subscript o i tp) X.env v=(do
   let ov←holding [v] (eval o X.env);let iv←holding [v,ov] (eval i X.env)
   standAt tp
   holding [v,ov,iv] (setItem ov iv v)
   release [v,ov,iv] []):=by intro _;rfl):PS X (.Assign [.Subscript o i tp] e pos) (jg te (zH to ti t)):=ja he (Fo ho hi hs ha) h1 h2 h3
def zV(h:Heap)(a C:Addr)(d:Option Addr)(vs:Array Value):Prop:=∃oe:Obj,h.get? a=some oe/\oe.cls=.ref C/\oe.dict=d/\oe.data=.fields vs/\1<vs.size
def xo(a C:Addr)(d:Option Addr):HO:=.ext λh=>∃vs,zV h a C d vs
def IH(lo:Nat)(H:Hp)(h:Heap)(vs:Array Value):Prop:=
 vs[1]?=some Value.none\/∃T oT ts,vs[1]?=some (Value.ref T)/\lo<=T/\H T=none/\h.get? T=some oT/\oT.data=.fields ts/\ts[3]?=some Value.none
inductive zh(P:Program)(w:World)(outer:List Env)(H:Hp)(s:Shared)(E:XK)(e:Value)(s':Shared):Prop
 |mk (a C d:Addr) (H':Hp) (vs:Array Value) (aE:e=.ref a) (aN:s.heap.objs.size<=a) (a9:s'.os=s.os) (bV:AllBare s'.gens) (cO:Un (cN outer) [] H H' s.heap s'.heap) (iH:bQ P w H' s'.heap) (nc:H' a=some (xo a C (some d))) (ng:zV s'.heap a C (some d) vs) (pK:IH s.heap.objs.size H' s'.heap vs) (II:E (.ref C) (some d) H'):zh P w outer H s E e s'
def gW(P:Program)(w:World):eD:=λouter H s E e s'=>zh P w outer H s E e s'
section
variable {M:Model}{A:Around}{Er:aC}{s:Shared}
end
section
variable {P:Program}{w:World}{A:Around}{Er:aC}
end
section
variable {P:Program}{w:World}{K:af}{mg:aJ}{base:Heap}{N:List Str}{qual:Str}{scope:Scope}{f:Addr}{cd:Value}{A:Around}{outer:List Env}{s:Shared}{H:Hp}{E:XK}
theorem tN:PassesOwn (model P w) (fS (gW P w) P w K mg base N qual scope f cd A outer s H E).A (fS (gW P w) P w K mg base N qual scope f cd A outer s H E).env (fS (gW P w) P w K mg base N qual scope f cd A outer s H E).xe:=
 λe s' h=>PassesOwn.leaving (Q₁:=λe ke=>gW P w outer H s E e ke) e s' h
end
section
variable {X:Cx}{k j:Nat}{f C:Addr}{fd:FuncData}{ps:List Str}{sp:Sp}{cH:List V}{ds:List Value}{E:St->XK}{x m:Str}{p pos apos:Pos}{e o:Expr}{es:List Expr}{ta:TE}{t:TA}
end
section
variable {P:Program}{w:World}{K:af}{mg:aJ}{base:Heap}
theorem aS.IJ{x qual:Str}{st:Stmt}{f:Addr}{fd:FuncData}{N ps:List Str}{k:Nat}{sp:Sp}(F:aS K x qual st f fd)(S:bc N ps (aM st))(len:∀vs H Q E,sp vs H Q E->vs.length=ps.length)
  (jO:∀(a_:Value) (A:Around) (outer:List Env) (s:Shared) (H:Hp) (vs:List V) (Q:VK) (E:XK),bM k (A.deeper (envOfC qual (aM st) s.heap.objs.size f a_))->sp vs H Q E->
   ∃t,dm (fS (gW P w) P w K mg base N qual (aM st) f a_ A outer s H E) (eV st) t/\t {nx:=λ_ H'=>Q .aD H',rt:=Q} (start N vs) H):aL P w K mg base (gW P w) (k+1) f fd ps sp:=by
 obtain⟨oc,od,kV,doc,pm,an,a_,ct,iI,rfl,lk,dD⟩:=F.ex;exact ze lk dD S len λA outer s H vs Q E hr gS=>jO a_ A outer s H vs Q E hr gS
end
section
variable {prog:Program}{w:World}{A:Around}{E:aC}{h:Heap}{g:Array GenState}{d:Drawn}{t:Nat}{os:OsState}
variable {nm q:Str}{C N:Addr}{bs bm:List Value}{LY:Bool}{sn:List Str}{sub:List Value}{ab:Bool}{col:Option Bool}{dd:Option Addr}{k0 k1 k2 k3 k5:Option Value}
local macro_rules|`(tactic|walk_at "vlu")=>`(tactic|exact PySem.F.excBase_ValueError)
end
end L2
namespace L2
open PySem PySem.Spec PyProof.Rows
open PySem.W (Looks InstAt looks_findIn looks_typeIn looks_clsIn looks_mroIn looks_find findObj findIn mroIn clsIn)
section
variable {prog:Program}{w:World}{A:Around}{E:aC}{s:Shared}{K:af}{x C:Addr}{ox:Obj}{od:Option Obj}{name:Str}
end
section
variable {prog:Program}{w:World}{A:Around}{E:aC}{s:Shared}{K:af}{x C:Addr}{name:Str}{nV v:Value}{b:Bool}{tk:Tok}
end
section
variable {X:Cx}{o e value:Expr}{f:Str}{pos pos':Pos}{ta tv:TE}
end
section
variable {X:Cx}{CX:eD}{k:Nat}{f C:Addr}{fd:FuncData}{ps:List Str}{sp:Sp}{cH:List V}{ds:List Value}{E:XK}{x m:Str}{p pos apos:Pos}{e:Expr}{es:List Expr}{t:TA}
end
section
variable {M:Model}{A:Around}{E:aC}{s:Shared}{K:af}{a C:Addr}
end
section
variable {X:Cx}{x:Str}{p pos apos:Pos}{e:Expr}{es:List Expr}{t:TA}
end
section
variable {X:Cx}{k:Nat}{f C:Addr}{fd:FuncData}{ps:List Str}{sp:Sp}{cH:List V}{ds:List Value}{E:St->XK}{x:Str}{p pos dC:Pos}{e:Expr}{es:List Expr}{t:TA}
end
section
variable {X:Cx}{pins:aB}{σ:St}{H:Hp}{s:Shared}
end
section
variable {M:Model}{A:Around}{E:aC}{s:Shared}{K:af}{a C B:Addr}{d:Option Addr}{vs:Array Value}
end
section
variable {X:Cx}{B:Addr}{i:Nat}{n x:Str}{body LN:List Stmt}{b0:Stmt}{px hp pos:Pos}{tb:(St->XK)->TS}{th:TS}
end
section
variable {X:Cx}{e:Expr}{te:TE}{pos:Pos}
end
section
variable {X:Cx}{e e2:Expr}{es:List Expr}{te:TE}{t:TJ}{pos:Pos}
end
end L2
namespace L2
open PySem PySem.Spec PyProof.Rows
structure Bl(mg:aJ):Prop where
 zi:mg "len"=none
 GC:mg "abs"=none
 gq:mg "list"=none
 dv:mg "range"=none
 eW:mg "tuple"=none
 zj:mg "any"=none
 GD:mg "all"=none
 B5:mg "isinstance"=none
 jK:mg "bool"=none
 sX:mg "int"=none
 mq:mg "str"=none
 DV:mg "sorted"=none
 LO:mg "min"=none
 LP:mg "max"=none
 LQ:mg "sum"=none
 LI:mg "dict"=none
 LB:mg "reversed"=none
 Lx:mg "ValueError"=none
theorem zW{X:Cx}{K:af}(hc:X.calm=true)(h:X.K=K):ck X (.builtin "any") (zR K):=h▸BK hc
theorem Ht{X:Cx}{K:af}(hc:X.calm=true)(h:X.K=K):ck X (.builtin "all") (zS K):=h▸BL hc
theorem sortedK{X:Cx}{K:af}(h:X.K=K):ck X (.builtin "sorted") (rW K):=h▸Cn
theorem yB{X:Cx}{K:af}(h:X.K=K):bx X (compareOp .NotIn) (Ax K true):=h▸B3
theorem xS{X:Cx}{K:af}(h:X.K=K):dq X (uj K):=h▸Fv
section
variable {P:Program}{w:World}{K:af}{mg:aJ}{base:Heap}
end
theorem sC{K:af}:kitOne K (.type "int") (.type "int")=some true:=by kernel_rfl
theorem kW{K:af}:kitOne K (.type "int") (.type "bool")=some false:=by kernel_rfl
theorem yC{K:af}:kitOne K (.type "bool") (.type "bool")=some true:=by kernel_rfl
theorem FI{K:af}:kitOne K (.type "str") (.type "bool")=some false:=by kernel_rfl
theorem FJ{K:af}:kitOne K (.type "str") (.type "int")=some false:=by kernel_rfl
theorem yD{K:af}:kitOne K (.type "str") (.type "str")=some true:=by kernel_rfl
theorem FK{K:af}:kitOne K (.type "list") (.type "bool")=some false:=by kernel_rfl
theorem FL{K:af}:kitOne K (.type "list") (.type "int")=some false:=by kernel_rfl
theorem FN{K:af}:kitOne K (.type "list") (.type "str")=some false:=by kernel_rfl
theorem yE{K:af}:kitOne K (.type "list") (.type "list")=some true:=by kernel_rfl
theorem FO{K:af}:kitOne K (.type "list") (.type "tuple")=some false:=by kernel_rfl
theorem FP{K:af}:kitOne K (.type "tuple") (.type "bool")=some false:=by kernel_rfl
theorem FQ{K:af}:kitOne K (.type "tuple") (.type "int")=some false:=by kernel_rfl
theorem FR{K:af}:kitOne K (.type "tuple") (.type "str")=some false:=by kernel_rfl
theorem FT{K:af}:kitOne K (.type "tuple") (.type "list")=some false:=by kernel_rfl
theorem sD{K:af}:kitOne K (.type "tuple") (.type "tuple")=some true:=by kernel_rfl
theorem rj(ns:List Int)(o:Option Int):(ns++o.toList).map V.int=ns.map V.int++o.toList.map V.int:=by simp
inductive Dt where
 |aD|bl (b:Bool)|int (i:Int)|str (x:Str)|lst (ds:List Dt)|tup (ds:List Dt)
def At(H:Hp):Nat->V->Dt->Prop
 |_,v,.aD=>v=.aD
 |_,v,.bl b=>v=.bl b
 |_,v,.int i=>v=.int i
 |_,v,.str x=>v=.str x
 |0,_,.lst _=>False
 |0,_,.tup _=>False
 |m+1,v,.lst ds=>∃a xs,v=.ref a/\H a=some (.lst xs)/\ds.length<=1000/\Paired (At H m) xs ds
 |m+1,v,.tup ds=>∃a xs,v=.ref a/\H a=some (.tup xs)/\ds.length<=1000/\Paired (At H m) xs ds
theorem At.same(g:aq H H'):∀{m:Nat} {v:V} {d:Dt},At H m v d->At H' m v d
 |_,_,.aD,h=>by unfold At at h⊢;exact h
 |_,_,.bl _,h=>by unfold At at h⊢;exact h
 |_,_,.int _,h=>by unfold At at h⊢;exact h
 |_,_,.str _,h=>by unfold At at h⊢;exact h
 |0,_,.lst _,h=>by unfold At at h;exact h.elim
 |0,_,.tup _,h=>by unfold At at h;exact h.elim
 |m+1,_,.lst _,h=>by
  obtain⟨a,xs,e,h1,h2,h3⟩:=h;exact⟨a,xs,e,g _ _ h1,h2,L2.Paired.cD h3 λ_ _ z=>At.same g z⟩
 |m+1,_,.tup _,h=>by
  obtain⟨a,xs,e,h1,h2,h3⟩:=h;exact⟨a,xs,e,g _ _ h1,h2,L2.Paired.cD h3 λ_ _ z=>At.same g z⟩
section
variable {H:Hp}{m:Nat}
theorem zk(b:Bool):At H m (.bl b) (.bl b):=by unfold At;rfl
end
theorem fC:∀{xs:List α} {ys:List β} {i:Nat} {x:α},Paired F xs ys->xs[i]?=some x->∃y,ys[i]?=some y/\F x y:=by
 intro xs ys i x h;induction h generalizing i with
 |nil=>intro e;simp at e
 |cons r t ih=>
  intro e;cases i with
  |zero=>
   have e:=Yf (show some _=some _ by simpa using e);subst e;exact⟨_,rfl,r⟩
  |succ i=>
   obtain⟨y,h1,h2⟩:=ih (i:=i) (by simpa using e);exact⟨y,by simpa using h1,h2⟩
theorem di:∀{xs:List α} {ys:List β},Paired F xs ys->xs.length=ys.length:=by
 intro xs ys h;induction h with
 |nil=>rfl
 |cons _ _ ih=>rw[Y2,Y2,ih]
theorem xf{α:Type}{xs:List α}{i:Nat}{x:α}(h:xs[i]?=some x):cJ xs (0+(i:Int))=some x:=by
 rw[show(0:Int)+(i:Int)=(i:Int) from by omega];exact fJ h
def EF:List V->Hp->VK->Prop:=λxs H Q=>∃(p:Addr) (n:Nat),xs=[.ref p]/\H p=some (.eB 0 (n:Int))/\n<=1000/\∀l:Addr,H l=none->Q (.ref l) (upd H l (.tup ((a7 n).map V.int)))
section
variable {prog:Program}{w:World}{A:Around}{E:aC}{s:Shared}
theorem Co{Q:List Value->Shared->Prop}{r:Addr}{n:Nat}{t u v:Tok}(hh:A.handled=none)(hr:IsRange s.heap r 0 (n:Int) 1 t u v)(hn:n<=1000)
  (k:∀h' tk (acc:Array Value),(∀b o,s.heap.get? b=some o->h'.get? b=some o)->ItemsOf (λi v=>∃t,v=.int (0+i*1) t) acc n->Q acc.toList {s with heap:=h',toks:=tk}):
  wpAny (model prog w) A (collect (.ref r)) Q E s:=by
 refine wpAny_bind (wpAny_runValue (codeAny_builtin PySem.F.entry_proto_collect (wpAny_bind (wpAny_newObj_type (wpAny_pure ⟨plainId_quiet PySem.F.plain_list_iadd _,codeAny_builtin PySem.F.entry_list_iadd ?_⟩)))));have zl:∀s':Shared,(∃(h':Heap) (tk:Nat) (acc:Array Value) (c:Nat),s'={s with heap:=h',toks:=tk}/\(∀b o,b≠s.heap.objs.size->(s.heap.push {cls:=.type "list",data:=.seq ([]:List Value).toArray}).get? b=some o->h'.get? b=some o)/\
   h'.get? s.heap.objs.size=some {cls:=.type "list",dict:=none,data:=.seq acc c,slots:=#[]}/\ItemsOf (λi v=>∃t,v=.int (0+i*1) t) acc n)->
   wpAny (model prog w) A (match Value.ref s.heap.objs.size with
    |Value.ref a=>do
     match(←load a).data with
      |Data.seq xs _=>pure xs.toList
      |_=>unsupported "internal:collect"
    |_=>unsupported "internal:collect") Q E s':=by
  rintro s' ⟨h',tk,acc,c,rfl,kp,here,ag⟩;exact wpAny_bind (wpAny_load here (wpAny_pure (k h' tk acc (λb o hb=>kp b o (Yo (Yj hb)) (Yb _ hb)) ag)))
 refine wpAny_mono (wpAny_extend_range (s:={s with heap:=s.heap.push {cls:=.type "list",data:=.seq ([]:List Value).toArray}})
  (R:=λr s'=>r=.ok (.ret (.ref s.heap.objs.size))/\∃(h':Heap) (tk:Nat) (acc:Array Value) (c:Nat),s'={s with heap:=h',toks:=tk}/\(∀b o,b≠s.heap.objs.size->(s.heap.push {cls:=.type "list",data:=.seq ([]:List Value).toArray}).get? b=some o->h'.get? b=some o)/\
   h'.get? s.heap.objs.size=some {cls:=.type "list",dict:=none,data:=.seq acc c,slots:=#[]}/\ItemsOf (λi v=>∃t,v=.int (0+i*1) t) acc n)
  hh (Yb _ hr) (small_one (by omega) (by omega) (by omega) (by omega)) (by rw[rangeSize_one];split<;>omega) (by omega) _ _ 0 (Yl _ rfl) λh' tk acc c kp here ag=>⟨rfl,h',tk,acc,c,rfl,kp,here,ag⟩) (λfin s' z=>?_) λe s' z=>?_
 ·cases fin with
  |done f=>obtain⟨q,x⟩:=z;cases q;exact zl _ x
  |again c'=>exact⟨z.1,codeAny_mono z.2 λr ke hr=>by obtain⟨rfl,hz⟩:=hr;exact zl ke hz⟩
 ·cases z.1
theorem EG(r:Addr)(n:Nat)(t u v:Tok)(hn:n<=1000):
  Meets (Builtin.«tuple.__new__» ⟨[.type "tuple",.ref r],[]⟩) (λA R s=>A.handled=none/\IsRange s.heap r 0 (n:Int) 1 t u v/\∀(h':Heap) (tk:Nat) (acc:Array Value),(∀b o,s.heap.get? b=some o->h'.get? b=some o)->ItemsOf (λi v=>∃t,v=.int (0+i*1) t) acc n->
   R (.ok (.ret (.ref h'.objs.size))) {s with heap:=h'.push {cls:=.type "tuple",data:=.seq acc},toks:=tk}):=
 .of_wp λprog w A R s h=>by
  obtain⟨hp,g,d,tk,os⟩:=s;obtain⟨hh,ht,q⟩:=h;have sub:=sub_tuple_self;have L9:=init_tuple_lookup;have mh:=madeHere_tuple;have IK:A.in1.handled=none:=hh
  wp_walk using PySem.AutoSeq1.wpAny_loadPart' ht,wpAny_typeOf ty,Co (A:=A.in1) IK ht hn
  intro h' IL acc kp ag;show wpAny _ _ (Builtin.Tuple.tupleExact acc.toList.toArray>>=λv=>ret v) _ _ _;unfold Builtin.Tuple.tupleExact;have lz:acc.toList.toArray.size<=sizeLine:=by
   have e:=ag.1;rw[sizeLine_eq];simp;omega
  refine wpAny_bind (wpAny_newObj_type (wpAny_pure ⟨_,rfl,?_⟩) lz);have e:acc.toList.toArray=acc:=by simp
  rw[e];exact q h' IL acc kp ag
end
theorem vG(hc:X.calm=true):ck X (.type "tuple") EF:=by
 intro pins s σ H xs us Q I r h;obtain⟨p,n,rfl,hp,hn,q⟩:=h;obtain⟨u,rfl,rx⟩:=vals1 r;cases rx;obtain⟨t,u,v,ho⟩:=I.aw p _ hp;refine callType_new PySem.F.called_tuple (by decide) (PySem.F.typeCall_tuple_1 _) (PySem.F.newCall_tuple_1 _) (λobj=>PySem.F.args_object_init_2 obj _) PySem.F.entry_tuple_new (EG p n t u v hn) ⟨I.ok.hd hc,ho,λh' tk acc kp ag=>⟨⟨_,Yl _ rfl,rfl⟩,?_⟩⟩;have I1:=I.kept (t':=tk) kp;have vs:Vals ((a7 n).map V.int) acc.toList:=by
  refine qG (by rw[Ya,cL];simp[ag.1]) λi x u e1 e2=>?_;obtain⟨t',rfl⟩:=ag.2 i u (by simpa using e2);have hi:i<n:=by
   have:=(Yh.mp e1).1;rw[Ya,cL] at this;exact this
  rw[Yd,fG hi] at e1;have e3:=Yf e1;subst e3;exact⟨t',by rw[show(0:Int)+(i:Int)*1=(i:Int) by omega]⟩
 have I2:Inv X pins σ (upd H h'.objs.size (.tup ((a7 n).map V.int))) {s with heap:=h'.push {cls:=.type "tuple",data:=.seq acc},toks:=tk}:=
  I1.laid (t':=tk) (λb o e=>Yb _ e) (Yc _) (show bP X.prog X.w _ _ _ (.tup _) from⟨by rw[Ya,cL];exact W3 (eR hn),acc.toList,vs,by simpa using gp.new h' acc⟩)
 exact⟨.ref h'.objs.size,_,I2,rfl,q _ (I1.aw.fresh (Yc _))⟩
section
variable {X:Cx}{e e2:Expr}{es:List Expr}{te:TE}{t:TF}{pos:Pos}
end
end L2
namespace L2
open PySem PySem.Spec PyProof.Rows
open PySem.W (Looks InstAt looks_findIn looks_typeIn looks_clsIn looks_mroIn looks_find findObj findIn mroIn clsIn)
section
variable {X:Cx}{B1 B2:Addr}{i:Nat}{n x1 x2:Str}{body LJ LK:List Stmt}{b1 b2:Stmt}{L_ Ma AE jr pos:Pos}{tb:(St->XK)->TS}{Mb Mc:TS}
end
end L2
namespace AF
open L2
theorem CS(n:Nat):(a7 n).Nodup:=by
 exact List.Pairwise.map _ (λa b h e=>h (by omega)) List.nodup_range
section
variable {t:List Int}{n:Nat}
end
end AF
namespace L2
open PySem PySem.Spec PyProof.Rows
def Row(K:af)(H:Hp)(p:Addr)(ns:List Int):Prop:=ah K H p (ns.map V.int)\/au K H p (ns.map V.int)
theorem Row.same{K:af}{H H':Hp}{p:Addr}{ns:List Int}(e:aq H H')(h:Row K H p ns):Row K H' p ns:=by
 rcases h with h|h;·exact .inl (e.seq h)
 ·exact .inr (e.dY h)
def full(ns:List Int):Bool:=decide (ns.Perm (a7 ns.length))
theorem jC(h:full ns=true):ns.Perm (a7 ns.length):=of_decide_eq_true h
theorem kP(h:ns.Perm (a7 n)):full ns=true:=decide_eq_true (by rw[h.length_eq,cL];exact h)
theorem Cp(n:Nat):(a7 n).Pairwise (·<=·):=by
 unfold a7;rw[List.pairwise_map];exact List.pairwise_lt_range.imp λh=>by omega
theorem vZ:∀{as bs:List Int},as.Perm bs->as.Pairwise (·<=·)->bs.Pairwise (·<=·)->as=bs
 |[],bs,p,_,_=>by
  simp_all
 |a::as,[],p,_,_=>by
  simp_all
 |a::as,b::bs,p,h1,h2=>by
  rw[List.pairwise_cons] at h1 h2;have e:a=b:=by
   have ha:=p.subset Yy;have hb:=p.symm.subset Yy
   grind
  subst e;rw[vZ (List.Perm.cons_inv p) h1.2 h2.2]
theorem Cq(p:cK.Perm ns)(h:cK.Pairwise (·<=·)):decide (cK=a7 ns.length)=full ns:=by
 unfold full;rw[Y8,decide_eq_true_iff,decide_eq_true_iff];constructor;·grind
 ·intro q;exact vZ (p.trans q) h (Cp _)
def zm(K:af)(neg:Bool)(tr:TE):TE:=fh (zU K neg) (gT (rW K) (fP tr iA)) (gT w8 (fP (gT xQ (fP (gT (mH K) (fP tr iA)) iA)) iA))
theorem DW{K:af}{i:Nat}{neg:Bool}{σ:St}{H:Hp}{p:Addr}{ns:List Int}{Q:VK}(hi:σ[i]?=some (some (.ref p)))(hR:Row K H p ns)(jq:ns.length<64)(q:∀H',aq H H'->Q (.bl (if neg=true then !full ns else full ns)) H'):
   (zm K neg (fR i)) σ H Q:=by
 refine⟨_,hi,p,ns,rfl,hR,jq,λl cK hl pm so=>?_⟩;have g1:aq H (upd H l (.lst (cK.map V.int))):=bh hl _;refine⟨_,hi,p,ns.map V.int,rfl,Row.same g1 hR,_,rfl,λr hr=>⟨r,(ns.map V.int).length,rfl,aF,by rw[Ya];omega,λu hu=>?_⟩⟩;have g3:=(g1.trans (bh hr (.eB 0 (((ns.map V.int).length:Nat):Int)))).trans (bh hu (.lst ((a7 (ns.map V.int).length).map V.int)));refine⟨l,u,cK,a7 (ns.map V.int).length,rfl,rfl,ah.of ?_,ah.of aF,?_⟩
 ·rw[aW (bE ((bh hr _) _ _ aF) hu)];exact(bh hr _) _ _ aF
 ·rw[Ya,Cq pm so]
  grind
theorem any_false(n:Nat):(List.replicate n false).any id=false:=by
 induction n with
 |zero=>rfl
 |succ n ih=>grind
section
open PySem.AutoSeq1 (wpAny_loadPart')
open PySem.MeetsSeq PySem.SeqAt
theorem BV(l:Addr)(items:Array Value)(n:Nat)(dd:Option Addr)(sl:Array (Option Value))(x:Value)(e:Value->Bool)(j:Nat)(hj:j<items.size)
  (hit:e items[j]=true)(uA:∀m (hm:m<items.size),m<j->e items[m]=false):
  Meets (Builtin.«tuple.index» ⟨[.ref l,x],[]⟩)
   (λA R s=>s.heap.get? l=some {cls:=.type "tuple",dict:=dd,data:=.seq items n,slots:=sl}/\(∀y,y∈items->EqAt A.in1 s y x (e y))/\R (.ok (.ret (.int j s.toks))) {s with toks:=s.toks+1}):=
 .of_wp λprog w A R s h=>by
  obtain⟨hp,g,d,tk,os⟩:=s;obtain⟨hl,he,h⟩:=h
  wp_walk using wpAny_loadPart' hl
  show wpAny _ _ (forIn (m:=Sem) [:min items.size items.size] (none,()) _) _ _ _;rw[Std.Legacy.Range.forIn_eq_forIn_range'];refine wpAny_forIn_list _ (λrest b s'=>s'=⟨hp,g,d,tk,os⟩/\∃i,i<=j/\rest=List.range' i (items.size-i)) _ ?_ ?_ _ _ ⟨rfl,0,Yw _,by simp⟩
  ·rintro k rest b s' ⟨rfl,i,hi,hr⟩;have bo:i<items.size:=by omega
   obtain⟨rfl,GF⟩:k=i/\rest=List.range' (i+1) (items.size-(i+1)):=by
    have e:items.size-i=(items.size-(i+1))+1:=by omega
    rw[e,List.range'_succ] at hr;injection hr with h1 h2;exact⟨h1,h2⟩
   rw[Array.getElem?_eq_getElem bo];refine wpAny_bind (he _ (Array.getElem_mem bo) prog w _ _ ?_);rcases Nat.lt_or_ge k j with hk|hk
   ·rw[uA k bo hk]
    wp_walk
    exact⟨rfl,k+1,by omega,GF⟩
   ·obtain rfl:k=j:=by omega
    rw[hit]
    wp_walk
    exact⟨_,rfl,h⟩
  ·grind
end
def FU(to:TE)(t:TA):TE:=λσ H Q=>to σ H λx H1=>∃(p:Addr) (ns:List Int),x=.ref p/\H1 p=some (.tup (ns.map V.int))/\t σ H1 λvs H2=>∃(z:Int) (j:Nat),vs=[.int z]/\H2 p=some (.tup (ns.map V.int))/\ns[j]?=some z/\(∀m,m<j->ns[m]?≠some z)/\Q (.int (j:Int)) H2
theorem BW:∀{ns:List Int} {us:List Value} {j:Nat} (h:j<us.length),Vals (ns.map V.int) us->∃n t,ns[j]?=some n/\us[j]=.int n t:=by
 intro ns;induction ns with
 |nil=>intro us j h r;cases r;simp at h
 |cons n ns ih=>
  intro us j h r;rw[Wu] at r;cases r with
  |cons r t=>
   cases j with
   |zero=>
    obtain⟨t',rfl⟩:=r;exact⟨n,t',rfl,rfl⟩
   |succ j=>
    obtain⟨n',t',e1,e2⟩:=ih (j:=j) (by simpa using h) t;exact⟨n',t',by simpa using e1,by simpa using e2⟩
theorem Dn(ns:List Int):(ns.map V.int).all iu=true:=by
 induction ns with
 |nil=>rfl
 |cons n ns ih=>rw[Wu,Jj,ih];rfl
theorem vP(ho:PE X o to)(ha:PA X [e] t)
  (sT:attributeBase o "index" X.env (eval o X.env)=eval o X.env:=by rfl)
  (tJ:((backTo dC (starEach [e] X.env)).all (λx=>!x.1)&&(backToKw dC (keywordEach [] X.env)).all (λx=>x.1.isSome)
   &&decide ([e].length+([]:List Keyword).length+(if([]:List Keyword).isEmpty then 0 else 1)<30))=true:=by rfl)
  (sU:(apos.endLine==dC.line)=true:=by rfl)(hs:starEach [e] X.env=(false,eval e X.env)::starEach [] X.env:=by rfl):
  PE X (.Call (.Attribute o "index" apos) [e] [] dC) (FU to t):=by
 intro pins s σ H Q I h;refine wpAny_Call_method_late sT tJ sU rfl (av (ho pins s σ H _ I h) λv s1 zq=>?_);obtain⟨x,H1,I1,r1,p,ns,ex,hp,q1⟩:=zq;subst ex;obtain rfl:v=Value.ref p:=r1;obtain⟨_,_,_,ob,g,oc,_,_,od⟩:=(show bP X.prog X.w H1 s1.heap p (.tup (ns.map V.int)) from I1.aw p _ hp);refine⟨"tuple","tuple.index",F.plainAttrs_tuple,F.slot_tuple_index,F.type_tuple_index,⟨ob,g,oc⟩,λa ea=>by cases ea;exact⟨ob,g,od⟩,?_⟩;have hA:=ha dC pins s1 σ H1 _ I1 q1;rw[hs] at hA⊢;refine Calls.callWith_builtin rfl (Calls.evalArgs_plain ?_);refine av hA λus s2 zq=>?_;obtain⟨vs,H2,I2,r2,z,j,ev,jr,hj,uA,q2⟩:=zq;subst ev;obtain⟨u,rfl,ru⟩:=r2.one;obtain⟨tz,rfl⟩:=ru;obtain⟨_,ag,rv,⟨cls,dd,data,sl⟩,g2,AG,n2,AH,_⟩:=(show bP X.prog X.w H2 s2.heap p (.tup (ns.map V.int)) from I2.aw p _ jr);simp only at AG AH;subst AG AH;have hlen:ag.length=ns.length:=by have:=rv.length;rw[Ya] at this;omega
 have AI:j<ag.length:=by rw[hlen];exact(Yh.mp hj).1
 have ix:∀m (hm:m<ag.length),fX (.int z) ag[m]=decide (ns[m]?=some z):=λm hm=>by
  obtain⟨n',t',e1,e2⟩:=BW hm rv;rw[e1,e2];show(n'==z)=decide (some n'=some z)
  grind
 refine call_meets F.slot_tuple_index ⟨_,g2,rfl⟩ F.entry_tuple_index (F.args_tuple_index_2 _ _) (BV p ag.toArray n2 dd sl (.int z tz) (fX (.int z)) j (by rw[Yk];exact AI) ?_ ?_) ⟨g2,?_,?_⟩;·rw[List.getElem_toArray,ix j AI];exact decide_eq_true hj
 ·intro m hm bo;rw[List.getElem_toArray,ix m (by simpa using hm)];exact decide_eq_false (uA m bo)
 ·intro y hy;exact rD (x:=.int z) ⟨tz,rfl⟩ rfl rv (Dn ns) y (by simpa using hy)
 ·exact⟨.int _,H2,I2.tok _,⟨_,rfl⟩,q2⟩
section
variable {κ:Type}[DecidableEq κ]
def bD(ae:List (κ×V))(k:κ):Option V:=(ae.find? λkv=>decide (kv.1=k)).map (·.2)
def putK(ae:List (κ×V))(k:κ)(v:V):List (κ×V):=
 if(ae.any λkv=>decide (kv.1=k))=true then ae.map (λkv=>if kv.1=k then(kv.1,v) else kv) else ae++[(k,v)]
theorem ee{p:κ×V}{r:List (κ×V)}{k:κ}(e:p.1=k):bD (p::r) k=some p.2:=by simp[bD,Wv,e]
theorem ef{p:κ×V}{r:List (κ×V)}{k:κ}(e:¬p.1=k):bD (p::r) k=bD r k:=by simp[bD,Wv,e]
theorem lS(k:κ):∀ae:List (κ×V),(ae.any λkv=>decide (kv.1=k))=(bD ae k).isSome
 |[]=>rfl
 |p::r=>by
  rw[W8];by_cases e:p.1=k;·simp only[ee e,decide_eq_true e,Bool.true_or,Option.isSome_some]
  ·rw[ef e,decide_eq_false e,Bool.false_or];exact lS k r
theorem xg(k j:κ)(y:V):∀ae:List (κ×V),bD (ae.map λkv=>if kv.1=k then(kv.1,y) else kv) j=(bD ae j).map λx=>if j=k then y else x
 |[]=>rfl
 |p::r=>by
  have ih:=xg k j y r;rw[Wu];by_cases h:p.1=k
  ·rw[if_pos h];by_cases e:p.1=j;·rw[ee (p:=(p.1,y)) e,ee e,Option.map_some,if_pos (e.symm.trans h)]
   ·rw[ef (p:=(p.1,y)) e,ef e,ih]
  ·rw[if_neg h];by_cases e:p.1=j;·rw[ee e,ee e,Option.map_some,if_neg (λz=>h (e.trans z))]
   ·rw[ef e,ef e,ih]
theorem wK(k j:κ)(y:V):∀ae:List (κ×V),bD ae k=none->bD (ae++[(k,y)]) j=if j=k then some y else bD ae j
 |[],_=>by
  by_cases e:k=j;·rw[if_pos e.symm];exact ee (p:=(k,y)) e
  ·rw[if_neg (λz=>e z.symm)];exact ef (p:=(k,y)) e
 |p::r,hn=>by
  rw[List.cons_append];have hk:¬p.1=k:=λz=>by rw[ee z] at hn;cases hn
  rw[ef hk] at hn;by_cases e:p.1=j;·rw[ee e,ee e,if_neg (λz=>hk (e.trans z))]
  ·rw[ef e,ef e,(wK k j y r hn)]
theorem gi(ae:List (κ×V))(k j:κ)(y:V):bD (putK ae k y) j=if j=k then some y else bD ae j:=by
 unfold putK;by_cases a:(ae.any λkv=>decide (kv.1=k))=true
 ·rw[if_pos a,xg];rw[lS] at a;by_cases e:j=k
  ·obtain⟨x,hx⟩:=Wf.mp a
   grind
  ·simp_all
 ·rw[if_neg a];refine wK k j y ae ?_;rw[lS] at a;cases q:bD ae k with
  |none=>rfl
  |some x=>grind
theorem i0(ae:List (κ×V))(k:κ)(v:V):(putK ae k v).length<=ae.length+1:=by
 unfold putK
 grind
theorem DX{ae:List (κ×V)}{k:κ}(v:V)(h:bD ae k=none):putK ae k v=ae++[(k,v)]:=by
 unfold putK;rw[lS,h];rfl
theorem dj.lP(r:dj o u):o.isSome=u.isSome:=by
 cases o with
 |none=>cases u with
  |none=>rfl
  |some _=>exact(show False from r).elim
 |some _=>cases u with
  |none=>exact(show False from r).elim
  |some _=>rfl
theorem KV.val{ae:List (κ×V)}{vs:List (κ×Value)}(r:KV ae vs)(k:κ):dj (bD ae k) (valueAt vs k):=by
 unfold KV at r;induction r with
 |nil=>exact True.intro
 |@cons p q ps qs h t ih=>
  obtain⟨h1,h2⟩:=h;by_cases e:p.1=k
  ·have e':q.1=k:=h1.symm.trans e;have b:valueAt (q::qs) k=some q.2:=by simp[valueAt,Wv,e']
   rw[ee e,b];exact h2
  ·have e':¬q.1=k:=λz=>e (h1.trans z);have b:valueAt (q::qs) k=valueAt qs k:=by simp[valueAt,Wv,e']
   rw[ef e,b];exact ih
theorem KV.any(r:KV ae vs)(k:κ):(ae.any λkv=>decide (kv.1=k))=vs.any λkv=>decide (kv.1=k):=by
 induction r with
 |nil=>rfl
 |cons h t ih=>grind
theorem KV.tO(r:KV ae vs)(k:κ)(ry:RelV y u):
  KV (ae.map λkv=>if kv.1=k then(kv.1,y) else kv) (vs.map λkv=>if kv.1=k then(kv.1,u) else kv):=by
 induction r with
 |nil=>exact .nil
 |@cons p q ps qs h t ih=>
  refine .cons ?_ ih
  grind
theorem KV.put(r:KV ae vs)(k:κ)(ry:RelV y u):KV (putK ae k y) (stored vs k u):=by
 unfold putK stored;rw[r.any k];by_cases e:(vs.any λkv=>decide (kv.1=k))=true;·rw[if_pos e,if_pos e];exact r.tO k ry
 ·rw[if_neg e,if_neg e];exact Paired.snoc r ⟨rfl,ry⟩
theorem KV.length(r:KV ae vs):ae.length=vs.length:=Paired.length r
end
theorem jP(r:RelV (kV k) u):(du P w).is k u=true:=by
 cases k with
 |inl i=>obtain⟨t,e⟩:=(show ∃t,u=Value.int i t from r);subst e;exact Cf P w i t
 |inr x=>obtain⟨t,e⟩:=(show ∃t,u=Value.str x t from r);subst e;exact Cg P w x t
theorem wL:∀{ks:List Key} {us:List Value},Vals (ks.map kV) us->ItemsAre (du P w) ks us
 |[],_,r=>by rw[List.map_nil] at r;cases r;exact .nil
 |k::ks,_,r=>by
  cases r with
  |cons h t=>exact .cons (jP h) (wL t)
abbrev KT(H:Hp):List (List Key×V)->List (List Key×Addr×Value)->Prop:=Paired λp q=>p.1=q.1/\H q.2.1=some (.tup (p.1.map kV))/\RelV p.2 q.2.2
theorem KT.val{H:Hp}{ae:List (List Key×V)}{xs:List (List Key×Addr×Value)}(r:KT H ae xs)(k:List Key):dj (bD ae k) ((atKey xs k).map (·.2)):=by
 induction r with
 |nil=>exact True.intro
 |@cons p q ps qs h t ih=>
  obtain⟨h1,_,h2⟩:=h;by_cases e:p.1=k
  ·have e':q.1=k:=h1.symm.trans e;have b:atKey (q::qs) k=some q.2:=by simp[atKey,e']
   rw[ee e,b];exact h2
  ·have e':¬q.1=k:=λz=>e (h1.trans z);have b:atKey (q::qs) k=atKey qs k:=by simp[atKey,e']
   rw[ef e,b];exact ih
theorem KT.tO(r:KT H ae xs)(k:List Key)(ry:RelV y u):
  KT H (ae.map λkv=>if kv.1=k then(kv.1,y) else kv) (xs.map (putAt k u)):=by
 induction r with
 |nil=>exact .nil
 |@cons p q ps qs h t ih=>
  refine .cons ?_ ih;unfold putAt
  grind
theorem KT.put(r:KT H ae xs)(k:List Key)(hb:H b=some (.tup (k.map kV)))(ry:RelV y u):
  KT H (putK ae k y) (storedH xs k b u):=by
 have e:(ae.any λkv=>decide (kv.1=k))=(atKey xs k).isSome:=by
  rw[lS,(r.val k).lP,Jg]
 unfold putK storedH;rw[e];by_cases q:(atKey xs k).isSome=true;·rw[if_pos q,if_pos q];exact r.tO k ry
 ·rw[if_neg q,if_neg q];exact Paired.snoc r ⟨rfl,hb,ry⟩
theorem KT.keeps(r:KT H ae xs)(ht:∀b ys,H b=some (.tup ys)->H' b=some (.tup ys)):KT H' ae xs:=
 Paired.cD r λ_ _ z=>⟨z.1,ht _ _ z.2.1,z.2.2⟩
section
variable {P:Program}{w:World}{H:Hp}{h:Heap}{a:Addr}
theorem zo(ok:bQ P w H h)(e:Rd H a u):bP P w H h a u:=e.ok ok
theorem mv(ok:bQ P w H h)(e:Rd H a (.dK ae)):ae.length<=sizeLine/\(a==sysModules)=false/\∃vs,KV ae vs/\h.DictOf (du P w) a vs:=
 show bP P w H h a (.dK ae) from zo ok e
theorem sY(ok:bQ P w H h)(e:H a=some (.dK ae)):ae.length<=sizeLine/\(a==sysModules)=false/\∃vs,KV ae vs/\h.DictOf (du P w) a vs:=mv ok (.inl e)
theorem l9(ok:bQ P w H h)(e:H a=some (.tup (ks.map kV))):(tupleKind (du P w)).is h ks a:=by
 obtain⟨_,ag,r,o,h1,h2,n,h3,_⟩:=(show bP P w H h a (.tup (ks.map kV)) from ok a _ e);exact⟨o,ag.toArray,n,h1,h2,h3,by simpa using wL r⟩
theorem mw(ok:bQ P w H h)(e:Rd H a (.dT ae)):ae.length<=sizeLine/\(a==sysModules)=false/\
  ∃xs,KT H ae xs/\h.DictOfH (tupleKind (du P w)) a xs:=by
 obtain⟨z,y,xs,r,o,es,ep,h1,h2,h3,h4,h5⟩:=(show bP P w H h a (.dT ae) from zo ok e);refine⟨z,y,xs,r,o,es,ep,h1,h2,h3,h4,λx hx=>?_,h5⟩;have all:∀{l:List (List Key×V)} {m:List (List Key×Addr×Value)},KT H l m->∀x∈m,(tupleKind (du P w)).is h x.1 x.2.1:=by
  intro l m q;induction q with
  |nil=>grind
  |@cons p q ps qs hq t ih=>
   intro x hx;rcases Yu.mp hx with e|hx
   ·subst e;exact l9 ok (by rw[←hq.1];exact hq.2.1)
   ·exact ih x hx
 grind
theorem GG(ok:bQ P w H h)(e:H a=some (.dT ae)):ae.length<=sizeLine/\(a==sysModules)=false/\
  ∃xs,KT H ae xs/\h.DictOfH (tupleKind (du P w)) a xs:=mw ok (.inl e)
end
def c7(H:Hp)(a:Addr)(y:V)(r:Option V):Prop:=
 (∃ae k,Rd H a (.dK ae)/\y=kV k/\r=bD ae k)\/∃ae k b,Rd H a (.dT ae)/\y=.ref b/\H b=some (.tup (k.map kV))/\r=bD ae k
def oX(H:Hp)(a:Addr)(y v:V)(H':Hp):Prop:=
 (∃ae k,H a=some (.dK ae)/\y=kV k/\ae.length<sizeLine/\H'=upd H a (.dK (putK ae k v)))\/
 ∃ae k b,H a=some (.dT ae)/\y=.ref b/\H b=some (.tup (k.map kV))/\ae.length<sizeLine/\H'=upd H a (.dT (putK ae k v))
theorem c7.k{H:Hp}{a:Addr}{ae:List (Key×V)}{k:Key}(e:H a=some (.dK ae)):c7 H a (kV k) (bD ae k):=.inl ⟨ae,k,.inl e,rfl,rfl⟩
theorem oX.k{H:Hp}{a:Addr}{ae:List (Key×V)}{k:Key}{v:V}(e:H a=some (.dK ae))(hl:ae.length<sizeLine):oX H a (kV k) v (upd H a (.dK (putK ae k v))):=.inl ⟨ae,k,e,rfl,hl,rfl⟩
section
variable {X:Cx}{pins:aB}{σ:St}{H:Hp}{s:Shared}{a:Addr}{y v:V}{u r:Value}{o:Option V}{A:Around}{E:aC}
theorem Inv.big(I:Inv X pins σ H s):sysModules<s.heap.objs.size:=by
 exact Nat.lt_trans (by decide) ((I.mod.glob.keeps I.bk).lt)
theorem Dp(hu:A.units+1<cLine)(I:Inv X pins σ H s)(g:c7 H a y (some v))(ry:RelV y u)(h:∀w' s',Inv X pins σ H s'->RelV v w'->Q w' s'):
  wpAny X.md A (getItem (.ref a) u) Q E s:=by
 rcases g with⟨ae,k,e,ey,l⟩|⟨ae,k,b,e,ey,eb,l⟩
 ·subst ey;obtain⟨z,hd,vs,rel,dd⟩:=mv I.aw e;obtain⟨w',hw,dE⟩:=dj.some_of (v:=v) (o:=valueAt vs k) (by rw[l];exact rel.val k);exact wpAny_getItem_of (jP ry) dd.mapOf hw (h w' _ (I.tok _) dE)
 ·subst ey;cases(show u=Value.ref b from ry);obtain⟨z,hd,xs,rel,dd⟩:=mw I.aw e;obtain⟨w',hw,dE⟩:=dj.some_of (v:=v) (o:=(atKey xs k).map (·.2)) (by rw[l];exact rel.val k);obtain⟨p,hp,jr⟩:=Option.map_eq_some_iff.mp hw;refine wpAny_getItem_heap (tupleKind_room_in1 hu) (l9 I.aw eb) dd hp ?_;rw[jr];exact h w' _ (I.tok _) dE
theorem Hu(hu:A.units+1<cLine)(I:Inv X pins σ H s)(g:c7 H a y o)(ry:RelV y u)(h:∀s',Inv X pins σ H s'->Q (.bool o.isSome) s'):
  wpAny X.md A (compareOp .In u (.ref a)) Q E s:=by
 rcases g with⟨ae,k,e,ey,l⟩|⟨ae,k,b,e,ey,eb,l⟩
 ·subst ey;obtain⟨z,hd,vs,rel,dd⟩:=mv I.aw e;refine wpAny_in_of (jP ry) hd dd.mapOf ?_;rw[←(rel.val k).lP,←l];exact h _ (I.tok _)
 ·subst ey;cases(show u=Value.ref b from ry);obtain⟨z,hd,xs,rel,dd⟩:=mw I.aw e;refine wpAny_in_heap (tupleKind_room_in1 hu) (l9 I.aw eb) hd dd ?_;have q:=(rel.val k).lP;rw[Jg] at q;rw[←q,←l];exact h _ (I.tok _)
theorem EH(hu:A.units+1<cLine)(I:Inv X pins σ H s)(g:c7 H a y o)(ry:RelV y u)(h:∀s',Inv X pins σ H s'->Q (.bool (!o.isSome)) s'):
  wpAny X.md A (compareOp .NotIn u (.ref a)) Q E s:=by
 rcases g with⟨ae,k,e,ey,l⟩|⟨ae,k,b,e,ey,eb,l⟩
 ·subst ey;obtain⟨z,hd,vs,rel,dd⟩:=mv I.aw e;refine wpAny_notIn_of (jP ry) hd dd.mapOf ?_;rw[←(rel.val k).lP,←l];exact h _ (I.tok _)
 ·subst ey;cases(show u=Value.ref b from ry);obtain⟨z,hd,xs,rel,dd⟩:=mw I.aw e;refine wpAny_notIn_heap (tupleKind_room_in1 hu) (l9 I.aw eb) hd dd ?_;have q:=(rel.val k).lP;rw[Jg] at q;rw[←q,←l];exact h _ (I.tok _)
theorem oq(I:Inv X pins σ H s)(mu:mM (H a))(hs:Heap.SameBut a s.heap h')(he:∃q,h'.get? a=some q)(new:bP X.prog X.w (upd H a ob) h' a ob):
  Inv X pins σ (upd H a ob) {s with heap:=h',toks:=t'}:=
 I.write (x:=a) (e:=a) mu (.inl rfl) (λb q hb z=>(hs.2 b hb).trans z) he new
theorem sE(z:ae.length<=sizeLine)(hd:(a==sysModules)=false)(rel:KV ae vs)(dd:h'.DictOf (du P w) a vs):
  bP P w H' h' a (.dK ae):=⟨z,hd,vs,rel,dd⟩
theorem Dq(hu:A.units+1<cLine)(I:Inv X pins σ H s)(g:oX H a y v H')(ry:RelV y u)(rv:RelV v r)(h:∀s',Inv X pins σ H' s'->Q () s'):
  wpAny X.md A (setItem (.ref a) u r) Q E s:=by
 rcases g with⟨ae,k,e,ey,l,eH⟩|⟨ae,k,b,e,ey,eb,l,eH⟩
 ·subst ey eH;obtain⟨z,hd,vs,rel,dd⟩:=sY I.aw e;have hz:vs.length<=sizeLine:=by rw[←rel.length];exact z
  have hl:(putK ae k v).length<=sizeLine:=by have:=i0 ae k v;omega
  refine wpAny_setItem_pairs (hsz:=hz) (jP ry) dd λh' gX hs=>h _ ?_;have he:∃q,h'.get? a=some q:=let⟨q,_,_,hq,_⟩:=gX;⟨q,hq⟩;exact oq I (by rw[e];exact True.intro) hs he (sE hl hd (rel.put k rv) gX)
 ·subst ey eH;cases(show u=Value.ref b from ry);obtain⟨z,hd,xs,rel,dd⟩:=GG I.aw e;have hz:xs.length<=sizeLine:=by rw[←Paired.length rel];exact z
  have hl:(putK ae k v).length<=sizeLine:=by have:=i0 ae k v;omega
  refine wpAny_setItem_heap (hsz:=hz) (tupleKind_room_in1 hu) (l9 I.aw eb) dd λh' gX hs=>h _ ?_;obtain⟨q,es,ep,hq,h2,h3,h4,_,h5⟩:=gX;refine oq I (by rw[e];exact True.intro) hs ⟨q,hq⟩ ⟨hl,hd,_,(rel.put k eb rv).keeps λc ys ec=>?_,q,es,ep,hq,h2,h3,h4,h5⟩;rw[aW (Gm ec e (λz=>nomatch z))];exact ec
end
section
variable {X:Cx}{pins:aB}{σ:St}{H:Hp}{s:Shared}{a:Addr}{ae:List (Key×V)}{k:Key}{u:Value}{A:Around}{E:aC}
end
def zX(i:Expr):Prop:=∀ov iv,subscripted i false ov iv=operate [ov,iv] (getItem ov iv)
theorem EI{prog:Program}{w:World}{A:Around}{E:aC}{s:Shared}{env:Env}{value slice:Expr}{pos:Pos}{T id:String}{Q:aC}
  (hl:typeLookup (.type T) "__getitem__"=pure (some (.builtin id)))(hs:zX slice)
  (h:wpAny (model prog w) A (eval value env) (λo aG=>wpAny (model prog w) A (eval slice env) (λi cE=>cE.TypeIs o T/\wpAny (model prog w) A (getItem o i) Q E cE) E aG) E s):
  wpAny (model prog w) A (eval (.Subscript value slice pos) env) Q E s:=by
 refine Subscript_ (wpAny_mono h (λo aG cn=>wpAny_mono cn (λi cE fT=>?_) λ_ _ x=>x) λ_ _ x=>x);obtain⟨hT,fT⟩:=fT;refine wpAny_bind (wpAny_bind (wpAny_specialOf hT hl ?_));have fin:wpAny (model prog w) A (subscripted slice false o i) (λr bw=>wpAny (model prog w) A (letTemporaryGo value o r>>=λ_=>pure r) Q E bw) E cE:=by
  rw[hs o i];exact wpAny_operating (wpAny_mono fT (λr bw iB=>wpAny_bind (wpAny_letTemporaryGo (wpAny_pure iB))) λ_ _ x=>x)
 first
  |exact wpAny_pure (wpAny_bind fin)
  |exact wpAny_bind (wpAny_pure (wpAny_bind fin))
  |exact wpAny_bind fin
theorem Cr(I:Inv X pins σ H s)(g:c7 H a y o):s.TypeIs (.ref a) "dict":=by
 rcases g with⟨ae,k,e,_,_⟩|⟨ae,k,b,e,_,_,_⟩
 ·obtain⟨_,_,vs,_,dd⟩:=mv I.aw e;exact dd.typeIs
 ·obtain⟨_,_,xs,_,dd⟩:=mw I.aw e;exact dd.typeIs
inductive xT(Q:VK)(x:V)(y:V)(H2:Hp):Prop
 |mk (a v) (aE:x=.ref a) (aN:c7 H2 a y (some v)) (a9:Q v H2):xT Q x y H2
def GH(td ty:TE):TE:=λσ H Q=>td σ H λx H1=>ty σ H1 λy H2=>xT Q x y H2
inductive yF(Q:VK)(y:V)(x:V)(H2:Hp):Prop
 |mk (a o) (aE:x=.ref a) (aN:c7 H2 a y o) (a9:Q (.bl o.isSome) H2):yF Q y x H2
def Hv(ty td:TE):TE:=λσ H Q=>ty σ H λy H1=>td σ H1 λx H2=>yF Q y x H2
inductive wM(Q:VK)(y:V)(x:V)(H2:Hp):Prop
 |mk (a o) (aE:x=.ref a) (aN:c7 H2 a y o) (a9:Q (.bl (!o.isSome)) H2):wM Q y x H2
def EJ(ty td:TE):TE:=λσ H Q=>ty σ H λy H1=>td σ H1 λx H2=>wM Q y x H2
section
variable {X:Cx}{o i e value:Expr}{pos pos' zM:Pos}{td ty tv:TE}
theorem cU(hu:X.A.units+1<cLine)(ho:PE X o td)(hi:PE X i ty)(hs:zX i):PE X (.Subscript o i pos) (GH td ty):=by
 intro pins s σ H Q I h;refine EI PySem.F.slot_dict_getitem.lookup hs (av (ho pins s σ H _ I h) λu s1 zq=>?_);obtain⟨x,H1,I1,rx,q1⟩:=zq;refine av (hi pins s1 σ H1 _ I1 q1) λiv s2 zq=>?_;obtain⟨y,H2,I2,ry,a,v,ex,g,q2⟩:=zq;subst ex;obtain rfl:u=Value.ref a:=rx;exact⟨Cr I2 g,Dp hu I2 g ry λw' s3 I3 dE=>⟨v,H2,I3,dE,q2⟩⟩
theorem yG(hu:X.A.units+1<cLine)(hi:PE X i ty)(ho:PE X o td):PC X .In i o (Hv ty td):=by
 intro pins s σ H Q I h;refine av (hi pins s σ H _ I h) λiv s1 zq=>?_;obtain⟨y,H1,I1,ry,q1⟩:=zq;refine av (ho pins s1 σ H1 _ I1 q1) λu s2 zq=>?_;obtain⟨x,H2,I2,rx,a,ov,ex,g,q2⟩:=zq;subst ex;obtain rfl:u=Value.ref a:=rx;exact Hu hu I2 g ry λs3 I3=>⟨.bl ov.isSome,H2,I3,rfl,q2⟩
theorem nU(hu:X.A.units+1<cLine)(hi:PE X i ty)(ho:PE X o td):PC X .NotIn i o (EJ ty td):=by
 intro pins s σ H Q I h;refine av (hi pins s σ H _ I h) λiv s1 zq=>?_;obtain⟨y,H1,I1,ry,q1⟩:=zq;refine av (ho pins s1 σ H1 _ I1 q1) λu s2 zq=>?_;obtain⟨x,H2,I2,rx,a,ov,ex,g,q2⟩:=zq;subst ex;obtain rfl:u=Value.ref a:=rx;exact EH hu I2 g ry λs3 I3=>⟨.bl (!ov.isSome),H2,I3,rfl,q2⟩
end
theorem xh(h:Heap)(hb:sysModules<h.objs.size):bP P w H (h.push {cls:=.type "dict",data:=.dict #[]}) h.objs.size (.dK []):=
 ⟨Yw _,beq_eq_false_iff_ne.mpr (Ne.symm (Yo hb)),[],.nil,Heap.DictOf.new h⟩
def FV:TE:=λ_ H Q=>∀p,H p=none->Q (.ref p) (upd H p (.dK []))
section
variable {X:Cx}{pos:Pos}
theorem DY:PE X (.Dict [] [] pos) FV:=λpins s σ H Q I h=>
 wpAny_Dict_empty ⟨.ref s.heap.objs.size,_,I.laid (a:=s.heap.objs.size) (o:=.dK []) (t':=s.toks) (λ_ _ q=>Yb _ q) (Yc _) (xh s.heap I.big),rfl,h _ (I.aw.fresh (Yc _))⟩
end
def sF:List (TE×TE)->St->Hp->(List (V×V)->Hp->Prop)->Prop
 |[],_,H,Q=>Q [] H
 |(tk,tv)::r,σ,H,Q=>tk σ H λx H1=>tv σ H1 λy H2=>sF r σ H2 λps H3=>Q ((x,y)::ps) H3
abbrev VV:List (V×V)->List (Value×Value)->Prop:=Paired λp q=>RelV p.1 q.1/\RelV p.2 q.2
def pL(X:Cx)(pos:Pos)(keys:List (Option Expr))(values:List Expr)(kj:List (TE×TE)):Prop:=
 ∀(pins:aB) (s:Shared) (σ:St) (H:Hp) (Q:List (V×V)->Hp->Prop),Inv X pins σ H s->sF kj σ H Q->
  wpAny X.md X.A (evalPairs (pairTrees keys values X.env pos)) (λvs s'=>∃ps H',Inv X pins σ H' s'/\VV ps vs/\Q ps H') X.xe s
theorem rY:pL X pos [] [] []:=λpins s σ H Q I h=>pairTrees_nil_walk ⟨[],H,I,.nil,h⟩
theorem eT(hk:PE X k tk)(hv:PE X v tv)(hr:pL X pos ks vs kj):
  pL X pos (some k::ks) (v::vs) ((tk,tv)::kj):=λpins s σ H Q I h=>
 pairTrees_cons_walk (av (hk pins s σ H _ I h) λu s1 ⟨x,H1,I1,rx,q1⟩=>av (hv pins s1 σ H1 _ I1 q1) λw2 s2 ⟨y,H2,I2,ry,q2⟩=>
  av (hr pins s2 σ H2 _ I2 q2) λws s3 ⟨ps,H3,I3,rel,q3⟩=>⟨(x,y)::ps,H3,I3,.cons ⟨rx,ry⟩ rel,q3⟩)
def jc(ae more:List (Key×V)):List (Key×V):=more.foldl (λacc kv=>putK acc kv.1 kv.2) ae
theorem KV.merge:∀{more:List (Key×V)} {rs:List (Key×Value)} {ae:List (Key×V)} {vs:List (Key×Value)},KV more rs->KV ae vs->KV (jc ae more) (merged vs rs):=by
 intro more rs ae vs r;induction r generalizing ae vs with
 |nil=>intro q;exact q
 |@cons p q ps qs h t ih=>
  intro r0;have e:KV (putK ae p.1 p.2) (stored vs q.1 q.2):=by
   have:=r0.put p.1 h.2
   grind
  exact ih e
theorem vJ:∀(more ae:List (Key×V)),(jc ae more).length<=ae.length+more.length
 |[],ae=>by show ae.length<=ae.length+0;omega
 |p::r,ae=>by
  have h1:=vJ r (putK ae p.1 p.2);have h2:=i0 ae p.1 p.2;show(jc (putK ae p.1 p.2) r).length<=_
  grind
theorem v8:∀{ae:List (Key×V)} {ws:List (Value×Value)},VV (ae.map λkv=>(kV kv.1,kv.2)) ws->∃rs,Carries (du P w) ws rs/\KV ae rs
 |[],_,r=>by rw[List.map_nil] at r;cases r;exact⟨[],True.intro,.nil⟩
 |p::ae,_,r=>by
  cases r with
  |@cons a b as bs h t=>
   obtain⟨rs,c,q⟩:=v8 t;obtain⟨b1,b2⟩:=b;exact⟨(p.1,b2)::rs,⟨jP h.1,rfl,c⟩,.cons ⟨rfl,h.2⟩ q⟩
def GI(kj:List (TE×TE)):TE:=λσ H Q=>∀p,H p=none->sF kj σ (upd H p (.dK [])) λps H2=>H2 p=some (.dK [])/\∃ae:List (Key×V),ps=ae.map (λkv=>(kV kv.1,kv.2))/\ae.length<=15/\Q (.ref p) (upd H2 p (.dK (jc [] ae)))
theorem rZ(h:pL X pos keys values kj)(tK:keys.all (·.isSome)=true)(hl:keys.length=values.length)(h0:keys≠[])
  (IM:keys.length<=15):PE X (.Dict keys values pos) (GI kj):=by
 intro pins s σ H Q I q;refine wpAny_Dict_walk (knd:=du X.prog X.w) tK hl h0 IM (av (h pins _ σ _ _ (I.laid (λ_ _ q=>Yb _ q) (Yc _) (xh s.heap I.big)) (q _ (I.aw.fresh (Yc s.heap.objs.size)))) λws s2 ⟨ps,H2,I2,rel,e,ae,ep,lk,q2⟩=>?_);subst ep;obtain⟨rs,c,rk⟩:=v8 rel;obtain⟨z,hd,Md,r0,dd⟩:=sY I2.aw e;cases r0;refine⟨rs,c,dd,λh' gX hs=>⟨.ref s.heap.objs.size,_,?_,rfl,q2⟩⟩;have hz:(jc [] ae).length<=sizeLine:=by
  have h1:=vJ ae [];rw[List.length_nil] at h1;rw[sizeLine_eq];omega
 exact oq I2 (by rw[e];exact True.intro) hs (let⟨q,_,_,hq,_⟩:=gX;⟨q,hq⟩) (sE hz hd (rk.merge .nil) gX)
section
variable {X:Cx}{pins:aB}{σ:St}{H:Hp}{s:Shared}{a:Addr}{y d:V}{u r:Value}{o:Option V}{A:Around}{E:aC}
end
section
variable {X:Cx}{o e f:Expr}{apos dC:Pos}{td ty tx:TE}
end
section
variable {X:Cx}{pins:aB}{σ:St}{H:Hp}{s:Shared}{a:Addr}{ae:List (Key×V)}{A:Around}{E:aC}
end
section
variable {X:Cx}{pins:aB}{σ:St}{H:Hp}{s:Shared}{a:Addr}{y:V}{u:Value}{A:Around}{E:aC}
end
def oK(P:Program)(w:World)(K:af)(mg:aJ)(base:Heap)(k:Nat)(x:Str)(C:Addr)(ps:List Str)(sp:Sp):Prop:=
 ∃f fd,Mk K C f/\aL P w K mg base aU k f fd ps sp/\Binds K fd ps []/\mg x=some (.ref C)
def sZ(P:Program)(w:World)(K:af)(mg:aJ)(base:Heap)(k:Nat)(m:Str)(C:Addr)(ps:List Str)(sp:Sp):Prop:=
 ∃f fd,fj K C/\Meth K C m f/\aL P w K mg base aU k f fd ps sp/\Binds K fd ps []
section
variable {X:Cx}{k j:Nat}{x m:Str}{C:Addr}{ps:List Str}{sp:Sp}{p pos apos:Pos}{o e:Expr}{es:List Expr}{t:TA}{ta:TE}
theorem GJ(h:oK X.prog X.w X.K X.mg X.base k x C ps sp)(hr:bM j X.A)(hj:k+1<=j)(hg:Gl X x)(ha:PA X (e::es) t)(eE:(x==("__debug__":Str))=false:=by decide)
  (he:fU X e es:=by rfl)(cI:gw X pos es:=by rfl):PE X (.Call (.Name x p) (e::es) [] pos) (zc C sp [] E0 t):=by
 obtain⟨f,fd,M,F,b,hm⟩:=h;exact Ew M F (hr.mono hj) hg hm b .nil sV ha eE he cI
theorem GK(h:sZ X.prog X.w X.K X.mg X.base k m C ps sp)(hr:bM j X.A)(hj:k<=j)(ho:PE X o ta)(ha:PA X (e::es) t)
  (cu:fU X e es:=by rfl)(cI:gw X pos es:=by rfl)
  (ht:eval (.Call (.Attribute o m apos) (e::es) [] pos) X.env=(do
   let ov←eval o X.env
   standAt apos.atName
   let(f,first)←holding [ov] (getMethod ov m pl)
   callWith pos f first (backTo pos (starEach (e::es) X.env)) (backToKw pos (keywordEach [] X.env))):=by rfl):
  PE X (.Call (.Attribute o m apos) (e::es) [] pos) (zb C m sp [] E0 ta t):=by
 obtain⟨f,fd,c,hm,F,b⟩:=h;exact Eu ho c hm F (hr.mono hj) b .nil sV ha cu cI ht
end
theorem EK{X:Cx}{K:af}{e:Expr}{ta:TE}{f:Str}{pos:Pos}(h:X.K=K)(he:PE X e ta)(hb:attributeBase e f X.env (eval e X.env)=eval e X.env):PE X (.Attribute e f pos) (tI K ta f):=h▸Ft he hb
section
open PySem.AutoSeq1 (wpAny_loadPart')
theorem Dr(lo hi x:Int):(Builtin.Range.rangePlace? lo hi 1 x).isSome=decide (lo<=x/\x<hi):=by
 unfold Builtin.Range.rangePlace?
 grind
theorem BH(p:Addr)(lo hi x:Int)(a b c t:Tok):
  Meets (Builtin.«range.__contains__» ⟨[.ref p,.int x t],[]⟩)
   (λ_ R s=>s.heap.get? p=some {cls:=.type "range",data:=.fields #[.int lo a,.int hi b,.int 1 c]}/\R (.ok (.ret (.bool (decide (lo<=x/\x<hi))))) s):=
 .of_wp λprog w A R s h=>by
  obtain⟨hp,g,d,tk,os⟩:=s;obtain⟨hl,h⟩:=h;rw[←Dr] at h
  wp_walk using wpAny_loadPart' hl
  grind
end
def FW(neg:Bool):R2:=λx y H Q=>∃(i lo hi:Int) (p:Addr),x=.int i/\y=.ref p/\H p=some (.eB lo hi)/\Q (.bl (if neg=true then !decide (lo<=i/\i<hi) else decide (lo<=i/\i<hi))) H
theorem B6:bx X (compareOp .NotIn) (FW true):=by
 rintro pins s σ H x y v u Q I rx ry ⟨i,lo,hi,p,rfl,rfl,hp,q⟩;obtain⟨t,rfl⟩:=rx;cases ry;obtain⟨a,b,c,g⟩:=(show bP X.prog X.w H s.heap p (.eB lo hi) from I.aw p _ hp);exact SeqRoads2.notIn_meets ⟨_,g,rfl⟩ F.slot_range_contains F.entry_range_contains (F.args_range_contains_2 _ _) (BH p lo hi i a b c t) ⟨g,_,rfl,.bl _,H,I,rfl,q⟩
theorem vQ(p:Nat->Bool)(n:Nat):(List.range (n+1)).filter p=(List.range n).filter p++(if p n=true then[n] else[]):=by
 rw[Jo,Wi]
 grind
theorem kD{α β:Type}{F:α->β->Prop}:∀{xs:List α} {ys:List β} {x:α} {y:β},Paired F xs ys->F x y->Paired F (xs++[x]) (ys++[y]):=by
 intro xs ys x y h f;induction h with
 |nil=>exact .cons f .nil
 |cons r t ih=>exact .cons r ih
theorem Cs:∀{xs:List α} {ys:List β},Paired F xs ys->xs.length=ys.length:=by
 intro xs ys h;induction h with
 |nil=>rfl
 |cons _ _ ih=>rw[Y2,Y2,ih]
theorem CT(n:Nat):(List.range n).filter (λ_=>true)=List.range n:=by simp
def cV(D:Addr)(H H':Hp):Prop:=∀b o,H b=some o->b≠D->H' b=some o
theorem cV.of(g:aq H H'):cV D H H':=λb o e _=>g b o e
theorem cV.put(g:cV D H H'):cV D H (upd H' D o):=λb u e n=>by rw[aW n];exact g b u e n
def GL(tt:TT)(te:TE)(fv:St)(D:Addr)(H:Hp)(v:V)(b:Bool)(Pe:V->Hp->Prop):Prop:=
 ∀H1,aq H H1->(∃ys,H1 D=some (.lst ys))->∀(Kt:VK) (Kf:Hp->Prop),(∀y H3,b=true->aq H1 H3->Pe y H3->Kt y H3)->(∀H3,b=false->aq H1 H3->Kf H3)->tt (some v::fv) H1 λc H2=>if c=true then te (some v::fv) H2 Kt else Kf H2
theorem CU{K:af}{a:Addr}{xs:List V}{tt:TT}{te:TE}{fv:St}{D:Addr}{H:Hp}{Q:VK}(hs:ah K H a xs)(hn:xs.length<=1000)(hD:H D=none)(p:Nat->Bool)(Pe:Nat->V->Hp->Prop)(mono:∀i y H1 H2,cV D H1 H2->Pe i y H1->Pe i y H2)
  (turn:∀(i:Nat) (v:V),xs[i]?=some v->GL tt te fv D H v (p i) (Pe i))(fin:∀ys H',aq H H'->H' D=some (.lst ys)->Paired (λy i=>Pe i y H') ys ((List.range xs.length).filter p)->Q (.ref D) H'):k8 (gQ K a) tt te fv D H Q:=by
 refine wH (λi ys H1=>i<=xs.length/\aq H H1/\H1 D=some (.lst ys)/\Paired (λy j=>Pe j y H1) ys ((List.range i).filter p)) ⟨Yw _,bh hD _,aF,.nil⟩ (λi ys H1 _ ⟨_,g,_,_⟩=>g.seq hs) ?_ ?_
 ·rintro i v ys H1 hi ⟨_,g,h1,pr⟩;have nh:=(Yh.mp hi).1;have ll:=Cs pr;have fl:=List.length_filter_le p (List.range i);rw[Wg] at fl;refine turn i v hi H1 g ⟨_,h1⟩ _ _ (λy H3 pi g3 py=>⟨g3 _ _ h1,by rw[sizeLine_eq];omega,nh,?_,aF,?_⟩) (λH3 pi g3=>⟨nh,g.trans g3,g3 _ _ h1,?_⟩)
  ·intro b o e;rw[aW (bE e hD)];exact g3 _ _ (g _ _ e)
  ·rw[vQ,if_pos pi];exact kD (Paired.cD pr λz j q=>mono _ _ _ _ (cV.put (cV.of g3)) q) (mono _ _ _ _ (cV.put (cV.of (aq.refl _))) py)
  ·rw[vQ,if_neg (by rw[pi];exact Yi),Ws];exact Paired.cD pr λz j q=>mono _ _ _ _ (cV.of g3) q
 ·grind
abbrev Nw(H:Hp)(o:HO)(Q:VK):Prop:=∀(p:Addr) (H':Hp),H p=none->aq H H'->H' p=some o->Q (.ref p) H'
theorem Nw.at(h:Nw H o Q):∀p,H p=none->Q (.ref p) (upd H p o):=λp np=>h p _ np (bh np o) aF
def GN(t:TA):TE:=λσ H Q=>t σ H λxs H1=>xs.length<=sizeLine/\Nw H1 (.tup xs) Q
def GO(t:TA):TE:=λσ H Q=>t σ H λxs H1=>xs.length<=sizeLine/\Nw H1 (.lst xs) Q
section
variable {X:Cx}{es:List Expr}{t:TA}{pos:Pos}{K:af}
theorem cf{x1}(h:PA X es t):PE X (.Tuple es x1 pos) (GN t):=by
 intro pins s σ H Q I hq;refine wpAny_Tuple_spliced (av (h pos pins s σ H _ I hq) λus s1 ⟨xs,H1,I1,r,z,q⟩=>⟨by rw[←r.length];exact z,⟨.ref s1.heap.objs.size,upd H1 s1.heap.objs.size (.tup xs),I1.laid (λb u e=>Yb _ e) (Yc _) ?_,rfl,q.at _ (I1.aw.fresh (Yc _))⟩⟩);exact⟨z,us,r,⟨_,Yl _ rfl,rfl,_,rfl,rfl⟩⟩
theorem cY(h:PA X es t):PE X (.List es pos) (GO t):=by
 intro pins s σ H Q I hq;refine wpAny_List_spliced (av (h pos pins s σ H _ I hq) λus s1 ⟨xs,H1,I1,r,z,q⟩=>⟨by rw[←r.length];exact z,⟨.ref s1.heap.objs.size,upd H1 s1.heap.objs.size (.lst xs),I1.laid (λb u e=>Yb _ e) (Yc _) ?_,rfl,q.at _ (I1.aw.fresh (Yc _))⟩⟩);exact⟨z,us,0,r,Yl _ rfl⟩
theorem ck.mono(h:ck X f r)(m:∀xs H Q,r' xs H Q->r xs H Q):ck X f r':=λpins s σ H xs us Q I v q=>h pins s σ H xs us Q I v (m xs H Q q)
theorem bx.mono(h:bx X f r)(m:∀x y H Q,r' x y H Q->r x y H Q):bx X f r':=λpins s σ H x y v u Q I rx ry q=>h pins s σ H x y v u Q I rx ry (m x y H Q q)
theorem lj.mono(h:lj X r)(m:∀x lo hi H Q,r' x lo hi H Q->r x lo hi H Q):lj X r':=λpins s σ H x v vl vu lo hi sl Q I rx hs pl pu q=>h pins s σ H x v vl vu lo hi sl Q I rx hs pl pu (m x lo hi H Q q)
inductive v9(xs:List V)(H:Hp)(Q:VK):Prop
 |mk (j:Int) (aE:xs=[.int j]) (aN:Nw H (.eB 0 j) Q):v9 xs H Q
def DZ:List V->Hp->VK->Prop:=λxs H Q=>v9 xs H Q
theorem vL:ck X (.type "range") DZ:=nM.mono λ_ _ _ zq=>by obtain⟨j,e,q⟩:=zq;exact⟨j,e,q.at⟩
inductive v_(xs:List V)(H:Hp)(Q:VK):Prop
 |mk (p:Addr) (n:Nat) (aE:xs=[.ref p]) (aN:H p=some (.eB 0 (n:Int))) (a9:n<=1000) (bV:Nw H (.tup ((a7 n).map V.int)) Q):v_ xs H Q
def D0:List V->Hp->VK->Prop:=λxs H Q=>v_ xs H Q
theorem BJ(hc:X.calm=true):ck X (.type "tuple") D0:=(vG hc).mono λ_ _ _ zq=>by obtain⟨p,n,e,h,l,q⟩:=zq;exact⟨p,n,e,h,l,q.at⟩
def D1(K:af):List V->Hp->VK->Prop:=λxs H Q=>∃p ys,xs=[.ref p]/\(ah K H p ys\/au K H p ys)/\Nw H (.lst ys) Q
theorem lI(h:X.K=K):ck X (.type "list") (D1 K):=h▸B4.mono λ_ _ _ zq=>by obtain⟨p,ys,e,s,q⟩:=zq;exact⟨p,ys,e,s,q.at⟩
inductive xU(K:af)(x:V)(lo:Option Int)(hi:Option Int)(H:Hp)(Q:VK):Prop
 |mk (a xs) (aE:x=.ref a) (aN:ah K H a xs) (a9:Nw H (.lst (jW xs lo hi)) Q):xU K x lo hi H Q
def GP(K:af):V->Option Int->Option Int->Hp->VK->Prop:=λx lo hi H Q=>xU K x lo hi H Q
theorem xi(h:X.K=K):lj X (GP K):=h▸EA.mono λ_ _ _ _ _ zq=>by obtain⟨a,xs,e,s,q⟩:=zq;exact⟨a,xs,e,s,q.at⟩
def GQ:R2:=λx y H Q=>∃l b xs zs,x=.ref l/\y=.ref b/\H l=some (.lst xs)/\H b=some (.lst zs)/\xs.length+zs.length<=sizeLine/\Nw H (.lst (xs++zs)) Q
theorem lU:bx X (binaryOp .Add) GQ:=FC.mono λ_ _ _ _ zq=>by obtain⟨l,b,xs,zs,e1,e2,h1,h2,z,q⟩:=zq;exact⟨l,b,xs,zs,e1,e2,h1,h2,z,q.at⟩
def EL:TE:=λ_ H Q=>Nw H (.dK []) Q
theorem rm:PE X (.Dict [] [] pos) EL:=λpins s σ H Q I q=>DY pins s σ H Q I q.at
end
abbrev Ch(H:Hp)(a:Addr)(o:HO)(R:Hp->Prop):Prop:=∀H',cV a H H'->H' a=some o->R H'
theorem Ch.at(h:Ch H a o R):R (upd H a o):=h _ (cV.put (cV.of (aq.refl _))) aF
section
variable {X:Cx}
theorem kg.mono{id:String}{r r':V->List V->Hp->VK->Prop}(h:kg X id r)(m:∀x xs H Q,r' x xs H Q->r x xs H Q):kg X id r':=λpins s σ H x xs v us Q I rx rv q=>h pins s σ H x xs v us Q I rx rv (m x xs H Q q)
inductive we(x:V)(vs:List V)(H:Hp)(Q:VK):Prop
 |mk (l xs y) (aE:x=.ref l) (aN:vs=[y]) (a9:H l=some (.lst xs)) (bV:xs.length<sizeLine) (cO:Ch H l (.lst (xs++[y])) (Q .aD)):we x vs H Q
def D2:V->List V->Hp->VK->Prop:=λx vs H Q=>we x vs H Q
theorem CV:kg X "list.append" D2:=lO.mono λ_ _ _ _ zq=>by obtain⟨l,xs,y,e1,e2,h,z,q⟩:=zq;exact⟨l,xs,y,e1,e2,h,z,q.at⟩
def EM:V->List V->Hp->VK->Prop:=λx vs H Q=>∃l xs i k y,x=.ref l/\vs=[.int i]/\H l=some (.lst xs)/\-(2^63)<=i/\i<2^63/\seqIndex? i xs.length=some k/\xs[k]?=some y/\Ch H l (.lst (xs.eraseIdx k)) (Q y)
theorem Ds:kg X "list.pop" EM:=wY.mono λ_ _ _ _ zq=>by obtain⟨l,xs,i,k,y,e1,e2,h,z1,z2,z3,z4,q⟩:=zq;exact⟨l,xs,i,k,y,e1,e2,h,z1,z2,z3,z4,q.at⟩
theorem jT.mono(h:jT X t)(m:∀o i v H Q,t' o i v H Q->t o i v H Q):jT X t':=by
 intro pins s σ H o i x ov iv v Q I r1 r2 r3 q;exact h pins s σ H o i x ov iv v Q I r1 r2 r3 (m _ _ _ _ _ q)
def FX:V->V->V->Hp->(Hp->Prop)->Prop:=λo i v H Q=>∃p xs k j,o=.ref p/\i=.int k/\H p=some (.lst xs)/\eF xs.length k=some j/\Ch H p (.lst (xs.set j v)) Q
theorem rp:jT X FX:=set_list.mono λ_ _ _ _ _ zq=>by obtain⟨p,xs,k,j,e1,e2,h,z,q⟩:=zq;exact⟨p,xs,k,j,e1,e2,h,z,q.at⟩
variable {o i value:Expr}{td ty tv ta:TE}{pos pos':Pos}{f:Str}
inductive xj(D:Ends)(σ:St)(v:V)(x:V)(y:V)(H3:Hp):Prop
 |mk (a ae k) (aE:x=.ref a) (aN:H3 a=some (.dK ae)) (a9:y=kV k) (bV:ae.length<sizeLine) (cO:Ch H3 a (.dK (putK ae k v)) (D.nx σ)):xj D σ v x y H3
def FY(td ty tv:TE):TS:=λD σ H=>tv σ H λv H1=>td σ H1 λx H2=>ty σ H2 λy H3=>xj D σ v x y H3
theorem n4(hu:X.A.units+1<cLine)(ho:PE X o td)(hi:PE X i ty)(hv:PE X value tv)(hs:swapsWith value (some (.Subscript o i pos')) pos.line X.env=pure false:=by rfl):
  PS X (.Assign [.Subscript o i pos'] value pos) (FY td ty tv):=by
 intro pins s σ H D I h;refine wpAny_Assign_Subscript (av (hv pins s σ H _ I h) λr s1 zq=>?_) hs;obtain⟨v,H1,I1,rv,q1⟩:=zq;refine av (ho pins s1 σ H1 _ I1 q1) λu s2 zq=>?_;obtain⟨x,H2,I2,rx,q2⟩:=zq;refine av (hi pins s2 σ H2 _ I2 q2) λiv s3 zq=>?_;obtain⟨y,H3,I3,ry,a,ae,k,ex,ha,ey,l,q3⟩:=zq;subst ex;subst ey;obtain rfl:u=Value.ref a:=rx;exact Dq hu I3 (oX.k ha l) ry rv λs4 I4=>⟨σ,_,I4,q3.at⟩
end
end L2
namespace L2
open PySem PySem.W PySem.Spec PyProof.Rows
end L2
namespace L2
open PySem PySem.Spec PyProof.Rows
abbrev oM(D:List (Str×Str)):List (Str×PyData):=D.map λp=>(p.1,PyData.str p.2)
def j0(K:af)(a:Addr)(D:List (Str×Str)):Prop:=KTD.tabLook KTD.flatLooks (λb=>K.lookup b) a (oM D)=true
theorem lQ(f:δ->ε)(k:Str):∀D:List (Str×δ),KTD.datumAt k (D.map λp=>(p.1,f p.2))=(KTD.datumAt k D).map f
 |[]=>rfl
 |p::D=>by
  rw[Wu];unfold KTD.datumAt;by_cases e:k=p.1;·simp[e]
  ·simp only[e];exact lQ f k D
theorem j0.here{K:af}{a:Addr}{D:List (Str×Str)}{h:Heap}(t:j0 K a D)(j6:K.In h):KTD.Here h h a ((oM D).map λp=>(p.1,KTD.Dat.flat p.2)):=
 ⟨KTD.TabOf.text (KTD.tab_of_look (λ_ _=>KTD.flat_of_looks) (λa o e=>j6 a o e) t),λ_ _ e=>e⟩
def iC(D:List (Str×Str))(z:Str):Bool:=(KTD.datumAt z D).isSome
theorem keys_has(D:List (Str×Str))(z:Str):KTD.inKeys z ((oM D).map λp=>(p.1,KTD.Dat.flat p.2))=iC D z:=by
 rw[←KTD.isSome_datumAt,lQ KTD.Dat.flat,lQ PyData.str];unfold iC
 grind
def FZ(K:af)(neg:Bool):R2:=λx y H Q=>∃(z:Str) (a:Addr) (D:List (Str×Str)),x=.str z/\y=.ref a/\j0 K a D/\Q (.bl (if neg=true then !iC D z else iC D z)) H
theorem F0{X:Cx}{K:af}(hK:X.K=K):bx X (compareOp .In) (FZ K false):=by
 subst hK;rintro pins s σ H x y v u Q I rx ry ⟨z,a,D,rfl,rfl,t,q⟩;obtain⟨tk,rfl⟩:=rx;obtain rfl:u=Value.ref a:=ry;refine KTD.in_text (t.here I.cq) ?_;rw[keys_has];exact⟨.bl (iC D z),H,I.tok _,rfl,q⟩
def F1(K:af):R2:=λx y H Q=>∃(a:Addr) (z r:Str) (D:List (Str×Str)),x=.ref a/\y=.str z/\j0 K a D/\KTD.datumAt z D=some r/\Q (.str r) H
theorem xV{X:Cx}{K:af}(hK:X.K=K):dq X (F1 K):=by
 subst hK;intro value slice pins s σ H x y v u Q I rx ry h hs;obtain⟨a,z,r,D,rfl,rfl,t,e,q⟩:=h;obtain⟨tk,rfl⟩:=ry;obtain rfl:v=Value.ref a:=rx;have T:=t.here I.cq;refine tail_any T.typeIs slot_dict_getitem.lookup ?_ hs;unfold getItem;try with_reducible refine wpAny_holding ?_
 refine wpAny_bind (wpAny_sequenceKey T.typeIs (by decide) ?_);refine wpAny_bind (wpAny_callSpecial?_slot T.typeIs slot_dict_getitem
  (wpAny_call_entry slot_dict_getitem T.typeIs entry_dict_getitem ?_ (args_dict_getitem _ _)))
 show wpAny _ _ (dictGet a (.str z tk)>>=_) _ _ s;have ed:KTD.datumAt z ((oM D).map λp=>(p.1,KTD.Dat.flat p.2))=some (.flat (.str r)):=by rw[lQ KTD.Dat.flat,lQ PyData.str,e];rfl
 refine wpAny_bind (KTD.dictGet_text T (λd v ha hv=>wpAny_pure ⟨v,rfl,wpAny_pure ?_⟩) λhn=>by rw[ed] at hn;cases hn);rw[ed] at ha;cases ha;cases hv s.heap with
 |str x t'=>exact⟨.str r,H,I.tok _,⟨t',rfl⟩,q⟩
def tP(K:af)(neg:Bool):R2:=λx y H Q=>∃(p q:Addr) (xs:List V),x=.ref p/\y=.ref q/\ah K H p xs/\ah K H q []/\Q (.bl (if neg=true then !xs.isEmpty else xs.isEmpty)) H
theorem F2(hu:X.A.units<cLine):bx X (compareOp .NotEq) (tP X.K true):=by
 rintro pins s σ H x y v u Q I rx ry ⟨p,q,xs,rfl,rfl,h1,h2,k⟩;cases rx;cases ry;obtain⟨ag,r1,p1,z1⟩:=I.list h1;obtain⟨e_,r2,p2,z2⟩:=I.list h2;cases r2;have l1:=r1.length;cases xs with
 |nil=>
  cases r1;exact SeqAt.RcNeAt.lists (e:=λ_=>true) p1.isList p2.isList rfl hu (λj h1 _=>absurd h1 (by simp)) _ _ _ _ (bC I k (by simp))
 |cons a r=>exact SeqAt.RcNeAt.lists_lengths p1.isList p2.isList (by simp;intro z;subst z;simp at l1) hu _ _ _ _ (bC I k (by simp))
theorem setC(h:u D (σ.set i (some v)) H):mB (jg (tC v) (fO i)) u D σ H:=h
theorem bf(h:te σ H λx H1=>u D (σ.set i (some x)) H1):mB (jg te (fO i)) u D σ H:=h
theorem jd(h:H a=some (.dK ae))(e:bD ae (.inr z)=o):c7 H a (.str z) o:=.inl ⟨ae,.inr z,.inl h,rfl,e.symm⟩
section
variable {X:Cx}{elt iter tgt:Expr}{xs:List Str}{pos:Pos}{ifs:List Expr}{scope:Scope}{cl:List (Str×Addr)}{fr:List (Str×Nat)}{tg:TG}{tt:TT}{te:TE}{pins:aB}{σ:St}
end
abbrev js(elt t1 i1 t2 i2:Expr)(scope:Scope)(pos:Pos):Expr:=.ListComp elt [⟨t1,i1,[],0⟩,⟨t2,i2,[],0⟩] scope pos
section
variable {prog:Program}{w:World}{A:Around}{R:Result->Shared->Prop}{s:Shared}{elt t1 i1 t2 i2:Expr}{scope:Scope}{pos:Pos}{it acc:Value}{env:Env}
theorem Du(I:Nat->Shared->Prop)
  (turn:∀n s,I n s->wpAny (model prog w) A (pyNext it) (λr aG=>match r with
   |none=>R (.ok .next) aG
   |some v=>wpAny (model prog w) A (letOwnedTupleGo t2 it v) (λ_ bj=>wpAny (model prog w) A (assign t2 env v) (λ_ cE=>
     wpAny (model prog w) A (eval elt env) (λx cA=>
       wpAny (model prog w) A (call (.builtin "list.append") [acc,x]) (λ_ dQ=>∃m,m<n/\I m dQ) (notedBy (model prog w) A env λe s'=>R (.error e) s') cA) (notedBy (model prog w) A env λe s'=>R (.error e) s') cE) (notedBy (model prog w) A env λe s'=>R (.error e) s') bj) (notedBy (model prog w) A env λe s'=>R (.error e) s') aG) (notedBy (model prog w) A env λe s'=>R (.error e) s') s)
  (n:Nat)(h:I n s):codeAny (model prog w) A (.compLoop (js elt t1 i1 t2 i2 scope pos) 1 it acc env) R s:=by
 refine codeAny_loop rfl I (λn s hI=>wpAny_noted (wpAny_bind (wpAny_standAt (wpAny_bind (wpAny_mono (turn n s hI) (λr aG cn=>?_) λ_ _ h'=>h'))))) n h;cases r with
 |none=>exact wpAny_pure cn
 |some v=>
  exact wpAny_bind (wpAny_mono cn (λ_ bj h₀=>wpAny_bind (wpAny_mono h₀ (λ_ cE fT=>wpAny_bind (wpAny_tests_nil (wpAny_bind (wpAny_bind (wpAny_mono fT (λx cA jY=>wpAny_bind (wpAny_mono jY (λ_ dQ jZ=>wpAny_pure (wpAny_pure ⟨rfl,jZ⟩)) λ_ _ h'=>h')) λ_ _ h'=>h'))))) λ_ _ h'=>h')) λ_ _ h'=>h')
theorem Dv(hs:∀x,foldedSetIterable i2 env x=pure x)(I:Nat->Shared->Prop)
  (turn:∀n s,I n s->wpAny (model prog w) A (pyNext it) (λr aG=>match r with
   |none=>R (.ok .next) aG
   |some v=>wpAny (model prog w) A (letOwnedTupleGo t1 it v) (λ_ bj=>wpAny (model prog w) A (assign t1 env v) (λ_ cE=>
     wpAny (model prog w) A (eval i2 env) (λx bw=>wpAny (model prog w) A (pyIter x) (λpM cA=>
      codeAny (model prog w) A (.compStart (js elt t1 i1 t2 i2 scope pos) 1 pM acc env) (λr dQ=>match r with|.ok _=>∃m,m<n/\I m dQ|.error _=>False) cA)
      (notedBy (model prog w) A env λe s'=>R (.error e) s') bw) (notedBy (model prog w) A env λe s'=>R (.error e) s') cE) (notedBy (model prog w) A env λe s'=>R (.error e) s') bj) (notedBy (model prog w) A env λe s'=>R (.error e) s') aG) (notedBy (model prog w) A env λe s'=>R (.error e) s') s)
  (n:Nat)(h:I n s):codeAny (model prog w) A (.compLoop (js elt t1 i1 t2 i2 scope pos) 0 it acc env) R s:=by
 refine codeAny_loop rfl I (λn s hI=>wpAny_noted (wpAny_bind (wpAny_standAt (wpAny_bind (wpAny_mono (turn n s hI) (λr aG cn=>?_) λ_ _ h'=>h'))))) n h;cases r with
 |none=>exact wpAny_pure cn
 |some v=>
  refine wpAny_bind (wpAny_mono cn (λ_ bj h₀=>wpAny_bind (wpAny_mono h₀ (λ_ cE fT=>wpAny_bind (wpAny_tests_nil (wpAny_bind (wpAny_mono fT (λx bw iB=>wpAny_bind (wpAny_standAt ?_)) λ_ _ h'=>h')))) λ_ _ h'=>h')) λ_ _ h'=>h');rw[hs];refine wpAny_bind (wpAny_pure (wpAny_bind (wpAny_holding (wpAny_mono iB (λpM cA jY=>wpAny_bind (wpAny_runOwn (codeAny_mono jY λr dQ jZ=>?_))) λ_ _ h'=>h'))));cases r with
  |error e=>grind
  |ok f=>exact wpAny_pure ⟨rfl,jZ⟩
theorem B7
  (h0:codeAny (model prog w) A (.compLoop (js elt t1 i1 t2 i2 scope pos) 1 it acc env) R s)
  (h:wpAny (model prog w) A (pyIter it) (λuB s'=>codeAny (model prog w) A (.compLoop (js elt t1 i1 t2 i2 scope pos) 1 uB acc env) R s') (notedBy (model prog w) A env λx s'=>R (.error x) s') s):
  codeAny (model prog w) A (.compStart (js elt t1 i1 t2 i2 scope pos) 1 it acc env) R s:=by
 refine codeAny_of_tree (wpAny_notedAt (wpAny_bind (wpAny_askSetting (wpAny_ite ?_))));split
 ·first
   |exact wpAny_bind (wpAny_pure (wpAny_pure (And.intro rfl h0)))
   |exact wpAny_pure (And.intro rfl h0)
 ·first
   |exact wpAny_bind (wpAny_rule (wpAny_bind (wpAny_standAt (wpAny_bind (wpAny_mono h (λuB s' h'=>wpAny_pure (And.intro rfl h')) λ_ _ x=>x)))))
   |(refine wpAny_bind (wpAny_rule ?_);show wpAny _ _ (standAt i2.pos>>=_) _ _ s;exact wpAny_bind (wpAny_standAt (wpAny_bind (wpAny_mono h (λuB s' h'=>wpAny_pure (And.intro rfl h')) λ_ _ x=>x))))
end
def sG(n:Nat)(J:It)(eJ:TG)(eK:TI)(f_:TG)(te:TE)(fv:St)(D:Addr)(H:Hp)(Q:VK):Prop:=
 ∃W:Nat->Nat->List V->Hp->Prop,(∃m,W 0 m [] (upd H D (.lst [])))/\∀i m ys H,W i m ys H->
  (J.stop i H/\Q (.ref D) H)\/(J.go i H/\∃N:List V->Hp->Prop,(∀cy H',N cy H'->∃m',m'<m/\W (i+1) m' cy H')/\
   ∀v H',J.fV i H v H'->∀os:St,os.length=n->eJ v (os++fv) H' λbW H2=>(∃dU:St,dU.length=n/\bW=dU++fv)/\eK bW H2 λJ2 H3=>
    ∃W2:Nat->Nat->List V->St->Hp->Prop,(∃m2,W2 0 m2 ys bW H3)/\∀i2 m2 eL cG H4,W2 i2 m2 eL cG H4->
     (J2.stop i2 H4/\(∃lq:St,lq.length=n/\cG=lq++fv)/\N eL H4)\/(J2.go i2 H4/\∃N2:List V->St->Hp->Prop,(∀cy aH H',N2 cy aH H'->∃m',m'<m2/\W2 (i2+1) m' cy aH H')/\
      ∀v2 H5,J2.fV i2 H4 v2 H5->f_ v2 cG H5 λni H6=>te ni H6 λy H7=>H7 D=some (.lst eL)/\eL.length<sizeLine/\N2 (eL++[y]) ni (upd H7 D (.lst (eL++[y])))))
section
variable {X:Cx}{elt t1 i1 t2 i2:Expr}{xs:List Str}{pos:Pos}{scope:Scope}{cl:List (Str×Addr)}{fr:List (Str×Nat)}{eJ f_:TG}{eK:TI}{te:TE}{pins:aB}{σ:St}
theorem CW{H2:Hp}{s2:Shared}{it:Addr}{fp:List Addr}{tn:Nat->Heap->Prop}{J:It}{Q:VK}{RR:Value->Addr->Result->Shared->Prop}{E:aC}
  (hc:X.calm=true)(S:ic X scope cl xs fr)(hg:∀C s H fp,PG (aT X xs fr scope cl C s H fp) t1 eJ)(nj:∀C s H fp,PI (aT X xs fr scope cl C s H fp) t2 i2 eK)(uC:∀C s H fp,PG (aT X xs fr scope cl C s H fp) t2 f_)(he:∀C s H fp,PE (aT X xs fr scope cl C s H fp) elt te)
  (fi:∀C x,foldedSetIterable i2 (compEnvC scope cl C X.env) x=pure x)
  (I2:Inv X pins σ H2 s2)(T:Turn X.prog X.w X.K t1 J fp it tn)(cB:tn 0 s2.heap)(f2:∀b∈fp,cR X pins H2 b)
  (hw:∀D,H2 D=none->sG xs.length J eJ eK f_ te (cw σ fr) D H2 Q)
  (hR:∀D C s1 H1 m,Inv X pins σ H1 s1->s1.heap.Ns C m->H1 C=none->C≠X.env.locals->X.bj.heap.objs.size<=C->(∀y c,X.env.cells.lookup y=some c->c≠C)->(∀p∈X.pn++pins,p.1≠C)->Q (.ref D) H1->RR (.ref D) C (.ok .next) s1):
  wpAny X.md X.A (newList []) (λacc bw=>wpAny X.md X.A (newFunctionEnv scope X.env.globals cl [] X.env.qual none .none (some X.env)) (λcZ cA=>
   codeAny X.md X.A (.compStart (js elt t1 i1 t2 i2 scope pos) 0 (.ref it) acc {cZ with scope:=relabel scope X.env}) (RR acc cZ.locals) cA) E bw) E s2:=by
 refine wZ (tgt:=t1) (iter:=i1) (ifs:=[]) (rest:=[⟨t2,i2,[],0⟩]) S I2 T cB f2 hR λD C s H3 bw hD e3 I4 fY jm fin=>?_;obtain⟨W,⟨m0,w0⟩,turn⟩:=hw D hD;rw[←e3] at w0;refine Dv (fi _) (λk s'=>∃i ys H' os,os.length=xs.length/\Inv (aT X xs fr scope cl C s H3 fp) [] (os++cw σ fr) H' s'/\tn i s'.heap/\(∀b∈fp,H' b=none)/\W i k ys H') ?_ m0
  ⟨0,[],_,List.replicate xs.length none,Yz,I4,fY,jm,w0⟩
 rintro n s5 ⟨i,ys,H5,os,iJ,I5,fg,gR,w5⟩;have dB:∀{H':Hp},(∀b∈fp,H' b=none)->∀b∈fp,cR (aT X xs fr scope cl C s H3 fp) [] H' b:=λ{H'} hn b hb=>
  ⟨hn b hb,(I5.ok.jh b hb).1,I5.ok.jR b hb,.inl hb,(I5.ok.jh b hb).2,λp hp=>absurd (show p∈([]:aB) from hp) (by simp)⟩
 rcases turn i n ys H5 w5 with⟨stop,qn⟩|⟨go,N,hN,step⟩
 ·refine av (T.done (aT X xs fr scope cl C s H3 fp) rfl rfl rfl hc i [] s5 _ H5 _ I5 (dB gR) fg stop) λr s6 zq=>?_;obtain⟨hr,I6⟩:=zq;subst hr;exact fin _ _ _ I6 qn
 ·refine av (T.item (aT X xs fr scope cl C s H3 fp) rfl rfl rfl hc i [] s5 _ H5 _ I5 (dB gR) fg go) λr s6 zq=>?_;obtain⟨u,hr,h6⟩:=zq;subst hr;refine av h6 λ_ s7 zq=>?_;obtain⟨v,H7,I7,r7,y7,fZ,m7⟩:=zq;have m8:=I7.pinned (dB m7) (T.obj _ _ fZ);refine wpAny_mono (hg _ _ _ _ _ s7 _ H7 v u _ m8 r7 (step v H7 y7 os iJ)) (λ_ s8 zq=>?_) λ_ _ z=>False.elim z;obtain⟨AD,H8,I8,⟨dU,mG,e8⟩,q8⟩:=zq;subst e8;have again:∀{dW:St} {H9:Hp} {s9:Shared} {dX:List V},dW.length=xs.length->Inv (aT X xs fr scope cl C s H3 fp) ([]++ir fp s7.heap) (dW++cw σ fr) H9 s9->N dX H9->
    ∃m,m<n/\∃i ys H' os,os.length=xs.length/\Inv (aT X xs fr scope cl C s H3 fp) [] (os++cw σ fr) H' s9/\tn i s9.heap/\(∀b∈fp,H' b=none)/\W i m ys H':=λ{dW H9 s9 dX} l1 I9 n9=>by
   obtain⟨m',hm,w9⟩:=hN dX H9 n9;refine⟨m',hm,i+1,dX,H9,dW,l1,I9.jD,T.keep _ _ _ fZ λb hb o e=>(I9.pin (b,o) (Yg _ (Yg _ (gh hb e)))).1,λb hb=>?_,w9⟩;obtain⟨o,e,d⟩:=T.obj _ _ fZ b hb;exact(I9.pin (b,o) (Yg _ (Yg _ (gh hb e)))).2.1
  refine wpAny_mono (nj _ _ _ _ _ s8 _ H8 _ I8 q8) (λx s9 h9=>wpAny_mono h9 (λj_ pG IP=>?_) λ_ _ z=>False.elim z) λ_ _ z=>False.elim z;obtain⟨pM,uD,IQ,J2,pH,IS,m9,T2,zY,uE,W2,⟨m2,w2⟩,GR⟩:=IP;subst IS;have s_:∀{H':Hp},(∀b∈uD,H' b=none)->∀b∈uD,cR (aT X xs fr scope cl C s H3 fp) ([]++ir fp s7.heap) H' b:=λhn b hb=>⟨hn b hb,(uE b hb).2⟩;have zp:codeAny X.md X.A (.compLoop (js elt t1 i1 t2 i2 scope pos) 1 (.ref pM) (.ref D) (compEnvC scope cl C X.env)) (λr dQ=>match r with|.ok _=>∃m,m<n/\∃i ys H' os,os.length=xs.length/\Inv (aT X xs fr scope cl C s H3 fp) [] (os++cw σ fr) H' dQ/\tn i dQ.heap/\(∀b∈fp,H' b=none)/\W i m ys H'|.error _=>False) pG:=by
   refine Du (λk s'=>∃j zs aH H',Inv (aT X xs fr scope cl C s H3 fp) ([]++ir fp s7.heap) aH H' s'/\IQ j s'.heap/\(∀b∈uD,H' b=none)/\W2 j k zs aH H') ?_ m2 ⟨0,ys,_,pH,m9,zY,λb hb=>(uE b hb).1,w2⟩;rintro k pI ⟨j,zs,Hw,pJ,lp,zZ,z5,IT⟩;rcases GR j k zs Hw pJ IT with⟨stop,⟨lq,Hx,e3⟩,qn⟩|⟨go,N2,IU,GS⟩
   ·refine av (T2.done (aT X xs fr scope cl C s H3 fp) rfl rfl rfl hc j _ pI _ pJ _ lp (s_ z5) zZ stop) λr IV zq=>?_;obtain⟨hr,IW⟩:=zq;subst hr;subst e3;exact again Hx IW qn
   ·refine av (T2.item (aT X xs fr scope cl C s H3 fp) rfl rfl rfl hc j _ pI _ pJ _ lp (s_ z5) zZ go) λr IV zq=>?_;obtain⟨u2,hr,IX⟩:=zq;subst hr;refine av IX λ_ IY zq=>?_;obtain⟨v2,AJ,IZ,I0,I_,tQ,Hy⟩:=zq;have Hz:=IZ.pinned (s_ Hy) (T2.obj _ _ tQ);refine wpAny_mono (uC _ _ _ _ _ IY _ AJ v2 u2 _ Hz I0 (GS v2 AJ I_)) (λ_ Jq zq=>?_) λ_ _ z=>False.elim z;obtain⟨HH,Jr,Js,uF⟩:=zq;refine wpAny_mono (he _ _ _ _ _ Jq _ Jr _ Js uF) (λu1 Jt zq=>?_) λ_ _ z=>False.elim z;obtain⟨y,Ju,Jv,Jw,hD,hz,Jx⟩:=zq;refine wpAny_mono (lO (X:=aT X xs fr scope cl C s H3 fp) _ Jt _ Ju (.ref D) [y] _ [u1] (λ_ H'=>N2 (zs++[y]) HH H') Jv rfl (.cons Jw .nil) ⟨_,zs,y,rfl,rfl,hD,hz,Jx⟩) (λ_ Me zq=>?_) λ_ _ z=>False.elim z;obtain⟨_,Jy,uG,_,uH⟩:=zq;obtain⟨m',hm,Jz⟩:=IU _ _ _ uH;refine⟨m',hm,j+1,_,_,Jy,uG.jD,T2.keep _ _ _ tQ λb hb o e=>(uG.pin (b,o) (Yg _ (Yg _ (gh hb e)))).1,λb hb=>?_,Jz⟩;obtain⟨o,e,d⟩:=T2.obj _ _ tQ b hb;exact(uG.pin (b,o) (Yg _ (Yg _ (gh hb e)))).2.1
  exact B7 zp (T2.self _ 0 _ _ _ zY zp)
def F3(n:Nat)(wi:TI)(fr:List (Str×Nat))(eJ:TG)(eK:TI)(f_:TG)(te:TE):TE:=λσ H Q=>wi σ H λJ H1=>∀D,H1 D=none->sG n J eJ eK f_ te (cw σ fr) D H1 Q
theorem D3(hc:X.calm=true)(S:ic X scope cl xs fr)(hg:∀C s H fp,PG (aT X xs fr scope cl C s H fp) t1 eJ)(hi:PI X t1 i1 wi)(nj:∀C s H fp,PI (aT X xs fr scope cl C s H fp) t2 i2 eK)(uC:∀C s H fp,PG (aT X xs fr scope cl C s H fp) t2 f_)
  (he:∀C s H fp,PE (aT X xs fr scope cl C s H fp) elt te)(hs:∀x,foldedSetIterable i1 X.env x=pure x:=by intro _;rfl)(fi:∀C x,foldedSetIterable i2 (compEnvC scope cl C X.env) x=pure x:=by intro _ _;rfl):
  PE X (.ListComp elt [⟨t1,i1,[],0⟩,⟨t2,i2,[],0⟩] scope pos) (F3 xs.length wi fr eJ eK f_ te):=by
 intro pins s σ H Q I h;refine wpAny_comprehension_free rfl hs S.jX S.kind S.names (av (hi pins s σ H _ I h) λv s1 h1=>av h1 λj_ s2 h2=>?_);obtain⟨it,fp,tn,J,H2,e,I2,T,cB,f2,hw⟩:=h2;subst e;refine CW (RR:=λacc C=>compPost X.md X.A X.xe none (EP X pins σ Q) acc C) hc S hg nj uC he fi I2 T cB f2 hw ?_;intro D C s1 H1 m I1 hn f0 f1 f3 f4 f5 q;exact⟨m,hn,λh' gU=>⟨.ref D,H1,I1.turned (λb o hb e=>gU.extBut b o hb e) f0 f1 (.inr f3) f4 f5,rfl,q⟩⟩
end
theorem gj{X:Cx}{K:af}{tg l:Expr}{tl:TE}(h:X.K=K)(hl:PE X l tl):PI X tg l (y9 K tl):=h▸xD hl
theorem fK{X:Cx}{K:af}{pos:Pos}{es:List Expr}{k:Nat}{t:gH}{n:Nat}(h:X.K=K)(hc:X.calm=true)(hg:mU X es t)
  (hn:(assignEach es X.env).length=n:=by rfl)(cu:(assignEach es X.env).findIdx? (·.1)=none:=by rfl):PG X (.Tuple es k pos) (zG K n t):=h▸Fn hc hg hn cu
section
variable {prog:Program}{w:World}{κ:Type}[DecidableEq κ]{knd:PySem.KeyKind prog w κ}{A:Around}{E:aC}{s:Shared}
end
section
variable {X:Cx}{pins:aB}{σ:St}{H:Hp}{s:Shared}{a:Addr}{ae:List (Key×V)}{k:Key}{z:V}{u r:Value}{A:Around}{E:aC}
end
section
variable {X:Cx}{o e f:Expr}{apos dC:Pos}{td ty tx:TE}
end
end L2
namespace L2
open PySem PySem.W PySem.Calls PySem.Spec PyProof.Rows
section
variable {prog:Program}{w:World}{A:Around}{E:aC}{s:Shared}
end
section
variable {prog:Program}{w:World}{A:Around}{E:aC}{s:Shared}
end
section
variable {prog:Program}{w:World}{A:Around}{E:aC}{s:Shared}
end
section
variable {n:Nat}{lt:Nat->Nat->Bool}
end
section
variable {prog:Program}{w:World}{A:Around}{E:aC}{s:Shared}
end
end L2
namespace L2
open PySem PySem.Spec PyProof.Rows
theorem yH{X:Cx}{K:af}{ex:Expr}{T:String}{r:V->List V->Hp->VK->Prop}{to:TE}{t:TA}(h:X.K=K)(p:PE X ex (uk X.K T r to t)):PE X ex (uk K T r to t):=h▸p
theorem EN{X:Cx}{K:af}{f:Value->Value->Sem Value}{b:Bool}(h:X.K=K)(p:bx X f (tP X.K b)):bx X f (tP K b):=h▸p
section
variable {X:Cx}{pins:aB}{σ:St}{H:Hp}{s:Shared}{d:Addr}{ae:List (Key×V)}
end
theorem yI{α β:Type}{f:α->Option β}{g:α->β}:∀{l:List α},(∀k∈l,f k=some (g k))->l.filterMap f=l.map g
 |[],_=>rfl
 |a::l,h=>by rw[Wr,h a Yy,Wu,yI λk hk=>h k (Y1 _ hk)]
theorem D4(ag:List Value):slicePick ag.toArray none none (some (-1))=ag.reverse.toArray:=by
 unfold slicePick;have hb:sliceBounds none none (some (-1)) ag.toArray.size=((ag.length:Int)-1,-1,-1):=by
  unfold sliceBounds;simp
 rw[hb];have hr:sliceRange ((ag.length:Int)-1) (-1) (-1)=(List.range ag.length).map λk=>ag.length-1-k:=by
  unfold sliceRange
  grind
 show(((sliceRange ((ag.length:Int)-1) (-1) (-1)).filterMap (ag.toArray[·]?)).toArray)=_;rw[hr];have hm:((List.range ag.length).map λk=>ag.length-1-k).filterMap (ag.toArray[·]?)=ag.reverse:=by
  rw[List.filterMap_map];rw[yI (g:=λk=>ag.getD (ag.length-1-k) Value.none) λk hk=>by
   have:=Y6.mp hk;show ag.toArray[ag.length-1-k]?=some (ag.getD (ag.length-1-k) Value.none);rw[List.getElem?_toArray,Wa,Ye (by omega)];rfl]
  refine Y7 λi=>?_
  grind
 rw[hm]
theorem vM:∀{xs:List V} {us:List Value},Vals xs us->Vals xs.reverse us.reverse
 |_,_,.nil=>.nil
 |_,_,.cons r t=>by
  rw[List.reverse_cons,List.reverse_cons];exact(vM t).append (.cons r .nil)
section
variable {P:Program}{w:World}{A:Around}{E:aC}{s:Shared}{it d:Addr}{i n ep:Nat}{ok ov:Value}{o:Obj}{es:Array DictEntry}{e:DictEntry}
end
section
variable {P:Program}{w:World}{A:Around}{E:aC}{s:Shared}{d o:Addr}{knd:HeapKind P w (List Key)}{xs ms:List (List Key×Addr×Value)}
end
section
variable {X:Cx}
end
section
variable {X:Cx}{pins:aB}{σ:St}{H:Hp}{s:Shared}{d:Addr}{ae:List (List Key×V)}
end
section
variable {X:Cx}{o i:Expr}{td ty:TE}{zM pos:Pos}
end
end L2
namespace L2
open PySem PySem.W PySem.Spec PyProof.Rows
section
variable {prog:Program}{w:World}{A:Around}{E:aC}{s:Shared}
end
theorem xW:bx X (binaryOp .Mult) (λx y H Q=>∃(z:Str) (n:Nat),x=.str z/\y=.int (n:Int)/\z.length<=100/\n<=100/\Q (.str (Txt.mul z (n:Int))) H):=by
 intro pins s σ H x y v u Q I rx ry h;obtain⟨z,n,rfl,rfl,lz,ln,q⟩:=h;obtain⟨t,rfl⟩:=rx;obtain⟨t',rfl⟩:=ry;have lm:z.length*n<=10000:=Yx (Nat.mul_le_mul lz ln) (by omega);refine PySem.SB.mul ⟨?_,λh1 _=>?_,λ_ _=>?_⟩ λt2 k=>⟨.str (Txt.mul z (n:Int)),H,I.tok k,⟨t2,rfl⟩,q⟩;·rw[decide_eq_false (by omega),decide_eq_false (by omega)];rfl
 ·have hn:(1:Int)<=(n:Int):=by omega
  intro Mf;have h3:((2:Int)^63-1)/(n:Int)≥(2^63-1)/100:=by
   refine Int.le_ediv_of_mul_le (by omega) ?_
   grind
  have h4:((2:Int)^63-1)/100>100:=by decide
  omega
 ·rw[Yq];exact decide_eq_false (by rw[sizeLine_eq];omega)
section
variable {X:Cx}
end
def pN(g:Nat->Value):Nat->Nat->List Value
 |0,_=>[]
 |n+1,i=>g i::pN g n (i+1)
theorem yJ(g:Nat->Value):∀(us:List Value) (i:Nat),(∀k,us[k]?=some (g (i+k))\/us.length<=k)->us=pN g us.length i
 |[],_,_=>rfl
 |a::r,i,h=>by
  have e:a=g i:=by
   rcases h 0 with z|z;·grind
   ·cases z
  refine congr (congrArg _ e) (yJ g r (i+1) λk=>?_);have:=h (k+1)
  grind
inductive bF(K:af)(x:Str)(st:Stmt)(f:Addr):Prop
 |mk {od an:Option Addr} {sl:Array (Option Value)} {oc kV dc pm cd ct:Value} (a:nsIn K mainGlobals x=some (some (.ref f))) (l:K.lookup f=some ⟨oc,od,.func (fnOf x x (ij st) (eV st) (aM st) .none kV dc pm an cd ct),sl⟩) (c:codeIn K cd x=true) (k:keepIn K (.ref f)=true):bF K x st f
inductive jt(K:af)(C:Addr)(x q:Str)(st:Stmt)(f:Addr):Prop
 |mk {od an:Option Addr} {sl:Array (Option Value)} {oc kV dc pm cd ct:Value} (a:PySem.W.findIn K (.ref C) x=some (some (.ref f))) (b:isFn K (.ref f)=true) (l:K.lookup f=some ⟨oc,od,.func (fnOf x q (ij st) (eV st) (aM st) .none kV dc pm an cd ct),sl⟩) (c:codeIn K cd q=true) (k:keepIn K (.ref f)=true):jt K C x q st f
inductive fm(P:Program)(w:World)(K:af)(mg:aJ)(base:Heap):Prop
 |mk {h:Heap} (X:K.In h) (G:h.Ns mainGlobals mg):fm P w K mg base
abbrev gY(x q:Str)(st:Stmt)(ps:List Str):Prop:=∀(kV doc pm:Value) (an:Option Addr) (a_ ct:Value) (g:Nat->Value),bindArgs (fnOf x q (ij st) (eV st) (aM st) .none kV doc pm an a_ ct) ⟨pN g ps.length 0,[]⟩=pure (ps.zip (pN g ps.length 0))
theorem gY.at{x q:Str}{st:Stmt}{ps:List Str}(b:gY x q st ps)(kV doc pm:Value)(an:Option Addr)(a_ ct:Value)(us:List Value)(hl:us.length=ps.length):bindArgs (fnOf x q (ij st) (eV st) (aM st) .none kV doc pm an a_ ct) ⟨us,[]⟩=pure (ps.zip us):=by
 have e:=yJ (λk=>us.getD k .none) us 0 λk=>by
  grind
 grind
section
variable {P:Program}{w:World}{K:af}{mg:aJ}{base:Heap}{C f:Addr}{x q:Str}{st:Stmt}{ps:List Str}{n:Nat}{sp:Sp}
theorem fm.p(D:fm P w K mg base)(p:bF K x st f)(b:gY x x st ps:=by intro _ _ _ _ _ _ _;rfl):∃fd,aS K x x st f fd/\Binds K fd ps []/\keepIn K (.ref f)=true/\mg x=some (.ref f):=by
 obtain⟨X,G⟩:=D;obtain⟨a,l,c,k⟩:=p;exact⟨_,l3 l c k,(l3 l c k).binds (gY.at b),k,mg_of X G a⟩
theorem fm.d(D:fm P w K mg base)(p:bF K x st f)(o:∀fd,aS K x x st f fd->aL P w K mg base aU n f fd ps sp)(b:gY x x st ps:=by intro _ _ _ _ _ _ _;rfl):HasFn P w K mg base n x ps sp:=by
 obtain⟨fd,F,b,k,m⟩:=D.p p b;exact⟨f,fd,o _ F,b,k,m⟩
theorem jt.p(p:jt K C x q st f)(b:gY x q st ps):∃fd,aS K x q st f fd/\Binds K fd ps []/\Meth K C x f/\PySem.W.findIn K (.ref C) x=some (some (.ref f))/\isFn K (.ref f)=true:=by
 obtain⟨a,e,l,c,k⟩:=p;exact⟨_,l3 l c k,(l3 l c k).binds (gY.at b),⟨a,e,k⟩,a,e⟩
theorem fm.m(_:fm P w K mg base)(kc:fj K C)(p:jt K C x q st f)(o:∀fd,aS K x q st f fd->aL P w K mg base aU n f fd ps sp)(b:gY x q st ps:=by intro _ _ _ _ _ _ _;rfl):sZ P w K mg base n x C ps sp:=by
 obtain⟨fd,F,b,m,_,_⟩:=p.p b;exact⟨f,fd,kc,m,o _ F,b⟩
theorem fm.i(_:fm P w K mg base){y:Str}(m:mg y=some (.ref C))(cb:makesIn K C=true)(cc:keepIn K (.ref C)=true)(p:jt K C "__init__" q st f)(o:∀fd,aS K "__init__" q st f fd->aL P w K mg base aU n f fd ps sp)(b:gY "__init__" q st ps:=by intro _ _ _ _ _ _ _;rfl):oK P w K mg base n y C ps sp:=by
 obtain⟨fd,F,b,_,a,e⟩:=p.p b;exact⟨f,fd,⟨cb,a,e,cc⟩,o _ F,b,m⟩
end
end L2
namespace L2
open PySem PySem.Spec PyProof.Rows
section
variable {X:Cx}{K:af}
theorem aQ(i:Nat){x:Str}{e:Expr}{te:TE}{pos pos':Pos}(hN:X.N.Nodup)(he:PE X e te)(hi:X.N[i]?=some x:=by rfl)(hx:Loc X.env.scope x:=by exact Or.inl rfl)(hs:swapsWith e (some (.Name x pos')) pos.line X.env=pure false:=by rfl)
  (hf:X.fn x=true\/X.env.scope.names.lookup x=some .local:=by first|exact .inl rfl|exact .inr rfl|assumption):PS X (.Assign [.Name x pos'] e pos) (jg te (fO i)):=eX hN hi hx he hs hf
theorem bg(i:Nat){x:Str}{pos:Pos}(hN:X.N.Nodup)(hi:X.N[i]?=some x:=by rfl)(hx:Loc X.env.scope x:=by exact Or.inl rfl)
  (hf:X.fn x=true\/X.env.scope.names.lookup x=some .local:=by first|exact .inl rfl|exact .inr rfl|assumption):PG X (.Name x pos) (fO i):=jE hN hi hx hf
theorem pF(K:af)(i:Nat){x f:Str}{p pos:Pos}(h:X.K=K:=by rfl)(hN:X.N[i]?=some x:=by rfl)(hv:k_ X.env.scope x:=by first|exact Or.inl rfl|exact Or.inr (Or.inl rfl)|exact Or.inr (Or.inr rfl))(hd:(x==("__debug__":Str))=false:=by decide)
  (dD:(x==("__classdict__":Str))=false:=by decide)(hb:attributeBase (.Name x p) f X.env (eval (.Name x p) X.env)=eval (.Name x p) X.env:=by rfl):PE X (.Attribute (.Name x p) f pos) (tI K (fR i) f):=EK h (pv i hN hv hd dD) hb
theorem aI{k j:Nat}{x:Str}{ps:List Str}{sp:Sp}{p pos:Pos}{e:Expr}{es:List Expr}{t:TA}(h:HasFn X.prog X.w X.K X.mg X.base k x ps sp)(hr:bM j X.A)(ha:PA X (e::es) t)(hj:k<=j:=by omega)(hg:Gl X x:=by rfl)
  (eE:(x==("__debug__":Str))=false:=by decide)(he:fU X e es:=by rfl)(cI:gw X pos es:=by rfl):
  PE X (.Call (.Name x p) (e::es) [] pos) (sS sp [] E0 t):=sW h hr hj hg ha eE he cI
theorem az{r:R2}{a b:Expr}{ta tb:TE}{pos:Pos}(hr:dq X r)(ha:PE X a ta)(hb:PE X b tb)(hs:xO b:=by exact λ_ _=>rfl):PE X (.Subscript a b pos) (fh r ta tb):=zf hr ha hb hs
end
section
variable {P:Program}{w:World}{K:af}{mg:aJ}{base:Heap}
theorem aS.o{x qual:Str}{st:Stmt}{f:Addr}{fd:FuncData}{N ps:List Str}{k:Nat}{sp:Sp}(F:aS K x qual st f fd)(S:bc N ps (aM st))
  (jO:∀{a_:Value} {A:Around} {outer:List Env} {vs:List V} {Q:VK} {E:XK} (s:Shared) (H:Hp),bM k (A.deeper (envOfC qual (aM st) s.heap.objs.size f a_))->sp vs H Q E->
   ∃t,dm (fS aU P w K mg base N qual (aM st) f a_ A outer s H E).mS (eV st) t/\t {nx:=λ_ H'=>Q .aD H',rt:=Q} (start N vs) H)
  (len:∀vs H Q E,sp vs H Q E->vs.length=ps.length:=by intro vs H Q E h;first|(cases h;subst_vars;rfl)|((repeat obtain⟨_,h⟩:=h);subst_vars;rfl)):aL P w K mg base aU (k+1) f fd ps sp:=F.ok S len λ_ _ _ s H _ _ _=>jO s H
end
theorem bc.bO{N P:List Str}{sc:Scope}(a:sc.kind=.function:=by rfl)(b:sc.isCoroutine=false:=by rfl)(c:sc.isGenerator=false:=by rfl)(d:N.Nodup:=by decide+kernel)(e:N.take P.length=P:=by rfl)(f:∀x∈P,sc.names.lookup x=some .local\/sc.names.lookup x=some .cell:=by decide+kernel)(g:∀y∈sc.names,y.2≠.free:=by decide+kernel):bc N P sc:=⟨a,b,c,d,e,f,g⟩
theorem kK.fo{X:Cx}{scope:Scope}{cl:List (Str×Addr)}{x:Str}{fr:List (Str×Nat)}(sub:i7 X.env.cells cl)(cN:i8 X scope cl fr)(a:closureFor scope X.env=pure cl:=by with_unfolding_all rfl)(b:scope.kind=.function:=by rfl)(c:∀y∈scope.names,y.2=.local->scope.names.lookup y.1=some .local:=by decide+kernel)(d:scope.names.lookup x=some .local:=by rfl)
  (e:∀y∈scope.names,y.2≠.cell:=by decide+kernel)(f:(scope.names.all λy=>!(y.2==.free)||(cl.lookup y.1).isSome)=true:=by rfl)(g:(x::fr.map (·.1)).Nodup:=by decide+kernel):kK X scope cl x fr:=⟨a,sub,b,c,d,e,f,cN,g⟩
theorem ic.fo{X:Cx}{scope:Scope}{cl:List (Str×Addr)}{xs:List Str}{fr:List (Str×Nat)}(sub:i7 X.env.cells cl)(cN:i8 X scope cl fr)(a:closureFor scope X.env=pure cl:=by with_unfolding_all rfl)(b:scope.kind=.function:=by rfl)(c:∀y∈scope.names,y.2=.local->scope.names.lookup y.1=some .local:=by decide+kernel)
  (e:∀y∈scope.names,y.2≠.cell:=by decide+kernel)(f:(scope.names.all λy=>!(y.2==.free)||(cl.lookup y.1).isSome)=true:=by rfl)(g:(xs++fr.map (·.1)).Nodup:=by decide+kernel):ic X scope cl xs fr:=⟨a,sub,b,c,e,f,cN,g⟩
end L2
namespace L2
open PySem PySem.W PySem.Spec PyProof.Rows
inductive ju(K:af):List Str->Prop
 |nil:ju K []
 |cons {x:Str} {l:List Str} (h:nsIn K mainGlobals x=some none) (t:ju K l):ju K (x::l)
theorem ju.at{K:af}{x:Str}:∀{l:List Str},ju K l->x∈l->nsIn K mainGlobals x=some none
 |_,.cons h t,m=>by
  cases m with
  |head=>exact h
  |tail _ m=>exact t.at m
theorem ju.bl{K:af}{h:Heap}{mg:aJ}(z:ju K ["len","abs","list","range","tuple","any","all","isinstance","bool","int","str","sorted","min","max","sum","dict","reversed","ValueError"])(X:K.In h)(G:h.Ns mainGlobals mg):Bl mg:=by
 constructor<;>exact PySem.W.mg_none_of X G (z.at (by decide))
inductive uI(K:af)(x:Str)(C:Addr):Prop
 |mk (a:nsIn K mainGlobals x=some (some (.ref C))) (b:makesIn K C=true) (c:keepIn K (.ref C)=true):uI K x C
theorem fm.j{P:Program}{w:World}{K:af}{mg:aJ}{base:Heap}{C f:Addr}{y q:Str}{st:Stmt}{ps:List Str}{n:Nat}{sp:Sp}(D:fm P w K mg base)(g:uI K y C)(p:jt K C "__init__" q st f)(o:∀fd,aS K "__init__" q st f fd->aL P w K mg base aU n f fd ps sp)(b:gY "__init__" q st ps:=by intro _ _ _ _ _ _ _;rfl):oK P w K mg base n y C ps sp:=by
 obtain⟨a,m,k⟩:=g;exact D.i (let⟨X,G⟩:=D;mg_of X G a) m k p o b
end L2
namespace L2
open PySem PySem.Spec PyProof.Rows
section
variable {X:Cx}{a b e e2:Expr}{ta tb te AK:TE}{p pos:Pos}
theorem cg(K:af)(bl:Bl X.mg)(he:PE X e te)(h:X.K=K:=by rfl)(hg:Gl X "len":=by rfl)(cu:starEach [e] X.env=(false,eval e X.env)::starEach [] X.env:=by rfl)(cI:(backTo pos (starEach [] X.env)).any (·.1)=false:=by rfl):PE X (.Call (.Name "len" p) [e] [] pos) (gT (mH K) (fP te iA)):=ie (Hs h) hg bl.zi yz (aa he ai cu) (by decide) (by decide) cu cI
theorem cS(K:af)(bl:Bl X.mg)(he:PE X e te)(h2:PE X e2 AK)(h:X.K=K:=by rfl)(hg:Gl X "isinstance":=by rfl)(fi:starEach [e2] X.env=(false,eval e2 X.env)::starEach [] X.env:=by rfl)(cu:starEach [e,e2] X.env=(false,eval e X.env)::starEach [e2] X.env:=by rfl)(cI:(backTo pos (starEach [e2] X.env)).any (·.1)=false:=by rfl):PE X (.Call (.Name "isinstance" p) [e,e2] [] pos) (gT (oW K) (fP te (fP AK iA))):=ie (EE h) hg bl.B5 BU (aa he (aa h2 ai fi) cu) (by decide) (by decide) cu cI
theorem iL(K:af)(h:X.K=K:=by rfl):dq X (mE K):=DU h
theorem iT(K:af)(h:X.K=K:=by rfl):dq X (oR K):=ED h
theorem aZ{op:CmpOp}{r:R2}(ho:bx X (compareOp op) r)(ha:PE X a ta)(hb:PE X b tb)(hm:behindInMarks op b=false:=by exact ym _):PT X (.Compare a [op] [b] pos) (sR (fh r ta tb)):=oh ho ha hb hm
theorem dG{op:CmpOp}{r:R2}(ho:bx X (compareOp op) r)(ha:PE X a ta)(hb:PE X b tb)(hm:behindInMarks op b=false:=by exact ym _):PE X (.Compare a [op] [b] pos) (fh r ta tb):=xI ho ha hb hm
end
section
variable {V V' W H H':Hp}{a x d C:Addr}{o:HO}
end
section
variable {n k:Nat}{V:Nat->Hp}{ks Mg:List (Addr×HO)}{H H' W:Hp}{a p x d C:Addr}{o o':HO}
end
def GU(K:af)(te ts:TE):TE:=λσ H Q=>te σ H λx H1=>ts σ H1 λy H2=>∃a xs,x=.ref a/\y=.int (-1)/\ah K H2 a xs/\∀p,H2 p=none->Q (.ref p) (upd H2 p (.lst xs.reverse))
theorem EO{X:Cx}{K:af}{e st:Expr}{te ts:TE}{p2 pos:Pos}(hK:X.K=K)(he:PE X e te)(cu:PE X st ts):PE X (.Subscript e (.Slice none none (some st) p2) pos) (GU K te ts):=by
 subst hK;intro pins s σ H Q I h;refine Subscript_ (av (he pins s σ H _ I h) λv s1 ⟨x,H1,I1,r1,q1⟩=>wpAny_Slice (wpAny_pure (wpAny_pure (av (cu pins s1 σ H1 _ I1 q1) λu s3 zq=>?_))));obtain⟨y,H3,I3,r3,a,xs,ex,ey,hx,q⟩:=zq;subst ex;subst ey;cases r1;obtain⟨tk,rfl⟩:=r3;have I4:Inv X pins σ H3 {s3 with heap:=s3.heap.push {cls:=.type "slice",data:=.fields #[.none,.none,.int (-1) tk]}}:=I3.kept λb ob q=>Yb _ q;obtain⟨ag,r,ht,hz⟩:=I4.list hx;have hlen:=r.length;refine tail_any ht.isList.typeIs slot_list_getitem.lookup (wpAny_getItem_list_slice ht.isList (Heap.IsSliceOf.new ..) .none .none (.int (-1) tk) (by simp) ?_ (by rw[Yk]<;>omega)) (by with_unfolding_all rfl);rw[D4];generalize s3.heap.push {cls:=.type "slice",data:=.fields #[.none,.none,.int (-1) tk]}=G at I4 ht⊢;refine⟨.ref G.objs.size,_,I4.laid (λb ob q=>Yb _ q) (Yc _) ?_,rfl,q _ (I4.aw.fresh (Yc _))⟩;exact⟨by rw[Ja];exact hz,_,0,vM r,Yl _ rfl⟩
end L2
namespace L2
open PySem PySem.W PySem.Spec PyProof.Rows
theorem Dw{X:Cx}{pins:aB}{σ:St}{H:Hp}{s:Shared}{a:Addr}{v:V}{u r:Value}{A:Around}{E:aC}{ae:List (Key×V)}{k:Key}{Q:Unit->Shared->Prop}(I:Inv X pins σ H s)(e:H a=some (.dK ae))(l:ae.length<sizeLine)(ry:RelV (kV k) u)(rv:RelV v r)(h:∀s',Inv X pins σ (upd H a (.dK (putK ae k v))) s'->Q () s'):
  wpAny X.md A (dictSet a u r) Q E s:=by
 obtain⟨z,hd,vs,rel,dd⟩:=sY I.aw e;have hz:vs.length<=sizeLine:=by rw[←rel.length];exact z
 have hl:(putK ae k v).length<=sizeLine:=by have:=i0 ae k v;omega
 refine wpAny_dictSet_pairs (hsz:=hz) (jP ry) dd λh' gX hs=>h _ ?_;have he:∃q,h'.get? a=some q:=let⟨q,_,_,hq,_⟩:=gX;⟨q,hq⟩;exact oq I (by rw[e];exact True.intro) hs he (sE hl hd (rel.put k rv) gX)
section
variable {prog:Program}{w:World}{A:Around}{R:Result->Shared->Prop}{s:Shared}
theorem BF{kx vx target iter:Expr}{ifs:List Expr}{scope:Scope}{pos:Pos}{it:Value}{D:Addr}{env:Env}(I:Nat->Shared->Prop)
  (turn:∀n s,I n s->wpAny (model prog w) A (pyNext it) (λr aG=>match r with
   |none=>R (.ok .next) aG
   |some v=>wpAny (model prog w) A (letOwnedTupleGo target it v) (λ_ bj=>wpAny (model prog w) A (assign target env v) (λ_ cE=>
     wpAny (model prog w) A (forIn ifs true λc r=>if r=true then do let ok←isTrue c env (eval c env);pure (ForInStep.yield ok) else pure (ForInStep.yield r)) (λok bw=>
      if ok=true then wpAny (model prog w) A (eval kx env) (λkv cA=>wpAny (model prog w) A (eval vx env) (λvv dQ=>
       wpAny (model prog w) A (dictSet D kv vv) (λ_ z6=>∃m,m<n/\I m z6) (notedBy (model prog w) A env λe s'=>R (.error e) s') dQ) (notedBy (model prog w) A env λe s'=>R (.error e) s') cA) (notedBy (model prog w) A env λe s'=>R (.error e) s') bw
      else ∃m,m<n/\I m bw) (notedBy (model prog w) A env λe s'=>R (.error e) s') cE) (notedBy (model prog w) A env λe s'=>R (.error e) s') bj) (notedBy (model prog w) A env λe s'=>R (.error e) s') aG) (notedBy (model prog w) A env λe s'=>R (.error e) s') s)
  (n:Nat)(h:I n s):codeAny (model prog w) A (.compLoop (.DictComp kx vx [⟨target,iter,ifs,0⟩] scope pos) 0 it (.ref D) env) R s:=by
 refine codeAny_loop rfl I (λn s hI=>?_) n h;show wpAny _ A ((compTurn (.DictComp kx vx [⟨target,iter,ifs,0⟩] scope pos) 0 it (.ref D) env).onRaise (λx=>do noteFrame x env;theTreesLotGoes x)) _ _ s;refine wpAny_noted ?_;rw[compTurn_dict];refine wpAny_bind (wpAny_standAt (wpAny_bind (wpAny_mono (turn n s hI) (λr aG cn=>?_) λ_ _ h'=>h')));cases r with
 |none=>exact wpAny_pure cn
 |some v=>
  refine wpAny_bind (wpAny_mono cn (λ_ bj h₀=>wpAny_bind (wpAny_mono h₀ (λ_ cE fT=>wpAny_bind (wpAny_mono fT (λok bw iB=>?_) λ_ _ h'=>h')) λ_ _ h'=>h')) λ_ _ h'=>h');cases ok with
  |false=>exact wpAny_pure ⟨rfl,iB⟩
  |true=>
   exact wpAny_bind (wpAny_bind (wpAny_mono iB (λkv cA jY=>wpAny_bind (wpAny_holding (wpAny_mono jY (λvv dQ jZ=>wpAny_bind (wpAny_standAt (wpAny_holding (wpAny_mono jZ (λ_ z6 HQ=>wpAny_pure ⟨rfl,HQ⟩) λ_ _ h'=>h')))) λ_ _ h'=>h'))) λ_ _ h'=>h'))
end
def ER(n:Nat)(J:It)(tg:TG)(tk tv:TE)(fv:St)(D:Addr)(H:Hp)(Q:VK):Prop:=
 ∃W:Nat->Nat->List (Key×V)->Hp->Prop,(∃m,W 0 m [] (upd H D (.dK ([]:List (Key×V)))))/\∀i m ys H,W i m ys H->
  (J.stop i H/\Q (.ref D) H)\/(J.go i H/\∃N:List (Key×V)->Hp->Prop,(∀cy H',N cy H'->∃m',m'<m/\W (i+1) m' cy H')/\
   ∀v H',J.fV i H v H'->∀os:St,os.length=n->tg v (os++fv) H' λbW H2=>(∃dU:St,dU.length=n/\bW=dU++fv)/\tk bW H2 λy H1=>tv bW H1 λz H3=>∃k,y=kV k/\H3 D=some (.dK ys)/\ys.length<sizeLine/\N (putK ys k z) (upd H3 D (.dK (putK ys k z))))
def yK(J:It)(tk tv:TE)(fv:St)(D:Addr)(H:Hp)(Q:VK):Prop:=
 ∃W:Nat->Nat->List (Key×V)->Hp->Prop,(∃m,W 0 m [] (upd H D (.dK ([]:List (Key×V)))))/\∀i m ys H,W i m ys H->
  (J.stop i H/\Q (.ref D) H)\/(J.go i H/\∃N:List (Key×V)->Hp->Prop,(∀cy H',N cy H'->∃m',m'<m/\W (i+1) m' cy H')/\
   ∀v H',J.fV i H v H'->tk (some v::fv) H' λy H1=>tv (some v::fv) H1 λz H3=>∃k,y=kV k/\H3 D=some (.dK ys)/\ys.length<sizeLine/\N (putK ys k z) (upd H3 D (.dK (putK ys k z))))
section
variable {X:Cx}{kx vx iter tgt:Expr}{xs:List Str}{pos:Pos}{ifs:List Expr}{scope:Scope}{cl:List (Str×Addr)}{fr:List (Str×Nat)}{tg:TG}{tk tv:TE}{pins:aB}{σ:St}
theorem Dx{H2:Hp}{s2:Shared}{it:Addr}{fp:List Addr}{tn:Nat->Heap->Prop}{J:It}{Q:VK}{RR:Value->Addr->Result->Shared->Prop}{E:aC}{rest:List Comprehension}(S:ic X scope cl xs fr)
  (I2:Inv X pins σ H2 s2)(T:Turn X.prog X.w X.K tgt J fp it tn)(cB:tn 0 s2.heap)(f2:∀b∈fp,cR X pins H2 b)
  (hR:∀D C s1 H1 m,Inv X pins σ H1 s1->s1.heap.Ns C m->H1 C=none->C≠X.env.locals->X.bj.heap.objs.size<=C->(∀y c,X.env.cells.lookup y=some c->c≠C)->(∀p∈X.pn++pins,p.1≠C)->Q (.ref D) H1->RR (.ref D) C (.ok .next) s1)
  (hl:∀(D C:Addr) (s:Shared) (H3:Hp) (bw:Shared),H2 D=none->H3=upd H2 D (.dK ([]:List (Key×V)))->Inv (aT X xs fr scope cl C s H3 fp) [] (List.replicate xs.length none++cw σ fr) H3 bw->tn 0 bw.heap->(∀b∈fp,H3 b=none)->
   (∀s6 kd H5,Inv (aT X xs fr scope cl C s H3 fp) [] kd H5 s6->Q (.ref D) H5->RR (.ref D) C (.ok .next) s6)->
   codeAny X.md X.A (.compLoop (.DictComp kx vx (⟨tgt,iter,ifs,0⟩::rest) scope pos) 0 (.ref it) (.ref D) (compEnvC scope cl C X.env)) (RR (.ref D) C) bw):
  wpAny X.md X.A (newDict) (λacc bw=>wpAny X.md X.A (newFunctionEnv scope X.env.globals cl [] X.env.qual none .none (some X.env)) (λcZ cA=>
   codeAny X.md X.A (.compStart (.DictComp kx vx (⟨tgt,iter,ifs,0⟩::rest) scope pos) 0 (.ref it) acc {cZ with scope:=relabel scope X.env}) (RR acc cZ.locals) cA) E bw) E s2:=by
 refine wpAny_newObj_type (wpAny_newFunctionEnv S.k6 (by intro y hy;simp at hy) (λcn jI jJ=>?_) S.kind);dsimp only at jI jJ⊢;have JA:(s2.heap.objs.size==sysModules)=false:=beq_eq_false_iff_ne.mpr (Jl I2.big);have I3:Inv X pins σ (upd H2 s2.heap.objs.size (.dK ([]:List (Key×V)))) {s2 with heap:=s2.heap.push {cls:=.type "dict",dict:=none,data:=.dict #[]}}:=
  I2.laid (t':=s2.toks) (λb u e=>Yb _ e) (Yc _) ⟨Yw _,JA,[],.nil,Heap.DictOf.new s2.heap⟩
 have uo:H2 s2.heap.objs.size=none:=I2.aw.fresh (Yc _);have mF:∀b∈fp,b<s2.heap.objs.size:=λb hb=>by
  obtain⟨o,e,_⟩:=T.obj _ _ cB b hb;exact Yj e
 generalize m6:s2.heap.push {cls:=.type "dict",dict:=none,data:=.dict #[]}=G2 at jI jJ I3⊢;have hC:G2.objs.size=s2.heap.objs.size+1:=by rw[←m6,Je]
 have old:∀b o,G2.get? b=some o->cn.get? b=some o:=λb o e=>jJ.extBut b o (Yo (Yj e)) (Yb _ e);have f3:∀b∈fp,cR X pins (upd H2 s2.heap.objs.size (.dK ([]:List (Key×V)))) b:=λb hb=>by
  have:=mF b hb;exact⟨by rw[aW (Yo this)];exact(f2 b hb).1,(f2 b hb).2⟩
 have uq:∀b∈fp,b<G2.objs.size:=λb hb=>by
  rw[hC];exact Wz (mF b hb)
 have fY:tn 0 cn:=T.keep _ _ _ cB λb hb o e=>old b o ((λb o e=>m6▸Yb _ e) b o e);have I4:Inv (aT X xs fr scope cl G2.objs.size {s2 with heap:=G2} (upd H2 s2.heap.objs.size (.dK ([]:List (Key×V)))) fp) [] (List.replicate xs.length none++cw σ fr) (upd H2 s2.heap.objs.size (.dK ([]:List (Key×V)))) {s2 with heap:=cn,toks:=s2.toks+([]:List (Str×Value)).length}:=
  wF (tk:=s2.toks+([]:List (Str×Value)).length) S I3 rfl f3 uq old jI
 have loop:=hl s2.heap.objs.size G2.objs.size {s2 with heap:=G2} _ {s2 with heap:=cn,toks:=s2.toks+([]:List (Str×Value)).length} uo rfl I4 fY (λb hb=>(f3 b hb).1) λs6 kd H5 I6 qn=>by
   obtain⟨m,ur,_⟩:=I6.loc;have I7:Inv X pins σ H5 s6:=I3.y4 (ch:=fp) I6.os I6.base I6.aw I6.bare λb hb=>⟨(f2 b hb).2.2.2.1,(f2 b hb).2.1,(f2 b hb).2.2.2.2.1,(f2 b hb).2.2.2.2.2⟩;refine hR _ _ s6 H5 m I7 ur I6.free ?_ ?_ (λy c e z=>?_) (λp hp z=>?_) qn;·exact Jl I3.lt
   ·exact I3.sz
   ·obtain⟨v,q⟩:=I3.cell y c e;exact absurd q.lt (by rw[z];exact Y4 _)
   ·exact absurd (Yj (I3.pin p hp).1) (by rw[z];exact Y4 _)
 exact codeAny_compStart_dict loop (T.self _ 0 _ _ _ fY loop)
theorem Ct{H2:Hp}{s2:Shared}{it:Addr}{fp:List Addr}{tn:Nat->Heap->Prop}{J:It}{Q:VK}{RR:Value->Addr->Result->Shared->Prop}{E:aC}
  (hc:X.calm=true)(S:ic X scope cl xs fr)(hg:∀C s H fp,PG (aT X xs fr scope cl C s H fp) tgt tg)
  (hk:∀C s H fp,PE (aT X xs fr scope cl C s H fp) kx tk)(he:∀C s H fp,PE (aT X xs fr scope cl C s H fp) vx tv)
  (I2:Inv X pins σ H2 s2)(T:Turn X.prog X.w X.K tgt J fp it tn)(cB:tn 0 s2.heap)(f2:∀b∈fp,cR X pins H2 b)
  (hw:∀D,H2 D=none->ER xs.length J tg tk tv (cw σ fr) D H2 Q)
  (hR:∀D C s1 H1 m,Inv X pins σ H1 s1->s1.heap.Ns C m->H1 C=none->C≠X.env.locals->X.bj.heap.objs.size<=C->(∀y c,X.env.cells.lookup y=some c->c≠C)->(∀p∈X.pn++pins,p.1≠C)->Q (.ref D) H1->RR (.ref D) C (.ok .next) s1):
  wpAny X.md X.A (newDict) (λacc bw=>wpAny X.md X.A (newFunctionEnv scope X.env.globals cl [] X.env.qual none .none (some X.env)) (λcZ cA=>
   codeAny X.md X.A (.compStart (.DictComp kx vx [⟨tgt,iter,[],0⟩] scope pos) 0 (.ref it) acc {cZ with scope:=relabel scope X.env}) (RR acc cZ.locals) cA) E bw) E s2:=by
 refine Dx (rest:=[]) S I2 T cB f2 hR λD C s H3 bw hD e3 I4 fY jm fin=>?_;obtain⟨W,⟨m0,w0⟩,turn⟩:=hw D hD;rw[←e3] at w0;refine BF (λk s'=>∃i ys H' os,os.length=xs.length/\Inv (aT X xs fr scope cl C s H3 fp) [] (os++cw σ fr) H' s'/\tn i s'.heap/\(∀b∈fp,H' b=none)/\W i k ys H') ?_ m0
  ⟨0,[],_,List.replicate xs.length none,Yz,I4,fY,jm,w0⟩
 rintro n s5 ⟨i,ys,H5,os,iJ,I5,fg,gR,w5⟩;have dB:∀{H':Hp},(∀b∈fp,H' b=none)->∀b∈fp,cR (aT X xs fr scope cl C s H3 fp) [] H' b:=λ{H'} hn b hb=>
  ⟨hn b hb,(I5.ok.jh b hb).1,I5.ok.jR b hb,.inl hb,(I5.ok.jh b hb).2,λp hp=>absurd (show p∈([]:aB) from hp) (by simp)⟩
 rcases turn i n ys H5 w5 with⟨stop,qn⟩|⟨go,N,hN,step⟩
 ·refine av (T.done (aT X xs fr scope cl C s H3 fp) rfl rfl rfl hc i [] s5 _ H5 _ I5 (dB gR) fg stop) λr s6 zq=>?_;obtain⟨hr,I6⟩:=zq;subst hr;exact fin _ _ _ I6 qn
 ·refine av (T.item (aT X xs fr scope cl C s H3 fp) rfl rfl rfl hc i [] s5 _ H5 _ I5 (dB gR) fg go) λr s6 zq=>?_;obtain⟨u,hr,h6⟩:=zq;subst hr;refine av h6 λ_ s7 zq=>?_;obtain⟨v,H7,I7,r7,y7,fZ,m7⟩:=zq;have m8:=I7.pinned (dB m7) (T.obj _ _ fZ);refine wpAny_mono (hg _ _ _ _ _ s7 _ H7 v u _ m8 r7 (step v H7 y7 os iJ)) (λ_ s8 zq=>?_) λ_ _ z=>False.elim z;obtain⟨AD,H8,I8,⟨dU,mG,e8⟩,q8⟩:=zq;subst e8;have again:∀{dW:St} {H9:Hp} {s9:Shared} {dX:List (Key×V)},dW.length=xs.length->Inv (aT X xs fr scope cl C s H3 fp) ([]++ir fp s7.heap) (dW++cw σ fr) H9 s9->N dX H9->
    ∃m,m<n/\∃i ys H' os,os.length=xs.length/\Inv (aT X xs fr scope cl C s H3 fp) [] (os++cw σ fr) H' s9/\tn i s9.heap/\(∀b∈fp,H' b=none)/\W i m ys H':=λ{dW H9 s9 dX} l1 I9 n9=>by
   obtain⟨m',hm,w9⟩:=hN dX H9 n9;refine⟨m',hm,i+1,dX,H9,dW,l1,I9.jD,T.keep _ _ _ fZ λb hb o e=>(I9.pin (b,o) (Yg _ (Yg _ (gh hb e)))).1,λb hb=>?_,w9⟩;obtain⟨o,e,d⟩:=T.obj _ _ fZ b hb;exact(I9.pin (b,o) (Yg _ (Yg _ (gh hb e)))).2.1
  refine wpAny_tests_nil ?_;rw[if_pos rfl];refine wpAny_mono (hk _ _ _ _ _ s8 _ H8 _ I8 q8) (λu0 s9 zq=>?_) λ_ _ z=>False.elim z;obtain⟨y0,H9,I9,r9,q9⟩:=zq;refine wpAny_mono (he _ _ _ _ _ s9 _ H9 _ I9 q9) (λu1 pG zq=>?_) λ_ _ z=>False.elim z;obtain⟨y,pH,m9,uv,k,ey,hD,hz,uw⟩:=zq;subst ey;exact Dw (X:=aT X xs fr scope cl C s H3 fp) m9 hD hz r9 uv λpI lp=>again mG lp uw
end
section
variable {X:Cx}{kx vx iter:Expr}{x:Str}{px pos:Pos}{scope:Scope}{cl:List (Str×Addr)}{fr:List (Str×Nat)}{tk tv:TE}
def F4(wi:TI)(fr:List (Str×Nat))(tk tv:TE):TE:=λσ H Q=>wi σ H λJ H1=>∀D,H1 D=none->yK J tk tv (cw σ fr) D H1 Q
theorem Cu{wi:TI}{i:Nat}{y:Str}{py oV:Pos}(hc:X.calm=true)(hN:X.N.Nodup)(ux:X.N[i]?=some y)(hy:Loc X.env.scope y)(S:kK X scope cl x fr)(hi:PI X (.Name x px) iter wi)
  (hk:∀C s H fp,PE (jb X x fr scope cl C s H fp) kx tk)(he:∀C s H fp,PE (jb X x fr scope cl C s H fp) vx tv)
  (uy:swapsWith (.DictComp kx vx [⟨.Name x px,iter,[],0⟩] scope pos) (some (.Name y py)) oV.line X.env=pure true:=by with_unfolding_all rfl)
  (hf:X.fn y=true\/X.env.scope.names.lookup y=some .local:=by first|exact .inl rfl|exact .inr rfl|assumption)
  (hs:∀x,foldedSetIterable iter X.env x=pure x:=by intro _;rfl):PS X (.Assign [.Name y py] (.DictComp kx vx [⟨.Name x px,iter,[],0⟩] scope pos) oV) (jg (F4 wi fr tk tv) (fO i)):=by
 intro pins s σ H D I h;rw[exec_Assign_Name_used _ _ _ _ uy];refine wpAny_bind (wpAny_standAt (wpAny_bind ?_));show wpAny _ X.A (do let _←comprehension (.DictComp kx vx [⟨.Name x px,iter,[],0⟩] scope pos) scope X.env _ newDict false (eval iter X.env) (some (assign (.Name y py) X.env))) _ _ s;refine wpAny_bind (wpAny_mono (wpAny_comprehension_free (use:=some (assign (.Name y py) X.env)) (Q:=λ_ s'=>SP X pins D .next s') rfl hs S.jX S.kind S.names
  (av (hi pins s σ H _ I h) λv s1 h1=>av h1 λj_ s2 h2=>?_)) (λ_ s' hq=>wpAny_pure (wpAny_pure hq)) λ_ _ e=>e)
 obtain⟨it,fp,tn,J,H2,e,I2,T,cB,f2,hw⟩:=h2;subst e;refine Ct (xs:=[x]) (Q:=λv H1=>fO i v σ H1 D.nx) (RR:=λacc C=>compPost X.md X.A X.xe (some (assign (.Name y py) X.env)) (λ_ s'=>SP X pins D .next s') acc C) hc ⟨S.jX,S.sub,S.kind,S.names,S.k6,S.has,S.cN,S.nd⟩ (λC s H fp=>jE (i:=0) S.nd rfl (.inl (lookup_relabel_local S.lx)) (.inr (lookup_relabel_local S.lx))) hk he I2 T cB f2 (λD hD=>?_) ?_
 ·obtain⟨W,h0,h⟩:=hw D hD;refine⟨W,h0,λi m ys H p=>?_⟩;rcases h i m ys H p with z|⟨z,N,hN,q⟩;·exact .inl z
  ·refine .inr ⟨z,N,hN,λv H' y os hl=>?_⟩;match os,hl with
   |[o],_=>exact⟨⟨[some v],rfl,rfl⟩,q v H' y⟩
 intro Dl C s1 H1 m I1 hn f0 f1 f3 f4 f5 q;show wpAny _ X.A (assign (.Name y py) X.env (.ref Dl)) _ _ s1;refine wpAny_assign_Name (rf I1 hN ux hy (v:=.ref Dl) rfl (λs3 I3 z=>?_) hf);obtain⟨a,sb,ha⟩:=z;have uz:C≠a:=by
  rcases ha with z|z;·rw[z];exact f1
  ·exact λq=>f4 _ _ z q.symm
 refine⟨m,hn.sameBut sb uz,λh' gU=>?_⟩;exact⟨_,H1,I3.turned (t':=s3.toks) (λb o hb e=>gU.extBut b o hb e) f0 f1 (.inr f3) f4 f5,q⟩
end
theorem CY{K:af}{a:Addr}{xs:List V}{tk tv:TE}{fv:St}{D:Addr}{H:Hp}{Q:VK}(Pv:Nat->List (Key×V)->Hp->Prop)(h0:Pv 0 [] (upd H D (.dK ([]:List (Key×V)))))(hl:∀i ys H,i<=xs.length->Pv i ys H->ah K H a xs)
  (hs:∀i v ys H,xs[i]?=some v->Pv i ys H->tk (some v::fv) H λy H1=>tv (some v::fv) H1 λz H3=>∃k,y=kV k/\H3 D=some (.dK ys)/\ys.length<sizeLine/\Pv (i+1) (putK ys k z) (upd H3 D (.dK (putK ys k z))))
  (hd:∀ys H,Pv xs.length ys H->Q (.ref D) H):yK (gQ K a) tk tv fv D H Q:=by
 refine⟨λi m ys H=>m=xs.length-i/\i<=xs.length/\Pv i ys H,⟨xs.length,by simp,Yw _,h0⟩,?_⟩;rintro i m ys H ⟨rfl,hi,p⟩;have q:=hl i ys H hi p;by_cases bo:i<xs.length
 ·refine .inr ⟨⟨xs,xs[i],q,by simp[bo]⟩,Pv (i+1),λcy H' p'=>⟨xs.length-(i+1),by omega,rfl,bo,p'⟩,λx H' y=>?_⟩;obtain⟨e,y⟩:=y;subst e;exact hs i x ys _ (y xs q) p
 ·have e:i=xs.length:=by omega
  subst e;exact .inl ⟨⟨xs,q,Yc _⟩,hd ys H p⟩
theorem ES{K:af}{a:Addr}{xs:List V}{n:Nat}{eJ:TG}{eK:TI}{f_:TG}{te:TE}{fv:St}{D:Addr}{H:Hp}{Q:VK}(Pv:Nat->List V->Hp->Prop)(h0:Pv 0 [] (upd H D (.lst [])))(hl:∀i ys H,i<=xs.length->Pv i ys H->ah K H a xs)
  (hs:∀i v ys H,xs[i]?=some v->Pv i ys H->∀os:St,os.length=n->eJ v (os++fv) H λbW H2=>(∃dU:St,dU.length=n/\bW=dU++fv)/\eK bW H2 λJ2 H3=>∃(b:Addr) (zs:List V) (Pw:Nat->List V->St->Hp->Prop),J2=jj K b/\Pw 0 ys bW H3/\
   (∀k ys σ H,k<=zs.length->Pw k ys σ H->au K H b zs)/\
   (∀k v2 ys σ H,zs[k]?=some v2->Pw k ys σ H->f_ v2 σ H λni H6=>te ni H6 λy H7=>H7 D=some (.lst ys)/\ys.length<sizeLine/\Pw (k+1) (ys++[y]) ni (upd H7 D (.lst (ys++[y]))))/\
   ∀ys σ H,Pw zs.length ys σ H->(∃lq:St,lq.length=n/\σ=lq++fv)/\Pv (i+1) ys H)
  (hd:∀ys H,Pv xs.length ys H->Q (.ref D) H)(GV:∀σ H (R R':It->Hp->Prop),(∀J H,R J H->R' J H)->eK σ H R->eK σ H R')(GW:∀v σ H (R R':St->Hp->Prop),(∀σ H,R σ H->R' σ H)->eJ v σ H R->eJ v σ H R'):sG n (gQ K a) eJ eK f_ te fv D H Q:=by
 refine⟨λi m ys H=>m=xs.length-i/\i<=xs.length/\Pv i ys H,⟨xs.length,by simp,Yw _,h0⟩,?_⟩;rintro i m ys H ⟨rfl,hi,p⟩;have q:=hl i ys H hi p;by_cases bo:i<xs.length
 ·refine .inr ⟨⟨xs,xs[i],q,by simp[bo]⟩,Pv (i+1),λcy H' p'=>⟨xs.length-(i+1),by omega,rfl,bo,p'⟩,λx H' y os iJ=>?_⟩;obtain⟨e,y⟩:=y;subst e;refine GW _ _ _ _ _ (λbW H2 ⟨h1,h2⟩=>⟨h1,GV _ _ _ _ (λJ2 H3 h3=>?_) h2⟩) (hs i x ys _ (y xs q) p os iJ);obtain⟨b,zs,Pw,rfl,w0,wl,ws,wd⟩:=h3;refine⟨λk m2 eL cG H4=>m2=zs.length-k/\k<=zs.length/\Pw k eL cG H4,⟨zs.length,by simp,Yw _,w0⟩,?_⟩;rintro k m2 eL cG H4 ⟨rfl,hk,w⟩;have q2:=wl k eL cG H4 hk w;by_cases pO:k<zs.length
  ·refine .inr ⟨⟨zs,zs[k],q2,by simp[pO]⟩,Pw (k+1),λcy aH H' p'=>⟨zs.length-(k+1),by omega,rfl,pO,p'⟩,λv2 H5 y2=>?_⟩;obtain⟨e2,y2⟩:=y2;subst e2;exact ws k v2 eL cG _ (y2 zs q2) w
  ·have e:k=zs.length:=by omega
   subst e;exact .inl ⟨⟨zs,q2,Yc _⟩,(wd eL cG H4 w).1,(wd eL cG H4 w).2⟩
 ·have e:i=xs.length:=by omega
  subst e;exact .inl ⟨⟨xs,q,Yc _⟩,hd ys H p⟩
theorem ET{X:Cx}{K:af}{tg l:Expr}{tl:TE}(h:X.K=K)(hl:PE X l tl):PI X tg l (zI K tl):=h▸oC hl
def GX(i j k:Nat)(ta:TA):TS:=λD σ H=>ta σ H λvs H1=>∃u v w,vs=[u,v,w]/\D.nx (((σ.set k (some w)).set j (some v)).set i (some u)) H1
theorem EU{X:Cx}{pos:Pos}{i j k:Nat}{x y z:Str}{a b c:Expr}{ta:TA}{px py pz pt:Pos}{kt k2 j9}(hc:X.calm=true)(hN:X.N.Nodup)(hi:X.N[i]?=some x)(hj:X.N[j]?=some y)(hk:X.N[k]?=some z)
  (hx:X.env.scope.names.lookup x=some .local)(hy:X.env.scope.names.lookup y=some .local)(hz:X.env.scope.names.lookup z=some .local)(ha:PA X [a,b,c] ta)
  (hw:swappedStores [.Tuple [.Name x px,.Name y py,.Name z pz] kt pt] (.Tuple [a,b,c] k2 j9) X.env=pure (some [x,y,z]))
  (hs:swapsWithSole [.Tuple [.Name x px,.Name y py,.Name z pz] kt pt] (.Tuple [a,b,c] k2 j9) pos.line X.env=pure false:=by rfl):
  PS X (.Assign [.Tuple [.Name x px,.Name y py,.Name z pz] kt pt] (.Tuple [a,b,c] k2 j9) pos) (GX i j k ta):=by
 intro pins s σ H D I h;refine wpAny_bind (wpAny_standAt ?_);rw[hs];refine wpAny_bind (wpAny_pure ?_);refine wpAny_bind (Tuple_ (av (ha _ pins s σ H _ I h) λus s1 zq=>?_));obtain⟨vs,H1,I1,r1,q1⟩:=zq;obtain⟨u,v,w,e1,q1⟩:=q1;subst e1;obtain⟨u1,u2,u3,rfl,ru,rv,dE⟩:∃u1 u2 u3,us=[u1,u2,u3]/\RelV u u1/\RelV v u2/\RelV w u3:=by
  cases r1 with
  |cons p q=>
   cases q with
   |cons p' q'=>
    cases q' with
    |cons JB JC=>
     cases JC;exact⟨_,_,_,rfl,p,p',JB⟩
 refine wpAny_newObj_type ?_ (by show 3<=sizeLine;decide);rw[hw];refine wpAny_bind (wpAny_pure ?_);refine wpAny_bind (wpAny_rule (wpAny_bind (unpackItems_tuple (items:=#[u1,u2,u3]) (I.ok.hd hc) (IsTup.new s1.heap _) λh' uf=>wpAny_bind (assignInOrder_cons (wpAny_bindName (i4 ((I1.kept λb o e=>Yb _ e).kept λb o e=>uf b o (Yo (Yj e)) e) hN hk (.inl hz) dE (λs2 I4=>?_) (.inr hz)))))));refine assignInOrder_cons (wpAny_bindName (i4 I4 hN hj (.inl hy) rv (λs3 I5=>?_) (.inr hy)));refine assignInOrder_cons (wpAny_bindName (i4 I5 hN hi (.inl hx) ru (λs4 I6=>assignInOrder_nil (wpAny_pure ?_)) (.inr hx)));exact⟨_,H1,I6,q1⟩
theorem ou{as:List Addr}{us:List Value}(r:Vals (as.map V.ref) us){j:Nat}(h:j<us.length):∃a,as[j]?=some a/\us[j]=.ref a:=by
 have l:=r.length;rw[Ya] at l;have hj:j<as.length:=by omega
 obtain⟨u,hu,e⟩:=r.get (i:=j) (x:=.ref as[j]) (by rw[Yd,Ye hj];rfl);cases e;refine⟨as[j],Ye hj,?_⟩;rw[Ye h] at hu;exact Yf hu
theorem EV{X:Cx}{A:Around}{pins:aB}{σ:St}{H:Hp}{s:Shared}{p q:Addr}{as:List Addr}(I:Inv X pins σ H s)(hu:A.units<cLine)(h1:ah X.K H p (as.map V.ref))(h2:ah X.K H q (as.map V.ref)):SeqAt.EqAt A s (.ref p) (.ref q) true:=by
 by_cases e:p=q
 ·rw[e];exact SeqAt.EqAt.same _
 obtain⟨ag,r1,p1,z1⟩:=I.list h1;obtain⟨e_,r2,p2,z2⟩:=I.list h2;have l1:=r1.length;have l2:=r2.length;rw[Ya] at l1 l2;have:=SeqAt.RcAt.lists (A:=A) (s:=s) (e:=λ_=>true) p1.isList p2.isList (by simp;omega) hu (λj h1 h2=>by
  obtain⟨a,e1,e2⟩:=ou r1 (j:=j) (by simpa using h1);obtain⟨b,e3,e4⟩:=ou r2 (j:=j) (by simpa using h2);obtain rfl:=Yf (e1.symm.trans e3);have iK:ag.toArray[j]=.ref a:=by simpa using e2
  have m_:e_.toArray[j]=.ref a:=by simpa using e4
  rw[iK,m_];exact SeqAt.EqAt.same _)
 rw[show(List.range ag.toArray.size).all (λ_=>true)=true by simp] at this;exact SeqAt.EqAt.of_refs e this
def HR(K:af):R2:=λx y H Q=>∃(p q:Addr) (as:List Addr),x=.ref p/\y=.ref q/\ah K H p (as.map V.ref)/\ah K H q (as.map V.ref)/\Q (.bl false) H
theorem F5{X:Cx}{K:af}(h:X.K=K)(hu:X.A.units<cLine):bx X (compareOp .NotEq) (HR K):=by
 subst h;rintro pins s σ H x y v u Q I rx ry ⟨p,q,as,rfl,rfl,h1,h2,k⟩;cases rx;cases ry;obtain⟨ag,r1,p1,z1⟩:=I.list h1;obtain⟨e_,r2,p2,z2⟩:=I.list h2;have l1:=r1.length;have l2:=r2.length;rw[Ya] at l1 l2;refine SeqAt.RcNeAt.lists (e:=λ_=>true) p1.isList p2.isList (by simp;omega) hu (λj h1 h2=>?_) _ _ _ _ (bC I k (by simp));obtain⟨a,e1,e2⟩:=ou r1 (j:=j) (by simpa using h1);obtain⟨b,e3,e4⟩:=ou r2 (j:=j) (by simpa using h2);obtain rfl:=Yf (e1.symm.trans e3);have iK:ag.toArray[j]=.ref a:=by simpa using e2
 have m_:e_.toArray[j]=.ref a:=by simpa using e4
 rw[iK,m_];exact SeqAt.EqAt.same _
def HS(K:af):R2:=λx y H Q=>∃(p q a b:Addr) (e:V) (as:List Addr),x=.ref p/\y=.ref q/\au K H p [.ref a,e]/\au K H q [.ref b,e]/\ah K H a (as.map V.ref)/\ah K H b (as.map V.ref)/\(e=.aD\/∃z,e=.int z)/\Q (.bl false) H
theorem F6{X:Cx}{K:af}(h:X.K=K)(hu:X.A.units+1<cLine):bx X (compareOp .NotEq) (HS K):=by
 subst h;rintro pins s σ H x y v u Q I rx ry ⟨p,q,a,b,e,as,rfl,rfl,h1,h2,h3,h4,he,k⟩;cases rx;cases ry;obtain⟨ag,r1,p1,z1⟩:=I.tuple h1;obtain⟨e_,r2,p2,z2⟩:=I.tuple h2;obtain⟨u1,u2,rfl,JD,AL⟩:∃u1 u2,ag=[u1,u2]/\RelV (.ref a) u1/\RelV e u2:=by
  cases r1 with
  |cons p q=>cases q with
   |cons p' q'=>cases q';exact⟨_,_,rfl,p,p'⟩
 obtain⟨v1,v2,rfl,JE,AM⟩:∃u1 u2,e_=[u1,u2]/\RelV (.ref b) u1/\RelV e u2:=by
  cases r2 with
  |cons p q=>cases q with
   |cons p' q'=>cases q';exact⟨_,_,rfl,p,p'⟩
 cases JD;cases JE;show wpAny _ _ (richCompare .NotEq _ _) _ _ _;refine SeqAt.RcNeAt.tuples (e:=λ_=>true) p1 p2 (by omega) (λj h1 h2=>?_) _ _ _ _ (bC I k (by simp));match j,h1,h2 with
 |0,_,_=>exact EV I (show X.A.units+1<cLine from hu) h3 h4
 |1,_,_=>
  show SeqAt.EqAt _ _ u2 v2 true;rcases he with rfl|⟨z,rfl⟩
  ·cases AL;cases AM;exact SeqAt.EqAt.same _
  ·obtain⟨t,rfl⟩:=AL;obtain⟨t',rfl⟩:=AM;have:=SeqAt.EqAt.int_int (A:=X.A.in1) (s:=s) z t z t';rw[beq_self_eq_true] at this;exact this
end L2
namespace uJ
open PySem L2
variable {P:Program}{w:World}{K:PySem.W.Frag}{mg:Str->Option Value}{base:Heap}{f C CL CJ:Addr}{fd:FuncData}
def top(i:Nat):Stmt:=PySem.Challenge.pw_kinhearth_k36_papers_that_stand.main.body.getD i (.Pass ⟨0,0,0,0⟩)
abbrev rq:Stmt:=top 7
abbrev r6:Stmt:=top 8
abbrev rF:Stmt:=top 9
abbrev sH:Stmt:=top 11
abbrev qx:Stmt:=top 13
abbrev qy:Stmt:=top 30
abbrev ql:Stmt:=top 31
abbrev rz:Stmt:=top 32
abbrev qS:Stmt:=top 10
abbrev qo:Stmt:=top 12
abbrev rG:Stmt:=top 20
abbrev qT:Stmt:=top 21
abbrev rH:Stmt:=top 23
abbrev qp:Stmt:=top 24
abbrev rJ:Stmt:=top 25
abbrev wg:Stmt:=top 34
abbrev vR:Stmt:=top 35
abbrev wm:Stmt:=top 36
abbrev rA:Stmt:=top 37
abbrev qq:Stmt:=top 38
abbrev qH:Stmt:=top 39
abbrev qI:Stmt:=top 40
abbrev nO:Stmt:=top 41
abbrev qU:Stmt:=top 42
abbrev qV:Stmt:=top 43
abbrev qW:Stmt:=top 44
abbrev qX:Stmt:=top 45
abbrev qY:Stmt:=top 46
abbrev qZ:Stmt:=top 47
abbrev qz:Stmt:=top 48
abbrev qJ:Stmt:=top 49
abbrev qA:Stmt:=top 50
abbrev jQ:Stmt:=top 51
abbrev qK:Stmt:=inClass (top 29) 0
abbrev qL:Stmt:=inClass (top 29) 1
abbrev zr:Stmt:=wg
abbrev yL:Stmt:=vR
abbrev zt:Stmt:=wm
section
variable {K:af}{mg:aJ}
abbrev nq:List Str:=["_law_script","_law_k"]
theorem F7:bc nq nq (aM zr):=⟨rfl,rfl,rfl,by decide+kernel,rfl,by decide+kernel,by decide+kernel⟩
theorem EW(F:aS K "_law_cell" "_law_cell" zr f fd)(ml:mg "len"=none):aL P w K mg base aU 1 f fd nq (sA K):=by
 refine F.ok F7 (λvs H Q E h=>?_) (λa_ A outer s H vs Q E hr h=>?_)
 ·obtain⟨a,ns,k,rfl,_⟩:=h;rfl
 obtain⟨a,ns,k,rfl,hS,h0,q⟩:=h;refine⟨_,ar (aV (aZ oJ (pv 1) (ie vK rfl ml yz (aa (pv 0) ai))) (ay (aK (zf rT (pv 0) (pv 1) (λ_ _=>rfl)))) aY)
  (ay (aK ao)),?_⟩
 refine⟨_,rfl,_,rfl,a,_,rfl,.inl hS,_,_,rfl,rfl,_,rfl,?_⟩;refine aX (λc=>?_) (λc=>?_)
 ·have c':k<(((ns.map V.int).length:Nat):Int):=of_decide_eq_true c;rw[(Ya _)] at c';exact⟨_,rfl,_,rfl,a,_,_,_,rfl,rfl,hS,oH h0 c',q _⟩
 ·exact q _
abbrev km:List Str:=["_law_cell_here","_law_parts"]
theorem ip:bc ["_law_cell_here","_law_parts","_law_one","_law_two","_law_six","_law_found_here","_law_part"] km (aM yL):=⟨rfl,rfl,rfl,by decide+kernel,rfl,by decide+kernel,by decide+kernel⟩
theorem D5(F:aS K "_law_draws" "_law_draws" yL f fd)(ma:mg "abs"=none):aL P w K mg base aU 1 f fd km (kO K):=by
 refine F.ok ip (λvs H Q E h=>?_) (λa_ A outer s H vs Q E hr h=>?_)
 ·obtain⟨c,a,ps,rfl,_⟩:=h;rfl
 obtain⟨c,a,ps,rfl,hS,JF,hlen,q⟩:=h;refine⟨_,ar (aV (aZ oJ (ie wV rfl ma yx (aa (pv 0) ai)) (aA oE ao ao))
   (ar (eX (i:=2) ip.nd rfl (Or.inl rfl) (aA cj (aA cv (aA dP (pv 0) ao) ao) ao))
   (ar (eX (i:=3) ip.nd rfl (Or.inl rfl) (aA cj (aA cv (aA cv (aA dP (pv 2) (pv 2)) (aA dP ao (pv 2))) (pv 0)) ao))
   (ar (eX (i:=4) ip.nd rfl (Or.inl rfl) (aA cj (aA cv (aA dP (pv 3) ao) (pv 2)) ao))
   (ay (eX (i:=0) ip.nd rfl (Or.inl rfl) (aA cv (pv 3) (aA dP ao (aA cv (pv 4) (aA dP ao (pv 2))))))))))
   (ay (eX (i:=0) ip.nd rfl (Or.inl rfl) (aA lV (ie wV rfl ma yx (aa (pv 0) ai)) (aA oE ao ao)))))
  (ar (eX (i:=5) ip.nd rfl (Or.inl rfl) (lZ ai))
  (ar (dy PassesOwn.never rfl (xD (pv 1)) (jE (i:=6) ip.nd rfl (Or.inl rfl))
   (ar (gk (mj plainAttrs_list PySem.F.slot_list_append PySem.F.type_list_append lO (pv 5) (aa (aA cj (pv 0) (pv 6)) ai)))
   (ay (eX (i:=0) ip.nd rfl (Or.inl rfl) (aA og (pv 0) (pv 6))))))
  (ay (aK (pv 5))))),?_⟩
 refine gm (λσ H'=>H'=H/\∃c' o2 o3 o4,σ=[some (.int c'),some (.ref a),o2,o3,o4,none,none]) (λnx k=>?_) ?_
 ·refine⟨_,rfl,c,rfl,_,_,rfl,rfl,⟨by decide,by decide,by decide⟩,_,_,rfl,rfl,_,rfl,?_⟩;refine aX (λ_=>?_) (λ_=>?_)
  ·refine⟨_,rfl,_,_,rfl,rfl,.inr ⟨by decide,by decide⟩,_,_,rfl,rfl,_,_,rfl,rfl,(by show(0:Int)<2147483647;decide),?_⟩;refine⟨_,rfl,_,rfl,_,_,rfl,rfl,.inl (FG _ (by decide) (by decide)),_,rfl,_,_,rfl,rfl,.inl ⟨by decide,by decide⟩,_,_,rfl,rfl,_,rfl,_,_,rfl,rfl,_,_,rfl,rfl,(by show(0:Int)<2147483399;decide),?_⟩;refine⟨_,rfl,_,_,rfl,rfl,.inr ⟨by decide,by decide⟩,_,rfl,_,_,rfl,rfl,_,_,rfl,rfl,(by show(0:Int)<1000000007;decide),?_⟩;refine⟨_,rfl,_,rfl,_,rfl,_,_,rfl,rfl,.inl ⟨by decide,by decide⟩,_,_,rfl,rfl,_,_,rfl,rfl,.inl ⟨by decide,by decide⟩,_,_,rfl,rfl,k _ _ ⟨rfl,_,_,_,_,rfl⟩⟩
  ·exact⟨_,rfl,c,rfl,_,_,rfl,rfl,⟨by decide,by decide,by decide⟩,_,_,rfl,rfl,k _ _ ⟨rfl,_,_,_,_,rfl⟩⟩
 ·rintro σ H0 ⟨rfl,c',o2,o3,o4,rfl⟩;refine⟨(by show 0<=sizeLine;decide),λl hl=>?_⟩;have s1:aq H0 (upd H0 l (.lst [])):=bh hl _;refine⟨_,rfl,a,rfl,⟨_,s1.seq hS⟩,i5 (K:=K) (a:=a) (xs:=ps.map V.int) (λi σ H2=>∃c o2 o3 o4 o6 ds,σ=[some (.int c),some (.ref a),o2,o3,o4,some (.ref l),o6]/\aq H0 H2/\H2 l=some (.lst (ds.map V.int))/\Paired Bd ds (ps.take i))
   ⟨c',o2,o3,o4,none,[],rfl,s1,aF,by rw[List.take_zero];exact .nil⟩ (λi σ H2 _ ⟨_,_,_,_,_,_,_,s2,_⟩=>s2.seq hS) ?_ ?_⟩
  ·rintro i y σ H2 hi ⟨c,o2,o3,o4,o6,ds,rfl,s2,h2,b2⟩;obtain⟨p,rfl,hp⟩:=lT hi;have nh:i<ps.length:=(Yh.mp hp).1;obtain⟨p0,p1⟩:=JF p (Ys hp);have dl:=b2.length;rw[Y5] at dl;refine⟨_,rfl,.inl ⟨rfl,_,ah.of h2⟩,_,rfl,_,rfl,_,_,rfl,rfl,p0,l,_,_,rfl,rfl,h2,(by rw[Ya];exact eR (by omega)),?_⟩;refine⟨_,rfl,_,rfl,_,_,rfl,rfl,⟨p0,p1⟩,?_⟩;refine⟨_,o2,o3,o4,_,ds++[c % p],rfl,λb o e=>?_,?_,?_⟩
   ·rw[aW (bE e hl)];exact s2 b o e
   ·rw[aF,w_]
   ·rw[Y3,hp];exact b2.snoc ⟨Y0 _ (Jn p0),Yv _ p0⟩
  ·rintro σ H2 ⟨c,o2,o3,o4,o6,ds,rfl,s2,h2,b2⟩;rw[Ya,Wq] at b2;exact⟨_,rfl,q l ds H2 hl s2 h2 b2⟩
abbrev uK:List Str:=["_law_code","_law_size"]
theorem l_:bc ["_law_code","_law_size","_law_free","_law_found_here","_law_k"] uK (aM zt):=⟨rfl,rfl,rfl,by decide+kernel,rfl,by decide+kernel,by decide+kernel⟩
theorem EX(F:aS K "_law_turn" "_law_turn" zt f fd)(mL:mg "list"=none)(mR:mg "range"=none)(mT:mg "tuple"=none):aL P w K mg base aU 1 f fd uK yA:=by
 refine F.ok l_ (λvs H Q E h=>?_) (λa_ A outer s H vs Q E hr h=>?_)
 ·obtain⟨c,n,rfl,_⟩:=h;rfl
 obtain⟨c,n,rfl,hn,q⟩:=h;refine⟨_,ar (eX (i:=2) l_.nd rfl (Or.inl rfl) (cz (vI rfl) rfl mL gn (aa (cz nM rfl mR lR (aa (pv 1) ai)) ai)))
  (ar (eX (i:=3) l_.nd rfl (Or.inl rfl) (lZ ai))
  (ar (dy PassesOwn.never rfl (fD rfl mR (aa (pv 1) ai)) (jE (i:=4) l_.nd rfl (Or.inl rfl))
   (ar (gk (mj plainAttrs_list PySem.F.slot_list_append PySem.F.type_list_append lO (pv 3) (aa (mj plainAttrs_list slot_list_pop type_list_pop wY (pv 2) (aa (aA cj (pv 0) (aA lV (pv 1) (pv 4))) ai)) ai)))
   (ay (eX (i:=0) l_.nd rfl (Or.inl rfl) (aA og (pv 0) (aA lV (pv 1) (pv 4)))))))
  (ay (aK (cz kA rfl mT eS (aa (pv 3) ai)))))),?_⟩
 refine⟨_,rfl,_,rfl,λr cT=>?_⟩;refine⟨r,n,rfl,aF,by omega,λu hu=>?_⟩;refine⟨(by show 0<=sizeLine;decide),λl hl=>?_⟩;have g1:aq H (upd H r (.eB 0 (n:Int))):=bh cT _;have g2:=g1.trans (bh hu (.lst ((a7 n).map V.int)));have g3:=g2.trans (bh hl (.lst []));have uL:u≠l:=bE aF hl;refine⟨_,rfl,(n:Int),rfl,by omega,by omega,kJ (lo:=0) (n:=n) (λi σ H2=>∃c o4 ds fs,σ=[some (.int c),some (.int (n:Int)),some (.ref u),some (.ref l),o4]/\aq H H2/\H2 u=some (.lst (fs.map V.int))/\H2 l=some (.lst (ds.map V.int))/\(ds++fs).Perm (a7 n)/\ds.length=i)
  ⟨c,none,[],a7 n,rfl,g3,by rw[aW uL];exact aF,aF,by rw[Jp],rfl⟩ ?_ ?_⟩
 ·rintro i σ H2 hi ⟨c,o4,ds,fs,rfl,s2,uM,fk,pm,dl⟩;have pl:=pm.length_eq;rw[Ym,cL,dl] at pl;have oY:(0:Int)<(n:Int)-(0+(i:Int)):=by omega
  have m0:=Y0 c (Jn oY);have m1:=Yv c oY;have hk:(c % ((n:Int)-(0+(i:Int)))).toNat<fs.length:=by omega
  refine⟨_,rfl,.inl ⟨rfl,_,ah.of fk⟩,_,rfl,.inl ⟨rfl,_,ah.of uM⟩,_,rfl,_,rfl,_,rfl,_,_,rfl,rfl,_,_,rfl,rfl,oY,u,_,_,_,.int fs[(c % ((n:Int)-(0+(i:Int)))).toNat],rfl,rfl,uM,by omega,by omega,((oo (sv m0 (by rw[Ya];omega))).1),by rw[Yd,Ye hk];rfl,?_⟩;refine⟨l,_,_,rfl,rfl,by rw[aW uL.symm];exact fk,(by rw[Ya];exact eR (by omega)),?_⟩;refine⟨_,rfl,_,rfl,_,rfl,_,_,rfl,rfl,_,_,rfl,rfl,⟨oY,by omega⟩,?_⟩;refine⟨_,_,ds++[fs[(c % ((n:Int)-(0+(i:Int)))).toNat]],fs.eraseIdx (c % ((n:Int)-(0+(i:Int)))).toNat,rfl,λb o e=>?_,?_,?_,?_,?_⟩
  ·have nl:b≠l:=bE (g2 b o e) hl;have nu:b≠u:=bE (g1 b o e) hu;rw[aW nl,aW nu];exact s2 b o e
  ·rw[aW uL,aF,wI]
  ·rw[aF,w_]
  ·refine List.Perm.trans ?_ pm;rw[Jh];refine List.Perm.append_left ds ?_;exact(vY fs _ hk).symm
  ·rw[Ym,List.length_singleton,dl]
 ·rintro σ H2 ⟨c,o4,ds,fs,rfl,s2,uM,fk,pm,dl⟩;have pl:=pm.length_eq;rw[Ym,cL,dl] at pl;have e:fs=[]:=List.eq_nil_of_length_eq_zero (by omega);rw[e,Ws] at pm;refine⟨_,rfl,l,_,rfl,.inl ⟨ah.of fk,λt ht=>?_⟩⟩;exact q t ds _ (s2.free ht) (s2.trans (bh ht _)) aF pm
end
theorem EY{ds:List Int}{a b c d:Int}(h:Paired Bd ds [a,b,c,d]):∃v w x y,ds=[v,w,x,y]/\Bd v a/\Bd w b/\Bd x c/\Bd y d:=by
 cases h with|cons h1 h=>cases h with|cons h2 h=>cases h with|cons h3 h=>cases h with|cons h4 h=>
  cases h
  grind
theorem EZ{ds:List Int}{a b c d e:Int}(h:Paired Bd ds [a,b,c,d,e]):∃v w x y z,ds=[v,w,x,y,z]/\Bd v a/\Bd w b/\Bd x c/\Bd y d/\Bd z e:=by
 cases h with|cons h1 h=>cases h with|cons h2 h=>cases h with|cons h3 h=>cases h with|cons h4 h=>cases h with|cons h5 h=>
  cases h
  grind
theorem aP{q:St->Hp->Prop}{i:Nat}{x:V}{σ:St}{H:Hp}(h:q (σ.set i (some x)) H):fO i x σ H q:=h
theorem yM{K:af}{H:Hp}{p:Addr}{xs:List V}{i:Nat}{x:V}{Q:VK}(hp:ah K H p xs\/au K H p xs)(h:xs[i]?=some x)(q:Q x H):uj K (.ref p) (.int (0+(i:Int))) H Q:=by
 rcases hp with hp|hp;·exact .inl ⟨p,_,_,_,rfl,rfl,hp,xf h,q⟩
 ·exact .inr (.inl ⟨p,_,_,_,rfl,rfl,hp,xf h,q⟩)
theorem n6(v:V):decide (v=v)=true:=decide_eq_true rfl
theorem all_true(n:Nat):(List.replicate n true).all id=true:=by
 induction n with
 |zero=>rfl
 |succ n ih=>rw[List.replicate_succ,Jj,ih];rfl
inductive xk(m:Nat)(vs:List V)(H:Hp)(Q:VK):Prop
 |mk (x y:V) (d:Dt) (k:Nat) (aE:vs=[x,y]) (aN:m=k+1) (a9:At H k x d) (bV:At H k y d) (cO:∀H',aq H H'->Q (.bl true) H'):xk m vs H Q
def jL(m:Nat):Sp:=λvs H Q _=>xk m vs H Q
section
variable {K:af}{mg:aJ}
abbrev gZ:List Str:=["_law_found_here","_law_due"]
theorem Cv:bc gZ gZ (aM nO):=.bO
theorem D6{n:Nat}(F:aS K "_law_same" "_law_same" nO f fd)(lN:HasFn P w K mg base n "_law_same" gZ (jL n))(bl:Bl mg):aL P w K mg base aU (n+1) f fd gZ (jL (n+1)):=by
 refine F.o Cv λs H hr h=>?_;obtain⟨x,y,d,k,rfl,ek,hx,hy,q⟩:=h;obtain rfl:k=n:=by omega
 have hu:=hr.lY;refine⟨_,(ar (aV (aZ oF (pv 1) jH) (ay (aK (dG oF (pv 0) jH))) aY) (ar (aV (dw (cS K bl (pv 1) (cQ rfl bl.jK jG))) (ay (aK (dO (cS K bl (pv 0) (cQ rfl bl.jK jG)) (iq (dG bX (pv 0) (pv 1)))))) aY) (ar (aV (dw (cS K bl (pv 1) (cQ rfl bl.sX sy))) (ay (aK (dO (cS K bl (pv 0) (cQ rfl bl.sX sy)) (dO (oB (cS K bl (pv 0) (cQ rfl bl.jK jG))) (iq (dG bX (pv 0) (pv 1))))))) aY) (ar (aV (dw (cS K bl (pv 1) (cQ rfl bl.mq l4))) (ay (aK (dO (cS K bl (pv 0) (cQ rfl bl.mq l4)) (iq (dG bX (pv 0) (pv 1)))))) aY) (ar (aV (PW.pt (pw_or (aZ dA (cS K bl (pv 1) (cQ rfl bl.gq gn)) (cS K bl (pv 0) (cQ rfl bl.gq gn))) (pw_or1 (aZ dA (cS K bl (pv 1) (cQ rfl bl.eW eS)) (cS K bl (pv 0) (cQ rfl bl.eW eS)))))) (ay (aK eh)) aY) (ar (aV (aZ dA (cg K bl (pv 0)) (cg K bl (pv 1))) (ay (aK eh)) aY) (ay (aK (ie (Ht (K:=K) rfl rfl) rfl bl.GD FH (aa (jF (x:="_law_k") (fr:=[("_law_found_here",0),("_law_due",1)]) (cl:=[("_law_found_here",s.heap.objs.size+1),("_law_due",s.heap.objs.size+1+1)]) rfl (.fo ⟨rfl,⟨rfl,trivial⟩⟩ ⟨⟨rfl,.inl rfl,.inl rfl,rfl⟩,⟨⟨rfl,.inl rfl,.inl rfl,rfl⟩,trivial⟩⟩) (fD rfl bl.dv (aa (cg K bl (pv 1)) ai)) (λ_ _ _ _=>ik) (λ_ _ _ _=>(sW lN hr (by omega) rfl (aa (az (xS (K:=K) rfl) (pv 1) (pv 0)) (aa (az (xS (K:=K) rfl) (pv 2) (pv 0)) ai))))) ai)))))))))),?_⟩;have sq:(∃(p r:Addr) (xs ys:List V) (ds:List Dt) (t:Value) (b1 b2:Bool) (m:Nat),x=.ref p/\y=.ref r/\dk K H (.ref p) t/\dk K H (.ref r) t/\kitOne K t (.type "bool")=some false/\kitOne K t (.type "int")=some false/\kitOne K t (.type "str")=some false/\
   kitOne K t (.type "list")=some b1/\kitOne K t (.type "tuple")=some b2/\(ah K H p xs\/au K H p xs)/\(ah K H r ys\/au K H r ys)/\ds.length<=1000/\Paired (At H m) xs ds/\Paired (At H m) ys ds/\k=m+1)\/
   (x=.aD/\y=.aD)\/(∃b,x=.bl b/\y=.bl b)\/(∃i,x=.int i/\y=.int i)\/∃z,x=.str z/\y=.str z:=by
  cases d with
  |aD=>unfold At at hx hy;exact .inr (.inl ⟨hx,hy⟩)
  |bl b=>unfold At at hx hy;exact .inr (.inr (.inl ⟨b,hx,hy⟩))
  |int i=>unfold At at hx hy;exact .inr (.inr (.inr (.inl ⟨i,hx,hy⟩)))
  |str z=>unfold At at hx hy;exact .inr (.inr (.inr (.inr ⟨z,hx,hy⟩)))
  |lst ds=>
   cases k with
   |zero=>unfold At at hx;exact hx.elim
   |succ m=>
    unfold At at hx hy;obtain⟨a,xs,e0,e1,lz,p1⟩:=hx;obtain⟨b,ys,uN,e2,_,p2⟩:=hy;exact .inl ⟨a,b,xs,ys,ds,.type "list",true,false,m,e0,uN,.lst e1,.lst e2,FK,FL,FN,yE,FO,.inl (ah.of e1),.inl (ah.of e2),lz,p1,p2,rfl⟩
  |tup ds=>
   cases k with
   |zero=>unfold At at hx;exact hx.elim
   |succ m=>
    unfold At at hx hy;obtain⟨a,xs,e0,e1,lz,p1⟩:=hx;obtain⟨b,ys,uN,e2,_,p2⟩:=hy;exact .inl ⟨a,b,xs,ys,ds,.type "tuple",false,true,m,e0,uN,.tup e1,.tup e2,FP,FQ,FR,FT,sD,.inr (au.of e1),.inr (au.of e2),lz,p1,p2,rfl⟩
 clear hx hy;rcases sq with⟨p,r,xs,ys,ds,t,b1,b2,m,rfl,rfl,T1,T2,kb,ki,JG,kl,kt,hp,hq,hz,p1,p2,ek⟩|⟨rfl,rfl⟩|⟨b,rfl,rfl⟩|⟨i,rfl,rfl⟩|⟨z,rfl,rfl⟩
 ·have l1:=di p1;have l2:=di p2;refine⟨_,rfl,rfl,_,rfl,?_⟩;refine aX (λc=>absurd (of_decide_eq_true c) (λz=>nomatch z)) (λ_=>aR ?_);refine⟨_,rfl,_,_,_,false,rfl,T2,kb,_,rfl,bK (aR ?_)⟩;refine⟨_,rfl,_,_,_,false,rfl,T2,ki,_,rfl,bK (aR ?_)⟩;refine⟨_,rfl,_,_,_,false,rfl,T2,JG,_,rfl,bK (aR ?_)⟩;refine⟨_,rfl,_,_,_,b1,rfl,T2,kl,_,rfl,_,_,_,b1,rfl,T1,kl,rfl,_,rfl,k4 rfl ?_⟩;refine⟨_,rfl,_,_,_,b2,rfl,T2,kt,_,rfl,_,_,_,b2,rfl,T1,kt,rfl,_,rfl,k4 rfl (aR ?_)⟩;refine⟨_,rfl,p,_,rfl,hp,_,rfl,r,_,rfl,hq,rfl,_,rfl,k4 (by rw[l1,l2]) (aR ?_)⟩;refine⟨_,rfl,r,_,rfl,hq,_,rfl,by omega,by omega,λD hD=>lM (lo:=0) (n:=((ys.length:Nat):Int).toNat)
   (λi zs H1=>aq H H1/\H1 D=some (.lst zs)/\zs=(List.replicate i true).map V.bl) ⟨bh hD _,aF,rfl⟩ ?_ ?_⟩
  ·rintro i zs H1 hi ⟨g,h1,rfl⟩;rw[Yq] at hi;have sq:∀{a:Addr} {us:List V},(ah K H a us\/au K H a us)->(ah K H1 a us\/au K H1 a us):=λ{a us} z=>by
    rcases z with z|z;·exact .inl (g.seq z)
    ·exact .inr (g.dY z)
   have gx:xs[i]?=some xs[i]:=Ye (by omega);have gy:ys[i]?=some ys[i]:=Ye (by omega);obtain⟨d1,e1,a1⟩:=fC p1 gx;obtain⟨d2,e2,a2⟩:=fC p2 gy;rw[e1] at e2;cases e2;refine gu (bN ?_);refine⟨_,rfl,_,rfl,yM (sq hp) gx ?_⟩;refine⟨_,rfl,_,rfl,yM (sq hq) gy ?_⟩;refine⟨_,_,d1,m,rfl,ek,a1.same g,a2.same g,λH2 g2=>?_⟩;refine⟨g2 _ _ h1,by rw[Ya,Yz];exact eR (by omega),λb o e=>?_,aF,?_⟩
   ·rw[aW (bE e hD)];exact g2 b o (g b o e)
   ·rw[List.replicate_succ',Yp];rfl
  ·rintro zs H1 ⟨g,h1,e⟩;refine⟨D,_,rfl,ah.of (by rw[h1,e]),?_⟩;rw[all_true];exact q H1 g
 ·refine⟨_,rfl,rfl,_,rfl,?_⟩;refine aX (λc=>?_) (λc=>absurd (n6 _) c);exact⟨_,rfl,rfl,q H (aq.refl H)⟩
 ·refine⟨_,rfl,rfl,_,rfl,?_⟩;refine aX (λc=>absurd (of_decide_eq_true c) (λz=>nomatch z)) (λ_=>aR ?_);refine⟨_,rfl,_,_,_,true,rfl,.bl b,yC,_,rfl,bN ?_⟩;refine⟨_,rfl,_,_,_,true,rfl,.bl b,yC,_,rfl,bN ?_⟩;refine⟨_,rfl,_,rfl,rfl,?_⟩;rw[n6];exact q H (aq.refl H)
 ·refine⟨_,rfl,rfl,_,rfl,?_⟩;refine aX (λc=>absurd (of_decide_eq_true c) (λz=>nomatch z)) (λ_=>aR ?_);refine⟨_,rfl,_,_,_,false,rfl,.int i,kW,_,rfl,bK (aR ?_)⟩;refine⟨_,rfl,_,_,_,true,rfl,.int i,sC,_,rfl,bN ?_⟩;refine⟨_,rfl,_,_,_,true,rfl,.int i,sC,_,rfl,bN ?_⟩;refine⟨_,rfl,_,_,_,false,rfl,.int i,kW,_,rfl,_,rfl,bN ?_⟩;refine⟨_,rfl,_,rfl,rfl,?_⟩;rw[n6];exact q H (aq.refl H)
 ·refine⟨_,rfl,rfl,_,rfl,?_⟩;refine aX (λc=>absurd (of_decide_eq_true c) (λz=>nomatch z)) (λ_=>aR ?_);refine⟨_,rfl,_,_,_,false,rfl,.str z,FI,_,rfl,bK (aR ?_)⟩;refine⟨_,rfl,_,_,_,false,rfl,.str z,FJ,_,rfl,bK (aR ?_)⟩;refine⟨_,rfl,_,_,_,true,rfl,.str z,yD,_,rfl,bN ?_⟩;refine⟨_,rfl,_,_,_,true,rfl,.str z,yD,_,rfl,bN ?_⟩;refine⟨_,rfl,_,rfl,rfl,?_⟩;rw[n6];exact q H (aq.refl H)
theorem same_none:aL P w K mg base aU 0 f fd gZ (jL 0):=by
 have no:∀vs H Q E,¬jL 0 vs H Q E:=λvs H Q E h=>by
  obtain⟨_,_,_,_,_,z,_⟩:=h;omega
 exact⟨λvs H Q E h=>absurd h (no vs H Q E),λA outer s H args us vs Q E _ _ _ _ h=>absurd h (no vs H Q E)⟩
theorem xX(F:aS K "_law_same" "_law_same" nO f fd)(bS:Binds K fd gZ [])(kS:keepIn K (.ref f)=true)(m:mg "_law_same"=some (.ref f))(bl:Bl mg):
  ∀n:Nat,aL P w K mg base aU n f fd gZ (jL n)
 |0=>same_none
 |n+1=>D6 F ⟨f,fd,xX F bS kS m bl n,bS,kS,m⟩ bl
end
inductive yN(K:af)(vs:List V)(H:Hp)(Q:VK):Prop
 |mk (p:Addr) (ns:List Int) (aE:vs=[.ref p]) (aN:Row K H p ns) (a9:ns.length<64) (bV:∀H',aq H H'->Q (.bl (full ns)) H'):yN K vs H Q
def tR(K:af):Sp:=λvs H Q _=>yN K vs H Q
def bR(ys xs:List Int):List Int:=xs.map λx=>ys.getD x.toNat 0
theorem r8{ys:List Int}(h:full ys=true){x:Int}(hx:x∈ys):0<=x/\x<ys.length:=by
 have hm:=(jC h).subset hx;unfold a7 at hm;obtain⟨i,hi,rfl⟩:=We.mp hm;have:=Y6.mp hi;omega
section
variable {K:af}{mg:aJ}{c:Addr}
abbrev g_:List Str:=["row"]
theorem CZ:bc g_ g_ (aM rq):=.bO
theorem C0(F:aS K "is_turn" "is_turn" rq f fd)(bl:Bl mg):aL P w K mg base aU 1 f fd g_ (tR K):=by
 refine F.o CZ @λa_ A outer vs Q E s H hr h=>?_;obtain⟨p,ns,rfl,hR,jq,q⟩:=h;have hu:=hr.lY;refine⟨_,(ar (aV (dw (ie (zW (K:=K) rfl rfl) rfl bl.zj yy (aa (jF (x:="number") (fr:=[]) (cl:=[]) rfl (.fo trivial trivial) (FE (pv 0)) (λ_ _ _ _=>ik) (λ_ _ _ _=>(cS K bl (pv 0) (cQ rfl bl.jK jG)))) ai))) (ay (aK eh)) aY) (ay (aK (dG (FF hu) (ie (sortedK (K:=K) rfl) rfl bl.DV Dm (aa (pv 0) ai)) (cz (vI rfl) rfl bl.gq gn (aa (cz nM rfl bl.dv lR (aa (cg K bl (pv 0)) ai)) ai)))))),?_⟩;have hl:(ns.map V.int).length=ns.length:=Ya _;have rest:∀(D:Addr) (H1:Hp),aq H H1->H1 D=some (.lst ((List.replicate ns.length false).map V.bl))->
   ∃(AN:Addr) (bs:List Bool),[V.ref D]=[V.ref AN]/\ah K H1 AN (bs.map V.bl)/\tB (tC (V.bl (bs.any id))) [] H1 (λc H2=>if c=true then Q (.bl false) H2 else
    (zm K false (fR 0)) [some (.ref p)] H2 Q):=λD H1 g1 h1=>by
  refine⟨D,_,rfl,ah.of h1,_,rfl,?_⟩;rw[any_false];refine bK ?_;exact DW rfl (Row.same g1 hR) jq λH' g=>q H' (g1.trans g)
 have turn:∀(D:Addr),H D=none->∀(i:Nat) (v:V) (ys:List V) (H1:Hp),(ns.map V.int)[i]?=some v->(aq H H1/\H1 D=some (.lst ys)/\ys=(List.replicate i false).map V.bl)->
   gT (oW K) (fP (fR 0) (fP (tC (V.ty "bool")) iA)) [some v] H1 λy H3=>H3 D=some (.lst ys)/\ys.length<sizeLine/\
    (aq H (upd H3 D (.lst (ys++[y])))/\upd H3 D (.lst (ys++[y])) D=some (.lst (ys++[y]))/\ys++[y]=(List.replicate (i+1) false).map V.bl):=λD hD i v ys H1 hi ⟨g,h1,e⟩=>by
  obtain⟨z,rfl,hz⟩:=lT hi;have nh:i<ns.length:=(Yh.mp hz).1;refine⟨_,rfl,_,_,_,false,rfl,.int z,kW,h1,?_,λb o q=>?_,aF,?_⟩
  ·rw[e,Ya,Yz];exact eR (by omega)
  ·rw[aW (bE q hD)];exact g b o q
  ·rw[e,List.replicate_succ',Yp];rfl
 refine⟨_,rfl,p,rfl,?_⟩;rcases hR with nr|nr
 ·refine .inl ⟨⟨_,nr⟩,λD hD=>wH (xs:=ns.map V.int) (λi ys H1=>aq H H1/\H1 D=some (.lst ys)/\ys=(List.replicate i false).map V.bl) ⟨bh hD _,aF,rfl⟩ (λi ys H1 _ ⟨g,_,_⟩=>g.seq nr) (λi v ys H1 hi h=>gu (bN (turn D hD i v ys H1 hi h))) ?_⟩;rintro ys H1 ⟨g,h1,e⟩;exact rest D H1 g (by rw[h1,e,hl])
 ·refine .inr ⟨⟨_,nr⟩,λD hD=>rE (xs:=ns.map V.int) (λi ys H1=>aq H H1/\H1 D=some (.lst ys)/\ys=(List.replicate i false).map V.bl) ⟨bh hD _,aF,rfl⟩ (λi ys H1 _ ⟨g,_,_⟩=>g.dY nr) (λi v ys H1 hi h=>gu (bN (turn D hD i v ys H1 hi h))) ?_⟩;rintro ys H1 ⟨g,h1,e⟩;exact rest D H1 g (by rw[h1,e,hl])
end
inductive xY(K:af)(vs:List V)(H:Hp)(Q:VK):Prop
 |mk (a b:Addr) (xs ys:List Int) (aE:vs=[.ref a,.ref b]) (aN:au K H a (xs.map V.int)) (a9:au K H b (ys.map V.int)) (bV:(∀x∈xs,0<=x/\x<ys.length)) (cO:xs.length<64) (iH:∀(t:Addr) (H':Hp),H t=none->aq H H'->H' t=some (.tup ((bR ys xs).map V.int))->Q (.ref t) H'):xY K vs H Q
def zu(K:af):Sp:=λvs H Q _=>xY K vs H Q
section
variable {K:af}{mg:aJ}
abbrev iM:List Str:=["first","then"]
theorem Cw:bc iM iM (aM qS):=.bO
theorem Cy(F:aS K "followed" "followed" qS f fd)(bl:Bl mg):aL P w K mg base aU 1 f fd iM (zu K):=by
 refine F.o Cw λs H hr h=>?_;obtain⟨a,b,xs,ys,rfl,hA,hB,uO,hl,q⟩:=h;have al:(bR ys xs).length=xs.length:=by unfold bR;rw[Ya]
 refine⟨_,(ay (aK (cz (kA) rfl bl.eW eS (aa (jF (x:="section") (fr:=[("then",1)]) (cl:=[("then",s.heap.objs.size+1)]) rfl (.fo ⟨rfl,trivial⟩ ⟨⟨rfl,.inl rfl,.inl rfl,rfl⟩,trivial⟩) (oC (pv 0)) (λ_ _ _ _=>ik) (λ_ _ _ _=>(az (iT K) (pv 1) (pv 0)))) ai)))),?_⟩;refine⟨_,rfl,a,rfl,⟨_,hA⟩,λD hD=>rE (xs:=xs.map V.int) (λi zs H3=>aq H H3/\H3 D=some (.lst zs)/\zs=((bR ys xs).take i).map V.int) ⟨bh hD _,aF,rfl⟩ (λi zs H3 _ ⟨g3,_,_⟩=>g3.dY hA) ?_ ?_⟩
 ·rintro i v zs H3 hi ⟨g3,h3,e3⟩;obtain⟨z,rfl,hz⟩:=lT hi;have bz:=uO z (Ys hz);refine gu (bN ⟨_,rfl,_,rfl,b,_,_,_,rfl,rfl,g3.dY hB,oH bz.1 bz.2,h3,?_,λd o qd=>?_,aF,?_⟩)
  ·rw[e3,Ya,Y5,al];exact eR (by omega)
  ·rw[aW (bE qd hD)];exact g3 d o qd
  ·rw[e3,Y3,rj];unfold bR;rw[Yd,hz];rfl
 ·rintro zs H3 ⟨g3,h3,e3⟩;refine⟨D,_,rfl,.inl ⟨ah.of h3,λt ht=>q t _ (g3.free ht) (g3.trans (bh ht _)) ?_⟩⟩;show upd H3 t (.tup zs) t=_;rw[aF,e3,Ya,Y9 (by rw[al];omega)]
end
def et(x:Int):List Int->Nat
 |[]=>0
 |y::r=>if y=x then 0 else et x r+1
theorem n_{x:Int}:∀{l:List Int},x∈l->l[et x l]?=some x/\∀m,m<et x l->l[m]?≠some x
 |[],h=>by cases h
 |y::r,h=>by
  unfold et;by_cases e:y=x;·grind
  ·rw[if_neg e];obtain⟨h1,h2⟩:=n_ ((Yu.mp h).resolve_left λz=>e z.symm);refine⟨by rw[List.getElem?_cons_succ];exact h1,λm hm=>?_⟩;cases m with
   |zero=>grind
   |succ m=>grind
theorem nW{l:List Int}(nd:l.Nodup){k:Nat}{x:Int}(h:l[k]?=some x):et x l=k:=by
 obtain⟨h1,h2⟩:=n_ (Ys h);exact(List.getElem?_inj (by rcases Yh.mp h1 with⟨z,_⟩;exact z) nd).mp (h1.trans h.symm)
def inv(xs:List Int):List Int:=(a7 xs.length).map λi=>(et i xs:Int)
theorem d9(xs:List Int):(inv xs).length=xs.length:=by unfold inv;rw[Ya,cL]
theorem ow{xs:List Int}{i:Nat}(h:i<xs.length):(inv xs)[i]?=some (et (i:Int) xs:Int):=by
 unfold inv;rw[Yd,fG h];rfl
theorem nP{xs:List Int}(h:full xs=true):xs.Nodup:=(jC h).nodup_iff.mpr (AF.CS _)
theorem xl{xs:List Int}(h:full xs=true){i:Nat}(hi:i<xs.length):(i:Int)∈xs:=(jC h).symm.subset (Ys (fG hi))
theorem kM{xs:List Int}(h:full xs=true):full (inv xs)=true:=by
 have p:(xs.map λi=>(et i xs:Int)).Perm (inv xs):=(jC h).map _;have e:xs.map (λi=>(et i xs:Int))=a7 xs.length:=by
  refine Y7 λi=>?_;rw[Yd];by_cases hi:i<xs.length
  ·rw[fG hi,Ye hi];show some (et xs[i] xs:Int)=some (i:Int);rw[nW (nP h) (Ye hi)]
  ·rw[Yt (by omega),Yt (by rw[cL];omega)];rfl
 rw[e] at p;exact kP p.symm
theorem inv_inv{xs:List Int}(h:full xs=true):inv (inv xs)=xs:=by
 refine Y7 λi=>?_;by_cases hi:i<xs.length
 ·rw[ow (by rw[d9];exact hi),Ye hi];have b:=r8 h (Wp hi);have hk:(xs[i]).toNat<xs.length:=by omega
  have e:((xs[i].toNat:Nat):Int)=xs[i]:=by omega
  have g:(inv xs)[(xs[i]).toNat]?=some (i:Int):=by rw[ow hk,e,nW (nP h) (Ye hi)]
  rw[nW (nP (kM h)) g,e]
 ·rw[Yt (by rw[d9,d9];omega),Yt (by omega)]
theorem xm{xs:List Int}{i:Nat}(hi:i<xs.length):(inv xs).take (i+1)=(inv xs).take i++[(et (i:Int) xs:Int)]:=by
 rw[Y3,ow hi];rfl
inductive yO(vs:List V)(H:Hp)(Q:VK):Prop
 |mk (a:Addr) (xs:List Int) (aE:vs=[.ref a]) (aN:H a=some (.tup (xs.map V.int))) (a9:xs.length<64) (bV:full xs=true) (cO:∀(t:Addr) (H':Hp),H t=none->aq H H'->H' t=some (.tup ((inv xs).map V.int))->Q (.ref t) H'):yO vs H Q
def z7:Sp:=λvs H Q _=>yO vs H Q
section
variable {K:af}{mg:aJ}
abbrev jv:List Str:=["turn"]
theorem BM:bc jv jv (aM qo):=.bO
theorem BN(F:aS K "turned_back" "turned_back" qo f fd)(bl:Bl mg):aL P w K mg base aU 1 f fd jv z7:=by
 refine F.ok BM (λvs H Q E h=>?_) (λa_ A outer s H1 vs Q E hr h=>?_)
 ·obtain⟨a,xs,rfl,_⟩:=h;rfl
 obtain⟨a,xs,rfl,hA,lx,fx,q⟩:=h;refine⟨_,(ay (aK (cz (kA) rfl bl.eW eS (aa (jF (x:="section") (fr:=[("turn",0)]) (cl:=[("turn",s.heap.objs.size+1)]) rfl (.fo ⟨rfl,trivial⟩ ⟨⟨rfl,.inl rfl,.inl rfl,rfl⟩,trivial⟩) (fD rfl bl.dv (aa (cg K bl (pv 0)) ai)) (λ_ _ _ _=>ik) (λ_ _ _ _=>(vP (pv 1) (aa (pv 0) ai)))) ai)))),?_⟩;have el:(xs.map V.int).length=xs.length:=Ya _;refine⟨_,rfl,a,_,rfl,.inr (au.of hA),_,rfl,by rw[el];omega,by rw[el];omega,λD hD=>lM (lo:=0) (n:=(((xs.map V.int).length:Nat):Int).toNat)
   (λi zs H2=>aq H1 H2/\H2 D=some (.lst zs)/\zs=((inv xs).take i).map V.int) ⟨bh hD _,aF,rfl⟩ ?_ ?_⟩
 ·rintro i zs H2 hi ⟨g2,h2,e2⟩;rw[Yq,el] at hi;rw[Wk];have hx:=n_ (xl fx hi);have nv:=g2 _ _ hA;refine gu (bN ⟨_,rfl,a,xs,rfl,nv,_,rfl,(i:Int),et (i:Int) xs,rfl,nv,hx.1,hx.2,h2,?_,λd o qd=>?_,aF,?_⟩)
  ·rw[e2,Ya,Y5,d9];exact eR (by omega)
  ·rw[aW (bE qd hD)];exact g2 d o qd
  ·rw[e2,xm hi,Yp];rfl
 ·rintro zs H2 ⟨g2,h2,e2⟩;refine⟨D,_,rfl,.inl ⟨ah.of h2,λt ht=>q t _ (g2.free ht) (g2.trans (bh ht _)) ?_⟩⟩;rw[aF,e2,Yq,el,Y9 (by rw[d9];omega)]
end
inductive wN(vs:List V)(H:Hp)(Q:VK):Prop
 |mk (n:Nat) (aE:vs=[.int (n:Int)]) (aN:n<=1000) (a9:∀(t:Addr) (H':Hp),H t=none->aq H H'->H' t=some (.tup ((a7 n).map V.int))->Q (.ref t) H'):wN vs H Q
def xZ:Sp:=λvs H Q _=>wN vs H Q
section
variable {K:af}{mg:aJ}{c:Addr}
theorem D7:bc ["size"] ["size"] (aM r6):=.bO
theorem D8(F:aS K "still" "still" r6 f fd)(bl:Bl mg):aL P w K mg base aU 1 f fd ["size"] xZ:=by
 refine F.o D7 λs H hr h=>?_;obtain⟨n,rfl,hn,q⟩:=h;refine⟨_,(ay (aK (cz (vG rfl) rfl bl.eW eS (aa (cz nM rfl bl.dv lR (aa (pv 0) ai)) ai)))),?_⟩;exact⟨_,rfl,_,rfl,λr cT=>⟨r,n,rfl,aF,hn,λt ht=>q t _ ((bh cT _).free ht) ((bh cT _).trans (bh ht _)) aF⟩⟩
end
inductive x3(K:af)(vs:List V)(H:Hp)(Q:VK):Prop
 |mk (p:Addr) (ns:List Int) (aE:vs=[.ref p]) (aN:au K H p (ns.map V.int)) (a9:ns.length<64) (bV:full ns=true) (cO:∀H',aq H H'->Q .aD H'):x3 K vs H Q
def tf(K:af):Sp:=λvs H Q _=>x3 K vs H Q
inductive yP(K:af)(vs:List V)(H:Hp)(Q:VK):Prop
 |mk (a b:Addr) (xs ys:List Int) (aE:vs=[.ref a,.ref b]) (aN:au K H a (xs.map V.int)) (a9:au K H b (ys.map V.int)) (bV:xs.length<64) (cO:full xs=true) (iH:full ys=true) (nc:xs.length=ys.length) (ng:∀(t:Addr) (H':Hp),H t=none->aq H H'->H' t=some (.tup ((bR ys xs).map V.int))->Q (.ref t) H'):yP K vs H Q
def tS(K:af):Sp:=λvs H Q _=>yP K vs H Q
inductive yQ(vs:List V)(H:Hp)(Q:VK):Prop
 |mk (a:Addr) (xs:List Int) (aE:vs=[.ref a]) (aN:H a=some (.tup (xs.map V.int))) (a9:xs.length<64) (bV:full xs=true) (cO:∀(t:Addr) (H':Hp),H t=none->aq H H'->H' t=some (.tup ((inv xs).map V.int))->Q (.ref t) H'):yQ vs H Q
def z8:Sp:=λvs H Q _=>yQ vs H Q
inductive xn(K:af)(vs:List V)(H:Hp)(Q:VK):Prop
 |mk (l a0:Addr) (as:List Addr) (n:Nat) (aE:vs=[.ref l]) (aN:ah K H l ((a0::as).map V.ref)) (a9:2<=n) (bV:n<=8) (cO:(∀a∈a0::as,∃xs:List Int,au K H a (xs.map V.int)/\xs.length=n/\full xs=true)) (iH:∀H',aq H H'->Q .aD H'):xn K vs H Q
def sI(K:af):Sp:=λvs H Q _=>xn K vs H Q
inductive vS(K:af)(vs:List V)(H:Hp)(Q:VK):Prop
 |mk (m f w:Addr) (xs ys:List Int) (aE:vs=[.ref m,.ref f,.ref w]) (aN:au K H m (xs.map V.int)) (a9:au K H f ((bR xs ys).map V.int)) (bV:au K H w (ys.map V.int)) (cO:full xs=true) (iH:full ys=true) (nc:xs.length=ys.length) (ng:xs.length<=8) (pK:∀H',aq H H'->Q .aD H'):vS K vs H Q
def wO(K:af):Sp:=λvs H Q _=>vS K vs H Q
theorem jB(xs ys:List Int):(bR xs ys).length=ys.length:=by unfold bR;rw[Ya]
theorem oa{xs ys:List Int}(fx:full xs=true)(fy:full ys=true)(e:xs.length=ys.length):full (bR xs ys)=true:=by
 have p1:(bR xs ys).Perm ((a7 ys.length).map λx=>xs.getD x.toNat 0):=(jC fy).map _;have e2:((a7 ys.length).map λx=>xs.getD x.toNat 0)=xs:=by
  refine Y7 λi=>?_;rw[Yd];by_cases hi:i<ys.length
  ·rw[fG hi]
   grind
  ·rw[Yt (by rw[cL];omega),Yt (by omega)];rfl
 rw[e2] at p1;exact kP (p1.trans (jC fx))
abbrev GY(n:Nat)(m f w d:Addr):List (Str×V):=[("size",.int (n:Int)),("mother",.ref m),("father",.ref f),("wife",.ref w),("steps",.ref d)]
abbrev me(m f w im jf iw st:Addr):List (Key×V):=[(.inr "c",.ref m),(.inr "k",.ref f),(.inr "w",.ref w),(.inr "m",.ref im),(.inr "f",.ref jf),(.inr "h",.ref iw),(.inr "s",.ref st)]
def a8(H:Hp)(a:Addr)(ns:List Int):Prop:=H a=some (.tup (ns.map V.int))
inductive xp(H:Hp)(C L:Addr)(xs ys:List Int):Prop
 |mk (dx d m f w im jf iw st:Addr) (aE:H L=some (.ins C dx (GY xs.length m f w d))) (aN:H d=some (.dK (me m f w im jf iw st))) (a9:a8 H m xs) (bV:a8 H f (bR xs ys)) (cO:a8 H w ys) (iH:a8 H im (inv xs)) (nc:a8 H jf (inv (bR xs ys))) (ng:a8 H iw (inv ys)) (pK:a8 H st (a7 xs.length)):xp H C L xs ys
def jM(H:Hp)(C L:Addr)(xs ys:List Int):Prop:=xp H C L xs ys
theorem jM.same{H H':Hp}{C L:Addr}{xs ys:List Int}(g:aq H H')(h:jM H C L xs ys):jM H' C L xs ys:=by
 obtain⟨dx,d,m,f,w,im,jf,iw,st,h1,h2,h3,h4,h5,h6,h7,h8,h9⟩:=h;exact⟨dx,d,m,f,w,im,jf,iw,st,g _ _ h1,g _ _ h2,g _ _ h3,g _ _ h4,g _ _ h5,g _ _ h6,g _ _ h7,g _ _ h8,g _ _ h9⟩
inductive xq(C:Addr)(vs:List V)(H:Hp)(Q:VK):Prop
 |mk (x dx m f w:Addr) (xs ys:List Int) (aE:vs=[.ref x,.ref m,.ref f,.ref w]) (aN:H x=some (.ins C dx [])) (a9:a8 H m xs) (bV:a8 H f (bR xs ys)) (cO:a8 H w ys) (iH:full xs=true) (nc:full ys=true) (ng:xs.length=ys.length) (pK:2<=xs.length) (II:xs.length<=8) (LZ:∀H',(∀b o,H b=some o->b≠x->H' b=some o)->jM H' C x xs ys->Q .aD H'):xq C vs H Q
def yR(C:Addr):Sp:=λvs H Q _=>xq C vs H Q
inductive wo(C:Addr)(vs:List V)(H:Hp)(Q:VK):Prop
 |mk (m w:Addr) (xs ys:List Int) (aE:vs=[.ref m,.ref w]) (aN:a8 H m xs) (a9:a8 H w ys) (bV:full xs=true) (cO:full ys=true) (iH:xs.length=ys.length) (nc:2<=xs.length) (ng:xs.length<=8) (pK:∀(L:Addr) (H':Hp),aq H H'->jM H' C L xs ys->Q (.ref L) H'):wo C vs H Q
def xr(C:Addr):Sp:=λvs H Q _=>wo C vs H Q
structure oN(K:af)(C:Addr):Prop where
 cls:fj K C
 yS:fM K C "size"
 D9:fM K C "mother"
 D_:fM K C "father"
 F8:fM K C "wife"
 r_:fM K C "steps"
section
variable {K:af}{mg:aJ}{c:Addr}
theorem BX:bc g_ g_ (aM qx):=.bO
theorem F9(F:aS K "check_turn" "check_turn" qx f fd)(kL:HasFn P w K mg base 1 "is_turn" g_ (tR K)):aL P w K mg base aU 2 f fd g_ (tf K):=by
 refine F.o BX λs H hr h=>?_;obtain⟨p,ns,rfl,hT,jq,fl,q⟩:=h;refine⟨_,(ay (aV (fL (dw (aI kL hr (aa (pv 0) ai)))) kI aY)),?_⟩;refine⟨_,rfl,p,ns,rfl,.inr hT,jq,λH1 g=>⟨_,rfl,?_⟩⟩;rw[fl];exact bK (q H1 g)
theorem Dy:bc iM iM (aM rF):=.bO
theorem GZ(F:aS K "behind" "behind" rF f fd)(jA:HasFn P w K mg base 2 "check_turn" g_ (tf K))(q0:HasFn P w K mg base 1 "followed" iM (zu K))(bl:Bl mg):aL P w K mg base aU 3 f fd iM (tS K):=by
 refine F.o Dy λs H hr h=>?_;obtain⟨a,b,xs,ys,rfl,hA,hB,lx,fx,fy,eq,q⟩:=h;refine⟨_,(ar (gk (aI jA hr (aa (pv 0) ai))) (ar (gk (aI jA hr (aa (pv 1) ai))) (ar (aV (aZ dA (cg K bl (pv 0)) (cg K bl (pv 1))) kI aY) (ay (aK (aI q0 hr (aa (pv 0) (aa (pv 1) ai)))))))),?_⟩;refine⟨_,rfl,a,xs,rfl,hA,lx,fx,λH1 g1=>?_⟩;refine⟨_,rfl,b,ys,rfl,g1.dY hB,by omega,fy,λH2 g2=>?_⟩;have g:=g1.trans g2;have AO:=g.dY hA;have AQ:=g.dY hB;have el:∀zs:List Int,(zs.map V.int).length=zs.length:=λzs=>Ya _;refine⟨_,rfl,a,_,rfl,.inr AO,_,rfl,b,_,rfl,.inr AQ,rfl,_,rfl,k4 (by rw[el,el,eq]) (aR ?_)⟩;exact⟨_,rfl,_,rfl,a,b,xs,ys,rfl,AO,AQ,λz hz=>by rw[←eq];exact r8 fx hz,lx,λt H3 nt g3 ht=>q t H3 (g.free nt) (g.trans g3) ht⟩
theorem E1:bc jv jv (aM sH):=.bO
theorem G0(F:aS K "back" "back" sH f fd)(jA:HasFn P w K mg base 2 "check_turn" g_ (tf K))(qr:HasFn P w K mg base 1 "turned_back" jv z7)(bl:Bl mg):aL P w K mg base aU 3 f fd jv z8:=by
 refine F.o E1 λs H hr h=>?_;obtain⟨a,xs,rfl,hA,lx,fx,q⟩:=h;refine⟨_,(ar (gk (aI jA hr (aa (pv 0) ai))) (ay (aK (aI qr hr (aa (pv 0) ai))))),?_⟩;refine⟨_,rfl,a,xs,rfl,au.of hA,lx,fx,λH1 g1=>?_⟩;exact⟨_,rfl,a,xs,rfl,g1 _ _ hA,lx,fx,λt H2 nt g2 ht=>q t H2 (g1.free nt) (g1.trans g2) ht⟩
theorem qt:bc ["rows","size","row"] ["rows"] (aM qy):=.bO
theorem E2(F:aS K "check_rows" "check_rows" qy f fd)(kL:HasFn P w K mg base 1 "is_turn" g_ (tR K)){t1 t2:Tok}(qB:mg "LEAST_SIZE"=some (.int 2 t1))(qM:mg "MOST_SIZE"=some (.int 8 t2))(bl:Bl mg):aL P w K mg base aU 2 f fd ["rows"] (sI K):=by
 refine F.o qt λs H hr h=>?_;obtain⟨l,a0,as,n,rfl,hL,n2,n8,rows,q⟩:=h;refine⟨_,(ar (aQ 1 qt.nd (cg K bl (az (iL K) (pv 0) ao))) (ar (aV (PW.pt (pw_or (aZ oJ (pv 1) (ig (v:=.int (2)) rfl qB ⟨_,rfl⟩)) (pw_or1 (aZ za (pv 1) (ig (v:=.int (8)) rfl qM ⟨_,rfl⟩))))) kI aY) (ay (dy PassesOwn.never rfl (gj (K:=K) rfl (pv 0)) (bg 2 qt.nd) (ay (aV (PW.pt (pw_or (aZ dA (cg K bl (pv 2)) (pv 1)) (pw_or1 (fL (dw (aI kL hr (aa (pv 2) ai))))))) kI aY)))))),?_⟩;have el:∀zs:List Int,(zs.map V.int).length=zs.length:=λzs=>Ya _;obtain⟨x0,h0,l0,f0⟩:=rows a0 Yy;refine⟨_,rfl,l,_,0,.ref a0,rfl,rfl,hL,fJ (j:=0) rfl,a0,_,rfl,.inr h0,?_⟩;rw[el,l0];refine⟨_,rfl,_,_,rfl,rfl,_,rfl,aX (λcc=>absurd (of_decide_eq_true cc) (by omega)) (λ_=>?_)⟩;refine⟨_,rfl,_,_,rfl,rfl,_,rfl,aX (λcc=>absurd (of_decide_eq_true cc) (by omega)) (λ_=>aR ?_)⟩;refine⟨_,rfl,l,rfl,⟨_,hL⟩,i5 (xs:=(a0::as).map V.ref) (λi σ H1=>aq H H1/\∃o2:Option V,σ=[some (.ref l),some (.int (n:Int)),o2]) ⟨aq.refl _,none,rfl⟩ (λi σ H1 _ ⟨g,_⟩=>g.seq hL) ?_ ?_⟩
 ·rintro i v σ H1 hi ⟨g,o2,rfl⟩;rw[Yd] at hi;obtain⟨a,ha,rfl⟩:∃a,a∈a0::as/\V.ref a=v:=by
   cases e:(a0::as)[i]? with
   |none=>rw[e] at hi;cases hi
   |some a=>grind
  obtain⟨xs,hx,lx,fx⟩:=rows a ha;refine⟨_,rfl,a,_,rfl,.inr (g.dY hx),_,rfl,rfl,_,rfl,k4 (by rw[el,lx]) ?_⟩;refine⟨_,rfl,a,xs,rfl,.inr (g.dY hx),by omega,λH2 g2=>⟨_,rfl,?_⟩⟩;rw[fx];exact bK (aR ⟨g.trans g2,_,rfl⟩)
 ·rintro σ H1 ⟨g,o2,rfl⟩;exact q H1 g
abbrev uP:List Str:=["mother","father","wife"]
theorem qk:bc ["mother","father","wife","by_mothers","section"] uP (aM ql):=.bO
theorem C1(F:aS K "check_parents" "check_parents" ql f fd)(kN:HasFn P w K mg base 3 "behind" iM (tS K))(bl:Bl mg):aL P w K mg base aU 4 f fd uP (wO K):=by
 refine F.o qk λs H hr h=>?_;obtain⟨m,fa,wi,xs,ys,rfl,hM,hF,hW,fx,fy,eq,l8,q⟩:=h;refine⟨_,(ar (aQ 3 qk.nd (aI kN hr (aa (pv 2) (aa (pv 0) ai)))) (ay (dy PassesOwn.never rfl (fD rfl bl.dv (aa (cg K bl (pv 1)) ai)) (bg 4 qk.nd) (ay (aV (aZ dA (az (iT K) (pv 3) (pv 4)) (az (iT K) (pv 1) (pv 4))) kI aY))))),?_⟩;have el:∀zs:List Int,(zs.map V.int).length=zs.length:=λzs=>Ya _;refine⟨_,rfl,_,rfl,wi,m,ys,xs,rfl,hW,hM,by omega,fy,fx,eq.symm,λt H1 nt g ht=>?_⟩;have al:=jB xs ys;refine⟨_,rfl,fa,_,rfl,.inr (g.dY hF),_,rfl,by rw[el];omega,by rw[el];omega,kJ (lo:=0) (n:=((((bR xs ys).map V.int).length:Nat):Int).toNat)
  (λi σ H2=>H2=H1/\∃o4:Option V,σ=[some (.ref m),some (.ref fa),some (.ref wi),some (.ref t),o4]) ⟨rfl,none,rfl⟩ ?_ ?_⟩
 ·rintro i σ H2 hi ⟨rfl,o4,rfl⟩;rw[Yq,el] at hi;have at_:cJ ((bR xs ys).map V.int) (0+(i:Int))=some (.int ((bR xs ys).getD (0+(i:Int)).toNat 0)):=oH (by omega) (by omega);refine⟨_,rfl,_,rfl,t,_,_,_,rfl,rfl,au.of ht,at_,_,rfl,_,rfl,fa,_,_,_,rfl,rfl,g.dY hF,at_,rfl,_,rfl,k4 rfl (aR ⟨rfl,_,rfl⟩)⟩
 ·rintro σ H2 ⟨rfl,o4,rfl⟩;exact q _ g
end
theorem lr{f:Str}{y:V}{fs:List (Str×V)}{n:Nat}(h:fs.length<=n):(cF f y fs).length<=n+1:=Yx (qE f y fs) (Nat.succ_le_succ h)
theorem JH(a b c d:V):cF "wife" d (cF "father" c (cF "mother" b (cF "size" a [])))=([("size",a),("mother",b),("father",c),("wife",d)]:List (Str×V)):=rfl
theorem JI(a b c d e:V):cF "steps" e [("size",a),("mother",b),("father",c),("wife",d)]=([("size",a),("mother",b),("father",c),("wife",d),("steps",e)]:List (Str×V)):=rfl
theorem JJ(a b c d e f g:V):jc [] [(.inr "c",a),(.inr "k",b),(.inr "w",c),(.inr "m",d),(.inr "f",e),(.inr "h",f),(.inr "s",g)]=[(.inr "c",a),(.inr "k",b),(.inr "w",c),(.inr "m",d),(.inr "f",e),(.inr "h",f),(.inr "s",g)]:=rfl
section
variable {K:af}{mg:aJ}{c:Addr}
abbrev pP:List Str:=["self","mother","father","wife"]
theorem B8:bc pP pP (aM qK):=.bO
theorem E3(F:aS K "__init__" "Land.__init__" qK f fd)(lc:oN K C)(kC:HasFn P w K mg base 2 "check_rows" ["rows"] (sI K))(qm:HasFn P w K mg base 4 "check_parents" uP (wO K))
  (mf:HasFn P w K mg base 3 "back" jv z8)(se:HasFn P w K mg base 1 "still" ["size"] xZ)(bl:Bl mg):aL P w K mg base aU 5 f fd pP (yR C):=by
 refine F.o B8 λs H hr h=>?_;obtain⟨x,dx,m,fa,wi,xs,ys,rfl,hx,hM,hF,hW,fx,fy,eq,l2,l8,q⟩:=h;refine⟨_,(ar (gk (aI kC hr (aa (lZ (aa (pv 1) (aa (pv 2) (aa (pv 3) ai)))) ai))) (ar (gk (aI qm hr (aa (pv 1) (aa (pv 2) (aa (pv 3) ai))))) (ar (lX (pv 0) (cg K bl (pv 1)) rfl) (ar (lX (pv 0) (pv 1) rfl) (ar (lX (pv 0) (pv 2) rfl) (ar (lX (pv 0) (pv 3) rfl) (ay (lX (pv 0) (rZ (eT bU (pv 1) (eT bU (pv 2) (eT bU (pv 3) (eT bU (aI mf hr (aa (pv 1) ai)) (eT bU (aI mf hr (aa (pv 2) ai)) (eT bU (aI mf hr (aa (pv 3) ai)) (eT bU (aI se hr (aa (cg K bl (pv 1)) ai)) rY))))))) rfl rfl (λz=>nomatch z) (W4 rfl)) rfl)))))))),?_⟩;have el:∀zs:List Int,(zs.map V.int).length=zs.length:=λzs=>Ya _;have AR:=oa fx fy eq;have al:=jB xs ys;refine⟨_,rfl,_,rfl,_,rfl,by show 3<=sizeLine;decide,λl nl=>?_⟩;have g1:=bh nl (.lst [.ref m,.ref fa,.ref wi]);refine⟨l,m,[fa,wi],xs.length,rfl,ah.of aF,l2,l8,λa ha=>?_,λH2 g2=>?_⟩
 ·rcases Yu.mp ha with rfl|ha;·exact⟨xs,au.of (g1 _ _ hM),rfl,fx⟩
  ·rcases Yu.mp ha with rfl|ha;·exact⟨bR xs ys,au.of (g1 _ _ hF),by rw[al,eq],AR⟩
   ·rw[Yr] at ha;subst ha;exact⟨ys,au.of (g1 _ _ hW),eq.symm,fy⟩
 have pQ:=g1.trans g2;refine⟨_,rfl,_,rfl,_,rfl,m,fa,wi,xs,ys,rfl,au.of (pQ _ _ hM),au.of (pQ _ _ hF),au.of (pQ _ _ hW),fx,fy,eq,l8,λH3 g3=>?_⟩;have g:=pQ.trans g3;have pR:=g _ _ hx;have pS:=g _ _ hM;have uQ:=g _ _ hF;have uR:=g _ _ hW;have nm:m≠x:=λe=>by rw[e,pR] at pS;cases pS
 have nf:fa≠x:=λe=>by rw[e,pR] at uQ;cases uQ
 have nw:wi≠x:=λe=>by rw[e,pR] at uR;cases uR
 refine⟨_,rfl,m,_,rfl,.inr (au.of pS),_,rfl,x,C,dx,_,rfl,pR,lc.cls,lc.yS,by decide,?_⟩;refine⟨_,rfl,_,rfl,x,C,dx,_,rfl,aF,lc.cls,lc.D9,Wd (lr (Yc 0)) (by decide),?_⟩;refine⟨_,rfl,_,rfl,x,C,dx,_,rfl,aF,lc.cls,lc.D_,Wd (lr (lr (Yc 0))) (by decide),?_⟩;refine⟨_,rfl,_,rfl,x,C,dx,_,rfl,aF,lc.cls,lc.F8,Wd (lr (lr (lr (Yc 0)))) (by decide),?_⟩;rw[rP,rP,rP,el,JH];have uS:upd H3 x (.ins C dx [("size",.int (xs.length:Int)),("mother",.ref m),("father",.ref fa),("wife",.ref wi)]) x=some (.ins C dx [("size",.int (xs.length:Int)),("mother",.ref m),("father",.ref fa),("wife",.ref wi)]):=aF;have o4:∀b o,H3 b=some o->b≠x->upd H3 x (.ins C dx [("size",.int (xs.length:Int)),("mother",.ref m),("father",.ref fa),("wife",.ref wi)]) b=some o:=λb o e n=>by rw[aW n];exact e
 generalize upd H3 x (.ins C dx [("size",.int (xs.length:Int)),("mother",.ref m),("father",.ref fa),("wife",.ref wi)])=H4 at uS o4⊢;have uT:=o4 _ _ pS nm;have AS:=o4 _ _ uQ nf;have AU:=o4 _ _ uR nw;intro d nd;have g5:=bh nd (.dK []);have uU:upd H4 d (.dK []) d=some (.dK []):=aF;generalize upd H4 d (.dK [])=H5 at g5 uU⊢;refine⟨_,rfl,_,rfl,_,rfl,?_⟩;refine⟨_,rfl,m,xs,rfl,g5 _ _ uT,by omega,fx,λim H6 JK g6 uV=>?_⟩;refine⟨_,rfl,fa,bR xs ys,rfl,g6 _ _ (g5 _ _ AS),by omega,AR,λjf H7 JL g7 uW=>?_⟩;refine⟨_,rfl,wi,ys,rfl,g7 _ _ (g6 _ _ (g5 _ _ AU)),by omega,fy,λiw H8 Mh g8 JM=>?_⟩;have gb:=(g6.trans g7).trans g8;refine⟨_,rfl,m,_,rfl,.inr (au.of (gb _ _ (g5 _ _ uT))),xs.length,by rw[el];rfl,by omega,λst H9 JN g9 cu=>?_⟩;have fq:=gb.trans g9;refine⟨fq _ _ uU,me m fa wi im jf iw st,rfl,by show 7<=15;decide,?_⟩;have AV:d≠x:=bE uS nd |>.symm;have AW:=fq _ _ (g5 _ _ uS);refine⟨_,rfl,x,C,dx,_,rfl,by rw[aW AV.symm];exact AW,lc.cls,lc.r_,by show 4<1000;decide,?_⟩;rw[JI,JJ];have key:∀{b:Addr} {o:HO},H9 b=some o->b≠d->b≠x->upd (upd H9 d (.dK (me m fa wi im jf iw st))) x (.ins C dx [("size",.int (xs.length:Int)),("mother",.ref m),("father",.ref fa),("wife",.ref wi),("steps",.ref d)]) b=some o:=λ{b o} e n1 n2=>by
  rw[aW n2,aW n1];exact e
 have j1:∀{b:Addr} {zs:List Int},H9 b=some (.tup (zs.map V.int))->a8 (upd (upd H9 d (.dK (me m fa wi im jf iw st))) x (.ins C dx [("size",.int (xs.length:Int)),("mother",.ref m),("father",.ref fa),("wife",.ref wi),("steps",.ref d)])) b zs:=λ{b zs} e=>
  key e (λz=>by rw[z,fq _ _ uU] at e;cases e) (λz=>by rw[z,AW] at e;cases e)
 refine q _ (λb o e n=>?_) ⟨dx,d,m,fa,wi,im,jf,iw,st,aF,by rw[aW AV];exact aF,j1 (fq _ _ (g5 _ _ uT)),j1 (fq _ _ (g5 _ _ AS)),j1 (fq _ _ (g5 _ _ AU)),j1 (g9 _ _ (g8 _ _ (g7 _ _ uV))),j1 (g9 _ _ (g8 _ _ uW)),j1 (g9 _ _ JM),j1 cu⟩;have e4:=o4 _ _ (g _ _ e) n;refine key (fq _ _ (g5 _ _ e4)) (bE e4 nd) n
abbrev pT:List Str:=["mother","wife"]
theorem C2:bc pT pT (aM rz):=.bO
theorem C3(F:aS K "land_of" "land_of" rz f fd)(kC:HasFn P w K mg base 2 "check_rows" ["rows"] (sI K))(kN:HasFn P w K mg base 3 "behind" iM (tS K))
  (sJ:oK P w K mg base 5 "Land" C pP (yR C)):aL P w K mg base aU 7 f fd pT (xr C):=by
 refine F.o C2 λs H hr h=>?_;obtain⟨m,wi,xs,ys,rfl,hM,hW,fx,fy,eq,l2,l8,q⟩:=h;refine⟨_,(ar (gk (aI kC hr (aa (lZ (aa (pv 0) (aa (pv 1) ai))) ai))) (ay (aK (GJ sJ hr (by omega) rfl (aa (pv 0) (aa (aI kN hr (aa (pv 1) (aa (pv 0) ai))) (aa (pv 1) ai))))))),?_⟩;refine⟨_,rfl,_,rfl,by show 2<=sizeLine;decide,λl nl=>?_⟩;have g1:=bh nl (.lst [.ref m,.ref wi]);refine⟨l,m,[wi],xs.length,rfl,ah.of aF,l2,l8,λa ha=>?_,λH2 g2=>?_⟩
 ·rcases Yu.mp ha with rfl|ha;·exact⟨xs,au.of (g1 _ _ hM),rfl,fx⟩
  ·rw[Yr] at ha;subst ha;exact⟨ys,au.of (g1 _ _ hW),eq.symm,fy⟩
 have g:=g1.trans g2;refine⟨_,rfl,_,rfl,_,rfl,wi,m,ys,xs,rfl,au.of (g _ _ hW),au.of (g _ _ hM),by omega,fy,fx,eq.symm,λfa H3 Mi g3 ft=>?_⟩;have hE:=g.trans g3;refine⟨_,rfl,λx dx nx JO ne=>?_⟩;have JP:upd H3 dx (.own x) x=none:=by rw[aW (λz=>ne z.symm)];exact nx
 have g4:aq H3 (upd (upd H3 dx (.own x)) x (.ins C dx [])):=(bh JO _).trans (bh JP _);refine⟨x,dx,m,fa,wi,xs,ys,rfl,aF,g4 _ _ (hE _ _ hM),g4 _ _ ft,g4 _ _ (hE _ _ hW),fx,fy,eq,l2,l8,λH5 k5 la=>⟨rfl,q x H5 (λb o e=>?_) la⟩⟩;have e3:=hE _ _ e;exact k5 b o (g4 _ _ e3) (bE e3 nx)
end
abbrev jN(xs ys:List Int):List (Str×List Int):=[("c",xs),("k",bR xs ys),("w",ys),("m",inv xs),("f",inv (bR xs ys)),("h",inv ys),("s",a7 xs.length)]
inductive xt(C:Addr)(vs:List V)(H:Hp)(Q:VK):Prop
 |mk (L:Addr) (z:Str) (xs ys ns:List Int) (aE:vs=[.ref L,.str z]) (aN:jM H C L xs ys) (a9:(z,ns)∈jN xs ys) (bV:∀t:Addr,a8 H t ns->Q (.ref t) H):xt C vs H Q
def yT(C:Addr):Sp:=λvs H Q _=>xt C vs H Q
theorem step_at{H:Hp}{xs ys ns:List Int}{z:Str}{m f w im jf iw st:Addr}(h:(z,ns)∈jN xs ys)(h3:a8 H m xs)(h4:a8 H f (bR xs ys))(h5:a8 H w ys)(h6:a8 H im (inv xs))(h7:a8 H jf (inv (bR xs ys)))(h8:a8 H iw (inv ys))(h9:a8 H st (a7 xs.length)):
  ∃t,bD (me m f w im jf iw st) (.inr z)=some (.ref t)/\a8 H t ns:=by
 simp only[Yu,Wb,or_false] at h;rcases h with⟨rfl,rfl⟩|⟨rfl,rfl⟩|⟨rfl,rfl⟩|⟨rfl,rfl⟩|⟨rfl,rfl⟩|⟨rfl,rfl⟩|⟨rfl,rfl⟩;·exact⟨m,rfl,h3⟩
 ·exact⟨f,rfl,h4⟩
 ·exact⟨w,rfl,h5⟩
 ·exact⟨im,rfl,h6⟩
 ·exact⟨jf,rfl,h7⟩
 ·exact⟨iw,rfl,h8⟩
 ·exact⟨st,rfl,h9⟩
section
variable {K:af}{mg:aJ}
abbrev oZ:List Str:=["self","letter"]
theorem B9:bc oZ oZ (aM qL):=.bO
theorem E4(F:aS K "step" "Land.step" qL f fd)(lc:oN K C):aL P w K mg base aU 1 f fd oZ (yT C):=by
 refine F.o B9 λs H hr h=>?_;obtain⟨L,z,xs,ys,ns,rfl,la,hz,q⟩:=h;refine⟨_,(ar (aV (oA (nU (bY hr) (pv 1) (pF K 0)) (by with_unfolding_all rfl)) kI aY) (ay (aK (cU (bY hr) (pF K 0) (pv 1) (λ_ _=>rfl))))),?_⟩;obtain⟨dx,d,m,fa,wi,im,jf,iw,st,h1,h2,h3,h4,h5,h6,h7,h8,h9⟩:=la;obtain⟨t,hv,ht⟩:=step_at hz h3 h4 h5 h6 h7 h8 h9;have dg:=hv▸c7.k h2;exact⟨_,rfl,_,rfl,L,C,dx,_,.ref d,rfl,h1,lc.cls,lc.r_,rfl,d,_,rfl,dg,_,rfl,bK (aR ⟨_,rfl,L,C,dx,_,.ref d,rfl,h1,lc.cls,lc.r_,rfl,_,rfl,d,_,rfl,dg,q t ht⟩)⟩
end
def eY(xs ys:List Int):Prop:=full xs=true/\full ys=true/\xs.length=ys.length/\2<=xs.length/\xs.length<=8
theorem wq(g:eY xs ys)(h:(z,ns)∈jN xs ys):full ns=true/\ns.length=xs.length:=by
 obtain⟨fx,fy,e,_,_⟩:=g;have fa:=oa fx fy e;simp only[Yu,Wb,or_false,Prod.mk.injEq] at h;rcases h with⟨rfl,rfl⟩|⟨rfl,rfl⟩|⟨rfl,rfl⟩|⟨rfl,rfl⟩|⟨rfl,rfl⟩|⟨rfl,rfl⟩|⟨rfl,rfl⟩;·exact⟨fx,rfl⟩
 ·exact⟨fa,by rw[jB];exact e.symm⟩
 ·exact⟨fy,e.symm⟩
 ·exact⟨kM fx,d9 _⟩
 ·exact⟨kM fa,by rw[d9,jB];exact e.symm⟩
 ·exact⟨kM fy,by rw[d9];exact e.symm⟩
 ·exact⟨kP (List.Perm.refl _),cL _⟩
def hG(n:Nat)(d:Int):List Int:=(List.range n).map λi:Nat=>((i:Int)+d) % (n:Int)
theorem rot_length(n:Nat)(d:Int):(hG n d).length=n:=by simp[hG]
theorem Ea(hn:0<n)(d:Int):(hG n d).Perm (a7 n):=by
 have pk:(0:Int)<(n:Int):=by omega
 have r0:=Y0 d (Jn pk);have r1:=Yv d pk;obtain⟨r,er⟩:∃r:Nat,d % (n:Int)=(r:Int):=⟨(d % (n:Int)).toNat,by omega⟩;have rn:r<n:=by omega
 have e:hG n d=(a7 n).drop r++(a7 n).take r:=by
  refine Y7 λi=>?_;have ul:=cL n;by_cases hi:i<n
  ·have lhs:(hG n d)[i]?=some (((i:Int)+d) % (n:Int)):=by
    unfold hG;rw[Yd,Jb hi];rfl
   have em:((i:Int)+d) % (n:Int)=((r:Int)+(i:Int)) % (n:Int):=by
    rw[Int.add_comm,←Int.emod_add_emod,er]
   rw[lhs,em];by_cases h:r+i<n;·rw[Wo (by rw[W6,ul];omega),List.getElem?_drop,fG (by omega),Int.emod_eq_of_lt (by omega) (by omega),Int.natCast_add]
   ·rw[Wm (by rw[W6,ul];omega),W6,ul,List.getElem?_take_of_lt (by omega),fG (by omega)];have e3:(r:Int)+(i:Int)=((i-(n-r):Nat):Int)+(n:Int)*1:=by omega
    rw[e3,Int.add_mul_emod_self_left,Int.emod_eq_of_lt (by omega) (by omega)]
  ·rw[Yt (by rw[rot_length];omega),Yt (by rw[Ym,W6,Y5,ul];omega)]
 rw[e];exact List.perm_append_comm.trans (by rw[List.take_append_drop])
inductive x4(vs:List V)(H:Hp)(Q:VK):Prop
 |mk (c:Int) (n:Nat) (aE:vs=[.int c,.int (n:Int)]) (aN:0<n) (a9:n<=60) (bV:∀(t:Addr) (ts:List Int) (H':Hp),H t=none->aq H H'->a8 H' t ts->ts.Perm (a7 n)->Q (.ref t) H'):x4 vs H Q
def zw:Sp:=λvs H Q _=>x4 vs H Q
inductive x5(K:af)(vs:List V)(H:Hp)(Q:VK):Prop
 |mk (a b:Addr) (xs ys:List Int) (aE:vs=[.ref a,.ref b]) (aN:au K H a (xs.map V.int)) (a9:au K H b (ys.map V.int)) (bV:(∀x∈xs,0<=x/\x<ys.length)) (cO:xs.length<=60) (iH:∀(l:Addr) (H':Hp),H l=none->aq H H'->a8 H' l (bR ys xs)->Q (.ref l) H'):x5 K vs H Q
def zx(K:af):Sp:=λvs H Q _=>x5 K vs H Q
theorem sf(h:Paired Bd ds [a,b]):∃v w,ds=[v,w]/\Bd v a/\Bd w b:=by
 cases h with|cons h1 h=>cases h with|cons h2 h=>
  cases h;exact⟨_,_,rfl,h1,h2⟩
section
variable {K:af}{mg:aJ}
abbrev tT:List Str:=["_law_cell_here","_law_size"]
theorem wu:bc ["_law_cell_here","_law_size","_law_drawn"] tT (aM rA):=.bO
theorem C4(F:aS K "_law_row" "_law_row" rA f fd)(de:HasFn P w K mg base 1 "_law_draws" km (kO K))(q4:HasFn P w K mg base 1 "_law_turn" uK yA)(bl:Bl mg):
  aL P w K mg base aU 2 f fd tT zw:=by
 refine F.o wu λs H hr h=>?_;obtain⟨c,n,rfl,n0,JQ,q⟩:=h;refine⟨_,(ar (eX (i:=2) wu.nd rfl (Or.inr rfl) (aI de hr (aa (pv 0) (aa (lZ (aa ao (aa ao ai))) ai)))) (ar (aV (aZ bX (az (iL K) (pv 2) ao) ao) (ay (aK (cz (kA) rfl bl.eW eS (aa (jF (x:="_law_at") (fr:=[("_law_size",1),("_law_drawn",2)]) (cl:=[("_law_size",s.heap.objs.size+1),("_law_drawn",s.heap.objs.size+1+1)]) rfl (.fo ⟨rfl,⟨rfl,trivial⟩⟩ ⟨⟨rfl,.inl rfl,.inl rfl,rfl⟩,⟨⟨rfl,.inl rfl,.inl rfl,rfl⟩,trivial⟩⟩) (fD rfl bl.dv (aa (pv 1) ai)) (λ_ _ _ _=>ik) (λ_ _ _ _=>(aA cj (aA cv (pv 0) (az (iL K) (pv 2) ao)) (pv 1)))) ai)))) aY) (ay (aK (aI q4 hr (aa (az (iL K) (pv 2) ao) (aa (pv 1) ai))))))),?_⟩;refine⟨_,rfl,by show 2<=sizeLine;decide,λp np=>?_⟩;refine⟨c,p,[3,40320],rfl,ah.of aF,by decide,by decide,λdl ds H1 nd g1 h1 bd=>?_⟩;obtain⟨d0,d1,rfl,⟨a0,Mj⟩,⟨a1,Ml⟩⟩:=sf bd;have g:=(bh np _).trans g1;have pos:(0:Int)<(n:Int):=by omega
 refine⟨_,rfl,dl,_,0,.int d0,rfl,rfl,ah.of h1,rfl,rfl,_,rfl,aX (λ_=>?_) (λ_=>aR ?_)⟩
 ·refine⟨_,rfl,(n:Int),rfl,by omega,by omega,λD hD=>lM (lo:=0) (n:=(n:Int).toNat) (λi zs H2=>aq H1 H2/\H2 D=some (.lst zs)/\zs=((hG n d1).take i).map V.int) ⟨bh hD _,aF,rfl⟩ ?_ ?_⟩
  ·rintro i zs H2 hi ⟨g2,h2,e2⟩;rw[Yq] at hi;rw[Wk];refine gu (bN ⟨_,rfl,_,rfl,dl,_,1,.int d1,rfl,rfl,ah.of (g2 _ _ h1),rfl,_,_,rfl,rfl,_,rfl,_,_,rfl,rfl,pos,h2,?_,λd o qd=>?_,aF,?_⟩)
   ·rw[e2,Ya,Y5,rot_length];exact eR (by omega)
   ·rw[aW (bE qd hD)];exact g2 d o qd
   ·have ge:(hG n d1)[i]?=some (((i:Int)+d1) % (n:Int)):=by
     unfold hG;rw[Yd,Jb hi];rfl
    rw[e2,Y3,rj,ge];rfl
  ·rintro zs H2 ⟨g2,h2,e2⟩;rw[Yq,Y9 (by rw[rot_length];omega)] at e2;refine⟨D,_,rfl,.inl ⟨ah.of h2,λt ht=>q t (hG n d1) _ (g.free (g2.free ht)) ((g.trans g2).trans (bh ht _)) ?_ (Ea n0 d1)⟩⟩;show upd H2 t (.tup zs) t=_;rw[aF,e2]
 ·exact⟨_,rfl,dl,_,1,.int d1,rfl,rfl,ah.of h1,rfl,_,rfl,d1,n,rfl,JQ,λt ts H2 nt g2 ht pm=>q t ts H2 (g.free nt) (g.trans g2) ht pm⟩
abbrev o1:List Str:=["_law_first","_law_then"]
theorem B_:bc o1 o1 (aM qH):=.bO
theorem Ca(F:aS K "_law_after" "_law_after" qH f fd)(bl:Bl mg):aL P w K mg base aU 1 f fd o1 (zx K):=by
 refine F.o B_ λs H hr h=>?_;obtain⟨a,b,xs,ys,rfl,hA,hB,uO,hl,q⟩:=h;refine⟨_,(ay (aK (cz (kA) rfl bl.eW eS (aa (jF (x:="_law_one") (fr:=[("_law_then",1)]) (cl:=[("_law_then",s.heap.objs.size+1)]) rfl (.fo ⟨rfl,trivial⟩ ⟨⟨rfl,.inl rfl,.inl rfl,rfl⟩,trivial⟩) (oC (pv 0)) (λ_ _ _ _=>ik) (λ_ _ _ _=>(az (iT K) (pv 1) (pv 0)))) ai)))),?_⟩;refine⟨_,rfl,a,rfl,⟨_,hA⟩,λD hD=>rE (xs:=xs.map V.int) (λi zs H3=>aq H H3/\H3 D=some (.lst zs)/\zs=((bR ys xs).take i).map V.int) ⟨bh hD _,aF,rfl⟩ (λi zs H3 _ ⟨g3,_,_⟩=>g3.dY hA) ?_ ?_⟩
 ·rintro i v zs H3 hi ⟨g3,h3,e3⟩;obtain⟨z,rfl,hz⟩:=lT hi;have nh:i<xs.length:=(Yh.mp hz).1;have bz:=uO z (Ys hz);refine gu (bN ⟨_,rfl,_,rfl,b,_,_,_,rfl,rfl,g3.dY hB,oH bz.1 bz.2,h3,?_,λd o qd=>?_,aF,?_⟩)
  ·rw[e3,Ya,Y5,jB];exact eR (by omega)
  ·rw[aW (bE qd hD)];exact g3 d o qd
  ·rw[e3,Y3,rj];unfold bR;rw[Yd,hz];rfl
 ·rintro zs H3 ⟨g3,h3,e3⟩;refine⟨D,_,rfl,.inl ⟨ah.of h3,λt ht=>q t _ (g3.free ht) (g3.trans (bh ht _)) ?_⟩⟩;show upd H3 t (.tup zs) t=_;rw[aF,e3,Ya,Y9 (by rw[jB];omega)]
end
inductive x6(vs:List V)(H:Hp)(Q:VK):Prop
 |mk (a:Addr) (xs:List Int) (aE:vs=[.ref a]) (aN:a8 H a xs) (a9:xs.length<64) (bV:full xs=true) (cO:∀(t:Addr) (H':Hp),H t=none->aq H H'->a8 H' t (inv xs)->Q (.ref t) H'):x6 vs H Q
def oO:Sp:=λvs H Q _=>x6 vs H Q
section
variable {K:af}{mg:aJ}
abbrev k9:List Str:=["_law_turn_here"]
theorem BO:bc k9 k9 (aM qq):=.bO
theorem C5(F:aS K "_law_inverse" "_law_inverse" qq f fd)(bl:Bl mg):aL P w K mg base aU 1 f fd k9 oO:=by
 refine F.o BO λs H hr h=>?_;obtain⟨a,xs,rfl,hA,lx,fx,q⟩:=h;refine⟨_,(ay (aK (cz (kA) rfl bl.eW eS (aa (jF (x:="_law_at") (fr:=[("_law_turn_here",0)]) (cl:=[("_law_turn_here",s.heap.objs.size+1)]) rfl (.fo ⟨rfl,trivial⟩ ⟨⟨rfl,.inl rfl,.inl rfl,rfl⟩,trivial⟩) (fD rfl bl.dv (aa (cg K bl (pv 0)) ai)) (λ_ _ _ _=>ik) (λ_ _ _ _=>(vP (pv 1) (aa (pv 0) ai)))) ai)))),?_⟩;have el:(xs.map V.int).length=xs.length:=Ya _;refine⟨_,rfl,a,_,rfl,.inr (au.of hA),_,rfl,by rw[el];omega,by rw[el];omega,λD hD=>lM (lo:=0) (n:=(((xs.map V.int).length:Nat):Int).toNat)
   (λi zs H2=>aq H H2/\H2 D=some (.lst zs)/\zs=((inv xs).take i).map V.int) ⟨bh hD _,aF,rfl⟩ ?_ ?_⟩
 ·rintro i zs H2 hi ⟨g2,h2,e2⟩;rw[Yq,el] at hi;rw[Wk];have hx:=n_ (xl fx hi);have nv:=g2 _ _ hA;refine gu (bN ⟨_,rfl,a,xs,rfl,nv,_,rfl,(i:Int),et (i:Int) xs,rfl,nv,hx.1,hx.2,h2,?_,λd o qd=>?_,aF,?_⟩)
  ·rw[e2,Ya,Y5,d9];exact eR (by omega)
  ·rw[aW (bE qd hD)];exact g2 d o qd
  ·rw[e2,xm hi,Yp];rfl
 ·rintro zs H2 ⟨g2,h2,e2⟩;refine⟨D,_,rfl,.inl ⟨ah.of h2,λt ht=>q t _ (g2.free ht) (g2.trans (bh ht _)) ?_⟩⟩;show upd H2 t (.tup zs) t=_;rw[aF,e2,Yq,el,Y9 (by rw[d9];omega)]
end
abbrev ej:Str:="said"
abbrev eM:=List (Str×Str)
def iN(ps:eM)(i:Nat):Str:=(ps.getD i ("","")).1
abbrev iO(ps:eM):List (Key×V):=ps.map λp=>(.inr p.1,.str p.2)
theorem Eb[DecidableEq κ](ae:List (κ×V))(k:κ):(bD ae k).isSome=true↔k∈ae.map (·.1):=by
 induction ae with
 |nil=>exact⟨(λz=>nomatch z),(λz=>nomatch z)⟩
 |cons p r ih=>
  by_cases e:p.1=k
  ·rw[ee e]
   grind
  ·rw[ef e,ih]
   grind
theorem Cb{κ:Type}[DecidableEq κ]{ae:List (κ×V)}{k:κ}(h:k∉ae.map (·.1)):bD ae k=none:=by
 cases e:bD ae k with
 |none=>rfl
 |some v=>exact absurd ((Eb ae k).mp (by rw[e];rfl)) h
theorem E5{κ:Type}[DecidableEq κ]{ae:List (κ×V)}{k:κ}{v:V}(nd:(ae.map (·.1)).Nodup)(h:(k,v)∈ae):bD ae k=some v:=by
 induction ae with
 |nil=>cases h
 |cons p r ih=>
  obtain⟨n1,n2⟩:=Wt.mp (show(p.1::r.map (·.1)).Nodup from nd);rcases Yu.mp h with h|h;·rw[←h];exact ee rfl
  ·rw[ef (λz=>n1 (by rw[z];exact We.mpr ⟨_,h,rfl⟩))];exact ih n2 h
abbrev iD:List (Str×Str):=[("mother","m"),("father","f"),("wed","w"),("sibling","s")]
abbrev fQ(xs ys:List Int):List (Str×List Int):=[("mother",inv xs),("father",inv (bR xs ys)),("wed",ys),("sibling",a7 xs.length)]
theorem nQ:(ej,tn)∉fQ xs ys:=by
 intro h;simp only[Yu,Wb,or_false] at h;rcases h with⟨h,_⟩|⟨h,_⟩|⟨h,_⟩|⟨h,_⟩<;>exact absurd h (by decide+kernel)
theorem vN(h:(k,tn)∈fQ xs ys):∃r,PyProof.Rows.KTD.datumAt k iD=some r/\(r,tn)∈jN xs ys:=by
 simp only[Yu,Wb,or_false] at h;rcases h with⟨rfl,rfl⟩|⟨rfl,rfl⟩|⟨rfl,rfl⟩|⟨rfl,rfl⟩;·exact⟨"m",by decide+kernel,by simp⟩
 ·exact⟨"f",by decide+kernel,by simp⟩
 ·exact⟨"w",by decide+kernel,by simp⟩
 ·exact⟨"s",by decide+kernel,by simp⟩
theorem xu(gd:eY xs ys)(h:(k,tn)∈fQ xs ys):full tn=true/\tn.length=xs.length:=by
 obtain⟨r,_,h2⟩:=vN h;exact wq gd h2
inductive x8(vs:List V)(H:Hp)(Q:VK)(E:XK):Prop
 |mk (k:Str) (aE:vs=[.str k]) (aN:Q (.bl (iC iD k)) H)
def uX(ps:eM)(i:Nat):Str:=(ps.getD i ("","")).2
theorem Ec(nd:(ps.map (·.1)).Nodup)(hi:i<ps.length):bD (iO ps) (.inr (iN ps i))=some (.str (uX ps i)):=by
 have kn:((iO ps).map (·.1)).Nodup:=by
  grind
 refine E5 kn (We.mpr ⟨ps[i],Wp hi,?_⟩);unfold iN uX
 grind
abbrev kX(m f w s:Addr):List (Key×V):=[(.inr "mother",.ref m),(.inr "father",.ref f),(.inr "wed",.ref w),(.inr "sibling",.ref s)]
def jw(H:Hp)(td:Addr)(xs ys:List Int):Prop:=∃m f w s:Addr,H td=some (.dK (kX m f w s))/\a8 H m (inv xs)/\a8 H f (inv (bR xs ys))/\a8 H w ys/\a8 H s (a7 xs.length)
theorem jw.same(g:aq H H')(h:jw H td xs ys):jw H' td xs ys:=by
 obtain⟨m,f,w,s,h1,h2,h3,h4,h5⟩:=h;exact⟨m,f,w,s,g _ _ h1,g _ _ h2,g _ _ h3,g _ _ h4,g _ _ h5⟩
theorem jw.get(h:jw H td xs ys)(m:(k,tn)∈fQ xs ys):∃ae u,H td=some (.dK ae)/\bD ae (.inr k)=some (.ref u)/\a8 H u tn:=by
 obtain⟨a,b,c,d,h1,h2,h3,h4,h5⟩:=h;simp only[Yu,Wb,or_false] at m;rcases m with⟨rfl,rfl⟩|⟨rfl,rfl⟩|⟨rfl,rfl⟩|⟨rfl,rfl⟩;·exact⟨_,a,h1,rfl,h2⟩
 ·exact⟨_,b,h1,rfl,h3⟩
 ·exact⟨_,c,h1,rfl,h4⟩
 ·exact⟨_,d,h1,rfl,h5⟩
inductive x9(vs:List V)(H:Hp)(Q:VK)(E:XK):Prop
 |mk (a b:Addr) (xs ys:List Int) (aE:vs=[.ref a,.ref b]) (aN:a8 H a xs) (a9:a8 H b ys) (bV:eY xs ys) (cO:∀(p:Addr) (H':Hp),H p=none->aq H H'->jw H' p xs ys->Q (.ref p) H')
def Bt(t:TT)(σ:St)(H:Hp)(b:Bool):Prop:=∀k:Bool->Hp->Prop,(∀H',aq H H'->k b H')->t σ H k
def Vt(t:TE)(σ:St)(H:Hp)(v:V):Prop:=∀k:VK,(∀H',aq H H'->k v H')->t σ H k
section
variable {t u:TT}{e1 e2:TE}{σ:St}{H:Hp}{a b:Bool}{x y:V}
theorem Bt.or(h1:Bt t σ H a)(h2:∀H',a=false->aq H H'->Bt u σ H' b):Bt (Am t u) σ H (a||b):=λk hk=>h1 _ λH1 g1=>by
 cases a with
 |true=>grind
 |false=>exact bK (h2 H1 rfl g1 _ λH2 g2=>hk H2 (g1.trans g2))
theorem Vt.var(h:σ[i]?=some (some x)):Vt (fR i) σ H x:=λ_ hk=>⟨x,h,hk H (aq.refl _)⟩
theorem Vt.c:Vt (tC x) σ H x:=λ_ hk=>hk H (aq.refl _)
theorem Vt.test(h:Vt e1 σ H (.bl b)):Bt (sR e1) σ H b:=λk hk=>h _ λH1 g1=>⟨b,rfl,hk H1 g1⟩
theorem Vt.eq(h1:Vt e1 σ H x)(h2:∀H',aq H H'->Vt e2 σ H' y)(sc:tH x y=true):Vt (fh Aq e1 e2) σ H (.bl (decide (x=y))):=λk hk=>h1 _ λH1 g1=>h2 H1 g1 _ λH2 g2=>⟨sc,hk H2 (g1.trans g2)⟩
end
theorem eu(x y:Str):decide (V.str x=V.str y)=decide (x=y):=by
 grind
def gc(ps:eM):List V:=ps.map λp=>.str p.1
theorem x_(ps:eM):(gc ps).length=ps.length:=Ya _
theorem F_{ps:eM}{z:Int}(h0:0<=z)(h:z<(ps.length:Int)):cJ (gc ps) z=some (.str (iN ps z.toNat)):=by
 obtain⟨k,rfl⟩:∃k:Nat,z=(k:Int):=⟨z.toNat,by omega⟩;refine fJ ?_;unfold gc iN
 grind
theorem sL{z:Int}{n:Nat}(h:0<n):0<=z % (n:Int)/\z % (n:Int)<(n:Int):=⟨Y0 _ (by omega),Yv _ (by omega)⟩
theorem Vt.oy{K:af}{e:TE}{σ:St}{H:Hp}{nl:Addr}{ps:eM}{z:Int}{i:Nat}(hi:σ[i]?=some (some (.ref nl)))(hn:H nl=some (.lst (gc ps)))(p0:0<ps.length)(he:Vt e σ H (.int z)):Vt (fh (mE K) (fR i) (fh (rI (λ_ j=>0<j) λi j=>V.int (i % j)) e (gT (mH K) (fP (fR i) iA)))) σ H (.str (iN ps (z % (ps.length:Int)).toNat)):=λk hk=>⟨_,hi,he _ λH1 g1=>by
 have l:=x_ ps;have m:=sL (z:=z) p0;exact⟨_,hi,nl,_,rfl,.inl (ah.of (g1 _ _ hn)),_,_,rfl,rfl,by omega,nl,_,_,_,rfl,rfl,ah.of (g1 _ _ hn),by rw[l];exact F_ m.1 m.2,hk H1 g1⟩⟩
inductive yU(vs:List V)(H:Hp)(Q:VK)(E:XK):Prop
 |mk (nl sd:Addr) (ps:eM) (z:Int) (s:Str) (aE:vs=[.ref nl,.ref sd,.int z,.str s]) (hn:H nl=some (.lst (gc ps))) (hs:H sd=some (.dK (iO ps))) (nd:(ps.map (·.1)).Nodup) (p0:0<ps.length) (pm:ps.length<=100) (q:∀i,i<ps.length->∀H',aq H H'->Q (.str (iN ps i)) H')
theorem Ed(xs ys:List Int){d:Int}(h:0<=d/\d<4):∃(k:Str) (tn:List Int) (w:Str),cJ [V.str "mother",V.str "father",V.str "wed",V.str "sibling"] d=some (.str k)/\(k,tn)∈fQ xs ys/\cJ [V.str "woman",V.str "man",V.str "woman",V.str ""] d=some (.str w):=by
 have:d=0\/d=1\/d=2\/d=3:=by omega
 rcases this with rfl|rfl|rfl|rfl;·exact⟨_,inv xs,_,rfl,by simp,rfl⟩
 ·exact⟨_,inv (bR xs ys),_,rfl,by simp,rfl⟩
 ·exact⟨_,ys,_,rfl,by simp,rfl⟩
 ·exact⟨_,a7 xs.length,_,rfl,by simp,rfl⟩
section
variable {K:af}{mg:aJ}{fz:Addr}
theorem Dz:bc ["kind"] ["kind"] (aM rG):=.bO
theorem DA(F:aS K "is_tie" "is_tie" rG f fd)(kB:mg "TIE_LETTERS"=some (.ref fz))(tb:j0 K fz iD):aL P w K mg base aU 1 f fd ["kind"] x8:=by
 refine F.o Dz λs H hr h=>?_;obtain⟨k,rfl,q⟩:=h;refine⟨_,(ay (aK (xI (F0 (K:=K) rfl) (pv 0) (ig (v:=.ref fz) rfl kB rfl) (by with_unfolding_all rfl)))),?_⟩;exact⟨_,rfl,k,fz,iD,rfl,rfl,tb,q⟩
abbrev tV:List Str:=["_law_mother","_law_wife"]
theorem qC:bc ["_law_mother","_law_wife","_law_father","_law_alone"] tV (aM qI):=.bO
theorem Ee(F:aS K "_law_turns" "_law_turns" qI f fd)(gg:HasFn P w K mg base 1 "_law_inverse" k9 oO)(qN:HasFn P w K mg base 1 "_law_after" o1 (zx K))(bl:Bl mg):aL P w K mg base aU 2 f fd tV x9:=by
 refine F.o qC λs H hr h=>?_;obtain⟨a,b,xs,ys,rfl,ha,hb,gl,q⟩:=h;obtain⟨fx,fy,le,l2,l8⟩:=id gl;refine⟨_,(ar (aQ 2 qC.nd (aI qN hr (aa (pv 1) (aa (pv 0) ai)))) (ar (aQ 3 qC.nd (cz (BJ rfl) rfl bl.eW eS (aa (cz vL rfl bl.dv lR (aa (cg K bl (pv 0)) ai)) ai))) (ay (aK (rZ (eT bU (aI gg hr (aa (pv 0) ai)) (eT bU (aI gg hr (aa (pv 2) ai)) (eT bU (pv 1) (eT bU (pv 3) rY)))) rfl rfl (λz=>nomatch z) (W4 rfl)))))),?_⟩;refine bf ?_;have lv:∀x∈ys,0<=x/\x<(xs.length:Int):=λx hx=>by rw[le];exact r8 fy hx
 refine⟨_,rfl,_,rfl,b,a,ys,xs,rfl,au.of hb,au.of ha,lv,by omega,λl H1 nl g1 hl=>?_⟩;refine bf ?_;have el:(xs.map V.int).length=xs.length:=Ya _;refine⟨_,rfl,a,_,rfl,.inr (au.of (g1 _ _ ha)),_,rfl,λrg H2 Mm g2 JR=>⟨rg,xs.length,rfl,by rw[JR,el],by omega,λst H3 JN g3 cu=>?_⟩⟩;have hE:=g2.trans g3;intro d nd;have g4:=bh nd (.dK []);have uY:upd H3 d (.dK []) d=some (.dK []):=aF;generalize upd H3 d (.dK [])=H4 at g4 uY⊢;have AX:=hE.trans g4;have dH:=g1.trans AX;refine⟨_,rfl,a,xs,rfl,dH _ _ ha,by omega,fx,λim H5 JK g5 uV=>?_⟩;refine⟨_,rfl,l,bR xs ys,rfl,g5 _ _ (AX _ _ hl),by rw[jB];omega,oa fx fy (by omega),λjf H6 JL g6 uW=>?_⟩;have ny:=g5.trans g6;refine⟨_,rfl,_,rfl,ny _ _ uY,[(.inr "mother",.ref im),(.inr "father",.ref jf),(.inr "wed",.ref b),(.inr "sibling",.ref st)],rfl,by show 4<=15;decide,?_⟩;have b7:cV d H6 (upd H6 d (.dK (kX im jf b st))):=cV.put (cV.of (aq.refl _));have AY:upd H6 d (.dK (kX im jf b st)) d=some (.dK (kX im jf b st)):=aF;have em:jc [] [((.inr "mother":Key),V.ref im),(.inr "father",.ref jf),(.inr "wed",.ref b),(.inr "sibling",.ref st)]=kX im jf b st:=rfl;rw[em];generalize upd H6 d (.dK (kX im jf b st))=H7 at b7 AY⊢;have JS:∀{c:Addr} {zs:List Int},a8 H6 c zs->c≠d:=λh1 z=>by rw[a8,z,ny _ _ uY] at h1;cases h1
 have k7:∀{c:Addr} {zs:List Int},a8 H6 c zs->a8 H7 c zs:=λh=>b7 _ _ h (JS h);refine q d H7 (g1.free (hE.free nd)) (λc o e=>b7 _ _ (ny _ _ (dH _ _ e)) (bE e (g1.free (hE.free nd)))) ⟨im,jf,b,st,AY,k7 (g6 _ _ uV),k7 uW,k7 (ny _ _ (dH _ _ hb)),k7 (ny _ _ (g4 _ _ cu))⟩
abbrev tW:List Str:=["_law_names","_law_sides","_law_at","_law_side"]
theorem vT:bc ["_law_names","_law_sides","_law_at","_law_side","_law_k"] tW (aM qV):=.bO
theorem Cz(F:aS K "_law_pick" "_law_pick" qV f fd)(bl:Bl mg):aL P w K mg base aU 1 f fd tW yU:=by
 refine F.o vT λs H hr h=>?_;obtain⟨nl,sd,ps,z,sx,rfl,hn,hs,nd,p0,pm,q⟩:=h;refine⟨_,(ar (dy PassesOwn.never rfl (fD rfl bl.dv (aa (cg K bl (pv 0)) ai)) (bg 4 vT.nd) (ay (aV (PW.pt (pw_or (aZ bX (pv 3) bU) (pw_or1 (aZ bX (cU (bY hr) (pv 1) (az (iL K) (pv 0) (aA cj (aA cv (pv 2) (pv 4)) (cg K bl (pv 0)))) (λ_ _=>rfl)) (pv 3))))) (ay (aK (az (iL K) (pv 0) (aA cj (aA cv (pv 2) (pv 4)) (cg K bl (pv 0)))))) aY))) (ay (aK (az (iL K) (pv 0) (aA cj (pv 2) (cg K bl (pv 0))))))),?_⟩;have uZ:=x_ ps;have at_:∀z:Int,(z % (ps.length:Int)).toNat<ps.length:=λz=>by have:=sL (z:=z) p0;omega
 refine gm (λσ H6=>aq H H6/\∃o4:Option V,σ=[some (.ref nl),some (.ref sd),some (.int z),some (.str sx),o4]) (λgf b5=>?_) ?_
 ·refine⟨_,rfl,nl,_,rfl,.inl (ah.of hn),_,rfl,by omega,by omega,kJ (lo:=0) (n:=(((gc ps).length:Nat):Int).toNat) (λ_ σ H6=>aq H H6/\∃o4:Option V,σ=[some (.ref nl),some (.ref sd),some (.int z),some (.str sx),o4]) ⟨aq.refl _,none,rfl⟩ ?_ (λσ H6 h=>b5 _ _ h)⟩;rintro j σ H6 hj ⟨g6,o4,rfl⟩;rw[Wk];have vt:∀H7,aq H6 H7->Vt _ _ H7 _:=λH7 g7=>Vt.oy (K:=K) (i:=0) (σ:=[some (.ref nl),some (.ref sd),some (.int z),some (.str sx),some (.int (j:Int))]) (z:=z+(j:Int)) (e:=fh (jn λi j=>V.int (i+j)) (fR 2) (fR 4)) rfl (g7 _ _ (g6 _ _ hn)) p0 (λk hk=>⟨_,rfl,_,rfl,_,_,rfl,rfl,hk _ (aq.refl _)⟩);refine(Bt.or (Vt.test (Vt.eq (Vt.var rfl) (λ_ _=>Vt.c) rfl)) λH7 _ g7=>Vt.test (Vt.eq (x:=.str (uX ps ((z+(j:Int)) % (ps.length:Int)).toNat)) (y:=.str sx) (λk hk=>⟨_,rfl,vt H7 g7 _ λH8 g8=>⟨sd,_,rfl,jd (g8 _ _ (g7 _ _ (g6 _ _ hs))) (Ec nd (at_ _)),hk H8 g8⟩⟩) (λ_ _=>Vt.var rfl) rfl)) _ λH9 g9=>?_;refine aX (λ_=>?_) (λ_=>aR ⟨g6.trans g9,_,rfl⟩);exact vt H9 g9 _ λHA gA=>q _ (at_ _) HA ((g6.trans g9).trans gA)
 rintro σ H6 ⟨g6,o4,rfl⟩;exact Vt.oy (K:=K) (i:=0) (z:=z) rfl (g6 _ _ hn) p0 (Vt.var rfl) _ λHA gA=>q _ (at_ _) HA (g6.trans gA)
end
def hJ(n:Nat):List Nat:=if n<10 then[48+n] else[48+n/10,48+n % 10]
def eN(n:Nat):Str:=.ofString (toString (n:Int))
theorem sg:∀n<61,(eN n).cps.toList=hJ n:=by decide+kernel
def cW(k z:Nat):Nat:=if z/3 % 3=1 then 9 else(k*z+z) % 5
def eO(m:Nat):Str:=Txt.mul "q" (m:Int)
theorem E6:∀m<10,(eO m).cps.toList=List.replicate m 113:=by decide+kernel
def kq:Str:="abcdefghijklmnopqrstuvwxyz"
theorem sM:∀i<26,cJ kq.cps.toList ((i:Nat):Int)=some (97+i):=by decide+kernel
def iP(i:Nat):Str:=⟨#[97+i]⟩
def cC(z k:Nat):Str:=if z % 3=0 then(iP ((k*7+z) % 26)++eN (k/26))++eO (cW k z) else if z % 3=1 then(iP (z % 26)++eO (cW k z))++eN ((k*17+z) % 61) else(iP (z % 26)++eN ((k*17+z) % 61))++eO (cW k z)
theorem yV(k z:Nat):cW k z<10:=by
 unfold cW;split<;>omega
theorem kQ(a b:Str):(a++b).cps.toList=a.cps.toList++b.cps.toList:=Array.toList_append
theorem wQ(z k:Nat)(hk:k<60):(cC z k).cps.toList=if z % 3=0 then[97+(k*7+z) % 26,48+k/26]++List.replicate (cW k z) 113 else if z % 3=1 then(97+z % 26)::(List.replicate (cW k z) 113++hJ ((k*17+z) % 61)) else(97+z % 26)::(hJ ((k*17+z) % 61)++List.replicate (cW k z) 113):=by
 have f:=E6 _ (yV k z);unfold cC;split
 ·rw[kQ,kQ,f,sg _ (by omega)];unfold hJ;rw[if_pos (by omega)];rfl
 split
 ·rw[kQ,kQ,f,sg _ (by omega)];rfl
 ·rw[kQ,kQ,f,sg _ (by omega)];rfl
def u4(l:List Nat):Nat:=l.foldl (λa c=>10*a+(c-48)) 0
theorem oP:u4 (hJ n)=n:=by
 unfold hJ;split;·exact(Nat.zero_add _).trans (Ww _ _)
 ·show 10*(10*0+(48+n/10-48))+(48+n % 10-48)=n;rw[Ww,Ww,Nat.mul_zero,Nat.zero_add,Nat.div_add_mod]
theorem Ga(h:n<61):∀c∈hJ n,48<=c/\c<58:=by
 unfold hJ
 grind
theorem nR(h:n<61):(hJ n).filter (λc=>decide (c<58))=hJ n:=List.filter_eq_self.mpr λc hc=>decide_eq_true (Ga h c hc).2
theorem nS(m:Nat):(List.replicate m 113).filter (λc=>decide (c<58))=[]:=by
 grind
theorem wR(hk:k<60)(JT:k'<60)(e:cC z k=cC z k'):k=k':=by
 have e:(cC z k).cps.toList=(cC z k').cps.toList:=by rw[e]
 rw[wQ z k hk,wQ z k' JT] at e;by_cases h0:z % 3=0
 ·rw[if_pos h0,if_pos h0] at e;injection e with e1 e;injection e with e2 _;omega
 rw[if_neg h0,if_neg h0] at e;have key:(k*17+z) % 61=(k'*17+z) % 61->k=k':=λh=>by omega
 by_cases h1:z % 3=1
 ·rw[if_pos h1,if_pos h1] at e;injection e with _ e;have e2:=congrArg (List.filter λc=>decide (c<58)) e;rw[Wi,Wi,nS,nS,nR (by omega),nR (by omega),Jp,Jp] at e2;have e3:=congrArg u4 e2;rw[oP,oP] at e3;exact key e3
 ·rw[if_neg h1,if_neg h1] at e;injection e with _ e;have e2:=congrArg (List.filter λc=>decide (c<58)) e;rw[Wi,Wi,nS,nS,nR (by omega),nR (by omega),Ws,Ws] at e2;have e3:=congrArg u4 e2;rw[oP,oP] at e3;exact key e3
theorem E7:∀m<10,(eO m).length<=9:=by decide+kernel
theorem ya:∀n<61,(eN n).length<=2:=by decide+kernel
theorem sh(a b:Str):(a++b).length=a.length+b.length:=Array.size_append
inductive yW(vs:List V)(H:Hp)(Q:VK)(E:XK):Prop
 |mk (k z:Nat) (aE:vs=[.int (k:Int),.int (z:Int)]) (hk:k<60) (hz:z<97) (q:Q (.str (cC z k)) H)
section
variable {K:af}{mg:aJ}
abbrev tX:List Str:=["_law_k","_law_salt"]
theorem lK:bc ["_law_k","_law_salt","_law_letters","_law_fill","_law_number_here"] tX (aM qU):=.bO
theorem CA(F:aS K "_law_name" "_law_name" qU f fd)(bl:Bl mg):aL P w K mg base aU 1 f fd tX yW:=by
 refine F.o lK λs H hr h=>?_;obtain⟨k,z,rfl,hk,hz,q⟩:=h;refine⟨_,(ar (aQ 2 lK.nd bU) (ar (aQ 3 lK.nd (aA xW bU (aA cj (aA cv (aA dP (pv 0) (pv 1)) (pv 1)) ao))) (ar (aQ 4 lK.nd (aA cj (aA cv (aA dP (pv 0) ao) (pv 1)) ao)) (ar (aV (aZ bX (aA cj (aA og (pv 1) ao) ao) ao) (ay (aQ 3 lK.nd (aA xW bU ao))) aY) (ar (aV (aZ bX (aA cj (pv 1) ao) ao) (ay (aK (aA kG (aA kG (az oG (pv 2) (aA cj (aA cv (aA dP (pv 0) ao) (pv 1)) ao)) (cz qv rfl bl.mq l4 (aa (aA og (pv 0) ao) ai))) (pv 3)))) aY) (ar (aV (aZ bX (aA cj (pv 1) ao) ao) (ay (aK (aA kG (aA kG (az oG (pv 2) (aA cj (pv 1) ao)) (pv 3)) (cz qv rfl bl.mq l4 (aa (pv 4) ai))))) aY) (ay (aK (aA kG (aA kG (az oG (pv 2) (aA cj (pv 1) ao)) (cz qv rfl bl.mq l4 (aa (pv 4) ai))) (pv 3)))))))))),?_⟩;have cm:mD (k:Int) (z:Int):=.inl ⟨by omega,by omega⟩;have AZ:∀j:Int,mD (k:Int) j:=λj=>.inl ⟨by omega,by omega⟩;have c3:tG (z:Int) 3:=⟨by omega,by omega⟩;have JU:tG (k:Int) 26:=⟨by omega,by omega⟩;have sz:(10000:Nat)<=sizeLine:=by rw[sizeLine_eq];omega
 have A0:((k:Int)*17+(z:Int)) % 61=(((k*17+z) % 61:Nat):Int):=by omega
 have JV:((k:Int)*7+(z:Int)) % 26=(((k*7+z) % 26:Nat):Int):=by omega
 have A1:(z:Int) % 26=((z % 26:Nat):Int):=by omega
 have JW:(k:Int)/26=((k/26:Nat):Int):=by omega
 have e5:((k:Int)*(z:Int)+(z:Int)) % 5=(((k*z+z) % 5:Nat):Int):=by rw[Int.natCast_emod,Int.natCast_add,Int.natCast_mul];rfl
 refine setC ?_;refine bf ?_;refine⟨_,rfl,_,rfl,_,_,rfl,rfl,cm,_,rfl,_,_,rfl,rfl,_,_,rfl,rfl,by omega,"q",(k*z+z) % 5,rfl,congrArg V.int e5,by decide+kernel,by omega,?_⟩;refine bf ?_;refine⟨_,rfl,_,_,rfl,rfl,AZ _,_,rfl,_,_,rfl,rfl,_,_,rfl,rfl,by omega,?_⟩;refine fN (λσ H6=>H6=H/\σ=[some (.int (k:Int)),some (.int (z:Int)),some (.str kq),some (.str (eO (cW k z))),some (.int (((k*17+z) % 61:Nat):Int))]) (λu5 dF=>?_) ?_
 ·refine⟨_,rfl,_,_,rfl,rfl,c3,_,_,rfl,rfl,by omega,rfl,_,rfl,aX (λc=>?_) (λc=>aR ?_)⟩
  ·have c:=V.int.inj (of_decide_eq_true c);have c1:z/3 % 3=1:=by omega
   have fe:cW k z=9:=if_pos c1;refine⟨"q",9,rfl,rfl,by decide+kernel,by omega,aP (dF _ _ ⟨rfl,?_⟩)⟩;rw[fe,←A0];rfl
  ·have c1:¬z/3 % 3=1:=λw=>c (decide_eq_true (congrArg V.int (by omega)));have fe:cW k z=(k*z+z) % 5:=if_neg c1;refine dF _ _ ⟨rfl,?_⟩;rw[fe,←A0];rfl
 rintro σ H6 ⟨rfl,rfl⟩;have ls:=E7 _ (yV k z);have ll:kq.length<=sizeLine:=Yx (show kq.length<=100 by decide+kernel) (by omega);have lg:∀n:Nat,n<61->(n:Int).natAbs.log2<1920:=λn hn=>Wd (Nat.log2_le_self _) (by omega);refine⟨_,rfl,_,_,rfl,rfl,by omega,rfl,_,rfl,aX (λc=>?_) (λc=>aR ?_)⟩
 ·have h0:z % 3=0:=by have:=V.int.inj (of_decide_eq_true c);omega
  have ld:=ya (k/26) (by omega);refine⟨_,rfl,_,rfl,_,_,rfl,rfl,AZ _,_,rfl,_,_,rfl,rfl,_,_,rfl,rfl,by omega,kq,_,_,rfl,congrArg V.int JV,ll,sM _ (by omega),_,rfl,_,_,rfl,rfl,JU,((k/26:Nat):Int),congrArg (λi=>[V.int i]) JW,lg _ (by omega),_,_,rfl,rfl,?_,_,rfl,_,_,rfl,rfl,?_,?_⟩
  ·show 1+(eN (k/26)).length<=sizeLine;omega
  ·show(iP ((k*7+z) % 26)++eN (k/26)).length+(eO (cW k z)).length<=sizeLine;rw[sh];show 1+_+_<=_;omega
  ·have e:cC z k=(iP ((k*7+z) % 26)++eN (k/26))++eO (cW k z):=if_pos h0;rw[e] at q;exact q
 have h0:¬z % 3=0:=λw=>c (decide_eq_true (congrArg V.int (by omega)));have ld:=ya ((k*17+z) % 61) (by omega);refine⟨_,rfl,_,_,rfl,rfl,by omega,rfl,_,rfl,aX (λc=>?_) (λc=>aR ?_)⟩
 ·have h1:z % 3=1:=by have:=V.int.inj (of_decide_eq_true c);omega
  refine⟨_,rfl,_,rfl,_,_,rfl,rfl,by omega,kq,_,_,rfl,congrArg V.int A1,ll,sM _ (by omega),_,rfl,_,_,rfl,rfl,?_,_,rfl,_,rfl,lg _ (by omega),_,_,rfl,rfl,?_,?_⟩
  ·show 1+(eO (cW k z)).length<=sizeLine;omega
  ·show(iP (z % 26)++eO (cW k z)).length+(eN ((k*17+z) % 61)).length<=sizeLine;rw[sh];show 1+_+_<=_;omega
  ·have e:cC z k=(iP (z % 26)++eO (cW k z))++eN ((k*17+z) % 61):=(if_neg h0).trans (if_pos h1);rw[e] at q;exact q
 have h1:¬z % 3=1:=λw=>c (decide_eq_true (congrArg V.int (by omega)));refine⟨_,rfl,_,rfl,_,_,rfl,rfl,by omega,kq,_,_,rfl,congrArg V.int A1,ll,sM _ (by omega),_,rfl,_,rfl,lg _ (by omega),_,_,rfl,rfl,?_,_,rfl,_,_,rfl,rfl,?_,?_⟩
 ·show 1+(eN ((k*17+z) % 61)).length<=sizeLine;omega
 ·show(iP (z % 26)++eN ((k*17+z) % 61)).length+(eO (cW k z)).length<=sizeLine;rw[sh];show 1+_+_<=_;omega
 ·have e:cC z k=(iP (z % 26)++eN ((k*17+z) % 61))++eO (cW k z):=(if_neg h0).trans (if_neg h1);rw[e] at q;exact q
end
structure Rw where
 z:Int
 k:Str
 a:Str
 o:Key
def mI(H:Hp)(p:Addr)(r:Rw):Prop:=H p=some (.tup [.int r.z,.str r.k,.str r.a,kV r.o])
def j3(xs ys:List Int)(r:Rw):Prop:=(r.k=ej/\∃i,r.o=.inl i)\/∃tn b,(r.k,tn)∈fQ xs ys/\r.o=.inr b
abbrev tY:List (Str×Str):=[("m","c"),("c","m"),("f","k"),("k","f"),("w","h"),("h","w"),("s","s")]
theorem Ef(n:Nat):inv (a7 n)=a7 n:=by
 refine Y7 λi=>?_;by_cases hi:i<n;·rw[ow (by rw[cL];exact hi),fG hi,nW (nP (kP (List.Perm.refl (a7 n)))) (fG hi)]
 ·rw[Yt (by rw[d9,cL];omega),Yt (by rw[cL];omega)]
theorem DB{xs ys tn:List Int}{k:Str}(gd:eY xs ys)(h:(k,tn)∈fQ xs ys):∃r r',PyProof.Rows.KTD.datumAt k iD=some r/\(r,tn)∈jN xs ys/\PyProof.Rows.KTD.datumAt r tY=some r'/\(r',inv tn)∈jN xs ys:=by
 simp only[Yu,Wb,or_false] at h;obtain⟨fx,fy,e,_,_⟩:=gd;rcases h with⟨rfl,rfl⟩|⟨rfl,rfl⟩|⟨rfl,rfl⟩|⟨rfl,rfl⟩;·exact⟨"m","c",by decide+kernel,by simp,by decide+kernel,by rw[inv_inv fx];simp⟩
 ·exact⟨"f","k",by decide+kernel,by simp,by decide+kernel,by rw[inv_inv (oa fx fy e)];simp⟩
 ·exact⟨"w","h",by decide+kernel,by simp,by decide+kernel,by simp⟩
 ·exact⟨"s","s",by decide+kernel,by simp,by decide+kernel,by rw[Ef];simp⟩
def dR(xs ys:List Int)(k:Str):List Int:=if k="mother" then inv xs else if k="father" then inv (bR xs ys) else if k="wed" then ys else a7 xs.length
theorem si{xs ys tn:List Int}{k:Str}(h:(k,tn)∈fQ xs ys):dR xs ys k=tn:=by
 simp only[Yu,Wb,or_false] at h;unfold dR;rcases h with⟨rfl,rfl⟩|⟨rfl,rfl⟩|⟨rfl,rfl⟩|⟨rfl,rfl⟩;·rw[if_pos rfl]
 ·rw[if_neg (by decide+kernel),if_pos rfl]
 ·rw[if_neg (by decide+kernel),if_neg (by decide+kernel),if_pos rfl]
 ·rw[if_neg (by decide+kernel),if_neg (by decide+kernel),if_neg (by decide+kernel)]
theorem E8{xs ys tn:List Int}{k:Str}(hk:(k,tn)∈fQ xs ys):iC iD k=true:=by
 obtain⟨r,dr,_⟩:=vN hk;unfold iC;rw[dr];rfl
def bZ(R:List Rw)(z:Int):Option Rw:=R.find? λr=>decide (r.z=z)
structure DF(H:Hp)(ae:List (Key×V))(R:List Rw):Prop where
 yes:∀z r,bZ R z=some r->∃p,bD ae (.inl z)=some (.ref p)/\mI H p r
 no:∀z,bZ R z=none->bD ae (.inl z)=none
theorem DF.same{H H':Hp}{ae:List (Key×V)}{R:List Rw}(g:aq H H')(d:DF H ae R):DF H' ae R:=⟨λz r h=>let⟨p,h1,h2⟩:=d.yes z r h;⟨p,h1,g _ _ h2⟩,d.no⟩
theorem i6{R:List Rw}{z:Int}{r:Rw}(h:bZ R z=some r):r∈R/\r.z=z:=⟨List.mem_of_find?_eq_some h,of_decide_eq_true (List.find?_some (p:=λr:Rw=>decide (r.z=z)) h)⟩
def cP(xs ys:List Int)(R:List Rw)(nm:Str)(s:Int×Int):Option (Str×List Int):=
 match bZ R s.1 with
 |none=>none
 |some r=>match r.o with
  |.inl _=>none
  |.inr b=>if s.2=1 then(if r.a=nm then some (b,dR xs ys r.k) else none) else if s.2=-1 then(if b=nm then some (r.a,inv (dR xs ys r.k)) else none) else none
theorem A2(w:Int):mX (.int w) [.int 1,.int (-1)]=decide (w=1\/w=-1):=by
 rw[Y8,decide_eq_true_iff];unfold mX;rw[W8,W8,List.any_nil,Bool.or_false,Bool.or_eq_true];show(((1:Int)==w)=true\/((-1:Int)==w)=true)↔_;rw[beq_iff_eq,beq_iff_eq];omega
inductive rB(vs:List V)(H:Hp)(Q:VK)(E:XK):Prop
 |mk (p:Addr) (r:Rw) (w:Int) (xs ys tn:List Int) (b:Str) (aE:vs=[.ref p,.int w]) (hr:mI H p r) (gd:eY xs ys) (hk:(r.k,tn)∈fQ xs ys) (ob:r.o=.inr b) (q:∀(t:Addr) (lt:Str) (H':Hp),H t=none->aq H H'->H' t=some (.tup [.str (if w=1 then r.a else b),.str lt,.str (if w=1 then b else r.a)])->(lt,if w=1 then tn else inv tn)∈jN xs ys->Q (.ref t) H')
inductive yb(vs:List V)(H:Hp)(Q:VK)(E:XK):Prop
 |mk (fa:Addr) (ae:List (Key×V)) (R:List Rw) (nm:Str) (s:Int×Int) (xs ys:List Int) (aE:vs=[.ref fa,.str nm,.int s.1,.int s.2]) (hd:H fa=some (.dK ae)) (df:DF H ae R) (gd:eY xs ys) (ro:∀r∈R,j3 xs ys r) (q:∀H',aq H H'->Q (.bl (cP xs ys R nm s).isSome) H')
section
variable {K:af}{mg:aJ}{fz kE:Addr}
abbrev o_:List Str:=["fact","way"]
theorem kF:bc ["fact","way","number","kind","one","other","letter"] o_ (aM qT):=.bO
theorem CB(F:aS K "tie_step" "tie_step" qT f fd)(kB:mg "TIE_LETTERS"=some (.ref fz))(tb:j0 K fz iD)(qO:mg "WAYS_BACK"=some (.ref kE))(tw:j0 K kE tY){t1:Tok}(kR:mg "FORTH"=some (.int 1 t1)):aL P w K mg base aU 1 f fd o_ rB:=by
 refine F.o kF λs H hr h=>?_;obtain⟨p,r,w,xs,ys,tn,b,rfl,cT,gd,hk,ob,q⟩:=h;refine⟨_,(ar (ja (pv 0) (fK (K:=K) (n:=4) rfl rfl (bL (bg 2 kF.nd) (bL (bg 3 kF.nd) (bL (bg 4 kF.nd) (bL (bg 5 kF.nd) fH)))))) (ar (aQ 6 kF.nd (az (xV (K:=K) rfl) (ig (v:=.ref fz) rfl kB rfl) (pv 3))) (ay (aK (DJ (aZ bX (pv 1) (ig (v:=.int (1)) rfl kR ⟨_,rfl⟩)) (cf (aa (pv 4) (aa (pv 6) (aa (pv 5) ai)))) (cf (aa (pv 5) (aa (az (xV (K:=K) rfl) (ig (v:=.ref kE) rfl qO rfl) (pv 6)) (aa (pv 4) ai))))))))),?_⟩;have sz:(10000:Nat)<=sizeLine:=by rw[sizeLine_eq];omega
 obtain⟨r1,r2,d1,s1,d2,s2⟩:=DB gd hk;refine⟨_,rfl,p,_,rfl,au.of cT,rfl,_,_,rfl,aP ⟨_,_,rfl,aP ⟨_,_,rfl,aP ⟨_,_,rfl,aP ⟨rfl,?_⟩⟩⟩⟩⟩;dsimp only;refine bf ?_;refine⟨_,rfl,fz,r.k,r1,iD,rfl,rfl,tb,d1,?_⟩;refine⟨_,rfl,rfl,_,rfl,aX (λc=>?_) (λc=>?_)⟩
 ·have e1:w=1:=V.int.inj (of_decide_eq_true c);rw[if_pos e1,if_pos e1,if_pos e1] at q;exact⟨_,rfl,_,rfl,_,rfl,by show 3<=sizeLine;omega,λt H' nt g ht=>q t r1 H' nt g (by rw[ht,ob];rfl) s1⟩
 ·have e1:¬w=1:=λz=>c (decide_eq_true (by rw[z]));rw[if_neg e1,if_neg e1,if_neg e1] at q;exact⟨_,rfl,_,rfl,kE,r1,r2,tY,rfl,rfl,tw,d2,_,rfl,by show 3<=sizeLine;omega,λt H' nt g ht=>q t r2 H' nt g (by rw[ht,ob];rfl) s2⟩
abbrev tZ:List Str:=["facts","name","number","way"]
theorem nX:bc ["facts","name","number","way","start","letter","goal"] tZ (aM rJ):=.bO
theorem DC(F:aS K "can_go" "can_go" rJ f fd){t1 t2:Tok}(kR:mg "FORTH"=some (.int 1 t1))(sN:mg "BACK"=some (.int (-1) t2))(rK:HasFn P w K mg base 1 "is_tie" ["kind"] x8)(kH:HasFn P w K mg base 1 "tie_step" o_ rB):aL P w K mg base aU 2 f fd tZ yb:=by
 refine F.o nX λs H hr h=>?_;obtain⟨fa,ae,R,nm,st,xs,ys,rfl,hd,df,gd,ro,q⟩:=h;obtain⟨z,w⟩:=st;refine⟨_,(ar (aV (PW.pt (pw_or (oh (yB (K:=K) rfl) (pv 3) (cf (aa (ig (v:=.int (1)) rfl kR ⟨_,rfl⟩) (aa (ig (v:=.int (-1)) rfl sN ⟨_,rfl⟩) ai))) (by with_unfolding_all rfl)) (pw_or (oA (nU (bY hr) (pv 2) (pv 0)) (by with_unfolding_all rfl)) (pw_or1 (fL (dw (aI rK hr (aa (az (iT K) (cU (bY hr) (pv 0) (pv 2) (λ_ _=>rfl)) ao) ai)))))))) (ay (aK eh)) aY) (ar (ja (aI kH hr (aa (cU (bY hr) (pv 0) (pv 2) (λ_ _=>rfl)) (aa (pv 3) ai))) (fK (K:=K) (n:=3) rfl rfl (bL (bg 4 nX.nd) (bL (bg 5 nX.nd) (bL (bg 6 nX.nd) fH))))) (ay (aK (dG bX (pv 4) (pv 1)))))),?_⟩;have sz:(10000:Nat)<=sizeLine:=by rw[sizeLine_eq];omega
 refine⟨_,rfl,by show 2<=sizeLine;omega,λp H1 np g1 hp=>⟨p,_,rfl,.inr (au.of hp),rfl,rfl,_,rfl,?_⟩⟩;rw[A2];by_cases ww:w=1\/w=-1
 ·rw[decide_eq_true ww];refine bK ?_;cases er:bZ R z with
  |none=>
   refine⟨_,rfl,_,rfl,fa,none,rfl,.inl ⟨ae,.inl z,.inl (g1 _ _ hd),rfl,(df.no z er).symm⟩,_,rfl,bN ?_⟩;have e:cP xs ys R nm (z,w)=none:=by unfold cP;rw[er]
   rw[e] at q;exact q _ g1
  |some r=>
   obtain⟨pr,ev,cT⟩:=df.yes z r er;have dg:∀{H':Hp},aq H H'->c7 H' fa (.int z) (some (.ref pr)):=λg=>.inl ⟨ae,.inl z,.inl (g _ _ hd),rfl,ev.symm⟩;refine⟨_,rfl,_,rfl,fa,_,rfl,dg g1,_,rfl,bK ?_⟩;have A3:=g1 _ _ cT;refine⟨_,rfl,_,rfl,fa,_,rfl,dg g1,pr,_,_,_,rfl,rfl,au.of A3,rfl,r.k,rfl,_,rfl,?_⟩;rcases ro r (i6 er).1 with⟨hk,i,ob⟩|⟨tn,b,hk,ob⟩
   ·rw[show iC iD r.k=false by rw[hk];decide+kernel];refine bN ?_;have e:cP xs ys R nm (z,w)=none:=by unfold cP;rw[er];dsimp only;rw[ob]
    rw[e] at q;exact q _ g1
   ·rw[E8 hk];refine bK (aR ?_);refine⟨_,rfl,_,rfl,fa,_,rfl,dg g1,_,rfl,pr,r,w,xs,ys,tn,b,rfl,A3,gd,hk,ob,λt lt H2 nt g2 ht hs=>⟨t,_,rfl,au.of ht,rfl,_,_,rfl,aP ⟨_,_,rfl,aP ⟨_,_,rfl,aP ⟨rfl,⟨_,rfl,_,rfl,rfl,?_⟩⟩⟩⟩⟩⟩;have e:(cP xs ys R nm (z,w)).isSome=decide ((if w=1 then r.a else b)=nm):=by
     unfold cP;rw[er];dsimp only;rw[ob];dsimp only;rcases ww with rfl|rfl
     ·rw[if_pos rfl,if_pos rfl];by_cases h:r.a=nm;·rw[if_pos h,decide_eq_true h];rfl
      ·rw[if_neg h,decide_eq_false h];rfl
     ·have n1:¬((-1:Int)=1):=by decide
      rw[if_neg n1,if_pos rfl,if_neg n1];by_cases h:b=nm;·rw[if_pos h,decide_eq_true h];rfl
      ·rw[if_neg h,decide_eq_false h];rfl
    rw[e,←eu] at q;exact q _ (g1.trans g2)
 ·rw[decide_eq_false ww];refine bN ?_;have e:cP xs ys R nm (z,w)=none:=by
   unfold cP;cases bZ R z with
   |none=>rfl
   |some r=>
    dsimp only;cases r.o with
    |inl _=>rfl
    |inr b=>dsimp only;rw[if_neg (λh=>ww (.inl h)),if_neg (λh=>ww (.inr h))]
  rw[e] at q;exact q _ g1
end
def fb(H:Hp)(p:Addr)(s:Int×Int):Prop:=H p=some (.tup [.int s.1,.int s.2])
def WL(H:Hp)(wa:Addr)(W:List (Int×Int)):Prop:=∃as:List Addr,H wa=some (.lst (as.map V.ref))/\Paired (fb H) as W
theorem WL.same{H H':Hp}{wa:Addr}{W:List (Int×Int)}(g:aq H H')(h:WL H wa W):WL H' wa W:=by
 obtain⟨as,h1,h2⟩:=h;exact⟨as,g _ _ h1,L2.Paired.cD h2 λ_ _ e=>g _ _ e⟩
def RL(H:Hp)(fa:Addr)(R:List Rw):Prop:=∃as:List Addr,H fa=some (.lst (as.map V.ref))/\Paired (mI H) as R
theorem RL.same{H H':Hp}{fa:Addr}{R:List Rw}(g:aq H H')(h:RL H fa R):RL H' fa R:=by
 obtain⟨as,h1,h2⟩:=h;exact⟨as,g _ _ h1,L2.Paired.cD h2 λ_ _ e=>g _ _ e⟩
def c8:Option Int->V
 |none=>.aD
 |some z=>.int z
def dZ(xs ys:List Int)(R:List Rw):Str->Int->List (Int×Int)->Option (Str×Int)
 |nm,now,[]=>some (nm,now)
 |nm,now,s::W=>match cP xs ys R nm s with
  |none=>none
  |some (hU,ns)=>dZ xs ys R hU (ns.getD now.toNat 0) W
theorem sj{xs ys:List Int}{R:List Rw}(V:List (Int×Int)):∀(W:List (Int×Int)) (nm:Str) (now:Int),dZ xs ys R nm now (W++V)=match dZ xs ys R nm now W with
  |none=>none
  |some (m,u)=>dZ xs ys R m u V
 |[],_,_=>rfl
 |s::W,nm,now=>by
  rw[List.cons_append];simp only[dZ];cases cP xs ys R nm s with
  |none=>rfl
  |some p=>exact sj V W _ _
theorem rL{xs ys:List Int}{R:List Rw}{W:List (Int×Int)}{nm m:Str}{now u:Int}{j:Nat}{s:Int×Int}(h:dZ xs ys R nm now (W.take j)=some (m,u))(hs:W[j]?=some s):dZ xs ys R nm now (W.take (j+1))=match cP xs ys R m s with
  |none=>none
  |some (m',ns)=>some (m',ns.getD u.toNat 0):=by
 rw[Y3,hs,show(some s).toList=[s] from rfl,sj,h];rfl
theorem xv{xs ys:List Int}{R:List Rw}{W:List (Int×Int)}{nm m:Str}{now u:Int}{j:Nat}{s:Int×Int}(h:dZ xs ys R nm now (W.take j)=some (m,u))(hs:W[j]?=some s)(hn:cP xs ys R m s=none):dZ xs ys R nm now W=none:=by
 have e:=rL h hs;rw[hn] at e;rw[←List.take_append_drop (j+1) W,sj,e]
def iE(xs ys:List Int)(R:List Rw)(nm:Str)(sec:Int)(W:List (Int×Int))(e:Option Int):Bool:=
 match dZ xs ys R nm sec W with
 |none=>false
 |some (m,u)=>match e with
  |none=>decide (m=nm)&&!decide (u=sec)
  |some z=>match bZ R z with
   |none=>false
   |some r=>decide (r.k=ej)&&(decide (r.a=m)&&!decide (r.o=.inl u))
theorem kit_nb{K:af}:kitOne K (.type "NoneType") (.type "bool")=some false:=by kernel_rfl
theorem Gb(K:af)(H:Hp)(e:Option Int):∃t,dk K H (c8 e) t/\kitOne K t (.type "bool")=some false:=by
 cases e with
 |none=>exact⟨_,.aD,kit_nb⟩
 |some z=>exact⟨_,.int z,kW⟩
inductive yX(vs:List V)(H:Hp)(Q:VK)(E:XK):Prop
 |mk (wa:Addr) (W:List (Int×Int)) (e:Option Int) (aE:vs=[.ref wa,c8 e]) (hw:WL H wa W) (l:W.length<=400) (q:∀H',aq H H'->Q (.bl true) H')
section
variable {K:af}{mg:aJ}
abbrev pd:List Str:=["walk","end"]
theorem BP:bc pd pd (aM qp):=.bO
theorem BQ(F:aS K "all_numbers" "all_numbers" qp f fd)(bl:Bl mg):aL P w K mg base aU 1 f fd pd yX:=by
 refine F.o BP λs H hr h=>?_;obtain⟨wa,W,e,rfl,hw,l,q⟩:=h;refine⟨_,(ay (aK (dO (oB (cS K bl (pv 1) (cQ rfl bl.jK jG))) (iq (oB (ie (zW (K:=K) rfl rfl) rfl bl.zj yy (aa (D3 (xs:=["step","number"]) (fr:=[]) (cl:=[]) rfl (.fo trivial trivial) (λ_ _ _ _=>(jE (i:=0) (show(["step","number"]:List Str).Nodup by decide+kernel) rfl (Or.inl rfl))) (gj (K:=K) rfl (pv 0)) (λ_ _ _ _=>(ET (K:=K) rfl (pv 0))) (λ_ _ _ _=>(jE (i:=1) (show(["step","number"]:List Str).Nodup by decide+kernel) rfl (Or.inl rfl))) (λ_ _ _ _=>(cS K bl (pv 1) (cQ rfl bl.jK jG)))) ai))))))),?_⟩;have sz:(10000:Nat)<=sizeLine:=by rw[sizeLine_eq];omega
 obtain⟨t,ht,kt⟩:=Gb K H e;obtain⟨as,d5,dt⟩:=hw;have al:=di dt;refine⟨_,rfl,_,t,_,false,rfl,ht,kt,_,rfl,_,rfl,bN ?_⟩;refine⟨_,rfl,wa,rfl,⟨_,ah.of d5⟩,λD hD=>ES (xs:=as.map V.ref) (λk ys H2=>k<=as.length/\aq H H2/\H2 D=some (.lst ys)/\∃bs:List Bool,ys=bs.map V.bl/\bs.any id=false/\bs.length=2*k) ⟨Yw _,bh hD _,aF,[],rfl,rfl,rfl⟩ (λk ys H2 _ ⟨_,g2,_⟩=>ah.of (g2 _ _ d5)) ?_ ?_ (λσ H R R' m ⟨x,h,a,e,s,r⟩=>⟨x,h,a,e,s,m _ _ r⟩) (λv σ H R R' m h=>m _ _ h)⟩
 ·rintro k v ys H2 hk ⟨kl,g2,h2,bs,ey,ba,bn⟩ os iJ;obtain⟨u1,u2,rfl⟩:∃u1 u2,os=[u1,u2]:=by
   match os,iJ with
   |[u1,u2],_=>exact⟨u1,u2,rfl⟩
  rw[Yd] at hk;obtain⟨a,ea,rfl⟩:∃a,as[k]?=some a/\V.ref a=v:=by
   cases e:as[k]? with
   |none=>rw[e] at hk;cases hk
   |some c=>rw[e] at hk;exact⟨c,rfl,Yf hk⟩
  obtain⟨st,_,cu⟩:=fC dt ea;have JX:k<as.length:=(Yh.mp ea).1;refine aP ⟨⟨[some (.ref a),u2],rfl,rfl⟩,?_⟩;refine⟨_,rfl,a,rfl,⟨_,au.of (g2 _ _ cu)⟩,a,[.int st.1,.int st.2],λi ys σ H3=>(∃u2,σ=[some (.ref a),u2])/\aq H H3/\H3 D=some (.lst ys)/\∃bs:List Bool,ys=bs.map V.bl/\bs.any id=false/\bs.length=2*k+i,rfl,⟨⟨u2,rfl⟩,g2,h2,bs,ey,ba,bn⟩,?_,?_,?_⟩
  ·rintro i ys σ H3 _ ⟨_,g3,_⟩;exact au.of (g3 _ _ cu)
  ·rintro i v2 ys σ H3 hi ⟨⟨u2,rfl⟩,g3,h3,bs,ey,ba,bn⟩;have i2:i<2:=(Yh.mp hi).1;obtain⟨z,rfl⟩:∃z,v2=.int z:=by
    match i,hi with
    |0,hi=>exact⟨_,(Yf hi).symm⟩
    |1,hi=>exact⟨_,(Yf hi).symm⟩
   refine aP ⟨_,rfl,_,_,_,false,rfl,.int z,kW,h3,by rw[ey,Ya];omega,⟨_,rfl⟩,λd o e=>?_,aF,bs++[false],by rw[ey,Yp];rfl,by rw[List.any_append,ba];rfl,by rw[Ym,bn];rfl⟩;rw[aW (bE e hD)];exact g3 _ _ e
  ·rintro ys σ H3 ⟨⟨u2,rfl⟩,g3,h3,bs,ey,ba,bn⟩;exact⟨⟨[some (.ref a),u2],rfl,rfl⟩,JX,g3,h3,bs,ey,ba,bn⟩
 ·rintro ys H2 ⟨_,g2,h2,bs,ey,ba,_⟩;refine⟨D,bs,rfl,ah.of (by rw[h2,ey]),_,rfl,?_⟩;rw[ba];exact q _ g2
end
theorem z_(x y:Int):decide (V.int x=V.int y)=decide (x=y):=by
 by_cases h:x=y;·rw[h,decide_eq_true rfl,decide_eq_true rfl]
 ·rw[decide_eq_false (λz=>h (V.int.inj z)),decide_eq_false h]
theorem sO{ns:List Int}{n:Nat}(f:full ns=true)(l:ns.length=n){u:Int}(h:0<=u/\u<(n:Int)):cJ (ns.map V.int) u=some (.int (ns.getD u.toNat 0))/\0<=ns.getD u.toNat 0/\ns.getD u.toNat 0<(n:Int):=by
 obtain⟨k,rfl⟩:∃k:Nat,u=(k:Int):=⟨u.toNat,by omega⟩;have hk:k<ns.length:=by omega
 have e:ns.getD ((k:Int)).toNat 0=ns[k]:=by rw[Yq,Wa,Ye hk];rfl
 rw[e];have m:=(jC f).mem_iff.mp (Wp hk);obtain⟨i,hi,ei⟩:=Jc m;rw[cL] at hi;have e2:(i:Int)=ns[k]:=Yf ((fG hi).symm.trans ((Ye (by rw[cL];exact hi)).trans (by rw[ei])));exact⟨fJ (by rw[Yd,Ye hk];rfl),by omega,by omega⟩
theorem nY{A:List Rw}{r:Rw}(z:Int):bZ (A++[r]) z=(bZ A z).or (if r.z=z then some r else none):=by
 unfold bZ;rw[List.find?_append]
 congr 1
 rw[Wv];by_cases h:r.z=z;·rw[decide_eq_true h,if_pos h]
 ·rw[decide_eq_false h,if_neg h];rfl
theorem DF.snoc{H:Hp}{ae:List (Key×V)}{A:List Rw}{r:Rw}{p:Addr}(d:DF H ae A)(hr:mI H p r)(nz:r.z∉A.map (·.z)):DF H (putK ae (.inl r.z) (.ref p)) (A++[r]):=by
 have aD:bZ A r.z=none:=by
  cases e:bZ A r.z with
  |none=>rfl
  |some r'=>
   obtain⟨m,ez⟩:=i6 e;exact absurd (We.mpr ⟨r',m,ez⟩) nz
 constructor
 ·intro z r' h;rw[nY] at h;rw[gi];by_cases e:r.z=z
  ·subst e;rw[aD,if_pos rfl] at h;obtain rfl:=Yf h;exact⟨p,if_pos rfl,hr⟩
  ·rw[if_neg e,Option.or_none] at h;rw[if_neg (λq=>e (Wl q).symm)];exact d.yes z r' h
 ·intro z h;rw[nY] at h;rw[gi];by_cases e:r.z=z
  ·subst e;rw[aD,if_pos rfl] at h;cases h
  ·rw[if_neg e,Option.or_none] at h;rw[if_neg (λq=>e (Wl q).symm)];exact d.no z h
theorem Eg{xs ys:List Int}{R:List Rw}{m m':Str}{s:Int×Int}{ns:List Int}(h:cP xs ys R m s=some (m',ns)):∃r b,bZ R s.1=some r/\r.o=.inr b/\m'=(if s.2=1 then b else r.a)/\ns=if s.2=1 then dR xs ys r.k else inv (dR xs ys r.k):=by
 unfold cP at h;cases er:bZ R s.1 with
 |none=>rw[er] at h;cases h
 |some r=>
  rw[er] at h;dsimp only at h;cases eo:r.o with
  |inl i=>rw[eo] at h;cases h
  |inr b=>
   rw[eo] at h;dsimp only at h;refine⟨r,b,rfl,eo,?_⟩;by_cases h1:s.2=1
   ·rw[if_pos h1] at h;rw[if_pos h1,if_pos h1];by_cases h2:r.a=m;·rw[if_pos h2] at h;cases h;exact⟨rfl,rfl⟩
    ·rw[if_neg h2] at h;cases h
   ·rw[if_neg h1] at h;rw[if_neg h1,if_neg h1];by_cases h3:s.2=-1
    ·rw[if_pos h3] at h;by_cases h2:b=m;·rw[if_pos h2] at h;cases h;exact⟨rfl,rfl⟩
     ·rw[if_neg h2] at h;cases h
    ·rw[if_neg h3] at h;cases h
inductive xw(CL:Addr)(vs:List V)(H:Hp)(Q:VK)(E:XK):Prop
 |mk (L fa pa wa:Addr) (xs ys:List Int) (R:List Rw) (nm:Str) (sec:Int) (W:List (Int×Int)) (e:Option Int) (aE:vs=[.ref L,.ref fa,.str nm,.int sec,.ref pa]) (la:jM H CL L xs ys) (gd:eY xs ys) (rl:RL H fa R) (ro:∀r∈R,j3 xs ys r) (zd:(R.map (·.z)).Nodup) (rn:R.length<=64) (hp:H pa=some (.tup [.ref wa,c8 e])) (hw:WL H wa W) (wn:W.length<=400) (hs:0<=sec/\sec<(xs.length:Int)) (q:∀H',aq H H'->Q (.bl (iE xs ys R nm sec W e)) H')
section
variable {K:af}{mg:aJ}
abbrev t4:List Str:=["land","kept","person","section","paper"]
theorem fE:bc ["land","kept","person","section","paper","walk","end","facts","name","led","number","way","start","letter"] t4 (aM rH):=.bO
theorem DD(F:aS K "stands" "stands" rH f fd)(lc:oN K CL){t1:Tok}(sP:mg "SAID"=some (.str "said" t1))(qu:HasFn P w K mg base 1 "all_numbers" pd yX)(rM:HasFn P w K mg base 2 "can_go" tZ yb)(kH:HasFn P w K mg base 1 "tie_step" o_ rB)(qP:sZ P w K mg base 1 "step" CL oZ (yT CL))(bl:Bl mg):aL P w K mg base aU 3 f fd t4 (xw CL):=by
 refine F.o fE λs H hr h=>?_;obtain⟨L,fa,pa,wa,xs,ys,R,nm,sec,W,e,rfl,la,gd,rl,ro,zd,rn,hp,hw,wn,gv,q⟩:=h;refine⟨_,(ar (ja (pv 4) (fK (K:=K) (n:=2) rfl rfl (bL (bg 5 fE.nd) (bL (bg 6 fE.nd) fH)))) (ar (Cu (i:=7) (x:="fact") (fr:=[]) (cl:=[]) rfl fE.nd rfl (Or.inl rfl) (.fo trivial trivial) (gj (K:=K) rfl (pv 1)) (λ_ _ _ _=>(az (iT K) (pv 0) ao)) (λ_ _ _ _=>(pv 0))) (ar (aV (PW.pt (pw_or (oh B6 (pv 3) (cz vL rfl bl.dv lR (aa (pF K 0) ai)) (by with_unfolding_all rfl)) (pw_or1 (fL (dw (aI qu hr (aa (pv 5) (aa (pv 6) ai)))))))) (ay (aK eh)) aY) (ar (Fp (i:=8) (j:=9) rfl fE.nd rfl rfl (by decide) rfl rfl (aa (pv 2) (aa (pv 3) ai)) (by with_unfolding_all rfl)) (ar (dy PassesOwn.never rfl (gj (K:=K) rfl (pv 5)) (fK (K:=K) (n:=2) rfl rfl (bL (bg 10 fE.nd) (bL (bg 11 fE.nd) fH))) (ar (aV (fL (dw (aI rM hr (aa (pv 7) (aa (pv 8) (aa (pv 10) (aa (pv 11) ai))))))) (ay (aK eh)) aY) (ar (ja (aI kH hr (aa (cU (bY hr) (pv 7) (pv 10) (λ_ _=>rfl)) (aa (pv 11) ai))) (fK (K:=K) (n:=3) rfl rfl (bL (bg 12 fE.nd) (bL (bg 13 fE.nd) (bL (bg 8 fE.nd) fH))))) (ay (aQ 9 fE.nd (az (iT K) (GK qP hr (by omega) (pv 0) (aa (pv 13) ai)) (pv 9))))))) (ar (aV (aZ oF (pv 6) jH) (ay (aK (dO (dG bX (pv 8) (pv 2)) (iq (dG dA (pv 9) (pv 3)))))) aY) (ay (aK (dO (yh (yG (bY hr) (pv 6) (pv 7)) (by with_unfolding_all rfl)) (dO (dG bX (az (iT K) (cU (bY hr) (pv 7) (pv 6) (λ_ _=>rfl)) ao) (ig (v:=.str "said") rfl sP ⟨_,rfl⟩)) (dO (dG bX (az (iT K) (cU (bY hr) (pv 7) (pv 6) (λ_ _=>rfl)) ao) (pv 8)) (iq (dG dA (az (iT K) (cU (bY hr) (pv 7) (pv 6) (λ_ _=>rfl)) ao) (pv 9)))))))))))))),?_⟩;have sz:(10000:Nat)<=sizeLine:=by rw[sizeLine_eq];omega
 obtain⟨dx,d,mo,Mn,wi,im,jf,iw,Mo,h1,_⟩:=id la;obtain⟨as,ft,dt⟩:=rl;have al:=di dt;refine⟨_,rfl,pa,_,rfl,au.of hp,rfl,_,_,rfl,aP ⟨_,_,rfl,aP ⟨rfl,?_⟩⟩⟩;dsimp only;refine bf ?_;refine⟨_,rfl,fa,rfl,⟨_,ah.of ft⟩,λD hD=>CY (xs:=as.map V.ref) (λi ae H2=>i<=as.length/\aq H H2/\H2 D=some (.dK ae)/\ae.length<=i/\DF H ae (R.take i)) ⟨Yw _,bh hD _,aF,Yc _,⟨λz r h=>(by cases h),λ_ _=>rfl⟩⟩ (λk ys H2 _ ⟨_,g2,_⟩=>ah.of (g2 _ _ ft)) ?_ ?_⟩
 ·rintro i v ae H2 hi ⟨il,g2,h2,kl,df⟩;rw[Yd] at hi;obtain⟨a,ea,rfl⟩:∃a,as[i]?=some a/\V.ref a=v:=by
   cases e:as[i]? with
   |none=>rw[e] at hi;cases hi
   |some c=>rw[e] at hi;exact⟨c,rfl,Yf hi⟩
  obtain⟨r,er,cT⟩:=fC dt ea;have JY:i<as.length:=(Yh.mp ea).1;have tk:R.take (i+1)=R.take i++[r]:=by rw[Y3,er];rfl
  refine⟨_,rfl,a,_,_,_,rfl,rfl,au.of (g2 _ _ cT),rfl,_,rfl,.inl r.z,rfl,h2,by omega,JY,λc o ec=>?_,aF,?_,?_⟩
  ·rw[aW (bE ec hD)];exact g2 _ _ ec
  ·have:=i0 ae (.inl r.z) (.ref a);omega
  ·rw[tk];refine df.snoc cT λm=>?_;have nd:((R.take (i+1)).map (·.z)).Nodup:=((Jf _ _).map _).nodup zd;rw[tk,Yp] at nd;exact(Ji.mp nd).2.2 _ m _ (Yr.mpr rfl) rfl
 rintro ae H2 ⟨_,g2,h2,_,df⟩;rw[Ya,al,Wq] at df;refine aP ?_;dsimp only;refine⟨_,rfl,_,rfl,L,CL,dx,_,_,rfl,g2 _ _ h1,lc.cls,lc.yS,rfl,_,rfl,λp H3 np g3 JZ=>⟨_,_,_,p,rfl,rfl,JZ,_,rfl,?_⟩⟩;rw[if_pos rfl,decide_eq_true gv];refine bK ?_;have jx:=g2.trans g3;refine⟨_,rfl,_,rfl,wa,W,e,rfl,hw.same jx,wn,λH4 g4=>⟨_,rfl,bK (aR ?_)⟩⟩;have dH:=jx.trans g4;refine⟨_,rfl,_,rfl,_,_,rfl,?_⟩;dsimp only;have nA:=g4 _ _ (g3 _ _ h2);obtain⟨ws,d5,dI⟩:=hw.same dH;have wl:=di dI;refine gm (λσ H'=>∃(m:Str) (u:Int) (bq br bt bu:Option V),aq H4 H'/\dZ xs ys R nm sec W=some (m,u)/\σ=[some (.ref L),some (.ref fa),some (.str nm),some (.int sec),some (.ref pa),some (.ref wa),some (c8 e),some (.ref D),some (.str m),some (.int u),bq,br,bt,bu]) (λgf b5=>?_) ?_
 ·refine⟨_,rfl,wa,rfl,⟨_,ah.of d5⟩,i5 (K:=K) (a:=wa) (xs:=ws.map V.ref) (λj σ H'=>∃(m:Str) (u:Int) (bq br bt bu:Option V),aq H4 H'/\dZ xs ys R nm sec (W.take j)=some (m,u)/\(0<=u/\u<(xs.length:Int))/\σ=[some (.ref L),some (.ref fa),some (.str nm),some (.int sec),some (.ref pa),some (.ref wa),some (c8 e),some (.ref D),some (.str m),some (.int u),bq,br,bt,bu])
   ⟨nm,sec,none,none,none,none,aq.refl _,rfl,gv,rfl⟩ (λj σ H' _ ⟨_,_,_,_,_,_,g,_⟩=>ah.of (g _ _ d5)) ?_ ?_⟩
  ·rintro j v σ H5 hj ⟨m,u,bq,br,bt,bu,g5,wj,nB,rfl⟩;rw[Yd] at hj;obtain⟨a,ea,rfl⟩:∃a,ws[j]?=some a/\V.ref a=v:=by
    cases e:ws[j]? with
    |none=>rw[e] at hj;cases hj
    |some c=>rw[e] at hj;exact⟨c,rfl,Yf hj⟩
   obtain⟨st,es,cu⟩:=fC dI ea;have eP:=dH.trans g5;refine⟨a,_,rfl,au.of (g5 _ _ cu),rfl,_,_,rfl,aP ⟨_,_,rfl,aP ⟨rfl,?_⟩⟩⟩;dsimp only;refine⟨_,rfl,_,rfl,_,rfl,_,rfl,D,ae,R,m,st,xs,ys,rfl,g5 _ _ nA,df.same eP,gd,ro,λH6 g6=>⟨_,rfl,?_⟩⟩;have cX:=eP.trans g6;cases ep:cP xs ys R m st with
   |none=>
    refine bN ?_;have eb:iE xs ys R nm sec W e=false:=by unfold iE;rw[xv wj es ep]
    rw[eb] at q;exact q _ cX
   |some mn=>
    obtain⟨m',ns⟩:=mn;refine bK (aR ?_);obtain⟨r,b,er,ob,em,en⟩:=Eg ep;obtain⟨pr,ev,cT⟩:=df.yes _ _ er;rcases ro r (i6 er).1 with⟨_,i,oi⟩|⟨tn,b',hk,J0⟩;·rw[oi] at ob;cases ob
    obtain rfl:b'=b:=Jd (J0.symm.trans ob);have lu:=si hk;rw[lu] at en;refine⟨_,rfl,_,rfl,D,_,rfl,.inl ⟨ae,.inl st.1,.inl (g6 _ _ (g5 _ _ nA)),rfl,ev.symm⟩,_,rfl,pr,r,st.2,xs,ys,tn,b',rfl,cX _ _ cT,gd,hk,ob,λt lt H7 nt g7 ht hs=>⟨t,_,rfl,au.of ht,rfl,_,_,rfl,aP ⟨_,_,rfl,aP ⟨_,_,rfl,aP ⟨rfl,?_⟩⟩⟩⟩⟩;rw[←en] at hs;rw[←em];have d6:=cX.trans g7;obtain⟨fn,ln⟩:=wq gd hs;obtain⟨lA,u0,u1⟩:=sO fn ln nB;refine⟨_,rfl,L,dx,_,rfl,d6 _ _ h1,rfl,_,rfl,L,lt,xs,ys,ns,rfl,la.same d6,hs,λt2 nC=>⟨_,rfl,t2,_,_,_,rfl,rfl,au.of nC,lA,aP ⟨m',_,_,_,_,_,(g5.trans g6).trans g7,?_,⟨u0,u1⟩,rfl⟩⟩⟩;rw[rL wj es,ep]
  ·rintro σ H5 ⟨m,u,bq,br,bt,bu,g5,wj,nB,rfl⟩;rw[Ya,wl,Wq] at wj;exact b5 _ _ ⟨m,u,bq,br,bt,bu,g5,wj,rfl⟩
 rintro σ H5 ⟨m,u,bq,br,bt,bu,g5,wj,rfl⟩;have eP:=dH.trans g5;unfold iE at q;rw[wj] at q;cases e with
 |none=>
  refine⟨_,rfl,rfl,_,rfl,aX (λ_=>⟨_,rfl,_,rfl,rfl,_,rfl,?_⟩) (λc=>absurd (decide_eq_true rfl) c)⟩;rw[eu];dsimp only at q;refine aX (λc=>⟨_,rfl,_,rfl,rfl,?_⟩) (λc=>?_)
  ·rw[c,Wx] at q;rw[z_];exact q _ eP
  ·rw[eq_false_of_ne_true c,Wh] at q;exact q _ eP
 |some z=>
  refine⟨_,rfl,rfl,_,rfl,aX (λc=>absurd (of_decide_eq_true c) (λh=>by cases h)) (λ_=>aR ?_)⟩;dsimp only at q;have A4:=g5 _ _ nA;cases er:bZ R z with
  |none=>
   rw[er] at q;exact⟨_,rfl,_,rfl,D,none,rfl,.inl ⟨ae,.inl z,.inl A4,rfl,(df.no z er).symm⟩,_,rfl,bK (q _ eP)⟩
  |some r=>
   obtain⟨pr,ev,cT⟩:=df.yes z r er;have u6:=eP _ _ cT;have dg:c7 H5 D (.int z) (some (.ref pr)):=.inl ⟨ae,.inl z,.inl A4,rfl,ev.symm⟩;rw[er] at q;dsimp only at q;refine⟨_,rfl,_,rfl,D,_,rfl,dg,_,rfl,bN ⟨_,rfl,_,rfl,D,_,rfl,dg,pr,_,_,_,rfl,rfl,au.of u6,rfl,rfl,_,rfl,?_⟩⟩;rw[eu];refine aX (λc=>?_) (λc=>?_)
   ·rw[show decide (r.k=ej)=true from c,Wx] at q;refine⟨_,rfl,_,rfl,D,_,rfl,dg,pr,_,_,_,rfl,rfl,au.of u6,rfl,_,rfl,rfl,_,rfl,?_⟩;rw[eu];refine aX (λc2=>?_) (λc2=>?_)
    ·rw[c2,Wx] at q;rcases ro r (i6 er).1 with⟨_,i,oi⟩|⟨tn,b',hk,_⟩
     ·refine⟨_,rfl,_,rfl,D,_,rfl,dg,pr,_,_,_,rfl,rfl,au.of u6,rfl,_,rfl,by rw[oi];rfl,?_⟩;have e5:decide (kV r.o=V.int u)=decide (r.o=.inl u):=by
       rw[oi,Y8,decide_eq_true_iff,decide_eq_true_iff];exact⟨λh=>congrArg Sum.inl (V.int.inj h),λh=>congrArg V.int (Wl h)⟩
      rw[e5];exact q _ eP
     ·rw[show r.k=ej from of_decide_eq_true c] at hk;exact absurd hk nQ
    ·rw[eq_false_of_ne_true c2,Wh] at q;exact q _ eP
   ·rw[show decide (r.k=ej)=false from eq_false_of_ne_true c,Wh] at q;exact q _ eP
end
theorem eg{H:Hp}{a b:Addr}{o o':HO}(h:H a=some o)(h':H b=some o')(ne:o≠o'):a≠b:=λz=>by
 grind
structure d7(H:Hp)(xs ys:List Int)(kt ks:List (Key×V))(R:List Rw):Prop where
 t1:∀z r b,bZ R z=some r->r.o=.inr b->∃p u,bD kt (.inl z)=some (.ref p)/\H p=some (.tup [.str r.a,.str b,.ref u])/\a8 H u (dR xs ys r.k)
 t0:∀z,(∀r b,bZ R z=some r->r.o≠.inr b)->bD kt (.inl z)=none
 s1:∀z r i,bZ R z=some r->r.o=.inl i->∃p,bD ks (.inl z)=some (.ref p)/\H p=some (.tup [.str r.a,.int i])
 s0:∀z,(∀r i,bZ R z=some r->r.o≠.inl i)->bD ks (.inl z)=none
section
variable {H H':Hp}{xs ys:List Int}{kt ks:List (Key×V)}{R:List Rw}
theorem d7.eZ(t:d7 H xs ys kt ks R)(g:∀p us,H p=some (.tup us)->H' p=some (.tup us)):d7 H' xs ys kt ks R:=
 ⟨λz r b h1 h2=>let⟨p,u,a1,a2,a3⟩:=t.t1 z r b h1 h2;⟨p,u,a1,g _ _ a2,g _ _ a3⟩,t.t0,λz r i h1 h2=>let⟨p,a1,a2⟩:=t.s1 z r i h1 h2;⟨p,a1,g _ _ a2⟩,t.s0⟩
theorem d7.same(g:aq H H')(t:d7 H xs ys kt ks R):d7 H' xs ys kt ks R:=t.eZ λ_ _ e=>g _ _ e
theorem rN{r:Rw}(nz:r.z∉R.map (·.z)):bZ R r.z=none:=by
 cases e:bZ R r.z with
 |none=>rfl
 |some r'=>
  obtain⟨m,ez⟩:=i6 e;exact absurd (We.mpr ⟨r',m,ez⟩) nz
theorem kT{r:Rw}(nz:r.z∉R.map (·.z)):bZ (R++[r]) r.z=some r:=by
 rw[nY,rN nz,if_pos rfl];rfl
theorem i9{r:Rw}{z:Int}(e:¬r.z=z):bZ (R++[r]) z=bZ R z:=by
 rw[nY,if_neg e,Option.or_none]
theorem d7.nD(t:d7 H xs ys kt ks R){r:Rw}{b:Str}{p u:Addr}(nz:r.z∉R.map (·.z))(ob:r.o=.inr b)(hp:H p=some (.tup [.str r.a,.str b,.ref u]))(hu:a8 H u (dR xs ys r.k)):d7 H xs ys (putK kt (.inl r.z) (.ref p)) ks (R++[r]):=by
 refine⟨λz r' b' h1 h2=>?_,λz h=>?_,λz r' i h1 h2=>?_,λz h=>?_⟩
 ·rw[gi];by_cases e:r.z=z
  ·subst e;rw[kT nz] at h1;obtain rfl:=Yf h1;obtain rfl:=Jd (ob.symm.trans h2);exact⟨p,u,if_pos rfl,hp,hu⟩
  ·rw[i9 e] at h1;rw[if_neg (λq=>e (Wl q).symm)];exact t.t1 z r' b' h1 h2
 ·rw[gi];by_cases e:r.z=z
  ·subst e;exact absurd ob (h r b (kT nz))
  ·rw[i9 e] at h;rw[if_neg (λq=>e (Wl q).symm)];exact t.t0 z h
 ·by_cases e:r.z=z
  ·subst e;rw[kT nz] at h1;obtain rfl:=Yf h1;rw[ob] at h2;cases h2
  ·rw[i9 e] at h1;exact t.s1 z r' i h1 h2
 ·refine t.s0 z λr' i h1 h2=>?_;by_cases e:r.z=z
  ·subst e;rw[rN nz] at h1;cases h1
  ·exact h r' i (by rw[i9 e];exact h1) h2
theorem d7.mJ(t:d7 H xs ys kt ks R){r:Rw}{i:Int}{p:Addr}(nz:r.z∉R.map (·.z))(oi:r.o=.inl i)(hp:H p=some (.tup [.str r.a,.int i])):d7 H xs ys kt (putK ks (.inl r.z) (.ref p)) (R++[r]):=by
 refine⟨λz r' b' h1 h2=>?_,λz h=>?_,λz r' i' h1 h2=>?_,λz h=>?_⟩
 ·by_cases e:r.z=z
  ·subst e;rw[kT nz] at h1;obtain rfl:=Yf h1;rw[oi] at h2;cases h2
  ·rw[i9 e] at h1;exact t.t1 z r' b' h1 h2
 ·refine t.t0 z λr' b' h1 h2=>?_;by_cases e:r.z=z
  ·subst e;rw[rN nz] at h1;cases h1
  ·exact h r' b' (by rw[i9 e];exact h1) h2
 ·rw[gi];by_cases e:r.z=z
  ·subst e;rw[kT nz] at h1;obtain rfl:=Yf h1;obtain rfl:=Wl (oi.symm.trans h2);exact⟨p,if_pos rfl,hp⟩
  ·rw[i9 e] at h1;rw[if_neg (λq=>e (Wl q).symm)];exact t.s1 z r' i' h1 h2
 ·rw[gi];by_cases e:r.z=z
  ·subst e;exact absurd oi (h r i (kT nz))
  ·rw[i9 e] at h;rw[if_neg (λq=>e (Wl q).symm)];exact t.s0 z h
end
theorem Gd{xs ys:List Int}{R:List Rw}{m on ot b:Str}{s:Int×Int}{ns:List Int}{r:Rw}(er:bZ R s.1=some r)(ob:r.o=.inr b)(h:(s.2=1/\on=r.a/\ot=b/\ns=dR xs ys r.k)\/(s.2=-1/\on=b/\ot=r.a/\ns=inv (dR xs ys r.k))):cP xs ys R m s=if on=m then some (ot,ns) else none:=by
 unfold cP;rw[er];dsimp only;rw[ob];dsimp only;rcases h with⟨h1,rfl,rfl,rfl⟩|⟨h1,rfl,rfl,rfl⟩;·rw[if_pos h1]
 ·rw[if_neg (by omega),if_pos h1]
inductive zy(vs:List V)(H:Hp)(Q:VK)(E:XK):Prop
 |mk (z:Int) (aE:vs=[.int z]) (q:Q (.bl true) H)
inductive yY(vs:List V)(H:Hp)(Q:VK)(E:XK):Prop
 |mk (fa td pa wa:Addr) (xs ys:List Int) (R:List Rw) (nm:Str) (sec:Int) (W:List (Int×Int)) (e:Option Int) (aE:vs=[.ref fa,.ref td,.str nm,.int sec,.ref pa]) (ht:jw H td xs ys) (gd:eY xs ys) (rl:RL H fa R) (ro:∀r∈R,j3 xs ys r) (zd:(R.map (·.z)).Nodup) (rn:R.length<=64) (hp:H pa=some (.tup [.ref wa,c8 e])) (hw:WL H wa W) (wn:W.length<=400) (hs:0<=sec/\sec<(xs.length:Int)) (q:∀H',aq H H'->Q (.bl (iE xs ys R nm sec W e)) H')
def nE(fa td:Addr)(nm:Str)(sec:Int)(pa:Addr)(m:Str)(u:Int)(ti sd:Addr)(o9 bq br bt bu bT:Option V):St:=[some (.ref fa),some (.ref td),some (.str nm),some (.int sec),some (.ref pa),some (.str m),some (.int u),some (.ref ti),some (.ref sd),o9,bq,br,bt,bu,bT]
section
variable {K:af}{mg:aJ}
theorem BY:bc ["_law_one"] ["_law_one"] (aM qz):=.bO
theorem DE(F:aS K "_law_number" "_law_number" qz f fd)(bl:Bl mg):aL P w K mg base aU 1 f fd ["_law_one"] zy:=by
 refine F.o BY λs H hr h=>?_;obtain⟨z,rfl,q⟩:=h;refine⟨_,(ay (aK (dO (cS K bl (pv 0) (cQ rfl bl.sX sy)) (iq (oB (cS K bl (pv 0) (cQ rfl bl.jK jG))))))),?_⟩;exact⟨_,rfl,_,_,_,true,rfl,.int z,sC,_,rfl,bN ⟨_,rfl,_,_,_,false,rfl,.int z,kW,_,rfl,q⟩⟩
abbrev t5:List Str:=["_law_facts","_law_turns_here","_law_name_here","_law_section","_law_paper"]
theorem dh:bc ["_law_facts","_law_turns_here","_law_name_here","_law_section","_law_paper","_law_at","_law_now","_law_ties","_law_said","_law_number_here","_law_kind","_law_one","_law_other","_law_step","_law_turn_here"] t5 (aM qZ):=.bO
theorem E9(F:aS K "_law_bars" "_law_bars" qZ f fd)(lJ:HasFn P w K mg base 1 "_law_number" ["_law_one"] zy)(gg:HasFn P w K mg base 1 "_law_inverse" k9 oO)(bl:Bl mg):aL P w K mg base aU 2 f fd t5 yY:=by
 refine F.o dh @λa_ A outer vs Q E s H hr h=>?_;obtain⟨fa,td,pa,wa,xs,ys,R,nm,sec,W,e,rfl,ht,gd,rl,ro,zd,rn,hp,hw,wn,gv,q⟩:=h;refine⟨_,(ar (aV (PW.pt (pw_or (fL (dw (cS K bl (pv 4) (cQ rfl bl.eW eS)))) (pw_or (aZ dA (cg K bl (pv 4)) ao) (pw_or1 (fL (dw (cS K bl (az (iT K) (pv 4) ao) (cQ rfl bl.gq gn)))))))) (ay (aK eh)) aY) (ar (aQ 5 dh.nd (pv 2)) (ar (aQ 6 dh.nd (pv 3)) (ar (aQ 7 dh.nd rm) (ar (aQ 8 dh.nd rm) (ar (dy PassesOwn.never rfl (gj (K:=K) rfl (pv 0)) (fK (K:=K) (n:=4) rfl rfl (bL (bg 9 dh.nd) (bL (bg 10 dh.nd) (bL (bg 11 dh.nd) (bL (bg 12 dh.nd) fH))))) (ay (aV (aZ bX (pv 10) bU) (ay (n4 (bY hr) (pv 8) (pv 9) (cf (aa (pv 11) (aa (pv 12) ai))))) (ay (n4 (bY hr) (pv 7) (pv 9) (cf (aa (pv 11) (aa (pv 12) (aa (cU (bY hr) (pv 1) (pv 10) (λ_ _=>rfl)) ai))))))))) (ar (dy PassesOwn.never rfl (gj (K:=K) rfl (az (iT K) (pv 4) ao)) (bg 13 dh.nd) (ar (aV (PW.pt (pw_or (fL (dw (cS K bl (pv 13) (cQ rfl bl.eW eS)))) (pw_or (aZ dA (cg K bl (pv 13)) ao) (pw_or (fL (dw (aI lJ hr (aa (az (iT K) (pv 13) ao) ai)))) (pw_or1 (fL (dw (aI lJ hr (aa (az (iT K) (pv 13) ao) ai))))))))) (ay (aK eh)) aY) (ar (aV (PW.pt (pw_or (oA (nU (bY hr) (az (iT K) (pv 13) ao) (pv 7)) (by with_unfolding_all rfl)) (pw_or1 (oh (yB (K:=K) rfl) (az (iT K) (pv 13) ao) (cf (aa ao (aa (kZ kU ao) ai))) (by with_unfolding_all rfl))))) (ay (aK eh)) aY) (ar (ja (cU (bY hr) (pv 7) (az (iT K) (pv 13) ao) (λ_ _=>rfl)) (fK (K:=K) (n:=3) rfl rfl (bL (bg 11 dh.nd) (bL (bg 12 dh.nd) (bL (bg 14 dh.nd) fH))))) (ar (aV (aZ bX (az (iT K) (pv 13) ao) (kZ kU ao)) (ay (EU (i:=11) (j:=12) (k:=14) rfl dh.nd rfl rfl rfl rfl rfl rfl (aa (pv 12) (aa (pv 11) (aa (aI gg hr (aa (pv 14) ai)) ai))) (by with_unfolding_all rfl))) aY) (ar (aV (aZ dA (pv 11) (pv 5)) (ay (aK eh)) aY) (ar (aQ 5 dh.nd (pv 12)) (ay (aQ 6 dh.nd (az (iT K) (pv 14) (pv 6))))))))))) (ar (aV (aZ oF (az (iT K) (pv 4) ao) jH) (ay (aK (dO (dG bX (pv 5) (pv 2)) (iq (dG dA (pv 6) (pv 3)))))) aY) (ay (aK (dO (aI lJ hr (aa (az (iT K) (pv 4) ao) ai)) (dO (yh (yG (bY hr) (az (iT K) (pv 4) ao) (pv 8)) (by with_unfolding_all rfl)) (dO (dG bX (az (iT K) (cU (bY hr) (pv 8) (az (iT K) (pv 4) ao) (λ_ _=>rfl)) ao) (pv 5)) (iq (dG dA (az (iT K) (cU (bY hr) (pv 8) (az (iT K) (pv 4) ao) (λ_ _=>rfl)) ao) (pv 6)))))))))))))))),?_⟩;have sz:(10000:Nat)<=sizeLine:=by rw[sizeLine_eq];omega
 obtain⟨as,ft,dt⟩:=rl;have al:=di dt;obtain⟨ws,d5,dI⟩:=hw;have wl:=di dI;refine⟨_,rfl,_,_,_,true,rfl,.tup hp,sD,_,rfl,bK ?_⟩;refine⟨_,rfl,pa,_,rfl,.inr (au.of hp),rfl,_,rfl,aX (λc=>absurd c (by show ¬(!decide (V.int 2=V.int 2))=true;rw[decide_eq_true rfl];exact Yi)) (λ_=>?_)⟩;refine⟨_,rfl,pa,_,_,_,rfl,rfl,au.of hp,rfl,_,_,_,true,rfl,.lst d5,yE,_,rfl,bK (aR ?_)⟩;refine bf ⟨_,rfl,?_⟩;refine bf ⟨_,rfl,?_⟩;refine bf ?_;refine λti H1 n1 g1 h1=>?_;refine bf ?_;refine λsd H2 n2 g2 h2=>?_;have Aa:ti≠sd:=λz=>by rw[←z,h1] at n2;cases n2
 have fu:=g1.trans g2;have J1:=g1.free n2;refine gm (λσ H'=>∃(kt ks:List (Key×V)) (o9 bq br bt:Option V),aq H H'/\H' ti=some (.dK kt)/\H' sd=some (.dK ks)/\d7 H' xs ys kt ks R/\σ=nE fa td nm sec pa nm sec ti sd o9 bq br bt none none) (λgf b5=>?_) ?_
 ·refine⟨_,rfl,fa,rfl,⟨_,ah.of (fu _ _ ft)⟩,i5 (K:=K) (a:=fa) (xs:=as.map V.ref) (λj σ H'=>∃(kt ks:List (Key×V)) (o9 bq br bt:Option V),aq H H'/\H' ti=some (.dK kt)/\H' sd=some (.dK ks)/\kt.length<=j/\ks.length<=j/\d7 H' xs ys kt ks (R.take j)/\σ=nE fa td nm sec pa nm sec ti sd o9 bq br bt none none)
   ⟨[],[],none,none,none,none,fu,g2 _ _ h1,h2,Yc _,Yc _,⟨λz r b h=>(by cases h),λ_ _=>rfl,λz r b h=>(by cases h),λ_ _=>rfl⟩,rfl⟩ (λj σ H' _ ⟨_,_,_,_,_,_,g,_⟩=>ah.of (g _ _ ft)) ?_ ?_⟩
  ·rintro j v σ H5 hj ⟨kt,ks,o9,bq,br,bt,g5,iQ,hV,lt,ls,hX,rfl⟩;rw[Yd] at hj;obtain⟨a,ea,rfl⟩:∃a,as[j]?=some a/\V.ref a=v:=by
    cases e:as[j]? with
    |none=>rw[e] at hj;cases hj
    |some c=>rw[e] at hj;exact⟨c,rfl,Yf hj⟩
   obtain⟨r,er,cT⟩:=fC dt ea;have jl:j<as.length:=(Yh.mp ea).1;have tk:R.take (j+1)=R.take j++[r]:=by rw[Y3,er];rfl
   have nz:r.z∉(R.take j).map (·.z):=λm=>by
    have nd:((R.take (j+1)).map (·.z)).Nodup:=((Jf _ _).map _).nodup zd;rw[tk,Yp] at nd;exact(Ji.mp nd).2.2 _ m _ (Yr.mpr rfl) rfl
   refine⟨a,_,rfl,au.of (g5 _ _ cT),rfl,_,_,rfl,aP ⟨_,_,rfl,aP ⟨_,_,rfl,aP ⟨_,_,rfl,aP ⟨rfl,?_⟩⟩⟩⟩⟩;dsimp only;refine⟨_,rfl,rfl,_,rfl,?_⟩;rw[eu];have rr:=ro r (Ys er);refine aX (λc=>?_) (λc=>?_)
   ·have rk:r.k=ej:=of_decide_eq_true c;rcases rr with⟨_,i,oi⟩|⟨tn,b,hk,ob⟩
    ·refine⟨_,rfl,_,rfl,by show 2<=sizeLine;omega,λp H6 np g6 kr=>⟨_,rfl,_,rfl,sd,ks,.inl r.z,rfl,g6 _ _ hV,rfl,by omega,λH7 b7 e7=>?_⟩⟩;have tp:∀p us,H5 p=some (.tup us)->H7 p=some (.tup us):=λp us e=>b7 _ _ (g6 _ _ e) (eg (g6 _ _ e) (g6 _ _ hV) (λz=>by cases z));refine⟨kt,putK ks (.inl r.z) (.ref p),_,_,_,_,λc o ec=>b7 _ _ (g6 _ _ (g5 _ _ ec)) (bE ec J1),b7 _ _ (g6 _ _ iQ) Aa,e7,by omega,?_,?_,rfl⟩
     ·have:=i0 ks (.inl r.z) (.ref p);omega
     ·rw[tk];exact(hX.eZ tp).mJ nz oi (by rw[b7 _ _ kr (eg kr (g6 _ _ hV) (λz=>by cases z)),oi];rfl)
    ·rw[rk] at hk;exact absurd hk nQ
   ·have rk:r.k≠ej:=λz=>c (decide_eq_true z);rcases rr with⟨e,_⟩|⟨tn,b,hk,ob⟩;·exact absurd e rk
    obtain⟨kv,u,pU,vu,J3⟩:=(ht.same g5).get hk;refine⟨_,rfl,_,rfl,_,rfl,_,rfl,td,_,rfl,jd pU vu,by show 3<=sizeLine;omega,λp H6 np g6 kr=>⟨_,rfl,_,rfl,ti,kt,.inl r.z,rfl,g6 _ _ iQ,rfl,by omega,λH7 b7 e7=>?_⟩⟩;have tp:∀p us,H6 p=some (.tup us)->H7 p=some (.tup us):=λp us e=>b7 _ _ e (eg e (g6 _ _ iQ) (λz=>by cases z));refine⟨putK kt (.inl r.z) (.ref p),ks,_,_,_,_,λc o ec=>b7 _ _ (g6 _ _ (g5 _ _ ec)) (bE ec n1),e7,b7 _ _ (g6 _ _ hV) (λz=>Aa z.symm),?_,by omega,?_,rfl⟩
    ·have:=i0 kt (.inl r.z) (.ref p);omega
    ·rw[tk];refine((hX.same g6).eZ tp).nD nz ob (tp _ _ (by rw[kr,ob];rfl)) ?_;rw[si hk];exact tp _ _ (g6 _ _ J3)
  ·rintro σ H5 ⟨kt,ks,o9,bq,br,bt,g5,iQ,hV,lt,ls,hX,rfl⟩;rw[Ya,al,Wq] at hX;exact b5 _ _ ⟨kt,ks,o9,bq,br,bt,g5,iQ,hV,hX,rfl⟩
 rintro σ H5 ⟨kt,ks,o9,bq,br,bt,g5,iQ,hV,hX,rfl⟩;have A5:=g5 _ _ hp;refine gm (λσ H'=>∃(m:Str) (u:Int) (p9 hZ iR iS iU iV:Option V),aq H5 H'/\dZ xs ys R nm sec W=some (m,u)/\σ=nE fa td nm sec pa m u ti sd p9 hZ iR iS iU iV) (λgf b5=>?_) ?_
 ·refine⟨_,rfl,pa,_,_,_,rfl,rfl,au.of A5,rfl,wa,rfl,⟨_,ah.of (g5 _ _ d5)⟩,i5 (K:=K) (a:=wa) (xs:=ws.map V.ref) (λj σ H'=>∃(m:Str) (u:Int) (p9 hZ iR iS iU iV:Option V),aq H5 H'/\dZ xs ys R nm sec (W.take j)=some (m,u)/\(0<=u/\u<(xs.length:Int))/\σ=nE fa td nm sec pa m u ti sd p9 hZ iR iS iU iV)
   ⟨nm,sec,o9,bq,br,bt,none,none,aq.refl _,rfl,gv,rfl⟩ (λj σ H' _ ⟨_,_,_,_,_,_,_,_,g,_⟩=>ah.of (g _ _ (g5 _ _ d5))) ?_ ?_⟩
  ·rintro j v σ H6 hj ⟨m,u,p9,hZ,iR,iS,iU,iV,g6,wj,nB,rfl⟩;rw[Yd] at hj;obtain⟨a,ea,rfl⟩:∃a,ws[j]?=some a/\V.ref a=v:=by
    cases e:ws[j]? with
    |none=>rw[e] at hj;cases hj
    |some c=>rw[e] at hj;exact⟨c,rfl,Yf hj⟩
   obtain⟨st,es,cu⟩:=fC dI ea;have cX:=g5.trans g6;have h6:=cX _ _ cu;have lB:=au.of (K:=K) h6;refine aP ?_;refine⟨_,rfl,_,_,_,true,rfl,.tup h6,sD,_,rfl,bK ?_⟩;refine⟨_,rfl,a,_,rfl,.inr lB,rfl,_,rfl,aX (λc=>absurd c (by show ¬(!decide (V.int 2=V.int 2))=true;rw[decide_eq_true rfl];exact Yi)) (λ_=>?_)⟩;refine⟨_,rfl,a,_,_,_,rfl,rfl,lB,rfl,st.1,rfl,_,rfl,bK ?_⟩;refine⟨_,rfl,a,_,_,_,rfl,rfl,lB,rfl,st.2,rfl,_,rfl,bK (aR ?_)⟩;have fail:cP xs ys R m st=none->∀H',aq H H'->Q (.bl false) H':=λep H' g=>by
    have eb:iE xs ys R nm sec W e=false:=by unfold iE;rw[xv wj es ep]
    rw[eb] at q;exact q _ g
   have nF:=g6 _ _ iQ;by_cases nD:∃r b,bZ R st.1=some r/\r.o=.inr b
   ·obtain⟨r,b,er,ob⟩:=nD;obtain⟨p,tu,ev,nG,pV⟩:=hX.t1 _ _ _ er ob;have dg:∀{H':Hp},aq H6 H'->c7 H' ti (.int st.1) (some (.ref p)):=λg=>.inl ⟨kt,.inl st.1,.inl (g _ _ nF),rfl,ev.symm⟩;refine⟨_,rfl,a,_,_,_,rfl,rfl,lB,rfl,_,rfl,ti,_,rfl,dg (aq.refl _),_,rfl,bK ?_⟩;obtain⟨tn,lu,ku,lC⟩:∃tn,dR xs ys r.k=tn/\full tn=true/\tn.length=xs.length:=by
     rcases ro r (i6 er).1 with⟨_,i,oi⟩|⟨tn,b',hk,_⟩;·rw[oi] at ob;cases ob
     ·exact⟨tn,si hk,xu gd hk⟩
    refine⟨_,rfl,a,_,_,_,rfl,rfl,lB,rfl,_,rfl,by show 2<=sizeLine;omega,λtp H7 J4 g7 lD=>⟨tp,_,rfl,.inr (au.of lD),rfl,rfl,_,rfl,?_⟩⟩;show(if(!mX (.int st.2) [.int 1,.int (-1)])=true then _ else _);rw[A2];have d6:=cX.trans g7;by_cases ww:st.2=1\/st.2=-1
    ·rw[decide_eq_true ww];refine bK (aR ?_);have A6:=au.of (K:=K) (g7 _ _ h6);have J5:=g7 _ _ (g6 _ _ nG);have Ab:a8 H7 tu (dR xs ys r.k):=g7 _ _ (g6 _ _ pV);refine⟨_,rfl,_,rfl,a,_,_,_,rfl,rfl,A6,rfl,ti,_,rfl,dg g7,p,_,rfl,au.of J5,rfl,_,_,rfl,aP ⟨_,_,rfl,aP ⟨_,_,rfl,aP ⟨rfl,?_⟩⟩⟩⟩;dsimp only;refine fN (λσ H'=>∃(on ot:Str) (pW:Addr) (ns:List Int),aq H7 H'/\a8 H' pW ns/\((st.2=1/\on=r.a/\ot=b/\ns=dR xs ys r.k)\/(st.2=-1/\on=b/\ot=r.a/\ns=inv (dR xs ys r.k)))/\σ=nE fa td nm sec pa m u ti sd p9 hZ (some (.str on)) (some (.str ot)) (some (.ref a)) (some (.ref pW))) (λu7 fw=>?_) ?_
     ·refine⟨_,rfl,a,_,_,_,rfl,rfl,A6,rfl,_,rfl,rfl,_,rfl,aX (λc=>?_) (λc=>aR (fw _ _ ⟨r.a,b,tu,_,aq.refl _,Ab,.inl ⟨ww.resolve_right (λz=>c (decide_eq_true (congrArg V.int z))),rfl,rfl,rfl⟩,rfl⟩))⟩;have e1:st.2=-1:=V.int.inj (of_decide_eq_true c);exact⟨_,rfl,_,rfl,_,rfl,tu,_,rfl,Ab,by rw[lu,lC];have:=gd.2.2.2.2;omega,by rw[lu];exact ku,λt' H8 u9 g8 J6=>⟨_,_,_,rfl,fw _ _ ⟨b,r.a,t',_,g8,J6,.inr ⟨e1,rfl,rfl,rfl⟩,rfl⟩⟩⟩
     rintro σ H8 ⟨on,ot,pW,ns,g8,HU,cs,rfl⟩;have ji:=Gd (xs:=xs) (ys:=ys) (m:=m) er ob cs;have u_:=d6.trans g8;refine⟨_,rfl,_,rfl,rfl,_,rfl,?_⟩;rw[eu];by_cases om:on=m
     ·rw[decide_eq_true om];refine bK (aR ?_);rw[if_pos om] at ji;refine bf ⟨_,rfl,?_⟩;have fl:full ns=true/\ns.length=xs.length:=by
       rcases cs with⟨_,_,_,rfl⟩|⟨_,_,_,rfl⟩;·rw[lu];exact⟨ku,lC⟩
       ·rw[lu];exact⟨kM ku,by rw[d9];exact lC⟩
      obtain⟨lA,u0,u1⟩:=sO fl.1 fl.2 nB;refine⟨_,rfl,_,rfl,pW,_,_,_,rfl,rfl,au.of HU,lA,aP ⟨ot,_,_,_,_,_,_,_,(g6.trans g7).trans g8,?_,⟨u0,u1⟩,rfl⟩⟩;rw[rL wj es,ji]
     ·rw[decide_eq_false om];refine bN ?_;rw[if_neg om] at ji;exact fail ji _ u_
    ·rw[decide_eq_false ww];refine bN (fail ?_ _ d6);unfold cP;rw[er];dsimp only;rw[ob];dsimp only;rw[if_neg (λh=>ww (.inl h)),if_neg (λh=>ww (.inr h))]
   ·refine⟨_,rfl,a,_,_,_,rfl,rfl,lB,rfl,_,rfl,ti,none,rfl,.inl ⟨kt,.inl st.1,.inl nF,rfl,(hX.t0 _ (λr b h1 h2=>nD ⟨r,b,h1,h2⟩)).symm⟩,_,rfl,bN ?_⟩;refine fail ?_ _ cX;unfold cP;cases er:bZ R st.1 with
    |none=>rfl
    |some r=>
     dsimp only;cases eo:r.o with
     |inl i=>rfl
     |inr b=>exact absurd ⟨r,b,er,eo⟩ nD
  ·rintro σ H6 ⟨m,u,p9,hZ,iR,iS,iU,iV,g6,wj,nB,rfl⟩;rw[Ya,wl,Wq] at wj;exact b5 _ _ ⟨m,u,p9,hZ,iR,iS,iU,iV,g6,wj,rfl⟩
 rintro σ H6 ⟨m,u,p9,hZ,iR,iS,iU,iV,g6,wj,rfl⟩;have cX:=g5.trans g6;unfold iE at q;rw[wj] at q;have ky:=au.of (K:=K) (g6 _ _ A5);cases e with
 |none=>
  refine⟨_,rfl,pa,_,_,_,rfl,rfl,ky,rfl,rfl,_,rfl,aX (λ_=>⟨_,rfl,_,rfl,rfl,_,rfl,?_⟩) (λc=>absurd (decide_eq_true rfl) c)⟩;rw[eu];dsimp only at q;refine aX (λc=>⟨_,rfl,_,rfl,rfl,?_⟩) (λc=>?_)
  ·rw[c,Wx] at q;rw[z_];exact q _ cX
  ·rw[eq_false_of_ne_true c,Wh] at q;exact q _ cX
 |some z=>
  refine⟨_,rfl,pa,_,_,_,rfl,rfl,ky,rfl,rfl,_,rfl,aX (λc=>absurd (of_decide_eq_true c) (λh=>by cases h)) (λ_=>aR ?_)⟩;dsimp only at q;have nF:=g6 _ _ hV;refine⟨_,rfl,pa,_,_,_,rfl,rfl,ky,rfl,z,rfl,_,rfl,bN ?_⟩;by_cases mJ:∃r i,bZ R z=some r/\r.o=.inl i
  ·obtain⟨r,i,er,oi⟩:=mJ;obtain⟨p,ev,nG⟩:=hX.s1 _ _ _ er oi;have kr:=g6 _ _ nG;have dg:c7 H6 sd (.int z) (some (.ref p)):=.inl ⟨ks,.inl z,.inl nF,rfl,ev.symm⟩;have rk:r.k=ej:=by
    rcases ro r (i6 er).1 with⟨h,_⟩|⟨tn,b',_,ob⟩;·exact h
    ·rw[oi] at ob;cases ob
   rw[er] at q;dsimp only at q;rw[decide_eq_true rk,Wx] at q;refine⟨_,rfl,pa,_,_,_,rfl,rfl,ky,rfl,_,rfl,sd,_,rfl,dg,_,rfl,bN ⟨_,rfl,_,rfl,pa,_,_,_,rfl,rfl,ky,rfl,sd,_,rfl,dg,p,_,_,_,rfl,rfl,au.of kr,rfl,_,rfl,rfl,_,rfl,?_⟩⟩;rw[eu];refine aX (λc2=>?_) (λc2=>?_)
   ·rw[c2,Wx,oi] at q;refine⟨_,rfl,_,rfl,pa,_,_,_,rfl,rfl,ky,rfl,sd,_,rfl,dg,p,_,_,_,rfl,rfl,au.of kr,rfl,_,rfl,rfl,?_⟩;have e5:decide (V.int i=V.int u)=decide ((Sum.inl i:Key)=.inl u):=by
     rw[Y8,decide_eq_true_iff,decide_eq_true_iff];exact⟨λh=>congrArg Sum.inl (V.int.inj h),λh=>congrArg V.int (Wl h)⟩
    rw[e5];exact q _ cX
   ·rw[eq_false_of_ne_true c2,Wh] at q;exact q _ cX
  ·refine⟨_,rfl,pa,_,_,_,rfl,rfl,ky,rfl,_,rfl,sd,none,rfl,.inl ⟨ks,.inl z,.inl nF,rfl,(hX.s0 _ (λr i h1 h2=>mJ ⟨r,i,h1,h2⟩)).symm⟩,_,rfl,bK ?_⟩;cases er:bZ R z with
   |none=>
    rw[er] at q;exact q _ cX
   |some r=>
    rw[er] at q;dsimp only at q;have nk:¬r.k=ej:=λh=>by
     rcases ro r (i6 er).1 with⟨_,i,oi⟩|⟨tn,b',hk,_⟩;·exact mJ ⟨r,i,er,oi⟩
     ·rw[h] at hk;exact nQ hk
    rw[decide_eq_false nk,Wh] at q;exact q _ cX
end
inductive yc(vs:List V)(H:Hp)(Q:VK)(E:XK):Prop
 |mk (nl sd dr:Addr) (ps:eM) (xs ys:List Int) (d0 d1 d2 d3 d4:Int) (aE:vs=[.ref nl,.ref sd,.ref dr,.int (xs.length:Int)]) (hn:H nl=some (.lst (gc ps))) (hs:H sd=some (.dK (iO ps))) (nd:(ps.map (·.1)).Nodup) (p0:0<ps.length) (pm:ps.length<=100) (hd:H dr=some (.lst ([d0,d1,d2,d3,d4].map V.int))) (b4:0<=d4/\d4<4) (gd:eY xs ys) (q:∀(k a:Str) (o:Key),((k=ej/\∃i,o=.inl i)\/∃tn b,(k,tn)∈fQ xs ys/\o=.inr b)->∀(ff:Addr) (H':Hp),H ff=none->aq H H'->H' ff=some (.tup [.str k,.str a,kV o])->Q (.ref ff) H')
theorem E_{ds:List Int}{a:Int}(h:Paired Bd ds [a]):∃v,ds=[v]/\Bd v a:=by
 cases h with
 |cons r t=>cases t;exact⟨_,rfl,r⟩
inductive yZ(K:af)(vs:List V)(H:Hp)(Q:VK)(E:XK):Prop
 |mk (s1:Addr) (ms:List Int) (z:Nat) (aE:vs=[.ref s1,.int (z:Int)]) (hs:ah K H s1 (ms.map V.int)) (hz:z<97) (q:∀(t nl sd:Addr) (ps:eM) (H':Hp),aq H H'->H' t=some (.tup [.ref nl,.ref sd])->H' nl=some (.lst (gc ps))->H' sd=some (.dK (iO ps))->(ps.map (·.1)).Nodup->0<ps.length->ps.length<=13->Q (.ref t) H')
section
variable {K:af}{mg:aJ}
abbrev t6:List Str:=["_law_names","_law_sides","_law_drawn","_law_size"]
theorem lL:bc ["_law_names","_law_sides","_law_drawn","_law_size","_law_kind","_law_one","_law_want"] t6 (aM qW):=.bO
theorem CC(F:aS K "_law_fact" "_law_fact" qW f fd)(nT:HasFn P w K mg base 1 "_law_pick" tW yU)(bl:Bl mg):aL P w K mg base aU 2 f fd t6 yc:=by
 refine F.o lL λs H hr h=>?_;obtain⟨nl,sd,dr,ps,xs,ys,d0,d1,d2,d3,d4,rfl,hn,hs,nd,p0,pm,hd,b4,gd,q⟩:=h;refine⟨_,(ar (aQ 4 lL.nd (az (iL K) (cY (aa bU (aa bU (aa bU (aa bU ai))))) (az (iL K) (pv 2) ao))) (ar (aQ 5 lL.nd (az (iL K) (pv 0) (aA cj (az (iL K) (pv 2) ao) (cg K bl (pv 0))))) (ar (aV (aZ za (az (iL K) (pv 2) ao) ao) (ay (aK (cf (aa bU (aa (pv 5) (aa (aA cj (az (iL K) (pv 2) ao) (pv 3)) ai)))))) aY) (ar (aV (aZ bX (pv 4) bU) (ay (aQ 5 lL.nd (aI nT hr (aa (pv 0) (aa (pv 1) (aa (az (iL K) (pv 2) ao) (aa bU ai))))))) aY) (ar (aQ 6 lL.nd (az (iL K) (cY (aa bU (aa bU (aa bU (aa bU ai))))) (az (iL K) (pv 2) ao))) (ay (aK (cf (aa (pv 4) (aa (pv 5) (aa (aI nT hr (aa (pv 0) (aa (pv 1) (aa (az (iL K) (pv 2) ao) (aa (pv 6) ai))))) ai))))))))))),?_⟩;have sz:(10000:Nat)<=sizeLine:=by rw[sizeLine_eq];omega
 obtain⟨k,tn,wt,ek,hk,ew⟩:=Ed xs ys b4;have at_:∀z:Int,(z % (ps.length:Int)).toNat<ps.length:=λz=>by have:=sL (z:=z) p0;omega
 obtain⟨_,_,_,l2,l8⟩:=id gd;have HV:(0:Int)<(xs.length:Int):=by omega
 refine bf ?_;refine⟨by show 4<=sizeLine;omega,λkl H1 Mp g1 pO=>⟨_,rfl,dr,_,_,_,rfl,rfl,ah.of (g1 _ _ hd),rfl,kl,_,_,_,rfl,rfl,ah.of pO,ek,?_⟩⟩;refine bf ?_;have fw:=g1 _ _ hn;refine Vt.oy (K:=K) (i:=0) (z:=d1) rfl fw p0 (λkk hk=>⟨_,rfl,dr,_,_,_,rfl,rfl,ah.of (g1 _ _ hd),rfl,hk _ (aq.refl _)⟩) _ λH2 g2=>?_;have fu:=g1.trans g2;refine⟨_,rfl,dr,_,_,_,rfl,rfl,ah.of (fu _ _ hd),rfl,_,_,rfl,rfl,_,rfl,aX (λ_=>?_) (λ_=>aR ?_)⟩
 ·refine⟨_,rfl,_,rfl,dr,_,_,_,rfl,rfl,ah.of (fu _ _ hd),rfl,_,rfl,_,_,rfl,rfl,HV,by show 3<=sizeLine;omega,λff H3 pX g3 nH=>?_⟩;exact q ej _ (.inl (d3 % (xs.length:Int))) (.inl ⟨rfl,_,rfl⟩) ff H3 (fu.free pX) (fu.trans g3) nH
 refine fN (λσ H6=>aq H H6/\∃i:Nat,i<ps.length/\σ=[some (.ref nl),some (.ref sd),some (.ref dr),some (.int (xs.length:Int)),some (.str k),some (.str (iN ps i)),none]) (λu5 dF=>?_) ?_
 ·refine⟨_,rfl,rfl,_,rfl,aX (λ_=>?_) (λ_=>aR (dF _ _ ⟨fu,_,at_ _,rfl⟩))⟩;refine⟨_,rfl,_,rfl,_,rfl,dr,_,_,_,rfl,rfl,ah.of (fu _ _ hd),rfl,nl,sd,ps,d1,"man",rfl,fu _ _ hn,fu _ _ hs,nd,p0,pm,λi hi H3 g3=>aP (dF _ _ ⟨fu.trans g3,i,hi,rfl⟩)⟩
 rintro σ H6 ⟨g6,i,hi,rfl⟩;refine bf ?_;refine⟨by show 4<=sizeLine;omega,λwl H7 Mq g7 mY=>⟨_,rfl,dr,_,_,_,rfl,rfl,ah.of (g7 _ _ (g6 _ _ hd)),rfl,wl,_,_,_,rfl,rfl,ah.of mY,ew,?_⟩⟩;have d6:=g6.trans g7;refine⟨_,rfl,_,rfl,_,rfl,_,rfl,_,rfl,dr,_,_,_,rfl,rfl,ah.of (d6 _ _ hd),rfl,_,rfl,nl,sd,ps,d2,wt,rfl,d6 _ _ hn,d6 _ _ hs,nd,p0,pm,λj hj H8 g8=>⟨by show 3<=sizeLine;omega,λff H9 pX g9 nH=>?_⟩⟩;exact q k _ (.inr (iN ps j)) (.inr ⟨tn,_,hk,rfl⟩) ff H9 (d6.free (g8.free pX)) ((d6.trans g8).trans g9) nH
abbrev t7:List Str:=["_law_script","_law_salt"]
theorem nN:bc ["_law_script","_law_salt","_law_names","_law_sides","_law_k"] t7 (aM qX):=.bO
theorem Fb(F:aS K "_law_folk" "_law_folk" qX f fd)(d_:HasFn P w K mg base 1 "_law_cell" nq (sA K))(de:HasFn P w K mg base 1 "_law_draws" km (kO K))(q5:HasFn P w K mg base 1 "_law_name" tX yW)(bl:Bl mg):aL P w K mg base aU 2 f fd t7 (yZ K):=by
 refine F.o nN λs H hr h=>?_;obtain⟨s1,ms,z,rfl,hs,hz,q⟩:=h;refine⟨_,(ar (vV (i:=2) (x:="_law_k") (fr:=[("_law_salt",1)]) (cl:=[("_law_salt",s.heap.objs.size+1)]) rfl nN.nd rfl (Or.inl rfl) (.fo ⟨rfl,trivial⟩ ⟨⟨rfl,.inl rfl,.inl rfl,rfl⟩,trivial⟩) (fD rfl bl.dv (aa (aA cv ao (aA cj (aI d_ hr (aa (pv 0) (aa ao ai))) ao)) ai)) (λ_ _ _ _=>ik) (λ_ _ _ _=>(sW q5 hr (by omega) rfl (aa (pv 0) (aa (pv 1) ai))))) (ar (aQ 3 nN.nd rm) (ar (dy PassesOwn.never rfl (fD rfl bl.dv (aa (cg K bl (pv 2)) ai)) (bg 4 nN.nd) (ay (n4 (bY hr) (pv 3) (az (iL K) (pv 2) (pv 4)) (az (iL K) (cY (aa bU (aa bU ai))) (az (iL K) (aI de hr (aa (aA cv (aI d_ hr (aa (pv 0) (aa ao ai))) (pv 4)) (aa (cY (aa ao ai)) ai))) ao))))) (ay (aK (cf (aa (pv 2) (aa (pv 3) ai)))))))),?_⟩;have sz:(10000:Nat)<=sizeLine:=by rw[sizeLine_eq];omega
 have Mr:∀i,i<60->cC z i=cC z i:=λ_ _=>rfl;refine bf ?_;refine⟨_,rfl,s1,ms,4,rfl,hs,by decide,λc4=>⟨_,_,rfl,rfl,(by show(0:Int)<12;decide),_,_,rfl,rfl,?_⟩⟩;dsimp only;have m0:=Y0 c4 (show(12:Int)≠0 by decide);have m1:=Yv c4 (show(0:Int)<12 by decide);obtain⟨m,em⟩:∃m:Nat,2+c4 % 12=(m:Int):=⟨(2+c4 % 12).toNat,by omega⟩;rw[em];have Ms:m<=13:=by omega
 have mp:0<m:=by omega
 refine⟨(m:Int),rfl,by omega,by omega,λD hD=>lM (lo:=0) (n:=(m:Int).toNat) (λi zs H2=>aq H H2/\H2 D=some (.lst zs)/\zs=(List.range i).map λk=>V.str (cC z k)) ⟨bh hD _,aF,rfl⟩ ?_ ?_⟩
 ·rintro i zs H2 hi ⟨g2,h2,e2⟩;rw[Yq] at hi;rw[Wk];refine gu (bN ⟨_,rfl,_,rfl,i,z,rfl,by omega,hz,h2,by rw[e2,Ya,Wg];omega,λd o qd=>?_,aF,?_⟩)
  ·rw[aW (bE qd hD)];exact g2 d o qd
  ·rw[e2,Jo,Yp];rfl
 rintro zs H2 ⟨g2,h2,e2⟩;rw[Yq] at e2;subst e2;refine aP ?_;dsimp only;refine bf ?_;refine λsd H3 n3 g3 h3=>?_;have jx:=g2.trans g3;have J7:=g3 _ _ h2;have Mt:D≠sd:=λe=>by rw[←e,h2] at n3;cases n3
 have uZ:((List.range m).map λk=>V.str (cC z k)).length=m:=by rw[Ya,Wg]
 refine gm (λσ H'=>∃(ps:eM) (o4:Option V),aq H2 H'/\H' sd=some (.dK (iO ps))/\ps.map (·.1)=(List.range m).map (cC z)/\σ=[some (.ref s1),some (.int (z:Int)),some (.ref D),some (.ref sd),o4]) (λgf b5=>?_) ?_
 ·refine⟨_,rfl,D,_,rfl,.inl (ah.of J7),_,rfl,by omega,by omega,kJ (lo:=0) (n:=((((List.range m).map λk=>V.str (cC z k)).length:Nat):Int).toNat) (λj σ H'=>∃(ps:eM) (o4:Option V),aq H2 H'/\H' sd=some (.dK (iO ps))/\ps.map (·.1)=(List.range j).map (cC z)/\σ=[some (.ref s1),some (.int (z:Int)),some (.ref D),some (.ref sd),o4]) ⟨[],none,g3,h3,rfl,rfl⟩ ?_ ?_⟩
  ·rintro j σ H4 hj ⟨ps,o4,g4,nI,en,rfl⟩;rw[Yq,uZ] at hj;rw[Wk];have pl:ps.length=j:=by have:=congrArg List.length en;rwa [Ya,Ya,Wg] at this
   refine aP ?_;have nA:=g4 _ _ h2;refine⟨by show 2<=sizeLine;omega,λsl H5 Mu g5 J8=>?_⟩;have hV:ah K H5 s1 (ms.map V.int):=((g2.trans g4).trans g5).seq hs;refine⟨_,rfl,s1,ms,3,rfl,hV,by decide,λc3=>⟨_,rfl,_,_,rfl,rfl,by show 1<=sizeLine;omega,λpq H6 J9 g6 J_=>⟨_,pq,[2],rfl,ah.of J_,by decide,by decide,λdr ds H7 va g7 vb bd=>?_⟩⟩⟩;obtain⟨d0,rfl,b0⟩:=E_ bd;obtain⟨sx,es⟩:∃sx:Str,cJ [V.str "man",V.str "woman"] d0=some (.str sx):=by
    have:d0=0\/d0=1:=by unfold Bd at b0;omega
    rcases this with rfl|rfl;·exact⟨_,rfl⟩
    ·exact⟨_,rfl⟩
   have vc:=(g5.trans g6).trans g7;refine⟨dr,_,_,.int d0,rfl,rfl,ah.of vb,rfl,sl,_,_,.str sx,rfl,rfl,ah.of (g7 _ _ (g6 _ _ J8)),es,?_⟩;refine⟨_,rfl,_,rfl,_,rfl,D,_,_,.str (cC z j),rfl,rfl,ah.of (vc _ _ nA),fJ (by rw[Yd,Jb hj];rfl),sd,_,.inr (cC z j),rfl,vc _ _ nI,rfl,by rw[Ya];omega,λH8 b8 e8=>?_⟩;have vn:bD (iO ps) (.inr (cC z j))=none:=Cb λhm=>by
    obtain⟨p,hp,e⟩:=We.mp hm;obtain⟨p',nG,rfl⟩:=We.mp hp;have mm:p'.1∈ps.map (·.1):=We.mpr ⟨p',nG,rfl⟩;rw[en] at mm;obtain⟨i,hi,ei⟩:=We.mp mm;have hi:=Y6.mp hi;have:=wR (by omega) (by omega) (ei.trans (Jd e));omega
   rw[DX _ vn] at e8;refine⟨ps++[(cC z j,sx)],_,λc o ec=>b8 _ _ (vc _ _ (g4 _ _ ec)) (bE ec n3),?_,?_,rfl⟩
   ·rw[e8];show _=some (HO.dK ((ps++[(cC z j,sx)]).map _));rw[Yp];rfl
   ·rw[Yp,en,Jo,Yp];rfl
  ·rintro σ H4 ⟨ps,o4,g4,nI,en,rfl⟩;rw[Yq,uZ] at en;exact b5 _ _ ⟨ps,o4,g4,nI,en,rfl⟩
 rintro σ H4 ⟨ps,o4,g4,nI,en,rfl⟩;have pl:ps.length=m:=by have:=congrArg List.length en;rwa [Ya,Ya,Wg] at this
 refine⟨_,rfl,_,rfl,by show 2<=sizeLine;omega,λt H5 nt g5 ht=>q t D sd ps H5 ((g2.trans g4).trans g5) ht ?_ (g5 _ _ nI) ?_ (by omega) (by omega)⟩
 ·rw[g5 _ _ (g4 _ _ h2)];have e:gc ps=(ps.map (·.1)).map V.str:=by unfold gc;rw[List.map_map];rfl
  rw[e,en,List.map_map];rfl
 ·rw[en,List.nodup_iff_pairwise_ne,List.pairwise_map];refine List.Pairwise.imp_of_mem (λ{a b} ha hb lt e=>?_) (List.pairwise_lt_range (n:=m));have ha:=Y6.mp ha;have hb:=Y6.mp hb;have:=wR (by omega) (by omega) e;omega
end
def big:Int:=10^40
inductive yd(K:af)(vs:List V)(H:Hp)(Q:VK)(E:XK):Prop
 |mk (ca nl sd:Addr) (ps:eM) (xs ys cs:List Int) (pl:Int) (aE:vs=[.ref ca,.ref nl,.ref sd,.int (xs.length:Int),.int pl]) (hc:H ca=some (.lst (cs.map V.int))) (hn:H nl=some (.lst (gc ps))) (hs:H sd=some (.dK (iO ps))) (nd:(ps.map (·.1)).Nodup) (p0:0<ps.length) (pm:ps.length<=100) (gd:eY xs ys) (lc:cs.length<=63) (q:∀(fl:Addr) (R:List Rw) (H':Hp),aq H H'->RL H' fl R->(∀r∈R,j3 xs ys r)->(R.map (·.z)).Nodup->R.length<=64->Q (.ref fl) H')
section
variable {K:af}{mg:aJ}
abbrev t8:List Str:=["_law_cells","_law_names","_law_sides","_law_size","_law_place"]
theorem i3:bc ["_law_cells","_law_names","_law_sides","_law_size","_law_place","_law_facts","_law_cell_here","_law_drawn","_law_fact_here","_law_number_here"] t8 (aM qY):=.bO
theorem Eh(F:aS K "_law_rows" "_law_rows" qY f fd)(de:HasFn P w K mg base 1 "_law_draws" km (kO K))(q_:HasFn P w K mg base 2 "_law_fact" t6 yc)(bl:Bl mg):aL P w K mg base aU 3 f fd t8 (yd K):=by
 refine F.o i3 λs H hr h=>?_;obtain⟨ca,nl,sd,ps,xs,ys,cs,pl,rfl,hc,hn,hs,nd,p0,pm,gd,lc,q⟩:=h;refine⟨_,(ar (aQ 5 i3.nd (cY ai)) (ar (dy PassesOwn.never rfl (gj (K:=K) rfl (pv 0)) (bg 6 i3.nd) (ar (aQ 7 i3.nd (aI de hr (aa (pv 6) (aa (cY (aa ao (aa ao (aa ao (aa ao (aa ao ai)))))) ai)))) (ar (aQ 8 i3.nd (aI q_ hr (aa (pv 1) (aa (pv 2) (aa (pv 7) (aa (pv 3) ai)))))) (ar (aQ 9 i3.nd (aA cv (aA dP ao (cg K bl (pv 5))) (aA cj (az (iL K) (pv 7) ao) ao))) (ar (aV (aZ Gv (cg K bl (pv 5)) (pv 4)) (ay (aQ 9 i3.nd (aA cv (pv 9) (aA oE ao ao)))) aY) (ay (aQ 5 i3.nd (aA lU (pv 5) (cY (aa (aA Ez (cf (aa (pv 9) ai)) (pv 8)) ai)))))))))) (ay (aK (pv 5))))),?_⟩;have sz:(10000:Nat)<=sizeLine:=by rw[sizeLine_eq];omega
 refine bf ?_;refine⟨by show 0<=sizeLine;omega,λf0 H1 n1 g1 h1=>?_⟩;refine gm (λσ H'=>∃(fl:Addr) (R:List Rw) (o6 o7 o8 o9:Option V),aq H H'/\RL H' fl R/\R.length<=64/\(∀r∈R,j3 xs ys r)/\(R.map (·.z)).Nodup/\σ=[some (.ref ca),some (.ref nl),some (.ref sd),some (.int (xs.length:Int)),some (.int pl),some (.ref fl),o6,o7,o8,o9]) (λgf b5=>?_) ?_
 ·refine⟨_,rfl,ca,rfl,⟨_,ah.of (g1 _ _ hc)⟩,i5 (K:=K) (a:=ca) (xs:=cs.map V.int) (λj σ H'=>∃(fl:Addr) (R:List Rw) (o6 o7 o8 o9:Option V),aq H H'/\RL H' fl R/\R.length=j/\(∀r∈R,j3 xs ys r)/\(R.map (·.z)).Pairwise (·<·)/\(∀r∈R,r.z<3*(j:Int)+if pl<(j:Int) then big else 0)/\σ=[some (.ref ca),some (.ref nl),some (.ref sd),some (.int (xs.length:Int)),some (.int pl),some (.ref fl),o6,o7,o8,o9])
   ⟨f0,[],none,none,none,none,g1,⟨[],h1,.nil⟩,rfl,λ_ h=>(nomatch h),List.Pairwise.nil,λ_ h=>(nomatch h),rfl⟩ (λj σ H' _ ⟨_,_,_,_,_,_,g,_⟩=>ah.of (g _ _ hc)) ?_ ?_⟩
  ·rintro j v σ H2 hj ⟨fl,R,o6,o7,o8,o9,g2,⟨as,pY,dt⟩,rl,ro,pw,bd,rfl⟩;obtain⟨x,rfl,hx⟩:=lT hj;have jl:j<cs.length:=(Yh.mp hx).1;have al:=di dt;refine aP ?_;refine bf ?_;refine⟨_,rfl,by show 5<=sizeLine;omega,λpp H3 np g3 hp=>⟨x,pp,[16,61,59,8,4],rfl,ah.of hp,by decide,by decide,λdr ds H4 Mv g4 h4 Ka=>?_⟩⟩;obtain⟨d0,d1,d2,d3,d4,rfl,_,_,_,_,b4⟩:=EZ Ka;have dH:=(g2.trans g3).trans g4;refine bf ?_;refine⟨_,rfl,_,rfl,_,rfl,_,rfl,nl,sd,dr,ps,xs,ys,d0,d1,d2,d3,d4,rfl,dH _ _ hn,dH _ _ hs,nd,p0,pm,h4,b4,gd,λk a o ko ff H5 pX g5 nH=>?_⟩;have t9:=g5 _ _ (g4 _ _ (g3 _ _ pY));refine bf ?_;have aj:(as.map V.ref).length=j:=by rw[Ya];omega
   refine⟨_,rfl,fl,_,rfl,.inl (ah.of t9),_,_,rfl,rfl,.inl ⟨by decide,by decide⟩,_,rfl,dr,_,_,_,rfl,rfl,ah.of (g5 _ _ h4),rfl,_,_,rfl,rfl,(by show(0:Int)<3;decide),_,_,rfl,rfl,?_⟩;dsimp only;rw[aj];have r0:=Y0 d3 (show(3:Int)≠0 by decide);have r1:=Yv d3 (show(0:Int)<3 by decide);have pb:big=10^(40:Int).toNat:=rfl;have bp:(0:Int)<big:=by decide
   refine fN (λσ H'=>aq H5 H'/\σ=[some (.ref ca),some (.ref nl),some (.ref sd),some (.int (xs.length:Int)),some (.int pl),some (.ref fl),some (.int x),some (.ref dr),some (.ref ff),some (.int (3*(j:Int)+d3 % 3+if pl<=(j:Int) then big else 0))]) (λu7 fw=>?_) ?_
   ·refine⟨_,rfl,fl,_,rfl,.inl (ah.of t9),_,rfl,_,_,rfl,rfl,_,rfl,?_⟩;rw[aj];refine aX (λc=>?_) (λc=>aR (fw _ _ ⟨aq.refl _,?_⟩))
    ·have c':pl<=(j:Int):=of_decide_eq_true c;refine⟨_,rfl,_,_,rfl,rfl,⟨by decide,by decide,by decide⟩,_,_,rfl,rfl,aP (fw _ _ ⟨aq.refl _,?_⟩)⟩;rw[if_pos c',pb];rfl
    ·rw[if_neg (λz=>c (decide_eq_true z)),Int.add_zero];rfl
   rintro σ H6 ⟨g6,rfl⟩;obtain⟨zn,ez⟩:∃zn,zn=3*(j:Int)+d3 % 3+if pl<=(j:Int) then big else 0:=⟨_,rfl⟩;rw[←ez];refine⟨_,rfl,_,rfl,by show 1<=sizeLine;omega,λt1 H7 Kb g7 jy=>⟨_,rfl,t1,ff,_,_,rfl,rfl,au.of jy,au.of (g7 _ _ (g6 _ _ nH)),by simp,by show 1+3<=sizeLine;omega,λe=>(by cases e),λ_ t2 A7=>?_⟩⟩;obtain⟨H8,e8⟩:∃H8,H8=upd H7 t2 (.tup ([V.int zn]++[V.str k,V.str a,kV o])):=⟨_,rfl⟩;have g8:aq H7 H8:=by rw[e8];exact bh A7 _
   have nC:mI H8 t2 ⟨zn,k,a,o⟩:=by
    show H8 t2=_;rw[e8,aF];rfl
   rw[←e8];have gb:=(g6.trans g7).trans g8;refine⟨by show 1<=sizeLine;omega,λl1 H9 pZ g9 h_=>⟨fl,l1,_,_,rfl,rfl,g9 _ _ (gb _ _ t9),h_,by rw[aj];show _+1<=_;omega,λKc HA L0 gA HW=>aP ⟨Kc,R++[⟨zn,k,a,o⟩],_,_,_,_,((dH.trans g5).trans gb).trans (g9.trans gA),⟨as++[t2],?_,?_⟩,?_,?_,?_,?_,rfl⟩⟩⟩
   ·rw[HW,Yp];rfl
   ·have Kd:=(((g3.trans g4).trans g5).trans gb).trans (g9.trans gA);exact L2.kD (L2.Paired.cD dt λ_ _ e=>Kd _ _ e) (gA _ _ (g9 _ _ nC))
   ·rw[Ym,rl];rfl
   ·intro r mr;rcases Wj.mp mr with h|h;·exact ro r h
    ·rw[Yr.mp h];exact ko
   ·rw[Yp];refine List.pairwise_append.mpr ⟨pw,by simp,λu hu v hv=>?_⟩;obtain⟨r,cT,rfl⟩:=We.mp hu;have ev:v=zn:=by simpa using hv
    have:=bd r cT;rw[ev,ez];by_cases c1:pl<(j:Int)
    ·rw[if_pos c1] at this;rw[if_pos (by omega)];omega
    ·rw[if_neg c1] at this;by_cases c2:pl<=(j:Int);·rw[if_pos c2];omega
     ·rw[if_neg c2];omega
   ·intro r mr;rcases Wj.mp mr with h|h
    ·have:=bd r h;by_cases c1:pl<(j:Int)
     ·rw[if_pos c1] at this;rw[if_pos (by omega)];omega
     ·rw[if_neg c1] at this;by_cases c2:pl<((j+1:Nat):Int);·rw[if_pos c2];omega
      ·rw[if_neg c2];omega
    ·rw[Yr.mp h];show zn<_;rw[ez];by_cases c2:pl<=(j:Int);·rw[if_pos c2,if_pos (by omega)];omega
     ·rw[if_neg c2,if_neg (by omega)];omega
  ·rintro σ H2 ⟨fl,R,o6,o7,o8,o9,g2,vd,rl,ro,pw,bd,rfl⟩;rw[Ya] at rl;exact b5 _ _ ⟨fl,R,o6,o7,o8,o9,g2,vd,by omega,ro,by rw[List.nodup_iff_pairwise_ne];exact pw.imp λh=>by omega,rfl⟩
 rintro σ H2 ⟨fl,R,o6,o7,o8,o9,g2,vd,rl,ro,nz,rfl⟩;exact⟨_,rfl,q fl R H2 g2 vd ro nz rl⟩
end
theorem C6{α β:Type}{F:α->β->Prop}{x:α}{y:β}(f:F x y){as:List α}{bs:List β}(h:Paired F as bs):∀k:Nat,Paired F (as.set k x) (bs.set k y):=by
 induction h with
 |nil=>intro k;exact .nil
 |cons e r ih=>
  intro k;cases k with
  |zero=>exact .cons f r
  |succ k=>exact .cons e (ih k)
theorem C7{α β:Type}{F:α->β->Prop}{as:List α}{bs:List β}(h:Paired F as bs):∀k:Nat,Paired F (as.eraseIdx k) (bs.eraseIdx k):=by
 induction h with
 |nil=>intro k;exact .nil
 |cons e r ih=>
  intro k;cases k with
  |zero=>exact r
  |succ k=>exact .cons e (ih k)
theorem Fc(as:List Addr):∀k:Nat,(as.map V.ref).eraseIdx k=(as.eraseIdx k).map V.ref:=by
 induction as with
 |nil=>intro k;rfl
 |cons a as ih=>
  intro k;cases k with
  |zero=>rfl
  |succ k=>exact congrArg (V.ref a::·) (ih k)
theorem WL.put{H H' H2:Hp}{wa t:Addr}{W:List (Int×Int)}{s:Int×Int}{as:List Addr}{k:Nat}(hw:H wa=some (.lst (as.map V.ref)))(pw:Paired (fb H) as W)(g:aq H H')(ht:fb H' t s)(b:cV wa H' H2)(e:H2 wa=some (.lst ((as.map V.ref).set k (.ref t)))):WL H2 wa (W.set k s):=by
 have tp:∀{p:Addr} {us:List V},H' p=some (.tup us)->H2 p=some (.tup us):=λ{p us} h=>b _ _ h (eg h (g _ _ hw) (λz=>by cases z));exact⟨as.set k t,by rw[e,List.map_set],C6 (F:=fb H2) (tp ht) (L2.Paired.cD (F:=fb H) pw λ_ _ e=>tp (g _ _ e)) k⟩
inductive xx(vs:List V)(H:Hp)(Q:VK)(E:XK):Prop
 |mk (pa wa:Addr) (cell:Int) (W:List (Int×Int)) (e:Option Int) (aE:vs=[.ref pa,.int cell]) (hp:H pa=some (.tup [.ref wa,c8 e])) (hw:WL H wa W) (wn:W.length<=300) (q:∀(t A8:Addr) (W':List (Int×Int)) (e':Option Int) (H':Hp),aq H H'->H' t=some (.tup [.ref A8,c8 e'])->WL H' A8 W'->W'.length<=W.length+2->Q (.ref t) H')
def nJ(H:Hp)(pa dr:Addr)(cell:Int)(ds:List Int)(N:Nat)(σ:St)(H':Hp):Prop:=∃(w:Addr) (W':List (Int×Int)) (e':Option Int) (o5:Option V),aq H H'/\H w=none/\w≠dr/\H' dr=some (.lst (ds.map V.int))/\WL H' w W'/\W'.length<=N/\σ=[some (.ref pa),some (.int cell),some (.ref w),some (c8 e'),some (.ref dr),o5]
section
variable {K:af}{mg:aJ}
abbrev t_:List Str:=["_law_paper","_law_cell_here"]
theorem iZ:bc ["_law_paper","_law_cell_here","_law_walk","_law_end","_law_drawn","_law_at"] t_ (aM qA):=.bO
theorem DG(F:aS K "_law_spoilt" "_law_spoilt" qA f fd)(de:HasFn P w K mg base 1 "_law_draws" km (kO K))(bl:Bl mg):aL P w K mg base aU 2 f fd t_ xx:=by
 refine F.o iZ λs H hr h=>?_;obtain⟨pa,wa,cell,W,e,rfl,hp,hw,wn,q⟩:=h;have hu:=hr.lY;refine⟨_,(ar (aQ 2 iZ.nd (cz (lI (K:=K) rfl) rfl bl.gq gn (aa (az (iT K) (pv 0) ao) ai))) (ar (aQ 3 iZ.nd (az (iT K) (pv 0) ao)) (ar (aQ 4 iZ.nd (aI de hr (aa (pv 1) (aa (cY (aa ao (aa ao (aa ao (aa ao ai))))) ai)))) (ar (rX (pv 4) ao rp (aA cv (az (iL K) (pv 4) ao) (aA dP (aA oE ao ao) (az (iL K) (pv 4) ao)))) (ar (aV (aZ bX (az (iL K) (pv 4) ao) ao) (ay (aQ 3 iZ.nd jH)) aY) (ar (aV (aZ bX (az (iL K) (pv 4) ao) ao) (ay (aQ 3 iZ.nd (az (iL K) (pv 4) ao))) aY) (ar (aV (aZ (EN (K:=K) rfl (F2 hu)) (pv 2) (cY ai)) (ar (aQ 5 iZ.nd (aA cj (az (iL K) (pv 4) ao) (cg K bl (pv 2)))) (ar (aV (aZ bX (az (iL K) (pv 4) ao) ao) (ay (gk (yH (K:=K) rfl (mj plainAttrs_list slot_list_pop type_list_pop Ds (pv 2) (aa (pv 5) ai))))) aY) (ar (aV (aZ bX (az (iL K) (pv 4) ao) ao) (ay (rX (pv 2) (pv 5) rp (cf (aa (az (iT K) (az (iL K) (pv 2) (pv 5)) ao) (aa (aA lV ao (az (iT K) (az (iL K) (pv 2) (pv 5)) ao)) ai))))) aY) (ay (aV (aZ bX (az (iL K) (pv 4) ao) ao) (ay (rX (pv 2) (pv 5) rp (cf (aa (az (iL K) (pv 4) ao) (aa (aA dP (az (iT K) (az (iL K) (pv 2) (pv 5)) ao) (aA cv ao (aA cj (az (iL K) (pv 4) ao) ao))) ai))))) aY))))) aY) (ar (aV (aZ bX (az (iL K) (pv 4) ao) ao) (ay (aQ 2 iZ.nd (aA lU (pv 2) (cY (aa (cf (aa (az (iL K) (pv 4) ao) (aa ao ai))) (aa (cf (aa (az (iL K) (pv 4) ao) (aa (kZ kU ao) ai))) ai)))))) aY) (ay (aK (cf (aa (pv 2) (aa (pv 3) ai))))))))))))),?_⟩;have sz:(10000:Nat)<=sizeLine:=by rw[sizeLine_eq];omega
 obtain⟨as,d5,pw⟩:=hw;have al:=di pw;refine bf ?_;refine⟨_,rfl,pa,_,_,_,rfl,rfl,au.of hp,rfl,wa,_,rfl,.inl (ah.of d5),λw1 H1 n1 g1 h1=>?_⟩;refine bf ?_;refine⟨_,rfl,pa,_,_,_,rfl,rfl,au.of (g1 _ _ hp),rfl,?_⟩;refine bf ?_;refine⟨_,rfl,by show 4<=sizeLine;omega,λpp H2 np g2 jr=>⟨cell,pp,[7,61,190,2],rfl,ah.of jr,by decide,by decide,λdr ds H3 nd g3 h3 bd=>?_⟩⟩;obtain⟨d0,d1,d2,d3,rfl,b0,b1,b2,b3⟩:=EY bd;have hE:=g2.trans g3;have va:H dr=none:=g1.free (g2.free nd);have p_:w1≠dr:=λz=>by rw[←z,g2 _ _ h1] at nd;cases nd
 have A9:=ah.of (K:=K) h3;unfold Bd at b0 b1 b3;refine⟨_,rfl,dr,_,_,_,rfl,rfl,A9,rfl,_,_,rfl,rfl,⟨by decide,by decide,by decide⟩,_,rfl,dr,_,_,_,rfl,rfl,A9,rfl,_,_,rfl,rfl,.inr ⟨by omega,by omega⟩,_,_,rfl,rfl,_,rfl,dr,_,_,2,rfl,rfl,h3,rfl,λH4 b4 e4=>?_⟩;dsimp only;obtain⟨dz,Ke⟩:∃dz,dz=d2+10^(40:Int).toNat*d3:=⟨_,rfl⟩;have h4:H4 dr=some (.lst ([d0,d1,dz,d3].map V.int)):=by rw[e4,Ke];rfl
 have g4:aq H H4:=λc o ec=>b4 _ _ (hE _ _ (g1 _ _ ec)) (bE ec va);have w4:WL H4 w1 W:=⟨as,b4 _ _ (hE _ _ h1) p_,L2.Paired.cD pw λ_ _ e=>g4 _ _ e⟩;refine fN (nJ H pa dr cell [d0,d1,dz,d3] W.length) (λgf b5=>?_) ?_;·refine⟨_,rfl,dr,_,_,_,rfl,rfl,ah.of h4,rfl,rfl,_,rfl,aX (λ_=>aP (b5 _ _ ⟨w1,W,none,_,g4,n1,p_,h4,w4,Yc _,rfl⟩)) (λ_=>aR (b5 _ _ ⟨w1,W,e,_,g4,n1,p_,h4,w4,Yc _,rfl⟩))⟩
 clear w4 h4 g4 p_ n1 h1;rintro σ H5 ⟨w1,W1,e1,o5,g5,n5,eQ,h5,w5,l5,rfl⟩;refine fN (nJ H pa dr cell [d0,d1,dz,d3] W.length) (λgf b5=>?_) ?_;·refine⟨_,rfl,dr,_,_,_,rfl,rfl,ah.of h5,rfl,rfl,_,rfl,aX (λ_=>⟨_,rfl,dr,_,_,_,rfl,rfl,ah.of h5,rfl,aP (b5 _ _ ⟨w1,W1,some dz,_,g5,n5,eQ,h5,w5,l5,rfl⟩)⟩) (λ_=>aR (b5 _ _ ⟨w1,W1,e1,_,g5,n5,eQ,h5,w5,l5,rfl⟩))⟩
 clear w5 h5 g5 eQ n5 l5;rintro σ H5 ⟨w1,W1,e1,o5,g5,n5,eQ,h5,w5,l5,rfl⟩;refine fN (nJ H pa dr cell [d0,d1,dz,d3] W.length) (λgf b5=>?_) ?_
 ·obtain⟨dJ,jz,lE⟩:=id w5;have Kg:=di lE;refine⟨_,rfl,by show 0<=sizeLine;omega,λe0 H6 Mw g6 Kh=>⟨w1,e0,_,rfl,rfl,ah.of (g6 _ _ jz),ah.of Kh,_,rfl,aX (λce=>?_) (λ_=>aR (b5 _ _ ⟨w1,W1,e1,_,g5.trans g6,n5,eQ,g6 _ _ h5,w5.same g6,l5,rfl⟩))⟩⟩;have a0:0<dJ.length:=by
   cases e:dJ with
   |nil=>rw[e] at ce;cases ce
   |cons _ _=>exact Nat.succ_pos _
  have h6:=g6 _ _ h5;have iW:=g6 _ _ jz;refine bf ?_;refine⟨_,rfl,dr,_,_,_,rfl,rfl,ah.of h6,rfl,_,rfl,w1,_,rfl,.inl (ah.of iW),_,_,rfl,rfl,by rw[Ya];omega,?_⟩;rw[Ya];dsimp only;have k0:=Y0 d1 (show(dJ.length:Int)≠0 by omega);have k1:=Yv d1 (show(0:Int)<(dJ.length:Int) by omega);obtain⟨k,ek⟩:∃k:Nat,d1 % (dJ.length:Int)=(k:Int):=⟨(d1 % (dJ.length:Int)).toNat,by omega⟩;rw[ek];have kl:k<dJ.length:=by omega
  obtain⟨ak,ve⟩:∃ak,dJ[k]?=some ak:=⟨_,Ye kl⟩;obtain⟨sk,Ki,Kj⟩:=fC lE ve;have Ac:=g6 _ _ Kj;have A_:cJ (dJ.map V.ref) (k:Int)=some (.ref ak):=fJ (by rw[Yd,ve];rfl);have Ba:eF (dJ.map V.ref).length (k:Int)=some k:=by rw[sv (by omega) (by rw[Ya];omega)];rfl
  have vf:Paired (fb H6) dJ W1:=L2.Paired.cD lE λ_ _ e=>g6 _ _ e;have cX:=g5.trans g6;refine fN (λσ H'=>(d0=3/\nJ H pa dr cell [d0,d1,dz,d3] W.length σ H')\/(d0≠3/\H'=H6/\σ=[some (.ref pa),some (.int cell),some (.ref w1),some (c8 e1),some (.ref dr),some (.int (k:Int))])) (λu7 fw=>?_) ?_
  ·refine⟨_,rfl,dr,_,_,_,rfl,rfl,ah.of h6,rfl,rfl,_,rfl,aX (λc=>?_) (λc=>aR (fw _ _ (.inr ⟨λz=>c (decide_eq_true (congrArg V.int z)),rfl,rfl⟩)))⟩;have e3:d0=3:=V.int.inj (of_decide_eq_true c);refine⟨_,rfl,.inl ⟨rfl,_,ah.of iW⟩,_,rfl,w1,_,(k:Int),k,_,rfl,rfl,iW,by omega,by omega,(oo Ba).1,by rw[Yd,ve];rfl,λH7 b7 e7=>fw _ _ (.inl ⟨e3,w1,W1.eraseIdx k,e1,_,λc o ec=>b7 _ _ (cX _ _ ec) (bE ec n5),n5,eQ,b7 _ _ h6 (λz=>eQ z.symm),⟨dJ.eraseIdx k,by rw[e7,Fc],C7 (L2.Paired.cD vf λ_ _ e=>b7 _ _ e (eg e iW (λz=>by cases z))) k⟩,Yx (List.length_eraseIdx_le _ _) l5,rfl⟩)⟩
  rintro σ H7 (⟨e3,vg,vh,iK,vi,g7,n7,qa,h7,w7,l7,rfl⟩|⟨n3,rfl,rfl⟩)
  ·refine fN (nJ H pa dr cell [d0,d1,dz,d3] W.length) (λu5 dF=>?_) ?_;·exact⟨_,rfl,dr,_,_,_,rfl,rfl,ah.of h7,rfl,rfl,_,rfl,aX (λc=>absurd (V.int.inj (of_decide_eq_true c)) (by omega)) (λ_=>aR (dF _ _ ⟨vg,vh,iK,vi,g7,n7,qa,h7,w7,l7,rfl⟩))⟩
   clear w7 h7 g7 qa n7 l7;rintro σ H7 ⟨vg,vh,iK,vi,g7,n7,qa,h7,w7,l7,rfl⟩;exact⟨_,rfl,dr,_,_,_,rfl,rfl,ah.of h7,rfl,rfl,_,rfl,aX (λc=>absurd (V.int.inj (of_decide_eq_true c)) (by omega)) (λ_=>aR (b5 _ _ ⟨vg,vh,iK,vi,g7,n7,qa,h7,w7,l7,rfl⟩))⟩
  ·refine fN (λσ H'=>∃s:Int×Int,aq H H'/\H' dr=some (.lst ([d0,d1,dz,d3].map V.int))/\(∃ia:List Addr,H' w1=some (.lst (ia.map V.ref))/\Paired (fb H') ia (W1.set k s))/\σ=[some (.ref pa),some (.int cell),some (.ref w1),some (c8 e1),some (.ref dr),some (.int (k:Int))]) (λu5 dF=>?_) ?_
   ·refine⟨_,rfl,dr,_,_,_,rfl,rfl,ah.of h6,rfl,rfl,_,rfl,aX (λc=>?_) (λc=>aR (dF _ _ ⟨sk,cX,h6,⟨dJ,iW,?_⟩,rfl⟩))⟩
    ·refine⟨_,rfl,_,rfl,w1,_,_,_,rfl,rfl,ah.of iW,A_,ak,_,_,_,rfl,rfl,au.of Ac,rfl,_,rfl,_,rfl,w1,_,_,_,rfl,rfl,ah.of iW,A_,ak,_,_,_,rfl,rfl,au.of Ac,rfl,_,_,rfl,rfl,by show 2<=sizeLine;omega,λt H8 nt g8 ht=>⟨_,rfl,_,rfl,w1,_,(k:Int),k,rfl,rfl,g8 _ _ iW,Ba,λH9 b9 e9=>?_⟩⟩;obtain⟨ia,a1,a2⟩:=WL.put (s:=(sk.1,0-sk.2)) iW vf g8 ht b9 e9;exact dF _ _ ⟨(sk.1,0-sk.2),λc o ec=>b9 _ _ (g8 _ _ (cX _ _ ec)) (bE ec n5),b9 _ _ (g8 _ _ h6) (λz=>eQ z.symm),⟨ia,a1,a2⟩,rfl⟩
    ·rw[show W1.set k sk=W1 from by
      refine Y7 λi=>?_;by_cases h:k=i;·subst h;rw[Wy (by omega),Ki]
      ·rw[W7 h]]
     exact vf
   rintro σ H8 ⟨s8,g8,h8,⟨ia,qb,qc⟩,rfl⟩;have Kk:=di qc;rw[W9] at Kk;have Kl:k<ia.length:=by omega
   obtain⟨a2,Bb⟩:∃a2,ia[k]?=some a2:=⟨_,Ye Kl⟩;obtain⟨s2,Mx,fi⟩:=fC qc Bb;have at2:cJ (ia.map V.ref) (k:Int)=some (.ref a2):=fJ (by rw[Yd,Bb];rfl);have Km:eF (ia.map V.ref).length (k:Int)=some k:=by rw[sv (by omega) (by rw[Ya];omega)];rfl
   have l8:(W1.set k s8).length<=W.length:=by rw[W9];exact l5
   refine⟨_,rfl,dr,_,_,_,rfl,rfl,ah.of h8,rfl,rfl,_,rfl,aX (λc=>?_) (λc=>aR (b5 _ _ ⟨w1,_,e1,_,g8,n5,eQ,h8,⟨ia,qb,qc⟩,l8,rfl⟩))⟩;refine⟨_,rfl,dr,_,_,_,rfl,rfl,ah.of h8,rfl,_,rfl,_,rfl,w1,_,_,_,rfl,rfl,ah.of qb,at2,a2,_,_,_,rfl,rfl,au.of fi,rfl,_,rfl,dr,_,_,_,rfl,rfl,ah.of h8,rfl,_,_,rfl,rfl,(by show(0:Int)<2;decide),_,_,rfl,rfl,_,_,rfl,rfl,.inr ⟨by omega,by omega⟩,by show 2<=sizeLine;omega,λt H9 nt g9 ht=>⟨_,rfl,_,rfl,w1,_,(k:Int),k,rfl,rfl,g9 _ _ qb,Km,λHA bA eA=>b5 _ _ ⟨w1,_,e1,_,λc o ec=>bA _ _ (g9 _ _ (g8 _ _ ec)) (bE ec n5),n5,eQ,bA _ _ (g9 _ _ h8) (λz=>eQ z.symm),WL.put (s:=(dz,s2.2*(1+d1 % 2))) qb qc g9 ht bA eA,by rw[W9];exact l8,rfl⟩⟩⟩
 clear w5 h5 g5 eQ n5 l5;rintro σ H5 ⟨w1,W1,e1,o5,g5,n5,eQ,h5,w5,l5,rfl⟩;refine fN (λσ H'=>∃(w2:Addr) (W2:List (Int×Int)) (e2:Option Int) (o5:Option V),aq H H'/\WL H' w2 W2/\W2.length<=W.length+2/\σ=[some (.ref pa),some (.int cell),some (.ref w2),some (c8 e2),some (.ref dr),o5]) (λgf b5=>?_) ?_
 ·refine⟨_,rfl,dr,_,_,_,rfl,rfl,ah.of h5,rfl,rfl,_,rfl,aX (λc=>?_) (λc=>aR (b5 _ _ ⟨w1,W1,e1,_,g5,w5,by omega,rfl⟩))⟩;obtain⟨dJ,jz,lE⟩:=id w5;have Kg:=di lE;refine⟨_,rfl,_,rfl,dr,_,_,_,rfl,rfl,ah.of h5,rfl,by show 2<=sizeLine;omega,λt1 H6 Kb g6 jy=>⟨_,rfl,dr,_,_,_,rfl,rfl,ah.of (g6 _ _ h5),rfl,_,rfl,by show 2<=sizeLine;omega,λt2 H7 A7 g7 nC=>⟨by show 2<=sizeLine;omega,λl1 H8 pZ g8 h_=>⟨w1,l1,_,_,rfl,rfl,g8 _ _ (g7 _ _ (g6 _ _ jz)),h_,by rw[Ya];show _+2<=_;omega,λw2 H9 Kn g9 vj=>aP (b5 _ _ ⟨w2,W1++[(dz,1),(dz,-1)],e1,_,(((g5.trans g6).trans g7).trans g8).trans g9,⟨dJ++[t1,t2],?_,?_⟩,?_,rfl⟩)⟩⟩⟩⟩
  ·rw[vj,Yp];rfl
  ·have fq:=((g6.trans g7).trans g8).trans g9;have p1:=L2.kD (L2.Paired.cD lE λ_ _ e=>fq _ _ e) (show fb H9 t1 (dz,1) from g9 _ _ (g8 _ _ (g7 _ _ jy)));have p2:=L2.kD p1 (show fb H9 t2 (dz,-1) from g9 _ _ (g8 _ _ nC));rw[Jh,Jh] at p2;exact p2
  ·rw[Ym];show _+2<=_;omega
 rintro σ H6 ⟨w2,W2,e2,o6,g6,w6,l6,rfl⟩;exact⟨_,rfl,_,rfl,by show 2<=sizeLine;omega,λt H7 nt g7 ht=>q t w2 W2 e2 H7 (g6.trans g7) ht (w6.same g7) l6⟩
end
def cp(a b:Addr)(H H':Hp):Prop:=∀c o,H c=some o->c≠a->c≠b->H' c=some o
theorem cp.refl(a b:Addr)(H:Hp):cp a b H H:=λ_ _ e _ _=>e
theorem cp.trans{a b:Addr}{H H1 H2:Hp}(x:cp a b H H1)(y:cp a b H1 H2):cp a b H H2:=λc o e h1 h2=>y _ _ (x _ _ e h1 h2) h1 h2
theorem cp.same{a b:Addr}{H H1 H2:Hp}(x:cp a b H H1)(y:aq H1 H2):cp a b H H2:=λc o e h1 h2=>y _ _ (x _ _ e h1 h2)
theorem cp.of{a b:Addr}{H H1:Hp}(y:aq H H1):cp a b H H1:=λ_ _ e _ _=>y _ _ e
structure c9(n:Nat)(U:List Str)(wk aO:Addr)(ae:List (Key×V))(ks:List Str)(H:Hp):Prop where
 hk:H wk=some (.dK ae)
 hr:H aO=some (.lst (ks.map V.str))
 nd:ks.Nodup
 sub:∀s∈ks,s∈U
 yes:∀s∈ks,∃t w u W,bD ae (.inr s)=some (.ref t)/\H t=some (.tup [.ref w,.int u])/\w≠aO/\WL H w W/\W.length<ks.length/\(0<=u/\u<(n:Int))
 no:∀s,s∉ks->bD ae (.inr s)=none
 kl:ae.length<=ks.length
section
variable {n:Nat}{U:List Str}{wk aO:Addr}{ae:List (Key×V)}{ks:List Str}{H H':Hp}
theorem WL.ua{w:Addr}{W:List (Int×Int)}(h:WL H w W)(nw:w≠aO)(hk:H wk=some (.dK ae))(hr:H aO=some (.lst (ks.map V.str)))(b:cp wk aO H H'):WL H' w W:=by
 obtain⟨as,h1,h2⟩:=h;refine⟨as,b _ _ h1 (eg h1 hk (λz=>by cases z)) nw,L2.Paired.cD h2 λp s e=>?_⟩;exact b _ _ e (eg e hk (λz=>by cases z)) (eg e hr (λz=>by cases z))
theorem c9.same(g:aq H H')(f:c9 n U wk aO ae ks H):c9 n U wk aO ae ks H':=
 ⟨g _ _ f.hk,g _ _ f.hr,f.nd,f.sub,λs m=>let⟨t,w,u,W,a1,a2,a3,a4,a5,a6⟩:=f.yes s m;⟨t,w,u,W,a1,g _ _ a2,a3,a4.same g,a5,a6⟩,f.no,f.kl⟩
theorem c9.len(f:c9 n U wk aO ae ks H):ks.length<=U.length:=f.nd.length_le_of_subset λs m=>f.sub s m
theorem c9.tup(f:c9 n U wk aO ae ks H)(b:cp wk aO H H'){p:Addr}{us:List V}(e:H p=some (.tup us)):H' p=some (.tup us):=b _ _ e (eg e f.hk (λz=>by cases z)) (eg e f.hr (λz=>by cases z))
theorem c9.add(f:c9 n U wk aO ae ks H){s:Str}{t w:Addr}{u:Int}{W:List (Int×Int)}(ns:s∉ks)(su:s∈U)(ht:H t=some (.tup [.ref w,.int u]))(nw:w≠aO)(hw:WL H w W)(wl:W.length<=ks.length)(ui:0<=u/\u<(n:Int))(b:cp wk aO H H')(hk:H' wk=some (.dK (putK ae (.inr s) (.ref t))))(hr:H' aO=some (.lst ((ks++[s]).map V.str))):c9 n U wk aO (putK ae (.inr s) (.ref t)) (ks++[s]) H':=by
 refine⟨hk,hr,?_,?_,?_,?_,?_⟩
 ·refine Ji.mpr ⟨f.nd,by simp,λx hx y hy e=>?_⟩;rw[Yr] at hy;rw[e,hy] at hx;exact ns hx
 ·intro x hx;rcases Wj.mp hx with h|h;·exact f.sub x h
  ·rw[Yr.mp h];exact su
 ·intro x hx;rw[gi,Ym];by_cases e:x=s
  ·subst e;exact⟨t,w,u,W,if_pos rfl,f.tup b ht,nw,hw.ua nw f.hk f.hr b,Nat.lt_succ_of_le wl,ui⟩
  ·rcases Wj.mp hx with h|h
   ·obtain⟨t',w',u',W',a1,a2,a3,a4,a5,a6⟩:=f.yes x h;refine⟨t',w',u',W',?_,f.tup b a2,a3,a4.ua a3 f.hk f.hr b,Wz a5,a6⟩;rw[if_neg (λz=>e (Jd z))];exact a1
   ·exact absurd (Yr.mp h) e
 ·intro x hx;rw[gi,if_neg (λz=>hx (Yg _ (by rw[Jd z];exact Yr.mpr rfl)))];exact f.no x λm=>hx (Wn _ m)
 ·rw[Ym];exact Yx (i0 _ _ _) (Nat.succ_le_succ f.kl)
end
theorem Fd{H:Hp}{D:Addr}{us:List V}{is:List Nat}(h:Paired (λ(y:V) (_:Nat)=>∃a s,y=.ref a/\a≠D/\fb H a s) us is):∃(bs:List Addr) (W:List (Int×Int)),us=bs.map V.ref/\Paired (fb H) bs W/\W.length=is.length:=by
 induction h with
 |nil=>exact⟨[],[],rfl,.nil,rfl⟩
 |cons e _ ih=>
  obtain⟨a,s,rfl,_,e3⟩:=e;obtain⟨bs,W,rfl,h2,h3⟩:=ih;exact⟨a::bs,s::W,rfl,.cons e3 h2,by rw[Y2,Y2,h3]⟩
theorem C8{α β:Type}{F:α->β->Prop}{as cs:List α}{bs ds:List β}(h:Paired F as bs)(h2:Paired F cs ds):Paired F (as++cs) (bs++ds):=by
 induction h with
 |nil=>exact h2
 |cons e _ ih=>exact .cons e ih
def mK(nm:Str)(R:List Rw):List Str:=nm::R.flatMap λr=>[r.a,match r.o with|.inl _=>""|.inr b=>b]
theorem Ei(nm:Str)(R:List Rw):(mK nm R).length=2*R.length+1:=by
 unfold mK;rw[Y2]
 congr 1
 induction R with
 |nil=>rfl
 |cons r R ih=>
  rw[List.flatMap_cons,Ym,ih,Y2 (a:=r)];show 2+_=_;omega
theorem Ge{nm:Str}{R:List Rw}{r:Rw}(h:r∈R):r.a∈mK nm R:=Y1 _ (List.mem_flatMap.mpr ⟨r,h,Yy⟩)
theorem Gf{nm b:Str}{R:List Rw}{r:Rw}(h:r∈R)(e:r.o=.inr b):b∈mK nm R:=Y1 _ (List.mem_flatMap.mpr ⟨r,h,Y1 _ (by rw[e];exact Yy)⟩)
def Ko(m:Nat):St->Hp->Nat:=λσ _=>match List.getD (α:=Option V) σ 6 none with|some (V.int z)=>m+1-z.toNat|_=>0
inductive ye(vs:List V)(H:Hp)(Q:VK)(E:XK):Prop
 |mk (fa td:Addr) (xs ys:List Int) (R:List Rw) (nm:Str) (sec:Int) (aE:vs=[.ref fa,.ref td,.str nm,.int sec]) (ht:jw H td xs ys) (gd:eY xs ys) (rl:RL H fa R) (ro:∀r∈R,j3 xs ys r) (rn:R.length<=64) (hs:0<=sec/\sec<(xs.length:Int)) (q:∀(t wa:Addr) (W:List (Int×Int)) (e:Option Int) (H':Hp),aq H H'->H' t=some (.tup [.ref wa,c8 e])->WL H' wa W->W.length<=290->Q (.ref t) H')
def kz(fa td:Addr)(nm:Str)(sec:Int)(wk aO:Addr)(r:Nat)(o7 o8 o9 bq br bt bu bT b_ bH bJ:Option V):St:=[some (.ref fa),some (.ref td),some (.str nm),some (.int sec),some (.ref wk),some (.ref aO),some (.int (r:Int)),o7,o8,o9,bq,br,bt,bu,bT,b_,bH,bJ]
section
variable {K:af}{mg:aJ}
abbrev ub:List Str:=["_law_facts","_law_turns_here","_law_name_here","_law_section"]
theorem da:bc ["_law_facts","_law_turns_here","_law_name_here","_law_section","_law_walks","_law_row_here","_law_at","_law_walk","_law_now","_law_number_here","_law_kind","_law_one","_law_other","_law_this","_law_that","_law_turn_here","_law_way","_law_home"] ub (aM qJ):=.bO
theorem Ej(F:aS K "_law_found" "_law_found" qJ f fd)(gg:HasFn P w K mg base 1 "_law_inverse" k9 oO)(bl:Bl mg):aL P w K mg base aU 2 f fd ub ye:=by
 refine F.o da λs H hr h=>?_;obtain⟨fa,td,xs,ys,R,nm,sec,rfl,ht,gd,rl,ro,rn,gv,q⟩:=h;have hu:=hr.lY;refine⟨_,(ar (aQ 4 da.nd (rZ (eT (pv 2) (cf (aa (cY ai) (aa (pv 3) ai))) rY) rfl rfl (λz=>nomatch z) (W4 rfl))) (ar (aQ 5 da.nd (cY (aa (pv 2) ai))) (ar (aQ 6 da.nd ao) (ar (DL PassesOwn.never (aZ oJ (pv 6) (cg K bl (pv 5))) (ar (ja (cU (bY hr) (pv 4) (az (iL K) (pv 5) (pv 6)) (λ_ _=>rfl)) (fK (K:=K) (n:=2) rfl rfl (bL (bg 7 da.nd) (bL (bg 8 da.nd) fH)))) (ar (dy PassesOwn.never rfl (gj (K:=K) rfl (pv 0)) (fK (K:=K) (n:=4) rfl rfl (bL (bg 9 da.nd) (bL (bg 10 da.nd) (bL (bg 11 da.nd) (bL (bg 12 da.nd) fH))))) (ar (aV (aZ bX (pv 10) bU) (ar (aV (PW.pt (pw_and (aZ bX (pv 11) (az (iL K) (pv 5) (pv 6))) (pw_and1 (aZ dA (pv 8) (pv 12))))) (ay (aK (cf (aa (cz (lI (K:=K) rfl) rfl bl.gq gn (aa (pv 7) ai)) (aa (pv 9) ai))))) aY) (ay Ci)) aY) (ay (dy PassesOwn.never rfl (gj (K:=K) rfl (cY (aa (cf (aa (pv 11) (aa (pv 12) (aa (cU (bY hr) (pv 1) (pv 10) (λ_ _=>rfl)) (aa ao ai))))) (aa (cf (aa (pv 12) (aa (pv 11) (aa (aI gg hr (aa (cU (bY hr) (pv 1) (pv 10) (λ_ _=>rfl)) ai)) (aa (kZ kU ao) ai))))) ai)))) (fK (K:=K) (n:=4) rfl rfl (bL (bg 13 da.nd) (bL (bg 14 da.nd) (bL (bg 15 da.nd) (bL (bg 16 da.nd) fH))))) (ay (aV (PW.pt (pw_and (aZ bX (pv 13) (az (iL K) (pv 5) (pv 6))) (pw_and1 (oA (nU (bY hr) (pv 14) (pv 4)) (by with_unfolding_all rfl))))) (ar (n4 (bY hr) (pv 4) (pv 14) (cf (aa (aA lU (pv 7) (cY (aa (cf (aa (pv 9) (aa (pv 16) ai))) ai))) (aa (az (iT K) (pv 15) (pv 8)) ai)))) (ay (gk (yH (K:=K) rfl (mj plainAttrs_list PySem.F.slot_list_append PySem.F.type_list_append CV (pv 5) (aa (pv 14) ai)))))) (ay (aV (PW.pt (pw_and (aZ bX (pv 13) (az (iL K) (pv 5) (pv 6))) (pw_and1 (aZ dA (az (iT K) (cU (bY hr) (pv 4) (pv 14) (λ_ _=>rfl)) ao) (az (iT K) (pv 15) (pv 8)))))) (ar (vV (i:=17) (x:="_law_step") (fr:=[]) (cl:=[]) rfl da.nd rfl (Or.inl rfl) (.fo trivial trivial) (gj (K:=K) rfl (EO (K:=K) rfl (az (iT K) (cU (bY hr) (pv 4) (pv 14) (λ_ _=>rfl)) ao) (kZ kU ao))) (λ_ _ _ _=>ik) (λ_ _ _ _=>(cf (aa (az (iT K) (pv 0) ao) (aa (aA lV ao (az (iT K) (pv 0) ao)) ai))))) (ay (aK (cf (aa (aA lU (aA lU (pv 7) (cY (aa (cf (aa (pv 9) (aa (pv 16) ai))) ai))) (pv 17)) (aa jH ai)))))) aY)))))))) (ay (Fq (i:=6) da.nd rfl (Or.inl rfl) ao Fs))))) (ay (aK (cf (aa (cz (lI (K:=K) rfl) rfl bl.gq gn (aa (az (iT K) (cU (bY hr) (pv 4) (az (iL K) (pv 5) (kZ kU ao)) (λ_ _=>rfl)) ao) ai)) (aa jH ai))))))))),?_⟩;have sz:(10000:Nat)<=sizeLine:=by rw[sizeLine_eq];omega
 obtain⟨as,ft,dt⟩:=rl;have al:=di dt;obtain⟨U,eU⟩:∃U,U=mK nm R:=⟨_,rfl⟩;have ul:U.length<=129:=by rw[eU,Ei];omega
 refine bf ?_;refine λwk vk=>?_;obtain⟨H0,e0⟩:∃H0,H0=upd H wk (.dK ([]:List (Key×V))):=⟨_,rfl⟩;have g0:aq H H0:=by rw[e0];exact bh vk _
 have m4:H0 wk=some (.dK ([]:List (Key×V))):=by rw[e0];exact aF
 rw[←e0];refine⟨_,rfl,by show 0<=sizeLine;omega,λl0 H1 n1 g1 Bc=>⟨_,rfl,by show 2<=sizeLine;omega,λt0 H2 My g2 Be=>⟨g2 _ _ (g1 _ _ m4),[(.inr nm,.ref t0)],rfl,by show 1<=15;omega,?_⟩⟩⟩;obtain⟨H3,e3⟩:∃H3,H3=upd H2 wk (.dK (jc [] [(.inr nm,V.ref t0)])):=⟨_,rfl⟩;have Bf:H3 wk=some (.dK (putK [] (.inr nm) (.ref t0))):=by rw[e3,aF];rfl
 have b3:∀c o,H2 c=some o->c≠wk->H3 c=some o:=λc o e h=>by rw[e3,aW h];exact e
 rw[←e3];have jx:aq H H3:=λc o e=>b3 _ _ (g2 _ _ (g1 _ _ (g0 _ _ e))) (bE e vk);refine bf ?_;refine⟨_,rfl,by show 1<=sizeLine;omega,λaO H4 qe g4 Kp=>?_⟩;have HX:=jx.free qe;have Ad:wk≠aO:=λz=>by rw[←z,Bf] at qe;cases qe
 refine setC ?_;have sm:∀{H':Hp},cp wk aO H4 H'->aq H H':=λb c o e=>b _ _ (g4 _ _ (jx _ _ e)) (bE e vk) (bE e HX);have vm:H3 l0=some (.lst []):=b3 _ _ (g2 _ _ Bc) (eg (g2 _ _ Bc) (g2 _ _ (g1 _ _ m4)) (λz=>by cases z));have f4:c9 xs.length U wk aO (putK [] (.inr nm) (.ref t0)) [nm] H4:=by
  refine⟨g4 _ _ Bf,Kp,by simp,λs m=>?_,λs m=>?_,λs m=>?_,Yc _⟩;·rw[Yr.mp m,eU];exact Yy
  ·rw[Yr.mp m];exact⟨t0,l0,sec,[],(gi [] _ _ _).trans (if_pos rfl),g4 _ _ (b3 _ _ Be (eg Be (g2 _ _ (g1 _ _ m4)) (λz=>by cases z))),(λz=>by rw[z,qe] at vm;cases vm),⟨[],g4 _ _ vm,.nil⟩,Nat.succ_pos _,gv⟩
  ·exact(gi [] _ _ _).trans (if_neg (λz=>m (Yr.mpr (Jd z))))
 refine gm (λσ H'=>∃(ae:List (Key×V)) (ks:List Str) (r:Nat) (o7 o8 o9 bq br bt bu bT b_ bH bJ:Option V),cp wk aO H4 H'/\c9 xs.length U wk aO ae ks H'/\nm∈ks/\σ=kz fa td nm sec wk aO r o7 o8 o9 bq br bt bu bT b_ bH bJ) (λgf b5=>?_) ?_
 ·refine DN (λσ H'=>∃(ae:List (Key×V)) (ks:List Str) (r:Nat) (o7 o8 o9 bq br bt bu bT b_ bH bJ:Option V),cp wk aO H4 H'/\c9 xs.length U wk aO ae ks H'/\nm∈ks/\σ=kz fa td nm sec wk aO r o7 o8 o9 bq br bt bu bT b_ bH bJ) (Ko U.length) ⟨_,[nm],0,none,none,none,none,none,none,none,none,none,none,none,cp.refl _ _ _,f4,Yy,rfl⟩ ?_ ?_
  ·rintro σ H6 ⟨ae,ks,r,o7,o8,o9,bq,br,bt,bu,bT,b_,bH,bJ,b6,f6,mn,rfl⟩;have kl:(ks.map V.str).length=ks.length:=Ya _;have fl:=f6.len;refine⟨_,rfl,_,rfl,aO,_,rfl,.inl (ah.of f6.hr),_,_,rfl,rfl,_,rfl,?_⟩;rw[kl];refine aX (λc=>?_) (λc=>b5 _ _ ⟨ae,ks,r,_,_,_,_,_,_,_,_,_,_,_,b6,f6,mn,rfl⟩);have Bg:r<ks.length:=by have:=of_decide_eq_true c;omega
   obtain⟨cur,ek⟩:∃k,ks[r]?=some k:=⟨_,Ye Bg⟩;obtain⟨t1,w0,u0,W0,v1,jy,Bh,c_,d8,Bi⟩:=f6.yes cur (Ys ek);refine⟨_,rfl,_,rfl,_,rfl,aO,_,_,_,rfl,rfl,ah.of f6.hr,fJ (by rw[Yd,ek];rfl),wk,_,rfl,jd f6.hk v1,t1,_,rfl,au.of jy,rfl,_,_,rfl,aP ⟨_,_,rfl,aP ⟨rfl,?_⟩⟩⟩;dsimp only;refine gm (λσ H'=>∃(ae:List (Key×V)) (ks:List Str) (o9 bq br bt bu bT b_ bH bJ:Option V),cp wk aO H4 H'/\c9 xs.length U wk aO ae ks H'/\nm∈ks/\r<ks.length/\σ=kz fa td nm sec wk aO r (some (.ref w0)) (some (.int u0)) o9 bq br bt bu bT b_ bH bJ) (λu7 fw=>?_) ?_
   ·refine⟨_,rfl,fa,rfl,⟨_,ah.of (sm b6 _ _ ft)⟩,i5 (K:=K) (a:=fa) (xs:=as.map V.ref) (λj σ H'=>∃(ae:List (Key×V)) (ks:List Str) (o9 bq br bt bu bT b_ bH bJ:Option V),cp wk aO H4 H'/\c9 xs.length U wk aO ae ks H'/\nm∈ks/\ks[r]?=some cur/\WL H' w0 W0/\W0.length<ks.length/\σ=kz fa td nm sec wk aO r (some (.ref w0)) (some (.int u0)) o9 bq br bt bu bT b_ bH bJ)
     ⟨ae,ks,o9,bq,br,bt,bu,bT,b_,bH,bJ,b6,f6,mn,ek,c_,d8,rfl⟩ (λj σ H' _ ⟨_,_,_,_,_,_,_,_,_,_,_,b,_⟩=>ah.of (sm b _ _ ft)) ?_ ?_⟩
    ·clear f6 mn ek c_ d8 v1 jy b6 kl fl Bg c;rintro j v σ H6 hj ⟨ae,ks,o9,bq,br,bt,bu,bT,b_,bH,bJ,b6,f6,mn,ek,c_,d8,rfl⟩;rw[Yd] at hj;obtain⟨a,ea,rfl⟩:∃a,as[j]?=some a/\V.ref a=v:=by
      cases e:as[j]? with
      |none=>rw[e] at hj;cases hj
      |some c=>rw[e] at hj;exact⟨c,rfl,Yf hj⟩
     obtain⟨rr,er,Kq⟩:=fC dt ea;have mr:rr∈R:=Ys er;have s6:=sm b6;have Kr:=s6 _ _ Kq;have fl:=f6.len;have lF:cJ (ks.map V.str) (r:Int)=some (.str cur):=fJ (by rw[Yd,ek];rfl);refine⟨a,_,rfl,au.of Kr,rfl,_,_,rfl,aP ⟨_,_,rfl,aP ⟨_,_,rfl,aP ⟨_,_,rfl,aP ⟨rfl,?_⟩⟩⟩⟩⟩;dsimp only;rcases ro rr mr with⟨rk,i,oi⟩|⟨tn,bb,hk,ob⟩
     ·refine⟨_,rfl,rfl,_,rfl,aX (λ_=>?_) (λc=>absurd (by rw[eu,rk];exact decide_eq_true rfl) c)⟩;rw[oi];have fin:∃(ae:List (Key×V)) (ks:List Str) (z9 Ks Ku Kv Kw Kx Ky Kz KA:Option V),cp wk aO H4 H6/\c9 xs.length U wk aO ae ks H6/\nm∈ks/\ks[r]?=some cur/\WL H6 w0 W0/\W0.length<ks.length/\kz fa td nm sec wk aO r (some (.ref w0)) (some (.int u0)) (some (.int rr.z)) (some (.str rr.k)) (some (.str rr.a)) (some (kV (.inl i))) bu bT b_ bH bJ=kz fa td nm sec wk aO r (some (.ref w0)) (some (.int u0)) z9 Ks Ku Kv Kw Kx Ky Kz KA:=⟨ae,ks,_,_,_,_,_,_,_,_,_,b6,f6,mn,ek,c_,d8,rfl⟩;refine⟨_,rfl,_,rfl,_,rfl,aO,_,_,_,rfl,rfl,ah.of f6.hr,lF,rfl,_,rfl,aX (λ_=>⟨_,rfl,_,rfl,rfl,_,rfl,aX (λ_=>?_) (λ_=>aR fin)⟩) (λ_=>bK (aR fin))⟩;obtain⟨ws,iX,dI⟩:=id c_;exact⟨_,rfl,w0,_,rfl,.inl (ah.of iX),λlw H7 KC g7 vo=>⟨_,rfl,by show 2<=sizeLine;omega,λt H8 nt g8 ht=>q t lw W0 (some rr.z) H8 ((s6.trans g7).trans g8) ht ⟨ws,g8 _ _ vo,L2.Paired.cD dI λ_ _ e=>g8 _ _ (g7 _ _ e)⟩ (by omega)⟩⟩
     ·have nk:rr.k≠ej:=λz=>by rw[z] at hk;exact nQ hk
      refine⟨_,rfl,rfl,_,rfl,aX (λc=>absurd (of_decide_eq_true (by rw[eu] at c;exact c)) nk) (λ_=>aR ?_)⟩;rw[ob];obtain⟨ku,lC⟩:=xu gd hk;have n8:=gd.2.2.2.2;obtain⟨kv,tu,pU,vu,pV⟩:=(ht.same s6).get hk;refine⟨_,rfl,_,rfl,_,rfl,_,rfl,td,_,rfl,jd pU vu,by show 4<=sizeLine;omega,λp1 H7 Mz g7 AE=>⟨_,rfl,_,rfl,_,rfl,_,rfl,td,_,rfl,jd (g7 _ _ pU) vu,tu,tn,rfl,g7 _ _ pV,by omega,ku,λiv H8 MA g8 KD=>⟨_,rfl,by show 4<=sizeLine;omega,λp2 H9 MB g9 jr=>⟨by show 2<=sizeLine;omega,λl2 HA vp gA fk=>⟨l2,rfl,⟨_,ah.of fk⟩,?_⟩⟩⟩⟩⟩;have Bj:=(g7.trans g8).trans g9;have nK:=Bj.trans gA;have HY:l2≠aO:=λz=>by rw[z,Bj _ _ f6.hr] at vp;cases vp
      have item:∀(j2:Nat) (v:V),[V.ref p1,V.ref p2][j2]?=some v->∃(tp:Addr) (th tt:Str) (uu:Addr) (wy:Int) (ns:List Int),v=.ref tp/\HA tp=some (.tup [.str th,.str tt,.ref uu,.int wy])/\a8 HA uu ns/\full ns=true/\ns.length=xs.length/\tt∈U:=λj2 v h=>by
       match j2,h with
       |0,h=>exact⟨p1,rr.a,bb,tu,1,tn,(Yf h).symm,gA _ _ (g9 _ _ (g8 _ _ AE)),nK _ _ pV,ku,lC,by rw[eU];exact Gf mr ob⟩
       |1,h=>exact⟨p2,bb,rr.a,iv,-1,inv tn,(Yf h).symm,gA _ _ jr,gA _ _ (g9 _ _ KD),kM ku,by rw[d9];exact lC,by rw[eU];exact Ge mr⟩
      have fA:=f6.same nK;refine i5 (K:=K) (a:=l2) (xs:=[V.ref p1,V.ref p2]) (λ_ σ H'=>∃(ae:List (Key×V)) (ks:List Str) (bu bT b_ bH bJ:Option V),cp wk aO HA H'/\c9 xs.length U wk aO ae ks H'/\nm∈ks/\ks[r]?=some cur/\WL H' w0 W0/\W0.length<ks.length/\σ=kz fa td nm sec wk aO r (some (.ref w0)) (some (.int u0)) (some (.int rr.z)) (some (.str rr.k)) (some (.str rr.a)) (some (.str bb)) bu bT b_ bH bJ)
       ⟨ae,ks,bu,bT,b_,bH,bJ,cp.refl _ _ _,fA,mn,ek,c_.same nK,d8,rfl⟩ (λj σ H' _ ⟨_,_,_,_,_,_,_,b,_⟩=>ah.of (b _ _ fk (eg fk fA.hk (λz=>by cases z)) HY)) ?_ ?_
      ·clear f6 mn ek c_ d8 fl lF;rintro j2 v σ HB KG ⟨ae,ks,KH,uF,KI,uH,KJ,bB,fB,mn,ek,c_,d8,rfl⟩;obtain⟨tp,th,tt,uu,wy,ns,rfl,lD,KL,fns,KN,tU⟩:=item j2 v KG;have HZ:=fA.tup bB lD;have Ae:a8 HB uu ns:=fA.tup bB KL;have fl:=fB.len;have lF:cJ (ks.map V.str) (r:Int)=some (.str cur):=fJ (by rw[Yd,ek];rfl);obtain⟨lA,KO,KP⟩:=sO fns KN Bi;obtain⟨ws,iX,dI⟩:=id c_;have MC:=di dI;refine⟨tp,_,rfl,au.of HZ,rfl,_,_,rfl,aP ⟨_,_,rfl,aP ⟨_,_,rfl,aP ⟨_,_,rfl,aP ⟨rfl,?_⟩⟩⟩⟩⟩;dsimp only;refine⟨_,rfl,_,rfl,_,rfl,aO,_,_,_,rfl,rfl,ah.of fB.hr,lF,rfl,_,rfl,?_⟩;rw[eu];by_cases c1:th=cur
       ·rw[decide_eq_true c1];refine bN ?_;by_cases c2:tt∈ks
        ·obtain⟨t',w',u',W',v',qf,MD,KQ,ME,MF⟩:=fB.yes tt c2;have dg:∀{H':Hp},aq HB H'->c7 H' wk (.str tt) (some (.ref t')):=λg=>jd (g _ _ fB.hk) v';refine⟨_,rfl,_,rfl,wk,_,rfl,dg (aq.refl _),_,rfl,bK ?_⟩;refine⟨_,rfl,_,rfl,_,rfl,aO,_,_,_,rfl,rfl,ah.of fB.hr,lF,rfl,_,rfl,?_⟩;rw[eu,decide_eq_true c1];refine bN ?_;refine⟨_,rfl,_,rfl,wk,_,rfl,dg (aq.refl _),t',_,_,_,rfl,rfl,au.of qf,rfl,_,rfl,_,rfl,uu,_,_,_,rfl,rfl,au.of Ae,lA,rfl,_,rfl,aX (λ_=>?_) (λ_=>aR ⟨ae,ks,_,_,_,_,_,bB,fB,mn,ek,c_,d8,rfl⟩)⟩;obtain⟨lG,H_,Af⟩:=id KQ;have L1:=di Af;refine bf ?_;refine⟨_,rfl,_,rfl,wk,_,rfl,dg (aq.refl _),t',_,_,_,rfl,rfl,au.of qf,rfl,_,rfl,w',_,rfl,rfl,ah.of H_,λrv KR=>?_⟩;obtain⟨HC,eC⟩:∃HC,HC=upd HB rv (.lst (lG.map V.ref).reverse):=⟨_,rfl⟩;have gC:aq HB HC:=by rw[eC];exact bh KR _
         have Bk:HC rv=some (.lst (lG.reverse.map V.ref)):=by rw[eC,aF,List.map_reverse]
         rw[←eC];refine⟨rv,rfl,⟨_,ah.of Bk⟩,λD hD=>CU (K:=K) (xs:=lG.reverse.map V.ref) (ah.of Bk) (by rw[Ya,Ja];omega) hD (λ_=>true) (λ_ y H'=>∃a s,y=.ref a/\a≠D/\fb H' a s) (λ_ _ _ _ bb ⟨a,s,e1,e2,e3⟩=>⟨a,s,e1,e2,bb _ _ e3 e2⟩) (λi v hi H' g' KS Kt Kf kt kf=>?_) λus HD gD KU pr=>?_⟩
         ·rw[Yd] at hi;obtain⟨a,ea,rfl⟩:∃a,lG.reverse[i]?=some a/\V.ref a=v:=by
           cases e:lG.reverse[i]? with
           |none=>rw[e] at hi;cases hi
           |some c=>rw[e] at hi;exact⟨c,rfl,Yf hi⟩
          obtain⟨i2,nj,e2⟩:=Jc (List.mem_reverse.mp (Ys ea));obtain⟨s2,_,fi⟩:=fC Af (show lG[i2]?=some a by rw[←e2];exact Ye nj);have gU:=g' _ _ (gC _ _ fi);obtain⟨cy,Ia⟩:=KS;refine gu (bN ?_);exact⟨_,rfl,a,_,_,_,rfl,rfl,au.of gU,rfl,_,rfl,a,_,_,_,rfl,rfl,au.of gU,rfl,_,_,rfl,rfl,by show 2<=sizeLine;omega,λt KW u9 KY KZ=>kt _ KW rfl KY ⟨t,(s2.1,0-s2.2),rfl,(λz=>by rw[z,Ia] at u9;cases u9),KZ⟩⟩
         rw[CT,Ya,Ja] at pr;obtain⟨bs,W2,rfl,Bm,Bn⟩:=Fd pr;rw[Wg] at Bn;have MG:=di Bm;have lH:=gC.trans gD;refine⟨_,rfl,_,rfl,_,rfl,by show 2<=sizeLine;omega,λts HE K0 gE vq=>⟨by show 1<=sizeLine;omega,λl1 HF pZ gF h_=>⟨w0,l1,_,_,rfl,rfl,gF _ _ (gE _ _ (lH _ _ iX)),h_,by rw[Ya];show _+1<=_;omega,λw1 HG vw gG jz=>⟨_,rfl,w1,D,_,_,rfl,rfl,jz,gG _ _ (gF _ _ (gE _ _ KU)),by rw[Ym,Ya,Ya];show _+1+_<=_;omega,λw2 HI Kn gI vj=>⟨by show 2<=sizeLine;omega,λt HJ nt gJ ht=>?_⟩⟩⟩⟩⟩;have K1:=(gE.trans gF).trans gG;have vy:=(K1.trans gI).trans gJ;refine q t w2 (W0++[(rr.z,wy)]++W2) none HJ (((sm ((b6.same nK).trans bB)).trans lH).trans vy) ht ⟨ws++[ts]++bs,?_,?_⟩ ?_
         ·rw[gJ _ _ vj,Yp,Yp];rfl
         ·exact C8 (L2.kD (L2.Paired.cD dI λ_ _ e=>vy _ _ (lH _ _ e)) (gJ _ _ (gI _ _ (gG _ _ (gF _ _ vq))))) (L2.Paired.cD Bm λ_ _ e=>vy _ _ e)
         ·rw[Ym,Ym,Bn];show _+1+_<=_;omega
        ·have dg:∀{H':Hp},aq HB H'->c7 H' wk (.str tt) none:=λg=>jd (g _ _ fB.hk) (fB.no tt c2);refine⟨_,rfl,_,rfl,wk,_,rfl,dg (aq.refl _),_,rfl,bN ?_⟩;refine⟨_,rfl,_,rfl,_,rfl,by show 2<=sizeLine;omega,λts HC K0 gC vq=>⟨by show 1<=sizeLine;omega,λl1 HD pZ gD h_=>⟨w0,l1,_,_,rfl,rfl,gD _ _ (gC _ _ iX),h_,by rw[Ya];show _+1<=_;omega,λw1 HE vw gE jz=>⟨_,rfl,_,rfl,uu,_,_,_,rfl,rfl,au.of (gE _ _ (gD _ _ (gC _ _ Ae))),lA,by show 2<=sizeLine;omega,λt HF nt gF qf=>?_⟩⟩⟩⟩;have lH:=gC.trans gD;have vz:=(lH.trans gE).trans gF;have fF:=fB.same vz;have Ib:w1≠aO:=λz=>by rw[z,lH _ _ fB.hr] at vw;cases vw
         have Ic:WL HF w1 (W0++[(rr.z,wy)]):=⟨ws++[ts],by rw[gF _ _ jz,Yp];rfl,L2.kD (L2.Paired.cD dI λ_ _ e=>vz _ _ e) (gF _ _ (gE _ _ (gD _ _ vq)))⟩;refine⟨_,rfl,_,rfl,wk,ae,.inr tt,rfl,fF.hk,rfl,by have:=fF.kl;omega,λHG bG eG=>?_⟩;have Bo:=bG _ _ fF.hr (λz=>Ad z.symm);refine⟨_,rfl,.inl ⟨rfl,_,ah.of Bo⟩,_,rfl,aO,_,_,rfl,rfl,Bo,by rw[Ya];omega,λHI bI eI=>?_⟩;have Bp:cp wk aO HF HI:=λc o e h1 h2=>bI _ _ (bG _ _ e h1) h2;have Bq:cp wk aO HB HI:=(cp.of vz).trans Bp;have fI:=fF.add c2 tU qf Ib Ic (by rw[Ym];exact d8) ⟨KO,KP⟩ Bp (bI _ _ eG Ad) (by rw[eI,Yp];rfl);exact⟨_,ks++[tt],_,_,_,_,_,bB.trans Bq,fI,Wn _ mn,by rw[Wo (Yh.mp ek).1];exact ek,c_.ua Bh fB.hk fB.hr Bq,by rw[Ym];omega,rfl⟩
       ·rw[decide_eq_false c1];refine bK ?_;refine⟨_,rfl,_,rfl,_,rfl,aO,_,_,_,rfl,rfl,ah.of fB.hr,lF,rfl,_,rfl,?_⟩;rw[eu,decide_eq_false c1];exact bK (aR ⟨ae,ks,_,_,_,_,_,bB,fB,mn,ek,c_,d8,rfl⟩)
      ·rintro σ HB ⟨ae,ks,KH,uF,KI,uH,KJ,bB,fB,mn,ek,c_,d8,rfl⟩;exact⟨ae,ks,_,_,_,_,_,_,_,_,_,(b6.same nK).trans bB,fB,mn,ek,c_,d8,rfl⟩
    ·rintro σ H8 ⟨ae,ks,o9,bq,br,bt,bu,bT,b_,bH,bJ,b8,f8,mn,ek,c_,d8,rfl⟩;exact fw _ _ ⟨ae,ks,_,_,_,_,_,_,_,_,_,b8,f8,mn,(Yh.mp ek).1,rfl⟩
   ·rintro σ H8 ⟨ae,ks,o9,bq,br,bt,bu,bT,b_,bH,bJ,b8,f8,mn,rl,rfl⟩;have MH:=f8.len;refine⟨_,rfl,_,_,rfl,rfl,⟨ae,ks,r+1,_,_,_,_,_,_,_,_,_,_,_,b8,f8,mn,rfl⟩,?_⟩;show U.length+1-(r+1)<U.length+1-r;omega
  ·rintro σ H6 Q1 Q2 mo ⟨v1,w1,v2,w2,v3,v4,w3,w4,v5,v6,w5,w6,v7,w7,h⟩;exact⟨v1,w1,v2,w2,v3,v4,w3,w4,v5,v6,w5,w6,v7,w7,mo _ _ h⟩
 rintro σ H6 ⟨ae,ks,r,o7,o8,o9,bq,br,bt,bu,bT,b_,bH,bJ,b6,f6,mn,rfl⟩;have fl:=f6.len;obtain⟨k,hk,ek⟩:=Jc mn;have k0:0<ks.length:=by omega
 obtain⟨cur,ec⟩:∃c,ks[ks.length-1]?=some c:=⟨_,Ye (by omega)⟩;obtain⟨t1,w0,u0,W0,v1,jy,Bh,c_,d8,Bi⟩:=f6.yes cur (Ys ec);obtain⟨ws,iX,dI⟩:=id c_;have K2:cJ (ks.map V.str) (-1)=some (.str cur):=by
  unfold cJ eF;rw[if_neg (by decide),if_pos (by rw[Ya];omega),Ya];show(ks.map V.str)[(-1+(ks.length:Int)).toNat]?=_;rw[show(-1+(ks.length:Int)).toNat=ks.length-1 by omega,Yd,ec];rfl
 exact⟨_,rfl,_,rfl,_,rfl,aO,_,_,_,rfl,rfl,ah.of f6.hr,K2,wk,_,rfl,jd f6.hk v1,t1,_,_,_,rfl,rfl,au.of jy,rfl,w0,_,rfl,.inl (ah.of iX),λlw H7 KC g7 vo=>⟨by show 2<=sizeLine;omega,λt H8 nt g8 ht=>q t lw W0 none H8 (((sm b6).trans g7).trans g8) ht ⟨ws,g8 _ _ vo,L2.Paired.cD dI λ_ _ e=>g8 _ _ (g7 _ _ e)⟩ (by omega)⟩⟩
end
theorem Ek(e:Option Int):c8 e=.aD\/∃z,c8 e=.int z:=by
 cases e with
 |none=>exact .inl rfl
 |some z=>exact .inr ⟨z,rfl⟩
def Ie(H:Hp)(pa:Addr)(n:Nat):Prop:=∃(wa:Addr) (W:List (Int×Int)) (e:Option Int),H pa=some (.tup [.ref wa,c8 e])/\WL H wa W/\W.length<=n
def oQ(K:af):Sp:=λvs H Q _=>∃(a:Addr) (ns:List Int),vs=[.ref a]/\ah K H a (ns.map V.int)/\ns.length<=63/\∀H',Q (.bl true) H'
def vA(s1 m wi td Ld nl sd pq fl:Addr)(n:Int)(bq br bt bu bT b_ bH bJ dM dN:Option V):St:=[some (.ref s1),some (.int n),some (.ref m),some (.ref wi),some (.ref td),some (.ref Ld),some (.ref nl),some (.ref sd),some (.ref pq),some (.ref fl),bq,br,bt,bu,bT,b_,bH,bJ,dM,dN]
section
variable {K:af}{mg:aJ}
abbrev pe:List Str:=["_law_script"]
theorem cM:bc ["_law_script","_law_size","_law_mother","_law_wife","_law_turns_here","_law_land","_law_names","_law_sides","_law_place","_law_facts","_law_k","_law_drawn","_law_name_here","_law_section","_law_paper","_law_bad","_law_one","_law_handed","_law_rows_here","_law_due"] pe (aM jQ):=.bO
theorem Gg(F:aS K "law" "law" jQ f fd)(d_:HasFn P w K mg base 1 "_law_cell" nq (sA K))(de:HasFn P w K mg base 1 "_law_draws" km (kO K))(nZ:HasFn P w K mg base 2 "_law_row" tT zw)(qQ:HasFn P w K mg base 2 "_law_turns" tV x9)(lN:HasFn P w K mg base 4 "_law_same" gZ (jL 4))(ra:HasFn P w K mg base 2 "_law_folk" t7 (yZ K))(rb:HasFn P w K mg base 3 "_law_rows" t8 (yd K))(qR:HasFn P w K mg base 2 "_law_found" ub ye)(qD:HasFn P w K mg base 2 "_law_spoilt" t_ xx)(rd:HasFn P w K mg base 2 "_law_bars" t5 yY)(rO:HasFn P w K mg base 3 "stands" t4 (xw CL))
  (rC:HasFn P w K mg base 7 "land_of" pT (xr CL))(bl:Bl mg):aL P w K mg base (gW P w) 16 f fd pe (oQ K):=by
 refine F.IJ cM (λvs H Q E h=>?_) (λa_ A outer s H vs Q E hr h=>?_)
 ·obtain⟨a,ns,rfl,_⟩:=h;rfl
 obtain⟨a,ns,rfl,hs,hlen,q⟩:=h;have hu:=hr.lY;refine⟨_,(ar (aQ 0 cM.nd (wX (xi (K:=K) rfl) (pv 0) xM (xN ao))) (ar (aQ 1 cM.nd (aA cv ao (aA cj (aI d_ hr (aa (pv 0) (aa ao ai))) ao))) (ar (aQ 2 cM.nd (aI nZ hr (aa (aI d_ hr (aa (pv 0) (aa ao ai))) (aa (pv 1) ai)))) (ar (aQ 3 cM.nd (aI nZ hr (aa (aI d_ hr (aa (pv 0) (aa ao ai))) (aa (pv 1) ai)))) (ar (aQ 4 cM.nd (aI qQ hr (aa (pv 2) (aa (pv 3) ai)))) (ar (aQ 5 cM.nd (aI rC hr (aa (pv 2) (aa (pv 3) ai)))) (ar (ja (aI ra hr (aa (pv 0) (aa (aA cj (aI d_ hr (aa (pv 0) (aa ao ai))) ao) ai))) (fK (K:=K) (n:=2) rfl rfl (bL (bg 6 cM.nd) (bL (bg 7 cM.nd) fH)))) (ar (aQ 8 cM.nd (aI de hr (aa (aA cv (aI d_ hr (aa (pv 0) (aa ao ai))) ao) (aa (cY (aa ao (aa ao ai))) ai)))) (ar (aQ 9 cM.nd (aI rb hr (aa (wX (xi (K:=K) rfl) (pv 0) (xN ao) xM) (aa (pv 6) (aa (pv 7) (aa (pv 1) (aa (aA cv (az (iL K) (pv 8) ao) (aA dP ao (az (iL K) (pv 8) ao))) ai))))))) (ar (dy tN rfl (fD rfl bl.dv (aa ao ai)) (bg 10 cM.nd) (ar (aQ 11 cM.nd (aI de hr (aa (aA cv (aI d_ hr (aa (pv 0) (aa (aA cv ao (pv 10)) ai))) (pv 10)) (aa (cY (aa ao (aa ao ai))) ai)))) (ar (aQ 12 cM.nd (az (iL K) (pv 6) (aA cj (az (iL K) (pv 11) ao) (cg K bl (pv 6))))) (ay (dy tN rfl (fD rfl bl.dv (aa (pv 1) ai)) (bg 13 cM.nd) (ar (aQ 14 cM.nd (aI qR hr (aa (pv 9) (aa (pv 4) (aa (pv 12) (aa (pv 13) ai)))))) (ar (aQ 15 cM.nd (aI qD hr (aa (pv 14) (aa (aA cv (aI d_ hr (aa (pv 0) (aa (aA cv ao (pv 10)) ai))) (aA dP ao (pv 13))) ai)))) (ay (dy tN rfl (oC (cf (aa (pv 14) (aa (pv 15) ai)))) (bg 16 cM.nd) (ar (aQ 17 cM.nd (cf (aa (cz (lI (K:=K) rfl) rfl bl.gq gn (aa (az (iT K) (pv 16) ao) ai)) (aa (az (iT K) (pv 16) ao) ai)))) (ar (aQ 18 cM.nd (cz (lI (K:=K) rfl) rfl bl.gq gn (aa (pv 9) ai))) (ar (aQ 19 cM.nd (aI rd hr (aa (pv 9) (aa (pv 4) (aa (pv 12) (aa (pv 13) (aa (pv 16) ai))))))) (ar (aV (fL (dw (aI lN hr (aa (aI rO hr (aa (pv 5) (aa (pv 18) (aa (pv 12) (aa (pv 13) (aa (pv 17) ai)))))) (aa (pv 19) ai))))) (ay (aK eh)) aY) (ay (aV (PW.pt (pw_or (aZ (F5 (K:=K) rfl hu) (pv 18) (pv 9)) (pw_or1 (aZ (F6 (K:=K) rfl (bY hr)) (pv 17) (pv 16))))) (ay (aK eh)) aY))))))))))))))) (ay (aK eh)))))))))))),?_⟩;have sz:(10000:Nat)<=sizeLine:=by rw[sizeLine_eq];omega
 obtain⟨ms,em⟩:=xa ns none (some 63);have MI:ms.length<=ns.length:=by
  have:=qF (ns.map V.int) none (some 63);rw[em,Ya,Ya] at this;exact this
 obtain⟨cs,ec⟩:=xa ms (some 5) none;have lcs:cs.length<=63:=by
  have:=qF (ms.map V.int) (some 5) none;rw[ec,Ya,Ya] at this;omega
 refine bf ?_;refine⟨_,rfl,_,rfl,a,_,rfl,hs,λs1 H0 n1 g0 iY=>?_⟩;rw[em] at iY;refine bf ?_;refine⟨_,rfl,s1,ms,0,rfl,ah.of iY,Int.le_refl 0,λc0=>⟨_,_,rfl,rfl,(by show(0:Int)<7;decide),_,_,rfl,rfl,?_⟩⟩;try dsimp only
 have m0:=Y0 c0 (show(7:Int)≠0 by decide);have m1:=Yv c0 (show(0:Int)<7 by decide);obtain⟨n,en⟩:∃n:Nat,2+c0 % 7=(n:Int):=⟨(2+c0 % 7).toNat,by omega⟩;rw[en];have n2:2<=n:=by omega
 have n8:n<=8:=by omega
 refine bf ?_;refine⟨_,rfl,s1,ms,1,rfl,ah.of iY,by decide,λc1=>⟨_,rfl,c1,n,rfl,by omega,by omega,λm xs H1 nm g1 hM px=>?_⟩⟩;refine bf ?_;refine⟨_,rfl,s1,ms,2,rfl,ah.of (g1 _ _ iY),by decide,λc2=>⟨_,rfl,c2,n,rfl,by omega,by omega,λwi ys H2 nw g2 hW py=>?_⟩⟩;have lx:xs.length=n:=by rw[px.length_eq,cL]
 have ly:ys.length=n:=by rw[py.length_eq,cL]
 have gd:eY xs ys:=⟨kP px,kP py,by omega,by omega,by omega⟩;clear px py ly;subst lx;refine bf ?_;refine⟨_,rfl,_,rfl,m,wi,xs,ys,rfl,g2 _ _ hM,hW,gd,λtd H3 MJ g3 ht=>?_⟩;have jx:=(g1.trans g2).trans g3;refine bf ?_;refine⟨_,rfl,_,rfl,m,wi,xs,ys,rfl,g3 _ _ (g2 _ _ hM),g3 _ _ hW,gd.1,gd.2.1,gd.2.2.1,gd.2.2.2.1,gd.2.2.2.2,λLd H4 g4 la=>?_⟩;have dH:=jx.trans g4;refine⟨_,rfl,_,rfl,s1,ms,3,rfl,ah.of (dH _ _ iY),by decide,λc3=>⟨_,_,rfl,rfl,(by show(0:Int)<97;decide),?_⟩⟩;try dsimp only
 have z0:=Y0 c3 (show(97:Int)≠0 by decide);have z1:=Yv c3 (show(0:Int)<97 by decide);obtain⟨z,ez⟩:∃z:Nat,c3 % 97=(z:Int):=⟨(c3 % 97).toNat,by omega⟩;rw[ez];refine⟨s1,ms,z,rfl,ah.of (dH _ _ iY),by omega,λt nl sd ps H5 g5 iQ hn K3 nd p0 pl=>⟨t,_,rfl,au.of iQ,rfl,_,_,rfl,aP ⟨_,_,rfl,aP ⟨rfl,?_⟩⟩⟩⟩;have eP:=dH.trans g5;refine bf ?_;refine⟨_,rfl,s1,ms,3,rfl,ah.of (eP _ _ iY),by decide,λMK=>⟨_,_,rfl,rfl,by show 2<=sizeLine;omega,λpp H6 K4 g6 vB=>⟨_,pp,[4,61],rfl,ah.of vB,by decide,by decide,λpq ds H7 J9 g7 h7 bd=>?_⟩⟩⟩;obtain⟨p1,p2,rfl,b1,b2⟩:=sf bd;have Br:=g6.trans g7;have d6:=eP.trans Br;unfold Bd at b1 b2;refine bf ?_;refine⟨_,rfl,_,rfl,s1,_,rfl,ah.of (d6 _ _ iY),λca H8 ML g8 Bs=>?_⟩;rw[ec] at Bs;have u_:=d6.trans g8;have gb:=Br.trans g8;refine⟨_,rfl,_,rfl,_,rfl,_,rfl,pq,_,_,_,rfl,rfl,ah.of (g8 _ _ h7),rfl,_,rfl,pq,_,_,_,rfl,rfl,ah.of (g8 _ _ h7),rfl,_,_,rfl,rfl,.inl ⟨by decide,by decide⟩,_,_,rfl,rfl,ca,nl,sd,ps,xs,ys,cs,_,rfl,Bs,gb _ _ hn,gb _ _ K3,nd,p0,by omega,gd,lcs,λfl R H9 g9 rl ro zd rn=>?_⟩;have fq:=gb.trans g9;have K5:=u_.trans g9;have K6:=la.same ((g5.trans gb).trans g9);have Bu:=ht.same ((g4.trans g5).trans fq);have K7:=fq _ _ hn;have Bv:=K5 _ _ iY;obtain⟨as,pY,dt⟩:=id rl;refine gm (λ_ _=>True) (λgf b5=>?_) (λσ H' _=>q H');refine⟨4,rfl,by decide,by decide,kJ (lo:=0) (n:=(4:Int).toNat) (λ_ σ H'=>∃(bq br bt bu bT b_ bH bJ dM dN:Option V),aq H9 H'/\σ=vA s1 m wi td Ld nl sd pq fl (xs.length:Int) bq br bt bu bT b_ bH bJ dM dN) ⟨none,none,none,none,none,none,none,none,none,none,aq.refl _,rfl⟩ ?_ (λσ H' _=>b5 _ _ trivial)⟩;rintro k σ HA hk ⟨bq,br,bt,bu,bT,b_,bH,bJ,dM,dN,gA,rfl⟩;rw[Wk];refine aP ?_;refine bf ?_;refine⟨_,rfl,_,rfl,_,_,rfl,rfl,s1,ms,5+(k:Int),rfl,ah.of (gA _ _ Bv),by omega,λc5=>⟨_,rfl,_,_,rfl,rfl,by show 2<=sizeLine;omega,λpp HB K4 gB vB=>⟨_,pp,[61,8],rfl,ah.of vB,by decide,by decide,λdr ds HC va gC vb bd=>?_⟩⟩⟩;obtain⟨d0,d1,rfl,_,_⟩:=sf bd;have Bw:=(gA.trans gB).trans gC;refine bf ?_;refine Vt.oy (K:=K) (i:=6) (z:=d0) rfl (Bw _ _ K7) p0 (λkk hk=>⟨_,rfl,dr,_,_,_,rfl,rfl,ah.of vb,rfl,hk _ (aq.refl _)⟩) _ λHD gD=>?_;have K8:=Bw.trans gD;obtain⟨hU,K9⟩:∃hU,hU=iN ps (d0 % (ps.length:Int)).toNat:=⟨_,rfl⟩;rw[←K9];refine⟨_,rfl,(xs.length:Int),rfl,by omega,by omega,kJ (lo:=0) (n:=(xs.length:Int).toNat) (λ_ σ H'=>∃(bu bT b_ bH bJ dM dN:Option V),aq H9 H'/\σ=vA s1 m wi td Ld nl sd pq fl (xs.length:Int) (some (.int (k:Int))) (some (.ref dr)) (some (.str hU)) bu bT b_ bH bJ dM dN) ⟨bu,bT,b_,bH,bJ,dM,dN,K8,rfl⟩ ?_ (λσ H' ⟨_,_,_,_,_,_,_,g,e⟩=>⟨_,_,_,_,_,_,_,_,_,_,g,e⟩)⟩;clear bu bT b_ bH bJ dM dN;rintro j σ HE hj ⟨bu,bT,b_,bH,bJ,dM,dN,gE,rfl⟩;rw[Yq] at hj;rw[Wk];refine aP ?_;have gv:0<=(j:Int)/\(j:Int)<(xs.length:Int):=by omega
 refine bf ?_;refine⟨_,rfl,_,rfl,_,rfl,_,rfl,fl,td,xs,ys,R,hU,(j:Int),rfl,Bu.same gE,gd,rl.same gE,ro,rn,gv,λpa wa W e HF gF Bx d5 wn=>?_⟩;refine bf ?_;refine⟨_,rfl,_,rfl,_,rfl,_,_,rfl,rfl,s1,ms,6+(k:Int),rfl,ah.of (gF _ _ (gE _ _ Bv)),by omega,λc6=>⟨_,rfl,_,_,rfl,rfl,.inl ⟨by decide,by decide⟩,_,_,rfl,rfl,pa,wa,_,W,e,rfl,Bx,d5,by omega,λpb wb W' e' HG gG K_ La MM=>?_⟩⟩;refine⟨_,rfl,_,rfl,by show 2<=sizeLine;omega,λtp HI J4 gI lD=>⟨tp,rfl,⟨_,au.of lD⟩,Eo (K:=K) (a:=tp) (xs:=[.ref pa,.ref pb]) (λ_ σ H'=>∃(bH bJ dM dN:Option V),aq HI H'/\σ=vA s1 m wi td Ld nl sd pq fl (xs.length:Int) (some (.int (k:Int))) (some (.ref dr)) (some (.str hU)) (some (.int (j:Int))) (some (.ref pa)) (some (.ref pb)) bH bJ dM dN) ⟨bH,bJ,dM,dN,aq.refl _,rfl⟩ (λ_ σ H' _ ⟨_,_,_,_,g,_⟩=>au.of (g _ _ lD)) ?_ ?_⟩⟩
 ·clear bH bJ dM dN;rintro i v σ HJ hi ⟨bH,bJ,dM,dN,gJ,rfl⟩;have nL:=gI.trans gJ;have vC:=((gE.trans gF).trans gG).trans nL;obtain⟨pc,rfl,wc,Wc,qg,qh,By,Bz⟩:∃pc,v=.ref pc/\Ie HJ pc 400:=by
   match i,hi with
   |0,hi=>exact⟨pa,(Yf hi).symm,wa,W,e,nL _ _ (gG _ _ Bx),d5.same (gG.trans nL),by omega⟩
   |1,hi=>exact⟨pb,(Yf hi).symm,wb,W',e',nL _ _ K_,La.same nL,by omega⟩
  refine aP ?_;obtain⟨ws,iX,dI⟩:=id By;refine bf ?_;refine⟨_,rfl,pc,_,_,_,rfl,rfl,au.of qh,rfl,wc,_,rfl,.inl (ah.of iX),λl1 HK pZ gK h_=>⟨_,rfl,pc,_,_,_,rfl,rfl,au.of (gK _ _ qh),rfl,by show 2<=sizeLine;omega,λth HL MN gL BA=>?_⟩⟩;have BB:=gK.trans gL;refine bf ?_;refine⟨_,rfl,fl,_,rfl,.inl (ah.of (BB _ _ (vC _ _ pY))),λl2 HM vp gM fk=>?_⟩;have qi:=BB.trans gM;have vD:=vC.trans qi;refine bf ?_;refine⟨_,rfl,_,rfl,_,rfl,_,rfl,_,rfl,fl,td,pc,wc,xs,ys,R,hU,(j:Int),Wc,qg,rfl,Bu.same vD,gd,rl.same vD,ro,zd,rn,qi _ _ qh,By.same qi,Bz,gv,λHN gN=>?_⟩;have vE:=gM.trans gN;have BC:=qi.trans gN;have BD:=vD.trans gN;refine⟨_,rfl,_,rfl,_,rfl,_,rfl,_,rfl,Ld,l2,th,l1,xs,ys,R,hU,(j:Int),Wc,qg,rfl,K6.same BD,gd,⟨as,gN _ _ fk,L2.Paired.cD dt λ_ _ e=>BD _ _ e⟩,ro,zd,rn,vE _ _ BA,⟨ws,vE _ _ (gL _ _ h_),L2.Paired.cD dI λ_ _ e=>BC _ _ e⟩,Bz,gv,λHO gO=>⟨_,rfl,_,_,.bl (iE xs ys R hU (j:Int) Wc qg),3,rfl,rfl,zk _,zk _,λHP gP=>⟨_,rfl,bK (aR ?_)⟩⟩⟩;have vF:=gO.trans gP;have qj:=BC.trans vF;have BE:=vE.trans vF;exact⟨_,rfl,_,rfl,l2,fl,as,rfl,rfl,ah.of (vF _ _ (gN _ _ fk)),ah.of (qj _ _ (vC _ _ pY)),_,rfl,bK ⟨_,rfl,_,rfl,th,pc,l1,wc,c8 qg,ws,rfl,rfl,au.of (BE _ _ BA),au.of (qj _ _ qh),ah.of (BE _ _ (gL _ _ h_)),ah.of (qj _ _ iX),Ek _,_,rfl,bK (aR ⟨_,_,_,_,gJ.trans qj,rfl⟩)⟩⟩
 ·rintro σ HJ ⟨bH,bJ,dM,dN,gJ,rfl⟩;exact⟨_,_,_,_,_,_,_,(((gE.trans gF).trans gG).trans gI).trans gJ,rfl⟩
end
theorem all_mk{l:PySem.W.OpenLaw}{w:World}{K:af}{h:Heap}{mg:aJ}{fa:Addr}(X:K.In h)(G:h.Ns mainGlobals mg)(ft:mg "law"=some (.ref fa))
  (p1:bF K "is_turn" rq f1)
  (p2:bF K "still" r6 f2)
  (p3:bF K "behind" rF f3)
  (p4:bF K "back" sH f4)
  (p5:bF K "check_turn" qx f5)
  (p6:bF K "check_rows" qy f6)
  (p7:bF K "check_parents" ql f7)
  (p8:bF K "land_of" rz f8)
  (p9:bF K "followed" qS f9)
  (hZ:bF K "turned_back" qo uE)
  (iR:bF K "is_tie" rG MO)
  (iS:bF K "tie_step" qT MP)
  (iU:bF K "stands" rH MQ)
  (iV:bF K "all_numbers" qp MR)
  (Lb:bF K "can_go" rJ MS)
  (Lc:bF K "_law_cell" wg MT)
  (Le:bF K "_law_draws" vR MU)
  (Lf:bF K "_law_turn" wm MV)
  (Lg:bF K "_law_row" rA MW)
  (Lh:bF K "_law_inverse" qq MX)
  (Li:bF K "_law_after" qH MY)
  (Lj:bF K "_law_turns" qI MZ)
  (Lk:bF K "_law_same" nO M0)
  (Ll:bF K "_law_name" qU M1)
  (Lm:bF K "_law_pick" qV M3)
  (Ln:bF K "_law_fact" qW M4)
  (Lo:bF K "_law_folk" qX M5)
  (Lp:bF K "_law_rows" qY M6)
  (Lq:bF K "_law_bars" qZ M7)
  (Lr:bF K "_law_number" qz M8)
  (Ls:bF K "_law_found" qJ M9)
  (Lu:bF K "_law_spoilt" qA M_)
  (Lv:bF K "law" jQ Na)
  (z:ju K ["len","abs","list","range","tuple","any","all","isinstance","bool","int","str","sorted","min","max","sum","dict","reversed","ValueError"])
  (BZ:nsIn K mainGlobals "LEAST_SIZE"=some (some (.int (2) Lw)))
  (Cc:nsIn K mainGlobals "MOST_SIZE"=some (some (.int (8) Ly)))
  (El:nsIn K mainGlobals "FORTH"=some (some (.int (1) LF)))
  (Fe:nsIn K mainGlobals "BACK"=some (some (.int (-1) LG)))
  (BR:nsIn K mainGlobals "TIE_LETTERS"=some (some (.ref fz)))
  (vH:PyProof.Rows.KTD.tabLook PyProof.Rows.KTD.flatLooks (λb=>K.lookup b) fz [("mother",PyData.str "m"),("father",PyData.str "f"),("wed",PyData.str "w"),("sibling",PyData.str "s")]=true)
  (Cd:nsIn K mainGlobals "WAYS_BACK"=some (some (.ref kE)))
  (Ce:PyProof.Rows.KTD.tabLook PyProof.Rows.KTD.flatLooks (λb=>K.lookup b) kE [("m",PyData.str "c"),("c",PyData.str "m"),("f",PyData.str "k"),("k",PyData.str "f"),("w",PyData.str "h"),("h",PyData.str "w"),("s",PyData.str "s")]=true)
  (Ff:nsIn K mainGlobals "SAID"=some (some (.str "said" LH)))
  (Gh:uI K "Land" mi)
  (lc:oN K mi)
  (CD:jt K mi "__init__" "Land.__init__" qK Lz)
  (CF:jt K mi "step" "Land.step" qL LA)
  :∃fd:FuncData,(∀(s:Shared) (v:Value),BindsTo s fd ⟨[v],[]⟩ [("_law_script",v)])/\∀base:Heap,K.In base->base.Ns mainGlobals mg->aL l.prog w K mg base (gW l.prog w) 16 fa fd pe (oQ K):=by
 obtain @⟨od,an,sl,oc,kV,dc,pm,cd,ct,ax,lx,cx,kx⟩:=Lv;have e:=ft.symm.trans (mg_of X G ax);cases e;have bl:=z.bl X G;have qB:=mg_of X G BZ;have qM:=mg_of X G Cc;have kR:=mg_of X G El;have sN:=mg_of X G Fe;have kB:=mg_of X G BR;have qO:=mg_of X G Cd;have sP:=mg_of X G Ff;have Gi:=lc.cls;refine⟨fnOf "law" "law" (ij jQ) (eV jQ) (aM jQ) .none kV dc pm an cd ct,λs v=>.of_eq rfl,λbase _ _=>?_⟩;have F:=l3 (st:=jQ) lx cx kx;have D:fm l.prog w K mg base:=⟨X,G⟩;have d_:=D.d Lc (λ_ F=>EW F bl.zi);have de:=D.d Le (λ_ F=>D5 F bl.GC);have kL:=D.d p1 (λ_ F=>C0 F bl);have q0:=D.d p9 (λ_ F=>Cy F bl);have qr:=D.d hZ (λ_ F=>BN F bl);have se:=D.d p2 (λ_ F=>D8 F bl);have qP:=D.m Gi CF (λ_ F=>E4 F lc);have qN:=D.d Li (λ_ F=>Ca F bl);have gg:=D.d Lh (λ_ F=>C5 F bl);have rK:=D.d iR (λ_ F=>DA F kB vH);have nT:=D.d Lm (λ_ F=>Cz F bl);have q5:=D.d Ll (λ_ F=>CA F bl);have kH:=D.d iS (λ_ F=>CB F kB vH qO Ce kR);have qu:=D.d iV (λ_ F=>BQ F bl);have lJ:=D.d Lr (λ_ F=>DE F bl);have q4:=D.d Lf (λ_ F=>EX F bl.gq bl.dv bl.eW);have lN:HasFn l.prog w K mg base 4 "_law_same" gZ (jL 4):=let⟨_,F,b,k,m⟩:=D.p (ps:=gZ) Lk;⟨_,_,xX F b k m bl 4,b,k,m⟩;have jA:=D.d p5 (λ_ F=>F9 F kL);have kC:=D.d p6 (λ_ F=>E2 F kL qB qM bl);have nZ:=D.d Lg (λ_ F=>C4 F de q4 bl);have qQ:=D.d Lj (λ_ F=>Ee F gg qN bl);have rM:=D.d Lb (λ_ F=>DC F kR sN rK kH);have rd:=D.d Lq (λ_ F=>E9 F lJ gg bl);have q_:=D.d Ln (λ_ F=>CC F nT bl);have ra:=D.d Lo (λ_ F=>Fb F d_ de q5 bl);have qD:=D.d Lu (λ_ F=>DG F de bl);have qR:=D.d Ls (λ_ F=>Ej F gg bl);have kN:=D.d p3 (λ_ F=>GZ F jA q0 bl);have mf:=D.d p4 (λ_ F=>G0 F jA qr bl);have rO:=D.d iU (λ_ F=>DD (CL:=mi) F lc sP qu rM kH qP bl);have rb:=D.d Lp (λ_ F=>Eh F de q_ bl);have qm:=D.d p7 (λ_ F=>C1 F kN bl);have sJ:=D.j Gh CD (λ_ F=>E3 F lc kC qm mf se bl);have rC:=D.d p8 (λ_ F=>C3 (C:=mi) F kC kN sJ);exact Gg F d_ de nZ qQ lN ra rb qR qD rd rO rC bl
theorem walk{l:PySem.W.OpenLaw}{q:Program}{loose:List Str}{XP:(Str->Option Value)->Heap->Prop}{YP:World->Heap->Prop}{d:DefRec}{K:Params->af}(hn:l.most=some 63)(mZ:d.params.defaults=[])
  (hY:∀(w:World) (h:Heap),YP w h->(K w.params).In h)
  (F:∀(w:World) (mg:aJ) (fa:Addr) (h:Heap),(K w.params).In h->h.Ns mainGlobals mg->mg d.name=some (.ref fa)->
   ∃fd:FuncData,(∀(s:Shared) (u:Value),BindsTo s fd ⟨[u],[]⟩ [("_law_script",u)])/\∀base:Heap,(K w.params).In base->base.Ns mainGlobals mg->aL l.prog w (K w.params) mg base (gW l.prog w) 16 fa fd pe (oQ (K w.params))):
  PySem.W.WalkO q loose XP YP l.row.toRowW d [] (λf vs=>PySem.call f vs):=
 L2.EC (n:=63) (k:=16) (x:="_law_script") (CX:=λw=>gW l.prog w) (sp:=λw=>oQ (K w.params)) hn (by decide) mZ ⟨rfl,by decide,by decide,rfl⟩ hY F (λ_ _ a ns hl _ hS=>⟨a,ns,rfl,hS,hl,λ_=>rfl⟩) λ_ _ _ _ _ h=>by obtain⟨_,_,_,_,_,_,_,_,_,_,_,_,_,_,z⟩:=h;exact z
end uJ
namespace PySem.W.Fast
def tw17867133234959669081:=0
def tw15497306216155844912:=0
def tw9562895379919989856:=0
def tw13009839184854829984:=0
def tw9088279380239663457:=0
def tw398792304297741890:=0
def tw18021898292526644898:=0
def tw14747011475431123268:=0
def tw3252723188402862248:=0
def tw10894053624020070857:=0
def tw17705245179568665257:=0
def tw14868112697096959530:=0
def tw515775525661644778:=0
def tw10231933070431973547:=0
def tw1066256835960559215:=0
def tw8694722351645651184:=0
def tw6880082548495880656:=0
def tw4291087131005794323:=0
def tw15626509298428366547:=0
def tw17213819829801456308:=0
def tw3601163299713686328:=0
def tw15725635008263275641:=0
def tw13302434935672244409:=0
def tw12257304187785388892:=0
def tw9518559818166624092:=0
def tw8332676288103566334:=0
def tw4411111876273523987:=0
def tw14962097058170527647:=0
def tw1845598835264301414:=0
def tw9895443282250513556:=0
def tw9694261371436646591:=0
def tw6977713787207546105:=0
def tw1123729287774494221:=0
def tw2618984404516561775:=0
def tw16530951789805294546:=0
def tw13801797725146608531:=0
def tw3854958017718436724:=0
def tw8658883821895867428:=0
def tw2117990287292958602:=0
def tw1833307629413241727:=0
def tw5197555288336367574:=0
def tw575340462302182002:=0
def tw13787519344953628377:=0
def tw17259828892054550697:=0
def tw12026272807047278506:=0
def tw1914590704748216615:=0
def tw9047704022681586935:=0
def tw4420961102354538765:=0
def tw4888689485451939414:=0
def tw2708018427151782934:=0
def tw8072359245259333424:=0
def tw11042805079399975767:=0
def tw5595237682878008409:=0
def tw16700733529982614387:=0
def tw11375910350099933064:=0
def tw10215043897594113630:=0
def tw10941076074655775502:=0
def tw182325585314915079:=0
def tw8408313283428005244:=0
def tw11451331962923265840:=0
def tw13235573877722433866:=0
def tw15374829859150086109:=0
def tw16877858094960740493:=0
def tw8159314621285902975:=0
def tw12232414992644568497:=0
def tw7662653341058477859:=0
def tw9521533725642685606:=0
def tw2345457568743756049:=0
def tw7573149795462458302:=0
def tw12691812241790587389:=0
def tw9002665825469374687:=0
def tw14945351607762422800:=0
def tw6386072619518086614:=0
def tw6542969472395429552:=0
def tw1019721453572288883:=0
def tw9906084754551337247:=0
def tw14987037893096940094:=0
def tw1164540041779036037:=0
def tw14124748519037447545:=0
def tw11834446506065788583:=0
def tw13961954836376395776:=0
def tw1388306015316848051:=0
def tw9241568690799836051:=0
def tw10477340887753262162:=0
def tw18400990180609828513:=0
def tw53296236608013806:=0
def tw875031160807163157:=0
def tw15151284872041463289:=0
def tw17514808438676859403:=0
def tw13271127525334936541:=0
def tw3600876877927884501:=0
def tw13237808575228755024:=0
def tw1090855091439098894:=0
def tw16585857143519188859:=0
def tw13051107548934931209:=0
def tw3476827878744570252:=0
def tw640890769300328191:=0
def tw15318876382975082323:=0
def tw17999137079693393888:=0
def tw6490116342580592186:=0
def tw8761334219778511078:=0
def tw2748650661265297041:=0
def tw15378807671936220724:=0
def tw1210157256116885494:=0
def tw1310675207525287801:=0
def tw5430500629377528276:=0
def tw6469139472578374807:=0
def tw6639124818948170395:=0
def tw8596440611415270808:=0
def tw913196485188789140:=0
def tw17330261508324433108:=0
def tw3947773727496959934:=0
def tw12122131671131292442:=0
def tw7618479450609664429:=0
def tw5024590365961089593:=0
def tw4251161758238267921:=0
def tw7366830256039373994:=0
def tw15696018528449526065:=0
def tw15983075288237506277:=0
def tw12335939990630539248:=0
def tw2952825381537932668:=0
def tw11730136008381826830:=0
def tw17937797525807766874:=0
def tw4559831672224792664:=0
def tw16279433472786064116:=0
def tw5123762077465467934:=0
def tw13513869067055927668:=0
def tw4633798857686612736:=0
def tw16067879951024072489:=0
def tw9059104310866488673:=0
def tw2623221040981681075:=0
def tw7616143348001852762:=0
def tw5819264279906681156:=0
def tw2680594760447305636:=0
def tw1838273441326445758:=0
def tw9380089202399182524:=0
def tw4500510155423070524:=0
def tw6862128264364120754:=0
def tw3927454094936923103:=0
def tw9571716746738962033:=0
def tw14780101107305168942:=0
def tw14005222718635584806:=0
def tw10137992183524163927:=0
def tw8566224087740600161:=0
def tw1966454639219956791:=0
def tw17659263009124929318:=0
def tw15410900188726835141:=0
def tw3835822142443677655:=0
def tw3375091304421652882:=0
def tw13650707851179454473:=0
def tw6084569572712697422:=0
def tw264668106028804430:=0
def tw14129581751129314861:=0
def tw16506670296110510829:=0
def tw9142243676469846329:=0
def tw3493911167652009268:=0
def tw3313329422643360050:=0
def tw6267673872827766247:=0
def tw4194382715256340244:=0
def tw13279760128633792971:=0
def tw4943929926407730986:=0
def tw1525616584100748564:=0
def tw11722765923781249238:=0
def tw8425507426450816400:=0
def tw17927698205805666166:=0
def tw5632871488669161168:=0
def tw3271179734033963724:=0
def tw6984649623220109631:=0
def tw3445229243871942844:=0
def tw2327169662007484951:=0
def tw18215104141844406131:=0
def tw10690398582689902630:=0
def tw3531290099713424493:=0
def tw1043308013950089325:=0
def tw16079994070090093062:=0
def tw13026763599206460048:=0
def tw13928989572967810159:=0
def tw17941627154726795074:=0
def tw17666192549500104542:=0
def tw9151678903574611667:=0
def tw7519577629476525241:=0
def tw6596212714159617455:=0
def tw2465643563888678650:=0
def tw18168989906627236092:=0
def tw15256790323225109234:=0
def tw14799775683094865415:=0
def tw8476774365227003446:=0
def tw8081667088409965791:=0
def tw7539946153506847980:=0
def tw7176876144096360108:=0
def tw7047561227933055533:=0
def tw6218671110467468157:=0
def tw5897719543678809761:=0
def tw4618265104260760805:=0
def tw2668114653233301365:=0
def tw17113095761976489665:=0
def tw17065393853510771608:=0
def tw15561611223622055073:=0
def tw13594209308634234830:=0
def tw13235351531617775956:=0
def tw1300130922316979512:=0
def tw12259919326805818219:=0
def tw11568137645784471810:=0
def tw11187558425669076661:=0
def tw1061501308827496709:=0
def tw17384350774883759488:=0
def tw17683530049276346891:=0
def tw12806075305135204131:=0
def tw9134310462978547807:=0
def tw491103127615389543:=0
def tw4829772788274666019:=0
def tw16121854258063043418:=0
def tw12775151933459755423:=0
def tw11627479571469824927:=0
def tw17439849203631233118:=0
def tw16631350070431616412:=0
def tw5585470138641440234:=0
def tw10926855876041758806:=0
def tw6005519565173769337:=0
def tw17273429303770299615:=0
def tw12469687129825785769:=0
def tw7403194104781251416:=0
def tw4294256937802350411:=0
def tw2868705732897455210:=0
def tw18378119105273688757:=0
def tw17665322287830791241:=0
def tw14603970175278137050:=0
def tw11405217347530713289:=0
def tw11114113647318624975:=0
def tw12670216452775247243:=0
def tw10931685394400809266:=0
def tw2911567250807317120:=0
def tw15731723100136276095:=0
def tw15482407725444634697:=0
def tw13081931218044906151:=0
def tw10812700847635914440:=0
def tw9794587060619856162:=0
def tw8539921099183124407:=0
def tw7011492071953434200:=0
def tw17705795451466727399:=0
def tw4522590469073345950:=0
def tw6289152826444489502:=0
def tw17690865380837900248:=0
def tw18337763491187924511:=0
def tw17283013996791842861:=0
def tw11097807128692335798:=0
def tw6021815567126939658:=0
def tw2239085719741309478:=0
def tw9392232193319133546:=0
def tw7788094942072981623:=0
def tw7031834128204376664:=0
def tw5578740907458883085:=0
def tw4706039365818836682:=0
def tw4404879877092148088:=0
def tw360042153948991630:=0
def tw2111178071784316233:=0
def tw1798104184107566697:=0
def tw16151253446332114191:=0
def tw15442537672316165177:=0
def tw14647649597709830574:=0
def tw13795632344232470531:=0
def tw13479443231225195024:=0
def tw11093458226879551553:=0
def tw10367192964141967252:=0
def tw9561775045946878305:=0
def tw8921777320266640414:=0
def tw8664347929806798280:=0
def tw8633491892099177875:=0
def tw8536602044324272255:=0
def tw8326112682160237636:=0
def tw8166236386069763158:=0
def tw8134817211697150411:=0
def tw8095400607914775151:=0
def tw805131342893555400:=0
def tw8011825825663476371:=0
def tw7749627525497380454:=0
def tw7708126418379405191:=0
def tw7582736350678369833:=0
def tw7451988540610821996:=0
def tw6706159762505551357:=0
def tw6652009171440986154:=0
def tw6360630424244142589:=0
def tw6271969744202286975:=0
def tw6016057256750677535:=0
def tw5638828572901052836:=0
def tw5381035213485847897:=0
def tw5199213413365813893:=0
def tw4404845924776543287:=0
def tw4368563084369174907:=0
def tw4112722875527892637:=0
def tw370471395389837028:=0
def tw3285951036778459215:=0
def tw3202679405061218849:=0
def tw2382603574637528222:=0
def tw2368108205792995129:=0
def tw2245237937293259902:=0
def tw2019789166541838262:=0
def tw1976530684906454291:=0
def tw18209931956975316417:=0
def tw18181432702289054710:=0
def tw18050998900582886742:=0
def tw17930914894890296145:=0
def tw17926590272289851229:=0
def tw17895267245855656211:=0
def tw17790221264174441534:=0
def tw17474336637588062551:=0
def tw17302712187017151784:=0
def tw16095277201332401501:=0
def tw15881010394145550746:=0
def tw15687280417122628402:=0
def tw15196315125259494242:=0
def tw15013614490827900102:=0
def tw14994967340490549516:=0
def tw1495489430840232633:=0
def tw14907109039979569919:=0
def tw14429039659797005128:=0
def tw14105737779721712503:=0
def tw13968836924764602259:=0
def tw13734989384662304618:=0
def tw13361416770188739501:=0
def tw13224429320843844941:=0
def tw13129859213840453081:=0
def tw12855583564432950869:=0
def tw12554758146412226753:=0
def tw12476253919930040569:=0
def tw12338503775729948601:=0
def tw12169312061382480637:=0
def tw11897926058106734072:=0
def tw11734793298869153222:=0
def tw11419329460354240359:=0
def tw1055696466525937697:=0
def tw10503626924146890992:=0
def tw10279660365044303290:=0
def tw10118649000149257957:=0
def tw10012277267181931644:=0
end PySem.W.Fast
open PySem PySem.W PyProof.Rows
set_option maxRecDepth 100000 in
set_option maxHeartbeats 0 in
theorem PySem.Challenge.cw_kinhearth_k36_papers_that_stand_holds : PySem.Challenge.rw_kinhearth_k36_papers_that_stand.Holds := by
 w_on; o_law; k_head; (case hw=>w_witness2)
 k_fill
 refine uJ.walk (l:=PySem.Challenge.rw_kinhearth_k36_papers_that_stand) rfl rfl (λ w h Y=>kIn_of Y) ?F
 case F=>
  intro w mg fa h KX G m3
  apply uJ.all_mk KX G m3 <;> repeat' first | k_is | (show _=_; k_is) | kernel_rfl | constructor
