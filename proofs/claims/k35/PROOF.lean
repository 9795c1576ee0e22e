import PyProof.Rows.All
import Wide.All
import OpenK.AllK
import Wide.FinOn
import Lean
import PyProof.EqAt
import PyProof.EqKinds
import PyProof.TupleCall
import PyProof.NeKinds
import PyProof.ConsumeWalk
import PyProof.ListRange
import PyProof.TupleOfSeq
import PyProof.Rows.SortWalk
import PyProof.CompFree
import PySem.Challenge.RW_kinhearth_k35_whole_papers_that_bar
set_option Elab.async false
set_option linter.all false
set_option maxRecDepth 100000
set_option maxHeartbeats 4000000
abbrev ag:=PySem.W.Frag
abbrev aE:=PySem.Value->PySem.Shared->Prop
abbrev aB:=List (PySem.Addr×PySem.Obj)
abbrev aG:=PySem.Str->Option PySem.Value
open PySem
open PySem.W (instObj methodObj lookIn plainGet hasDictIn handedIn plainGet_of isFn plainOver takerIn makesIn typeIn emptyDict keepIn kitOne kia_one kitx_list kitx_dict callWith_K cellsFrom_some fnOf codeIn nsIn mg_of kIn_of)
open PySem.F (slot_tuple_add slot_dict_get entry_dict_get plainAttrs_list)
abbrev Ya:=@List.length_map
abbrev Yb:=@Option.some.inj
abbrev Yc:=@Heap.get?_push_of_some
abbrev Yd:=@Nat.le_refl
abbrev Ye:=@List.getElem?_map
abbrev Yf:=@List.getElem?_eq_getElem
abbrev Yg:=@Bool.false_ne_true
abbrev Yh:=@List.mem_singleton
abbrev Yi:=@List.getElem?_eq_some_iff
abbrev Yj:=@List.length_append
abbrev Yk:=@List.mem_of_getElem?
abbrev Yl:=@List.size_toArray
abbrev Ym:=@Heap.get?_push_size
abbrev Yn:=@Heap.lt_size
abbrev Yo:=@List.map_append
abbrev Yp:=@Int.toNat_natCast
abbrev Yq:=@List.take_add_one
abbrev Yr:=@Nat.lt_of_lt_of_le
abbrev Ys:=@List.mem_append_right
abbrev Yt:=@List.getD_eq_getElem?_getD
abbrev Yu:=@List.mem_append
abbrev Yv:=@List.mem_cons_self
abbrev Yw:=@List.mem_cons
abbrev Yx:=@List.mem_cons_of_mem
abbrev Yy:=@List.append_nil
abbrev Yz:=@Nat.ne_of_lt
abbrev Y0:=@List.getElem?_eq_none
abbrev Y1:=@List.take_length
abbrev Y2:=@Nat.zero_le
abbrev Y3:=@Sum.inr.inj
abbrev Y4:=@Int.emod_lt_of_pos
abbrev Y5:=@Nat.le_trans
abbrev Y6:=@List.mem_map
abbrev Y7:=@Int.emod_nonneg
abbrev Y8:=@List.mem_append_left
abbrev Y9:=@List.length_take
abbrev Wa:=@List.mem_range
abbrev Wb:=@List.getElem?_append_left
abbrev Wc:=@List.length_range
abbrev Wd:=@List.filterMap_cons
abbrev We:=@List.take_of_length_le
abbrev Wf:=@List.getElem?_append_right
abbrev Wg:=@List.length_cons
abbrev Wh:=@List.not_mem_nil
abbrev Wi:=@Nat.lt_irrefl
abbrev Wj:=@Nat.lt_of_le_of_lt
abbrev Wk:=@List.map_cons
abbrev Wl:=@List.filter_append
abbrev Wm:=@Nat.le_of_ble_eq_true
abbrev Wn:=@List.nodup_cons
abbrev Wo:=@Option.isSome_iff_exists
abbrev Wp:=@List.ext_getElem?
abbrev Wq:=@Int.zero_add
abbrev Wr:=@List.length_reverse
abbrev Ws:=@List.lookup_cons
abbrev Wt:=@List.mem_filter
abbrev Wu:=@Bool.eq_iff_iff
abbrev Wv:=@List.length_replicate
abbrev Ww:=@List.nodup_append
abbrev Wx:=@List.reverse_cons
abbrev Wy:=@List.append_assoc
abbrev Wz:=@Bool.and_eq_true
abbrev W0:=@List.getElem_mem
abbrev W1:=@List.getElem?_range
abbrev W3:=@Sum.inl.inj
abbrev W4:=@List.mem_filterMap
abbrev W5:=@List.find?_cons
abbrev W6:=@List.getElem?_cons_succ
abbrev W7:=@Nat.add_sub_cancel_left
abbrev W8:=@Nat.le_of_lt
abbrev W9:=@List.length_drop
abbrev Ja:=@List.any_cons
abbrev Jb:=@List.getElem_of_mem
abbrev Jc:=@Bool.false_and
abbrev Jd:=@Option.isSome_map
abbrev Je:=@List.getElem_inj
abbrev Jf:=@List.all_eq_true
abbrev Jg:=@List.any_eq_true
abbrev Jh:=@List.getElem_map
abbrev Ji:=@List.of_mem_zip
abbrev Jj:=@List.map_nil
abbrev Jk:=@Int.ne_of_gt
abbrev Jl:=@List.range_succ
abbrev Jm:=@List.nil_append
namespace L2
open PySem PySem.Spec PyProof.Rows
abbrev Key:=Sum Int Str
def kY:Key->Value->Bool
 |.inl k,v=>Value.isInt k v
 |.inr x,v=>Value.isStrOf x v
def Iw(w:World):Key->Int
 |.inl k=>hashInt k
 |.inr x=>hashStr w x
theorem gX:∀{k:Key} {v:Value},kY k v=true->(∃i t,k=Sum.inl i/\v=Value.int i t)\/(∃x t,k=Sum.inr x/\v=Value.str x t)
 |.inl i,v,h=>by
  obtain⟨t,e⟩:=Value.isInt_shape h
  grind
 |.inr x,v,h=>by
  obtain⟨t,e⟩:=Value.isStrOf_shape h
  grind
theorem Eg(i:Int)(t:Tok):kY (.inl i) (.int i t)=true:=by simp[kY,Value.isInt]
theorem Eh(x:Str)(t:Tok):kY (.inr x) (.str x t)=true:=by simp[kY,Value.isStrOf]
theorem Gs(a b:Int):decide ((Sum.inl a:Key)=Sum.inl b)=(a==b):=by
 grind
theorem Gu(a b:Str):decide ((Sum.inr a:Key)=Sum.inr b)=decide (a=b):=by
 grind
theorem Gv(a:Int)(b:Str):decide ((Sum.inl a:Key)=Sum.inr b)=false:=decide_eq_false (λq=>nomatch q)
theorem Gw(a:Str)(b:Int):decide ((Sum.inr a:Key)=Sum.inl b)=false:=decide_eq_false (λq=>nomatch q)
def cV(prog:Program)(w:World):PySem.KeyKind prog w Key where
 is:=kY
 hash:=Iw w
 inj:=λv a b ha hb=>by
  rcases gX ha with⟨i,t,rfl,rfl⟩|⟨x,t,rfl,rfl⟩
  ·rcases gX hb with⟨j,u,rfl,e⟩|⟨y,u,rfl,e⟩;·injection e with e1 _;rw[e1]
   ·exact nomatch e
  ·rcases gX hb with⟨j,u,rfl,e⟩|⟨y,u,rfl,e⟩;·exact nomatch e
   ·injection e with e1 _;rw[e1]
 byValue:=λk v h=>by
  rcases gX h with⟨i,t,rfl,rfl⟩|⟨x,t,rfl,rfl⟩<;>rfl
 pyHash:=λhv h=>by
  rcases gX hv with⟨i,t,rfl,rfl⟩|⟨x,t,rfl,rfl⟩;·exact wpAny_pyHash_int h
  ·exact wpAny_pyHash_str h
 eqBool:=λhu hv h=>by
  rcases gX hu with⟨i,t,rfl,rfl⟩|⟨x,t,rfl,rfl⟩
  ·rcases gX hv with⟨j,u,rfl,rfl⟩|⟨y,u,rfl,rfl⟩;·rw[Gs] at h;exact wpAny_eqBool_int h
   ·rw[Gv] at h;exact SeqAt.EqAt.int_str i t y u _ _ _ _ h
  ·rcases gX hv with⟨j,u,rfl,rfl⟩|⟨y,u,rfl,rfl⟩;·rw[Gw] at h;exact SeqAt.EqAt.str_int x t j u _ _ _ _ h
   ·rw[Gu] at h;exact wpAny_eqBool_str h
 «strs»:=λk x t v h=>by
  rcases gX h with⟨i,u,rfl,e⟩|⟨y,u,rfl,e⟩;·exact nomatch e
  ·injection e with e1 _;subst e1;cases v<;>rfl
theorem Dv(prog:Program)(w:World)(i:Int)(t:Tok):(cV prog w).is (.inl i) (.int i t)=true:=Eg i t
theorem Dw(prog:Program)(w:World)(x:Str)(t:Tok):(cV prog w).is (.inr x) (.str x t)=true:=Eh x t
inductive V where
 |aD|bl (b:Bool)|int (i:Int)|str (x:Str)|dR (b:Array UInt8)|jT (b:UInt64)|ref (a:Addr)|ty (n:String)
 deriving DecidableEq
def RelV:V->Value->Prop
 |.aD,u=>u=Value.none
 |.bl b,u=>u=Value.bool b
 |.int i,u=>∃t,u=Value.int i t
 |.str x,u=>∃t,u=Value.str x t
 |.dR b,u=>∃t,u=Value.bytes b t
 |.jT b,u=>∃t,u=Value.float b t
 |.ref a,u=>u=Value.ref a
 |.ty n,u=>u=Value.type n
abbrev Vals:List V->List Value->Prop:=Paired RelV
theorem Vals.length{xs:List V}{us:List Value}(r:Vals xs us):xs.length=us.length:=Paired.length r
theorem Vals.get:∀{xs:List V} {us:List Value} {i:Nat} {x:V},Vals xs us->xs[i]?=some x->∃u,us[i]?=some u/\RelV x u
 |_,_,_,_,.nil,e=>by simp at e
 |_,_,0,_,.cons r _,e=>by simp at e;subst e;exact⟨_,rfl,r⟩
 |_,_,i+1,x,.cons _ t,e=>by
  obtain⟨u,h1,h2⟩:=Vals.get t (by simpa using e)
  grind
theorem Vals.append:∀{xs ys:List V} {us ws:List Value},Vals xs us->Vals ys ws->Vals (xs++ys) (us++ws):=by
 intro xs ys us ws h h';induction h with
 |nil=>exact h'
 |cons r t ih=>exact .cons r ih
theorem Vals.take:∀{xs:List V} {us:List Value} (n:Nat),Vals xs us->Vals (xs.take n) (us.take n)
 |_,_,0,_=>.nil
 |_,_,_+1,.nil=>.nil
 |_,_,n+1,.cons r t=>.cons r (Vals.take n t)
theorem Vals.drop:∀{xs:List V} {us:List Value} (n:Nat),Vals xs us->Vals (xs.drop n) (us.drop n)
 |_,_,0,r=>r
 |_,_,_+1,.nil=>.nil
 |_,_,n+1,.cons _ t=>Vals.drop n t
def cZ:Option V->Option Value->Prop
 |some v,some u=>RelV v u
 |none,none=>True
 |_,_=>False
def KV{κ:Type}:List (κ×V)->List (κ×Value)->Prop:=Paired λ(p:κ×V) (q:κ×Value)=>p.1=q.1/\RelV p.2 q.2
def kV:Key->V
 |.inl i=>.int i
 |.inr x=>.str x
inductive HO where
 /--a list-/
 |lst(xs:List V)
 /--a tuple(never changes)-/
 |tup(xs:List V)
 /--a dict Hs keys are ints and texts;one Hs keys are tuples of ints and texts(ij empty one is both)-/
 |dK(aa:List (Key×V))|dT(aa:List (List Key×V))
 /--a set of ints:af members,af size-/
 |set (S:Int->Bool) (n:Nat)
 /--an instance of ij class at C,af dict at dx,af attributes-/
 |ins (C dx:Addr) (fs:List (Str×V))
 /--ij dict of ij instance at x-/
 |own (x:Addr)
 /--ij dict of an exception-/
 |xd (fs:List (Str×V))
 /--a bound method,f of x-/
 |met (f x:Addr)
 /--a range object lo,lo+1,.. below hi-/
 |fH (lo hi:Int)
 /--a Ht MO is known to ij object (ij zo;a dict while a loop walks it):read,never written while it is so-/
 |dS (o:Obj) (u:HO)
 /--a code Mz table-/
 |jU (ps:Array Value)
 /--any other Ht,by MP is true of af one object (a def of MI own:MQ a S n:=HO.ext λh=>..)-/
 |ext (φ:Heap->Prop)
abbrev Hp:=Addr->Option HO
def upd(H:Hp)(a:Addr)(o:HO):Hp:=λb=>if b=a then some o else H b
theorem aF{H:Hp}{a:Addr}{o:HO}:upd H a o a=some o:=by unfold upd;rw[if_pos rfl]
theorem aU{H:Hp}{a b:Addr}{o:HO}(h:b≠a):upd H a o b=H b:=by unfold upd;rw[if_neg h]
theorem tO{H:Hp}{a:Addr}{o u:HO}:upd (upd H a o) a u=upd H a u:=by
 funext b;unfold upd;split<;>rfl
theorem Hu{H:Hp}{a b:Addr}{o u:HO}(h:H a=some o)(h':H b=some u)(d:o≠u):a≠b:=by
 intro e;subst e;rw[h] at h';exact d (Yb h')
theorem aY{H:Hp}{a b:Addr}{o:HO}(h:H a=some o)(h':H b=none):a≠b:=by
 grind
section
variable (P:Program)(w:World)
def fV(h:Heap)(a:Addr)(items:Array Value):Prop:=∃o,h.get? a=some o/\o.cls=.type "tuple"/\∃n,o.data=.seq items n/\o.dict=none
theorem fV.tup{h:Heap}{a:Addr}{items:Array Value}(x:fV h a items):IsTup h a items:=let⟨o,e,c,n,d,_⟩:=x;⟨o,e,c,n,d⟩
theorem fV.lt{h:Heap}{a:Addr}{items:Array Value}(x:fV h a items):a<h.objs.size:=x.tup.lt
theorem fV.new(h:Heap)(items:Array Value):fV (h.push {cls:=.type "tuple",data:=.seq items}) h.objs.size items:=⟨_,Ym _ rfl,rfl,_,rfl,rfl⟩
def bQ(H:Hp)(h:Heap)(a:Addr):HO->Prop
 |.lst xs=>xs.length<=sizeLine/\∃(af:List Value) (n:Nat),Vals xs af/\h.get? a=some {cls:=.type "list",data:=.seq af.toArray n}
 |.tup xs=>xs.length<=sizeLine/\∃af:List Value,Vals xs af/\fV h a af.toArray
 |.dK aa=>aa.length<=sizeLine/\(a==sysModules)=false/\∃vs,KV aa vs/\h.DictOf (cV P w) a vs
 |.dT aa=>aa.length<=sizeLine/\(a==sysModules)=false/\∃xs:List (List Key×Addr×Value),
   Paired (λ(p:List Key×V) (q:List Key×Addr×Value)=>p.1=q.1/\H q.2.1=some (.tup (p.1.map kV))/\RelV p.2 q.2.2) aa xs/\
   ∃o es ep,h.get? a=some o/\o.ExactDict/\o.data=.dict es ep/\es.toList=xs.map (entryOfKey (tupleKind (cV P w)))/\(xs.map (·.1)).Nodup
 |.set S n=>h.SetOf (intKind P w) a S n
 |.ins C dx fs=>H dx=some (.own a)/\fs.length<=1000/\dx≠a/\h.get? a=some (instObj C dx)/\
   ∃mA,h.Ns1 dx mA/\(∀f,cZ (fs.lookup f) (mA f))/\PySem.Within mA (fs.map (·.1))
 |.own _=>∃o,h.get? a=some o
 |.xd fs=>∃mA,h.Ns1 a mA/\∀f,cZ (fs.lookup f) (mA f)
 |.fH lo hi=>∃t u v,h.get? a=some {cls:=.type "range",data:=.fields #[.int lo t,.int hi u,.int 1 v]}
 |.dS o u=>h.get? a=some o/\bQ H h a u
 |.jU ps=>h.get? a=some {cls:=.none,data:=.fields ps}
 |.met f x=>h.get? a=some (methodObj (.ref f) (.ref x))
 |.ext φ=>φ h/\(∃o,h.get? a=some o)/\∀h1 h2:Heap,φ h1->(∀o,h1.get? a=some o->h2.get? a=some o)->φ h2
def bN(H:Hp)(h:Heap):Prop:=∀a o,H a=some o->bQ P w H h a o
end
section
variable {P:Program}{w:World}{H H':Hp}{h h':Heap}{a:Addr}{o:HO}
theorem bQ.lt(x:bQ P w H h a o):a<h.objs.size:=by
 cases o with
 |lst xs=>obtain⟨_,_,_,_,e⟩:=x;exact Yn e
 |tup xs=>obtain⟨_,_,_,p⟩:=x;exact p.lt
 |dK aa=>obtain⟨_,_,_,_,o,_,_,e,_⟩:=x;exact Yn e
 |dT aa=>obtain⟨_,_,_,_,o,_,_,e,_⟩:=x;exact Yn e
 |set S n=>obtain⟨o,_,_,_,e,_⟩:=x;exact Yn e
 |ins C dx fs=>obtain⟨_,_,_,e,_⟩:=x;exact Yn e
 |own y=>obtain⟨_,e⟩:=x;exact Yn e
 |xd fs=>obtain⟨_,⟨_,_,_,e,_⟩,_⟩:=x;exact Yn e
 |fH lo hi=>obtain⟨_,_,_,e⟩:=x;exact Yn e
 |dS ob u=>obtain⟨e,_⟩:=x;exact Yn e
 |jU ps=>exact Yn (show h.get? a=some _ from x)
 |met f y=>exact Yn (show h.get? a=some _ from x)
 |ext φ=>obtain⟨_,⟨_,e⟩,_⟩:=x;exact Yn e
theorem Paired.bM{α β:Type}{F G:α->β->Prop}:∀{uJ:List α} {uK:List β},Paired F uJ uK->(∀a b,F a b->G a b)->Paired G uJ uK:=by
 intro uJ uK h f;induction h with
 |nil=>exact .nil
 |cons r t ih=>exact .cons (f _ _ r) ih
theorem bQ.mY(x:bQ P w H h a o)(k:∀b u,(b=a\/H b=some (.own a))->h.get? b=some u->h'.get? b=some u)
  (ho:∀b,H b=some (.own a)->H' b=some (.own a))(ht:∀b xs,H b=some (.tup xs)->H' b=some (.tup xs)):bQ P w H' h' a o:=by
 induction o with
 |lst xs=>obtain⟨z,af,n,r,e⟩:=x;exact⟨z,af,n,r,k _ _ (.inl rfl) e⟩
 |tup xs=>obtain⟨z,af,r,ob,e,c⟩:=x;exact⟨z,af,r,ob,k _ _ (.inl rfl) e,c⟩
 |dK aa=>obtain⟨z,y,vs,r,ob,es,ep,e,c⟩:=x;exact⟨z,y,vs,r,ob,es,ep,k _ _ (.inl rfl) e,c⟩
 |dT aa=>
  obtain⟨z,y,xs,r,ob,es,ep,e,c⟩:=x;exact⟨z,y,xs,Paired.bM r λp q z=>⟨z.1,ht _ _ z.2.1,z.2.2⟩,ob,es,ep,k _ _ (.inl rfl) e,c⟩
 |set S n=>obtain⟨ob,es,ep,t,e,c⟩:=x;exact⟨ob,es,ep,t,k _ _ (.inl rfl) e,c⟩
 |ins C dx fs=>
  obtain⟨d,z,ne,e,mA,⟨od,es,ep,e2,c⟩,r⟩:=x;exact⟨ho _ d,z,ne,k _ _ (.inl rfl) e,mA,⟨od,es,ep,k _ _ (.inr d) e2,c⟩,r⟩
 |own y=>obtain⟨ob,e⟩:=x;exact⟨ob,k _ _ (.inl rfl) e⟩
 |xd fs=>obtain⟨mA,⟨od,es,ep,e,c⟩,r⟩:=x;exact⟨mA,⟨od,es,ep,k _ _ (.inl rfl) e,c⟩,r⟩
 |fH lo hi=>obtain⟨t,u,v,e⟩:=x;exact⟨t,u,v,k _ _ (.inl rfl) e⟩
 |dS ob u ih=>obtain⟨e,q⟩:=x;exact⟨k _ _ (.inl rfl) e,ih q⟩
 |jU ps=>
  have e:h.get? a=some {cls:=.none,data:=.fields ps}:=x;show h'.get? a=some {cls:=.none,data:=.fields ps};exact k a _ (.inl rfl) e
 |met f y=>
  have e:h.get? a=some (methodObj (.ref f) (.ref y)):=x;show h'.get? a=some (methodObj (.ref f) (.ref y));exact k a _ (.inl rfl) e
 |ext φ=>obtain⟨p,⟨o,e⟩,st⟩:=x;exact⟨st _ _ p λo q=>k _ _ (.inl rfl) q,⟨o,k _ _ (.inl rfl) e⟩,st⟩
theorem bN.lt(x:bN P w H h)(e:H a=some o):a<h.objs.size:=(x a o e).lt
theorem bN.fresh(x:bN P w H h)(e:h.objs.size<=a):H a=none:=by
 cases q:H a with
 |none=>rfl
 |some u=>exact absurd (Yr (x.lt q) e) (Wi _)
theorem bN.kept(x:bN P w H h)(k:∀b u,h.get? b=some u->h'.get? b=some u):bN P w H h':=λa o e=>
 (x a o e).mY (λb u _ q=>k b u q) (λ_ q=>q) λ_ _ q=>q
theorem bN.laid(x:bN P w H h)(k:∀b u,h.get? b=some u->h'.get? b=some u)(hp:h.objs.size<=a)(new:bQ P w (upd H a o) h' a o):bN P w (upd H a o) h':=λb u e=>by
 have hn:=x.fresh hp;by_cases hb:b=a;·subst hb;rw[aF] at e;cases e;exact new
 ·rw[aU hb] at e;exact(x b u e).mY (λc v _ q=>k c v q) (λc q=>by rw[aU (aY q hn)];exact q) λc xs q=>by rw[aU (aY q hn)];exact q
end
def Rd(H:Hp)(a:Addr)(u:HO):Prop:=H a=some u\/∃o,H a=some (.dS o u)
theorem Rd.ok{P:Program}{w:World}{H:Hp}{h:Heap}{a:Addr}{u:HO}(r:Rd H a u)(x:bN P w H h):bQ P w H h a u:=by
 rcases r with r|⟨o,r⟩;·exact x a u r
 ·obtain⟨_,q⟩:=x a _ r;exact q
def nr:Option HO->Prop
 |some (.lst _)=>True
 |some (.dK _)=>True
 |some (.dT _)=>True
 |some (.set _ _)=>True
 |some (.ins _ _ _)=>True
 |some (.ext _)=>True
 |_=>False
section
variable {P:Program}{w:World}{H:Hp}{h h':Heap}{x e:Addr}{o':HO}
theorem bN.write(ok:bN P w H h)(mu:nr (H x))(he:e=x\/H e=some (.own x))(k:∀b u,b≠e->h.get? b=some u->h'.get? b=some u)(nv:∃u,h'.get? e=some u)
  (new:bQ P w (upd H x o') h' x o'):bN P w (upd H x o') h':=λb u q=>by
 have AN:∀c y,H c=some (.own y)->c≠x:=λc y r z=>by subst z;rw[r] at mu;exact mu
 have Iy:∀c xs,H c=some (.tup xs)->c≠x:=λc xs r z=>by subst z;rw[r] at mu;exact mu
 by_cases hb:b=x;·subst hb;rw[aF] at q;cases q;exact new
 ·rw[aU hb] at q;by_cases pZ:b=e
  ·have q':H b=some (.own x):=by
    rcases he with z|z;·exact absurd (pZ.trans z) hb
    ·rw[pZ];exact z
   rw[q] at q';cases q';obtain⟨v,hv⟩:=nv;exact⟨v,by rw[pZ];exact hv⟩
  ·refine(ok b u q).mY (λc v hc r=>k c v ?_ r) (λc r=>by rw[aU (AN c b r)];exact r) λc xs r=>by rw[aU (Iy c xs r)];exact r
   rcases hc with rfl|hc;·exact pZ
   ·rintro rfl;rcases he with z|z;·exact AN c b hc z
    ·rw[hc] at z;cases z;exact hb rfl
end
structure Un(fs ex:List Addr)(H H':Hp)(h h':Heap):Prop where
 keep:∀b o,h.get? b=some o->H b=none->b∉fs->b∉ex->h'.get? b=some o
 slot:∀b o,h.get? b=some o->H b=none->b∈fs->b∉ex->∃sl,h'.get? b=some {o with slots:=sl}
 free:∀b o,h.get? b=some o->H b=none->b∉ex->H' b=none
 there:∀b o,h.get? b=some o->b∉ex->∃o',h'.get? b=some o'
 eZ:∀b xs,H b=some (.tup xs)->H' b=some (.tup xs)
 ia:∀b o u,H b=some (.dS o u)->H' b=some (.dS o u)
 i7:∀b ps,H b=some (.jU ps)->∃more,H' b=some (.jU (ps++more))
section
variable {fs JK ex M0:List Addr}{H H1 H2:Hp}{h h1 h2 h':Heap}{a x e:Addr}{o:HO}
theorem Un.any(u:Un fs ex H H1 h h1){b:Addr}{ob:Obj}(q:h.get? b=some ob)(n:H b=none)(hx:b∉ex):∃sl,h1.get? b=some {ob with slots:=sl}:=by
 by_cases hb:b∈fs;·exact u.slot b ob q n hb hx
 ·exact⟨ob.slots,u.keep b ob q n hb hx⟩
theorem Un.kept(k:∀b u,h.get? b=some u->h'.get? b=some u):Un fs ex H H h h':=
 ⟨λb ob q _ _ _=>k b ob q,λb ob q _ _ _=>⟨ob.slots,k b ob q⟩,λ_ _ _ n _=>n,λb ob q _=>⟨ob,k b ob q⟩,λ_ _ q=>q,λ_ _ _ q=>q,λ_ ps q=>⟨#[],by rw[q];simp⟩⟩
theorem Un.refl:Un fs ex H H h h:=Un.kept λ_ _ q=>q
theorem Un.laid(k:∀b u,h.get? b=some u->h'.get? b=some u)(hp:h.objs.size<=a)(hn:H a=none):Un fs ex H (upd H a o) h h' where
 keep:=λb u q _ _ _=>k b u q
 slot:=λb u q _ _ _=>⟨u.slots,k b u q⟩
 free:=λb u q n _=>by rw[aU (Yz (Yr (Yn q) hp))];exact n
 there:=λb u q _=>⟨u,k b u q⟩
 eZ:=λb xs q=>by rw[aU (aY q hn)];exact q
 ia:=λb u xs q=>by rw[aU (aY q hn)];exact q
 i7:=λb ps q=>⟨#[],by rw[aU (aY q hn),q];simp⟩
theorem Un.write(mu:nr (H x))(he:e=x\/H e=some (.own x))(k:∀b u,b≠e->h.get? b=some u->h'.get? b=some u)(nv:∃u,h'.get? e=some u):Un fs ex H (upd H x o) h h':=by
 have hx:∀b,H b=none->b≠x:=λb n z=>by subst z;rw[n] at mu;exact mu
 have hb:∀b,H b=none->b≠e:=λb n z=>by
  grind
 have hm:∀b u,H b=some u->¬nr (some u)->b≠x:=λb u q nm z=>by subst z;rw[q] at mu;exact nm mu
 refine⟨λb u q n _ _=>k b u (hb b n) q,λb u q n _ _=>⟨u.slots,k b u (hb b n) q⟩,λb u q n _=>by rw[aU (hx b n)];exact n,λb u q _=>?_,
  λb xs q=>by rw[aU (hm b _ q λz=>z)];exact q,λb u xs q=>by rw[aU (hm b _ q λz=>z)];exact q,λb ps q=>⟨#[],by rw[aU (hm b _ q λz=>z),q];simp⟩⟩
 grind
end
def vz(h:Heap)(H:Hp):List Addr:=(List.range h.objs.size).filter λa=>(H a).isSome
def ib(h:Heap)(H:Hp):Heap:=PySem.W.hideAll h (vz h H)
theorem Ei(h:Heap)(H:Hp):(ib h H).objs.size=h.objs.size:=PySem.W.hideAll_size _ _
theorem EJ{h:Heap}{H:Hp}{b:Addr}{o:Obj}(e:h.get? b=some o)(n:H b=none):(ib h H).get? b=some o:=
 PySem.W.hideAll_get _ e λhm=>by
  have q:=(Wt.mp hm).2
  grind
theorem Fz{h:Heap}{H:Hp}{b:Addr}{o:Obj}(e:(ib h H).get? b=some o):h.get? b=some o/\H b=none:=by
 have e':=PySem.W.of_hideAll (vz h H) e;refine⟨e',?_⟩;cases q:H b with
 |none=>rfl
 |some x=>
  have z:(ib h H).get? b=none:=PySem.W.hideAll_none (vz h H) (Wt.mpr ⟨Wa.mpr (Yn e'),by simp[q]⟩)
  grind
structure Mod(K:ag)(mg:aG)(base:Heap):Prop where
 jV:K.In base
 glob:base.Ns mainGlobals mg
 blt:∃mb,base.Ns builtinsNs mb/\∀x:Str,x≠"__name__"->mb x=bootBuiltins x
 nolimit:base.NoLimit
structure Cx where
 prog:Program
 w:World
 K:ag
 mg:Str->Option Value
 base:Heap
 A:Around
 N:List Str
 bS:Shared
 mZ:Hp
 env:Env
 outer:List Env
 stack:List Env
 ex:List Addr
 fn:Str->Bool
 calm:Bool
 pn:List (Addr×Obj)
 xe:Value->Shared->Prop
abbrev Cx.md(X:Cx):=model X.prog X.w
abbrev fI(X:Cx)(e:Expr)(es:List Expr):Prop:=starEach (e::es) X.env=(false,eval e X.env)::starEach es X.env
abbrev gi(X:Cx)(pos:Pos)(es:List Expr):Prop:=(backTo pos (starEach es X.env)).any (·.1)=false
def cP(l:List Env):List Addr:=l.filterMap (·.frame)
abbrev Cx.fs(X:Cx):List Addr:=cP X.outer
def lh(sc:Scope)(x:Str):Prop:=sc.names.lookup x=some .local\/sc.names.lookup x=some .cell\/sc.names.lookup x=some .free
def Loc(sc:Scope)(x:Str):Prop:=sc.names.lookup x=some .local\/sc.names.lookup x=some .cell
def Look(env:Env)(h:Heap)(m:aG)(x:Str)(u:Value):Prop:=
 (env.kindOf x=some .local/\m x=some u)\/((env.kindOf x=some .cell\/env.kindOf x=some .free)/\∃c,env.cells.lookup x=some c/\h.IsCell c (some u))
structure Cx.Ok(X:Cx):Prop where
 mod:Mod X.K X.mg X.base
 kind:X.env.scope.kind=.function
 glob:X.env.globals=mainGlobals
 blt:X.env.builtins=builtinsNs
 above:X.bS.heap.objs.size<=X.env.locals
 inj:∀x y c,X.env.cells.lookup x=some c->X.env.cells.lookup y=some c->x=y
 has:∀x,(X.env.kindOf x=some .cell\/X.env.kindOf x=some .free)->∃c,X.env.cells.lookup x=some c
 ny:∀x c,X.fn x=true->X.env.cells.lookup x=some c->X.bS.heap.objs.size<=c
 hd:X.calm=true->X.A.handled=none
 frames:X.A.frames=some X.stack
 p_:X.stack=X.outer\/(X.stack=X.env::X.outer/\X.env.frame=some X.env.locals)
 qa:∀b∈X.ex,b≠X.env.locals/\∀x c,X.env.cells.lookup x=some c->c≠b
 bs:∀b o,X.base.get? b=some o->X.bS.heap.get? b=some o/\X.mZ b=none
 ik:X.base.objs.size<=X.bS.heap.objs.size
 m3:∀b o,X.base.get? b=some o->b∉X.ex
 m4:∀b∈X.ex,b∉X.fs
 e6:X.bS.heap.FunFrames X.base X.outer
 jW:∀b∈X.fs,X.mZ b=none
structure Inv(X:Cx)(pins:aB)(σ:List (Option V))(H:Hp)(s:Shared):Prop where
 ok:X.Ok
 os:s.os=X.bS.os
 bare:AllBare s.gens
 base:Un X.fs X.ex X.mZ H X.bS.heap s.heap
 loc:∃m,s.heap.Ns X.env.locals m/\∀(i:Nat) (x:Str) (v:V),X.N[i]?=some x->σ[i]?=some (some v)->lh X.env.scope x->∃u,RelV v u/\Look X.env s.heap m x u
 cell:∀x c,X.env.cells.lookup x=some c->∃v,s.heap.IsCell c v
 free:H X.env.locals=none
 fX:∀x c,X.env.cells.lookup x=some c->H c=none
 pin:∀p∈X.pn++pins,s.heap.get? p.1=some p.2/\H p.1=none/\p.1≠X.env.locals/\p.1∉X.fs/\∀v,p.2.data≠.cell v
 ar:bN X.prog X.w H s.heap
 len:σ.length=X.N.length
section
variable {X:Cx}{pins:aB}{σ:List (Option V)}{H H':Hp}{s:Shared}{h':Heap}
theorem Cx.Ok.Iz(ok:X.Ok){b:Addr}{o:Obj}(e:X.base.get? b=some o):b∉X.fs:=λhb=>by
 have:=(ok.e6.mem hb).1
 grind
theorem Inv.bs(I:Inv X pins σ H s):∀b o,X.base.get? b=some o->s.heap.get? b=some o/\H b=none:=λb o e=>
 ⟨I.base.keep b o (I.ok.bs b o e).1 (I.ok.bs b o e).2 (I.ok.Iz e) (I.ok.m3 b o e),I.base.free b o (I.ok.bs b o e).1 (I.ok.bs b o e).2 (I.ok.m3 b o e)⟩
theorem Inv.bk(I:Inv X pins σ H s):∀b o,X.base.get? b=some o->s.heap.get? b=some o:=λb o e=>(I.bs b o e).1
theorem Inv.mod(I:Inv X pins σ H s):Mod X.K X.mg X.base:=I.ok.mod
theorem Inv.bX(I:Inv X pins σ H s):X.K.In s.heap:=I.ok.mod.jV.keeps I.bk
theorem Inv.lt(I:Inv X pins σ H s):X.env.locals<s.heap.objs.size:=let⟨_,hn,_⟩:=I.loc;hn.lt
theorem Inv.sz(I:Inv X pins σ H s):X.bS.heap.objs.size<=s.heap.objs.size:=Y5 I.ok.above (W8 I.lt)
theorem Inv.IA(I:Inv X pins σ H s){a:Addr}(h:s.heap.objs.size<=a):a∉X.fs:=λhb=>by
 obtain⟨_,o,ho,_⟩:=I.ok.e6.mem hb;exact absurd (Yr (Yn ho) (Y5 I.sz h)) (Wi _)
theorem Inv.jX(I:Inv X pins σ H s):∀x c,X.env.cells.lookup x=some c->c≠X.env.locals:=λx c e z=>by
 obtain⟨v,o,ho,hd⟩:=I.cell x c e;obtain⟨m,⟨o',es,ep,lj,lp,_⟩,_⟩:=I.loc
 grind
theorem Inv.e6(I:Inv X pins σ H s):s.heap.FunFrames X.base X.outer:=by
 have all:∀(l:List Env),(∀b∈cP l,b∈X.fs)->X.bS.heap.FunFrames X.base l->s.heap.FunFrames X.base l:=by
  intro l;induction l with
  |nil=>intro _ _;trivial
  |cons env r ih=>
   rintro hs ⟨hk,⟨L,o,hf,hn,ho,hd⟩,hr⟩;have hL:=hs L (by unfold cP;rw[Wd,hf];exact Yv);obtain⟨sl,e⟩:=I.base.slot L o ho (I.ok.jW L hL) hL λz=>I.ok.m4 L z hL;exact⟨hk,⟨L,_,hf,hn,e,hd⟩,ih (λb hb=>hs b (by unfold cP;rw[Wd,hf];exact Yx _ hb)) hr⟩
 exact all X.outer (λ_ hb=>hb) I.ok.e6
theorem Inv.stack(I:Inv X pins σ H s):s.heap.FunFrames X.base X.stack:=by
 rcases I.ok.p_ with e|⟨e,hf⟩;·rw[e];exact I.e6
 ·rw[e];obtain⟨m,hn,_⟩:=I.loc;refine .cons (by rw[I.ok.kind];decide) hf hn ?_ I.e6;exact Heap.get?_none_of_le (Y5 I.ok.ik I.ok.above)
theorem Inv.t7(I:Inv X pins σ H s):∀b∈cP X.stack,b∈X.env.locals::X.fs:=λb hb=>by
 rcases I.ok.p_ with e|⟨e,hf⟩;·grind
 ·rw[e] at hb;unfold cP at hb;rw[Wd,hf] at hb;exact hb
theorem Inv.yC(I:Inv X pins σ H s):∀b∈cP X.stack,H b=none:=λb hb=>by
 rcases Yw.mp (I.t7 b hb) with e|hb;·rw[e];exact I.free
 ·obtain⟨_,o,ho,_⟩:=I.ok.e6.mem hb;exact I.base.free b o ho (I.ok.jW b hb) λz=>I.ok.m4 b z hb
theorem Inv.step{g':Array GenState}{t':Nat}{d':Drawn}{ch:List Addr}(I:Inv X pins σ H s)
  (gj:∀b∈ch,(b∈X.ex\/X.bS.heap.objs.size<=b)/\b≠X.env.locals/\(∀x c,X.env.cells.lookup x=some c->c≠b)/\∀p∈X.pn++pins,p.1≠b)
  (keep:∀b o,b≠X.env.locals->b∉X.fs->b∉ch->s.heap.get? b=some o->H b=none->h'.get? b=some o)
  (slot:∀b o,b≠X.env.locals->b∈X.fs->b∉ch->s.heap.get? b=some o->H b=none->∃sl,h'.get? b=some {o with slots:=sl})(free:∀b o,b∉ch->s.heap.get? b=some o->H b=none->H' b=none)
  (there:∀b o,b∉ch->s.heap.get? b=some o->∃o',h'.get? b=some o')
  (eZ:∀b xs,H b=some (.tup xs)->H' b=some (.tup xs))(ia:∀b o u,H b=some (.dS o u)->H' b=some (.dS o u))(i7:∀b ps,H b=some (.jU ps)->∃more,H' b=some (.jU (ps++more)))
  (ns:∀m,s.heap.Ns X.env.locals m->h'.Ns X.env.locals m)(ar:bN X.prog X.w H' h')(hg:AllBare g'):
  Inv X pins σ H' {s with heap:=h',gens:=g',drawn:=d',toks:=t'}:=by
 have Bs:∀b o,X.bS.heap.get? b=some o->b≠X.env.locals:=λb o e=>Yz (Yr (Yn e) I.ok.above);have qb:∀b o,X.bS.heap.get? b=some o->b∉X.ex->b∉ch:=λb o e hx hb=>by
  rcases(gj b hb).1 with z|z;·exact hx z
  ·exact absurd (Yr (Yn e) z) (Wi _)
 have cellK:∀x c,X.env.cells.lookup x=some c->∀v,s.heap.IsCell c v->h'.IsCell c v:=λx c e v ⟨o,ho,hd⟩=>by
  have nA:c∉ch:=λz=>(gj c z).2.2.1 x c e rfl;by_cases hc:c∈X.fs
  ·obtain⟨sl,q⟩:=slot c o (I.jX x c e) hc nA ho (I.fX x c e);exact⟨_,q,hd⟩
  ·exact⟨o,keep c o (I.jX x c e) hc nA ho (I.fX x c e),hd⟩
 refine⟨I.ok,I.os,hg,⟨λb o e n hb hx=>?_,λb o e n hb hx=>?_,λb o e n hx=>?_,λb o e hx=>?_,λb xs e=>eZ b xs (I.base.eZ b xs e),λb o xs e=>ia b o xs (I.base.ia b o xs e),λb ps e=>?_⟩,?_,λx c e=>?_,?_,λx c e=>?_,λp hp=>?_,ar,I.len⟩;·exact keep b o (Bs b o e) hb (qb b o e hx) (I.base.keep b o e n hb hx) (I.base.free b o e n hx)
 ·obtain⟨sl,e1⟩:=I.base.slot b o e n hb hx;obtain⟨JL,e2⟩:=slot b _ (Bs b o e) hb (qb b o e hx) e1 (I.base.free b o e n hx);exact⟨JL,e2⟩
 ·obtain⟨o',e1⟩:=I.base.there b o e hx;exact free b o' (qb b o e hx) e1 (I.base.free b o e n hx)
 ·obtain⟨o',e1⟩:=I.base.there b o e hx;exact there b o' (qb b o e hx) e1
 ·obtain⟨m1,e1⟩:=I.base.i7 b ps e;obtain⟨m2,e2⟩:=i7 b _ e1;exact⟨m1++m2,by rw[e2,Array.append_assoc]⟩
 ·obtain⟨m,hn,hl⟩:=I.loc;refine⟨m,ns m hn,λi x v e1 e2 e3=>?_⟩;obtain⟨u,r,l⟩:=hl i x v e1 e2 e3;refine⟨u,r,?_⟩;rcases l with l|⟨k,c,e,z⟩;·exact .inl l
  ·exact .inr ⟨k,c,e,cellK x c e _ z⟩
 ·obtain⟨v,z⟩:=I.cell x c e;exact⟨v,cellK x c e v z⟩
 ·obtain⟨m,⟨o,_,_,ho,_⟩,_⟩:=I.loc;exact free _ o (λz=>(gj _ z).2.1 rfl) ho I.free
 ·obtain⟨v,o,ho,hd⟩:=I.cell x c e;exact free c o (λz=>(gj c z).2.2.1 x c e rfl) ho (I.fX x c e)
 ·obtain⟨e,n,ne,nf,d⟩:=I.pin p hp;have nA:p.1∉ch:=λz=>(gj p.1 z).2.2.2 p hp rfl;exact⟨keep p.1 p.2 ne nf nA e n,free p.1 p.2 nA e n,ne,nf,d⟩
theorem Inv.un{t':Nat}(I:Inv X pins σ H s)(u:Un X.fs [] H H' s.heap h')(ar:bN X.prog X.w H' h'):Inv X pins σ H' {s with heap:=h',toks:=t'}:=by
 obtain⟨m,⟨o,es,ep,ho,r⟩,_⟩:=id I.loc;obtain⟨sl,hL⟩:=u.any ho I.free (by simp);exact I.step (g':=s.gens) (d':=s.drawn) (ch:=[]) (λ_ z=>nomatch z) (λb o _ hb _ e n=>u.keep b o e n hb (by simp)) (λb o _ hb _ e n=>u.slot b o e n hb (by simp)) (λb o _ e n=>u.free b o e n (by simp)) (λb o _ e=>u.there b o e (by simp)) u.eZ u.ia u.i7 (λm' hm=>by
  obtain⟨o',eh,vA,lj,r'⟩:=hm;rw[ho] at lj;cases lj;exact⟨_,eh,vA,hL,r'⟩) ar I.bare
theorem Inv.call{g':Array GenState}{t':Nat}{d':Drawn}{ch:List Addr}(I:Inv X pins σ H s)(u:Un (cP X.stack) ch H H' s.heap h')(ar:bN X.prog X.w H' h')(hg:AllBare g')
  (gj:∀b∈ch,(b∈X.ex\/X.bS.heap.objs.size<=b)/\b≠X.env.locals/\(∀x c,X.env.cells.lookup x=some c->c≠b)/\∀p∈X.pn++pins,p.1≠b):
  Inv X pins σ H' {s with heap:=h',gens:=g',drawn:=d',toks:=t'}:=by
 obtain⟨m,⟨o,es,ep,ho,r⟩,_⟩:=id I.loc;obtain⟨sl,hL⟩:=u.any ho I.free λz=>(gj _ z).2.1 rfl;exact I.step (ch:=ch) gj (λb o hL hb hc e n=>u.keep b o e n (λz=>(Yw.mp (I.t7 b z)).elim hL hb) hc) (λb o _ _ hc e n=>u.any e n hc) (λb o hc e n=>u.free b o e n hc) (λb o hc e=>u.there b o e hc) u.eZ u.ia u.i7 (λm' hm=>by
  obtain⟨o',eh,vA,lj,r'⟩:=hm;rw[ho] at lj;cases lj;exact⟨_,eh,vA,hL,r'⟩) ar hg
theorem Inv.turned{t':Nat}{it:Addr}(I:Inv X pins σ H s)(k:∀b o,b≠it->s.heap.get? b=some o->h'.get? b=some o)(hn:H it=none)(hL:it≠X.env.locals)
  (h1:it∈X.ex\/X.bS.heap.objs.size<=it)(h2:∀x c,X.env.cells.lookup x=some c->c≠it)(h3:∀p∈X.pn++pins,p.1≠it):Inv X pins σ H {s with heap:=h',toks:=t'}:=by
 have Bu:∀b u,H b=some u->b≠it:=λb u e z=>by rw[z,hn] at e;cases e
 refine I.step (g':=s.gens) (d':=s.drawn) (ch:=[it]) (λb hb=>?_) (λb o _ _ hc e _=>k b o (λz=>hc (by simp[z])) e) (λb o _ _ hc e _=>⟨o.slots,k b o (λz=>hc (by simp[z])) e⟩) (λ_ _ _ _ n=>n)
  (λb o hc e=>⟨o,k b o (λz=>hc (by simp[z])) e⟩) (λ_ _ e=>e) (λ_ _ _ e=>e) (λb ps e=>⟨#[],by rw[e];simp⟩) (λm hm=>?_) (λb u e=>?_) I.bare
 ·have e:b=it:=by simpa using hb
  subst e;exact⟨h1,hL,h2,h3⟩
 ·obtain⟨o,es,ep,ho,r⟩:=hm;exact⟨o,es,ep,k _ o (Ne.symm hL) ho,r⟩
 ·refine(I.ar b u e).mY (λc v hc q=>k c v ?_ q) (λ_ q=>q) λ_ _ q=>q;rcases hc with z|z;·rw[z];exact Bu b u e
  ·exact Bu c _ z
theorem Inv.tok(I:Inv X pins σ H s)(t:Nat):Inv X pins σ H {s with toks:=t}:=I.un (h':=s.heap) (t':=t) Un.refl I.ar
theorem Inv.kept{t':Nat}(I:Inv X pins σ H s)(k:∀b u,s.heap.get? b=some u->h'.get? b=some u):Inv X pins σ H {s with heap:=h',toks:=t'}:=I.un (Un.kept k) (I.ar.kept k)
theorem Inv.laid{a:Addr}{o:HO}{t':Nat}(I:Inv X pins σ H s)(k:∀b u,s.heap.get? b=some u->h'.get? b=some u)(hp:s.heap.objs.size<=a)(new:bQ X.prog X.w (upd H a o) h' a o):
  Inv X pins σ (upd H a o) {s with heap:=h',toks:=t'}:=I.un (Un.laid k hp (I.ar.fresh hp)) (I.ar.laid k hp new)
theorem Inv.write{x e:Addr}{o:HO}{t':Nat}(I:Inv X pins σ H s)(mu:nr (H x))(he:e=x\/H e=some (.own x))(k:∀b u,b≠e->s.heap.get? b=some u->h'.get? b=some u)(nv:∃u,h'.get? e=some u)
  (new:bQ X.prog X.w (upd H x o) h' x o):Inv X pins σ (upd H x o) {s with heap:=h',toks:=t'}:=I.un (Un.write mu he k nv) (I.ar.write mu he k nv new)
theorem Inv.yD{Aj:aB}(I:Inv X pins σ H s)(h:∀p∈Aj,s.heap.get? p.1=some p.2/\H p.1=none/\p.1≠X.env.locals/\p.1∉X.fs/\∀v,p.2.data≠.cell v):Inv X Aj σ H s:=
 ⟨I.ok,I.os,I.bare,I.base,I.loc,I.cell,I.free,I.fX,λp hp=>(Yu.mp hp).elim (λz=>I.pin p (Y8 _ z)) (h p),I.ar,I.len⟩
theorem ya{N:List Str}(hN:N.Nodup){i j:Nat}{x:Str}(a:N[i]?=some x)(b:N[j]?=some x):i=j:=by
 obtain⟨h1,e1⟩:=Yi.mp a;obtain⟨h2,e2⟩:=Yi.mp b;exact(Je hN).mp (e1.trans e2.symm)
theorem xK{M:Model}{A:Around}{E:aE}{i:Nat}{x:Str}{v:V}{u:Value}{Q:Unit->Shared->Prop}(I:Inv X pins σ H s)(hN:X.N.Nodup)(hi:X.N[i]?=some x)(hx:Loc X.env.scope x)(r:RelV v u)
  (h:∀s',Inv X pins (σ.set i (some v)) H s'->(∃a,Heap.SameBut a s.heap s'.heap/\(a=X.env.locals\/X.env.cells.lookup x=some a))->Q () s')(hf:X.fn x=true\/X.env.scope.names.lookup x=some .local:=by first|exact .inl rfl|exact .inr rfl|assumption):wpAny M A (storeName X.env x u) Q E s:=by
 obtain⟨m,hn,hl⟩:=id I.loc;have IB:(X.env.scope.kind==.class||(X.env.scope.kind==.module&&X.env.locals !=X.env.globals))=false:=by rw[I.ok.kind];rfl
 have AO:i<σ.length:=by rw[I.len];exact(Yi.mp hi).1
 have jX:=I.jX;have tracked:∀{a:Addr} {h':Heap},(∃o,s.heap.get? a=some o/\H a=none)->Heap.SameBut a s.heap h'->bN X.prog X.w H h':=λ{a h'} ha hs b ob e=>by
  obtain⟨_,_,Ak⟩:=ha;refine(I.ar b ob e).mY (λc w' hc q=>(hs.2 c ?_).trans q) (λ_ q=>q) λ_ _ q=>q;rintro rfl;rcases hc with rfl|hc;·rw[Ak] at e;cases e
  ·rw[Ak] at hc;cases hc
 rcases hx with hk|hk
 ·refine wpAny_storeName_local hk hn (λh' qc hs=>?_) IB;obtain⟨oL,_,_,nC,_⟩:=id hn;refine h _ ⟨I.ok,I.os,I.bare,⟨λb o e n hb hx=>?_,λb o e n hb hx=>?_,I.base.free,λb o e hx=>?_,I.base.eZ,I.base.ia,I.base.i7⟩,⟨_,qc,λj y v' e1 e2 e3=>?_⟩,λy c e=>?_,I.free,I.fX,λp hp=>?_,tracked ⟨oL,nC,I.free⟩ hs,by simpa using I.len⟩ ⟨_,hs,.inl rfl⟩;·exact(hs.2 b (Yz (Yr (Yn e) I.ok.above))).trans (I.base.keep b o e n hb hx)
  ·obtain⟨sl,e1⟩:=I.base.slot b o e n hb hx;exact⟨sl,(hs.2 b (Yz (Yr (Yn e) I.ok.above))).trans e1⟩
  ·obtain⟨o',e1⟩:=I.base.there b o e hx;exact⟨o',(hs.2 b (Yz (Yr (Yn e) I.ok.above))).trans e1⟩
  ·by_cases hj:j=i
   ·subst hj;rw[hi] at e1;cases e1;rw[List.getElem?_set_self AO] at e2;cases e2;exact⟨u,r,.inl ⟨hk,by simp⟩⟩
   ·rw[List.getElem?_set_ne (Ne.symm hj)] at e2;obtain⟨u',r',q⟩:=hl j y v' e1 e2 e3;refine⟨u',r',?_⟩;rcases q with⟨k,e⟩|⟨k,c,e,z⟩
    ·refine .inl ⟨k,?_⟩;have:y≠x:=λe=>hj (ya hN e1 (e▸hi));simp[this,e]
    ·exact .inr ⟨k,c,e,z.sameBut hs (jX y c e)⟩
  ·obtain⟨w',z⟩:=I.cell y c e;exact⟨w',z.sameBut hs (jX y c e)⟩
  ·obtain⟨e,n,ne,nf,d⟩:=I.pin p hp;exact⟨(hs.2 p.1 ne).trans e,n,ne,nf,d⟩
 ·have vB:X.fn x=true:=by
   rcases hf with z|z;·exact z
   ·rw[z] at hk;cases hk
  obtain⟨c,hc⟩:=I.ok.has x (.inl hk);obtain⟨w',z⟩:=I.cell x c hc;refine wpAny_storeName_cell I.ok.kind hk hc z (λh' Bv hs=>?_);obtain⟨oc,Bw,IC⟩:=id z;refine h {s with heap:=h'} ⟨I.ok,I.os,I.bare,⟨λb o e n hb hx=>?_,λb o e n hb hx=>?_,I.base.free,λb o e hx=>?_,I.base.eZ,I.base.ia,I.base.i7⟩,⟨m,hn.sameBut hs (Ne.symm (jX x c hc)),λj y v' e1 e2 e3=>?_⟩,λy c' e=>?_,I.free,I.fX,λp hp=>?_,tracked ⟨oc,Bw,I.fX x c hc⟩ hs,by simpa using I.len⟩ ⟨c,hs,.inr hc⟩;·exact(hs.2 b (Yz (Yr (Yn e) (I.ok.ny x c vB hc)))).trans (I.base.keep b o e n hb hx)
  ·obtain⟨sl,e1⟩:=I.base.slot b o e n hb hx;exact⟨sl,(hs.2 b (Yz (Yr (Yn e) (I.ok.ny x c vB hc)))).trans e1⟩
  ·obtain⟨o',e1⟩:=I.base.there b o e hx;exact⟨o',(hs.2 b (Yz (Yr (Yn e) (I.ok.ny x c vB hc)))).trans e1⟩
  ·by_cases hj:j=i
   ·subst hj;rw[hi] at e1;cases e1;rw[List.getElem?_set_self AO] at e2;cases e2;exact⟨u,r,.inr ⟨.inl hk,c,hc,Bv⟩⟩
   ·rw[List.getElem?_set_ne (Ne.symm hj)] at e2;obtain⟨u',r',q⟩:=hl j y v' e1 e2 e3;refine⟨u',r',?_⟩;rcases q with q|⟨k,c',e,z'⟩;·exact .inl q
    ·refine .inr ⟨k,c',e,z'.sameBut hs ?_⟩;rintro rfl;exact hj (ya hN e1 (I.ok.inj _ _ _ e hc▸hi))
  ·by_cases Bx:c'=c;·subst Bx;exact⟨_,Bv⟩
   ·obtain⟨w2,z2⟩:=I.cell y c' e;exact⟨w2,z2.sameBut hs Bx⟩
  ·obtain⟨e,n,ne,nf,d⟩:=I.pin p hp;refine⟨(hs.2 p.1 ?_).trans e,n,ne,nf,d⟩;intro q;rw[q,Bw] at e;have q':oc=p.2:=Yb e;exact d w' (by rw[←q'];exact IC)
theorem kG{M:Model}{A:Around}{E:aE}{i:Nat}{x:Str}{v:V}{u:Value}{Q:Unit->Shared->Prop}(I:Inv X pins σ H s)(hN:X.N.Nodup)(hi:X.N[i]?=some x)(hx:Loc X.env.scope x)(r:RelV v u)
  (h:∀s',Inv X pins (σ.set i (some v)) H s'->Q () s')(hf:X.fn x=true\/X.env.scope.names.lookup x=some .local:=by first|exact .inl rfl|exact .inr rfl|assumption):wpAny M A (storeName X.env x u) Q E s:=
 xK I hN hi hx r (λs' I' _=>h s' I') hf
theorem Inv.Hv{s':Shared}{ch:List Addr}(I:Inv X pins σ H s)(ho:s'.os=s.os)(u:Un (cP X.stack) ch H H' s.heap s'.heap)(ar:bN X.prog X.w H' s'.heap)(hg:AllBare s'.gens)
  (gj:∀b∈ch,(b∈X.ex\/X.bS.heap.objs.size<=b)/\b≠X.env.locals/\(∀x c,X.env.cells.lookup x=some c->c≠b)/\∀p∈X.pn++pins,p.1≠b):Inv X pins σ H' s':=by
 obtain⟨h',g',d',t',o'⟩:=s';have e:o'=s.os:=ho;subst e;exact I.call (g':=g') (t':=t') (d':=d') u ar hg gj
end
abbrev XK:=Value->Option Addr->Hp->Prop
abbrev St:=List (Option V)
abbrev VK:=V->Hp->Prop
abbrev TE:=St->Hp->VK->Prop
abbrev TT:=St->Hp->(Bool->Hp->Prop)->Prop
abbrev TA:=St->Hp->(List V->Hp->Prop)->Prop
structure Ends where
 nx:St->Hp->Prop
 rt:VK
 bk:St->Hp->Prop:=λ_ _=>False
 ct:St->Hp->Prop:=λ_ _=>False
abbrev TS:=Ends->St->Hp->Prop
inductive AQ(X:Cx)(pins:aB)(σ:St)(Q:VK)(u:Value)(s':Shared):Prop
 |mk (v H') (aC:Inv X pins σ H' s') (aI:RelV v u) (aW:Q v H'):AQ X pins σ Q u s'
def EP(X:Cx)(pins:aB)(σ:St)(Q:VK)(u:Value)(s':Shared):Prop:=AQ X pins σ Q u s'
inductive AR(X:Cx)(pins:aB)(σ:St)(R:Hp->Prop)(s':Shared):Prop
 |mk (H':Hp) (aC:Inv X pins σ H' s') (aI:R H'):AR X pins σ R s'
def TP(X:Cx)(pins:aB)(σ:St)(Q:Bool->Hp->Prop)(b:Bool)(s':Shared):Prop:=AR X pins σ (Q b) s'
inductive AS(X:Cx)(pins:aB)(σ:St)(Q:List V->Hp->Prop)(us:List Value)(s':Shared):Prop
 |mk (vs H') (aC:Inv X pins σ H' s') (aI:Vals vs us) (aW:Q vs H'):AS X pins σ Q us s'
def AP(X:Cx)(pins:aB)(σ:St)(Q:List V->Hp->Prop)(us:List Value)(s':Shared):Prop:=AS X pins σ Q us s'
inductive jI(X:Cx)(pins:aB)(Q:St->Hp->Prop)(s':Shared):Prop
 |mk (aO:St) (H':Hp) (aC:Inv X pins aO H' s') (aI:Q aO H'):jI X pins Q s'
inductive AU(X:Cx)(pins:aB)(Q:VK)(u:Value)(s':Shared):Prop
 |mk (v:V) (aO:St) (H':Hp) (aC:Inv X pins aO H' s') (aI:RelV v u) (aW:Q v H'):AU X pins Q u s'
def SP(X:Cx)(pins:aB)(D:Ends)(f:Flow)(s':Shared):Prop:=
 match f with
 |.next=>jI X pins D.nx s'
 |.brk=>jI X pins D.bk s'
 |.cont=>jI X pins D.ct s'
 |.ret u=>AU X pins D.rt u s'
def PE(X:Cx)(e:Expr)(t:TE):Prop:=
 ∀(pins:aB) (s:Shared) (σ:St) (H:Hp) (Q:VK),Inv X pins σ H s->t σ H Q->wpAny X.md X.A (eval e X.env) (EP X pins σ Q) X.xe s
def PT(X:Cx)(e:Expr)(t:TT):Prop:=
 ∀(pins:aB) (s:Shared) (σ:St) (H:Hp) (Q:Bool->Hp->Prop),Inv X pins σ H s->t σ H Q->wpAny X.md X.A (isTrue e X.env (eval e X.env)) (TP X pins σ Q) X.xe s
def PW(X:Cx)(e:Expr)(t:TT):Prop:=
 ∀(whole:Sem Value) (pins:aB) (s:Shared) (σ:St) (H:Hp) (Q:Bool->Hp->Prop),Inv X pins σ H s->t σ H Q->wpAny X.md X.A (isTrue e X.env whole) (TP X pins σ Q) X.xe s
theorem PW.pt{X:Cx}{e:Expr}{t:TT}(h:PW X e t):PT X e t:=h _
def PA(X:Cx)(es:List Expr)(t:TA):Prop:=
 ∀(pos:Pos) (pins:aB) (s:Shared) (σ:St) (H:Hp) (Q:List V->Hp->Prop),Inv X pins σ H s->t σ H Q->wpAny X.md X.A (spliced (backTo pos (starEach es X.env))) (AP X pins σ Q) X.xe s
def PS(X:Cx)(st:Stmt)(t:TS):Prop:=
 ∀(pins:aB) (s:Shared) (σ:St) (H:Hp) (D:Ends),Inv X pins σ H s->t D σ H->wpAny X.md X.A (exec st X.env) (SP X pins D) X.xe s
def dn(X:Cx)(st:List Stmt)(t:TS):Prop:=
 ∀(pins:aB) (s:Shared) (σ:St) (H:Hp) (D:Ends),Inv X pins σ H s->t D σ H->wpAny X.md X.A (execs st X.env) (SP X pins D) X.xe s
theorem av{α:Type}{t:Sem α}{Q Q':α->Shared->Prop}{M:Model}{A:Around}{E:aE}{s:Shared}(h:wpAny M A t Q E s)(hQ:∀a s,Q a s->Q' a s):wpAny M A t Q' E s:=wpAny_mono h hQ λ_ _ x=>x
section
variable {X:Cx}
inductive zp(i:Nat)(σ:St)(H:Hp)(Q:VK):Prop
 |mk (v) (aC:σ[i]?=some (some v)) (aI:Q v H):zp i σ H Q
def c_(i:Nat):TE:=λσ H Q=>zp i σ H Q
def tC(v:V):TE:=λ_ H Q=>Q v H
theorem Gx{i:Nat}{x:Str}{pos:Pos}(hN:X.N[i]?=some x)(hv:lh X.env.scope x)(hd:(x==("__debug__":Str))=false:=by decide)(dD:(x==("__classdict__":Str))=false:=by decide):PE X (.Name x pos) (c_ i):=by
 rintro pins s σ H Q I ⟨v,e,h⟩;obtain⟨m,hn,hl⟩:=I.loc;obtain⟨u,r,l⟩:=hl i x v hN e hv;have fin:EP X pins σ Q u s:=⟨v,H,I,r,h⟩;rcases l with⟨hk,hm⟩|⟨hk,c,hc,oZ⟩;·exact wpAny_Name (wpAny_loadName_local I.ok.kind hk hn hm fin) hd
 ·rcases hk with hk|hk;·exact wpAny_Name (wpAny_loadName_cell I.ok.kind hk hc oZ fin) hd
  ·exact wpAny_Name (wpAny_loadName_free I.ok.kind hk hc oZ fin dD) hd
theorem aq{i j pos}:PE X (.Constant (.int i) j pos) (tC (.int i)):=λ_ _ _ H _ I h=>wpAny_Constant_int ⟨.int i,H,I.tok _,⟨_,rfl⟩,h⟩
theorem hX{b j pos}:PE X (.Constant (.bool b) j pos) (tC (.bl b)):=λ_ _ _ H _ I h=>Constant_bool ⟨.bl b,H,I,rfl,h⟩
theorem hU{j pos}:PE X (.Constant .none j pos) (tC .aD):=λ_ _ _ H _ I h=>Constant_none ⟨.aD,H,I,rfl,h⟩
theorem bH{x j pos}:PE X (.Constant (.str x) j pos) (tC (.str x)):=λ_ _ _ H _ I h=>Calls.Constant_str ⟨.str x,H,I.tok _,⟨_,rfl⟩,h⟩
def Gl(X:Cx)(x:Str):Prop:=X.env.kindOf x=some .globalImplicit
theorem tP{E:aE}{pins:aB}{s:Shared}{σ:St}{H:Hp}{x:Str}{u:Value}{pos:Pos}{Q:aE}(I:Inv X pins σ H s)(hg:Gl X x)(hm:X.mg x=some u)(h:Q u s)
  (hd:(x==("__debug__":Str))=false:=by decide):wpAny X.md X.A (eval (.Name x pos) X.env) Q E s:=
 Calls.Name_function_global I.ok.kind hg (Calls.loadGlobal_global (by rw[I.ok.glob];exact I.mod.glob.keeps I.bk) hm h) hd
theorem oU{E:aE}{pins:aB}{s:Shared}{σ:St}{H:Hp}{x:Str}{u:Value}{pos:Pos}{Q:aE}(I:Inv X pins σ H s)(hg:Gl X x)(hm:X.mg x=none)(hv:bootBuiltins x=some u)(h:Q u s)
  (hn:x≠"__name__":=by decide)(hd:(x==("__debug__":Str))=false:=by decide):wpAny X.md X.A (eval (.Name x pos) X.env) Q E s:=by
 obtain⟨mb,h1,h2⟩:=I.mod.blt;exact Calls.Name_function_global I.ok.kind hg (Calls.loadGlobal_builtin (by rw[I.ok.glob];exact I.mod.glob.keeps I.bk) hm (by rw[I.ok.blt];exact h1.keeps I.bk) ((h2 x hn).trans hv) h) hd
theorem hE{x:Str}{v:V}{u:Value}{pos:Pos}(hg:Gl X x)(hm:X.mg x=some u)(r:RelV v u)(hd:(x==("__debug__":Str))=false:=by decide):PE X (.Name x pos) (tC v):=
 λ_ _ _ H _ I h=>tP I hg hm ⟨v,H,I,r,h⟩ hd
theorem FA{x:Str}{v:V}{u:Value}{pos:Pos}(hg:Gl X x)(hm:X.mg x=none)(hv:bootBuiltins x=some u)(r:RelV v u)(hn:x≠"__name__":=by decide)(hd:(x==("__debug__":Str))=false:=by decide):PE X (.Name x pos) (tC v):=
 λ_ _ _ H _ I h=>oU I hg hm hv ⟨v,H,I,r,h⟩ hn hd
variable {a b:Expr}{ta tb:TE}{pos:Pos}
def PC(X:Cx)(op:CmpOp)(a b:Expr)(t:TE):Prop:=
 ∀(pins:aB) (s:Shared) (σ:St) (H:Hp) (Q:VK),Inv X pins σ H s->t σ H Q->
  wpAny X.md X.A (eval a X.env) (λv aQ=>wpAny X.md X.A (eval b X.env) (λu d9=>wpAny X.md X.A (compareOp op v u) (EP X pins σ Q) X.xe d9) X.xe aQ) X.xe s
inductive AV(Q:Bool->Hp->Prop)(x:V)(H1:Hp):Prop
 |mk (c) (aC:x=.bl c) (aI:Q c H1):AV Q x H1
def tB(t:TE):TT:=λσ H Q=>t σ H λx H1=>AV Q x H1
theorem Gy{op:CmpOp}{t:TE}(h:PC X op a b t)(h1:behindInMarks op b=false:=by first|exact EK _ (by decide) (by decide)|rfl):PE X (.Compare a [op] [b] pos) t:=λpins s σ H Q I hw=>wpAny_Compare1 (h pins s σ H Q I hw) h1
theorem mD{op:CmpOp}{t:TE}(h:PC X op a b t)(h1:behindInMarks op b=false:=by first|exact EK _ (by decide) (by decide)|rfl):PT X (.Compare a [op] [b] pos) (tB t):=by
 intro pins s σ H Q I hw;refine wpAny_isTrue_Compare1 (av (h pins s σ H _ I hw) λv s1 h1=>av h1 λu s2 h2=>av h2 λc s3 zq=>?_) h1;obtain⟨x,H1,I1,r1,q1⟩:=zq;obtain⟨d,rfl,q⟩:=q1;cases r1;exact wpAny_truthy_bool ⟨H1,I1,q⟩
theorem fB{e:Expr}{t:TE}(h:PE X e t)(he:∀whole,isTrue e X.env whole=(do let v←whole;standAt e.pos;holding [v] (truthy v)):=by intro _;rfl):PT X e (tB t):=by
 intro pins s σ H Q I hw;refine isTrue_plain (av (h pins s σ H _ I hw) λv s1 zq=>?_) (he _);obtain⟨x,H1,I1,r1,q1⟩:=zq;obtain⟨d,rfl,q⟩:=q1;cases r1;exact wpAny_truthy_bool ⟨H1,I1,q⟩
variable {tA qe:TT}{rest:List Expr}
def ID(t u:TT):TT:=λσ H Q=>t σ H λc H1=>if c=true then u σ H1 Q else Q false H1
def By(t u:TT):TT:=λσ H Q=>t σ H λc H1=>if c=true then Q true H1 else u σ H1 Q
def IE(t:TT):TT:=λσ H Q=>t σ H λc H1=>Q (!c) H1
theorem pw_and1(ha:PT X a tA):PW X (.BoolOp .And [a] pos) tA:=by
 intro wh pins s σ H Q I h;refine isTrue_and (av (ha pins s σ H Q I h) λc s1 e=>?_);cases c with
 |true=>exact isTrue_and_nil e
 |false=>exact e
theorem pw_or1(ha:PT X a tA):PW X (.BoolOp .Or [a] pos) tA:=by
 intro wh pins s σ H Q I h;refine isTrue_or (av (ha pins s σ H Q I h) λc s1 e=>?_);cases c with
 |false=>exact isTrue_or_nil e
 |true=>exact e
theorem pw_and(ha:PT X a tA)(hb:PW X (.BoolOp .And (b::rest) pos) qe):PW X (.BoolOp .And (a::b::rest) pos) (ID tA qe):=by
 intro wh pins s σ H Q I h;refine isTrue_and (av (ha pins s σ H _ I h) λc s1 zq=>?_);obtain⟨H1,I1,q1⟩:=zq;cases c with
 |true=>exact hb wh pins s1 σ H1 Q I1 q1
 |false=>exact⟨H1,I1,q1⟩
theorem pw_or(ha:PT X a tA)(hb:PW X (.BoolOp .Or (b::rest) pos) qe):PW X (.BoolOp .Or (a::b::rest) pos) (By tA qe):=by
 intro wh pins s σ H Q I h;refine isTrue_or (av (ha pins s σ H _ I h) λc s1 zq=>?_);obtain⟨H1,I1,q1⟩:=zq;cases c with
 |true=>exact⟨H1,I1,q1⟩
 |false=>exact hb wh pins s1 σ H1 Q I1 q1
theorem hV(ha:PT X a tA):PT X (.UnaryOp .Not a pos) (IE tA):=by
 intro pins s σ H Q I h;exact isTrue_not (ha pins s σ H (λc H1=>Q (!c) H1) I h)
def Hw(ta tb:TE):TE:=λσ H Q=>ta σ H λx H1=>∃c,x=.bl c/\if c=true then tb σ H1 Q else Q (.bl false) H1
def Hx(ta:TE):TE:=λσ H Q=>ta σ H λx H1=>∃c,x=.bl c/\Q (.bl (!c)) H1
theorem t8{op}{t:TE}(h:PE X a t):PE X (.BoolOp op [a] pos) t:=λpins s σ H Q I hw=>BoolOp_one (h pins s σ H Q I hw)
theorem mE(ha:PE X a ta)(hb:PE X (.BoolOp .And (b::rest) pos) tb):PE X (.BoolOp .And (a::b::rest) pos) (Hw ta tb):=by
 intro pins s σ H Q I h;refine BoolOp_and (av (ha pins s σ H _ I h) λv s1 zq=>?_);obtain⟨x,H1,I1,r1,q1⟩:=zq;obtain⟨c,rfl,q1⟩:=q1;cases r1;refine wpAny_truthy_bool ?_;cases c with
 |true=>exact hb pins s1 σ H1 Q I1 q1
 |false=>exact⟨.bl false,H1,I1,rfl,q1⟩
theorem Gz(ha:PE X a ta):PE X (.UnaryOp .Not a pos) (Hx ta):=by
 intro pins s σ H Q I h;refine UnaryOp_ (av (ha pins s σ H _ I h) λv s1 zq=>?_);obtain⟨x,H1,I1,r1,q1⟩:=zq;obtain⟨c,rfl,q1⟩:=q1;cases r1;exact not_of (wpAny_truthy_bool ⟨.bl (!c),H1,I1,rfl,q1⟩)
def JM(t:TT)(ta tb:TE):TE:=λσ H Q=>t σ H λc H1=>if c=true then ta σ H1 Q else tb σ H1 Q
theorem EL{c:Expr}(hc:PT X c tA)(ha:PE X a ta)(hb:PE X b tb):PE X (.IfExp c a b pos) (JM tA ta tb):=by
 intro pins s σ H Q I h;refine wpAny_IfExp (av (hc pins s σ H _ I h) λd s1 zq=>?_);obtain⟨H1,I1,q1⟩:=zq;cases d with
 |true=>exact ha pins s1 σ H1 Q I1 q1
 |false=>exact hb pins s1 σ H1 Q I1 q1
end
def ak(K:ag)(H:Hp)(a:Addr)(xs:List V):Prop:=
 Rd H a (.lst xs)\/
  ∃(o:Obj) (af:Array Value) (n:Nat),K.lookup a=some o/\o.cls=.type "list"/\o.dict=none/\o.data=.seq af n/\af.size<=sizeLine/\Vals xs af.toList
def ay(K:ag)(H:Hp)(a:Addr)(xs:List V):Prop:=
 Rd H a (.tup xs)\/
  ∃(o:Obj) (af:Array Value) (n:Nat),K.lookup a=some o/\o.cls=.type "tuple"/\o.data=.seq af n/\af.size<=sizeLine/\Vals xs af.toList
def IF:Value->Option V
 |.none=>some .aD
 |.bool b=>some (.bl b)
 |.int i _=>some (.int i)
 |.str x _=>some (.str x)
 |.bytes b _=>some (.dR b)
 |.float b _=>some (.jT b)
 |.ref a=>some (.ref a)
 |.type n=>some (.ty n)
 |_=>none
theorem RelV.abs{x:V}{u:Value}(r:RelV x u):IF u=some x:=by
 cases x with
 |aD=>cases r;rfl
 |bl _=>cases r;rfl
 |int _=>obtain⟨t,rfl⟩:=r;rfl
 |str _=>obtain⟨t,rfl⟩:=r;rfl
 |dR _=>obtain⟨t,rfl⟩:=r;rfl
 |jT _=>obtain⟨t,rfl⟩:=r;rfl
 |ref _=>cases r;rfl
 |ty _=>cases r;rfl
theorem RelV.inj{x y:V}{u:Value}(r:RelV x u)(q:RelV y u):x=y:=Yb (r.abs.symm.trans q.abs)
theorem Vals.inj:∀{xs ys:List V} {us:List Value},Vals xs us->Vals ys us->xs=ys:=by
 intro xs ys us h;induction h generalizing ys with
 |nil=>intro h';cases h';rfl
 |cons r t ih=>
  intro h';cases h' with
  |cons r' t'=>rw[r.inj r',ih t']
section
variable {X:Cx}{pins:aB}{σ:St}{H:Hp}{s:Shared}{a:Addr}{xs ys:List V}
theorem ak.of{K:ag}(h:H a=some (.lst xs)):ak K H a xs:=.inl (.inl h)
theorem ay.of{K:ag}(h:H a=some (.tup xs)):ay K H a xs:=.inl (.inl h)
theorem Inv.list(I:Inv X pins σ H s)(h:ak X.K H a xs):∃af:List Value,Vals xs af/\PlainL s.heap a af.toArray/\xs.length<=sizeLine:=by
 rcases h with h|⟨o,af,n,hk,hc,hd,hs,hz,r⟩
 ·obtain⟨z,af,n,r,e⟩:=h.ok I.ar;exact⟨af,r,⟨_,n,e,rfl,rfl,rfl⟩,z⟩
 ·refine⟨af.toList,r,⟨o,n,I.bX a o hk,hc,hd,by simpa using hs⟩,?_⟩;have e:=r.length
  grind
theorem Inv.tuple(I:Inv X pins σ H s)(h:ay X.K H a xs):∃af:List Value,Vals xs af/\IsTup s.heap a af.toArray/\xs.length<=sizeLine:=by
 rcases h with h|⟨o,af,n,hk,hc,hs,hz,r⟩
 ·obtain⟨z,af,r,p⟩:=h.ok I.ar;exact⟨af,r,p.tup,z⟩
 ·refine⟨af.toList,r,⟨o,I.bX a o hk,hc,n,by simpa using hs⟩,?_⟩;have e:=r.length
  grind
theorem Inv.EM(I:Inv X pins σ H s)(h:ak X.K H a xs)(h':ak X.K H a ys):xs=ys:=by
 obtain⟨af,r,⟨o,n,e,_,_,d⟩,_⟩:=I.list h;obtain⟨its',r',⟨o',n',e',_,_,d'⟩,_⟩:=I.list h';rw[e] at e';cases e';rw[d] at d';injection d' with d1 _;have:af=its':=by simpa using congrArg Array.toList d1
 subst this;exact r.inj r'
theorem Inv.Ej(I:Inv X pins σ H s)(h:ay X.K H a xs)(h':ay X.K H a ys):xs=ys:=by
 obtain⟨af,r,⟨o,e,_,n,d⟩,_⟩:=I.tuple h;obtain⟨its',r',⟨o',e',_,n',d'⟩,_⟩:=I.tuple h';rw[e] at e';cases e';rw[d] at d';injection d' with d1 _;have:af=its':=by simpa using congrArg Array.toList d1
 subst this;exact r.inj r'
end
abbrev Cx.f_(X:Cx)(E:aE):Cx:={X with xe:=E}
abbrev Cx.nD(X:Cx):Cx:=X.f_ λ_ _=>False
theorem Cx.Ok.f_{X:Cx}(ok:X.Ok)(E:aE):(X.f_ E).Ok:=
 ⟨ok.mod,ok.kind,ok.glob,ok.blt,ok.above,ok.inj,ok.has,ok.ny,ok.hd,ok.frames,ok.p_,ok.qa,ok.bs,ok.ik,ok.m3,ok.m4,ok.e6,ok.jW⟩
theorem Cx.Ok.iX{X:Cx}{E:aE}(ok:(X.f_ E).Ok):X.Ok:=
 ⟨ok.mod,ok.kind,ok.glob,ok.blt,ok.above,ok.inj,ok.has,ok.ny,ok.hd,ok.frames,ok.p_,ok.qa,ok.bs,ok.ik,ok.m3,ok.m4,ok.e6,ok.jW⟩
section
variable {X:Cx}{pins:aB}{σ:St}{H:Hp}{s:Shared}{E:aE}
theorem Inv.f_(I:Inv X pins σ H s)(E:aE):Inv (X.f_ E) pins σ H s:=⟨I.ok.f_ E,I.os,I.bare,I.base,I.loc,I.cell,I.free,I.fX,I.pin,I.ar,I.len⟩
theorem Inv.iX(I:Inv (X.f_ E) pins σ H s):Inv X pins σ H s:=⟨I.ok.iX,I.os,I.bare,I.base,I.loc,I.cell,I.free,I.fX,I.pin,I.ar,I.len⟩
theorem SP.iX{D:Ends}{f:Flow}{s':Shared}(h:SP (X.f_ E) pins D f s'):SP X pins D f s':=by
 cases f with
 |next=>obtain⟨aO,H',I,q⟩:=h;exact⟨aO,H',I.iX,q⟩
 |brk=>obtain⟨aO,H',I,q⟩:=h;exact⟨aO,H',I.iX,q⟩
 |cont=>obtain⟨aO,H',I,q⟩:=h;exact⟨aO,H',I.iX,q⟩
 |ret u=>obtain⟨v,aO,H',I,r,q⟩:=h;exact⟨v,aO,H',I.iX,r,q⟩
theorem dn.nD{st:List Stmt}{t:TS}(h:dn X.nD st t):dn X st t:=λpins s σ H D I hw=>
 wpAny_mono (h pins s σ H D (I.f_ _) hw) (λ_ _ q=>q.iX) λ_ _ z=>False.elim z
end
section
variable {X:Cx}{st:Stmt}{rest:List Stmt}{t u:TS}{e:Expr}{te:TE}{pos:Pos}
def Al:TS:=λD σ H=>D.nx σ H
def m5(t u:TS):TS:=λD σ H=>t {D with nx:=u D} σ H
theorem bD:dn X [] Al:=λ_ _ σ H _ I h=>wpAny_execs_nil ⟨σ,H,I,h⟩
theorem ao(h1:PS X st t)(h2:dn X rest u):dn X (st::rest) (m5 t u):=by
 intro pins s σ H D I h;refine wpAny_execs_cons (av (h1 pins s σ H {D with nx:=u D} I h) λf s1 q=>?_);cases f with
 |next=>
  obtain⟨aO,H',I',q⟩:=q;exact h2 pins s1 aO H' D I' q
 |ret v=>exact q
 |brk=>exact q
 |cont=>exact q
theorem au(h1:PS X st t):dn X [st] t:=by
 intro pins s σ H D I h;refine wpAny_execs_cons (av (h1 pins s σ H D I h) λf s1 q=>?_);cases f with
 |next=>exact wpAny_execs_nil q
 |ret v=>exact q
 |brk=>exact q
 |cont=>exact q
theorem Inv.quiet{pins:aB}{σ:St}{H:Hp}{s:Shared}(I:Inv X pins σ H s):interactive X.env=false:=by simp[interactive,I.ok.kind]
def Hy(te:TE):TS:=λD σ H=>te σ H λ_ H1=>D.nx σ H1
theorem dz(he:PE X e te)(hs:swapsWith e none pos.line X.env=pure false:=by rfl):PS X (.Expr e pos) (Hy te):=by
 intro pins s σ H D I h;exact wpAny_Expr_any (av (he pins s σ H _ I h) λv s1 ⟨x,H1,I1,r1,q1⟩=>⟨σ,H1,I1,q1⟩) I.quiet hs
def IG(te:TE):TS:=λD σ H=>te σ H D.rt
theorem aN(he:PE X e te):PS X (.Return (some e) pos) (IG te):=by
 intro pins s σ H D I h;exact wpAny_Return_some (av (he pins s σ H _ I h) λv s1 ⟨x,H1,I1,r1,q1⟩=>⟨x,σ,H1,I1,r1,q1⟩)
def uL(c:TT)(t u:TS):TS:=λD σ H=>c σ H λb H1=>if b=true then t D σ H1 else u D σ H1
theorem bj{c:Expr}{a b:List Stmt}{tc:TT}(hc:PT X c tc)(ha:dn X a t)(hb:dn X b u):PS X (.If c a b pos) (uL tc t u):=by
 intro pins s σ H D I h;refine wpAny_If (av (hc pins s σ H _ I h) λd s1 zq=>?_);obtain⟨H1,I1,q1⟩:=zq;cases d with
 |true=>exact ha pins s1 σ H1 D I1 q1
 |false=>exact hb pins s1 σ H1 D I1 q1
def GA:TS:=λ_ _ _=>False
theorem kD{JN:List Stmt}:dn X JN GA:=λ_ _ _ _ _ _ h=>h.elim
end
abbrev TG:=V->St->Hp->(St->Hp->Prop)->Prop
abbrev gk:=List V->St->Hp->(St->Hp->Prop)->Prop
def PG(X:Cx)(target:Expr)(t:TG):Prop:=
 ∀(pins:aB) (s:Shared) (σ:St) (H:Hp) (v:V) (u:Value) (Q:St->Hp->Prop),Inv X pins σ H s->RelV v u->t v σ H Q->
  wpAny X.md X.A (assign target X.env u) (λ_ s'=>jI X pins Q s') X.xe s
def nE(X:Cx)(ts:List Expr)(t:gk):Prop:=
 ∀(pins:aB) (s:Shared) (σ:St) (H:Hp) (vs:List V) (us:List Value) (Q:St->Hp->Prop),Inv X pins σ H s->Vals vs us->t vs σ H Q->
  wpAny X.md X.A (assignInOrder ((assignEach ts X.env).map (·.2)) us) (λ_ s'=>jI X pins Q s') X.xe s
abbrev qf:=V->V->Hp->VK->Prop
def Bz(X:Cx)(op:Operator)(t:qf):Prop:=
 ∀(pins:aB) (s:Shared) (σ:St) (H:Hp) (x y:V) (v u:Value) (Q:VK),Inv X pins σ H s->RelV x v->RelV y u->t x y H Q->
  wpAny X.md X.A (inplaceOp op v u) (EP X pins σ Q) X.xe s
section
variable {X:Cx}{pos:Pos}
def hZ(i:Nat):TG:=λv σ H Q=>Q (σ.set i (some v)) H
theorem jA{i:Nat}{x:Str}(hN:X.N.Nodup)(hi:X.N[i]?=some x)(hx:Loc X.env.scope x)(hf:X.fn x=true\/X.env.scope.names.lookup x=some .local:=by first|exact .inl rfl|exact .inr rfl|assumption):PG X (.Name x pos) (hZ i):=by
 intro pins s σ H v u Q I r h;exact wpAny_assign_Name (kG I hN hi hx r (λs' I'=>⟨_,H,I',h⟩) hf)
def IH:gk:=λvs σ H Q=>vs=[]/\Q σ H
inductive yE(t:TG)(u:gk)(vs:List V)(σ:St)(H:Hp)(Q:St->Hp->Prop):Prop
 |mk (v r) (aC:vs=v::r) (aI:t v σ H λaO H'=>u r aO H' Q):yE t u vs σ H Q
def Hz(t:TG)(u:gk):gk:=λvs σ H Q=>yE t u vs σ H Q
theorem d5:nE X [] IH:=by
 rintro pins s σ H vs us Q I r ⟨e,h⟩;subst e;exact assignInOrder_nil ⟨σ,H,I,h⟩
theorem ba{e:Expr}{es:List Expr}{t:TG}{u:gk}(h1:PG X e t)(h2:nE X es u)
  (hs:(assignEach (e::es) X.env).map (·.2)=assign e X.env::(assignEach es X.env).map (·.2):=by rfl):nE X (e::es) (Hz t u):=by
 rintro pins s σ H vs us Q I r ⟨v,vr,e1,h⟩;subst e1;cases r with
 |cons r rr=>
  rw[hs];exact assignInOrder_cons (av (h1 pins s σ H _ _ _ I r h) λ_ s1 ⟨lq,H1,I1,q1⟩=>h2 pins s1 lq H1 _ _ Q I1 rr q1)
inductive zr(K:ag)(n:Nat)(t:gk)(v:V)(σ:St)(H:Hp)(Q:St->Hp->Prop):Prop
 |mk (a xs) (aC:v=.ref a) (aI:ay K H a xs) (aW:xs.length=n) (bt:t xs σ H Q):zr K n t v σ H Q
def AW(K:ag)(n:Nat)(t:gk):TG:=λv σ H Q=>zr K n t v σ H Q
theorem GB{es:List Expr}{k:Nat}{t:gk}{n:Nat}(hc:X.calm=true)(h:nE X es t)
  (hn:(assignEach es X.env).length=n:=by rfl)(bU:(assignEach es X.env).findIdx? (·.1)=none:=by rfl):PG X (.Tuple es k pos) (AW X.K n t):=by
 rintro pins s σ H v u Q I r ⟨a,xs,e1,hq,hl,hw⟩;subst e1;cases r;obtain⟨af,rv,ht,hz⟩:=I.tuple hq;exact assign_Tuple_tuple (I.ok.hd hc) ht (by simp[hn,←hl,rv.length]) bU λh' hx=>h pins _ σ H xs _ Q (I.kept λb o e=>hx b o (Yz (Yn e)) e) (by simpa using rv) hw
def k6(te:TE)(g:TG):TS:=λD σ H=>te σ H λx H1=>g x σ H1 D.nx
theorem oV{tg e:Expr}{te:TE}{g:TG}(he:PE X e te)(hg:PG X tg g)(hs:swapsWithSole [tg] e pos.line X.env=pure false:=by rfl)(hw:swappedStores [tg] e X.env=pure none:=by rfl)
  (h1:(assignEach [tg] X.env).map (·.2)=[assign tg X.env]:=by rfl):PS X (.Assign [tg] e pos) (k6 te g):=by
 intro pins s σ H D I h;refine wpAny_Assign_stores (av (he pins s σ H _ I h) λv s1 zq=>?_) hs hw;obtain⟨x,H1,I1,r1,q1⟩:=zq;rw[h1];exact av (hg pins s1 σ H1 x v _ I1 r1 q1) λ_ s2 q=>q
theorem dm{i:Nat}{x:Str}{e:Expr}{te:TE}{pos':Pos}(hN:X.N.Nodup)(hi:X.N[i]?=some x)(hx:Loc X.env.scope x)(he:PE X e te)(hs:swapsWith e (some (.Name x pos')) pos.line X.env=pure false:=by rfl)(hf:X.fn x=true\/X.env.scope.names.lookup x=some .local:=by first|exact .inl rfl|exact .inr rfl|assumption):
  PS X (.Assign [.Name x pos'] e pos) (k6 te (hZ i)):=by
 intro pins s σ H D I h;refine wpAny_Assign_Name (av (he pins s σ H _ I h) λv s1 zq=>?_) hs;obtain⟨y,H1,I1,r1,q1⟩:=zq;exact kG I1 hN hi hx r1 (λs2 I2=>⟨_,H1,I2,q1⟩) hf
def II(i:Nat)(te:TE)(ti:qf):TS:=λD σ H=>∃x,σ[i]?=some (some x)/\te σ H λy H1=>ti x y H1 λz H2=>D.nx (σ.set i (some z)) H2
theorem GC{i:Nat}{x:Str}{e:Expr}{te:TE}{op:Operator}{ti:qf}{pos':Pos}(hN:X.N.Nodup)(hi:X.N[i]?=some x)(hx:Loc X.env.scope x)(he:PE X e te)(ho:Bz X op ti)(hf:X.fn x=true\/X.env.scope.names.lookup x=some .local:=by first|exact .inl rfl|exact .inr rfl|assumption):
  PS X (.AugAssign (.Name x pos') op e pos) (II i te ti):=by
 rintro pins s σ H D I ⟨v,e1,h⟩;obtain⟨m,hn,hl⟩:=I.loc;have vC:lh X.env.scope x:=by rcases hx with k|k;exact .inl k;exact .inr (.inl k)
 obtain⟨u,r,l⟩:=hl i x v hi e1 vC;refine wpAny_AugAssign_Name ?_;have go:wpAny X.md X.A (eval e X.env) (λw d9=>wpAny X.md X.A (inplaceOp op u w) (λr cS=>wpAny X.md X.A (storeName X.env x r) (λ_=>SP X pins D .next) X.xe cS) X.xe d9) X.xe s:=av (he pins s σ H _ I h) λw s1 ⟨y,H1,I1,r1,q1⟩=>av (ho pins s1 σ H1 v y u w _ I1 r r1 q1) λz s2 ⟨zv,H2,I2,r2,q2⟩=>kG I2 hN hi hx r2 (λs3 I3=>⟨_,H2,I3,q2⟩) hf;rcases l with⟨hk,hm⟩|⟨hk,c,hc,oZ⟩;·exact wpAny_loadName_local I.ok.kind hk hn hm go
 ·rcases hk with hk|hk;·exact wpAny_loadName_cell I.ok.kind hk hc oZ go
  ·rcases hx with k|k
   ·have:X.env.scope.names.lookup x=some .free:=hk
    grind
   ·have:X.env.scope.names.lookup x=some .free:=hk
    grind
inductive Am(f:Int->Int->Int)(x:V)(y:V)(H:Hp)(Q:VK):Prop
 |mk (i j) (aC:x=.int i) (aI:y=.int j) (aW:Q (.int (f i j)) H):Am f x y H Q
def JO(f:Int->Int->Int):qf:=λx y H Q=>Am f x y H Q
theorem GD:Bz X .Add (JO λi j=>i+j):=by
 rintro pins s σ H x y v u Q I r1 r2 ⟨i,j,e1,e2,q⟩;subst e1;subst e2;obtain⟨t,rfl⟩:=r1;obtain⟨t',rfl⟩:=r2;exact iadd_int ⟨.int _,H,I.tok _,⟨_,rfl⟩,q⟩
end
section
variable {X:Cx}{pos:Pos}
def zt(c:TT)(tb:TS):TS:=λD σ H=>∃W:Nat->St->Hp->Prop,(∃m,W m σ H)/\∀m σ H,W m σ H->
 c σ H λb H1=>if b=true then ∃N:St->Hp->Prop,(∀aO H',N aO H'->∃m',m'<m/\W m' aO H')/\tb {D with nx:=N,ct:=N,bk:=D.nx} σ H1 else D.nx σ H1
theorem yb{c:Expr}{body:List Stmt}{tc:TT}{tb:TS}(hp:PassesOwn X.md X.A X.env X.xe)(hc:PT X c tc)(hb:dn X body tb):PS X (.While c body [] pos) (zt tc tb):=by
 intro pins s σ H D I h;obtain⟨W,⟨m0,w0⟩,turn⟩:=h;refine wpAny_While (codeAny_whileLoop (λn s'=>jI X pins (W n) s') ?_ m0 ⟨σ,H,I,w0⟩);rintro n s1 ⟨lq,H1,I1,w1⟩;refine wpAny_passesOwn hp (av (hc pins s1 lq H1 _ I1 (turn n lq H1 w1)) λb s2 zq=>?_);obtain⟨H2,I2,q2⟩:=zq;cases b with
 |true=>
  obtain⟨N,hN,q2⟩:=q2;rw[if_pos rfl];refine wpAny_passesOwn hp (av (hb pins s2 lq H2 _ I2 q2) λf s3 q3=>?_);cases f with
  |next=>
   obtain⟨fJ,H3,I3,n3⟩:=q3;obtain⟨m',hm,w3⟩:=hN fJ H3 n3;exact⟨m',hm,fJ,H3,I3,w3⟩
  |cont=>
   obtain⟨fJ,H3,I3,n3⟩:=q3;obtain⟨m',hm,w3⟩:=hN fJ H3 n3;exact⟨m',hm,fJ,H3,I3,w3⟩
  |brk=>exact q3
  |ret v=>exact q3
 |false=>
  rw[if_neg Yg];exact wpAny_execs_nil ⟨lq,H2,I2,q2⟩
end
structure It where
 go:Nat->Hp->Prop
 jY:Nat->Hp->V->Hp->Prop
 stop:Nat->Hp->Prop
def e_(X:Cx)(pins:aB)(H:Hp)(b:Addr):Prop:=
 H b=none/\b≠X.env.locals/\b∉X.fs/\(b∈X.ex\/X.bS.heap.objs.size<=b)/\(∀x c,X.env.cells.lookup x=some c->c≠b)/\∀p∈X.pn++pins,p.1≠b
theorem Inv.m6{X:Cx}{pins:aB}{σ:St}{H H':Hp}{s:Shared}{b:Addr}(I:Inv X pins σ H s)(hb:s.heap.objs.size<=b)(hn:H' b=none):e_ X pins H' b:=by
 refine⟨hn,Nat.ne_of_gt (Yr I.lt hb),I.IA hb,.inr (Y5 I.sz hb),λx c e z=>?_,λp hp z=>?_⟩
 ·obtain⟨v,q⟩:=I.cell x c e;exact absurd (Yr q.lt (by rw[z];exact hb)) (Wi _)
 ·exact absurd (Yr (Yn (I.pin p hp).1) (by rw[z];exact hb)) (Wi _)
structure Turn(P:Program)(w:World)(K:ag)(tg:Expr)(J:It)(fp:List Addr)(it:Addr)(tn:Nat->Heap->Prop):Prop where
 mem:it∈fp
 obj:∀i h,tn i h->∀b∈fp,∃o,h.get? b=some o/\∀v,o.data≠.cell v
 keep:∀i h h',tn i h->(∀b∈fp,∀o,h.get? b=some o->h'.get? b=some o)->tn i h'
 item:∀(X:Cx),X.prog=P->X.w=w->X.K=K->X.calm=true->∀(i:Nat) (pins:aB) (s:Shared) (σ:St) (H:Hp) (E:aE),Inv X pins σ H s->(∀b∈fp,e_ X pins H b)->tn i s.heap->J.go i H->
  wpAny (model P w) X.A (pyNext (.ref it)) (λr s1=>∃u,r=some u/\
   wpAny (model P w) X.A (letOwnedTupleGo tg (.ref it) u) (λ_ s2=>∃x H',Inv X pins σ H' s2/\RelV x u/\J.jY i H x H'/\tn (i+1) s2.heap/\∀b∈fp,H' b=none) E s1) E s
 done:∀(X:Cx),X.prog=P->X.w=w->X.K=K->X.calm=true->∀(i:Nat) (pins:aB) (s:Shared) (σ:St) (H:Hp) (E:aE),Inv X pins σ H s->(∀b∈fp,e_ X pins H b)->tn i s.heap->J.stop i H->
  wpAny (model P w) X.A (pyNext (.ref it)) (λr s1=>r=none/\Inv X pins σ H s1) E s
 self:∀(A:Around) (i:Nat) (s:Shared) (Q:aE) (E:aE),tn i s.heap->Q (.ref it) s->wpAny (model P w) A (pyIter (.ref it)) Q E s
abbrev TI:=St->Hp->(It->Hp->Prop)->Prop
def BA(X:Cx)(pins:aB)(σ:St)(tg:Expr)(R:It->Hp->Prop)(nF:Value)(s2:Shared):Prop:=
 ∃(it:Addr) (fp:List Addr) (tn:Nat->Heap->Prop) (J:It) (H':Hp),nF=.ref it/\Inv X pins σ H' s2/\Turn X.prog X.w X.K tg J fp it tn/\tn 0 s2.heap/\(∀b∈fp,e_ X pins H' b)/\R J H'
def PI(X:Cx)(tg iter:Expr)(wi:TI):Prop:=
 ∀(pins:aB) (s:Shared) (σ:St) (H:Hp) (R:It->Hp->Prop),Inv X pins σ H s->wi σ H R->
  wpAny X.md X.A (eval iter X.env) (λv s1=>wpAny X.md X.A (pyIter v) (BA X pins σ tg R) X.xe s1) X.xe s
theorem ux{M:Model}{A:Around}{E:aE}{s:Shared}{tg:Expr}{it:Addr}{u:Value}{o:Obj}{n:String}{vs:Array Value}{Q:Unit->Shared->Prop}(ho:s.heap.get? it=some o)(hc:o.cls=.type n)(hd:o.data=.fields vs)
    (hn:["enumerate","zip","dict_itemiterator","dict_reverseitemiterator","odict_iterator","itertools.zip_longest","itertools.pairwise"].contains n=false)(hQ:Q () s):wpAny M A (letOwnedTupleGo tg (.ref it) u) Q E s:=by
  unfold letOwnedTupleGo;cases tg <;> first
    | exact wpAny_pure hQ
    | (cases u <;> first
        | exact wpAny_pure hQ
        | (refine wpAny_bind (wpAny_load ho ?_)
           rw [hc,hd];show wpAny M A (if (["enumerate","zip","dict_itemiterator","dict_reverseitemiterator","odict_iterator","itertools.zip_longest","itertools.pairwise"].contains n&&vs[0]? == some (rawInt _))=true then _ else _) Q E s;rw [if_neg (by intro h; rw [hn,Jc] at h; cases h)];exact wpAny_pure hQ))
def ja(K:ag)(a:Addr):It:=
 ⟨λi H=>∃xs x,ak K H a xs/\xs[i]?=some x,λi H x H'=>H'=H/\∀xs,ak K H a xs->xs[i]?=some x,λi H=>∃xs,ak K H a xs/\xs.length<=i⟩
def jZ(K:ag)(a:Addr):It:=
 ⟨λi H=>∃xs x,ay K H a xs/\xs[i]?=some x,λi H x H'=>H'=H/\∀xs,ay K H a xs->xs[i]?=some x,λi H=>∃xs,ay K H a xs/\xs.length<=i⟩
def gp(lo:Int)(n:Nat):It:=⟨λi _=>i<n,λi H x H'=>H'=H/\x=.int (lo+i),λi _=>n<=i⟩
theorem xM{P:Program}{w:World}{K:ag}{tg:Expr}(a it:Addr):Turn P w K tg (ja K a) [it] it (λi h=>h.IsListIter it a i) where
 mem:=by simp
 obj:=λi h st b hb=>by
  have e:b=it:=by simpa using hb
  obtain⟨o,e,c,d⟩:=st
  grind
 keep:=λi h h' st k=>st.at λo e=>k it (by simp) o e
 item:=by
  intro X hP hw hK hc i pins s σ H E I hf st hg;subst hP hw hK;obtain⟨xs,x,hq,hx⟩:=hg;obtain⟨af,rv,p,hz⟩:=I.list hq;obtain⟨u,hu,ru⟩:=rv.get hx;obtain⟨f0,f1,f2,f3,f4,f5⟩:=hf it (by simp);refine wpAny_pyNext_list_item st p.isList (by simpa using hu) λh' jb sb=>?_;obtain⟨o,e,c,d⟩:=id jb;exact⟨u,rfl,ux e c d (by decide) ⟨x,H,(I.turned (λb o hb e=>(sb.2 b hb).trans e) f0 f1 f3 f4 f5),ru,⟨rfl,λys hy=>by rw[I.EM hy hq];exact hx⟩,jb,λb hb=>(hf b hb).1⟩⟩
 done:=by
  intro X hP hw hK hc i pins s σ H E I hf st hg;subst hP hw hK;obtain⟨xs,hq,hx⟩:=hg;obtain⟨af,rv,p,hz⟩:=I.list hq;obtain⟨f0,f1,f2,f3,f4,f5⟩:=hf it (by simp);have hl:=rv.length;exact wpAny_pyNext_list_end (I.ok.hd hc) st p.isList (by simp;omega) λh' eb=>⟨rfl,I.turned (λb o hb e=>eb b o hb e) f0 f1 f3 f4 f5⟩
 self:=λ_ _ _ _ _ st h=>wpAny_pyIter_listiter st h
theorem xp{P:Program}{w:World}{K:ag}{tg:Expr}(a it:Addr):Turn P w K tg (jZ K a) [it] it (λi h=>h.IsTupleIter it a i) where
 mem:=by simp
 obj:=λi h st b hb=>by
  have e:b=it:=by simpa using hb
  obtain⟨o,e,c,d⟩:=st
  grind
 keep:=λi h h' st k=>st.at λo e=>k it (by simp) o e
 item:=by
  intro X hP hw hK hc i pins s σ H E I hf st hg;subst hP hw hK;obtain⟨xs,x,hq,hx⟩:=hg;obtain⟨af,rv,p,hz⟩:=I.tuple hq;obtain⟨u,hu,ru⟩:=rv.get hx;obtain⟨f0,f1,f2,f3,f4,f5⟩:=hf it (by simp);refine wpAny_pyNext_tuple_item st (show s.heap.IsTuple a af.toArray from p) (by simpa using hu) λh' jb sb=>?_;obtain⟨o,e,c,d⟩:=id jb;exact⟨u,rfl,ux e c d (by decide) ⟨x,H,(I.turned (λb o hb e=>(sb.2 b hb).trans e) f0 f1 f3 f4 f5),ru,⟨rfl,λys hy=>by rw[I.Ej hy hq];exact hx⟩,jb,λb hb=>(hf b hb).1⟩⟩
 done:=by
  intro X hP hw hK hc i pins s σ H E I hf st hg;subst hP hw hK;obtain⟨xs,hq,hx⟩:=hg;obtain⟨af,rv,p,hz⟩:=I.tuple hq;obtain⟨f0,f1,f2,f3,f4,f5⟩:=hf it (by simp);have hl:=rv.length;exact wpAny_pyNext_tuple_end (I.ok.hd hc) st (show s.heap.IsTuple a af.toArray from p) (by simp;omega) λh' eb=>⟨rfl,I.turned (λb o hb e=>eb b o hb e) f0 f1 f3 f4 f5⟩
 self:=λ_ _ _ _ _ st h=>wpAny_pyIter_tupleiter st h
theorem DR{P:Program}{w:World}{K:ag}{tg:Expr}(it:Addr)(lo:Int)(n:Nat):Turn P w K tg (gp lo n) [it] it (λi h=>IsRangeIter h it (lo+(i:Nat)*1) ((n:Int)-(i:Nat)) 1) where
 mem:=by simp
 obj:=λi h st b hb=>by
  grind
 keep:=λi h h' st k=>k it (by simp) _ st
 item:=by
  intro X hP hw hK hc i pins s σ H E I hf st hg;subst hP hw hK;obtain⟨f0,f1,f2,f3,f4,f5⟩:=hf it (by simp);refine(Walks.range (I.ok.hd hc) it lo 1 n).item i s _ _ hg st λv h' tk hv jb kk=>?_;obtain⟨t,rfl⟩:=hv;refine⟨_,rfl,ux jb rfl rfl (by decide) ⟨.int (lo+i),H,(I.turned (λb o hb e=>kk b o (by simpa using hb) e) f0 f1 f3 f4 f5),⟨t,?_⟩,⟨rfl,rfl⟩,jb,λb hb=>(hf b hb).1⟩⟩;rw[Int.mul_one]
 done:=by
  intro X hP hw hK hc i pins s σ H E I hf st hg;subst hP hw hK;obtain⟨f0,f1,f2,f3,f4,f5⟩:=hf it (by simp);exact wpAny_pyNext_range_end (I.ok.hd hc) st (by have:n<=i:=hg;omega) λh' eb=>⟨rfl,I.turned (λb o hb e=>eb b o hb e) f0 f1 f3 f4 f5⟩
 self:=λ_ _ _ _ _ st h=>wpAny_pyIter_rangeiter st h
section
variable {X:Cx}{tg:Expr}
inductive yF(K:ag)(R:It->Hp->Prop)(x:V)(H1:Hp):Prop
 |mk (a) (aC:x=.ref a) (aI:(∃xs,ak K H1 a xs)) (aW:R (ja K a) H1):yF K R x H1
def An(K:ag)(tl:TE):TI:=λσ H R=>tl σ H λx H1=>yF K R x H1
inductive zu(K:ag)(R:It->Hp->Prop)(x:V)(H1:Hp):Prop
 |mk (a) (aC:x=.ref a) (aI:(∃xs,ay K H1 a xs)) (aW:R (jZ K a) H1):zu K R x H1
def IJ(K:ag)(tl:TE):TI:=λσ H R=>tl σ H λx H1=>zu K R x H1
theorem yG{l:Expr}{tl:TE}(hl:PE X l tl):PI X tg l (An X.K tl):=by
 intro pins s σ H R I h;refine av (hl pins s σ H _ I h) λv s1 zq=>?_;obtain⟨x,H1,I1,r1,q1⟩:=zq;obtain⟨a,e,⟨xs,hq⟩,q⟩:=q1;subst e;cases r1;obtain⟨af,rv,p,hz⟩:=I1.list hq;refine wpAny_pyIter_list p.isList ⟨s1.heap.objs.size,[s1.heap.objs.size],_,_,H1,rfl,I1.kept λb o e=>Yc _ e,xM a _,⟨_,Ym _ rfl,rfl,rfl⟩,λb hb=>?_,q⟩;have e:b=s1.heap.objs.size:=by simpa using hb
 subst e;exact I1.m6 (Yd _) (I1.ar.fresh (Yd _))
theorem t9{l:Expr}{tl:TE}(hl:PE X l tl):PI X tg l (IJ X.K tl):=by
 intro pins s σ H R I h;refine av (hl pins s σ H _ I h) λv s1 zq=>?_;obtain⟨x,H1,I1,r1,q1⟩:=zq;obtain⟨a,e,⟨xs,hq⟩,q⟩:=q1;subst e;cases r1;obtain⟨af,rv,p,hz⟩:=I1.tuple hq;refine wpAny_pyIter_tuple (show s1.heap.IsTuple a af.toArray from p) ⟨s1.heap.objs.size,[s1.heap.objs.size],_,_,H1,rfl,I1.kept λb o e=>Yc _ e,xp a _,⟨_,Ym _ rfl,rfl,rfl⟩,λb hb=>?_,q⟩;have e:b=s1.heap.objs.size:=by simpa using hb
 subst e;exact I1.m6 (Yd _) (I1.ar.fresh (Yd _))
theorem EN{pins:aB}{σ:St}{H:Hp}{s:Shared}{R:It->Hp->Prop}{E:aE}{lo hi:Int}{t u v:Tok}{tk:Nat}(I:Inv X pins σ H s)(h1:-(2^62)<=lo)(h2:lo<2^62)(h3:-(2^62)<=hi)(h4:hi<2^62)
  (q:R (gp lo (hi-lo).toNat) H):wpAny X.md X.A (pyIter (.ref s.heap.objs.size)) (BA X pins σ tg R) E {s with heap:=s.heap.push {cls:=.type "range",data:=.fields #[.int lo t,.int hi u,.int 1 v]},toks:=tk}:=by
 refine wpAny_pyIter_range (IsRange.new ..) (small_one h1 h2 h3 h4) ?_;have I1:Inv X pins σ H {s with heap:=s.heap.push {cls:=.type "range",data:=.fields #[.int lo t,.int hi u,.int 1 v]},toks:=tk}:=I.kept λb o e=>Yc _ e;refine⟨(s.heap.push {cls:=.type "range",data:=.fields #[.int lo t,.int hi u,.int 1 v]}).objs.size,[(s.heap.push {cls:=.type "range",data:=.fields #[.int lo t,.int hi u,.int 1 v]}).objs.size],_,_,H,rfl,
  I1.kept (t':=tk) λb o e=>Yc _ e,DR _ lo (hi-lo).toNat,?_,λb hb=>?_,q⟩
 ·have e1:lo+((0:Nat):Int)*1=lo:=by simp
  have e2:(((hi-lo).toNat:Nat):Int)-((0:Nat):Int)=Builtin.Range.rangeSize lo hi 1:=by rw[rangeSize_one];split<;>omega
  show IsRangeIter _ _ (lo+((0:Nat):Int)*1) ((((hi-lo).toNat:Nat):Int)-((0:Nat):Int)) 1;rw[e1,e2];exact Ym _ rfl
 ·have e:b=(s.heap.push {cls:=.type "range",data:=.fields #[.int lo t,.int hi u,.int 1 v]}).objs.size:=by simpa using hb
  subst e;exact I1.m6 (Yd _) (I1.ar.fresh (Yd _))
inductive yH(R:It->Hp->Prop)(vs:List V)(H1:Hp):Prop
 |mk (j:Int) (aC:vs=[.int j]) (aI:-(2^62)<=j) (aW:j<2^62) (bt:R (gp 0 j.toNat) H1):yH R vs H1
def HH(ta:TA):TI:=λσ H R=>ta σ H λvs H1=>yH R vs H1
theorem eV{a:Expr}{ta:TA}{p pos:Pos}(hg:Gl X "range")(hm:X.mg "range"=none)(ha:PA X [a] ta)(hs:starEach [a] X.env=[(false,eval a X.env)]:=by rfl):PI X tg (.Call (.Name "range" p) [a] [] pos) (HH ta):=by
 intro pins s σ H R I h;refine Call_ (oU I hg hm boot_range (PyProof.Rows.callWith_type1 (av (ha pos pins s σ H _ I h) λus s1 zq=>?_) hs rfl));obtain⟨vs,H1,I1,r1,q1⟩:=zq;obtain⟨j,e,q1,q2,q⟩:=q1;subst e;cases r1 with
 |cons r rr=>
  cases rr;obtain⟨t,rfl⟩:=r;exact call_range_1 (EN I1 (by omega) (by omega) q1 q2 (by simpa using q))
def IK(wi:TI)(g:TG)(tb:TS):TS:=λD σ H=>wi σ H λJ H1=>∃W:Nat->Nat->St->Hp->Prop,(∃m,W 0 m σ H1)/\∀i m σ H,W i m σ H->
 (J.stop i H/\D.nx σ H)\/(J.go i H/\∃N:St->Hp->Prop,(∀aO H',N aO H'->∃m',m'<m/\W (i+1) m' aO H')/\∀x H',J.jY i H x H'->g x σ H' λcL H2=>tb {D with nx:=N,ct:=N,bk:=D.nx} cL H2)
def mF(fp:List Addr)(h:Heap):List (Addr×Obj):=fp.filterMap λb=>(h.get? b).map λo=>(b,o)
theorem oo{fp:List Addr}{h:Heap}{b:Addr}{o:Obj}(hb:b∈fp)(e:h.get? b=some o):(b,o)∈mF fp h:=W4.mpr ⟨b,hb,by rw[e];rfl⟩
theorem Ek{fp:List Addr}{h:Heap}{p:Addr×Obj}(hp:p∈mF fp h):p.1∈fp/\h.get? p.1=some p.2:=by
 obtain⟨b,hb,e⟩:=W4.mp hp;cases q:h.get? b with
 |none=>grind
 |some o=>grind
theorem Inv.pinned{pins:aB}{σ:St}{H:Hp}{s:Shared}{fp:List Addr}(I:Inv X pins σ H s)(hf:∀b∈fp,e_ X pins H b)(ho:∀b∈fp,∃o,s.heap.get? b=some o/\∀v,o.data≠.cell v):Inv X (pins++mF fp s.heap) σ H s:=
 I.yD λp hp=>(Yu.mp hp).elim (λz=>I.pin p (Ys _ z)) λz=>by
  obtain⟨hb,e⟩:=Ek z;obtain⟨f0,f1,f2,_⟩:=hf p.1 hb
  grind
theorem Inv.oG{pins pl:aB}{σ:St}{H:Hp}{s:Shared}(I:Inv X (pins++pl) σ H s):Inv X pins σ H s:=I.yD λp hp=>I.pin p (Ys _ (Y8 _ hp))
theorem cK{iter:Expr}{body:List Stmt}{wi:TI}{g:TG}{tb:TS}{pos:Pos}(hp:PassesOwn X.md X.A X.env X.xe)(hc:X.calm=true)(hi:PI X tg iter wi)(hg:PG X tg g)(hb:dn X body tb)
  (hs:∀x,foldedSetIterable iter X.env x=pure x:=by intro _;rfl):PS X (.For tg iter body [] pos) (IK wi g tb):=by
 intro pins s σ H D I h;refine wpAny_For (av (hi pins s σ H _ I h) λv s1 h1=>av h1 λnF s2 h2=>?_) hs;obtain⟨it,fp,tn,J,H2,e,I2,T,dU,f2,W,⟨m0,w0⟩,turn⟩:=h2;subst e;have jJ:∀{H':Hp},(∀b∈fp,H' b=none)->∀b∈fp,e_ X pins H' b:=λhn b hb=>⟨hn b hb,(f2 b hb).2⟩;refine codeAny_forLoop_any (λn s'=>∃i aO H',Inv X pins aO H' s'/\tn i s'.heap/\(∀b∈fp,H' b=none)/\W i n aO H') ?_ m0 ⟨0,σ,H2,I2,dU,λb hb=>(f2 b hb).1,w0⟩;rintro n s3 ⟨i,fJ,H3,I3,BB,qg,w3⟩;rcases turn i n fJ H3 w3 with⟨stop,qn⟩|⟨go,N,hN,step⟩
 ·refine wpAny_passesOwn hp (av (T.done X rfl rfl rfl hc i pins s3 fJ H3 X.xe I3 (jJ qg) BB stop) λr s4 zq=>?_);obtain⟨hr,I4⟩:=zq;subst hr;exact wpAny_execs_nil ⟨fJ,H3,I4,qn⟩
 ·refine wpAny_passesOwn hp (av (T.item X rfl rfl rfl hc i pins s3 fJ H3 X.xe I3 (jJ qg) BB go) λr s4 zq=>?_);obtain⟨u,hr,h4⟩:=zq;subst hr;refine wpAny_passesOwn hp (av h4 λ_ s5 ⟨x,H5,I5,r5,y5,lr,qh⟩=>wpAny_passesOwn hp (av (hg _ s5 fJ H5 x u _ (I5.pinned (jJ qh) (T.obj _ _ lr)) r5 (step x H5 y5)) λ_ s6 ⟨qi,H6,I6,q6⟩=>wpAny_passesOwn hp (av (hb _ s6 qi H6 _ I6 q6) λf s7 q7=>?_)));have again:∀{fK:St} {H7:Hp},Inv X (pins++mF fp s5.heap) fK H7 s7->N fK H7->∃m,m<n/\∃i aO H',Inv X pins aO H' s7/\tn i s7.heap/\(∀b∈fp,H' b=none)/\W i m aO H':=λ{fK H7} I7 n7=>by
   obtain⟨m',hm,w7⟩:=hN fK H7 n7;refine⟨m',hm,i+1,fK,H7,I7.oG,T.keep _ _ _ lr λb hb o e=>(I7.pin (b,o) (Ys _ (Ys _ (oo hb e)))).1,λb hb=>?_,w7⟩;obtain⟨o,e,d⟩:=T.obj _ _ lr b hb;exact(I7.pin (b,o) (Ys _ (Ys _ (oo hb e)))).2.1
  cases f with
  |next=>obtain⟨fK,H7,I7,n7⟩:=q7;exact again I7 n7
  |cont=>obtain⟨fK,H7,I7,n7⟩:=q7;exact again I7 n7
  |brk=>obtain⟨fK,H7,I7,q7⟩:=q7;exact⟨fK,H7,I7.oG,q7⟩
  |ret v=>obtain⟨x7,fK,H7,I7,r7,q7⟩:=q7;exact⟨x7,fK,H7,I7.oG,r7,q7⟩
end
theorem dt{K:ag}{a:Addr}{xs:List V}{g:TG}{tb:TS}{D:Ends}{σ:St}{H:Hp}(Pv:Nat->St->Hp->Prop)(h0:Pv 0 σ H)(hl:∀i σ H,i<=xs.length->Pv i σ H->ak K H a xs)
  (hs:∀i x σ H,xs[i]?=some x->Pv i σ H->g x σ H λcL H2=>tb {D with nx:=Pv (i+1),ct:=Pv (i+1),bk:=D.nx} cL H2)(hd:∀σ H,Pv xs.length σ H->D.nx σ H):
  ∃W:Nat->Nat->St->Hp->Prop,(∃m,W 0 m σ H)/\∀i m σ H,W i m σ H->
   ((ja K a).stop i H/\D.nx σ H)\/((ja K a).go i H/\∃N:St->Hp->Prop,(∀aO H',N aO H'->∃m',m'<m/\W (i+1) m' aO H')/\∀x H',(ja K a).jY i H x H'->g x σ H' λcL H2=>tb {D with nx:=N,ct:=N,bk:=D.nx} cL H2):=by
 refine⟨λi m σ H=>m=xs.length-i/\i<=xs.length/\Pv i σ H,⟨xs.length,by simp,Y2 _,h0⟩,?_⟩;rintro i m σ H ⟨rfl,hi,p⟩;have q:=hl i σ H hi p;by_cases bE:i<xs.length
 ·refine .inr ⟨⟨xs,xs[i],q,by simp[bE]⟩,Pv (i+1),λaO H' p'=>⟨xs.length-(i+1),by omega,rfl,bE,p'⟩,λx H' y=>?_⟩;obtain⟨e,y⟩:=y;subst e;exact hs i x σ _ (y xs q) p
 ·have e:i=xs.length:=by omega
  subst e;exact .inl ⟨⟨xs,q,Yd _⟩,hd σ H p⟩
theorem FC{K:ag}{a:Addr}{xs:List V}{g:TG}{tb:TS}{D:Ends}{σ:St}{H:Hp}(Pv:Nat->St->Hp->Prop)(h0:Pv 0 σ H)(hl:∀i σ H,i<=xs.length->Pv i σ H->ay K H a xs)
  (hs:∀i x σ H,xs[i]?=some x->Pv i σ H->g x σ H λcL H2=>tb {D with nx:=Pv (i+1),ct:=Pv (i+1),bk:=D.nx} cL H2)(hd:∀σ H,Pv xs.length σ H->D.nx σ H):
  ∃W:Nat->Nat->St->Hp->Prop,(∃m,W 0 m σ H)/\∀i m σ H,W i m σ H->
   ((jZ K a).stop i H/\D.nx σ H)\/((jZ K a).go i H/\∃N:St->Hp->Prop,(∀aO H',N aO H'->∃m',m'<m/\W (i+1) m' aO H')/\∀x H',(jZ K a).jY i H x H'->g x σ H' λcL H2=>tb {D with nx:=N,ct:=N,bk:=D.nx} cL H2):=by
 refine⟨λi m σ H=>m=xs.length-i/\i<=xs.length/\Pv i σ H,⟨xs.length,by simp,Y2 _,h0⟩,?_⟩;rintro i m σ H ⟨rfl,hi,p⟩;have q:=hl i σ H hi p;by_cases bE:i<xs.length
 ·refine .inr ⟨⟨xs,xs[i],q,by simp[bE]⟩,Pv (i+1),λaO H' p'=>⟨xs.length-(i+1),by omega,rfl,bE,p'⟩,λx H' y=>?_⟩;obtain⟨e,y⟩:=y
  grind
 ·have e:i=xs.length:=by omega
  subst e;exact .inl ⟨⟨xs,q,Yd _⟩,hd σ H p⟩
theorem l3{lo:Int}{n:Nat}{g:TG}{tb:TS}{D:Ends}{σ:St}{H:Hp}(Pv:Nat->St->Hp->Prop)(h0:Pv 0 σ H)
  (hs:∀i σ H,i<n->Pv i σ H->g (.int (lo+i)) σ H λcL H2=>tb {D with nx:=Pv (i+1),ct:=Pv (i+1),bk:=D.nx} cL H2)(hd:∀σ H,Pv n σ H->D.nx σ H):
  ∃W:Nat->Nat->St->Hp->Prop,(∃m,W 0 m σ H)/\∀i m σ H,W i m σ H->
   ((gp lo n).stop i H/\D.nx σ H)\/((gp lo n).go i H/\∃N:St->Hp->Prop,(∀aO H',N aO H'->∃m',m'<m/\W (i+1) m' aO H')/\∀x H',(gp lo n).jY i H x H'->g x σ H' λcL H2=>tb {D with nx:=N,ct:=N,bk:=D.nx} cL H2):=by
 refine⟨λi m σ H=>m=n-i/\i<=n/\Pv i σ H,⟨n,by simp,Y2 _,h0⟩,?_⟩;rintro i m σ H ⟨rfl,hi,p⟩;by_cases bE:i<n
 ·refine .inr ⟨bE,Pv (i+1),λaO H' p'=>⟨n-(i+1),by omega,rfl,bE,p'⟩,λx H' y=>?_⟩;obtain⟨e,y⟩:=y
  grind
 ·have e:i=n:=by omega
  subst e;exact .inl ⟨Yd _,hd σ H p⟩
theorem EO{c:TT}{tb:TS}{D:Ends}{σ:St}{H:Hp}(Pv:St->Hp->Prop)(μ:St->Hp->Nat)(h0:Pv σ H)
  (hs:∀σ H,Pv σ H->c σ H λb H1=>if b=true then tb {D with nx:=λaO H'=>Pv aO H'/\μ aO H'<μ σ H,ct:=λaO H'=>Pv aO H'/\μ aO H'<μ σ H,bk:=D.nx} σ H1 else D.nx σ H1)
  (mono:∀σ H Q Q',(∀b H1,Q b H1->Q' b H1)->c σ H Q->c σ H Q'):zt c tb D σ H:=by
 refine⟨λm σ H=>m=μ σ H/\Pv σ H,⟨_,rfl,h0⟩,?_⟩;rintro m σ H ⟨rfl,p⟩;refine mono σ H _ _ (λb H1 q=>?_) (hs σ H p);cases b with
 |true=>exact⟨_,λaO H' ⟨p',l⟩=>⟨_,l,rfl,p'⟩,q⟩
 |false=>exact q
abbrev R2:=V->V->Hp->VK->Prop
def bu(X:Cx)(f:Value->Value->Sem Value)(r:R2):Prop:=
 ∀(pins:aB) (s:Shared) (σ:St) (H:Hp) (x y:V) (v u:Value) (Q:VK),Inv X pins σ H s->RelV x v->RelV y u->r x y H Q->
  wpAny X.md X.A (f v u) (EP X pins σ Q) X.xe s
def vD(X:Cx)(f:Value->Sem Value)(r:V->Hp->VK->Prop):Prop:=
 ∀(pins:aB) (s:Shared) (σ:St) (H:Hp) (x:V) (v:Value) (Q:VK),Inv X pins σ H s->RelV x v->r x H Q->
  wpAny X.md X.A (f v) (EP X pins σ Q) X.xe s
def cf(X:Cx)(f:Value)(r:List V->Hp->VK->Prop):Prop:=
 ∀(pins:aB) (s:Shared) (σ:St) (H:Hp) (xs:List V) (us:List Value) (Q:VK),Inv X pins σ H s->Vals xs us->r xs H Q->
  wpAny X.md X.A (call f us) (EP X pins σ Q) X.xe s
def IL(X:Cx)(r:V->Hp->(Bool->Hp->Prop)->Prop):Prop:=
 ∀(pins:aB) (s:Shared) (σ:St) (H:Hp) (x:V) (v:Value) (Q:Bool->Hp->Prop),Inv X pins σ H s->RelV x v->r x H Q->
  wpAny X.md X.A (truthy v) (TP X pins σ Q) X.xe s
def fb(r:R2)(ta tb:TE):TE:=λσ H Q=>ta σ H λx H1=>tb σ H1 λy H2=>r x y H2 Q
def JP(r:V->Hp->VK->Prop)(ta:TE):TE:=λσ H Q=>ta σ H λx H1=>r x H1 Q
inductive AX(C:Int->Int->Prop)(g:Int->Int->V)(x:V)(y:V)(H:Hp)(Q:VK):Prop
 |mk (i j) (aC:x=.int i) (aI:y=.int j) (aW:C i j) (bt:Q (g i j) H):AX C g x y H Q
def rI(C:Int->Int->Prop)(g:Int->Int->V):R2:=λx y H Q=>AX C g x y H Q
inductive Ao(g:Int->Int->V)(x:V)(y:V)(H:Hp)(Q:VK):Prop
 |mk (i j) (aC:x=.int i) (aI:y=.int j) (aW:Q (g i j) H):Ao g x y H Q
def jc(g:Int->Int->V):R2:=λx y H Q=>Ao g x y H Q
inductive AY(g:Int->V)(x:V)(H:Hp)(Q:VK):Prop
 |mk (i) (aC:x=.int i) (aI:Q (g i) H):AY g x H Q
def rU(g:Int->V):V->Hp->VK->Prop:=λx H Q=>AY g x H Q
section
variable {X:Cx}{a b c:Expr}{ta tb tc:TE}{pos:Pos}
theorem uM(ha:PE X a ta)(hb:PE X b tb){pins:aB}{s:Shared}{σ:St}{H:Hp}{R:V->V->Hp->Prop}(I:Inv X pins σ H s)
  (h:ta σ H λx H1=>tb σ H1 λy H2=>R x y H2){Q:aE}{f:Value->Value->Sem Value}
  (hf:∀v u s2 x y H2,Inv X pins σ H2 s2->RelV x v->RelV y u->R x y H2->wpAny X.md X.A (f v u) Q X.xe s2):
  wpAny X.md X.A (eval a X.env) (λv aQ=>wpAny X.md X.A (eval b X.env) (λu d9=>wpAny X.md X.A (f v u) Q X.xe d9) X.xe aQ) X.xe s:=by
 refine av (ha pins s σ H _ I h) λv s1 zq=>?_;obtain⟨x,H1,I1,r1,q1⟩:=zq;refine av (hb pins s1 σ H1 _ I1 q1) λu s2 zq=>?_;obtain⟨y,H2,I2,r2,q2⟩:=zq
 grind
theorem az{op:Operator}{r:R2}(ho:bu X (binaryOp op) r)(ha:PE X a ta)(hb:PE X b tb):PE X (.BinOp a op b pos) (fb r ta tb):=by
 intro pins s σ H Q I h;exact wpAny_BinOp (uM ha hb I h λv u s2 x y H2 I2 rx ry q=>ho pins s2 σ H2 x y v u Q I2 rx ry q)
theorem o_{op:UnaryOp}{r:V->Hp->VK->Prop}(ho:vD X (unaryOp op) r)(ha:PE X a ta):PE X (.UnaryOp op a pos) (JP r ta):=by
 intro pins s σ H Q I h;exact UnaryOp_ (av (ha pins s σ H _ I h) λv s1 ⟨x,H1,I1,r1,q1⟩=>ho pins s1 σ H1 x v Q I1 r1 q1)
theorem qj{f:Value->Value->Sem Value}{C:Int->Int->Prop}{g:Int->Int->Int}
  (rule:∀(i j:Int) (t u:Tok) (s:Shared) (Q:aE) (E:aE),C i j->Q (.int (g i j) s.toks) {s with toks:=s.toks+1}->wpAny X.md X.A (f (.int i t) (.int j u)) Q E s):
  bu X f (rI C λi j=>.int (g i j)):=by
 rintro pins s σ H x y v u Q I rx ry ⟨i,j,rfl,rfl,hc,q⟩;obtain⟨t,rfl⟩:=rx;obtain⟨t',rfl⟩:=ry;exact rule i j t t' s _ _ hc ⟨.int (g i j),H,I.tok _,⟨_,rfl⟩,q⟩
theorem AZ{f:Value->Value->Sem Value}{g:Int->Int->Int}
  (rule:∀(i j:Int) (t u:Tok) (s:Shared) (Q:aE) (E:aE),Q (.int (g i j) s.toks) {s with toks:=s.toks+1}->wpAny X.md X.A (f (.int i t) (.int j u)) Q E s):
  bu X f (jc λi j=>.int (g i j)):=by
 rintro pins s σ H x y v u Q I rx ry ⟨i,j,rfl,rfl,q⟩;obtain⟨t,rfl⟩:=rx;obtain⟨t',rfl⟩:=ry;exact rule i j t t' s _ _ ⟨.int (g i j),H,I.tok _,⟨_,rfl⟩,q⟩
theorem uN{f:Value->Value->Sem Value}{g:Int->Int->Bool}
  (rule:∀(i j:Int) (t u:Tok) (s:Shared) (Q:aE) (E:aE),Q (.bool (g i j)) s->wpAny X.md X.A (f (.int i t) (.int j u)) Q E s):
  bu X f (jc λi j=>.bl (g i j)):=by
 rintro pins s σ H x y v u Q I rx ry ⟨i,j,rfl,rfl,q⟩;obtain⟨t,rfl⟩:=rx;obtain⟨t',rfl⟩:=ry;exact rule i j t t' s _ _ ⟨.bl (g i j),H,I,rfl,q⟩
def uO(i j:Int):Prop:=0<j/\j<1073741824
def IM(i j:Int):Prop:=0<=j/\j<=1000000/\i.natAbs<2^64
def m7(i j:Int):Prop:=(-(2^64)<i/\i<2^64)\/(-(2^64)<j/\j<2^64)
theorem m7.ok{i j:Int}(h:m7 i j):IntMulOk i j:=by
 rcases h with⟨h1,h2⟩|⟨h1,h2⟩;·exact .of_left (intBits_le_64 h1 h2)
 ·exact .of_right (intBits_le_64 h1 h2)
theorem cN:bu X (binaryOp .Add) (jc λi j=>.int (i+j)):=AZ λ_ _ _ _ _ _ _ q=>add_int q
theorem t_:bu X (binaryOp .Sub) (jc λi j=>.int (i-j)):=AZ λ_ _ _ _ _ _ _ q=>sub_int q
theorem fC:bu X (binaryOp .Mult) (rI m7 λi j=>.int (i*j)):=qj λ_ _ _ _ _ _ _ hc q=>mul_int q hc.ok
theorem oM:bu X (binaryOp .FloorDiv) (rI uO λi j=>.int (i/j)):=qj λi j _ _ _ _ _ hc q=>by
 have h1:(0:Int)<j:=hc.1;have h2:j<1073741824:=hc.2;exact floordiv_int (by omega) (by rw[Int.fdiv_eq_ediv_of_nonneg i (by omega)];exact q) (.inl (PyProof.noPylong_small (by omega)))
theorem bZ:bu X (binaryOp .Mod) (rI (λ_ j=>0<j) λi j=>.int (i % j)):=qj λi j _ _ _ _ _ hc q=>by
 have h1:(0:Int)<j:=hc;exact mod_int' (by omega) (by rw[Int.fmod_eq_emod_of_nonneg i (by omega)];exact q)
theorem ua:bu X (binaryOp .Pow) (rI IM λi j=>.int (i^j.toNat)):=qj λ_ _ _ _ _ _ _ hc q=>pow_int_small hc.1 hc.2.1 hc.2.2 q
theorem JQ{f:Value->Sem Value}{g:Int->Int}
  (rule:∀(i:Int) (t:Tok) (s:Shared) (Q:aE) (E:aE),Q (.int (g i) s.toks) {s with toks:=s.toks+1}->wpAny X.md X.A (f (.int i t)) Q E s):
  vD X f (rU λi=>.int (g i)):=by
 rintro pins s σ H x v Q I rx ⟨i,rfl,q⟩;obtain⟨t,rfl⟩:=rx;exact rule i t s _ _ ⟨.int (g i),H,I.tok _,⟨_,rfl⟩,q⟩
theorem oW:vD X (unaryOp .USub) (rU λi=>.int (-i)):=JQ λ_ _ _ _ _ q=>neg_int q
end
def uP:V->V->Bool
 |.aD,.aD=>true|.aD,.int _=>true|.int _,.aD=>true|.aD,.bl _=>true|.bl _,.aD=>true|.aD,.str _=>true|.str _,.aD=>true
 |.int _,.int _=>true|.bl _,.bl _=>true|.str _,.str _=>true|.dR _,.dR _=>true
 |.int _,.str _=>true|.str _,.int _=>true|.bl _,.str _=>true|.str _,.bl _=>true
 |_,_=>false
def BC:R2:=λx y H Q=>uP x y=true/\Q (.bl (decide (x=y))) H
def JR:R2:=λx y H Q=>uP x y=true/\Q (.bl (!decide (x=y))) H
theorem yI{i j:Int}:decide (V.int i=V.int j)=(i==j):=by
 grind
theorem zw{i j:Bool}:decide (V.bl i=V.bl j)=(i==j):=by
 grind
theorem yJ{i j:Str}:decide (V.str i=V.str j)=(i==j):=by
 grind
theorem yK{i j:Array UInt8}:decide (V.dR i=V.dR j)=(i.toList==j.toList):=by
 rw[Wu];simp_all
section
variable {X:Cx}{a b c:Expr}{ta tb tc:TE}{pos:Pos}
theorem bA{pins:aB}{σ:St}{H:Hp}{s:Shared}{Q:VK}{k k':Bool}(I:Inv X pins σ H s)(q:Q (.bl k) H)(e:k=k'):EP X pins σ Q (.bool k') s:=by
 subst e;exact⟨.bl k,H,I,rfl,q⟩
theorem dJ:bu X (compareOp .Eq) BC:=by
 intro pins s σ H x y v u Q I rx ry h;obtain⟨hs,q⟩:=h;cases x with
 |aD=>
  cases rx;cases y with
  |aD=>cases ry;exact PySem.EqNone.eq_none_none (bA I q (by simp))
  |bl j=>cases ry;exact PySem.EqNone.eq_none_bool (bA I q (by simp))
  |int j=>obtain⟨t',rfl⟩:=ry;exact PySem.EqNone.eq_none_int (bA I q (by simp))
  |str j=>obtain⟨t',rfl⟩:=ry;exact PySem.EqNone.eq_none_str (bA I q (by simp))
  |_=>exact absurd (show false=true from hs) Yg
 |bl i=>
  cases rx;cases y with
  |aD=>cases ry;exact PySem.EqNone.eq_bool_none (bA I q (by simp))
  |bl j=>cases ry;exact eq_bool (bA I q zw)
  |str j=>obtain⟨t',rfl⟩:=ry;exact PySem.EqMixed.eq_bool_str (bA I q (by simp))
  |_=>exact absurd (show false=true from hs) Yg
 |int i=>
  obtain⟨t,rfl⟩:=rx;cases y with
  |aD=>cases ry;exact PySem.EqNone.eq_int_none (bA I q (by simp))
  |int j=>obtain⟨t',rfl⟩:=ry;exact eq_int (bA I q yI)
  |str j=>obtain⟨t',rfl⟩:=ry;exact PySem.EqMixed.eq_int_str (bA I q (by simp))
  |_=>exact absurd (show false=true from hs) Yg
 |str i=>
  obtain⟨t,rfl⟩:=rx;cases y with
  |aD=>cases ry;exact PySem.EqNone.eq_str_none (bA I q (by simp))
  |bl j=>cases ry;exact PySem.EqMixed.eq_str_bool (bA I q (by simp))
  |int j=>obtain⟨t',rfl⟩:=ry;exact PySem.EqMixed.eq_str_int (bA I q (by simp))
  |str j=>obtain⟨t',rfl⟩:=ry;exact eq_str (bA I q yJ)
  |_=>exact absurd (show false=true from hs) Yg
 |dR i=>
  obtain⟨t,rfl⟩:=rx;cases y with
  |dR j=>obtain⟨t',rfl⟩:=ry;exact PySem.W.eq_bytes (bA I q yK)
  |_=>exact absurd (show false=true from hs) Yg
 |_=>cases y<;>exact absurd (show false=true from hs) Yg
theorem dM:bu X (compareOp .NotEq) JR:=by
 intro pins s σ H x y v u Q I rx ry h;obtain⟨hs,q⟩:=h;cases x with
 |aD=>
  cases rx;cases y with
  |aD=>cases ry;exact PySem.EqNone.ne_none_none (bA I q (by simp))
  |bl j=>cases ry;exact PySem.EqNone.ne_none_bool (bA I q (by simp))
  |int j=>obtain⟨t',rfl⟩:=ry;exact PySem.EqNone.ne_none_int (bA I q (by simp))
  |str j=>obtain⟨t',rfl⟩:=ry;exact PySem.EqNone.ne_none_str (bA I q (by simp))
  |_=>exact absurd (show false=true from hs) Yg
 |bl i=>
  cases rx;cases y with
  |aD=>cases ry;exact PySem.EqNone.ne_bool_none (bA I q (by simp))
  |bl j=>cases ry;exact ne_bool (bA I q (congrArg not zw))
  |str j=>obtain⟨t',rfl⟩:=ry;exact PySem.EqMixed.ne_bool_str (bA I q (by simp))
  |_=>exact absurd (show false=true from hs) Yg
 |int i=>
  obtain⟨t,rfl⟩:=rx;cases y with
  |aD=>cases ry;exact PySem.EqNone.ne_int_none (bA I q (by simp))
  |int j=>obtain⟨t',rfl⟩:=ry;exact ne_int (bA I q (congrArg not yI))
  |str j=>obtain⟨t',rfl⟩:=ry;exact PySem.EqMixed.ne_int_str (bA I q (by simp))
  |_=>exact absurd (show false=true from hs) Yg
 |str i=>
  obtain⟨t,rfl⟩:=rx;cases y with
  |aD=>cases ry;exact PySem.EqNone.ne_str_none (bA I q (by simp))
  |bl j=>cases ry;exact PySem.EqMixed.ne_str_bool (bA I q (by simp))
  |int j=>obtain⟨t',rfl⟩:=ry;exact PySem.EqMixed.ne_str_int (bA I q (by simp))
  |str j=>obtain⟨t',rfl⟩:=ry;exact ne_str (bA I q (congrArg not yJ))
  |_=>exact absurd (show false=true from hs) Yg
 |dR i=>
  obtain⟨t,rfl⟩:=rx;cases y with
  |dR j=>obtain⟨t',rfl⟩:=ry;exact PySem.W.ne_bytes (bA I q (congrArg not yK))
  |_=>exact absurd (show false=true from hs) Yg
 |_=>cases y<;>exact absurd (show false=true from hs) Yg
theorem pd:bu X (compareOp .Lt) (jc λi j=>.bl (decide (i<j))):=uN λ_ _ _ _ _ _ _ q=>lt_int q
theorem Ap:bu X (compareOp .Gt) (jc λi j=>.bl (decide (j<i))):=uN λ_ _ _ _ _ _ _ q=>gt_int q
theorem HJ:bu X (compareOp .GtE) (jc λi j=>.bl (decide (j<=i))):=uN λ_ _ _ _ _ _ _ q=>ge_int q
theorem GF:bu X (compareOp .Is) (λx y H Q=>y=.aD/\Q (.bl (decide (x=.aD))) H):=by
 intro pins s σ H x y v u Q I rx ry h;obtain⟨rfl,q⟩:=h;cases ry;refine is_none_gen (bA I q ?_);cases x<;>first
  |(cases rx;rfl)
  |(obtain⟨t,rfl⟩:=rx;rfl)
theorem tQ:bu X (compareOp .IsNot) (λx y H Q=>y=.aD/\Q (.bl (!decide (x=.aD))) H):=by
 rintro pins s σ H x y v u Q I rx ry ⟨rfl,q⟩;cases ry;refine isnot_none_gen (bA I q ?_);cases x<;>first
  |(cases rx;rfl)
  |(obtain⟨t,rfl⟩:=rx;rfl)
theorem zx(b:Expr){op:CmpOp}(h:op≠.In:=by decide)(h2:op≠.NotIn:=by decide):behindInMarks op b=false:=by
 have e1:(op==CmpOp.In)=false:=by cases op<;>first|rfl|exact absurd rfl h
 have e2:(op==CmpOp.NotIn)=false:=by cases op<;>first|rfl|exact absurd rfl h2
 cases b<;>simp[behindInMarks,e1,e2]
theorem yL{op:CmpOp}{r:R2}(ho:bu X (compareOp op) r)(ha:PE X a ta)(hb:PE X b tb)(hm:behindInMarks op b=false):PE X (.Compare a [op] [b] pos) (fb r ta tb):=by
 intro pins s σ H Q I h;exact wpAny_Compare1 (uM ha hb I h λv u s2 x y H2 I2 rx ry q=>ho pins s2 σ H2 x y v u Q I2 rx ry q) hm
inductive yM(Q:Bool->Hp->Prop)(x:V)(H':Hp):Prop
 |mk (k) (aC:x=.bl k) (aI:Q k H'):yM Q x H'
def uy(t:TE):TT:=λσ H Q=>t σ H λx H'=>yM Q x H'
theorem tR{op:CmpOp}{r:R2}(ho:bu X (compareOp op) r)(ha:PE X a ta)(hb:PE X b tb)(hm:behindInMarks op b=false):PT X (.Compare a [op] [b] pos) (uy (fb r ta tb)):=by
 intro pins s σ H Q I h;refine wpAny_isTrue_Compare1 (av (ha pins s σ H _ I h) λv s1 ⟨x,H1,I1,r1,q1⟩=>av (hb pins s1 σ H1 _ I1 q1) λu s2 ⟨y,H2,I2,r2,q2⟩=>
  av (ho pins s2 σ H2 x y v u _ I2 r1 r2 q2) λc s3 ⟨z,H3,I3,r3,k,e,q3⟩=>?_) hm
 subst e;cases r3;exact wpAny_truthy_bool ⟨H3,I3,q3⟩
def pJ(K:ag)(x:V)(H:Hp)(k:Bool):Prop:=
 match x with
 |.aD=>k=false
 |.bl b=>k=b
 |.int i=>k=(i !=0)
 |.str y=>y.length<=sizeLine/\k=((y.length:Int)!=0)
 |.dR y=>y.size<=sizeLine/\k=((y.size:Int)!=0)
 |.ref p=>(∃xs,ak K H p xs/\k=!xs.isEmpty)\/(∃xs,ay K H p xs/\k=!xs.isEmpty)\/∃aa,H p=some (.dK aa)/\k=!aa.isEmpty
 |_=>False
theorem DS{κ:Type}{aa:List (κ×V)}{vs:List (κ×Value)}(r:KV aa vs):(!vs.isEmpty)=!aa.isEmpty:=by
 cases r<;>rfl
theorem xq{xs:List V}{af:List Value}(r:Vals xs af):(!af.toArray.isEmpty)=!xs.isEmpty:=by
 cases r<;>simp
theorem mG:(sizeLine:Nat)<2^63:=by rw[sizeLine_eq];decide
theorem GG:IL X (λx H Q=>∃k,pJ X.K x H k/\Q k H):=by
 intro pins s σ H x v Q I rx h;obtain⟨k,e,q⟩:=h;have hl:=mG;have hs:sizeLine=16777216:=sizeLine_eq;cases x with
 |aD=>
  cases rx;have e':k=false:=e;subst e';exact truthy_none ⟨H,I,q⟩
 |bl b=>
  cases rx;have e':k=b:=e;subst e';exact wpAny_truthy_bool ⟨H,I,q⟩
 |int i=>
  obtain⟨t,rfl⟩:=rx;have e':k=(i !=0):=e;subst e';exact PySem.P.truthy_int ⟨H,I,q⟩
 |str y=>
  obtain⟨t,rfl⟩:=rx;obtain⟨hy,e'⟩:y.length<=sizeLine/\k=((y.length:Int)!=0):=e;subst e';exact PySem.P.truthy_str (by omega) ⟨H,I.tok _,q⟩
 |dR y=>
  obtain⟨t,rfl⟩:=rx;obtain⟨hy,e'⟩:y.size<=sizeLine/\k=((y.size:Int)!=0):=e;subst e';exact PySem.W.truthy_bytes (by omega) ⟨H,I.tok _,q⟩
 |ref p=>
  cases rx;have e':=e;rcases e' with⟨xs,hx,e'⟩|⟨xs,hx,e'⟩|⟨aa,hx,e'⟩
  ·subst e';obtain⟨af,r,pl,hz⟩:=I.list hx;have hlen:=r.length;exact wpAny_truthy_list pl.isList (by simp only[Yl];omega) ⟨H,I.tok _,by rw[xq r];exact q⟩
  ·subst e';obtain⟨af,r,pl,hz⟩:=I.tuple hx;have hlen:=r.length;exact truthy_tuple pl (by simp only[Yl];omega) ⟨H,I.tok _,by rw[xq r];exact q⟩
  ·subst e';obtain⟨hz,hS,vs,r,m⟩:aa.length<=sizeLine/\(p==sysModules)=false/\∃vs,KV aa vs/\s.heap.DictOf (cV X.prog X.w) p vs:=I.ar p _ hx;have hlen:aa.length=vs.length:=Paired.length r;exact wpAny_truthy_dict hS m (by omega) ⟨H,I.tok _,by rw[DS r];exact q⟩
 |_=>exact(show False from e).elim
theorem ER(ha:PE X a ta)(he:∀whole,isTrue a X.env whole=(do let v←whole;standAt a.pos;holding [v] (truthy v))):
  PT X a (λσ H Q=>ta σ H λx H'=>∃k,pJ X.K x H' k/\Q k H'):=by
 intro pins s σ H Q I h;exact isTrue_plain (av (ha pins s σ H _ I h) λv s1 ⟨x,H1,I1,r1,q1⟩=>GG pins s1 σ H1 x v Q I1 r1 q1) (he _)
theorem kB:bu X (binaryOp .Add) (λx y H Q=>∃i j,x=.str i/\y=.str j/\i.length+j.length<=sizeLine/\Q (.str (i++j)) H):=by
 rintro pins s σ H x y v u Q I rx ry ⟨i,j,rfl,rfl,hz,q⟩;obtain⟨t,rfl⟩:=rx;obtain⟨t',rfl⟩:=ry;exact add_str (λt' tk=>⟨.str (i++j),H,I.tok _,⟨_,rfl⟩,q⟩) hz
theorem vals1{x:V}{us:List Value}(r:Vals [x] us):∃u,us=[u]/\RelV x u:=by
 cases r with
 |cons r1 r2=>cases r2;exact⟨_,rfl,r1⟩
theorem vals2{x y:V}{us:List Value}(r:Vals [x,y] us):∃u w',us=[u,w']/\RelV x u/\RelV y w':=by
 cases r with
 |cons r1 r2=>
  cases r2 with
  |cons r3 r4=>cases r4;exact⟨_,_,rfl,r1,r3⟩
theorem yc:cf X (.builtin "abs") (λxs H Q=>∃i,xs=[.int i]/\Q (.int (if i<0 then-i else i)) H):=by
 rintro pins s σ H xs us Q I r ⟨i,rfl,q⟩;obtain⟨u,rfl,t,rfl⟩:=vals1 r;exact call_abs_int λu tk=>⟨.int (if i<0 then-i else i),H,I.tok _,⟨_,rfl⟩,q⟩
theorem El(hc:X.calm=true):cf X (.builtin "min") (λxs H Q=>∃i j,xs=[.int i,.int j]/\Q (.int (if j<i then j else i)) H):=by
 rintro pins s σ H xs us Q I r ⟨i,j,rfl,q⟩;obtain⟨u,w',rfl,⟨t,rfl⟩,⟨t',rfl⟩⟩:=vals2 r;refine min_two_ints (I.ok.hd hc) λh' tk k=>⟨_,H,I.kept k,?_,q⟩;by_cases hj:j<i;·rw[if_pos hj,if_pos hj];exact⟨_,rfl⟩
 ·rw[if_neg hj,if_neg hj];exact⟨_,rfl⟩
theorem rO:cf X (.type "str") (λxs H Q=>∃i,xs=[.int i]/\i.natAbs.log2<1920/\Q (.str (toString i)) H):=by
 rintro pins s σ H xs us Q I r ⟨i,rfl,hz,q⟩;obtain⟨u,rfl,t,rfl⟩:=vals1 r;exact PySem.P.str_of_int hz ⟨.str _,H,I.tok _,⟨_,rfl⟩,q⟩
end
structure jK(h:Heap)(x dx C:Addr)(mA:aG):Prop where
 obj:h.get? x=some (instObj C dx)
 ns:h.Ns1 dx mA
 ne:dx≠x
theorem Em{h:Heap}{dx:Addr}{mA:aG}(n:h.Ns1 dx mA):∃od,h.get? dx=some od/\∀name,lookIn name od=some (mA name):=by
 obtain⟨o,es,ep,ho,hd,hk,_,hm⟩:=n;refine⟨o,ho,λname=>?_⟩;have e:=hm name;unfold nsFind findBy at e;rw[←Array.find?_toList] at e;unfold lookIn;rw[hd];dsimp only;split;·grind
 ·rename_i q
  have a:es.toList.any (·.refKey)=false:=by
   rw[List.any_eq_false];intro y hy;obtain⟨z,t,i8⟩:=hk y (Array.mem_toList_iff.mp hy);simp[DictEntry.refKey,i8]
  grind
theorem jK.look{h:Heap}{x dx C:Addr}{mA:aG}(I:jK h x dx C mA):∃od,PySem.W.InstAt h x (instObj C dx) C (some od)/\∀name,lookIn name od=some (mA name):=
 let⟨od,ho,hl⟩:=Em I.ns
 ⟨od,⟨I.obj,rfl,rfl,ho⟩,hl⟩
section
variable {prog:Program}{w:World}{A:Around}{E:aE}{s:Shared}{K:ag}{x dx C f:Addr}{mA:aG}{name:Str}{v:Value}
theorem get_map{expr:Bool}{Q:aE}(X:K.In s.heap)(I:jK s.heap x dx C mA)(hg:plainGet K C name=true)(hh:hasDictIn K C=true)
  (ha:PySem.W.findIn K (.ref C) name=some none)(hv:mA name=some v)(JS:handedIn v=true)(h:Q v {s with toks:=s.toks+1}):
  wpAny (model prog w) A (getAttr (.ref x) name expr) Q E s:=by
 obtain⟨od,J,hl⟩:=I.look;exact PySem.W.get_value X J (plainGet_of hg).1 (PySem.W.findObj_own hh ha rfl (by rw[hl,hv])) JS h
theorem ES{pl:Sem Bool}{Q:Value×List Value->Shared->Prop}(X:K.In s.heap)(I:jK s.heap x dx C mA)(hg:plainGet K C name=true)
  (hf:PySem.W.findIn K (.ref C) name=some (some (.ref f)))(ht:isFn K (.ref f)=true)(hv:mA name=none)(h:Q (.ref f,[.ref x]) s):
  wpAny (model prog w) A (getMethod (.ref x) name pl) Q E s:=by
 obtain⟨od,J,hl⟩:=I.look;exact PySem.W.method_fn X J (plainGet_of hg).1 (plainGet_of hg).2 hf (beq_iff_eq.mp ht) (by show(lookIn name od).map (·.isSome)=some false;rw[hl,hv];rfl) h
theorem FD{ns:List Str}{Q:Unit->Shared->Prop}(X:K.In s.heap)(I:jK s.heap x dx C mA)
  (hs:PySem.W.findIn K (.ref C) "__setattr__"=some (some (.builtin "object.__setattr__")))(hp:plainOver K C=true)(ht:takerIn K C name=some none)(hh:hasDictIn K C=true)
  (hw:PySem.Within mA ns)(hsz:ns.length<=sizeLine)
  (h:∀h',jK h' x dx C (λy=>if y=name then some v else mA y)->Heap.SameBut dx s.heap h'->Q () {s with heap:=h',toks:=s.toks+2}):
  wpAny (model prog w) A (setAttr (.ref x) name v) Q E s:=by
 obtain⟨od,J,hl⟩:=I.look;refine PySem.W.set_plain X J hs (PySem.W.osa_open X J hp ht λb=>?_);obtain⟨cd,hc,lp⟩:=PySem.W.any_some hh;refine wpAny_bind (wpAny_pure (wpAny_bind (wpAny_bind (wpAny_loadPart I.obj (wpAny_bind (PySem.W.Looks.here (PySem.W.looks_clsIn X hc) ?_))))));rw[lp];refine wpAny_pure (wpAny_bind (wpAny_pure (wpAny_bind (wpAny_nsSet1 I.ns λh' eA qk=>?_))));obtain⟨oD,M1,M3,JT,JU,JV⟩:=eA.count (PySem.Within.cons name v hw);exact wpAny_bind (wpAny_lookBehind JT (by rw[JU];exact pastItsLine_dict (Y5 JV (by rw[Wg];omega))) (wpAny_pure (h _ ⟨(qk.2 _ (Ne.symm I.ne)).trans I.obj,eA,I.ne⟩ qk)))
theorem ET{R:Result->Shared->Prop}{vs:List Value}{kw:List (Str×Value)}(X:K.In s.heap)(hm:makesIn K C=true)
  (hi:PySem.W.findIn K (.ref C) "__init__"=some (some (.ref f)))(hf:typeIn K (.ref f)=some (.type "function"))
  (h:codeAny (model prog w) (A.under (.builtin "type.__call__" ⟨.ref C::vs,kw⟩)) (.call (.ref f) ⟨.ref (s.heap.objs.size+1)::vs,kw⟩) (PySem.W.InitBack (s.heap.objs.size+1) R)
   {s with heap:=(s.heap.push emptyDict).push (instObj C s.heap.objs.size)}):
  codeAny (model prog w) A (.call (.ref C) ⟨vs,kw⟩) R s:=by
 obtain⟨hh,g,d,t,os⟩:=s;exact PySem.W.make_core (PySem.W.makes_of X hm) (PySem.W.looks_findIn X hi) (λself=>PySem.W.bind_fn X self hf) (.inl rfl) h
end
def cF(f:Str)(v:V):List (Str×V)->List (Str×V)
 |[]=>[(f,v)]
 |(g,x)::r=>if g=f then(g,v)::r else(g,x)::cF f v r
theorem xf(f g:Str)(v:V):∀fs:List (Str×V),(cF f v fs).lookup g=if g=f then some v else fs.lookup g
 |[]=>by
  show List.lookup g [(f,v)]=_
  grind
 |(k,x)::r=>by
  have ih:=xf f g v r;rw[show cF f v ((k,x)::r)=(if k=f then(k,v)::r else(k,x)::cF f v r) from rfl]
  grind
theorem sX(f:Str)(v:V):∀fs:List (Str×V),f∈(cF f v fs).map (·.1)/\∀g,g∈fs.map (·.1)->g∈(cF f v fs).map (·.1)
 |[]=>⟨by simp[cF],λg h=>by simp at h⟩
 |(k,x)::r=>by
  obtain⟨i1,i2⟩:=sX f v r;rw[show cF f v ((k,x)::r)=(if k=f then(k,v)::r else(k,x)::cF f v r) from rfl]
  grind
theorem rY(f:Str)(v:V):∀fs:List (Str×V),(cF f v fs).length<=fs.length+1
 |[]=>by simp[cF]
 |(k,x)::r=>by
  have ih:=rY f v r;rw[show cF f v ((k,x)::r)=(if k=f then(k,v)::r else(k,x)::cF f v r) from rfl]
  grind
theorem cZ.some_of{v:V}{o:Option Value}(r:cZ (some v) o):∃u,o=some u/\RelV v u:=by
 cases o with
 |none=>exact(show False from r).elim
 |some u=>exact⟨u,rfl,r⟩
theorem cZ.none_of{o:Option Value}(r:cZ none o):o=none:=by
 cases o with
 |none=>rfl
 |some u=>exact(show False from r).elim
theorem En{v:V}{u:Value}(r:RelV v u):handedIn u=true:=by
 cases v with
 |aD=>cases(show u=Value.none from r);rfl
 |bl b=>cases(show u=Value.bool b from r);rfl
 |int i=>obtain⟨t,e⟩:=(show ∃t,u=Value.int i t from r);cases e;rfl
 |str x=>obtain⟨t,e⟩:=(show ∃t,u=Value.str x t from r);cases e;rfl
 |dR b=>obtain⟨t,e⟩:=(show ∃t,u=Value.bytes b t from r);cases e;rfl
 |jT b=>obtain⟨t,e⟩:=(show ∃t,u=Value.float b t from r);cases e;rfl
 |ref a=>cases(show u=Value.ref a from r);rfl
 |ty n=>cases(show u=Value.type n from r);rfl
section
variable {P:Program}{w:World}{H H':Hp}{h h':Heap}{a C dx:Addr}{fs JK:List (Str×V)}
theorem oN(ar:bN P w H h)(e:H a=some (.ins C dx fs)):∃mA,jK h a dx C mA/\(∀f,cZ (fs.lookup f) (mA f))/\PySem.Within mA (fs.map (·.1))/\fs.length<=1000/\H dx=some (.own a):=by
 obtain⟨d,z,ne,ob,mA,n,r,q⟩:=(show bQ P w H h a (.ins C dx fs) from ar a _ e);exact⟨mA,⟨ob,n,ne⟩,r,q,z,d⟩
end
structure fc(K:ag)(C:Addr):Prop where
 pg:plainGet K C Str.empty=true
 hd:hasDictIn K C=true
 po:plainOver K C=true
 sa:PySem.W.findIn K (.ref C) "__setattr__"=some (some (.builtin "object.__setattr__"))
theorem fc.get{K:ag}{C:Addr}(c:fc K C)(f:Str):plainGet K C f=true:=c.pg
def fD(K:ag)(C:Addr)(f:Str):Prop:=PySem.W.findIn K (.ref C) f=some none
theorem fD.HK{K:ag}{C:Addr}{f:Str}(n:fD K C f):takerIn K C f=some none:=by
 unfold takerIn;rw[show PySem.W.findIn K (.ref C) f=some none from n];rfl
structure Meth(K:ag)(C:Addr)(m:Str)(f:Addr):Prop where
 at_:PySem.W.findIn K (.ref C) m=some (some (.ref f))
 fn:isFn K (.ref f)=true
 kp:keepIn K (.ref f)=true
section
variable {X:Cx}{pins:aB}{σ:St}{H:Hp}{s:Shared}{a C dx:Addr}{fs:List (Str×V)}{f:Str}{v:V}{A:Around}{E:aE}
theorem DT{b:Bool}{Q:aE}(I:Inv X pins σ H s)(e:H a=some (.ins C dx fs))(c:fc X.K C)(n:fD X.K C f)(l:fs.lookup f=some v)
  (h:∀u s',Inv X pins σ H s'->RelV v u->Q u s'):wpAny X.md A (getAttr (.ref a) f b) Q E s:=by
 obtain⟨mA,O,r,_,_,_⟩:=oN I.ar e;obtain⟨u,hu,ru⟩:=cZ.some_of (by rw[←l];exact r f);exact get_map I.bX O (c.get f) c.hd n hu (En ru) (h u _ (I.tok _) ru)
theorem DU{m:Str}{g:Addr}{pl:Sem Bool}{Q:Value×List Value->Shared->Prop}(I:Inv X pins σ H s)(e:H a=some (.ins C dx fs))(c:fc X.K C)(k:Meth X.K C m g)(l:fs.lookup m=none)
  (h:Q (.ref g,[.ref a]) s):wpAny X.md A (getMethod (.ref a) m pl) Q E s:=by
 obtain⟨mA,O,r,_,_,_⟩:=oN I.ar e;exact ES I.bX O (c.get m) k.at_ k.fn (cZ.none_of (by rw[←l];exact r m)) h
theorem DV{y:V}{u:Value}{Q:Unit->Shared->Prop}(I:Inv X pins σ H s)(e:H a=some (.ins C dx fs))(c:fc X.K C)(n:fD X.K C f)(hl:fs.length<1000)(ry:RelV y u)
  (h:∀s',Inv X pins σ (upd H a (.ins C dx (cF f y fs))) s'->Q () s'):wpAny X.md A (setAttr (.ref a) f u) Q E s:=by
 obtain⟨mA,O,r,wi,_,ho⟩:=oN I.ar e;have hz:(fs.map (·.1)).length<=sizeLine:=by rw[Ya,sizeLine_eq];omega
 refine FD I.bX O c.sa c.po n.HK c.hd wi hz λh' O' sb=>h _ (I.write (by rw[e];exact True.intro) (.inr ho) (λb q hb z=>(sb.2 b hb).trans z) (let⟨o,_,_,e',_⟩:=O'.ns;⟨o,e'⟩) ⟨by rw[aU O.ne];exact ho,?_,O.ne,O'.obj,_,O'.ns,λg=>?_,λg hg=>?_⟩);·have:=rY f y fs;omega
 ·show cZ ((cF f y fs).lookup g) (if g=f then some u else mA g);rw[xf];by_cases q:g=f;·rw[if_pos q,if_pos q];exact ry
  ·grind
 ·by_cases q:g=f;·rw[q];exact(sX f y fs).1
  ·refine(sX f y fs).2 g (wi g λz=>hg ?_)
   grind
theorem Inv.made(I:Inv X pins σ H s):Inv X pins σ (upd (upd H s.heap.objs.size (.own (s.heap.objs.size+1))) (s.heap.objs.size+1) (.ins C s.heap.objs.size []))
  {s with heap:=(s.heap.push emptyDict).push (instObj C s.heap.objs.size)}:=by
 have e1:(s.heap.push emptyDict).get? s.heap.objs.size=some emptyDict:=Ym s.heap rfl;have e2:((s.heap.push emptyDict).push (instObj C s.heap.objs.size)).get? (s.heap.objs.size+1)=some (instObj C s.heap.objs.size):=by
  have:=Ym (s.heap.push emptyDict) (o:=instObj C s.heap.objs.size) rfl
  rwa [Heap.size_push] at this
 have e3:(s.heap.push emptyDict).Ns s.heap.objs.size (λ_=>none):=⟨emptyDict,#[],_,e1,rfl,(λe he=>absurd he (by simp)),λ_=>rfl⟩;have I1:=I.laid (a:=s.heap.objs.size) (o:=.own (s.heap.objs.size+1)) (h':=s.heap.push emptyDict) (t':=s.toks) (λb u q=>Yc _ q) (Yd _) ⟨_,e1⟩;refine I1.laid (a:=s.heap.objs.size+1) (o:=.ins C s.heap.objs.size []) (t':=s.toks) (λb u q=>Yc _ q) (Nat.le_of_eq (Heap.size_push _ _)) ?_;have ne:s.heap.objs.size≠s.heap.objs.size+1:=Yz (Nat.lt_succ_self _);refine⟨by rw[aU ne,aF],Y2 _,ne,e2,λ_=>none,(Heap.Ns1.of_empty e3).at λo q=>Yc _ q,λ_=>True.intro,λy hy=>absurd rfl hy⟩
theorem FE{prog:Program}{w:World}{env:Env}{e:Expr}{f:Str}{pos:Pos}{s:Shared}{Q:aE}(hb:attributeBase e f env (eval e env)=eval e env)
  (h:wpAny (model prog w) A (eval e env) (λo aQ=>wpAny (model prog w) A (getAttr o f true) Q E aQ) E s):wpAny (model prog w) A (eval (.Attribute e f pos) env) Q E s:=
 Attribute_any_ h (by rw[arm_eval_Attribute,hb])
end
inductive zy(K:ag)(f:Str)(Q:VK)(x:V)(H1:Hp):Prop
 |mk (a C dx fs v) (aC:x=.ref a) (aI:H1 a=some (.ins C dx fs)) (aW:fc K C) (bt:fD K C f) (bV:fs.lookup f=some v) (dE:Q v H1):zy K f Q x H1
def uQ(K:ag)(ta:TE)(f:Str):TE:=λσ H Q=>ta σ H λx H1=>zy K f Q x H1
def IP(K:ag)(ta tv:TE)(f:Str):TS:=λD σ H=>tv σ H λy H1=>ta σ H1 λx H2=>∃a C dx fs,x=.ref a/\H2 a=some (.ins C dx fs)/\fc K C/\fD K C f/\fs.length<1000/\
 D.nx σ (upd H2 a (.ins C dx (cF f y fs)))
section
variable {X:Cx}{o e value:Expr}{f:Str}{pos pos' A0:Pos}{ta tv:TE}
theorem GH(he:PE X e ta)(hb:attributeBase e f X.env (eval e X.env)=eval e X.env):PE X (.Attribute e f pos) (uQ X.K ta f):=by
 intro pins s σ H Q I h;refine FE hb (av (he pins s σ H _ I h) λu s1 zq=>?_);obtain⟨x,H1,I1,rx,a,C,dx,fs,v,ex,ea,c,n,l,q⟩:=zq;subst ex;obtain rfl:u=Value.ref a:=rx;exact DT I1 ea c n l λu' s2 I2 ru=>⟨v,H1,I2,ru,q⟩
theorem mH(ha:PE X o ta)(hv:PE X value tv)(hs:swapsWith value (some (.Attribute o f pos')) pos.line X.env=pure false):PS X (.Assign [.Attribute o f pos'] value pos) (IP X.K ta tv f):=by
 intro pins s σ H D I h;refine plainObj_wpAny_Assign_Attribute (av (hv pins s σ H _ I h) λu s1 zq=>?_) hs;obtain⟨y,H1,I1,ry,q⟩:=zq;refine av (ha pins s1 σ H1 _ I1 q) λov s2 zq=>?_;obtain⟨x,H2,I2,rx,a,C,dx,fs,ex,ea,c,n,l,q2⟩:=zq;subst ex;obtain rfl:ov=Value.ref a:=rx;exact DV I2 ea c n l ry λs3 I3=>⟨σ,_,I3,q2⟩
end
section
variable {X:Cx}{pins:aB}{σ:St}{H:Hp}{s:Shared}{A:Around}{E:aE}{Q:aE}{c:Value}{b:Bool}
inductive d_(K:ag)(H:Hp):V->Value->Prop where
 |aD:d_ K H .aD (.type "NoneType")
 |bl (x:Bool):d_ K H (.bl x) (.type "bool")
 |int (i:Int):d_ K H (.int i) (.type "int")
 |str (x:Str):d_ K H (.str x) (.type "str")
 |jT (x:UInt64):d_ K H (.jT x) (.type "float")
 |lst {a:Addr} {xs:List V} (e:H a=some (.lst xs)):d_ K H (.ref a) (.type "list")
 |dS {a:Addr} {o:Obj} {xs:List V} (e:H a=some (.dS o (.lst xs))):d_ K H (.ref a) (.type "list")
 |tup {a:Addr} {xs:List V} (e:H a=some (.tup xs)):d_ K H (.ref a) (.type "tuple")
 |dK {a:Addr} {aa:List (Key×V)} (e:H a=some (.dK aa)):d_ K H (.ref a) (.type "dict")
 |dT {a:Addr} {aa:List (List Key×V)} (e:H a=some (.dT aa)):d_ K H (.ref a) (.type "dict")
 |ins {a C dx:Addr} {fs:List (Str×V)} (e:H a=some (.ins C dx fs)) (cl:fc K C) (ha:PySem.W.findIn K (.ref C) "__class__"=some (some (.builtin "object.__class__")))
   (hn:PySem.W.specialIn K (.builtin "object.__class__") "__get__"=some (some (.builtin "getset_descriptor.__get__"))) (BD:PySem.W.takesIn K (.builtin "object.__class__")=some true)
   (hm:PySem.W.mroIn K C (.type "object")=some true):d_ K H (.ref a) (.ref C)
theorem Eo{x:V}{u t:Value}(I:Inv X pins σ H s)(rx:RelV x u)(ty:d_ X.K H x t)(e:kitOne X.K t c=some b)(h:∀tk,Q (.bool b) {s with toks:=tk}):
  wpAny X.md A (call (.builtin "isinstance") [u,c]) Q E s:=by
 cases ty with
 |aD=>cases(show u=Value.none from rx);exact kia_one PySem.W.kitx_none I.bX True.intro e (λz=>nomatch z) h
 |bl y=>cases(show u=Value.bool y from rx);exact kia_one PySem.W.kitx_bool I.bX True.intro e (λz=>nomatch z) h
 |int i=>obtain⟨t,q⟩:=(show ∃t,u=Value.int i t from rx);cases q;exact kia_one PySem.W.kitx_int I.bX True.intro e (λz=>nomatch z) h
 |str y=>obtain⟨t,q⟩:=(show ∃t,u=Value.str y t from rx);cases q;exact kia_one PySem.W.kitx_str I.bX True.intro e (λz=>nomatch z) h
 |jT y=>obtain⟨t,q⟩:=(show ∃t,u=Value.float y t from rx);cases q;exact kia_one PySem.W.kitx_float I.bX True.intro e (λz=>nomatch z) h
 |@lst a xs ea=>
  cases(show u=Value.ref a from rx);obtain⟨_,_,n,_,h1⟩:=(show bQ X.prog X.w H s.heap a (.lst xs) from I.ar a _ ea);exact kia_one kitx_list I.bX ⟨_,h1,rfl⟩ e (λz=>nomatch z) h
 |@dS a ob xs ea=>
  cases(show u=Value.ref a from rx);obtain⟨_,_,_,n,_,h1⟩:=(show bQ X.prog X.w H s.heap a (.dS ob (.lst xs)) from I.ar a _ ea);exact kia_one kitx_list I.bX ⟨_,h1,rfl⟩ e (λz=>nomatch z) h
 |@tup a xs ea=>
  cases(show u=Value.ref a from rx);obtain⟨_,_,_,p⟩:=(show bQ X.prog X.w H s.heap a (.tup xs) from I.ar a _ ea);obtain⟨o,h1,h2,_⟩:=p;exact kia_one PySem.W.kitx_tuple I.bX ⟨o,h1,h2⟩ e (λz=>nomatch z) h
 |@dK a aa ea=>
  cases(show u=Value.ref a from rx);obtain⟨_,_,vs,_,p⟩:=(show bQ X.prog X.w H s.heap a (.dK aa) from I.ar a _ ea);obtain⟨o,es,ep,h1,h2,_⟩:=p;exact kia_one kitx_dict I.bX ⟨o,h1,h2.1⟩ e (λz=>nomatch z) h
 |@dT a aa ea=>
  cases(show u=Value.ref a from rx);obtain⟨_,_,xs,_,o,es,ep,h1,h2,_⟩:=(show bQ X.prog X.w H s.heap a (.dT aa) from I.ar a _ ea);exact kia_one kitx_dict I.bX ⟨o,h1,h2.1⟩ e (λz=>nomatch z) h
 |@ins a C dx fs ea cl ha hn BD hm=>
  cases(show u=Value.ref a from rx);obtain⟨mA,O,_⟩:=oN I.ar ea;obtain⟨od,J,_⟩:=O.look;exact kia_one (PySem.W.kitx_own (cl.get _) cl.hd ha hn BD hm) I.bX J e (λz=>nomatch z) h
end
structure bK(k:Nat)(A:Around):Prop where
 hd:A.handled=none
 dp:A.depth+3*k+5<recursionLimit
 un:A.units+16*k+200<cLine
 gd:A.guards=some []
theorem bK.mono{j k:Nat}{A:Around}(r:bK k A)(h:j<=k):bK j A:=⟨r.hd,by have:=r.dp;omega,by have:=r.un;omega,r.gd⟩
theorem bK.deeper{k:Nat}{A:Around}(r:bK (k+1) A)(env:Env):bK k (A.deeper env):=
 ⟨r.hd,by have:=r.dp;show A.depth+1+3*k+5<_;omega,by have:=r.un;show A.units+3+16*k+200<_;omega,r.gd⟩
theorem DW{A:Around}{C:Addr}{us:List Value}{kw:List (Str×Value)}:(A.under (.builtin "type.__call__" ⟨.ref C::us,kw⟩)).depth=A.depth+1:=by
 rfl
theorem DX{A:Around}{C:Addr}{us:List Value}{kw:List (Str×Value)}:(A.under (.builtin "type.__call__" ⟨.ref C::us,kw⟩)).units=A.units+1:=by
 rfl
theorem bK.make{k:Nat}{A:Around}(r:bK (k+1) A)(C:Addr)(us:List Value)(kw:List (Str×Value)):bK k (A.under (.builtin "type.__call__" ⟨.ref C::us,kw⟩)):=
 ⟨r.hd,by have:=r.dp;rw[DW];omega,by have:=r.un;rw[DX];omega,by first|exact r.gd|simpa[Around.under,Code.isGuard,Code.isFrame,guardIds] using r.gd⟩
theorem bK.depth{k:Nat}{A:Around}(r:bK k A):A.depth<recursionLimit:=by have:=r.dp;omega
theorem bK.units{k:Nat}{A:Around}(r:bK k A):A.units+64<cLine:=by have:=r.un;omega
theorem bK.ub{k:Nat}{A:Around}(r:bK k A):A.units<cLine:=by have:=r.un;omega
def dN:TA:=λ_ H Q=>Q [] H
def cR(ta:TE)(tr:TA):TA:=λσ H Q=>ta σ H λx H1=>tr σ H1 λxs H2=>Q (x::xs) H2
section
variable {X:Cx}{e:Expr}{es:List Expr}{te:TE}{t:TA}{pos:Pos}
theorem ai:PA X [] dN:=λ_ _ _ _ H Q I h=>Calls.spliced_nil ⟨[],H,I,.nil,h⟩
theorem ae(ha:PE X e te)(hr:PA X es t)(hs:fI X e es:=by rfl):PA X (e::es) (cR te t):=by
 intro pos pins s σ H Q I h;rw[hs];exact Calls.spliced_cons (av (ha pins s σ H _ I h) λu s1 ⟨x,H1,I1,r1,q1⟩=>av (hr pos pins s1 σ H1 _ I1 q1) λus s2 ⟨xs,H2,I2,r2,q2⟩=>⟨x::xs,H2,I2,.cons r1 r2,q2⟩)
def IQ(t:TA):TE:=λσ H Q=>t σ H λxs H1=>xs.length<=sizeLine/\∀p,H1 p=none->Q (.ref p) (upd H1 p (.lst xs))
theorem mI(h:PA X es t):PE X (.List es pos) (IQ t):=by
 intro pins s σ H Q I hq;refine wpAny_List_spliced (av (h pos pins s σ H _ I hq) λus s1 ⟨xs,H1,I1,r,z,q⟩=>⟨by rw[←r.length];exact z,⟨.ref s1.heap.objs.size,upd H1 s1.heap.objs.size (.lst xs),I1.laid (λb u e=>Yc _ e) (Yd _) ?_,rfl,q _ (I1.ar.fresh (Yd _))⟩⟩);exact⟨z,us,0,r,Ym _ rfl⟩
end
abbrev Sp:=List V->Hp->VK->XK->Prop
abbrev eD:=List Env->Hp->Shared->XK->Value->Shared->Prop
structure jL(P:Program)(w:World)(K:ag)(mg:aG)(base:Heap)(A:Around)(outer:List Env)(s:Shared)(H:Hp):Prop where
 frames:A.frames=some outer
 mod:Mod K mg base
 bs:∀b o,base.get? b=some o->s.heap.get? b=some o/\H b=none
 ik:base.objs.size<=s.heap.objs.size
 e6:s.heap.FunFrames base outer
 jW:∀b∈cP outer,H b=none
 ar:bN P w H s.heap
 bare:AllBare s.gens
def CE(outer:List Env)(P:Program)(w:World)(H:Hp)(s:Shared)(Q:VK)(u:Value)(s':Shared):Prop:=
 ∃v H',s'.os=s.os/\AllBare s'.gens/\Un (cP outer) [] H H' s.heap s'.heap/\bN P w H' s'.heap/\RelV v u/\Q v H'
def CR(CX:eD)(outer:List Env)(P:Program)(w:World)(H:Hp)(s:Shared)(Q:VK)(E:XK)(r:Result)(s':Shared):Prop:=
 match r with
 |.ok (.ret u)=>CE outer P w H s Q u s'
 |.ok _=>False
 |.error e=>CX outer H s E e s'
structure aH(P:Program)(w:World)(K:ag)(mg:aG)(base:Heap)(CX:eD)(k:Nat)(f:Addr)(fd:FuncData)(ps:List Str)(sp:Sp):Prop where
 len:∀vs H Q E,sp vs H Q E->vs.length=ps.length
 run:∀(A:Around) (outer:List Env) (s:Shared) (H:Hp) (args:Args) (us:List Value) (vs:List V) (Q:VK) (E:XK),bK k A->jL P w K mg base A outer s H->BindsTo s fd args (ps.zip us)->Vals vs us->sp vs H Q E->
  codeAny (model P w) A (.call (.ref f) args) (CR CX outer P w H s Q E) s
theorem jL.make{P:Program}{w:World}{K:ag}{mg:aG}{base:Heap}{A:Around}{outer:List Env}{s:Shared}{H:Hp}(e:jL P w K mg base A outer s H)(C:Addr)(us:List Value)(kw:List (Str×Value)):
  jL P w K mg base (A.under (.builtin "type.__call__" ⟨.ref C::us,kw⟩)) outer s H:=⟨by first|exact e.frames|(simpa[Around.under,Code.envs,Code.isFrame,pushEnvs] using e.frames),e.mod,e.bs,e.ik,e.e6,e.jW,e.ar,e.bare⟩
section
variable {X:Cx}{pins:aB}{σ:St}{H:Hp}{s s':Shared}
theorem Inv.A1(I:Inv X pins σ H s):jL X.prog X.w X.K X.mg X.base X.A X.stack s H:=
 ⟨I.ok.frames,I.ok.mod,I.bs,Y5 I.ok.ik I.sz,I.stack,I.yC,I.ar,I.bare⟩
theorem Inv.after{Q:VK}{u:Value}(I:Inv X pins σ H s)(h:CE X.stack X.prog X.w H s Q u s'):EP X pins σ Q u s':=by
 obtain⟨v,H',os,bare,un,ar,r,q⟩:=h;obtain⟨hh,g,d,t,JW⟩:=s';obtain rfl:JW=s.os:=os;exact⟨v,H',I.call (h':=hh) (g':=g) (d':=d) (t':=t) (ch:=[]) un ar bare (λb z=>absurd z (by simp)),r,q⟩
end
def uz(sp:Sp)(cG:List V)(E:XK)(t:TA):TE:=λσ H Q=>t σ H λvs H1=>sp (vs++cG) H1 Q E
def Aq(C:Addr)(m:Str)(sp:Sp)(cG:List V)(E:XK)(ta:TE)(t:TA):TE:=λσ H Q=>ta σ H λx H1=>∃a dx fs,x=.ref a/\H1 a=some (.ins C dx fs)/\fs.lookup m=none/\
 t σ H1 λvs H2=>sp (x::(vs++cG)) H2 Q E
def Ar(C:Addr)(sp:Sp)(cG:List V)(E:XK)(t:TA):TE:=λσ H Q=>t σ H λvs H1=>∀x dx,H1 x=none->H1 dx=none->dx≠x->
 sp (.ref x::(vs++cG)) (upd (upd H1 dx (.own x)) x (.ins C dx [])) (λv H2=>v=.aD/\Q (.ref x) H2) E
def Binds(K:ag)(fd:FuncData)(ps:List Str)(ds:List Value):Prop:=
 ∀(s:Shared) (us:List Value),K.In s.heap->(us++ds).length=ps.length->BindsTo s fd ⟨us,[]⟩ (ps.zip (us++ds))
theorem Binds.all{K:ag}{fd:FuncData}{ps:List Str}(h:∀us:List Value,us.length=ps.length->bindArgs fd ⟨us,[]⟩=pure (ps.zip us)):Binds K fd ps []:=λs us _ hl=>by
 rw[Yy] at hl⊢;exact .of_eq (h us hl)
def Passes(CX:eD)(X:Cx)(E:XK):Prop:=∀(pins:aB) (σ:St) (H:Hp) (s:Shared) (e:Value) (s':Shared),Inv X pins σ H s->CX X.stack H s E e s'->X.xe e s'
section
variable {X:Cx}{CX:eD}{k:Nat}{f C:Addr}{fd:FuncData}{ps:List Str}{sp:Sp}{cG:List V}{ds:List Value}{E:XK}{x m:Str}{p pos apos:Pos}{e o:Expr}{es:List Expr}{ta:TE}{t:TA}
theorem zA{pins:aB}{σ:St}{H:Hp}{s:Shared}{Q:VK}{us:List Value}{vs:List V}(F:aH X.prog X.w X.K X.mg X.base CX k f fd ps sp)(hr:bK k X.A)(hb:Binds X.K fd ps ds)(hd:Vals cG ds)(hx:Passes CX X E)
  (I:Inv X pins σ H s)(r:Vals vs us)(h:sp (vs++cG) H Q E):wpAny X.md X.A (call (.ref f) us) (EP X pins σ Q) X.xe s:=by
 have r2:Vals (vs++cG) (us++ds):=r.append hd;have hl:(us++ds).length=ps.length:=by rw[←r2.length];exact F.len _ _ _ _ h
 refine wpAny_call (codeAny_mono (F.run X.A X.stack s H ⟨us,[]⟩ (us++ds) (vs++cG) Q E hr I.A1 (hb s us I.bX hl) r2 h) λr s' hq=>?_);cases r with
 |error e=>exact hx pins σ H s e s' I hq
 |ok fl=>
  cases fl with
  |ret u=>exact I.after hq
  |next=>exact False.elim hq
  |brk=>exact False.elim hq
  |cont=>exact False.elim hq
theorem FF(F:aH X.prog X.w X.K X.mg X.base CX k f fd ps sp)(hr:bK k X.A)(hg:Gl X x)(hm:X.mg x=some (.ref f))(hk:keepIn X.K (.ref f)=true)(hb:Binds X.K fd ps ds)(hd:Vals cG ds)(hx:Passes CX X E)
  (ha:PA X (e::es) t)(eJ:(x==("__debug__":Str))=false:=by decide)(he:fI X e es:=by rfl)(cH:gi X pos es:=by rfl):
  PE X (.Call (.Name x p) (e::es) [] pos) (uz sp cG E t):=by
 intro pins s σ H Q I h;exact wpAny_Call_Name_kw (tP I hg hm (callWith_K I.ok.mod.jV hk (av (ha pos pins s σ H _ I h) λus s1 ⟨vs,H1,I1,r,q⟩=>⟨I1.bX,zA F hr hb hd hx I1 r q⟩) he cH) eJ)
theorem FG{pl:Sem Bool}(he:PE X o ta)(c:fc X.K C)(hm:Meth X.K C m f)(F:aH X.prog X.w X.K X.mg X.base CX k f fd ps sp)(hr:bK k X.A)(hb:Binds X.K fd ps ds)(hd:Vals cG ds)(hx:Passes CX X E)(ha:PA X (e::es) t)
  (bU:fI X e es:=by rfl)(cH:gi X pos es:=by rfl)
  (ht:eval (.Call (.Attribute o m apos) (e::es) [] pos) X.env=(do
   let ov←eval o X.env
   standAt apos.atName
   let(f,first)←holding [ov] (getMethod ov m pl)
   callWith pos f first (backTo pos (starEach (e::es) X.env)) (backToKw pos (keywordEach [] X.env))):=by rfl):
  PE X (.Call (.Attribute o m apos) (e::es) [] pos) (Aq C m sp cG E ta t):=by
 intro pins s σ H Q I h;refine PySem.W.methodCall_KW (pl:=pl) (av (he pins s σ H _ I h) λu s1 zq=>?_) ht;obtain⟨x,H1,I1,rx,a,dx,fs,ex,ea,l,q⟩:=zq;subst ex;obtain rfl:u=Value.ref a:=rx;refine DU I1 ea c hm l ?_;refine callWith_K (first:=[.ref a]) (h₀:=X.base) I.ok.mod.jV hm.kp (av (ha pos pins s1 σ H1 _ I1 q) λus s2 ⟨vs,H2,I2,r,q2⟩=>⟨I2.bX,?_⟩) bU cH;exact zA (us:=.ref a::us) (vs:=.ref a::vs) F hr hb hd hx I2 (.cons rfl r) q2
structure Mk(K:ag)(C f:Addr):Prop where
 makes:makesIn K C=true
 init:PySem.W.findIn K (.ref C) "__init__"=some (some (.ref f))
 fn:isFn K (.ref f)=true
 kp:keepIn K (.ref C)=true
theorem EU{pins:aB}{σ:St}{H:Hp}{s:Shared}{Q:VK}{us:List Value}{vs:List V}(M:Mk X.K C f)(F:aH X.prog X.w X.K X.mg X.base CX k f fd ps sp)(hr:bK (k+1) X.A)(hb:Binds X.K fd ps ds)(hd:Vals cG ds)
  (hx:Passes CX X E)(I:Inv X pins σ H s)(r:Vals vs us)
  (h:∀x dx,H x=none->H dx=none->dx≠x->sp (.ref x::(vs++cG)) (upd (upd H dx (.own x)) x (.ins C dx [])) (λv H2=>v=.aD/\Q (.ref x) H2) E):
  wpAny X.md X.A (call (.ref C) us) (EP X pins σ Q) X.xe s:=by
 have hq:=h (s.heap.objs.size+1) s.heap.objs.size (I.ar.fresh (Nat.le_succ _)) (I.ar.fresh (Yd _)) (Yz (Nat.lt_succ_self _));have I2:=Inv.made (C:=C) I;have r2:Vals (V.ref (s.heap.objs.size+1)::(vs++cG)) (Value.ref (s.heap.objs.size+1)::(us++ds)):=.cons rfl (r.append hd);have hl:(Value.ref (s.heap.objs.size+1)::us++ds).length=ps.length:=by
  have e:=r2.length;rw[F.len _ _ _ _ hq] at e;exact e.symm
 refine wpAny_call (ET I.bX M.makes M.init (beq_iff_eq.mp M.fn) (codeAny_mono (F.run _ X.stack _ _ ⟨Value.ref (s.heap.objs.size+1)::us,[]⟩ (Value.ref (s.heap.objs.size+1)::(us++ds)) _ _ E (hr.make C us [])
  (I2.A1.make C us []) (hb _ (Value.ref (s.heap.objs.size+1)::us) I2.bX hl) r2 hq) λr s' nG=>?_))
 cases r with
 |error e=>exact hx pins σ _ _ e s' I2 nG
 |ok fl=>
  cases fl with
  |ret u=>
   obtain⟨v,H',I3,rv,ev,q3⟩:=I2.after nG;subst ev;exact⟨rv,⟨V.ref (s.heap.objs.size+1),H',I3,rfl,q3⟩⟩
  |next=>exact False.elim nG
  |brk=>exact False.elim nG
  |cont=>exact False.elim nG
theorem FH(M:Mk X.K C f)(F:aH X.prog X.w X.K X.mg X.base CX k f fd ps sp)(hr:bK (k+1) X.A)(hg:Gl X x)(hm:X.mg x=some (.ref C))(hb:Binds X.K fd ps ds)(hd:Vals cG ds)(hx:Passes CX X E)
  (ha:PA X (e::es) t)(eJ:(x==("__debug__":Str))=false:=by decide)(he:fI X e es:=by rfl)(cH:gi X pos es:=by rfl):
  PE X (.Call (.Name x p) (e::es) [] pos) (Ar C sp cG E t):=by
 intro pins s σ H Q I h;exact wpAny_Call_Name_kw (tP I hg hm (callWith_K I.ok.mod.jV M.kp (av (ha pos pins s σ H _ I h) λus s1 ⟨vs,H1,I1,r,q⟩=>⟨I1.bX,EU M F hr hb hd hx I1 r q⟩) he cH) eJ)
end
section
variable {X:Cx}{CX:eD}{k:Nat}{f C:Addr}{fd:FuncData}{ps ks:List Str}{sp:Sp}{E:XK}{x m:Str}{p pos apos MR:Pos}{e o:Expr}{es:List Expr}{M4:List Keyword}{te ta:TE}{t tk:TA}{nm:Option Str}
variable {g:List Value->List Value->List Value}{gV:List V->List V->List V}
end
structure a7(N P:List Str)(sc:Scope):Prop where
 kind:sc.kind=.function
 co:sc.isCoroutine=false
 gen:sc.isGenerator=false
 nd:N.Nodup
 pre:N.take P.length=P
 par:∀x∈P,sc.names.lookup x=some .local\/sc.names.lookup x=some .cell
 GI:∀y∈sc.names,y.2≠.free
theorem xN{kindOf:Str->Option NameKind}{x:Str}:∀{binds:List (Str×Value)} {m:aG},(∀v,(x,v)∉binds)->bindL kindOf binds m x=m x
 |[],_,_=>rfl
 |(n,v)::r,m,h=>by
  unfold bindL;rw[xN λw hw=>h w (Yx _ hw)];split;·grind
  ·rfl
theorem xO{kindOf:Str->Option NameKind}{x:Str}:∀{binds:List (Str×Value)} {m:aG},(∀v,(x,v)∉binds)->bindC kindOf binds m x=m x
 |[],_,_=>rfl
 |(n,v)::r,m,h=>by
  unfold bindC;rw[xO λw hw=>h w (Yx _ hw)];split;·rfl
  ·grind
theorem xP{kindOf:Str->Option NameKind}{x:Str}{v:Value}:∀{P:List Str} {vs:List Value} {i:Nat} {m:aG},P.Nodup->P[i]?=some x->vs[i]?=some v->kindOf x=some .local->
  bindL kindOf (P.zip vs) m x=some v
 |[],_,_,_,_,h,_,_=>by simp at h
 |_::_,[],_,_,_,_,h,_=>by simp at h
 |p::P,w::vs,0,m,nd,h1,h2,hk=>by
  simp at h1 h2;subst h1;subst h2;show bindL kindOf ((p,w)::P.zip vs) m p=_;unfold bindL;rw[xN λv hv=>(Wn.mp nd).1 (Ji hv).1,if_pos hk];simp
 |p::P,w::vs,i+1,m,nd,h1,h2,hk=>by
  unfold bindL;exact xP (Wn.mp nd).2 (by simpa using h1) (by simpa using h2) hk
theorem xQ{kindOf:Str->Option NameKind}{x:Str}{v:Value}:∀{P:List Str} {vs:List Value} {i:Nat} {m:aG},P.Nodup->P[i]?=some x->vs[i]?=some v->kindOf x≠some .local->
  bindC kindOf (P.zip vs) m x=some v
 |[],_,_,_,_,h,_,_=>by simp at h
 |_::_,[],_,_,_,_,h,_=>by simp at h
 |p::P,w::vs,0,m,nd,h1,h2,hk=>by
  simp at h1 h2;subst h1;subst h2;show bindC kindOf ((p,w)::P.zip vs) m p=_;unfold bindC;rw[xO λv hv=>(Wn.mp nd).1 (Ji hv).1,if_neg hk];simp
 |p::P,w::vs,i+1,m,nd,h1,h2,hk=>by
  unfold bindC;exact xQ (Wn.mp nd).2 (by simpa using h1) (by simpa using h2) hk
def start(N:List Str)(vs:List V):St:=vs.map some++List.replicate (N.length-vs.length) none
def fF(CX:eD)(P:Program)(w:World)(K:ag)(mg:aG)(base:Heap)(N:List Str)(qual:Str)(scope:Scope)(f:Addr)(cd:Value)(A:Around)(outer:List Env)(s:Shared)(H:Hp)(E:XK):Cx where
 prog:=P
 w:=w
 K:=K
 mg:=mg
 base:=base
 A:=A.deeper (envOfC qual scope s.heap.objs.size f cd)
 N:=N
 bS:=s
 mZ:=H
 env:=envOfC qual scope s.heap.objs.size f cd
 outer:=outer
 stack:=envOfC qual scope s.heap.objs.size f cd::outer
 ex:=[]
 calm:=true
 fn:=λ_=>true
 pn:=[]
 xe:=λe s'=>wpAny (model P w) (A.deeper (envOfC qual scope s.heap.objs.size f cd)) (leaving (envOfC qual scope s.heap.objs.size f cd) e) (λ_ j0=>CX outer H s E e j0) (λe' j0=>CX outer H s E e' j0) s'
theorem yd{sc:Scope}{n:Nat}{x:Str}(h:sc.names.lookup x=some .cell):∃c,(cellsFrom n sc.names []).lookup x=some c:=by
 exact Wo.mp (cellsFrom_some sc.names n [] (.inl h))
theorem Ep{CX:eD}{P:Program}{w:World}{K:ag}{mg:aG}{base:Heap}{N ps:List Str}{qual:Str}{scope:Scope}{f:Addr}{cd:Value}{A:Around}{outer:List Env}{s s1:Shared}{H:Hp}{E:XK}{us:List Value}{vs:List V}
  (S:a7 N ps scope)(hd:A.handled=none)(e0:jL P w K mg base A outer s H)(hl:vs.length=ps.length)(r:Vals vs us)
  (x:InCallC s s.heap.objs.size (bindL (envOfC qual scope s.heap.objs.size f cd).kindOf (ps.zip us) λ_=>none) (cellsFrom (s.heap.objs.size+1) scope.names []) (bindC (envOfC qual scope s.heap.objs.size f cd).kindOf (ps.zip us) λ_=>none) s1):
  Inv (fF CX P w K mg base N qual scope f cd A outer s H E) [] (start N vs) H s1:=by
 have cH:ps.length<=N.length:=by have:=congrArg List.length S.pre;rw[Y9] at this;omega
 obtain⟨h1,tk,rfl,hk⟩:=x.done;have nH:∀b:Addr,b∉(fF CX P w K mg base N qual scope f cd A outer s H E).ex:=λb z=>absurd (show b∈([]:List Addr) from z) (by simp);refine⟨⟨e0.mod,S.kind,rfl,rfl,Yd _,λy z c h1 h2=>?_,λy hy=>?_,λy c _ h=>?_,λ_=>hd,Around.frames_deeper e0.frames,.inr ⟨rfl,rfl⟩,λb z=>absurd z (nH b),e0.bs,e0.ik,λb _ _=>nH b,λb z=>absurd z (nH b),e0.e6,e0.jW⟩,
  rfl,e0.bare,Un.kept hk,⟨_,x.toInCall.ns,λi y v h1 h2 h3=>?_⟩,λy c h=>⟨_,x.cell y c h⟩,e0.ar.fresh (Yd _),λy c h=>?_,λp hp=>absurd (show p∈([]:aB) from hp) (by simp),e0.ar.kept hk,?_⟩
 ·exact name_of_addr x.apart (PySem.mem_of_lookup h1) (PySem.mem_of_lookup h2)
 ·have hy:scope.names.lookup y=some .cell\/scope.names.lookup y=some .free:=hy;rcases hy with hy|hy;·exact yd hy
  ·exact absurd rfl (S.GI _ (PySem.mem_of_lookup hy))
 ·exact W8 (x.above y c (PySem.mem_of_lookup h))
 ·have hi:i<vs.length:=by
   unfold start at h2
   grind
  have ha:vs[i]?=some v:=by
   unfold start at h2;rw[Wb (by simpa using hi),Ye] at h2;cases e:vs[i]? with
   |none=>grind
   |some a=>grind
  obtain⟨u,hu,rv⟩:=r.get ha;have hp:ps[i]?=some y:=by
   rw[←S.pre,List.getElem?_take_of_lt (by omega)];exact h1
  have BE:ps.Nodup:=by rw[←S.pre];exact S.nd.sublist (List.take_sublist _ _)
  refine⟨u,rv,?_⟩;rcases S.par y (Yk hp) with k|k;·exact .inl ⟨k,xP BE hp hu k⟩
  ·obtain⟨c,e⟩:=yd k;refine .inr ⟨.inl k,c,e,?_⟩;have q:=x.cell y c e;rw[xQ BE hp hu (by show scope.names.lookup y≠_;rw[k];decide)] at q;exact q
 ·exact e0.ar.fresh (W8 (x.above y c (PySem.mem_of_lookup h)))
 ·unfold start;show _=N.length
  grind
theorem As{CX:eD}{P:Program}{w:World}{K:ag}{mg:aG}{base:Heap}{k:Nat}{f:Addr}{name qual:Str}{params:Arguments}{body:List Stmt}{scope:Scope}{dV kV doc pm a_ ct oc:Value}{an od:Option Addr}
  {ip:Array (Option Value)}{N ps:List Str}{sp:Sp}(lk:K.lookup f=some ⟨oc,od,.func (fnOf name qual params body scope dV kV doc pm an a_ ct),ip⟩)(dD:codeIn K a_ qual=true)(S:a7 N ps scope)
  (len:∀vs H Q E,sp vs H Q E->vs.length=ps.length)
  (jD:∀(A:Around) (outer:List Env) (s:Shared) (H:Hp) (vs:List V) (Q:VK) (E:XK),bK k (A.deeper (envOfC qual scope s.heap.objs.size f a_))->sp vs H Q E->
   ∃t,dn (fF CX P w K mg base N qual scope f a_ A outer s H E) body t/\t {nx:=λ_ H'=>Q .aD H',rt:=Q} (start N vs) H):
  aH P w K mg base CX (k+1) f (fnOf name qual params body scope dV kV doc pm an a_ ct) ps sp:=by
 refine⟨len,λA outer s H args us vs Q E hr e0 hb r gq=>?_⟩;have hl:=len _ _ _ _ gq;have KX:K.In s.heap:=e0.mod.jV.keeps λb o e=>(e0.bs b o e).1;have lim:s.heap.NoLimit:=e0.mod.nolimit.keeps λb o e=>(e0.bs b o e).1;have HL:∀y∈ps.zip us,scope.names.lookup y.1=some .local\/(scope.names.lookup y.1=some .cell/\((cellsFrom (s.heap.objs.size+1) scope.names []).lookup y.1).isSome=true):=λ⟨n,v⟩ hy=>by
  rcases S.par n (Ji hy).1 with q|q;·exact .inl q
  ·exact .inr ⟨q,cellsFrom_some _ _ _ (.inl q)⟩
 refine codeAny_call_function hr.depth (KX _ _ lk) rfl S.co S.gen rfl (PySem.W.codeRec_of KX dD) (hb _ _ _ _ ?_);refine wpAny_newFunctionEnv_cells S.kind HL λenv he s1 x=>?_;subst he;refine⟨lim.keeps x.toInCall.keep,codeAny_func ?_⟩;obtain⟨t,ht,hq⟩:=jD A outer s H vs Q E (hr.deeper _) gq;have I:Inv (fF CX P w K mg base N qual scope f a_ A outer s H E) [] (start N vs) H s1:=Ep S hr.hd e0 hl r x;refine wpAny_mono (ht [] s1 (start N vs) H _ I hq) (λfl s' hs=>?_) λe s' hs=>hs;have fin:∀{aO:St} {H':Hp} {v:V} {u:Value},Inv (fF CX P w K mg base N qual scope f a_ A outer s H E) [] aO H' s'->RelV v u->Q v H'->CE outer P w H s Q u s':=
  λ{aO H' v u} J rv q=>⟨v,H',J.os,J.bare,J.base,J.ar,rv,q⟩
 cases fl with
 |ret u=>
  obtain⟨v,aO,H',J,rv,q⟩:=hs;exact fin J rv q
 |next=>
  obtain⟨aO,H',J,q⟩:=hs;exact fin (v:=V.aD) (u:=Value.none) J rfl q
 |brk=>
  obtain⟨_,_,_,q⟩:=hs;exact False.elim q
 |cont=>
  obtain⟨_,_,_,q⟩:=hs;exact False.elim q
section
variable {X:Cx}{x:Str}{p pos:Pos}{e:Expr}{es:List Expr}{t:TA}{id T:String}{r:List V->Hp->VK->Prop}
def gs(r:List V->Hp->VK->Prop)(t:TA):TE:=λσ H Q=>t σ H λvs H1=>r vs H1 Q
theorem iQ(hc:cf X (.builtin id) r)(hg:Gl X x)(hm:X.mg x=none)(hv:bootBuiltins x=some (.builtin id))(ha:PA X (e::es) t)(hn:x≠"__name__":=by decide)(eJ:(x==("__debug__":Str))=false:=by decide)
  (he:fI X e es:=by rfl)(cH:gi X pos es:=by rfl):PE X (.Call (.Name x p) (e::es) [] pos) (gs r t):=by
 intro pins s σ H Q I h;refine wpAny_Call_Name_kw (oU I hg hm hv ?_ hn eJ);exact PyProof.Rows.callWith_builtin1 (av (ha pos pins s σ H _ I h) λus s1 ⟨vs,H1,I1,r1,q1⟩=>hc pins s1 σ H1 vs us Q I1 r1 q1) he cH
theorem cU(hc:cf X (.type T) r)(hg:Gl X x)(hm:X.mg x=none)(hv:bootBuiltins x=some (.type T))(ha:PA X (e::es) t)(hn:x≠"__name__":=by decide)(eJ:(x==("__debug__":Str))=false:=by decide)
  (he:fI X e es:=by rfl)(cH:gi X pos es:=by rfl):PE X (.Call (.Name x p) (e::es) [] pos) (gs r t):=by
 intro pins s σ H Q I h;refine wpAny_Call_Name_kw (oU I hg hm hv ?_ hn eJ);exact PyProof.Rows.callWith_type1 (av (ha pos pins s σ H _ I h) λus s1 ⟨vs,H1,I1,r1,q1⟩=>hc pins s1 σ H1 vs us Q I1 r1 q1) he cH
end
end L2
namespace HT
open PySem PyProof.Rows
section
open PySem.SeqAt
open PySem.AutoSeq1 (wpAny_loadPart')
open PySem.MeetsSeq PySem.MeetsSeq2 PySem.MeetsSeq3
end
section
variable {prog:Program}{w:World}{A:Around}{E:aE}{s:Shared}
theorem FI{t b:Addr}{vs ws:List Value}{Q:aE}(ht:IsTup s.heap t vs.toArray)(hb:IsTup s.heap b ws.toArray)(hv:vs≠[])
  (h1:ws=[]->Q (.ref t) s)(h2:ws≠[]->Q (.ref s.heap.objs.size) {s with heap:=s.heap.push {cls:=.type "tuple",data:=.seq (vs++ws).toArray}})
  (hsz:vs.length+ws.length<=sizeLine):wpAny (model prog w) A (binaryOp .Add (.ref t) (.ref b)) Q E s:=by
 obtain⟨⟨cls,dd,data,sl⟩,ho,hc,n,hd⟩:=id ht;obtain⟨⟨MS,BG,data2,BH⟩,ql,BI,n2,hd2⟩:=id hb;simp only at hc hd BI hd2;subst hc hd BI hd2;have e:vs.toArray++ws.toArray=(vs++ws).toArray:=by simp
 by_cases hw:ws=[]
 ·exact concat_meets ⟨_,ho,rfl⟩ ⟨_,ql,rfl⟩ noFill_tuple_add seq_tuple_add slot_tuple_add PySem.F.entry_tuple_add (PySem.F.args_tuple_add_2 _ _)
   (tuple_addW1 t b vs.toArray ws.toArray n n2 dd BG sl BH (by simpa using hv) (by simp[hw])) ⟨ho,ql,h1 hw⟩
 ·refine concat_meets ⟨_,ho,rfl⟩ ⟨_,ql,rfl⟩ noFill_tuple_add seq_tuple_add slot_tuple_add PySem.F.entry_tuple_add (PySem.F.args_tuple_add_2 _ _)
   (tuple_addW2 t b vs.toArray ws.toArray n n2 dd BG sl BH (by simpa using hv) (by simpa using hw) (by rw[Yl,Yl];exact hsz)) ⟨ho,ql,?_⟩
  rw[e];exact h2 hw
def dq(n d:Nat):Option Int->Nat
 |none=>d
 |some v=>if v<0 then(v+(n:Int)).toNat else min v.toNat n
end
end HT
namespace L2
open PySem PySem.Spec PyProof.Rows
abbrev TO:=St->Hp->(Option Int->Hp->Prop)->Prop
def PO(X:Cx)(e:Option Expr)(t:TO):Prop:=
 ∀(pins:aB) (s:Shared) (σ:St) (H:Hp) (Q:Option Int->Hp->Prop),Inv X pins σ H s->t σ H Q->
  wpAny X.md X.A (evalPart e X.env) (λu s'=>∃o H',Inv X pins σ H' s'/\IsPart u o/\Q o H') X.xe s
def FJ:TO:=λ_ H Q=>Q none H
inductive yN(Q:Option Int->Hp->Prop)(x:V)(H1:Hp):Prop
 |mk (i) (aC:x=.int i) (aI:Q (some i) H1):yN Q x H1
def HR(t:TE):TO:=λσ H Q=>t σ H λx H1=>yN Q x H1
theorem intsAre_of{ns:List Int}:∀{us:List Value},Vals (ns.map V.int) us->IntsAre us ns:=by
 induction ns with
 |nil=>intro us r;rw[Jj] at r;cases r;exact .nil
 |cons n ns ih=>
  intro us r;cases r with
  |cons r1 r2=>
   obtain⟨t,e⟩:=r1;subst e;exact .cons n t (ih r2)
section
variable {X:Cx}{e:Expr}{te:TE}{lo hi:Option Expr}{tl th:TO}{pos p2:Pos}
theorem yO:PO X none FJ:=by
 intro pins s σ H Q I h;exact wpAny_pure ⟨none,H,I,.none,h⟩
theorem yP(h:PE X e te):PO X (some e) (HR te):=by
 intro pins s σ H Q I hw;refine av (h pins s σ H _ I hw) λu s1 zq=>?_;obtain⟨x,H1,I1,r1,q1⟩:=zq;obtain⟨i,rfl,q⟩:=q1;obtain⟨t,rfl⟩:=r1;exact⟨some i,H1,I1,.int i t,q⟩
def lu(X:Cx)(r:V->Option Int->Option Int->Hp->VK->Prop):Prop:=
 ∀(pins:aB) (s:Shared) (σ:St) (H:Hp) (x:V) (v vl vu:Value) (lo hi:Option Int) (sl:Addr) (Q:VK),Inv X pins σ H s->RelV x v->s.heap.IsSliceOf sl vl vu .none->IsPart vl lo->IsPart vu hi->r x lo hi H Q->
  ∃T id,typeLookup (.type T) "__getitem__"=pure (some (.builtin id))/\s.TypeIs v T/\wpAny X.md X.A (getItem v (.ref sl)) (EP X pins σ Q) X.xe s
def JX(r:V->Option Int->Option Int->Hp->VK->Prop)(te:TE)(tl th:TO):TE:=λσ H Q=>te σ H λx H1=>tl σ H1 λl H2=>th σ H2 λu H3=>r x l u H3 Q
theorem ye{r:V->Option Int->Option Int->Hp->VK->Prop}(hr:lu X r)(he:PE X e te)(hl:PO X lo tl)(hu:PO X hi th):PE X (.Subscript e (.Slice lo hi none p2) pos) (JX r te tl th):=by
 intro pins s σ H Q I h;refine Subscript_ (av (he pins s σ H _ I h) λv s1 zq=>?_);obtain⟨x,H1,I1,r1,q1⟩:=zq;refine wpAny_Slice (av (hl pins s1 σ H1 _ I1 q1) λvl s2 zq=>?_);obtain⟨l,H2,I2,pl,q2⟩:=zq;refine av (hu pins s2 σ H2 _ I2 q2) λvu s3 zq=>?_;obtain⟨u,H3,I3,pu,q3⟩:=zq;rw[evalPart_none];refine wpAny_pure ?_;have I4:Inv X pins σ H3 {s3 with heap:=s3.heap.push {cls:=.type "slice",data:=.fields #[vl,vu,.none]}}:=I3.kept (t':=s3.toks) λb ob q=>Yc _ q;obtain⟨T,id,hT,ht,hg⟩:=hr pins {s3 with heap:=s3.heap.push {cls:=.type "slice",data:=.fields #[vl,vu,.none]}} σ H3 x v vl vu l u s3.heap.objs.size Q I4 r1 (Heap.IsSliceOf.new ..) pl pu q3;show wpAny X.md X.A (subscriptTail e (.Slice lo hi none p2) v (.ref s3.heap.objs.size)) (EP X pins σ Q) X.xe {s3 with heap:=s3.heap.push {cls:=.type "slice",data:=.fields #[vl,vu,.none]}};exact tail_any (ops:=[.ref s3.heap.objs.size,v]) ht hT hg (by with_unfolding_all rfl)
def jM(xs:List V)(lo hi:Option Int):List V:=(xs.drop (HT.dq xs.length 0 lo)).take (HT.dq xs.length xs.length hi-HT.dq xs.length 0 lo)
theorem rZ(xs:List V)(lo hi:Option Int):(jM xs lo hi).length<=xs.length:=by
 unfold jM
 grind
def HS(K:ag):R2:=λx y H Q=>∃a b xs ys,x=.ref a/\y=.ref b/\ay K H a xs/\ay K H b ys/\xs≠[]/\xs.length+ys.length<=sizeLine/\
 (ys=[]->Q (.ref a) H)/\(ys≠[]->∀p,H p=none->Q (.ref p) (upd H p (.tup (xs++ys))))
theorem Vals.tS{xs:List V}{us:List Value}(r:Vals xs us):us=[]↔xs=[]:=by
 cases r with
 |nil=>simp
 |cons _ _=>simp
theorem FK:bu X (binaryOp .Add) (HS X.K):=by
 rintro pins s σ H x y v u Q I rx ry ⟨a,b,xs,ys,rfl,rfl,ha,hb,hx,hz,q1,q2⟩;cases rx;cases ry;obtain⟨af,r1,p1,_⟩:=I.tuple ha;obtain⟨jN,r2,p2,_⟩:=I.tuple hb;refine HT.FI p1 p2 (λz=>hx (r1.tS.mp z)) (λz=>⟨.ref a,H,I,rfl,q1 (r2.tS.mp z)⟩) (λz=>⟨.ref s.heap.objs.size,_,I.laid (o:=.tup (xs++ys)) (λb ob q=>Yc _ q) (Yd _) ?_,rfl,q2 (λw=>z (r2.tS.mpr w)) _ (I.ar.fresh (Yd _))⟩) (by rw[←r1.length,←r2.length];exact hz);exact⟨by rw[Yj];exact hz,_,r1.append r2,fV.new _ _⟩
end
def jd(n:Nat)(i:Int):Option Nat:=if 0<=i then(if i<n then some i.toNat else none) else if-(n:Int)<=i then some (i+n).toNat else none
def c6{α:Type}(xs:List α)(i:Int):Option α:=(jd xs.length i).bind λj=>xs[j]?
theorem yQ{n:Nat}{i:Int}{j:Nat}(h:jd n i=some j):seqIndex? i n=some j/\j<n/\-(n:Int)<=i/\i<n:=by
 unfold jd at h;by_cases h0:0<=i
 ·rw[if_pos h0] at h;by_cases h1:i<n
  ·rw[if_pos h1] at h;have e:=Yb h;exact⟨by rw[seqIndex_of h0 h1,e],by omega,by omega,h1⟩
  ·grind
 ·rw[if_neg h0] at h;by_cases h1:-(n:Int)<=i
  ·rw[if_pos h1] at h;have e:=Yb h;exact⟨by rw[seqIndex_neg (by omega) h1,e],by omega,h1,by omega⟩
  ·grind
theorem tT{α:Type}{xs:List α}{i:Int}{v:α}(h:c6 xs i=some v):∃j,seqIndex? i xs.length=some j/\xs[j]?=some v/\j<xs.length/\-(xs.length:Int)<=i/\i<xs.length:=by
 unfold c6 at h;cases e:jd xs.length i with
 |none=>grind
 |some j=>
  obtain⟨h1,h2,h3,h4⟩:=yQ e
  grind
theorem jB{α:Type}{xs:List α}{j:Nat}{v:α}(h:xs[j]?=some v):c6 xs (j:Int)=some v:=by
 have e:jd xs.length (j:Int)=some j:=by
  unfold jd
  grind
 unfold c6;rw[e];exact h
def yR(b:Expr):Prop:=∀o i,subscripted b false o i=operate [o,i] (getItem o i)
def gw(X:Cx)(r:R2):Prop:=
 ∀(value slice:Expr) (pins:aB) (s:Shared) (σ:St) (H:Hp) (x y:V) (v u:Value) (Q:VK),Inv X pins σ H s->RelV x v->RelV y u->r x y H Q->
  subscripted slice false v u=operate [v,u] (getItem v u)->wpAny X.md X.A (subscriptTail value slice v u) (EP X pins σ Q) X.xe s
def JY(X:Cx)(id:String)(r:V->List V->Hp->VK->Prop):Prop:=
 ∀(pins:aB) (s:Shared) (σ:St) (H:Hp) (x:V) (xs:List V) (v:Value) (us:List Value) (Q:VK),Inv X pins σ H s->RelV x v->Vals xs us->r x xs H Q->
  wpAny X.md X.A (call (.builtin id) (v::us)) (EP X pins σ Q) X.xe s
section
variable {X:Cx}{a b:Expr}{ta tb:TE}{pos:Pos}
theorem Au{r:R2}(hr:gw X r)(ha:PE X a ta)(hb:PE X b tb)(hs:yR b):PE X (.Subscript a b pos) (fb r ta tb):=by
 intro pins s σ H Q I h;exact Subscript_ (uM ha hb I h λv u s2 x y H2 I2 rx ry q=>hr a b pins s2 σ H2 x y v u Q I2 rx ry q (hs _ _))
inductive zB(K:ag)(x:V)(y:V)(H:Hp)(Q:VK):Prop
 |mk (p xs i v) (aC:x=.ref p) (aI:y=.int i) (aW:ak K H p xs) (bt:c6 xs i=some v) (bV:Q v H):zB K x y H Q
def pK(K:ag):R2:=λx y H Q=>zB K x y H Q
inductive zC(K:ag)(x:V)(y:V)(H:Hp)(Q:VK):Prop
 |mk (p xs i v) (aC:x=.ref p) (aI:y=.int i) (aW:ay K H p xs) (bt:c6 xs i=some v) (bV:Q v H):zC K x y H Q
def uR(K:ag):R2:=λx y H Q=>zC K x y H Q
inductive zD(x:V)(y:V)(H:Hp)(Q:VK):Prop
 |mk (z i c) (aC:x=.str z) (aI:y=.int i) (aW:z.length<=sizeLine) (bt:c6 z.cps.toList i=some c) (bV:Q (.str ⟨#[c]⟩) H):zD x y H Q
def IS:R2:=λx y H Q=>zD x y H Q
theorem yS:gw X (pK X.K):=by
 intro value slice pins s σ H x y v u Q I rx ry h hs;obtain⟨p,xs,i,z,rfl,rfl,hq,he,q⟩:=h;cases rx;obtain⟨t,rfl⟩:=ry;obtain⟨af,r,pl,hz⟩:=I.list hq;obtain⟨j,h1,h2,h3,h4,h5⟩:=tT he;obtain⟨w,ew,dF⟩:=r.get h2;have hl:=r.length;have hn:=mG;have fin:EP X pins σ Q w s:=⟨z,H,I,dF,q⟩;by_cases h0:0<=i
 ·have hj:i.toNat=j:=by
   rw[seqIndex_of h0 h5] at h1;exact Yb h1
  exact item_listR pl.isList h0 (by omega) (by rw[hj];simpa using ew) fin hs
 ·have hj:(i+(af.toArray.size:Int)).toNat=j:=by
   rw[seqIndex_neg (by omega) h4] at h1
   grind
  exact subscriptTail_builtinR (x:=w) pl.isList.typeIs slot_list_getitem.lookup
   (wpAny_getItem_list_neg pl.isList (by omega) (by rw[Yl]<;>omega) (by omega) (by rw[hj];simpa using ew) ⟨rfl,fin⟩) hs
theorem GJ:gw X (uR X.K):=by
 intro value slice pins s σ H x y v u Q I rx ry h hs;obtain⟨p,xs,i,z,rfl,rfl,hq,he,q⟩:=h;cases rx;obtain⟨t,rfl⟩:=ry;obtain⟨af,r,pl,hz⟩:=I.tuple hq;obtain⟨j,h1,h2,h3,h4,h5⟩:=tT he;obtain⟨w,ew,dF⟩:=r.get h2;have hn:=mG;exact subscriptTail_builtinR pl.typeIs slot_tuple_getitem.lookup
  (getItem_tuple pl (by omega) (by omega) (by rw[Yl,←r.length];exact h1) (by simpa using ew) ⟨rfl,⟨z,H,I,dF,q⟩⟩) hs
theorem uc:gw X IS:=by
 intro value slice pins s σ H x y v u Q I rx ry h hs;obtain⟨z,i,c,rfl,rfl,hz,he,q⟩:=h;obtain⟨t,rfl⟩:=rx;obtain⟨t',rfl⟩:=ry;obtain⟨j,h1,h2,h3,h4,h5⟩:=tT he;have hl:z.cps.toList.length=z.length:=by simp[Str.length]
 rw[hl] at h1 h4 h5;have hn:=mG;exact tail_any (typeIs_str s z t) slot_str_getitem.lookup (getItem_str (by
  rw[(decide_eq_false (by omega)),(decide_eq_false (by omega)),Bool.or_false]) (by rw[h1];simpa using h2) ⟨.str ⟨#[c]⟩,H,I.tok _,⟨_,rfl⟩,q⟩) hs
theorem De(lo hi:Option Int)(n:Nat):(sliceBounds lo hi none n).1=((HT.dq n 0 lo:Nat):Int)/\(sliceBounds lo hi none n).2.1=((HT.dq n n hi:Nat):Int)/\(sliceBounds lo hi none n).2.2=1:=by
 refine⟨?_,?_,rfl⟩
 ·cases lo with
  |none=>rfl
  |some i=>
   simp only[sliceBounds,HT.dq]
   grind
 ·cases hi with
  |none=>rfl
  |some i=>
   simp only[sliceBounds,HT.dq]
   grind
theorem C3(af:List Value)(lo hi:Option Int):slicePick af.toArray lo hi none=((af.drop (HT.dq af.length 0 lo)).take (HT.dq af.length af.length hi-HT.dq af.length 0 lo)).toArray:=by
 obtain⟨h1,h2,h3⟩:=De lo hi af.toArray.size;unfold slicePick;rw[h1,h2,h3];simp only[sliceRange_one,pick_run]<;>rfl
def IT(K:ag):V->Option Int->Option Int->Hp->VK->Prop:=λx lo hi H Q=>∃a xs,x=.ref a/\ak K H a xs/\∀p,H p=none->Q (.ref p) (upd H p (.lst (jM xs lo hi)))
theorem FN:lu X (IT X.K):=by
 rintro pins s σ H x v vl vu lo hi sl Q I rx hs pl pu ⟨a,xs,rfl,hx,q⟩;cases rx;obtain⟨af,r,ht,hz⟩:=I.list hx;have hlen:=r.length;refine⟨"list",_,slot_list_getitem.lookup,ht.isList.typeIs,wpAny_getItem_list_slice ht.isList hs pl pu .none (by simp) ?_ (by rw[Yl]<;>omega)⟩;rw[C3,←hlen];refine⟨.ref s.heap.objs.size,_,I.laid (o:=.lst (jM xs lo hi)) (λb ob q=>Yc _ q) (Yd _) ?_,rfl,q _ (I.ar.fresh (Yd _))⟩;exact⟨Y5 (rZ xs lo hi) hz,_,0,(r.drop (HT.dq xs.length 0 lo)).take (HT.dq xs.length xs.length hi-HT.dq xs.length 0 lo),Ym _ rfl⟩
def h_:V->Bool
 |.aD=>true
 |.bl _=>true
 |.int _=>true
 |.str _=>true
 |_=>false
def je:V->V->Bool
 |.aD,.aD=>true
 |.bl a,.bl b=>a==b
 |.bl a,.int b=>(if a then 1 else 0)==b
 |.int a,.bl b=>a==(if b then 1 else 0)
 |.int a,.int b=>a==b
 |.str a,.str b=>a==b
 |_,_=>false
theorem GK{A:Around}{s:Shared}{y x:V}{u v:Value}(ry:RelV y u)(rx:RelV x v)(fy:h_ y=true)(fx:h_ x=true):SeqAt.EqAt A s u v (je y x):=by
 cases y with
 |aD=>
  cases ry;cases x with
  |aD=>cases rx;exact SeqAt.EqAt.same _
  |bl b=>cases rx;exact SeqAt.EqAt.none_bool b
  |int b=>obtain⟨t,rfl⟩:=rx;exact SeqAt.EqAt.none_int b t
  |str b=>obtain⟨t,rfl⟩:=rx;exact SeqAt.EqAt.none_str b t
  |_=>exact absurd (show false=true from fx) Yg
 |bl a=>
  cases ry;cases x with
  |aD=>cases rx;exact SeqAt.EqAt.bool_none a
  |bl b=>cases rx;exact SeqAt.EqAt.bool_bool a b
  |int b=>obtain⟨t,rfl⟩:=rx;exact SeqAt.EqAt.bool_int a b t
  |str b=>obtain⟨t,rfl⟩:=rx;exact SeqAt.EqAt.bool_str a b t
  |_=>exact absurd (show false=true from fx) Yg
 |int a=>
  obtain⟨t',rfl⟩:=ry;cases x with
  |aD=>cases rx;exact SeqAt.EqAt.int_none a t'
  |bl b=>cases rx;exact SeqAt.EqAt.int_bool a t' b
  |int b=>obtain⟨t,rfl⟩:=rx;exact SeqAt.EqAt.int_int a t' b t
  |str b=>obtain⟨t,rfl⟩:=rx;exact SeqAt.EqAt.int_str a t' b t
  |_=>exact absurd (show false=true from fx) Yg
 |str a=>
  obtain⟨t',rfl⟩:=ry;cases x with
  |aD=>cases rx;exact SeqAt.EqAt.str_none a t'
  |bl b=>cases rx;exact SeqAt.EqAt.str_bool a t' b
  |int b=>obtain⟨t,rfl⟩:=rx;exact SeqAt.EqAt.str_int a t' b t
  |str b=>obtain⟨t,rfl⟩:=rx;exact SeqAt.EqAt.str_str a t' b t
  |_=>exact absurd (show false=true from fx) Yg
 |_=>exact absurd (show false=true from fy) Yg
def df(x:V)(u:Value):Bool:=match u with
 |.none=>je .aD x
 |.bool b=>je (.bl b) x
 |.int i _=>je (.int i) x
 |.str z _=>je (.str z) x
 |_=>false
theorem zE{x y:V}{u:Value}(r:RelV y u)(f:h_ y=true):df x u=je y x:=by
 cases y with
 |aD=>cases r;rfl
 |bl b=>cases r;rfl
 |int i=>obtain⟨t,rfl⟩:=r;rfl
 |str z=>obtain⟨t,rfl⟩:=r;rfl
 |_=>exact absurd (show false=true from f) Yg
theorem mi{x:V}:∀{xs:List V} {us:List Value},Vals xs us->xs.all h_=true->us.any (df x)=xs.any λy=>je y x
 |_,_,.nil,_=>rfl
 |y::xs,u::us,.cons r t,f=>by
  rw[List.all_cons,Wz] at f;rw[Ja,Ja,zE r f.1,mi t f.2]
theorem l7{A:Around}{s:Shared}{x:V}{v:Value}(rx:RelV x v)(fx:h_ x=true):∀{xs:List V} {us:List Value},Vals xs us->xs.all h_=true->∀u∈us,SeqAt.EqAt A s u v (df x u):=by
 intro xs us h;induction h with
 |nil=>intro _ u hu;cases hu
 |cons r t ih=>
  intro f u' hu;rw[List.all_cons,Wz] at f;rcases Yw.mp hu with rfl|hu;·rw[zE r f.1];exact GK r rx f.1 fx
  ·exact ih f.2 u' hu
def j1(x:V)(xs:List V):Bool:=xs.any λy=>je y x
def qm(K:ag)(neg:Bool):R2:=λx y H Q=>∃p xs,y=.ref p/\(ak K H p xs\/ay K H p xs)/\h_ x=true/\xs.all h_=true/\Q (.bl (if neg then !j1 x xs else j1 x xs)) H
theorem Es:bu X (compareOp .In) (qm X.K false):=by
 rintro pins s σ H x y v u Q I rx ry ⟨p,xs,rfl,hq,fx,fs,q⟩;cases ry;rcases hq with hq|hq
 ·obtain⟨af,r,pl,hz⟩:=I.list hq;refine SeqAt.in_listAt (df x) pl.isList (λw hw=>l7 rx fx r fs w (by simpa using hw)) ⟨.bl _,H,I,rfl,?_⟩;rw[show af.toArray.any (df x)=af.any (df x) by simp,mi r fs];exact q
 ·obtain⟨af,r,pl,hz⟩:=I.tuple hq;refine SeqAt.in_tupleAt (df x) pl (λw hw=>l7 rx fx r fs w (by simpa using hw)) ⟨.bl _,H,I,rfl,?_⟩;rw[show af.toArray.any (df x)=af.any (df x) by simp,mi r fs];exact q
theorem Df:bu X (compareOp .NotIn) (qm X.K true):=by
 rintro pins s σ H x y v u Q I rx ry ⟨p,xs,rfl,hq,fx,fs,q⟩;cases ry;rcases hq with hq|hq
 ·obtain⟨af,r,pl,hz⟩:=I.list hq;refine SeqAt.notIn_listAt (df x) pl.isList (λw hw=>l7 rx fx r fs w (by simpa using hw)) ⟨.bl _,H,I,rfl,?_⟩;rw[show af.toArray.any (df x)=af.any (df x) by simp,mi r fs];exact q
 ·obtain⟨af,r,pl,hz⟩:=I.tuple hq;refine SeqAt.notIn_tupleAt (df x) pl (λw hw=>l7 rx fx r fs w (by simpa using hw)) ⟨.bl _,H,I,rfl,?_⟩;rw[show af.toArray.any (df x)=af.any (df x) by simp,mi r fs];exact q
theorem xa:cf X (.builtin "len") (λxs H Q=>∃p ys,xs=[.ref p]/\(ak X.K H p ys\/ay X.K H p ys)/\Q (.int ys.length) H):=by
 rintro pins s σ H xs us Q I r ⟨p,ys,rfl,hq,q⟩;obtain⟨u,rfl,rx⟩:=vals1 r;cases rx;have hn:=mG;rcases hq with hq|hq
 ·obtain⟨af,r',pl,hz⟩:=I.list hq;have hlen:=r'.length;exact Calls.call_len_list pl.isList (by simp only[Yl]<;>omega) ⟨.int ys.length,H,I.tok _,⟨s.toks+1,by rw[Yl,hlen]⟩,q⟩
 ·obtain⟨af,r',pl,hz⟩:=I.tuple hq;have hlen:=r'.length;exact len_tuple pl (by simp only[Yl]<;>omega) ⟨.int ys.length,H,I.tok _,⟨s.toks+1,by rw[Yl,hlen]⟩,q⟩
theorem Dg:cf X (.type "list") (λxs H Q=>∃p ys,xs=[.ref p]/\(ak X.K H p ys\/ay X.K H p ys)/\∀l,H l=none->Q (.ref l) (upd H l (.lst ys))):=by
 rintro pins s σ H xs us Q I r ⟨p,ys,rfl,hq,q⟩;obtain⟨u,rfl,rx⟩:=vals1 r;cases rx;have fin:∀(af:List Value),Vals ys af->ys.length<=sizeLine->∀(h':Heap) (c':Nat),(∀b o',s.heap.get? b=some o'->h'.get? b=some o')->
   h'.get? s.heap.objs.size=some {cls:=.type "list",dict:=none,data:=.seq af.toArray c',slots:=#[]}->EP X pins σ Q (.ref s.heap.objs.size) {s with heap:=h'}:=λaf r' hz h' c' kp e=>
  ⟨.ref s.heap.objs.size,_,I.laid kp (Yd _) (show bQ X.prog X.w _ h' _ (.lst ys) from⟨hz,af,c',r',e⟩),rfl,q _ (I.ar.fresh (Yd _))⟩
 rcases hq with hq|hq
 ·obtain⟨af,r',pl,hz⟩:=I.list hq;have hlen:=r'.length;obtain⟨o,ho,hc,n,hd⟩:=pl.isList;exact call_list_seq p (.inl rfl) ho hc hd (λh' c' kp e=>fin af r' hz h' c' kp e) (by simp only[Yl]<;>omega)
 ·obtain⟨af,r',pl,hz⟩:=I.tuple hq;have hlen:=r'.length;obtain⟨o,ho,hc,n,hd⟩:=pl;exact call_list_seq p (.inr rfl) ho hc hd (λh' c' kp e=>fin af r' hz h' c' kp e) (by simp only[Yl]<;>omega)
theorem kq:cf X (.type "tuple") (λxs H Q=>∃p ys,xs=[.ref p]/\((ak X.K H p ys/\∀l,H l=none->Q (.ref l) (upd H l (.tup ys)))\/(ay X.K H p ys/\Q (.ref p) H))):=by
 rintro pins s σ H xs us Q I r ⟨p,ys,rfl,h⟩;obtain⟨u,rfl,rx⟩:=vals1 r;cases rx;rcases h with⟨hq,q⟩|⟨hq,q⟩
 ·obtain⟨af,r',pl,hz⟩:=I.list hq;have hlen:=r'.length;refine call_tuple_list pl.isList (λh' kp=>?_) (by simp only[Yl]<;>omega);have I1:=I.kept (t':=s.toks) kp;have I2:Inv X pins σ (upd H h'.objs.size (.tup ys)) {s with heap:=h'.push {cls:=.type "tuple",data:=.seq af.toArray}}:=
   I1.laid (λb o e=>Yc _ e) (Yd _) (show bQ X.prog X.w _ _ _ (.tup ys) from⟨hz,af,r',fV.new _ _⟩)
  exact⟨.ref h'.objs.size,_,I2,rfl,q _ (I1.ar.fresh (Yd _))⟩
 ·obtain⟨af,r',pl,hz⟩:=I.tuple hq;exact call_tuple_same pl ⟨.ref p,H,I,rfl,q⟩
def BJ(K:ag)(T:String)(x:V)(H:Hp):Prop:=match x with
 |.str _=>T="str"
 |.int _=>T="int"
 |.ref p=>(T="list"/\∃xs,ak K H p xs)\/(T="tuple"/\∃o,K.lookup p=some o/\o.cls=.type "tuple"/\o.dict=none)\/
   (T="dict"/\((∃aa,H p=some (.dK aa))\/∃aa,H p=some (.dT aa)))\/(T="set"/\∃S n,H p=some (.set S n))
 |_=>False
theorem GL{pins:aB}{σ:St}{H:Hp}{s:Shared}{T:String}{x:V}{v:Value}(I:Inv X pins σ H s)(r:RelV x v)(ty:BJ X.K T x H):
  s.TypeIs v T/\∀a,v=.ref a->∃ob,s.heap.get? a=some ob/\ob.dict=none:=by
 cases x with
 |str z=>
  obtain⟨t,rfl⟩:=r;cases(show T="str" from ty);exact⟨typeIs_str s z t,λ_ e=>nomatch e⟩
 |int i=>
  obtain⟨t,rfl⟩:=r;cases(show T="int" from ty);exact⟨typeIs_int s i t,λ_ e=>nomatch e⟩
 |ref p=>
  cases r;rcases ty with⟨rfl,xs,hq⟩|⟨rfl,o,hk,hc,hd⟩|⟨rfl,hk⟩|⟨rfl,S,n,hk⟩
  ·obtain⟨af,_,pl,_⟩:=I.list hq;refine⟨pl.isList.typeIs,λa e=>?_⟩;obtain⟨o,n,e,c,hd,_⟩:=pl
   grind
  ·refine⟨⟨o,I.bX p o hk,hc⟩,λa e=>?_⟩;cases e;exact⟨o,I.bX _ o hk,hd⟩
  ·have z:∃o,s.heap.get? p=some o/\o.ExactDict:=by
    rcases hk with⟨aa,hk⟩|⟨aa,hk⟩
    ·obtain⟨_,_,_,_,o,_,_,e,ex,_⟩:=I.ar p _ hk;exact⟨o,e,ex⟩
    ·obtain⟨_,_,_,_,o,_,_,e,ex,_⟩:=I.ar p _ hk;exact⟨o,e,ex⟩
   obtain⟨o,e,ex⟩:=z;refine⟨⟨o,e,ex.1⟩,λa e2=>?_⟩;cases e2;exact⟨o,e,ex.2.1⟩
  ·obtain⟨o,_,_,_,e,ex,_⟩:=I.ar p _ hk;refine⟨⟨o,e,ex.1⟩,λa e2=>?_⟩;cases e2;exact⟨o,e,ex.2.1⟩
 |_=>exact False.elim ty
def j2(K:ag)(T:String)(r:V->List V->Hp->VK->Prop)(to:TE)(t:TA):TE:=λσ H Q=>to σ H λx H1=>BJ K T x H1/\t σ H1 λxs H2=>r x xs H2 Q
variable {o e:Expr}{es:List Expr}{to:TE}{t:TA}{name:Str}{apos cy:Pos}{T id:String}{r:V->List V->Hp->VK->Prop}
theorem fY(pa:PlainAttrs T)(slot:Slot T name id)(JZ:typeOf (.builtin id)=pure (.type "method_descriptor"))(hm:JY X id r)(ho:PE X o to)(ha:PA X (e::es) t)
  (uA:attributeBase o name X.env (eval o X.env)=eval o X.env:=by rfl)
  (uS:((backTo cy (starEach (e::es) X.env)).all (λx=>!x.1)&&(backToKw cy (keywordEach [] X.env)).all (λx=>x.1.isSome)
   &&decide ((e::es).length+([]:List Keyword).length+(if([]:List Keyword).isEmpty then 0 else 1)<30))=true:=by rfl)
  (uB:(apos.endLine==cy.line)=true:=by rfl)(hs:fI X e es:=by rfl)(GN:gi X cy es:=by rfl):
  PE X (.Call (.Attribute o name apos) (e::es) [] cy) (j2 X.K T r to t):=by
 intro pins s σ H Q I h;refine wpAny_Call_method_late uA uS uB rfl (av (ho pins s σ H _ I h) λv s1 zq=>?_);obtain⟨x,H1,I1,r1,ty,q1⟩:=zq;obtain⟨h1,h2⟩:=GL I1 r1 ty;refine⟨T,id,pa,slot,JZ,h1,h2,?_⟩;have hA:=ha cy pins s1 σ H1 _ I1 q1;rw[hs] at hA⊢;exact Calls.callWith_builtin (by show(false||(backTo cy (starEach es X.env)).any (·.1))=false;rw[GN]<;>rfl) (Calls.evalArgs_plain (av hA λus s2 ⟨vs,H2,I2,r2,q2⟩=>hm pins s2 σ H2 x vs v us Q I2 r1 r2 q2))
end
def lA(X:Cx)(id:String)(r:V->List V->Hp->VK->Prop):Prop:=
 ∀(pins:aB) (s:Shared) (σ:St) (H:Hp) (x:V) (xs:List V) (v:Value) (us:List Value) (Q:VK),Inv X pins σ H s->RelV x v->Vals xs us->r x xs H Q->
  wpAny X.md X.A (call (.builtin id) (v::us)) (EP X pins σ Q) X.xe s
theorem Vals.one:∀{x:V} {us:List Value},Vals [x] us->∃u,us=[u]/\RelV x u:=by
 intro x us h;cases h with
 |cons r t=>
  cases t;exact⟨_,rfl,r⟩
theorem Vals.eraseIdx:∀{xs:List V} {us:List Value} (i:Nat),Vals xs us->Vals (xs.eraseIdx i) (us.eraseIdx i)
 |_,_,_,.nil=>.nil
 |_,_,0,.cons _ t=>t
 |_,_,i+1,.cons r t=>.cons r (Vals.eraseIdx i t)
section
variable {X:Cx}{pins:aB}{σ:St}{H:Hp}{s:Shared}{l b:Addr}{xs ys zs:List V}
theorem Inv.A2{af its':List Value}{n:Nat}{f:Array Value->Array Value}{t':Nat}(I:Inv X pins σ H s)(hH:H l=some (.lst xs))
  (e:s.heap.get? l=some {cls:=.type "list",data:=.seq af.toArray n})(hf:f af.toArray=its'.toArray)(hv:Vals ys its')(hz:ys.length<=sizeLine):
  Inv X pins σ (upd H l (.lst ys)) {s with heap:=s.heap.update l (Obj.mapSeq f),toks:=t'}:=by
 have q:=PySem.IsL.update e f;rw[hf] at q;refine I.write (by rw[hH];exact trivial) (.inl rfl) (λb' u hb hu=>(Heap.get?_update_other s.heap (Obj.mapSeq f) (Ne.symm hb)).trans hu) ⟨_,q⟩ ?_;exact⟨hz,its',_,hv,q⟩
theorem Inv.IU{af:List Value}{t':Nat}(I:Inv X pins σ H s)(hv:Vals ys af)(hz:ys.length<=sizeLine):
  Inv X pins σ (upd H s.heap.objs.size (.lst ys)) {s with heap:=s.heap.push {cls:=.type "list",data:=.seq af.toArray},toks:=t'}:=
 I.laid (λ_ _ q=>Yc _ q) (Yd _) ⟨hz,af,0,hv,Ym _ rfl⟩
theorem Inv.fresh(I:Inv X pins σ H s):H s.heap.objs.size=none:=I.ar.fresh (Yd _)
theorem Inv.pL(I:Inv X pins σ H s)(hH:H l=some (.lst xs)):xs.length<=sizeLine/\∃(af:List Value) (n:Nat),Vals xs af/\xs.length=af.length/\s.heap.get? l=some {cls:=.type "list",data:=.seq af.toArray n}:=by
 obtain⟨z,af,n,r,e⟩:=I.ar l _ hH;exact⟨z,af,n,r,r.length,e⟩
end
section
variable {X:Cx}
def FO:V->List V->Hp->VK->Prop:=λx vs H Q=>∃l xs y,x=.ref l/\vs=[y]/\H l=some (.lst xs)/\xs.length<sizeLine/\Q .aD (upd H l (.lst (xs++[y])))
theorem oB:lA X "list.append" FO:=by
 intro pins s σ H x vs v us Q I rx rv h;obtain⟨l,xs,y,rfl,rfl,hH,hz,q⟩:=h;cases rx;obtain⟨u,rfl,ru⟩:=rv.one;obtain⟨z,af,n,r,hl,e⟩:=I.pL hH;refine call_meets F.slot_list_append ⟨_,e,rfl⟩ F.entry_list_append (F.args_list_append_2 _ _) (PySem.list_append l af.toArray n u (by rw[Yl];omega)) ⟨e,?_⟩;refine⟨.aD,_,I.A2 (its':=af++[u]) hH e (by simp) (r.append (.cons ru .nil)) ?_,rfl,q⟩
 grind
def GO:V->List V->Hp->VK->Prop:=λx vs H Q=>∃l xs i k y,x=.ref l/\vs=[.int i]/\H l=some (.lst xs)/\-(2^63)<=i/\i<2^63/\seqIndex? i xs.length=some k/\xs[k]?=some y/\Q y (upd H l (.lst (xs.eraseIdx k)))
theorem EV:lA X "list.pop" GO:=by
 rintro pins s σ H x vs v us Q I rx rv ⟨l,xs,i,k,y,rfl,rfl,hH,h1,h2,hk,hy,q⟩;cases rx;obtain⟨u,rfl,ru⟩:=rv.one;obtain⟨t,rfl⟩:=ru;obtain⟨z,af,n,r,hl,e⟩:=I.pL hH;obtain⟨w,hw,dF⟩:=r.get hy;refine call_meets F.slot_list_pop ⟨_,e,rfl⟩ F.entry_list_pop (F.args_list_pop_2 _ _)
  (MeetsSeq.list_pop_at l af.toArray n i t k w (fitsIndex_both h1 h2) (by rw[Yl,←hl];exact hk) (by rw[←Array.getElem?_toList];exact hw) (by rw[Yl];omega)) ⟨e,?_⟩
 refine⟨y,_,I.A2 hH e ?_ (r.eraseIdx k) ?_,dF,q⟩;·grind
 ·grind
def IV:R2:=λx y H Q=>∃l b xs zs,x=.ref l/\y=.ref b/\H l=some (.lst xs)/\H b=some (.lst zs)/\xs.length+zs.length<=sizeLine/\∀p,H p=none->Q (.ref p) (upd H p (.lst (xs++zs)))
theorem GP:bu X (binaryOp .Add) IV:=by
 rintro pins s σ H x y v u Q I rx ry ⟨l,b,xs,zs,rfl,rfl,hH,hB,hz,q⟩;cases rx;cases ry;obtain⟨z,af,n,r,hl,e⟩:=I.pL hH;obtain⟨z2,jN,n2,r2,jg,e2⟩:=I.pL hB;refine PySem.P.add_list e e2 ?_ (by rw[Yl,Yl];omega);have ea:af.toArray++jN.toArray=(af++jN).toArray:=by simp
 rw[ea];exact⟨.ref _,_,I.IU (r.append r2) (by rw[Yj];omega),rfl,q _ I.fresh⟩
end
section
variable {prog:Program}{w:World}{A:Around}{E:aE}{s:Shared}
set_option maxRecDepth 100000 in
end
section
variable {X:Cx}
end
end L2
namespace BK
open PySem PySem.W PySem.Calls PyProof.Rows
theorem CT{P:Params}{h:Heap}:∀(ns:List Int) (vs:List Value),WellAll P h vs (ns.map WData.int)->IntsAre vs ns:=by
 intro ns;induction ns with
 |nil=>
  intro vs w;cases w;exact .nil
 |cons n ns ih=>
  intro vs w;cases w with
  |cons a b=>
   cases a;exact .cons _ _ (ih _ b)
theorem Et{l:OpenLaw}{n:Nat}(hn:l.most=some n){P:Params}{h:Heap}{args:List WData}{vals:List Value}
  (pM:l.row.toRowW.claim.pre args=true)(j3:WellAll P h vals args):
  ∃a vs ns,vals=[Value.ref a]/\args=[WData.list (ns.map WData.int)]/\h.get? a=some {cls:=.type "list",data:=.seq vs.toArray}/\IntsAre vs ns/\ns.length<=n:=by
 obtain⟨d,r,rfl,h1,h2⟩:=hasAllW_cons ((pre_splitW pM).1);obtain rfl:=hasAllW_nil h2;obtain⟨xs,rfl,h3⟩:=hasW_list h1;obtain⟨ns,rfl⟩:=items_int h3;have hlen:ns.length<=n:=by
  have h4:(WTm.not (.lt (.lit (.int (n:Int))) (.len (.arg 0)))).holds [] {args:=[.list (ns.map .int)]}=true:=by
   have h4:=(holds_andW ((pre_splitW pM).2)).1;rw[hn] at h4;exact h4
  have h5:=condW_of h4 (w_not (w_lt w_lit (w_len_list (w_arg rfl))))
  grind
 cases j3 with
 |cons w1 w2=>
  cases w2;cases w1 with
  |list ho uT=>exact⟨_,_,ns,rfl,rfl,ho,CT ns _ uT,hlen⟩
theorem Eu(l:OpenLaw)(args:List WData):l.row.toRowW.claim.post args (.bool true) args=true:=
 postW_of (X:=(true==true))
  (show WShape.has [] (.bool true) .bool=true by first|rfl|decide|simp[WShape.has])
  (show(WTm.eq .res (.lit (.bool true))).value [] {args:=args,res:=some (.bool true),after:=args}=some (.bool (true==true)) from w_eq_bool (w_res rfl) w_lit) rfl
theorem Dx{l:OpenLaw}{n:Nat}{q:Program}{loose:List Str}{XP:(Str->Option Value)->Heap->Prop}{YP:World->Heap->Prop}{d:DefRec}
  (hn:l.most=some n)(nI:d.params.defaults=[])
  (call:∀(w:World) (bS aQ:Shared) (mg mb:aG) (fa:Addr) (o:Obj) (pm cd doc:Value) (a:Addr) (vs:List Value) (ns:List Int),
   Ground q loose [] XP w bS mg mb aQ.heap->YP w aQ.heap->
   aQ.heap.get? fa=some o->o.data=.func (docDef d.name d.params d.body d.scope pm cd doc)->aQ.heap.CodeRec cd d.name->mg d.name=some (.ref fa)->
   aQ.heap.get? a=some {cls:=.type "list",data:=.seq vs.toArray}->IntsAre vs ns->ns.length<=n->aQ.gens=#[]->
   codeAny (model l.prog w) callerA (.call (.ref fa) ⟨[.ref a],[]⟩) (λr s'=>r=.ok (.ret (.bool true))/\OldK aQ.heap s'.heap/\s'.os=aQ.os/\AllBare s'.gens) aQ):
  WalkO q loose XP YP l.row.toRowW d [] (λf vs=>PySem.call f vs):=by
 intro w bS aQ mg mb G Y fa o pm cd doc dV kV ho hd dD hD nJ hg args vals as pM MT M5 j3 M6;obtain rfl:dV=.none:=Dflts.none hD nI;obtain rfl:kV=.none:=Dflts.noKw hD;obtain⟨a,vs,ns,rfl,rfl,uU,hints,hlen⟩:=Et hn pM j3;refine enter_call (codeAny_mono (call w bS aQ mg mb fa o pm cd doc a vs ns G Y ho (fd_plain hd) dD nJ uU hints hlen hg) λr s' hq=>?_);obtain⟨rfl,h2,h3,h4⟩:=hq;exact⟨.inl ⟨.bool true,.bool true,[],rfl,λ_=>rfl,.bool true,Eu l _,λ_=>⟨List.Pairwise.nil,λ_ hm=>(nomatch hm)⟩⟩,h2,h3,h4⟩
section
variable {prog:Program}{w:World}{A:Around}{E:aE}{s:Shared}{K:Frag}
end
end BK
namespace L2
open PySem PySem.Spec PyProof.Rows
theorem xR:∀{vs:List Value} {ns:List Int},IntsAre vs ns->Vals (ns.map V.int) vs:=by
 intro vs ns h;induction h with
 |nil=>exact .nil
 |cons n t h ih=>exact .cons ⟨t,rfl⟩ ih
def uV(H:Hp):Prop:=∀b,H b=none\/∃o xs,H b=some (.dS o (.lst xs))
theorem EW{P:Program}{w:World}{K:ag}{mg mb:aG}{CX:eD}{k:Nat}{fa a:Addr}{fd:FuncData}{x:Str}{sp:Sp}{aQ:Shared}{vs:List Value}{ns:List Int}
  (KX:K.In aQ.heap)(BL:aQ.heap.Ns mainGlobals mg)(hb:aQ.heap.Ns builtinsNs mb)(J0:∀x:Str,x≠"__name__"->mb x=bootBuiltins x)(IW:aQ.heap.NoLimit)(hg:aQ.gens=#[])
  (ha:aQ.heap.get? a=some {cls:=.type "list",data:=.seq vs.toArray})(hi:IntsAre vs ns)(hl:ns.length<=sizeLine)(hr:bK k callerA)
  (F:∀base:Heap,K.In base->base.Ns mainGlobals mg->aH P w K mg base CX k fa fd [x] sp)(HU:∀(s:Shared) (u:Value),BindsTo s fd ⟨[u],[]⟩ [(x,u)])
  (gq:∀H:Hp,uV H->ak K H a (ns.map V.int)->sp [.ref a] H (λv _=>v=.bl true) λ_ _ _=>False)
  (vE:∀H e s',CX [] H aQ (λ_ _ _=>False) e s'->False):
  codeAny (model P w) callerA (.call (.ref fa) ⟨[.ref a],[]⟩) (λr s'=>r=.ok (.ret (.bool true))/\OldK aQ.heap s'.heap/\s'.os=aQ.os/\AllBare s'.gens) aQ:=by
 have rv:=xR hi;have IX:=hi.length
 --from an abstract heap in MJ nothing but ij zo may be tracked
 have core:∀H:Hp,uV H->ak K H a (ns.map V.int)->bN P w H aQ.heap->(∀b,H b≠none->b=a)->(H a≠none->K.lookup a=none)->
   codeAny (model P w) callerA (.call (.ref fa) ⟨[.ref a],[]⟩) (λr s'=>r=.ok (.ret (.bool true))/\OldK aQ.heap s'.heap/\s'.os=aQ.os/\AllBare s'.gens) aQ:=by
  intro H hO hS ar hA hK;have yT:∀{b:Addr} {o:Obj},aQ.heap.get? b=some o->H b=none->(ib aQ.heap H).get? b=some o:=λe n=>EJ e n;have nH:∀{b:Addr} {o:Obj} {es:Array DictEntry} {ep:Nat},aQ.heap.get? b=some o->o.data=.dict es ep->H b=none:=λ{b o es ep} e d=>by
   cases q:H b with
   |none=>rfl
   |some u=>
    have e':b=a:=hA b (by rw[q];simp);subst e';rw[ha] at e;cases e;have d':Data.seq vs.toArray _=Data.dict es ep:=d;cases d'
  have qo:∀{b:Addr} {m:aG},aQ.heap.Ns b m->(ib aQ.heap H).Ns b m:=λ{b m} ⟨o,es,ep,e,d,r⟩=>⟨o,es,ep,yT e (nH e d),d,r⟩;have BM:K.In (ib aQ.heap H):=λb o e=>yT (KX b o e) (by
   cases q:H b with
   |none=>rfl
   |some u=>
    have e':b=a:=hA b (by rw[q];simp);subst e';rw[hK (by rw[q];simp)] at e;cases e)
  have hM:Mod K mg (ib aQ.heap H):=⟨BM,qo BL,⟨mb,qo hb,J0⟩,let⟨mc,h1,h2⟩:=IW;⟨mc,qo h1,h2⟩⟩;have e0:jL P w K mg (ib aQ.heap H) callerA [] aQ H:=⟨rfl,hM,λb o e=>Fz e,Nat.le_of_eq (Ei _ _),trivial,λb hb=>absurd (show b∈([]:List Addr) from hb) (by simp),ar,.of_eq hg⟩;refine codeAny_mono ((F _ BM (qo BL)).run callerA [] aQ H ⟨[.ref a],[]⟩ [.ref a] [.ref a] _ _ hr e0 (HU aQ (.ref a)) (.cons rfl .nil) (gq H hO hS)) λr s' h=>?_;cases r with
  |error e=>exact(vE H e s' h).elim
  |ok fl=>
   cases fl with
   |next=>exact False.elim h
   |brk=>exact False.elim h
   |cont=>exact False.elim h
   |ret u=>
    obtain⟨v,H',os,bare,un,IY,r',q⟩:=h;have q':v=.bl true:=q;subst q';obtain rfl:u=Value.bool true:=r';refine⟨rfl,OldK.of_keep λb o e=>?_,os,bare⟩;cases q:H b with
    |none=>exact un.keep b o e q (by intro z;exact absurd (show b∈([]:List Addr) from z) (by simp)) (by simp)
    |some u=>
     rcases hO b with z|⟨ob,xs,z⟩;·rw[q] at z;cases z
     ·have z2:=un.ia b ob _ z;obtain⟨e1,_⟩:=ar b _ z;obtain⟨e2,_⟩:=IY b _ z2;rw[e] at e1;cases e1;exact e2
 cases hk:K.lookup a with
 |some o=>
  --ij zo is one of ij MA own objects
  have e:=KX a o hk;rw[ha] at e;cases e;refine core (λ_=>none) (λ_=>.inl rfl) (.inr ⟨_,vs.toArray,_,hk,rfl,rfl,rfl,by rw[Yl,IX];exact hl,by simpa using rv⟩) (λb u z=>by have z':(none:Option HO)=some u:=z;cases z') (λb z=>absurd rfl z) λz=>absurd rfl z
 |none=>
  refine core (λb=>if b=a then some (.dS {cls:=.type "list",data:=.seq vs.toArray} (.lst (ns.map V.int))) else none) (λb=>?_) (.inl (.inr ⟨{cls:=.type "list",data:=.seq vs.toArray},if_pos rfl⟩)) (λb u z=>?_) (λb z=>?_) λ_=>hk
  ·by_cases hb:b=a;·exact .inr ⟨_,_,if_pos hb⟩
   ·exact .inl (if_neg hb)
  ·by_cases hb:b=a
   ·have z':=(if_pos hb).symm.trans z;cases z';subst hb;exact⟨ha,by rw[Ya];exact hl,vs,_,rv,ha⟩
   ·have z':=(if_neg hb).symm.trans z;cases z'
  ·by_cases hb:b=a;·exact hb
   ·exact absurd (if_neg hb) z
theorem FP{l:PySem.W.OpenLaw}{n k:Nat}{q:Program}{loose:List Str}{XP:(Str->Option Value)->Heap->Prop}{YP:World->Heap->Prop}{d:DefRec}{K:Params->ag}{CX:World->eD}{sp:World->Sp}{x:Str}
  (hn:l.most=some n)(eA:n<=sizeLine)(nI:d.params.defaults=[])(hr:bK k callerA)
  (hY:∀(w:World) (h:Heap),YP w h->(K w.params).In h)
  (F:∀(w:World) (mg:aG) (fa:Addr) (h:Heap),(K w.params).In h->h.Ns mainGlobals mg->mg d.name=some (.ref fa)->
   ∃fd:FuncData,(∀(s:Shared) (u:Value),BindsTo s fd ⟨[u],[]⟩ [(x,u)])/\
    ∀base:Heap,(K w.params).In base->base.Ns mainGlobals mg->aH l.prog w (K w.params) mg base (CX w) k fa fd [x] (sp w))
  (gq:∀(w:World) (H:Hp) (a:Addr) (ns:List Int),ns.length<=n->uV H->ak (K w.params) H a (ns.map V.int)->sp w [.ref a] H (λv _=>v=.bl true) λ_ _ _=>False)
  (vE:∀(w:World) (H:Hp) (s:Shared) (e:Value) (s':Shared),CX w [] H s (λ_ _ _=>False) e s'->False):
  PySem.W.WalkO q loose XP YP l.row.toRowW d [] (λf vs=>PySem.call f vs):=by
 refine BK.Dx hn nI λw bS aQ mg mb fa o pm cd doc a vs ns G Y ho hd dD nJ uU hints hlen hg=>?_;have KX:=hY w _ Y;obtain⟨fd,hb,hF⟩:=F w mg fa _ KX G.T.g nJ;exact EW KX G.T.g G.T.b G.T.builtins G.T.nolimit hg uU hints (Y5 hlen eA) hr hF hb (λH hO hS=>gq w H a ns hlen hO hS) λH e s'=>vE w H aQ e s'
def inClass(s:Stmt)(j:Nat):Stmt:=match s with
 |.ClassDef _ _ _ body _ _ _ _ _ _ _=>body.getD j (.Pass ⟨0,0,0,0⟩)
 |_=>.Pass ⟨0,0,0,0⟩
def hG(s:Stmt):Arguments:=match s with
 |.FunctionDef _ a _ _ _ _ _ _ _ _=>a
 |_=>{posonlyargs:=[],args:=[],vararg:=none,kwonlyargs:=[],kw_defaults:=[],kwarg:=none,defaults:=[]}
def eW(s:Stmt):List Stmt:=match s with
 |.FunctionDef _ _ b _ _ _ _ _ _ _=>b
 |_=>[]
def aL(s:Stmt):Scope:=match s with
 |.FunctionDef _ _ _ _ _ _ sc _ _ _=>sc
 |_=>{kind:=.function,names:=[],isGenerator:=false,isCoroutine:=false}
abbrev aT:eD:=λ_ _ _ _ _ _=>False
abbrev E0:XK:=λ_ _ _=>False
theorem uC{X:Cx}:Passes aT X E0:=λ_ _ _ _ _ _ _ h=>h.elim
structure aP(K:ag)(x qual:Str)(st:Stmt)(f:Addr)(fd:FuncData):Prop where
 ex:∃(oc:Value) (od:Option Addr) (kV doc pm:Value) (an:Option Addr) (a_ ct:Value) (ip:Array (Option Value)),
  fd=fnOf x qual (hG st) (eW st) (aL st) .none kV doc pm an a_ ct/\K.lookup f=some ⟨oc,od,.func fd,ip⟩/\codeIn K a_ qual=true
 kp:keepIn K (.ref f)=true
section
variable {P:Program}{w:World}{K:ag}{mg:aG}{base:Heap}
theorem aP.ok{x qual:Str}{st:Stmt}{f:Addr}{fd:FuncData}{N ps:List Str}{k:Nat}{sp:Sp}(F:aP K x qual st f fd)(S:a7 N ps (aL st))(len:∀vs H Q E,sp vs H Q E->vs.length=ps.length)
  (jD:∀(a_:Value) (A:Around) (outer:List Env) (s:Shared) (H:Hp) (vs:List V) (Q:VK) (E:XK),bK k (A.deeper (envOfC qual (aL st) s.heap.objs.size f a_))->sp vs H Q E->
   ∃t,dn (fF aT P w K mg base N qual (aL st) f a_ A outer s H E).nD (eW st) t/\t {nx:=λ_ H'=>Q .aD H',rt:=Q} (start N vs) H):aH P w K mg base aT (k+1) f fd ps sp:=by
 obtain⟨oc,od,kV,doc,pm,an,a_,ct,ip,rfl,lk,dD⟩:=F.ex;refine As lk dD S len λA outer s H vs Q E hr gq=>?_;obtain⟨t,h,q⟩:=jD a_ A outer s H vs Q E hr gq;exact⟨t,h.nD,q⟩
theorem aP.binds{x qual:Str}{st:Stmt}{f:Addr}{fd:FuncData}{ps:List Str}(F:aP K x qual st f fd)
  (h:∀(kV doc pm:Value) (an:Option Addr) (a_ ct:Value) (us:List Value),us.length=ps.length->bindArgs (fnOf x qual (hG st) (eW st) (aL st) .none kV doc pm an a_ ct) ⟨us,[]⟩=pure (ps.zip us)):Binds K fd ps []:=by
 obtain⟨oc,od,kV,doc,pm,an,a_,ct,ip,rfl,lk,dD⟩:=F.ex;exact .all (h kV doc pm an a_ ct)
theorem mJ{x qual:Str}{st:Stmt}{f:Addr}{oc:Value}{od an:Option Addr}{ip:Array (Option Value)}{kV doc pm a_ ct:Value}(l:K.lookup f=some ⟨oc,od,.func (fnOf x qual (hG st) (eW st) (aL st) .none kV doc pm an a_ ct),ip⟩)
  (c:codeIn K a_ qual=true)(k:keepIn K (.ref f)=true):aP K x qual st f (fnOf x qual (hG st) (eW st) (aL st) .none kV doc pm an a_ ct):=⟨⟨oc,od,kV,doc,pm,an,a_,ct,ip,rfl,l,c⟩,k⟩
end
theorem bC{A:Around}{k:Nat}(hr:bK k A):A.units+1<cLine:=Wj (Nat.add_le_add_left (by decide:1<=64) _) hr.units
theorem fA{n:Nat}(h:n<=1000):n<sizeLine:=Wj h (by decide)
section
variable {X:Cx}
theorem pv(i:Nat){x:Str}{pos:Pos}(hN:X.N[i]?=some x:=by rfl)(hv:lh X.env.scope x:=by first|exact Or.inl rfl|exact Or.inr (Or.inl rfl)|exact Or.inr (Or.inr rfl))(hd:(x==("__debug__":Str))=false:=by decide)
  (dD:(x==("__classdict__":Str))=false:=by decide):PE X (.Name x pos) (c_ i):=Gx hN hv hd dD
end
theorem bT{A B:Prop}(h:B):if false=true then A else B:=by
 grind
theorem cg{A B:Prop}(h:A):if true=true then A else B:=by
 grind
theorem bR{c A B:Prop}[Decidable c](h1:c->A)(h2:¬c->B):if c then A else B:=by
 grind
theorem uD{c A B:Prop}[Decidable c](hc:c)(h:B):if(!decide c)=true then A else B:=by
 grind
def ah(H H':Hp):Prop:=∀b o,H b=some o->H' b=some o
theorem ah.refl(H:Hp):ah H H:=λ_ _ h=>h
theorem ah.trans{H H1 H2:Hp}(a:ah H H1)(b:ah H1 H2):ah H H2:=λc o h=>b c o (a c o h)
theorem ah.free{H H':Hp}(e:ah H H'){l:Addr}(h:H' l=Option.none):H l=Option.none:=by
 cases q:H l with
 |none=>rfl
 |some o=>
  rw[e l o q] at h;cases h
theorem ah.seq{K:ag}{H H':Hp}{a:Addr}{xs:List V}(e:ah H H')(h:ak K H a xs):ak K H' a xs:=by
 rcases h with(h|⟨o,h⟩)|h;·exact .inl (.inl (e _ _ h))
 ·exact .inl (.inr ⟨o,e _ _ h⟩)
 ·exact .inr h
def iS(cells:List (Str×Addr)):List (Str×Addr)->Prop
 |[]=>True
 |p::r=>cells.lookup p.1=some p.2/\iS cells r
theorem iS.look:∀{cl:List (Str×Addr)},iS cells cl->∀(x:Str) (c:Addr),cl.lookup x=some c->cells.lookup x=some c
 |[],_,x,c,h=>by simp at h
 |(n,a)::r,hh,x,c,h=>by
  rw[Ws] at h;cases e:x==n with
  |true=>
   rw[e] at h;rw[(eq_of_beq e),←(Yb h)];exact hh.1
  |false=>
   rw[e] at h;exact iS.look hh.2 x c h
theorem rP{env:Env}:∀{names:List (Str×NameKind)} {x:Str} {k:NameKind},
  (names.map λ(n,k)=>if(k==NameKind.free&&env.scope.kind==.function&&env.kindOf n==some .cell) then(n,NameKind.cell) else(n,k)).lookup x=some k->
  ∃k0,(x,k0)∈names/\(k=k0\/k0=.free)
 |[],_,_,h=>by simp at h
 |(n,k0)::r,x,k,h=>by
  have h:List.lookup x ((if(k0==NameKind.free&&env.scope.kind==.function&&env.kindOf n==some .cell)=true then(n,NameKind.cell) else(n,k0))::(r.map λ(n,k)=>if(k==NameKind.free&&env.scope.kind==.function&&env.kindOf n==some .cell) then(n,NameKind.cell) else(n,k)))=some k:=h;by_cases hc:(k0==NameKind.free&&env.scope.kind==.function&&env.kindOf n==some .cell)=true
  ·rw[if_pos hc,Ws] at h;cases e:x==n with
   |true=>grind
   |false=>
    rw[e] at h;obtain⟨k1,m,q⟩:=rP h
    grind
  ·rw[if_neg hc,Ws] at h;cases e:x==n with
   |true=>grind
   |false=>
    rw[e] at h;obtain⟨k1,m,q⟩:=rP h
    grind
structure zF(X:Cx)(scope:Scope)(cl:List (Str×Addr))(y:Str)(j:Nat):Prop where
 ix:X.N[j]?=some y
 out:X.env.kindOf y=some .cell\/X.env.kindOf y=some .free
 J1:(relabel scope X.env).names.lookup y=some .cell\/(relabel scope X.env).names.lookup y=some .free
 cl:(cl.lookup y).isSome=true
def iU(X:Cx)(scope:Scope)(cl:List (Str×Addr)):List (Str×Nat)->Prop
 |[]=>True
 |p::r=>zF X scope cl p.1 p.2/\iU X scope cl r
theorem iU.get:∀{fr:List (Str×Nat)} {k:Nat} {p:Str×Nat},iU X scope cl fr->fr[k]?=some p->zF X scope cl p.1 p.2
 |[],k,p,_,h=>by simp at h
 |q::r,0,p,hh,h=>by
  have e:q=p:=by simpa using h
  rw[←e];exact hh.1
 |q::r,k+1,p,hh,h=>iU.get hh.2 (by simpa using h)
structure l4(X:Cx)(scope:Scope)(cl:List (Str×Addr))(x:Str)(fr:List (Str×Nat)):Prop where
 m8:closureFor scope X.env=pure cl
 sub:iS X.env.cells cl
 kind:scope.kind=.function
 names:∀y∈scope.names,y.2=.local->scope.names.lookup y.1=some .local
 lx:scope.names.lookup x=some .local
 pe:∀y∈scope.names,y.2≠.cell
 has:(scope.names.all λy=>!(y.2==.free)||(cl.lookup y.1).isSome)=true
 cP:iU X scope cl fr
 nd:(x::fr.map (·.1)).Nodup
def eX(σ:St)(fr:List (Str×Nat)):St:=fr.map λp=>(σ[p.2]?).join
structure kC(X:Cx)(scope:Scope)(cl:List (Str×Addr))(xs:List Str)(fr:List (Str×Nat)):Prop where
 m8:closureFor scope X.env=pure cl
 sub:iS X.env.cells cl
 kind:scope.kind=.function
 names:∀y∈scope.names,y.2=.local->scope.names.lookup y.1=some .local
 pe:∀y∈scope.names,y.2≠.cell
 has:(scope.names.all λy=>!(y.2==.free)||(cl.lookup y.1).isSome)=true
 cP:iU X scope cl fr
 nd:(xs++fr.map (·.1)).Nodup
def cW(X:Cx)(xs:List Str)(fr:List (Str×Nat))(scope:Scope)(cl:List (Str×Addr))(C:Addr)(s:Shared)(H:Hp)(fp:List Addr):Cx where
 prog:=X.prog
 w:=X.w
 K:=X.K
 mg:=X.mg
 base:=X.base
 A:=X.A
 N:=xs++fr.map (·.1)
 bS:=s
 mZ:=H
 env:=compEnvC scope cl C X.env
 outer:=X.stack
 stack:=X.stack
 ex:=fp
 fn:=λ_=>false
 calm:=X.calm
 pn:=[]
 xe:=λ_ _=>False
section
variable {X:Cx}{scope:Scope}{cl:List (Str×Addr)}{xs:List Str}{fr:List (Str×Nat)}{pins:aB}{σ:St}{H:Hp}{s:Shared}
theorem Ew(S:kC X scope cl xs fr)(I:Inv X pins σ H s)(hC:C=s.heap.objs.size)(hf:∀b∈fp,e_ X pins H b)(bE:∀b∈fp,b<s.heap.objs.size)
  (old:∀b o,s.heap.get? b=some o->h₁.get? b=some o)(hn:h₁.Ns C m):Inv (cW X xs fr scope cl C s H fp) [] (List.replicate xs.length none++eX σ fr) H {s with heap:=h₁,toks:=tk}:=by
 have look:=S.sub.look;refine⟨⟨I.ok.mod,S.kind,I.ok.glob,I.ok.blt,by show s.heap.objs.size<=C;rw[hC];exact Yd _,λy z c h1 h2=>I.ok.inj y z c (look y c h1) (look z c h2),λy hy=>?_,λy c h=>?_,I.ok.hd,I.ok.frames,.inl rfl,λb hb=>⟨?_,λy c h=>?_⟩,
   I.bs,Y5 I.ok.ik I.sz,λb o e hb=>?_,λb hb J2=>?_,I.stack,I.yC⟩,
  rfl,I.bare,Un.kept old,⟨m,hn,λi y v h1 h2 h3=>?_⟩,λy c h=>?_,?_,λy c h=>I.fX y c (look y c h),λp hp=>absurd (show p∈([]:aB) from hp) (by simp),I.ar.kept old,?_⟩
 ·have hy:(relabel scope X.env).names.lookup y=some .cell\/(relabel scope X.env).names.lookup y=some .free:=hy;have fin:∀{k:NameKind},(relabel scope X.env).names.lookup y=some k->(k=.cell\/k=.free)->∃c,cl.lookup y=some c:=λ{k} e hk=>by
   obtain⟨k0,hm,q⟩:=rP (env:=X.env) e;have qp:k0=.free:=by
    rcases q with q|q
    ·rcases hk with z|z;·exact absurd (q.symm.trans z) (S.pe _ hm)
     ·exact q.symm.trans z
    ·exact q
   have hq:=Jf.mp S.has _ hm;rw[qp] at hq;exact Wo.mp (by simpa using hq)
  rcases hy with e|e;·exact fin e (.inl rfl)
  ·exact fin e (.inr rfl)
 ·exact absurd (show false=true from h) Yg
 ·show b≠C;exact λz=>absurd (bE b hb) (by rw[show b=C from z,hC];exact Wi _)
 ·exact(hf b hb).2.2.2.2.1 y c (look y c h)
 ·obtain⟨_,_,_,z,_⟩:=hf b hb;rcases z with z|z;·exact I.ok.m3 b o e z
  ·have h1:=Yn e;have h2:=I.ok.ik;exact absurd (Yr h1 (Y5 h2 z)) (Wi _)
 ·have z:=I.t7 b J2;rcases Yw.mp z with z|z;·exact(hf b hb).2.1 z
  ·exact(hf b hb).2.2.1 z
 ·by_cases hi:i<xs.length;·grind
  ·have h1:(xs++fr.map (·.1))[i]?=some y:=h1;rw[Wf (Nat.le_of_not_lt hi)] at h1;rw[Wf (by rw[Wv];exact Nat.le_of_not_lt hi),Wv] at h2;generalize i-xs.length=k at h1 h2;have h2:(fr.map λp=>(σ[p.2]?).join)[k]?=some (some v):=h2;rw[Ye] at h1 h2;cases e:fr[k]? with
   |none=>rw[e] at h1;cases h1
   |some p=>
    rw[e] at h1 h2;have e1:p.1=y:=Yb h1;have e2:(σ[p.2]?).join=some v:=Yb h2;have F:=S.cP.get e;rw[e1] at F;have e3:σ[p.2]?=some (some v):=by
     cases q:σ[p.2]? with
     |none=>rw[q] at e2;cases e2
     |some o=>grind
    obtain⟨m0,_,hl⟩:=I.loc;have vC:lh X.env.scope y:=by
     rcases F.out with z|z;·exact .inr (.inl z)
     ·exact .inr (.inr z)
    obtain⟨u,r,l⟩:=hl p.2 y v F.ix e3 vC;refine⟨u,r,.inr ⟨F.J1,?_⟩⟩;obtain⟨c,hc⟩:=Wo.mp F.cl;refine⟨c,hc,?_⟩;rcases l with⟨k1,_⟩|⟨_,c',e',z⟩
    ·rcases F.out with q|q;·rw[q] at k1;cases k1
     ·rw[q] at k1;cases k1
    ·have e4:=look y c hc;rw[e'] at e4;cases e4;obtain⟨o,ho,hd⟩:=z;exact⟨o,old _ _ ho,hd⟩
 ·obtain⟨v,o,ho,hd⟩:=I.cell y c (look y c h);exact⟨v,o,old _ _ ho,hd⟩
 ·show H C=none;rw[hC];exact I.ar.fresh (Yd _)
 ·show(List.replicate xs.length none++eX σ fr).length=(xs++fr.map (·.1)).length;simp[eX]
end
abbrev kQ(X:Cx)(x:Str)(fr:List (Str×Nat))(scope:Scope)(cl:List (Str×Addr))(C:Addr)(s:Shared)(H:Hp)(fp:List Addr):Cx:=cW X [x] fr scope cl C s H fp
section
variable {prog:Program}{w:World}{A:Around}{R:Result->Shared->Prop}{s:Shared}
theorem CP(I:Nat->Shared->Prop)
  (turn:∀n s,I n s->wpAny (model prog w) A (pyNext it) (λr aQ=>match r with
   |none=>R (.ok .next) aQ
   |some v=>wpAny (model prog w) A (letOwnedTupleGo target it v) (λ_ bS=>wpAny (model prog w) A (assign target env v) (λ_ d9=>
     wpAny (model prog w) A (forIn ifs true λc r=>if r=true then do let ok←isTrue c env (eval c env);pure (ForInStep.yield ok) else pure (ForInStep.yield r)) (λok cS=>
      if ok=true then wpAny (model prog w) A (eval elt env) (λx i9=>
       wpAny (model prog w) A (call (.builtin "list.append") [acc,x]) (λ_ A3=>∃m,m<n/\I m A3) (notedBy (model prog w) A env λe s'=>R (.error e) s') i9) (notedBy (model prog w) A env λe s'=>R (.error e) s') cS
      else ∃m,m<n/\I m cS) (notedBy (model prog w) A env λe s'=>R (.error e) s') d9) (notedBy (model prog w) A env λe s'=>R (.error e) s') bS) (notedBy (model prog w) A env λe s'=>R (.error e) s') aQ) (notedBy (model prog w) A env λe s'=>R (.error e) s') s)
  (n:Nat)(h:I n s):codeAny (model prog w) A (.compLoop (.ListComp elt [⟨target,iter,ifs,0⟩] scope pos) 0 it acc env) R s:=by
 refine codeAny_loop rfl I (λn s hI=>wpAny_noted (wpAny_bind (wpAny_standAt (wpAny_bind (wpAny_mono (turn n s hI) (λr aQ h₁=>?_) λ_ _ h'=>h'))))) n h;cases r with
 |none=>exact wpAny_pure h₁
 |some v=>
  refine wpAny_bind (wpAny_mono h₁ (λ_ bS h₀=>wpAny_bind (wpAny_mono h₀ (λ_ d9 m9=>wpAny_bind (wpAny_mono m9 (λok cS pN=>?_) λ_ _ h'=>h')) λ_ _ h'=>h')) λ_ _ h'=>h');cases ok with
  |false=>exact wpAny_pure ⟨rfl,pN⟩
  |true=>
   exact wpAny_bind (wpAny_bind (wpAny_mono pN (λx i9 IZ=>wpAny_bind (wpAny_mono IZ (λ_ A3 I0=>wpAny_pure (wpAny_pure ⟨rfl,I0⟩)) λ_ _ h'=>h')) λ_ _ h'=>h'))
end
def j4(X:Cx)(ifs:List Expr)(t:TT):Prop:=
 ∀(pins:aB) (s:Shared) (σ:St) (H:Hp) (Q:Bool->Hp->Prop),Inv X pins σ H s->t σ H Q->
  wpAny X.md X.A (forIn ifs true λc r=>if r=true then do let ok←isTrue c X.env (eval c X.env);pure (ForInStep.yield ok) else pure (ForInStep.yield r)) (TP X pins σ Q) X.xe s
def uW:TT:=λ_ H Q=>Q true H
theorem fT:j4 X [] uW:=λ_ _ _ H _ I h=>wpAny_tests_nil ⟨H,I,h⟩
theorem FQ(h:PT X c t):j4 X [c] t:=λpins s σ H Q I hw=>wpAny_tests_one (h pins s σ H Q I hw)
def ud(n:Nat)(J:It)(tg:TG)(tt:TT)(te:TE)(fv:St)(D:Addr)(H:Hp)(Q:VK):Prop:=
 ∃W:Nat->Nat->List V->Hp->Prop,(∃m,W 0 m [] (upd H D (.lst [])))/\∀i m ys H,W i m ys H->
  (J.stop i H/\Q (.ref D) H)\/(J.go i H/\∃N:List V->Hp->Prop,(∀iq H',N iq H'->∃m',m'<m/\W (i+1) m' iq H')/\
   ∀v H',J.jY i H v H'->∀os:St,os.length=n->tg v (os++fv) H' λcL H2=>(∃lB:St,lB.length=n/\cL=lB++fv)/\tt cL H2 λc H1=>if c=true then te cL H1 λy H3=>H3 D=some (.lst ys)/\ys.length<sizeLine/\N (ys++[y]) (upd H3 D (.lst (ys++[y]))) else N ys H1)
section
variable {X:Cx}{elt iter fL:Expr}{xs:List Str}{pos:Pos}{ifs:List Expr}{scope:Scope}{cl:List (Str×Addr)}{fr:List (Str×Nat)}{tg:TG}{tt:TT}{te:TE}{pins:aB}{σ:St}
theorem EX{H2:Hp}{s2:Shared}{it:Addr}{fp:List Addr}{tn:Nat->Heap->Prop}{J:It}{Q:VK}{RR:Value->Addr->Result->Shared->Prop}{E:aE}{rest:List Comprehension}(S:kC X scope cl xs fr)
  (I2:Inv X pins σ H2 s2)(T:Turn X.prog X.w X.K fL J fp it tn)(dU:tn 0 s2.heap)(f2:∀b∈fp,e_ X pins H2 b)
  (hR:∀D C s1 H1 m,Inv X pins σ H1 s1->s1.heap.Ns C m->H1 C=none->C≠X.env.locals->X.bS.heap.objs.size<=C->(∀y c,X.env.cells.lookup y=some c->c≠C)->(∀p∈X.pn++pins,p.1≠C)->Q (.ref D) H1->RR (.ref D) C (.ok .next) s1)
  (hl:∀(D C:Addr) (s:Shared) (H3:Hp) (cS:Shared),H2 D=none->H3=upd H2 D (.lst [])->Inv (cW X xs fr scope cl C s H3 fp) [] (List.replicate xs.length none++eX σ fr) H3 cS->tn 0 cS.heap->(∀b∈fp,H3 b=none)->
   (∀s6 qi H5,Inv (cW X xs fr scope cl C s H3 fp) [] qi H5 s6->Q (.ref D) H5->RR (.ref D) C (.ok .next) s6)->
   codeAny X.md X.A (.compLoop (.ListComp elt (⟨fL,iter,ifs,0⟩::rest) scope pos) 0 (.ref it) (.ref D) (compEnvC scope cl C X.env)) (RR (.ref D) C) cS):
  wpAny X.md X.A (newList []) (λacc cS=>wpAny X.md X.A (newFunctionEnv scope X.env.globals cl [] X.env.qual none .none (some X.env)) (λi_ i9=>
   codeAny X.md X.A (.compStart (.ListComp elt (⟨fL,iter,ifs,0⟩::rest) scope pos) 0 (.ref it) acc {i_ with scope:=relabel scope X.env}) (RR acc i_.locals) i9) E cS) E s2:=by
 refine wpAny_newObj_type (wpAny_newFunctionEnv S.pe (by intro y hy;simp at hy) (λh₁ ue uf=>?_) S.kind);dsimp only at ue uf⊢;have I3:Inv X pins σ (upd H2 s2.heap.objs.size (.lst [])) {s2 with heap:=s2.heap.push {cls:=.type "list",dict:=none,data:=.seq ([]:List Value).toArray}}:=
  I2.laid (t':=s2.toks) (λb u e=>Yc _ e) (Yd _) ⟨Y2 _,[],0,.nil,Ym _ rfl⟩
 have J3:H2 s2.heap.objs.size=none:=I2.ar.fresh (Yd _);have A4:∀b∈fp,b<s2.heap.objs.size:=λb hb=>by
  obtain⟨o,e,_⟩:=T.obj _ _ dU b hb;exact Yn e
 generalize BN:s2.heap.push {cls:=.type "list",dict:=none,data:=.seq ([]:List Value).toArray}=G2 at ue uf I3⊢;have hC:G2.objs.size=s2.heap.objs.size+1:=by rw[←BN,Heap.size_push]
 have old:∀b o,G2.get? b=some o->h₁.get? b=some o:=λb o e=>uf.extBut b o (Yz (Yn e)) (Yc _ e);have f3:∀b∈fp,e_ X pins (upd H2 s2.heap.objs.size (.lst [])) b:=λb hb=>by
  have:=A4 b hb;exact⟨by rw[aU (Yz this)];exact(f2 b hb).1,(f2 b hb).2⟩
 have J4:∀b∈fp,b<G2.objs.size:=λb hb=>by
  rw[hC];exact Nat.lt_succ_of_lt (A4 b hb)
 have qr:tn 0 h₁:=T.keep _ _ _ dU λb hb o e=>old b o ((λb o e=>BN▸Yc _ e) b o e);have I4:Inv (cW X xs fr scope cl G2.objs.size {s2 with heap:=G2} (upd H2 s2.heap.objs.size (.lst [])) fp) [] (List.replicate xs.length none++eX σ fr) (upd H2 s2.heap.objs.size (.lst [])) {s2 with heap:=h₁,toks:=s2.toks+([]:List (Str×Value)).length}:=
  Ew (tk:=s2.toks+([]:List (Str×Value)).length) S I3 rfl f3 J4 old ue
 have loop:=hl s2.heap.objs.size G2.objs.size {s2 with heap:=G2} _ {s2 with heap:=h₁,toks:=s2.toks+([]:List (Str×Value)).length} J3 rfl I4 qr (λb hb=>(f3 b hb).1) λs6 qi H5 I6 qn=>by
   obtain⟨m,J5,_⟩:=I6.loc;have I7:Inv X pins σ H5 s6:=I3.Hv (ch:=fp) I6.os I6.base I6.ar I6.bare λb hb=>⟨(f2 b hb).2.2.2.1,(f2 b hb).2.1,(f2 b hb).2.2.2.2.1,(f2 b hb).2.2.2.2.2⟩;refine hR _ _ s6 H5 m I7 J5 I6.free ?_ ?_ (λy c e z=>?_) (λp hp z=>?_) qn;·exact Nat.ne_of_gt I3.lt
   ·exact I3.sz
   ·obtain⟨v,q⟩:=I3.cell y c e;exact absurd q.lt (by rw[z];exact Wi _)
   ·exact absurd (Yn (I3.pin p hp).1) (by rw[z];exact Wi _)
 exact codeAny_compStart_list loop (T.self _ 0 _ _ _ qr loop)
theorem xr{H2:Hp}{s2:Shared}{it:Addr}{fp:List Addr}{tn:Nat->Heap->Prop}{J:It}{Q:VK}{RR:Value->Addr->Result->Shared->Prop}{E:aE}
  (hc:X.calm=true)(S:kC X scope cl xs fr)(hg:∀C s H fp,PG (cW X xs fr scope cl C s H fp) fL tg)
  (ht:∀C s H fp,j4 (cW X xs fr scope cl C s H fp) ifs tt)(he:∀C s H fp,PE (cW X xs fr scope cl C s H fp) elt te)
  (I2:Inv X pins σ H2 s2)(T:Turn X.prog X.w X.K fL J fp it tn)(dU:tn 0 s2.heap)(f2:∀b∈fp,e_ X pins H2 b)
  (hw:∀D,H2 D=none->ud xs.length J tg tt te (eX σ fr) D H2 Q)
  (hR:∀D C s1 H1 m,Inv X pins σ H1 s1->s1.heap.Ns C m->H1 C=none->C≠X.env.locals->X.bS.heap.objs.size<=C->(∀y c,X.env.cells.lookup y=some c->c≠C)->(∀p∈X.pn++pins,p.1≠C)->Q (.ref D) H1->RR (.ref D) C (.ok .next) s1):
  wpAny X.md X.A (newList []) (λacc cS=>wpAny X.md X.A (newFunctionEnv scope X.env.globals cl [] X.env.qual none .none (some X.env)) (λi_ i9=>
   codeAny X.md X.A (.compStart (.ListComp elt [⟨fL,iter,ifs,0⟩] scope pos) 0 (.ref it) acc {i_ with scope:=relabel scope X.env}) (RR acc i_.locals) i9) E cS) E s2:=by
 refine EX (rest:=[]) S I2 T dU f2 hR λD C s H3 cS hD e3 I4 qr qg fin=>?_;obtain⟨W,⟨m0,w0⟩,turn⟩:=hw D hD;rw[←e3] at w0;refine CP (λk s'=>∃i ys H' os,os.length=xs.length/\Inv (cW X xs fr scope cl C s H3 fp) [] (os++eX σ fr) H' s'/\tn i s'.heap/\(∀b∈fp,H' b=none)/\W i k ys H') ?_ m0
  ⟨0,[],_,List.replicate xs.length none,Wv,I4,qr,qg,w0⟩
 rintro n s5 ⟨i,ys,H5,os,vF,I5,lr,qh,w5⟩;have jJ:∀{H':Hp},(∀b∈fp,H' b=none)->∀b∈fp,e_ (cW X xs fr scope cl C s H3 fp) [] H' b:=λ{H'} hn b hb=>
  ⟨hn b hb,(I5.ok.qa b hb).1,I5.ok.m4 b hb,.inl hb,(I5.ok.qa b hb).2,λp hp=>absurd (show p∈([]:aB) from hp) (by simp)⟩
 rcases turn i n ys H5 w5 with⟨stop,qn⟩|⟨go,N,hN,step⟩
 ·refine av (T.done (cW X xs fr scope cl C s H3 fp) rfl rfl rfl hc i [] s5 _ H5 _ I5 (jJ qh) lr stop) λr s6 zq=>?_;obtain⟨hr,I6⟩:=zq;subst hr;exact fin _ _ _ I6 qn
 ·refine av (T.item (cW X xs fr scope cl C s H3 fp) rfl rfl rfl hc i [] s5 _ H5 _ I5 (jJ qh) lr go) λr s6 zq=>?_;obtain⟨u,hr,h6⟩:=zq;subst hr;refine av h6 λ_ s7 zq=>?_;obtain⟨v,H7,I7,r7,y7,vG,J6⟩:=zq;have J7:=I7.pinned (jJ J6) (T.obj _ _ vG);refine wpAny_mono (hg _ _ _ _ _ s7 _ H7 v u _ J7 r7 (step v H7 y7 os vF)) (λ_ s8 zq=>?_) λ_ _ z=>False.elim z;obtain⟨M7,H8,I8,⟨lB,A5,e8⟩,q8⟩:=zq;subst e8;have again:∀{qt:St} {H9:Hp} {s9:Shared} {qu:List V},qt.length=xs.length->Inv (cW X xs fr scope cl C s H3 fp) ([]++mF fp s7.heap) (qt++eX σ fr) H9 s9->N qu H9->
    ∃m,m<n/\∃i ys H' os,os.length=xs.length/\Inv (cW X xs fr scope cl C s H3 fp) [] (os++eX σ fr) H' s9/\tn i s9.heap/\(∀b∈fp,H' b=none)/\W i m ys H':=λ{qt H9 s9 qu} l1 I9 n9=>by
   obtain⟨m',hm,w9⟩:=hN qu H9 n9;refine⟨m',hm,i+1,qu,H9,qt,l1,I9.oG,T.keep _ _ _ vG λb hb o e=>(I9.pin (b,o) (Ys _ (Ys _ (oo hb e)))).1,λb hb=>?_,w9⟩;obtain⟨o,e,d⟩:=T.obj _ _ vG b hb;exact(I9.pin (b,o) (Ys _ (Ys _ (oo hb e)))).2.1
  refine wpAny_mono (ht _ _ _ _ _ s8 _ H8 _ I8 q8) (λok s9 zq=>?_) λ_ _ z=>False.elim z;obtain⟨H9,I9,q9⟩:=zq;cases ok with
  |false=>
   rw[if_neg Yg] at q9⊢;exact again A5 I9 q9
  |true=>
   rw[if_pos rfl];rw[if_pos rfl] at q9;refine wpAny_mono (he _ _ _ _ _ s9 _ H9 _ I9 q9) (λu1 J8 zq=>?_) λ_ _ z=>False.elim z;obtain⟨y,BO,J9,J_,hD,hz,Ka⟩:=zq;refine wpAny_mono (oB (X:=cW X xs fr scope cl C s H3 fp) _ J8 _ BO (.ref D) [y] _ [u1] (λ_ H'=>N (ys++[y]) H') J9 rfl (.cons J_ .nil) ⟨_,ys,y,rfl,rfl,hD,hz,Ka⟩) (λ_ M8 zq=>?_) λ_ _ z=>False.elim z;obtain⟨_,M9,Kb,_,Kc⟩:=zq;exact again A5 Kb Kc
end
def i3(J:It)(tt:TT)(te:TE)(fv:St)(D:Addr)(H:Hp)(Q:VK):Prop:=
 ∃W:Nat->Nat->List V->Hp->Prop,(∃m,W 0 m [] (upd H D (.lst [])))/\∀i m ys H,W i m ys H->
  (J.stop i H/\Q (.ref D) H)\/(J.go i H/\∃N:List V->Hp->Prop,(∀iq H',N iq H'->∃m',m'<m/\W (i+1) m' iq H')/\
   ∀v H',J.jY i H v H'->tt (some v::fv) H' λc H1=>if c=true then te (some v::fv) H1 λy H3=>H3 D=some (.lst ys)/\ys.length<sizeLine/\N (ys++[y]) (upd H3 D (.lst (ys++[y]))) else N ys H1)
section
variable {X:Cx}{elt iter:Expr}{x:Str}{px pos:Pos}{ifs:List Expr}{scope:Scope}{cl:List (Str×Addr)}{fr:List (Str×Nat)}{tt:TT}{te:TE}{pins:aB}{σ:St}
theorem xS{H2:Hp}{s2:Shared}{it:Addr}{fp:List Addr}{tn:Nat->Heap->Prop}{J:It}{Q:VK}{RR:Value->Addr->Result->Shared->Prop}{E:aE}
  (hc:X.calm=true)(S:l4 X scope cl x fr)
  (ht:∀C s H fp,j4 (kQ X x fr scope cl C s H fp) ifs tt)(he:∀C s H fp,PE (kQ X x fr scope cl C s H fp) elt te)
  (I2:Inv X pins σ H2 s2)(T:Turn X.prog X.w X.K (.Name x px) J fp it tn)(dU:tn 0 s2.heap)(f2:∀b∈fp,e_ X pins H2 b)
  (hw:∀D,H2 D=none->i3 J tt te (eX σ fr) D H2 Q)
  (hR:∀D C s1 H1 m,Inv X pins σ H1 s1->s1.heap.Ns C m->H1 C=none->C≠X.env.locals->X.bS.heap.objs.size<=C->(∀y c,X.env.cells.lookup y=some c->c≠C)->(∀p∈X.pn++pins,p.1≠C)->Q (.ref D) H1->RR (.ref D) C (.ok .next) s1):
  wpAny X.md X.A (newList []) (λacc cS=>wpAny X.md X.A (newFunctionEnv scope X.env.globals cl [] X.env.qual none .none (some X.env)) (λi_ i9=>
   codeAny X.md X.A (.compStart (.ListComp elt [⟨.Name x px,iter,ifs,0⟩] scope pos) 0 (.ref it) acc {i_ with scope:=relabel scope X.env}) (RR acc i_.locals) i9) E cS) E s2:=by
 refine xr (xs:=[x]) hc ⟨S.m8,S.sub,S.kind,S.names,S.pe,S.has,S.cP,S.nd⟩ (λC s H fp=>jA (i:=0) S.nd rfl (.inl (lookup_relabel_local S.lx)) (.inr (lookup_relabel_local S.lx))) ht he I2 T dU f2 (λD hD=>?_) hR;obtain⟨W,h0,h⟩:=hw D hD;refine⟨W,h0,λi m ys H p=>?_⟩;rcases h i m ys H p with z|⟨z,N,hN,q⟩;·exact .inl z
 ·refine .inr ⟨z,N,hN,λv H' y os hl=>?_⟩;match os,hl with
  |[o],_=>exact⟨⟨[some v],rfl,rfl⟩,q v H' y⟩
def Av(wi:TI)(fr:List (Str×Nat))(tt:TT)(te:TE):TE:=λσ H Q=>wi σ H λJ H1=>∀D,H1 D=none->i3 J tt te (eX σ fr) D H1 Q
theorem iV(hc:X.calm=true)(S:l4 X scope cl x fr)(hi:PI X (.Name x px) iter wi)
  (ht:∀C s H fp,j4 (kQ X x fr scope cl C s H fp) ifs tt)(he:∀C s H fp,PE (kQ X x fr scope cl C s H fp) elt te)
  (hs:∀x,foldedSetIterable iter X.env x=pure x:=by intro _;rfl):PE X (.ListComp elt [⟨.Name x px,iter,ifs,0⟩] scope pos) (Av wi fr tt te):=by
 intro pins s σ H Q I h;refine wpAny_comprehension_free rfl hs S.m8 S.kind S.names (av (hi pins s σ H _ I h) λv s1 h1=>av h1 λnF s2 h2=>?_);obtain⟨it,fp,tn,J,H2,e,I2,T,dU,f2,hw⟩:=h2;subst e;refine xS (RR:=λacc C=>compPost X.md X.A X.xe none (EP X pins σ Q) acc C) hc S ht he I2 T dU f2 hw ?_;intro D C s1 H1 m I1 hn f0 f1 f3 f4 f5 q;exact⟨m,hn,λh' j5=>⟨.ref D,H1,I1.turned (λb o hb e=>j5.extBut b o hb e) f0 f1 (.inr f3) f4 f5,rfl,q⟩⟩
theorem xt(hc:X.calm=true)(hN:X.N.Nodup)(Kd:X.N[i]?=some y)(hy:Loc X.env.scope y)(S:l4 X scope cl x fr)(hi:PI X (.Name x px) iter wi)
  (ht:∀C s H fp,j4 (kQ X x fr scope cl C s H fp) ifs tt)(he:∀C s H fp,PE (kQ X x fr scope cl C s H fp) elt te)
  (Ke:swapsWith (.ListComp elt [⟨.Name x px,iter,ifs,0⟩] scope pos) (some (.Name y py)) I_.line X.env=pure true:=by with_unfolding_all rfl)
  (hf:X.fn y=true\/X.env.scope.names.lookup y=some .local:=by first|exact .inl rfl|exact .inr rfl|assumption)
  (hs:∀x,foldedSetIterable iter X.env x=pure x:=by intro _;rfl):PS X (.Assign [.Name y py] (.ListComp elt [⟨.Name x px,iter,ifs,0⟩] scope pos) I_) (k6 (Av wi fr tt te) (hZ i)):=by
 intro pins s σ H D I h;rw[exec_Assign_Name_used _ _ _ _ Ke];refine wpAny_bind (wpAny_standAt (wpAny_bind ?_));show wpAny _ X.A (do let _←comprehension (.ListComp elt [⟨.Name x px,iter,ifs,0⟩] scope pos) scope X.env _ (newList []) false (eval iter X.env) (some (assign (.Name y py) X.env))) _ _ s;refine wpAny_bind (wpAny_mono (wpAny_comprehension_free (use:=some (assign (.Name y py) X.env)) (Q:=λ_ s'=>SP X pins D .next s') rfl hs S.m8 S.kind S.names
  (av (hi pins s σ H _ I h) λv s1 h1=>av h1 λnF s2 h2=>?_)) (λ_ s' hq=>wpAny_pure (wpAny_pure hq)) λ_ _ e=>e)
 obtain⟨it,fp,tn,J,H2,e,I2,T,dU,f2,hw⟩:=h2;subst e;refine xS (Q:=λv H1=>hZ i v σ H1 D.nx) (RR:=λacc C=>compPost X.md X.A X.xe (some (assign (.Name y py) X.env)) (λ_ s'=>SP X pins D .next s') acc C) hc S ht he I2 T dU f2 hw ?_;intro Dl C s1 H1 m I1 hn f0 f1 f3 f4 f5 q;show wpAny _ X.A (assign (.Name y py) X.env (.ref Dl)) _ _ s1;refine wpAny_assign_Name (xK I1 hN Kd hy (v:=.ref Dl) rfl (λs3 I3 z=>?_) hf);obtain⟨a,sb,ha⟩:=z;have Kg:C≠a:=by
  rcases ha with z|z;·rw[z];exact f1
  ·exact λq=>f4 _ _ z q.symm
 refine⟨m,hn.sameBut sb Kg,λh' j5=>?_⟩;exact⟨_,H1,I3.turned (t':=s3.toks) (λb o hb e=>j5.extBut b o hb e) f0 f1 (.inr f3) f4 f5,q⟩
end
theorem Ex{K:ag}{a:Addr}{xs:List V}{tt:TT}{te:TE}{fv:St}{D:Addr}{H:Hp}{Q:VK}(Pv:Nat->List V->Hp->Prop)(h0:Pv 0 [] (upd H D (.lst [])))(hl:∀i ys H,i<=xs.length->Pv i ys H->ak K H a xs)
  (hs:∀i v ys H,xs[i]?=some v->Pv i ys H->tt (some v::fv) H λc H1=>if c=true then te (some v::fv) H1 λy H3=>H3 D=some (.lst ys)/\ys.length<sizeLine/\Pv (i+1) (ys++[y]) (upd H3 D (.lst (ys++[y]))) else Pv (i+1) ys H1)
  (hd:∀ys H,Pv xs.length ys H->Q (.ref D) H):i3 (ja K a) tt te fv D H Q:=by
 refine⟨λi m ys H=>m=xs.length-i/\i<=xs.length/\Pv i ys H,⟨xs.length,by simp,Y2 _,h0⟩,?_⟩;rintro i m ys H ⟨rfl,hi,p⟩;have q:=hl i ys H hi p;by_cases bE:i<xs.length
 ·refine .inr ⟨⟨xs,xs[i],q,by simp[bE]⟩,Pv (i+1),λiq H' p'=>⟨xs.length-(i+1),by omega,rfl,bE,p'⟩,λx H' y=>?_⟩;obtain⟨e,y⟩:=y
  grind
 ·have e:i=xs.length:=by omega
  subst e;exact .inl ⟨⟨xs,q,Yd _⟩,hd ys H p⟩
theorem tH{K:ag}{a:Addr}{xs:List V}{tt:TT}{te:TE}{fv:St}{D:Addr}{H:Hp}{Q:VK}(Pv:Nat->List V->Hp->Prop)(h0:Pv 0 [] (upd H D (.lst [])))(hl:∀i ys H,i<=xs.length->Pv i ys H->ay K H a xs)
  (hs:∀i v ys H,xs[i]?=some v->Pv i ys H->tt (some v::fv) H λc H1=>if c=true then te (some v::fv) H1 λy H3=>H3 D=some (.lst ys)/\ys.length<sizeLine/\Pv (i+1) (ys++[y]) (upd H3 D (.lst (ys++[y]))) else Pv (i+1) ys H1)
  (hd:∀ys H,Pv xs.length ys H->Q (.ref D) H):i3 (jZ K a) tt te fv D H Q:=by
 refine⟨λi m ys H=>m=xs.length-i/\i<=xs.length/\Pv i ys H,⟨xs.length,by simp,Y2 _,h0⟩,?_⟩;rintro i m ys H ⟨rfl,hi,p⟩;have q:=hl i ys H hi p;by_cases bE:i<xs.length
 ·refine .inr ⟨⟨xs,xs[i],q,by simp[bE]⟩,Pv (i+1),λiq H' p'=>⟨xs.length-(i+1),by omega,rfl,bE,p'⟩,λx H' y=>?_⟩;obtain⟨e,y⟩:=y
  grind
 ·have e:i=xs.length:=by omega
  subst e;exact .inl ⟨⟨xs,q,Yd _⟩,hd ys H p⟩
theorem lY{lo:Int}{n:Nat}{tt:TT}{te:TE}{fv:St}{D:Addr}{H:Hp}{Q:VK}(Pv:Nat->List V->Hp->Prop)(h0:Pv 0 [] (upd H D (.lst [])))
  (hs:∀i ys H,i<n->Pv i ys H->tt (some (.int (lo+i))::fv) H λc H1=>if c=true then te (some (.int (lo+i))::fv) H1 λy H3=>H3 D=some (.lst ys)/\ys.length<sizeLine/\Pv (i+1) (ys++[y]) (upd H3 D (.lst (ys++[y]))) else Pv (i+1) ys H1)
  (hd:∀ys H,Pv n ys H->Q (.ref D) H):i3 (gp lo n) tt te fv D H Q:=by
 refine⟨λi m ys H=>m=n-i/\i<=n/\Pv i ys H,⟨n,by simp,Y2 _,h0⟩,?_⟩;rintro i m ys H ⟨rfl,hi,p⟩;by_cases bE:i<n
 ·refine .inr ⟨bE,Pv (i+1),λiq H' p'=>⟨n-(i+1),by omega,rfl,bE,p'⟩,λx H' y=>?_⟩;obtain⟨e,y⟩:=y
  grind
 ·have e:i=n:=by omega
  subst e;exact .inl ⟨Yd _,hd ys H p⟩
def Jn(K:ag)(tl:TE):TI:=λσ H R=>tl σ H λx H1=>∃a,x=.ref a/\((∃xs,ak K H1 a xs)/\R (ja K a) H1\/(∃xs,ay K H1 a xs)/\R (jZ K a) H1)
theorem GQ(hl:PE X l tl):PI X tg l (Jn X.K tl):=by
 intro pins s σ H R I h;refine av (hl pins s σ H _ I h) λv s1 zq=>?_;obtain⟨x,H1,I1,r1,q1⟩:=zq;obtain⟨a,e,q1⟩:=q1;subst e;cases r1;rcases q1 with⟨⟨xs,hq⟩,q⟩|⟨⟨xs,hq⟩,q⟩
 ·obtain⟨af,rv,p,hz⟩:=I1.list hq;refine wpAny_pyIter_list p.isList ⟨s1.heap.objs.size,[s1.heap.objs.size],_,_,H1,rfl,I1.kept λb o e=>Yc _ e,xM a _,⟨_,Ym _ rfl,rfl,rfl⟩,λb hb=>?_,q⟩;have e:b=s1.heap.objs.size:=by simpa using hb
  subst e;exact I1.m6 (Yd _) (I1.ar.fresh (Yd _))
 ·obtain⟨af,rv,p,hz⟩:=I1.tuple hq;refine wpAny_pyIter_tuple (show s1.heap.IsTuple a af.toArray from p) ⟨s1.heap.objs.size,[s1.heap.objs.size],_,_,H1,rfl,I1.kept λb o e=>Yc _ e,xp a _,⟨_,Ym _ rfl,rfl,rfl⟩,λb hb=>?_,q⟩;have e:b=s1.heap.objs.size:=by simpa using hb
  subst e;exact I1.m6 (Yd _) (I1.ar.fresh (Yd _))
theorem r6:∀{xs:List V} {us:List Value},xs.length=us.length->(∀(i:Nat) (x:V) (u:Value),xs[i]?=some x->us[i]?=some u->RelV x u)->Vals xs us
 |[],[],_,_=>.nil
 |[],_::_,h,_=>by simp at h
 |_::_,[],h,_=>by simp at h
 |x::xs,u::us,h,k=>.cons (k 0 x u rfl rfl) (r6 (by simpa using h) λi y w e1 e2=>k (i+1) y w (by simpa using e1) (by simpa using e2))
theorem DY:∀{bs:List Bool} {us:List Value},Vals (bs.map V.bl) us->us=bs.map Value.bool:=by
 intro bs;induction bs with
 |nil=>intro us r;cases r;rfl
 |cons b bs ih=>
  intro us r;rw[Wk] at r;cases r with
  |cons r t=>
   have e1:_=Value.bool b:=r;rw[e1,ih t];rfl
def a8(n:Nat):List Int:=(List.range n).map λi:Nat=>(i:Int)
theorem cD(n:Nat):(a8 n).length=n:=by simp[a8]
theorem dZ(h:i<n):(a8 n)[i]?=some (i:Int):=by
 unfold a8
 grind
theorem EY(bs:List Bool):(List.range bs.length).any (λi=>bs.getD i false)=bs.any id:=by
 rw[Wu,Jg,Jg];constructor
 ·rintro⟨i,hi,hb⟩;rw[Wa] at hi;have e:bs.getD i false=bs[i]:=by rw[Yt,Yf hi];rfl
  rw[e] at hb;exact⟨bs[i],W0 hi,hb⟩
 ·rintro⟨b,hb,e⟩;obtain⟨i,hi,rfl⟩:=List.mem_iff_getElem.mp hb;refine⟨i,Wa.mpr hi,?_⟩
  grind
theorem Dy:∀{ns ms:List Int},ns.length=ms.length->(List.range ns.length).all (λj=>ns.getD j 0==ms.getD j 0)=decide (ns=ms):=by
 intro ns ms hl;rw[Wu,Jf,decide_eq_true_iff];constructor
 ·intro h;refine List.ext_getElem hl λi h1 h2=>?_;simp_all
 ·grind
section
variable {X:Cx}
def A6(K:ag):List V->Hp->VK->Prop:=λxs H Q=>∃(p:Addr) (bs:List Bool),xs=[.ref p]/\ak K H p (bs.map V.bl)/\Q (.bl (bs.any id)) H
theorem CY(hc:X.calm=true):cf X (.builtin "any") (A6 X.K):=by
 rintro pins s σ H xs us Q I r ⟨p,bs,rfl,hq,q⟩;obtain⟨u,rfl,rx⟩:=vals1 r;cases rx;obtain⟨af,r',pl,hz⟩:=I.list hq;have e:=DY r';subst e;have hl:=pl.isList;have bE:p<s.heap.objs.size:=by obtain⟨_,e,_⟩:=hl;exact Yn e
 refine call_any_walk (wpAny_pyIter_list hl ⟨s.heap.objs.size,_,_,_,_,_,λi=>bs.getD i false,rfl,Walks.list (show X.A.in1.handled=none from I.ok.hd hc) s.heap.objs.size p (Yz bE) (bs.map Value.bool).toArray,⟨⟨_,Ym _ rfl,rfl,rfl⟩,hl.push _⟩,?_,λh' tk hk=>?_⟩)
 ·intro i v s' Q' E' hP hQ;have vH:(bs.map Value.bool)[i]?=some v:=by simpa using hP
  rw[Ye] at vH;cases e:bs[i]? with
  |none=>grind
  |some b=>
   rw[e] at vH;have ev:=Yb vH;subst ev;refine wpAny_truthy_bool ?_
   grind
 ·refine⟨.bl (bs.any id),H,I.kept (λb o e=>hk b o (by simpa using Yz (Yn e)) (Yc _ e)),?_,q⟩;show Value.bool _=Value.bool _;have e:(bs.map Value.bool).toArray.size=bs.length:=by simp
  rw[e,EY]
inductive zG(K:ag)(xs:List V)(H:Hp)(Q:VK):Prop
 |mk (x:V) (t:Value) (c:String) (b:Bool) (aC:xs=[x,.ty c]) (aI:d_ K H x t) (aW:kitOne K t (.type c)=some b) (bt:Q (.bl b) H):zG K xs H Q
def pO(K:ag):List V->Hp->VK->Prop:=λxs H Q=>zG K xs H Q
theorem Dz:cf X (.builtin "isinstance") (pO X.K):=by
 rintro pins s σ H xs us Q I r ⟨x,t,c,b,rfl,ty,e,q⟩;obtain⟨u,w',rfl,rx,ry⟩:=vals2 r;cases ry;exact Eo I rx ty e λtk=>⟨.bl b,H,I.tok tk,rfl,q⟩
theorem xu(hT:T="list"\/T="tuple")
  (ho:s.heap.get? l=some o)(hc:o.cls=.type T)(hd:o.data=.seq af.toArray n)(hI:IntsAre af ns)(jh:af.length<64)(hsz:af.toArray.size<=sizeLine)
  (h:∀(h1 h':Heap) (out:Array Value) (cI:List Int) (e:Nat),(∀b o,s.heap.get? b=some o->h1.get? b=some o)->(∀b o,h1.get? b=some o->h'.get? b=some o)->h'.get? h1.objs.size=some (seqObj "list" out e)->IntsAre out.toList cI->cI.Perm ns->cI.Pairwise (·<=·)->Q (.ref h1.objs.size) {s with heap:=h'}):
  wpAny (model prog w) A (call (.builtin "sorted") [.ref l]) Q E s:=by
 refine Calls.call_function_entry kind_sorted plain_sorted entry_sorted (args_sorted1 _) (wpAny_bind (wpAny_pure ?_));refine wpAny_bind (wpAny_collect_seq l hT ho hc hd (λh1 kp=>wpAny_bind (wpAny_newList ?_)) hsz);have e1:af.toArray.toList=af:=by simp
 rw[e1];have nC:(h1.push (seqObj "list" af.toArray 0)).get? h1.objs.size=some (seqObj "list" af.toArray 0):=Ym _ rfl;refine wpAny_bind (wpAny_holding (wpAny_call_entry slot_list_sort ⟨_,nC,rfl⟩ entry_list_sort (list_sort_tree nC hI jh λout cI a1 a2 a3=>⟨_,rfl,?_⟩) (args_list_sort _)));obtain⟨e,he⟩:=sortedHeap_at nC;exact wpAny_pure ⟨_,rfl,h h1 _ out cI e kp (λb ob hb=>by
  have bE:=Yn hb;rw[sortedHeap_old (Yz bE) (by rw[size_push'];exact Nat.lt_succ_of_lt bE),Heap.get?_push_ne _ _ _ (Yz bE)];exact hb) he a1 a2 a3⟩
def tU(K:ag):List V->Hp->VK->Prop:=λxs H Q=>∃(p:Addr) (ns:List Int),xs=[.ref p]/\(ak K H p (ns.map V.int)\/ay K H p (ns.map V.int))/\ns.length<64/\
  ∀(l:Addr) (cI:List Int),H l=none->cI.Perm ns->cI.Pairwise (·<=·)->Q (.ref l) (upd H l (.lst (cI.map V.int)))
theorem DA:cf X (.builtin "sorted") (tU X.K):=by
 rintro pins s σ H xs us Q I r ⟨p,ns,rfl,hq,jh,q⟩;obtain⟨u,rfl,rx⟩:=vals1 r;cases rx;have fin:∀(h1 h':Heap) (out:Array Value) (cI:List Int) (e:Nat),(∀b o,s.heap.get? b=some o->h1.get? b=some o)->(∀b o,h1.get? b=some o->h'.get? b=some o)->h'.get? h1.objs.size=some (seqObj "list" out e)->IntsAre out.toList cI->cI.Perm ns->cI.Pairwise (·<=·)->
   EP X pins σ Q (.ref h1.objs.size) {s with heap:=h'}:=λh1 h' out cI e kp qv he a1 a2 a3=>by
  have I1:=I.kept (t':=s.toks) kp;refine⟨.ref h1.objs.size,_,I1.laid (o:=.lst (cI.map V.int)) qv (Yd _) ⟨?_,out.toList,e,xR a1,by simpa[seqObj] using he⟩,rfl,q _ cI (I1.ar.fresh (Yd _)) a2 a3⟩;rw[Ya,a2.length_eq];exact W8 (fA (by omega))
 rcases hq with hq|hq
 ·obtain⟨af,r',pl,hz⟩:=I.list hq;obtain⟨o,n,ho,hc,_,hd⟩:=pl;have hl:=r'.length;rw[Ya] at hl;rw[Ya] at hz;exact xu (.inl rfl) ho hc hd (intsAre_of r') (by omega) (by rw[Yl];omega) fin
 ·obtain⟨af,r',pl,hz⟩:=I.tuple hq;obtain⟨o,ho,hc,n,hd⟩:=pl;have hl:=r'.length;rw[Ya] at hl;rw[Ya] at hz;exact xu (.inr rfl) ho hc hd (intsAre_of r') (by omega) (by rw[Yl];omega) fin
def yU:List V->Hp->VK->Prop:=λxs H Q=>∃j:Int,xs=[.int j]/\∀p:Addr,H p=none->Q (.ref p) (upd H p (.fH 0 j))
def yf:List V->Hp->VK->Prop:=λxs H Q=>∃(p:Addr) (n:Nat),xs=[.ref p]/\H p=some (.fH 0 (n:Int))/\n<=1000/\∀l:Addr,H l=none->Q (.ref l) (upd H l (.lst ((a8 n).map V.int)))
def m_(K:ag):List V->Hp->VK->Prop:=λxs H Q=>∃(p:Addr) (ys:List V),xs=[.ref p]/\(ak K H p ys\/ay K H p ys)/\Q (.int ys.length) H
theorem DZ:cf X (.builtin "len") (m_ X.K):=xa
theorem og:cf X (.type "range") yU:=by
 rintro pins s σ H xs us Q I r ⟨j,rfl,q⟩;obtain⟨u,rfl,t,rfl⟩:=vals1 r;exact call_range_1 ⟨.ref s.heap.objs.size,_,I.laid (o:=.fH 0 j) (λb o e=>Yc _ e) (Yd _) ⟨_,_,_,Ym _ rfl⟩,rfl,q _ (I.ar.fresh (Yd _))⟩
theorem w8(hc:X.calm=true):cf X (.type "list") yf:=by
 rintro pins s σ H xs us Q I r ⟨p,n,rfl,hp,hn,q⟩;obtain⟨u,rfl,rx⟩:=vals1 r;cases rx;obtain⟨t,u,v,ho⟩:=I.ar p _ hp;refine call_list_range (I.ok.hd hc) ho (small_one (by omega) (by omega) (by omega) (by omega)) (n:=n) (by rw[rangeSize_one];split<;>omega) (by omega) λh' tk Jo c' hk Kh A7=>⟨.ref s.heap.objs.size,_,I.laid (o:=.lst ((a8 n).map V.int)) hk (Yd _) ⟨?_,Jo.toList,c',?_,by simpa using Kh⟩,rfl,q _ (I.ar.fresh (Yd _))⟩
 ·rw[Ya,cD];exact W8 (fA hn)
 ·refine r6 (by rw[Ya,cD];simp[A7.1]) λi x u e1 e2=>?_;obtain⟨t',rfl⟩:=A7.2 i u (by simpa using e2);have hi:i<n:=by
   have:=(Yi.mp e1).1;rw[Ya,cD] at this;exact this
  rw[Ye,dZ hi] at e1;have e3:=Yb e1;subst e3;exact⟨t',by rw[show(0:Int)+(i:Int)*1=(i:Int) by omega]⟩
theorem yV{ns:List Int}{af:List Value}(r:Vals (ns.map V.int) af){j:Nat}(h:j<af.length):∃t,af[j]=.int (ns.getD j 0) t:=by
 have hl:=r.length;rw[Ya] at hl;have hj:j<ns.length:=by omega
 obtain⟨u,hu,t,rfl⟩:=r.get (by rw[Ye,Yf hj];rfl)
 grind
def A8(K:ag)(neg:Bool):R2:=λx y H Q=>∃(p q:Addr) (ns ms:List Int),x=.ref p/\y=.ref q/\ak K H p (ns.map V.int)/\ak K H q (ms.map V.int)/\Q (.bl (if neg=true then !decide (ns=ms) else decide (ns=ms))) H
theorem GR(hu:X.A.units<cLine):bu X (compareOp .Eq) (A8 X.K false):=by
 rintro pins s σ H x y v u Q I rx ry ⟨p,q,ns,ms,rfl,rfl,h1,h2,k⟩;cases rx;cases ry;obtain⟨af,r1,p1,z1⟩:=I.list h1;obtain⟨jN,r2,p2,z2⟩:=I.list h2;have l1:=r1.length;have l2:=r2.length;rw[Ya] at l1 l2;by_cases hl:ns.length=ms.length
 ·refine SeqAt.eq_listAt (e:=λj=>ns.getD j 0==ms.getD j 0) p1.isList p2.isList (by simp;omega) hu (λj h1 h2=>?_) (bA I k ?_)
  ·obtain⟨t,e1⟩:=yV r1 (by simpa using h1);obtain⟨t',e2⟩:=yV r2 (by simpa using h2);have vI:af.toArray[j]=.int (ns.getD j 0) t:=by simpa using e1
   have vJ:jN.toArray[j]=.int (ms.getD j 0) t':=by simpa using e2
   rw[vI,vJ];exact SeqAt.EqAt.int_int _ _ _ _
  ·rw[if_neg Yg,Yl,←l1,Dy hl]
 ·refine SeqAt.eq_list_lengthsAt p1.isList p2.isList (by simp;omega) hu (bA I k ?_)
  grind
theorem dk(M:St->Hp->Prop)(h1:∀nx:St->Hp->Prop,(∀σ H,M σ H->nx σ H)->t {D with nx:=nx} σ H)(h2:∀σ H,M σ H->u D σ H):m5 t u D σ H:=h1 _ h2
theorem jE(hg:Gl X x)(hm:X.mg x=none)(hv:bootBuiltins x=some (.type T))(hn:x≠"__name__":=by decide)(hd:(x==("__debug__":Str))=false:=by decide):PE X (.Name x pos) (tC (.ty T)):=FA hg hm hv rfl hn hd
end
def HasFn(P:Program)(w:World)(K:ag)(mg:aG)(base:Heap)(k:Nat)(x:Str)(ps:List Str)(sp:Sp):Prop:=
 ∃f fd,aH P w K mg base aT k f fd ps sp/\Binds K fd ps []/\keepIn K (.ref f)=true/\mg x=some (.ref f)
section
variable {P:Program}{w:World}{K:ag}{mg:aG}{base:Heap}{X:Cx}{k j:Nat}{sp:Sp}{x:Str}{ps:List Str}
theorem pf(h:HasFn X.prog X.w X.K X.mg X.base k x ps sp)(hr:bK j X.A)(hj:k<=j)(hg:Gl X x)(ha:PA X (e::es) t)
  (eJ:(x==("__debug__":Str))=false:=by decide)(he:fI X e es:=by rfl)(cH:gi X pos es:=by rfl):
  PE X (.Call (.Name x p) (e::es) [] pos) (uz sp [] E0 t):=by
 obtain⟨f,fd,F,b,kp,m⟩:=h;exact FF F (hr.mono hj) hg m kp b .nil uC ha eJ he cH
theorem bg(h:H p=none)(o:HO):ah H (upd H p o):=λb u q=>by rw[aU (aY q h)];exact q
theorem ah.eK(e:ah H H')(h:ay K H a xs):ay K H' a xs:=by
 rcases h with(h|⟨o,h⟩)|h;·exact .inl (.inl (e _ _ h))
 ·exact .inl (.inr ⟨o,e _ _ h⟩)
 ·exact .inr h
theorem EZ(h:X.K=K):gw X (pK K):=h▸yS
theorem FR(h:X.K=K):gw X (uR K):=h▸GJ
theorem FT(h:X.K=K):cf X (.builtin "isinstance") (pO K):=h▸Dz
theorem Jp(h:X.K=K):cf X (.builtin "len") (m_ K):=h▸DZ
theorem fG(h:Q true H):uW σ H Q:=h
theorem bJ(h:n σ H):Al ⟨n,rt,bk,ct⟩ σ H:=h
theorem mK(M:St->Hp->Prop)(h1:∀nx:St->Hp->Prop,(∀σ H,M σ H->nx σ H)->uL c a b {D with nx:=nx} σ H)(h2:∀σ H,M σ H->u D σ H):m5 (uL c a b) u D σ H:=h1 _ h2
theorem GS(x:Int)(h0:0<m)(h1:m<=2^62):-(2^64)<x % m/\x % m<2^64:=by
 have a:=Y7 x (Jk h0);have b:=Y4 x h0;omega
theorem xv:∀(l:List α) (k:Nat) (h:k<l.length),l.Perm (l[k]::l.eraseIdx k)
 |[],k,h=>absurd h (Nat.not_lt_zero k)
 |a::r,0,_=>List.Perm.refl _
 |a::r,k+1,h=>(List.Perm.cons a (xv r k (Nat.lt_of_succ_lt_succ h))).trans (List.Perm.swap _ _ _)
theorem xT(f:α->β):∀(l:List α) (k:Nat),(l.map f).eraseIdx k=(l.eraseIdx k).map f
 |[],_=>rfl
 |_::_,0=>rfl
 |a::r,k+1=>by
  show f a::(r.map f).eraseIdx k=f a::(r.eraseIdx k).map f;rw[xT f r k]
theorem GU{n:Nat}{i:Int}(h0:0<=i)(h1:i<n):jd n i=some i.toNat:=by
 unfold jd
 grind
theorem mM{ns:List Int}{i:Int}(h0:0<=i)(h1:i<ns.length):c6 (ns.map V.int) i=some (.int (ns.getD i.toNat 0)):=by
 have e:i=((i.toNat:Nat):Int):=by omega
 rw[e];refine jB ?_
 grind
theorem mj{ns:List Int}{i:Nat}{y:V}(h:(ns.map V.int)[i]?=some y):∃z,y=.int z/\ns[i]?=some z:=by
 rw[Ye] at h;cases e:ns[i]? with
 |none=>grind
 |some z=>grind
theorem yg(ns:List Int)(z:Int):ns.map V.int++[V.int z]=(ns++[z]).map V.int:=by simp
theorem yh(ns:List Int)(lo hi:Option Int):∃ms:List Int,jM (ns.map V.int) lo hi=ms.map V.int:=by
 refine⟨(ns.drop (HT.dq ns.length 0 lo)).take (HT.dq ns.length ns.length hi-HT.dq ns.length 0 lo),?_⟩;unfold jM;simp_all
end
theorem zH:bootBuiltins "abs"=some (.builtin "abs"):=by decide+kernel
theorem GV:bootBuiltins "any"=some (.builtin "any"):=by decide+kernel
theorem zI:bootBuiltins "len"=some (.builtin "len"):=by decide+kernel
theorem GW:bootBuiltins "min"=some (.builtin "min"):=by decide+kernel
theorem Ey:bootBuiltins "sorted"=some (.builtin "sorted"):=by decide+kernel
theorem C4:bootBuiltins "isinstance"=some (.builtin "isinstance"):=by decide+kernel
theorem mn:bootBuiltins "list"=some (.type "list"):=by decide+kernel
theorem fS:bootBuiltins "tuple"=some (.type "tuple"):=by decide+kernel
theorem oH:bootBuiltins "range"=some (.type "range"):=by decide+kernel
theorem yW:bootBuiltins "bool"=some (.type "bool"):=by decide+kernel
theorem GX:bootBuiltins "int"=some (.type "int"):=by decide+kernel
theorem ug:bootBuiltins "str"=some (.type "str"):=by decide+kernel
def Bd(d p:Int):Prop:=0<=d/\d<p
inductive yi(K:ag)(vs:List V)(H:Hp)(Q:VK):Prop
 |mk (a:Addr) (ns:List Int) (k:Int) (aC:vs=[.ref a,.int k]) (aI:ak K H a (ns.map V.int)) (aW:0<=k) (bt:∀c:Int,Q (.int c) H):yi K vs H Q
def uh(K:ag):Sp:=λvs H Q _=>yi K vs H Q
inductive xU(K:ag)(vs:List V)(H:Hp)(Q:VK):Prop
 |mk (c:Int) (a:Addr) (ps:List Int) (aC:vs=[.int c,.ref a]) (aI:ak K H a (ps.map V.int)) (aW:(∀p∈ps,0<p/\p<1073741824)) (bt:ps.length<=60) (bV:∀(l:Addr) (ds:List Int) (H':Hp),H l=none->ah H H'->H' l=some (.lst (ds.map V.int))->Paired Bd ds ps->Q (.ref l) H'):xU K vs H Q
def mq(K:ag):Sp:=λvs H Q _=>xU K vs H Q
inductive yj(vs:List V)(H:Hp)(Q:VK):Prop
 |mk (c:Int) (n:Nat) (aC:vs=[.int c,.int (n:Int)]) (aI:n<=60) (aW:∀(t:Addr) (ns:List Int) (H':Hp),H t=none->ah H H'->H' t=some (.tup (ns.map V.int))->ns.Perm (a8 n)->Q (.ref t) H'):yj vs H Q
def zJ:Sp:=λvs H Q _=>yj vs H Q
def A9(h:Heap)(a C:Addr)(d:Option Addr)(vs:Array Value):Prop:=∃oe:Obj,h.get? a=some oe/\oe.cls=.ref C/\oe.dict=d/\oe.data=.fields vs/\1<vs.size
def xo(a C:Addr)(d:Option Addr):HO:=.ext λh=>∃vs,A9 h a C d vs
def Ki(lo:Nat)(H:Hp)(h:Heap)(vs:Array Value):Prop:=
 vs[1]?=some Value.none\/∃T oT ts,vs[1]?=some (Value.ref T)/\lo<=T/\H T=none/\h.get? T=some oT/\oT.data=.fields ts/\ts[3]?=some Value.none
def j6(b:Bool)(P:Program)(w:World):eD:=λouter H s E e s'=>∃(a C d:Addr) (H':Hp) (vs:Array Value),e=.ref a/\s.heap.objs.size<=a/\s'.os=s.os/\AllBare s'.gens/\Un (cP outer) [] H H' s.heap s'.heap/\bN P w H' s'.heap/\
 H' a=some (xo a C (some d))/\A9 s'.heap a C (some d) vs/\(Ki s.heap.objs.size H' s'.heap vs/\(b=true->vs[2]?=some Value.none))/\E (.ref C) (some d) H'
abbrev qw:=j6 true
section
variable {M:Model}{A:Around}{Er:aE}{s:Shared}
end
section
variable {P:Program}{w:World}{A:Around}{Er:aE}
end
section
variable {P:Program}{w:World}{K:ag}{mg:aG}{base:Heap}{N:List Str}{qual:Str}{scope:Scope}{f:Addr}{cd:Value}{A:Around}{outer:List Env}{s:Shared}{H:Hp}{E:XK}
theorem A_{b:Bool}:PassesOwn (model P w) (fF (j6 b P w) P w K mg base N qual scope f cd A outer s H E).A (fF (j6 b P w) P w K mg base N qual scope f cd A outer s H E).env (fF (j6 b P w) P w K mg base N qual scope f cd A outer s H E).xe:=
 λe s' h=>PassesOwn.leaving (Q₁:=λe j0=>j6 b P w outer H s E e j0) e s' h
end
section
variable {X:Cx}{k j:Nat}{f C:Addr}{fd:FuncData}{ps:List Str}{sp:Sp}{cG:List V}{ds:List Value}{E:St->XK}{x m:Str}{p pos apos:Pos}{e o:Expr}{es:List Expr}{ta:TE}{t:TA}
end
section
variable {P:Program}{w:World}{K:ag}{mg:aG}{base:Heap}
theorem aP.Kj{b:Bool}{x qual:Str}{st:Stmt}{f:Addr}{fd:FuncData}{N ps:List Str}{k:Nat}{sp:Sp}(F:aP K x qual st f fd)(S:a7 N ps (aL st))(len:∀vs H Q E,sp vs H Q E->vs.length=ps.length)
  (jD:∀(a_:Value) (A:Around) (outer:List Env) (s:Shared) (H:Hp) (vs:List V) (Q:VK) (E:XK),bK k (A.deeper (envOfC qual (aL st) s.heap.objs.size f a_))->sp vs H Q E->
   ∃t,dn (fF (j6 b P w) P w K mg base N qual (aL st) f a_ A outer s H E) (eW st) t/\t {nx:=λ_ H'=>Q .aD H',rt:=Q} (start N vs) H):aH P w K mg base (j6 b P w) (k+1) f fd ps sp:=by
 obtain⟨oc,od,kV,doc,pm,an,a_,ct,ip,rfl,lk,dD⟩:=F.ex;exact As lk dD S len λA outer s H vs Q E hr gq=>jD a_ A outer s H vs Q E hr gq
end
section
variable {prog:Program}{w:World}{A:Around}{E:aE}{h:Heap}{g:Array GenState}{d:Drawn}{t:Nat}{os:OsState}
variable {nm q:Str}{C N:Addr}{bs bm:List Value}{MU:Bool}{sn:List Str}{sub:List Value}{ab:Bool}{col:Option Bool}{dd:Option Addr}{k0 k1 k2 k3 k5:Option Value}
local macro_rules|`(tactic|walk_at "vlu")=>`(tactic|exact PySem.F.excBase_ValueError)
end
end L2
namespace L2
open PySem PySem.Spec PyProof.Rows
open PySem.W (Looks InstAt looks_findIn looks_typeIn looks_clsIn looks_mroIn looks_find findObj findIn mroIn clsIn)
section
variable {prog:Program}{w:World}{A:Around}{E:aE}{s:Shared}{K:ag}{x C:Addr}{ox:Obj}{od:Option Obj}{name:Str}
end
section
variable {prog:Program}{w:World}{A:Around}{E:aE}{s:Shared}{K:ag}{x C:Addr}{name:Str}{nV v:Value}{b:Bool}{tk:Tok}
end
section
variable {X:Cx}{o e value:Expr}{f:Str}{pos pos':Pos}{ta tv:TE}
end
section
variable {X:Cx}{CX:eD}{k:Nat}{f C:Addr}{fd:FuncData}{ps:List Str}{sp:Sp}{cG:List V}{ds:List Value}{E:XK}{x m:Str}{p pos apos:Pos}{e:Expr}{es:List Expr}{t:TA}
end
section
variable {M:Model}{A:Around}{E:aE}{s:Shared}{K:ag}{a C:Addr}
end
section
variable {X:Cx}{x:Str}{p pos apos:Pos}{e:Expr}{es:List Expr}{t:TA}
end
section
variable {X:Cx}{k:Nat}{f C:Addr}{fd:FuncData}{ps:List Str}{sp:Sp}{cG:List V}{ds:List Value}{E:St->XK}{x:Str}{p pos cy:Pos}{e:Expr}{es:List Expr}{t:TA}
end
section
variable {X:Cx}{pins:aB}{σ:St}{H:Hp}{s:Shared}
end
section
variable {M:Model}{A:Around}{E:aE}{s:Shared}{K:ag}{a C B:Addr}{d:Option Addr}{vs:Array Value}
end
section
variable {X:Cx}{B:Addr}{i:Nat}{n x:Str}{body MK:List Stmt}{b0:Stmt}{px hp pos:Pos}{tb:(St->XK)->TS}{th:TS}
end
section
variable {X:Cx}{e:Expr}{te:TE}{pos:Pos}
end
section
variable {X:Cx}{e e2:Expr}{es:List Expr}{te:TE}{t:TJ}{pos:Pos}
end
end L2
namespace L2
open PySem PySem.Spec PyProof.Rows
structure Bl(mg:aG):Prop where
 Aw:mg "len"=none
 HV:mg "abs"=none
 mN:mg "list"=none
 dB:mg "range"=none
 fU:mg "tuple"=none
 HW:mg "any"=none
 ML:mg "all"=none
 Dh:mg "isinstance"=none
 zK:mg "bool"=none
 HX:mg "int"=none
 uE:mg "str"=none
 E1:mg "sorted"=none
 HY:mg "min"=none
 MM:mg "max"=none
 MN:mg "sum"=none
 MF:mg "dict"=none
 My:mg "reversed"=none
 Mu:mg "ValueError"=none
theorem Jq{X:Cx}{K:ag}(hc:X.calm=true)(h:X.K=K):cf X (.builtin "any") (A6 K):=h▸CY hc
theorem sortedK{X:Cx}{K:ag}(h:X.K=K):cf X (.builtin "sorted") (tU K):=h▸DA
theorem Kk{X:Cx}{K:ag}(h:X.K=K):bu X (compareOp .In) (qm K false):=h▸Es
theorem GY{X:Cx}{K:ag}(h:X.K=K):bu X (compareOp .NotIn) (qm K true):=h▸Df
section
variable {P:Program}{w:World}{K:ag}{mg:aG}{base:Heap}
end
theorem GZ{K:ag}:kitOne K (.type "int") (.type "int")=some true:=by kernel_rfl
theorem zL{K:ag}:kitOne K (.type "int") (.type "bool")=some false:=by kernel_rfl
theorem zM{K:ag}:kitOne K (.type "list") (.type "list")=some true:=by kernel_rfl
theorem zN{K:ag}:kitOne K (.type "tuple") (.type "tuple")=some true:=by kernel_rfl
theorem sY(ns:List Int)(o:Option Int):(ns++o.toList).map V.int=ns.map V.int++o.toList.map V.int:=by simp
section
variable {H:Hp}{m:Nat}
end
theorem eT:∀{xs:List α} {ys:List β} {i:Nat} {x:α},Paired F xs ys->xs[i]?=some x->∃y,ys[i]?=some y/\F x y:=by
 intro xs ys i x h;induction h generalizing i with
 |nil=>intro e;simp at e
 |cons r t ih=>
  intro e;cases i with
  |zero=>
   have e:=Yb (show some _=some _ by simpa using e);subst e;exact⟨_,rfl,r⟩
  |succ i=>
   obtain⟨y,h1,h2⟩:=ih (i:=i) (by simpa using e);exact⟨y,by simpa using h1,h2⟩
theorem cJ:∀{xs:List α} {ys:List β},Paired F xs ys->xs.length=ys.length:=by
 intro xs ys h;induction h with
 |nil=>rfl
 |cons _ _ ih=>rw[Wg,Wg,ih]
def FU:List V->Hp->VK->Prop:=λxs H Q=>∃(p:Addr) (n:Nat),xs=[.ref p]/\H p=some (.fH 0 (n:Int))/\n<=1000/\∀l:Addr,H l=none->Q (.ref l) (upd H l (.tup ((a8 n).map V.int)))
section
variable {prog:Program}{w:World}{A:Around}{E:aE}{s:Shared}
theorem DB{Q:List Value->Shared->Prop}{r:Addr}{n:Nat}{t u v:Tok}(hh:A.handled=none)(hr:IsRange s.heap r 0 (n:Int) 1 t u v)(hn:n<=1000)
  (k:∀h' tk (acc:Array Value),(∀b o,s.heap.get? b=some o->h'.get? b=some o)->ItemsOf (λi v=>∃t,v=.int (0+i*1) t) acc n->Q acc.toList {s with heap:=h',toks:=tk}):
  wpAny (model prog w) A (collect (.ref r)) Q E s:=by
 refine wpAny_bind (wpAny_runValue (codeAny_builtin PySem.F.entry_proto_collect (wpAny_bind (wpAny_newObj_type (wpAny_pure ⟨plainId_quiet PySem.F.plain_list_iadd _,codeAny_builtin PySem.F.entry_list_iadd ?_⟩)))));have Ax:∀s':Shared,(∃(h':Heap) (tk:Nat) (acc:Array Value) (c:Nat),s'={s with heap:=h',toks:=tk}/\(∀b o,b≠s.heap.objs.size->(s.heap.push {cls:=.type "list",data:=.seq ([]:List Value).toArray}).get? b=some o->h'.get? b=some o)/\
   h'.get? s.heap.objs.size=some {cls:=.type "list",dict:=none,data:=.seq acc c,slots:=#[]}/\ItemsOf (λi v=>∃t,v=.int (0+i*1) t) acc n)->
   wpAny (model prog w) A (match Value.ref s.heap.objs.size with
    |Value.ref a=>do
     match(←load a).data with
      |Data.seq xs _=>pure xs.toList
      |_=>unsupported "internal:collect"
    |_=>unsupported "internal:collect") Q E s':=by
  rintro s' ⟨h',tk,acc,c,rfl,kp,here,af⟩;exact wpAny_bind (wpAny_load here (wpAny_pure (k h' tk acc (λb o hb=>kp b o (Yz (Yn hb)) (Yc _ hb)) af)))
 refine wpAny_mono (wpAny_extend_range (s:={s with heap:=s.heap.push {cls:=.type "list",data:=.seq ([]:List Value).toArray}})
  (R:=λr s'=>r=.ok (.ret (.ref s.heap.objs.size))/\∃(h':Heap) (tk:Nat) (acc:Array Value) (c:Nat),s'={s with heap:=h',toks:=tk}/\(∀b o,b≠s.heap.objs.size->(s.heap.push {cls:=.type "list",data:=.seq ([]:List Value).toArray}).get? b=some o->h'.get? b=some o)/\
   h'.get? s.heap.objs.size=some {cls:=.type "list",dict:=none,data:=.seq acc c,slots:=#[]}/\ItemsOf (λi v=>∃t,v=.int (0+i*1) t) acc n)
  hh (Yc _ hr) (small_one (by omega) (by omega) (by omega) (by omega)) (by rw[rangeSize_one];split<;>omega) (by omega) _ _ 0 (Ym _ rfl) λh' tk acc c kp here af=>⟨rfl,h',tk,acc,c,rfl,kp,here,af⟩) (λfin s' z=>?_) λe s' z=>?_
 ·cases fin with
  |done f=>obtain⟨q,x⟩:=z;cases q;exact Ax _ x
  |again c'=>exact⟨z.1,codeAny_mono z.2 λr j0 hr=>by obtain⟨rfl,hz⟩:=hr;exact Ax j0 hz⟩
 ·cases z.1
theorem FV(r:Addr)(n:Nat)(t u v:Tok)(hn:n<=1000):
  Meets (Builtin.«tuple.__new__» ⟨[.type "tuple",.ref r],[]⟩) (λA R s=>A.handled=none/\IsRange s.heap r 0 (n:Int) 1 t u v/\∀(h':Heap) (tk:Nat) (acc:Array Value),(∀b o,s.heap.get? b=some o->h'.get? b=some o)->ItemsOf (λi v=>∃t,v=.int (0+i*1) t) acc n->
   R (.ok (.ret (.ref h'.objs.size))) {s with heap:=h'.push {cls:=.type "tuple",data:=.seq acc},toks:=tk}):=
 .of_wp λprog w A R s h=>by
  obtain⟨hp,g,d,tk,os⟩:=s;obtain⟨hh,ht,q⟩:=h;have sub:=sub_tuple_self;have M_:=init_tuple_lookup;have mh:=madeHere_tuple;have Kl:A.in1.handled=none:=hh
  wp_walk using PySem.AutoSeq1.wpAny_loadPart' ht,wpAny_typeOf ty,DB (A:=A.in1) Kl ht hn
  intro h' Km acc kp af;show wpAny _ _ (Builtin.Tuple.tupleExact acc.toList.toArray>>=λv=>ret v) _ _ _;unfold Builtin.Tuple.tupleExact;have lz:acc.toList.toArray.size<=sizeLine:=by
   have e:=af.1;rw[sizeLine_eq];simp;omega
  refine wpAny_bind (wpAny_newObj_type (wpAny_pure ⟨_,rfl,?_⟩) lz);have e:acc.toList.toArray=acc:=by simp
  rw[e];exact q h' Km acc kp af
end
theorem wY(hc:X.calm=true):cf X (.type "tuple") FU:=by
 intro pins s σ H xs us Q I r h;obtain⟨p,n,rfl,hp,hn,q⟩:=h;obtain⟨u,rfl,rx⟩:=vals1 r;cases rx;obtain⟨t,u,v,ho⟩:=I.ar p _ hp;refine callType_new PySem.F.called_tuple (by decide) (PySem.F.typeCall_tuple_1 _) (PySem.F.newCall_tuple_1 _) (λobj=>PySem.F.args_object_init_2 obj _) PySem.F.entry_tuple_new (FV p n t u v hn) ⟨I.ok.hd hc,ho,λh' tk acc kp af=>⟨⟨_,Ym _ rfl,rfl⟩,?_⟩⟩;have I1:=I.kept (t':=tk) kp;have vs:Vals ((a8 n).map V.int) acc.toList:=by
  refine r6 (by rw[Ya,cD];simp[af.1]) λi x u e1 e2=>?_;obtain⟨t',rfl⟩:=af.2 i u (by simpa using e2);have hi:i<n:=by
   have:=(Yi.mp e1).1;rw[Ya,cD] at this;exact this
  rw[Ye,dZ hi] at e1;have e3:=Yb e1;subst e3;exact⟨t',by rw[show(0:Int)+(i:Int)*1=(i:Int) by omega]⟩
 have I2:Inv X pins σ (upd H h'.objs.size (.tup ((a8 n).map V.int))) {s with heap:=h'.push {cls:=.type "tuple",data:=.seq acc},toks:=tk}:=
  I1.laid (t':=tk) (λb o e=>Yc _ e) (Yd _) (show bQ X.prog X.w _ _ _ (.tup _) from⟨by rw[Ya,cD];exact W8 (fA hn),acc.toList,vs,by simpa using fV.new h' acc⟩)
 exact⟨.ref h'.objs.size,_,I2,rfl,q _ (I1.ar.fresh (Yd _))⟩
section
variable {X:Cx}{e e2:Expr}{es:List Expr}{te:TE}{t:TF}{pos:Pos}
end
end L2
namespace L2
open PySem PySem.Spec PyProof.Rows
open PySem.W (Looks InstAt looks_findIn looks_typeIn looks_clsIn looks_mroIn looks_find findObj findIn mroIn clsIn)
section
variable {X:Cx}{B1 B2:Addr}{i:Nat}{n x1 x2:Str}{body MG MH:List Stmt}{b1 b2:Stmt}{Na Nb Nc fh pos:Pos}{tb:(St->XK)->TS}{Nd Nf:TS}
end
end L2
namespace BP
open L2
theorem D0(n:Nat):(a8 n).Nodup:=by
 exact List.Pairwise.map _ (λa b h e=>h (by omega)) List.nodup_range
section
variable {t:List Int}{n:Nat}
end
end BP
namespace L2
open PySem PySem.Spec PyProof.Rows
def Row(K:ag)(H:Hp)(p:Addr)(ns:List Int):Prop:=ak K H p (ns.map V.int)\/ay K H p (ns.map V.int)
theorem Row.same{K:ag}{H H':Hp}{p:Addr}{ns:List Int}(e:ah H H')(h:Row K H p ns):Row K H' p ns:=by
 rcases h with h|h;·exact .inl (e.seq h)
 ·exact .inr (e.eK h)
def full(ns:List Int):Bool:=decide (ns.Perm (a8 ns.length))
theorem iO(h:full ns=true):ns.Perm (a8 ns.length):=of_decide_eq_true h
theorem kJ(h:ns.Perm (a8 n)):full ns=true:=decide_eq_true (by rw[h.length_eq,cD];exact h)
theorem DC(n:Nat):(a8 n).Pairwise (·<=·):=by
 unfold a8;rw[List.pairwise_map];exact List.pairwise_lt_range.imp λh=>by omega
theorem xw:∀{as bs:List Int},as.Perm bs->as.Pairwise (·<=·)->bs.Pairwise (·<=·)->as=bs
 |[],bs,p,_,_=>by
  simp_all
 |a::as,[],p,_,_=>by
  simp_all
 |a::as,b::bs,p,h1,h2=>by
  rw[List.pairwise_cons] at h1 h2;have e:a=b:=by
   have ha:=p.subset Yv;have hb:=p.symm.subset Yv
   grind
  subst e;rw[xw (List.Perm.cons_inv p) h1.2 h2.2]
theorem DD(p:cI.Perm ns)(h:cI.Pairwise (·<=·)):decide (cI=a8 ns.length)=full ns:=by
 unfold full;rw[Wu,decide_eq_true_iff,decide_eq_true_iff];constructor;·grind
 ·intro q;exact xw (p.trans q) h (DC _)
def Ay(K:ag)(neg:Bool)(tr:TE):TE:=fb (A8 K neg) (gs (tU K) (cR tr dN)) (gs yf (cR (gs yU (cR (gs (m_ K) (cR tr dN)) dN)) dN))
theorem E2{K:ag}{i:Nat}{neg:Bool}{σ:St}{H:Hp}{p:Addr}{ns:List Int}{Q:VK}(hi:σ[i]?=some (some (.ref p)))(hR:Row K H p ns)(jh:ns.length<64)(q:∀H',ah H H'->Q (.bl (if neg=true then !full ns else full ns)) H'):
   (Ay K neg (c_ i)) σ H Q:=by
 refine⟨_,hi,p,ns,rfl,hR,jh,λl cI hl pm so=>?_⟩;have g1:ah H (upd H l (.lst (cI.map V.int))):=bg hl _;refine⟨_,hi,p,ns.map V.int,rfl,Row.same g1 hR,_,rfl,λr hr=>⟨r,(ns.map V.int).length,rfl,aF,by rw[Ya];omega,λu hu=>?_⟩⟩;have g3:=(g1.trans (bg hr (.fH 0 (((ns.map V.int).length:Nat):Int)))).trans (bg hu (.lst ((a8 (ns.map V.int).length).map V.int)));refine⟨l,u,cI,a8 (ns.map V.int).length,rfl,rfl,ak.of ?_,ak.of aF,?_⟩
 ·rw[aU (aY ((bg hr _) _ _ aF) hu)];exact(bg hr _) _ _ aF
 ·rw[Ya,DD pm so]
  grind
theorem any_false(n:Nat):(List.replicate n false).any id=false:=by
 induction n with
 |zero=>rfl
 |succ n ih=>grind
section
open PySem.AutoSeq1 (wpAny_loadPart')
open PySem.MeetsSeq PySem.SeqAt
theorem C5(l:Addr)(items:Array Value)(n:Nat)(dd:Option Addr)(sl:Array (Option Value))(x:Value)(e:Value->Bool)(j:Nat)(hj:j<items.size)
  (hit:e items[j]=true)(vK:∀m (hm:m<items.size),m<j->e items[m]=false):
  Meets (Builtin.«tuple.index» ⟨[.ref l,x],[]⟩)
   (λA R s=>s.heap.get? l=some {cls:=.type "tuple",dict:=dd,data:=.seq items n,slots:=sl}/\(∀y,y∈items->EqAt A.in1 s y x (e y))/\R (.ok (.ret (.int j s.toks))) {s with toks:=s.toks+1}):=
 .of_wp λprog w A R s h=>by
  obtain⟨hp,g,d,tk,os⟩:=s;obtain⟨hl,he,h⟩:=h
  wp_walk using wpAny_loadPart' hl
  show wpAny _ _ (forIn (m:=Sem) [:min items.size items.size] (none,()) _) _ _ _;rw[Std.Legacy.Range.forIn_eq_forIn_range'];refine wpAny_forIn_list _ (λrest b s'=>s'=⟨hp,g,d,tk,os⟩/\∃i,i<=j/\rest=List.range' i (items.size-i)) _ ?_ ?_ _ _ ⟨rfl,0,Y2 _,by simp⟩
  ·rintro k rest b s' ⟨rfl,i,hi,hr⟩;have bE:i<items.size:=by omega
   obtain⟨rfl,HZ⟩:k=i/\rest=List.range' (i+1) (items.size-(i+1)):=by
    have e:items.size-i=(items.size-(i+1))+1:=by omega
    rw[e,List.range'_succ] at hr;injection hr with h1 h2;exact⟨h1,h2⟩
   rw[Array.getElem?_eq_getElem bE];refine wpAny_bind (he _ (Array.getElem_mem bE) prog w _ _ ?_);rcases Nat.lt_or_ge k j with hk|hk
   ·rw[vK k bE hk]
    wp_walk
    exact⟨rfl,k+1,by omega,HZ⟩
   ·obtain rfl:k=j:=by omega
    rw[hit]
    wp_walk
    exact⟨_,rfl,h⟩
  ·grind
end
def G0(to:TE)(t:TA):TE:=λσ H Q=>to σ H λx H1=>∃(p:Addr) (ns:List Int),x=.ref p/\H1 p=some (.tup (ns.map V.int))/\t σ H1 λvs H2=>∃(z:Int) (j:Nat),vs=[.int z]/\H2 p=some (.tup (ns.map V.int))/\ns[j]?=some z/\(∀m,m<j->ns[m]?≠some z)/\Q (.int (j:Int)) H2
theorem C6:∀{ns:List Int} {us:List Value} {j:Nat} (h:j<us.length),Vals (ns.map V.int) us->∃n t,ns[j]?=some n/\us[j]=.int n t:=by
 intro ns;induction ns with
 |nil=>intro us j h r;cases r;simp at h
 |cons n ns ih=>
  intro us j h r;rw[Wk] at r;cases r with
  |cons r t=>
   cases j with
   |zero=>
    obtain⟨t',rfl⟩:=r;exact⟨n,t',rfl,rfl⟩
   |succ j=>
    obtain⟨n',t',e1,e2⟩:=ih (j:=j) (by simpa using h) t;exact⟨n',t',by simpa using e1,by simpa using e2⟩
theorem Ez(ns:List Int):(ns.map V.int).all h_=true:=by
 induction ns with
 |nil=>rfl
 |cons n ns ih=>rw[Wk,List.all_cons,ih];rfl
theorem xg(ho:PE X o to)(ha:PA X [e] t)
  (uA:attributeBase o "index" X.env (eval o X.env)=eval o X.env:=by rfl)
  (uS:((backTo cy (starEach [e] X.env)).all (λx=>!x.1)&&(backToKw cy (keywordEach [] X.env)).all (λx=>x.1.isSome)
   &&decide ([e].length+([]:List Keyword).length+(if([]:List Keyword).isEmpty then 0 else 1)<30))=true:=by rfl)
  (uB:(apos.endLine==cy.line)=true:=by rfl)(hs:starEach [e] X.env=(false,eval e X.env)::starEach [] X.env:=by rfl):
  PE X (.Call (.Attribute o "index" apos) [e] [] cy) (G0 to t):=by
 intro pins s σ H Q I h;refine wpAny_Call_method_late uA uS uB rfl (av (ho pins s σ H _ I h) λv s1 zq=>?_);obtain⟨x,H1,I1,r1,p,ns,ex,hp,q1⟩:=zq;subst ex;obtain rfl:v=Value.ref p:=r1;obtain⟨_,_,_,ob,g,oc,_,_,od⟩:=(show bQ X.prog X.w H1 s1.heap p (.tup (ns.map V.int)) from I1.ar p _ hp);refine⟨"tuple","tuple.index",F.plainAttrs_tuple,F.slot_tuple_index,F.type_tuple_index,⟨ob,g,oc⟩,λa ea=>by cases ea;exact⟨ob,g,od⟩,?_⟩;have hA:=ha cy pins s1 σ H1 _ I1 q1;rw[hs] at hA⊢;refine Calls.callWith_builtin rfl (Calls.evalArgs_plain ?_);refine av hA λus s2 zq=>?_;obtain⟨vs,H2,I2,r2,z,j,ev,fh,hj,vK,q2⟩:=zq;subst ev;obtain⟨u,rfl,ru⟩:=r2.one;obtain⟨tz,rfl⟩:=ru;obtain⟨_,af,rv,⟨cls,dd,data,sl⟩,g2,BQ,n2,BR,_⟩:=(show bQ X.prog X.w H2 s2.heap p (.tup (ns.map V.int)) from I2.ar p _ fh);simp only at BQ BR;subst BQ BR;have hlen:af.length=ns.length:=by have:=rv.length;rw[Ya] at this;omega
 have BS:j<af.length:=by rw[hlen];exact(Yi.mp hj).1
 have ix:∀m (hm:m<af.length),df (.int z) af[m]=decide (ns[m]?=some z):=λm hm=>by
  obtain⟨n',t',e1,e2⟩:=C6 hm rv;rw[e1,e2];show(n'==z)=decide (some n'=some z)
  grind
 refine call_meets F.slot_tuple_index ⟨_,g2,rfl⟩ F.entry_tuple_index (F.args_tuple_index_2 _ _) (C5 p af.toArray n2 dd sl (.int z tz) (df (.int z)) j (by rw[Yl];exact BS) ?_ ?_) ⟨g2,?_,?_⟩;·rw[List.getElem_toArray,ix j BS];exact decide_eq_true hj
 ·intro m hm bE;rw[List.getElem_toArray,ix m (by simpa using hm)];exact decide_eq_false (vK m bE)
 ·intro y hy;exact l7 (x:=.int z) ⟨tz,rfl⟩ rfl rv (Ez ns) y (by simpa using hy)
 ·exact⟨.int _,H2,I2.tok _,⟨_,rfl⟩,q2⟩
section
variable {κ:Type}[DecidableEq κ]
def aA(aa:List (κ×V))(k:κ):Option V:=(aa.find? λkv=>decide (kv.1=k)).map (·.2)
def putK(aa:List (κ×V))(k:κ)(v:V):List (κ×V):=
 if(aa.any λkv=>decide (kv.1=k))=true then aa.map (λkv=>if kv.1=k then(kv.1,v) else kv) else aa++[(k,v)]
theorem du{p:κ×V}{r:List (κ×V)}{k:κ}(e:p.1=k):aA (p::r) k=some p.2:=by simp[aA,W5,e]
theorem dv{p:κ×V}{r:List (κ×V)}{k:κ}(e:¬p.1=k):aA (p::r) k=aA r k:=by simp[aA,W5,e]
theorem l9(k:κ):∀aa:List (κ×V),(aa.any λkv=>decide (kv.1=k))=(aA aa k).isSome
 |[]=>rfl
 |p::r=>by
  rw[Ja];by_cases e:p.1=k;·simp only[du e,decide_eq_true e,Bool.true_or,Option.isSome_some]
  ·rw[dv e,decide_eq_false e,Bool.false_or];exact l9 k r
theorem yk(k j:κ)(y:V):∀aa:List (κ×V),aA (aa.map λkv=>if kv.1=k then(kv.1,y) else kv) j=(aA aa j).map λx=>if j=k then y else x
 |[]=>rfl
 |p::r=>by
  have ih:=yk k j y r;rw[Wk];by_cases h:p.1=k
  ·rw[if_pos h];by_cases e:p.1=j;·rw[du (p:=(p.1,y)) e,du e,Option.map_some,if_pos (e.symm.trans h)]
   ·rw[dv (p:=(p.1,y)) e,dv e,ih]
  ·rw[if_neg h];by_cases e:p.1=j;·rw[du e,du e,Option.map_some,if_neg (λz=>h (e.trans z))]
   ·rw[dv e,dv e,ih]
theorem gZ(k j:κ)(y:V):∀aa:List (κ×V),aA aa k=none->aA (aa++[(k,y)]) j=if j=k then some y else aA aa j
 |[],_=>by
  by_cases e:k=j;·rw[if_pos e.symm];exact du (p:=(k,y)) e
  ·rw[if_neg (λz=>e z.symm)];exact dv (p:=(k,y)) e
 |p::r,hn=>by
  rw[List.cons_append];have hk:¬p.1=k:=λz=>by rw[du z] at hn;cases hn
  rw[dv hk] at hn;by_cases e:p.1=j;·rw[du e,du e,if_neg (λz=>hk (e.trans z))]
  ·rw[dv e,dv e,(gZ k j y r hn)]
theorem dH(aa:List (κ×V))(k j:κ)(y:V):aA (putK aa k y) j=if j=k then some y else aA aa j:=by
 unfold putK;by_cases a:(aa.any λkv=>decide (kv.1=k))=true
 ·rw[if_pos a,yk];rw[l9] at a;by_cases e:j=k
  ·obtain⟨x,hx⟩:=Wo.mp a
   grind
  ·simp_all
 ·rw[if_neg a];refine gZ k j y aa ?_;rw[l9] at a;cases q:aA aa k with
  |none=>rfl
  |some x=>grind
theorem iM(aa:List (κ×V))(k:κ)(v:V):(putK aa k v).length<=aa.length+1:=by
 unfold putK
 grind
theorem oI{aa:List (κ×V)}{k:κ}(v:V)(h:aA aa k=none):putK aa k v=aa++[(k,v)]:=by
 unfold putK;rw[l9,h];rfl
theorem cZ.l5(r:cZ o u):o.isSome=u.isSome:=by
 cases o with
 |none=>cases u with
  |none=>rfl
  |some _=>exact(show False from r).elim
 |some _=>cases u with
  |none=>exact(show False from r).elim
  |some _=>rfl
theorem cZ.getD(r:cZ o u)(rd:RelV d d'):RelV (o.getD d) (u.getD d'):=by
 cases o with
 |none=>cases u with
  |none=>exact rd
  |some _=>exact(show False from r).elim
 |some _=>cases u with
  |none=>exact(show False from r).elim
  |some _=>exact r
theorem KV.val{aa:List (κ×V)}{vs:List (κ×Value)}(r:KV aa vs)(k:κ):cZ (aA aa k) (valueAt vs k):=by
 unfold KV at r;induction r with
 |nil=>exact True.intro
 |@cons p q ps qs h t ih=>
  obtain⟨h1,h2⟩:=h;by_cases e:p.1=k
  ·have e':q.1=k:=h1.symm.trans e;have b:valueAt (q::qs) k=some q.2:=by simp[valueAt,W5,e']
   rw[du e,b];exact h2
  ·have e':¬q.1=k:=λz=>e (h1.trans z);have b:valueAt (q::qs) k=valueAt qs k:=by simp[valueAt,W5,e']
   rw[dv e,b];exact ih
theorem KV.any(r:KV aa vs)(k:κ):(aa.any λkv=>decide (kv.1=k))=vs.any λkv=>decide (kv.1=k):=by
 induction r with
 |nil=>rfl
 |cons h t ih=>grind
theorem KV.uX(r:KV aa vs)(k:κ)(ry:RelV y u):
  KV (aa.map λkv=>if kv.1=k then(kv.1,y) else kv) (vs.map λkv=>if kv.1=k then(kv.1,u) else kv):=by
 induction r with
 |nil=>exact .nil
 |@cons p q ps qs h t ih=>
  refine .cons ?_ ih
  grind
theorem KV.put(r:KV aa vs)(k:κ)(ry:RelV y u):KV (putK aa k y) (stored vs k u):=by
 unfold putK stored;rw[r.any k];by_cases e:(vs.any λkv=>decide (kv.1=k))=true;·rw[if_pos e,if_pos e];exact r.uX k ry
 ·rw[if_neg e,if_neg e];exact Paired.snoc r ⟨rfl,ry⟩
theorem KV.length(r:KV aa vs):aa.length=vs.length:=Paired.length r
end
theorem i4(r:RelV (kV k) u):(cV P w).is k u=true:=by
 cases k with
 |inl i=>obtain⟨t,e⟩:=(show ∃t,u=Value.int i t from r);subst e;exact Dv P w i t
 |inr x=>obtain⟨t,e⟩:=(show ∃t,u=Value.str x t from r);subst e;exact Dw P w x t
theorem xV:∀{ks:List Key} {us:List Value},Vals (ks.map kV) us->ItemsAre (cV P w) ks us
 |[],_,r=>by rw[Jj] at r;cases r;exact .nil
 |k::ks,_,r=>by
  cases r with
  |cons h t=>exact .cons (i4 h) (xV t)
abbrev KT(H:Hp):List (List Key×V)->List (List Key×Addr×Value)->Prop:=Paired λp q=>p.1=q.1/\H q.2.1=some (.tup (p.1.map kV))/\RelV p.2 q.2.2
theorem KT.val{H:Hp}{aa:List (List Key×V)}{xs:List (List Key×Addr×Value)}(r:KT H aa xs)(k:List Key):cZ (aA aa k) ((atKey xs k).map (·.2)):=by
 induction r with
 |nil=>exact True.intro
 |@cons p q ps qs h t ih=>
  obtain⟨h1,_,h2⟩:=h;by_cases e:p.1=k
  ·have e':q.1=k:=h1.symm.trans e;have b:atKey (q::qs) k=some q.2:=by simp[atKey,e']
   rw[du e,b];exact h2
  ·have e':¬q.1=k:=λz=>e (h1.trans z);have b:atKey (q::qs) k=atKey qs k:=by simp[atKey,e']
   rw[dv e,b];exact ih
theorem KT.uX(r:KT H aa xs)(k:List Key)(ry:RelV y u):
  KT H (aa.map λkv=>if kv.1=k then(kv.1,y) else kv) (xs.map (putAt k u)):=by
 induction r with
 |nil=>exact .nil
 |@cons p q ps qs h t ih=>
  refine .cons ?_ ih;unfold putAt
  grind
theorem KT.put(r:KT H aa xs)(k:List Key)(hb:H b=some (.tup (k.map kV)))(ry:RelV y u):
  KT H (putK aa k y) (storedH xs k b u):=by
 have e:(aa.any λkv=>decide (kv.1=k))=(atKey xs k).isSome:=by
  rw[l9,(r.val k).l5,Jd]
 unfold putK storedH;rw[e];by_cases q:(atKey xs k).isSome=true;·rw[if_pos q,if_pos q];exact r.uX k ry
 ·rw[if_neg q,if_neg q];exact Paired.snoc r ⟨rfl,hb,ry⟩
theorem KT.keeps(r:KT H aa xs)(ht:∀b ys,H b=some (.tup ys)->H' b=some (.tup ys)):KT H' aa xs:=
 Paired.bM r λ_ _ z=>⟨z.1,ht _ _ z.2.1,z.2.2⟩
section
variable {P:Program}{w:World}{H:Hp}{h:Heap}{a:Addr}
theorem Az(ok:bN P w H h)(e:Rd H a u):bQ P w H h a u:=e.ok ok
theorem jF(ok:bN P w H h)(e:Rd H a (.dK aa)):aa.length<=sizeLine/\(a==sysModules)=false/\∃vs,KV aa vs/\h.DictOf (cV P w) a vs:=
 show bQ P w H h a (.dK aa) from Az ok e
theorem uF(ok:bN P w H h)(e:H a=some (.dK aa)):aa.length<=sizeLine/\(a==sysModules)=false/\∃vs,KV aa vs/\h.DictOf (cV P w) a vs:=jF ok (.inl e)
theorem kR(ok:bN P w H h)(e:H a=some (.tup (ks.map kV))):(tupleKind (cV P w)).is h ks a:=by
 obtain⟨_,af,r,o,h1,h2,n,h3,_⟩:=(show bQ P w H h a (.tup (ks.map kV)) from ok a _ e);exact⟨o,af.toArray,n,h1,h2,h3,by simpa using xV r⟩
theorem jG(ok:bN P w H h)(e:Rd H a (.dT aa)):aa.length<=sizeLine/\(a==sysModules)=false/\
  ∃xs,KT H aa xs/\h.DictOfH (tupleKind (cV P w)) a xs:=by
 obtain⟨z,y,xs,r,o,es,ep,h1,h2,h3,h4,h5⟩:=(show bQ P w H h a (.dT aa) from Az ok e);refine⟨z,y,xs,r,o,es,ep,h1,h2,h3,h4,λx hx=>?_,h5⟩;have all:∀{l:List (List Key×V)} {m:List (List Key×Addr×Value)},KT H l m->∀x∈m,(tupleKind (cV P w)).is h x.1 x.2.1:=by
  intro l m q;induction q with
  |nil=>grind
  |@cons p q ps qs hq t ih=>
   intro x hx;rcases Yw.mp hx with e|hx
   ·subst e;exact kR ok (by rw[←hq.1];exact hq.2.1)
   ·exact ih x hx
 grind
theorem H_(ok:bN P w H h)(e:H a=some (.dT aa)):aa.length<=sizeLine/\(a==sysModules)=false/\
  ∃xs,KT H aa xs/\h.DictOfH (tupleKind (cV P w)) a xs:=jG ok (.inl e)
end
def da(H:Hp)(a:Addr)(y:V)(r:Option V):Prop:=
 (∃aa k,Rd H a (.dK aa)/\y=kV k/\r=aA aa k)\/∃aa k b,Rd H a (.dT aa)/\y=.ref b/\H b=some (.tup (k.map kV))/\r=aA aa k
def pP(H:Hp)(a:Addr)(y v:V)(H':Hp):Prop:=
 (∃aa k,H a=some (.dK aa)/\y=kV k/\aa.length<sizeLine/\H'=upd H a (.dK (putK aa k v)))\/
 ∃aa k b,H a=some (.dT aa)/\y=.ref b/\H b=some (.tup (k.map kV))/\aa.length<sizeLine/\H'=upd H a (.dT (putK aa k v))
theorem da.k{H:Hp}{a:Addr}{aa:List (Key×V)}{k:Key}(e:H a=some (.dK aa)):da H a (kV k) (aA aa k):=.inl ⟨aa,k,.inl e,rfl,rfl⟩
theorem pP.k{H:Hp}{a:Addr}{aa:List (Key×V)}{k:Key}{v:V}(e:H a=some (.dK aa))(hl:aa.length<sizeLine):pP H a (kV k) v (upd H a (.dK (putK aa k v))):=.inl ⟨aa,k,e,rfl,hl,rfl⟩
section
variable {X:Cx}{pins:aB}{σ:St}{H:Hp}{s:Shared}{a:Addr}{y v:V}{u r:Value}{o:Option V}{A:Around}{E:aE}
theorem Inv.big(I:Inv X pins σ H s):sysModules<s.heap.objs.size:=by
 exact Nat.lt_trans (by decide) ((I.mod.glob.keeps I.bk).lt)
theorem EA(hu:A.units+1<cLine)(I:Inv X pins σ H s)(g:da H a y (some v))(ry:RelV y u)(h:∀w' s',Inv X pins σ H s'->RelV v w'->Q w' s'):
  wpAny X.md A (getItem (.ref a) u) Q E s:=by
 rcases g with⟨aa,k,e,ey,l⟩|⟨aa,k,b,e,ey,eb,l⟩
 ·subst ey;obtain⟨z,hd,vs,rel,dd⟩:=jF I.ar e;obtain⟨w',hw,dF⟩:=cZ.some_of (v:=v) (o:=valueAt vs k) (by rw[l];exact rel.val k);exact wpAny_getItem_of (i4 ry) dd.mapOf hw (h w' _ (I.tok _) dF)
 ·subst ey;cases(show u=Value.ref b from ry);obtain⟨z,hd,xs,rel,dd⟩:=jG I.ar e;obtain⟨w',hw,dF⟩:=cZ.some_of (v:=v) (o:=(atKey xs k).map (·.2)) (by rw[l];exact rel.val k);obtain⟨p,hp,fh⟩:=Option.map_eq_some_iff.mp hw;refine wpAny_getItem_heap (tupleKind_room_in1 hu) (kR I.ar eb) dd hp ?_;rw[fh];exact h w' _ (I.tok _) dF
theorem Jr(hu:A.units+1<cLine)(I:Inv X pins σ H s)(g:da H a y o)(ry:RelV y u)(h:∀s',Inv X pins σ H s'->Q (.bool o.isSome) s'):
  wpAny X.md A (compareOp .In u (.ref a)) Q E s:=by
 rcases g with⟨aa,k,e,ey,l⟩|⟨aa,k,b,e,ey,eb,l⟩
 ·subst ey;obtain⟨z,hd,vs,rel,dd⟩:=jF I.ar e;refine wpAny_in_of (i4 ry) hd dd.mapOf ?_;rw[←(rel.val k).l5,←l];exact h _ (I.tok _)
 ·subst ey;cases(show u=Value.ref b from ry);obtain⟨z,hd,xs,rel,dd⟩:=jG I.ar e;refine wpAny_in_heap (tupleKind_room_in1 hu) (kR I.ar eb) hd dd ?_;have q:=(rel.val k).l5;rw[Jd] at q;rw[←q,←l];exact h _ (I.tok _)
theorem FW(hu:A.units+1<cLine)(I:Inv X pins σ H s)(g:da H a y o)(ry:RelV y u)(h:∀s',Inv X pins σ H s'->Q (.bool (!o.isSome)) s'):
  wpAny X.md A (compareOp .NotIn u (.ref a)) Q E s:=by
 rcases g with⟨aa,k,e,ey,l⟩|⟨aa,k,b,e,ey,eb,l⟩
 ·subst ey;obtain⟨z,hd,vs,rel,dd⟩:=jF I.ar e;refine wpAny_notIn_of (i4 ry) hd dd.mapOf ?_;rw[←(rel.val k).l5,←l];exact h _ (I.tok _)
 ·subst ey;cases(show u=Value.ref b from ry);obtain⟨z,hd,xs,rel,dd⟩:=jG I.ar e;refine wpAny_notIn_heap (tupleKind_room_in1 hu) (kR I.ar eb) hd dd ?_;have q:=(rel.val k).l5;rw[Jd] at q;rw[←q,←l];exact h _ (I.tok _)
theorem oO(I:Inv X pins σ H s)(mu:nr (H a))(hs:Heap.SameBut a s.heap h')(he:∃q,h'.get? a=some q)(new:bQ X.prog X.w (upd H a ob) h' a ob):
  Inv X pins σ (upd H a ob) {s with heap:=h',toks:=t'}:=
 I.write (x:=a) (e:=a) mu (.inl rfl) (λb q hb z=>(hs.2 b hb).trans z) he new
theorem ui(z:aa.length<=sizeLine)(hd:(a==sysModules)=false)(rel:KV aa vs)(dd:h'.DictOf (cV P w) a vs):
  bQ P w H' h' a (.dK aa):=⟨z,hd,vs,rel,dd⟩
theorem EB(hu:A.units+1<cLine)(I:Inv X pins σ H s)(g:pP H a y v H')(ry:RelV y u)(rv:RelV v r)(h:∀s',Inv X pins σ H' s'->Q () s'):
  wpAny X.md A (setItem (.ref a) u r) Q E s:=by
 rcases g with⟨aa,k,e,ey,l,eH⟩|⟨aa,k,b,e,ey,eb,l,eH⟩
 ·subst ey eH;obtain⟨z,hd,vs,rel,dd⟩:=uF I.ar e;have hz:vs.length<=sizeLine:=by rw[←rel.length];exact z
  have hl:(putK aa k v).length<=sizeLine:=by have:=iM aa k v;omega
  refine wpAny_setItem_pairs (hsz:=hz) (i4 ry) dd λh' gy hs=>h _ ?_;have he:∃q,h'.get? a=some q:=let⟨q,_,_,hq,_⟩:=gy;⟨q,hq⟩;exact oO I (by rw[e];exact True.intro) hs he (ui hl hd (rel.put k rv) gy)
 ·subst ey eH;cases(show u=Value.ref b from ry);obtain⟨z,hd,xs,rel,dd⟩:=H_ I.ar e;have hz:xs.length<=sizeLine:=by rw[←Paired.length rel];exact z
  have hl:(putK aa k v).length<=sizeLine:=by have:=iM aa k v;omega
  refine wpAny_setItem_heap (hsz:=hz) (tupleKind_room_in1 hu) (kR I.ar eb) dd λh' gy hs=>h _ ?_;obtain⟨q,es,ep,hq,h2,h3,h4,_,h5⟩:=gy;refine oO I (by rw[e];exact True.intro) hs ⟨q,hq⟩ ⟨hl,hd,_,(rel.put k eb rv).keeps λc ys ec=>?_,q,es,ep,hq,h2,h3,h4,h5⟩;rw[aU (Hu ec e (λz=>nomatch z))];exact ec
end
section
variable {X:Cx}{pins:aB}{σ:St}{H:Hp}{s:Shared}{a:Addr}{aa:List (Key×V)}{k:Key}{u:Value}{A:Around}{E:aE}
end
def Ba(i:Expr):Prop:=∀ov iv,subscripted i false ov iv=operate [ov,iv] (getItem ov iv)
theorem FX{prog:Program}{w:World}{A:Around}{E:aE}{s:Shared}{env:Env}{value slice:Expr}{pos:Pos}{T id:String}{Q:aE}
  (hl:typeLookup (.type T) "__getitem__"=pure (some (.builtin id)))(hs:Ba slice)
  (h:wpAny (model prog w) A (eval value env) (λo aQ=>wpAny (model prog w) A (eval slice env) (λi d9=>d9.TypeIs o T/\wpAny (model prog w) A (getItem o i) Q E d9) E aQ) E s):
  wpAny (model prog w) A (eval (.Subscript value slice pos) env) Q E s:=by
 refine Subscript_ (wpAny_mono h (λo aQ h₁=>wpAny_mono h₁ (λi d9 m9=>?_) λ_ _ x=>x) λ_ _ x=>x);obtain⟨hT,m9⟩:=m9;refine wpAny_bind (wpAny_bind (wpAny_specialOf hT hl ?_));have fin:wpAny (model prog w) A (subscripted slice false o i) (λr cS=>wpAny (model prog w) A (letTemporaryGo value o r>>=λ_=>pure r) Q E cS) E d9:=by
  rw[hs o i];exact wpAny_operating (wpAny_mono m9 (λr cS pN=>wpAny_bind (wpAny_letTemporaryGo (wpAny_pure pN))) λ_ _ x=>x)
 first
  |exact wpAny_pure (wpAny_bind fin)
  |exact wpAny_bind (wpAny_pure (wpAny_bind fin))
  |exact wpAny_bind fin
theorem DE(I:Inv X pins σ H s)(g:da H a y o):s.TypeIs (.ref a) "dict":=by
 rcases g with⟨aa,k,e,_,_⟩|⟨aa,k,b,e,_,_,_⟩
 ·obtain⟨_,_,vs,_,dd⟩:=jF I.ar e;exact dd.typeIs
 ·obtain⟨_,_,xs,_,dd⟩:=jG I.ar e;exact dd.typeIs
inductive yX(Q:VK)(x:V)(y:V)(H2:Hp):Prop
 |mk (a v) (aC:x=.ref a) (aI:da H2 a y (some v)) (aW:Q v H2):yX Q x y H2
def Ia(td ty:TE):TE:=λσ H Q=>td σ H λx H1=>ty σ H1 λy H2=>yX Q x y H2
inductive zO(Q:VK)(y:V)(x:V)(H2:Hp):Prop
 |mk (a o) (aC:x=.ref a) (aI:da H2 a y o) (aW:Q (.bl o.isSome) H2):zO Q y x H2
def Js(ty td:TE):TE:=λσ H Q=>ty σ H λy H1=>td σ H1 λx H2=>zO Q y x H2
inductive xW(Q:VK)(y:V)(x:V)(H2:Hp):Prop
 |mk (a o) (aC:x=.ref a) (aI:da H2 a y o) (aW:Q (.bl (!o.isSome)) H2):xW Q y x H2
def FY(ty td:TE):TE:=λσ H Q=>ty σ H λy H1=>td σ H1 λx H2=>xW Q y x H2
section
variable {X:Cx}{o i e value:Expr}{pos pos' A0:Pos}{td ty tv:TE}
theorem cM(hu:X.A.units+1<cLine)(ho:PE X o td)(hi:PE X i ty)(hs:Ba i):PE X (.Subscript o i pos) (Ia td ty):=by
 intro pins s σ H Q I h;refine FX PySem.F.slot_dict_getitem.lookup hs (av (ho pins s σ H _ I h) λu s1 zq=>?_);obtain⟨x,H1,I1,rx,q1⟩:=zq;refine av (hi pins s1 σ H1 _ I1 q1) λiv s2 zq=>?_;obtain⟨y,H2,I2,ry,a,v,ex,g,q2⟩:=zq;subst ex;obtain rfl:u=Value.ref a:=rx;exact⟨DE I2 g,EA hu I2 g ry λw' s3 I3 dF=>⟨v,H2,I3,dF,q2⟩⟩
theorem zP(hu:X.A.units+1<cLine)(hi:PE X i ty)(ho:PE X o td):PC X .In i o (Js ty td):=by
 intro pins s σ H Q I h;refine av (hi pins s σ H _ I h) λiv s1 zq=>?_;obtain⟨y,H1,I1,ry,q1⟩:=zq;refine av (ho pins s1 σ H1 _ I1 q1) λu s2 zq=>?_;obtain⟨x,H2,I2,rx,a,ov,ex,g,q2⟩:=zq;subst ex;obtain rfl:u=Value.ref a:=rx;exact Jr hu I2 g ry λs3 I3=>⟨.bl ov.isSome,H2,I3,rfl,q2⟩
theorem oC(hu:X.A.units+1<cLine)(hi:PE X i ty)(ho:PE X o td):PC X .NotIn i o (FY ty td):=by
 intro pins s σ H Q I h;refine av (hi pins s σ H _ I h) λiv s1 zq=>?_;obtain⟨y,H1,I1,ry,q1⟩:=zq;refine av (ho pins s1 σ H1 _ I1 q1) λu s2 zq=>?_;obtain⟨x,H2,I2,rx,a,ov,ex,g,q2⟩:=zq;subst ex;obtain rfl:u=Value.ref a:=rx;exact FW hu I2 g ry λs3 I3=>⟨.bl (!ov.isSome),H2,I3,rfl,q2⟩
end
theorem yl(h:Heap)(hb:sysModules<h.objs.size):bQ P w H (h.push {cls:=.type "dict",data:=.dict #[]}) h.objs.size (.dK []):=
 ⟨Y2 _,beq_eq_false_iff_ne.mpr (Ne.symm (Yz hb)),[],.nil,Heap.DictOf.new h⟩
def G1:TE:=λ_ H Q=>∀p,H p=none->Q (.ref p) (upd H p (.dK []))
section
variable {X:Cx}{pos:Pos}
theorem E3:PE X (.Dict [] [] pos) G1:=λpins s σ H Q I h=>
 wpAny_Dict_empty ⟨.ref s.heap.objs.size,_,I.laid (a:=s.heap.objs.size) (o:=.dK []) (t':=s.toks) (λ_ _ q=>Yc _ q) (Yd _) (yl s.heap I.big),rfl,h _ (I.ar.fresh (Yd _))⟩
end
def uj:List (TE×TE)->St->Hp->(List (V×V)->Hp->Prop)->Prop
 |[],_,H,Q=>Q [] H
 |(tk,tv)::r,σ,H,Q=>tk σ H λx H1=>tv σ H1 λy H2=>uj r σ H2 λps H3=>Q ((x,y)::ps) H3
abbrev VV:List (V×V)->List (Value×Value)->Prop:=Paired λp q=>RelV p.1 q.1/\RelV p.2 q.2
def qx(X:Cx)(pos:Pos)(keys:List (Option Expr))(values:List Expr)(j7:List (TE×TE)):Prop:=
 ∀(pins:aB) (s:Shared) (σ:St) (H:Hp) (Q:List (V×V)->Hp->Prop),Inv X pins σ H s->uj j7 σ H Q->
  wpAny X.md X.A (evalPairs (pairTrees keys values X.env pos)) (λvs s'=>∃ps H',Inv X pins σ H' s'/\VV ps vs/\Q ps H') X.xe s
theorem mv:qx X pos [] [] []:=λpins s σ H Q I h=>pairTrees_nil_walk ⟨[],H,I,.nil,h⟩
theorem dI(hk:PE X k tk)(hv:PE X v tv)(hr:qx X pos ks vs j7):
  qx X pos (some k::ks) (v::vs) ((tk,tv)::j7):=λpins s σ H Q I h=>
 pairTrees_cons_walk (av (hk pins s σ H _ I h) λu s1 ⟨x,H1,I1,rx,q1⟩=>av (hv pins s1 σ H1 _ I1 q1) λw2 s2 ⟨y,H2,I2,ry,q2⟩=>
  av (hr pins s2 σ H2 _ I2 q2) λws s3 ⟨ps,H3,I3,rel,q3⟩=>⟨(x,y)::ps,H3,I3,.cons ⟨rx,ry⟩ rel,q3⟩)
def fW(aa more:List (Key×V)):List (Key×V):=more.foldl (λacc kv=>putK acc kv.1 kv.2) aa
theorem KV.merge:∀{more:List (Key×V)} {rs:List (Key×Value)} {aa:List (Key×V)} {vs:List (Key×Value)},KV more rs->KV aa vs->KV (fW aa more) (merged vs rs):=by
 intro more rs aa vs r;induction r generalizing aa vs with
 |nil=>intro q;exact q
 |@cons p q ps qs h t ih=>
  intro r0;have e:KV (putK aa p.1 p.2) (stored vs q.1 q.2):=by
   have:=r0.put p.1 h.2
   grind
  exact ih e
theorem w_:∀(more aa:List (Key×V)),(fW aa more).length<=aa.length+more.length
 |[],aa=>by show aa.length<=aa.length+0;omega
 |p::r,aa=>by
  have h1:=w_ r (putK aa p.1 p.2);have h2:=iM aa p.1 p.2;show(fW (putK aa p.1 p.2) r).length<=_
  grind
theorem xx:∀{aa:List (Key×V)} {ws:List (Value×Value)},VV (aa.map λkv=>(kV kv.1,kv.2)) ws->∃rs,Carries (cV P w) ws rs/\KV aa rs
 |[],_,r=>by rw[Jj] at r;cases r;exact⟨[],True.intro,.nil⟩
 |p::aa,_,r=>by
  cases r with
  |@cons a b as bs h t=>
   obtain⟨rs,c,q⟩:=xx t;obtain⟨b1,b2⟩:=b;exact⟨(p.1,b2)::rs,⟨i4 h.1,rfl,c⟩,.cons ⟨rfl,h.2⟩ q⟩
def Ib(j7:List (TE×TE)):TE:=λσ H Q=>∀p,H p=none->uj j7 σ (upd H p (.dK [])) λps H2=>H2 p=some (.dK [])/\∃aa:List (Key×V),ps=aa.map (λkv=>(kV kv.1,kv.2))/\aa.length<=15/\Q (.ref p) (upd H2 p (.dK (fW [] aa)))
theorem mw(h:qx X pos keys values j7)(uT:keys.all (·.isSome)=true)(hl:keys.length=values.length)(h0:keys≠[])
  (Kn:keys.length<=15):PE X (.Dict keys values pos) (Ib j7):=by
 intro pins s σ H Q I q;refine wpAny_Dict_walk (knd:=cV X.prog X.w) uT hl h0 Kn (av (h pins _ σ _ _ (I.laid (λ_ _ q=>Yc _ q) (Yd _) (yl s.heap I.big)) (q _ (I.ar.fresh (Yd s.heap.objs.size)))) λws s2 ⟨ps,H2,I2,rel,e,aa,ep,lk,q2⟩=>?_);subst ep;obtain⟨rs,c,rk⟩:=xx rel;obtain⟨z,hd,Ng,r0,dd⟩:=uF I2.ar e;cases r0;refine⟨rs,c,dd,λh' gy hs=>⟨.ref s.heap.objs.size,_,?_,rfl,q2⟩⟩;have hz:(fW [] aa).length<=sizeLine:=by
  have h1:=w_ aa [];rw[List.length_nil] at h1;rw[sizeLine_eq];omega
 exact oO I2 (by rw[e];exact True.intro) hs (let⟨q,_,_,hq,_⟩:=gy;⟨q,hq⟩) (ui hz hd (rk.merge .nil) gy)
structure M2(X:Cx)(o:Expr)(m:Str)(apos:Pos)(e f:Expr)(cy:Pos):Prop where
 base:attributeBase o m X.env (eval o X.env)=eval o X.env
 BU:((backTo cy (starEach [e,f] X.env)).all (λx=>!x.1)&&(backToKw cy (keywordEach [] X.env)).all (λx=>x.1.isSome)
  &&decide (([e,f]:List Expr).length+([]:List Keyword).length+(if([]:List Keyword).isEmpty then 0 else 1)<30))=true
 line:(apos.endLine==cy.line)=true
 trees:backTo cy (starEach [e,f] X.env)=[(false,eval e X.env),(false,eval f X.env)]
def vL(H:Hp)(a:Addr):Prop:=(∃aa,Rd H a (.dK aa))\/∃aa,Rd H a (.dT aa)
theorem zQ(I:Inv X pins σ H s)(d:vL H a):
  s.TypeIs (.ref a) "dict"/\(∀b,Value.ref a=.ref b->∃ob,s.heap.get? b=some ob/\ob.dict=none)/\(a==sysModules)=false:=by
 rcases d with⟨aa,e⟩|⟨aa,e⟩
 ·obtain⟨_,hd,vs,_,dd⟩:=jF I.ar e;refine⟨dd.typeIs,λb q=>?_,hd⟩;cases q;obtain⟨ob,_,_,h1,h2,_⟩:=dd;exact⟨ob,h1,h2.2.1⟩
 ·obtain⟨_,hd,xs,_,dd⟩:=jG I.ar e;refine⟨dd.typeIs,λb q=>?_,hd⟩;cases q;obtain⟨ob,_,_,h1,h2,_⟩:=dd;exact⟨ob,h1,h2.2.1⟩
section
variable {X:Cx}{pins:aB}{σ:St}{H:Hp}{s:Shared}{a:Addr}{y d:V}{u r:Value}{o:Option V}{A:Around}{E:aE}
theorem G3(hu:A.units+1<cLine)(I:Inv X pins σ H s)(g:da H a y o)(ry:RelV y u)(rd:RelV d r)(h:∀w' s',Inv X pins σ H s'->RelV (o.getD d) w'->Q w' s'):
  wpAny X.md A (call (.builtin "dict.get") [.ref a,u,r]) Q E s:=by
 rcases g with⟨aa,k,e,ey,l⟩|⟨aa,k,b,e,ey,eb,l⟩
 ·subst ey;obtain⟨z,hd,vs,rel,dd⟩:=jF I.ar e;refine call_meetsIn slot_dict_get dd.typeIs entry_dict_get (PySem.F.args_dict_get_3 _ _ _) (meets_dict_get_default (cV X.prog X.w) a (i4 ry) hd r) ⟨_,dd.mapOf,h _ _ (I.tok _) ?_⟩;rw[l];exact(rel.val k).getD rd
 ·subst ey;cases(show u=Value.ref b from ry);obtain⟨z,hd,xs,rel,dd⟩:=jG I.ar e;refine call_meetsIn slot_dict_get dd.typeIs entry_dict_get (PySem.F.args_dict_get_3 _ _ _) (meetsH_dict_get_default (tupleKind (cV X.prog X.w)) a b hd r) ⟨tupleKind_room_in1 hu,k,xs,kR I.ar eb,dd,h _ _ (I.tok _) ?_⟩;rw[l];exact(rel.val k).getD rd
end
def G4(td ty tx:TE):TE:=λσ H Q=>td σ H λx H1=>∃a,x=.ref a/\vL H1 a/\ty σ H1 λy H2=>tx σ H2 λz H3=>∃o,da H3 a y o/\Q (o.getD z) H3
section
variable {X:Cx}{o e f:Expr}{apos cy:Pos}{td ty tx:TE}
theorem tI(hu:X.A.units+1<cLine)(ho:PE X o td)(he:PE X e ty)(hf:PE X f tx)(m:M2 X o "get" apos e f cy):PE X (.Call (.Attribute o "get" apos) [e,f] [] cy) (G4 td ty tx):=by
 intro pins s σ H Q I h;refine wpAny_Call_method m.base m.BU m.line PySem.F.plainAttrs_dict slot_dict_get PySem.F.type_dict_get (av (ho pins s σ H _ I h) λu s1 zq=>?_);obtain⟨x,H1,I1,rx,a,ex,d,q1⟩:=zq;subst ex;obtain rfl:u=Value.ref a:=rx;obtain⟨t1,t2,_⟩:=zQ I1 d;refine⟨t1,t2,?_⟩;rw[m.trees];refine Calls.callWith_builtin rfl (Calls.evalArgs_plain (Calls.spliced_cons (av (he pins s1 σ H1 _ I1 q1) λiv s2 ⟨y,H2,I2,ry,q2⟩=>
  Calls.spliced_cons (av (hf pins s2 σ H2 _ I2 q2) λfv s3 ⟨z,H3,I3,rz,ov,g,q3⟩=>Calls.spliced_nil ?_))))
 exact G3 hu I3 g ry rz λw' s4 I4 dF=>⟨_,H3,I4,dF,q3⟩
end
section
variable {X:Cx}{pins:aB}{σ:St}{H:Hp}{s:Shared}{a:Addr}{aa:List (Key×V)}{A:Around}{E:aE}
end
section
variable {X:Cx}{pins:aB}{σ:St}{H:Hp}{s:Shared}{a:Addr}{y:V}{u:Value}{A:Around}{E:aE}
end
def ph(P:Program)(w:World)(K:ag)(mg:aG)(base:Heap)(k:Nat)(x:Str)(C:Addr)(ps:List Str)(sp:Sp):Prop:=
 ∃f fd,Mk K C f/\aH P w K mg base aT k f fd ps sp/\Binds K fd ps []/\mg x=some (.ref C)
def uG(P:Program)(w:World)(K:ag)(mg:aG)(base:Heap)(k:Nat)(m:Str)(C:Addr)(ps:List Str)(sp:Sp):Prop:=
 ∃f fd,fc K C/\Meth K C m f/\aH P w K mg base aT k f fd ps sp/\Binds K fd ps []
section
variable {X:Cx}{k j:Nat}{x m:Str}{C:Addr}{ps:List Str}{sp:Sp}{p pos apos:Pos}{o e:Expr}{es:List Expr}{t:TA}{ta:TE}
theorem Ic(h:ph X.prog X.w X.K X.mg X.base k x C ps sp)(hr:bK j X.A)(hj:k+1<=j)(hg:Gl X x)(ha:PA X (e::es) t)(eJ:(x==("__debug__":Str))=false:=by decide)
  (he:fI X e es:=by rfl)(cH:gi X pos es:=by rfl):PE X (.Call (.Name x p) (e::es) [] pos) (Ar C sp [] E0 t):=by
 obtain⟨f,fd,M,F,b,hm⟩:=h;exact FH M F (hr.mono hj) hg hm b .nil uC ha eJ he cH
theorem Ie(h:uG X.prog X.w X.K X.mg X.base k m C ps sp)(hr:bK j X.A)(hj:k<=j)(ho:PE X o ta)(ha:PA X (e::es) t)
  (bU:fI X e es:=by rfl)(cH:gi X pos es:=by rfl)
  (ht:eval (.Call (.Attribute o m apos) (e::es) [] pos) X.env=(do
   let ov←eval o X.env
   standAt apos.atName
   let(f,first)←holding [ov] (getMethod ov m pl)
   callWith pos f first (backTo pos (starEach (e::es) X.env)) (backToKw pos (keywordEach [] X.env))):=by rfl):
  PE X (.Call (.Attribute o m apos) (e::es) [] pos) (Aq C m sp [] E0 ta t):=by
 obtain⟨f,fd,c,hm,F,b⟩:=h;exact FG ho c hm F (hr.mono hj) b .nil uC ha bU cH ht
end
theorem FZ{X:Cx}{K:ag}{e:Expr}{ta:TE}{f:Str}{pos:Pos}(h:X.K=K)(he:PE X e ta)(hb:attributeBase e f X.env (eval e X.env)=eval e X.env):PE X (.Attribute e f pos) (uQ K ta f):=h▸GH he hb
section
open PySem.AutoSeq1 (wpAny_loadPart')
end
theorem xh(p:Nat->Bool)(n:Nat):(List.range (n+1)).filter p=(List.range n).filter p++(if p n=true then[n] else[]):=by
 rw[Jl,Wl]
 grind
theorem gY{α β:Type}{F:α->β->Prop}:∀{xs:List α} {ys:List β} {x:α} {y:β},Paired F xs ys->F x y->Paired F (xs++[x]) (ys++[y]):=by
 intro xs ys x y h f;induction h with
 |nil=>exact .cons f .nil
 |cons r t ih=>exact .cons r ih
theorem DF:∀{xs:List α} {ys:List β},Paired F xs ys->xs.length=ys.length:=by
 intro xs ys h;induction h with
 |nil=>rfl
 |cons _ _ ih=>rw[Wg,Wg,ih]
theorem C7:∀{xs:List V} {ys:List β},Paired (λx y=>x=f y) xs ys->xs=ys.map f:=by
 intro xs ys h;induction h with
 |nil=>rfl
 |cons r t ih=>rw[Wk,←r,←ih]
theorem xy(n:Nat):(List.range n).filter (λ_=>true)=List.range n:=by simp
def cB(D:Addr)(H H':Hp):Prop:=∀b o,H b=some o->b≠D->H' b=some o
theorem cB.of(g:ah H H'):cB D H H':=λb o e _=>g b o e
theorem cB.put(g:cB D H H'):cB D H (upd H' D o):=λb u e n=>by rw[aU n];exact g b u e n
def AA(tt:TT)(te:TE)(fv:St)(D:Addr)(H:Hp)(v:V)(b:Bool)(Pe:V->Hp->Prop):Prop:=
 ∀H1,ah H H1->(∃ys,H1 D=some (.lst ys))->∀(Kt:VK) (Kf:Hp->Prop),(∀y H3,b=true->ah H1 H3->Pe y H3->Kt y H3)->(∀H3,b=false->ah H1 H3->Kf H3)->tt (some v::fv) H1 λc H2=>if c=true then te (some v::fv) H2 Kt else Kf H2
theorem xi{lo:Int}{n:Nat}{tt:TT}{te:TE}{fv:St}{D:Addr}{H:Hp}{Q:VK}(hn:n<=1000)(hD:H D=none)(p:Nat->Bool)(Pe:Nat->V->Hp->Prop)(mono:∀i y H1 H2,cB D H1 H2->Pe i y H1->Pe i y H2)
  (turn:∀i,i<n->AA tt te fv D H (.int (lo+i)) (p i) (Pe i))(fin:∀ys H',ah H H'->H' D=some (.lst ys)->Paired (λy i=>Pe i y H') ys ((List.range n).filter p)->Q (.ref D) H'):i3 (gp lo n) tt te fv D H Q:=by
 refine lY (λi ys H1=>i<=n/\ah H H1/\H1 D=some (.lst ys)/\Paired (λy j=>Pe j y H1) ys ((List.range i).filter p)) ⟨Y2 _,bg hD _,aF,.nil⟩ ?_ ?_
 ·rintro i ys H1 hi ⟨_,g,h1,pr⟩;have lC:=hi;have ll:=DF pr;have fl:=List.length_filter_le p (List.range i);rw[Wc] at fl;refine turn i hi H1 g ⟨_,h1⟩ _ _ (λy H3 pi g3 py=>⟨g3 _ _ h1,by rw[sizeLine_eq];omega,lC,?_,aF,?_⟩) (λH3 pi g3=>⟨lC,g.trans g3,g3 _ _ h1,?_⟩)
  ·intro b o e;rw[aU (aY e hD)];exact g3 _ _ (g _ _ e)
  ·rw[xh,if_pos pi];exact gY (Paired.bM pr λz j q=>mono _ _ _ _ (cB.put (cB.of g3)) q) (mono _ _ _ _ (cB.put (cB.of (ah.refl _))) py)
  ·rw[xh,if_neg (by rw[pi];exact Yg),Yy];exact Paired.bM pr λz j q=>mono _ _ _ _ (cB.of g3) q
 ·grind
theorem xj{lo:Int}{n:Nat}{tt:TT}{te:TE}{fv:St}{D:Addr}{H:Hp}{Q:VK}(hn:n<=1000)(hD:H D=none)(p:Nat->Bool)(f:Nat->V)
  (turn:∀i,i<n->AA tt te fv D H (.int (lo+i)) (p i) (λy _=>y=f i))(fin:∀H',ah H H'->H' D=some (.lst (((List.range n).filter p).map f))->Q (.ref D) H'):i3 (gp lo n) tt te fv D H Q:=
 xi hn hD p (λi y _=>y=f i) (λ_ _ _ _ _ e=>e) turn λys H' g h1 pr=>fin H' g (by rw[←C7 pr];exact h1)
theorem DG{lo:Int}{n:Nat}{te:TE}{fv:St}{D:Addr}{H:Hp}{Q:VK}(hn:n<=1000)(hD:H D=none)(f:Nat->V)
  (turn:∀i,i<n->∀H1,ah H H1->∀Kt:VK,(∀H3,ah H1 H3->Kt (f i) H3)->te (some (.int (lo+i))::fv) H1 Kt)(fin:∀H',ah H H'->H' D=some (.lst ((List.range n).map f))->Q (.ref D) H'):i3 (gp lo n) uW te fv D H Q:=
 xj hn hD (λ_=>true) f (λi hi H1 g _ Kt Kf kt _=>fG (cg (turn i hi H1 g Kt λH3 g3=>kt (f i) H3 rfl g3 rfl))) λH' g h1=>fin H' g (by rw[h1,xy])
abbrev Nw(H:Hp)(o:HO)(Q:VK):Prop:=∀(p:Addr) (H':Hp),H p=none->ah H H'->H' p=some o->Q (.ref p) H'
theorem Nw.at(h:Nw H o Q):∀p,H p=none->Q (.ref p) (upd H p o):=λp np=>h p _ np (bg np o) aF
def pj(t:TA):TE:=λσ H Q=>t σ H λxs H1=>xs.length<=sizeLine/\Nw H1 (.tup xs) Q
def uH(t:TA):TE:=λσ H Q=>t σ H λxs H1=>xs.length<=sizeLine/\Nw H1 (.lst xs) Q
section
variable {X:Cx}{es:List Expr}{t:TA}{pos:Pos}{K:ag}
theorem cQ{x1}(h:PA X es t):PE X (.Tuple es x1 pos) (pj t):=by
 intro pins s σ H Q I hq;refine wpAny_Tuple_spliced (av (h pos pins s σ H _ I hq) λus s1 ⟨xs,H1,I1,r,z,q⟩=>⟨by rw[←r.length];exact z,⟨.ref s1.heap.objs.size,upd H1 s1.heap.objs.size (.tup xs),I1.laid (λb u e=>Yc _ e) (Yd _) ?_,rfl,q.at _ (I1.ar.fresh (Yd _))⟩⟩);exact⟨z,us,r,⟨_,Ym _ rfl,rfl,_,rfl,rfl⟩⟩
theorem cE(h:PA X es t):PE X (.List es pos) (uH t):=by
 intro pins s σ H Q I hq;refine wpAny_List_spliced (av (h pos pins s σ H _ I hq) λus s1 ⟨xs,H1,I1,r,z,q⟩=>⟨by rw[←r.length];exact z,⟨.ref s1.heap.objs.size,upd H1 s1.heap.objs.size (.lst xs),I1.laid (λb u e=>Yc _ e) (Yd _) ?_,rfl,q.at _ (I1.ar.fresh (Yd _))⟩⟩);exact⟨z,us,0,r,Ym _ rfl⟩
theorem cf.mono(h:cf X f r)(m:∀xs H Q,r' xs H Q->r xs H Q):cf X f r':=λpins s σ H xs us Q I v q=>h pins s σ H xs us Q I v (m xs H Q q)
theorem bu.mono(h:bu X f r)(m:∀x y H Q,r' x y H Q->r x y H Q):bu X f r':=λpins s σ H x y v u Q I rx ry q=>h pins s σ H x y v u Q I rx ry (m x y H Q q)
theorem lu.mono(h:lu X r)(m:∀x lo hi H Q,r' x lo hi H Q->r x lo hi H Q):lu X r':=λpins s σ H x v vl vu lo hi sl Q I rx hs pl pu q=>h pins s σ H x v vl vu lo hi sl Q I rx hs pl pu (m x lo hi H Q q)
inductive xA(xs:List V)(H:Hp)(Q:VK):Prop
 |mk (j:Int) (aC:xs=[.int j]) (aI:Nw H (.fH 0 j) Q):xA xs H Q
def E4:List V->Hp->VK->Prop:=λxs H Q=>xA xs H Q
theorem Di:cf X (.type "range") E4:=og.mono λ_ _ _ zq=>by obtain⟨j,e,q⟩:=zq;exact⟨j,e,q.at⟩
inductive xB(xs:List V)(H:Hp)(Q:VK):Prop
 |mk (p:Addr) (n:Nat) (aC:xs=[.ref p]) (aI:H p=some (.fH 0 (n:Int))) (aW:n<=1000) (bt:Nw H (.tup ((a8 n).map V.int)) Q):xB xs H Q
def E5:List V->Hp->VK->Prop:=λxs H Q=>xB xs H Q
theorem CU(hc:X.calm=true):cf X (.type "tuple") E5:=(wY hc).mono λ_ _ _ zq=>by obtain⟨p,n,e,h,l,q⟩:=zq;exact⟨p,n,e,h,l,q.at⟩
def E6(K:ag):List V->Hp->VK->Prop:=λxs H Q=>∃p ys,xs=[.ref p]/\(ak K H p ys\/ay K H p ys)/\Nw H (.lst ys) Q
theorem C8(h:X.K=K):cf X (.type "list") (E6 K):=h▸Dg.mono λ_ _ _ zq=>by obtain⟨p,ys,e,s,q⟩:=zq;exact⟨p,ys,e,s,q.at⟩
inductive yY(K:ag)(x:V)(lo:Option Int)(hi:Option Int)(H:Hp)(Q:VK):Prop
 |mk (a xs) (aC:x=.ref a) (aI:ak K H a xs) (aW:Nw H (.lst (jM xs lo hi)) Q):yY K x lo hi H Q
def Ig(K:ag):V->Option Int->Option Int->Hp->VK->Prop:=λx lo hi H Q=>yY K x lo hi H Q
theorem yn(h:X.K=K):lu X (Ig K):=h▸FN.mono λ_ _ _ _ _ zq=>by obtain⟨a,xs,e,s,q⟩:=zq;exact⟨a,xs,e,s,q.at⟩
def Ih:R2:=λx y H Q=>∃l b xs zs,x=.ref l/\y=.ref b/\H l=some (.lst xs)/\H b=some (.lst zs)/\xs.length+zs.length<=sizeLine/\Nw H (.lst (xs++zs)) Q
theorem oP:bu X (binaryOp .Add) Ih:=GP.mono λ_ _ _ _ zq=>by obtain⟨l,b,xs,zs,e1,e2,h1,h2,z,q⟩:=zq;exact⟨l,b,xs,zs,e1,e2,h1,h2,z,q.at⟩
def F0:TE:=λ_ H Q=>Nw H (.dK []) Q
theorem kE:PE X (.Dict [] [] pos) F0:=λpins s σ H Q I q=>E3 pins s σ H Q I q.at
end
abbrev Ch(H:Hp)(a:Addr)(o:HO)(R:Hp->Prop):Prop:=∀H',cB a H H'->H' a=some o->R H'
theorem Ch.at(h:Ch H a o R):R (upd H a o):=h _ (cB.put (cB.of (ah.refl _))) aF
section
variable {X:Cx}
theorem lA.mono{id:String}{r r':V->List V->Hp->VK->Prop}(h:lA X id r)(m:∀x xs H Q,r' x xs H Q->r x xs H Q):lA X id r':=λpins s σ H x xs v us Q I rx rv q=>h pins s σ H x xs v us Q I rx rv (m x xs H Q q)
inductive xC(x:V)(vs:List V)(H:Hp)(Q:VK):Prop
 |mk (l xs y) (aC:x=.ref l) (aI:vs=[y]) (aW:H l=some (.lst xs)) (bt:xs.length<sizeLine) (bV:Ch H l (.lst (xs++[y])) (Q .aD)):xC x vs H Q
def tJ:V->List V->Hp->VK->Prop:=λx vs H Q=>xC x vs H Q
theorem jw:lA X "list.append" tJ:=oB.mono λ_ _ _ _ zq=>by obtain⟨l,xs,y,e1,e2,h,z,q⟩:=zq;exact⟨l,xs,y,e1,e2,h,z,q.at⟩
variable {o i value:Expr}{td ty tv ta:TE}{pos pos':Pos}{f:Str}
inductive yo(D:Ends)(σ:St)(v:V)(x:V)(y:V)(H3:Hp):Prop
 |mk (a aa k) (aC:x=.ref a) (aI:H3 a=some (.dK aa)) (aW:y=kV k) (bt:aa.length<sizeLine) (bV:Ch H3 a (.dK (putK aa k v)) (D.nx σ)):yo D σ v x y H3
def G5(td ty tv:TE):TS:=λD σ H=>tv σ H λv H1=>td σ H1 λx H2=>ty σ H2 λy H3=>yo D σ v x y H3
theorem kH(hu:X.A.units+1<cLine)(ho:PE X o td)(hi:PE X i ty)(hv:PE X value tv)(hs:swapsWith value (some (.Subscript o i pos')) pos.line X.env=pure false:=by rfl):
  PS X (.Assign [.Subscript o i pos'] value pos) (G5 td ty tv):=by
 intro pins s σ H D I h;refine wpAny_Assign_Subscript (av (hv pins s σ H _ I h) λr s1 zq=>?_) hs;obtain⟨v,H1,I1,rv,q1⟩:=zq;refine av (ho pins s1 σ H1 _ I1 q1) λu s2 zq=>?_;obtain⟨x,H2,I2,rx,q2⟩:=zq;refine av (hi pins s2 σ H2 _ I2 q2) λiv s3 zq=>?_;obtain⟨y,H3,I3,ry,a,aa,k,ex,ha,ey,l,q3⟩:=zq;subst ex;subst ey;obtain rfl:u=Value.ref a:=rx;exact EB hu I3 (pP.k ha l) ry rv λs4 I4=>⟨σ,_,I4,q3.at⟩
end
end L2
namespace L2
open PySem PySem.W PySem.Spec PyProof.Rows
end L2
namespace L2
open PySem PySem.Spec PyProof.Rows
abbrev pk(D:List (Str×Str)):List (Str×PyData):=D.map λp=>(p.1,PyData.str p.2)
def jO(K:ag)(a:Addr)(D:List (Str×Str)):Prop:=KTD.tabLook KTD.flatLooks (λb=>K.lookup b) a (pk D)=true
theorem l6(f:δ->ε)(k:Str):∀D:List (Str×δ),KTD.datumAt k (D.map λp=>(p.1,f p.2))=(KTD.datumAt k D).map f
 |[]=>rfl
 |p::D=>by
  rw[Wk];unfold KTD.datumAt;by_cases e:k=p.1;·simp[e]
  ·simp only[e];exact l6 f k D
theorem jO.here{K:ag}{a:Addr}{D:List (Str×Str)}{h:Heap}(t:jO K a D)(jV:K.In h):KTD.Here h h a ((pk D).map λp=>(p.1,KTD.Dat.flat p.2)):=
 ⟨KTD.TabOf.text (KTD.tab_of_look (λ_ _=>KTD.flat_of_looks) (λa o e=>jV a o e) t),λ_ _ e=>e⟩
def ic(D:List (Str×Str))(z:Str):Bool:=(KTD.datumAt z D).isSome
theorem keys_has(D:List (Str×Str))(z:Str):KTD.inKeys z ((pk D).map λp=>(p.1,KTD.Dat.flat p.2))=ic D z:=by
 rw[←KTD.isSome_datumAt,l6 KTD.Dat.flat,l6 PyData.str];unfold ic
 grind
def G6(K:ag)(neg:Bool):R2:=λx y H Q=>∃(z:Str) (a:Addr) (D:List (Str×Str)),x=.str z/\y=.ref a/\jO K a D/\Q (.bl (if neg=true then !ic D z else ic D z)) H
theorem G7{X:Cx}{K:ag}(hK:X.K=K):bu X (compareOp .In) (G6 K false):=by
 subst hK;rintro pins s σ H x y v u Q I rx ry ⟨z,a,D,rfl,rfl,t,q⟩;obtain⟨tk,rfl⟩:=rx;obtain rfl:u=Value.ref a:=ry;refine KTD.in_text (t.here I.bX) ?_;rw[keys_has];exact⟨.bl (ic D z),H,I.tok _,rfl,q⟩
def G8(K:ag):R2:=λx y H Q=>∃(a:Addr) (z r:Str) (D:List (Str×Str)),x=.ref a/\y=.str z/\jO K a D/\KTD.datumAt z D=some r/\Q (.str r) H
theorem yZ{X:Cx}{K:ag}(hK:X.K=K):gw X (G8 K):=by
 subst hK;intro value slice pins s σ H x y v u Q I rx ry h hs;obtain⟨a,z,r,D,rfl,rfl,t,e,q⟩:=h;obtain⟨tk,rfl⟩:=ry;obtain rfl:v=Value.ref a:=rx;have T:=t.here I.bX;refine tail_any T.typeIs slot_dict_getitem.lookup ?_ hs;unfold getItem;try with_reducible refine wpAny_holding ?_
 refine wpAny_bind (wpAny_sequenceKey T.typeIs (by decide) ?_);refine wpAny_bind (wpAny_callSpecial?_slot T.typeIs slot_dict_getitem
  (wpAny_call_entry slot_dict_getitem T.typeIs entry_dict_getitem ?_ (args_dict_getitem _ _)))
 show wpAny _ _ (dictGet a (.str z tk)>>=_) _ _ s;have ed:KTD.datumAt z ((pk D).map λp=>(p.1,KTD.Dat.flat p.2))=some (.flat (.str r)):=by rw[l6 KTD.Dat.flat,l6 PyData.str,e];rfl
 refine wpAny_bind (KTD.dictGet_text T (λd v ha hv=>wpAny_pure ⟨v,rfl,wpAny_pure ?_⟩) λhn=>by rw[ed] at hn;cases hn);rw[ed] at ha;cases ha;cases hv s.heap with
 |str x t'=>exact⟨.str r,H,I.tok _,⟨t',rfl⟩,q⟩
theorem setC(h:u D (σ.set i (some v)) H):m5 (k6 (tC v) (hZ i)) u D σ H:=h
theorem aX(h:te σ H λx H1=>u D (σ.set i (some x)) H1):m5 (k6 te (hZ i)) u D σ H:=h
theorem b_(h:H a=some (.dK aa))(e:aA aa (.inr z)=o):da H a (.str z) o:=.inl ⟨aa,.inr z,.inl h,rfl,e.symm⟩
section
variable {X:Cx}{elt iter fL:Expr}{xs:List Str}{pos:Pos}{ifs:List Expr}{scope:Scope}{cl:List (Str×Addr)}{fr:List (Str×Nat)}{tg:TG}{tt:TT}{te:TE}{pins:aB}{σ:St}
def G9(n:Nat)(wi:TI)(fr:List (Str×Nat))(tg:TG)(tt:TT)(te:TE):TE:=λσ H Q=>wi σ H λJ H1=>∀D,H1 D=none->ud n J tg tt te (eX σ fr) D H1 Q
theorem E7(hc:X.calm=true)(S:kC X scope cl xs fr)(hg:∀C s H fp,PG (cW X xs fr scope cl C s H fp) fL tg)(hi:PI X fL iter wi)
  (ht:∀C s H fp,j4 (cW X xs fr scope cl C s H fp) ifs tt)(he:∀C s H fp,PE (cW X xs fr scope cl C s H fp) elt te)
  (hs:∀x,foldedSetIterable iter X.env x=pure x:=by intro _;rfl):PE X (.ListComp elt [⟨fL,iter,ifs,0⟩] scope pos) (G9 xs.length wi fr tg tt te):=by
 intro pins s σ H Q I h;refine wpAny_comprehension_free rfl hs S.m8 S.kind S.names (av (hi pins s σ H _ I h) λv s1 h1=>av h1 λnF s2 h2=>?_);obtain⟨it,fp,tn,J,H2,e,I2,T,dU,f2,hw⟩:=h2;subst e;refine xr (RR:=λacc C=>compPost X.md X.A X.xe none (EP X pins σ Q) acc C) hc S hg ht he I2 T dU f2 hw ?_;intro D C s1 H1 m I1 hn f0 f1 f3 f4 f5 q;exact⟨m,hn,λh' j5=>⟨.ref D,H1,I1.turned (λb o hb e=>j5.extBut b o hb e) f0 f1 (.inr f3) f4 f5,rfl,q⟩⟩
end
theorem D1{K:ag}{a:Addr}{xs:List V}{n:Nat}{tg:TG}{tt:TT}{te:TE}{fv:St}{D:Addr}{H:Hp}{Q:VK}(Pv:Nat->List V->Hp->Prop)(h0:Pv 0 [] (upd H D (.lst [])))(hl:∀i ys H,i<=xs.length->Pv i ys H->ak K H a xs)
  (hs:∀i v ys H,xs[i]?=some v->Pv i ys H->∀os:St,os.length=n->tg v (os++fv) H λcL H2=>(∃lB:St,lB.length=n/\cL=lB++fv)/\tt cL H2 λc H1=>if c=true then te cL H1 λy H3=>H3 D=some (.lst ys)/\ys.length<sizeLine/\Pv (i+1) (ys++[y]) (upd H3 D (.lst (ys++[y]))) else Pv (i+1) ys H1)
  (hd:∀ys H,Pv xs.length ys H->Q (.ref D) H):ud n (ja K a) tg tt te fv D H Q:=by
 refine⟨λi m ys H=>m=xs.length-i/\i<=xs.length/\Pv i ys H,⟨xs.length,by simp,Y2 _,h0⟩,?_⟩;rintro i m ys H ⟨rfl,hi,p⟩;have q:=hl i ys H hi p;by_cases bE:i<xs.length
 ·refine .inr ⟨⟨xs,xs[i],q,by simp[bE]⟩,Pv (i+1),λiq H' p'=>⟨xs.length-(i+1),by omega,rfl,bE,p'⟩,λx H' y=>?_⟩;obtain⟨e,y⟩:=y
  grind
 ·have e:i=xs.length:=by omega
  subst e;exact .inl ⟨⟨xs,q,Yd _⟩,hd ys H p⟩
section
variable {prog:Program}{w:World}{A:Around}{R:Result->Shared->Prop}{s:Shared}{elt t1 i1 t2 i2:Expr}{scope:Scope}{pos:Pos}{it acc:Value}{env:Env}
end
section
variable {X:Cx}{elt t1 i1 t2 i2:Expr}{xs:List Str}{pos:Pos}{scope:Scope}{cl:List (Str×Addr)}{fr:List (Str×Nat)}{Nh Ni:TG}{Nj:TI}{te:TE}{pins:aB}{σ:St}
end
theorem dy{X:Cx}{K:ag}{tg l:Expr}{tl:TE}(h:X.K=K)(hl:PE X l tl):PI X tg l (An K tl):=h▸yG hl
theorem d7{X:Cx}{K:ag}{pos:Pos}{es:List Expr}{k:Nat}{t:gk}{n:Nat}(h:X.K=K)(hc:X.calm=true)(hg:nE X es t)
  (hn:(assignEach es X.env).length=n:=by rfl)(bU:(assignEach es X.env).findIdx? (·.1)=none:=by rfl):PG X (.Tuple es k pos) (AW K n t):=h▸GB hc hg hn bU
section
variable {prog:Program}{w:World}{κ:Type}[DecidableEq κ]{knd:PySem.KeyKind prog w κ}{A:Around}{E:aE}{s:Shared}
theorem CO{d:Addr}{aa:List (κ×Value)}{k:κ}{key dflt:Value}{Q:aE}(i8:knd.is k key=true)(hm:s.heap.DictOf knd d aa)
  (G_:∀v,valueAt aa k=some v->Q v {s with toks:=s.toks+1})
  (Jt:valueAt aa k=none->∀h',h'.DictOf knd d (stored aa k dflt)->Heap.SameBut d s.heap h'->Q dflt {s with heap:=h',toks:=s.toks+1})
  (hsz:aa.length<=sizeLine):wpAny (model prog w) A (dictSetDefault d key dflt) Q E s:=by
 obtain⟨o,es,ep,ho,hc,hd,hk,hp,hn⟩:=hm;have nK:es.size<=sizeLine:=by
  have e1:=hp.length
  grind
 have hf:∀x,findBy knd.is es x=valueAt aa x:=λx=>by
  rw[←hp.find x];simp[findBy]
 unfold dictSetDefault;try with_reducible refine wpAny_holding ?_
 refine wpAny_bind (knd.pyHash i8 (wpAny_bind (wpAny_dictFind_of i8 ho hd hk ?_)));have MV:(es.findIdx? λe=>knd.is k e.key)=aa.findIdx? λkv=>decide (kv.1=k):=by
  rw[←hp.findIdx k];obtain⟨l⟩:=es;simp
 cases hi:es.findIdx? λe=>knd.is k e.key with
 |some i=>
  have qy:valueAt aa k=(es[i]?).map (·.val):=by rw[←hf k,findBy_of_findIdx?,hi]
  refine wpAny_bind (wpAny_dictEntries ho hd ?_);cases he:es[i]? with
  |none=>
   have:=Array.findIdx?_eq_some_iff_findIdx_eq.mp hi
   grind
  |some e=>
   rw[he] at qy;exact wpAny_bind (wpAny_rule (wpAny_pure (G_ e.val qy)))
 |none=>
  have qy:valueAt aa k=none:=by rw[←hf k,findBy_of_findIdx?,hi]
  have Bb:¬(aa.any λkv=>decide (kv.1=k))=true:=by
   grind
  refine wpAny_bind (wpAny_rule (wpAny_bind (wpAny_updateDictKeys ho hd (wpAny_pure (Jt qy _ ⟨_,_,ep+1,Heap.get?_update_self _ ho (Obj.isFreed_of_dict (Obj.data_mapDictKeys hd _)),
   hc.mapDictKeys _,Obj.data_mapDictKeys hd _,hk.push i8 _,?_,?_⟩ (Heap.SameBut.update ..))))))
  ·rw[stored,if_neg Bb];have:=hp.append i8 (knd.hash k) dflt
   grind
  ·rw[stored,if_neg Bb,Yo,Ww]
   grind
theorem CQ{d:Addr}{k:κ}{key:Value}(i8:knd.is k key=true)(hd:(d==sysModules)=false)(dflt:Value):
  MeetsIn prog w (Builtin.«dict.setdefault» ⟨[.ref d,key,dflt],[]⟩) (λ_ R s=>∃aa,s.heap.DictOf knd d aa/\aa.length<=sizeLine/\
   (∀v,valueAt aa k=some v->R (.ok (.ret v)) {s with toks:=s.toks+1})/\
   (valueAt aa k=none->∀h',h'.DictOf knd d (stored aa k dflt)->Heap.SameBut d s.heap h'->R (.ok (.ret dflt)) {s with heap:=h',toks:=s.toks+1})):=
 .of_wp λA R s ⟨aa,hm,hz,h1,h2⟩=>by
  refine wpAny_bind (wpAny_bind (wpAny_notOrdered_dict hm.typeIs (wpAny_pure ?_)));show wpAny _ _ (if(d==sysModules)=true then _ else(dictSetDefault d key dflt>>=_)) _ _ s;rw[if_neg (by rw[hd];exact Yg)];exact wpAny_bind (CO i8 hm (λv hv=>wpAny_pure ⟨v,rfl,h1 v hv⟩) (λhn h' Ko j5=>wpAny_pure ⟨dflt,rfl,h2 hn h' Ko j5⟩) hz)
end
section
variable {X:Cx}{pins:aB}{σ:St}{H:Hp}{s:Shared}{a:Addr}{aa:List (Key×V)}{k:Key}{z:V}{u r:Value}{A:Around}{E:aE}
theorem E8(I:Inv X pins σ H s)(e:H a=some (.dK aa))(ry:RelV (kV k) u)(rz:RelV z r)(l:aa.length<sizeLine)
  (h1:∀v w' s',aA aa k=some v->Inv X pins σ H s'->RelV v w'->Q w' s')(h2:∀s',aA aa k=none->Inv X pins σ (upd H a (.dK (putK aa k z))) s'->Q r s'):
  wpAny X.md A (call (.builtin "dict.setdefault") [.ref a,u,r]) Q E s:=by
 obtain⟨zz,hd,vs,rel,dd⟩:=uF I.ar e;have hz:vs.length<=sizeLine:=by rw[←rel.length];exact zz
 have rv:=rel.val k;refine call_meetsIn PySem.F.slot_dict_setdefault dd.typeIs PySem.F.entry_dict_setdefault (PySem.F.args_dict_setdefault_3 _ _ _) (CQ (i4 ry) hd r) ⟨vs,dd,hz,λv hv=>?_,λhn h' gy hs=>?_⟩
 ·cases ev:aA aa k with
  |none=>rw[ev,hv] at rv;cases rv
  |some x=>
   rw[ev,hv] at rv;exact h1 x v _ ev (I.tok _) rv
 ·have ev:aA aa k=none:=by
   cases ev:aA aa k with
   |none=>rfl
   |some x=>rw[ev,hn] at rv;cases rv
  have hl:(putK aa k z).length<=sizeLine:=by have:=iM aa k z;omega
  exact h2 _ ev (oO I (by rw[e];exact True.intro) hs (let⟨q,_,_,hq,_⟩:=gy;⟨q,hq⟩) (ui hl hd (rel.put k rz) gy))
end
def l_(td ty tx:TE):TE:=λσ H Q=>td σ H λx H1=>∃a,x=.ref a/\vL H1 a/\ty σ H1 λy H2=>tx σ H2 λz H3=>∃aa k,H3 a=some (.dK aa)/\y=kV k/\aa.length<sizeLine/\
 (∀v,aA aa k=some v->Q v H3)/\(aA aa k=none->Ch H3 a (.dK (aa++[(k,z)])) (Q z))
section
variable {X:Cx}{o e f:Expr}{apos cy:Pos}{td ty tx:TE}
theorem oq(ho:PE X o td)(he:PE X e ty)(hf:PE X f tx)(m:M2 X o "setdefault" apos e f cy):PE X (.Call (.Attribute o "setdefault" apos) [e,f] [] cy) (l_ td ty tx):=by
 intro pins s σ H Q I h;refine wpAny_Call_method m.base m.BU m.line PySem.F.plainAttrs_dict PySem.F.slot_dict_setdefault PySem.F.type_dict_setdefault (av (ho pins s σ H _ I h) λu s1 zq=>?_);obtain⟨x,H1,I1,rx,a,ex,d,q1⟩:=zq;subst ex;obtain rfl:u=Value.ref a:=rx;obtain⟨t1,t2,_⟩:=zQ I1 d;refine⟨t1,t2,?_⟩;rw[m.trees];refine Calls.callWith_builtin rfl (Calls.evalArgs_plain (Calls.spliced_cons (av (he pins s1 σ H1 _ I1 q1) λiv s2 ⟨y,H2,I2,ry,q2⟩=>
  Calls.spliced_cons (av (hf pins s2 σ H2 _ I2 q2) λfv s3 ⟨z,H3,I3,rz,aa,k,ea,ey,lz,q3,q4⟩=>Calls.spliced_nil ?_))))
 subst ey;refine E8 I3 ea ry rz lz (λv w' s4 ev I4 rv=>⟨v,H3,I4,rv,q3 v ev⟩) λs4 ev I4=>?_;rw[oI _ ev] at I4;exact⟨z,_,I4,rz,(q4 ev).at⟩
end
end L2
namespace L2
open PySem PySem.W PySem.Calls PySem.Spec PyProof.Rows
section
variable {prog:Program}{w:World}{A:Around}{E:aE}{s:Shared}
end
section
variable {prog:Program}{w:World}{A:Around}{E:aE}{s:Shared}
end
section
variable {prog:Program}{w:World}{A:Around}{E:aE}{s:Shared}
end
section
variable {n:Nat}{lt:Nat->Nat->Bool}
end
section
variable {prog:Program}{w:World}{A:Around}{E:aE}{s:Shared}
end
end L2
namespace L2
open PySem PySem.Spec PyProof.Rows
theorem jC{X:Cx}{K:ag}{ex:Expr}{T:String}{r:V->List V->Hp->VK->Prop}{to:TE}{t:TA}(h:X.K=K)(p:PE X ex (j2 X.K T r to t)):PE X ex (j2 K T r to t):=h▸p
theorem EC{X:Cx}{K:ag}{a:Expr}{ta:TE}(h:X.K=K)(p:PT X a (λσ H Q=>ta σ H λx H'=>∃k,pJ X.K x H' k/\Q k H')):PT X a (λσ H Q=>ta σ H λx H'=>∃k,pJ K x H' k/\Q k H'):=h▸p
section
variable {X:Cx}{pins:aB}{σ:St}{H:Hp}{s:Shared}{d:Addr}{aa:List (Key×V)}
end
theorem zR{α β:Type}{f:α->Option β}{g:α->β}:∀{l:List α},(∀k∈l,f k=some (g k))->l.filterMap f=l.map g
 |[],_=>rfl
 |a::l,h=>by rw[Wd,h a Yv,Wk,zR λk hk=>h k (Yx _ hk)]
theorem E9(af:List Value):slicePick af.toArray none none (some (-1))=af.reverse.toArray:=by
 unfold slicePick;have hb:sliceBounds none none (some (-1)) af.toArray.size=((af.length:Int)-1,-1,-1):=by
  unfold sliceBounds;simp
 rw[hb];have hr:sliceRange ((af.length:Int)-1) (-1) (-1)=(List.range af.length).map λk=>af.length-1-k:=by
  unfold sliceRange
  grind
 show(((sliceRange ((af.length:Int)-1) (-1) (-1)).filterMap (af.toArray[·]?)).toArray)=_;rw[hr];have hm:((List.range af.length).map λk=>af.length-1-k).filterMap (af.toArray[·]?)=af.reverse:=by
  rw[List.filterMap_map];rw[zR (g:=λk=>af.getD (af.length-1-k) Value.none) λk hk=>by
   have:=Wa.mp hk;show af.toArray[af.length-1-k]?=some (af.getD (af.length-1-k) Value.none);rw[List.getElem?_toArray,Yt,Yf (by omega)];rfl]
  refine Wp λi=>?_
  grind
 rw[hm]
theorem xb:∀{xs:List V} {us:List Value},Vals xs us->Vals xs.reverse us.reverse
 |_,_,.nil=>.nil
 |_,_,.cons r t=>by
  rw[Wx,Wx];exact(xb t).append (.cons r .nil)
section
variable {P:Program}{w:World}{A:Around}{E:aE}{s:Shared}{it d:Addr}{i n ep:Nat}{ok ov:Value}{o:Obj}{es:Array DictEntry}{e:DictEntry}
end
section
variable {P:Program}{w:World}{A:Around}{E:aE}{s:Shared}{d o:Addr}{knd:HeapKind P w (List Key)}{xs ms:List (List Key×Addr×Value)}
end
section
variable {X:Cx}
end
section
variable {X:Cx}{pins:aB}{σ:St}{H:Hp}{s:Shared}{d:Addr}{aa:List (List Key×V)}
end
section
variable {X:Cx}{o i:Expr}{td ty:TE}{A0 pos:Pos}
end
end L2
namespace L2
open PySem PySem.W PySem.Spec PyProof.Rows
section
variable {prog:Program}{w:World}{A:Around}{E:aE}{s:Shared}
end
theorem y0:bu X (binaryOp .Mult) (λx y H Q=>∃(z:Str) (n:Nat),x=.str z/\y=.int (n:Int)/\z.length<=100/\n<=100/\Q (.str (Txt.mul z (n:Int))) H):=by
 intro pins s σ H x y v u Q I rx ry h;obtain⟨z,n,rfl,rfl,lz,ln,q⟩:=h;obtain⟨t,rfl⟩:=rx;obtain⟨t',rfl⟩:=ry;have lm:z.length*n<=10000:=Y5 (Nat.mul_le_mul lz ln) (by omega);refine PySem.SB.mul ⟨?_,λh1 _=>?_,λ_ _=>?_⟩ λt2 k=>⟨.str (Txt.mul z (n:Int)),H,I.tok k,⟨t2,rfl⟩,q⟩;·rw[decide_eq_false (by omega),decide_eq_false (by omega)];rfl
 ·have hn:(1:Int)<=(n:Int):=by omega
  intro Nk;have h3:((2:Int)^63-1)/(n:Int)≥(2^63-1)/100:=by
   refine Int.le_ediv_of_mul_le (by omega) ?_
   grind
  have h4:((2:Int)^63-1)/100>100:=by decide
  omega
 ·rw[Yp];exact decide_eq_false (by rw[sizeLine_eq];omega)
section
variable {X:Cx}
end
def qz(g:Nat->Value):Nat->Nat->List Value
 |0,_=>[]
 |n+1,i=>g i::qz g n (i+1)
theorem zS(g:Nat->Value):∀(us:List Value) (i:Nat),(∀k,us[k]?=some (g (i+k))\/us.length<=k)->us=qz g us.length i
 |[],_,_=>rfl
 |a::r,i,h=>by
  have e:a=g i:=by
   rcases h 0 with z|z;·grind
   ·cases z
  refine congr (congrArg _ e) (zS g r (i+1) λk=>?_);have:=h (k+1)
  grind
inductive bh(K:ag)(x:Str)(st:Stmt)(f:Addr):Prop
 |mk {od an:Option Addr} {sl:Array (Option Value)} {oc kV dc pm cd ct:Value} (a:nsIn K mainGlobals x=some (some (.ref f))) (l:K.lookup f=some ⟨oc,od,.func (fnOf x x (hG st) (eW st) (aL st) .none kV dc pm an cd ct),sl⟩) (c:codeIn K cd x=true) (k:keepIn K (.ref f)=true):bh K x st f
inductive ji(K:ag)(C:Addr)(x q:Str)(st:Stmt)(f:Addr):Prop
 |mk {od an:Option Addr} {sl:Array (Option Value)} {oc kV dc pm cd ct:Value} (a:PySem.W.findIn K (.ref C) x=some (some (.ref f))) (b:isFn K (.ref f)=true) (l:K.lookup f=some ⟨oc,od,.func (fnOf x q (hG st) (eW st) (aL st) .none kV dc pm an cd ct),sl⟩) (c:codeIn K cd q=true) (k:keepIn K (.ref f)=true):ji K C x q st f
inductive fj(P:Program)(w:World)(K:ag)(mg:aG)(base:Heap):Prop
 |mk {h:Heap} (X:K.In h) (G:h.Ns mainGlobals mg):fj P w K mg base
abbrev gz(x q:Str)(st:Stmt)(ps:List Str):Prop:=∀(kV doc pm:Value) (an:Option Addr) (a_ ct:Value) (g:Nat->Value),bindArgs (fnOf x q (hG st) (eW st) (aL st) .none kV doc pm an a_ ct) ⟨qz g ps.length 0,[]⟩=pure (ps.zip (qz g ps.length 0))
theorem gz.at{x q:Str}{st:Stmt}{ps:List Str}(b:gz x q st ps)(kV doc pm:Value)(an:Option Addr)(a_ ct:Value)(us:List Value)(hl:us.length=ps.length):bindArgs (fnOf x q (hG st) (eW st) (aL st) .none kV doc pm an a_ ct) ⟨us,[]⟩=pure (ps.zip us):=by
 have e:=zS (λk=>us.getD k .none) us 0 λk=>by
  grind
 grind
section
variable {P:Program}{w:World}{K:ag}{mg:aG}{base:Heap}{C f:Addr}{x q:Str}{st:Stmt}{ps:List Str}{n:Nat}{sp:Sp}
theorem fj.p(D:fj P w K mg base)(p:bh K x st f)(b:gz x x st ps:=by intro _ _ _ _ _ _ _;rfl):∃fd,aP K x x st f fd/\Binds K fd ps []/\keepIn K (.ref f)=true/\mg x=some (.ref f):=by
 obtain⟨X,G⟩:=D;obtain⟨a,l,c,k⟩:=p;exact⟨_,mJ l c k,(mJ l c k).binds (gz.at b),k,mg_of X G a⟩
theorem fj.d(D:fj P w K mg base)(p:bh K x st f)(o:∀fd,aP K x x st f fd->aH P w K mg base aT n f fd ps sp)(b:gz x x st ps:=by intro _ _ _ _ _ _ _;rfl):HasFn P w K mg base n x ps sp:=by
 obtain⟨fd,F,b,k,m⟩:=D.p p b;exact⟨f,fd,o _ F,b,k,m⟩
theorem ji.p(p:ji K C x q st f)(b:gz x q st ps):∃fd,aP K x q st f fd/\Binds K fd ps []/\Meth K C x f/\PySem.W.findIn K (.ref C) x=some (some (.ref f))/\isFn K (.ref f)=true:=by
 obtain⟨a,e,l,c,k⟩:=p;exact⟨_,mJ l c k,(mJ l c k).binds (gz.at b),⟨a,e,k⟩,a,e⟩
theorem fj.m(_:fj P w K mg base)(kc:fc K C)(p:ji K C x q st f)(o:∀fd,aP K x q st f fd->aH P w K mg base aT n f fd ps sp)(b:gz x q st ps:=by intro _ _ _ _ _ _ _;rfl):uG P w K mg base n x C ps sp:=by
 obtain⟨fd,F,b,m,_,_⟩:=p.p b;exact⟨f,fd,kc,m,o _ F,b⟩
theorem fj.i(_:fj P w K mg base){y:Str}(m:mg y=some (.ref C))(cb:makesIn K C=true)(cc:keepIn K (.ref C)=true)(p:ji K C "__init__" q st f)(o:∀fd,aP K "__init__" q st f fd->aH P w K mg base aT n f fd ps sp)(b:gz "__init__" q st ps:=by intro _ _ _ _ _ _ _;rfl):ph P w K mg base n y C ps sp:=by
 obtain⟨fd,F,b,_,a,e⟩:=p.p b;exact⟨f,fd,⟨cb,a,e,cc⟩,o _ F,b,m⟩
end
end L2
namespace L2
open PySem PySem.Spec PyProof.Rows
section
variable {X:Cx}{K:ag}
theorem aR(i:Nat){x:Str}{e:Expr}{te:TE}{pos pos':Pos}(hN:X.N.Nodup)(he:PE X e te)(hi:X.N[i]?=some x:=by rfl)(hx:Loc X.env.scope x:=by exact Or.inl rfl)(hs:swapsWith e (some (.Name x pos')) pos.line X.env=pure false:=by rfl)
  (hf:X.fn x=true\/X.env.scope.names.lookup x=some .local:=by first|exact .inl rfl|exact .inr rfl|assumption):PS X (.Assign [.Name x pos'] e pos) (k6 te (hZ i)):=dm hN hi hx he hs hf
theorem aS(i:Nat){x:Str}{pos:Pos}(hN:X.N.Nodup)(hi:X.N[i]?=some x:=by rfl)(hx:Loc X.env.scope x:=by exact Or.inl rfl)
  (hf:X.fn x=true\/X.env.scope.names.lookup x=some .local:=by first|exact .inl rfl|exact .inr rfl|assumption):PG X (.Name x pos) (hZ i):=jA hN hi hx hf
theorem pF(K:ag)(i:Nat){x f:Str}{p pos:Pos}(h:X.K=K:=by rfl)(hN:X.N[i]?=some x:=by rfl)(hv:lh X.env.scope x:=by first|exact Or.inl rfl|exact Or.inr (Or.inl rfl)|exact Or.inr (Or.inr rfl))(hd:(x==("__debug__":Str))=false:=by decide)
  (dD:(x==("__classdict__":Str))=false:=by decide)(hb:attributeBase (.Name x p) f X.env (eval (.Name x p) X.env)=eval (.Name x p) X.env:=by rfl):PE X (.Attribute (.Name x p) f pos) (uQ K (c_ i) f):=FZ h (pv i hN hv hd dD) hb
theorem aM{k j:Nat}{x:Str}{ps:List Str}{sp:Sp}{p pos:Pos}{e:Expr}{es:List Expr}{t:TA}(h:HasFn X.prog X.w X.K X.mg X.base k x ps sp)(hr:bK j X.A)(ha:PA X (e::es) t)(hj:k<=j:=by omega)(hg:Gl X x:=by rfl)
  (eJ:(x==("__debug__":Str))=false:=by decide)(he:fI X e es:=by rfl)(cH:gi X pos es:=by rfl):
  PE X (.Call (.Name x p) (e::es) [] pos) (uz sp [] E0 t):=pf h hr hj hg ha eJ he cH
theorem aK{r:R2}{a b:Expr}{ta tb:TE}{pos:Pos}(hr:gw X r)(ha:PE X a ta)(hb:PE X b tb)(hs:yR b:=by exact λ_ _=>rfl):PE X (.Subscript a b pos) (fb r ta tb):=Au hr ha hb hs
end
section
variable {P:Program}{w:World}{K:ag}{mg:aG}{base:Heap}
theorem aP.o{x qual:Str}{st:Stmt}{f:Addr}{fd:FuncData}{N ps:List Str}{k:Nat}{sp:Sp}(F:aP K x qual st f fd)(S:a7 N ps (aL st))
  (jD:∀{a_:Value} {A:Around} {outer:List Env} {vs:List V} {Q:VK} {E:XK} (s:Shared) (H:Hp),bK k (A.deeper (envOfC qual (aL st) s.heap.objs.size f a_))->sp vs H Q E->
   ∃t,dn (fF aT P w K mg base N qual (aL st) f a_ A outer s H E).nD (eW st) t/\t {nx:=λ_ H'=>Q .aD H',rt:=Q} (start N vs) H)
  (len:∀vs H Q E,sp vs H Q E->vs.length=ps.length:=by intro vs H Q E h;first|(cases h;subst_vars;rfl)|((repeat obtain⟨_,h⟩:=h);subst_vars;rfl)):aH P w K mg base aT (k+1) f fd ps sp:=F.ok S len λ_ _ _ s H _ _ _=>jD s H
end
theorem a7.bw{N P:List Str}{sc:Scope}(a:sc.kind=.function:=by rfl)(b:sc.isCoroutine=false:=by rfl)(c:sc.isGenerator=false:=by rfl)(d:N.Nodup:=by decide+kernel)(e:N.take P.length=P:=by rfl)(f:∀x∈P,sc.names.lookup x=some .local\/sc.names.lookup x=some .cell:=by decide+kernel)(g:∀y∈sc.names,y.2≠.free:=by decide+kernel):a7 N P sc:=⟨a,b,c,d,e,f,g⟩
theorem l4.fk{X:Cx}{scope:Scope}{cl:List (Str×Addr)}{x:Str}{fr:List (Str×Nat)}(sub:iS X.env.cells cl)(cP:iU X scope cl fr)(a:closureFor scope X.env=pure cl:=by with_unfolding_all rfl)(b:scope.kind=.function:=by rfl)(c:∀y∈scope.names,y.2=.local->scope.names.lookup y.1=some .local:=by decide+kernel)(d:scope.names.lookup x=some .local:=by rfl)
  (e:∀y∈scope.names,y.2≠.cell:=by decide+kernel)(f:(scope.names.all λy=>!(y.2==.free)||(cl.lookup y.1).isSome)=true:=by rfl)(g:(x::fr.map (·.1)).Nodup:=by decide+kernel):l4 X scope cl x fr:=⟨a,sub,b,c,d,e,f,cP,g⟩
theorem kC.fk{X:Cx}{scope:Scope}{cl:List (Str×Addr)}{xs:List Str}{fr:List (Str×Nat)}(sub:iS X.env.cells cl)(cP:iU X scope cl fr)(a:closureFor scope X.env=pure cl:=by with_unfolding_all rfl)(b:scope.kind=.function:=by rfl)(c:∀y∈scope.names,y.2=.local->scope.names.lookup y.1=some .local:=by decide+kernel)
  (e:∀y∈scope.names,y.2≠.cell:=by decide+kernel)(f:(scope.names.all λy=>!(y.2==.free)||(cl.lookup y.1).isSome)=true:=by rfl)(g:(xs++fr.map (·.1)).Nodup:=by decide+kernel):kC X scope cl xs fr:=⟨a,sub,b,c,e,f,cP,g⟩
end L2
namespace L2
open PySem PySem.W PySem.Spec PyProof.Rows
inductive jj(K:ag):List Str->Prop
 |nil:jj K []
 |cons {x:Str} {l:List Str} (h:nsIn K mainGlobals x=some none) (t:jj K l):jj K (x::l)
theorem jj.at{K:ag}{x:Str}:∀{l:List Str},jj K l->x∈l->nsIn K mainGlobals x=some none
 |_,.cons h t,m=>by
  cases m with
  |head=>exact h
  |tail _ m=>exact t.at m
theorem jj.bl{K:ag}{h:Heap}{mg:aG}(z:jj K ["len","abs","list","range","tuple","any","all","isinstance","bool","int","str","sorted","min","max","sum","dict","reversed","ValueError"])(X:K.In h)(G:h.Ns mainGlobals mg):Bl mg:=by
 constructor<;>exact PySem.W.mg_none_of X G (z.at (by decide))
inductive vM(K:ag)(x:Str)(C:Addr):Prop
 |mk (a:nsIn K mainGlobals x=some (some (.ref C))) (b:makesIn K C=true) (c:keepIn K (.ref C)=true):vM K x C
theorem fj.j{P:Program}{w:World}{K:ag}{mg:aG}{base:Heap}{C f:Addr}{y q:Str}{st:Stmt}{ps:List Str}{n:Nat}{sp:Sp}(D:fj P w K mg base)(g:vM K y C)(p:ji K C "__init__" q st f)(o:∀fd,aP K "__init__" q st f fd->aH P w K mg base aT n f fd ps sp)(b:gz "__init__" q st ps:=by intro _ _ _ _ _ _ _;rfl):ph P w K mg base n y C ps sp:=by
 obtain⟨a,m,k⟩:=g;exact D.i (let⟨X,G⟩:=D;mg_of X G a) m k p o b
end L2
namespace L2
open PySem PySem.Spec PyProof.Rows
section
variable {X:Cx}{a b e e2:Expr}{ta tb te BV:TE}{p pos:Pos}
theorem bY(K:ag)(bl:Bl X.mg)(he:PE X e te)(h:X.K=K:=by rfl)(hg:Gl X "len":=by rfl)(bU:starEach [e] X.env=(false,eval e X.env)::starEach [] X.env:=by rfl)(cH:(backTo pos (starEach [] X.env)).any (·.1)=false:=by rfl):PE X (.Call (.Name "len" p) [e] [] pos) (gs (m_ K) (cR te dN)):=iQ (Jp h) hg bl.Aw zI (ae he ai bU) (by decide) (by decide) bU cH
theorem j8(K:ag)(bl:Bl X.mg)(he:PE X e te)(h2:PE X e2 BV)(h:X.K=K:=by rfl)(hg:Gl X "isinstance":=by rfl)(qk:starEach [e2] X.env=(false,eval e2 X.env)::starEach [] X.env:=by rfl)(bU:starEach [e,e2] X.env=(false,eval e X.env)::starEach [e2] X.env:=by rfl)(cH:(backTo pos (starEach [e2] X.env)).any (·.1)=false:=by rfl):PE X (.Call (.Name "isinstance" p) [e,e2] [] pos) (gs (pO K) (cR te (cR BV dN))):=iQ (FT h) hg bl.Dh C4 (ae he (ae h2 ai qk) bU) (by decide) (by decide) bU cH
theorem iL(K:ag)(h:X.K=K:=by rfl):gw X (pK K):=EZ h
theorem iT(K:ag)(h:X.K=K:=by rfl):gw X (uR K):=FR h
theorem bx{op:CmpOp}{r:R2}(ho:bu X (compareOp op) r)(ha:PE X a ta)(hb:PE X b tb)(hm:behindInMarks op b=false:=by exact zx _):PT X (.Compare a [op] [b] pos) (uy (fb r ta tb)):=tR ho ha hb hm
theorem nM{op:CmpOp}{r:R2}(ho:bu X (compareOp op) r)(ha:PE X a ta)(hb:PE X b tb)(hm:behindInMarks op b=false:=by exact zx _):PE X (.Compare a [op] [b] pos) (fb r ta tb):=yL ho ha hb hm
end
section
variable {V V' W H H':Hp}{a x d C:Addr}{o:HO}
end
section
variable {n k:Nat}{V:Nat->Hp}{ks qA:List (Addr×HO)}{H H' W:Hp}{a p x d C:Addr}{o o':HO}
end
def Ii(K:ag)(te ts:TE):TE:=λσ H Q=>te σ H λx H1=>ts σ H1 λy H2=>∃a xs,x=.ref a/\y=.int (-1)/\ak K H2 a xs/\∀p,H2 p=none->Q (.ref p) (upd H2 p (.lst xs.reverse))
theorem F1{X:Cx}{K:ag}{e st:Expr}{te ts:TE}{p2 pos:Pos}(hK:X.K=K)(he:PE X e te)(bU:PE X st ts):PE X (.Subscript e (.Slice none none (some st) p2) pos) (Ii K te ts):=by
 subst hK;intro pins s σ H Q I h;refine Subscript_ (av (he pins s σ H _ I h) λv s1 ⟨x,H1,I1,r1,q1⟩=>wpAny_Slice (wpAny_pure (wpAny_pure (av (bU pins s1 σ H1 _ I1 q1) λu s3 zq=>?_))));obtain⟨y,H3,I3,r3,a,xs,ex,ey,hx,q⟩:=zq;subst ex;subst ey;cases r1;obtain⟨tk,rfl⟩:=r3;have I4:Inv X pins σ H3 {s3 with heap:=s3.heap.push {cls:=.type "slice",data:=.fields #[.none,.none,.int (-1) tk]}}:=I3.kept λb ob q=>Yc _ q;obtain⟨af,r,ht,hz⟩:=I4.list hx;have hlen:=r.length;refine tail_any ht.isList.typeIs slot_list_getitem.lookup (wpAny_getItem_list_slice ht.isList (Heap.IsSliceOf.new ..) .none .none (.int (-1) tk) (by simp) ?_ (by rw[Yl]<;>omega)) (by with_unfolding_all rfl);rw[E9];generalize s3.heap.push {cls:=.type "slice",data:=.fields #[.none,.none,.int (-1) tk]}=G at I4 ht⊢;refine⟨.ref G.objs.size,_,I4.laid (λb ob q=>Yc _ q) (Yd _) ?_,rfl,q _ (I4.ar.fresh (Yd _))⟩;exact⟨by rw[Wr];exact hz,_,0,xb r,Ym _ rfl⟩
end L2
namespace L2
open PySem PySem.W PySem.Spec PyProof.Rows
section
variable {prog:Program}{w:World}{A:Around}{R:Result->Shared->Prop}{s:Shared}
end
section
variable {X:Cx}{kx vx iter fL:Expr}{xs:List Str}{pos:Pos}{ifs:List Expr}{scope:Scope}{cl:List (Str×Addr)}{fr:List (Str×Nat)}{tg:TG}{tk tv:TE}{pins:aB}{σ:St}
end
section
variable {X:Cx}{kx vx iter:Expr}{x:Str}{px pos:Pos}{scope:Scope}{cl:List (Str×Addr)}{fr:List (Str×Nat)}{tk tv:TE}
end
def Ij(i j k:Nat)(ta:TA):TS:=λD σ H=>ta σ H λvs H1=>∃u v w,vs=[u,v,w]/\D.nx (((σ.set k (some w)).set j (some v)).set i (some u)) H1
theorem F2{X:Cx}{pos:Pos}{i j k:Nat}{x y z:Str}{a b c:Expr}{ta:TA}{px py pz pt:Pos}{kt k2 vN}(hc:X.calm=true)(hN:X.N.Nodup)(hi:X.N[i]?=some x)(hj:X.N[j]?=some y)(hk:X.N[k]?=some z)
  (hx:X.env.scope.names.lookup x=some .local)(hy:X.env.scope.names.lookup y=some .local)(hz:X.env.scope.names.lookup z=some .local)(ha:PA X [a,b,c] ta)
  (hw:swappedStores [.Tuple [.Name x px,.Name y py,.Name z pz] kt pt] (.Tuple [a,b,c] k2 vN) X.env=pure (some [x,y,z]))
  (hs:swapsWithSole [.Tuple [.Name x px,.Name y py,.Name z pz] kt pt] (.Tuple [a,b,c] k2 vN) pos.line X.env=pure false:=by rfl):
  PS X (.Assign [.Tuple [.Name x px,.Name y py,.Name z pz] kt pt] (.Tuple [a,b,c] k2 vN) pos) (Ij i j k ta):=by
 intro pins s σ H D I h;refine wpAny_bind (wpAny_standAt ?_);rw[hs];refine wpAny_bind (wpAny_pure ?_);refine wpAny_bind (Tuple_ (av (ha _ pins s σ H _ I h) λus s1 zq=>?_));obtain⟨vs,H1,I1,r1,q1⟩:=zq;obtain⟨u,v,w,e1,q1⟩:=q1;subst e1;obtain⟨u1,u2,u3,rfl,ru,rv,dF⟩:∃u1 u2 u3,us=[u1,u2,u3]/\RelV u u1/\RelV v u2/\RelV w u3:=by
  cases r1 with
  |cons p q=>
   cases q with
   |cons p' q'=>
    cases q' with
    |cons Kp Kq=>
     cases Kq;exact⟨_,_,_,rfl,p,p',Kp⟩
 refine wpAny_newObj_type ?_ (by show 3<=sizeLine;decide);rw[hw];refine wpAny_bind (wpAny_pure ?_);refine wpAny_bind (wpAny_rule (wpAny_bind (unpackItems_tuple (items:=#[u1,u2,u3]) (I.ok.hd hc) (IsTup.new s1.heap _) λh' Kr=>wpAny_bind (assignInOrder_cons (wpAny_bindName (kG ((I1.kept λb o e=>Yc _ e).kept λb o e=>Kr b o (Yz (Yn e)) e) hN hk (.inl hz) dF (λs2 I4=>?_) (.inr hz)))))));refine assignInOrder_cons (wpAny_bindName (kG I4 hN hj (.inl hy) rv (λs3 I5=>?_) (.inr hy)));refine assignInOrder_cons (wpAny_bindName (kG I5 hN hi (.inl hx) ru (λs4 I6=>assignInOrder_nil (wpAny_pure ?_)) (.inr hx)));exact⟨_,H1,I6,q1⟩
theorem y1{as:List Addr}{us:List Value}(r:Vals (as.map V.ref) us){j:Nat}(h:j<us.length):∃a,as[j]?=some a/\us[j]=.ref a:=by
 have l:=r.length;rw[Ya] at l;have hj:j<as.length:=by omega
 obtain⟨u,hu,e⟩:=r.get (i:=j) (x:=.ref as[j]) (by rw[Ye,Yf hj];rfl);cases e;refine⟨as[j],Yf hj,?_⟩;rw[Yf h] at hu;exact Yb hu
def Ju(K:ag):R2:=λx y H Q=>∃(p q:Addr) (as:List Addr),x=.ref p/\y=.ref q/\ak K H p (as.map V.ref)/\ak K H q (as.map V.ref)/\Q (.bl false) H
theorem Ha{X:Cx}{K:ag}(h:X.K=K)(hu:X.A.units<cLine):bu X (compareOp .NotEq) (Ju K):=by
 subst h;rintro pins s σ H x y v u Q I rx ry ⟨p,q,as,rfl,rfl,h1,h2,k⟩;cases rx;cases ry;obtain⟨af,r1,p1,z1⟩:=I.list h1;obtain⟨jN,r2,p2,z2⟩:=I.list h2;have l1:=r1.length;have l2:=r2.length;rw[Ya] at l1 l2;refine SeqAt.RcNeAt.lists (e:=λ_=>true) p1.isList p2.isList (by simp;omega) hu (λj h1 h2=>?_) _ _ _ _ (bA I k (by simp));obtain⟨a,e1,e2⟩:=y1 r1 (j:=j) (by simpa using h1);obtain⟨b,e3,e4⟩:=y1 r2 (j:=j) (by simpa using h2);obtain rfl:=Yb (e1.symm.trans e3);have vI:af.toArray[j]=.ref a:=by simpa using e2
 have vJ:jN.toArray[j]=.ref a:=by simpa using e4
 rw[vI,vJ];exact SeqAt.EqAt.same _
end L2
namespace vO
open PySem L2
variable {P:Program}{w:World}{K:PySem.W.Frag}{mg:Str->Option Value}{base:Heap}{f C CL CJ:Addr}{fd:FuncData}
def top(i:Nat):Stmt:=PySem.Challenge.pw_kinhearth_k35_whole_papers_that_bar.main.body.getD i (.Pass ⟨0,0,0,0⟩)
abbrev sZ:Stmt:=top 7
abbrev tV:Stmt:=top 8
abbrev tK:Stmt:=top 9
abbrev uk:Stmt:=top 11
abbrev rQ:Stmt:=top 13
abbrev rR:Stmt:=top 34
abbrev rq:Stmt:=top 35
abbrev s_:Stmt:=top 36
abbrev sv:Stmt:=top 10
abbrev rH:Stmt:=top 12
abbrev tL:Stmt:=top 20
abbrev sy:Stmt:=top 21
abbrev r8:Stmt:=top 22
abbrev tf:Stmt:=top 24
abbrev rS:Stmt:=top 25
abbrev rA:Stmt:=top 26
abbrev rB:Stmt:=top 27
abbrev sA:Stmt:=top 28
abbrev rF:Stmt:=top 29
abbrev xD:Stmt:=top 38
abbrev xk:Stmt:=top 39
abbrev xE:Stmt:=top 40
abbrev tj:Stmt:=top 41
abbrev rJ:Stmt:=top 42
abbrev r9:Stmt:=top 43
abbrev r_:Stmt:=top 44
abbrev sC:Stmt:=top 46
abbrev rK:Stmt:=top 47
abbrev sD:Stmt:=top 48
abbrev sE:Stmt:=top 49
abbrev sF:Stmt:=top 50
abbrev sG:Stmt:=top 51
abbrev sH:Stmt:=top 52
abbrev sI:Stmt:=top 53
abbrev sJ:Stmt:=top 54
abbrev rT:Stmt:=top 55
abbrev jH:Stmt:=top 56
abbrev se:Stmt:=inClass (top 33) 0
abbrev sg:Stmt:=inClass (top 33) 1
abbrev AB:Stmt:=xD
abbrev zT:Stmt:=xk
abbrev AD:Stmt:=xE
section
variable {K:ag}{mg:aG}
abbrev nN:List Str:=["_law_script","_law_k"]
theorem Hc:a7 nN nN (aL AB):=⟨rfl,rfl,rfl,by decide+kernel,rfl,by decide+kernel,by decide+kernel⟩
theorem F3(F:aP K "_law_cell" "_law_cell" AB f fd)(ml:mg "len"=none):aH P w K mg base aT 1 f fd nN (uh K):=by
 refine F.ok Hc (λvs H Q E h=>?_) (λa_ A outer s H vs Q E hr h=>?_)
 ·obtain⟨a,ns,k,rfl,_⟩:=h;rfl
 obtain⟨a,ns,k,rfl,hS,h0,q⟩:=h;refine⟨_,ao (bj (bx pd (pv 1) (iQ xa rfl ml zI (ae (pv 0) ai))) (au (aN (Au yS (pv 0) (pv 1) (λ_ _=>rfl)))) bD)
  (au (aN aq)),?_⟩
 refine⟨_,rfl,_,rfl,a,_,rfl,.inl hS,_,_,rfl,rfl,_,rfl,?_⟩;refine bR (λc=>?_) (λc=>?_)
 ·have c':k<(((ns.map V.int).length:Nat):Int):=of_decide_eq_true c;rw[(Ya _)] at c';exact⟨_,rfl,_,rfl,a,_,_,_,rfl,rfl,hS,mM h0 c',q _⟩
 ·exact q _
abbrev lD:List Str:=["_law_cell_here","_law_parts"]
theorem hJ:a7 ["_law_cell_here","_law_parts","_law_one","_law_two","_law_six","_law_found","_law_part"] lD (aL zT):=⟨rfl,rfl,rfl,by decide+kernel,rfl,by decide+kernel,by decide+kernel⟩
theorem E_(F:aP K "_law_draws" "_law_draws" zT f fd)(ma:mg "abs"=none):aH P w K mg base aT 1 f fd lD (mq K):=by
 refine F.ok hJ (λvs H Q E h=>?_) (λa_ A outer s H vs Q E hr h=>?_)
 ·obtain⟨c,a,ps,rfl,_⟩:=h;rfl
 obtain⟨c,a,ps,rfl,hS,Ks,hlen,q⟩:=h;refine⟨_,ao (bj (bx pd (iQ yc rfl ma zH (ae (pv 0) ai)) (az ua aq aq))
   (ao (dm (i:=2) hJ.nd rfl (Or.inl rfl) (az bZ (az cN (az fC (pv 0) aq) aq) aq))
   (ao (dm (i:=3) hJ.nd rfl (Or.inl rfl) (az bZ (az cN (az cN (az fC (pv 2) (pv 2)) (az fC aq (pv 2))) (pv 0)) aq))
   (ao (dm (i:=4) hJ.nd rfl (Or.inl rfl) (az bZ (az cN (az fC (pv 3) aq) (pv 2)) aq))
   (au (dm (i:=0) hJ.nd rfl (Or.inl rfl) (az cN (pv 3) (az fC aq (az cN (pv 4) (az fC aq (pv 2))))))))))
   (au (dm (i:=0) hJ.nd rfl (Or.inl rfl) (az t_ (iQ yc rfl ma zH (ae (pv 0) ai)) (az ua aq aq)))))
  (ao (dm (i:=5) hJ.nd rfl (Or.inl rfl) (mI ai))
  (ao (cK PassesOwn.never rfl (yG (pv 1)) (jA (i:=6) hJ.nd rfl (Or.inl rfl))
   (ao (dz (fY plainAttrs_list PySem.F.slot_list_append PySem.F.type_list_append oB (pv 5) (ae (az bZ (pv 0) (pv 6)) ai)))
   (au (dm (i:=0) hJ.nd rfl (Or.inl rfl) (az oM (pv 0) (pv 6))))))
  (au (aN (pv 5))))),?_⟩
 refine dk (λσ H'=>H'=H/\∃c' o2 o3 o4,σ=[some (.int c'),some (.ref a),o2,o3,o4,none,none]) (λnx k=>?_) ?_
 ·refine⟨_,rfl,c,rfl,_,_,rfl,rfl,⟨by decide,by decide,by decide⟩,_,_,rfl,rfl,_,rfl,?_⟩;refine bR (λ_=>?_) (λ_=>?_)
  ·refine⟨_,rfl,_,_,rfl,rfl,.inr ⟨by decide,by decide⟩,_,_,rfl,rfl,_,_,rfl,rfl,(by show(0:Int)<2147483647;decide),?_⟩;refine⟨_,rfl,_,rfl,_,_,rfl,rfl,.inl (GS _ (by decide) (by decide)),_,rfl,_,_,rfl,rfl,.inl ⟨by decide,by decide⟩,_,_,rfl,rfl,_,rfl,_,_,rfl,rfl,_,_,rfl,rfl,(by show(0:Int)<2147483399;decide),?_⟩;refine⟨_,rfl,_,_,rfl,rfl,.inr ⟨by decide,by decide⟩,_,rfl,_,_,rfl,rfl,_,_,rfl,rfl,(by show(0:Int)<1000000007;decide),?_⟩;refine⟨_,rfl,_,rfl,_,rfl,_,_,rfl,rfl,.inl ⟨by decide,by decide⟩,_,_,rfl,rfl,_,_,rfl,rfl,.inl ⟨by decide,by decide⟩,_,_,rfl,rfl,k _ _ ⟨rfl,_,_,_,_,rfl⟩⟩
  ·exact⟨_,rfl,c,rfl,_,_,rfl,rfl,⟨by decide,by decide,by decide⟩,_,_,rfl,rfl,k _ _ ⟨rfl,_,_,_,_,rfl⟩⟩
 ·rintro σ H0 ⟨rfl,c',o2,o3,o4,rfl⟩;refine⟨(by show 0<=sizeLine;decide),λl hl=>?_⟩;have s1:ah H0 (upd H0 l (.lst [])):=bg hl _;refine⟨_,rfl,a,rfl,⟨_,s1.seq hS⟩,dt (K:=K) (a:=a) (xs:=ps.map V.int) (λi σ H2=>∃c o2 o3 o4 o6 ds,σ=[some (.int c),some (.ref a),o2,o3,o4,some (.ref l),o6]/\ah H0 H2/\H2 l=some (.lst (ds.map V.int))/\Paired Bd ds (ps.take i))
   ⟨c',o2,o3,o4,none,[],rfl,s1,aF,by rw[List.take_zero];exact .nil⟩ (λi σ H2 _ ⟨_,_,_,_,_,_,_,s2,_⟩=>s2.seq hS) ?_ ?_⟩
  ·rintro i y σ H2 hi ⟨c,o2,o3,o4,o6,ds,rfl,s2,h2,b2⟩;obtain⟨p,rfl,hp⟩:=mj hi;have lC:i<ps.length:=(Yi.mp hp).1;obtain⟨p0,p1⟩:=Ks p (Yk hp);have dl:=b2.length;rw[Y9] at dl;refine⟨_,rfl,.inl ⟨rfl,_,ak.of h2⟩,_,rfl,_,rfl,_,_,rfl,rfl,p0,l,_,_,rfl,rfl,h2,(by rw[Ya];exact fA (by omega)),?_⟩;refine⟨_,rfl,_,rfl,_,_,rfl,rfl,⟨p0,p1⟩,?_⟩;refine⟨_,o2,o3,o4,_,ds++[c % p],rfl,λb o e=>?_,?_,?_⟩
   ·rw[aU (aY e hl)];exact s2 b o e
   ·rw[aF,yg]
   ·rw[Yq,hp];exact b2.snoc ⟨Y7 _ (Jk p0),Y4 _ p0⟩
  ·rintro σ H2 ⟨c,o2,o3,o4,o6,ds,rfl,s2,h2,b2⟩;rw[Ya,Y1] at b2;exact⟨_,rfl,q l ds H2 hl s2 h2 b2⟩
abbrev vP:List Str:=["_law_code","_law_size"]
theorem mO:a7 ["_law_code","_law_size","_law_free","_law_found","_law_k"] vP (aL AD):=⟨rfl,rfl,rfl,by decide+kernel,rfl,by decide+kernel,by decide+kernel⟩
theorem F4(F:aP K "_law_turn" "_law_turn" AD f fd)(mL:mg "list"=none)(mR:mg "range"=none)(mT:mg "tuple"=none):aH P w K mg base aT 1 f fd vP zJ:=by
 refine F.ok mO (λvs H Q E h=>?_) (λa_ A outer s H vs Q E hr h=>?_)
 ·obtain⟨c,n,rfl,_⟩:=h;rfl
 obtain⟨c,n,rfl,hn,q⟩:=h;refine⟨_,ao (dm (i:=2) mO.nd rfl (Or.inl rfl) (cU (w8 rfl) rfl mL mn (ae (cU og rfl mR oH (ae (pv 1) ai)) ai)))
  (ao (dm (i:=3) mO.nd rfl (Or.inl rfl) (mI ai))
  (ao (cK PassesOwn.never rfl (eV rfl mR (ae (pv 1) ai)) (jA (i:=4) mO.nd rfl (Or.inl rfl))
   (ao (dz (fY plainAttrs_list PySem.F.slot_list_append PySem.F.type_list_append oB (pv 3) (ae (fY plainAttrs_list PySem.F.slot_list_pop PySem.F.type_list_pop EV (pv 2) (ae (az bZ (pv 0) (az t_ (pv 1) (pv 4))) ai)) ai)))
   (au (dm (i:=0) mO.nd rfl (Or.inl rfl) (az oM (pv 0) (az t_ (pv 1) (pv 4)))))))
  (au (aN (cU kq rfl mT fS (ae (pv 3) ai)))))),?_⟩
 refine⟨_,rfl,_,rfl,λr fm=>?_⟩;refine⟨r,n,rfl,aF,by omega,λu hu=>?_⟩;refine⟨(by show 0<=sizeLine;decide),λl hl=>?_⟩;have g1:ah H (upd H r (.fH 0 (n:Int))):=bg fm _;have g2:=g1.trans (bg hu (.lst ((a8 n).map V.int)));have g3:=g2.trans (bg hl (.lst []));have vQ:u≠l:=aY aF hl;refine⟨_,rfl,(n:Int),rfl,by omega,by omega,l3 (lo:=0) (n:=n) (λi σ H2=>∃c o4 ds fs,σ=[some (.int c),some (.int (n:Int)),some (.ref u),some (.ref l),o4]/\ah H H2/\H2 u=some (.lst (fs.map V.int))/\H2 l=some (.lst (ds.map V.int))/\(ds++fs).Perm (a8 n)/\ds.length=i)
  ⟨c,none,[],a8 n,rfl,g3,by rw[aU vQ];exact aF,aF,by rw[Jm],rfl⟩ ?_ ?_⟩
 ·rintro i σ H2 hi ⟨c,o4,ds,fs,rfl,s2,vR,jg,pm,dl⟩;have pl:=pm.length_eq;rw[Yj,cD,dl] at pl;have pQ:(0:Int)<(n:Int)-(0+(i:Int)):=by omega
  have m0:=Y7 c (Jk pQ);have m1:=Y4 c pQ;have hk:(c % ((n:Int)-(0+(i:Int)))).toNat<fs.length:=by omega
  refine⟨_,rfl,.inl ⟨rfl,_,ak.of jg⟩,_,rfl,.inl ⟨rfl,_,ak.of vR⟩,_,rfl,_,rfl,_,rfl,_,_,rfl,rfl,_,_,rfl,rfl,pQ,u,_,_,_,.int fs[(c % ((n:Int)-(0+(i:Int)))).toNat],rfl,rfl,vR,by omega,by omega,((yQ (GU m0 (by rw[Ya];omega))).1),by rw[Ye,Yf hk];rfl,?_⟩;refine⟨l,_,_,rfl,rfl,by rw[aU vQ.symm];exact jg,(by rw[Ya];exact fA (by omega)),?_⟩;refine⟨_,rfl,_,rfl,_,rfl,_,_,rfl,rfl,_,_,rfl,rfl,⟨pQ,by omega⟩,?_⟩;refine⟨_,_,ds++[fs[(c % ((n:Int)-(0+(i:Int)))).toNat]],fs.eraseIdx (c % ((n:Int)-(0+(i:Int)))).toNat,rfl,λb o e=>?_,?_,?_,?_,?_⟩
  ·have nl:b≠l:=aY (g2 b o e) hl;have nu:b≠u:=aY (g1 b o e) hu;rw[aU nl,aU nu];exact s2 b o e
  ·rw[aU vQ,aF,xT]
  ·rw[aF,yg]
  ·refine List.Perm.trans ?_ pm;rw[Wy];refine List.Perm.append_left ds ?_;exact(xv fs _ hk).symm
  ·rw[Yj,List.length_singleton,dl]
 ·rintro σ H2 ⟨c,o4,ds,fs,rfl,s2,vR,jg,pm,dl⟩;have pl:=pm.length_eq;rw[Yj,cD,dl] at pl;have e:fs=[]:=List.eq_nil_of_length_eq_zero (by omega);rw[e,Yy] at pm;refine⟨_,rfl,l,_,rfl,.inl ⟨ak.of jg,λt ht=>?_⟩⟩;exact q t ds _ (s2.free ht) (s2.trans (bg ht _)) aF pm
end
theorem F5{ds:List Int}{a b c d e:Int}(h:Paired Bd ds [a,b,c,d,e]):∃v w x y z,ds=[v,w,x,y,z]/\Bd v a/\Bd w b/\Bd x c/\Bd y d/\Bd z e:=by
 cases h with|cons h1 h=>cases h with|cons h2 h=>cases h with|cons h3 h=>cases h with|cons h4 h=>cases h with|cons h5 h=>
  cases h
  grind
theorem aJ{q:St->Hp->Prop}{i:Nat}{x:V}{σ:St}{H:Hp}(h:q (σ.set i (some x)) H):hZ i x σ H q:=h
section
variable {K:ag}{mg:aG}
end
inductive zU(K:ag)(vs:List V)(H:Hp)(Q:VK):Prop
 |mk (p:Addr) (ns:List Int) (aC:vs=[.ref p]) (aI:Row K H p ns) (aW:ns.length<64) (bt:∀H',ah H H'->Q (.bl (full ns)) H'):zU K vs H Q
def uY(K:ag):Sp:=λvs H Q _=>zU K vs H Q
def bO(ys xs:List Int):List Int:=xs.map λx=>ys.getD x.toNat 0
theorem oQ{ys:List Int}(h:full ys=true){x:Int}(hx:x∈ys):0<=x/\x<ys.length:=by
 have hm:=(iO h).subset hx;unfold a8 at hm;obtain⟨i,hi,rfl⟩:=Y6.mp hm;have:=Wa.mp hi;omega
section
variable {K:ag}{mg:aG}{c:Addr}
abbrev gH:List Str:=["row"]
theorem D2:a7 gH gH (aL sZ):=.bw
theorem D3(F:aP K "is_turn" "is_turn" sZ f fd)(bl:Bl mg):aH P w K mg base aT 1 f fd gH (uY K):=by
 refine F.o D2 @λa_ A outer vs Q E s H hr h=>?_;obtain⟨p,ns,rfl,hR,jh,q⟩:=h;have hu:=hr.ub;refine⟨_,(ao (bj (fB (iQ (Jq (K:=K) rfl rfl) rfl bl.HW GV (ae (iV (x:="number") (fr:=[]) (cl:=[]) rfl (.fk trivial trivial) (GQ (pv 0)) (λ_ _ _ _=>fT) (λ_ _ _ _=>(j8 K bl (pv 0) (jE rfl bl.zK yW)))) ai))) (au (aN hX)) bD) (au (aN (nM (GR hu) (iQ (sortedK (K:=K) rfl) rfl bl.E1 Ey (ae (pv 0) ai)) (cU (w8 rfl) rfl bl.mN mn (ae (cU og rfl bl.dB oH (ae (bY K bl (pv 0)) ai)) ai)))))),?_⟩;have hl:(ns.map V.int).length=ns.length:=Ya _;have rest:∀(D:Addr) (H1:Hp),ah H H1->H1 D=some (.lst ((List.replicate ns.length false).map V.bl))->
   ∃(BW:Addr) (bs:List Bool),[V.ref D]=[V.ref BW]/\ak K H1 BW (bs.map V.bl)/\tB (tC (V.bl (bs.any id))) [] H1 (λc H2=>if c=true then Q (.bl false) H2 else
    (Ay K false (c_ 0)) [some (.ref p)] H2 Q):=λD H1 g1 h1=>by
  refine⟨D,_,rfl,ak.of h1,_,rfl,?_⟩;rw[any_false];refine bT ?_;exact E2 rfl (Row.same g1 hR) jh λH' g=>q H' (g1.trans g)
 have turn:∀(D:Addr),H D=none->∀(i:Nat) (v:V) (ys:List V) (H1:Hp),(ns.map V.int)[i]?=some v->(ah H H1/\H1 D=some (.lst ys)/\ys=(List.replicate i false).map V.bl)->
   gs (pO K) (cR (c_ 0) (cR (tC (V.ty "bool")) dN)) [some v] H1 λy H3=>H3 D=some (.lst ys)/\ys.length<sizeLine/\
    (ah H (upd H3 D (.lst (ys++[y])))/\upd H3 D (.lst (ys++[y])) D=some (.lst (ys++[y]))/\ys++[y]=(List.replicate (i+1) false).map V.bl):=λD hD i v ys H1 hi ⟨g,h1,e⟩=>by
  obtain⟨z,rfl,hz⟩:=mj hi;have lC:i<ns.length:=(Yi.mp hz).1;refine⟨_,rfl,_,_,_,false,rfl,.int z,zL,h1,?_,λb o q=>?_,aF,?_⟩
  ·rw[e,Ya,Wv];exact fA (by omega)
  ·rw[aU (aY q hD)];exact g b o q
  ·rw[e,List.replicate_succ',Yo];rfl
 refine⟨_,rfl,p,rfl,?_⟩;rcases hR with nO|nO
 ·refine .inl ⟨⟨_,nO⟩,λD hD=>Ex (xs:=ns.map V.int) (λi ys H1=>ah H H1/\H1 D=some (.lst ys)/\ys=(List.replicate i false).map V.bl) ⟨bg hD _,aF,rfl⟩ (λi ys H1 _ ⟨g,_,_⟩=>g.seq nO) (λi v ys H1 hi h=>fG (cg (turn D hD i v ys H1 hi h))) ?_⟩;rintro ys H1 ⟨g,h1,e⟩;exact rest D H1 g (by rw[h1,e,hl])
 ·refine .inr ⟨⟨_,nO⟩,λD hD=>tH (xs:=ns.map V.int) (λi ys H1=>ah H H1/\H1 D=some (.lst ys)/\ys=(List.replicate i false).map V.bl) ⟨bg hD _,aF,rfl⟩ (λi ys H1 _ ⟨g,_,_⟩=>g.eK nO) (λi v ys H1 hi h=>fG (cg (turn D hD i v ys H1 hi h))) ?_⟩;rintro ys H1 ⟨g,h1,e⟩;exact rest D H1 g (by rw[h1,e,hl])
end
inductive y2(K:ag)(vs:List V)(H:Hp)(Q:VK):Prop
 |mk (a b:Addr) (xs ys:List Int) (aC:vs=[.ref a,.ref b]) (aI:ay K H a (xs.map V.int)) (aW:ay K H b (ys.map V.int)) (bt:(∀x∈xs,0<=x/\x<ys.length)) (bV:xs.length<64) (dE:∀(t:Addr) (H':Hp),H t=none->ah H H'->H' t=some (.tup ((bO ys xs).map V.int))->Q (.ref t) H'):y2 K vs H Q
def AE(K:ag):Sp:=λvs H Q _=>y2 K vs H Q
section
variable {K:ag}{mg:aG}
abbrev ir:List Str:=["first","then"]
theorem DH:a7 ir ir (aL sv):=.bw
theorem DI(F:aP K "followed" "followed" sv f fd)(bl:Bl mg):aH P w K mg base aT 1 f fd ir (AE K):=by
 refine F.o DH λs H hr h=>?_;obtain⟨a,b,xs,ys,rfl,hA,hB,qB,hl,q⟩:=h;have al:(bO ys xs).length=xs.length:=by unfold bO;rw[Ya]
 refine⟨_,(au (aN (cU (kq) rfl bl.fU fS (ae (iV (x:="section") (fr:=[("then",1)]) (cl:=[("then",s.heap.objs.size+1)]) rfl (.fk ⟨rfl,trivial⟩ ⟨⟨rfl,.inl rfl,.inl rfl,rfl⟩,trivial⟩) (t9 (pv 0)) (λ_ _ _ _=>fT) (λ_ _ _ _=>(aK (iT K) (pv 1) (pv 0)))) ai)))),?_⟩;refine⟨_,rfl,a,rfl,⟨_,hA⟩,λD hD=>tH (xs:=xs.map V.int) (λi zs H3=>ah H H3/\H3 D=some (.lst zs)/\zs=((bO ys xs).take i).map V.int) ⟨bg hD _,aF,rfl⟩ (λi zs H3 _ ⟨g3,_,_⟩=>g3.eK hA) ?_ ?_⟩
 ·rintro i v zs H3 hi ⟨g3,h3,e3⟩;obtain⟨z,rfl,hz⟩:=mj hi;have bz:=qB z (Yk hz);refine fG (cg ⟨_,rfl,_,rfl,b,_,_,_,rfl,rfl,g3.eK hB,mM bz.1 bz.2,h3,?_,λd o qd=>?_,aF,?_⟩)
  ·rw[e3,Ya,Y9,al];exact fA (by omega)
  ·rw[aU (aY qd hD)];exact g3 d o qd
  ·rw[e3,Yq,sY];unfold bO;rw[Ye,hz];rfl
 ·rintro zs H3 ⟨g3,h3,e3⟩;refine⟨D,_,rfl,.inl ⟨ak.of h3,λt ht=>q t _ (g3.free ht) (g3.trans (bg ht _)) ?_⟩⟩;show upd H3 t (.tup zs) t=_;rw[aF,e3,Ya,We (by rw[al];omega)]
end
def dO(x:Int):List Int->Nat
 |[]=>0
 |y::r=>if y=x then 0 else dO x r+1
theorem mf{x:Int}:∀{l:List Int},x∈l->l[dO x l]?=some x/\∀m,m<dO x l->l[m]?≠some x
 |[],h=>by cases h
 |y::r,h=>by
  unfold dO;by_cases e:y=x;·grind
  ·rw[if_neg e];obtain⟨h1,h2⟩:=mf ((Yw.mp h).resolve_left λz=>e z.symm);refine⟨by rw[W6];exact h1,λm hm=>?_⟩;cases m with
   |zero=>grind
   |succ m=>grind
theorem oE{l:List Int}(nd:l.Nodup){k:Nat}{x:Int}(h:l[k]?=some x):dO x l=k:=by
 obtain⟨h1,h2⟩:=mf (Yk h);exact(List.getElem?_inj (by rcases Yi.mp h1 with⟨z,_⟩;exact z) nd).mp (h1.trans h.symm)
def inv(xs:List Int):List Int:=(a8 xs.length).map λi=>(dO i xs:Int)
theorem dG(xs:List Int):(inv xs).length=xs.length:=by unfold inv;rw[Ya,cD]
theorem mB{xs:List Int}{i:Nat}(h:i<xs.length):(inv xs)[i]?=some (dO (i:Int) xs:Int):=by
 unfold inv;rw[Ye,dZ h];rfl
theorem ou{xs:List Int}(h:full xs=true):xs.Nodup:=(iO h).nodup_iff.mpr (BP.D0 _)
theorem yp{xs:List Int}(h:full xs=true){i:Nat}(hi:i<xs.length):(i:Int)∈xs:=(iO h).symm.subset (Yk (dZ hi))
theorem jy{xs:List Int}(h:full xs=true):full (inv xs)=true:=by
 have p:(xs.map λi=>(dO i xs:Int)).Perm (inv xs):=(iO h).map _;have e:xs.map (λi=>(dO i xs:Int))=a8 xs.length:=by
  refine Wp λi=>?_;rw[Ye];by_cases hi:i<xs.length
  ·rw[dZ hi,Yf hi];show some (dO xs[i] xs:Int)=some (i:Int);rw[oE (ou h) (Yf hi)]
  ·rw[Y0 (by omega),Y0 (by rw[cD];omega)];rfl
 rw[e] at p;exact kJ p.symm
theorem inv_inv{xs:List Int}(h:full xs=true):inv (inv xs)=xs:=by
 refine Wp λi=>?_;by_cases hi:i<xs.length
 ·rw[mB (by rw[dG];exact hi),Yf hi];have b:=oQ h (W0 hi);have hk:(xs[i]).toNat<xs.length:=by omega
  have e:((xs[i].toNat:Nat):Int)=xs[i]:=by omega
  have g:(inv xs)[(xs[i]).toNat]?=some (i:Int):=by rw[mB hk,e,oE (ou h) (Yf hi)]
  rw[oE (ou (jy h)) g,e]
 ·rw[Y0 (by rw[dG,dG];omega),Y0 (by omega)]
theorem yq{xs:List Int}{i:Nat}(hi:i<xs.length):(inv xs).take (i+1)=(inv xs).take i++[(dO (i:Int) xs:Int)]:=by
 rw[Yq,mB hi];rfl
inductive zV(vs:List V)(H:Hp)(Q:VK):Prop
 |mk (a:Addr) (xs:List Int) (aC:vs=[.ref a]) (aI:H a=some (.tup (xs.map V.int))) (aW:xs.length<64) (bt:full xs=true) (bV:∀(t:Addr) (H':Hp),H t=none->ah H H'->H' t=some (.tup ((inv xs).map V.int))->Q (.ref t) H'):zV vs H Q
def Bc:Sp:=λvs H Q _=>zV vs H Q
section
variable {K:ag}{mg:aG}
abbrev jk:List Str:=["turn"]
theorem CZ:a7 jk jk (aL rH):=.bw
theorem C0(F:aP K "turned_back" "turned_back" rH f fd)(bl:Bl mg):aH P w K mg base aT 1 f fd jk Bc:=by
 refine F.ok CZ (λvs H Q E h=>?_) (λa_ A outer s H1 vs Q E hr h=>?_)
 ·obtain⟨a,xs,rfl,_⟩:=h;rfl
 obtain⟨a,xs,rfl,hA,lx,fx,q⟩:=h;refine⟨_,(au (aN (cU (kq) rfl bl.fU fS (ae (iV (x:="section") (fr:=[("turn",0)]) (cl:=[("turn",s.heap.objs.size+1)]) rfl (.fk ⟨rfl,trivial⟩ ⟨⟨rfl,.inl rfl,.inl rfl,rfl⟩,trivial⟩) (eV rfl bl.dB (ae (bY K bl (pv 0)) ai)) (λ_ _ _ _=>fT) (λ_ _ _ _=>(xg (pv 1) (ae (pv 0) ai)))) ai)))),?_⟩;have el:(xs.map V.int).length=xs.length:=Ya _;refine⟨_,rfl,a,_,rfl,.inr (ay.of hA),_,rfl,by rw[el];omega,by rw[el];omega,λD hD=>lY (lo:=0) (n:=(((xs.map V.int).length:Nat):Int).toNat)
   (λi zs H2=>ah H1 H2/\H2 D=some (.lst zs)/\zs=((inv xs).take i).map V.int) ⟨bg hD _,aF,rfl⟩ ?_ ?_⟩
 ·rintro i zs H2 hi ⟨g2,h2,e2⟩;rw[Yp,el] at hi;rw[Wq];have hx:=mf (yp fx hi);have nP:=g2 _ _ hA;refine fG (cg ⟨_,rfl,a,xs,rfl,nP,_,rfl,(i:Int),dO (i:Int) xs,rfl,nP,hx.1,hx.2,h2,?_,λd o qd=>?_,aF,?_⟩)
  ·rw[e2,Ya,Y9,dG];exact fA (by omega)
  ·rw[aU (aY qd hD)];exact g2 d o qd
  ·rw[e2,yq hi,Yo];rfl
 ·rintro zs H2 ⟨g2,h2,e2⟩;refine⟨D,_,rfl,.inl ⟨ak.of h2,λt ht=>q t _ (g2.free ht) (g2.trans (bg ht _)) ?_⟩⟩;rw[aF,e2,Yp,el,We (by rw[dG];omega)]
end
inductive xX(vs:List V)(H:Hp)(Q:VK):Prop
 |mk (n:Nat) (aC:vs=[.int (n:Int)]) (aI:n<=1000) (aW:∀(t:Addr) (H':Hp),H t=none->ah H H'->H' t=some (.tup ((a8 n).map V.int))->Q (.ref t) H'):xX vs H Q
def y3:Sp:=λvs H Q _=>xX vs H Q
section
variable {K:ag}{mg:aG}{c:Addr}
theorem Fb:a7 ["size"] ["size"] (aL tV):=.bw
theorem Fd(F:aP K "still" "still" tV f fd)(bl:Bl mg):aH P w K mg base aT 1 f fd ["size"] y3:=by
 refine F.o Fb λs H hr h=>?_;obtain⟨n,rfl,hn,q⟩:=h;refine⟨_,(au (aN (cU (wY rfl) rfl bl.fU fS (ae (cU og rfl bl.dB oH (ae (pv 0) ai)) ai)))),?_⟩;exact⟨_,rfl,_,rfl,λr fm=>⟨r,n,rfl,aF,hn,λt ht=>q t _ ((bg fm _).free ht) ((bg fm _).trans (bg ht _)) aF⟩⟩
end
inductive y4(K:ag)(vs:List V)(H:Hp)(Q:VK):Prop
 |mk (p:Addr) (ns:List Int) (aC:vs=[.ref p]) (aI:ay K H p (ns.map V.int)) (aW:ns.length<64) (bt:full ns=true) (bV:∀H',ah H H'->Q .aD H'):y4 K vs H Q
def uI(K:ag):Sp:=λvs H Q _=>y4 K vs H Q
inductive zW(K:ag)(vs:List V)(H:Hp)(Q:VK):Prop
 |mk (a b:Addr) (xs ys:List Int) (aC:vs=[.ref a,.ref b]) (aI:ay K H a (xs.map V.int)) (aW:ay K H b (ys.map V.int)) (bt:xs.length<64) (bV:full xs=true) (dE:full ys=true) (gJ:xs.length=ys.length) (jm:∀(t:Addr) (H':Hp),H t=none->ah H H'->H' t=some (.tup ((bO ys xs).map V.int))->Q (.ref t) H'):zW K vs H Q
def uZ(K:ag):Sp:=λvs H Q _=>zW K vs H Q
inductive zX(vs:List V)(H:Hp)(Q:VK):Prop
 |mk (a:Addr) (xs:List Int) (aC:vs=[.ref a]) (aI:H a=some (.tup (xs.map V.int))) (aW:xs.length<64) (bt:full xs=true) (bV:∀(t:Addr) (H':Hp),H t=none->ah H H'->H' t=some (.tup ((inv xs).map V.int))->Q (.ref t) H'):zX vs H Q
def Be:Sp:=λvs H Q _=>zX vs H Q
inductive yr(K:ag)(vs:List V)(H:Hp)(Q:VK):Prop
 |mk (l a0:Addr) (as:List Addr) (n:Nat) (aC:vs=[.ref l]) (aI:ak K H l ((a0::as).map V.ref)) (aW:2<=n) (bt:n<=8) (bV:(∀a∈a0::as,∃xs:List Int,ay K H a (xs.map V.int)/\xs.length=n/\full xs=true)) (dE:∀H',ah H H'->Q .aD H'):yr K vs H Q
def um(K:ag):Sp:=λvs H Q _=>yr K vs H Q
inductive xl(K:ag)(vs:List V)(H:Hp)(Q:VK):Prop
 |mk (m f w:Addr) (xs ys:List Int) (aC:vs=[.ref m,.ref f,.ref w]) (aI:ay K H m (xs.map V.int)) (aW:ay K H f ((bO xs ys).map V.int)) (bt:ay K H w (ys.map V.int)) (bV:full xs=true) (dE:full ys=true) (gJ:xs.length=ys.length) (jm:xs.length<=8) (qC:∀H',ah H H'->Q .aD H'):xl K vs H Q
def xY(K:ag):Sp:=λvs H Q _=>xl K vs H Q
theorem jx(xs ys:List Int):(bO xs ys).length=ys.length:=by unfold bO;rw[Ya]
theorem oJ{xs ys:List Int}(fx:full xs=true)(fy:full ys=true)(e:xs.length=ys.length):full (bO xs ys)=true:=by
 have p1:(bO xs ys).Perm ((a8 ys.length).map λx=>xs.getD x.toNat 0):=(iO fy).map _;have e2:((a8 ys.length).map λx=>xs.getD x.toNat 0)=xs:=by
  refine Wp λi=>?_;rw[Ye];by_cases hi:i<ys.length
  ·rw[dZ hi]
   grind
  ·rw[Y0 (by rw[cD];omega),Y0 (by omega)];rfl
 rw[e2] at p1;exact kJ (p1.trans (iO fx))
abbrev Ik(n:Nat)(m f w d:Addr):List (Str×V):=[("size",.int (n:Int)),("mother",.ref m),("father",.ref f),("wife",.ref w),("steps",.ref d)]
abbrev mP(m f w im jf iw st:Addr):List (Key×V):=[(.inr "c",.ref m),(.inr "k",.ref f),(.inr "w",.ref w),(.inr "m",.ref im),(.inr "f",.ref jf),(.inr "h",.ref iw),(.inr "s",.ref st)]
def aV(H:Hp)(a:Addr)(ns:List Int):Prop:=H a=some (.tup (ns.map V.int))
inductive yt(H:Hp)(C L:Addr)(xs ys:List Int):Prop
 |mk (dx d m f w im jf iw st:Addr) (aC:H L=some (.ins C dx (Ik xs.length m f w d))) (aI:H d=some (.dK (mP m f w im jf iw st))) (aW:aV H m xs) (bt:aV H f (bO xs ys)) (bV:aV H w ys) (dE:aV H im (inv xs)) (gJ:aV H jf (inv (bO xs ys))) (jm:aV H iw (inv ys)) (qC:aV H st (a8 xs.length)):yt H C L xs ys
def iY(H:Hp)(C L:Addr)(xs ys:List Int):Prop:=yt H C L xs ys
theorem iY.same{H H':Hp}{C L:Addr}{xs ys:List Int}(g:ah H H')(h:iY H C L xs ys):iY H' C L xs ys:=by
 obtain⟨dx,d,m,f,w,im,jf,iw,st,h1,h2,h3,h4,h5,h6,h7,h8,h9⟩:=h;exact⟨dx,d,m,f,w,im,jf,iw,st,g _ _ h1,g _ _ h2,g _ _ h3,g _ _ h4,g _ _ h5,g _ _ h6,g _ _ h7,g _ _ h8,g _ _ h9⟩
inductive yu(C:Addr)(vs:List V)(H:Hp)(Q:VK):Prop
 |mk (x dx m f w:Addr) (xs ys:List Int) (aC:vs=[.ref x,.ref m,.ref f,.ref w]) (aI:H x=some (.ins C dx [])) (aW:aV H m xs) (bt:aV H f (bO xs ys)) (bV:aV H w ys) (dE:full xs=true) (gJ:full ys=true) (jm:xs.length=ys.length) (qC:2<=xs.length) (Ku:xs.length<=8) (Jv:∀H',(∀b o,H b=some o->b≠x->H' b=some o)->iY H' C x xs ys->Q .aD H'):yu C vs H Q
def zY(C:Addr):Sp:=λvs H Q _=>yu C vs H Q
inductive xF(C:Addr)(vs:List V)(H:Hp)(Q:VK):Prop
 |mk (m w:Addr) (xs ys:List Int) (aC:vs=[.ref m,.ref w]) (aI:aV H m xs) (aW:aV H w ys) (bt:full xs=true) (bV:full ys=true) (dE:xs.length=ys.length) (gJ:2<=xs.length) (jm:xs.length<=8) (qC:∀(L:Addr) (H':Hp),ah H H'->iY H' C L xs ys->Q (.ref L) H'):xF C vs H Q
def yv(C:Addr):Sp:=λvs H Q _=>xF C vs H Q
structure mV(K:ag)(C:Addr):Prop where
 cls:fc K C
 zZ:fD K C "size"
 Fe:fD K C "mother"
 Ff:fD K C "father"
 Hd:fD K C "wife"
 tW:fD K C "steps"
section
variable {K:ag}{mg:aG}{c:Addr}
theorem C9:a7 gH gH (aL rQ):=.bw
theorem He(F:aP K "check_turn" "check_turn" rQ f fd)(kF:HasFn P w K mg base 1 "is_turn" gH (uY K)):aH P w K mg base aT 2 f fd gH (uI K):=by
 refine F.o C9 λs H hr h=>?_;obtain⟨p,ns,rfl,hT,jh,fl,q⟩:=h;refine⟨_,(au (bj (hV (fB (aM kF hr (ae (pv 0) ai)))) kD bD)),?_⟩;refine⟨_,rfl,p,ns,rfl,.inr hT,jh,λH1 g=>⟨_,rfl,?_⟩⟩;rw[fl];exact bT (q H1 g)
theorem ED:a7 ir ir (aL tK):=.bw
theorem Il(F:aP K "behind" "behind" tK f fd)(ju:HasFn P w K mg base 2 "check_turn" gH (uI K))(sL:HasFn P w K mg base 1 "followed" ir (AE K))(bl:Bl mg):aH P w K mg base aT 3 f fd ir (uZ K):=by
 refine F.o ED λs H hr h=>?_;obtain⟨a,b,xs,ys,rfl,hA,hB,lx,fx,fy,eq,q⟩:=h;refine⟨_,(ao (dz (aM ju hr (ae (pv 0) ai))) (ao (dz (aM ju hr (ae (pv 1) ai))) (ao (bj (bx dM (bY K bl (pv 0)) (bY K bl (pv 1))) kD bD) (au (aN (aM sL hr (ae (pv 0) (ae (pv 1) ai)))))))),?_⟩;refine⟨_,rfl,a,xs,rfl,hA,lx,fx,λH1 g1=>?_⟩;refine⟨_,rfl,b,ys,rfl,g1.eK hB,by omega,fy,λH2 g2=>?_⟩;have g:=g1.trans g2;have BX:=g.eK hA;have BY:=g.eK hB;have el:∀zs:List Int,(zs.map V.int).length=zs.length:=λzs=>Ya _;refine⟨_,rfl,a,_,rfl,.inr BX,_,rfl,b,_,rfl,.inr BY,rfl,_,rfl,uD (by rw[el,el,eq]) (bJ ?_)⟩;exact⟨_,rfl,_,rfl,a,b,xs,ys,rfl,BX,BY,λz hz=>by rw[←eq];exact oQ fx hz,lx,λt H3 nt g3 ht=>q t H3 (g.free nt) (g.trans g3) ht⟩
theorem F6:a7 jk jk (aL uk):=.bw
theorem Im(F:aP K "back" "back" uk f fd)(ju:HasFn P w K mg base 2 "check_turn" gH (uI K))(rL:HasFn P w K mg base 1 "turned_back" jk Bc)(bl:Bl mg):aH P w K mg base aT 3 f fd jk Be:=by
 refine F.o F6 λs H hr h=>?_;obtain⟨a,xs,rfl,hA,lx,fx,q⟩:=h;refine⟨_,(ao (dz (aM ju hr (ae (pv 0) ai))) (au (aN (aM rL hr (ae (pv 0) ai))))),?_⟩;refine⟨_,rfl,a,xs,rfl,ay.of hA,lx,fx,λH1 g1=>?_⟩;exact⟨_,rfl,a,xs,rfl,g1 _ _ hA,lx,fx,λt H2 nt g2 ht=>q t H2 (g1.free nt) (g1.trans g2) ht⟩
theorem rM:a7 ["rows","size","row"] ["rows"] (aL rR):=.bw
theorem F7(F:aP K "check_rows" "check_rows" rR f fd)(kF:HasFn P w K mg base 1 "is_turn" gH (uY K)){t1 t2:Tok}(rV:mg "LEAST_SIZE"=some (.int 2 t1))(sh:mg "MOST_SIZE"=some (.int 8 t2))(bl:Bl mg):aH P w K mg base aT 2 f fd ["rows"] (um K):=by
 refine F.o rM λs H hr h=>?_;obtain⟨l,a0,as,n,rfl,hL,n2,n8,rows,q⟩:=h;refine⟨_,(ao (aR 1 rM.nd (bY K bl (aK (iL K) (pv 0) aq))) (ao (bj (PW.pt (pw_or (bx pd (pv 1) (hE (v:=.int (2)) rfl rV ⟨_,rfl⟩)) (pw_or1 (bx Ap (pv 1) (hE (v:=.int (8)) rfl sh ⟨_,rfl⟩))))) kD bD) (au (cK PassesOwn.never rfl (dy (K:=K) rfl (pv 0)) (aS 2 rM.nd) (au (bj (PW.pt (pw_or (bx dM (bY K bl (pv 2)) (pv 1)) (pw_or1 (hV (fB (aM kF hr (ae (pv 2) ai))))))) kD bD)))))),?_⟩;have el:∀zs:List Int,(zs.map V.int).length=zs.length:=λzs=>Ya _;obtain⟨x0,h0,l0,f0⟩:=rows a0 Yv;refine⟨_,rfl,l,_,0,.ref a0,rfl,rfl,hL,jB (j:=0) rfl,a0,_,rfl,.inr h0,?_⟩;rw[el,l0];refine⟨_,rfl,_,_,rfl,rfl,_,rfl,bR (λcc=>absurd (of_decide_eq_true cc) (by omega)) (λ_=>?_)⟩;refine⟨_,rfl,_,_,rfl,rfl,_,rfl,bR (λcc=>absurd (of_decide_eq_true cc) (by omega)) (λ_=>bJ ?_)⟩;refine⟨_,rfl,l,rfl,⟨_,hL⟩,dt (xs:=(a0::as).map V.ref) (λi σ H1=>ah H H1/\∃o2:Option V,σ=[some (.ref l),some (.int (n:Int)),o2]) ⟨ah.refl _,none,rfl⟩ (λi σ H1 _ ⟨g,_⟩=>g.seq hL) ?_ ?_⟩
 ·rintro i v σ H1 hi ⟨g,o2,rfl⟩;rw[Ye] at hi;obtain⟨a,ha,rfl⟩:∃a,a∈a0::as/\V.ref a=v:=by
   cases e:(a0::as)[i]? with
   |none=>rw[e] at hi;cases hi
   |some a=>grind
  obtain⟨xs,hx,lx,fx⟩:=rows a ha;refine⟨_,rfl,a,_,rfl,.inr (g.eK hx),_,rfl,rfl,_,rfl,uD (by rw[el,lx]) ?_⟩;refine⟨_,rfl,a,xs,rfl,.inr (g.eK hx),by omega,λH2 g2=>⟨_,rfl,?_⟩⟩;rw[fx];exact bT (bJ ⟨g.trans g2,_,rfl⟩)
 ·rintro σ H1 ⟨g,o2,rfl⟩;exact q H1 g
abbrev vT:List Str:=["mother","father","wife"]
theorem rm:a7 ["mother","father","wife","by_mothers","section"] vT (aL rq):=.bw
theorem D4(F:aP K "check_parents" "check_parents" rq f fd)(kI:HasFn P w K mg base 3 "behind" ir (uZ K))(bl:Bl mg):aH P w K mg base aT 4 f fd vT (xY K):=by
 refine F.o rm λs H hr h=>?_;obtain⟨m,fa,wi,xs,ys,rfl,hM,hF,hW,fx,fy,eq,l8,q⟩:=h;refine⟨_,(ao (aR 3 rm.nd (aM kI hr (ae (pv 2) (ae (pv 0) ai)))) (au (cK PassesOwn.never rfl (eV rfl bl.dB (ae (bY K bl (pv 1)) ai)) (aS 4 rm.nd) (au (bj (bx dM (aK (iT K) (pv 3) (pv 4)) (aK (iT K) (pv 1) (pv 4))) kD bD))))),?_⟩;have el:∀zs:List Int,(zs.map V.int).length=zs.length:=λzs=>Ya _;refine⟨_,rfl,_,rfl,wi,m,ys,xs,rfl,hW,hM,by omega,fy,fx,eq.symm,λt H1 nt g ht=>?_⟩;have al:=jx xs ys;refine⟨_,rfl,fa,_,rfl,.inr (g.eK hF),_,rfl,by rw[el];omega,by rw[el];omega,l3 (lo:=0) (n:=((((bO xs ys).map V.int).length:Nat):Int).toNat)
  (λi σ H2=>H2=H1/\∃o4:Option V,σ=[some (.ref m),some (.ref fa),some (.ref wi),some (.ref t),o4]) ⟨rfl,none,rfl⟩ ?_ ?_⟩
 ·rintro i σ H2 hi ⟨rfl,o4,rfl⟩;rw[Yp,el] at hi;have at_:c6 ((bO xs ys).map V.int) (0+(i:Int))=some (.int ((bO xs ys).getD (0+(i:Int)).toNat 0)):=mM (by omega) (by omega);refine⟨_,rfl,_,rfl,t,_,_,_,rfl,rfl,ay.of ht,at_,_,rfl,_,rfl,fa,_,_,_,rfl,rfl,g.eK hF,at_,rfl,_,rfl,uD rfl (bJ ⟨rfl,_,rfl⟩)⟩
 ·rintro σ H2 ⟨rfl,o4,rfl⟩;exact q _ g
end
theorem lE{f:Str}{y:V}{fs:List (Str×V)}{n:Nat}(h:fs.length<=n):(cF f y fs).length<=n+1:=Y5 (rY f y fs) (Nat.succ_le_succ h)
theorem Kv(a b c d:V):cF "wife" d (cF "father" c (cF "mother" b (cF "size" a [])))=([("size",a),("mother",b),("father",c),("wife",d)]:List (Str×V)):=rfl
theorem Kw(a b c d e:V):cF "steps" e [("size",a),("mother",b),("father",c),("wife",d)]=([("size",a),("mother",b),("father",c),("wife",d),("steps",e)]:List (Str×V)):=rfl
theorem Kx(a b c d e f g:V):fW [] [(.inr "c",a),(.inr "k",b),(.inr "w",c),(.inr "m",d),(.inr "f",e),(.inr "h",f),(.inr "s",g)]=[(.inr "c",a),(.inr "k",b),(.inr "w",c),(.inr "m",d),(.inr "f",e),(.inr "h",f),(.inr "s",g)]:=rfl
section
variable {K:ag}{mg:aG}{c:Addr}
abbrev qD:List Str:=["self","mother","father","wife"]
theorem Dj:a7 qD qD (aL se):=.bw
theorem F8(F:aP K "__init__" "Land.__init__" se f fd)(lc:mV K C)(ku:HasFn P w K mg base 2 "check_rows" ["rows"] (um K))(rC:HasFn P w K mg base 4 "check_parents" vT (xY K))
  (mQ:HasFn P w K mg base 3 "back" jk Be)(tX:HasFn P w K mg base 1 "still" ["size"] y3)(bl:Bl mg):aH P w K mg base aT 5 f fd qD (zY C):=by
 refine F.o Dj λs H hr h=>?_;obtain⟨x,dx,m,fa,wi,xs,ys,rfl,hx,hM,hF,hW,fx,fy,eq,l2,l8,q⟩:=h;refine⟨_,(ao (dz (aM ku hr (ae (mI (ae (pv 1) (ae (pv 2) (ae (pv 3) ai)))) ai))) (ao (dz (aM rC hr (ae (pv 1) (ae (pv 2) (ae (pv 3) ai))))) (ao (mH (pv 0) (bY K bl (pv 1)) rfl) (ao (mH (pv 0) (pv 1) rfl) (ao (mH (pv 0) (pv 2) rfl) (ao (mH (pv 0) (pv 3) rfl) (au (mH (pv 0) (mw (dI bH (pv 1) (dI bH (pv 2) (dI bH (pv 3) (dI bH (aM mQ hr (ae (pv 1) ai)) (dI bH (aM mQ hr (ae (pv 2) ai)) (dI bH (aM mQ hr (ae (pv 3) ai)) (dI bH (aM tX hr (ae (bY K bl (pv 1)) ai)) mv))))))) rfl rfl (λz=>nomatch z) (Wm rfl)) rfl)))))))),?_⟩;have el:∀zs:List Int,(zs.map V.int).length=zs.length:=λzs=>Ya _;have BZ:=oJ fx fy eq;have al:=jx xs ys;refine⟨_,rfl,_,rfl,_,rfl,by show 3<=sizeLine;decide,λl nl=>?_⟩;have g1:=bg nl (.lst [.ref m,.ref fa,.ref wi]);refine⟨l,m,[fa,wi],xs.length,rfl,ak.of aF,l2,l8,λa ha=>?_,λH2 g2=>?_⟩
 ·rcases Yw.mp ha with rfl|ha;·exact⟨xs,ay.of (g1 _ _ hM),rfl,fx⟩
  ·rcases Yw.mp ha with rfl|ha;·exact⟨bO xs ys,ay.of (g1 _ _ hF),by rw[al,eq],BZ⟩
   ·rw[Yh] at ha;subst ha;exact⟨ys,ay.of (g1 _ _ hW),eq.symm,fy⟩
 have iy:=g1.trans g2;refine⟨_,rfl,_,rfl,_,rfl,m,fa,wi,xs,ys,rfl,ay.of (iy _ _ hM),ay.of (iy _ _ hF),ay.of (iy _ _ hW),fx,fy,eq,l8,λH3 g3=>?_⟩;have g:=iy.trans g3;have qE:=g _ _ hx;have qF:=g _ _ hM;have vU:=g _ _ hF;have vV:=g _ _ hW;have nm:m≠x:=λe=>by rw[e,qE] at qF;cases qF
 have nf:fa≠x:=λe=>by rw[e,qE] at vU;cases vU
 have nw:wi≠x:=λe=>by rw[e,qE] at vV;cases vV
 refine⟨_,rfl,m,_,rfl,.inr (ay.of qF),_,rfl,x,C,dx,_,rfl,qE,lc.cls,lc.zZ,by decide,?_⟩;refine⟨_,rfl,_,rfl,x,C,dx,_,rfl,aF,lc.cls,lc.Fe,Wj (lE (Yd 0)) (by decide),?_⟩;refine⟨_,rfl,_,rfl,x,C,dx,_,rfl,aF,lc.cls,lc.Ff,Wj (lE (lE (Yd 0))) (by decide),?_⟩;refine⟨_,rfl,_,rfl,x,C,dx,_,rfl,aF,lc.cls,lc.Hd,Wj (lE (lE (lE (Yd 0)))) (by decide),?_⟩;rw[tO,tO,tO,el,Kv];have vW:upd H3 x (.ins C dx [("size",.int (xs.length:Int)),("mother",.ref m),("father",.ref fa),("wife",.ref wi)]) x=some (.ins C dx [("size",.int (xs.length:Int)),("mother",.ref m),("father",.ref fa),("wife",.ref wi)]):=aF;have o4:∀b o,H3 b=some o->b≠x->upd H3 x (.ins C dx [("size",.int (xs.length:Int)),("mother",.ref m),("father",.ref fa),("wife",.ref wi)]) b=some o:=λb o e n=>by rw[aU n];exact e
 generalize upd H3 x (.ins C dx [("size",.int (xs.length:Int)),("mother",.ref m),("father",.ref fa),("wife",.ref wi)])=H4 at vW o4⊢;have vX:=o4 _ _ qF nm;have B0:=o4 _ _ vU nf;have B3:=o4 _ _ vV nw;intro d nd;have g5:=bg nd (.dK []);have vY:upd H4 d (.dK []) d=some (.dK []):=aF;generalize upd H4 d (.dK [])=H5 at g5 vY⊢;refine⟨_,rfl,_,rfl,_,rfl,?_⟩;refine⟨_,rfl,m,xs,rfl,g5 _ _ vX,by omega,fx,λim H6 Ky g6 vZ=>?_⟩;refine⟨_,rfl,fa,bO xs ys,rfl,g6 _ _ (g5 _ _ B0),by omega,BZ,λjf H7 Kz g7 v8=>?_⟩;refine⟨_,rfl,wi,ys,rfl,g7 _ _ (g6 _ _ (g5 _ _ B3)),by omega,fy,λiw H8 Nl g8 KA=>?_⟩;have fM:=(g6.trans g7).trans g8;refine⟨_,rfl,m,_,rfl,.inr (ay.of (fM _ _ (g5 _ _ vX))),xs.length,by rw[el];rfl,by omega,λst H9 v9 g9 bU=>?_⟩;have gK:=fM.trans g9;refine⟨gK _ _ vY,mP m fa wi im jf iw st,rfl,by show 7<=15;decide,?_⟩;have B4:d≠x:=aY vW nd |>.symm;have B5:=gK _ _ (g5 _ _ vW);refine⟨_,rfl,x,C,dx,_,rfl,by rw[aU B4.symm];exact B5,lc.cls,lc.tW,by show 4<1000;decide,?_⟩;rw[Kw,Kx];have key:∀{b:Addr} {o:HO},H9 b=some o->b≠d->b≠x->upd (upd H9 d (.dK (mP m fa wi im jf iw st))) x (.ins C dx [("size",.int (xs.length:Int)),("mother",.ref m),("father",.ref fa),("wife",.ref wi),("steps",.ref d)]) b=some o:=λ{b o} e n1 n2=>by
  rw[aU n2,aU n1];exact e
 have jP:∀{b:Addr} {zs:List Int},H9 b=some (.tup (zs.map V.int))->aV (upd (upd H9 d (.dK (mP m fa wi im jf iw st))) x (.ins C dx [("size",.int (xs.length:Int)),("mother",.ref m),("father",.ref fa),("wife",.ref wi),("steps",.ref d)])) b zs:=λ{b zs} e=>
  key e (λz=>by rw[z,gK _ _ vY] at e;cases e) (λz=>by rw[z,B5] at e;cases e)
 refine q _ (λb o e n=>?_) ⟨dx,d,m,fa,wi,im,jf,iw,st,aF,by rw[aU B4];exact aF,jP (gK _ _ (g5 _ _ vX)),jP (gK _ _ (g5 _ _ B0)),jP (gK _ _ (g5 _ _ B3)),jP (g9 _ _ (g8 _ _ (g7 _ _ vZ))),jP (g9 _ _ (g8 _ _ v8)),jP (g9 _ _ KA),jP bU⟩;have e4:=o4 _ _ (g _ _ e) n;refine key (gK _ _ (g5 _ _ e4)) (aY e4 nd) n
abbrev qG:List Str:=["mother","wife"]
theorem D5:a7 qG qG (aL s_):=.bw
theorem D6(F:aP K "land_of" "land_of" s_ f fd)(ku:HasFn P w K mg base 2 "check_rows" ["rows"] (um K))(kI:HasFn P w K mg base 3 "behind" ir (uZ K))
  (uo:ph P w K mg base 5 "Land" C qD (zY C)):aH P w K mg base aT 7 f fd qG (yv C):=by
 refine F.o D5 λs H hr h=>?_;obtain⟨m,wi,xs,ys,rfl,hM,hW,fx,fy,eq,l2,l8,q⟩:=h;refine⟨_,(ao (dz (aM ku hr (ae (mI (ae (pv 0) (ae (pv 1) ai))) ai))) (au (aN (Ic uo hr (by omega) rfl (ae (pv 0) (ae (aM kI hr (ae (pv 1) (ae (pv 0) ai))) (ae (pv 1) ai))))))),?_⟩;refine⟨_,rfl,_,rfl,by show 2<=sizeLine;decide,λl nl=>?_⟩;have g1:=bg nl (.lst [.ref m,.ref wi]);refine⟨l,m,[wi],xs.length,rfl,ak.of aF,l2,l8,λa ha=>?_,λH2 g2=>?_⟩
 ·rcases Yw.mp ha with rfl|ha;·exact⟨xs,ay.of (g1 _ _ hM),rfl,fx⟩
  ·rw[Yh] at ha;subst ha;exact⟨ys,ay.of (g1 _ _ hW),eq.symm,fy⟩
 have g:=g1.trans g2;refine⟨_,rfl,_,rfl,_,rfl,wi,m,ys,xs,rfl,ay.of (g _ _ hW),ay.of (g _ _ hM),by omega,fy,fx,eq.symm,λfa H3 Nm g3 c7=>?_⟩;have fo:=g.trans g3;refine⟨_,rfl,λx dx nx KC ne=>?_⟩;have KD:upd H3 dx (.own x) x=none:=by rw[aU (λz=>ne z.symm)];exact nx
 have g4:ah H3 (upd (upd H3 dx (.own x)) x (.ins C dx [])):=(bg KC _).trans (bg KD _);refine⟨x,dx,m,fa,wi,xs,ys,rfl,aF,g4 _ _ (fo _ _ hM),g4 _ _ c7,g4 _ _ (fo _ _ hW),fx,fy,eq,l2,l8,λH5 k5 la=>⟨rfl,q x H5 (λb o e=>?_) la⟩⟩;have e3:=fo _ _ e;exact k5 b o (g4 _ _ e3) (aY e3 nx)
end
abbrev iZ(xs ys:List Int):List (Str×List Int):=[("c",xs),("k",bO xs ys),("w",ys),("m",inv xs),("f",inv (bO xs ys)),("h",inv ys),("s",a8 xs.length)]
inductive yw(C:Addr)(vs:List V)(H:Hp)(Q:VK):Prop
 |mk (L:Addr) (z:Str) (xs ys ns:List Int) (aC:vs=[.ref L,.str z]) (aI:iY H C L xs ys) (aW:(z,ns)∈iZ xs ys) (bt:∀t:Addr,aV H t ns->Q (.ref t) H):yw C vs H Q
def z4(C:Addr):Sp:=λvs H Q _=>yw C vs H Q
theorem step_at{H:Hp}{xs ys ns:List Int}{z:Str}{m f w im jf iw st:Addr}(h:(z,ns)∈iZ xs ys)(h3:aV H m xs)(h4:aV H f (bO xs ys))(h5:aV H w ys)(h6:aV H im (inv xs))(h7:aV H jf (inv (bO xs ys)))(h8:aV H iw (inv ys))(h9:aV H st (a8 xs.length)):
  ∃t,aA (mP m f w im jf iw st) (.inr z)=some (.ref t)/\aV H t ns:=by
 simp only[Yw,Wh,or_false] at h;rcases h with⟨rfl,rfl⟩|⟨rfl,rfl⟩|⟨rfl,rfl⟩|⟨rfl,rfl⟩|⟨rfl,rfl⟩|⟨rfl,rfl⟩|⟨rfl,rfl⟩;·exact⟨m,rfl,h3⟩
 ·exact⟨f,rfl,h4⟩
 ·exact⟨w,rfl,h5⟩
 ·exact⟨im,rfl,h6⟩
 ·exact⟨jf,rfl,h7⟩
 ·exact⟨iw,rfl,h8⟩
 ·exact⟨st,rfl,h9⟩
section
variable {K:ag}{mg:aG}
abbrev qH:List Str:=["self","letter"]
theorem Dk:a7 qH qH (aL sg):=.bw
theorem F9(F:aP K "step" "Land.step" sg f fd)(lc:mV K C):aH P w K mg base aT 1 f fd qH (z4 C):=by
 refine F.o Dk λs H hr h=>?_;obtain⟨L,z,xs,ys,ns,rfl,la,hz,q⟩:=h;refine⟨_,(ao (bj (mD (oC (bC hr) (pv 1) (pF K 0)) (by with_unfolding_all rfl)) kD bD) (au (aN (cM (bC hr) (pF K 0) (pv 1) (λ_ _=>rfl))))),?_⟩;obtain⟨dx,d,m,fa,wi,im,jf,iw,st,h1,h2,h3,h4,h5,h6,h7,h8,h9⟩:=la;obtain⟨t,hv,ht⟩:=step_at hz h3 h4 h5 h6 h7 h8 h9;have dg:=hv▸da.k h2;exact⟨_,rfl,_,rfl,L,C,dx,_,.ref d,rfl,h1,lc.cls,lc.tW,rfl,d,_,rfl,dg,_,rfl,bT (bJ ⟨_,rfl,L,C,dx,_,.ref d,rfl,h1,lc.cls,lc.tW,rfl,_,rfl,d,_,rfl,dg,q t ht⟩)⟩
end
def cO(xs ys:List Int):Prop:=full xs=true/\full ys=true/\xs.length=ys.length/\2<=xs.length/\xs.length<=8
theorem ow(g:cO xs ys)(h:(z,ns)∈iZ xs ys):full ns=true/\ns.length=xs.length:=by
 obtain⟨fx,fy,e,_,_⟩:=g;have fa:=oJ fx fy e;simp only[Yw,Wh,or_false,Prod.mk.injEq] at h;rcases h with⟨rfl,rfl⟩|⟨rfl,rfl⟩|⟨rfl,rfl⟩|⟨rfl,rfl⟩|⟨rfl,rfl⟩|⟨rfl,rfl⟩|⟨rfl,rfl⟩;·exact⟨fx,rfl⟩
 ·exact⟨fa,by rw[jx];exact e.symm⟩
 ·exact⟨fy,e.symm⟩
 ·exact⟨jy fx,dG _⟩
 ·exact⟨jy fa,by rw[dG,jx];exact e.symm⟩
 ·exact⟨jy fy,by rw[dG];exact e.symm⟩
 ·exact⟨kJ (List.Perm.refl _),cD _⟩
def gL(n:Nat)(d:Int):List Int:=(List.range n).map λi:Nat=>((i:Int)+d) % (n:Int)
theorem rot_length(n:Nat)(d:Int):(gL n d).length=n:=by simp[gL]
theorem Fg(hn:0<n)(d:Int):(gL n d).Perm (a8 n):=by
 have qc:(0:Int)<(n:Int):=by omega
 have r0:=Y7 d (Jk qc);have r1:=Y4 d qc;obtain⟨r,er⟩:∃r:Nat,d % (n:Int)=(r:Int):=⟨(d % (n:Int)).toNat,by omega⟩;have rn:r<n:=by omega
 have e:gL n d=(a8 n).drop r++(a8 n).take r:=by
  refine Wp λi=>?_;have ul:=cD n;by_cases hi:i<n
  ·have lhs:(gL n d)[i]?=some (((i:Int)+d) % (n:Int)):=by
    unfold gL;rw[Ye,W1 hi];rfl
   have em:((i:Int)+d) % (n:Int)=((r:Int)+(i:Int)) % (n:Int):=by
    rw[Int.add_comm,←Int.emod_add_emod,er]
   rw[lhs,em];by_cases h:r+i<n;·rw[Wb (by rw[W9,ul];omega),List.getElem?_drop,dZ (by omega),Int.emod_eq_of_lt (by omega) (by omega),Int.natCast_add]
   ·rw[Wf (by rw[W9,ul];omega),W9,ul,List.getElem?_take_of_lt (by omega),dZ (by omega)];have e3:(r:Int)+(i:Int)=((i-(n-r):Nat):Int)+(n:Int)*1:=by omega
    rw[e3,Int.add_mul_emod_self_left,Int.emod_eq_of_lt (by omega) (by omega)]
  ·rw[Y0 (by rw[rot_length];omega),Y0 (by rw[Yj,W9,Y9,ul];omega)]
 rw[e];exact List.perm_append_comm.trans (by rw[List.take_append_drop])
inductive y6(vs:List V)(H:Hp)(Q:VK):Prop
 |mk (c:Int) (n:Nat) (aC:vs=[.int c,.int (n:Int)]) (aI:0<n) (aW:n<=60) (bt:∀(t:Addr) (ts:List Int) (H':Hp),H t=none->ah H H'->aV H' t ts->ts.Perm (a8 n)->Q (.ref t) H'):y6 vs H Q
def AF:Sp:=λvs H Q _=>y6 vs H Q
inductive y8(K:ag)(vs:List V)(H:Hp)(Q:VK):Prop
 |mk (a b:Addr) (xs ys:List Int) (aC:vs=[.ref a,.ref b]) (aI:ay K H a (xs.map V.int)) (aW:ay K H b (ys.map V.int)) (bt:(∀x∈xs,0<=x/\x<ys.length)) (bV:xs.length<=60) (dE:∀(l:Addr) (H':Hp),H l=none->ah H H'->aV H' l (bO ys xs)->Q (.ref l) H'):y8 K vs H Q
def AG(K:ag):Sp:=λvs H Q _=>y8 K vs H Q
theorem y9(h:Paired Bd ds [a,b]):∃v w,ds=[v,w]/\Bd v a/\Bd w b:=by
 cases h with|cons h1 h=>cases h with|cons h2 h=>
  cases h;exact⟨_,_,rfl,h1,h2⟩
section
variable {K:ag}{mg:aG}
abbrev u4:List Str:=["_law_cell_here","_law_size"]
theorem xG:a7 ["_law_cell_here","_law_size","_law_drawn"] u4 (aL tj):=.bw
theorem D7(F:aP K "_law_row" "_law_row" tj f fd)(eS:HasFn P w K mg base 1 "_law_draws" lD (mq K))(sM:HasFn P w K mg base 1 "_law_turn" vP zJ)(bl:Bl mg):
  aH P w K mg base aT 2 f fd u4 AF:=by
 refine F.o xG λs H hr h=>?_;obtain⟨c,n,rfl,n0,KG,q⟩:=h;refine⟨_,(ao (dm (i:=2) xG.nd rfl (Or.inr rfl) (aM eS hr (ae (pv 0) (ae (mI (ae aq (ae aq ai))) ai)))) (ao (bj (bx dJ (aK (iL K) (pv 2) aq) aq) (au (aN (cU (kq) rfl bl.fU fS (ae (iV (x:="_law_at") (fr:=[("_law_size",1),("_law_drawn",2)]) (cl:=[("_law_size",s.heap.objs.size+1),("_law_drawn",s.heap.objs.size+1+1)]) rfl (.fk ⟨rfl,⟨rfl,trivial⟩⟩ ⟨⟨rfl,.inl rfl,.inl rfl,rfl⟩,⟨⟨rfl,.inl rfl,.inl rfl,rfl⟩,trivial⟩⟩) (eV rfl bl.dB (ae (pv 1) ai)) (λ_ _ _ _=>fT) (λ_ _ _ _=>(az bZ (az cN (pv 0) (aK (iL K) (pv 2) aq)) (pv 1)))) ai)))) bD) (au (aN (aM sM hr (ae (aK (iL K) (pv 2) aq) (ae (pv 1) ai))))))),?_⟩;refine⟨_,rfl,by show 2<=sizeLine;decide,λp np=>?_⟩;refine⟨c,p,[3,40320],rfl,ak.of aF,by decide,by decide,λdl ds H1 nd g1 h1 bd=>?_⟩;obtain⟨d0,d1,rfl,⟨a0,Nn⟩,⟨a1,Np⟩⟩:=y9 bd;have g:=(bg np _).trans g1;have pos:(0:Int)<(n:Int):=by omega
 refine⟨_,rfl,dl,_,0,.int d0,rfl,rfl,ak.of h1,rfl,rfl,_,rfl,bR (λ_=>?_) (λ_=>bJ ?_)⟩
 ·refine⟨_,rfl,(n:Int),rfl,by omega,by omega,λD hD=>lY (lo:=0) (n:=(n:Int).toNat) (λi zs H2=>ah H1 H2/\H2 D=some (.lst zs)/\zs=((gL n d1).take i).map V.int) ⟨bg hD _,aF,rfl⟩ ?_ ?_⟩
  ·rintro i zs H2 hi ⟨g2,h2,e2⟩;rw[Yp] at hi;rw[Wq];refine fG (cg ⟨_,rfl,_,rfl,dl,_,1,.int d1,rfl,rfl,ak.of (g2 _ _ h1),rfl,_,_,rfl,rfl,_,rfl,_,_,rfl,rfl,pos,h2,?_,λd o qd=>?_,aF,?_⟩)
   ·rw[e2,Ya,Y9,rot_length];exact fA (by omega)
   ·rw[aU (aY qd hD)];exact g2 d o qd
   ·have ge:(gL n d1)[i]?=some (((i:Int)+d1) % (n:Int)):=by
     unfold gL;rw[Ye,W1 hi];rfl
    rw[e2,Yq,sY,ge];rfl
  ·rintro zs H2 ⟨g2,h2,e2⟩;rw[Yp,We (by rw[rot_length];omega)] at e2;refine⟨D,_,rfl,.inl ⟨ak.of h2,λt ht=>q t (gL n d1) _ (g.free (g2.free ht)) ((g.trans g2).trans (bg ht _)) ?_ (Fg n0 d1)⟩⟩;show upd H2 t (.tup zs) t=_;rw[aF,e2]
 ·exact⟨_,rfl,dl,_,1,.int d1,rfl,rfl,ak.of h1,rfl,_,rfl,d1,n,rfl,KG,λt ts H2 nt g2 ht pm=>q t ts H2 (g.free nt) (g.trans g2) ht pm⟩
abbrev pR:List Str:=["_law_first","_law_then"]
theorem Dm:a7 pR pR (aL r9):=.bw
theorem Dn(F:aP K "_law_after" "_law_after" r9 f fd)(bl:Bl mg):aH P w K mg base aT 1 f fd pR (AG K):=by
 refine F.o Dm λs H hr h=>?_;obtain⟨a,b,xs,ys,rfl,hA,hB,qB,hl,q⟩:=h;refine⟨_,(au (aN (cU (kq) rfl bl.fU fS (ae (iV (x:="_law_one") (fr:=[("_law_then",1)]) (cl:=[("_law_then",s.heap.objs.size+1)]) rfl (.fk ⟨rfl,trivial⟩ ⟨⟨rfl,.inl rfl,.inl rfl,rfl⟩,trivial⟩) (t9 (pv 0)) (λ_ _ _ _=>fT) (λ_ _ _ _=>(aK (iT K) (pv 1) (pv 0)))) ai)))),?_⟩;refine⟨_,rfl,a,rfl,⟨_,hA⟩,λD hD=>tH (xs:=xs.map V.int) (λi zs H3=>ah H H3/\H3 D=some (.lst zs)/\zs=((bO ys xs).take i).map V.int) ⟨bg hD _,aF,rfl⟩ (λi zs H3 _ ⟨g3,_,_⟩=>g3.eK hA) ?_ ?_⟩
 ·rintro i v zs H3 hi ⟨g3,h3,e3⟩;obtain⟨z,rfl,hz⟩:=mj hi;have lC:i<xs.length:=(Yi.mp hz).1;have bz:=qB z (Yk hz);refine fG (cg ⟨_,rfl,_,rfl,b,_,_,_,rfl,rfl,g3.eK hB,mM bz.1 bz.2,h3,?_,λd o qd=>?_,aF,?_⟩)
  ·rw[e3,Ya,Y9,jx];exact fA (by omega)
  ·rw[aU (aY qd hD)];exact g3 d o qd
  ·rw[e3,Yq,sY];unfold bO;rw[Ye,hz];rfl
 ·rintro zs H3 ⟨g3,h3,e3⟩;refine⟨D,_,rfl,.inl ⟨ak.of h3,λt ht=>q t _ (g3.free ht) (g3.trans (bg ht _)) ?_⟩⟩;show upd H3 t (.tup zs) t=_;rw[aF,e3,Ya,We (by rw[jx];omega)]
end
inductive y_(vs:List V)(H:Hp)(Q:VK):Prop
 |mk (a:Addr) (xs:List Int) (aC:vs=[.ref a]) (aI:aV H a xs) (aW:xs.length<64) (bt:full xs=true) (bV:∀(t:Addr) (H':Hp),H t=none->ah H H'->aV H' t (inv xs)->Q (.ref t) H'):y_ vs H Q
def pC:Sp:=λvs H Q _=>y_ vs H Q
section
variable {K:ag}{mg:aG}
abbrev k8:List Str:=["_law_turn_here"]
theorem C1:a7 k8 k8 (aL rJ):=.bw
theorem D8(F:aP K "_law_inverse" "_law_inverse" rJ f fd)(bl:Bl mg):aH P w K mg base aT 1 f fd k8 pC:=by
 refine F.o C1 λs H hr h=>?_;obtain⟨a,xs,rfl,hA,lx,fx,q⟩:=h;refine⟨_,(au (aN (cU (kq) rfl bl.fU fS (ae (iV (x:="_law_at") (fr:=[("_law_turn_here",0)]) (cl:=[("_law_turn_here",s.heap.objs.size+1)]) rfl (.fk ⟨rfl,trivial⟩ ⟨⟨rfl,.inl rfl,.inl rfl,rfl⟩,trivial⟩) (eV rfl bl.dB (ae (bY K bl (pv 0)) ai)) (λ_ _ _ _=>fT) (λ_ _ _ _=>(xg (pv 1) (ae (pv 0) ai)))) ai)))),?_⟩;have el:(xs.map V.int).length=xs.length:=Ya _;refine⟨_,rfl,a,_,rfl,.inr (ay.of hA),_,rfl,by rw[el];omega,by rw[el];omega,λD hD=>lY (lo:=0) (n:=(((xs.map V.int).length:Nat):Int).toNat)
   (λi zs H2=>ah H H2/\H2 D=some (.lst zs)/\zs=((inv xs).take i).map V.int) ⟨bg hD _,aF,rfl⟩ ?_ ?_⟩
 ·rintro i zs H2 hi ⟨g2,h2,e2⟩;rw[Yp,el] at hi;rw[Wq];have hx:=mf (yp fx hi);have nP:=g2 _ _ hA;refine fG (cg ⟨_,rfl,a,xs,rfl,nP,_,rfl,(i:Int),dO (i:Int) xs,rfl,nP,hx.1,hx.2,h2,?_,λd o qd=>?_,aF,?_⟩)
  ·rw[e2,Ya,Y9,dG];exact fA (by omega)
  ·rw[aU (aY qd hD)];exact g2 d o qd
  ·rw[e2,yq hi,Yo];rfl
 ·rintro zs H2 ⟨g2,h2,e2⟩;refine⟨D,_,rfl,.inl ⟨ak.of h2,λt ht=>q t _ (g2.free ht) (g2.trans (bg ht _)) ?_⟩⟩;show upd H2 t (.tup zs) t=_;rw[aF,e2,Yp,el,We (by rw[dG];omega)]
end
theorem Dp{xs:List Nat}{m:Nat}(nd:xs.Nodup)(h:∀x∈xs,x<m):xs.length<=m:=by
 have l:=nd.length_le_of_subset λx hx=>Wa.mpr (h x hx)
 grind
theorem cv{H:Hp}{a b:Addr}{o o':HO}(h:H a=some o)(h':H b=some o')(ne:o≠o'):a≠b:=λz=>by
 grind
theorem gY{α β:Type}{F:α->β->Prop}{x:α}{y:β}(f:F x y){xs:List α}{ys:List β}(h:Paired F xs ys):Paired F (xs++[x]) (ys++[y]):=by
 induction h with
 |nil=>exact .cons f .nil
 |cons r t ih=>exact .cons r ih
def ap(t:List Int)(z:Int):Int:=t.getD z.toNat 0
theorem Hf(h0:0<=z)(h:z<t.length):t[z.toNat]?=some (ap t z):=by
 unfold ap
 grind
theorem Io{t:List Int}{n:Nat}(ft:full t=true)(lt:t.length=n){z:Int}(h:0<=z/\z<n):0<=ap t z/\ap t z<n:=by
 have:=oQ ft (Yk (Hf h.1 (by omega)));omega
structure Fc where
 k:Str
 one:Nat
 cq:Int
 tn:List Int
abbrev bb:Str:="said"
def dP(F:List Fc)(x y:Nat)(t:List Int):Prop:=∃c∈F,c.k≠bb/\((c.one=x/\c.cq.toNat=y/\t=c.tn)\/(c.cq.toNat=x/\c.one=y/\t=inv c.tn))
def fE(n:Nat)(F:List Fc)(g:Nat->Option Int):Prop:=(∀x y t u,dP F x y t->g x=some u->g y=some (ap t u))/\(∀c∈F,c.k=bb->∀u,g c.one=some u->u=c.cq)/\∀k v,g k=some v->0<=v/\v<(n:Int)
structure nQ(n m:Nat)(c:Fc):Prop where
 one:c.one<m
 fN:c.k≠bb->(0<=c.cq/\c.cq.toNat<m)/\full c.tn=true/\c.tn.length=n
def jQ(L:Nat->List (Nat×List Int))(x:Nat)(p:Nat×List Int):Nat->List (Nat×List Int):=λz=>if z=x then L x++[p] else L z
theorem gZ{aa:List (Key×V)}{k k':Key}{v:V}(h:aA aa k=none):aA (aa++[(k,v)]) k'=if k'=k then some v else aA aa k':=by
 rw[←oI v h];exact dH _ _ _ _
theorem yx:q∈jQ L x p z↔q∈L z\/(z=x/\q=p):=by
 unfold jQ;by_cases e:z=x
 ·rw[if_pos e,Yu,e];simp
 ·rw[if_neg e];simp[e]
theorem Fh:¬dP [] x y t:=λ⟨_,m,_⟩=>nomatch m
theorem yy:dP (F++[c]) x y t↔dP F x y t\/(c.k≠bb/\((c.one=x/\c.cq.toNat=y/\t=c.tn)\/(c.cq.toNat=x/\c.one=y/\t=inv c.tn))):=by
 constructor
 ·rintro⟨c',m,h1,h2⟩;rcases Yu.mp m with m|m;·exact .inl ⟨c',m,h1,h2⟩
  ·rw[Yh] at m;subst m;exact .inr ⟨h1,h2⟩
 ·rintro(⟨c',m,h⟩|h);·exact⟨c',Y8 _ m,h⟩
  ·exact⟨c,Ys _ Yv,h⟩
theorem lookup_mem:∀{ps:List (Nat×α)} {k:Nat} {v:α},ps.lookup k=some v->(k,v)∈ps
 |[],_,_,h=>by simp at h
 |p::ps,k,v,h=>by
  rw[Ws] at h;by_cases e:k=p.1;·grind
  ·rw[beq_eq_false_iff_ne.mpr e] at h;exact Yx _ (lookup_mem h)
theorem mem_lookup:∀{ps:List (Nat×α)} {k:Nat} {v:α},(ps.map (·.1)).Nodup->(k,v)∈ps->ps.lookup k=some v
 |p::ps,k,v,nd,h=>by
  obtain⟨n1,n2⟩:=Wn.mp (show(p.1::ps.map (·.1)).Nodup from nd);rw[Ws];rcases Yw.mp h with h|h;·grind
  ·have e:k≠p.1:=λz=>n1 (by rw[←z];exact Y6.mpr ⟨_,h,rfl⟩);rw[beq_eq_false_iff_ne.mpr e];exact mem_lookup n2 h
theorem D9{α:Type}{ps:List (Nat×α)}{q:Nat×α}{k:Nat}{v:α}(h:ps.lookup k=some v):(ps++[q]).lookup k=some v:=by
 grind
theorem D_{α:Type}{ps:List (Nat×α)}{k:Nat}{v:α}(h:ps.lookup k=none):(ps++[(k,v)]).lookup k=some v:=by
 grind
theorem za(ok:∀c∈F,nQ n m c)(e:dP F x y t):x<m/\y<m/\full t=true/\t.length=n:=by
 obtain⟨c,mc,ns,h⟩:=e;obtain⟨⟨o0,om⟩,ft,tl⟩:=(ok c mc).fN ns;have o1:=(ok c mc).one;rcases h with⟨rfl,rfl,rfl⟩|⟨rfl,rfl,rfl⟩;·grind
 ·exact⟨om,o1,jy ft,by rw[dG];exact tl⟩
inductive pS(F:List Fc)(x:Nat):Nat->Prop
 |refl:pS F x x
 |step {y z:Nat} {t:List Int}:pS F x y->dP F y z t->pS F x z
structure BF(F:List Fc)(n m x:Nat)(a:Int)(g:List (Nat×Int)):Prop where
 nd:(g.map (·.1)).Nodup
 lt:∀p∈g,p.1<m/\0<=p.2/\p.2<(n:Int)
 hd:g.lookup x=some a
 snd:∀g',fE n F g'->g' x=some a->∀p∈g,g' p.1=some p.2
 conn:∀p∈g,pS F x p.1
section
variable {F:List Fc}{n m x:Nat}{a:Int}{g:List (Nat×Int)}
theorem KH(hx:x<m)(ha:0<=a/\a<(n:Int)):BF F n m x a [(x,a)]:=by
 refine⟨by simp,λp hp=>?_,by simp,λg' _ h p hp=>?_,λp hp=>?_⟩;·grind
 ·grind
 ·rw[Yh] at hp;rw[hp];exact .refl
theorem BF.len(b:BF F n m x a g):g.length<=m:=by
 have:=Dp b.nd λk hk=>by
  obtain⟨p,hp,rfl⟩:=Y6.mp hk;exact(b.lt p hp).1
 grind
theorem BF.add(b:BF F n m x a g)(ok:∀c∈F,nQ n m c){k y:Nat}{t:List Int}{v:Int}(e:dP F k y t)(hk:g.lookup k=some v)(hy:g.lookup y=none):BF F n m x a (g++[(y,ap t v)]):=by
 obtain⟨_,ym,ft,tl⟩:=za ok e;have mk:=lookup_mem hk;refine⟨?_,λp hp=>?_,D9 b.hd,λg' c h p hp=>?_,λp hp=>?_⟩
 ·rw[Yo];refine Ww.mpr ⟨b.nd,by simp,λu hu w hw z=>?_⟩
  grind
 ·rcases Yu.mp hp with hp|hp;·exact b.lt p hp
  ·rw[Yh] at hp;rw[hp];exact⟨ym,Io ft tl (b.lt _ mk).2⟩
 ·rcases Yu.mp hp with hp|hp;·exact b.snd g' c h p hp
  ·rw[Yh] at hp;rw[hp];exact c.1 k y t v e (b.snd g' c h _ mk)
 ·rcases Yu.mp hp with hp|hp;·exact b.conn p hp
  ·rw[Yh] at hp;rw[hp];exact .step (b.conn _ mk) e
theorem BF.Ip(b:BF F n m x a g)(e:dP F k y t)(hk:g.lookup k=some v)(hy:g.lookup y=some v')(ne:v'≠ap t v):¬∃g',fE n F g'/\g' x=some a:=by
 rintro⟨g',c,h⟩;have h2:=b.snd g' c h _ (lookup_mem hy);have h3:=c.1 k y t v e (b.snd g' c h _ (lookup_mem hk))
 grind
theorem BF.Hg(b:BF F n m x a g)(mc:c∈F)(sd:c.k=bb)(hk:g.lookup c.one=some v)(ne:v≠c.cq):¬∃g',fE n F g'/\g' x=some a:=by
 rintro⟨g',cl,h⟩;exact ne (cl.2.1 c mc sd v (b.snd g' cl h _ (lookup_mem hk)))
def Cl(L:Nat->List (Nat×List Int))(g:List (Nat×Int))(r:Nat):Prop:=∀p,g[r]?=some p->∀q∈L p.1,g.lookup q.1=some (ap q.2 p.2)
theorem BF.done(b:BF F n m x a g)(ed:∀x y t,(y,t)∈L x↔dP F x y t)(cl:∀r,r<g.length->Cl L g r)(sd:∀c∈F,c.k=bb->∀u,g.lookup c.one=some u->u=c.cq):fE n F (λk=>g.lookup k):=by
 refine⟨λk y t u e hk=>?_,sd,λk v h=>(b.lt _ (lookup_mem h)).2⟩;obtain⟨r,hr,er⟩:=List.mem_iff_getElem.mp (lookup_mem hk);have:=cl r hr (k,u) (by rw[Yf hr,er]) (y,t) ((ed _ _ _).mpr e);exact this
end
theorem oh{α:Type}{ps qs:List (Nat×α)}{k:Nat}{v:α}(h:ps.lookup k=some v):(ps++qs).lookup k=some v:=by
 grind
theorem Cl.app(hr:r<g.length)(c:Cl L g r):Cl L (g++tl) r:=λp hp q hq=>by
 rw[Wb hr] at hp;exact oh (c p hp q hq)
open Classical in
noncomputable def i5 (F:List Fc) (n x:Nat):List Int:=(a8 n).filter λa=>decide (∃g,fE n F g/\g x=some a)
abbrev aZ:=List (Str×Str)
def aw(ps:aZ)(i:Nat):Str:=(ps.getD i ("","")).1
abbrev iA(ps:aZ):List (Key×V):=ps.map λp=>(.inr p.1,.str p.2)
def jR(ps:aZ)(c:Fc):Key:=if c.k=bb then .inl c.cq else .inr (aw ps c.cq.toNat)
def KI(ps:aZ):List (Key×V):=ps.zipIdx.map λp=>(.inr p.1.1,.int (p.2:Int))
theorem Fi[DecidableEq κ](aa:List (κ×V))(k:κ):(aA aa k).isSome=true↔k∈aa.map (·.1):=by
 induction aa with
 |nil=>exact⟨(λz=>nomatch z),(λz=>nomatch z)⟩
 |cons p r ih=>
  by_cases e:p.1=k
  ·rw[du e]
   grind
  ·rw[dv e,ih]
   grind
theorem Dq{κ:Type}[DecidableEq κ]{aa:List (κ×V)}{k:κ}(h:k∉aa.map (·.1)):aA aa k=none:=by
 cases e:aA aa k with
 |none=>rfl
 |some v=>exact absurd ((Fi aa k).mp (by rw[e];rfl)) h
theorem F_{κ:Type}[DecidableEq κ]{aa:List (κ×V)}{k:κ}{v:V}(nd:(aa.map (·.1)).Nodup)(h:(k,v)∈aa):aA aa k=some v:=by
 induction aa with
 |nil=>cases h
 |cons p r ih=>
  obtain⟨n1,n2⟩:=Wn.mp (show(p.1::r.map (·.1)).Nodup from nd);rcases Yw.mp h with h|h;·rw[←h];exact du rfl
  ·rw[dv (λz=>n1 (by rw[z];exact Y6.mpr ⟨_,h,rfl⟩))];exact ih n2 h
abbrev ie:List (Str×Str):=[("mother","m"),("father","f"),("wed","w"),("sibling","s")]
abbrev d8(xs ys:List Int):List (Str×List Int):=[("mother",inv xs),("father",inv (bO xs ys)),("wed",ys),("sibling",a8 xs.length)]
structure kZ(xs ys:List Int)(m:Nat)(c:Fc):Prop where
 ok:nQ xs.length m c
 kind:c.k=bb\/(c.k,c.tn)∈d8 xs ys
 gb:c.k=bb->0<=c.cq/\c.cq<(xs.length:Int)
theorem lZ:(bb,tn)∉d8 xs ys:=by
 intro h;simp only[Yw,Wh,or_false] at h;rcases h with⟨h,_⟩|⟨h,_⟩|⟨h,_⟩|⟨h,_⟩<;>exact absurd h (by decide+kernel)
theorem xc(h:(k,tn)∈d8 xs ys):∃r,PyProof.Rows.KTD.datumAt k ie=some r/\(r,tn)∈iZ xs ys:=by
 simp only[Yw,Wh,or_false] at h;rcases h with⟨rfl,rfl⟩|⟨rfl,rfl⟩|⟨rfl,rfl⟩|⟨rfl,rfl⟩;·exact⟨"m",by decide+kernel,by simp⟩
 ·exact⟨"f",by decide+kernel,by simp⟩
 ·exact⟨"w",by decide+kernel,by simp⟩
 ·exact⟨"s",by decide+kernel,by simp⟩
theorem kZ.pD(g:kZ xs ys m c)(h:c.k≠bb):(c.k,c.tn)∈d8 xs ys:=g.kind.resolve_left h
theorem Fj(gd:cO xs ys)(h:(k,tn)∈d8 xs ys):full tn=true/\tn.length=xs.length:=by
 obtain⟨r,_,h2⟩:=xc h;exact ow gd h2
theorem zb(nd:(ps.map (·.1)).Nodup)(hi:i<ps.length):aA (KI ps) (.inr (aw ps i))=some (.int (i:Int)):=by
 have aux:∀(ps:aZ) (k i:Nat),(ps.map (·.1)).Nodup->i<ps.length->aA ((ps.zipIdx k).map λp=>((.inr p.1.1:Key),V.int (p.2:Int))) (.inr (aw ps i))=some (.int ((k+i:Nat):Int)):=by
  intro ps;induction ps with
  |nil=>intro k i _ h;cases h
  |cons p ps ih=>
   intro k i nd hi;obtain⟨n1,n2⟩:=Wn.mp (show(p.1::ps.map (·.1)).Nodup from nd);rw[List.zipIdx_cons,Wk];cases i with
   |zero=>exact du rfl
   |succ i=>
    have v_:i<ps.length:=by simpa using hi
    have e:aw (p::ps) (i+1)=aw ps i:=rfl;have m:aw ps i∈ps.map (·.1):=by
     unfold aw;rw[Yt,Yf v_];exact Y6.mpr ⟨_,W0 v_,rfl⟩
    rw[e,dv (λz=>n1 (by rw[Y3 z];exact m)),ih (k+1) i n2 v_]
    congr 2
    omega
 have:=aux ps 0 i nd hi
 rwa [Nat.zero_add] at this
theorem iP(h:c.k=bb):jR ps c=.inl c.cq:=if_pos h
theorem iR(h:c.k≠bb):jR ps c=.inr (aw ps c.cq.toNat):=if_neg h
inductive zc(vs:List V)(H:Hp)(Q:VK)(E:XK):Prop
 |mk (k:Str) (aC:vs=[.str k]) (aI:Q (.bl (ic ie k)) H)
def wb(ps:aZ)(i:Nat):Str:=(ps.getD i ("","")).2
theorem Fl(nd:(ps.map (·.1)).Nodup)(hi:i<ps.length):aA (iA ps) (.inr (aw ps i))=some (.str (wb ps i)):=by
 have kn:((iA ps).map (·.1)).Nodup:=by
  grind
 refine F_ kn (Y6.mpr ⟨ps[i],W0 hi,?_⟩);unfold aw wb
 grind
theorem pT(x y:Str):decide (V.str x=V.str y)=decide (x=y):=by
 grind
def Bt(t:TT)(σ:St)(H:Hp)(b:Bool):Prop:=∀k:Bool->Hp->Prop,(∀H',ah H H'->k b H')->t σ H k
def Vt(t:TE)(σ:St)(H:Hp)(v:V):Prop:=∀k:VK,(∀H',ah H H'->k v H')->t σ H k
section
variable {t u:TT}{e1 e2:TE}{σ:St}{H:Hp}{a b:Bool}{x y:V}
theorem Bt.or(h1:Bt t σ H a)(h2:∀H',a=false->ah H H'->Bt u σ H' b):Bt (By t u) σ H (a||b):=λk hk=>h1 _ λH1 g1=>by
 cases a with
 |true=>grind
 |false=>exact bT (h2 H1 rfl g1 _ λH2 g2=>hk H2 (g1.trans g2))
theorem Vt.var(h:σ[i]?=some (some x)):Vt (c_ i) σ H x:=λ_ hk=>⟨x,h,hk H (ah.refl _)⟩
theorem Vt.c:Vt (tC x) σ H x:=λ_ hk=>hk H (ah.refl _)
theorem Vt.test(h:Vt e1 σ H (.bl b)):Bt (uy e1) σ H b:=λk hk=>h _ λH1 g1=>⟨b,rfl,hk H1 g1⟩
theorem Vt.eq(h1:Vt e1 σ H x)(h2:∀H',ah H H'->Vt e2 σ H' y)(sc:uP x y=true):Vt (fb BC e1 e2) σ H (.bl (decide (x=y))):=λk hk=>h1 _ λH1 g1=>h2 H1 g1 _ λH2 g2=>⟨sc,hk H2 (g1.trans g2)⟩
end
section
variable {K:ag}{mg:aG}{eR:Addr}
theorem EE:a7 ["kind"] ["kind"] (aL tL):=.bw
theorem EF(F:aP K "is_tie" "is_tie" tL f fd)(kr:mg "TIE_LETTERS"=some (.ref eR))(tb:jO K eR ie):aH P w K mg base aT 1 f fd ["kind"] zc:=by
 refine F.o EE λs H hr h=>?_;obtain⟨k,rfl,q⟩:=h;refine⟨_,(au (aN (yL (G7 (K:=K) rfl) (pv 0) (hE (v:=.ref eR) rfl kr rfl) (by with_unfolding_all rfl)))),?_⟩;exact⟨_,rfl,k,eR,ie,rfl,rfl,tb,q⟩
end
structure dC(H0 H:Hp)(ps:aZ)(d:Addr)(b:Nat)(aa:List (Key×V))(L:Nat->List (Nat×List Int)):Prop where
 dict:H d=some (.dK aa)
 len:aa.length<=b
 new:H0 d=none
 at_:∀x:Nat,x<ps.length->(aA aa (.inr (aw ps x))=none/\L x=[])\/∃(a:Addr) (es:List Addr),aA aa (.inr (aw ps x))=some (.ref a)/\H0 a=none/\H a=some (.lst (es.map V.ref))/\(L x).length<=b/\Paired (λe (p:Nat×List Int)=>∃u,H e=some (.tup [.str (aw ps p.1),.ref u])/\aV H u p.2) es (L x)
 inj:∀(x y:Nat) (a:Addr),x<ps.length->y<ps.length->aA aa (.inr (aw ps x))=some (.ref a)->aA aa (.inr (aw ps y))=some (.ref a)->x=y
theorem mC(nd:(ps.map (·.1)).Nodup)(hi:i<ps.length)(hj:j<ps.length)(e:aw ps i=aw ps j):i=j:=by
 have h1:=zb nd hi;rw[e,zb nd hj] at h1
 grind
theorem dC.same(g:ah H H')(h:dC H0 H ps d b aa L):dC H0 H' ps d b aa L:=by
 refine⟨g _ _ h.dict,h.len,h.new,λx hx=>?_,h.inj⟩;rcases h.at_ x hx with z|⟨a,es,h1,h2,h3,h4,h5⟩;·exact .inl z
 ·exact .inr ⟨a,es,h1,h2,g _ _ h3,h4,L2.Paired.bM h5 λ_ _ ⟨u,e1,e2⟩=>⟨u,g _ _ e1,g _ _ e2⟩⟩
theorem dC.app(h:dC H0 H ps d b aa L)(hx:x<ps.length)(hv:aA aa (.inr (aw ps x))=some (.ref a))(ha:H a=some (.lst ys))(he:H e=some (.tup [.str (aw ps y),.ref u]))(hu:aV H u t)(br:cB a H H')(wc:H' a=some (.lst (ys++[.ref e]))):dC H0 H' ps d (b+1) aa (jQ L x (y,t)):=by
 have nt:∀{c:Addr} {xs:List V},H c=some (.tup xs)->c≠a:=λ{c xs} hc=>cv hc ha (λz=>by cases z);refine⟨br _ _ h.dict (cv h.dict ha (λz=>by cases z)),by have:=h.len;omega,h.new,λz hz=>?_,h.inj⟩;have en:∀{es:List Addr} {qs:List (Nat×List Int)},Paired (λe (p:Nat×List Int)=>∃u,H e=some (.tup [.str (aw ps p.1),.ref u])/\aV H u p.2) es qs->Paired (λe (p:Nat×List Int)=>∃u,H' e=some (.tup [.str (aw ps p.1),.ref u])/\aV H' u p.2) es qs:=λ{es qs} hp=>L2.Paired.bM hp λ_ _ ⟨u,e1,e2⟩=>⟨u,br _ _ e1 (nt e1),br _ _ e2 (nt e2)⟩;by_cases ez:z=x
 ·subst ez;rcases h.at_ z hz with⟨z1,_⟩|⟨a1,es,h1,h2,h3,h4,h5⟩;·grind
  ·obtain rfl:a1=a:=V.ref.inj (Yb (h1.symm.trans hv));rw[h3] at ha;obtain rfl:es.map V.ref=ys:=by injection ha with ha;injection ha
   refine .inr ⟨a1,es++[e],h1,h2,by rw[wc,Yo];rfl,?_,?_⟩;·unfold jQ;rw[if_pos rfl,Yj];show(L z).length+1<=b+1;omega
   ·unfold jQ;rw[if_pos rfl];exact gY (F:=λe (p:Nat×List Int)=>∃u,H' e=some (.tup [.str (aw ps p.1),.ref u])/\aV H' u p.2) ⟨u,br _ _ he (nt he),br _ _ (show H u=some (.tup (t.map V.int)) from hu) (nt (show H u=some (.tup (t.map V.int)) from hu))⟩ (en h5)
 ·unfold jQ;rw[if_neg ez];rcases h.at_ z hz with z1|⟨a1,es,h1,h2,h3,h4,h5⟩;·exact .inl z1
  ·refine .inr ⟨a1,es,h1,h2,br _ _ h3 (λq=>ez (h.inj z x a hz hx (by rw[←q];exact h1) hv)),by omega,en h5⟩
theorem dC.wd(hb:dC H0 Hb ps d b aa L)(nd:(ps.map (·.1)).Nodup)(hx:x<ps.length)(g:ah Hb H)(np:Hb p=none)(iB:H0 p=none)(hv:aA aa (.inr (aw ps x))=none)(hp:H p=some (.lst []))(br:cB d H H')(lp:H' d=some (.dK (aa++[(.inr (aw ps x),.ref p)]))):dC H0 H' ps d (b+1) (aa++[(.inr (aw ps x),.ref p)]) L:=by
 have h:=hb.same g;have nt:∀{c:Addr} {xs:List V},H c=some (.tup xs)->c≠d:=λ{c xs} hc=>cv hc h.dict (λz=>by cases z);have nl:∀{c:Addr} {xs:List V},H c=some (.lst xs)->c≠d:=λ{c xs} hc=>cv hc h.dict (λz=>by cases z);refine⟨lp,by rw[Yj];have:=h.len;show aa.length+1<=b+1;omega,h.new,λz hz=>?_,λz1 z2 a l1 l2 e1 e2=>?_⟩
 ·rw[gZ hv];by_cases ez:z=x
  ·rw[if_pos (by rw[ez])];rcases h.at_ z hz with⟨_,z2⟩|⟨a1,es,h1,_⟩;·exact .inr ⟨p,[],rfl,iB,br _ _ hp (nl hp),by rw[z2];exact Y2 _,by rw[z2];exact .nil⟩
   ·rw[ez,hv] at h1;cases h1
  ·rw[if_neg (λq=>ez (mC nd hz hx (Y3 q)))];rcases h.at_ z hz with z1|⟨a1,es,h1,h2,h3,h4,h5⟩;·exact .inl z1
   ·exact .inr ⟨a1,es,h1,h2,br _ _ h3 (nl h3),by omega,L2.Paired.bM h5 λ_ _ ⟨u,e1,e2⟩=>⟨u,br _ _ e1 (nt e1),br _ _ e2 (nt e2)⟩⟩
 ·have old:∀{z:Nat},z<ps.length->aA aa (.inr (aw ps z))=some (.ref p)->False:=λ{z} hz e=>by
   rcases hb.at_ z hz with⟨z1,_⟩|⟨a1,es,h1,h2,h3,_⟩;·rw[z1] at e;cases e
   ·rw[e] at h1;obtain rfl:p=a1:=V.ref.inj (Yb h1);rw[np] at h3;cases h3
  rw[gZ hv] at e1 e2;by_cases q1:z1=x
  ·by_cases q2:z2=x;·rw[q1,q2]
   ·rw[if_pos (by rw[q1])] at e1;rw[if_neg (λq=>q2 (mC nd l2 hx (Y3 q))),←e1] at e2;exact absurd e2 (old l2)
  ·rw[if_neg (λq=>q1 (mC nd l1 hx (Y3 q)))] at e1;by_cases q2:z2=x
   ·rw[if_pos (by rw[q2])] at e2;rw[←e2] at e1;exact absurd e1 (old l1)
   ·rw[if_neg (λq=>q2 (mC nd l2 hx (Y3 q)))] at e2;exact h.inj _ _ a l1 l2 e1 e2
theorem xZ{K:ag}(h2:∀H Q,Q (.ref d) H->c_ 2 σ H Q)(nd:(ps.map (·.1)).Nodup)(qI:x<ps.length)(hi:∀H Q,Q (.str (aw ps x)) H->c_ i σ H Q)(hk:∀H Q,Q (.str (aw ps y)) H->c_ k σ H Q)(h:dC H0 H ps d b aa L)(g:ah H0 H)(lb:b<1000)
  (hx:∀(H1:Hp) (Q1:VK),ah H0 H1->(∀(u:Addr) (H2:Hp),ah H1 H2->aV H2 u t->Q1 (.ref u) H2)->tx σ H1 Q1)(q:∀(v:V) (u5:List (Key×V)) (H':Hp),ah H0 H'->dC H0 H' ps d (b+2) u5 (jQ L x (y,t))->Q v H'):j2 K "list" tJ (l_ (c_ 2) (c_ i) (uH dN)) (cR (pj (cR (c_ k) (cR tx dN))) dN) σ H Q:=by
 have sz:(10000:Nat)<=sizeLine:=by rw[sizeLine_eq];omega
 have ln:=h.len;unfold j2 l_;refine h2 _ _ ⟨d,rfl,.inl ⟨_,.inl h.dict⟩,hi _ _ ⟨by show 0<=sizeLine;exact Y2 _,λp H1 np g1 hp=>⟨aa,.inr (aw ps x),g1 _ _ h.dict,rfl,by omega,λv hv=>?_,λhv H2 b2 e2=>?_⟩⟩⟩
 ·rcases h.at_ x qI with⟨z1,_⟩|⟨a,es,h3,h4,h5,h6,h7⟩;·grind
  obtain rfl:v=.ref a:=Yb (hv.symm.trans h3);have pl:=cJ h7;refine⟨.inl ⟨rfl,_,ak.of (g1 _ _ h5)⟩,?_⟩;unfold cR pj;refine hk _ _ (hx _ _ (g.trans g1) λu H2 g2 hu=>⟨by show 2<=sizeLine;omega,λe H3 ne g3 he=>?_⟩);have fo:=(g1.trans g2).trans g3;refine⟨a,_,_,rfl,rfl,fo _ _ h5,by rw[Ya];omega,λH4 b4 e4=>?_⟩;have nn:=(h.same fo).app qI h3 (fo _ _ h5) he (g3 _ _ hu) b4 e4;exact q _ _ H4 (λc o e=>b4 _ _ (fo _ _ (g _ _ e)) (aY e h4)) ⟨nn.dict,by have:=nn.len;omega,nn.new,λz hz=>by
   rcases nn.at_ z hz with w|⟨a,es,w1,w2,w3,w4,w5⟩;·exact .inl w
   ·exact .inr ⟨a,es,w1,w2,w3,by omega,w5⟩,nn.inj⟩
 ·have iB:=g.free np;have fh:=b2 _ _ hp (cv hp (g1 _ _ h.dict) (λz=>by cases z));have gg:ah H0 H2:=λc o e=>b2 _ _ (g1 _ _ (g _ _ e)) (aY e h.new);refine⟨.inl ⟨rfl,_,ak.of fh⟩,?_⟩;unfold cR pj;refine hk _ _ (hx _ _ gg λu H3 g3 hu=>⟨by show 2<=sizeLine;omega,λe H4 ne g4 he=>?_⟩);have qJ:=g3.trans g4;refine⟨p,_,_,rfl,rfl,qJ _ _ fh,by show 0<sizeLine;omega,λH5 b5 e5=>?_⟩;have vx:aA (aa++[(Sum.inr (aw ps x),V.ref p)]) (.inr (aw ps x))=some (.ref p):=by rw[gZ hv,if_pos rfl]
  exact q _ _ H5 (λc o e=>b5 _ _ (qJ _ _ (gg _ _ e)) (aY e iB)) (((h.wd nd qI g1 np iB hv hp b2 e2).same qJ).app qI vx (qJ _ _ fh) he (g4 _ _ hu) b5 e5)
def KJ(H:Hp)(ps:aZ)(a:Addr)(c:Fc):Prop:=∃z:Int,H a=some (.tup [.int z,.str c.k,.str (aw ps c.one),kV (jR ps c)])
def FL(H:Hp)(ps:aZ)(fa:Addr)(F:List Fc):Prop:=∃as:List Addr,H fa=some (.lst (as.map V.ref))/\Paired (KJ H ps) as F
abbrev kT(m f w s:Addr):List (Key×V):=[(.inr "mother",.ref m),(.inr "father",.ref f),(.inr "wed",.ref w),(.inr "sibling",.ref s)]
def iC(H:Hp)(td:Addr)(xs ys:List Int):Prop:=∃m f w s:Addr,H td=some (.dK (kT m f w s))/\aV H m (inv xs)/\aV H f (inv (bO xs ys))/\aV H w ys/\aV H s (a8 xs.length)
theorem FL.same(g:ah H H')(h:FL H ps fa F):FL H' ps fa F:=by
 obtain⟨as,h1,h2⟩:=h;exact⟨as,g _ _ h1,L2.Paired.bM h2 λ_ _ ⟨z,e⟩=>⟨z,g _ _ e⟩⟩
theorem iC.same(g:ah H H')(h:iC H td xs ys):iC H' td xs ys:=by
 obtain⟨m,f,w,s,h1,h2,h3,h4,h5⟩:=h;exact⟨m,f,w,s,g _ _ h1,g _ _ h2,g _ _ h3,g _ _ h4,g _ _ h5⟩
theorem iC.get(h:iC H td xs ys)(m:(k,tn)∈d8 xs ys):∃aa u,H td=some (.dK aa)/\aA aa (.inr k)=some (.ref u)/\aV H u tn:=by
 obtain⟨a,b,c,d,h1,h2,h3,h4,h5⟩:=h;simp only[Yw,Wh,or_false] at m;rcases m with⟨rfl,rfl⟩|⟨rfl,rfl⟩|⟨rfl,rfl⟩|⟨rfl,rfl⟩;·exact⟨_,a,h1,rfl,h2⟩
 ·exact⟨_,b,h1,rfl,h3⟩
 ·exact⟨_,c,h1,rfl,h4⟩
 ·exact⟨_,d,h1,rfl,h5⟩
inductive z5(vs:List V)(H:Hp)(Q:VK)(E:XK):Prop
 |mk (fa td:Addr) (ps:aZ) (xs ys:List Int) (F:List Fc) (aC:vs=[.ref fa,.ref td]) (aI:FL H ps fa F) (ht:iC H td xs ys) (nd:(ps.map (·.1)).Nodup) (aW:∀c∈F,kZ xs ys ps.length c) (bt:xs.length<=8) (bV:F.length<=64) (dE:∀(d:Addr) (aa:List (Key×V)) (L:Nat->List (Nat×List Int)) (H':Hp),ah H H'->dC H H' ps d 300 aa L->(∀x y t,(y,t)∈L x↔dP F x y t)->Q (.ref d) H')
section
variable {K:ag}{mg:aG}
abbrev u6:List Str:=["_law_facts","_law_turns_here"]
theorem ky:a7 ["_law_facts","_law_turns_here","_law_found","_law_number_here","_law_kind","_law_one","_law_other"] u6 (aL sC):=.bw
theorem Ga(F:aP K "_law_nets" "_law_nets" sC f fd)(fR:HasFn P w K mg base 1 "_law_inverse" k8 pC)(bl:Bl mg):aH P w K mg base aT 2 f fd u6 z5:=by
 refine F.o ky λs H hr h=>?_;obtain⟨fa,td,ps,xs,ys,F,rfl,jn,ht,eL,KL,n8,qK,q⟩:=h;refine⟨_,(ao (aR 2 ky.nd kE) (ao (cK PassesOwn.never rfl (dy (K:=K) rfl (pv 0)) (d7 (K:=K) (n:=4) rfl rfl (ba (aS 3 ky.nd) (ba (aS 4 ky.nd) (ba (aS 5 ky.nd) (ba (aS 6 ky.nd) d5))))) (au (bj (bx dM (pv 4) bH) (ao (dz (jC (K:=K) rfl (fY plainAttrs_list PySem.F.slot_list_append PySem.F.type_list_append jw (oq (pv 2) (pv 5) (cE ai) ⟨rfl,rfl,rfl,rfl⟩) (ae (cQ (ae (pv 6) (ae (cM (bC hr) (pv 1) (pv 4) (λ_ _=>rfl)) ai))) ai)))) (au (dz (jC (K:=K) rfl (fY plainAttrs_list PySem.F.slot_list_append PySem.F.type_list_append jw (oq (pv 2) (pv 6) (cE ai) ⟨rfl,rfl,rfl,rfl⟩) (ae (cQ (ae (pv 5) (ae (aM fR hr (ae (cM (bC hr) (pv 1) (pv 4) (λ_ _=>rfl)) ai)) ai))) ai)))))) bD))) (au (aN (pv 2))))),?_⟩;refine aX ?_;refine λd H1 nd g1 hd=>?_;obtain⟨as,c7,bW⟩:=id jn;have al:=cJ bW;have sz:(10000:Nat)<=sizeLine:=by rw[sizeLine_eq];omega
 refine dk (λσ H6=>∃(aa:List (Key×V)) (L:Nat->List (Nat×List Int)) (o1 o2 o3 o4:Option V),ah H H6/\dC H H6 ps d 300 aa L/\(∀x y t,(y,t)∈L x↔dP F x y t)/\σ=[some (.ref fa),some (.ref td),some (.ref d),o1,o2,o3,o4]) (λfq cu=>?_) ?_
 ·refine⟨_,rfl,fa,rfl,⟨_,ak.of (g1 _ _ c7)⟩,dt (K:=K) (a:=fa) (xs:=as.map V.ref) (λj σ H6=>∃(aa:List (Key×V)) (L:Nat->List (Nat×List Int)) (o1 o2 o3 o4:Option V),ah H H6/\dC H H6 ps d (4*j) aa L/\(∀x y t,(y,t)∈L x↔dP (F.take j) x y t)/\σ=[some (.ref fa),some (.ref td),some (.ref d),o1,o2,o3,o4])
   ⟨[],λ_=>[],none,none,none,none,g1,⟨hd,Yd _,nd,λx _=>.inl ⟨rfl,rfl⟩,λ_ _ _ _ _ e=>(nomatch e)⟩,λx y t=>⟨λz=>(nomatch z),λz=>absurd z Fh⟩,rfl⟩
   (λj σ H6 _ ⟨_,_,_,_,_,_,g,_⟩=>ak.of (g _ _ c7)) ?_ ?_⟩
  ·rintro j v σ H6 hj ⟨aa,L,o1,o2,o3,o4,g,ne,ed,rfl⟩;rw[Ye] at hj;obtain⟨c0,ec,rfl⟩:∃c0,as[j]?=some c0/\V.ref c0=v:=by
    cases e:as[j]? with
    |none=>rw[e] at hj;cases hj
    |some c=>rw[e] at hj;exact⟨c,rfl,Yb hj⟩
   obtain⟨c,lF,z,hc⟩:=eT bW ec;have mc:=Yk lF;have fg:=KL c mc;have ok:=fg.ok;have jl:j<F.length:=(Yi.mp lF).1;have qL:F.take (j+1)=F.take j++[c]:=by rw[Yq,lF];rfl
   refine⟨c0,_,rfl,ay.of (g _ _ hc),rfl,_,_,rfl,aJ ⟨_,_,rfl,aJ ⟨_,_,rfl,aJ ⟨_,_,rfl,aJ ⟨rfl,?_⟩⟩⟩⟩⟩;have ev:∀b:Bool,decide (V.str c.k=V.str bb)=b->(b=true↔c.k=bb):=λb e=>by
    rw[←e,decide_eq_true_iff];exact⟨V.str.inj,λz=>by rw[z]⟩
   refine⟨_,rfl,rfl,_,rfl,?_⟩;refine bR (λcc=>?_) (λcc=>bJ ?_)
   ·have ns:c.k≠bb:=λz=>by
     rw[(ev _ rfl).mpr z] at cc;cases cc
    obtain⟨tk,u,lG,vu,hu⟩:=ht.get (fg.pD ns);obtain⟨⟨o0,om⟩,ft,tl⟩:=ok.fN ns;have eo:kV (jR ps c)=.str (aw ps c.cq.toNat):=by rw[iR ns];rfl
    refine xZ (ps:=ps) (x:=c.one) (y:=c.cq.toNat) (t:=c.tn) (λ_ _ h=>⟨_,rfl,h⟩) eL ok.one (λ_ _ h=>⟨_,rfl,h⟩) (λ_ _ h=>⟨_,rfl,by rw[eo];exact h⟩) ne g (by omega) (λH2 Q2 g2 k2=>⟨_,rfl,_,rfl,td,.ref u,rfl,b_ (g2 _ _ lG) vu,k2 u H2 (ah.refl _) (g2 _ _ hu)⟩) λv2 MW H2 g2 n2=>?_;refine xZ (ps:=ps) (x:=c.cq.toNat) (y:=c.one) (t:=inv c.tn) (λ_ _ h=>⟨_,rfl,h⟩) eL om (λ_ _ h=>⟨_,rfl,by rw[eo];exact h⟩) (λ_ _ h=>⟨_,rfl,h⟩) n2 g2 (by omega) (λH3 Q3 g3 k3=>⟨_,rfl,_,rfl,td,.ref u,rfl,b_ (g3 _ _ lG) vu,u,c.tn,rfl,g3 _ _ hu,by omega,ft,λw H4 _ g4 hw=>k3 w H4 g4 hw⟩) λv3 nc H3 g3 n3=>?_;refine⟨nc,_,_,_,_,_,g3,n3,λx y t=>?_,rfl⟩;rw[qL,yy,yx,yx,ed]
    grind
   ·have sd:c.k=bb:=by
     by_cases z:c.k=bb;·exact z
     ·cases e:decide (V.str c.k=V.str bb) with
      |true=>exact absurd ((ev _ e).mp rfl) z
      |false=>rw[e] at cc;exact absurd rfl cc
    refine⟨aa,L,_,_,_,_,g,⟨ne.dict,by have:=ne.len;omega,ne.new,λz hz=>?_,ne.inj⟩,λx y t=>?_,rfl⟩
    ·rcases ne.at_ z hz with w|⟨a,es,w1,w2,w3,w4,w5⟩;·exact .inl w
     ·exact .inr ⟨a,es,w1,w2,w3,by omega,w5⟩
    ·rw[qL,yy,ed];exact⟨.inl,λh=>h.elim id λz=>absurd sd z.1⟩
  ·rintro σ H6 ⟨aa,L,o1,o2,o3,o4,g,ne,ed,rfl⟩;rw[Ya,al] at ne;rw[Ya,al,Y1] at ed;refine cu _ _ ⟨aa,L,o1,o2,o3,o4,g,⟨ne.dict,by have:=ne.len;omega,ne.new,λz hz=>?_,ne.inj⟩,ed,rfl⟩;rcases ne.at_ z hz with w|⟨a,es,w1,w2,w3,w4,w5⟩;·exact .inl w
   ·exact .inr ⟨a,es,w1,w2,w3,by omega,w5⟩
 rintro σ H6 ⟨aa,L,o1,o2,o3,o4,g,ne,ed,rfl⟩;exact⟨_,rfl,q d aa L H6 g ne ed⟩
end
theorem z6{t:List Int}{z:Int}(h0:0<=z)(h:z<t.length):c6 (t.map V.int) z=some (.int (ap t z)):=mM h0 h
def gN(ps:aZ)(g:List (Nat×Int)):List (Key×V):=g.map λp=>(.inr (aw ps p.1),.int p.2)
def iD(ps:aZ)(g:List (Nat×Int)):List V:=g.map λp=>.str (aw ps p.1)
theorem Hh(ps:aZ)(g:List (Nat×Int)):(gN ps g).length=g.length:=Ya _
theorem ze(ps:aZ)(g:List (Nat×Int)):(iD ps g).length=g.length:=Ya _
theorem i0(nd:(ps.map (·.1)).Nodup)(hk:k<ps.length):∀{g:List (Nat×Int)},(∀p∈g,p.1<ps.length)->aA (gN ps g) (.inr (aw ps k))=(g.lookup k).map V.int
 |[],_=>rfl
 |p::g,lt=>by
  have e0:gN ps (p::g)=(Sum.inr (aw ps p.1),V.int p.2)::gN ps g:=rfl;rw[e0,Ws];by_cases e:k=p.1
  ·rw[beq_iff_eq.mpr e,du (p:=((Sum.inr (aw ps p.1):Key),V.int p.2)) (by rw[e])];rfl
  ·rw[beq_eq_false_iff_ne.mpr e,dv (p:=((Sum.inr (aw ps p.1):Key),V.int p.2)) (λz=>e (mC nd hk (lt p Yv) (Y3 (show(Sum.inr (aw ps p.1):Key)=Sum.inr (aw ps k) from z)).symm))];exact i0 nd hk λq hq=>lt q (Yx _ hq)
theorem Gb{ps:aZ}{g:List (Nat×Int)}{r k:Nat}{v:Int}(h:g[r]?=some (k,v)):c6 (iD ps g) (r:Int)=some (.str (aw ps k)):=jB (by unfold iD;rw[Ye,h];rfl)
def lH(ps:aZ)(d fa fn a9:Addr)(x:Nat)(a:Int)(r:Nat)(o7 o8 o9 bo bq bc bL:Option V):St:=[some (.ref d),some (.ref fa),some (.str (aw ps x)),some (.int a),some (.ref fn),some (.ref a9),some (.int (r:Int)),o7,o8,o9,bo,bq,bc,bL]
def KN(m:Nat):St->Hp->Nat:=λσ _=>match List.getD (α:=Option V) σ 6 none with|some (V.int z)=>m+1-z.toNat|_=>0
inductive AH(H:Hp)(F:List Fc)(L:Nat->List (Nat×List Int))(n:Nat)(ps:aZ)(d fa fn a9:Addr)(x:Nat)(a:Int)(σ:St)(H6:Hp):Prop
 |mk (g:List (Nat×Int)) (r:Nat) (o7 o8 o9:Option V) (aC:ah H H6) (aI:H6 fn=some (.dK (gN ps g))) (aW:H6 a9=some (.lst (iD ps g))) (bt:BF F n ps.length x a g) (bV:r<=g.length) (dE:(∀r',r'<r->Cl L g r')) (gJ:σ=lH ps d fa fn a9 x a r o7 o8 o9 none none none none):AH H F L n ps d fa fn a9 x a σ H6
def Jw(H:Hp)(F:List Fc)(L:Nat->List (Nat×List Int))(n:Nat)(ps:aZ)(d fa fn a9:Addr)(x:Nat)(a:Int)(σ:St)(H6:Hp):Prop:=AH H F L n ps d fa fn a9 x a σ H6
inductive AI(H:Hp)(F:List Fc)(L:Nat->List (Nat×List Int))(n:Nat)(ps:aZ)(d fa fn a9:Addr)(x:Nat)(a:Int)(σ:St)(H6:Hp):Prop
 |mk (g:List (Nat×Int)) (r:Nat) (o7 o8 o9:Option V) (aC:ah H H6) (aI:H6 fn=some (.dK (gN ps g))) (aW:BF F n ps.length x a g) (bt:(∀r',r'<g.length->Cl L g r')) (bV:σ=lH ps d fa fn a9 x a r o7 o8 o9 none none none none):AI H F L n ps d fa fn a9 x a σ H6
def Jx(H:Hp)(F:List Fc)(L:Nat->List (Nat×List Int))(n:Nat)(ps:aZ)(d fa fn a9:Addr)(x:Nat)(a:Int)(σ:St)(H6:Hp):Prop:=AI H F L n ps d fa fn a9 x a σ H6
inductive Bf(H:Hp)(F:List Fc)(L:Nat->List (Nat×List Int))(n:Nat)(ps:aZ)(d fa fn a9:Addr)(x:Nat)(a:Int)(r k:Nat)(v:Int)(g:List (Nat×Int))(al:Addr)(es:List Addr)(j:Nat)(σ:St)(H8:Hp):Prop
 |mk (g' tl:List (Nat×Int)) (o8 o9:Option V) (aC:ah H H8) (aI:H8 al=some (.lst (es.map V.ref))) (aW:H8 fn=some (.dK (gN ps g'))) (bt:H8 a9=some (.lst (iD ps g'))) (bV:BF F n ps.length x a g') (dE:g'=g++tl) (gJ:(∀q∈(L k).take j,g'.lookup q.1=some (ap q.2 v))) (jm:σ=lH ps d fa fn a9 x a r (some (.str (aw ps k))) o8 o9 none none none none):Bf H F L n ps d fa fn a9 x a r k v g al es j σ H8
def KO(H:Hp)(F:List Fc)(L:Nat->List (Nat×List Int))(n:Nat)(ps:aZ)(d fa fn a9:Addr)(x:Nat)(a:Int)(r k:Nat)(v:Int)(g:List (Nat×Int))(al:Addr)(es:List Addr)(j:Nat)(σ:St)(H8:Hp):Prop:=Bf H F L n ps d fa fn a9 x a r k v g al es j σ H8
inductive AJ(H:Hp)(F:List Fc)(L:Nat->List (Nat×List Int))(n:Nat)(ps:aZ)(d fa fn a9:Addr)(x:Nat)(a:Int)(r k:Nat)(v:Int)(g:List (Nat×Int))(σ:St)(H8:Hp):Prop
 |mk (g' tl:List (Nat×Int)) (o8 o9:Option V) (aC:ah H H8) (aI:H8 fn=some (.dK (gN ps g'))) (aW:H8 a9=some (.lst (iD ps g'))) (bt:BF F n ps.length x a g') (bV:g'=g++tl) (dE:(∀q∈L k,g'.lookup q.1=some (ap q.2 v))) (gJ:σ=lH ps d fa fn a9 x a r (some (.str (aw ps k))) o8 o9 none none none none):AJ H F L n ps d fa fn a9 x a r k v g σ H8
def Jy(H:Hp)(F:List Fc)(L:Nat->List (Nat×List Int))(n:Nat)(ps:aZ)(d fa fn a9:Addr)(x:Nat)(a:Int)(r k:Nat)(v:Int)(g:List (Nat×Int))(σ:St)(H8:Hp):Prop:=AJ H F L n ps d fa fn a9 x a r k v g σ H8
inductive AK(H:Hp)(F:List Fc)(n:Nat)(ps:aZ)(d fa fn a9:Addr)(x:Nat)(a:Int)(r k y:Nat)(u:Addr)(g':List (Nat×Int))(al:Addr)(es:List Addr)(σ:St)(H9:Hp):Prop
 |mk (jo wg:List (Nat×Int)) (v':Int) (aC:ah H H9) (aI:H9 al=some (.lst (es.map V.ref))) (aW:H9 fn=some (.dK (gN ps jo))) (bt:H9 a9=some (.lst (iD ps jo))) (bV:BF F n ps.length x a jo) (dE:jo=g'++wg) (gJ:jo.lookup y=some v') (jm:σ=lH ps d fa fn a9 x a r (some (.str (aw ps k))) (some (.str (aw ps y))) (some (.ref u)) none none none none):AK H F n ps d fa fn a9 x a r k y u g' al es σ H9
def Jz(H:Hp)(F:List Fc)(n:Nat)(ps:aZ)(d fa fn a9:Addr)(x:Nat)(a:Int)(r k y:Nat)(u:Addr)(g':List (Nat×Int))(al:Addr)(es:List Addr)(σ:St)(H9:Hp):Prop:=AK H F n ps d fa fn a9 x a r k y u g' al es σ H9
def AL(ps:aZ)(F:List Fc)(H6:Hp)(d fa fn a9:Addr)(x:Nat)(a:Int)(r:Nat)(g:List (Nat×Int))(o7 o8 o9:Option V)(σ:St)(H8:Hp):Prop:=H8=H6/\(∀c∈F,c.k=bb->∀u,g.lookup c.one=some u->u=c.cq)/\∃bo bq bc bL:Option V,σ=lH ps d fa fn a9 x a r o7 o8 o9 bo bq bc bL
inductive x3(vs:List V)(H:Hp)(Q:VK)(E:XK):Prop
 |mk (H0:Hp) (d fa:Addr) (aa:List (Key×V)) (L:Nat->List (Nat×List Int)) (n:Nat) (ps:aZ) (F:List Fc) (x:Nat) (a:Int) (aC:vs=[.ref d,.ref fa,.str (aw ps x),.int a]) (nd:(ps.map (·.1)).Nodup) (aI:dC H0 H ps d 300 aa L) (aW:(∀x y t,(y,t)∈L x↔dP F x y t)) (bt:FL H ps fa F) (bV:(∀c∈F,nQ n ps.length c)) (dE:n<=8) (gJ:ps.length<=100) (jm:F.length<=64) (qC:x<ps.length) (Ku:(0<=a/\a<(n:Int))) (Jv:((¬∃g,fE n F g/\g x=some a)->∀H',ah H H'->Q .aD H')) (MX:∀(p:Addr) (g:List (Nat×Int)) (H':Hp),ah H H'->H' p=some (.dK (gN ps g))->BF F n ps.length x a g->fE n F (λk=>g.lookup k)->Q (.ref p) H')
section
variable {K:ag}{mg:aG}
abbrev u7:List Str:=["_law_nets_here","_law_facts","_law_name_here","_law_section"]
theorem eQ:a7 ["_law_nets_here","_law_facts","_law_name_here","_law_section","_law_found","_law_row_here","_law_at","_law_here","_law_that","_law_turn_here","_law_number_here","_law_kind","_law_one","_law_said"] u7 (aL rK):=.bw
theorem Ea(F:aP K "_law_carried" "_law_carried" rK f fd)(bl:Bl mg):aH P w K mg base aT 1 f fd u7 x3:=by
 refine F.o eQ λs H hr h=>?_;obtain⟨H0,d,fa,aa,L,n,ps,F,x,a,rfl,eL,pU,ed,jn,lI,n8,Bg,qK,hx,JA,q1,q2⟩:=h;refine⟨_,(ao (aR 4 eQ.nd (mw (dI (pv 2) (pv 3) mv) rfl rfl (λz=>nomatch z) (Wm rfl))) (ao (aR 5 eQ.nd (cE (ae (pv 2) ai))) (ao (aR 6 eQ.nd aq) (ao (yb PassesOwn.never (bx pd (pv 6) (bY K bl (pv 5))) (ao (aR 7 eQ.nd (aK (iL K) (pv 5) (pv 6))) (ao (cK PassesOwn.never rfl (dy (K:=K) rfl (tI (bC hr) (pv 0) (pv 7) (cE ai) ⟨rfl,rfl,rfl,rfl⟩)) (d7 (K:=K) (n:=2) rfl rfl (ba (aS 8 eQ.nd) (ba (aS 9 eQ.nd) d5))) (ao (bj (mD (oC (bC hr) (pv 8) (pv 4)) (by with_unfolding_all rfl)) (ao (kH (bC hr) (pv 4) (pv 8) (aK (iT K) (pv 9) (cM (bC hr) (pv 4) (pv 7) (λ_ _=>rfl)))) (au (dz (jC (K:=K) rfl (fY plainAttrs_list PySem.F.slot_list_append PySem.F.type_list_append jw (pv 5) (ae (pv 8) ai)))))) bD) (au (bj (bx dM (cM (bC hr) (pv 4) (pv 8) (λ_ _=>rfl)) (aK (iT K) (pv 9) (cM (bC hr) (pv 4) (pv 7) (λ_ _=>rfl)))) (au (aN hU)) bD)))) (au (GC (i:=6) eQ.nd rfl (Or.inl rfl) aq GD))))) (ao (cK PassesOwn.never rfl (dy (K:=K) rfl (pv 1)) (d7 (K:=K) (n:=4) rfl rfl (ba (aS 10 eQ.nd) (ba (aS 11 eQ.nd) (ba (aS 12 eQ.nd) (ba (aS 13 eQ.nd) d5))))) (au (bj (PW.pt (pw_and (bx dJ (pv 11) bH) (pw_and (mD (zP (bC hr) (pv 12) (pv 4)) (by with_unfolding_all rfl)) (pw_and1 (bx dM (cM (bC hr) (pv 4) (pv 12) (λ_ _=>rfl)) (pv 13)))))) (au (aN hU)) bD))) (au (aN (pv 4)))))))),?_⟩;refine aX ?_;refine λfn qM=>⟨_,rfl,_,rfl,aF,[(.inr (aw ps x),.int a)],rfl,(by show 1<=15;omega),?_⟩;obtain⟨H1,wm⟩:∃H1,H1=upd (upd H fn (.dK [])) fn (.dK (fW [] [(.inr (aw ps x),.int a)])):=⟨_,rfl⟩;have g1:ah H H1:=λb o e=>by rw[wm,aU (aY e qM),aU (aY e qM)];exact e
 have h1:H1 fn=some (.dK (gN ps [(x,a)])):=by rw[wm,aF];rfl
 rw[←wm];refine aX ?_;refine⟨_,rfl,by show 1<=sizeLine;rw[sizeLine_eq];omega,λa9 H2 wo g2 KP=>?_⟩;refine setC ?_;have Bh:=g1.free wo;have fr_ne:fn≠a9:=λz=>by rw[←z,h1] at wo;cases wo
 have sz:(10000:Nat)<=sizeLine:=by rw[sizeLine_eq];omega
 have KQ:=pU.dict;obtain⟨as,c7,bW⟩:=id jn;have al:=cJ bW;refine dk (Jx H F L n ps d fa fn a9 x a) (λfq cu=>?_) ?_
 ·refine EO (Jw H F L n ps d fa fn a9 x a) (KN ps.length)
   ⟨[(x,a)],0,none,none,none,g1.trans g2,g2 _ _ h1,KP,KH hx JA,Y2 _,λ_ z=>absurd z (Nat.not_lt_zero _),rfl⟩ ?_ ?_
  ·rintro σ H6 ⟨g,r,o7,o8,o9,g6,j9,qN,bf,rl,cl,rfl⟩;have kl:=ze ps g;have gl:=bf.len;refine⟨_,rfl,_,rfl,a9,_,rfl,.inl (ak.of qN),_,_,rfl,rfl,_,rfl,?_⟩;rw[kl];refine bR (λc=>?_) (λc=>?_)
   ·have B6:r<g.length:=by have:=of_decide_eq_true c;omega
    obtain⟨k,v,wq⟩:∃(k:Nat) (v:Int),g[r]?=some (k,v):=⟨g[r].1,g[r].2,Yf B6⟩;have B7:(k,v)∈g:=Yk wq;have KR:g.lookup k=some v:=mem_lookup bf.nd B7;obtain⟨km,v0,vn⟩:=bf.lt _ B7;have qO:=g6 _ _ KQ;refine aX ?_;refine⟨_,rfl,_,rfl,a9,_,_,_,rfl,rfl,ak.of qN,Gb wq,?_⟩;refine dk (Jy H F L n ps d fa fn a9 x a r k v g) (λwu fO=>?_) ?_
    ·refine⟨_,rfl,d,rfl,.inl ⟨_,.inl qO⟩,_,rfl,by show 0<=sizeLine;exact Y2 _,λe0 H7 jq g7 nR=>?_⟩;have KS:=g7 _ _ j9;have KU:=g7 _ _ qN;have KW:e0≠fn:=λz=>by rw[z,j9] at jq;cases jq
     have KY:e0≠a9:=λz=>by rw[z,qN] at jq;cases jq
     obtain⟨al,es,KZ,B8,JB,JC,qP⟩:∃(al:Addr) (es:List Addr),(aA aa (.inr (aw ps k))).getD (.ref e0)=.ref al/\H7 al=some (.lst (es.map V.ref))/\al≠fn/\al≠a9/\Paired (λe (p:Nat×List Int)=>∃u,H e=some (.tup [.str (aw ps p.1),.ref u])/\aV H u p.2) es (L k):=by
      rcases pU.at_ k km with⟨z1,z2⟩|⟨a1,es,w1,w2,w3,w4,w5⟩;·exact⟨e0,[],by rw[z1];rfl,nR,KW,KY,by rw[z2];exact .nil⟩
      ·exact⟨a1,es,by rw[w1];rfl,g7 _ _ (g6 _ _ w3),aY w3 qM,aY w3 Bh,w5⟩
     have K0:=cJ qP;refine⟨_,b_ (g7 _ _ qO) rfl,al,KZ,⟨_,ak.of B8⟩,dt (K:=K) (a:=al) (xs:=es.map V.ref) (KO H F L n ps d fa fn a9 x a r k v g al es)
      ⟨g,[],o8,o9,g6.trans g7,B8,KS,KU,bf,by rw[Yy],λq hq=>(nomatch hq),rfl⟩ (λj σ H8 _ ⟨_,_,_,_,_,h,_,_,_,_,_,_⟩=>ak.of h) ?_ ?_⟩
     ·rintro j w σ H8 hj ⟨g',tl,p8,p9,g8,u9,jr,lJ,gR,eg,lK,rfl⟩;rw[Ye] at hj;obtain⟨e,ee,rfl⟩:∃e,es[j]?=some e/\V.ref e=w:=by
       cases z:es[j]? with
       |none=>rw[z] at hj;cases hj
       |some c=>rw[z] at hj;exact⟨c,rfl,Yb hj⟩
      obtain⟨⟨y,t⟩,B9,u,he,hu⟩:=eT qP ee;have u_:dP F k y t:=(ed _ _ _).mp (Yk B9);obtain⟨_,ym,ft,K1⟩:=za lI u_;have wx:g'.lookup k=some v:=by rw[eg];exact oh KR
      have vb:v<(t.length:Int):=by rw[K1];exact vn
      have Nq:=gR.len;have K2:H8 e=some (.tup [.str (aw ps y),.ref u]):=g8 _ _ he;have K3:(L k).take (j+1)=(L k).take j++[(y,t)]:=by rw[Yq,B9];rfl
      refine⟨e,_,rfl,ay.of K2,rfl,_,_,rfl,aJ ⟨_,_,rfl,aJ ⟨rfl,?_⟩⟩⟩;refine mK (Jz H F n ps d fa fn a9 x a r k y u g' al es) (λB_ eA=>?_) ?_
      ·refine⟨_,rfl,_,rfl,fn,_,rfl,b_ jr (i0 eL ym λp hp=>(gR.lt p hp).1),_,rfl,?_⟩;cases ly:g'.lookup y with
       |none=>
        refine cg ?_;refine⟨_,rfl,_,rfl,_,rfl,fn,.int v,rfl,b_ jr (by rw[i0 eL km λp hp=>(gR.lt p hp).1,wx];rfl),u,_,_,_,rfl,rfl,ay.of (g8 _ _ hu),z6 v0 vb,_,rfl,_,rfl,fn,_,.inr (aw ps y),rfl,jr,rfl,by rw[Hh];omega,λH9 b9 e9=>?_⟩;have K4:aA (gN ps g') (.inr (aw ps y))=none:=by rw[i0 eL ym λp hp=>(gR.lt p hp).1,ly];rfl
        rw[oI _ K4] at e9;have qQ:=b9 _ _ lJ (λz=>fr_ne z.symm);refine⟨_,rfl,.inl ⟨rfl,_,ak.of qQ⟩,_,rfl,a9,_,_,rfl,rfl,qQ,by rw[ze];omega,λBO wy K5=>?_⟩;refine eA _ _ ⟨g'++[(y,ap t v)],[(y,ap t v)],ap t v,λc o z=>wy _ _ (b9 _ _ (g8 _ _ z) (aY z qM)) (aY z Bh),wy _ _ (b9 _ _ u9 JB) JC,?_,?_,gR.add lI u_ wx ly,rfl,D_ ly,rfl⟩;·rw[wy _ _ e9 fr_ne,gN,gN,Yo];rfl
        ·rw[K5,iD,iD,Yo];rfl
       |some v'=>
        refine bT (bJ ?_);exact eA _ _ ⟨g',[],v',g8,u9,jr,lJ,gR,by rw[Yy],ly,rfl⟩
      ·rintro σ H9 ⟨jo,wg,v',g9,JD,wz,qQ,qR,wA,lv,rfl⟩;have Ca:jo.lookup k=some v:=by rw[wA];exact oh wx
       refine⟨_,rfl,_,rfl,fn,.int v',rfl,b_ wz (by rw[i0 eL ym λp hp=>(qR.lt p hp).1,lv];rfl),_,rfl,_,rfl,_,rfl,fn,.int v,rfl,b_ wz (by rw[i0 eL km λp hp=>(qR.lt p hp).1,Ca];rfl),u,_,_,_,rfl,rfl,ay.of (g9 _ _ hu),z6 v0 vb,rfl,_,rfl,?_⟩;refine bR (λc=>?_) (λc=>bJ ?_)
       ·refine q1 (qR.Ip u_ Ca lv λz=>?_) H9 g9;rw[z] at c;simp at c
       ·have ev:v'=ap t v:=by
         by_cases z:v'=ap t v;·exact z
         ·exact absurd (by simp[z]) c
        refine⟨jo,tl++wg,_,_,g9,JD,wz,qQ,qR,by rw[wA,eg,Wy],λq hq=>?_,rfl⟩;rw[K3] at hq;rcases Yu.mp hq with hq|hq;·rw[wA];exact oh (lK q hq)
        ·rw[Yh] at hq;rw[hq,lv,ev]
     ·rintro σ H8 ⟨g',tl,p8,p9,g8,u9,jr,lJ,gR,eg,lK,rfl⟩;rw[Ya,K0,Y1] at lK;exact fO _ _ ⟨g',tl,p8,p9,g8,jr,lJ,gR,eg,lK,rfl⟩
    ·rintro σ H8 ⟨g',tl,p8,p9,g8,jr,lJ,gR,eg,lK,rfl⟩;have rr:r<(g++tl).length:=by rw[Yj];omega
     have ge:(g++tl)[r]?=some (k,v):=by rw[Wb B6];exact wq
     have Nr:((r:Int)+1)=((r+1:Nat):Int):=by omega
     refine⟨_,rfl,_,_,rfl,rfl,?_⟩;refine⟨⟨g',r+1,some (.str (aw ps k)),p8,p9,g8,jr,lJ,gR,by rw[eg];exact rr,λr' h'=>?_,rfl⟩,?_⟩
     ·rw[eg];by_cases z:r'=r
      ·subst z;intro p hp qq hq;rw[ge] at hp;cases hp;rw[←eg];exact lK qq hq
      ·exact(cl r' (by omega)).app (by omega)
     ·show ps.length+1-(r+1)<ps.length+1-r;omega
   ·have re:¬((r:Int)<(g.length:Int)):=λz=>c (decide_eq_true z);exact cu _ _ ⟨g,r,o7,o8,o9,g6,j9,bf,λr' h'=>cl r' (by omega),rfl⟩
  ·rintro σ H6 Q1 Q2 mo ⟨v1,w1,v2,w2,v3,v4,w3,w4,v5,v6,w5,w6,v7,w7,h⟩;exact⟨v1,w1,v2,w2,v3,v4,w3,w4,v5,v6,w5,w6,v7,w7,mo _ _ h⟩
 rintro σ H6 ⟨g,r,o7,o8,o9,g6,j9,bf,cl,rfl⟩;refine dk (AL ps F H6 d fa fn a9 x a r g o7 o8 o9) (λfq cu=>?_) ?_
 ·refine⟨_,rfl,fa,rfl,⟨_,ak.of (g6 _ _ c7)⟩,dt (K:=K) (a:=fa) (xs:=as.map V.ref) (λj=>AL ps (F.take j) H6 d fa fn a9 x a r g o7 o8 o9)
   ⟨rfl,λc hc=>(nomatch hc),none,none,none,none,rfl⟩ (λj σ H8 _ ⟨e,_⟩=>by rw[e];exact ak.of (g6 _ _ c7)) ?_ ?_⟩
  ·rintro j v σ H8 hj ⟨rfl,sd,bo,bq,bc,bL,rfl⟩;rw[Ye] at hj;obtain⟨c0,ec,rfl⟩:∃c0,as[j]?=some c0/\V.ref c0=v:=by
    cases e:as[j]? with
    |none=>rw[e] at hj;cases hj
    |some c=>rw[e] at hj;exact⟨c,rfl,Yb hj⟩
   obtain⟨c,lF,z,hc⟩:=eT bW ec;have mc:=Yk lF;have qL:F.take (j+1)=F.take j++[c]:=by rw[Yq,lF];rfl
   refine⟨c0,_,rfl,ay.of (g6 _ _ hc),rfl,_,_,rfl,aJ ⟨_,_,rfl,aJ ⟨_,_,rfl,aJ ⟨_,_,rfl,aJ ⟨rfl,?_⟩⟩⟩⟩⟩;have ev:∀b:Bool,decide (V.str c.k=V.str bb)=b->(b=true↔c.k=bb):=λb e=>by
    rw[←e,decide_eq_true_iff];exact⟨V.str.inj,λz=>by rw[z]⟩
   have wB:(c.k=bb->∀u,g.lookup c.one=some u->u=c.cq)->∃bo bq bc bL:Option V,(H8=H8/\∀c∈F.take (j+1),c.k=bb->∀u,g.lookup c.one=some u->u=c.cq)/\True:=λh=>⟨none,none,none,none,⟨rfl,λc' m'=>by
    rw[qL] at m';rcases Yu.mp m' with m'|m';·exact sd c' m'
    ·rw[Yh] at m';rw[m'];exact h⟩,trivial⟩
   refine⟨_,rfl,rfl,_,rfl,bR (λcc=>?_) (λcc=>?_)⟩
   ·have sk:=(ev _ rfl).mp cc;have eo:kV (jR ps c)=.int c.cq:=by rw[iP sk];rfl
    refine⟨_,rfl,_,rfl,fn,_,rfl,b_ j9 (i0 eL (lI c mc).one λp hp=>(bf.lt p hp).1),_,rfl,?_⟩;cases lk:g.lookup c.one with
    |none=>
     refine bT (bT (bJ ?_));obtain⟨_,_,_,_,⟨_,h⟩,_⟩:=wB λ_ u e=>by rw[lk] at e;cases e
     exact⟨rfl,h,_,_,_,_,rfl⟩
    |some u=>
     refine cg ?_;refine⟨_,rfl,_,rfl,fn,.int u,rfl,b_ j9 (by rw[i0 eL (lI c mc).one λp hp=>(bf.lt p hp).1,lk];rfl),_,rfl,by rw[eo];rfl,_,rfl,bR (λc2=>?_) (λc2=>bJ ?_)⟩
     ·refine q1 (bf.Hg mc sk lk λz=>?_) H8 g6;rw[z,eo] at c2;simp at c2
     ·have eu:u=c.cq:=by
       by_cases z:u=c.cq;·exact z
       ·exact absurd (by rw[eo];simp[z]) c2
      obtain⟨_,_,_,_,⟨_,h⟩,_⟩:=wB λ_ u' e=>by rw[lk] at e;rw[←Yb e];exact eu
      exact⟨rfl,h,_,_,_,_,rfl⟩
   ·refine bT (bJ ?_);obtain⟨_,_,_,_,⟨_,h⟩,_⟩:=wB λz=>absurd ((ev _ rfl).mpr z) cc;exact⟨rfl,h,_,_,_,_,rfl⟩
  ·rintro σ H8 ⟨rfl,sd,bo,bq,bc,bL,rfl⟩;rw[Ya,al,Y1] at sd;exact cu _ _ ⟨rfl,sd,bo,bq,bc,bL,rfl⟩
 rintro σ H8 ⟨rfl,sd,bo,bq,bc,bL,rfl⟩;exact⟨_,rfl,q2 fn g H8 g6 j9 bf (bf.done ed cl sd)⟩
end
inductive z7(vs:List V)(H:Hp)(Q:VK)(E:XK):Prop
 |mk (fa td:Addr) (ps:aZ) (xs ys:List Int) (F:List Fc) (x:Nat) (aC:vs=[.ref fa,.ref td,.str (aw ps x)]) (aI:FL H ps fa F) (ht:iC H td xs ys) (nd:(ps.map (·.1)).Nodup) (aW:∀c∈F,kZ xs ys ps.length c) (bt:xs.length<=8) (bV:ps.length<=100) (dE:F.length<=64) (gJ:x<ps.length) (jm:∀(p:Addr) (H':Hp),H p=none->ah H H'->H' p=some (.lst ((i5 F xs.length x).map V.int))->Q (.ref p) H')
inductive zf(vs:List V)(H:Hp)(Q:VK)(E:XK):Prop
 |mk (a b:Addr) (xs ys:List Int) (aC:vs=[.ref a,.ref b]) (aI:aV H a xs) (aW:aV H b ys) (bt:cO xs ys) (bV:∀(p:Addr) (H':Hp),H p=none->ah H H'->iC H' p xs ys->Q (.ref p) H')
section
variable {K:ag}{mg:aG}
abbrev va:List Str:=["_law_facts","_law_turns_here","_law_name_here"]
theorem xm:a7 ["_law_facts","_law_turns_here","_law_name_here","_law_nets_here"] va (aL sD):=.bw
open Classical in
theorem Gd(F:aP K "_law_room" "_law_room" sD f fd)(sN:HasFn P w K mg base 2 "_law_nets" u6 z5)(rN:HasFn P w K mg base 1 "_law_carried" u7 x3)(bl:Bl mg):aH P w K mg base aT 3 f fd va z7:=by
 refine F.o xm λs H hr h=>?_;obtain⟨fa,td,ps,xs,ys,F,x,rfl,jn,ht,eL,fg,n8,Bg,qK,hx,q⟩:=h;refine⟨_,(ao (dm (i:=3) xm.nd rfl (Or.inr rfl) (aM sN hr (ae (pv 0) (ae (pv 1) ai)))) (au (aN (iV (x:="_law_at") (fr:=[("_law_nets_here",3),("_law_name_here",2),("_law_facts",0)]) (cl:=[("_law_nets_here",s.heap.objs.size+1+1+1),("_law_name_here",s.heap.objs.size+1+1),("_law_facts",s.heap.objs.size+1)]) rfl (.fk ⟨rfl,⟨rfl,⟨rfl,trivial⟩⟩⟩ ⟨⟨rfl,.inl rfl,.inl rfl,rfl⟩,⟨⟨rfl,.inl rfl,.inl rfl,rfl⟩,⟨⟨rfl,.inl rfl,.inl rfl,rfl⟩,trivial⟩⟩⟩) (eV rfl bl.dB (ae (bY K bl (cM (bC hr) (pv 1) bH (λ_ _=>rfl))) ai)) (λ_ _ _ _=>FQ (bx tQ (pf rN hr (by omega) rfl (ae (pv 1) (ae (pv 3) (ae (pv 2) (ae (pv 0) ai))))) hU)) (λ_ _ _ _=>(pv 0)))))),?_⟩;refine aX ?_;refine⟨_,rfl,_,rfl,fa,td,ps,xs,ys,F,rfl,jn,ht,eL,fg,n8,qK,λd aa L H1 g1 pU ed=>?_⟩;obtain⟨_,_,_,u0,lG,_,_,_,Cb⟩:=id ht;obtain⟨n,en⟩:∃n,n=xs.length:=⟨_,rfl⟩;have lI:∀c∈F,nQ n ps.length c:=λc hc=>by rw[en];exact(fg c hc).ok
 rw[←en] at Cb n8 q;have ul:((a8 n).map V.int).length=n:=by rw[Ya,cD]
 refine⟨_,rfl,td,.ref u0,rfl,b_ (g1 _ _ lG) rfl,u0,_,rfl,.inr (ay.of (g1 _ _ Cb)),?_⟩;rw[ul];refine⟨(n:Int),rfl,by omega,by omega,λD hD=>?_⟩;refine xj (lo:=0) (by omega) hD (λi=>decide (∃g,fE n F g/\g x=some (i:Int))) (λi=>V.int (i:Int)) (λi hi H2 g2 _ Kt Kf kt kf=>?_) λH2 g2 h2=>?_
 ·rw[Wq];have qB:(i:Nat)<n:=by omega
  refine⟨_,rfl,_,rfl,_,rfl,_,rfl,H,d,fa,aa,L,n,ps,F,x,(i:Int),rfl,eL,pU.same g2,ed,(jn.same g1).same g2,lI,n8,Bg,qK,hx,⟨by omega,by omega⟩,λno H3 g3=>?_,λp gg H3 g3 Nt bf cl=>?_⟩
  ·refine⟨rfl,_,rfl,?_⟩;rw[decide_eq_true (show V.aD=V.aD from rfl)];exact bT (kf H3 (decide_eq_false no) g3)
  ·refine⟨rfl,_,rfl,?_⟩;rw[decide_eq_false (show ¬V.ref p=V.aD from λz=>nomatch z)];exact cg ⟨_,rfl,kt _ H3 (decide_eq_true ⟨_,cl,bf.hd⟩) g3 rfl⟩
 ·refine q D H2 (g1.free hD) (g1.trans g2) ?_;rw[h2,Yp];have e:i5 F n x=((List.range n).filter λi:Nat=>decide (∃g,fE n F g/\g x=some (i:Int))).map λi:Nat=>(i:Int):=by
   unfold i5 a8;rw[List.filter_map];rfl
  rw[e,List.map_map];rfl
abbrev vc:List Str:=["_law_mother","_law_wife"]
theorem rW:a7 ["_law_mother","_law_wife","_law_father","_law_alone"] vc (aL r_):=.bw
theorem Fm(F:aP K "_law_turns" "_law_turns" r_ f fd)(fR:HasFn P w K mg base 1 "_law_inverse" k8 pC)(si:HasFn P w K mg base 1 "_law_after" pR (AG K))(bl:Bl mg):aH P w K mg base aT 2 f fd vc zf:=by
 refine F.o rW λs H hr h=>?_;obtain⟨a,b,xs,ys,rfl,ha,hb,gl,q⟩:=h;obtain⟨fx,fy,le,l2,l8⟩:=id gl;refine⟨_,(ao (aR 2 rW.nd (aM si hr (ae (pv 1) (ae (pv 0) ai)))) (ao (aR 3 rW.nd (cU (CU rfl) rfl bl.fU fS (ae (cU Di rfl bl.dB oH (ae (bY K bl (pv 0)) ai)) ai))) (au (aN (mw (dI bH (aM fR hr (ae (pv 0) ai)) (dI bH (aM fR hr (ae (pv 2) ai)) (dI bH (pv 1) (dI bH (pv 3) mv)))) rfl rfl (λz=>nomatch z) (Wm rfl)))))),?_⟩;refine aX ?_;have lv:∀x∈ys,0<=x/\x<(xs.length:Int):=λx hx=>by rw[le];exact oQ fy hx
 refine⟨_,rfl,_,rfl,b,a,ys,xs,rfl,ay.of hb,ay.of ha,lv,by omega,λl H1 nl g1 hl=>?_⟩;refine aX ?_;have el:(xs.map V.int).length=xs.length:=Ya _;refine⟨_,rfl,a,_,rfl,.inr (ay.of (g1 _ _ ha)),_,rfl,λrg H2 Nu g2 K6=>⟨rg,xs.length,rfl,by rw[K6,el],by omega,λst H3 v9 g3 bU=>?_⟩⟩;have fo:=g2.trans g3;intro d nd;have g4:=bg nd (.dK []);have lL:upd H3 d (.dK []) d=some (.dK []):=aF;generalize upd H3 d (.dK [])=H4 at g4 lL⊢;have Cc:=fo.trans g4;have fP:=g1.trans Cc;refine⟨_,rfl,a,xs,rfl,fP _ _ ha,by omega,fx,λim H5 Ky g5 vZ=>?_⟩;refine⟨_,rfl,l,bO xs ys,rfl,g5 _ _ (Cc _ _ hl),by rw[jx];omega,oJ fx fy (by omega),λjf H6 Kz g6 v8=>?_⟩;have nS:=g5.trans g6;refine⟨_,rfl,_,rfl,nS _ _ lL,[(.inr "mother",.ref im),(.inr "father",.ref jf),(.inr "wed",.ref b),(.inr "sibling",.ref st)],rfl,by show 4<=15;decide,?_⟩;have b7:cB d H6 (upd H6 d (.dK (kT im jf b st))):=cB.put (cB.of (ah.refl _));have Cd:upd H6 d (.dK (kT im jf b st)) d=some (.dK (kT im jf b st)):=aF;have em:fW [] [((.inr "mother":Key),V.ref im),(.inr "father",.ref jf),(.inr "wed",.ref b),(.inr "sibling",.ref st)]=kT im jf b st:=rfl;rw[em];generalize upd H6 d (.dK (kT im jf b st))=H7 at b7 Cd⊢;have K7:∀{c:Addr} {zs:List Int},aV H6 c zs->c≠d:=λh1 z=>by rw[aV,z,nS _ _ lL] at h1;cases h1
 have k7:∀{c:Addr} {zs:List Int},aV H6 c zs->aV H7 c zs:=λh=>b7 _ _ h (K7 h);refine q d H7 (g1.free (fo.free nd)) (λc o e=>b7 _ _ (nS _ _ (fP _ _ e)) (aY e (g1.free (fo.free nd)))) ⟨im,jf,b,st,Cd,k7 (g6 _ _ vZ),k7 v8,k7 (nS _ _ (fP _ _ hb)),k7 (nS _ _ (g4 _ _ bU))⟩
end
def fQ(ps:aZ):List V:=ps.map λp=>.str p.1
theorem tY(ps:aZ):(fQ ps).length=ps.length:=Ya _
theorem Hi{ps:aZ}{z:Int}(h0:0<=z)(h:z<(ps.length:Int)):c6 (fQ ps) z=some (.str (aw ps z.toNat)):=by
 obtain⟨k,rfl⟩:∃k:Nat,z=(k:Int):=⟨z.toNat,by omega⟩;refine jB ?_;unfold fQ aw
 grind
theorem oX{z:Int}{n:Nat}(h:0<n):0<=z % (n:Int)/\z % (n:Int)<(n:Int):=⟨Y7 _ (by omega),Y4 _ (by omega)⟩
theorem Vt.oR{K:ag}{e:TE}{σ:St}{H:Hp}{nl:Addr}{ps:aZ}{z:Int}{i:Nat}(hi:σ[i]?=some (some (.ref nl)))(hn:H nl=some (.lst (fQ ps)))(p0:0<ps.length)(he:Vt e σ H (.int z)):Vt (fb (pK K) (c_ i) (fb (rI (λ_ j=>0<j) λi j=>V.int (i % j)) e (gs (m_ K) (cR (c_ i) dN)))) σ H (.str (aw ps (z % (ps.length:Int)).toNat)):=λk hk=>⟨_,hi,he _ λH1 g1=>by
 have l:=tY ps;have m:=oX (z:=z) p0;exact⟨_,hi,nl,_,rfl,.inl (ak.of (g1 _ _ hn)),_,_,rfl,rfl,by omega,nl,_,_,_,rfl,rfl,ak.of (g1 _ _ hn),by rw[l];exact Hi m.1 m.2,hk H1 g1⟩⟩
inductive z8(vs:List V)(H:Hp)(Q:VK)(E:XK):Prop
 |mk (nl sd:Addr) (ps:aZ) (z:Int) (s:Str) (aC:vs=[.ref nl,.ref sd,.int z,.str s]) (hn:H nl=some (.lst (fQ ps))) (hs:H sd=some (.dK (iA ps))) (nd:(ps.map (·.1)).Nodup) (p0:0<ps.length) (pm:ps.length<=100) (q:∀i,i<ps.length->∀H',ah H H'->Q (.str (aw ps i)) H')
theorem Fn(xs ys:List Int){d:Int}(h:0<=d/\d<4):∃(k:Str) (tn:List Int) (w:Str),c6 [V.str "mother",V.str "father",V.str "wed",V.str "sibling"] d=some (.str k)/\(k,tn)∈d8 xs ys/\c6 [V.str "woman",V.str "man",V.str "woman",V.str ""] d=some (.str w):=by
 have:d=0\/d=1\/d=2\/d=3:=by omega
 rcases this with rfl|rfl|rfl|rfl;·exact⟨_,inv xs,_,rfl,by simp,rfl⟩
 ·exact⟨_,inv (bO xs ys),_,rfl,by simp,rfl⟩
 ·exact⟨_,ys,_,rfl,by simp,rfl⟩
 ·exact⟨_,a8 xs.length,_,rfl,by simp,rfl⟩
section
variable {K:ag}{mg:aG}{eR:Addr}
abbrev vd:List Str:=["_law_names","_law_sides","_law_at","_law_side"]
theorem xn:a7 ["_law_names","_law_sides","_law_at","_law_side","_law_k"] vd (aL sF):=.bw
theorem DJ(F:aP K "_law_pick" "_law_pick" sF f fd)(bl:Bl mg):aH P w K mg base aT 1 f fd vd z8:=by
 refine F.o xn λs H hr h=>?_;obtain⟨nl,sd,ps,z,sx,rfl,hn,hs,nd,p0,pm,q⟩:=h;refine⟨_,(ao (cK PassesOwn.never rfl (eV rfl bl.dB (ae (bY K bl (pv 0)) ai)) (aS 4 xn.nd) (au (bj (PW.pt (pw_or (bx dJ (pv 3) bH) (pw_or1 (bx dJ (cM (bC hr) (pv 1) (aK (iL K) (pv 0) (az bZ (az cN (pv 2) (pv 4)) (bY K bl (pv 0)))) (λ_ _=>rfl)) (pv 3))))) (au (aN (aK (iL K) (pv 0) (az bZ (az cN (pv 2) (pv 4)) (bY K bl (pv 0)))))) bD))) (au (aN (aK (iL K) (pv 0) (az bZ (pv 2) (bY K bl (pv 0))))))),?_⟩;have wC:=tY ps;have at_:∀z:Int,(z % (ps.length:Int)).toNat<ps.length:=λz=>by have:=oX (z:=z) p0;omega
 refine dk (λσ H6=>ah H H6/\∃o4:Option V,σ=[some (.ref nl),some (.ref sd),some (.int z),some (.str sx),o4]) (λfq cu=>?_) ?_
 ·refine⟨_,rfl,nl,_,rfl,.inl (ak.of hn),_,rfl,by omega,by omega,l3 (lo:=0) (n:=(((fQ ps).length:Nat):Int).toNat) (λ_ σ H6=>ah H H6/\∃o4:Option V,σ=[some (.ref nl),some (.ref sd),some (.int z),some (.str sx),o4]) ⟨ah.refl _,none,rfl⟩ ?_ (λσ H6 h=>cu _ _ h)⟩;rintro j σ H6 hj ⟨g6,o4,rfl⟩;rw[Wq];have vt:∀H7,ah H6 H7->Vt _ _ H7 _:=λH7 g7=>Vt.oR (K:=K) (i:=0) (σ:=[some (.ref nl),some (.ref sd),some (.int z),some (.str sx),some (.int (j:Int))]) (z:=z+(j:Int)) (e:=fb (jc λi j=>V.int (i+j)) (c_ 2) (c_ 4)) rfl (g7 _ _ (g6 _ _ hn)) p0 (λk hk=>⟨_,rfl,_,rfl,_,_,rfl,rfl,hk _ (ah.refl _)⟩);refine(Bt.or (Vt.test (Vt.eq (Vt.var rfl) (λ_ _=>Vt.c) rfl)) λH7 _ g7=>Vt.test (Vt.eq (x:=.str (wb ps ((z+(j:Int)) % (ps.length:Int)).toNat)) (y:=.str sx) (λk hk=>⟨_,rfl,vt H7 g7 _ λH8 g8=>⟨sd,_,rfl,b_ (g8 _ _ (g7 _ _ (g6 _ _ hs))) (Fl nd (at_ _)),hk H8 g8⟩⟩) (λ_ _=>Vt.var rfl) rfl)) _ λH9 g9=>?_;refine bR (λ_=>?_) (λ_=>bJ ⟨g6.trans g9,_,rfl⟩);exact vt H9 g9 _ λHA gA=>q _ (at_ _) HA ((g6.trans g9).trans gA)
 rintro σ H6 ⟨g6,o4,rfl⟩;exact Vt.oR (K:=K) (i:=0) (z:=z) rfl (g6 _ _ hn) p0 (Vt.var rfl) _ λHA gA=>q _ (at_ _) HA (g6.trans gA)
end
def fu(n:Nat):List Nat:=if n<10 then[48+n] else[48+n/10,48+n % 10]
def eM(n:Nat):Str:=.ofString (toString (n:Int))
theorem tZ:∀n<61,(eM n).cps.toList=fu n:=by decide+kernel
def cT(k z:Nat):Nat:=if z/3 % 3=1 then 9 else(k*z+z) % 5
def eN(m:Nat):Str:=Txt.mul "q" (m:Int)
theorem Ge:∀m<10,(eN m).cps.toList=List.replicate m 113:=by decide+kernel
def j_:Str:="abcdefghijklmnopqrstuvwxyz"
theorem uq:∀i<26,c6 j_.cps.toList ((i:Nat):Int)=some (97+i):=by decide+kernel
def iE(i:Nat):Str:=⟨#[97+i]⟩
def cw(z k:Nat):Str:=if z % 3=0 then(iE ((k*7+z) % 26)++eM (k/26))++eN (cT k z) else if z % 3=1 then(iE (z % 26)++eN (cT k z))++eM ((k*17+z) % 61) else(iE (z % 26)++eM ((k*17+z) % 61))++eN (cT k z)
theorem z9(k z:Nat):cT k z<10:=by
 unfold cT;split<;>omega
theorem kK(a b:Str):(a++b).cps.toList=a.cps.toList++b.cps.toList:=Array.toList_append
theorem tq(z k:Nat)(hk:k<60):(cw z k).cps.toList=if z % 3=0 then[97+(k*7+z) % 26,48+k/26]++List.replicate (cT k z) 113 else if z % 3=1 then(97+z % 26)::(List.replicate (cT k z) 113++fu ((k*17+z) % 61)) else(97+z % 26)::(fu ((k*17+z) % 61)++List.replicate (cT k z) 113):=by
 have f:=Ge _ (z9 k z);unfold cw;split
 ·rw[kK,kK,f,tZ _ (by omega)];unfold fu;rw[if_pos (by omega)];rfl
 split
 ·rw[kK,kK,f,tZ _ (by omega)];rfl
 ·rw[kK,kK,f,tZ _ (by omega)];rfl
def wD(l:List Nat):Nat:=l.foldl (λa c=>10*a+(c-48)) 0
theorem pG:wD (fu n)=n:=by
 unfold fu;split;·exact(Nat.zero_add _).trans (W7 _ _)
 ·show 10*(10*0+(48+n/10-48))+(48+n % 10-48)=n;rw[W7,W7,Nat.mul_zero,Nat.zero_add,Nat.div_add_mod]
theorem Hj(h:n<61):∀c∈fu n,48<=c/\c<58:=by
 unfold fu
 grind
theorem oy(h:n<61):(fu n).filter (λc=>decide (c<58))=fu n:=List.filter_eq_self.mpr λc hc=>decide_eq_true (Hj h c hc).2
theorem oz(m:Nat):(List.replicate m 113).filter (λc=>decide (c<58))=[]:=by
 grind
theorem x4(hk:k<60)(K8:k'<60)(e:cw z k=cw z k'):k=k':=by
 have e:(cw z k).cps.toList=(cw z k').cps.toList:=by rw[e]
 rw[tq z k hk,tq z k' K8] at e;by_cases h0:z % 3=0
 ·rw[if_pos h0,if_pos h0] at e;injection e with e1 e;injection e with e2 _;omega
 rw[if_neg h0,if_neg h0] at e;have key:(k*17+z) % 61=(k'*17+z) % 61->k=k':=λh=>by omega
 by_cases h1:z % 3=1
 ·rw[if_pos h1,if_pos h1] at e;injection e with _ e;have e2:=congrArg (List.filter λc=>decide (c<58)) e;rw[Wl,Wl,oz,oz,oy (by omega),oy (by omega),Jm,Jm] at e2;have e3:=congrArg wD e2;rw[pG,pG] at e3;exact key e3
 ·rw[if_neg h1,if_neg h1] at e;injection e with _ e;have e2:=congrArg (List.filter λc=>decide (c<58)) e;rw[Wl,Wl,oz,oz,oy (by omega),oy (by omega),Yy,Yy] at e2;have e3:=congrArg wD e2;rw[pG,pG] at e3;exact key e3
theorem Gf:∀m<10,(eN m).length<=9:=by decide+kernel
theorem zg:∀n<61,(eM n).length<=2:=by decide+kernel
theorem t4(a b:Str):(a++b).length=a.length+b.length:=Array.size_append
inductive z_(vs:List V)(H:Hp)(Q:VK)(E:XK):Prop
 |mk (k z:Nat) (aC:vs=[.int (k:Int),.int (z:Int)]) (hk:k<60) (hz:z<97) (q:Q (.str (cw z k)) H)
section
variable {K:ag}{mg:aG}
abbrev ve:List Str:=["_law_k","_law_salt"]
theorem lV:a7 ["_law_k","_law_salt","_law_letters","_law_fill","_law_number_here"] ve (aL sE):=.bw
theorem DK(F:aP K "_law_name" "_law_name" sE f fd)(bl:Bl mg):aH P w K mg base aT 1 f fd ve z_:=by
 refine F.o lV λs H hr h=>?_;obtain⟨k,z,rfl,hk,hz,q⟩:=h;refine⟨_,(ao (aR 2 lV.nd bH) (ao (aR 3 lV.nd (az y0 bH (az bZ (az cN (az fC (pv 0) (pv 1)) (pv 1)) aq))) (ao (aR 4 lV.nd (az bZ (az cN (az fC (pv 0) aq) (pv 1)) aq)) (ao (bj (bx dJ (az bZ (az oM (pv 1) aq) aq) aq) (au (aR 3 lV.nd (az y0 bH aq))) bD) (ao (bj (bx dJ (az bZ (pv 1) aq) aq) (au (aN (az kB (az kB (aK uc (pv 2) (az bZ (az cN (az fC (pv 0) aq) (pv 1)) aq)) (cU rO rfl bl.uE ug (ae (az oM (pv 0) aq) ai))) (pv 3)))) bD) (ao (bj (bx dJ (az bZ (pv 1) aq) aq) (au (aN (az kB (az kB (aK uc (pv 2) (az bZ (pv 1) aq)) (pv 3)) (cU rO rfl bl.uE ug (ae (pv 4) ai))))) bD) (au (aN (az kB (az kB (aK uc (pv 2) (az bZ (pv 1) aq)) (cU rO rfl bl.uE ug (ae (pv 4) ai))) (pv 3)))))))))),?_⟩;have cm:m7 (k:Int) (z:Int):=.inl ⟨by omega,by omega⟩;have Ce:∀j:Int,m7 (k:Int) j:=λj=>.inl ⟨by omega,by omega⟩;have c3:uO (z:Int) 3:=⟨by omega,by omega⟩;have K9:uO (k:Int) 26:=⟨by omega,by omega⟩;have sz:(10000:Nat)<=sizeLine:=by rw[sizeLine_eq];omega
 have Cf:((k:Int)*17+(z:Int)) % 61=(((k*17+z) % 61:Nat):Int):=by omega
 have K_:((k:Int)*7+(z:Int)) % 26=(((k*7+z) % 26:Nat):Int):=by omega
 have Cg:(z:Int) % 26=((z % 26:Nat):Int):=by omega
 have La:(k:Int)/26=((k/26:Nat):Int):=by omega
 have e5:((k:Int)*(z:Int)+(z:Int)) % 5=(((k*z+z) % 5:Nat):Int):=by rw[Int.natCast_emod,Int.natCast_add,Int.natCast_mul];rfl
 refine setC ?_;refine aX ?_;refine⟨_,rfl,_,rfl,_,_,rfl,rfl,cm,_,rfl,_,_,rfl,rfl,_,_,rfl,rfl,by omega,"q",(k*z+z) % 5,rfl,congrArg V.int e5,by decide+kernel,by omega,?_⟩;refine aX ?_;refine⟨_,rfl,_,_,rfl,rfl,Ce _,_,rfl,_,_,rfl,rfl,_,_,rfl,rfl,by omega,?_⟩;refine mK (λσ H6=>H6=H/\σ=[some (.int (k:Int)),some (.int (z:Int)),some (.str j_),some (.str (eN (cT k z))),some (.int (((k*17+z) % 61:Nat):Int))]) (λB_ eA=>?_) ?_
 ·refine⟨_,rfl,_,_,rfl,rfl,c3,_,_,rfl,rfl,by omega,rfl,_,rfl,bR (λc=>?_) (λc=>bJ ?_)⟩
  ·have c:=V.int.inj (of_decide_eq_true c);have c1:z/3 % 3=1:=by omega
   have fe:cT k z=9:=if_pos c1;refine⟨"q",9,rfl,rfl,by decide+kernel,by omega,aJ (eA _ _ ⟨rfl,?_⟩)⟩;rw[fe,←Cf];rfl
  ·have c1:¬z/3 % 3=1:=λw=>c (decide_eq_true (congrArg V.int (by omega)));have fe:cT k z=(k*z+z) % 5:=if_neg c1;refine eA _ _ ⟨rfl,?_⟩;rw[fe,←Cf];rfl
 rintro σ H6 ⟨rfl,rfl⟩;have ls:=Gf _ (z9 k z);have ll:j_.length<=sizeLine:=Y5 (show j_.length<=100 by decide+kernel) (by omega);have lg:∀n:Nat,n<61->(n:Int).natAbs.log2<1920:=λn hn=>Wj (Nat.log2_le_self _) (by omega);refine⟨_,rfl,_,_,rfl,rfl,by omega,rfl,_,rfl,bR (λc=>?_) (λc=>bJ ?_)⟩
 ·have h0:z % 3=0:=by have:=V.int.inj (of_decide_eq_true c);omega
  have ld:=zg (k/26) (by omega);refine⟨_,rfl,_,rfl,_,_,rfl,rfl,Ce _,_,rfl,_,_,rfl,rfl,_,_,rfl,rfl,by omega,j_,_,_,rfl,congrArg V.int K_,ll,uq _ (by omega),_,rfl,_,_,rfl,rfl,K9,((k/26:Nat):Int),congrArg (λi=>[V.int i]) La,lg _ (by omega),_,_,rfl,rfl,?_,_,rfl,_,_,rfl,rfl,?_,?_⟩
  ·show 1+(eM (k/26)).length<=sizeLine;omega
  ·show(iE ((k*7+z) % 26)++eM (k/26)).length+(eN (cT k z)).length<=sizeLine;rw[t4];show 1+_+_<=_;omega
  ·have e:cw z k=(iE ((k*7+z) % 26)++eM (k/26))++eN (cT k z):=if_pos h0;rw[e] at q;exact q
 have h0:¬z % 3=0:=λw=>c (decide_eq_true (congrArg V.int (by omega)));have ld:=zg ((k*17+z) % 61) (by omega);refine⟨_,rfl,_,_,rfl,rfl,by omega,rfl,_,rfl,bR (λc=>?_) (λc=>bJ ?_)⟩
 ·have h1:z % 3=1:=by have:=V.int.inj (of_decide_eq_true c);omega
  refine⟨_,rfl,_,rfl,_,_,rfl,rfl,by omega,j_,_,_,rfl,congrArg V.int Cg,ll,uq _ (by omega),_,rfl,_,_,rfl,rfl,?_,_,rfl,_,rfl,lg _ (by omega),_,_,rfl,rfl,?_,?_⟩
  ·show 1+(eN (cT k z)).length<=sizeLine;omega
  ·show(iE (z % 26)++eN (cT k z)).length+(eM ((k*17+z) % 61)).length<=sizeLine;rw[t4];show 1+_+_<=_;omega
  ·have e:cw z k=(iE (z % 26)++eN (cT k z))++eM ((k*17+z) % 61):=(if_neg h0).trans (if_pos h1);rw[e] at q;exact q
 have h1:¬z % 3=1:=λw=>c (decide_eq_true (congrArg V.int (by omega)));refine⟨_,rfl,_,rfl,_,_,rfl,rfl,by omega,j_,_,_,rfl,congrArg V.int Cg,ll,uq _ (by omega),_,rfl,_,rfl,lg _ (by omega),_,_,rfl,rfl,?_,_,rfl,_,_,rfl,rfl,?_,?_⟩
 ·show 1+(eM ((k*17+z) % 61)).length<=sizeLine;omega
 ·show(iE (z % 26)++eM ((k*17+z) % 61)).length+(eN (cT k z)).length<=sizeLine;rw[t4];show 1+_+_<=_;omega
 ·have e:cw z k=(iE (z % 26)++eM ((k*17+z) % 61))++eN (cT k z):=(if_neg h0).trans (if_neg h1);rw[e] at q;exact q
end
structure Rw where
 z:Int
 k:Str
 a:Str
 o:Key
def pV(H:Hp)(p:Addr)(r:Rw):Prop:=H p=some (.tup [.int r.z,.str r.k,.str r.a,kV r.o])
def de(xs ys:List Int)(r:Rw):Prop:=(r.k=bb/\∃i,r.o=.inl i)\/∃tn b,(r.k,tn)∈d8 xs ys/\r.o=.inr b
abbrev vf:List (Str×Str):=[("m","c"),("c","m"),("f","k"),("k","f"),("w","h"),("h","w"),("s","s")]
theorem Fo(n:Nat):inv (a8 n)=a8 n:=by
 refine Wp λi=>?_;by_cases hi:i<n;·rw[mB (by rw[cD];exact hi),dZ hi,oE (ou (kJ (List.Perm.refl (a8 n)))) (dZ hi)]
 ·rw[Y0 (by rw[dG,cD];omega),Y0 (by rw[cD];omega)]
theorem tE{xs ys tn:List Int}{k:Str}(gd:cO xs ys)(h:(k,tn)∈d8 xs ys):∃r r',PyProof.Rows.KTD.datumAt k ie=some r/\(r,tn)∈iZ xs ys/\PyProof.Rows.KTD.datumAt r vf=some r'/\(r',inv tn)∈iZ xs ys:=by
 simp only[Yw,Wh,or_false] at h;obtain⟨fx,fy,e,_,_⟩:=gd;rcases h with⟨rfl,rfl⟩|⟨rfl,rfl⟩|⟨rfl,rfl⟩|⟨rfl,rfl⟩;·exact⟨"m","c",by decide+kernel,by simp,by decide+kernel,by rw[inv_inv fx];simp⟩
 ·exact⟨"f","k",by decide+kernel,by simp,by decide+kernel,by rw[inv_inv (oJ fx fy e)];simp⟩
 ·exact⟨"w","h",by decide+kernel,by simp,by decide+kernel,by simp⟩
 ·exact⟨"s","s",by decide+kernel,by simp,by decide+kernel,by rw[Fo];simp⟩
def cz(xs ys:List Int)(k:Str):List Int:=if k="mother" then inv xs else if k="father" then inv (bO xs ys) else if k="wed" then ys else a8 xs.length
theorem kL{xs ys tn:List Int}{k:Str}(h:(k,tn)∈d8 xs ys):cz xs ys k=tn:=by
 simp only[Yw,Wh,or_false] at h;unfold cz;rcases h with⟨rfl,rfl⟩|⟨rfl,rfl⟩|⟨rfl,rfl⟩|⟨rfl,rfl⟩;·rw[if_pos rfl]
 ·rw[if_neg (by decide+kernel),if_pos rfl]
 ·rw[if_neg (by decide+kernel),if_neg (by decide+kernel),if_pos rfl]
 ·rw[if_neg (by decide+kernel),if_neg (by decide+kernel),if_neg (by decide+kernel)]
theorem Gg{xs ys tn:List Int}{k:Str}(hk:(k,tn)∈d8 xs ys):ic ie k=true:=by
 obtain⟨r,dr,_⟩:=xc hk;unfold ic;rw[dr];rfl
def cj(R:List Rw)(z:Int):Option Rw:=R.find? λr=>decide (r.z=z)
theorem jz{R:List Rw}{z:Int}{r:Rw}(h:cj R z=some r):r∈R/\r.z=z:=⟨List.mem_of_find?_eq_some h,of_decide_eq_true (List.find?_some (p:=λr:Rw=>decide (r.z=z)) h)⟩
def c8(xs ys:List Int)(R:List Rw)(nm:Str)(s:Int×Int):Option (Str×List Int):=
 match cj R s.1 with
 |none=>none
 |some r=>match r.o with
  |.inl _=>none
  |.inr b=>if s.2=1 then(if r.a=nm then some (b,cz xs ys r.k) else none) else if s.2=-1 then(if b=nm then some (r.a,inv (cz xs ys r.k)) else none) else none
theorem Lb(w:Int):j1 (.int w) [.int 1,.int (-1)]=decide (w=1\/w=-1):=by
 rw[Wu,decide_eq_true_iff];unfold j1;rw[Ja,Ja,List.any_nil,Bool.or_false,Bool.or_eq_true];show(((1:Int)==w)=true\/((-1:Int)==w)=true)↔_;rw[beq_iff_eq,beq_iff_eq];omega
inductive x5(vs:List V)(H:Hp)(Q:VK)(E:XK):Prop
 |mk (p:Addr) (r:Rw) (w:Int) (xs ys tn:List Int) (b:Str) (aC:vs=[.ref p,.int w]) (hr:pV H p r) (gd:cO xs ys) (hk:(r.k,tn)∈d8 xs ys) (ob:r.o=.inr b) (q:∀(t:Addr) (lt:Str) (H':Hp),H t=none->ah H H'->H' t=some (.tup [.str (if w=1 then r.a else b),.str lt,.str (if w=1 then b else r.a)])->(lt,if w=1 then tn else inv tn)∈iZ xs ys->Q (.ref t) H')
def gc(H:Hp)(p:Addr)(s:Int×Int):Prop:=H p=some (.tup [.int s.1,.int s.2])
def WL(H:Hp)(wa:Addr)(W:List (Int×Int)):Prop:=∃as:List Addr,H wa=some (.lst (as.map V.ref))/\Paired (gc H) as W
theorem WL.same{H H':Hp}{wa:Addr}{W:List (Int×Int)}(g:ah H H')(h:WL H wa W):WL H' wa W:=by
 obtain⟨as,h1,h2⟩:=h;exact⟨as,g _ _ h1,L2.Paired.bM h2 λ_ _ e=>g _ _ e⟩
def RL(H:Hp)(fa:Addr)(R:List Rw):Prop:=∃as:List Addr,H fa=some (.lst (as.map V.ref))/\Paired (pV H) as R
theorem RL.same{H H':Hp}{fa:Addr}{R:List Rw}(g:ah H H')(h:RL H fa R):RL H' fa R:=by
 obtain⟨as,h1,h2⟩:=h;exact⟨as,g _ _ h1,L2.Paired.bM h2 λ_ _ e=>g _ _ e⟩
def ng:Option Int->V
 |none=>.aD
 |some z=>.int z
def bP(xs ys:List Int)(R:List Rw):Str->Int->List (Int×Int)->Option (Str×Int)
 |nm,now,[]=>some (nm,now)
 |nm,now,s::W=>match c8 xs ys R nm s with
  |none=>none
  |some (Lc,ns)=>bP xs ys R Lc (ns.getD now.toNat 0) W
theorem kM{xs ys:List Int}{R:List Rw}(V:List (Int×Int)):∀(W:List (Int×Int)) (nm:Str) (now:Int),bP xs ys R nm now (W++V)=match bP xs ys R nm now W with
  |none=>none
  |some (m,u)=>bP xs ys R m u V
 |[],_,_=>rfl
 |s::W,nm,now=>by
  rw[List.cons_append];simp only[bP];cases c8 xs ys R nm s with
  |none=>rfl
  |some p=>exact kM V W _ _
theorem yz{xs ys:List Int}{R:List Rw}{W:List (Int×Int)}{nm m:Str}{now u:Int}{j:Nat}{s:Int×Int}(h:bP xs ys R nm now (W.take j)=some (m,u))(hs:W[j]?=some s):bP xs ys R nm now (W.take (j+1))=match c8 xs ys R m s with
  |none=>none
  |some (m',ns)=>some (m',ns.getD u.toNat 0):=by
 rw[Yq,hs,show(some s).toList=[s] from rfl,kM,h];rfl
theorem Fp{xs ys:List Int}{R:List Rw}{W:List (Int×Int)}{nm m:Str}{now u:Int}{j:Nat}{s:Int×Int}(h:bP xs ys R nm now (W.take j)=some (m,u))(hs:W[j]?=some s)(hn:c8 xs ys R m s=none):bP xs ys R nm now W=none:=by
 have e:=yz h hs;rw[hn] at e;rw[←List.take_append_drop (j+1) W,kM,e]
def dQ(xs ys:List Int)(R:List Rw)(nm:Str)(sec:Int)(W:List (Int×Int))(e:Option Int):Bool:=
 match bP xs ys R nm sec W with
 |none=>false
 |some (m,u)=>match e with
  |none=>decide (m=nm)&&!decide (u=sec)
  |some z=>match cj R z with
   |none=>false
   |some r=>decide (r.k=bb)&&(decide (r.a=m)&&!decide (r.o=.inl u))
theorem vg(x y:Int):decide (V.int x=V.int y)=decide (x=y):=by
 by_cases h:x=y;·rw[h,decide_eq_true rfl,decide_eq_true rfl]
 ·rw[decide_eq_false (λz=>h (V.int.inj z)),decide_eq_false h]
theorem mS{ns:List Int}{n:Nat}(f:full ns=true)(l:ns.length=n){u:Int}(h:0<=u/\u<(n:Int)):c6 (ns.map V.int) u=some (.int (ns.getD u.toNat 0))/\0<=ns.getD u.toNat 0/\ns.getD u.toNat 0<(n:Int):=by
 obtain⟨k,rfl⟩:∃k:Nat,u=(k:Int):=⟨u.toNat,by omega⟩;have hk:k<ns.length:=by omega
 have e:ns.getD ((k:Int)).toNat 0=ns[k]:=by rw[Yp,Yt,Yf hk];rfl
 rw[e];have m:=(iO f).mem_iff.mp (W0 hk);obtain⟨i,hi,ei⟩:=Jb m;rw[cD] at hi;have e2:(i:Int)=ns[k]:=Yb ((dZ hi).symm.trans ((Yf (by rw[cD];exact hi)).trans (by rw[ei])));exact⟨jB (by rw[Ye,Yf hk];rfl),by omega,by omega⟩
theorem x6{A:List Rw}{r:Rw}(z:Int):cj (A++[r]) z=(cj A z).or (if r.z=z then some r else none):=by
 unfold cj;rw[List.find?_append]
 congr 1
 rw[W5];by_cases h:r.z=z;·rw[decide_eq_true h,if_pos h]
 ·rw[decide_eq_false h,if_neg h];rfl
section
variable {K:ag}{mg:aG}{eR kz:Addr}
theorem kA:a7 ["fact","way","number","kind","one","other","letter"] ["fact","way"] (aL sy):=.bw
theorem DL(F:aP K "tie_step" "tie_step" sy f fd)(kr:mg "TIE_LETTERS"=some (.ref eR))(tb:jO K eR ie)(sj:mg "WAYS_BACK"=some (.ref kz))(tw:jO K kz vf){t1:Tok}(kN:mg "FORTH"=some (.int 1 t1)):aH P w K mg base aT 1 f fd ["fact","way"] x5:=by
 refine F.o kA λs H hr h=>?_;obtain⟨p,r,w,xs,ys,tn,b,rfl,fm,gd,hk,ob,q⟩:=h;refine⟨_,(ao (oV (pv 0) (d7 (K:=K) (n:=4) rfl rfl (ba (aS 2 kA.nd) (ba (aS 3 kA.nd) (ba (aS 4 kA.nd) (ba (aS 5 kA.nd) d5)))))) (ao (aR 6 kA.nd (aK (yZ (K:=K) rfl) (hE (v:=.ref eR) rfl kr rfl) (pv 3))) (au (aN (EL (bx dJ (pv 1) (hE (v:=.int (1)) rfl kN ⟨_,rfl⟩)) (cQ (ae (pv 4) (ae (pv 6) (ae (pv 5) ai)))) (cQ (ae (pv 5) (ae (aK (yZ (K:=K) rfl) (hE (v:=.ref kz) rfl sj rfl) (pv 6)) (ae (pv 4) ai))))))))),?_⟩;have sz:(10000:Nat)<=sizeLine:=by rw[sizeLine_eq];omega
 obtain⟨r1,r2,d1,s1,d2,s2⟩:=tE gd hk;refine⟨_,rfl,p,_,rfl,ay.of fm,rfl,_,_,rfl,aJ ⟨_,_,rfl,aJ ⟨_,_,rfl,aJ ⟨_,_,rfl,aJ ⟨rfl,?_⟩⟩⟩⟩⟩;dsimp only;refine aX ?_;refine⟨_,rfl,eR,r.k,r1,ie,rfl,rfl,tb,d1,?_⟩;refine⟨_,rfl,rfl,_,rfl,bR (λc=>?_) (λc=>?_)⟩
 ·have e1:w=1:=V.int.inj (of_decide_eq_true c);rw[if_pos e1,if_pos e1,if_pos e1] at q;exact⟨_,rfl,_,rfl,_,rfl,by show 3<=sizeLine;omega,λt H' nt g ht=>q t r1 H' nt g (by rw[ht,ob];rfl) s1⟩
 ·have e1:¬w=1:=λz=>c (decide_eq_true (by rw[z]));rw[if_neg e1,if_neg e1,if_neg e1] at q;exact⟨_,rfl,_,rfl,kz,r1,r2,vf,rfl,rfl,tw,d2,_,rfl,by show 3<=sizeLine;omega,λt H' nt g ht=>q t r2 H' nt g (by rw[ht,ob];rfl) s2⟩
end
structure dW(H:Hp)(xs ys:List Int)(kt ks:List (Key×V))(R:List Rw):Prop where
 t1:∀z r b,cj R z=some r->r.o=.inr b->∃p u,aA kt (.inl z)=some (.ref p)/\H p=some (.tup [.str r.a,.str b,.ref u])/\aV H u (cz xs ys r.k)
 t0:∀z,(∀r b,cj R z=some r->r.o≠.inr b)->aA kt (.inl z)=none
 s1:∀z r i,cj R z=some r->r.o=.inl i->∃p,aA ks (.inl z)=some (.ref p)/\H p=some (.tup [.str r.a,.int i])
 s0:∀z,(∀r i,cj R z=some r->r.o≠.inl i)->aA ks (.inl z)=none
section
variable {H H':Hp}{xs ys:List Int}{kt ks:List (Key×V)}{R:List Rw}
theorem dW.eZ(t:dW H xs ys kt ks R)(g:∀p us,H p=some (.tup us)->H' p=some (.tup us)):dW H' xs ys kt ks R:=
 ⟨λz r b h1 h2=>let⟨p,u,a1,a2,a3⟩:=t.t1 z r b h1 h2;⟨p,u,a1,g _ _ a2,g _ _ a3⟩,t.t0,λz r i h1 h2=>let⟨p,a1,a2⟩:=t.s1 z r i h1 h2;⟨p,a1,g _ _ a2⟩,t.s0⟩
theorem dW.same(g:ah H H')(t:dW H xs ys kt ks R):dW H' xs ys kt ks R:=t.eZ λ_ _ e=>g _ _ e
theorem tM{r:Rw}(nz:r.z∉R.map (·.z)):cj R r.z=none:=by
 cases e:cj R r.z with
 |none=>rfl
 |some r'=>
  obtain⟨m,ez⟩:=jz e;exact absurd (Y6.mpr ⟨r',m,ez⟩) nz
theorem kO{r:Rw}(nz:r.z∉R.map (·.z)):cj (R++[r]) r.z=some r:=by
 rw[x6,tM nz,if_pos rfl];rfl
theorem iW{r:Rw}{z:Int}(e:¬r.z=z):cj (R++[r]) z=cj R z:=by
 rw[x6,if_neg e,Option.or_none]
theorem dW.fN(t:dW H xs ys kt ks R){r:Rw}{b:Str}{p u:Addr}(nz:r.z∉R.map (·.z))(ob:r.o=.inr b)(hp:H p=some (.tup [.str r.a,.str b,.ref u]))(hu:aV H u (cz xs ys r.k)):dW H xs ys (putK kt (.inl r.z) (.ref p)) ks (R++[r]):=by
 refine⟨λz r' b' h1 h2=>?_,λz h=>?_,λz r' i h1 h2=>?_,λz h=>?_⟩
 ·rw[dH];by_cases e:r.z=z
  ·subst e;rw[kO nz] at h1;obtain rfl:=Yb h1;obtain rfl:=Y3 (ob.symm.trans h2);exact⟨p,u,if_pos rfl,hp,hu⟩
  ·rw[iW e] at h1;rw[if_neg (λq=>e (W3 q).symm)];exact t.t1 z r' b' h1 h2
 ·rw[dH];by_cases e:r.z=z
  ·subst e;exact absurd ob (h r b (kO nz))
  ·rw[iW e] at h;rw[if_neg (λq=>e (W3 q).symm)];exact t.t0 z h
 ·by_cases e:r.z=z
  ·subst e;rw[kO nz] at h1;obtain rfl:=Yb h1;rw[ob] at h2;cases h2
  ·rw[iW e] at h1;exact t.s1 z r' i h1 h2
 ·refine t.s0 z λr' i h1 h2=>?_;by_cases e:r.z=z
  ·subst e;rw[tM nz] at h1;cases h1
  ·exact h r' i (by rw[iW e];exact h1) h2
theorem dW.gb(t:dW H xs ys kt ks R){r:Rw}{i:Int}{p:Addr}(nz:r.z∉R.map (·.z))(oi:r.o=.inl i)(hp:H p=some (.tup [.str r.a,.int i])):dW H xs ys kt (putK ks (.inl r.z) (.ref p)) (R++[r]):=by
 refine⟨λz r' b' h1 h2=>?_,λz h=>?_,λz r' i' h1 h2=>?_,λz h=>?_⟩
 ·by_cases e:r.z=z
  ·subst e;rw[kO nz] at h1;obtain rfl:=Yb h1;rw[oi] at h2;cases h2
  ·rw[iW e] at h1;exact t.t1 z r' b' h1 h2
 ·refine t.t0 z λr' b' h1 h2=>?_;by_cases e:r.z=z
  ·subst e;rw[tM nz] at h1;cases h1
  ·exact h r' b' (by rw[iW e];exact h1) h2
 ·rw[dH];by_cases e:r.z=z
  ·subst e;rw[kO nz] at h1;obtain rfl:=Yb h1;obtain rfl:=W3 (oi.symm.trans h2);exact⟨p,if_pos rfl,hp⟩
  ·rw[iW e] at h1;rw[if_neg (λq=>e (W3 q).symm)];exact t.s1 z r' i' h1 h2
 ·rw[dH];by_cases e:r.z=z
  ·subst e;exact absurd oi (h r i (kO nz))
  ·rw[iW e] at h;rw[if_neg (λq=>e (W3 q).symm)];exact t.s0 z h
end
theorem Hk{xs ys:List Int}{R:List Rw}{m on ot b:Str}{s:Int×Int}{ns:List Int}{r:Rw}(er:cj R s.1=some r)(ob:r.o=.inr b)(h:(s.2=1/\on=r.a/\ot=b/\ns=cz xs ys r.k)\/(s.2=-1/\on=b/\ot=r.a/\ns=inv (cz xs ys r.k))):c8 xs ys R m s=if on=m then some (ot,ns) else none:=by
 unfold c8;rw[er];dsimp only;rw[ob];dsimp only;rcases h with⟨h1,rfl,rfl,rfl⟩|⟨h1,rfl,rfl,rfl⟩;·rw[if_pos h1]
 ·rw[if_neg (by omega),if_pos h1]
inductive AM(vs:List V)(H:Hp)(Q:VK)(E:XK):Prop
 |mk (z:Int) (aC:vs=[.int z]) (q:Q (.bl true) H)
inductive Aa(vs:List V)(H:Hp)(Q:VK)(E:XK):Prop
 |mk (fa td pa wa:Addr) (xs ys:List Int) (R:List Rw) (nm:Str) (sec:Int) (W:List (Int×Int)) (e:Option Int) (aC:vs=[.ref fa,.ref td,.str nm,.int sec,.ref pa]) (ht:iC H td xs ys) (gd:cO xs ys) (rl:RL H fa R) (ro:∀r∈R,de xs ys r) (zd:(R.map (·.z)).Nodup) (rn:R.length<=64) (hp:H pa=some (.tup [.ref wa,ng e])) (hw:WL H wa W) (wn:W.length<=400) (hs:0<=sec/\sec<(xs.length:Int)) (q:∀H',ah H H'->Q (.bl (dQ xs ys R nm sec W e)) H')
def nT(fa td:Addr)(nm:Str)(sec:Int)(pa:Addr)(m:Str)(u:Int)(ti sd:Addr)(o9 bo bq bc bL cC:Option V):St:=[some (.ref fa),some (.ref td),some (.str nm),some (.int sec),some (.ref pa),some (.str m),some (.int u),some (.ref ti),some (.ref sd),o9,bo,bq,bc,bL,cC]
section
variable {K:ag}{mg:aG}
theorem C_:a7 ["_law_one"] ["_law_one"] (aL rT):=.bw
theorem EG(F:aP K "_law_number" "_law_number" rT f fd)(bl:Bl mg):aH P w K mg base aT 1 f fd ["_law_one"] AM:=by
 refine F.o C_ λs H hr h=>?_;obtain⟨z,rfl,q⟩:=h;refine⟨_,(au (aN (mE (j8 K bl (pv 0) (jE rfl bl.HX GX)) (t8 (Gz (j8 K bl (pv 0) (jE rfl bl.zK yW))))))),?_⟩;exact⟨_,rfl,_,_,_,true,rfl,.int z,GZ,_,rfl,cg ⟨_,rfl,_,_,_,false,rfl,.int z,zL,_,rfl,q⟩⟩
abbrev vh:List Str:=["_law_facts","_law_turns_here","_law_name_here","_law_section","_law_paper"]
theorem di:a7 ["_law_facts","_law_turns_here","_law_name_here","_law_section","_law_paper","_law_at","_law_now","_law_ties","_law_said","_law_number_here","_law_kind","_law_one","_law_other","_law_step","_law_turn_here"] vh (aL sJ):=.bw
theorem Gh(F:aP K "_law_bars" "_law_bars" sJ f fd)(lU:HasFn P w K mg base 1 "_law_number" ["_law_one"] AM)(fR:HasFn P w K mg base 1 "_law_inverse" k8 pC)(bl:Bl mg):aH P w K mg base aT 2 f fd vh Aa:=by
 refine F.o di @λa_ A outer vs Q E s H hr h=>?_;obtain⟨fa,td,pa,wa,xs,ys,R,nm,sec,W,e,rfl,ht,gd,rl,ro,zd,rn,hp,hw,wn,nh,q⟩:=h;refine⟨_,(ao (bj (PW.pt (pw_or (hV (fB (j8 K bl (pv 4) (jE rfl bl.fU fS)))) (pw_or (bx dM (bY K bl (pv 4)) aq) (pw_or1 (hV (fB (j8 K bl (aK (iT K) (pv 4) aq) (jE rfl bl.mN mn)))))))) (au (aN hX)) bD) (ao (aR 5 di.nd (pv 2)) (ao (aR 6 di.nd (pv 3)) (ao (aR 7 di.nd kE) (ao (aR 8 di.nd kE) (ao (cK PassesOwn.never rfl (dy (K:=K) rfl (pv 0)) (d7 (K:=K) (n:=4) rfl rfl (ba (aS 9 di.nd) (ba (aS 10 di.nd) (ba (aS 11 di.nd) (ba (aS 12 di.nd) d5))))) (au (bj (bx dJ (pv 10) bH) (au (kH (bC hr) (pv 8) (pv 9) (cQ (ae (pv 11) (ae (pv 12) ai))))) (au (kH (bC hr) (pv 7) (pv 9) (cQ (ae (pv 11) (ae (pv 12) (ae (cM (bC hr) (pv 1) (pv 10) (λ_ _=>rfl)) ai))))))))) (ao (cK PassesOwn.never rfl (dy (K:=K) rfl (aK (iT K) (pv 4) aq)) (aS 13 di.nd) (ao (bj (PW.pt (pw_or (hV (fB (j8 K bl (pv 13) (jE rfl bl.fU fS)))) (pw_or (bx dM (bY K bl (pv 13)) aq) (pw_or (hV (fB (aM lU hr (ae (aK (iT K) (pv 13) aq) ai)))) (pw_or1 (hV (fB (aM lU hr (ae (aK (iT K) (pv 13) aq) ai))))))))) (au (aN hX)) bD) (ao (bj (PW.pt (pw_or (mD (oC (bC hr) (aK (iT K) (pv 13) aq) (pv 7)) (by with_unfolding_all rfl)) (pw_or1 (tR (GY (K:=K) rfl) (aK (iT K) (pv 13) aq) (cQ (ae aq (ae (o_ oW aq) ai))) (by with_unfolding_all rfl))))) (au (aN hX)) bD) (ao (oV (cM (bC hr) (pv 7) (aK (iT K) (pv 13) aq) (λ_ _=>rfl)) (d7 (K:=K) (n:=3) rfl rfl (ba (aS 11 di.nd) (ba (aS 12 di.nd) (ba (aS 14 di.nd) d5))))) (ao (bj (bx dJ (aK (iT K) (pv 13) aq) (o_ oW aq)) (au (F2 (i:=11) (j:=12) (k:=14) rfl di.nd rfl rfl rfl rfl rfl rfl (ae (pv 12) (ae (pv 11) (ae (aM fR hr (ae (pv 14) ai)) ai))) (by with_unfolding_all rfl))) bD) (ao (bj (bx dM (pv 11) (pv 5)) (au (aN hX)) bD) (ao (aR 5 di.nd (pv 12)) (au (aR 6 di.nd (aK (iT K) (pv 14) (pv 6))))))))))) (ao (bj (bx GF (aK (iT K) (pv 4) aq) hU) (au (aN (mE (nM dJ (pv 5) (pv 2)) (t8 (nM dM (pv 6) (pv 3)))))) bD) (au (aN (mE (aM lU hr (ae (aK (iT K) (pv 4) aq) ai)) (mE (Gy (zP (bC hr) (aK (iT K) (pv 4) aq) (pv 8)) (by with_unfolding_all rfl)) (mE (nM dJ (aK (iT K) (cM (bC hr) (pv 8) (aK (iT K) (pv 4) aq) (λ_ _=>rfl)) aq) (pv 5)) (t8 (nM dM (aK (iT K) (cM (bC hr) (pv 8) (aK (iT K) (pv 4) aq) (λ_ _=>rfl)) aq) (pv 6)))))))))))))))),?_⟩;have sz:(10000:Nat)<=sizeLine:=by rw[sizeLine_eq];omega
 obtain⟨as,c7,bW⟩:=rl;have al:=cJ bW;obtain⟨ws,ka,Ci⟩:=hw;have wl:=cJ Ci;refine⟨_,rfl,_,_,_,true,rfl,.tup hp,zN,_,rfl,bT ?_⟩;refine⟨_,rfl,pa,_,rfl,.inr (ay.of hp),rfl,_,rfl,bR (λc=>absurd c (by show ¬(!decide (V.int 2=V.int 2))=true;rw[decide_eq_true rfl];exact Yg)) (λ_=>?_)⟩;refine⟨_,rfl,pa,_,_,_,rfl,rfl,ay.of hp,rfl,_,_,_,true,rfl,.lst ka,zM,_,rfl,bT (bJ ?_)⟩;refine aX ⟨_,rfl,?_⟩;refine aX ⟨_,rfl,?_⟩;refine aX ?_;refine λti H1 n1 g1 h1=>?_;refine aX ?_;refine λsd H2 n2 g2 h2=>?_;have Bi:ti≠sd:=λz=>by rw[←z,h1] at n2;cases n2
 have c9:=g1.trans g2;have Le:=g1.free n2;refine dk (λσ H'=>∃(kt ks:List (Key×V)) (o9 bo bq bc:Option V),ah H H'/\H' ti=some (.dK kt)/\H' sd=some (.dK ks)/\dW H' xs ys kt ks R/\σ=nT fa td nm sec pa nm sec ti sd o9 bo bq bc none none) (λfq cu=>?_) ?_
 ·refine⟨_,rfl,fa,rfl,⟨_,ak.of (c9 _ _ c7)⟩,dt (K:=K) (a:=fa) (xs:=as.map V.ref) (λj σ H'=>∃(kt ks:List (Key×V)) (o9 bo bq bc:Option V),ah H H'/\H' ti=some (.dK kt)/\H' sd=some (.dK ks)/\kt.length<=j/\ks.length<=j/\dW H' xs ys kt ks (R.take j)/\σ=nT fa td nm sec pa nm sec ti sd o9 bo bq bc none none)
   ⟨[],[],none,none,none,none,c9,g2 _ _ h1,h2,Yd _,Yd _,⟨λz r b h=>(by cases h),λ_ _=>rfl,λz r b h=>(by cases h),λ_ _=>rfl⟩,rfl⟩ (λj σ H' _ ⟨_,_,_,_,_,_,g,_⟩=>ak.of (g _ _ c7)) ?_ ?_⟩
  ·rintro j v σ H5 hj ⟨kt,ks,o9,bo,bq,bc,g5,iF,gS,lt,ls,gT,rfl⟩;rw[Ye] at hj;obtain⟨a,ea,rfl⟩:∃a,as[j]?=some a/\V.ref a=v:=by
    cases e:as[j]? with
    |none=>rw[e] at hj;cases hj
    |some c=>rw[e] at hj;exact⟨c,rfl,Yb hj⟩
   obtain⟨r,er,fm⟩:=eT bW ea;have jl:j<as.length:=(Yi.mp ea).1;have tk:R.take (j+1)=R.take j++[r]:=by rw[Yq,er];rfl
   have nz:r.z∉(R.take j).map (·.z):=λm=>by
    have nd:((R.take (j+1)).map (·.z)).Nodup:=((List.take_sublist _ _).map _).nodup zd;rw[tk,Yo] at nd;exact(Ww.mp nd).2.2 _ m _ (Yh.mpr rfl) rfl
   refine⟨a,_,rfl,ay.of (g5 _ _ fm),rfl,_,_,rfl,aJ ⟨_,_,rfl,aJ ⟨_,_,rfl,aJ ⟨_,_,rfl,aJ ⟨rfl,?_⟩⟩⟩⟩⟩;dsimp only;refine⟨_,rfl,rfl,_,rfl,?_⟩;rw[pT];have rr:=ro r (Yk er);refine bR (λc=>?_) (λc=>?_)
   ·have rk:r.k=bb:=of_decide_eq_true c;rcases rr with⟨_,i,oi⟩|⟨tn,b,hk,ob⟩
    ·refine⟨_,rfl,_,rfl,by show 2<=sizeLine;omega,λp H6 np g6 kb=>⟨_,rfl,_,rfl,sd,ks,.inl r.z,rfl,g6 _ _ gS,rfl,by omega,λH7 b7 e7=>?_⟩⟩;have tp:∀p us,H5 p=some (.tup us)->H7 p=some (.tup us):=λp us e=>b7 _ _ (g6 _ _ e) (cv (g6 _ _ e) (g6 _ _ gS) (λz=>by cases z));refine⟨kt,putK ks (.inl r.z) (.ref p),_,_,_,_,λc o ec=>b7 _ _ (g6 _ _ (g5 _ _ ec)) (aY ec Le),b7 _ _ (g6 _ _ iF) Bi,e7,by omega,?_,?_,rfl⟩
     ·have:=iM ks (.inl r.z) (.ref p);omega
     ·rw[tk];exact(gT.eZ tp).gb nz oi (by rw[b7 _ _ kb (cv kb (g6 _ _ gS) (λz=>by cases z)),oi];rfl)
    ·rw[rk] at hk;exact absurd hk lZ
   ·have rk:r.k≠bb:=λz=>c (decide_eq_true z);rcases rr with⟨e,_⟩|⟨tn,b,hk,ob⟩;·exact absurd e rk
    obtain⟨kv,u,lG,vu,Lf⟩:=(ht.same g5).get hk;refine⟨_,rfl,_,rfl,_,rfl,_,rfl,td,_,rfl,b_ lG vu,by show 3<=sizeLine;omega,λp H6 np g6 kb=>⟨_,rfl,_,rfl,ti,kt,.inl r.z,rfl,g6 _ _ iF,rfl,by omega,λH7 b7 e7=>?_⟩⟩;have tp:∀p us,H6 p=some (.tup us)->H7 p=some (.tup us):=λp us e=>b7 _ _ e (cv e (g6 _ _ iF) (λz=>by cases z));refine⟨putK kt (.inl r.z) (.ref p),ks,_,_,_,_,λc o ec=>b7 _ _ (g6 _ _ (g5 _ _ ec)) (aY ec n1),e7,b7 _ _ (g6 _ _ gS) (λz=>Bi z.symm),?_,by omega,?_,rfl⟩
    ·have:=iM kt (.inl r.z) (.ref p);omega
    ·rw[tk];refine((gT.same g6).eZ tp).fN nz ob (tp _ _ (by rw[kb,ob];rfl)) ?_;rw[kL hk];exact tp _ _ (g6 _ _ Lf)
  ·rintro σ H5 ⟨kt,ks,o9,bo,bq,bc,g5,iF,gS,lt,ls,gT,rfl⟩;rw[Ya,al,Y1] at gT;exact cu _ _ ⟨kt,ks,o9,bo,bq,bc,g5,iF,gS,gT,rfl⟩
 rintro σ H5 ⟨kt,ks,o9,bo,bq,bc,g5,iF,gS,gT,rfl⟩;have Cj:=g5 _ _ hp;refine dk (λσ H'=>∃(m:Str) (u:Int) (p9 gU iG iH iI iJ:Option V),ah H5 H'/\bP xs ys R nm sec W=some (m,u)/\σ=nT fa td nm sec pa m u ti sd p9 gU iG iH iI iJ) (λfq cu=>?_) ?_
 ·refine⟨_,rfl,pa,_,_,_,rfl,rfl,ay.of Cj,rfl,wa,rfl,⟨_,ak.of (g5 _ _ ka)⟩,dt (K:=K) (a:=wa) (xs:=ws.map V.ref) (λj σ H'=>∃(m:Str) (u:Int) (p9 gU iG iH iI iJ:Option V),ah H5 H'/\bP xs ys R nm sec (W.take j)=some (m,u)/\(0<=u/\u<(xs.length:Int))/\σ=nT fa td nm sec pa m u ti sd p9 gU iG iH iI iJ)
   ⟨nm,sec,o9,bo,bq,bc,none,none,ah.refl _,rfl,nh,rfl⟩ (λj σ H' _ ⟨_,_,_,_,_,_,_,_,g,_⟩=>ak.of (g _ _ (g5 _ _ ka))) ?_ ?_⟩
  ·rintro j v σ H6 hj ⟨m,u,p9,gU,iG,iH,iI,iJ,g6,wj,Ck,rfl⟩;rw[Ye] at hj;obtain⟨a,ea,rfl⟩:∃a,ws[j]?=some a/\V.ref a=v:=by
    cases e:ws[j]? with
    |none=>rw[e] at hj;cases hj
    |some c=>rw[e] at hj;exact⟨c,rfl,Yb hj⟩
   obtain⟨st,es,bU⟩:=eT Ci ea;have gW:=g5.trans g6;have h6:=gW _ _ bU;have lM:=ay.of (K:=K) h6;refine aJ ?_;refine⟨_,rfl,_,_,_,true,rfl,.tup h6,zN,_,rfl,bT ?_⟩;refine⟨_,rfl,a,_,rfl,.inr lM,rfl,_,rfl,bR (λc=>absurd c (by show ¬(!decide (V.int 2=V.int 2))=true;rw[decide_eq_true rfl];exact Yg)) (λ_=>?_)⟩;refine⟨_,rfl,a,_,_,_,rfl,rfl,lM,rfl,st.1,rfl,_,rfl,bT ?_⟩;refine⟨_,rfl,a,_,_,_,rfl,rfl,lM,rfl,st.2,rfl,_,rfl,bT (bJ ?_)⟩;have fail:c8 xs ys R m st=none->∀H',ah H H'->Q (.bl false) H':=λep H' g=>by
    have eb:dQ xs ys R nm sec W e=false:=by unfold dQ;rw[Fp wj es ep]
    rw[eb] at q;exact q _ g
   have nU:=g6 _ _ iF;by_cases fN:∃r b,cj R st.1=some r/\r.o=.inr b
   ·obtain⟨r,b,er,ob⟩:=fN;obtain⟨p,tu,ev,nW,qS⟩:=gT.t1 _ _ _ er ob;have dg:∀{H':Hp},ah H6 H'->da H' ti (.int st.1) (some (.ref p)):=λg=>.inl ⟨kt,.inl st.1,.inl (g _ _ nU),rfl,ev.symm⟩;refine⟨_,rfl,a,_,_,_,rfl,rfl,lM,rfl,_,rfl,ti,_,rfl,dg (ah.refl _),_,rfl,bT ?_⟩;obtain⟨tn,qT,wF,wG⟩:∃tn,cz xs ys r.k=tn/\full tn=true/\tn.length=xs.length:=by
     rcases ro r (jz er).1 with⟨_,i,oi⟩|⟨tn,b',hk,_⟩;·rw[oi] at ob;cases ob
     ·exact⟨tn,kL hk,Fj gd hk⟩
    refine⟨_,rfl,a,_,_,_,rfl,rfl,lM,rfl,_,rfl,by show 2<=sizeLine;omega,λtp H7 Lg g7 qU=>⟨tp,_,rfl,.inr (ay.of qU),rfl,rfl,_,rfl,?_⟩⟩;show(if(!j1 (.int st.2) [.int 1,.int (-1)])=true then _ else _);rw[Lb];have dX:=gW.trans g7;by_cases ww:st.2=1\/st.2=-1
    ·rw[decide_eq_true ww];refine bT (bJ ?_);have Cm:=ay.of (K:=K) (g7 _ _ h6);have Lh:=g7 _ _ (g6 _ _ nW);have Bj:aV H7 tu (cz xs ys r.k):=g7 _ _ (g6 _ _ qS);refine⟨_,rfl,_,rfl,a,_,_,_,rfl,rfl,Cm,rfl,ti,_,rfl,dg g7,p,_,rfl,ay.of Lh,rfl,_,_,rfl,aJ ⟨_,_,rfl,aJ ⟨_,_,rfl,aJ ⟨rfl,?_⟩⟩⟩⟩;dsimp only;refine mK (λσ H'=>∃(on ot:Str) (qV:Addr) (ns:List Int),ah H7 H'/\aV H' qV ns/\((st.2=1/\on=r.a/\ot=b/\ns=cz xs ys r.k)\/(st.2=-1/\on=b/\ot=r.a/\ns=inv (cz xs ys r.k)))/\σ=nT fa td nm sec pa m u ti sd p9 gU (some (.str on)) (some (.str ot)) (some (.ref a)) (some (.ref qV))) (λwu fO=>?_) ?_
     ·refine⟨_,rfl,a,_,_,_,rfl,rfl,Cm,rfl,_,rfl,rfl,_,rfl,bR (λc=>?_) (λc=>bJ (fO _ _ ⟨r.a,b,tu,_,ah.refl _,Bj,.inl ⟨ww.resolve_right (λz=>c (decide_eq_true (congrArg V.int z))),rfl,rfl,rfl⟩,rfl⟩))⟩;have e1:st.2=-1:=V.int.inj (of_decide_eq_true c);exact⟨_,rfl,_,rfl,_,rfl,tu,_,rfl,Bj,by rw[qT,wG];have:=gd.2.2.2.2;omega,by rw[qT];exact wF,λt' H8 Nv g8 qW=>⟨_,_,_,rfl,fO _ _ ⟨b,r.a,t',_,g8,qW,.inr ⟨e1,rfl,rfl,rfl⟩,rfl⟩⟩⟩
     rintro σ H8 ⟨on,ot,qV,ns,g8,JE,cs,rfl⟩;have eh:=Hk (xs:=xs) (ys:=ys) (m:=m) er ob cs;have wH:=dX.trans g8;refine⟨_,rfl,_,rfl,rfl,_,rfl,?_⟩;rw[pT];by_cases om:on=m
     ·rw[decide_eq_true om];refine bT (bJ ?_);rw[if_pos om] at eh;refine aX ⟨_,rfl,?_⟩;have fl:full ns=true/\ns.length=xs.length:=by
       rcases cs with⟨_,_,_,rfl⟩|⟨_,_,_,rfl⟩;·rw[qT];exact⟨wF,wG⟩
       ·rw[qT];exact⟨jy wF,by rw[dG];exact wG⟩
      obtain⟨kd,u0,u1⟩:=mS fl.1 fl.2 Ck;refine⟨_,rfl,_,rfl,qV,_,_,_,rfl,rfl,ay.of JE,kd,aJ ⟨ot,_,_,_,_,_,_,_,(g6.trans g7).trans g8,?_,⟨u0,u1⟩,rfl⟩⟩;rw[yz wj es,eh]
     ·rw[decide_eq_false om];refine cg ?_;rw[if_neg om] at eh;exact fail eh _ wH
    ·rw[decide_eq_false ww];refine cg (fail ?_ _ dX);unfold c8;rw[er];dsimp only;rw[ob];dsimp only;rw[if_neg (λh=>ww (.inl h)),if_neg (λh=>ww (.inr h))]
   ·refine⟨_,rfl,a,_,_,_,rfl,rfl,lM,rfl,_,rfl,ti,none,rfl,.inl ⟨kt,.inl st.1,.inl nU,rfl,(gT.t0 _ (λr b h1 h2=>fN ⟨r,b,h1,h2⟩)).symm⟩,_,rfl,cg ?_⟩;refine fail ?_ _ gW;unfold c8;cases er:cj R st.1 with
    |none=>rfl
    |some r=>
     dsimp only;cases eo:r.o with
     |inl i=>rfl
     |inr b=>exact absurd ⟨r,b,er,eo⟩ fN
  ·rintro σ H6 ⟨m,u,p9,gU,iG,iH,iI,iJ,g6,wj,Ck,rfl⟩;rw[Ya,wl,Y1] at wj;exact cu _ _ ⟨m,u,p9,gU,iG,iH,iI,iJ,g6,wj,rfl⟩
 rintro σ H6 ⟨m,u,p9,gU,iG,iH,iI,iJ,g6,wj,rfl⟩;have gW:=g5.trans g6;unfold dQ at q;rw[wj] at q;have ke:=ay.of (K:=K) (g6 _ _ Cj);cases e with
 |none=>
  refine⟨_,rfl,pa,_,_,_,rfl,rfl,ke,rfl,rfl,_,rfl,bR (λ_=>⟨_,rfl,_,rfl,rfl,_,rfl,?_⟩) (λc=>absurd (decide_eq_true rfl) c)⟩;rw[pT];dsimp only at q;refine bR (λc=>⟨_,rfl,_,rfl,rfl,?_⟩) (λc=>?_)
  ·rw[c,Bool.true_and] at q;rw[vg];exact q _ gW
  ·rw[eq_false_of_ne_true c,Jc] at q;exact q _ gW
 |some z=>
  refine⟨_,rfl,pa,_,_,_,rfl,rfl,ke,rfl,rfl,_,rfl,bR (λc=>absurd (of_decide_eq_true c) (λh=>by cases h)) (λ_=>bJ ?_)⟩;dsimp only at q;have nU:=g6 _ _ gS;refine⟨_,rfl,pa,_,_,_,rfl,rfl,ke,rfl,z,rfl,_,rfl,cg ?_⟩;by_cases gb:∃r i,cj R z=some r/\r.o=.inl i
  ·obtain⟨r,i,er,oi⟩:=gb;obtain⟨p,ev,nW⟩:=gT.s1 _ _ _ er oi;have kb:=g6 _ _ nW;have dg:da H6 sd (.int z) (some (.ref p)):=.inl ⟨ks,.inl z,.inl nU,rfl,ev.symm⟩;have rk:r.k=bb:=by
    rcases ro r (jz er).1 with⟨h,_⟩|⟨tn,b',_,ob⟩;·exact h
    ·rw[oi] at ob;cases ob
   rw[er] at q;dsimp only at q;rw[decide_eq_true rk,Bool.true_and] at q;refine⟨_,rfl,pa,_,_,_,rfl,rfl,ke,rfl,_,rfl,sd,_,rfl,dg,_,rfl,cg ⟨_,rfl,_,rfl,pa,_,_,_,rfl,rfl,ke,rfl,sd,_,rfl,dg,p,_,_,_,rfl,rfl,ay.of kb,rfl,_,rfl,rfl,_,rfl,?_⟩⟩;rw[pT];refine bR (λc2=>?_) (λc2=>?_)
   ·rw[c2,Bool.true_and,oi] at q;refine⟨_,rfl,_,rfl,pa,_,_,_,rfl,rfl,ke,rfl,sd,_,rfl,dg,p,_,_,_,rfl,rfl,ay.of kb,rfl,_,rfl,rfl,?_⟩;have e5:decide (V.int i=V.int u)=decide ((Sum.inl i:Key)=.inl u):=by
     rw[Wu,decide_eq_true_iff,decide_eq_true_iff];exact⟨λh=>congrArg Sum.inl (V.int.inj h),λh=>congrArg V.int (W3 h)⟩
    rw[e5];exact q _ gW
   ·rw[eq_false_of_ne_true c2,Jc] at q;exact q _ gW
  ·refine⟨_,rfl,pa,_,_,_,rfl,rfl,ke,rfl,_,rfl,sd,none,rfl,.inl ⟨ks,.inl z,.inl nU,rfl,(gT.s0 _ (λr i h1 h2=>gb ⟨r,i,h1,h2⟩)).symm⟩,_,rfl,bT ?_⟩;cases er:cj R z with
   |none=>
    rw[er] at q;exact q _ gW
   |some r=>
    rw[er] at q;dsimp only at q;have nk:¬r.k=bb:=λh=>by
     rcases ro r (jz er).1 with⟨_,i,oi⟩|⟨tn,b',hk,_⟩;·exact gb ⟨r,i,er,oi⟩
     ·rw[h] at hk;exact lZ hk
    rw[decide_eq_false nk,Jc] at q;exact q _ gW
end
def gf(xs ys:List Int)(ps:aZ)(k a:Str)(o:Key):Prop:=∃c:Fc,kZ xs ys ps.length c/\c.k=k/\a=aw ps c.one/\o=jR ps c
theorem Gi{xs ys:List Int}{ps:aZ}{i:Nat}{z:Int}(hi:i<ps.length)(hz:0<=z/\z<(xs.length:Int)):gf xs ys ps bb (aw ps i) (.inl z):=
 ⟨⟨bb,i,z,[]⟩,⟨⟨hi,λh=>absurd rfl h⟩,.inl rfl,λ_=>hz⟩,rfl,rfl,(iP (ps:=ps) (c:=⟨bb,i,z,[]⟩) rfl).symm⟩
theorem Hl{xs ys tn:List Int}{ps:aZ}{i j:Nat}{k:Str}(gd:cO xs ys)(hi:i<ps.length)(hj:j<ps.length)(hk:(k,tn)∈d8 xs ys):gf xs ys ps k (aw ps i) (.inr (aw ps j)):=by
 have nk:k≠bb:=λz=>by rw[z] at hk;exact lZ hk
 obtain⟨r1,r2,_,s1,_,_⟩:=tE gd hk;obtain⟨f1,l1⟩:=ow gd s1;refine⟨⟨k,i,(j:Int),tn⟩,⟨⟨hi,λ_=>⟨⟨Int.natCast_nonneg _,by rw[Yp];exact hj⟩,f1,l1⟩⟩,.inr hk,λh=>absurd h nk⟩,rfl,rfl,?_⟩;rw[iR (c:=⟨k,i,(j:Int),tn⟩) nk,Yp]
theorem gf.ok{xs ys:List Int}{ps:aZ}{r:Rw}(h:gf xs ys ps r.k r.a r.o):de xs ys r:=by
 obtain⟨c,fg,e1,_,e3⟩:=h;by_cases s:c.k=bb;·exact .inl ⟨by rw[←e1,s],_,by rw[e3,iP s]⟩
 ·exact .inr ⟨c.tn,_,by rw[←e1];exact fg.pD s,by rw[e3,iR s]⟩
inductive zh(vs:List V)(H:Hp)(Q:VK)(E:XK):Prop
 |mk (nl sd dr:Addr) (ps:aZ) (xs ys:List Int) (d0 d1 d2 d3 d4:Int) (aC:vs=[.ref nl,.ref sd,.ref dr,.int (xs.length:Int)]) (hn:H nl=some (.lst (fQ ps))) (hs:H sd=some (.dK (iA ps))) (nd:(ps.map (·.1)).Nodup) (p0:0<ps.length) (pm:ps.length<=100) (hd:H dr=some (.lst ([d0,d1,d2,d3,d4].map V.int))) (b4:0<=d4/\d4<4) (gd:cO xs ys) (q:∀(k a:Str) (o:Key),gf xs ys ps k a o->∀(ff:Addr) (H':Hp),H ff=none->ah H H'->H' ff=some (.tup [.str k,.str a,kV o])->Q (.ref ff) H')
theorem Gj{ds:List Int}{a:Int}(h:Paired Bd ds [a]):∃v,ds=[v]/\Bd v a:=by
 cases h with
 |cons r t=>cases t;exact⟨_,rfl,r⟩
theorem Fq(z k:Nat)(hk:k<60):cw z k≠"stranger":=λe=>by
 have e:(cw z k).cps.toList[1]?=some 116:=by rw[e];decide+kernel
 rw[tq z k hk] at e;have dg:∀(n:Nat) (r:List Nat),n<61->(fu n++r)[0]?≠some 116:=λn r h=>by
  unfold fu;split;·intro z;injection z with z;omega
  ·intro z;injection z with z;omega
 by_cases h0:z % 3=0
 ·rw[if_pos h0] at e;injection e with e;omega
 ·rw[if_neg h0] at e;by_cases h1:z % 3=1
  ·rw[if_pos h1,W6] at e;cases f:cT k z with
   |zero=>rw[f] at e;exact dg ((k*17+z) % 61) [] (by omega) (by simpa using e)
   |succ m=>rw[f,List.replicate_succ] at e;injection e with e;omega
  ·rw[if_neg h1,W6] at e;exact dg ((k*17+z) % 61) _ (by omega) e
inductive Ab(K:ag)(vs:List V)(H:Hp)(Q:VK)(E:XK):Prop
 |mk (s1:Addr) (ms:List Int) (z:Nat) (aC:vs=[.ref s1,.int (z:Int)]) (hs:ak K H s1 (ms.map V.int)) (hz:z<97) (q:∀(t nl sd:Addr) (ps:aZ) (H':Hp),ah H H'->H' t=some (.tup [.ref nl,.ref sd])->H' nl=some (.lst (fQ ps))->H' sd=some (.dK (iA ps))->(ps.map (·.1)).Nodup->("stranger":Str)∉ps.map (·.1)->0<ps.length->ps.length<=13->Q (.ref t) H')
section
variable {K:ag}{mg:aG}
abbrev vi:List Str:=["_law_names","_law_sides","_law_drawn","_law_size"]
theorem lX:a7 ["_law_names","_law_sides","_law_drawn","_law_size","_law_kind","_law_one","_law_want"] vi (aL sG):=.bw
theorem DM(F:aP K "_law_fact" "_law_fact" sG f fd)(oA:HasFn P w K mg base 1 "_law_pick" vd z8)(bl:Bl mg):aH P w K mg base aT 2 f fd vi zh:=by
 refine F.o lX λs H hr h=>?_;obtain⟨nl,sd,dr,ps,xs,ys,d0,d1,d2,d3,d4,rfl,hn,hs,nd,p0,pm,hd,b4,gd,q⟩:=h;refine⟨_,(ao (aR 4 lX.nd (aK (iL K) (cE (ae bH (ae bH (ae bH (ae bH ai))))) (aK (iL K) (pv 2) aq))) (ao (aR 5 lX.nd (aK (iL K) (pv 0) (az bZ (aK (iL K) (pv 2) aq) (bY K bl (pv 0))))) (ao (bj (bx Ap (aK (iL K) (pv 2) aq) aq) (au (aN (cQ (ae bH (ae (pv 5) (ae (az bZ (aK (iL K) (pv 2) aq) (pv 3)) ai)))))) bD) (ao (bj (bx dJ (pv 4) bH) (au (aR 5 lX.nd (aM oA hr (ae (pv 0) (ae (pv 1) (ae (aK (iL K) (pv 2) aq) (ae bH ai))))))) bD) (ao (aR 6 lX.nd (aK (iL K) (cE (ae bH (ae bH (ae bH (ae bH ai))))) (aK (iL K) (pv 2) aq))) (au (aN (cQ (ae (pv 4) (ae (pv 5) (ae (aM oA hr (ae (pv 0) (ae (pv 1) (ae (aK (iL K) (pv 2) aq) (ae (pv 6) ai))))) ai))))))))))),?_⟩;have sz:(10000:Nat)<=sizeLine:=by rw[sizeLine_eq];omega
 obtain⟨k,tn,wt,ek,hk,ew⟩:=Fn xs ys b4;have at_:∀z:Int,(z % (ps.length:Int)).toNat<ps.length:=λz=>by have:=oX (z:=z) p0;omega
 obtain⟨_,_,_,l2,l8⟩:=id gd;have Bk:(0:Int)<(xs.length:Int):=by omega
 refine aX ?_;refine⟨by show 4<=sizeLine;omega,λkl H1 Nx g1 Li=>⟨_,rfl,dr,_,_,_,rfl,rfl,ak.of (g1 _ _ hd),rfl,kl,_,_,_,rfl,rfl,ak.of Li,ek,?_⟩⟩;refine aX ?_;have fO:=g1 _ _ hn;refine Vt.oR (K:=K) (i:=0) (z:=d1) rfl fO p0 (λkk hk=>⟨_,rfl,dr,_,_,_,rfl,rfl,ak.of (g1 _ _ hd),rfl,hk _ (ah.refl _)⟩) _ λH2 g2=>?_;have c9:=g1.trans g2;refine⟨_,rfl,dr,_,_,_,rfl,rfl,ak.of (c9 _ _ hd),rfl,_,_,rfl,rfl,_,rfl,bR (λ_=>?_) (λ_=>bJ ?_)⟩
 ·refine⟨_,rfl,_,rfl,dr,_,_,_,rfl,rfl,ak.of (c9 _ _ hd),rfl,_,rfl,_,_,rfl,rfl,Bk,by show 3<=sizeLine;omega,λff H3 qX g3 nX=>?_⟩;exact q bb _ (.inl (d3 % (xs.length:Int))) (Gi (at_ _) ⟨Y7 _ (by omega),Y4 _ Bk⟩) ff H3 (c9.free qX) (c9.trans g3) nX
 refine mK (λσ H6=>ah H H6/\∃i:Nat,i<ps.length/\σ=[some (.ref nl),some (.ref sd),some (.ref dr),some (.int (xs.length:Int)),some (.str k),some (.str (aw ps i)),none]) (λB_ eA=>?_) ?_
 ·refine⟨_,rfl,rfl,_,rfl,bR (λ_=>?_) (λ_=>bJ (eA _ _ ⟨c9,_,at_ _,rfl⟩))⟩;refine⟨_,rfl,_,rfl,_,rfl,dr,_,_,_,rfl,rfl,ak.of (c9 _ _ hd),rfl,nl,sd,ps,d1,"man",rfl,c9 _ _ hn,c9 _ _ hs,nd,p0,pm,λi hi H3 g3=>aJ (eA _ _ ⟨c9.trans g3,i,hi,rfl⟩)⟩
 rintro σ H6 ⟨g6,i,hi,rfl⟩;refine aX ?_;refine⟨by show 4<=sizeLine;omega,λwl H7 Ny g7 j3=>⟨_,rfl,dr,_,_,_,rfl,rfl,ak.of (g7 _ _ (g6 _ _ hd)),rfl,wl,_,_,_,rfl,rfl,ak.of j3,ew,?_⟩⟩;have dX:=g6.trans g7;refine⟨_,rfl,_,rfl,_,rfl,_,rfl,_,rfl,dr,_,_,_,rfl,rfl,ak.of (dX _ _ hd),rfl,_,rfl,nl,sd,ps,d2,wt,rfl,dX _ _ hn,dX _ _ hs,nd,p0,pm,λj hj H8 g8=>⟨by show 3<=sizeLine;omega,λff H9 qX g9 nX=>?_⟩⟩;exact q k _ (.inr (aw ps j)) (Hl gd hi hj hk) ff H9 (dX.free (g8.free qX)) ((dX.trans g8).trans g9) nX
abbrev vj:List Str:=["_law_script","_law_salt"]
theorem oj:a7 ["_law_script","_law_salt","_law_names","_law_sides","_law_k"] vj (aL sH):=.bw
theorem Gk(F:aP K "_law_folk" "_law_folk" sH f fd)(eU:HasFn P w K mg base 1 "_law_cell" nN (uh K))(eS:HasFn P w K mg base 1 "_law_draws" lD (mq K))(sO:HasFn P w K mg base 1 "_law_name" ve z_)(bl:Bl mg):aH P w K mg base aT 2 f fd vj (Ab K):=by
 refine F.o oj λs H hr h=>?_;obtain⟨s1,ms,z,rfl,hs,hz,q⟩:=h;refine⟨_,(ao (xt (i:=2) (x:="_law_k") (fr:=[("_law_salt",1)]) (cl:=[("_law_salt",s.heap.objs.size+1)]) rfl oj.nd rfl (Or.inl rfl) (.fk ⟨rfl,trivial⟩ ⟨⟨rfl,.inl rfl,.inl rfl,rfl⟩,trivial⟩) (eV rfl bl.dB (ae (az cN aq (az bZ (aM eU hr (ae (pv 0) (ae aq ai))) aq)) ai)) (λ_ _ _ _=>fT) (λ_ _ _ _=>(pf sO hr (by omega) rfl (ae (pv 0) (ae (pv 1) ai))))) (ao (aR 3 oj.nd kE) (ao (cK PassesOwn.never rfl (eV rfl bl.dB (ae (bY K bl (pv 2)) ai)) (aS 4 oj.nd) (au (kH (bC hr) (pv 3) (aK (iL K) (pv 2) (pv 4)) (aK (iL K) (cE (ae bH (ae bH ai))) (aK (iL K) (aM eS hr (ae (az cN (aM eU hr (ae (pv 0) (ae aq ai))) (pv 4)) (ae (cE (ae aq ai)) ai))) aq))))) (au (aN (cQ (ae (pv 2) (ae (pv 3) ai)))))))),?_⟩;have sz:(10000:Nat)<=sizeLine:=by rw[sizeLine_eq];omega
 have Nz:∀i,i<60->cw z i=cw z i:=λ_ _=>rfl;refine aX ?_;refine⟨_,rfl,s1,ms,4,rfl,hs,by decide,λc4=>⟨_,_,rfl,rfl,(by show(0:Int)<12;decide),_,_,rfl,rfl,?_⟩⟩;dsimp only;have m0:=Y7 c4 (show(12:Int)≠0 by decide);have m1:=Y4 c4 (show(0:Int)<12 by decide);obtain⟨m,em⟩:∃m:Nat,2+c4 % 12=(m:Int):=⟨(2+c4 % 12).toNat,by omega⟩;rw[em];have NA:m<=13:=by omega
 have mp:0<m:=by omega
 refine⟨(m:Int),rfl,by omega,by omega,λD hD=>lY (lo:=0) (n:=(m:Int).toNat) (λi zs H2=>ah H H2/\H2 D=some (.lst zs)/\zs=(List.range i).map λk=>V.str (cw z k)) ⟨bg hD _,aF,rfl⟩ ?_ ?_⟩
 ·rintro i zs H2 hi ⟨g2,h2,e2⟩;rw[Yp] at hi;rw[Wq];refine fG (cg ⟨_,rfl,_,rfl,i,z,rfl,by omega,hz,h2,by rw[e2,Ya,Wc];omega,λd o qd=>?_,aF,?_⟩)
  ·rw[aU (aY qd hD)];exact g2 d o qd
  ·rw[e2,Jl,Yo];rfl
 rintro zs H2 ⟨g2,h2,e2⟩;rw[Yp] at e2;subst e2;refine aJ ?_;dsimp only;refine aX ?_;refine λsd H3 n3 g3 h3=>?_;have Cn:=g2.trans g3;have kg:=g3 _ _ h2;have NB:D≠sd:=λe=>by rw[←e,h2] at n3;cases n3
 have wC:((List.range m).map λk=>V.str (cw z k)).length=m:=by rw[Ya,Wc]
 refine dk (λσ H'=>∃(ps:aZ) (o4:Option V),ah H2 H'/\H' sd=some (.dK (iA ps))/\ps.map (·.1)=(List.range m).map (cw z)/\σ=[some (.ref s1),some (.int (z:Int)),some (.ref D),some (.ref sd),o4]) (λfq cu=>?_) ?_
 ·refine⟨_,rfl,D,_,rfl,.inl (ak.of kg),_,rfl,by omega,by omega,l3 (lo:=0) (n:=((((List.range m).map λk=>V.str (cw z k)).length:Nat):Int).toNat) (λj σ H'=>∃(ps:aZ) (o4:Option V),ah H2 H'/\H' sd=some (.dK (iA ps))/\ps.map (·.1)=(List.range j).map (cw z)/\σ=[some (.ref s1),some (.int (z:Int)),some (.ref D),some (.ref sd),o4]) ⟨[],none,g3,h3,rfl,rfl⟩ ?_ ?_⟩
  ·rintro j σ H4 hj ⟨ps,o4,g4,nY,en,rfl⟩;rw[Yp,wC] at hj;rw[Wq];have pl:ps.length=j:=by have:=congrArg List.length en;rwa [Ya,Ya,Wc] at this
   refine aJ ?_;have Lj:=g4 _ _ h2;refine⟨by show 2<=sizeLine;omega,λsl H5 NC g5 Lk=>?_⟩;have gS:ak K H5 s1 (ms.map V.int):=((g2.trans g4).trans g5).seq hs;refine⟨_,rfl,s1,ms,3,rfl,gS,by decide,λc3=>⟨_,rfl,_,_,rfl,rfl,by show 1<=sizeLine;omega,λpq H6 Ll g6 Lm=>⟨_,pq,[2],rfl,ak.of Lm,by decide,by decide,λdr ds H7 ND g7 Ln bd=>?_⟩⟩⟩;obtain⟨d0,rfl,b0⟩:=Gj bd;obtain⟨sx,es⟩:∃sx:Str,c6 [V.str "man",V.str "woman"] d0=some (.str sx):=by
    have:d0=0\/d0=1:=by unfold Bd at b0;omega
    rcases this with rfl|rfl;·exact⟨_,rfl⟩
    ·exact⟨_,rfl⟩
   have wI:=(g5.trans g6).trans g7;refine⟨dr,_,_,.int d0,rfl,rfl,ak.of Ln,rfl,sl,_,_,.str sx,rfl,rfl,ak.of (g7 _ _ (g6 _ _ Lk)),es,?_⟩;refine⟨_,rfl,_,rfl,_,rfl,D,_,_,.str (cw z j),rfl,rfl,ak.of (wI _ _ Lj),jB (by rw[Ye,W1 hj];rfl),sd,_,.inr (cw z j),rfl,wI _ _ nY,rfl,by rw[Ya];omega,λH8 b8 e8=>?_⟩;have vn:aA (iA ps) (.inr (cw z j))=none:=Dq λhm=>by
    obtain⟨p,hp,e⟩:=Y6.mp hm;obtain⟨p',nW,rfl⟩:=Y6.mp hp;have mm:p'.1∈ps.map (·.1):=Y6.mpr ⟨p',nW,rfl⟩;rw[en] at mm;obtain⟨i,hi,ei⟩:=Y6.mp mm;have hi:=Wa.mp hi;have:=x4 (by omega) (by omega) (ei.trans (Y3 e));omega
   rw[oI _ vn] at e8;refine⟨ps++[(cw z j,sx)],_,λc o ec=>b8 _ _ (wI _ _ (g4 _ _ ec)) (aY ec n3),?_,?_,rfl⟩
   ·rw[e8];show _=some (HO.dK ((ps++[(cw z j,sx)]).map _));rw[Yo];rfl
   ·rw[Yo,en,Jl,Yo];rfl
  ·rintro σ H4 ⟨ps,o4,g4,nY,en,rfl⟩;rw[Yp,wC] at en;exact cu _ _ ⟨ps,o4,g4,nY,en,rfl⟩
 rintro σ H4 ⟨ps,o4,g4,nY,en,rfl⟩;have pl:ps.length=m:=by have:=congrArg List.length en;rwa [Ya,Ya,Wc] at this
 refine⟨_,rfl,_,rfl,by show 2<=sizeLine;omega,λt H5 nt g5 ht=>q t D sd ps H5 ((g2.trans g4).trans g5) ht ?_ (g5 _ _ nY) ?_ ?_ (by omega) (by omega)⟩
 ·rw[g5 _ _ (g4 _ _ h2)];have e:fQ ps=(ps.map (·.1)).map V.str:=by unfold fQ;rw[List.map_map];rfl
  rw[e,en,List.map_map];rfl
 ·rw[en,List.nodup_iff_pairwise_ne,List.pairwise_map];refine List.Pairwise.imp_of_mem (λ{a b} ha hb lt e=>?_) (List.pairwise_lt_range (n:=m));have ha:=Wa.mp ha;have hb:=Wa.mp hb;have:=x4 (by omega) (by omega) e;omega
 ·rw[en];intro h;obtain⟨k,Lo,e⟩:=Y6.mp h;have:=Wa.mp Lo;exact Fq z k (by omega) e
end
def big:Int:=10^40
inductive zi(K:ag)(vs:List V)(H:Hp)(Q:VK)(E:XK):Prop
 |mk (ca nl sd:Addr) (ps:aZ) (xs ys cs:List Int) (pl:Int) (aC:vs=[.ref ca,.ref nl,.ref sd,.int (xs.length:Int),.int pl]) (hc:H ca=some (.lst (cs.map V.int))) (hn:H nl=some (.lst (fQ ps))) (hs:H sd=some (.dK (iA ps))) (nd:(ps.map (·.1)).Nodup) (p0:0<ps.length) (pm:ps.length<=100) (gd:cO xs ys) (lc:cs.length<=63) (q:∀(fl:Addr) (R:List Rw) (H':Hp),ah H H'->RL H' fl R->(∀r∈R,gf xs ys ps r.k r.a r.o)->(R.map (·.z)).Nodup->R.length<=64->Q (.ref fl) H')
section
variable {K:ag}{mg:aG}
abbrev vk:List Str:=["_law_cells","_law_names","_law_sides","_law_size","_law_place"]
theorem iN:a7 ["_law_cells","_law_names","_law_sides","_law_size","_law_place","_law_facts","_law_cell_here","_law_drawn","_law_fact_here","_law_number_here"] vk (aL sI):=.bw
theorem Fs(F:aP K "_law_rows" "_law_rows" sI f fd)(eS:HasFn P w K mg base 1 "_law_draws" lD (mq K))(sP:HasFn P w K mg base 2 "_law_fact" vi zh)(bl:Bl mg):aH P w K mg base aT 3 f fd vk (zi K):=by
 refine F.o iN λs H hr h=>?_;obtain⟨ca,nl,sd,ps,xs,ys,cs,pl,rfl,hc,hn,hs,nd,p0,pm,gd,lc,q⟩:=h;refine⟨_,(ao (aR 5 iN.nd (cE ai)) (ao (cK PassesOwn.never rfl (dy (K:=K) rfl (pv 0)) (aS 6 iN.nd) (ao (aR 7 iN.nd (aM eS hr (ae (pv 6) (ae (cE (ae aq (ae aq (ae aq (ae aq (ae aq ai)))))) ai)))) (ao (aR 8 iN.nd (aM sP hr (ae (pv 1) (ae (pv 2) (ae (pv 7) (ae (pv 3) ai)))))) (ao (aR 9 iN.nd (az cN (az fC aq (bY K bl (pv 5))) (az bZ (aK (iL K) (pv 7) aq) aq))) (ao (bj (bx HJ (bY K bl (pv 5)) (pv 4)) (au (aR 9 iN.nd (az cN (pv 9) (az ua aq aq)))) bD) (au (aR 5 iN.nd (az oP (pv 5) (cE (ae (az FK (cQ (ae (pv 9) ai)) (pv 8)) ai)))))))))) (au (aN (pv 5))))),?_⟩;have sz:(10000:Nat)<=sizeLine:=by rw[sizeLine_eq];omega
 refine aX ?_;refine⟨by show 0<=sizeLine;omega,λf0 H1 n1 g1 h1=>?_⟩;refine dk (λσ H'=>∃(fl:Addr) (R:List Rw) (o6 o7 o8 o9:Option V),ah H H'/\RL H' fl R/\R.length<=64/\(∀r∈R,gf xs ys ps r.k r.a r.o)/\(R.map (·.z)).Nodup/\σ=[some (.ref ca),some (.ref nl),some (.ref sd),some (.int (xs.length:Int)),some (.int pl),some (.ref fl),o6,o7,o8,o9]) (λfq cu=>?_) ?_
 ·refine⟨_,rfl,ca,rfl,⟨_,ak.of (g1 _ _ hc)⟩,dt (K:=K) (a:=ca) (xs:=cs.map V.int) (λj σ H'=>∃(fl:Addr) (R:List Rw) (o6 o7 o8 o9:Option V),ah H H'/\RL H' fl R/\R.length=j/\(∀r∈R,gf xs ys ps r.k r.a r.o)/\(R.map (·.z)).Pairwise (·<·)/\(∀r∈R,r.z<3*(j:Int)+if pl<(j:Int) then big else 0)/\σ=[some (.ref ca),some (.ref nl),some (.ref sd),some (.int (xs.length:Int)),some (.int pl),some (.ref fl),o6,o7,o8,o9])
   ⟨f0,[],none,none,none,none,g1,⟨[],h1,.nil⟩,rfl,λ_ h=>(nomatch h),List.Pairwise.nil,λ_ h=>(nomatch h),rfl⟩ (λj σ H' _ ⟨_,_,_,_,_,_,g,_⟩=>ak.of (g _ _ hc)) ?_ ?_⟩
  ·rintro j v σ H2 hj ⟨fl,R,o6,o7,o8,o9,g2,⟨as,lN,bW⟩,rl,ro,pw,bd,rfl⟩;obtain⟨x,rfl,hx⟩:=mj hj;have jl:j<cs.length:=(Yi.mp hx).1;have al:=cJ bW;refine aJ ?_;refine aX ?_;refine⟨_,rfl,by show 5<=sizeLine;omega,λpp H3 np g3 hp=>⟨x,pp,[16,61,59,8,4],rfl,ak.of hp,by decide,by decide,λdr ds H4 NF g4 h4 Lp=>?_⟩⟩;obtain⟨d0,d1,d2,d3,d4,rfl,_,_,_,_,b4⟩:=F5 Lp;have fP:=(g2.trans g3).trans g4;refine aX ?_;refine⟨_,rfl,_,rfl,_,rfl,_,rfl,nl,sd,dr,ps,xs,ys,d0,d1,d2,d3,d4,rfl,fP _ _ hn,fP _ _ hs,nd,p0,pm,h4,b4,gd,λk a o ko ff H5 qX g5 nX=>?_⟩;have vm:=g5 _ _ (g4 _ _ (g3 _ _ lN));refine aX ?_;have aj:(as.map V.ref).length=j:=by rw[Ya];omega
   refine⟨_,rfl,fl,_,rfl,.inl (ak.of vm),_,_,rfl,rfl,.inl ⟨by decide,by decide⟩,_,rfl,dr,_,_,_,rfl,rfl,ak.of (g5 _ _ h4),rfl,_,_,rfl,rfl,(by show(0:Int)<3;decide),_,_,rfl,rfl,?_⟩;dsimp only;rw[aj];have r0:=Y7 d3 (show(3:Int)≠0 by decide);have r1:=Y4 d3 (show(0:Int)<3 by decide);have pb:big=10^(40:Int).toNat:=rfl;have bp:(0:Int)<big:=by decide
   refine mK (λσ H'=>ah H5 H'/\σ=[some (.ref ca),some (.ref nl),some (.ref sd),some (.int (xs.length:Int)),some (.int pl),some (.ref fl),some (.int x),some (.ref dr),some (.ref ff),some (.int (3*(j:Int)+d3 % 3+if pl<=(j:Int) then big else 0))]) (λwu fO=>?_) ?_
   ·refine⟨_,rfl,fl,_,rfl,.inl (ak.of vm),_,rfl,_,_,rfl,rfl,_,rfl,?_⟩;rw[aj];refine bR (λc=>?_) (λc=>bJ (fO _ _ ⟨ah.refl _,?_⟩))
    ·have c':pl<=(j:Int):=of_decide_eq_true c;refine⟨_,rfl,_,_,rfl,rfl,⟨by decide,by decide,by decide⟩,_,_,rfl,rfl,aJ (fO _ _ ⟨ah.refl _,?_⟩)⟩;rw[if_pos c',pb];rfl
    ·rw[if_neg (λz=>c (decide_eq_true z)),Int.add_zero];rfl
   rintro σ H6 ⟨g6,rfl⟩;obtain⟨zn,ez⟩:∃zn,zn=3*(j:Int)+d3 % 3+if pl<=(j:Int) then big else 0:=⟨_,rfl⟩;rw[←ez];refine⟨_,rfl,_,rfl,by show 1<=sizeLine;omega,λt1 H7 Lq g7 wJ=>⟨_,rfl,t1,ff,_,_,rfl,rfl,ay.of wJ,ay.of (g7 _ _ (g6 _ _ nX)),by simp,by show 1+3<=sizeLine;omega,λe=>(by cases e),λ_ t2 Lr=>?_⟩⟩;obtain⟨H8,e8⟩:∃H8,H8=upd H7 t2 (.tup ([V.int zn]++[V.str k,V.str a,kV o])):=⟨_,rfl⟩;have g8:ah H7 H8:=by rw[e8];exact bg Lr _
   have wK:pV H8 t2 ⟨zn,k,a,o⟩:=by
    show H8 t2=_;rw[e8,aF];rfl
   rw[←e8];have fM:=(g6.trans g7).trans g8;refine⟨by show 1<=sizeLine;omega,λl1 H9 Co g9 nZ=>⟨fl,l1,_,_,rfl,rfl,g9 _ _ (fM _ _ vm),nZ,by rw[aj];show _+1<=_;omega,λqY HA MY gA JF=>aJ ⟨qY,R++[⟨zn,k,a,o⟩],_,_,_,_,((fP.trans g5).trans fM).trans (g9.trans gA),⟨as++[t2],?_,?_⟩,?_,?_,?_,?_,rfl⟩⟩⟩
   ·rw[JF,Yo];rfl
   ·have Ls:=(((g3.trans g4).trans g5).trans fM).trans (g9.trans gA);exact L2.gY (L2.Paired.bM bW λ_ _ e=>Ls _ _ e) (gA _ _ (g9 _ _ wK))
   ·rw[Yj,rl];rfl
   ·intro r mr;rcases Yu.mp mr with h|h;·exact ro r h
    ·rw[Yh.mp h];exact ko
   ·rw[Yo];refine List.pairwise_append.mpr ⟨pw,by simp,λu hu v hv=>?_⟩;obtain⟨r,fm,rfl⟩:=Y6.mp hu;have ev:v=zn:=by simpa using hv
    have:=bd r fm;rw[ev,ez];by_cases c1:pl<(j:Int)
    ·rw[if_pos c1] at this;rw[if_pos (by omega)];omega
    ·rw[if_neg c1] at this;by_cases c2:pl<=(j:Int);·rw[if_pos c2];omega
     ·rw[if_neg c2];omega
   ·intro r mr;rcases Yu.mp mr with h|h
    ·have:=bd r h;by_cases c1:pl<(j:Int)
     ·rw[if_pos c1] at this;rw[if_pos (by omega)];omega
     ·rw[if_neg c1] at this;by_cases c2:pl<((j+1:Nat):Int);·rw[if_pos c2];omega
      ·rw[if_neg c2];omega
    ·rw[Yh.mp h];show zn<_;rw[ez];by_cases c2:pl<=(j:Int);·rw[if_pos c2,if_pos (by omega)];omega
     ·rw[if_neg c2,if_neg (by omega)];omega
  ·rintro σ H2 ⟨fl,R,o6,o7,o8,o9,g2,wL,rl,ro,pw,bd,rfl⟩;rw[Ya] at rl;exact cu _ _ ⟨fl,R,o6,o7,o8,o9,g2,wL,by omega,ro,by rw[List.nodup_iff_pairwise_ne];exact pw.imp λh=>by omega,rfl⟩
 rintro σ H2 ⟨fl,R,o6,o7,o8,o9,g2,wL,rl,ro,nz,rfl⟩;exact⟨_,rfl,q fl R H2 g2 wL ro nz rl⟩
end
def ef(W:List (Int×Int)):List (Int×Int):=(W.reverse).map λs=>(s.1,-s.2)
theorem Eb{α β:Type}{F:α->β->Prop}{as:List α}{bs:List β}(h:Paired F as bs):Paired F as.reverse bs.reverse:=by
 induction h with
 |nil=>exact .nil
 |cons e _ ih=>rw[Wx,Wx];exact L2.gY ih e
inductive zj(vs:List V)(H:Hp)(Q:VK)(E:XK):Prop
 |mk (wa:Addr) (W:List (Int×Int)) (aC:vs=[.ref wa]) (hw:WL H wa W) (wn:W.length<=400) (q:∀(p:Addr) (H':Hp),H p=none->ah H H'->WL H' p (ef W)->Q (.ref p) H')
def cY(R:List Rw)(nm:Str):List (Int×Int):=R.filterMap λr=>if r.a=nm then(match r.o with|.inl i=>some (r.z,i)|.inr _=>none) else none
def lO(H:Hp)(aa:List (Key×V))(R:List Rw):Prop:=∀nm,(cY R nm=[]/\aA aa (.inr nm)=none)\/∃l,aA aa (.inr nm)=some (.ref l)/\WL H l (cY R nm)
theorem lO.same{H H':Hp}{aa:List (Key×V)}{R:List Rw}(g:ah H H')(h:lO H aa R):lO H' aa R:=λnm=>(h nm).imp id λ⟨l,a1,a2⟩=>⟨l,a1,a2.same g⟩
inductive Ac(vs:List V)(H:Hp)(Q:VK)(E:XK):Prop
 |mk (sa:Addr) (aa:List (Key×V)) (R:List Rw) (nm:Str) (u:Int) (aC:vs=[.ref sa,.str nm,.int u]) (hd:H sa=some (.dK aa)) (sd:lO H aa R) (rn:R.length<=64) (yes:∀z i H',(z,i)∈cY R nm->i≠u->ah H H'->Q (.int z) H') (no:(∀z i,(z,i)∈cY R nm->i=u)->∀H',ah H H'->Q .aD H')
section
variable {K:ag}{mg:aG}
theorem CV:a7 ["walk"] ["walk"] (aL rF):=.bw
theorem CW(F:aP K "turned_round" "turned_round" rF f fd)(bl:Bl mg):aH P w K mg base aT 1 f fd ["walk"] zj:=by
 refine F.o CV λs H hr h=>?_;obtain⟨wa,W,rfl,hw,wn,q⟩:=h;refine⟨_,(au (aN (E7 (xs:=["number","way"]) (fr:=[]) (cl:=[]) rfl (.fk trivial trivial) (λ_ _ _ _=>(d7 (K:=K) (n:=2) rfl rfl (ba (jA (i:=0) (show(["number","way"]:List Str).Nodup by decide+kernel) rfl (Or.inl rfl)) (ba (jA (i:=1) (show(["number","way"]:List Str).Nodup by decide+kernel) rfl (Or.inl rfl)) d5)))) (dy (K:=K) rfl (F1 (K:=K) rfl (pv 0) (o_ oW aq))) (λ_ _ _ _=>fT) (λ_ _ _ _=>(cQ (ae (pv 0) (ae (o_ oW (pv 1)) ai))))))),?_⟩;have sz:(10000:Nat)<=sizeLine:=by rw[sizeLine_eq];omega
 obtain⟨as,ka,bW⟩:=hw;have al:=cJ bW;refine⟨_,rfl,_,rfl,wa,_,rfl,rfl,ak.of ka,λrv Lu=>?_⟩;obtain⟨HC,eC⟩:∃HC,HC=upd H rv (.lst (as.map V.ref).reverse):=⟨_,rfl⟩;have gC:ah H HC:=by rw[eC];exact bg Lu _
 have Cp:HC rv=some (.lst (as.reverse.map V.ref)):=by rw[eC,aF,List.map_reverse]
 rw[←eC];have Lv:=Eb bW;have Cq:(ef W).length=W.length:=by unfold ef;rw[Ya,Wr]
 refine⟨rv,rfl,⟨_,ak.of Cp⟩,λD hD=>D1 (K:=K) (xs:=as.reverse.map V.ref) (λi ys H2=>i<=as.length/\ah HC H2/\H2 D=some (.lst ys)/\∃bs:List Addr,ys=bs.map V.ref/\(∀b∈bs,b≠D)/\Paired (gc H2) bs ((ef W).take i)) ⟨Y2 _,bg hD _,aF,[],rfl,(λ_ h=>nomatch h),.nil⟩ (λi ys H2 _ ⟨_,g2,_⟩=>ak.of (g2 _ _ Cp)) ?_ ?_⟩
 ·rintro i v ys H2 hi ⟨il,g2,h2,bs,ey,nb,pb⟩ os vF;obtain⟨u1,u2,rfl⟩:∃u1 u2,os=[u1,u2]:=by
   match os,vF with
   |[u1,u2],_=>exact⟨u1,u2,rfl⟩
  rw[Ye] at hi;obtain⟨a,ea,rfl⟩:∃a,as.reverse[i]?=some a/\V.ref a=v:=by
   cases e:as.reverse[i]? with
   |none=>rw[e] at hi;cases hi
   |some c=>rw[e] at hi;exact⟨c,rfl,Yb hi⟩
  obtain⟨sk,es,hs⟩:=eT Lv ea;have Lw:i<as.length:=by have:=(Yi.mp ea).1;rwa [Wr] at this
  have eb:(ef W)[i]?=some (sk.1,-sk.2):=by unfold ef;rw[Ye,es];rfl
  have Lx:=cJ pb;rw[Y9,Cq] at Lx;refine⟨a,_,rfl,ay.of (g2 _ _ (gC _ _ hs)),rfl,_,_,rfl,aJ ⟨_,_,rfl,aJ ⟨rfl,⟨[some (.int sk.1),some (.int sk.2)],rfl,rfl⟩,fG (cg ?_)⟩⟩⟩;refine⟨_,rfl,_,rfl,_,rfl,by show 2<=sizeLine;omega,λt H3 nt g3 ht=>⟨g3 _ _ h2,by rw[ey,Ya];omega,Lw,λc o ec=>?_,aF,bs++[t],by rw[ey,Yo];rfl,λb mb=>?_,?_⟩⟩
  ·rw[aU (aY ec hD)];exact g3 _ _ (g2 _ _ ec)
  ·rcases Yu.mp mb with h|h;·exact nb b h
   ·rw[Yh.mp h];exact λz=>by rw[z,h2] at nt;cases nt
  ·have tD:t≠D:=λz=>by rw[z,h2] at nt;cases nt
   rw[Yq,eb];refine L2.gY ?_ (by show upd H3 D _ t=_;rw[aU tD];exact ht);have go:∀{bs:List Addr} {V':List (Int×Int)},Paired (gc H2) bs V'->(∀b∈bs,b≠D)->Paired (gc (upd H3 D (.lst (ys++[.ref t])))) bs V':=λ{bs V'} p=>by
    induction p with
    |nil=>intro _;exact .nil
    |cons e _ ih=>intro hb;exact .cons (by show upd H3 D _ _=_;rw[aU (hb _ Yv)];exact g3 _ _ e) (ih λb m=>hb b (Yx _ m))
   exact go pb nb
 ·rintro ys H2 ⟨_,g2,h2,bs,ey,nb,pb⟩;rw[Ya,Wr,al,←Cq,Y1] at pb;exact q D H2 (gC.free hD) (gC.trans g2) ⟨bs,by rw[h2,ey],pb⟩
abbrev vo:List Str:=["sayings","name","section"]
theorem sm:a7 ["sayings","name","section","number","said"] vo (aL sA):=.bw
theorem DN(F:aP K "gainsaid" "gainsaid" sA f fd)(bl:Bl mg):aH P w K mg base aT 1 f fd vo Ac:=by
 refine F.o sm λs H hr h=>?_;obtain⟨sa,aa,R,nm,u,rfl,hd,sd,rn,yes,no⟩:=h;refine⟨_,(ao (cK PassesOwn.never rfl (dy (K:=K) rfl (tI (bC hr) (pv 0) (pv 1) (cE ai) ⟨rfl,rfl,rfl,rfl⟩)) (d7 (K:=K) (n:=2) rfl rfl (ba (aS 3 sm.nd) (ba (aS 4 sm.nd) d5))) (au (bj (bx dM (pv 4) (pv 2)) (au (aN (pv 3))) bD))) (au (aN hU))),?_⟩;have sz:(10000:Nat)<=sizeLine:=by rw[sizeLine_eq];omega
 refine⟨_,rfl,sa,rfl,.inl ⟨aa,.inl hd⟩,_,rfl,by show 0<=sizeLine;omega,λe0 H1 jq g1 nR=>?_⟩;obtain⟨o,L',ws,dg,eo,hl,pl⟩:∃(o:Option V) (L':Addr) (ws:List Addr),da H1 sa (.str nm) o/\o.getD (.ref e0)=.ref L'/\H1 L'=some (.lst (ws.map V.ref))/\Paired (gc H1) ws (cY R nm):=by
  rcases sd nm with⟨es,vn⟩|⟨l,vl,ws,hl,pl⟩;·exact⟨none,e0,[],b_ (g1 _ _ hd) vn,rfl,nR,by rw[es];exact .nil⟩
  ·exact⟨_,l,ws,b_ (g1 _ _ hd) vl,rfl,g1 _ _ hl,L2.Paired.bM pl λ_ _ e=>g1 _ _ e⟩
 have wl:=cJ pl;refine⟨o,dg,L',eo,⟨_,ak.of hl⟩,dt (K:=K) (a:=L') (xs:=ws.map V.ref) (λj σ H'=>∃o3 o4:Option V,ah H1 H'/\(∀p∈(cY R nm).take j,p.2=u)/\σ=[some (.ref sa),some (.str nm),some (.int u),o3,o4]) ⟨none,none,ah.refl _,(λ_ h=>nomatch h),rfl⟩ (λj σ H' _ ⟨_,_,g,_⟩=>ak.of (g _ _ hl)) ?_ ?_⟩
 ·rintro j v σ H2 hj ⟨o3,o4,g2,al,rfl⟩;rw[Ye] at hj;obtain⟨a,ea,rfl⟩:∃a,ws[j]?=some a/\V.ref a=v:=by
   cases e:ws[j]? with
   |none=>rw[e] at hj;cases hj
   |some c=>rw[e] at hj;exact⟨c,rfl,Yb hj⟩
  obtain⟨sk,es,hs⟩:=eT pl ea;refine⟨a,_,rfl,ay.of (g2 _ _ hs),rfl,_,_,rfl,aJ ⟨_,_,rfl,aJ ⟨rfl,?_⟩⟩⟩;dsimp only;refine⟨_,rfl,_,rfl,rfl,_,rfl,?_⟩;rw[vg];by_cases c:sk.2=u
  ·rw[decide_eq_true c];refine bT (bJ ⟨_,_,g2,λp mp=>?_,rfl⟩);rw[Yq,es] at mp;rcases Yu.mp mp with h|h;·exact al p h
   ·rw[show p=sk from by simpa using h];exact c
  ·rw[decide_eq_false c];exact cg ⟨_,rfl,yes sk.1 sk.2 H2 (Yk es) c (g1.trans g2)⟩
 ·rintro σ H2 ⟨o3,o4,g2,al,rfl⟩;rw[Ya,wl,Y1] at al;exact no (λz i m=>al (z,i) m) H2 (g1.trans g2)
end
def ig{β:Type}(L:Str->List β)(x:Str)(y:β):Str->List β:=λz=>if z=x then L z++[y] else L z
def g_{β:Type}(T:Hp->Addr->β->Prop):Prop:=∀H H' e y,(∀p us,H p=some (.tup us)->H' p=some (.tup us))->T H e y->T H' e y
structure MD{β:Type}(T:Hp->Addr->β->Prop)(H0 H:Hp)(d:Addr)(b:Nat)(aa:List (Key×V))(L:Str->List β):Prop where
 dict:H d=some (.dK aa)
 len:aa.length<=b
 new:H0 d=none
 at_:∀x,(aA aa (.inr x)=none/\L x=[])\/∃(a:Addr) (es:List Addr),aA aa (.inr x)=some (.ref a)/\H0 a=none/\H a=some (.lst (es.map V.ref))/\(L x).length<=b/\Paired (T H) es (L x)
 inj:∀x y a,aA aa (.inr x)=some (.ref a)->aA aa (.inr y)=some (.ref a)->x=y
section
variable {β:Type}{T:Hp->Addr->β->Prop}{H0 H Hb H':Hp}{d a e p:Addr}{b:Nat}{aa:List (Key×V)}{L:Str->List β}{x:Str}{y:β}
theorem MD.same(tm:g_ T)(g:ah H H')(h:MD T H0 H d b aa L):MD T H0 H' d b aa L:=by
 refine⟨g _ _ h.dict,h.len,h.new,λx=>?_,h.inj⟩;rcases h.at_ x with z|⟨a,es,h1,h2,h3,h4,h5⟩;·exact .inl z
 ·exact .inr ⟨a,es,h1,h2,g _ _ h3,h4,L2.Paired.bM h5 λ_ _ t=>tm _ _ _ _ (λ_ _ e=>g _ _ e) t⟩
theorem MD.app{ys:List V}(tm:g_ T)(h:MD T H0 H d b aa L)(hv:aA aa (.inr x)=some (.ref a))(ha:H a=some (.lst ys))(he:T H e y)(br:cB a H H')(wc:H' a=some (.lst (ys++[.ref e]))):MD T H0 H' d (b+1) aa (ig L x y):=by
 have nt:∀p us,H p=some (.tup us)->H' p=some (.tup us):=λc us hc=>br _ _ hc (cv hc ha (λz=>by cases z));refine⟨br _ _ h.dict (cv h.dict ha (λz=>by cases z)),by have:=h.len;omega,h.new,λz=>?_,h.inj⟩;have en:∀{es:List Addr} {qs:List β},Paired (T H) es qs->Paired (T H') es qs:=λhp=>L2.Paired.bM hp λ_ _ t=>tm _ _ _ _ nt t;by_cases ez:z=x
 ·subst ez;rcases h.at_ z with⟨z1,_⟩|⟨a1,es,h1,h2,h3,h4,h5⟩;·rw[z1] at hv;cases hv
  ·obtain rfl:a1=a:=V.ref.inj (Yb (h1.symm.trans hv));rw[h3] at ha;obtain rfl:es.map V.ref=ys:=by injection ha with ha;injection ha
   refine .inr ⟨a1,es++[e],h1,h2,by rw[wc,Yo];rfl,?_,?_⟩;·unfold ig;rw[if_pos rfl,Yj];show(L z).length+1<=b+1;omega
   ·unfold ig;rw[if_pos rfl];exact L2.gY (en h5) (tm _ _ _ _ nt he)
 ·unfold ig;rw[if_neg ez];rcases h.at_ z with z1|⟨a1,es,h1,h2,h3,h4,h5⟩;·exact .inl z1
  ·refine .inr ⟨a1,es,h1,h2,br _ _ h3 (λq=>ez (h.inj z x a (by rw[←q];exact h1) hv)),by omega,en h5⟩
theorem MD.wd(tm:g_ T)(hb:MD T H0 Hb d b aa L)(g:ah Hb H)(np:Hb p=none)(iB:H0 p=none)(hv:aA aa (.inr x)=none)(hp:H p=some (.lst []))(br:cB d H H')(lp:H' d=some (.dK (aa++[(.inr x,.ref p)]))):MD T H0 H' d (b+1) (aa++[(.inr x,.ref p)]) L:=by
 have h:=hb.same tm g;have nt:∀p us,H p=some (.tup us)->H' p=some (.tup us):=λc us hc=>br _ _ hc (cv hc h.dict (λz=>by cases z));have nl:∀{c:Addr} {xs:List V},H c=some (.lst xs)->c≠d:=λ{c xs} hc=>cv hc h.dict (λz=>by cases z);refine⟨lp,by rw[Yj];have:=h.len;show aa.length+1<=b+1;omega,h.new,λz=>?_,λz1 z2 a e1 e2=>?_⟩
 ·rw[gZ hv];by_cases ez:z=x
  ·rw[if_pos (by rw[ez])];rcases h.at_ z with⟨_,z2⟩|⟨a1,es,h1,_⟩;·exact .inr ⟨p,[],rfl,iB,br _ _ hp (nl hp),by rw[z2];exact Y2 _,by rw[z2];exact .nil⟩
   ·rw[ez,hv] at h1;cases h1
  ·rw[if_neg (λq=>ez (Y3 q))];rcases h.at_ z with z1|⟨a1,es,h1,h2,h3,h4,h5⟩;·exact .inl z1
   ·exact .inr ⟨a1,es,h1,h2,br _ _ h3 (nl h3),by omega,L2.Paired.bM h5 λ_ _ t=>tm _ _ _ _ nt t⟩
 ·have old:∀{z:Str},aA aa (.inr z)=some (.ref p)->False:=λ{z} e=>by
   rcases hb.at_ z with⟨z1,_⟩|⟨a1,es,h1,h2,h3,_⟩;·rw[z1] at e;cases e
   ·rw[e] at h1;obtain rfl:p=a1:=V.ref.inj (Yb h1);rw[np] at h3;cases h3
  rw[gZ hv] at e1 e2;by_cases q1:z1=x
  ·by_cases q2:z2=x;·rw[q1,q2]
   ·rw[if_pos (by rw[q1])] at e1;rw[if_neg (λq=>q2 (Y3 q)),←e1] at e2;exact absurd e2 old
  ·rw[if_neg (λq=>q1 (Y3 q))] at e1;by_cases q2:z2=x
   ·rw[if_pos (by rw[q2])] at e2;rw[←e2] at e1;exact absurd e1 old
   ·rw[if_neg (λq=>q2 (Y3 q))] at e2;exact h.inj _ _ a e1 e2
theorem MD.up{b':Nat}(h:MD T H0 H d b aa L)(l:b<=b'):MD T H0 H d b' aa L:=
 ⟨h.dict,Y5 h.len l,h.new,λz=>(h.at_ z).imp id λ⟨a,es,w1,w2,w3,w4,w5⟩=>⟨a,es,w1,w2,w3,Y5 w4 l,w5⟩,h.inj⟩
theorem zk{K:ag}{td ti tx:TE}{σ:St}{Q:VK}(tm:g_ T)(h2:∀H Q,Q (.ref d) H->td σ H Q)(hi:∀H Q,Q (.str x) H->ti σ H Q)(h:MD T H0 H d b aa L)(g:ah H0 H)(lb:b<1000)
  (hx:∀(H1:Hp) (Q1:VK),ah H0 H1->(∀(e:Addr) (H2:Hp),ah H1 H2->T H2 e y->Q1 (.ref e) H2)->tx σ H1 Q1)(q:∀(v:V) (u5:List (Key×V)) (H':Hp),ah H0 H'->MD T H0 H' d (b+2) u5 (ig L x y)->Q v H'):j2 K "list" tJ (l_ td ti (uH dN)) (cR tx dN) σ H Q:=by
 have sz:(10000:Nat)<=sizeLine:=by rw[sizeLine_eq];omega
 have ln:=h.len;unfold j2 l_;refine h2 _ _ ⟨d,rfl,.inl ⟨_,.inl h.dict⟩,hi _ _ ⟨by show 0<=sizeLine;exact Y2 _,λp H1 np g1 hp=>⟨aa,.inr x,g1 _ _ h.dict,rfl,by omega,λv hv=>?_,λhv H2 b2 e2=>?_⟩⟩⟩
 ·rcases h.at_ x with⟨z1,_⟩|⟨a,es,h3,h4,h5,h6,h7⟩;·rw[z1] at hv;cases hv
  obtain rfl:v=.ref a:=Yb (hv.symm.trans h3);have pl:=cJ h7;refine⟨.inl ⟨rfl,_,ak.of (g1 _ _ h5)⟩,?_⟩;unfold cR;refine hx _ _ (g.trans g1) λe H2 Ly he=>?_;have iy:=g1.trans Ly;refine⟨a,_,_,rfl,rfl,iy _ _ h5,by rw[Ya];omega,λH4 b4 e4=>?_⟩;exact q _ _ H4 (λc o ec=>b4 _ _ (iy _ _ (g _ _ ec)) (aY ec h4)) (((h.same tm iy).app tm h3 (iy _ _ h5) he b4 e4).up (by omega))
 ·have iB:=g.free np;have fh:=b2 _ _ hp (cv hp (g1 _ _ h.dict) (λz=>by cases z));have gg:ah H0 H2:=λc o ec=>b2 _ _ (g1 _ _ (g _ _ ec)) (aY ec h.new);refine⟨.inl ⟨rfl,_,ak.of fh⟩,?_⟩;unfold cR;refine hx _ _ gg λe H3 g3 he=>?_;refine⟨p,_,_,rfl,rfl,g3 _ _ fh,by show 0<sizeLine;omega,λH5 b5 e5=>?_⟩;have vx:aA (aa++[(Sum.inr x,V.ref p)]) (.inr x)=some (.ref p):=by rw[gZ hv,if_pos rfl]
  exact q _ _ H5 (λc o ec=>b5 _ _ (g3 _ _ (gg _ _ ec)) (aY ec iB)) (((h.wd tm g1 np iB hv hp b2 e2).same tm g3).app tm vx (g3 _ _ fh) he b5 e5)
end
theorem Gm:g_ gc:=λ_ _ _ _ g t=>g _ _ t
inductive Ad(vs:List V)(H:Hp)(Q:VK)(E:XK):Prop
 |mk (fa:Addr) (xs ys:List Int) (R:List Rw) (aC:vs=[.ref fa]) (rl:RL H fa R) (ro:∀r∈R,de xs ys r) (rn:R.length<=64) (q:∀(p:Addr) (aa:List (Key×V)) (H':Hp),H p=none->ah H H'->H' p=some (.dK aa)->lO H' aa R->Q (.ref p) H')
theorem MD.nil{β:Type}{T:Hp->Addr->β->Prop}{H0 H:Hp}{d:Addr}{L:Str->List β}(hd:H d=some (.dK []))(nd:H0 d=none)(hl:∀x,L x=[]):MD T H0 H d 0 [] L:=
 ⟨hd,Yd _,nd,λx=>.inl ⟨rfl,hl x⟩,λ_ _ _ e=>nomatch e⟩
theorem EH{A:List Rw}{r:Rw}{i:Int}(oi:r.o=.inl i):cY (A++[r])=ig (cY A) r.a (r.z,i):=by
 funext x
 unfold cY ig;rw[List.filterMap_append,Wd,List.filterMap_nil,oi];by_cases e:r.a=x;·rw[if_pos e,if_pos e.symm]
 ·rw[if_neg e,if_neg (λz=>e z.symm),Yy]
theorem Ft{A:List Rw}{r:Rw}{b:Str}(oi:r.o=.inr b):cY (A++[r])=cY A:=by
 funext x
 unfold cY;rw[List.filterMap_append,Wd,List.filterMap_nil,oi];by_cases e:r.a=x;·rw[if_pos e,Yy]
 ·rw[if_neg e,Yy]
section
variable {K:ag}{mg:aG}
theorem kj:a7 ["kept","sayings","number","kind","one","other"] ["kept"] (aL rA):=.bw
theorem Ec(F:aP K "sayings_about" "sayings_about" rA f fd){t1:Tok}(uu:mg "SAID"=some (.str "said" t1))(bl:Bl mg):aH P w K mg base aT 1 f fd ["kept"] Ad:=by
 refine F.o kj λs H hr h=>?_;obtain⟨fa,xs,ys,R,rfl,rl,ro,rn,q⟩:=h;refine⟨_,(ao (aR 1 kj.nd kE) (ao (cK PassesOwn.never rfl (dy (K:=K) rfl (pv 0)) (d7 (K:=K) (n:=4) rfl rfl (ba (aS 2 kj.nd) (ba (aS 3 kj.nd) (ba (aS 4 kj.nd) (ba (aS 5 kj.nd) d5))))) (au (bj (bx dJ (pv 3) (hE (v:=.str "said") rfl uu ⟨_,rfl⟩)) (au (dz (jC (K:=K) rfl (fY plainAttrs_list PySem.F.slot_list_append PySem.F.type_list_append jw (oq (pv 1) (pv 4) (cE ai) ⟨rfl,rfl,rfl,rfl⟩) (ae (cQ (ae (pv 2) (ae (pv 5) ai))) ai))))) bD))) (au (aN (pv 1))))),?_⟩;have sz:(10000:Nat)<=sizeLine:=by rw[sizeLine_eq];omega
 refine aX ?_;refine λd H1 nd g1 hd=>?_;obtain⟨as,c7,bW⟩:=rl;have al:=cJ bW;refine dk (λσ H6=>∃(aa:List (Key×V)) (o1 o2 o3 o4:Option V),ah H H6/\MD gc H H6 d (2*R.length) aa (cY R)/\σ=[some (.ref fa),some (.ref d),o1,o2,o3,o4]) (λfq cu=>?_) ?_
 ·refine⟨_,rfl,fa,rfl,⟨_,ak.of (g1 _ _ c7)⟩,dt (K:=K) (a:=fa) (xs:=as.map V.ref) (λj σ H6=>∃(aa:List (Key×V)) (o1 o2 o3 o4:Option V),ah H H6/\MD gc H H6 d (2*j) aa (cY (R.take j))/\σ=[some (.ref fa),some (.ref d),o1,o2,o3,o4])
   ⟨[],none,none,none,none,g1,MD.nil hd nd (λ_=>rfl),rfl⟩
   (λj σ H6 _ ⟨_,_,_,_,_,g,_⟩=>ak.of (g _ _ c7)) ?_ ?_⟩
  ·rintro j v σ H6 hj ⟨aa,o1,o2,o3,o4,g,md,rfl⟩;rw[Ye] at hj;obtain⟨c0,ec,rfl⟩:∃c0,as[j]?=some c0/\V.ref c0=v:=by
    cases e:as[j]? with
    |none=>rw[e] at hj;cases hj
    |some c=>rw[e] at hj;exact⟨c,rfl,Yb hj⟩
   obtain⟨r,er,hc⟩:=eT bW ec;have jl:j<R.length:=(Yi.mp er).1;have tk:R.take (j+1)=R.take j++[r]:=by rw[Yq,er];rfl
   refine⟨c0,_,rfl,ay.of (g _ _ hc),rfl,_,_,rfl,aJ ⟨_,_,rfl,aJ ⟨_,_,rfl,aJ ⟨_,_,rfl,aJ ⟨rfl,?_⟩⟩⟩⟩⟩;refine⟨_,rfl,rfl,_,rfl,?_⟩;rcases ro r (Yk er) with⟨ks,i,oi⟩|⟨tn,b,hk,ob⟩
   ·rw[ks,decide_eq_true (show V.str bb=V.str "said" from rfl)];refine cg ?_;refine zk (T:=gc) (y:=(r.z,i)) Gm (λ_ _ h=>⟨_,rfl,h⟩) (λ_ _ h=>⟨_,rfl,h⟩) md g (by omega) (λH2 Q2 g2 k2=>?_) λv3 nc H3 g3 n3=>?_;·refine⟨_,rfl,_,rfl,by show 2<=sizeLine;omega,λt H3 nt g3 ht=>k2 t H3 g3 (by rw[oi] at ht;exact ht)⟩
    ·refine⟨nc,_,_,_,_,g3,?_,rfl⟩;rw[tk,EH oi];exact n3
   ·rw[decide_eq_false (λz=>lZ (by rw[show bb=r.k from(V.str.inj z).symm];exact hk))];refine bT (bJ ⟨aa,_,_,_,_,g,?_,rfl⟩);rw[tk,Ft ob];exact md.up (by omega)
  ·rintro σ H6 ⟨aa,o1,o2,o3,o4,g,md,rfl⟩;rw[Ya,al,Y1] at md;exact cu _ _ ⟨aa,o1,o2,o3,o4,g,md,rfl⟩
 rintro σ H6 ⟨aa,o1,o2,o3,o4,g,md,rfl⟩;refine⟨_,rfl,q d aa H6 nd g md.dict λnm=>?_⟩;rcases md.at_ nm with⟨h1,h2⟩|⟨a,es,h1,_,h3,_,h5⟩;·exact .inl ⟨h2,h1⟩
 ·exact .inr ⟨a,h1,es,h3,h5⟩
end
structure Ed where
 s:Str
 g:Str
 z:Int
 w:Int
 tn:List Int
def eO(xs ys:List Int)(r:Rw)(b:Str)(w:Int):Ed:=⟨if w=1 then r.a else b,if w=1 then b else r.a,r.z,w,if w=1 then cz xs ys r.k else inv (cz xs ys r.k)⟩
def eY(xs ys:List Int)(r:Rw):List Ed:=match r.o with
 |.inl _=>[]
 |.inr b=>[eO xs ys r b 1,eO xs ys r b (-1)]
def ck(xs ys:List Int)(R:List Rw):List Ed:=R.flatMap (eY xs ys)
def k9(xs ys:List Int)(H:Hp)(p:Addr)(e:Ed):Prop:=∃lt:Str,H p=some (.tup [.str e.s,.str lt,.str e.g,.int e.z,.int e.w])/\(lt,e.tn)∈iZ xs ys
theorem zm{xs ys:List Int}:g_ (k9 xs ys):=λ_ _ _ _ g ⟨lt,h1,h2⟩=>⟨lt,g _ _ h1,h2⟩
structure gh{β:Type}(T:Hp->Addr->β->Prop)(H0 H:Hp)(d:Addr)(L:List β):Prop where
 new:H0 d=none
 same:ah H0 H
 pr:∃es:List Addr,H d=some (.lst (es.map V.ref))/\Paired (T H) es L
theorem gh.app{β:Type}{T:Hp->Addr->β->Prop}{H0 H H1 H2:Hp}{d e:Addr}{L:List β}{y:β}(tm:g_ T)(h:gh T H0 H d L)(g:ah H H1)(t:T H1 e y)(b:cB d H1 H2)(es:List Addr)(hd:H d=some (.lst (es.map V.ref)))(h2:H2 d=some (.lst (es.map V.ref++[.ref e]))):gh T H0 H2 d (L++[y]):=by
 obtain⟨eh,e1,p1⟩:=h.pr;have nt:∀p us,H1 p=some (.tup us)->H2 p=some (.tup us):=λc us hc=>b _ _ hc (cv hc (g _ _ e1) (λz=>by cases z));have ee:eh=es:=by
  rw[hd] at e1;injection e1 with e1;injection e1 with e1;exact(List.map_inj_right (λ_ _ z=>V.ref.inj z)).mp e1.symm
 subst ee;refine⟨h.new,λc o ec=>b _ _ (g _ _ (h.same _ _ ec)) (aY ec h.new),eh++[e],by rw[h2,Yo];rfl,L2.gY (L2.Paired.bM p1 λ_ _ q=>tm _ _ _ _ nt (tm _ _ _ _ (λ_ _ z=>g _ _ z) q)) (tm _ _ _ _ nt t)⟩
theorem gh.to{β:Type}{T:Hp->Addr->β->Prop}{H0 H H1:Hp}{d:Addr}{L:List β}(tm:g_ T)(h:gh T H0 H d L)(g:ah H H1):gh T H0 H1 d L:=by
 obtain⟨es,e1,p1⟩:=h.pr;exact⟨h.new,h.same.trans g,es,g _ _ e1,L2.Paired.bM p1 λ_ _ q=>tm _ _ _ _ (λ_ _ z=>g _ _ z) q⟩
inductive xH(vs:List V)(H:Hp)(Q:VK)(E:XK):Prop
 |mk (fa:Addr) (xs ys:List Int) (R:List Rw) (aC:vs=[.ref fa]) (gd:cO xs ys) (rl:RL H fa R) (ro:∀r∈R,de xs ys r) (rn:R.length<=64) (q:∀(p:Addr) (H':Hp),gh (k9 xs ys) H H' p (ck xs ys R)->Q (.ref p) H')
section
variable {K:ag}{mg:aG}
theorem oK{xs ys:List Int}:∀R:List Rw,(ck xs ys R).length<=2*R.length
 |[]=>Yd _
 |r::R=>by
  have ih:=oK (xs:=xs) (ys:=ys) R;show(eY xs ys r++ck xs ys R).length<=_;rw[Yj,Wg];have:(eY xs ys r).length<=2:=by
   unfold eY;cases r.o with
   |inl i=>exact Y2 _
   |inr b=>exact Yd _
  omega
theorem jv:a7 ["kept","steps","fact","way","start","letter","goal"] ["kept"] (aL r8):=.bw
theorem Dr(F:aP K "tie_steps" "tie_steps" r8 f fd){t1 t2:Tok}(kN:mg "FORTH"=some (.int 1 t1))(uv:mg "BACK"=some (.int (-1) t2))(tN:HasFn P w K mg base 1 "is_tie" ["kind"] zc)(sQ:HasFn P w K mg base 1 "tie_step" ["fact","way"] x5)(bl:Bl mg):aH P w K mg base aT 2 f fd ["kept"] xH:=by
 refine F.o jv λs H hr h=>?_;obtain⟨fa,xs,ys,R,rfl,gd,rl,ro,rn,q⟩:=h;refine⟨_,(ao (aR 1 jv.nd (cE ai)) (ao (cK PassesOwn.never rfl (dy (K:=K) rfl (pv 0)) (aS 2 jv.nd) (au (bj (fB (aM tN hr (ae (aK (iT K) (pv 2) aq) ai))) (au (cK PassesOwn.never rfl (t9 (cQ (ae (hE (v:=.int (1)) rfl kN ⟨_,rfl⟩) (ae (hE (v:=.int (-1)) rfl uv ⟨_,rfl⟩) ai)))) (aS 3 jv.nd) (ao (oV (aM sQ hr (ae (pv 2) (ae (pv 3) ai))) (d7 (K:=K) (n:=3) rfl rfl (ba (aS 4 jv.nd) (ba (aS 5 jv.nd) (ba (aS 6 jv.nd) d5))))) (au (dz (jC (K:=K) rfl (fY plainAttrs_list PySem.F.slot_list_append PySem.F.type_list_append jw (pv 1) (ae (cQ (ae (pv 4) (ae (pv 5) (ae (pv 6) (ae (aK (iT K) (pv 2) aq) (ae (pv 3) ai)))))) ai)))))))) bD))) (au (aN (pv 1))))),?_⟩;have sz:(10000:Nat)<=sizeLine:=by rw[sizeLine_eq];omega
 refine aX ?_;refine⟨by show 0<=sizeLine;omega,λd H1 nd g1 hd=>?_⟩;obtain⟨as,c7,bW⟩:=rl;have al:=cJ bW;refine dk (λσ H6=>∃(o1 o2 o3 o4 o5:Option V),gh (k9 xs ys) H H6 d (ck xs ys R)/\σ=[some (.ref fa),some (.ref d),o1,o2,o3,o4,o5]) (λfq cu=>?_) ?_
 ·refine⟨_,rfl,fa,rfl,⟨_,ak.of (g1 _ _ c7)⟩,dt (K:=K) (a:=fa) (xs:=as.map V.ref) (λj σ H6=>∃(o1 o2 o3 o4 o5:Option V),gh (k9 xs ys) H H6 d (ck xs ys (R.take j))/\σ=[some (.ref fa),some (.ref d),o1,o2,o3,o4,o5])
   ⟨none,none,none,none,none,⟨nd,g1,[],hd,.nil⟩,rfl⟩
   (λj σ H6 _ ⟨_,_,_,_,_,g,_⟩=>ak.of (g.same _ _ c7)) ?_ ?_⟩
  ·rintro j v σ H6 hj ⟨o1,o2,o3,o4,o5,g,rfl⟩;rw[Ye] at hj;obtain⟨c0,ec,rfl⟩:∃c0,as[j]?=some c0/\V.ref c0=v:=by
    cases e:as[j]? with
    |none=>rw[e] at hj;cases hj
    |some c=>rw[e] at hj;exact⟨c,rfl,Yb hj⟩
   obtain⟨r,er,hc⟩:=eT bW ec;have jl:j<R.length:=(Yi.mp er).1;have tk:ck xs ys (R.take (j+1))=ck xs ys (R.take j)++eY xs ys r:=by
    rw[Yq,er];unfold ck;rw[List.flatMap_append]
    congr 1
    exact Yy _
   refine aJ ?_;refine⟨_,rfl,c0,_,_,_,rfl,rfl,ay.of (g.same _ _ hc),rfl,_,rfl,?_⟩;rcases ro r (Yk er) with⟨ks,i,oi⟩|⟨tn,b,hk,ob⟩
   ·rw[ks,show ic ie bb=false from by decide+kernel];refine⟨_,rfl,bT (bJ ?_)⟩;refine⟨_,_,_,_,_,?_,rfl⟩;rw[tk];unfold eY;rw[oi,Yy];exact g
   ·rw[Gg hk];refine⟨_,rfl,cg ?_⟩;have eo:eY xs ys r=[eO xs ys r b 1,eO xs ys r b (-1)]:=by unfold eY;rw[ob]
    refine⟨by show 2<=sizeLine;omega,λtp H7 Lg g7 qU=>⟨tp,rfl,⟨_,ay.of qU⟩,FC (K:=K) (a:=tp) (xs:=[.int 1,.int (-1)]) (λi σ H'=>∃(o2 o3 o4 o5:Option V),H' tp=some (.tup [.int 1,.int (-1)])/\gh (k9 xs ys) H H' d (ck xs ys (R.take j)++(eY xs ys r).take i)/\σ=[some (.ref fa),some (.ref d),some (.ref c0),o2,o3,o4,o5]) ⟨_,_,_,_,qU,?_,rfl⟩ (λi σ H' _ ⟨_,_,_,_,h,_⟩=>ay.of h) ?_ ?_⟩⟩
    ·rw[List.take_zero,Yy];exact g.to zm g7
    ·rintro i v σ H8 hi ⟨o2,o3,o4,o5,qW,g8,rfl⟩;obtain⟨w,rfl,ew⟩:∃w:Int,v=.int w/\(eY xs ys r)[i]?=some (eO xs ys r b w):=by
      rw[eo];match i,hi with
      |0,hi=>exact⟨1,(Yb hi).symm,rfl⟩
      |1,hi=>exact⟨-1,(Yb hi).symm,rfl⟩
     obtain⟨es,nK,qP⟩:=id g8.pr;have el:es.length<=200:=by
      rw[cJ qP,Yj,eo];have:=oK (xs:=xs) (ys:=ys) (R.take j);have:=List.length_take_le j R;have:([eO xs ys r b 1,eO xs ys r b (-1)].take i).length<=2:=List.length_take_le' i _;omega
     refine aJ ?_;refine⟨_,rfl,_,rfl,c0,r,w,xs,ys,tn,b,rfl,g8.same _ _ hc,gd,hk,ob,λt lt H9 nt g9 ht hs=>⟨t,_,rfl,ay.of ht,rfl,_,_,rfl,aJ ⟨_,_,rfl,aJ ⟨_,_,rfl,aJ ⟨rfl,?_⟩⟩⟩⟩⟩;refine⟨_,rfl,.inl ⟨rfl,_,ak.of (g9 _ _ nK)⟩,?_⟩;refine⟨_,rfl,_,rfl,_,rfl,_,rfl,c0,_,_,_,rfl,rfl,ay.of (g9 _ _ (g8.same _ _ hc)),rfl,_,rfl,by show 5<=sizeLine;omega,λe HA ne gA he=>?_⟩;refine⟨d,_,_,rfl,rfl,gA _ _ (g9 _ _ nK),by rw[Ya];omega,λHB bB eB=>?_⟩;refine⟨_,_,_,_,bB _ _ (gA _ _ (g9 _ _ qW)) (cv qW nK (λz=>by cases z)),?_,rfl⟩;rw[Yq,ew,←Wy];refine g8.app zm (g9.trans gA) ⟨lt,he,?_⟩ bB es nK eB;show(lt,if w=1 then cz xs ys r.k else inv (cz xs ys r.k))∈_;rw[kL hk];exact hs
    ·rintro σ H8 ⟨o2,o3,o4,o5,_,g8,rfl⟩;refine⟨_,_,_,_,_,?_,rfl⟩;rw[tk];rw[eo] at g8⊢;exact g8
  ·rintro σ H6 ⟨o1,o2,o3,o4,o5,g,rfl⟩;rw[Ya,al,Y1] at g;exact cu _ _ ⟨o1,o2,o3,o4,o5,g,rfl⟩
 rintro σ H6 ⟨o1,o2,o3,o4,o5,g,rfl⟩;exact⟨_,rfl,q d H6 g⟩
end
def lP(H:Hp)(p:Addr)(e:Ed):Prop:=∃u:Addr,H p=some (.tup [.int e.z,.int e.w,.str e.g,.ref u])/\aV H u e.tn
theorem mU:g_ lP:=λ_ _ _ _ g ⟨u,h1,h2⟩=>⟨u,g _ _ h1,g _ _ h2⟩
def fZ(E:List Ed)(nm:Str):List Ed:=E.filter λe=>decide (e.s=nm)
theorem Ee{E:List Ed}{e:Ed}:fZ (E++[e])=ig (fZ E) e.s e:=by
 funext x
 unfold fZ ig;rw[Wl,List.filter_cons,List.filter_nil];by_cases h:e.s=x;·rw[decide_eq_true h,if_pos rfl,if_pos h.symm]
 ·rw[decide_eq_false h,if_neg (λz=>by cases z),if_neg (λz=>h z.symm),Yy]
def lQ(H:Hp)(aa:List (Key×V))(E:List Ed):Prop:=∀nm,(fZ E nm=[]/\aA aa (.inr nm)=none)\/∃l,aA aa (.inr nm)=some (.ref l)/\∃es:List Addr,H l=some (.lst (es.map V.ref))/\Paired (lP H) es (fZ E nm)
theorem lQ.same{H H':Hp}{aa:List (Key×V)}{E:List Ed}(g:ah H H')(h:lQ H aa E):lQ H' aa E:=λnm=>(h nm).imp id λ⟨l,a1,es,a2,a3⟩=>⟨l,a1,es,g _ _ a2,L2.Paired.bM a3 λ_ _ t=>mU _ _ _ _ (λ_ _ z=>g _ _ z) t⟩
inductive Ae(CL:Addr)(vs:List V)(H:Hp)(Q:VK)(E:XK):Prop
 |mk (L fa:Addr) (xs ys:List Int) (R:List Rw) (aC:vs=[.ref L,.ref fa]) (la:iY H CL L xs ys) (gd:cO xs ys) (rl:RL H fa R) (ro:∀r∈R,de xs ys r) (rn:R.length<=64) (q:∀(p:Addr) (aa:List (Key×V)) (H':Hp),H p=none->ah H H'->H' p=some (.dK aa)->lQ H' aa (ck xs ys R)->Q (.ref p) H')
section
variable {K:ag}{mg:aG}
theorem jt:a7 ["land","kept","steps","start","letter","goal","number","way"] ["land","kept"] (aL rS):=.bw
theorem Dc(F:aP K "steps_from" "steps_from" rS f fd)(lc:mV K CL)(sq:HasFn P w K mg base 2 "tie_steps" ["kept"] xH)(sr:uG P w K mg base 1 "step" CL qH (z4 CL))(bl:Bl mg):aH P w K mg base aT 3 f fd ["land","kept"] (Ae CL):=by
 refine F.o jt λs H hr h=>?_;obtain⟨L,fa,xs,ys,R,rfl,la,gd,rl,ro,rn,q⟩:=h;refine⟨_,(ao (aR 2 jt.nd kE) (ao (cK PassesOwn.never rfl (dy (K:=K) rfl (aM sq hr (ae (pv 1) ai))) (d7 (K:=K) (n:=5) rfl rfl (ba (aS 3 jt.nd) (ba (aS 4 jt.nd) (ba (aS 5 jt.nd) (ba (aS 6 jt.nd) (ba (aS 7 jt.nd) d5)))))) (au (dz (jC (K:=K) rfl (fY plainAttrs_list PySem.F.slot_list_append PySem.F.type_list_append jw (oq (pv 2) (pv 3) (cE ai) ⟨rfl,rfl,rfl,rfl⟩) (ae (cQ (ae (pv 6) (ae (pv 7) (ae (pv 5) (ae (Ie sr hr (by omega) (pv 0) (ae (pv 4) ai)) ai))))) ai)))))) (au (aN (pv 2))))),?_⟩;have sz:(10000:Nat)<=sizeLine:=by rw[sizeLine_eq];omega
 obtain⟨dx,d0,mo,jn,wi,im,jf,iw,Lz,h1,_⟩:=id la;refine aX ?_;refine λd H1 nd g1 hd=>?_;obtain⟨E0,eE⟩:∃E0,E0=ck xs ys R:=⟨_,rfl⟩;have en:E0.length<=128:=by have:=oK (xs:=xs) (ys:=ys) R;rw[←eE] at this;omega
 rw[←eE] at q;refine dk (λσ H6=>∃(aa:List (Key×V)) (o1 o2 o3 o4 o5:Option V),ah H H6/\H6 d=some (.dK aa)/\lQ H6 aa E0/\σ=[some (.ref L),some (.ref fa),some (.ref d),o1,o2,o3,o4,o5]) (λfq cu=>?_) ?_
 ·refine⟨_,rfl,fa,xs,ys,R,rfl,gd,rl.same g1,ro,rn,λsa H2 gr=>?_⟩;rw[←eE] at gr;have g2:=gr.same;obtain⟨as,wM,bW⟩:=gr.pr;have al:=cJ bW;have c9:=g1.trans g2;have hd2:=g2 _ _ hd;obtain⟨HB,eB⟩:∃HB:Hp,HB=λp=>if p=d then none else H2 p:=⟨_,rfl⟩;have hB:∀p o,H2 p=some o->p≠d->HB p=some o:=λp o e n=>by rw[eB];show(if p=d then none else H2 p)=_;rw[if_neg n];exact e
  have nB:HB d=none:=by rw[eB];exact if_pos rfl
  have gB:ah H HB:=λp o e=>hB p o (c9 _ _ e) (aY e nd);have LA:ah HB H2:=λp o e=>by
   by_cases z:p=d;·rw[z,nB] at e;cases e
   ·rw[eB] at e;exact(if_neg z:(if p=d then none else H2 p)=H2 p).symm.trans e
  have LB:=hB _ _ wM (cv wM hd2 (λz=>by cases z));have LC:Paired (k9 xs ys HB) as E0:=L2.Paired.bM bW λ_ _ ⟨lt,x1,x2⟩=>⟨lt,hB _ _ x1 (cv x1 hd2 (λz=>by cases z)),x2⟩;refine⟨sa,rfl,⟨_,ak.of wM⟩,dt (K:=K) (a:=sa) (xs:=as.map V.ref) (λj σ H6=>∃(aa:List (Key×V)) (o1 o2 o3 o4 o5:Option V),ah HB H6/\MD lP HB H6 d (2*j) aa (fZ (E0.take j))/\σ=[some (.ref L),some (.ref fa),some (.ref d),o1,o2,o3,o4,o5])
   ⟨[],none,none,none,none,none,LA,MD.nil hd2 nB (λ_=>rfl),rfl⟩
   (λj σ H6 _ ⟨_,_,_,_,_,_,g,_⟩=>ak.of (g _ _ LB)) ?_ ?_⟩
  ·rintro j v σ H6 hj ⟨aa,o1,o2,o3,o4,o5,g,md,rfl⟩;rw[Ye] at hj;obtain⟨c0,ec,rfl⟩:∃c0,as[j]?=some c0/\V.ref c0=v:=by
    cases e:as[j]? with
    |none=>rw[e] at hj;cases hj
    |some c=>rw[e] at hj;exact⟨c,rfl,Yb hj⟩
   obtain⟨e,er,lt,hc,hs⟩:=eT LC ec;have jl:j<E0.length:=(Yi.mp er).1;have tk:E0.take (j+1)=E0.take j++[e]:=by rw[Yq,er];rfl
   refine⟨c0,_,rfl,ay.of (g _ _ hc),rfl,_,_,rfl,aJ ⟨_,_,rfl,aJ ⟨_,_,rfl,aJ ⟨_,_,rfl,aJ ⟨_,_,rfl,aJ ⟨rfl,?_⟩⟩⟩⟩⟩⟩;refine zk (T:=lP) (x:=e.s) (y:=e) mU (λ_ _ h=>⟨_,rfl,h⟩) (λ_ _ h=>⟨_,rfl,h⟩) md g (by omega) (λH7 Q2 g7 k2=>?_) λv3 nc H3 g3 n3=>?_
   ·have dX:=gB.trans g7;refine⟨_,rfl,_,rfl,_,rfl,_,rfl,L,dx,_,rfl,dX _ _ h1,rfl,_,rfl,L,lt,xs,ys,e.tn,rfl,la.same dX,hs,λt2 wK=>⟨by show 4<=sizeLine;omega,λt H3 nt g3 ht=>k2 t H3 g3 ⟨t2,ht,g3 _ _ wK⟩⟩⟩
   ·refine⟨nc,_,_,_,_,_,g3,?_,rfl⟩;rw[tk,Ee];exact n3
  ·rintro σ H6 ⟨aa,o1,o2,o3,o4,o5,g,md,rfl⟩;rw[Ya,al,Y1] at md;refine cu _ _ ⟨aa,o1,o2,o3,o4,o5,gB.trans g,md.dict,λnm=>?_,rfl⟩;rcases md.at_ nm with⟨h1,h2⟩|⟨a,es,h1,_,h3,_,h5⟩;·exact .inl ⟨h2,h1⟩
   ·exact .inr ⟨a,h1,es,h3,h5⟩
 rintro σ H6 ⟨aa,o1,o2,o3,o4,o5,g,qO,sf,rfl⟩;exact⟨_,rfl,q d aa H6 nd g qO sf⟩
end
structure js(xs ys:List Int)(R:List Rw)(g:Str->Option Int):Prop where
 vp:∀e∈ck xs ys R,∀u,g e.s=some u->g e.g=some (e.tn.getD u.toNat 0)
 gb:∀r∈R,∀i,r.o=.inl i->∀u,g r.a=some u->u=i
section
variable {xs ys:List Int}{R:List Rw}{g:Str->Option Int}{m m' nm:Str}{s:Int×Int}{ns:List Int}{sec u v:Int}{W:List (Int×Int)}{e:Option Int}
theorem k4{r:Rw}{b:Str}:eO xs ys r b 1=⟨r.a,b,r.z,1,cz xs ys r.k⟩:=by unfold eO;rw[if_pos rfl,if_pos rfl,if_pos rfl]
theorem mW{r:Rw}{b:Str}:eO xs ys r b (-1)=⟨b,r.a,r.z,-1,inv (cz xs ys r.k)⟩:=by unfold eO;rw[if_neg (by decide),if_neg (by decide),if_neg (by decide)]
theorem Gn{n:Nat}(f:full ns=true)(l:ns.length=n){u:Int}(h:0<=u/\u<(n:Int)):ns.getD ((inv ns).getD u.toNat 0).toNat 0=u:=by
 obtain⟨k,rfl⟩:∃k:Nat,u=(k:Int):=⟨u.toNat,by omega⟩;have hk:k<ns.length:=by omega
 have m:(k:Int)∈ns:=(iO f).mem_iff.mpr (Yk (dZ hk));rw[Yp,Yt (l:=inv ns),mB hk];show ns.getD (dO (k:Int) ns) 0=_;rw[Yt,(mf m).1];rfl
theorem kP{r:Rw}{b:Str}{w:Int}(mr:r∈R)(ob:r.o=.inr b)(h:w=1\/w=-1):eO xs ys r b w∈ck xs ys R:=by
 refine List.mem_flatMap.mpr ⟨r,mr,?_⟩;unfold eY;rw[ob];rcases h with rfl|rfl;·exact Yv
 ·exact Yx _ Yv
theorem oS{e:Ed}(h:e∈ck xs ys R):∃r∈R,∃b w,r.o=.inr b/\(w=1\/w=-1)/\e=eO xs ys r b w:=by
 obtain⟨r,mr,he⟩:=List.mem_flatMap.mp h;unfold eY at he;cases eo:r.o with
 |inl i=>rw[eo] at he;cases he
 |inr b=>
  rw[eo] at he;rcases Yw.mp he with h|h;·exact⟨r,mr,b,1,eo,.inl rfl,h⟩
  ·exact⟨r,mr,b,-1,eo,.inr rfl,Yh.mp h⟩
theorem Af(h:c8 xs ys R m s=some (m',ns)):∃e∈ck xs ys R,e.s=m/\e.g=m'/\e.tn=ns/\e.z=s.1/\e.w=s.2:=by
 unfold c8 at h;cases er:cj R s.1 with
 |none=>rw[er] at h;cases h
 |some r=>
  rw[er] at h;dsimp only at h;obtain⟨mr,ez⟩:=jz er;cases eo:r.o with
  |inl i=>rw[eo] at h;cases h
  |inr b=>
   rw[eo] at h;dsimp only at h;by_cases h1:s.2=1
   ·rw[if_pos h1] at h;by_cases h2:r.a=m
    ·rw[if_pos h2] at h;cases h;exact⟨_,kP mr eo (.inl rfl),h2,rfl,rfl,ez,h1.symm⟩
    ·rw[if_neg h2] at h;cases h
   ·rw[if_neg h1] at h;by_cases h3:s.2=-1
    ·rw[if_pos h3] at h;by_cases h2:b=m
     ·rw[if_pos h2] at h;cases h;exact⟨_,kP mr eo (.inr rfl),h2,rfl,rfl,ez,h3.symm⟩
     ·rw[if_neg h2] at h;cases h
    ·rw[if_neg h3] at h;cases h
theorem x8(zd:(R.map (·.z)).Nodup){r:Rw}(mr:r∈R):cj R r.z=some r:=by
 cases er:cj R r.z with
 |none=>exact absurd (decide_eq_true rfl) (List.find?_eq_none.mp er r mr)
 |some r'=>
  obtain⟨m1,e1⟩:=jz er;obtain⟨i,hi,ei⟩:=Jb m1;obtain⟨j,hj,ej⟩:=Jb mr;have:i=j:=(Je (h₀:=by rw[Ya];exact hi) (h₁:=by rw[Ya];exact hj) zd).mp (by rw[Jh,Jh,ei,ej];exact e1);subst this;rw[←ei,←ej]
theorem Ag(zd:(R.map (·.z)).Nodup){e:Ed}(h:e∈ck xs ys R):c8 xs ys R e.s (e.z,e.w)=some (e.g,e.tn):=by
 obtain⟨r,mr,b,w,ob,hw,rfl⟩:=oS h;unfold c8;show(match cj R r.z with|none=>none|some r=>_)=_;rw[x8 zd mr];dsimp only;rw[ob];dsimp only;rcases hw with rfl|rfl
 ·rw[k4];dsimp only;rw[if_pos rfl,if_pos rfl]
 ·rw[mW];dsimp only;rw[if_neg (by decide),if_pos rfl,if_pos rfl]
theorem t5(gd:cO xs ys)(ro:∀r∈R,de xs ys r){e:Ed}(h:e∈ck xs ys R):full e.tn=true/\e.tn.length=xs.length:=by
 obtain⟨r,mr,b,w,ob,hw,rfl⟩:=oS h;rcases ro r mr with⟨_,i,oi⟩|⟨tn,b',hk,NG⟩;·rw[oi] at ob;cases ob
 obtain⟨r1,r2,_,s1,_,s2⟩:=tE gd hk;show full (if w=1 then cz xs ys r.k else inv (cz xs ys r.k))=true/\(if w=1 then cz xs ys r.k else inv (cz xs ys r.k)).length=_;rw[kL hk];by_cases c:w=1
 ·rw[if_pos c];exact ow gd s1
 ·rw[if_neg c];exact ow gd s2
theorem yA(gd:cO xs ys)(ro:∀r∈R,de xs ys r)(zd:(R.map (·.z)).Nodup)(h:c8 xs ys R m s=some (m',ns)):c8 xs ys R m' (s.1,-s.2)=some (m,inv ns)/\full ns=true/\ns.length=xs.length:=by
 obtain⟨e,me,rfl,rfl,rfl,e4,e5⟩:=Af h;refine⟨?_,t5 gd ro me⟩;rw[←e4,←e5];obtain⟨r,mr,b,w,ob,hw,rfl⟩:=oS me;have:=Ag zd (kP (xs:=xs) (ys:=ys) (w:=-w) mr ob (by omega));have ft:=(t5 gd ro (kP (xs:=xs) (ys:=ys) (w:=1) mr ob (.inl rfl))).1;rw[k4] at ft;rcases hw with rfl|rfl
 ·rw[mW] at this;rw[k4];exact this
 ·rw[show(- -1:Int)=1 from rfl,k4] at this;rw[mW];dsimp only;rw[inv_inv ft];exact this
theorem Ah(c:js xs ys R g):∀(W:List (Int×Int)) {nm:Str} {sec:Int},g nm=some sec->bP xs ys R nm sec W=some (m,u)->g m=some u
 |[],nm,sec,hg,h=>by cases h;exact hg
 |s::W,nm,sec,hg,h=>by
  unfold bP at h;cases es:c8 xs ys R nm s with
  |none=>rw[es] at h;cases h
  |some p=>
   rw[es] at h;obtain⟨m1,ns⟩:=p;obtain⟨e,me,rfl,rfl,rfl,_⟩:=Af es;exact Ah c W (c.vp e me _ hg) h
theorem Hm(ro:∀r∈R,de xs ys r)(h:dQ xs ys R nm sec W e=true)(c:js xs ys R g):g nm≠some sec:=by
 intro hg;unfold dQ at h;cases ew:bP xs ys R nm sec W with
 |none=>rw[ew] at h;cases h
 |some p=>
  obtain⟨m,u⟩:=p;have gm:=Ah c W hg ew;rw[ew] at h;cases e with
  |none=>
   dsimp only at h;rw[Wz,decide_eq_true_iff,Bool.not_eq_true',decide_eq_false_iff_not] at h;rw[h.1,hg] at gm;exact h.2 (Yb gm).symm
  |some z=>
   dsimp only at h;cases er:cj R z with
   |none=>rw[er] at h;cases h
   |some r=>
    rw[er] at h;dsimp only at h;rw[Wz,Wz,decide_eq_true_iff,decide_eq_true_iff,Bool.not_eq_true',decide_eq_false_iff_not] at h;obtain⟨h1,h2,h3⟩:=h;have mr:=(jz er).1;rcases ro r mr with⟨_,i,oi⟩|⟨tn,b,hk,_⟩
    ·rw[←h2] at gm;exact h3 (by rw[oi,c.gb r mr i oi u gm])
    ·rw[h1] at hk;exact lZ hk
theorem uw(gd:cO xs ys)(ro:∀r∈R,de xs ys r)(zd:(R.map (·.z)).Nodup):∀(W:List (Int×Int)) {nm:Str} {sec:Int},0<=sec/\sec<(xs.length:Int)->bP xs ys R nm sec W=some (m,u)->0<=u/\u<(xs.length:Int)
 |[],nm,sec,hs,h=>by cases h;exact hs
 |s::W,nm,sec,hs,h=>by
  unfold bP at h;cases es:c8 xs ys R nm s with
  |none=>rw[es] at h;cases h
  |some p=>
   rw[es] at h;obtain⟨m1,ns⟩:=p;obtain⟨_,f1,l1⟩:=yA gd ro zd es;exact uw gd ro zd W (mS f1 l1 hs).2 h
theorem yB(gd:cO xs ys)(ro:∀r∈R,de xs ys r)(zd:(R.map (·.z)).Nodup):∀(W:List (Int×Int)) {nm:Str} {sec:Int},0<=sec/\sec<(xs.length:Int)->bP xs ys R nm sec W=some (m,u)->0<=v/\v<(xs.length:Int)->∃s',bP xs ys R m v (ef W)=some (nm,s')/\(0<=s'/\s'<(xs.length:Int))/\(s'=sec->v=u)
 |[],nm,sec,hs,h,hv=>by cases h;exact⟨v,rfl,hv,id⟩
 |s::W,nm,sec,hs,h,hv=>by
  unfold bP at h;cases es:c8 xs ys R nm s with
  |none=>rw[es] at h;cases h
  |some p=>
   rw[es] at h;obtain⟨m1,ns⟩:=p;obtain⟨sb,f1,l1⟩:=yA gd ro zd es;obtain⟨_,a1⟩:=mS f1 l1 hs;obtain⟨s1,w1,b1,c1⟩:=yB gd ro zd W a1 h hv;have fi:=jy f1;have li:(inv ns).length=xs.length:=by rw[dG];exact l1
   refine⟨(inv ns).getD s1.toNat 0,?_,(mS fi li b1).2,λe=>c1 ?_⟩
   ·unfold ef;rw[Wx,Yo];show bP xs ys R m v (ef W++[(s.1,-s.2)])=_;rw[kM,w1];dsimp only[bP];rw[sb]
   ·have:=Gn f1 l1 b1;rw[e] at this;exact this.symm
end
def ni(fl:Addr)(H H':Hp):Prop:=(∀p us,H p=some (.tup us)->H' p=some (.tup us))/\∀p vs,p≠fl->H p=some (.lst vs)->H' p=some (.lst vs)
theorem WL.keep{fl l:Addr}{H H':Hp}{W:List (Int×Int)}(k:ni fl H H')(n:l≠fl)(h:WL H l W):WL H' l W:=by
 obtain⟨as,h1,h2⟩:=h;exact⟨as,k.2 _ _ n h1,L2.Paired.bM h2 λ_ _ e=>k.1 _ _ e⟩
def gv(kS:List (Key×V))(s:Str):Option Int:=match aA kS (.inr s) with
 |some (.int u)=>some u
 |_=>none
theorem mX{kS:List (Key×V)}{s:Str}{u:Int}(h:aA kS (.inr s)=some (.int u)):gv kS s=some u:=by unfold gv;rw[h]
theorem t6{kS:List (Key×V)}{s:Str}(h:aA kS (.inr s)=none):gv kS s=none:=by unfold gv;rw[h]
structure cA(H0:Hp)(xs ys:List Int)(R:List Rw)(nm:Str)(sec:Int)(fl ds dw:Addr)(kS kW:List (Key×V))(ks:List Str)(H:Hp):Prop where
 hs:H ds=some (.dK kS)
 hw:H dw=some (.dK kW)
 ne:ds≠dw
 nd:ks.Nodup
 qZ:∀s∈ks,s∈nm::(ck xs ys R).map (·.g)
 yes:∀s∈ks,∃(l:Addr) (u:Int) (W:List (Int×Int)),aA kS (.inr s)=some (.int u)/\aA kW (.inr s)=some (.ref l)/\l≠fl/\WL H l W/\W.length<ks.length/\bP xs ys R nm sec W=some (s,u)
 no:∀s,s∉ks->aA kS (.inr s)=none
 lS:kS.length<=ks.length
 lW:kW.length<=ks.length
 m0:nm∈ks
 v0:gv kS nm=some sec
 nw:∀s l,aA kW (.inr s)=some (.ref l)->H0 l=none
section
variable {xs ys:List Int}{R:List Rw}{nm:Str}{sec:Int}{fl qY ds dw:Addr}{kS kW:List (Key×V)}{ks:List Str}{H0 H H':Hp}
theorem cA.len(h:cA H0 xs ys R nm sec fl ds dw kS kW ks H)(rn:R.length<=64):ks.length<=129:=by
 have:=h.nd.length_le_of_subset λs m=>h.qZ s m;rw[Wg,Ya] at this;have:=oK (xs:=xs) (ys:=ys) R;omega
theorem cA.to(h:cA H0 xs ys R nm sec fl ds dw kS kW ks H)(k:ni fl H H')(hs:H' ds=some (.dK kS))(hw:H' dw=some (.dK kW)):cA H0 xs ys R nm sec fl ds dw kS kW ks H':=
 ⟨hs,hw,h.ne,h.nd,h.qZ,λs m=>let⟨l,u,W,a1,a2,a3,a4,a5⟩:=h.yes s m;⟨l,u,W,a1,a2,a3,a4.keep k a3,a5⟩,h.no,h.lS,h.lW,h.m0,h.v0,h.nw⟩
theorem EI(g:ah H H'):ni fl H H':=⟨λ_ _ e=>g _ _ e,λ_ _ _ e=>g _ _ e⟩
theorem cA.same(g:ah H H')(h:cA H0 xs ys R nm sec fl ds dw kS kW ks H):cA H0 xs ys R nm sec fl ds dw kS kW ks H':=h.to (EI g) (g _ _ h.hs) (g _ _ h.hw)
theorem cA.fresh(h:cA H0 xs ys R nm sec fl ds dw kS kW ks H)(n:H qY=none):cA H0 xs ys R nm sec qY ds dw kS kW ks H:=
 ⟨h.hs,h.hw,h.ne,h.nd,h.qZ,λs m=>let⟨l,u,W,a1,a2,a3,⟨as,b1,b2⟩,a5⟩:=h.yes s m;⟨l,u,W,a1,a2,(λz=>by rw[z,n] at b1;cases b1),⟨as,b1,b2⟩,a5⟩,h.no,h.lS,h.lW,h.m0,h.v0,h.nw⟩
theorem oY{k:Str}{v:Int}{s:Str}:gv (putK kS (.inr k) (.int v)) s=if s=k then some v else gv kS s:=by
 unfold gv;rw[dH];by_cases e:s=k;·rw[if_pos (by rw[e]),if_pos e]
 ·rw[if_neg (λz=>e (Y3 z)),if_neg e]
theorem cA.add{s':Str}{u':Int}{l:Addr}{W:List (Int×Int)}(h:cA H0 xs ys R nm sec fl ds dw kS kW ks H)(ns:s'∉ks)(iu:s'∈nm::(ck xs ys R).map (·.g))(k:ni fl H H')(hs:H' ds=some (.dK (putK kS (.inr s') (.int u'))))(hw:H' dw=some (.dK (putK kW (.inr s') (.ref l))))(nl:l≠fl)(nn:H0 l=none)(wl:WL H' l W)(wn:W.length<=ks.length)(wk:bP xs ys R nm sec W=some (s',u')):cA H0 xs ys R nm sec fl ds dw (putK kS (.inr s') (.int u')) (putK kW (.inr s') (.ref l)) (ks++[s']) H':=by
 have p1:=iM kS (.inr s') (.int u');have p2:=iM kW (.inr s') (.ref l);have el:(ks++[s']).length=ks.length+1:=by rw[Yj];rfl
 refine⟨hs,hw,h.ne,Ww.mpr ⟨h.nd,by simp,λa ma b mb=>by rw[Yh.mp mb];exact λz=>ns (z▸ma)⟩,λs m=>?_,λs m=>?_,λs m=>?_,by have:=h.lS;omega,by have:=h.lW;omega,Y8 _ h.m0,?_,λs l2 e=>?_⟩
 ·rcases Yu.mp m with m|m;·exact h.qZ s m
  ·rw[Yh.mp m];exact iu
 ·rw[dH,dH,el];by_cases e:s=s'
  ·rw[if_pos (by rw[e]),if_pos (by rw[e])];exact⟨l,u',W,rfl,rfl,nl,wl,by omega,by rw[e];exact wk⟩
  ·rw[if_neg (λz=>e (Y3 z)),if_neg (λz=>e (Y3 z))];obtain⟨l,u,W,a1,a2,a3,a4,a5,a6⟩:=h.yes s ((Yu.mp m).resolve_right (λz=>e (Yh.mp z)));exact⟨l,u,W,a1,a2,a3,a4.keep k a3,by omega,a6⟩
 ·rw[dH,if_neg (λz=>m (Ys _ (Yh.mpr (Y3 z))))];exact h.no s (λz=>m (Y8 _ z))
 ·rw[oY,if_neg (λz:nm=s'=>ns (z▸h.m0))];exact h.v0
 ·rw[dH] at e;by_cases c:s=s'
  ·rw[if_pos (by rw[c])] at e;rw[←V.ref.inj (Yb e)];exact nn
  ·rw[if_neg (λz=>c (Y3 z))] at e;exact h.nw s l2 e
def i6(xs ys:List Int)(R:List Rw)(kS:List (Key×V))(s:Str):Prop:=∃u,gv kS s=some u/\(∀z i,(z,i)∈cY R s->i=u)/\∀e∈fZ (ck xs ys R) s,gv kS e.g=some (e.tn.getD u.toNat 0)
theorem Fv{s k:Str}{v:Int}(h:i6 xs ys R kS s)(n:gv kS k=none):i6 xs ys R (putK kS (.inr k) (.int v)) s:=by
 have up:∀{x u},gv kS x=some u->gv (putK kS (.inr k) (.int v)) x=some u:=λ{x u} e=>by
  rw[oY,if_neg (λz=>by rw[z,n] at e;cases e)];exact e
 obtain⟨u,h1,h2,h3⟩:=h;exact⟨u,up h1,h2,λe m=>up (h3 e m)⟩
theorem cA.closed(h:cA H0 xs ys R nm sec fl ds dw kS kW ks H)(d:∀s∈ks,i6 xs ys R kS s):js xs ys R (gv kS):=by
 have Bm:∀{s u},gv kS s=some u->s∈ks:=λ{s u} e=>by
  by_cases m:s∈ks;·exact m
  ·rw[t6 (h.no s m)] at e;cases e
 refine⟨λe me u hu=>?_,λr mr i oi u hu=>?_⟩
 ·obtain⟨u',h1,_,h3⟩:=d _ (Bm hu);obtain rfl:u'=u:=Yb (h1.symm.trans hu);exact h3 e (Wt.mpr ⟨me,decide_eq_true rfl⟩)
 ·obtain⟨u',h1,h2,_⟩:=d _ (Bm hu);obtain rfl:u'=u:=Yb (h1.symm.trans hu);refine(h2 r.z i ?_).symm;unfold cY;refine W4.mpr ⟨r,mr,?_⟩;rw[if_pos rfl,oi]
theorem cA.range(h:cA H0 xs ys R nm sec fl ds dw kS kW ks H)(gd:cO xs ys)(ro:∀r∈R,de xs ys r)(zd:(R.map (·.z)).Nodup)(hs:0<=sec/\sec<(xs.length:Int)){s:Str}{u:Int}(e:gv kS s=some u):0<=u/\u<(xs.length:Int):=by
 by_cases m:s∈ks
 ·obtain⟨l,u',W,a1,_,_,_,_,a6⟩:=h.yes s m;obtain rfl:u'=u:=Yb ((mX a1).symm.trans e);exact uw gd ro zd W hs a6
 ·rw[t6 (h.no s m)] at e;cases e
theorem Fw(ro:∀r∈R,de xs ys r)(zd:(R.map (·.z)).Nodup){W:List (Int×Int)}{s:Str}{u z i:Int}(w:bP xs ys R nm sec W=some (s,u))(m:(z,i)∈cY R s)(n:i≠u):dQ xs ys R nm sec W (some z)=true:=by
 unfold cY at m;obtain⟨r,mr,er⟩:=W4.mp m;by_cases ea:r.a=s
 ·rw[if_pos ea] at er;cases eo:r.o with
  |inr b=>rw[eo] at er;cases er
  |inl j=>
   rw[eo] at er;cases er;unfold dQ;rw[w];dsimp only;rw[x8 zd mr];dsimp only;rcases ro r mr with⟨rk,_⟩|⟨tn,b,_,ob⟩
   ·rw[rk,ea,eo,decide_eq_true rfl,decide_eq_true rfl,decide_eq_false (λz=>n (W3 z))];rfl
   ·rw[eo] at ob;cases ob
 ·rw[if_neg ea] at er;cases er
theorem Fx(gd:cO xs ys)(ro:∀r∈R,de xs ys r)(zd:(R.map (·.z)).Nodup)(hs:0<=sec/\sec<(xs.length:Int)){W W':List (Int×Int)}{s:Str}{u v:Int}(w:bP xs ys R nm sec W=some (s,v))(w':bP xs ys R nm sec W'=some (s,u))(n:u≠v):dQ xs ys R nm sec (W++ef W') none=true:=by
 obtain⟨s',e1,_,e3⟩:=yB gd ro zd W' hs w' (uw gd ro zd W hs w);unfold dQ;rw[kM,w];dsimp only;rw[e1];dsimp only;rw[decide_eq_true rfl,decide_eq_false (λz=>n (e3 z).symm)];rfl
theorem Hn(zd:(R.map (·.z)).Nodup){W:List (Int×Int)}{e:Ed}{u:Int}(w:bP xs ys R nm sec W=some (e.s,u))(me:e∈ck xs ys R):bP xs ys R nm sec (W++[(e.z,e.w)])=some (e.g,e.tn.getD u.toNat 0):=by
 rw[kM,w];dsimp only[bP];rw[Ag zd me]
end
inductive xI(vs:List V)(H:Hp)(Q:VK):Prop
 |mk (eP fw:Addr) (lR lT:List (Key×V)) (xs ys:List Int) (R:List Rw) (nm:Str) (sec:Int) (aC:vs=[.ref eP,.ref fw,.str nm,.int sec]) (bU:H eP=some (.dK lR)) (sf:lQ H lR (ck xs ys R)) (q0:H fw=some (.dK lT)) (sd:lO H lT R) (gd:cO xs ys) (ro:∀r∈R,de xs ys r) (zd:(R.map (·.z)).Nodup) (rn:R.length<=64) (hs:0<=sec/\sec<(xs.length:Int))
  (yes:∀(t wa:Addr) (W:List (Int×Int)) (e:Option Int) (H':Hp),ah H H'->H t=none->H wa=none->H' t=some (.tup [.ref wa,ng e])->WL H' wa W->W.length<=400->dQ xs ys R nm sec W e=true->Q (.ref t) H')
  (no:∀(H':Hp) (g:Str->Option Int),ah H H'->js xs ys R g->g nm=some sec->(∀s v,g s=some v->0<=v/\v<(xs.length:Int))->Q .aD H'):xI vs H Q
theorem DO{α β:Type}{F:α->β->Prop}{as cs:List α}{bs ds:List β}(h:Paired F as bs)(h2:Paired F cs ds):Paired F (as++cs) (bs++ds):=by
 induction h with
 |nil=>exact h2
 |cons e _ ih=>exact .cons e ih
def x9:Sp:=λvs H Q _=>xI vs H Q
def q5(eP fw:Addr)(nm:Str)(sec:Int)(ds dw nl:Addr)(o7 o8 o9 bo bq bc bL cC:Option V):St:=[some (.ref eP),some (.ref fw),some (.str nm),some (.int sec),some (.ref ds),some (.ref dw),some (.ref nl),o7,o8,o9,bo,bq,bc,bL,cC]
section
variable {K:ag}{mg:aG}
abbrev vq:List Str:=["steps","sayings","person","section"]
theorem dY:a7 ["steps","sayings","person","section","sections","walks","newest","further","name","end","number","way","goal","turn","walk"] vq (aL rB):=.bw
theorem CS(F:aP K "paper_against" "paper_against" rB f fd)(sR:HasFn P w K mg base 1 "gainsaid" vo Ac)(rG:HasFn P w K mg base 1 "turned_round" ["walk"] zj)(bl:Bl mg):aH P w K mg base aT 2 f fd vq x9:=by
 refine F.o dY @λa_ A outer vs Q E s H hr h=>?_;obtain⟨eP,fw,lR,lT,xs,ys,R,nm,sec,rfl,bU,sf,q0,sd,gd,ro,zd,rn,nh,yes,no⟩:=h;have hu:=hr.ub;refine⟨_,(ao (aR 4 dY.nd (mw (dI (pv 2) (pv 3) mv) rfl rfl (λz=>nomatch z) (Wm rfl))) (ao (aR 5 dY.nd (mw (dI (pv 2) (cE ai) mv) rfl rfl (λz=>nomatch z) (Wm rfl))) (ao (aR 6 dY.nd (cE (ae (pv 2) ai))) (ao (yb PassesOwn.never (EC (K:=K) rfl (ER (pv 6) (λ_=>rfl))) (ao (aR 7 dY.nd (cE ai)) (ao (cK PassesOwn.never rfl (dy (K:=K) rfl (pv 6)) (aS 8 dY.nd) (ao (aR 9 dY.nd (aM sR hr (ae (pv 1) (ae (pv 8) (ae (cM (bC hr) (pv 4) (pv 8) (λ_ _=>rfl)) ai))))) (ao (bj (bx tQ (pv 9) hU) (au (aN (cQ (ae (cM (bC hr) (pv 5) (pv 8) (λ_ _=>rfl)) (ae (pv 9) ai))))) bD) (au (cK PassesOwn.never rfl (dy (K:=K) rfl (tI (bC hr) (pv 0) (pv 8) (cE ai) ⟨rfl,rfl,rfl,rfl⟩)) (d7 (K:=K) (n:=4) rfl rfl (ba (aS 10 dY.nd) (ba (aS 11 dY.nd) (ba (aS 12 dY.nd) (ba (aS 13 dY.nd) d5))))) (ao (aR 14 dY.nd (az oP (cM (bC hr) (pv 5) (pv 8) (λ_ _=>rfl)) (cE (ae (cQ (ae (pv 10) (ae (pv 11) ai))) ai)))) (au (bj (mD (oC (bC hr) (pv 12) (pv 4)) (by with_unfolding_all rfl)) (ao (kH (bC hr) (pv 4) (pv 12) (aK (iT K) (pv 13) (cM (bC hr) (pv 4) (pv 8) (λ_ _=>rfl)))) (ao (kH (bC hr) (pv 5) (pv 12) (pv 14)) (au (dz (jC (K:=K) rfl (fY plainAttrs_list PySem.F.slot_list_append PySem.F.type_list_append jw (pv 7) (ae (pv 12) ai))))))) (au (bj (bx dM (cM (bC hr) (pv 4) (pv 12) (λ_ _=>rfl)) (aK (iT K) (pv 13) (cM (bC hr) (pv 4) (pv 8) (λ_ _=>rfl)))) (au (aN (cQ (ae (az oP (pv 14) (aM rG hr (ae (cM (bC hr) (pv 5) (pv 12) (λ_ _=>rfl)) ai))) (ae hU ai))))) bD)))))))))) (au (aR 6 dY.nd (pv 7)))))) (au (aN hU)))))),?_⟩;have sz:(10000:Nat)<=sizeLine:=by rw[sizeLine_eq];omega
 refine aX ?_;refine λds wN=>?_;obtain⟨H0,e0⟩:∃H0,H0=upd H ds (.dK ([]:List (Key×V))):=⟨_,rfl⟩;have g0:ah H H0:=by rw[e0];exact bg wN _
 have qp:H0 ds=some (.dK ([]:List (Key×V))):=by rw[e0];exact aF
 rw[←e0];refine⟨_,rfl,_,rfl,qp,[(.inr nm,.int sec)],rfl,by show 1<=15;omega,?_⟩;obtain⟨H1,e1⟩:∃H1,H1=upd H0 ds (.dK (fW [] [(.inr nm,V.int sec)])):=⟨_,rfl⟩;have Cr:H1 ds=some (.dK (putK [] (.inr nm) (.int sec))):=by rw[e1,aF];rfl
 have g1:ah H H1:=λc o e=>by rw[e1,aU (aY e wN)];exact g0 _ _ e
 rw[←e1];clear e1 e0 qp g0;refine aX ?_;refine λdw n4=>?_;obtain⟨H2,e2⟩:∃H2,H2=upd H1 dw (.dK ([]:List (Key×V))):=⟨_,rfl⟩;have g2:ah H1 H2:=by rw[e2];exact bg n4 _
 have wO:H2 dw=some (.dK ([]:List (Key×V))):=by rw[e2];exact aF
 rw[←e2];refine⟨_,rfl,by show 0<=sizeLine;omega,λl0 H3 n3 g3 wQ=>⟨g3 _ _ wO,[(.inr nm,.ref l0)],rfl,by show 1<=15;omega,?_⟩⟩;obtain⟨H4,e4⟩:∃H4,H4=upd H3 dw (.dK (fW [] [(.inr nm,V.ref l0)])):=⟨_,rfl⟩;have lL:H4 dw=some (.dK (putK [] (.inr nm) (.ref l0))):=by rw[e4,aF];rfl
 have g4:ah H1 H4:=λc o e=>by rw[e4,aU (aY e n4)];exact g3 _ _ (g2 _ _ e)
 have q_:H4 l0=some (.lst []):=by rw[e4,aU (cv wQ (g3 _ _ wO) (λz=>by cases z))];exact wQ
 rw[←e4];have LD:H l0=none:=(g1.trans g2).free n3;clear e4 e2 wO n3 wQ g3 g2;refine aX ?_;refine⟨_,rfl,by show 1<=sizeLine;omega,λnl H5 rb g5 kh=>?_⟩;have JG:=g1.free n4;have n5:ah H H5:=(g1.trans g4).trans g5;have LF:ds≠dw:=λz=>by rw[←z,Cr] at n4;cases n4
 have p5:cA H xs ys R nm sec nl ds dw (putK ([]:List (Key×V)) (.inr nm) (.int sec)) (putK ([]:List (Key×V)) (.inr nm) (.ref l0)) [nm] H5:=by
  have vS:aA (putK ([]:List (Key×V)) (.inr nm) (.int sec)) (.inr nm)=some (V.int sec):=(dH [] _ _ _).trans (if_pos rfl);refine⟨g5 _ _ (g4 _ _ Cr),g5 _ _ lL,LF,by simp,λs m=>?_,λs m=>?_,λs m=>?_,Yd _,Yd _,Yv,mX vS,λs l e=>?_⟩;·rw[Yh.mp m];exact Yv
  ·rw[Yh.mp m];exact⟨l0,sec,[],vS,(dH [] _ _ _).trans (if_pos rfl),(λz=>by rw[z,rb] at q_;cases q_),⟨[],g5 _ _ q_,.nil⟩,Nat.succ_pos _,rfl⟩
  ·exact(dH [] _ _ _).trans (if_neg (λz=>m (Yh.mpr (Y3 z))))
  ·rw[dH] at e;by_cases c:s=nm
   ·rw[if_pos (by rw[c])] at e;rw[←V.ref.inj (Yb e)];exact LD
   ·rw[if_neg (λz=>c (Y3 z))] at e;cases e
 refine dk (λσ H'=>∃(fl:Addr) (kS kW:List (Key×V)) (ks:List Str),ah H H'/\cA H xs ys R nm sec fl ds dw kS kW ks H'/\∀s∈ks,i6 xs ys R kS s) (λfq cu=>?_) ?_
 ·obtain⟨WI,wR⟩:∃WI:Nat->St->Hp->Prop,WI=λm σ H'=>∃(nl:Addr) (kS kW:List (Key×V)) (ks A N:List Str) (o7 o8 o9 bo bq bc bL cC:Option V),ah H H'/\H nl=none/\cA H xs ys R nm sec nl ds dw kS kW ks H'/\ks=A++N/\H' nl=some (.lst (N.map V.str))/\(∀s∈A,i6 xs ys R kS s)/\m=2*(130-ks.length)+(if N=[] then 0 else 1)/\σ=q5 eP fw nm sec ds dw nl o7 o8 o9 bo bq bc bL cC:=⟨_,rfl⟩;refine⟨WI,⟨_,by rw[wR];exact⟨nl,_,_,[nm],[],[nm],none,none,none,none,none,none,none,none,n5,(g1.trans g4).free rb,p5,rfl,kh,(λ_ h=>nomatch h),rfl,rfl⟩⟩,?_⟩;clear p5 n5 kh q_ g5 rb lL g4 nl H5;intro m σ H6 hW;rw[wR] at hW;obtain⟨nl,kS,kW,ks,A,N,o7,o8,o9,bo,bq,bc,bL,cC,g6,rb,p6,ek,kh,dA,em,rfl⟩:=hW;refine⟨_,rfl,_,.inl ⟨_,ak.of kh,rfl⟩,?_⟩;by_cases n0:N=[]
  ·subst n0;rw[Yy] at ek;subst ek;exact cu _ _ ⟨nl,kS,kW,ks,g6,p6,dA⟩
  rw[if_neg n0] at em;rw[if_pos (by cases N with|nil=>exact absurd rfl n0|cons a b=>rfl)];refine⟨λaO H'=>∃m',m'<m/\WI m' aO H',λ_ _ h=>h,?_⟩;refine aX ⟨by show 0<=sizeLine;omega,λfl H7 rh g7 lN=>?_⟩;have p7:=(p6.fresh rh).same g7;have vv:=g6.free rh;have JH:nl≠fl:=λz=>by rw[←z,kh] at rh;cases rh
  refine dk (λσ H'=>∃(kS kW:List (Key×V)) (ks Fu:List Str) (o8 o9 bo bq bc bL cC:Option V),ah H H'/\H' nl=some (.lst (N.map V.str))/\cA H xs ys R nm sec fl ds dw kS kW ks H'/\ks=A++N++Fu/\H' fl=some (.lst (Fu.map V.str))/\(∀s∈A++N,i6 xs ys R kS s)/\σ=q5 eP fw nm sec ds dw nl (some (.ref fl)) o8 o9 bo bq bc bL cC) (λwu fO=>?_) ?_
  ·refine⟨_,rfl,nl,rfl,⟨_,ak.of (g7 _ _ kh)⟩,dt (K:=K) (a:=nl) (xs:=N.map V.str) (λi σ H'=>∃(kS kW:List (Key×V)) (ks Fu:List Str) (o8 o9 bo bq bc bL cC:Option V),ah H H'/\H' nl=some (.lst (N.map V.str))/\cA H xs ys R nm sec fl ds dw kS kW ks H'/\ks=A++N++Fu/\H' fl=some (.lst (Fu.map V.str))/\(∀s∈A++N.take i,i6 xs ys R kS s)/\σ=q5 eP fw nm sec ds dw nl (some (.ref fl)) o8 o9 bo bq bc bL cC)
    ⟨kS,kW,ks,[],o8,o9,bo,bq,bc,bL,cC,g6.trans g7,g7 _ _ kh,p7,by rw[Yy];exact ek,lN,by rw[List.take_zero,Yy];exact dA,rfl⟩ (λj σ H' _ ⟨_,_,_,_,_,_,_,_,_,_,_,_,h,_⟩=>ak.of h) ?_ ?_⟩
   ·have LG:ks.length=A.length+N.length:=by rw[ek,Yj]
    clear p7 p6 dA ek o8 o9 bo bq bc bL cC;clear LG em;rintro i v σ H8 hi ⟨kS,kW,ks,Fu,o8,o9,bo,bq,bc,bL,cC,g8,nj,p8,ek,jS,dA,rfl⟩;rw[Ye] at hi;obtain⟨s,es,rfl⟩:∃a,N[i]?=some a/\V.str a=v:=by
     cases e:N[i]? with
     |none=>rw[e] at hi;cases hi
     |some c=>rw[e] at hi;exact⟨c,rfl,Yb hi⟩
    have ms:s∈ks:=by rw[ek];exact Y8 _ (Ys _ (Yk es))
    obtain⟨l,u,W,a1,a2,a3,a4,a5,a6⟩:=p8.yes s ms;have kl:=p8.len rn;refine aJ ?_;refine aX ⟨_,rfl,_,rfl,_,rfl,_,rfl,ds,_,rfl,b_ p8.hs a1,fw,lT,R,s,u,rfl,g8 _ _ q0,sd.same g8,rn,λz i H9 mz nz g9=>?_,λal H9 g9=>?_⟩
    ·refine⟨_,rfl,rfl,_,rfl,bR (λ_=>?_) (λc=>absurd (by rw[decide_eq_false (λh=>by cases h)];rfl) c)⟩;exact⟨_,rfl,_,rfl,dw,_,rfl,b_ (g9 _ _ p8.hw) a2,_,rfl,by show 2<=sizeLine;omega,λt HA nt gA ht=>yes t l W (some z) HA ((g8.trans g9).trans gA) ((g8.trans g9).free nt) (p8.nw s l a2) ht (a4.same (g9.trans gA)) (by omega) (Fw ro zd a6 mz nz)⟩
    ·refine⟨_,rfl,rfl,_,rfl,bR (λc=>absurd (by rw[decide_eq_true rfl] at c;exact c) (λh=>by cases h)) (λ_=>bJ ?_)⟩;have Cs:=g8.trans g9;refine⟨_,rfl,eP,rfl,.inl ⟨lR,.inl (Cs _ _ bU)⟩,_,rfl,by show 0<=sizeLine;omega,λe0 HA jq gA nR=>?_⟩;have n6:=Cs.trans gA;obtain⟨o,L',ws,dg,eo,nL,hl,pl⟩:∃(o:Option V) (L':Addr) (ws:List Addr),da HA eP (.str s) o/\o.getD (.ref e0)=.ref L'/\L'≠fl/\HA L'=some (.lst (ws.map V.ref))/\Paired (lP HA) ws (fZ (ck xs ys R) s):=by
      rcases sf s with⟨es,vn⟩|⟨l',vl,ws,hl,pl⟩;·exact⟨none,e0,[],b_ (n6 _ _ bU) vn,rfl,(λz=>by rw[z,g9 _ _ jS] at jq;cases jq),nR,by rw[es];exact .nil⟩
      ·exact⟨_,l',ws,b_ (n6 _ _ bU) vl,rfl,aY hl vv,n6 _ _ hl,L2.Paired.bM pl λ_ _ t=>mU _ _ _ _ (λ_ _ z=>n6 _ _ z) t⟩
     have wl:=cJ pl;have pA:=p8.same (g9.trans gA);refine⟨o,dg,L',eo,⟨_,ak.of hl⟩,dt (K:=K) (a:=L') (xs:=ws.map V.ref) (λj σ H'=>∃(kS kW:List (Key×V)) (ks Fu:List Str) (o9 bo bq bc bL cC:Option V),ah H H'/\H' nl=some (.lst (N.map V.str))/\cA H xs ys R nm sec fl ds dw kS kW ks H'/\ks=A++N++Fu/\H' fl=some (.lst (Fu.map V.str))/\(∀s∈A++N.take i,i6 xs ys R kS s)/\gv kS s=some u/\(∀e∈(fZ (ck xs ys R) s).take j,gv kS e.g=some (e.tn.getD u.toNat 0))/\H' L'=some (.lst (ws.map V.ref))/\Paired (lP H') ws (fZ (ck xs ys R) s)/\σ=q5 eP fw nm sec ds dw nl (some (.ref fl)) (some (.str s)) o9 bo bq bc bL cC)
      ⟨kS,kW,ks,Fu,_,_,_,_,_,_,n6,gA _ _ (g9 _ _ nj),pA,ek,gA _ _ (g9 _ _ jS),dA,mX a1,(λ_ h=>nomatch h),hl,pl,rfl⟩ (λj σ H' _ ⟨_,_,_,_,_,_,_,_,_,_,_,_,_,_,_,_,_,_,h,_⟩=>ak.of h) ?_ ?_⟩
     ·clear pA p8 dA ek a1 a2 a3 a4 a5 a6 kl ms jS nj hl pl dg eo;rintro j v σ HB hj ⟨kS,kW,ks,Fu,o9,bo,bq,bc,bL,cC,gB,pW,pB,ek,nq,dA,gu,dj,hl,pl,rfl⟩;rw[Ye] at hj;obtain⟨c0,ec,rfl⟩:∃a,ws[j]?=some a/\V.ref a=v:=by
       cases e:ws[j]? with
       |none=>rw[e] at hj;cases hj
       |some c=>rw[e] at hj;exact⟨c,rfl,Yb hj⟩
      obtain⟨e,ee,tu,hc,qS⟩:=eT pl ec;have LH:=Yk ee;obtain⟨me,LI⟩:=Wt.mp LH;have eh:e.s=s:=of_decide_eq_true LI;have ms:s∈ks:=by rw[ek];exact Y8 _ (Ys _ (Yk es))
      obtain⟨l,u',W,a1,a2,a3,a4,a5,a6⟩:=pB.yes s ms;obtain rfl:u'=u:=Yb ((mX a1).symm.trans gu);have kl:=pB.len rn;have lS:=pB.lS;have lW:=pB.lW;obtain⟨fe,le⟩:=t5 gd ro me;have ur:=pB.range gd ro zd nh gu;obtain⟨kd,_⟩:=mS fe le ur;obtain⟨Ct,j3,Cu⟩:=id a4;have NH:=cJ Cu;have we:bP xs ys R nm sec (W++[(e.z,e.w)])=some (e.g,e.tn.getD u'.toNat 0):=Hn zd (by rw[eh];exact a6) me;refine⟨c0,_,rfl,ay.of hc,rfl,_,_,rfl,aJ ⟨_,_,rfl,aJ ⟨_,_,rfl,aJ ⟨_,_,rfl,aJ ⟨rfl,?_⟩⟩⟩⟩⟩;refine aX ⟨_,rfl,_,rfl,dw,_,rfl,b_ pB.hw a2,_,rfl,_,rfl,by show 2<=sizeLine;omega,λt1 HC Lq gC wJ=>⟨by show 1<=sizeLine;omega,λl1 HD Co gD nZ=>⟨l,l1,_,_,rfl,rfl,gD _ _ (gC _ _ j3),nZ,by rw[Ya];show Ct.length+1<=sizeLine;omega,λwk HE wU gE LJ=>?_⟩⟩⟩;have dh:=(gC.trans gD).trans gE;have pE:=pB.same dh;have Cv:WL HE wk (W++[(e.z,e.w)]):=⟨Ct++[t1],by rw[LJ,Yo];rfl,L2.gY (L2.Paired.bM Cu λ_ _ h=>dh _ _ h) (gE _ _ (gD _ _ wJ))⟩;have Bn:wk≠fl:=λz=>by rw[z,gD _ _ (gC _ _ nq)] at wU;cases wU
      have MZ:(W++[(e.z,e.w)]).length=W.length+1:=by rw[Yj];rfl
      by_cases ri:e.g∈ks
      ·obtain⟨l2,u2,W2,b1,b2,b3,b4,b5,b6⟩:=pE.yes e.g ri;refine⟨_,rfl,_,rfl,ds,_,rfl,b_ pE.hs b1,?_⟩;refine⟨_,rfl,bT ?_⟩;refine⟨_,rfl,_,rfl,ds,_,rfl,b_ pE.hs b1,_,rfl,_,rfl,_,rfl,ds,_,rfl,b_ pE.hs a1,tu,_,_,_,rfl,rfl,ay.of (dh _ _ qS),kd,rfl,_,rfl,?_⟩;rw[vg];by_cases c:u2=e.tn.getD u'.toNat 0
       ·rw[decide_eq_true c];refine bT (bJ ?_);refine⟨kS,kW,ks,Fu,_,_,_,_,_,_,gB.trans dh,dh _ _ pW,pE,ek,dh _ _ nq,dA,gu,λe' m'=>?_,dh _ _ hl,L2.Paired.bM pl λ_ _ t=>mU _ _ _ _ (λ_ _ z=>dh _ _ z) t,rfl⟩;rw[Yq,ee] at m';rcases Yu.mp m' with m'|m';·exact dj e' m'
        ·rw[Yh.mp m',mX b1,c]
       ·rw[decide_eq_false c];refine cg ?_;obtain⟨LK,JI,Bo⟩:=id Cv;have NI:=cJ Bo;refine⟨_,rfl,_,rfl,_,rfl,dw,_,rfl,b_ pE.hw b2,l2,W2,rfl,b4,by omega,λrp HF NJ gF LL=>?_⟩;obtain⟨LM,JJ,Bp⟩:=id LL;have NK:=cJ Bp;have NL:(ef W2).length=W2.length:=by unfold ef;rw[Ya,Wr]
        refine⟨wk,rp,_,_,rfl,rfl,gF _ _ JI,JJ,by rw[Ya,Ya];omega,λcp HG LN gG LO=>⟨by show 2<=sizeLine;omega,λt HI nt gI ht=>?_⟩⟩;have Cw:=(gF.trans gG).trans gI;refine yes t cp (W++[(e.z,e.w)]++ef W2) none HI ((gB.trans dh).trans Cw) (((gB.trans dh).trans (gF.trans gG)).free nt) (((gB.trans dh).trans gF).free LN) ht ⟨LK++LM,by rw[Yo];exact gI _ _ LO,?_⟩ (by rw[Yj];omega) (Fx gd ro zd nh we b6 c);exact DO (L2.Paired.bM Bo λ_ _ h=>Cw _ _ h) (L2.Paired.bM Bp λ_ _ h=>gI _ _ (gG _ _ h))
      ·refine⟨_,rfl,_,rfl,ds,_,rfl,b_ pE.hs (pE.no _ ri),?_⟩;refine⟨_,rfl,cg ?_⟩;refine⟨_,rfl,_,rfl,_,rfl,ds,_,rfl,b_ pE.hs a1,tu,_,_,_,rfl,rfl,ay.of (dh _ _ qS),kd,_,rfl,_,rfl,ds,kS,.inr e.g,rfl,pE.hs,rfl,by omega,λHF bF eF=>?_⟩;refine⟨_,rfl,_,rfl,_,rfl,dw,kW,.inr e.g,rfl,bF _ _ pE.hw (λz=>pE.ne z.symm),rfl,by omega,λHG bG eG=>?_⟩;have pX:=dh _ _ nq;have NM:Fu.length<=ks.length:=by rw[ek,Yj];omega
       have kp:∀p o,(∀kv,o≠.dK kv)->HE p=some o->HG p=some o:=λp o ho h=>bG _ _ (bF _ _ h (cv h pE.hs (λz=>ho _ z))) (cv h pE.hw (λz=>ho _ z));have Bq:=kp _ _ (λ_ z=>by cases z) pX;refine⟨_,rfl,.inl ⟨rfl,_,ak.of Bq⟩,?_⟩;refine⟨_,rfl,fl,_,_,rfl,rfl,Bq,by rw[Ya];omega,λHI bI eI=>?_⟩;have qv:∀p o,(∀kv,o≠.dK kv)->p≠fl->HE p=some o->HI p=some o:=λp o ho np h=>bI _ _ (kp p o ho h) np;have kk:ni fl HE HI:=⟨λp us h=>qv _ _ (λ_ z=>by cases z) (cv h pX (λz=>by cases z)) h,λp vs np h=>qv _ _ (λ_ z=>by cases z) np h⟩;have LP:ds≠fl:=cv pE.hs pX (λz=>by cases z);have LQ:dw≠fl:=cv pE.hw pX (λz=>by cases z);have pI:=pE.add ri (Yx _ (Y6.mpr ⟨e,me,rfl⟩)) kk (bI _ _ (bG _ _ eF pE.ne) LP) (bI _ _ eG LQ) Bn ((gB.trans (gC.trans gD)).free wU) (Cv.keep kk Bn) (by omega) we;have gn:gv kS e.g=none:=t6 (pE.no _ ri);have up:∀{x v},gv kS x=some v->gv (putK kS (.inr e.g) (.int (e.tn.getD u'.toNat 0))) x=some v:=λ{x v} h=>by
        rw[oY,if_neg (λz=>by rw[z,gn] at h;cases h)];exact h
       have gI:ah H HI:=λp o h=>bI _ _ (bG _ _ (bF _ _ (dh _ _ (gB _ _ h)) (aY h wN)) (aY h JG)) (aY h vv);refine⟨_,_,ks++[e.g],Fu++[e.g],_,_,_,_,_,_,gI,kk.2 _ _ JH (dh _ _ pW),pI,by rw[ek,Wy],by rw[eI,Yo];rfl,λs' m'=>Fv (dA s' m') gn,up gu,λe' m'=>?_,kk.2 _ _ nL (dh _ _ hl),L2.Paired.bM pl λ_ _ t=>mU _ _ _ _ (λp us z=>kk.1 _ _ (dh _ _ z)) t,rfl⟩;rw[Yq,ee] at m';rcases Yu.mp m' with m'|m';·exact up (dj e' m')
       ·rw[Yh.mp m',oY,if_pos rfl]
     ·rintro σ HB ⟨kS,kW,ks,Fu,o9,bo,bq,bc,bL,cC,gB,pW,pB,ek,nq,dA,gu,dj,hl,pl,rfl⟩;rw[Ya,wl,Y1] at dj;refine⟨kS,kW,ks,Fu,_,_,_,_,_,_,_,gB,pW,pB,ek,nq,λs' m'=>?_,rfl⟩;rw[Yq,es,←Wy] at m';rcases Yu.mp m' with m'|m';·exact dA s' m'
      ·rw[Yh.mp m'];exact⟨u,gu,al,dj⟩
   ·rintro σ H8 ⟨kS,kW,ks,Fu,o8,o9,bo,bq,bc,bL,cC,g8,nj,p8,ek,jS,dA,rfl⟩;rw[Ya,Y1] at dA;exact fO _ _ ⟨kS,kW,ks,Fu,o8,o9,bo,bq,bc,bL,cC,g8,nj,p8,ek,jS,dA,rfl⟩
  ·rintro σ H8 ⟨LR,LS,qA,Fu,o8,o9,bo,bq,bc,bL,cC,g8,nj,p8,Cy,jS,LU,rfl⟩;refine⟨_,rfl,aJ ?_⟩;refine⟨2*(130-qA.length)+(if Fu=[] then 0 else 1),?_,?_⟩
   ·have k1:=p8.len rn;have k2:ks.length=A.length+N.length:=by rw[ek,Yj]
    have k3:qA.length=A.length+N.length+Fu.length:=by rw[Cy,Yj,Yj]
    by_cases f0:Fu=[]
    ·rw[if_pos f0];have:Fu.length=0:=by rw[f0];rfl
     omega
    ·rw[if_neg f0];have:=List.length_pos_iff.mpr f0;omega
   ·rw[wR];exact⟨fl,LR,LS,qA,A++N,Fu,_,_,_,_,_,_,_,_,g8,vv,p8,Cy,jS,LU,rfl,rfl⟩
 ·rintro σ H6 ⟨fl,kS,kW,ks,g6,p6,d6⟩;exact no H6 (gv kS) g6 (p6.closed d6) p6.v0 (λs v e=>p6.range gd ro zd nh e)
end
def wV(xs ys:List Int)(R:List Rw)(nm:Str)(H:Hp)(i:Nat)(v:V):Prop:=(v=.aD/\∃g:Str->Option Int,js xs ys R g/\g nm=some (i:Int)/\∀s v,g s=some v->0<=v/\v<(xs.length:Int))\/∃(t wa:Addr) (W:List (Int×Int)) (e:Option Int),v=.ref t/\H t=some (.tup [.ref wa,ng e])/\WL H wa W/\W.length<=400/\dQ xs ys R nm (i:Int) W e=true
def k_(D:Addr)(xs ys:List Int)(R:List Rw)(nm:Str)(H:Hp)(i:Nat)(v:V):Prop:=(v=.aD/\∃g:Str->Option Int,js xs ys R g/\g nm=some (i:Int)/\∀s v,g s=some v->0<=v/\v<(xs.length:Int))\/∃(t wa:Addr) (as:List Addr) (W:List (Int×Int)) (e:Option Int),v=.ref t/\t≠D/\wa≠D/\H t=some (.tup [.ref wa,ng e])/\H wa=some (.lst (as.map V.ref))/\Paired (λa s=>a≠D/\gc H a s) as W/\W.length<=400/\dQ xs ys R nm (i:Int) W e=true
theorem k_.bar{D:Addr}{xs ys:List Int}{R:List Rw}{nm:Str}{H H':Hp}{i:Nat}{v:V}(b:cB D H H')(h:k_ D xs ys R nm H i v):k_ D xs ys R nm H' i v:=
 h.imp id λ⟨t,wa,as,W,e,h1,h2,h3,h4,h5,h6,h7⟩=>⟨t,wa,as,W,e,h1,h2,h3,b _ _ h4 h2,b _ _ h5 h3,L2.Paired.bM h6 λ_ _ ⟨z1,z2⟩=>⟨z1,b _ _ z2 z1⟩,h7⟩
theorem k_.it{D:Addr}{xs ys:List Int}{R:List Rw}{nm:Str}{H:Hp}{i:Nat}{v:V}(h:k_ D xs ys R nm H i v):wV xs ys R nm H i v:=
 h.imp id λ⟨t,wa,as,W,e,h1,_,_,h4,h5,h6,h7⟩=>⟨t,wa,W,e,h1,h4,⟨as,h5,L2.Paired.bM h6 λ_ _ z=>z.2⟩,h7⟩
inductive xJ(CL:Addr)(vs:List V)(H:Hp)(Q:VK):Prop
 |mk (L fa:Addr) (xs ys:List Int) (R:List Rw) (nm:Str) (aC:vs=[.ref L,.ref fa,.str nm]) (la:iY H CL L xs ys) (gd:cO xs ys) (rl:RL H fa R) (ro:∀r∈R,de xs ys r) (zd:(R.map (·.z)).Nodup) (rn:R.length<=64)
  (q:∀(p:Addr) (zs:List V) (H':Hp),H p=none->ah H H'->H' p=some (.lst zs)->Paired (λy i=>wV xs ys R nm H' i y) zs (List.range xs.length)->Q (.ref p) H'):xJ CL vs H Q
def x_(CL:Addr):Sp:=λvs H Q _=>xJ CL vs H Q
section
variable {K:ag}{mg:aG}
abbrev vw:List Str:=["land","kept","person"]
theorem sS:a7 ["land","kept","person","steps","sayings"] vw (aL tf):=.bw
theorem Ef(F:aP K "barring" "barring" tf f fd)(lc:mV K CL)(rX:HasFn P w K mg base 3 "steps_from" ["land","kept"] (Ae CL))(rD:HasFn P w K mg base 1 "sayings_about" ["kept"] Ad)(rE:HasFn P w K mg base 2 "paper_against" vq x9)(bl:Bl mg):aH P w K mg base aT 4 f fd vw (x_ CL):=by
 refine F.o sS λs H hr h=>?_;obtain⟨L,fa,xs,ys,R,nm,rfl,la,gd,rl,ro,zd,rn,q⟩:=h;refine⟨_,(ao (dm (i:=3) sS.nd rfl (Or.inr rfl) (aM rX hr (ae (pv 0) (ae (pv 1) ai)))) (ao (dm (i:=4) sS.nd rfl (Or.inr rfl) (aM rD hr (ae (pv 1) ai))) (au (aN (iV (x:="section") (fr:=[("steps",3),("sayings",4),("person",2)]) (cl:=[("steps",s.heap.objs.size+1+1),("sayings",s.heap.objs.size+1+1+1),("person",s.heap.objs.size+1)]) rfl (.fk ⟨rfl,⟨rfl,⟨rfl,trivial⟩⟩⟩ ⟨⟨rfl,.inl rfl,.inl rfl,rfl⟩,⟨⟨rfl,.inl rfl,.inl rfl,rfl⟩,⟨⟨rfl,.inl rfl,.inl rfl,rfl⟩,trivial⟩⟩⟩) (eV rfl bl.dB (ae (pF K 0) ai)) (λ_ _ _ _=>fT) (λ_ _ _ _=>(pf rE hr (by omega) rfl (ae (pv 1) (ae (pv 2) (ae (pv 3) (ae (pv 0) ai))))))))))),?_⟩;have sz:(10000:Nat)<=sizeLine:=by rw[sizeLine_eq];omega
 obtain⟨dx,d0,mo,jn,wi,im,jf,iw,Lz,h1,_⟩:=id la;have n8:=gd.2.2.2.2;refine aX ⟨_,rfl,_,rfl,L,fa,xs,ys,R,rfl,la,gd,rl,ro,rn,λeP lR H1 n1 g1 bU sf=>?_⟩;refine aX ⟨_,rfl,fa,xs,ys,R,rfl,rl.same g1,ro,rn,λfw lT H2 n2 g2 q0 sd=>?_⟩;have c9:=g1.trans g2;refine⟨_,rfl,L,CL,dx,_,_,rfl,c9 _ _ h1,lc.cls,lc.zZ,rfl,(xs.length:Int),rfl,by omega,by omega,λD hD=>?_⟩;refine xi (lo:=0) (by omega) hD (λ_=>true) (λi y H'=>k_ D xs ys R nm H' i y) (λ_ _ _ _ b h=>h.bar b) (λi hi H3 g3 kg Kt Kf kt _=>?_) λzs H3 g3 h3 pr=>?_
 ·rw[Wq];have lC:i<xs.length:=by omega
  obtain⟨NN,kg⟩:=kg;refine fG (cg ⟨_,rfl,_,rfl,_,rfl,_,rfl,eP,fw,lR,lT,xs,ys,R,nm,(i:Int),rfl,g3 _ _ (g2 _ _ bU),sf.same (g2.trans g3),g3 _ _ q0,sd.same g3,gd,ro,zd,rn,⟨by omega,by omega⟩,λt wa W e H4 g4 nt Cz ht hw wn hb=>?_,λH4 g g4 cl gn rg=>?_⟩)
  ·obtain⟨as,ka,bW⟩:=hw;exact kt _ H4 rfl g4 (.inr ⟨t,wa,as,W,e,rfl,(λz=>by rw[z,kg] at nt;cases nt),(λz=>by rw[z,kg] at Cz;cases Cz),ht,ka,L2.Paired.bM bW λa s h=>⟨cv h (g4 _ _ kg) (λz=>by cases z),h⟩,wn,hb⟩)
  ·exact kt _ H4 rfl g4 (.inl ⟨rfl,g,cl,gn,rg⟩)
 ·rw[Yp,xy] at pr;exact q D zs H3 (c9.free hD) (c9.trans g3) h3 (L2.Paired.bM pr λ_ _ h=>h.it)
end
def RF(xs ys:List Int)(ps:aZ)(r:Rw)(c:Fc):Prop:=kZ xs ys ps.length c/\c.k=r.k/\r.a=aw ps c.one/\r.o=jR ps c
section
variable {xs ys:List Int}{ps:aZ}{R:List Rw}{F:List Fc}
theorem nm_app{q:Str×Str}{i:Nat}(h:i<ps.length):aw (ps++[q]) i=aw ps i:=by
 unfold aw;rw[Yt,Yt,Wb h]
theorem nm_last{q:Str×Str}:aw (ps++[q]) ps.length=q.1:=by
 unfold aw;rw[Yt,Wf (Yd _),Nat.sub_self];rfl
theorem Iq{q:Str×Str}{r:Rw}(h:gf xs ys ps r.k r.a r.o):∃c,RF xs ys (ps++[q]) r c:=by
 obtain⟨c,fg,e1,e2,e3⟩:=h;have lt:ps.length<=(ps++[q]).length:=by rw[Yj];omega
 refine⟨c,⟨⟨Yr fg.ok.one lt,λn=>let⟨⟨a1,a2⟩,a3⟩:=fg.ok.fN n;⟨⟨a1,Yr a2 lt⟩,a3⟩⟩,fg.kind,fg.gb⟩,e1,by rw[nm_app fg.ok.one];exact e2,?_⟩;rw[e3];by_cases s:c.k=bb;·rw[iP s,iP s]
 ·rw[iR s,iR s,nm_app (fg.ok.fN s).1.2]
theorem Ai{q:Str×Str}:∀{R:List Rw},(∀r∈R,gf xs ys ps r.k r.a r.o)->∃F,Paired (RF xs ys (ps++[q])) R F
 |[],_=>⟨[],.nil⟩
 |r::R,h=>by
  obtain⟨F,hF⟩:=Ai (q:=q) (R:=R) λr m=>h r (Yx _ m);obtain⟨c,hc⟩:=Iq (q:=q) (h r Yv);exact⟨c::F,.cons hc hF⟩
theorem Br(h:Paired (RF xs ys ps) R F){r:Rw}(m:r∈R):∃c∈F,RF xs ys ps r c:=by
 induction h with
 |nil=>cases m
 |cons e _ ih=>
  rcases Yw.mp m with rfl|m;·exact⟨_,Yv,e⟩
  ·obtain⟨c,mc,h⟩:=ih m;exact⟨c,Yx _ mc,h⟩
theorem vy(h:Paired (RF xs ys ps) R F){c:Fc}(m:c∈F):∃r∈R,RF xs ys ps r c:=by
 induction h with
 |nil=>cases m
 |cons e _ ih=>
  rcases Yw.mp m with rfl|m;·exact⟨_,Yv,e⟩
  ·obtain⟨c,mc,h⟩:=ih m;exact⟨c,Yx _ mc,h⟩
theorem Ir(h:Paired (RF xs ys ps) R F){H:Hp}{fa:Addr}(rl:RL H fa R):FL H ps fa F:=by
 obtain⟨as,h1,h2⟩:=rl;refine⟨as,h1,?_⟩;clear h1;induction h generalizing as with
 |nil=>cases h2;exact .nil
 |cons e _ ih=>
  cases h2 with
  |cons e2 t2=>
   obtain⟨_,z1,z2,z3⟩:=e;unfold pV at e2;rw[←z1,z2,z3] at e2;exact .cons ⟨_,e2⟩ (ih _ t2)
theorem nm_inj(nd:(ps.map (·.1)).Nodup){i j:Nat}(hi:i<ps.length)(hj:j<ps.length)(e:aw ps i=aw ps j):i=j:=by
 have f:∀{k:Nat} (h:k<ps.length),aw ps k=(ps.map (·.1))[k]'(by rw[Ya];exact h):=λ{k} h=>by
  unfold aw;rw[Yt,Yf h,Jh];rfl
 rw[f hi,f hj] at e;exact(Je nd).mp e
noncomputable def wW (ps:aZ) (g:Nat->Option Int) (s:Str):Option Int:=open Classical in if h:∃i,i<ps.length/\aw ps i=s then g h.choose else none
theorem kU(nd:(ps.map (·.1)).Nodup){g:Nat->Option Int}{i:Nat}(hi:i<ps.length):wW ps g (aw ps i)=g i:=by
 have h:∃k,k<ps.length/\aw ps k=aw ps i:=⟨i,hi,rfl⟩;unfold wW;rw[dif_pos h,nm_inj nd h.choose_spec.1 hi h.choose_spec.2]
theorem Iu(h:Paired (RF xs ys ps) R F)(nd:(ps.map (·.1)).Nodup){n:Nat}{g:Nat->Option Int}(c:fE n F g):js xs ys R (wW ps g):=by
 refine⟨λe me u hu=>?_,λr mr i oi u hu=>?_⟩
 ·obtain⟨r,mr,b,w,ob,hw,rfl⟩:=oS me;obtain⟨c',mc,fg,e1,e2,e3⟩:=Br h mr;have ns:c'.k≠bb:=λz=>by rw[iP z] at e3;rw[e3] at ob;cases ob
  have eb:b=aw ps c'.cq.toNat:=by rw[iR ns] at e3;rw[e3] at ob;exact(Y3 ob).symm
  obtain⟨⟨_,o1⟩,_⟩:=fg.ok.fN ns;have et:cz xs ys r.k=c'.tn:=kL (by rw[←e1];exact fg.pD ns);rcases hw with rfl|rfl
  ·rw[k4] at hu⊢;dsimp only at hu⊢;rw[e2,kU nd fg.ok.one] at hu;rw[eb,kU nd o1,et];exact c.1 _ _ _ u ⟨c',mc,ns,.inl ⟨rfl,rfl,rfl⟩⟩ hu
  ·rw[mW] at hu⊢;dsimp only at hu⊢;rw[eb,kU nd o1] at hu;rw[e2,kU nd fg.ok.one,et];exact c.1 _ _ _ u ⟨c',mc,ns,.inr ⟨rfl,rfl,rfl⟩⟩ hu
 ·obtain⟨c',mc,fg,e1,e2,e3⟩:=Br h mr;have sk:c'.k=bb:=by
   by_cases z:c'.k=bb;·exact z
   ·rw[iR z] at e3;rw[e3] at oi;cases oi
  rw[e2,kU nd fg.ok.one] at hu;rw[iP sk,oi] at e3;rw[W3 e3];exact c.2.1 c' mc sk u hu
theorem Iv(h:Paired (RF xs ys ps) R F){g:Str->Option Int}(c:js xs ys R g)(rg:∀s v,g s=some v->0<=v/\v<(xs.length:Int)):fE xs.length F (λk=>g (aw ps k)):=by
 refine⟨λx y t u ⟨c',mc,ns,hd⟩ hu=>?_,λc' mc sk u hu=>?_,λk v e=>rg _ _ e⟩
 ·obtain⟨r,mr,fg,e1,e2,e3⟩:=vy h mc;rw[iR ns] at e3;have et:cz xs ys r.k=c'.tn:=kL (by rw[←e1];exact fg.pD ns);rcases hd with⟨rfl,rfl,rfl⟩|⟨rfl,rfl,rfl⟩
  ·have:=c.vp _ (kP (xs:=xs) (ys:=ys) mr e3 (.inl rfl)) u;rw[k4] at this;dsimp only at this;rw[e2,et] at this;exact this hu
  ·have:=c.vp _ (kP (xs:=xs) (ys:=ys) mr e3 (.inr rfl)) u;rw[mW] at this;dsimp only at this;rw[e2,et] at this;exact this hu
 ·obtain⟨r,mr,fg,e1,e2,e3⟩:=vy h mc;rw[iP sk] at e3;exact c.gb r mr _ e3 u (by rw[e2];exact hu)
open Classical in
theorem Gp(h:Paired (RF xs ys ps) R F)(nd:(ps.map (·.1)).Nodup)(ro:∀r∈R,de xs ys r){x i:Nat}{H:Hp}{v:V}(hx:x<ps.length)(hi:i<xs.length)(it:wV xs ys R (aw ps x) H i v):((i:Int)∈i5 F xs.length x/\v=.aD)\/((i:Int)∉i5 F xs.length x/\∃(t wa:Addr) (W:List (Int×Int)) (e:Option Int),v=.ref t/\H t=some (.tup [.ref wa,ng e])/\WL H wa W/\W.length<=400/\dQ xs ys R (aw ps x) (i:Int) W e=true):=by
 unfold i5;rcases it with⟨rfl,g,c,gn,rg⟩|⟨t,wa,W,e,h1,h2,h3,h4,h5⟩;·exact .inl ⟨Wt.mpr ⟨Yk (dZ hi),decide_eq_true ⟨_,Iv h c rg,gn⟩⟩,rfl⟩
 ·refine .inr ⟨λm=>?_,t,wa,W,e,h1,h2,h3,h4,h5⟩;obtain⟨g,c,gx⟩:=of_decide_eq_true (Wt.mp m).2;exact Hm ro h5 (Iu h nd c) (by rw[kU nd hx];exact gx)
end
def pH(K:ag):Sp:=λvs H Q _=>∃(a:Addr) (ns:List Int),vs=[.ref a]/\ak K H a (ns.map V.int)/\ns.length<=63/\∀H',Q (.bl true) H'
section
variable {K:ag}{mg:aG}
abbrev pY:List Str:=["_law_script"]
theorem cX:a7 ["_law_script","_law_size","_law_mother","_law_wife","_law_turns_here","_law_land","_law_names","_law_sides","_law_place","_law_facts","_law_begin","_law_few","_law_name_here","_law_handed","_law_told","_law_room_here","_law_section"] pY (aL jH):=.bw
theorem Ho(F:aP K "law" "law" jH f fd)(eU:HasFn P w K mg base 1 "_law_cell" nN (uh K))(eS:HasFn P w K mg base 1 "_law_draws" lD (mq K))(oF:HasFn P w K mg base 2 "_law_row" u4 AF)(su:HasFn P w K mg base 2 "_law_turns" vc zf)(sT:HasFn P w K mg base 2 "_law_folk" vj (Ab K))(sU:HasFn P w K mg base 3 "_law_rows" vk (zi K))(sV:HasFn P w K mg base 3 "_law_room" va z7)(sW:HasFn P w K mg base 2 "_law_bars" vh Aa)(tF:HasFn P w K mg base 4 "barring" vw (x_ CL))
  (tG:HasFn P w K mg base 7 "land_of" qG (yv CL))(bl:Bl mg):aH P w K mg base (qw P w) 16 f fd pY (pH K):=by
 refine F.Kj cX (λvs H Q E h=>?_) (λa_ A outer s H vs Q E hr h=>?_)
 ·obtain⟨a,ns,rfl,_⟩:=h;rfl
 obtain⟨a,ns,rfl,hs,hlen,q⟩:=h;have hu:=hr.ub;refine⟨_,(ao (aR 0 cX.nd (ye (yn (K:=K) rfl) (pv 0) yO (yP aq))) (ao (aR 1 cX.nd (az cN aq (az bZ (aM eU hr (ae (pv 0) (ae aq ai))) aq))) (ao (aR 2 cX.nd (aM oF hr (ae (aM eU hr (ae (pv 0) (ae aq ai))) (ae (pv 1) ai)))) (ao (aR 3 cX.nd (aM oF hr (ae (aM eU hr (ae (pv 0) (ae aq ai))) (ae (pv 1) ai)))) (ao (aR 4 cX.nd (aM su hr (ae (pv 2) (ae (pv 3) ai)))) (ao (aR 5 cX.nd (aM tG hr (ae (pv 2) (ae (pv 3) ai)))) (ao (oV (aM sT hr (ae (pv 0) (ae (az bZ (aM eU hr (ae (pv 0) (ae aq ai))) aq) ai))) (d7 (K:=K) (n:=2) rfl rfl (ba (jA (i:=6) cX.nd rfl (Or.inr rfl)) (ba (aS 7 cX.nd) d5)))) (ao (aR 8 cX.nd (aM eS hr (ae (az cN (aM eU hr (ae (pv 0) (ae aq ai))) aq) (ae (cE (ae aq (ae aq ai))) ai)))) (ao (aR 9 cX.nd (aM sU hr (ae (ye (yn (K:=K) rfl) (pv 0) (yP aq) yO) (ae (pv 6) (ae (pv 7) (ae (pv 1) (ae (az cN (aK (iL K) (pv 8) aq) (az fC aq (aK (iL K) (pv 8) aq))) ai))))))) (ao (dm (i:=10) cX.nd rfl (Or.inr rfl) (az bZ (aM eU hr (ae (pv 0) (ae aq ai))) aq)) (ao (xt (i:=11) (x:="_law_k") (fr:=[("_law_names",6),("_law_begin",10)]) (cl:=[("_law_names",s.heap.objs.size+1),("_law_begin",s.heap.objs.size+1+1)]) rfl cX.nd rfl (Or.inl rfl) (.fk ⟨rfl,⟨rfl,trivial⟩⟩ ⟨⟨rfl,.inl rfl,.inl rfl,rfl⟩,⟨⟨rfl,.inl rfl,.inl rfl,rfl⟩,trivial⟩⟩) (eV rfl bl.dB (ae (iQ (El rfl) rfl bl.HY GW (ae aq (ae (bY K bl (pv 6)) ai))) ai)) (λ_ _ _ _=>fT) (λ_ _ _ _=>(aK (iL K) (pv 1) (az bZ (az cN (pv 2) (pv 0)) (bY K bl (pv 1)))))) (ao (cK A_ rfl (dy (K:=K) rfl (az oP (pv 11) (cE (ae bH ai)))) (aS 12 cX.nd) (ao (aR 13 cX.nd (cU (C8 (K:=K) rfl) rfl bl.mN mn (ae (pv 9) ai))) (ao (aR 14 cX.nd (aM tF hr (ae (pv 5) (ae (pv 13) (ae (pv 12) ai))))) (ao (bj (PW.pt (pw_or (bx (Ha (K:=K) rfl hu) (pv 13) (pv 9)) (pw_or (hV (fB (j8 K bl (pv 14) (jE rfl bl.mN mn)))) (pw_or1 (bx dM (bY K bl (pv 14)) (pv 1)))))) (au (aN hX)) bD) (ao (aR 15 cX.nd (aM sV hr (ae (pv 9) (ae (pv 4) (ae (pv 12) ai))))) (au (cK A_ rfl (eV rfl bl.dB (ae (pv 1) ai)) (aS 16 cX.nd) (au (bj (tR (Kk (K:=K) rfl) (pv 16) (pv 15) (by with_unfolding_all rfl)) (au (bj (bx tQ (aK (iL K) (pv 14) (pv 16)) hU) (au (aN hX)) bD)) (au (bj (hV (fB (aM sW hr (ae (pv 9) (ae (pv 4) (ae (pv 12) (ae (pv 16) (ae (aK (iL K) (pv 14) (pv 16)) ai)))))))) (au (aN hX)) bD))))))))))) (au (aN hX)))))))))))))),?_⟩;have sz:(10000:Nat)<=sizeLine:=by rw[sizeLine_eq];omega
 obtain⟨ms,em⟩:=yh ns none (some 63);have NO:ms.length<=ns.length:=by
  have:=rZ (ns.map V.int) none (some 63);rw[em,Ya,Ya] at this;exact this
 obtain⟨cs,ec⟩:=yh ms (some 5) none;have lcs:cs.length<=63:=by
  have:=rZ (ms.map V.int) (some 5) none;rw[ec,Ya,Ya] at this;omega
 refine aX ?_;refine⟨_,rfl,_,rfl,a,_,rfl,hs,λs1 H0 n1 g0 iK=>?_⟩;rw[em] at iK;refine aX ?_;refine⟨_,rfl,s1,ms,0,rfl,ak.of iK,Int.le_refl 0,λc0=>⟨_,_,rfl,rfl,(by show(0:Int)<7;decide),_,_,rfl,rfl,?_⟩⟩;try dsimp only
 have m0:=Y7 c0 (show(7:Int)≠0 by decide);have m1:=Y4 c0 (show(0:Int)<7 by decide);obtain⟨n,en⟩:∃n:Nat,2+c0 % 7=(n:Int):=⟨(2+c0 % 7).toNat,by omega⟩;rw[en];have n2:2<=n:=by omega
 have n8:n<=8:=by omega
 refine aX ?_;refine⟨_,rfl,s1,ms,1,rfl,ak.of iK,by decide,λc1=>⟨_,rfl,c1,n,rfl,by omega,by omega,λm xs H1 nm g1 hM px=>?_⟩⟩;refine aX ?_;refine⟨_,rfl,s1,ms,2,rfl,ak.of (g1 _ _ iK),by decide,λc2=>⟨_,rfl,c2,n,rfl,by omega,by omega,λwi ys H2 nw g2 hW py=>?_⟩⟩;have lx:xs.length=n:=by rw[px.length_eq,cD]
 have ly:ys.length=n:=by rw[py.length_eq,cD]
 have gd:cO xs ys:=⟨kJ px,kJ py,by omega,by omega,by omega⟩;clear px py ly;subst lx;refine aX ?_;refine⟨_,rfl,_,rfl,m,wi,xs,ys,rfl,g2 _ _ hM,hW,gd,λtd H3 NP g3 ht=>?_⟩;have Cn:=(g1.trans g2).trans g3;refine aX ?_;refine⟨_,rfl,_,rfl,m,wi,xs,ys,rfl,g3 _ _ (g2 _ _ hM),g3 _ _ hW,gd.1,gd.2.1,gd.2.2.1,gd.2.2.2.1,gd.2.2.2.2,λLd H4 g4 la=>?_⟩;have fP:=Cn.trans g4;refine⟨_,rfl,_,rfl,s1,ms,3,rfl,ak.of (fP _ _ iK),by decide,λc3=>⟨_,_,rfl,rfl,(by show(0:Int)<97;decide),?_⟩⟩;try dsimp only
 have z0:=Y7 c3 (show(97:Int)≠0 by decide);have z1:=Y4 c3 (show(0:Int)<97 by decide);obtain⟨z,ez⟩:∃z:Nat,c3 % 97=(z:Int):=⟨(c3 % 97).toNat,by omega⟩;rw[ez];refine⟨s1,ms,z,rfl,ak.of (fP _ _ iK),by omega,λt nl sd ps H5 g5 iF hn LV nd v9 p0 pl=>⟨t,_,rfl,ay.of iF,rfl,_,_,rfl,aJ ⟨_,_,rfl,aJ ⟨rfl,?_⟩⟩⟩⟩;have n5:=fP.trans g5;refine aX ?_;refine⟨_,rfl,s1,ms,3,rfl,ak.of (n5 _ _ iK),by decide,λNQ=>⟨_,_,rfl,rfl,by show 2<=sizeLine;omega,λpp H6 NR g6 LW=>⟨_,pp,[4,61],rfl,ak.of LW,by decide,by decide,λpq ds H7 Ll g7 h7 bd=>?_⟩⟩⟩;obtain⟨p1,p2,rfl,b1,b2⟩:=y9 bd;have CA:=g6.trans g7;have dX:=n5.trans CA;unfold Bd at b1 b2;refine aX ?_;refine⟨_,rfl,_,rfl,s1,_,rfl,ak.of (dX _ _ iK),λca H8 NS g8 CB=>?_⟩;rw[ec] at CB;have wH:=dX.trans g8;have fM:=CA.trans g8;refine⟨_,rfl,_,rfl,_,rfl,_,rfl,pq,_,_,_,rfl,rfl,ak.of (g8 _ _ h7),rfl,_,rfl,pq,_,_,_,rfl,rfl,ak.of (g8 _ _ h7),rfl,_,_,rfl,rfl,.inl ⟨by decide,by decide⟩,_,_,rfl,rfl,ca,nl,sd,ps,xs,ys,cs,_,rfl,CB,fM _ _ hn,fM _ _ LV,nd,p0,by omega,gd,lcs,λfl R H9 g9 rl rf zd rn=>?_⟩;have gK:=fM.trans g9;have LX:=wH.trans g9;have LY:=la.same ((g5.trans fM).trans g9);have CC:=ht.same ((g4.trans g5).trans gK);have CD:=gK _ _ hn;have LZ:=LX _ _ iK;have ro:∀r∈R,de xs ys r:=λr m=>(rf r m).ok;obtain⟨as,lN,bW⟩:=id rl;obtain⟨F,hF⟩:=Ai (q:=("stranger","")) rf;obtain⟨fz,n_⟩:∃fz:aZ,fz=ps++[(("stranger":Str),("":Str))]:=⟨_,rfl⟩;rw[←n_] at hF;have CF:(fz.map (·.1)).Nodup:=by
  rw[n_,Yo];refine Ww.mpr ⟨nd,by simp,λx mx y my e=>v9 ?_⟩;rw[Wk,Jj,Yh] at my;have ex:x="stranger":=e.trans my;rw[ex] at mx;exact mx
 have NT:fz.length=ps.length+1:=by rw[n_,Yj];rfl
 refine aX ?_;refine⟨_,rfl,s1,ms,5,rfl,ak.of LZ,by decide,λc5=>⟨_,_,rfl,rfl,(by show(0:Int)<61;decide),?_⟩⟩;try dsimp only
 obtain⟨cn,L0⟩:∃cn:Nat,(if(ps.length:Int)<5 then(ps.length:Int) else 5)=(cn:Int)/\cn<=5:=by
  by_cases c:(ps.length:Int)<5;·exact⟨ps.length,if_pos c,by omega⟩
  ·exact⟨5,if_neg c,Yd _⟩
 have L1:=tY ps;refine aX ?_;refine⟨_,rfl,nl,_,rfl,.inl (ak.of CD),5,(ps.length:Int),by rw[L1],?_⟩;rw[L0.1];refine⟨(cn:Int),rfl,by omega,by omega,λD hD=>?_⟩;refine DG (lo:=0) (by omega) hD (λi=>V.str (aw ps ((c5 % 61+(0+(i:Int))) % (ps.length:Int)).toNat)) (λi hi H1 g1 Kt kt=>Vt.oR (K:=K) (i:=1) (z:=c5 % 61+(0+(i:Int))) rfl (g1 _ _ CD) p0 (λkk hk=>⟨_,rfl,_,rfl,_,_,rfl,rfl,hk _ (ah.refl _)⟩) _ λH2 g2=>kt H2 g2) λHA gA hA=>?_;refine dk (λ_ _=>True) (λfq cu=>?_) (λσ H' _=>q H');have L3:=gA;refine⟨_,rfl,by show 1<=sizeLine;omega,λl1 HB Co gB nZ=>⟨D,l1,_,_,rfl,rfl,gB _ _ hA,nZ,by rw[Ya,Wc];show _+1<=sizeLine;omega,λlc HC NU gC CG=>⟨lc,rfl,⟨_,ak.of CG⟩,?_⟩⟩⟩;have L4:=(L3.trans gB).trans gC;refine dt (K:=K) (a:=lc) (λ_ σ H'=>∃(bc bL cC CH ki:Option V),ah HC H'/\σ=[some (.ref s1),some (.int (xs.length:Int)),some (.ref m),some (.ref wi),some (.ref td),some (.ref Ld),some (.ref nl),some (.ref sd),some (.ref pq),some (.ref fl),some (.int (c5 % 61)),some (.ref D),bc,bL,cC,CH,ki]) ⟨none,none,none,none,none,ah.refl _,rfl⟩ (λ_ σ H' _ ⟨_,_,_,_,_,g,_⟩=>ak.of (g _ _ CG)) ?_ (λσ H' _=>cu _ _ trivial);rintro k v σ HD hk ⟨bc,bL,cC,CH,ki,gD,rfl⟩;obtain⟨x,hx,rfl⟩:∃x,x<fz.length/\V.str (aw fz x)=v:=by
  rcases Yu.mp (Yk hk) with h|h
  ·obtain⟨i,_,rfl⟩:=Y6.mp h;have ml:=oX (z:=c5 % 61+(0+(i:Int))) p0;exact⟨((c5 % 61+(0+(i:Int))) % (ps.length:Int)).toNat,by omega,by rw[n_,nm_app (by omega)]⟩
  ·rw[Yh.mp h];exact⟨ps.length,by omega,by rw[n_,nm_last]⟩
 have CI:=L4.trans gD;refine aJ ?_;refine aX ?_;refine⟨_,rfl,fl,_,rfl,.inl (ak.of (CI _ _ lN)),λl2 HM NV gM jg=>?_⟩;have wX:=CI.trans gM;refine aX ?_;refine⟨_,rfl,_,rfl,_,rfl,Ld,l2,xs,ys,R,aw fz x,rfl,LY.same wX,gd,⟨as,jg,L2.Paired.bM bW λ_ _ e=>wX _ _ e⟩,ro,zd,rn,λp zs HN np gN hp CK=>?_⟩;have oa:=wX.trans gN;have zl:=cJ CK;rw[Wc] at zl;refine⟨_,rfl,_,rfl,l2,fl,as,rfl,rfl,ak.of (gN _ _ jg),ak.of (oa _ _ lN),_,rfl,bT ?_⟩;refine⟨_,rfl,_,_,_,true,rfl,.lst hp,zM,_,rfl,bT ?_⟩;refine⟨_,rfl,p,_,rfl,.inl (ak.of hp),_,rfl,rfl,_,rfl,?_⟩;rw[zl,decide_eq_true rfl];refine bT (bJ ?_);refine aX ?_;refine⟨_,rfl,_,rfl,_,rfl,fl,td,fz,xs,ys,F,x,rfl,Ir hF (rl.same oa),CC.same oa,CF,λc mc=>(vy hF mc).elim λr fm=>fm.2.1,gd.2.2.2.2,by omega,by rw[←cJ hF];exact rn,hx,λra HO NW gO L5=>?_⟩;have NX:=oa.trans gO;refine⟨_,rfl,(xs.length:Int),rfl,by omega,by omega,l3 (lo:=0) (n:=(xs.length:Int).toNat) (λ_ σ H'=>∃(ki:Option V),ah HO H'/\σ=[some (.ref s1),some (.int (xs.length:Int)),some (.ref m),some (.ref wi),some (.ref td),some (.ref Ld),some (.ref nl),some (.ref sd),some (.ref pq),some (.ref fl),some (.int (c5 % 61)),some (.ref D),some (.str (aw fz x)),some (.ref l2),some (.ref p),some (.ref ra),ki]) ⟨_,ah.refl _,rfl⟩ ?_ (λσ H' ⟨_,g,e⟩=>⟨_,_,_,_,_,((gD.trans gM).trans (gN.trans gO)).trans g,e⟩)⟩;rintro i σ HP hi ⟨ki,gP,rfl⟩;rw[Yp] at hi;rw[Wq];refine aJ ?_;have iz:i<zs.length:=by omega
 have ev:zs[i]?=some zs[i]:=Yf iz;obtain⟨i',ei,it⟩:=eT CK ev;obtain rfl:i=i':=by rw[W1 (by omega)] at ei;exact Yb ei
 have rj:=gO.trans gP;have CM:=oa.trans rj;have CN:=rj _ _ hp;have kd:c6 zs (i:Int)=some zs[i]:=jB ev;have fin:∃ki:Option V,ah HO HP/\[some (.ref s1),some (.int (xs.length:Int)),some (.ref m),some (.ref wi),some (.ref td),some (.ref Ld),some (.ref nl),some (.ref sd),some (.ref pq),some (.ref fl),some (.int (c5 % 61)),some (.ref D),some (.str (aw fz x)),some (.ref l2),some (.ref p),some (.ref ra),some (.int (i:Int))]=([some (.ref s1),some (.int (xs.length:Int)),some (.ref m),some (.ref wi),some (.ref td),some (.ref Ld),some (.ref nl),some (.ref sd),some (.ref pq),some (.ref fl),some (.int (c5 % 61)),some (.ref D),some (.str (aw fz x)),some (.ref l2),some (.ref p),some (.ref ra),ki]:St):=⟨_,gP,rfl⟩;refine⟨_,rfl,_,rfl,ra,_,rfl,.inl (ak.of (gP _ _ L5)),rfl,by rw[List.all_map];exact Jf.mpr λ_ _=>rfl,_,rfl,?_⟩;have inr:j1 (.int (i:Int)) ((i5 F xs.length x).map V.int)=true↔(i:Int)∈i5 F xs.length x:=by
  unfold j1;rw[List.any_map,Jg];constructor
  ·rintro⟨b,mb,e⟩;have:b=(i:Int):=by
    have e:(b==(i:Int))=true:=e;exact beq_iff_eq.mp e
   rw[←this];exact mb
  ·exact λmb=>⟨_,mb,by show((i:Int)==(i:Int))=true;exact beq_iff_eq.mpr rfl⟩
 rcases Gp hF CF ro hx (by omega) it with⟨mr,e0⟩|⟨mr,t,wa,W,e,e0,h2,h3,h4,h5⟩
 ·refine bR (λ_=>?_) (λc=>absurd (inr.mpr mr) c);refine⟨_,rfl,_,rfl,p,_,_,_,rfl,rfl,ak.of CN,kd,rfl,_,rfl,?_⟩;rw[e0,decide_eq_true rfl];exact bT (bJ fin)
 ·refine bR (λc=>absurd (inr.mp c) mr) (λ_=>?_);refine⟨_,rfl,_,rfl,_,rfl,_,rfl,_,rfl,_,rfl,p,_,_,_,rfl,rfl,ak.of CN,kd,fl,td,t,wa,xs,ys,R,aw fz x,(i:Int),W,e,by rw[e0];rfl,CC.same CM,gd,rl.same CM,ro,zd,rn,rj _ _ h2,h3.same rj,h4,⟨by omega,by omega⟩,λHQ gQ=>⟨_,rfl,?_⟩⟩;rw[h5];exact bT (bJ ⟨_,gP.trans gQ,rfl⟩)
end
theorem all_mk{l:PySem.W.OpenLaw}{w:World}{K:ag}{h:Heap}{mg:aG}{fa:Addr}(X:K.In h)(G:h.Ns mainGlobals mg)(c7:mg "law"=some (.ref fa))
  (p1:bh K "is_turn" sZ f1)
  (p2:bh K "still" tV f2)
  (p3:bh K "behind" tK f3)
  (p4:bh K "back" uk f4)
  (p5:bh K "check_turn" rQ f5)
  (p6:bh K "check_rows" rR f6)
  (p7:bh K "check_parents" rq f7)
  (p8:bh K "land_of" s_ f8)
  (p9:bh K "followed" sv f9)
  (gU:bh K "turned_back" rH NY)
  (iG:bh K "is_tie" tL NZ)
  (iH:bh K "tie_step" sy N0)
  (iI:bh K "tie_steps" r8 N1)
  (iJ:bh K "barring" tf N2)
  (L6:bh K "steps_from" rS N3)
  (L7:bh K "sayings_about" rA N4)
  (L8:bh K "paper_against" rB N5)
  (L9:bh K "gainsaid" sA N6)
  (L_:bh K "turned_round" rF N7)
  (Ma:bh K "_law_cell" xD N8)
  (Mb:bh K "_law_draws" xk N9)
  (Mc:bh K "_law_turn" xE N_)
  (Md:bh K "_law_row" tj Oa)
  (Me:bh K "_law_inverse" rJ Ob)
  (Mf:bh K "_law_after" r9 Oc)
  (Mg:bh K "_law_turns" r_ Od)
  (Mh:bh K "_law_nets" sC Oe)
  (Mi:bh K "_law_carried" rK Of)
  (Mj:bh K "_law_room" sD Og)
  (Ml:bh K "_law_name" sE Oh)
  (Mm:bh K "_law_pick" sF Oi)
  (Mn:bh K "_law_fact" sG Oj)
  (Mo:bh K "_law_folk" sH Ol)
  (Mp:bh K "_law_rows" sI Om)
  (Mq:bh K "_law_bars" sJ Oo)
  (Mr:bh K "_law_number" rT Oq)
  (Ms:bh K "law" jH Ot)
  (z:jj K ["len","abs","list","range","tuple","any","all","isinstance","bool","int","str","sorted","min","max","sum","dict","reversed","ValueError"])
  (Dd:nsIn K mainGlobals "LEAST_SIZE"=some (some (.int (2) Mt)))
  (Ds:nsIn K mainGlobals "MOST_SIZE"=some (some (.int (8) Mv)))
  (Fy:nsIn K mainGlobals "FORTH"=some (some (.int (1) MB)))
  (Gq:nsIn K mainGlobals "BACK"=some (some (.int (-1) MC)))
  (C2:nsIn K mainGlobals "TIE_LETTERS"=some (some (.ref eR)))
  (wZ:PyProof.Rows.KTD.tabLook PyProof.Rows.KTD.flatLooks (λb=>K.lookup b) eR [("mother",PyData.str "m"),("father",PyData.str "f"),("wed",PyData.str "w"),("sibling",PyData.str "s")]=true)
  (Dt:nsIn K mainGlobals "WAYS_BACK"=some (some (.ref kz)))
  (Du:PyProof.Rows.KTD.tabLook PyProof.Rows.KTD.flatLooks (λb=>K.lookup b) kz [("m",PyData.str "c"),("c",PyData.str "m"),("f",PyData.str "k"),("k",PyData.str "f"),("w",PyData.str "h"),("h",PyData.str "w"),("s",PyData.str "s")]=true)
  (Gr:nsIn K mainGlobals "SAID"=some (some (.str "said" ME)))
  (Hq:vM K "Land" kX)
  (lc:mV K kX)
  (DP:ji K kX "__init__" "Land.__init__" se Mw)
  (DQ:ji K kX "step" "Land.step" sg Mx)
  :∃fd:FuncData,(∀(s:Shared) (v:Value),BindsTo s fd ⟨[v],[]⟩ [("_law_script",v)])/\∀base:Heap,K.In base->base.Ns mainGlobals mg->aH l.prog w K mg base (qw l.prog w) 16 fa fd pY (pH K):=by
 obtain @⟨od,an,sl,oc,kV,dc,pm,cd,ct,ax,lx,cx,kx⟩:=Ms;have e:=c7.symm.trans (mg_of X G ax);cases e;have bl:=z.bl X G;have rV:=mg_of X G Dd;have sh:=mg_of X G Ds;have kN:=mg_of X G Fy;have uv:=mg_of X G Gq;have kr:=mg_of X G C2;have sj:=mg_of X G Dt;have uu:=mg_of X G Gr;have Hr:=lc.cls;refine⟨fnOf "law" "law" (hG jH) (eW jH) (aL jH) .none kV dc pm an cd ct,λs v=>.of_eq rfl,λbase _ _=>?_⟩;have F:=mJ (st:=jH) lx cx kx;have D:fj l.prog w K mg base:=⟨X,G⟩;have eU:=D.d Ma (λ_ F=>F3 F bl.Aw);have eS:=D.d Mb (λ_ F=>E_ F bl.HV);have kF:=D.d p1 (λ_ F=>D3 F bl);have sL:=D.d p9 (λ_ F=>DI F bl);have rL:=D.d gU (λ_ F=>C0 F bl);have tX:=D.d p2 (λ_ F=>Fd F bl);have sr:=D.m Hr DQ (λ_ F=>F9 F lc);have si:=D.d Mf (λ_ F=>Dn F bl);have fR:=D.d Me (λ_ F=>D8 F bl);have tN:=D.d iG (λ_ F=>EF F kr wZ);have rN:=D.d Mi (λ_ F=>Ea F bl);have oA:=D.d Mm (λ_ F=>DJ F bl);have sO:=D.d Ml (λ_ F=>DK F bl);have sQ:=D.d iH (λ_ F=>DL F kr wZ sj Du kN);have lU:=D.d Mr (λ_ F=>EG F bl);have rG:=D.d L_ (λ_ F=>CW F bl);have sR:=D.d L9 (λ_ F=>DN F bl);have rD:=D.d L7 (λ_ F=>Ec F uu bl);have sM:=D.d Mc (λ_ F=>F4 F bl.mN bl.dB bl.fU);have ju:=D.d p5 (λ_ F=>He F kF);have ku:=D.d p6 (λ_ F=>F7 F kF rV sh bl);have oF:=D.d Md (λ_ F=>D7 F eS sM bl);have sN:=D.d Mh (λ_ F=>Ga F fR bl);have su:=D.d Mg (λ_ F=>Fm F fR si bl);have sW:=D.d Mq (λ_ F=>Gh F lU fR bl);have sP:=D.d Mn (λ_ F=>DM F oA bl);have sT:=D.d Mo (λ_ F=>Gk F eU eS sO bl);have sq:=D.d iI (λ_ F=>Dr F kN uv tN sQ bl);have rE:=D.d L8 (λ_ F=>CS F sR rG bl);have kI:=D.d p3 (λ_ F=>Il F ju sL bl);have mQ:=D.d p4 (λ_ F=>Im F ju rL bl);have sV:=D.d Mj (λ_ F=>Gd F sN rN bl);have sU:=D.d Mp (λ_ F=>Fs F eS sP bl);have rX:=D.d L6 (λ_ F=>Dc (CL:=kX) F lc sq sr bl);have rC:=D.d p7 (λ_ F=>D4 F kI bl);have tF:=D.d iJ (λ_ F=>Ef (CL:=kX) F lc rX rD rE bl);have uo:=D.j Hq DP (λ_ F=>F8 F lc ku rC mQ tX bl);have tG:=D.d p8 (λ_ F=>D6 (C:=kX) F ku kI uo);exact Ho F eU eS oF su sT sU sV sW tF tG bl
theorem walk{l:PySem.W.OpenLaw}{q:Program}{loose:List Str}{XP:(Str->Option Value)->Heap->Prop}{YP:World->Heap->Prop}{d:DefRec}{K:Params->ag}(hn:l.most=some 63)(nI:d.params.defaults=[])
  (hY:∀(w:World) (h:Heap),YP w h->(K w.params).In h)
  (F:∀(w:World) (mg:aG) (fa:Addr) (h:Heap),(K w.params).In h->h.Ns mainGlobals mg->mg d.name=some (.ref fa)->
   ∃fd:FuncData,(∀(s:Shared) (u:Value),BindsTo s fd ⟨[u],[]⟩ [("_law_script",u)])/\∀base:Heap,(K w.params).In base->base.Ns mainGlobals mg->aH l.prog w (K w.params) mg base (qw l.prog w) 16 fa fd pY (pH (K w.params))):
  PySem.W.WalkO q loose XP YP l.row.toRowW d [] (λf vs=>PySem.call f vs):=
 L2.FP (n:=63) (k:=16) (x:="_law_script") (CX:=λw=>qw l.prog w) (sp:=λw=>pH (K w.params)) hn (by decide) nI ⟨rfl,by decide,by decide,rfl⟩ hY F (λ_ _ a ns hl _ hS=>⟨a,ns,rfl,hS,hl,λ_=>rfl⟩) λ_ _ _ _ _ h=>by obtain⟨_,_,_,_,_,_,_,_,_,_,_,_,_,_,z⟩:=h;exact z
end vO
namespace PySem.W.Fast
def tw4864439387138732349:=0
def tw10808123833766195414:=0
def tw8916727042932461922:=0
def tw8917504914566486914:=0
def tw3485733614860383106:=0
def tw13369620086234077188:=0
def tw1814053852238292934:=0
def tw15310049979485798791:=0
def tw7819161627605490856:=0
def tw1936030893362148968:=0
def tw11570007303286487656:=0
def tw9185230355041742027:=0
def tw6717483200223460939:=0
def tw11304749145362013835:=0
def tw10110608333441683083:=0
def tw16275865943443588397:=0
def tw6671775648482063504:=0
def tw7624238099383532945:=0
def tw11568157238917759346:=0
def tw14363147592569910834:=0
def tw15743685045354134708:=0
def tw15010308187563342676:=0
def tw12957197013164135382:=0
def tw9949884961611686711:=0
def tw4578158624636926873:=0
def tw10435898435300302556:=0
def tw9707114238751136542:=0
def tw17939255798652206878:=0
def tw8374613285060524168:=0
def tw13516712770835551441:=0
def tw745991078223845614:=0
def tw18117598216037681324:=0
def tw16959036583671843466:=0
def tw814629402539161780:=0
def tw2292580374346216806:=0
def tw16572909554076553834:=0
def tw17570721181280068471:=0
def tw15163495837410613309:=0
def tw9663431953276565064:=0
def tw15701482410136656637:=0
def tw9217005520823305561:=0
def tw7855576308001612405:=0
def tw2055414169508513837:=0
def tw14135553492221819459:=0
def tw283290728080943364:=0
def tw8123999987114886908:=0
def tw12101468559746444735:=0
def tw4777363061614528540:=0
def tw15533575474161715466:=0
def tw13591188579972991424:=0
def tw9006702272680166479:=0
def tw7881704483531857032:=0
def tw6592193650843429656:=0
def tw13534456809463401114:=0
def tw14658227481747570737:=0
def tw10192050522526439746:=0
def tw9796608074401680217:=0
def tw10320044906514798091:=0
def tw15498167074174063585:=0
def tw11200740432227440157:=0
def tw7664331877804729097:=0
def tw16941672501379324340:=0
def tw3306536959856372034:=0
def tw4359897901436573062:=0
def tw13458828997940390001:=0
def tw16118920879923539445:=0
def tw15398368039289273547:=0
def tw7132536003623754045:=0
def tw5322118472467304620:=0
def tw12100136002459798027:=0
def tw17832731488896140219:=0
def tw9870493547555893277:=0
def tw7859739696860650892:=0
def tw2186751845357370152:=0
def tw13829943944753505995:=0
def tw1381154395377293139:=0
def tw7819270030915940569:=0
def tw13259462008222931902:=0
def tw3633855866385192738:=0
def tw3576070682380512613:=0
def tw17367832597289537986:=0
def tw2849835160125490188:=0
def tw9292945642777449446:=0
def tw12912713648156733124:=0
def tw14923086047792217075:=0
def tw12695173124297554116:=0
def tw17450101236125492962:=0
def tw4284878584596628544:=0
def tw9578185590160429869:=0
def tw2062044602386209777:=0
def tw6987924098315641195:=0
def tw14200426163137298380:=0
def tw15355287405129283112:=0
def tw9812264355446769931:=0
def tw8752207272501722559:=0
def tw12994562210214500451:=0
def tw16728234593077436946:=0
def tw2101501861398418681:=0
def tw3539304759583279296:=0
def tw13837113765520583020:=0
def tw17810979371860851999:=0
def tw4049098951104466168:=0
def tw2474548977191615572:=0
def tw17255528374483705327:=0
def tw10597973272231828577:=0
def tw18175056644698110225:=0
def tw15194600656139504873:=0
def tw4979586975426909330:=0
def tw4390505201931274517:=0
def tw1479079150632618173:=0
def tw16755397885732796174:=0
def tw16383306290233485779:=0
def tw9109921862310221573:=0
def tw2032013095894364391:=0
def tw18174971548891899260:=0
def tw5760791167706245003:=0
def tw2977421264548512411:=0
def tw12559962629584778103:=0
def tw6190147413304347567:=0
def tw5953907495239840284:=0
def tw8239007466107492324:=0
def tw479202055435660710:=0
def tw2108065143926675509:=0
def tw6910656955467448524:=0
def tw6851527167437916349:=0
def tw2592366051114684634:=0
def tw13760024657954478543:=0
def tw10885104862777988998:=0
def tw5132575689221918776:=0
def tw648120728007102726:=0
def tw6349250102997592134:=0
def tw16613027024381245011:=0
def tw15316412119724351453:=0
def tw18234136054263075955:=0
def tw14482035674773402501:=0
def tw1663669470461620591:=0
def tw4459293585093086115:=0
def tw3211618364064926300:=0
def tw14694012461532804817:=0
def tw1364733559493213350:=0
def tw14534688015420328497:=0
def tw13035247991444133656:=0
def tw13019500708554002929:=0
def tw18159938044628717883:=0
def tw11435567008058420433:=0
def tw8656350208054766550:=0
def tw13900885834711431806:=0
def tw8057263808187144316:=0
def tw18307496339426024273:=0
def tw18395293600971971686:=0
def tw16975734063764047813:=0
def tw2050179974439356262:=0
def tw17187731971067684632:=0
def tw11313541984886749984:=0
def tw5222706491401573957:=0
def tw13754264612178511250:=0
def tw1065422783478249492:=0
def tw9467830066869368093:=0
def tw10720141437433701612:=0
def tw16554253247381937026:=0
def tw7597410103108131348:=0
def tw11283221059417736603:=0
def tw8787358176774844256:=0
def tw1380215932905259006:=0
def tw16899111177006101905:=0
def tw15689328807796814373:=0
def tw9849429033130381056:=0
def tw8069763313627187986:=0
def tw3048965912085966410:=0
def tw16525775221564980867:=0
def tw14290567234903828978:=0
def tw9836414830543151466:=0
def tw5224518236941887075:=0
def tw1525919744902562672:=0
def tw12065279678039135545:=0
def tw2005764588709237845:=0
def tw11668316854882769609:=0
def tw706998026283232190:=0
def tw7996338555242353620:=0
def tw17997978029582910092:=0
def tw16757296091063470708:=0
def tw10418513800512379598:=0
def tw17835472750333165194:=0
def tw1546110090891556166:=0
def tw8452198360140980015:=0
def tw7566811411643483165:=0
def tw5251369931121872261:=0
def tw4407969778043705981:=0
def tw3895930681717994622:=0
def tw11211314731507201483:=0
def tw9223233360731170068:=0
def tw16511563902741293643:=0
def tw14347069239258387586:=0
def tw14724024873034474856:=0
def tw12300702567847828534:=0
def tw7952704491417346924:=0
def tw7347558847204876076:=0
def tw6597094652829983032:=0
def tw6271913284910733348:=0
def tw610480907073254885:=0
def tw5387343651766650363:=0
def tw3659272754760209748:=0
def tw1815551474862995949:=0
def tw18059480206478881860:=0
def tw16692436712180869352:=0
def tw15438485810110253646:=0
def tw14967459820800178116:=0
def tw14405580629745156832:=0
def tw10469306087193195724:=0
def tw9197143331262592218:=0
def tw9121833001983779272:=0
def tw6930865567982087674:=0
def tw6601549916383027020:=0
def tw4293230584335456676:=0
def tw4227046243664795438:=0
def tw350391132867122874:=0
def tw3478115728997379134:=0
def tw18386446946951170147:=0
def tw18190965716402099669:=0
def tw17279825879439349397:=0
def tw14667394041679588417:=0
def tw13698057300324308713:=0
def tw13469900866663750630:=0
def tw12972384400664765231:=0
def tw12486306879719050212:=0
def tw1192477638817045693:=0
def tw11730858674510162253:=0
def tw11192736527986614347:=0
def tw11173094324886543093:=0
def tw5803349693748757784:=0
def tw1009123921432304293:=0
def tw7270932696266419169:=0
def tw4952131592158203229:=0
def tw4420666904073438365:=0
def tw3585795504940805369:=0
def tw1869851235758113604:=0
def tw8905358733503474392:=0
def tw11560002337989378318:=0
def tw11235751546246574424:=0
def tw6163255961480438440:=0
def tw7320175018648417761:=0
def tw10166467447404141945:=0
def tw7348000585795722768:=0
def tw214732758357122208:=0
def tw7224768331899604376:=0
def tw3894799744691961785:=0
def tw3429716832781879515:=0
def tw2596723156167999445:=0
def tw16514731517364146061:=0
def tw14744260307657225498:=0
def tw14094838133050679336:=0
def tw12557757813119691805:=0
def tw10354350322529266011:=0
def tw10254147733645046343:=0
def tw10014222867262197387:=0
def tw405878046139823224:=0
def tw8444084286090242270:=0
def tw5058479026605272411:=0
def tw2711887504860376893:=0
def tw15149787302275470613:=0
def tw10307009155298523914:=0
def tw4851321676145534812:=0
def tw16021379883825725978:=0
def tw17381485984178221210:=0
def tw2576315972053413084:=0
def tw1881000821440814556:=0
def tw8537058845978810132:=0
def tw15388394356709761903:=0
def tw14505916767523284631:=0
def tw13669368982951694116:=0
def tw9033355222255737832:=0
def tw6938044778775021110:=0
def tw5195765522152040867:=0
def tw374154001660717308:=0
def tw15389124548877944663:=0
def tw13460551798717533451:=0
def tw1286843761983742605:=0
def tw11577572111251254667:=0
def tw10347716316374379707:=0
def tw9901288816275934306:=0
def tw9865253816995295854:=0
def tw9682955798761395781:=0
def tw9402051988308994080:=0
def tw9077388098014899965:=0
def tw8870430288940043368:=0
def tw8296603234177532969:=0
def tw8044993167479050599:=0
def tw7913954693100877470:=0
def tw7849059291176271855:=0
def tw7830437164909071421:=0
def tw7762328128779369226:=0
def tw7718743943357629525:=0
def tw7709472846128297327:=0
def tw7370871449573803579:=0
def tw6759830620592877948:=0
def tw6709888229959392928:=0
def tw6421473361509565314:=0
def tw6396761751596614969:=0
def tw6380852293036751613:=0
def tw6362819355755198710:=0
def tw6343263475146019103:=0
def tw6319954568958256867:=0
def tw5888577683997424800:=0
def tw5885643194477786191:=0
def tw5847103994528202547:=0
def tw5677317778387198021:=0
def tw560407929670613671:=0
def tw5417231875071403591:=0
def tw512354255492936145:=0
def tw4468381724106410845:=0
def tw4012946453025385845:=0
def tw3983258030821484635:=0
def tw3726500371487628314:=0
def tw3645984752490714961:=0
def tw3477375230241819371:=0
def tw3168820085999040604:=0
def tw289880652732601021:=0
def tw2619439647791844767:=0
def tw2512988789035075098:=0
def tw207293359344026815:=0
def tw1966947869786635749:=0
def tw1877322168500874065:=0
def tw18407375730256955768:=0
def tw18380482685434559636:=0
def tw1823996253482584254:=0
def tw17885928362278588291:=0
def tw17698602560535059735:=0
def tw17648051110766607476:=0
def tw17601394511232232298:=0
def tw17349503023212724520:=0
def tw16751495992553306321:=0
def tw16615228859468325165:=0
def tw16418962208058370824:=0
def tw16099153450639559181:=0
def tw16067814934303845937:=0
def tw15854709445859305697:=0
def tw15631637332022281226:=0
def tw14997181885536023048:=0
def tw14815325869539333395:=0
def tw14811197965254363363:=0
def tw14734187610299764016:=0
def tw14371970460849656835:=0
def tw14171503938403677005:=0
def tw14096729660618874580:=0
def tw13980960075066286010:=0
def tw1388149081227336651:=0
def tw13403093750021325419:=0
def tw13372187373922081143:=0
end PySem.W.Fast
open PySem PySem.W PyProof.Rows
set_option maxRecDepth 100000 in
set_option maxHeartbeats 0 in
theorem PySem.Challenge.cw_kinhearth_k35_whole_papers_that_bar_holds : PySem.Challenge.rw_kinhearth_k35_whole_papers_that_bar.Holds := by
 w_on; o_law; k_head; (case hw=>w_witness2)
 k_fill
 refine vO.walk (l:=PySem.Challenge.rw_kinhearth_k35_whole_papers_that_bar) rfl rfl (λ w h Y=>kIn_of Y) ?F
 case F=>
  intro w mg fa h KX G nJ
  apply vO.all_mk KX G nJ <;> repeat' first | k_is | (show _=_; k_is) | kernel_rfl | constructor
