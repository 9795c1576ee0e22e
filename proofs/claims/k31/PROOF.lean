import PyProof.Rows.All
import Wide.All
import OpenK.AllK
import Wide.FinOn
import Lean
import PyProof.EqAt
import PyProof.EqKinds
import PyProof.TupleCall
import PyProof.NeKinds
import PyProof.ConsumeWalk
import PyProof.ListRange
import PyProof.TupleOfSeq
import PyProof.Rows.SortWalk
import PyProof.CompFree
import PySem.Challenge.RW_kinhearth_k31_dealings_of_a_book
set_option Elab.async false
set_option linter.all false
set_option maxRecDepth 100000
set_option maxHeartbeats 4000000
open PySem
open PySem.W (instObj methodObj lookIn plainGet hasDictIn handedIn plainGet_of isFn plainOver takerIn makesIn typeIn emptyDict keepIn kitOne kia_one kitx_list kitx_dict callWith_K methodCall_KW cellsFrom_some fnOf codeIn nsIn mg_of mg_none_of kIn_of)
open PySem.F (slot_tuple_add slot_dict_delitem slot_dict_pop slot_dict_get entry_dict_get plainAttrs_dict type_dict_get plainAttrs_list)
abbrev Ya:=@List.length_map
abbrev Yb:=@Heap.get?_push_of_some
abbrev Yc:=@List.getElem?_eq_getElem
abbrev Yd:=@Nat.le_refl
abbrev Ye:=@List.mem_of_getElem?
abbrev Yf:=@List.mem_map
abbrev Yg:=@List.getElem?_map
abbrev Yh:=@List.getElem?_eq_some_iff
abbrev Yi:=@Bool.false_ne_true
abbrev Yj:=@List.getD_eq_getElem?_getD
abbrev Yk:=@List.mem_cons_self
abbrev Yl:=@List.length_append
abbrev Ym:=@List.map_append
abbrev Yn:=@Heap.get?_push_size
abbrev Yo:=@List.mem_singleton
abbrev Yp:=@List.mem_cons
abbrev Yq:=@List.mem_append_right
abbrev Yr:=@List.mem_append_left
abbrev Ys:=@Option.some.inj
abbrev Yt:=@List.size_toArray
abbrev Yu:=@List.mem_append
abbrev Yv:=@Heap.lt_size
abbrev Yw:=@Nat.zero_le
abbrev Yx:=@List.mem_cons_of_mem
abbrev Yy:=@List.take_add_one
abbrev Yz:=@Nat.ne_of_lt
abbrev Y0:=@Nat.lt_of_lt_of_le
abbrev Y1:=@List.nodup_cons
abbrev Y2:=@List.not_mem_nil
abbrev Y3:=@List.mem_filter
abbrev Y4:=@Nat.le_trans
abbrev Y5:=@List.getElem?_eq_none
abbrev Y6:=@Int.toNat_natCast
abbrev Y7:=@Nat.lt_irrefl
abbrev Y8:=@List.take_length
abbrev Y9:=@Array.getD_eq_getD_getElem?
abbrev Wa:=@List.length_take
abbrev Wb:=@List.filter_append
abbrev Wc:=@List.map_map
abbrev Wd:=@List.getElem?_append_left
abbrev We:=@Sum.inr.inj
abbrev Wf:=@List.append_nil
abbrev Wg:=@List.filter_cons
abbrev Wh:=@List.mem_range
abbrev Wi:=@Bool.eq_iff_iff
abbrev Wj:=@Nat.not_lt_zero
abbrev Wk:=@List.length_filter_le
abbrev Wl:=@List.length_cons
abbrev Wm:=@Bool.and_eq_true
abbrev Wn:=@List.all_eq_true
abbrev Wo:=@List.map_congr_left
abbrev Wp:=@List.map_cons
abbrev Wq:=@List.mem_iff_getElem
abbrev Wr:=@List.nodup_iff_pairwise_ne
abbrev Ws:=@List.take_of_length_le
abbrev Wt:=@Nat.lt_succ_of_lt
abbrev Wu:=@List.pairwise_map
abbrev Wv:=@List.ext_getElem?
abbrev Ww:=@List.nodup_append
abbrev Wx:=@Nat.le_succ_of_le
abbrev Wy:=@List.pairwise_iff_getElem
abbrev Wz:=@List.length_replicate
abbrev W0:=@Int.emod_lt_of_pos
abbrev W1:=@List.lookup_cons
abbrev W3:=@Array.length_toList
abbrev W4:=@List.length_zip
abbrev W5:=@Nat.lt_of_le_of_lt
abbrev W6:=@Heap.size_push
abbrev W7:=@Array.getElem?_eq_getElem
abbrev W8:=@List.nodup_nil
abbrev W9:=@Option.isSome_iff_exists
abbrev Ja:=@List.length_set
abbrev Jb:=@Int.emod_nonneg
abbrev Jc:=@List.all_cons
abbrev Jd:=@Nat.lt_succ_self
abbrev Je:=@List.mem_filterMap
abbrev Jf:=@List.filter_filter
abbrev Jg:=@Nat.le_of_ble_eq_true
abbrev Jh:=@List.any_cons
abbrev Ji:=@Heap.get?_push_ne
abbrev Jj:=@List.append_assoc
abbrev Jk:=@List.getElem?_append_right
abbrev Jl:=@Array.perm_iff_toList_perm
abbrev Jm:=@List.getElem_mem
abbrev Jn:=@Int.toNat_of_nonneg
abbrev Jo:=@Nat.le_of_lt
abbrev Jp:=@List.filter_cons_of_pos
abbrev Jq:=@List.filter_map
abbrev Jr:=@Bool.true_and
abbrev Js:=@Array.getElem?_eq_none
abbrev Jt:=@Bool.eq_false_iff
abbrev Ju:=@Nat.ne_of_gt
abbrev Jv:=@Heap.get?_update_self
abbrev Jw:=@Array.getElem?_toList
abbrev Jx:=@List.Pairwise.and_mem
abbrev Jy:=@List.any_eq_true
abbrev Jz:=@List.length_drop
abbrev J0:=@Bool.false_or
abbrev J1:=@List.filterMap_cons
abbrev J3:=@List.find?_cons
abbrev J4:=@List.range_succ
abbrev J5:=@List.filter_eq_self
abbrev J6:=@Bool.or_eq_true
abbrev J7:=@Int.zero_add
abbrev J8:=@List.zip_cons_cons
abbrev J9:=@List.any_eq_false
abbrev Te:=@Option.isSome_map
abbrev Tf:=@List.length_range
abbrev T_:=@List.filter_congr
abbrev zN:=@Sum.inl.inj
abbrev Td:=@List.cons_append
abbrev T5:=@List.mem_flatMap
abbrev S2:=@List.of_mem_zip
abbrev HR:=@Int.ne_of_gt
abbrev Il:=@List.all_map
abbrev Tr:=@List.nil_append
abbrev Hn:=@Nat.le_succ
namespace L2
open PySem PySem.Spec PyProof.Rows
abbrev Key:=Sum Int Str
def qo:Key->Value->Bool
 |.inl k,v=>Value.isInt k v
 |.inr x,v=>Value.isStrOf x v
def ZeR(w:World):Key->Int
 |.inl k=>hashInt k
 |.inr x=>hashStr w x
theorem ko:∀{k:Key} {v:Value},qo k v=true->(∃i t,k=Sum.inl i/\v=Value.int i t)\/(∃x t,k=Sum.inr x/\v=Value.str x t)
 |.inl i,v,h=>by
  obtain⟨t,e⟩:=Value.isInt_shape h
  grind
 |.inr x,v,h=>by
  obtain⟨t,e⟩:=Value.isStrOf_shape h
  grind
theorem ZA(i:Int)(t:Tok):qo (.inl i) (.int i t)=true:=by simp[qo,Value.isInt]
theorem ZC(x:Str)(t:Tok):qo (.inr x) (.str x t)=true:=by simp[qo,Value.isStrOf]
theorem ZcR(a b:Int):decide ((Sum.inl a:Key)=Sum.inl b)=(a==b):=by
 grind
theorem ZcS(a b:Str):decide ((Sum.inr a:Key)=Sum.inr b)=decide (a=b):=by
 grind
theorem ZcT(a:Int)(b:Str):decide ((Sum.inl a:Key)=Sum.inr b)=false:=decide_eq_false (λq=>nomatch q)
theorem ZcU(a:Str)(b:Int):decide ((Sum.inr a:Key)=Sum.inl b)=false:=decide_eq_false (λq=>nomatch q)
def dh(prog:Program)(w:World):PySem.KeyKind prog w Key where
 is:=qo
 hash:=ZeR w
 inj:=λv a b ha hb=>by
  rcases ko ha with⟨i,t,rfl,rfl⟩|⟨x,t,rfl,rfl⟩
  ·rcases ko hb with⟨j,u,rfl,e⟩|⟨y,u,rfl,e⟩;·injection e with e1 _;rw[e1]
   ·exact nomatch e
  ·rcases ko hb with⟨j,u,rfl,e⟩|⟨y,u,rfl,e⟩;·exact nomatch e
   ·injection e with e1 _;rw[e1]
 byValue:=λk v h=>by
  rcases ko h with⟨i,t,rfl,rfl⟩|⟨x,t,rfl,rfl⟩<;>rfl
 pyHash:=λhv h=>by
  rcases ko hv with⟨i,t,rfl,rfl⟩|⟨x,t,rfl,rfl⟩;·exact wpAny_pyHash_int h
  ·exact wpAny_pyHash_str h
 eqBool:=λhu hv h=>by
  rcases ko hu with⟨i,t,rfl,rfl⟩|⟨x,t,rfl,rfl⟩
  ·rcases ko hv with⟨j,u,rfl,rfl⟩|⟨y,u,rfl,rfl⟩;·rw[ZcR] at h;exact wpAny_eqBool_int h
   ·rw[ZcT] at h;exact SeqAt.EqAt.int_str i t y u _ _ _ _ h
  ·rcases ko hv with⟨j,u,rfl,rfl⟩|⟨y,u,rfl,rfl⟩;·rw[ZcU] at h;exact SeqAt.EqAt.str_int x t j u _ _ _ _ h
   ·rw[ZcS] at h;exact wpAny_eqBool_str h
 «strs»:=λk x t v h=>by
  rcases ko h with⟨i,u,rfl,e⟩|⟨y,u,rfl,e⟩;·exact nomatch e
  ·injection e with e1 _;subst e1;cases v<;>rfl
theorem Xz(prog:Program)(w:World)(i:Int)(t:Tok):(dh prog w).is (.inl i) (.int i t)=true:=ZA i t
theorem XA(prog:Program)(w:World)(x:Str)(t:Tok):(dh prog w).is (.inr x) (.str x t)=true:=ZC x t
inductive V where
 |aA|bl (b:Bool)|int (i:Int)|str (x:Str)|iL (b:Array UInt8)|qN (b:UInt64)|ref (a:Addr)|ty (n:String)
 deriving DecidableEq
def RelV:V->Value->Prop
 |.aA,u=>u=Value.none
 |.bl b,u=>u=Value.bool b
 |.int i,u=>∃t,u=Value.int i t
 |.str x,u=>∃t,u=Value.str x t
 |.iL b,u=>∃t,u=Value.bytes b t
 |.qN b,u=>∃t,u=Value.float b t
 |.ref a,u=>u=Value.ref a
 |.ty n,u=>u=Value.type n
abbrev Vals:List V->List Value->Prop:=Paired RelV
theorem Vals.length{xs:List V}{us:List Value}(r:Vals xs us):xs.length=us.length:=Paired.length r
theorem Vals.get:∀{xs:List V} {us:List Value} {i:Nat} {x:V},Vals xs us->xs[i]?=some x->∃u,us[i]?=some u/\RelV x u
 |_,_,_,_,.nil,e=>by simp at e
 |_,_,0,_,.cons r _,e=>by simp at e;subst e;exact⟨_,rfl,r⟩
 |_,_,i+1,x,.cons _ t,e=>by
  obtain⟨u,h1,h2⟩:=Vals.get t (by simpa using e)
  grind
theorem Vals.set{x:V}{u:Value}(r:RelV x u):∀{xs:List V} {us:List Value} (i:Nat),Vals xs us->Vals (xs.set i x) (us.set i u)
 |_,_,_,.nil=>.nil
 |_,_,0,.cons _ t=>.cons r t
 |_,_,i+1,.cons q t=>.cons q (Vals.set r i t)
theorem Vals.append:∀{xs ys:List V} {us ws:List Value},Vals xs us->Vals ys ws->Vals (xs++ys) (us++ws):=by
 intro xs ys us ws h h';induction h with
 |nil=>exact h'
 |cons r t ih=>exact .cons r ih
theorem Vals.take:∀{xs:List V} {us:List Value} (n:Nat),Vals xs us->Vals (xs.take n) (us.take n)
 |_,_,0,_=>.nil
 |_,_,_+1,.nil=>.nil
 |_,_,n+1,.cons r t=>.cons r (Vals.take n t)
theorem Vals.drop:∀{xs:List V} {us:List Value} (n:Nat),Vals xs us->Vals (xs.drop n) (us.drop n)
 |_,_,0,r=>r
 |_,_,_+1,.nil=>.nil
 |_,_,n+1,.cons _ t=>Vals.drop n t
def fJ:Option V->Option Value->Prop
 |some v,some u=>RelV v u
 |none,none=>True
 |_,_=>False
def KV{κ:Type}:List (κ×V)->List (κ×Value)->Prop:=Paired λ(p:κ×V) (q:κ×Value)=>p.1=q.1/\RelV p.2 q.2
def kV:Key->V
 |.inl i=>.int i
 |.inr x=>.str x
inductive HO where
 /--a list-/
 |lst(xs:List V)
 /--a tuple(never changes)-/
 |tup(xs:List V)
 /--a dict Zd_ keys are ints and texts;one Zd_ keys are tuples of ints and texts(nH empty one is both)-/
 |dK(kvs:List (Key×V))|dT(kvs:List (List Key×V))
 /--a set of ints:ah members,ah size-/
 |set (S:Int->Bool) (n:Nat)
 /--an instance of nH class at C,ah dict at dx,ah attributes-/
 |ins (C dx:Addr) (fs:List (Str×V))
 /--nH dict of nH instance at x-/
 |own (x:Addr)
 /--nH dict of an exception-/
 |xd (fs:List (Str×V))
 /--a bound method,f of x-/
 |met (f x:Addr)
 /--a range object lo,lo+1,.. below hi-/
 |iM (lo hi:Int)
 /--a Zea Zgs is known to nH object (nH PK;a dict while a loop walks it):read,never written while it is so-/
 |bK (o:Obj) (u:HO)
 /--a code Zgi table-/
 |oY (ps:Array Value)
 /--any other Zea,by Zgt is true of ah one object (a def of Zgn own:Zgu a S n:=HO.ext λh=>..)-/
 |ext (φ:Heap->Prop)
abbrev Hp:=Addr->Option HO
def upd(H:Hp)(a:Addr)(o:HO):Hp:=λb=>if b=a then some o else H b
theorem aU{H:Hp}{a:Addr}{o:HO}:upd H a o a=some o:=by unfold upd;rw[if_pos rfl]
theorem aP{H:Hp}{a b:Addr}{o:HO}(h:b≠a):upd H a o b=H b:=by unfold upd;rw[if_neg h]
theorem E8{H:Hp}{a:Addr}{o u:HO}:upd (upd H a o) a u=upd H a u:=by
 funext b;unfold upd;split<;>rfl
theorem Q0{H:Hp}{a b:Addr}{o u:HO}(h:H a=some o)(h':H b=some u)(d:o≠u):a≠b:=by
 intro e;subst e;rw[h] at h';exact d (Ys h')
theorem ck{H:Hp}{a b:Addr}{o:HO}(h:H a=some o)(h':H b=none):a≠b:=by
 grind
section
variable (P:Program)(w:World)
def kz(h:Heap)(a:Addr)(items:Array Value):Prop:=∃o,h.get? a=some o/\o.cls=.type "tuple"/\∃n,o.data=.seq items n/\o.dict=none
theorem kz.tup{h:Heap}{a:Addr}{items:Array Value}(x:kz h a items):IsTup h a items:=let⟨o,e,c,n,d,_⟩:=x;⟨o,e,c,n,d⟩
theorem kz.lt{h:Heap}{a:Addr}{items:Array Value}(x:kz h a items):a<h.objs.size:=x.tup.lt
theorem kz.new(h:Heap)(items:Array Value):kz (h.push {cls:=.type "tuple",data:=.seq items}) h.objs.size items:=⟨_,Yn _ rfl,rfl,_,rfl,rfl⟩
def cI(H:Hp)(h:Heap)(a:Addr):HO->Prop
 |.lst xs=>xs.length<=sizeLine/\∃(ah:List Value) (n:Nat),Vals xs ah/\h.get? a=some {cls:=.type "list",data:=.seq ah.toArray n}
 |.tup xs=>xs.length<=sizeLine/\∃ah:List Value,Vals xs ah/\kz h a ah.toArray
 |.dK kvs=>kvs.length<=sizeLine/\(a==sysModules)=false/\∃vs,KV kvs vs/\h.DictOf (dh P w) a vs
 |.dT kvs=>kvs.length<=sizeLine/\(a==sysModules)=false/\∃xs:List (List Key×Addr×Value),
   Paired (λ(p:List Key×V) (q:List Key×Addr×Value)=>p.1=q.1/\H q.2.1=some (.tup (p.1.map kV))/\RelV p.2 q.2.2) kvs xs/\
   ∃o es ep,h.get? a=some o/\o.ExactDict/\o.data=.dict es ep/\es.toList=xs.map (entryOfKey (tupleKind (dh P w)))/\(xs.map (·.1)).Nodup
 |.set S n=>h.SetOf (intKind P w) a S n
 |.ins C dx fs=>H dx=some (.own a)/\fs.length<=1000/\dx≠a/\h.get? a=some (instObj C dx)/\
   ∃mA,h.Ns1 dx mA/\(∀f,fJ (fs.lookup f) (mA f))/\PySem.Within mA (fs.map (·.1))
 |.own _=>∃o,h.get? a=some o
 |.xd fs=>∃mA,h.Ns1 a mA/\∀f,fJ (fs.lookup f) (mA f)
 |.iM lo hi=>∃t u v,h.get? a=some {cls:=.type "range",data:=.fields #[.int lo t,.int hi u,.int 1 v]}
 |.bK o u=>h.get? a=some o/\cI H h a u
 |.oY ps=>h.get? a=some {cls:=.none,data:=.fields ps}
 |.met f x=>h.get? a=some (methodObj (.ref f) (.ref x))
 |.ext φ=>φ h/\(∃o,h.get? a=some o)/\∀h1 h2:Heap,φ h1->(∀o,h1.get? a=some o->h2.get? a=some o)->φ h2
def de(H:Hp)(h:Heap):Prop:=∀a o,H a=some o->cI P w H h a o
end
section
variable {P:Program}{w:World}{H H':Hp}{h h':Heap}{a:Addr}{o:HO}
theorem cI.lt(x:cI P w H h a o):a<h.objs.size:=by
 cases o with
 |lst xs=>obtain⟨_,_,_,_,e⟩:=x;exact Yv e
 |tup xs=>obtain⟨_,_,_,p⟩:=x;exact p.lt
 |dK kvs=>obtain⟨_,_,_,_,o,_,_,e,_⟩:=x;exact Yv e
 |dT kvs=>obtain⟨_,_,_,_,o,_,_,e,_⟩:=x;exact Yv e
 |set S n=>obtain⟨o,_,_,_,e,_⟩:=x;exact Yv e
 |ins C dx fs=>obtain⟨_,_,_,e,_⟩:=x;exact Yv e
 |own y=>obtain⟨_,e⟩:=x;exact Yv e
 |xd fs=>obtain⟨_,⟨_,_,_,e,_⟩,_⟩:=x;exact Yv e
 |iM lo hi=>obtain⟨_,_,_,e⟩:=x;exact Yv e
 |bK ob u=>obtain⟨e,_⟩:=x;exact Yv e
 |oY ps=>exact Yv (show h.get? a=some _ from x)
 |met f y=>exact Yv (show h.get? a=some _ from x)
 |ext φ=>obtain⟨_,⟨_,e⟩,_⟩:=x;exact Yv e
theorem Paired.bI{α β:Type}{F G:α->β->Prop}:∀{GH:List α} {l₂:List β},Paired F GH l₂->(∀a b,F a b->G a b)->Paired G GH l₂:=by
 intro GH l₂ h f;induction h with
 |nil=>exact .nil
 |cons r t ih=>exact .cons (f _ _ r) ih
theorem cI.jd(x:cI P w H h a o)(k:∀b u,(b=a\/H b=some (.own a))->h.get? b=some u->h'.get? b=some u)
  (ho:∀b,H b=some (.own a)->H' b=some (.own a))(ht:∀b xs,H b=some (.tup xs)->H' b=some (.tup xs)):cI P w H' h' a o:=by
 induction o with
 |lst xs=>obtain⟨z,ah,n,r,e⟩:=x;exact⟨z,ah,n,r,k _ _ (.inl rfl) e⟩
 |tup xs=>obtain⟨z,ah,r,ob,e,c⟩:=x;exact⟨z,ah,r,ob,k _ _ (.inl rfl) e,c⟩
 |dK kvs=>obtain⟨z,y,vs,r,ob,es,ep,e,c⟩:=x;exact⟨z,y,vs,r,ob,es,ep,k _ _ (.inl rfl) e,c⟩
 |dT kvs=>
  obtain⟨z,y,xs,r,ob,es,ep,e,c⟩:=x;exact⟨z,y,xs,Paired.bI r λp q z=>⟨z.1,ht _ _ z.2.1,z.2.2⟩,ob,es,ep,k _ _ (.inl rfl) e,c⟩
 |set S n=>obtain⟨ob,es,ep,t,e,c⟩:=x;exact⟨ob,es,ep,t,k _ _ (.inl rfl) e,c⟩
 |ins C dx fs=>
  obtain⟨d,z,ne,e,mA,⟨od,es,ep,e2,c⟩,r⟩:=x;exact⟨ho _ d,z,ne,k _ _ (.inl rfl) e,mA,⟨od,es,ep,k _ _ (.inr d) e2,c⟩,r⟩
 |own y=>obtain⟨ob,e⟩:=x;exact⟨ob,k _ _ (.inl rfl) e⟩
 |xd fs=>obtain⟨mA,⟨od,es,ep,e,c⟩,r⟩:=x;exact⟨mA,⟨od,es,ep,k _ _ (.inl rfl) e,c⟩,r⟩
 |iM lo hi=>obtain⟨t,u,v,e⟩:=x;exact⟨t,u,v,k _ _ (.inl rfl) e⟩
 |bK ob u ih=>obtain⟨e,q⟩:=x;exact⟨k _ _ (.inl rfl) e,ih q⟩
 |oY ps=>
  have e:h.get? a=some {cls:=.none,data:=.fields ps}:=x;show h'.get? a=some {cls:=.none,data:=.fields ps};exact k a _ (.inl rfl) e
 |met f y=>
  have e:h.get? a=some (methodObj (.ref f) (.ref y)):=x;show h'.get? a=some (methodObj (.ref f) (.ref y));exact k a _ (.inl rfl) e
 |ext φ=>obtain⟨p,⟨o,e⟩,st⟩:=x;exact⟨st _ _ p λo q=>k _ _ (.inl rfl) q,⟨o,k _ _ (.inl rfl) e⟩,st⟩
theorem de.lt(x:de P w H h)(e:H a=some o):a<h.objs.size:=(x a o e).lt
theorem de.fresh(x:de P w H h)(e:h.objs.size<=a):H a=none:=by
 cases q:H a with
 |none=>rfl
 |some u=>exact absurd (Y0 (x.lt q) e) (Y7 _)
theorem de.kept(x:de P w H h)(k:∀b u,h.get? b=some u->h'.get? b=some u):de P w H h':=λa o e=>
 (x a o e).jd (λb u _ q=>k b u q) (λ_ q=>q) λ_ _ q=>q
theorem de.laid(x:de P w H h)(k:∀b u,h.get? b=some u->h'.get? b=some u)(hp:h.objs.size<=a)(new:cI P w (upd H a o) h' a o):de P w (upd H a o) h':=λb u e=>by
 have hn:=x.fresh hp;by_cases hb:b=a;·subst hb;rw[aU] at e;cases e;exact new
 ·rw[aP hb] at e;exact(x b u e).jd (λc v _ q=>k c v q) (λc q=>by rw[aP (ck q hn)];exact q) λc xs q=>by rw[aP (ck q hn)];exact q
end
def Rd(H:Hp)(a:Addr)(u:HO):Prop:=H a=some u\/∃o,H a=some (.bK o u)
theorem Rd.ok{P:Program}{w:World}{H:Hp}{h:Heap}{a:Addr}{u:HO}(r:Rd H a u)(x:de P w H h):cI P w H h a u:=by
 rcases r with r|⟨o,r⟩;·exact x a u r
 ·obtain⟨_,q⟩:=x a _ r;exact q
def v_:Option HO->Prop
 |some (.lst _)=>True
 |some (.dK _)=>True
 |some (.dT _)=>True
 |some (.set _ _)=>True
 |some (.ins _ _ _)=>True
 |some (.ext _)=>True
 |_=>False
section
variable {P:Program}{w:World}{H:Hp}{h h':Heap}{x e:Addr}{o':HO}
theorem de.write(ok:de P w H h)(mu:v_ (H x))(he:e=x\/H e=some (.own x))(k:∀b u,b≠e->h.get? b=some u->h'.get? b=some u)(wa:∃u,h'.get? e=some u)
  (new:cI P w (upd H x o') h' x o'):de P w (upd H x o') h':=λb u q=>by
 have RJ:∀c y,H c=some (.own y)->c≠x:=λc y r z=>by subst z;rw[r] at mu;exact mu
 have ZeS:∀c xs,H c=some (.tup xs)->c≠x:=λc xs r z=>by subst z;rw[r] at mu;exact mu
 by_cases hb:b=x;·subst hb;rw[aU] at q;cases q;exact new
 ·rw[aP hb] at q;by_cases zc:b=e
  ·have q':H b=some (.own x):=by
    rcases he with z|z;·exact absurd (zc.trans z) hb
    ·rw[zc];exact z
   rw[q] at q';cases q';obtain⟨v,hv⟩:=wa;exact⟨v,by rw[zc];exact hv⟩
  ·refine(ok b u q).jd (λc v hc r=>k c v ?_ r) (λc r=>by rw[aP (RJ c b r)];exact r) λc xs r=>by rw[aP (ZeS c xs r)];exact r
   rcases hc with rfl|hc;·exact zc
   ·rintro rfl;rcases he with z|z;·exact RJ c b hc z
    ·rw[hc] at z;cases z;exact hb rfl
end
structure Un(fs ex:List Addr)(H H':Hp)(h h':Heap):Prop where
 keep:∀b o,h.get? b=some o->H b=none->b∉fs->b∉ex->h'.get? b=some o
 slot:∀b o,h.get? b=some o->H b=none->b∈fs->b∉ex->∃sl,h'.get? b=some {o with slots:=sl}
 free:∀b o,h.get? b=some o->H b=none->b∉ex->H' b=none
 there:∀b o,h.get? b=some o->b∉ex->∃o',h'.get? b=some o'
 jS:∀b xs,H b=some (.tup xs)->H' b=some (.tup xs)
 kM:∀b o u,H b=some (.bK o u)->H' b=some (.bK o u)
 lT:∀b ps,H b=some (.oY ps)->∃more,H' b=some (.oY (ps++more))
section
variable {fs fs' ex ex':List Addr}{H H1 H2:Hp}{h h1 h2 h':Heap}{a x e:Addr}{o:HO}
theorem Un.any(u:Un fs ex H H1 h h1){b:Addr}{ob:Obj}(q:h.get? b=some ob)(n:H b=none)(hx:b∉ex):∃sl,h1.get? b=some {ob with slots:=sl}:=by
 by_cases hb:b∈fs;·exact u.slot b ob q n hb hx
 ·exact⟨ob.slots,u.keep b ob q n hb hx⟩
theorem Un.kept(k:∀b u,h.get? b=some u->h'.get? b=some u):Un fs ex H H h h':=
 ⟨λb ob q _ _ _=>k b ob q,λb ob q _ _ _=>⟨ob.slots,k b ob q⟩,λ_ _ _ n _=>n,λb ob q _=>⟨ob,k b ob q⟩,λ_ _ q=>q,λ_ _ _ q=>q,λ_ ps q=>⟨#[],by rw[q];simp⟩⟩
theorem Un.refl:Un fs ex H H h h:=Un.kept λ_ _ q=>q
theorem Un.laid(k:∀b u,h.get? b=some u->h'.get? b=some u)(hp:h.objs.size<=a)(hn:H a=none):Un fs ex H (upd H a o) h h' where
 keep:=λb u q _ _ _=>k b u q
 slot:=λb u q _ _ _=>⟨u.slots,k b u q⟩
 free:=λb u q n _=>by rw[aP (Yz (Y0 (Yv q) hp))];exact n
 there:=λb u q _=>⟨u,k b u q⟩
 jS:=λb xs q=>by rw[aP (ck q hn)];exact q
 kM:=λb u xs q=>by rw[aP (ck q hn)];exact q
 lT:=λb ps q=>⟨#[],by rw[aP (ck q hn),q];simp⟩
theorem Un.write(mu:v_ (H x))(he:e=x\/H e=some (.own x))(k:∀b u,b≠e->h.get? b=some u->h'.get? b=some u)(wa:∃u,h'.get? e=some u):Un fs ex H (upd H x o) h h':=by
 have hx:∀b,H b=none->b≠x:=λb n z=>by subst z;rw[n] at mu;exact mu
 have hb:∀b,H b=none->b≠e:=λb n z=>by
  grind
 have hm:∀b u,H b=some u->¬v_ (some u)->b≠x:=λb u q nm z=>by subst z;rw[q] at mu;exact nm mu
 refine⟨λb u q n _ _=>k b u (hb b n) q,λb u q n _ _=>⟨u.slots,k b u (hb b n) q⟩,λb u q n _=>by rw[aP (hx b n)];exact n,λb u q _=>?_,
  λb xs q=>by rw[aP (hm b _ q λz=>z)];exact q,λb u xs q=>by rw[aP (hm b _ q λz=>z)];exact q,λb ps q=>⟨#[],by rw[aP (hm b _ q λz=>z),q];simp⟩⟩
 grind
end
def Hi(h:Heap)(H:Hp):List Addr:=(List.range h.objs.size).filter λa=>(H a).isSome
def ny(h:Heap)(H:Hp):Heap:=PySem.W.hideAll h (Hi h H)
theorem ZD(h:Heap)(H:Hp):(ny h H).objs.size=h.objs.size:=PySem.W.hideAll_size _ _
theorem Zat{h:Heap}{H:Hp}{b:Addr}{o:Obj}(e:h.get? b=some o)(n:H b=none):(ny h H).get? b=some o:=
 PySem.W.hideAll_get _ e λhm=>by
  have q:=(Y3.mp hm).2
  grind
theorem ZbG{h:Heap}{H:Hp}{b:Addr}{o:Obj}(e:(ny h H).get? b=some o):h.get? b=some o/\H b=none:=by
 have e':=PySem.W.of_hideAll (Hi h H) e;refine⟨e',?_⟩;cases q:H b with
 |none=>rfl
 |some x=>
  have z:(ny h H).get? b=none:=PySem.W.hideAll_none (Hi h H) (Y3.mpr ⟨Wh.mpr (Yv e'),by simp[q]⟩)
  grind
structure Mod(K:PySem.W.Frag)(mg:Str->Option Value)(base:Heap):Prop where
 qO:K.In base
 glob:base.Ns mainGlobals mg
 blt:∃mb,base.Ns builtinsNs mb/\∀x:Str,x≠"__name__"->mb x=bootBuiltins x
 nolimit:base.NoLimit
structure Cx where
 prog:Program
 w:World
 K:PySem.W.Frag
 mg:Str->Option Value
 base:Heap
 A:Around
 N:List Str
 cT:Shared
 iI:Hp
 env:Env
 outer:List Env
 stack:List Env
 ex:List Addr
 fn:Str->Bool
 calm:Bool
 pn:List (Addr×Obj)
 xe:Value->Shared->Prop
def gZ(l:List Env):List Addr:=l.filterMap (·.frame)
abbrev Cx.fs(X:Cx):List Addr:=gZ X.outer
def wb(sc:Scope)(x:Str):Prop:=sc.names.lookup x=some .local\/sc.names.lookup x=some .cell\/sc.names.lookup x=some .free
def Loc(sc:Scope)(x:Str):Prop:=sc.names.lookup x=some .local\/sc.names.lookup x=some .cell
def Look(env:Env)(h:Heap)(m:Str->Option Value)(x:Str)(u:Value):Prop:=
 (env.kindOf x=some .local/\m x=some u)\/((env.kindOf x=some .cell\/env.kindOf x=some .free)/\∃c,env.cells.lookup x=some c/\h.IsCell c (some u))
structure Cx.Ok(X:Cx):Prop where
 mod:Mod X.K X.mg X.base
 kind:X.env.scope.kind=.function
 glob:X.env.globals=mainGlobals
 blt:X.env.builtins=builtinsNs
 above:X.cT.heap.objs.size<=X.env.locals
 inj:∀x y c,X.env.cells.lookup x=some c->X.env.cells.lookup y=some c->x=y
 has:∀x,(X.env.kindOf x=some .cell\/X.env.kindOf x=some .free)->∃c,X.env.cells.lookup x=some c
 wc:∀x c,X.fn x=true->X.env.cells.lookup x=some c->X.cT.heap.objs.size<=c
 hd:X.calm=true->X.A.handled=none
 frames:X.A.frames=some X.stack
 zd:X.stack=X.outer\/(X.stack=X.env::X.outer/\X.env.frame=some X.env.locals)
 tQ:∀b∈X.ex,b≠X.env.locals/\∀x c,X.env.cells.lookup x=some c->c≠b
 bs:∀b o,X.base.get? b=some o->X.cT.heap.get? b=some o/\X.iI b=none
 nI:X.base.objs.size<=X.cT.heap.objs.size
 vQ:∀b o,X.base.get? b=some o->b∉X.ex
 tG:∀b∈X.ex,b∉X.fs
 jT:X.cT.heap.FunFrames X.base X.outer
 qQ:∀b∈X.fs,X.iI b=none
structure Inv(X:Cx)(pins:List (Addr×Obj))(σ:List (Option V))(H:Hp)(s:Shared):Prop where
 ok:X.Ok
 os:s.os=X.cT.os
 bare:AllBare s.gens
 base:Un X.fs X.ex X.iI H X.cT.heap s.heap
 loc:∃m,s.heap.Ns X.env.locals m/\∀(i:Nat) (x:Str) (v:V),X.N[i]?=some x->σ[i]?=some (some v)->wb X.env.scope x->∃u,RelV v u/\Look X.env s.heap m x u
 cell:∀x c,X.env.cells.lookup x=some c->∃v,s.heap.IsCell c v
 free:H X.env.locals=none
 jN:∀x c,X.env.cells.lookup x=some c->H c=none
 pin:∀p∈X.pn++pins,s.heap.get? p.1=some p.2/\H p.1=none/\p.1≠X.env.locals/\p.1∉X.fs/\∀v,p.2.data≠.cell v
 av:de X.prog X.w H s.heap
 len:σ.length=X.N.length
section
variable {X:Cx}{pins:List (Addr×Obj)}{σ:List (Option V)}{H H':Hp}{s:Shared}{h':Heap}
theorem Cx.Ok.ZeT(ok:X.Ok){b:Addr}{o:Obj}(e:X.base.get? b=some o):b∉X.fs:=λhb=>by
 have:=(ok.jT.mem hb).1
 grind
theorem Inv.bs(I:Inv X pins σ H s):∀b o,X.base.get? b=some o->s.heap.get? b=some o/\H b=none:=λb o e=>
 ⟨I.base.keep b o (I.ok.bs b o e).1 (I.ok.bs b o e).2 (I.ok.ZeT e) (I.ok.vQ b o e),I.base.free b o (I.ok.bs b o e).1 (I.ok.bs b o e).2 (I.ok.vQ b o e)⟩
theorem Inv.bk(I:Inv X pins σ H s):∀b o,X.base.get? b=some o->s.heap.get? b=some o:=λb o e=>(I.bs b o e).1
theorem Inv.mod(I:Inv X pins σ H s):Mod X.K X.mg X.base:=I.ok.mod
theorem Inv.dA(I:Inv X pins σ H s):X.K.In s.heap:=I.ok.mod.qO.keeps I.bk
theorem Inv.lt(I:Inv X pins σ H s):X.env.locals<s.heap.objs.size:=let⟨_,hn,_⟩:=I.loc;hn.lt
theorem Inv.sz(I:Inv X pins σ H s):X.cT.heap.objs.size<=s.heap.objs.size:=Y4 I.ok.above (Jo I.lt)
theorem Inv.ZeU(I:Inv X pins σ H s){a:Addr}(h:s.heap.objs.size<=a):a∉X.fs:=λhb=>by
 obtain⟨_,o,ho,_⟩:=I.ok.jT.mem hb;exact absurd (Y0 (Yv ho) (Y4 I.sz h)) (Y7 _)
theorem Inv.qR(I:Inv X pins σ H s):∀x c,X.env.cells.lookup x=some c->c≠X.env.locals:=λx c e z=>by
 obtain⟨v,o,ho,hd⟩:=I.cell x c e;obtain⟨m,⟨o',es,ep,tR,ze,_⟩,_⟩:=I.loc
 grind
theorem Inv.jT(I:Inv X pins σ H s):s.heap.FunFrames X.base X.outer:=by
 have all:∀(l:List Env),(∀b∈gZ l,b∈X.fs)->X.cT.heap.FunFrames X.base l->s.heap.FunFrames X.base l:=by
  intro l;induction l with
  |nil=>intro _ _;trivial
  |cons env r ih=>
   rintro hs ⟨hk,⟨L,o,hf,hn,ho,hd⟩,hr⟩;have hL:=hs L (by unfold gZ;rw[J1,hf];exact Yk);obtain⟨sl,e⟩:=I.base.slot L o ho (I.ok.qQ L hL) hL λz=>I.ok.tG L z hL;exact⟨hk,⟨L,_,hf,hn,e,hd⟩,ih (λb hb=>hs b (by unfold gZ;rw[J1,hf];exact Yx _ hb)) hr⟩
 exact all X.outer (λ_ hb=>hb) I.ok.jT
theorem Inv.stack(I:Inv X pins σ H s):s.heap.FunFrames X.base X.stack:=by
 rcases I.ok.zd with e|⟨e,hf⟩;·rw[e];exact I.jT
 ·rw[e];obtain⟨m,hn,_⟩:=I.loc;refine .cons (by rw[I.ok.kind];decide) hf hn ?_ I.jT;exact Heap.get?_none_of_le (Y4 I.ok.nI I.ok.above)
theorem Inv.FG(I:Inv X pins σ H s):∀b∈gZ X.stack,b∈X.env.locals::X.fs:=λb hb=>by
 rcases I.ok.zd with e|⟨e,hf⟩;·grind
 ·rw[e] at hb;unfold gZ at hb;rw[J1,hf] at hb;exact hb
theorem Inv.Od(I:Inv X pins σ H s):∀b∈gZ X.stack,H b=none:=λb hb=>by
 rcases Yp.mp (I.FG b hb) with e|hb;·rw[e];exact I.free
 ·obtain⟨_,o,ho,_⟩:=I.ok.jT.mem hb;exact I.base.free b o ho (I.ok.qQ b hb) λz=>I.ok.tG b z hb
theorem Inv.step{g':Array GenState}{t':Nat}{d':Drawn}{ch:List Addr}(I:Inv X pins σ H s)
  (lX:∀b∈ch,(b∈X.ex\/X.cT.heap.objs.size<=b)/\b≠X.env.locals/\(∀x c,X.env.cells.lookup x=some c->c≠b)/\∀p∈X.pn++pins,p.1≠b)
  (keep:∀b o,b≠X.env.locals->b∉X.fs->b∉ch->s.heap.get? b=some o->H b=none->h'.get? b=some o)
  (slot:∀b o,b≠X.env.locals->b∈X.fs->b∉ch->s.heap.get? b=some o->H b=none->∃sl,h'.get? b=some {o with slots:=sl})(free:∀b o,b∉ch->s.heap.get? b=some o->H b=none->H' b=none)
  (there:∀b o,b∉ch->s.heap.get? b=some o->∃o',h'.get? b=some o')
  (jS:∀b xs,H b=some (.tup xs)->H' b=some (.tup xs))(kM:∀b o u,H b=some (.bK o u)->H' b=some (.bK o u))(lT:∀b ps,H b=some (.oY ps)->∃more,H' b=some (.oY (ps++more)))
  (ns:∀m,s.heap.Ns X.env.locals m->h'.Ns X.env.locals m)(av:de X.prog X.w H' h')(hg:AllBare g'):
  Inv X pins σ H' {s with heap:=h',gens:=g',drawn:=d',toks:=t'}:=by
 have SO:∀b o,X.cT.heap.get? b=some o->b≠X.env.locals:=λb o e=>Yz (Y0 (Yv e) I.ok.above);have zf:∀b o,X.cT.heap.get? b=some o->b∉X.ex->b∉ch:=λb o e hx hb=>by
  rcases(lX b hb).1 with z|z;·exact hx z
  ·exact absurd (Y0 (Yv e) z) (Y7 _)
 have cellK:∀x c,X.env.cells.lookup x=some c->∀v,s.heap.IsCell c v->h'.IsCell c v:=λx c e v ⟨o,ho,hd⟩=>by
  have we:c∉ch:=λz=>(lX c z).2.2.1 x c e rfl;by_cases hc:c∈X.fs
  ·obtain⟨sl,q⟩:=slot c o (I.qR x c e) hc we ho (I.jN x c e);exact⟨_,q,hd⟩
  ·exact⟨o,keep c o (I.qR x c e) hc we ho (I.jN x c e),hd⟩
 refine⟨I.ok,I.os,hg,⟨λb o e n hb hx=>?_,λb o e n hb hx=>?_,λb o e n hx=>?_,λb o e hx=>?_,λb xs e=>jS b xs (I.base.jS b xs e),λb o xs e=>kM b o xs (I.base.kM b o xs e),λb ps e=>?_⟩,?_,λx c e=>?_,?_,λx c e=>?_,λp hp=>?_,av,I.len⟩;·exact keep b o (SO b o e) hb (zf b o e hx) (I.base.keep b o e n hb hx) (I.base.free b o e n hx)
 ·obtain⟨sl,e1⟩:=I.base.slot b o e n hb hx;obtain⟨sl',e2⟩:=slot b _ (SO b o e) hb (zf b o e hx) e1 (I.base.free b o e n hx);exact⟨sl',e2⟩
 ·obtain⟨o',e1⟩:=I.base.there b o e hx;exact free b o' (zf b o e hx) e1 (I.base.free b o e n hx)
 ·obtain⟨o',e1⟩:=I.base.there b o e hx;exact there b o' (zf b o e hx) e1
 ·obtain⟨m1,e1⟩:=I.base.lT b ps e;obtain⟨m2,e2⟩:=lT b _ e1;exact⟨m1++m2,by rw[e2,Array.append_assoc]⟩
 ·obtain⟨m,hn,hl⟩:=I.loc;refine⟨m,ns m hn,λi x v e1 e2 e3=>?_⟩;obtain⟨u,r,l⟩:=hl i x v e1 e2 e3;refine⟨u,r,?_⟩;rcases l with l|⟨k,c,e,z⟩;·exact .inl l
  ·exact .inr ⟨k,c,e,cellK x c e _ z⟩
 ·obtain⟨v,z⟩:=I.cell x c e;exact⟨v,cellK x c e v z⟩
 ·obtain⟨m,⟨o,_,_,ho,_⟩,_⟩:=I.loc;exact free _ o (λz=>(lX _ z).2.1 rfl) ho I.free
 ·obtain⟨v,o,ho,hd⟩:=I.cell x c e;exact free c o (λz=>(lX c z).2.2.1 x c e rfl) ho (I.jN x c e)
 ·obtain⟨e,n,ne,nf,d⟩:=I.pin p hp;have we:p.1∉ch:=λz=>(lX p.1 z).2.2.2 p hp rfl;exact⟨keep p.1 p.2 ne nf we e n,free p.1 p.2 we e n,ne,nf,d⟩
theorem Inv.un{t':Nat}(I:Inv X pins σ H s)(u:Un X.fs [] H H' s.heap h')(av:de X.prog X.w H' h'):Inv X pins σ H' {s with heap:=h',toks:=t'}:=by
 obtain⟨m,⟨o,es,ep,ho,r⟩,_⟩:=id I.loc;obtain⟨sl,hL⟩:=u.any ho I.free (by simp);exact I.step (g':=s.gens) (d':=s.drawn) (ch:=[]) (λ_ z=>nomatch z) (λb o _ hb _ e n=>u.keep b o e n hb (by simp)) (λb o _ hb _ e n=>u.slot b o e n hb (by simp)) (λb o _ e n=>u.free b o e n (by simp)) (λb o _ e=>u.there b o e (by simp)) u.jS u.kM u.lT (λm' hm=>by
  obtain⟨o',zg,zh,tR,r'⟩:=hm;rw[ho] at tR;cases tR;exact⟨_,zg,zh,hL,r'⟩) av I.bare
theorem Inv.call{g':Array GenState}{t':Nat}{d':Drawn}{ch:List Addr}(I:Inv X pins σ H s)(u:Un (gZ X.stack) ch H H' s.heap h')(av:de X.prog X.w H' h')(hg:AllBare g')
  (lX:∀b∈ch,(b∈X.ex\/X.cT.heap.objs.size<=b)/\b≠X.env.locals/\(∀x c,X.env.cells.lookup x=some c->c≠b)/\∀p∈X.pn++pins,p.1≠b):
  Inv X pins σ H' {s with heap:=h',gens:=g',drawn:=d',toks:=t'}:=by
 obtain⟨m,⟨o,es,ep,ho,r⟩,_⟩:=id I.loc;obtain⟨sl,hL⟩:=u.any ho I.free λz=>(lX _ z).2.1 rfl;exact I.step (ch:=ch) lX (λb o hL hb hc e n=>u.keep b o e n (λz=>(Yp.mp (I.FG b z)).elim hL hb) hc) (λb o _ _ hc e n=>u.any e n hc) (λb o hc e n=>u.free b o e n hc) (λb o hc e=>u.there b o e hc) u.jS u.kM u.lT (λm' hm=>by
  obtain⟨o',zg,zh,tR,r'⟩:=hm;rw[ho] at tR;cases tR;exact⟨_,zg,zh,hL,r'⟩) av hg
theorem Inv.turned{t':Nat}{it:Addr}(I:Inv X pins σ H s)(k:∀b o,b≠it->s.heap.get? b=some o->h'.get? b=some o)(hn:H it=none)(hL:it≠X.env.locals)
  (h1:it∈X.ex\/X.cT.heap.objs.size<=it)(h2:∀x c,X.env.cells.lookup x=some c->c≠it)(h3:∀p∈X.pn++pins,p.1≠it):Inv X pins σ H {s with heap:=h',toks:=t'}:=by
 have SQ:∀b u,H b=some u->b≠it:=λb u e z=>by rw[z,hn] at e;cases e
 refine I.step (g':=s.gens) (d':=s.drawn) (ch:=[it]) (λb hb=>?_) (λb o _ _ hc e _=>k b o (λz=>hc (by simp[z])) e) (λb o _ _ hc e _=>⟨o.slots,k b o (λz=>hc (by simp[z])) e⟩) (λ_ _ _ _ n=>n)
  (λb o hc e=>⟨o,k b o (λz=>hc (by simp[z])) e⟩) (λ_ _ e=>e) (λ_ _ _ e=>e) (λb ps e=>⟨#[],by rw[e];simp⟩) (λm hm=>?_) (λb u e=>?_) I.bare
 ·have e:b=it:=by simpa using hb
  subst e;exact⟨h1,hL,h2,h3⟩
 ·obtain⟨o,es,ep,ho,r⟩:=hm;exact⟨o,es,ep,k _ o (Ne.symm hL) ho,r⟩
 ·refine(I.av b u e).jd (λc v hc q=>k c v ?_ q) (λ_ q=>q) λ_ _ q=>q;rcases hc with z|z;·rw[z];exact SQ b u e
  ·exact SQ c _ z
theorem Inv.tok(I:Inv X pins σ H s)(t:Nat):Inv X pins σ H {s with toks:=t}:=I.un (h':=s.heap) (t':=t) Un.refl I.av
theorem Inv.kept{t':Nat}(I:Inv X pins σ H s)(k:∀b u,s.heap.get? b=some u->h'.get? b=some u):Inv X pins σ H {s with heap:=h',toks:=t'}:=I.un (Un.kept k) (I.av.kept k)
theorem Inv.laid{a:Addr}{o:HO}{t':Nat}(I:Inv X pins σ H s)(k:∀b u,s.heap.get? b=some u->h'.get? b=some u)(hp:s.heap.objs.size<=a)(new:cI X.prog X.w (upd H a o) h' a o):
  Inv X pins σ (upd H a o) {s with heap:=h',toks:=t'}:=I.un (Un.laid k hp (I.av.fresh hp)) (I.av.laid k hp new)
theorem Inv.write{x e:Addr}{o:HO}{t':Nat}(I:Inv X pins σ H s)(mu:v_ (H x))(he:e=x\/H e=some (.own x))(k:∀b u,b≠e->s.heap.get? b=some u->h'.get? b=some u)(wa:∃u,h'.get? e=some u)
  (new:cI X.prog X.w (upd H x o) h' x o):Inv X pins σ (upd H x o) {s with heap:=h',toks:=t'}:=I.un (Un.write mu he k wa) (I.av.write mu he k wa new)
theorem Inv.Oe{Q4:List (Addr×Obj)}(I:Inv X pins σ H s)(h:∀p∈Q4,s.heap.get? p.1=some p.2/\H p.1=none/\p.1≠X.env.locals/\p.1∉X.fs/\∀v,p.2.data≠.cell v):Inv X Q4 σ H s:=
 ⟨I.ok,I.os,I.bare,I.base,I.loc,I.cell,I.free,I.jN,λp hp=>(Yu.mp hp).elim (λz=>I.pin p (Yr _ z)) (h p),I.av,I.len⟩
theorem MW{N:List Str}(hN:N.Nodup){i j:Nat}{x:Str}(a:N[i]?=some x)(b:N[j]?=some x):i=j:=by
 obtain⟨h1,e1⟩:=Yh.mp a;obtain⟨h2,e2⟩:=Yh.mp b;exact(List.getElem_inj hN).mp (e1.trans e2.symm)
theorem ZE{M:Model}{A:Around}{E:Value->Shared->Prop}{i:Nat}{x:Str}{v:V}{u:Value}{Q:Unit->Shared->Prop}(I:Inv X pins σ H s)(hN:X.N.Nodup)(hi:X.N[i]?=some x)(hx:Loc X.env.scope x)(r:RelV v u)
  (h:∀s',Inv X pins (σ.set i (some v)) H s'->(∃a,Heap.SameBut a s.heap s'.heap/\(a=X.env.locals\/X.env.cells.lookup x=some a))->Q () s')(hf:X.fn x=true\/X.env.scope.names.lookup x=some .local:=by first|exact .inl rfl|exact .inr rfl|assumption):wpAny M A (storeName X.env x u) Q E s:=by
 obtain⟨m,hn,hl⟩:=id I.loc;have ZeV:(X.env.scope.kind==.class||(X.env.scope.kind==.module&&X.env.locals !=X.env.globals))=false:=by rw[I.ok.kind];rfl
 have RK:i<σ.length:=by rw[I.len];exact(Yh.mp hi).1
 have qR:=I.qR;have tracked:∀{a:Addr} {h':Heap},(∃o,s.heap.get? a=some o/\H a=none)->Heap.SameBut a s.heap h'->de X.prog X.w H h':=λ{a h'} ha hs b ob e=>by
  obtain⟨_,_,Q5⟩:=ha;refine(I.av b ob e).jd (λc w' hc q=>(hs.2 c ?_).trans q) (λ_ q=>q) λ_ _ q=>q;rintro rfl;rcases hc with rfl|hc;·rw[Q5] at e;cases e
  ·rw[Q5] at hc;cases hc
 rcases hx with hk|hk
 ·refine wpAny_storeName_local hk hn (λh' tS hs=>?_) ZeV;obtain⟨oL,_,_,nJ,_⟩:=id hn;refine h _ ⟨I.ok,I.os,I.bare,⟨λb o e n hb hx=>?_,λb o e n hb hx=>?_,I.base.free,λb o e hx=>?_,I.base.jS,I.base.kM,I.base.lT⟩,⟨_,tS,λj y v' e1 e2 e3=>?_⟩,λy c e=>?_,I.free,I.jN,λp hp=>?_,tracked ⟨oL,nJ,I.free⟩ hs,by simpa using I.len⟩ ⟨_,hs,.inl rfl⟩;·exact(hs.2 b (Yz (Y0 (Yv e) I.ok.above))).trans (I.base.keep b o e n hb hx)
  ·obtain⟨sl,e1⟩:=I.base.slot b o e n hb hx;exact⟨sl,(hs.2 b (Yz (Y0 (Yv e) I.ok.above))).trans e1⟩
  ·obtain⟨o',e1⟩:=I.base.there b o e hx;exact⟨o',(hs.2 b (Yz (Y0 (Yv e) I.ok.above))).trans e1⟩
  ·by_cases hj:j=i
   ·subst hj;rw[hi] at e1;cases e1;rw[List.getElem?_set_self RK] at e2;cases e2;exact⟨u,r,.inl ⟨hk,by simp⟩⟩
   ·rw[List.getElem?_set_ne (Ne.symm hj)] at e2;obtain⟨u',r',q⟩:=hl j y v' e1 e2 e3;refine⟨u',r',?_⟩;rcases q with⟨k,e⟩|⟨k,c,e,z⟩
    ·refine .inl ⟨k,?_⟩;have:y≠x:=λe=>hj (MW hN e1 (e▸hi));simp[this,e]
    ·exact .inr ⟨k,c,e,z.sameBut hs (qR y c e)⟩
  ·obtain⟨w',z⟩:=I.cell y c e;exact⟨w',z.sameBut hs (qR y c e)⟩
  ·obtain⟨e,n,ne,nf,d⟩:=I.pin p hp;exact⟨(hs.2 p.1 ne).trans e,n,ne,nf,d⟩
 ·have Hj:X.fn x=true:=by
   rcases hf with z|z;·exact z
   ·rw[z] at hk;cases hk
  obtain⟨c,hc⟩:=I.ok.has x (.inl hk);obtain⟨w',z⟩:=I.cell x c hc;refine wpAny_storeName_cell I.ok.kind hk hc z (λh' oZ hs=>?_);obtain⟨oc,SR,ZeW⟩:=id z;refine h {s with heap:=h'} ⟨I.ok,I.os,I.bare,⟨λb o e n hb hx=>?_,λb o e n hb hx=>?_,I.base.free,λb o e hx=>?_,I.base.jS,I.base.kM,I.base.lT⟩,⟨m,hn.sameBut hs (Ne.symm (qR x c hc)),λj y v' e1 e2 e3=>?_⟩,λy c' e=>?_,I.free,I.jN,λp hp=>?_,tracked ⟨oc,SR,I.jN x c hc⟩ hs,by simpa using I.len⟩ ⟨c,hs,.inr hc⟩;·exact(hs.2 b (Yz (Y0 (Yv e) (I.ok.wc x c Hj hc)))).trans (I.base.keep b o e n hb hx)
  ·obtain⟨sl,e1⟩:=I.base.slot b o e n hb hx;exact⟨sl,(hs.2 b (Yz (Y0 (Yv e) (I.ok.wc x c Hj hc)))).trans e1⟩
  ·obtain⟨o',e1⟩:=I.base.there b o e hx;exact⟨o',(hs.2 b (Yz (Y0 (Yv e) (I.ok.wc x c Hj hc)))).trans e1⟩
  ·by_cases hj:j=i
   ·subst hj;rw[hi] at e1;cases e1;rw[List.getElem?_set_self RK] at e2;cases e2;exact⟨u,r,.inr ⟨.inl hk,c,hc,oZ⟩⟩
   ·rw[List.getElem?_set_ne (Ne.symm hj)] at e2;obtain⟨u',r',q⟩:=hl j y v' e1 e2 e3;refine⟨u',r',?_⟩;rcases q with q|⟨k,c',e,z'⟩;·exact .inl q
    ·refine .inr ⟨k,c',e,z'.sameBut hs ?_⟩;rintro rfl;exact hj (MW hN e1 (I.ok.inj _ _ _ e hc▸hi))
  ·by_cases SS:c'=c;·subst SS;exact⟨_,oZ⟩
   ·obtain⟨w2,z2⟩:=I.cell y c' e;exact⟨w2,z2.sameBut hs SS⟩
  ·obtain⟨e,n,ne,nf,d⟩:=I.pin p hp;refine⟨(hs.2 p.1 ?_).trans e,n,ne,nf,d⟩;intro q;rw[q,SR] at e;have q':oc=p.2:=Ys e;exact d w' (by rw[←q'];exact ZeW)
theorem EB{M:Model}{A:Around}{E:Value->Shared->Prop}{i:Nat}{x:Str}{v:V}{u:Value}{Q:Unit->Shared->Prop}(I:Inv X pins σ H s)(hN:X.N.Nodup)(hi:X.N[i]?=some x)(hx:Loc X.env.scope x)(r:RelV v u)
  (h:∀s',Inv X pins (σ.set i (some v)) H s'->Q () s')(hf:X.fn x=true\/X.env.scope.names.lookup x=some .local:=by first|exact .inl rfl|exact .inr rfl|assumption):wpAny M A (storeName X.env x u) Q E s:=
 ZE I hN hi hx r (λs' I' _=>h s' I') hf
theorem Inv.Q6{s':Shared}{ch:List Addr}(I:Inv X pins σ H s)(ho:s'.os=s.os)(u:Un (gZ X.stack) ch H H' s.heap s'.heap)(av:de X.prog X.w H' s'.heap)(hg:AllBare s'.gens)
  (lX:∀b∈ch,(b∈X.ex\/X.cT.heap.objs.size<=b)/\b≠X.env.locals/\(∀x c,X.env.cells.lookup x=some c->c≠b)/\∀p∈X.pn++pins,p.1≠b):Inv X pins σ H' s':=by
 obtain⟨h',g',d',t',o'⟩:=s';have e:o'=s.os:=ho;subst e;exact I.call (g':=g') (t':=t') (d':=d') u av hg lX
end
abbrev XK:=Value->Option Addr->Hp->Prop
abbrev St:=List (Option V)
abbrev VK:=V->Hp->Prop
abbrev TE:=St->Hp->VK->Prop
abbrev TT:=St->Hp->(Bool->Hp->Prop)->Prop
abbrev TA:=St->Hp->(List V->Hp->Prop)->Prop
structure Ends where
 nx:St->Hp->Prop
 rt:VK
 bk:St->Hp->Prop:=λ_ _=>False
 ct:St->Hp->Prop:=λ_ _=>False
abbrev TS:=Ends->St->Hp->Prop
inductive RL(X:Cx)(pins:List (Addr×Obj))(σ:St)(Q:VK)(u:Value)(s':Shared):Prop
 |mk (v H') (aC:Inv X pins σ H' s') (aV:RelV v u) (bc:Q v H'):RL X pins σ Q u s'
def EP(X:Cx)(pins:List (Addr×Obj))(σ:St)(Q:VK)(u:Value)(s':Shared):Prop:=RL X pins σ Q u s'
inductive RM(X:Cx)(pins:List (Addr×Obj))(σ:St)(R:Hp->Prop)(s':Shared):Prop
 |mk (H':Hp) (aC:Inv X pins σ H' s') (aV:R H'):RM X pins σ R s'
def TP(X:Cx)(pins:List (Addr×Obj))(σ:St)(Q:Bool->Hp->Prop)(b:Bool)(s':Shared):Prop:=RM X pins σ (Q b) s'
inductive RN(X:Cx)(pins:List (Addr×Obj))(σ:St)(Q:List V->Hp->Prop)(us:List Value)(s':Shared):Prop
 |mk (vs H') (aC:Inv X pins σ H' s') (aV:Vals vs us) (bc:Q vs H'):RN X pins σ Q us s'
def AP(X:Cx)(pins:List (Addr×Obj))(σ:St)(Q:List V->Hp->Prop)(us:List Value)(s':Shared):Prop:=RN X pins σ Q us s'
inductive qy(X:Cx)(pins:List (Addr×Obj))(Q:St->Hp->Prop)(s':Shared):Prop
 |mk (aB:St) (H':Hp) (aC:Inv X pins aB H' s') (aV:Q aB H'):qy X pins Q s'
inductive RO(X:Cx)(pins:List (Addr×Obj))(Q:VK)(u:Value)(s':Shared):Prop
 |mk (v:V) (aB:St) (H':Hp) (aC:Inv X pins aB H' s') (aV:RelV v u) (bc:Q v H'):RO X pins Q u s'
def SP(X:Cx)(pins:List (Addr×Obj))(D:Ends)(f:Flow)(s':Shared):Prop:=
 match f with
 |.next=>qy X pins D.nx s'
 |.brk=>qy X pins D.bk s'
 |.cont=>qy X pins D.ct s'
 |.ret u=>RO X pins D.rt u s'
def PE(X:Cx)(e:Expr)(t:TE):Prop:=
 ∀(pins:List (Addr×Obj)) (s:Shared) (σ:St) (H:Hp) (Q:VK),Inv X pins σ H s->t σ H Q->wpAny (model X.prog X.w) X.A (eval e X.env) (EP X pins σ Q) X.xe s
def PT(X:Cx)(e:Expr)(t:TT):Prop:=
 ∀(pins:List (Addr×Obj)) (s:Shared) (σ:St) (H:Hp) (Q:Bool->Hp->Prop),Inv X pins σ H s->t σ H Q->wpAny (model X.prog X.w) X.A (isTrue e X.env (eval e X.env)) (TP X pins σ Q) X.xe s
def PW(X:Cx)(e:Expr)(t:TT):Prop:=
 ∀(whole:Sem Value) (pins:List (Addr×Obj)) (s:Shared) (σ:St) (H:Hp) (Q:Bool->Hp->Prop),Inv X pins σ H s->t σ H Q->wpAny (model X.prog X.w) X.A (isTrue e X.env whole) (TP X pins σ Q) X.xe s
theorem PW.pt{X:Cx}{e:Expr}{t:TT}(h:PW X e t):PT X e t:=h _
def PA(X:Cx)(es:List Expr)(t:TA):Prop:=
 ∀(pos:Pos) (pins:List (Addr×Obj)) (s:Shared) (σ:St) (H:Hp) (Q:List V->Hp->Prop),Inv X pins σ H s->t σ H Q->wpAny (model X.prog X.w) X.A (spliced (backTo pos (starEach es X.env))) (AP X pins σ Q) X.xe s
def PS(X:Cx)(st:Stmt)(t:TS):Prop:=
 ∀(pins:List (Addr×Obj)) (s:Shared) (σ:St) (H:Hp) (D:Ends),Inv X pins σ H s->t D σ H->wpAny (model X.prog X.w) X.A (exec st X.env) (SP X pins D) X.xe s
def fY(X:Cx)(st:List Stmt)(t:TS):Prop:=
 ∀(pins:List (Addr×Obj)) (s:Shared) (σ:St) (H:Hp) (D:Ends),Inv X pins σ H s->t D σ H->wpAny (model X.prog X.w) X.A (execs st X.env) (SP X pins D) X.xe s
theorem az{α:Type}{t:Sem α}{Q Q':α->Shared->Prop}{M:Model}{A:Around}{E:Value->Shared->Prop}{s:Shared}(h:wpAny M A t Q E s)(hQ:∀a s,Q a s->Q' a s):wpAny M A t Q' E s:=wpAny_mono h hQ λ_ _ x=>x
section
variable {X:Cx}
inductive PL(i:Nat)(σ:St)(H:Hp)(Q:VK):Prop
 |mk (v) (aC:σ[i]?=some (some v)) (aV:Q v H):PL i σ H Q
def gv(i:Nat):TE:=λσ H Q=>PL i σ H Q
def tC(v:V):TE:=λ_ H Q=>Q v H
theorem ZcV{i:Nat}{x:Str}{pos:Pos}(hN:X.N[i]?=some x)(hv:wb X.env.scope x)(hd:(x==("__debug__":Str))=false:=by decide)(jh:(x==("__classdict__":Str))=false:=by decide):PE X (.Name x pos) (gv i):=by
 rintro pins s σ H Q I ⟨v,e,h⟩;obtain⟨m,hn,hl⟩:=I.loc;obtain⟨u,r,l⟩:=hl i x v hN e hv;have fin:EP X pins σ Q u s:=⟨v,H,I,r,h⟩;rcases l with⟨hk,hm⟩|⟨hk,c,hc,yJ⟩;·exact wpAny_Name (wpAny_loadName_local I.ok.kind hk hn hm fin) hd
 ·rcases hk with hk|hk;·exact wpAny_Name (wpAny_loadName_cell I.ok.kind hk hc yJ fin) hd
  ·exact wpAny_Name (wpAny_loadName_free I.ok.kind hk hc yJ fin jh) hd
theorem aI{i j pos}:PE X (.Constant (.int i) j pos) (tC (.int i)):=λ_ _ _ H _ I h=>wpAny_Constant_int ⟨.int i,H,I.tok _,⟨_,rfl⟩,h⟩
theorem i_{b j pos}:PE X (.Constant (.bool b) j pos) (tC (.bl b)):=λ_ _ _ H _ I h=>Constant_bool ⟨.bl b,H,I,rfl,h⟩
theorem kA{j pos}:PE X (.Constant .none j pos) (tC .aA):=λ_ _ _ H _ I h=>Constant_none ⟨.aA,H,I,rfl,h⟩
theorem bA{x j pos}:PE X (.Constant (.str x) j pos) (tC (.str x)):=λ_ _ _ H _ I h=>Calls.Constant_str ⟨.str x,H,I.tok _,⟨_,rfl⟩,h⟩
def Gl(X:Cx)(x:Str):Prop:=X.env.kindOf x=some .globalImplicit
theorem E9{E:Value->Shared->Prop}{pins:List (Addr×Obj)}{s:Shared}{σ:St}{H:Hp}{x:Str}{u:Value}{pos:Pos}{Q:Value->Shared->Prop}(I:Inv X pins σ H s)(hg:Gl X x)(hm:X.mg x=some u)(h:Q u s)
  (hd:(x==("__debug__":Str))=false:=by decide):wpAny (model X.prog X.w) X.A (eval (.Name x pos) X.env) Q E s:=
 Calls.Name_function_global I.ok.kind hg (Calls.loadGlobal_global (by rw[I.ok.glob];exact I.mod.glob.keeps I.bk) hm h) hd
theorem yy{E:Value->Shared->Prop}{pins:List (Addr×Obj)}{s:Shared}{σ:St}{H:Hp}{x:Str}{u:Value}{pos:Pos}{Q:Value->Shared->Prop}(I:Inv X pins σ H s)(hg:Gl X x)(hm:X.mg x=none)(hv:bootBuiltins x=some u)(h:Q u s)
  (hn:x≠"__name__":=by decide)(hd:(x==("__debug__":Str))=false:=by decide):wpAny (model X.prog X.w) X.A (eval (.Name x pos) X.env) Q E s:=by
 obtain⟨mb,h1,h2⟩:=I.mod.blt;exact Calls.Name_function_global I.ok.kind hg (Calls.loadGlobal_builtin (by rw[I.ok.glob];exact I.mod.glob.keeps I.bk) hm (by rw[I.ok.blt];exact h1.keeps I.bk) ((h2 x hn).trans hv) h) hd
theorem di{x:Str}{v:V}{u:Value}{pos:Pos}(hg:Gl X x)(hm:X.mg x=some u)(r:RelV v u)(hd:(x==("__debug__":Str))=false:=by decide):PE X (.Name x pos) (tC v):=
 λ_ _ _ H _ I h=>E9 I hg hm ⟨v,H,I,r,h⟩ hd
theorem ZbH{x:Str}{v:V}{u:Value}{pos:Pos}(hg:Gl X x)(hm:X.mg x=none)(hv:bootBuiltins x=some u)(r:RelV v u)(hn:x≠"__name__":=by decide)(hd:(x==("__debug__":Str))=false:=by decide):PE X (.Name x pos) (tC v):=
 λ_ _ _ H _ I h=>yy I hg hm hv ⟨v,H,I,r,h⟩ hn hd
variable {a b:Expr}{ta tb:TE}{pos:Pos}
def PC(X:Cx)(op:CmpOp)(a b:Expr)(t:TE):Prop:=
 ∀(pins:List (Addr×Obj)) (s:Shared) (σ:St) (H:Hp) (Q:VK),Inv X pins σ H s->t σ H Q->
  wpAny (model X.prog X.w) X.A (eval a X.env) (λv bG=>wpAny (model X.prog X.w) X.A (eval b X.env) (λu dR=>wpAny (model X.prog X.w) X.A (compareOp op v u) (EP X pins σ Q) X.xe dR) X.xe bG) X.xe s
inductive RP(Q:Bool->Hp->Prop)(x:V)(H1:Hp):Prop
 |mk (c) (aC:x=.bl c) (aV:Q c H1):RP Q x H1
def tB(t:TE):TT:=λσ H Q=>t σ H λx H1=>RP Q x H1
theorem ZcW{op:CmpOp}{t:TE}(h:PC X op a b t)(h1:behindInMarks op b=false:=by first|exact Zau _ (by decide) (by decide)|rfl):PE X (.Compare a [op] [b] pos) t:=λpins s σ H Q I hw=>wpAny_Compare1 (h pins s σ H Q I hw) h1
theorem i6{op:CmpOp}{t:TE}(h:PC X op a b t)(h1:behindInMarks op b=false:=by first|exact Zau _ (by decide) (by decide)|rfl):PT X (.Compare a [op] [b] pos) (tB t):=by
 intro pins s σ H Q I hw;refine wpAny_isTrue_Compare1 (az (h pins s σ H _ I hw) λv s1 h1=>az h1 λu s2 h2=>az h2 λc s3 zq=>?_) h1;obtain⟨x,H1,I1,r1,q1⟩:=zq;obtain⟨d,rfl,q⟩:=q1;cases r1;exact wpAny_truthy_bool ⟨H1,I1,q⟩
theorem eN{e:Expr}{t:TE}(h:PE X e t)(he:∀whole,isTrue e X.env whole=(do let v←whole;standAt e.pos;holding [v] (truthy v)):=by intro _;rfl):PT X e (tB t):=by
 intro pins s σ H Q I hw;refine isTrue_plain (az (h pins s σ H _ I hw) λv s1 zq=>?_) (he _);obtain⟨x,H1,I1,r1,q1⟩:=zq;obtain⟨d,rfl,q⟩:=q1;cases r1;exact wpAny_truthy_bool ⟨H1,I1,q⟩
variable {tA zk:TT}{rest:List Expr}
def RQ(t u:TT):TT:=λσ H Q=>t σ H λc H1=>if c=true then u σ H1 Q else Q false H1
def SU(t u:TT):TT:=λσ H Q=>t σ H λc H1=>if c=true then Q true H1 else u σ H1 Q
def ZeX(t:TT):TT:=λσ H Q=>t σ H λc H1=>Q (!c) H1
theorem pw_and1(ha:PT X a tA):PW X (.BoolOp .And [a] pos) tA:=by
 intro wh pins s σ H Q I h;refine isTrue_and (az (ha pins s σ H Q I h) λc s1 e=>?_);cases c with
 |true=>exact isTrue_and_nil e
 |false=>exact e
theorem pw_or1(ha:PT X a tA):PW X (.BoolOp .Or [a] pos) tA:=by
 intro wh pins s σ H Q I h;refine isTrue_or (az (ha pins s σ H Q I h) λc s1 e=>?_);cases c with
 |false=>exact isTrue_or_nil e
 |true=>exact e
theorem pw_and(ha:PT X a tA)(hb:PW X (.BoolOp .And (b::rest) pos) zk):PW X (.BoolOp .And (a::b::rest) pos) (RQ tA zk):=by
 intro wh pins s σ H Q I h;refine isTrue_and (az (ha pins s σ H _ I h) λc s1 zq=>?_);obtain⟨H1,I1,q1⟩:=zq;cases c with
 |true=>exact hb wh pins s1 σ H1 Q I1 q1
 |false=>exact⟨H1,I1,q1⟩
theorem pw_or(ha:PT X a tA)(hb:PW X (.BoolOp .Or (b::rest) pos) zk):PW X (.BoolOp .Or (a::b::rest) pos) (SU tA zk):=by
 intro wh pins s σ H Q I h;refine isTrue_or (az (ha pins s σ H _ I h) λc s1 zq=>?_);obtain⟨H1,I1,q1⟩:=zq;cases c with
 |true=>exact⟨H1,I1,q1⟩
 |false=>exact hb wh pins s1 σ H1 Q I1 q1
theorem i8(ha:PT X a tA):PT X (.UnaryOp .Not a pos) (ZeX tA):=by
 intro pins s σ H Q I h;exact isTrue_not (ha pins s σ H (λc H1=>Q (!c) H1) I h)
def Q7(ta tb:TE):TE:=λσ H Q=>ta σ H λx H1=>∃c,x=.bl c/\if c=true then tb σ H1 Q else Q (.bl false) H1
def RS(ta tb:TE):TE:=λσ H Q=>ta σ H λx H1=>∃c,x=.bl c/\if c=true then Q (.bl true) H1 else tb σ H1 Q
def Zeb(ta:TE):TE:=λσ H Q=>ta σ H λx H1=>∃c,x=.bl c/\Q (.bl (!c)) H1
theorem lL{op}{t:TE}(h:PE X a t):PE X (.BoolOp op [a] pos) t:=λpins s σ H Q I hw=>BoolOp_one (h pins s σ H Q I hw)
theorem oG(ha:PE X a ta)(hb:PE X (.BoolOp .And (b::rest) pos) tb):PE X (.BoolOp .And (a::b::rest) pos) (Q7 ta tb):=by
 intro pins s σ H Q I h;refine BoolOp_and (az (ha pins s σ H _ I h) λv s1 zq=>?_);obtain⟨x,H1,I1,r1,q1⟩:=zq;obtain⟨c,rfl,q1⟩:=q1;cases r1;refine wpAny_truthy_bool ?_;cases c with
 |true=>exact hb pins s1 σ H1 Q I1 q1
 |false=>exact⟨.bl false,H1,I1,rfl,q1⟩
theorem Gb(ha:PE X a ta)(hb:PE X (.BoolOp .Or (b::rest) pos) tb):PE X (.BoolOp .Or (a::b::rest) pos) (RS ta tb):=by
 intro pins s σ H Q I h;refine BoolOp_or (az (ha pins s σ H _ I h) λv s1 zq=>?_);obtain⟨x,H1,I1,r1,q1⟩:=zq;obtain⟨c,rfl,q1⟩:=q1;cases r1;refine wpAny_truthy_bool ?_;cases c with
 |false=>exact hb pins s1 σ H1 Q I1 q1
 |true=>exact⟨.bl true,H1,I1,rfl,q1⟩
theorem ZcX(ha:PE X a ta):PE X (.UnaryOp .Not a pos) (Zeb ta):=by
 intro pins s σ H Q I h;refine UnaryOp_ (az (ha pins s σ H _ I h) λv s1 zq=>?_);obtain⟨x,H1,I1,r1,q1⟩:=zq;obtain⟨c,rfl,q1⟩:=q1;cases r1;exact not_of (wpAny_truthy_bool ⟨.bl (!c),H1,I1,rfl,q1⟩)
end
def ak(K:PySem.W.Frag)(H:Hp)(a:Addr)(xs:List V):Prop:=
 Rd H a (.lst xs)\/
  ∃(o:Obj) (ah:Array Value) (n:Nat),K.lookup a=some o/\o.cls=.type "list"/\o.dict=none/\o.data=.seq ah n/\ah.size<=sizeLine/\Vals xs ah.toList
def ay(K:PySem.W.Frag)(H:Hp)(a:Addr)(xs:List V):Prop:=
 Rd H a (.tup xs)\/
  ∃(o:Obj) (ah:Array Value) (n:Nat),K.lookup a=some o/\o.cls=.type "tuple"/\o.data=.seq ah n/\ah.size<=sizeLine/\Vals xs ah.toList
def ZeY:Value->Option V
 |.none=>some .aA
 |.bool b=>some (.bl b)
 |.int i _=>some (.int i)
 |.str x _=>some (.str x)
 |.bytes b _=>some (.iL b)
 |.float b _=>some (.qN b)
 |.ref a=>some (.ref a)
 |.type n=>some (.ty n)
 |_=>none
theorem RelV.abs{x:V}{u:Value}(r:RelV x u):ZeY u=some x:=by
 cases x with
 |aA=>cases r;rfl
 |bl _=>cases r;rfl
 |int _=>obtain⟨t,rfl⟩:=r;rfl
 |str _=>obtain⟨t,rfl⟩:=r;rfl
 |iL _=>obtain⟨t,rfl⟩:=r;rfl
 |qN _=>obtain⟨t,rfl⟩:=r;rfl
 |ref _=>cases r;rfl
 |ty _=>cases r;rfl
theorem RelV.inj{x y:V}{u:Value}(r:RelV x u)(q:RelV y u):x=y:=Ys (r.abs.symm.trans q.abs)
theorem Vals.inj:∀{xs ys:List V} {us:List Value},Vals xs us->Vals ys us->xs=ys:=by
 intro xs ys us h;induction h generalizing ys with
 |nil=>intro h';cases h';rfl
 |cons r t ih=>
  intro h';cases h' with
  |cons r' t'=>rw[r.inj r',ih t']
section
variable {X:Cx}{pins:List (Addr×Obj)}{σ:St}{H:Hp}{s:Shared}{a:Addr}{xs ys:List V}
theorem ak.of{K:PySem.W.Frag}(h:H a=some (.lst xs)):ak K H a xs:=.inl (.inl h)
theorem ay.of{K:PySem.W.Frag}(h:H a=some (.tup xs)):ay K H a xs:=.inl (.inl h)
theorem Inv.list(I:Inv X pins σ H s)(h:ak X.K H a xs):∃ah:List Value,Vals xs ah/\PlainL s.heap a ah.toArray/\xs.length<=sizeLine:=by
 rcases h with h|⟨o,ah,n,hk,hc,hd,hs,hz,r⟩
 ·obtain⟨z,ah,n,r,e⟩:=h.ok I.av;exact⟨ah,r,⟨_,n,e,rfl,rfl,rfl⟩,z⟩
 ·refine⟨ah.toList,r,⟨o,n,I.dA a o hk,hc,hd,by simpa using hs⟩,?_⟩;have e:=r.length
  grind
theorem Inv.tuple(I:Inv X pins σ H s)(h:ay X.K H a xs):∃ah:List Value,Vals xs ah/\IsTup s.heap a ah.toArray/\xs.length<=sizeLine:=by
 rcases h with h|⟨o,ah,n,hk,hc,hs,hz,r⟩
 ·obtain⟨z,ah,r,p⟩:=h.ok I.av;exact⟨ah,r,p.tup,z⟩
 ·refine⟨ah.toList,r,⟨o,I.dA a o hk,hc,n,by simpa using hs⟩,?_⟩;have e:=r.length
  grind
theorem Inv.Zav(I:Inv X pins σ H s)(h:ak X.K H a xs)(h':ak X.K H a ys):xs=ys:=by
 obtain⟨ah,r,⟨o,n,e,_,_,d⟩,_⟩:=I.list h;obtain⟨its',r',⟨o',n',e',_,_,d'⟩,_⟩:=I.list h';rw[e] at e';cases e';rw[d] at d';injection d' with d1 _;have:ah=its':=by simpa using congrArg Array.toList d1
 subst this;exact r.inj r'
theorem Inv.ZF(I:Inv X pins σ H s)(h:ay X.K H a xs)(h':ay X.K H a ys):xs=ys:=by
 obtain⟨ah,r,⟨o,e,_,n,d⟩,_⟩:=I.tuple h;obtain⟨its',r',⟨o',e',_,n',d'⟩,_⟩:=I.tuple h';rw[e] at e';cases e';rw[d] at d';injection d' with d1 _;have:ah=its':=by simpa using congrArg Array.toList d1
 subst this;exact r.inj r'
end
abbrev Cx.lU(X:Cx)(E:Value->Shared->Prop):Cx:={X with xe:=E}
abbrev Cx.zm(X:Cx):Cx:=X.lU λ_ _=>False
theorem Cx.Ok.lU{X:Cx}(ok:X.Ok)(E:Value->Shared->Prop):(X.lU E).Ok:=
 ⟨ok.mod,ok.kind,ok.glob,ok.blt,ok.above,ok.inj,ok.has,ok.wc,ok.hd,ok.frames,ok.zd,ok.tQ,ok.bs,ok.nI,ok.vQ,ok.tG,ok.jT,ok.qQ⟩
theorem Cx.Ok.oH{X:Cx}{E:Value->Shared->Prop}(ok:(X.lU E).Ok):X.Ok:=
 ⟨ok.mod,ok.kind,ok.glob,ok.blt,ok.above,ok.inj,ok.has,ok.wc,ok.hd,ok.frames,ok.zd,ok.tQ,ok.bs,ok.nI,ok.vQ,ok.tG,ok.jT,ok.qQ⟩
section
variable {X:Cx}{pins:List (Addr×Obj)}{σ:St}{H:Hp}{s:Shared}{E:Value->Shared->Prop}
theorem Inv.lU(I:Inv X pins σ H s)(E:Value->Shared->Prop):Inv (X.lU E) pins σ H s:=⟨I.ok.lU E,I.os,I.bare,I.base,I.loc,I.cell,I.free,I.jN,I.pin,I.av,I.len⟩
theorem Inv.oH(I:Inv (X.lU E) pins σ H s):Inv X pins σ H s:=⟨I.ok.oH,I.os,I.bare,I.base,I.loc,I.cell,I.free,I.jN,I.pin,I.av,I.len⟩
theorem SP.oH{D:Ends}{f:Flow}{s':Shared}(h:SP (X.lU E) pins D f s'):SP X pins D f s':=by
 cases f with
 |next=>obtain⟨aB,H',I,q⟩:=h;exact⟨aB,H',I.oH,q⟩
 |brk=>obtain⟨aB,H',I,q⟩:=h;exact⟨aB,H',I.oH,q⟩
 |cont=>obtain⟨aB,H',I,q⟩:=h;exact⟨aB,H',I.oH,q⟩
 |ret u=>obtain⟨v,aB,H',I,r,q⟩:=h;exact⟨v,aB,H',I.oH,r,q⟩
theorem fY.zm{st:List Stmt}{t:TS}(h:fY X.zm st t):fY X st t:=λpins s σ H D I hw=>
 wpAny_mono (h pins s σ H D (I.lU _) hw) (λ_ _ q=>q.oH) λ_ _ z=>False.elim z
end
section
variable {X:Cx}{st:Stmt}{rest:List Stmt}{t u:TS}{e:Expr}{te:TE}{pos:Pos}
def Q8:TS:=λD σ H=>D.nx σ H
def vR(t u:TS):TS:=λD σ H=>t {D with nx:=u D} σ H
theorem aY:fY X [] Q8:=λ_ _ σ H _ I h=>wpAny_execs_nil ⟨σ,H,I,h⟩
theorem aj(h1:PS X st t)(h2:fY X rest u):fY X (st::rest) (vR t u):=by
 intro pins s σ H D I h;refine wpAny_execs_cons (az (h1 pins s σ H {D with nx:=u D} I h) λf s1 q=>?_);cases f with
 |next=>
  obtain⟨aB,H',I',q⟩:=q;exact h2 pins s1 aB H' D I' q
 |ret v=>exact q
 |brk=>exact q
 |cont=>exact q
theorem aq(h1:PS X st t):fY X [st] t:=by
 intro pins s σ H D I h;refine wpAny_execs_cons (az (h1 pins s σ H D I h) λf s1 q=>?_);cases f with
 |next=>exact wpAny_execs_nil q
 |ret v=>exact q
 |brk=>exact q
 |cont=>exact q
theorem Inv.quiet{pins:List (Addr×Obj)}{σ:St}{H:Hp}{s:Shared}(I:Inv X pins σ H s):interactive X.env=false:=by simp[interactive,I.ok.kind]
def Zec(te:TE):TS:=λD σ H=>te σ H λ_ H1=>D.nx σ H1
theorem cz(he:PE X e te)(hs:swapsWith e none pos.line X.env=pure false:=by rfl):PS X (.Expr e pos) (Zec te):=by
 intro pins s σ H D I h;exact wpAny_Expr_any (az (he pins s σ H _ I h) λv s1 ⟨x,H1,I1,r1,q1⟩=>⟨σ,H1,I1,q1⟩) I.quiet hs
def ZeZ(te:TE):TS:=λD σ H=>te σ H D.rt
theorem aF(he:PE X e te):PS X (.Return (some e) pos) (ZeZ te):=by
 intro pins s σ H D I h;exact wpAny_Return_some (az (he pins s σ H _ I h) λv s1 ⟨x,H1,I1,r1,q1⟩=>⟨x,σ,H1,I1,r1,q1⟩)
def GI(c:TT)(t u:TS):TS:=λD σ H=>c σ H λb H1=>if b=true then t D σ H1 else u D σ H1
theorem aS{c:Expr}{a b:List Stmt}{tc:TT}(hc:PT X c tc)(ha:fY X a t)(hb:fY X b u):PS X (.If c a b pos) (GI tc t u):=by
 intro pins s σ H D I h;refine wpAny_If (az (hc pins s σ H _ I h) λd s1 zq=>?_);obtain⟨H1,I1,q1⟩:=zq;cases d with
 |true=>exact ha pins s1 σ H1 D I1 q1
 |false=>exact hb pins s1 σ H1 D I1 q1
def ZcY:TS:=λ_ _ _=>False
theorem fH{sts:List Stmt}:fY X sts ZcY:=λ_ _ _ _ _ _ h=>h.elim
end
abbrev TG:=V->St->Hp->(St->Hp->Prop)->Prop
abbrev lY:=List V->St->Hp->(St->Hp->Prop)->Prop
def PG(X:Cx)(target:Expr)(t:TG):Prop:=
 ∀(pins:List (Addr×Obj)) (s:Shared) (σ:St) (H:Hp) (v:V) (u:Value) (Q:St->Hp->Prop),Inv X pins σ H s->RelV v u->t v σ H Q->
  wpAny (model X.prog X.w) X.A (assign target X.env u) (λ_ s'=>qy X pins Q s') X.xe s
def wg(X:Cx)(ts:List Expr)(t:lY):Prop:=
 ∀(pins:List (Addr×Obj)) (s:Shared) (σ:St) (H:Hp) (vs:List V) (us:List Value) (Q:St->Hp->Prop),Inv X pins σ H s->Vals vs us->t vs σ H Q->
  wpAny (model X.prog X.w) X.A (assignInOrder ((assignEach ts X.env).map (·.2)) us) (λ_ s'=>qy X pins Q s') X.xe s
abbrev GJ:=V->V->V->Hp->(Hp->Prop)->Prop
def qz(X:Cx)(t:GJ):Prop:=
 ∀(pins:List (Addr×Obj)) (s:Shared) (σ:St) (H:Hp) (o i v:V) (ov iv u:Value) (Q:Hp->Prop),Inv X pins σ H s->RelV o ov->RelV i iv->RelV v u->t o i v H Q->
  wpAny (model X.prog X.w) X.A (setItem ov iv u) (λ_ s'=>∃H',Inv X pins σ H' s'/\Q H') X.xe s
abbrev zo:=V->V->Hp->VK->Prop
def Hk(X:Cx)(op:Operator)(t:zo):Prop:=
 ∀(pins:List (Addr×Obj)) (s:Shared) (σ:St) (H:Hp) (x y:V) (v u:Value) (Q:VK),Inv X pins σ H s->RelV x v->RelV y u->t x y H Q->
  wpAny (model X.prog X.w) X.A (inplaceOp op v u) (EP X pins σ Q) X.xe s
section
variable {X:Cx}{pos:Pos}
def vG(i:Nat):TG:=λv σ H Q=>Q (σ.set i (some v)) H
theorem bj{i:Nat}{x:Str}(hN:X.N.Nodup)(hi:X.N[i]?=some x)(hx:Loc X.env.scope x)(hf:X.fn x=true\/X.env.scope.names.lookup x=some .local:=by first|exact .inl rfl|exact .inr rfl|assumption):PG X (.Name x pos) (vG i):=by
 intro pins s σ H v u Q I r h;exact wpAny_assign_Name (EB I hN hi hx r (λs' I'=>⟨_,H,I',h⟩) hf)
def Ze0:lY:=λvs σ H Q=>vs=[]/\Q σ H
inductive Of(t:TG)(u:lY)(vs:List V)(σ:St)(H:Hp)(Q:St->Hp->Prop):Prop
 |mk (v r) (aC:vs=v::r) (aV:t v σ H λaB H'=>u r aB H' Q):Of t u vs σ H Q
def Zed(t:TG)(u:lY):lY:=λvs σ H Q=>Of t u vs σ H Q
theorem ib:wg X [] Ze0:=by
 rintro pins s σ H vs us Q I r ⟨e,h⟩;subst e;exact assignInOrder_nil ⟨σ,H,I,h⟩
theorem bW{e:Expr}{es:List Expr}{t:TG}{u:lY}(h1:PG X e t)(h2:wg X es u)
  (hs:(assignEach (e::es) X.env).map (·.2)=assign e X.env::(assignEach es X.env).map (·.2):=by rfl):wg X (e::es) (Zed t u):=by
 rintro pins s σ H vs us Q I r ⟨v,vr,e1,h⟩;subst e1;cases r with
 |cons r rr=>
  rw[hs];exact assignInOrder_cons (az (h1 pins s σ H _ _ _ I r h) λ_ s1 ⟨tT,H1,I1,q1⟩=>h2 pins s1 tT H1 _ _ Q I1 rr q1)
inductive PM(K:PySem.W.Frag)(n:Nat)(t:lY)(v:V)(σ:St)(H:Hp)(Q:St->Hp->Prop):Prop
 |mk (a xs) (aC:v=.ref a) (aV:ay K H a xs) (bc:xs.length=n) (bO:t xs σ H Q):PM K n t v σ H Q
def RT(K:PySem.W.Frag)(n:Nat)(t:lY):TG:=λv σ H Q=>PM K n t v σ H Q
theorem ZcZ{es:List Expr}{k:Nat}{t:lY}{n:Nat}(hc:X.calm=true)(h:wg X es t)
  (hn:(assignEach es X.env).length=n:=by rfl)(gF:(assignEach es X.env).findIdx? (·.1)=none:=by rfl):PG X (.Tuple es k pos) (RT X.K n t):=by
 rintro pins s σ H v u Q I r ⟨a,xs,e1,hq,hl,hw⟩;subst e1;cases r;obtain⟨ah,rv,ht,hz⟩:=I.tuple hq;exact assign_Tuple_tuple (I.ok.hd hc) ht (by simp[hn,←hl,rv.length]) gF λh' hx=>h pins _ σ H xs _ Q (I.kept λb o e=>hx b o (Yz (Yv e)) e) (by simpa using rv) hw
def RU(to ti:TE)(t:GJ):TG:=λv σ H Q=>to σ H λo H1=>ti σ H1 λi H2=>t o i v H2 λH3=>Q σ H3
theorem Zc0{o i:Expr}{to ti:TE}{t:GJ}(ho:PE X o to)(hi:PE X i ti)(hs:qz X t)
  (ha:∀v,assign (.Subscript o i pos) X.env v=(do
   let ov←holding [v] (eval o X.env);let iv←holding [v,ov] (eval i X.env)
   standAt pos
   holding [v,ov,iv] (setItem ov iv v)
   release [v,ov,iv] []):=by intro _;rfl):PG X (.Subscript o i pos) (RU to ti t):=by
 intro pins s σ H v u Q I r h;exact wpAny_bind (wpAny_holding (az (ho pins s σ H _ I h) λov s1 ⟨x,H1,I1,r1,q1⟩=>wpAny_bind (wpAny_holding (az (hi pins s1 σ H1 _ I1 q1) λiv s2 ⟨y,H2,I2,r2,q2⟩=>wpAny_bind (wpAny_standAt (wpAny_bind (wpAny_holding (az (hs pins s2 σ H2 x y v ov iv u _ I2 r1 r2 r q2) λ_ s3 ⟨H3,I3,q3⟩=>wpAny_release ⟨σ,H3,I3,q3⟩))))))))
def vS(te:TE)(g:TG):TS:=λD σ H=>te σ H λx H1=>g x σ H1 D.nx
theorem mY{tg e:Expr}{te:TE}{g:TG}(he:PE X e te)(hg:PG X tg g)(hs:swapsWithSole [tg] e pos.line X.env=pure false:=by rfl)(hw:swappedStores [tg] e X.env=pure none:=by rfl)
  (h1:(assignEach [tg] X.env).map (·.2)=[assign tg X.env]:=by rfl):PS X (.Assign [tg] e pos) (vS te g):=by
 intro pins s σ H D I h;refine wpAny_Assign_stores (az (he pins s σ H _ I h) λv s1 zq=>?_) hs hw;obtain⟨x,H1,I1,r1,q1⟩:=zq;rw[h1];exact az (hg pins s1 σ H1 x v _ I1 r1 q1) λ_ s2 q=>q
theorem bg{i:Nat}{x:Str}{e:Expr}{te:TE}{pos':Pos}(hN:X.N.Nodup)(hi:X.N[i]?=some x)(hx:Loc X.env.scope x)(he:PE X e te)(hs:swapsWith e (some (.Name x pos')) pos.line X.env=pure false:=by rfl)(hf:X.fn x=true\/X.env.scope.names.lookup x=some .local:=by first|exact .inl rfl|exact .inr rfl|assumption):
  PS X (.Assign [.Name x pos'] e pos) (vS te (vG i)):=by
 intro pins s σ H D I h;refine wpAny_Assign_Name (az (he pins s σ H _ I h) λv s1 zq=>?_) hs;obtain⟨y,H1,I1,r1,q1⟩:=zq;exact EB I1 hN hi hx r1 (λs2 I2=>⟨_,H1,I2,q1⟩) hf
def Ze1(i:Nat)(te:TE)(ti:zo):TS:=λD σ H=>∃x,σ[i]?=some (some x)/\te σ H λy H1=>ti x y H1 λz H2=>D.nx (σ.set i (some z)) H2
theorem FH{i:Nat}{x:Str}{e:Expr}{te:TE}{op:Operator}{ti:zo}{pos':Pos}(hN:X.N.Nodup)(hi:X.N[i]?=some x)(hx:Loc X.env.scope x)(he:PE X e te)(ho:Hk X op ti)(hf:X.fn x=true\/X.env.scope.names.lookup x=some .local:=by first|exact .inl rfl|exact .inr rfl|assumption):
  PS X (.AugAssign (.Name x pos') op e pos) (Ze1 i te ti):=by
 rintro pins s σ H D I ⟨v,e1,h⟩;obtain⟨m,hn,hl⟩:=I.loc;have Hm:wb X.env.scope x:=by rcases hx with k|k;exact .inl k;exact .inr (.inl k)
 obtain⟨u,r,l⟩:=hl i x v hi e1 Hm;refine wpAny_AugAssign_Name ?_;have go:wpAny (model X.prog X.w) X.A (eval e X.env) (λw dR=>wpAny (model X.prog X.w) X.A (inplaceOp op u w) (λr dN=>wpAny (model X.prog X.w) X.A (storeName X.env x r) (λ_=>SP X pins D .next) X.xe dN) X.xe dR) X.xe s:=az (he pins s σ H _ I h) λw s1 ⟨y,H1,I1,r1,q1⟩=>az (ho pins s1 σ H1 v y u w _ I1 r r1 q1) λz s2 ⟨zv,H2,I2,r2,q2⟩=>EB I2 hN hi hx r2 (λs3 I3=>⟨_,H2,I3,q2⟩) hf;rcases l with⟨hk,hm⟩|⟨hk,c,hc,yJ⟩;·exact wpAny_loadName_local I.ok.kind hk hn hm go
 ·rcases hk with hk|hk;·exact wpAny_loadName_cell I.ok.kind hk hc yJ go
  ·rcases hx with k|k
   ·have:X.env.scope.names.lookup x=some .free:=hk
    grind
   ·have:X.env.scope.names.lookup x=some .free:=hk
    grind
inductive Q9(f:Int->Int->Int)(x:V)(y:V)(H:Hp)(Q:VK):Prop
 |mk (i j) (aC:x=.int i) (aV:y=.int j) (bc:Q (.int (f i j)) H):Q9 f x y H Q
def ipI(f:Int->Int->Int):zo:=λx y H Q=>Q9 f x y H Q
theorem PN:Hk X .Add (ipI λi j=>i+j):=by
 rintro pins s σ H x y v u Q I r1 r2 ⟨i,j,e1,e2,q⟩;subst e1;subst e2;obtain⟨t,rfl⟩:=r1;obtain⟨t',rfl⟩:=r2;exact iadd_int ⟨.int _,H,I.tok _,⟨_,rfl⟩,q⟩
end
section
variable {X:Cx}{pos:Pos}
def PQ(c:TT)(tb:TS):TS:=λD σ H=>∃W:Nat->St->Hp->Prop,(∃m,W m σ H)/\∀m σ H,W m σ H->
 c σ H λb H1=>if b=true then ∃N:St->Hp->Prop,(∀aB H',N aB H'->∃m',m'<m/\W m' aB H')/\tb {D with nx:=N,ct:=N,bk:=D.nx} σ H1 else D.nx σ H1
theorem EC{c:Expr}{body:List Stmt}{tc:TT}{tb:TS}(hp:PassesOwn (model X.prog X.w) X.A X.env X.xe)(hc:PT X c tc)(hb:fY X body tb):PS X (.While c body [] pos) (PQ tc tb):=by
 intro pins s σ H D I h;obtain⟨W,⟨m0,w0⟩,turn⟩:=h;refine wpAny_While (codeAny_whileLoop (λn s'=>qy X pins (W n) s') ?_ m0 ⟨σ,H,I,w0⟩);rintro n s1 ⟨tT,H1,I1,w1⟩;refine wpAny_passesOwn hp (az (hc pins s1 tT H1 _ I1 (turn n tT H1 w1)) λb s2 zq=>?_);obtain⟨H2,I2,q2⟩:=zq;cases b with
 |true=>
  obtain⟨N,hN,q2⟩:=q2;rw[if_pos rfl];refine wpAny_passesOwn hp (az (hb pins s2 tT H2 _ I2 q2) λf s3 q3=>?_);cases f with
  |next=>
   obtain⟨bT,H3,I3,n3⟩:=q3;obtain⟨m',hm,w3⟩:=hN bT H3 n3;exact⟨m',hm,bT,H3,I3,w3⟩
  |cont=>
   obtain⟨bT,H3,I3,n3⟩:=q3;obtain⟨m',hm,w3⟩:=hN bT H3 n3;exact⟨m',hm,bT,H3,I3,w3⟩
  |brk=>exact q3
  |ret v=>exact q3
 |false=>
  rw[if_neg Yi];exact wpAny_execs_nil ⟨tT,H2,I2,q2⟩
end
structure It where
 go:Nat->Hp->Prop
 o_:Nat->Hp->V->Hp->Prop
 stop:Nat->Hp->Prop
def gW(X:Cx)(pins:List (Addr×Obj))(H:Hp)(b:Addr):Prop:=
 H b=none/\b≠X.env.locals/\b∉X.fs/\(b∈X.ex\/X.cT.heap.objs.size<=b)/\(∀x c,X.env.cells.lookup x=some c->c≠b)/\∀p∈X.pn++pins,p.1≠b
theorem Inv.nE{X:Cx}{pins:List (Addr×Obj)}{σ:St}{H H':Hp}{s:Shared}{b:Addr}(I:Inv X pins σ H s)(hb:s.heap.objs.size<=b)(hn:H' b=none):gW X pins H' b:=by
 refine⟨hn,Ju (Y0 I.lt hb),I.ZeU hb,.inr (Y4 I.sz hb),λx c e z=>?_,λp hp z=>?_⟩
 ·obtain⟨v,q⟩:=I.cell x c e;exact absurd (Y0 q.lt (by rw[z];exact hb)) (Y7 _)
 ·exact absurd (Y0 (Yv (I.pin p hp).1) (by rw[z];exact hb)) (Y7 _)
structure Turn(P:Program)(w:World)(K:PySem.W.Frag)(tg:Expr)(J:It)(fp:List Addr)(it:Addr)(tn:Nat->Heap->Prop):Prop where
 mem:it∈fp
 obj:∀i h,tn i h->∀b∈fp,∃o,h.get? b=some o/\∀v,o.data≠.cell v
 keep:∀i h h',tn i h->(∀b∈fp,∀o,h.get? b=some o->h'.get? b=some o)->tn i h'
 item:∀(X:Cx),X.prog=P->X.w=w->X.K=K->X.calm=true->∀(i:Nat) (pins:List (Addr×Obj)) (s:Shared) (σ:St) (H:Hp) (E:Value->Shared->Prop),Inv X pins σ H s->(∀b∈fp,gW X pins H b)->tn i s.heap->J.go i H->
  wpAny (model P w) X.A (pyNext (.ref it)) (λr s1=>∃u,r=some u/\
   wpAny (model P w) X.A (letOwnedTupleGo tg (.ref it) u) (λ_ s2=>∃x H',Inv X pins σ H' s2/\RelV x u/\J.o_ i H x H'/\tn (i+1) s2.heap/\∀b∈fp,H' b=none) E s1) E s
 done:∀(X:Cx),X.prog=P->X.w=w->X.K=K->X.calm=true->∀(i:Nat) (pins:List (Addr×Obj)) (s:Shared) (σ:St) (H:Hp) (E:Value->Shared->Prop),Inv X pins σ H s->(∀b∈fp,gW X pins H b)->tn i s.heap->J.stop i H->
  wpAny (model P w) X.A (pyNext (.ref it)) (λr s1=>r=none/\Inv X pins σ H s1) E s
 self:∀(A:Around) (i:Nat) (s:Shared) (Q:Value->Shared->Prop) (E:Value->Shared->Prop),tn i s.heap->Q (.ref it) s->wpAny (model P w) A (pyIter (.ref it)) Q E s
abbrev TI:=St->Hp->(It->Hp->Prop)->Prop
def SV(X:Cx)(pins:List (Addr×Obj))(σ:St)(tg:Expr)(R:It->Hp->Prop)(tU:Value)(s2:Shared):Prop:=
 ∃(it:Addr) (fp:List Addr) (tn:Nat->Heap->Prop) (J:It) (H':Hp),tU=.ref it/\Inv X pins σ H' s2/\Turn X.prog X.w X.K tg J fp it tn/\tn 0 s2.heap/\(∀b∈fp,gW X pins H' b)/\R J H'
def PI(X:Cx)(tg iter:Expr)(wi:TI):Prop:=
 ∀(pins:List (Addr×Obj)) (s:Shared) (σ:St) (H:Hp) (R:It->Hp->Prop),Inv X pins σ H s->wi σ H R->
  wpAny (model X.prog X.w) X.A (eval iter X.env) (λv s1=>wpAny (model X.prog X.w) X.A (pyIter v) (SV X pins σ tg R) X.xe s1) X.xe s
theorem qp{M:Model}{A:Around}{E:Value->Shared->Prop}{s:Shared}{tg:Expr}{it:Addr}{u:Value}{o:Obj}{n:String}{vs:Array Value}{Q:Unit->Shared->Prop}(ho:s.heap.get? it=some o)(hc:o.cls=.type n)(hd:o.data=.fields vs)
    (hn:["enumerate","zip","dict_itemiterator","dict_reverseitemiterator","odict_iterator","itertools.zip_longest","itertools.pairwise"].contains n=false)(hQ:Q () s):wpAny M A (letOwnedTupleGo tg (.ref it) u) Q E s:=by
  unfold letOwnedTupleGo;cases tg <;> first
    | exact wpAny_pure hQ
    | (cases u <;> first
        | exact wpAny_pure hQ
        | (refine wpAny_bind (wpAny_load ho ?_)
           rw [hc,hd];show wpAny M A (if (["enumerate","zip","dict_itemiterator","dict_reverseitemiterator","odict_iterator","itertools.zip_longest","itertools.pairwise"].contains n&&vs[0]? == some (rawInt _))=true then _ else _) Q E s;rw [if_neg (by intro h; rw [hn,Bool.false_and] at h; cases h)];exact wpAny_pure hQ))
def iN(K:PySem.W.Frag)(a:Addr):It:=
 ⟨λi H=>∃xs x,ak K H a xs/\xs[i]?=some x,λi H x H'=>H'=H/\∀xs,ak K H a xs->xs[i]?=some x,λi H=>∃xs,ak K H a xs/\xs.length<=i⟩
def tV(K:PySem.W.Frag)(a:Addr):It:=
 ⟨λi H=>∃xs x,ay K H a xs/\xs[i]?=some x,λi H x H'=>H'=H/\∀xs,ay K H a xs->xs[i]?=some x,λi H=>∃xs,ay K H a xs/\xs.length<=i⟩
def nK(lo:Int)(n:Nat):It:=⟨λi _=>i<n,λi H x H'=>H'=H/\x=.int (lo+i),λi _=>n<=i⟩
theorem L5{P:Program}{w:World}{K:PySem.W.Frag}{tg:Expr}(a it:Addr):Turn P w K tg (iN K a) [it] it (λi h=>h.IsListIter it a i) where
 mem:=by simp
 obj:=λi h st b hb=>by
  have e:b=it:=by simpa using hb
  obtain⟨o,e,c,d⟩:=st
  grind
 keep:=λi h h' st k=>st.at λo e=>k it (by simp) o e
 item:=by
  intro X hP hw hK hc i pins s σ H E I hf st hg;subst hP hw hK;obtain⟨xs,x,hq,hx⟩:=hg;obtain⟨ah,rv,p,hz⟩:=I.list hq;obtain⟨u,hu,ru⟩:=rv.get hx;obtain⟨f0,f1,f2,f3,f4,f5⟩:=hf it (by simp);refine wpAny_pyNext_list_item st p.isList (by simpa using hu) λh' aK sb=>?_;obtain⟨o,e,c,d⟩:=id aK;exact⟨u,rfl,qp e c d (by decide) ⟨x,H,(I.turned (λb o hb e=>(sb.2 b hb).trans e) f0 f1 f3 f4 f5),ru,⟨rfl,λys hy=>by rw[I.Zav hy hq];exact hx⟩,aK,λb hb=>(hf b hb).1⟩⟩
 done:=by
  intro X hP hw hK hc i pins s σ H E I hf st hg;subst hP hw hK;obtain⟨xs,hq,hx⟩:=hg;obtain⟨ah,rv,p,hz⟩:=I.list hq;obtain⟨f0,f1,f2,f3,f4,f5⟩:=hf it (by simp);have hl:=rv.length;exact wpAny_pyNext_list_end (I.ok.hd hc) st p.isList (by simp;omega) λh' eb=>⟨rfl,I.turned (λb o hb e=>eb b o hb e) f0 f1 f3 f4 f5⟩
 self:=λ_ _ _ _ _ st h=>wpAny_pyIter_listiter st h
theorem Lv{P:Program}{w:World}{K:PySem.W.Frag}{tg:Expr}(a it:Addr):Turn P w K tg (tV K a) [it] it (λi h=>h.IsTupleIter it a i) where
 mem:=by simp
 obj:=λi h st b hb=>by
  have e:b=it:=by simpa using hb
  obtain⟨o,e,c,d⟩:=st
  grind
 keep:=λi h h' st k=>st.at λo e=>k it (by simp) o e
 item:=by
  intro X hP hw hK hc i pins s σ H E I hf st hg;subst hP hw hK;obtain⟨xs,x,hq,hx⟩:=hg;obtain⟨ah,rv,p,hz⟩:=I.tuple hq;obtain⟨u,hu,ru⟩:=rv.get hx;obtain⟨f0,f1,f2,f3,f4,f5⟩:=hf it (by simp);refine wpAny_pyNext_tuple_item st (show s.heap.IsTuple a ah.toArray from p) (by simpa using hu) λh' aK sb=>?_;obtain⟨o,e,c,d⟩:=id aK;exact⟨u,rfl,qp e c d (by decide) ⟨x,H,(I.turned (λb o hb e=>(sb.2 b hb).trans e) f0 f1 f3 f4 f5),ru,⟨rfl,λys hy=>by rw[I.ZF hy hq];exact hx⟩,aK,λb hb=>(hf b hb).1⟩⟩
 done:=by
  intro X hP hw hK hc i pins s σ H E I hf st hg;subst hP hw hK;obtain⟨xs,hq,hx⟩:=hg;obtain⟨ah,rv,p,hz⟩:=I.tuple hq;obtain⟨f0,f1,f2,f3,f4,f5⟩:=hf it (by simp);have hl:=rv.length;exact wpAny_pyNext_tuple_end (I.ok.hd hc) st (show s.heap.IsTuple a ah.toArray from p) (by simp;omega) λh' eb=>⟨rfl,I.turned (λb o hb e=>eb b o hb e) f0 f1 f3 f4 f5⟩
 self:=λ_ _ _ _ _ st h=>wpAny_pyIter_tupleiter st h
theorem YF{P:Program}{w:World}{K:PySem.W.Frag}{tg:Expr}(it:Addr)(lo:Int)(n:Nat):Turn P w K tg (nK lo n) [it] it (λi h=>IsRangeIter h it (lo+(i:Nat)*1) ((n:Int)-(i:Nat)) 1) where
 mem:=by simp
 obj:=λi h st b hb=>by
  grind
 keep:=λi h h' st k=>k it (by simp) _ st
 item:=by
  intro X hP hw hK hc i pins s σ H E I hf st hg;subst hP hw hK;obtain⟨f0,f1,f2,f3,f4,f5⟩:=hf it (by simp);refine(Walks.range (I.ok.hd hc) it lo 1 n).item i s _ _ hg st λv h' tk hv aK kk=>?_;obtain⟨t,rfl⟩:=hv;refine⟨_,rfl,qp aK rfl rfl (by decide) ⟨.int (lo+i),H,(I.turned (λb o hb e=>kk b o (by simpa using hb) e) f0 f1 f3 f4 f5),⟨t,?_⟩,⟨rfl,rfl⟩,aK,λb hb=>(hf b hb).1⟩⟩;rw[Int.mul_one]
 done:=by
  intro X hP hw hK hc i pins s σ H E I hf st hg;subst hP hw hK;obtain⟨f0,f1,f2,f3,f4,f5⟩:=hf it (by simp);exact wpAny_pyNext_range_end (I.ok.hd hc) st (by have:n<=i:=hg;omega) λh' eb=>⟨rfl,I.turned (λb o hb e=>eb b o hb e) f0 f1 f3 f4 f5⟩
 self:=λ_ _ _ _ _ st h=>wpAny_pyIter_rangeiter st h
section
variable {X:Cx}{tg:Expr}
inductive Og(K:PySem.W.Frag)(R:It->Hp->Prop)(x:V)(H1:Hp):Prop
 |mk (a) (aC:x=.ref a) (aV:(∃xs,ak K H1 a xs)) (bc:R (iN K a) H1):Og K R x H1
def Q_(K:PySem.W.Frag)(tl:TE):TI:=λσ H R=>tl σ H λx H1=>Og K R x H1
inductive PR(K:PySem.W.Frag)(R:It->Hp->Prop)(x:V)(H1:Hp):Prop
 |mk (a) (aC:x=.ref a) (aV:(∃xs,ay K H1 a xs)) (bc:R (tV K a) H1):PR K R x H1
def Ze2(K:PySem.W.Frag)(tl:TE):TI:=λσ H R=>tl σ H λx H1=>PR K R x H1
theorem Oh{l:Expr}{tl:TE}(hl:PE X l tl):PI X tg l (Q_ X.K tl):=by
 intro pins s σ H R I h;refine az (hl pins s σ H _ I h) λv s1 zq=>?_;obtain⟨x,H1,I1,r1,q1⟩:=zq;obtain⟨a,e,⟨xs,hq⟩,q⟩:=q1;subst e;cases r1;obtain⟨ah,rv,p,hz⟩:=I1.list hq;refine wpAny_pyIter_list p.isList ⟨s1.heap.objs.size,[s1.heap.objs.size],_,_,H1,rfl,I1.kept λb o e=>Yb _ e,L5 a _,⟨_,Yn _ rfl,rfl,rfl⟩,λb hb=>?_,q⟩;have e:b=s1.heap.objs.size:=by simpa using hb
 subst e;exact I1.nE (Yd _) (I1.av.fresh (Yd _))
theorem FI{l:Expr}{tl:TE}(hl:PE X l tl):PI X tg l (Ze2 X.K tl):=by
 intro pins s σ H R I h;refine az (hl pins s σ H _ I h) λv s1 zq=>?_;obtain⟨x,H1,I1,r1,q1⟩:=zq;obtain⟨a,e,⟨xs,hq⟩,q⟩:=q1;subst e;cases r1;obtain⟨ah,rv,p,hz⟩:=I1.tuple hq;refine wpAny_pyIter_tuple (show s1.heap.IsTuple a ah.toArray from p) ⟨s1.heap.objs.size,[s1.heap.objs.size],_,_,H1,rfl,I1.kept λb o e=>Yb _ e,Lv a _,⟨_,Yn _ rfl,rfl,rfl⟩,λb hb=>?_,q⟩;have e:b=s1.heap.objs.size:=by simpa using hb
 subst e;exact I1.nE (Yd _) (I1.av.fresh (Yd _))
theorem Zaw{pins:List (Addr×Obj)}{σ:St}{H:Hp}{s:Shared}{R:It->Hp->Prop}{E:Value->Shared->Prop}{lo hi:Int}{t u v:Tok}{tk:Nat}(I:Inv X pins σ H s)(h1:-(2^62)<=lo)(h2:lo<2^62)(h3:-(2^62)<=hi)(h4:hi<2^62)
  (q:R (nK lo (hi-lo).toNat) H):wpAny (model X.prog X.w) X.A (pyIter (.ref s.heap.objs.size)) (SV X pins σ tg R) E {s with heap:=s.heap.push {cls:=.type "range",data:=.fields #[.int lo t,.int hi u,.int 1 v]},toks:=tk}:=by
 refine wpAny_pyIter_range (IsRange.new ..) (small_one h1 h2 h3 h4) ?_;have I1:Inv X pins σ H {s with heap:=s.heap.push {cls:=.type "range",data:=.fields #[.int lo t,.int hi u,.int 1 v]},toks:=tk}:=I.kept λb o e=>Yb _ e;refine⟨(s.heap.push {cls:=.type "range",data:=.fields #[.int lo t,.int hi u,.int 1 v]}).objs.size,[(s.heap.push {cls:=.type "range",data:=.fields #[.int lo t,.int hi u,.int 1 v]}).objs.size],_,_,H,rfl,
  I1.kept (t':=tk) λb o e=>Yb _ e,YF _ lo (hi-lo).toNat,?_,λb hb=>?_,q⟩
 ·have e1:lo+((0:Nat):Int)*1=lo:=by simp
  have e2:(((hi-lo).toNat:Nat):Int)-((0:Nat):Int)=Builtin.Range.rangeSize lo hi 1:=by rw[rangeSize_one];split<;>omega
  show IsRangeIter _ _ (lo+((0:Nat):Int)*1) ((((hi-lo).toNat:Nat):Int)-((0:Nat):Int)) 1;rw[e1,e2];exact Yn _ rfl
 ·have e:b=(s.heap.push {cls:=.type "range",data:=.fields #[.int lo t,.int hi u,.int 1 v]}).objs.size:=by simpa using hb
  subst e;exact I1.nE (Yd _) (I1.av.fresh (Yd _))
inductive Oi(R:It->Hp->Prop)(vs:List V)(H1:Hp):Prop
 |mk (j:Int) (aC:vs=[.int j]) (aV:-(2^62)<=j) (bc:j<2^62) (bO:R (nK 0 j.toNat) H1):Oi R vs H1
def Zee(ta:TA):TI:=λσ H R=>ta σ H λvs H1=>Oi R vs H1
theorem ow{a:Expr}{ta:TA}{p pos:Pos}(hg:Gl X "range")(hm:X.mg "range"=none)(ha:PA X [a] ta)(hs:starEach [a] X.env=[(false,eval a X.env)]:=by rfl):PI X tg (.Call (.Name "range" p) [a] [] pos) (Zee ta):=by
 intro pins s σ H R I h;refine Call_ (yy I hg hm boot_range (PyProof.Rows.callWith_type1 (az (ha pos pins s σ H _ I h) λus s1 zq=>?_) hs rfl));obtain⟨vs,H1,I1,r1,q1⟩:=zq;obtain⟨j,e,q1,q2,q⟩:=q1;subst e;cases r1 with
 |cons r rr=>
  cases rr;obtain⟨t,rfl⟩:=r;exact call_range_1 (Zaw I1 (by omega) (by omega) q1 q2 (by simpa using q))
def yS(wi:TI)(g:TG)(tb:TS):TS:=λD σ H=>wi σ H λJ H1=>∃W:Nat->Nat->St->Hp->Prop,(∃m,W 0 m σ H1)/\∀i m σ H,W i m σ H->
 (J.stop i H/\D.nx σ H)\/(J.go i H/\∃N:St->Hp->Prop,(∀aB H',N aB H'->∃m',m'<m/\W (i+1) m' aB H')/\∀x H',J.o_ i H x H'->g x σ H' λcX H2=>tb {D with nx:=N,ct:=N,bk:=D.nx} cX H2)
def oI(fp:List Addr)(h:Heap):List (Addr×Obj):=fp.filterMap λb=>(h.get? b).map λo=>(b,o)
theorem oq{fp:List Addr}{h:Heap}{b:Addr}{o:Obj}(hb:b∈fp)(e:h.get? b=some o):(b,o)∈oI fp h:=Je.mpr ⟨b,hb,by rw[e];rfl⟩
theorem ZG{fp:List Addr}{h:Heap}{p:Addr×Obj}(hp:p∈oI fp h):p.1∈fp/\h.get? p.1=some p.2:=by
 obtain⟨b,hb,e⟩:=Je.mp hp;cases q:h.get? b with
 |none=>grind
 |some o=>grind
theorem Inv.pinned{pins:List (Addr×Obj)}{σ:St}{H:Hp}{s:Shared}{fp:List Addr}(I:Inv X pins σ H s)(hf:∀b∈fp,gW X pins H b)(ho:∀b∈fp,∃o,s.heap.get? b=some o/\∀v,o.data≠.cell v):Inv X (pins++oI fp s.heap) σ H s:=
 I.Oe λp hp=>(Yu.mp hp).elim (λz=>I.pin p (Yq _ z)) λz=>by
  obtain⟨hb,e⟩:=ZG z;obtain⟨f0,f1,f2,_⟩:=hf p.1 hb
  grind
theorem Inv.sy{pins pl:List (Addr×Obj)}{σ:St}{H:Hp}{s:Shared}(I:Inv X (pins++pl) σ H s):Inv X pins σ H s:=I.Oe λp hp=>I.pin p (Yq _ (Yr _ hp))
theorem fT{iter:Expr}{body:List Stmt}{wi:TI}{g:TG}{tb:TS}{pos:Pos}(hp:PassesOwn (model X.prog X.w) X.A X.env X.xe)(hc:X.calm=true)(hi:PI X tg iter wi)(hg:PG X tg g)(hb:fY X body tb)
  (hs:∀x,foldedSetIterable iter X.env x=pure x:=by intro _;rfl):PS X (.For tg iter body [] pos) (yS wi g tb):=by
 intro pins s σ H D I h;refine wpAny_For (az (hi pins s σ H _ I h) λv s1 h1=>az h1 λtU s2 h2=>?_) hs;obtain⟨it,fp,tn,J,H2,e,I2,T,dt,f2,W,⟨m0,w0⟩,turn⟩:=h2;subst e;have kN:∀{H':Hp},(∀b∈fp,H' b=none)->∀b∈fp,gW X pins H' b:=λhn b hb=>⟨hn b hb,(f2 b hb).2⟩;refine codeAny_forLoop_any (λn s'=>∃i aB H',Inv X pins aB H' s'/\tn i s'.heap/\(∀b∈fp,H' b=none)/\W i n aB H') ?_ m0 ⟨0,σ,H2,I2,dt,λb hb=>(f2 b hb).1,w0⟩;rintro n s3 ⟨i,bT,H3,I3,SW,SX,w3⟩;rcases turn i n bT H3 w3 with⟨stop,qn⟩|⟨go,N,hN,step⟩
 ·refine wpAny_passesOwn hp (az (T.done X rfl rfl rfl hc i pins s3 bT H3 X.xe I3 (kN SX) SW stop) λr s4 zq=>?_);obtain⟨hr,I4⟩:=zq;subst hr;exact wpAny_execs_nil ⟨bT,H3,I4,qn⟩
 ·refine wpAny_passesOwn hp (az (T.item X rfl rfl rfl hc i pins s3 bT H3 X.xe I3 (kN SX) SW go) λr s4 zq=>?_);obtain⟨u,hr,h4⟩:=zq;subst hr;refine wpAny_passesOwn hp (az h4 λ_ s5 ⟨x,H5,I5,r5,y5,nL,qS⟩=>wpAny_passesOwn hp (az (hg _ s5 bT H5 x u _ (I5.pinned (kN qS) (T.obj _ _ nL)) r5 (step x H5 y5)) λ_ s6 ⟨σ6,H6,I6,q6⟩=>wpAny_passesOwn hp (az (hb _ s6 σ6 H6 _ I6 q6) λf s7 q7=>?_)));have again:∀{kT:St} {H7:Hp},Inv X (pins++oI fp s5.heap) kT H7 s7->N kT H7->∃m,m<n/\∃i aB H',Inv X pins aB H' s7/\tn i s7.heap/\(∀b∈fp,H' b=none)/\W i m aB H':=λ{kT H7} I7 n7=>by
   obtain⟨m',hm,w7⟩:=hN kT H7 n7;refine⟨m',hm,i+1,kT,H7,I7.sy,T.keep _ _ _ nL λb hb o e=>(I7.pin (b,o) (Yq _ (Yq _ (oq hb e)))).1,λb hb=>?_,w7⟩;obtain⟨o,e,d⟩:=T.obj _ _ nL b hb;exact(I7.pin (b,o) (Yq _ (Yq _ (oq hb e)))).2.1
  cases f with
  |next=>obtain⟨kT,H7,I7,n7⟩:=q7;exact again I7 n7
  |cont=>obtain⟨kT,H7,I7,n7⟩:=q7;exact again I7 n7
  |brk=>obtain⟨kT,H7,I7,q7⟩:=q7;exact⟨kT,H7,I7.sy,q7⟩
  |ret v=>obtain⟨x7,kT,H7,I7,r7,q7⟩:=q7;exact⟨x7,kT,H7,I7.sy,r7,q7⟩
end
theorem jH{K:PySem.W.Frag}{a:Addr}{xs:List V}{g:TG}{tb:TS}{D:Ends}{σ:St}{H:Hp}(Pv:Nat->St->Hp->Prop)(h0:Pv 0 σ H)(hl:∀i σ H,i<=xs.length->Pv i σ H->ak K H a xs)
  (hs:∀i x σ H,xs[i]?=some x->Pv i σ H->g x σ H λcX H2=>tb {D with nx:=Pv (i+1),ct:=Pv (i+1),bk:=D.nx} cX H2)(hd:∀σ H,Pv xs.length σ H->D.nx σ H):
  ∃W:Nat->Nat->St->Hp->Prop,(∃m,W 0 m σ H)/\∀i m σ H,W i m σ H->
   ((iN K a).stop i H/\D.nx σ H)\/((iN K a).go i H/\∃N:St->Hp->Prop,(∀aB H',N aB H'->∃m',m'<m/\W (i+1) m' aB H')/\∀x H',(iN K a).o_ i H x H'->g x σ H' λcX H2=>tb {D with nx:=N,ct:=N,bk:=D.nx} cX H2):=by
 refine⟨λi m σ H=>m=xs.length-i/\i<=xs.length/\Pv i σ H,⟨xs.length,by simp,Yw _,h0⟩,?_⟩;rintro i m σ H ⟨rfl,hi,p⟩;have q:=hl i σ H hi p;by_cases bL:i<xs.length
 ·refine .inr ⟨⟨xs,xs[i],q,by simp[bL]⟩,Pv (i+1),λaB H' p'=>⟨xs.length-(i+1),by omega,rfl,bL,p'⟩,λx H' y=>?_⟩;obtain⟨e,y⟩:=y;subst e;exact hs i x σ _ (y xs q) p
 ·have e:i=xs.length:=by omega
  subst e;exact .inl ⟨⟨xs,q,Yd _⟩,hd σ H p⟩
theorem D6{lo:Int}{n:Nat}{g:TG}{tb:TS}{D:Ends}{σ:St}{H:Hp}(Pv:Nat->St->Hp->Prop)(h0:Pv 0 σ H)
  (hs:∀i σ H,i<n->Pv i σ H->g (.int (lo+i)) σ H λcX H2=>tb {D with nx:=Pv (i+1),ct:=Pv (i+1),bk:=D.nx} cX H2)(hd:∀σ H,Pv n σ H->D.nx σ H):
  ∃W:Nat->Nat->St->Hp->Prop,(∃m,W 0 m σ H)/\∀i m σ H,W i m σ H->
   ((nK lo n).stop i H/\D.nx σ H)\/((nK lo n).go i H/\∃N:St->Hp->Prop,(∀aB H',N aB H'->∃m',m'<m/\W (i+1) m' aB H')/\∀x H',(nK lo n).o_ i H x H'->g x σ H' λcX H2=>tb {D with nx:=N,ct:=N,bk:=D.nx} cX H2):=by
 refine⟨λi m σ H=>m=n-i/\i<=n/\Pv i σ H,⟨n,by simp,Yw _,h0⟩,?_⟩;rintro i m σ H ⟨rfl,hi,p⟩;by_cases bL:i<n
 ·refine .inr ⟨bL,Pv (i+1),λaB H' p'=>⟨n-(i+1),by omega,rfl,bL,p'⟩,λx H' y=>?_⟩;obtain⟨e,y⟩:=y
  grind
 ·have e:i=n:=by omega
  subst e;exact .inl ⟨Yd _,hd σ H p⟩
theorem ED{c:TT}{tb:TS}{D:Ends}{σ:St}{H:Hp}(Pv:St->Hp->Prop)(μ:St->Hp->Nat)(h0:Pv σ H)
  (hs:∀σ H,Pv σ H->c σ H λb H1=>if b=true then tb {D with nx:=λaB H'=>Pv aB H'/\μ aB H'<μ σ H,ct:=λaB H'=>Pv aB H'/\μ aB H'<μ σ H,bk:=D.nx} σ H1 else D.nx σ H1)
  (mono:∀σ H Q Q',(∀b H1,Q b H1->Q' b H1)->c σ H Q->c σ H Q'):PQ c tb D σ H:=by
 refine⟨λm σ H=>m=μ σ H/\Pv σ H,⟨_,rfl,h0⟩,?_⟩;rintro m σ H ⟨rfl,p⟩;refine mono σ H _ _ (λb H1 q=>?_) (hs σ H p);cases b with
 |true=>exact⟨_,λaB H' ⟨p',l⟩=>⟨_,l,rfl,p'⟩,q⟩
 |false=>exact q
abbrev R2:=V->V->Hp->VK->Prop
def cF(X:Cx)(f:Value->Value->Sem Value)(r:R2):Prop:=
 ∀(pins:List (Addr×Obj)) (s:Shared) (σ:St) (H:Hp) (x y:V) (v u:Value) (Q:VK),Inv X pins σ H s->RelV x v->RelV y u->r x y H Q->
  wpAny (model X.prog X.w) X.A (f v u) (EP X pins σ Q) X.xe s
def cZ(X:Cx)(f:Value)(r:List V->Hp->VK->Prop):Prop:=
 ∀(pins:List (Addr×Obj)) (s:Shared) (σ:St) (H:Hp) (xs:List V) (us:List Value) (Q:VK),Inv X pins σ H s->Vals xs us->r xs H Q->
  wpAny (model X.prog X.w) X.A (call f us) (EP X pins σ Q) X.xe s
def Ze3(X:Cx)(r:V->Hp->(Bool->Hp->Prop)->Prop):Prop:=
 ∀(pins:List (Addr×Obj)) (s:Shared) (σ:St) (H:Hp) (x:V) (v:Value) (Q:Bool->Hp->Prop),Inv X pins σ H s->RelV x v->r x H Q->
  wpAny (model X.prog X.w) X.A (truthy v) (TP X pins σ Q) X.xe s
def jW(r:R2)(ta tb:TE):TE:=λσ H Q=>ta σ H λx H1=>tb σ H1 λy H2=>r x y H2 Q
inductive RV(C:Int->Int->Prop)(g:Int->Int->V)(x:V)(y:V)(H:Hp)(Q:VK):Prop
 |mk (i j) (aC:x=.int i) (aV:y=.int j) (bc:C i j) (bO:Q (g i j) H):RV C g x y H Q
def rI(C:Int->Int->Prop)(g:Int->Int->V):R2:=λx y H Q=>RV C g x y H Q
inductive Ra(g:Int->Int->V)(x:V)(y:V)(H:Hp)(Q:VK):Prop
 |mk (i j) (aC:x=.int i) (aV:y=.int j) (bc:Q (g i j) H):Ra g x y H Q
def pd(g:Int->Int->V):R2:=λx y H Q=>Ra g x y H Q
section
variable {X:Cx}{a b c:Expr}{ta tb tc:TE}{pos:Pos}
theorem GK(ha:PE X a ta)(hb:PE X b tb){pins:List (Addr×Obj)}{s:Shared}{σ:St}{H:Hp}{R:V->V->Hp->Prop}(I:Inv X pins σ H s)
  (h:ta σ H λx H1=>tb σ H1 λy H2=>R x y H2){Q:Value->Shared->Prop}{f:Value->Value->Sem Value}
  (hf:∀v u s2 x y H2,Inv X pins σ H2 s2->RelV x v->RelV y u->R x y H2->wpAny (model X.prog X.w) X.A (f v u) Q X.xe s2):
  wpAny (model X.prog X.w) X.A (eval a X.env) (λv bG=>wpAny (model X.prog X.w) X.A (eval b X.env) (λu dR=>wpAny (model X.prog X.w) X.A (f v u) Q X.xe dR) X.xe bG) X.xe s:=by
 refine az (ha pins s σ H _ I h) λv s1 zq=>?_;obtain⟨x,H1,I1,r1,q1⟩:=zq;refine az (hb pins s1 σ H1 _ I1 q1) λu s2 zq=>?_;obtain⟨y,H2,I2,r2,q2⟩:=zq
 grind
theorem a_{op:Operator}{r:R2}(ho:cF X (binaryOp op) r)(ha:PE X a ta)(hb:PE X b tb):PE X (.BinOp a op b pos) (jW r ta tb):=by
 intro pins s σ H Q I h;exact wpAny_BinOp (GK ha hb I h λv u s2 x y H2 I2 rx ry q=>ho pins s2 σ H2 x y v u Q I2 rx ry q)
theorem zp{f:Value->Value->Sem Value}{C:Int->Int->Prop}{g:Int->Int->Int}
  (rule:∀(i j:Int) (t u:Tok) (s:Shared) (Q:Value->Shared->Prop) (E:Value->Shared->Prop),C i j->Q (.int (g i j) s.toks) {s with toks:=s.toks+1}->wpAny (model X.prog X.w) X.A (f (.int i t) (.int j u)) Q E s):
  cF X f (rI C λi j=>.int (g i j)):=by
 rintro pins s σ H x y v u Q I rx ry ⟨i,j,rfl,rfl,hc,q⟩;obtain⟨t,rfl⟩:=rx;obtain⟨t',rfl⟩:=ry;exact rule i j t t' s _ _ hc ⟨.int (g i j),H,I.tok _,⟨_,rfl⟩,q⟩
theorem RW{f:Value->Value->Sem Value}{g:Int->Int->Int}
  (rule:∀(i j:Int) (t u:Tok) (s:Shared) (Q:Value->Shared->Prop) (E:Value->Shared->Prop),Q (.int (g i j) s.toks) {s with toks:=s.toks+1}->wpAny (model X.prog X.w) X.A (f (.int i t) (.int j u)) Q E s):
  cF X f (pd λi j=>.int (g i j)):=by
 rintro pins s σ H x y v u Q I rx ry ⟨i,j,rfl,rfl,q⟩;obtain⟨t,rfl⟩:=rx;obtain⟨t',rfl⟩:=ry;exact rule i j t t' s _ _ ⟨.int (g i j),H,I.tok _,⟨_,rfl⟩,q⟩
theorem GL{f:Value->Value->Sem Value}{g:Int->Int->Bool}
  (rule:∀(i j:Int) (t u:Tok) (s:Shared) (Q:Value->Shared->Prop) (E:Value->Shared->Prop),Q (.bool (g i j)) s->wpAny (model X.prog X.w) X.A (f (.int i t) (.int j u)) Q E s):
  cF X f (pd λi j=>.bl (g i j)):=by
 rintro pins s σ H x y v u Q I rx ry ⟨i,j,rfl,rfl,q⟩;obtain⟨t,rfl⟩:=rx;obtain⟨t',rfl⟩:=ry;exact rule i j t t' s _ _ ⟨.bl (g i j),H,I,rfl,q⟩
def GN(i j:Int):Prop:=0<j/\j<1073741824
def Ze4(i j:Int):Prop:=0<=j/\j<=1000000/\i.natAbs<2^64
def tH(i j:Int):Prop:=(-(2^64)<i/\i<2^64)\/(-(2^64)<j/\j<2^64)
theorem tH.ok{i j:Int}(h:tH i j):IntMulOk i j:=by
 rcases h with⟨h1,h2⟩|⟨h1,h2⟩;·exact .of_left (intBits_le_64 h1 h2)
 ·exact .of_right (intBits_le_64 h1 h2)
theorem gQ:cF X (binaryOp .Add) (pd λi j=>.int (i+j)):=RW λ_ _ _ _ _ _ _ q=>add_int q
theorem yz:cF X (binaryOp .Sub) (pd λi j=>.int (i-j)):=RW λ_ _ _ _ _ _ _ q=>sub_int q
theorem lM:cF X (binaryOp .Mult) (rI tH λi j=>.int (i*j)):=zp λ_ _ _ _ _ _ _ hc q=>mul_int q hc.ok
theorem yg:cF X (binaryOp .FloorDiv) (rI GN λi j=>.int (i/j)):=zp λi j _ _ _ _ _ hc q=>by
 have h1:(0:Int)<j:=hc.1;have h2:j<1073741824:=hc.2;exact floordiv_int (by omega) (by rw[Int.fdiv_eq_ediv_of_nonneg i (by omega)];exact q) (.inl (PyProof.noPylong_small (by omega)))
theorem d7:cF X (binaryOp .Mod) (rI (λ_ j=>0<j) λi j=>.int (i % j)):=zp λi j _ _ _ _ _ hc q=>by
 have h1:(0:Int)<j:=hc;exact mod_int' (by omega) (by rw[Int.fmod_eq_emod_of_nonneg i (by omega)];exact q)
theorem PU:cF X (binaryOp .Pow) (rI Ze4 λi j=>.int (i^j.toNat)):=zp λ_ _ _ _ _ _ _ hc q=>pow_int_small hc.1 hc.2.1 hc.2.2 q
end
def vT:V->V->Bool
 |.aA,.aA=>true|.aA,.int _=>true|.int _,.aA=>true|.aA,.bl _=>true|.bl _,.aA=>true|.aA,.str _=>true|.str _,.aA=>true
 |.int _,.int _=>true|.bl _,.bl _=>true|.str _,.str _=>true|.iL _,.iL _=>true
 |.int _,.str _=>true|.str _,.int _=>true|.bl _,.str _=>true|.str _,.bl _=>true
 |_,_=>false
def SY:R2:=λx y H Q=>vT x y=true/\Q (.bl (decide (x=y))) H
def S0:R2:=λx y H Q=>vT x y=true/\Q (.bl (!decide (x=y))) H
theorem Oj{i j:Int}:decide (V.int i=V.int j)=(i==j):=by
 grind
theorem PV{i j:Bool}:decide (V.bl i=V.bl j)=(i==j):=by
 grind
theorem Ol{i j:Str}:decide (V.str i=V.str j)=(i==j):=by
 grind
theorem Om{i j:Array UInt8}:decide (V.iL i=V.iL j)=(i.toList==j.toList):=by
 rw[Wi];simp_all
section
variable {X:Cx}{a b c:Expr}{ta tb tc:TE}{pos:Pos}
theorem cE{pins:List (Addr×Obj)}{σ:St}{H:Hp}{s:Shared}{Q:VK}{k k':Bool}(I:Inv X pins σ H s)(q:Q (.bl k) H)(e:k=k'):EP X pins σ Q (.bool k') s:=by
 subst e;exact⟨.bl k,H,I,rfl,q⟩
theorem cg:cF X (compareOp .Eq) SY:=by
 intro pins s σ H x y v u Q I rx ry h;obtain⟨hs,q⟩:=h;cases x with
 |aA=>
  cases rx;cases y with
  |aA=>cases ry;exact PySem.EqNone.eq_none_none (cE I q (by simp))
  |bl j=>cases ry;exact PySem.EqNone.eq_none_bool (cE I q (by simp))
  |int j=>obtain⟨t',rfl⟩:=ry;exact PySem.EqNone.eq_none_int (cE I q (by simp))
  |str j=>obtain⟨t',rfl⟩:=ry;exact PySem.EqNone.eq_none_str (cE I q (by simp))
  |_=>exact absurd (show false=true from hs) Yi
 |bl i=>
  cases rx;cases y with
  |aA=>cases ry;exact PySem.EqNone.eq_bool_none (cE I q (by simp))
  |bl j=>cases ry;exact eq_bool (cE I q PV)
  |str j=>obtain⟨t',rfl⟩:=ry;exact PySem.EqMixed.eq_bool_str (cE I q (by simp))
  |_=>exact absurd (show false=true from hs) Yi
 |int i=>
  obtain⟨t,rfl⟩:=rx;cases y with
  |aA=>cases ry;exact PySem.EqNone.eq_int_none (cE I q (by simp))
  |int j=>obtain⟨t',rfl⟩:=ry;exact eq_int (cE I q Oj)
  |str j=>obtain⟨t',rfl⟩:=ry;exact PySem.EqMixed.eq_int_str (cE I q (by simp))
  |_=>exact absurd (show false=true from hs) Yi
 |str i=>
  obtain⟨t,rfl⟩:=rx;cases y with
  |aA=>cases ry;exact PySem.EqNone.eq_str_none (cE I q (by simp))
  |bl j=>cases ry;exact PySem.EqMixed.eq_str_bool (cE I q (by simp))
  |int j=>obtain⟨t',rfl⟩:=ry;exact PySem.EqMixed.eq_str_int (cE I q (by simp))
  |str j=>obtain⟨t',rfl⟩:=ry;exact eq_str (cE I q Ol)
  |_=>exact absurd (show false=true from hs) Yi
 |iL i=>
  obtain⟨t,rfl⟩:=rx;cases y with
  |iL j=>obtain⟨t',rfl⟩:=ry;exact PySem.W.eq_bytes (cE I q Om)
  |_=>exact absurd (show false=true from hs) Yi
 |_=>cases y<;>exact absurd (show false=true from hs) Yi
theorem kH:cF X (compareOp .NotEq) S0:=by
 intro pins s σ H x y v u Q I rx ry h;obtain⟨hs,q⟩:=h;cases x with
 |aA=>
  cases rx;cases y with
  |aA=>cases ry;exact PySem.EqNone.ne_none_none (cE I q (by simp))
  |bl j=>cases ry;exact PySem.EqNone.ne_none_bool (cE I q (by simp))
  |int j=>obtain⟨t',rfl⟩:=ry;exact PySem.EqNone.ne_none_int (cE I q (by simp))
  |str j=>obtain⟨t',rfl⟩:=ry;exact PySem.EqNone.ne_none_str (cE I q (by simp))
  |_=>exact absurd (show false=true from hs) Yi
 |bl i=>
  cases rx;cases y with
  |aA=>cases ry;exact PySem.EqNone.ne_bool_none (cE I q (by simp))
  |bl j=>cases ry;exact ne_bool (cE I q (congrArg not PV))
  |str j=>obtain⟨t',rfl⟩:=ry;exact PySem.EqMixed.ne_bool_str (cE I q (by simp))
  |_=>exact absurd (show false=true from hs) Yi
 |int i=>
  obtain⟨t,rfl⟩:=rx;cases y with
  |aA=>cases ry;exact PySem.EqNone.ne_int_none (cE I q (by simp))
  |int j=>obtain⟨t',rfl⟩:=ry;exact ne_int (cE I q (congrArg not Oj))
  |str j=>obtain⟨t',rfl⟩:=ry;exact PySem.EqMixed.ne_int_str (cE I q (by simp))
  |_=>exact absurd (show false=true from hs) Yi
 |str i=>
  obtain⟨t,rfl⟩:=rx;cases y with
  |aA=>cases ry;exact PySem.EqNone.ne_str_none (cE I q (by simp))
  |bl j=>cases ry;exact PySem.EqMixed.ne_str_bool (cE I q (by simp))
  |int j=>obtain⟨t',rfl⟩:=ry;exact PySem.EqMixed.ne_str_int (cE I q (by simp))
  |str j=>obtain⟨t',rfl⟩:=ry;exact ne_str (cE I q (congrArg not Ol))
  |_=>exact absurd (show false=true from hs) Yi
 |iL i=>
  obtain⟨t,rfl⟩:=rx;cases y with
  |iL j=>obtain⟨t',rfl⟩:=ry;exact PySem.W.ne_bytes (cE I q (congrArg not Om))
  |_=>exact absurd (show false=true from hs) Yi
 |_=>cases y<;>exact absurd (show false=true from hs) Yi
theorem lQ:cF X (compareOp .Lt) (pd λi j=>.bl (decide (i<j))):=GL λ_ _ _ _ _ _ _ q=>lt_int q
theorem Gd:cF X (compareOp .Gt) (pd λi j=>.bl (decide (j<i))):=GL λ_ _ _ _ _ _ _ q=>gt_int q
theorem Zef:cF X (compareOp .GtE) (pd λi j=>.bl (decide (j<=i))):=GL λ_ _ _ _ _ _ _ q=>ge_int q
theorem ZH:cF X (compareOp .In) (λx y H Q=>∃i j,x=.str i/\y=.str j/\Q (.bl (!(Builtin.Str.occurrences j i 0 j.length 1).isEmpty)) H):=by
 intro pins s σ H x y v u Q I rx ry h;obtain⟨i,j,rfl,rfl,q⟩:=h;obtain⟨t,rfl⟩:=rx;obtain⟨t',rfl⟩:=ry;exact in_str (cE I q rfl)
theorem FJ:cF X (compareOp .Is) (λx y H Q=>y=.aA/\Q (.bl (decide (x=.aA))) H):=by
 intro pins s σ H x y v u Q I rx ry h;obtain⟨rfl,q⟩:=h;cases ry;refine is_none_gen (cE I q ?_);cases x<;>first
  |(cases rx;rfl)
  |(obtain⟨t,rfl⟩:=rx;rfl)
theorem yh:cF X (compareOp .IsNot) (λx y H Q=>y=.aA/\Q (.bl (!decide (x=.aA))) H):=by
 rintro pins s σ H x y v u Q I rx ry ⟨rfl,q⟩;cases ry;refine isnot_none_gen (cE I q ?_);cases x<;>first
  |(cases rx;rfl)
  |(obtain⟨t,rfl⟩:=rx;rfl)
theorem WT:cF X (compareOp .NotIn) (λx y H Q=>∃i j,x=.str i/\y=.str j/\Q (.bl (!(!(Builtin.Str.occurrences j i 0 j.length 1).isEmpty))) H):=by
 rintro pins s σ H x y v u Q I rx ry ⟨i,j,rfl,rfl,q⟩;obtain⟨t,rfl⟩:=rx;obtain⟨t',rfl⟩:=ry;exact notIn_str (cE I q rfl)
theorem aR(b:Expr){op:CmpOp}(h:op≠.In:=by decide)(h2:op≠.NotIn:=by decide):behindInMarks op b=false:=by
 have e1:(op==CmpOp.In)=false:=by cases op<;>first|rfl|exact absurd rfl h
 have e2:(op==CmpOp.NotIn)=false:=by cases op<;>first|rfl|exact absurd rfl h2
 cases b<;>simp[behindInMarks,e1,e2]
theorem dF{op:CmpOp}{r:R2}(ho:cF X (compareOp op) r)(ha:PE X a ta)(hb:PE X b tb)(hm:behindInMarks op b=false):PE X (.Compare a [op] [b] pos) (jW r ta tb):=by
 intro pins s σ H Q I h;exact wpAny_Compare1 (GK ha hb I h λv u s2 x y H2 I2 rx ry q=>ho pins s2 σ H2 x y v u Q I2 rx ry q) hm
inductive Oo(Q:Bool->Hp->Prop)(x:V)(H':Hp):Prop
 |mk (k) (aC:x=.bl k) (aV:Q k H'):Oo Q x H'
def Rb(t:TE):TT:=λσ H Q=>t σ H λx H'=>Oo Q x H'
theorem aZ{op:CmpOp}{r:R2}(ho:cF X (compareOp op) r)(ha:PE X a ta)(hb:PE X b tb)(hm:behindInMarks op b=false):PT X (.Compare a [op] [b] pos) (Rb (jW r ta tb)):=by
 intro pins s σ H Q I h;refine wpAny_isTrue_Compare1 (az (ha pins s σ H _ I h) λv s1 ⟨x,H1,I1,r1,q1⟩=>az (hb pins s1 σ H1 _ I1 q1) λu s2 ⟨y,H2,I2,r2,q2⟩=>
  az (ho pins s2 σ H2 x y v u _ I2 r1 r2 q2) λc s3 ⟨z,H3,I3,r3,k,e,q3⟩=>?_) hm
 subst e;cases r3;exact wpAny_truthy_bool ⟨H3,I3,q3⟩
def yT(K:PySem.W.Frag)(x:V)(H:Hp)(k:Bool):Prop:=
 match x with
 |.aA=>k=false
 |.bl b=>k=b
 |.int i=>k=(i !=0)
 |.str y=>y.length<=sizeLine/\k=((y.length:Int)!=0)
 |.iL y=>y.size<=sizeLine/\k=((y.size:Int)!=0)
 |.ref p=>(∃xs,ak K H p xs/\k=!xs.isEmpty)\/(∃xs,ay K H p xs/\k=!xs.isEmpty)\/∃kvs,H p=some (.dK kvs)/\k=!kvs.isEmpty
 |_=>False
theorem YG{κ:Type}{kvs:List (κ×V)}{vs:List (κ×Value)}(r:KV kvs vs):(!vs.isEmpty)=!kvs.isEmpty:=by
 cases r<;>rfl
theorem Lw{xs:List V}{ah:List Value}(r:Vals xs ah):(!ah.toArray.isEmpty)=!xs.isEmpty:=by
 cases r<;>simp
theorem qg:(sizeLine:Nat)<2^63:=by rw[sizeLine_eq];decide
theorem Zc1:Ze3 X (λx H Q=>∃k,yT X.K x H k/\Q k H):=by
 intro pins s σ H x v Q I rx h;obtain⟨k,e,q⟩:=h;have hl:=qg;have hs:sizeLine=16777216:=sizeLine_eq;cases x with
 |aA=>
  cases rx;have e':k=false:=e;subst e';exact truthy_none ⟨H,I,q⟩
 |bl b=>
  cases rx;have e':k=b:=e;subst e';exact wpAny_truthy_bool ⟨H,I,q⟩
 |int i=>
  obtain⟨t,rfl⟩:=rx;have e':k=(i !=0):=e;subst e';exact PySem.P.truthy_int ⟨H,I,q⟩
 |str y=>
  obtain⟨t,rfl⟩:=rx;obtain⟨hy,e'⟩:y.length<=sizeLine/\k=((y.length:Int)!=0):=e;subst e';exact PySem.P.truthy_str (by omega) ⟨H,I.tok _,q⟩
 |iL y=>
  obtain⟨t,rfl⟩:=rx;obtain⟨hy,e'⟩:y.size<=sizeLine/\k=((y.size:Int)!=0):=e;subst e';exact PySem.W.truthy_bytes (by omega) ⟨H,I.tok _,q⟩
 |ref p=>
  cases rx;have e':=e;rcases e' with⟨xs,hx,e'⟩|⟨xs,hx,e'⟩|⟨kvs,hx,e'⟩
  ·subst e';obtain⟨ah,r,pl,hz⟩:=I.list hx;have hlen:=r.length;exact wpAny_truthy_list pl.isList (by simp only[Yt];omega) ⟨H,I.tok _,by rw[Lw r];exact q⟩
  ·subst e';obtain⟨ah,r,pl,hz⟩:=I.tuple hx;have hlen:=r.length;exact truthy_tuple pl (by simp only[Yt];omega) ⟨H,I.tok _,by rw[Lw r];exact q⟩
  ·subst e';obtain⟨hz,hS,vs,r,m⟩:kvs.length<=sizeLine/\(p==sysModules)=false/\∃vs,KV kvs vs/\s.heap.DictOf (dh X.prog X.w) p vs:=I.av p _ hx;have hlen:kvs.length=vs.length:=Paired.length r;exact wpAny_truthy_dict hS m (by omega) ⟨H,I.tok _,by rw[YG r];exact q⟩
 |_=>exact(show False from e).elim
theorem MX(ha:PE X a ta)(he:∀whole,isTrue a X.env whole=(do let v←whole;standAt a.pos;holding [v] (truthy v))):
  PT X a (λσ H Q=>ta σ H λx H'=>∃k,yT X.K x H' k/\Q k H'):=by
 intro pins s σ H Q I h;exact isTrue_plain (az (ha pins s σ H _ I h) λv s1 ⟨x,H1,I1,r1,q1⟩=>Zc1 pins s1 σ H1 x v Q I1 r1 q1) (he _)
theorem rY:cF X (binaryOp .Add) (λx y H Q=>∃i j,x=.str i/\y=.str j/\i.length+j.length<=sizeLine/\Q (.str (i++j)) H):=by
 rintro pins s σ H x y v u Q I rx ry ⟨i,j,rfl,rfl,hz,q⟩;obtain⟨t,rfl⟩:=rx;obtain⟨t',rfl⟩:=ry;exact add_str (λt' tk=>⟨.str (i++j),H,I.tok _,⟨_,rfl⟩,q⟩) hz
theorem vals1{x:V}{us:List Value}(r:Vals [x] us):∃u,us=[u]/\RelV x u:=by
 cases r with
 |cons r1 r2=>cases r2;exact⟨_,rfl,r1⟩
theorem vals2{x y:V}{us:List Value}(r:Vals [x,y] us):∃u w',us=[u,w']/\RelV x u/\RelV y w':=by
 cases r with
 |cons r1 r2=>
  cases r2 with
  |cons r3 r4=>cases r4;exact⟨_,_,rfl,r1,r3⟩
theorem MY:cZ X (.builtin "abs") (λxs H Q=>∃i,xs=[.int i]/\Q (.int (if i<0 then-i else i)) H):=by
 rintro pins s σ H xs us Q I r ⟨i,rfl,q⟩;obtain⟨u,rfl,t,rfl⟩:=vals1 r;exact call_abs_int λu tk=>⟨.int (if i<0 then-i else i),H,I.tok _,⟨_,rfl⟩,q⟩
theorem Cn:cZ X (.type "str") (λxs H Q=>∃i,xs=[.int i]/\i.natAbs.log2<1920/\Q (.str (toString i)) H):=by
 rintro pins s σ H xs us Q I r ⟨i,rfl,hz,q⟩;obtain⟨u,rfl,t,rfl⟩:=vals1 r;exact PySem.P.str_of_int hz ⟨.str _,H,I.tok _,⟨_,rfl⟩,q⟩
end
structure qA(h:Heap)(x dx C:Addr)(mA:Str->Option Value):Prop where
 obj:h.get? x=some (instObj C dx)
 ns:h.Ns1 dx mA
 ne:dx≠x
theorem ZI{h:Heap}{dx:Addr}{mA:Str->Option Value}(n:h.Ns1 dx mA):∃od,h.get? dx=some od/\∀name,lookIn name od=some (mA name):=by
 obtain⟨o,es,ep,ho,hd,hk,_,hm⟩:=n;refine⟨o,ho,λname=>?_⟩;have e:=hm name;unfold nsFind findBy at e;rw[←Array.find?_toList] at e;unfold lookIn;rw[hd];dsimp only;split;·grind
 ·rename_i q
  have a:es.toList.any (·.refKey)=false:=by
   rw[J9];intro y hy;obtain⟨z,t,jU⟩:=hk y (Array.mem_toList_iff.mp hy);simp[DictEntry.refKey,jU]
  grind
theorem qA.look{h:Heap}{x dx C:Addr}{mA:Str->Option Value}(I:qA h x dx C mA):∃od,PySem.W.InstAt h x (instObj C dx) C (some od)/\∀name,lookIn name od=some (mA name):=
 let⟨od,ho,hl⟩:=ZI I.ns
 ⟨od,⟨I.obj,rfl,rfl,ho⟩,hl⟩
section
variable {prog:Program}{w:World}{A:Around}{E:Value->Shared->Prop}{s:Shared}{K:PySem.W.Frag}{x dx C f:Addr}{mA:Str->Option Value}{name:Str}{v:Value}
theorem get_map{expr:Bool}{Q:Value->Shared->Prop}(X:K.In s.heap)(I:qA s.heap x dx C mA)(hg:plainGet K C name=true)(hh:hasDictIn K C=true)
  (ha:PySem.W.findIn K (.ref C) name=some none)(hv:mA name=some v)(hv':handedIn v=true)(h:Q v {s with toks:=s.toks+1}):
  wpAny (model prog w) A (getAttr (.ref x) name expr) Q E s:=by
 obtain⟨od,J,hl⟩:=I.look;exact PySem.W.get_value X J (plainGet_of hg).1 (PySem.W.findObj_own hh ha rfl (by rw[hl,hv])) hv' h
theorem Zax{pl:Sem Bool}{Q:Value×List Value->Shared->Prop}(X:K.In s.heap)(I:qA s.heap x dx C mA)(hg:plainGet K C name=true)
  (hf:PySem.W.findIn K (.ref C) name=some (some (.ref f)))(ht:isFn K (.ref f)=true)(hv:mA name=none)(h:Q (.ref f,[.ref x]) s):
  wpAny (model prog w) A (getMethod (.ref x) name pl) Q E s:=by
 obtain⟨od,J,hl⟩:=I.look;exact PySem.W.method_fn X J (plainGet_of hg).1 (plainGet_of hg).2 hf (beq_iff_eq.mp ht) (by show(lookIn name od).map (·.isSome)=some false;rw[hl,hv];rfl) h
theorem ZbI{ns:List Str}{Q:Unit->Shared->Prop}(X:K.In s.heap)(I:qA s.heap x dx C mA)
  (hs:PySem.W.findIn K (.ref C) "__setattr__"=some (some (.builtin "object.__setattr__")))(hp:plainOver K C=true)(ht:takerIn K C name=some none)(hh:hasDictIn K C=true)
  (hw:PySem.Within mA ns)(hsz:ns.length<=sizeLine)
  (h:∀h',qA h' x dx C (λy=>if y=name then some v else mA y)->Heap.SameBut dx s.heap h'->Q () {s with heap:=h',toks:=s.toks+2}):
  wpAny (model prog w) A (setAttr (.ref x) name v) Q E s:=by
 obtain⟨od,J,hl⟩:=I.look;refine PySem.W.set_plain X J hs (PySem.W.osa_open X J hp ht λb=>?_);obtain⟨cd,hc,ze⟩:=PySem.W.any_some hh;refine wpAny_bind (wpAny_pure (wpAny_bind (wpAny_bind (wpAny_loadPart I.obj (wpAny_bind (PySem.W.Looks.here (PySem.W.looks_clsIn X hc) ?_))))));rw[ze];refine wpAny_pure (wpAny_bind (wpAny_pure (wpAny_bind (wpAny_nsSet1 I.ns λh' fk tW=>?_))));obtain⟨oD,esD,epD,hoD,hdD,hcD⟩:=fk.count (PySem.Within.cons name v hw);exact wpAny_bind (wpAny_lookBehind hoD (by rw[hdD];exact pastItsLine_dict (Y4 hcD (by rw[Wl];omega))) (wpAny_pure (h _ ⟨(tW.2 _ (Ne.symm I.ne)).trans I.obj,fk,I.ne⟩ tW)))
theorem Zay{R:Result->Shared->Prop}{vs:List Value}{kw:List (Str×Value)}(X:K.In s.heap)(hm:makesIn K C=true)
  (hi:PySem.W.findIn K (.ref C) "__init__"=some (some (.ref f)))(hf:typeIn K (.ref f)=some (.type "function"))
  (h:codeAny (model prog w) (A.under (.builtin "type.__call__" ⟨.ref C::vs,kw⟩)) (.call (.ref f) ⟨.ref (s.heap.objs.size+1)::vs,kw⟩) (PySem.W.InitBack (s.heap.objs.size+1) R)
   {s with heap:=(s.heap.push emptyDict).push (instObj C s.heap.objs.size)}):
  codeAny (model prog w) A (.call (.ref C) ⟨vs,kw⟩) R s:=by
 obtain⟨hh,g,d,t,os⟩:=s;exact PySem.W.make_core (PySem.W.makes_of X hm) (PySem.W.looks_findIn X hi) (λself=>PySem.W.bind_fn X self hf) (.inl rfl) h
end
def cK(f:Str)(v:V):List (Str×V)->List (Str×V)
 |[]=>[(f,v)]
 |(g,x)::r=>if g=f then(g,v)::r else(g,x)::cK f v r
theorem Lf(f g:Str)(v:V):∀fs:List (Str×V),(cK f v fs).lookup g=if g=f then some v else fs.lookup g
 |[]=>by
  show List.lookup g [(f,v)]=_
  grind
 |(k,x)::r=>by
  have ih:=Lf f g v r;rw[show cK f v ((k,x)::r)=(if k=f then(k,v)::r else(k,x)::cK f v r) from rfl]
  grind
theorem D7(f:Str)(v:V):∀fs:List (Str×V),f∈(cK f v fs).map (·.1)/\∀g,g∈fs.map (·.1)->g∈(cK f v fs).map (·.1)
 |[]=>⟨by simp[cK],λg h=>by simp at h⟩
 |(k,x)::r=>by
  obtain⟨i1,i2⟩:=D7 f v r;rw[show cK f v ((k,x)::r)=(if k=f then(k,v)::r else(k,x)::cK f v r) from rfl]
  grind
theorem CU(f:Str)(v:V):∀fs:List (Str×V),(cK f v fs).length<=fs.length+1
 |[]=>by simp[cK]
 |(k,x)::r=>by
  have ih:=CU f v r;rw[show cK f v ((k,x)::r)=(if k=f then(k,v)::r else(k,x)::cK f v r) from rfl]
  grind
theorem fJ.some_of{v:V}{o:Option Value}(r:fJ (some v) o):∃u,o=some u/\RelV v u:=by
 cases o with
 |none=>exact(show False from r).elim
 |some u=>exact⟨u,rfl,r⟩
theorem fJ.none_of{o:Option Value}(r:fJ none o):o=none:=by
 cases o with
 |none=>rfl
 |some u=>exact(show False from r).elim
theorem ZJ{v:V}{u:Value}(r:RelV v u):handedIn u=true:=by
 cases v with
 |aA=>cases(show u=Value.none from r);rfl
 |bl b=>cases(show u=Value.bool b from r);rfl
 |int i=>obtain⟨t,e⟩:=(show ∃t,u=Value.int i t from r);cases e;rfl
 |str x=>obtain⟨t,e⟩:=(show ∃t,u=Value.str x t from r);cases e;rfl
 |iL b=>obtain⟨t,e⟩:=(show ∃t,u=Value.bytes b t from r);cases e;rfl
 |qN b=>obtain⟨t,e⟩:=(show ∃t,u=Value.float b t from r);cases e;rfl
 |ref a=>cases(show u=Value.ref a from r);rfl
 |ty n=>cases(show u=Value.type n from r);rfl
section
variable {P:Program}{w:World}{H H':Hp}{h h':Heap}{a C dx:Addr}{fs fs':List (Str×V)}
theorem yi(av:de P w H h)(e:H a=some (.ins C dx fs)):∃mA,qA h a dx C mA/\(∀f,fJ (fs.lookup f) (mA f))/\PySem.Within mA (fs.map (·.1))/\fs.length<=1000/\H dx=some (.own a):=by
 obtain⟨d,z,ne,ob,mA,n,r,q⟩:=(show cI P w H h a (.ins C dx fs) from av a _ e);exact⟨mA,⟨ob,n,ne⟩,r,q,z,d⟩
end
structure fL(K:PySem.W.Frag)(C:Addr):Prop where
 pg:plainGet K C Str.empty=true
 hd:hasDictIn K C=true
 po:plainOver K C=true
 sa:PySem.W.findIn K (.ref C) "__setattr__"=some (some (.builtin "object.__setattr__"))
theorem fL.get{K:PySem.W.Frag}{C:Addr}(c:fL K C)(f:Str):plainGet K C f=true:=c.pg
def dw(K:PySem.W.Frag)(C:Addr)(f:Str):Prop:=PySem.W.findIn K (.ref C) f=some none
theorem dw.Zeg{K:PySem.W.Frag}{C:Addr}{f:Str}(n:dw K C f):takerIn K C f=some none:=by
 unfold takerIn;rw[show PySem.W.findIn K (.ref C) f=some none from n];rfl
structure Meth(K:PySem.W.Frag)(C:Addr)(m:Str)(f:Addr):Prop where
 at_:PySem.W.findIn K (.ref C) m=some (some (.ref f))
 fn:isFn K (.ref f)=true
 kp:keepIn K (.ref f)=true
section
variable {X:Cx}{pins:List (Addr×Obj)}{σ:St}{H:Hp}{s:Shared}{a C dx:Addr}{fs:List (Str×V)}{f:Str}{v:V}{A:Around}{E:Value->Shared->Prop}
theorem YH{b:Bool}{Q:Value->Shared->Prop}(I:Inv X pins σ H s)(e:H a=some (.ins C dx fs))(c:fL X.K C)(n:dw X.K C f)(l:fs.lookup f=some v)
  (h:∀u s',Inv X pins σ H s'->RelV v u->Q u s'):wpAny (model X.prog X.w) A (getAttr (.ref a) f b) Q E s:=by
 obtain⟨mA,O,r,_,_,_⟩:=yi I.av e;obtain⟨u,hu,ru⟩:=fJ.some_of (by rw[←l];exact r f);exact get_map I.dA O (c.get f) c.hd n hu (ZJ ru) (h u _ (I.tok _) ru)
theorem Lx{m:Str}{g:Addr}{pl:Sem Bool}{Q:Value×List Value->Shared->Prop}(I:Inv X pins σ H s)(e:H a=some (.ins C dx fs))(c:fL X.K C)(k:Meth X.K C m g)(l:fs.lookup m=none)
  (h:Q (.ref g,[.ref a]) s):wpAny (model X.prog X.w) A (getMethod (.ref a) m pl) Q E s:=by
 obtain⟨mA,O,r,_,_,_⟩:=yi I.av e;exact Zax I.dA O (c.get m) k.at_ k.fn (fJ.none_of (by rw[←l];exact r m)) h
theorem Ly{y:V}{u:Value}{Q:Unit->Shared->Prop}(I:Inv X pins σ H s)(e:H a=some (.ins C dx fs))(c:fL X.K C)(n:dw X.K C f)(hl:fs.length<1000)(ry:RelV y u)
  (h:∀s',Inv X pins σ (upd H a (.ins C dx (cK f y fs))) s'->Q () s'):wpAny (model X.prog X.w) A (setAttr (.ref a) f u) Q E s:=by
 obtain⟨mA,O,r,wi,_,ho⟩:=yi I.av e;have hz:(fs.map (·.1)).length<=sizeLine:=by rw[Ya,sizeLine_eq];omega
 refine ZbI I.dA O c.sa c.po n.Zeg c.hd wi hz λh' O' sb=>h _ (I.write (by rw[e];exact True.intro) (.inr ho) (λb q hb z=>(sb.2 b hb).trans z) (let⟨o,_,_,e',_⟩:=O'.ns;⟨o,e'⟩) ⟨by rw[aP O.ne];exact ho,?_,O.ne,O'.obj,_,O'.ns,λg=>?_,λg hg=>?_⟩);·have:=CU f y fs;omega
 ·show fJ ((cK f y fs).lookup g) (if g=f then some u else mA g);rw[Lf];by_cases q:g=f;·rw[if_pos q,if_pos q];exact ry
  ·grind
 ·by_cases q:g=f;·rw[q];exact(D7 f y fs).1
  ·refine(D7 f y fs).2 g (wi g λz=>hg ?_)
   grind
theorem Inv.made(I:Inv X pins σ H s):Inv X pins σ (upd (upd H s.heap.objs.size (.own (s.heap.objs.size+1))) (s.heap.objs.size+1) (.ins C s.heap.objs.size []))
  {s with heap:=(s.heap.push emptyDict).push (instObj C s.heap.objs.size)}:=by
 have e1:(s.heap.push emptyDict).get? s.heap.objs.size=some emptyDict:=Yn s.heap rfl;have e2:((s.heap.push emptyDict).push (instObj C s.heap.objs.size)).get? (s.heap.objs.size+1)=some (instObj C s.heap.objs.size):=by
  have:=Yn (s.heap.push emptyDict) (o:=instObj C s.heap.objs.size) rfl
  rwa [W6] at this
 have e3:(s.heap.push emptyDict).Ns s.heap.objs.size (λ_=>none):=⟨emptyDict,#[],_,e1,rfl,(λe he=>absurd he (by simp)),λ_=>rfl⟩;have I1:=I.laid (a:=s.heap.objs.size) (o:=.own (s.heap.objs.size+1)) (h':=s.heap.push emptyDict) (t':=s.toks) (λb u q=>Yb _ q) (Yd _) ⟨_,e1⟩;refine I1.laid (a:=s.heap.objs.size+1) (o:=.ins C s.heap.objs.size []) (t':=s.toks) (λb u q=>Yb _ q) (Nat.le_of_eq (W6 _ _)) ?_;have ne:s.heap.objs.size≠s.heap.objs.size+1:=Yz (Jd _);refine⟨by rw[aP ne,aU],Yw _,ne,e2,λ_=>none,(Heap.Ns1.of_empty e3).at λo q=>Yb _ q,λ_=>True.intro,λy hy=>absurd rfl hy⟩
theorem ZbJ{prog:Program}{w:World}{env:Env}{e:Expr}{f:Str}{pos:Pos}{s:Shared}{Q:Value->Shared->Prop}(hb:attributeBase e f env (eval e env)=eval e env)
  (h:wpAny (model prog w) A (eval e env) (λo bG=>wpAny (model prog w) A (getAttr o f true) Q E bG) E s):wpAny (model prog w) A (eval (.Attribute e f pos) env) Q E s:=
 Attribute_any_ h (by rw[arm_eval_Attribute,hb])
end
inductive PX(K:PySem.W.Frag)(f:Str)(Q:VK)(x:V)(H1:Hp):Prop
 |mk (a C dx fs v) (aC:x=.ref a) (aV:H1 a=some (.ins C dx fs)) (bc:fL K C) (bO:dw K C f) (cG:fs.lookup f=some v) (dH:Q v H1):PX K f Q x H1
def RX(K:PySem.W.Frag)(ta:TE)(f:Str):TE:=λσ H Q=>ta σ H λx H1=>PX K f Q x H1
def Ze5(K:PySem.W.Frag)(ta tv:TE)(f:Str):TS:=λD σ H=>tv σ H λy H1=>ta σ H1 λx H2=>∃a C dx fs,x=.ref a/\H2 a=some (.ins C dx fs)/\fL K C/\dw K C f/\fs.length<1000/\
 D.nx σ (upd H2 a (.ins C dx (cK f y fs)))
section
variable {X:Cx}{o e value:Expr}{f:Str}{pos pos' qB:Pos}{ta tv:TE}
theorem Zc2(he:PE X e ta)(hb:attributeBase e f X.env (eval e X.env)=eval e X.env):PE X (.Attribute e f pos) (RX X.K ta f):=by
 intro pins s σ H Q I h;refine ZbJ hb (az (he pins s σ H _ I h) λu s1 zq=>?_);obtain⟨x,H1,I1,rx,a,C,dx,fs,v,ex,ea,c,n,l,q⟩:=zq;subst ex;obtain rfl:u=Value.ref a:=rx;exact YH I1 ea c n l λu' s2 I2 ru=>⟨v,H1,I2,ru,q⟩
theorem vh(ha:PE X o ta)(hv:PE X value tv)(hs:swapsWith value (some (.Attribute o f pos')) pos.line X.env=pure false):PS X (.Assign [.Attribute o f pos'] value pos) (Ze5 X.K ta tv f):=by
 intro pins s σ H D I h;refine plainObj_wpAny_Assign_Attribute (az (hv pins s σ H _ I h) λu s1 zq=>?_) hs;obtain⟨y,H1,I1,ry,q⟩:=zq;refine az (ha pins s1 σ H1 _ I1 q) λov s2 zq=>?_;obtain⟨x,H2,I2,rx,a,C,dx,fs,ex,ea,c,n,l,q2⟩:=zq;subst ex;obtain rfl:ov=Value.ref a:=rx;exact Ly I2 ea c n l ry λs3 I3=>⟨σ,_,I3,q2⟩
end
section
variable {X:Cx}{pins:List (Addr×Obj)}{σ:St}{H:Hp}{s:Shared}{A:Around}{E:Value->Shared->Prop}{Q:Value->Shared->Prop}{c:Value}{b:Bool}
inductive iu(K:PySem.W.Frag)(H:Hp):V->Value->Prop where
 |aA:iu K H .aA (.type "NoneType")
 |bl (x:Bool):iu K H (.bl x) (.type "bool")
 |int (i:Int):iu K H (.int i) (.type "int")
 |str (x:Str):iu K H (.str x) (.type "str")
 |qN (x:UInt64):iu K H (.qN x) (.type "float")
 |lst {a:Addr} {xs:List V} (e:H a=some (.lst xs)):iu K H (.ref a) (.type "list")
 |bK {a:Addr} {o:Obj} {xs:List V} (e:H a=some (.bK o (.lst xs))):iu K H (.ref a) (.type "list")
 |tup {a:Addr} {xs:List V} (e:H a=some (.tup xs)):iu K H (.ref a) (.type "tuple")
 |dK {a:Addr} {kvs:List (Key×V)} (e:H a=some (.dK kvs)):iu K H (.ref a) (.type "dict")
 |dT {a:Addr} {kvs:List (List Key×V)} (e:H a=some (.dT kvs)):iu K H (.ref a) (.type "dict")
 |ins {a C dx:Addr} {fs:List (Str×V)} (e:H a=some (.ins C dx fs)) (cl:fL K C) (ha:PySem.W.findIn K (.ref C) "__class__"=some (some (.builtin "object.__class__")))
   (hn:PySem.W.specialIn K (.builtin "object.__class__") "__get__"=some (some (.builtin "getset_descriptor.__get__"))) (S1:PySem.W.takesIn K (.builtin "object.__class__")=some true)
   (hm:PySem.W.mroIn K C (.type "object")=some true):iu K H (.ref a) (.ref C)
theorem ZK{x:V}{u t:Value}(I:Inv X pins σ H s)(rx:RelV x u)(ty:iu X.K H x t)(e:kitOne X.K t c=some b)(h:∀tk,Q (.bool b) {s with toks:=tk}):
  wpAny (model X.prog X.w) A (call (.builtin "isinstance") [u,c]) Q E s:=by
 cases ty with
 |aA=>cases(show u=Value.none from rx);exact kia_one PySem.W.kitx_none I.dA True.intro e (λz=>nomatch z) h
 |bl y=>cases(show u=Value.bool y from rx);exact kia_one PySem.W.kitx_bool I.dA True.intro e (λz=>nomatch z) h
 |int i=>obtain⟨t,q⟩:=(show ∃t,u=Value.int i t from rx);cases q;exact kia_one PySem.W.kitx_int I.dA True.intro e (λz=>nomatch z) h
 |str y=>obtain⟨t,q⟩:=(show ∃t,u=Value.str y t from rx);cases q;exact kia_one PySem.W.kitx_str I.dA True.intro e (λz=>nomatch z) h
 |qN y=>obtain⟨t,q⟩:=(show ∃t,u=Value.float y t from rx);cases q;exact kia_one PySem.W.kitx_float I.dA True.intro e (λz=>nomatch z) h
 |@lst a xs ea=>
  cases(show u=Value.ref a from rx);obtain⟨_,_,n,_,h1⟩:=(show cI X.prog X.w H s.heap a (.lst xs) from I.av a _ ea);exact kia_one kitx_list I.dA ⟨_,h1,rfl⟩ e (λz=>nomatch z) h
 |@bK a ob xs ea=>
  cases(show u=Value.ref a from rx);obtain⟨_,_,_,n,_,h1⟩:=(show cI X.prog X.w H s.heap a (.bK ob (.lst xs)) from I.av a _ ea);exact kia_one kitx_list I.dA ⟨_,h1,rfl⟩ e (λz=>nomatch z) h
 |@tup a xs ea=>
  cases(show u=Value.ref a from rx);obtain⟨_,_,_,p⟩:=(show cI X.prog X.w H s.heap a (.tup xs) from I.av a _ ea);obtain⟨o,h1,h2,_⟩:=p;exact kia_one PySem.W.kitx_tuple I.dA ⟨o,h1,h2⟩ e (λz=>nomatch z) h
 |@dK a kvs ea=>
  cases(show u=Value.ref a from rx);obtain⟨_,_,vs,_,p⟩:=(show cI X.prog X.w H s.heap a (.dK kvs) from I.av a _ ea);obtain⟨o,es,ep,h1,h2,_⟩:=p;exact kia_one kitx_dict I.dA ⟨o,h1,h2.1⟩ e (λz=>nomatch z) h
 |@dT a kvs ea=>
  cases(show u=Value.ref a from rx);obtain⟨_,_,xs,_,o,es,ep,h1,h2,_⟩:=(show cI X.prog X.w H s.heap a (.dT kvs) from I.av a _ ea);exact kia_one kitx_dict I.dA ⟨o,h1,h2.1⟩ e (λz=>nomatch z) h
 |@ins a C dx fs ea cl ha hn S1 hm=>
  cases(show u=Value.ref a from rx);obtain⟨mA,O,_⟩:=yi I.av ea;obtain⟨od,J,_⟩:=O.look;exact kia_one (PySem.W.kitx_own (cl.get _) cl.hd ha hn S1 hm) I.dA J e (λz=>nomatch z) h
end
structure c8(k:Nat)(A:Around):Prop where
 hd:A.handled=none
 dp:A.depth+3*k+5<recursionLimit
 un:A.units+16*k+200<cLine
 gd:A.guards=some []
theorem c8.mono{j k:Nat}{A:Around}(r:c8 k A)(h:j<=k):c8 j A:=⟨r.hd,by have:=r.dp;omega,by have:=r.un;omega,r.gd⟩
theorem c8.deeper{k:Nat}{A:Around}(r:c8 (k+1) A)(env:Env):c8 k (A.deeper env):=
 ⟨r.hd,by have:=r.dp;show A.depth+1+3*k+5<_;omega,by have:=r.un;show A.units+3+16*k+200<_;omega,r.gd⟩
theorem YI{A:Around}{C:Addr}{us:List Value}{kw:List (Str×Value)}:(A.under (.builtin "type.__call__" ⟨.ref C::us,kw⟩)).depth=A.depth+1:=by
 rfl
theorem YJ{A:Around}{C:Addr}{us:List Value}{kw:List (Str×Value)}:(A.under (.builtin "type.__call__" ⟨.ref C::us,kw⟩)).units=A.units+1:=by
 rfl
theorem c8.make{k:Nat}{A:Around}(r:c8 (k+1) A)(C:Addr)(us:List Value)(kw:List (Str×Value)):c8 k (A.under (.builtin "type.__call__" ⟨.ref C::us,kw⟩)):=
 ⟨r.hd,by have:=r.dp;rw[YI];omega,by have:=r.un;rw[YJ];omega,by first|exact r.gd|simpa[Around.under,Code.isGuard,Code.isFrame,guardIds] using r.gd⟩
theorem c8.depth{k:Nat}{A:Around}(r:c8 k A):A.depth<recursionLimit:=by have:=r.dp;omega
theorem c8.units{k:Nat}{A:Around}(r:c8 k A):A.units+64<cLine:=by have:=r.un;omega
theorem c8.qh{k:Nat}{A:Around}(r:c8 k A):A.units<cLine:=by have:=r.un;omega
def je:TA:=λ_ H Q=>Q [] H
def ig(ta:TE)(tr:TA):TA:=λσ H Q=>ta σ H λx H1=>tr σ H1 λxs H2=>Q (x::xs) H2
section
variable {X:Cx}{e:Expr}{es:List Expr}{te:TE}{t:TA}{pos:Pos}
theorem ae:PA X [] je:=λ_ _ _ _ H Q I h=>Calls.spliced_nil ⟨[],H,I,.nil,h⟩
theorem aa(ha:PE X e te)(hr:PA X es t)(hs:starEach (e::es) X.env=(false,eval e X.env)::starEach es X.env:=by rfl):PA X (e::es) (ig te t):=by
 intro pos pins s σ H Q I h;rw[hs];exact Calls.spliced_cons (az (ha pins s σ H _ I h) λu s1 ⟨x,H1,I1,r1,q1⟩=>az (hr pos pins s1 σ H1 _ I1 q1) λus s2 ⟨xs,H2,I2,r2,q2⟩=>⟨x::xs,H2,I2,.cons r1 r2,q2⟩)
def Ze6(t:TA):TE:=λσ H Q=>t σ H λxs H1=>xs.length<=sizeLine/\∀p,H1 p=none->Q (.ref p) (upd H1 p (.lst xs))
theorem vq(h:PA X es t):PE X (.List es pos) (Ze6 t):=by
 intro pins s σ H Q I hq;refine wpAny_List_spliced (az (h pos pins s σ H _ I hq) λus s1 ⟨xs,H1,I1,r,z,q⟩=>⟨by rw[←r.length];exact z,⟨.ref s1.heap.objs.size,upd H1 s1.heap.objs.size (.lst xs),I1.laid (λb u e=>Yb _ e) (Yd _) ?_,rfl,q _ (I1.av.fresh (Yd _))⟩⟩);exact⟨z,us,0,r,Yn _ rfl⟩
end
abbrev Sp:=List V->Hp->VK->XK->Prop
abbrev ji:=List Env->Hp->Shared->XK->Value->Shared->Prop
structure qC(P:Program)(w:World)(K:PySem.W.Frag)(mg:Str->Option Value)(base:Heap)(A:Around)(outer:List Env)(s:Shared)(H:Hp):Prop where
 frames:A.frames=some outer
 mod:Mod K mg base
 bs:∀b o,base.get? b=some o->s.heap.get? b=some o/\H b=none
 nI:base.objs.size<=s.heap.objs.size
 jT:s.heap.FunFrames base outer
 qQ:∀b∈gZ outer,H b=none
 av:de P w H s.heap
 bare:AllBare s.gens
def CE(outer:List Env)(P:Program)(w:World)(H:Hp)(s:Shared)(Q:VK)(u:Value)(s':Shared):Prop:=
 ∃v H',s'.os=s.os/\AllBare s'.gens/\Un (gZ outer) [] H H' s.heap s'.heap/\de P w H' s'.heap/\RelV v u/\Q v H'
def CR(CX:ji)(outer:List Env)(P:Program)(w:World)(H:Hp)(s:Shared)(Q:VK)(E:XK)(r:Result)(s':Shared):Prop:=
 match r with
 |.ok (.ret u)=>CE outer P w H s Q u s'
 |.ok _=>False
 |.error e=>CX outer H s E e s'
structure aG(P:Program)(w:World)(K:PySem.W.Frag)(mg:Str->Option Value)(base:Heap)(CX:ji)(k:Nat)(f:Addr)(fd:FuncData)(ps:List Str)(sp:Sp):Prop where
 len:∀vs H Q E,sp vs H Q E->vs.length=ps.length
 run:∀(A:Around) (outer:List Env) (s:Shared) (H:Hp) (args:Args) (us:List Value) (vs:List V) (Q:VK) (E:XK),c8 k A->qC P w K mg base A outer s H->BindsTo s fd args (ps.zip us)->Vals vs us->sp vs H Q E->
  codeAny (model P w) A (.call (.ref f) args) (CR CX outer P w H s Q E) s
theorem qC.make{P:Program}{w:World}{K:PySem.W.Frag}{mg:Str->Option Value}{base:Heap}{A:Around}{outer:List Env}{s:Shared}{H:Hp}(e:qC P w K mg base A outer s H)(C:Addr)(us:List Value)(kw:List (Str×Value)):
  qC P w K mg base (A.under (.builtin "type.__call__" ⟨.ref C::us,kw⟩)) outer s H:=⟨by first|exact e.frames|(simpa[Around.under,Code.envs,Code.isFrame,pushEnvs] using e.frames),e.mod,e.bs,e.nI,e.jT,e.qQ,e.av,e.bare⟩
section
variable {X:Cx}{pins:List (Addr×Obj)}{σ:St}{H:Hp}{s s':Shared}
theorem Inv.RY(I:Inv X pins σ H s):qC X.prog X.w X.K X.mg X.base X.A X.stack s H:=
 ⟨I.ok.frames,I.ok.mod,I.bs,Y4 I.ok.nI I.sz,I.stack,I.Od,I.av,I.bare⟩
theorem Inv.after{Q:VK}{u:Value}(I:Inv X pins σ H s)(h:CE X.stack X.prog X.w H s Q u s'):EP X pins σ Q u s':=by
 obtain⟨v,H',os,bare,un,av,r,q⟩:=h;obtain⟨hh,g,d,t,os'⟩:=s';obtain rfl:os'=s.os:=os;exact⟨v,H',I.call (h':=hh) (g':=g) (d':=d) (t':=t) (ch:=[]) un av bare (λb z=>absurd z (by simp)),r,q⟩
end
def Rc(sp:Sp)(dZ:List V)(E:XK)(t:TA):TE:=λσ H Q=>t σ H λvs H1=>sp (vs++dZ) H1 Q E
def yK(C:Addr)(m:Str)(sp:Sp)(dZ:List V)(E:XK)(ta:TE)(t:TA):TE:=λσ H Q=>ta σ H λx H1=>∃a dx fs,x=.ref a/\H1 a=some (.ins C dx fs)/\fs.lookup m=none/\
 t σ H1 λvs H2=>sp (x::(vs++dZ)) H2 Q E
def Rf(C:Addr)(sp:Sp)(dZ:List V)(E:XK)(t:TA):TE:=λσ H Q=>t σ H λvs H1=>∀x dx,H1 x=none->H1 dx=none->dx≠x->
 sp (.ref x::(vs++dZ)) (upd (upd H1 dx (.own x)) x (.ins C dx [])) (λv H2=>v=.aA/\Q (.ref x) H2) E
def Binds(K:PySem.W.Frag)(fd:FuncData)(ps:List Str)(ds:List Value):Prop:=
 ∀(s:Shared) (us:List Value),K.In s.heap->(us++ds).length=ps.length->BindsTo s fd ⟨us,[]⟩ (ps.zip (us++ds))
theorem Binds.all{K:PySem.W.Frag}{fd:FuncData}{ps:List Str}(h:∀us:List Value,us.length=ps.length->bindArgs fd ⟨us,[]⟩=pure (ps.zip us)):Binds K fd ps []:=λs us _ hl=>by
 rw[Wf] at hl⊢;exact .of_eq (h us hl)
def Passes(CX:ji)(X:Cx)(E:XK):Prop:=∀(pins:List (Addr×Obj)) (σ:St) (H:Hp) (s:Shared) (e:Value) (s':Shared),Inv X pins σ H s->CX X.stack H s E e s'->X.xe e s'
section
variable {X:Cx}{CX:ji}{k:Nat}{f C:Addr}{fd:FuncData}{ps:List Str}{sp:Sp}{dZ:List V}{ds:List Value}{E:XK}{x m:Str}{p pos apos:Pos}{e o:Expr}{es:List Expr}{ta:TE}{t:TA}
theorem FK{pins:List (Addr×Obj)}{σ:St}{H:Hp}{s:Shared}{Q:VK}{us:List Value}{vs:List V}(F:aG X.prog X.w X.K X.mg X.base CX k f fd ps sp)(hr:c8 k X.A)(hb:Binds X.K fd ps ds)(hd:Vals dZ ds)(hx:Passes CX X E)
  (I:Inv X pins σ H s)(r:Vals vs us)(h:sp (vs++dZ) H Q E):wpAny (model X.prog X.w) X.A (call (.ref f) us) (EP X pins σ Q) X.xe s:=by
 have r2:Vals (vs++dZ) (us++ds):=r.append hd;have hl:(us++ds).length=ps.length:=by rw[←r2.length];exact F.len _ _ _ _ h
 refine wpAny_call (codeAny_mono (F.run X.A X.stack s H ⟨us,[]⟩ (us++ds) (vs++dZ) Q E hr I.RY (hb s us I.dA hl) r2 h) λr s' hq=>?_);cases r with
 |error e=>exact hx pins σ H s e s' I hq
 |ok fl=>
  cases fl with
  |ret u=>exact I.after hq
  |next=>exact False.elim hq
  |brk=>exact False.elim hq
  |cont=>exact False.elim hq
theorem ZbK(F:aG X.prog X.w X.K X.mg X.base CX k f fd ps sp)(hr:c8 k X.A)(hg:Gl X x)(hm:X.mg x=some (.ref f))(hk:keepIn X.K (.ref f)=true)(hb:Binds X.K fd ps ds)(hd:Vals dZ ds)(hx:Passes CX X E)
  (ha:PA X (e::es) t)(kU:(x==("__debug__":Str))=false:=by decide)(he:starEach (e::es) X.env=(false,eval e X.env)::starEach es X.env:=by rfl)(c6:(backTo pos (starEach es X.env)).any (·.1)=false:=by rfl):
  PE X (.Call (.Name x p) (e::es) [] pos) (Rc sp dZ E t):=by
 intro pins s σ H Q I h;exact wpAny_Call_Name_kw (E9 I hg hm (callWith_K I.ok.mod.qO hk (az (ha pos pins s σ H _ I h) λus s1 ⟨vs,H1,I1,r,q⟩=>⟨I1.dA,FK F hr hb hd hx I1 r q⟩) he c6) kU)
theorem ZbL{pl:Sem Bool}(he:PE X o ta)(c:fL X.K C)(hm:Meth X.K C m f)(F:aG X.prog X.w X.K X.mg X.base CX k f fd ps sp)(hr:c8 k X.A)(hb:Binds X.K fd ps ds)(hd:Vals dZ ds)(hx:Passes CX X E)(ha:PA X (e::es) t)
  (gF:starEach (e::es) X.env=(false,eval e X.env)::starEach es X.env:=by rfl)(c6:(backTo pos (starEach es X.env)).any (·.1)=false:=by rfl)
  (ht:eval (.Call (.Attribute o m apos) (e::es) [] pos) X.env=(do
   let ov←eval o X.env
   standAt apos.atName
   let(f,first)←holding [ov] (getMethod ov m pl)
   callWith pos f first (backTo pos (starEach (e::es) X.env)) (backToKw pos (keywordEach [] X.env))):=by rfl):
  PE X (.Call (.Attribute o m apos) (e::es) [] pos) (yK C m sp dZ E ta t):=by
 intro pins s σ H Q I h;refine methodCall_KW (pl:=pl) (az (he pins s σ H _ I h) λu s1 zq=>?_) ht;obtain⟨x,H1,I1,rx,a,dx,fs,ex,ea,l,q⟩:=zq;subst ex;obtain rfl:u=Value.ref a:=rx;refine Lx I1 ea c hm l ?_;refine callWith_K (first:=[.ref a]) (h₀:=X.base) I.ok.mod.qO hm.kp (az (ha pos pins s1 σ H1 _ I1 q) λus s2 ⟨vs,H2,I2,r,q2⟩=>⟨I2.dA,?_⟩) gF c6;exact FK (us:=.ref a::us) (vs:=.ref a::vs) F hr hb hd hx I2 (.cons rfl r) q2
theorem Zaz{pl:Sem Bool}(he:PE X o ta)(c:fL X.K C)(hm:Meth X.K C m f)(F:aG X.prog X.w X.K X.mg X.base CX k f fd ps sp)(hr:c8 k X.A)(hb:Binds X.K fd ps ds)(hd:Vals dZ ds)(hx:Passes CX X E)
  (ht:eval (.Call (.Attribute o m apos) [] [] pos) X.env=(do
   let ov←eval o X.env
   standAt apos.atName
   let(f,first)←holding [ov] (getMethod ov m pl)
   callWith pos f first (backTo pos (starEach [] X.env)) (backToKw pos (keywordEach [] X.env))):=by rfl):
  PE X (.Call (.Attribute o m apos) [] [] pos) (yK C m sp dZ E ta je):=by
 intro pins s σ H Q I h;refine methodCall_KW (pl:=pl) (az (he pins s σ H _ I h) λu s1 zq=>?_) ht;obtain⟨x,H1,I1,rx,a,dx,fs,ex,ea,l,q⟩:=zq;subst ex;obtain rfl:u=Value.ref a:=rx;refine Lx I1 ea c hm l ?_;exact PySem.W.callWith_K0 (first:=[.ref a]) I1.dA hm.kp (FK (us:=[.ref a]) (vs:=[.ref a]) F hr hb hd hx I1 (.cons rfl .nil) q)
structure Mk(K:PySem.W.Frag)(C f:Addr):Prop where
 makes:makesIn K C=true
 init:PySem.W.findIn K (.ref C) "__init__"=some (some (.ref f))
 fn:isFn K (.ref f)=true
 kp:keepIn K (.ref C)=true
theorem ZaA{pins:List (Addr×Obj)}{σ:St}{H:Hp}{s:Shared}{Q:VK}{us:List Value}{vs:List V}(M:Mk X.K C f)(F:aG X.prog X.w X.K X.mg X.base CX k f fd ps sp)(hr:c8 (k+1) X.A)(hb:Binds X.K fd ps ds)(hd:Vals dZ ds)
  (hx:Passes CX X E)(I:Inv X pins σ H s)(r:Vals vs us)
  (h:∀x dx,H x=none->H dx=none->dx≠x->sp (.ref x::(vs++dZ)) (upd (upd H dx (.own x)) x (.ins C dx [])) (λv H2=>v=.aA/\Q (.ref x) H2) E):
  wpAny (model X.prog X.w) X.A (call (.ref C) us) (EP X pins σ Q) X.xe s:=by
 have hq:=h (s.heap.objs.size+1) s.heap.objs.size (I.av.fresh (Hn _)) (I.av.fresh (Yd _)) (Yz (Jd _));have I2:=Inv.made (C:=C) I;have r2:Vals (V.ref (s.heap.objs.size+1)::(vs++dZ)) (Value.ref (s.heap.objs.size+1)::(us++ds)):=.cons rfl (r.append hd);have hl:(Value.ref (s.heap.objs.size+1)::us++ds).length=ps.length:=by
  have e:=r2.length;rw[F.len _ _ _ _ hq] at e;exact e.symm
 refine wpAny_call (Zay I.dA M.makes M.init (beq_iff_eq.mp M.fn) (codeAny_mono (F.run _ X.stack _ _ ⟨Value.ref (s.heap.objs.size+1)::us,[]⟩ (Value.ref (s.heap.objs.size+1)::(us++ds)) _ _ E (hr.make C us [])
  (I2.RY.make C us []) (hb _ (Value.ref (s.heap.objs.size+1)::us) I2.dA hl) r2 hq) λr s' wj=>?_))
 cases r with
 |error e=>exact hx pins σ _ _ e s' I2 wj
 |ok fl=>
  cases fl with
  |ret u=>
   obtain⟨v,H',I3,rv,ev,q3⟩:=I2.after wj;subst ev;exact⟨rv,⟨V.ref (s.heap.objs.size+1),H',I3,rfl,q3⟩⟩
  |next=>exact False.elim wj
  |brk=>exact False.elim wj
  |cont=>exact False.elim wj
theorem ZbM(M:Mk X.K C f)(F:aG X.prog X.w X.K X.mg X.base CX k f fd ps sp)(hr:c8 (k+1) X.A)(hg:Gl X x)(hm:X.mg x=some (.ref C))(hb:Binds X.K fd ps ds)(hd:Vals dZ ds)(hx:Passes CX X E)
  (ha:PA X (e::es) t)(kU:(x==("__debug__":Str))=false:=by decide)(he:starEach (e::es) X.env=(false,eval e X.env)::starEach es X.env:=by rfl)(c6:(backTo pos (starEach es X.env)).any (·.1)=false:=by rfl):
  PE X (.Call (.Name x p) (e::es) [] pos) (Rf C sp dZ E t):=by
 intro pins s σ H Q I h;exact wpAny_Call_Name_kw (E9 I hg hm (callWith_K I.ok.mod.qO M.kp (az (ha pos pins s σ H _ I h) λus s1 ⟨vs,H1,I1,r,q⟩=>⟨I1.dA,ZaA M F hr hb hd hx I1 r q⟩) he c6) kU)
end
section
variable {X:Cx}{CX:ji}{k:Nat}{f C:Addr}{fd:FuncData}{ps ks:List Str}{sp:Sp}{E:XK}{x m:Str}{p pos apos Zgv:Pos}{e o:Expr}{es:List Expr}{kws:List Keyword}{te ta:TE}{t tk:TA}{nm:Option Str}
variable {g:List Value->List Value->List Value}{gV:List V->List V->List V}
end
structure aQ(N P:List Str)(sc:Scope):Prop where
 kind:sc.kind=.function
 co:sc.isCoroutine=false
 gen:sc.isGenerator=false
 nd:N.Nodup
 pre:N.take P.length=P
 par:∀x∈P,sc.names.lookup x=some .local\/sc.names.lookup x=some .cell
 Zc3:∀y∈sc.names,y.2≠.free
theorem L6{kindOf:Str->Option NameKind}{x:Str}:∀{binds:List (Str×Value)} {m:Str->Option Value},(∀v,(x,v)∉binds)->bindL kindOf binds m x=m x
 |[],_,_=>rfl
 |(n,v)::r,m,h=>by
  unfold bindL;rw[L6 λw hw=>h w (Yx _ hw)];split;·grind
  ·rfl
theorem L7{kindOf:Str->Option NameKind}{x:Str}:∀{binds:List (Str×Value)} {m:Str->Option Value},(∀v,(x,v)∉binds)->bindC kindOf binds m x=m x
 |[],_,_=>rfl
 |(n,v)::r,m,h=>by
  unfold bindC;rw[L7 λw hw=>h w (Yx _ hw)];split;·rfl
  ·grind
theorem L8{kindOf:Str->Option NameKind}{x:Str}{v:Value}:∀{P:List Str} {vs:List Value} {i:Nat} {m:Str->Option Value},P.Nodup->P[i]?=some x->vs[i]?=some v->kindOf x=some .local->
  bindL kindOf (P.zip vs) m x=some v
 |[],_,_,_,_,h,_,_=>by simp at h
 |_::_,[],_,_,_,_,h,_=>by simp at h
 |p::P,w::vs,0,m,nd,h1,h2,hk=>by
  simp at h1 h2;subst h1;subst h2;show bindL kindOf ((p,w)::P.zip vs) m p=_;unfold bindL;rw[L6 λv hv=>(Y1.mp nd).1 (S2 hv).1,if_pos hk];simp
 |p::P,w::vs,i+1,m,nd,h1,h2,hk=>by
  unfold bindL;exact L8 (Y1.mp nd).2 (by simpa using h1) (by simpa using h2) hk
theorem L9{kindOf:Str->Option NameKind}{x:Str}{v:Value}:∀{P:List Str} {vs:List Value} {i:Nat} {m:Str->Option Value},P.Nodup->P[i]?=some x->vs[i]?=some v->kindOf x≠some .local->
  bindC kindOf (P.zip vs) m x=some v
 |[],_,_,_,_,h,_,_=>by simp at h
 |_::_,[],_,_,_,_,h,_=>by simp at h
 |p::P,w::vs,0,m,nd,h1,h2,hk=>by
  simp at h1 h2;subst h1;subst h2;show bindC kindOf ((p,w)::P.zip vs) m p=_;unfold bindC;rw[L7 λv hv=>(Y1.mp nd).1 (S2 hv).1,if_neg hk];simp
 |p::P,w::vs,i+1,m,nd,h1,h2,hk=>by
  unfold bindC;exact L9 (Y1.mp nd).2 (by simpa using h1) (by simpa using h2) hk
def start(N:List Str)(vs:List V):St:=vs.map some++List.replicate (N.length-vs.length) none
def lV(CX:ji)(P:Program)(w:World)(K:PySem.W.Frag)(mg:Str->Option Value)(base:Heap)(N:List Str)(qual:Str)(scope:Scope)(f:Addr)(cd:Value)(A:Around)(outer:List Env)(s:Shared)(H:Hp)(E:XK):Cx where
 prog:=P
 w:=w
 K:=K
 mg:=mg
 base:=base
 A:=A.deeper (envOfC qual scope s.heap.objs.size f cd)
 N:=N
 cT:=s
 iI:=H
 env:=envOfC qual scope s.heap.objs.size f cd
 outer:=outer
 stack:=envOfC qual scope s.heap.objs.size f cd::outer
 ex:=[]
 calm:=true
 fn:=λ_=>true
 pn:=[]
 xe:=λe s'=>wpAny (model P w) (A.deeper (envOfC qual scope s.heap.objs.size f cd)) (leaving (envOfC qual scope s.heap.objs.size f cd) e) (λ_ qT=>CX outer H s E e qT) (λe' qT=>CX outer H s E e' qT) s'
theorem MZ{sc:Scope}{n:Nat}{x:Str}(h:sc.names.lookup x=some .cell):∃c,(cellsFrom n sc.names []).lookup x=some c:=by
 exact W9.mp (cellsFrom_some sc.names n [] (.inl h))
theorem ZL{CX:ji}{P:Program}{w:World}{K:PySem.W.Frag}{mg:Str->Option Value}{base:Heap}{N ps:List Str}{qual:Str}{scope:Scope}{f:Addr}{cd:Value}{A:Around}{outer:List Env}{s s1:Shared}{H:Hp}{E:XK}{us:List Value}{vs:List V}
  (S:aQ N ps scope)(hd:A.handled=none)(e0:qC P w K mg base A outer s H)(hl:vs.length=ps.length)(r:Vals vs us)
  (x:InCallC s s.heap.objs.size (bindL (envOfC qual scope s.heap.objs.size f cd).kindOf (ps.zip us) λ_=>none) (cellsFrom (s.heap.objs.size+1) scope.names []) (bindC (envOfC qual scope s.heap.objs.size f cd).kindOf (ps.zip us) λ_=>none) s1):
  Inv (lV CX P w K mg base N qual scope f cd A outer s H E) [] (start N vs) H s1:=by
 have c6:ps.length<=N.length:=by have:=congrArg List.length S.pre;rw[Wa] at this;omega
 obtain⟨h1,tk,rfl,hk⟩:=x.done;have wk:∀b:Addr,b∉(lV CX P w K mg base N qual scope f cd A outer s H E).ex:=λb z=>absurd (show b∈([]:List Addr) from z) (by simp);refine⟨⟨e0.mod,S.kind,rfl,rfl,Yd _,λy z c h1 h2=>?_,λy hy=>?_,λy c _ h=>?_,λ_=>hd,Around.frames_deeper e0.frames,.inr ⟨rfl,rfl⟩,λb z=>absurd z (wk b),e0.bs,e0.nI,λb _ _=>wk b,λb z=>absurd z (wk b),e0.jT,e0.qQ⟩,
  rfl,e0.bare,Un.kept hk,⟨_,x.toInCall.ns,λi y v h1 h2 h3=>?_⟩,λy c h=>⟨_,x.cell y c h⟩,e0.av.fresh (Yd _),λy c h=>?_,λp hp=>absurd (show p∈([]:List (Addr×Obj)) from hp) (by simp),e0.av.kept hk,?_⟩
 ·exact name_of_addr x.apart (PySem.mem_of_lookup h1) (PySem.mem_of_lookup h2)
 ·have hy:scope.names.lookup y=some .cell\/scope.names.lookup y=some .free:=hy;rcases hy with hy|hy;·exact MZ hy
  ·exact absurd rfl (S.Zc3 _ (PySem.mem_of_lookup hy))
 ·exact Jo (x.above y c (PySem.mem_of_lookup h))
 ·have hi:i<vs.length:=by
   unfold start at h2
   grind
  have ha:vs[i]?=some v:=by
   unfold start at h2;rw[Wd (by simpa using hi),Yg] at h2;cases e:vs[i]? with
   |none=>grind
   |some a=>grind
  obtain⟨u,hu,rv⟩:=r.get ha;have hp:ps[i]?=some y:=by
   rw[←S.pre,List.getElem?_take_of_lt (by omega)];exact h1
  have S3:ps.Nodup:=by rw[←S.pre];exact S.nd.sublist (List.take_sublist _ _)
  refine⟨u,rv,?_⟩;rcases S.par y (Ye hp) with k|k;·exact .inl ⟨k,L8 S3 hp hu k⟩
  ·obtain⟨c,e⟩:=MZ k;refine .inr ⟨.inl k,c,e,?_⟩;have q:=x.cell y c e;rw[L9 S3 hp hu (by show scope.names.lookup y≠_;rw[k];decide)] at q;exact q
 ·exact e0.av.fresh (Jo (x.above y c (PySem.mem_of_lookup h)))
 ·unfold start;show _=N.length
  grind
theorem Rg{CX:ji}{P:Program}{w:World}{K:PySem.W.Frag}{mg:Str->Option Value}{base:Heap}{k:Nat}{f:Addr}{name qual:Str}{params:Arguments}{body:List Stmt}{scope:Scope}{dV kV doc pm aE ct oc:Value}{an od:Option Addr}
  {nM:Array (Option Value)}{N ps:List Str}{sp:Sp}(lk:K.lookup f=some ⟨oc,od,.func (fnOf name qual params body scope dV kV doc pm an aE ct),nM⟩)(jh:codeIn K aE qual=true)(S:aQ N ps scope)
  (len:∀vs H Q E,sp vs H Q E->vs.length=ps.length)
  (vH:∀(A:Around) (outer:List Env) (s:Shared) (H:Hp) (vs:List V) (Q:VK) (E:XK),c8 k (A.deeper (envOfC qual scope s.heap.objs.size f aE))->sp vs H Q E->
   ∃t,fY (lV CX P w K mg base N qual scope f aE A outer s H E) body t/\t {nx:=λ_ H'=>Q .aA H',rt:=Q} (start N vs) H):
  aG P w K mg base CX (k+1) f (fnOf name qual params body scope dV kV doc pm an aE ct) ps sp:=by
 refine⟨len,λA outer s H args us vs Q E hr e0 hb r lZ=>?_⟩;have hl:=len _ _ _ _ lZ;have KX:K.In s.heap:=e0.mod.qO.keeps λb o e=>(e0.bs b o e).1;have lim:s.heap.NoLimit:=e0.mod.nolimit.keeps λb o e=>(e0.bs b o e).1;have Zeh:∀y∈ps.zip us,scope.names.lookup y.1=some .local\/(scope.names.lookup y.1=some .cell/\((cellsFrom (s.heap.objs.size+1) scope.names []).lookup y.1).isSome=true):=λ⟨n,v⟩ hy=>by
  rcases S.par n (S2 hy).1 with q|q;·exact .inl q
  ·exact .inr ⟨q,cellsFrom_some _ _ _ (.inl q)⟩
 refine codeAny_call_function hr.depth (KX _ _ lk) rfl S.co S.gen rfl (PySem.W.codeRec_of KX jh) (hb _ _ _ _ ?_);refine wpAny_newFunctionEnv_cells S.kind Zeh λenv he s1 x=>?_;subst he;refine⟨lim.keeps x.toInCall.keep,codeAny_func ?_⟩;obtain⟨t,ht,hq⟩:=vH A outer s H vs Q E (hr.deeper _) lZ;have I:Inv (lV CX P w K mg base N qual scope f aE A outer s H E) [] (start N vs) H s1:=ZL S hr.hd e0 hl r x;refine wpAny_mono (ht [] s1 (start N vs) H _ I hq) (λfl s' hs=>?_) λe s' hs=>hs;have fin:∀{aB:St} {H':Hp} {v:V} {u:Value},Inv (lV CX P w K mg base N qual scope f aE A outer s H E) [] aB H' s'->RelV v u->Q v H'->CE outer P w H s Q u s':=
  λ{aB H' v u} J rv q=>⟨v,H',J.os,J.bare,J.base,J.av,rv,q⟩
 cases fl with
 |ret u=>
  obtain⟨v,aB,H',J,rv,q⟩:=hs;exact fin J rv q
 |next=>
  obtain⟨aB,H',J,q⟩:=hs;exact fin (v:=V.aA) (u:=Value.none) J rfl q
 |brk=>
  obtain⟨_,_,_,q⟩:=hs;exact False.elim q
 |cont=>
  obtain⟨_,_,_,q⟩:=hs;exact False.elim q
section
variable {X:Cx}{x:Str}{p pos:Pos}{e:Expr}{es:List Expr}{t:TA}{id T:String}{r:List V->Hp->VK->Prop}
def ph(r:List V->Hp->VK->Prop)(t:TA):TE:=λσ H Q=>t σ H λvs H1=>r vs H1 Q
theorem bJ(hc:cZ X (.builtin id) r)(hg:Gl X x)(hm:X.mg x=none)(hv:bootBuiltins x=some (.builtin id))(ha:PA X (e::es) t)(hn:x≠"__name__":=by decide)(kU:(x==("__debug__":Str))=false:=by decide)
  (he:starEach (e::es) X.env=(false,eval e X.env)::starEach es X.env:=by rfl)(c6:(backTo pos (starEach es X.env)).any (·.1)=false:=by rfl):PE X (.Call (.Name x p) (e::es) [] pos) (ph r t):=by
 intro pins s σ H Q I h;refine wpAny_Call_Name_kw (yy I hg hm hv ?_ hn kU);exact PyProof.Rows.callWith_builtin1 (az (ha pos pins s σ H _ I h) λus s1 ⟨vs,H1,I1,r1,q1⟩=>hc pins s1 σ H1 vs us Q I1 r1 q1) he c6
theorem eG(hc:cZ X (.type T) r)(hg:Gl X x)(hm:X.mg x=none)(hv:bootBuiltins x=some (.type T))(ha:PA X (e::es) t)(hn:x≠"__name__":=by decide)(kU:(x==("__debug__":Str))=false:=by decide)
  (he:starEach (e::es) X.env=(false,eval e X.env)::starEach es X.env:=by rfl)(c6:(backTo pos (starEach es X.env)).any (·.1)=false:=by rfl):PE X (.Call (.Name x p) (e::es) [] pos) (ph r t):=by
 intro pins s σ H Q I h;refine wpAny_Call_Name_kw (yy I hg hm hv ?_ hn kU);exact PyProof.Rows.callWith_type1 (az (ha pos pins s σ H _ I h) λus s1 ⟨vs,H1,I1,r1,q1⟩=>hc pins s1 σ H1 vs us Q I1 r1 q1) he c6
end
end L2
namespace HT
open PySem PyProof.Rows
section
open PySem.SeqAt
open PySem.AutoSeq1 (wpAny_loadPart')
open PySem.MeetsSeq PySem.MeetsSeq2 PySem.MeetsSeq3
end
section
variable {prog:Program}{w:World}{A:Around}{E:Value->Shared->Prop}{s:Shared}
theorem ZbN{t b:Addr}{vs ws:List Value}{Q:Value->Shared->Prop}(ht:IsTup s.heap t vs.toArray)(hb:IsTup s.heap b ws.toArray)(hv:vs≠[])
  (h1:ws=[]->Q (.ref t) s)(h2:ws≠[]->Q (.ref s.heap.objs.size) {s with heap:=s.heap.push {cls:=.type "tuple",data:=.seq (vs++ws).toArray}})
  (hsz:vs.length+ws.length<=sizeLine):wpAny (model prog w) A (binaryOp .Add (.ref t) (.ref b)) Q E s:=by
 obtain⟨⟨cls,dd,data,sl⟩,ho,hc,n,hd⟩:=id ht;obtain⟨⟨Zgw,S4,data2,S5⟩,zr,S6,n2,hd2⟩:=id hb;simp only at hc hd S6 hd2;subst hc hd S6 hd2;have e:vs.toArray++ws.toArray=(vs++ws).toArray:=by simp
 by_cases hw:ws=[]
 ·exact concat_meets ⟨_,ho,rfl⟩ ⟨_,zr,rfl⟩ noFill_tuple_add seq_tuple_add slot_tuple_add PySem.F.entry_tuple_add (PySem.F.args_tuple_add_2 _ _)
   (tuple_addW1 t b vs.toArray ws.toArray n n2 dd S4 sl S5 (by simpa using hv) (by simp[hw])) ⟨ho,zr,h1 hw⟩
 ·refine concat_meets ⟨_,ho,rfl⟩ ⟨_,zr,rfl⟩ noFill_tuple_add seq_tuple_add slot_tuple_add PySem.F.entry_tuple_add (PySem.F.args_tuple_add_2 _ _)
   (tuple_addW2 t b vs.toArray ws.toArray n n2 dd S4 sl S5 (by simpa using hv) (by simpa using hw) (by rw[Yt,Yt];exact hsz)) ⟨ho,zr,?_⟩
  rw[e];exact h2 hw
def fZ(n d:Nat):Option Int->Nat
 |none=>d
 |some v=>if v<0 then(v+(n:Int)).toNat else min v.toNat n
theorem ZbO(n d k:Nat):fZ n d (some (k:Int))=min k n:=by
 show(if(k:Int)<0 then((k:Int)+(n:Int)).toNat else min (k:Int).toNat n)=min k n;rfl
end
end HT
namespace L2
open PySem PySem.Spec PyProof.Rows
abbrev TO:=St->Hp->(Option Int->Hp->Prop)->Prop
def PO(X:Cx)(e:Option Expr)(t:TO):Prop:=
 ∀(pins:List (Addr×Obj)) (s:Shared) (σ:St) (H:Hp) (Q:Option Int->Hp->Prop),Inv X pins σ H s->t σ H Q->
  wpAny (model X.prog X.w) X.A (evalPart e X.env) (λu s'=>∃o H',Inv X pins σ H' s'/\IsPart u o/\Q o H') X.xe s
def ZbP:TO:=λ_ H Q=>Q none H
inductive Oq(Q:Option Int->Hp->Prop)(x:V)(H1:Hp):Prop
 |mk (i) (aC:x=.int i) (aV:Q (some i) H1):Oq Q x H1
def Zei(t:TE):TO:=λσ H Q=>t σ H λx H1=>Oq Q x H1
theorem intsAre_of{ns:List Int}:∀{us:List Value},Vals (ns.map V.int) us->IntsAre us ns:=by
 induction ns with
 |nil=>intro us r;rw[List.map_nil] at r;cases r;exact .nil
 |cons n ns ih=>
  intro us r;cases r with
  |cons r1 r2=>
   obtain⟨t,e⟩:=r1;subst e;exact .cons n t (ih r2)
section
variable {X:Cx}{e:Expr}{te:TE}{lo hi:Option Expr}{tl th:TO}{pos p2:Pos}
theorem Ot:PO X none ZbP:=by
 intro pins s σ H Q I h;exact wpAny_pure ⟨none,H,I,.none,h⟩
theorem Ou(h:PE X e te):PO X (some e) (Zei te):=by
 intro pins s σ H Q I hw;refine az (h pins s σ H _ I hw) λu s1 zq=>?_;obtain⟨x,H1,I1,r1,q1⟩:=zq;obtain⟨i,rfl,q⟩:=q1;obtain⟨t,rfl⟩:=r1;exact⟨some i,H1,I1,.int i t,q⟩
def tX(X:Cx)(r:V->Option Int->Option Int->Hp->VK->Prop):Prop:=
 ∀(pins:List (Addr×Obj)) (s:Shared) (σ:St) (H:Hp) (x:V) (v vl vu:Value) (lo hi:Option Int) (sl:Addr) (Q:VK),Inv X pins σ H s->RelV x v->s.heap.IsSliceOf sl vl vu .none->IsPart vl lo->IsPart vu hi->r x lo hi H Q->
  ∃T id,typeLookup (.type T) "__getitem__"=pure (some (.builtin id))/\s.TypeIs v T/\wpAny (model X.prog X.w) X.A (getItem v (.ref sl)) (EP X pins σ Q) X.xe s
def tSl(r:V->Option Int->Option Int->Hp->VK->Prop)(te:TE)(tl th:TO):TE:=λσ H Q=>te σ H λx H1=>tl σ H1 λl H2=>th σ H2 λu H3=>r x l u H3 Q
theorem M0{r:V->Option Int->Option Int->Hp->VK->Prop}(hr:tX X r)(he:PE X e te)(hl:PO X lo tl)(hu:PO X hi th):PE X (.Subscript e (.Slice lo hi none p2) pos) (tSl r te tl th):=by
 intro pins s σ H Q I h;refine Subscript_ (az (he pins s σ H _ I h) λv s1 zq=>?_);obtain⟨x,H1,I1,r1,q1⟩:=zq;refine wpAny_Slice (az (hl pins s1 σ H1 _ I1 q1) λvl s2 zq=>?_);obtain⟨l,H2,I2,pl,q2⟩:=zq;refine az (hu pins s2 σ H2 _ I2 q2) λvu s3 zq=>?_;obtain⟨u,H3,I3,pu,q3⟩:=zq;rw[evalPart_none];refine wpAny_pure ?_;have I4:Inv X pins σ H3 {s3 with heap:=s3.heap.push {cls:=.type "slice",data:=.fields #[vl,vu,.none]}}:=I3.kept (t':=s3.toks) λb ob q=>Yb _ q;obtain⟨T,id,hT,ht,hg⟩:=hr pins {s3 with heap:=s3.heap.push {cls:=.type "slice",data:=.fields #[vl,vu,.none]}} σ H3 x v vl vu l u s3.heap.objs.size Q I4 r1 (Heap.IsSliceOf.new ..) pl pu q3;show wpAny (model X.prog X.w) X.A (subscriptTail e (.Slice lo hi none p2) v (.ref s3.heap.objs.size)) (EP X pins σ Q) X.xe {s3 with heap:=s3.heap.push {cls:=.type "slice",data:=.fields #[vl,vu,.none]}};exact tail_any (ops:=[.ref s3.heap.objs.size,v]) ht hT hg (by with_unfolding_all rfl)
def nF(xs:List V)(lo hi:Option Int):List V:=(xs.drop (HT.fZ xs.length 0 lo)).take (HT.fZ xs.length xs.length hi-HT.fZ xs.length 0 lo)
theorem Lg(xs:List V)(lo hi:Option Int):(nF xs lo hi).length<=xs.length:=by
 unfold nF
 grind
def Zej(K:PySem.W.Frag):R2:=λx y H Q=>∃a b xs ys,x=.ref a/\y=.ref b/\ay K H a xs/\ay K H b ys/\xs≠[]/\xs.length+ys.length<=sizeLine/\
 (ys=[]->Q (.ref a) H)/\(ys≠[]->∀p,H p=none->Q (.ref p) (upd H p (.tup (xs++ys))))
theorem Vals.E_{xs:List V}{us:List Value}(r:Vals xs us):us=[]↔xs=[]:=by
 cases r with
 |nil=>simp
 |cons _ _=>simp
theorem ZbQ:cF X (binaryOp .Add) (Zej X.K):=by
 rintro pins s σ H x y v u Q I rx ry ⟨a,b,xs,ys,rfl,rfl,ha,hb,hx,hz,q1,q2⟩;cases rx;cases ry;obtain⟨ah,r1,p1,_⟩:=I.tuple ha;obtain⟨gX,r2,p2,_⟩:=I.tuple hb;refine HT.ZbN p1 p2 (λz=>hx (r1.E_.mp z)) (λz=>⟨.ref a,H,I,rfl,q1 (r2.E_.mp z)⟩) (λz=>⟨.ref s.heap.objs.size,_,I.laid (o:=.tup (xs++ys)) (λb ob q=>Yb _ q) (Yd _) ?_,rfl,q2 (λw=>z (r2.E_.mpr w)) _ (I.av.fresh (Yd _))⟩) (by rw[←r1.length,←r2.length];exact hz);exact⟨by rw[Yl];exact hz,_,r1.append r2,kz.new _ _⟩
end
def jX(n:Nat)(i:Int):Option Nat:=if 0<=i then(if i<n then some i.toNat else none) else if-(n:Int)<=i then some (i+n).toNat else none
def dI{α:Type}(xs:List α)(i:Int):Option α:=(jX xs.length i).bind λj=>xs[j]?
theorem Fb{n:Nat}{i:Int}{j:Nat}(h:jX n i=some j):seqIndex? i n=some j/\j<n/\-(n:Int)<=i/\i<n:=by
 unfold jX at h;by_cases h0:0<=i
 ·rw[if_pos h0] at h;by_cases h1:i<n
  ·rw[if_pos h1] at h;have e:=Ys h;exact⟨by rw[seqIndex_of h0 h1,e],by omega,by omega,h1⟩
  ·grind
 ·rw[if_neg h0] at h;by_cases h1:-(n:Int)<=i
  ·rw[if_pos h1] at h;have e:=Ys h;exact⟨by rw[seqIndex_neg (by omega) h1,e],by omega,h1,by omega⟩
  ·grind
theorem Fd{α:Type}{xs:List α}{i:Int}{v:α}(h:dI xs i=some v):∃j,seqIndex? i xs.length=some j/\xs[j]?=some v/\j<xs.length/\-(xs.length:Int)<=i/\i<xs.length:=by
 unfold dI at h;cases e:jX xs.length i with
 |none=>grind
 |some j=>
  obtain⟨h1,h2,h3,h4⟩:=Fb e
  grind
theorem gq{α:Type}{xs:List α}{j:Nat}{v:α}(h:xs[j]?=some v):dI xs (j:Int)=some v:=by
 have e:jX xs.length (j:Int)=some j:=by
  unfold jX
  grind
 unfold dI;rw[e];exact h
def ZbR(b:Expr):Prop:=∀o i,subscripted b false o i=operate [o,i] (getItem o i)
def jj(X:Cx)(r:R2):Prop:=
 ∀(value slice:Expr) (pins:List (Addr×Obj)) (s:Shared) (σ:St) (H:Hp) (x y:V) (v u:Value) (Q:VK),Inv X pins σ H s->RelV x v->RelV y u->r x y H Q->
  subscripted slice false v u=operate [v,u] (getItem v u)->wpAny (model X.prog X.w) X.A (subscriptTail value slice v u) (EP X pins σ Q) X.xe s
def S7(X:Cx)(id:String)(r:V->List V->Hp->VK->Prop):Prop:=
 ∀(pins:List (Addr×Obj)) (s:Shared) (σ:St) (H:Hp) (x:V) (xs:List V) (v:Value) (us:List Value) (Q:VK),Inv X pins σ H s->RelV x v->Vals xs us->r x xs H Q->
  wpAny (model X.prog X.w) X.A (call (.builtin id) (v::us)) (EP X pins σ Q) X.xe s
section
variable {X:Cx}{a b:Expr}{ta tb:TE}{pos:Pos}
theorem jj.or{r r':R2}(h:jj X r)(h':jj X r'):jj X (λx y H Q=>r x y H Q\/r' x y H Q):=by
 intro value slice pins s σ H x y v u Q I rx ry q hs;rcases q with q|q;·exact h value slice pins s σ H x y v u Q I rx ry q hs
 ·exact h' value slice pins s σ H x y v u Q I rx ry q hs
theorem a9{r:R2}(hr:jj X r)(ha:PE X a ta)(hb:PE X b tb)(hs:ZbR b):PE X (.Subscript a b pos) (jW r ta tb):=by
 intro pins s σ H Q I h;exact Subscript_ (GK ha hb I h λv u s2 x y H2 I2 rx ry q=>hr a b pins s2 σ H2 x y v u Q I2 rx ry q (hs _ _))
inductive PY(K:PySem.W.Frag)(x:V)(y:V)(H:Hp)(Q:VK):Prop
 |mk (p xs i v) (aC:x=.ref p) (aV:y=.int i) (bc:ak K H p xs) (bO:dI xs i=some v) (cG:Q v H):PY K x y H Q
def vU(K:PySem.W.Frag):R2:=λx y H Q=>PY K x y H Q
inductive PZ(K:PySem.W.Frag)(x:V)(y:V)(H:Hp)(Q:VK):Prop
 |mk (p xs i v) (aC:x=.ref p) (aV:y=.int i) (bc:ay K H p xs) (bO:dI xs i=some v) (cG:Q v H):PZ K x y H Q
def GO(K:PySem.W.Frag):R2:=λx y H Q=>PZ K x y H Q
inductive P0(x:V)(y:V)(H:Hp)(Q:VK):Prop
 |mk (z i c) (aC:x=.str z) (aV:y=.int i) (bc:z.length<=sizeLine) (bO:dI z.cps.toList i=some c) (cG:Q (.str ⟨#[c]⟩) H):P0 x y H Q
def RZ:R2:=λx y H Q=>P0 x y H Q
theorem Fe:jj X (vU X.K):=by
 intro value slice pins s σ H x y v u Q I rx ry h hs;obtain⟨p,xs,i,z,rfl,rfl,hq,he,q⟩:=h;cases rx;obtain⟨t,rfl⟩:=ry;obtain⟨ah,r,pl,hz⟩:=I.list hq;obtain⟨j,h1,h2,h3,h4,h5⟩:=Fd he;obtain⟨w,ew,fM⟩:=r.get h2;have hl:=r.length;have hn:=qg;have fin:EP X pins σ Q w s:=⟨z,H,I,fM,q⟩;by_cases h0:0<=i
 ·have hj:i.toNat=j:=by
   rw[seqIndex_of h0 h5] at h1;exact Ys h1
  exact item_listR pl.isList h0 (by omega) (by rw[hj];simpa using ew) fin hs
 ·have hj:(i+(ah.toArray.size:Int)).toNat=j:=by
   rw[seqIndex_neg (by omega) h4] at h1
   grind
  exact subscriptTail_builtinR (x:=w) pl.isList.typeIs slot_list_getitem.lookup
   (wpAny_getItem_list_neg pl.isList (by omega) (by rw[Yt]<;>omega) (by omega) (by rw[hj];simpa using ew) ⟨rfl,fin⟩) hs
theorem P1:jj X (GO X.K):=by
 intro value slice pins s σ H x y v u Q I rx ry h hs;obtain⟨p,xs,i,z,rfl,rfl,hq,he,q⟩:=h;cases rx;obtain⟨t,rfl⟩:=ry;obtain⟨ah,r,pl,hz⟩:=I.tuple hq;obtain⟨j,h1,h2,h3,h4,h5⟩:=Fd he;obtain⟨w,ew,fM⟩:=r.get h2;have hn:=qg;exact subscriptTail_builtinR pl.typeIs slot_tuple_getitem.lookup
  (getItem_tuple pl (by omega) (by omega) (by rw[Yt,←r.length];exact h1) (by simpa using ew) ⟨rfl,⟨z,H,I,fM,q⟩⟩) hs
theorem vv:jj X RZ:=by
 intro value slice pins s σ H x y v u Q I rx ry h hs;obtain⟨z,i,c,rfl,rfl,hz,he,q⟩:=h;obtain⟨t,rfl⟩:=rx;obtain⟨t',rfl⟩:=ry;obtain⟨j,h1,h2,h3,h4,h5⟩:=Fd he;have hl:z.cps.toList.length=z.length:=by simp[Str.length]
 rw[hl] at h1 h4 h5;have hn:=qg;exact tail_any (typeIs_str s z t) slot_str_getitem.lookup (getItem_str (by
  rw[(decide_eq_false (by omega)),(decide_eq_false (by omega)),Bool.or_false]) (by rw[h1];simpa using h2) ⟨.str ⟨#[c]⟩,H,I.tok _,⟨_,rfl⟩,q⟩) hs
def Ho(K:PySem.W.Frag):R2:=λx y H Q=>vU K x y H Q\/GO K x y H Q\/RZ x y H Q
theorem Zc4:jj X (Ho X.K):=Fe.or (P1.or vv)
theorem YK(ah:List Value)(n j:Nat)(u:Value):Obj.mapSeq (·.setIfInBounds j u) {cls:=.type "list",data:=.seq ah.toArray n}={cls:=.type "list",data:=.seq (ah.set j u).toArray n}:=by
 simp[Obj.mapSeq]
theorem Inv.lst{pins:List (Addr×Obj)}{σ:St}{H:Hp}{s:Shared}{p:Addr}{xs:List V}(I:Inv X pins σ H s)(h:H p=some (.lst xs)):
  ∃(ah:List Value) (n:Nat),Vals xs ah/\s.heap.get? p=some {cls:=.type "list",data:=.seq ah.toArray n}/\xs.length<=sizeLine:=by
 obtain⟨z,ah,n,r,e⟩:=I.av p _ h
 grind
theorem Inv.Zc5{pins:List (Addr×Obj)}{σ:St}{H:Hp}{s:Shared}{p:Addr}{xs ys:List V}{ah its':List Value}{n n':Nat}{f:Obj->Obj}(I:Inv X pins σ H s)(h:H p=some (.lst xs))
  (ho:s.heap.get? p=some {cls:=.type "list",data:=.seq ah.toArray n})(hf:f {cls:=.type "list",data:=.seq ah.toArray n}={cls:=.type "list",data:=.seq its'.toArray n'})(r:Vals ys its')(hz:ys.length<=sizeLine)(t:Nat):
  Inv X pins σ (upd H p (.lst ys)) {s with heap:=s.heap.update p f,toks:=t}:=by
 have e:(s.heap.update p f).get? p=some {cls:=.type "list",data:=.seq its'.toArray n'}:=by
  rw[Jv f ho (by rw[hf]<;>rfl),hf]
 refine I.write (x:=p) (e:=p) (by rw[h];trivial) (.inl rfl) (λb u hb q=>(Heap.get?_update_other _ _ (Ne.symm hb)).trans q) ⟨_,e⟩ ?_;exact⟨hz,its',n',r,e⟩
def Zek:V->V->V->Hp->(Hp->Prop)->Prop:=λo i v H Q=>∃p xs k j,o=.ref p/\i=.int k/\H p=some (.lst xs)/\jX xs.length k=some j/\Q (upd H p (.lst (xs.set j v)))
theorem set_list:qz X Zek:=by
 rintro pins s σ H o i v ov iv u Q I ro ri rv ⟨p,xs,k,j,rfl,rfl,hp,hj,q⟩;cases ro;obtain⟨t,rfl⟩:=ri;obtain⟨ah,n,r,ho,hz⟩:=I.lst hp;obtain⟨h1,h2,h3,h4⟩:=Fb hj;have hl:=r.length;have hn:=qg;have I':Inv X pins σ (upd H p (.lst (xs.set j v))) {s with heap:=s.heap.update p (Obj.mapSeq (·.setIfInBounds j u))}:=
  I.Zc5 hp ho (YK ah n j u) (r.set rv j) (by rw[Ja];exact hz) s.toks
 by_cases h0:0<=k
 ·have hk:k.toNat=j:=by
   rw[seqIndex_of h0 h4] at h1
   grind
  exact PySem.W.ki_setAt ho h0 (by omega) (by rw[Yt,←hl];exact h4) (by rw[hk];exact⟨_,I',q⟩)
 ·have hk:(k+(ah.toArray.size:Int)).toNat=j:=by
   rw[seqIndex_neg (by omega) h3] at h1
   grind
  exact PySem.W.ki_setBack ho (by omega) (by rw[Yt,←hl];exact h3) (by omega) (by rw[hk];exact⟨_,I',q⟩)
theorem WU(lo hi:Option Int)(n:Nat):(sliceBounds lo hi none n).1=((HT.fZ n 0 lo:Nat):Int)/\(sliceBounds lo hi none n).2.1=((HT.fZ n n hi:Nat):Int)/\(sliceBounds lo hi none n).2.2=1:=by
 refine⟨?_,?_,rfl⟩
 ·cases lo with
  |none=>rfl
  |some i=>
   simp only[sliceBounds,HT.fZ]
   grind
 ·cases hi with
  |none=>rfl
  |some i=>
   simp only[sliceBounds,HT.fZ]
   grind
theorem V5(ah:List Value)(lo hi:Option Int):slicePick ah.toArray lo hi none=((ah.drop (HT.fZ ah.length 0 lo)).take (HT.fZ ah.length ah.length hi-HT.fZ ah.length 0 lo)).toArray:=by
 obtain⟨h1,h2,h3⟩:=WU lo hi ah.toArray.size;unfold slicePick;rw[h1,h2,h3];simp only[sliceRange_one,pick_run]<;>rfl
def Ze7(K:PySem.W.Frag):V->Option Int->Option Int->Hp->VK->Prop:=λx lo hi H Q=>∃a xs,x=.ref a/\ak K H a xs/\∀p,H p=none->Q (.ref p) (upd H p (.lst (nF xs lo hi)))
theorem ZbS:tX X (Ze7 X.K):=by
 rintro pins s σ H x v vl vu lo hi sl Q I rx hs pl pu ⟨a,xs,rfl,hx,q⟩;cases rx;obtain⟨ah,r,ht,hz⟩:=I.list hx;have hlen:=r.length;refine⟨"list",_,slot_list_getitem.lookup,ht.isList.typeIs,wpAny_getItem_list_slice ht.isList hs pl pu .none (by simp) ?_ (by rw[Yt]<;>omega)⟩;rw[V5,←hlen];refine⟨.ref s.heap.objs.size,_,I.laid (o:=.lst (nF xs lo hi)) (λb ob q=>Yb _ q) (Yd _) ?_,rfl,q _ (I.av.fresh (Yd _))⟩;exact⟨Y4 (Lg xs lo hi) hz,_,0,(r.drop (HT.fZ xs.length 0 lo)).take (HT.fZ xs.length xs.length hi-HT.fZ xs.length 0 lo),Yn _ rfl⟩
def ij:V->Bool
 |.aA=>true
 |.bl _=>true
 |.int _=>true
 |.str _=>true
 |_=>false
def iO:V->V->Bool
 |.aA,.aA=>true
 |.bl a,.bl b=>a==b
 |.bl a,.int b=>(if a then 1 else 0)==b
 |.int a,.bl b=>a==(if b then 1 else 0)
 |.int a,.int b=>a==b
 |.str a,.str b=>a==b
 |_,_=>false
theorem P2{A:Around}{s:Shared}{y x:V}{u v:Value}(ry:RelV y u)(rx:RelV x v)(fy:ij y=true)(fx:ij x=true):SeqAt.EqAt A s u v (iO y x):=by
 cases y with
 |aA=>
  cases ry;cases x with
  |aA=>cases rx;exact SeqAt.EqAt.same _
  |bl b=>cases rx;exact SeqAt.EqAt.none_bool b
  |int b=>obtain⟨t,rfl⟩:=rx;exact SeqAt.EqAt.none_int b t
  |str b=>obtain⟨t,rfl⟩:=rx;exact SeqAt.EqAt.none_str b t
  |_=>exact absurd (show false=true from fx) Yi
 |bl a=>
  cases ry;cases x with
  |aA=>cases rx;exact SeqAt.EqAt.bool_none a
  |bl b=>cases rx;exact SeqAt.EqAt.bool_bool a b
  |int b=>obtain⟨t,rfl⟩:=rx;exact SeqAt.EqAt.bool_int a b t
  |str b=>obtain⟨t,rfl⟩:=rx;exact SeqAt.EqAt.bool_str a b t
  |_=>exact absurd (show false=true from fx) Yi
 |int a=>
  obtain⟨t',rfl⟩:=ry;cases x with
  |aA=>cases rx;exact SeqAt.EqAt.int_none a t'
  |bl b=>cases rx;exact SeqAt.EqAt.int_bool a t' b
  |int b=>obtain⟨t,rfl⟩:=rx;exact SeqAt.EqAt.int_int a t' b t
  |str b=>obtain⟨t,rfl⟩:=rx;exact SeqAt.EqAt.int_str a t' b t
  |_=>exact absurd (show false=true from fx) Yi
 |str a=>
  obtain⟨t',rfl⟩:=ry;cases x with
  |aA=>cases rx;exact SeqAt.EqAt.str_none a t'
  |bl b=>cases rx;exact SeqAt.EqAt.str_bool a t' b
  |int b=>obtain⟨t,rfl⟩:=rx;exact SeqAt.EqAt.str_int a t' b t
  |str b=>obtain⟨t,rfl⟩:=rx;exact SeqAt.EqAt.str_str a t' b t
  |_=>exact absurd (show false=true from fx) Yi
 |_=>exact absurd (show false=true from fy) Yi
def gG(x:V)(u:Value):Bool:=match u with
 |.none=>iO .aA x
 |.bool b=>iO (.bl b) x
 |.int i _=>iO (.int i) x
 |.str z _=>iO (.str z) x
 |_=>false
theorem P4{x y:V}{u:Value}(r:RelV y u)(f:ij y=true):gG x u=iO y x:=by
 cases y with
 |aA=>cases r;rfl
 |bl b=>cases r;rfl
 |int i=>obtain⟨t,rfl⟩:=r;rfl
 |str z=>obtain⟨t,rfl⟩:=r;rfl
 |_=>exact absurd (show false=true from f) Yi
theorem u_{x:V}:∀{xs:List V} {us:List Value},Vals xs us->xs.all ij=true->us.any (gG x)=xs.any λy=>iO y x
 |_,_,.nil,_=>rfl
 |y::xs,u::us,.cons r t,f=>by
  rw[Jc,Wm] at f;rw[Jh,Jh,P4 r f.1,u_ t f.2]
theorem u6{A:Around}{s:Shared}{x:V}{v:Value}(rx:RelV x v)(fx:ij x=true):∀{xs:List V} {us:List Value},Vals xs us->xs.all ij=true->∀u∈us,SeqAt.EqAt A s u v (gG x u):=by
 intro xs us h;induction h with
 |nil=>intro _ u hu;cases hu
 |cons r t ih=>
  intro f u' hu;rw[Jc,Wm] at f;rcases Yp.mp hu with rfl|hu;·rw[P4 r f.1];exact P2 r rx f.1 fx
  ·exact ih f.2 u' hu
def eO(x:V)(xs:List V):Bool:=xs.any λy=>iO y x
def wm(K:PySem.W.Frag)(neg:Bool):R2:=λx y H Q=>∃p xs,y=.ref p/\(ak K H p xs\/ay K H p xs)/\ij x=true/\xs.all ij=true/\Q (.bl (if neg then !eO x xs else eO x xs)) H
theorem ZM:cF X (compareOp .In) (wm X.K false):=by
 rintro pins s σ H x y v u Q I rx ry ⟨p,xs,rfl,hq,fx,fs,q⟩;cases ry;rcases hq with hq|hq
 ·obtain⟨ah,r,pl,hz⟩:=I.list hq;refine SeqAt.in_listAt (gG x) pl.isList (λw hw=>u6 rx fx r fs w (by simpa using hw)) ⟨.bl _,H,I,rfl,?_⟩;rw[show ah.toArray.any (gG x)=ah.any (gG x) by simp,u_ r fs];exact q
 ·obtain⟨ah,r,pl,hz⟩:=I.tuple hq;refine SeqAt.in_tupleAt (gG x) pl (λw hw=>u6 rx fx r fs w (by simpa using hw)) ⟨.bl _,H,I,rfl,?_⟩;rw[show ah.toArray.any (gG x)=ah.any (gG x) by simp,u_ r fs];exact q
theorem WV:cF X (compareOp .NotIn) (wm X.K true):=by
 rintro pins s σ H x y v u Q I rx ry ⟨p,xs,rfl,hq,fx,fs,q⟩;cases ry;rcases hq with hq|hq
 ·obtain⟨ah,r,pl,hz⟩:=I.list hq;refine SeqAt.notIn_listAt (gG x) pl.isList (λw hw=>u6 rx fx r fs w (by simpa using hw)) ⟨.bl _,H,I,rfl,?_⟩;rw[show ah.toArray.any (gG x)=ah.any (gG x) by simp,u_ r fs];exact q
 ·obtain⟨ah,r,pl,hz⟩:=I.tuple hq;refine SeqAt.notIn_tupleAt (gG x) pl (λw hw=>u6 rx fx r fs w (by simpa using hw)) ⟨.bl _,H,I,rfl,?_⟩;rw[show ah.toArray.any (gG x)=ah.any (gG x) by simp,u_ r fs];exact q
theorem K9:cZ X (.builtin "len") (λxs H Q=>∃p ys,xs=[.ref p]/\(ak X.K H p ys\/ay X.K H p ys)/\Q (.int ys.length) H):=by
 rintro pins s σ H xs us Q I r ⟨p,ys,rfl,hq,q⟩;obtain⟨u,rfl,rx⟩:=vals1 r;cases rx;have hn:=qg;rcases hq with hq|hq
 ·obtain⟨ah,r',pl,hz⟩:=I.list hq;have hlen:=r'.length;exact Calls.call_len_list pl.isList (by simp only[Yt]<;>omega) ⟨.int ys.length,H,I.tok _,⟨s.toks+1,by rw[Yt,hlen]⟩,q⟩
 ·obtain⟨ah,r',pl,hz⟩:=I.tuple hq;have hlen:=r'.length;exact len_tuple pl (by simp only[Yt]<;>omega) ⟨.int ys.length,H,I.tok _,⟨s.toks+1,by rw[Yt,hlen]⟩,q⟩
theorem WW:cZ X (.builtin "len") (λxs H Q=>∃z,xs=[.str z]/\z.length<=sizeLine/\Q (.int z.length) H):=by
 rintro pins s σ H xs us Q I r ⟨z,rfl,hz,q⟩;obtain⟨u,rfl,t,rfl⟩:=vals1 r;have hn:=qg;exact len_str (by omega) ⟨.int z.length,H,I.tok _,⟨_,rfl⟩,q⟩
theorem rM:cZ X (.type "tuple") (λxs H Q=>∃p ys,xs=[.ref p]/\((ak X.K H p ys/\∀l,H l=none->Q (.ref l) (upd H l (.tup ys)))\/(ay X.K H p ys/\Q (.ref p) H))):=by
 rintro pins s σ H xs us Q I r ⟨p,ys,rfl,h⟩;obtain⟨u,rfl,rx⟩:=vals1 r;cases rx;rcases h with⟨hq,q⟩|⟨hq,q⟩
 ·obtain⟨ah,r',pl,hz⟩:=I.list hq;have hlen:=r'.length;refine call_tuple_list pl.isList (λh' kp=>?_) (by simp only[Yt]<;>omega);have I1:=I.kept (t':=s.toks) kp;have I2:Inv X pins σ (upd H h'.objs.size (.tup ys)) {s with heap:=h'.push {cls:=.type "tuple",data:=.seq ah.toArray}}:=
   I1.laid (λb o e=>Yb _ e) (Yd _) (show cI X.prog X.w _ _ _ (.tup ys) from⟨hz,ah,r',kz.new _ _⟩)
  exact⟨.ref h'.objs.size,_,I2,rfl,q _ (I1.av.fresh (Yd _))⟩
 ·obtain⟨ah,r',pl,hz⟩:=I.tuple hq;exact call_tuple_same pl ⟨.ref p,H,I,rfl,q⟩
def Hq(K:PySem.W.Frag)(T:String)(x:V)(H:Hp):Prop:=match x with
 |.str _=>T="str"
 |.int _=>T="int"
 |.ref p=>(T="list"/\∃xs,ak K H p xs)\/(T="tuple"/\∃o,K.lookup p=some o/\o.cls=.type "tuple"/\o.dict=none)\/
   (T="dict"/\((∃kvs,H p=some (.dK kvs))\/∃kvs,H p=some (.dT kvs)))\/(T="set"/\∃S n,H p=some (.set S n))
 |_=>False
theorem P5{pins:List (Addr×Obj)}{σ:St}{H:Hp}{s:Shared}{T:String}{x:V}{v:Value}(I:Inv X pins σ H s)(r:RelV x v)(ty:Hq X.K T x H):
  s.TypeIs v T/\∀a,v=.ref a->∃ob,s.heap.get? a=some ob/\ob.dict=none:=by
 cases x with
 |str z=>
  obtain⟨t,rfl⟩:=r;cases(show T="str" from ty);exact⟨typeIs_str s z t,λ_ e=>nomatch e⟩
 |int i=>
  obtain⟨t,rfl⟩:=r;cases(show T="int" from ty);exact⟨typeIs_int s i t,λ_ e=>nomatch e⟩
 |ref p=>
  cases r;rcases ty with⟨rfl,xs,hq⟩|⟨rfl,o,hk,hc,hd⟩|⟨rfl,hk⟩|⟨rfl,S,n,hk⟩
  ·obtain⟨ah,_,pl,_⟩:=I.list hq;refine⟨pl.isList.typeIs,λa e=>?_⟩;obtain⟨o,n,e,c,hd,_⟩:=pl
   grind
  ·refine⟨⟨o,I.dA p o hk,hc⟩,λa e=>?_⟩;cases e;exact⟨o,I.dA _ o hk,hd⟩
  ·have z:∃o,s.heap.get? p=some o/\o.ExactDict:=by
    rcases hk with⟨kvs,hk⟩|⟨kvs,hk⟩
    ·obtain⟨_,_,_,_,o,_,_,e,ex,_⟩:=I.av p _ hk;exact⟨o,e,ex⟩
    ·obtain⟨_,_,_,_,o,_,_,e,ex,_⟩:=I.av p _ hk;exact⟨o,e,ex⟩
   obtain⟨o,e,ex⟩:=z;refine⟨⟨o,e,ex.1⟩,λa e2=>?_⟩;cases e2;exact⟨o,e,ex.2.1⟩
  ·obtain⟨o,_,_,_,e,ex,_⟩:=I.av p _ hk;refine⟨⟨o,e,ex.1⟩,λa e2=>?_⟩;cases e2;exact⟨o,e,ex.2.1⟩
 |_=>exact False.elim ty
def GP(K:PySem.W.Frag)(T:String)(r:V->List V->Hp->VK->Prop)(to:TE):TE:=λσ H Q=>to σ H λx H1=>Hq K T x H1/\r x [] H1 Q
def wo(K:PySem.W.Frag)(T:String)(r:V->List V->Hp->VK->Prop)(to:TE)(t:TA):TE:=λσ H Q=>to σ H λx H1=>Hq K T x H1/\t σ H1 λxs H2=>r x xs H2 Q
variable {o e:Expr}{es:List Expr}{to:TE}{t:TA}{name:Str}{apos cv:Pos}{T id:String}{r:V->List V->Hp->VK->Prop}
theorem Zc6(pa:PlainAttrs T)(slot:Slot T name id)(Hs:typeOf (.builtin id)=pure (.type "method_descriptor"))(hm:S7 X id r)(ho:PE X o to)
  (m9:attributeBase o name X.env (eval o X.env)=eval o X.env:=by rfl)(m_:(apos.endLine==cv.line)=true:=by rfl):PE X (.Call (.Attribute o name apos) [] [] cv) (GP X.K T r to):=by
 intro pins s σ H Q I h;refine wpAny_Call_method0_late m9 m_ (az (ho pins s σ H _ I h) λv s1 zq=>?_);obtain⟨x,H1,I1,r1,ty,q1⟩:=zq;obtain⟨h1,h2⟩:=P5 I1 r1 ty;exact⟨T,id,pa,slot,Hs,h1,h2,Calls.callWith_builtin rfl (PySem.evalArgs_none (hm pins s1 σ H1 x [] v [] Q I1 r1 .nil q1))⟩
theorem jO(pa:PlainAttrs T)(slot:Slot T name id)(Hs:typeOf (.builtin id)=pure (.type "method_descriptor"))(hm:S7 X id r)(ho:PE X o to)(ha:PA X (e::es) t)
  (m9:attributeBase o name X.env (eval o X.env)=eval o X.env:=by rfl)
  (GQ:((backTo cv (starEach (e::es) X.env)).all (λx=>!x.1)&&(backToKw cv (keywordEach [] X.env)).all (λx=>x.1.isSome)
   &&decide ((e::es).length+([]:List Keyword).length+(if([]:List Keyword).isEmpty then 0 else 1)<30))=true:=by rfl)
  (m_:(apos.endLine==cv.line)=true:=by rfl)(hs:starEach (e::es) X.env=(false,eval e X.env)::starEach es X.env:=by rfl)(Zc7:(backTo cv (starEach es X.env)).any (·.1)=false:=by rfl):
  PE X (.Call (.Attribute o name apos) (e::es) [] cv) (wo X.K T r to t):=by
 intro pins s σ H Q I h;refine wpAny_Call_method_late m9 GQ m_ rfl (az (ho pins s σ H _ I h) λv s1 zq=>?_);obtain⟨x,H1,I1,r1,ty,q1⟩:=zq;obtain⟨h1,h2⟩:=P5 I1 r1 ty;refine⟨T,id,pa,slot,Hs,h1,h2,?_⟩;have hA:=ha cv pins s1 σ H1 _ I1 q1;rw[hs] at hA⊢;exact Calls.callWith_builtin (by show(false||(backTo cv (starEach es X.env)).any (·.1))=false;rw[Zc7]<;>rfl) (Calls.evalArgs_plain (az hA λus s2 ⟨vs,H2,I2,r2,q2⟩=>hm pins s2 σ H2 x vs v us Q I2 r1 r2 q2))
end
def l4(X:Cx)(id:String)(r:V->List V->Hp->VK->Prop):Prop:=
 ∀(pins:List (Addr×Obj)) (s:Shared) (σ:St) (H:Hp) (x:V) (xs:List V) (v:Value) (us:List Value) (Q:VK),Inv X pins σ H s->RelV x v->Vals xs us->r x xs H Q->
  wpAny (model X.prog X.w) X.A (call (.builtin id) (v::us)) (EP X pins σ Q) X.xe s
theorem Vals.one:∀{x:V} {us:List Value},Vals [x] us->∃u,us=[u]/\RelV x u:=by
 intro x us h;cases h with
 |cons r t=>
  cases t;exact⟨_,rfl,r⟩
theorem Vals.zero:∀{us:List Value},Vals [] us->us=[]
 |_,.nil=>rfl
theorem Vals.eraseIdx:∀{xs:List V} {us:List Value} (i:Nat),Vals xs us->Vals (xs.eraseIdx i) (us.eraseIdx i)
 |_,_,_,.nil=>.nil
 |_,_,0,.cons _ t=>t
 |_,_,i+1,.cons r t=>.cons r (Vals.eraseIdx i t)
theorem ZN{α:Type}:∀(l:List α) (i:Nat),(l.eraseIdx i).length<=l.length
 |[],_=>Yd _
 |_::_,0=>Hn _
 |_::r,i+1=>Nat.succ_le_succ (ZN r i)
section
variable {X:Cx}{pins:List (Addr×Obj)}{σ:St}{H:Hp}{s:Shared}{l b:Addr}{xs ys zs:List V}
theorem Inv.yU{ah its':List Value}{n:Nat}{f:Array Value->Array Value}{t':Nat}(I:Inv X pins σ H s)(hH:H l=some (.lst xs))
  (e:s.heap.get? l=some {cls:=.type "list",data:=.seq ah.toArray n})(hf:f ah.toArray=its'.toArray)(hv:Vals ys its')(hz:ys.length<=sizeLine):
  Inv X pins σ (upd H l (.lst ys)) {s with heap:=s.heap.update l (Obj.mapSeq f),toks:=t'}:=by
 have q:=PySem.IsL.update e f;rw[hf] at q;refine I.write (by rw[hH];exact trivial) (.inl rfl) (λb' u hb hu=>(Heap.get?_update_other s.heap (Obj.mapSeq f) (Ne.symm hb)).trans hu) ⟨_,q⟩ ?_;exact⟨hz,its',_,hv,q⟩
theorem Inv.Ze8{ah:List Value}{t':Nat}(I:Inv X pins σ H s)(hv:Vals ys ah)(hz:ys.length<=sizeLine):
  Inv X pins σ (upd H s.heap.objs.size (.lst ys)) {s with heap:=s.heap.push {cls:=.type "list",data:=.seq ah.toArray},toks:=t'}:=
 I.laid (λ_ _ q=>Yb _ q) (Yd _) ⟨hz,ah,0,hv,Yn _ rfl⟩
theorem Inv.fresh(I:Inv X pins σ H s):H s.heap.objs.size=none:=I.av.fresh (Yd _)
theorem Inv.qD(I:Inv X pins σ H s)(hH:H l=some (.lst xs)):xs.length<=sizeLine/\∃(ah:List Value) (n:Nat),Vals xs ah/\xs.length=ah.length/\s.heap.get? l=some {cls:=.type "list",data:=.seq ah.toArray n}:=by
 obtain⟨z,ah,n,r,e⟩:=I.av l _ hH;exact⟨z,ah,n,r,r.length,e⟩
theorem ZaB{n:Nat}(h:n<=sizeLine):Builtin.List.listTooLong n=false:=by
 exact decide_eq_false (by omega)
end
section
variable {X:Cx}
def ZbT:V->List V->Hp->VK->Prop:=λx vs H Q=>∃l xs y,x=.ref l/\vs=[y]/\H l=some (.lst xs)/\xs.length<sizeLine/\Q .aA (upd H l (.lst (xs++[y])))
theorem uZ:l4 X "list.append" ZbT:=by
 intro pins s σ H x vs v us Q I rx rv h;obtain⟨l,xs,y,rfl,rfl,hH,hz,q⟩:=h;cases rx;obtain⟨u,rfl,ru⟩:=rv.one;obtain⟨z,ah,n,r,hl,e⟩:=I.qD hH;refine call_meets F.slot_list_append ⟨_,e,rfl⟩ F.entry_list_append (F.args_list_append_2 _ _) (PySem.list_append l ah.toArray n u (by rw[Yt];omega)) ⟨e,?_⟩;refine⟨.aA,_,I.yU (its':=ah++[u]) hH e (by simp) (r.append (.cons ru .nil)) ?_,rfl,q⟩
 grind
def ZbU:V->List V->Hp->VK->Prop:=λx vs H Q=>∃l b xs zs,x=.ref l/\vs=[.ref b]/\H l=some (.lst xs)/\H b=some (.lst zs)/\xs.length+zs.length<=sizeLine/\Q .aA (upd H l (.lst (xs++zs)))
theorem ZO:l4 X "list.extend" ZbU:=by
 rintro pins s σ H x vs v us Q I rx rv ⟨l,b,xs,zs,rfl,rfl,hH,hB,hz,q⟩;cases rx;obtain⟨u,rfl,ru⟩:=rv.one;cases ru;obtain⟨z,ah,n,r,hl,e⟩:=I.qD hH;obtain⟨z2,gX,n2,r2,tY,e2⟩:=I.qD hB;have hsz:ah.toArray.size+gX.toArray.size<=sizeLine:=by rw[Yt,Yt];omega
 have Zel:¬(!ah.toArray.isEmpty&&Builtin.List.listTooLong (ah.toArray.size+gX.toArray.size))=true:=by
  rw[ZaB hsz,Bool.and_false]
  grind
 refine call_meets F.slot_list_extend ⟨_,e,rfl⟩ F.entry_list_extend (F.args_list_extend_2 _ _)
  (AutoSeq1.list_extend_list_list_0 l ah.toArray n b gX.toArray n2 Zel (by rw[Yt];omega) (by omega)) ⟨e,e2,?_⟩
 refine⟨.aA,_,I.yU hH e (by simp) (r.append r2) ?_,rfl,q⟩
 grind
def Zc8:V->List V->Hp->VK->Prop:=λx vs H Q=>∃l xs i k y,x=.ref l/\vs=[.int i]/\H l=some (.lst xs)/\-(2^63)<=i/\i<2^63/\seqIndex? i xs.length=some k/\xs[k]?=some y/\Q y (upd H l (.lst (xs.eraseIdx k)))
theorem ZaC:l4 X "list.pop" Zc8:=by
 rintro pins s σ H x vs v us Q I rx rv ⟨l,xs,i,k,y,rfl,rfl,hH,h1,h2,hk,hy,q⟩;cases rx;obtain⟨u,rfl,ru⟩:=rv.one;obtain⟨t,rfl⟩:=ru;obtain⟨z,ah,n,r,hl,e⟩:=I.qD hH;obtain⟨w,hw,fM⟩:=r.get hy;refine call_meets F.slot_list_pop ⟨_,e,rfl⟩ F.entry_list_pop (F.args_list_pop_2 _ _)
  (MeetsSeq.list_pop_at l ah.toArray n i t k w (fitsIndex_both h1 h2) (by rw[Yt,←hl];exact hk) (by rw[←Jw];exact hw) (by rw[Yt];omega)) ⟨e,?_⟩
 refine⟨y,_,I.yU hH e ?_ (r.eraseIdx k) ?_,fM,q⟩;·grind
 ·grind
def Zc9:V->List V->Hp->VK->Prop:=λx vs H Q=>∃l xs,x=.ref l/\vs=[]/\H l=some (.lst xs)/\Q .aA (upd H l (.lst []))
theorem ZaD:l4 X "list.clear" Zc9:=by
 rintro pins s σ H x vs v us Q I rx rv ⟨l,xs,rfl,rfl,hH,q⟩;cases rx;have hus:=rv.zero;subst hus;obtain⟨z,ah,n,r,hl,e⟩:=I.qD hH;exact call_meets F.slot_list_clear ⟨_,e,rfl⟩ F.entry_list_clear (F.args_list_clear_1 _) (AutoSeq1.list_clear_list_0 l ah.toArray n (by rw[Yt];omega)) ⟨e,⟨.aA,_,I.yU hH e rfl .nil (Yw _),rfl,q⟩⟩
def Ze9:R2:=λx y H Q=>∃l b xs zs,x=.ref l/\y=.ref b/\H l=some (.lst xs)/\H b=some (.lst zs)/\xs.length+zs.length<=sizeLine/\∀p,H p=none->Q (.ref p) (upd H p (.lst (xs++zs)))
theorem Zc_:cF X (binaryOp .Add) Ze9:=by
 rintro pins s σ H x y v u Q I rx ry ⟨l,b,xs,zs,rfl,rfl,hH,hB,hz,q⟩;cases rx;cases ry;obtain⟨z,ah,n,r,hl,e⟩:=I.qD hH;obtain⟨z2,gX,n2,r2,tY,e2⟩:=I.qD hB;refine PySem.P.add_list e e2 ?_ (by rw[Yt,Yt];omega);have ea:ah.toArray++gX.toArray=(ah++gX).toArray:=by simp
 rw[ea];exact⟨.ref _,_,I.Ze8 (r.append r2) (by rw[Yl];omega),rfl,q _ I.fresh⟩
end
section
variable {prog:Program}{w:World}{A:Around}{E:Value->Shared->Prop}{s:Shared}
set_option maxRecDepth 100000 in
end
section
variable {X:Cx}
end
end L2
namespace S8
open PySem PySem.W PySem.Calls PyProof.Rows
theorem VA{P:Params}{h:Heap}:∀(ns:List Int) (vs:List Value),WellAll P h vs (ns.map WData.int)->IntsAre vs ns:=by
 intro ns;induction ns with
 |nil=>
  intro vs w;cases w;exact .nil
 |cons n ns ih=>
  intro vs w;cases w with
  |cons a b=>
   cases a;exact .cons _ _ (ih _ b)
theorem ZP{l:OpenLaw}{n:Nat}(hn:l.most=some n){P:Params}{h:Heap}{args:List WData}{vals:List Value}
  (yV:l.row.toRowW.claim.pre args=true)(wq:WellAll P h vals args):
  ∃a vs ns,vals=[Value.ref a]/\args=[WData.list (ns.map WData.int)]/\h.get? a=some {cls:=.type "list",data:=.seq vs.toArray}/\IntsAre vs ns/\ns.length<=n:=by
 obtain⟨d,r,rfl,h1,h2⟩:=hasAllW_cons ((pre_splitW yV).1);obtain rfl:=hasAllW_nil h2;obtain⟨xs,rfl,h3⟩:=hasW_list h1;obtain⟨ns,rfl⟩:=items_int h3;have hlen:ns.length<=n:=by
  have h4:(WTm.not (.lt (.lit (.int (n:Int))) (.len (.arg 0)))).holds [] {args:=[.list (ns.map .int)]}=true:=by
   have h4:=(holds_andW ((pre_splitW yV).2)).1;rw[hn] at h4;exact h4
  have h5:=condW_of h4 (w_not (w_lt w_lit (w_len_list (w_arg rfl))))
  grind
 cases wq with
 |cons w1 w2=>
  cases w2;cases w1 with
  |list ho GR=>exact⟨_,_,ns,rfl,rfl,ho,VA ns _ GR,hlen⟩
theorem ZQ(l:OpenLaw)(args:List WData):l.row.toRowW.claim.post args (.bool true) args=true:=
 postW_of (X:=(true==true))
  (show WShape.has [] (.bool true) .bool=true by first|rfl|decide|simp[WShape.has])
  (show(WTm.eq .res (.lit (.bool true))).value [] {args:=args,res:=some (.bool true),after:=args}=some (.bool (true==true)) from w_eq_bool (w_res rfl) w_lit) rfl
theorem XB{l:OpenLaw}{n:Nat}{q:Program}{loose:List Str}{XP:(Str->Option Value)->Heap->Prop}{YP:World->Heap->Prop}{d:DefRec}
  (hn:l.most=some n)(wu:d.params.defaults=[])
  (call:∀(w:World) (cT bG:Shared) (mg mb:Str->Option Value) (fa:Addr) (o:Obj) (pm cd doc:Value) (a:Addr) (vs:List Value) (ns:List Int),
   Ground q loose [] XP w cT mg mb bG.heap->YP w bG.heap->
   bG.heap.get? fa=some o->o.data=.func (docDef d.name d.params d.body d.scope pm cd doc)->bG.heap.CodeRec cd d.name->mg d.name=some (.ref fa)->
   bG.heap.get? a=some {cls:=.type "list",data:=.seq vs.toArray}->IntsAre vs ns->ns.length<=n->bG.gens=#[]->
   codeAny (model l.prog w) callerA (.call (.ref fa) ⟨[.ref a],[]⟩) (λr s'=>r=.ok (.ret (.bool true))/\OldK bG.heap s'.heap/\s'.os=bG.os/\AllBare s'.gens) bG):
  WalkO q loose XP YP l.row.toRowW d [] (λf vs=>PySem.call f vs):=by
 intro w cT bG mg mb G Y fa o pm cd doc dV kV ho hd jh hD wx hg args vals as yV Zgx hrd wq hlo;obtain rfl:dV=.none:=Dflts.none hD wu;obtain rfl:kV=.none:=Dflts.noKw hD;obtain⟨a,vs,ns,rfl,rfl,GS,hints,hlen⟩:=ZP hn yV wq;refine enter_call (codeAny_mono (call w cT bG mg mb fa o pm cd doc a vs ns G Y ho (fd_plain hd) jh wx GS hints hlen hg) λr s' hq=>?_);obtain⟨rfl,h2,h3,h4⟩:=hq;exact⟨.inl ⟨.bool true,.bool true,[],rfl,λ_=>rfl,.bool true,ZQ l _,λ_=>⟨List.Pairwise.nil,λ_ hm=>(nomatch hm)⟩⟩,h2,h3,h4⟩
section
variable {prog:Program}{w:World}{A:Around}{E:Value->Shared->Prop}{s:Shared}{K:Frag}
end
end S8
namespace L2
open PySem PySem.Spec PyProof.Rows
theorem L_:∀{vs:List Value} {ns:List Int},IntsAre vs ns->Vals (ns.map V.int) vs:=by
 intro vs ns h;induction h with
 |nil=>exact .nil
 |cons n t h ih=>exact .cons ⟨t,rfl⟩ ih
def GU(H:Hp):Prop:=∀b,H b=none\/∃o xs,H b=some (.bK o (.lst xs))
theorem ZaE{P:Program}{w:World}{K:PySem.W.Frag}{mg mb:Str->Option Value}{CX:ji}{k:Nat}{fa a:Addr}{fd:FuncData}{x:Str}{sp:Sp}{bG:Shared}{vs:List Value}{ns:List Int}
  (KX:K.In bG.heap)(S9:bG.heap.Ns mainGlobals mg)(hb:bG.heap.Ns builtinsNs mb)(hbb:∀x:Str,x≠"__name__"->mb x=bootBuiltins x)(Ze_:bG.heap.NoLimit)(hg:bG.gens=#[])
  (ha:bG.heap.get? a=some {cls:=.type "list",data:=.seq vs.toArray})(hi:IntsAre vs ns)(hl:ns.length<=sizeLine)(hr:c8 k callerA)
  (F:∀base:Heap,K.In base->base.Ns mainGlobals mg->aG P w K mg base CX k fa fd [x] sp)(Zem:∀(s:Shared) (u:Value),BindsTo s fd ⟨[u],[]⟩ [(x,u)])
  (lZ:∀H:Hp,GU H->ak K H a (ns.map V.int)->sp [.ref a] H (λv _=>v=.bl true) λ_ _ _=>False)
  (Hu:∀H e s',CX [] H bG (λ_ _ _=>False) e s'->False):
  codeAny (model P w) callerA (.call (.ref fa) ⟨[.ref a],[]⟩) (λr s'=>r=.ok (.ret (.bool true))/\OldK bG.heap s'.heap/\s'.os=bG.os/\AllBare s'.gens) bG:=by
 have rv:=L_ hi;have Zfa:=hi.length
 --from an abstract heap in Zgo nothing but nH PK may be tracked
 have core:∀H:Hp,GU H->ak K H a (ns.map V.int)->de P w H bG.heap->(∀b,H b≠none->b=a)->(H a≠none->K.lookup a=none)->
   codeAny (model P w) callerA (.call (.ref fa) ⟨[.ref a],[]⟩) (λr s'=>r=.ok (.ret (.bool true))/\OldK bG.heap s'.heap/\s'.os=bG.os/\AllBare s'.gens) bG:=by
  intro H hO hS av hA hK;have Ov:∀{b:Addr} {o:Obj},bG.heap.get? b=some o->H b=none->(ny bG.heap H).get? b=some o:=λe n=>Zat e n;have wk:∀{b:Addr} {o:Obj} {es:Array DictEntry} {ep:Nat},bG.heap.get? b=some o->o.data=.dict es ep->H b=none:=λ{b o es ep} e d=>by
   cases q:H b with
   |none=>rfl
   |some u=>
    have e':b=a:=hA b (by rw[q];simp);subst e';rw[ha] at e;cases e;have d':Data.seq vs.toArray _=Data.dict es ep:=d;cases d'
  have zt:∀{b:Addr} {m:Str->Option Value},bG.heap.Ns b m->(ny bG.heap H).Ns b m:=λ{b m} ⟨o,es,ep,e,d,r⟩=>⟨o,es,ep,Ov e (wk e d),d,r⟩;have S_:K.In (ny bG.heap H):=λb o e=>Ov (KX b o e) (by
   cases q:H b with
   |none=>rfl
   |some u=>
    have e':b=a:=hA b (by rw[q];simp);subst e';rw[hK (by rw[q];simp)] at e;cases e)
  have hM:Mod K mg (ny bG.heap H):=⟨S_,zt S9,⟨mb,zt hb,hbb⟩,let⟨mc,h1,h2⟩:=Ze_;⟨mc,zt h1,h2⟩⟩;have e0:qC P w K mg (ny bG.heap H) callerA [] bG H:=⟨rfl,hM,λb o e=>ZbG e,Nat.le_of_eq (ZD _ _),trivial,λb hb=>absurd (show b∈([]:List Addr) from hb) (by simp),av,.of_eq hg⟩;refine codeAny_mono ((F _ S_ (zt S9)).run callerA [] bG H ⟨[.ref a],[]⟩ [.ref a] [.ref a] _ _ hr e0 (Zem bG (.ref a)) (.cons rfl .nil) (lZ H hO hS)) λr s' h=>?_;cases r with
  |error e=>exact(Hu H e s' h).elim
  |ok fl=>
   cases fl with
   |next=>exact False.elim h
   |brk=>exact False.elim h
   |cont=>exact False.elim h
   |ret u=>
    obtain⟨v,H',os,bare,un,Zfb,r',q⟩:=h;have q':v=.bl true:=q;subst q';obtain rfl:u=Value.bool true:=r';refine⟨rfl,OldK.of_keep λb o e=>?_,os,bare⟩;cases q:H b with
    |none=>exact un.keep b o e q (by intro z;exact absurd (show b∈([]:List Addr) from z) (by simp)) (by simp)
    |some u=>
     rcases hO b with z|⟨ob,xs,z⟩;·rw[q] at z;cases z
     ·have z2:=un.kM b ob _ z;obtain⟨e1,_⟩:=av b _ z;obtain⟨e2,_⟩:=Zfb b _ z2;rw[e] at e1;cases e1;exact e2
 cases hk:K.lookup a with
 |some o=>
  --nH PK is one of nH Zgj own objects
  have e:=KX a o hk;rw[ha] at e;cases e;refine core (λ_=>none) (λ_=>.inl rfl) (.inr ⟨_,vs.toArray,_,hk,rfl,rfl,rfl,by rw[Yt,Zfa];exact hl,by simpa using rv⟩) (λb u z=>by have z':(none:Option HO)=some u:=z;cases z') (λb z=>absurd rfl z) λz=>absurd rfl z
 |none=>
  refine core (λb=>if b=a then some (.bK {cls:=.type "list",data:=.seq vs.toArray} (.lst (ns.map V.int))) else none) (λb=>?_) (.inl (.inr ⟨{cls:=.type "list",data:=.seq vs.toArray},if_pos rfl⟩)) (λb u z=>?_) (λb z=>?_) λ_=>hk
  ·by_cases hb:b=a;·exact .inr ⟨_,_,if_pos hb⟩
   ·exact .inl (if_neg hb)
  ·by_cases hb:b=a
   ·have z':=(if_pos hb).symm.trans z;cases z';subst hb;exact⟨ha,by rw[Ya];exact hl,vs,_,rv,ha⟩
   ·have z':=(if_neg hb).symm.trans z;cases z'
  ·by_cases hb:b=a;·exact hb
   ·exact absurd (if_neg hb) z
theorem ZbV{l:PySem.W.OpenLaw}{n k:Nat}{q:Program}{loose:List Str}{XP:(Str->Option Value)->Heap->Prop}{YP:World->Heap->Prop}{d:DefRec}{K:Params->PySem.W.Frag}{CX:World->ji}{sp:World->Sp}{x:Str}
  (hn:l.most=some n)(fk:n<=sizeLine)(wu:d.params.defaults=[])(hr:c8 k callerA)
  (hY:∀(w:World) (h:Heap),YP w h->(K w.params).In h)
  (F:∀(w:World) (mg:Str->Option Value) (fa:Addr) (h:Heap),(K w.params).In h->h.Ns mainGlobals mg->mg d.name=some (.ref fa)->
   ∃fd:FuncData,(∀(s:Shared) (u:Value),BindsTo s fd ⟨[u],[]⟩ [(x,u)])/\
    ∀base:Heap,(K w.params).In base->base.Ns mainGlobals mg->aG l.prog w (K w.params) mg base (CX w) k fa fd [x] (sp w))
  (lZ:∀(w:World) (H:Hp) (a:Addr) (ns:List Int),ns.length<=n->GU H->ak (K w.params) H a (ns.map V.int)->sp w [.ref a] H (λv _=>v=.bl true) λ_ _ _=>False)
  (Hu:∀(w:World) (H:Hp) (s:Shared) (e:Value) (s':Shared),CX w [] H s (λ_ _ _=>False) e s'->False):
  PySem.W.WalkO q loose XP YP l.row.toRowW d [] (λf vs=>PySem.call f vs):=by
 refine S8.XB hn wu λw cT bG mg mb fa o pm cd doc a vs ns G Y ho hd jh wx GS hints hlen hg=>?_;have KX:=hY w _ Y;obtain⟨fd,hb,hF⟩:=F w mg fa _ KX G.T.g wx;exact ZaE KX G.T.g G.T.b G.T.builtins G.T.nolimit hg GS hints (Y4 hlen fk) hr hF hb (λH hO hS=>lZ w H a ns hlen hO hS) λH e s'=>Hu w H bG e s'
def inClass(s:Stmt)(j:Nat):Stmt:=match s with
 |.ClassDef _ _ _ body _ _ _ _ _ _ _=>body.getD j (.Pass ⟨0,0,0,0⟩)
 |_=>.Pass ⟨0,0,0,0⟩
def mV(s:Stmt):Arguments:=match s with
 |.FunctionDef _ a _ _ _ _ _ _ _ _=>a
 |_=>{posonlyargs:=[],args:=[],vararg:=none,kwonlyargs:=[],kw_defaults:=[],kwarg:=none,defaults:=[]}
def ku(s:Stmt):List Stmt:=match s with
 |.FunctionDef _ _ b _ _ _ _ _ _ _=>b
 |_=>[]
def aL(s:Stmt):Scope:=match s with
 |.FunctionDef _ _ _ _ _ _ sc _ _ _=>sc
 |_=>{kind:=.function,names:=[],isGenerator:=false,isCoroutine:=false}
abbrev aN:ji:=λ_ _ _ _ _ _=>False
abbrev E0:XK:=λ_ _ _=>False
theorem yL{X:Cx}:Passes aN X E0:=λ_ _ _ _ _ _ _ h=>h.elim
structure aM(K:PySem.W.Frag)(x qual:Str)(st:Stmt)(f:Addr)(fd:FuncData):Prop where
 ex:∃(oc:Value) (od:Option Addr) (kV doc pm:Value) (an:Option Addr) (aE ct:Value) (nM:Array (Option Value)),
  fd=fnOf x qual (mV st) (ku st) (aL st) .none kV doc pm an aE ct/\K.lookup f=some ⟨oc,od,.func fd,nM⟩/\codeIn K aE qual=true
 kp:keepIn K (.ref f)=true
section
variable {P:Program}{w:World}{K:PySem.W.Frag}{mg:Str->Option Value}{base:Heap}
theorem aM.ok{x qual:Str}{st:Stmt}{f:Addr}{fd:FuncData}{N ps:List Str}{k:Nat}{sp:Sp}(F:aM K x qual st f fd)(S:aQ N ps (aL st))(len:∀vs H Q E,sp vs H Q E->vs.length=ps.length)
  (vH:∀(aE:Value) (A:Around) (outer:List Env) (s:Shared) (H:Hp) (vs:List V) (Q:VK) (E:XK),c8 k (A.deeper (envOfC qual (aL st) s.heap.objs.size f aE))->sp vs H Q E->
   ∃t,fY (lV aN P w K mg base N qual (aL st) f aE A outer s H E).zm (ku st) t/\t {nx:=λ_ H'=>Q .aA H',rt:=Q} (start N vs) H):aG P w K mg base aN (k+1) f fd ps sp:=by
 obtain⟨oc,od,kV,doc,pm,an,aE,ct,nM,rfl,lk,jh⟩:=F.ex;refine Rg lk jh S len λA outer s H vs Q E hr lZ=>?_;obtain⟨t,h,q⟩:=vH aE A outer s H vs Q E hr lZ;exact⟨t,h.zm,q⟩
theorem aM.binds{x qual:Str}{st:Stmt}{f:Addr}{fd:FuncData}{ps:List Str}(F:aM K x qual st f fd)
  (h:∀(kV doc pm:Value) (an:Option Addr) (aE ct:Value) (us:List Value),us.length=ps.length->bindArgs (fnOf x qual (mV st) (ku st) (aL st) .none kV doc pm an aE ct) ⟨us,[]⟩=pure (ps.zip us)):Binds K fd ps []:=by
 obtain⟨oc,od,kV,doc,pm,an,aE,ct,nM,rfl,lk,jh⟩:=F.ex;exact .all (h kV doc pm an aE ct)
theorem vw{x qual:Str}{st:Stmt}{f:Addr}{oc:Value}{od an:Option Addr}{nM:Array (Option Value)}{kV doc pm aE ct:Value}(l:K.lookup f=some ⟨oc,od,.func (fnOf x qual (mV st) (ku st) (aL st) .none kV doc pm an aE ct),nM⟩)
  (c:codeIn K aE qual=true)(k:keepIn K (.ref f)=true):aM K x qual st f (fnOf x qual (mV st) (ku st) (aL st) .none kV doc pm an aE ct):=⟨⟨oc,od,kV,doc,pm,an,aE,ct,nM,rfl,l,c⟩,k⟩
end
theorem bB{A:Around}{k:Nat}(hr:c8 k A):A.units+1<cLine:=W5 (Nat.add_le_add_left (by decide:1<=64) _) hr.units
theorem iV{n:Nat}(h:n<=1000):n<sizeLine:=W5 h (by decide)
section
variable {X:Cx}
theorem pv(i:Nat){x:Str}{pos:Pos}(hN:X.N[i]?=some x:=by rfl)(hv:wb X.env.scope x:=by first|exact Or.inl rfl|exact Or.inr (Or.inl rfl)|exact Or.inr (Or.inr rfl))(hd:(x==("__debug__":Str))=false:=by decide)
  (jh:(x==("__classdict__":Str))=false:=by decide):PE X (.Name x pos) (gv i):=ZcV hN hv hd jh
end
theorem bY{A B:Prop}(h:B):if false=true then A else B:=by
 grind
theorem cV{A B:Prop}(h:A):if true=true then A else B:=by
 grind
theorem bC{c A B:Prop}[Decidable c](h1:c->A)(h2:¬c->B):if c then A else B:=by
 grind
theorem s_{c A B:Prop}[Decidable c](hc:c)(h:B):if(!decide c)=true then A else B:=by
 grind
def ai(H H':Hp):Prop:=∀b o,H b=some o->H' b=some o
theorem ai.refl(H:Hp):ai H H:=λ_ _ h=>h
theorem ai.trans{H H1 H2:Hp}(a:ai H H1)(b:ai H1 H2):ai H H2:=λc o h=>b c o (a c o h)
theorem ai.free{H H':Hp}(e:ai H H'){l:Addr}(h:H' l=Option.none):H l=Option.none:=by
 cases q:H l with
 |none=>rfl
 |some o=>
  rw[e l o q] at h;cases h
theorem ai.seq{K:PySem.W.Frag}{H H':Hp}{a:Addr}{xs:List V}(e:ai H H')(h:ak K H a xs):ak K H' a xs:=by
 rcases h with(h|⟨o,h⟩)|h;·exact .inl (.inl (e _ _ h))
 ·exact .inl (.inr ⟨o,e _ _ h⟩)
 ·exact .inr h
def sI(cells:List (Str×Addr)):List (Str×Addr)->Prop
 |[]=>True
 |p::r=>cells.lookup p.1=some p.2/\sI cells r
theorem sI.look:∀{cl:List (Str×Addr)},sI cells cl->∀(x:Str) (c:Addr),cl.lookup x=some c->cells.lookup x=some c
 |[],_,x,c,h=>by simp at h
 |(n,a)::r,hh,x,c,h=>by
  rw[W1] at h;cases e:x==n with
  |true=>
   rw[e] at h;rw[(eq_of_beq e),←(Ys h)];exact hh.1
  |false=>
   rw[e] at h;exact sI.look hh.2 x c h
theorem Co{env:Env}:∀{names:List (Str×NameKind)} {x:Str} {k:NameKind},
  (names.map λ(n,k)=>if(k==NameKind.free&&env.scope.kind==.function&&env.kindOf n==some .cell) then(n,NameKind.cell) else(n,k)).lookup x=some k->
  ∃k0,(x,k0)∈names/\(k=k0\/k0=.free)
 |[],_,_,h=>by simp at h
 |(n,k0)::r,x,k,h=>by
  have h:List.lookup x ((if(k0==NameKind.free&&env.scope.kind==.function&&env.kindOf n==some .cell)=true then(n,NameKind.cell) else(n,k0))::(r.map λ(n,k)=>if(k==NameKind.free&&env.scope.kind==.function&&env.kindOf n==some .cell) then(n,NameKind.cell) else(n,k)))=some k:=h;by_cases hc:(k0==NameKind.free&&env.scope.kind==.function&&env.kindOf n==some .cell)=true
  ·rw[if_pos hc,W1] at h;cases e:x==n with
   |true=>grind
   |false=>
    rw[e] at h;obtain⟨k1,m,q⟩:=Co h
    grind
  ·rw[if_neg hc,W1] at h;cases e:x==n with
   |true=>grind
   |false=>
    rw[e] at h;obtain⟨k1,m,q⟩:=Co h
    grind
structure P6(X:Cx)(scope:Scope)(cl:List (Str×Addr))(y:Str)(j:Nat):Prop where
 ix:X.N[j]?=some y
 out:X.env.kindOf y=some .cell\/X.env.kindOf y=some .free
 qU:(relabel scope X.env).names.lookup y=some .cell\/(relabel scope X.env).names.lookup y=some .free
 cl:(cl.lookup y).isSome=true
def sL(X:Cx)(scope:Scope)(cl:List (Str×Addr)):List (Str×Nat)->Prop
 |[]=>True
 |p::r=>P6 X scope cl p.1 p.2/\sL X scope cl r
theorem sL.get:∀{fr:List (Str×Nat)} {k:Nat} {p:Str×Nat},sL X scope cl fr->fr[k]?=some p->P6 X scope cl p.1 p.2
 |[],k,p,_,h=>by simp at h
 |q::r,0,p,hh,h=>by
  have e:q=p:=by simpa using h
  rw[←e];exact hh.1
 |q::r,k+1,p,hh,h=>sL.get hh.2 (by simpa using h)
structure Ma(X:Cx)(scope:Scope)(cl:List (Str×Addr))(x:Str)(fr:List (Str×Nat)):Prop where
 vV:closureFor scope X.env=pure cl
 sub:sI X.env.cells cl
 kind:scope.kind=.function
 names:∀y∈scope.names,y.2=.local->scope.names.lookup y.1=some .local
 lx:scope.names.lookup x=some .local
 vI:∀y∈scope.names,y.2≠.cell
 has:(scope.names.all λy=>!(y.2==.free)||(cl.lookup y.1).isSome)=true
 gZ:sL X scope cl fr
 nd:(x::fr.map (·.1)).Nodup
def fV(σ:St)(fr:List (Str×Nat)):St:=fr.map λp=>(σ[p.2]?).join
structure uU(X:Cx)(scope:Scope)(cl:List (Str×Addr))(xs:List Str)(fr:List (Str×Nat)):Prop where
 vV:closureFor scope X.env=pure cl
 sub:sI X.env.cells cl
 kind:scope.kind=.function
 names:∀y∈scope.names,y.2=.local->scope.names.lookup y.1=some .local
 vI:∀y∈scope.names,y.2≠.cell
 has:(scope.names.all λy=>!(y.2==.free)||(cl.lookup y.1).isSome)=true
 gZ:sL X scope cl fr
 nd:(xs++fr.map (·.1)).Nodup
def cL(X:Cx)(xs:List Str)(fr:List (Str×Nat))(scope:Scope)(cl:List (Str×Addr))(C:Addr)(s:Shared)(H:Hp)(fp:List Addr):Cx where
 prog:=X.prog
 w:=X.w
 K:=X.K
 mg:=X.mg
 base:=X.base
 A:=X.A
 N:=xs++fr.map (·.1)
 cT:=s
 iI:=H
 env:=compEnvC scope cl C X.env
 outer:=X.stack
 stack:=X.stack
 ex:=fp
 fn:=λ_=>false
 calm:=X.calm
 pn:=[]
 xe:=λ_ _=>False
section
variable {X:Cx}{scope:Scope}{cl:List (Str×Addr)}{xs:List Str}{fr:List (Str×Nat)}{pins:List (Addr×Obj)}{σ:St}{H:Hp}{s:Shared}
theorem Mb(S:uU X scope cl xs fr)(I:Inv X pins σ H s)(hC:C=s.heap.objs.size)(hf:∀b∈fp,gW X pins H b)(bL:∀b∈fp,b<s.heap.objs.size)
  (old:∀b o,s.heap.get? b=some o->d_.get? b=some o)(hn:d_.Ns C m):Inv (cL X xs fr scope cl C s H fp) [] (List.replicate xs.length none++fV σ fr) H {s with heap:=d_,toks:=tk}:=by
 have look:=S.sub.look;refine⟨⟨I.ok.mod,S.kind,I.ok.glob,I.ok.blt,by show s.heap.objs.size<=C;rw[hC];exact Yd _,λy z c h1 h2=>I.ok.inj y z c (look y c h1) (look z c h2),λy hy=>?_,λy c h=>?_,I.ok.hd,I.ok.frames,.inl rfl,λb hb=>⟨?_,λy c h=>?_⟩,
   I.bs,Y4 I.ok.nI I.sz,λb o e hb=>?_,λb hb hb2=>?_,I.stack,I.Od⟩,
  rfl,I.bare,Un.kept old,⟨m,hn,λi y v h1 h2 h3=>?_⟩,λy c h=>?_,?_,λy c h=>I.jN y c (look y c h),λp hp=>absurd (show p∈([]:List (Addr×Obj)) from hp) (by simp),I.av.kept old,?_⟩
 ·have hy:(relabel scope X.env).names.lookup y=some .cell\/(relabel scope X.env).names.lookup y=some .free:=hy;have fin:∀{k:NameKind},(relabel scope X.env).names.lookup y=some k->(k=.cell\/k=.free)->∃c,cl.lookup y=some c:=λ{k} e hk=>by
   obtain⟨k0,hm,q⟩:=Co (env:=X.env) e;have hk0:k0=.free:=by
    rcases q with q|q
    ·rcases hk with z|z;·exact absurd (q.symm.trans z) (S.vI _ hm)
     ·exact q.symm.trans z
    ·exact q
   have hq:=Wn.mp S.has _ hm;rw[hk0] at hq;exact W9.mp (by simpa using hq)
  rcases hy with e|e;·exact fin e (.inl rfl)
  ·exact fin e (.inr rfl)
 ·exact absurd (show false=true from h) Yi
 ·show b≠C;exact λz=>absurd (bL b hb) (by rw[show b=C from z,hC];exact Y7 _)
 ·exact(hf b hb).2.2.2.2.1 y c (look y c h)
 ·obtain⟨_,_,_,z,_⟩:=hf b hb;rcases z with z|z;·exact I.ok.vQ b o e z
  ·have h1:=Yv e;have h2:=I.ok.nI;exact absurd (Y0 h1 (Y4 h2 z)) (Y7 _)
 ·have z:=I.FG b hb2;rcases Yp.mp z with z|z;·exact(hf b hb).2.1 z
  ·exact(hf b hb).2.2.1 z
 ·by_cases hi:i<xs.length;·grind
  ·have h1:(xs++fr.map (·.1))[i]?=some y:=h1;rw[Jk (Nat.le_of_not_lt hi)] at h1;rw[Jk (by rw[Wz];exact Nat.le_of_not_lt hi),Wz] at h2;generalize i-xs.length=k at h1 h2;have h2:(fr.map λp=>(σ[p.2]?).join)[k]?=some (some v):=h2;rw[Yg] at h1 h2;cases e:fr[k]? with
   |none=>rw[e] at h1;cases h1
   |some p=>
    rw[e] at h1 h2;have e1:p.1=y:=Ys h1;have e2:(σ[p.2]?).join=some v:=Ys h2;have F:=S.gZ.get e;rw[e1] at F;have e3:σ[p.2]?=some (some v):=by
     cases q:σ[p.2]? with
     |none=>rw[q] at e2;cases e2
     |some o=>grind
    obtain⟨m0,_,hl⟩:=I.loc;have Hm:wb X.env.scope y:=by
     rcases F.out with z|z;·exact .inr (.inl z)
     ·exact .inr (.inr z)
    obtain⟨u,r,l⟩:=hl p.2 y v F.ix e3 Hm;refine⟨u,r,.inr ⟨F.qU,?_⟩⟩;obtain⟨c,hc⟩:=W9.mp F.cl;refine⟨c,hc,?_⟩;rcases l with⟨k1,_⟩|⟨_,c',e',z⟩
    ·rcases F.out with q|q;·rw[q] at k1;cases k1
     ·rw[q] at k1;cases k1
    ·have e4:=look y c hc;rw[e'] at e4;cases e4;obtain⟨o,ho,hd⟩:=z;exact⟨o,old _ _ ho,hd⟩
 ·obtain⟨v,o,ho,hd⟩:=I.cell y c (look y c h);exact⟨v,o,old _ _ ho,hd⟩
 ·show H C=none;rw[hC];exact I.av.fresh (Yd _)
 ·show(List.replicate xs.length none++fV σ fr).length=(xs++fr.map (·.1)).length;simp[fV]
end
abbrev yA(X:Cx)(x:Str)(fr:List (Str×Nat))(scope:Scope)(cl:List (Str×Addr))(C:Addr)(s:Shared)(H:Hp)(fp:List Addr):Cx:=cL X [x] fr scope cl C s H fp
section
variable {prog:Program}{w:World}{A:Around}{R:Result->Shared->Prop}{s:Shared}
theorem Ve(I:Nat->Shared->Prop)
  (turn:∀n s,I n s->wpAny (model prog w) A (pyNext it) (λr bG=>match r with
   |none=>R (.ok .next) bG
   |some v=>wpAny (model prog w) A (letOwnedTupleGo target it v) (λ_ cT=>wpAny (model prog w) A (assign target env v) (λ_ dR=>
     wpAny (model prog w) A (forIn ifs true λc r=>if r=true then do let ok←isTrue c env (eval c env);pure (ForInStep.yield ok) else pure (ForInStep.yield r)) (λok dN=>
      if ok=true then wpAny (model prog w) A (eval elt env) (λx iJ=>
       wpAny (model prog w) A (call (.builtin "list.append") [acc,x]) (λ_ kO=>∃m,m<n/\I m kO) (notedBy (model prog w) A env λe s'=>R (.error e) s') iJ) (notedBy (model prog w) A env λe s'=>R (.error e) s') dN
      else ∃m,m<n/\I m dN) (notedBy (model prog w) A env λe s'=>R (.error e) s') dR) (notedBy (model prog w) A env λe s'=>R (.error e) s') cT) (notedBy (model prog w) A env λe s'=>R (.error e) s') bG) (notedBy (model prog w) A env λe s'=>R (.error e) s') s)
  (n:Nat)(h:I n s):codeAny (model prog w) A (.compLoop (.ListComp elt [⟨target,iter,ifs,0⟩] scope pos) 0 it acc env) R s:=by
 refine codeAny_loop rfl I (λn s hI=>wpAny_noted (wpAny_bind (wpAny_standAt (wpAny_bind (wpAny_mono (turn n s hI) (λr bG d_=>?_) λ_ _ h'=>h'))))) n h;cases r with
 |none=>exact wpAny_pure d_
 |some v=>
  refine wpAny_bind (wpAny_mono d_ (λ_ cT h₀=>wpAny_bind (wpAny_mono h₀ (λ_ dR nG=>wpAny_bind (wpAny_mono nG (λok dN tI=>?_) λ_ _ h'=>h')) λ_ _ h'=>h')) λ_ _ h'=>h');cases ok with
  |false=>exact wpAny_pure ⟨rfl,tI⟩
  |true=>
   exact wpAny_bind (wpAny_bind (wpAny_mono tI (λx iJ vW=>wpAny_bind (wpAny_mono vW (λ_ kO vX=>wpAny_pure (wpAny_pure ⟨rfl,vX⟩)) λ_ _ h'=>h')) λ_ _ h'=>h'))
end
def tZ(X:Cx)(ifs:List Expr)(t:TT):Prop:=
 ∀(pins:List (Addr×Obj)) (s:Shared) (σ:St) (H:Hp) (Q:Bool->Hp->Prop),Inv X pins σ H s->t σ H Q->
  wpAny (model X.prog X.w) X.A (forIn ifs true λc r=>if r=true then do let ok←isTrue c X.env (eval c X.env);pure (ForInStep.yield ok) else pure (ForInStep.yield r)) (TP X pins σ Q) X.xe s
def yW:TT:=λ_ H Q=>Q true H
theorem lH:tZ X [] yW:=λ_ _ _ H _ I h=>wpAny_tests_nil ⟨H,I,h⟩
theorem va(h:PT X c t):tZ X [c] t:=λpins s σ H Q I hw=>wpAny_tests_one (h pins s σ H Q I hw)
def FN(n:Nat)(J:It)(tg:TG)(tt:TT)(te:TE)(fv:St)(D:Addr)(H:Hp)(Q:VK):Prop:=
 ∃W:Nat->Nat->List V->Hp->Prop,(∃m,W 0 m [] (upd H D (.lst [])))/\∀i m ys H,W i m ys H->
  (J.stop i H/\Q (.ref D) H)\/(J.go i H/\∃N:List V->Hp->Prop,(∀f_ H',N f_ H'->∃m',m'<m/\W (i+1) m' f_ H')/\
   ∀v H',J.o_ i H v H'->∀os:St,os.length=n->tg v (os++fv) H' λcX H2=>(∃jk:St,jk.length=n/\cX=jk++fv)/\tt cX H2 λc H1=>if c=true then te cX H1 λy H3=>H3 D=some (.lst ys)/\ys.length<sizeLine/\N (ys++[y]) (upd H3 D (.lst (ys++[y]))) else N ys H1)
section
variable {X:Cx}{elt iter pk:Expr}{xs:List Str}{pos:Pos}{ifs:List Expr}{scope:Scope}{cl:List (Str×Addr)}{fr:List (Str×Nat)}{tg:TG}{tt:TT}{te:TE}{pins:List (Addr×Obj)}{σ:St}
theorem Lz{H2:Hp}{s2:Shared}{it:Addr}{fp:List Addr}{tn:Nat->Heap->Prop}{J:It}{Q:VK}{RR:Value->Addr->Result->Shared->Prop}{E:Value->Shared->Prop}
  (hc:X.calm=true)(S:uU X scope cl xs fr)(hg:∀C s H fp,PG (cL X xs fr scope cl C s H fp) pk tg)
  (ht:∀C s H fp,tZ (cL X xs fr scope cl C s H fp) ifs tt)(he:∀C s H fp,PE (cL X xs fr scope cl C s H fp) elt te)
  (I2:Inv X pins σ H2 s2)(T:Turn X.prog X.w X.K pk J fp it tn)(dt:tn 0 s2.heap)(f2:∀b∈fp,gW X pins H2 b)
  (hw:∀D,H2 D=none->FN xs.length J tg tt te (fV σ fr) D H2 Q)
  (hR:∀D C s1 H1 m,Inv X pins σ H1 s1->s1.heap.Ns C m->H1 C=none->C≠X.env.locals->X.cT.heap.objs.size<=C->(∀y c,X.env.cells.lookup y=some c->c≠C)->(∀p∈X.pn++pins,p.1≠C)->Q (.ref D) H1->RR (.ref D) C (.ok .next) s1):
  wpAny (model X.prog X.w) X.A (newList []) (λacc dN=>wpAny (model X.prog X.w) X.A (newFunctionEnv scope X.env.globals cl [] X.env.qual none .none (some X.env)) (λoR iJ=>
   codeAny (model X.prog X.w) X.A (.compStart (.ListComp elt [⟨pk,iter,ifs,0⟩] scope pos) 0 (.ref it) acc {oR with scope:=relabel scope X.env}) (RR acc oR.locals) iJ) E dN) E s2:=by
 refine wpAny_newObj_type (wpAny_newFunctionEnv S.vI (by intro y hy;simp at hy) (λd_ qi qj=>?_) S.kind);dsimp only at qi qj⊢;have I3:Inv X pins σ (upd H2 s2.heap.objs.size (.lst [])) {s2 with heap:=s2.heap.push {cls:=.type "list",dict:=none,data:=.seq ([]:List Value).toArray}}:=
  I2.laid (t':=s2.toks) (λb u e=>Yb _ e) (Yd _) ⟨Yw _,[],0,.nil,Yn _ rfl⟩
 have Hv:H2 s2.heap.objs.size=none:=I2.av.fresh (Yd _);obtain⟨W,⟨m0,w0⟩,turn⟩:=hw s2.heap.objs.size Hv;have vY:∀b∈fp,b<s2.heap.objs.size:=λb hb=>by
  obtain⟨o,e,_⟩:=T.obj _ _ dt b hb;exact Yv e
 generalize wy:s2.heap.push {cls:=.type "list",dict:=none,data:=.seq ([]:List Value).toArray}=G2 at qi qj I3⊢;have hC:G2.objs.size=s2.heap.objs.size+1:=by rw[←wy,W6]
 have old:∀b o,G2.get? b=some o->d_.get? b=some o:=λb o e=>qj.extBut b o (Yz (Yv e)) (Yb _ e);have f3:∀b∈fp,gW X pins (upd H2 s2.heap.objs.size (.lst [])) b:=λb hb=>by
  have:=vY b hb;exact⟨by rw[aP (Yz this)];exact(f2 b hb).1,(f2 b hb).2⟩
 have Hw:∀b∈fp,b<G2.objs.size:=λb hb=>by
  rw[hC];exact Wt (vY b hb)
 have wz:tn 0 d_:=T.keep _ _ _ dt λb hb o e=>old b o ((λb o e=>wy▸Yb _ e) b o e);have I4:Inv (cL X xs fr scope cl G2.objs.size {s2 with heap:=G2} (upd H2 s2.heap.objs.size (.lst [])) fp) [] (List.replicate xs.length none++fV σ fr) (upd H2 s2.heap.objs.size (.lst [])) {s2 with heap:=d_,toks:=s2.toks+([]:List (Str×Value)).length}:=
  Mb (tk:=s2.toks+([]:List (Str×Value)).length) S I3 rfl f3 Hw old qi
 have loop:∀dN:Shared,dN={s2 with heap:=d_,toks:=s2.toks+([]:List (Str×Value)).length}->
   codeAny (model X.prog X.w) X.A (.compLoop (.ListComp elt [⟨pk,iter,ifs,0⟩] scope pos) 0 (.ref it) (.ref s2.heap.objs.size) (compEnvC scope cl G2.objs.size X.env)) (RR (.ref s2.heap.objs.size) G2.objs.size) dN:=by
  rintro dN rfl;refine Ve (λk s'=>∃i ys H' os,os.length=xs.length/\Inv (cL X xs fr scope cl G2.objs.size {s2 with heap:=G2} (upd H2 s2.heap.objs.size (.lst [])) fp) [] (os++fV σ fr) H' s'/\tn i s'.heap/\(∀b∈fp,H' b=none)/\W i k ys H') ?_ m0
   ⟨0,[],_,List.replicate xs.length none,Wz,I4,wz,λb hb=>(f3 b hb).1,w0⟩
  rintro n s5 ⟨i,ys,H5,os,nN,I5,nL,qS,w5⟩;have kN:∀{H':Hp},(∀b∈fp,H' b=none)->∀b∈fp,gW (cL X xs fr scope cl G2.objs.size {s2 with heap:=G2} (upd H2 s2.heap.objs.size (.lst [])) fp) [] H' b:=λ{H'} hn b hb=>
   ⟨hn b hb,(I5.ok.tQ b hb).1,I5.ok.tG b hb,.inl hb,(I5.ok.tQ b hb).2,λp hp=>absurd (show p∈([]:List (Addr×Obj)) from hp) (by simp)⟩
  rcases turn i n ys H5 w5 with⟨stop,qn⟩|⟨go,N,hN,step⟩
  ·refine az (T.done (cL X xs fr scope cl G2.objs.size {s2 with heap:=G2} (upd H2 s2.heap.objs.size (.lst [])) fp) rfl rfl rfl hc i [] s5 _ H5 _ I5 (kN qS) nL stop) λr s6 zq=>?_;obtain⟨hr,I6⟩:=zq;subst hr;obtain⟨m,Hx,_⟩:=I6.loc;have I7:Inv X pins σ H5 s6:=I3.Q6 (ch:=fp) I6.os I6.base I6.av I6.bare λb hb=>⟨(f2 b hb).2.2.2.1,(f2 b hb).2.1,(f2 b hb).2.2.2.2.1,(f2 b hb).2.2.2.2.2⟩;refine hR _ _ s6 H5 m I7 Hx I6.free ?_ ?_ (λy c e z=>?_) (λp hp z=>?_) qn;·exact Ju I3.lt
   ·exact I3.sz
   ·obtain⟨v,q⟩:=I3.cell y c e;exact absurd q.lt (by rw[z];exact Y7 _)
   ·exact absurd (Yv (I3.pin p hp).1) (by rw[z];exact Y7 _)
  ·refine az (T.item (cL X xs fr scope cl G2.objs.size {s2 with heap:=G2} (upd H2 s2.heap.objs.size (.lst [])) fp) rfl rfl rfl hc i [] s5 _ H5 _ I5 (kN qS) nL go) λr s6 zq=>?_;obtain⟨u,hr,h6⟩:=zq;subst hr;refine az h6 λ_ s7 zq=>?_;obtain⟨v,H7,I7,r7,y7,qV,Hy⟩:=zq;have Hz:=I7.pinned (kN Hy) (T.obj _ _ qV);refine wpAny_mono (hg _ _ _ _ _ s7 _ H7 v u _ Hz r7 (step v H7 y7 os nN)) (λ_ s8 zq=>?_) λ_ _ z=>False.elim z;obtain⟨σ8,H8,I8,⟨jk,R0,e8⟩,q8⟩:=zq;subst e8;have again:∀{nO:St} {H9:Hp} {s9:Shared} {nP:List V},nO.length=xs.length->Inv (cL X xs fr scope cl G2.objs.size {s2 with heap:=G2} (upd H2 s2.heap.objs.size (.lst [])) fp) ([]++oI fp s7.heap) (nO++fV σ fr) H9 s9->N nP H9->
     ∃m,m<n/\∃i ys H' os,os.length=xs.length/\Inv (cL X xs fr scope cl G2.objs.size {s2 with heap:=G2} (upd H2 s2.heap.objs.size (.lst [])) fp) [] (os++fV σ fr) H' s9/\tn i s9.heap/\(∀b∈fp,H' b=none)/\W i m ys H':=λ{nO H9 s9 nP} l1 I9 n9=>by
    obtain⟨m',hm,w9⟩:=hN nP H9 n9;refine⟨m',hm,i+1,nP,H9,nO,l1,I9.sy,T.keep _ _ _ qV λb hb o e=>(I9.pin (b,o) (Yq _ (Yq _ (oq hb e)))).1,λb hb=>?_,w9⟩;obtain⟨o,e,d⟩:=T.obj _ _ qV b hb;exact(I9.pin (b,o) (Yq _ (Yq _ (oq hb e)))).2.1
   refine wpAny_mono (ht _ _ _ _ _ s8 _ H8 _ I8 q8) (λok s9 zq=>?_) λ_ _ z=>False.elim z;obtain⟨H9,I9,q9⟩:=zq;cases ok with
   |false=>grind
   |true=>
    rw[if_pos rfl];rw[if_pos rfl] at q9;refine wpAny_mono (he _ _ _ _ _ s9 _ H9 _ I9 q9) (λu1 HH zq=>?_) λ_ _ z=>False.elim z;obtain⟨y,nQ,HN,r10,hD,hz,nR⟩:=zq;refine wpAny_mono (uZ (X:=cL X xs fr scope cl G2.objs.size {s2 with heap:=G2} (upd H2 s2.heap.objs.size (.lst [])) fp) _ HH _ nQ (.ref s2.heap.objs.size) [y] _ [u1] (λ_ H'=>N (ys++[y]) H') HN rfl (.cons r10 .nil) ⟨_,ys,y,rfl,rfl,hD,hz,nR⟩) (λ_ HP zq=>?_) λ_ _ z=>False.elim z;obtain⟨_,wA,zu,_,q11⟩:=zq;exact again R0 zu q11
 exact codeAny_compStart_list (loop _ rfl) (T.self _ 0 _ _ _ wz (loop _ rfl))
end
def ik(J:It)(tt:TT)(te:TE)(fv:St)(D:Addr)(H:Hp)(Q:VK):Prop:=
 ∃W:Nat->Nat->List V->Hp->Prop,(∃m,W 0 m [] (upd H D (.lst [])))/\∀i m ys H,W i m ys H->
  (J.stop i H/\Q (.ref D) H)\/(J.go i H/\∃N:List V->Hp->Prop,(∀f_ H',N f_ H'->∃m',m'<m/\W (i+1) m' f_ H')/\
   ∀v H',J.o_ i H v H'->tt (some v::fv) H' λc H1=>if c=true then te (some v::fv) H1 λy H3=>H3 D=some (.lst ys)/\ys.length<sizeLine/\N (ys++[y]) (upd H3 D (.lst (ys++[y]))) else N ys H1)
section
variable {X:Cx}{elt iter:Expr}{x:Str}{px pos:Pos}{ifs:List Expr}{scope:Scope}{cl:List (Str×Addr)}{fr:List (Str×Nat)}{tt:TT}{te:TE}{pins:List (Addr×Obj)}{σ:St}
theorem ZR{H2:Hp}{s2:Shared}{it:Addr}{fp:List Addr}{tn:Nat->Heap->Prop}{J:It}{Q:VK}{RR:Value->Addr->Result->Shared->Prop}{E:Value->Shared->Prop}
  (hc:X.calm=true)(S:Ma X scope cl x fr)
  (ht:∀C s H fp,tZ (yA X x fr scope cl C s H fp) ifs tt)(he:∀C s H fp,PE (yA X x fr scope cl C s H fp) elt te)
  (I2:Inv X pins σ H2 s2)(T:Turn X.prog X.w X.K (.Name x px) J fp it tn)(dt:tn 0 s2.heap)(f2:∀b∈fp,gW X pins H2 b)
  (hw:∀D,H2 D=none->ik J tt te (fV σ fr) D H2 Q)
  (hR:∀D C s1 H1 m,Inv X pins σ H1 s1->s1.heap.Ns C m->H1 C=none->C≠X.env.locals->X.cT.heap.objs.size<=C->(∀y c,X.env.cells.lookup y=some c->c≠C)->(∀p∈X.pn++pins,p.1≠C)->Q (.ref D) H1->RR (.ref D) C (.ok .next) s1):
  wpAny (model X.prog X.w) X.A (newList []) (λacc dN=>wpAny (model X.prog X.w) X.A (newFunctionEnv scope X.env.globals cl [] X.env.qual none .none (some X.env)) (λoR iJ=>
   codeAny (model X.prog X.w) X.A (.compStart (.ListComp elt [⟨.Name x px,iter,ifs,0⟩] scope pos) 0 (.ref it) acc {oR with scope:=relabel scope X.env}) (RR acc oR.locals) iJ) E dN) E s2:=by
 refine Lz (xs:=[x]) hc ⟨S.vV,S.sub,S.kind,S.names,S.vI,S.has,S.gZ,S.nd⟩ (λC s H fp=>bj (i:=0) S.nd rfl (.inl (lookup_relabel_local S.lx)) (.inr (lookup_relabel_local S.lx))) ht he I2 T dt f2 (λD hD=>?_) hR;obtain⟨W,h0,h⟩:=hw D hD;refine⟨W,h0,λi m ys H p=>?_⟩;rcases h i m ys H p with z|⟨z,N,hN,q⟩;·exact .inl z
 ·refine .inr ⟨z,N,hN,λv H' y os hl=>?_⟩;match os,hl with
  |[o],_=>exact⟨⟨[some v],rfl,rfl⟩,q v H' y⟩
def Zen(wi:TI)(fr:List (Str×Nat))(tt:TT)(te:TE):TE:=λσ H Q=>wi σ H λJ H1=>∀D,H1 D=none->ik J tt te (fV σ fr) D H1 Q
theorem iH(hc:X.calm=true)(S:Ma X scope cl x fr)(hi:PI X (.Name x px) iter wi)
  (ht:∀C s H fp,tZ (yA X x fr scope cl C s H fp) ifs tt)(he:∀C s H fp,PE (yA X x fr scope cl C s H fp) elt te)
  (hs:∀x,foldedSetIterable iter X.env x=pure x:=by intro _;rfl):PE X (.ListComp elt [⟨.Name x px,iter,ifs,0⟩] scope pos) (Zen wi fr tt te):=by
 intro pins s σ H Q I h;refine wpAny_comprehension_free rfl hs S.vV S.kind S.names (az (hi pins s σ H _ I h) λv s1 h1=>az h1 λtU s2 h2=>?_);obtain⟨it,fp,tn,J,H2,e,I2,T,dt,f2,hw⟩:=h2;subst e;refine ZR (RR:=λacc C=>compPost (model X.prog X.w) X.A X.xe none (EP X pins σ Q) acc C) hc S ht he I2 T dt f2 hw ?_;intro D C s1 H1 m I1 hn f0 f1 f3 f4 f5 q;exact⟨m,hn,λh' nS=>⟨.ref D,H1,I1.turned (λb o hb e=>nS.extBut b o hb e) f0 f1 (.inr f3) f4 f5,rfl,q⟩⟩
end
theorem D8{K:PySem.W.Frag}{a:Addr}{xs:List V}{tt:TT}{te:TE}{fv:St}{D:Addr}{H:Hp}{Q:VK}(Pv:Nat->List V->Hp->Prop)(h0:Pv 0 [] (upd H D (.lst [])))(hl:∀i ys H,i<=xs.length->Pv i ys H->ak K H a xs)
  (hs:∀i v ys H,xs[i]?=some v->Pv i ys H->tt (some v::fv) H λc H1=>if c=true then te (some v::fv) H1 λy H3=>H3 D=some (.lst ys)/\ys.length<sizeLine/\Pv (i+1) (ys++[y]) (upd H3 D (.lst (ys++[y]))) else Pv (i+1) ys H1)
  (hd:∀ys H,Pv xs.length ys H->Q (.ref D) H):ik (iN K a) tt te fv D H Q:=by
 refine⟨λi m ys H=>m=xs.length-i/\i<=xs.length/\Pv i ys H,⟨xs.length,by simp,Yw _,h0⟩,?_⟩;rintro i m ys H ⟨rfl,hi,p⟩;have q:=hl i ys H hi p;by_cases bL:i<xs.length
 ·refine .inr ⟨⟨xs,xs[i],q,by simp[bL]⟩,Pv (i+1),λf_ H' p'=>⟨xs.length-(i+1),by omega,rfl,bL,p'⟩,λx H' y=>?_⟩;obtain⟨e,y⟩:=y
  grind
 ·have e:i=xs.length:=by omega
  subst e;exact .inl ⟨⟨xs,q,Yd _⟩,hd ys H p⟩
theorem x8{K:PySem.W.Frag}{a:Addr}{xs:List V}{tt:TT}{te:TE}{fv:St}{D:Addr}{H:Hp}{Q:VK}(Pv:Nat->List V->Hp->Prop)(h0:Pv 0 [] (upd H D (.lst [])))(hl:∀i ys H,i<=xs.length->Pv i ys H->ay K H a xs)
  (hs:∀i v ys H,xs[i]?=some v->Pv i ys H->tt (some v::fv) H λc H1=>if c=true then te (some v::fv) H1 λy H3=>H3 D=some (.lst ys)/\ys.length<sizeLine/\Pv (i+1) (ys++[y]) (upd H3 D (.lst (ys++[y]))) else Pv (i+1) ys H1)
  (hd:∀ys H,Pv xs.length ys H->Q (.ref D) H):ik (tV K a) tt te fv D H Q:=by
 refine⟨λi m ys H=>m=xs.length-i/\i<=xs.length/\Pv i ys H,⟨xs.length,by simp,Yw _,h0⟩,?_⟩;rintro i m ys H ⟨rfl,hi,p⟩;have q:=hl i ys H hi p;by_cases bL:i<xs.length
 ·refine .inr ⟨⟨xs,xs[i],q,by simp[bL]⟩,Pv (i+1),λf_ H' p'=>⟨xs.length-(i+1),by omega,rfl,bL,p'⟩,λx H' y=>?_⟩;obtain⟨e,y⟩:=y
  grind
 ·have e:i=xs.length:=by omega
  subst e;exact .inl ⟨⟨xs,q,Yd _⟩,hd ys H p⟩
theorem uV{lo:Int}{n:Nat}{tt:TT}{te:TE}{fv:St}{D:Addr}{H:Hp}{Q:VK}(Pv:Nat->List V->Hp->Prop)(h0:Pv 0 [] (upd H D (.lst [])))
  (hs:∀i ys H,i<n->Pv i ys H->tt (some (.int (lo+i))::fv) H λc H1=>if c=true then te (some (.int (lo+i))::fv) H1 λy H3=>H3 D=some (.lst ys)/\ys.length<sizeLine/\Pv (i+1) (ys++[y]) (upd H3 D (.lst (ys++[y]))) else Pv (i+1) ys H1)
  (hd:∀ys H,Pv n ys H->Q (.ref D) H):ik (nK lo n) tt te fv D H Q:=by
 refine⟨λi m ys H=>m=n-i/\i<=n/\Pv i ys H,⟨n,by simp,Yw _,h0⟩,?_⟩;rintro i m ys H ⟨rfl,hi,p⟩;by_cases bL:i<n
 ·refine .inr ⟨bL,Pv (i+1),λf_ H' p'=>⟨n-(i+1),by omega,rfl,bL,p'⟩,λx H' y=>?_⟩;obtain⟨e,y⟩:=y
  grind
 ·have e:i=n:=by omega
  subst e;exact .inl ⟨Yd _,hd ys H p⟩
def Zfc(K:PySem.W.Frag)(tl:TE):TI:=λσ H R=>tl σ H λx H1=>∃a,x=.ref a/\((∃xs,ak K H1 a xs)/\R (iN K a) H1\/(∃xs,ay K H1 a xs)/\R (tV K a) H1)
theorem Zda(hl:PE X l tl):PI X tg l (Zfc X.K tl):=by
 intro pins s σ H R I h;refine az (hl pins s σ H _ I h) λv s1 zq=>?_;obtain⟨x,H1,I1,r1,q1⟩:=zq;obtain⟨a,e,q1⟩:=q1;subst e;cases r1;rcases q1 with⟨⟨xs,hq⟩,q⟩|⟨⟨xs,hq⟩,q⟩
 ·obtain⟨ah,rv,p,hz⟩:=I1.list hq;refine wpAny_pyIter_list p.isList ⟨s1.heap.objs.size,[s1.heap.objs.size],_,_,H1,rfl,I1.kept λb o e=>Yb _ e,L5 a _,⟨_,Yn _ rfl,rfl,rfl⟩,λb hb=>?_,q⟩;have e:b=s1.heap.objs.size:=by simpa using hb
  subst e;exact I1.nE (Yd _) (I1.av.fresh (Yd _))
 ·obtain⟨ah,rv,p,hz⟩:=I1.tuple hq;refine wpAny_pyIter_tuple (show s1.heap.IsTuple a ah.toArray from p) ⟨s1.heap.objs.size,[s1.heap.objs.size],_,_,H1,rfl,I1.kept λb o e=>Yb _ e,Lv a _,⟨_,Yn _ rfl,rfl,rfl⟩,λb hb=>?_,q⟩;have e:b=s1.heap.objs.size:=by simpa using hb
  subst e;exact I1.nE (Yd _) (I1.av.fresh (Yd _))
theorem CV:∀{xs:List V} {us:List Value},xs.length=us.length->(∀(i:Nat) (x:V) (u:Value),xs[i]?=some x->us[i]?=some u->RelV x u)->Vals xs us
 |[],[],_,_=>.nil
 |[],_::_,h,_=>by simp at h
 |_::_,[],h,_=>by simp at h
 |x::xs,u::us,h,k=>.cons (k 0 x u rfl rfl) (CV (by simpa using h) λi y w e1 e2=>k (i+1) y w (by simpa using e1) (by simpa using e2))
theorem LA:∀{bs:List Bool} {us:List Value},Vals (bs.map V.bl) us->us=bs.map Value.bool:=by
 intro bs;induction bs with
 |nil=>intro us r;cases r;rfl
 |cons b bs ih=>
  intro us r;rw[Wp] at r;cases r with
  |cons r t=>
   have e1:_=Value.bool b:=r;rw[e1,ih t];rfl
def bp(n:Nat):List Int:=(List.range n).map λi:Nat=>(i:Int)
theorem eF(n:Nat):(bp n).length=n:=by simp[bp]
theorem kr(h:i<n):(bp n)[i]?=some (i:Int):=by
 unfold bp
 grind
theorem ZaF(bs:List Bool):(List.range bs.length).any (λi=>bs.getD i false)=bs.any id:=by
 rw[Wi,Jy,Jy];constructor
 ·rintro⟨i,hi,hb⟩;rw[Wh] at hi;have e:bs.getD i false=bs[i]:=by rw[Yj,Yc hi];rfl
  rw[e] at hb;exact⟨bs[i],Jm hi,hb⟩
 ·rintro⟨b,hb,e⟩;obtain⟨i,hi,rfl⟩:=Wq.mp hb;refine⟨i,Wh.mpr hi,?_⟩
  grind
theorem ZaG(bs:List Bool):(List.range bs.length).all (λi=>bs.getD i false)=bs.all id:=by
 rw[Wi,Wn,Wn];constructor
 ·intro h b hb;obtain⟨i,hi,rfl⟩:=Wq.mp hb;simp_all
 ·intro h i hi;rw[Wh] at hi;rw[Yj,Yc hi];exact h _ (Jm hi)
theorem XC:∀{ns ms:List Int},ns.length=ms.length->(List.range ns.length).all (λj=>ns.getD j 0==ms.getD j 0)=decide (ns=ms):=by
 intro ns ms hl;rw[Wi,Wn,decide_eq_true_iff];constructor
 ·intro h;refine List.ext_getElem hl λi h1 h2=>?_;simp_all
 ·grind
section
variable {X:Cx}
def R1(K:PySem.W.Frag):List V->Hp->VK->Prop:=λxs H Q=>∃(p:Addr) (bs:List Bool),xs=[.ref p]/\ak K H p (bs.map V.bl)/\Q (.bl (bs.any id)) H
def R3(K:PySem.W.Frag):List V->Hp->VK->Prop:=λxs H Q=>∃(p:Addr) (bs:List Bool),xs=[.ref p]/\ak K H p (bs.map V.bl)/\Q (.bl (bs.all id)) H
theorem VR(hc:X.calm=true):cZ X (.builtin "any") (R1 X.K):=by
 rintro pins s σ H xs us Q I r ⟨p,bs,rfl,hq,q⟩;obtain⟨u,rfl,rx⟩:=vals1 r;cases rx;obtain⟨ah,r',pl,hz⟩:=I.list hq;have e:=LA r';subst e;have hl:=pl.isList;have bL:p<s.heap.objs.size:=by obtain⟨_,e,_⟩:=hl;exact Yv e
 refine call_any_walk (wpAny_pyIter_list hl ⟨s.heap.objs.size,_,_,_,_,_,λi=>bs.getD i false,rfl,Walks.list (show X.A.in1.handled=none from I.ok.hd hc) s.heap.objs.size p (Yz bL) (bs.map Value.bool).toArray,⟨⟨_,Yn _ rfl,rfl,rfl⟩,hl.push _⟩,?_,λh' tk hk=>?_⟩)
 ·intro i v s' Q' E' hP hQ;have jY:(bs.map Value.bool)[i]?=some v:=by simpa using hP
  rw[Yg] at jY;cases e:bs[i]? with
  |none=>grind
  |some b=>
   rw[e] at jY;have ev:=Ys jY;subst ev;refine wpAny_truthy_bool ?_
   grind
 ·refine⟨.bl (bs.any id),H,I.kept (λb o e=>hk b o (by simpa using Yz (Yv e)) (Yb _ e)),?_,q⟩;show Value.bool _=Value.bool _;have e:(bs.map Value.bool).toArray.size=bs.length:=by simp
  rw[e,ZaF]
theorem VS(hc:X.calm=true):cZ X (.builtin "all") (R3 X.K):=by
 rintro pins s σ H xs us Q I r ⟨p,bs,rfl,hq,q⟩;obtain⟨u,rfl,rx⟩:=vals1 r;cases rx;obtain⟨ah,r',pl,hz⟩:=I.list hq;have e:=LA r';subst e;have hl:=pl.isList;have bL:p<s.heap.objs.size:=by obtain⟨_,e,_⟩:=hl;exact Yv e
 refine call_all_walk (wpAny_pyIter_list hl ⟨s.heap.objs.size,_,_,_,_,_,λi=>bs.getD i false,rfl,Walks.list (show X.A.in1.handled=none from I.ok.hd hc) s.heap.objs.size p (Yz bL) (bs.map Value.bool).toArray,⟨⟨_,Yn _ rfl,rfl,rfl⟩,hl.push _⟩,?_,λh' tk hk=>?_⟩)
 ·intro i v s' Q' E' hP hQ;have jY:(bs.map Value.bool)[i]?=some v:=by simpa using hP
  rw[Yg] at jY;cases e:bs[i]? with
  |none=>grind
  |some b=>
   rw[e] at jY;have ev:=Ys jY;subst ev;refine wpAny_truthy_bool ?_
   grind
 ·refine⟨.bl (bs.all id),H,I.kept (λb o e=>hk b o (by simpa using Yz (Yv e)) (Yb _ e)),?_,q⟩;show Value.bool _=Value.bool _;have e:(bs.map Value.bool).toArray.size=bs.length:=by simp
  rw[e,ZaG]
inductive P7(K:PySem.W.Frag)(xs:List V)(H:Hp)(Q:VK):Prop
 |mk (x:V) (t:Value) (c:String) (b:Bool) (aC:xs=[x,.ty c]) (aV:iu K H x t) (bc:kitOne K t (.type c)=some b) (bO:Q (.bl b) H):P7 K xs H Q
def GV(K:PySem.W.Frag):List V->Hp->VK->Prop:=λxs H Q=>P7 K xs H Q
theorem XD:cZ X (.builtin "isinstance") (GV X.K):=by
 rintro pins s σ H xs us Q I r ⟨x,t,c,b,rfl,ty,e,q⟩;obtain⟨u,w',rfl,rx,ry⟩:=vals2 r;cases ry;exact ZK I rx ty e λtk=>⟨.bl b,H,I.tok tk,rfl,q⟩
theorem LB(hT:T="list"\/T="tuple")
  (ho:s.heap.get? l=some o)(hc:o.cls=.type T)(hd:o.data=.seq ah.toArray n)(hI:IntsAre ah ns)(iC:ah.length<64)(hsz:ah.toArray.size<=sizeLine)
  (h:∀(h1 h':Heap) (out:Array Value) (c7:List Int) (e:Nat),(∀b o,s.heap.get? b=some o->h1.get? b=some o)->(∀b o,h1.get? b=some o->h'.get? b=some o)->h'.get? h1.objs.size=some (seqObj "list" out e)->IntsAre out.toList c7->c7.Perm ns->c7.Pairwise (·<=·)->Q (.ref h1.objs.size) {s with heap:=h'}):
  wpAny (model prog w) A (call (.builtin "sorted") [.ref l]) Q E s:=by
 refine Calls.call_function_entry kind_sorted plain_sorted entry_sorted (args_sorted1 _) (wpAny_bind (wpAny_pure ?_));refine wpAny_bind (wpAny_collect_seq l hT ho hc hd (λh1 kp=>wpAny_bind (wpAny_newList ?_)) hsz);have e1:ah.toArray.toList=ah:=by simp
 rw[e1];have nJ:(h1.push (seqObj "list" ah.toArray 0)).get? h1.objs.size=some (seqObj "list" ah.toArray 0):=Yn _ rfl;refine wpAny_bind (wpAny_holding (wpAny_call_entry slot_list_sort ⟨_,nJ,rfl⟩ entry_list_sort (list_sort_tree nJ hI iC λout c7 a1 a2 a3=>⟨_,rfl,?_⟩) (args_list_sort _)));obtain⟨e,he⟩:=sortedHeap_at nJ;exact wpAny_pure ⟨_,rfl,h h1 _ out c7 e kp (λb ob hb=>by
  have bL:=Yv hb;rw[sortedHeap_old (Yz bL) (by rw[size_push'];exact Wt bL),Ji _ _ _ (Yz bL)];exact hb) he a1 a2 a3⟩
def Ff(K:PySem.W.Frag):List V->Hp->VK->Prop:=λxs H Q=>∃(p:Addr) (ns:List Int),xs=[.ref p]/\(ak K H p (ns.map V.int)\/ay K H p (ns.map V.int))/\ns.length<64/\
  ∀(l:Addr) (c7:List Int),H l=none->c7.Perm ns->c7.Pairwise (·<=·)->Q (.ref l) (upd H l (.lst (c7.map V.int)))
theorem Lh:cZ X (.builtin "sorted") (Ff X.K):=by
 rintro pins s σ H xs us Q I r ⟨p,ns,rfl,hq,iC,q⟩;obtain⟨u,rfl,rx⟩:=vals1 r;cases rx;have fin:∀(h1 h':Heap) (out:Array Value) (c7:List Int) (e:Nat),(∀b o,s.heap.get? b=some o->h1.get? b=some o)->(∀b o,h1.get? b=some o->h'.get? b=some o)->h'.get? h1.objs.size=some (seqObj "list" out e)->IntsAre out.toList c7->c7.Perm ns->c7.Pairwise (·<=·)->
   EP X pins σ Q (.ref h1.objs.size) {s with heap:=h'}:=λh1 h' out c7 e kp HQ he a1 a2 a3=>by
  have I1:=I.kept (t':=s.toks) kp;refine⟨.ref h1.objs.size,_,I1.laid (o:=.lst (c7.map V.int)) HQ (Yd _) ⟨?_,out.toList,e,L_ a1,by simpa[seqObj] using he⟩,rfl,q _ c7 (I1.av.fresh (Yd _)) a2 a3⟩;rw[Ya,a2.length_eq];exact Jo (iV (by omega))
 rcases hq with hq|hq
 ·obtain⟨ah,r',pl,hz⟩:=I.list hq;obtain⟨o,n,ho,hc,_,hd⟩:=pl;have hl:=r'.length;rw[Ya] at hl;rw[Ya] at hz;exact LB (.inl rfl) ho hc hd (intsAre_of r') (by omega) (by rw[Yt];omega) fin
 ·obtain⟨ah,r',pl,hz⟩:=I.tuple hq;obtain⟨o,ho,hc,n,hd⟩:=pl;have hl:=r'.length;rw[Ya] at hl;rw[Ya] at hz;exact LB (.inr rfl) ho hc hd (intsAre_of r') (by omega) (by rw[Yt];omega) fin
def Ow:List V->Hp->VK->Prop:=λxs H Q=>∃j:Int,xs=[.int j]/\∀p:Addr,H p=none->Q (.ref p) (upd H p (.iM 0 j))
def M3:List V->Hp->VK->Prop:=λxs H Q=>∃(p:Addr) (n:Nat),xs=[.ref p]/\H p=some (.iM 0 (n:Int))/\n<=1000/\∀l:Addr,H l=none->Q (.ref l) (upd H l (.lst ((bp n).map V.int)))
def yX(K:PySem.W.Frag):List V->Hp->VK->Prop:=λxs H Q=>∃(p:Addr) (ys:List V),xs=[.ref p]/\(ak K H p ys\/ay K H p ys)/\Q (.int ys.length) H
theorem YL:cZ X (.builtin "len") (yX X.K):=K9
theorem xG:cZ X (.type "range") Ow:=by
 rintro pins s σ H xs us Q I r ⟨j,rfl,q⟩;obtain⟨u,rfl,t,rfl⟩:=vals1 r;exact call_range_1 ⟨.ref s.heap.objs.size,_,I.laid (o:=.iM 0 j) (λb o e=>Yb _ e) (Yd _) ⟨_,_,_,Yn _ rfl⟩,rfl,q _ (I.av.fresh (Yd _))⟩
theorem BX(hc:X.calm=true):cZ X (.type "list") M3:=by
 rintro pins s σ H xs us Q I r ⟨p,n,rfl,hp,hn,q⟩;obtain⟨u,rfl,rx⟩:=vals1 r;cases rx;obtain⟨t,u,v,ho⟩:=I.av p _ hp;refine call_list_range (I.ok.hd hc) ho (small_one (by omega) (by omega) (by omega) (by omega)) (n:=n) (by rw[rangeSize_one];split<;>omega) (by omega) λh' tk Zfd c' hk hS' R4=>⟨.ref s.heap.objs.size,_,I.laid (o:=.lst ((bp n).map V.int)) hk (Yd _) ⟨?_,Zfd.toList,c',?_,by simpa using hS'⟩,rfl,q _ (I.av.fresh (Yd _))⟩
 ·rw[Ya,eF];exact Jo (iV hn)
 ·refine CV (by rw[Ya,eF];simp[R4.1]) λi x u e1 e2=>?_;obtain⟨t',rfl⟩:=R4.2 i u (by simpa using e2);have hi:i<n:=by
   have:=(Yh.mp e1).1;rw[Ya,eF] at this;exact this
  rw[Yg,kr hi] at e1;have e3:=Ys e1;subst e3;exact⟨t',by rw[show(0:Int)+(i:Int)*1=(i:Int) by omega]⟩
theorem Ox{ns:List Int}{ah:List Value}(r:Vals (ns.map V.int) ah){j:Nat}(h:j<ah.length):∃t,ah[j]=.int (ns.getD j 0) t:=by
 have hl:=r.length;rw[Ya] at hl;have hj:j<ns.length:=by omega
 obtain⟨u,hu,t,rfl⟩:=r.get (by rw[Yg,Yc hj];rfl)
 grind
def R5(K:PySem.W.Frag)(neg:Bool):R2:=λx y H Q=>∃(p q:Addr) (ns ms:List Int),x=.ref p/\y=.ref q/\ak K H p (ns.map V.int)/\ak K H q (ms.map V.int)/\Q (.bl (if neg=true then !decide (ns=ms) else decide (ns=ms))) H
theorem P8(hu:X.A.units<cLine):cF X (compareOp .Eq) (R5 X.K false):=by
 rintro pins s σ H x y v u Q I rx ry ⟨p,q,ns,ms,rfl,rfl,h1,h2,k⟩;cases rx;cases ry;obtain⟨ah,r1,p1,z1⟩:=I.list h1;obtain⟨gX,r2,p2,z2⟩:=I.list h2;have l1:=r1.length;have l2:=r2.length;rw[Ya] at l1 l2;by_cases hl:ns.length=ms.length
 ·refine SeqAt.eq_listAt (e:=λj=>ns.getD j 0==ms.getD j 0) p1.isList p2.isList (by simp;omega) hu (λj h1 h2=>?_) (cE I k ?_)
  ·obtain⟨t,e1⟩:=Ox r1 (by simpa using h1);obtain⟨t',e2⟩:=Ox r2 (by simpa using h2);have qW:ah.toArray[j]=.int (ns.getD j 0) t:=by simpa using e1
   have e2':gX.toArray[j]=.int (ms.getD j 0) t':=by simpa using e2
   rw[qW,e2'];exact SeqAt.EqAt.int_int _ _ _ _
  ·rw[if_neg Yi,Yt,←l1,XC hl]
 ·refine SeqAt.eq_list_lengthsAt p1.isList p2.isList (by simp;omega) hu (cE I k ?_)
  grind
theorem gu(M:St->Hp->Prop)(h1:∀nx:St->Hp->Prop,(∀σ H,M σ H->nx σ H)->t {D with nx:=nx} σ H)(h2:∀σ H,M σ H->u D σ H):vR t u D σ H:=h1 _ h2
theorem jP(hg:Gl X x)(hm:X.mg x=none)(hv:bootBuiltins x=some (.type T))(hn:x≠"__name__":=by decide)(hd:(x==("__debug__":Str))=false:=by decide):PE X (.Name x pos) (tC (.ty T)):=ZbH hg hm hv rfl hn hd
end
def HasFn(P:Program)(w:World)(K:PySem.W.Frag)(mg:Str->Option Value)(base:Heap)(k:Nat)(x:Str)(ps:List Str)(sp:Sp):Prop:=
 ∃f fd,aG P w K mg base aN k f fd ps sp/\Binds K fd ps []/\keepIn K (.ref f)=true/\mg x=some (.ref f)
section
variable {P:Program}{w:World}{K:PySem.W.Frag}{mg:Str->Option Value}{base:Heap}{X:Cx}{k j:Nat}{sp:Sp}{x:Str}{ps:List Str}
theorem aT(h:HasFn X.prog X.w X.K X.mg X.base k x ps sp)(hr:c8 j X.A)(hj:k<=j)(hg:Gl X x)(ha:PA X (e::es) t)
  (kU:(x==("__debug__":Str))=false:=by decide)(he:starEach (e::es) X.env=(false,eval e X.env)::starEach es X.env:=by rfl)(c6:(backTo pos (starEach es X.env)).any (·.1)=false:=by rfl):
  PE X (.Call (.Name x p) (e::es) [] pos) (Rc sp [] E0 t):=by
 obtain⟨f,fd,F,b,kp,m⟩:=h;exact ZbK F (hr.mono hj) hg m kp b .nil yL ha kU he c6
theorem cq(h:H p=none)(o:HO):ai H (upd H p o):=λb u q=>by rw[aP (ck q h)];exact q
theorem ai.iD(e:ai H H')(h:ay K H a xs):ay K H' a xs:=by
 rcases h with(h|⟨o,h⟩)|h;·exact .inl (.inl (e _ _ h))
 ·exact .inl (.inr ⟨o,e _ _ h⟩)
 ·exact .inr h
theorem cB(h:X.K=K):jj X (vU K):=h▸Fe
theorem eI(h:X.K=K):jj X (GO K):=h▸P1
theorem jK(h:X.K=K):cZ X (.builtin "isinstance") (GV K):=h▸XD
theorem c5(h:X.K=K):cZ X (.builtin "len") (yX K):=h▸YL
theorem kP(h:Q true H):yW σ H Q:=h
theorem aX(h:n σ H):Q8 ⟨n,rt,bk,ct⟩ σ H:=h
theorem mZ(M:St->Hp->Prop)(h1:∀nx:St->Hp->Prop,(∀σ H,M σ H->nx σ H)->GI c a b {D with nx:=nx} σ H)(h2:∀σ H,M σ H->u D σ H):vR (GI c a b) u D σ H:=h1 _ h2
theorem Zdb(x:Int)(h0:0<m)(h1:m<=2^62):-(2^64)<x % m/\x % m<2^64:=by
 have a:=Jb x (HR h0);have b:=W0 x h0;omega
theorem LC:∀(l:List α) (k:Nat) (h:k<l.length),l.Perm (l[k]::l.eraseIdx k)
 |[],k,h=>absurd h (Wj k)
 |a::r,0,_=>List.Perm.refl _
 |a::r,k+1,h=>(List.Perm.cons a (LC r k (Nat.lt_of_succ_lt_succ h))).trans (List.Perm.swap _ _ _)
theorem Mc(f:α->β):∀(l:List α) (k:Nat),(l.map f).eraseIdx k=(l.eraseIdx k).map f
 |[],_=>rfl
 |_::_,0=>rfl
 |a::r,k+1=>by
  show f a::(r.map f).eraseIdx k=f a::(r.eraseIdx k).map f;rw[Mc f r k]
theorem FO{n:Nat}{i:Int}(h0:0<=i)(h1:i<n):jX n i=some i.toNat:=by
 unfold jX
 grind
theorem lN{ns:List Int}{i:Int}(h0:0<=i)(h1:i<ns.length):dI (ns.map V.int) i=some (.int (ns.getD i.toNat 0)):=by
 have e:i=((i.toNat:Nat):Int):=by omega
 rw[e];refine gq ?_
 grind
theorem lI{ns:List Int}{i:Nat}{y:V}(h:(ns.map V.int)[i]?=some y):∃z,y=.int z/\ns[i]?=some z:=by
 rw[Yg] at h;cases e:ns[i]? with
 |none=>grind
 |some z=>grind
theorem M4(ns:List Int)(z:Int):ns.map V.int++[V.int z]=(ns++[z]).map V.int:=by simp
theorem M5(ns:List Int)(lo hi:Option Int):∃ms:List Int,nF (ns.map V.int) lo hi=ms.map V.int:=by
 refine⟨(ns.drop (HT.fZ ns.length 0 lo)).take (HT.fZ ns.length ns.length hi-HT.fZ ns.length 0 lo),?_⟩;unfold nF;simp_all
end
theorem P9:bootBuiltins "abs"=some (.builtin "abs"):=by decide+kernel
theorem Zdc:bootBuiltins "any"=some (.builtin "any"):=by decide+kernel
theorem P_:bootBuiltins "all"=some (.builtin "all"):=by decide+kernel
theorem cP:bootBuiltins "len"=some (.builtin "len"):=by decide+kernel
theorem Zdd:bootBuiltins "min"=some (.builtin "min"):=by decide+kernel
theorem D9:bootBuiltins "sorted"=some (.builtin "sorted"):=by decide+kernel
theorem jF:bootBuiltins "isinstance"=some (.builtin "isinstance"):=by decide+kernel
theorem sM:bootBuiltins "list"=some (.type "list"):=by decide+kernel
theorem lF:bootBuiltins "tuple"=some (.type "tuple"):=by decide+kernel
theorem sA:bootBuiltins "range"=some (.type "range"):=by decide+kernel
theorem yj:bootBuiltins "bool"=some (.type "bool"):=by decide+kernel
theorem Qa:bootBuiltins "int"=some (.type "int"):=by decide+kernel
theorem vy:bootBuiltins "str"=some (.type "str"):=by decide+kernel
def Bd(d p:Int):Prop:=0<=d/\d<p
inductive M6(K:PySem.W.Frag)(vs:List V)(H:Hp)(Q:VK):Prop
 |mk (a:Addr) (ns:List Int) (k:Int) (aC:vs=[.ref a,.int k]) (aV:ak K H a (ns.map V.int)) (bc:0<=k) (bO:∀c:Int,Q (.int c) H):M6 K vs H Q
def Qb(K:PySem.W.Frag):Sp:=λvs H Q _=>M6 K vs H Q
inductive Md(K:PySem.W.Frag)(vs:List V)(H:Hp)(Q:VK):Prop
 |mk (c:Int) (a:Addr) (ps:List Int) (aC:vs=[.int c,.ref a]) (aV:ak K H a (ps.map V.int)) (bc:(∀p∈ps,0<p/\p<1073741824)) (bO:ps.length<=60) (cG:∀(l:Addr) (ds:List Int) (H':Hp),H l=none->ai H H'->H' l=some (.lst (ds.map V.int))->Paired Bd ds ps->Q (.ref l) H'):Md K vs H Q
def yk(K:PySem.W.Frag):Sp:=λvs H Q _=>Md K vs H Q
inductive M7(vs:List V)(H:Hp)(Q:VK):Prop
 |mk (c:Int) (n:Nat) (aC:vs=[.int c,.int (n:Int)]) (aV:n<=60) (bc:∀(t:Addr) (ns:List Int) (H':Hp),H t=none->ai H H'->H' t=some (.tup (ns.map V.int))->ns.Perm (bp n)->Q (.ref t) H'):M7 vs H Q
def Qc:Sp:=λvs H Q _=>M7 vs H Q
theorem Oy(ho:PE X o to)(hi:PE X i ti)(hs:qz X t)(he:PE X e te)
  (h1:swapsWithSole [.Subscript o i tp] e pos.line X.env=pure false:=by rfl)(h2:swappedStores [.Subscript o i tp] e X.env=pure none:=by rfl)
  (h3:(assignEach [.Subscript o i tp] X.env).map (·.2)=[assign (.Subscript o i tp) X.env]:=by rfl)
  (ha:∀v,assign (.Subscript o i tp) X.env v=(do
   let ov←holding [v] (eval o X.env);let iv←holding [v,ov] (eval i X.env)
   standAt tp
   holding [v,ov,iv] (setItem ov iv v)
   release [v,ov,iv] []):=by intro _;rfl):PS X (.Assign [.Subscript o i tp] e pos) (vS te (RU to ti t)):=mY he (Zc0 ho hi hs ha) h1 h2 h3
def R6(h:Heap)(a C:Addr)(d:Option Addr)(vs:Array Value):Prop:=∃oe:Obj,h.get? a=some oe/\oe.cls=.ref C/\oe.dict=d/\oe.data=.fields vs/\1<vs.size
def xo(a C:Addr)(d:Option Addr):HO:=.ext λh=>∃vs,R6 h a C d vs
def Fly(lo:Nat)(H:Hp)(h:Heap)(vs:Array Value):Prop:=
 vs[1]?=some Value.none\/∃T oT ts,vs[1]?=some (Value.ref T)/\lo<=T/\H T=none/\h.get? T=some oT/\oT.data=.fields ts/\ts[3]?=some Value.none
inductive Rh(P:Program)(w:World)(outer:List Env)(H:Hp)(s:Shared)(E:XK)(e:Value)(s':Shared):Prop
 |mk (a C d:Addr) (H':Hp) (vs:Array Value) (aC:e=.ref a) (aV:s.heap.objs.size<=a) (bc:s'.os=s.os) (bO:AllBare s'.gens) (cG:Un (gZ outer) [] H H' s.heap s'.heap) (dH:de P w H' s'.heap) (gc:H' a=some (xo a C (some d))) (g_:R6 s'.heap a C (some d) vs) (nT:Fly s.heap.objs.size H' s'.heap vs) (t4:E (.ref C) (some d) H'):Rh P w outer H s E e s'
def l5(P:Program)(w:World):ji:=λouter H s E e s'=>Rh P w outer H s E e s'
section
variable {M:Model}{A:Around}{Er:Value->Shared->Prop}{s:Shared}
end
section
variable {P:Program}{w:World}{A:Around}{Er:Value->Shared->Prop}
end
section
variable {P:Program}{w:World}{K:PySem.W.Frag}{mg:Str->Option Value}{base:Heap}{N:List Str}{qual:Str}{scope:Scope}{f:Addr}{cd:Value}{A:Around}{outer:List Env}{s:Shared}{H:Hp}{E:XK}
theorem Zfe:PassesOwn (model P w) (lV (l5 P w) P w K mg base N qual scope f cd A outer s H E).A (lV (l5 P w) P w K mg base N qual scope f cd A outer s H E).env (lV (l5 P w) P w K mg base N qual scope f cd A outer s H E).xe:=
 λe s' h=>PassesOwn.leaving (Q₁:=λe qT=>l5 P w outer H s E e qT) e s' h
end
section
variable {X:Cx}{k j:Nat}{f C:Addr}{fd:FuncData}{ps:List Str}{sp:Sp}{dZ:List V}{ds:List Value}{E:St->XK}{x m:Str}{p pos apos:Pos}{e o:Expr}{es:List Expr}{ta:TE}{t:TA}
end
section
variable {P:Program}{w:World}{K:PySem.W.Frag}{mg:Str->Option Value}{base:Heap}
theorem aM.okX{x qual:Str}{st:Stmt}{f:Addr}{fd:FuncData}{N ps:List Str}{k:Nat}{sp:Sp}(F:aM K x qual st f fd)(S:aQ N ps (aL st))(len:∀vs H Q E,sp vs H Q E->vs.length=ps.length)
  (vH:∀(aE:Value) (A:Around) (outer:List Env) (s:Shared) (H:Hp) (vs:List V) (Q:VK) (E:XK),c8 k (A.deeper (envOfC qual (aL st) s.heap.objs.size f aE))->sp vs H Q E->
   ∃t,fY (lV (l5 P w) P w K mg base N qual (aL st) f aE A outer s H E) (ku st) t/\t {nx:=λ_ H'=>Q .aA H',rt:=Q} (start N vs) H):aG P w K mg base (l5 P w) (k+1) f fd ps sp:=by
 obtain⟨oc,od,kV,doc,pm,an,aE,ct,nM,rfl,lk,jh⟩:=F.ex;exact Rg lk jh S len λA outer s H vs Q E hr lZ=>vH aE A outer s H vs Q E hr lZ
end
section
variable {prog:Program}{w:World}{A:Around}{E:Value->Shared->Prop}{h:Heap}{g:Array GenState}{d:Drawn}{t:Nat}{os:OsState}
variable {nm q:Str}{C N:Addr}{bs bm:List Value}{Zgy:Bool}{sn:List Str}{sub:List Value}{ab:Bool}{col:Option Bool}{dd:Option Addr}{k0 k1 k2 k3 k5:Option Value}
local macro_rules|`(tactic|walk_at "vlu")=>`(tactic|exact PySem.F.excBase_ValueError)
end
end L2
namespace L2
open PySem PySem.Spec PyProof.Rows
open PySem.W (Looks InstAt looks_findIn looks_typeIn looks_clsIn looks_mroIn looks_find findObj findIn mroIn clsIn)
section
variable {prog:Program}{w:World}{A:Around}{E:Value->Shared->Prop}{s:Shared}{K:PySem.W.Frag}{x C:Addr}{ox:Obj}{od:Option Obj}{name:Str}
end
section
variable {prog:Program}{w:World}{A:Around}{E:Value->Shared->Prop}{s:Shared}{K:PySem.W.Frag}{x C:Addr}{name:Str}{nV v:Value}{b:Bool}{tk:Tok}
end
section
variable {X:Cx}{o e value:Expr}{f:Str}{pos pos':Pos}{ta tv:TE}
end
section
variable {X:Cx}{CX:ji}{k:Nat}{f C:Addr}{fd:FuncData}{ps:List Str}{sp:Sp}{dZ:List V}{ds:List Value}{E:XK}{x m:Str}{p pos apos:Pos}{e:Expr}{es:List Expr}{t:TA}
end
section
variable {M:Model}{A:Around}{E:Value->Shared->Prop}{s:Shared}{K:PySem.W.Frag}{a C:Addr}
end
section
variable {X:Cx}{x:Str}{p pos apos:Pos}{e:Expr}{es:List Expr}{t:TA}
end
section
variable {X:Cx}{k:Nat}{f C:Addr}{fd:FuncData}{ps:List Str}{sp:Sp}{dZ:List V}{ds:List Value}{E:St->XK}{x:Str}{p pos cv:Pos}{e:Expr}{es:List Expr}{t:TA}
end
section
variable {X:Cx}{pins:List (Addr×Obj)}{σ:St}{H:Hp}{s:Shared}
end
section
variable {M:Model}{A:Around}{E:Value->Shared->Prop}{s:Shared}{K:PySem.W.Frag}{a C B:Addr}{d:Option Addr}{vs:Array Value}
end
section
variable {X:Cx}{B:Addr}{i:Nat}{n x:Str}{body Zgp:List Stmt}{b0:Stmt}{px hp pos:Pos}{tb:(St->XK)->TS}{th:TS}
end
section
variable {X:Cx}{e:Expr}{te:TE}{pos:Pos}
end
section
variable {X:Cx}{e e2:Expr}{es:List Expr}{te:TE}{t:TJ}{pos:Pos}
end
end L2
namespace L2
open PySem PySem.Spec PyProof.Rows
structure Bl(mg:Str->Option Value):Prop where
 cQ:mg "len"=none
 Zeo:mg "abs"=none
 sT:mg "list"=none
 iY:mg "range"=none
 lJ:mg "tuple"=none
 Zep:mg "any"=none
 Ri:mg "all"=none
 jG:mg "isinstance"=none
 yB:mg "bool"=none
 Rj:mg "int"=none
 vJ:mg "str"=none
 EE:mg "sorted"=none
 Zeq:mg "min"=none
 Zer:mg "max"=none
 Zgq:mg "sum"=none
 Zde:mg "dict"=none
 Zgg:mg "reversed"=none
 Zgc:mg "ValueError"=none
theorem Zff{X:Cx}{K:PySem.W.Frag}(hc:X.calm=true)(h:X.K=K):cZ X (.builtin "any") (R1 K):=h▸VR hc
theorem R7{X:Cx}{K:PySem.W.Frag}(hc:X.calm=true)(h:X.K=K):cZ X (.builtin "all") (R3 K):=h▸VS hc
theorem sortedK{X:Cx}{K:PySem.W.Frag}(h:X.K=K):cZ X (.builtin "sorted") (Ff K):=h▸Lh
theorem kW{X:Cx}{K:PySem.W.Frag}(h:X.K=K):cF X (compareOp .In) (wm K false):=h▸ZM
theorem yC{X:Cx}{K:PySem.W.Frag}(h:X.K=K):cF X (compareOp .NotIn) (wm K true):=h▸WV
theorem Oz{X:Cx}{K:PySem.W.Frag}(h:X.K=K):jj X (Ho K):=h▸Zc4
section
variable {P:Program}{w:World}{K:PySem.W.Frag}{mg:Str->Option Value}{base:Heap}
end
theorem Qd{K:PySem.W.Frag}:kitOne K (.type "int") (.type "int")=some true:=by kernel_rfl
theorem FP{K:PySem.W.Frag}:kitOne K (.type "int") (.type "bool")=some false:=by kernel_rfl
theorem Qe{K:PySem.W.Frag}:kitOne K (.type "bool") (.type "bool")=some true:=by kernel_rfl
theorem Zdf{K:PySem.W.Frag}:kitOne K (.type "str") (.type "bool")=some false:=by kernel_rfl
theorem Zdg{K:PySem.W.Frag}:kitOne K (.type "str") (.type "int")=some false:=by kernel_rfl
theorem Qf{K:PySem.W.Frag}:kitOne K (.type "str") (.type "str")=some true:=by kernel_rfl
theorem Zdh{K:PySem.W.Frag}:kitOne K (.type "list") (.type "bool")=some false:=by kernel_rfl
theorem Zdi{K:PySem.W.Frag}:kitOne K (.type "list") (.type "int")=some false:=by kernel_rfl
theorem Zdj{K:PySem.W.Frag}:kitOne K (.type "list") (.type "str")=some false:=by kernel_rfl
theorem Zdk{K:PySem.W.Frag}:kitOne K (.type "list") (.type "list")=some true:=by kernel_rfl
theorem Zdl{K:PySem.W.Frag}:kitOne K (.type "list") (.type "tuple")=some false:=by kernel_rfl
theorem Zdm{K:PySem.W.Frag}:kitOne K (.type "tuple") (.type "bool")=some false:=by kernel_rfl
theorem Zdn{K:PySem.W.Frag}:kitOne K (.type "tuple") (.type "int")=some false:=by kernel_rfl
theorem Zdo{K:PySem.W.Frag}:kitOne K (.type "tuple") (.type "str")=some false:=by kernel_rfl
theorem Zdp{K:PySem.W.Frag}:kitOne K (.type "tuple") (.type "list")=some false:=by kernel_rfl
theorem Zdq{K:PySem.W.Frag}:kitOne K (.type "tuple") (.type "tuple")=some true:=by kernel_rfl
theorem D_(ns:List Int)(o:Option Int):(ns++o.toList).map V.int=ns.map V.int++o.toList.map V.int:=by simp
inductive Dt where
 |aA|bl (b:Bool)|int (i:Int)|str (x:Str)|lst (ds:List Dt)|tup (ds:List Dt)
def At(H:Hp):Nat->V->Dt->Prop
 |_,v,.aA=>v=.aA
 |_,v,.bl b=>v=.bl b
 |_,v,.int i=>v=.int i
 |_,v,.str x=>v=.str x
 |0,_,.lst _=>False
 |0,_,.tup _=>False
 |m+1,v,.lst ds=>∃a xs,v=.ref a/\H a=some (.lst xs)/\ds.length<=1000/\Paired (At H m) xs ds
 |m+1,v,.tup ds=>∃a xs,v=.ref a/\H a=some (.tup xs)/\ds.length<=1000/\Paired (At H m) xs ds
theorem At.same(g:ai H H'):∀{m:Nat} {v:V} {d:Dt},At H m v d->At H' m v d
 |_,_,.aA,h=>by unfold At at h⊢;exact h
 |_,_,.bl _,h=>by unfold At at h⊢;exact h
 |_,_,.int _,h=>by unfold At at h⊢;exact h
 |_,_,.str _,h=>by unfold At at h⊢;exact h
 |0,_,.lst _,h=>by unfold At at h;exact h.elim
 |0,_,.tup _,h=>by unfold At at h;exact h.elim
 |m+1,_,.lst _,h=>by
  obtain⟨a,xs,e,h1,h2,h3⟩:=h;exact⟨a,xs,e,g _ _ h1,h2,L2.Paired.bI h3 λ_ _ z=>At.same g z⟩
 |m+1,_,.tup _,h=>by
  obtain⟨a,xs,e,h1,h2,h3⟩:=h;exact⟨a,xs,e,g _ _ h1,h2,L2.Paired.bI h3 λ_ _ z=>At.same g z⟩
section
variable {H:Hp}{m:Nat}
end
theorem fQ:∀{xs:List α} {ys:List β} {i:Nat} {x:α},Paired F xs ys->xs[i]?=some x->∃y,ys[i]?=some y/\F x y:=by
 intro xs ys i x h;induction h generalizing i with
 |nil=>intro e;simp at e
 |cons r t ih=>
  intro e;cases i with
  |zero=>
   have e:=Ys (show some _=some _ by simpa using e);subst e;exact⟨_,rfl,r⟩
  |succ i=>
   obtain⟨y,h1,h2⟩:=ih (i:=i) (by simpa using e);exact⟨y,by simpa using h1,h2⟩
theorem cU:∀{xs:List α} {ys:List β},Paired F xs ys->xs.length=ys.length:=by
 intro xs ys h;induction h with
 |nil=>rfl
 |cons _ _ ih=>rw[Wl,Wl,ih]
theorem M8{α:Type}{xs:List α}{i:Nat}{x:α}(h:xs[i]?=some x):dI xs (0+(i:Int))=some x:=by
 rw[show(0:Int)+(i:Int)=(i:Int) from by omega];exact gq h
def ZbW:List V->Hp->VK->Prop:=λxs H Q=>∃(p:Addr) (n:Nat),xs=[.ref p]/\H p=some (.iM 0 (n:Int))/\n<=1000/\∀l:Addr,H l=none->Q (.ref l) (upd H l (.tup ((bp n).map V.int)))
section
variable {prog:Program}{w:World}{A:Around}{E:Value->Shared->Prop}{s:Shared}
theorem XE{Q:List Value->Shared->Prop}{r:Addr}{n:Nat}{t u v:Tok}(hh:A.handled=none)(hr:IsRange s.heap r 0 (n:Int) 1 t u v)(hn:n<=1000)
  (k:∀h' tk (acc:Array Value),(∀b o,s.heap.get? b=some o->h'.get? b=some o)->ItemsOf (λi v=>∃t,v=.int (0+i*1) t) acc n->Q acc.toList {s with heap:=h',toks:=tk}):
  wpAny (model prog w) A (collect (.ref r)) Q E s:=by
 refine wpAny_bind (wpAny_runValue (codeAny_builtin PySem.F.entry_proto_collect (wpAny_bind (wpAny_newObj_type (wpAny_pure ⟨plainId_quiet PySem.F.plain_list_iadd _,codeAny_builtin PySem.F.entry_list_iadd ?_⟩)))));have Zes:∀s':Shared,(∃(h':Heap) (tk:Nat) (acc:Array Value) (c:Nat),s'={s with heap:=h',toks:=tk}/\(∀b o,b≠s.heap.objs.size->(s.heap.push {cls:=.type "list",data:=.seq ([]:List Value).toArray}).get? b=some o->h'.get? b=some o)/\
   h'.get? s.heap.objs.size=some {cls:=.type "list",dict:=none,data:=.seq acc c,slots:=#[]}/\ItemsOf (λi v=>∃t,v=.int (0+i*1) t) acc n)->
   wpAny (model prog w) A (match Value.ref s.heap.objs.size with
    |Value.ref a=>do
     match(←load a).data with
      |Data.seq xs _=>pure xs.toList
      |_=>unsupported "internal:collect"
    |_=>unsupported "internal:collect") Q E s':=by
  rintro s' ⟨h',tk,acc,c,rfl,kp,here,ah⟩;exact wpAny_bind (wpAny_load here (wpAny_pure (k h' tk acc (λb o hb=>kp b o (Yz (Yv hb)) (Yb _ hb)) ah)))
 refine wpAny_mono (wpAny_extend_range (s:={s with heap:=s.heap.push {cls:=.type "list",data:=.seq ([]:List Value).toArray}})
  (R:=λr s'=>r=.ok (.ret (.ref s.heap.objs.size))/\∃(h':Heap) (tk:Nat) (acc:Array Value) (c:Nat),s'={s with heap:=h',toks:=tk}/\(∀b o,b≠s.heap.objs.size->(s.heap.push {cls:=.type "list",data:=.seq ([]:List Value).toArray}).get? b=some o->h'.get? b=some o)/\
   h'.get? s.heap.objs.size=some {cls:=.type "list",dict:=none,data:=.seq acc c,slots:=#[]}/\ItemsOf (λi v=>∃t,v=.int (0+i*1) t) acc n)
  hh (Yb _ hr) (small_one (by omega) (by omega) (by omega) (by omega)) (by rw[rangeSize_one];split<;>omega) (by omega) _ _ 0 (Yn _ rfl) λh' tk acc c kp here ah=>⟨rfl,h',tk,acc,c,rfl,kp,here,ah⟩) (λfin s' z=>?_) λe s' z=>?_
 ·cases fin with
  |done f=>grind
  |again c'=>exact⟨z.1,codeAny_mono z.2 λr qT hr=>by obtain⟨rfl,hz⟩:=hr;exact Zes qT hz⟩
 ·grind
theorem ZbX(r:Addr)(n:Nat)(t u v:Tok)(hn:n<=1000):
  Meets (Builtin.«tuple.__new__» ⟨[.type "tuple",.ref r],[]⟩) (λA R s=>A.handled=none/\IsRange s.heap r 0 (n:Int) 1 t u v/\∀(h':Heap) (tk:Nat) (acc:Array Value),(∀b o,s.heap.get? b=some o->h'.get? b=some o)->ItemsOf (λi v=>∃t,v=.int (0+i*1) t) acc n->
   R (.ok (.ret (.ref h'.objs.size))) {s with heap:=h'.push {cls:=.type "tuple",data:=.seq acc},toks:=tk}):=
 .of_wp λprog w A R s h=>by
  obtain⟨hp,g,d,tk,os⟩:=s;obtain⟨hh,ht,q⟩:=h;have sub:=sub_tuple_self;have ini:=init_tuple_lookup;have mh:=madeHere_tuple;have hh1:A.in1.handled=none:=hh
  wp_walk using PySem.AutoSeq1.wpAny_loadPart' ht,wpAny_typeOf ty,XE (A:=A.in1) hh1 ht hn
  intro h' tk' acc kp ah;show wpAny _ _ (Builtin.Tuple.tupleExact acc.toList.toArray>>=λv=>ret v) _ _ _;unfold Builtin.Tuple.tupleExact;have lz:acc.toList.toArray.size<=sizeLine:=by
   have e:=ah.1;rw[sizeLine_eq];simp;omega
  refine wpAny_bind (wpAny_newObj_type (wpAny_pure ⟨_,rfl,?_⟩) lz);have e:acc.toList.toArray=acc:=by simp
  rw[e];exact q h' tk' acc kp ah
end
theorem K5(hc:X.calm=true):cZ X (.type "tuple") ZbW:=by
 intro pins s σ H xs us Q I r h;obtain⟨p,n,rfl,hp,hn,q⟩:=h;obtain⟨u,rfl,rx⟩:=vals1 r;cases rx;obtain⟨t,u,v,ho⟩:=I.av p _ hp;refine callType_new PySem.F.called_tuple (by decide) (PySem.F.typeCall_tuple_1 _) (PySem.F.newCall_tuple_1 _) (λobj=>PySem.F.args_object_init_2 obj _) PySem.F.entry_tuple_new (ZbX p n t u v hn) ⟨I.ok.hd hc,ho,λh' tk acc kp ah=>⟨⟨_,Yn _ rfl,rfl⟩,?_⟩⟩;have I1:=I.kept (t':=tk) kp;have vs:Vals ((bp n).map V.int) acc.toList:=by
  refine CV (by rw[Ya,eF];simp[ah.1]) λi x u e1 e2=>?_;obtain⟨t',rfl⟩:=ah.2 i u (by simpa using e2);have hi:i<n:=by
   have:=(Yh.mp e1).1;rw[Ya,eF] at this;exact this
  rw[Yg,kr hi] at e1;have e3:=Ys e1;subst e3;exact⟨t',by rw[show(0:Int)+(i:Int)*1=(i:Int) by omega]⟩
 have I2:Inv X pins σ (upd H h'.objs.size (.tup ((bp n).map V.int))) {s with heap:=h'.push {cls:=.type "tuple",data:=.seq acc},toks:=tk}:=
  I1.laid (t':=tk) (λb o e=>Yb _ e) (Yd _) (show cI X.prog X.w _ _ _ (.tup _) from⟨by rw[Ya,eF];exact Jo (iV hn),acc.toList,vs,by simpa using kz.new h' acc⟩)
 exact⟨.ref h'.objs.size,_,I2,rfl,q _ (I1.av.fresh (Yd _))⟩
section
variable {X:Cx}{e e2:Expr}{es:List Expr}{te:TE}{t:TF}{pos:Pos}
end
end L2
namespace L2
open PySem PySem.Spec PyProof.Rows
open PySem.W (Looks InstAt looks_findIn looks_typeIn looks_clsIn looks_mroIn looks_find findObj findIn mroIn clsIn)
section
variable {X:Cx}{B1 B2:Addr}{i:Nat}{n x1 x2:Str}{body Zgk Zgl:List Stmt}{b1 b2:Stmt}{px1 px2 nU dB pos:Pos}{tb:(St->XK)->TS}{th1 th2:TS}
end
end L2
namespace zw
open L2
theorem Dy(n:Nat):(bp n).Nodup:=by
 exact List.Pairwise.map _ (λa b h e=>h (by omega)) List.nodup_range
section
variable {t:List Int}{n:Nat}
end
end zw
namespace L2
open PySem PySem.Spec PyProof.Rows
def Row(K:PySem.W.Frag)(H:Hp)(p:Addr)(ns:List Int):Prop:=ak K H p (ns.map V.int)\/ay K H p (ns.map V.int)
theorem Row.same{K:PySem.W.Frag}{H H':Hp}{p:Addr}{ns:List Int}(e:ai H H')(h:Row K H p ns):Row K H' p ns:=by
 rcases h with h|h;·exact .inl (e.seq h)
 ·exact .inr (e.iD h)
def full(ns:List Int):Bool:=decide (ns.Perm (bp ns.length))
theorem oy(h:full ns=true):ns.Perm (bp ns.length):=of_decide_eq_true h
theorem p_(h:ns.Perm (bp n)):full ns=true:=decide_eq_true (by rw[h.length_eq,eF];exact h)
theorem XF(n:Nat):(bp n).Pairwise (·<=·):=by
 unfold bp;rw[Wu];exact List.pairwise_lt_range.imp λh=>by omega
theorem LD:∀{as bs:List Int},as.Perm bs->as.Pairwise (·<=·)->bs.Pairwise (·<=·)->as=bs
 |[],bs,p,_,_=>by
  simp_all
 |a::as,[],p,_,_=>by
  simp_all
 |a::as,b::bs,p,h1,h2=>by
  rw[List.pairwise_cons] at h1 h2;have e:a=b:=by
   have ha:=p.subset Yk;have hb:=p.symm.subset Yk
   grind
  subst e;rw[LD (List.Perm.cons_inv p) h1.2 h2.2]
theorem XG(p:c7.Perm ns)(h:c7.Pairwise (·<=·)):decide (c7=bp ns.length)=full ns:=by
 unfold full;rw[Wi,decide_eq_true_iff,decide_eq_true_iff];constructor;·grind
 ·intro q;exact LD (p.trans q) h (XF _)
def Rk(K:PySem.W.Frag)(neg:Bool)(tr:TE):TE:=jW (R5 K neg) (ph (Ff K) (ig tr je)) (ph M3 (ig (ph Ow (ig (ph (yX K) (ig tr je)) je)) je))
theorem ZaH{K:PySem.W.Frag}{i:Nat}{neg:Bool}{σ:St}{H:Hp}{p:Addr}{ns:List Int}{Q:VK}(hi:σ[i]?=some (some (.ref p)))(hR:Row K H p ns)(iC:ns.length<64)(q:∀H',ai H H'->Q (.bl (if neg=true then !full ns else full ns)) H'):
   (Rk K neg (gv i)) σ H Q:=by
 refine⟨_,hi,p,ns,rfl,hR,iC,λl c7 hl pm so=>?_⟩;have g1:ai H (upd H l (.lst (c7.map V.int))):=cq hl _;refine⟨_,hi,p,ns.map V.int,rfl,Row.same g1 hR,_,rfl,λr hr=>⟨r,(ns.map V.int).length,rfl,aU,by rw[Ya];omega,λu hu=>?_⟩⟩;have g3:=(g1.trans (cq hr (.iM 0 (((ns.map V.int).length:Nat):Int)))).trans (cq hu (.lst ((bp (ns.map V.int).length).map V.int)));refine⟨l,u,c7,bp (ns.map V.int).length,rfl,rfl,ak.of ?_,ak.of aU,?_⟩
 ·rw[aP (ck ((cq hr _) _ _ aU) hu)];exact(cq hr _) _ _ aU
 ·rw[Ya,XG pm so]
  grind
theorem any_false(n:Nat):(List.replicate n false).any id=false:=by
 induction n with
 |zero=>rfl
 |succ n ih=>grind
section
open PySem.AutoSeq1 (wpAny_loadPart')
open PySem.MeetsSeq PySem.SeqAt
theorem V6(l:Addr)(items:Array Value)(n:Nat)(dd:Option Addr)(sl:Array (Option Value))(x:Value)(e:Value->Bool)(j:Nat)(hj:j<items.size)
  (hit:e items[j]=true)(HS:∀m (hm:m<items.size),m<j->e items[m]=false):
  Meets (Builtin.«tuple.index» ⟨[.ref l,x],[]⟩)
   (λA R s=>s.heap.get? l=some {cls:=.type "tuple",dict:=dd,data:=.seq items n,slots:=sl}/\(∀y,y∈items->EqAt A.in1 s y x (e y))/\R (.ok (.ret (.int j s.toks))) {s with toks:=s.toks+1}):=
 .of_wp λprog w A R s h=>by
  obtain⟨hp,g,d,tk,os⟩:=s;obtain⟨hl,he,h⟩:=h
  wp_walk using wpAny_loadPart' hl
  show wpAny _ _ (forIn (m:=Sem) [:min items.size items.size] (none,()) _) _ _ _;rw[Std.Legacy.Range.forIn_eq_forIn_range'];refine wpAny_forIn_list _ (λrest b s'=>s'=⟨hp,g,d,tk,os⟩/\∃i,i<=j/\rest=List.range' i (items.size-i)) _ ?_ ?_ _ _ ⟨rfl,0,Yw _,by simp⟩
  ·rintro k rest b s' ⟨rfl,i,hi,hr⟩;have bL:i<items.size:=by omega
   obtain⟨rfl,qr⟩:k=i/\rest=List.range' (i+1) (items.size-(i+1)):=by
    have e:items.size-i=(items.size-(i+1))+1:=by omega
    rw[e,List.range'_succ] at hr;injection hr with h1 h2;exact⟨h1,h2⟩
   rw[W7 bL];refine wpAny_bind (he _ (Array.getElem_mem bL) prog w _ _ ?_);rcases Nat.lt_or_ge k j with hk|hk
   ·rw[HS k bL hk]
    wp_walk
    exact⟨rfl,k+1,by omega,qr⟩
   ·obtain rfl:k=j:=by omega
    rw[hit]
    wp_walk
    exact⟨_,rfl,h⟩
  ·grind
end
def Zdr(to:TE)(t:TA):TE:=λσ H Q=>to σ H λx H1=>∃(p:Addr) (ns:List Int),x=.ref p/\H1 p=some (.tup (ns.map V.int))/\t σ H1 λvs H2=>∃(z:Int) (j:Nat),vs=[.int z]/\H2 p=some (.tup (ns.map V.int))/\ns[j]?=some z/\(∀m,m<j->ns[m]?≠some z)/\Q (.int (j:Int)) H2
theorem V7:∀{ns:List Int} {us:List Value} {j:Nat} (h:j<us.length),Vals (ns.map V.int) us->∃n t,ns[j]?=some n/\us[j]=.int n t:=by
 intro ns;induction ns with
 |nil=>intro us j h r;cases r;simp at h
 |cons n ns ih=>
  intro us j h r;rw[Wp] at r;cases r with
  |cons r t=>
   cases j with
   |zero=>
    obtain⟨t',rfl⟩:=r;exact⟨n,t',rfl,rfl⟩
   |succ j=>
    obtain⟨n',t',e1,e2⟩:=ih (j:=j) (by simpa using h) t;exact⟨n',t',by simpa using e1,by simpa using e2⟩
theorem ZS(ns:List Int):(ns.map V.int).all ij=true:=by
 induction ns with
 |nil=>rfl
 |cons n ns ih=>rw[Wp,Jc,ih];rfl
theorem Li(ho:PE X o to)(ha:PA X [e] t)
  (m9:attributeBase o "index" X.env (eval o X.env)=eval o X.env:=by rfl)
  (GQ:((backTo cv (starEach [e] X.env)).all (λx=>!x.1)&&(backToKw cv (keywordEach [] X.env)).all (λx=>x.1.isSome)
   &&decide ([e].length+([]:List Keyword).length+(if([]:List Keyword).isEmpty then 0 else 1)<30))=true:=by rfl)
  (m_:(apos.endLine==cv.line)=true:=by rfl)(hs:starEach [e] X.env=(false,eval e X.env)::starEach [] X.env:=by rfl):
  PE X (.Call (.Attribute o "index" apos) [e] [] cv) (Zdr to t):=by
 intro pins s σ H Q I h;refine wpAny_Call_method_late m9 GQ m_ rfl (az (ho pins s σ H _ I h) λv s1 zq=>?_);obtain⟨x,H1,I1,r1,p,ns,ex,hp,q1⟩:=zq;subst ex;obtain rfl:v=Value.ref p:=r1;obtain⟨_,_,_,ob,g,oc,_,_,od⟩:=(show cI X.prog X.w H1 s1.heap p (.tup (ns.map V.int)) from I1.av p _ hp);refine⟨"tuple","tuple.index",F.plainAttrs_tuple,F.slot_tuple_index,F.type_tuple_index,⟨ob,g,oc⟩,λa ea=>by cases ea;exact⟨ob,g,od⟩,?_⟩;have hA:=ha cv pins s1 σ H1 _ I1 q1;rw[hs] at hA⊢;refine Calls.callWith_builtin rfl (Calls.evalArgs_plain ?_);refine az hA λus s2 zq=>?_;obtain⟨vs,H2,I2,r2,z,j,ev,dB,hj,HS,q2⟩:=zq;subst ev;obtain⟨u,rfl,ru⟩:=r2.one;obtain⟨tz,rfl⟩:=ru;obtain⟨_,ah,rv,⟨cls,dd,data,sl⟩,g2,Ta,n2,Tb,_⟩:=(show cI X.prog X.w H2 s2.heap p (.tup (ns.map V.int)) from I2.av p _ dB);simp only at Ta Tb;subst Ta Tb;have hlen:ah.length=ns.length:=by have:=rv.length;rw[Ya] at this;omega
 have Tc:j<ah.length:=by rw[hlen];exact(Yh.mp hj).1
 have ix:∀m (hm:m<ah.length),gG (.int z) ah[m]=decide (ns[m]?=some z):=λm hm=>by
  obtain⟨n',t',e1,e2⟩:=V7 hm rv;rw[e1,e2];show(n'==z)=decide (some n'=some z)
  grind
 refine call_meets F.slot_tuple_index ⟨_,g2,rfl⟩ F.entry_tuple_index (F.args_tuple_index_2 _ _) (V6 p ah.toArray n2 dd sl (.int z tz) (gG (.int z)) j (by rw[Yt];exact Tc) ?_ ?_) ⟨g2,?_,?_⟩;·rw[List.getElem_toArray,ix j Tc];exact decide_eq_true hj
 ·intro m hm bL;rw[List.getElem_toArray,ix m (by simpa using hm)];exact decide_eq_false (HS m bL)
 ·intro y hy;exact u6 (x:=.int z) ⟨tz,rfl⟩ rfl rv (ZS ns) y (by simpa using hy)
 ·exact⟨.int _,H2,I2.tok _,⟨_,rfl⟩,q2⟩
section
variable {κ:Type}[DecidableEq κ]
def aO(kvs:List (κ×V))(k:κ):Option V:=(kvs.find? λkv=>decide (kv.1=k)).map (·.2)
def putK(kvs:List (κ×V))(k:κ)(v:V):List (κ×V):=
 if(kvs.any λkv=>decide (kv.1=k))=true then kvs.map (λkv=>if kv.1=k then(kv.1,v) else kv) else kvs++[(k,v)]
def fW(kvs:List (κ×V))(k:κ):List (κ×V):=kvs.filter λkv=>decide (kv.1≠k)
theorem e_{p:κ×V}{r:List (κ×V)}{k:κ}(e:p.1=k):aO (p::r) k=some p.2:=by simp[aO,J3,e]
theorem eM{p:κ×V}{r:List (κ×V)}{k:κ}(e:¬p.1=k):aO (p::r) k=aO r k:=by simp[aO,J3,e]
theorem sC(k:κ):∀kvs:List (κ×V),(kvs.any λkv=>decide (kv.1=k))=(aO kvs k).isSome
 |[]=>rfl
 |p::r=>by
  rw[Jh];by_cases e:p.1=k;·simp only[e_ e,decide_eq_true e,Bool.true_or,Option.isSome_some]
  ·rw[eM e,decide_eq_false e,J0];exact sC k r
theorem M9(k j:κ)(y:V):∀kvs:List (κ×V),aO (kvs.map λkv=>if kv.1=k then(kv.1,y) else kv) j=(aO kvs j).map λx=>if j=k then y else x
 |[]=>rfl
 |p::r=>by
  have ih:=M9 k j y r;rw[Wp];by_cases h:p.1=k
  ·rw[if_pos h];by_cases e:p.1=j;·rw[e_ (p:=(p.1,y)) e,e_ e,Option.map_some,if_pos (e.symm.trans h)]
   ·rw[eM (p:=(p.1,y)) e,eM e,ih]
  ·rw[if_neg h];by_cases e:p.1=j;·rw[e_ e,e_ e,Option.map_some,if_neg (λz=>h (e.trans z))]
   ·rw[eM e,eM e,ih]
theorem se(k j:κ)(y:V):∀kvs:List (κ×V),aO kvs k=none->aO (kvs++[(k,y)]) j=if j=k then some y else aO kvs j
 |[],_=>by
  by_cases e:k=j;·rw[if_pos e.symm];exact e_ (p:=(k,y)) e
  ·rw[if_neg (λz=>e z.symm)];exact eM (p:=(k,y)) e
 |p::r,hn=>by
  rw[Td];have hk:¬p.1=k:=λz=>by rw[e_ z] at hn;cases hn
  rw[eM hk] at hn;by_cases e:p.1=j;·rw[e_ e,e_ e,if_neg (λz=>hk (e.trans z))]
  ·rw[eM e,eM e,(se k j y r hn)]
theorem M_(kvs:List (κ×V))(k j:κ)(y:V):aO (putK kvs k y) j=if j=k then some y else aO kvs j:=by
 unfold putK;by_cases a:(kvs.any λkv=>decide (kv.1=k))=true
 ·rw[if_pos a,M9];rw[sC] at a;by_cases e:j=k
  ·obtain⟨x,hx⟩:=W9.mp a
   grind
  ·simp_all
 ·rw[if_neg a];refine se k j y kvs ?_;rw[sC] at a;cases q:aO kvs k with
  |none=>rfl
  |some x=>grind
theorem uP(kvs:List (κ×V))(k:κ)(v:V):(putK kvs k v).length<=kvs.length+1:=by
 unfold putK
 grind
theorem jI{kvs:List (κ×V)}{k:κ}(v:V)(h:aO kvs k=none):putK kvs k v=kvs++[(k,v)]:=by
 unfold putK;rw[sC,h];rfl
theorem fJ.sf(r:fJ o u):o.isSome=u.isSome:=by
 cases o with
 |none=>cases u with
  |none=>rfl
  |some _=>exact(show False from r).elim
 |some _=>cases u with
  |none=>exact(show False from r).elim
  |some _=>rfl
theorem fJ.getD(r:fJ o u)(rd:RelV d d'):RelV (o.getD d) (u.getD d'):=by
 cases o with
 |none=>cases u with
  |none=>exact rd
  |some _=>exact(show False from r).elim
 |some _=>cases u with
  |none=>exact(show False from r).elim
  |some _=>exact r
theorem KV.val{kvs:List (κ×V)}{vs:List (κ×Value)}(r:KV kvs vs)(k:κ):fJ (aO kvs k) (valueAt vs k):=by
 unfold KV at r;induction r with
 |nil=>exact True.intro
 |@cons p q ps qs h t ih=>
  obtain⟨h1,h2⟩:=h;by_cases e:p.1=k
  ·have e':q.1=k:=h1.symm.trans e;have b:valueAt (q::qs) k=some q.2:=by simp[valueAt,J3,e']
   rw[e_ e,b];exact h2
  ·have e':¬q.1=k:=λz=>e (h1.trans z);have b:valueAt (q::qs) k=valueAt qs k:=by simp[valueAt,J3,e']
   rw[eM e,b];exact ih
theorem KV.any(r:KV kvs vs)(k:κ):(kvs.any λkv=>decide (kv.1=k))=vs.any λkv=>decide (kv.1=k):=by
 induction r with
 |nil=>rfl
 |cons h t ih=>grind
theorem KV.GW(r:KV kvs vs)(k:κ)(ry:RelV y u):
  KV (kvs.map λkv=>if kv.1=k then(kv.1,y) else kv) (vs.map λkv=>if kv.1=k then(kv.1,u) else kv):=by
 induction r with
 |nil=>exact .nil
 |@cons p q ps qs h t ih=>
  refine .cons ?_ ih
  grind
theorem KV.put(r:KV kvs vs)(k:κ)(ry:RelV y u):KV (putK kvs k y) (stored vs k u):=by
 unfold putK stored;rw[r.any k];by_cases e:(vs.any λkv=>decide (kv.1=k))=true;·rw[if_pos e,if_pos e];exact r.GW k ry
 ·rw[if_neg e,if_neg e];exact Paired.snoc r ⟨rfl,ry⟩
theorem KV.drop(r:KV kvs vs)(k:κ):KV (fW kvs k) (without vs k):=by
 unfold fW without;induction r with
 |nil=>exact .nil
 |@cons p q ps qs h t ih=>
  obtain⟨h1,h2⟩:=h;rw[Wg,Wg];by_cases e:p.1=k;·grind
  ·have e':¬q.1=k:=λz=>e (h1.trans z);have a:decide (p.1≠k)=true:=by simp[e]
   have b:decide (q.1≠k)=true:=by simp[e']
   rw[if_pos a,if_pos b];exact .cons ⟨h1,h2⟩ ih
theorem KV.keys{kvs:List (κ×V)}{vs:List (κ×Value)}(r:KV kvs vs):kvs.map (·.1)=vs.map (·.1):=by
 induction r with
 |nil=>rfl
 |cons h t ih=>grind
theorem KV.length(r:KV kvs vs):kvs.length=vs.length:=Paired.length r
theorem Na(kvs:List (κ×V))(k:κ):(fW kvs k).length<=kvs.length:=Wk _ _
end
theorem kI(r:RelV (kV k) u):(dh P w).is k u=true:=by
 cases k with
 |inl i=>obtain⟨t,e⟩:=(show ∃t,u=Value.int i t from r);subst e;exact Xz P w i t
 |inr x=>obtain⟨t,e⟩:=(show ∃t,u=Value.str x t from r);subst e;exact XA P w x t
theorem Me:∀{ks:List Key} {us:List Value},Vals (ks.map kV) us->ItemsAre (dh P w) ks us
 |[],_,r=>by rw[List.map_nil] at r;cases r;exact .nil
 |k::ks,_,r=>by
  cases r with
  |cons h t=>exact .cons (kI h) (Me t)
abbrev KT(H:Hp):List (List Key×V)->List (List Key×Addr×Value)->Prop:=Paired λp q=>p.1=q.1/\H q.2.1=some (.tup (p.1.map kV))/\RelV p.2 q.2.2
theorem KT.val{H:Hp}{kvs:List (List Key×V)}{xs:List (List Key×Addr×Value)}(r:KT H kvs xs)(k:List Key):fJ (aO kvs k) ((atKey xs k).map (·.2)):=by
 induction r with
 |nil=>exact True.intro
 |@cons p q ps qs h t ih=>
  obtain⟨h1,_,h2⟩:=h;by_cases e:p.1=k
  ·have e':q.1=k:=h1.symm.trans e;have b:atKey (q::qs) k=some q.2:=by simp[atKey,e']
   rw[e_ e,b];exact h2
  ·have e':¬q.1=k:=λz=>e (h1.trans z);have b:atKey (q::qs) k=atKey qs k:=by simp[atKey,e']
   rw[eM e,b];exact ih
theorem KT.GW(r:KT H kvs xs)(k:List Key)(ry:RelV y u):
  KT H (kvs.map λkv=>if kv.1=k then(kv.1,y) else kv) (xs.map (putAt k u)):=by
 induction r with
 |nil=>exact .nil
 |@cons p q ps qs h t ih=>
  refine .cons ?_ ih;unfold putAt
  grind
theorem KT.put(r:KT H kvs xs)(k:List Key)(hb:H b=some (.tup (k.map kV)))(ry:RelV y u):
  KT H (putK kvs k y) (storedH xs k b u):=by
 have e:(kvs.any λkv=>decide (kv.1=k))=(atKey xs k).isSome:=by
  rw[sC,(r.val k).sf,Te]
 unfold putK storedH;rw[e];by_cases q:(atKey xs k).isSome=true;·rw[if_pos q,if_pos q];exact r.GW k ry
 ·rw[if_neg q,if_neg q];exact Paired.snoc r ⟨rfl,hb,ry⟩
theorem KT.keeps(r:KT H kvs xs)(ht:∀b ys,H b=some (.tup ys)->H' b=some (.tup ys)):KT H' kvs xs:=
 Paired.bI r λ_ _ z=>⟨z.1,ht _ _ z.2.1,z.2.2⟩
section
variable {P:Program}{w:World}{H:Hp}{h:Heap}{a:Addr}
theorem Rl(ok:de P w H h)(e:Rd H a u):cI P w H h a u:=e.ok ok
theorem ng(ok:de P w H h)(e:Rd H a (.dK kvs)):kvs.length<=sizeLine/\(a==sysModules)=false/\∃vs,KV kvs vs/\h.DictOf (dh P w) a vs:=
 show cI P w H h a (.dK kvs) from Rl ok e
theorem lR(ok:de P w H h)(e:H a=some (.dK kvs)):kvs.length<=sizeLine/\(a==sysModules)=false/\∃vs,KV kvs vs/\h.DictOf (dh P w) a vs:=ng ok (.inl e)
theorem oK(ok:de P w H h)(e:H a=some (.tup (ks.map kV))):(tupleKind (dh P w)).is h ks a:=by
 obtain⟨_,ah,r,o,h1,h2,n,h3,_⟩:=(show cI P w H h a (.tup (ks.map kV)) from ok a _ e);exact⟨o,ah.toArray,n,h1,h2,h3,by simpa using Me r⟩
theorem oP(ok:de P w H h)(e:Rd H a (.dT kvs)):kvs.length<=sizeLine/\(a==sysModules)=false/\
  ∃xs,KT H kvs xs/\h.DictOfH (tupleKind (dh P w)) a xs:=by
 obtain⟨z,y,xs,r,o,es,ep,h1,h2,h3,h4,h5⟩:=(show cI P w H h a (.dT kvs) from Rl ok e);refine⟨z,y,xs,r,o,es,ep,h1,h2,h3,h4,λx hx=>?_,h5⟩;have all:∀{l:List (List Key×V)} {m:List (List Key×Addr×Value)},KT H l m->∀x∈m,(tupleKind (dh P w)).is h x.1 x.2.1:=by
  intro l m q;induction q with
  |nil=>grind
  |@cons p q ps qs hq t ih=>
   intro x hx;rcases Yp.mp hx with e|hx
   ·subst e;exact oK ok (by rw[←hq.1];exact hq.2.1)
   ·exact ih x hx
 grind
theorem Rm(ok:de P w H h)(e:H a=some (.dT kvs)):kvs.length<=sizeLine/\(a==sysModules)=false/\
  ∃xs,KT H kvs xs/\h.DictOfH (tupleKind (dh P w)) a xs:=oP ok (.inl e)
end
def dU(H:Hp)(a:Addr)(y:V)(r:Option V):Prop:=
 (∃kvs k,Rd H a (.dK kvs)/\y=kV k/\r=aO kvs k)\/∃kvs k b,Rd H a (.dT kvs)/\y=.ref b/\H b=some (.tup (k.map kV))/\r=aO kvs k
def qE(H:Hp)(a:Addr)(y v:V)(H':Hp):Prop:=
 (∃kvs k,H a=some (.dK kvs)/\y=kV k/\kvs.length<sizeLine/\H'=upd H a (.dK (putK kvs k v)))\/
 ∃kvs k b,H a=some (.dT kvs)/\y=.ref b/\H b=some (.tup (k.map kV))/\kvs.length<sizeLine/\H'=upd H a (.dT (putK kvs k v))
theorem dU.k{H:Hp}{a:Addr}{kvs:List (Key×V)}{k:Key}(e:H a=some (.dK kvs)):dU H a (kV k) (aO kvs k):=.inl ⟨kvs,k,.inl e,rfl,rfl⟩
theorem dU.t{H:Hp}{a b:Addr}{kvs:List (List Key×V)}{k:List Key}(e:H a=some (.dT kvs))(eb:H b=some (.tup (k.map kV))):dU H a (.ref b) (aO kvs k):=.inr ⟨kvs,k,b,.inl e,rfl,eb,rfl⟩
theorem qE.k{H:Hp}{a:Addr}{kvs:List (Key×V)}{k:Key}{v:V}(e:H a=some (.dK kvs))(hl:kvs.length<sizeLine):qE H a (kV k) v (upd H a (.dK (putK kvs k v))):=.inl ⟨kvs,k,e,rfl,hl,rfl⟩
theorem qE.t{H:Hp}{a b:Addr}{kvs:List (List Key×V)}{k:List Key}{v:V}(e:H a=some (.dT kvs))(eb:H b=some (.tup (k.map kV)))(hl:kvs.length<sizeLine):
  qE H a (.ref b) v (upd H a (.dT (putK kvs k v))):=.inr ⟨kvs,k,b,e,rfl,eb,hl,rfl⟩
section
variable {X:Cx}{pins:List (Addr×Obj)}{σ:St}{H:Hp}{s:Shared}{a:Addr}{y v:V}{u r:Value}{o:Option V}{A:Around}{E:Value->Shared->Prop}
theorem Inv.big(I:Inv X pins σ H s):sysModules<s.heap.objs.size:=by
 exact Nat.lt_trans (by decide) ((I.mod.glob.keeps I.bk).lt)
theorem ZT(hu:A.units+1<cLine)(I:Inv X pins σ H s)(g:dU H a y (some v))(ry:RelV y u)(h:∀w' s',Inv X pins σ H s'->RelV v w'->Q w' s'):
  wpAny (model X.prog X.w) A (getItem (.ref a) u) Q E s:=by
 rcases g with⟨kvs,k,e,ey,l⟩|⟨kvs,k,b,e,ey,eb,l⟩
 ·subst ey;obtain⟨z,hd,vs,rel,dd⟩:=ng I.av e;obtain⟨w',hw,fM⟩:=fJ.some_of (v:=v) (o:=valueAt vs k) (by rw[l];exact rel.val k);exact wpAny_getItem_of (kI ry) dd.mapOf hw (h w' _ (I.tok _) fM)
 ·subst ey;cases(show u=Value.ref b from ry);obtain⟨z,hd,xs,rel,dd⟩:=oP I.av e;obtain⟨w',hw,fM⟩:=fJ.some_of (v:=v) (o:=(atKey xs k).map (·.2)) (by rw[l];exact rel.val k);obtain⟨p,hp,dB⟩:=Option.map_eq_some_iff.mp hw;refine wpAny_getItem_heap (tupleKind_room_in1 hu) (oK I.av eb) dd hp ?_;rw[dB];exact h w' _ (I.tok _) fM
theorem Zfg(hu:A.units+1<cLine)(I:Inv X pins σ H s)(g:dU H a y o)(ry:RelV y u)(h:∀s',Inv X pins σ H s'->Q (.bool o.isSome) s'):
  wpAny (model X.prog X.w) A (compareOp .In u (.ref a)) Q E s:=by
 rcases g with⟨kvs,k,e,ey,l⟩|⟨kvs,k,b,e,ey,eb,l⟩
 ·subst ey;obtain⟨z,hd,vs,rel,dd⟩:=ng I.av e;refine wpAny_in_of (kI ry) hd dd.mapOf ?_;rw[←(rel.val k).sf,←l];exact h _ (I.tok _)
 ·subst ey;cases(show u=Value.ref b from ry);obtain⟨z,hd,xs,rel,dd⟩:=oP I.av e;refine wpAny_in_heap (tupleKind_room_in1 hu) (oK I.av eb) hd dd ?_;have q:=(rel.val k).sf;rw[Te] at q;rw[←q,←l];exact h _ (I.tok _)
theorem ZbY(hu:A.units+1<cLine)(I:Inv X pins σ H s)(g:dU H a y o)(ry:RelV y u)(h:∀s',Inv X pins σ H s'->Q (.bool (!o.isSome)) s'):
  wpAny (model X.prog X.w) A (compareOp .NotIn u (.ref a)) Q E s:=by
 rcases g with⟨kvs,k,e,ey,l⟩|⟨kvs,k,b,e,ey,eb,l⟩
 ·subst ey;obtain⟨z,hd,vs,rel,dd⟩:=ng I.av e;refine wpAny_notIn_of (kI ry) hd dd.mapOf ?_;rw[←(rel.val k).sf,←l];exact h _ (I.tok _)
 ·subst ey;cases(show u=Value.ref b from ry);obtain⟨z,hd,xs,rel,dd⟩:=oP I.av e;refine wpAny_notIn_heap (tupleKind_room_in1 hu) (oK I.av eb) hd dd ?_;have q:=(rel.val k).sf;rw[Te] at q;rw[←q,←l];exact h _ (I.tok _)
theorem qa(I:Inv X pins σ H s)(mu:v_ (H a))(hs:Heap.SameBut a s.heap h')(he:∃q,h'.get? a=some q)(new:cI X.prog X.w (upd H a ob) h' a ob):
  Inv X pins σ (upd H a ob) {s with heap:=h',toks:=t'}:=
 I.write (x:=a) (e:=a) mu (.inl rfl) (λb q hb z=>(hs.2 b hb).trans z) he new
theorem vA(z:kvs.length<=sizeLine)(hd:(a==sysModules)=false)(rel:KV kvs vs)(dd:h'.DictOf (dh P w) a vs):
  cI P w H' h' a (.dK kvs):=⟨z,hd,vs,rel,dd⟩
theorem Mf(hu:A.units+1<cLine)(I:Inv X pins σ H s)(g:qE H a y v H')(ry:RelV y u)(rv:RelV v r)(h:∀s',Inv X pins σ H' s'->Q () s'):
  wpAny (model X.prog X.w) A (setItem (.ref a) u r) Q E s:=by
 rcases g with⟨kvs,k,e,ey,l,eH⟩|⟨kvs,k,b,e,ey,eb,l,eH⟩
 ·subst ey eH;obtain⟨z,hd,vs,rel,dd⟩:=lR I.av e;have hz:vs.length<=sizeLine:=by rw[←rel.length];exact z
  have hl:(putK kvs k v).length<=sizeLine:=by have:=uP kvs k v;omega
  refine wpAny_setItem_pairs (hsz:=hz) (kI ry) dd λh' hE hs=>h _ ?_;have he:∃q,h'.get? a=some q:=let⟨q,_,_,hq,_⟩:=hE;⟨q,hq⟩;exact qa I (by rw[e];exact True.intro) hs he (vA hl hd (rel.put k rv) hE)
 ·subst ey eH;cases(show u=Value.ref b from ry);obtain⟨z,hd,xs,rel,dd⟩:=Rm I.av e;have hz:xs.length<=sizeLine:=by rw[←Paired.length rel];exact z
  have hl:(putK kvs k v).length<=sizeLine:=by have:=uP kvs k v;omega
  refine wpAny_setItem_heap (hsz:=hz) (tupleKind_room_in1 hu) (oK I.av eb) dd λh' hE hs=>h _ ?_;obtain⟨q,es,ep,hq,h2,h3,h4,_,h5⟩:=hE;refine qa I (by rw[e];exact True.intro) hs ⟨q,hq⟩ ⟨hl,hd,_,(rel.put k eb rv).keeps λc ys ec=>?_,q,es,ep,hq,h2,h3,h4,h5⟩;rw[aP (Q0 ec e (λz=>nomatch z))];exact ec
end
section
variable {X:Cx}{pins:List (Addr×Obj)}{σ:St}{H:Hp}{s:Shared}{a:Addr}{kvs:List (Key×V)}{k:Key}{u:Value}{A:Around}{E:Value->Shared->Prop}
theorem ZU(I:Inv X pins σ H s)(e:H a=some (.dK kvs))(ry:RelV (kV k) u)(l:(aO kvs k).isSome=true)(h:∀s',Inv X pins σ (upd H a (.dK (fW kvs k))) s'->Q () s'):
  wpAny (model X.prog X.w) A (delItem (.ref a) u) Q E s:=by
 obtain⟨z,hd,vs,rel,dd⟩:=lR I.av e;refine wpAny_delItem_slot dd.typeIs (by decide) slot_dict_delitem
  (call_meetsIn slot_dict_delitem dd.typeIs PySem.F.entry_dict_delitem (PySem.F.args_dict_delitem_2 _ _) (meets_dict_delitem_pairs (dh X.prog X.w) a (kI ry)) ⟨vs,dd,by rw[←rel.length];exact z,by rw[←(rel.val k).sf];exact l,λh' hE hs=>h _ ?_⟩)
 have he:∃q,h'.get? a=some q:=let⟨q,_,_,hq,_⟩:=hE;⟨q,hq⟩;exact qa I (by rw[e];exact True.intro) hs he (vA (Y4 (Na kvs k) z) hd (rel.drop k) hE)
theorem Zet(I:Inv X pins σ H s)(e:H a=some (.dK kvs))(ry:RelV (kV k) u)(l:aO kvs k=some v)(hm:more=[]\/∃x,more=[x])
  (h:∀w' s',Inv X pins σ (upd H a (.dK (fW kvs k))) s'->RelV v w'->Q w' s'):wpAny (model X.prog X.w) A (call (.builtin "dict.pop") (.ref a::u::more)) Q E s:=by
 obtain⟨z,hd,vs,rel,dd⟩:=lR I.av e;obtain⟨w',hw,fM⟩:=fJ.some_of (v:=v) (o:=valueAt vs k) (by rw[←l];exact rel.val k);have hp:(keyPart u).isSome=true:=by
  cases k with
  |inl i=>obtain⟨t,q⟩:=(show ∃t,u=Value.int i t from ry);subst q;rfl
  |inr x=>obtain⟨t,q⟩:=(show ∃t,u=Value.str x t from ry);subst q;rfl
 have ha:argsOk "dict.pop" ⟨.ref a::u::more,[]⟩:=by
  rcases hm with q|⟨x,q⟩;·subst q;exact PySem.F.args_dict_pop_2 _ _
  ·subst q;exact PySem.F.args_dict_pop_3 _ _ _
 refine call_meetsIn slot_dict_pop dd.typeIs PySem.F.entry_dict_pop ha (meets_dict_pop_there (dh X.prog X.w) a (kI ry) more hm hp)
  ⟨vs,w',dd,by rw[←rel.length];exact z,hw,λh' hE hs=>h w' _ ?_ fM⟩
 have he:∃q,h'.get? a=some q:=let⟨q,_,_,hq,_⟩:=hE;⟨q,hq⟩;exact qa I (by rw[e];exact True.intro) hs he (vA (Y4 (Na kvs k) z) hd (rel.drop k) hE)
theorem Zeu(I:Inv X pins σ H s)(e:Rd H a (.dK kvs))(h:∀t s',Inv X pins σ H s'->Q (.int kvs.length t) s'):wpAny (model X.prog X.w) A (call (.builtin "len") [.ref a]) Q E s:=by
 obtain⟨z,hd,vs,rel,dd⟩:=ng I.av e;refine call_len_dict hd dd (by rw[←rel.length];rw[sizeLine_eq] at z;omega) ?_;rw[←rel.length];exact h _ _ (I.tok _)
end
def R8(i:Expr):Prop:=∀ov iv,subscripted i false ov iv=operate [ov,iv] (getItem ov iv)
theorem ZbZ{prog:Program}{w:World}{A:Around}{E:Value->Shared->Prop}{s:Shared}{env:Env}{value slice:Expr}{pos:Pos}{T id:String}{Q:Value->Shared->Prop}
  (hl:typeLookup (.type T) "__getitem__"=pure (some (.builtin id)))(hs:R8 slice)
  (h:wpAny (model prog w) A (eval value env) (λo bG=>wpAny (model prog w) A (eval slice env) (λi dR=>dR.TypeIs o T/\wpAny (model prog w) A (getItem o i) Q E dR) E bG) E s):
  wpAny (model prog w) A (eval (.Subscript value slice pos) env) Q E s:=by
 refine Subscript_ (wpAny_mono h (λo bG d_=>wpAny_mono d_ (λi dR nG=>?_) λ_ _ x=>x) λ_ _ x=>x);obtain⟨hT,nG⟩:=nG;refine wpAny_bind (wpAny_bind (wpAny_specialOf hT hl ?_));have fin:wpAny (model prog w) A (subscripted slice false o i) (λr dN=>wpAny (model prog w) A (letTemporaryGo value o r>>=λ_=>pure r) Q E dN) E dR:=by
  rw[hs o i];exact wpAny_operating (wpAny_mono nG (λr dN tI=>wpAny_bind (wpAny_letTemporaryGo (wpAny_pure tI))) λ_ _ x=>x)
 first
  |exact wpAny_pure (wpAny_bind fin)
  |exact wpAny_bind (wpAny_pure (wpAny_bind fin))
  |exact wpAny_bind fin
theorem XH(I:Inv X pins σ H s)(g:dU H a y o):s.TypeIs (.ref a) "dict":=by
 rcases g with⟨kvs,k,e,_,_⟩|⟨kvs,k,b,e,_,_,_⟩
 ·obtain⟨_,_,vs,_,dd⟩:=ng I.av e;exact dd.typeIs
 ·obtain⟨_,_,xs,_,dd⟩:=oP I.av e;exact dd.typeIs
inductive OA(Q:VK)(x:V)(y:V)(H2:Hp):Prop
 |mk (a v) (aC:x=.ref a) (aV:dU H2 a y (some v)) (bc:Q v H2):OA Q x y H2
def Zev(td ty:TE):TE:=λσ H Q=>td σ H λx H1=>ty σ H1 λy H2=>OA Q x y H2
inductive Qg(Q:VK)(y:V)(x:V)(H2:Hp):Prop
 |mk (a o) (aC:x=.ref a) (aV:dU H2 a y o) (bc:Q (.bl o.isSome) H2):Qg Q y x H2
def Zfh(ty td:TE):TE:=λσ H Q=>ty σ H λy H1=>td σ H1 λx H2=>Qg Q y x H2
inductive Mg(Q:VK)(y:V)(x:V)(H2:Hp):Prop
 |mk (a o) (aC:x=.ref a) (aV:dU H2 a y o) (bc:Q (.bl (!o.isSome)) H2):Mg Q y x H2
def Zb0(ty td:TE):TE:=λσ H Q=>ty σ H λy H1=>td σ H1 λx H2=>Mg Q y x H2
section
variable {X:Cx}{o i e value:Expr}{pos pos' qB:Pos}{td ty tv:TE}
theorem c9(hu:X.A.units+1<cLine)(ho:PE X o td)(hi:PE X i ty)(hs:R8 i):PE X (.Subscript o i pos) (Zev td ty):=by
 intro pins s σ H Q I h;refine ZbZ PySem.F.slot_dict_getitem.lookup hs (az (ho pins s σ H _ I h) λu s1 zq=>?_);obtain⟨x,H1,I1,rx,q1⟩:=zq;refine az (hi pins s1 σ H1 _ I1 q1) λiv s2 zq=>?_;obtain⟨y,H2,I2,ry,a,v,ex,g,q2⟩:=zq;subst ex;obtain rfl:u=Value.ref a:=rx;exact⟨XH I2 g,ZT hu I2 g ry λw' s3 I3 fM=>⟨v,H2,I3,fM,q2⟩⟩
theorem yD(hu:X.A.units+1<cLine)(hi:PE X i ty)(ho:PE X o td):PC X .In i o (Zfh ty td):=by
 intro pins s σ H Q I h;refine az (hi pins s σ H _ I h) λiv s1 zq=>?_;obtain⟨y,H1,I1,ry,q1⟩:=zq;refine az (ho pins s1 σ H1 _ I1 q1) λu s2 zq=>?_;obtain⟨x,H2,I2,rx,a,ov,ex,g,q2⟩:=zq;subst ex;obtain rfl:u=Value.ref a:=rx;exact Zfg hu I2 g ry λs3 I3=>⟨.bl ov.isSome,H2,I3,rfl,q2⟩
theorem lD(hu:X.A.units+1<cLine)(hi:PE X i ty)(ho:PE X o td):PC X .NotIn i o (Zb0 ty td):=by
 intro pins s σ H Q I h;refine az (hi pins s σ H _ I h) λiv s1 zq=>?_;obtain⟨y,H1,I1,ry,q1⟩:=zq;refine az (ho pins s1 σ H1 _ I1 q1) λu s2 zq=>?_;obtain⟨x,H2,I2,rx,a,ov,ex,g,q2⟩:=zq;subst ex;obtain rfl:u=Value.ref a:=rx;exact ZbY hu I2 g ry λs3 I3=>⟨.bl (!ov.isSome),H2,I3,rfl,q2⟩
end
theorem Nb(h:Heap)(hb:sysModules<h.objs.size):cI P w H (h.push {cls:=.type "dict",data:=.dict #[]}) h.objs.size (.dK []):=
 ⟨Yw _,beq_eq_false_iff_ne.mpr (Ne.symm (Yz hb)),[],.nil,Heap.DictOf.new h⟩
theorem ZaI(h:Heap)(hb:sysModules<h.objs.size):cI P w H (h.push {cls:=.type "dict",data:=.dict #[]}) h.objs.size (.dT []):=
 ⟨Yw _,beq_eq_false_iff_ne.mpr (Ne.symm (Yz hb)),[],.nil,_,#[],0,Yn _ rfl,⟨rfl,rfl,rfl⟩,rfl,rfl,W8⟩
def Zds:TE:=λ_ H Q=>∀p,H p=none->Q (.ref p) (upd H p (.dK []))
def Zdt:TE:=λ_ H Q=>∀p,H p=none->Q (.ref p) (upd H p (.dT []))
section
variable {X:Cx}{pos:Pos}
theorem ZaJ:PE X (.Dict [] [] pos) Zds:=λpins s σ H Q I h=>
 wpAny_Dict_empty ⟨.ref s.heap.objs.size,_,I.laid (a:=s.heap.objs.size) (o:=.dK []) (t':=s.toks) (λ_ _ q=>Yb _ q) (Yd _) (Nb s.heap I.big),rfl,h _ (I.av.fresh (Yd _))⟩
theorem ZaK:PE X (.Dict [] [] pos) Zdt:=λpins s σ H Q I h=>
 wpAny_Dict_empty ⟨.ref s.heap.objs.size,_,I.laid (a:=s.heap.objs.size) (o:=.dT []) (t':=s.toks) (λ_ _ q=>Yb _ q) (Yd _) (ZaI s.heap I.big),rfl,h _ (I.av.fresh (Yd _))⟩
end
def FQ:List (TE×TE)->St->Hp->(List (V×V)->Hp->Prop)->Prop
 |[],_,H,Q=>Q [] H
 |(tk,tv)::r,σ,H,Q=>tk σ H λx H1=>tv σ H1 λy H2=>FQ r σ H2 λps H3=>Q ((x,y)::ps) H3
abbrev VV:List (V×V)->List (Value×Value)->Prop:=Paired λp q=>RelV p.1 q.1/\RelV p.2 q.2
def zx(X:Cx)(pos:Pos)(keys:List (Option Expr))(values:List Expr)(qX:List (TE×TE)):Prop:=
 ∀(pins:List (Addr×Obj)) (s:Shared) (σ:St) (H:Hp) (Q:List (V×V)->Hp->Prop),Inv X pins σ H s->FQ qX σ H Q->
  wpAny (model X.prog X.w) X.A (evalPairs (pairTrees keys values X.env pos)) (λvs s'=>∃ps H',Inv X pins σ H' s'/\VV ps vs/\Q ps H') X.xe s
theorem yn:zx X pos [] [] []:=λpins s σ H Q I h=>pairTrees_nil_walk ⟨[],H,I,.nil,h⟩
theorem iW(hk:PE X k tk)(hv:PE X v tv)(hr:zx X pos ks vs qX):
  zx X pos (some k::ks) (v::vs) ((tk,tv)::qX):=λpins s σ H Q I h=>
 pairTrees_cons_walk (az (hk pins s σ H _ I h) λu s1 ⟨x,H1,I1,rx,q1⟩=>az (hv pins s1 σ H1 _ I1 q1) λw2 s2 ⟨y,H2,I2,ry,q2⟩=>
  az (hr pins s2 σ H2 _ I2 q2) λws s3 ⟨ps,H3,I3,rel,q3⟩=>⟨(x,y)::ps,H3,I3,.cons ⟨rx,ry⟩ rel,q3⟩)
def m5(kvs more:List (Key×V)):List (Key×V):=more.foldl (λacc kv=>putK acc kv.1 kv.2) kvs
theorem KV.merge:∀{more:List (Key×V)} {rs:List (Key×Value)} {kvs:List (Key×V)} {vs:List (Key×Value)},KV more rs->KV kvs vs->KV (m5 kvs more) (merged vs rs):=by
 intro more rs kvs vs r;induction r generalizing kvs vs with
 |nil=>intro q;exact q
 |@cons p q ps qs h t ih=>
  intro r0;have e:KV (putK kvs p.1 p.2) (stored vs q.1 q.2):=by
   have:=r0.put p.1 h.2
   grind
  exact ih e
theorem K6:∀(more kvs:List (Key×V)),(m5 kvs more).length<=kvs.length+more.length
 |[],kvs=>by show kvs.length<=kvs.length+0;omega
 |p::r,kvs=>by
  have h1:=K6 r (putK kvs p.1 p.2);have h2:=uP kvs p.1 p.2;show(m5 (putK kvs p.1 p.2) r).length<=_
  grind
theorem LF:∀{kvs:List (Key×V)} {ws:List (Value×Value)},VV (kvs.map λkv=>(kV kv.1,kv.2)) ws->∃rs,Carries (dh P w) ws rs/\KV kvs rs
 |[],_,r=>by rw[List.map_nil] at r;cases r;exact⟨[],True.intro,.nil⟩
 |p::kvs,_,r=>by
  cases r with
  |@cons a b as bs h t=>
   obtain⟨rs,c,q⟩:=LF t;obtain⟨b1,b2⟩:=b;exact⟨(p.1,b2)::rs,⟨kI h.1,rfl,c⟩,.cons ⟨rfl,h.2⟩ q⟩
def Zew(qX:List (TE×TE)):TE:=λσ H Q=>∀p,H p=none->FQ qX σ (upd H p (.dK [])) λps H2=>H2 p=some (.dK [])/\∃kvs:List (Key×V),ps=kvs.map (λkv=>(kV kv.1,kv.2))/\kvs.length<=15/\Q (.ref p) (upd H2 p (.dK (m5 [] kvs)))
theorem yo(h:zx X pos keys values qX)(GR:keys.all (·.isSome)=true)(hl:keys.length=values.length)(h0:keys≠[])
  (h15:keys.length<=15):PE X (.Dict keys values pos) (Zew qX):=by
 intro pins s σ H Q I q;refine wpAny_Dict_walk (knd:=dh X.prog X.w) GR hl h0 h15 (az (h pins _ σ _ _ (I.laid (λ_ _ q=>Yb _ q) (Yd _) (Nb s.heap I.big)) (q _ (I.av.fresh (Yd s.heap.objs.size)))) λws s2 ⟨ps,H2,I2,rel,e,kvs,ep,lk,q2⟩=>?_);subst ep;obtain⟨rs,c,rk⟩:=LF rel;obtain⟨z,hd,vs0,r0,dd⟩:=lR I2.av e;cases r0;refine⟨rs,c,dd,λh' hE hs=>⟨.ref s.heap.objs.size,_,?_,rfl,q2⟩⟩;have hz:(m5 [] kvs).length<=sizeLine:=by
  have h1:=K6 kvs [];rw[List.length_nil] at h1;rw[sizeLine_eq];omega
 exact qa I2 (by rw[e];exact True.intro) hs (let⟨q,_,_,hq,_⟩:=hE;⟨q,hq⟩) (vA hz hd (rk.merge .nil) hE)
structure M1(X:Cx)(o:Expr)(m:Str)(apos:Pos)(e:Expr)(cv:Pos):Prop where
 base:attributeBase o m X.env (eval o X.env)=eval o X.env
 eP:((backTo cv (starEach [e] X.env)).all (λx=>!x.1)&&(backToKw cv (keywordEach [] X.env)).all (λx=>x.1.isSome)
  &&decide (([e]:List Expr).length+([]:List Keyword).length+(if([]:List Keyword).isEmpty then 0 else 1)<30))=true
 line:(apos.endLine==cv.line)=true
 trees:backTo cv (starEach [e] X.env)=[(false,eval e X.env)]
structure M2(X:Cx)(o:Expr)(m:Str)(apos:Pos)(e f:Expr)(cv:Pos):Prop where
 base:attributeBase o m X.env (eval o X.env)=eval o X.env
 eP:((backTo cv (starEach [e,f] X.env)).all (λx=>!x.1)&&(backToKw cv (keywordEach [] X.env)).all (λx=>x.1.isSome)
  &&decide (([e,f]:List Expr).length+([]:List Keyword).length+(if([]:List Keyword).isEmpty then 0 else 1)<30))=true
 line:(apos.endLine==cv.line)=true
 trees:backTo cv (starEach [e,f] X.env)=[(false,eval e X.env),(false,eval f X.env)]
def wB(H:Hp)(a:Addr):Prop:=(∃kvs,Rd H a (.dK kvs))\/∃kvs,Rd H a (.dT kvs)
theorem sU(I:Inv X pins σ H s)(d:wB H a):
  s.TypeIs (.ref a) "dict"/\(∀b,Value.ref a=.ref b->∃ob,s.heap.get? b=some ob/\ob.dict=none)/\(a==sysModules)=false:=by
 rcases d with⟨kvs,e⟩|⟨kvs,e⟩
 ·obtain⟨_,hd,vs,_,dd⟩:=ng I.av e;refine⟨dd.typeIs,λb q=>?_,hd⟩;cases q;obtain⟨ob,_,_,h1,h2,_⟩:=dd;exact⟨ob,h1,h2.2.1⟩
 ·obtain⟨_,hd,xs,_,dd⟩:=oP I.av e;refine⟨dd.typeIs,λb q=>?_,hd⟩;cases q;obtain⟨ob,_,_,h1,h2,_⟩:=dd;exact⟨ob,h1,h2.2.1⟩
section
variable {X:Cx}{pins:List (Addr×Obj)}{σ:St}{H:Hp}{s:Shared}{a:Addr}{y d:V}{u r:Value}{o:Option V}{A:Around}{E:Value->Shared->Prop}
theorem Zdu(hu:A.units+1<cLine)(I:Inv X pins σ H s)(g:dU H a y o)(ry:RelV y u)(h:∀w' s',Inv X pins σ H s'->RelV (o.getD .aA) w'->Q w' s'):
  wpAny (model X.prog X.w) A (call (.builtin "dict.get") [.ref a,u]) Q E s:=by
 rcases g with⟨kvs,k,e,ey,l⟩|⟨kvs,k,b,e,ey,eb,l⟩
 ·subst ey;obtain⟨z,hd,vs,rel,dd⟩:=ng I.av e;refine call_meetsIn slot_dict_get dd.typeIs entry_dict_get (PySem.F.args_dict_get_2 _ _) (meets_dict_get (dh X.prog X.w) a (kI ry) hd) ⟨_,dd.mapOf,h _ _ (I.tok _) ?_⟩;rw[l];exact(rel.val k).getD rfl
 ·subst ey;cases(show u=Value.ref b from ry);obtain⟨z,hd,xs,rel,dd⟩:=oP I.av e;refine call_meetsIn slot_dict_get dd.typeIs entry_dict_get (PySem.F.args_dict_get_2 _ _) (meetsH_dict_get (tupleKind (dh X.prog X.w)) a b hd) ⟨tupleKind_room_in1 hu,k,xs,oK I.av eb,dd,h _ _ (I.tok _) ?_⟩;rw[l];exact(rel.val k).getD rfl
theorem Zdv(hu:A.units+1<cLine)(I:Inv X pins σ H s)(g:dU H a y o)(ry:RelV y u)(rd:RelV d r)(h:∀w' s',Inv X pins σ H s'->RelV (o.getD d) w'->Q w' s'):
  wpAny (model X.prog X.w) A (call (.builtin "dict.get") [.ref a,u,r]) Q E s:=by
 rcases g with⟨kvs,k,e,ey,l⟩|⟨kvs,k,b,e,ey,eb,l⟩
 ·subst ey;obtain⟨z,hd,vs,rel,dd⟩:=ng I.av e;refine call_meetsIn slot_dict_get dd.typeIs entry_dict_get (PySem.F.args_dict_get_3 _ _ _) (meets_dict_get_default (dh X.prog X.w) a (kI ry) hd r) ⟨_,dd.mapOf,h _ _ (I.tok _) ?_⟩;rw[l];exact(rel.val k).getD rd
 ·subst ey;cases(show u=Value.ref b from ry);obtain⟨z,hd,xs,rel,dd⟩:=oP I.av e;refine call_meetsIn slot_dict_get dd.typeIs entry_dict_get (PySem.F.args_dict_get_3 _ _ _) (meetsH_dict_get_default (tupleKind (dh X.prog X.w)) a b hd r) ⟨tupleKind_room_in1 hu,k,xs,oK I.av eb,dd,h _ _ (I.tok _) ?_⟩;rw[l];exact(rel.val k).getD rd
end
def Zdw(td ty:TE):TE:=λσ H Q=>td σ H λx H1=>∃a,x=.ref a/\wB H1 a/\ty σ H1 λy H2=>∃o,dU H2 a y o/\Q (o.getD .aA) H2
def Zdx(td ty tx:TE):TE:=λσ H Q=>td σ H λx H1=>∃a,x=.ref a/\wB H1 a/\ty σ H1 λy H2=>tx σ H2 λz H3=>∃o,dU H3 a y o/\Q (o.getD z) H3
section
variable {X:Cx}{o e f:Expr}{apos cv:Pos}{td ty tx:TE}
theorem ZaL(hu:X.A.units+1<cLine)(ho:PE X o td)(he:PE X e ty)(m:M1 X o "get" apos e cv):PE X (.Call (.Attribute o "get" apos) [e] [] cv) (Zdw td ty):=by
 intro pins s σ H Q I h;refine wpAny_Call_method m.base m.eP m.line plainAttrs_dict slot_dict_get type_dict_get (az (ho pins s σ H _ I h) λu s1 zq=>?_);obtain⟨x,H1,I1,rx,a,ex,d,q1⟩:=zq;subst ex;obtain rfl:u=Value.ref a:=rx;obtain⟨t1,t2,_⟩:=sU I1 d;refine⟨t1,t2,?_⟩;rw[m.trees];exact Calls.callWith_builtin rfl (Calls.evalArgs_plain (Calls.spliced_cons (az (he pins s1 σ H1 _ I1 q1) λiv s2 ⟨y,H2,I2,ry,ov,g,q2⟩=>Calls.spliced_nil (Zdu hu I2 g ry λw' s3 I3 fM=>⟨_,H2,I3,fM,q2⟩))))
theorem ZaM(hu:X.A.units+1<cLine)(ho:PE X o td)(he:PE X e ty)(hf:PE X f tx)(m:M2 X o "get" apos e f cv):PE X (.Call (.Attribute o "get" apos) [e,f] [] cv) (Zdx td ty tx):=by
 intro pins s σ H Q I h;refine wpAny_Call_method m.base m.eP m.line plainAttrs_dict slot_dict_get type_dict_get (az (ho pins s σ H _ I h) λu s1 zq=>?_);obtain⟨x,H1,I1,rx,a,ex,d,q1⟩:=zq;subst ex;obtain rfl:u=Value.ref a:=rx;obtain⟨t1,t2,_⟩:=sU I1 d;refine⟨t1,t2,?_⟩;rw[m.trees];refine Calls.callWith_builtin rfl (Calls.evalArgs_plain (Calls.spliced_cons (az (he pins s1 σ H1 _ I1 q1) λiv s2 ⟨y,H2,I2,ry,q2⟩=>
  Calls.spliced_cons (az (hf pins s2 σ H2 _ I2 q2) λfv s3 ⟨z,H3,I3,rz,ov,g,q3⟩=>Calls.spliced_nil ?_))))
 exact Zdv hu I3 g ry rz λw' s4 I4 fM=>⟨_,H3,I4,fM,q3⟩
end
section
variable {X:Cx}{pins:List (Addr×Obj)}{σ:St}{H:Hp}{s:Shared}{a:Addr}{kvs:List (Key×V)}{A:Around}{E:Value->Shared->Prop}
end
section
variable {X:Cx}{pins:List (Addr×Obj)}{σ:St}{H:Hp}{s:Shared}{a:Addr}{y:V}{u:Value}{A:Around}{E:Value->Shared->Prop}
end
def vK(P:Program)(w:World)(K:PySem.W.Frag)(mg:Str->Option Value)(base:Heap)(k:Nat)(x:Str)(C:Addr)(ps:List Str)(sp:Sp):Prop:=
 ∃f fd,Mk K C f/\aG P w K mg base aN k f fd ps sp/\Binds K fd ps []/\mg x=some (.ref C)
def cA(P:Program)(w:World)(K:PySem.W.Frag)(mg:Str->Option Value)(base:Heap)(k:Nat)(m:Str)(C:Addr)(ps:List Str)(sp:Sp):Prop:=
 ∃f fd,fL K C/\Meth K C m f/\aG P w K mg base aN k f fd ps sp/\Binds K fd ps []
section
variable {X:Cx}{k j:Nat}{x m:Str}{C:Addr}{ps:List Str}{sp:Sp}{p pos apos:Pos}{o e:Expr}{es:List Expr}{t:TA}{ta:TE}
theorem Ge(h:vK X.prog X.w X.K X.mg X.base k x C ps sp)(hr:c8 j X.A)(hj:k+1<=j)(hg:Gl X x)(ha:PA X (e::es) t)(kU:(x==("__debug__":Str))=false:=by decide)
  (he:starEach (e::es) X.env=(false,eval e X.env)::starEach es X.env:=by rfl)(c6:(backTo pos (starEach es X.env)).any (·.1)=false:=by rfl):PE X (.Call (.Name x p) (e::es) [] pos) (Rf C sp [] E0 t):=by
 obtain⟨f,fd,M,F,b,hm⟩:=h;exact ZbM M F (hr.mono hj) hg hm b .nil yL ha kU he c6
theorem cJ(h:cA X.prog X.w X.K X.mg X.base k m C ps sp)(hr:c8 j X.A)(hj:k<=j)(ho:PE X o ta)(ha:PA X (e::es) t)
  (gF:starEach (e::es) X.env=(false,eval e X.env)::starEach es X.env:=by rfl)(c6:(backTo pos (starEach es X.env)).any (·.1)=false:=by rfl)
  (ht:eval (.Call (.Attribute o m apos) (e::es) [] pos) X.env=(do
   let ov←eval o X.env
   standAt apos.atName
   let(f,first)←holding [ov] (getMethod ov m pl)
   callWith pos f first (backTo pos (starEach (e::es) X.env)) (backToKw pos (keywordEach [] X.env))):=by rfl):
  PE X (.Call (.Attribute o m apos) (e::es) [] pos) (yK C m sp [] E0 ta t):=by
 obtain⟨f,fd,c,hm,F,b⟩:=h;exact ZbL ho c hm F (hr.mono hj) b .nil yL ha gF c6 ht
end
theorem aW{X:Cx}{K:PySem.W.Frag}{e:Expr}{ta:TE}{f:Str}{pos:Pos}(h:X.K=K)(he:PE X e ta)(hb:attributeBase e f X.env (eval e X.env)=eval e X.env):PE X (.Attribute e f pos) (RX K ta f):=h▸Zc2 he hb
section
open PySem.AutoSeq1 (wpAny_loadPart')
theorem ZV(lo hi x:Int):(Builtin.Range.rangePlace? lo hi 1 x).isSome=decide (lo<=x/\x<hi):=by
 unfold Builtin.Range.rangePlace?
 grind
theorem Vq(p:Addr)(lo hi x:Int)(a b c t:Tok):
  Meets (Builtin.«range.__contains__» ⟨[.ref p,.int x t],[]⟩)
   (λ_ R s=>s.heap.get? p=some {cls:=.type "range",data:=.fields #[.int lo a,.int hi b,.int 1 c]}/\R (.ok (.ret (.bool (decide (lo<=x/\x<hi))))) s):=
 .of_wp λprog w A R s h=>by
  obtain⟨hp,g,d,tk,os⟩:=s;obtain⟨hl,h⟩:=h;rw[←ZV] at h
  wp_walk using wpAny_loadPart' hl
  grind
end
def Zdy(neg:Bool):R2:=λx y H Q=>∃(i lo hi:Int) (p:Addr),x=.int i/\y=.ref p/\H p=some (.iM lo hi)/\Q (.bl (if neg=true then !decide (lo<=i/\i<hi) else decide (lo<=i/\i<hi))) H
theorem WX:cF X (compareOp .NotIn) (Zdy true):=by
 rintro pins s σ H x y v u Q I rx ry ⟨i,lo,hi,p,rfl,rfl,hp,q⟩;obtain⟨t,rfl⟩:=rx;cases ry;obtain⟨a,b,c,g⟩:=(show cI X.prog X.w H s.heap p (.iM lo hi) from I.av p _ hp);exact SeqRoads2.notIn_meets ⟨_,g,rfl⟩ F.slot_range_contains F.entry_range_contains (F.args_range_contains_2 _ _) (Vq p lo hi i a b c t) ⟨g,_,rfl,.bl _,H,I,rfl,q⟩
theorem rT(p:Nat->Bool)(n:Nat):(List.range (n+1)).filter p=(List.range n).filter p++(if p n=true then[n] else[]):=by
 rw[J4,Wb]
 grind
theorem iU{α β:Type}{F:α->β->Prop}:∀{xs:List α} {ys:List β} {x:α} {y:β},Paired F xs ys->F x y->Paired F (xs++[x]) (ys++[y]):=by
 intro xs ys x y h f;induction h with
 |nil=>exact .cons f .nil
 |cons r t ih=>exact .cons r ih
theorem CW:∀{xs:List α} {ys:List β},Paired F xs ys->xs.length=ys.length:=by
 intro xs ys h;induction h with
 |nil=>rfl
 |cons _ _ ih=>rw[Wl,Wl,ih]
theorem BY:∀{xs:List V} {ys:List β},Paired (λx y=>x=f y) xs ys->xs=ys.map f:=by
 intro xs ys h;induction h with
 |nil=>rfl
 |cons r t ih=>rw[Wp,←r,←ih]
theorem LG(n:Nat):(List.range n).filter (λ_=>true)=List.range n:=by simp
theorem V8(xs:List α)(f:Nat->β)(g:α->β)(h:∀(i:Nat) (v:α),xs[i]?=some v->f i=g v):(List.range xs.length).map f=xs.map g:=by
 refine Wv λi=>?_
 grind
def aw(D:Addr)(H H':Hp):Prop:=∀b o,H b=some o->b≠D->H' b=some o
theorem aw.of(g:ai H H'):aw D H H':=λb o e _=>g b o e
theorem aw.put(g:aw D H H'):aw D H (upd H' D o):=λb u e n=>by rw[aP n];exact g b u e n
def tD(tt:TT)(te:TE)(fv:St)(D:Addr)(H:Hp)(v:V)(b:Bool)(Pe:V->Hp->Prop):Prop:=
 ∀H1,ai H H1->(∃ys,H1 D=some (.lst ys))->∀(Kt:VK) (Kf:Hp->Prop),(∀y H3,b=true->ai H1 H3->Pe y H3->Kt y H3)->(∀H3,b=false->ai H1 H3->Kf H3)->tt (some v::fv) H1 λc H2=>if c=true then te (some v::fv) H2 Kt else Kf H2
theorem Dz{K:PySem.W.Frag}{a:Addr}{xs:List V}{tt:TT}{te:TE}{fv:St}{D:Addr}{H:Hp}{Q:VK}(hs:ak K H a xs)(hn:xs.length<=1000)(hD:H D=none)(p:Nat->Bool)(Pe:Nat->V->Hp->Prop)(mono:∀i y H1 H2,aw D H1 H2->Pe i y H1->Pe i y H2)
  (turn:∀(i:Nat) (v:V),xs[i]?=some v->tD tt te fv D H v (p i) (Pe i))(fin:∀ys H',ai H H'->H' D=some (.lst ys)->Paired (λy i=>Pe i y H') ys ((List.range xs.length).filter p)->Q (.ref D) H'):ik (iN K a) tt te fv D H Q:=by
 refine D8 (λi ys H1=>i<=xs.length/\ai H H1/\H1 D=some (.lst ys)/\Paired (λy j=>Pe j y H1) ys ((List.range i).filter p)) ⟨Yw _,cq hD _,aU,.nil⟩ (λi ys H1 _ ⟨_,g,_,_⟩=>g.seq hs) ?_ ?_
 ·rintro i v ys H1 hi ⟨_,g,h1,pr⟩;have dC:=(Yh.mp hi).1;have ll:=CW pr;have fl:=Wk p (List.range i);rw[Tf] at fl;refine turn i v hi H1 g ⟨_,h1⟩ _ _ (λy H3 pi g3 py=>⟨g3 _ _ h1,by rw[sizeLine_eq];omega,dC,?_,aU,?_⟩) (λH3 pi g3=>⟨dC,g.trans g3,g3 _ _ h1,?_⟩)
  ·intro b o e;rw[aP (ck e hD)];exact g3 _ _ (g _ _ e)
  ·rw[rT,if_pos pi];exact iU (Paired.bI pr λz j q=>mono _ _ _ _ (aw.put (aw.of g3)) q) (mono _ _ _ _ (aw.put (aw.of (ai.refl _))) py)
  ·rw[rT,if_neg (by rw[pi];exact Yi),Wf];exact Paired.bI pr λz j q=>mono _ _ _ _ (aw.of g3) q
 ·grind
theorem YM{K:PySem.W.Frag}{a:Addr}{xs:List V}{tt:TT}{te:TE}{fv:St}{D:Addr}{H:Hp}{Q:VK}(hs:ak K H a xs)(hn:xs.length<=1000)(hD:H D=none)(p:Nat->Bool)(f:Nat->V)
  (turn:∀(i:Nat) (v:V),xs[i]?=some v->tD tt te fv D H v (p i) (λy _=>y=f i))(fin:∀H',ai H H'->H' D=some (.lst (((List.range xs.length).filter p).map f))->Q (.ref D) H'):ik (iN K a) tt te fv D H Q:=
 Dz hs hn hD p (λi y _=>y=f i) (λ_ _ _ _ _ e=>e) turn λys H' g h1 pr=>fin H' g (by rw[←BY pr];exact h1)
theorem YN{K:PySem.W.Frag}{a:Addr}{xs:List V}{te:TE}{fv:St}{D:Addr}{H:Hp}{Q:VK}(hs:ak K H a xs)(hn:xs.length<=1000)(hD:H D=none)(f:V->V)
  (turn:∀(i:Nat) (v:V),xs[i]?=some v->∀H1,ai H H1->∀Kt:VK,(∀H3,ai H1 H3->Kt (f v) H3)->te (some v::fv) H1 Kt)(fin:∀H',ai H H'->H' D=some (.lst (xs.map f))->Q (.ref D) H'):ik (iN K a) yW te fv D H Q:=by
 refine YM hs hn hD (λ_=>true) (λi=>f (xs.getD i .aA)) (λi v hi H1 g _ Kt Kf kt _=>kP (cV ?_)) λH' g h1=>fin H' g ?_;·grind
 ·rw[h1,LG,V8 xs (λi=>f (xs.getD i .aA)) f λi v hi=>by rw[Yj,hi];rfl]
theorem ZW{K:PySem.W.Frag}{a:Addr}{xs:List V}{tt:TT}{te:TE}{fv:St}{D:Addr}{H:Hp}{Q:VK}(hs:ay K H a xs)(hn:xs.length<=1000)(hD:H D=none)(p:Nat->Bool)(Pe:Nat->V->Hp->Prop)(mono:∀i y H1 H2,aw D H1 H2->Pe i y H1->Pe i y H2)
  (turn:∀(i:Nat) (v:V),xs[i]?=some v->tD tt te fv D H v (p i) (Pe i))(fin:∀ys H',ai H H'->H' D=some (.lst ys)->Paired (λy i=>Pe i y H') ys ((List.range xs.length).filter p)->Q (.ref D) H'):ik (tV K a) tt te fv D H Q:=by
 refine x8 (λi ys H1=>i<=xs.length/\ai H H1/\H1 D=some (.lst ys)/\Paired (λy j=>Pe j y H1) ys ((List.range i).filter p)) ⟨Yw _,cq hD _,aU,.nil⟩ (λi ys H1 _ ⟨_,g,_,_⟩=>g.iD hs) ?_ ?_
 ·rintro i v ys H1 hi ⟨_,g,h1,pr⟩;have dC:=(Yh.mp hi).1;have ll:=CW pr;have fl:=Wk p (List.range i);rw[Tf] at fl;refine turn i v hi H1 g ⟨_,h1⟩ _ _ (λy H3 pi g3 py=>⟨g3 _ _ h1,by rw[sizeLine_eq];omega,dC,?_,aU,?_⟩) (λH3 pi g3=>⟨dC,g.trans g3,g3 _ _ h1,?_⟩)
  ·intro b o e;rw[aP (ck e hD)];exact g3 _ _ (g _ _ e)
  ·rw[rT,if_pos pi];exact iU (Paired.bI pr λz j q=>mono _ _ _ _ (aw.put (aw.of g3)) q) (mono _ _ _ _ (aw.put (aw.of (ai.refl _))) py)
  ·rw[rT,if_neg (by rw[pi];exact Yi),Wf];exact Paired.bI pr λz j q=>mono _ _ _ _ (aw.of g3) q
 ·grind
theorem ZX{K:PySem.W.Frag}{a:Addr}{xs:List V}{tt:TT}{te:TE}{fv:St}{D:Addr}{H:Hp}{Q:VK}(hs:ay K H a xs)(hn:xs.length<=1000)(hD:H D=none)(p:Nat->Bool)(f:Nat->V)
  (turn:∀(i:Nat) (v:V),xs[i]?=some v->tD tt te fv D H v (p i) (λy _=>y=f i))(fin:∀H',ai H H'->H' D=some (.lst (((List.range xs.length).filter p).map f))->Q (.ref D) H'):ik (tV K a) tt te fv D H Q:=
 ZW hs hn hD p (λi y _=>y=f i) (λ_ _ _ _ _ e=>e) turn λys H' g h1 pr=>fin H' g (by rw[←BY pr];exact h1)
theorem XI{lo:Int}{n:Nat}{tt:TT}{te:TE}{fv:St}{D:Addr}{H:Hp}{Q:VK}(hn:n<=1000)(hD:H D=none)(p:Nat->Bool)(Pe:Nat->V->Hp->Prop)(mono:∀i y H1 H2,aw D H1 H2->Pe i y H1->Pe i y H2)
  (turn:∀i,i<n->tD tt te fv D H (.int (lo+i)) (p i) (Pe i))(fin:∀ys H',ai H H'->H' D=some (.lst ys)->Paired (λy i=>Pe i y H') ys ((List.range n).filter p)->Q (.ref D) H'):ik (nK lo n) tt te fv D H Q:=by
 refine uV (λi ys H1=>i<=n/\ai H H1/\H1 D=some (.lst ys)/\Paired (λy j=>Pe j y H1) ys ((List.range i).filter p)) ⟨Yw _,cq hD _,aU,.nil⟩ ?_ ?_
 ·rintro i ys H1 hi ⟨_,g,h1,pr⟩;have dC:=hi;have ll:=CW pr;have fl:=Wk p (List.range i);rw[Tf] at fl;refine turn i hi H1 g ⟨_,h1⟩ _ _ (λy H3 pi g3 py=>⟨g3 _ _ h1,by rw[sizeLine_eq];omega,dC,?_,aU,?_⟩) (λH3 pi g3=>⟨dC,g.trans g3,g3 _ _ h1,?_⟩)
  ·intro b o e;rw[aP (ck e hD)];exact g3 _ _ (g _ _ e)
  ·rw[rT,if_pos pi];exact iU (Paired.bI pr λz j q=>mono _ _ _ _ (aw.put (aw.of g3)) q) (mono _ _ _ _ (aw.put (aw.of (ai.refl _))) py)
  ·rw[rT,if_neg (by rw[pi];exact Yi),Wf];exact Paired.bI pr λz j q=>mono _ _ _ _ (aw.of g3) q
 ·grind
theorem XJ{lo:Int}{n:Nat}{tt:TT}{te:TE}{fv:St}{D:Addr}{H:Hp}{Q:VK}(hn:n<=1000)(hD:H D=none)(p:Nat->Bool)(f:Nat->V)
  (turn:∀i,i<n->tD tt te fv D H (.int (lo+i)) (p i) (λy _=>y=f i))(fin:∀H',ai H H'->H' D=some (.lst (((List.range n).filter p).map f))->Q (.ref D) H'):ik (nK lo n) tt te fv D H Q:=
 XI hn hD p (λi y _=>y=f i) (λ_ _ _ _ _ e=>e) turn λys H' g h1 pr=>fin H' g (by rw[←BY pr];exact h1)
abbrev Nw(H:Hp)(o:HO)(Q:VK):Prop:=∀(p:Addr) (H':Hp),H p=none->ai H H'->H' p=some o->Q (.ref p) H'
theorem Nw.at(h:Nw H o Q):∀p,H p=none->Q (.ref p) (upd H p o):=λp np=>h p _ np (cq np o) aU
def vL(t:TA):TE:=λσ H Q=>t σ H λxs H1=>xs.length<=sizeLine/\Nw H1 (.tup xs) Q
def Rn(t:TA):TE:=λσ H Q=>t σ H λxs H1=>xs.length<=sizeLine/\Nw H1 (.lst xs) Q
section
variable {X:Cx}{es:List Expr}{t:TA}{pos:Pos}{K:PySem.W.Frag}
theorem dv{x1}(h:PA X es t):PE X (.Tuple es x1 pos) (vL t):=by
 intro pins s σ H Q I hq;refine wpAny_Tuple_spliced (az (h pos pins s σ H _ I hq) λus s1 ⟨xs,H1,I1,r,z,q⟩=>⟨by rw[←r.length];exact z,⟨.ref s1.heap.objs.size,upd H1 s1.heap.objs.size (.tup xs),I1.laid (λb u e=>Yb _ e) (Yd _) ?_,rfl,q.at _ (I1.av.fresh (Yd _))⟩⟩);exact⟨z,us,r,⟨_,Yn _ rfl,rfl,_,rfl,rfl⟩⟩
theorem df(h:PA X es t):PE X (.List es pos) (Rn t):=by
 intro pins s σ H Q I hq;refine wpAny_List_spliced (az (h pos pins s σ H _ I hq) λus s1 ⟨xs,H1,I1,r,z,q⟩=>⟨by rw[←r.length];exact z,⟨.ref s1.heap.objs.size,upd H1 s1.heap.objs.size (.lst xs),I1.laid (λb u e=>Yb _ e) (Yd _) ?_,rfl,q.at _ (I1.av.fresh (Yd _))⟩⟩);exact⟨z,us,0,r,Yn _ rfl⟩
theorem cZ.mono(h:cZ X f r)(m:∀xs H Q,r' xs H Q->r xs H Q):cZ X f r':=λpins s σ H xs us Q I v q=>h pins s σ H xs us Q I v (m xs H Q q)
theorem cF.mono(h:cF X f r)(m:∀x y H Q,r' x y H Q->r x y H Q):cF X f r':=λpins s σ H x y v u Q I rx ry q=>h pins s σ H x y v u Q I rx ry (m x y H Q q)
theorem tX.mono(h:tX X r)(m:∀x lo hi H Q,r' x lo hi H Q->r x lo hi H Q):tX X r':=λpins s σ H x v vl vu lo hi sl Q I rx hs pl pu q=>h pins s σ H x v vl vu lo hi sl Q I rx hs pl pu (m x lo hi H Q q)
inductive LH(xs:List V)(H:Hp)(Q:VK):Prop
 |mk (j:Int) (aC:xs=[.int j]) (aV:Nw H (.iM 0 j) Q):LH xs H Q
def ZaN:List V->Hp->VK->Prop:=λxs H Q=>LH xs H Q
theorem Cp:cZ X (.type "range") ZaN:=xG.mono λ_ _ _ zq=>by obtain⟨j,e,q⟩:=zq;exact⟨j,e,q.at⟩
inductive Lj(xs:List V)(H:Hp)(Q:VK):Prop
 |mk (p:Addr) (n:Nat) (aC:xs=[.ref p]) (aV:H p=some (.iM 0 (n:Int))) (bc:n<=1000) (bO:Nw H (.lst ((bp n).map V.int)) Q):Lj xs H Q
def ZY:List V->Hp->VK->Prop:=λxs H Q=>Lj xs H Q
theorem VT(hc:X.calm=true):cZ X (.type "list") ZY:=(BX hc).mono λ_ _ _ zq=>by obtain⟨p,n,e,h,l,q⟩:=zq;exact⟨p,n,e,h,l,q.at⟩
inductive LI(xs:List V)(H:Hp)(Q:VK):Prop
 |mk (p:Addr) (n:Nat) (aC:xs=[.ref p]) (aV:H p=some (.iM 0 (n:Int))) (bc:n<=1000) (bO:Nw H (.tup ((bp n).map V.int)) Q):LI xs H Q
def ZaO:List V->Hp->VK->Prop:=λxs H Q=>LI xs H Q
theorem VB(hc:X.calm=true):cZ X (.type "tuple") ZaO:=(K5 hc).mono λ_ _ _ zq=>by obtain⟨p,n,e,h,l,q⟩:=zq;exact⟨p,n,e,h,l,q.at⟩
def ZaP(K:PySem.W.Frag):List V->Hp->VK->Prop:=λxs H Q=>∃(p:Addr) (ns:List Int),xs=[.ref p]/\(ak K H p (ns.map V.int)\/ay K H p (ns.map V.int))/\ns.length<64/\
  ∀c7:List Int,c7.Perm ns->c7.Pairwise (·<=·)->Nw H (.lst (c7.map V.int)) Q
theorem ZaQ(h:X.K=K):cZ X (.builtin "sorted") (ZaP K):=h▸Lh.mono λ_ _ _ zq=>by obtain⟨p,ns,e,s,l,q⟩:=zq;exact⟨p,ns,e,s,l,λa c7 na pm so=>(q c7 pm so).at a na⟩
inductive OB(K:PySem.W.Frag)(x:V)(lo:Option Int)(hi:Option Int)(H:Hp)(Q:VK):Prop
 |mk (a xs) (aC:x=.ref a) (aV:ak K H a xs) (bc:Nw H (.lst (nF xs lo hi)) Q):OB K x lo hi H Q
def Zex(K:PySem.W.Frag):V->Option Int->Option Int->Hp->VK->Prop:=λx lo hi H Q=>OB K x lo hi H Q
theorem Nc(h:X.K=K):tX X (Zex K):=h▸ZbS.mono λ_ _ _ _ _ zq=>by obtain⟨a,xs,e,s,q⟩:=zq;exact⟨a,xs,e,s,q.at⟩
def Zey:R2:=λx y H Q=>∃l b xs zs,x=.ref l/\y=.ref b/\H l=some (.lst xs)/\H b=some (.lst zs)/\xs.length+zs.length<=sizeLine/\Nw H (.lst (xs++zs)) Q
theorem yp:cF X (binaryOp .Add) Zey:=Zc_.mono λ_ _ _ _ zq=>by obtain⟨l,b,xs,zs,e1,e2,h1,h2,z,q⟩:=zq;exact⟨l,b,xs,zs,e1,e2,h1,h2,z,q.at⟩
def Zb1:TE:=λ_ H Q=>Nw H (.dK []) Q
theorem oz:PE X (.Dict [] [] pos) Zb1:=λpins s σ H Q I q=>ZaJ pins s σ H Q I q.at
def Zb2:TE:=λ_ H Q=>Nw H (.dT []) Q
theorem Mh:PE X (.Dict [] [] pos) Zb2:=λpins s σ H Q I q=>ZaK pins s σ H Q I q.at
end
abbrev Ch(H:Hp)(a:Addr)(o:HO)(R:Hp->Prop):Prop:=∀H',aw a H H'->H' a=some o->R H'
theorem Ch.at(h:Ch H a o R):R (upd H a o):=h _ (aw.put (aw.of (ai.refl _))) aU
section
variable {X:Cx}
theorem l4.mono{id:String}{r r':V->List V->Hp->VK->Prop}(h:l4 X id r)(m:∀x xs H Q,r' x xs H Q->r x xs H Q):l4 X id r':=λpins s σ H x xs v us Q I rx rv q=>h pins s σ H x xs v us Q I rx rv (m x xs H Q q)
inductive LJ(x:V)(vs:List V)(H:Hp)(Q:VK):Prop
 |mk (l xs y) (aC:x=.ref l) (aV:vs=[y]) (bc:H l=some (.lst xs)) (bO:xs.length<sizeLine) (cG:Ch H l (.lst (xs++[y])) (Q .aA)):LJ x vs H Q
def Nd:V->List V->Hp->VK->Prop:=λx vs H Q=>LJ x vs H Q
theorem ot:l4 X "list.append" Nd:=uZ.mono λ_ _ _ _ zq=>by obtain⟨l,xs,y,e1,e2,h,z,q⟩:=zq;exact⟨l,xs,y,e1,e2,h,z,q.at⟩
def ZaR:V->List V->Hp->VK->Prop:=λx vs H Q=>∃l b xs zs,x=.ref l/\vs=[.ref b]/\H l=some (.lst xs)/\H b=some (.lst zs)/\xs.length+zs.length<=sizeLine/\Ch H l (.lst (xs++zs)) (Q .aA)
theorem YO:l4 X "list.extend" ZaR:=ZO.mono λ_ _ _ _ zq=>by obtain⟨l,b,xs,zs,e1,e2,h1,h2,z,q⟩:=zq;exact⟨l,b,xs,zs,e1,e2,h1,h2,z,q.at⟩
def Zb3:V->List V->Hp->VK->Prop:=λx vs H Q=>∃l xs,x=.ref l/\vs=[]/\H l=some (.lst xs)/\Ch H l (.lst []) (Q .aA)
theorem ZZ:l4 X "list.clear" Zb3:=ZaD.mono λ_ _ _ _ zq=>by obtain⟨l,xs,e1,e2,h,q⟩:=zq;exact⟨l,xs,e1,e2,h,q.at⟩
theorem qz.mono(h:qz X t)(m:∀o i v H Q,t' o i v H Q->t o i v H Q):qz X t':=by
 intro pins s σ H o i x ov iv v Q I r1 r2 r3 q;exact h pins s σ H o i x ov iv v Q I r1 r2 r3 (m _ _ _ _ _ q)
def Zdz:V->V->V->Hp->(Hp->Prop)->Prop:=λo i v H Q=>∃p xs k j,o=.ref p/\i=.int k/\H p=some (.lst xs)/\jX xs.length k=some j/\Ch H p (.lst (xs.set j v)) Q
theorem Mi:qz X Zdz:=set_list.mono λ_ _ _ _ _ zq=>by obtain⟨p,xs,k,j,e1,e2,h,z,q⟩:=zq;exact⟨p,xs,k,j,e1,e2,h,z,q.at⟩
variable {o i value:Expr}{td ty tv ta:TE}{pos pos':Pos}{f:Str}
inductive Nf(D:Ends)(σ:St)(v:V)(x:V)(y:V)(H3:Hp):Prop
 |mk (a kvs k) (aC:x=.ref a) (aV:H3 a=some (.dK kvs)) (bc:y=kV k) (bO:kvs.length<sizeLine) (cG:Ch H3 a (.dK (putK kvs k v)) (D.nx σ)):Nf D σ v x y H3
def ZdA(td ty tv:TE):TS:=λD σ H=>tv σ H λv H1=>td σ H1 λx H2=>ty σ H2 λy H3=>Nf D σ v x y H3
inductive Mj(D:Ends)(σ:St)(v:V)(x:V)(y:V)(H3:Hp):Prop
 |mk (a b kvs k) (aC:x=.ref a) (aV:H3 a=some (.dT kvs)) (bc:y=.ref b) (bO:H3 b=some (.tup (k.map kV))) (cG:kvs.length<sizeLine) (dH:Ch H3 a (.dT (putK kvs k v)) (D.nx σ)):Mj D σ v x y H3
def Zb4(td ty tv:TE):TS:=λD σ H=>tv σ H λv H1=>td σ H1 λx H2=>ty σ H2 λy H3=>Mj D σ v x y H3
theorem lG(hu:X.A.units+1<cLine)(ho:PE X o td)(hi:PE X i ty)(hv:PE X value tv)(hs:swapsWith value (some (.Subscript o i pos')) pos.line X.env=pure false:=by rfl):
  PS X (.Assign [.Subscript o i pos'] value pos) (ZdA td ty tv):=by
 intro pins s σ H D I h;refine wpAny_Assign_Subscript (az (hv pins s σ H _ I h) λr s1 zq=>?_) hs;obtain⟨v,H1,I1,rv,q1⟩:=zq;refine az (ho pins s1 σ H1 _ I1 q1) λu s2 zq=>?_;obtain⟨x,H2,I2,rx,q2⟩:=zq;refine az (hi pins s2 σ H2 _ I2 q2) λiv s3 zq=>?_;obtain⟨y,H3,I3,ry,a,kvs,k,ex,ha,ey,l,q3⟩:=zq;subst ex;subst ey;obtain rfl:u=Value.ref a:=rx;exact Mf hu I3 (qE.k ha l) ry rv λs4 I4=>⟨σ,_,I4,q3.at⟩
theorem Ml(hu:X.A.units+1<cLine)(ho:PE X o td)(hi:PE X i ty)(hv:PE X value tv)(hs:swapsWith value (some (.Subscript o i pos')) pos.line X.env=pure false:=by rfl):
  PS X (.Assign [.Subscript o i pos'] value pos) (Zb4 td ty tv):=by
 intro pins s σ H D I h;refine wpAny_Assign_Subscript (az (hv pins s σ H _ I h) λr s1 zq=>?_) hs;obtain⟨v,H1,I1,rv,q1⟩:=zq;refine az (ho pins s1 σ H1 _ I1 q1) λu s2 zq=>?_;obtain⟨x,H2,I2,rx,q2⟩:=zq;refine az (hi pins s2 σ H2 _ I2 q2) λiv s3 zq=>?_;obtain⟨y,H3,I3,ry,a,b,kvs,k,ex,ha,ey,hb,l,q3⟩:=zq;subst ex;subst ey;obtain rfl:u=Value.ref a:=rx;exact Mf hu I3 (qE.t ha hb l) ry rv λs4 I4=>⟨σ,_,I4,q3.at⟩
def Zez(K:PySem.W.Frag)(ta tv:TE)(f:Str):TS:=λD σ H=>tv σ H λy H1=>ta σ H1 λx H2=>∃a C dx fs,x=.ref a/\H2 a=some (.ins C dx fs)/\fL K C/\dw K C f/\fs.length<1000/\Ch H2 a (.ins C dx (cK f y fs)) (D.nx σ)
theorem fS{K:PySem.W.Frag}(hK:X.K=K)(ha:PE X o ta)(hv:PE X value tv)(hs:swapsWith value (some (.Attribute o f pos')) pos.line X.env=pure false:=by rfl):PS X (.Assign [.Attribute o f pos'] value pos) (Zez K ta tv f):=by
 subst hK;intro pins s σ H D I h;refine plainObj_wpAny_Assign_Attribute (az (hv pins s σ H _ I h) λu s1 zq=>?_) hs;obtain⟨y,H1,I1,ry,q⟩:=zq;refine az (ha pins s1 σ H1 _ I1 q) λov s2 zq=>?_;obtain⟨x,H2,I2,rx,a,C,dx,fs,ex,ea,c,n,l,q2⟩:=zq;subst ex;obtain rfl:ov=Value.ref a:=rx;exact Ly I2 ea c n l ry λs3 I3=>⟨σ,_,I3,q2.at⟩
end
def wD(x:Str):It:=⟨λi _=>i<x.length,λi H v H'=>H'=H/\∃c,x.cps[i]?=some c/\v=.str ⟨#[c]⟩,λi _=>x.length<=i⟩
theorem VU{P:Program}{w:World}{K:PySem.W.Frag}{tg:Expr}(it:Addr)(x:Str)(t:Tok):Turn P w K tg (wD x) [it] it (λi h=>h.IsStrIter it "str_ascii_iterator" x t i) where
 mem:=by simp
 obj:=λi h st b hb=>by
  have e:b=it:=by simpa using hb
  obtain⟨o,e,c,d⟩:=st
  grind
 keep:=λi h h' st k=>let⟨o,e,r⟩:=st;⟨o,k it (by simp) o e,r⟩
 item:=by
  intro X hP hw hK hc i pins s σ H E I hf st hg;obtain⟨f0,f1,f2,f3,f4,f5⟩:=hf it (by simp);have hx:=W7 hg;refine wpAny_pyNext_ascii_item st hx λh' aK sb=>?_;obtain⟨o,e,c,d⟩:=id aK;exact⟨_,rfl,qp e c d (by decide) ⟨.str ⟨#[x.cps[i]]⟩,H,(I.turned (λb o hb e=>(sb.2 b hb).trans e) f0 f1 f3 f4 f5),⟨_,rfl⟩,⟨rfl,_,hx,rfl⟩,aK,λb hb=>(hf b hb).1⟩⟩
 done:=by
  intro X hP hw hK hc i pins s σ H E I hf st hg;obtain⟨f0,f1,f2,f3,f4,f5⟩:=hf it (by simp);exact wpAny_pyNext_ascii_end (I.ok.hd hc) st (Js hg) λh' eb=>⟨rfl,I.turned (λb o hb e=>eb b o hb e) f0 f1 f3 f4 f5⟩
 self:=λ_ _ _ _ _ st h=>wpAny_pyIter_striter_ascii st h
theorem V9{P:Program}{w:World}{K:PySem.W.Frag}{tg:Expr}(it:Addr)(x:Str)(t:Tok):Turn P w K tg (wD x) [it] it (λi h=>h.IsStrIter it "str_iterator" x t i) where
 mem:=by simp
 obj:=λi h st b hb=>by
  have e:b=it:=by simpa using hb
  obtain⟨o,e,c,d⟩:=st
  grind
 keep:=λi h h' st k=>let⟨o,e,r⟩:=st;⟨o,k it (by simp) o e,r⟩
 item:=by
  intro X hP hw hK hc i pins s σ H E I hf st hg;obtain⟨f0,f1,f2,f3,f4,f5⟩:=hf it (by simp);have hx:=W7 hg;refine wpAny_pyNext_wide_item st hx λh' aK sb=>?_;obtain⟨o,e,c,d⟩:=id aK;exact⟨_,rfl,qp e c d (by decide) ⟨.str ⟨#[x.cps[i]]⟩,H,(I.turned (λb o hb e=>(sb.2 b hb).trans e) f0 f1 f3 f4 f5),⟨_,rfl⟩,⟨rfl,_,hx,rfl⟩,aK,λb hb=>(hf b hb).1⟩⟩
 done:=by
  intro X hP hw hK hc i pins s σ H E I hf st hg;obtain⟨f0,f1,f2,f3,f4,f5⟩:=hf it (by simp);exact wpAny_pyNext_wide_end (I.ok.hd hc) st (Js hg) λh' eb=>⟨rfl,I.turned (λb o hb e=>eb b o hb e) f0 f1 f3 f4 f5⟩
 self:=λ_ _ _ _ _ st h=>wpAny_pyIter_striter_wide st h
inductive Qh(R:It->Hp->Prop)(v:V)(H1:Hp):Prop
 |mk (x) (aC:v=.str x) (aV:R (wD x) H1):Qh R v H1
def Zfi(te:TE):TI:=λσ H R=>te σ H λv H1=>Qh R v H1
theorem ZdB{X:Cx}{tg l:Expr}{tl:TE}(hl:PE X l tl):PI X tg l (Zfi tl):=by
 intro pins s σ H R I h;refine az (hl pins s σ H _ I h) λv s1 zq=>?_;obtain⟨x,H1,I1,r1,q1⟩:=zq;obtain⟨z,e,q⟩:=q1;subst e;obtain⟨t,rfl⟩:=r1;have fin:∀b∈[s1.heap.objs.size],gW X pins H1 b:=λb hb=>by
  have e:b=s1.heap.objs.size:=by simpa using hb
  subst e;exact I1.nE (Yd _) (I1.av.fresh (Yd _))
 cases ha:z.cps.all (·<128) with
 |true=>exact wpAny_pyIter_ascii ha ⟨s1.heap.objs.size,[s1.heap.objs.size],_,_,H1,rfl,I1.kept λb o e=>Yb _ e,VU _ z t,⟨_,Yn _ rfl,rfl,rfl⟩,fin,q⟩
 |false=>exact wpAny_pyIter_wide ha ⟨s1.heap.objs.size,[s1.heap.objs.size],_,_,H1,rfl,I1.kept λb o e=>Yb _ e,V9 _ z t,⟨_,Yn _ rfl,rfl,rfl⟩,fin,q⟩
abbrev sg(c:Nat):V:=.str ⟨#[c]⟩
theorem ZaS(Pv:Nat->List V->Hp->Prop)(h0:Pv 0 [] (upd H D (.lst [])))
  (hs:∀(i c:Nat) (ys:List V) (H:Hp),x.cps[i]?=some c->Pv i ys H->tt (some (sg c)::fv) H λb H1=>if b=true then te (some (sg c)::fv) H1 λy H3=>H3 D=some (.lst ys)/\ys.length<sizeLine/\Pv (i+1) (ys++[y]) (upd H3 D (.lst (ys++[y]))) else Pv (i+1) ys H1)
  (hd:∀ys H,Pv x.length ys H->Q (.ref D) H):ik (wD x) tt te fv D H Q:=by
 refine⟨λi m ys H=>m=x.length-i/\i<=x.length/\Pv i ys H,⟨x.length,by simp,Yw _,h0⟩,?_⟩;rintro i m ys H ⟨rfl,hi,p⟩;by_cases bL:i<x.length
 ·refine .inr ⟨bL,Pv (i+1),λf_ H' p'=>⟨x.length-(i+1),by omega,rfl,bL,p'⟩,λv H' y=>?_⟩;obtain⟨e,c,hc,rfl⟩:=y
  grind
 ·have e:i=x.length:=by omega
  subst e;exact .inl ⟨Yd _,hd ys H p⟩
theorem Z0(hn:x.length<=100000)(hD:H D=none)(f:Nat->V)
  (turn:∀(i c:Nat),x.cps[i]?=some c->∀H1,ai H H1->∀Kt:VK,(∀H3,ai H1 H3->Kt (f c) H3)->te (some (sg c)::fv) H1 Kt)(fin:∀H',ai H H'->H' D=some (.lst (x.cps.toList.map f))->Q (.ref D) H'):ik (wD x) yW te fv D H Q:=by
 refine ZaS (λi ys H1=>i<=x.length/\ai H H1/\H1 D=some (.lst ys)/\ys=(x.cps.toList.take i).map f) ⟨Yw _,cq hD _,aU,rfl⟩ ?_ ?_
 ·rintro i c ys H1 hi ⟨_,g,h1,e⟩;have dC:i<x.length:=(Array.getElem?_eq_some_iff.mp hi).1;refine kP (cV (turn i c hi H1 g _ λH3 g3=>⟨g3 _ _ h1,?_,dC,?_,aU,?_⟩))
  ·rw[e,Ya,Wa,sizeLine_eq];omega
  ·intro b o q;rw[aP (ck q hD)];exact g3 _ _ (g _ _ q)
  ·have jn:x.cps.toList[i]?=some c:=by rw[Jw];exact hi
   rw[e,Yy,jn,Ym];rfl
 ·rintro ys H1 ⟨_,g,h1,e⟩;refine fin H1 g ?_;rw[h1,e,Ws (by show x.cps.toList.length<=x.cps.size;simp)]
end L2
namespace L2
open PySem PySem.W PySem.Spec PyProof.Rows
def ZdC:List V->Hp->VK->Prop:=λxs H Q=>∃(p:Addr) (kvs:List (Key×V)),xs=[.ref p]/\H p=some (.dK kvs)/\Nw H (.lst (kvs.map λkv=>kV kv.1)) Q
theorem Mm:∀{ks:List Key} {us:List Value},us.length=ks.length->(∀(j:Nat) (v:Value),us[j]?=some v->∃k,ks[j]?=some k/\(dh P w).is k v=true)->Vals (ks.map kV) us
 |[],[],_,_=>.nil
 |k::ks,u::us,hl,h=>by
  obtain⟨k',e,hk⟩:=h 0 u rfl;have e':k=k':=by simpa using e
  subst e';refine .cons ?_ (Mm (by simpa using hl) λj v hj=>by simpa using h (j+1) v (by simpa using hj));rcases ko (show qo k u=true from hk) with⟨i,t,rfl,rfl⟩|⟨x,t,rfl,rfl⟩;·exact⟨t,rfl⟩
  ·exact⟨t,rfl⟩
 |[],_::_,hl,_=>by simp at hl
 |_::_,[],hl,_=>by simp at hl
theorem XM(hc:X.calm=true):cZ X (.type "list") ZdC:=by
 rintro pins s σ H xs us Q I r ⟨p,kvs,rfl,hp,q⟩;obtain⟨u,rfl,ru⟩:=vals1 r;obtain rfl:u=Value.ref p:=ru;obtain⟨lim,GX,vs,kv,dd⟩:=lR I.av hp;obtain⟨ep,da⟩:=dd.dictAt;have kl:=kv.length;refine kdl_call (kdl_dict GX) (I.ok.hd hc) da (by omega) λh' tk acc c kp hD it=>?_;have vals:Vals (kvs.map λkv=>kV kv.1) acc.toList:=by
  have e:(kvs.map λkv=>kV kv.1)=(vs.map (·.1)).map kV:=by rw[←kv.keys,Wc];rfl
  rw[e];refine Mm (P:=X.prog) (w:=X.w) (by rw[W3,Ya];exact it.1) λj v hj=>?_;obtain⟨k,x,hx,hk⟩:=it.2 j v (by rw[←Jw];exact hj)
  grind
 exact⟨.ref s.heap.objs.size,_,(I.laid (o:=.lst (kvs.map λkv=>kV kv.1)) kp (Yd _) ⟨by rw[Ya];exact lim,acc.toList,c,vals,by rw[Array.toArray_toList];exact hD⟩),rfl,q.at _ (I.av.fresh (Yd _))⟩
end L2
namespace L2
open PySem PySem.Spec PyProof.Rows
abbrev yM(D:List (Str×Str)):List (Str×PyData):=D.map λp=>(p.1,PyData.str p.2)
def tJ(K:PySem.W.Frag)(a:Addr)(D:List (Str×Str)):Prop:=KTD.tabLook KTD.flatLooks (λb=>K.lookup b) a (yM D)=true
theorem u3(f:δ->ε)(k:Str):∀D:List (Str×δ),KTD.datumAt k (D.map λp=>(p.1,f p.2))=(KTD.datumAt k D).map f
 |[]=>rfl
 |p::D=>by
  rw[Wp];unfold KTD.datumAt;by_cases e:k=p.1;·simp[e]
  ·simp only[e];exact u3 f k D
theorem tJ.here{K:PySem.W.Frag}{a:Addr}{D:List (Str×Str)}{h:Heap}(t:tJ K a D)(qO:K.In h):KTD.Here h h a ((yM D).map λp=>(p.1,KTD.Dat.flat p.2)):=
 ⟨KTD.TabOf.text (KTD.tab_of_look (λ_ _=>KTD.flat_of_looks) (λa o e=>qO a o e) t),λ_ _ e=>e⟩
def lW(D:List (Str×Str))(z:Str):Bool:=(KTD.datumAt z D).isSome
theorem keys_has(D:List (Str×Str))(z:Str):KTD.inKeys z ((yM D).map λp=>(p.1,KTD.Dat.flat p.2))=lW D z:=by
 rw[←KTD.isSome_datumAt,u3 KTD.Dat.flat,u3 PyData.str];unfold lW
 grind
def ZdD(K:PySem.W.Frag)(neg:Bool):R2:=λx y H Q=>∃(z:Str) (a:Addr) (D:List (Str×Str)),x=.str z/\y=.ref a/\tJ K a D/\Q (.bl (if neg=true then !lW D z else lW D z)) H
theorem ZdE{X:Cx}{K:PySem.W.Frag}(hK:X.K=K):cF X (compareOp .In) (ZdD K false):=by
 subst hK;rintro pins s σ H x y v u Q I rx ry ⟨z,a,D,rfl,rfl,t,q⟩;obtain⟨tk,rfl⟩:=rx;obtain rfl:u=Value.ref a:=ry;refine KTD.in_text (t.here I.dA) ?_;rw[keys_has];exact⟨.bl (lW D z),H,I.tok _,rfl,q⟩
def ZdF(K:PySem.W.Frag):R2:=λx y H Q=>∃(a:Addr) (z r:Str) (D:List (Str×Str)),x=.ref a/\y=.str z/\tJ K a D/\KTD.datumAt z D=some r/\Q (.str r) H
theorem Zb5{X:Cx}{K:PySem.W.Frag}(hK:X.K=K):jj X (ZdF K):=by
 subst hK;intro value slice pins s σ H x y v u Q I rx ry h hs;obtain⟨a,z,r,D,rfl,rfl,t,e,q⟩:=h;obtain⟨tk,rfl⟩:=ry;obtain rfl:v=Value.ref a:=rx;have T:=t.here I.dA;refine tail_any T.typeIs slot_dict_getitem.lookup ?_ hs;unfold getItem;try with_reducible refine wpAny_holding ?_
 refine wpAny_bind (wpAny_sequenceKey T.typeIs (by decide) ?_);refine wpAny_bind (wpAny_callSpecial?_slot T.typeIs slot_dict_getitem
  (wpAny_call_entry slot_dict_getitem T.typeIs entry_dict_getitem ?_ (args_dict_getitem _ _)))
 show wpAny _ _ (dictGet a (.str z tk)>>=_) _ _ s;have ed:KTD.datumAt z ((yM D).map λp=>(p.1,KTD.Dat.flat p.2))=some (.flat (.str r)):=by rw[u3 KTD.Dat.flat,u3 PyData.str,e];rfl
 refine wpAny_bind (KTD.dictGet_text T (λd v ha hv=>wpAny_pure ⟨v,rfl,wpAny_pure ?_⟩) λhn=>by rw[ed] at hn;cases hn);rw[ed] at ha;cases ha;cases hv s.heap with
 |str x t'=>exact⟨.str r,H,I.tok _,⟨t',rfl⟩,q⟩
theorem sV(h:cA X.prog X.w X.K X.mg X.base k m C ps sp)(hr:c8 j X.A)(hj:k<=j)(ho:PE X o ta)
  (ht:eval (.Call (.Attribute o m apos) [] [] pos) X.env=(do
   let ov←eval o X.env
   standAt apos.atName
   let(f,first)←holding [ov] (getMethod ov m pl)
   callWith pos f first (backTo pos (starEach [] X.env)) (backToKw pos (keywordEach [] X.env))):=by rfl):
  PE X (.Call (.Attribute o m apos) [] [] pos) (yK C m sp [] E0 ta je):=by
 obtain⟨f,fd,c,hm,F,b⟩:=h;exact Zaz ho c hm F (hr.mono hj) b .nil yL ht
def yY(K:PySem.W.Frag)(neg:Bool):R2:=λx y H Q=>∃(p q:Addr) (xs:List V),x=.ref p/\y=.ref q/\ak K H p xs/\ak K H q []/\Q (.bl (if neg=true then !xs.isEmpty else xs.isEmpty)) H
theorem Qi(hu:X.A.units<cLine):cF X (compareOp .Eq) (yY X.K false):=by
 rintro pins s σ H x y v u Q I rx ry ⟨p,q,xs,rfl,rfl,h1,h2,k⟩;cases rx;cases ry;obtain⟨ah,r1,p1,z1⟩:=I.list h1;obtain⟨gX,r2,p2,z2⟩:=I.list h2;cases r2;have l1:=r1.length;cases xs with
 |nil=>
  cases r1;exact SeqAt.eq_listAt (e:=λ_=>true) p1.isList p2.isList rfl hu (λj h1 _=>absurd h1 (by simp)) (cE I k (by simp))
 |cons a r=>exact SeqAt.eq_list_lengthsAt p1.isList p2.isList (by simp;intro z;subst z;simp at l1) hu (cE I k (by simp))
theorem ZdG(hu:X.A.units<cLine):cF X (compareOp .NotEq) (yY X.K true):=by
 rintro pins s σ H x y v u Q I rx ry ⟨p,q,xs,rfl,rfl,h1,h2,k⟩;cases rx;cases ry;obtain⟨ah,r1,p1,z1⟩:=I.list h1;obtain⟨gX,r2,p2,z2⟩:=I.list h2;cases r2;have l1:=r1.length;cases xs with
 |nil=>
  cases r1;exact SeqAt.RcNeAt.lists (e:=λ_=>true) p1.isList p2.isList rfl hu (λj h1 _=>absurd h1 (by simp)) _ _ _ _ (cE I k (by simp))
 |cons a r=>exact SeqAt.RcNeAt.lists_lengths p1.isList p2.isList (by simp;intro z;subst z;simp at l1) hu _ _ _ _ (cE I k (by simp))
theorem YQ:cZ X (.builtin "len") (λxs H Q=>∃p kvs,xs=[.ref p]/\H p=some (.dK kvs)/\Q (.int (kvs.length:Int)) H):=by
 rintro pins s σ H xs us Q I r ⟨p,kvs,rfl,hp,q⟩;obtain⟨u,rfl,ru⟩:=vals1 r;obtain rfl:u=Value.ref p:=ru;exact Zeu I (.inl hp) λt s' I'=>⟨.int (kvs.length:Int),H,I',⟨t,rfl⟩,q⟩
theorem aw.trans(g:aw D H H')(g':aw D H' HU):aw D H HU:=λb o e n=>g' b o (g b o e n) n
def Out(fp:List Addr)(H H':Hp):Prop:=∀b o,H b=some o->b∉fp->H' b=some o
theorem Out.of(g:ai H H'):Out fp H H':=λb o e _=>g b o e
theorem Out.trans(g:Out fp H H')(g':Out fp H' HU):Out fp H HU:=λb o e n=>g' b o (g b o e n) n
theorem Out.bar(g:aw a H H')(m:a∈fp):Out fp H H':=λb o e n=>g b o e λz=>n (by rw[z];exact m)
theorem setC(h:u D (σ.set i (some v)) H):vR (vS (tC v) (vG i)) u D σ H:=h
theorem cy(h:te σ H λx H1=>u D (σ.set i (some x)) H1):vR (vS te (vG i)) u D σ H:=h
theorem cY(h:H a=some (.dK kvs))(e:aO kvs (.inr z)=o):dU H a (.str z) o:=.inl ⟨kvs,.inr z,.inl h,rfl,e.symm⟩
section
variable {X:Cx}{elt iter pk:Expr}{xs:List Str}{pos:Pos}{ifs:List Expr}{scope:Scope}{cl:List (Str×Addr)}{fr:List (Str×Nat)}{tg:TG}{tt:TT}{te:TE}{pins:List (Addr×Obj)}{σ:St}
def ZdH(n:Nat)(wi:TI)(fr:List (Str×Nat))(tg:TG)(tt:TT)(te:TE):TE:=λσ H Q=>wi σ H λJ H1=>∀D,H1 D=none->FN n J tg tt te (fV σ fr) D H1 Q
theorem ZaT(hc:X.calm=true)(S:uU X scope cl xs fr)(hg:∀C s H fp,PG (cL X xs fr scope cl C s H fp) pk tg)(hi:PI X pk iter wi)
  (ht:∀C s H fp,tZ (cL X xs fr scope cl C s H fp) ifs tt)(he:∀C s H fp,PE (cL X xs fr scope cl C s H fp) elt te)
  (hs:∀x,foldedSetIterable iter X.env x=pure x:=by intro _;rfl):PE X (.ListComp elt [⟨pk,iter,ifs,0⟩] scope pos) (ZdH xs.length wi fr tg tt te):=by
 intro pins s σ H Q I h;refine wpAny_comprehension_free rfl hs S.vV S.kind S.names (az (hi pins s σ H _ I h) λv s1 h1=>az h1 λtU s2 h2=>?_);obtain⟨it,fp,tn,J,H2,e,I2,T,dt,f2,hw⟩:=h2;subst e;refine Lz (RR:=λacc C=>compPost (model X.prog X.w) X.A X.xe none (EP X pins σ Q) acc C) hc S hg ht he I2 T dt f2 hw ?_;intro D C s1 H1 m I1 hn f0 f1 f3 f4 f5 q;exact⟨m,hn,λh' nS=>⟨.ref D,H1,I1.turned (λb o hb e=>nS.extBut b o hb e) f0 f1 (.inr f3) f4 f5,rfl,q⟩⟩
end
theorem YR{K:PySem.W.Frag}{a:Addr}{xs:List V}{n:Nat}{tg:TG}{tt:TT}{te:TE}{fv:St}{D:Addr}{H:Hp}{Q:VK}(Pv:Nat->List V->Hp->Prop)(h0:Pv 0 [] (upd H D (.lst [])))(hl:∀i ys H,i<=xs.length->Pv i ys H->ak K H a xs)
  (hs:∀i v ys H,xs[i]?=some v->Pv i ys H->∀os:St,os.length=n->tg v (os++fv) H λcX H2=>(∃jk:St,jk.length=n/\cX=jk++fv)/\tt cX H2 λc H1=>if c=true then te cX H1 λy H3=>H3 D=some (.lst ys)/\ys.length<sizeLine/\Pv (i+1) (ys++[y]) (upd H3 D (.lst (ys++[y]))) else Pv (i+1) ys H1)
  (hd:∀ys H,Pv xs.length ys H->Q (.ref D) H):FN n (iN K a) tg tt te fv D H Q:=by
 refine⟨λi m ys H=>m=xs.length-i/\i<=xs.length/\Pv i ys H,⟨xs.length,by simp,Yw _,h0⟩,?_⟩;rintro i m ys H ⟨rfl,hi,p⟩;have q:=hl i ys H hi p;by_cases bL:i<xs.length
 ·refine .inr ⟨⟨xs,xs[i],q,by simp[bL]⟩,Pv (i+1),λf_ H' p'=>⟨xs.length-(i+1),by omega,rfl,bL,p'⟩,λx H' y=>?_⟩;obtain⟨e,y⟩:=y
  grind
 ·have e:i=xs.length:=by omega
  subst e;exact .inl ⟨⟨xs,q,Yd _⟩,hd ys H p⟩
abbrev iP(elt t1 i1 t2 i2:Expr)(scope:Scope)(pos:Pos):Expr:=.ListComp elt [⟨t1,i1,[],0⟩,⟨t2,i2,[],0⟩] scope pos
theorem Zgd(elt t1 i1 t2 i2:Expr)(scope:Scope)(pos:Pos)(it acc:Value)(env:Env):
  compTurn (iP elt t1 i1 t2 i2 scope pos) 0 it acc env=(do
   standAt i1.pos
   match←pyNext it with
   |none=>pure (.done .next)
   |some v=>
    letOwnedTupleGo t1 it v
    assign t1 env v
    let mut ok:=true
    for c in ([]:List Expr) do
     if ok then ok←isTrue c env (eval c env)
    if ok then
     let x←eval i2 env
     standAt i2.pos
     let x←foldedSetIterable i2 env x;let _←runOwn (.compStart (iP elt t1 i1 t2 i2 scope pos) 1 (←holding [x] (pyIter x)) acc env) env
    again (.compLoop (iP elt t1 i1 t2 i2 scope pos) 0 it acc env)):=by rfl
theorem Zge(elt t1 i1 t2 i2:Expr)(scope:Scope)(pos:Pos)(it acc:Value)(env:Env):
  compTurn (iP elt t1 i1 t2 i2 scope pos) 1 it acc env=(do
   standAt i2.pos
   match←pyNext it with
   |none=>pure (.done .next)
   |some v=>
    letOwnedTupleGo t2 it v
    assign t2 env v
    let mut ok:=true
    for c in ([]:List Expr) do
     if ok then ok←isTrue c env (eval c env)
    if ok then
     (do let _←call (.builtin "list.append") [acc,←eval elt env])
    again (.compLoop (iP elt t1 i1 t2 i2 scope pos) 1 it acc env)):=by rfl
section
variable {prog:Program}{w:World}{A:Around}{R:Result->Shared->Prop}{s:Shared}{elt t1 i1 t2 i2:Expr}{scope:Scope}{pos:Pos}{it acc:Value}{env:Env}
theorem Z1(I:Nat->Shared->Prop)
  (turn:∀n s,I n s->wpAny (model prog w) A (pyNext it) (λr bG=>match r with
   |none=>R (.ok .next) bG
   |some v=>wpAny (model prog w) A (letOwnedTupleGo t2 it v) (λ_ cT=>wpAny (model prog w) A (assign t2 env v) (λ_ dR=>
     wpAny (model prog w) A (eval elt env) (λx iJ=>
       wpAny (model prog w) A (call (.builtin "list.append") [acc,x]) (λ_ kO=>∃m,m<n/\I m kO) (notedBy (model prog w) A env λe s'=>R (.error e) s') iJ) (notedBy (model prog w) A env λe s'=>R (.error e) s') dR) (notedBy (model prog w) A env λe s'=>R (.error e) s') cT) (notedBy (model prog w) A env λe s'=>R (.error e) s') bG) (notedBy (model prog w) A env λe s'=>R (.error e) s') s)
  (n:Nat)(h:I n s):codeAny (model prog w) A (.compLoop (iP elt t1 i1 t2 i2 scope pos) 1 it acc env) R s:=by
 refine codeAny_loop rfl I (λn s hI=>wpAny_noted (wpAny_bind (wpAny_standAt (wpAny_bind (wpAny_mono (turn n s hI) (λr bG d_=>?_) λ_ _ h'=>h'))))) n h;cases r with
 |none=>exact wpAny_pure d_
 |some v=>
  exact wpAny_bind (wpAny_mono d_ (λ_ cT h₀=>wpAny_bind (wpAny_mono h₀ (λ_ dR nG=>wpAny_bind (wpAny_tests_nil (wpAny_bind (wpAny_bind (wpAny_mono nG (λx iJ vW=>wpAny_bind (wpAny_mono vW (λ_ kO vX=>wpAny_pure (wpAny_pure ⟨rfl,vX⟩)) λ_ _ h'=>h')) λ_ _ h'=>h'))))) λ_ _ h'=>h')) λ_ _ h'=>h')
theorem Z2(hs:∀x,foldedSetIterable i2 env x=pure x)(I:Nat->Shared->Prop)
  (turn:∀n s,I n s->wpAny (model prog w) A (pyNext it) (λr bG=>match r with
   |none=>R (.ok .next) bG
   |some v=>wpAny (model prog w) A (letOwnedTupleGo t1 it v) (λ_ cT=>wpAny (model prog w) A (assign t1 env v) (λ_ dR=>
     wpAny (model prog w) A (eval i2 env) (λx dN=>wpAny (model prog w) A (pyIter x) (λzy iJ=>
      codeAny (model prog w) A (.compStart (iP elt t1 i1 t2 i2 scope pos) 1 zy acc env) (λr kO=>match r with|.ok _=>∃m,m<n/\I m kO|.error _=>False) iJ)
      (notedBy (model prog w) A env λe s'=>R (.error e) s') dN) (notedBy (model prog w) A env λe s'=>R (.error e) s') dR) (notedBy (model prog w) A env λe s'=>R (.error e) s') cT) (notedBy (model prog w) A env λe s'=>R (.error e) s') bG) (notedBy (model prog w) A env λe s'=>R (.error e) s') s)
  (n:Nat)(h:I n s):codeAny (model prog w) A (.compLoop (iP elt t1 i1 t2 i2 scope pos) 0 it acc env) R s:=by
 refine codeAny_loop rfl I (λn s hI=>wpAny_noted (wpAny_bind (wpAny_standAt (wpAny_bind (wpAny_mono (turn n s hI) (λr bG d_=>?_) λ_ _ h'=>h'))))) n h;cases r with
 |none=>exact wpAny_pure d_
 |some v=>
  refine wpAny_bind (wpAny_mono d_ (λ_ cT h₀=>wpAny_bind (wpAny_mono h₀ (λ_ dR nG=>wpAny_bind (wpAny_tests_nil (wpAny_bind (wpAny_mono nG (λx dN tI=>wpAny_bind (wpAny_standAt ?_)) λ_ _ h'=>h')))) λ_ _ h'=>h')) λ_ _ h'=>h');rw[hs];refine wpAny_bind (wpAny_pure (wpAny_bind (wpAny_holding (wpAny_mono tI (λzy iJ vW=>wpAny_bind (wpAny_runOwn (codeAny_mono vW λr kO vX=>?_))) λ_ _ h'=>h'))));cases r with
  |error e=>grind
  |ok f=>exact wpAny_pure ⟨rfl,vX⟩
theorem WY
  (h0:codeAny (model prog w) A (.compLoop (iP elt t1 i1 t2 i2 scope pos) 1 it acc env) R s)
  (h:wpAny (model prog w) A (pyIter it) (λHV s'=>codeAny (model prog w) A (.compLoop (iP elt t1 i1 t2 i2 scope pos) 1 HV acc env) R s') (notedBy (model prog w) A env λx s'=>R (.error x) s') s):
  codeAny (model prog w) A (.compStart (iP elt t1 i1 t2 i2 scope pos) 1 it acc env) R s:=by
 refine codeAny_of_tree (wpAny_notedAt (wpAny_bind (wpAny_askSetting (wpAny_ite ?_))));split
 ·first
   |exact wpAny_bind (wpAny_pure (wpAny_pure (And.intro rfl h0)))
   |exact wpAny_pure (And.intro rfl h0)
 ·first
   |exact wpAny_bind (wpAny_rule (wpAny_bind (wpAny_standAt (wpAny_bind (wpAny_mono h (λHV s' h'=>wpAny_pure (And.intro rfl h')) λ_ _ x=>x)))))
   |(refine wpAny_bind (wpAny_rule ?_);show wpAny _ _ (standAt i2.pos>>=_) _ _ s;exact wpAny_bind (wpAny_standAt (wpAny_bind (wpAny_mono h (λHV s' h'=>wpAny_pure (And.intro rfl h')) λ_ _ x=>x))))
end
def FR(n:Nat)(J:It)(jo:TG)(jq:TI)(kX:TG)(te:TE)(fv:St)(D:Addr)(H:Hp)(Q:VK):Prop:=
 ∃W:Nat->Nat->List V->Hp->Prop,(∃m,W 0 m [] (upd H D (.lst [])))/\∀i m ys H,W i m ys H->
  (J.stop i H/\Q (.ref D) H)\/(J.go i H/\∃N:List V->Hp->Prop,(∀f_ H',N f_ H'->∃m',m'<m/\W (i+1) m' f_ H')/\
   ∀v H',J.o_ i H v H'->∀os:St,os.length=n->jo v (os++fv) H' λcX H2=>(∃jk:St,jk.length=n/\cX=jk++fv)/\jq cX H2 λJ2 H3=>
    ∃W2:Nat->Nat->List V->St->Hp->Prop,(∃m2,W2 0 m2 ys cX H3)/\∀i2 m2 fN bT H4,W2 i2 m2 fN bT H4->
     (J2.stop i2 H4/\(∃t6:St,t6.length=n/\bT=t6++fv)/\N fN H4)\/(J2.go i2 H4/\∃N2:List V->St->Hp->Prop,(∀f_ aB H',N2 f_ aB H'->∃m',m'<m2/\W2 (i2+1) m' f_ aB H')/\
      ∀v2 H5,J2.o_ i2 H4 v2 H5->kX v2 bT H5 λwF H6=>te wF H6 λy H7=>H7 D=some (.lst fN)/\fN.length<sizeLine/\N2 (fN++[y]) wF (upd H7 D (.lst (fN++[y])))))
section
variable {X:Cx}{elt t1 i1 t2 i2:Expr}{xs:List Str}{pos:Pos}{scope:Scope}{cl:List (Str×Addr)}{fr:List (Str×Nat)}{jo kX:TG}{jq:TI}{te:TE}{pins:List (Addr×Obj)}{σ:St}
theorem YS{H2:Hp}{s2:Shared}{it:Addr}{fp:List Addr}{tn:Nat->Heap->Prop}{J:It}{Q:VK}{RR:Value->Addr->Result->Shared->Prop}{E:Value->Shared->Prop}
  (hc:X.calm=true)(S:uU X scope cl xs fr)(hg:∀C s H fp,PG (cL X xs fr scope cl C s H fp) t1 jo)(HW:∀C s H fp,PI (cL X xs fr scope cl C s H fp) t2 i2 jq)(HX:∀C s H fp,PG (cL X xs fr scope cl C s H fp) t2 kX)(he:∀C s H fp,PE (cL X xs fr scope cl C s H fp) elt te)
  (tW:∀C x,foldedSetIterable i2 (compEnvC scope cl C X.env) x=pure x)
  (I2:Inv X pins σ H2 s2)(T:Turn X.prog X.w X.K t1 J fp it tn)(dt:tn 0 s2.heap)(f2:∀b∈fp,gW X pins H2 b)
  (hw:∀D,H2 D=none->FR xs.length J jo jq kX te (fV σ fr) D H2 Q)
  (hR:∀D C s1 H1 m,Inv X pins σ H1 s1->s1.heap.Ns C m->H1 C=none->C≠X.env.locals->X.cT.heap.objs.size<=C->(∀y c,X.env.cells.lookup y=some c->c≠C)->(∀p∈X.pn++pins,p.1≠C)->Q (.ref D) H1->RR (.ref D) C (.ok .next) s1):
  wpAny (model X.prog X.w) X.A (newList []) (λacc dN=>wpAny (model X.prog X.w) X.A (newFunctionEnv scope X.env.globals cl [] X.env.qual none .none (some X.env)) (λoR iJ=>
   codeAny (model X.prog X.w) X.A (.compStart (iP elt t1 i1 t2 i2 scope pos) 0 (.ref it) acc {oR with scope:=relabel scope X.env}) (RR acc oR.locals) iJ) E dN) E s2:=by
 refine wpAny_newObj_type (wpAny_newFunctionEnv S.vI (by intro y hy;simp at hy) (λd_ qi qj=>?_) S.kind);dsimp only at qi qj⊢;have I3:Inv X pins σ (upd H2 s2.heap.objs.size (.lst [])) {s2 with heap:=s2.heap.push {cls:=.type "list",dict:=none,data:=.seq ([]:List Value).toArray}}:=
  I2.laid (t':=s2.toks) (λb u e=>Yb _ e) (Yd _) ⟨Yw _,[],0,.nil,Yn _ rfl⟩
 have Hv:H2 s2.heap.objs.size=none:=I2.av.fresh (Yd _);obtain⟨W,⟨m0,w0⟩,turn⟩:=hw s2.heap.objs.size Hv;have vY:∀b∈fp,b<s2.heap.objs.size:=λb hb=>by
  obtain⟨o,e,_⟩:=T.obj _ _ dt b hb;exact Yv e
 generalize wy:s2.heap.push {cls:=.type "list",dict:=none,data:=.seq ([]:List Value).toArray}=G2 at qi qj I3⊢;have hC:G2.objs.size=s2.heap.objs.size+1:=by rw[←wy,W6]
 have old:∀b o,G2.get? b=some o->d_.get? b=some o:=λb o e=>qj.extBut b o (Yz (Yv e)) (Yb _ e);have up:∀b o,s2.heap.get? b=some o->G2.get? b=some o:=λb o e=>wy▸Yb _ e;have f3:∀b∈fp,gW X pins (upd H2 s2.heap.objs.size (.lst [])) b:=λb hb=>by
  have:=vY b hb;exact⟨by rw[aP (Yz this)];exact(f2 b hb).1,(f2 b hb).2⟩
 have Hw:∀b∈fp,b<G2.objs.size:=λb hb=>by
  rw[hC];exact Wt (vY b hb)
 have wz:tn 0 d_:=T.keep _ _ _ dt λb hb o e=>old b o (up b o e);have I4:Inv (cL X xs fr scope cl G2.objs.size {s2 with heap:=G2} (upd H2 s2.heap.objs.size (.lst [])) fp) [] (List.replicate xs.length none++fV σ fr) (upd H2 s2.heap.objs.size (.lst [])) {s2 with heap:=d_,toks:=s2.toks+([]:List (Str×Value)).length}:=
  Mb (tk:=s2.toks+([]:List (Str×Value)).length) S I3 rfl f3 Hw old qi
 have loop:∀dN:Shared,dN={s2 with heap:=d_,toks:=s2.toks+([]:List (Str×Value)).length}->
   codeAny (model X.prog X.w) X.A (.compLoop (iP elt t1 i1 t2 i2 scope pos) 0 (.ref it) (.ref s2.heap.objs.size) (compEnvC scope cl G2.objs.size X.env)) (RR (.ref s2.heap.objs.size) G2.objs.size) dN:=by
  rintro dN rfl;refine Z2 (tW _) (λk s'=>∃i ys H' os,os.length=xs.length/\Inv (cL X xs fr scope cl G2.objs.size {s2 with heap:=G2} (upd H2 s2.heap.objs.size (.lst [])) fp) [] (os++fV σ fr) H' s'/\tn i s'.heap/\(∀b∈fp,H' b=none)/\W i k ys H') ?_ m0
   ⟨0,[],_,List.replicate xs.length none,Wz,I4,wz,λb hb=>(f3 b hb).1,w0⟩
  rintro n s5 ⟨i,ys,H5,os,nN,I5,nL,qS,w5⟩;have kN:∀{H':Hp},(∀b∈fp,H' b=none)->∀b∈fp,gW (cL X xs fr scope cl G2.objs.size {s2 with heap:=G2} (upd H2 s2.heap.objs.size (.lst [])) fp) [] H' b:=λ{H'} hn b hb=>
   ⟨hn b hb,(I5.ok.tQ b hb).1,I5.ok.tG b hb,.inl hb,(I5.ok.tQ b hb).2,λp hp=>absurd (show p∈([]:List (Addr×Obj)) from hp) (by simp)⟩
  rcases turn i n ys H5 w5 with⟨stop,qn⟩|⟨go,N,hN,step⟩
  ·refine az (T.done (cL X xs fr scope cl G2.objs.size {s2 with heap:=G2} (upd H2 s2.heap.objs.size (.lst [])) fp) rfl rfl rfl hc i [] s5 _ H5 _ I5 (kN qS) nL stop) λr s6 zq=>?_;obtain⟨hr,I6⟩:=zq;subst hr;obtain⟨m,Hx,_⟩:=I6.loc;have I7:Inv X pins σ H5 s6:=I3.Q6 (ch:=fp) I6.os I6.base I6.av I6.bare λb hb=>⟨(f2 b hb).2.2.2.1,(f2 b hb).2.1,(f2 b hb).2.2.2.2.1,(f2 b hb).2.2.2.2.2⟩;refine hR _ _ s6 H5 m I7 Hx I6.free ?_ ?_ (λy c e z=>?_) (λp hp z=>?_) qn;·exact Ju I3.lt
   ·exact I3.sz
   ·obtain⟨v,q⟩:=I3.cell y c e;exact absurd q.lt (by rw[z];exact Y7 _)
   ·exact absurd (Yv (I3.pin p hp).1) (by rw[z];exact Y7 _)
  ·refine az (T.item (cL X xs fr scope cl G2.objs.size {s2 with heap:=G2} (upd H2 s2.heap.objs.size (.lst [])) fp) rfl rfl rfl hc i [] s5 _ H5 _ I5 (kN qS) nL go) λr s6 zq=>?_;obtain⟨u,hr,h6⟩:=zq;subst hr;refine az h6 λ_ s7 zq=>?_;obtain⟨v,H7,I7,r7,y7,qV,Hy⟩:=zq;have Hz:=I7.pinned (kN Hy) (T.obj _ _ qV);refine wpAny_mono (hg _ _ _ _ _ s7 _ H7 v u _ Hz r7 (step v H7 y7 os nN)) (λ_ s8 zq=>?_) λ_ _ z=>False.elim z;obtain⟨σ8,H8,I8,⟨jk,R0,e8⟩,q8⟩:=zq;subst e8;have again:∀{nO:St} {H9:Hp} {s9:Shared} {nP:List V},nO.length=xs.length->Inv (cL X xs fr scope cl G2.objs.size {s2 with heap:=G2} (upd H2 s2.heap.objs.size (.lst [])) fp) ([]++oI fp s7.heap) (nO++fV σ fr) H9 s9->N nP H9->
     ∃m,m<n/\∃i ys H' os,os.length=xs.length/\Inv (cL X xs fr scope cl G2.objs.size {s2 with heap:=G2} (upd H2 s2.heap.objs.size (.lst [])) fp) [] (os++fV σ fr) H' s9/\tn i s9.heap/\(∀b∈fp,H' b=none)/\W i m ys H':=λ{nO H9 s9 nP} l1 I9 n9=>by
    obtain⟨m',hm,w9⟩:=hN nP H9 n9;refine⟨m',hm,i+1,nP,H9,nO,l1,I9.sy,T.keep _ _ _ qV λb hb o e=>(I9.pin (b,o) (Yq _ (Yq _ (oq hb e)))).1,λb hb=>?_,w9⟩;obtain⟨o,e,d⟩:=T.obj _ _ qV b hb;exact(I9.pin (b,o) (Yq _ (Yq _ (oq hb e)))).2.1
   refine wpAny_mono (HW _ _ _ _ _ s8 _ H8 _ I8 q8) (λx s9 h9=>wpAny_mono h9 (λtU HH h10=>?_) λ_ _ z=>False.elim z) λ_ _ z=>False.elim z;obtain⟨zy,HY,tn2,J2,nQ,nW,HN,T2,R9,zA,W2,⟨m2,w2⟩,ZeA⟩:=h10;subst nW;have Gf:∀{H':Hp},(∀b∈HY,H' b=none)->∀b∈HY,gW (cL X xs fr scope cl G2.objs.size {s2 with heap:=G2} (upd H2 s2.heap.objs.size (.lst [])) fp) ([]++oI fp s7.heap) H' b:=λhn b hb=>⟨hn b hb,(zA b hb).2⟩;have Ro:codeAny (model X.prog X.w) X.A (.compLoop (iP elt t1 i1 t2 i2 scope pos) 1 (.ref zy) (.ref s2.heap.objs.size) (compEnvC scope cl G2.objs.size X.env)) (λr kO=>match r with|.ok _=>∃m,m<n/\∃i ys H' os,os.length=xs.length/\Inv (cL X xs fr scope cl G2.objs.size {s2 with heap:=G2} (upd H2 s2.heap.objs.size (.lst [])) fp) [] (os++fV σ fr) H' kO/\tn i kO.heap/\(∀b∈fp,H' b=none)/\W i m ys H'|.error _=>False) HH:=by
    refine Z1 (λk s'=>∃j zs aB H',Inv (cL X xs fr scope cl G2.objs.size {s2 with heap:=G2} (upd H2 s2.heap.objs.size (.lst [])) fp) ([]++oI fp s7.heap) aB H' s'/\tn2 j s'.heap/\(∀b∈HY,H' b=none)/\W2 j k zs aB H') ?_ m2 ⟨0,ys,_,nQ,HN,R9,λb hb=>(zA b hb).1,w2⟩;rintro k HP ⟨j,zs,Zfj,wA,zu,R_,Sa,w11⟩;rcases ZeA j k zs Zfj wA w11 with⟨stop,⟨t6,Zfk,e3⟩,qn⟩|⟨go,N2,hN2,ZeB⟩
    ·refine az (T2.done (cL X xs fr scope cl G2.objs.size {s2 with heap:=G2} (upd H2 s2.heap.objs.size (.lst [])) fp) rfl rfl rfl hc j _ HP _ wA _ zu (Gf Sa) R_ stop) λr s12 zq=>?_;obtain⟨hr,I12⟩:=zq;subst hr;subst e3;exact again Zfk I12 qn
    ·refine az (T2.item (cL X xs fr scope cl G2.objs.size {s2 with heap:=G2} (upd H2 s2.heap.objs.size (.lst [])) fp) rfl rfl rfl hc j _ HP _ wA _ zu (Gf Sa) R_ go) λr s12 zq=>?_;obtain⟨u2,hr,zB⟩:=zq;subst hr;refine az zB λ_ s13 zq=>?_;obtain⟨v2,zC,I13,r13,y13,GY,Zfl⟩:=zq;have Zfm:=I13.pinned (Gf Zfl) (T2.obj _ _ GY);refine wpAny_mono (HX _ _ _ _ _ s13 _ zC v2 u2 _ Zfm r13 (ZeB v2 zC y13)) (λ_ s14 zq=>?_) λ_ _ z=>False.elim z;obtain⟨Zfn,pq,I14,q14⟩:=zq;refine wpAny_mono (he _ _ _ _ _ s14 _ pq _ I14 q14) (λu1 s15 zq=>?_) λ_ _ z=>False.elim z;obtain⟨y,HZ,I15,r15,hD,hz,kY⟩:=zq;refine wpAny_mono (uZ (X:=cL X xs fr scope cl G2.objs.size {s2 with heap:=G2} (upd H2 s2.heap.objs.size (.lst [])) fp) _ s15 _ HZ (.ref s2.heap.objs.size) [y] _ [u1] (λ_ H'=>N2 (zs++[y]) Zfn H') I15 rfl (.cons r15 .nil) ⟨_,zs,y,rfl,rfl,hD,hz,kY⟩) (λ_ s16 zq=>?_) λ_ _ z=>False.elim z;obtain⟨_,Tg,H_,_,q16⟩:=zq;obtain⟨m',hm,w16⟩:=hN2 _ _ _ q16;refine⟨m',hm,j+1,_,_,Tg,H_.sy,T2.keep _ _ _ GY λb hb o e=>(H_.pin (b,o) (Yq _ (Yq _ (oq hb e)))).1,λb hb=>?_,w16⟩;obtain⟨o,e,d⟩:=T2.obj _ _ GY b hb;exact(H_.pin (b,o) (Yq _ (Yq _ (oq hb e)))).2.1
   exact WY Ro (T2.self _ 0 _ _ _ R9 Ro)
 exact codeAny_compStart_list (loop _ rfl) (T.self _ 0 _ _ _ wz (loop _ rfl))
def ZdI(n:Nat)(wi:TI)(fr:List (Str×Nat))(jo:TG)(jq:TI)(kX:TG)(te:TE):TE:=λσ H Q=>wi σ H λJ H1=>∀D,H1 D=none->FR n J jo jq kX te (fV σ fr) D H1 Q
theorem ZaU(hc:X.calm=true)(S:uU X scope cl xs fr)(hg:∀C s H fp,PG (cL X xs fr scope cl C s H fp) t1 jo)(hi:PI X t1 i1 wi)(HW:∀C s H fp,PI (cL X xs fr scope cl C s H fp) t2 i2 jq)(HX:∀C s H fp,PG (cL X xs fr scope cl C s H fp) t2 kX)
  (he:∀C s H fp,PE (cL X xs fr scope cl C s H fp) elt te)(hs:∀x,foldedSetIterable i1 X.env x=pure x:=by intro _;rfl)(tW:∀C x,foldedSetIterable i2 (compEnvC scope cl C X.env) x=pure x:=by intro _ _;rfl):
  PE X (.ListComp elt [⟨t1,i1,[],0⟩,⟨t2,i2,[],0⟩] scope pos) (ZdI xs.length wi fr jo jq kX te):=by
 intro pins s σ H Q I h;refine wpAny_comprehension_free rfl hs S.vV S.kind S.names (az (hi pins s σ H _ I h) λv s1 h1=>az h1 λtU s2 h2=>?_);obtain⟨it,fp,tn,J,H2,e,I2,T,dt,f2,hw⟩:=h2;subst e;refine YS (RR:=λacc C=>compPost (model X.prog X.w) X.A X.xe none (EP X pins σ Q) acc C) hc S hg HW HX he tW I2 T dt f2 hw ?_;intro D C s1 H1 m I1 hn f0 f1 f3 f4 f5 q;exact⟨m,hn,λh' nS=>⟨.ref D,H1,I1.turned (λb o hb e=>nS.extBut b o hb e) f0 f1 (.inr f3) f4 f5,rfl,q⟩⟩
end
theorem fR{X:Cx}{K:PySem.W.Frag}{tg l:Expr}{tl:TE}(h:X.K=K)(hl:PE X l tl):PI X tg l (Q_ K tl):=h▸Oh hl
theorem ic{X:Cx}{K:PySem.W.Frag}{pos:Pos}{es:List Expr}{k:Nat}{t:lY}{n:Nat}(h:X.K=K)(hc:X.calm=true)(hg:wg X es t)
  (hn:(assignEach es X.env).length=n:=by rfl)(gF:(assignEach es X.env).findIdx? (·.1)=none:=by rfl):PG X (.Tuple es k pos) (RT K n t):=h▸ZcZ hc hg hn gF
theorem Zb6{K:PySem.W.Frag}{a:Addr}{xs:List V}{n:Nat}{jo:TG}{jq:TI}{kX:TG}{te:TE}{fv:St}{D:Addr}{H:Hp}{Q:VK}(Pv:Nat->List V->Hp->Prop)(h0:Pv 0 [] (upd H D (.lst [])))(hl:∀i ys H,i<=xs.length->Pv i ys H->ak K H a xs)
  (hs:∀i v ys H,xs[i]?=some v->Pv i ys H->∀os:St,os.length=n->jo v (os++fv) H λcX H2=>(∃jk:St,jk.length=n/\cX=jk++fv)/\jq cX H2 λJ2 H3=>∃(b:Addr) (zs:List V) (Pw:Nat->List V->St->Hp->Prop),J2=iN K b/\Pw 0 ys cX H3/\
   (∀k ys σ H,k<=zs.length->Pw k ys σ H->ak K H b zs)/\
   (∀k v2 ys σ H,zs[k]?=some v2->Pw k ys σ H->kX v2 σ H λwF H6=>te wF H6 λy H7=>H7 D=some (.lst ys)/\ys.length<sizeLine/\Pw (k+1) (ys++[y]) wF (upd H7 D (.lst (ys++[y]))))/\
   ∀ys σ H,Pw zs.length ys σ H->(∃t6:St,t6.length=n/\σ=t6++fv)/\Pv (i+1) ys H)
  (hd:∀ys H,Pv xs.length ys H->Q (.ref D) H)(ZeC:∀σ H (R R':It->Hp->Prop),(∀J H,R J H->R' J H)->jq σ H R->jq σ H R')(ZeD:∀v σ H (R R':St->Hp->Prop),(∀σ H,R σ H->R' σ H)->jo v σ H R->jo v σ H R'):FR n (iN K a) jo jq kX te fv D H Q:=by
 refine⟨λi m ys H=>m=xs.length-i/\i<=xs.length/\Pv i ys H,⟨xs.length,by simp,Yw _,h0⟩,?_⟩;rintro i m ys H ⟨rfl,hi,p⟩;have q:=hl i ys H hi p;by_cases bL:i<xs.length
 ·refine .inr ⟨⟨xs,xs[i],q,by simp[bL]⟩,Pv (i+1),λf_ H' p'=>⟨xs.length-(i+1),by omega,rfl,bL,p'⟩,λx H' y os nN=>?_⟩;obtain⟨e,y⟩:=y;subst e;refine ZeD _ _ _ _ _ (λcX H2 ⟨h1,h2⟩=>⟨h1,ZeC _ _ _ _ (λJ2 H3 h3=>?_) h2⟩) (hs i x ys _ (y xs q) p os nN);obtain⟨b,zs,Pw,rfl,w0,wl,ws,wd⟩:=h3;refine⟨λk m2 fN bT H4=>m2=zs.length-k/\k<=zs.length/\Pw k fN bT H4,⟨zs.length,by simp,Yw _,w0⟩,?_⟩;rintro k m2 fN bT H4 ⟨rfl,hk,w⟩;have q2:=wl k fN bT H4 hk w;by_cases zD:k<zs.length
  ·refine .inr ⟨⟨zs,zs[k],q2,by simp[zD]⟩,Pw (k+1),λf_ aB H' p'=>⟨zs.length-(k+1),by omega,rfl,zD,p'⟩,λv2 H5 y2=>?_⟩;obtain⟨e2,y2⟩:=y2;subst e2;exact ws k v2 fN bT _ (y2 zs q2) w
  ·have e:k=zs.length:=by omega
   subst e;exact .inl ⟨⟨zs,q2,Yd _⟩,(wd fN bT H4 w).1,(wd fN bT H4 w).2⟩
 ·have e:i=xs.length:=by omega
  subst e;exact .inl ⟨⟨xs,q,Yd _⟩,hd ys H p⟩
section
variable {prog:Program}{w:World}{κ:Type}[DecidableEq κ]{knd:PySem.KeyKind prog w κ}{A:Around}{E:Value->Shared->Prop}{s:Shared}
theorem Vb{d:Addr}{kvs:List (κ×Value)}{k:κ}{key dflt:Value}{Q:Value->Shared->Prop}(jU:knd.is k key=true)(hm:s.heap.DictOf knd d kvs)
  (ZdJ:∀v,valueAt kvs k=some v->Q v {s with toks:=s.toks+1})
  (Zfo:valueAt kvs k=none->∀h',h'.DictOf knd d (stored kvs k dflt)->Heap.SameBut d s.heap h'->Q dflt {s with heap:=h',toks:=s.toks+1})
  (hsz:kvs.length<=sizeLine):wpAny (model prog w) A (dictSetDefault d key dflt) Q E s:=by
 obtain⟨o,es,ep,ho,hc,hd,hk,hp,hn⟩:=hm;have hes:es.size<=sizeLine:=by
  have e1:=hp.length
  grind
 have hf:∀x,findBy knd.is es x=valueAt kvs x:=λx=>by
  rw[←hp.find x];simp[findBy]
 unfold dictSetDefault;try with_reducible refine wpAny_holding ?_
 refine wpAny_bind (knd.pyHash jU (wpAny_bind (wpAny_dictFind_of jU ho hd hk ?_)));have Zgz:(es.findIdx? λe=>knd.is k e.key)=kvs.findIdx? λkv=>decide (kv.1=k):=by
  rw[←hp.findIdx k];obtain⟨l⟩:=es;simp
 cases hi:es.findIdx? λe=>knd.is k e.key with
 |some i=>
  have zE:valueAt kvs k=(es[i]?).map (·.val):=by rw[←hf k,findBy_of_findIdx?,hi]
  refine wpAny_bind (wpAny_dictEntries ho hd ?_);cases he:es[i]? with
  |none=>
   have:=Array.findIdx?_eq_some_iff_findIdx_eq.mp hi
   grind
  |some e=>
   rw[he] at zE;exact wpAny_bind (wpAny_rule (wpAny_pure (ZdJ e.val zE)))
 |none=>
  have zE:valueAt kvs k=none:=by rw[←hf k,findBy_of_findIdx?,hi]
  have Sb:¬(kvs.any λkv=>decide (kv.1=k))=true:=by
   grind
  refine wpAny_bind (wpAny_rule (wpAny_bind (wpAny_updateDictKeys ho hd (wpAny_pure (Zfo zE _ ⟨_,_,ep+1,Jv _ ho (Obj.isFreed_of_dict (Obj.data_mapDictKeys hd _)),
   hc.mapDictKeys _,Obj.data_mapDictKeys hd _,hk.push jU _,?_,?_⟩ (Heap.SameBut.update ..))))))
  ·rw[stored,if_neg Sb];have:=hp.append jU (knd.hash k) dflt
   grind
  ·rw[stored,if_neg Sb,Ym,Ww]
   grind
theorem Vr{d:Addr}{k:κ}{key:Value}(jU:knd.is k key=true)(hd:(d==sysModules)=false)(dflt:Value):
  MeetsIn prog w (Builtin.«dict.setdefault» ⟨[.ref d,key,dflt],[]⟩) (λ_ R s=>∃kvs,s.heap.DictOf knd d kvs/\kvs.length<=sizeLine/\
   (∀v,valueAt kvs k=some v->R (.ok (.ret v)) {s with toks:=s.toks+1})/\
   (valueAt kvs k=none->∀h',h'.DictOf knd d (stored kvs k dflt)->Heap.SameBut d s.heap h'->R (.ok (.ret dflt)) {s with heap:=h',toks:=s.toks+1})):=
 .of_wp λA R s ⟨kvs,hm,hz,h1,h2⟩=>by
  refine wpAny_bind (wpAny_bind (wpAny_notOrdered_dict hm.typeIs (wpAny_pure ?_)));show wpAny _ _ (if(d==sysModules)=true then _ else(dictSetDefault d key dflt>>=_)) _ _ s;rw[if_neg (by rw[hd];exact Yi)];exact wpAny_bind (Vb jU hm (λv hv=>wpAny_pure ⟨v,rfl,h1 v hv⟩) (λhn h' hm' nS=>wpAny_pure ⟨dflt,rfl,h2 hn h' hm' nS⟩) hz)
end
section
variable {X:Cx}{pins:List (Addr×Obj)}{σ:St}{H:Hp}{s:Shared}{a:Addr}{kvs:List (Key×V)}{k:Key}{z:V}{u r:Value}{A:Around}{E:Value->Shared->Prop}
theorem ZaV(I:Inv X pins σ H s)(e:H a=some (.dK kvs))(ry:RelV (kV k) u)(rz:RelV z r)(l:kvs.length<sizeLine)
  (h1:∀v w' s',aO kvs k=some v->Inv X pins σ H s'->RelV v w'->Q w' s')(h2:∀s',aO kvs k=none->Inv X pins σ (upd H a (.dK (putK kvs k z))) s'->Q r s'):
  wpAny (model X.prog X.w) A (call (.builtin "dict.setdefault") [.ref a,u,r]) Q E s:=by
 obtain⟨zz,hd,vs,rel,dd⟩:=lR I.av e;have hz:vs.length<=sizeLine:=by rw[←rel.length];exact zz
 have rv:=rel.val k;refine call_meetsIn PySem.F.slot_dict_setdefault dd.typeIs PySem.F.entry_dict_setdefault (PySem.F.args_dict_setdefault_3 _ _ _) (Vr (kI ry) hd r) ⟨vs,dd,hz,λv hv=>?_,λhn h' hE hs=>?_⟩
 ·cases ev:aO kvs k with
  |none=>rw[ev,hv] at rv;cases rv
  |some x=>
   rw[ev,hv] at rv;exact h1 x v _ ev (I.tok _) rv
 ·have ev:aO kvs k=none:=by
   cases ev:aO kvs k with
   |none=>rfl
   |some x=>rw[ev,hn] at rv;cases rv
  have hl:(putK kvs k z).length<=sizeLine:=by have:=uP kvs k z;omega
  exact h2 _ ev (qa I (by rw[e];exact True.intro) hs (let⟨q,_,_,hq,_⟩:=hE;⟨q,hq⟩) (vA hl hd (rel.put k rz) hE))
end
def EF(td ty tx:TE):TE:=λσ H Q=>td σ H λx H1=>∃a,x=.ref a/\wB H1 a/\ty σ H1 λy H2=>tx σ H2 λz H3=>∃kvs k,H3 a=some (.dK kvs)/\y=kV k/\kvs.length<sizeLine/\
 (∀v,aO kvs k=some v->Q v H3)/\(aO kvs k=none->Ch H3 a (.dK (kvs++[(k,z)])) (Q z))
def Zb7(td ty:TE):TE:=λσ H Q=>td σ H λx H1=>∃a,x=.ref a/\wB H1 a/\ty σ H1 λy H2=>∃kvs k v,H2 a=some (.dK kvs)/\y=kV k/\aO kvs k=some v/\Ch H2 a (.dK (fW kvs k)) (Q v)
section
variable {X:Cx}{o e f:Expr}{apos cv:Pos}{td ty tx:TE}
theorem LK(ho:PE X o td)(he:PE X e ty)(hf:PE X f tx)(m:M2 X o "setdefault" apos e f cv):PE X (.Call (.Attribute o "setdefault" apos) [e,f] [] cv) (EF td ty tx):=by
 intro pins s σ H Q I h;refine wpAny_Call_method m.base m.eP m.line plainAttrs_dict PySem.F.slot_dict_setdefault PySem.F.type_dict_setdefault (az (ho pins s σ H _ I h) λu s1 zq=>?_);obtain⟨x,H1,I1,rx,a,ex,d,q1⟩:=zq;subst ex;obtain rfl:u=Value.ref a:=rx;obtain⟨t1,t2,_⟩:=sU I1 d;refine⟨t1,t2,?_⟩;rw[m.trees];refine Calls.callWith_builtin rfl (Calls.evalArgs_plain (Calls.spliced_cons (az (he pins s1 σ H1 _ I1 q1) λiv s2 ⟨y,H2,I2,ry,q2⟩=>
  Calls.spliced_cons (az (hf pins s2 σ H2 _ I2 q2) λfv s3 ⟨z,H3,I3,rz,kvs,k,ea,ey,lz,q3,q4⟩=>Calls.spliced_nil ?_))))
 subst ey;refine ZaV I3 ea ry rz lz (λv w' s4 ev I4 rv=>⟨v,H3,I4,rv,q3 v ev⟩) λs4 ev I4=>?_;rw[jI _ ev] at I4;exact⟨z,_,I4,rz,(q4 ev).at⟩
theorem Mn(ho:PE X o td)(he:PE X e ty)(m:M1 X o "pop" apos e cv):PE X (.Call (.Attribute o "pop" apos) [e] [] cv) (Zb7 td ty):=by
 intro pins s σ H Q I h;refine wpAny_Call_method m.base m.eP m.line plainAttrs_dict slot_dict_pop PySem.F.type_dict_pop (az (ho pins s σ H _ I h) λu s1 zq=>?_);obtain⟨x,H1,I1,rx,a,ex,d,q1⟩:=zq;subst ex;obtain rfl:u=Value.ref a:=rx;obtain⟨t1,t2,_⟩:=sU I1 d;refine⟨t1,t2,?_⟩;rw[m.trees];refine Calls.callWith_builtin rfl (Calls.evalArgs_plain (Calls.spliced_cons (az (he pins s1 σ H1 _ I1 q1) λiv s2 ⟨y,H2,I2,ry,kvs,k,v,ea,ey,l,q2⟩=>Calls.spliced_nil ?_)));subst ey;exact Zet I2 ea ry l (.inl rfl) λw' s3 I3 fM=>⟨v,_,I3,fM,q2.at⟩
end
end L2
namespace L2
open PySem PySem.W PySem.Calls PySem.Spec PyProof.Rows
def dW{α:Type}(n:Nat)(P:α->Prop):KasT α->Prop
 |.ret a=>P a
 |.ask i j k=>i<n/\j<n/\∀b,dW n P (k b)
theorem dW.bind{α β:Type}{n:Nat}{P:α->Prop}{Q:β->Prop}{f:α->KasT β}(hf:∀a,P a->dW n Q (f a)):∀{t:KasT α},dW n P t->dW n Q (t.bind f)
 |.ret a,h=>hf a h
 |.ask _ _ _,h=>⟨h.1,h.2.1,λb=>dW.bind hf (h.2.2 b)⟩
def Good(n:Nat)(p:Array Nat):Prop:=0<n/\p.Perm (List.range n).toArray
theorem Good.get(g:Good n p)(m:Nat):p.getD m 0<n:=by
 by_cases h:m<p.size
 ·have e:p.getD m 0=p[m]:=by rw[Y9,W7 h];rfl
  rw[e];have:=g.2.mem_iff.mp (Array.getElem_mem h);simpa using this
 ·have e:p.getD m 0=0:=by rw[Y9,Js (by omega)];rfl
  rw[e];exact g.1
theorem Good.rev(g:Good n p)(i j:Nat):Good n (kas_rev p i j):=⟨g.1,(mirror_perm p i j _).trans g.2⟩
theorem EG(g:Good n p):∀f m,dW n (λ_=>True) (kas_asc p f m)
 |0,_=>trivial
 |f+1,m=>⟨g.get m,g.get (m-1),λb=>by
  cases b with
  |true=>(dsimp only;rw[if_pos rfl]);exact trivial
  |false=>(dsimp only;rw[if_neg Yi]);exact EG g f (m+1)⟩
theorem xU:∀f (p:Array Nat) m q,Good n p->dW n (λr=>Good n r.1) (kas_desc f p m q)
 |0,_,_,_,g=>g
 |f+1,p,m,q,g=>⟨g.get m,g.get (m-1),λb=>by
  cases b with
  |true=>
   split;·exact xU f _ _ _ (g.rev _ _)
   ·exact xU f _ _ _ g
  |false=>
   refine⟨g.get (m-1),g.get m,λd=>?_⟩;cases d with
   |true=>(dsimp only;rw[if_pos rfl]);exact g
   |false=>(dsimp only;rw[if_neg Yi]);exact xU f _ _ _ g⟩
theorem LL{n m k:Nat}{p:Array Nat}(g:Good n p):dW n (λr=>Good n r.2) (kas_tail3 m k p):=by
 refine dW.bind (λa _=>?_) (EG (g.rev 0 m) _ _);exact g.rev 0 m
theorem K7{n m k:Nat}{p:Array Nat}(g:Good n p):dW n (λr=>Good n r.2) (kas_descPart m k p):=by
 refine dW.bind (λr hr=>?_) (xU _ p _ _ g);split;·exact LL (Good.rev hr _ _)
 ·exact LL hr
theorem LM{n k:Nat}{p:Array Nat}(g:Good n p):dW n (λr=>Good n r.2) (kas_count k p):=by
 refine dW.bind (λm _=>?_) (EG g _ _);split;·exact g
 ·split
  ·refine⟨g.get _,g.get _,λb=>?_⟩;cases b with
   |true=>(dsimp only;rw[if_pos rfl]);exact g
   |false=>(dsimp only;rw[if_neg Yi]);exact K7 (g.rev _ _)
  ·exact K7 g
theorem DA(g:Good n p):∀f l r,dW n (λ_=>True) (kas_place p k f l r)
 |0,_,_=>trivial
 |f+1,l,r=>by
  unfold kas_place;split;·exact trivial
  ·refine⟨g.get _,g.get _,λb=>?_⟩;cases b with
   |true=>(dsimp only;rw[if_pos rfl]);exact DA g f _ _
   |false=>(dsimp only;rw[if_neg Yi]);exact DA g f _ _
theorem Ng{n:Nat}:∀f (p:Array Nat) k,Good n p->dW n (Good n) (kas_bin f p k)
 |0,_,_,g=>g
 |f+1,p,k,g=>dW.bind (λl _=>Ng f _ _ ⟨g.1,(bubble_perm p k _).trans g.2⟩) (DA g _ _ _)
theorem Z3{n:Nat}(h:0<n):dW n (Good n) (kas_sort n):=by
 refine dW.bind (λr hr=>?_) (LM ⟨h,Array.Perm.refl _⟩);split;·exact Ng _ _ _ hr
 ·exact hr
theorem range_getD(vs:List α)(d:α):(List.range vs.length).map (λi=>vs.getD i d)=vs:=by
 refine Wv λi=>?_
 grind
section
variable {prog:Program}{w:World}{A:Around}{E:Value->Shared->Prop}{s:Shared}
end
def yE(h:Heap)(vs:List Value):Prop:=∀v∈vs,∃(a:Addr) (o:Obj) (n:Nat) (x y:Int) (t u:Tok),v=.ref a/\h.get? a=some o/\o.cls=.type "tuple"/\o.data=.seq #[.int x t,.int y u] n
theorem yE.Th:∀{vs:List Value},yE h vs->∃fs:List Value,KatTups h vs fs/\fs.length=vs.length/\∀v∈fs,∃x t,v=Value.int x t
 |[],_=>⟨[],KatTups.nil,rfl,λ_ h=>by cases h⟩
 |v::vs,hv=>by
  obtain⟨a,o,n,x,y,t,u,rfl,h1,h2,h3⟩:=hv v Yk;obtain⟨fs,k1,k2,k3⟩:=yE.Th λz hz=>hv z (Yx _ hz);refine⟨.int x t::fs,KatTups.cons h1 h2 h3 rfl k1,by rw[Wl,Wl,k2],λv hv=>?_⟩
  grind
section
variable {prog:Program}{w:World}{A:Around}{E:Value->Shared->Prop}{s:Shared}
end
section
variable {prog:Program}{w:World}{A:Around}{E:Value->Shared->Prop}{s:Shared}
end
theorem Mo:∀{as:List Addr} {us:List Value},Vals (as.map V.ref) us->us=as.map Value.ref
 |[],_,.nil=>rfl
 |a::as,u::us,.cons r t=>by
  rw[r,Mo t,Wp]
theorem Mp:∀as:List Addr,Vals (as.map V.ref) (as.map Value.ref)
 |[]=>.nil
 |_::as=>.cons rfl (Mp as)
def Run{α:Type}(lt:Nat->Nat->Bool):KasT α->α
 |.ret a=>a
 |.ask i j k=>Run lt (k (lt i j))
theorem Run.bind:∀t:KasT α,Run lt (t.bind f)=Run lt (f (Run lt t))
 |.ret _=>rfl
 |.ask i j k=>Run.bind (k (lt i j))
theorem dW.run(hc:∀i j (C:Bool->Shared->Prop),i<n->j<n->C (lt i j) s->cmp i j C s):∀{t:KasT α},dW n P t->G (Run lt t) s->t.kasWp cmp G s
 |.ret _,_,hG=>hG
 |.ask i j k,h,hG=>hc i j _ h.1 h.2.1 (dW.run hc (h.2.2 _) hG)
structure jr(n:Nat)(lt:Nat->Nat->Bool):Prop where
 trans:∀i j k,i<n->j<n->k<n->lt i j=true->lt j k=true->lt i k=true
 zF:∀i j,i<n->j<n->i≠j->lt i j=false->lt j i=true
 Zfp:∀i j,i<n->j<n->lt i j=true->lt j i=false
def Sd(lt:Nat->Nat->Bool)(p:Array Nat)(m:Nat):Prop:=∀i j,i<j->j<m->lt (p.getD i 0) (p.getD j 0)=true
def Ds(lt:Nat->Nat->Bool)(p:Array Nat)(m:Nat):Prop:=∀i j,i<j->j<m->lt (p.getD j 0) (p.getD i 0)=true
theorem Good.size(g:Good n p):p.size=n:=by
 have:=g.2.size_eq
 grind
theorem Good.ne(g:Good n p)(hi:i<n)(hj:j<n)(ne:i≠j):p.getD i 0≠p.getD j 0:=by
 have nd:p.toList.Nodup:=by
  have:=(Jl.mp g.2).nodup_iff.mpr (by simpa using List.nodup_range);exact this
 have sz:=g.size;have e:∀k (hk:k<n),p.getD k 0=p.toList[k]'(by rw[W3];omega):=λk hk=>by
  simp_all
 have pw:=Wy.mp nd
 grind
section
variable {n:Nat}{lt:Nat->Nat->Bool}
theorem OC(L:jr n lt)(g:Good n p)(h1:1<=m)(sd:Sd lt p m)(h:lt (p.getD (m-1) 0) (p.getD m 0)=true):Sd lt p (m+1):=by
 intro i j js hj;by_cases e:j=m
 ·subst e;by_cases e2:i=j-1;·rw[e2];exact h
  ·exact L.trans _ _ _ (g.get _) (g.get _) (g.get _) (sd i (j-1) (by omega) (by omega)) h
 ·exact sd i j js (by omega)
theorem Zb8(L:jr n lt)(g:Good n p)(h1:1<=m)(ds:Ds lt p m)(h:lt (p.getD m 0) (p.getD (m-1) 0)=true):Ds lt p (m+1):=by
 intro i j js hj;by_cases e:j=m
 ·subst e;by_cases e2:i=j-1;·rw[e2];exact h
  ·exact L.trans _ _ _ (g.get _) (g.get _) (g.get _) h (ds i (j-1) (by omega) (by omega))
 ·exact ds i j js (by omega)
theorem yq(L:jr n lt)(g:Good n p):∀f m,1<=m->m+f<=n->Sd lt p m->Sd lt p (Run lt (kas_asc p f m))/\m<=Run lt (kas_asc p f m)/\Run lt (kas_asc p f m)<=m+f
 |0,m,_,_,sd=>⟨sd,Yd _,Yd _⟩
 |f+1,m,h1,h2,sd=>by
  have e:Run lt (kas_asc p (f+1) m)=Run lt (if lt (p.getD m 0) (p.getD (m-1) 0)=true then KasT.ret m else kas_asc p f (m+1)):=rfl;rw[e];by_cases c:lt (p.getD m 0) (p.getD (m-1) 0)=true
  ·rw[if_pos c];exact⟨sd,Yd _,by show m<=_;omega⟩
  ·rw[if_neg c];have c':lt (p.getD m 0) (p.getD (m-1) 0)=false:=by cases z:lt (p.getD m 0) (p.getD (m-1) 0) with|true=>exact absurd z c|false=>rfl
   obtain⟨a,b,d⟩:=yq L g f (m+1) (by omega) (by omega) (OC L g h1 sd (L.zF _ _ (g.get _) (g.get _) (g.ne (by omega) (by omega) (by omega)) c'))
   grind
theorem Nh(L:jr n lt)(g:Good n p):∀f m,1<=m->m+f<=n->Ds lt p m->∃m',Run lt (kas_desc f p m 0)=(p,m',0)/\Ds lt p m'/\m<=m'/\m'<=m+f
 |0,m,_,_,ds=>⟨m,rfl,ds,Yd _,Yd _⟩
 |f+1,m,h1,h2,ds=>by
  have e:Run lt (kas_desc (f+1) p m 0)=Run lt (if lt (p.getD m 0) (p.getD (m-1) 0)=true then(if 0>0 then kas_desc f (kas_rev p (m-(0+1)) m) (m+1) 0 else kas_desc f p (m+1) 0) else KasT.ask (p.getD (m-1) 0) (p.getD m 0) λd=>if d=true then KasT.ret (p,m,0) else kas_desc f p (m+1) (0+1)):=rfl;rw[e];by_cases c:lt (p.getD m 0) (p.getD (m-1) 0)=true
  ·rw[if_pos c,if_neg (by omega)];obtain⟨m',a,b,d,d'⟩:=Nh L g f (m+1) (by omega) (by omega) (Zb8 L g h1 ds c)
   grind
  ·rw[if_neg c];have c':lt (p.getD m 0) (p.getD (m-1) 0)=false:=by cases z:lt (p.getD m 0) (p.getD (m-1) 0) with|true=>exact absurd z c|false=>rfl
   have e2:Run lt (KasT.ask (p.getD (m-1) 0) (p.getD m 0) λd=>if d=true then KasT.ret (p,m,0) else kas_desc f p (m+1) (0+1))=Run lt (if lt (p.getD (m-1) 0) (p.getD m 0)=true then KasT.ret (p,m,0) else kas_desc f p (m+1) (0+1)):=rfl;rw[e2,if_pos (L.zF _ _ (g.get m) (g.get (m-1)) (g.ne (by omega) (by omega) (by omega)) c')];exact⟨m,rfl,ds,Yd _,by omega⟩
theorem OD(hm:m<=p.size)(hi:i<m):(kas_rev p 0 m).getD i 0=p.getD (m-1-i) 0:=by
 unfold kas_rev;rw[Y9,getElem?_mirror_all hm,if_pos ⟨Yw _,hi⟩,←Y9]
 congr 1
 omega
theorem Z4(L:jr n lt)(g:Good n p)(h1:1<=m)(hm:m<=n)(ds:Ds lt p m):Good n (Run lt (kas_tail3 m n p)).2/\Sd lt (Run lt (kas_tail3 m n p)).2 (Run lt (kas_tail3 m n p)).1/\m<=(Run lt (kas_tail3 m n p)).1/\(Run lt (kas_tail3 m n p)).1<=n:=by
 have sd:Sd lt (kas_rev p 0 m) m:=λi j js hj=>by
  rw[OD (by rw[g.size];exact hm) (by omega),OD (by rw[g.size];exact hm) hj];exact ds _ _ (by omega) (by omega)
 have e:Run lt (kas_tail3 m n p)=(Run lt (kas_asc (kas_rev p 0 m) (n-m) m),kas_rev p 0 m):=by
  unfold kas_tail3;rw[Run.bind];rfl
 obtain⟨a,b,c⟩:=yq L (g.rev 0 m) (n-m) m h1 (by omega) sd;rw[e];exact⟨g.rev 0 m,a,b,by show Run lt _<=n;omega⟩
theorem Z5(L:jr n lt)(g:Good n p):Good n (Run lt (kas_count n p)).2/\Sd lt (Run lt (kas_count n p)).2 (Run lt (kas_count n p)).1/\1<=(Run lt (kas_count n p)).1/\(Run lt (kas_count n p)).1<=n:=by
 have n0:=g.1;obtain⟨sd,h1,h2⟩:=yq L g (n-1) 1 (Yd _) (by omega) (λi j js hj=>by omega);have e:Run lt (kas_count n p)=Run lt (if(Run lt (kas_asc p (n-1) 1)==n)=true then KasT.ret (Run lt (kas_asc p (n-1) 1),p) else if Run lt (kas_asc p (n-1) 1)>1 then KasT.ask (p.getD 0 0) (p.getD (Run lt (kas_asc p (n-1) 1)-1) 0) λc=>if c=true then KasT.ret (Run lt (kas_asc p (n-1) 1),p) else kas_descPart (Run lt (kas_asc p (n-1) 1)) n (kas_rev p 0 (Run lt (kas_asc p (n-1) 1))) else kas_descPart (Run lt (kas_asc p (n-1) 1)) n p):=by
  unfold kas_count;rw[Run.bind]
 rw[e];generalize er:Run lt (kas_asc p (n-1) 1)=r at sd h1 h2;by_cases c1:(r==n)=true
 ·rw[if_pos c1];exact⟨g,sd,h1,by show r<=n;omega⟩
 ·rw[if_neg c1];have rn:r≠n:=λz=>c1 (beq_iff_eq.mpr z);by_cases c2:r>1
  ·rw[if_pos c2];have e2:Run lt (KasT.ask (p.getD 0 0) (p.getD (r-1) 0) λc=>if c=true then KasT.ret (r,p) else kas_descPart r n (kas_rev p 0 r))=Run lt (if lt (p.getD 0 0) (p.getD (r-1) 0)=true then KasT.ret (r,p) else kas_descPart r n (kas_rev p 0 r)):=rfl;rw[e2,if_pos (sd 0 (r-1) (by omega) (by omega))];exact⟨g,sd,h1,by show r<=n;omega⟩
  ·rw[if_neg c2];have r1:r=1:=by omega
   subst r1;have hd:lt (p.getD 1 0) (p.getD 0 0)=true:=by
    have:n-1=(n-2)+1:=by omega
    rw[this] at er;have e3:Run lt (kas_asc p (n-2+1) 1)=Run lt (if lt (p.getD 1 0) (p.getD (1-1) 0)=true then KasT.ret 1 else kas_asc p (n-2) (1+1)):=rfl;rw[e3] at er;by_cases c:lt (p.getD 1 0) (p.getD (1-1) 0)=true;·exact c
    ·rw[if_neg c] at er;have c':lt (p.getD 1 0) (p.getD (1-1) 0)=false:=by cases z:lt (p.getD 1 0) (p.getD (1-1) 0) with|true=>exact absurd z c|false=>rfl
     have wH:Sd lt p 2:=OC L g (m:=1) (Yd _) (λi j js hj=>by omega) (L.zF _ _ (g.get _) (g.get _) (g.ne (by omega) (by omega) (by omega)) c');obtain⟨_,b,_⟩:=yq L g (n-2) 2 (by omega) (by omega) wH;rw[show 1+1=2 from rfl] at er;omega
   have ds2:Ds lt p 2:=λi j js hj=>by
    grind
   obtain⟨m',a,b,c,d⟩:=Nh L g (n-(1+1)) (1+1) (by omega) (by omega) ds2;have e4:Run lt (kas_descPart 1 n p)=Run lt (kas_tail3 m' n p):=by
    unfold kas_descPart;rw[Run.bind,a];dsimp only;rw[if_neg (by omega)]
   rw[e4];obtain⟨x1,x2,x3,x4⟩:=Z4 L g (m:=m') (by omega) (by omega) b;exact⟨x1,x2,by omega,x4⟩
theorem OE(L:jr n lt)(g:Good n p)(sd:Sd lt p n):∀f m,1<=m->m+f<=n->Run lt (kas_asc p f m)=m+f
 |0,_,_,_=>rfl
 |f+1,m,h1,h2=>by
  have e:Run lt (kas_asc p (f+1) m)=Run lt (if lt (p.getD m 0) (p.getD (m-1) 0)=true then KasT.ret m else kas_asc p f (m+1)):=rfl;rw[e,if_neg (by rw[L.Zfp _ _ (g.get _) (g.get _) (sd (m-1) m (by omega) (by omega))];exact Yi),OE L g sd f (m+1) (by omega) (by omega)];omega
theorem Z6(L:jr n lt)(g:Good n p)(sd:Sd lt p n):Run lt (kas_count n p)=(n,p):=by
 have n0:=g.1;unfold kas_count;rw[Run.bind,(OE L g sd (n-1) 1 (Yd _) (by omega)),if_pos (beq_iff_eq.mpr (by omega))];show(1+(n-1),p)=(n,p)
 grind
theorem Ea(L:jr n lt)(g:Good n p)(hk:k<n)(sd:Sd lt p k):∀f l r,l<=r->r<=k->r-l<=f->(∀i,i<l->lt (p.getD i 0) (p.getD k 0)=true)->(∀i,r<=i->i<k->lt (p.getD k 0) (p.getD i 0)=true)->
  Run lt (kas_place p k f l r)<=k/\(∀i,i<Run lt (kas_place p k f l r)->lt (p.getD i 0) (p.getD k 0)=true)/\∀i,Run lt (kas_place p k f l r)<=i->i<k->lt (p.getD k 0) (p.getD i 0)=true
 |0,l,r,h1,h2,h3,hl,hr=>⟨by show l<=k;omega,hl,λi (hi:l<=i) wI=>hr i (by omega) wI⟩
 |f+1,l,r,h1,h2,h3,hl,hr=>by
  rw[kas_place];by_cases c:l≥r
  ·rw[if_pos c];exact⟨by show l<=k;omega,hl,λi (hi:l<=i) wI=>hr i (by omega) wI⟩
  ·rw[if_neg c];have m1:l<=(l+r)/2:=by omega
   have m2:(l+r)/2<r:=by omega
   generalize(l+r)/2=m at m1 m2;have e2:Run lt (KasT.ask (p.getD k 0) (p.getD m 0) λc=>if c=true then kas_place p k f l m else kas_place p k f (m+1) r)=Run lt (if lt (p.getD k 0) (p.getD m 0)=true then kas_place p k f l m else kas_place p k f (m+1) r):=rfl;rw[e2];by_cases c2:lt (p.getD k 0) (p.getD m 0)=true
   ·rw[if_pos c2];refine Ea L g hk sd f l m m1 (by omega) (by omega) hl λi hi wI=>?_;by_cases e:i=m;·rw[e];exact c2
    ·exact L.trans _ _ _ (g.get _) (g.get _) (g.get _) c2 (sd m i (by omega) wI)
   ·rw[if_neg c2];have c':lt (p.getD k 0) (p.getD m 0)=false:=by cases z:lt (p.getD k 0) (p.getD m 0) with|true=>exact absurd z c2|false=>rfl
    have t:=L.zF _ _ (g.get k) (g.get m) (g.ne hk (by omega) (by omega)) c';refine Ea L g hk sd f (m+1) r (by omega) h2 (by omega) (λi hi=>?_) hr;by_cases e:i=m;·rw[e];exact t
    ·exact L.trans _ _ _ (g.get _) (g.get _) (g.get _) (sd i m (by omega) (by omega)) t
theorem OF(L:jr n lt):∀f (p:Array Nat) k,Good n p->k+f=n->Sd lt p k->Good n (Run lt (kas_bin f p k))/\Sd lt (Run lt (kas_bin f p k)) n
 |0,p,k,g,e,sd=>by
  have e':k=n:=by omega
  refine⟨g,?_⟩;rw[←e'];exact sd
 |f+1,p,k,g,e,sd=>by
  have hk:k<n:=by omega
  obtain⟨a,b,c⟩:=Ea L g hk sd k 0 k (Yw _) (Yd _) (by omega) (λi hi=>absurd hi (Wj _)) (λi h1 h2=>by omega);have e2:Run lt (kas_bin (f+1) p k)=Run lt (kas_bin f (bubble p k (k-Run lt (kas_place p k k 0 k))) (k+1)):=by
   rw[kas_bin,Run.bind]
  rw[e2];generalize Run lt (kas_place p k k 0 k)=l at a b c;have gb:Good n (bubble p k (k-l)):=⟨g.1,(bubble_perm p k _).trans g.2⟩;have sz:=g.size;have get:∀i,(bubble p k (k-l)).getD i 0=if i=l then p.getD k 0 else if l<i/\i<=k then p.getD (i-1) 0 else p.getD i 0:=λi=>by
   have h:=getElem?_bubble (xs:=p) (src:=k) (by omega) (k-l) (by omega) i;rw[show k-(k-l)=l by omega] at h;rw[Y9,h];by_cases z:i=l;·rw[if_pos z,if_pos z,←Y9]
   ·rw[if_neg z,if_neg z];by_cases z2:l<i/\i<=k;·rw[if_pos z2,if_pos z2,←Y9]
    ·rw[if_neg z2,if_neg z2,←Y9]
  refine OF L f _ (k+1) gb (by omega) λi j js hj=>?_;rw[get i,get j];by_cases i1:i=l
  ·rw[if_pos i1,if_neg (by omega),if_pos (by omega)];exact c (j-1) (by omega) (by omega)
  ·rw[if_neg i1];by_cases i2:l<i/\i<=k
   ·rw[if_pos i2,if_neg (by omega),if_pos (by omega)];exact sd (i-1) (j-1) (by omega) (by omega)
   ·rw[if_neg i2];have il:i<l:=by omega
    by_cases j1:j=l;·rw[if_pos j1];exact b i il
    ·rw[if_neg j1];by_cases j2:l<j/\j<=k
     ·rw[if_pos j2];exact sd i (j-1) (by omega) (by omega)
     ·rw[if_neg j2];exact sd i j js (by omega)
theorem ZaW(L:jr n lt)(h:0<n):Good n (Run lt (kas_sort n))/\Sd lt (Run lt (kas_sort n)) n:=by
 obtain⟨a,b,c,d⟩:=Z5 L ⟨h,Array.Perm.refl _⟩;have e:Run lt (kas_sort n)=Run lt (if(Run lt (kas_count n (List.toArray (List.range n)))).1<n then kas_bin (n-max (Run lt (kas_count n (List.toArray (List.range n)))).1 1) (Run lt (kas_count n (List.toArray (List.range n)))).2 (max (Run lt (kas_count n (List.toArray (List.range n)))).1 1) else KasT.ret (Run lt (kas_count n (List.toArray (List.range n)))).2):=by
  unfold kas_sort;rw[Run.bind]
 rw[e];generalize Run lt (kas_count n (List.toArray (List.range n)))=r at a b c d;have mx:max r.1 1=r.1:=by omega
 by_cases z:r.1<n
 ·rw[if_pos z,mx];exact OF L _ _ _ a (by omega) b
 ·rw[if_neg z];have:r.1=n:=by omega
  refine⟨a,?_⟩;rw[this] at b;exact b
end
def iq(p q:Int×Int):Prop:=p.1<q.1\/(p.1=q.1/\p.2<q.2)
def ltB(p q:Int×Int):Bool:=if p.1=q.1 then decide (p.2<q.2) else decide (p.1<q.1)
theorem ltB_iff:ltB p q=true↔iq p q:=by
 unfold ltB iq
 grind
def jt(ps:List (Int×Int))(i j:Nat):Bool:=ltB (ps.getD i (0,0)) (ps.getD j (0,0))
theorem ZdK(nd:ps.Nodup):jr ps.length (jt ps):=by
 have fl:∀{p q:Int×Int},ltB p q=false->¬iq p q:=λ{p q} h z=>by rw[ltB_iff.mpr z] at h;cases h
 refine⟨λi j k _ _ _ h1 h2=>?_,λi j hi hj ne h=>?_,λi j _ _ h=>?_⟩
 ·have a:=ltB_iff.mp h1;have b:=ltB_iff.mp h2;refine ltB_iff.mpr ?_;unfold iq at*;omega
 ·refine ltB_iff.mpr ?_;have a:=fl h;have e:ps.getD i (0,0)≠ps.getD j (0,0):=by
   rw[Yj,Yj,Yc hi,Yc hj];have pw:=Wy.mp nd
   grind
  have e':¬((ps.getD i (0,0)).1=(ps.getD j (0,0)).1/\(ps.getD i (0,0)).2=(ps.getD j (0,0)).2):=λz=>e (Prod.ext z.1 z.2);unfold iq at*;omega
 ·cases z:jt ps j i with
  |false=>rfl
  |true=>
   have a:=ltB_iff.mp h;have b:=ltB_iff.mp z;unfold iq at a b;omega
def qt(h:Heap)(vs:List Value)(ps:List (Int×Int)):Prop:=Paired (λv (p:Int×Int)=>∃(a:Addr) (o:Obj) (n:Nat) (t u:Tok),v=.ref a/\h.get? a=some o/\o.cls=.type "tuple"/\o.data=.seq #[.int p.1 t,.int p.2 u] n) vs ps
theorem qt.jS(q:qt h vs ps):yE h vs:=by
 intro v hv;induction q with
 |nil=>cases hv
 |cons f _ ih=>grind
theorem CY{α β:Type}{F:α->β->Prop}{xs:List α}{ys:List β}(h:Paired F xs ys){i:Nat}(hi:i<xs.length)(x:α)(y:β):F (xs.getD i x) (ys.getD i y):=by
 obtain⟨b,e,f⟩:=fQ h (Yc hi)
 grind
section
variable {prog:Program}{w:World}{A:Around}{E:Value->Shared->Prop}{s:Shared}
theorem ZaX{vs:List Value}{ps:List (Int×Int)}(tv:qt s.heap vs ps){i j:Nat}{C:Bool->Shared->Prop}(hi:i<vs.length)(hj:j<vs.length)(hC:C (jt ps i j) s):kas_ask prog w A (tuples' true) vs i j C s:=by
 unfold kas_ask;obtain⟨a,o,n,t,u,e1,h1,h2,h3⟩:=CY tv hi Value.none (0,0);obtain⟨a',o',n',t',u',qW,jZ,j9,Ti⟩:=CY tv hj Value.none (0,0);unfold jt at hC;rw[e1,qW];generalize ps.getD i (0,0)=p at hC h3;generalize ps.getD j (0,0)=q at hC Ti;refine kat_lt h1 h3 jZ Ti ?_;unfold ltB at hC;refine kat_cons (SeqAt.EqAt.int_int p.1 t q.1 t' prog w _ _ (kat_go (λb1=>kat_yes (kat_cons (SeqAt.EqAt.int_int p.2 u q.2 u' prog w _ _ (kat_go (λb2=>kat_yes (kat_nil ?_)) λb2=>kat_no ?_)))) λb1=>kat_no ?_));·grind
 ·rw[if_pos (beq_iff_eq.mp b1)] at hC;exact kat_one _ _ (lt_int hC)
 ·rw[if_neg (λz=>by rw[beq_iff_eq.mpr z] at b1;cases b1)] at hC;show wpAny _ _ (oneLt' true _ _) _ _ _;exact kat_lt_int hC
theorem ZdL
  (hQ:∀aK:SortSt,arrOf aK=(List.toArray (List.range 64)).map (kas_item it)->failedOf aK=none->Q () aK s)
  (h:(kas_count 64 (List.toArray (List.range 64))).kasWp (kas_cmp prog w A κ it) (λr s'=>r=(64,List.toArray (List.range 64))/\s'=s) s):kasC (model prog w) A E sortRuns' Q (kas_st κ it (List.toArray (List.range 64))) s:=by
 have Se:(List.toArray (List.range 64)).size=64:=rfl;have szA:(arrOf (kas_st κ it (List.toArray (List.range 64)))).size=64:=(Array.size_map (f:=kas_item it)).trans Se;have mr:minRun' 64 64 0=32:=by decide+kernel
 rw[sortRuns'_eq];refine kasC_bind (kasC_get ?_);(try dsimp only);simp only[szA,mr];refine kasC_bind (kasC_range ?_);show kasC _ _ _ (forIn (0::1::List.range' 2 62) _ _) _ _ _;refine kasC_cons ?_;(try dsimp only);rw[if_neg (show ¬(0:Nat)≥64 by omega)];simp only[Nat.sub_zero];refine kasC_bind (kas_count_ (show 1<=64 by omega) (Nat.le_of_eq Se.symm) (λm p' s' _ _ _ hg=>?_) h);obtain⟨e,rfl⟩:=hg;cases e;(try dsimp only);rw[if_neg (show ¬(64:Nat)<32 by omega)];refine kasC_bind (kasC_get ?_);rw[show(pendingOf (kas_st κ it (List.toArray (List.range 64)))).back?=none from rfl];(try dsimp only);refine kasC_bind (kasC_modify (kasC_pure ?_));show kasC _ _ _ (forIn (1::List.range' 2 62) _ _) _ _ _;refine kasC_cons ?_;(try dsimp only);rw[if_pos (show(0:Nat)+64≥64 by omega)];refine kasC_pure ?_;(try dsimp only);refine kasC_bind (kasC_range ?_);show kasC _ _ _ (forIn (0::1::List.range' 2 62) _ _) _ _ _;refine kasC_cons ?_;refine kasC_bind (kasC_get ?_);(try dsimp only);rw[if_pos (show(pendingOf (setPending (kas_st κ it (List.toArray (List.range 64))) ((pendingOf (kas_st κ it (List.toArray (List.range 64)))).push (0,64,0)))).size<=1 from Yd 1)];refine kasC_pure ?_;(try dsimp only);exact kasC_pure (hQ _ rfl rfl)
theorem V_{R:Array Nat->Prop}{a:Addr}{vs:List Value}{n:Nat}{P:PySem.Fin->Shared->Prop}(ho:s.heap.get? a=some (seqObj "list" vs.toArray n))(iC:vs.length<=64)
  (hk:2<=vs.length->∀h':Heap,(∀b o,b≠a->s.heap.get? b=some o->h'.get? b=some o)->∃κ:SortKind,(∀(Q:SortKind->Shared->Prop),Q κ {s with heap:=h'}->wpAny (model prog w) A (keyKind' vs.toArray) Q E {s with heap:=h'})/\
   ∀Q':SortSt->Shared->Prop,(∀(p:Array Nat) (aK:SortSt),p.size=vs.length->arrOf aK=p.map (kas_item (vs.toArray.zip vs.toArray))->failedOf aK=none->Good vs.length p->R p->Q' aK {s with heap:=h'})->wpAny (model prog w) A (sortRuns'.run (SortSt.mk' κ (vs.toArray.zip vs.toArray) #[] 7 none)) (λr s'=>Q' r.2 s') E {s with heap:=h'})
  (h:∀out:List Value,out.Perm vs->(2<=vs.length->∃p:Array Nat,Good vs.length p/\R p/\out=p.toList.map λi=>vs.getD i Value.none)->P (.done (.ret .none)) {s with heap:=sortedHeap s.heap a vs out.toArray}):
  wpAny (model prog w) A (Builtin.«list.sort» ⟨[.ref a],[]⟩) P E s:=by
 rw[list_sort_plain];have ha:a<s.heap.objs.size:=Yv ho;refine wpAny_bind (listItems_at ho rfl ?_);refine wpAny_bind (listUpdate_at ho rfl ?_);obtain⟨e1,zG⟩:∃e1,(s.heap.update a (Obj.mapSeq λ_=>#[])).get? a=some (seqObj "list" #[] e1):=⟨_,get?_update_seq ho (λ_=>#[])⟩;refine wpAny_bind (seqEpoch_at zG rfl ?_);refine wpAny_bind (wpAny_newTuple ?_);refine wpAny_bind (wpAny_newList ?_);refine wpAny_holding ?_;have zH:(((s.heap.update a (Obj.mapSeq λ_=>#[])).push (seqObj "tuple" vs.toArray 0)).push (seqObj "list" #[] 0)).get? a=some (seqObj "list" #[] e1):=by
  rw[Ji _ _ _ (by rw[size_push',Heap.size_update];exact Yz (Wt ha)),Ji _ _ _ (by rw[Heap.size_update];exact Yz ha)];exact zG
 have keep:∀b o,b≠a->s.heap.get? b=some o->(((s.heap.update a (Obj.mapSeq λ_=>#[])).push (seqObj "tuple" vs.toArray 0)).push (seqObj "list" #[] 0)).get? b=some o:=λb o nb e=>
  Yb _ (Yb _ (by rw[Heap.get?_update_ne _ _ _ _ nb];exact e))
 dsimp only;have hsz:vs.toArray.size=vs.length:=by simp
 by_cases h2:vs.toArray.size<2
 ·rw[if_pos h2,if_pos h2];refine wpAny_bind (wpAny_pure ?_);rw[StateT.run_pure];refine wpAny_bind (wpAny_pure ?_);dsimp only;refine wpAny_bind (seqEpoch_at zH rfl ?_);refine wpAny_bind (listUpdate_at zH rfl ?_ (hsz2:=by rw[Array.size_map];show(pairsOf vs).size<=_;rw[pairsOf_size,sizeLine_eq];omega));simp only[bne_self_eq_false,Bool.false_eq_true,if_false];have e:(arrOf (SortSt.mk' general' (vs.toArray.zip vs.toArray) #[] 7 none)).map (·.2)=vs.toArray:=by
   grind
  have:=h vs (List.Perm.refl _) (λz=>by omega);rw[←e] at this;exact wpAny_pure this
 ·rw[if_neg h2,if_neg h2];have j9:2<=vs.length:=by omega
  obtain⟨κ,kk,cmp⟩:=hk j9 _ keep;refine wpAny_bind (kk _ ?_);refine wpAny_bind (wpAny_mono (cmp (λaK s'=>s'={s with heap:=((s.heap.update a (Obj.mapSeq λ_=>#[])).push (seqObj "tuple" vs.toArray 0)).push (seqObj "list" #[] 0)}/\∃p:Array Nat,p.size=vs.length/\arrOf aK=p.map (kas_item (vs.toArray.zip vs.toArray))/\failedOf aK=none/\R p/\Good vs.length p) λp aK a1 a2 a3 a4 a5=>⟨rfl,p,a1,a2,a3,a5,a4⟩) ?_ λ_ _ e=>e);rintro⟨⟨⟩,aK⟩ s' ⟨rfl,p,hp,har,hf,ep,g⟩;dsimp only;have Sf:=kat_snds rfl har;have perm:(p.toList.map λi=>vs.getD i Value.none).Perm vs:=by
   have e1:p.toList.Perm (List.range vs.length):=by
    have:=Jl.mp g.2;simpa using this
   have e2:=e1.map λi=>vs.getD i Value.none;rw[range_getD] at e2;exact e2
  refine wpAny_bind (seqEpoch_at zH rfl ?_);refine wpAny_bind (listUpdate_at zH rfl ?_ (hsz2:=by rw[Sf,Yt,perm.length_eq,sizeLine_eq];omega));rw[hf];simp only[bne_self_eq_false,Bool.false_eq_true,if_false];have:=h _ perm (λ_=>⟨p,g,ep,rfl⟩);rw[←Sf] at this;exact wpAny_pure this
theorem ZaY(h:ps.Pairwise iq):Sd (jt ps) (List.toArray (List.range ps.length)) ps.length:=λi j js hj=>by
 have e:∀k,k<ps.length->(List.toArray (List.range ps.length)).getD k 0=k:=λk hk=>by
  simp_all
 rw[e i (by omega),e j hj];refine ltB_iff.mpr ?_;rw[Yj,Yj,Yc (by omega),Yc hj];exact Wy.mp h i j (by omega) hj js
theorem ZeE{κ:SortKind}{ah:List Value}{ps:List (Int×Int)}{Q':SortSt->Shared->Prop}(Ia:ah.length=64)(lp:ah.length=ps.length)(L:jr ah.length (jt ps))(pw:ps.Pairwise iq)(ask:∀i j (C:Bool->Shared->Prop),i<ah.length->j<ah.length->C (jt ps i j) s->kas_ask prog w A κ ah i j C s)
  (Ib:∀(p:Array Nat) (aK:SortSt),p.size=ah.length->arrOf aK=p.map (kas_item (ah.toArray.zip ah.toArray))->failedOf aK=none->Good ah.length p->Sd (jt ps) p ah.length->Q' aK s):wpAny (model prog w) A (sortRuns'.run (SortSt.mk' κ (ah.toArray.zip ah.toArray) #[] 7 none)) (λr s'=>Q' r.2 s') E s:=by
 have gR:Good ah.length (List.toArray (List.range ah.length)):=⟨by omega,Array.Perm.refl _⟩;have Tj:Sd (jt ps) (List.toArray (List.range ah.length)) ah.length:=by rw[lp];exact ZaY pw
 rw[kat_ask_eq (vs:=ah) rfl] at ask;have sz0:(ah.toArray.zip ah.toArray).size=ah.length:=by simp
 have Ic:SortSt.mk' κ (ah.toArray.zip ah.toArray) #[] 7 none=kas_st κ (ah.toArray.zip ah.toArray) (List.toArray (List.range ah.length)):=by
  unfold kas_st;rw[←sz0,kas_range]
 rw[Ic];have wp:=dW.run (G:=λr s'=>r=(ah.length,List.toArray (List.range ah.length))/\s'=s) ask (LM gR) ⟨(Z6 L gR Tj),rfl⟩;have Tn:=λaK a b=>Ib _ aK (by simp) a b gR Tj;rw[Ia] at wp Tn⊢;exact ZdL (Q:=λ_ aK s'=>Q' aK s') Tn wp
theorem WZ(ho:s.heap.get? l=some o)(hc:o.cls=.type "list")(hd:o.data=.seq ah.toArray n)(tv:qt s.heap ah ps)(nd:ps.Nodup)(iC:ah.length<64\/(ah.length=64/\ps.Pairwise iq))(hsz:ah.toArray.size<=sizeLine)
  (h:∀(h1 h':Heap) (out:List Value) (e:Nat),(∀b o,s.heap.get? b=some o->h1.get? b=some o)->(∀b o,h1.get? b=some o->h'.get? b=some o)->h'.get? h1.objs.size=some (seqObj "list" out.toArray e)->out.Perm ah->(2<=ah.length->∃p:Array Nat,Good ah.length p/\Sd (jt ps) p ah.length/\out=p.toList.map λi=>ah.getD i Value.none)->Q (.ref h1.objs.size) {s with heap:=h'}):
  wpAny (model prog w) A (call (.builtin "sorted") [.ref l]) Q E s:=by
 refine Calls.call_function_entry kind_sorted plain_sorted entry_sorted (args_sorted1 _) ?_;unfold Builtin.«sorted»;refine wpAny_bind (m:=checkCount "sorted" 1 1 _) (wpAny_pure ?_);refine wpAny_bind (wpAny_collect_seq l (.inl rfl) ho hc hd (λh1 kp=>?_) hsz);refine wpAny_bind (wpAny_newList ?_);have e1:ah.toArray.toList=ah:=by simp
 rw[e1];have nJ:(h1.push (seqObj "list" ah.toArray 0)).get? h1.objs.size=some (seqObj "list" ah.toArray 0):=Yn _ rfl;refine wpAny_bind (wpAny_holding (wpAny_call_entry slot_list_sort ⟨_,nJ,rfl⟩ entry_list_sort (V_ (R:=λp=>Sd (jt ps) p ah.length) nJ (by omega) (λh2 h' kp'=>?_) λout pm eo=>⟨_,rfl,?_⟩) (args_list_sort _)))
 ·have Ie:qt h' ah ps:=L2.Paired.bI tv λv p ⟨a,o,n,t,u,e,q1,q2,q3⟩=>by
   have To:=kp _ _ q1;exact⟨a,o,n,t,u,e,kp' _ _ (Yz (Yv To)) (Yb _ To),q2,q3⟩
  obtain⟨fs,k1,k2,k3⟩:=Ie.jS.Th;have lp:=cU Ie;have ask:∀(B:Around) i j (C:Bool->Shared->Prop),i<ah.length->j<ah.length->C (jt ps i j) {s with heap:=h'}->kas_ask prog w B (tuples' true) ah i j C {s with heap:=h'}:=λB i j C hi hj hC=>ZaX (s:={s with heap:=h'}) Ie hi hj hC;have L:=ZdK nd;rw[←lp] at L;refine⟨tuples' true,λQ hQ=>?_,λQ' Ib=>?_⟩
  rotate_left
  ·rcases iC with lt|⟨Ia,pw⟩
   ·obtain⟨g,sd⟩:=ZaW L (by omega);refine kat_run (ks:=ah) (vs:=ah) (G:=λp s'=>s'={s with heap:=h'}/\p=Run (jt ps) (kas_sort ah.length)) rfl h2 lt (λp aK s' a1 a2 a3 a4=>?_) (dW.run (ask _) (Z3 (by omega)) ⟨rfl,rfl⟩)
    grind
   ·exact ZeE (s:={s with heap:=h'}) Ia lp L pw (ask _) Ib
  refine kat_kind (s:={s with heap:=h'}) (T:=.type "int") k1 (by omega) (λv hv=>?_) (by decide) hQ;obtain⟨x,t,rfl⟩:=k3 v hv;exact .now
 ·obtain⟨e,he⟩:=sortedHeap_at (out:=out.toArray) nJ;exact wpAny_pure ⟨_,rfl,h h1 _ out e kp (λb ob hb=>by
   have bL:=Yv hb;rw[sortedHeap_old (Yz bL) (by rw[size_push'];exact Wt bL),Ji _ _ _ (Yz bL)];exact hb) he pm eo⟩
end
def ZaZ(K:PySem.W.Frag):List V->Hp->VK->Prop:=λxs H Q=>∃(p:Addr) (as:List Addr) (bQ:List (Int×Int)),xs=[.ref p]/\ak K H p (as.map V.ref)/\Paired (λa (p:Int×Int)=>H a=some (.tup [.int p.1,.int p.2])) as bQ/\bQ.Nodup/\(as.length<64\/(as.length=64/\bQ.Pairwise iq))/\
 ∀(hJ:List Addr) (kQ:List (Int×Int)),Paired (λa (p:Int×Int)=>H a=some (.tup [.int p.1,.int p.2])) hJ kQ->kQ.Perm bQ->kQ.Pairwise iq->Nw H (.lst (hJ.map V.ref)) Q
theorem Lk:∀{zs:List γ},(∀z∈zs,F (f z) (g z))->Paired F (zs.map f) (zs.map g)
 |[],_=>.nil
 |z::zs,h=>.cons (h z Yk) (Lk λz hz=>h z (Yx _ hz))
theorem Za0{X:Cx}{K:PySem.W.Frag}(hK:X.K=K):cZ X (.builtin "sorted") (ZaZ K):=by
 subst hK;intro pins s σ H xs us Q I r h;obtain⟨p,as,bQ,rfl,hq,ht,nd,iC,q⟩:=h;obtain⟨u,rfl,rx⟩:=vals1 r;cases rx;obtain⟨ah,r',pl,hz⟩:=I.list hq;obtain⟨o,n,ho,hc,_,hd⟩:=pl;have ei:=Mo r';subst ei;rw[Ya] at hz;have lp:=cU ht;have tq:qt s.heap (as.map Value.ref) bQ:=by
  have aux:∀{as:List Addr} {bQ:List (Int×Int)},Paired (λa (p:Int×Int)=>H a=some (.tup [.int p.1,.int p.2])) as bQ->qt s.heap (as.map Value.ref) bQ:=λ{as bQ} h=>by
   induction h with
   |nil=>exact .nil
   |cons h1 _ ih=>
    refine .cons ?_ ih;obtain⟨gX,r2,⟨o2,g1,g2,n2,g3⟩,_⟩:=I.tuple (ay.of h1);obtain⟨u1,u2,rfl,⟨t1,rfl⟩,⟨t2,rfl⟩⟩:=vals2 r2
    grind
  exact aux ht
 refine WZ (ps:=bQ) ho hc hd tq nd (by rw[Ya];exact iC) (by rw[Yt,Ya];exact hz) λh1 h' out e kp HQ he pm eo=>?_;have I1:Inv X pins σ H {s with heap:=h1}:=I.kept (t':=s.toks) kp;obtain⟨hJ,kQ,Zfq,pa,pr,pw⟩:∃(hJ:List Addr) (kQ:List (Int×Int)),out=hJ.map Value.ref/\Paired (λa (p:Int×Int)=>H a=some (.tup [.int p.1,.int p.2])) hJ kQ/\kQ.Perm bQ/\kQ.Pairwise iq:=by
  by_cases z:2<=(as.map Value.ref).length
  ·have eo:=eo z;rw[Ya] at eo z;obtain⟨P,g,sd,eo⟩:=eo;rw[lp] at g sd;have e1:P.toList.Perm (List.range bQ.length):=by
    have:=Jl.mp g.2;simpa using this
   have fq:∀i∈P.toList,i<bQ.length:=λi hi=>Wh.mp (e1.subset hi);refine⟨P.toList.map λi=>as.getD i 0,P.toList.map λi=>bQ.getD i (0,0),?_,Lk λi hi=>CY ht (by rw[lp];exact fq i hi) 0 (0,0),?_,?_⟩
   ·rw[eo,Wc];refine Wo λi hi=>?_;have:=fq i hi;show(as.map Value.ref).getD i Value.none=Value.ref (as.getD i 0);rw[Yj,Yg,Yc (by omega),Yj,Yc (by omega)];rfl
   ·have:=e1.map λi=>bQ.getD i (0,0);rw[range_getD] at this;exact this
   ·rw[Wu,Wy];intro i j hi hj js;have sz:=g.size;have gi:P.toList[i]=P.getD i 0:=by
     rw[W3] at hi;simp_all
    have gj:P.toList[j]=P.getD j 0:=by
     rw[W3] at hj;simp_all
    rw[gi,gj];rw[W3] at hj;exact ltB_iff.mp (sd i j js (by omega))
  ·rw[Ya] at z;have eq:out=as.map Value.ref:=by
    match as,out,z,pm with
    |[],out,_,pm=>exact List.Perm.eq_nil pm
    |[a],out,_,pm=>exact List.Perm.eq_singleton pm
    |_::_::_,_,z,_=>exact absurd (by simp) z
   refine⟨as,bQ,eq,ht,List.Perm.refl _,?_⟩;match bQ,lp with
   |[],_=>exact .nil
   |[a],_=>exact List.pairwise_singleton _ _
   |_::_::_,lp=>exact absurd lp (by simp;omega)
 refine⟨.ref h1.objs.size,_,I1.laid (t':=s.toks) (o:=.lst (hJ.map V.ref)) HQ (Yd _) ⟨?_,out,e,by rw[Zfq];exact Mp hJ,by simpa[seqObj] using he⟩,rfl,(q hJ kQ pa pr pw).at _ (I1.av.fresh (Yd _))⟩;rw[Ya,cU pa,pr.length_eq];exact Jo (iV (by omega))
end L2
namespace L2
open PySem PySem.Spec PyProof.Rows
theorem m6{X:Cx}{K:PySem.W.Frag}{ex:Expr}{T:String}{r:V->List V->Hp->VK->Prop}{to:TE}{t:TA}(h:X.K=K)(p:PE X ex (wo X.K T r to t)):PE X ex (wo K T r to t):=h▸p
theorem Zb9{X:Cx}{K:PySem.W.Frag}{ex:Expr}{T:String}{r:V->List V->Hp->VK->Prop}{to:TE}(h:X.K=K)(p:PE X ex (GP X.K T r to)):PE X ex (GP K T r to):=h▸p
theorem Mq{X:Cx}{K:PySem.W.Frag}{a:Expr}{ta:TE}(h:X.K=K)(p:PT X a (λσ H Q=>ta σ H λx H'=>∃k,yT X.K x H' k/\Q k H')):PT X a (λσ H Q=>ta σ H λx H'=>∃k,yT K x H' k/\Q k H'):=h▸p
theorem Fg{X:Cx}{K:PySem.W.Frag}{f:Value->Value->Sem Value}{b:Bool}(h:X.K=K)(p:cF X f (yY X.K b)):cF X f (yY K b):=h▸p
def jQ(H0:Hp)(d:Addr):Prop:=(∀xs,H0 d≠some (.tup xs))/\(∀o u,H0 d≠some (.bK o u))/\∀ps,H0 d≠some (.oY ps)
section
variable {X:Cx}{pins:List (Addr×Obj)}{σ:St}{H:Hp}{s:Shared}{d:Addr}{kvs:List (Key×V)}
theorem Inv.Gg(I:Inv X pins σ H s)(e:H d=some (.dK kvs)):jQ X.iI d:=
 ⟨(λxs z=>by have:=I.base.jS d xs z;rw[e] at this;cases this),(λo u z=>by have:=I.base.kM d o u z;rw[e] at this;cases this),(λps z=>by obtain⟨m,h⟩:=I.base.lT d ps z;rw[e] at h;cases h)⟩
theorem Inv.swap(I:Inv X pins σ H s)(e:H d=some o)(nf:jQ X.iI d)(no:∀a,o≠.own a)(nt:∀xs,o≠.tup xs)(ok:cI X.prog X.w H s.heap d o'):Inv X pins σ (upd H d o') s:=by
 have jd:∀{a:Addr} {o1:HO},cI X.prog X.w H s.heap a o1->cI X.prog X.w (upd H d o') s.heap a o1:=λ{a o1} x=>x.jd (λ_ _ _ z=>z)
  (λb z=>by rw[aP (λq=>no a (Ys (e.symm.trans (by rw[←q];exact z))))];exact z)
  (λb xs z=>by rw[aP (λq=>nt xs (Ys (e.symm.trans (by rw[←q];exact z))))];exact z)
 have ne:∀{b:Addr},H b=none->b≠d:=λ{b} hb z=>by rw[z,e] at hb;cases hb
 refine⟨I.ok,I.os,I.bare,⟨I.base.keep,I.base.slot,λb ob q n hx=>?_,I.base.there,λb xs q=>?_,λb ob u q=>?_,λb ps q=>?_⟩,I.loc,I.cell,?_,λx c ec=>?_,λp hp=>?_,λa o1 e1=>?_,I.len⟩
 ·have h:=I.base.free b ob q n hx;rw[aP (ne h)];exact h
 ·rw[aP (λz=>nf.1 xs (by rw[←z];exact q))];exact I.base.jS b xs q
 ·rw[aP (λz=>nf.2.1 ob u (by rw[←z];exact q))];exact I.base.kM b ob u q
 ·rw[aP (λz=>nf.2.2 ps (by rw[←z];exact q))];exact I.base.lT b ps q
 ·rw[aP (ne I.free)];exact I.free
 ·rw[aP (ne (I.jN x c ec))];exact I.jN x c ec
 ·obtain⟨p1,p2,p3⟩:=I.pin p hp;exact⟨p1,by rw[aP (ne p2)];exact p2,p3⟩
 ·by_cases z:a=d
  ·subst z;rw[aU] at e1
   grind
  ·rw[aP z] at e1;exact jd (I.av a o1 e1)
end
def Ig(d:Addr)(od:Obj)(kvs:List (Key×V)):It:=⟨λi H=>H d=some (.bK od (.dK kvs))/\i<kvs.length,λi H v H'=>∃a k y,kvs[i]?=some (k,y)/\H a=none/\v=.ref a/\H'=upd H a (.tup [kV k,y]),λi H=>H d=some (.bK od (.dK kvs))/\kvs.length<=i⟩
theorem Rp(h:(dh P w).is k u=true):RelV (kV k) u:=by
 rcases ko h with⟨i,t,rfl,rfl⟩|⟨x,t,rfl,rfl⟩;·exact⟨t,rfl⟩
 ·exact⟨t,rfl⟩
theorem FT:∀{kvs:List (Key×V)} {vs:List (Key×Value)} {i:Nat} {k:Key} {y:V},KV kvs vs->kvs[i]?=some (k,y)->∃v,vs[i]?=some (k,v)/\RelV y v:=λ{kvs vs i k y} r h=>by
 obtain⟨q,e,h1,h2⟩:=fQ (F:=λ(p:Key×V) (q:Key×Value)=>p.1=q.1/\RelV p.2 q.2) r h
 grind
theorem sW(I:Inv X pins σ H s)(e:H d=some (.bK od (.dK kvs)))(fw:od.data=.dict es ep):∃vs,KV kvs vs/\s.heap.DictAt (dh X.prog X.w) d vs ep:=by
 obtain⟨g,_,_,vs,rel,o,zg,zh,h1,h2,h3,h4⟩:=(show cI X.prog X.w H s.heap d (.bK od (.dK kvs)) from I.av d _ e);rw[g] at h1;cases h1;rw[fw] at h3;cases h3;exact⟨vs,rel,od,es,g,h2,fw,h4⟩
theorem Vf:entryFor table "dict_itemiterator.__iter__"=some Builtin.«dict_keyiterator.__iter__»:=entryFor_alias (id':="dict_keyiterator.__iter__") (by kernel_rfl) rfl (by decide+kernel) (by kernel_rfl)
theorem YT{P:Program}{w:World}{K:PySem.W.Frag}{elts:List Expr}{x1:Nat}{pos:Pos}(it d:Addr)(od:Obj)(es:Array DictEntry)(ep:Nat)(fw:od.data=.dict es ep)(kvs:List (Key×V)):Turn P w K (.Tuple elts x1 pos) (Ig d od kvs) [it] it (λi h=>∃ok ov,IsItemIter h it d i kvs.length ep ok ov) where
 mem:=by simp
 obj:=λi h st b hb=>by
  grind
 keep:=λi h h' st k=>let⟨ok,ov,e⟩:=st;⟨ok,ov,k it (by simp) _ e⟩
 item:=by
  intro X hP hw hK hc i pins s σ H E I hf st hg;subst hP hw hK;obtain⟨f0,f1,f2,f3,f4,f5⟩:=hf it (by simp);obtain⟨ok,ov,st⟩:=st;obtain⟨hz,bL⟩:=hg;obtain⟨vs,rel,da⟩:=sW I hz fw;have ll:=rel.length;obtain⟨k,y,hk⟩:∃k y,kvs[i]?=some (k,y):=⟨kvs[i].1,kvs[i].2,Yc bL⟩;obtain⟨v,hv,ry⟩:=FT rel hk;rw[ll] at st;have Sg:=Yv st;refine wpAny_pyNext_items_item st da hv λkey h' jU out ZgA hsz keep=>⟨_,rfl,wpAny_letOwnedTupleGo_items out λh'' Zfr sb=>?_⟩;have sz:(2:Nat)<=sizeLine:=by rw[sizeLine_eq];omega
  have I1:Inv X pins σ (upd H s.heap.objs.size (.tup [kV k,y])) {s with heap:=h'',toks:=s.toks}:=Inv.turned (s:={s with heap:=s.heap.push {cls:=.type "tuple",data:=.seq #[key,v]},toks:=s.toks}) (I.laid (λb o e=>Yb _ e) (Yd _) ⟨sz,[key,v],.cons (Rp jU) (.cons ry .nil),kz.new _ _⟩) (λb o hb e=>by
   refine(sb.2 b hb).trans ?_;by_cases z:b=s.heap.objs.size
   ·subst z;rw[Yn _ rfl] at e
    grind
   ·rw[Ji _ _ _ z] at e;exact keep b o hb e) (by rw[aP (Yz Sg)];exact f0) f1 f3 f4 f5
  refine⟨.ref s.heap.objs.size,_,I1,rfl,⟨_,k,y,hk,I.av.fresh (Yd _),rfl,rfl⟩,⟨key,v,by rw[ll];exact Zfr⟩,λb hb=>?_⟩;have e:b=it:=by simpa using hb
  subst e;rw[aP (Yz Sg)];exact f0
 done:=by
  intro X hP hw hK hc i pins s σ H E I hf st hg;subst hP hw hK;obtain⟨f0,f1,f2,f3,f4,f5⟩:=hf it (by simp);obtain⟨ok,ov,st⟩:=st;obtain⟨hz,hle⟩:=hg;obtain⟨vs,rel,da⟩:=sW I hz fw;have ll:=rel.length;rw[ll] at st;exact wpAny_pyNext_items_end (I.ok.hd hc) st da (Y5 (by omega)) λh' eb=>⟨rfl,I.turned (λb o hb e=>eb b o hb e) f0 f1 f3 f4 f5⟩
 self:=λA i s Q E st h=>by
  obtain⟨ok,ov,st⟩:=st;have hT:s.TypeIs (.ref it) "dict_itemiterator":=⟨_,st,rfl⟩;exact wpAny_pyIter_slot hT PySem.F.slot_dict_itemiterator_iter (wpAny_call_entry PySem.F.slot_dict_itemiterator_iter hT Vf (wpAny_pure ⟨_,rfl,"dict_itemiterator",_,hT,PySem.F.slot_dict_itemiterator_next.lookup,h⟩) (PySem.F.args_dict_itemiterator_iter_1 _))
def FU(H0:Hp)(td:TE):TI:=λσ H R=>td σ H λx H1=>∃d kvs,x=.ref d/\H1 d=some (.dK kvs)/\∀od,jQ H0 d->R (Ig d od kvs) (upd H1 d (.bK od (.dK kvs)))
theorem Za1{X:Cx}{H0:Hp}{elts:List Expr}{x1:Nat}{pos apos cv:Pos}{o:Expr}{td:TE}(h0:X.iI=H0)(ho:PE X o td)(m9:attributeBase o "items" X.env (eval o X.env)=eval o X.env:=by rfl)(m_:(apos.endLine==cv.line)=true:=by rfl):PI X (.Tuple elts x1 pos) (.Call (.Attribute o "items" apos) [] [] cv) (FU H0 td):=by
 subst h0;intro pins s σ H R I h;refine wpAny_Call_method0_late m9 m_ (az (ho pins s σ H _ I h) λv s1 zq=>?_);obtain⟨x,H1,I1,r1,d,kvs,ex,hd,q⟩:=zq;subst ex;obtain rfl:v=Value.ref d:=r1;obtain⟨t1,t2,wJ⟩:=sU I1 (.inl ⟨kvs,.inl hd⟩);refine⟨"dict","dict.items",plainAttrs_dict,PySem.F.slot_dict_items,PySem.F.type_dict_items,t1,t2,Calls.callWith_builtin rfl (PySem.evalArgs_none ?_)⟩;obtain⟨zz,_,vs,rel,dd⟩:=lR I1.av hd;refine call_meetsIn PySem.F.slot_dict_items dd.typeIs PySem.F.entry_dict_items (PySem.F.args_dict_items_1 _) (meets_dict_items (dh X.prog X.w) d wJ) ⟨⟨vs,dd⟩,?_⟩;obtain⟨od,es,ep,kZ,hx,fw,qr⟩:=id dd;have nf:=I1.Gg hd;have up:∀b o,s1.heap.get? b=some o->(s1.heap.push {cls:=.type "dict_items",data:=.fields #[.ref d]}).get? b=some o:=λb o e=>Yb _ e;refine wpAny_pyIter_items (knd:=dh X.prog X.w) (d:=d) (kvs:=vs) (ep:=ep) ⟨_,Yn _ rfl,rfl,rfl⟩ ⟨od,es,up _ _ kZ,hx,fw,qr⟩ ?_;generalize hG:s1.heap.push {cls:=.type "dict_items",data:=.fields #[.ref d]}=G at up⊢;have I2:Inv X pins σ H1 {s1 with heap:=G.push {cls:=.type "dict_itemiterator",data:=.fields #[.none,.bool false,.ref d,.int 0 0,.int vs.length 0,.int ep 0,.none,.none]},toks:=s1.toks}:=I1.kept (t':=s1.toks) λb o e=>Yb _ (up b o e);have Ih:cI X.prog X.w H1 _ d (.dK kvs):=I2.av d _ hd;have I3:=I2.swap (o':=.bK od (.dK kvs)) hd nf (λa z=>by cases z) (λxs z=>by cases z) ⟨Yb _ (up _ _ kZ),Ih⟩;have qY:s1.heap.objs.size<=G.objs.size:=by rw[←hG,W6];omega
 refine⟨G.objs.size,[G.objs.size],_,Ig d od kvs,_,rfl,I3,YT _ d od es ep fw kvs,⟨.none,.none,?_⟩,λb hb=>?_,q od nf⟩
 ·show(G.push _).get? G.objs.size=_;rw[rel.length];exact Yn _ rfl
 ·have e:b=G.objs.size:=by simpa using hb
  subst e;have Ii:d<s1.heap.objs.size:=Yv kZ;exact I1.nE qY (by rw[aP (Ju (Y0 Ii qY))];exact I1.av.fresh qY)
def Qj(H0:Hp)(td:TE)(g:TG)(tb:TS):TS:=λD σ H=>yS (FU H0 td) g tb ⟨λaB H'=>∃d od kvs,jQ H0 d/\H' d=some (.bK od (.dK kvs))/\D.nx aB (upd H' d (.dK kvs)),λv H'=>∃d od kvs,jQ H0 d/\H' d=some (.bK od (.dK kvs))/\D.rt v (upd H' d (.dK kvs)),λ_ _=>False,λ_ _=>False⟩ σ H
theorem Inv.tK(I:Inv X pins σ H s)(nf:jQ X.iI d)(e:H d=some (.bK od (.dK kvs))):Inv X pins σ (upd H d (.dK kvs)) s:=
 I.swap e nf (λa z=>by cases z) (λxs z=>by cases z) (show cI X.prog X.w H s.heap d (.bK od (.dK kvs)) from I.av d _ e).2
theorem XN(h0:X.iI=H0)(hp:PassesOwn (model X.prog X.w) X.A X.env X.xe)(hc:X.calm=true)(hi:PI X (.Tuple elts x1 qB) (.Call (.Attribute o "items" apos) [] [] cv) (FU H0 td))(hg:PG X (.Tuple elts x1 qB) g)(hb:fY X body tb):
  PS X (.For (.Tuple elts x1 qB) (.Call (.Attribute o "items" apos) [] [] cv) body [] pos) (Qj H0 td g tb):=by
 subst h0;intro pins s σ H D I h;refine az (fT hp hc hi hg hb (λ_=>rfl) pins s σ H _ I h) λf s1 q=>?_;cases f with
 |next=>obtain⟨aB,H',I',d,od,kvs,nf,e,q⟩:=q;exact⟨aB,_,I'.tK nf e,q⟩
 |brk=>obtain⟨_,_,_,q⟩:=q;exact False.elim q
 |cont=>obtain⟨_,_,_,q⟩:=q;exact False.elim q
 |ret u=>obtain⟨v,aB,H',I',r,d,od,kvs,nf,e,q⟩:=q;exact⟨v,aB,_,I'.tK nf e,r,q⟩
theorem Z7(dD:∀Q:VK,Q (.ref d) H->td σ H Q)(hd:H d=some (.dK kvs))(Pv:Nat->St->Prop)(p0:Pv 0 σ)
  (hs:∀i k y aB H' a (N:St->Hp->Prop) (rt:VK) (bk:St->Hp->Prop),kvs[i]?=some (k,y)->Pv i aB->(∀b o,H b=some o->b≠d->H' b=some o)->H' a=some (.tup [kV k,y])->(∀bT,Pv (i+1) bT->N bT H')->g (.ref a) aB H' λcX H2=>tb ⟨N,rt,bk,N⟩ cX H2)
  (qF:∀aB H',Pv kvs.length aB->ai H H'->D.nx aB H'):Qj H0 td g tb D σ H:=by
 refine dD _ ⟨d,kvs,rfl,hd,λod nf=>⟨λi m aB H'=>m=kvs.length-i/\i<=kvs.length/\Pv i aB/\(∀b o,H b=some o->b≠d->H' b=some o)/\H' d=some (.bK od (.dK kvs)),⟨kvs.length,by omega,Yw _,p0,λb o e n=>by rw[aP n];exact e,aU⟩,?_⟩⟩;rintro i m aB H' ⟨rfl,hi,p,kp,fz⟩;by_cases bL:i<kvs.length
 ·refine .inr ⟨⟨fz,bL⟩,λbT H3=>Pv (i+1) bT/\(∀b o,H b=some o->b≠d->H3 b=some o)/\H3 d=some (.bK od (.dK kvs)),λbT H3 ⟨a,b,c⟩=>⟨kvs.length-(i+1),by omega,rfl,bL,a,b,c⟩,?_⟩;rintro x H4 ⟨a,k,y,hk,na,rfl,rfl⟩;have nad:d≠a:=λz=>by rw[←z,fz] at na;cases na
  have Tp:∀b o,H b=some o->b≠d->upd H' a (.tup [kV k,y]) b=some o:=λb o e n=>by rw[aP (λz=>by rw[←z,kp b o e n] at na;cases na)];exact kp b o e n
  exact hs i k y aB _ a (λbT H3=>Pv (i+1) bT/\(∀b o,H b=some o->b≠d->H3 b=some o)/\H3 d=some (.bK od (.dK kvs))) _ _ hk p Tp aU λbT p3=>⟨p3,Tp,by rw[aP nad];exact fz⟩
 ·have e:i=kvs.length:=by omega
  subst e;refine .inl ⟨⟨fz,Yd _⟩,d,od,kvs,nf,fz,qF _ _ p λb o e=>?_⟩;by_cases z:b=d;·subst z;rw[aU];rw[hd] at e;exact e
  ·rw[aP z];exact kp b o e z
theorem ZdM{X:Cx}:Hk X .Mult (λx y H Q=>∃i j,x=.int i/\y=.int j/\tH i j/\Q (.int (i*j)) H):=by
 rintro pins s σ H x y v u Q I r1 r2 ⟨i,j,e1,e2,hc,q⟩;subst e1;subst e2;obtain⟨t,rfl⟩:=r1;obtain⟨t',rfl⟩:=r2;exact imul_int ⟨.int _,H,I.tok _,⟨_,rfl⟩,q⟩ hc.ok
def Ij(d:Addr)(od:Obj)(kvs:List (Key×V)):It:=⟨λi H=>H d=some (.bK od (.dK kvs))/\i<kvs.length,λi H v H'=>H'=H/\∃k y,kvs[i]?=some (k,y)/\v=kV k,λi H=>H d=some (.bK od (.dK kvs))/\kvs.length<=i⟩
theorem Z8{P:Program}{w:World}{K:PySem.W.Frag}{tg:Expr}(it d:Addr)(od:Obj)(es:Array DictEntry)(ep:Nat)(fw:od.data=.dict es ep)(kvs:List (Key×V)):Turn P w K tg (Ij d od kvs) [it] it (λi h=>h.IsKeyIter it d i kvs.length ep) where
 mem:=by simp
 obj:=λi h st b hb=>by
  have e:b=it:=by simpa using hb
  obtain⟨o,e,c,dd⟩:=st
  grind
 keep:=λi h h' st k=>let⟨o,e,r⟩:=st;⟨o,k it (by simp) o e,r⟩
 item:=by
  intro X hP hw hK hc i pins s σ H E I hf st hg;subst hP hw hK;obtain⟨f0,f1,f2,f3,f4,f5⟩:=hf it (by simp);obtain⟨hz,bL⟩:=hg;obtain⟨vs,rel,da⟩:=sW I hz fw;have ll:=rel.length;obtain⟨k,y,hk⟩:∃k y,kvs[i]?=some (k,y):=⟨kvs[i].1,kvs[i].2,Yc bL⟩;obtain⟨v,hv,ry⟩:=FT rel hk;rw[ll] at st;refine wpAny_pyNext_dict_item st da hv λkey h' jU aK sb=>?_;obtain⟨o,e,c,dd⟩:=id aK;exact⟨_,rfl,qp e c dd (by decide) ⟨kV k,H,(I.turned (λb o hb e=>sb.extBut b o hb e) f0 f1 f3 f4 f5),Rp jU,⟨rfl,k,y,hk,rfl⟩,by rw[ll];exact aK,λb hb=>(hf b hb).1⟩⟩
 done:=by
  intro X hP hw hK hc i pins s σ H E I hf st hg;subst hP hw hK;obtain⟨f0,f1,f2,f3,f4,f5⟩:=hf it (by simp);obtain⟨hz,hle⟩:=hg;obtain⟨vs,rel,da⟩:=sW I hz fw;have ll:=rel.length;rw[ll] at st;exact wpAny_pyNext_dict_end (I.ok.hd hc) st da (Y5 (by omega)) λh' eb=>⟨rfl,I.turned (λb o hb e=>eb b o hb e) f0 f1 f3 f4 f5⟩
 self:=λA i s Q E st h=>wpAny_pyIter_keyiter st h
def Gh(H0:Hp)(td:TE):TI:=λσ H R=>td σ H λx H1=>∃d kvs,x=.ref d/\H1 d=some (.dK kvs)/\∀od,jQ H0 d->R (Ij d od kvs) (upd H1 d (.bK od (.dK kvs)))
theorem OG{X:Cx}{H0:Hp}{tg l:Expr}{td:TE}(h0:X.iI=H0)(hl:PE X l td):PI X tg l (Gh H0 td):=by
 subst h0;intro pins s σ H R I h;refine az (hl pins s σ H _ I h) λv s1 zq=>?_;obtain⟨x,H1,I1,r1,d,kvs,ex,hd,q⟩:=zq;subst ex;obtain rfl:v=Value.ref d:=r1;obtain⟨zz,wJ,vs,rel,dd⟩:=lR I1.av hd;obtain⟨od,es,ep,kZ,hx,fw,qr⟩:=id dd;have nf:=I1.Gg hd;refine wpAny_pyIter_dict wJ ⟨od,es,kZ,hx,fw,qr⟩ ?_;have I2:Inv X pins σ H1 {s1 with heap:=s1.heap.push {cls:=.type "dict_keyiterator",data:=.fields #[.ref d,.int 0 0,.int vs.length 0,.int ep 0]},toks:=s1.toks}:=I1.kept λb o e=>Yb _ e;refine⟨s1.heap.objs.size,[s1.heap.objs.size],_,Ij d od kvs,_,rfl,(I2.swap (o':=.bK od (.dK kvs)) hd nf (λa z=>by cases z) (λxs z=>by cases z) ⟨Yb _ kZ,(I2.av d _ hd)⟩),Z8 _ d od es ep fw kvs,⟨_,Yn _ rfl,rfl,by rw[rel.length];rfl⟩,λb hb=>?_,q od nf⟩;have e:b=s1.heap.objs.size:=by simpa using hb
 subst e;exact I1.nE (Yd _) (by rw[aP (Ju (Yv kZ))];exact I1.av.fresh (Yd _))
def Gi(H0:Hp)(td:TE)(g:TG)(tb:TS):TS:=λD σ H=>yS (Gh H0 td) g tb ⟨λaB H'=>∃d od kvs,jQ H0 d/\H' d=some (.bK od (.dK kvs))/\D.nx aB (upd H' d (.dK kvs)),λv H'=>∃d od kvs,jQ H0 d/\H' d=some (.bK od (.dK kvs))/\D.rt v (upd H' d (.dK kvs)),λ_ _=>False,λ_ _=>False⟩ σ H
theorem LN(h0:X.iI=H0)(hp:PassesOwn (model X.prog X.w) X.A X.env X.xe)(hc:X.calm=true)(hi:PI X tg l (Gh H0 td))(hg:PG X tg g)(hb:fY X body tb)(hs:∀x,foldedSetIterable l X.env x=pure x:=by intro _;rfl):PS X (.For tg l body [] pos) (Gi H0 td g tb):=by
 subst h0;intro pins s σ H D I h;refine az (fT hp hc hi hg hb hs pins s σ H _ I h) λf s1 q=>?_;cases f with
 |next=>obtain⟨aB,H',I',d,od,kvs,nf,e,q⟩:=q;exact⟨aB,_,I'.tK nf e,q⟩
 |brk=>obtain⟨_,_,_,q⟩:=q;exact False.elim q
 |cont=>obtain⟨_,_,_,q⟩:=q;exact False.elim q
 |ret u=>obtain⟨v,aB,H',I',r,d,od,kvs,nf,e,q⟩:=q;exact⟨v,aB,_,I'.tK nf e,r,q⟩
theorem Ni(dD:∀R:VK,R (.ref d) H1->td σ H R)(hd:H1 d=some (.dK kvs))(Pv:Nat->St->Hp->Prop)
  (p0:∀od,Pv 0 σ (upd H1 d (.bK od (.dK kvs))))
  (hs:∀od i k y aB H' (N:St->Hp->Prop) (rt:VK) (bk:St->Hp->Prop),kvs[i]?=some (k,y)->Pv i aB H'->H' d=some (.bK od (.dK kvs))->(∀bT H3,Pv (i+1) bT H3->H3 d=some (.bK od (.dK kvs))->N bT H3)->g (kV k) aB H' λcX H2=>tb ⟨N,rt,bk,N⟩ cX H2)
  (qF:∀od aB H',Pv kvs.length aB H'->H' d=some (.bK od (.dK kvs))->D.nx aB (upd H' d (.dK kvs))):Gi H0 td g tb D σ H:=by
 refine dD _ ⟨d,kvs,rfl,hd,λod nf=>⟨λi m aB H'=>m=kvs.length-i/\i<=kvs.length/\Pv i aB H'/\H' d=some (.bK od (.dK kvs)),⟨kvs.length,by omega,Yw _,p0 od,aU⟩,?_⟩⟩;rintro i m aB H' ⟨rfl,hi,p,fz⟩;by_cases bL:i<kvs.length
 ·refine .inr ⟨⟨fz,bL⟩,λbT H3=>Pv (i+1) bT H3/\H3 d=some (.bK od (.dK kvs)),λbT H3 ⟨a,c⟩=>⟨kvs.length-(i+1),by omega,rfl,bL,a,c⟩,?_⟩;rintro x H4 ⟨rfl,k,y,hk,rfl⟩;exact hs od i k y aB H4 (λbT H3=>Pv (i+1) bT H3/\H3 d=some (.bK od (.dK kvs))) _ _ hk p fz λbT H3 p3 f3=>⟨p3,f3⟩
 ·have e:i=kvs.length:=by omega
  subst e;exact .inl ⟨⟨fz,Yd _⟩,d,od,kvs,nf,fz,qF od _ _ p fz⟩
theorem Z9(G:Addr->Hp->List (Key×V)->Prop)(dD:∀R:VK,(∀d H1 kvs,G d H1 kvs->R (.ref d) H1)->td σ H R)
  (hb:∀d H1 kvs,G d H1 kvs->H1 d=some (.dK kvs)/\∃Pv:Nat->St->Hp->Prop,(∀od,Pv 0 σ (upd H1 d (.bK od (.dK kvs))))/\
   (∀od i k y aB H' (N:St->Hp->Prop) (rt:VK) (bk:St->Hp->Prop),kvs[i]?=some (k,y)->Pv i aB H'->H' d=some (.bK od (.dK kvs))->(∀bT H3,Pv (i+1) bT H3->H3 d=some (.bK od (.dK kvs))->N bT H3)->g (kV k) aB H' λcX H2=>tb ⟨N,rt,bk,N⟩ cX H2)/\
   ∀od aB H',Pv kvs.length aB H'->H' d=some (.bK od (.dK kvs))->D.nx aB (upd H' d (.dK kvs))):Gi H0 td g tb D σ H:=
 dD _ λd H1 kvs gd=>by
  obtain⟨hd,Pv,p0,hs,qF⟩:=hb d H1 kvs gd;exact Ni (td:=λ_ _ R=>R (.ref d) H1) (H:=H) (λ_ h=>h) hd Pv p0 hs qF
section
variable {P:Program}{w:World}{A:Around}{E:Value->Shared->Prop}{s:Shared}{it d:Addr}{i n ep:Nat}{ok ov:Value}{o:Obj}{es:Array DictEntry}{e:DictEntry}
end
section
variable {P:Program}{w:World}{A:Around}{E:Value->Shared->Prop}{s:Shared}{d o:Addr}{knd:HeapKind P w (List Key)}{xs ms:List (List Key×Addr×Value)}
end
section
variable {X:Cx}
theorem Zb_{H:Hp}{kvs:List (List Key×V)}{xs:List (List Key×Addr×Value)}(r:KT H kvs xs):xs.map (·.1)=kvs.map (·.1):=by
 induction r with
 |nil=>rfl
 |cons f _ ih=>grind
end
section
variable {X:Cx}{pins:List (Addr×Obj)}{σ:St}{H:Hp}{s:Shared}{d:Addr}{kvs:List (List Key×V)}
end
theorem Zca:bootBuiltins "dict"=some (.type "dict"):=by decide+kernel
def Ik(d:Addr)(od:Obj)(kvs:List (Key×V)):It:=⟨λi H=>H d=some (.bK od (.dK kvs))/\i<kvs.length,λi H v H'=>H'=H/\∃k,kvs[i]?=some (k,v),λi H=>H d=some (.bK od (.dK kvs))/\kvs.length<=i⟩
theorem Z_{P:Program}{w:World}{K:PySem.W.Frag}{tg:Expr}(it d:Addr)(od:Obj)(es:Array DictEntry)(ep:Nat)(fw:od.data=.dict es ep)(kvs:List (Key×V)):Turn P w K tg (Ik d od kvs) [it] it (λi h=>h.IsValIter it d i kvs.length ep) where
 mem:=by simp
 obj:=λi h st b hb=>by
  have e:b=it:=by simpa using hb
  obtain⟨o,e,c,dd⟩:=st
  grind
 keep:=λi h h' st k=>let⟨o,e,r⟩:=st;⟨o,k it (by simp) o e,r⟩
 item:=by
  intro X hP hw hK hc i pins s σ H E I hf st hg;subst hP hw hK;obtain⟨f0,f1,f2,f3,f4,f5⟩:=hf it (by simp);obtain⟨hz,bL⟩:=hg;obtain⟨vs,rel,da⟩:=sW I hz fw;have ll:=rel.length;obtain⟨k,y,hk⟩:∃k y,kvs[i]?=some (k,y):=⟨kvs[i].1,kvs[i].2,Yc bL⟩;obtain⟨v,hv,ry⟩:=FT rel hk;rw[ll] at st;refine wpAny_pyNext_values_item st da hv λh' aK sb=>?_;obtain⟨o,e,c,dd⟩:=id aK;exact⟨_,rfl,qp e c dd (by decide) ⟨y,H,(I.turned (λb o hb e=>sb.extBut b o hb e) f0 f1 f3 f4 f5),ry,⟨rfl,k,hk⟩,by rw[ll];exact aK,λb hb=>(hf b hb).1⟩⟩
 done:=by
  intro X hP hw hK hc i pins s σ H E I hf st hg;subst hP hw hK;obtain⟨f0,f1,f2,f3,f4,f5⟩:=hf it (by simp);obtain⟨hz,hle⟩:=hg;obtain⟨vs,rel,da⟩:=sW I hz fw;have ll:=rel.length;rw[ll] at st;exact wpAny_pyNext_values_end (I.ok.hd hc) st da (Y5 (by omega)) λh' eb=>⟨rfl,I.turned (λb o hb e=>eb b o hb e) f0 f1 f3 f4 f5⟩
 self:=λA i s Q E st h=>wpAny_pyIter_valiter st h
def Gj(H0:Hp)(td:TE):TI:=λσ H R=>td σ H λx H1=>∃d kvs,x=.ref d/\H1 d=some (.dK kvs)/\∀od,jQ H0 d->R (Ik d od kvs) (upd H1 d (.bK od (.dK kvs)))
theorem Zcb{X:Cx}{H0:Hp}{tg:Expr}{apos cv:Pos}{o:Expr}{td:TE}(h0:X.iI=H0)(ho:PE X o td)(m9:attributeBase o "values" X.env (eval o X.env)=eval o X.env:=by rfl)(m_:(apos.endLine==cv.line)=true:=by rfl):PI X tg (.Call (.Attribute o "values" apos) [] [] cv) (Gj H0 td):=by
 subst h0;intro pins s σ H R I h;refine wpAny_Call_method0_late m9 m_ (az (ho pins s σ H _ I h) λv s1 zq=>?_);obtain⟨x,H1,I1,r1,d,kvs,ex,hd,q⟩:=zq;subst ex;obtain rfl:v=Value.ref d:=r1;obtain⟨t1,t2,wJ⟩:=sU I1 (.inl ⟨kvs,.inl hd⟩);refine⟨"dict","dict.values",plainAttrs_dict,PySem.F.slot_dict_values,PySem.F.type_dict_values,t1,t2,Calls.callWith_builtin rfl (PySem.evalArgs_none ?_)⟩;obtain⟨zz,_,vs,rel,dd⟩:=lR I1.av hd;refine call_meetsIn PySem.F.slot_dict_values dd.typeIs PySem.F.entry_dict_values (PySem.F.args_dict_values_1 _) (meets_dict_values (dh X.prog X.w) d wJ) ⟨⟨vs,dd⟩,?_⟩;obtain⟨od,es,ep,kZ,hx,fw,qr⟩:=id dd;have nf:=I1.Gg hd;have up:∀b o,s1.heap.get? b=some o->(s1.heap.push {cls:=.type "dict_values",data:=.fields #[.ref d]}).get? b=some o:=λb o e=>Yb _ e;refine wpAny_pyIter_values (knd:=dh X.prog X.w) (d:=d) (kvs:=vs) (ep:=ep) ⟨_,Yn _ rfl,rfl,rfl⟩ ⟨od,es,up _ _ kZ,hx,fw,qr⟩ ?_;generalize hG:s1.heap.push {cls:=.type "dict_values",data:=.fields #[.ref d]}=G at up⊢;have I2:Inv X pins σ H1 {s1 with heap:=G.push {cls:=.type "dict_valueiterator",data:=.fields #[.ref d,.int 0 0,.int vs.length 0,.int ep 0]},toks:=s1.toks}:=I1.kept (t':=s1.toks) λb o e=>Yb _ (up b o e);have Ih:cI X.prog X.w H1 _ d (.dK kvs):=I2.av d _ hd;have I3:=I2.swap (o':=.bK od (.dK kvs)) hd nf (λa z=>by cases z) (λxs z=>by cases z) ⟨Yb _ (up _ _ kZ),Ih⟩;have qY:s1.heap.objs.size<=G.objs.size:=by rw[←hG,W6];omega
 refine⟨G.objs.size,[G.objs.size],_,Ik d od kvs,_,rfl,I3,Z_ _ d od es ep fw kvs,⟨_,Yn _ rfl,rfl,by rw[rel.length];rfl⟩,λb hb=>?_,q od nf⟩;have e:b=G.objs.size:=by simpa using hb
 subst e;have Ii:d<s1.heap.objs.size:=Yv kZ;exact I1.nE qY (by rw[aP (Ju (Y0 Ii qY))];exact I1.av.fresh qY)
def Rq(H0:Hp)(td:TE)(g:TG)(tb:TS):TS:=λD σ H=>yS (Gj H0 td) g tb ⟨λaB H'=>∃d od kvs,jQ H0 d/\H' d=some (.bK od (.dK kvs))/\D.nx aB (upd H' d (.dK kvs)),λv H'=>∃d od kvs,jQ H0 d/\H' d=some (.bK od (.dK kvs))/\D.rt v (upd H' d (.dK kvs)),λ_ _=>False,λ_ _=>False⟩ σ H
theorem YU(h0:X.iI=H0)(hp:PassesOwn (model X.prog X.w) X.A X.env X.xe)(hc:X.calm=true)(hi:PI X tg (.Call (.Attribute o "values" apos) [] [] cv) (Gj H0 td))(hg:PG X tg g)(hb:fY X body tb):
  PS X (.For tg (.Call (.Attribute o "values" apos) [] [] cv) body [] pos) (Rq H0 td g tb):=by
 subst h0;intro pins s σ H D I h;refine az (fT hp hc hi hg hb (λ_=>rfl) pins s σ H _ I h) λf s1 q=>?_;cases f with
 |next=>obtain⟨aB,H',I',d,od,kvs,nf,e,q⟩:=q;exact⟨aB,_,I'.tK nf e,q⟩
 |brk=>obtain⟨_,_,_,q⟩:=q;exact False.elim q
 |cont=>obtain⟨_,_,_,q⟩:=q;exact False.elim q
 |ret u=>obtain⟨v,aB,H',I',r,d,od,kvs,nf,e,q⟩:=q;exact⟨v,aB,_,I'.tK nf e,r,q⟩
theorem Za2(dD:∀R:VK,R (.ref d) H1->td σ H R)(hd:H1 d=some (.dK kvs))(Pv:Nat->St->Hp->Prop)
  (p0:∀od,Pv 0 σ (upd H1 d (.bK od (.dK kvs))))
  (hs:∀od i k y aB H' (N:St->Hp->Prop) (rt:VK) (bk:St->Hp->Prop),kvs[i]?=some (k,y)->Pv i aB H'->H' d=some (.bK od (.dK kvs))->(∀bT H3,Pv (i+1) bT H3->H3 d=some (.bK od (.dK kvs))->N bT H3)->g y aB H' λcX H2=>tb ⟨N,rt,bk,N⟩ cX H2)
  (qF:∀od aB H',Pv kvs.length aB H'->H' d=some (.bK od (.dK kvs))->D.nx aB (upd H' d (.dK kvs))):Rq H0 td g tb D σ H:=by
 refine dD _ ⟨d,kvs,rfl,hd,λod nf=>⟨λi m aB H'=>m=kvs.length-i/\i<=kvs.length/\Pv i aB H'/\H' d=some (.bK od (.dK kvs)),⟨kvs.length,by omega,Yw _,p0 od,aU⟩,?_⟩⟩;rintro i m aB H' ⟨rfl,hi,p,fz⟩;by_cases bL:i<kvs.length
 ·refine .inr ⟨⟨fz,bL⟩,λbT H3=>Pv (i+1) bT H3/\H3 d=some (.bK od (.dK kvs)),λbT H3 ⟨a,c⟩=>⟨kvs.length-(i+1),by omega,rfl,bL,a,c⟩,?_⟩;rintro x H4 ⟨rfl,k,hk⟩;exact hs od i k x aB H4 (λbT H3=>Pv (i+1) bT H3/\H3 d=some (.bK od (.dK kvs))) _ _ hk p fz λbT H3 p3 f3=>⟨p3,f3⟩
 ·have e:i=kvs.length:=by omega
  subst e;exact .inl ⟨⟨fz,Yd _⟩,d,od,kvs,nf,fz,qF od _ _ p fz⟩
section
variable {X:Cx}{o i:Expr}{td ty:TE}{qB pos:Pos}
def ZdN(td ty:TE):TS:=λD σ H=>td σ H λx H1=>ty σ H1 λy H2=>∃a kvs k,x=.ref a/\H2 a=some (.dK kvs)/\y=kV k/\(aO kvs k).isSome=true/\Ch H2 a (.dK (fW kvs k)) (D.nx σ)
theorem Za3(ho:PE X o td)(hi:PE X i ty):PS X (.Delete [.Subscript o i qB] pos) (ZdN td ty):=by
 intro pins s σ H D I h;refine wpAny_Delete (wpAny_deleteEach_cons (wpAny_delete_Subscript (az (ho pins s σ H _ I h) λu s1 zq=>?_)));obtain⟨x,H1,I1,rx,q1⟩:=zq;refine az (hi pins s1 σ H1 _ I1 q1) λiv s2 zq=>?_;obtain⟨y,H2,I2,ry,a,kvs,k,ex,e,ey,l,q2⟩:=zq;subst ex ey;obtain rfl:u=Value.ref a:=rx;exact ZU I2 e ry l λs3 I3=>wpAny_deleteEach_nil ⟨σ,_,I3,q2.at⟩
theorem Nj[DecidableEq α]:∀{xs:List (α×β)} {j:Nat} {k:α} {p:β},(xs.map (·.1)).Nodup->xs[j]?=some (k,p)->xs.eraseIdx j=xs.filter λx=>decide (x.1≠k)
 |[],_,_,_,_,h=>rfl
 |x::xs,0,k,p,nd,h=>by
  have e:x=(k,p):=by simpa using h
  subst e;rw[List.eraseIdx_cons_zero,List.filter_cons_of_neg (by simp)];refine(J5.mpr λy hy=>?_).symm
  grind
 |x::xs,j+1,k,p,nd,h=>by
  obtain⟨n1,n2⟩:=Y1.mp (show(x.1::xs.map (·.1)).Nodup from nd);have h':xs[j]?=some (k,p):=by simpa using h
  rw[List.eraseIdx_cons_succ,Nj n2 h',Jp (by simpa using(λz=>n1 (by rw[z];exact Yf.mpr ⟨_,Ye h',rfl⟩)))]
theorem Nk(f:α->β):∀(xs:List α) (j:Nat),(xs.map f).eraseIdx j=(xs.eraseIdx j).map f
 |[],_=>rfl
 |_::_,0=>rfl
 |x::xs,j+1=>by
  show f x::(xs.map f).eraseIdx j=f x::(xs.eraseIdx j).map f;rw[Nk f xs j]
theorem Zcc(k:List Key)(r:KT H kvs xs):KT H (fW kvs k) (xs.filter λx=>decide (x.1≠k)):=by
 unfold fW;induction r with
 |nil=>exact .nil
 |@cons p x ps xs f t ih=>
  by_cases e:p.1=k;·grind
  ·rw[Jp (by simpa using e),Jp (by rw[←f.1];simpa using e)];exact .cons f ih
theorem Za4{P:Program}{w:World}{A:Around}{E:Value->Shared->Prop}{s:Shared}{d a:Addr}{knd:HeapKind P w (List Key)}{xs:List (List Key×Addr×Value)}{k:List Key}{Q:Option DictEntry->Shared->Prop}(room:knd.room A)(is:knd.is s.heap k a)(D:s.heap.DictOfH knd d xs)(there:k∈xs.map (·.1))(hz:xs.length<=sizeLine)
  (hQ:∀e h' t',h'.DictOfH knd d (xs.filter λx=>decide (x.1≠k))->Heap.SameBut d s.heap h'->Q (some e) {s with heap:=h',toks:=t'}):wpAny (model P w) A (Builtin.Dict.takeOut d (.ref a)) Q E s:=by
 obtain⟨ob,es,ep,g,ex,hd,he,Tq,nd⟩:=D;refine wpAny_holding (wpAny_bind (knd.pyHash room is (wpAny_bind (wpAny_dictFind_heap room is g hd he Tq nd (λno=>?_) λj p e=>?_))))
 ·obtain⟨x,hx,e⟩:=Yf.mp there;obtain⟨j,hj,ej⟩:=Wq.mp hx;exact absurd (show xs[j]?=some (k,x.2) by rw[Yc hj,ej,←e]) (no j x.2)
 ·have sz:es.size=xs.length:=by rw[←W3,he,Ya]
  refine wpAny_bind (wpAny_dictEntries g hd ?_);rw[entry_at he j,e];have sb:=Heap.SameBut.update s.heap d (Obj.mapDictKeys λx=>x.eraseIdxIfInBounds j);refine wpAny_bind (wpAny_updateDictKeys g hd (wpAny_pure (hQ _ _ _ ⟨_,_,ep+1,Jv _ g (Obj.isFreed_of_dict (Obj.data_mapDictKeys hd _)),ex.mapDictKeys _,Obj.data_mapDictKeys hd _,?_,λx hx=>?_,?_⟩ sb)) (by rw[sz];exact hz))
  ·have hj:j<xs.length:=(Yh.mp e).1;rw[←Nj nd e];have e1:(es.eraseIdxIfInBounds j).toList=es.toList.eraseIdx j:=by
    simp_all
   rw[e1,he,Nk]
  ·exact knd.keeps (Tq x (Y3.mp hx).1) g hd sb
  ·grind
theorem YV{pins:List (Addr×Obj)}{σ:St}{H:Hp}{s:Shared}{a b:Addr}{kvs:List (List Key×V)}{k:List Key}{A:Around}{E:Value->Shared->Prop}{Q:Unit->Shared->Prop}(hu:A.units+1<cLine)(I:Inv X pins σ H s)(e:H a=some (.dT kvs))(eb:H b=some (.tup (k.map kV)))(l:(aO kvs k).isSome=true)(h:∀s',Inv X pins σ (upd H a (.dT (fW kvs k))) s'->Q () s'):
  wpAny (model X.prog X.w) A (delItem (.ref a) (.ref b)) Q E s:=by
 obtain⟨z,sm,xs,rel,dd⟩:=Rm I.av e;have l1:kvs.length=xs.length:=Paired.length rel;have there:k∈xs.map (·.1):=by
  rw[Zb_ rel];cases ev:aO kvs k with
  |none=>rw[ev] at l;cases l
  |some v=>
   unfold aO at ev;cases ef:kvs.find? λkv=>decide (kv.1=k) with
   |none=>rw[ef] at ev;cases ev
   |some p=>exact Yf.mpr ⟨p,List.mem_of_find?_eq_some ef,of_decide_eq_true (by simpa using List.find?_some ef)⟩
 refine wpAny_delItem_slot dd.typeIs (by decide) slot_dict_delitem (wpAny_call_entry slot_dict_delitem dd.typeIs PySem.F.entry_dict_delitem ?_ (PySem.F.args_dict_delitem_2 _ _));unfold Builtin.«dict.__delitem__»;refine wpAny_bind ?_;unfold Builtin.Dict.dictSlotArgs;refine wpAny_bind (wpAny_notOrdered_dict dd.typeIs ?_);show wpAny _ _ (pure (Value.ref a,Value.ref b)) _ _ s;refine wpAny_pure ?_;show wpAny _ _ (Builtin.Dict.takeOut a (.ref b)>>=_) _ _ s;refine wpAny_bind (Za4 (tupleKind_room_in1 hu) (oK I.av eb) dd there (by omega) λen h' t' d' sb=>?_);refine wpAny_bind (wpAny_letGo (wpAny_pure ⟨.none,rfl,?_⟩));obtain⟨q',es,ep,hq,h2,h3,h4,_,h5⟩:=d';refine h _ (qa (t':=t') (ob:=.dT (fW kvs k)) I (by rw[e];exact True.intro) sb ⟨q',hq⟩ ⟨Y4 (Wk _ _) z,sm,_,(Zcc k rel).keeps λc ys ec=>by
   rw[aP (Q0 ec e (λz=>nomatch z))];exact ec,q',es,ep,hq,h2,h3,h4,h5⟩)
def ZdO(td ty:TE):TS:=λD σ H=>td σ H λx H1=>ty σ H1 λy H2=>∃a b kvs k,x=.ref a/\H2 a=some (.dT kvs)/\y=.ref b/\H2 b=some (.tup (k.map kV))/\(aO kvs k).isSome=true/\Ch H2 a (.dT (fW kvs k)) (D.nx σ)
theorem Nl(hu:X.A.units+1<cLine)(ho:PE X o td)(hi:PE X i ty):PS X (.Delete [.Subscript o i qB] pos) (ZdO td ty):=by
 intro pins s σ H D I h;refine wpAny_Delete (wpAny_deleteEach_cons (wpAny_delete_Subscript (az (ho pins s σ H _ I h) λu s1 zq=>?_)));obtain⟨x,H1,I1,rx,q1⟩:=zq;refine az (hi pins s1 σ H1 _ I1 q1) λiv s2 zq=>?_;obtain⟨y,H2,I2,ry,a,b,kvs,k,ex,e,ey,eb,l,q2⟩:=zq;subst ex ey;obtain rfl:u=Value.ref a:=rx;obtain rfl:iv=Value.ref b:=ry;exact YV hu I2 e eb l λs3 I3=>wpAny_deleteEach_nil ⟨σ,_,I3,q2.at⟩
end
end L2
namespace L2
open PySem PySem.W PySem.Spec PyProof.Rows
def Zcd:List V->Hp->VK->Prop:=λxs H Q=>∃(p:Addr) (kvs:List (Key×V)),xs=[.ref p]/\H p=some (.dK kvs)/\Nw H (.dK kvs) Q
theorem XO:cZ X (.type "dict") Zcd:=by
 rintro pins s σ H xs us Q I r ⟨p,kvs,rfl,hp,q⟩;obtain⟨u,rfl,ru⟩:=vals1 r;obtain rfl:u=Value.ref p:=ru;obtain⟨lim,GX,vs,kv,dd⟩:=lR I.av hp;have kl:=kv.length;exact PySem.kt_call_dict GX dd (by omega) λh' d' sb=>⟨.ref s.heap.objs.size,_,I.laid (o:=.dK kvs) (λb o e=>(sb.2 b (Yz (Yv e))).trans (Yb _ e)) (Yd _) ⟨lim,beq_eq_false_iff_ne.mpr (Ne.symm (Yz I.big)),vs,kv,d'⟩,rfl,q.at _ (I.av.fresh (Yd _))⟩
theorem YW(val:Nat->Str)(vZ:∀i v,P i v->∃t,v=.str (val i) t):CmpOf prog w A .Lt P (λi j=>decide ((val i).cps.toList<(val j).cps.toList)):=λi j vi vj s Q E hi hj h=>by
 obtain⟨t,rfl⟩:=vZ i vi hi;obtain⟨u,rfl⟩:=vZ j vj hj;exact richCompare_gives (op:=.Lt) (typeIs_str s _ t) (typeIs_str s _ u) F.slot_str_lt F.entry_str_lt (F.args_str_lt_2 _ _) (gives_str_lt _ _ t u) (λx=>nomatch x) h
theorem YX(val:Nat->Str)(vZ:∀i v,P i v->∃t,v=.str (val i) t):CmpOf prog w A .Gt P (λi j=>decide ((val j).cps.toList<(val i).cps.toList)):=λi j vi vj s Q E hi hj h=>by
 obtain⟨t,rfl⟩:=vZ i vi hi;obtain⟨u,rfl⟩:=vZ j vj hj;exact richCompare_gives (op:=.Gt) (typeIs_str s _ t) (typeIs_str s _ u) F.slot_str_gt F.entry_str_gt (F.args_str_gt_2 _ _) (gives_str_gt _ _ t u) (λx=>nomatch x) h
def oS(a b:Str):Str:=if b.cps.toList<a.cps.toList then b else a
def oU(a b:Str):Str:=if a.cps.toList<b.cps.toList then b else a
theorem ZdP{a b:Value}{s:Shared}:(s.heap.push {cls:=.type "tuple",data:=.seq #[a,b]}).IsTuple s.heap.objs.size #[a,b]:=⟨_,Yn _ rfl,rfl,0,rfl⟩
section
variable {prog:Program}{w:World}{A:Around}{E:Value->Shared->Prop}{s:Shared}
theorem OH(i:Nat)(v:Value)(h:(#[Value.str a t,Value.str b u]:Array Value)[i]?=some v):∃t',v=.str (([a,b]:List Str).getD i "") t':=by
 match i,h with
 |0,h=>grind
 |1,h=>grind
 |i+2,h=>simp at h
theorem Nm{a b:Str}{t u:Tok}{Q:Value->Shared->Prop}{op:CmpOp}(f:Str->Str->Bool)(hh:A.handled=none)
  (cmp:CmpOf prog w A.in1 op (λi v=>(#[Value.str a t,Value.str b u]:Array Value)[i]?=some v) λi j=>f (([a,b]:List Str).getD i "") (([a,b]:List Str).getD j ""))
  (h:∀h' tk t',(∀c o,s.heap.get? c=some o->h'.get? c=some o)->Q (.str (if f b a=true then b else a) t') {s with heap:=h',toks:=tk}):
  wpAny (model prog w) A.in1 (pyIter (.ref s.heap.objs.size)) (λit dR=>∃I fp wr n P St bt,it=.ref I/\Walks prog w A.in1 I fp wr n P St/\St 0 dR.heap/\(∀b∈fp,b<dR.heap.objs.size)/\0<n/\CmpOf prog w A.in1 op P bt/\
   ∀v h' tk,P (argBest bt (n-1)) v->(∀b o,b∉wr->dR.heap.get? b=some o->h'.get? b=some o)->Q v {dR with heap:=h',toks:=tk}) E
   {s with heap:=s.heap.push {cls:=.type "tuple",data:=.seq #[.str a t,.str b u]}}:=by
 have hT:=ZdP (a:=.str a t) (b:=.str b u) (s:=s);refine wpAny_pyIter_tuple hT ?_;have hsz:(s.heap.push {cls:=.type "tuple",data:=.seq #[.str a t,.str b u]}).objs.size=s.heap.objs.size+1:=W6 ..;refine⟨_,[_,s.heap.objs.size],[_],_,_,_,_,rfl,Walks.tuple (A:=A.in1) hh _ s.heap.objs.size (by rw[hsz];exact Yz (Jd _)) #[.str a t,.str b u],
  ⟨⟨_,Yn _ rfl,rfl,rfl⟩,hT.push _⟩,λc hc=>?_,by simp,cmp,λv h' tk hP hk=>?_⟩
 ·show c<((s.heap.push _).push _).objs.size;rw[W6,hsz];rcases Yp.mp hc with rfl|hc;·rw[hsz];exact Jd _
  ·rw[Yo.mp hc];exact Wt (Jd _)
 ·have hold:∀c o,s.heap.get? c=some o->h'.get? c=some o:=λc o e=>by
   refine hk c o (λhm=>?_) (Yb _ (Yb _ e));have:=Yv e;rw[Yo.mp hm,hsz] at this;exact Y7 _ (Nat.lt_of_succ_lt this)
  have jY:(#[Value.str a t,Value.str b u]:Array Value)[if f b a=true then 1 else 0]?=some v:=hP;obtain⟨t',ev⟩:∃t',v=.str (if f b a=true then b else a) t':=by
   by_cases c:f b a=true
   ·rw[if_pos c] at jY⊢;exact⟨u,by simpa using jY.symm⟩
   ·rw[if_neg c] at jY⊢;exact⟨t,by simpa using jY.symm⟩
  subst ev;exact h h' tk t' hold
end
theorem YY(hc:X.calm=true):cZ X (.builtin "min") (λxs H Q=>∃i j:Str,xs=[.str i,.str j]/\Q (.str (oS i j)) H):=by
 intro pins s σ H xs us Q I r h;obtain⟨i,j,rfl,q⟩:=h;obtain⟨u,w',rfl,⟨t,rfl⟩,⟨t',rfl⟩⟩:=vals2 r;exact call_min_two (Nm (λx y=>decide (x.cps.toList<y.cps.toList)) (I.ok.hd hc) (YW _ λi v=>OH i v) λh' tk t2 k=>⟨.str (oS i j),H,I.kept k,⟨t2,by unfold oS;simp only[decide_eq_true_eq]⟩,q⟩)
theorem YZ(hc:X.calm=true):cZ X (.builtin "max") (λxs H Q=>∃i j:Str,xs=[.str i,.str j]/\Q (.str (oU i j)) H):=by
 intro pins s σ H xs us Q I r h;obtain⟨i,j,rfl,q⟩:=h;obtain⟨u,w',rfl,⟨t,rfl⟩,⟨t',rfl⟩⟩:=vals2 r;exact call_max_two (Nm (λx y=>decide (y.cps.toList<x.cps.toList)) (I.ok.hd hc) (YX _ λi v=>OH i v) λh' tk t2 k=>⟨.str (oU i j),H,I.kept k,⟨t2,by unfold oU;simp only[decide_eq_true_eq]⟩,q⟩)
theorem ZdQ:bootBuiltins "max"=some (.builtin "max"):=by decide+kernel
theorem OI:cF X (binaryOp .Mult) (λx y H Q=>∃(z:Str) (n:Nat),x=.str z/\y=.int (n:Int)/\z.length<=100/\n<=100/\Q (.str (Txt.mul z (n:Int))) H):=by
 intro pins s σ H x y v u Q I rx ry h;obtain⟨z,n,rfl,rfl,lz,ln,q⟩:=h;obtain⟨t,rfl⟩:=rx;obtain⟨t',rfl⟩:=ry;have lm:z.length*n<=10000:=Y4 (Nat.mul_le_mul lz ln) (by omega);refine PySem.SB.mul ⟨?_,λh1 _=>?_,λ_ _=>?_⟩ λt2 k=>⟨.str (Txt.mul z (n:Int)),H,I.tok k,⟨t2,rfl⟩,q⟩;·rw[decide_eq_false (by omega),decide_eq_false (by omega)];rfl
 ·have hn:(1:Int)<=(n:Int):=by omega
  intro hgt;have h3:((2:Int)^63-1)/(n:Int)≥(2^63-1)/100:=by
   refine Int.le_ediv_of_mul_le (by omega) ?_
   grind
  have h4:((2:Int)^63-1)/100>100:=by decide
  omega
 ·rw[Y6];exact decide_eq_false (by rw[sizeLine_eq];omega)
def l6:V->Bool
 |.int _=>true
 |.str _=>true
 |_=>false
theorem OJ(h:l6 x=true):ij x=true:=by cases x<;>first|rfl|cases h
theorem ZdR(hx:l6 x=true)(hy:l6 y=true):iO x y=decide (x=y):=by
 cases x with
 |int a=>
  cases y with
  |int b=>
   show(a==b)=_
   grind
  |str b=>rfl
  |_=>cases hy
 |str a=>
  cases y with
  |int b=>rfl
  |str b=>
   show(a==b)=_
   grind
  |_=>cases hy
 |_=>cases hx
theorem Mr:∀{xs ys:List V},xs.length=ys.length->xs.all l6=true->ys.all l6=true->((List.range xs.length).all λj=>iO (xs.getD j .aA) (ys.getD j .aA))=decide (xs=ys)
 |[],[],_,_,_=>rfl
 |[],_::_,h,_,_=>by simp at h
 |_::_,[],h,_,_=>by simp at h
 |x::xs,y::ys,h,fx,fy=>by
  rw[Jc,Wm] at fx fy;rw[Wl,List.range_succ_eq_map,Jc,Il];have e:((λj=>iO ((x::xs).getD j .aA) ((y::ys).getD j .aA))∘Nat.succ)=λj=>iO (xs.getD j .aA) (ys.getD j .aA):=rfl;rw[e,(Mr (by simpa using h) fx.2 fy.2)];show(iO x y&&_)=_;rw[ZdR fx.1 fy.1,Wi,Wm,decide_eq_true_iff,decide_eq_true_iff,decide_eq_true_iff,List.cons.injEq]
def Zfs(K:PySem.W.Frag)(neg:Bool):R2:=λx y H Q=>∃(p q:Addr) (xs ys:List V),x=.ref p/\y=.ref q/\ay K H p xs/\ay K H q ys/\xs.all l6=true/\ys.all l6=true/\Q (.bl (if neg=true then !decide (xs=ys) else decide (xs=ys))) H
theorem OK(r:Vals xs us):∀{j:Nat} (h:j<us.length),RelV (xs.getD j .aA) us[j]:=by
 induction r with
 |nil=>grind
 |cons f _ ih=>grind
theorem OL{xs:List V}{j:Nat}(f:xs.all l6=true)(h:j<xs.length):l6 (xs.getD j .aA)=true:=by
 grind
theorem ZdS{X:Cx}{K:PySem.W.Frag}(hK:X.K=K)(hu:X.A.units<cLine):cF X (compareOp .NotEq) (Zfs K true):=by
 subst hK;intro pins s σ H x y v u Q I rx ry h;obtain⟨p,q,xs,ys,rfl,rfl,h1,h2,f1,f2,k⟩:=h;cases rx;cases ry;obtain⟨ah,r1,p1,z1⟩:=I.tuple h1;obtain⟨gX,r2,p2,z2⟩:=I.tuple h2;have l1:=r1.length;have l2:=r2.length;show wpAny _ _ (richCompare .NotEq _ _) _ _ _;refine SeqAt.RcNeAt.tuples (e:=λj=>iO (xs.getD j .aA) (ys.getD j .aA)) p1 p2 hu (λj h1 h2=>?_) _ _ _ _ (cE I k ?_)
 ·have j1:j<ah.length:=by simpa using h1
  have j2:j<gX.length:=by simpa using h2
  have e1:=OK r1 j1;have e2:=OK r2 j2;have a1:ah.toArray[j]=ah[j]:=by simp
  have a2:gX.toArray[j]=gX[j]:=by simp
  rw[a1,a2];exact P2 e1 e2 (OJ (OL f1 (by omega))) (OJ (OL f2 (by omega)))
 ·rw[if_pos rfl,Yt,Yt,←l1,←l2];by_cases hl:xs.length=ys.length
  ·rw[←hl,Nat.min_self,Mr hl f1 f2];simp
  ·grind
section
variable {X:Cx}
end
def zI(g:Nat->Value):Nat->Nat->List Value
 |0,_=>[]
 |n+1,i=>g i::zI g n (i+1)
theorem Qk(g:Nat->Value):∀(us:List Value) (i:Nat),(∀k,us[k]?=some (g (i+k))\/us.length<=k)->us=zI g us.length i
 |[],_,_=>rfl
 |a::r,i,h=>by
  have e:a=g i:=by
   rcases h 0 with z|z;·grind
   ·cases z
  refine congr (congrArg _ e) (Qk g r (i+1) λk=>?_);have:=h (k+1)
  grind
inductive aH(K:PySem.W.Frag)(x:Str)(st:Stmt)(f:Addr):Prop
 |mk {od an:Option Addr} {sl:Array (Option Value)} {oc kV dc pm cd ct:Value} (a:nsIn K mainGlobals x=some (some (.ref f))) (l:K.lookup f=some ⟨oc,od,.func (fnOf x x (mV st) (ku st) (aL st) .none kV dc pm an cd ct),sl⟩) (c:codeIn K cd x=true) (k:keepIn K (.ref f)=true):aH K x st f
inductive bb(K:PySem.W.Frag)(C:Addr)(x q:Str)(st:Stmt)(f:Addr):Prop
 |mk {od an:Option Addr} {sl:Array (Option Value)} {oc kV dc pm cd ct:Value} (a:PySem.W.findIn K (.ref C) x=some (some (.ref f))) (b:isFn K (.ref f)=true) (l:K.lookup f=some ⟨oc,od,.func (fnOf x q (mV st) (ku st) (aL st) .none kV dc pm an cd ct),sl⟩) (c:codeIn K cd q=true) (k:keepIn K (.ref f)=true):bb K C x q st f
inductive l9(P:Program)(w:World)(K:PySem.W.Frag)(mg:Str->Option Value)(base:Heap):Prop
 |mk {h:Heap} (X:K.In h) (G:h.Ns mainGlobals mg):l9 P w K mg base
abbrev nX(x q:Str)(st:Stmt)(ps:List Str):Prop:=∀(kV doc pm:Value) (an:Option Addr) (aE ct:Value) (g:Nat->Value),bindArgs (fnOf x q (mV st) (ku st) (aL st) .none kV doc pm an aE ct) ⟨zI g ps.length 0,[]⟩=pure (ps.zip (zI g ps.length 0))
theorem nX.at{x q:Str}{st:Stmt}{ps:List Str}(b:nX x q st ps)(kV doc pm:Value)(an:Option Addr)(aE ct:Value)(us:List Value)(hl:us.length=ps.length):bindArgs (fnOf x q (mV st) (ku st) (aL st) .none kV doc pm an aE ct) ⟨us,[]⟩=pure (ps.zip us):=by
 have e:=Qk (λk=>us.getD k .none) us 0 λk=>by
  grind
 grind
section
variable {P:Program}{w:World}{K:PySem.W.Frag}{mg:Str->Option Value}{base:Heap}{C f:Addr}{x q:Str}{st:Stmt}{ps:List Str}{n:Nat}{sp:Sp}
theorem l9.p(D:l9 P w K mg base)(p:aH K x st f)(b:nX x x st ps:=by intro _ _ _ _ _ _ _;rfl):∃fd,aM K x x st f fd/\Binds K fd ps []/\keepIn K (.ref f)=true/\mg x=some (.ref f):=by
 obtain⟨X,G⟩:=D;obtain⟨a,l,c,k⟩:=p;exact⟨_,vw l c k,(vw l c k).binds (nX.at b),k,mg_of X G a⟩
theorem l9.d(D:l9 P w K mg base)(p:aH K x st f)(o:∀fd,aM K x x st f fd->aG P w K mg base aN n f fd ps sp)(b:nX x x st ps:=by intro _ _ _ _ _ _ _;rfl):HasFn P w K mg base n x ps sp:=by
 obtain⟨fd,F,b,k,m⟩:=D.p p b;exact⟨f,fd,o _ F,b,k,m⟩
theorem bb.p(p:bb K C x q st f)(b:nX x q st ps):∃fd,aM K x q st f fd/\Binds K fd ps []/\Meth K C x f/\PySem.W.findIn K (.ref C) x=some (some (.ref f))/\isFn K (.ref f)=true:=by
 obtain⟨a,e,l,c,k⟩:=p;exact⟨_,vw l c k,(vw l c k).binds (nX.at b),⟨a,e,k⟩,a,e⟩
theorem l9.m(_:l9 P w K mg base)(kc:fL K C)(p:bb K C x q st f)(o:∀fd,aM K x q st f fd->aG P w K mg base aN n f fd ps sp)(b:nX x q st ps:=by intro _ _ _ _ _ _ _;rfl):cA P w K mg base n x C ps sp:=by
 obtain⟨fd,F,b,m,_,_⟩:=p.p b;exact⟨f,fd,kc,m,o _ F,b⟩
theorem l9.i(_:l9 P w K mg base){y:Str}(m:mg y=some (.ref C))(cb:makesIn K C=true)(cc:keepIn K (.ref C)=true)(p:bb K C "__init__" q st f)(o:∀fd,aM K "__init__" q st f fd->aG P w K mg base aN n f fd ps sp)(b:nX "__init__" q st ps:=by intro _ _ _ _ _ _ _;rfl):vK P w K mg base n y C ps sp:=by
 obtain⟨fd,F,b,_,a,e⟩:=p.p b;exact⟨f,fd,⟨cb,a,e,cc⟩,o _ F,b,m⟩
end
end L2
namespace Im
open PySem L2
variable {P:Program}{w:World}{K:PySem.W.Frag}{mg:Str->Option Value}{base:Heap}{f C CL CJ:Addr}{fd:FuncData}
def top(i:Nat):Stmt:=PySem.Challenge.pw_kinhearth_k31_dealings_of_a_book.main.body.getD i (.Pass ⟨0,0,0,0⟩)
abbrev Eb:Stmt:=top 19
abbrev Fh:Stmt:=top 20
abbrev EH:Stmt:=top 21
abbrev FV:Stmt:=top 23
abbrev Cq:Stmt:=top 25
abbrev Cr:Stmt:=top 75
abbrev A8:Stmt:=top 76
abbrev Ec:Stmt:=top 77
abbrev DB:Stmt:=top 22
abbrev BZ:Stmt:=top 24
abbrev DC:Stmt:=top 2
abbrev EI:Stmt:=top 34
abbrev DD:Stmt:=top 35
abbrev DE:Stmt:=top 38
abbrev CZ:Stmt:=top 39
abbrev C0:Stmt:=top 40
abbrev Ed:Stmt:=top 47
abbrev Bv:Stmt:=top 48
abbrev C1:Stmt:=top 49
abbrev C2:Stmt:=top 50
abbrev Bw:Stmt:=top 51
abbrev Bx:Stmt:=top 52
abbrev By:Stmt:=top 53
abbrev A9:Stmt:=top 54
abbrev C3:Stmt:=top 70
abbrev DF:Stmt:=top 56
abbrev LO:Stmt:=top 79
abbrev Ll:Stmt:=top 80
abbrev LP:Stmt:=top 81
abbrev Ee:Stmt:=top 82
abbrev B0:Stmt:=top 83
abbrev C4:Stmt:=top 84
abbrev C5:Stmt:=top 85
abbrev xM:Stmt:=top 86
abbrev DG:Stmt:=top 87
abbrev B3:Stmt:=top 88
abbrev DH:Stmt:=top 90
abbrev DI:Stmt:=top 91
abbrev EJ:Stmt:=top 92
abbrev DJ:Stmt:=top 93
abbrev C6:Stmt:=top 94
abbrev DK:Stmt:=top 95
abbrev DL:Stmt:=top 96
abbrev DM:Stmt:=top 97
abbrev Ef:Stmt:=top 98
abbrev DN:Stmt:=top 99
abbrev DO:Stmt:=top 89
abbrev C7:Stmt:=top 100
abbrev qu:Stmt:=top 101
abbrev C8:Stmt:=inClass (top 74) 0
abbrev C9:Stmt:=inClass (top 74) 1
abbrev Cs:Stmt:=inClass (top 58) 0
abbrev C_:Stmt:=inClass (top 58) 1
abbrev Dc:Stmt:=inClass (top 58) 2
abbrev Dd:Stmt:=inClass (top 58) 3
abbrev A_:Stmt:=inClass (top 58) 4
abbrev Ct:Stmt:=inClass (top 58) 5
abbrev AV:Stmt:=inClass (top 58) 6
abbrev B4:Stmt:=inClass (top 58) 8
abbrev Bz:Stmt:=inClass (top 58) 12
abbrev Av:Stmt:=inClass (top 58) 13
abbrev Cu:Stmt:=inClass (top 58) 14
abbrev B5:Stmt:=inClass (top 58) 9
abbrev Ay:Stmt:=inClass (top 58) 11
abbrev B6:Stmt:=inClass (top 69) 0
abbrev Ba:Stmt:=inClass (top 69) 1
abbrev Cv:Stmt:=inClass (top 69) 2
abbrev Cw:Stmt:=inClass (top 69) 3
abbrev B7:Stmt:=inClass (top 69) 4
abbrev B8:Stmt:=inClass (top 69) 5
abbrev Bb:Stmt:=inClass (top 69) 10
abbrev AW:Stmt:=inClass (top 69) 11
abbrev WA:Stmt:=inClass (top 69) 12
abbrev Cy:Stmt:=inClass (top 69) 13
abbrev AG:Stmt:=inClass (top 69) 17
abbrev AB:Stmt:=inClass (top 69) 18
abbrev BA:Stmt:=inClass (top 69) 19
abbrev AX:Stmt:=inClass (top 69) 20
abbrev BB:Stmt:=inClass (top 69) 21
abbrev Bc:Stmt:=inClass (top 69) 22
abbrev AH:Stmt:=inClass (top 69) 23
abbrev AO:Stmt:=inClass (top 69) 24
abbrev Rr:Stmt:=LO
abbrev Ql:Stmt:=Ll
abbrev Rt:Stmt:=LP
section
theorem ZdT:aQ ["_law_script","_law_k"] ["_law_script","_law_k"] (aL Rr):=⟨rfl,rfl,rfl,by decide+kernel,rfl,by decide+kernel,by decide+kernel⟩
theorem Zce(F:aM K "_law_cell" "_law_cell" Rr f fd)(ml:mg "len"=none):aG P w K mg base aN 1 f fd ["_law_script","_law_k"] (Qb K):=by
 refine F.ok ZdT (λvs H Q E h=>?_) (λaE A outer s H vs Q E hr h=>?_)
 ·obtain⟨a,ns,k,rfl,_⟩:=h;rfl
 obtain⟨a,ns,k,rfl,hS,h0,q⟩:=h;refine⟨_,aj (aS (aZ lQ (pv 1) (bJ K9 rfl ml cP (aa (pv 0) ae)) (aR _)) (aq (aF (a9 Fe (pv 0) (pv 1) (λ_ _=>rfl)))) aY)
  (aq (aF aI)),?_⟩
 refine⟨_,rfl,_,rfl,a,_,rfl,.inl hS,_,_,rfl,rfl,_,rfl,?_⟩;refine bC (λc=>?_) (λc=>?_)
 ·have c':k<(((ns.map V.int).length:Nat):Int):=of_decide_eq_true c;rw[(Ya _)] at c';exact⟨_,rfl,_,rfl,a,_,_,_,rfl,rfl,hS,lN h0 c',q _⟩
 ·exact q _
theorem mW:aQ ["_law_cell_here","_law_parts","_law_one","_law_two","_law_six","_law_found","_law_part"] ["_law_cell_here","_law_parts"] (aL Ql):=⟨rfl,rfl,rfl,by decide+kernel,rfl,by decide+kernel,by decide+kernel⟩
theorem Za5(F:aM K "_law_draws" "_law_draws" Ql f fd)(ma:mg "abs"=none):aG P w K mg base aN 1 f fd ["_law_cell_here","_law_parts"] (yk K):=by
 refine F.ok mW (λvs H Q E h=>?_) (λaE A outer s H vs Q E hr h=>?_)
 ·obtain⟨c,a,ps,rfl,_⟩:=h;rfl
 obtain⟨c,a,ps,rfl,hS,hps,hlen,q⟩:=h;refine⟨_,aj (aS (aZ lQ (bJ MY rfl ma P9 (aa (pv 0) ae)) (a_ PU aI aI) (aR _))
   (aj (bg (i:=2) mW.nd rfl (Or.inl rfl) (a_ d7 (a_ gQ (a_ lM (pv 0) aI) aI) aI))
   (aj (bg (i:=3) mW.nd rfl (Or.inl rfl) (a_ d7 (a_ gQ (a_ gQ (a_ lM (pv 2) (pv 2)) (a_ lM aI (pv 2))) (pv 0)) aI))
   (aj (bg (i:=4) mW.nd rfl (Or.inl rfl) (a_ d7 (a_ gQ (a_ lM (pv 3) aI) (pv 2)) aI))
   (aq (bg (i:=0) mW.nd rfl (Or.inl rfl) (a_ gQ (pv 3) (a_ lM aI (a_ gQ (pv 4) (a_ lM aI (pv 2))))))))))
   (aq (bg (i:=0) mW.nd rfl (Or.inl rfl) (a_ yz (bJ MY rfl ma P9 (aa (pv 0) ae)) (a_ PU aI aI)))))
  (aj (bg (i:=5) mW.nd rfl (Or.inl rfl) (vq ae))
  (aj (fT PassesOwn.never rfl (Oh (pv 1)) (bj (i:=6) mW.nd rfl (Or.inl rfl))
   (aj (cz (jO plainAttrs_list PySem.F.slot_list_append PySem.F.type_list_append uZ (pv 5) (aa (a_ d7 (pv 0) (pv 6)) ae)))
   (aq (bg (i:=0) mW.nd rfl (Or.inl rfl) (a_ yg (pv 0) (pv 6))))))
  (aq (aF (pv 5))))),?_⟩
 refine gu (λσ H'=>H'=H/\∃c' o2 o3 o4,σ=[some (.int c'),some (.ref a),o2,o3,o4,none,none]) (λnx k=>?_) ?_
 ·refine⟨_,rfl,c,rfl,_,_,rfl,rfl,⟨by decide,by decide,by decide⟩,_,_,rfl,rfl,_,rfl,?_⟩;refine bC (λ_=>?_) (λ_=>?_)
  ·refine⟨_,rfl,_,_,rfl,rfl,.inr ⟨by decide,by decide⟩,_,_,rfl,rfl,_,_,rfl,rfl,(by show(0:Int)<2147483647;decide),?_⟩;refine⟨_,rfl,_,rfl,_,_,rfl,rfl,.inl (Zdb _ (by decide) (by decide)),_,rfl,_,_,rfl,rfl,.inl ⟨by decide,by decide⟩,_,_,rfl,rfl,_,rfl,_,_,rfl,rfl,_,_,rfl,rfl,(by show(0:Int)<2147483399;decide),?_⟩;refine⟨_,rfl,_,_,rfl,rfl,.inr ⟨by decide,by decide⟩,_,rfl,_,_,rfl,rfl,_,_,rfl,rfl,(by show(0:Int)<1000000007;decide),?_⟩;refine⟨_,rfl,_,rfl,_,rfl,_,_,rfl,rfl,.inl ⟨by decide,by decide⟩,_,_,rfl,rfl,_,_,rfl,rfl,.inl ⟨by decide,by decide⟩,_,_,rfl,rfl,k _ _ ⟨rfl,_,_,_,_,rfl⟩⟩
  ·exact⟨_,rfl,c,rfl,_,_,rfl,rfl,⟨by decide,by decide,by decide⟩,_,_,rfl,rfl,k _ _ ⟨rfl,_,_,_,_,rfl⟩⟩
 ·rintro σ H0 ⟨rfl,c',o2,o3,o4,rfl⟩;refine⟨(by show 0<=sizeLine;decide),λl hl=>?_⟩;have s1:ai H0 (upd H0 l (.lst [])):=cq hl _;refine⟨_,rfl,a,rfl,⟨_,s1.seq hS⟩,jH (K:=K) (a:=a) (xs:=ps.map V.int) (λi σ H2=>∃c o2 o3 o4 o6 ds,σ=[some (.int c),some (.ref a),o2,o3,o4,some (.ref l),o6]/\ai H0 H2/\H2 l=some (.lst (ds.map V.int))/\Paired Bd ds (ps.take i))
   ⟨c',o2,o3,o4,none,[],rfl,s1,aU,by rw[List.take_zero];exact .nil⟩ (λi σ H2 _ ⟨_,_,_,_,_,_,_,s2,_⟩=>s2.seq hS) ?_ ?_⟩
  ·rintro i y σ H2 hi ⟨c,o2,o3,o4,o6,ds,rfl,s2,h2,b2⟩;obtain⟨p,rfl,hp⟩:=lI hi;have dC:i<ps.length:=(Yh.mp hp).1;obtain⟨p0,p1⟩:=hps p (Ye hp);have dl:=b2.length;rw[Wa] at dl;refine⟨_,rfl,.inl ⟨rfl,_,ak.of h2⟩,_,rfl,_,rfl,_,_,rfl,rfl,p0,l,_,_,rfl,rfl,h2,(by rw[Ya];exact iV (by omega)),?_⟩;refine⟨_,rfl,_,rfl,_,_,rfl,rfl,⟨p0,p1⟩,?_⟩;refine⟨_,o2,o3,o4,_,ds++[c % p],rfl,λb o e=>?_,?_,?_⟩
   ·rw[aP (ck e hl)];exact s2 b o e
   ·rw[aU,M4]
   ·rw[Yy,hp];exact b2.snoc ⟨Jb _ (HR p0),W0 _ p0⟩
  ·rintro σ H2 ⟨c,o2,o3,o4,o6,ds,rfl,s2,h2,b2⟩;rw[Ya,Y8] at b2;exact⟨_,rfl,q l ds H2 hl s2 h2 b2⟩
theorem vB:aQ ["_law_code","_law_size","_law_free","_law_found","_law_k"] ["_law_code","_law_size"] (aL Rt):=⟨rfl,rfl,rfl,by decide+kernel,rfl,by decide+kernel,by decide+kernel⟩
theorem Zcf(F:aM K "_law_turn" "_law_turn" Rt f fd)(mL:mg "list"=none)(mR:mg "range"=none)(mT:mg "tuple"=none):aG P w K mg base aN 1 f fd ["_law_code","_law_size"] Qc:=by
 refine F.ok vB (λvs H Q E h=>?_) (λaE A outer s H vs Q E hr h=>?_)
 ·obtain⟨c,n,rfl,_⟩:=h;rfl
 obtain⟨c,n,rfl,hn,q⟩:=h;refine⟨_,aj (bg (i:=2) vB.nd rfl (Or.inl rfl) (eG (BX rfl) rfl mL sM (aa (eG xG rfl mR sA (aa (pv 1) ae)) ae)))
  (aj (bg (i:=3) vB.nd rfl (Or.inl rfl) (vq ae))
  (aj (fT PassesOwn.never rfl (ow rfl mR (aa (pv 1) ae)) (bj (i:=4) vB.nd rfl (Or.inl rfl))
   (aj (cz (jO plainAttrs_list PySem.F.slot_list_append PySem.F.type_list_append uZ (pv 3) (aa (jO plainAttrs_list PySem.F.slot_list_pop PySem.F.type_list_pop ZaC (pv 2) (aa (a_ d7 (pv 0) (a_ yz (pv 1) (pv 4))) ae)) ae)))
   (aq (bg (i:=0) vB.nd rfl (Or.inl rfl) (a_ yg (pv 0) (a_ yz (pv 1) (pv 4)))))))
  (aq (aF (eG rM rfl mT lF (aa (pv 3) ae)))))),?_⟩
 refine⟨_,rfl,_,rfl,λr t8=>?_⟩;refine⟨r,n,rfl,aU,by omega,λu hu=>?_⟩;refine⟨(by show 0<=sizeLine;decide),λl hl=>?_⟩;have g1:ai H (upd H r (.iM 0 (n:Int))):=cq t8 _;have g2:=g1.trans (cq hu (.lst ((bp n).map V.int)));have g3:=g2.trans (cq hl (.lst []));have Io:u≠l:=ck aU hl;refine⟨_,rfl,(n:Int),rfl,by omega,by omega,D6 (lo:=0) (n:=n) (λi σ H2=>∃c o4 ds fs,σ=[some (.int c),some (.int (n:Int)),some (.ref u),some (.ref l),o4]/\ai H H2/\H2 u=some (.lst (fs.map V.int))/\H2 l=some (.lst (ds.map V.int))/\(ds++fs).Perm (bp n)/\ds.length=i)
  ⟨c,none,[],bp n,rfl,g3,by rw[aP Io];exact aU,aU,by rw[Tr],rfl⟩ ?_ ?_⟩
 ·rintro i σ H2 hi ⟨c,o4,ds,fs,rfl,s2,Ip,tY,pm,dl⟩;have pl:=pm.length_eq;rw[Yl,eF,dl] at pl;have yZ:(0:Int)<(n:Int)-(0+(i:Int)):=by omega
  have m0:=Jb c (HR yZ);have m1:=W0 c yZ;have hk:(c % ((n:Int)-(0+(i:Int)))).toNat<fs.length:=by omega
  refine⟨_,rfl,.inl ⟨rfl,_,ak.of tY⟩,_,rfl,.inl ⟨rfl,_,ak.of Ip⟩,_,rfl,_,rfl,_,rfl,_,_,rfl,rfl,_,_,rfl,rfl,yZ,u,_,_,_,.int fs[(c % ((n:Int)-(0+(i:Int)))).toNat],rfl,rfl,Ip,by omega,by omega,((Fb (FO m0 (by rw[Ya];omega))).1),by rw[Yg,Yc hk];rfl,?_⟩;refine⟨l,_,_,rfl,rfl,by rw[aP Io.symm];exact tY,(by rw[Ya];exact iV (by omega)),?_⟩;refine⟨_,rfl,_,rfl,_,rfl,_,_,rfl,rfl,_,_,rfl,rfl,⟨yZ,by omega⟩,?_⟩;refine⟨_,_,ds++[fs[(c % ((n:Int)-(0+(i:Int)))).toNat]],fs.eraseIdx (c % ((n:Int)-(0+(i:Int)))).toNat,rfl,λb o e=>?_,?_,?_,?_,?_⟩
  ·have nl:b≠l:=ck (g2 b o e) hl;have nu:b≠u:=ck (g1 b o e) hu;rw[aP nl,aP nu];exact s2 b o e
  ·rw[aP Io,aU,Mc]
  ·rw[aU,M4]
  ·refine List.Perm.trans ?_ pm;rw[Jj];refine List.Perm.append_left ds ?_;exact(LC fs _ hk).symm
  ·rw[Yl,List.length_singleton,dl]
 ·rintro σ H2 ⟨c,o4,ds,fs,rfl,s2,Ip,tY,pm,dl⟩;have pl:=pm.length_eq;rw[Yl,eF,dl] at pl;have e:fs=[]:=List.eq_nil_of_length_eq_zero (by omega);rw[e,Wf] at pm;refine⟨_,rfl,l,_,rfl,.inl ⟨ak.of tY,λt ht=>?_⟩⟩;exact q t ds _ (s2.free ht) (s2.trans (cq ht _)) aU pm
end
theorem Zcg{ds:List Int}{a b c d e:Int}(h:Paired Bd ds [a,b,c,d,e]):∃v w x y z,ds=[v,w,x,y,z]/\Bd v a/\Bd w b/\Bd x c/\Bd y d/\Bd z e:=by
 cases h with|cons h1 h=>cases h with|cons h2 h=>cases h with|cons h3 h=>cases h with|cons h4 h=>cases h with|cons h5 h=>
  cases h
  grind
theorem bu{q:St->Hp->Prop}{i:Nat}{x:V}{σ:St}{H:Hp}(h:q (σ.set i (some x)) H):vG i x σ H q:=h
theorem Qm{K:PySem.W.Frag}{H:Hp}{p:Addr}{xs:List V}{i:Nat}{x:V}{Q:VK}(hp:ak K H p xs\/ay K H p xs)(h:xs[i]?=some x)(q:Q x H):Ho K (.ref p) (.int (0+(i:Int))) H Q:=by
 rcases hp with hp|hp;·exact .inl ⟨p,_,_,_,rfl,rfl,hp,M8 h,q⟩
 ·exact .inr (.inl ⟨p,_,_,_,rfl,rfl,hp,M8 h,q⟩)
theorem x9(v:V):decide (v=v)=true:=decide_eq_true rfl
theorem all_true(n:Nat):(List.replicate n true).all id=true:=by
 induction n with
 |zero=>rfl
 |succ n ih=>rw[List.replicate_succ,Jc,ih];rfl
inductive Nn(m:Nat)(vs:List V)(H:Hp)(Q:VK):Prop
 |mk (x y:V) (d:Dt) (k:Nat) (aC:vs=[x,y]) (aV:m=k+1) (bc:At H k x d) (bO:At H k y d) (cG:∀H',ai H H'->Q (.bl true) H'):Nn m vs H Q
def qk(m:Nat):Sp:=λvs H Q _=>Nn m vs H Q
section
theorem XQ:aQ ["_law_found","_law_due"] ["_law_found","_law_due"] (aL xM):=⟨rfl,rfl,rfl,by decide+kernel,rfl,by decide+kernel,by decide+kernel⟩
theorem Za6{n:Nat}(F:aM K "_law_same" "_law_same" xM f fd)(pX:HasFn P w K mg base n "_law_same" ["_law_found","_law_due"] (qk n))(bl:Bl mg):aG P w K mg base aN (n+1) f fd ["_law_found","_law_due"] (qk (n+1)):=by
 refine F.ok XQ (λvs H Q E h=>?_) (λaE A outer s H vs Q E hr h=>?_)
 ·obtain⟨x,y,d,k,rfl,_⟩:=h;rfl
 obtain⟨x,y,d,k,rfl,ek,hx,hy,q⟩:=h;obtain rfl:k=n:=by omega
 have hu:=hr.qh;refine⟨_,(aj (aS (aZ FJ (pv 1) kA (aR _)) (aq (aF (dF FJ (pv 0) kA (aR _)))) aY) (aj (aS (eN (bJ (jK (K:=K) rfl) rfl bl.jG jF (aa (pv 1) (aa (jP rfl bl.yB yj) ae)))) (aq (aF (oG (bJ (jK (K:=K) rfl) rfl bl.jG jF (aa (pv 0) (aa (jP rfl bl.yB yj) ae))) (lL (dF cg (pv 0) (pv 1) (aR _)))))) aY) (aj (aS (eN (bJ (jK (K:=K) rfl) rfl bl.jG jF (aa (pv 1) (aa (jP rfl bl.Rj Qa) ae)))) (aq (aF (oG (bJ (jK (K:=K) rfl) rfl bl.jG jF (aa (pv 0) (aa (jP rfl bl.Rj Qa) ae))) (oG (ZcX (bJ (jK (K:=K) rfl) rfl bl.jG jF (aa (pv 0) (aa (jP rfl bl.yB yj) ae)))) (lL (dF cg (pv 0) (pv 1) (aR _))))))) aY) (aj (aS (eN (bJ (jK (K:=K) rfl) rfl bl.jG jF (aa (pv 1) (aa (jP rfl bl.vJ vy) ae)))) (aq (aF (oG (bJ (jK (K:=K) rfl) rfl bl.jG jF (aa (pv 0) (aa (jP rfl bl.vJ vy) ae))) (lL (dF cg (pv 0) (pv 1) (aR _)))))) aY) (aj (aS (PW.pt (pw_or (aZ kH (bJ (jK (K:=K) rfl) rfl bl.jG jF (aa (pv 1) (aa (jP rfl bl.sT sM) ae))) (bJ (jK (K:=K) rfl) rfl bl.jG jF (aa (pv 0) (aa (jP rfl bl.sT sM) ae))) (aR _)) (pw_or1 (aZ kH (bJ (jK (K:=K) rfl) rfl bl.jG jF (aa (pv 1) (aa (jP rfl bl.lJ lF) ae))) (bJ (jK (K:=K) rfl) rfl bl.jG jF (aa (pv 0) (aa (jP rfl bl.lJ lF) ae))) (aR _))))) (aq (aF i_)) aY) (aj (aS (aZ kH (bJ (c5 (K:=K) rfl) rfl bl.cQ cP (aa (pv 0) ae)) (bJ (c5 (K:=K) rfl) rfl bl.cQ cP (aa (pv 1) ae)) (aR _)) (aq (aF i_)) aY) (aq (aF (bJ (R7 (K:=K) rfl rfl) rfl bl.Ri P_ (aa (iH (x:="_law_k") (fr:=[("_law_found",0),("_law_due",1)]) (cl:=[("_law_found",s.heap.objs.size+1),("_law_due",s.heap.objs.size+1+1)]) rfl ⟨by with_unfolding_all rfl,⟨rfl,⟨rfl,trivial⟩⟩,rfl,by decide+kernel,rfl,by decide+kernel,rfl,⟨⟨rfl,.inl rfl,.inl rfl,rfl⟩,⟨⟨rfl,.inl rfl,.inl rfl,rfl⟩,trivial⟩⟩,by decide+kernel⟩ (ow rfl bl.iY (aa (bJ (c5 (K:=K) rfl) rfl bl.cQ cP (aa (pv 1) ae)) ae)) (λ_ _ _ _=>lH) (λ_ _ _ _=>(aT pX hr (by omega) rfl (aa (a9 (Oz (K:=K) rfl) (pv 1) (pv 0) (λ_ _=>rfl)) (aa (a9 (Oz (K:=K) rfl) (pv 2) (pv 0) (λ_ _=>rfl)) ae))))) ae)))))))))),?_⟩;have sq:(∃(p r:Addr) (xs ys:List V) (ds:List Dt) (t:Value) (b1 b2:Bool) (m:Nat),x=.ref p/\y=.ref r/\iu K H (.ref p) t/\iu K H (.ref r) t/\kitOne K t (.type "bool")=some false/\kitOne K t (.type "int")=some false/\kitOne K t (.type "str")=some false/\
   kitOne K t (.type "list")=some b1/\kitOne K t (.type "tuple")=some b2/\(ak K H p xs\/ay K H p xs)/\(ak K H r ys\/ay K H r ys)/\ds.length<=1000/\Paired (At H m) xs ds/\Paired (At H m) ys ds/\k=m+1)\/
   (x=.aA/\y=.aA)\/(∃b,x=.bl b/\y=.bl b)\/(∃i,x=.int i/\y=.int i)\/∃z,x=.str z/\y=.str z:=by
  cases d with
  |aA=>unfold At at hx hy;exact .inr (.inl ⟨hx,hy⟩)
  |bl b=>unfold At at hx hy;exact .inr (.inr (.inl ⟨b,hx,hy⟩))
  |int i=>unfold At at hx hy;exact .inr (.inr (.inr (.inl ⟨i,hx,hy⟩)))
  |str z=>unfold At at hx hy;exact .inr (.inr (.inr (.inr ⟨z,hx,hy⟩)))
  |lst ds=>
   cases k with
   |zero=>unfold At at hx;exact hx.elim
   |succ m=>
    unfold At at hx hy;obtain⟨a,xs,e0,e1,lz,p1⟩:=hx;obtain⟨b,ys,Iq,e2,_,p2⟩:=hy;exact .inl ⟨a,b,xs,ys,ds,.type "list",true,false,m,e0,Iq,.lst e1,.lst e2,Zdh,Zdi,Zdj,Zdk,Zdl,.inl (ak.of e1),.inl (ak.of e2),lz,p1,p2,rfl⟩
  |tup ds=>
   cases k with
   |zero=>unfold At at hx;exact hx.elim
   |succ m=>
    unfold At at hx hy;obtain⟨a,xs,e0,e1,lz,p1⟩:=hx;obtain⟨b,ys,Iq,e2,_,p2⟩:=hy;exact .inl ⟨a,b,xs,ys,ds,.type "tuple",false,true,m,e0,Iq,.tup e1,.tup e2,Zdm,Zdn,Zdo,Zdp,Zdq,.inr (ay.of e1),.inr (ay.of e2),lz,p1,p2,rfl⟩
 clear hx hy;rcases sq with⟨p,r,xs,ys,ds,t,b1,b2,m,rfl,rfl,T1,T2,kb,ki,ksr,kl,kt,hp,hq,hz,p1,p2,ek⟩|⟨rfl,rfl⟩|⟨b,rfl,rfl⟩|⟨i,rfl,rfl⟩|⟨z,rfl,rfl⟩
 ·have l1:=cU p1;have l2:=cU p2;refine⟨_,rfl,rfl,_,rfl,?_⟩;refine bC (λc=>absurd (of_decide_eq_true c) (λz=>nomatch z)) (λ_=>aX ?_);refine⟨_,rfl,_,_,_,false,rfl,T2,kb,_,rfl,bY (aX ?_)⟩;refine⟨_,rfl,_,_,_,false,rfl,T2,ki,_,rfl,bY (aX ?_)⟩;refine⟨_,rfl,_,_,_,false,rfl,T2,ksr,_,rfl,bY (aX ?_)⟩;refine⟨_,rfl,_,_,_,b1,rfl,T2,kl,_,rfl,_,_,_,b1,rfl,T1,kl,rfl,_,rfl,s_ rfl ?_⟩;refine⟨_,rfl,_,_,_,b2,rfl,T2,kt,_,rfl,_,_,_,b2,rfl,T1,kt,rfl,_,rfl,s_ rfl (aX ?_)⟩;refine⟨_,rfl,p,_,rfl,hp,_,rfl,r,_,rfl,hq,rfl,_,rfl,s_ (by rw[l1,l2]) (aX ?_)⟩;refine⟨_,rfl,r,_,rfl,hq,_,rfl,by omega,by omega,λD hD=>uV (lo:=0) (n:=((ys.length:Nat):Int).toNat)
   (λi zs H1=>ai H H1/\H1 D=some (.lst zs)/\zs=(List.replicate i true).map V.bl) ⟨cq hD _,aU,rfl⟩ ?_ ?_⟩
  ·rintro i zs H1 hi ⟨g,h1,rfl⟩;rw[Y6] at hi;have sq:∀{a:Addr} {us:List V},(ak K H a us\/ay K H a us)->(ak K H1 a us\/ay K H1 a us):=λ{a us} z=>by
    rcases z with z|z;·exact .inl (g.seq z)
    ·exact .inr (g.iD z)
   have gx:xs[i]?=some xs[i]:=Yc (by omega);have gy:ys[i]?=some ys[i]:=Yc (by omega);obtain⟨d1,e1,a1⟩:=fQ p1 gx;obtain⟨d2,e2,a2⟩:=fQ p2 gy;rw[e1] at e2;cases e2;refine kP (cV ?_);refine⟨_,rfl,_,rfl,Qm (sq hp) gx ?_⟩;refine⟨_,rfl,_,rfl,Qm (sq hq) gy ?_⟩;refine⟨_,_,d1,m,rfl,ek,a1.same g,a2.same g,λH2 g2=>?_⟩;refine⟨g2 _ _ h1,by rw[Ya,Wz];exact iV (by omega),λb o e=>?_,aU,?_⟩
   ·rw[aP (ck e hD)];exact g2 b o (g b o e)
   ·rw[List.replicate_succ',Ym];rfl
  ·rintro zs H1 ⟨g,h1,e⟩;refine⟨D,_,rfl,ak.of (by rw[h1,e]),?_⟩;rw[all_true];exact q H1 g
 ·refine⟨_,rfl,rfl,_,rfl,?_⟩;refine bC (λc=>?_) (λc=>absurd (x9 _) c);exact⟨_,rfl,rfl,q H (ai.refl H)⟩
 ·refine⟨_,rfl,rfl,_,rfl,?_⟩;refine bC (λc=>absurd (of_decide_eq_true c) (λz=>nomatch z)) (λ_=>aX ?_);refine⟨_,rfl,_,_,_,true,rfl,.bl b,Qe,_,rfl,cV ?_⟩;refine⟨_,rfl,_,_,_,true,rfl,.bl b,Qe,_,rfl,cV ?_⟩;refine⟨_,rfl,_,rfl,rfl,?_⟩;rw[x9];exact q H (ai.refl H)
 ·refine⟨_,rfl,rfl,_,rfl,?_⟩;refine bC (λc=>absurd (of_decide_eq_true c) (λz=>nomatch z)) (λ_=>aX ?_);refine⟨_,rfl,_,_,_,false,rfl,.int i,FP,_,rfl,bY (aX ?_)⟩;refine⟨_,rfl,_,_,_,true,rfl,.int i,Qd,_,rfl,cV ?_⟩;refine⟨_,rfl,_,_,_,true,rfl,.int i,Qd,_,rfl,cV ?_⟩;refine⟨_,rfl,_,_,_,false,rfl,.int i,FP,_,rfl,_,rfl,cV ?_⟩;refine⟨_,rfl,_,rfl,rfl,?_⟩;rw[x9];exact q H (ai.refl H)
 ·refine⟨_,rfl,rfl,_,rfl,?_⟩;refine bC (λc=>absurd (of_decide_eq_true c) (λz=>nomatch z)) (λ_=>aX ?_);refine⟨_,rfl,_,_,_,false,rfl,.str z,Zdf,_,rfl,bY (aX ?_)⟩;refine⟨_,rfl,_,_,_,false,rfl,.str z,Zdg,_,rfl,bY (aX ?_)⟩;refine⟨_,rfl,_,_,_,true,rfl,.str z,Qf,_,rfl,cV ?_⟩;refine⟨_,rfl,_,_,_,true,rfl,.str z,Qf,_,rfl,cV ?_⟩;refine⟨_,rfl,_,rfl,rfl,?_⟩;rw[x9];exact q H (ai.refl H)
theorem same_none:aG P w K mg base aN 0 f fd ["_law_found","_law_due"] (qk 0):=by
 have no:∀vs H Q E,¬qk 0 vs H Q E:=λvs H Q E h=>by
  obtain⟨_,_,_,_,_,z,_⟩:=h;omega
 exact⟨λvs H Q E h=>absurd h (no vs H Q E),λA outer s H args us vs Q E _ _ _ _ h=>absurd h (no vs H Q E)⟩
theorem OM(F:aM K "_law_same" "_law_same" xM f fd)(bS:Binds K fd ["_law_found","_law_due"] [])(kS:keepIn K (.ref f)=true)(m:mg "_law_same"=some (.ref f))(bl:Bl mg):
  ∀n:Nat,aG P w K mg base aN n f fd ["_law_found","_law_due"] (qk n)
 |0=>same_none
 |n+1=>Za6 F ⟨f,fd,OM F bS kS m bl n,bS,kS,m⟩ bl
end
inductive Qn(K:PySem.W.Frag)(vs:List V)(H:Hp)(Q:VK):Prop
 |mk (p:Addr) (ns:List Int) (aC:vs=[.ref p]) (aV:Row K H p ns) (bc:ns.length<64) (bO:∀H',ai H H'->Q (.bl (full ns)) H'):Qn K vs H Q
def GZ(K:PySem.W.Frag):Sp:=λvs H Q _=>Qn K vs H Q
def bH(ys xs:List Int):List Int:=xs.map λx=>ys.getD x.toNat 0
theorem oF{ys:List Int}(h:full ys=true){x:Int}(hx:x∈ys):0<=x/\x<ys.length:=by
 have hm:=(oy h).subset hx;unfold bp at hm;obtain⟨i,hi,rfl⟩:=Yf.mp hm;have:=Wh.mp hi;omega
section
variable {c:Addr}
theorem Y_:aQ ["row"] ["row"] (aL Eb):=⟨rfl,rfl,rfl,by decide+kernel,rfl,by decide+kernel,by decide+kernel⟩
theorem Za(F:aM K "is_turn" "is_turn" Eb f fd)(bl:Bl mg):aG P w K mg base aN 1 f fd ["row"] (GZ K):=by
 refine F.ok Y_ (λvs H Q E h=>?_) (λaE A outer s H vs Q E hr h=>?_)
 ·obtain⟨p,ns,rfl,_⟩:=h;rfl
 obtain⟨p,ns,rfl,hR,iC,q⟩:=h;have hu:=hr.qh;refine⟨_,(aj (aS (eN (bJ (Zff (K:=K) rfl rfl) rfl bl.Zep Zdc (aa (iH (x:="number") (fr:=[]) (cl:=[]) rfl ⟨by with_unfolding_all rfl,trivial,rfl,by decide+kernel,rfl,by decide+kernel,rfl,trivial,by decide+kernel⟩ (Zda (pv 0)) (λ_ _ _ _=>lH) (λ_ _ _ _=>(bJ (jK (K:=K) rfl) rfl bl.jG jF (aa (pv 0) (aa (jP rfl bl.yB yj) ae))))) ae))) (aq (aF i_)) aY) (aq (aF (dF (P8 hu) (bJ (sortedK (K:=K) rfl) rfl bl.EE D9 (aa (pv 0) ae)) (eG (BX rfl) rfl bl.sT sM (aa (eG xG rfl bl.iY sA (aa (bJ (c5 (K:=K) rfl) rfl bl.cQ cP (aa (pv 0) ae)) ae)) ae)) (aR _))))),?_⟩;have hl:(ns.map V.int).length=ns.length:=Ya _;have rest:∀(D:Addr) (H1:Hp),ai H H1->H1 D=some (.lst ((List.replicate ns.length false).map V.bl))->
   ∃(Ts:Addr) (bs:List Bool),[V.ref D]=[V.ref Ts]/\ak K H1 Ts (bs.map V.bl)/\tB (tC (V.bl (bs.any id))) [] H1 (λc H2=>if c=true then Q (.bl false) H2 else
    (Rk K false (gv 0)) [some (.ref p)] H2 Q):=λD H1 g1 h1=>by
  refine⟨D,_,rfl,ak.of h1,_,rfl,?_⟩;rw[any_false];refine bY ?_;exact ZaH rfl (Row.same g1 hR) iC λH' g=>q H' (g1.trans g)
 have turn:∀(D:Addr),H D=none->∀(i:Nat) (v:V) (ys:List V) (H1:Hp),(ns.map V.int)[i]?=some v->(ai H H1/\H1 D=some (.lst ys)/\ys=(List.replicate i false).map V.bl)->
   ph (GV K) (ig (gv 0) (ig (tC (V.ty "bool")) je)) [some v] H1 λy H3=>H3 D=some (.lst ys)/\ys.length<sizeLine/\
    (ai H (upd H3 D (.lst (ys++[y])))/\upd H3 D (.lst (ys++[y])) D=some (.lst (ys++[y]))/\ys++[y]=(List.replicate (i+1) false).map V.bl):=λD hD i v ys H1 hi ⟨g,h1,e⟩=>by
  obtain⟨z,rfl,hz⟩:=lI hi;have dC:i<ns.length:=(Yh.mp hz).1;refine⟨_,rfl,_,_,_,false,rfl,.int z,FP,h1,?_,λb o q=>?_,aU,?_⟩
  ·rw[e,Ya,Wz];exact iV (by omega)
  ·rw[aP (ck q hD)];exact g b o q
  ·rw[e,List.replicate_succ',Ym];rfl
 refine⟨_,rfl,p,rfl,?_⟩;rcases hR with wL|wL
 ·refine .inl ⟨⟨_,wL⟩,λD hD=>D8 (xs:=ns.map V.int) (λi ys H1=>ai H H1/\H1 D=some (.lst ys)/\ys=(List.replicate i false).map V.bl) ⟨cq hD _,aU,rfl⟩ (λi ys H1 _ ⟨g,_,_⟩=>g.seq wL) (λi v ys H1 hi h=>kP (cV (turn D hD i v ys H1 hi h))) ?_⟩;rintro ys H1 ⟨g,h1,e⟩;exact rest D H1 g (by rw[h1,e,hl])
 ·refine .inr ⟨⟨_,wL⟩,λD hD=>x8 (xs:=ns.map V.int) (λi ys H1=>ai H H1/\H1 D=some (.lst ys)/\ys=(List.replicate i false).map V.bl) ⟨cq hD _,aU,rfl⟩ (λi ys H1 _ ⟨g,_,_⟩=>g.iD wL) (λi v ys H1 hi h=>kP (cV (turn D hD i v ys H1 hi h))) ?_⟩;rintro ys H1 ⟨g,h1,e⟩;exact rest D H1 g (by rw[h1,e,hl])
end
inductive ON(K:PySem.W.Frag)(vs:List V)(H:Hp)(Q:VK):Prop
 |mk (a b:Addr) (xs ys:List Int) (aC:vs=[.ref a,.ref b]) (aV:ay K H a (xs.map V.int)) (bc:ay K H b (ys.map V.int)) (bO:(∀x∈xs,0<=x/\x<ys.length)) (cG:xs.length<64) (dH:∀(t:Addr) (H':Hp),H t=none->ai H H'->H' t=some (.tup ((bH ys xs).map V.int))->Q (.ref t) H'):ON K vs H Q
def Gk(K:PySem.W.Frag):Sp:=λvs H Q _=>ON K vs H Q
section
theorem XR:aQ ["first","then"] ["first","then"] (aL DB):=⟨rfl,rfl,rfl,by decide+kernel,rfl,by decide+kernel,by decide+kernel⟩
theorem XS(F:aM K "followed" "followed" DB f fd)(bl:Bl mg):aG P w K mg base aN 1 f fd ["first","then"] (Gk K):=by
 refine F.ok XR (λvs H Q E h=>?_) (λaE A outer s H vs Q E hr h=>?_)
 ·obtain⟨a,b,xs,ys,rfl,_⟩:=h;rfl
 obtain⟨a,b,xs,ys,rfl,hA,hB,pA,hl,q⟩:=h;have al:(bH ys xs).length=xs.length:=by unfold bH;rw[Ya]
 refine⟨_,(aq (aF (eG (rM) rfl bl.lJ lF (aa (iH (x:="section") (fr:=[("then",1)]) (cl:=[("then",s.heap.objs.size+1)]) rfl ⟨by with_unfolding_all rfl,⟨rfl,trivial⟩,rfl,by decide+kernel,rfl,by decide+kernel,rfl,⟨⟨rfl,.inl rfl,.inl rfl,rfl⟩,trivial⟩,by decide+kernel⟩ (FI (pv 0)) (λ_ _ _ _=>lH) (λ_ _ _ _=>(a9 (eI (K:=K) rfl) (pv 1) (pv 0) (λ_ _=>rfl)))) ae)))),?_⟩;refine⟨_,rfl,a,rfl,⟨_,hA⟩,λD hD=>x8 (xs:=xs.map V.int) (λi zs H3=>ai H H3/\H3 D=some (.lst zs)/\zs=((bH ys xs).take i).map V.int) ⟨cq hD _,aU,rfl⟩ (λi zs H3 _ ⟨g3,_,_⟩=>g3.iD hA) ?_ ?_⟩
 ·rintro i v zs H3 hi ⟨g3,h3,e3⟩;obtain⟨z,rfl,hz⟩:=lI hi;have bz:=pA z (Ye hz);refine kP (cV ⟨_,rfl,_,rfl,b,_,_,_,rfl,rfl,g3.iD hB,lN bz.1 bz.2,h3,?_,λd o qd=>?_,aU,?_⟩)
  ·rw[e3,Ya,Wa,al];exact iV (by omega)
  ·rw[aP (ck qd hD)];exact g3 d o qd
  ·rw[e3,Yy,D_];unfold bH;rw[Yg,hz];rfl
 ·rintro zs H3 ⟨g3,h3,e3⟩;refine⟨D,_,rfl,.inl ⟨ak.of h3,λt ht=>q t _ (g3.free ht) (g3.trans (cq ht _)) ?_⟩⟩;show upd H3 t (.tup zs) t=_;rw[aU,e3,Ya,Ws (by rw[al];omega)]
end
def jg(x:Int):List Int->Nat
 |[]=>0
 |y::r=>if y=x then 0 else jg x r+1
theorem x_{x:Int}:∀{l:List Int},x∈l->l[jg x l]?=some x/\∀m,m<jg x l->l[m]?≠some x
 |[],h=>by cases h
 |y::r,h=>by
  unfold jg;by_cases e:y=x;·grind
  ·rw[if_neg e];obtain⟨h1,h2⟩:=x_ ((Yp.mp h).resolve_left λz=>e z.symm);refine⟨by rw[List.getElem?_cons_succ];exact h1,λm hm=>?_⟩;cases m with
   |zero=>grind
   |succ m=>grind
theorem xV{l:List Int}(nd:l.Nodup){k:Nat}{x:Int}(h:l[k]?=some x):jg x l=k:=by
 obtain⟨h1,h2⟩:=x_ (Ye h);exact(List.getElem?_inj (by rcases Yh.mp h1 with⟨z,_⟩;exact z) nd).mp (h1.trans h.symm)
def inv(xs:List Int):List Int:=(bp xs.length).map λi=>(jg i xs:Int)
theorem eZ(xs:List Int):(inv xs).length=xs.length:=by unfold inv;rw[Ya,eF]
theorem yr{xs:List Int}{i:Nat}(h:i<xs.length):(inv xs)[i]?=some (jg (i:Int) xs:Int):=by
 unfold inv;rw[Yg,kr h];rfl
theorem xN{xs:List Int}(h:full xs=true):xs.Nodup:=(oy h).nodup_iff.mpr (zw.Dy _)
theorem Np{xs:List Int}(h:full xs=true){i:Nat}(hi:i<xs.length):(i:Int)∈xs:=(oy h).symm.subset (Ye (kr hi))
theorem iX{xs:List Int}(h:full xs=true):full (inv xs)=true:=by
 have p:(xs.map λi=>(jg i xs:Int)).Perm (inv xs):=(oy h).map _;have e:xs.map (λi=>(jg i xs:Int))=bp xs.length:=by
  refine Wv λi=>?_;rw[Yg];by_cases hi:i<xs.length
  ·rw[kr hi,Yc hi];show some (jg xs[i] xs:Int)=some (i:Int);rw[xV (xN h) (Yc hi)]
  ·rw[Y5 (by omega),Y5 (by rw[eF];omega)];rfl
 rw[e] at p;exact p_ p.symm
theorem inv_inv{xs:List Int}(h:full xs=true):inv (inv xs)=xs:=by
 refine Wv λi=>?_;by_cases hi:i<xs.length
 ·rw[yr (by rw[eZ];exact hi),Yc hi];have b:=oF h (Jm hi);have hk:(xs[i]).toNat<xs.length:=by omega
  have e:((xs[i].toNat:Nat):Int)=xs[i]:=by omega
  have g:(inv xs)[(xs[i]).toNat]?=some (i:Int):=by rw[yr hk,e,xV (xN h) (Yc hi)]
  rw[xV (xN (iX h)) g,e]
 ·rw[Y5 (by rw[eZ,eZ];omega),Y5 (by omega)]
theorem Nq{xs:List Int}{i:Nat}(hi:i<xs.length):(inv xs).take (i+1)=(inv xs).take i++[(jg (i:Int) xs:Int)]:=by
 rw[Yy,yr hi];rfl
inductive Qo(vs:List V)(H:Hp)(Q:VK):Prop
 |mk (a:Addr) (xs:List Int) (aC:vs=[.ref a]) (aV:H a=some (.tup (xs.map V.int))) (bc:xs.length<64) (bO:full xs=true) (cG:∀(t:Addr) (H':Hp),H t=none->ai H H'->H' t=some (.tup ((inv xs).map V.int))->Q (.ref t) H'):Qo vs H Q
def y6:Sp:=λvs H Q _=>Qo vs H Q
section
theorem VW:aQ ["turn"] ["turn"] (aL BZ):=⟨rfl,rfl,rfl,by decide+kernel,rfl,by decide+kernel,by decide+kernel⟩
theorem VX(F:aM K "turned_back" "turned_back" BZ f fd)(bl:Bl mg):aG P w K mg base aN 1 f fd ["turn"] y6:=by
 refine F.ok VW (λvs H Q E h=>?_) (λaE A outer s H1 vs Q E hr h=>?_)
 ·obtain⟨a,xs,rfl,_⟩:=h;rfl
 obtain⟨a,xs,rfl,hA,lx,fx,q⟩:=h;refine⟨_,(aq (aF (eG (rM) rfl bl.lJ lF (aa (iH (x:="section") (fr:=[("turn",0)]) (cl:=[("turn",s.heap.objs.size+1)]) rfl ⟨by with_unfolding_all rfl,⟨rfl,trivial⟩,rfl,by decide+kernel,rfl,by decide+kernel,rfl,⟨⟨rfl,.inl rfl,.inl rfl,rfl⟩,trivial⟩,by decide+kernel⟩ (ow rfl bl.iY (aa (bJ (c5 (K:=K) rfl) rfl bl.cQ cP (aa (pv 0) ae)) ae)) (λ_ _ _ _=>lH) (λ_ _ _ _=>(Li (pv 1) (aa (pv 0) ae)))) ae)))),?_⟩;have el:(xs.map V.int).length=xs.length:=Ya _;refine⟨_,rfl,a,_,rfl,.inr (ay.of hA),_,rfl,by rw[el];omega,by rw[el];omega,λD hD=>uV (lo:=0) (n:=(((xs.map V.int).length:Nat):Int).toNat)
   (λi zs H2=>ai H1 H2/\H2 D=some (.lst zs)/\zs=((inv xs).take i).map V.int) ⟨cq hD _,aU,rfl⟩ ?_ ?_⟩
 ·rintro i zs H2 hi ⟨g2,h2,e2⟩;rw[Y6,el] at hi;rw[J7];have hx:=x_ (Np fx hi);have wM:=g2 _ _ hA;refine kP (cV ⟨_,rfl,a,xs,rfl,wM,_,rfl,(i:Int),jg (i:Int) xs,rfl,wM,hx.1,hx.2,h2,?_,λd o qd=>?_,aU,?_⟩)
  ·rw[e2,Ya,Wa,eZ];exact iV (by omega)
  ·rw[aP (ck qd hD)];exact g2 d o qd
  ·rw[e2,Nq hi,Ym];rfl
 ·rintro zs H2 ⟨g2,h2,e2⟩;refine⟨D,_,rfl,.inl ⟨ak.of h2,λt ht=>q t _ (g2.free ht) (g2.trans (cq ht _)) ?_⟩⟩;rw[aU,e2,Y6,el,Ws (by rw[eZ];omega)]
end
inductive Ms(vs:List V)(H:Hp)(Q:VK):Prop
 |mk (n:Nat) (aC:vs=[.int (n:Int)]) (aV:n<=1000) (bc:∀(t:Addr) (H':Hp),H t=none->ai H H'->H' t=some (.tup ((bp n).map V.int))->Q (.ref t) H'):Ms vs H Q
def Fi:Sp:=λvs H Q _=>Ms vs H Q
section
variable {c:Addr}
theorem Za7:aQ ["size"] ["size"] (aL Fh):=⟨rfl,rfl,rfl,by decide+kernel,rfl,by decide+kernel,by decide+kernel⟩
theorem Za8(F:aM K "still" "still" Fh f fd)(bl:Bl mg):aG P w K mg base aN 1 f fd ["size"] Fi:=by
 refine F.ok Za7 (λvs H Q E h=>?_) (λaE A outer s H vs Q E hr h=>?_)
 ·obtain⟨n,rfl,_⟩:=h;rfl
 obtain⟨n,rfl,hn,q⟩:=h;refine⟨_,(aq (aF (eG (K5 rfl) rfl bl.lJ lF (aa (eG xG rfl bl.iY sA (aa (pv 0) ae)) ae)))),?_⟩;exact⟨_,rfl,_,rfl,λr t8=>⟨r,n,rfl,aU,hn,λt ht=>q t _ ((cq t8 _).free ht) ((cq t8 _).trans (cq ht _)) aU⟩⟩
end
inductive OO(K:PySem.W.Frag)(vs:List V)(H:Hp)(Q:VK):Prop
 |mk (p:Addr) (ns:List Int) (aC:vs=[.ref p]) (aV:ay K H p (ns.map V.int)) (bc:ns.length<64) (bO:full ns=true) (cG:∀H',ai H H'->Q .aA H'):OO K vs H Q
def Gm(K:PySem.W.Frag):Sp:=λvs H Q _=>OO K vs H Q
inductive Qp(K:PySem.W.Frag)(vs:List V)(H:Hp)(Q:VK):Prop
 |mk (a b:Addr) (xs ys:List Int) (aC:vs=[.ref a,.ref b]) (aV:ay K H a (xs.map V.int)) (bc:ay K H b (ys.map V.int)) (bO:xs.length<64) (cG:full xs=true) (dH:full ys=true) (gc:xs.length=ys.length) (g_:∀(t:Addr) (H':Hp),H t=none->ai H H'->H' t=some (.tup ((bH ys xs).map V.int))->Q (.ref t) H'):Qp K vs H Q
def G0(K:PySem.W.Frag):Sp:=λvs H Q _=>Qp K vs H Q
inductive Qq(vs:List V)(H:Hp)(Q:VK):Prop
 |mk (a:Addr) (xs:List Int) (aC:vs=[.ref a]) (aV:H a=some (.tup (xs.map V.int))) (bc:xs.length<64) (bO:full xs=true) (cG:∀(t:Addr) (H':Hp),H t=none->ai H H'->H' t=some (.tup ((inv xs).map V.int))->Q (.ref t) H'):Qq vs H Q
def Sh:Sp:=λvs H Q _=>Qq vs H Q
inductive Nr(K:PySem.W.Frag)(vs:List V)(H:Hp)(Q:VK):Prop
 |mk (l a0:Addr) (as:List Addr) (n:Nat) (aC:vs=[.ref l]) (aV:ak K H l ((a0::as).map V.ref)) (bc:2<=n) (bO:n<=8) (cG:(∀a∈a0::as,∃xs:List Int,ay K H a (xs.map V.int)/\xs.length=n/\full xs=true)) (dH:∀H',ai H H'->Q .aA H'):Nr K vs H Q
def FW(K:PySem.W.Frag):Sp:=λvs H Q _=>Nr K vs H Q
inductive Lm(K:PySem.W.Frag)(vs:List V)(H:Hp)(Q:VK):Prop
 |mk (m f w:Addr) (xs ys:List Int) (aC:vs=[.ref m,.ref f,.ref w]) (aV:ay K H m (xs.map V.int)) (bc:ay K H f ((bH xs ys).map V.int)) (bO:ay K H w (ys.map V.int)) (cG:full xs=true) (dH:full ys=true) (gc:xs.length=ys.length) (g_:xs.length<=8) (nT:∀H',ai H H'->Q .aA H'):Lm K vs H Q
def Mt(K:PySem.W.Frag):Sp:=λvs H Q _=>Lm K vs H Q
theorem pY(xs ys:List Int):(bH xs ys).length=ys.length:=by unfold bH;rw[Ya]
theorem EK{xs ys:List Int}(fx:full xs=true)(fy:full ys=true)(e:xs.length=ys.length):full (bH xs ys)=true:=by
 have p1:(bH xs ys).Perm ((bp ys.length).map λx=>xs.getD x.toNat 0):=(oy fy).map _;have e2:((bp ys.length).map λx=>xs.getD x.toNat 0)=xs:=by
  refine Wv λi=>?_;rw[Yg];by_cases hi:i<ys.length
  ·rw[kr hi]
   grind
  ·rw[Y5 (by rw[eF];omega),Y5 (by omega)];rfl
 rw[e2] at p1;exact p_ (p1.trans (oy fx))
abbrev ZeF(n:Nat)(m f w d:Addr):List (Str×V):=[("size",.int (n:Int)),("mother",.ref m),("father",.ref f),("wife",.ref w),("steps",.ref d)]
abbrev vC(m f w im jf iw st:Addr):List (Key×V):=[(.inr "c",.ref m),(.inr "k",.ref f),(.inr "w",.ref w),(.inr "m",.ref im),(.inr "f",.ref jf),(.inr "h",.ref iw),(.inr "s",.ref st)]
def bR(H:Hp)(a:Addr)(ns:List Int):Prop:=H a=some (.tup (ns.map V.int))
inductive Nt(H:Hp)(C L:Addr)(xs ys:List Int):Prop
 |mk (dx d m f w im jf iw st:Addr) (aC:H L=some (.ins C dx (ZeF xs.length m f w d))) (aV:H d=some (.dK (vC m f w im jf iw st))) (bc:bR H m xs) (bO:bR H f (bH xs ys)) (cG:bR H w ys) (dH:bR H im (inv xs)) (gc:bR H jf (inv (bH xs ys))) (g_:bR H iw (inv ys)) (nT:bR H st (bp xs.length)):Nt H C L xs ys
def gS(H:Hp)(C L:Addr)(xs ys:List Int):Prop:=Nt H C L xs ys
theorem gS.same{H H':Hp}{C L:Addr}{xs ys:List Int}(g:ai H H')(h:gS H C L xs ys):gS H' C L xs ys:=by
 obtain⟨dx,d,m,f,w,im,jf,iw,st,h1,h2,h3,h4,h5,h6,h7,h8,h9⟩:=h;exact⟨dx,d,m,f,w,im,jf,iw,st,g _ _ h1,g _ _ h2,g _ _ h3,g _ _ h4,g _ _ h5,g _ _ h6,g _ _ h7,g _ _ h8,g _ _ h9⟩
inductive Nu(C:Addr)(vs:List V)(H:Hp)(Q:VK):Prop
 |mk (x dx m f w:Addr) (xs ys:List Int) (aC:vs=[.ref x,.ref m,.ref f,.ref w]) (aV:H x=some (.ins C dx [])) (bc:bR H m xs) (bO:bR H f (bH xs ys)) (cG:bR H w ys) (dH:full xs=true) (gc:full ys=true) (g_:xs.length=ys.length) (nT:2<=xs.length) (t4:xs.length<=8) (G1:∀H',(∀b o,H b=some o->b≠x->H' b=some o)->gS H' C x xs ys->Q .aA H'):Nu C vs H Q
def Qr(C:Addr):Sp:=λvs H Q _=>Nu C vs H Q
inductive LQ(C:Addr)(vs:List V)(H:Hp)(Q:VK):Prop
 |mk (m w:Addr) (xs ys:List Int) (aC:vs=[.ref m,.ref w]) (aV:bR H m xs) (bc:bR H w ys) (bO:full xs=true) (cG:full ys=true) (dH:xs.length=ys.length) (gc:2<=xs.length) (g_:xs.length<=8) (nT:∀(L:Addr) (H':Hp),ai H H'->gS H' C L xs ys->Q (.ref L) H'):LQ C vs H Q
def Nv(C:Addr):Sp:=λvs H Q _=>LQ C vs H Q
structure tE(K:PySem.W.Frag)(C:Addr):Prop where
 cls:fL K C
 ql:dw K C "size"
 Za9:dw K C "mother"
 Za_:dw K C "father"
 ZdU:dw K C "wife"
 Fj:dw K C "steps"
section
variable {c:Addr}
theorem WB:aQ ["row"] ["row"] (aL Cq):=⟨rfl,rfl,rfl,by decide+kernel,rfl,by decide+kernel,by decide+kernel⟩
theorem ZdV(F:aM K "check_turn" "check_turn" Cq f fd)(sh:HasFn P w K mg base 1 "is_turn" ["row"] (GZ K)):aG P w K mg base aN 2 f fd ["row"] (Gm K):=by
 refine F.ok WB (λvs H Q E h=>?_) (λaE A outer s H vs Q E hr h=>?_)
 ·obtain⟨p,ns,rfl,_⟩:=h;rfl
 obtain⟨p,ns,rfl,hT,iC,fl,q⟩:=h;refine⟨_,(aq (aS (i8 (eN (aT sh hr (by omega) rfl (aa (pv 0) ae)))) fH aY)),?_⟩;refine⟨_,rfl,p,ns,rfl,.inr hT,iC,λH1 g=>⟨_,rfl,?_⟩⟩;rw[fl];exact bY (q H1 g)
theorem Zaa:aQ ["first","then"] ["first","then"] (aL EH):=⟨rfl,rfl,rfl,by decide+kernel,rfl,by decide+kernel,by decide+kernel⟩
theorem ZeG(F:aM K "behind" "behind" EH f fd)(pS:HasFn P w K mg base 2 "check_turn" ["row"] (Gm K))(ou:HasFn P w K mg base 1 "followed" ["first","then"] (Gk K))(bl:Bl mg):aG P w K mg base aN 3 f fd ["first","then"] (G0 K):=by
 refine F.ok Zaa (λvs H Q E h=>?_) (λaE A outer s H vs Q E hr h=>?_)
 ·obtain⟨a,b,xs,ys,rfl,_⟩:=h;rfl
 obtain⟨a,b,xs,ys,rfl,hA,hB,lx,fx,fy,eq,q⟩:=h;refine⟨_,(aj (cz (aT pS hr (by omega) rfl (aa (pv 0) ae))) (aj (cz (aT pS hr (by omega) rfl (aa (pv 1) ae))) (aj (aS (aZ kH (bJ (c5 (K:=K) rfl) rfl bl.cQ cP (aa (pv 0) ae)) (bJ (c5 (K:=K) rfl) rfl bl.cQ cP (aa (pv 1) ae)) (aR _)) fH aY) (aq (aF (aT ou hr (by omega) rfl (aa (pv 0) (aa (pv 1) ae)))))))),?_⟩;refine⟨_,rfl,a,xs,rfl,hA,lx,fx,λH1 g1=>?_⟩;refine⟨_,rfl,b,ys,rfl,g1.iD hB,by omega,fy,λH2 g2=>?_⟩;have g:=g1.trans g2;have Tt:=g.iD hA;have Tu:=g.iD hB;have el:∀zs:List Int,(zs.map V.int).length=zs.length:=λzs=>Ya _;refine⟨_,rfl,a,_,rfl,.inr Tt,_,rfl,b,_,rfl,.inr Tu,rfl,_,rfl,s_ (by rw[el,el,eq]) (aX ?_)⟩;exact⟨_,rfl,_,rfl,a,b,xs,ys,rfl,Tt,Tu,λz hz=>by rw[←eq];exact oF fx hz,lx,λt H3 nt g3 ht=>q t H3 (g.free nt) (g.trans g3) ht⟩
theorem Zch:aQ ["turn"] ["turn"] (aL FV):=⟨rfl,rfl,rfl,by decide+kernel,rfl,by decide+kernel,by decide+kernel⟩
theorem ZeH(F:aM K "back" "back" FV f fd)(pS:HasFn P w K mg base 2 "check_turn" ["row"] (Gm K))(mI:HasFn P w K mg base 1 "turned_back" ["turn"] y6)(bl:Bl mg):aG P w K mg base aN 3 f fd ["turn"] Sh:=by
 refine F.ok Zch (λvs H Q E h=>?_) (λaE A outer s H vs Q E hr h=>?_)
 ·obtain⟨a,xs,rfl,_⟩:=h;rfl
 obtain⟨a,xs,rfl,hA,lx,fx,q⟩:=h;refine⟨_,(aj (cz (aT pS hr (by omega) rfl (aa (pv 0) ae))) (aq (aF (aT mI hr (by omega) rfl (aa (pv 0) ae))))),?_⟩;refine⟨_,rfl,a,xs,rfl,ay.of hA,lx,fx,λH1 g1=>?_⟩;exact⟨_,rfl,a,xs,rfl,g1 _ _ hA,lx,fx,λt H2 nt g2 ht=>q t H2 (g1.free nt) (g1.trans g2) ht⟩
theorem B9:aQ ["rows","size","row"] ["rows"] (aL Cr):=⟨rfl,rfl,rfl,by decide+kernel,rfl,by decide+kernel,by decide+kernel⟩
theorem Zci(F:aM K "check_rows" "check_rows" Cr f fd)(sh:HasFn P w K mg base 1 "is_turn" ["row"] (GZ K)){t1 t2:Tok}(Cz:mg "LEAST_SIZE"=some (.int 2 t1))(De:mg "MOST_SIZE"=some (.int 8 t2))(bl:Bl mg):aG P w K mg base aN 2 f fd ["rows"] (FW K):=by
 refine F.ok B9 (λvs H Q E h=>?_) (λaE A outer s H vs Q E hr h=>?_)
 ·obtain⟨l,a0,as,n,rfl,_⟩:=h;rfl
 obtain⟨l,a0,as,n,rfl,hL,n2,n8,rows,q⟩:=h;refine⟨_,(aj (bg (i:=1) B9.nd rfl (Or.inl rfl) (bJ (c5 (K:=K) rfl) rfl bl.cQ cP (aa (a9 (cB (K:=K) rfl) (pv 0) aI (λ_ _=>rfl)) ae))) (aj (aS (PW.pt (pw_or (aZ lQ (pv 1) (di (v:=.int (2)) rfl Cz ⟨_,rfl⟩) (aR _)) (pw_or1 (aZ Gd (pv 1) (di (v:=.int (8)) rfl De ⟨_,rfl⟩) (aR _))))) fH aY) (aq (fT PassesOwn.never rfl (fR (K:=K) rfl (pv 0)) (bj (i:=2) B9.nd rfl (Or.inl rfl)) (aq (aS (PW.pt (pw_or (aZ kH (bJ (c5 (K:=K) rfl) rfl bl.cQ cP (aa (pv 2) ae)) (pv 1) (aR _)) (pw_or1 (i8 (eN (aT sh hr (by omega) rfl (aa (pv 2) ae))))))) fH aY)))))),?_⟩;have el:∀zs:List Int,(zs.map V.int).length=zs.length:=λzs=>Ya _;obtain⟨x0,h0,l0,f0⟩:=rows a0 Yk;refine⟨_,rfl,l,_,0,.ref a0,rfl,rfl,hL,gq (j:=0) rfl,a0,_,rfl,.inr h0,?_⟩;rw[el,l0];refine⟨_,rfl,_,_,rfl,rfl,_,rfl,bC (λcc=>absurd (of_decide_eq_true cc) (by omega)) (λ_=>?_)⟩;refine⟨_,rfl,_,_,rfl,rfl,_,rfl,bC (λcc=>absurd (of_decide_eq_true cc) (by omega)) (λ_=>aX ?_)⟩;refine⟨_,rfl,l,rfl,⟨_,hL⟩,jH (xs:=(a0::as).map V.ref) (λi σ H1=>ai H H1/\∃o2:Option V,σ=[some (.ref l),some (.int (n:Int)),o2]) ⟨ai.refl _,none,rfl⟩ (λi σ H1 _ ⟨g,_⟩=>g.seq hL) ?_ ?_⟩
 ·rintro i v σ H1 hi ⟨g,o2,rfl⟩;rw[Yg] at hi;obtain⟨a,ha,rfl⟩:∃a,a∈a0::as/\V.ref a=v:=by
   cases e:(a0::as)[i]? with
   |none=>rw[e] at hi;cases hi
   |some a=>grind
  obtain⟨xs,hx,lx,fx⟩:=rows a ha;refine⟨_,rfl,a,_,rfl,.inr (g.iD hx),_,rfl,rfl,_,rfl,s_ (by rw[el,lx]) ?_⟩;refine⟨_,rfl,a,xs,rfl,.inr (g.iD hx),by omega,λH2 g2=>⟨_,rfl,?_⟩⟩;rw[fx];exact bY (aX ⟨g.trans g2,_,rfl⟩)
 ·rintro σ H1 ⟨g,o2,rfl⟩;exact q H1 g
theorem AY:aQ ["mother","father","wife","by_mothers","section"] ["mother","father","wife"] (aL A8):=⟨rfl,rfl,rfl,by decide+kernel,rfl,by decide+kernel,by decide+kernel⟩
theorem Zb(F:aM K "check_parents" "check_parents" A8 f fd)(sD:HasFn P w K mg base 3 "behind" ["first","then"] (G0 K))(bl:Bl mg):aG P w K mg base aN 4 f fd ["mother","father","wife"] (Mt K):=by
 refine F.ok AY (λvs H Q E h=>?_) (λaE A outer s H vs Q E hr h=>?_)
 ·obtain⟨m,fa,wi,xs,ys,rfl,_⟩:=h;rfl
 obtain⟨m,fa,wi,xs,ys,rfl,hM,hF,hW,fx,fy,eq,l8,q⟩:=h;refine⟨_,(aj (bg (i:=3) AY.nd rfl (Or.inl rfl) (aT sD hr (by omega) rfl (aa (pv 2) (aa (pv 0) ae)))) (aq (fT PassesOwn.never rfl (ow rfl bl.iY (aa (bJ (c5 (K:=K) rfl) rfl bl.cQ cP (aa (pv 1) ae)) ae)) (bj (i:=4) AY.nd rfl (Or.inl rfl)) (aq (aS (aZ kH (a9 (eI (K:=K) rfl) (pv 3) (pv 4) (λ_ _=>rfl)) (a9 (eI (K:=K) rfl) (pv 1) (pv 4) (λ_ _=>rfl)) (aR _)) fH aY))))),?_⟩;have el:∀zs:List Int,(zs.map V.int).length=zs.length:=λzs=>Ya _;refine⟨_,rfl,_,rfl,wi,m,ys,xs,rfl,hW,hM,by omega,fy,fx,eq.symm,λt H1 nt g ht=>?_⟩;have al:=pY xs ys;refine⟨_,rfl,fa,_,rfl,.inr (g.iD hF),_,rfl,by rw[el];omega,by rw[el];omega,D6 (lo:=0) (n:=((((bH xs ys).map V.int).length:Nat):Int).toNat)
  (λi σ H2=>H2=H1/\∃o4:Option V,σ=[some (.ref m),some (.ref fa),some (.ref wi),some (.ref t),o4]) ⟨rfl,none,rfl⟩ ?_ ?_⟩
 ·rintro i σ H2 hi ⟨rfl,o4,rfl⟩;rw[Y6,el] at hi;have at_:dI ((bH xs ys).map V.int) (0+(i:Int))=some (.int ((bH xs ys).getD (0+(i:Int)).toNat 0)):=lN (by omega) (by omega);refine⟨_,rfl,_,rfl,t,_,_,_,rfl,rfl,ay.of ht,at_,_,rfl,_,rfl,fa,_,_,_,rfl,rfl,g.iD hF,at_,rfl,_,rfl,s_ rfl (aX ⟨rfl,_,rfl⟩)⟩
 ·rintro σ H2 ⟨rfl,o4,rfl⟩;exact q _ g
end
theorem t9{f:Str}{y:V}{fs:List (Str×V)}{n:Nat}(h:fs.length<=n):(cK f y fs).length<=n+1:=Y4 (CU f y fs) (Nat.succ_le_succ h)
theorem fs4(a b c d:V):cK "wife" d (cK "father" c (cK "mother" b (cK "size" a [])))=([("size",a),("mother",b),("father",c),("wife",d)]:List (Str×V)):=rfl
theorem fs5(a b c d e:V):cK "steps" e [("size",a),("mother",b),("father",c),("wife",d)]=([("size",a),("mother",b),("father",c),("wife",d),("steps",e)]:List (Str×V)):=rfl
theorem ds7(a b c d e f g:V):m5 [] [(.inr "c",a),(.inr "k",b),(.inr "w",c),(.inr "m",d),(.inr "f",e),(.inr "h",f),(.inr "s",g)]=[(.inr "c",a),(.inr "k",b),(.inr "w",c),(.inr "m",d),(.inr "f",e),(.inr "h",f),(.inr "s",g)]:=rfl
section
variable {c:Addr}
theorem W_:aQ ["self","mother","father","wife"] ["self","mother","father","wife"] (aL C8):=⟨rfl,rfl,rfl,by decide+kernel,rfl,by decide+kernel,by decide+kernel⟩
theorem Zcj(F:aM K "__init__" "Land.__init__" C8 f fd)(lc:tE K C)(rQ:HasFn P w K mg base 2 "check_rows" ["rows"] (FW K))(Be:HasFn P w K mg base 4 "check_parents" ["mother","father","wife"] (Mt K))
  (vD:HasFn P w K mg base 3 "back" ["turn"] Sh)(sN:HasFn P w K mg base 1 "still" ["size"] Fi)(bl:Bl mg):aG P w K mg base aN 5 f fd ["self","mother","father","wife"] (Qr C):=by
 refine F.ok W_ (λvs H Q E h=>?_) (λaE A outer s H vs Q E hr h=>?_)
 ·obtain⟨x,dx,m,fa,wi,xs,ys,rfl,_⟩:=h;rfl
 obtain⟨x,dx,m,fa,wi,xs,ys,rfl,hx,hM,hF,hW,fx,fy,eq,l2,l8,q⟩:=h;refine⟨_,(aj (cz (aT rQ hr (by omega) rfl (aa (vq (aa (pv 1) (aa (pv 2) (aa (pv 3) ae)))) ae))) (aj (cz (aT Be hr (by omega) rfl (aa (pv 1) (aa (pv 2) (aa (pv 3) ae))))) (aj (vh (pv 0) (bJ (c5 (K:=K) rfl) rfl bl.cQ cP (aa (pv 1) ae)) rfl) (aj (vh (pv 0) (pv 1) rfl) (aj (vh (pv 0) (pv 2) rfl) (aj (vh (pv 0) (pv 3) rfl) (aq (vh (pv 0) (yo (iW bA (pv 1) (iW bA (pv 2) (iW bA (pv 3) (iW bA (aT vD hr (by omega) rfl (aa (pv 1) ae)) (iW bA (aT vD hr (by omega) rfl (aa (pv 2) ae)) (iW bA (aT vD hr (by omega) rfl (aa (pv 3) ae)) (iW bA (aT sN hr (by omega) rfl (aa (bJ (c5 (K:=K) rfl) rfl bl.cQ cP (aa (pv 1) ae)) ae)) yn))))))) rfl rfl (λz=>nomatch z) (Jg rfl)) rfl)))))))),?_⟩;have el:∀zs:List Int,(zs.map V.int).length=zs.length:=λzs=>Ya _;have Tv:=EK fx fy eq;have al:=pY xs ys;refine⟨_,rfl,_,rfl,_,rfl,by show 3<=sizeLine;decide,λl nl=>?_⟩;have g1:=cq nl (.lst [.ref m,.ref fa,.ref wi]);refine⟨l,m,[fa,wi],xs.length,rfl,ak.of aU,l2,l8,λa ha=>?_,λH2 g2=>?_⟩
 ·rcases Yp.mp ha with rfl|ha;·exact⟨xs,ay.of (g1 _ _ hM),rfl,fx⟩
  ·rcases Yp.mp ha with rfl|ha;·exact⟨bH xs ys,ay.of (g1 _ _ hF),by rw[al,eq],Tv⟩
   ·rw[Yo] at ha;subst ha;exact⟨ys,ay.of (g1 _ _ hW),eq.symm,fy⟩
 have zJ:=g1.trans g2;refine⟨_,rfl,_,rfl,_,rfl,m,fa,wi,xs,ys,rfl,ay.of (zJ _ _ hM),ay.of (zJ _ _ hF),ay.of (zJ _ _ hW),fx,fy,eq,l8,λH3 g3=>?_⟩;have g:=zJ.trans g3;have zK:=g _ _ hx;have zL:=g _ _ hM;have Ir:=g _ _ hF;have Iu:=g _ _ hW;have nm:m≠x:=λe=>by rw[e,zK] at zL;cases zL
 have nf:fa≠x:=λe=>by rw[e,zK] at Ir;cases Ir
 have nw:wi≠x:=λe=>by rw[e,zK] at Iu;cases Iu
 refine⟨_,rfl,m,_,rfl,.inr (ay.of zL),_,rfl,x,C,dx,_,rfl,zK,lc.cls,lc.ql,by decide,?_⟩;refine⟨_,rfl,_,rfl,x,C,dx,_,rfl,aU,lc.cls,lc.Za9,W5 (t9 (Yd 0)) (by decide),?_⟩;refine⟨_,rfl,_,rfl,x,C,dx,_,rfl,aU,lc.cls,lc.Za_,W5 (t9 (t9 (Yd 0))) (by decide),?_⟩;refine⟨_,rfl,_,rfl,x,C,dx,_,rfl,aU,lc.cls,lc.ZdU,W5 (t9 (t9 (t9 (Yd 0)))) (by decide),?_⟩;rw[E8,E8,E8,el,fs4];have Iv:upd H3 x (.ins C dx [("size",.int (xs.length:Int)),("mother",.ref m),("father",.ref fa),("wife",.ref wi)]) x=some (.ins C dx [("size",.int (xs.length:Int)),("mother",.ref m),("father",.ref fa),("wife",.ref wi)]):=aU;have o4:∀b o,H3 b=some o->b≠x->upd H3 x (.ins C dx [("size",.int (xs.length:Int)),("mother",.ref m),("father",.ref fa),("wife",.ref wi)]) b=some o:=λb o e n=>by rw[aP n];exact e
 generalize upd H3 x (.ins C dx [("size",.int (xs.length:Int)),("mother",.ref m),("father",.ref fa),("wife",.ref wi)])=H4 at Iv o4⊢;have Iw:=o4 _ _ zL nm;have Tw:=o4 _ _ Ir nf;have Tx:=o4 _ _ Iu nw;intro d nd;have g5:=cq nd (.dK []);have Iy:upd H4 d (.dK []) d=some (.dK []):=aU;generalize upd H4 d (.dK [])=H5 at g5 Iy⊢;refine⟨_,rfl,_,rfl,_,rfl,?_⟩;refine⟨_,rfl,m,xs,rfl,g5 _ _ Iw,by omega,fx,λim H6 nim g6 Iz=>?_⟩;refine⟨_,rfl,fa,bH xs ys,rfl,g6 _ _ (g5 _ _ Tw),by omega,Tv,λjf H7 njf g7 IA=>?_⟩;refine⟨_,rfl,wi,ys,rfl,g7 _ _ (g6 _ _ (g5 _ _ Tx)),by omega,fy,λiw H8 niw g8 hiw=>?_⟩;have Tz:=(g6.trans g7).trans g8;refine⟨_,rfl,m,_,rfl,.inr (ay.of (Tz _ _ (g5 _ _ Iw))),xs.length,by rw[el];rfl,by omega,λst H9 zM g9 gF=>?_⟩;have qZ:=Tz.trans g9;refine⟨qZ _ _ Iy,vC m fa wi im jf iw st,rfl,by show 7<=15;decide,?_⟩;have iE:d≠x:=ck Iv nd |>.symm;have TB:=qZ _ _ (g5 _ _ Iv);refine⟨_,rfl,x,C,dx,_,rfl,by rw[aP iE.symm];exact TB,lc.cls,lc.Fj,by show 4<1000;decide,?_⟩;rw[fs5,ds7];have key:∀{b:Addr} {o:HO},H9 b=some o->b≠d->b≠x->upd (upd H9 d (.dK (vC m fa wi im jf iw st))) x (.ins C dx [("size",.int (xs.length:Int)),("mother",.ref m),("father",.ref fa),("wife",.ref wi),("steps",.ref d)]) b=some o:=λ{b o} e n1 n2=>by
  rw[aP n2,aP n1];exact e
 have qG:∀{b:Addr} {zs:List Int},H9 b=some (.tup (zs.map V.int))->bR (upd (upd H9 d (.dK (vC m fa wi im jf iw st))) x (.ins C dx [("size",.int (xs.length:Int)),("mother",.ref m),("father",.ref fa),("wife",.ref wi),("steps",.ref d)])) b zs:=λ{b zs} e=>
  key e (λz=>by rw[z,qZ _ _ Iy] at e;cases e) (λz=>by rw[z,TB] at e;cases e)
 refine q _ (λb o e n=>?_) ⟨dx,d,m,fa,wi,im,jf,iw,st,aU,by rw[aP iE];exact aU,qG (qZ _ _ (g5 _ _ Iw)),qG (qZ _ _ (g5 _ _ Tw)),qG (qZ _ _ (g5 _ _ Tx)),qG (g9 _ _ (g8 _ _ (g7 _ _ Iz))),qG (g9 _ _ (g8 _ _ IA)),qG (g9 _ _ hiw),qG gF⟩;have e4:=o4 _ _ (g _ _ e) n;refine key (qZ _ _ (g5 _ _ e4)) (ck e4 nd) n
theorem Zc:aQ ["mother","wife"] ["mother","wife"] (aL Ec):=⟨rfl,rfl,rfl,by decide+kernel,rfl,by decide+kernel,by decide+kernel⟩
theorem Zd(F:aM K "land_of" "land_of" Ec f fd)(rQ:HasFn P w K mg base 2 "check_rows" ["rows"] (FW K))(sD:HasFn P w K mg base 3 "behind" ["first","then"] (G0 K))
  (FX:vK P w K mg base 5 "Land" C ["self","mother","father","wife"] (Qr C)):aG P w K mg base aN 7 f fd ["mother","wife"] (Nv C):=by
 refine F.ok Zc (λvs H Q E h=>?_) (λaE A outer s H vs Q E hr h=>?_)
 ·obtain⟨m,wi,xs,ys,rfl,_⟩:=h;rfl
 obtain⟨m,wi,xs,ys,rfl,hM,hW,fx,fy,eq,l2,l8,q⟩:=h;refine⟨_,(aj (cz (aT rQ hr (by omega) rfl (aa (vq (aa (pv 0) (aa (pv 1) ae))) ae))) (aq (aF (Ge FX hr (by omega) rfl (aa (pv 0) (aa (aT sD hr (by omega) rfl (aa (pv 1) (aa (pv 0) ae))) (aa (pv 1) ae))))))),?_⟩;refine⟨_,rfl,_,rfl,by show 2<=sizeLine;decide,λl nl=>?_⟩;have g1:=cq nl (.lst [.ref m,.ref wi]);refine⟨l,m,[wi],xs.length,rfl,ak.of aU,l2,l8,λa ha=>?_,λH2 g2=>?_⟩
 ·rcases Yp.mp ha with rfl|ha;·exact⟨xs,ay.of (g1 _ _ hM),rfl,fx⟩
  ·rw[Yo] at ha;subst ha;exact⟨ys,ay.of (g1 _ _ hW),eq.symm,fy⟩
 have g:=g1.trans g2;refine⟨_,rfl,_,rfl,_,rfl,wi,m,ys,xs,rfl,ay.of (g _ _ hW),ay.of (g _ _ hM),by omega,fy,fx,eq.symm,λfa H3 TC g3 cM=>?_⟩;have eQ:=g.trans g3;refine⟨_,rfl,λx dx nx wN ne=>?_⟩;have wO:upd H3 dx (.own x) x=none:=by rw[aP (λz=>ne z.symm)];exact nx
 have g4:ai H3 (upd (upd H3 dx (.own x)) x (.ins C dx [])):=(cq wN _).trans (cq wO _);refine⟨x,dx,m,fa,wi,xs,ys,rfl,aU,g4 _ _ (eQ _ _ hM),g4 _ _ cM,g4 _ _ (eQ _ _ hW),fx,fy,eq,l2,l8,λH5 k5 la=>⟨rfl,q x H5 (λb o e=>?_) la⟩⟩;have e3:=eQ _ _ e;exact k5 b o (g4 _ _ e3) (ck e3 nx)
end
abbrev yF(xs ys:List Int):List (Str×List Int):=[("c",xs),("k",bH xs ys),("w",ys),("m",inv xs),("f",inv (bH xs ys)),("h",inv ys),("s",bp xs.length)]
inductive Nx(C:Addr)(vs:List V)(H:Hp)(Q:VK):Prop
 |mk (L:Addr) (z:Str) (xs ys ns:List Int) (aC:vs=[.ref L,.str z]) (aV:gS H C L xs ys) (bc:(z,ns)∈yF xs ys) (bO:∀t:Addr,bR H t ns->Q (.ref t) H):Nx C vs H Q
def Qs(C:Addr):Sp:=λvs H Q _=>Nx C vs H Q
theorem step_at{H:Hp}{xs ys ns:List Int}{z:Str}{m f w im jf iw st:Addr}(h:(z,ns)∈yF xs ys)(h3:bR H m xs)(h4:bR H f (bH xs ys))(h5:bR H w ys)(h6:bR H im (inv xs))(h7:bR H jf (inv (bH xs ys)))(h8:bR H iw (inv ys))(h9:bR H st (bp xs.length)):
  ∃t,aO (vC m f w im jf iw st) (.inr z)=some (.ref t)/\bR H t ns:=by
 simp only[Yp,Y2,or_false] at h;rcases h with⟨rfl,rfl⟩|⟨rfl,rfl⟩|⟨rfl,rfl⟩|⟨rfl,rfl⟩|⟨rfl,rfl⟩|⟨rfl,rfl⟩|⟨rfl,rfl⟩;·exact⟨m,rfl,h3⟩
 ·exact⟨f,rfl,h4⟩
 ·exact⟨w,rfl,h5⟩
 ·exact⟨im,rfl,h6⟩
 ·exact⟨jf,rfl,h7⟩
 ·exact⟨iw,rfl,h8⟩
 ·exact⟨st,rfl,h9⟩
section
theorem Xa:aQ ["self","letter"] ["self","letter"] (aL C9):=⟨rfl,rfl,rfl,by decide+kernel,rfl,by decide+kernel,by decide+kernel⟩
theorem Zck(F:aM K "step" "Land.step" C9 f fd)(lc:tE K C):aG P w K mg base aN 1 f fd ["self","letter"] (Qs C):=by
 refine F.ok Xa (λvs H Q E h=>?_) (λaE A outer s H vs Q E hr h=>?_)
 ·obtain⟨L,z,xs,ys,ns,rfl,_⟩:=h;rfl
 obtain⟨L,z,xs,ys,ns,rfl,la,hz,q⟩:=h;refine⟨_,(aj (aS (i6 (lD (bB hr) (pv 1) (aW (K:=K) rfl (pv 0) rfl)) (by with_unfolding_all rfl)) fH aY) (aq (aF (c9 (bB hr) (aW (K:=K) rfl (pv 0) rfl) (pv 1) (λ_ _=>rfl))))),?_⟩;obtain⟨dx,d,m,fa,wi,im,jf,iw,st,h1,h2,h3,h4,h5,h6,h7,h8,h9⟩:=la;obtain⟨t,hv,ht⟩:=step_at hz h3 h4 h5 h6 h7 h8 h9;have dg:=hv▸dU.k h2;exact⟨_,rfl,_,rfl,L,C,dx,_,.ref d,rfl,h1,lc.cls,lc.Fj,rfl,d,_,rfl,dg,_,rfl,bY (aX ⟨_,rfl,L,C,dx,_,.ref d,rfl,h1,lc.cls,lc.Fj,rfl,_,rfl,d,_,rfl,dg,q t ht⟩)⟩
end
structure JS where
 hd:List Nat
 ld:List (List Int)
 mem:List (Nat×List Nat)
 fr:List (Nat×List Int)
structure JL where
 J:Addr
 ha:Addr
 la:Addr
 md:Addr
 fd:Addr
 eA:List Addr
 fC:List Addr
 bU:List Addr
def JL.fp(l:JL):List Addr:=l.J::l.ha::l.la::l.md::l.fd::l.fC
abbrev JF(n:Nat)(ha la md fd:Addr):List (Str×V):=[("size",.int (n:Int)),("heads",.ref ha),("leads",.ref la),("members",.ref md),("free",.ref fd)]
theorem jf5(a b c d e:V):cK "free" e (cK "members" d (cK "leads" c (cK "heads" b (cK "size" a []))))=([("size",a),("heads",b),("leads",c),("members",d),("free",e)]:List (Str×V)):=rfl
abbrev dE(is:List Nat):List V:=is.map λi:Nat=>V.int (i:Int)
def bo(ks:List Nat)(as:List Addr):List (Key×V):=(ks.zip as).map λp=>(.inl (p.1:Int),.ref p.2)
structure cC(H:Hp)(C:Addr)(n:Nat)(l:JL)(st:JS):Prop where
 obj:∃dx,H l.J=some (.ins C dx (JF n l.ha l.la l.md l.fd))
 heads:H l.ha=some (.lst (dE st.hd))
 gU:H l.la=some (.lst (l.eA.map V.ref))
 lead:Paired (λa xs=>H a=some (.tup (xs.map V.int))) l.eA st.ld
 iK:H l.md=some (.dK (bo (st.mem.map (·.1)) l.fC))
 mem:Paired (λa p=>H a=some (.lst (dE p.2))) l.fC st.mem
 frees:H l.fd=some (.dK (bo (st.fr.map (·.1)) l.bU))
 free:Paired (λa p=>H a=some (.lst (p.2.map V.int))) l.bU st.fr
 nd:l.fp.Nodup
 out:∀a∈l.bU,a∉l.fp
theorem cC.same{H H':Hp}{C:Addr}{n:Nat}{l:JL}{st:JS}(g:ai H H')(a:cC H C n l st):cC H' C n l st:=
 ⟨let⟨dx,h⟩:=a.obj;⟨dx,g _ _ h⟩,g _ _ a.heads,g _ _ a.gU,L2.Paired.bI a.lead λ_ _ h=>g _ _ h,g _ _ a.iK,L2.Paired.bI a.mem λ_ _ h=>g _ _ h,g _ _ a.frees,L2.Paired.bI a.free λ_ _ h=>g _ _ h,a.nd,a.out⟩
theorem uW{α β:Type}{F:α->β->Prop}:∀{xs:List α} {ys:List β} {x:α},Paired F xs ys->x∈xs->∃y,F x y:=by
 intro xs ys x p;induction p with
 |nil=>grind
 |cons f t ih=>grind
theorem cC.ne{H:Hp}{C p:Addr}{n:Nat}{l:JL}{st:JS}(a:cC H C n l st)(h:H p=none):p∉l.fp:=by
 intro z;unfold JL.fp at z;simp only[Yp] at z;rcases z with rfl|rfl|rfl|rfl|rfl|z
 ·obtain⟨dx,e⟩:=a.obj
  grind
 ·rw[a.heads] at h;cases h
 ·rw[a.gU] at h;cases h
 ·rw[a.iK] at h;cases h
 ·rw[a.frees] at h;cases h
 ·obtain⟨y,e⟩:=uW a.mem z
  grind
theorem mM{α:Type}{H:Hp}{f:α->HO}:∀{as:List Addr} {ps:List (Nat×α)} {k:Nat} {v:α},Paired (λa p=>H a=some (f p.2)) as ps->ps.lookup k=some v->∃a,a∈as/\aO (bo (ps.map (·.1)) as) (.inl (k:Int))=some (.ref a)/\H a=some (f v):=by
 intro as ps k v pr;induction pr with
 |nil=>grind
 |@cons a p as ps e t ih=>
  intro h;have e0:bo ((p::ps).map (·.1)) (a::as)=(Sum.inl (p.1:Int),V.ref a)::bo (ps.map (·.1)) as:=rfl;rw[W1] at h;by_cases ek:k=p.1
  ·have eb:(k==p.1)=true:=beq_iff_eq.mpr ek;rw[eb] at h;exact⟨a,Yk,e_ (p:=((Sum.inl (p.1:Int):Key),V.ref a)) (by rw[ek]),by rw[←(Ys h)];exact e⟩
  ·have eb:(k==p.1)=false:=beq_eq_false_iff_ne.mpr ek;rw[eb] at h;obtain⟨b,hb,q,w⟩:=ih h;refine⟨b,Yx _ hb,?_,w⟩;rw[e0,eM (p:=((Sum.inl (p.1:Int):Key),V.ref a)) (λz=>ek (by have:=zN z;omega))];exact q
theorem Zba{q k:Nat}{ks:List Nat}{v:V}(z:((Sum.inl (q:Int):Key),v).1=.inl (k:Int)):k∈q::ks:=by
 grind
theorem xW:∀{as:List Addr} {ks:List Nat} {k:Nat},k∉ks->aO (bo ks as) (.inl (k:Int))=none
 |[],ks,k,_=>by unfold bo;rw[List.zip_nil_right];rfl
 |a::as,[],k,_=>rfl
 |a::as,q::ks,k,h=>by
  have e0:bo (q::ks) (a::as)=(Sum.inl (q:Int),V.ref a)::bo ks as:=rfl;rw[e0,eM (p:=((Sum.inl (q:Int):Key),V.ref a)) (λz=>h (Zba z))];exact xW λz=>h (Yx _ z)
theorem xO:∀{ks:List Nat} {as:List Addr} (k:Nat) (a:Addr),ks.length=as.length->bo ks as++[(.inl (k:Int),.ref a)]=bo (ks++[k]) (as++[a])
 |[],[],_,_,_=>rfl
 |q::ks,b::as,k,a,h=>by
  have e0:bo (q::ks) (b::as)=(Sum.inl (q:Int),V.ref b)::bo ks as:=rfl;rw[e0,Td,(xO (ks:=ks) (as:=as) k a (by simpa using h))];rfl
 |[],_::_,_,_,h=>by simp at h
 |_::_,[],_,_,h=>by simp at h
structure kB(K:PySem.W.Frag)(C:Addr):Prop where
 cls:fL K C
 ql:dw K C "size"
 iZ:dw K C "heads"
 lK:dw K C "leads"
 sr:dw K C "members"
 oM:dw K C "free"
def JS.more(n:Nat)(st:JS):JS:=⟨st.hd++[st.hd.length],st.ld++[bp n],st.mem++[(st.hd.length,[st.hd.length])],st.fr++[(st.hd.length,bp n)]⟩
inductive Ny(C:Addr)(vs:List V)(H:Hp)(Q:VK):Prop
 |mk (x dx:Addr) (n:Nat) (aC:vs=[.ref x,.int (n:Int)]) (aV:H x=some (.ins C dx [])) (bc:∀(l:JL) (H':Hp),l.J=x->l.fC=[]->(∀b∈l.fp,b≠x->H b=none)->aw x H H'->cC H' C n l ⟨[],[],[],[]⟩->Q .aA H'):Ny C vs H Q
def OP(C:Addr):Sp:=λvs H Q _=>Ny C vs H Q
inductive Ln(C:Addr)(vs:List V)(H:Hp)(Q:VK):Prop
 |mk (l:JL) (st:JS) (n i j a b:Nat) (aC:vs=[.ref l.J,.int (i:Int),.int (j:Int)]) (aV:cC H C n l st) (bc:st.hd[i]?=some a) (bO:st.hd[j]?=some b) (cG:Q (.bl (decide (a=b))) H):Ln C vs H Q
def DP(C:Addr):Sp:=λvs H Q _=>Ln C vs H Q
inductive Mu(C:Addr)(vs:List V)(H:Hp)(Q:VK):Prop
 |mk (l:JL) (st:JS) (n i h:Nat) (t secs:List Int) (aC:vs=[.ref l.J,.int (i:Int)]) (aV:cC H C n l st) (bc:st.hd[i]?=some h) (bO:st.ld[i]?=some t) (cG:st.fr.lookup h=some secs) (dH:(∀z∈secs,0<=z/\z<t.length)) (gc:secs.length<64) (g_:∀(p:Addr) (ns:List Int) (H':Hp),H p=none->ai H H'->ns.Perm (secs.map λz=>t.getD z.toNat 0)->ns.Pairwise (·<=·)->H' p=some (.lst (ns.map V.int))->Q (.ref p) H'):Mu C vs H Q
def ya(C:Addr):Sp:=λvs H Q _=>Mu C vs H Q
inductive Qt(C:Addr)(vs:List V)(H:Hp)(Q:VK):Prop
 |mk (l:JL) (st:JS) (n:Nat) (aC:vs=[.ref l.J]) (aV:cC H C n l st) (bc:n<=1000) (bO:st.hd.length<1000) (cG:st.mem.length<=st.hd.length) (dH:st.fr.length<=st.hd.length) (gc:st.ld.length=st.hd.length) (g_:st.hd.length∉st.mem.map (·.1)) (nT:st.hd.length∉st.fr.map (·.1)) (t4:∀(l':JL) (H':Hp),l'.J=l.J->Out l.fp H H'->(∀b∈l'.fp,b∈l.fp\/H b=none)->cC H' C n l' (st.more n)->Q (.int (st.hd.length:Int)) H'):Qt C vs H Q
def Gn(C:Addr):Sp:=λvs H Q _=>Qt C vs H Q
theorem mX{is:List Nat}{i h:Nat}(e:is[i]?=some h):dI (dE is) (i:Int)=some (.int (h:Int)):=gq (by rw[Yg,e];rfl)
section
theorem WC:aQ ["self","size"] ["self","size"] (aL Cs):=⟨rfl,rfl,rfl,by decide+kernel,rfl,by decide+kernel,by decide+kernel⟩
theorem Zbb(F:aM K "__init__" "Joins.__init__" Cs f fd)(jc:kB K C)(bl:Bl mg):aG P w K mg base aN 1 f fd ["self","size"] (OP C):=by
 refine F.ok WC (λvs H Q E h=>?_) (λaE A outer s H vs Q E hr h=>?_)
 ·obtain⟨x,dx,n,rfl,_⟩:=h;rfl
 obtain⟨x,dx,n,rfl,hx,q⟩:=h;refine⟨_,(aj (fS (K:=K) rfl (pv 0) (pv 1)) (aj (fS (K:=K) rfl (pv 0) (df ae)) (aj (fS (K:=K) rfl (pv 0) (df ae)) (aj (fS (K:=K) rfl (pv 0) oz) (aq (fS (K:=K) rfl (pv 0) oz)))))),?_⟩;refine⟨_,rfl,_,rfl,x,C,dx,[],rfl,hx,jc.cls,jc.ql,by show 0<1000;omega,λH1 b1 h1=>?_⟩;refine⟨by show 0<=sizeLine;exact Yw _,λha H2 n2 g2 e2=>⟨_,rfl,x,C,dx,_,rfl,g2 _ _ h1,jc.cls,jc.iZ,by show 1<1000;omega,λH3 b3 h3=>?_⟩⟩;refine⟨by show 0<=sizeLine;exact Yw _,λla H4 n4 g4 e4=>⟨_,rfl,x,C,dx,_,rfl,g4 _ _ h3,jc.cls,jc.lK,by show 2<1000;omega,λH5 b5 h5=>?_⟩⟩;refine λmd H6 n6 g6 e6=>⟨_,rfl,x,C,dx,_,rfl,g6 _ _ h5,jc.cls,jc.sr,by show 3<1000;omega,λH7 b7 h7=>?_⟩;refine λfe H8 n8 g8 e8=>⟨_,rfl,x,C,dx,_,rfl,g8 _ _ h7,jc.cls,jc.oM,by show 4<1000;omega,λH9 b9 h9=>?_⟩;rw[jf5] at h9;have k8:aw x H8 H9:=b9;have k6:aw x H6 H9:=b7.trans ((aw.of g8).trans k8);have k4:aw x H4 H9:=b5.trans ((aw.of g6).trans k6);have k2:aw x H2 H9:=b3.trans ((aw.of g4).trans k4);have k0:aw x H H9:=b1.trans ((aw.of g2).trans k2);have d2:ha≠x:=λz=>by rw[z,h1] at n2;cases n2
 have d4:la≠x:=λz=>by rw[z,h3] at n4;cases n4
 have d6:md≠x:=λz=>by rw[z,h5] at n6;cases n6
 have d8:fe≠x:=λz=>by rw[z,h7] at n8;cases n8
 have i3:=b3 _ _ e2 d2;have i5:=b5 _ _ (g4 _ _ i3) d2;have i7:=b7 _ _ (g6 _ _ i5) d2;have j5:=b5 _ _ e4 d4;have j7:=b7 _ _ (g6 _ _ j5) d4;have l7:=b7 _ _ e6 d6;have a1:ha≠la:=λz=>by rw[←z,i3] at n4;cases n4
 have a2:ha≠md:=λz=>by rw[←z,i5] at n6;cases n6
 have a3:ha≠fe:=λz=>by rw[←z,i7] at n8;cases n8
 have a4:la≠md:=λz=>by rw[←z,j5] at n6;cases n6
 have a5:la≠fe:=λz=>by rw[←z,j7] at n8;cases n8
 have a6:md≠fe:=λz=>by rw[←z,l7] at n8;cases n8
 have zO:∀{b:Addr} {H':Hp},aw x H H'->b≠x->H' b=none->H b=none:=λ{b H'} k d n=>by
  cases e:H b with
  |none=>rfl
  |some o=>rw[k b o e d] at n;cases n
 have t3:aw x H H3:=b1.trans ((aw.of g2).trans b3);have t5:aw x H H5:=t3.trans ((aw.of g4).trans b5);have t7:aw x H H7:=t5.trans ((aw.of g6).trans b7);refine q ⟨x,ha,la,md,fe,[],[],[]⟩ H9 rfl rfl (λb hb nb=>?_) k0 ⟨⟨dx,h9⟩,k2 _ _ e2 d2,k4 _ _ e4 d4,.nil,k6 _ _ e6 d6,.nil,k8 _ _ e8 d8,.nil,?_,λa pB=>by cases pB⟩
 ·simp only[JL.fp,Yp,Y2,or_false] at hb;rcases hb with rfl|rfl|rfl|rfl|rfl;·exact absurd rfl nb
  ·exact zO b1 d2 n2
  ·exact zO t3 d4 n4
  ·exact zO t5 d6 n6
  ·exact zO t7 d8 n8
 ·simp only[JL.fp,Y1,Yp,Y2,or_false,not_or,not_false_eq_true,W8,and_true];exact⟨⟨λz=>d2 z.symm,λz=>d4 z.symm,λz=>d6 z.symm,λz=>d8 z.symm⟩,⟨a1,a2,a3⟩,⟨a4,a5⟩,a6⟩
theorem Vl:aQ ["self","one","other"] ["self","one","other"] (aL AV):=⟨rfl,rfl,rfl,by decide+kernel,rfl,by decide+kernel,by decide+kernel⟩
theorem XT(F:aM K "together" "Joins.together" AV f fd)(jc:kB K C)(bl:Bl mg):aG P w K mg base aN 1 f fd ["self","one","other"] (DP C):=by
 refine F.ok Vl (λvs H Q E h=>?_) (λaE A outer s H vs Q E hr h=>?_)
 ·obtain⟨l,st,n,i,j,a,b,rfl,_⟩:=h;rfl
 obtain⟨l,st,n,i,j,a,b,rfl,ja,hi,hj,q⟩:=h;refine⟨_,(aq (aF (dF cg (a9 (cB (K:=K) rfl) (aW (K:=K) rfl (pv 0) rfl) (pv 1) (λ_ _=>rfl)) (a9 (cB (K:=K) rfl) (aW (K:=K) rfl (pv 0) rfl) (pv 2) (λ_ _=>rfl)) (aR _)))),?_⟩;obtain⟨dx,ho⟩:=ja.obj;have q':Q (.bl (decide (V.int (a:Int)=V.int (b:Int)))) H:=by
  have e:decide (V.int (a:Int)=V.int (b:Int))=decide (a=b):=by
   rw[Wi,decide_eq_true_iff,decide_eq_true_iff];exact⟨λz=>by have:=V.int.inj z;omega,λz=>by rw[z]⟩
  rw[e];exact q
 exact⟨_,rfl,l.J,C,dx,_,_,rfl,ho,jc.cls,jc.iZ,rfl,_,rfl,l.ha,_,_,_,rfl,rfl,ak.of ja.heads,mX hi,_,rfl,l.J,C,dx,_,_,rfl,ho,jc.cls,jc.iZ,rfl,_,rfl,l.ha,_,_,_,rfl,rfl,ak.of ja.heads,mX hj,rfl,q'⟩
end
theorem dm{H:Hp}{a b:Addr}{o o':HO}(h:H a=some o)(h':H b=some o')(ne:o≠o'):a≠b:=λz=>by
 grind
theorem Zbc(is:List Nat)(k:Nat):dE (is++[k])=dE is++[.int (k:Int)]:=Ym
theorem pV{H:Hp}{a b:Addr}{o:HO}(h:H a=some o)(h':H b=none):b≠a:=λz=>by
 grind
theorem iU{α β:Type}{F:α->β->Prop}{x:α}{y:β}(f:F x y){xs:List α}{ys:List β}(h:Paired F xs ys):Paired F (xs++[x]) (ys++[y]):=by
 induction h with
 |nil=>exact .cons f .nil
 |cons r t ih=>exact .cons r ih
theorem su{α β:Type}{F:α->β->Prop}:∀{xs:List α} {ys:List β},Paired F xs ys->Paired (λa b=>F a b/\a∈xs) xs ys
 |_,_,.nil=>.nil
 |_,_,.cons g t=>.cons ⟨g,Yk⟩ (L2.Paired.bI (su t) λ_ _ h=>⟨h.1,Yx _ h.2⟩)
theorem oN{H:Hp}{a:Addr}{kvs:List (Key×V)}{k:Nat}{o:Option V}(h:H a=some (.dK kvs))(e:aO kvs (.inl (k:Int))=o):dU H a (.int (k:Int)) o:=.inl ⟨kvs,.inl (k:Int),.inl h,rfl,e.symm⟩
section
theorem K3:aQ ["self","one","lead"] ["self","one"] (aL A_):=⟨rfl,rfl,rfl,by decide+kernel,rfl,by decide+kernel,by decide+kernel⟩
theorem Ze(F:aM K "open_at" "Joins.open_at" A_ f fd)(jc:kB K C)(bl:Bl mg):aG P w K mg base aN 2 f fd ["self","one"] (ya C):=by
 refine F.ok K3 (λvs H Q E h=>?_) (λaE A outer s H vs Q E hr h=>?_)
 ·obtain⟨l,st,n,i,h,t,secs,rfl,_⟩:=h;rfl
 obtain⟨l,st,n,i,h,t,secs,rfl,ja,hi,ht,hf,pA,iC,q⟩:=h;refine⟨_,(aj (bg (i:=2) K3.nd rfl (Or.inr rfl) (a9 (cB (K:=K) rfl) (aW (K:=K) rfl (pv 0) rfl) (pv 1) (λ_ _=>rfl))) (aq (aF (bJ (ZaQ (K:=K) rfl) rfl bl.EE D9 (aa (iH (x:="section") (fr:=[("lead",2)]) (cl:=[("lead",s.heap.objs.size+1)]) rfl ⟨by with_unfolding_all rfl,⟨rfl,trivial⟩,rfl,by decide+kernel,rfl,by decide+kernel,rfl,⟨⟨rfl,.inl rfl,.inl rfl,rfl⟩,trivial⟩,by decide+kernel⟩ (fR (K:=K) rfl (c9 (bB hr) (aW (K:=K) rfl (pv 0) rfl) (a9 (cB (K:=K) rfl) (aW (K:=K) rfl (pv 0) rfl) (pv 1) (λ_ _=>rfl)) (λ_ _=>rfl))) (λ_ _ _ _=>lH) (λ_ _ _ _=>(a9 (eI (K:=K) rfl) (pv 1) (pv 0) (λ_ _=>rfl)))) ae))))),?_⟩;obtain⟨dx,ho⟩:=ja.obj;obtain⟨fa,TH,vf,cM⟩:=mM (f:=λv:List Int=>HO.lst (v.map V.int)) ja.free hf;obtain⟨ta,eta,IB⟩:∃ta,l.eA[i]?=some ta/\H ta=some (.tup (t.map V.int)):=by
  have hl:=cU ja.lead;have dC:i<l.eA.length:=by rw[hl];exact(Yh.mp ht).1
  obtain⟨y,ey,hy⟩:=fQ ja.lead (Yc dC)
  grind
 have IC:dI (l.eA.map V.ref) (i:Int)=some (.ref ta):=gq (by rw[Yg,eta];rfl);refine cy ?_;refine⟨_,rfl,l.J,C,dx,_,_,rfl,ho,jc.cls,jc.lK,rfl,_,rfl,l.la,_,_,_,rfl,rfl,ak.of ja.gU,IC,?_⟩;refine⟨_,rfl,l.J,C,dx,_,_,rfl,ho,jc.cls,jc.oM,rfl,_,rfl,l.J,C,dx,_,_,rfl,ho,jc.cls,jc.iZ,rfl,_,rfl,l.ha,_,_,_,rfl,rfl,ak.of ja.heads,mX hi,l.fd,_,rfl,oN ja.frees vf,fa,rfl,⟨_,ak.of cM⟩,λD hD=>YN (xs:=secs.map V.int) (ak.of cM) (by rw[Ya];omega) hD (λv=>match v with|.int z=>.int (t.getD z.toNat 0)|_=>.aA) (λj v hj H1 g1 Kt k=>?_) λH1 g1 h1=>?_⟩
 ·obtain⟨z,rfl,hz⟩:=lI hj;have bz:=pA z (Ye hz);exact⟨_,rfl,_,rfl,ta,_,_,_,rfl,rfl,ay.of (g1 _ _ IB),lN bz.1 bz.2,k H1 (ai.refl _)⟩
 ·have hy:H1 D=some (.lst ((secs.map λz=>t.getD z.toNat 0).map V.int)):=by
   rw[h1,Wc,Wc];rfl
  exact⟨D,_,rfl,.inl (ak.of hy),by rw[Ya];exact iC,λc7 pm so p H2 np g2 h2=>q p c7 H2 (g1.free np) (g1.trans g2) pm so h2⟩
theorem K_:aQ ["self","number"] ["self"] (aL C_):=⟨rfl,rfl,rfl,by decide+kernel,rfl,by decide+kernel,by decide+kernel⟩
theorem ZdW(F:aM K "add" "Joins.add" C_ f fd)(jc:kB K C)(sN:HasFn P w K mg base 1 "still" ["size"] Fi)(bl:Bl mg):aG P w K mg base aN 2 f fd ["self"] (Gn C):=by
 refine F.ok K_ (λvs H Q E h=>?_) (λaE A outer s H vs Q E hr h=>?_)
 ·obtain⟨l,st,n,rfl,_⟩:=h;rfl
 obtain⟨l,st,n,rfl,ja,hn,lh,lm,lf,ll,nm,nf,q⟩:=h;refine⟨_,(aj (bg (i:=1) K_.nd rfl (Or.inl rfl) (bJ (c5 (K:=K) rfl) rfl bl.cQ cP (aa (aW (K:=K) rfl (pv 0) rfl) ae))) (aj (cz (m6 (K:=K) rfl (jO plainAttrs_list PySem.F.slot_list_append PySem.F.type_list_append ot (aW (K:=K) rfl (pv 0) rfl) (aa (pv 1) ae)))) (aj (cz (m6 (K:=K) rfl (jO plainAttrs_list PySem.F.slot_list_append PySem.F.type_list_append ot (aW (K:=K) rfl (pv 0) rfl) (aa (aT sN hr (by omega) rfl (aa (aW (K:=K) rfl (pv 0) rfl) ae)) ae)))) (aj (lG (bB hr) (aW (K:=K) rfl (pv 0) rfl) (pv 1) (df (aa (pv 1) ae))) (aj (lG (bB hr) (aW (K:=K) rfl (pv 0) rfl) (pv 1) (eG (VT rfl) rfl bl.sT sM (aa (eG Cp rfl bl.iY sA (aa (aW (K:=K) rfl (pv 0) rfl) ae)) ae))) (aq (aF (pv 1)))))))),?_⟩;have sz:(10000:Nat)<=sizeLine:=by rw[sizeLine_eq];omega
 obtain⟨dx,ho⟩:=ja.obj;have hl:(dE st.hd).length=st.hd.length:=Ya _;have pl1:=cU ja.lead;have ID:=cU ja.mem;have zP:=cU ja.free;have nd:=ja.nd;simp only[JL.fp,Y1,Yp,not_or] at nd;obtain⟨⟨x1,x2,x3,x4,x5⟩,⟨y1,y2,y3,y4⟩,⟨z1,z2,z3⟩,⟨w1,w2⟩,v1,v2⟩:=nd;have dl:∀{ks:List Nat} {as:List Addr},(bo ks as).length<=as.length:=λ{ks as}=>by unfold bo;rw[Ya,W4];exact Nat.min_le_right _ _
 refine cy ?_;refine⟨_,rfl,l.J,C,dx,_,_,rfl,ho,jc.cls,jc.iZ,rfl,l.ha,_,rfl,.inl (ak.of ja.heads),?_⟩;rw[hl];refine⟨_,rfl,l.J,C,dx,_,_,rfl,ho,jc.cls,jc.iZ,rfl,.inl ⟨rfl,_,ak.of ja.heads⟩,_,rfl,l.ha,_,_,rfl,rfl,ja.heads,by rw[hl];omega,λH1 b1 e1=>?_⟩;have o1:=b1 _ _ ho x1;have l1:=b1 _ _ ja.gU (λz=>y1 z.symm);refine⟨_,rfl,l.J,C,dx,_,_,rfl,o1,jc.cls,jc.lK,rfl,.inl ⟨rfl,_,ak.of l1⟩,_,rfl,l.J,C,dx,_,_,rfl,o1,jc.cls,jc.ql,rfl,n,rfl,hn,λt H2 nt g2 ht=>?_⟩;refine⟨l.la,_,_,rfl,rfl,g2 _ _ l1,by rw[Ya];omega,λH3 b3 e3=>?_⟩;have o3:=b3 _ _ (g2 _ _ o1) x2;have m3:=b3 _ _ (g2 _ _ (b1 _ _ ja.iK (λz=>y2 z.symm))) (λz=>z1 z.symm);refine⟨_,rfl,by show 1<=sizeLine;omega,λm H4 t_ g4 em=>?_⟩;have o4:=g4 _ _ o3;refine⟨_,rfl,l.J,C,dx,_,_,rfl,o4,jc.cls,jc.sr,rfl,_,rfl,l.md,_,.inl (st.hd.length:Int),rfl,g4 _ _ m3,rfl,?_,λH5 b5 e5=>?_⟩
 ·have:=dl (ks:=st.mem.map (·.1)) (as:=l.fC);omega
 have o5:=b5 _ _ o4 x3;refine⟨_,rfl,l.J,C,dx,_,_,rfl,o5,jc.cls,jc.ql,rfl,(n:Int),rfl,λr H6 nr g6 er=>⟨r,n,rfl,er,hn,λfa H7 TC g7 ef=>?_⟩⟩;have zQ:=g6.trans g7;have f5:=b5 _ _ (g4 _ _ (b3 _ _ (g2 _ _ (b1 _ _ ja.frees (λz=>y3 z.symm))) (λz=>z2 z.symm))) (λz=>w1 z.symm);refine⟨_,rfl,l.J,C,dx,_,_,rfl,zQ _ _ o5,jc.cls,jc.oM,rfl,_,rfl,l.fd,_,.inl (st.hd.length:Int),rfl,zQ _ _ f5,rfl,?_,λH8 b8 e8=>?_⟩
 ·have:=dl (ks:=st.fr.map (·.1)) (as:=l.bU);omega
 have keep:∀b o,H b=some o->b≠l.ha->b≠l.la->b≠l.md->b≠l.fd->H8 b=some o:=λb o e n1 n2 n3 n4=>b8 _ _ (zQ _ _ (b5 _ _ (g4 _ _ (b3 _ _ (g2 _ _ (b1 _ _ e n1)) n2)) n3)) n4;rw[jI _ (xW nm),xO _ _ (by rw[Ya];omega)] at e5;rw[jI _ (xW nf),xO _ _ (by rw[Ya];omega)] at e8;have IE:H m=none:=by
  cases e:H m with
  |none=>rfl
  |some o=>
   have hm1:m≠l.ha:=λz=>by rw[z,b3 _ _ (g2 _ _ e1) y1] at t_;cases t_
   have hm2:m≠l.la:=λz=>by rw[z,e3] at t_;cases t_
   rw[b3 _ _ (g2 _ _ (b1 _ _ e hm1)) hm2] at t_;cases t_
 have en:=ja.ne IE;have IF:fa∉l.fp/\fa≠m:=by
  have e6:H6 fa=none:=TC;have h5:∀b o,H b=some o->b≠l.ha->b≠l.la->b≠l.md->H6 b=some o:=λb o e n1 n2 n3=>g6 _ _ (b5 _ _ (g4 _ _ (b3 _ _ (g2 _ _ (b1 _ _ e n1)) n2)) n3);have f1:H6 l.ha=some _:=g6 _ _ (b5 _ _ (g4 _ _ (b3 _ _ (g2 _ _ e1) y1)) y2);have f2:H6 l.la=some _:=g6 _ _ (b5 _ _ (g4 _ _ e3) z1);have f3:H6 l.md=some _:=g6 _ _ e5;have f4:H6 m=some _:=g6 _ _ (b5 _ _ em (λz=>en (by rw[z];simp[JL.fp])));have f5':H6 l.fd=some _:=g6 _ _ f5;have f6:H6 l.J=some _:=g6 _ _ o5;refine⟨λz=>?_,pV f4 e6⟩;simp only[JL.fp,Yp] at z;rcases z with z|z|z|z|z|z;·exact pV f6 e6 z
  ·exact pV f1 e6 z
  ·exact pV f2 e6 z
  ·exact pV f3 e6 z
  ·exact pV f5' e6 z
  ·obtain⟨y,ey⟩:=uW ja.mem z;refine pV (h5 _ _ ey ?_ ?_ ?_) e6 rfl;·exact λq=>y4 (by rw[←q];exact z)
   ·exact λq=>z3 (by rw[←q];exact z)
   ·exact λq=>w2 (by rw[←q];exact z)
 have kt:∀a∈l.eA,∀xs:List Int,H a=some (.tup (xs.map V.int))->H8 a=some (.tup (xs.map V.int)):=λa _ xs e=>keep a _ e (dm e ja.heads (λz=>by cases z)) (dm e ja.gU (λz=>by cases z)) (dm e ja.iK (λz=>by cases z)) (dm e ja.frees (λz=>by cases z));have k8:∀b o,H5 b=some o->b≠l.fd->H8 b=some o:=λb o e n=>b8 _ _ (zQ _ _ e) n;have nmd:m≠l.md:=λz=>en (by rw[z];simp[JL.fp]);have nmf:m≠l.fd:=λz=>en (by rw[z];simp[JL.fp]);have ntf:t≠l.fd:=λz=>by
  have:=b1 _ _ ja.frees (λz=>y3 z.symm);rw[←z,nt] at this;cases this
 have IG:t≠l.la:=λz=>by rw[←z,nt] at l1;cases l1
 have TK:t≠l.md:=λz=>by
  have:=b1 _ _ ja.iK (λz=>y2 z.symm);rw[←z,nt] at this;cases this
 refine⟨_,rfl,q ⟨l.J,l.ha,l.la,l.md,l.fd,l.eA++[t],l.fC++[m],l.bU++[fa]⟩ H8 rfl (λb o e nb=>?_) (λb hb=>?_) ⟨⟨dx,k8 _ _ o5 x4⟩,?_,?_,?_,?_,?_,?_,?_,?_,?_⟩⟩
 ·simp only[JL.fp,Yp,not_or] at nb;exact keep b o e nb.2.1 nb.2.2.1 nb.2.2.2.1 nb.2.2.2.2.1
 ·simp only[JL.fp,Yp,Yu,Y2,or_false] at hb⊢;rcases hb with h|h|h|h|h|h|h;·exact .inl (.inl h)
  ·exact .inl (.inr (.inl h))
  ·exact .inl (.inr (.inr (.inl h)))
  ·exact .inl (.inr (.inr (.inr (.inl h))))
  ·exact .inl (.inr (.inr (.inr (.inr (.inl h)))))
  ·exact .inl (.inr (.inr (.inr (.inr (.inr h)))))
  ·rw[h];exact .inr IE
 ·show H8 l.ha=some (.lst (dE (st.hd++[st.hd.length])));rw[k8 _ _ (b5 _ _ (g4 _ _ (b3 _ _ (g2 _ _ e1) y1)) y2) y3,Zbc]
 ·show H8 l.la=some (.lst ((l.eA++[t]).map V.ref));rw[k8 _ _ (b5 _ _ (g4 _ _ e3) z1) z2,Ym];rfl
 ·exact iU (F:=λa (xs:List Int)=>H8 a=some (.tup (xs.map V.int))) (k8 _ _ (b5 _ _ (g4 _ _ (b3 _ _ ht IG)) TK) ntf) (L2.Paired.bI (su ja.lead) λa xs h=>kt a h.2 xs h.1)
 ·show H8 l.md=some (.dK (bo ((st.mem++[(st.hd.length,[st.hd.length])]).map (·.1)) (l.fC++[m])));rw[k8 _ _ e5 w1,Ym];rfl
 ·refine iU (F:=λa (p:Nat×List Nat)=>H8 a=some (.lst (dE p.2))) (k8 _ _ (b5 _ _ em nmd) nmf) (L2.Paired.bI (su ja.mem) λa p h=>keep a _ h.1 ?_ ?_ ?_ ?_);·exact λz=>y4 (by rw[←z];exact h.2)
  ·exact λz=>z3 (by rw[←z];exact h.2)
  ·exact λz=>w2 (by rw[←z];exact h.2)
  ·exact λz=>v1 (by rw[←z];exact h.2)
 ·show H8 l.fd=some (.dK (bo ((st.fr++[(st.hd.length,bp n)]).map (·.1)) (l.bU++[fa])));rw[e8,Ym];rfl
 ·have nfd:fa≠l.fd:=λz=>IF.1 (by rw[z];simp[JL.fp]);refine iU (F:=λa (p:Nat×List Int)=>H8 a=some (.lst (p.2.map V.int))) (b8 _ _ ef nfd) (L2.Paired.bI (su ja.free) λa p h=>?_);have no:=ja.out a h.2;simp only[JL.fp,Yp,not_or] at no;exact keep a _ h.1 no.2.1 no.2.2.1 no.2.2.2.1 no.2.2.2.2.1
 ·have nd:=ja.nd;have e0:JL.fp ⟨l.J,l.ha,l.la,l.md,l.fd,l.eA++[t],l.fC++[m],l.bU++[fa]⟩=l.fp++[m]:=rfl;rw[e0,Ww];refine⟨nd,by simp,λa ha b hb=>?_⟩;have eb:b=m:=by simpa using hb
  intro z;rw[z,eb] at ha;exact en ha
 ·intro a ha;have e0:JL.fp ⟨l.J,l.ha,l.la,l.md,l.fd,l.eA++[t],l.fC++[m],l.bU++[fa]⟩=l.fp++[m]:=rfl;rw[e0,Yu];have pB:a∈l.bU++[fa]:=ha;rcases Yu.mp pB with h|h
  ·rintro(z|z);·exact ja.out a h z
   ·have e:a=m:=by simpa using z
    obtain⟨y,ey⟩:=uW ja.free h;rw[e,IE] at ey;cases ey
  ·have e:a=fa:=by simpa using h
   rw[e];rintro(z|z);·exact IF.1 z
   ·exact IF.2 (by simpa using z)
end
theorem Zf{K:PySem.W.Frag}{a:Addr}{ns:List Int}{tt:TT}{te:TE}{fv:St}{D:Addr}{H:Hp}{Q:VK}(hs:ak K H a (ns.map V.int))(hn:ns.length<=1000)(hD:H D=none)(p:Int->Bool)(g:Int->V)
  (turn:∀z∈ns,∀H1,ai H H1->∀(Kt:VK) (Kf:Hp->Prop),(p z=true->∀H3,ai H1 H3->Kt (g z) H3)->(p z=false->∀H3,ai H1 H3->Kf H3)->tt (some (.int z)::fv) H1 λc H2=>if c=true then te (some (.int z)::fv) H2 Kt else Kf H2)
  (fin:∀H',ai H H'->H' D=some (.lst ((ns.filter p).map g))->Q (.ref D) H'):ik (iN K a) tt te fv D H Q:=by
 refine D8 (λi ys H1=>i<=ns.length/\ai H H1/\H1 D=some (.lst ys)/\ys=((ns.take i).filter p).map g) ⟨Yw _,cq hD _,aU,rfl⟩ (λi ys H1 _ ⟨_,g1,_,_⟩=>g1.seq hs) ?_ ?_
 ·rintro i v ys H1 hi ⟨_,g1,h1,e⟩;obtain⟨z,rfl,hz⟩:=lI hi;have dC:=(Yh.mp hz).1;have yl:ys.length<sizeLine:=by
   have:=Wk p (ns.take i);rw[Wa] at this;rw[e,Ya,sizeLine_eq];omega
  refine turn z (Ye hz) H1 g1 _ _ (λpz H3 g3=>⟨g3 _ _ h1,yl,dC,λb o q=>?_,aU,?_⟩) (λpz H3 g3=>⟨dC,g1.trans g3,g3 _ _ h1,?_⟩)
  ·rw[aP (ck q hD)];exact g3 _ _ (g1 _ _ q)
  ·rw[e,Yy,hz,Wb,Ym]
   grind
  ·rw[e,Yy,hz,Wb,Ym]
   grind
 ·grind
theorem vc(x:Int):∀ss:List Int,eO (.int x) (ss.map V.int)=decide (x∈ss)
 |[]=>rfl
 |s::ss=>by
  have ih:=vc x ss;unfold eO at ih⊢;rw[Wp,Jh,ih];show((s==x)||decide (x∈ss))=_
  grind
theorem yb(ss:List Int):(ss.map V.int).all ij=true:=by
 rw[Il,Wn];intro p _;rfl
def iy(ks:List Nat)(as:List Addr)(h:Nat)(a':Addr):List Addr:=(ks.zip as).map λp=>if p.1=h then a' else p.2
theorem Mv(h:Nat)(a':Addr):∀{ks:List Nat} {as:List Addr},ks.length=as.length->(bo ks as).map (λkv=>if kv.1=(.inl (h:Int):Key) then(kv.1,V.ref a') else kv)=bo ks (iy ks as h a')
 |[],[],_=>rfl
 |k::ks,a::as,e=>by
  have ih:=Mv h a' (by simpa using e);have e0:bo (k::ks) (a::as)=(Sum.inl (k:Int),V.ref a)::bo ks as:=rfl;have e1:iy (k::ks) (a::as) h a'=(if k=h then a' else a)::iy ks as h a':=rfl;have e2:bo (k::ks) ((if k=h then a' else a)::iy ks as h a')=(Sum.inl (k:Int),V.ref (if k=h then a' else a))::bo ks (iy ks as h a'):=rfl
  grind
 |[],_::_,e=>rfl
 |_::_,[],e=>rfl
theorem Zbd{ks:List Nat}{as:List Addr}{h:Nat}{a a':Addr}(e:ks.length=as.length)(hv:aO (bo ks as) (.inl (h:Int))=some (.ref a)):putK (bo ks as) (.inl (h:Int)) (.ref a')=bo ks (iy ks as h a'):=by
 unfold putK;rw[if_pos (by rw[sC,hv];rfl)];exact Mv h a' e
def dX{α:Type}(h:Nat)(v:α)(ps:List (Nat×α)):List (Nat×α):=ps.map λp=>if p.1=h then(p.1,v) else p
theorem pZ{α:Type}(h:Nat)(v:α):∀ps:List (Nat×α),(dX h v ps).map (·.1)=ps.map (·.1)
 |[]=>rfl
 |p::ps=>by
  have ih:=pZ h v ps;show(if p.1=h then(p.1,v) else p).1::(dX h v ps).map (·.1)=_
  grind
theorem Zg{α:Type}{F G:Addr->Nat×α->Prop}{h:Nat}{a':Addr}{v:α}(new:∀k,G a' (k,v)):∀{as:List Addr} {ps:List (Nat×α)},Paired F as ps->(∀a p,F a p->a∈as->G a p)->Paired G (iy (ps.map (·.1)) as h a') (dX h v ps):=by
 intro as ps pr;induction pr with
 |nil=>intro _;exact .nil
 |@cons a p as ps f t ih=>
  intro k;have e1:iy ((p::ps).map (·.1)) (a::as) h a'=(if p.1=h then a' else a)::iy (ps.map (·.1)) as h a':=rfl;have e2:dX h v (p::ps)=(if p.1=h then(p.1,v) else p)::dX h v ps:=rfl;refine .cons ?_ (ih λb q fb hb=>k b q fb (Yx _ hb))
  grind
theorem Nz{h:Nat}{a' b:Addr}:∀{ks:List Nat} {as:List Addr},b∈iy ks as h a'->b=a'\/b∈as
 |[],_,m=>by unfold iy at m;simp at m
 |_::_,[],m=>by unfold iy at m;simp at m
 |k::ks,a::as,m=>by
  have e1:iy (k::ks) (a::as) h a'=(if k=h then a' else a)::iy ks as h a':=rfl;rcases Yp.mp m with z|z;·grind
  ·rcases Nz z with w|w;·exact .inl w
   ·grind
def JS.jR(st:JS)(h:Nat)(v:List Int):JS:={st with fr:=dX h v st.fr}
structure qH(st:JS)(i h:Nat)(t secs:List Int):Prop where
 hd:st.hd[i]?=some h
 ld:st.ld[i]?=some t
 fr:st.fr.lookup h=some secs
 fq:∀z∈secs,0<=z/\z<t.length
 eP:secs.length<64
 dist:(secs.map λz=>t.getD z.toNat 0).Nodup
inductive Mw(K:PySem.W.Frag)(C:Addr)(vs:List V)(H:Hp)(Q:VK):Prop
 |mk (l:JL) (st:JS) (n i h:Nat) (t secs ss:List Int) (sl:Addr) (aC:vs=[.ref l.J,.int (i:Int),.ref sl]) (aV:cC H C n l st) (bc:qH st i h t secs) (bO:st.fr.length<1000) (cG:ak K H sl (ss.map V.int)) (dH:∀(l':JL) (H':Hp),l'.J=l.J->l'.fp=l.fp->Out l.fp H H'->cC H' C n l' (st.jR h (secs.filter λz=>decide (t.getD z.toNat 0∈ss)))->Q .aA H'):Mw K C vs H Q
def EL(K:PySem.W.Frag)(C:Addr):Sp:=λvs H Q _=>Mw K C vs H Q
section
theorem Bf:aQ ["self","one","sections","lead","head"] ["self","one","sections"] (aL Bz):=⟨rfl,rfl,rfl,by decide+kernel,rfl,by decide+kernel,by decide+kernel⟩
theorem Zab(F:aM K "narrow" "Joins.narrow" Bz f fd)(jc:kB K C)(bl:Bl mg):aG P w K mg base aN 2 f fd ["self","one","sections"] (EL K C):=by
 refine F.ok Bf (λvs H Q E h=>?_) (λaE A outer s H vs Q E hr h=>?_)
 ·obtain⟨l,st,n,i,h,t,secs,ss,sl,rfl,_⟩:=h;rfl
 obtain⟨l,st,n,i,h,t,secs,ss,sl,rfl,ja,one,lf,hss,q⟩:=h;refine⟨_,(aj (bg (i:=3) Bf.nd rfl (Or.inr rfl) (a9 (cB (K:=K) rfl) (aW (K:=K) rfl (pv 0) rfl) (pv 1) (λ_ _=>rfl))) (aj (bg (i:=4) Bf.nd rfl (Or.inl rfl) (a9 (cB (K:=K) rfl) (aW (K:=K) rfl (pv 0) rfl) (pv 1) (λ_ _=>rfl))) (aq (lG (bB hr) (aW (K:=K) rfl (pv 0) rfl) (pv 4) (iH (x:="section") (fr:=[("sections",2),("lead",3)]) (cl:=[("sections",s.heap.objs.size+1),("lead",s.heap.objs.size+1+1)]) rfl ⟨by with_unfolding_all rfl,⟨rfl,⟨rfl,trivial⟩⟩,rfl,by decide+kernel,rfl,by decide+kernel,rfl,⟨⟨rfl,.inl rfl,.inl rfl,rfl⟩,⟨⟨rfl,.inl rfl,.inl rfl,rfl⟩,trivial⟩⟩,by decide+kernel⟩ (fR (K:=K) rfl (c9 (bB hr) (aW (K:=K) rfl (pv 0) rfl) (pv 4) (λ_ _=>rfl))) (λ_ _ _ _=>va (aZ (kW (K:=K) rfl) (a9 (eI (K:=K) rfl) (pv 2) (pv 0) (λ_ _=>rfl)) (pv 1) (by with_unfolding_all rfl))) (λ_ _ _ _=>(pv 0))))))),?_⟩;have sz:(10000:Nat)<=sizeLine:=by rw[sizeLine_eq];omega
 obtain⟨dx,ho⟩:=ja.obj;obtain⟨fa,TH,vf,cM⟩:=mM (f:=λv:List Int=>HO.lst (v.map V.int)) ja.free one.fr;obtain⟨ta,eta,IB⟩:∃ta,l.eA[i]?=some ta/\H ta=some (.tup (t.map V.int)):=by
  have hl:=cU ja.lead;have dC:i<l.eA.length:=by rw[hl];exact(Yh.mp one.ld).1
  obtain⟨y,ey,hy⟩:=fQ ja.lead (Yc dC);rw[one.ld] at ey;cases ey;exact⟨_,Yc dC,hy⟩
 have IC:dI (l.eA.map V.ref) (i:Int)=some (.ref ta):=gq (by rw[Yg,eta];rfl);have zP:=cU ja.free;refine cy ?_;refine⟨_,rfl,l.J,C,dx,_,_,rfl,ho,jc.cls,jc.lK,rfl,_,rfl,l.la,_,_,_,rfl,rfl,ak.of ja.gU,IC,?_⟩;refine cy ?_;refine⟨_,rfl,l.J,C,dx,_,_,rfl,ho,jc.cls,jc.iZ,rfl,_,rfl,l.ha,_,_,_,rfl,rfl,ak.of ja.heads,mX one.hd,?_⟩;refine⟨_,rfl,l.J,C,dx,_,_,rfl,ho,jc.cls,jc.oM,rfl,_,rfl,l.fd,_,rfl,oN ja.frees vf,fa,rfl,⟨_,ak.of cM⟩,λD hD=>Zf (ns:=secs) (ak.of cM) (by have:=one.eP;omega) hD (λz=>decide (t.getD z.toNat 0∈ss)) V.int (λz hz H1 g1 Kt Kf kt kf=>?_) λH1 g1 h1=>?_⟩
 ·have bz:=one.fq z hz;refine⟨_,rfl,_,rfl,ta,_,_,_,rfl,rfl,ay.of (g1 _ _ IB),lN bz.1 bz.2,_,rfl,sl,_,rfl,.inl (g1.seq hss),rfl,yb ss,_,rfl,?_⟩;rw[if_neg Yi,vc];refine bC (λc=>?_) (λc=>?_);·exact⟨_,rfl,kt c H1 (ai.refl _)⟩
  ·exact kf (by cases e:decide (t.getD z.toNat 0∈ss) with|true=>exact absurd e c|false=>rfl) H1 (ai.refl _)
 ·refine⟨_,rfl,l.J,C,dx,_,_,rfl,g1 _ _ ho,jc.cls,jc.oM,rfl,_,rfl,l.fd,_,.inl (h:Int),rfl,g1 _ _ ja.frees,rfl,?_,λH2 b2 e2=>?_⟩
  ·unfold bo;rw[Ya,W4,Ya];omega
  rw[Zbd (by rw[Ya];exact zP.symm) vf] at e2;have nd:=ja.nd;have zR:l.fd∈l.fp:=by simp[JL.fp]
  simp only[JL.fp,Y1,Yp,not_or] at nd;obtain⟨⟨x1,x2,x3,x4,x5⟩,⟨y1,y2,y3,y4⟩,⟨z1,z2,z3⟩,⟨w1,w2⟩,v1,v2⟩:=nd;have keep:∀b o,H b=some o->b≠l.fd->H2 b=some o:=λb o e nb=>b2 _ _ (g1 _ _ e) nb;have nD:D∉l.fp:=ja.ne hD;have nDf:D≠l.fd:=λz=>nD (by rw[z];exact zR);refine q ⟨l.J,l.ha,l.la,l.md,l.fd,l.eA,l.fC,iy (st.fr.map (·.1)) l.bU h D⟩ H2 rfl rfl ((Out.of g1).trans (Out.bar b2 zR)) ⟨⟨dx,keep _ _ ho x4⟩,keep _ _ ja.heads y3,keep _ _ ja.gU z2,L2.Paired.bI ja.lead λa xs e=>keep a _ e (dm e ja.frees (λz=>by cases z)),keep _ _ ja.iK w1,L2.Paired.bI (su ja.mem) λa p e=>keep a _ e.1 (λz=>v1 (by rw[←z];exact e.2)),?_,?_,ja.nd,λa ha=>?_⟩
  ·show H2 l.fd=some (.dK (bo ((dX h _ st.fr).map (·.1)) _));rw[pZ];exact e2
  ·exact Zg (λk=>b2 _ _ h1 nDf) ja.free λa p e ma=>keep a _ e (λz=>ja.out a ma (by rw[z];exact zR))
  ·rcases Nz ha with rfl|z;·exact nD
   ·exact ja.out a z
end
inductive Qu(C:Addr)(vs:List V)(H:Hp)(Q:VK):Prop
 |mk (l:JL) (st:JS) (n i h:Nat) (t secs:List Int) (a:Int) (aC:vs=[.ref l.J,.int (i:Int),.int a]) (aV:cC H C n l st) (bc:qH st i h t secs) (bO:st.fr.length<1000) (cG:(a∈secs.map (λz=>t.getD z.toNat 0)->∀(l':JL) (H':Hp),l'.J=l.J->l'.fp=l.fp->Out l.fp H H'->cC H' C n l' (st.jR h (secs.filter λz=>decide (t.getD z.toNat 0∈[a])))->Q (.bl true) H')) (dH:(a∉secs.map (λz=>t.getD z.toNat 0)->∀H',ai H H'->Q (.bl false) H')):Qu C vs H Q
def Ru(C:Addr):Sp:=λvs H Q _=>Qu C vs H Q
section
theorem Xb:aQ ["self","one","section"] ["self","one","section"] (aL Dd):=⟨rfl,rfl,rfl,by decide+kernel,rfl,by decide+kernel,by decide+kernel⟩
theorem ZdX(F:aM K "say" "Joins.say" Dd f fd)(lC:cA P w K mg base 2 "open_at" C ["self","one"] (ya C))(rK:cA P w K mg base 2 "narrow" C ["self","one","sections"] (EL K C))(bl:Bl mg):aG P w K mg base aN 3 f fd ["self","one","section"] (Ru C):=by
 refine F.ok Xb (λvs H Q E h=>?_) (λaE A outer s H vs Q E hr h=>?_)
 ·obtain⟨l,st,n,i,h,t,secs,a,rfl,_⟩:=h;rfl
 obtain⟨l,st,n,i,h,t,secs,a,rfl,ja,one,lf,q1,q2⟩:=h;refine⟨_,(aj (aS (aZ (yC (K:=K) rfl) (pv 2) (cJ lC hr (by omega) (pv 0) (aa (pv 1) ae)) (by with_unfolding_all rfl)) (aq (aF i_)) aY) (aj (cz (cJ rK hr (by omega) (pv 0) (aa (pv 1) (aa (df (aa (pv 2) ae)) ae)))) (aq (aF i_)))),?_⟩;obtain⟨dx,ho⟩:=ja.obj;refine⟨_,rfl,_,rfl,l.J,dx,_,rfl,ho,rfl,_,rfl,l,st,n,i,h,t,secs,rfl,ja,one.hd,one.ld,one.fr,one.fq,one.eP,λp ns H1 np g1 pm so hp=>⟨p,_,rfl,.inl (ak.of hp),rfl,yb ns,_,rfl,?_⟩⟩;rw[if_pos rfl,vc];refine bC (λc=>?_) (λc=>aX ?_)
 ·refine q2 (λz=>?_) H1 g1;rw[decide_eq_true (pm.symm.subset z)] at c;cases c
 ·have pA:a∈ns:=by
   by_cases z:a∈ns;·exact z
   ·rw[decide_eq_false z] at c;exact absurd rfl c
  refine⟨_,rfl,l.J,dx,_,rfl,g1 _ _ ho,rfl,_,rfl,_,rfl,by show 1<=sizeLine;rw[sizeLine_eq];omega,λsl H2 n2 g2 e2=>?_⟩;exact⟨l,st,n,i,h,t,secs,[a],sl,rfl,(ja.same g1).same g2,one,lf,ak.of e2,λl' H3 k1 k2 o3 j3=>q1 (pm.subset pA) l' H3 k1 k2 ((Out.of (g1.trans g2)).trans o3) j3⟩
end
def dG(ks:List Nat)(as:List Addr)(h:Nat):List Addr:=((ks.zip as).filter λp=>decide (p.1≠h)).map (·.2)
def cN{α:Type}(h:Nat)(ps:List (Nat×α)):List (Nat×α):=ps.filter λp=>decide (p.1≠h)
theorem xP(h:Nat):∀{ks:List Nat} {as:List Addr},ks.length=as.length->fW (bo ks as) (.inl (h:Int))=bo (ks.filter λk=>decide (k≠h)) (dG ks as h)
 |[],[],_=>rfl
 |k::ks,a::as,e=>by
  have ih:=xP h (by simpa using e);have e0:bo (k::ks) (a::as)=(Sum.inl (k:Int),V.ref a)::bo ks as:=rfl;unfold fW at ih⊢;rw[e0,Wg,Wg];have e1:dG (k::ks) (a::as) h=(if decide (k≠h)=true then(a::dG ks as h) else dG ks as h):=by
   unfold dG;rw[J8,Wg];split<;>rfl
  rw[e1,ih];by_cases z:k=h;·grind
  ·have z':¬((Sum.inl (k:Int):Key)=.inl (h:Int)):=λw=>z (by have:=zN w;omega);rw[if_pos (by simp[z']),if_pos (by simp[z]),if_pos (by simp[z])];rfl
 |[],_::_,e=>rfl
 |_::_,[],e=>by simp at e
theorem mP{α:Type}(h:Nat):∀ps:List (Nat×α),(cN h ps).map (·.1)=(ps.map (·.1)).filter λk=>decide (k≠h)
 |[]=>rfl
 |p::ps=>by
  have ih:=mP h ps;unfold cN at ih⊢
  grind
theorem DQ{α:Type}{F G:Addr->Nat×α->Prop}{h:Nat}:∀{as:List Addr} {ps:List (Nat×α)},Paired F as ps->(∀a p,F a p->a∈as->p.1≠h->G a p)->Paired G (dG (ps.map (·.1)) as h) (cN h ps):=by
 intro as ps pr;induction pr with
 |nil=>intro _;exact .nil
 |@cons a p as ps f t ih=>
  intro k;have e1:dG ((p::ps).map (·.1)) (a::as) h=(if decide (p.1≠h)=true then(a::dG (ps.map (·.1)) as h) else dG (ps.map (·.1)) as h):=by
   unfold dG;rw[Wp,J8,Wg];split<;>rfl
  have e2:cN h (p::ps)=(if decide (p.1≠h)=true then(p::cN h ps) else cN h ps):=by
   unfold cN
   grind
  rw[e1,e2];by_cases z:p.1=h;·grind
  ·rw[if_pos (by simp[z]),if_pos (by simp[z])];exact .cons (k a p f Yk z) (ih λb q fb hb nq=>k b q fb (Yx _ hb) nq)
theorem yc{h:Nat}:∀{ks:List Nat} {as:List Addr},(dG ks as h).Sublist as
 |[],as=>by
  unfold dG;simp_all
 |_::_,[]=>by
  unfold dG;simp_all
 |k::ks,a::as=>by
  have ih:=yc (h:=h) (ks:=ks) (as:=as);have e1:dG (k::ks) (a::as) h=(if decide (k≠h)=true then(a::dG ks as h) else dG ks as h):=by
   unfold dG;rw[J8,Wg];split<;>rfl
  grind
theorem rZ{α:Type}{h k:Nat}(ne:k≠h):∀{ps:List (Nat×α)},(cN h ps).lookup k=ps.lookup k
 |[]=>rfl
 |p::ps=>by
  have ih:=rZ ne (ps:=ps);have e2:cN h (p::ps)=(if decide (p.1≠h)=true then(p::cN h ps) else cN h ps):=by
   unfold cN
   grind
  grind
theorem Zh{α:Type}{F G:Addr->Nat×α->Prop}{h:Nat}{m:Addr}{v:α}(new:∀k,G m (k,v)):∀{as:List Addr} {ps:List (Nat×α)},Paired F as ps->as.Nodup->(ps.map (·.1)).Nodup->aO (bo (ps.map (·.1)) as) (.inl (h:Int))=some (.ref m)->(∀a p,F a p->a∈as->a≠m->G a p)->Paired G as (dX h v ps):=by
 intro as ps pr;induction pr with
 |nil=>intro _ _ e _;cases e
 |@cons a p as ps f t ih=>
  intro n1 n2 e k;have e0:bo ((p::ps).map (·.1)) (a::as)=(Sum.inl (p.1:Int),V.ref a)::bo (ps.map (·.1)) as:=rfl;have e2:dX h v (p::ps)=(if p.1=h then(p.1,v) else p)::dX h v ps:=rfl;rw[Y1] at n1;rw[Wp,Y1] at n2;rw[e2];by_cases z:p.1=h
  ·rw[e0,e_ (p:=((Sum.inl (p.1:Int):Key),V.ref a)) (by rw[z])] at e;have ea:a=m:=V.ref.inj (Ys e);have same:dX h v ps=ps:=by
    unfold dX;refine(Wo λq hq=>?_).trans (List.map_id _);rw[if_neg λw=>n2.1 (by rw[z,←w];exact Yf.mpr ⟨q,hq,rfl⟩)];rfl
   rw[if_pos z,same,ea];refine .cons (new p.1) (L2.Paired.bI (su t) λb q hb=>k b q hb.1 (Yx _ hb.2) λw=>n1.1 (by rw[ea,←w];exact hb.2))
  ·rw[e0,eM (p:=((Sum.inl (p.1:Int):Key),V.ref a)) (λw=>z (by have:=zN w;omega))] at e;rw[if_neg z];have am:a≠m:=λw=>by
    have:∀{ks:List Nat} {bs:List Addr},aO (bo ks bs) (.inl (h:Int))=some (.ref m)->m∈bs:=λ{ks}=>by
     induction ks with
     |nil=>intro bs q;unfold bo at q;rw[List.zip_nil_left] at q;cases q
     |cons x xs ih=>
      intro bs q;cases bs with
      |nil=>unfold bo at q;rw[List.zip_nil_right] at q;cases q
      |cons b bs=>
       have e0:bo (x::xs) (b::bs)=(Sum.inl (x:Int),V.ref b)::bo xs bs:=rfl;rw[e0] at q;by_cases y:x=h
       ·rw[e_ (p:=((Sum.inl (x:Int):Key),V.ref b)) (by rw[y])] at q;have eb:b=m:=V.ref.inj (Ys q);rw[eb];exact Yk
       ·rw[eM (p:=((Sum.inl (x:Int):Key),V.ref b)) (λw=>y (by have:=zN w;omega))] at q;exact Yx _ (ih q)
    exact n1.1 (by rw[w];exact this e)
   exact .cons (k a p f Yk am) (ih n1.2 n2.2 e λb q fb hb nb=>k b q fb (Yx _ hb) nb)
def nY(a8:List Int)(ld:List (List Int))(i:Nat):List (List Int):=ld.set i (bH (ld.getD i []) a8)
theorem ie(xs ys:List Int):(bH xs ys).length=ys.length:=by unfold bH;rw[Ya]
theorem ZdY{xs ys:List Int}{n:Nat}(hx:∀x∈xs,0<=x/\x<n)(hy:∀y∈ys,0<=y/\y<xs.length):∀z∈bH xs ys,0<=z/\z<n:=λz hz=>by
 obtain⟨y,my,rfl⟩:=Yf.mp hz;obtain⟨y0,y1⟩:=hy y my;have hl:y.toNat<xs.length:=by omega
 have e:xs.getD y.toNat 0=xs[y.toNat]:=by rw[Yj,Yc hl];rfl
 simp_all
def jb(hb:Nat)(mv:List Nat)(hd:List Nat):List Nat:=mv.foldl (λacc i=>acc.set i hb) hd
def fX(a8:List Int)(mv:List Nat)(ld:List (List Int)):List (List Int):=mv.foldl (nY a8) ld
def JS.mv(st:JS)(hb hm:Nat)(mb mv:List Nat)(a8:List Int):JS:=⟨jb hb mv st.hd,fX a8 mv st.ld,dX hb (mb++mv) (cN hm st.mem),cN hm st.fr⟩
inductive OQ(C:Addr)(vs:List V)(H:Hp)(Q:VK):Prop
 |mk (l:JL) (st:JS) (n a b ha hb:Nat) (ta tb tn fm:List Int) (tu:Addr) (ma mb:List Nat) (aC:vs=[.ref l.J,.int (a:Int),.int (b:Int),.ref tu]) (aV:cC H C n l st) (bc:H tu=some (.tup (tn.map V.int))) (bO:n<=8) (cG:tn.length=n) (dH:full tn=true) (gc:st.hd[a]?=some ha) (g_:st.hd[b]?=some hb) (nT:st.ld[a]?=some ta) (t4:st.ld[b]?=some tb) (G1:(∀t∈st.ld,full t=true/\t.length=n)) (Si:st.ld.length=st.hd.length) (ZgB:st.mem.lookup ha=some ma) (ZgC:st.mem.lookup hb=some mb) (ZgD:st.fr.lookup ha=some fm) (ZgE:ha≠hb) (ZgF:(∀i∈ma,i<st.hd.length)) (ZgG:ma.length+mb.length<=1000) (ZgH:(st.mem.map (·.1)).Nodup) (ZgI:∀(l':JL) (H':Hp),l'.J=l.J->(∀c∈l'.fp,c∈l.fp)->Out l.fp H H'->cC H' C n l' (st.mv hb ha mb ma (bH (inv ta) (bH tn tb)))->Q .aA H'):OQ C vs H Q
def Qv(C:Addr):Sp:=λvs H Q _=>OQ C vs H Q
theorem uK{α β:Type}{g:List α->β->List α}(hg:∀acc i,(g acc i).length=acc.length):∀(is:List β) (xs:List α),(is.foldl g xs).length=xs.length
 |[],_=>rfl
 |i::is,xs=>by
  rw[List.foldl_cons,uK hg is,hg]
theorem LR{α β:Type}{g:List α->β->List α}{is:List β}{j:Nat}{i:β}(h:is[j]?=some i)(xs:List α):(is.take (j+1)).foldl g xs=g ((is.take j).foldl g xs) i:=by
 rw[Yy,h,List.foldl_append];rfl
theorem Zcl(is:List Nat)(i k:Nat):(dE is).set i (.int (k:Int))=dE (is.set i k):=by
 simp_all
theorem LS{α β:Type}{F:α->β->Prop}{x:α}{y:β}(f:F x y):∀{xs:List α} {ys:List β} (i:Nat),Paired F xs ys->Paired F (xs.set i x) (ys.set i y)
 |_,_,_,.nil=>.nil
 |_,_,0,.cons _ t=>.cons f t
 |_,_,i+1,.cons g t=>.cons g (LS f i t)
theorem oB{xs ys:List Int}(fx:full xs=true)(fy:full ys=true)(e:xs.length=ys.length):full (bH xs ys)=true:=by
 have p1:(bH xs ys).Perm ((bp ys.length).map λx=>xs.getD x.toNat 0):=(oy fy).map _;have e2:((bp ys.length).map λx=>xs.getD x.toNat 0)=xs:=by
  refine Wv λi=>?_;rw[Yg];by_cases hi:i<ys.length
  ·rw[kr hi]
   grind
  ·rw[Y5 (by rw[eF];omega),Y5 (by omega)];rfl
 rw[e2] at p1;exact p_ (p1.trans (oy fx))
inductive Gp(H5:Hp)(l:JL)(hd:List Nat)(ld:List (List Int))(n:Nat)(sg:Option V->St)(σ:St)(H6:Hp):Prop
 |mk (gw:List Addr) (o9:Option V) (k1:H6 l.ha=some (.lst (dE hd))) (k2:H6 l.la=some (.lst (gw.map V.ref))) (k3:Paired (λa (xs:List Int)=>H6 a=some (.tup (xs.map V.int))) gw ld) (k4:∀t∈ld,full t=true/\t.length=n) (kp:∀c o,H5 c=some o->c≠l.ha->c≠l.la->H6 c=some o) (e:σ=sg o9):Gp H5 l hd ld n sg σ H6
def Sj(l:JL)(a b hb ha:Int)(tu tm to mo:Addr)(o9:Option V):St:=[some (.ref l.J),some (.int a),some (.int b),some (.ref tu),some (.int hb),some (.int ha),some (.ref tm),some (.ref to),some (.ref mo),o9]
section
theorem pQ:aQ ["self","mover","stayer","turn","head","old_head","to_mover","to_old_head","moved","number"] ["self","mover","stayer","turn"] (aL Cu):=⟨rfl,rfl,rfl,by decide+kernel,rfl,by decide+kernel,by decide+kernel⟩
theorem Zcm(F:aM K "move" "Joins.move" Cu f fd)(jc:kB K C)(ou:HasFn P w K mg base 1 "followed" ["first","then"] (Gk K))(mI:HasFn P w K mg base 1 "turned_back" ["turn"] y6)(bl:Bl mg):aG P w K mg base aN 2 f fd ["self","mover","stayer","turn"] (Qv C):=by
 refine F.ok pQ (λvs H Q E h=>?_) (λaE A outer s H vs Q E hr h=>?_)
 ·obtain⟨l,st,n,a,b,ha,hb,ta,tb,tn,fm,tu,ma,mb,rfl,_⟩:=h;rfl
 obtain⟨l,st,n,a,b,ha,hb,ta,tb,tn,fm,tu,ma,mb,rfl,ja,hu,n8,tl,ft,hA,hB,lA,lB,fl,ll,mA,mB,fA,neq,min,lm,ndk,q⟩:=h;refine⟨_,(aj (bg (i:=4) pQ.nd rfl (Or.inl rfl) (a9 (cB (K:=K) rfl) (aW (K:=K) rfl (pv 0) rfl) (pv 2) (λ_ _=>rfl))) (aj (bg (i:=5) pQ.nd rfl (Or.inl rfl) (a9 (cB (K:=K) rfl) (aW (K:=K) rfl (pv 0) rfl) (pv 1) (λ_ _=>rfl))) (aj (bg (i:=6) pQ.nd rfl (Or.inl rfl) (aT ou hr (by omega) rfl (aa (a9 (cB (K:=K) rfl) (aW (K:=K) rfl (pv 0) rfl) (pv 2) (λ_ _=>rfl)) (aa (pv 3) ae)))) (aj (bg (i:=7) pQ.nd rfl (Or.inl rfl) (aT ou hr (by omega) rfl (aa (pv 6) (aa (aT mI hr (by omega) rfl (aa (a9 (cB (K:=K) rfl) (aW (K:=K) rfl (pv 0) rfl) (pv 1) (λ_ _=>rfl)) ae)) ae)))) (aj (bg (i:=8) pQ.nd rfl (Or.inl rfl) (Mn (aW (K:=K) rfl (pv 0) rfl) (pv 5) ⟨rfl,rfl,rfl,rfl⟩)) (aj (cz (Mn (aW (K:=K) rfl (pv 0) rfl) (pv 5) ⟨rfl,rfl,rfl,rfl⟩)) (aj (fT PassesOwn.never rfl (fR (K:=K) rfl (pv 8)) (bj (i:=9) pQ.nd rfl (Or.inl rfl)) (aj (Oy (aW (K:=K) rfl (pv 0) rfl) (pv 9) Mi (pv 4)) (aq (Oy (aW (K:=K) rfl (pv 0) rfl) (pv 9) Mi (aT ou hr (by omega) rfl (aa (pv 7) (aa (a9 (cB (K:=K) rfl) (aW (K:=K) rfl (pv 0) rfl) (pv 9) (λ_ _=>rfl)) ae))))))) (aq (cz (m6 (K:=K) rfl (jO plainAttrs_list PySem.F.slot_list_extend PySem.F.type_list_extend YO (c9 (bB hr) (aW (K:=K) rfl (pv 0) rfl) (pv 4) (λ_ _=>rfl)) (aa (pv 8) ae)))))))))))),?_⟩;have sz:(10000:Nat)<=sizeLine:=by rw[sizeLine_eq];omega
 obtain⟨dx,ho⟩:=ja.obj;have vM:∀{i:Nat} {t:List Int},st.ld[i]?=some t->∃x,l.eA[i]?=some x/\H x=some (.tup (t.map V.int)):=λ{i t} ht=>by
  have hl:=cU ja.lead;have dC:i<l.eA.length:=by rw[hl];exact(Yh.mp ht).1
  obtain⟨y,ey,hy⟩:=fQ ja.lead (Yc dC);rw[ht] at ey;cases ey;exact⟨_,Yc dC,hy⟩
 obtain⟨xa,exa,IH⟩:=vM lA;obtain⟨xb,exb,II⟩:=vM lB;have ata:dI (l.eA.map V.ref) (a:Int)=some (.ref xa):=gq (by rw[Yg,exa];rfl);have atb:dI (l.eA.map V.ref) (b:Int)=some (.ref xb):=gq (by rw[Yg,exb];rfl);obtain⟨TL,lta⟩:=fl ta (Ye lA);obtain⟨IJ,IK⟩:=fl tb (Ye lB);obtain⟨mo,wQ,vmo,TM⟩:=mM (f:=λv:List Nat=>HO.lst (dE v)) ja.mem mA;obtain⟨ms,mms,vms,hms⟩:=mM (f:=λv:List Nat=>HO.lst (dE v)) ja.mem mB;obtain⟨fo,mfo,vfo,hfo⟩:=mM (f:=λv:List Int=>HO.lst (v.map V.int)) ja.free fA;have ID:=cU ja.mem;have zP:=cU ja.free;have nd:=ja.nd;have zR:∀{x:Addr},x∈l.fC->x∈l.fp:=λ{x} h=>by simp[JL.fp,h]
 simp only[JL.fp,Y1,Yp,not_or] at nd;obtain⟨⟨x1,x2,x3,x4,x5⟩,⟨y1,y2,y3,y4⟩,⟨z1,z2,z3⟩,⟨w1,w2⟩,v1,v2⟩:=nd;refine cy ?_;refine⟨_,rfl,l.J,C,dx,_,_,rfl,ho,jc.cls,jc.iZ,rfl,_,rfl,l.ha,_,_,_,rfl,rfl,ak.of ja.heads,mX hB,?_⟩;refine cy ?_;refine⟨_,rfl,l.J,C,dx,_,_,rfl,ho,jc.cls,jc.iZ,rfl,_,rfl,l.ha,_,_,_,rfl,rfl,ak.of ja.heads,mX hA,?_⟩;refine cy ?_;refine⟨_,rfl,l.J,C,dx,_,_,rfl,ho,jc.cls,jc.lK,rfl,_,rfl,l.la,_,_,_,rfl,rfl,ak.of ja.gU,atb,_,rfl,xb,tu,tb,tn,rfl,ay.of II,ay.of hu,λx hx=>by rw[tl,←IK];exact oF IJ hx,by omega,λtm H1 TK g1 htm=>?_⟩;refine cy ?_;refine⟨_,rfl,_,rfl,l.J,C,dx,_,_,rfl,g1 _ _ ho,jc.cls,jc.lK,rfl,_,rfl,l.la,_,_,_,rfl,rfl,ak.of (g1 _ _ ja.gU),ata,xa,ta,rfl,g1 _ _ IH,by omega,TL,λti H2 nti g2 zS=>?_⟩;refine⟨tm,ti,bH tn tb,inv ta,rfl,ay.of (g2 _ _ htm),ay.of zS,?_,by rw[ie];omega,λto H3 zT g3 TN=>?_⟩
 ·rw[eZ,lta];exact ZdY (n:=n) (λx hx=>by rw[←tl];exact oF ft hx) (λy hy=>by rw[tl,←IK];exact oF IJ hy)
 have iQ:=(g1.trans g2).trans g3;generalize Zft:bH (inv ta) (bH tn tb)=a8 at TN q;have tL:full a8=true/\a8.length=n:=by
  rw[←Zft];refine⟨oB (iX TL) (oB ft IJ (by omega)) (by rw[eZ,ie];omega),by rw[ie,ie];exact IK⟩
 refine cy ?_;refine⟨_,rfl,l.J,C,dx,_,_,rfl,iQ _ _ ho,jc.cls,jc.sr,rfl,l.md,rfl,.inl ⟨_,.inl (iQ _ _ ja.iK)⟩,_,rfl,_,.inl (ha:Int),.ref mo,iQ _ _ ja.iK,rfl,vmo,λH4 b4 e4=>?_⟩;rw[xP ha (by rw[Ya];exact ID.symm)] at e4;have o4:=b4 _ _ (iQ _ _ ho) x3;have f4:=b4 _ _ (iQ _ _ ja.frees) (λz=>w1 z.symm);refine⟨_,rfl,l.J,C,dx,_,_,rfl,o4,jc.cls,jc.oM,rfl,l.fd,rfl,.inl ⟨_,.inl f4⟩,_,rfl,_,.inl (ha:Int),.ref fo,f4,rfl,vfo,λH5 b5 e5=>?_⟩;rw[xP ha (by rw[Ya];exact zP.symm)] at e5;have kJ:∀c o,H c=some o->c≠l.md->c≠l.fd->H5 c=some o:=λc o e n1 n2=>b5 _ _ (b4 _ _ (iQ _ _ e) n1) n2;have e45:H5 l.md=some _:=b5 _ _ e4 w1;have oV:∀{x:Addr},x∈l.fC->x≠l.ha/\x≠l.la/\x≠l.md/\x≠l.fd:=λ{x} hx=>⟨λz=>y4 (by rw[←z];exact hx),λz=>z3 (by rw[←z];exact hx),λz=>w2 (by rw[←z];exact hx),λz=>v1 (by rw[←z];exact hx)⟩;have TQ:=kJ _ _ TM (oV wQ).2.2.1 (oV wQ).2.2.2;have ua:H5 to=some (.tup (a8.map V.int)):=by
  have n1:to≠l.md:=λz=>by rw[z,g1.trans g2 _ _ ja.iK] at zT;cases zT
  have n2:to≠l.fd:=λz=>by rw[z,g1.trans g2 _ _ ja.frees] at zT;cases zT
  exact b5 _ _ (b4 _ _ TN n1) n2
 dsimp only;have IL:(dE ma).length=ma.length:=Ya _;have hlen:∀is:List Nat,(jb hb is st.hd).length=st.hd.length:=λis=>uK (λ_ _=>Ja) is st.hd;have Zfu:∀is:List Nat,(fX a8 is st.ld).length=st.ld.length:=λis=>uK (λ_ _=>by unfold nY;exact Ja) is st.ld;refine gu (Gp H5 l (jb hb ma st.hd) (fX a8 ma st.ld) n (Sj l a b hb ha tu tm to mo)) (λl_ eS=>?_) ?_
 ·refine⟨_,rfl,mo,rfl,⟨_,ak.of TQ⟩,jH (K:=K) (a:=mo) (xs:=dE ma) (λj=>Gp H5 l (jb hb (ma.take j) st.hd) (fX a8 (ma.take j) st.ld) n (Sj l a b hb ha tu tm to mo))
   ⟨l.eA,none,kJ _ _ ja.heads y2 y3,kJ _ _ ja.gU z1 z2,L2.Paired.bI ja.lead λc xs e=>kJ c _ e (dm e ja.iK (λz=>by cases z)) (dm e ja.frees (λz=>by cases z)),fl,λc o e _ _=>e,rfl⟩
   (λj σ H6 _ ⟨_,_,_,_,_,_,kp,_⟩=>ak.of (kp _ _ TQ (oV wQ).1 (oV wQ).2.1)) ?_ ?_⟩
  ·rintro j v σ H6 hj ⟨gw,o9,k1,k2,k3,k4,kp,rfl⟩;rw[Yg] at hj;obtain⟨i,mi,rfl⟩:∃i,ma[j]?=some i/\V.int (i:Int)=v:=by
    cases e:ma[j]? with
    |none=>rw[e] at hj;cases hj
    |some i=>rw[e] at hj;exact⟨i,rfl,Ys hj⟩
   have hi:=min i (Ye mi);have il:i<(fX a8 (ma.take j) st.ld).length:=by rw[Zfu];omega
   have Zgr:=cU k3;obtain⟨t,et,zS⟩:=fQ k3 (Yc (show i<gw.length by omega));obtain⟨ftt,TR⟩:=k4 t (Ye et);have oJ:=kp _ _ (kJ _ _ ho x3 x4) x1 x2;have ixh:jX (dE (jb hb (ma.take j) st.hd)).length (i:Int)=some i:=by
    rw[FO (by omega) (by rw[Ya,hlen];omega),Y6]
   have ixl:jX (gw.map V.ref).length (i:Int)=some i:=by
    rw[FO (by omega) (by rw[Ya];omega),Y6]
   refine bu ?_;refine⟨_,rfl,_,rfl,l.J,C,dx,_,_,rfl,oJ,jc.cls,jc.iZ,rfl,_,rfl,l.ha,_,_,i,rfl,rfl,k1,ixh,λH7 b7 e7=>?_⟩;have TU:=b7 _ _ oJ x1;have wR:=b7 _ _ k2 (λz=>y1 z.symm);have to7:H7 to=some (.tup (a8.map V.int)):=b7 _ _ (kp _ _ ua (dm ua (kJ _ _ ja.heads y2 y3) (λz=>by cases z)) (dm ua (kJ _ _ ja.gU z1 z2) (λz=>by cases z))) (dm (kp _ _ ua (dm ua (kJ _ _ ja.heads y2 y3) (λz=>by cases z)) (dm ua (kJ _ _ ja.gU z1 z2) (λz=>by cases z))) k1 (λz=>by cases z));have x7:H7 gw[i]=some (.tup (t.map V.int)):=b7 _ _ zS (dm zS k1 (λz=>by cases z));have atx:dI (gw.map V.ref) (i:Int)=some (.ref gw[i]):=gq (by rw[Yg,Yc (show i<gw.length by omega)];rfl);refine⟨_,rfl,_,rfl,l.J,C,dx,_,_,rfl,TU,jc.cls,jc.lK,rfl,_,rfl,l.la,_,_,_,rfl,rfl,ak.of wR,atx,to,gw[i],a8,t,rfl,ay.of to7,ay.of x7,λx hx=>by rw[TR,←tL.2];exact oF tL.1 hx,by have:=tL.2;omega,λtt H8 TV g8 htt=>?_⟩;refine⟨_,rfl,l.J,C,dx,_,_,rfl,g8 _ _ TU,jc.cls,jc.lK,rfl,_,rfl,l.la,_,_,i,rfl,rfl,g8 _ _ wR,ixl,λH9 b9 e9=>?_⟩;have gt:(fX a8 (ma.take j) st.ld).getD i []=t:=by rw[Yj,et];rfl
   have eh:jb hb (ma.take (j+1)) st.hd=(jb hb (ma.take j) st.hd).set i hb:=LR mi st.hd;have el:fX a8 (ma.take (j+1)) st.ld=(fX a8 (ma.take j) st.ld).set i (bH t a8):=by
    have e1:fX a8 (ma.take (j+1)) st.ld=nY a8 (fX a8 (ma.take j) st.ld) i:=LR mi st.ld;rw[e1,←gt];rfl
   have IG:tt≠l.la:=λz=>by rw[z,wR] at TV;cases TV
   have h9:∀c o,H6 c=some o->c≠l.ha->c≠l.la->H9 c=some o:=λc o e n1 n2=>b9 _ _ (g8 _ _ (b7 _ _ e n1)) n2;refine⟨gw.set i tt,_,?_,?_,?_,?_,λc o e n1 n2=>h9 c o (kp c o e n1 n2) n1 n2,rfl⟩
   ·rw[eh,←Zcl];exact b9 _ _ (g8 _ _ e7) y1
   ·rw[e9,List.map_set]
   ·rw[el];exact LS (F:=λa (xs:List Int)=>H9 a=some (.tup (xs.map V.int))) (b9 _ _ htt IG) i (L2.Paired.bI k3 λc xs e=>h9 c _ e (dm e k1 (λz=>by cases z)) (dm e k2 (λz=>by cases z)))
   ·intro u wU;rw[el] at wU;rcases List.mem_or_eq_of_mem_set wU with z|z;·exact k4 u z
    ·rw[z];exact⟨oB ftt tL.1 (by rw[TR,tL.2]),by rw[ie];exact tL.2⟩
  ·rintro σ H6 ⟨gw,o9,k1,k2,k3,k4,kp,rfl⟩;rw[IL,Y8] at k1 k3 k4;exact eS _ _ ⟨gw,o9,k1,k2,k3,k4,kp,rfl⟩
 rintro σ H6 ⟨gw,o9,k1,k2,k3,k4,kp,rfl⟩;have oJ:=kp _ _ (kJ _ _ ho x3 x4) x1 x2;have TX:=kp _ _ e45 (λz=>y2 z.symm) (λz=>z1 z.symm);have fd6:=kp _ _ e5 (λz=>y3 z.symm) (λz=>z2 z.symm);have zU:=oV mms;have zV:=oV wQ;have vN:∀c o,H c=some o->c≠l.ha->c≠l.la->c≠l.md->c≠l.fd->H6 c=some o:=λc o e n1 n2 n3 n4=>kp _ _ (kJ _ _ e n3 n4) n1 n2;have ms6:=vN _ _ hms zU.1 zU.2.1 zU.2.2.1 zU.2.2.2;have mo6:=vN _ _ TM zV.1 zV.2.1 zV.2.2.1 zV.2.2.2;have TY:Paired (λc (p:Nat×List Nat)=>H6 c=some (.lst (dE p.2))/\c∈l.fC) (dG (st.mem.map (·.1)) l.fC ha) (cN ha st.mem):=DQ ja.mem λc p e mc _=>by
  obtain⟨q1,q2,q3,q4⟩:=oV mc;exact⟨vN _ _ e q1 q2 q3 q4,mc⟩
 have lkB:(cN ha st.mem).lookup hb=some mb:=by rw[rZ (λz=>neq z.symm)];exact mB
 obtain⟨ub,Zfv,G3,G4⟩:=mM (f:=λv:List Nat=>HO.lst (dE v)) (L2.Paired.bI TY λ_ _ h=>h.1) lkB;rw[mP] at G3;have yN:ub∈l.fC:=yc.subset Zfv;refine⟨_,rfl,l.J,C,dx,_,_,rfl,oJ,jc.cls,jc.sr,rfl,_,rfl,l.md,.ref ub,rfl,oN TX G3,.inl ⟨rfl,_,ak.of G4⟩,_,rfl,ub,mo,_,_,rfl,rfl,G4,mo6,by rw[IL,Ya];omega,λH7 b7 e7=>?_⟩;obtain⟨r1,r2,r3,r4⟩:=oV yN;have sub:=yc (h:=ha) (ks:=st.mem.map (·.1)) (as:=l.fC);have Zfw:=yc (h:=ha) (ks:=st.fr.map (·.1)) (as:=l.bU);have TZ:∀c∈JL.fp ⟨l.J,l.ha,l.la,l.md,l.fd,gw,dG (st.mem.map (·.1)) l.fC ha,dG (st.fr.map (·.1)) l.bU ha⟩,c∈l.fp:=λc hc=>by
  simp only[JL.fp,Yp] at hc⊢;rcases hc with h|h|h|h|h|h;·exact .inl h
  ·exact .inr (.inl h)
  ·exact .inr (.inr (.inl h))
  ·exact .inr (.inr (.inr (.inl h)))
  ·exact .inr (.inr (.inr (.inr (.inl h))))
  ·exact .inr (.inr (.inr (.inr (.inr (sub.subset h)))))
 have h7:∀c o,H6 c=some o->c≠ub->H7 c=some o:=λc o e n1=>b7 _ _ e n1;refine q ⟨l.J,l.ha,l.la,l.md,l.fd,gw,dG (st.mem.map (·.1)) l.fC ha,dG (st.fr.map (·.1)) l.bU ha⟩ H7 rfl TZ (λc o e nc=>?_) ⟨⟨dx,h7 _ _ oJ (λz=>x5 (by rw[z];exact yN))⟩,h7 _ _ k1 (λz=>r1 z.symm),h7 _ _ k2 (λz=>r2 z.symm),L2.Paired.bI k3 λc xs e=>h7 c _ e (dm e G4 (λz=>by cases z)),?_,?_,?_,?_,?_,λc hc z=>?_⟩
 ·simp only[JL.fp,Yp,not_or] at nc;exact h7 _ _ (vN _ _ e nc.2.1 nc.2.2.1 nc.2.2.2.1 nc.2.2.2.2.1) (λz=>nc.2.2.2.2.2 (by rw[z];exact yN))
 ·show H7 l.md=some (.dK (bo ((dX hb (mb++ma) (cN ha st.mem)).map (·.1)) _));rw[pZ,mP];exact h7 _ _ TX (λz=>r3 z.symm)
 ·refine Zh (F:=λc (p:Nat×List Nat)=>H6 c=some (.lst (dE p.2))/\c∈l.fC) (m:=ub) (λk=>?_) TY (sub.nodup v2) ?_ (by rw[mP];exact G3) λc p e _ nc=>h7 _ _ e.1 nc
  ·show H7 ub=some (.lst (dE (mb++ma)));rw[e7,dE,dE,dE,Ym]
  ·rw[mP];exact ndk.filter _
 ·show H7 l.fd=some (.dK (bo ((cN ha st.fr).map (·.1)) _));rw[mP];exact h7 _ _ fd6 (λz=>r4 z.symm)
 ·refine DQ ja.free λc p e mc _=>?_;have no:=ja.out c mc;simp only[JL.fp,Yp,not_or] at no;exact h7 _ _ (vN _ _ e no.2.1 no.2.2.1 no.2.2.2.1 no.2.2.2.2.1) (λz=>no.2.2.2.2.2 (by rw[z];exact yN))
 ·have e0:(JL.fp ⟨l.J,l.ha,l.la,l.md,l.fd,gw,dG (st.mem.map (·.1)) l.fC ha,dG (st.fr.map (·.1)) l.bU ha⟩).Sublist l.fp:=(((((sub.cons₂ l.fd).cons₂ l.md).cons₂ l.la).cons₂ l.ha).cons₂ l.J);exact e0.nodup ja.nd
 ·exact ja.out c (Zfw.subset hc) (TZ c z)
end
structure Sk(st:JS)(n a b ha hb:Nat)(ta tb fma uc:List Int)(ma mb:List Nat):Prop where
 hA:st.hd[a]?=some ha
 hB:st.hd[b]?=some hb
 lA:st.ld[a]?=some ta
 lB:st.ld[b]?=some tb
 fl:∀t∈st.ld,full t=true/\t.length=n
 ll:st.ld.length=st.hd.length
 mA:st.mem.lookup ha=some ma
 mB:st.mem.lookup hb=some mb
 fA:st.fr.lookup ha=some fma
 fB:st.fr.lookup hb=some uc
 ne:ha≠hb
 iA:∀i∈ma,i<st.hd.length
 iB:∀i∈mb,i<st.hd.length
 lm:ma.length+mb.length<=1000
 nd:(st.mem.map (·.1)).Nodup
inductive NA(C:Addr)(vs:List V)(H:Hp)(Q:VK):Prop
 |mk (l:JL) (st:JS) (n a b ha hb:Nat) (ta tb tn fma uc:List Int) (tu:Addr) (ma mb:List Nat) (aC:vs=[.ref l.J,.int (a:Int),.int (b:Int),.ref tu]) (aV:cC H C n l st) (bc:H tu=some (.tup (tn.map V.int))) (bO:n<=8) (cG:tn.length=n) (dH:full tn=true) (gc:Sk st n a b ha hb ta tb fma uc ma mb) (g_:∀(l':JL) (aK:JS) (H':Hp),l'.J=l.J->(∀c∈l'.fp,c∈l.fp)->Out l.fp H H'->cC H' C n l' aK->(aK=st.mv hb ha mb ma (bH (inv ta) (bH (inv tn) tb))\/aK=st.mv ha hb ma mb (bH (inv tb) (bH tn ta)))->Q .aA H'):NA C vs H Q
def OR(C:Addr):Sp:=λvs H Q _=>NA C vs H Q
section
theorem U_:aQ ["self","one","other","turn"] ["self","one","other","turn"] (aL Av):=⟨rfl,rfl,rfl,by decide+kernel,rfl,by decide+kernel,by decide+kernel⟩
theorem Zbe(F:aM K "bring_together" "Joins.bring_together" Av f fd)(jc:kB K C)(mI:HasFn P w K mg base 1 "turned_back" ["turn"] y6)(xF:cA P w K mg base 2 "move" C ["self","mover","stayer","turn"] (Qv C))(bl:Bl mg):aG P w K mg base aN 3 f fd ["self","one","other","turn"] (OR C):=by
 refine F.ok U_ (λvs H Q E h=>?_) (λaE A outer s H vs Q E hr h=>?_)
 ·obtain⟨l,st,n,a,b,ha,hb,ta,tb,tn,fma,uc,tu,ma,mb,rfl,_⟩:=h;rfl
 obtain⟨l,st,n,a,b,ha,hb,ta,tb,tn,fma,uc,tu,ma,mb,rfl,ja,hu,n8,tl,ft,two,q⟩:=h;refine⟨_,(aq (aS (aZ lQ (bJ (c5 (K:=K) rfl) rfl bl.cQ cP (aa (c9 (bB hr) (aW (K:=K) rfl (pv 0) rfl) (a9 (cB (K:=K) rfl) (aW (K:=K) rfl (pv 0) rfl) (pv 1) (λ_ _=>rfl)) (λ_ _=>rfl)) ae)) (bJ (c5 (K:=K) rfl) rfl bl.cQ cP (aa (c9 (bB hr) (aW (K:=K) rfl (pv 0) rfl) (a9 (cB (K:=K) rfl) (aW (K:=K) rfl (pv 0) rfl) (pv 2) (λ_ _=>rfl)) (λ_ _=>rfl)) ae)) (aR _)) (aq (cz (cJ xF hr (by omega) (pv 0) (aa (pv 1) (aa (pv 2) (aa (aT mI hr (by omega) rfl (aa (pv 3) ae)) ae)))))) (aq (cz (cJ xF hr (by omega) (pv 0) (aa (pv 2) (aa (pv 1) (aa (pv 3) ae)))))))),?_⟩;obtain⟨dx,ho⟩:=ja.obj;obtain⟨xa,mxa,vxa,IH⟩:=mM (f:=λv:List Nat=>HO.lst (dE v)) ja.mem two.mA;obtain⟨xb,mxb,vxb,II⟩:=mM (f:=λv:List Nat=>HO.lst (dE v)) ja.mem two.mB;refine⟨_,rfl,l.J,C,dx,_,_,rfl,ho,jc.cls,jc.sr,rfl,_,rfl,l.J,C,dx,_,_,rfl,ho,jc.cls,jc.iZ,rfl,_,rfl,l.ha,_,_,_,rfl,rfl,ak.of ja.heads,mX two.hA,l.md,.ref xa,rfl,oN ja.iK vxa,xa,_,rfl,.inl (ak.of IH),?_⟩;refine⟨_,rfl,l.J,C,dx,_,_,rfl,ho,jc.cls,jc.sr,rfl,_,rfl,l.J,C,dx,_,_,rfl,ho,jc.cls,jc.iZ,rfl,_,rfl,l.ha,_,_,_,rfl,rfl,ak.of ja.heads,mX two.hB,l.md,.ref xb,rfl,oN ja.iK vxb,xb,_,rfl,.inl (ak.of II),_,_,rfl,rfl,_,rfl,bC (λ_=>?_) (λ_=>?_)⟩
 ·refine⟨_,rfl,l.J,dx,_,rfl,ho,rfl,_,rfl,_,rfl,_,rfl,tu,tn,rfl,hu,by omega,ft,λtv H1 ntv g1 htv=>?_⟩;refine⟨l,st,n,a,b,ha,hb,ta,tb,inv tn,fma,tv,ma,mb,rfl,ja.same g1,htv,n8,by rw[eZ];exact tl,iX ft,two.hA,two.hB,two.lA,two.lB,two.fl,two.ll,two.mA,two.mB,two.fA,two.ne,two.iA,two.lm,two.nd,λl' H2 k1 k2 o2 j2=>q l' _ H2 k1 k2 ((Out.of g1).trans o2) j2 (.inl rfl)⟩
 ·refine⟨_,rfl,l.J,dx,_,rfl,ho,rfl,_,rfl,_,rfl,_,rfl,?_⟩;exact⟨l,st,n,b,a,hb,ha,tb,ta,tn,uc,tu,mb,ma,rfl,ja,hu,n8,tl,ft,two.hB,two.hA,two.lB,two.lA,two.fl,two.ll,two.mB,two.mA,two.fB,(λz=>two.ne z.symm),two.iB,by have:=two.lm;omega,two.nd,λl' H2 k1 k2 o2 j2=>q l' _ H2 k1 k2 o2 j2 (.inr rfl)⟩
end
def Rv(H:Hp)(as:List Addr)(bQ:List (Int×Int)):Prop:=Paired (λa (p:Int×Int)=>H a=some (.tup [.int p.1,.int p.2])) as bQ
def ir(hi hj:Nat)(ti tj si sj:List Int):List (Int×Int):=if hi=hj then si.map λz=>(ti.getD z.toNat 0,tj.getD z.toNat 0) else(si.map λz=>ti.getD z.toNat 0).flatMap λx=>sj.map λz=>(x,tj.getD z.toNat 0)
inductive NB(C:Addr)(vs:List V)(H:Hp)(Q:VK):Prop
 |mk (l:JL) (st:JS) (n i j hi hj:Nat) (ti tj si sj:List Int) (aC:vs=[.ref l.J,.int (i:Int),.int (j:Int)]) (aV:cC H C n l st) (bc:qH st i hi ti si) (bO:qH st j hj tj sj) (cG:∀(p:Addr) (as:List Addr) (bQ:List (Int×Int)) (H':Hp),H p=none->ai H H'->H' p=some (.lst (as.map V.ref))->Rv H' as bQ->bQ.Perm (ir hi hj ti tj si sj)->bQ.Pairwise iq->Q (.ref p) H'):NB C vs H Q
def OS(C:Addr):Sp:=λvs H Q _=>NB C vs H Q
inductive OT(C:Addr)(vs:List V)(H:Hp)(Q:VK):Prop
 |mk (l:JL) (st:JS) (n i j hi hj:Nat) (ti tj si sj tn:List Int) (tu:Addr) (aC:vs=[.ref l.J,.int (i:Int),.int (j:Int),.ref tu]) (aV:cC H C n l st) (bc:qH st i hi ti si) (bO:qH st j hj tj sj) (cG:H tu=some (.tup (tn.map V.int))) (dH:(∀q∈ir hi hj ti tj si sj,0<=q.1/\q.1<tn.length)) (gc:(ir hi hj ti tj si sj).length<=1000) (g_:∀(p:Addr) (ns:List Int) (H':Hp),H p=none->ai H H'->H' p=some (.lst (ns.map V.int))->ns.Perm (((ir hi hj ti tj si sj).filter λq=>decide (tn.getD q.1.toNat 0=q.2)).map (·.1))->ns.Pairwise (·<·)->Q (.ref p) H'):OT C vs H Q
def FY(C:Addr):Sp:=λvs H Q _=>OT C vs H Q
section
theorem WD:aQ ["self","one","other","turn"] ["self","one","other","turn"] (aL Ct):=⟨rfl,rfl,rfl,by decide+kernel,rfl,by decide+kernel,by decide+kernel⟩
theorem Zcn(F:aM K "left" "Joins.left" Ct f fd)(B_:cA P w K mg base 3 "pairs" C ["self","one","other"] (OS C))(bl:Bl mg):aG P w K mg base aN 4 f fd ["self","one","other","turn"] (FY C):=by
 refine F.ok WD (λvs H Q E h=>?_) (λaE A outer s H vs Q E hr h=>?_)
 ·obtain⟨l,st,n,i,j,hi,hj,ti,tj,si,sj,tn,tu,rfl,_⟩:=h;rfl
 obtain⟨l,st,n,i,j,hi,hj,ti,tj,si,sj,tn,tu,rfl,ja,o1,o2,hu,fq,eP,q⟩:=h;refine⟨_,(aq (aF (ZaT (xs:=["first","second"]) (fr:=[("turn",3)]) (cl:=[("turn",s.heap.objs.size+1)]) rfl ⟨by with_unfolding_all rfl,⟨rfl,trivial⟩,rfl,by decide+kernel,by decide+kernel,rfl,⟨⟨rfl,.inl rfl,.inl rfl,rfl⟩,trivial⟩,by decide+kernel⟩ (λ_ _ _ _=>(ic (K:=K) (n:=2) rfl rfl (bW (bj (i:=0) (show(["first","second","turn"]:List Str).Nodup by decide+kernel) rfl (Or.inl rfl)) (bW (bj (i:=1) (show(["first","second","turn"]:List Str).Nodup by decide+kernel) rfl (Or.inl rfl)) ib)))) (fR (K:=K) rfl (cJ B_ hr (by omega) (pv 0) (aa (pv 1) (aa (pv 2) ae)))) (λ_ _ _ _=>va (aZ cg (a9 (eI (K:=K) rfl) (pv 2) (pv 0) (λ_ _=>rfl)) (pv 1) (aR _))) (λ_ _ _ _=>(pv 0))))),?_⟩;obtain⟨dx,ho⟩:=ja.obj;refine⟨_,rfl,l.J,dx,_,rfl,ho,rfl,_,rfl,_,rfl,l,st,n,i,j,hi,hj,ti,tj,si,sj,rfl,ja,o1,o2,λp as bQ H1 np g1 hp pr pm pw=>?_⟩;have pl:=cU pr;have al:(as.map V.ref).length=bQ.length:=by rw[Ya];exact pl
 have Sl:=pm.length_eq;refine⟨p,rfl,⟨_,ak.of hp⟩,λD hD=>YR (xs:=as.map V.ref) (λk ys H2=>k<=bQ.length/\ai H1 H2/\H2 D=some (.lst ys)/\ys=((bQ.take k).filter λq=>decide (tn.getD q.1.toNat 0=q.2)).map λq=>V.int q.1) ⟨Yw _,cq hD _,aU,rfl⟩ (λk ys H2 _ ⟨_,g2,_,_⟩=>ak.of (g2 _ _ hp)) ?_ ?_⟩
 ·rintro k v ys H2 hk ⟨_,g2,h2,ey⟩ os nN;obtain⟨u1,u2,rfl⟩:∃u1 u2,os=[u1,u2]:=by
   match os,nN with
   |[u1,u2],_=>exact⟨u1,u2,rfl⟩
  rw[Yg] at hk;obtain⟨c,ec,rfl⟩:∃c,as[k]?=some c/\V.ref c=v:=by
   cases e:as[k]? with
   |none=>rw[e] at hk;cases hk
   |some c=>rw[e] at hk;exact⟨c,rfl,Ys hk⟩
  obtain⟨⟨x,y⟩,IM,hxy⟩:=fQ pr ec;have kl:k<bQ.length:=(Yh.mp IM).1;have bx:=fq (x,y) (pm.subset (Ye IM));have hx2:=g2 _ _ hxy;have yl:ys.length<sizeLine:=by
   have:=Wk (λq:Int×Int=>decide (tn.getD q.1.toNat 0=q.2)) (bQ.take k);rw[Wa] at this;rw[ey,Ya,sizeLine_eq];omega
  refine⟨c,_,rfl,ay.of hx2,rfl,_,_,rfl,bu ⟨_,_,rfl,bu ⟨rfl,⟨[some (.int x),some (.int y)],rfl,rfl⟩,?_⟩⟩⟩;refine⟨_,rfl,_,rfl,tu,_,_,_,rfl,rfl,ay.of (g2 _ _ (g1 _ _ hu)),lN bx.1 bx.2,_,rfl,rfl,_,rfl,?_⟩;have ed:decide (V.int (tn.getD x.toNat 0)=V.int y)=decide (tn.getD x.toNat 0=y):=by
   rw[Wi,decide_eq_true_iff,decide_eq_true_iff];exact⟨V.int.inj,λz=>by rw[z]⟩
  rw[ed];have et:∀(b:Bool),decide (tn.getD x.toNat 0=y)=b->((bQ.take (k+1)).filter λq=>decide (tn.getD q.1.toNat 0=q.2)).map (λq=>V.int q.1)=ys++(if b=true then[V.int x] else[]):=λb eb=>by
   rw[ey,Yy,IM,Wb,Ym]
   congr 1
   show([((x,y):Int×Int)].filter _).map _=_;rw[Wg,eb];cases b<;>rfl
  refine bC (λcc=>?_) (λcc=>?_)
  ·refine⟨_,rfl,h2,yl,kl,λb o e=>?_,aU,?_⟩
   ·rw[aP (ck e hD)];exact g2 _ _ e
   ·rw[et true cc];rfl
  ·refine⟨kl,g2,h2,?_⟩;rw[et false (by cases e:decide (tn.getD x.toNat 0=y) with|true=>exact absurd e cc|false=>rfl)];simp
 ·rintro ys H2 ⟨_,g2,h2,ey⟩;rw[al,Y8] at ey;refine q D ((bQ.filter λq=>decide (tn.getD q.1.toNat 0=q.2)).map (·.1)) H2 (g1.free hD) (g1.trans g2) (by rw[h2,ey,Wc];rfl) ((pm.filter _).map _) ?_;rw[Wu];refine(Jx.mp (pw.filter _)).imp ?_;rintro a b ⟨ma,mb,lt⟩;have e1:tn.getD a.1.toNat 0=a.2:=of_decide_eq_true (Y3.mp ma).2;have e2:tn.getD b.1.toNat 0=b.2:=of_decide_eq_true (Y3.mp mb).2;rcases lt with lt|⟨e,lt⟩;·exact lt
  ·rw[←e1,←e2,e] at lt;exact absurd lt (Int.lt_irrefl _)
end
theorem ZdZ{H:Hp}{g:Nat->Int×Int}:∀{ys:List V} {ks:List Nat},Paired (λy k=>∃a,y=V.ref a/\H a=some (.tup [.int (g k).1,.int (g k).2])) ys ks->∃as:List Addr,ys=as.map V.ref/\Rv H as (ks.map g):=by
 intro ys ks pr;induction pr with
 |nil=>exact⟨[],rfl,.nil⟩
 |cons z t ih=>
  obtain⟨a,e,h⟩:=z;obtain⟨as,e2,h2⟩:=ih;exact⟨a::as,by rw[e,e2];rfl,.cons h h2⟩
theorem map_range{α:Type}(g:Int->α)(si:List Int):(List.range si.length).map (λk=>g (si.getD k 0))=si.map g:=by
 have e2:(List.range si.length).map (λk=>g (si.getD k 0))=((List.range si.length).map λk=>si.getD k 0).map g:=by rw[Wc];rfl
 rw[e2,(range_getD si 0)]
def Sm(D:Addr)(H:Hp)(as:List Addr)(bQ:List (Int×Int)):Prop:=Paired (λa (p:Int×Int)=>a≠D/\H a=some (.tup [.int p.1,.int p.2])) as bQ
theorem EM{α β γ:Type}(g:α->β->γ)(ys:List β):∀xs:List α,(xs.flatMap λx=>ys.map (g x)).length=xs.length*ys.length
 |[]=>by simp
 |x::xs=>by rw[List.flatMap_cons,Yl,EM g ys xs,Ya,Wl,Nat.succ_mul];omega
theorem Zac{α β γ:Type}{g:α->List γ}{xs:List α}{i:Nat}{x:α}(h:xs[i]?=some x):(xs.take (i+1)).flatMap g=(xs.take i).flatMap g++g x:=by
 rw[Yy,h,List.flatMap_append];simp
theorem Mx{ns:List Int}(so:ns.Pairwise (·<=·))(nd:ns.Nodup):ns.Pairwise (·<·):=by
 refine(List.Pairwise.and so (Wr.mp nd)).imp ?_
 grind
theorem Zco(x:Int){ns:List Int}(st:ns.Pairwise (·<·)):(ns.map λy=>((x,y):Int×Int)).Pairwise iq:=by
 rw[Wu];exact st.imp λh=>.inr ⟨rfl,h⟩
theorem Zcp{ns:List Int}(st:ns.Pairwise (·<·)){k:Nat}{x y:Int}(hx:ns[k]?=some x)(my:y∈ns.take k):y<x:=by
 obtain⟨i,hi,rfl⟩:=Wq.mp my;obtain⟨hk,rfl⟩:=Yh.mp hx;rw[Wa] at hi;rw[List.getElem_take];exact Wy.mp st i k (by omega) hk (by omega)
section
theorem BC:aQ ["self","one","other","here","there"] ["self","one","other"] (aL B4):=⟨rfl,rfl,rfl,by decide+kernel,rfl,by decide+kernel,by decide+kernel⟩
theorem Zbf(F:aM K "pairs" "Joins.pairs" B4 f fd)(jc:kB K C)(rJ:cA P w K mg base 1 "together" C ["self","one","other"] (DP C))(lC:cA P w K mg base 2 "open_at" C ["self","one"] (ya C))(bl:Bl mg):aG P w K mg base aN 3 f fd ["self","one","other"] (OS C):=by
 refine F.ok BC (λvs H Q E h=>?_) (λaE A outer s H vs Q E hr h=>?_)
 ·obtain⟨l,st,n,i,j,hi,hj,ti,tj,si,sj,rfl,_⟩:=h;rfl
 obtain⟨l,st,n,i,j,hi,hj,ti,tj,si,sj,rfl,ja,o1,o2,q⟩:=h;refine⟨_,(aj (aS (i8 (eN (cJ rJ hr (by omega) (pv 0) (aa (pv 1) (aa (pv 2) ae))))) (aq (aF (ZaU (xs:=["first","second"]) (fr:=[("self",0),("other",2)]) (cl:=[("self",s.heap.objs.size+1),("other",s.heap.objs.size+1+1)]) rfl ⟨by with_unfolding_all rfl,⟨rfl,⟨rfl,trivial⟩⟩,rfl,by decide+kernel,by decide+kernel,rfl,⟨⟨rfl,.inl rfl,.inl rfl,rfl⟩,⟨⟨rfl,.inl rfl,.inl rfl,rfl⟩,trivial⟩⟩,by decide+kernel⟩ (λ_ _ _ _=>(bj (i:=0) (show(["first","second","self","other"]:List Str).Nodup by decide+kernel) rfl (Or.inl rfl))) (fR (K:=K) rfl (cJ lC hr (by omega) (pv 0) (aa (pv 1) ae))) (λ_ _ _ _=>(fR (K:=K) rfl (cJ lC hr (by omega) (pv 2) (aa (pv 3) ae)))) (λ_ _ _ _=>(bj (i:=1) (show(["first","second","self","other"]:List Str).Nodup by decide+kernel) rfl (Or.inl rfl))) (λ_ _ _ _=>(dv (aa (pv 0) (aa (pv 1) ae))))))) aY) (aj (bg (i:=3) BC.nd rfl (Or.inr rfl) (a9 (cB (K:=K) rfl) (aW (K:=K) rfl (pv 0) rfl) (pv 1) (λ_ _=>rfl))) (aj (bg (i:=4) BC.nd rfl (Or.inr rfl) (a9 (cB (K:=K) rfl) (aW (K:=K) rfl (pv 0) rfl) (pv 2) (λ_ _=>rfl))) (aq (aF (bJ (Za0 (K:=K) rfl) rfl bl.EE D9 (aa (iH (x:="section") (fr:=[("there",4),("here",3)]) (cl:=[("there",s.heap.objs.size+1+1+1+1),("here",s.heap.objs.size+1+1+1)]) rfl ⟨by with_unfolding_all rfl,⟨rfl,⟨rfl,trivial⟩⟩,rfl,by decide+kernel,rfl,by decide+kernel,rfl,⟨⟨rfl,.inl rfl,.inl rfl,rfl⟩,⟨⟨rfl,.inl rfl,.inl rfl,rfl⟩,trivial⟩⟩,by decide+kernel⟩ (fR (K:=K) rfl (c9 (bB hr) (aW (K:=K) rfl (pv 0) rfl) (a9 (cB (K:=K) rfl) (aW (K:=K) rfl (pv 0) rfl) (pv 1) (λ_ _=>rfl)) (λ_ _=>rfl))) (λ_ _ _ _=>lH) (λ_ _ _ _=>(dv (aa (a9 (eI (K:=K) rfl) (pv 2) (pv 0) (λ_ _=>rfl)) (aa (a9 (eI (K:=K) rfl) (pv 1) (pv 0) (λ_ _=>rfl)) ae))))) ae))))))),?_⟩;obtain⟨dx,ho⟩:=ja.obj;have f1:=o1.eP;have f2:=o2.eP;refine⟨_,rfl,l.J,dx,_,rfl,ho,rfl,_,rfl,_,rfl,l,st,n,i,j,hi,hj,rfl,ja,o1.hd,o2.hd,_,rfl,?_⟩;by_cases eh:hi=hj
 ·rw[decide_eq_true eh];refine bY (aX ?_);have es:si=sj:=by have a:=o1.fr;have b:=o2.fr;rw[eh,b] at a;exact(Ys a).symm
  have vM:∀{k:Nat} {t:List Int},st.ld[k]?=some t->∃x,l.eA[k]?=some x/\H x=some (.tup (t.map V.int)):=λ{k t} ht=>by
   have hl:=cU ja.lead;have dC:k<l.eA.length:=by rw[hl];exact(Yh.mp ht).1
   obtain⟨y,ey,hy⟩:=fQ ja.lead (Yc dC);rw[ht] at ey;cases ey;exact⟨_,Yc dC,hy⟩
  obtain⟨xi,exi,hxi⟩:=vM o1.ld;obtain⟨xj,exj,hxj⟩:=vM o2.ld;have ati:dI (l.eA.map V.ref) (i:Int)=some (.ref xi):=gq (by rw[Yg,exi];rfl);have atj:dI (l.eA.map V.ref) (j:Int)=some (.ref xj):=gq (by rw[Yg,exj];rfl);obtain⟨fa,TH,vf,cM⟩:=mM (f:=λv:List Int=>HO.lst (v.map V.int)) ja.free o1.fr;refine cy ?_;refine⟨_,rfl,l.J,C,dx,_,_,rfl,ho,jc.cls,jc.lK,rfl,_,rfl,l.la,_,_,_,rfl,rfl,ak.of ja.gU,ati,?_⟩;refine cy ?_;refine⟨_,rfl,l.J,C,dx,_,_,rfl,ho,jc.cls,jc.lK,rfl,_,rfl,l.la,_,_,_,rfl,rfl,ak.of ja.gU,atj,?_⟩;refine⟨_,rfl,l.J,C,dx,_,_,rfl,ho,jc.cls,jc.oM,rfl,_,rfl,l.J,C,dx,_,_,rfl,ho,jc.cls,jc.iZ,rfl,_,rfl,l.ha,_,_,_,rfl,rfl,ak.of ja.heads,mX o1.hd,l.fd,_,rfl,oN ja.frees vf,fa,rfl,⟨_,ak.of cM⟩,λD hD=>Dz (xs:=si.map V.int) (ak.of cM) (by rw[Ya];omega) hD (λ_=>true) (λk y H1=>∃a,y=V.ref a/\a≠D/\H1 a=some (.tup [.int (ti.getD (si.getD k 0).toNat 0),.int (tj.getD (si.getD k 0).toNat 0)])) (λk y H1 H2 b ⟨a,e1,e2,e3⟩=>⟨a,e1,e2,b _ _ e3 e2⟩) (λk v hk H1 g1 IP Kt Kf kt kf=>?_) λys H1 g1 h1 pr=>?_⟩
  ·obtain⟨z,rfl,hz⟩:=lI hk;have gz:si.getD k 0=z:=by rw[Yj,hz];rfl
   have b1:=o1.fq z (Ye hz);have b2:=o2.fq z (by rw[←es];exact Ye hz);refine kP (cV ?_);refine⟨_,rfl,_,rfl,xi,_,_,_,rfl,rfl,ay.of (g1 _ _ hxi),lN b1.1 b1.2,_,rfl,_,rfl,xj,_,_,_,rfl,rfl,ay.of (g1 _ _ hxj),lN b2.1 b2.2,by show 2<=sizeLine;rw[sizeLine_eq];omega,λa H2 na g2 ha=>?_⟩;obtain⟨ys,IP⟩:=IP;exact kt _ H2 rfl g2 ⟨a,rfl,(λz=>by rw[z,IP] at na;cases na),by rw[gz];exact ha⟩
  ·rw[LG,Ya] at pr;obtain⟨as,eas,dP⟩:=ZdZ (g:=λk=>(ti.getD (si.getD k 0).toNat 0,tj.getD (si.getD k 0).toNat 0)) (L2.Paired.bI pr λy k ⟨a,e1,e2,e3⟩=>⟨a,e1,e3⟩);have em:(List.range si.length).map (λk=>((ti.getD (si.getD k 0).toNat 0,tj.getD (si.getD k 0).toNat 0):Int×Int))=si.map λz=>(ti.getD z.toNat 0,tj.getD z.toNat 0):=map_range (λz=>(ti.getD z.toNat 0,tj.getD z.toNat 0)) si;rw[em] at dP;have al:=cU dP;rw[Ya] at al;rw[eas] at h1;have ndp:(si.map λz=>((ti.getD z.toNat 0,tj.getD z.toNat 0):Int×Int)).Nodup:=by
    have d:=o1.dist;rw[Wr,Wu] at d⊢;exact d.imp λh e=>h (congrArg (·.1) e)
   refine⟨D,as,_,rfl,ak.of h1,dP,ndp,.inl (by omega),λhJ kQ pr2 p2 pw p H2 np g2 hp=>?_⟩;refine q p hJ kQ H2 (g1.free np) (g1.trans g2) hp (L2.Paired.bI pr2 λ_ _ e=>g2 _ _ e) ?_ pw;unfold ir;rw[if_pos eh];exact p2
 ·rw[decide_eq_false eh];refine cV ?_;refine⟨_,rfl,l.J,dx,_,rfl,ho,rfl,_,rfl,l,st,n,i,hi,ti,si,rfl,ja,o1.hd,o1.ld,o1.fr,o1.fq,o1.eP,λp ns H1 np g1 pm srt hp=>?_⟩;have nl:=pm.length_eq;rw[Ya] at nl;have sns:=Mx srt (pm.nodup_iff.mpr o1.dist);refine⟨p,rfl,⟨_,ak.of hp⟩,λD hD=>Zb6 (xs:=ns.map V.int) (λk ys H2=>k<=ns.length/\ai H1 H2/\H2 D=some (.lst ys)/\∃(as:List Addr) (bQ:List (Int×Int)),ys=as.map V.ref/\Sm D H2 as bQ/\bQ.Perm ((ns.take k).flatMap λx=>sj.map λz=>(x,tj.getD z.toNat 0))/\bQ.Pairwise iq/\∀p∈bQ,p.1∈ns.take k) ⟨Yw _,cq hD _,aU,[],[],rfl,.nil,.nil,.nil,λ_ h=>(nomatch h)⟩ (λk ys H2 _ ⟨_,g2,_⟩=>ak.of (g2 _ _ hp)) ?_ ?_ ?_ (λv σ H R R' m h=>m _ _ h)⟩
  ·rintro k v ys H2 hk ⟨kl,g2,h2,as,bQ,ey,pa,pp,pw,pin⟩ os nN;obtain⟨u1,u2,rfl⟩:∃u1 u2,os=[u1,u2]:=by
    match os,nN with
    |[u1,u2],_=>exact⟨u1,u2,rfl⟩
   obtain⟨x,rfl,hx⟩:=lI hk;have kl':k<ns.length:=(Yh.mp hx).1;refine bu ⟨⟨[some (.int x),u2],rfl,rfl⟩,?_⟩;refine⟨_,rfl,l.J,dx,_,rfl,g2 _ _ (g1 _ _ ho),rfl,_,rfl,l,st,n,j,hj,tj,sj,rfl,ja.same (g1.trans g2),o2.hd,o2.ld,o2.fr,o2.fq,o2.eP,λp2 q0 H3 wV g3 IQ Zfx dB=>?_⟩;have nZ:=IQ.length_eq;rw[Ya] at nZ;have Zfy:=Mx Zfx (IQ.nodup_iff.mpr o2.dist);have pD:p2≠D:=λz=>by rw[z,h2] at wV;cases wV
   have Sl:=pp.length_eq;rw[EM (λx z=>((x,tj.getD z.toNat 0):Int×Int)) sj (ns.take k),Wa] at Sl;have ZgJ:=cU pa;have ZgK:min k ns.length*sj.length<=64*64:=Nat.mul_le_mul (by omega) (by omega);refine⟨p2,rfl,⟨_,ak.of dB⟩,p2,q0.map V.int,λk2 fN σ H4=>k2<=q0.length/\ai H1 H4/\H4 D=some (.lst fN)/\H4 p2=some (.lst (q0.map V.int))/\(∃o2,σ=[some (.int x),o2]++_)/\∃(ud:List Addr) (tM:List (Int×Int)),fN=ud.map V.ref/\Sm D H4 ud tM/\tM=bQ++(q0.take k2).map λy=>(x,y),rfl,⟨Yw _,g2.trans g3,g3 _ _ h2,dB,⟨u2,rfl⟩,as,bQ,ey,L2.Paired.bI pa λ_ _ e=>⟨e.1,g3 _ _ e.2⟩,by simp⟩,λk2 fN σ H4 _ ⟨_,_,_,e,_⟩=>ak.of e,?_,?_⟩
   ·rintro k2 v2 fN σ H4 hk2 ⟨k2l,g4,h4,e4,⟨T3,rfl⟩,ud,tM,zW,zX,q5⟩;obtain⟨y,rfl,hy⟩:=lI hk2;have Zfz:k2<q0.length:=(Yh.mp hy).1;have T4:=cU zX;rw[q5,Yl,Ya,Wa] at T4;refine bu ⟨_,rfl,_,rfl,by show 2<=sizeLine;rw[sizeLine_eq];omega,λa H5 na g5 ha=>⟨g5 _ _ h4,by rw[zW,Ya,T4,sizeLine_eq];have:=o2.eP;omega,Zfz,?_,aU,?_,⟨some (.int y),rfl⟩,ud++[a],tM++[(x,y)],by rw[zW,Ym];rfl,?_,?_⟩⟩
    ·intro b o e;rw[aP (ck e hD)];exact g5 _ _ (g4 _ _ e)
    ·rw[aP pD];exact g5 _ _ e4
    ·have aD:a≠D:=λz=>by rw[z,h4] at na;cases na
     exact iU (F:=λa (p:Int×Int)=>a≠D/\upd H5 D _ a=some (.tup [.int p.1,.int p.2])) ⟨aD,by rw[aP aD];exact ha⟩ (L2.Paired.bI zX λb p e=>⟨e.1,by rw[aP e.1];exact g5 _ _ e.2⟩)
    ·rw[q5,Yy,hy,Ym,Jj];rfl
   ·rintro fN σ H4 ⟨_,g4,h4,e4,⟨T3,rfl⟩,ud,tM,zW,zX,q5⟩;rw[Ya,Y8] at q5;refine⟨⟨[some (.int x),T3],rfl,rfl⟩,kl',g4,h4,ud,tM,zW,zX,?_,?_,λp mp=>?_⟩
    ·rw[q5,Zac (β:=Int) hx];refine pp.append ?_;have:=IQ.map λy:Int=>((x,y):Int×Int);rw[Wc] at this;exact this
    ·rw[q5];refine List.pairwise_append.mpr ⟨pw,Zco x Zfy,λp mp q' mq=>.inl ?_⟩;obtain⟨y,_,rfl⟩:=Yf.mp mq;exact Zcp sns hx (pin p mp)
    ·rw[q5] at mp;rw[Yy,hx];rcases Yu.mp mp with mp|mp;·exact Yr _ (pin p mp)
     ·obtain⟨y,_,rfl⟩:=Yf.mp mp;exact Yq _ Yk
  ·rintro ys H2 ⟨_,g2,h2,as,bQ,ey,pa,pp,pw,_⟩;rw[Ya,Y8] at pp;rw[ey] at h2;refine q D as bQ H2 (g1.free hD) (g1.trans g2) h2 (L2.Paired.bI pa λ_ _ e=>e.2) (pp.trans ?_) pw;unfold ir;rw[if_neg eh];exact pm.flatMap_right _
  ·rintro σ H R R' m ⟨x1,e1,x2,x3,x4,e2,e3,e4,x5,e5,l,st,n,i,h,t,secs,e6,j1,j2,j3,j4,j5,j6,k⟩;refine⟨x1,e1,x2,x3,x4,e2,e3,e4,x5,e5,l,st,n,i,h,t,secs,e6,j1,j2,j3,j4,j5,j6,λp ns H' a b c d e=>?_⟩;obtain⟨a,e,s,r⟩:=k p ns H' a b c d e;exact⟨a,e,s,m _ _ r⟩
end
def ap(t:List Int)(z:Int):Int:=t.getD z.toNat 0
theorem FZ(h0:0<=z)(h:z<t.length):t[z.toNat]?=some (ap t z):=by
 unfold ap
 grind
theorem kK{t:List Int}{n:Nat}(ft:full t=true)(lt:t.length=n){z:Int}(h:0<=z/\z<n):0<=ap t z/\ap t z<n:=by
 have:=oF ft (Ye (FZ h.1 (by omega)));omega
theorem sO{t:List Int}{n:Nat}(ft:full t=true)(lt:t.length=n){z:Int}(h:0<=z/\z<n):ap (inv t) (ap t z)=z:=by
 have b:=kK ft lt h;have e2:=yr (xs:=t) (i:=(ap t z).toNat) (by omega);rw[(Jn b.1),xV (xN ft) (FZ h.1 (by omega))] at e2;have e3:ap (inv t) (ap t z)=((z.toNat:Nat):Int):=by
  show(inv t).getD (ap t z).toNat 0=_
  grind
 grind
theorem OU{t:List Int}{n:Nat}(ft:full t=true)(lt:t.length=n){z:Int}(h:0<=z/\z<n):ap t (ap (inv t) z)=z:=by
 have:=sO (iX ft) (by rw[eZ];exact lt) h;rw[inv_inv ft] at this;exact this
theorem yG{t:List Int}{n:Nat}(ft:full t=true)(lt:t.length=n){z z':Int}(h:0<=z/\z<n)(h':0<=z'/\z'<n)(e:ap t z=ap t z'):z=z':=by
 have a:=sO ft lt h;rw[e,sO ft lt h'] at a;exact a.symm
theorem yH{xs ys:List Int}{z:Int}(h:0<=z/\z<ys.length):ap (bH xs ys) z=ap xs (ap ys z):=by
 show(bH xs ys).getD z.toNat 0=_;unfold bH;rw[Yj,Yg,(FZ h.1 h.2)];rfl
def JS.ag(st:JS)(i:Nat):Nat:=st.hd.getD i 0
def JS.bP(st:JS)(i:Nat):List Int:=st.ld.getD i []
def JS.bV(st:JS)(h:Nat):List Int:=(st.fr.lookup h).getD []
def cW(st:JS)(f:Nat->Int):Prop:=∃s:Nat->Int,∀i,i<st.hd.length->s (st.ag i)∈st.bV (st.ag i)/\f i=ap (st.bP i) (s (st.ag i))
structure WF(n:Nat)(st:JS):Prop where
 ll:st.ld.length=st.hd.length
 fl:∀t∈st.ld,full t=true/\t.length=n
 fr:∀i,i<st.hd.length->∃secs,st.fr.lookup (st.ag i)=some secs/\secs.Nodup/\∀z∈secs,0<=z/\z<(n:Int)
 mem:∀i,i<st.hd.length->∃ms,st.mem.lookup (st.ag i)=some ms/\ms.Nodup/\∀k,k∈ms↔k<st.hd.length/\st.ag k=st.ag i
 nm:(st.mem.map (·.1)).Nodup
 lm:∀k∈st.mem.map (·.1),k<st.hd.length
 nf:(st.fr.map (·.1)).Nodup
 lf:∀k∈st.fr.map (·.1),k<st.hd.length
 hf:∀k∈st.fr.map (·.1),∃i,i<st.hd.length/\st.ag i=k
theorem uL{xs:List Nat}{m:Nat}(nd:xs.Nodup)(h:∀x∈xs,x<m):xs.length<=m:=by
 have l:=nd.length_le_of_subset λx hx=>Wh.mpr (h x hx)
 grind
theorem uM{xs:List Int}{n:Nat}(nd:xs.Nodup)(h:∀x∈xs,0<=x/\x<(n:Int)):xs.length<=n:=by
 have l:=nd.length_le_of_subset (l₂:=bp n) λx hx=>by
  obtain⟨a,b⟩:=h x hx;have:=Ye (kr (n:=n) (i:=x.toNat) (by omega))
  grind
 rwa [eF] at l
theorem uX{α:Type}:∀{ps:List (Nat×α)} {k:Nat} {v:α},ps.lookup k=some v->k∈ps.map (·.1)
 |[],_,_,h=>by simp at h
 |p::ps,k,v,h=>by
  rw[W1] at h;by_cases e:k=p.1;·grind
  ·rw[beq_eq_false_iff_ne.mpr e] at h;exact Yx _ (uX h)
theorem xH{α:Type}(h:Nat)(v:α)(k:Nat):∀ps:List (Nat×α),(dX h v ps).lookup k=if k=h then(ps.lookup h).map λ_=>v else ps.lookup k
 |[]=>by show([]:List (Nat×α)).lookup k=_;simp
 |p::ps=>by
  have ih:=xH h v k ps;have e0:dX h v (p::ps)=(if p.1=h then(p.1,v) else p)::dX h v ps:=rfl
  grind
section
variable {n:Nat}{st:JS}
theorem vd{i:Nat}(h:i<st.hd.length):st.hd[i]?=some (st.ag i):=by
 unfold JS.ag;rw[Yj,Yc h];rfl
theorem WF.yI(wf:WF n st){i:Nat}(h:i<st.hd.length):st.ld[i]?=some (st.bP i):=by
 unfold JS.bP;rw[Yj,Yc (by rw[wf.ll];exact h)];rfl
theorem WF.ju(wf:WF n st){i:Nat}(h:i<st.hd.length):full (st.bP i)=true/\(st.bP i).length=n:=wf.fl _ (Ye (wf.yI h))
theorem WF.dq(wf:WF n st){i:Nat}(h:i<st.hd.length):st.fr.lookup (st.ag i)=some (st.bV (st.ag i))/\(st.bV (st.ag i)).Nodup/\∀z∈st.bV (st.ag i),0<=z/\z<(n:Int):=by
 obtain⟨secs,e,a,b⟩:=wf.fr i h;have e2:st.bV (st.ag i)=secs:=by unfold JS.bV;rw[e];rfl
 grind
theorem WF.dist(wf:WF n st){i:Nat}(h:i<st.hd.length):((st.bV (st.ag i)).map λz=>(st.bP i).getD z.toNat 0).Nodup:=by
 obtain⟨e,a,b⟩:=wf.dq h;rw[Wr,Wu];refine(Jx.mp (Wr.mp a)).imp ?_;rintro u v ⟨mu,mv,ne⟩ z;exact ne (yG (wf.ju h).1 (wf.ju h).2 (b u mu) (b v mv) z)
theorem WF.one(wf:WF n st)(n8:n<=8){i:Nat}(h:i<st.hd.length):qH st i (st.ag i) (st.bP i) (st.bV (st.ag i)):=by
 obtain⟨e,a,b⟩:=wf.dq h;have:=uM a b;refine⟨vd h,wf.yI h,e,λz hz=>by rw[(wf.ju h).2];exact b z hz,by omega,wf.dist h⟩
theorem WF.two(wf:WF n st){i j:Nat}(hi:i<st.hd.length)(hj:j<st.hd.length)(m4:st.hd.length<=400)(ne:st.ag i≠st.ag j):∃ma mb,Sk st n i j (st.ag i) (st.ag j) (st.bP i) (st.bP j) (st.bV (st.ag i)) (st.bV (st.ag j)) ma mb/\(ma.Nodup/\∀k,k∈ma↔k<st.hd.length/\st.ag k=st.ag i)/\(mb.Nodup/\∀k,k∈mb↔k<st.hd.length/\st.ag k=st.ag j):=by
 obtain⟨ma,e1,a1,b1⟩:=wf.mem i hi;obtain⟨mb,e2,a2,b2⟩:=wf.mem j hj;have l1:=uL a1 λk hk=>((b1 k).mp hk).1;have l2:=uL a2 λk hk=>((b2 k).mp hk).1;exact⟨ma,mb,⟨vd hi,vd hj,wf.yI hi,wf.yI hj,wf.fl,wf.ll,e1,e2,(wf.dq hi).1,(wf.dq hj).1,ne,λk hk=>((b1 k).mp hk).1,λk hk=>((b2 k).mp hk).1,by omega,wf.nm⟩,⟨a1,b1⟩,a2,b2⟩
theorem WF.yO(wf:WF n st):st.fr.length<=st.hd.length:=by
 have:=uL wf.nf wf.lf
 grind
theorem WF.Qw(wf:WF n st):st.mem.length<=st.hd.length:=by
 have:=uL wf.nm wf.lm
 grind
theorem wf0:WF n ⟨[],[],[],[]⟩:=⟨rfl,λ_ h=>(nomatch h),λ_ h=>absurd h (Wj _),λ_ h=>absurd h (Wj _),.nil,λ_ h=>(nomatch h),.nil,λ_ h=>(nomatch h),λ_ h=>(nomatch h)⟩
theorem Eg(st:JS)(h k:Nat)(v:List Int)(hv:st.fr.lookup h≠none):(st.jR h v).bV k=if k=h then v else st.bV k:=by
 show((dX h v st.fr).lookup k).getD []=_;rw[xH];by_cases e:k=h
 ·rw[if_pos e,if_pos e];cases e2:st.fr.lookup h with
  |none=>grind
  |some x=>rfl
 ·rw[if_neg e,if_neg e];rfl
theorem WF.jR(wf:WF n st){i:Nat}(hi:i<st.hd.length){p:Int->Bool}:WF n (st.jR (st.ag i) ((st.bV (st.ag i)).filter p)):=by
 refine⟨wf.ll,wf.fl,λk hk=>?_,wf.mem,wf.nm,wf.lm,?_,?_,?_⟩
 ·obtain⟨e,a,b⟩:=wf.dq hk;show ∃secs,(dX _ _ st.fr).lookup (st.ag k)=some secs/\_;rw[xH]
  grind
 ·show((dX _ _ st.fr).map (·.1)).Nodup;rw[pZ];exact wf.nf
 ·show ∀k∈(dX _ _ st.fr).map (·.1),_;rw[pZ];exact wf.lf
 ·show ∀k∈(dX _ _ st.fr).map (·.1),_;rw[pZ];exact wf.hf
theorem uQ(wf:WF n st){i:Nat}(hi:i<st.hd.length)(ss:List Int)(f:Nat->Int):cW (st.jR (st.ag i) ((st.bV (st.ag i)).filter λz=>decide ((st.bP i).getD z.toNat 0∈ss))) f↔cW st f/\f i∈ss:=by
 have hv:st.fr.lookup (st.ag i)≠none:=by rw[(wf.dq hi).1];exact λz=>nomatch z
 constructor
 ·rintro⟨s,h⟩;have hk:∀k,k<st.hd.length->s (st.ag k)∈st.bV (st.ag k)/\f k=ap (st.bP k) (s (st.ag k)):=λk hk=>by
   obtain⟨a,b⟩:=h k hk;refine⟨?_,b⟩;have a':s (st.ag k)∈(st.jR (st.ag i) ((st.bV (st.ag i)).filter λz=>decide ((st.bP i).getD z.toNat 0∈ss))).bV (st.ag k):=a;rw[Eg st _ _ _ hv] at a'
   grind
  refine⟨⟨s,hk⟩,?_⟩;obtain⟨a,b⟩:=h i hi;have a':s (st.ag i)∈(st.jR (st.ag i) ((st.bV (st.ag i)).filter λz=>decide ((st.bP i).getD z.toNat 0∈ss))).bV (st.ag i):=a;rw[Eg st _ _ _ hv,if_pos rfl] at a';rw[b];exact of_decide_eq_true (Y3.mp a').2
 ·rintro⟨⟨s,h⟩,m⟩;refine⟨s,λk hk=>?_⟩;obtain⟨a,b⟩:=h k hk;refine⟨?_,b⟩;show s (st.ag k)∈(st.jR (st.ag i) ((st.bV (st.ag i)).filter λz=>decide ((st.bP i).getD z.toNat 0∈ss))).bV (st.ag k);rw[Eg st _ _ _ hv];by_cases z:st.ag k=st.ag i
  ·rw[if_pos z];rw[z] at a⊢;refine Y3.mpr ⟨a,decide_eq_true ?_⟩;rw[((h i hi).2)] at m;exact m
  ·grind
theorem xX(wf:WF n st){f:Nat->Int}(d:cW st f)(h1 h2:Nat)(z1 z2:Int)(m1:z1∈st.bV h1)(m2:z2∈st.bV h2)(ne:h1=h2->z1=z2):∃f',cW st f'/\∀k,k<st.hd.length->(st.ag k=h1->f' k=ap (st.bP k) z1)/\(st.ag k=h2->f' k=ap (st.bP k) z2):=by
 obtain⟨s,h⟩:=d;refine⟨λk=>ap (st.bP k) ((λq=>if q=h1 then z1 else if q=h2 then z2 else s q) (st.ag k)),⟨λq=>if q=h1 then z1 else if q=h2 then z2 else s q,λk hk=>⟨?_,rfl⟩⟩,λk hk=>⟨λe=>?_,λe=>?_⟩⟩;·grind
 ·grind
 ·grind
theorem u7(wf:WF n st){i j:Nat}(hi:i<st.hd.length)(hj:j<st.hd.length){f:Nat->Int}(d:cW st f):(f i,f j)∈ir (st.ag i) (st.ag j) (st.bP i) (st.bP j) (st.bV (st.ag i)) (st.bV (st.ag j)):=by
 obtain⟨s,h⟩:=d;obtain⟨a1,b1⟩:=h i hi;obtain⟨a2,b2⟩:=h j hj;unfold ir;by_cases e:st.ag i=st.ag j
 ·rw[if_pos e];refine Yf.mpr ⟨s (st.ag i),a1,?_⟩;rw[b1,b2,←e];rfl
 ·rw[if_neg e];refine T5.mpr ⟨f i,Yf.mpr ⟨_,a1,b1.symm⟩,Yf.mpr ⟨_,a2,?_⟩⟩;rw[b2];rfl
theorem NC(wf:WF n st){i j:Nat}(hi:i<st.hd.length)(hj:j<st.hd.length)(live:∃f,cW st f){x y:Int}(m:(x,y)∈ir (st.ag i) (st.ag j) (st.bP i) (st.bP j) (st.bV (st.ag i)) (st.bV (st.ag j))):∃f,cW st f/\f i=x/\f j=y:=by
 obtain⟨f0,d0⟩:=live;unfold ir at m;by_cases e:st.ag i=st.ag j
 ·rw[if_pos e] at m;obtain⟨z,mz,ez⟩:=Yf.mp m;obtain⟨f,d,q⟩:=xX wf d0 (st.ag i) (st.ag i) z z mz mz (λ_=>rfl);exact⟨f,d,((q i hi).1 rfl).trans (congrArg (·.1) ez),((q j hj).1 e.symm).trans (congrArg (·.2) ez)⟩
 ·rw[if_neg e] at m;obtain⟨x',mx,my⟩:=T5.mp m;obtain⟨z1,IS,IT⟩:=Yf.mp mx;obtain⟨z2,IU,wW⟩:=Yf.mp my;obtain⟨f,d,q⟩:=xX wf d0 (st.ag i) (st.ag j) z1 z2 IS IU (λz=>absurd z e);exact⟨f,d,(((q i hi).1 rfl).trans IT).trans (congrArg (·.1) wW),((q j hj).2 rfl).trans (congrArg (·.2) wW)⟩
end
theorem My(hb:Nat):∀(mv:List Nat) (hd:List Nat) (i:Nat),i<hd.length->(jb hb mv hd)[i]?=if i∈mv then some hb else hd[i]?
 |[],hd,i,h=>rfl
 |k::mv,hd,i,h=>by
  have ih:=My hb mv (hd.set k hb) i (by rw[Ja];exact h);have e0:jb hb (k::mv) hd=jb hb mv (hd.set k hb):=rfl
  grind
theorem Mz(a8:List Int):∀(mv:List Nat) (ld:List (List Int)) (i:Nat),mv.Nodup->i<ld.length->(fX a8 mv ld)[i]?=if i∈mv then some (bH (ld.getD i []) a8) else ld[i]?
 |[],ld,i,_,h=>rfl
 |k::mv,ld,i,nd,h=>by
  obtain⟨n1,n2⟩:=Y1.mp nd;have e0:fX a8 (k::mv) ld=fX a8 mv (nY a8 ld k):=rfl;rw[e0,(Mz a8 mv (nY a8 ld k) i n2 (by unfold nY;rw[Ja];exact h))];by_cases m:i∈mv
  ·have ne:k≠i:=λz=>n1 (by rw[z];exact m);unfold nY
   grind
  ·rw[if_neg m];unfold nY
   grind
theorem MA(hb:Nat)(mv hd:List Nat):(jb hb mv hd).length=hd.length:=uK (λ_ _=>Ja) mv hd
theorem MB(a8:List Int)(mv:List Nat)(ld:List (List Int)):(fX a8 mv ld).length=ld.length:=uK (λ_ _=>by unfold nY;exact Ja) mv ld
section
variable {n:Nat}{st:JS}{a b:Nat}{ma mb:List Nat}{tn:List Int}
theorem oO(wf:WF n st)(im:∀k,k∈ma↔k<st.hd.length/\st.ag k=st.ag a)(a8:List Int){i:Nat}(hi:i<st.hd.length):(st.mv (st.ag b) (st.ag a) mb ma a8).ag i=if st.ag i=st.ag a then st.ag b else st.ag i:=by
 show(jb (st.ag b) ma st.hd).getD i 0=_;rw[Yj,My _ _ _ _ hi];by_cases e:st.ag i=st.ag a;·grind
 ·rw[if_neg (λz=>e ((im i).mp z).2),if_neg e,←Yj];rfl
theorem F0(wf:WF n st)(nd:ma.Nodup)(im:∀k,k∈ma↔k<st.hd.length/\st.ag k=st.ag a)(a8:List Int)(hb:Nat){i:Nat}(hi:i<st.hd.length):(st.mv hb (st.ag a) mb ma a8).bP i=if st.ag i=st.ag a then bH (st.bP i) a8 else st.bP i:=by
 show(fX a8 ma st.ld).getD i []=_;rw[Yj,Mz _ _ _ _ nd (by rw[wf.ll];exact hi)];by_cases e:st.ag i=st.ag a;·rw[if_pos ((im i).mpr ⟨hi,e⟩),if_pos e];rfl
 ·rw[if_neg (λz=>e ((im i).mp z).2),if_neg e,←Yj];rfl
theorem Qx(hb ha:Nat)(a8:List Int){h:Nat}(ne:h≠ha):(st.mv hb ha mb ma a8).bV h=st.bV h:=by
 show((cN ha st.fr).lookup h).getD []=_;rw[rZ ne];rfl
theorem vE(hb ha:Nat)(a8:List Int):(st.mv hb ha mb ma a8).hd.length=st.hd.length:=MA _ _ _
theorem WF.mv(wf:WF n st)(hA:a<st.hd.length)(hB:b<st.hd.length)(ne:st.ag a≠st.ag b)(mf:ma.Nodup)(gH:∀k,k∈ma↔k<st.hd.length/\st.ag k=st.ag a)(ue:mb.Nodup)(q_:∀k,k∈mb↔k<st.hd.length/\st.ag k=st.ag b)(eb:st.mem.lookup (st.ag b)=some mb){a8:List Int}(ft:full a8=true)(tl:a8.length=n):WF n (st.mv (st.ag b) (st.ag a) mb ma a8):=by
 have len:(st.mv (st.ag b) (st.ag a) mb ma a8).hd.length=st.hd.length:=vE _ _ _;have T6:∀k,k<st.hd.length->(if st.ag k=st.ag a then st.ag b else st.ag k)≠st.ag a:=λk hk=>by
  grind
 have ky:(st.mv (st.ag b) (st.ag a) mb ma a8).mem.map (·.1)=(st.mem.map (·.1)).filter λk=>decide (k≠st.ag a):=by
  show(dX _ _ (cN _ st.mem)).map (·.1)=_;rw[pZ,mP]
 have kf:(st.mv (st.ag b) (st.ag a) mb ma a8).fr.map (·.1)=(st.fr.map (·.1)).filter λk=>decide (k≠st.ag a):=mP _ _;refine⟨?_,λt ht=>?_,λi hi=>?_,λi hi=>?_,?_,?_,?_,?_,?_⟩
 ·show(fX _ _ _).length=(jb _ _ _).length;rw[MB,MA];exact wf.ll
 ·obtain⟨i,hi,rfl⟩:=Wq.mp ht;have jn:i<st.hd.length:=by
   have:(fX a8 ma st.ld).length=st.ld.length:=MB _ _ _;have h2:i<(fX a8 ma st.ld).length:=hi;have:=wf.ll;omega
  have e:=F0 (mb:=mb) wf mf gH a8 (st.ag b) jn;have e2:(st.mv (st.ag b) (st.ag a) mb ma a8).bP i=(st.mv (st.ag b) (st.ag a) mb ma a8).ld[i]:=by
   unfold JS.bP;rw[Yj,Yc hi];rfl
  rw[←e2,e];obtain⟨f1,f2⟩:=wf.ju jn;by_cases z:st.ag i=st.ag a;·rw[if_pos z];exact⟨oB f1 ft (by omega),by rw[ie];exact tl⟩
  ·rw[if_neg z];exact⟨f1,f2⟩
 ·rw[len] at hi;rw[oO (mb:=mb) wf gH a8 hi];show ∃secs,(cN (st.ag a) st.fr).lookup _=some secs/\_;rw[rZ (T6 i hi)];by_cases e:st.ag i=st.ag a;·rw[if_pos e];exact⟨_,wf.dq hB⟩
  ·rw[if_neg e];exact⟨_,wf.dq hi⟩
 ·rw[len] at hi;rw[oO (mb:=mb) wf gH a8 hi];show ∃ms,(dX (st.ag b) (mb++ma) (cN (st.ag a) st.mem)).lookup _=some ms/\_;rw[xH,rZ (T6 i hi),rZ (λz=>ne z.symm),eb];have iff:∀k,k<st.hd.length->((st.mv (st.ag b) (st.ag a) mb ma a8).ag k=(if st.ag k=st.ag a then st.ag b else st.ag k)):=λk hk=>oO (mb:=mb) wf gH a8 hk;by_cases e:(if st.ag i=st.ag a then st.ag b else st.ag i)=st.ag b
  ·rw[if_pos e];refine⟨_,rfl,?_,λk=>?_⟩;·grind
   ·grind
  ·have e1:¬st.ag i=st.ag a:=λz=>e (if_pos z);rw[if_neg e1] at e⊢;rw[if_neg e];obtain⟨ms,m1,m2,m3⟩:=wf.mem i hi
   grind
 ·rw[ky];exact wf.nm.filter _
 ·rw[ky,len];exact λk hk=>wf.lm k (Y3.mp hk).1
 ·rw[kf];exact wf.nf.filter _
 ·rw[kf,len];exact λk hk=>wf.lf k (Y3.mp hk).1
 ·rw[kf,len];intro k hk;obtain⟨m1,m2⟩:=Y3.mp hk;obtain⟨i,hi,e⟩:=wf.hf k m1;refine⟨i,hi,?_⟩;rw[oO (mb:=mb) wf gH a8 hi,if_neg (λz=>of_decide_eq_true m2 (e.symm.trans z))];exact e
theorem OV(wf:WF n st)(hA:a<st.hd.length)(hB:b<st.hd.length)(ne:st.ag a≠st.ag b)(mf:ma.Nodup)(gH:∀k,k∈ma↔k<st.hd.length/\st.ag k=st.ag a)(ft:full tn=true)(tl:tn.length=n)(f:Nat->Int):
  cW (st.mv (st.ag b) (st.ag a) mb ma (bH (inv (st.bP a)) (bH tn (st.bP b)))) f↔∃s:Nat->Int,(∀i,i<st.hd.length->(0<=s (st.ag i)/\s (st.ag i)<(n:Int))/\(st.ag i≠st.ag a->s (st.ag i)∈st.bV (st.ag i))/\f i=ap (st.bP i) (s (st.ag i)))/\f a=ap tn (f b):=by
 obtain⟨fa,la⟩:=wf.ju hA;obtain⟨fb,lb⟩:=wf.ju hB;have fi:=iX fa;have li:(inv (st.bP a)).length=n:=by rw[eZ];exact la
 generalize et:bH (inv (st.bP a)) (bH tn (st.bP b))=a8;have IV:∀z:Int,0<=z/\z<(n:Int)->ap a8 z=ap (inv (st.bP a)) (ap tn (ap (st.bP b) z)):=λz hz=>by
  rw[←et,yH (by rw[ie,lb];exact hz),yH (by rw[lb];exact hz)]
 have ZfA:∀z:Int,0<=z/\z<(n:Int)->0<=ap a8 z/\ap a8 z<(n:Int):=λz hz=>by
  rw[IV z hz];exact kK fi li (kK ft tl (kK fb lb hz))
 have Sn:a8.length=n:=by rw[←et,ie,ie];exact lb
 constructor
 ·rintro⟨s,h⟩;have h':∀i,i<st.hd.length->s (if st.ag i=st.ag a then st.ag b else st.ag i)∈st.bV (if st.ag i=st.ag a then st.ag b else st.ag i)/\f i=ap (if st.ag i=st.ag a then bH (st.bP i) a8 else st.bP i) (s (if st.ag i=st.ag a then st.ag b else st.ag i)):=λi hi=>by
   have x:=h i (by rw[vE];exact hi);rw[oO (mb:=mb) wf gH a8 hi,F0 (mb:=mb) wf mf gH a8 _ hi,Qx] at x;·exact x
   ·by_cases e:st.ag i=st.ag a;·rw[if_pos e];exact λz=>ne z.symm
    ·rw[if_neg e];exact e
  have hb:=h' b hB;rw[if_neg (λz=>ne z.symm),if_neg (λz=>ne z.symm)] at hb;have fq:=(wf.dq hB).2.2 _ hb.1;have eq:∀i,i<st.hd.length->f i=ap (st.bP i) (if st.ag i=st.ag a then ap a8 (s (st.ag b)) else s (st.ag i)):=λi hi=>by
   have x:=(h' i hi).2;by_cases e:st.ag i=st.ag a
   ·rw[if_pos e,if_pos e,yH (by rw[Sn];exact fq)] at x;rw[if_pos e];exact x
   ·rw[if_neg e,if_neg e] at x;rw[if_neg e];exact x
  refine⟨λq=>if q=st.ag a then ap a8 (s (st.ag b)) else s q,λi hi=>⟨?_,λe=>?_,eq i hi⟩,?_⟩
  ·show 0<=(if st.ag i=st.ag a then _ else _)/\(if st.ag i=st.ag a then _ else _)<_;by_cases e:st.ag i=st.ag a;·rw[if_pos e];exact ZfA _ fq
   ·rw[if_neg e];have x:=(h' i hi).1;rw[if_neg e] at x;exact(wf.dq hi).2.2 _ x
  ·show(if st.ag i=st.ag a then _ else _)∈_;have x:=(h' i hi).1;rw[if_neg e] at x;rw[if_neg e];exact x
  ·rw[eq a hA,if_pos rfl,IV _ fq,OU fa la (kK ft tl (kK fb lb fq)),hb.2]
 ·rintro⟨s,h,ef⟩;have sb:=(h b hB).1;have sa:=(h a hA).1;have et2:ap a8 (s (st.ag b))=s (st.ag a):=by
   rw[IV _ sb,←(h b hB).2.2,←ef,(h a hA).2.2,sO fa la sa]
  refine⟨s,λi hi=>?_⟩;rw[vE] at hi;rw[oO (mb:=mb) wf gH a8 hi,F0 (mb:=mb) wf mf gH a8 _ hi,Qx]
  ·by_cases e:st.ag i=st.ag a
   ·rw[if_pos e,if_pos e];refine⟨(h b hB).2.1 (λz=>ne z.symm),?_⟩;rw[yH (by rw[Sn];exact sb),et2,←e];exact(h i hi).2.2
   ·rw[if_neg e,if_neg e];exact⟨(h i hi).2.1 e,(h i hi).2.2⟩
  ·by_cases e:st.ag i=st.ag a;·rw[if_pos e];exact λz=>ne z.symm
   ·rw[if_neg e];exact e
end
section
variable {n:Nat}{st:JS}{i j:Nat}{tn ns:List Int}
theorem ND{P:List (Int×Int)}(pm:ns.Perm ((P.filter λq=>decide (tn.getD q.1.toNat 0=q.2)).map (·.1)))(x:Int):x∈ns↔(x,ap tn x)∈P:=by
 rw[pm.mem_iff,Yf];constructor
 ·rintro⟨⟨u,v⟩,m,rfl⟩;obtain⟨m1,m2⟩:=Y3.mp m;have e:ap tn u=v:=of_decide_eq_true m2;rw[e];exact m1
 ·intro m;exact⟨_,Y3.mpr ⟨m,decide_eq_true rfl⟩,rfl⟩
abbrev JS.bQ(st:JS)(i j:Nat):List (Int×Int):=ir (st.ag i) (st.ag j) (st.bP i) (st.bP j) (st.bV (st.ag i)) (st.bV (st.ag j))
theorem Eh(ne:st.ag i≠st.ag j){x y:Int}(m:(x,y)∈st.bQ i j):(∃z∈st.bV (st.ag i),ap (st.bP i) z=x)/\∃z∈st.bV (st.ag j),ap (st.bP j) z=y:=by
 unfold JS.bQ ir at m;rw[if_neg ne] at m;obtain⟨x',mx,my⟩:=T5.mp m;obtain⟨z1,IS,IT⟩:=Yf.mp mx;obtain⟨z2,IU,wW⟩:=Yf.mp my;exact⟨⟨z1,IS,IT.trans (congrArg (·.1) wW)⟩,z2,IU,(congrArg (·.2) wW)⟩
theorem Qy(wf:WF n st)(hi:i<st.hd.length){x y:Int}(m:(x,y)∈st.bQ i j):0<=x/\x<(n:Int):=by
 obtain⟨f1,l1⟩:=wf.ju hi;by_cases e:st.ag i=st.ag j
 ·unfold JS.bQ ir at m;rw[if_pos e] at m;obtain⟨z,mz,ez⟩:=Yf.mp m;have e1:ap (st.bP i) z=x:=congrArg (·.1) ez;rw[←e1];exact kK f1 l1 ((wf.dq hi).2.2 z mz)
 ·obtain⟨⟨z,mz,ez⟩,_⟩:=Eh e m;rw[←ez];exact kK f1 l1 ((wf.dq hi).2.2 z mz)
theorem OW(wf:WF n st)(n8:n<=8)(hi:i<st.hd.length)(hj:j<st.hd.length):(st.bQ i j).length<=64:=by
 have a:=uM (wf.dq hi).2.1 (wf.dq hi).2.2;have b:=uM (wf.dq hj).2.1 (wf.dq hj).2.2;unfold JS.bQ ir;by_cases e:st.ag i=st.ag j;·grind
 ·rw[if_neg e,EM (λ(x z:Int)=>((x,(st.bP j).getD z.toNat 0):Int×Int)),Ya];exact Y4 (Nat.mul_le_mul (show _<=8 by omega) (show _<=8 by omega)) (by omega)
theorem Zbg(wf:WF n st)(hi:i<st.hd.length)(hj:j<st.hd.length)(e:st.ag i=st.ag j)(ms:∀x,x∈ns↔(x,ap tn x)∈st.bQ i j)(f:Nat->Int):cW st f/\f i∈ns↔cW st f/\f j=ap tn (f i):=by
 refine and_congr_right λd=>?_;constructor
 ·intro m;have m':=(ms _).mp m;obtain⟨s,h⟩:=d;unfold JS.bQ ir at m';rw[if_pos e] at m';obtain⟨z,mz,ez⟩:=Yf.mp m';have e2:ap (st.bP j) z=ap tn (f i):=congrArg (·.2) ez;obtain⟨f1,l1⟩:=wf.ju hi;have fq:=(wf.dq hi).2.2;rw[(h j hj).2,←e,←(yG f1 l1 (fq z mz) (fq _ (h i hi).1) ((congrArg (·.1) ez).trans (h i hi).2)),e2]
 ·intro m;have:=u7 wf hi hj d
  grind
theorem Zcq(wf:WF n st)(hi:i<st.hd.length)(hj:j<st.hd.length)(ne:st.ag i≠st.ag j){ma mb:List Nat}(mf:ma.Nodup)(gH:∀k,k∈ma↔k<st.hd.length/\st.ag k=st.ag i)(ft:full tn=true)(tl:tn.length=n)(ms:∀x,x∈ns↔(x,ap tn x)∈st.bQ i j)(f:Nat->Int):
  cW (st.mv (st.ag j) (st.ag i) mb ma (bH (inv (st.bP i)) (bH (inv tn) (st.bP j)))) f/\f i∈ns↔cW st f/\f j=ap tn (f i):=by
 rw[OV wf hi hj ne mf gH (iX ft) (by rw[eZ];exact tl)];obtain⟨f1,l1⟩:=wf.ju hi;obtain⟨f2,l2⟩:=wf.ju hj;constructor
 ·rintro⟨⟨s,h,ef⟩,m⟩;obtain⟨⟨z,mz,ez⟩,_⟩:=Eh ne ((ms _).mp m);have e1:=yG f1 l1 ((wf.dq hi).2.2 z mz) (h i hi).1 (ez.trans (h i hi).2.2);refine⟨⟨s,λk hk=>⟨?_,(h k hk).2.2⟩⟩,?_⟩;·grind
  ·have rj:0<=f j/\f j<(n:Int):=by rw[(h j hj).2.2];exact kK f2 l2 (h j hj).1
   rw[ef,OU ft tl rj]
 ·rintro⟨d,e⟩;have m:=u7 wf hi hj d;rw[e] at m;obtain⟨s,h⟩:=d;refine⟨⟨s,λk hk=>⟨(wf.dq hk).2.2 _ (h k hk).1,λ_=>(h k hk).1,(h k hk).2⟩,?_⟩,(ms _).mpr m⟩;have ri:0<=f i/\f i<(n:Int):=by rw[(h i hi).2];exact kK f1 l1 ((wf.dq hi).2.2 _ (h i hi).1)
  rw[e,sO ft tl ri]
theorem Zcr(wf:WF n st)(hi:i<st.hd.length)(hj:j<st.hd.length)(ne:st.ag i≠st.ag j){ma mb:List Nat}(ue:mb.Nodup)(q_:∀k,k∈mb↔k<st.hd.length/\st.ag k=st.ag j)(ft:full tn=true)(tl:tn.length=n)(ms:∀x,x∈ns↔(x,ap tn x)∈st.bQ i j)(f:Nat->Int):
  cW (st.mv (st.ag i) (st.ag j) ma mb (bH (inv (st.bP j)) (bH tn (st.bP i)))) f/\f i∈ns↔cW st f/\f j=ap tn (f i):=by
 rw[OV wf hj hi (λz=>ne z.symm) ue q_ ft tl];obtain⟨f2,l2⟩:=wf.ju hj;constructor
 ·rintro⟨⟨s,h,ef⟩,m⟩;obtain⟨_,z,mz,ez⟩:=Eh ne ((ms _).mp m);have e1:=yG f2 l2 ((wf.dq hj).2.2 z mz) (h j hj).1 ((ez.trans ef.symm).trans (h j hj).2.2);refine⟨⟨s,λk hk=>⟨?_,(h k hk).2.2⟩⟩,ef⟩
  grind
 ·rintro⟨d,e⟩;have m:=u7 wf hi hj d;rw[e] at m;obtain⟨s,h⟩:=d;exact⟨⟨s,λk hk=>⟨(wf.dq hk).2.2 _ (h k hk).1,λ_=>(h k hk).1,(h k hk).2⟩,e⟩,(ms _).mpr m⟩
end
def qm(st aK:JS)(i j:Nat):Prop:=∀a c,a<st.hd.length->c<st.hd.length->(aK.ag a=aK.ag c↔st.ag a=st.ag c\/(st.ag a=st.ag i/\st.ag c=st.ag j)\/(st.ag a=st.ag j/\st.ag c=st.ag i))
theorem Zbh{st:JS}{i j:Nat}(e:st.ag i=st.ag j):qm st st i j:=λa c _ _=>by omega
theorem Qz{n:Nat}{st:JS}(wf:WF n st){a b:Nat}{ma mb:List Nat}(im:∀k,k∈ma↔k<st.hd.length/\st.ag k=st.ag a)(a8:List Int)(ne:st.ag a≠st.ag b):qm st (st.mv (st.ag b) (st.ag a) mb ma a8) a b:=λx y hx hy=>by
 rw[oO wf im a8 hx,oO wf im a8 hy]
 grind
theorem qm.symm{st aK:JS}{i j:Nat}(h:qm st aK j i):qm st aK i j:=λa c ha hc=>by
 rw[h a c ha hc];omega
structure QA(n:Nat)(st aK:JS)(b:Bool)(i j:Nat)(tn:List Int):Prop where
 wf:WF n aK
 len:aK.hd.length=st.hd.length
 yes:b=true->(∃f,cW aK f)/\∀f,cW aK f↔cW st f/\f j=ap tn (f i)
 no:b=false->aK=st/\∀f,cW st f->f j≠ap tn (f i)
 hds:b=true->qm st aK i j
inductive QB(C:Addr)(vs:List V)(H:Hp)(Q:VK):Prop
 |mk (l:JL) (st:JS) (n i j:Nat) (tn:List Int) (tu:Addr) (aC:vs=[.ref l.J,.int (i:Int),.int (j:Int),.ref tu]) (aV:cC H C n l st) (bc:WF n st) (bO:(∃f,cW st f)) (cG:n<=8) (dH:st.hd.length<=400) (gc:i<st.hd.length) (g_:j<st.hd.length) (nT:H tu=some (.tup (tn.map V.int))) (t4:full tn=true) (G1:tn.length=n) (Si:∀(b:Bool) (l':JL) (aK:JS) (H':Hp),l'.J=l.J->(∀c∈l'.fp,c∈l.fp)->Out l.fp H H'->cC H' C n l' aK->QA n st aK b i j tn->Q (.bl b) H'):QB C vs H Q
def Rw(C:Addr):Sp:=λvs H Q _=>QB C vs H Q
section
theorem La:aQ ["self","one","other","turn","sections"] ["self","one","other","turn"] (aL Dc):=⟨rfl,rfl,rfl,by decide+kernel,rfl,by decide+kernel,by decide+kernel⟩
theorem Zd0(F:aM K "tie" "Joins.tie" Dc f fd)(jc:kB K C)(rR:cA P w K mg base 4 "left" C ["self","one","other","turn"] (FY C))(rJ:cA P w K mg base 1 "together" C ["self","one","other"] (DP C))(Aw:cA P w K mg base 3 "bring_together" C ["self","one","other","turn"] (OR C))(rK:cA P w K mg base 2 "narrow" C ["self","one","sections"] (EL K C))(bl:Bl mg):aG P w K mg base aN 5 f fd ["self","one","other","turn"] (Rw C):=by
 refine F.ok La (λvs H Q E h=>?_) (λaE A outer s H vs Q E hr h=>?_)
 ·obtain⟨l,st,n,i,j,tn,tu,rfl,_⟩:=h;rfl
 obtain⟨l,st,n,i,j,tn,tu,rfl,ja,wf,live,n8,m4,hi,hj,hu,ft,tl,q⟩:=h;refine⟨_,(aj (bg (i:=4) La.nd rfl (Or.inl rfl) (cJ rR hr (by omega) (pv 0) (aa (pv 1) (aa (pv 2) (aa (pv 3) ae))))) (aj (aS (i8 (Mq (K:=K) rfl (MX (pv 4) (λ_=>rfl)))) (aq (aF i_)) aY) (aj (aS (i8 (eN (cJ rJ hr (by omega) (pv 0) (aa (pv 1) (aa (pv 2) ae))))) (aq (cz (cJ Aw hr (by omega) (pv 0) (aa (pv 1) (aa (pv 2) (aa (pv 3) ae)))))) aY) (aj (cz (cJ rK hr (by omega) (pv 0) (aa (pv 1) (aa (pv 4) ae)))) (aq (aF i_)))))),?_⟩;obtain⟨dx,ho⟩:=ja.obj;have pf:=OW wf n8 hi hj;refine cy ?_;refine⟨_,rfl,l.J,dx,_,rfl,ho,rfl,_,rfl,_,rfl,_,rfl,l,st,n,i,j,_,_,_,_,_,_,tn,tu,rfl,ja,wf.one n8 hi,wf.one n8 hj,hu,λp hp=>by rw[tl];exact Qy wf hi (x:=p.1) (y:=p.2) hp,Y4 pf (by omega),λp ns H1 np g1 hp pm _=>?_⟩;have ms:=ND pm;refine mZ (λσ H2=>σ=[some (.ref l.J),some (.int (i:Int)),some (.int (j:Int)),some (.ref tu),some (.ref p)]/\H2=H1/\ns≠[]) (λnx hn=>?_) ?_
 ·refine⟨_,rfl,_,.inl ⟨_,ak.of hp,rfl⟩,?_⟩;refine bC (λc=>?_) (λc=>aX (hn _ _ ⟨rfl,rfl,λz=>?_⟩))
  ·have e:ns=[]:=by
    cases ns with
    |nil=>rfl
    |cons a r=>cases c
   refine q false l st H1 rfl (λ_ h=>h) (Out.of g1) (ja.same g1) ⟨wf,rfl,(λz=>nomatch z),λ_=>⟨rfl,λf d z=>?_⟩,(λz=>nomatch z)⟩;have m:=u7 wf hi hj d;rw[z] at m;have:=(ms _).mpr m;rw[e] at this;cases this
  ·rw[z] at c;exact c rfl
 rintro _ _ ⟨rfl,rfl,nne⟩;refine mZ (λσ H2=>σ=[some (.ref l.J),some (.int (i:Int)),some (.int (j:Int)),some (.ref tu),some (.ref p)]/\∃(l1:JL) (mj:JS),l1.J=l.J/\(∀c∈l1.fp,c∈l.fp)/\Out l.fp H H2/\cC H2 C n l1 mj/\H2 p=some (.lst (ns.map V.int))/\WF n mj/\mj.hd.length=st.hd.length/\(∀f,cW mj f/\f i∈ns↔cW st f/\f j=ap tn (f i))/\qm st mj i j) (λnx hn=>?_) ?_
 ·refine⟨_,rfl,l.J,dx,_,rfl,g1 _ _ ho,rfl,_,rfl,_,rfl,l,st,n,i,j,_,_,rfl,ja.same g1,vd hi,vd hj,_,rfl,?_⟩;refine bC (λc=>?_) (λc=>aX (hn _ _ ⟨rfl,l,st,rfl,λ_ h=>h,Out.of g1,ja.same g1,hp,wf,rfl,?_,?_⟩))
  ·have ne:st.ag i≠st.ag j:=λz=>by
    rw[decide_eq_true z] at c;cases c
   obtain⟨ma,mb,two,⟨mf,gH⟩,ue,q_⟩:=wf.two hi hj m4 ne;refine⟨_,rfl,l.J,dx,_,rfl,g1 _ _ ho,rfl,_,rfl,_,rfl,_,rfl,l,st,n,i,j,_,_,_,_,tn,_,_,tu,ma,mb,rfl,ja.same g1,g1 _ _ hu,n8,tl,ft,two,λl1 mj H2 k1 k2 o2 j2 es=>hn _ _ ⟨rfl,l1,mj,k1,k2,(Out.of g1).trans o2,j2,o2 _ _ hp (λz=>ja.ne np z),?_⟩⟩;obtain⟨fi,li⟩:=wf.ju hi;obtain⟨fj,lj⟩:=wf.ju hj;rcases es with rfl|rfl;·exact⟨wf.mv hi hj ne mf gH ue q_ two.mB (oB (iX fi) (oB (iX ft) fj (by rw[eZ];omega)) (by rw[eZ,ie];omega)) (by rw[ie,ie];exact lj),vE _ _ _,λf=>Zcq wf hi hj ne mf gH ft tl ms f,Qz wf gH _ ne⟩
   ·exact⟨wf.mv hj hi (λz=>ne z.symm) ue q_ mf gH two.mA (oB (iX fj) (oB ft fi (by omega)) (by rw[eZ,ie];omega)) (by rw[ie,ie];exact li),vE _ _ _,λf=>Zcr wf hi hj ne ue q_ ft tl ms f,(Qz wf q_ _ (λz=>ne z.symm)).symm⟩
  ·have e:st.ag i=st.ag j:=by
    by_cases z:st.ag i=st.ag j;·exact z
    ·rw[decide_eq_false z] at c;exact absurd rfl c
   exact λf=>Zbg wf hi hj e ms f
  ·have e:st.ag i=st.ag j:=by
    by_cases z:st.ag i=st.ag j;·exact z
    ·rw[decide_eq_false z] at c;exact absurd rfl c
   exact Zbh e
 rintro _ H2 ⟨rfl,l1,mj,k1,k2,o2,j2,dB,wX,So,iff,hdj⟩;obtain⟨uf,zG⟩:=j2.obj;have zY:i<mj.hd.length:=by rw[So];exact hi
 have fl:=wX.yO;refine⟨_,rfl,l1.J,uf,_,by rw[k1],zG,rfl,_,rfl,_,rfl,l1,mj,n,i,_,_,_,ns,p,by rw[k1];rfl,j2,wX.one n8 zY,by omega,ak.of dB,λl2 H3 k3 k4 o3 j3=>?_⟩;refine q true l2 _ H3 (k3.trans k1) (λc hc=>k2 c (by rw[←k4];exact hc)) (λb o e nb=>o3 _ _ (o2 _ _ e nb) λz=>nb (k2 b z)) j3 ⟨wX.jR zY,So,λ_=>⟨?_,λf=>?_⟩,(λz=>nomatch z),λ_=>hdj⟩
 ·obtain⟨x,mx⟩:∃x,x∈ns:=by
   cases ns with
   |nil=>exact absurd rfl nne
   |cons a r=>exact⟨a,Yk⟩
  obtain⟨f,d,e1,e2⟩:=NC wf hi hj live ((ms x).mp mx);refine⟨f,(uQ wX zY ns f).mpr ((iff f).mpr ⟨d,?_⟩)⟩;rw[e2,e1]
 ·exact(uQ wX zY ns f).trans (iff f)
end
def ni(xs ys:List Int):Prop:=full xs=true/\full ys=true/\xs.length=ys.length/\2<=xs.length/\xs.length<=8
theorem Zi(g:ni xs ys)(h:(z,ns)∈yF xs ys):full ns=true/\ns.length=xs.length:=by
 obtain⟨fx,fy,e,_,_⟩:=g;have fa:=EK fx fy e;simp only[Yp,Y2,or_false,Prod.mk.injEq] at h;rcases h with⟨rfl,rfl⟩|⟨rfl,rfl⟩|⟨rfl,rfl⟩|⟨rfl,rfl⟩|⟨rfl,rfl⟩|⟨rfl,rfl⟩|⟨rfl,rfl⟩;·exact⟨fx,rfl⟩
 ·exact⟨fa,by rw[pY];exact e.symm⟩
 ·exact⟨fy,e.symm⟩
 ·exact⟨iX fx,eZ _⟩
 ·exact⟨iX fa,by rw[eZ,pY];exact e.symm⟩
 ·exact⟨iX fy,by rw[eZ];exact e.symm⟩
 ·exact⟨p_ (List.Perm.refl _),eF _⟩
structure Fc where
 k:Str
 one:Nat
 aJ:Int
 tn:List Int
abbrev bF:Str:="said"
def fh(F:List Fc)(x y:Nat)(t:List Int):Prop:=∃c∈F,c.k≠bF/\((c.one=x/\c.aJ.toNat=y/\t=c.tn)\/(c.aJ.toNat=x/\c.one=y/\t=inv c.tn))
def fU(n:Nat)(F:List Fc)(g:Nat->Option Int):Prop:=(∀x y t u,fh F x y t->g x=some u->g y=some (ap t u))/\(∀c∈F,c.k=bF->∀u,g c.one=some u->u=c.aJ)/\∀k v,g k=some v->0<=v/\v<(n:Int)
structure du(n m:Nat)(c:Fc):Prop where
 one:c.one<m
 gf:c.k≠bF->(0<=c.aJ/\c.aJ.toNat<m)/\full c.tn=true/\c.tn.length=n
def qI(L:Nat->List (Nat×List Int))(x:Nat)(p:Nat×List Int):Nat->List (Nat×List Int):=λz=>if z=x then L x++[p] else L z
theorem se{kvs:List (Key×V)}{k k':Key}{v:V}(h:aO kvs k=none):aO (kvs++[(k,v)]) k'=if k'=k then some v else aO kvs k':=by
 rw[←jI v h];exact M_ _ _ _ _
theorem NF:q∈qI L x p z↔q∈L z\/(z=x/\q=p):=by
 unfold qI;by_cases e:z=x
 ·rw[if_pos e,Yu,e];simp
 ·rw[if_neg e];simp[e]
theorem Zbi:¬fh [] x y t:=λ⟨_,m,_⟩=>nomatch m
theorem oC:fh (F++[c]) x y t↔fh F x y t\/(c.k≠bF/\((c.one=x/\c.aJ.toNat=y/\t=c.tn)\/(c.aJ.toNat=x/\c.one=y/\t=inv c.tn))):=by
 constructor
 ·rintro⟨c',m,h1,h2⟩;rcases Yu.mp m with m|m;·exact .inl ⟨c',m,h1,h2⟩
  ·rw[Yo] at m;subst m;exact .inr ⟨h1,h2⟩
 ·rintro(⟨c',m,h⟩|h);·exact⟨c',Yr _ m,h⟩
  ·exact⟨c,Yq _ Yk,h⟩
theorem lookup_mem:∀{ps:List (Nat×α)} {k:Nat} {v:α},ps.lookup k=some v->(k,v)∈ps
 |[],_,_,h=>by simp at h
 |p::ps,k,v,h=>by
  rw[W1] at h;by_cases e:k=p.1;·grind
  ·rw[beq_eq_false_iff_ne.mpr e] at h;exact Yx _ (lookup_mem h)
theorem mem_lookup:∀{ps:List (Nat×α)} {k:Nat} {v:α},(ps.map (·.1)).Nodup->(k,v)∈ps->ps.lookup k=some v
 |p::ps,k,v,nd,h=>by
  obtain⟨n1,n2⟩:=Y1.mp (show(p.1::ps.map (·.1)).Nodup from nd);rw[W1];rcases Yp.mp h with h|h;·grind
  ·have e:k≠p.1:=λz=>n1 (by rw[←z];exact Yf.mpr ⟨_,h,rfl⟩);rw[beq_eq_false_iff_ne.mpr e];exact mem_lookup n2 h
theorem VC:∀{ps:List (Nat×α)} {k:Nat},ps.lookup k=none->k∉ps.map (·.1)
 |p::ps,k,h=>by
  grind
 |[],_,_=>λz=>nomatch z
theorem xQ{α:Type}{ps:List (Nat×α)}{q:Nat×α}{k:Nat}{v:α}(h:ps.lookup k=some v):(ps++[q]).lookup k=some v:=by
 grind
theorem LU{α:Type}{ps:List (Nat×α)}{k:Nat}{v:α}(h:ps.lookup k=none):(ps++[(k,v)]).lookup k=some v:=by
 grind
theorem ve(ok:∀c∈F,du n m c)(e:fh F x y t):x<m/\y<m/\full t=true/\t.length=n:=by
 obtain⟨c,mc,ns,h⟩:=e;obtain⟨⟨o0,om⟩,ft,tl⟩:=(ok c mc).gf ns;have o1:=(ok c mc).one;rcases h with⟨rfl,rfl,rfl⟩|⟨rfl,rfl,rfl⟩;·grind
 ·exact⟨om,o1,iX ft,by rw[eZ];exact tl⟩
inductive cR(F:List Fc)(x:Nat):Nat->Prop
 |refl:cR F x x
 |step {y z:Nat} {t:List Int}:cR F x y->fh F y z t->cR F x z
structure BF(F:List Fc)(n m x:Nat)(a:Int)(g:List (Nat×Int)):Prop where
 nd:(g.map (·.1)).Nodup
 lt:∀p∈g,p.1<m/\0<=p.2/\p.2<(n:Int)
 hd:g.lookup x=some a
 snd:∀g',fU n F g'->g' x=some a->∀p∈g,g' p.1=some p.2
 conn:∀p∈g,cR F x p.1
section
variable {F:List Fc}{n m x:Nat}{a:Int}{g:List (Nat×Int)}
theorem bf0(hx:x<m)(ha:0<=a/\a<(n:Int)):BF F n m x a [(x,a)]:=by
 refine⟨by simp,λp hp=>?_,by simp,λg' _ h p hp=>?_,λp hp=>?_⟩;·grind
 ·grind
 ·rw[Yo] at hp;rw[hp];exact .refl
theorem BF.len(b:BF F n m x a g):g.length<=m:=by
 have:=uL b.nd λk hk=>by
  obtain⟨p,hp,rfl⟩:=Yf.mp hk;exact(b.lt p hp).1
 grind
theorem BF.add(b:BF F n m x a g)(ok:∀c∈F,du n m c){k y:Nat}{t:List Int}{v:Int}(e:fh F k y t)(hk:g.lookup k=some v)(hy:g.lookup y=none):BF F n m x a (g++[(y,ap t v)]):=by
 obtain⟨_,ym,ft,tl⟩:=ve ok e;have mk:=lookup_mem hk;refine⟨?_,λp hp=>?_,xQ b.hd,λg' c h p hp=>?_,λp hp=>?_⟩
 ·rw[Ym];refine Ww.mpr ⟨b.nd,by simp,λu hu w hw z=>?_⟩
  grind
 ·rcases Yu.mp hp with hp|hp;·exact b.lt p hp
  ·rw[Yo] at hp;rw[hp];exact⟨ym,kK ft tl (b.lt _ mk).2⟩
 ·rcases Yu.mp hp with hp|hp;·exact b.snd g' c h p hp
  ·rw[Yo] at hp;rw[hp];exact c.1 k y t v e (b.snd g' c h _ mk)
 ·rcases Yu.mp hp with hp|hp;·exact b.conn p hp
  ·rw[Yo] at hp;rw[hp];exact .step (b.conn _ mk) e
theorem BF.ZeI(b:BF F n m x a g)(e:fh F k y t)(hk:g.lookup k=some v)(hy:g.lookup y=some v')(ne:v'≠ap t v):¬∃g',fU n F g'/\g' x=some a:=by
 rintro⟨g',c,h⟩;have h2:=b.snd g' c h _ (lookup_mem hy);have h3:=c.1 k y t v e (b.snd g' c h _ (lookup_mem hk))
 grind
theorem BF.Zd1(b:BF F n m x a g)(mc:c∈F)(sd:c.k=bF)(hk:g.lookup c.one=some v)(ne:v≠c.aJ):¬∃g',fU n F g'/\g' x=some a:=by
 rintro⟨g',cl,h⟩;exact ne (cl.2.1 c mc sd v (b.snd g' cl h _ (lookup_mem hk)))
def Cl(L:Nat->List (Nat×List Int))(g:List (Nat×Int))(r:Nat):Prop:=∀p,g[r]?=some p->∀q∈L p.1,g.lookup q.1=some (ap q.2 p.2)
theorem BF.done(b:BF F n m x a g)(ed:∀x y t,(y,t)∈L x↔fh F x y t)(cl:∀r,r<g.length->Cl L g r)(sd:∀c∈F,c.k=bF->∀u,g.lookup c.one=some u->u=c.aJ):fU n F (λk=>g.lookup k):=by
 refine⟨λk y t u e hk=>?_,sd,λk v h=>(b.lt _ (lookup_mem h)).2⟩;obtain⟨r,hr,er⟩:=Wq.mp (lookup_mem hk);have:=cl r hr (k,u) (by rw[Yc hr,er]) (y,t) ((ed _ _ _).mpr e);exact this
end
theorem xI{α:Type}{ps qs:List (Nat×α)}{k:Nat}{v:α}(h:ps.lookup k=some v):(ps++qs).lookup k=some v:=by
 grind
theorem Cl.app(hr:r<g.length)(c:Cl L g r):Cl L (g++tl) r:=λp hp q hq=>by
 rw[Wd hr] at hp;exact xI (c p hp q hq)
theorem BF.key(b:BF F n m x a g)(cl:fU n F (λk=>g.lookup k))(k:Nat):(∃v,g.lookup k=some v)↔cR F x k:=by
 constructor
 ·rintro⟨v,h⟩;exact b.conn _ (lookup_mem h)
 ·intro c;induction c with
  |refl=>exact⟨a,b.hd⟩
  |step _ e ih=>
   obtain⟨v,h⟩:=ih;exact⟨_,cl.1 _ _ _ v e h⟩
open Classical in
noncomputable def dJ (F:List Fc) (n x:Nat):List Int:=(bp n).filter λa=>decide (∃g,fU n F g/\g x=some a)
def eK(f:Nat->Int)(c:Fc):Prop:=(c.k=bF->f c.one=c.aJ)/\(c.k≠bF->f c.aJ.toNat=ap c.tn (f c.one))
def j_(n m:Nat)(f:Nat->Int):Prop:=∀i,i<m->0<=f i/\f i<(n:Int)
structure dz(n:Nat)(st:JS)(F:List Fc):Prop where
 wf:WF n st
 gh:∀c∈F,du n st.hd.length c
 iff:∀f,cW st f↔j_ n st.hd.length f/\∀c∈F,eK f c
 live:∃f,cW st f
 conn:∀i j,i<st.hd.length->j<st.hd.length->(st.ag i=st.ag j↔cR F i j)
theorem WE{f:Nat->Int}(ok:∀c∈F,du n m c)(inr:j_ n m f)(sat:∀c∈F,eK f c):∃g,fU n F g/\∀x,x<m->g x=some (f x):=by
 refine⟨λi=>if i<m then some (f i) else none,⟨λu v t a e hu=>?_,λc mc sd u hu=>?_,λk v hk=>?_⟩,λx hx=>if_pos hx⟩
 ·obtain⟨um,vm,_,_⟩:=ve ok e;obtain⟨c,mc,ns,h⟩:=e;have s:=(sat c mc).2 ns;obtain⟨_,ft,tl⟩:=(ok c mc).gf ns;have e1:f u=a:=by
   grind
  show(if v<m then some (f v) else none)=_;rw[if_pos vm];rcases h with⟨rfl,rfl,rfl⟩|⟨rfl,rfl,rfl⟩;·rw[s,e1]
  ·rw[←e1,s,sO ft tl (inr _ (ok c mc).one)]
 ·have wU:(if c.one<m then some (f c.one) else none)=some u:=hu;rw[if_pos (ok c mc).one] at wU;rw[←Ys wU];exact(sat c mc).1 sd
 ·have zZ:(if k<m then some (f k) else none)=some v:=hk;by_cases z:k<m
  ·rw[if_pos z] at zZ;rw[←Ys zZ];exact inr k z
  ·grind
theorem Lb{f:Nat->Int}(ok:∀c∈F,du n m c)(hx:x<m)(inr:j_ n m f)(sat:∀c∈F,eK f c):∃g,fU n F g/\g x=some (f x):=by
 obtain⟨g,c,h⟩:=WE ok inr sat
 grind
theorem WG(ok:∀c∈F,du n m c)(inr:j_ n m f0)(sat:∀c∈F,c.one=x\/eK f0 c)(cl:fU n F g)(hx:g x=some a):∃f,j_ n m f/\(∀c∈F,eK f c)/\f x=a/\∀i,f i=(g i).getD (f0 i):=by
 refine⟨λi=>(g i).getD (f0 i),λi hi=>?_,λc mc=>⟨λsd=>?_,λns=>?_⟩,by show(g x).getD _=a;rw[hx];rfl,λ_=>rfl⟩
 ·show 0<=(g i).getD (f0 i)/\(g i).getD (f0 i)<_;cases e:g i with
  |none=>exact inr i hi
  |some v=>exact cl.2.2 i v e
 ·show(g c.one).getD (f0 c.one)=_;cases e:g c.one with
  |none=>
   rcases sat c mc with h|h;·grind
   ·exact h.1 sd
  |some v=>exact cl.2.1 c mc sd v e
 ·show(g c.aJ.toNat).getD (f0 c.aJ.toNat)=ap c.tn ((g c.one).getD (f0 c.one));have ed1:fh F c.one c.aJ.toNat c.tn:=⟨c,mc,ns,.inl ⟨rfl,rfl,rfl⟩⟩;have ed2:fh F c.aJ.toNat c.one (inv c.tn):=⟨c,mc,ns,.inr ⟨rfl,rfl,rfl⟩⟩;cases e:g c.one with
  |some v=>
   rw[cl.1 _ _ _ v ed1 e];rfl
  |none=>
   have e2:g c.aJ.toNat=none:=by
    cases z:g c.aJ.toNat with
    |none=>rfl
    |some v=>rw[cl.1 _ _ _ v ed2 z] at e;cases e
   rw[e2];rcases sat c mc with h|h;·grind
   ·exact h.2 ns
theorem Lc(ok:∀c∈F,du n m c)(inr:j_ n m f0)(sat:∀c∈F,c.one=x\/eK f0 c)(cl:fU n F g)(hx:g x=some a):∃f,j_ n m f/\(∀c∈F,eK f c)/\f x=a:=by
 obtain⟨f,h1,h2,h3,_⟩:=WG ok inr sat cl hx
 grind
open Classical in
theorem u4:a∈dJ F n x↔(0<=a/\a<(n:Int))/\∃g,fU n F g/\g x=some a:=by
 unfold dJ;rw[Y3,decide_eq_true_iff];refine and_congr_left λ_=>?_;unfold bp;rw[Yf];constructor
 ·rintro⟨i,hi,rfl⟩;have:=Wh.mp hi;omega
 ·intro h;exact⟨a.toNat,Wh.mpr (by omega),Jn h.1⟩
section
variable {n x:Nat}{st:JS}{F:List Fc}
theorem dz.room(me:dz n st F)(hx:x<st.hd.length)(a:Int):a∈dJ F n x↔∃f,cW st f/\f x=a:=by
 rw[u4];constructor
 ·rintro⟨_,g,cl,h⟩;obtain⟨f0,d0⟩:=me.live;obtain⟨i0,s0⟩:=(me.iff f0).mp d0;obtain⟨f,i1,s1,e⟩:=Lc me.gh i0 (λc mc=>.inr (s0 c mc)) cl h;exact⟨f,(me.iff f).mpr ⟨i1,s1⟩,e⟩
 ·rintro⟨f,d,rfl⟩;obtain⟨i1,s1⟩:=(me.iff f).mp d;exact⟨i1 x hx,Lb me.gh hx i1 s1⟩
theorem dz.put(me:dz n st F)(ok:du n st.hd.length c)(wf':WF n aK)(len:aK.hd.length=st.hd.length)(live:∃f,cW aK f)(iff:∀f,cW aK f↔cW st f/\eK f c)(cn:∀i j,i<st.hd.length->j<st.hd.length->(aK.ag i=aK.ag j↔cR (F++[c]) i j)):dz n aK (F++[c]):=by
 refine⟨wf',λc' m'=>?_,λf=>?_,live,by rw[len];exact cn⟩
 ·rw[len];rcases Yu.mp m' with m'|m';·exact me.gh c' m'
  ·grind
 ·rw[iff,me.iff,len,and_assoc]
  grind
theorem NG(F:List Fc)(n x:Nat):(dJ F n x).Pairwise (·<=·)/\(dJ F n x).Nodup:=by
 have pw:(bp n).Pairwise (·<=·):=by
  unfold bp;rw[Wu];exact List.pairwise_lt_range.imp λh=>by omega
 exact⟨pw.filter _,(zw.Dy n).filter _⟩
theorem jJ(hi:i<st.hd.length):(st.more n).ag i=st.ag i:=by
 show(st.hd++[_]).getD i 0=st.hd.getD i 0
 grind
theorem mN:(st.more n).ag st.hd.length=st.hd.length:=by
 show(st.hd++[_]).getD _ 0=_;simp
theorem NH(wf:WF n st)(hi:i<st.hd.length):(st.more n).bP i=st.bP i:=by
 show(st.ld++[_]).getD i []=st.ld.getD i [];rw[Yj,Wd (by rw[wf.ll];exact hi),←Yj]
theorem MC(wf:WF n st):(st.more n).bP st.hd.length=bp n:=by
 show(st.ld++[_]).getD _ []=_;rw[←wf.ll];simp
theorem Df{α:Type}{ps:List (Nat×α)}{k:Nat}{v:α}(h:k∉ps.map (·.1)):(ps++[(k,v)]).lookup k=some v:=by
 refine LU ?_;cases e:ps.lookup k with
 |none=>rfl
 |some x=>exact absurd (uX e) h
theorem h_:(st.more n).hd.length=st.hd.length+1:=by
 show(st.hd++[_]).length=_;simp
theorem Zad(n:Nat):full (bp n)=true/\(bp n).length=n:=⟨p_ (List.Perm.refl (bp n)),eF n⟩
theorem OX(h:0<=z/\z<(n:Int)):ap (bp n) z=z:=by
 show(bp n).getD z.toNat 0=z;rw[Yj,kr (by omega)]
 grind
theorem EN:z∈bp n↔0<=z/\z<(n:Int):=by
 unfold bp;rw[Yf];constructor;·grind
 ·intro h;exact⟨z.toNat,Wh.mpr (by omega),Jn h.1⟩
theorem WF.v8(wf:WF n st)(hi:i<st.hd.length):st.ag i<st.hd.length:=wf.lf _ (uX (wf.dq hi).1)
theorem WF.more(wf:WF n st):WF n (st.more n):=by
 have nm:st.hd.length∉st.mem.map (·.1):=λz=>Y7 _ (wf.lm _ z);have nf:st.hd.length∉st.fr.map (·.1):=λz=>Y7 _ (wf.lf _ z);have km:(st.more n).mem.map (·.1)=st.mem.map (·.1)++[st.hd.length]:=by
  show(st.mem++[(st.hd.length,[st.hd.length])]).map (·.1)=_;rw[Ym];rfl
 have kf:(st.more n).fr.map (·.1)=st.fr.map (·.1)++[st.hd.length]:=by
  show(st.fr++[(st.hd.length,bp n)]).map (·.1)=_;rw[Ym];rfl
 have nd:∀{xs:List Nat},xs.Nodup->st.hd.length∉xs->(xs++[st.hd.length]).Nodup:=λ{xs} h h'=>Ww.mpr ⟨h,by simp,λu hu w hw z=>by
  have:w=st.hd.length:=by simpa using hw
  rw[z,this] at hu;exact h' hu⟩
 refine⟨?_,λt ht=>?_,λi hi=>?_,λi hi=>?_,?_,?_,?_,?_,?_⟩
 ·show(st.ld++[_]).length=(st.hd++[_]).length;rw[Yl,Yl,wf.ll];rfl
 ·rcases Yu.mp (show t∈st.ld++[_] from ht) with h|h;·exact wf.fl t h
  ·rw[Yo] at h;rw[h];exact Zad n
 ·rw[h_] at hi;by_cases z:i=st.hd.length
  ·rw[z,mN];exact⟨bp n,Df nf,zw.Dy n,λz hz=>EN.mp hz⟩
  ·rw[jJ (by omega)];exact⟨_,xQ (wf.dq (i:=i) (by omega)).1,(wf.dq (i:=i) (by omega)).2⟩
 ·rw[h_] at hi;by_cases z:i=st.hd.length
  ·rw[z,mN];refine⟨[st.hd.length],Df nm,by simp,λk=>?_⟩;rw[Yo,h_];constructor
   ·rintro rfl;exact⟨by omega,mN⟩
   ·rintro⟨h1,h2⟩;by_cases w:k=st.hd.length;·exact w
    ·rw[jJ (by omega)] at h2;have:=wf.v8 (i:=k) (by omega);omega
  ·obtain⟨ms,e,a,b⟩:=wf.mem i (by omega);rw[jJ (by omega)];refine⟨ms,xQ e,a,λk=>?_⟩;rw[b,h_];constructor
   ·rintro⟨h1,h2⟩;exact⟨by omega,by rw[jJ h1];exact h2⟩
   ·rintro⟨h1,h2⟩;by_cases w:k=st.hd.length
    ·rw[w,mN] at h2;have:=wf.v8 (i:=i) (by omega);omega
    ·rw[jJ (by omega)] at h2;exact⟨by omega,h2⟩
 ·rw[km];exact nd wf.nm nm
 ·rw[km,h_];intro k hk;rcases Yu.mp hk with h|h;·have:=wf.lm k h;omega
  ·rw[Yo] at h;omega
 ·rw[kf];exact nd wf.nf nf
 ·rw[kf,h_];intro k hk;rcases Yu.mp hk with h|h;·have:=wf.lf k h;omega
  ·rw[Yo] at h;omega
 ·rw[kf,h_];intro k hk;rcases Yu.mp hk with h|h
  ·obtain⟨i,hi,e⟩:=wf.hf k h;exact⟨i,by omega,by rw[jJ hi];exact e⟩
  ·rw[Yo] at h;exact⟨st.hd.length,by omega,by rw[mN,h]⟩
theorem MD(wf:WF n st)(f:Nat->Int):cW (st.more n) f↔cW st f/\(0<=f st.hd.length/\f st.hd.length<(n:Int)):=by
 have wY:(st.more n).bV st.hd.length=bp n:=by
  show((st.fr++[(st.hd.length,bp n)]).lookup st.hd.length).getD []=_;rw[Df (λz=>Y7 _ (wf.lf _ z))];rfl
 have T7:∀i,i<st.hd.length->(st.more n).bV (st.ag i)=st.bV (st.ag i):=λi hi=>by
  show((st.fr++[(st.hd.length,bp n)]).lookup _).getD []=_;rw[xQ (wf.dq hi).1];rfl
 constructor
 ·rintro⟨s,h⟩;refine⟨⟨s,λi hi=>?_⟩,?_⟩
  ·have x:=h i (by rw[h_];omega);rw[jJ hi,NH wf hi,T7 i hi] at x;exact x
  ·have x:=h st.hd.length (by rw[h_];omega);rw[mN,MC wf,wY] at x;have b:=EN.mp x.1;rw[x.2,OX b];exact b
 ·rintro⟨⟨s,h⟩,b⟩;refine⟨λq=>if q=st.hd.length then f st.hd.length else s q,λi hi=>?_⟩;rw[h_] at hi;by_cases z:i=st.hd.length
  ·rw[z,mN,MC wf,wY];show(if st.hd.length=st.hd.length then _ else _)∈_/\f st.hd.length=ap _ (if st.hd.length=st.hd.length then _ else _);rw[if_pos rfl,OX b];exact⟨EN.mpr b,rfl⟩
  ·have jn:i<st.hd.length:=by omega
   have:=wf.v8 jn;rw[jJ jn,NH wf jn,T7 i jn]
   grind
theorem Zcs(ok:∀c∈F,du n m c)(h:cR F x y)(hx:x<m):y<m:=by
 cases h with
 |refl=>exact hx
 |step _ e=>exact(ve ok e).2.1
theorem dz.more(me:dz n st F)(n0:0<n):dz n (st.more n) F:=by
 refine⟨me.wf.more,λc mc=>?_,λf=>?_,?_,λi j hi hj=>?_⟩
 ·have ok:=me.gh c mc;rw[h_];exact⟨Wt ok.one,λns=>⟨⟨(ok.gf ns).1.1,Wt (ok.gf ns).1.2⟩,(ok.gf ns).2⟩⟩
 ·rw[MD me.wf,me.iff,h_];constructor
  ·rintro⟨⟨h1,h2⟩,h3⟩;refine⟨λi hi=>?_,h2⟩;by_cases z:i=st.hd.length;·rw[z];exact h3
   ·exact h1 i (by omega)
  ·rintro⟨h1,h2⟩;exact⟨⟨λi hi=>h1 i (by omega),h2⟩,h1 _ (by omega)⟩
 ·obtain⟨f0,s,h⟩:=me.live;refine⟨λi=>if i=st.hd.length then 0 else f0 i,(MD me.wf _).mpr ⟨⟨s,λi hi=>?_⟩,?_⟩⟩;·grind
  ·grind
 ·rw[h_] at hi hj;by_cases zi:i=st.hd.length
  ·by_cases zj:j=st.hd.length;·rw[zi,zj];exact⟨λ_=>.refl,λ_=>rfl⟩
   ·rw[zi,mN,jJ (by omega)];have:=me.wf.v8 (i:=j) (by omega);refine⟨λz=>by omega,λz=>?_⟩;have b:∀{k:Nat},cR F st.hd.length k->k=st.hd.length:=λ{k} h=>by
     induction h with
     |refl=>rfl
     |step _ e ih=>rw[ih] at e;exact absurd (ve me.gh e).1 (Y7 _)
    exact absurd (b z) zj
  ·by_cases zj:j=st.hd.length
   ·rw[zj,mN,jJ (by omega)];have:=me.wf.v8 (i:=i) (by omega);refine⟨λz=>by omega,λz=>?_⟩;have:=Zcs me.gh z (by omega);omega
   ·rw[jJ (by omega),jJ (by omega)];exact me.conn i j (by omega) (by omega)
theorem ZeJ:dz n ⟨[],[],[],[]⟩ []:=⟨wf0,λ_ h=>(nomatch h),λf=>⟨λ_=>⟨λ_ h=>absurd h (Wj _),λ_ h=>(nomatch h)⟩,λ_=>⟨λ_=>0,λ_ h=>absurd h (Wj _)⟩⟩,⟨λ_=>0,λ_=>0,λ_ h=>absurd h (Wj _)⟩,λ_ _ h=>absurd h (Wj _)⟩
end
theorem cR.mono(h:∀x y t,fh F x y t->fh G x y t)(c:cR F x y):cR G x y:=by
 induction c with
 |refl=>exact .refl
 |step _ e ih=>exact .step ih (h _ _ _ e)
theorem cR.trans(c:cR F x y)(d:cR F y z):cR F x z:=by
 induction d with
 |refl=>exact c
 |step _ e ih=>exact .step ih e
theorem Zae(h:c.k=bF):cR (F++[c]) x y↔cR F x y:=
 ⟨cR.mono λ_ _ _ e=>(oC.mp e).elim id λz=>absurd h z.1,cR.mono λ_ _ _ e=>oC.mpr (.inl e)⟩
theorem Zbj(h:c.k≠bF):cR (F++[c]) x y↔cR F x y\/(cR F x c.one/\cR F c.aJ.toNat y)\/(cR F x c.aJ.toNat/\cR F c.one y):=by
 have up:∀{x y:Nat},cR F x y->cR (F++[c]) x y:=λd=>d.mono λ_ _ _ e=>oC.mpr (.inl e);have e1:fh (F++[c]) c.one c.aJ.toNat c.tn:=oC.mpr (.inr ⟨h,.inl ⟨rfl,rfl,rfl⟩⟩);have e2:fh (F++[c]) c.aJ.toNat c.one (inv c.tn):=oC.mpr (.inr ⟨h,.inr ⟨rfl,rfl,rfl⟩⟩);constructor
 ·intro d;induction d with
  |refl=>exact .inl .refl
  |step _ e ih=>
   rcases oC.mp e with e|⟨_,⟨rfl,rfl,_⟩|⟨rfl,rfl,_⟩⟩
   ·rcases ih with a|⟨a,b⟩|⟨a,b⟩;·exact .inl (.step a e)
    ·exact .inr (.inl ⟨a,.step b e⟩)
    ·exact .inr (.inr ⟨a,.step b e⟩)
   ·rcases ih with a|⟨a,b⟩|⟨a,b⟩;·exact .inr (.inl ⟨a,.refl⟩)
    ·exact .inr (.inl ⟨a,.refl⟩)
    ·exact .inl a
   ·rcases ih with a|⟨a,b⟩|⟨a,b⟩;·exact .inr (.inr ⟨a,.refl⟩)
    ·exact .inl a
    ·exact .inr (.inr ⟨a,.refl⟩)
 ·rintro(a|⟨a,b⟩|⟨a,b⟩);·exact up a
  ·exact((up a).step e1).trans (up b)
  ·exact((up a).step e2).trans (up b)
section
variable {n i j:Nat}{st dt:JS}{F:List Fc}{k:Str}{tn:List Int}{b:Bool}
theorem Zbk(me:dz n st F)(to:QA n st dt b i j tn)(hk:k≠bF)(ok:du n st.hd.length ⟨k,i,(j:Int),tn⟩):(b=true->dz n dt (F++[⟨k,i,(j:Int),tn⟩]))/\(b=false->dz n dt F/\∀f,cW dt f->¬eK f ⟨k,i,(j:Int),tn⟩):=by
 have sat:∀f,eK f ⟨k,i,(j:Int),tn⟩↔f j=ap tn (f i):=λf=>⟨λh=>by have:=h.2 hk;rwa [show((⟨k,i,(j:Int),tn⟩:Fc).aJ.toNat)=j from Y6 j] at this,λh=>⟨λz=>absurd z hk,λ_=>by rw[show((⟨k,i,(j:Int),tn⟩:Fc).aJ.toNat)=j from Y6 j];exact h⟩⟩;refine⟨λe=>?_,λe=>?_⟩
 ·obtain⟨lv,iff⟩:=to.yes e;have hi:i<st.hd.length:=ok.one;have hj:j<st.hd.length:=by
   have:=(ok.gf hk).1.2
   rwa [show((⟨k,i,(j:Int),tn⟩:Fc).aJ.toNat)=j from Y6 j] at this
  refine me.put ok to.wf to.len lv (λf=>by rw[iff,sat]) λx y hx hy=>?_;rw[to.hds e x y hx hy,Zbj (c:=⟨k,i,(j:Int),tn⟩) hk,show((⟨k,i,(j:Int),tn⟩:Fc).aJ.toNat)=j from Y6 j,me.conn x y hx hy,me.conn x i hx hi,me.conn x j hx hj,←me.conn j y hj hy,←me.conn i y hi hy];exact or_congr_right (or_congr (and_congr_right λ_=>eq_comm) (and_congr_right λ_=>eq_comm))
 ·obtain⟨es,no⟩:=to.no e;rw[es];exact⟨me,λf d z=>no f d ((sat f).mp z)⟩
theorem OY(me:dz n st F)(hi:i<st.hd.length)(m:a∈(st.bV (st.ag i)).map λz=>(st.bP i).getD z.toNat 0):dz n (st.jR (st.ag i) ((st.bV (st.ag i)).filter λz=>decide ((st.bP i).getD z.toNat 0∈[a]))) (F++[⟨bF,i,a,tn⟩]):=by
 refine me.put (c:=⟨bF,i,a,tn⟩) ⟨hi,λz=>absurd rfl z⟩ (me.wf.jR hi) rfl ?_ (λf=>?_) λx y hx hy=>?_
 ·obtain⟨z,mz,rfl⟩:=Yf.mp m;obtain⟨f0,d0⟩:=me.live;obtain⟨f,d,q⟩:=xX me.wf d0 (st.ag i) (st.ag i) z z mz mz (λ_=>rfl);exact⟨f,(uQ me.wf hi _ f).mpr ⟨d,by rw[(q i hi).1 rfl];exact Yk⟩⟩
 ·rw[uQ me.wf hi,Yo];refine and_congr_right λ_=>?_;exact⟨λh=>⟨λ_=>h,λz=>absurd rfl z⟩,λh=>h.1 rfl⟩
 ·rw[Zae rfl];exact me.conn x y hx hy
theorem Zd2(me:dz n st F)(hi:i<st.hd.length)(m:a∉(st.bV (st.ag i)).map λz=>(st.bP i).getD z.toNat 0)(f:Nat->Int)(d:cW st f):¬eK f ⟨bF,i,a,tn⟩:=by
 obtain⟨s,h⟩:=d;intro z;have e:f i=a:=z.1 rfl;refine m (Yf.mpr ⟨s (st.ag i),(h i hi).1,?_⟩);rw[←e,(h i hi).2];rfl
end
abbrev bM:=List (Str×Str)
def au(ps:bM)(i:Nat):Str:=(ps.getD i ("","")).1
def bh(ps:bM)(c:Fc):Key:=if c.k=bF then .inl c.aJ else .inr (au ps c.aJ.toNat)
def dQ(ps:bM)(z:Nat)(c:Fc):List Key:=[.inl (z:Int),.inr c.k,.inr (au ps c.one),bh ps c]
def keyOf(k a:Str):Key->List Key
 |.inl b=>[.inr k,.inr a,.inl b]
 |.inr b=>if k="sibling" then[.inr k,.inr (L2.oS a b),.inr (L2.oU a b)] else[.inr k,.inr a,.inr b]
def eT(ps:bM)(c:Fc):List Key:=keyOf c.k (au ps c.one) (bh ps c)
def cH(k:Str):Bool:=decide (k="mother")||decide (k="father")
def eU(ps:bM)(fs:List (Nat×Fc)):List (List Key×V):=fs.map λp=>(eT ps p.2,.int (p.1:Int))
def cj(ps:bM)(fs:List (Nat×Fc)):List (List Key×V):=(fs.filter λp=>cH p.2.k).map λp=>([.inr p.2.k,.inr (au ps p.2.one)],kV (bh ps p.2))
def iF(ps:bM):List (Key×V):=ps.zipIdx.map λp=>(.inr p.1.1,.int (p.2:Int))
structure y8 where
 way:Int
 row:List Key
 c0:Nat
 c1:Nat
def lO(H:Hp)(a:Addr)(d:y8):Prop:=∃r,H a=some (.tup [.int d.way,.ref r,.int (d.c0:Int),.int (d.c1:Int)])/\H r=some (.tup (d.row.map kV))
structure BS where
 ps:bM
 fs:List (Nat×Fc)
 co:Nat
 dn:List y8
 un:List y8
def BS.F(b:BS):List Fc:=b.fs.map (·.2)
structure BL where
 h:Addr
 L:Addr
 sd:Addr
 pl:Addr
 fc:Addr
 kn:Addr
 pr:Addr
 dn:Addr
 un:Addr
 rk:V
 bU:List Addr
 gK:List Addr
 jv:List Addr
 d5:List Addr
def BL.own(l:BL):List Addr:=[l.h,l.sd,l.pl,l.fc,l.kn,l.pr,l.dn,l.un]
def BL.fp(l:BL):List Addr:=l.own++l.d5
structure fI(K:PySem.W.Frag)(C:Addr):Prop where
 cls:fL K C
 sX:dw K C "land"
 qb:dw K C "sides"
 u9:dw K C "places"
 sP:dw K C "facts"
 yt:dw K C "known"
 sv:dw K C "parents"
 oE:dw K C "coming"
 QC:dw K C "done"
 NI:dw K C "undone"
 gP:dw K C "reckoned"
abbrev HF(L sd pl fc kn pr:Addr)(co:Int)(dn un:Addr)(rk:V):List (Str×V):=[("land",.ref L),("sides",.ref sd),("places",.ref pl),("facts",.ref fc),("known",.ref kn),("parents",.ref pr),("coming",.int co),("done",.ref dn),("undone",.ref un),("reckoned",rk)]
theorem ZfB(a b c d e f g h i j:V):cK "reckoned" j (cK "undone" i (cK "done" h (cK "coming" g (cK "parents" f (cK "known" e (cK "facts" d (cK "places" c (cK "sides" b (cK "land" a [])))))))))=
  ([("land",a),("sides",b),("places",c),("facts",d),("known",e),("parents",f),("coming",g),("done",h),("undone",i),("reckoned",j)]:List (Str×V)):=rfl
abbrev fO(ps:bM):List (Key×V):=ps.map λp=>(.inr p.1,.str p.2)
inductive qJ(H:Hp)(CJ:Addr)(n:Nat)(l:BL)(b:BS):Prop
 |no (e1:l.rk=.aA) (e2:l.d5=[])
 |at_ (jl:JL) (st:JS) (e1:l.rk=.ref jl.J) (e2:l.d5=jl.fp) (ja:cC H CJ n jl st) (me:dz n st b.F) (len:st.hd.length=b.ps.length) (fD:∀a∈l.own,a∉jl.fp)
structure bw(H:Hp)(C CL CJ:Addr)(l:BL)(xs ys:List Int)(b:BS):Prop where
 obj:∃dx,H l.h=some (.ins C dx (HF l.L l.sd l.pl l.fc l.kn l.pr (b.co:Int) l.dn l.un l.rk))
 land:∀H',Out l.fp H H'->gS H' CL l.L xs ys
 cS:H l.sd=some (.dK (fO b.ps))
 places:H l.pl=some (.dK (iF b.ps))
 facts:H l.fc=some (.dK (bo (b.fs.map (·.1)) l.bU))
 fact:Paired (λa (p:Nat×Fc)=>H a=some (.tup ((dQ b.ps p.1 p.2).map kV))) l.bU b.fs
 known:H l.kn=some (.dT (eU b.ps b.fs))
 parents:H l.pr=some (.dT (cj b.ps b.fs))
 done:H l.dn=some (.lst (l.gK.map V.ref))
 jV:Paired (lO H) l.gK b.dn
 gT:H l.un=some (.lst (l.jv.map V.ref))
 lP:Paired (lO H) l.jv b.un
 qv:qJ H CJ xs.length l b
 nd:l.own.Nodup
theorem lO.out(o:Out fp H H')(t:∀a xs,H a=some (.tup xs)->a∉fp)(h:lO H a d):lO H' a d:=by
 obtain⟨r,h1,h2⟩:=h;exact⟨r,o _ _ h1 (t _ _ h1),o _ _ h2 (t _ _ h2)⟩
theorem cC.off(j:cC H C n l st)(h:H a=some (.tup xs)):a∉l.fp:=by
 intro z;unfold JL.fp at z;simp only[Yp] at z;rcases z with rfl|rfl|rfl|rfl|rfl|z
 ·obtain⟨dx,e⟩:=j.obj
  grind
 ·rw[j.heads] at h;cases h
 ·rw[j.gU] at h;cases h
 ·rw[j.iK] at h;cases h
 ·rw[j.frees] at h;cases h
 ·obtain⟨y,e⟩:=uW j.mem z
  grind
theorem cC.jd(j:cC H C n l st)(o:Out fp H H')(d1:∀a∈fp,a∉l.fp)(d2:∀a∈fp,a∉l.bU)(t:∀a xs,H a=some (.tup xs)->a∉fp):cC H' C n l st:=by
 have k:∀{a:Addr} {u:HO},H a=some u->a∈l.fp->H' a=some u:=λ{a u} e m=>o _ _ e λz=>d1 _ z m;obtain⟨dx,e⟩:=j.obj;refine⟨⟨dx,k e (by simp[JL.fp])⟩,k j.heads (by simp[JL.fp]),k j.gU (by simp[JL.fp]),L2.Paired.bI j.lead λa x h=>o _ _ h (t _ _ h),k j.iK (by simp[JL.fp]),?_,k j.frees (by simp[JL.fp]),?_,j.nd,j.out⟩
 ·have aux:∀{as:List Addr} {ps:List (Nat×List Nat)},Paired (λa p=>H a=some (.lst (dE p.2))) as ps->(∀a∈as,a∈l.fp)->Paired (λa p=>H' a=some (.lst (dE p.2))) as ps:=by
   intro as ps p;induction p with
   |nil=>intro _;exact .nil
   |cons f _ ih=>intro m;exact .cons (k f (m _ Yk)) (ih λa ha=>m a (Yx _ ha))
  exact aux j.mem λa ha=>by simp[JL.fp,ha]
 ·have aux:∀{as:List Addr} {ps:List (Nat×List Int)},Paired (λa p=>H a=some (.lst (p.2.map V.int))) as ps->(∀a∈as,a∈l.bU)->Paired (λa p=>H' a=some (.lst (p.2.map V.int))) as ps:=by
   intro as ps p;induction p with
   |nil=>intro _;exact .nil
   |cons f _ ih=>intro m;exact .cons (o _ _ f λz=>d2 _ z (m _ Yk)) (ih λa ha=>m a (Yx _ ha))
  exact aux j.free λa ha=>ha
section
variable {H H':Hp}{l:BL}{xs ys:List Int}{b:BS}
theorem bw.landAt(h:bw H C CL CJ l xs ys b):gS H CL l.L xs ys:=h.land H (Out.of (ai.refl _))
theorem bw.tup(h:bw H C CL CJ l xs ys b)(e:H a=some (.tup us)):a∉l.fp:=by
 intro z;unfold BL.fp BL.own at z;rcases Yu.mp z with z|z
 ·simp only[Yp,Y2,or_false] at z;rcases z with rfl|rfl|rfl|rfl|rfl|rfl|rfl|rfl
  ·obtain⟨dx,q⟩:=h.obj
   grind
  ·rw[h.cS] at e;cases e
  ·rw[h.places] at e;cases e
  ·rw[h.facts] at e;cases e
  ·rw[h.known] at e;cases e
  ·rw[h.parents] at e;cases e
  ·rw[h.done] at e;cases e
  ·rw[h.gT] at e;cases e
 ·cases h.qv with
  |no _ e2=>grind
  |at_ jl st _ e2 ja=>rw[e2] at z;exact ja.off e z
theorem bw.there(h:bw H C CL CJ l xs ys b)(z:a∈l.fp):H a≠none:=by
 intro e;unfold BL.fp BL.own at z;rcases Yu.mp z with z|z
 ·simp only[Yp,Y2,or_false] at z;rcases z with rfl|rfl|rfl|rfl|rfl|rfl|rfl|rfl
  ·obtain⟨dx,q⟩:=h.obj
   grind
  ·rw[h.cS] at e;cases e
  ·rw[h.places] at e;cases e
  ·rw[h.facts] at e;cases e
  ·rw[h.known] at e;cases e
  ·rw[h.parents] at e;cases e
  ·rw[h.done] at e;cases e
  ·rw[h.gT] at e;cases e
 ·cases h.qv with
  |no _ e2=>grind
  |at_ jl st _ e2 ja=>rw[e2] at z;exact ja.ne e z
theorem qJ.same(g:ai H H')(h:qJ H CJ n l b):qJ H' CJ n l b:=by
 cases h with
 |no e1 e2=>exact .no e1 e2
 |at_ jl st e1 e2 ja me len fD=>exact .at_ jl st e1 e2 (ja.same g) me len fD
theorem bw.same(g:ai H H')(h:bw H C CL CJ l xs ys b):bw H' C CL CJ l xs ys b:=
 ⟨let⟨dx,e⟩:=h.obj;⟨dx,g _ _ e⟩,λH2 o=>h.land H2 ((Out.of g).trans o),g _ _ h.cS,g _ _ h.places,g _ _ h.facts,L2.Paired.bI h.fact λ_ _ e=>g _ _ e,g _ _ h.known,g _ _ h.parents,g _ _ h.done,L2.Paired.bI h.jV λ_ _ ⟨r,e1,e2⟩=>⟨r,g _ _ e1,g _ _ e2⟩,g _ _ h.gT,L2.Paired.bI h.lP λ_ _ ⟨r,e1,e2⟩=>⟨r,g _ _ e1,g _ _ e2⟩,h.qv.same g,h.nd⟩
def dY(fp ra:List Addr)(H:Hp):Prop:=∀a∈ra,a∈fp\/H a=none
theorem dY.refl(fp:List Addr)(H:Hp):dY fp fp H:=λ_ h=>.inl h
theorem EO(o:Out fp H H1)(g:dY fp ra H)(o2:Out ra H1 H2):Out fp H H2:=λa u e n=>o2 _ _ (o _ _ e n) λz=>(g a z).elim n λq=>by rw[e] at q;cases q
theorem dY.trans(g:dY fp ra H)(o:Out fp H H1)(g2:dY ra ZfC H1):dY fp ZfC H:=λa z=>by
 rcases g2 a z with q|q;·exact g a q
 ·by_cases m:a∈fp;·exact .inl m
  ·right
   cases e:H a with
   |none=>rfl
   |some u=>rw[o _ _ e m] at q;cases q
theorem dY.same(s:ai H H1)(g2:dY fp ra H1):dY fp ra H:=λa z=>(g2 a z).imp id λq=>s.free q
theorem Zbl(me:dz n st F)(m:(k,secs)∈st.fr):secs≠[]:=by
 obtain⟨i,hi,e⟩:=me.wf.hf k (Yf.mpr ⟨_,m,rfl⟩);obtain⟨f,s,d⟩:=me.live;have q:=(d i hi).1;unfold JS.bV at q;rw[e,(mem_lookup me.wf.nf m)] at q
 grind
theorem Zct(ja:cC H CJ n jl st)(me:dz n st b.F)(h:∃dx us,H l.h=some (.ins C dx us))(h2:∃k,H l.sd=some (.dK k))(h3:∃k,H l.pl=some (.dK k))(h4:∃k,H l.fc=some (.dK k))(h5:∃k,H l.kn=some (.dT k))(h6:∃k,H l.pr=some (.dT k))(h7:∃as:List Addr,H l.dn=some (.lst (as.map V.ref)))(h8:∃as:List Addr,H l.un=some (.lst (as.map V.ref))):∀a∈l.own,a∉jl.bU:=by
 intro a ha hf;obtain⟨p,hp,e⟩:∃p∈st.fr,H a=some (.lst (p.2.map V.int)):=by
  have aux:∀{as:List Addr} {ps:List (Nat×List Int)},Paired (λa p=>H a=some (.lst (p.2.map V.int))) as ps->a∈as->∃p∈ps,H a=some (.lst (p.2.map V.int)):=by
   intro as ps pr;induction pr with
   |nil=>intro h;cases h
   |cons f _ ih=>
    intro h;rcases Yp.mp h with rfl|h;·exact⟨_,Yk,f⟩
    ·obtain⟨q,m,e⟩:=ih h;exact⟨q,Yx _ m,e⟩
  exact aux ja.free hf
 have ne:=Zbl me (k:=p.1) (secs:=p.2) hp;have lst:∀as:List Addr,H a=some (.lst (as.map V.ref))->False:=λas q=>by
  rw[q] at e;have e':as.map V.ref=p.2.map V.int:=by injection e with e;injection e
  cases dB:p.2 with
  |nil=>exact ne dB
  |cons x r=>
   rw[dB] at e';cases as with
   |nil=>cases e'
   |cons y s=>injection e' with e1 _;cases e1
 unfold BL.own at ha;simp only[Yp,Y2,or_false] at ha;rcases ha with rfl|rfl|rfl|rfl|rfl|rfl|rfl|rfl;·obtain⟨_,_,q⟩:=h;rw[q] at e;cases e
 ·obtain⟨_,q⟩:=h2;rw[q] at e;cases e
 ·obtain⟨_,q⟩:=h3;rw[q] at e;cases e
 ·obtain⟨_,q⟩:=h4;rw[q] at e;cases e
 ·obtain⟨_,q⟩:=h5;rw[q] at e;cases e
 ·obtain⟨_,q⟩:=h6;rw[q] at e;cases e
 ·obtain⟨_,q⟩:=h7;exact lst _ q
 ·obtain⟨_,q⟩:=h8;exact lst _ q
theorem bw.F1(h:bw H C CL CJ l xs ys b)(ja:cC H CJ xs.length jl st)(me:dz xs.length st b.F):∀a∈l.own,a∉jl.bU:=
 Zct ja me (let⟨dx,e⟩:=h.obj;⟨dx,_,e⟩) ⟨_,h.cS⟩ ⟨_,h.places⟩ ⟨_,h.facts⟩ ⟨_,h.known⟩ ⟨_,h.parents⟩ ⟨_,h.done⟩ ⟨_,h.gT⟩
theorem bw.build(h:bw H C CL CJ l xs ys b)(eh:l'.h=l.h)(eL:l'.L=l.L)(es:l'.sd=l.sd)(ep:l'.pl=l.pl)(ef:l'.fc=l.fc)(ek:l'.kn=l.kn)(er:l'.pr=l.pr)(ed:l'.dn=l.dn)(eu:l'.un=l.un)(o:Out l.fp H H')(g:dY l.fp l'.fp H)
  (obj:∃dx,H' l.h=some (.ins C dx (HF l.L l.sd l.pl l.fc l.kn l.pr (b'.co:Int) l.dn l.un l'.rk)))(cS:H' l.sd=some (.dK (fO b'.ps)))(places:H' l.pl=some (.dK (iF b'.ps)))(facts:H' l.fc=some (.dK (bo (b'.fs.map (·.1)) l'.bU)))
  (fact:Paired (λa (p:Nat×Fc)=>H' a=some (.tup ((dQ b'.ps p.1 p.2).map kV))) l'.bU b'.fs)(known:H' l.kn=some (.dT (eU b'.ps b'.fs)))(parents:H' l.pr=some (.dT (cj b'.ps b'.fs)))
  (done:H' l.dn=some (.lst (l'.gK.map V.ref)))(jV:Paired (lO H') l'.gK b'.dn)(gT:H' l.un=some (.lst (l'.jv.map V.ref)))(lP:Paired (lO H') l'.jv b'.un)(rk:qJ H' CJ xs.length l' b'):bw H' C CL CJ l' xs ys b':=by
 have oe:l'.own=l.own:=by unfold BL.own;rw[eh,es,ep,ef,ek,er,ed,eu]
 refine⟨?_,λH2 o2=>?_,by rw[es];exact cS,by rw[ep];exact places,by rw[ef];exact facts,fact,by rw[ek];exact known,by rw[er];exact parents,by rw[ed];exact done,jV,by rw[eu];exact gT,lP,rk,by rw[oe];exact h.nd⟩;·rw[eh,eL,es,ep,ef,ek,er,ed,eu];exact obj
 ·rw[eL];exact h.land H2 (EO o g o2)
theorem bw.owned(h:bw H C CL CJ l xs ys b)(eh:l'.h=l.h)(eL:l'.L=l.L)(es:l'.sd=l.sd)(ep:l'.pl=l.pl)(ef:l'.fc=l.fc)(ek:l'.kn=l.kn)(er:l'.pr=l.pr)(ed:l'.dn=l.dn)(eu:l'.un=l.un)
  (rk:(l'.rk=l.rk/\l'.d5=l.d5/\b'.F=b.F/\b'.ps.length=b.ps.length)\/(l'.rk=.aA/\l'.d5=[]))(o:Out l.own H H')
  (obj:∃dx,H' l.h=some (.ins C dx (HF l.L l.sd l.pl l.fc l.kn l.pr (b'.co:Int) l.dn l.un l'.rk)))(cS:H' l.sd=some (.dK (fO b'.ps)))(places:H' l.pl=some (.dK (iF b'.ps)))(facts:H' l.fc=some (.dK (bo (b'.fs.map (·.1)) l'.bU)))
  (fact:Paired (λa (p:Nat×Fc)=>H' a=some (.tup ((dQ b'.ps p.1 p.2).map kV))) l'.bU b'.fs)(known:H' l.kn=some (.dT (eU b'.ps b'.fs)))(parents:H' l.pr=some (.dT (cj b'.ps b'.fs)))
  (done:H' l.dn=some (.lst (l'.gK.map V.ref)))(jV:Paired (lO H') l'.gK b'.dn)(gT:H' l.un=some (.lst (l'.jv.map V.ref)))(lP:Paired (lO H') l'.jv b'.un):bw H' C CL CJ l' xs ys b'/\dY l.fp l'.fp H:=by
 have oe:l'.own=l.own:=by unfold BL.own;rw[eh,es,ep,ef,ek,er,ed,eu]
 have sub:∀a∈l'.fp,a∈l.fp:=λa z=>by
  unfold BL.fp at z⊢;rw[oe] at z;rcases rk with⟨_,e,_⟩|⟨_,e⟩;·rw[e] at z;exact z
  ·rw[e,Wf] at z;exact Yr _ z
 have of:Out l.fp H H':=λa u e n=>o _ _ e λz=>n (Yr _ z);refine⟨⟨?_,λH2 o2=>?_,by rw[es];exact cS,by rw[ep];exact places,by rw[ef];exact facts,fact,by rw[ek];exact known,by rw[er];exact parents,by rw[ed];exact done,jV,by rw[eu];exact gT,lP,?_,by rw[oe];exact h.nd⟩,λa z=>.inl (sub a z)⟩;·rw[eh,eL,es,ep,ef,ek,er,ed,eu];exact obj
 ·rw[eL];exact h.land H2 (EO of (λa z=>.inl (sub a z)) o2)
 ·rcases rk with⟨r1,r2,r3,r4⟩|⟨r1,r2⟩
  ·cases h.qv with
   |no e1 e2=>exact .no (by rw[r1];exact e1) (by rw[r2];exact e2)
   |at_ jl st e1 e2 ja me len fD=>
    exact .at_ jl st (by rw[r1];exact e1) (by rw[r2];exact e2) (ja.jd o fD (h.F1 ja me) λa us e=>λz=>h.tup e (Yr _ z)) (by rw[r3];exact me) (by rw[r4];exact len) (by rw[oe];exact fD)
  ·exact .no r1 r2
end
abbrev oW:List (Str×Str):=[("mother","m"),("father","f"),("wed","w"),("sibling","s")]
abbrev oQ(xs ys:List Int):List (Str×List Int):=[("mother",inv xs),("father",inv (bH xs ys)),("wed",ys),("sibling",bp xs.length)]
structure dM(xs ys:List Int)(m:Nat)(c:Fc):Prop where
 ok:du xs.length m c
 kind:c.k=bF\/(c.k,c.tn)∈oQ xs ys
 G5:c.k=bF->0<=c.aJ/\c.aJ<(xs.length:Int)
theorem Zj:(bF,tn)∉oQ xs ys:=by
 intro h;simp only[Yp,Y2,or_false] at h;rcases h with⟨h,_⟩|⟨h,_⟩|⟨h,_⟩|⟨h,_⟩<;>exact absurd h (by decide+kernel)
theorem CA(h:(k,tn)∈oQ xs ys):∃r,PyProof.Rows.KTD.datumAt k oW=some r/\(r,tn)∈yF xs ys:=by
 simp only[Yp,Y2,or_false] at h;rcases h with⟨rfl,rfl⟩|⟨rfl,rfl⟩|⟨rfl,rfl⟩|⟨rfl,rfl⟩;·exact⟨"m",by decide+kernel,by simp⟩
 ·exact⟨"f",by decide+kernel,by simp⟩
 ·exact⟨"w",by decide+kernel,by simp⟩
 ·exact⟨"s",by decide+kernel,by simp⟩
theorem dM.tF(g:dM xs ys m c)(h:c.k≠bF):(c.k,c.tn)∈oQ xs ys:=g.kind.resolve_left h
theorem Zbm(gd:ni xs ys)(h:(k,tn)∈oQ xs ys):full tn=true/\tn.length=xs.length:=by
 obtain⟨r,_,h2⟩:=CA h;exact Zi gd h2
theorem sQ(nd:(ps.map (·.1)).Nodup)(hi:i<ps.length):aO (iF ps) (.inr (au ps i))=some (.int (i:Int)):=by
 have aux:∀(ps:bM) (k i:Nat),(ps.map (·.1)).Nodup->i<ps.length->aO ((ps.zipIdx k).map λp=>((.inr p.1.1:Key),V.int (p.2:Int))) (.inr (au ps i))=some (.int ((k+i:Nat):Int)):=by
  intro ps;induction ps with
  |nil=>intro k i _ h;cases h
  |cons p ps ih=>
   intro k i nd hi;obtain⟨n1,n2⟩:=Y1.mp (show(p.1::ps.map (·.1)).Nodup from nd);rw[List.zipIdx_cons,Wp];cases i with
   |zero=>exact e_ rfl
   |succ i=>
    have jn:i<ps.length:=by simpa using hi
    have e:au (p::ps) (i+1)=au ps i:=rfl;have m:au ps i∈ps.map (·.1):=by
     unfold au;rw[Yj,Yc jn];exact Yf.mpr ⟨_,Jm jn,rfl⟩
    rw[e,eM (λz=>n1 (by rw[We z];exact m)),ih (k+1) i n2 jn]
    congr 2
    omega
 have:=aux ps 0 i nd hi
 rwa [Nat.zero_add] at this
theorem lE(h:c.k=bF):bh ps c=.inl c.aJ:=if_pos h
theorem ia(h:c.k≠bF):bh ps c=.inr (au ps c.aJ.toNat):=if_neg h
inductive NJ(vs:List V)(H:Hp)(Q:VK):Prop
 |mk (k:Str) (aC:vs=[.str k]) (aV:Q (.bl (lW oW k)) H):NJ vs H Q
def Fm:Sp:=λvs H Q _=>NJ vs H Q
inductive LV(CL:Addr)(vs:List V)(H:Hp)(Q:VK):Prop
 |mk (L:Addr) (k:Str) (xs ys tn:List Int) (aC:vs=[.ref L,.str k]) (aV:gS H CL L xs ys) (bc:(k,tn)∈oQ xs ys) (bO:∀t:Addr,bR H t tn->Q (.ref t) H):LV CL vs H Q
def Ei(CL:Addr):Sp:=λvs H Q _=>LV CL vs H Q
inductive QD(vs:List V)(H:Hp)(Q:VK):Prop
 |mk (k a:Str) (o:Key) (aC:vs=[.str k,.str a,kV o]) (aV:k="sibling"->∃b,o=.inr b) (bc:Nw H (.tup ((keyOf k a o).map kV)) Q):QD vs H Q
def yP:Sp:=λvs H Q _=>QD vs H Q
inductive NK(CL CJ:Addr)(vs:List V)(H:Hp)(Q:VK):Prop
 |mk (jl:JL) (st:JS) (L pl fa:Addr) (xs ys:List Int) (ps:bM) (F:List Fc) (z:Nat) (c:Fc) (aC:vs=[.ref jl.J,.ref L,.ref pl,.ref fa]) (ja:cC H CJ xs.length jl st) (me:dz xs.length st F) (la:gS H CL L xs ys) (gd:ni xs ys) (hp:H pl=some (.dK (iF ps))) (nd:(ps.map (·.1)).Nodup) (len:st.hd.length=ps.length) (m4:ps.length<=100) (hf:H fa=some (.tup ((dQ ps z c).map kV))) (fg:dM xs ys ps.length c) (lv:∃f,cW st f/\eK f c)
   (q:∀(v:V) (gm:JL) (aK:JS) (H':Hp),gm.J=jl.J->(∀a∈gm.fp,a∈jl.fp)->Out jl.fp H H'->cC H' CJ xs.length gm aK->dz xs.length aK (F++[c])->aK.hd.length=st.hd.length->Q v H'):NK CL CJ vs H Q
def Fn(CL CJ:Addr):Sp:=λvs H Q _=>NK CL CJ vs H Q
inductive OZ(CL CJ:Addr)(vs:List V)(H:Hp)(Q:VK):Prop
 |mk (jl:JL) (st:JS) (L pl fa:Addr) (xs ys:List Int) (ps:bM) (F:List Fc) (z:Nat) (c:Fc) (aC:vs=[.ref jl.J,.ref L,.ref pl,.ref fa]) (ja:cC H CJ xs.length jl st) (me:dz xs.length st F) (la:gS H CL L xs ys) (gd:ni xs ys) (hp:H pl=some (.dK (iF ps))) (nd:(ps.map (·.1)).Nodup) (len:st.hd.length=ps.length) (m4:ps.length<=100) (hf:H fa=some (.tup ((dQ ps z c).map kV))) (fg:dM xs ys ps.length c)
   (q1:(∃f,cW st f/\eK f c)->∀H',ai H H'->Q (.bl true) H') (q2:(∀f,cW st f->¬eK f c)->∀H',ai H H'->Q (.bl false) H'):OZ CL CJ vs H Q
def QE(CL CJ:Addr):Sp:=λvs H Q _=>OZ CL CJ vs H Q
theorem yu:∀b:Bool,decide (V.str k=V.str bF)=b->(b=true↔k=bF):=λb e=>by
 grind
section
variable {kj:Addr}
theorem Zaf:aQ ["kind"] ["kind"] (aL EI):=⟨rfl,rfl,rfl,by decide+kernel,rfl,by decide+kernel,by decide+kernel⟩
theorem Zag(F:aM K "is_tie" "is_tie" EI f fd)(rN:mg "TIE_LETTERS"=some (.ref kj))(tb:tJ K kj oW):aG P w K mg base aN 1 f fd ["kind"] Fm:=by
 refine F.ok Zaf (λvs H Q E h=>?_) (λaE A outer s H vs Q E hr h=>?_)
 ·obtain⟨k,rfl,_⟩:=h;rfl
 obtain⟨k,rfl,q⟩:=h;refine⟨_,(aq (aF (dF (ZdE (K:=K) rfl) (pv 0) (di (v:=.ref kj) rfl rN rfl) (by with_unfolding_all rfl)))),?_⟩;exact⟨_,rfl,k,kj,oW,rfl,rfl,tb,q⟩
theorem XU:aQ ["land","kind"] ["land","kind"] (aL DD):=⟨rfl,rfl,rfl,by decide+kernel,rfl,by decide+kernel,by decide+kernel⟩
theorem XW(F:aM K "tie_turn" "tie_turn" DD f fd)(rN:mg "TIE_LETTERS"=some (.ref kj))(tb:tJ K kj oW)(lc:tE K CL)(sH:HasFn P w K mg base 1 "is_tie" ["kind"] Fm)(Dg:cA P w K mg base 1 "step" CL ["self","letter"] (Qs CL)):aG P w K mg base aN 2 f fd ["land","kind"] (Ei CL):=by
 refine F.ok XU (λvs H Q E h=>?_) (λaE A outer s H vs Q E hr h=>?_)
 ·obtain⟨L,k,xs,ys,tn,rfl,_⟩:=h;rfl
 obtain⟨L,k,xs,ys,tn,rfl,la,hk,q⟩:=h;refine⟨_,(aj (aS (i8 (eN (aT sH hr (by omega) rfl (aa (pv 1) ae)))) fH aY) (aq (aF (cJ Dg hr (by omega) (pv 0) (aa (a9 (Zb5 (K:=K) rfl) (di (v:=.ref kj) rfl rN rfl) (pv 1) (λ_ _=>rfl)) ae))))),?_⟩;obtain⟨r,dr,hs⟩:=CA hk;have ht:lW oW k=true:=by unfold lW;rw[dr];rfl
 obtain⟨dx,d,mo,fE,wi,im,jf,iw,st,h1,_⟩:=id la;refine⟨_,rfl,k,rfl,_,rfl,?_⟩;rw[ht];refine bY (aX ?_);exact⟨_,rfl,L,dx,_,rfl,h1,rfl,_,rfl,kj,k,r,oW,rfl,rfl,tb,dr,L,r,xs,ys,tn,rfl,la,hs,q⟩
theorem XX:aQ ["kind","one","other"] ["kind","one","other"] (aL DE):=⟨rfl,rfl,rfl,by decide+kernel,rfl,by decide+kernel,by decide+kernel⟩
theorem XY(F:aM K "fact_key" "fact_key" DE f fd)(mO:mg "SIBLING"=some (.str "sibling" t1))(bl:Bl mg):aG P w K mg base aN 1 f fd ["kind","one","other"] yP:=by
 refine F.ok XX (λvs H Q E h=>?_) (λaE A outer s H vs Q E hr h=>?_)
 ·obtain⟨k,a,o,rfl,_⟩:=h;rfl
 obtain⟨k,a,o,rfl,hs,q⟩:=h;refine⟨_,(aj (aS (aZ cg (pv 0) (di (v:=.str "sibling") rfl mO ⟨_,rfl⟩) (aR _)) (aq (aF (dv (aa (pv 0) (aa (bJ (YY rfl) rfl bl.Zeq Zdd (aa (pv 1) (aa (pv 2) ae))) (aa (bJ (YZ rfl) rfl bl.Zer ZdQ (aa (pv 1) (aa (pv 2) ae))) ae)))))) aY) (aq (aF (dv (aa (pv 0) (aa (pv 1) (aa (pv 2) ae))))))),?_⟩;refine⟨_,rfl,rfl,_,rfl,?_⟩;by_cases e:k="sibling"
 ·obtain⟨b,rfl⟩:=hs e;rw[decide_eq_true (by rw[e])];refine⟨_,rfl,_,rfl,_,rfl,_,_,rfl,_,rfl,_,rfl,_,_,rfl,by show 3<=sizeLine;decide,?_⟩;have ek:keyOf k a (.inr b)=[.inr k,.inr (L2.oS a b),.inr (L2.oU a b)]:=if_pos e;rw[ek] at q;exact q
 ·rw[decide_eq_false (λz=>e (V.str.inj z))];refine⟨_,rfl,_,rfl,_,rfl,by show 3<=sizeLine;decide,?_⟩;have ek:(keyOf k a o).map kV=[.str k,.str a,kV o]:=by
   cases o with
   |inl i=>rfl
   |inr b=>
    have:keyOf k a (.inr b)=[.inr k,.inr a,.inr b]:=if_neg e;rw[this];rfl
  rw[ek] at q;exact q
theorem uN:aQ ["joins","land","places","fact","number","kind","one","other"] ["joins","land","places","fact"] (aL CZ):=⟨rfl,rfl,rfl,by decide+kernel,rfl,by decide+kernel,by decide+kernel⟩
theorem Xc(F:aM K "keep_fact" "keep_fact" CZ f fd)(jL:mg "SAID"=some (.str "said" t1))(r6:HasFn P w K mg base 2 "tie_turn" ["land","kind"] (Ei CL))(Dh:cA P w K mg base 3 "say" CJ ["self","one","section"] (Ru CJ))(Di:cA P w K mg base 5 "tie" CJ ["self","one","other","turn"] (Rw CJ)):aG P w K mg base aN 6 f fd ["joins","land","places","fact"] (Fn CL CJ):=by
 refine F.ok uN (λvs H Q E h=>?_) (λaE A outer s H vs Q E hr h=>?_)
 ·obtain⟨jl,st,L,pl,fa,xs,ys,ps,FF,z,c,rfl,_⟩:=h;rfl
 obtain⟨jl,st,L,pl,fa,xs,ys,ps,FF,z,c,rfl,ja,me,la,gd,hp,nd,len,m4,hf,fg,lv,q⟩:=h;refine⟨_,(aj (mY (pv 3) (ic (K:=K) (n:=4) rfl rfl (bW (bj (i:=4) uN.nd rfl (Or.inl rfl)) (bW (bj (i:=5) uN.nd rfl (Or.inl rfl)) (bW (bj (i:=6) uN.nd rfl (Or.inl rfl)) (bW (bj (i:=7) uN.nd rfl (Or.inl rfl)) ib)))))) (aj (aS (aZ cg (pv 5) (di (v:=.str "said") rfl jL ⟨_,rfl⟩) (aR _)) (aq (aF (cJ Dh hr (by omega) (pv 0) (aa (c9 (bB hr) (pv 2) (pv 6) (λ_ _=>rfl)) (aa (pv 7) ae))))) aY) (aq (aF (cJ Di hr (by omega) (pv 0) (aa (c9 (bB hr) (pv 2) (pv 6) (λ_ _=>rfl)) (aa (c9 (bB hr) (pv 2) (pv 7) (λ_ _=>rfl)) (aa (aT r6 hr (by omega) rfl (aa (pv 1) (aa (pv 5) ae))) ae)))))))),?_⟩;obtain⟨dx,ho⟩:=ja.obj;have p1:=sQ nd fg.ok.one;have n8:xs.length<=8:=gd.2.2.2.2;have hi:c.one<st.hd.length:=by rw[len];exact fg.ok.one
 refine⟨_,rfl,fa,_,rfl,ay.of hf,rfl,_,_,rfl,bu ⟨_,_,rfl,bu ⟨_,_,rfl,bu ⟨_,_,rfl,bu ⟨rfl,?_⟩⟩⟩⟩⟩;refine⟨_,rfl,rfl,_,rfl,bC (λcc=>?_) (λcc=>aX ?_)⟩
 ·have e:c.k=bF:=(yu _ rfl).mp cc;have eo:kV (bh ps c)=.int c.aJ:=by rw[lE e];rfl
  refine⟨_,rfl,jl.J,dx,_,rfl,ho,rfl,_,rfl,_,rfl,pl,_,rfl,cY hp p1,_,rfl,?_⟩;have one:=me.wf.one n8 hi;have wY:=me.wf.yO;obtain⟨f0,d0,s0⟩:=lv;obtain⟨s0',h0⟩:=id d0;have mm:c.aJ∈(st.bV (st.ag c.one)).map (λz=>(st.bP c.one).getD z.toNat 0):=Yf.mpr ⟨s0' (st.ag c.one),(h0 c.one hi).1,by rw[←s0.1 e,(h0 c.one hi).2];rfl⟩;refine⟨jl,st,xs.length,c.one,_,_,_,c.aJ,?_,ja,one,by omega,λ_ l' H' k1 k2 o3 j3=>?_,λno=>absurd mm no⟩
  ·show[V.ref jl.J,V.int (c.one:Int),kV (bh ps c)]=_;rw[eo]
  ·have ec:c=⟨bF,c.one,c.aJ,c.tn⟩:=by rw[←e]
   refine q _ l' _ H' k1 (λa ha=>by rw[k2] at ha;exact ha) o3 j3 ?_ rfl;rw[ec];exact OY me hi mm
 ·have e:c.k≠bF:=λz=>cc ((yu _ rfl).mpr z);obtain⟨⟨o0,om⟩,ft,tl⟩:=fg.ok.gf e;have eo:kV (bh ps c)=.str (au ps c.aJ.toNat):=by rw[ia e];rfl
  have p2:=sQ nd om;have hj:c.aJ.toNat<st.hd.length:=by rw[len];exact om
  refine⟨_,rfl,jl.J,dx,_,rfl,ho,rfl,_,rfl,_,rfl,pl,_,rfl,cY hp p1,_,rfl,_,rfl,pl,.int (c.aJ.toNat:Int),rfl,?_,_,rfl,_,rfl,L,c.k,xs,ys,c.tn,rfl,la,fg.tF e,λt ht=>?_⟩
  ·show dU H pl (kV (bh ps c)) _;rw[eo];exact cY hp p2
  refine⟨jl,st,xs.length,c.one,c.aJ.toNat,c.tn,t,rfl,ja,me.wf,me.live,n8,by omega,hi,hj,ht,ft,tl,λb l' aK H' k1 k2 o3 j3 to=>?_⟩;have ec:c=⟨c.k,c.one,(c.aJ.toNat:Int),c.tn⟩:=by rw[Jn o0]
  have ZfD:du xs.length st.hd.length ⟨c.k,c.one,(c.aJ.toNat:Int),c.tn⟩:=by rw[←ec,len];exact fg.ok
  obtain⟨tm,tf⟩:=Zbk me to e ZfD;have eb:b=true:=by
   cases eb:b with
   |true=>rfl
   |false=>
    obtain⟨f0,d0,s0⟩:=lv;obtain⟨es,no⟩:=to.no eb;exact absurd (s0.2 e) (no f0 d0)
  refine q _ l' aK H' k1 k2 o3 j3 ?_ to.len;have:=tm eb;rw[←ec] at this;exact this
theorem uO:aQ ["joins","land","places","fact","number","kind","one","other"] ["joins","land","places","fact"] (aL C0):=⟨rfl,rfl,rfl,by decide+kernel,rfl,by decide+kernel,by decide+kernel⟩
theorem Xd(F:aM K "fact_fits" "fact_fits" C0 f fd)(jL:mg "SAID"=some (.str "said" t1))(r6:HasFn P w K mg base 2 "tie_turn" ["land","kind"] (Ei CL))(lC:cA P w K mg base 2 "open_at" CJ ["self","one"] (ya CJ))(rR:cA P w K mg base 4 "left" CJ ["self","one","other","turn"] (FY CJ)):aG P w K mg base aN 5 f fd ["joins","land","places","fact"] (QE CL CJ):=by
 refine F.ok uO (λvs H Q E h=>?_) (λaE A outer s H vs Q E hr h=>?_)
 ·obtain⟨jl,st,L,pl,fa,xs,ys,ps,FF,z,c,rfl,_⟩:=h;rfl
 obtain⟨jl,st,L,pl,fa,xs,ys,ps,FF,z,c,rfl,ja,me,la,gd,hp,nd,len,m4,hf,fg,q1,q2⟩:=h;have hu:=hr.qh;refine⟨_,(aj (mY (pv 3) (ic (K:=K) (n:=4) rfl rfl (bW (bj (i:=4) uO.nd rfl (Or.inl rfl)) (bW (bj (i:=5) uO.nd rfl (Or.inl rfl)) (bW (bj (i:=6) uO.nd rfl (Or.inl rfl)) (bW (bj (i:=7) uO.nd rfl (Or.inl rfl)) ib)))))) (aj (aS (aZ cg (pv 5) (di (v:=.str "said") rfl jL ⟨_,rfl⟩) (aR _)) (aq (aF (dF (kW (K:=K) rfl) (pv 7) (cJ lC hr (by omega) (pv 0) (aa (c9 (bB hr) (pv 2) (pv 6) (λ_ _=>rfl)) ae)) (by with_unfolding_all rfl)))) aY) (aq (aF (dF (Fg (K:=K) rfl (ZdG hu)) (cJ rR hr (by omega) (pv 0) (aa (c9 (bB hr) (pv 2) (pv 6) (λ_ _=>rfl)) (aa (c9 (bB hr) (pv 2) (pv 7) (λ_ _=>rfl)) (aa (aT r6 hr (by omega) rfl (aa (pv 1) (aa (pv 5) ae))) ae)))) (df ae) (aR _)))))),?_⟩;obtain⟨dx,ho⟩:=ja.obj;have p1:=sQ nd fg.ok.one;have n8:xs.length<=8:=gd.2.2.2.2;have hi:c.one<st.hd.length:=by rw[len];exact fg.ok.one
 refine⟨_,rfl,fa,_,rfl,ay.of hf,rfl,_,_,rfl,bu ⟨_,_,rfl,bu ⟨_,_,rfl,bu ⟨_,_,rfl,bu ⟨rfl,?_⟩⟩⟩⟩⟩;refine⟨_,rfl,rfl,_,rfl,bC (λcc=>?_) (λcc=>aX ?_)⟩
 ·have e:c.k=bF:=(yu _ rfl).mp cc;have eo:kV (bh ps c)=.int c.aJ:=by rw[lE e];rfl
  have one:=me.wf.one n8 hi;refine⟨_,rfl,_,rfl,jl.J,dx,_,rfl,ho,rfl,_,rfl,_,rfl,pl,_,rfl,cY hp p1,jl,st,xs.length,c.one,_,_,_,rfl,ja,one.hd,one.ld,one.fr,one.fq,one.eP,λp ns H1 np g1 pm so nU=>⟨p,_,rfl,.inl (ak.of nU),?_,yb ns,?_⟩⟩
  ·show ij (kV (bh ps c))=true;rw[eo];rfl
  show Q (.bl (if(false:Bool)=true then !eO (kV (bh ps c)) (ns.map V.int) else eO (kV (bh ps c)) (ns.map V.int))) H1;rw[if_neg Yi,eo,vc];have ec:c=⟨bF,c.one,c.aJ,c.tn⟩:=by rw[←e]
  by_cases m:c.aJ∈ns
  ·rw[decide_eq_true m];refine q1 ?_ H1 g1;have T8:=OY (tn:=c.tn) me hi (pm.subset m);obtain⟨f,d⟩:=T8.live;obtain⟨_,s⟩:=(T8.iff f).mp d;refine⟨f,((uQ me.wf hi _ f).mp d).1,?_⟩;rw[ec];exact s _ (Yq _ Yk)
  ·rw[decide_eq_false m];refine q2 (λf d=>?_) H1 g1;rw[ec];exact Zd2 me hi (λz=>m (pm.symm.subset z)) f d
 ·have e:c.k≠bF:=λz=>cc ((yu _ rfl).mpr z);obtain⟨⟨o0,om⟩,ft,tl⟩:=fg.ok.gf e;have eo:kV (bh ps c)=.str (au ps c.aJ.toNat):=by rw[ia e];rfl
  have p2:=sQ nd om;have hj:c.aJ.toNat<st.hd.length:=by rw[len];exact om
  have pf:=OW me.wf n8 hi hj;refine⟨_,rfl,jl.J,dx,_,rfl,ho,rfl,_,rfl,_,rfl,pl,_,rfl,cY hp p1,_,rfl,_,rfl,pl,.int (c.aJ.toNat:Int),rfl,?_,_,rfl,_,rfl,L,c.k,xs,ys,c.tn,rfl,la,fg.tF e,λt ht=>?_⟩
  ·show dU H pl (kV (bh ps c)) _;rw[eo];exact cY hp p2
  refine⟨jl,st,xs.length,c.one,c.aJ.toNat,_,_,_,_,_,_,c.tn,t,rfl,ja,me.wf.one n8 hi,me.wf.one n8 hj,ht,λp hp=>by rw[tl];exact Qy me.wf hi (x:=p.1) (y:=p.2) hp,Y4 pf (by omega),λp ns H1 np g1 nU pm _=>?_⟩;have ms:=ND pm;refine⟨by show 0<=sizeLine;exact Yw _,λe0 H2 n2 g2 wZ=>?_⟩;refine⟨p,e0,ns.map V.int,rfl,rfl,ak.of (g2 _ _ nU),ak.of wZ,?_⟩;rw[if_pos rfl];have sat:∀f,eK f c↔f c.aJ.toNat=ap c.tn (f c.one):=λf=>⟨λh=>h.2 e,λh=>⟨λz=>absurd z e,λ_=>h⟩⟩;cases ns with
  |nil=>
   refine q2 (λf d z=>?_) H2 (g1.trans g2);have m:=u7 me.wf hi hj d;rw[(sat f).mp z] at m;exact absurd ((ms _).mpr m) (λz=>nomatch z)
  |cons a r=>
   refine q1 ?_ H2 (g1.trans g2);have m:=(ms a).mp Yk;obtain⟨f,d,e1,e2⟩:=NC me.wf hi hj me.live m;exact⟨f,d,(sat f).mpr (by rw[e1,e2])⟩
end
def BS.keys(b:BS):List (List Key):=b.fs.map λp=>eT b.ps p.2
def BS.told(b:BS)(k:List Key):Bool:=(aO (eU b.ps b.fs) k).isSome
structure cD(xs ys:List Int)(b:BS):Prop where
 gd:ni xs ys
 nm:(b.ps.map (·.1)).Nodup
 m:b.ps.length<=64
 fl:b.fs.length<=63
 fg:∀p∈b.fs,dM xs ys b.ps.length p.2
 zs:(b.fs.map (·.1)).Nodup
 lt:∀p∈b.fs,p.1<b.co
 ky:b.keys.Nodup
 pr:((cj b.ps b.fs).map (·.1)).Nodup
 lv:∃f,j_ xs.length b.ps.length f/\∀c∈b.F,eK f c
 dl:b.dn.length<=200
 ul:b.un.length<=200
structure bX(H H':Hp)(l l':BL):Prop where
 h:l'.h=l.h
 out:Out l.fp H H'
 grow:dY l.fp l'.fp H
theorem bX.of(g:ai H H'):bX H H' l l:=⟨rfl,Out.of g,dY.refl _ _⟩
theorem bX.trans(a:bX H H1 l l1)(b:bX H1 H2 l1 l2):bX H H2 l l2:=⟨b.h.trans a.h,EO a.out a.grow b.out,a.grow.trans a.out b.grow⟩
theorem bX.same(a:bX H H1 l l1)(g:ai H1 H2):bX H H2 l l1:=⟨a.h,a.out.trans (Out.of g),a.grow⟩
theorem bX.after(g:ai H H1)(a:bX H1 H2 l l1):bX H H2 l l1:=⟨a.h,(Out.of g).trans a.out,a.grow.same g⟩
theorem yd[DecidableEq κ](kvs:List (κ×V))(k:κ):(aO kvs k).isSome=true↔k∈kvs.map (·.1):=by
 induction kvs with
 |nil=>exact⟨(λz=>nomatch z),(λz=>nomatch z)⟩
 |cons p r ih=>
  by_cases e:p.1=k
  ·rw[e_ e]
   grind
  ·rw[eM e,ih]
   grind
theorem pT{κ:Type}[DecidableEq κ]{kvs:List (κ×V)}{k:κ}(h:k∉kvs.map (·.1)):aO kvs k=none:=by
 cases e:aO kvs k with
 |none=>rfl
 |some v=>exact absurd ((yd kvs k).mp (by rw[e];rfl)) h
theorem O0{κ:Type}[DecidableEq κ]{kvs:List (κ×V)}{k:κ}{v:V}(nd:(kvs.map (·.1)).Nodup)(h:(k,v)∈kvs):aO kvs k=some v:=by
 induction kvs with
 |nil=>cases h
 |cons p r ih=>
  obtain⟨n1,n2⟩:=Y1.mp (show(p.1::r.map (·.1)).Nodup from nd);rcases Yp.mp h with h|h;·rw[←h];exact e_ rfl
  ·rw[eM (λz=>n1 (by rw[z];exact Yf.mpr ⟨_,h,rfl⟩))];exact ih n2 h
theorem Fo(h:i<ps.length):au ps i∈ps.map (·.1):=by
 unfold au
 grind
inductive ME(C CL CJ:Addr)(vs:List V)(H:Hp)(Q:VK):Prop
 |mk (l:BL) (b:BS) (xs ys:List Int) (aC:vs=[.ref l.h]) (aV:bw H C CL CJ l xs ys b) (bc:Nw H (.lst (b.ps.map λp=>V.str p.1)) Q):ME C CL CJ vs H Q
def NL(C CL CJ:Addr):Sp:=λvs H Q _=>ME C CL CJ vs H Q
inductive MF(C CL CJ:Addr)(vs:List V)(H:Hp)(Q:VK):Prop
 |mk (l:BL) (b:BS) (xs ys:List Int) (z:Str) (v:V) (aC:vs=[.ref l.h,.str z]) (aV:bw H C CL CJ l xs ys b) (bc:aO (fO b.ps) (.inr z)=some v) (bO:Q v H):MF C CL CJ vs H Q
def ER(C CL CJ:Addr):Sp:=λvs H Q _=>MF C CL CJ vs H Q
inductive QF(C CL CJ:Addr)(vs:List V)(H:Hp)(Q:VK):Prop
 |mk (l:BL) (b:BS) (xs ys:List Int) (k a:Str) (o:Key) (aC:vs=[.ref l.h,.str k,.str a,kV o]) (aV:bw H C CL CJ l xs ys b) (bc:k="sibling"->∃b,o=.inr b) (bO:∀H',ai H H'->Q (.bl (b.told (keyOf k a o))) H'):QF C CL CJ vs H Q
def Gq(C CL CJ:Addr):Sp:=λvs H Q _=>QF C CL CJ vs H Q
inductive Lo(C CL CJ:Addr)(vs:List V)(H:Hp)(Q:VK):Prop
 |mk (l:BL) (b:BS) (xs ys:List Int) (k a:Str) (aC:vs=[.ref l.h,.str k,.str a]) (aV:bw H C CL CJ l xs ys b) (bO:∀H',ai H H'->Q ((aO (cj b.ps b.fs) [.inr k,.inr a]).getD .aA) H'):Lo C CL CJ vs H Q
def LW(C CL CJ:Addr):Sp:=λvs H Q _=>Lo C CL CJ vs H Q
abbrev gY:List Str:=["mother","father"]
def m7(b:BS)(a:Str):List V:=gY.filterMap λk=>aO (cj b.ps b.fs) [.inr k,.inr a]
theorem Zbn(g:Nat->Option V):((List.range 2).filter λi=>(g i).isSome).map (λi=>(g i).getD .aA)=[g 0,g 1].filterMap id:=by
 show(([0,1]:List Nat).filter _).map _=_
 grind
theorem NM(b:BS)(k:List Key):b.told k=true↔k∈b.keys:=by
 unfold BS.told;rw[yd];unfold eU BS.keys
 grind
inductive Le(C CL CJ:Addr)(vs:List V)(H:Hp)(Q:VK):Prop
 |mk (l:BL) (b:BS) (xs ys:List Int) (a:Str) (aC:vs=[.ref l.h,.str a]) (aV:bw H C CL CJ l xs ys b) (bO:∀(p:Addr) (H':Hp),H p=none->ai H H'->H' p=some (.lst (m7 b a))->Q (.ref p) H'):Le C CL CJ vs H Q
def Lp(C CL CJ:Addr):Sp:=λvs H Q _=>Le C CL CJ vs H Q
def d9(H:Hp)(ps:bM)(a:Addr)(p:Nat×Fc):Prop:=H a=some (.tup ((dQ ps p.1 p.2).map kV))
def DR(K:PySem.W.Frag):Sp:=λvs H Q _=>∃(r:Addr) (xs:List V),vs=[.ref r]/\ay K H r xs/\Q (.bl (decide (xs.length=2))) H
theorem O1:∀{as:List Addr} {fs:List (Nat×Fc)} {p:Nat×Fc},Paired (d9 H ps) as fs->(fs.map (·.1)).Nodup->p∈fs->∃a,aO (bo (fs.map (·.1)) as) (.inl (p.1:Int))=some (.ref a)/\d9 H ps a p:=by
 intro as fs p pr;induction pr with
 |nil=>grind
 |@cons a q as fs f t ih=>
  intro nd h;obtain⟨n1,n2⟩:=Y1.mp (show(q.1::fs.map (·.1)).Nodup from nd);have e0:bo ((q::fs).map (·.1)) (a::as)=(Sum.inl (q.1:Int),V.ref a)::bo (fs.map (·.1)) as:=rfl;rw[e0];rcases Yp.mp h with rfl|h;·exact⟨a,e_ rfl,f⟩
  ·obtain⟨a',e1,e2⟩:=ih n2 h;refine⟨a',?_,e2⟩;rw[eM (p:=((Sum.inl (q.1:Int):Key),V.ref a)) (λz=>n1 (by
    have e:=zN z;have e':q.1=p.1:=by omega
    rw[e'];exact Yf.mpr ⟨_,h,rfl⟩))]
   exact e1
section
variable {dk:Addr}
theorem Vs:aQ ["self"] ["self"] (aL Bb):=⟨rfl,rfl,rfl,by decide+kernel,rfl,by decide+kernel,by decide+kernel⟩
theorem Zah(F:aM K "people" "Hearth.people" Bb f fd)(hc:fI K C)(bl:Bl mg):aG P w K mg base aN 1 f fd ["self"] (NL C CL CJ):=by
 refine F.ok Vs (λvs H Q E h=>?_) (λaE A outer s H vs Q E hr h=>?_)
 ·obtain⟨l,b,xs,ys,rfl,_⟩:=h;rfl
 obtain⟨l,b,xs,ys,rfl,ba,q⟩:=h;refine⟨_,(aq (aF (eG (XM rfl) rfl bl.sT sM (aa (aW (K:=K) rfl (pv 0) rfl) ae)))),?_⟩;obtain⟨dx,h1⟩:=ba.obj;refine⟨_,rfl,l.h,C,dx,_,_,rfl,h1,hc.cls,hc.qb,rfl,l.sd,_,rfl,ba.cS,λp H' np g hp=>q p H' np g ?_⟩;rw[hp,Wc];rfl
theorem Vm:aQ ["self","name"] ["self","name"] (aL AW):=⟨rfl,rfl,rfl,by decide+kernel,rfl,by decide+kernel,by decide+kernel⟩
theorem Zk(F:aM K "side_of" "Hearth.side_of" AW f fd)(hc:fI K C)(bl:Bl mg):aG P w K mg base aN 1 f fd ["self","name"] (ER C CL CJ):=by
 refine F.ok Vm (λvs H Q E h=>?_) (λaE A outer s H vs Q E hr h=>?_)
 ·obtain⟨l,b,xs,ys,z,v,rfl,_⟩:=h;rfl
 obtain⟨l,b,xs,ys,z,v,rfl,ba,ev,q⟩:=h;refine⟨_,(aj (aS (i6 (lD (bB hr) (pv 1) (aW (K:=K) rfl (pv 0) rfl)) (by with_unfolding_all rfl)) fH aY) (aq (aF (c9 (bB hr) (aW (K:=K) rfl (pv 0) rfl) (pv 1) (λ_ _=>rfl))))),?_⟩;obtain⟨dx,h1⟩:=ba.obj;exact⟨_,rfl,_,rfl,l.h,C,dx,_,_,rfl,h1,hc.cls,hc.qb,rfl,l.sd,some v,rfl,cY ba.cS ev,_,rfl,bY (aX ⟨_,rfl,l.h,C,dx,_,_,rfl,h1,hc.cls,hc.qb,rfl,_,rfl,l.sd,v,rfl,cY ba.cS ev,q⟩)⟩
theorem Xe:aQ ["row"] ["row"] (aL C3):=⟨rfl,rfl,rfl,by decide+kernel,rfl,by decide+kernel,by decide+kernel⟩
theorem Xf(F:aM K "is_person" "is_person" C3 f fd)(bl:Bl mg):aG P w K mg base aN 1 f fd ["row"] (DR K):=by
 refine F.ok Xe (λvs H Q E h=>?_) (λaE A outer s H vs Q E hr h=>?_)
 ·obtain⟨r,xs,rfl,_⟩:=h;rfl
 obtain⟨r,xs,rfl,t8,q⟩:=h;refine⟨_,(aq (aF (dF cg (bJ (c5 (K:=K) rfl) rfl bl.cQ cP (aa (pv 0) ae)) aI (aR _)))),?_⟩;refine⟨_,rfl,r,xs,rfl,.inr t8,rfl,?_⟩;have e:decide (V.int (xs.length:Int)=V.int 2)=decide (xs.length=2):=by
  rw[Wi,decide_eq_true_iff,decide_eq_true_iff];exact⟨λz=>by have:=V.int.inj z;omega,λz=>by rw[z];rfl⟩
 rw[←e] at q;exact q
theorem WH:aQ ["self","kind","one","other"] ["self","kind","one","other"] (aL Cy):=⟨rfl,rfl,rfl,by decide+kernel,rfl,by decide+kernel,by decide+kernel⟩
theorem Zd3(F:aM K "has" "Hearth.has" Cy f fd)(hc:fI K C)(mK:HasFn P w K mg base 1 "fact_key" ["kind","one","other"] yP):aG P w K mg base aN 2 f fd ["self","kind","one","other"] (Gq C CL CJ):=by
 refine F.ok WH (λvs H Q E h=>?_) (λaE A outer s H vs Q E hr h=>?_)
 ·obtain⟨l,b,xs,ys,k,a,o,rfl,_⟩:=h;rfl
 obtain⟨l,b,xs,ys,k,a,o,rfl,ba,hs,q⟩:=h;refine⟨_,(aq (aF (ZcW (yD (bB hr) (aT mK hr (by omega) rfl (aa (pv 1) (aa (pv 2) (aa (pv 3) ae)))) (aW (K:=K) rfl (pv 0) rfl)) (by with_unfolding_all rfl)))),?_⟩;refine⟨_,rfl,_,rfl,_,rfl,k,a,o,rfl,hs,λp H1 np g1 hp=>?_⟩;obtain⟨dx,h1⟩:=ba.obj;refine⟨_,rfl,l.h,C,dx,_,_,rfl,g1 _ _ h1,hc.cls,hc.yt,rfl,l.kn,_,rfl,dU.t (g1 _ _ ba.known) hp,?_⟩;exact q H1 g1
theorem Vg:aQ ["self","kind","name"] ["self","kind","name"] (aL AG):=⟨rfl,rfl,rfl,by decide+kernel,rfl,by decide+kernel,by decide+kernel⟩
theorem Xg(F:aM K "parent_of" "Hearth.parent_of" AG f fd)(hc:fI K C):aG P w K mg base aN 1 f fd ["self","kind","name"] (LW C CL CJ):=by
 refine F.ok Vg (λvs H Q E h=>?_) (λaE A outer s H vs Q E hr h=>?_)
 ·obtain⟨l,b,xs,ys,k,a,rfl,_⟩:=h;rfl
 obtain⟨l,b,xs,ys,k,a,rfl,ba,q⟩:=h;refine⟨_,(aq (aF (ZaL (bB hr) (aW (K:=K) rfl (pv 0) rfl) (dv (aa (pv 1) (aa (pv 2) ae))) ⟨rfl,rfl,rfl,rfl⟩))),?_⟩;obtain⟨dx,h1⟩:=ba.obj;refine⟨_,rfl,l.h,C,dx,_,_,rfl,h1,hc.cls,hc.sv,rfl,l.pr,rfl,.inr ⟨_,.inl ba.parents⟩,_,rfl,_,rfl,by show 2<=sizeLine;decide,λp H1 np g1 hp=>?_⟩;exact⟨_,dU.t (k:=[.inr k,.inr a]) (g1 _ _ ba.parents) hp,q H1 g1⟩
theorem Vc:aQ ["self","name"] ["self","name"] (aL AB):=⟨rfl,rfl,rfl,by decide+kernel,rfl,by decide+kernel,by decide+kernel⟩
theorem WI(F:aM K "parents_of" "Hearth.parents_of" AB f fd)(hc:fI K C)(hZ:mg "PARENTS"=some (.ref dk))(qP:∀H,ay K H dk (gY.map V.str)):aG P w K mg base aN 1 f fd ["self","name"] (Lp C CL CJ):=by
 refine F.ok Vc (λvs H Q E h=>?_) (λaE A outer s H vs Q E hr h=>?_)
 ·obtain⟨l,b,xs,ys,a,rfl,_⟩:=h;rfl
 obtain⟨l,b,xs,ys,a,rfl,ba,q⟩:=h;refine⟨_,(aq (aF (iH (x:="kind") (fr:=[("self",0),("name",1)]) (cl:=[("self",s.heap.objs.size+1),("name",s.heap.objs.size+1+1)]) rfl ⟨by with_unfolding_all rfl,⟨rfl,⟨rfl,trivial⟩⟩,rfl,by decide+kernel,rfl,by decide+kernel,rfl,⟨⟨rfl,.inl rfl,.inl rfl,rfl⟩,⟨⟨rfl,.inl rfl,.inl rfl,rfl⟩,trivial⟩⟩,by decide+kernel⟩ (FI (di (v:=.ref dk) rfl hZ rfl)) (λ_ _ _ _=>va (i6 (yD (bB hr) (dv (aa (pv 0) (aa (pv 2) ae))) (aW (K:=K) rfl (pv 1) rfl)) (by with_unfolding_all rfl))) (λ_ _ _ _=>(c9 (bB hr) (aW (K:=K) rfl (pv 1) rfl) (dv (aa (pv 0) (aa (pv 2) ae))) (λ_ _=>rfl)))))),?_⟩;obtain⟨dx,h1⟩:=ba.obj;let val:Nat->Option V:=λi=>aO (cj b.ps b.fs) [.inr (gY.getD i ""),.inr a];refine⟨dk,rfl,⟨_,qP _⟩,λD hD=>ZX (K:=K) (a:=dk) (xs:=gY.map V.str) (qP _) (by show 2<=1000;decide) hD (λi=>(val i).isSome) (λi=>(val i).getD .aA) (λi v hi H1 g1 _ Kt Kf kt kf=>?_) λH1 g1 h2=>q D H1 hD g1 ?_⟩
 ·obtain⟨k,rfl,ek⟩:∃k:Str,v=.str k/\gY.getD i ""=k:=by
   match i,hi with
   |0,hi=>exact⟨"mother",(Ys hi).symm,rfl⟩
   |1,hi=>exact⟨"father",(Ys hi).symm,rfl⟩
   |i+2,hi=>simp at hi
  have ev:val i=aO (cj b.ps b.fs) [.inr k,.inr a]:=by show aO (cj b.ps b.fs) [.inr (gY.getD i ""),.inr a]=_;rw[ek]
  refine⟨_,rfl,_,rfl,by show 2<=sizeLine;decide,λp H2 np g2 hp=>?_⟩;refine⟨_,rfl,l.h,C,dx,_,_,rfl,g2 _ _ (g1 _ _ h1),hc.cls,hc.sv,rfl,l.pr,_,rfl,dU.t (k:=[.inr k,.inr a]) (g2 _ _ (g1 _ _ ba.parents)) hp,_,rfl,?_⟩;rw[ev] at kt kf;cases e:aO (cj b.ps b.fs) [.inr k,.inr a] with
  |none=>
   rw[e] at kf;exact bY (kf H2 rfl g2)
  |some u=>
   rw[e] at kt;refine cV ?_;refine⟨_,rfl,l.h,C,dx,_,_,rfl,g2 _ _ (g1 _ _ h1),hc.cls,hc.sv,rfl,_,rfl,_,rfl,by show 2<=sizeLine;decide,λp3 H3 np3 g3 T9=>?_⟩;refine⟨l.pr,u,rfl,?_,kt u H3 rfl (g2.trans g3) rfl⟩;have z:=dU.t (k:=[.inr k,.inr a]) (g3 _ _ (g2 _ _ (g1 _ _ ba.parents))) T9;rw[e] at z;exact z
 ·rw[h2];have e:((List.range (gY.map V.str).length).filter λi=>(val i).isSome).map (λi=>(val i).getD .aA)=m7 b a:=by
   exact Zbn val
  rw[e]
end
theorem yv(h:i<ps.length):au (ps++[x]) i=au ps i:=by
 unfold au
 grind
theorem ES(ok:du n ps.length c):bh (ps++[x]) c=bh ps c:=by
 unfold bh;by_cases e:c.k=bF;·grind
 ·rw[if_neg e,if_neg e,yv (ok.gf e).1.2]
theorem Zcu(ok:du n ps.length c):dQ (ps++[x]) z c=dQ ps z c:=by
 unfold dQ;rw[ES ok,yv ok.one]
theorem O2(ok:du n ps.length c):eT (ps++[x]) c=eT ps c:=by
 unfold eT;rw[ES ok,yv ok.one]
theorem Zcv(ok:∀p∈fs,du n ps.length p.2):eU (ps++[x]) fs=eU ps fs:=by
 exact Wo λp hp=>by rw[O2 (ok p hp)]
theorem O3(ok:∀p∈fs,du n ps.length p.2):cj (ps++[x]) fs=cj ps fs:=by
 exact Wo λp hp=>by
  have o:=ok p (Y3.mp hp).1;rw[ES o,yv o.one]
theorem Zcw(ps:bM)(n s:Str):fO (ps++[(n,s)])=fO ps++[(.inr n,.str s)]:=Ym
theorem Zcx(ps:bM)(x:Str×Str):iF (ps++[x])=iF ps++[(.inr x.1,.int (ps.length:Int))]:=by
 unfold iF
 grind
theorem Zbo(ps:bM)(fs:List (Nat×Fc))(z:Nat)(c:Fc):eU ps (fs++[(z,c)])=eU ps fs++[(eT ps c,.int (z:Int))]:=Ym
theorem NN(h:cH c.k=true):cj ps (fs++[(z,c)])=cj ps fs++[([.inr c.k,.inr (au ps c.one)],kV (bh ps c))]:=by
 unfold cj
 grind
theorem NO(h:cH c.k=false):cj ps (fs++[(z,c)])=cj ps fs:=by
 unfold cj
 grind
theorem yw(k:Str):eO (.str k) (gY.map V.str)=cH k:=by
 show((("mother":Str)==k)||((("father":Str)==k)||false))=(decide (k="mother")||decide (k="father"))
 grind
theorem Lq{α β γ:Type}[DecidableEq β][DecidableEq γ]{f:α->β}{g:α->γ}:∀{xs:List α} {x:α},(xs.map f).Nodup->(xs.map g).Nodup->x∈xs->xs.filter (λy=>decide (f y≠f x))=xs.filter (λy=>decide (g y≠g x)):=by
 intro xs x n1 n2 hx;have inj:∀{δ:Type} {h:α->δ},(xs.map h).Nodup->∀y∈xs,h y=h x->y=x:=by
  induction xs with
  |nil=>cases hx
  |cons a r ih=>grind
 refine T_ λy hy=>?_
 grind
theorem Zbp{ps:bM}{fs:List (Nat×Fc)}{z:Nat}{c:Fc}(zs:(fs.map (·.1)).Nodup)(ky:(fs.map λp=>eT ps p.2).Nodup)(m:(z,c)∈fs):fW (eU ps fs) (eT ps c)=eU ps (cN z fs):=by
 unfold eU fW cN;rw[Jq];exact congrArg _ (Lq (x:=(z,c)) ky zs m)
theorem Zbq{ps:bM}{fs:List (Nat×Fc)}{z:Nat}{c:Fc}(zs:(fs.map (·.1)).Nodup)(pr:((cj ps fs).map (·.1)).Nodup)(m:(z,c)∈fs)(h:cH c.k=true):fW (cj ps fs) [.inr c.k,.inr (au ps c.one)]=cj ps (cN z fs):=by
 unfold cj at pr⊢;rw[Wc] at pr;unfold fW cN;rw[Jq,Jf];have e:=Lq (f:=λp:Nat×Fc=>([.inr p.2.k,.inr (au ps p.2.one)]:List Key)) (x:=(z,c)) pr (zs.sublist (List.filter_sublist.map _)) (Y3.mpr ⟨m,h⟩);rw[Jf,Jf] at e;rw[Jf]
 grind
theorem Zai(zs:(fs.map (·.1)).Nodup)(m:(z,c)∈fs)(h:cH c.k=false):cj ps fs=cj ps (cN z fs):=by
 unfold cj cN;rw[Jf];refine congrArg _ (T_ λp hp=>?_);by_cases e:p.1=z
 ·have:p=(z,c):=by
   have aux:∀{fs:List (Nat×Fc)},(fs.map (·.1)).Nodup->p∈fs->(z,c)∈fs->p=(z,c):=by
    induction fs with
    |nil=>grind
    |cons a r ih=>grind
   exact aux zs hp m
  grind
 ·grind
inductive Move(xs ys:List Int)(H:Hp)(r:Addr)(b:BS):Int->BS->Prop
 |pin (n s:Str) (hr:H r=some (.tup [.str n,.str s])) (new:n∉b.ps.map (·.1)) (lim:b.ps.length<64):Move xs ys H r b 1 {b with ps:=b.ps++[(n,s)]}
 |fin (z:Nat) (c:Fc) (hr:d9 H b.ps r (z,c)) (fg:dM xs ys b.ps.length c) (nz:z∉b.fs.map (·.1)) (nk:eT b.ps c∉b.keys) (np:cH c.k=true->[.inr c.k,.inr (au b.ps c.one)]∉(cj b.ps b.fs).map (·.1)) (lv:∃f,j_ xs.length b.ps.length f/\∀c'∈b.F++[c],eK f c') (lim:b.fs.length<63):Move xs ys H r b 1 {b with fs:=b.fs++[(z,c)]}
 |tN (z:Nat) (c:Fc) (hr:d9 H b.ps r (z,c)) (m:(z,c)∈b.fs):Move xs ys H r b (-1) {b with fs:=cN z b.fs}
theorem Move.out{w:Int}(m:Move xs ys H r b w b')(k:∀us,H r=some (.tup us)->H' r=some (.tup us)):Move xs ys H' r b w b':=by
 cases m with
 |pin n s hr new lim=>exact .pin n s (k _ hr) new lim
 |fin z c hr fg nz nk np lv lim=>exact .fin z c (k _ hr) fg nz nk np lv lim
 |tN z c hr m=>exact .tN z c (k _ hr) m
theorem Move.rest{w:Int}(m:Move xs ys H r b w b'):b'.co=b.co/\b'.dn=b.dn/\b'.un=b.un:=by cases m<;>exact⟨rfl,rfl,rfl⟩
theorem Move.ZeK{w:Int}(m:Move xs ys H r b w b')(dn un:List y8):Move xs ys H r {b with dn:=dn,un:=un} w {b' with dn:=dn,un:=un}:=by
 cases m with
 |pin n s hr new lim=>exact .pin n s hr new lim
 |fin z c hr fg nz nk np lv lim=>exact .fin z c hr fg nz nk np lv lim
 |tN z c hr m=>exact .tN z c hr m
inductive O4(C CL CJ:Addr)(vs:List V)(H:Hp)(Q:VK):Prop
 |mk (l:BL) (b:BS) (xs ys:List Int) (fa:Addr) (z:Nat) (c:Fc) (aC:vs=[.ref l.h,.ref fa]) (ba:bw H C CL CJ l xs ys b) (hf:d9 H b.ps fa (z,c)) (nz:z∉b.fs.map (·.1)) (nk:eT b.ps c∉b.keys) (np:cH c.k=true->[.inr c.k,.inr (au b.ps c.one)]∉(cj b.ps b.fs).map (·.1)) (fl:b.fs.length<=63)
   (q:∀H',Out [l.fc,l.kn,l.pr] H H'->H' l.fc=some (.dK (bo ((b.fs++[(z,c)]).map (·.1)) (l.bU++[fa])))->H' l.kn=some (.dT (eU b.ps (b.fs++[(z,c)])))->H' l.pr=some (.dT (cj b.ps (b.fs++[(z,c)])))->Q .aA H'):O4 C CL CJ vs H Q
def QG(C CL CJ:Addr):Sp:=λvs H Q _=>O4 C CL CJ vs H Q
inductive NP(C CL CJ:Addr)(vs:List V)(H:Hp)(Q:VK):Prop
 |mk (l:BL) (b b':BS) (xs ys:List Int) (r:Addr) (aC:vs=[.ref l.h,.ref r]) (ba:bw H C CL CJ l xs ys b) (ok:cD xs ys b) (mv:Move xs ys H r b 1 b') (q:∀(l':BL) (H':Hp),bX H H' l l'->bw H' C CL CJ l' xs ys b'->Q .aA H'):NP C CL CJ vs H Q
def O5(C CL CJ:Addr):Sp:=λvs H Q _=>NP C CL CJ vs H Q
inductive LX(C CL CJ:Addr)(vs:List V)(H:Hp)(Q:VK):Prop
 |mk (l:BL) (b b':BS) (xs ys:List Int) (r:Addr) (aC:vs=[.ref l.h,.ref r]) (ba:bw H C CL CJ l xs ys b) (ok:cD xs ys b) (mv:Move xs ys H r b (-1) b') (q:∀(l':BL) (H':Hp),bX H H' l l'->bw H' C CL CJ l' xs ys b'->Q .aA H'):LX C CL CJ vs H Q
def MG(C CL CJ:Addr):Sp:=λvs H Q _=>LX C CL CJ vs H Q
inductive NQ(C CL CJ:Addr)(vs:List V)(H:Hp)(Q:VK):Prop
 |mk (l:BL) (b b':BS) (xs ys:List Int) (r:Addr) (w:Int) (c2:Nat) (aC:vs=[.ref l.h,.int w,.ref r,.int (c2:Int)]) (ba:bw H C CL CJ l xs ys b) (ok:cD xs ys b) (mv:Move xs ys H r b w b') (q:∀(l':BL) (H':Hp),bX H H' l l'->bw H' C CL CJ l' xs ys {b' with co:=c2}->Q .aA H'):NQ C CL CJ vs H Q
def O6(C CL CJ:Addr):Sp:=λvs H Q _=>NQ C CL CJ vs H Q
inductive MH(C CL CJ:Addr)(vs:List V)(H:Hp)(Q:VK):Prop
 |mk (l:BL) (b b':BS) (xs ys:List Int) (r:Addr) (w:Int) (c2:Nat) (row:List Key) (aC:vs=[.ref l.h,.int w,.ref r,.int (c2:Int)]) (ba:bw H C CL CJ l xs ys b) (ok:cD xs ys b) (dl:b.dn.length<200) (hr:H r=some (.tup (row.map kV))) (mv:Move xs ys H r b w b') (q:∀(l':BL) (H':Hp),bX H H' l l'->bw H' C CL CJ l' xs ys {b' with co:=c2,dn:=b.dn++[⟨w,row,b.co,c2⟩],un:=[]}->Q .aA H'):MH C CL CJ vs H Q
def ye(C CL CJ:Addr):Sp:=λvs H Q _=>MH C CL CJ vs H Q
section
variable {dk:Addr}
theorem O7{ps:bM}{c:Fc}(e:c.k="sibling"):∃b,bh ps c=.inr b:=⟨_,ia (by rw[e];decide+kernel)⟩
theorem uH:aQ ["self","fact","number","kind","one","other"] ["self","fact"] (aL AH):=⟨rfl,rfl,rfl,by decide+kernel,rfl,by decide+kernel,by decide+kernel⟩
theorem Zcy(F:aM K "note_fact" "Hearth.note_fact" AH f fd)(hc:fI K C)(hZ:mg "PARENTS"=some (.ref dk))(qP:∀H,ay K H dk (gY.map V.str))(mK:HasFn P w K mg base 1 "fact_key" ["kind","one","other"] yP):aG P w K mg base aN 2 f fd ["self","fact"] (QG C CL CJ):=by
 refine F.ok uH (λvs H Q E h=>?_) (λaE A outer s H vs Q E hr h=>?_)
 ·obtain⟨l,b,xs,ys,fa,z,c,rfl,_⟩:=h;rfl
 obtain⟨l,b,xs,ys,fa,z,c,rfl,ba,hf,nz,nk,np,fl,q⟩:=h;refine⟨_,(aj (mY (pv 1) (ic (K:=K) (n:=4) rfl rfl (bW (bj (i:=2) uH.nd rfl (Or.inl rfl)) (bW (bj (i:=3) uH.nd rfl (Or.inl rfl)) (bW (bj (i:=4) uH.nd rfl (Or.inl rfl)) (bW (bj (i:=5) uH.nd rfl (Or.inl rfl)) ib)))))) (aj (lG (bB hr) (aW (K:=K) rfl (pv 0) rfl) (pv 2) (pv 1)) (aj (Ml (bB hr) (aW (K:=K) rfl (pv 0) rfl) (aT mK hr (by omega) rfl (aa (pv 3) (aa (pv 4) (aa (pv 5) ae)))) (pv 2)) (aq (aS (aZ (kW (K:=K) rfl) (pv 3) (di (v:=.ref dk) rfl hZ rfl) (by with_unfolding_all rfl)) (aq (Ml (bB hr) (aW (K:=K) rfl (pv 0) rfl) (dv (aa (pv 3) (aa (pv 4) ae))) (pv 5))) aY))))),?_⟩;obtain⟨dx,h1⟩:=ba.obj;have sz:(10000:Nat)<=sizeLine:=by rw[sizeLine_eq];omega
 have al:(b.fs.map (·.1)).length=l.bU.length:=by rw[Ya];exact(cU ba.fact).symm
 have z4:l.h≠l.fc:=dm h1 ba.facts (λz=>by cases z);have nh2:l.h≠l.kn:=dm h1 ba.known (λz=>by cases z);have Ua:l.kn≠l.fc:=dm ba.known ba.facts (λz=>by cases z);have iR:l.pr≠l.fc:=dm ba.parents ba.facts (λz=>by cases z);have Ub:l.pr≠l.kn:=λe=>by
  have:=ba.nd;unfold BL.own at this;simp[e] at this
 refine⟨_,rfl,fa,_,rfl,ay.of hf,rfl,_,_,rfl,bu ⟨_,_,rfl,bu ⟨_,_,rfl,bu ⟨_,_,rfl,bu ⟨rfl,?_⟩⟩⟩⟩⟩;refine⟨_,rfl,_,rfl,l.h,C,dx,_,_,rfl,h1,hc.cls,hc.sP,rfl,_,rfl,l.fc,_,.inl (z:Int),rfl,ba.facts,rfl,by unfold bo;rw[Ya,W4,Ya];omega,λH1 b1 e1=>?_⟩;have vz:aO (bo (b.fs.map (·.1)) l.bU) (.inl (z:Int))=none:=xW nz;rw[jI _ vz,xO z fa al] at e1;refine⟨_,rfl,_,rfl,l.h,C,dx,_,_,rfl,b1 _ _ h1 z4,hc.cls,hc.yt,rfl,_,rfl,_,rfl,_,rfl,c.k,au b.ps c.one,bh b.ps c,rfl,λe=>O7 e,λp H2 wV g2 dB=>?_⟩;refine⟨l.kn,p,_,eT b.ps c,rfl,g2 _ _ (b1 _ _ ba.known Ua),rfl,dB,by unfold eU;rw[Ya];omega,λH3 b3 e3=>?_⟩;have vk:aO (eU b.ps b.fs) (eT b.ps c)=none:=pT (by
  have:(eU b.ps b.fs).map (·.1)=b.keys:=by unfold eU BS.keys;rw[Wc];rfl
  rw[this];exact nk)
 rw[jI _ vk] at e3
 replace e3:H3 l.kn=some (.dT (eU b.ps (b.fs++[(z,c)]))):=by rw[Zbo];exact e3
 have k3:∀{a:Addr} {o:HO},H a=some o->a≠l.fc->a≠l.kn->H3 a=some o:=λ{a o} e n1 n2=>b3 _ _ (g2 _ _ (b1 _ _ e n1)) n2;have hU:H3 l.fc=some (.dK (bo ((b.fs++[(z,c)]).map (·.1)) (l.bU++[fa]))):=by
  have:=b3 _ _ (g2 _ _ e1) (λz=>Ua z.symm);rw[this,Ym];rfl
 have w_:=k3 ba.parents iR Ub;refine⟨_,rfl,dk,_,rfl,.inr (qP _),rfl,rfl,_,rfl,?_⟩;dsimp only;rw[if_neg Yi,show eO (kV (Sum.inr c.k)) (gY.map V.str)=cH c.k from yw c.k];refine bC (λcc=>?_) (λcc=>aX ?_)
 ·refine⟨_,rfl,_,rfl,l.h,C,dx,_,_,rfl,k3 h1 z4 nh2,hc.cls,hc.sv,rfl,_,rfl,_,rfl,by show 2<=sizeLine;decide,λp4 H4 np4 g4 IW=>?_⟩;refine⟨l.pr,p4,_,[.inr c.k,.inr (au b.ps c.one)],rfl,g4 _ _ w_,rfl,IW,?_,λH5 b5 e5=>?_⟩
  ·unfold cj;rw[Ya];have:=Wk (λp:Nat×Fc=>cH p.2.k) b.fs;omega
  have vp:aO (cj b.ps b.fs) [.inr c.k,.inr (au b.ps c.one)]=none:=pT (np cc);rw[jI _ vp] at e5
  replace e5:H5 l.pr=some (.dT (cj b.ps (b.fs++[(z,c)]))):=by rw[NN cc];exact e5
  refine q H5 (λa o e n=>?_) (b5 _ _ (g4 _ _ hU) (λz=>iR z.symm)) (b5 _ _ (g4 _ _ e3) (λz=>Ub z.symm)) e5;simp only[Yp,Y2,or_false,not_or] at n;exact b5 _ _ (g4 _ _ (k3 e n.1 n.2.1)) n.2.2
 ·have ef:cH c.k=false:=by
   cases e:cH c.k with
   |true=>exact absurd e cc
   |false=>rfl
  refine q H3 (λa o e n=>?_) hU e3 (by rw[NO ef];exact w_)
  grind
theorem QH{l:BL}{H H1:Hp}{jl gm:JL}(e2:l.d5=jl.fp)(o:Out l.own H H1)(gr:dY jl.fp gm.fp H1):dY l.fp ({l with d5:=gm.fp}:BL).fp H:=λa z=>by
 rcases Yu.mp (show a∈l.own++gm.fp from z) with q|q;·exact .inl (Yr _ q)
 ·rcases gr a q with m|m;·exact .inl (Yq _ (by rw[e2];exact m))
  ·by_cases ma:a∈l.own;·exact .inl (Yr _ ma)
   ·right
    cases e:H a with
    |none=>rfl
    |some u=>rw[o _ _ e ma] at m;cases m
theorem Rx{l:BL}{H H1 H2:Hp}{jl:JL}(e2:l.d5=jl.fp)(o:Out l.own H H1)(o2:Out jl.fp H1 H2):Out l.fp H H2:=λa u e n=>o2 _ _ (o _ _ e λz=>n (Yr _ z)) λz=>n (Yq _ (by rw[e2];exact z))
theorem qc{l:BL}{H H1:Hp}(o:Out l.own H H1):Out l.fp H H1:=λa u e n=>o _ _ e λz=>n (Yr _ z)
theorem AZ:aQ ["self","row","name","side"] ["self","row"] (aL Bc):=⟨rfl,rfl,rfl,by decide+kernel,rfl,by decide+kernel,by decide+kernel⟩
theorem Zaj(F:aM K "put_in" "Hearth.put_in" Bc f fd)(hc:fI K C)(rU:HasFn P w K mg base 1 "is_person" ["row"] (DR K))(rV:cA P w K mg base 2 "add" CJ ["self"] (Gn CJ))(AI:cA P w K mg base 2 "note_fact" C ["self","fact"] (QG C CL CJ))(rW:HasFn P w K mg base 6 "keep_fact" ["joins","land","places","fact"] (Fn CL CJ))(bl:Bl mg):aG P w K mg base aN 8 f fd ["self","row"] (O5 C CL CJ):=by
 refine F.ok AZ (λvs H Q E h=>?_) (λaE A outer s H vs Q E hr h=>?_)
 ·obtain⟨l,b,b',xs,ys,r,rfl,_⟩:=h;rfl
 obtain⟨l,b,b',xs,ys,r,rfl,ba,ok,mv,q⟩:=h;refine⟨_,(aq (aS (eN (aT rU hr (by omega) rfl (aa (pv 1) ae))) (aj (mY (pv 1) (ic (K:=K) (n:=2) rfl rfl (bW (bj (i:=2) AZ.nd rfl (Or.inl rfl)) (bW (bj (i:=3) AZ.nd rfl (Or.inl rfl)) ib)))) (aj (lG (bB hr) (aW (K:=K) rfl (pv 0) rfl) (pv 2) (bJ (YQ) rfl bl.cQ cP (aa (aW (K:=K) rfl (pv 0) rfl) ae))) (aj (lG (bB hr) (aW (K:=K) rfl (pv 0) rfl) (pv 2) (pv 3)) (aq (aS (aZ yh (aW (K:=K) rfl (pv 0) rfl) kA (aR _)) (aq (cz (sV rV hr (by omega) (aW (K:=K) rfl (pv 0) rfl)))) aY))))) (aj (cz (cJ AI hr (by omega) (pv 0) (aa (pv 1) ae))) (aq (aS (aZ yh (aW (K:=K) rfl (pv 0) rfl) kA (aR _)) (aq (cz (aT rW hr (by omega) rfl (aa (aW (K:=K) rfl (pv 0) rfl) (aa (aW (K:=K) rfl (pv 0) rfl) (aa (aW (K:=K) rfl (pv 0) rfl) (aa (pv 1) ae))))))) aY))))),?_⟩;obtain⟨dx,h1⟩:=ba.obj;have sz:(10000:Nat)<=sizeLine:=by rw[sizeLine_eq];omega
 have nd:=ba.nd;unfold BL.own at nd;have Uc:=nd;simp only[Y1,Yp,Y2,or_false,not_or] at Uc;obtain⟨⟨jw,c6,hV,k9,n5,mn,n_⟩,⟨xc,rb,rf,rh,ug,uh⟩,⟨pC,rm,rp,ui,uj⟩,_⟩:=Uc;have qK:∀p∈b.fs,du xs.length b.ps.length p.2:=λp hp=>(ok.fg p hp).ok;cases mv with
 |pin n s hR new lim=>
  refine⟨_,rfl,r,_,rfl,ay.of hR,_,rfl,cV ?_⟩;refine⟨_,rfl,r,_,rfl,ay.of hR,rfl,_,_,rfl,bu ⟨_,_,rfl,bu ⟨rfl,?_⟩⟩⟩;have kl:(fO b.ps).length=b.ps.length:=Ya _;have pl':(iF b.ps).length=b.ps.length:=by unfold iF;rw[Ya,List.length_zipIdx]
  refine⟨_,rfl,l.h,C,dx,_,_,rfl,h1,hc.cls,hc.qb,rfl,l.sd,_,rfl,ba.cS,_,rfl,l.h,C,dx,_,_,rfl,h1,hc.cls,hc.u9,rfl,_,rfl,l.pl,_,.inr n,rfl,ba.places,rfl,by omega,λH1 b1 e1=>?_⟩;have ZeL:(iF b.ps).map (·.1)=b.ps.map λp=>(.inr p.1:Key):=by
   unfold iF;rw[Wc];have:(λp:(Str×Str)×Nat=>((.inr p.1.1:Key),V.int (p.2:Int)).1)=(λp:Str×Str=>(.inr p.1:Key))∘Prod.fst:=rfl;show b.ps.zipIdx.map (λp:(Str×Str)×Nat=>((.inr p.1.1:Key),V.int (p.2:Int)).1)=_;rw[this,←Wc,List.zipIdx_map_fst]
  have Sq:∀{ks:List Key},ks=(b.ps.map λp=>(.inr p.1:Key))->(.inr n:Key)∉ks:=λ{ks} e z=>by
   rw[e] at z;obtain⟨p,hp,ep⟩:=Yf.mp z;exact new (Yf.mpr ⟨p,hp,We ep⟩)
  have vp:aO (iF b.ps) (.inr n)=none:=pT (Sq ZeL);have vs':aO (fO b.ps) (.inr n)=none:=pT (Sq (by show(b.ps.map _).map _=_;rw[Wc];rfl));rw[jI _ vp,kl] at e1;refine⟨_,rfl,_,rfl,l.h,C,dx,_,_,rfl,b1 _ _ h1 c6,hc.cls,hc.qb,rfl,_,rfl,l.sd,_,.inr n,rfl,b1 _ _ ba.cS xc,rfl,by omega,λH2 b2 e2=>?_⟩;rw[jI _ vs'] at e2;have k2:∀{a:Addr} {o:HO},H a=some o->a≠l.pl->a≠l.sd->H2 a=some o:=λ{a o} e n1 n2=>b2 _ _ (b1 _ _ e n1) n2;have o2:Out l.own H H2:=λa u e na=>k2 e (λz=>na (by rw[z];simp[BL.own])) (λz=>na (by rw[z];simp[BL.own]));have s2:H2 l.sd=some (.dK (fO (b.ps++[(n,s)]))):=by rw[Zcw];exact e2
  have p2:H2 l.pl=some (.dK (iF (b.ps++[(n,s)]))):=by rw[Zcx];exact b2 _ _ e1 (λz=>xc z.symm)
  have h2:=k2 h1 c6 jw;have tp:∀{a:Addr} {us:List V} {H3:Hp},Out l.fp H H3->H a=some (.tup us)->H3 a=some (.tup us):=λo e=>o _ _ e (ba.tup e);have mk:∀(l':BL) (H3:Hp),l'={l with d5:=l'.d5}->Out l.fp H H3->dY l.fp l'.fp H->(∀a u,H2 a=some u->a∈l.own->H3 a=some u)->qJ H3 CJ xs.length l' {b with ps:=b.ps++[(n,s)]}->Q .aA H3:=λl' H3 el o g k rk=>by
   refine q l' H3 ⟨by rw[el],o,g⟩ ?_;refine ba.build (l':=l') (b':={b with ps:=b.ps++[(n,s)]}) (by rw[el]) (by rw[el]) (by rw[el]) (by rw[el]) (by rw[el]) (by rw[el]) (by rw[el]) (by rw[el]) (by rw[el]) o g ⟨dx,?_⟩ (k _ _ s2 (by simp[BL.own])) (k _ _ p2 (by simp[BL.own])) ?_ ?_ ?_ ?_ ?_ ?_ ?_ ?_ rk
   ·have:l'.rk=l.rk:=by rw[el]
    rw[this];exact k _ _ h2 (by simp[BL.own])
   ·have:l'.bU=l.bU:=by rw[el]
    rw[this];exact k _ _ (k2 ba.facts (λz=>pC z.symm) (λz=>rb z.symm)) (by simp[BL.own])
   ·have:l'.bU=l.bU:=by rw[el]
    rw[this];have aux:∀{as:List Addr} {fs:List (Nat×Fc)},Paired (λa (p:Nat×Fc)=>H a=some (.tup ((dQ b.ps p.1 p.2).map kV))) as fs->(∀p∈fs,du xs.length b.ps.length p.2)->Paired (λa (p:Nat×Fc)=>H3 a=some (.tup ((dQ (b.ps++[(n,s)]) p.1 p.2).map kV))) as fs:=by
     intro as fs pr;induction pr with
     |nil=>intro _;exact .nil
     |cons f _ ih=>intro m;exact .cons (by rw[Zcu (m _ Yk)];exact tp o f) (ih λp hp=>m p (Yx _ hp))
    exact aux ba.fact qK
   ·show H3 l.kn=some (.dT (eU (b.ps++[(n,s)]) b.fs));rw[Zcv qK];exact k _ _ (k2 ba.known (λz=>rm z.symm) (λz=>rf z.symm)) (by simp[BL.own])
   ·show H3 l.pr=some (.dT (cj (b.ps++[(n,s)]) b.fs));rw[O3 qK];exact k _ _ (k2 ba.parents (λz=>rp z.symm) (λz=>rh z.symm)) (by simp[BL.own])
   ·have:l'.gK=l.gK:=by rw[el]
    rw[this];exact k _ _ (k2 ba.done (λz=>ui z.symm) (λz=>ug z.symm)) (by simp[BL.own])
   ·have:l'.gK=l.gK:=by rw[el]
    rw[this];exact L2.Paired.bI ba.jV λ_ _ e=>e.out o λa us e=>ba.tup e
   ·have:l'.jv=l.jv:=by rw[el]
    rw[this];exact k _ _ (k2 ba.gT (λz=>uj z.symm) (λz=>uh z.symm)) (by simp[BL.own])
   ·have:l'.jv=l.jv:=by rw[el]
    rw[this];exact L2.Paired.bI ba.lP λ_ _ e=>e.out o λa us e=>ba.tup e
  cases hj:ba.qv with
  |no j1 j2=>
   rw[j1] at h2;refine⟨_,rfl,l.h,C,dx,_,_,rfl,h2,hc.cls,hc.gP,rfl,rfl,_,rfl,bY (aX ?_)⟩;exact mk l H2 rfl (qc o2) (dY.refl _ _) (λ_ _ e _=>e) (.no j1 j2)
  |at_ jl st j1 j2 ja me len fD=>
   have j9:=h2;rw[j1] at j9;have z5:=ja.jd o2 fD (ba.F1 ja me) λa us e z=>ba.tup e (Yr _ z);obtain⟨dj,ej⟩:=z5.obj;have wf:=me.wf;have ml:=wf.Qw;have wY:=wf.yO;have n8:xs.length<=8:=ok.gd.2.2.2.2;refine⟨_,rfl,l.h,C,dx,_,_,rfl,j9,hc.cls,hc.gP,rfl,rfl,_,rfl,cV ?_⟩;refine⟨_,rfl,l.h,C,dx,_,_,rfl,j9,hc.cls,hc.gP,rfl,jl.J,dj,_,rfl,ej,rfl,jl,st,xs.length,rfl,z5,by omega,by omega,by omega,by omega,wf.ll,λz=>Y7 _ (wf.lm _ z),λz=>Y7 _ (wf.lf _ z),λgm H3 k1 o3 gr IX=>?_⟩;refine mk {l with d5:=gm.fp} H3 rfl (Rx j2 o2 o3) (QH j2 o2 gr) (λa u e m=>o3 _ _ e (fD a m)) ?_;refine .at_ gm _ (by rw[k1];exact j1) rfl IX (me.more (by have:=ok.gd.2.2.2.1;omega)) ?_ λa m z=>?_;·rw[h_,len,Yl];rfl
   ·rcases gr a z with y|y;·exact fD a m y
    ·have:=ba.there (a:=a) (Yr _ m);have:H2 a≠none:=by
      have m':a∈l.own:=m;unfold BL.own at m';simp only[Yp,Y2,or_false] at m';rcases m' with rfl|rfl|rfl|rfl|rfl|rfl|rfl|rfl;·rw[h2];exact λz=>nomatch z
      ·rw[s2];exact λz=>nomatch z
      ·rw[p2];exact λz=>nomatch z
      ·rw[k2 ba.facts (λz=>pC z.symm) (λz=>rb z.symm)];exact λz=>nomatch z
      ·rw[k2 ba.known (λz=>rm z.symm) (λz=>rf z.symm)];exact λz=>nomatch z
      ·rw[k2 ba.parents (λz=>rp z.symm) (λz=>rh z.symm)];exact λz=>nomatch z
      ·rw[k2 ba.done (λz=>ui z.symm) (λz=>ug z.symm)];exact λz=>nomatch z
      ·rw[k2 ba.gT (λz=>uj z.symm) (λz=>uh z.symm)];exact λz=>nomatch z
     exact this y
 |fin z c hR fg nz nk np lv lim=>
  refine⟨_,rfl,r,_,rfl,ay.of hR,_,rfl,bY ?_⟩;refine⟨_,rfl,l.h,dx,_,rfl,h1,rfl,_,rfl,l,b,xs,ys,r,z,c,rfl,ba,hR,nz,nk,np,by omega,λH1 o1 f1 k1 p1=>?_⟩;have k2:∀{a:Addr} {o:HO},H a=some o->a≠l.fc->a≠l.kn->a≠l.pr->H1 a=some o:=λ{a o} e n1 n2 n3=>o1 _ _ e (by simp[n1,n2,n3]);have o2:Out l.own H H1:=λa u e na=>k2 e (λz=>na (by rw[z];simp[BL.own])) (λz=>na (by rw[z];simp[BL.own])) (λz=>na (by rw[z];simp[BL.own]));have h2:=k2 h1 hV k9 n5;have Ud:=nd;simp only[Y1,Yp,Y2,or_false,not_or] at Ud;obtain⟨_,_,_,⟨xf,xg,uk,tO⟩,⟨z6,xh,xk⟩,⟨xl,xn⟩,_⟩:=Ud;have s2:=k2 ba.cS rb rf rh;have p2:=k2 ba.places pC rm rp;have d2:=k2 ba.done (λz=>uk z.symm) (λz=>xh z.symm) (λz=>xl z.symm);have u2:=k2 ba.gT (λz=>tO z.symm) (λz=>xk z.symm) (λz=>xn z.symm);have tp:∀{a:Addr} {us:List V} {H3:Hp},Out l.fp H H3->H a=some (.tup us)->H3 a=some (.tup us):=λo e=>o _ _ e (ba.tup e);have mk:∀(jf:List Addr) (H3:Hp),Out l.fp H H3->dY l.fp ({l with bU:=l.bU++[r],d5:=jf}:BL).fp H->(∀a u,H1 a=some u->a∈l.own->H3 a=some u)->qJ H3 CJ xs.length {l with bU:=l.bU++[r],d5:=jf} {b with fs:=b.fs++[(z,c)]}->Q .aA H3:=λjf H3 o g k rk=>by
   refine q {l with bU:=l.bU++[r],d5:=jf} H3 ⟨rfl,o,g⟩ ?_;refine ba.build (l':={l with bU:=l.bU++[r],d5:=jf}) (b':={b with fs:=b.fs++[(z,c)]}) rfl rfl rfl rfl rfl rfl rfl rfl rfl o g ⟨dx,k _ _ h2 (by simp[BL.own])⟩ (k _ _ s2 (by simp[BL.own])) (k _ _ p2 (by simp[BL.own])) (k _ _ f1 (by simp[BL.own])) ?_ (k _ _ k1 (by simp[BL.own])) (k _ _ p1 (by simp[BL.own])) (k _ _ d2 (by simp[BL.own])) (L2.Paired.bI ba.jV λ_ _ e=>e.out o λa us e=>ba.tup e) (k _ _ u2 (by simp[BL.own])) (L2.Paired.bI ba.lP λ_ _ e=>e.out o λa us e=>ba.tup e) rk;exact iU (F:=λa (p:Nat×Fc)=>H3 a=some (.tup ((dQ b.ps p.1 p.2).map kV))) (tp o hR) (L2.Paired.bI ba.fact λ_ _ e=>tp o e)
  cases hj:ba.qv with
  |no j1 j2=>
   rw[j1] at h2;refine⟨_,rfl,l.h,C,dx,_,_,rfl,h2,hc.cls,hc.gP,rfl,rfl,_,rfl,bY (aX ?_)⟩;exact mk l.d5 H1 (qc o2) (dY.refl _ _) (λ_ _ e _=>e) (.no j1 j2)
  |at_ jl st j1 j2 ja me len fD=>
   have j9:=h2;rw[j1] at j9;have z5:=ja.jd o2 fD (ba.F1 ja me) λa us e z=>ba.tup e (Yr _ z);have la2:gS H1 CL l.L xs ys:=ba.land H1 (qc o2);refine⟨_,rfl,l.h,C,dx,_,_,rfl,j9,hc.cls,hc.gP,rfl,rfl,_,rfl,cV ?_⟩;refine⟨_,rfl,l.h,C,dx,_,_,rfl,j9,hc.cls,hc.gP,rfl,_,rfl,l.h,C,dx,_,_,rfl,j9,hc.cls,hc.sX,rfl,_,rfl,l.h,C,dx,_,_,rfl,j9,hc.cls,hc.u9,rfl,_,rfl,jl,st,l.L,l.pl,r,xs,ys,b.ps,b.F,z,c,rfl,z5,me,la2,ok.gd,p2,ok.nm,len,by have:=ok.m;omega,tp (qc o2) hR,fg,?_,λv gm aK H3 e1 sub o3 IX me3 ZfE=>?_⟩
   ·obtain⟨f0,i0,s0⟩:=lv;exact⟨f0,(me.iff f0).mpr ⟨by rw[len];exact i0,λc' m'=>s0 c' (Yr _ m')⟩,s0 c (Yq _ Yk)⟩
   have gr:dY jl.fp gm.fp H1:=λa z=>.inl (sub a z);refine mk gm.fp H3 (Rx j2 o2 o3) (QH j2 o2 gr) (λa u e m=>o3 _ _ e (fD a m)) ?_;refine .at_ gm aK (by rw[e1];exact j1) rfl IX ?_ (by rw[ZfE];exact len) λa m z=>fD a m (sub a z);show dz xs.length aK ((b.fs++[(z,c)]).map (·.2));rw[Ym];exact me3
end
section
variable {dk:Addr}
theorem NR{l l':BL}{H:Hp}(e1:l'.own=l.own)(e2:l'.d5=[]):dY l.fp l'.fp H:=λa z=>.inl (by
 unfold BL.fp at z;rw[e1,e2,Wf] at z;exact Yr _ z)
theorem uI:aQ ["self","row","number","kind","one","other"] ["self","row"] (aL AO):=⟨rfl,rfl,rfl,by decide+kernel,rfl,by decide+kernel,by decide+kernel⟩
theorem XZ(F:aM K "take_out" "Hearth.take_out" AO f fd)(hc:fI K C)(hZ:mg "PARENTS"=some (.ref dk))(qP:∀H,ay K H dk (gY.map V.str))(rU:HasFn P w K mg base 1 "is_person" ["row"] (DR K))(mK:HasFn P w K mg base 1 "fact_key" ["kind","one","other"] yP):aG P w K mg base aN 2 f fd ["self","row"] (MG C CL CJ):=by
 refine F.ok uI (λvs H Q E h=>?_) (λaE A outer s H vs Q E hr h=>?_)
 ·obtain⟨l,b,b',xs,ys,r,rfl,_⟩:=h;rfl
 obtain⟨l,b,b',xs,ys,r,rfl,ba,ok,mv,q⟩:=h;refine⟨_,(aj (aS (eN (aT rU hr (by omega) rfl (aa (pv 1) ae))) fH (aj (mY (pv 1) (ic (K:=K) (n:=4) rfl rfl (bW (bj (i:=2) uI.nd rfl (Or.inl rfl)) (bW (bj (i:=3) uI.nd rfl (Or.inl rfl)) (bW (bj (i:=4) uI.nd rfl (Or.inl rfl)) (bW (bj (i:=5) uI.nd rfl (Or.inl rfl)) ib)))))) (aj (Za3 (aW (K:=K) rfl (pv 0) rfl) (pv 2)) (aj (Nl (bB hr) (aW (K:=K) rfl (pv 0) rfl) (aT mK hr (by omega) rfl (aa (pv 3) (aa (pv 4) (aa (pv 5) ae))))) (aq (aS (aZ (kW (K:=K) rfl) (pv 3) (di (v:=.ref dk) rfl hZ rfl) (by with_unfolding_all rfl)) (aq (Nl (bB hr) (aW (K:=K) rfl (pv 0) rfl) (dv (aa (pv 3) (aa (pv 4) ae))))) aY)))))) (aq (fS (K:=K) rfl (pv 0) kA))),?_⟩;obtain⟨dx,h1⟩:=ba.obj;have sz:(10000:Nat)<=sizeLine:=by rw[sizeLine_eq];omega
 have nd:=ba.nd;unfold BL.own at nd;simp only[Y1,Yp,Y2,or_false,not_or] at nd;obtain⟨⟨jw,c6,hV,k9,n5,mn,n_⟩,⟨xc,rb,rf,rh,ug,uh⟩,⟨pC,rm,rp,ui,uj⟩,⟨xf,xg,uk,tO⟩,⟨z6,xh,xk⟩,⟨xl,xn⟩,_⟩:=nd;cases mv with
 |tN z c hR m=>
  have al:(b.fs.map (·.1)).length=l.bU.length:=by rw[Ya];exact(cU ba.fact).symm
  obtain⟨fa,z7,_⟩:=O1 (H:=H) (ps:=b.ps) ba.fact ok.zs m;have ZeM:(eU b.ps b.fs).map (·.1)=b.keys:=by unfold eU BS.keys;rw[Wc];rfl
  refine⟨_,rfl,r,_,rfl,ay.of hR,_,rfl,bY ?_⟩;refine⟨_,rfl,r,_,rfl,ay.of hR,rfl,_,_,rfl,bu ⟨_,_,rfl,bu ⟨_,_,rfl,bu ⟨_,_,rfl,bu ⟨rfl,?_⟩⟩⟩⟩⟩;refine⟨_,rfl,l.h,C,dx,_,_,rfl,h1,hc.cls,hc.sP,rfl,_,rfl,l.fc,_,.inl (z:Int),rfl,ba.facts,rfl,by rw[z7];rfl,λH1 b1 e1=>?_⟩;rw[xP z al,←mP] at e1;refine⟨_,rfl,l.h,C,dx,_,_,rfl,b1 _ _ h1 hV,hc.cls,hc.yt,rfl,_,rfl,_,rfl,_,rfl,c.k,au b.ps c.one,bh b.ps c,rfl,λe=>O7 e,λp H2 wV g2 dB=>?_⟩;refine⟨l.kn,p,_,eT b.ps c,rfl,g2 _ _ (b1 _ _ ba.known (λz=>xf z.symm)),rfl,dB,(yd _ _).mpr (by rw[ZeM];exact Yf.mpr ⟨_,m,rfl⟩),λH3 b3 e3=>?_⟩;rw[Zbp ok.zs ok.ky m] at e3;have k3:∀{a:Addr} {o:HO},H a=some o->a≠l.fc->a≠l.kn->H3 a=some o:=λ{a o} e n1 n2=>b3 _ _ (g2 _ _ (b1 _ _ e n1)) n2;have ef3:=b3 _ _ (g2 _ _ e1) xf;have w_:=k3 ba.parents (λz=>xg z.symm) (λz=>z6 z.symm);have last:∀H5,(∀{a:Addr} {o:HO},H3 a=some o->a≠l.pr->H5 a=some o)->H5 l.pr=some (.dT (cj b.ps (cN z b.fs)))->∀H6,aw l.h H5 H6->H6 l.h=some (.ins C dx (HF l.L l.sd l.pl l.fc l.kn l.pr (b.co:Int) l.dn l.un .aA))->Q .aA H6:=λH5 k5 e5 H6 b6 e6=>by
   have k6:∀{a:Addr} {o:HO},H a=some o->a≠l.fc->a≠l.kn->a≠l.pr->a≠l.h->H6 a=some o:=λ{a o} e n1 n2 n3 n4=>b6 _ _ (k5 (k3 e n1 n2) n3) n4;have o6:Out l.own H H6:=λa u e na=>k6 e (λz=>na (by rw[z];simp[BL.own])) (λz=>na (by rw[z];simp[BL.own])) (λz=>na (by rw[z];simp[BL.own])) (λz=>na (by rw[z];simp[BL.own]));have of:=qc o6;have tp:∀{a:Addr} {us:List V},H a=some (.tup us)->H6 a=some (.tup us):=λe=>of _ _ e (ba.tup e);refine q {l with rk:=.aA,d5:=[],bU:=dG (b.fs.map (·.1)) l.bU z} H6 ⟨rfl,of,NR rfl rfl⟩ ?_;exact ba.build (l':={l with rk:=.aA,d5:=[],bU:=dG (b.fs.map (·.1)) l.bU z}) (b':={b with fs:=cN z b.fs}) rfl rfl rfl rfl rfl rfl rfl rfl rfl of (NR rfl rfl) ⟨dx,e6⟩ (k6 ba.cS rb rf rh (λz=>jw z.symm)) (k6 ba.places pC rm rp (λz=>c6 z.symm)) (b6 _ _ (k5 ef3 xg) (λz=>hV z.symm)) (DQ ba.fact λa p e _ _=>tp e) (b6 _ _ (k5 e3 z6) (λz=>k9 z.symm)) (b6 _ _ e5 (λz=>n5 z.symm)) (k6 ba.done (λz=>uk z.symm) (λz=>xh z.symm) (λz=>xl z.symm) (λz=>mn z.symm)) (L2.Paired.bI ba.jV λ_ _ e=>e.out of λa us e=>ba.tup e) (k6 ba.gT (λz=>tO z.symm) (λz=>xk z.symm) (λz=>xn z.symm) (λz=>n_ z.symm)) (L2.Paired.bI ba.lP λ_ _ e=>e.out of λa us e=>ba.tup e) (.no rfl rfl)
  refine⟨_,rfl,dk,_,rfl,.inr (qP _),rfl,rfl,_,rfl,?_⟩;dsimp only;rw[if_neg Yi,show eO (kV (Sum.inr c.k)) (gY.map V.str)=cH c.k from yw c.k];refine bC (λcc=>?_) (λcc=>aX ?_)
  ·refine⟨_,rfl,l.h,C,dx,_,_,rfl,k3 h1 hV k9,hc.cls,hc.sv,rfl,_,rfl,_,rfl,by show 2<=sizeLine;decide,λp4 H4 np4 g4 IW=>?_⟩;refine⟨l.pr,p4,_,[.inr c.k,.inr (au b.ps c.one)],rfl,g4 _ _ w_,rfl,IW,(yd _ _).mpr ?_,λH5 b5 e5=>?_⟩
   ·unfold cj;rw[Wc];exact Yf.mpr ⟨(z,c),Y3.mpr ⟨m,cc⟩,rfl⟩
   rw[Zbq ok.zs ok.pr m cc] at e5;have k5:∀{a:Addr} {o:HO},H3 a=some o->a≠l.pr->H5 a=some o:=λ{a o} e n=>b5 _ _ (g4 _ _ e) n;refine⟨_,rfl,l.h,C,dx,_,rfl,k5 (k3 h1 hV k9) n5,hc.cls,hc.gP,by show 10<1000;decide,λH6 b6 e6=>?_⟩;exact last H5 k5 e5 H6 b6 e6
  ·have ef:cH c.k=false:=by
    cases e:cH c.k with
    |true=>exact absurd e cc
    |false=>rfl
   refine⟨_,rfl,l.h,C,dx,_,rfl,k3 h1 hV k9,hc.cls,hc.gP,by show 10<1000;decide,λH6 b6 e6=>?_⟩;exact last H3 (λe _=>e) (by rw[←Zai ok.zs m ef];exact w_) H6 b6 e6
theorem VD:aQ ["self","way","row","coming"] ["self","way","row","coming"] (aL BB):=⟨rfl,rfl,rfl,by decide+kernel,rfl,by decide+kernel,by decide+kernel⟩
theorem Zbr(F:aM K "shift" "Hearth.shift" BB f fd)(hc:fI K C)(mQ:mg "PUT_IN"=some (.int 1 t1))(Bg:cA P w K mg base 8 "put_in" C ["self","row"] (O5 C CL CJ))(AQ:cA P w K mg base 2 "take_out" C ["self","row"] (MG C CL CJ)):aG P w K mg base aN 9 f fd ["self","way","row","coming"] (O6 C CL CJ):=by
 refine F.ok VD (λvs H Q E h=>?_) (λaE A outer s H vs Q E hr h=>?_)
 ·obtain⟨l,b,b',xs,ys,r,w',c2,rfl,_⟩:=h;rfl
 obtain⟨l,b,b',xs,ys,r,w',c2,rfl,ba,ok,mv,q⟩:=h;refine⟨_,(aj (aS (aZ cg (pv 1) (di (v:=.int (1)) rfl mQ ⟨_,rfl⟩) (aR _)) (aq (cz (cJ Bg hr (by omega) (pv 0) (aa (pv 2) ae)))) (aq (cz (cJ AQ hr (by omega) (pv 0) (aa (pv 2) ae))))) (aq (fS (K:=K) rfl (pv 0) (pv 3)))),?_⟩;obtain⟨dx,h1⟩:=ba.obj;have last:∀(l':BL) (H1:Hp),bX H H1 l l'->bw H1 C CL CJ l' xs ys b'->∀(iE:Addr) (H2:Hp),H1 l'.h=some (.ins C iE (HF l'.L l'.sd l'.pl l'.fc l'.kn l'.pr (b'.co:Int) l'.dn l'.un l'.rk))->aw l'.h H1 H2->H2 l'.h=some (.ins C iE (HF l'.L l'.sd l'.pl l'.fc l'.kn l'.pr (c2:Int) l'.dn l'.un l'.rk))->Q .aA H2:=λl' H1 wt cO iE H2 e1 b2 e2=>by
  have nd:=cO.nd;unfold BL.own at nd;simp only[Y1,Yp,Y2,or_false,not_or] at nd;obtain⟨⟨jw,c6,hV,k9,n5,mn,n_⟩,_⟩:=nd;have o2:Out l'.own H1 H2:=λa u e na=>b2 _ _ e (λz=>na (by rw[z];simp[BL.own]));have of:=qc o2;have uo:=(cO.owned (l':=l') (b':={b' with co:=c2}) rfl rfl rfl rfl rfl rfl rfl rfl rfl (.inl ⟨rfl,rfl,rfl,rfl⟩) o2 ⟨iE,e2⟩ (b2 _ _ cO.cS (λz=>jw z.symm)) (b2 _ _ cO.places (λz=>c6 z.symm)) (b2 _ _ cO.facts (λz=>hV z.symm)) (L2.Paired.bI cO.fact λ_ _ e=>(λe=>of _ _ e (cO.tup e)) e) (b2 _ _ cO.known (λz=>k9 z.symm)) (b2 _ _ cO.parents (λz=>n5 z.symm)) (b2 _ _ cO.done (λz=>mn z.symm)) (L2.Paired.bI cO.jV λ_ _ e=>e.out of λa us e=>cO.tup e) (b2 _ _ cO.gT (λz=>n_ z.symm)) (L2.Paired.bI cO.lP λ_ _ e=>e.out of λa us e=>cO.tup e)).1;exact q l' H2 (wt.trans ⟨rfl,of,dY.refl _ _⟩) uo
 have go:∀(l':BL) (H1:Hp),bX H H1 l l'->bw H1 C CL CJ l' xs ys b'->∃iE,H1 l.h=some (.ins C iE (HF l'.L l'.sd l'.pl l'.fc l'.kn l'.pr (b'.co:Int) l'.dn l'.un l'.rk))/\∀H2,aw l.h H1 H2->H2 l.h=some (.ins C iE (HF l'.L l'.sd l'.pl l'.fc l'.kn l'.pr (c2:Int) l'.dn l'.un l'.rk))->Q .aA H2:=λl' H1 wt cO=>by
  obtain⟨iE,e1⟩:=cO.obj;have eh:=wt.h
  grind
 have w12:w'=1\/w'=-1:=by cases mv<;>first|exact .inl rfl|exact .inr rfl
 rcases w12 with rfl|rfl
 ·refine⟨_,rfl,rfl,_,rfl,cV ?_⟩;refine⟨_,rfl,l.h,dx,_,rfl,h1,rfl,_,rfl,l,b,b',xs,ys,r,rfl,ba,ok,mv,λl' H1 wt cO=>?_⟩;obtain⟨iE,e1,k⟩:=go l' H1 wt cO;exact⟨_,rfl,_,rfl,l.h,C,iE,_,rfl,e1,hc.cls,hc.oE,by show 10<1000;decide,λH2 b2 e2=>k H2 b2 e2⟩
 ·refine⟨_,rfl,rfl,_,rfl,bY ?_⟩;refine⟨_,rfl,l.h,dx,_,rfl,h1,rfl,_,rfl,l,b,b',xs,ys,r,rfl,ba,ok,mv,λl' H1 wt cO=>?_⟩;obtain⟨iE,e1,k⟩:=go l' H1 wt cO;exact⟨_,rfl,_,rfl,l.h,C,iE,_,rfl,e1,hc.cls,hc.oE,by show 10<1000;decide,λH2 b2 e2=>k H2 b2 e2⟩
theorem Vn:aQ ["self","way","row","coming"] ["self","way","row","coming"] (aL AX):=⟨rfl,rfl,rfl,by decide+kernel,rfl,by decide+kernel,by decide+kernel⟩
theorem Zl(F:aM K "do_deed" "Hearth.do_deed" AX f fd)(hc:fI K C)(BD:cA P w K mg base 9 "shift" C ["self","way","row","coming"] (O6 C CL CJ)):aG P w K mg base aN 10 f fd ["self","way","row","coming"] (ye C CL CJ):=by
 refine F.ok Vn (λvs H Q E h=>?_) (λaE A outer s H vs Q E hr h=>?_)
 ·obtain⟨l,b,b',xs,ys,r,w',c2,row,rfl,_⟩:=h;rfl
 obtain⟨l,b,b',xs,ys,r,w',c2,row,rfl,ba,ok,dl,hR,mv,q⟩:=h;refine⟨_,(aj (cz (m6 (K:=K) rfl (jO plainAttrs_list PySem.F.slot_list_append PySem.F.type_list_append ot (aW (K:=K) rfl (pv 0) rfl) (aa (dv (aa (pv 1) (aa (pv 2) (aa (aW (K:=K) rfl (pv 0) rfl) (aa (pv 3) ae))))) ae)))) (aj (cz (Zb9 (K:=K) rfl (Zc6 plainAttrs_list PySem.F.slot_list_clear PySem.F.type_list_clear ZZ (aW (K:=K) rfl (pv 0) rfl)))) (aq (cz (cJ BD hr (by omega) (pv 0) (aa (pv 1) (aa (pv 2) (aa (pv 3) ae)))))))),?_⟩;obtain⟨dx,h1⟩:=ba.obj;have sz:(10000:Nat)<=sizeLine:=by rw[sizeLine_eq];omega
 have nd:=ba.nd;unfold BL.own at nd;simp only[Y1,Yp,Y2,or_false,not_or] at nd;obtain⟨⟨jw,c6,hV,k9,n5,mn,n_⟩,⟨xc,rb,rf,rh,ug,uh⟩,⟨pC,rm,rp,ui,uj⟩,⟨xf,xg,uk,tO⟩,⟨z6,xh,xk⟩,⟨xl,xn⟩,Ue,_⟩:=nd;have dal:=cU ba.jV;refine⟨_,rfl,l.h,C,dx,_,_,rfl,h1,hc.cls,hc.QC,rfl,.inl ⟨rfl,_,ak.of ba.done⟩,?_⟩;refine⟨_,rfl,_,rfl,_,rfl,l.h,C,dx,_,_,rfl,h1,hc.cls,hc.oE,rfl,_,rfl,by show 4<=sizeLine;omega,λp H1 np g1 e1=>?_⟩;refine⟨l.dn,_,_,rfl,rfl,g1 _ _ ba.done,by rw[Ya];omega,λH2 b2 e2=>?_⟩;have a1:=b2 _ _ (g1 _ _ h1) mn;have a7:=b2 _ _ (g1 _ _ ba.gT) (λz=>Ue z.symm);refine⟨_,rfl,l.h,C,dx,_,_,rfl,a1,hc.cls,hc.NI,rfl,.inl ⟨rfl,_,ak.of a7⟩,l.un,_,rfl,rfl,a7,λH3 b3 e3=>?_⟩;have k3:∀{a:Addr} {o:HO},H a=some o->a≠l.dn->a≠l.un->H3 a=some o:=λ{a o} e n1 n2=>b3 _ _ (b2 _ _ (g1 _ _ e) n1) n2;have o3:Out l.own H H3:=λa u e na=>k3 e (λz=>na (by rw[z];simp[BL.own])) (λz=>na (by rw[z];simp[BL.own]));have of:=qc o3;have tp:∀{a:Addr} {us:List V},H a=some (.tup us)->H3 a=some (.tup us):=λe=>of _ _ e (ba.tup e);have pu:p≠l.un:=λz=>by rw[z,ba.gT] at np;cases np
 have ed:H3 l.dn=some (.lst ((l.gK++[p]).map V.ref)):=by rw[Ym];exact b3 _ _ e2 Ue
 have ka:=(ba.owned (l':={l with gK:=l.gK++[p],jv:=[]}) (b':={b with dn:=b.dn++[⟨w',row,b.co,c2⟩],un:=[]}) rfl rfl rfl rfl rfl rfl rfl rfl rfl (.inl ⟨rfl,rfl,rfl,rfl⟩) o3 ⟨dx,k3 h1 mn n_⟩ (k3 ba.cS ug uh) (k3 ba.places ui uj) (k3 ba.facts uk tO) (L2.Paired.bI ba.fact λ_ _ e=>tp e) (k3 ba.known xh xk) (k3 ba.parents xl xn) ed (iU (F:=lO H3) ⟨r,b3 _ _ (b2 _ _ e1 (λz=>by rw[z,ba.done] at np;cases np)) pu,tp hR⟩ (L2.Paired.bI ba.jV λ_ _ e=>e.out of λa us e=>ba.tup e)) e3 .nil);have h3:=k3 h1 mn n_;refine⟨_,rfl,l.h,dx,_,rfl,h3,rfl,_,rfl,_,rfl,_,rfl,{l with gK:=l.gK++[p],jv:=[]},_,_,xs,ys,r,w',c2,rfl,ka.1,⟨ok.gd,ok.nm,ok.m,ok.fl,ok.fg,ok.zs,ok.lt,ok.ky,ok.pr,ok.lv,by show(b.dn++[_]).length<=200;rw[Yl];show b.dn.length+1<=200;omega,Yw _⟩,((mv.ZeK _ _).out λus e=>tp e),λl' H4 wt ba4=>?_⟩;exact q l' H4 (bX.trans (l1:={l with gK:=l.gK++[p],jv:=[]}) ⟨rfl,of,ka.2⟩ wt) ba4
end
theorem cC.ZfF(j:cC H C n l st)(h:a∈l.bU):∃us,H a=some (.lst us):=by
 obtain⟨p,e⟩:=uW j.free h
 grind
theorem cC.rq(j:cC H C n l st)(e:H a=some o)(nl:∀us,o≠.lst us)(nt:∀us,o≠.tup us)(na:a∉l.fp)(br:aw a H H'):cC H' C n l st:=by
 refine j.jd (fp:=[a]) (λb u eb nb=>br _ _ eb λz=>nb (by rw[z];exact Yk)) (λb hb=>?_) (λb hb z=>?_) λb us eb z=>?_;·grind
 ·rw[Yo.mp hb] at z;obtain⟨us,q⟩:=j.ZfF z
  grind
 ·grind
inductive nj(H:Hp)(C CJ dx d:Addr)(l:BL)(b:BS)(n:Nat)(J:Addr)(F:List Fc)(m:Nat)(H6:Hp):Prop
 |mk (jl:JL) (st:JS) (eJ:jl.J=J) (keep:∀a u,H a=some u->a≠l.h->a≠d->H6 a=some u) (obj:H6 l.h=some (.ins C dx (HF l.L l.sd l.pl l.fc l.kn l.pr (b.co:Int) l.dn l.un (.ref J)))) (ja:cC H6 CJ n jl st) (me:dz n st F) (len:st.hd.length=m) (new:∀a∈jl.fp,H a=none):nj H C CJ dx d l b n J F m H6
theorem nj.rq(j:nj H C CJ dx d l b n J F m H6)(hd:H d'≠none)(e:H6 d'=some o)(nl:∀us,o≠.lst us)(nt:∀us,o≠.tup us)(nh:d'≠l.h)(br:aw d' H6 H7)(kd:∀u,H d=some u->d≠d'->d≠l.h->H7 d=some u):nj H C CJ dx d' l b n J F m H7:=by
 obtain⟨jl,st,eJ,keep,obj,ja,me,len,new⟩:=j;refine⟨jl,st,eJ,λa u ea n1 n2=>?_,br _ _ obj (λz=>nh z.symm),ja.rq e nl nt (λz=>hd (new _ z)) br,me,len,new⟩;by_cases z:a=d;·grind
 ·exact br _ _ (keep a u ea n1 z) n2
theorem MI:∀{ks:List Nat} {as:List Addr} {i:Nat} {k:Key} {y:V},(bo ks as)[i]?=some (k,y)->∃a,as[i]?=some a/\y=.ref a
 |[],as,i,k,y,h=>by
  unfold bo at h;simp at h
 |_::_,[],i,k,y,h=>by
  unfold bo at h;simp at h
 |q::ks,a::as,0,k,y,h=>by
  injection(Ys h) with _ e2
  grind
 |q::ks,a::as,i+1,k,y,h=>by
  have e0:bo (q::ks) (a::as)=(Sum.inl (q:Int),V.ref a)::bo ks as:=rfl;rw[e0] at h;have h':(bo ks as)[i]?=some (k,y):=by simpa using h
  obtain⟨b,e1,e2⟩:=MI h'
  grind
inductive NS(C CL CJ:Addr)(vs:List V)(H:Hp)(Q:VK):Prop
 |mk (l:BL) (b:BS) (xs ys:List Int) (aC:vs=[.ref l.h]) (ba:bw H C CL CJ l xs ys b) (ok:cD xs ys b) (q:∀(l':BL) (jl:JL) (st:JS) (H':Hp),bX H H' l l'->bw H' C CL CJ l' xs ys b->l'.rk=.ref jl.J->l'.d5=jl.fp->cC H' CJ xs.length jl st->dz xs.length st b.F->st.hd.length=b.ps.length->(∀a∈l'.own,a∉jl.fp)->Q (.ref jl.J) H'):NS C CL CJ vs H Q
def Fp(C CL CJ:Addr):Sp:=λvs H Q _=>NS C CL CJ vs H Q
section
theorem Bh:aQ ["self","name","fact"] ["self"] (aL BA):=⟨rfl,rfl,rfl,by decide+kernel,rfl,by decide+kernel,by decide+kernel⟩
theorem Zbs(F:aM K "joins" "Hearth.joins" BA f fd)(hc:fI K C)(lc:tE K CL)(Fq:vK P w K mg base 1 "Joins" CJ ["self","size"] (OP CJ))(rV:cA P w K mg base 2 "add" CJ ["self"] (Gn CJ))(rW:HasFn P w K mg base 6 "keep_fact" ["joins","land","places","fact"] (Fn CL CJ)):aG P w K mg base aN 8 f fd ["self"] (Fp C CL CJ):=by
 refine F.ok Bh (λvs H Q E h=>?_) (λaE A outer s H vs Q E hr h=>?_)
 ·obtain⟨l,b,xs,ys,rfl,_⟩:=h;rfl
 obtain⟨l,b,xs,ys,rfl,ba,ok,q⟩:=h;refine⟨_,(aj (aS (aZ FJ (aW (K:=K) rfl (pv 0) rfl) kA (aR _)) (aj (fS (K:=K) rfl (pv 0) (Ge Fq hr (by omega) rfl (aa (aW (K:=K) rfl (aW (K:=K) rfl (pv 0) rfl) rfl) ae))) (aj (LN (H0:=H) rfl PassesOwn.never rfl (OG (H0:=H) rfl (aW (K:=K) rfl (pv 0) rfl)) (bj (i:=1) Bh.nd rfl (Or.inl rfl)) (aq (cz (sV rV hr (by omega) (aW (K:=K) rfl (pv 0) rfl))))) (aq (YU (H0:=H) rfl PassesOwn.never rfl (Zcb (H0:=H) rfl (aW (K:=K) rfl (pv 0) rfl)) (bj (i:=2) Bh.nd rfl (Or.inl rfl)) (aq (cz (aT rW hr (by omega) rfl (aa (aW (K:=K) rfl (pv 0) rfl) (aa (aW (K:=K) rfl (pv 0) rfl) (aa (aW (K:=K) rfl (pv 0) rfl) (aa (pv 2) ae))))))))))) aY) (aq (aF (aW (K:=K) rfl (pv 0) rfl)))),?_⟩;obtain⟨dx,h1⟩:=ba.obj;have n8:xs.length<=8:=ok.gd.2.2.2.2;have n0:0<xs.length:=by have:=ok.gd.2.2.2.1;omega
 have nd:=ba.nd;unfold BL.own at nd;simp only[Y1,Yp,Y2,or_false,not_or] at nd;obtain⟨⟨jw,c6,hV,k9,n5,mn,n_⟩,⟨xc,rb,rf,rh,ug,uh⟩,⟨pC,rm,rp,ui,uj⟩,⟨xf,xg,uk,tO⟩,_⟩:=nd;cases hj:ba.qv with
 |at_ jl st j1 j2 ja me len fD=>
  have jZ:=h1;rw[j1] at jZ;refine⟨_,rfl,l.h,C,dx,_,_,rfl,jZ,hc.cls,hc.gP,rfl,rfl,_,rfl,bY (aX ?_)⟩;exact⟨_,rfl,l.h,C,dx,_,_,rfl,jZ,hc.cls,hc.gP,rfl,q l jl st H (bX.of (ai.refl _)) ba j1 j2 ja me len fD⟩
 |no j1 j2=>
  have jZ:=h1;rw[j1] at jZ;refine mZ (λσ H6=>∃(J:Addr) (o1 o2:Option V),σ=[some (.ref l.h),o1,o2]/\nj H C CJ dx l.h l b xs.length J b.F b.ps.length H6) (λnx hn=>?_) ?_
  ·refine⟨_,rfl,l.h,C,dx,_,_,rfl,jZ,hc.cls,hc.gP,rfl,rfl,_,rfl,cV ?_⟩;obtain⟨dL,dS,mo,fE,wi,im,jf,iw,Ic,hL,_⟩:=ba.landAt;refine⟨_,rfl,l.h,C,dx,_,_,rfl,jZ,hc.cls,hc.sX,rfl,l.L,CL,dL,_,_,rfl,hL,lc.cls,lc.ql,rfl,λx z8 oa wN nd2=>?_⟩;have wO:upd H z8 (.own x) x=none:=by rw[aP (λz=>nd2 z.symm)];exact oa
   have Ug:ai H (upd (upd H z8 (.own x)) x (.ins CJ z8 [])):=(cq wN _).trans (cq wO _);refine⟨x,z8,xs.length,rfl,aU,λIY H2 eJ1 em1 fr1 b2 ja1=>⟨rfl,?_⟩⟩;have f1:∀a∈IY.fp,H a=none:=λa ha=>by
    by_cases z:a=x;·rw[z];exact oa
    ·exact Ug.free (fr1 a ha z)
   have g2:ai H H2:=λa o e=>b2 _ _ (Ug _ _ e) (ck e oa);refine⟨_,rfl,l.h,C,dx,_,rfl,g2 _ _ jZ,hc.cls,hc.gP,by show 10<1000;decide,λH3 b3 e3=>?_⟩;have Uh:H3 l.h=some (.ins C dx (HF l.L l.sd l.pl l.fc l.kn l.pr (b.co:Int) l.dn l.un (.ref x))):=e3;have z4:l.h∉IY.fp:=λz=>by have:=f1 _ z;rw[h1] at this;cases this
   have jm3:nj H C CJ dx l.h l b xs.length x [] 0 H3:=⟨IY,_,eJ1,λa u e n1 _=>b3 _ _ (g2 _ _ e) n1,Uh,ja1.rq (g2 _ _ jZ) (λus z=>nomatch z) (λus z=>nomatch z) z4 b3,ZeJ,rfl,f1⟩;have s3:H3 l.sd=some (.dK (fO b.ps)):=b3 _ _ (g2 _ _ ba.cS) (λz=>jw z.symm);dsimp only;refine gu (λσ H6=>∃o1 o2:Option V,σ=[some (.ref l.h),o1,o2]/\nj H C CJ dx l.h l b xs.length x [] b.ps.length H6) (λz9 mw=>?_) ?_
   ·refine Ni (d:=l.sd) (kvs:=fO b.ps) (H1:=H3) (λR r=>⟨_,rfl,l.h,C,dx,_,_,rfl,Uh,hc.cls,hc.qb,rfl,r⟩) s3 (λi σ H6=>∃o1 o2:Option V,σ=[some (.ref l.h),o1,o2]/\nj H C CJ dx l.sd l b xs.length x [] i H6) (λod=>⟨none,none,rfl,jm3.rq (by rw[ba.cS];exact λz=>nomatch z) s3 (λus z=>nomatch z) (λus z=>nomatch z) (λz=>jw z.symm) (aw.put (aw.of (ai.refl _))) (λu _ _ z=>absurd rfl z)⟩) ?_ ?_
    ·rintro od i k y aB H6 N rt bk hk ⟨o1,o2,rfl,jm⟩ fz hN;obtain⟨jl,st,eJ,keep,obj,ja,me,len,new⟩:=jm;have il:i<b.ps.length:=by
      have:=(Yh.mp hk).1
      rwa [Ya] at this
     have im:=ok.m;obtain⟨dj,ej⟩:=ja.obj;have wf:=me.wf;have ml:=wf.Qw;have wY:=wf.yO;refine bu ?_;refine⟨_,rfl,l.h,C,dx,_,_,rfl,obj,hc.cls,hc.gP,rfl,jl.J,dj,_,by rw[eJ],ej,rfl,jl,st,xs.length,by rw[eJ];rfl,ja,by omega,by omega,by omega,by omega,wf.ll,λz=>Y7 _ (wf.lm _ z),λz=>Y7 _ (wf.lf _ z),λgm H7 k1 o7 gr ja7=>?_⟩;have iR:∀{a:Addr} {u:HO},H a=some u->a∉jl.fp:=λ{a u} e z=>by rw[new _ z] at e;cases e
     refine hN _ _ ⟨_,_,rfl,gm,_,k1.trans eJ,λa u e n1 n2=>o7 _ _ (keep a u e n1 n2) (iR e),o7 _ _ obj (iR h1),ja7,me.more n0,by rw[h_,len],λa z=>?_⟩ (o7 _ _ fz (iR ba.cS));rcases gr a z with y|y;·exact new a y
     ·cases e:H a with
      |none=>rfl
      |some u=>
       by_cases z1:a=l.h;·rw[z1,obj] at y;cases y
       ·by_cases z2:a=l.sd;·rw[z2,fz] at y;cases y
        ·rw[keep a u e z1 z2] at y;cases y
    ·rintro od aB H6 ⟨o1,o2,rfl,jm⟩ fz;rw[Ya] at jm;refine mw _ _ ⟨o1,o2,rfl,?_⟩;obtain⟨jl,st,eJ,keep,obj,ja,me,len,new⟩:=jm;have iR:l.sd∉jl.fp:=λz=>by have:=new _ z;rw[ba.cS] at this;cases this
     refine⟨jl,st,eJ,λa u e n1 _=>?_,by rw[aP jw];exact obj,ja.rq fz (λus z=>nomatch z) (λus z=>nomatch z) iR (aw.put (aw.of (ai.refl _))),me,len,new⟩;by_cases z:a=l.sd
     ·subst z;rw[aU];rw[ba.cS] at e;exact e
     ·rw[aP z];exact keep a u e n1 z
   ·rintro σ H6 ⟨o1,o2,rfl,jm⟩;obtain⟨jl0,ZgL,eJ0,ZeN,ZfG,ja0,me0,len0,ZgM⟩:=id jm;have f6:H6 l.fc=some (.dK (bo (b.fs.map (·.1)) l.bU)):=ZeN _ _ ba.facts (λz=>hV z.symm) (λz=>hV z.symm);have al:=cU ba.fact;refine Za2 (d:=l.fc) (kvs:=bo (b.fs.map (·.1)) l.bU) (H1:=H6) (λR r=>⟨_,rfl,l.h,C,dx,_,_,rfl,ZfG,hc.cls,hc.sP,rfl,r⟩) f6 (λi σ H6=>∃o1 o2:Option V,σ=[some (.ref l.h),o1,o2]/\nj H C CJ dx l.fc l b xs.length x (b.F.take i) b.ps.length H6) (λod=>⟨o1,o2,rfl,jm.rq (by rw[ba.facts];exact λz=>nomatch z) f6 (λus z=>nomatch z) (λus z=>nomatch z) (λz=>hV z.symm) (aw.put (aw.of (ai.refl _))) (λu _ _ z=>absurd rfl z)⟩) ?_ ?_
    ·rintro od i k y aB H7 N rt bk hk ⟨o1,o2,rfl,jm⟩ fz hN;obtain⟨fa,efa,rfl⟩:=MI hk;obtain⟨⟨z,c⟩,Ui,cM⟩:=fQ ba.fact efa;have mzc:=Ye Ui;obtain⟨jl,st,eJ,keep,obj,ja,me,len,new⟩:=jm;have iR:∀{a:Addr} {u:HO},H a=some u->a∉jl.fp:=λ{a u} e z=>by rw[new _ z] at e;cases e
     have of:Out l.fp H H7:=λa u e n=>keep a u e (λz=>n (by rw[z];simp[BL.fp,BL.own])) (λz=>n (by rw[z];simp[BL.fp,BL.own]));have fg:=ok.fg _ mzc;have im:=ok.m;have ec:b.F[i]?=some c:=by unfold BS.F;rw[Yg,Ui];rfl
     have tk:b.F.take (i+1)=b.F.take i++[c]:=by rw[Yy,ec];rfl
     refine bu ?_;refine⟨_,rfl,l.h,C,dx,_,_,rfl,obj,hc.cls,hc.gP,rfl,_,rfl,l.h,C,dx,_,_,rfl,obj,hc.cls,hc.sX,rfl,_,rfl,l.h,C,dx,_,_,rfl,obj,hc.cls,hc.u9,rfl,_,rfl,jl,st,l.L,l.pl,fa,xs,ys,b.ps,b.F.take i,z,c,by rw[eJ];rfl,ja,me,ba.land H7 of,ok.gd,keep _ _ ba.places (λz=>c6 z.symm) pC,ok.nm,len,by omega,of _ _ cM (ba.tup cM),fg,?_,λv gm aK H8 e1 sub o8 ja8 me8 ZfH=>?_⟩
     ·obtain⟨f0,i0,s0⟩:=ok.lv;exact⟨f0,(me.iff f0).mpr ⟨by rw[len];exact i0,λc' m'=>s0 c' (List.mem_of_mem_take m')⟩,s0 c (Ye ec)⟩
     ·refine hN _ _ ⟨_,_,rfl,gm,aK,e1.trans eJ,λa u e n1 n2=>o8 _ _ (keep a u e n1 n2) (iR e),o8 _ _ obj (iR h1),ja8,by rw[tk];exact me8,ZfH.trans len,λa z=>new a (sub a z)⟩ (o8 _ _ fz (iR ba.facts))
    ·rintro od aB H7 ⟨o1,o2,rfl,jm⟩ fz;have dl:(bo (b.fs.map (·.1)) l.bU).length=b.F.length:=by
      unfold bo BS.F;rw[Ya,W4,Ya,Ya];omega
     rw[dl,Y8] at jm;refine hn _ _ ⟨x,o1,o2,rfl,?_⟩;obtain⟨jl,st,eJ,keep,obj,ja,me,len,new⟩:=jm;have iR:l.fc∉jl.fp:=λz=>by have:=new _ z;rw[ba.facts] at this;cases this
     refine⟨jl,st,eJ,λa u e n1 _=>?_,by rw[aP hV];exact obj,ja.rq fz (λus z=>nomatch z) (λus z=>nomatch z) iR (aw.put (aw.of (ai.refl _))),me,len,new⟩;by_cases z:a=l.fc
     ·subst z;rw[aU];rw[ba.facts] at e;exact e
     ·rw[aP z];exact keep a u e n1 z
  ·rintro σ H6 ⟨J,o1,o2,rfl,jm⟩;obtain⟨jl,st,eJ,keep,obj,ja,me,len,new⟩:=jm;refine⟨_,rfl,l.h,C,dx,_,_,rfl,obj,hc.cls,hc.gP,rfl,?_⟩;have k6:∀{a:Addr} {u:HO},H a=some u->a≠l.h->H6 a=some u:=λ{a u} e n=>keep a u e n n;have of:Out l.fp H H6:=λa u e n=>k6 e (λz=>n (by rw[z];simp[BL.fp,BL.own]));have tp:∀{a:Addr} {us:List V},H a=some (.tup us)->H6 a=some (.tup us):=λe=>of _ _ e (ba.tup e);have gr:dY l.fp ({l with rk:=.ref jl.J,d5:=jl.fp}:BL).fp H:=λa z=>by
    rcases Yu.mp (show a∈l.own++jl.fp from z) with y|y;·exact .inl (Yr _ y)
    ·exact .inr (new a y)
   have fD:∀a∈l.own,a∉jl.fp:=λa m z=>ba.there (Yr _ m) (new a z);subst eJ;refine q {l with rk:=.ref jl.J,d5:=jl.fp} jl st H6 ⟨rfl,of,gr⟩ ?_ rfl rfl ja me len fD;exact ba.build (l':={l with rk:=.ref jl.J,d5:=jl.fp}) (b':=b) rfl rfl rfl rfl rfl rfl rfl rfl rfl of gr ⟨dx,obj⟩ (k6 ba.cS (λz=>jw z.symm)) (k6 ba.places (λz=>c6 z.symm)) (k6 ba.facts (λz=>hV z.symm)) (L2.Paired.bI ba.fact λ_ _ e=>tp e) (k6 ba.known (λz=>k9 z.symm)) (k6 ba.parents (λz=>n5 z.symm)) (k6 ba.done (λz=>mn z.symm)) (L2.Paired.bI ba.jV λ_ _ e=>e.out of λa us e=>ba.tup e) (k6 ba.gT (λz=>n_ z.symm)) (L2.Paired.bI ba.lP λ_ _ e=>e.out of λa us e=>ba.tup e) (.at_ jl st rfl rfl ja me len fD)
end
def fF(z:Str)(c:Nat):Bool:=!(Builtin.Str.occurrences z ⟨#[c]⟩ 0 z.length 1).isEmpty
abbrev mS:Str:="abcdefghijklmnopqrstuvwxyz"
abbrev kC:Str:="abcdefghijklmnopqrstuvwxyz0123456789"
def qw(z:Str):Bool:=match z.cps.toList with
 |[]=>false
 |c::r=>decide (z.length<=12)&&(fF mS c&&(c::r).all (fF kC))
theorem ZfI(v:Str):v.cps.toList.length=v.length:=by simp[Str.length]
theorem Zcz{z:Str}(h:z.cps.toList=[]):z="":=by
 cases z with|mk a=>cases a with|mk l=>cases h;rfl
theorem Zbt(h:z.cps.toList=[]):qw z=false:=by unfold qw;rw[h]
theorem MJ(h:z.cps.toList=c::r):qw z=(decide (z.length<=12)&&(fF mS c&&(c::r).all (fF kC))):=by unfold qw;rw[h]
def NT:Sp:=λvs H Q _=>∃z:Str,vs=[.str z]/\z.length<=1000/\∀H',ai H H'->Q (.bl (qw z)) H'
section
theorem Zm:aQ ["text"] ["text"] (aL Ed):=⟨rfl,rfl,rfl,by decide+kernel,rfl,by decide+kernel,by decide+kernel⟩
theorem Zn(F:aM K "is_name" "is_name" Ed f fd){t1 t2 t3:Tok}(BE:mg "LONGEST_NAME"=some (.int 12 t1))(AJ:mg "LETTERS_OF_NAMES"=some (.str "abcdefghijklmnopqrstuvwxyz" t2))(A0:mg "SIGNS_OF_NAMES"=some (.str "abcdefghijklmnopqrstuvwxyz0123456789" t3))(bl:Bl mg):
  aG P w K mg base aN 1 f fd ["text"] NT:=by
 refine F.ok Zm (λvs H Q E h=>?_) (λaE A outer s H vs Q E hr h=>?_)
 ·obtain⟨z,rfl,_⟩:=h;rfl
 obtain⟨z,rfl,lz,q⟩:=h;refine⟨_,(aj (aS (PW.pt (pw_or (aZ cg (pv 0) bA (aR _)) (pw_or (aZ Gd (bJ (WW) rfl bl.cQ cP (aa (pv 0) ae)) (di (v:=.int (12)) rfl BE ⟨_,rfl⟩) (aR _)) (pw_or1 (aZ WT (a9 vv (pv 0) aI (λ_ _=>rfl)) (di (v:=.str "abcdefghijklmnopqrstuvwxyz") rfl AJ ⟨_,rfl⟩) (by with_unfolding_all rfl)))))) (aq (aF i_)) aY) (aq (aF (bJ (R7 (K:=K) rfl rfl) rfl bl.Ri P_ (aa (iH (x:="sign") (fr:=[]) (cl:=[]) rfl ⟨by with_unfolding_all rfl,trivial,rfl,by decide+kernel,rfl,by decide+kernel,rfl,trivial,by decide+kernel⟩ (ZdB (pv 0)) (λ_ _ _ _=>lH) (λ_ _ _ _=>(dF ZH (pv 0) (di (v:=.str "abcdefghijklmnopqrstuvwxyz0123456789") rfl A0 ⟨_,rfl⟩) (by with_unfolding_all rfl)))) ae))))),?_⟩;have sz:(10000:Nat)<=sizeLine:=by rw[sizeLine_eq];omega
 cases ez:z.cps.toList with
 |nil=>
  have e:=Zcz ez;rw[Zbt ez] at q;refine⟨_,rfl,rfl,_,rfl,bC (λ_=>?_) (λc=>absurd (decide_eq_true (by rw[e])) c)⟩;exact q H (ai.refl H)
 |cons c r=>
  have zl:=ZfI z;rw[ez,Wl] at zl;rw[MJ ez] at q;refine⟨_,rfl,rfl,_,rfl,bC (λcc=>?_) (λ_=>?_)⟩
  ·have e:z="":=V.str.inj (of_decide_eq_true cc);have e0:(Str.ofString "").cps.toList=[]:=by decide+kernel
   rw[e,e0] at ez;cases ez
  refine⟨_,rfl,z,rfl,by omega,_,_,rfl,rfl,_,rfl,bC (λcc=>?_) (λcc=>?_)⟩
  ·have Uj:(12:Int)<(z.length:Int):=of_decide_eq_true cc;rw[decide_eq_false (by omega:¬z.length<=12)] at q;exact q H (ai.refl H)
  have z_:z.length<=12:=by
   grind
  rw[decide_eq_true z_,Jr] at q;refine⟨_,rfl,_,_,_,rfl,rfl,by omega,gq (j:=0) (by rw[ez];rfl),_,_,rfl,rfl,_,rfl,bC (λcc=>?_) (λcc=>aX ?_)⟩
  ·have Uj:fF mS c=false:=by
    have z:(!fF mS c)=true:=cc;cases e:fF mS c;·rfl
    ·rw[e] at z;cases z
   rw[Uj,Bool.false_and] at q;exact q H (ai.refl H)
  have cl:fF mS c=true:=by
   cases e:fF mS c;·exact absurd (show(!fF mS c)=true by rw[e];rfl) cc
   ·rfl
  rw[cl,Jr,←ez] at q;refine⟨_,rfl,z,rfl,λD hD=>Z0 (by omega) hD (λc=>V.bl (fF kC c)) (λi c hi H1 g1 Kt k=>?_) λH1 g1 h1=>?_⟩;·exact⟨_,rfl,_,_,rfl,rfl,k H1 (ai.refl _)⟩
  ·refine⟨D,z.cps.toList.map (fF kC),rfl,ak.of (by rw[h1,Wc];rfl),?_⟩;rw[Il];exact q H1 g1
end
theorem du.more(h:du n m c)(l:m<=m'):du n m' c:=⟨by have:=h.one;omega,λns=>by obtain⟨⟨a,b⟩,d⟩:=h.gf ns;exact⟨⟨a,by omega⟩,d⟩⟩
theorem dM.more(h:dM xs ys m c)(l:m<=m'):dM xs ys m' c:=⟨h.ok.more l,h.kind,h.G5⟩
theorem Zd4{f g:Nat->Int}(ok:du n m c)(e:∀i,i<m->g i=f i)(s:eK f c):eK g c:=⟨λh=>by rw[e _ ok.one];exact s.1 h,λh=>by rw[e _ ok.one,e _ (ok.gf h).1.2];exact s.2 h⟩
section
variable {xs ys:List Int}{b:BS}
theorem cD.ZfJ(ok:cD xs ys b)(new:n∉b.ps.map (·.1))(lim:b.ps.length<64)(hc:b.co<=co)(dl:dn.length<=200)(ul:un.length<=200):cD xs ys {b with ps:=b.ps++[(n,s)],co:=co,dn:=dn,un:=un}:=by
 have qK:=λp hp=>(ok.fg p hp).ok;have len:(b.ps++[(n,s)]).length=b.ps.length+1:=by rw[Yl];rfl
 refine⟨ok.gd,?_,by show(b.ps++[(n,s)]).length<=64;omega,ok.fl,λp hp=>?_,ok.zs,λp hp=>Y0 (ok.lt p hp) hc,?_,?_,?_,dl,ul⟩
 ·show((b.ps++[(n,s)]).map (·.1)).Nodup;rw[Ym];refine Ww.mpr ⟨ok.nm,by simp,λu hu v hv z=>?_⟩
  grind
 ·show dM xs ys (b.ps++[(n,s)]).length p.2;rw[len];exact(ok.fg p hp).more (Hn _)
 ·show(b.fs.map λp=>eT (b.ps++[(n,s)]) p.2).Nodup;rw[(Wo λp hp=>by rw[O2 (qK p hp)])];exact ok.ky
 ·show((cj (b.ps++[(n,s)]) b.fs).map (·.1)).Nodup;rw[O3 qK];exact ok.pr
 ·obtain⟨f,i0,s0⟩:=ok.lv;refine⟨λi=>if i<b.ps.length then f i else 0,λi hi=>?_,λc m=>?_⟩
  ·show 0<=(if i<b.ps.length then f i else 0)/\(if i<b.ps.length then f i else 0)<(xs.length:Int);by_cases h:i<b.ps.length;·rw[if_pos h];exact i0 i h
   ·rw[if_neg h];have:=ok.gd.2.2.2.1
    grind
  ·obtain⟨p,hp,rfl⟩:=Yf.mp m;exact Zd4 (qK p hp) (λi hi=>if_pos hi) (s0 _ m)
theorem cD.ZfK(ok:cD xs ys b)(fg:dM xs ys b.ps.length c)(nz:z∉b.fs.map (·.1))(nk:eT b.ps c∉b.keys)(np:cH c.k=true->[.inr c.k,.inr (au b.ps c.one)]∉(cj b.ps b.fs).map (·.1))(lv:∃f,j_ xs.length b.ps.length f/\∀c'∈b.F++[c],eK f c')(lim:b.fs.length<63)(hc:b.co<=co)(hz:z<co)(dl:dn.length<=200)(ul:un.length<=200):cD xs ys {b with fs:=b.fs++[(z,c)],co:=co,dn:=dn,un:=un}:=by
 have snoc:∀{α:Type} {l:List α} {x:α},l.Nodup->x∉l->(l++[x]).Nodup:=λ{α l x} h1 h2=>Ww.mpr ⟨h1,by simp,λu hu v hv e=>by
  have:v=x:=by simpa using hv
  exact h2 (by rw[←this,←e];exact hu)⟩
 refine⟨ok.gd,ok.nm,ok.m,by show(b.fs++[(z,c)]).length<=63;rw[Yl];exact lim,λp hp=>?_,?_,λp hp=>?_,?_,?_,?_,dl,ul⟩
 ·rcases Yu.mp hp with hp|hp;·exact ok.fg p hp
  ·rw[Yo.mp hp];exact fg
 ·show((b.fs++[(z,c)]).map (·.1)).Nodup;rw[Ym];exact snoc ok.zs nz
 ·rcases Yu.mp hp with hp|hp;·exact Y0 (ok.lt p hp) hc
  ·rw[Yo.mp hp];exact hz
 ·show((b.fs++[(z,c)]).map λp=>eT b.ps p.2).Nodup;rw[Ym];exact snoc ok.ky nk
 ·show((cj b.ps (b.fs++[(z,c)])).map (·.1)).Nodup;cases e:cH c.k with
  |true=>rw[NN e,Ym];exact snoc ok.pr (np e)
  |false=>rw[NO e];exact ok.pr
 ·obtain⟨f,i0,s0⟩:=lv;refine⟨f,i0,λc' m=>s0 c' ?_⟩;have m':c'∈(b.fs++[(z,c)]).map (·.2):=m;rw[Ym] at m';exact m'
theorem cD.drop(ok:cD xs ys b)(z:Nat)(hc:b.co<=co)(dl:dn.length<=200)(ul:un.length<=200):cD xs ys {b with fs:=cN z b.fs,co:=co,dn:=dn,un:=un}:=by
 have sub:(cN z b.fs).Sublist b.fs:=List.filter_sublist;refine⟨ok.gd,ok.nm,ok.m,Y4 sub.length_le ok.fl,λp hp=>ok.fg p (sub.subset hp),ok.zs.sublist (sub.map _),λp hp=>Y0 (ok.lt p (sub.subset hp)) hc,ok.ky.sublist (sub.map _),?_,?_,dl,ul⟩
 ·show((cj b.ps (cN z b.fs)).map (·.1)).Nodup;refine ok.pr.sublist ?_;unfold cj
  grind
 ·obtain⟨f,i0,s0⟩:=ok.lv;exact⟨f,i0,λc m=>s0 c ((sub.map _).subset m)⟩
end
def BS.Gr(b:BS)(n s:Str):BS:={b with ps:=b.ps++[(n,s)],co:=b.co,dn:=b.dn++[⟨1,[.inr n,.inr s],b.co,b.co⟩],un:=[]}
def BS.vO(b:BS)(c:Fc):BS:={b with fs:=b.fs++[(b.co,c)],co:=b.co+1,dn:=b.dn++[⟨1,dQ b.ps b.co c,b.co,b.co+1⟩],un:=[]}
def BS.without(b:BS)(z:Nat)(c:Fc):BS:={b with fs:=cN z b.fs,co:=b.co,dn:=b.dn++[⟨-1,dQ b.ps z c,b.co,b.co⟩],un:=[]}
def F2(s:Str):Bool:=eO (.str s) [.str "man",.str "woman"]
structure G6(b:BS)(n s:Str):Prop where
 ZfL:qw n=true
 side:F2 s=true
 new:n∉b.ps.map (·.1)
 lim:b.ps.length<64
 nl:n.length<=1000
structure y9(xs ys:List Int)(b:BS)(c:Fc):Prop where
 fg:dM xs ys b.ps.length c
 nk:eT b.ps c∉b.keys
 np:cH c.k=true->[.inr c.k,.inr (au b.ps c.one)]∉(cj b.ps b.fs).map (·.1)
 lv:∃f,j_ xs.length b.ps.length f/\∀c'∈b.F++[c],eK f c'
 lim:b.fs.length<63
inductive MK(C CL CJ:Addr)(vs:List V)(H:Hp)(Q:VK):Prop
 |mk (l:BL) (b:BS) (xs ys:List Int) (n s:Str) (aC:vs=[.ref l.h,.str n,.str s]) (ba:bw H C CL CJ l xs ys b) (np:G6 b n s) (q:∀H',ai H H'->Q .aA H'):MK C CL CJ vs H Q
def NU(C CL CJ:Addr):Sp:=λvs H Q _=>MK C CL CJ vs H Q
inductive ML(C CL CJ:Addr)(vs:List V)(H:Hp)(Q:VK):Prop
 |mk (l:BL) (b:BS) (xs ys:List Int) (n s:Str) (aC:vs=[.ref l.h,.str n,.str s]) (ba:bw H C CL CJ l xs ys b) (ok:cD xs ys b) (np:G6 b n s) (dl:b.dn.length<200) (q:∀(l':BL) (H':Hp),bX H H' l l'->bw H' C CL CJ l' xs ys (b.Gr n s)->Q .aA H'):ML C CL CJ vs H Q
def NV(C CL CJ:Addr):Sp:=λvs H Q _=>ML C CL CJ vs H Q
inductive O8(C CL CJ:Addr)(vs:List V)(H:Hp)(Q:VK):Prop
 |mk (l:BL) (b:BS) (xs ys:List Int) (fa:Addr) (c:Fc) (aC:vs=[.ref l.h,.ref fa]) (ba:bw H C CL CJ l xs ys b) (ok:cD xs ys b) (hf:d9 H b.ps fa (b.co,c)) (nf:y9 xs ys b c) (dl:b.dn.length<200) (q:∀(l':BL) (H':Hp),bX H H' l l'->bw H' C CL CJ l' xs ys (b.vO c)->Q (.int (b.co:Int)) H'):O8 C CL CJ vs H Q
def F3(C CL CJ:Addr):Sp:=λvs H Q _=>O8 C CL CJ vs H Q
inductive O9(C CL CJ:Addr)(vs:List V)(H:Hp)(Q:VK):Prop
 |mk (l:BL) (b:BS) (xs ys:List Int) (z:Nat) (c:Fc) (aC:vs=[.ref l.h,.int (z:Int)]) (ba:bw H C CL CJ l xs ys b) (ok:cD xs ys b) (m:(z,c)∈b.fs) (dl:b.dn.length<200) (q:∀(l':BL) (H':Hp),bX H H' l l'->bw H' C CL CJ l' xs ys (b.without z c)->Q .aA H'):O9 C CL CJ vs H Q
def QI(C CL CJ:Addr):Sp:=λvs H Q _=>O9 C CL CJ vs H Q
inductive NW(C CL CJ:Addr)(vs:List V)(H:Hp)(Q:VK):Prop
 |mk (x dx L:Addr) (xs ys:List Int) (aC:vs=[.ref x,.ref L]) (hx:H x=some (.ins C dx [])) (la:gS H CL L xs ys) (q:∀(l:BL) (H':Hp),l.h=x->(∀a∈l.fp,a≠x->H a=none)->aw x H H'->bw H' C CL CJ l xs ys ⟨[],[],0,[],[]⟩->Q .aA H'):NW C CL CJ vs H Q
def O_(C CL CJ:Addr):Sp:=λvs H Q _=>NW C CL CJ vs H Q
theorem gS.free(la:gS H CL L xs ys)(hf:∀a∈fp,H a=none\/∃C dx,H a=some (.ins C dx []))(o:Out fp H H'):gS H' CL L xs ys:=by
 obtain⟨dx,d,m,f,w,im,jf,iw,st,h1,h2,h3,h4,h5,h6,h7,h8,h9⟩:=la;have k:∀{a:Addr} {u:HO},H a=some u->(∀C dx,u≠.ins C dx [])->H' a=some u:=λ{a u} e n=>o _ _ e λz=>by
  grind
 exact⟨dx,d,m,f,w,im,jf,iw,st,k h1 (λ_ _ z=>by cases z),k h2 (λ_ _ z=>by cases z),k h3 (λ_ _ z=>by cases z),k h4 (λ_ _ z=>by cases z),k h5 (λ_ _ z=>by cases z),k h6 (λ_ _ z=>by cases z),k h7 (λ_ _ z=>by cases z),k h8 (λ_ _ z=>by cases z),k h9 (λ_ _ z=>by cases z)⟩
section
theorem VE:aQ ["hearth","name","side"] ["hearth","name","side"] (aL Bv):=⟨rfl,rfl,rfl,by decide+kernel,rfl,by decide+kernel,by decide+kernel⟩
theorem VF(F:aM K "check_person" "check_person" Bv f fd)(Ej:HasFn P w K mg base 1 "is_name" ["text"] NT)(qx:mg "MAN"=some (.str "man" t1))(qf:mg "WOMAN"=some (.str "woman" t2))(Bi:cA P w K mg base 1 "people" C ["self"] (NL C CL CJ)):aG P w K mg base aN 2 f fd ["hearth","name","side"] (NU C CL CJ):=by
 refine F.ok VE (λvs H Q E h=>?_) (λaE A outer s H vs Q E hr h=>?_)
 ·obtain⟨l,b,xs,ys,n,s,rfl,_⟩:=h;rfl
 obtain⟨l,b,xs,ys,n,s,rfl,ba,np,q⟩:=h;refine⟨_,(aj (aS (PW.pt (pw_or (i8 (eN (aT Ej hr (by omega) rfl (aa (pv 1) ae)))) (pw_or1 (aZ (yC (K:=K) rfl) (pv 2) (dv (aa (di (v:=.str "man") rfl qx ⟨_,rfl⟩) (aa (di (v:=.str "woman") rfl qf ⟨_,rfl⟩) ae))) (by with_unfolding_all rfl))))) fH aY) (aq (aS (aZ (kW (K:=K) rfl) (pv 1) (sV Bi hr (by omega) (pv 0)) (by with_unfolding_all rfl)) fH aY))),?_⟩;have sz:(10000:Nat)<=sizeLine:=by rw[sizeLine_eq];omega
 refine⟨_,rfl,n,rfl,np.nl,λH1 g1=>⟨_,rfl,?_⟩⟩;rw[np.ZfL];refine bY ?_;refine⟨_,rfl,by show 2<=sizeLine;omega,λp H2 wV g2 hp=>⟨p,_,rfl,.inr (ay.of hp),rfl,rfl,_,rfl,?_⟩⟩;have so:eO (.str s) [.str "man",.str "woman"]=true:=np.side;dsimp only;rw[if_pos rfl,so];refine bY (aX ?_);have g:=g1.trans g2;have uo:=ba.same g;obtain⟨dx,h1⟩:=uo.obj;refine⟨_,rfl,_,rfl,l.h,dx,_,rfl,h1,rfl,l,b,xs,ys,rfl,uo,λp2 H3 np3 g3 dB=>?_⟩;have fl:(b.ps.map λp=>V.str p.1).all ij=true:=by
  rw[Il,Wn];intro p _;rfl
 refine⟨p2,_,rfl,.inl (ak.of dB),rfl,fl,_,rfl,?_⟩;try dsimp only
 have no:eO (.str n) (b.ps.map λp=>V.str p.1)=false:=by
  unfold eO;rw[List.any_map,J9];intro p hp z;have z':(p.1==n)=true:=z;exact np.new (by rw[←eq_of_beq z'];exact Yf.mpr ⟨p,hp,rfl⟩)
 rw[if_neg Yi,no];exact bY (aX (q H3 (g.trans g3)))
theorem Vu:aQ ["self","name","side"] ["self","name","side"] (aL Ba):=⟨rfl,rfl,rfl,by decide+kernel,rfl,by decide+kernel,by decide+kernel⟩
theorem Zak(F:aM K "person" "Hearth.person" Ba f fd)(hc:fI K C)(mQ:mg "PUT_IN"=some (.int 1 t1))(BG:HasFn P w K mg base 2 "check_person" ["hearth","name","side"] (NU C CL CJ))(mH:cA P w K mg base 10 "do_deed" C ["self","way","row","coming"] (ye C CL CJ)):aG P w K mg base aN 11 f fd ["self","name","side"] (NV C CL CJ):=by
 refine F.ok Vu (λvs H Q E h=>?_) (λaE A outer s H vs Q E hr h=>?_)
 ·obtain⟨l,b,xs,ys,n,s,rfl,_⟩:=h;rfl
 obtain⟨l,b,xs,ys,n,s,rfl,ba,ok,np,dl,q⟩:=h;refine⟨_,(aj (cz (aT BG hr (by omega) rfl (aa (pv 0) (aa (pv 1) (aa (pv 2) ae))))) (aq (cz (cJ mH hr (by omega) (pv 0) (aa (di (v:=.int (1)) rfl mQ ⟨_,rfl⟩) (aa (dv (aa (pv 1) (aa (pv 2) ae))) (aa (aW (K:=K) rfl (pv 0) rfl) ae))))))),?_⟩;refine⟨_,rfl,_,rfl,_,rfl,l,b,xs,ys,n,s,rfl,ba,np,λH1 g1=>?_⟩;have cO:=ba.same g1;obtain⟨dx,h1⟩:=cO.obj;refine⟨_,rfl,l.h,dx,_,rfl,h1,rfl,_,rfl,_,rfl,by show 2<=sizeLine;decide,λr H2 nr g2 hR=>?_⟩;refine⟨_,rfl,l.h,C,dx,_,_,rfl,g2 _ _ h1,hc.cls,hc.oE,rfl,l,b,_,xs,ys,r,1,b.co,[.inr n,.inr s],rfl,cO.same g2,ok,dl,hR,.pin n s hR np.new np.lim,λl' H3 wt ka=>?_⟩;exact q l' H3 (bX.after (g1.trans g2) wt) ka
theorem uJ:aQ ["self","fact","number","kind","one","other"] ["self","fact"] (aL B7):=⟨rfl,rfl,rfl,by decide+kernel,rfl,by decide+kernel,by decide+kernel⟩
theorem ZcA(F:aM K "keep" "Hearth.keep" B7 f fd)(hc:fI K C)(mQ:mg "PUT_IN"=some (.int 1 t1))(Dj:HasFn P w K mg base 5 "fact_fits" ["joins","land","places","fact"] (QE CL CJ))(rL:cA P w K mg base 8 "joins" C ["self"] (Fp C CL CJ))(mH:cA P w K mg base 10 "do_deed" C ["self","way","row","coming"] (ye C CL CJ)):aG P w K mg base aN 11 f fd ["self","fact"] (F3 C CL CJ):=by
 refine F.ok uJ (λvs H Q E h=>?_) (λaE A outer s H vs Q E hr h=>?_)
 ·obtain⟨l,b,xs,ys,fa,c,rfl,_⟩:=h;rfl
 obtain⟨l,b,xs,ys,fa,c,rfl,ba,ok,hf,nf,dl,q⟩:=h;refine⟨_,(aj (mY (pv 1) (ic (K:=K) (n:=4) rfl rfl (bW (bj (i:=2) uJ.nd rfl (Or.inl rfl)) (bW (bj (i:=3) uJ.nd rfl (Or.inl rfl)) (bW (bj (i:=4) uJ.nd rfl (Or.inl rfl)) (bW (bj (i:=5) uJ.nd rfl (Or.inl rfl)) ib)))))) (aj (aS (i8 (eN (aT Dj hr (by omega) rfl (aa (sV rL hr (by omega) (pv 0)) (aa (aW (K:=K) rfl (pv 0) rfl) (aa (aW (K:=K) rfl (pv 0) rfl) (aa (pv 1) ae))))))) fH aY) (aj (cz (cJ mH hr (by omega) (pv 0) (aa (di (v:=.int (1)) rfl mQ ⟨_,rfl⟩) (aa (pv 1) (aa (a_ gQ (pv 2) aI) ae))))) (aq (aF (pv 2)))))),?_⟩;obtain⟨dx,h1⟩:=ba.obj;refine⟨_,rfl,fa,_,rfl,ay.of hf,rfl,_,_,rfl,bu ⟨_,_,rfl,bu ⟨_,_,rfl,bu ⟨_,_,rfl,bu ⟨rfl,?_⟩⟩⟩⟩⟩;refine⟨_,rfl,l.h,dx,_,rfl,h1,rfl,l,b,xs,ys,rfl,ba,ok,λl1 jl st H1 wt cO r1 r2 ja me len fD=>?_⟩;obtain⟨uf,e1⟩:=cO.obj;have qW:H1 l.h=some (.ins C uf (HF l1.L l1.sd l1.pl l1.fc l1.kn l1.pr (b.co:Int) l1.dn l1.un l1.rk)):=by rw[←wt.h];exact e1
 have Uk:d9 H1 b.ps fa (b.co,c):=wt.out _ _ hf (ba.tup hf);have im:=ok.m;refine⟨_,rfl,l.h,C,uf,_,_,rfl,qW,hc.cls,hc.sX,rfl,_,rfl,l.h,C,uf,_,_,rfl,qW,hc.cls,hc.u9,rfl,_,rfl,jl,st,l1.L,l1.pl,fa,xs,ys,b.ps,b.F,b.co,c,rfl,ja,me,cO.landAt,ok.gd,cO.places,ok.nm,len,by omega,Uk,nf.fg,λ_ H2 g2=>?_,λno=>?_⟩
 ·refine⟨_,rfl,bY (aX ?_)⟩;have uo:=cO.same g2;have Ul:=g2 _ _ Uk;have nz:b.co∉b.fs.map (·.1):=λz=>by
   obtain⟨p,hp,e⟩:=Yf.mp z;have:=ok.lt p hp;omega
  refine⟨_,rfl,l.h,uf,_,rfl,g2 _ _ qW,rfl,_,rfl,_,rfl,_,_,rfl,rfl,l1,b,_,xs,ys,fa,1,b.co+1,dQ b.ps b.co c,?_,uo,ok,dl,Ul,.fin b.co c Ul nf.fg nz nf.nk nf.np nf.lv nf.lim,λl' H3 wt3 ka=>?_⟩;·rw[wt.h];rfl
  ·exact⟨_,rfl,q l' H3 ((wt.same g2).trans wt3) ka⟩
 ·obtain⟨f0,i0,s0⟩:=nf.lv;exact absurd (s0 c (Yq _ Yk)) (no f0 ((me.iff f0).mpr ⟨by rw[len];exact i0,λc' m'=>s0 c' (Yr _ m')⟩))
theorem VY:aQ ["self","number"] ["self","number"] (aL B8):=⟨rfl,rfl,rfl,by decide+kernel,rfl,by decide+kernel,by decide+kernel⟩
theorem ZcB(F:aM K "take" "Hearth.take" B8 f fd)(hc:fI K C)(Dk:mg "TAKEN_OUT"=some (.int (-1) t1))(mH:cA P w K mg base 10 "do_deed" C ["self","way","row","coming"] (ye C CL CJ)):aG P w K mg base aN 11 f fd ["self","number"] (QI C CL CJ):=by
 refine F.ok VY (λvs H Q E h=>?_) (λaE A outer s H vs Q E hr h=>?_)
 ·obtain⟨l,b,xs,ys,z,c,rfl,_⟩:=h;rfl
 obtain⟨l,b,xs,ys,z,c,rfl,ba,ok,m,dl,q⟩:=h;refine⟨_,(aj (aS (i6 (lD (bB hr) (pv 1) (aW (K:=K) rfl (pv 0) rfl)) (by with_unfolding_all rfl)) fH aY) (aq (cz (cJ mH hr (by omega) (pv 0) (aa (di (v:=.int (-1)) rfl Dk ⟨_,rfl⟩) (aa (c9 (bB hr) (aW (K:=K) rfl (pv 0) rfl) (pv 1) (λ_ _=>rfl)) (aa (aW (K:=K) rfl (pv 0) rfl) ae))))))),?_⟩;obtain⟨dx,h1⟩:=ba.obj;obtain⟨fa,z7,cM⟩:=O1 (H:=H) (ps:=b.ps) ba.fact ok.zs m;refine⟨_,rfl,_,rfl,l.h,C,dx,_,_,rfl,h1,hc.cls,hc.sP,rfl,l.fc,some (.ref fa),rfl,oN ba.facts z7,_,rfl,bY (aX ?_)⟩;refine⟨_,rfl,l.h,dx,_,rfl,h1,rfl,_,rfl,l.h,C,dx,_,_,rfl,h1,hc.cls,hc.sP,rfl,_,rfl,l.fc,.ref fa,rfl,oN ba.facts z7,_,rfl,l.h,C,dx,_,_,rfl,h1,hc.cls,hc.oE,rfl,l,b,_,xs,ys,fa,-1,b.co,dQ b.ps z c,rfl,ba,ok,dl,cM,.tN z c cM m,λl' H3 wt ka=>?_⟩;exact q l' H3 wt ka
theorem VZ:aQ ["self","land"] ["self","land"] (aL B6):=⟨rfl,rfl,rfl,by decide+kernel,rfl,by decide+kernel,by decide+kernel⟩
theorem Zbu(F:aM K "__init__" "Hearth.__init__" B6 f fd)(hc:fI K C):aG P w K mg base aN 1 f fd ["self","land"] (O_ C CL CJ):=by
 refine F.ok VZ (λvs H Q E h=>?_) (λaE A outer s H vs Q E hr h=>?_)
 ·obtain⟨x,dx,L,xs,ys,rfl,_⟩:=h;rfl
 obtain⟨x,dx,L,xs,ys,rfl,hx,la,q⟩:=h;refine⟨_,(aj (fS (K:=K) rfl (pv 0) (pv 1)) (aj (fS (K:=K) rfl (pv 0) oz) (aj (fS (K:=K) rfl (pv 0) oz) (aj (fS (K:=K) rfl (pv 0) oz) (aj (fS (K:=K) rfl (pv 0) Mh) (aj (fS (K:=K) rfl (pv 0) Mh) (aj (fS (K:=K) rfl (pv 0) aI) (aj (fS (K:=K) rfl (pv 0) (df ae)) (aj (fS (K:=K) rfl (pv 0) (df ae)) (aq (fS (K:=K) rfl (pv 0) kA))))))))))),?_⟩;refine⟨_,rfl,_,rfl,x,C,dx,[],rfl,hx,hc.cls,hc.sX,by show 0<1000;omega,λH1 b1 h1=>?_⟩;refine λsd H2 n2 g2 e2=>⟨_,rfl,x,C,dx,_,rfl,g2 _ _ h1,hc.cls,hc.qb,by show 1<1000;omega,λH3 b3 h3=>?_⟩;refine λpl H4 n4 g4 e4=>⟨_,rfl,x,C,dx,_,rfl,g4 _ _ h3,hc.cls,hc.u9,by show 2<1000;omega,λH5 b5 h5=>?_⟩;refine λfc H6 n6 g6 e6=>⟨_,rfl,x,C,dx,_,rfl,g6 _ _ h5,hc.cls,hc.sP,by show 3<1000;omega,λH7 b7 h7=>?_⟩;refine λkn H8 n8 g8 e8=>⟨_,rfl,x,C,dx,_,rfl,g8 _ _ h7,hc.cls,hc.yt,by show 4<1000;omega,λH9 b9 h9=>?_⟩;refine λpr nQ nR rA nW=>⟨_,rfl,x,C,dx,_,rfl,rA _ _ h9,hc.cls,hc.sv,by show 5<1000;omega,λwA rB h11=>?_⟩;refine⟨_,rfl,x,C,dx,_,rfl,h11,hc.cls,hc.oE,by show 6<1000;omega,λuq rC zB=>?_⟩;refine⟨by show 0<=sizeLine;exact Yw _,λdn zC pE eQ Um=>⟨_,rfl,x,C,dx,_,rfl,eQ _ _ zB,hc.cls,hc.QC,by show 7<1000;omega,λpq pF Uo=>?_⟩⟩;refine⟨by show 0<=sizeLine;exact Yw _,λun HZ kY Up e15=>⟨_,rfl,x,C,dx,_,rfl,Up _ _ Uo,hc.cls,hc.NI,by show 8<1000;omega,λTg b16 h16=>?_⟩⟩;refine⟨_,rfl,x,C,dx,_,rfl,h16,hc.cls,hc.gP,by show 9<1000;omega,λog b17 Uq=>?_⟩;rw[ZfB] at Uq;have Ur:aw x HZ og:=b16.trans b17;have Us:aw x zC og:=pF.trans ((aw.of Up).trans Ur);have Ut:aw x nQ og:=rB.trans (rC.trans ((aw.of eQ).trans Us));have j8:aw x H8 og:=b9.trans ((aw.of rA).trans Ut);have j6:aw x H6 og:=b7.trans ((aw.of g8).trans j8);have j4:aw x H4 og:=b5.trans ((aw.of g6).trans j6);have j2:aw x H2 og:=b3.trans ((aw.of g4).trans j4);have j0:aw x H og:=b1.trans ((aw.of g2).trans j2);have i3:aw x H H3:=b1.trans ((aw.of g2).trans b3);have i5:aw x H H5:=i3.trans ((aw.of g4).trans b5);have i7:aw x H H7:=i5.trans ((aw.of g6).trans b7);have i9:aw x H H9:=i7.trans ((aw.of g8).trans b9);have i12:aw x H uq:=i9.trans ((aw.of rA).trans (rB.trans rC));have i14:aw x H pq:=i12.trans ((aw.of eQ).trans pF);have fr:∀{a:Addr} {H':Hp},aw x H H'->a≠x->H' a=none->H a=none:=λ{a H'} k d n=>by
  cases e:H a with
  |none=>rfl
  |some o=>rw[k a o e d] at n;cases n
 have d2:sd≠x:=λz=>by rw[z,h1] at n2;cases n2
 have d4:pl≠x:=λz=>by rw[z,h3] at n4;cases n4
 have d6:fc≠x:=λz=>by rw[z,h5] at n6;cases n6
 have d8:kn≠x:=λz=>by rw[z,h7] at n8;cases n8
 have Aa:pr≠x:=λz=>by rw[z,h9] at nR;cases nR
 have IZ:dn≠x:=λz=>by rw[z,zB] at pE;cases pE
 have Uu:un≠x:=λz=>by rw[z,Uo] at kY;cases kY
 have ne:∀{a c:Addr} {Ha Hc:Hp} {o:HO},Ha a=some o->aw x Ha Hc->a≠x->Hc c=none->a≠c:=λ{a c Ha Hc o} e k d n z=>by rw[←z,k a o e d] at n;cases n
 have k24:aw x H2 H3:=b3;have Uv:aw x H2 H5:=b3.trans ((aw.of g4).trans b5);have Uw:aw x H2 H7:=Uv.trans ((aw.of g6).trans b7);have Sr:aw x H2 H9:=Uw.trans ((aw.of g8).trans b9);have Ss:aw x H2 uq:=Sr.trans ((aw.of rA).trans (rB.trans rC));have ZfM:aw x H2 pq:=Ss.trans ((aw.of eQ).trans pF);have Ux:aw x H4 H7:=b5.trans ((aw.of g6).trans b7);have Su:aw x H4 H9:=Ux.trans ((aw.of g8).trans b9);have Sv:aw x H4 uq:=Su.trans ((aw.of rA).trans (rB.trans rC));have ZfN:aw x H4 pq:=Sv.trans ((aw.of eQ).trans pF);have Sw:aw x H6 H9:=b7.trans ((aw.of g8).trans b9);have Sx:aw x H6 uq:=Sw.trans ((aw.of rA).trans (rB.trans rC));have ZfO:aw x H6 pq:=Sx.trans ((aw.of eQ).trans pF);have Sy:aw x H8 uq:=b9.trans ((aw.of rA).trans (rB.trans rC));have ZfP:aw x H8 pq:=Sy.trans ((aw.of eQ).trans pF);have Ry:aw x nQ uq:=rB.trans rC;have ZeO:aw x nQ pq:=Ry.trans ((aw.of eQ).trans pF);let l:BL:=⟨x,L,sd,pl,fc,kn,pr,dn,un,.aA,[],[],[],[]⟩;have Ab:∀a∈l.fp,a≠x->H a=none:=λa ha na=>by
  have pB:a∈[x,sd,pl,fc,kn,pr,dn,un]:=by
   have:l.fp=[x,sd,pl,fc,kn,pr,dn,un]:=rfl;rw[this] at ha;exact ha
  simp only[Yp,Y2,or_false] at pB;rcases pB with rfl|rfl|rfl|rfl|rfl|rfl|rfl|rfl;·exact absurd rfl na
  ·exact fr b1 na n2
  ·exact fr i3 na n4
  ·exact fr i5 na n6
  ·exact fr i7 na n8
  ·exact fr i9 na nR
  ·exact fr i12 na pE
  ·exact fr i14 na kY
 refine q l og rfl Ab j0 ⟨⟨dx,Uq⟩,λH' o=>?_,j2 _ _ e2 d2,j4 _ _ e4 d4,j6 _ _ e6 d6,.nil,j8 _ _ e8 d8,Ut _ _ nW Aa,Us _ _ Um IZ,.nil,Ur _ _ e15 Uu,.nil,.no rfl rfl,?_⟩
 ·refine la.free (fp:=l.fp) (λa ha=>?_) λa u e na=>o _ _ (j0 _ _ e λz=>na (by rw[z];exact Yk)) na;by_cases z:a=x;·rw[z];exact .inr ⟨C,dx,hx⟩
  ·exact .inl (Ab a ha z)
 ·show[x,sd,pl,fc,kn,pr,dn,un].Nodup;simp only[Y1,Yp,Y2,or_false,not_or,not_false_eq_true,W8,and_true];exact⟨⟨d2.symm,d4.symm,d6.symm,d8.symm,Aa.symm,IZ.symm,Uu.symm⟩,⟨ne e2 k24 d2 n4,ne e2 Uv d2 n6,ne e2 Uw d2 n8,ne e2 Sr d2 nR,ne e2 Ss d2 pE,ne e2 ZfM d2 kY⟩,⟨ne e4 b5 d4 n6,ne e4 Ux d4 n8,ne e4 Su d4 nR,ne e4 Sv d4 pE,ne e4 ZfN d4 kY⟩,⟨ne e6 b7 d6 n8,ne e6 Sw d6 nR,ne e6 Sx d6 pE,ne e6 ZfO d6 kY⟩,⟨ne e8 b9 d8 nR,ne e8 Sy d8 pE,ne e8 ZfP d8 kY⟩,⟨ne nW Ry Aa pE,ne nW ZeO Aa kY⟩,ne Um pF IZ kY⟩
end
def strOf:V->Str
 |.str s=>s
 |_=>""
def fK(b:BS)(a:Str):List Str:=(m7 b a).map strOf
inductive fG(b:BS)(a:Str):Str->Prop
 |refl:fG b a a
 |step {x y:Str}:fG b a x->y∈fK b x->fG b a y
theorem Pa(ok:cD xs ys b)(h:aO (cj b.ps b.fs) [.inr k,.inr a]=some v):∃p∈b.fs,cH p.2.k=true/\p.2.k=k/\au b.ps p.2.one=a/\v=.str (au b.ps p.2.aJ.toNat)/\p.2.aJ.toNat<b.ps.length:=by
 have m:([.inr k,.inr a],v)∈cj b.ps b.fs:=by
  unfold aO at h;cases ef:(cj b.ps b.fs).find? λkv=>decide (kv.1=[.inr k,.inr a]) with
  |none=>grind
  |some q=>grind
 obtain⟨p,hp,e⟩:=Yf.mp m;obtain⟨nU,dB⟩:=Y3.mp hp;injection e with e1 e2;injection e1 with e3 e4;injection e4 with e5 _;have ns:p.2.k≠bF:=λz=>by
  rw[z] at dB;exact absurd dB (by decide+kernel)
 refine⟨p,nU,dB,We e3,We e5,?_,((ok.fg p nU).ok.gf ns).1.2⟩;rw[←e2,ia ns];rfl
theorem LY(ok:cD xs ys b)(a:Str):m7 b a=(fK b a).map V.str/\(∀s∈fK b a,s∈b.ps.map (·.1))/\(fK b a).length<=2:=by
 have all:∀v∈m7 b a,∃s,v=.str s/\s∈b.ps.map (·.1):=λv hv=>by
  obtain⟨k,_,e⟩:=Je.mp hv;obtain⟨p,_,_,_,_,e2,l⟩:=Pa ok e;exact⟨_,e2,Fo l⟩
 refine⟨?_,λs hs=>?_,?_⟩
 ·unfold fK;rw[Wc];refine(List.map_id _).symm.trans (Wo λv hv=>?_);obtain⟨s,rfl,_⟩:=all v hv;rfl
 ·obtain⟨v,hv,rfl⟩:=Yf.mp hs;obtain⟨s,rfl,m⟩:=all v hv;exact m
 ·unfold fK m7
  grind
def gO(ks:List Str)(as:List Addr):List (Key×V):=(ks.zip as).map λp=>(.inr p.1,.ref p.2)
theorem NX:∀{ks:List Str} {as:List Addr},ks.length=as.length->(gO ks as).map (·.1)=ks.map Sum.inr
 |[],[],_=>rfl
 |k::ks,a::as,h=>by
  have e0:gO (k::ks) (a::as)=(Sum.inr k,V.ref a)::gO ks as:=rfl;rw[e0,Wp,NX (by simpa using h)];rfl
 |[],_::_,h=>rfl
 |_::_,[],h=>by simp at h
theorem NY:∀{ks:List Str} {as:List Addr} (k:Str) (a:Addr),ks.length=as.length->gO ks as++[(.inr k,.ref a)]=gO (ks++[k]) (as++[a])
 |[],[],_,_,_=>rfl
 |q::ks,c::as,k,a,h=>by
  have e0:gO (q::ks) (c::as)=(Sum.inr q,V.ref c)::gO ks as:=rfl;rw[e0,Td,NY k a (by simpa using h)];rfl
 |[],_::_,_,_,h=>by simp at h
 |_::_,[],_,_,h=>by simp at h
theorem Fs:∀{ks:List Str} {as:List Addr} {k:Str},ks.length=as.length->k∈ks->∃a∈as,aO (gO ks as) (.inr k)=some (.ref a)
 |[],_,_,_,h=>by cases h
 |q::ks,c::as,k,hl,h=>by
  have e0:gO (q::ks) (c::as)=(Sum.inr q,V.ref c)::gO ks as:=rfl;rw[e0];by_cases e:q=k;·exact⟨c,Yk,e_ (by rw[e])⟩
  ·rcases Yp.mp h with h|h;·grind
   ·obtain⟨a,m,v⟩:=Fs (by simpa using hl) h;exact⟨a,Yx _ m,by rw[eM (λz=>e (We z))];exact v⟩
 |_::_,[],_,h,_=>by simp at h
theorem ET(hl:ks.length=as.length)(h:k∉ks):aO (gO ks as) (.inr k)=none:=pT (by
 rw[NX hl];intro z;obtain⟨q,hq,e⟩:=Yf.mp z;exact h (by rw[←We e];exact hq))
structure oX(H H6:Hp)(ln:Addr)(ks:List Str)(as:List Addr):Prop where
 same:ai H H6
 at_:H6 ln=some (.dK (gO ks as))
 len:ks.length=as.length
 lst:∀a∈as,∃us:List V,H6 a=some (.lst us)/\us.length<=ks.length/\a≠ln
 nd:ks.Nodup
theorem Ek{xs ys:List Int}{b:BS}(ok:cD xs ys b){ks:List Str}(nd:ks.Nodup)(sub:∀k∈ks,k∈b.ps.map (·.1)):ks.length<=b.ps.length:=by
 have:=nd.length_le_of_subset sub
 grind
theorem yf(ok:cD xs ys b)(ma:a∈b.ps.map (·.1))(h:fG b a z):z∈b.ps.map (·.1):=by
 cases h with
 |refl=>exact ma
 |step _ m=>exact(LY ok _).2.1 _ m
inductive NZ(C CL CJ:Addr)(vs:List V)(H:Hp)(Q:VK):Prop
 |mk (l:BL) (b:BS) (xs ys:List Int) (a:Str) (aC:vs=[.ref l.h,.str a]) (ba:bw H C CL CJ l xs ys b) (ok:cD xs ys b) (ma:a∈b.ps.map (·.1)) (q:∀(p:Addr) (ks:List Str) (as:List Addr) (H':Hp),oX H H' p ks as->(∀z,z∈ks↔fG b a z)->Q (.ref p) H'):NZ C CL CJ vs H Q
def Pb(C CL CJ:Addr):Sp:=λvs H Q _=>NZ C CL CJ vs H Q
def v9(ln:Addr)(N:Nat):St->Hp->Nat:=λσ H=>(match H ln with|some (.dK kvs)=>2*(N-kvs.length)|_=>0)+(match List.getD (α:=Option V) σ 3 none with|some (V.ref nw)=>(match H nw with|some (.lst (_::_))=>1|_=>0)|_=>0)
inductive Uy(H:Hp)(b:BS)(a:Str)(h ln:Addr)(σ:St)(H6:Hp):Prop
 |mk (ks ns:List Str) (as:List Addr) (nw:Addr) (o4 o5 o6:Option V) (la:oX H H6 ln ks as) (hn:H6 nw=some (.lst (ns.map V.str))) (nn:nw≠ln) (sub:∀k∈ns,k∈ks) (cl:∀k∈ks,k∉ns->∀p∈fK b k,p∈ks) (sd:∀k∈ks,fG b a k) (ma:a∈ks) (q0:ns.length<=64) (e:σ=[some (.ref h),some (.str a),some (.ref ln),some (.ref nw),o4,o5,o6]):Uy H b a h ln σ H6
inductive I0(H:Hp)(b:BS)(a:Str)(h ln nw fu:Addr)(pG ns:List Str)(j:Nat)(σ:St)(H6:Hp):Prop
 |mk (ks fs:List Str) (as:List Addr) (o5 o6:Option V) (la:oX H H6 ln ks as) (hn:H6 nw=some (.lst (ns.map V.str))) (hf:H6 fu=some (.lst (fs.map V.str))) (nn:nw≠ln/\fu≠ln/\fu≠nw) (af:fu∉as) (ek:ks=pG++fs) (cl:∀k∈ns.take j,∀p∈fK b k,p∈ks) (sd:∀k∈ks,fG b a k) (e:σ=[some (.ref h),some (.str a),some (.ref ln),some (.ref nw),some (.ref fu),o5,o6]):I0 H b a h ln nw fu pG ns j σ H6
inductive Uz(H:Hp)(b:BS)(a:Str)(h ln nw fu:Addr)(pG ns:List Str)(j:Nat)(one:Str)(pl:Addr)(i:Nat)(σ:St)(H6:Hp):Prop
 |mk (ks fs:List Str) (as:List Addr) (o6:Option V) (la:oX H H6 ln ks as) (hn:H6 nw=some (.lst (ns.map V.str))) (hf:H6 fu=some (.lst (fs.map V.str))) (hp:H6 pl=some (.lst ((fK b one).map V.str))) (nn:nw≠ln/\fu≠ln/\fu≠nw/\pl≠ln/\pl≠fu) (af:fu∉as) (ek:ks=pG++fs) (cl:∀k∈ns.take j,∀p∈fK b k,p∈ks) (cp:∀p∈(fK b one).take i,p∈ks) (sd:∀k∈ks,fG b a k) (e:σ=[some (.ref h),some (.str a),some (.ref ln),some (.ref nw),some (.ref fu),some (.str one),o6]):Uz H b a h ln nw fu pG ns j one pl i σ H6
section
theorem pW:aQ ["hearth","name","lines","newest","further","one","parent"] ["hearth","name"] (aL DC):=⟨rfl,rfl,rfl,by decide+kernel,rfl,by decide+kernel,by decide+kernel⟩
theorem X0(F:aM K "lines_up" "lines_up" DC f fd)(AD:cA P w K mg base 1 "parents_of" C ["self","name"] (Lp C CL CJ)):aG P w K mg base aN 2 f fd ["hearth","name"] (Pb C CL CJ):=by
 refine F.ok pW (λvs H Q E h=>?_) (λaE A outer s H vs Q E hr h=>?_)
 ·obtain⟨l,b,xs,ys,a,rfl,_⟩:=h;rfl
 obtain⟨l,b,xs,ys,a,rfl,ba,ok,ma,q⟩:=h;refine⟨_,(aj (bg (i:=2) pW.nd rfl (Or.inl rfl) (yo (iW (pv 1) (df (aa (pv 1) ae)) yn) rfl rfl (λz=>nomatch z) (Jg rfl))) (aj (bg (i:=3) pW.nd rfl (Or.inl rfl) (df (aa (pv 1) ae))) (aj (EC PassesOwn.never (Mq (K:=K) rfl (MX (pv 3) (λ_=>rfl))) (aj (bg (i:=4) pW.nd rfl (Or.inl rfl) (df ae)) (aj (fT PassesOwn.never rfl (fR (K:=K) rfl (pv 3)) (bj (i:=5) pW.nd rfl (Or.inl rfl)) (aq (fT PassesOwn.never rfl (fR (K:=K) rfl (cJ AD hr (by omega) (pv 0) (aa (pv 5) ae))) (bj (i:=6) pW.nd rfl (Or.inl rfl)) (aq (aS (i6 (lD (bB hr) (pv 6) (pv 2)) (by with_unfolding_all rfl)) (aj (lG (bB hr) (pv 2) (pv 6) (a_ yp (c9 (bB hr) (pv 2) (pv 5) (λ_ _=>rfl)) (df (aa (pv 6) ae)))) (aq (cz (m6 (K:=K) rfl (jO plainAttrs_list PySem.F.slot_list_append PySem.F.type_list_append ot (pv 4) (aa (pv 6) ae)))))) aY))))) (aq (bg (i:=3) pW.nd rfl (Or.inl rfl) (pv 4)))))) (aq (aF (pv 2)))))),?_⟩;have sz:(10000:Nat)<=sizeLine:=by rw[sizeLine_eq];omega
 have im:=ok.m;refine cy ?_;refine λln UA=>⟨_,rfl,_,rfl,by show 1<=sizeLine;omega,λll H0 UB g0 hll=>?_⟩;refine⟨g0 _ _ aU,[(.inr a,.ref ll)],rfl,(by show 1<=15;omega),?_⟩;obtain⟨H1,pH⟩:∃H1,H1=upd H0 ln (.dK (m5 [] [(.inr a,.ref ll)])):=⟨_,rfl⟩;rw[←pH];have UC:ll≠ln:=λz=>by rw[z,aU] at UB;cases UB
 have g1:ai H H1:=λc o e=>by
  have nc:=ck e UA;rw[pH,aP nc];exact g0 _ _ (by rw[aP nc];exact e)
 have UD:oX H H1 ln [a] [ll]:=⟨g1,by rw[pH,aU];rfl,rfl,λc hc=>by
  rw[Yo.mp hc];exact⟨[.str a],by rw[pH,aP UC];exact hll,Yd _,UC⟩,by simp⟩
 refine cy ?_;refine⟨_,rfl,by show 1<=sizeLine;omega,λnw H2 UE g2 hnw=>?_⟩;have UG:nw≠ln:=λz=>by rw[z,UD.at_] at UE;cases UE
 have Gs:∀{Ha Hb:Hp} {ks:List Str} {as:List Addr},oX H Ha ln ks as->ai Ha Hb->oX H Hb ln ks as:=λla g=>⟨la.same.trans g,g _ _ la.at_,la.len,λc hc=>by obtain⟨us,e,z,n⟩:=la.lst c hc;exact⟨us,g _ _ e,z,n⟩,la.nd⟩;refine gu (λσ H6=>∃ks as,oX H H6 ln ks as/\(∀z,z∈ks↔fG b a z)/\∃o3 o4 o5 o6:Option V,σ=[some (.ref l.h),some (.str a),some (.ref ln),o3,o4,o5,o6]) (λl_ eS=>?_) ?_
 ·refine ED (Uy H b a l.h ln) (v9 ln 100) ⟨[a],[a],[ll],nw,none,none,none,Gs UD g2,hnw,UG,λ_ h=>h,λk hk no=>absurd hk no,λk hk=>by rw[Yo.mp hk];exact .refl,Yk,by show 1<=64;omega,rfl⟩ ?_ ?_
  ·rintro σ H6 ⟨ks,ns,as,nw,o4,o5,o6,la,hn,nn,sub,cl,sd,UH,q0,rfl⟩;have kf:ks.length<=64:=Y4 (Ek ok la.nd λk hk=>yf ok ma (sd k hk)) im;refine⟨_,rfl,_,.inl ⟨_,ak.of hn,rfl⟩,?_⟩;refine bC (λc=>?_) (λc=>?_)
   ·have ZfQ:ns≠[]:=λz=>by rw[z] at c;cases c
    have mu0:v9 ln 100 [some (.ref l.h),some (.str a),some (.ref ln),some (.ref nw),o4,o5,o6] H6=2*(100-ks.length)+1:=by
     unfold v9;have kl:(gO ks as).length=ks.length:=by unfold gO;rw[Ya,W4];have:=la.len;omega
     have g3:List.getD (α:=Option V) [some (.ref l.h),some (.str a),some (.ref ln),some (.ref nw),o4,o5,o6] 3 none=some (.ref nw):=rfl;rw[la.at_,g3];dsimp only;rw[hn,kl];cases ns with
     |nil=>exact absurd rfl ZfQ
     |cons x r=>rfl
    refine cy ?_;refine⟨by show 0<=sizeLine;exact Yw _,λfu H7 ur g7 hfu=>?_⟩;have wR:=Gs la g7;have fln:fu≠ln:=λz=>by rw[z,la.at_] at ur;cases ur
    have fnw:fu≠nw:=λz=>by rw[z,hn] at ur;cases ur
    refine gu (I0 H b a l.h ln nw fu ks ns ns.length) (λz9 mw=>?_) ?_
    ·refine⟨_,rfl,nw,rfl,⟨_,ak.of (g7 _ _ hn)⟩,jH (K:=K) (a:=nw) (xs:=ns.map V.str) (I0 H b a l.h ln nw fu ks ns) ⟨ks,[],as,o5,o6,wR,g7 _ _ hn,hfu,⟨nn,fln,fnw⟩,(λz=>by obtain⟨us,e,_⟩:=la.lst _ z;rw[ur] at e;cases e),by rw[Wf],λk hk=>(by rw[List.take_zero] at hk;cases hk),sd,rfl⟩ (λj σ H8 _ ⟨_,_,_,_,_,_,h,_,_,_,_,_,_,_⟩=>ak.of h) ?_ ?_⟩
     ·rintro j v σ H8 hj ⟨eB,fs,Ac,p5,p6,pI,UI,iS,xp,UJ,ek,hX,Ad,rfl⟩;rw[Yg] at hj;obtain⟨one,e1,rfl⟩:∃one,ns[j]?=some one/\V.str one=v:=by
       cases z:ns[j]? with
       |none=>rw[z] at hj;cases hj
       |some o=>rw[z] at hj;exact⟨o,rfl,Ys hj⟩
      have I_:ns.take (j+1)=ns.take j++[one]:=by rw[Yy,e1];rfl
      have Zgm:one∈eB:=by rw[ek];exact Yr _ (sub _ (Ye e1))
      have uu:=ba.same pI.same;obtain⟨dx8,h8⟩:=uu.obj;obtain⟨pe,pin,ID⟩:=LY ok one;refine bu ?_;refine⟨_,rfl,l.h,dx8,_,rfl,h8,rfl,_,rfl,l,b,xs,ys,one,rfl,uu,λpl H9 xq g9 c6=>?_⟩;rw[pe] at c6;have pln:pl≠ln:=λz=>by rw[z,pI.at_] at xq;cases xq
      have plf:pl≠fu:=λz=>by rw[z,iS] at xq;cases xq
      refine⟨pl,rfl,⟨_,ak.of c6⟩,jH (K:=K) (a:=pl) (xs:=(fK b one).map V.str) (Uz H b a l.h ln nw fu ks ns j one pl) ⟨eB,fs,Ac,p6,Gs pI g9,g9 _ _ UI,g9 _ _ iS,c6,⟨xp.1,xp.2.1,xp.2.2,pln,plf⟩,UJ,ek,hX,λp hp=>(by rw[List.take_zero] at hp;cases hp),Ad,rfl⟩ (λi σ HA _ ⟨_,_,_,_,_,_,_,h,_,_,_,_,_,_,_⟩=>ak.of h) ?_ ?_⟩
      ·rintro i v σ HA hi ⟨iT,xr,Ae,q6,fP,Af,mC,JA,jx,xt,uv,Ag,xu,uw,rfl⟩;rw[Yg] at hi;obtain⟨par,e2,rfl⟩:∃par,(fK b one)[i]?=some par/\V.str par=v:=by
        cases z:(fK b one)[i]? with
        |none=>rw[z] at hi;cases hi
        |some o=>rw[z] at hi;exact⟨o,rfl,Ys hi⟩
       have mp:=Ye e2;have UK:(fK b one).take (i+1)=(fK b one).take i++[par]:=by rw[Yy,e2];rfl
       have Sz:one∈iT:=by rw[uv];exact Yr _ (sub _ (Ye e1))
       have kf9:iT.length<=64:=Y4 (Ek ok fP.nd λk hk=>yf ok ma (uw k hk)) im;refine bu ?_;by_cases qU:par∈iT
       ·obtain⟨ap,_,vp⟩:=Fs fP.len qU;refine⟨_,rfl,_,rfl,ln,some (.ref ap),rfl,cY fP.at_ vp,_,rfl,bY (aX ?_)⟩;refine⟨iT,xr,Ae,_,fP,Af,mC,JA,jx,xt,uv,Ag,λp hp=>?_,uw,rfl⟩;rw[UK] at hp;rcases Yu.mp hp with hp|hp;·exact xu p hp
        ·rw[Yo.mp hp];exact qU
       ·obtain⟨ao,mao,vo⟩:=Fs fP.len Sz;obtain⟨us,JB,ul,aon⟩:=fP.lst ao mao;refine⟨_,rfl,_,rfl,ln,none,rfl,cY fP.at_ (ET fP.len qU),_,rfl,cV ?_⟩;refine⟨_,rfl,_,rfl,ln,.ref ao,rfl,cY fP.at_ vo,_,rfl,by show 1<=sizeLine;omega,λe1l HB neb gB heB=>?_⟩;refine⟨ao,e1l,us,_,rfl,rfl,gB _ _ JB,heB,by show us.length+1<=sizeLine;omega,λnl HC JC gC hnl=>?_⟩;have UL:=gB.trans gC;refine⟨_,rfl,_,rfl,ln,_,.inr par,rfl,UL _ _ fP.at_,rfl,?_,λHD bD eD=>?_⟩;·unfold gO;rw[Ya,W4];omega
        rw[jI _ (ET fP.len qU),NY par nl fP.len] at eD;have SA:nl≠ln:=λz=>by rw[z,gB _ _ fP.at_] at JC;cases JC
        have kD:∀{c:Addr} {o:HO},HA c=some o->c≠ln->HD c=some o:=λ{c o} e n=>bD _ _ (UL _ _ e) n;have UM:HA nl=none:=gB.free JC;refine⟨_,rfl,.inl ⟨rfl,_,ak.of (kD mC jx.2.1)⟩,_,rfl,fu,_,_,rfl,rfl,kD mC jx.2.1,?_,λHE bE eE=>?_⟩
        ·rw[Ya];have:xr.length<=iT.length:=by rw[uv,Yl];omega
         omega
        have kE:∀{c:Addr} {o:HO},HA c=some o->c≠ln->c≠fu->HE c=some o:=λ{c o} e n1 n2=>bE _ _ (kD e n1) n2;have SD:nl≠fu:=λz=>by rw[z,mC] at UM;cases UM
        refine⟨iT++[par],xr++[par],Ae++[nl],_,⟨λc o e=>?_,bE _ _ eD (λz=>jx.2.1 z.symm),by rw[Yl,Yl,fP.len];rfl,λc hc=>?_,?_⟩,kE Af jx.1 (λz=>jx.2.2.1 z.symm),?_,kE JA jx.2.2.2.1 jx.2.2.2.2,jx,(λz=>by rcases Yu.mp z with z|z;exact xt z;exact SD (Yo.mp z).symm),by rw[uv,Jj],λk hk p hp=>Yr _ (Ag k hk p hp),λp hp=>?_,λk hk=>?_,rfl⟩
        ·have nc:=ck e UA;have ncf:c≠fu:=ck e ((la.same.free ur));exact kE (fP.same _ _ e) nc ncf
        ·rcases Yu.mp hc with hc|hc
         ·obtain⟨us',e',z',n'⟩:=fP.lst c hc;have cf:c≠fu:=λz=>xt (by rw[←z];exact hc);exact⟨us',kE e' n' cf,by rw[Yl];omega,n'⟩
         ·rw[Yo.mp hc];exact⟨us++[.str par],bE _ _ (bD _ _ hnl SA) SD,by rw[Yl,Yl];show us.length+1<=iT.length+1;omega,SA⟩
        ·refine Ww.mpr ⟨fP.nd,by simp,λu hu v hv z=>?_⟩;have:v=par:=by simpa using hv
         exact qU (by rw[←this,←z];exact hu)
        ·rw[eE,Ym];rfl
        ·rw[UK] at hp;rcases Yu.mp hp with hp|hp;·exact Yr _ (xu p hp)
         ·rw[Yo.mp hp];exact Yq _ Yk
        ·rcases Yu.mp hk with hk|hk;·exact uw k hk
         ·rw[Yo.mp hk];exact .step (uw one Sz) mp
      ·rintro σ HA ⟨iT,xr,Ae,q6,fP,Af,mC,JA,jx,xt,uv,Ag,xu,uw,rfl⟩;rw[Ya,Y8] at xu;refine⟨iT,xr,Ae,_,_,fP,Af,mC,⟨jx.1,jx.2.1,jx.2.2.1⟩,xt,uv,λk hk=>?_,uw,rfl⟩;rw[I_] at hk;rcases Yu.mp hk with hk|hk;·exact Ag k hk
       ·rw[Yo.mp hk];exact xu
     ·rintro σ H8 h8;rw[Ya] at h8;exact mw _ _ h8
    ·rintro σ H8 ⟨eB,fs,Ac,p5,p6,pI,UI,iS,xp,UJ,ek,hX,Ad,rfl⟩;rw[Y8] at hX;refine⟨_,rfl,?_⟩;have kf8:eB.length<=64:=Y4 (Ek ok pI.nd λk hk=>yf ok ma (Ad k hk)) im;have UN:eB.length=ks.length+fs.length:=by rw[ek,Yl]
     refine⟨⟨eB,fs,Ac,fu,_,_,_,pI,iS,xp.2.1,λk hk=>by rw[ek];exact Yq _ hk,λk hk no p hp=>?_,Ad,by rw[ek];exact Yr _ UH,by omega,rfl⟩,?_⟩
     ·rw[ek] at hk;rcases Yu.mp hk with hk|hk
      ·by_cases z:k∈ns;·exact hX k z p hp
       ·rw[ek];exact Yr _ (cl k hk z p hp)
      ·exact absurd hk no
     ·rw[mu0];show v9 ln 100 [some (.ref l.h),some (.str a),some (.ref ln),some (.ref fu),some (.ref fu),p5,p6] H8<_;unfold v9;have kl:(gO eB Ac).length=eB.length:=by unfold gO;rw[Ya,W4];have:=pI.len;omega
      have g3:List.getD (α:=Option V) [some (.ref l.h),some (.str a),some (.ref ln),some (.ref fu),some (.ref fu),p5,p6] 3 none=some (.ref fu):=rfl;rw[pI.at_,g3];dsimp only;rw[iS,kl];cases fs with
      |nil=>
       show 2*(100-eB.length)+0<_;have:eB.length=ks.length+0:=UN;omega
      |cons x r=>
       show 2*(100-eB.length)+1<_;have:eB.length=ks.length+(r.length+1):=UN;omega
   ·have nse:ns=[]:=by
     cases ns with
     |nil=>rfl
     |cons x r=>exact absurd rfl c
    subst nse;refine eS _ _ ⟨ks,as,la,λz=>⟨λh=>sd z h,λh=>?_⟩,_,_,_,_,rfl⟩;induction h with
    |refl=>exact UH
    |step _ m ih=>exact cl _ ih (λz=>nomatch z) _ m
  ·rintro σ H6 Q1 Q2 mo ⟨v1,w1,v2,w2,h⟩;exact⟨v1,w1,v2,w2,mo _ _ h⟩
 ·rintro σ H6 ⟨ks,as,la,iff,o3,o4,o5,o6,rfl⟩;exact⟨_,rfl,q ln ks as H6 la iff⟩
end
def eV(ps:bM)(i:Nat):Str:=(ps.getD i ("","")).2
theorem mU(nd:(ps.map (·.1)).Nodup)(hi:i<ps.length):aO (fO ps) (.inr (au ps i))=some (.str (eV ps i)):=by
 have kn:((fO ps).map (·.1)).Nodup:=by
  grind
 refine O0 kn (Yf.mpr ⟨ps[i],Jm hi,?_⟩);unfold au eV
 grind
def jM(k h t:Str):Bool:=if k="mother" then decide (t="woman") else if k="father" then decide (t="man") else decide (k="sibling")||(decide (h="man")&&decide (t="woman"))
inductive N0(vs:List V)(H:Hp)(Q:VK):Prop
 |mk (k h t:Str) (aC:vs=[.str k,.str h,.str t]) (q:Q (.bl (jM k h t)) H):N0 vs H Q
def Pc:Sp:=λvs H Q _=>N0 vs H Q
structure QJ(b:BS)(k a:Str)(o:Str):Prop where
 par:cH k=true->[.inr k,.inr a]∉(cj b.ps b.fs).map (·.1)
 aJ:cH k=false->keyOf k a (.inr o)∉b.keys/\¬(k="sibling"/\a=o)
inductive Pd(C CL CJ:Addr)(vs:List V)(H:Hp)(Q:VK):Prop
 |mk (l:BL) (b:BS) (xs ys:List Int) (k a o:Str) (aC:vs=[.ref l.h,.str k,.str a,.str o]) (ba:bw H C CL CJ l xs ys b) (un:QJ b k a o) (q:∀H',ai H H'->Q (.bl false) H'):Pd C CL CJ vs H Q
def QK(C CL CJ:Addr):Sp:=λvs H Q _=>Pd C CL CJ vs H Q
inductive MM(C CL CJ:Addr)(vs:List V)(H:Hp)(Q:VK):Prop
 |mk (l:BL) (b:BS) (xs ys:List Int) (ch pa:Str) (aC:vs=[.ref l.h,.str ch,.str pa]) (ba:bw H C CL CJ l xs ys b) (ok:cD xs ys b) (mp:pa∈b.ps.map (·.1)) (no:¬fG b pa ch) (q:∀H',ai H H'->Q .aA H'):MM C CL CJ vs H Q
def N1(C CL CJ:Addr):Sp:=λvs H Q _=>MM C CL CJ vs H Q
structure Gu(xs ys:List Int)(b:BS)(c:Fc):Prop where
 nf:y9 xs ys b c
 ns:c.k≠bF
 cS:jM c.k (eV b.ps c.one) (eV b.ps c.aJ.toNat)=true
 un:QJ b c.k (au b.ps c.one) (au b.ps c.aJ.toNat)
 el:cH c.k=true->¬fG b (au b.ps c.aJ.toNat) (au b.ps c.one)
inductive MN(C CL CJ:Addr)(vs:List V)(H:Hp)(Q:VK):Prop
 |mk (l:BL) (b:BS) (xs ys:List Int) (c:Fc) (aC:vs=[.ref l.h,.str c.k,.str (au b.ps c.one),.str (au b.ps c.aJ.toNat)]) (ba:bw H C CL CJ l xs ys b) (ok:cD xs ys b) (to:Gu xs ys b c) (q:∀H',ai H H'->Q .aA H'):MN C CL CJ vs H Q
def N3(C CL CJ:Addr):Sp:=λvs H Q _=>MN C CL CJ vs H Q
inductive Pf(C CL CJ:Addr)(vs:List V)(H:Hp)(Q:VK):Prop
 |mk (l:BL) (b:BS) (xs ys:List Int) (c:Fc) (aC:vs=[.ref l.h,.str c.k,.str (au b.ps c.one),.str (au b.ps c.aJ.toNat)]) (ba:bw H C CL CJ l xs ys b) (ok:cD xs ys b) (to:Gu xs ys b c) (dl:b.dn.length<200) (q:∀(l':BL) (H':Hp),bX H H' l l'->bw H' C CL CJ l' xs ys (b.vO c)->Q (.int (b.co:Int)) H'):Pf C CL CJ vs H Q
def QL(C CL CJ:Addr):Sp:=λvs H Q _=>Pf C CL CJ vs H Q
structure Rz(xs ys:List Int)(b:BS)(c:Fc):Prop where
 nf:y9 xs ys b c
 sk:c.k=bF
inductive MO(C CL CJ:Addr)(vs:List V)(H:Hp)(Q:VK):Prop
 |mk (l:BL) (b:BS) (xs ys:List Int) (c:Fc) (aC:vs=[.ref l.h,.str (au b.ps c.one),.int c.aJ]) (ba:bw H C CL CJ l xs ys b) (ok:cD xs ys b) (so:Rz xs ys b c) (q:∀H',ai H H'->Q .aA H'):MO C CL CJ vs H Q
def N4(C CL CJ:Addr):Sp:=λvs H Q _=>MO C CL CJ vs H Q
inductive LZ(C CL CJ:Addr)(vs:List V)(H:Hp)(Q:VK):Prop
 |mk (l:BL) (b:BS) (xs ys:List Int) (i:Int) (aC:vs=[.ref l.h,.int i]) (ba:bw H C CL CJ l xs ys b) (hi:0<=i/\i<(xs.length:Int)) (q:∀H',ai H H'->Q .aA H'):LZ C CL CJ vs H Q
def MP(C CL CJ:Addr):Sp:=λvs H Q _=>LZ C CL CJ vs H Q
inductive Pg(C CL CJ:Addr)(vs:List V)(H:Hp)(Q:VK):Prop
 |mk (l:BL) (b:BS) (xs ys:List Int) (c:Fc) (aC:vs=[.ref l.h,.str (au b.ps c.one),.int c.aJ]) (ba:bw H C CL CJ l xs ys b) (ok:cD xs ys b) (so:Rz xs ys b c) (dl:b.dn.length<200) (q:∀(l':BL) (H':Hp),bX H H' l l'->bw H' C CL CJ l' xs ys (b.vO c)->Q (.int (b.co:Int)) H'):Pg C CL CJ vs H Q
def QM(C CL CJ:Addr):Sp:=λvs H Q _=>Pg C CL CJ vs H Q
theorem dO(x y:Str):decide (V.str x=V.str y)=decide (x=y):=by
 grind
section
variable {dk:Addr}
theorem Xh:aQ ["kind","here","there"] ["kind","here","there"] (aL C2):=⟨rfl,rfl,rfl,by decide+kernel,rfl,by decide+kernel,by decide+kernel⟩
theorem Xi(F:aM K "sides_fit" "sides_fit" C2 f fd)(qx:mg "MAN"=some (.str "man" t1))(qf:mg "WOMAN"=some (.str "woman" t2))(mO:mg "SIBLING"=some (.str "sibling" t3)):aG P w K mg base aN 1 f fd ["kind","here","there"] Pc:=by
 refine F.ok Xh (λvs H Q E h=>?_) (λaE A outer s H vs Q E hr h=>?_)
 ·obtain⟨k,h,t,rfl,_⟩:=h;rfl
 obtain⟨k,h,t,rfl,q⟩:=h;refine⟨_,(aj (aS (aZ cg (pv 0) bA (aR _)) (aq (aF (dF cg (pv 2) (di (v:=.str "woman") rfl qf ⟨_,rfl⟩) (aR _)))) aY) (aj (aS (aZ cg (pv 0) bA (aR _)) (aq (aF (dF cg (pv 2) (di (v:=.str "man") rfl qx ⟨_,rfl⟩) (aR _)))) aY) (aq (aF (Gb (dF cg (pv 0) (di (v:=.str "sibling") rfl mO ⟨_,rfl⟩) (aR _)) (lL (oG (dF cg (pv 1) (di (v:=.str "man") rfl qx ⟨_,rfl⟩) (aR _)) (lL (dF cg (pv 2) (di (v:=.str "woman") rfl qf ⟨_,rfl⟩) (aR _)))))))))),?_⟩;unfold jM at q;refine⟨_,rfl,rfl,_,rfl,?_⟩;rw[dO];refine bC (λcc=>?_) (λcc=>aX ?_)
 ·rw[if_pos (of_decide_eq_true cc)] at q;refine⟨_,rfl,rfl,?_⟩;rw[dO];exact q
 ·rw[if_neg (λz=>cc (decide_eq_true z))] at q;refine⟨_,rfl,rfl,_,rfl,?_⟩;rw[dO];refine bC (λc2=>?_) (λc2=>aX ?_)
  ·rw[if_pos (of_decide_eq_true c2)] at q;refine⟨_,rfl,rfl,?_⟩;rw[dO];exact q
  ·rw[if_neg (λz=>c2 (decide_eq_true z))] at q;refine⟨_,rfl,rfl,_,rfl,?_⟩;rw[dO];refine bC (λc3=>?_) (λc3=>?_);·grind
   ·have e3:decide (k="sibling")=false:=by
     cases e:decide (k="sibling") with
     |true=>grind
     |false=>rfl
    rw[e3,J0] at q;refine⟨_,rfl,rfl,_,rfl,?_⟩;rw[dO];refine bC (λc4=>?_) (λc4=>?_)
    ·rw[c4,Jr] at q;refine⟨_,rfl,rfl,?_⟩;rw[dO];exact q
    ·grind
theorem VG:aQ ["hearth","kind","one","other"] ["hearth","kind","one","other"] (aL Bw):=⟨rfl,rfl,rfl,by decide+kernel,rfl,by decide+kernel,by decide+kernel⟩
theorem ZcC(F:aM K "told_already" "told_already" Bw f fd)(mO:mg "SIBLING"=some (.str "sibling" t1))(hZ:mg "PARENTS"=some (.ref dk))(qP:∀H,ay K H dk (gY.map V.str))(AK:cA P w K mg base 1 "parent_of" C ["self","kind","name"] (LW C CL CJ))(rS:cA P w K mg base 2 "has" C ["self","kind","one","other"] (Gq C CL CJ)):aG P w K mg base aN 3 f fd ["hearth","kind","one","other"] (QK C CL CJ):=by
 refine F.ok VG (λvs H Q E h=>?_) (λaE A outer s H vs Q E hr h=>?_)
 ·obtain⟨l,b,xs,ys,k,a,o,rfl,_⟩:=h;rfl
 obtain⟨l,b,xs,ys,k,a,o,rfl,ba,un,q⟩:=h;refine⟨_,(aj (aS (aZ (kW (K:=K) rfl) (pv 1) (di (v:=.ref dk) rfl hZ rfl) (by with_unfolding_all rfl)) (aq (aF (dF yh (cJ AK hr (by omega) (pv 0) (aa (pv 1) (aa (pv 2) ae))) kA (aR _)))) aY) (aq (aF (Gb (cJ rS hr (by omega) (pv 0) (aa (pv 1) (aa (pv 2) (aa (pv 3) ae)))) (lL (oG (dF cg (pv 1) (di (v:=.str "sibling") rfl mO ⟨_,rfl⟩) (aR _)) (lL (dF cg (pv 2) (pv 3) (aR _))))))))),?_⟩;obtain⟨dx,h1⟩:=ba.obj;refine⟨_,rfl,dk,_,rfl,.inr (qP _),rfl,rfl,_,rfl,?_⟩;try dsimp only
 rw[if_neg Yi,show eO (.str k) (gY.map V.str)=cH k from yw k];refine bC (λcc=>?_) (λcc=>aX ?_)
 ·refine⟨_,rfl,l.h,dx,_,rfl,h1,rfl,_,rfl,_,rfl,l,b,xs,ys,k,a,rfl,ba,λH1 g1=>?_⟩;rw[pT (un.par cc)];exact⟨rfl,q H1 g1⟩
 ·have np:cH k=false:=by
   cases e:cH k with
   |true=>exact absurd e cc
   |false=>rfl
  obtain⟨u1,u2⟩:=un.aJ np;refine⟨_,rfl,l.h,dx,_,rfl,h1,rfl,_,rfl,_,rfl,_,rfl,l,b,xs,ys,k,a,.inr o,rfl,ba,λ_=>⟨o,rfl⟩,λH1 g1=>⟨_,rfl,?_⟩⟩;have e:b.told (keyOf k a (.inr o))=false:=by
   cases e:b.told (keyOf k a (.inr o)) with
   |true=>exact absurd ((NM _ _).mp e) u1
   |false=>rfl
  rw[e];refine bY ?_;refine⟨_,rfl,rfl,_,rfl,?_⟩;rw[dO];refine bC (λc3=>?_) (λc3=>?_)
  ·refine⟨_,rfl,_,rfl,rfl,?_⟩;rw[dO,decide_eq_false (λz=>u2 ⟨of_decide_eq_true c3,z⟩)];exact q H1 g1
  ·exact q H1 g1
theorem K4:aQ ["hearth","child","parent","lines"] ["hearth","child","parent"] (aL Bx):=⟨rfl,rfl,rfl,by decide+kernel,rfl,by decide+kernel,by decide+kernel⟩
theorem VH(F:aM K "check_elders" "check_elders" Bx f fd)(DS:HasFn P w K mg base 2 "lines_up" ["hearth","name"] (Pb C CL CJ)):aG P w K mg base aN 4 f fd ["hearth","child","parent"] (N1 C CL CJ):=by
 refine F.ok K4 (λvs H Q E h=>?_) (λaE A outer s H vs Q E hr h=>?_)
 ·obtain⟨l,b,xs,ys,ch,pa,rfl,_⟩:=h;rfl
 obtain⟨l,b,xs,ys,ch,pa,rfl,ba,ok,mp,no,q⟩:=h;refine⟨_,(aj (bg (i:=3) K4.nd rfl (Or.inl rfl) (aT DS hr (by omega) rfl (aa (pv 0) (aa (pv 2) ae)))) (aq (aS (i6 (yD (bB hr) (pv 1) (pv 3)) (by with_unfolding_all rfl)) fH aY))),?_⟩;refine⟨_,rfl,_,rfl,l,b,xs,ys,pa,rfl,ba,ok,mp,λp ks as H1 la iff=>bu ?_⟩;have nk:ch∉ks:=λz=>no ((iff ch).mp z);exact⟨_,rfl,_,rfl,p,none,rfl,cY la.at_ (ET la.len nk),_,rfl,bY (aX (q H1 la.same))⟩
theorem Xj:aQ ["hearth","kind","one","other"] ["hearth","kind","one","other"] (aL C1):=⟨rfl,rfl,rfl,by decide+kernel,rfl,by decide+kernel,by decide+kernel⟩
theorem Xk(F:aM K "check_tie" "check_tie" C1 f fd)(hZ:mg "PARENTS"=some (.ref dk))(qP:∀H,ay K H dk (gY.map V.str))(sH:HasFn P w K mg base 1 "is_tie" ["kind"] Fm)(Dl:HasFn P w K mg base 1 "sides_fit" ["kind","here","there"] Pc)(pP:cA P w K mg base 1 "side_of" C ["self","name"] (ER C CL CJ))(BH:HasFn P w K mg base 3 "told_already" ["hearth","kind","one","other"] (QK C CL CJ))(BI:HasFn P w K mg base 4 "check_elders" ["hearth","child","parent"] (N1 C CL CJ)):aG P w K mg base aN 6 f fd ["hearth","kind","one","other"] (N3 C CL CJ):=by
 refine F.ok Xj (λvs H Q E h=>?_) (λaE A outer s H vs Q E hr h=>?_)
 ·obtain⟨l,b,xs,ys,c,rfl,_⟩:=h;rfl
 obtain⟨l,b,xs,ys,c,rfl,ba,ok,to,q⟩:=h;refine⟨_,(aj (aS (i8 (eN (aT sH hr (by omega) rfl (aa (pv 1) ae)))) fH aY) (aj (aS (i8 (eN (aT Dl hr (by omega) rfl (aa (pv 1) (aa (cJ pP hr (by omega) (pv 0) (aa (pv 2) ae)) (aa (cJ pP hr (by omega) (pv 0) (aa (pv 3) ae)) ae)))))) fH aY) (aj (aS (eN (aT BH hr (by omega) rfl (aa (pv 0) (aa (pv 1) (aa (pv 2) (aa (pv 3) ae)))))) fH aY) (aq (aS (aZ (kW (K:=K) rfl) (pv 1) (di (v:=.ref dk) rfl hZ rfl) (by with_unfolding_all rfl)) (aq (cz (aT BI hr (by omega) rfl (aa (pv 0) (aa (pv 2) (aa (pv 3) ae)))))) aY))))),?_⟩;obtain⟨dx,h1⟩:=ba.obj;obtain⟨r,dr,hs⟩:=CA (to.nf.fg.tF to.ns);have ht:lW oW c.k=true:=by unfold lW;rw[dr];rfl
 have om:=(to.nf.fg.ok.gf to.ns).1.2;refine⟨_,rfl,c.k,rfl,_,rfl,?_⟩;rw[ht];refine⟨_,rfl,_,rfl,l.h,dx,_,rfl,h1,rfl,_,rfl,l,b,xs,ys,_,_,rfl,ba,mU ok.nm to.nf.fg.ok.one,⟨_,rfl,l.h,dx,_,rfl,h1,rfl,_,rfl,l,b,xs,ys,_,_,rfl,ba,mU ok.nm om,⟨c.k,_,_,rfl,_,rfl,?_⟩⟩⟩;rw[to.cS];refine⟨_,rfl,_,rfl,_,rfl,_,rfl,l,b,xs,ys,c.k,_,_,rfl,ba,to.un,λH1 g1=>⟨_,rfl,bY (aX ⟨_,rfl,dk,_,rfl,.inr (qP _),rfl,rfl,_,rfl,?_⟩)⟩⟩;rw[if_neg Yi,show eO (.str c.k) (gY.map V.str)=cH c.k from yw c.k];refine bC (λcc=>⟨_,rfl,_,rfl,_,rfl,l,b,xs,ys,_,_,rfl,ba.same g1,ok,Fo om,to.el cc,λH2 g2=>q H2 (g1.trans g2)⟩) (λcc=>aX (q H1 g1))
theorem Vv:aQ ["hearth","section"] ["hearth","section"] (aL A9):=⟨rfl,rfl,rfl,by decide+kernel,rfl,by decide+kernel,by decide+kernel⟩
theorem Vw(F:aM K "check_section" "check_section" A9 f fd)(hc:fI K C)(lc:tE K CL)(bl:Bl mg):aG P w K mg base aN 1 f fd ["hearth","section"] (MP C CL CJ):=by
 refine F.ok Vv (λvs H Q E h=>?_) (λaE A outer s H vs Q E hr h=>?_)
 ·obtain⟨l,b,xs,ys,i,rfl,_⟩:=h;rfl
 obtain⟨l,b,xs,ys,i,rfl,ba,hi,q⟩:=h;refine⟨_,(aq (aS (aZ WX (pv 1) (eG Cp rfl bl.iY sA (aa (aW (K:=K) rfl (aW (K:=K) rfl (pv 0) rfl) rfl) ae)) (by with_unfolding_all rfl)) fH aY)),?_⟩;obtain⟨dx,h1⟩:=ba.obj;obtain⟨dL,dS,mo,fE,wi,im,jf,iw,Ic,hL,_⟩:=ba.landAt;refine⟨_,rfl,_,rfl,l.h,C,dx,_,_,rfl,h1,hc.cls,hc.sX,rfl,l.L,CL,dL,_,_,rfl,hL,lc.cls,lc.ql,rfl,_,rfl,λp H1 np g1 hp=>?_⟩;refine⟨_,_,_,p,rfl,rfl,hp,_,rfl,?_⟩;rw[if_pos rfl,decide_eq_true hi];exact bY (aX (q H1 g1))
theorem VI:aQ ["hearth","name","section"] ["hearth","name","section"] (aL By):=⟨rfl,rfl,rfl,by decide+kernel,rfl,by decide+kernel,by decide+kernel⟩
theorem VJ(F:aM K "check_saying" "check_saying" By f fd)(jL:mg "SAID"=some (.str "said" t1))(pP:cA P w K mg base 1 "side_of" C ["self","name"] (ER C CL CJ))(Bj:HasFn P w K mg base 1 "check_section" ["hearth","section"] (MP C CL CJ))(rS:cA P w K mg base 2 "has" C ["self","kind","one","other"] (Gq C CL CJ)):aG P w K mg base aN 3 f fd ["hearth","name","section"] (N4 C CL CJ):=by
 refine F.ok VI (λvs H Q E h=>?_) (λaE A outer s H vs Q E hr h=>?_)
 ·obtain⟨l,b,xs,ys,c,rfl,_⟩:=h;rfl
 obtain⟨l,b,xs,ys,c,rfl,ba,ok,so,q⟩:=h;refine⟨_,(aj (cz (cJ pP hr (by omega) (pv 0) (aa (pv 1) ae))) (aj (cz (aT Bj hr (by omega) rfl (aa (pv 0) (aa (pv 2) ae)))) (aq (aS (eN (cJ rS hr (by omega) (pv 0) (aa (di (v:=.str "said") rfl jL ⟨_,rfl⟩) (aa (pv 1) (aa (pv 2) ae))))) fH aY)))),?_⟩;obtain⟨dx,h1⟩:=ba.obj;refine⟨_,rfl,l.h,dx,_,rfl,h1,rfl,_,rfl,l,b,xs,ys,_,_,rfl,ba,mU ok.nm so.nf.fg.ok.one,⟨_,rfl,_,rfl,l,b,xs,ys,c.aJ,rfl,ba,so.nf.fg.G5 so.sk,λH1 g1=>⟨_,rfl,l.h,dx,_,rfl,g1 _ _ h1,rfl,_,rfl,_,rfl,l,b,xs,ys,"said",au b.ps c.one,.inl c.aJ,rfl,ba.same g1,(λz=>absurd z (by decide+kernel)),λH2 g2=>⟨_,rfl,?_⟩⟩⟩⟩;have ek:keyOf "said" (au b.ps c.one) (.inl c.aJ)=eT b.ps c:=by
  unfold eT;rw[lE so.sk,so.sk]
 have e:b.told (keyOf "said" (au b.ps c.one) (.inl c.aJ))=false:=by
  cases e:b.told (keyOf "said" (au b.ps c.one) (.inl c.aJ)) with
  |true=>exact absurd ((NM _ _).mp e) (by rw[ek];exact so.nf.nk)
  |false=>rfl
 rw[e];exact bY (aX (q H2 (g1.trans g2)))
theorem WJ:aQ ["self","kind","one","other"] ["self","kind","one","other"] (aL Cv):=⟨rfl,rfl,rfl,by decide+kernel,rfl,by decide+kernel,by decide+kernel⟩
theorem ZcD(F:aM K "tie" "Hearth.tie" Cv f fd)(hc:fI K C)(Dm:HasFn P w K mg base 6 "check_tie" ["hearth","kind","one","other"] (N3 C CL CJ))(rO:cA P w K mg base 11 "keep" C ["self","fact"] (F3 C CL CJ)):aG P w K mg base aN 12 f fd ["self","kind","one","other"] (QL C CL CJ):=by
 refine F.ok WJ (λvs H Q E h=>?_) (λaE A outer s H vs Q E hr h=>?_)
 ·obtain⟨l,b,xs,ys,c,rfl,_⟩:=h;rfl
 obtain⟨l,b,xs,ys,c,rfl,ba,ok,to,dl,q⟩:=h;refine⟨_,(aj (cz (aT Dm hr (by omega) rfl (aa (pv 0) (aa (pv 1) (aa (pv 2) (aa (pv 3) ae)))))) (aq (aF (cJ rO hr (by omega) (pv 0) (aa (dv (aa (aW (K:=K) rfl (pv 0) rfl) (aa (pv 1) (aa (pv 2) (aa (pv 3) ae))))) ae))))),?_⟩;refine⟨_,rfl,_,rfl,_,rfl,_,rfl,l,b,xs,ys,c,rfl,ba,ok,to,λH1 g1=>?_⟩;have cO:=ba.same g1;obtain⟨dx,h1⟩:=cO.obj;refine⟨_,rfl,l.h,dx,_,rfl,h1,rfl,_,rfl,l.h,C,dx,_,_,rfl,h1,hc.cls,hc.oE,rfl,_,rfl,_,rfl,_,rfl,by show 4<=sizeLine;decide,λr H2 nr g2 hR=>?_⟩;have hf:d9 H2 b.ps r (b.co,c):=by
  show H2 r=some (.tup ((dQ b.ps b.co c).map kV));unfold dQ;rw[ia to.ns];exact hR
 refine⟨l,b,xs,ys,r,c,rfl,cO.same g2,ok,hf,to.nf,dl,λl' H3 wt ka=>q l' H3 (bX.after (g1.trans g2) wt) ka⟩
theorem WK:aQ ["self","name","section"] ["self","name","section"] (aL Cw):=⟨rfl,rfl,rfl,by decide+kernel,rfl,by decide+kernel,by decide+kernel⟩
theorem ZcE(F:aM K "say" "Hearth.say" Cw f fd)(hc:fI K C)(jL:mg "SAID"=some (.str "said" t1))(BJ:HasFn P w K mg base 3 "check_saying" ["hearth","name","section"] (N4 C CL CJ))(rO:cA P w K mg base 11 "keep" C ["self","fact"] (F3 C CL CJ)):aG P w K mg base aN 12 f fd ["self","name","section"] (QM C CL CJ):=by
 refine F.ok WK (λvs H Q E h=>?_) (λaE A outer s H vs Q E hr h=>?_)
 ·obtain⟨l,b,xs,ys,c,rfl,_⟩:=h;rfl
 obtain⟨l,b,xs,ys,c,rfl,ba,ok,so,dl,q⟩:=h;refine⟨_,(aj (cz (aT BJ hr (by omega) rfl (aa (pv 0) (aa (pv 1) (aa (pv 2) ae))))) (aq (aF (cJ rO hr (by omega) (pv 0) (aa (dv (aa (aW (K:=K) rfl (pv 0) rfl) (aa (di (v:=.str "said") rfl jL ⟨_,rfl⟩) (aa (pv 1) (aa (pv 2) ae))))) ae))))),?_⟩;refine⟨_,rfl,_,rfl,_,rfl,l,b,xs,ys,c,rfl,ba,ok,so,λH1 g1=>?_⟩;have cO:=ba.same g1;obtain⟨dx,h1⟩:=cO.obj;refine⟨_,rfl,l.h,dx,_,rfl,h1,rfl,_,rfl,l.h,C,dx,_,_,rfl,h1,hc.cls,hc.oE,rfl,_,rfl,_,rfl,by show 4<=sizeLine;decide,λr H2 nr g2 hR=>?_⟩;have hf:d9 H2 b.ps r (b.co,c):=by
  show H2 r=some (.tup ((dQ b.ps b.co c).map kV));unfold dQ;rw[lE so.sk,so.sk];exact hR
 refine⟨l,b,xs,ys,r,c,rfl,cO.same g2,ok,hf,so.nf,dl,λl' H3 wt ka=>q l' H3 (bX.after (g1.trans g2) wt) ka⟩
end
def mD(n:Nat)(d:Int):List Int:=(List.range n).map λi:Nat=>((i:Int)+d) % (n:Int)
theorem rot_length(n:Nat)(d:Int):(mD n d).length=n:=by simp[mD]
theorem Zbv(hn:0<n)(d:Int):(mD n d).Perm (bp n):=by
 have tS:(0:Int)<(n:Int):=by omega
 have r0:=Jb d (HR tS);have r1:=W0 d tS;obtain⟨r,er⟩:∃r:Nat,d % (n:Int)=(r:Int):=⟨(d % (n:Int)).toNat,by omega⟩;have rn:r<n:=by omega
 have e:mD n d=(bp n).drop r++(bp n).take r:=by
  refine Wv λi=>?_;have ul:=eF n;by_cases hi:i<n
  ·have lhs:(mD n d)[i]?=some (((i:Int)+d) % (n:Int)):=by
    unfold mD;rw[Yg,List.getElem?_range hi];rfl
   have em:((i:Int)+d) % (n:Int)=((r:Int)+(i:Int)) % (n:Int):=by
    rw[Int.add_comm,←Int.emod_add_emod,er]
   rw[lhs,em];by_cases h:r+i<n;·rw[Wd (by rw[Jz,ul];omega),List.getElem?_drop,kr (by omega),Int.emod_eq_of_lt (by omega) (by omega),Int.natCast_add]
   ·rw[Jk (by rw[Jz,ul];omega),Jz,ul,List.getElem?_take_of_lt (by omega),kr (by omega)];have e3:(r:Int)+(i:Int)=((i-(n-r):Nat):Int)+(n:Int)*1:=by omega
    rw[e3,Int.add_mul_emod_self_left,Int.emod_eq_of_lt (by omega) (by omega)]
  ·rw[Y5 (by rw[rot_length];omega),Y5 (by rw[Yl,Jz,Wa,ul];omega)]
 rw[e];exact List.perm_append_comm.trans (by rw[List.take_append_drop])
inductive Ph(vs:List V)(H:Hp)(Q:VK):Prop
 |mk (c:Int) (n:Nat) (aC:vs=[.int c,.int (n:Int)]) (aV:0<n) (bc:n<=60) (bO:∀(t:Addr) (ts:List Int) (H':Hp),H t=none->ai H H'->bR H' t ts->ts.Perm (bp n)->Q (.ref t) H'):Ph vs H Q
def RA:Sp:=λvs H Q _=>Ph vs H Q
inductive Pj(K:PySem.W.Frag)(vs:List V)(H:Hp)(Q:VK):Prop
 |mk (a b:Addr) (xs ys:List Int) (aC:vs=[.ref a,.ref b]) (aV:ay K H a (xs.map V.int)) (bc:ay K H b (ys.map V.int)) (bO:(∀x∈xs,0<=x/\x<ys.length)) (cG:xs.length<=60) (dH:∀(l:Addr) (H':Hp),H l=none->ai H H'->bR H' l (bH ys xs)->Q (.ref l) H'):Pj K vs H Q
def RB(K:PySem.W.Frag):Sp:=λvs H Q _=>Pj K vs H Q
theorem ZcF(h:Paired Bd ds [a,b]):∃v w,ds=[v,w]/\Bd v a/\Bd w b:=by
 cases h with|cons h1 h=>cases h with|cons h2 h=>
  cases h;exact⟨_,_,rfl,h1,h2⟩
section
theorem L0:aQ ["_law_cell_here","_law_size","_law_drawn"] ["_law_cell_here","_law_size"] (aL Ee):=⟨rfl,rfl,rfl,by decide+kernel,rfl,by decide+kernel,by decide+kernel⟩
theorem Zo(F:aM K "_law_row" "_law_row" Ee f fd)(mJ:HasFn P w K mg base 1 "_law_draws" ["_law_cell_here","_law_parts"] (yk K))(DT:HasFn P w K mg base 1 "_law_turn" ["_law_code","_law_size"] Qc)(bl:Bl mg):
  aG P w K mg base aN 2 f fd ["_law_cell_here","_law_size"] RA:=by
 refine F.ok L0 (λvs H Q E h=>?_) (λaE A outer s H vs Q E hr h=>?_)
 ·obtain⟨c,n,rfl,_⟩:=h;rfl
 obtain⟨c,n,rfl,n0,n60,q⟩:=h;refine⟨_,(aj (bg (i:=2) L0.nd rfl (Or.inr rfl) (aT mJ hr (by omega) rfl (aa (pv 0) (aa (vq (aa aI (aa aI ae))) ae)))) (aj (aS (aZ cg (a9 (cB (K:=K) rfl) (pv 2) aI (λ_ _=>rfl)) aI (aR _)) (aq (aF (eG (rM) rfl bl.lJ lF (aa (iH (x:="_law_at") (fr:=[("_law_size",1),("_law_drawn",2)]) (cl:=[("_law_size",s.heap.objs.size+1),("_law_drawn",s.heap.objs.size+1+1)]) rfl ⟨by with_unfolding_all rfl,⟨rfl,⟨rfl,trivial⟩⟩,rfl,by decide+kernel,rfl,by decide+kernel,rfl,⟨⟨rfl,.inl rfl,.inl rfl,rfl⟩,⟨⟨rfl,.inl rfl,.inl rfl,rfl⟩,trivial⟩⟩,by decide+kernel⟩ (ow rfl bl.iY (aa (pv 1) ae)) (λ_ _ _ _=>lH) (λ_ _ _ _=>(a_ d7 (a_ gQ (pv 0) (a9 (cB (K:=K) rfl) (pv 2) aI (λ_ _=>rfl))) (pv 1)))) ae)))) aY) (aq (aF (aT DT hr (by omega) rfl (aa (a9 (cB (K:=K) rfl) (pv 2) aI (λ_ _=>rfl)) (aa (pv 1) ae))))))),?_⟩;refine⟨_,rfl,by show 2<=sizeLine;decide,λp np=>?_⟩;refine⟨c,p,[3,40320],rfl,ak.of aU,by decide,by decide,λdl ds H1 nd g1 h1 bd=>?_⟩;obtain⟨d0,d1,rfl,⟨a0,a0'⟩,⟨a1,a1'⟩⟩:=ZcF bd;have g:=(cq np _).trans g1;have pos:(0:Int)<(n:Int):=by omega
 refine⟨_,rfl,dl,_,0,.int d0,rfl,rfl,ak.of h1,rfl,rfl,_,rfl,bC (λ_=>?_) (λ_=>aX ?_)⟩
 ·refine⟨_,rfl,(n:Int),rfl,by omega,by omega,λD hD=>uV (lo:=0) (n:=(n:Int).toNat) (λi zs H2=>ai H1 H2/\H2 D=some (.lst zs)/\zs=((mD n d1).take i).map V.int) ⟨cq hD _,aU,rfl⟩ ?_ ?_⟩
  ·rintro i zs H2 hi ⟨g2,h2,e2⟩;rw[Y6] at hi;rw[J7];refine kP (cV ⟨_,rfl,_,rfl,dl,_,1,.int d1,rfl,rfl,ak.of (g2 _ _ h1),rfl,_,_,rfl,rfl,_,rfl,_,_,rfl,rfl,pos,h2,?_,λd o qd=>?_,aU,?_⟩)
   ·rw[e2,Ya,Wa,rot_length];exact iV (by omega)
   ·rw[aP (ck qd hD)];exact g2 d o qd
   ·have ge:(mD n d1)[i]?=some (((i:Int)+d1) % (n:Int)):=by
     unfold mD;rw[Yg,List.getElem?_range hi];rfl
    rw[e2,Yy,D_,ge];rfl
  ·rintro zs H2 ⟨g2,h2,e2⟩;rw[Y6,Ws (by rw[rot_length];omega)] at e2;refine⟨D,_,rfl,.inl ⟨ak.of h2,λt ht=>q t (mD n d1) _ (g.free (g2.free ht)) ((g.trans g2).trans (cq ht _)) ?_ (Zbv n0 d1)⟩⟩;show upd H2 t (.tup zs) t=_;rw[aU,e2]
 ·exact⟨_,rfl,dl,_,1,.int d1,rfl,rfl,ak.of h1,rfl,_,rfl,d1,n,rfl,n60,λt ts H2 nt g2 ht pm=>q t ts H2 (g.free nt) (g.trans g2) ht pm⟩
theorem Xl:aQ ["_law_first","_law_then"] ["_law_first","_law_then"] (aL C4):=⟨rfl,rfl,rfl,by decide+kernel,rfl,by decide+kernel,by decide+kernel⟩
theorem Xm(F:aM K "_law_after" "_law_after" C4 f fd)(bl:Bl mg):aG P w K mg base aN 1 f fd ["_law_first","_law_then"] (RB K):=by
 refine F.ok Xl (λvs H Q E h=>?_) (λaE A outer s H vs Q E hr h=>?_)
 ·obtain⟨a,b,xs,ys,rfl,_⟩:=h;rfl
 obtain⟨a,b,xs,ys,rfl,hA,hB,pA,hl,q⟩:=h;refine⟨_,(aq (aF (eG (rM) rfl bl.lJ lF (aa (iH (x:="_law_one") (fr:=[("_law_then",1)]) (cl:=[("_law_then",s.heap.objs.size+1)]) rfl ⟨by with_unfolding_all rfl,⟨rfl,trivial⟩,rfl,by decide+kernel,rfl,by decide+kernel,rfl,⟨⟨rfl,.inl rfl,.inl rfl,rfl⟩,trivial⟩,by decide+kernel⟩ (FI (pv 0)) (λ_ _ _ _=>lH) (λ_ _ _ _=>(a9 (eI (K:=K) rfl) (pv 1) (pv 0) (λ_ _=>rfl)))) ae)))),?_⟩;refine⟨_,rfl,a,rfl,⟨_,hA⟩,λD hD=>x8 (xs:=xs.map V.int) (λi zs H3=>ai H H3/\H3 D=some (.lst zs)/\zs=((bH ys xs).take i).map V.int) ⟨cq hD _,aU,rfl⟩ (λi zs H3 _ ⟨g3,_,_⟩=>g3.iD hA) ?_ ?_⟩
 ·rintro i v zs H3 hi ⟨g3,h3,e3⟩;obtain⟨z,rfl,hz⟩:=lI hi;have dC:i<xs.length:=(Yh.mp hz).1;have bz:=pA z (Ye hz);refine kP (cV ⟨_,rfl,_,rfl,b,_,_,_,rfl,rfl,g3.iD hB,lN bz.1 bz.2,h3,?_,λd o qd=>?_,aU,?_⟩)
  ·rw[e3,Ya,Wa,pY];exact iV (by omega)
  ·rw[aP (ck qd hD)];exact g3 d o qd
  ·rw[e3,Yy,D_];unfold bH;rw[Yg,hz];rfl
 ·rintro zs H3 ⟨g3,h3,e3⟩;refine⟨D,_,rfl,.inl ⟨ak.of h3,λt ht=>q t _ (g3.free ht) (g3.trans (cq ht _)) ?_⟩⟩;show upd H3 t (.tup zs) t=_;rw[aU,e3,Ya,Ws (by rw[pY];omega)]
end
inductive Pk(vs:List V)(H:Hp)(Q:VK):Prop
 |mk (a:Addr) (xs:List Int) (aC:vs=[.ref a]) (aV:bR H a xs) (bc:xs.length<64) (bO:full xs=true) (cG:∀(t:Addr) (H':Hp),H t=none->ai H H'->bR H' t (inv xs)->Q (.ref t) H'):Pk vs H Q
def Gv:Sp:=λvs H Q _=>Pk vs H Q
section
theorem V0:aQ ["_law_turn_here"] ["_law_turn_here"] (aL B0):=⟨rfl,rfl,rfl,by decide+kernel,rfl,by decide+kernel,by decide+kernel⟩
theorem Zp(F:aM K "_law_inverse" "_law_inverse" B0 f fd)(bl:Bl mg):aG P w K mg base aN 1 f fd ["_law_turn_here"] Gv:=by
 refine F.ok V0 (λvs H Q E h=>?_) (λaE A outer s H vs Q E hr h=>?_)
 ·obtain⟨a,xs,rfl,_⟩:=h;rfl
 obtain⟨a,xs,rfl,hA,lx,fx,q⟩:=h;refine⟨_,(aq (aF (eG (rM) rfl bl.lJ lF (aa (iH (x:="_law_at") (fr:=[("_law_turn_here",0)]) (cl:=[("_law_turn_here",s.heap.objs.size+1)]) rfl ⟨by with_unfolding_all rfl,⟨rfl,trivial⟩,rfl,by decide+kernel,rfl,by decide+kernel,rfl,⟨⟨rfl,.inl rfl,.inl rfl,rfl⟩,trivial⟩,by decide+kernel⟩ (ow rfl bl.iY (aa (bJ (c5 (K:=K) rfl) rfl bl.cQ cP (aa (pv 0) ae)) ae)) (λ_ _ _ _=>lH) (λ_ _ _ _=>(Li (pv 1) (aa (pv 0) ae)))) ae)))),?_⟩;have el:(xs.map V.int).length=xs.length:=Ya _;refine⟨_,rfl,a,_,rfl,.inr (ay.of hA),_,rfl,by rw[el];omega,by rw[el];omega,λD hD=>uV (lo:=0) (n:=(((xs.map V.int).length:Nat):Int).toNat)
   (λi zs H2=>ai H H2/\H2 D=some (.lst zs)/\zs=((inv xs).take i).map V.int) ⟨cq hD _,aU,rfl⟩ ?_ ?_⟩
 ·rintro i zs H2 hi ⟨g2,h2,e2⟩;rw[Y6,el] at hi;rw[J7];have hx:=x_ (Np fx hi);have wM:=g2 _ _ hA;refine kP (cV ⟨_,rfl,a,xs,rfl,wM,_,rfl,(i:Int),jg (i:Int) xs,rfl,wM,hx.1,hx.2,h2,?_,λd o qd=>?_,aU,?_⟩)
  ·rw[e2,Ya,Wa,eZ];exact iV (by omega)
  ·rw[aP (ck qd hD)];exact g2 d o qd
  ·rw[e2,Nq hi,Ym];rfl
 ·rintro zs H2 ⟨g2,h2,e2⟩;refine⟨D,_,rfl,.inl ⟨ak.of h2,λt ht=>q t _ (g2.free ht) (g2.trans (cq ht _)) ?_⟩⟩;show upd H2 t (.tup zs) t=_;rw[aU,e2,Y6,el,Ws (by rw[eZ];omega)]
end
structure iz(H0 H:Hp)(ps:bM)(d:Addr)(b:Nat)(kvs:List (Key×V))(L:Nat->List (Nat×List Int)):Prop where
 dict:H d=some (.dK kvs)
 len:kvs.length<=b
 new:H0 d=none
 at_:∀x:Nat,x<ps.length->(aO kvs (.inr (au ps x))=none/\L x=[])\/∃(a:Addr) (es:List Addr),aO kvs (.inr (au ps x))=some (.ref a)/\H0 a=none/\H a=some (.lst (es.map V.ref))/\(L x).length<=b/\Paired (λe (p:Nat×List Int)=>∃u,H e=some (.tup [.str (au ps p.1),.ref u])/\bR H u p.2) es (L x)
 inj:∀(x y:Nat) (a:Addr),x<ps.length->y<ps.length->aO kvs (.inr (au ps x))=some (.ref a)->aO kvs (.inr (au ps y))=some (.ref a)->x=y
theorem sR(nd:(ps.map (·.1)).Nodup)(hi:i<ps.length)(hj:j<ps.length)(e:au ps i=au ps j):i=j:=by
 have h1:=sQ nd hi;rw[e,sQ nd hj] at h1
 grind
theorem iz.same(g:ai H H')(h:iz H0 H ps d b kvs L):iz H0 H' ps d b kvs L:=by
 refine⟨g _ _ h.dict,h.len,h.new,λx hx=>?_,h.inj⟩;rcases h.at_ x hx with z|⟨a,es,h1,h2,h3,h4,h5⟩;·exact .inl z
 ·exact .inr ⟨a,es,h1,h2,g _ _ h3,h4,L2.Paired.bI h5 λ_ _ ⟨u,e1,e2⟩=>⟨u,g _ _ e1,g _ _ e2⟩⟩
theorem iz.app(h:iz H0 H ps d b kvs L)(hx:x<ps.length)(hv:aO kvs (.inr (au ps x))=some (.ref a))(ha:H a=some (.lst ys))(he:H e=some (.tup [.str (au ps y),.ref u]))(hu:bR H u t)(br:aw a H H')(pB:H' a=some (.lst (ys++[.ref e]))):iz H0 H' ps d (b+1) kvs (qI L x (y,t)):=by
 have nt:∀{c:Addr} {xs:List V},H c=some (.tup xs)->c≠a:=λ{c xs} hc=>dm hc ha (λz=>by cases z);refine⟨br _ _ h.dict (dm h.dict ha (λz=>by cases z)),by have:=h.len;omega,h.new,λz hz=>?_,h.inj⟩;have en:∀{es:List Addr} {qs:List (Nat×List Int)},Paired (λe (p:Nat×List Int)=>∃u,H e=some (.tup [.str (au ps p.1),.ref u])/\bR H u p.2) es qs->Paired (λe (p:Nat×List Int)=>∃u,H' e=some (.tup [.str (au ps p.1),.ref u])/\bR H' u p.2) es qs:=λ{es qs} hp=>L2.Paired.bI hp λ_ _ ⟨u,e1,e2⟩=>⟨u,br _ _ e1 (nt e1),br _ _ e2 (nt e2)⟩;by_cases ez:z=x
 ·subst ez;rcases h.at_ z hz with⟨z1,_⟩|⟨a1,es,h1,h2,h3,h4,h5⟩;·grind
  ·obtain rfl:a1=a:=V.ref.inj (Ys (h1.symm.trans hv));rw[h3] at ha;obtain rfl:es.map V.ref=ys:=by injection ha with ha;injection ha
   refine .inr ⟨a1,es++[e],h1,h2,by rw[pB,Ym];rfl,?_,?_⟩;·unfold qI;rw[if_pos rfl,Yl];show(L z).length+1<=b+1;omega
   ·unfold qI;rw[if_pos rfl];exact iU (F:=λe (p:Nat×List Int)=>∃u,H' e=some (.tup [.str (au ps p.1),.ref u])/\bR H' u p.2) ⟨u,br _ _ he (nt he),br _ _ (show H u=some (.tup (t.map V.int)) from hu) (nt (show H u=some (.tup (t.map V.int)) from hu))⟩ (en h5)
 ·unfold qI;rw[if_neg ez];rcases h.at_ z hz with z1|⟨a1,es,h1,h2,h3,h4,h5⟩;·exact .inl z1
  ·refine .inr ⟨a1,es,h1,h2,br _ _ h3 (λq=>ez (h.inj z x a hz hx (by rw[←q];exact h1) hv)),by omega,en h5⟩
theorem iz.neu(hb:iz H0 Hb ps d b kvs L)(nd:(ps.map (·.1)).Nodup)(hx:x<ps.length)(g:ai Hb H)(np:Hb p=none)(Ah:H0 p=none)(hv:aO kvs (.inr (au ps x))=none)(hp:H p=some (.lst []))(br:aw d H H')(ze:H' d=some (.dK (kvs++[(.inr (au ps x),.ref p)]))):iz H0 H' ps d (b+1) (kvs++[(.inr (au ps x),.ref p)]) L:=by
 have h:=hb.same g;have nt:∀{c:Addr} {xs:List V},H c=some (.tup xs)->c≠d:=λ{c xs} hc=>dm hc h.dict (λz=>by cases z);have nl:∀{c:Addr} {xs:List V},H c=some (.lst xs)->c≠d:=λ{c xs} hc=>dm hc h.dict (λz=>by cases z);refine⟨ze,by rw[Yl];have:=h.len;show kvs.length+1<=b+1;omega,h.new,λz hz=>?_,λz1 z2 a l1 l2 e1 e2=>?_⟩
 ·rw[se hv];by_cases ez:z=x
  ·rw[if_pos (by rw[ez])];rcases h.at_ z hz with⟨_,z2⟩|⟨a1,es,h1,_⟩;·exact .inr ⟨p,[],rfl,Ah,br _ _ hp (nl hp),by rw[z2];exact Yw _,by rw[z2];exact .nil⟩
   ·rw[ez,hv] at h1;cases h1
  ·rw[if_neg (λq=>ez (sR nd hz hx (We q)))];rcases h.at_ z hz with z1|⟨a1,es,h1,h2,h3,h4,h5⟩;·exact .inl z1
   ·exact .inr ⟨a1,es,h1,h2,br _ _ h3 (nl h3),by omega,L2.Paired.bI h5 λ_ _ ⟨u,e1,e2⟩=>⟨u,br _ _ e1 (nt e1),br _ _ e2 (nt e2)⟩⟩
 ·have old:∀{z:Nat},z<ps.length->aO kvs (.inr (au ps z))=some (.ref p)->False:=λ{z} hz e=>by
   rcases hb.at_ z hz with⟨z1,_⟩|⟨a1,es,h1,h2,h3,_⟩;·rw[z1] at e;cases e
   ·rw[e] at h1;obtain rfl:p=a1:=V.ref.inj (Ys h1);rw[np] at h3;cases h3
  rw[se hv] at e1 e2;by_cases q1:z1=x
  ·by_cases q2:z2=x;·rw[q1,q2]
   ·rw[if_pos (by rw[q1])] at e1;rw[if_neg (λq=>q2 (sR nd l2 hx (We q))),←e1] at e2;exact absurd e2 (old l2)
  ·rw[if_neg (λq=>q1 (sR nd l1 hx (We q)))] at e1;by_cases q2:z2=x
   ·rw[if_pos (by rw[q2])] at e2;rw[←e2] at e1;exact absurd e1 (old l1)
   ·rw[if_neg (λq=>q2 (sR nd l2 hx (We q)))] at e2;exact h.inj _ _ a l1 l2 e1 e2
theorem MQ(h2:∀H Q,Q (.ref d) H->gv 2 σ H Q)(nd:(ps.map (·.1)).Nodup)(Ai:x<ps.length)(hi:∀H Q,Q (.str (au ps x)) H->gv i σ H Q)(hk:∀H Q,Q (.str (au ps y)) H->gv k σ H Q)(h:iz H0 H ps d b kvs L)(g:ai H0 H)(lb:b<1000)
  (hx:∀(H1:Hp) (Q1:VK),ai H0 H1->(∀(u:Addr) (H2:Hp),ai H1 H2->bR H2 u t->Q1 (.ref u) H2)->tx σ H1 Q1)(q:∀(v:V) (ZfR:List (Key×V)) (H':Hp),ai H0 H'->iz H0 H' ps d (b+2) ZfR (qI L x (y,t))->Q v H'):wo K "list" Nd (EF (gv 2) (gv i) (Rn je)) (ig (vL (ig (gv k) (ig tx je))) je) σ H Q:=by
 have sz:(10000:Nat)<=sizeLine:=by rw[sizeLine_eq];omega
 have ln:=h.len;unfold wo EF;refine h2 _ _ ⟨d,rfl,.inl ⟨_,.inl h.dict⟩,hi _ _ ⟨by show 0<=sizeLine;exact Yw _,λp H1 np g1 hp=>⟨kvs,.inr (au ps x),g1 _ _ h.dict,rfl,by omega,λv hv=>?_,λhv H2 b2 e2=>?_⟩⟩⟩
 ·rcases h.at_ x Ai with⟨z1,_⟩|⟨a,es,h3,h4,h5,h6,h7⟩;·grind
  obtain rfl:v=.ref a:=Ys (hv.symm.trans h3);have pl:=cU h7;refine⟨.inl ⟨rfl,_,ak.of (g1 _ _ h5)⟩,?_⟩;unfold ig vL;refine hk _ _ (hx _ _ (g.trans g1) λu H2 g2 hu=>⟨by show 2<=sizeLine;omega,λe H3 ne g3 he=>?_⟩);have eQ:=(g1.trans g2).trans g3;refine⟨a,_,_,rfl,rfl,eQ _ _ h5,by rw[Ya];omega,λH4 b4 e4=>?_⟩;have nn:=(h.same eQ).app Ai h3 (eQ _ _ h5) he (g3 _ _ hu) b4 e4;exact q _ _ H4 (λc o e=>b4 _ _ (eQ _ _ (g _ _ e)) (ck e h4)) ⟨nn.dict,by have:=nn.len;omega,nn.new,λz hz=>by
   rcases nn.at_ z hz with w|⟨a,es,w1,w2,w3,w4,w5⟩;·exact .inl w
   ·exact .inr ⟨a,es,w1,w2,w3,by omega,w5⟩,nn.inj⟩
 ·have Ah:=g.free np;have dB:=b2 _ _ hp (dm hp (g1 _ _ h.dict) (λz=>by cases z));have gg:ai H0 H2:=λc o e=>b2 _ _ (g1 _ _ (g _ _ e)) (ck e h.new);refine⟨.inl ⟨rfl,_,ak.of dB⟩,?_⟩;unfold ig vL;refine hk _ _ (hx _ _ gg λu H3 g3 hu=>⟨by show 2<=sizeLine;omega,λe H4 ne g4 he=>?_⟩);have Aj:=g3.trans g4;refine⟨p,_,_,rfl,rfl,Aj _ _ dB,by show 0<sizeLine;omega,λH5 b5 e5=>?_⟩;have vx:aO (kvs++[(Sum.inr (au ps x),V.ref p)]) (.inr (au ps x))=some (.ref p):=by rw[se hv,if_pos rfl]
  exact q _ _ H5 (λc o e=>b5 _ _ (Aj _ _ (gg _ _ e)) (ck e Ah)) (((h.neu nd Ai g1 np Ah hv hp b2 e2).same Aj).app Ai vx (Aj _ _ dB) he (g4 _ _ hu) b5 e5)
def JD(H:Hp)(ps:bM)(a:Addr)(c:Fc):Prop:=∃z:Int,H a=some (.tup [.int z,.str c.k,.str (au ps c.one),kV (bh ps c)])
def FL(H:Hp)(ps:bM)(fa:Addr)(F:List Fc):Prop:=∃as:List Addr,H fa=some (.lst (as.map V.ref))/\Paired (JD H ps) as F
abbrev sY(m f w s:Addr):List (Key×V):=[(.inr "mother",.ref m),(.inr "father",.ref f),(.inr "wed",.ref w),(.inr "sibling",.ref s)]
def eW(H:Hp)(td:Addr)(xs ys:List Int):Prop:=∃m f w s:Addr,H td=some (.dK (sY m f w s))/\bR H m (inv xs)/\bR H f (inv (bH xs ys))/\bR H w ys/\bR H s (bp xs.length)
theorem FL.same(g:ai H H')(h:FL H ps fa F):FL H' ps fa F:=by
 obtain⟨as,h1,h2⟩:=h;exact⟨as,g _ _ h1,L2.Paired.bI h2 λ_ _ ⟨z,e⟩=>⟨z,g _ _ e⟩⟩
theorem eW.same(g:ai H H')(h:eW H td xs ys):eW H' td xs ys:=by
 obtain⟨m,f,w,s,h1,h2,h3,h4,h5⟩:=h;exact⟨m,f,w,s,g _ _ h1,g _ _ h2,g _ _ h3,g _ _ h4,g _ _ h5⟩
theorem eW.get(h:eW H td xs ys)(m:(k,tn)∈oQ xs ys):∃kvs u,H td=some (.dK kvs)/\aO kvs (.inr k)=some (.ref u)/\bR H u tn:=by
 obtain⟨a,b,c,d,h1,h2,h3,h4,h5⟩:=h;simp only[Yp,Y2,or_false] at m;rcases m with⟨rfl,rfl⟩|⟨rfl,rfl⟩|⟨rfl,rfl⟩|⟨rfl,rfl⟩;·exact⟨_,a,h1,rfl,h2⟩
 ·exact⟨_,b,h1,rfl,h3⟩
 ·exact⟨_,c,h1,rfl,h4⟩
 ·exact⟨_,d,h1,rfl,h5⟩
inductive Pl(vs:List V)(H:Hp)(Q:VK):Prop
 |mk (fa td:Addr) (ps:bM) (xs ys:List Int) (F:List Fc) (aC:vs=[.ref fa,.ref td]) (aV:FL H ps fa F) (ht:eW H td xs ys) (nd:(ps.map (·.1)).Nodup) (bc:∀c∈F,dM xs ys ps.length c) (bO:xs.length<=8) (cG:F.length<=64) (dH:∀(d:Addr) (kvs:List (Key×V)) (L:Nat->List (Nat×List Int)) (H':Hp),ai H H'->iz H H' ps d 300 kvs L->(∀x y t,(y,t)∈L x↔fh F x y t)->Q (.ref d) H'):Pl vs H Q
def F4:Sp:=λvs H Q _=>Pl vs H Q
section
theorem rX:aQ ["_law_facts","_law_turns_here","_law_found","_law_number","_law_kind","_law_one","_law_other"] ["_law_facts","_law_turns_here"] (aL DG):=⟨rfl,rfl,rfl,by decide+kernel,rfl,by decide+kernel,by decide+kernel⟩
theorem ZcG(F:aM K "_law_nets" "_law_nets" DG f fd)(pR:HasFn P w K mg base 1 "_law_inverse" ["_law_turn_here"] Gv)(bl:Bl mg):aG P w K mg base aN 2 f fd ["_law_facts","_law_turns_here"] F4:=by
 refine F.ok rX (λvs H Q E h=>?_) (λaE A outer s H vs Q E hr h=>?_)
 ·obtain⟨fa,td,ps,xs,ys,F,rfl,_⟩:=h;rfl
 obtain⟨fa,td,ps,xs,ys,F,rfl,fE,ht,eX,fgA,n8,k_,q⟩:=h;refine⟨_,(aj (bg (i:=2) rX.nd rfl (Or.inl rfl) oz) (aj (fT PassesOwn.never rfl (fR (K:=K) rfl (pv 0)) (ic (K:=K) (n:=4) rfl rfl (bW (bj (i:=3) rX.nd rfl (Or.inl rfl)) (bW (bj (i:=4) rX.nd rfl (Or.inl rfl)) (bW (bj (i:=5) rX.nd rfl (Or.inl rfl)) (bW (bj (i:=6) rX.nd rfl (Or.inl rfl)) ib))))) (aq (aS (aZ kH (pv 4) bA (aR _)) (aj (cz (m6 (K:=K) rfl (jO plainAttrs_list PySem.F.slot_list_append PySem.F.type_list_append ot (LK (pv 2) (pv 5) (df ae) ⟨rfl,rfl,rfl,rfl⟩) (aa (dv (aa (pv 6) (aa (c9 (bB hr) (pv 1) (pv 4) (λ_ _=>rfl)) ae))) ae)))) (aq (cz (m6 (K:=K) rfl (jO plainAttrs_list PySem.F.slot_list_append PySem.F.type_list_append ot (LK (pv 2) (pv 6) (df ae) ⟨rfl,rfl,rfl,rfl⟩) (aa (dv (aa (pv 5) (aa (aT pR hr (by omega) rfl (aa (c9 (bB hr) (pv 1) (pv 4) (λ_ _=>rfl)) ae)) ae))) ae)))))) aY))) (aq (aF (pv 2))))),?_⟩;refine cy ?_;refine λd H1 nd g1 hd=>?_;obtain⟨as,cM,dP⟩:=id fE;have al:=cU dP;have sz:(10000:Nat)<=sizeLine:=by rw[sizeLine_eq];omega
 refine gu (λσ H6=>∃(kvs:List (Key×V)) (L:Nat->List (Nat×List Int)) (o1 o2 o3 o4:Option V),ai H H6/\iz H H6 ps d 300 kvs L/\(∀x y t,(y,t)∈L x↔fh F x y t)/\σ=[some (.ref fa),some (.ref td),some (.ref d),o1,o2,o3,o4]) (λl_ eS=>?_) ?_
 ·refine⟨_,rfl,fa,rfl,⟨_,ak.of (g1 _ _ cM)⟩,jH (K:=K) (a:=fa) (xs:=as.map V.ref) (λj σ H6=>∃(kvs:List (Key×V)) (L:Nat->List (Nat×List Int)) (o1 o2 o3 o4:Option V),ai H H6/\iz H H6 ps d (4*j) kvs L/\(∀x y t,(y,t)∈L x↔fh (F.take j) x y t)/\σ=[some (.ref fa),some (.ref td),some (.ref d),o1,o2,o3,o4])
   ⟨[],λ_=>[],none,none,none,none,g1,⟨hd,Yd _,nd,λx _=>.inl ⟨rfl,rfl⟩,λ_ _ _ _ _ e=>(nomatch e)⟩,λx y t=>⟨λz=>(nomatch z),λz=>absurd z Zbi⟩,rfl⟩
   (λj σ H6 _ ⟨_,_,_,_,_,_,g,_⟩=>ak.of (g _ _ cM)) ?_ ?_⟩
  ·rintro j v σ H6 hj ⟨kvs,L,o1,o2,o3,o4,g,ne,ed,rfl⟩;rw[Yg] at hj;obtain⟨c0,ec,rfl⟩:∃c0,as[j]?=some c0/\V.ref c0=v:=by
    cases e:as[j]? with
    |none=>rw[e] at hj;cases hj
    |some c=>rw[e] at hj;exact⟨c,rfl,Ys hj⟩
   obtain⟨c,hU,z,hc⟩:=fQ dP ec;have mc:=Ye hU;have fg:=fgA c mc;have ok:=fg.ok;have jl:j<F.length:=(Yh.mp hU).1;have jy:F.take (j+1)=F.take j++[c]:=by rw[Yy,hU];rfl
   refine⟨c0,_,rfl,ay.of (g _ _ hc),rfl,_,_,rfl,bu ⟨_,_,rfl,bu ⟨_,_,rfl,bu ⟨_,_,rfl,bu ⟨rfl,?_⟩⟩⟩⟩⟩;have ev:∀b:Bool,decide (V.str c.k=V.str bF)=b->(b=true↔c.k=bF):=λb e=>by
    rw[←e,decide_eq_true_iff];exact⟨V.str.inj,λz=>by rw[z]⟩
   refine⟨_,rfl,rfl,_,rfl,?_⟩;refine bC (λcc=>?_) (λcc=>aX ?_)
   ·have ns:c.k≠bF:=λz=>by
     rw[(ev _ rfl).mpr z] at cc;cases cc
    obtain⟨tk,u,dD,vu,hu⟩:=ht.get (fg.tF ns);obtain⟨⟨o0,om⟩,ft,tl⟩:=ok.gf ns;have eo:kV (bh ps c)=.str (au ps c.aJ.toNat):=by rw[ia ns];rfl
    refine MQ (ps:=ps) (x:=c.one) (y:=c.aJ.toNat) (t:=c.tn) (λ_ _ h=>⟨_,rfl,h⟩) eX ok.one (λ_ _ h=>⟨_,rfl,h⟩) (λ_ _ h=>⟨_,rfl,by rw[eo];exact h⟩) ne g (by omega) (λH2 Q2 g2 k2=>⟨_,rfl,_,rfl,td,.ref u,rfl,cY (g2 _ _ dD) vu,k2 u H2 (ai.refl _) (g2 _ _ hu)⟩) λv2 ZgN H2 g2 n2=>?_;refine MQ (ps:=ps) (x:=c.aJ.toNat) (y:=c.one) (t:=inv c.tn) (λ_ _ h=>⟨_,rfl,h⟩) eX om (λ_ _ h=>⟨_,rfl,by rw[eo];exact h⟩) (λ_ _ h=>⟨_,rfl,h⟩) n2 g2 (by omega) (λH3 Q3 g3 k3=>⟨_,rfl,_,rfl,td,.ref u,rfl,cY (g3 _ _ dD) vu,u,c.tn,rfl,g3 _ _ hu,by omega,ft,λw H4 _ g4 hw=>k3 w H4 g4 hw⟩) λv3 ZfS H3 g3 n3=>?_;refine⟨ZfS,_,_,_,_,_,g3,n3,λx y t=>?_,rfl⟩;rw[jy,oC,NF,NF,ed]
    grind
   ·have sd:c.k=bF:=by
     by_cases z:c.k=bF;·exact z
     ·cases e:decide (V.str c.k=V.str bF) with
      |true=>exact absurd ((ev _ e).mp rfl) z
      |false=>rw[e] at cc;exact absurd rfl cc
    refine⟨kvs,L,_,_,_,_,g,⟨ne.dict,by have:=ne.len;omega,ne.new,λz hz=>?_,ne.inj⟩,λx y t=>?_,rfl⟩
    ·rcases ne.at_ z hz with w|⟨a,es,w1,w2,w3,w4,w5⟩;·exact .inl w
     ·exact .inr ⟨a,es,w1,w2,w3,by omega,w5⟩
    ·rw[jy,oC,ed];exact⟨.inl,λh=>h.elim id λz=>absurd sd z.1⟩
  ·rintro σ H6 ⟨kvs,L,o1,o2,o3,o4,g,ne,ed,rfl⟩;rw[Ya,al] at ne;rw[Ya,al,Y8] at ed;refine eS _ _ ⟨kvs,L,o1,o2,o3,o4,g,⟨ne.dict,by have:=ne.len;omega,ne.new,λz hz=>?_,ne.inj⟩,ed,rfl⟩;rcases ne.at_ z hz with w|⟨a,es,w1,w2,w3,w4,w5⟩;·exact .inl w
   ·exact .inr ⟨a,es,w1,w2,w3,by omega,w5⟩
 rintro σ H6 ⟨kvs,L,o1,o2,o3,o4,g,ne,ed,rfl⟩;exact⟨_,rfl,q d kvs L H6 g ne ed⟩
end
theorem QN{t:List Int}{z:Int}(h0:0<=z)(h:z<t.length):dI (t.map V.int) z=some (.int (ap t z)):=lN h0 h
def gN(ps:bM)(g:List (Nat×Int)):List (Key×V):=g.map λp=>(.inr (au ps p.1),.int p.2)
def oh(ps:bM)(g:List (Nat×Int)):List V:=g.map λp=>.str (au ps p.1)
theorem QO(ps:bM)(g:List (Nat×Int)):(gN ps g).length=g.length:=Ya _
theorem Pm(ps:bM)(g:List (Nat×Int)):(oh ps g).length=g.length:=Ya _
theorem m8(nd:(ps.map (·.1)).Nodup)(hk:k<ps.length):∀{g:List (Nat×Int)},(∀p∈g,p.1<ps.length)->aO (gN ps g) (.inr (au ps k))=(g.lookup k).map V.int
 |[],_=>rfl
 |p::g,lt=>by
  have e0:gN ps (p::g)=(Sum.inr (au ps p.1),V.int p.2)::gN ps g:=rfl;rw[e0,W1];by_cases e:k=p.1
  ·rw[beq_iff_eq.mpr e,e_ (p:=((Sum.inr (au ps p.1):Key),V.int p.2)) (by rw[e])];rfl
  ·rw[beq_eq_false_iff_ne.mpr e,eM (p:=((Sum.inr (au ps p.1):Key),V.int p.2)) (λz=>e (sR nd hk (lt p Yk) (We (show(Sum.inr (au ps p.1):Key)=Sum.inr (au ps k) from z)).symm))];exact m8 nd hk λq hq=>lt q (Yx _ hq)
theorem ZcH{ps:bM}{g:List (Nat×Int)}{r k:Nat}{v:Int}(h:g[r]?=some (k,v)):dI (oh ps g) (r:Int)=some (.str (au ps k)):=gq (by unfold oh;rw[Yg,h];rfl)
def ux(ps:bM)(d fa fn bq:Addr)(x:Nat)(a:Int)(r:Nat)(o7 o8 o9 pJ pK pL pM:Option V):St:=[some (.ref d),some (.ref fa),some (.str (au ps x)),some (.int a),some (.ref fn),some (.ref bq),some (.int (r:Int)),o7,o8,o9,pJ,pK,pL,pM]
def muC(m:Nat):St->Hp->Nat:=λσ _=>match List.getD (α:=Option V) σ 6 none with|some (V.int z)=>m+1-z.toNat|_=>0
inductive RC(H:Hp)(F:List Fc)(L:Nat->List (Nat×List Int))(n:Nat)(ps:bM)(d fa fn bq:Addr)(x:Nat)(a:Int)(σ:St)(H6:Hp):Prop
 |mk (g:List (Nat×Int)) (r:Nat) (o7 o8 o9:Option V) (aC:ai H H6) (aV:H6 fn=some (.dK (gN ps g))) (bc:H6 bq=some (.lst (oh ps g))) (bO:BF F n ps.length x a g) (cG:r<=g.length) (dH:(∀r',r'<r->Cl L g r')) (gc:σ=ux ps d fa fn bq x a r o7 o8 o9 none none none none):RC H F L n ps d fa fn bq x a σ H6
def ZfT(H:Hp)(F:List Fc)(L:Nat->List (Nat×List Int))(n:Nat)(ps:bM)(d fa fn bq:Addr)(x:Nat)(a:Int)(σ:St)(H6:Hp):Prop:=RC H F L n ps d fa fn bq x a σ H6
inductive RD(H:Hp)(F:List Fc)(L:Nat->List (Nat×List Int))(n:Nat)(ps:bM)(d fa fn bq:Addr)(x:Nat)(a:Int)(σ:St)(H6:Hp):Prop
 |mk (g:List (Nat×Int)) (r:Nat) (o7 o8 o9:Option V) (aC:ai H H6) (aV:H6 fn=some (.dK (gN ps g))) (bc:BF F n ps.length x a g) (bO:(∀r',r'<g.length->Cl L g r')) (cG:σ=ux ps d fa fn bq x a r o7 o8 o9 none none none none):RD H F L n ps d fa fn bq x a σ H6
def ZfU(H:Hp)(F:List Fc)(L:Nat->List (Nat×List Int))(n:Nat)(ps:bM)(d fa fn bq:Addr)(x:Nat)(a:Int)(σ:St)(H6:Hp):Prop:=RD H F L n ps d fa fn bq x a σ H6
inductive SE(H:Hp)(F:List Fc)(L:Nat->List (Nat×List Int))(n:Nat)(ps:bM)(d fa fn bq:Addr)(x:Nat)(a:Int)(r k:Nat)(v:Int)(g:List (Nat×Int))(al:Addr)(es:List Addr)(j:Nat)(σ:St)(H8:Hp):Prop
 |mk (g' tl:List (Nat×Int)) (o8 o9:Option V) (aC:ai H H8) (aV:H8 al=some (.lst (es.map V.ref))) (bc:H8 fn=some (.dK (gN ps g'))) (bO:H8 bq=some (.lst (oh ps g'))) (cG:BF F n ps.length x a g') (dH:g'=g++tl) (gc:(∀q∈(L k).take j,g'.lookup q.1=some (ap q.2 v))) (g_:σ=ux ps d fa fn bq x a r (some (.str (au ps k))) o8 o9 none none none none):SE H F L n ps d fa fn bq x a r k v g al es j σ H8
def CIn(H:Hp)(F:List Fc)(L:Nat->List (Nat×List Int))(n:Nat)(ps:bM)(d fa fn bq:Addr)(x:Nat)(a:Int)(r k:Nat)(v:Int)(g:List (Nat×Int))(al:Addr)(es:List Addr)(j:Nat)(σ:St)(H8:Hp):Prop:=SE H F L n ps d fa fn bq x a r k v g al es j σ H8
inductive RE(H:Hp)(F:List Fc)(L:Nat->List (Nat×List Int))(n:Nat)(ps:bM)(d fa fn bq:Addr)(x:Nat)(a:Int)(r k:Nat)(v:Int)(g:List (Nat×Int))(σ:St)(H8:Hp):Prop
 |mk (g' tl:List (Nat×Int)) (o8 o9:Option V) (aC:ai H H8) (aV:H8 fn=some (.dK (gN ps g'))) (bc:H8 bq=some (.lst (oh ps g'))) (bO:BF F n ps.length x a g') (cG:g'=g++tl) (dH:(∀q∈L k,g'.lookup q.1=some (ap q.2 v))) (gc:σ=ux ps d fa fn bq x a r (some (.str (au ps k))) o8 o9 none none none none):RE H F L n ps d fa fn bq x a r k v g σ H8
def ZfV(H:Hp)(F:List Fc)(L:Nat->List (Nat×List Int))(n:Nat)(ps:bM)(d fa fn bq:Addr)(x:Nat)(a:Int)(r k:Nat)(v:Int)(g:List (Nat×Int))(σ:St)(H8:Hp):Prop:=RE H F L n ps d fa fn bq x a r k v g σ H8
inductive RF(H:Hp)(F:List Fc)(n:Nat)(ps:bM)(d fa fn bq:Addr)(x:Nat)(a:Int)(r k y:Nat)(u:Addr)(g':List (Nat×Int))(al:Addr)(es:List Addr)(σ:St)(H9:Hp):Prop
 |mk (pN JE:List (Nat×Int)) (v':Int) (aC:ai H H9) (aV:H9 al=some (.lst (es.map V.ref))) (bc:H9 fn=some (.dK (gN ps pN))) (bO:H9 bq=some (.lst (oh ps pN))) (cG:BF F n ps.length x a pN) (dH:pN=g'++JE) (gc:pN.lookup y=some v') (g_:σ=ux ps d fa fn bq x a r (some (.str (au ps k))) (some (.str (au ps y))) (some (.ref u)) none none none none):RF H F n ps d fa fn bq x a r k y u g' al es σ H9
def ZfW(H:Hp)(F:List Fc)(n:Nat)(ps:bM)(d fa fn bq:Addr)(x:Nat)(a:Int)(r k y:Nat)(u:Addr)(g':List (Nat×Int))(al:Addr)(es:List Addr)(σ:St)(H9:Hp):Prop:=RF H F n ps d fa fn bq x a r k y u g' al es σ H9
def RG(ps:bM)(F:List Fc)(H6:Hp)(d fa fn bq:Addr)(x:Nat)(a:Int)(r:Nat)(g:List (Nat×Int))(o7 o8 o9:Option V)(σ:St)(H8:Hp):Prop:=H8=H6/\(∀c∈F,c.k=bF->∀u,g.lookup c.one=some u->u=c.aJ)/\∃pJ pK pL pM:Option V,σ=ux ps d fa fn bq x a r o7 o8 o9 pJ pK pL pM
inductive L1(vs:List V)(H:Hp)(Q:VK):Prop
 |mk (H0:Hp) (d fa:Addr) (kvs:List (Key×V)) (L:Nat->List (Nat×List Int)) (n:Nat) (ps:bM) (F:List Fc) (x:Nat) (a:Int) (aC:vs=[.ref d,.ref fa,.str (au ps x),.int a]) (nd:(ps.map (·.1)).Nodup) (aV:iz H0 H ps d 300 kvs L) (bc:(∀x y t,(y,t)∈L x↔fh F x y t)) (bO:FL H ps fa F) (cG:(∀c∈F,du n ps.length c)) (dH:n<=8) (gc:ps.length<=100) (g_:F.length<=64) (nT:x<ps.length) (t4:(0<=a/\a<(n:Int))) (G1:((¬∃g,fU n F g/\g x=some a)->∀H',ai H H'->Q .aA H')) (Si:∀(p:Addr) (g:List (Nat×Int)) (H':Hp),ai H H'->H' p=some (.dK (gN ps g))->BF F n ps.length x a g->fU n F (λk=>g.lookup k)->Q (.ref p) H'):L1 vs H Q
def El:Sp:=λvs H Q _=>L1 vs H Q
section
theorem jE:aQ ["_law_nets_here","_law_facts","_law_name_here","_law_section","_law_found","_law_row_here","_law_at","_law_here","_law_that","_law_turn_here","_law_number","_law_kind","_law_one","_law_said"] ["_law_nets_here","_law_facts","_law_name_here","_law_section"] (aL B3):=⟨rfl,rfl,rfl,by decide+kernel,rfl,by decide+kernel,by decide+kernel⟩
theorem Zq(F:aM K "_law_carried" "_law_carried" B3 f fd)(bl:Bl mg):aG P w K mg base aN 1 f fd ["_law_nets_here","_law_facts","_law_name_here","_law_section"] El:=by
 refine F.ok jE (λvs H Q E h=>?_) (λaE A outer s H vs Q E hr h=>?_)
 ·obtain⟨H0,d,fa,kvs,L,n,ps,F,x,a,rfl,_⟩:=h;rfl
 obtain⟨H0,d,fa,kvs,L,n,ps,F,x,a,rfl,eX,tP,ed,fE,gh,n8,qL,k_,hx,ZfX,q1,q2⟩:=h;refine⟨_,(aj (bg (i:=4) jE.nd rfl (Or.inl rfl) (yo (iW (pv 2) (pv 3) yn) rfl rfl (λz=>nomatch z) (Jg rfl))) (aj (bg (i:=5) jE.nd rfl (Or.inl rfl) (df (aa (pv 2) ae))) (aj (bg (i:=6) jE.nd rfl (Or.inl rfl) aI) (aj (EC PassesOwn.never (aZ lQ (pv 6) (bJ (c5 (K:=K) rfl) rfl bl.cQ cP (aa (pv 5) ae)) (aR _)) (aj (bg (i:=7) jE.nd rfl (Or.inl rfl) (a9 (cB (K:=K) rfl) (pv 5) (pv 6) (λ_ _=>rfl))) (aj (fT PassesOwn.never rfl (fR (K:=K) rfl (ZaM (bB hr) (pv 0) (pv 7) (df ae) ⟨rfl,rfl,rfl,rfl⟩)) (ic (K:=K) (n:=2) rfl rfl (bW (bj (i:=8) jE.nd rfl (Or.inl rfl)) (bW (bj (i:=9) jE.nd rfl (Or.inl rfl)) ib))) (aj (aS (i6 (lD (bB hr) (pv 8) (pv 4)) (by with_unfolding_all rfl)) (aj (lG (bB hr) (pv 4) (pv 8) (a9 (eI (K:=K) rfl) (pv 9) (c9 (bB hr) (pv 4) (pv 7) (λ_ _=>rfl)) (λ_ _=>rfl))) (aq (cz (m6 (K:=K) rfl (jO plainAttrs_list PySem.F.slot_list_append PySem.F.type_list_append ot (pv 5) (aa (pv 8) ae)))))) aY) (aq (aS (aZ kH (c9 (bB hr) (pv 4) (pv 8) (λ_ _=>rfl)) (a9 (eI (K:=K) rfl) (pv 9) (c9 (bB hr) (pv 4) (pv 7) (λ_ _=>rfl)) (λ_ _=>rfl)) (aR _)) (aq (aF kA)) aY)))) (aq (FH (i:=6) jE.nd rfl (Or.inl rfl) aI PN))))) (aj (fT PassesOwn.never rfl (fR (K:=K) rfl (pv 1)) (ic (K:=K) (n:=4) rfl rfl (bW (bj (i:=10) jE.nd rfl (Or.inl rfl)) (bW (bj (i:=11) jE.nd rfl (Or.inl rfl)) (bW (bj (i:=12) jE.nd rfl (Or.inl rfl)) (bW (bj (i:=13) jE.nd rfl (Or.inl rfl)) ib))))) (aq (aS (PW.pt (pw_and (aZ cg (pv 11) bA (aR _)) (pw_and (i6 (yD (bB hr) (pv 12) (pv 4)) (by with_unfolding_all rfl)) (pw_and1 (aZ kH (c9 (bB hr) (pv 4) (pv 12) (λ_ _=>rfl)) (pv 13) (aR _)))))) (aq (aF kA)) aY))) (aq (aF (pv 4)))))))),?_⟩;refine cy ?_;refine λfn Ak=>⟨_,rfl,_,rfl,aU,[(.inr (au ps x),.int a)],rfl,(by show 1<=15;omega),?_⟩;obtain⟨H1,pH⟩:∃H1,H1=upd (upd H fn (.dK [])) fn (.dK (m5 [] [(.inr (au ps x),.int a)])):=⟨_,rfl⟩;have g1:ai H H1:=λb o e=>by rw[pH,aP (ck e Ak),aP (ck e Ak)];exact e
 have h1:H1 fn=some (.dK (gN ps [(x,a)])):=by rw[pH,aU];rfl
 rw[←pH];refine cy ?_;refine⟨_,rfl,by show 1<=sizeLine;rw[sizeLine_eq];omega,λbq H2 xv g2 JG=>?_⟩;refine setC ?_;have SF:=g1.free xv;have fr_ne:fn≠bq:=λz=>by rw[←z,h1] at xv;cases xv
 have sz:(10000:Nat)<=sizeLine:=by rw[sizeLine_eq];omega
 have hdH:=tP.dict;obtain⟨as,cM,dP⟩:=id fE;have al:=cU dP;refine gu (ZfU H F L n ps d fa fn bq x a) (λl_ eS=>?_) ?_
 ·refine ED (ZfT H F L n ps d fa fn bq x a) (muC ps.length)
   ⟨[(x,a)],0,none,none,none,g1.trans g2,g2 _ _ h1,JG,bf0 hx ZfX,Yw _,λ_ z=>absurd z (Wj _),rfl⟩ ?_ ?_
  ·rintro σ H6 ⟨g,r,o7,o8,o9,g6,rD,mE,bf,rl,cl,rfl⟩;have kl:=Pm ps g;have gl:=bf.len;refine⟨_,rfl,_,rfl,bq,_,rfl,.inl (ak.of mE),_,_,rfl,rfl,_,rfl,?_⟩;rw[kl];refine bC (λc=>?_) (λc=>?_)
   ·have uy:r<g.length:=by have:=of_decide_eq_true c;omega
    obtain⟨k,v,JH⟩:∃(k:Nat) (v:Int),g[r]?=some (k,v):=⟨g[r].1,g[r].2,Yc uy⟩;have UO:(k,v)∈g:=Ye JH;have lkv:g.lookup k=some v:=mem_lookup bf.nd UO;obtain⟨km,v0,vn⟩:=bf.lt _ UO;have UP:=g6 _ _ hdH;refine cy ?_;refine⟨_,rfl,_,rfl,bq,_,_,_,rfl,rfl,ak.of mE,ZcH JH,?_⟩;refine gu (ZfV H F L n ps d fa fn bq x a r k v g) (λz9 mw=>?_) ?_
    ·refine⟨_,rfl,d,rfl,.inl ⟨_,.inl UP⟩,_,rfl,by show 0<=sizeLine;exact Yw _,λe0 H7 xw g7 wZ=>?_⟩;have fn7:=g7 _ _ rD;have rw7:=g7 _ _ mE;have nf0:e0≠fn:=λz=>by rw[z,rD] at xw;cases xw
     have nr0:e0≠bq:=λz=>by rw[z,mE] at xw;cases xw
     obtain⟨al,es,eal,UQ,ZfY,ZfZ,UR⟩:∃(al:Addr) (es:List Addr),(aO kvs (.inr (au ps k))).getD (.ref e0)=.ref al/\H7 al=some (.lst (es.map V.ref))/\al≠fn/\al≠bq/\Paired (λe (p:Nat×List Int)=>∃u,H e=some (.tup [.str (au ps p.1),.ref u])/\bR H u p.2) es (L k):=by
      rcases tP.at_ k km with⟨z1,z2⟩|⟨a1,es,w1,w2,w3,w4,w5⟩;·exact⟨e0,[],by rw[z1];rfl,wZ,nf0,nr0,by rw[z2];exact .nil⟩
      ·exact⟨a1,es,by rw[w1];rfl,g7 _ _ (g6 _ _ w3),ck w3 Ak,ck w3 SF,w5⟩
     have esl:=cU UR;refine⟨_,cY (g7 _ _ UP) rfl,al,eal,⟨_,ak.of UQ⟩,jH (K:=K) (a:=al) (xs:=es.map V.ref) (CIn H F L n ps d fa fn bq x a r k v g al es)
      ⟨g,[],o8,o9,g6.trans g7,UQ,fn7,rw7,bf,by rw[Wf],λq hq=>(nomatch hq),rfl⟩ (λj σ H8 _ ⟨_,_,_,_,_,h,_,_,_,_,_,_⟩=>ak.of h) ?_ ?_⟩
     ·rintro j w σ H8 hj ⟨g',tl,p8,p9,g8,G7,iS,jz,mF,eg,hX,rfl⟩;rw[Yg] at hj;obtain⟨e,ee,rfl⟩:∃e,es[j]?=some e/\V.ref e=w:=by
       cases z:es[j]? with
       |none=>rw[z] at hj;cases hj
       |some c=>rw[z] at hj;exact⟨c,rfl,Ys hj⟩
      obtain⟨⟨y,t⟩,US,u,he,hu⟩:=fQ UR ee;have G8:fh F k y t:=(ed _ _ _).mp (Ye US);obtain⟨_,ym,ft,tl8⟩:=ve gh G8;have JI:g'.lookup k=some v:=by rw[eg];exact xI lkv
      have vb:v<(t.length:Int):=by rw[tl8];exact vn
      have gl8:=mF.len;have he8:H8 e=some (.tup [.str (au ps y),.ref u]):=g8 _ _ he;have I_:(L k).take (j+1)=(L k).take j++[(y,t)]:=by rw[Yy,US];rfl
      refine⟨e,_,rfl,ay.of he8,rfl,_,_,rfl,bu ⟨_,_,rfl,bu ⟨rfl,?_⟩⟩⟩;refine mZ (ZfW H F n ps d fa fn bq x a r k y u g' al es) (λoa fk=>?_) ?_
      ·refine⟨_,rfl,_,rfl,fn,_,rfl,cY iS (m8 eX ym λp hp=>(mF.lt p hp).1),_,rfl,?_⟩;cases ly:g'.lookup y with
       |none=>
        refine cV ?_;refine⟨_,rfl,_,rfl,_,rfl,fn,.int v,rfl,cY iS (by rw[m8 eX km λp hp=>(mF.lt p hp).1,JI];rfl),u,_,_,_,rfl,rfl,ay.of (g8 _ _ hu),QN v0 vb,_,rfl,_,rfl,fn,_,.inr (au ps y),rfl,iS,rfl,by rw[QO];omega,λH9 b9 e9=>?_⟩;have vn0:aO (gN ps g') (.inr (au ps y))=none:=by rw[m8 eX ym λp hp=>(mF.lt p hp).1,ly];rfl
        rw[jI _ vn0] at e9;have rE:=b9 _ _ jz (λz=>fr_ne z.symm);refine⟨_,rfl,.inl ⟨rfl,_,ak.of rE⟩,_,rfl,bq,_,_,rfl,rfl,rE,by rw[Pm];omega,λnQ xx nW=>?_⟩;refine fk _ _ ⟨g'++[(y,ap t v)],[(y,ap t v)],ap t v,λc o z=>xx _ _ (b9 _ _ (g8 _ _ z) (ck z Ak)) (ck z SF),xx _ _ (b9 _ _ G7 ZfY) ZfZ,?_,?_,mF.add gh G8 JI ly,rfl,LU ly,rfl⟩;·rw[xx _ _ e9 fr_ne,gN,gN,Ym];rfl
        ·rw[nW,oh,oh,Ym];rfl
       |some v'=>
        refine bY (aX ?_);exact fk _ _ ⟨g',[],v',g8,G7,iS,jz,mF,by rw[Wf],ly,rfl⟩
      ·rintro σ H9 ⟨pN,JE,v',g9,Zf0,mC,rE,Al,JJ,lv,rfl⟩;have UT:pN.lookup k=some v:=by rw[JJ];exact xI JI
       refine⟨_,rfl,_,rfl,fn,.int v',rfl,cY mC (by rw[m8 eX ym λp hp=>(Al.lt p hp).1,lv];rfl),_,rfl,_,rfl,_,rfl,fn,.int v,rfl,cY mC (by rw[m8 eX km λp hp=>(Al.lt p hp).1,UT];rfl),u,_,_,_,rfl,rfl,ay.of (g9 _ _ hu),QN v0 vb,rfl,_,rfl,?_⟩;refine bC (λc=>?_) (λc=>aX ?_)
       ·refine q1 (Al.ZeI G8 UT lv λz=>?_) H9 g9;rw[z] at c;simp at c
       ·have ev:v'=ap t v:=by
         by_cases z:v'=ap t v;·exact z
         ·exact absurd (by simp[z]) c
        refine⟨pN,tl++JE,_,_,g9,Zf0,mC,rE,Al,by rw[JJ,eg,Jj],λq hq=>?_,rfl⟩;rw[I_] at hq;rcases Yu.mp hq with hq|hq;·rw[JJ];exact xI (hX q hq)
        ·rw[Yo] at hq;rw[hq,lv,ev]
     ·rintro σ H8 ⟨g',tl,p8,p9,g8,G7,iS,jz,mF,eg,hX,rfl⟩;rw[Ya,esl,Y8] at hX;exact mw _ _ ⟨g',tl,p8,p9,g8,iS,jz,mF,eg,hX,rfl⟩
    ·rintro σ H8 ⟨g',tl,p8,p9,g8,iS,jz,mF,eg,hX,rfl⟩;have rr:r<(g++tl).length:=by rw[Yl];omega
     have ge:(g++tl)[r]?=some (k,v):=by rw[Wd uy];exact JH
     have jZ:((r:Int)+1)=((r+1:Nat):Int):=by omega
     refine⟨_,rfl,_,_,rfl,rfl,?_⟩;refine⟨⟨g',r+1,some (.str (au ps k)),p8,p9,g8,iS,jz,mF,by rw[eg];exact rr,λr' h'=>?_,rfl⟩,?_⟩
     ·rw[eg];by_cases z:r'=r
      ·subst z;intro p hp qq hq;rw[ge] at hp;cases hp;rw[←eg];exact hX qq hq
      ·exact(cl r' (by omega)).app (by omega)
     ·show ps.length+1-((r:Int)+1).toNat<ps.length+1-((r:Int)).toNat;omega
   ·have re:¬((r:Int)<(g.length:Int)):=λz=>c (decide_eq_true z);exact eS _ _ ⟨g,r,o7,o8,o9,g6,rD,bf,λr' h'=>cl r' (by omega),rfl⟩
  ·rintro σ H6 Q1 Q2 mo ⟨v1,w1,v2,w2,v3,v4,w3,w4,v5,v6,w5,w6,v7,w7,h⟩;exact⟨v1,w1,v2,w2,v3,v4,w3,w4,v5,v6,w5,w6,v7,w7,mo _ _ h⟩
 rintro σ H6 ⟨g,r,o7,o8,o9,g6,rD,bf,cl,rfl⟩;refine gu (RG ps F H6 d fa fn bq x a r g o7 o8 o9) (λl_ eS=>?_) ?_
 ·refine⟨_,rfl,fa,rfl,⟨_,ak.of (g6 _ _ cM)⟩,jH (K:=K) (a:=fa) (xs:=as.map V.ref) (λj=>RG ps (F.take j) H6 d fa fn bq x a r g o7 o8 o9)
   ⟨rfl,λc hc=>(nomatch hc),none,none,none,none,rfl⟩ (λj σ H8 _ ⟨e,_⟩=>by rw[e];exact ak.of (g6 _ _ cM)) ?_ ?_⟩
  ·rintro j v σ H8 hj ⟨rfl,sd,pJ,pK,pL,pM,rfl⟩;rw[Yg] at hj;obtain⟨c0,ec,rfl⟩:∃c0,as[j]?=some c0/\V.ref c0=v:=by
    cases e:as[j]? with
    |none=>rw[e] at hj;cases hj
    |some c=>rw[e] at hj;exact⟨c,rfl,Ys hj⟩
   obtain⟨c,hU,z,hc⟩:=fQ dP ec;have mc:=Ye hU;have jy:F.take (j+1)=F.take j++[c]:=by rw[Yy,hU];rfl
   refine⟨c0,_,rfl,ay.of (g6 _ _ hc),rfl,_,_,rfl,bu ⟨_,_,rfl,bu ⟨_,_,rfl,bu ⟨_,_,rfl,bu ⟨rfl,?_⟩⟩⟩⟩⟩;have ev:∀b:Bool,decide (V.str c.k=V.str bF)=b->(b=true↔c.k=bF):=λb e=>by
    rw[←e,decide_eq_true_iff];exact⟨V.str.inj,λz=>by rw[z]⟩
   have uz:(c.k=bF->∀u,g.lookup c.one=some u->u=c.aJ)->∃pJ pK pL pM:Option V,(H8=H8/\∀c∈F.take (j+1),c.k=bF->∀u,g.lookup c.one=some u->u=c.aJ)/\True:=λh=>⟨none,none,none,none,⟨rfl,λc' m'=>by
    rw[jy] at m';rcases Yu.mp m' with m'|m';·exact sd c' m'
    ·rw[Yo] at m';rw[m'];exact h⟩,trivial⟩
   refine⟨_,rfl,rfl,_,rfl,bC (λcc=>?_) (λcc=>?_)⟩
   ·have sk:=(ev _ rfl).mp cc;have eo:kV (bh ps c)=.int c.aJ:=by rw[lE sk];rfl
    refine⟨_,rfl,_,rfl,fn,_,rfl,cY rD (m8 eX (gh c mc).one λp hp=>(bf.lt p hp).1),_,rfl,?_⟩;cases lk:g.lookup c.one with
    |none=>
     refine bY (bY (aX ?_));obtain⟨_,_,_,_,⟨_,h⟩,_⟩:=uz λ_ u e=>by rw[lk] at e;cases e
     exact⟨rfl,h,_,_,_,_,rfl⟩
    |some u=>
     refine cV ?_;refine⟨_,rfl,_,rfl,fn,.int u,rfl,cY rD (by rw[m8 eX (gh c mc).one λp hp=>(bf.lt p hp).1,lk];rfl),_,rfl,by rw[eo];rfl,_,rfl,bC (λc2=>?_) (λc2=>aX ?_)⟩
     ·refine q1 (bf.Zd1 mc sk lk λz=>?_) H8 g6;rw[z,eo] at c2;simp at c2
     ·have eu:u=c.aJ:=by
       by_cases z:u=c.aJ;·exact z
       ·exact absurd (by rw[eo];simp[z]) c2
      obtain⟨_,_,_,_,⟨_,h⟩,_⟩:=uz λ_ u' e=>by rw[lk] at e;rw[←Ys e];exact eu
      exact⟨rfl,h,_,_,_,_,rfl⟩
   ·refine bY (aX ?_);obtain⟨_,_,_,_,⟨_,h⟩,_⟩:=uz λz=>absurd ((ev _ rfl).mpr z) cc;exact⟨rfl,h,_,_,_,_,rfl⟩
  ·rintro σ H8 ⟨rfl,sd,pJ,pK,pL,pM,rfl⟩;rw[Ya,al,Y8] at sd;exact eS _ _ ⟨rfl,sd,pJ,pK,pL,pM,rfl⟩
 rintro σ H8 ⟨rfl,sd,pJ,pK,pL,pM,rfl⟩;exact⟨_,rfl,q2 fn g H8 g6 rD bf (bf.done ed cl sd)⟩
end
inductive Pn(vs:List V)(H:Hp)(Q:VK):Prop
 |mk (fa td:Addr) (ps:bM) (xs ys:List Int) (F:List Fc) (x:Nat) (aC:vs=[.ref fa,.ref td,.str (au ps x)]) (aV:FL H ps fa F) (ht:eW H td xs ys) (nd:(ps.map (·.1)).Nodup) (bc:∀c∈F,dM xs ys ps.length c) (bO:xs.length<=8) (cG:ps.length<=100) (dH:F.length<=64) (gc:x<ps.length) (g_:∀(p:Addr) (H':Hp),H p=none->ai H H'->H' p=some (.lst ((dJ F xs.length x).map V.int))->Q (.ref p) H'):Pn vs H Q
def F5:Sp:=λvs H Q _=>Pn vs H Q
inductive N5(vs:List V)(H:Hp)(Q:VK):Prop
 |mk (a b:Addr) (xs ys:List Int) (aC:vs=[.ref a,.ref b]) (aV:bR H a xs) (bc:bR H b ys) (bO:ni xs ys) (cG:∀(p:Addr) (H':Hp),H p=none->ai H H'->eW H' p xs ys->Q (.ref p) H'):N5 vs H Q
def Po:Sp:=λvs H Q _=>N5 vs H Q
section
theorem Lr:aQ ["_law_facts","_law_turns_here","_law_name_here","_law_nets_here"] ["_law_facts","_law_turns_here","_law_name_here"] (aL DH):=⟨rfl,rfl,rfl,by decide+kernel,rfl,by decide+kernel,by decide+kernel⟩
open Classical in
theorem ZcI(F:aM K "_law_room" "_law_room" DH f fd)(r8:HasFn P w K mg base 2 "_law_nets" ["_law_facts","_law_turns_here"] F4)(rP:HasFn P w K mg base 1 "_law_carried" ["_law_nets_here","_law_facts","_law_name_here","_law_section"] El)(bl:Bl mg):aG P w K mg base aN 3 f fd ["_law_facts","_law_turns_here","_law_name_here"] F5:=by
 refine F.ok Lr (λvs H Q E h=>?_) (λaE A outer s H vs Q E hr h=>?_)
 ·obtain⟨fa,td,ps,xs,ys,F,x,rfl,_⟩:=h;rfl
 obtain⟨fa,td,ps,xs,ys,F,x,rfl,fE,ht,eX,fg,n8,qL,k_,hx,q⟩:=h;refine⟨_,(aj (bg (i:=3) Lr.nd rfl (Or.inr rfl) (aT r8 hr (by omega) rfl (aa (pv 0) (aa (pv 1) ae)))) (aq (aF (iH (x:="_law_at") (fr:=[("_law_nets_here",3),("_law_name_here",2),("_law_facts",0)]) (cl:=[("_law_nets_here",s.heap.objs.size+1+1+1),("_law_name_here",s.heap.objs.size+1+1),("_law_facts",s.heap.objs.size+1)]) rfl ⟨by with_unfolding_all rfl,⟨rfl,⟨rfl,⟨rfl,trivial⟩⟩⟩,rfl,by decide+kernel,rfl,by decide+kernel,rfl,⟨⟨rfl,.inl rfl,.inl rfl,rfl⟩,⟨⟨rfl,.inl rfl,.inl rfl,rfl⟩,⟨⟨rfl,.inl rfl,.inl rfl,rfl⟩,trivial⟩⟩⟩,by decide+kernel⟩ (ow rfl bl.iY (aa (bJ (c5 (K:=K) rfl) rfl bl.cQ cP (aa (c9 (bB hr) (pv 1) bA (λ_ _=>rfl)) ae)) ae)) (λ_ _ _ _=>va (aZ yh (aT rP hr (by omega) rfl (aa (pv 1) (aa (pv 3) (aa (pv 2) (aa (pv 0) ae))))) kA (aR _))) (λ_ _ _ _=>(pv 0)))))),?_⟩;refine cy ?_;refine⟨_,rfl,_,rfl,fa,td,ps,xs,ys,F,rfl,fE,ht,eX,fg,n8,k_,λd kvs L H1 g1 tP ed=>?_⟩;obtain⟨_,_,_,u0,dD,_,_,_,uA⟩:=id ht;obtain⟨n,en⟩:∃n,n=xs.length:=⟨_,rfl⟩;have gh:∀c∈F,du n ps.length c:=λc hc=>by rw[en];exact(fg c hc).ok
 rw[←en] at uA n8 q;have ul:((bp n).map V.int).length=n:=by rw[Ya,eF]
 refine⟨_,rfl,td,.ref u0,rfl,cY (g1 _ _ dD) rfl,u0,_,rfl,.inr (ay.of (g1 _ _ uA)),?_⟩;rw[ul];refine⟨(n:Int),rfl,by omega,by omega,λD hD=>?_⟩;refine XJ (lo:=0) (by omega) hD (λi=>decide (∃g,fU n F g/\g x=some (i:Int))) (λi=>V.int (i:Int)) (λi hi H2 g2 _ Kt Kf kt kf=>?_) λH2 g2 h2=>?_
 ·rw[J7];have pA:(i:Nat)<n:=by omega
  refine⟨_,rfl,_,rfl,_,rfl,_,rfl,H,d,fa,kvs,L,n,ps,F,x,(i:Int),rfl,eX,tP.same g2,ed,(fE.same g1).same g2,gh,n8,qL,k_,hx,⟨by omega,by omega⟩,λno H3 g3=>?_,λp gg H3 g3 T9 bf cl=>?_⟩
  ·refine⟨rfl,_,rfl,?_⟩;rw[decide_eq_true (show V.aA=V.aA from rfl)];exact bY (kf H3 (decide_eq_false no) g3)
  ·refine⟨rfl,_,rfl,?_⟩;rw[decide_eq_false (show ¬V.ref p=V.aA from λz=>nomatch z)];exact cV ⟨_,rfl,kt _ H3 (decide_eq_true ⟨_,cl,bf.hd⟩) g3 rfl⟩
 ·refine q D H2 (g1.free hD) (g1.trans g2) ?_;rw[h2,Y6];have e:dJ F n x=((List.range n).filter λi:Nat=>decide (∃g,fU n F g/\g x=some (i:Int))).map λi:Nat=>(i:Int):=by
   unfold dJ bp;rw[Jq];rfl
  rw[e,Wc];rfl
theorem CB:aQ ["_law_mother","_law_wife","_law_father","_law_alone"] ["_law_mother","_law_wife"] (aL C5):=⟨rfl,rfl,rfl,by decide+kernel,rfl,by decide+kernel,by decide+kernel⟩
theorem Zbw(F:aM K "_law_turns" "_law_turns" C5 f fd)(pR:HasFn P w K mg base 1 "_law_inverse" ["_law_turn_here"] Gv)(Dn:HasFn P w K mg base 1 "_law_after" ["_law_first","_law_then"] (RB K))(bl:Bl mg):aG P w K mg base aN 2 f fd ["_law_mother","_law_wife"] Po:=by
 refine F.ok CB (λvs H Q E h=>?_) (λaE A outer s H vs Q E hr h=>?_)
 ·obtain⟨a,b,xs,ys,rfl,_⟩:=h;rfl
 obtain⟨a,b,xs,ys,rfl,ha,hb,gl,q⟩:=h;obtain⟨fx,fy,le,l2,l8⟩:=id gl;refine⟨_,(aj (bg (i:=2) CB.nd rfl (Or.inl rfl) (aT Dn hr (by omega) rfl (aa (pv 1) (aa (pv 0) ae)))) (aj (bg (i:=3) CB.nd rfl (Or.inl rfl) (eG (VB rfl) rfl bl.lJ lF (aa (eG Cp rfl bl.iY sA (aa (bJ (c5 (K:=K) rfl) rfl bl.cQ cP (aa (pv 0) ae)) ae)) ae))) (aq (aF (yo (iW bA (aT pR hr (by omega) rfl (aa (pv 0) ae)) (iW bA (aT pR hr (by omega) rfl (aa (pv 2) ae)) (iW bA (pv 1) (iW bA (pv 3) yn)))) rfl rfl (λz=>nomatch z) (Jg rfl)))))),?_⟩;refine cy ?_;have lv:∀x∈ys,0<=x/\x<(xs.length:Int):=λx hx=>by rw[le];exact oF fy hx
 refine⟨_,rfl,_,rfl,b,a,ys,xs,rfl,ay.of hb,ay.of ha,lv,by omega,λl H1 nl g1 hl=>?_⟩;refine cy ?_;have el:(xs.map V.int).length=xs.length:=Ya _;refine⟨_,rfl,a,_,rfl,.inr (ay.of (g1 _ _ ha)),_,rfl,λrg H2 nrg g2 hrg=>⟨rg,xs.length,rfl,by rw[hrg,el],by omega,λst H3 zM g3 gF=>?_⟩⟩;have eQ:=g2.trans g3;intro d nd;have g4:=cq nd (.dK []);have JK:upd H3 d (.dK []) d=some (.dK []):=aU;generalize upd H3 d (.dK [])=H4 at g4 JK⊢;have UU:=eQ.trans g4;have JM:=g1.trans UU;refine⟨_,rfl,a,xs,rfl,JM _ _ ha,by omega,fx,λim H5 nim g5 Iz=>?_⟩;refine⟨_,rfl,l,bH xs ys,rfl,g5 _ _ (UU _ _ hl),by rw[pY];omega,EK fx fy (by omega),λjf H6 njf g6 IA=>?_⟩;have xy:=g5.trans g6;refine⟨_,rfl,_,rfl,xy _ _ JK,[(.inr "mother",.ref im),(.inr "father",.ref jf),(.inr "wed",.ref b),(.inr "sibling",.ref st)],rfl,by show 4<=15;decide,?_⟩;have b7:aw d H6 (upd H6 d (.dK (sY im jf b st))):=aw.put (aw.of (ai.refl _));have UW:upd H6 d (.dK (sY im jf b st)) d=some (.dK (sY im jf b st)):=aU;have em:m5 [] [((.inr "mother":Key),V.ref im),(.inr "father",.ref jf),(.inr "wed",.ref b),(.inr "sibling",.ref st)]=sY im jf b st:=rfl;rw[em];generalize upd H6 d (.dK (sY im jf b st))=H7 at b7 UW⊢;have tne:∀{c:Addr} {zs:List Int},bR H6 c zs->c≠d:=λh1 z=>by rw[bR,z,xy _ _ JK] at h1;cases h1
 have k7:∀{c:Addr} {zs:List Int},bR H6 c zs->bR H7 c zs:=λh=>b7 _ _ h (tne h);refine q d H7 (g1.free (eQ.free nd)) (λc o e=>b7 _ _ (xy _ _ (JM _ _ e)) (ck e (g1.free (eQ.free nd)))) ⟨im,jf,b,st,UW,k7 (g6 _ _ Iz),k7 IA,k7 (xy _ _ (JM _ _ hb)),k7 (xy _ _ (g4 _ _ gF))⟩
end
theorem FL.get(h:FL H ps fa F):∃as:List Addr,H fa=some (.lst (as.map V.ref))/\as.length=F.length/\∀(H':Hp) (j:Nat) (v:V),ai H H'->(as.map V.ref)[j]?=some v->∃(c0:Addr) (c:Fc) (z:Int),v=.ref c0/\F[j]?=some c/\F.take (j+1)=F.take j++[c]/\H' c0=some (.tup [.int z,.str c.k,.str (au ps c.one),kV (bh ps c)]):=by
 obtain⟨as,cM,dP⟩:=h;refine⟨as,cM,cU dP,λH' j v g hj=>?_⟩;rw[Yg] at hj;obtain⟨c0,ec,rfl⟩:∃c0,as[j]?=some c0/\V.ref c0=v:=by
  cases e:as[j]? with
  |none=>grind
  |some c=>grind
 obtain⟨c,hU,z,hc⟩:=fQ dP ec;exact⟨c0,c,z,rfl,hU,by rw[Yy,hU];rfl,g _ _ hc⟩
def kR(ps:bM)(k a:Str)(o:V)(c:Fc):Bool:=decide (c.k=k)&&((decide (au ps c.one=a)&&(decide (kV (bh ps c)=o)||cH k))||(decide (k="sibling")&&(decide (kV (bh ps c)=.str a)&&decide (V.str (au ps c.one)=o))))
def nv(ps:bM)(F:List Fc)(k a:Str)(o:V):Bool:=F.any (kR ps k a o)||(decide (k="sibling")&&decide (V.str a=o))
def Bt(t:TT)(σ:St)(H:Hp)(b:Bool):Prop:=∀k:Bool->Hp->Prop,(∀H',ai H H'->k b H')->t σ H k
def Vt(t:TE)(σ:St)(H:Hp)(v:V):Prop:=∀k:VK,(∀H',ai H H'->k v H')->t σ H k
section
variable {t u:TT}{e1 e2:TE}{σ:St}{H:Hp}{a b:Bool}{x y:V}
theorem Bt.and(h1:Bt t σ H a)(h2:∀H',a=true->ai H H'->Bt u σ H' b):Bt (RQ t u) σ H (a&&b):=λk hk=>h1 _ λH1 g1=>by
 cases a with
 |true=>exact cV (h2 H1 rfl g1 _ λH2 g2=>hk H2 (g1.trans g2))
 |false=>grind
theorem Bt.or(h1:Bt t σ H a)(h2:∀H',a=false->ai H H'->Bt u σ H' b):Bt (SU t u) σ H (a||b):=λk hk=>h1 _ λH1 g1=>by
 cases a with
 |true=>grind
 |false=>exact bY (h2 H1 rfl g1 _ λH2 g2=>hk H2 (g1.trans g2))
theorem Vt.var(h:σ[i]?=some (some x)):Vt (gv i) σ H x:=λ_ hk=>⟨x,h,hk H (ai.refl _)⟩
theorem Vt.c:Vt (tC x) σ H x:=λ_ hk=>hk H (ai.refl _)
theorem Vt.test(h:Vt e1 σ H (.bl b)):Bt (Rb e1) σ H b:=λk hk=>h _ λH1 g1=>⟨b,rfl,hk H1 g1⟩
theorem Vt.eq(h1:Vt e1 σ H x)(h2:∀H',ai H H'->Vt e2 σ H' y)(sc:vT x y=true):Vt (jW SY e1 e2) σ H (.bl (decide (x=y))):=λk hk=>h1 _ λH1 g1=>h2 H1 g1 _ λH2 g2=>⟨sc,hk H2 (g1.trans g2)⟩
theorem Vt.ne(h1:Vt e1 σ H x)(h2:∀H',ai H H'->Vt e2 σ H' y)(sc:vT x y=true):Vt (jW S0 e1 e2) σ H (.bl (!decide (x=y))):=λk hk=>h1 _ λH1 g1=>h2 H1 g1 _ λH2 g2=>⟨sc,hk H2 (g1.trans g2)⟩
theorem Vt.SG(h1:Vt e1 σ H (.bl a))(h2:∀H',a=true->ai H H'->Vt e2 σ H' (.bl b)):Vt (Q7 e1 e2) σ H (.bl (a&&b)):=λk hk=>h1 _ λH1 g1=>⟨a,rfl,by
 cases a with
 |true=>exact cV (h2 H1 rfl g1 _ λH2 g2=>hk H2 (g1.trans g2))
 |false=>exact bY (hk H1 g1)⟩
theorem Vt.orV(h1:Vt e1 σ H (.bl a))(h2:∀H',a=false->ai H H'->Vt e2 σ H' (.bl b)):Vt (RS e1 e2) σ H (.bl (a||b)):=λk hk=>h1 _ λH1 g1=>⟨a,rfl,by
 cases a with
 |true=>grind
 |false=>exact bY (h2 H1 rfl g1 _ λH2 g2=>hk H2 (g1.trans g2))⟩
theorem Vt.Gw(h1:Vt e1 σ H (.str k)):Vt (jW (wm K false) e1 (vL (ig (tC (V.str "mother")) (ig (tC (V.str "father")) je)))) σ H (.bl (cH k)):=λq hk=>h1 _ λH1 g1=>by
 refine⟨by show 2<=sizeLine;rw[sizeLine_eq];omega,λp H2 np g2 hp=>⟨p,_,rfl,.inr (ay.of hp),rfl,rfl,?_⟩⟩;have e:eO (V.str k) [V.str "mother",V.str "father"]=cH k:=by
  rw[Wi];unfold eO cH;rw[Jh,Jh,List.any_nil,Bool.or_false,J6,J6,decide_eq_true_iff,decide_eq_true_iff];show((("mother":Str)==k)=true\/(("father":Str)==k)=true)↔_
  grind
 rw[e];exact hk H2 (g1.trans g2)
end
def Flat(o:V):Prop:=(∃z,o=.int z)\/∃z,o=.str z
theorem yx(k:Key):Flat (kV k):=by
 cases k with
 |inl z=>exact .inl ⟨z,rfl⟩
 |inr z=>exact .inr ⟨z,rfl⟩
theorem xY(h1:Flat u)(h2:Flat v):vT u v=true:=by
 rcases h1 with⟨_,rfl⟩|⟨_,rfl⟩<;>rcases h2 with⟨_,rfl⟩|⟨_,rfl⟩<;>rfl
inductive N6(vs:List V)(H:Hp)(Q:VK):Prop
 |mk (fa:Addr) (ps:bM) (F:List Fc) (k a:Str) (o:V) (aC:vs=[.ref fa,.str k,.str a,o]) (aV:FL H ps fa F) (fo:Flat o) (q:∀H',ai H H'->Q (.bl (nv ps F k a o)) H'):N6 vs H Q
def Pp:Sp:=λvs H Q _=>N6 vs H Q
inductive N7(vs:List V)(H:Hp)(Q:VK):Prop
 |mk (sd:Addr) (ps:bM) (k:Str) (i j:Nat) (aC:vs=[.ref sd,.str k,.str (au ps i),.str (au ps j)]) (hs:H sd=some (.dK (fO ps))) (nd:(ps.map (·.1)).Nodup) (hi:i<ps.length) (hj:j<ps.length) (hk:k="mother"\/k="father"\/k="wed"\/k="sibling") (q:∀H',ai H H'->Q (.bl (jM k (eV ps i) (eV ps j))) H'):N7 vs H Q
def Pq:Sp:=λvs H Q _=>N7 vs H Q
theorem N8(ok:cD xs ys b):y∈fK b a↔∃c∈b.F,cH c.k=true/\au b.ps c.one=a/\kV (bh b.ps c)=.str y:=by
 constructor
 ·intro h;obtain⟨v,hv,rfl⟩:=Yf.mp (show y∈(m7 b a).map strOf from h);unfold m7 at hv;obtain⟨k,_,e⟩:=Je.mp hv;obtain⟨p,hp,h1,h2,h3,rfl,h5⟩:=Pa ok e;have ns:p.2.k≠bF:=λz=>by
   rw[z] at h1;exact absurd h1 (by decide+kernel)
  exact⟨p.2,Yf.mpr ⟨p,hp,rfl⟩,h1,h3,by rw[ia ns];rfl⟩
 ·rintro⟨c,hc,h1,rfl,h3⟩;obtain⟨p,hp,rfl⟩:=Yf.mp (show c∈b.fs.map (·.2) from hc);have mm:(([.inr p.2.k,.inr (au b.ps p.2.one)]:List Key),kV (bh b.ps p.2))∈cj b.ps b.fs:=Yf.mpr ⟨p,Y3.mpr ⟨hp,h1⟩,rfl⟩;have e:=O0 ok.pr mm;refine Yf.mpr ⟨.str y,?_,rfl⟩;unfold m7;refine Je.mpr ⟨p.2.k,?_,by rw[e,h3]⟩;unfold cH at h1;rw[J6,decide_eq_true_iff,decide_eq_true_iff] at h1;rcases h1 with z|z<;>rw[z];·exact Yk
  ·exact Yx _ Yk
structure uB(b:BS)(a:Str)(ks:List Str):Prop where
 nd:ks.Nodup
 sd:∀k∈ks,fG b a k
 ma:a∈ks
theorem uB.len(u:uB b a ks)(ok:cD xs ys b)(ma:a∈b.ps.map (·.1)):ks.length<=b.ps.length:=by
 have:=u.nd.length_le_of_subset (l₂:=b.ps.map (·.1)) λk hk=>yf ok ma (u.sd k hk)
 grind
theorem uB.all(u:uB b a ks)(cl:∀r,r<ks.length->∀k,ks[r]?=some k->∀p∈fK b k,p∈ks)(z:Str):z∈ks↔fG b a z:=by
 refine⟨u.sd z,λh=>?_⟩;induction h with
 |refl=>exact u.ma
 |step _ hy ih=>
  obtain⟨r,hr,er⟩:=Wq.mp ih;exact cl r hr _ (by rw[Yc hr,er]) _ hy
inductive RH(vs:List V)(H:Hp)(Q:VK):Prop
 |mk (fa:Addr) (xs ys:List Int) (b:BS) (a:Str) (aC:vs=[.ref fa,.str a]) (aV:FL H b.ps fa b.F) (ok:cD xs ys b) (ma:a∈b.ps.map (·.1)) (q:∀(p:Addr) (ks:List Str) (H':Hp),ai H H'->H' p=some (.lst (ks.map V.str))->(∀z,z∈ks↔fG b a z)->Q (.ref p) H'):RH vs H Q
def SH:Sp:=λvs H Q _=>RH vs H Q
def muU(m:Nat):St->Hp->Nat:=λσ _=>match List.getD (α:=Option V) σ 3 none with|some (V.int z)=>m+1-z.toNat|_=>0
inductive UX(H:Hp)(b:BS)(a:Str)(fa bq:Addr)(σ:St)(H6:Hp):Prop
 |mk (ks:List Str) (r:Nat) (o4 o5 o6 o7:Option V) (g:ai H H6) (hr:H6 bq=some (.lst (ks.map V.str))) (up:uB b a ks) (rl:r<=ks.length) (cl:∀r',r'<r->∀k,ks[r']?=some k->∀p∈fK b k,p∈ks) (e:σ=[some (.ref fa),some (.str a),some (.ref bq),some (.int (r:Int)),o4,o5,o6,o7]):UX H b a fa bq σ H6
inductive JN(H:Hp)(b:BS)(a:Str)(fa bq:Addr)(r:Nat)(pG:List Str)(k:Str)(j:Nat)(σ:St)(H6:Hp):Prop
 |mk (ks tl:List Str) (o4 o5 o6 o7:Option V) (g:ai H H6) (hr:H6 bq=some (.lst (ks.map V.str))) (up:uB b a ks) (ek:ks=pG++tl) (cl:∀c∈b.F.take j,cH c.k=true->au b.ps c.one=k->∀y,kV (bh b.ps c)=.str y->y∈ks) (e:σ=[some (.ref fa),some (.str a),some (.ref bq),some (.int (r:Int)),o4,o5,o6,o7]):JN H b a fa bq r pG k j σ H6
theorem Zr(h:Flat o):ij o=true:=by
 rcases h with⟨_,rfl⟩|⟨_,rfl⟩<;>rfl
theorem MR(ks:List Str):(ks.map V.str).all ij=true:=by
 rw[Wn];intro v hv;obtain⟨k,_,rfl⟩:=Yf.mp hv;rfl
theorem G9(y:Str)(ks:List Str):eO (.str y) (ks.map V.str)=true↔y∈ks:=by
 unfold eO;rw[Jy];constructor
 ·rintro⟨v,hv,e⟩;obtain⟨k,hk,rfl⟩:=Yf.mp hv;have:(k==y)=true:=e
  grind
 ·intro h;exact⟨.str y,Yf.mpr ⟨y,h,rfl⟩,by show(y==y)=true;rw[beq_iff_eq]⟩
section
theorem uR:aQ ["_law_facts","_law_kind","_law_one","_law_other","_law_number","_law_had","_law_here","_law_there"] ["_law_facts","_law_kind","_law_one","_law_other"] (aL DJ):=⟨rfl,rfl,rfl,by decide+kernel,rfl,by decide+kernel,by decide+kernel⟩
theorem X1(F:aM K "_law_told" "_law_told" DJ f fd):aG P w K mg base aN 1 f fd ["_law_facts","_law_kind","_law_one","_law_other"] Pp:=by
 refine F.ok uR (λvs H Q E h=>?_) (λaE A outer s H vs Q E hr h=>?_)
 ·obtain⟨fa,ps,F,k,a,o,rfl,_⟩:=h;rfl
 obtain⟨fa,ps,F,k,a,o,rfl,fE,fo,q⟩:=h;refine⟨_,(aj (fT PassesOwn.never rfl (fR (K:=K) rfl (pv 0)) (ic (K:=K) (n:=4) rfl rfl (bW (bj (i:=4) uR.nd rfl (Or.inl rfl)) (bW (bj (i:=5) uR.nd rfl (Or.inl rfl)) (bW (bj (i:=6) uR.nd rfl (Or.inl rfl)) (bW (bj (i:=7) uR.nd rfl (Or.inl rfl)) ib))))) (aj (aS (PW.pt (pw_and (aZ cg (pv 5) (pv 1) (aR _)) (pw_and (aZ cg (pv 6) (pv 2) (aR _)) (pw_and1 (PW.pt (pw_or (aZ cg (pv 7) (pv 3) (aR _)) (pw_or1 (aZ (kW (K:=K) rfl) (pv 1) (dv (aa bA (aa bA ae))) (by with_unfolding_all rfl))))))))) (aq (aF i_)) aY) (aq (aS (PW.pt (pw_and (aZ cg (pv 5) (pv 1) (aR _)) (pw_and (aZ cg (pv 1) bA (aR _)) (pw_and (aZ cg (pv 7) (pv 2) (aR _)) (pw_and1 (aZ cg (pv 6) (pv 3) (aR _))))))) (aq (aF i_)) aY)))) (aq (aF (oG (dF cg (pv 1) bA (aR _)) (lL (dF cg (pv 2) (pv 3) (aR _))))))),?_⟩;obtain⟨as,cM,al,gt⟩:=fE.get;refine gu (λσ H6=>ai H H6/\F.any (kR ps k a o)=false/\∃o4 o5 o6 o7:Option V,σ=[some (.ref fa),some (.str k),some (.str a),some o,o4,o5,o6,o7]) (λl_ eS=>?_) ?_
 ·refine⟨_,rfl,fa,rfl,⟨_,ak.of cM⟩,jH (K:=K) (a:=fa) (xs:=as.map V.ref) (λj σ H6=>ai H H6/\(F.take j).any (kR ps k a o)=false/\∃o4 o5 o6 o7:Option V,σ=[some (.ref fa),some (.str k),some (.str a),some o,o4,o5,o6,o7])
   ⟨ai.refl _,rfl,none,none,none,none,rfl⟩ (λj σ H6 _ ⟨g,_⟩=>ak.of (g _ _ cM)) ?_ ?_⟩
  ·rintro j v σ H6 hj ⟨g,no,o4,o5,o6,o7,rfl⟩;obtain⟨c0,c,z,rfl,hU,jy,hc⟩:=gt H6 j v g hj;have hit:kR ps k a o c=true->nv ps F k a o=true:=λh=>by
    unfold nv;rw[Jy.mpr ⟨c,Ye hU,h⟩];rfl
   refine⟨c0,_,rfl,ay.of hc,rfl,_,_,rfl,bu ⟨_,_,rfl,bu ⟨_,_,rfl,bu ⟨_,_,rfl,bu ⟨rfl,?_⟩⟩⟩⟩⟩;refine mZ (λσ H7=>ai H H7/\(decide (c.k=k)&&(decide (au ps c.one=a)&&(decide (kV (bh ps c)=o)||cH k)))=false/\σ=[some (.ref fa),some (.str k),some (.str a),some o,some (.int z),some (.str c.k),some (.str (au ps c.one)),some (kV (bh ps c))]) (λoa fk=>?_) ?_
   ·refine(Bt.and (Vt.test (Vt.eq (x:=.str c.k) (y:=.str k) (Vt.var rfl) (λ_ _=>Vt.var rfl) rfl)) λ_ _ _=>Bt.and (Vt.test (Vt.eq (x:=.str (au ps c.one)) (y:=.str a) (Vt.var rfl) (λ_ _=>Vt.var rfl) rfl)) λ_ _ _=>Bt.or (Vt.test (Vt.eq (x:=kV (bh ps c)) (y:=o) (Vt.var rfl) (λ_ _=>Vt.var rfl) (xY (yx _) fo))) λ_ _ _=>Vt.test (Vt.Gw (k:=k) (Vt.var rfl))) _ λH7 g7=>?_;rw[dO,dO];refine bC (λcc=>?_) (λcc=>?_)
    ·have:=hit (by unfold kR;rw[Wm] at cc⊢;exact⟨cc.1,by rw[cc.2];rfl⟩);rw[this] at q;exact q H7 (g.trans g7)
    ·exact aX (fk _ _ ⟨g.trans g7,Jt.mpr cc,rfl⟩)
   ·rintro σ H7 ⟨g7,no1,rfl⟩;refine(Bt.and (Vt.test (Vt.eq (x:=.str c.k) (y:=.str k) (Vt.var rfl) (λ_ _=>Vt.var rfl) rfl)) λ_ _ _=>Bt.and (Vt.test (Vt.eq (x:=.str k) (y:=.str "sibling") (Vt.var rfl) (λ_ _=>Vt.c) rfl)) λ_ _ _=>Bt.and (Vt.test (Vt.eq (x:=kV (bh ps c)) (y:=.str a) (Vt.var rfl) (λ_ _=>Vt.var rfl) (xY (yx _) (.inr ⟨_,rfl⟩)))) λ_ _ _=>Vt.test (Vt.eq (x:=.str (au ps c.one)) (y:=o) (Vt.var rfl) (λ_ _=>Vt.var rfl) (xY (.inr ⟨_,rfl⟩) fo))) _ λH8 g8=>?_;rw[dO,dO];refine bC (λcc=>?_) (λcc=>aX ?_)
    ·have:=hit (by unfold kR;rw[Wm] at cc⊢;exact⟨cc.1,by rw[cc.2,Bool.or_true]⟩);rw[this] at q;exact q H8 (g7.trans g8)
    ·refine⟨g7.trans g8,?_,_,_,_,_,rfl⟩;rw[jy,List.any_append,no,J0,Jh,List.any_nil,Bool.or_false];unfold kR;rw[Bool.and_or_distrib_left,no1,J0];exact Jt.mpr cc
  ·rintro σ H6 ⟨g,no,o4,o5,o6,o7,rfl⟩;rw[Ya,al,Y8] at no;exact eS _ _ ⟨g,no,o4,o5,o6,o7,rfl⟩
 rintro σ H6 ⟨g,no,o4,o5,o6,o7,rfl⟩;refine(Vt.SG (Vt.eq (x:=.str k) (y:=.str "sibling") (Vt.var rfl) (λ_ _=>Vt.c) rfl) λ_ _ _=>Vt.eq (x:=.str a) (y:=o) (Vt.var rfl) (λ_ _=>Vt.var rfl) (xY (.inr ⟨_,rfl⟩) fo)) _ λH7 g7=>?_;have e:=q H7 (g.trans g7);unfold nv at e;rw[no,J0] at e;rw[dO];exact e
theorem Xn:aQ ["_law_sides","_law_kind","_law_one","_law_other"] ["_law_sides","_law_kind","_law_one","_law_other"] (aL C6):=⟨rfl,rfl,rfl,by decide+kernel,rfl,by decide+kernel,by decide+kernel⟩
theorem Xo(F:aM K "_law_sided" "_law_sided" C6 f fd):aG P w K mg base aN 1 f fd ["_law_sides","_law_kind","_law_one","_law_other"] Pq:=by
 refine F.ok Xn (λvs H Q E h=>?_) (λaE A outer s H vs Q E hr h=>?_)
 ·obtain⟨sd,ps,k,i,j,rfl,_⟩:=h;rfl
 obtain⟨sd,ps,k,i,j,rfl,hs,nd,hi,hj,hk,q⟩:=h;refine⟨_,(aj (aS (aZ cg (pv 1) bA (aR _)) (aq (aF (dF cg (c9 (bB hr) (pv 0) (pv 3) (λ_ _=>rfl)) bA (aR _)))) aY) (aj (aS (aZ cg (pv 1) bA (aR _)) (aq (aF (dF cg (c9 (bB hr) (pv 0) (pv 3) (λ_ _=>rfl)) bA (aR _)))) aY) (aq (aF (Gb (dF kH (pv 1) bA (aR _)) (lL (oG (dF cg (c9 (bB hr) (pv 0) (pv 2) (λ_ _=>rfl)) bA (aR _)) (lL (dF cg (c9 (bB hr) (pv 0) (pv 3) (λ_ _=>rfl)) bA (aR _)))))))))),?_⟩;have gj:=cY hs (mU nd hj);refine⟨_,rfl,rfl,_,rfl,?_⟩;rw[dO];refine bC (λcc=>?_) (λcc=>aX ?_)
 ·have e:k="mother":=of_decide_eq_true cc;refine⟨_,rfl,_,rfl,sd,_,rfl,gj,rfl,?_⟩;rw[dO];unfold jM at q;rw[if_pos e] at q;exact q H (ai.refl _)
 have n1:k≠"mother":=λz=>cc (decide_eq_true z);refine⟨_,rfl,rfl,_,rfl,?_⟩;rw[dO];refine bC (λcc=>?_) (λcc=>aX ?_)
 ·have e:k="father":=of_decide_eq_true cc;refine⟨_,rfl,_,rfl,sd,_,rfl,gj,rfl,?_⟩;rw[dO];unfold jM at q;rw[if_neg n1,if_pos e] at q;exact q H (ai.refl _)
 have n2:k≠"father":=λz=>cc (decide_eq_true z);have e3:(!decide (k="wed"))=decide (k="sibling"):=by
  rcases hk with z|z|z|z;·exact absurd z n1
  ·exact absurd z n2
  ·rw[z];decide+kernel
  ·rw[z];decide+kernel
 refine(Vt.orV (a:=decide (k="sibling")) (b:=decide (eV ps i="man")&&decide (eV ps j="woman")) ?_ λH1 _ g1=>Vt.SG (a:=decide (eV ps i="man")) ?_ λH2 _ g2=>?_) _ λH' g'=>?_
 ·rw[←e3,←dO];exact Vt.ne (Vt.var rfl) (λ_ _=>Vt.c) rfl
 ·rw[←dO];exact Vt.eq (λk hk=>⟨_,rfl,_,rfl,sd,_,rfl,cY (g1 _ _ hs) (mU nd hi),hk _ (ai.refl _)⟩) (λ_ _=>Vt.c) rfl
 ·rw[←dO];exact Vt.eq (λk hk=>⟨_,rfl,_,rfl,sd,_,rfl,cY (g2 _ _ (g1 _ _ hs)) (mU nd hj),hk _ (ai.refl _)⟩) (λ_ _=>Vt.c) rfl
 ·unfold jM at q;rw[if_neg n1,if_neg n2] at q;exact q H' g'
theorem oA:aQ ["_law_facts","_law_name_here","_law_row_here","_law_at","_law_number","_law_kind","_law_one","_law_other"] ["_law_facts","_law_name_here"] (aL EJ):=⟨rfl,rfl,rfl,by decide+kernel,rfl,by decide+kernel,by decide+kernel⟩
theorem Zal(F:aM K "_law_up" "_law_up" EJ f fd)(bl:Bl mg):aG P w K mg base aN 1 f fd ["_law_facts","_law_name_here"] SH:=by
 refine F.ok oA (λvs H Q E h=>?_) (λaE A outer s H vs Q E hr h=>?_)
 ·obtain⟨fa,xs,ys,b,a,rfl,_⟩:=h;rfl
 obtain⟨fa,xs,ys,b,a,rfl,fE,ok,ma,q⟩:=h;refine⟨_,(aj (bg (i:=2) oA.nd rfl (Or.inl rfl) (df (aa (pv 1) ae))) (aj (bg (i:=3) oA.nd rfl (Or.inl rfl) aI) (aj (EC PassesOwn.never (aZ lQ (pv 3) (bJ (c5 (K:=K) rfl) rfl bl.cQ cP (aa (pv 2) ae)) (aR _)) (aj (fT PassesOwn.never rfl (fR (K:=K) rfl (pv 0)) (ic (K:=K) (n:=4) rfl rfl (bW (bj (i:=4) oA.nd rfl (Or.inl rfl)) (bW (bj (i:=5) oA.nd rfl (Or.inl rfl)) (bW (bj (i:=6) oA.nd rfl (Or.inl rfl)) (bW (bj (i:=7) oA.nd rfl (Or.inl rfl)) ib))))) (aq (aS (PW.pt (pw_and (aZ (kW (K:=K) rfl) (pv 5) (dv (aa bA (aa bA ae))) (by with_unfolding_all rfl)) (pw_and (aZ cg (pv 6) (a9 (cB (K:=K) rfl) (pv 2) (pv 3) (λ_ _=>rfl)) (aR _)) (pw_and1 (aZ (yC (K:=K) rfl) (pv 7) (pv 2) (by with_unfolding_all rfl)))))) (aq (cz (m6 (K:=K) rfl (jO plainAttrs_list PySem.F.slot_list_append PySem.F.type_list_append ot (pv 2) (aa (pv 7) ae))))) aY))) (aq (FH (i:=3) oA.nd rfl (Or.inl rfl) aI PN)))) (aq (aF (pv 2)))))),?_⟩;have sz:(10000:Nat)<=sizeLine:=by rw[sizeLine_eq];omega
 obtain⟨as,cM,al,gt⟩:=fE.get;have m64:=ok.m;refine cy ?_;refine⟨_,rfl,by show 1<=sizeLine;omega,λbq H1 xv g1 JG=>?_⟩;refine setC ?_;refine gu (λσ H6=>∃ks:List Str,ai H H6/\H6 bq=some (.lst (ks.map V.str))/\(∀z,z∈ks↔fG b a z)/\∃o3 o4 o5 o6 o7:Option V,σ=[some (.ref fa),some (.str a),some (.ref bq),o3,o4,o5,o6,o7]) (λl_ eS=>?_) ?_
 ·refine ED (UX H b a fa bq) (muU b.ps.length) ⟨[a],0,none,none,none,none,g1,JG,⟨Y1.mpr ⟨(λz=>nomatch z),W8⟩,λk hk=>by rw[Yo.mp hk];exact .refl,Yk⟩,Yw _,λr hr=>absurd hr (Wj _),rfl⟩ ?_ ?_
  ·rintro σ H6 ⟨ks,r,o4,o5,o6,o7,g6,mE,up,rl,cl,rfl⟩;have kl:(ks.map V.str).length=ks.length:=Ya _;have gl:=up.len ok ma;refine⟨_,rfl,_,rfl,bq,_,rfl,.inl (ak.of mE),_,_,rfl,rfl,_,rfl,?_⟩;rw[kl];refine bC (λc=>?_) (λc=>?_)
   ·have uy:r<ks.length:=by have:=of_decide_eq_true c;omega
    obtain⟨k,ek⟩:∃k,ks[r]?=some k:=⟨_,Yc uy⟩;have mk:k∈ks:=Ye ek;refine gu (JN H b a fa bq r ks k b.F.length) (λz9 mw=>?_) ?_
    ·refine⟨_,rfl,fa,rfl,⟨_,ak.of (g6 _ _ cM)⟩,jH (K:=K) (a:=fa) (xs:=as.map V.ref) (JN H b a fa bq r ks k) ⟨ks,[],o4,o5,o6,o7,g6,mE,up,by rw[Wf],λc hc=>(nomatch hc),rfl⟩ (λj σ H8 _ ⟨_,_,_,_,_,_,g,_,_,_,_,_⟩=>ak.of (g _ _ cM)) ?_ ?_⟩
     ·rintro j v σ H8 hj ⟨eB,tl,p4,p5,p6,p7,g8,jz,pO,e8,hX,rfl⟩;obtain⟨c0,c,z,rfl,hU,jy,hc⟩:=gt H8 j v g8 hj;have mc:c∈b.F:=Ye hU;have Am:eB[r]?=some k:=by rw[e8,Wd uy];exact ek
      have gl8:=pO.len ok ma;refine⟨c0,_,rfl,ay.of hc,rfl,_,_,rfl,bu ⟨_,_,rfl,bu ⟨_,_,rfl,bu ⟨_,_,rfl,bu ⟨rfl,?_⟩⟩⟩⟩⟩;refine(Bt.and (Vt.test (Vt.Gw (k:=c.k) (Vt.var rfl))) λHA _ gA=>Bt.and (Vt.test (Vt.eq (x:=.str (au b.ps c.one)) (y:=.str k) (Vt.var rfl) (λHB gB kk hk=>⟨_,rfl,_,rfl,bq,_,_,_,rfl,rfl,ak.of (gB _ _ (gA _ _ jz)),gq (by rw[Yg,Am];rfl),hk _ (ai.refl _)⟩) rfl)) λHB _ gB=>Vt.test (b:=!eO (kV (bh b.ps c)) (eB.map V.str)) λkk hk=>⟨_,rfl,_,rfl,bq,_,rfl,.inl (ak.of (gB _ _ (gA _ _ jz))),Zr (yx _),MR _,hk _ (ai.refl _)⟩) _ λH9 g9=>?_;rw[dO];have uz:∀iT:List Str,(∀x∈eB,x∈iT)->(cH c.k=true->au b.ps c.one=k->∀y,kV (bh b.ps c)=.str y->y∈iT)->∀c'∈b.F.take (j+1),cH c'.k=true->au b.ps c'.one=k->∀y,kV (bh b.ps c')=.str y->y∈iT:=λiT sub hh c' m' h1 h2 y h3=>by
       rw[jy] at m';rcases Yu.mp m' with m'|m';·exact sub _ (hX c' m' h1 h2 y h3)
       ·rw[Yo.mp m'] at h1 h2 h3;exact hh h1 h2 y h3
      refine bC (λcc=>?_) (λcc=>aX ?_)
      ·rw[Wm,Wm,decide_eq_true_iff] at cc;obtain⟨c1,c2,c3⟩:=cc;have ns:c.k≠bF:=λz=>by rw[z] at c1;exact absurd c1 (by decide+kernel)
       have eo:kV (bh b.ps c)=.str (au b.ps c.aJ.toNat):=by rw[ia ns];rfl
       have rE:=g9 _ _ jz;refine⟨_,rfl,.inl ⟨rfl,_,ak.of rE⟩,_,rfl,bq,_,_,rfl,rfl,rE,by rw[Ya];omega,λnQ xx nW=>?_⟩;have no:au b.ps c.aJ.toNat∉eB:=λz=>by
        rw[eo,(G9 _ _).mpr z] at c3;cases c3
       refine⟨eB++[au b.ps c.aJ.toNat],tl++[au b.ps c.aJ.toNat],_,_,_,_,λd o e=>xx _ _ (g9 _ _ (g8 _ _ e)) (ck e xv),by rw[nW,Ym,eo];rfl,⟨?_,λx hx=>?_,Yr _ pO.ma⟩,by rw[e8,Jj],uz _ (λx hx=>Yr _ hx) λ_ _ y hy=>?_,rfl⟩
       ·refine Ww.mpr ⟨pO.nd,by simp,λu hu w hw z=>?_⟩;rw[Yo] at hw;rw[z,hw] at hu;exact no hu
       ·rcases Yu.mp hx with hx|hx;·exact pO.sd x hx
        ·rw[Yo.mp hx];exact .step (pO.sd k (Ye Am)) ((N8 ok).mpr ⟨c,mc,c1,c2,eo⟩)
       ·rw[eo] at hy;rw[←V.str.inj hy];exact Yq _ Yk
      ·refine⟨eB,tl,_,_,_,_,g8.trans g9,g9 _ _ jz,pO,e8,uz _ (λ_ h=>h) λh1 h2 y h3=>?_,rfl⟩;rw[h1,Jr,decide_eq_true h2,Jr,h3] at cc;by_cases z:y∈eB;·exact z
       ·exact absurd (by rw[Jt.mpr (λw=>z ((G9 _ _).mp w))];rfl) cc
     ·grind
    ·rintro σ H8 ⟨eB,tl,p4,p5,p6,p7,g8,jz,pO,e8,hX,rfl⟩;rw[Y8] at hX;have Am:eB[r]?=some k:=by rw[e8,Wd uy];exact ek
     refine⟨_,rfl,_,_,rfl,rfl,?_⟩;refine⟨⟨eB,r+1,p4,p5,p6,p7,g8,jz,pO,by rw[e8,Yl];omega,λr' h' x hx p hp=>?_,rfl⟩,?_⟩
     ·by_cases z:r'=r
      ·rw[z,Am] at hx;cases hx;obtain⟨c,mc,h1,h2,h3⟩:=(N8 ok).mp hp;exact hX c mc h1 h2 p h3
      ·rw[e8,Wd (by omega)] at hx;rw[e8];exact Yr _ (cl r' (by omega) x hx p hp)
     ·show b.ps.length+1-((r:Int)+1).toNat<b.ps.length+1-((r:Int)).toNat;omega
   ·have re:¬((r:Int)<(ks.length:Int)):=λz=>c (decide_eq_true z);exact eS _ _ ⟨ks,g6,mE,up.all (λr' h'=>cl r' (by omega)),_,_,_,_,_,rfl⟩
  ·rintro σ H6 Q1 Q2 mo ⟨v1,w1,v2,w2,v3,v4,w3,w4,v5,v6,w5,w6,v7,w7,h⟩;exact⟨v1,w1,v2,w2,v3,v4,w3,w4,v5,v6,w5,w6,v7,w7,mo _ _ h⟩
 rintro σ H6 ⟨ks,g6,mE,al,o3,o4,o5,o6,o7,rfl⟩;exact⟨_,rfl,q bq ks H6 g6 mE al⟩
end
open Classical in
noncomputable def lS (n:Nat) (b:BS) (c:Fc):Str:=if c.k≠bF/\jM c.k (eV b.ps c.one) (eV b.ps c.aJ.toNat)=false then"wrong side" else if nv b.ps b.F c.k (au b.ps c.one) (kV (bh b.ps c))=true then"told twice" else if cH c.k=true/\fG b (au b.ps c.aJ.toNat) (au b.ps c.one) then"own elder" else if dJ (b.F++[c]) n c.one=[] then"barred" else""
inductive Pr(vs:List V)(H:Hp)(Q:VK):Prop
 |mk (sd fa td ff:Addr) (xs ys:List Int) (b:BS) (c:Fc) (aC:vs=[.ref sd,.ref fa,.ref td,.ref ff]) (hs:H sd=some (.dK (fO b.ps))) (hf:FL H b.ps fa b.F) (ht:eW H td xs ys) (hc:H ff=some (.tup [.str c.k,.str (au b.ps c.one),kV (bh b.ps c)])) (ok:cD xs ys b) (fg:dM xs ys b.ps.length c) (q:∀H',ai H H'->Q (.str (lS xs.length b c)) H'):Pr vs H Q
def QP:Sp:=λvs H Q _=>Pr vs H Q
theorem Zd5(fg:dM xs ys m c)(ns:c.k≠bF):c.k="mother"\/c.k="father"\/c.k="wed"\/c.k="sibling":=by
 have h:=fg.tF ns
 grind
section
theorem xJ:aQ ["_law_sides","_law_facts","_law_turns_here","_law_fact_here","_law_kind","_law_one","_law_other"] ["_law_sides","_law_facts","_law_turns_here","_law_fact_here"] (aL DK):=⟨rfl,rfl,rfl,by decide+kernel,rfl,by decide+kernel,by decide+kernel⟩
open Classical in
theorem X2(F:aM K "_law_word" "_law_word" DK f fd)(Dp:HasFn P w K mg base 1 "_law_sided" ["_law_sides","_law_kind","_law_one","_law_other"] Pq)(DU:HasFn P w K mg base 1 "_law_told" ["_law_facts","_law_kind","_law_one","_law_other"] Pp)(EU:HasFn P w K mg base 1 "_law_up" ["_law_facts","_law_name_here"] SH)(r9:HasFn P w K mg base 3 "_law_room" ["_law_facts","_law_turns_here","_law_name_here"] F5)(bl:Bl mg):aG P w K mg base aN 4 f fd ["_law_sides","_law_facts","_law_turns_here","_law_fact_here"] QP:=by
 refine F.ok xJ (λvs H Q E h=>?_) (λaE A outer s H vs Q E hr h=>?_)
 ·obtain⟨sd,fa,td,ff,xs,ys,b,c,rfl,_⟩:=h;rfl
 obtain⟨sd,fa,td,ff,xs,ys,b,c,rfl,hs,hf,ht,hc,ok,fg,q⟩:=h;have hu:=hr.qh;refine⟨_,(aj (mY (pv 3) (ic (K:=K) (n:=3) rfl rfl (bW (bj (i:=4) xJ.nd rfl (Or.inl rfl)) (bW (bj (i:=5) xJ.nd rfl (Or.inl rfl)) (bW (bj (i:=6) xJ.nd rfl (Or.inl rfl)) ib))))) (aj (aS (aZ cg (pv 4) bA (aR _)) (aj (aS (i6 (lD (bB hr) (pv 5) (pv 0)) (by with_unfolding_all rfl)) (aq (aF bA)) aY) (aq (aS (PW.pt (pw_or (aZ lQ (pv 6) aI (aR _)) (pw_or1 (aZ Zef (pv 6) (bJ (c5 (K:=K) rfl) rfl bl.cQ cP (aa (c9 (bB hr) (pv 2) bA (λ_ _=>rfl)) ae)) (aR _))))) (aq (aF bA)) aY))) (aj (aS (i6 (lD (bB hr) (pv 4) (pv 2)) (by with_unfolding_all rfl)) (aq (aF bA)) aY) (aj (aS (PW.pt (pw_or (i6 (lD (bB hr) (pv 5) (pv 0)) (by with_unfolding_all rfl)) (pw_or1 (i6 (lD (bB hr) (pv 6) (pv 0)) (by with_unfolding_all rfl))))) (aq (aF bA)) aY) (aq (aS (i8 (eN (aT Dp hr (by omega) rfl (aa (pv 0) (aa (pv 4) (aa (pv 5) (aa (pv 6) ae))))))) (aq (aF bA)) aY))))) (aj (aS (eN (aT DU hr (by omega) rfl (aa (pv 1) (aa (pv 4) (aa (pv 5) (aa (pv 6) ae)))))) (aq (aF bA)) aY) (aj (aS (PW.pt (pw_and (aZ (kW (K:=K) rfl) (pv 4) (dv (aa bA (aa bA ae))) (by with_unfolding_all rfl)) (pw_and1 (aZ (kW (K:=K) rfl) (pv 5) (aT EU hr (by omega) rfl (aa (pv 1) (aa (pv 6) ae))) (by with_unfolding_all rfl))))) (aq (aF bA)) aY) (aj (aS (aZ (P8 hu) (aT r9 hr (by omega) rfl (aa (a_ yp (pv 1) (df (aa (dv (aa (a_ yz aI aI) (aa (pv 4) (aa (pv 5) (aa (pv 6) ae))))) ae))) (aa (pv 2) (aa (pv 5) ae)))) (df ae) (aR _)) (aq (aF bA)) aY) (aq (aF bA))))))),?_⟩;have sz:(10000:Nat)<=sizeLine:=by rw[sizeLine_eq];omega
 have one:=fg.ok.one;have g1:=mU ok.nm one;refine⟨_,rfl,ff,_,rfl,ay.of hc,rfl,_,_,rfl,bu ⟨_,_,rfl,bu ⟨_,_,rfl,bu ⟨rfl,?_⟩⟩⟩⟩;dsimp only;refine mZ (λσ H7=>ai H H7/\¬(c.k≠bF/\jM c.k (eV b.ps c.one) (eV b.ps c.aJ.toNat)=false)/\σ=[some (.ref sd),some (.ref fa),some (.ref td),some (.ref ff),some (.str c.k),some (.str (au b.ps c.one)),some (kV (bh b.ps c))]) (λoa fk=>?_) ?_
 ·refine⟨_,rfl,rfl,_,rfl,?_⟩;rw[dO];refine bC (λcc=>?_) (λcc=>?_)
  ·have sk:c.k=bF:=of_decide_eq_true cc;have eo:kV (bh b.ps c)=.int c.aJ:=by rw[lE sk];rfl
   refine⟨_,rfl,_,rfl,sd,_,rfl,cY hs g1,_,rfl,bY (aX ?_)⟩;obtain⟨s0,s1⟩:=fg.G5 sk;obtain⟨_,_,_,u0,dD,_,_,_,uA⟩:=id ht;refine(Bt.or (a:=decide (c.aJ<0)) (b:=decide ((((bp xs.length).map V.int).length:Int)<=c.aJ)) (λk hk=>⟨_,rfl,c.aJ,0,eo,rfl,_,rfl,hk _ (ai.refl _)⟩) λH1 _ g1 k hk=>⟨_,rfl,_,rfl,td,.ref u0,rfl,cY (g1 _ _ dD) rfl,u0,_,rfl,.inr (ay.of (g1 _ _ uA)),c.aJ,_,eo,rfl,_,rfl,hk _ (ai.refl _)⟩) _ λH2 g2=>?_;rw[decide_eq_false (by omega),decide_eq_false (by rw[Ya,eF];omega)];exact bY (aX (fk _ _ ⟨g2,λz=>z.1 sk,rfl⟩))
  ·have ns:c.k≠bF:=λz=>cc (decide_eq_true z);have eo:kV (bh b.ps c)=.str (au b.ps c.aJ.toNat):=by rw[ia ns];rfl
   obtain⟨tk,u,dD,vu,_⟩:=ht.get (fg.tF ns);have g2:=mU ok.nm (fg.ok.gf ns).1.2;refine⟨_,rfl,_,rfl,td,_,rfl,cY dD vu,_,rfl,bY (aX ?_)⟩;refine(Bt.or (a:=false) (b:=false) (λk hk=>⟨_,rfl,_,rfl,sd,_,rfl,cY hs g1,_,rfl,hk _ (ai.refl _)⟩) λH1 _ g1 k hk=>⟨_,rfl,_,rfl,sd,some (.str (eV b.ps c.aJ.toNat)),rfl,(by rw[eo];exact cY (g1 _ _ hs) g2),_,rfl,hk _ (ai.refl _)⟩) _ λH2 g2=>bY (aX ?_);refine⟨_,rfl,_,rfl,_,rfl,_,rfl,sd,b.ps,c.k,c.one,c.aJ.toNat,by rw[eo];rfl,g2 _ _ hs,ok.nm,one,(fg.ok.gf ns).1.2,Zd5 fg ns,λH3 g3=>⟨_,rfl,?_⟩⟩;cases es:jM c.k (eV b.ps c.one) (eV b.ps c.aJ.toNat) with
   |true=>exact bY (aX (fk _ _ ⟨g2.trans g3,λz=>by rw[es] at z;exact absurd z.2 (by decide),rfl⟩))
   |false=>
    refine cV ?_;have e:lS xs.length b c="wrong side":=if_pos ⟨ns,es⟩;rw[e] at q;exact q _ (g2.trans g3)
 rintro σ H7 ⟨g7,nw,rfl⟩;refine⟨_,rfl,_,rfl,_,rfl,_,rfl,fa,b.ps,b.F,c.k,au b.ps c.one,kV (bh b.ps c),rfl,hf.same g7,yx _,λH8 g8=>⟨_,rfl,?_⟩⟩;have JO:=g7.trans g8;unfold lS at q;rw[if_neg nw] at q;refine bC (λct=>?_) (λct=>aX ?_)
 ·rw[if_pos ct] at q;exact q _ JO
 rw[if_neg ct] at q;refine(Bt.and (b:=decide (fG b (au b.ps c.aJ.toNat) (au b.ps c.one))) (Vt.test (Vt.Gw (k:=c.k) (Vt.var rfl))) λH9 ip g9 k hk=>?_) _ λH9 g9=>?_
 ·have ns:c.k≠bF:=λz=>by rw[z] at ip;exact absurd ip (by decide+kernel)
  have eo:kV (bh b.ps c)=.str (au b.ps c.aJ.toNat):=by rw[ia ns];rfl
  refine⟨_,rfl,_,rfl,_,rfl,fa,xs,ys,b,au b.ps c.aJ.toNat,by rw[eo];rfl,hf.same (JO.trans g9),ok,Fo (fg.ok.gf ns).1.2,λp ks H' g' hp al=>⟨p,_,rfl,.inl (ak.of hp),rfl,MR _,_,rfl,?_⟩⟩;have e:eO (V.str (au b.ps c.one)) (ks.map V.str)=decide (fG b (au b.ps c.aJ.toNat) (au b.ps c.one)):=by
   rw[Wi,decide_eq_true_iff,G9,al]
  rw[e];exact hk _ g'
 have An:=JO.trans g9;refine bC (λcu=>?_) (λcu=>aX ?_)
 ·rw[Wm,decide_eq_true_iff] at cu;rw[if_pos cu] at q;exact q _ An
 rw[Wm,decide_eq_true_iff] at cu;rw[if_neg cu] at q;obtain⟨as,cM,dP⟩:=hf.same An;have al:=cU dP;have fl:=ok.fl;have Fl:b.F.length=b.fs.length:=Ya _;refine⟨_,rfl,_,_,rfl,rfl,_,rfl,_,rfl,_,rfl,by show 4<=sizeLine;omega,λt Ht nt gt JP=>⟨by show 1<=sizeLine;omega,λl Hl nl gl hl=>⟨fa,l,_,_,rfl,rfl,gl _ _ (gt _ _ cM),hl,by rw[Ya];show _+1<=_;omega,λp Hp np gp hp=>⟨_,rfl,_,rfl,?_⟩⟩⟩⟩;have JQ:=(gt.trans gl).trans gp;refine⟨p,td,b.ps,xs,ys,b.F++[c],c.one,rfl,⟨as++[t],by rw[hp,Ym];rfl,iU (F:=JD Hp b.ps) ⟨-1,gp _ _ (gl _ _ JP)⟩ (L2.Paired.bI dP λ_ _ ⟨z,e⟩=>⟨z,JQ _ _ e⟩)⟩,ht.same (An.trans JQ),ok.nm,λc' oZ=>?_,ok.gd.2.2.2.2,by have:=ok.m;omega,by rw[Yl];show _+1<=64;omega,one,λpr Hr npr gr hr2=>⟨by show 0<=sizeLine;omega,λe He ne ge he=>⟨pr,e,_,[],rfl,rfl,ak.of (ge _ _ hr2),ak.of he,_,rfl,?_⟩⟩⟩
 ·rcases Yu.mp oZ with h|h
  ·obtain⟨pp,JR,rfl⟩:=Yf.mp (show c'∈b.fs.map (·.2) from h);exact ok.fg pp JR
  ·rw[Yo.mp h];exact fg
 have gE:=(An.trans JQ).trans (gr.trans ge);refine bC (λcr=>?_) (λcr=>aX ?_)
 ·rw[if_pos (of_decide_eq_true cr)] at q;exact q _ gE
 ·rw[if_neg (λz=>cr (decide_eq_true z))] at q;exact q _ gE
end
theorem Pt(a b:Str):(L2.oS a b=a/\L2.oU a b=b)\/(L2.oS a b=b/\L2.oU a b=a):=by
 unfold L2.oS L2.oU;by_cases h1:b.cps.toList<a.cps.toList;·grind
 ·rw[if_neg h1];by_cases h2:a.cps.toList<b.cps.toList;·grind
  ·rw[if_neg h2];have e2:a=b:=by
    cases a with|mk ca=>cases b with|mk cb=>
     grind
   grind
theorem N9{b:BS}{c:Fc}(h:nv b.ps b.F c.k (au b.ps c.one) (kV (bh b.ps c))=false):eT b.ps c∉b.keys/\(cH c.k=true->[.inr c.k,.inr (au b.ps c.one)]∉(cj b.ps b.fs).map (·.1))/\¬(c.k="sibling"/\V.str (au b.ps c.one)=kV (bh b.ps c)):=by
 unfold nv at h;rw[Bool.or_eq_false_iff] at h;obtain⟨h1,h2⟩:=h;have no:∀p∈b.fs,kR b.ps c.k (au b.ps c.one) (kV (bh b.ps c)) p.2=false:=λp hp=>by
  have:=J9.mp h1 p.2 (Yf.mpr ⟨p,hp,rfl⟩);exact Jt.mpr this
 have Zf1:∀{u v:Key},u=v->kV u=kV v:=λe=>by rw[e]
 refine⟨λhk=>?_,λip hp=>?_,λ⟨e1,e2⟩=>?_⟩
 ·obtain⟨p,hp,e⟩:=Yf.mp hk;have n:=no p hp;have hit:p.2.k=c.k->((au b.ps p.2.one=au b.ps c.one/\bh b.ps p.2=bh b.ps c)\/(c.k="sibling"/\bh b.ps p.2=.inr (au b.ps c.one)/\Sum.inr (au b.ps p.2.one)=bh b.ps c))->False:=λe1 e2=>by
   have:kR b.ps c.k (au b.ps c.one) (kV (bh b.ps c)) p.2=true:=by
    unfold kR;rw[decide_eq_true e1,Jr];rcases e2 with⟨e2,e3⟩|⟨e2,e3,e4⟩;·rw[decide_eq_true e2,decide_eq_true (Zf1 e3)];rfl
    ·rw[decide_eq_true e2,decide_eq_true (show kV (bh b.ps p.2)=.str (au b.ps c.one) by rw[e3];rfl),decide_eq_true (show V.str (au b.ps p.2.one)=kV (bh b.ps c) by rw[←e4];rfl)];simp
   rw[this] at n;cases n
  unfold eT at e;cases mG:bh b.ps p.2 with
  |inl z1=>
   cases lq:bh b.ps c with
   |inl z2=>
    rw[mG,lq] at e;injection e with e1 e;injection e with e2 e;injection e with e3 _;exact hit (We e1) (.inl ⟨We e2,by rw[mG,lq,e3]⟩)
   |inr z2=>
    rw[mG,lq] at e;unfold keyOf at e;dsimp only at e;split at e
    ·injection e with e1 e;injection e with e2 e;injection e with e3 _;cases e3
    ·injection e with e1 e;injection e with e2 e;injection e with e3 _;cases e3
  |inr z1=>
   cases lq:bh b.ps c with
   |inl z2=>
    rw[mG,lq] at e;unfold keyOf at e;dsimp only at e;split at e
    ·injection e with e1 e;injection e with e2 e;injection e with e3 _;cases e3
    ·injection e with e1 e;injection e with e2 e;injection e with e3 _;cases e3
   |inr z2=>
    rw[mG,lq] at e;have ek:p.2.k=c.k:=by
     unfold keyOf at e;dsimp only at e;split at e<;>split at e<;>(injection e with e1 _;exact We e1)
    unfold keyOf at e;dsimp only at e;rw[ek] at e;by_cases sb:c.k="sibling"
    ·rw[if_pos sb,if_pos sb] at e;injection e with _ e;injection e with e2 e;injection e with e3 _;have e2:=We e2;have e3:=We e3;refine hit ek ?_;rcases Pt (au b.ps p.2.one) z1 with⟨m1,m2⟩|⟨m1,m2⟩<;>rcases Pt (au b.ps c.one) z2 with⟨m3,m4⟩|⟨m3,m4⟩<;>rw[m1,m3] at e2<;>rw[m2,m4] at e3;·exact .inl ⟨e2,by rw[mG,lq,e3]⟩
     ·exact .inr ⟨sb,by rw[mG,e3],by rw[lq,e2]⟩
     ·exact .inr ⟨sb,by rw[mG,e2],by rw[lq,e3]⟩
     ·exact .inl ⟨e3,by rw[mG,lq,e2]⟩
    ·rw[if_neg sb,if_neg sb] at e;injection e with _ e;injection e with e2 e;injection e with e3 _;exact hit ek (.inl ⟨We e2,by rw[mG,lq,e3]⟩)
 ·obtain⟨q,hq,e⟩:=Yf.mp hp;unfold cj at hq;obtain⟨p,hp,rfl⟩:=Yf.mp hq;obtain⟨nU,dB⟩:=Y3.mp hp;have n:=no p nU;injection e with e1 e;injection e with e2 _;unfold kR at n;rw[decide_eq_true (We e1),decide_eq_true (We e2),ip] at n;simp at n
 ·rw[decide_eq_true e1,decide_eq_true e2] at h2;cases h2
theorem Zam(ok:cD xs ys b)(fg:dM xs ys b.ps.length c)(h:dJ (b.F++[c]) xs.length c.one≠[]):∃f,j_ xs.length b.ps.length f/\∀c'∈b.F++[c],eK f c':=by
 obtain⟨a,ha⟩:=List.exists_mem_of_ne_nil _ h;obtain⟨_,g,cl,hg⟩:=u4.mp ha;obtain⟨f0,inr,sat⟩:=ok.lv;have gh:∀c'∈b.F++[c],du xs.length b.ps.length c':=λc' oZ=>by
  rcases Yu.mp oZ with h|h
  ·obtain⟨pp,JR,rfl⟩:=Yf.mp (show c'∈b.fs.map (·.2) from h);exact(ok.fg pp JR).ok
  ·rw[Yo.mp h];exact fg.ok
 obtain⟨f,h1,h2,_⟩:=Lc gh inr (λc' oZ=>by
  rcases Yu.mp oZ with h|h;·grind
  ·rw[Yo.mp h];exact .inl rfl) cl hg
 grind
theorem Pu{xs:List Int}{b:BS}{c:Fc}(h:lS xs.length b c=""):¬(c.k≠bF/\jM c.k (eV b.ps c.one) (eV b.ps c.aJ.toNat)=false)/\nv b.ps b.F c.k (au b.ps c.one) (kV (bh b.ps c))=false/\¬(cH c.k=true/\fG b (au b.ps c.aJ.toNat) (au b.ps c.one))/\dJ (b.F++[c]) xs.length c.one≠[]:=by
 unfold lS at h;by_cases h1:c.k≠bF/\jM c.k (eV b.ps c.one) (eV b.ps c.aJ.toNat)=false;·rw[if_pos h1] at h;exact absurd h (by decide+kernel)
 rw[if_neg h1] at h;by_cases h2:nv b.ps b.F c.k (au b.ps c.one) (kV (bh b.ps c))=true;·rw[if_pos h2] at h;exact absurd h (by decide+kernel)
 rw[if_neg h2] at h;by_cases h3:cH c.k=true/\fG b (au b.ps c.aJ.toNat) (au b.ps c.one);·rw[if_pos h3] at h;exact absurd h (by decide+kernel)
 rw[if_neg h3] at h;by_cases h4:dJ (b.F++[c]) xs.length c.one=[];·rw[if_pos h4] at h;exact absurd h (by decide+kernel)
 grind
theorem EV{xs ys:List Int}{b:BS}{c:Fc}(ok:cD xs ys b)(fg:dM xs ys b.ps.length c)(lim:b.fs.length<63)(h:lS xs.length b c=""):y9 xs ys b c:=by
 obtain⟨_,h2,_,h4⟩:=Pu h;obtain⟨k1,k2,_⟩:=N9 h2;exact⟨fg,k1,k2,Zam ok fg h4,lim⟩
theorem Zbx{xs ys:List Int}{b:BS}{c:Fc}(ok:cD xs ys b)(fg:dM xs ys b.ps.length c)(lim:b.fs.length<63)(h:lS xs.length b c="")(ns:c.k≠bF):Gu xs ys b c:=by
 obtain⟨h1,h2,h3,_⟩:=Pu h;obtain⟨k1,k2,k3⟩:=N9 h2;have eo:=ia (ps:=b.ps) ns;refine⟨EV ok fg lim h,ns,?_,⟨k2,λ_=>⟨?_,λ⟨e1,e2⟩=>k3 ⟨e1,by rw[eo,e2];rfl⟩⟩⟩,λip an=>h3 ⟨ip,an⟩⟩;·grind
 ·rw[←eo];exact k1
def iG(ps:bM):List V:=ps.map λp=>.str p.1
theorem vg(ps:bM):(iG ps).length=ps.length:=Ya _
theorem Zd6{ps:bM}{z:Int}(h0:0<=z)(h:z<(ps.length:Int)):dI (iG ps) z=some (.str (au ps z.toNat)):=by
 obtain⟨k,rfl⟩:∃k:Nat,z=(k:Int):=⟨z.toNat,by omega⟩;refine gq ?_;unfold iG au
 grind
theorem vF{z:Int}{n:Nat}(h:0<n):0<=z % (n:Int)/\z % (n:Int)<(n:Int):=⟨Jb _ (by omega),W0 _ (by omega)⟩
theorem Vt.Ft{K:PySem.W.Frag}{e:TE}{σ:St}{H:Hp}{nl:Addr}{ps:bM}{z:Int}{i:Nat}(hi:σ[i]?=some (some (.ref nl)))(hn:H nl=some (.lst (iG ps)))(p0:0<ps.length)(he:Vt e σ H (.int z)):Vt (jW (vU K) (gv i) (jW (rI (λ_ j=>0<j) λi j=>V.int (i % j)) e (ph (yX K) (ig (gv i) je)))) σ H (.str (au ps (z % (ps.length:Int)).toNat)):=λk hk=>⟨_,hi,he _ λH1 g1=>by
 have l:=vg ps;have m:=vF (z:=z) p0;exact⟨_,hi,nl,_,rfl,.inl (ak.of (g1 _ _ hn)),_,_,rfl,rfl,by omega,nl,_,_,_,rfl,rfl,ak.of (g1 _ _ hn),by rw[l];exact Zd6 m.1 m.2,hk H1 g1⟩⟩
inductive Px(vs:List V)(H:Hp)(Q:VK):Prop
 |mk (nl sd:Addr) (ps:bM) (z:Int) (s:Str) (aC:vs=[.ref nl,.ref sd,.int z,.str s]) (hn:H nl=some (.lst (iG ps))) (hs:H sd=some (.dK (fO ps))) (nd:(ps.map (·.1)).Nodup) (p0:0<ps.length) (pm:ps.length<=100) (q:∀i,i<ps.length->∀H',ai H H'->Q (.str (au ps i)) H'):Px vs H Q
def QQ:Sp:=λvs H Q _=>Px vs H Q
theorem Zby(xs ys:List Int){d:Int}(h:0<=d/\d<4):∃(k:Str) (tn:List Int) (w:Str),dI [V.str "mother",V.str "father",V.str "wed",V.str "sibling"] d=some (.str k)/\(k,tn)∈oQ xs ys/\dI [V.str "woman",V.str "man",V.str "woman",V.str ""] d=some (.str w):=by
 have:d=0\/d=1\/d=2\/d=3:=by omega
 rcases this with rfl|rfl|rfl|rfl;·exact⟨_,inv xs,_,rfl,by simp,rfl⟩
 ·exact⟨_,inv (bH xs ys),_,rfl,by simp,rfl⟩
 ·exact⟨_,ys,_,rfl,by simp,rfl⟩
 ·exact⟨_,bp xs.length,_,rfl,by simp,rfl⟩
inductive Py(vs:List V)(H:Hp)(Q:VK):Prop
 |mk (nl sd dr:Addr) (ps:bM) (xs ys:List Int) (d0 d1 d2 d3 d4:Int) (aC:vs=[.ref nl,.ref sd,.ref dr,.int (xs.length:Int)]) (hn:H nl=some (.lst (iG ps))) (hs:H sd=some (.dK (fO ps))) (nd:(ps.map (·.1)).Nodup) (p0:0<ps.length) (pm:ps.length<=100) (hd:H dr=some (.lst ([d0,d1,d2,d3,d4].map V.int))) (b4:0<=d4/\d4<4) (gd:ni xs ys) (q:∀c,dM xs ys ps.length c->∀(ff:Addr) (H':Hp),H ff=none->ai H H'->H' ff=some (.tup [.str c.k,.str (au ps c.one),kV (bh ps c)])->Q (.ref ff) H'):Py vs H Q
def QR:Sp:=λvs H Q _=>Py vs H Q
section
theorem Ls:aQ ["_law_names","_law_sides","_law_at","_law_side","_law_k"] ["_law_names","_law_sides","_law_at","_law_side"] (aL DL):=⟨rfl,rfl,rfl,by decide+kernel,rfl,by decide+kernel,by decide+kernel⟩
theorem X3(F:aM K "_law_pick" "_law_pick" DL f fd)(bl:Bl mg):aG P w K mg base aN 1 f fd ["_law_names","_law_sides","_law_at","_law_side"] QQ:=by
 refine F.ok Ls (λvs H Q E h=>?_) (λaE A outer s H vs Q E hr h=>?_)
 ·obtain⟨nl,sd,ps,z,sx,rfl,_⟩:=h;rfl
 obtain⟨nl,sd,ps,z,sx,rfl,hn,hs,nd,p0,pm,q⟩:=h;refine⟨_,(aj (fT PassesOwn.never rfl (ow rfl bl.iY (aa (bJ (c5 (K:=K) rfl) rfl bl.cQ cP (aa (pv 0) ae)) ae)) (bj (i:=4) Ls.nd rfl (Or.inl rfl)) (aq (aS (PW.pt (pw_or (aZ cg (pv 3) bA (aR _)) (pw_or1 (aZ cg (c9 (bB hr) (pv 1) (a9 (cB (K:=K) rfl) (pv 0) (a_ d7 (a_ gQ (pv 2) (pv 4)) (bJ (c5 (K:=K) rfl) rfl bl.cQ cP (aa (pv 0) ae))) (λ_ _=>rfl)) (λ_ _=>rfl)) (pv 3) (aR _))))) (aq (aF (a9 (cB (K:=K) rfl) (pv 0) (a_ d7 (a_ gQ (pv 2) (pv 4)) (bJ (c5 (K:=K) rfl) rfl bl.cQ cP (aa (pv 0) ae))) (λ_ _=>rfl)))) aY))) (aq (aF (a9 (cB (K:=K) rfl) (pv 0) (a_ d7 (pv 2) (bJ (c5 (K:=K) rfl) rfl bl.cQ cP (aa (pv 0) ae))) (λ_ _=>rfl))))),?_⟩;have Ao:=vg ps;have at_:∀z:Int,(z % (ps.length:Int)).toNat<ps.length:=λz=>by have:=vF (z:=z) p0;omega
 refine gu (λσ H6=>ai H H6/\∃o4:Option V,σ=[some (.ref nl),some (.ref sd),some (.int z),some (.str sx),o4]) (λl_ eS=>?_) ?_
 ·refine⟨_,rfl,nl,_,rfl,.inl (ak.of hn),_,rfl,by omega,by omega,D6 (lo:=0) (n:=(((iG ps).length:Nat):Int).toNat) (λ_ σ H6=>ai H H6/\∃o4:Option V,σ=[some (.ref nl),some (.ref sd),some (.int z),some (.str sx),o4]) ⟨ai.refl _,none,rfl⟩ ?_ (λσ H6 h=>eS _ _ h)⟩;rintro j σ H6 hj ⟨g6,o4,rfl⟩;rw[J7];have vt:∀H7,ai H6 H7->Vt _ _ H7 _:=λH7 g7=>Vt.Ft (K:=K) (i:=0) (σ:=[some (.ref nl),some (.ref sd),some (.int z),some (.str sx),some (.int (j:Int))]) (z:=z+(j:Int)) (e:=jW (pd λi j=>V.int (i+j)) (gv 2) (gv 4)) rfl (g7 _ _ (g6 _ _ hn)) p0 (λk hk=>⟨_,rfl,_,rfl,_,_,rfl,rfl,hk _ (ai.refl _)⟩);refine(Bt.or (Vt.test (Vt.eq (Vt.var rfl) (λ_ _=>Vt.c) rfl)) λH7 _ g7=>Vt.test (Vt.eq (x:=.str (eV ps ((z+(j:Int)) % (ps.length:Int)).toNat)) (y:=.str sx) (λk hk=>⟨_,rfl,vt H7 g7 _ λH8 g8=>⟨sd,_,rfl,cY (g8 _ _ (g7 _ _ (g6 _ _ hs))) (mU nd (at_ _)),hk H8 g8⟩⟩) (λ_ _=>Vt.var rfl) rfl)) _ λH9 g9=>?_;refine bC (λ_=>?_) (λ_=>aX ⟨g6.trans g9,_,rfl⟩);exact vt H9 g9 _ λHA gA=>q _ (at_ _) HA ((g6.trans g9).trans gA)
 rintro σ H6 ⟨g6,o4,rfl⟩;exact Vt.Ft (K:=K) (i:=0) (z:=z) rfl (g6 _ _ hn) p0 (Vt.var rfl) _ λHA gA=>q _ (at_ _) HA (g6.trans gA)
theorem uS:aQ ["_law_names","_law_sides","_law_drawn","_law_size","_law_kind","_law_one","_law_want"] ["_law_names","_law_sides","_law_drawn","_law_size"] (aL DM):=⟨rfl,rfl,rfl,by decide+kernel,rfl,by decide+kernel,by decide+kernel⟩
theorem X4(F:aM K "_law_fact" "_law_fact" DM f fd)(xR:HasFn P w K mg base 1 "_law_pick" ["_law_names","_law_sides","_law_at","_law_side"] QQ)(bl:Bl mg):aG P w K mg base aN 2 f fd ["_law_names","_law_sides","_law_drawn","_law_size"] QR:=by
 refine F.ok uS (λvs H Q E h=>?_) (λaE A outer s H vs Q E hr h=>?_)
 ·obtain⟨nl,sd,dr,ps,xs,ys,d0,d1,d2,d3,d4,rfl,_⟩:=h;rfl
 obtain⟨nl,sd,dr,ps,xs,ys,d0,d1,d2,d3,d4,rfl,hn,hs,nd,p0,pm,hd,b4,gd,q⟩:=h;refine⟨_,(aj (bg (i:=4) uS.nd rfl (Or.inl rfl) (a9 (cB (K:=K) rfl) (df (aa bA (aa bA (aa bA (aa bA ae))))) (a9 (cB (K:=K) rfl) (pv 2) aI (λ_ _=>rfl)) (λ_ _=>rfl))) (aj (bg (i:=5) uS.nd rfl (Or.inl rfl) (a9 (cB (K:=K) rfl) (pv 0) (a_ d7 (a9 (cB (K:=K) rfl) (pv 2) aI (λ_ _=>rfl)) (bJ (c5 (K:=K) rfl) rfl bl.cQ cP (aa (pv 0) ae))) (λ_ _=>rfl))) (aj (aS (aZ Gd (a9 (cB (K:=K) rfl) (pv 2) aI (λ_ _=>rfl)) aI (aR _)) (aq (aF (dv (aa bA (aa (pv 5) (aa (a_ d7 (a9 (cB (K:=K) rfl) (pv 2) aI (λ_ _=>rfl)) (pv 3)) ae)))))) aY) (aj (aS (aZ cg (pv 4) bA (aR _)) (aq (bg (i:=5) uS.nd rfl (Or.inl rfl) (aT xR hr (by omega) rfl (aa (pv 0) (aa (pv 1) (aa (a9 (cB (K:=K) rfl) (pv 2) aI (λ_ _=>rfl)) (aa bA ae))))))) aY) (aj (bg (i:=6) uS.nd rfl (Or.inl rfl) (a9 (cB (K:=K) rfl) (df (aa bA (aa bA (aa bA (aa bA ae))))) (a9 (cB (K:=K) rfl) (pv 2) aI (λ_ _=>rfl)) (λ_ _=>rfl))) (aq (aF (dv (aa (pv 4) (aa (pv 5) (aa (aT xR hr (by omega) rfl (aa (pv 0) (aa (pv 1) (aa (a9 (cB (K:=K) rfl) (pv 2) aI (λ_ _=>rfl)) (aa (pv 6) ae))))) ae))))))))))),?_⟩;have sz:(10000:Nat)<=sizeLine:=by rw[sizeLine_eq];omega
 obtain⟨k,tn,wt,ek,hk,ew⟩:=Zby xs ys b4;have at_:∀z:Int,(z % (ps.length:Int)).toNat<ps.length:=λz=>by have:=vF (z:=z) p0;omega
 obtain⟨_,_,_,l2,l8⟩:=id gd;have Zf2:(0:Int)<(xs.length:Int):=by omega
 refine cy ?_;refine⟨by show 4<=sizeLine;omega,λkl H1 nkl g1 zD=>⟨_,rfl,dr,_,_,_,rfl,rfl,ak.of (g1 _ _ hd),rfl,kl,_,_,_,rfl,rfl,ak.of zD,ek,?_⟩⟩;refine cy ?_;have mw:=g1 _ _ hn;refine Vt.Ft (K:=K) (i:=0) (z:=d1) rfl mw p0 (λkk hk=>⟨_,rfl,dr,_,_,_,rfl,rfl,ak.of (g1 _ _ hd),rfl,hk _ (ai.refl _)⟩) _ λH2 g2=>?_;have ke:=g1.trans g2;refine⟨_,rfl,dr,_,_,_,rfl,rfl,ak.of (ke _ _ hd),rfl,_,_,rfl,rfl,_,rfl,bC (λ_=>?_) (λ_=>aX ?_)⟩
 ·refine⟨_,rfl,_,rfl,dr,_,_,_,rfl,rfl,ak.of (ke _ _ hd),rfl,_,rfl,_,_,rfl,rfl,Zf2,by show 3<=sizeLine;omega,λff H3 Ap g3 rF=>?_⟩;have mm:=vF (z:=d3) (n:=xs.length) (by omega);exact q ⟨bF,(d1 % (ps.length:Int)).toNat,d3 % (xs.length:Int),[]⟩ ⟨⟨at_ _,λz=>absurd rfl z⟩,.inl rfl,λ_=>mm⟩ ff H3 (ke.free Ap) (ke.trans g3) (by rw[rF,lE rfl];rfl)
 have nk:k≠bF:=λz=>Zj (z▸hk);refine mZ (λσ H6=>ai H H6/\∃i:Nat,i<ps.length/\σ=[some (.ref nl),some (.ref sd),some (.ref dr),some (.int (xs.length:Int)),some (.str k),some (.str (au ps i)),none]) (λoa fk=>?_) ?_
 ·refine⟨_,rfl,rfl,_,rfl,bC (λ_=>?_) (λ_=>aX (fk _ _ ⟨ke,_,at_ _,rfl⟩))⟩;refine⟨_,rfl,_,rfl,_,rfl,dr,_,_,_,rfl,rfl,ak.of (ke _ _ hd),rfl,nl,sd,ps,d1,"man",rfl,ke _ _ hn,ke _ _ hs,nd,p0,pm,λi hi H3 g3=>bu (fk _ _ ⟨ke.trans g3,i,hi,rfl⟩)⟩
 rintro σ H6 ⟨g6,i,hi,rfl⟩;refine cy ?_;refine⟨by show 4<=sizeLine;omega,λwl H7 UG g7 wq=>⟨_,rfl,dr,_,_,_,rfl,rfl,ak.of (g7 _ _ (g6 _ _ hd)),rfl,wl,_,_,_,rfl,rfl,ak.of wq,ew,?_⟩⟩;have xA:=g6.trans g7;refine⟨_,rfl,_,rfl,_,rfl,_,rfl,_,rfl,dr,_,_,_,rfl,rfl,ak.of (xA _ _ hd),rfl,_,rfl,nl,sd,ps,d2,wt,rfl,xA _ _ hn,xA _ _ hs,nd,p0,pm,λj hj H8 g8=>⟨by show 3<=sizeLine;omega,λff H9 Ap g9 rF=>?_⟩⟩;obtain⟨ft,tl⟩:=Zbm gd hk;exact q ⟨k,i,(j:Int),tn⟩ ⟨⟨hi,λ_=>⟨⟨by show(0:Int)<=(j:Int);omega,hj⟩,ft,tl⟩⟩,.inr hk,λz=>absurd z nk⟩ ff H9 (xA.free (g8.free Ap)) ((xA.trans g8).trans g9) (by rw[rF,ia nk];rfl)
end
def jA(n:Nat):List Nat:=if n<10 then[48+n] else[48+n/10,48+n % 10]
def jB(n:Nat):Str:=.ofString (toString (n:Int))
theorem Fu:∀n<61,(jB n).cps.toList=jA n:=by decide+kernel
def eY(k z:Nat):Nat:=if z/3 % 3=1 then 9 else(k*z+z) % 5
def jC(m:Nat):Str:=Txt.mul "q" (m:Int)
theorem ZcJ:∀m<10,(jC m).cps.toList=List.replicate m 113:=by decide+kernel
def rG:Str:="abcdefghijklmnopqrstuvwxyz"
theorem F6:∀i<26,dI rG.cps.toList ((i:Nat):Int)=some (97+i):=by decide+kernel
def oi(i:Nat):Str:=⟨#[97+i]⟩
def c_(z k:Nat):Str:=if z % 3=0 then(oi ((k*7+z) % 26)++jB (k/26))++jC (eY k z) else if z % 3=1 then(oi (z % 26)++jC (eY k z))++jB ((k*17+z) % 61) else(oi (z % 26)++jB ((k*17+z) % 61))++jC (eY k z)
theorem F7(k z:Nat):eY k z<10:=by
 unfold eY;split<;>omega
theorem sS(a b:Str):(a++b).cps.toList=a.cps.toList++b.cps.toList:=Array.toList_append
theorem Em(z k:Nat)(hk:k<60):(c_ z k).cps.toList=if z % 3=0 then[97+(k*7+z) % 26,48+k/26]++List.replicate (eY k z) 113 else if z % 3=1 then(97+z % 26)::(List.replicate (eY k z) 113++jA ((k*17+z) % 61)) else(97+z % 26)::(jA ((k*17+z) % 61)++List.replicate (eY k z) 113):=by
 have f:=ZcJ _ (F7 k z);unfold c_;split
 ·rw[sS,sS,f,Fu _ (by omega)];unfold jA;rw[if_pos (by omega)];rfl
 split
 ·rw[sS,sS,f,Fu _ (by omega)];rfl
 ·rw[sS,sS,f,Fu _ (by omega)];rfl
def JT(l:List Nat):Nat:=l.foldl (λa c=>10*a+(c-48)) 0
theorem yQ:JT (jA n)=n:=by
 unfold jA;split
 ·show 10*0+(48+n-48)=n;omega
 ·show 10*(10*0+(48+n/10-48))+(48+n % 10-48)=n;omega
theorem QS(h:n<61):∀c∈jA n,48<=c/\c<58:=by
 unfold jA
 grind
theorem xS(h:n<61):(jA n).filter (λc=>decide (c<58))=jA n:=J5.mpr λc hc=>decide_eq_true (QS h c hc).2
theorem xT(m:Nat):(List.replicate m 113).filter (λc=>decide (c<58))=[]:=by
 grind
theorem Zan(hk:k<60)(zZ:k'<60)(e:c_ z k=c_ z k'):k=k':=by
 have e:(c_ z k).cps.toList=(c_ z k').cps.toList:=by rw[e]
 rw[Em z k hk,Em z k' zZ] at e;by_cases h0:z % 3=0
 ·rw[if_pos h0,if_pos h0] at e;injection e with e1 e;injection e with e2 _;omega
 rw[if_neg h0,if_neg h0] at e;have key:(k*17+z) % 61=(k'*17+z) % 61->k=k':=λh=>by omega
 by_cases h1:z % 3=1
 ·rw[if_pos h1,if_pos h1] at e;injection e with _ e;have e2:=congrArg (List.filter λc=>decide (c<58)) e;rw[Wb,Wb,xT,xT,xS (by omega),xS (by omega),Tr,Tr] at e2;have e3:=congrArg JT e2;rw[yQ,yQ] at e3;exact key e3
 ·rw[if_neg h1,if_neg h1] at e;injection e with _ e;have e2:=congrArg (List.filter λc=>decide (c<58)) e;rw[Wb,Wb,xT,xT,xS (by omega),xS (by omega),Wf,Wf] at e2;have e3:=congrArg JT e2;rw[yQ,yQ] at e3;exact key e3
theorem QT:∀i<26,fF mS (97+i)=true/\fF kC (97+i)=true:=by decide+kernel
theorem QU:∀i<10,fF kC (48+i)=true:=by decide+kernel
theorem Zf3:fF kC 113=true:=by decide+kernel
theorem Zs(hk:k<60):qw (c_ z k)=true/\(c_ z k).length<=12:=by
 have fl:=F7 k z;have rep:(List.replicate (eY k z) 113).all (fF kC)=true:=Wn.mpr λc hc=>by rw[List.eq_of_mem_replicate hc];exact Zf3
 have dg:∀n,n<61->(jA n).all (fF kC)=true/\(jA n).length<=2:=λn hn=>by
  refine⟨Wn.mpr λc hc=>?_,?_⟩
  ·have:=QS hn c hc;have e:=QU (c-48) (by omega)
   grind
  ·unfold jA;split<;>simp
 have len:(c_ z k).length=(c_ z k).cps.toList.length:=rfl;have c:=Em z k hk;have main:∃(i:Nat) (r:List Nat),i<26/\(c_ z k).cps.toList=(97+i)::r/\r.length<=11/\r.all (fF kC)=true:=by
  by_cases h0:z % 3=0
  ·rw[if_pos h0] at c;refine⟨_,_,by omega,c,?_,?_⟩
   ·show((48+k/26)::List.replicate (eY k z) 113).length<=11
    grind
   ·show((48+k/26)::List.replicate (eY k z) 113).all (fF kC)=true;rw[Jc,rep,QU _ (by omega)];rfl
  grind
 obtain⟨i,r,hi,e,lr,ar⟩:=main;have z_:(c_ z k).length<=12:=by
  grind
 refine⟨?_,z_⟩;rw[MJ e,decide_eq_true z_,(QT i hi).1,Jc,(QT i hi).2,ar];rfl
theorem ZcK:∀m<10,(jC m).length<=9:=by decide+kernel
theorem Pz:∀n<61,(jB n).length<=2:=by decide+kernel
theorem Fv(a b:Str):(a++b).length=a.length+b.length:=Array.size_append
inductive PB(vs:List V)(H:Hp)(Q:VK):Prop
 |mk (k z:Nat) (aC:vs=[.int (k:Int),.int (z:Int)]) (hk:k<60) (hz:z<97) (q:Q (.str (c_ z k)) H):PB vs H Q
def QV:Sp:=λvs H Q _=>PB vs H Q
section
theorem uT:aQ ["_law_k","_law_salt","_law_letters","_law_fill","_law_number"] ["_law_k","_law_salt"] (aL DI):=⟨rfl,rfl,rfl,by decide+kernel,rfl,by decide+kernel,by decide+kernel⟩
theorem X5(F:aM K "_law_name" "_law_name" DI f fd)(bl:Bl mg):aG P w K mg base aN 1 f fd ["_law_k","_law_salt"] QV:=by
 refine F.ok uT (λvs H Q E h=>?_) (λaE A outer s H vs Q E hr h=>?_)
 ·obtain⟨k,z,rfl,_⟩:=h;rfl
 obtain⟨k,z,rfl,hk,hz,q⟩:=h;refine⟨_,(aj (bg (i:=2) uT.nd rfl (Or.inl rfl) bA) (aj (bg (i:=3) uT.nd rfl (Or.inl rfl) (a_ OI bA (a_ d7 (a_ gQ (a_ lM (pv 0) (pv 1)) (pv 1)) aI))) (aj (bg (i:=4) uT.nd rfl (Or.inl rfl) (a_ d7 (a_ gQ (a_ lM (pv 0) aI) (pv 1)) aI)) (aj (aS (aZ cg (a_ d7 (a_ yg (pv 1) aI) aI) aI (aR _)) (aq (bg (i:=3) uT.nd rfl (Or.inl rfl) (a_ OI bA aI))) aY) (aj (aS (aZ cg (a_ d7 (pv 1) aI) aI (aR _)) (aq (aF (a_ rY (a_ rY (a9 vv (pv 2) (a_ d7 (a_ gQ (a_ lM (pv 0) aI) (pv 1)) aI) (λ_ _=>rfl)) (eG Cn rfl bl.vJ vy (aa (a_ yg (pv 0) aI) ae))) (pv 3)))) aY) (aj (aS (aZ cg (a_ d7 (pv 1) aI) aI (aR _)) (aq (aF (a_ rY (a_ rY (a9 vv (pv 2) (a_ d7 (pv 1) aI) (λ_ _=>rfl)) (pv 3)) (eG Cn rfl bl.vJ vy (aa (pv 4) ae))))) aY) (aq (aF (a_ rY (a_ rY (a9 vv (pv 2) (a_ d7 (pv 1) aI) (λ_ _=>rfl)) (eG Cn rfl bl.vJ vy (aa (pv 4) ae))) (pv 3)))))))))),?_⟩;have cm:tH (k:Int) (z:Int):=.inl ⟨by omega,by omega⟩;have UY:∀j:Int,tH (k:Int) j:=λj=>.inl ⟨by omega,by omega⟩;have c3:GN (z:Int) 3:=⟨by omega,by omega⟩;have c26:GN (k:Int) 26:=⟨by omega,by omega⟩;have sz:(10000:Nat)<=sizeLine:=by rw[sizeLine_eq];omega
 have UZ:((k:Int)*17+(z:Int)) % 61=(((k*17+z) % 61:Nat):Int):=by omega
 have m26:((k:Int)*7+(z:Int)) % 26=(((k*7+z) % 26:Nat):Int):=by omega
 have U0:(z:Int) % 26=((z % 26:Nat):Int):=by omega
 have d26:(k:Int)/26=((k/26:Nat):Int):=by omega
 have e5:((k:Int)*(z:Int)+(z:Int)) % 5=(((k*z+z) % 5:Nat):Int):=by rw[Int.natCast_emod,Int.natCast_add,Int.natCast_mul];rfl
 refine setC ?_;refine cy ?_;refine⟨_,rfl,_,rfl,_,_,rfl,rfl,cm,_,rfl,_,_,rfl,rfl,_,_,rfl,rfl,by omega,"q",(k*z+z) % 5,rfl,congrArg V.int e5,by decide+kernel,by omega,?_⟩;refine cy ?_;refine⟨_,rfl,_,_,rfl,rfl,UY _,_,rfl,_,_,rfl,rfl,_,_,rfl,rfl,by omega,?_⟩;refine mZ (λσ H6=>H6=H/\σ=[some (.int (k:Int)),some (.int (z:Int)),some (.str rG),some (.str (jC (eY k z))),some (.int (((k*17+z) % 61:Nat):Int))]) (λoa fk=>?_) ?_
 ·refine⟨_,rfl,_,_,rfl,rfl,c3,_,_,rfl,rfl,by omega,rfl,_,rfl,bC (λc=>?_) (λc=>aX ?_)⟩
  ·have c:=V.int.inj (of_decide_eq_true c);have c1:z/3 % 3=1:=by omega
   have fe:eY k z=9:=if_pos c1;refine⟨"q",9,rfl,rfl,by decide+kernel,by omega,bu (fk _ _ ⟨rfl,?_⟩)⟩;rw[fe,←UZ];rfl
  ·have c1:¬z/3 % 3=1:=λw=>c (decide_eq_true (congrArg V.int (by omega)));have fe:eY k z=(k*z+z) % 5:=if_neg c1;refine fk _ _ ⟨rfl,?_⟩;rw[fe,←UZ];rfl
 rintro σ H6 ⟨rfl,rfl⟩;have ls:=ZcK _ (F7 k z);have ll:rG.length<=sizeLine:=Y4 (show rG.length<=100 by decide+kernel) (by omega);have lg:∀n:Nat,n<61->(n:Int).natAbs.log2<1920:=λn hn=>W5 (Nat.log2_le_self _) (by omega);refine⟨_,rfl,_,_,rfl,rfl,by omega,rfl,_,rfl,bC (λc=>?_) (λc=>aX ?_)⟩
 ·have h0:z % 3=0:=by have:=V.int.inj (of_decide_eq_true c);omega
  have ld:=Pz (k/26) (by omega);refine⟨_,rfl,_,rfl,_,_,rfl,rfl,UY _,_,rfl,_,_,rfl,rfl,_,_,rfl,rfl,by omega,rG,_,_,rfl,congrArg V.int m26,ll,F6 _ (by omega),_,rfl,_,_,rfl,rfl,c26,((k/26:Nat):Int),congrArg (λi=>[V.int i]) d26,lg _ (by omega),_,_,rfl,rfl,?_,_,rfl,_,_,rfl,rfl,?_,?_⟩
  ·show 1+(jB (k/26)).length<=sizeLine;omega
  ·show(oi ((k*7+z) % 26)++jB (k/26)).length+(jC (eY k z)).length<=sizeLine;rw[Fv];show 1+_+_<=_;omega
  ·have e:c_ z k=(oi ((k*7+z) % 26)++jB (k/26))++jC (eY k z):=if_pos h0;rw[e] at q;exact q
 have h0:¬z % 3=0:=λw=>c (decide_eq_true (congrArg V.int (by omega)));have ld:=Pz ((k*17+z) % 61) (by omega);refine⟨_,rfl,_,_,rfl,rfl,by omega,rfl,_,rfl,bC (λc=>?_) (λc=>aX ?_)⟩
 ·have h1:z % 3=1:=by have:=V.int.inj (of_decide_eq_true c);omega
  refine⟨_,rfl,_,rfl,_,_,rfl,rfl,by omega,rG,_,_,rfl,congrArg V.int U0,ll,F6 _ (by omega),_,rfl,_,_,rfl,rfl,?_,_,rfl,_,rfl,lg _ (by omega),_,_,rfl,rfl,?_,?_⟩
  ·show 1+(jC (eY k z)).length<=sizeLine;omega
  ·show(oi (z % 26)++jC (eY k z)).length+(jB ((k*17+z) % 61)).length<=sizeLine;rw[Fv];show 1+_+_<=_;omega
  ·have e:c_ z k=(oi (z % 26)++jC (eY k z))++jB ((k*17+z) % 61):=(if_neg h0).trans (if_pos h1);rw[e] at q;exact q
 have h1:¬z % 3=1:=λw=>c (decide_eq_true (congrArg V.int (by omega)));refine⟨_,rfl,_,rfl,_,_,rfl,rfl,by omega,rG,_,_,rfl,congrArg V.int U0,ll,F6 _ (by omega),_,rfl,_,rfl,lg _ (by omega),_,_,rfl,rfl,?_,_,rfl,_,_,rfl,rfl,?_,?_⟩
 ·show 1+(jB ((k*17+z) % 61)).length<=sizeLine;omega
 ·show(oi (z % 26)++jB ((k*17+z) % 61)).length+(jC (eY k z)).length<=sizeLine;rw[Fv];show 1+_+_<=_;omega
 ·have e:c_ z k=(oi (z % 26)++jB ((k*17+z) % 61))++jC (eY k z):=(if_neg h0).trans (if_neg h1);rw[e] at q;exact q
end
inductive QW(C CL CJ:Addr)(vs:List V)(H:Hp)(Q:VK):Prop
 |mk (l:BL) (b:BS) (xs ys:List Int) (c:Fc) (ff:Addr) (aC:vs=[.ref l.h,.ref ff]) (ba:bw H C CL CJ l xs ys b) (ok:cD xs ys b) (hf:H ff=some (.tup [.str c.k,.str (au b.ps c.one),kV (bh b.ps c)])) (fg:dM xs ys b.ps.length c) (lim:b.fs.length<63) (hw:lS xs.length b c="") (dl:b.dn.length<200) (q:∀(l':BL) (H':Hp),bX H H' l l'->bw H' C CL CJ l' xs ys (b.vO c)->Q (.int (b.co:Int)) H'):QW C CL CJ vs H Q
def RI(C CL CJ:Addr):Sp:=λvs H Q _=>QW C CL CJ vs H Q
structure eC(C CL CJ:Addr)(H:Hp)(xs ys:List Int)(z j:Nat)(td:Addr)(l:BL)(b:BS)(nl sd fl st:Addr):Prop where
 ba:bw H C CL CJ l xs ys b
 ok:cD xs ys b
 names:H nl=some (.lst (iG b.ps))
 n1:nl∉l.fp
 cS:H sd=some (.dK (fO b.ps))
 n2:sd∉l.fp
 facts:∃as:List Addr,H fl=some (.lst (as.map V.ref))/\Paired (d9 H b.ps) as b.fs
 n3:fl∉l.fp
 tup:H st=some (.tup [.ref nl,.ref sd,.ref fl,.int (b.co:Int)])
 turns:eW H td xs ys
 n4:td∉l.fp
 nm:b.ps.map (·.1)=(List.range b.ps.length).map (c_ z)
 so:(b.fs.map (·.1)).Pairwise (·<·)
 cp:b.ps.length<=j
 cf:b.fs.length<=j
 cd:b.dn.length<=j
section
variable {H H':Hp}{xs ys:List Int}{z j:Nat}{td:Addr}{l l':BL}{b b':BS}{nl sd fl st:Addr}
theorem eC.same(g:ai H H')(s:eC C CL CJ H xs ys z j td l b nl sd fl st):eC C CL CJ H' xs ys z j td l b nl sd fl st:=
 ⟨s.ba.same g,s.ok,g _ _ s.names,s.n1,g _ _ s.cS,s.n2,let⟨as,h1,h2⟩:=s.facts;⟨as,g _ _ h1,L2.Paired.bI h2 λ_ _ e=>g _ _ e⟩,s.n3,g _ _ s.tup,s.turns.same g,s.n4,s.nm,s.so,s.cp,s.cf,s.cd⟩
theorem eC.more(s:eC C CL CJ H xs ys z j td l b nl sd fl st):eC C CL CJ H xs ys z (j+1) td l b nl sd fl st:=
 ⟨s.ba,s.ok,s.names,s.n1,s.cS,s.n2,s.facts,s.n3,s.tup,s.turns,s.n4,s.nm,s.so,Wx s.cp,Wx s.cf,Wx s.cd⟩
theorem eC.FL(s:eC C CL CJ H xs ys z j td l b nl sd fl st):FL H b.ps fl b.F:=by
 obtain⟨as,h1,h2⟩:=s.facts;refine⟨as,h1,?_⟩;have:∀{as:List Addr} {fs:List (Nat×Fc)},Paired (d9 H b.ps) as fs->Paired (JD H b.ps) as (fs.map (·.2)):=λh=>by
  induction h with
  |nil=>exact .nil
  |cons e _ ih=>exact .cons ⟨_,e⟩ ih
 exact this h2
theorem bX.off(w:bX H H' l l')(h:H a=some o)(n:a∉l.fp):H' a=some o/\a∉l'.fp:=
 ⟨w.out _ _ h n,λz=>(w.grow a z).elim n λq=>by rw[h] at q;cases q⟩
theorem bX.bR(w:bX H H' l l')(ba:bw H C CL CJ l xs ys b)(h:H a=some (.tup us)):H' a=some (.tup us):=w.out _ _ h (ba.tup h)
theorem bX.eW(w:bX H H' l l')(ba:bw H C CL CJ l xs ys b)(h:eW H td xs ys)(n:td∉l.fp):eW H' td xs ys:=by
 obtain⟨m,f,w1,s,h1,h2,h3,h4,h5⟩:=h;exact⟨m,f,w1,s,w.out _ _ h1 n,w.bR ba h2,w.bR ba h3,w.bR ba h4,w.bR ba h5⟩
theorem xZ(w:bX H H' l l')(ba:bw H C CL CJ l xs ys b)(h:Paired (d9 H ps) as fs):Paired (d9 H' ps) as fs:=L2.Paired.bI h λ_ _ e=>w.bR ba e
theorem bw.fresh(ba:bw H C CL CJ l xs ys b)(h:H a=none):a∉l.fp:=λz=>ba.there z h
theorem d9.ext(fg:dM xs ys ps.length p.2)(h:d9 H ps a p):d9 H (ps++[(n,s)]) a p:=by
 have e1:∀i,i<ps.length->au (ps++[(n,s)]) i=au ps i:=λi hi=>by
  unfold au
  grind
 unfold d9 dQ at h⊢;have e2:bh (ps++[(n,s)]) p.2=bh ps p.2:=by
  by_cases k:p.2.k=bF;·rw[lE k,lE k]
  ·rw[ia k,ia k,e1 _ (fg.ok.gf k).1.2]
 rw[e1 _ fg.ok.one,e2];exact h
theorem eC.fresh(s:eC C CL CJ H xs ys z j td l b nl sd fl st)(h60:j<60)(kg:Str)(hs:F2 kg=true):G6 b (c_ z b.ps.length) kg:=by
 have c:=s.cp;obtain⟨f1,f2⟩:=Zs (k:=b.ps.length) (by omega);refine⟨f1,hs,λm=>?_,by omega,by omega⟩;rw[s.nm] at m;obtain⟨i,hi,e⟩:=Yf.mp m;have hi:=Wh.mp hi;have:=Zan (by omega) (by omega) e;omega
theorem nm_more(h:b.ps.map (·.1)=(List.range b.ps.length).map (c_ z))(s:Str):(b.ps++[(c_ z b.ps.length,s)]).map (·.1)=(List.range (b.ps++[(c_ z b.ps.length,s)]).length).map (c_ z):=by
 rw[Ym,h,Yl];show _++[c_ z b.ps.length]=(List.range (b.ps.length+1)).map (c_ z);rw[J4,Ym];rfl
end
inductive N_(C CL CJ:Addr)(vs:List V)(H:Hp)(Q:VK):Prop
 |mk (xs ys:List Int) (z j:Nat) (cell:Int) (td:Addr) (l:BL) (b:BS) (nl sd fl st:Addr) (aC:vs=[.ref l.h,.ref st,.int cell,.ref td,.int (z:Int)]) (si:eC C CL CJ H xs ys z j td l b nl sd fl st) (hz:z<97) (hj:j<60) (q:∀(l':BL) (b':BS) (oj kg lu aK:Addr) (H':Hp),bX H H' l l'->eC C CL CJ H' xs ys z (j+1) td l' b' oj kg lu aK->0<b'.ps.length->Q (.ref aK) H'):N_ C CL CJ vs H Q
def PD(C CL CJ:Addr):Sp:=λvs H Q _=>N_ C CL CJ vs H Q
theorem X6{P Q:α->β->Prop}(h:∀a b,b∈bs->P a b->Q a b)(p:Paired P as bs):Paired Q as bs:=by
 induction p with
 |nil=>exact .nil
 |cons e _ ih=>exact .cons (h _ _ Yk e) (ih λa b hb=>h a b (Yx _ hb))
theorem Zt(fs:List α)(p:α->Bool):((List.range fs.length).filter λi=>(fs[i]?.map p).getD false).map (λi=>fs[i]?)=(fs.filter p).map some:=by
 have e:(List.range fs.length).map (λi=>fs[i]?)=fs.map some:=Wv λi=>by
  grind
 have h:=Jq (f:=λi=>fs[i]?) (l:=List.range fs.length) (p:=λo:Option α=>(o.map p).getD false);rw[e,Jq] at h;exact h.symm
theorem PF:∀{l:List (Nat×α)},(l.map (·.1)).Nodup->∀{p q:Nat×α},p∈l->q∈l->p.1=q.1->p=q
 |[],_,_,_,h,_,_=>nomatch h
 |a::l,nd,p,q,hp,hq,e=>by
  obtain⟨n1,n2⟩:=Y1.mp (show(a.1::l.map (·.1)).Nodup from nd);rcases Yp.mp hp with e1|h1<;>rcases Yp.mp hq with e2|h2;·rw[e1,e2]
  ·grind
  ·grind
  ·exact PF n2 h1 h2 e
theorem QX(ks:List Key):(ks.map kV).all l6=true:=by
 rw[Wn];intro v hv;obtain⟨k,_,rfl⟩:=Yf.mp hv;cases k<;>rfl
theorem ZcL:∃s:Str,dI [V.str "man",V.str "woman"] (d % 2)=some (.str s)/\F2 s=true:=by
 have:d % 2=0\/d % 2=1:=by omega
 rcases this with e|e<;>rw[e];·exact⟨_,rfl,by decide+kernel⟩
 ·exact⟨_,rfl,by decide+kernel⟩
section
theorem Zu:aQ ["_law_book","_law_fact_here"] ["_law_book","_law_fact_here"] (aL Ef):=⟨rfl,rfl,rfl,by decide+kernel,rfl,by decide+kernel,by decide+kernel⟩
theorem Zv(F:aM K "_law_put" "_law_put" Ef f fd)(CC:cA P w K mg base 12 "say" C ["self","name","section"] (QM C CL CJ))(CD:cA P w K mg base 12 "tie" C ["self","kind","one","other"] (QL C CL CJ)):aG P w K mg base aN 13 f fd ["_law_book","_law_fact_here"] (RI C CL CJ):=by
 refine F.ok Zu (λvs H Q E h=>?_) (λaE A outer s H vs Q E hr h=>?_)
 ·obtain⟨l,b,xs,ys,c,ff,rfl,_⟩:=h;rfl
 obtain⟨l,b,xs,ys,c,ff,rfl,ba,ok,hf,fg,lim,hw,dl,q⟩:=h;refine⟨_,(aj (aS (aZ cg (a9 (eI (K:=K) rfl) (pv 1) aI (λ_ _=>rfl)) bA (aR _)) (aq (aF (cJ CC hr (by omega) (pv 0) (aa (a9 (eI (K:=K) rfl) (pv 1) aI (λ_ _=>rfl)) (aa (a9 (eI (K:=K) rfl) (pv 1) aI (λ_ _=>rfl)) ae))))) aY) (aq (aF (cJ CD hr (by omega) (pv 0) (aa (a9 (eI (K:=K) rfl) (pv 1) aI (λ_ _=>rfl)) (aa (a9 (eI (K:=K) rfl) (pv 1) aI (λ_ _=>rfl)) (aa (a9 (eI (K:=K) rfl) (pv 1) aI (λ_ _=>rfl)) ae))))))),?_⟩;obtain⟨dx,ho⟩:=ba.obj;refine⟨_,rfl,ff,_,_,_,rfl,rfl,ay.of hf,rfl,rfl,_,rfl,?_⟩;rw[dO];refine bC (λcc=>?_) (λcc=>aX ?_)
 ·have sk:c.k=bF:=of_decide_eq_true cc;have eo:kV (bh b.ps c)=.int c.aJ:=by rw[lE sk];rfl
  exact⟨_,rfl,l.h,dx,_,rfl,ho,rfl,_,rfl,ff,_,_,_,rfl,rfl,ay.of hf,rfl,_,rfl,ff,_,_,_,rfl,rfl,ay.of hf,rfl,l,b,xs,ys,c,by rw[eo];rfl,ba,ok,⟨EV ok fg lim hw,sk⟩,dl,λl' H' wt JU=>q l' H' wt JU⟩
 ·have ns:c.k≠bF:=λz=>cc (decide_eq_true z);have eo:kV (bh b.ps c)=.str (au b.ps c.aJ.toNat):=by rw[ia ns];rfl
  exact⟨_,rfl,l.h,dx,_,rfl,ho,rfl,_,rfl,ff,_,_,_,rfl,rfl,ay.of hf,rfl,_,rfl,ff,_,_,_,rfl,rfl,ay.of hf,rfl,_,rfl,ff,_,_,_,rfl,rfl,ay.of hf,rfl,l,b,xs,ys,c,by rw[eo];rfl,ba,ok,Zbx ok fg lim hw ns,dl,λl' H' wt JU=>q l' H' wt JU⟩
theorem kq:aQ ["_law_book","_law_state","_law_cell_here","_law_turns_here","_law_salt","_law_names","_law_sides","_law_facts","_law_after_here","_law_drawn","_law_name_here","_law_side","_law_fact_here","_law_out"] ["_law_book","_law_state","_law_cell_here","_law_turns_here","_law_salt"] (aL DN):=⟨rfl,rfl,rfl,by decide+kernel,rfl,by decide+kernel,by decide+kernel⟩
theorem X7(F:aM K "_law_step" "_law_step" DN f fd)(mJ:HasFn P w K mg base 1 "_law_draws" ["_law_cell_here","_law_parts"] (yk K))(DV:HasFn P w K mg base 1 "_law_name" ["_law_k","_law_salt"] QV)(DW:HasFn P w K mg base 2 "_law_fact" ["_law_names","_law_sides","_law_drawn","_law_size"] QR)(DX:HasFn P w K mg base 4 "_law_word" ["_law_sides","_law_facts","_law_turns_here","_law_fact_here"] QP)(En:HasFn P w K mg base 13 "_law_put" ["_law_book","_law_fact_here"] (RI C CL CJ))(Bk:cA P w K mg base 11 "person" C ["self","name","side"] (NV C CL CJ))(Ca:cA P w K mg base 11 "take" C ["self","number"] (QI C CL CJ))(bl:Bl mg):aG P w K mg base aN 14 f fd ["_law_book","_law_state","_law_cell_here","_law_turns_here","_law_salt"] (PD C CL CJ):=by
 refine F.ok kq (λvs H Q E h=>?_) (λaE A outer s H vs Q E hr h=>?_)
 ·obtain⟨xs,ys,z,j,cell,td,l,b,nl,sd,fl,st,rfl,_⟩:=h;rfl
 obtain⟨xs,ys,z,j,cell,td,l,b,nl,sd,fl,st,rfl,si,hz,hj,q⟩:=h;have hu:=hr.qh;refine⟨_,(aj (mY (pv 1) (ic (K:=K) (n:=4) rfl rfl (bW (bj (i:=5) kq.nd rfl (Or.inl rfl)) (bW (bj (i:=6) kq.nd rfl (Or.inl rfl)) (bW (bj (i:=7) kq.nd rfl (Or.inl rfl)) (bW (bj (i:=8) kq.nd rfl (Or.inl rfl)) ib)))))) (aj (bg (i:=9) kq.nd rfl (Or.inl rfl) (aT mJ hr (by omega) rfl (aa (pv 2) (aa (df (aa aI (aa aI (aa aI (aa aI (aa aI ae)))))) ae)))) (aj (aS (PW.pt (pw_or (aZ lQ (bJ (c5 (K:=K) rfl) rfl bl.cQ cP (aa (pv 5) ae)) aI (aR _)) (pw_or1 (aZ lQ (a9 (cB (K:=K) rfl) (pv 9) aI (λ_ _=>rfl)) aI (aR _))))) (aj (bg (i:=10) kq.nd rfl (Or.inl rfl) (aT DV hr (by omega) rfl (aa (bJ (c5 (K:=K) rfl) rfl bl.cQ cP (aa (pv 5) ae)) (aa (pv 4) ae)))) (aj (bg (i:=11) kq.nd rfl (Or.inl rfl) (a9 (cB (K:=K) rfl) (df (aa bA (aa bA ae))) (a_ d7 (a9 (cB (K:=K) rfl) (pv 9) aI (λ_ _=>rfl)) aI) (λ_ _=>rfl))) (aj (cz (cJ Bk hr (by omega) (pv 0) (aa (pv 10) (aa (pv 11) ae)))) (aj (bg (i:=6) kq.nd rfl (Or.inl rfl) (eG XO rfl bl.Zde Zca (aa (pv 6) ae))) (aj (lG (bB hr) (pv 6) (pv 10) (pv 11)) (aq (aF (dv (aa (a_ yp (pv 5) (df (aa (pv 10) ae))) (aa (pv 6) (aa (pv 7) (aa (pv 8) ae)))))))))))) aY) (aj (aS (aZ lQ (a9 (cB (K:=K) rfl) (pv 9) aI (λ_ _=>rfl)) aI (aR _)) (aj (bg (i:=12) kq.nd rfl (Or.inl rfl) (aT DW hr (by omega) rfl (aa (pv 5) (aa (pv 6) (aa (pv 9) (aa (bJ (c5 (K:=K) rfl) rfl bl.cQ cP (aa (c9 (bB hr) (pv 3) bA (λ_ _=>rfl)) ae)) ae)))))) (aj (aS (aZ kH (aT DX hr (by omega) rfl (aa (pv 6) (aa (pv 7) (aa (pv 3) (aa (pv 12) ae))))) bA (aR _)) (aq (aF (pv 1))) aY) (aj (cz (aT En hr (by omega) rfl (aa (pv 0) (aa (pv 12) ae)))) (aq (aF (dv (aa (pv 5) (aa (pv 6) (aa (a_ yp (pv 7) (df (aa (a_ ZbQ (dv (aa (pv 8) ae)) (pv 12)) ae))) (aa (a_ gQ (pv 8) aI) ae)))))))))) aY) (aj (aS (aZ (Fg (K:=K) rfl (Qi hu)) (pv 7) (df ae) (aR _)) (aq (aF (pv 1))) aY) (aj (bg (i:=13) kq.nd rfl (Or.inr rfl) (a9 (cB (K:=K) rfl) (pv 7) (a_ d7 (a9 (cB (K:=K) rfl) (pv 9) aI (λ_ _=>rfl)) (bJ (c5 (K:=K) rfl) rfl bl.cQ cP (aa (pv 7) ae))) (λ_ _=>rfl))) (aj (cz (cJ Ca hr (by omega) (pv 0) (aa (a9 (eI (K:=K) rfl) (pv 13) aI (λ_ _=>rfl)) ae))) (aq (aF (dv (aa (pv 5) (aa (pv 6) (aa (iH (x:="_law_one") (fr:=[("_law_out",13)]) (cl:=[("_law_out",s.heap.objs.size+1)]) rfl ⟨by with_unfolding_all rfl,⟨rfl,trivial⟩,rfl,by decide+kernel,rfl,by decide+kernel,rfl,⟨⟨rfl,.inl rfl,.inl rfl,rfl⟩,trivial⟩,by decide+kernel⟩ (fR (K:=K) rfl (pv 7)) (λ_ _ _ _=>va (aZ (ZdS (K:=K) rfl hu) (pv 0) (pv 1) (aR _))) (λ_ _ _ _=>(pv 0))) (aa (pv 8) ae)))))))))))))),?_⟩;have sz:(10000:Nat)<=sizeLine:=by rw[sizeLine_eq];omega
 refine⟨_,rfl,st,_,rfl,ay.of si.tup,rfl,_,_,rfl,bu ⟨_,_,rfl,bu ⟨_,_,rfl,bu ⟨_,_,rfl,bu ⟨rfl,?_⟩⟩⟩⟩⟩;dsimp only;refine cy ?_;refine⟨_,rfl,by show 5<=sizeLine;omega,λpp H1 np g1 hp=>⟨cell,pp,[16,61,59,8,4],rfl,ak.of hp,by decide,by decide,λdr ds H2 nd g2 h2 bd=>?_⟩⟩;obtain⟨d0,d1,d2,d3,d4,rfl,_,_,_,_,b4⟩:=Zcg bd;have ke:=g1.trans g2;have s2:=si.same ke;obtain⟨dx,ho⟩:=s2.ba.obj;have Ao:=vg b.ps;have cp:=si.cp;have cf:=si.cf;have cd:=si.cd;have m64:=si.ok.m;have f63:=si.ok.fl;have ix:∀{i:Int} {v:Int} {H9:Hp},ai H2 H9->dI ([d0,d1,d2,d3,d4].map V.int) i=some (.int v)->∀σ:St,σ[9]?=some (some (.ref dr))->Vt (jW (vU K) (gv 9) (tC (V.int i))) σ H9 (.int v):=λg e σ hσ kk hk=>⟨_,hσ,dr,_,_,_,rfl,rfl,ak.of (g _ _ h2),e,hk _ (ai.refl _)⟩;refine(Bt.or (a:=decide (((iG b.ps).length:Int)<2)) (b:=decide (d0<5)) (λkk hk=>⟨_,rfl,nl,_,rfl,.inl (ak.of s2.names),_,_,rfl,rfl,_,rfl,hk _ (ai.refl _)⟩) λH3 _ g3 kk hk=>ix g3 rfl _ rfl _ λH4 g4=>⟨_,_,rfl,rfl,_,rfl,hk _ g4⟩) _ λH3 g3=>?_;have s3:=s2.same g3;have iQ:=ke.trans g3;rw[Ao];refine bC (λcc=>?_) (λcc=>aX ?_)
 ·refine cy ?_;refine⟨_,rfl,nl,_,rfl,.inl (ak.of s3.names),_,rfl,b.ps.length,z,by rw[Ao];rfl,by omega,hz,?_⟩;refine cy ?_;obtain⟨sx,es,so⟩:=ZcL (d:=d1);refine⟨by show 2<=sizeLine;omega,λsl H4 IL g4 hsl=>ix (g3.trans g4) rfl _ rfl _ λH5 g5=>⟨_,_,rfl,rfl,by omega,sl,_,_,_,rfl,rfl,ak.of (g5 _ _ hsl),es,?_⟩⟩;have s5:=(s3.same g4).same g5;have Aq:=(iQ.trans g4).trans g5;obtain⟨JV,JW⟩:=s5.ba.obj;refine⟨_,rfl,l.h,JV,_,rfl,JW,rfl,_,rfl,_,rfl,l,b,xs,ys,c_ z b.ps.length,sx,rfl,s5.ba,s5.ok,s5.fresh hj sx so,by omega,λl' H6 wt oo=>?_⟩;have JX:=s5.fresh hj sx so;dsimp only;refine cy ?_;have off:=λ{a:Addr} {o:HO} (h:H5 a=some o) (n:a∉l.fp)=>wt.off h n;obtain⟨xB,y_⟩:=off s5.cS s5.n2;obtain⟨xC,za⟩:=off s5.names s5.n1;obtain⟨as,uC,dP⟩:=s5.facts;obtain⟨uD,G_⟩:=off uC s5.n3;refine⟨_,rfl,sd,_,rfl,xB,λs' H7 c7 g7 nS=>?_⟩;have vn:aO (fO b.ps) (.inr (c_ z b.ps.length))=none:=pT λhm=>JX.new (by
   obtain⟨p,hp,e⟩:=Yf.mp hm;obtain⟨p',hp',rfl⟩:=Yf.mp hp;exact Yf.mpr ⟨p',hp',We e⟩)
  refine⟨_,rfl,_,rfl,_,rfl,s',_,.inr (c_ z b.ps.length),rfl,nS,rfl,by rw[Ya];omega,λH8 b8 e8=>?_⟩;have jD:ai H6 H8:=λc o e=>b8 _ _ (g7 _ _ e) (ck e c7);rw[jI _ vn] at e8;refine⟨_,rfl,_,rfl,by show 1<=sizeLine;omega,λt H9 nt g9 ht=>⟨nl,t,_,_,rfl,rfl,g9 _ _ (jD _ _ xC),ht,by rw[Ao];show _+1<=_;omega,λn' HA nn' gA tS=>⟨_,rfl,_,rfl,_,rfl,by show 4<=sizeLine;omega,λaK HB zM gB gF=>?_⟩⟩⟩;have xD:=(g9.trans gA).trans gB;have kh:=jD.trans xD;have pe:(b.Gr (c_ z b.ps.length) sx).ps=b.ps++[(c_ z b.ps.length,sx)]:=rfl;obtain⟨tm,tf,tw,ts,dD,_⟩:=id s5.turns;refine q l' (b.Gr (c_ z b.ps.length) sx) n' s' fl aK HB ((bX.after Aq wt).same kh) ⟨oo.same kh,si.ok.ZfJ JX.new JX.lim (Yd _) (by rw[Yl];show _+1<=200;omega) (Yw _),?_,((oo.same jD).same g9).fresh nn',?_,oo.fresh c7,⟨as,kh _ _ uD,?_⟩,G_,gF,(wt.eW s5.ba s5.turns s5.n4).same kh,(off dD s5.n4).2,nm_more si.nm sx,si.so,?_,Wx cf,?_⟩ (by rw[pe,Yl];exact Nat.succ_pos _)
  ·rw[gB _ _ tS,pe,iG,iG,Ym];rfl
  ·rw[xD _ _ e8,pe];show _=some (HO.dK ((b.ps++[(c_ z b.ps.length,sx)]).map _));rw[Ym];rfl
  ·have:=xZ wt s5.ba dP;refine X6 (λa p hp e=>?_) this;exact d9.ext (si.ok.fg p hp) (kh _ _ e)
  ·rw[pe,Yl];show _+1<=_;omega
  ·show(b.dn++[_]).length<=_;rw[Yl];show _+1<=_;omega
 have p0:0<b.ps.length:=by
  rw[J6,decide_eq_true_iff] at cc;omega
 refine⟨_,rfl,dr,_,_,_,rfl,rfl,ak.of (g3 _ _ h2),rfl,_,_,rfl,rfl,_,rfl,?_⟩;refine bC (λcc2=>?_) (λcc2=>aX ?_)
 ·refine cy ?_;obtain⟨tm,tf,tw,u0,dD,_,_,_,uA⟩:=id s3.turns;refine⟨_,rfl,_,rfl,_,rfl,_,rfl,td,.ref u0,rfl,cY dD rfl,u0,_,rfl,.inr (ay.of uA),nl,sd,dr,b.ps,xs,ys,d0,d1,d2,d3,d4,by rw[Ya,eF];rfl,s3.names,s3.cS,si.ok.nm,p0,by omega,g3 _ _ h2,b4,si.ok.gd,λc fg ff H4 Ap g4 rF=>?_⟩;have s4:=s3.same g4;refine⟨_,rfl,_,rfl,_,rfl,_,rfl,sd,fl,td,ff,xs,ys,b,c,rfl,s4.cS,s4.FL,s4.turns,rF,si.ok,fg,λH5 g5=>⟨rfl,_,rfl,?_⟩⟩;have s5:=s4.same g5;have Aq:=(iQ.trans g4).trans g5;rw[dO];refine bC (λcw=>?_) (λcw=>aX ?_);·exact⟨_,rfl,q l b nl sd fl st H5 (bX.of Aq) s5.more p0⟩
  have hw:lS xs.length b c="":=by
   by_cases e:lS xs.length b c="";·exact e
   ·rw[decide_eq_false e] at cw;exact absurd rfl cw
  have nf:=EV si.ok fg (by omega) hw;refine⟨_,rfl,_,rfl,l,b,xs,ys,c,ff,rfl,s5.ba,si.ok,g5 _ _ rF,fg,by omega,hw,by omega,λl' H6 wt oo=>?_⟩;have off:=λ{a:Addr} {o:HO} (h:H5 a=some o) (n:a∉l.fp)=>wt.off h n;obtain⟨xB,y_⟩:=off s5.cS s5.n2;obtain⟨xC,za⟩:=off s5.names s5.n1;obtain⟨as,uC,dP⟩:=s5.facts;obtain⟨uD,G_⟩:=off uC s5.n3;have ff6:=wt.bR s5.ba (g5 _ _ rF);have al:=cU dP;refine⟨_,rfl,_,rfl,_,rfl,_,rfl,by show 1<=sizeLine;omega,λt1 H7 nt1 g7 JP=>⟨_,rfl,t1,ff,_,_,rfl,rfl,ay.of JP,ay.of (g7 _ _ ff6),by simp,by show 1+3<=sizeLine;omega,λe=>(by cases e),λ_ t2 nt2=>?_⟩⟩;obtain⟨H8,e8⟩:∃H8,H8=upd H7 t2 (.tup ([V.int (b.co:Int)]++[V.str c.k,V.str (au b.ps c.one),kV (bh b.ps c)])):=⟨_,rfl⟩;have g8:ai H7 H8:=by rw[e8];exact cq nt2 _
  have ht2:d9 H8 b.ps t2 (b.co,c):=by
   show H8 t2=_;rw[e8,aU];rfl
  rw[←e8];have jD:=g7.trans g8;refine⟨by show 1<=sizeLine;omega,λl1 H9 nl1 g9 hl1=>⟨fl,l1,_,_,rfl,rfl,g9 _ _ (jD _ _ uD),hl1,by rw[Ya];show _+1<=_;omega,λlu HA Zf4 gA Zf5=>⟨_,rfl,_,_,rfl,rfl,by show 4<=sizeLine;omega,λaK HB zM gB gF=>?_⟩⟩⟩;have xD:=(g9.trans gA).trans gB;have kh:=jD.trans xD;obtain⟨tm,tf,tw,ts,Hd,_⟩:=id s5.turns;have U1:=si.ok.lt;refine q l' (b.vO c) nl sd lu aK HB ((bX.after Aq wt).same kh) ⟨oo.same kh,?_,kh _ _ xC,za,kh _ _ xB,y_,⟨as++[t2],?_,?_⟩,((oo.same jD).same g9).fresh Zf4,gF,(wt.eW s5.ba s5.turns s5.n4).same kh,(off Hd s5.n4).2,si.nm,?_,Wx cp,?_,?_⟩ p0
  ·exact si.ok.ZfK fg (λm=>by
    obtain⟨p,hp,e⟩:=Yf.mp m;have:=U1 p hp;omega) nf.nk nf.np nf.lv (by omega) (co:=b.co+1) (Hn _) (Jd _) (by rw[Yl];show _+1<=200;omega) (Yw _)
  ·rw[gB _ _ Zf5,Ym];rfl
  ·exact iU (F:=d9 HB b.ps) (xD _ _ ht2) (L2.Paired.bI (xZ wt s5.ba dP) λ_ _ e=>kh _ _ e)
  ·show((b.fs++[(b.co,c)]).map (·.1)).Pairwise _;rw[Ym];refine List.pairwise_append.mpr ⟨si.so,by simp,λu hu v hv=>?_⟩;obtain⟨p,hp,rfl⟩:=Yf.mp hu;have:v=b.co:=by simpa using hv
   rw[this];exact U1 p hp
  ·show(b.fs++[_]).length<=_;rw[Yl];show _+1<=_;omega
  ·show(b.dn++[_]).length<=_;rw[Yl];show _+1<=_;omega
 obtain⟨as,uC,dP⟩:=s3.facts;have al:=cU dP;refine⟨_,rfl,by show 0<=sizeLine;omega,λe0 H4 xw g4 wZ=>⟨fl,e0,_,rfl,rfl,ak.of (g4 _ _ uC),ak.of wZ,_,rfl,bC (λce=>?_) (λce=>aX ?_)⟩⟩;·exact⟨_,rfl,q l b nl sd fl st H4 (bX.of (iQ.trans g4)) (s3.same g4).more p0⟩
 refine cy ?_;have s4:=s3.same g4;have f0:0<as.length:=by
  cases e:as with
  |nil=>rw[e] at ce;exact absurd rfl ce
  |cons _ _=>exact Nat.succ_pos _
 have mi:=vF (z:=d1) f0;refine⟨_,rfl,ix (g3.trans g4) rfl _ rfl _ λH5 g5=>?_⟩;have s5:=s4.same g5;have Hf:=g5 _ _ (g4 _ _ uC);obtain⟨i,ei⟩:∃i:Nat,d1 % (as.length:Int)=(i:Int):=⟨(d1 % (as.length:Int)).toNat,by omega⟩;have hi:i<as.length:=by omega
 obtain⟨ao,U2⟩:∃ao,as[i]?=some ao:=⟨_,Yc hi⟩;obtain⟨⟨z0,c0⟩,U3,JB⟩:=fQ dP U2;have SI:=g5 _ _ (g4 _ _ JB);refine⟨_,rfl,fl,_,rfl,.inl (ak.of Hf),_,_,rfl,rfl,by rw[Ya];omega,fl,_,_,.ref ao,rfl,rfl,ak.of Hf,?_,?_⟩
 ·rw[Ya,ei];exact gq (by rw[Yg,U2];rfl)
 obtain⟨JV,JW⟩:=s5.ba.obj;refine⟨_,rfl,l.h,JV,_,rfl,JW,rfl,_,rfl,ao,_,_,_,rfl,rfl,ay.of SI,rfl,l,b,xs,ys,z0,c0,rfl,s5.ba,si.ok,Ye U3,by omega,λl' H6 wt oo=>?_⟩;have off:=λ{a:Addr} {o:HO} (h:H5 a=some o) (n:a∉l.fp)=>wt.off h n;obtain⟨xB,y_⟩:=off s5.cS s5.n2;obtain⟨xC,za⟩:=off s5.names s5.n1;obtain⟨uD,G_⟩:=off Hf s5.n3;have Zf6:Paired (d9 H5 b.ps) as b.fs:=L2.Paired.bI dP λ_ _ e=>g5 _ _ (g4 _ _ e);have SJ:=xZ wt s5.ba Zf6;have al5:=cU dP;have ao6:=wt.bR s5.ba SI;refine⟨_,rfl,_,rfl,_,rfl,fl,rfl,⟨_,ak.of uD⟩,λD hD=>?_⟩;have qe:∀p∈b.fs,p.1=z0->p=(z0,c0):=λp hp e=>PF si.ok.zs hp (Ye U3) e;refine Dz (K:=K) (ak.of uD) (by rw[Ya];omega) hD (λi=>(b.fs[i]?.map λp=>decide (p.1≠z0)).getD false) (λi y _=>∃a,as[i]?=some a/\y=.ref a) (λ_ _ _ _ _ h=>h) (λi v hi H7 g7 _ Kt Kf kt kf=>?_) λus H7 g7 h7 pr=>?_
 ·rw[Yg] at hi;obtain⟨a,ea,rfl⟩:∃a,as[i]?=some a/\V.ref a=v:=by
   cases e:as[i]? with
   |none=>rw[e] at hi;cases hi
   |some c=>rw[e] at hi;exact⟨c,rfl,Ys hi⟩
  obtain⟨p,ep,hp⟩:=fQ SJ ea;have mp:=Ye ep;have pb:(b.fs[i]?.map λp=>decide (p.1≠z0)).getD false=decide (p.1≠z0):=by rw[ep];rfl
  rw[pb] at kt kf;refine⟨_,rfl,_,rfl,a,ao,_,_,rfl,rfl,ay.of (g7 _ _ hp),ay.of (g7 _ _ ao6),QX _,QX _,_,rfl,?_⟩;have ed:(!decide ((dQ b.ps p.1 p.2).map kV=(dQ b.ps z0 c0).map kV))=decide (p.1≠z0):=by
   by_cases e:p.1=z0
   ·rw[qe p mp e];simp
   ·rw[decide_eq_true e,decide_eq_false (λh=>e ?_)];·rfl
    ·injection h with h1 _;have:=V.int.inj h1;omega
  show(if(!decide ((dQ b.ps p.1 p.2).map kV=(dQ b.ps z0 c0).map kV))=true then _ else _);rw[ed];cases e:decide (p.1≠z0) with
  |true=>exact cV ⟨_,rfl,kt _ H7 e (ai.refl _) ⟨a,ea,rfl⟩⟩
  |false=>exact bY (kf H7 e (ai.refl _))
 rw[Ya,al5] at pr;obtain⟨hJ,rfl,Zf7⟩:∃hJ:List Addr,us=hJ.map V.ref/\Paired (d9 H7 b.ps) hJ (cN z0 b.fs):=by
  have aux:∀{ys:List V} {is:List Nat} {gs:List (Nat×Fc)},Paired (λy i=>∃a,as[i]?=some a/\y=.ref a) ys is->is.map (λi=>b.fs[i]?)=gs.map some->∃as:List Addr,ys=as.map V.ref/\Paired (d9 H7 b.ps) as gs:=by
   intro ys is gs pr;induction pr generalizing gs with
   |nil=>
    intro e;cases gs with
    |nil=>exact⟨[],rfl,.nil⟩
    |cons _ _=>cases e
   |cons f _ ih=>
    intro e;cases gs with
    |nil=>cases e
    |cons g gs=>
     obtain⟨a,e1,e2⟩:=f;obtain⟨p,ep,hp⟩:=fQ SJ e1;injection e with e4 e5;obtain⟨as,r1,r2⟩:=ih e5;exact⟨a::as,by rw[e2,r1];rfl,.cons (by rw[←Ys (ep.symm.trans e4)];exact g7 _ _ hp) r2⟩
  exact aux pr (Zt b.fs λp=>decide (p.1≠z0))
 refine⟨_,rfl,by show 4<=sizeLine;omega,λaK H8 zM g8 gF=>?_⟩;have jD:=g7.trans g8;obtain⟨tm,tf,tw,ts,Hd,_⟩:=id s5.turns;have sub:(cN z0 b.fs).Sublist b.fs:=List.filter_sublist;refine q l' (b.without z0 c0) nl sd D aK H8 ((bX.after (((iQ.trans g4).trans g5)) wt).same jD) ⟨oo.same jD,si.ok.drop z0 (Yd _) (by rw[Yl];show _+1<=200;omega) (Yw _),jD _ _ xC,za,jD _ _ xB,y_,⟨hJ,g8 _ _ h7,L2.Paired.bI Zf7 λ_ _ e=>g8 _ _ e⟩,oo.fresh hD,gF,(wt.eW s5.ba s5.turns s5.n4).same jD,(off Hd s5.n4).2,si.nm,si.so.sublist (sub.map _),Wx cp,Wx (Y4 sub.length_le cf),?_⟩ p0;show(b.dn++[_]).length<=_;rw[Yl];show _+1<=_;omega
end
theorem cD.nil(gd:ni xs ys):cD xs ys ⟨[],[],0,[],[]⟩:=
 ⟨gd,W8,Yw _,Yw _,λ_ h=>(nomatch h),W8,λ_ h=>(nomatch h),W8,W8,⟨λ_=>0,λ_ h=>absurd h (Wj _),λ_ h=>(nomatch h)⟩,Yw _,Yw _⟩
theorem eC.SK{C CL CJ:Addr}{H H':Hp}{xs ys:List Int}{z j:Nat}{td:Addr}{l l':BL}{b:BS}{nl sd fl st:Addr}(s:eC C CL CJ H xs ys z j td l b nl sd fl st)(w:bX H H' l l')(ba:bw H' C CL CJ l' xs ys b):eC C CL CJ H' xs ys z j td l' b nl sd fl st:=by
 obtain⟨a1,c1⟩:=w.off s.names s.n1;obtain⟨a2,c2⟩:=w.off s.cS s.n2;obtain⟨as,h1,h2⟩:=s.facts;obtain⟨a3,c3⟩:=w.off h1 s.n3;obtain⟨_,_,_,_,dD,_⟩:=id s.turns;exact⟨ba,s.ok,a1,c1,a2,c2,⟨as,a3,xZ w s.ba h2⟩,c3,w.bR s.ba s.tup,w.eW s.ba s.turns s.n4,(w.off dD s.n4).2,s.nm,s.so,s.cp,s.cf,s.cd⟩
theorem eC.good{C CL CJ:Addr}{H:Hp}{xs ys:List Int}{z j:Nat}{td:Addr}{l:BL}{b:BS}{nl sd fl st:Addr}(s:eC C CL CJ H xs ys z j td l b nl sd fl st):(∀c∈b.F,dM xs ys b.ps.length c)/\b.F.length<=64:=by
 refine⟨λc hc=>?_,?_⟩
 ·obtain⟨p,hp,rfl⟩:=Yf.mp (show c∈b.fs.map (·.2) from hc);exact s.ok.fg p hp
 ·show(b.fs.map (·.2)).length<=64;rw[Ya];exact Wx s.ok.fl
theorem ZcM{ds:List Int}{a:Int}(h:Paired Bd ds [a]):∃v,ds=[v]/\Bd v a:=by
 cases h with
 |cons r t=>cases t;exact⟨_,rfl,r⟩
theorem sZ:At H 3 (.int i) (.int i):=by unfold At;rfl
theorem Zbz(h:xs.length<=63):(nF xs (some 4) none).length<=59:=by
 unfold nF;have e:HT.fZ xs.length 0 (some 4)=min 4 xs.length:=HT.ZbO _ _ 4
 grind
theorem ZcN{ps:bM}{j:Nat}(h:j<ps.length):(iG ps)[j]?=some (.str (au ps j)):=by
 unfold iG au;rw[Yg,Yc h,Yj,Yc h];rfl
theorem eC.up{C CL CJ:Addr}{H:Hp}{xs ys:List Int}{z j k:Nat}{td:Addr}{l:BL}{b:BS}{nl sd fl st:Addr}(s:eC C CL CJ H xs ys z j td l b nl sd fl st)(h:j<=k):eC C CL CJ H xs ys z k td l b nl sd fl st:=
 ⟨s.ba,s.ok,s.names,s.n1,s.cS,s.n2,s.facts,s.n3,s.tup,s.turns,s.n4,s.nm,s.so,Y4 s.cp h,Y4 s.cf h,Y4 s.cd h⟩
theorem Zgh(ok:cD xs ys b)(hi:i<b.ps.length):∃(r:Int) (rs:List Int),dJ b.F xs.length i=r::rs:=by
 obtain⟨f,inr,sat⟩:=ok.lv;have gh:∀c∈b.F,du xs.length b.ps.length c:=λc hc=>by
  obtain⟨p,hp,rfl⟩:=Yf.mp (show c∈b.fs.map (·.2) from hc);exact(ok.fg p hp).ok
 have m:=u4.mpr ⟨inr i hi,Lb gh hi inr sat⟩;cases e:dJ b.F xs.length i with
 |nil=>grind
 |cons r rs=>grind
theorem Zgf(p:Paired R as bs)(h:a∈as):∃b∈bs,R a b:=by
 induction p with
 |nil=>cases h
 |cons e _ ih=>grind
def mulL:List Int->Int
 |[]=>1
 |a::r=>a*mulL r
theorem Eo(a:Int):∀xs:List Int,mulL (xs++[a])=mulL xs*a
 |[]=>by show a*1=1*a;rw[Int.mul_comm]
 |x::xs=>by show x*mulL (xs++[a])=x*mulL xs*a;rw[Eo a xs,Int.mul_assoc]
theorem Zao{xs ys:List Int}(h:xs.Perm ys):mulL xs=mulL ys:=by
 induction h with
 |nil=>rfl
 |cons x _ ih=>show x*mulL _=x*mulL _;rw[ih]
 |swap x y l=>show y*(x*mulL l)=x*(y*mulL l);rw[←Int.mul_assoc,←Int.mul_assoc,Int.mul_comm y x]
 |trans _ _ h1 h2=>exact h1.trans h2
def kF(hs:List Int)(ps:List (Nat×List Int)):List Int:=(ps.filter λp=>!decide ((p.1:Int)∈hs)).map λp=>(p.2.length:Int)
theorem L3{H:Hp}:∀{as:List Addr} {ps:List (Nat×List Int)} {i:Nat} {k:Key} {y:V},Paired (λa (p:Nat×List Int)=>H a=some (.lst (p.2.map V.int))) as ps->(bo (ps.map (·.1)) as)[i]?=some (k,y)->∃q a,ps[i]?=some q/\k=.inl (q.1:Int)/\y=.ref a/\H a=some (.lst (q.2.map V.int))
 |_,_,i,k,y,.nil,h=>by
  have h':([]:List (Key×V))[i]?=some (k,y):=h;simp at h'
 |a::as,p::ps,0,k,y,.cons e t,h=>by
  have h':some (Sum.inl (p.1:Int),V.ref a)=some (k,y):=h;cases h';exact⟨p,a,rfl,rfl,rfl,e⟩
 |a::as,p::ps,i+1,k,y,.cons e t,h=>by
  have h':(bo (ps.map (·.1)) as)[i]?=some (k,y):=h;obtain⟨q,b,h1,h2⟩:=L3 t h';exact⟨q,b,h1,h2⟩
inductive MS(C:Addr)(vs:List V)(H:Hp)(Q:VK):Prop
 |mk (l:JL) (st:JS) (n:Nat) (hl:Addr) (hs:List Int) (e:vs=[.ref l.J,.ref hl]) (ja:cC H C n l st) (hh:H hl=some (.lst (hs.map V.int))) (eP:∀p∈st.fr,p.2.length<=1000) (q:∀H',ai H H'->Q (.int (mulL (kF hs st.fr))) H'):MS C vs H Q
def Oa(C:Addr):Sp:=λvs H Q _=>MS C vs H Q
inductive Ob(C:Addr)(vs:List V)(H:Hp)(Q:VK):Prop
 |mk (l:JL) (st:JS) (n:Nat) (e:vs=[.ref l.J]) (ja:cC H C n l st) (eP:∀p∈st.fr,p.2.length<=1000) (q:∀H',ai H H'->Q (.int (mulL (st.fr.map λp=>(p.2.length:Int)))) H'):Ob C vs H Q
def PH(C:Addr):Sp:=λvs H Q _=>Ob C vs H Q
section
theorem uG:aQ ["self","heads","many","head","sections"] ["self","heads"] (aL Ay):=⟨rfl,rfl,rfl,by decide+kernel,rfl,by decide+kernel,by decide+kernel⟩
theorem VL(F:aM K "dealt_beside" "Joins.dealt_beside" Ay f fd)(jc:kB K C)(bl:Bl mg):aG P w K mg base aN 1 f fd ["self","heads"] (Oa C):=by
 refine F.ok uG (λvs H Q E h=>?_) (λaE A outer s H vs Q E hr h=>?_)
 ·obtain⟨l,st,n,hl,hs,rfl,_⟩:=h;rfl
 obtain⟨l,st,n,hl,hs,rfl,ja,hh,eP,q⟩:=h;refine⟨_,(aj (bg (i:=2) uG.nd rfl (Or.inl rfl) aI) (aj (XN (H0:=H) rfl PassesOwn.never rfl (Za1 (H0:=H) rfl (aW (K:=K) rfl (pv 0) rfl)) (ic (K:=K) (n:=2) rfl rfl (bW (bj (i:=3) uG.nd rfl (Or.inl rfl)) (bW (bj (i:=4) uG.nd rfl (Or.inl rfl)) ib))) (aq (aS (aZ (yC (K:=K) rfl) (pv 3) (pv 1) (by with_unfolding_all rfl)) (aq (FH (i:=2) uG.nd rfl (Or.inl rfl) (bJ (c5 (K:=K) rfl) rfl bl.cQ cP (aa (pv 4) ae)) ZdM)) aY))) (aq (aF (pv 2))))),?_⟩;obtain⟨dx,ho⟩:=ja.obj;refine setC ?_;have pl:=cU ja.free;have dl:(bo (st.fr.map (·.1)) l.bU).length=st.fr.length:=by unfold bo;rw[Ya,W4,Ya];omega
 refine gu (λσ H6=>ai H H6/\∃o3 o4:Option V,σ=[some (.ref l.J),some (.ref hl),some (.int (mulL (kF hs st.fr))),o3,o4]) (λl_ eS=>?_) ?_
 ·refine Z7 (d:=l.fd) (kvs:=bo (st.fr.map (·.1)) l.bU) (λQ' q'=>⟨_,rfl,l.J,C,dx,_,_,rfl,ho,jc.cls,jc.oM,rfl,q'⟩) ja.frees (λj σ=>∃o3 o4:Option V,σ=[some (.ref l.J),some (.ref hl),some (.int (mulL (kF hs (st.fr.take j)))),o3,o4]) ⟨none,none,rfl⟩ ?_ ?_
  ·rintro j k y σ H' a N rt bk hk ⟨o3,o4,rfl⟩ kp ha hN;obtain⟨p,fa,ep,rfl,rfl,cM⟩:=L3 ja.free hk;have jy:st.fr.take (j+1)=st.fr.take j++[p]:=by rw[Yy,ep];rfl
   have Zf8:=kp _ _ cM (dm cM ja.frees (λz=>by cases z));have hh':=kp _ _ hh (dm hh ja.frees (λz=>by cases z));refine⟨a,_,rfl,ay.of ha,rfl,_,_,rfl,bu ⟨_,_,rfl,bu ⟨rfl,?_⟩⟩⟩;refine⟨_,rfl,_,rfl,hl,_,rfl,.inl (ak.of hh'),rfl,yb hs,_,rfl,?_⟩;rw[if_pos rfl,show kV (Sum.inl (p.1:Int))=V.int (p.1:Int) from rfl,vc];refine bC (λc=>?_) (λc=>aX (hN _ ⟨some (.int (p.1:Int)),some (.ref fa),?_⟩))
   ·refine⟨_,rfl,_,rfl,fa,_,rfl,.inl (ak.of Zf8),_,_,rfl,rfl,.inr ?_,hN _ ⟨some (.int (p.1:Int)),some (.ref fa),?_⟩⟩
    ·have:=eP p (Ye ep);rw[Ya];omega
    have e:kF hs (st.fr.take (j+1))=kF hs (st.fr.take j)++[(p.2.length:Int)]:=by
     unfold kF;rw[jy,Wb,Ym]
     congr 1
     rw[Wg,if_pos c];rfl
    rw[e,Eo,Ya];rfl
   ·have e:kF hs (st.fr.take (j+1))=kF hs (st.fr.take j):=by
     unfold kF;rw[jy,Wb,Ym,Wg,if_neg c];simp
    rw[e];rfl
  ·rintro σ H' ⟨o3,o4,rfl⟩ g;rw[dl,Y8];exact eS _ _ ⟨g,o3,o4,rfl⟩
 rintro σ H6 ⟨g,o3,o4,rfl⟩;exact⟨_,rfl,q H6 g⟩
theorem V1:aQ ["self"] ["self"] (aL B5):=⟨rfl,rfl,rfl,by decide+kernel,rfl,by decide+kernel,by decide+kernel⟩
theorem ZbA(F:aM K "dealt" "Joins.dealt" B5 f fd)(Az:cA P w K mg base 1 "dealt_beside" C ["self","heads"] (Oa C))(bl:Bl mg):aG P w K mg base aN 2 f fd ["self"] (PH C):=by
 refine F.ok V1 (λvs H Q E h=>?_) (λaE A outer s H vs Q E hr h=>?_)
 ·obtain⟨l,st,n,rfl,_⟩:=h;rfl
 obtain⟨l,st,n,rfl,ja,eP,q⟩:=h;refine⟨_,(aq (aF (cJ Az hr (by omega) (pv 0) (aa (df ae) ae)))),?_⟩;obtain⟨dx,ho⟩:=ja.obj;refine⟨_,rfl,l.J,dx,_,rfl,ho,rfl,by show 0<=sizeLine;exact Yw _,λhl H1 nhl g1 hh=>?_⟩;refine⟨l,st,n,hl,[],rfl,ja.same g1,hh,eP,λH2 g2=>?_⟩;have e:kF [] st.fr=st.fr.map λp=>(p.2.length:Int):=by
  unfold kF;rw[J5.mpr λp _=>by simp]
 rw[e];exact q H2 (g1.trans g2)
end
open Classical in
noncomputable def qM (st:JS):List Nat:=(List.range st.hd.length).filter λi=>decide (∀j,j<i->st.ag j≠st.ag i)
open Classical in
theorem EW{st:JS}{i:Nat}:i∈qM st↔i<st.hd.length/\∀j,j<i->st.ag j≠st.ag i:=by
 unfold qM;rw[Y3,Wh,decide_eq_true_iff]
theorem ZbB{P:Nat->Prop}:∀{m:Nat},P m->∃i,i<=m/\P i/\∀j,j<i->¬P j:=λ{m} h=>by
 induction m using Nat.strongRecOn with
 |ind m ih=>
  by_cases z:∃j,j<m/\P j
  ·obtain⟨j,jm,pj⟩:=z;obtain⟨i,a,b,c⟩:=ih j jm pj;exact⟨i,by omega,b,c⟩
  ·exact⟨m,Yd _,h,λj hj pj=>z ⟨j,hj,pj⟩⟩
open Classical in
theorem fr_perm{n:Nat}{st:JS}(wf:WF n st):(st.fr.map λp=>(p.2.length:Int)).Perm ((qM st).map λi=>((st.bV (st.ag i)).length:Int)):=by
 have h1:((qM st).map st.ag).Perm (st.fr.map (·.1)):=by
  refine(List.perm_ext_iff_of_nodup ?_ wf.nf).mpr λk=>?_
  ·rw[Wr,Wu];have nd:(qM st).Pairwise (·<·):=List.Pairwise.filter _ List.pairwise_lt_range;refine(Jx.mp nd).imp ?_;rintro a b ⟨_,mb,lt⟩;exact(EW.mp mb).2 a lt
  ·rw[Yf];constructor
   ·rintro⟨i,mi,rfl⟩;exact uX (wf.dq (EW.mp mi).1).1
   ·intro mk;obtain⟨i,hi,e⟩:=wf.hf k mk;obtain⟨r,ri,pr,lst⟩:=ZbB (P:=λj=>st.ag j=k) (m:=i) e;exact⟨r,EW.mpr ⟨by omega,λj hj z=>lst j hj (z.trans pr)⟩,pr⟩
 have h2:=h1.map λk=>((st.bV k).length:Int);rw[Wc,Wc] at h2;have h3:st.fr.map ((λk=>((st.bV k).length:Int))∘(·.1))=st.fr.map λp=>(p.2.length:Int):=Wo λp hp=>by
  show((st.bV p.1).length:Int)=_;have e:st.bV p.1=p.2:=by unfold JS.bV;rw[mem_lookup (v:=p.2) wf.nf hp];rfl
  rw[e]
 rw[h3] at h2;exact h2.symm
open Classical in
theorem WF.ZeP{n:Nat}{st:JS}(wf:WF n st)(n8:n<=8):∀p∈st.fr,p.2.length<=1000:=λp hp=>by
 obtain⟨i,hi,e⟩:=wf.hf p.1 (Yf.mpr ⟨p,hp,rfl⟩);obtain⟨e1,a,b⟩:=wf.dq hi;have e2:st.bV (st.ag i)=p.2:=by unfold JS.bV;rw[e,mem_lookup (v:=p.2) wf.nf hp];rfl
 rw[e2] at a b;have:=uM a b;omega
inductive PJ(vs:List V)(H:Hp)(Q:VK):Prop
 |mk (fa td:Addr) (ps:bM) (xs ys:List Int) (F:List Fc) (x:Nat) (a:Int) (aC:vs=[.ref fa,.ref td,.str (au ps x),.int a]) (aV:FL H ps fa F) (ht:eW H td xs ys) (nd:(ps.map (·.1)).Nodup) (bc:∀c∈F,dM xs ys ps.length c) (bO:xs.length<=8) (cG:ps.length<=100) (dH:F.length<=64) (gc:x<ps.length) (g_:0<=a/\a<(xs.length:Int)) (nT:∃g,fU xs.length F g/\g x=some a) (t4:∀(p:Addr) (g:List (Nat×Int)) (H':Hp),ai H H'->H' p=some (.dK (gN ps g))->BF F xs.length ps.length x a g->fU xs.length F (λk=>g.lookup k)->Q (.ref p) H'):PJ vs H Q
def QY:Sp:=λvs H Q _=>PJ vs H Q
section
theorem X8:aQ ["_law_facts","_law_turns_here","_law_name_here","_law_section"] ["_law_facts","_law_turns_here","_law_name_here","_law_section"] (aL DO):=⟨rfl,rfl,rfl,by decide+kernel,rfl,by decide+kernel,by decide+kernel⟩
theorem ZcO(F:aM K "_law_good" "_law_good" DO f fd)(r8:HasFn P w K mg base 2 "_law_nets" ["_law_facts","_law_turns_here"] F4)(rP:HasFn P w K mg base 1 "_law_carried" ["_law_nets_here","_law_facts","_law_name_here","_law_section"] El):aG P w K mg base aN 3 f fd ["_law_facts","_law_turns_here","_law_name_here","_law_section"] QY:=by
 refine F.ok X8 (λvs H Q E h=>?_) (λaE A outer s H vs Q E hr h=>?_)
 ·obtain⟨fa,td,ps,xs,ys,F,x,a,rfl,_⟩:=h;rfl
 obtain⟨fa,td,ps,xs,ys,F,x,a,rfl,fE,ht,eX,fg,n8,qL,k_,hx,ain,yes,q⟩:=h;refine⟨_,(aq (aF (aT rP hr (by omega) rfl (aa (aT r8 hr (by omega) rfl (aa (pv 0) (aa (pv 1) ae))) (aa (pv 0) (aa (pv 2) (aa (pv 3) ae))))))),?_⟩;refine⟨_,rfl,_,rfl,fa,td,ps,xs,ys,F,rfl,fE,ht,eX,fg,n8,k_,λd kvs L H1 g1 tP ed=>?_⟩;exact⟨_,rfl,_,rfl,_,rfl,H,d,fa,kvs,L,xs.length,ps,F,x,a,rfl,eX,tP,ed,fE.same g1,λc hc=>(fg c hc).ok,n8,qL,k_,hx,ain,λno=>absurd yes no,λp g H2 g2 hp bf cl=>q p g H2 (g1.trans g2) hp bf cl⟩
end
open Classical in
noncomputable def kL (F:List Fc) (j:Nat):List Nat:=(List.range j).filter λi=>decide (∀k,k<i->¬cR F k i)
open Classical in
theorem Zap{F:List Fc}{j:Nat}(h:∀k,k<j->¬cR F k j):kL F (j+1)=kL F j++[j]:=by
 unfold kL;rw[J4,Wb,Wg,if_pos (decide_eq_true h)];rfl
open Classical in
theorem ZbC{F:List Fc}{j:Nat}(h:¬∀k,k<j->¬cR F k j):kL F (j+1)=kL F j:=by
 unfold kL;rw[J4,Wb,Wg,if_neg (by rw[decide_eq_false h];exact Yi)];simp
open Classical in
theorem MT{F:List Fc}{m i:Nat}:i∈kL F m↔i<m/\∀k,k<i->¬cR F k i:=by
 unfold kL;rw[Y3,Wh,decide_eq_true_iff]
theorem MU:∀{xs:List Int},(0:Int)∈xs->mulL xs=0
 |x::xs,h=>by
  show x*mulL xs=0;rcases Yp.mp h with rfl|h;·exact Int.zero_mul _
  ·rw[MU h];exact Int.mul_zero _
noncomputable def gD (F:List Fc) (n j:Nat):Int:=mulL ((kL F j).map λi=>((dJ F n i).length:Int))
open Classical in
theorem Zaq{n:Nat}{st:JS}{F:List Fc}(me:dz n st F){i:Nat}(im:i<st.hd.length):((st.bV (st.ag i)).map λz=>(st.bP i).getD z.toNat 0).Perm (dJ F n i):=by
 refine(List.perm_ext_iff_of_nodup (me.wf.dist im) (NG F n i).2).mpr λa=>?_;rw[me.room im,Yf];constructor
 ·rintro⟨z,mz,rfl⟩;obtain⟨f0,d0⟩:=me.live;obtain⟨f,d,q⟩:=xX me.wf d0 (st.ag i) (st.ag i) z z mz mz (λ_=>rfl);exact⟨f,d,(q i im).1 rfl⟩
 ·rintro⟨f,⟨s,h⟩,rfl⟩;exact⟨s (st.ag i),(h i im).1,(h i im).2.symm⟩
open Classical in
theorem ZbD{n:Nat}{st:JS}{F:List Fc}(me:dz n st F):mulL (st.fr.map λp=>(p.2.length:Int))=gD F n st.hd.length:=by
 rw[Zao (fr_perm me.wf)];unfold gD;have er:qM st=kL F st.hd.length:=by
  unfold qM kL;refine T_ λi hi=>?_;have im:=Wh.mp hi;rw[Wi,decide_eq_true_iff,decide_eq_true_iff];exact⟨λh j hj c=>h j hj ((me.conn j i (by omega) im).mpr c),λh j hj z=>h j hj ((me.conn j i (by omega) im).mp z)⟩
 rw[er]
 congr 1
 refine Wo λi hi=>?_;have l:=(Zaq me (MT.mp hi).1).length_eq;rw[Ya] at l;rw[l]
inductive Lu(C CL CJ:Addr)(vs:List V)(H:Hp)(Q:VK):Prop
 |mk (l:BL) (b:BS) (xs ys:List Int) (aC:vs=[.ref l.h]) (ba:bw H C CL CJ l xs ys b) (ok:cD xs ys b) (q:∀(l':BL) (H':Hp),bX H H' l l'->bw H' C CL CJ l' xs ys b->Q (.int (gD b.F xs.length b.ps.length)) H'):Lu C CL CJ vs H Q
def L4(C CL CJ:Addr):Sp:=λvs H Q _=>Lu C CL CJ vs H Q
section
theorem X9:aQ ["hearth"] ["hearth"] (aL DF):=⟨rfl,rfl,rfl,by decide+kernel,rfl,by decide+kernel,by decide+kernel⟩
theorem X_(F:aM K "dealings" "dealings" DF f fd)(rL:cA P w K mg base 8 "joins" C ["self"] (Fp C CL CJ))(Cb:cA P w K mg base 2 "dealt" CJ ["self"] (PH CJ)):aG P w K mg base aN 9 f fd ["hearth"] (L4 C CL CJ):=by
 refine F.ok X9 (λvs H Q E h=>?_) (λaE A outer s H vs Q E hr h=>?_)
 ·obtain⟨l,b,xs,ys,rfl,_⟩:=h;rfl
 obtain⟨l,b,xs,ys,rfl,ba,ok,q⟩:=h;refine⟨_,(aq (aF (sV Cb hr (by omega) (sV rL hr (by omega) (pv 0))))),?_⟩;obtain⟨dx,ho⟩:=ba.obj;refine⟨_,rfl,l.h,dx,_,rfl,ho,rfl,l,b,xs,ys,rfl,ba,ok,λl' jl st H1 w1 cO e1 e2 ja me len fD=>?_⟩;obtain⟨dy,hj⟩:=ja.obj;refine⟨jl.J,dy,_,rfl,hj,rfl,jl,st,xs.length,rfl,ja,me.wf.ZeP ok.gd.2.2.2.2,λH2 g2=>?_⟩;rw[ZbD me,len];exact q l' H2 (w1.same g2) (cO.same g2)
end
inductive MV(vs:List V)(H:Hp)(Q:VK):Prop
 |mk (fa td nl:Addr) (ps:bM) (xs ys:List Int) (F:List Fc) (e:vs=[.ref fa,.ref td,.ref nl]) (fE:FL H ps fa F) (ht:eW H td xs ys) (nd:(ps.map (·.1)).Nodup) (fg:∀c∈F,dM xs ys ps.length c) (n8:xs.length<=8) (qL:ps.length<=100) (k_:F.length<=64) (hn:H nl=some (.lst (iG ps))) (q:∀H',ai H H'->Q (.int (gD F xs.length ps.length)) H'):MV vs H Q
def Oc:Sp:=λvs H Q _=>MV vs H Q
def Ar(fa td nl sd:Addr)(v:Int)(o5 o6 o7:Option V):St:=[some (.ref fa),some (.ref td),some (.ref nl),some (.int v),some (.ref sd),o5,o6,o7]
inductive Hg(ps:bM)(H:Hp)(F:List Fc)(n:Nat)(fa td nl sd:Addr)(j:Nat)(σ:St)(H6:Hp):Prop
 |mk (kvs:List (Key×V)) (o5 o6 o7:Option V) (g:ai H H6) (hs:H6 sd=some (.dK kvs)) (len:kvs.length<=100*j) (seen:∀x:Nat,x<ps.length->(aO kvs (.inr (au ps x))≠none↔∃r,r<j/\cR F r x)) (e:σ=Ar fa td nl sd (gD F n j) o5 o6 o7):Hg ps H F n fa td nl sd j σ H6
inductive SM(ps:bM)(H9:Hp)(F:List Fc)(n:Nat)(fa td nl sd d:Addr)(j b:Nat)(ks:List Nat)(o5 o6:Option V)(σ:St)(H6:Hp):Prop
 |mk (kvs:List (Key×V)) (o7:Option V) (g:∀c o,H9 c=some o->c≠d->c≠sd->H6 c=some o) (hs:H6 sd=some (.dK kvs)) (len:kvs.length<=b) (seen:∀x:Nat,x<ps.length->(aO kvs (.inr (au ps x))≠none↔(∃r,r<j/\cR F r x)\/x∈ks)) (e:σ=Ar fa td nl sd (gD F n j) o5 o6 o7):SM ps H9 F n fa td nl sd d j b ks o5 o6 σ H6
section
theorem pU:aQ ["_law_facts","_law_turns_here","_law_names","_law_found","_law_seen","_law_name_here","_law_room_here","_law_one"] ["_law_facts","_law_turns_here","_law_names"] (aL C7):=⟨rfl,rfl,rfl,by decide+kernel,rfl,by decide+kernel,by decide+kernel⟩
theorem Zar(F:aM K "_law_dealt" "_law_dealt" C7 f fd)(r9:HasFn P w K mg base 3 "_law_room" ["_law_facts","_law_turns_here","_law_name_here"] F5)(DY:HasFn P w K mg base 3 "_law_good" ["_law_facts","_law_turns_here","_law_name_here","_law_section"] QY)(bl:Bl mg):aG P w K mg base aN 4 f fd ["_law_facts","_law_turns_here","_law_names"] Oc:=by
 refine F.ok pU (λvs H Q E h=>?_) (λaE A outer s H vs Q E hr h=>?_)
 ·obtain⟨fa,td,nl,ps,xs,ys,F,rfl,_⟩:=h;rfl
 obtain⟨fa,td,nl,ps,xs,ys,F,rfl,fE,ht,eX,fg,n8,qL,k_,hn,q⟩:=h;obtain⟨n,en⟩:∃n,n=xs.length:=⟨_,rfl⟩;obtain⟨m,em⟩:∃m,m=ps.length:=⟨_,rfl⟩;have gh:∀c∈F,du n m c:=λc hc=>by rw[en,em];exact(fg c hc).ok
 rw[←en,←em] at q;rw[←em] at qL;rw[←en] at n8;have hu:=hr.qh;refine⟨_,(aj (bg (i:=3) pU.nd rfl (Or.inl rfl) aI) (aj (bg (i:=4) pU.nd rfl (Or.inl rfl) oz) (aj (fT PassesOwn.never rfl (fR (K:=K) rfl (pv 2)) (bj (i:=5) pU.nd rfl (Or.inl rfl)) (aq (aS (i6 (lD (bB hr) (pv 5) (pv 4)) (by with_unfolding_all rfl)) (aj (bg (i:=6) pU.nd rfl (Or.inl rfl) (aT r9 hr (by omega) rfl (aa (pv 0) (aa (pv 1) (aa (pv 5) ae))))) (aj (aS (aZ (Fg (K:=K) rfl (Qi hu)) (pv 6) (df ae) (aR _)) (aq (aF aI)) aY) (aj (LN (H0:=H) rfl PassesOwn.never rfl (OG (H0:=H) rfl (aT DY hr (by omega) rfl (aa (pv 0) (aa (pv 1) (aa (pv 5) (aa (a9 (cB (K:=K) rfl) (pv 6) aI (λ_ _=>rfl)) ae)))))) (bj (i:=7) pU.nd rfl (Or.inl rfl)) (aq (lG (bB hr) (pv 4) (pv 7) i_))) (aq (bg (i:=3) pU.nd rfl (Or.inl rfl) (a_ lM (pv 3) (bJ (c5 (K:=K) rfl) rfl bl.cQ cP (aa (pv 6) ae)))))))) aY))) (aq (aF (pv 3)))))),?_⟩;have sz:(100000:Nat)<=sizeLine:=by rw[sizeLine_eq];omega
 refine setC ?_;refine cy ?_;refine λsd H1 nsd g1 jw=>?_;refine gu (Hg ps H F n fa td nl sd m) (λl_ eS=>?_) ?_
 ·refine⟨_,rfl,nl,rfl,⟨_,ak.of (g1 _ _ hn)⟩,jH (K:=K) (a:=nl) (xs:=iG ps) (Hg ps H F n fa td nl sd)
   ⟨[],none,none,none,g1,jw,Yd _,λx _=>⟨λz=>absurd rfl z,λ⟨r,h,_⟩=>absurd h (Wj _)⟩,rfl⟩ (λj σ H6 _ ⟨_,_,_,_,g,_,_,_,_⟩=>ak.of (g _ _ hn)) ?_ (λσ H6 h=>eS _ _ (by rw[vg,←em] at h;exact h))⟩
  rintro j v σ H6 hj ⟨kvs,o5,o6,o7,g6,As,Zf9,seen,rfl⟩;have jm:j<m:=by
   have:=(Yh.mp hj).1;rw[vg] at this;omega
  obtain rfl:V.str (au ps j)=v:=Ys ((ZcN (by omega)).symm.trans hj);refine bu ?_;refine⟨_,rfl,_,rfl,sd,_,rfl,cY As rfl,_,rfl,?_⟩;cases ev:aO kvs (.inr (au ps j)) with
  |some y=>
   refine bY (aX ?_);obtain⟨r,rj,cr⟩:=(seen j (by omega)).mp (by rw[ev];exact λz=>nomatch z);have JY:gD F n (j+1)=gD F n j:=by unfold gD;rw[ZbC (λh=>h r rj cr)]
   refine⟨kvs,_,_,_,g6,As,by omega,λx xm=>?_,by rw[JY];rfl⟩;rw[seen x xm];constructor
   ·rintro⟨r',h1,h2⟩;exact⟨r',by omega,h2⟩
   ·rintro⟨r',h1,h2⟩;by_cases z:r'=j;·exact⟨r,rj,cr.trans (by rw[←z];exact h2)⟩
    ·exact⟨r',by omega,h2⟩
  |none=>
   refine cV ?_;have rep:∀k,k<j->¬cR F k j:=λk hk c=>(seen j (by omega)).mpr ⟨k,hk,c⟩ ev;refine cy ?_;refine⟨_,rfl,_,rfl,_,rfl,fa,td,ps,xs,ys,F,j,rfl,fE.same g6,ht.same g6,eX,fg,by omega,by omega,k_,by omega,λrl H7 U4 g7 JZ=>?_⟩;rw[←en] at JZ;refine mZ (λσ H8=>σ=Ar fa td nl sd (gD F n j) (some (.str (au ps j))) (some (.ref rl)) o7/\ai H7 H8/\dJ F n j≠[]) (λz9 mw=>?_) ?_
   ·refine⟨_,rfl,by show 0<=sizeLine;omega,λle H8 nle g8 hle=>⟨rl,le,_,rfl,rfl,ak.of (g8 _ _ JZ),ak.of (xs:=[]) hle,_,rfl,?_⟩⟩;rw[if_neg Yi,List.isEmpty_map];refine bC (λcc=>?_) (λcc=>aX (mw _ _ ⟨rfl,g8,λz=>cc (by rw[z];rfl)⟩));have er:dJ F n j=[]:=by
     cases e:dJ F n j with
     |nil=>rfl
     |cons _ _=>rw[e] at cc;cases cc
    have ez:gD F n m=0:=MU (Yf.mpr ⟨j,MT.mpr ⟨jm,rep⟩,by rw[er];rfl⟩);have:=q H8 ((g6.trans g7).trans g8);rw[ez] at this;exact this
   rintro _ H8 ⟨rfl,g8,rne⟩;have J_:=(g6.trans g7).trans g8;obtain⟨u,R,eR⟩:∃u R,dJ F n j=u::R:=by
    cases e:dJ F n j with
    |nil=>exact absurd e rne
    |cons u R=>exact⟨u,R,rfl⟩
   obtain⟨uin,yes⟩:=u4.mp (show u∈dJ F n j by rw[eR];exact Yk);have zb:=g8 _ _ JZ;have hs8:=g8 _ _ (g7 _ _ As);refine gu (λσ H9=>ai H H9/\H9 rl=some (.lst ((dJ F n j).map V.int))/\∃(kvs:List (Key×V)) (o7:Option V),H9 sd=some (.dK kvs)/\kvs.length<=100*(j+1)/\(∀x:Nat,x<ps.length->(aO kvs (.inr (au ps x))≠none↔∃r,r<j+1/\cR F r x))/\σ=Ar fa td nl sd (gD F n j) (some (.str (au ps j))) (some (.ref rl)) o7) (λoa fk=>?_) ?_
   ·refine Z9 (λd H9 kv=>∃gl:List (Nat×Int),ai H8 H9/\H9 d=some (.dK kv)/\kv=gN ps gl/\BF F n m j u gl/\fU n F (λk=>gl.lookup k)) (λR hR=>?_) ?_
    ·refine⟨_,rfl,_,rfl,_,rfl,_,rfl,rl,_,_,.int u,rfl,rfl,ak.of (by rw[eR] at zb;exact zb),gq (j:=0) rfl,fa,td,ps,xs,ys,F,j,u,rfl,fE.same J_,ht.same J_,eX,fg,by omega,by omega,k_,by omega,by rw[←en];exact uin,by rw[←en];exact yes,λdp gl H9 g9 hdp bf cl=>?_⟩;rw[←en,←em] at bf;rw[←en] at cl;exact hR dp H9 (gN ps gl) ⟨gl,g9,hdp,rfl,bf,cl⟩
    ·rintro d H9 kv ⟨gl,g9,hd,rfl,bf,cl⟩;have gll:=bf.len;have uE:=g9 _ _ hs8;have gg9:=J_.trans g9;have Hh:sd≠d:=λz=>by
      rw[z,hd] at uE;have e:gN ps gl=kvs:=by injection uE with h;injection h
      rw[←e,m8 eX (by omega) λp hp=>by rw[←em];exact(bf.lt p hp).1,bf.hd] at ev;cases ev
     refine⟨hd,λi=>SM ps H9 F n fa td nl sd d j (100*j+i) ((gl.take i).map (·.1)) (some (.str (au ps j))) (some (.ref rl)),λod=>?_,?_,?_⟩;·exact⟨kvs,o7,λc o e n1 _=>by rw[aP n1];exact e,by rw[aP Hh];exact uE,by omega,λx xm=>by rw[seen x xm];simp,rfl⟩
     ·rintro od i k y aB H' N rt bk hk ⟨Au,q7,gk,Ka,SN,vP,rfl⟩ fz hN;rw[gN,Yg] at hk;obtain⟨⟨k0,v0⟩,ek⟩:∃p,gl[i]?=some p:=by
       cases e:gl[i]? with
       |none=>rw[e] at hk;cases hk
       |some p=>exact⟨p,rfl⟩
      rw[ek] at hk;cases hk;have il:i<gl.length:=(Yh.mp ek).1;have jy:gl.take (i+1)=gl.take i++[(k0,v0)]:=by rw[Yy,ek];rfl
      refine bu ?_;have k0m:k0<ps.length:=by rw[←em];exact(bf.lt _ (Ye ek)).1
      refine⟨_,rfl,_,rfl,sd,Au,.inr (au ps k0),rfl,Ka,rfl,by omega,λH2 b2 e2=>?_⟩;refine hN _ _ ⟨_,_,λc o e n1 n2=>b2 _ _ (gk c o e n1 n2) n2,e2,?_,λx xm=>?_,rfl⟩ (b2 _ _ fz (λz=>Hh z.symm))
      ·have:=uP Au (.inr (au ps k0)) (.bl true);omega
      ·rw[M_,jy,Ym,Yu];by_cases z:x=k0
       ·rw[if_pos (by rw[z])];exact⟨λ_=>.inr (.inr (by rw[z];exact Yk)),λ_ z=>nomatch z⟩
       ·rw[if_neg (λw=>z (sR eX xm k0m (We w))),vP x xm];constructor
        ·rintro(h|h);·exact .inl h
         ·exact .inr (.inl h)
        ·rintro(h|h|h);·exact .inl h
         ·exact .inr h
         ·exact absurd (by simpa using h) z
     ·rintro od aB H' ⟨Au,q7,gk,Ka,SN,vP,rfl⟩ fz;rw[QO] at SN vP;rw[Y8] at vP;have kp:∀c o,H9 c=some o->c≠sd->upd H' d (.dK (gN ps gl)) c=some o:=λc o e n2=>by
       by_cases z:c=d;·subst z;rw[aU];rw[hd] at e;exact e
       ·rw[aP z];exact gk c o e z n2
      have U4:rl≠sd:=dm (g9 _ _ zb) uE (λz=>by cases z);refine fk _ _ ⟨λc o e=>kp c o (gg9 _ _ e) (ck e nsd),kp _ _ (g9 _ _ zb) U4,Au,q7,by rw[aP Hh];exact Ka,by omega,λx xm=>?_,rfl⟩;rw[vP x xm];have key:=bf.key cl x;have mem:x∈gl.map (·.1)↔∃v,gl.lookup x=some v:=⟨λh=>by
       cases e:gl.lookup x with
       |none=>exact absurd h (VC e)
       |some v=>exact⟨v,rfl⟩,λ⟨v,h⟩=>uX h⟩
      rw[mem,key];constructor
      ·rintro(⟨r,h1,h2⟩|h);·exact⟨r,by omega,h2⟩
       ·exact⟨j,by omega,h⟩
      ·rintro⟨r,h1,h2⟩;by_cases z:r=j;·exact .inr (by rw[←z];exact h2)
       ·exact .inl ⟨r,by omega,h2⟩
   rintro _ H9 ⟨g9,Zf_,Zga,p7,uE,Zgb,ZeQ,rfl⟩;refine⟨_,rfl,_,rfl,rl,_,rfl,.inl (ak.of Zf_),_,_,rfl,rfl,.inr ?_,?_⟩
   ·rw[Ya];have rl8:(dJ F n j).length<=8:=by
     have:=uM (n:=n) (NG F n j).2 λa ha=>(u4.mp ha).1;omega
    omega
   ·have JY:gD F n (j+1)=gD F n j*((dJ F n j).length:Int):=by unfold gD;rw[Zap rep,Ym];exact Eo _ _
    refine⟨Zga,some (.str (au ps j)),some (.ref rl),p7,g9,uE,Zgb,ZeQ,?_⟩;rw[JY,Ya];rfl
 rintro _ H6 ⟨kvs,o5,o6,o7,g6,As,Zf9,seen,rfl⟩;exact⟨_,rfl,q H6 g6⟩
end
def yR(K:PySem.W.Frag):Sp:=λvs H Q _=>∃(a:Addr) (ns:List Int),vs=[.ref a]/\ak K H a (ns.map V.int)/\ns.length<=63/\∀H',Q (.bl true) H'
def U5(s1 m wi td h st:Addr)(n z:Int)(o8:Option V):St:=[some (.ref s1),some (.int n),some (.ref m),some (.ref wi),some (.ref td),some (.int z),some (.ref h),some (.ref st),o8]
section
theorem kG:aQ ["_law_script","_law_size","_law_mother","_law_wife","_law_turns_here","_law_salt","_law_book","_law_state","_law_cell_here"] ["_law_script"] (aL qu):=⟨rfl,rfl,rfl,by decide+kernel,rfl,by decide+kernel,by decide+kernel⟩
theorem Zd7(F:aM K "law" "law" qu f fd)(r_:HasFn P w K mg base 1 "_law_cell" ["_law_script","_law_k"] (Qb K))(mJ:HasFn P w K mg base 1 "_law_draws" ["_law_cell_here","_law_parts"] (yk K))(x6:HasFn P w K mg base 2 "_law_row" ["_law_cell_here","_law_size"] RA)(Dq:HasFn P w K mg base 2 "_law_turns" ["_law_mother","_law_wife"] Po)(pX:HasFn P w K mg base 4 "_law_same" ["_law_found","_law_due"] (qk 4))(DZ:HasFn P w K mg base 14 "_law_step" ["_law_book","_law_state","_law_cell_here","_law_turns_here","_law_salt"] (PD C CL CJ))(xK:HasFn P w K mg base 4 "_law_dealt" ["_law_facts","_law_turns_here","_law_names"] Oc)(uY:HasFn P w K mg base 9 "dealings" ["hearth"] (L4 C CL CJ))
  (Ep:HasFn P w K mg base 7 "land_of" ["mother","wife"] (Nv CL))(EX:vK P w K mg base 1 "Hearth" C ["self","land"] (O_ C CL CJ))(bl:Bl mg):aG P w K mg base (l5 P w) 16 f fd ["_law_script"] (yR K):=by
 refine F.okX kG (λvs H Q E h=>?_) (λaE A outer s H vs Q E hr h=>?_)
 ·obtain⟨a,ns,rfl,_⟩:=h;rfl
 obtain⟨a,ns,rfl,hs,hlen,q⟩:=h;have hu:=hr.qh;refine⟨_,(aj (bg (i:=0) kG.nd rfl (Or.inl rfl) (M0 (Nc (K:=K) rfl) (pv 0) Ot (Ou aI))) (aj (bg (i:=1) kG.nd rfl (Or.inl rfl) (a_ gQ aI (a_ d7 (aT r_ hr (by omega) rfl (aa (pv 0) (aa aI ae))) aI))) (aj (bg (i:=2) kG.nd rfl (Or.inl rfl) (aT x6 hr (by omega) rfl (aa (aT r_ hr (by omega) rfl (aa (pv 0) (aa aI ae))) (aa (pv 1) ae)))) (aj (bg (i:=3) kG.nd rfl (Or.inl rfl) (aT x6 hr (by omega) rfl (aa (aT r_ hr (by omega) rfl (aa (pv 0) (aa aI ae))) (aa (pv 1) ae)))) (aj (bg (i:=4) kG.nd rfl (Or.inl rfl) (aT Dq hr (by omega) rfl (aa (pv 2) (aa (pv 3) ae)))) (aj (bg (i:=5) kG.nd rfl (Or.inl rfl) (a_ d7 (aT r_ hr (by omega) rfl (aa (pv 0) (aa aI ae))) aI)) (aj (bg (i:=6) kG.nd rfl (Or.inl rfl) (Ge EX hr (by omega) rfl (aa (aT Ep hr (by omega) rfl (aa (pv 2) (aa (pv 3) ae))) ae))) (aj (aS (i8 (eN (aT pX hr (by omega) rfl (aa (aT uY hr (by omega) rfl (aa (pv 6) ae)) (aa aI ae))))) (aq (aF i_)) aY) (aj (bg (i:=7) kG.nd rfl (Or.inl rfl) (dv (aa (df ae) (aa oz (aa (df ae) (aa aI ae)))))) (aj (fT Zfe rfl (fR (K:=K) rfl (M0 (Nc (K:=K) rfl) (pv 0) (Ou aI) Ot)) (bj (i:=8) kG.nd rfl (Or.inl rfl)) (aj (bg (i:=7) kG.nd rfl (Or.inl rfl) (aT DZ hr (by omega) rfl (aa (pv 6) (aa (pv 7) (aa (pv 8) (aa (pv 4) (aa (pv 5) ae))))))) (aq (aS (aZ cg (a9 (cB (K:=K) rfl) (aT mJ hr (by omega) rfl (aa (a_ gQ (pv 8) aI) (aa (df (aa aI ae)) ae))) aI (λ_ _=>rfl)) aI (aR _)) (aq (aS (i8 (eN (aT pX hr (by omega) rfl (aa (aT uY hr (by omega) rfl (aa (pv 6) ae)) (aa (aT xK hr (by omega) rfl (aa (a9 (eI (K:=K) rfl) (pv 7) aI (λ_ _=>rfl)) (aa (pv 4) (aa (a9 (eI (K:=K) rfl) (pv 7) aI (λ_ _=>rfl)) ae)))) ae))))) (aq (aF i_)) aY)) aY)))) (aq (aF (aT pX hr (by omega) rfl (aa (aT uY hr (by omega) rfl (aa (pv 6) ae)) (aa (aT xK hr (by omega) rfl (aa (a9 (eI (K:=K) rfl) (pv 7) aI (λ_ _=>rfl)) (aa (pv 4) (aa (a9 (eI (K:=K) rfl) (pv 7) aI (λ_ _=>rfl)) ae)))) ae))))))))))))))),?_⟩;have sz:(10000:Nat)<=sizeLine:=by rw[sizeLine_eq];omega
 obtain⟨ms,em⟩:=M5 ns none (some 63);have lms:ms.length<=ns.length:=by
  have:=Lg (ns.map V.int) none (some 63);rw[em,Ya,Ya] at this;exact this
 obtain⟨cs,ec⟩:=M5 ms (some 4) none;have lcs:cs.length<=59:=by
  have:=Zbz (xs:=ms.map V.int) (by rw[Ya];omega);rw[ec,Ya] at this;exact this
 refine cy ?_;refine⟨_,rfl,_,rfl,a,_,rfl,hs,λs1 H0 n1 g0 uF=>?_⟩;rw[em] at uF;refine cy ?_;refine⟨_,rfl,s1,ms,0,rfl,ak.of uF,Int.le_refl 0,λc0=>⟨_,_,rfl,rfl,(by show(0:Int)<7;decide),_,_,rfl,rfl,?_⟩⟩;try dsimp only
 have m0:=Jb c0 (show(7:Int)≠0 by decide);have m1:=W0 c0 (show(0:Int)<7 by decide);obtain⟨n,en⟩:∃n:Nat,2+c0 % 7=(n:Int):=⟨(2+c0 % 7).toNat,by omega⟩;rw[en];have n2:2<=n:=by omega
 have n8:n<=8:=by omega
 refine cy ?_;refine⟨_,rfl,s1,ms,1,rfl,ak.of uF,by decide,λc1=>⟨_,rfl,c1,n,rfl,by omega,by omega,λm xs H1 nm g1 hM px=>?_⟩⟩;refine cy ?_;refine⟨_,rfl,s1,ms,2,rfl,ak.of (g1 _ _ uF),by decide,λc2=>⟨_,rfl,c2,n,rfl,by omega,by omega,λwi ys H2 nw g2 hW py=>?_⟩⟩;have lx:xs.length=n:=by rw[px.length_eq,eF]
 have ly:ys.length=n:=by rw[py.length_eq,eF]
 have gd:ni xs ys:=⟨p_ px,p_ py,by omega,by omega,by omega⟩;refine cy ?_;refine⟨_,rfl,_,rfl,m,wi,xs,ys,rfl,g2 _ _ hM,hW,gd,λtd H3 ntd g3 ht=>?_⟩;have iQ:=(g1.trans g2).trans g3;refine cy ?_;refine⟨_,rfl,s1,ms,3,rfl,ak.of (iQ _ _ uF),by decide,λc3=>⟨_,_,rfl,rfl,(by show(0:Int)<97;decide),?_⟩⟩;try dsimp only
 have z0:=Jb c3 (show(97:Int)≠0 by decide);have z1:=W0 c3 (show(0:Int)<97 by decide);obtain⟨z,ez⟩:∃z:Nat,c3 % 97=(z:Int):=⟨(c3 % 97).toNat,by omega⟩;rw[ez];have hz:z<97:=by omega
 refine cy ?_;refine⟨_,rfl,_,rfl,m,wi,xs,ys,rfl,g3 _ _ (g2 _ _ hM),g3 _ _ hW,gd.1,gd.2.1,gd.2.2.1,gd.2.2.2.1,gd.2.2.2.2,λLd H4 g4 la=>λx dx nx wN nd=>?_⟩;have wO:upd H4 dx (.own x) x=none:=by rw[aP (λz=>nd z.symm)];exact nx
 obtain⟨H5,e5⟩:∃H5,H5=upd (upd H4 dx (.own x)) x (.ins C dx []):=⟨_,rfl⟩;have g5:ai H4 H5:=by rw[e5];exact(cq wN _).trans (cq wO _)
 have hx5:H5 x=some (.ins C dx []):=by rw[e5];exact aU
 rw[←e5];refine⟨x,dx,Ld,xs,ys,rfl,hx5,la.same g5,λl H6 eh Ab b6 ba=>⟨rfl,?_⟩⟩;subst eh;have keep:∀{a:Addr} {o:HO},H4 a=some o->H6 a=some o/\a∉l.fp:=λ{a o} e=>by
  have na:a≠l.h:=ck e nx;refine⟨b6 _ _ (g5 _ _ e) na,λz=>?_⟩;have:=Ab a z na;rw[g5 _ _ e] at this;cases this
 have U6:=g4 _ _ (iQ _ _ uF);have ht4:=ht.same g4;obtain⟨tm,tf,tw,ts,dD,q1,q2,q3,q4⟩:=ht4;have ht6:eW H6 td xs ys:=⟨tm,tf,tw,ts,(keep dD).1,(keep q1).1,(keep q2).1,(keep q3).1,(keep q4).1⟩;refine⟨_,rfl,l,_,xs,ys,rfl,ba,cD.nil gd,λl1 H7 w7 ba7=>⟨_,_,.int 1,3,rfl,rfl,sZ,sZ,λH8 g8=>⟨_,rfl,bY (aX ?_)⟩⟩⟩;have w8:=w7.same g8;have uu:=ba7.same g8;refine cy ?_;refine⟨by show 0<=sizeLine;omega,λnl H9 n9 g9 h9=>?_⟩;refine λsd HA nA gA hA=>?_;refine⟨by show 0<=sizeLine;omega,λfl HB nB gB hB=>⟨by show 4<=sizeLine;omega,λst HC nC gC hC=>?_⟩⟩;have Kb:=((g9.trans gA).trans gB).trans gC;have U7:=uu.same g9;have baA:=U7.same gA;have htC:=(w8.eW ba ht6 (keep dD).2).same Kb;have wC:=w8.same Kb;have si:eC C CL CJ HC xs ys z 0 td l1 ⟨[],[],0,[],[]⟩ nl sd fl st:=⟨uu.same Kb,cD.nil gd,gC _ _ (gB _ _ (gA _ _ h9)),uu.fresh n9,gC _ _ (gB _ _ hA),U7.fresh nA,⟨[],gC _ _ hB,.nil⟩,baA.fresh nB,hC,htC,(w8.off (keep dD).1 (keep dD).2).2,rfl,List.Pairwise.nil,Yw _,Yw _,Yw _⟩;have hsC:=(wC.off (keep U6).1 (keep U6).2).1;have U8:=w7.h;refine gu (λσ H'=>∃(l':BL) (b':BS) (oj kg lu aK:Addr) (o8:Option V),bX HC H' l1 l'/\eC C CL CJ H' xs ys z 59 td l' b' oj kg lu aK/\σ=U5 s1 m wi td l.h aK n z o8) (λl_ eS=>?_) ?_
 ·refine⟨_,rfl,_,rfl,s1,_,rfl,ak.of hsC,λca HE nca gE Kc=>⟨ca,rfl,⟨_,ak.of Kc⟩,?_⟩⟩;rw[ec] at Kc;have sE:=si.same gE;have nc:ca∉l1.fp:=si.ba.fresh nca;refine jH (K:=K) (a:=ca) (xs:=cs.map V.int) (λj σ H'=>∃(l':BL) (b':BS) (oj kg lu aK:Addr) (o8:Option V),bX HE H' l1 l'/\eC C CL CJ H' xs ys z j td l' b' oj kg lu aK/\σ=U5 s1 m wi td l.h aK n z o8)
   ⟨l1,_,nl,sd,fl,st,none,bX.of (ai.refl _),sE,rfl⟩ (λj σ H' _ ⟨_,_,_,_,_,_,_,wt,_⟩=>ak.of (wt.off Kc nc).1) ?_ ?_
  ·rintro j v σ HF hj ⟨l',b',oj,kg,lu,aK,o8,wt,sF,rfl⟩;obtain⟨x,rfl,hx⟩:=lI hj;have jl:j<cs.length:=(Yh.mp hx).1;refine bu ?_;refine cy ?_;have e':l'.h=l.h:=wt.h.trans U8;refine⟨_,rfl,_,rfl,_,rfl,_,rfl,_,rfl,xs,ys,z,j,x,td,l',b',oj,kg,lu,aK,by rw[e'];rfl,sF,hz,by omega,λl2 b2 nZ wH rH dt HG wG sG _=>?_⟩;have e2:l2.h=l.h:=wG.h.trans e';have U9:=wt.trans wG;refine⟨_,rfl,_,_,rfl,rfl,by show 1<=sizeLine;omega,λpl HI xq gI c6=>⟨x+3,pl,[3],rfl,ak.of c6,by decide,by decide,λdr ds HJ ndr gJ hdr bd=>?_⟩⟩;obtain⟨d0,rfl,_⟩:=ZcM bd;have Kd:=gI.trans gJ;have sJ:=sG.same Kd;refine⟨dr,_,_,.int d0,rfl,rfl,ak.of hdr,rfl,rfl,_,rfl,bC (λc1=>?_) (λc1=>aX ⟨l2,b2,nZ,wH,rH,dt,_,U9.same Kd,sJ,rfl⟩)⟩;refine⟨_,rfl,l2,b2,xs,ys,by rw[e2];rfl,sJ.ba,sJ.ok,λl3 HK wK Ke=>?_⟩;have sK:=sJ.SK wK Ke;refine⟨_,rfl,dt,_,_,.ref rH,rfl,rfl,ay.of sK.tup,rfl,_,rfl,_,rfl,dt,_,_,.ref nZ,rfl,rfl,ay.of sK.tup,rfl,rH,td,nZ,b2.ps,xs,ys,b2.F,rfl,sK.FL,sK.turns,sK.ok.nm,sK.good.1,gd.2.2.2.2,by have:=sK.ok.m;omega,sK.good.2,sK.names,λHL gL=>⟨_,_,.int (gD b2.F xs.length b2.ps.length),3,rfl,rfl,sZ,sZ,λHM gM=>⟨_,rfl,bY (aX ⟨l3,b2,nZ,wH,rH,dt,_,((U9.same Kd).trans wK).same (gL.trans gM),sK.same (gL.trans gM),rfl⟩)⟩⟩⟩
  ·rintro σ HF ⟨l',b',oj,kg,lu,aK,o8,wt,sF,rfl⟩;rw[Ya] at sF;exact eS _ _ ⟨l',b',oj,kg,lu,aK,o8,bX.after gE wt,sF.up lcs,rfl⟩
 rintro σ HF ⟨l2,b2,nZ,wH,rH,dt,o8,wt,sF,rfl⟩;have e2:l2.h=l.h:=wt.h.trans U8;refine⟨_,rfl,l2,b2,xs,ys,by rw[e2];rfl,sF.ba,sF.ok,λl3 HK wK Ke=>?_⟩;have sK:=sF.SK wK Ke;exact⟨_,rfl,dt,_,_,.ref rH,rfl,rfl,ay.of sK.tup,rfl,_,rfl,_,rfl,dt,_,_,.ref nZ,rfl,rfl,ay.of sK.tup,rfl,rH,td,nZ,b2.ps,xs,ys,b2.F,rfl,sK.FL,sK.turns,sK.ok.nm,sK.good.1,gd.2.2.2.2,by have:=sK.ok.m;omega,sK.good.2,sK.names,λHL gL=>⟨_,_,.int (gD b2.F xs.length b2.ps.length),3,rfl,rfl,sZ,sZ,λHM gM=>q HM⟩⟩
end
theorem all_mk{l:PySem.W.OpenLaw}{w:World}{K:PySem.W.Frag}{h:Heap}{mg:Str->Option Value}{fa:Addr}
  {f1 f2 f3 f4 f5 f6 f7 f8 f9 zA f11 f12 f13 f14 f15 f16 f17 f18 f19 f20 f21 f22 f23 f24 f25 f26 f27 f28 f29 f30 f31 f32 f33 f34 f35 f36 f37 f38 f39 f40 f41 f42 f43 f44 f45 f46 f47 f48 f49:Addr}
  {WL:Tok}
  {Xp:Tok}
  {VM:Tok}
  {Zas:Tok}
  {Xq:Tok}
  {kj:Addr}
  {dk:Addr}{Zw:Option Addr}{Zx:Array (Option Value)}{Zy:Nat}{Xr:Tok}{Xs:Tok}
  {Zd8:Tok}
  {ZbE:Tok}
  {Vh:Tok}
  {Vo:Tok}
  {ZcP:Tok}
  {Zz:Tok}
  {b_:Addr}{YA YB:Addr}
  {bN:Addr}{Xt YC YD YE VN Xu Vx WM V2 Va Xv WN Vd:Addr}
  {bZ:Addr}{WO VO Xw Xx WQ WR VP Vy WS Xy Vj Vi V3 Vz V4 VQ Vk Vp:Addr}
  (X:K.In h)(G:h.Ns mainGlobals mg)(cM:mg "law"=some (.ref fa))
  (p1:aH K "is_turn" Eb f1)
  (p2:aH K "still" Fh f2)
  (p3:aH K "behind" EH f3)
  (p4:aH K "back" FV f4)
  (p5:aH K "check_turn" Cq f5)
  (p6:aH K "check_rows" Cr f6)
  (p7:aH K "check_parents" A8 f7)
  (p8:aH K "land_of" Ec f8)
  (p9:aH K "followed" DB f9)
  (Kg:aH K "turned_back" BZ zA)
  (Kh:aH K "lines_up" DC f11)
  (Ki:aH K "is_tie" EI f12)
  (Kj:aH K "tie_turn" DD f13)
  (Kk:aH K "fact_key" DE f14)
  (Kl:aH K "keep_fact" CZ f15)
  (Km:aH K "fact_fits" C0 f16)
  (Kn:aH K "is_name" Ed f17)
  (Ko:aH K "check_person" Bv f18)
  (Kp:aH K "check_tie" C1 f19)
  (Kq:aH K "sides_fit" C2 f20)
  (Kr:aH K "told_already" Bw f21)
  (Ks:aH K "check_elders" Bx f22)
  (Ku:aH K "check_saying" By f23)
  (Kv:aH K "check_section" A9 f24)
  (Kw:aH K "is_person" C3 f25)
  (Kx:aH K "dealings" DF f26)
  (Ky:aH K "_law_cell" LO f27)
  (Kz:aH K "_law_draws" Ll f28)
  (KA:aH K "_law_turn" LP f29)
  (KC:aH K "_law_row" Ee f30)
  (KD:aH K "_law_inverse" B0 f31)
  (KG:aH K "_law_after" C4 f32)
  (KH:aH K "_law_turns" C5 f33)
  (KI:aH K "_law_same" xM f34)
  (KJ:aH K "_law_nets" DG f35)
  (KL:aH K "_law_carried" B3 f36)
  (KN:aH K "_law_room" DH f37)
  (KO:aH K "_law_name" DI f38)
  (KP:aH K "_law_up" EJ f39)
  (KQ:aH K "_law_told" DJ f40)
  (KR:aH K "_law_sided" C6 f41)
  (KS:aH K "_law_word" DK f42)
  (KU:aH K "_law_pick" DL f43)
  (KW:aH K "_law_fact" DM f44)
  (KY:aH K "_law_put" Ef f45)
  (KZ:aH K "_law_step" DN f46)
  (K0:aH K "_law_good" DO f47)
  (K1:aH K "_law_dealt" C7 f48)
  (K2:aH K "law" qu f49)
  (Gx:nsIn K mainGlobals "len"=some none)
  (Gy:nsIn K mainGlobals "abs"=some none)
  (F8:nsIn K mainGlobals "list"=some none)
  (Fw:nsIn K mainGlobals "range"=some none)
  (Fx:nsIn K mainGlobals "tuple"=some none)
  (Gz:nsIn K mainGlobals "any"=some none)
  (GA:nsIn K mainGlobals "all"=some none)
  (CF:nsIn K mainGlobals "isinstance"=some none)
  (F9:nsIn K mainGlobals "bool"=some none)
  (GB:nsIn K mainGlobals "int"=some none)
  (GC:nsIn K mainGlobals "str"=some none)
  (EY:nsIn K mainGlobals "sorted"=some none)
  (GD:nsIn K mainGlobals "min"=some none)
  (GF:nsIn K mainGlobals "max"=some none)
  (GG:nsIn K mainGlobals "sum"=some none)
  (F_:nsIn K mainGlobals "dict"=some none)
  (D0:nsIn K mainGlobals "reversed"=some none)
  (CG:nsIn K mainGlobals "ValueError"=some none)
  (Cc:nsIn K mainGlobals "LEAST_SIZE"=some (some (.int (2) WL)))
  (CH:nsIn K mainGlobals "MOST_SIZE"=some (some (.int (8) Xp)))
  (Bm:nsIn K mainGlobals "LONGEST_NAME"=some (some (.int (12) VM)))
  (Es:nsIn K mainGlobals "PUT_IN"=some (some (.int (1) Zas)))
  (CI:nsIn K mainGlobals "TAKEN_OUT"=some (some (.int (-1) Xq)))
  (BK:nsIn K mainGlobals "TIE_LETTERS"=some (some (.ref kj)))
  (xE:PyProof.Rows.KTD.tabLook PyProof.Rows.KTD.flatLooks (λb=>K.lookup b) kj [("mother",PyData.str "m"),("father",PyData.str "f"),("wed",PyData.str "w"),("sibling",PyData.str "s")]=true)
  (D1:nsIn K mainGlobals "PARENTS"=some (some (.ref dk)))
  (D2:K.lookup dk=some ⟨.type "tuple",Zw,.seq #[.str "mother" Xr,.str "father" Xs] Zy,Zx⟩)
  (Ga:nsIn K mainGlobals "MAN"=some (some (.str "man" Zd8)))
  (EZ:nsIn K mainGlobals "WOMAN"=some (some (.str "woman" ZbE)))
  (AE:nsIn K mainGlobals "LETTERS_OF_NAMES"=some (some (.str "abcdefghijklmnopqrstuvwxyz" Vh)))
  (AR:nsIn K mainGlobals "SIGNS_OF_NAMES"=some (some (.str "abcdefghijklmnopqrstuvwxyz0123456789" Vo)))
  (Fy:nsIn K mainGlobals "SAID"=some (some (.str "said" ZcP)))
  (D3:nsIn K mainGlobals "SIBLING"=some (some (.str "sibling" Zz)))
  (Fz:nsIn K mainGlobals "Land"=some (some (.ref b_)))
  (FA:makesIn K b_=true)
  (FC:keepIn K (.ref b_)=true)
  (E1:plainGet K b_ Str.empty=true)
  (FD:hasDictIn K b_=true)
  (E2:plainOver K b_=true)
  (FE:PySem.W.findIn K (.ref b_) "__setattr__"=some (some (.builtin "object.__setattr__")))
  (CK:PySem.W.findIn K (.ref b_) "size"=some none)
  (BM:PySem.W.findIn K (.ref b_) "mother"=some none)
  (BN:PySem.W.findIn K (.ref b_) "father"=some none)
  (CM:PySem.W.findIn K (.ref b_) "wife"=some none)
  (Cd:PySem.W.findIn K (.ref b_) "steps"=some none)
  (Dr:bb K b_ "__init__" "Land.__init__" C8 YA)
  (Du:bb K b_ "step" "Land.step" C9 YB)
  (E3:nsIn K mainGlobals "Joins"=some (some (.ref bN)))
  (E4:makesIn K bN=true)
  (E5:keepIn K (.ref bN)=true)
  (Et:plainGet K bN Str.empty=true)
  (E6:hasDictIn K bN=true)
  (Eu:plainOver K bN=true)
  (E7:PySem.W.findIn K (.ref bN) "__setattr__"=some (some (.builtin "object.__setattr__")))
  (Ce:PySem.W.findIn K (.ref bN) "size"=some none)
  (BO:PySem.W.findIn K (.ref bN) "heads"=some none)
  (BP:PySem.W.findIn K (.ref bN) "leads"=some none)
  (A1:PySem.W.findIn K (.ref bN) "members"=some none)
  (Cf:PySem.W.findIn K (.ref bN) "free"=some none)
  (CN:bb K bN "__init__" "Joins.__init__" Cs Xt)
  (Dv:bb K bN "add" "Joins.add" C_ YC)
  (Dw:bb K bN "tie" "Joins.tie" Dc YD)
  (Dx:bb K bN "say" "Joins.say" Dd YE)
  (Bn:bb K bN "open_at" "Joins.open_at" A_ VN)
  (CO:bb K bN "left" "Joins.left" Ct Xu)
  (A2:bb K bN "together" "Joins.together" AV Vx)
  (Cg:bb K bN "pairs" "Joins.pairs" B4 WM)
  (BQ:bb K bN "narrow" "Joins.narrow" Bz V2)
  (Ax:bb K bN "bring_together" "Joins.bring_together" Av Va)
  (CP:bb K bN "move" "Joins.move" Cu Xv)
  (Ci:bb K bN "dealt" "Joins.dealt" B5 WN)
  (AA:bb K bN "dealt_beside" "Joins.dealt_beside" Ay Vd)
  (Ew:nsIn K mainGlobals "Hearth"=some (some (.ref bZ)))
  (Ex:makesIn K bZ=true)
  (Ey:keepIn K (.ref bZ)=true)
  (D4:plainGet K bZ Str.empty=true)
  (Ez:hasDictIn K bZ=true)
  (D5:plainOver K bZ=true)
  (EA:PySem.W.findIn K (.ref bZ) "__setattr__"=some (some (.builtin "object.__setattr__")))
  (BR:PySem.W.findIn K (.ref bZ) "land"=some none)
  (Bo:PySem.W.findIn K (.ref bZ) "sides"=some none)
  (A3:PySem.W.findIn K (.ref bZ) "places"=some none)
  (Bp:PySem.W.findIn K (.ref bZ) "facts"=some none)
  (Bq:PySem.W.findIn K (.ref bZ) "known"=some none)
  (AS:PySem.W.findIn K (.ref bZ) "parents"=some none)
  (A4:PySem.W.findIn K (.ref bZ) "coming"=some none)
  (BU:PySem.W.findIn K (.ref bZ) "done"=some none)
  (A5:PySem.W.findIn K (.ref bZ) "undone"=some none)
  (AL:PySem.W.findIn K (.ref bZ) "reckoned"=some none)
  (Cj:bb K bZ "__init__" "Hearth.__init__" B6 WO)
  (Br:bb K bZ "person" "Hearth.person" Ba VO)
  (CQ:bb K bZ "tie" "Hearth.tie" Cv Xw)
  (CS:bb K bZ "say" "Hearth.say" Cw Xx)
  (Ck:bb K bZ "keep" "Hearth.keep" B7 WQ)
  (Cm:bb K bZ "take" "Hearth.take" B8 WR)
  (Bs:bb K bZ "people" "Hearth.people" Bb VP)
  (A6:bb K bZ "side_of" "Hearth.side_of" AW Vy)
  (K8:bb K bZ "kept" "Hearth.kept" WA WS)
  (CT:bb K bZ "has" "Hearth.has" Cy Xy)
  (AM:bb K bZ "parent_of" "Hearth.parent_of" AG Vj)
  (AF:bb K bZ "parents_of" "Hearth.parents_of" AB Vi)
  (BV:bb K bZ "joins" "Hearth.joins" BA V3)
  (A7:bb K bZ "do_deed" "Hearth.do_deed" AX Vz)
  (BW:bb K bZ "shift" "Hearth.shift" BB V4)
  (Bu:bb K bZ "put_in" "Hearth.put_in" Bc VQ)
  (AN:bb K bZ "note_fact" "Hearth.note_fact" AH Vk)
  (AU:bb K bZ "take_out" "Hearth.take_out" AO Vp)
  :∃fd:FuncData,(∀(s:Shared) (v:Value),BindsTo s fd ⟨[v],[]⟩ [("_law_script",v)])/\∀base:Heap,K.In base->base.Ns mainGlobals mg->aG l.prog w K mg base (l5 l.prog w) 16 fa fd ["_law_script"] (yR K):=by
 obtain @⟨od,an,sl,oc,kV,dc,pm,cd,ct,ax,lx,cx,kx⟩:=K2;have e:=cM.symm.trans (mg_of X G ax);cases e;have bl:Bl mg:=⟨mg_none_of X G Gx,mg_none_of X G Gy,mg_none_of X G F8,mg_none_of X G Fw,mg_none_of X G Fx,mg_none_of X G Gz,mg_none_of X G GA,mg_none_of X G CF,mg_none_of X G F9,mg_none_of X G GB,mg_none_of X G GC,mg_none_of X G EY,mg_none_of X G GD,mg_none_of X G GF,mg_none_of X G GG,mg_none_of X G F_,mg_none_of X G D0,mg_none_of X G CG⟩;have Cz:=mg_of X G Cc;have De:=mg_of X G CH;have BE:=mg_of X G Bm;have mQ:=mg_of X G Es;have Dk:=mg_of X G CI;have rN:=mg_of X G BK;have hZ:=mg_of X G D1;have u5:∀H,ay K H dk [.str "mother",.str "father"]:=λ_=>.inr ⟨_,_,_,D2,rfl,rfl,by show 2<=sizeLine;decide,(.cons ⟨_,rfl⟩ (.cons ⟨_,rfl⟩ .nil))⟩;have qx:=mg_of X G Ga;have qf:=mg_of X G EZ;have AJ:=mg_of X G AE;have A0:=mg_of X G AR;have jL:=mg_of X G Fy;have mO:=mg_of X G D3;have Zd9:=mg_of X G Fz;have QZ:fL K b_:=⟨E1,FD,E2,FE⟩;have ZcQ:=mg_of X G E3;have i4:fL K bN:=⟨Et,E6,Eu,E7⟩;have ZbF:=mg_of X G Ew;have gn:fL K bZ:=⟨D4,Ez,D5,EA⟩;refine⟨fnOf "law" "law" (mV qu) (ku qu) (aL qu) .none kV dc pm an cd ct,λs v=>.of_eq rfl,λbase _ _=>?_⟩;have F:=vw (st:=qu) lx cx kx;have D:l9 l.prog w K mg base:=⟨X,G⟩;have lc:tE K b_:=⟨QZ,CK,BM,BN,CM,Cd⟩;have jc:kB K bN:=⟨i4,Ce,BO,BP,A1,Cf⟩;have hc:fI K bZ:=⟨gn,BR,Bo,A3,Bp,Bq,AS,A4,BU,A5,AL⟩;have r_:=D.d Ky (λ_ F=>Zce F bl.cQ);have mJ:=D.d Kz (λ_ F=>Za5 F bl.Zeo);have sh:=D.d p1 (λ_ F=>Za F bl);have ou:=D.d p9 (λ_ F=>XS F bl);have mI:=D.d Kg (λ_ F=>VX F bl);have sN:=D.d p2 (λ_ F=>Za8 F bl);have Dg:=D.m QZ Du (λ_ F=>Zck F lc);have Fq:=D.i (y:="Joins") ZcQ E4 E5 CN (λ_ F=>Zbb F jc bl);have rJ:=D.m i4 A2 (λ_ F=>XT F jc bl);have lC:=D.m i4 Bn (λ_ F=>Ze F jc bl);have rK:=D.m i4 BQ (λ_ F=>Zab F jc bl);have sH:=D.d Ki (λ_ F=>Zag F rN xE);have mK:=D.d Kk (λ_ F=>XY F mO bl);have Bi:=D.m gn Bs (λ_ F=>Zah (CL:=b_) (CJ:=bN) F hc bl);have pP:=D.m gn A6 (λ_ F=>Zk (CL:=b_) (CJ:=bN) F hc bl);have rU:=D.d Kw (λ_ F=>Xf F bl);have AK:=D.m gn AM (λ_ F=>Xg (CL:=b_) (CJ:=bN) F hc);have AD:=D.m gn AF (λ_ F=>WI (CL:=b_) (CJ:=bN) F hc hZ u5);have Ej:=D.d Kn (λ_ F=>Zn F BE AJ A0 bl);have EX:=D.i (y:="Hearth") ZbF Ex Ey Cj (λ_ F=>Zbu (CL:=b_) (CJ:=bN) F hc);have Dl:=D.d Kq (λ_ F=>Xi F qx qf mO);have Bj:=D.d Kv (λ_ F=>Vw (C:=bZ) (CL:=b_) (CJ:=bN) F hc lc bl);have Dn:=D.d KG (λ_ F=>Xm F bl);have pR:=D.d KD (λ_ F=>Zp F bl);have rP:=D.d KL (λ_ F=>Zq F bl);have DU:=D.d KQ (λ_ F=>X1 F);have Dp:=D.d KR (λ_ F=>Xo F);have EU:=D.d KP (λ_ F=>Zal F bl);have xR:=D.d KU (λ_ F=>X3 F bl);have DV:=D.d KO (λ_ F=>X5 F bl);have Az:=D.m i4 AA (λ_ F=>VL F jc bl);have DT:=D.d KA (λ_ F=>Zcf F bl.sT bl.iY bl.lJ);have pX:HasFn l.prog w K mg base 4 "_law_same" ["_law_found","_law_due"] (qk 4):=let⟨_,F,b,k,m⟩:=D.p (ps:=["_law_found","_law_due"]) KI;⟨_,_,OM F b k m bl 4,b,k,m⟩;have pS:=D.d p5 (λ_ F=>ZdV F sh);have rQ:=D.d p6 (λ_ F=>Zci F sh Cz De bl);have rV:=D.m i4 Dv (λ_ F=>ZdW F jc sN bl);have Dh:=D.m i4 Dx (λ_ F=>ZdX F lC rK bl);have xF:=D.m i4 CP (λ_ F=>Zcm F jc ou mI bl);have B_:=D.m i4 Cg (λ_ F=>Zbf F jc rJ lC bl);have r6:=D.d Kj (λ_ F=>XW (CL:=b_) F rN xE lc sH Dg);have rS:=D.m gn CT (λ_ F=>Zd3 (CL:=b_) (CJ:=bN) F hc mK);have AI:=D.m gn AN (λ_ F=>Zcy (CL:=b_) (CJ:=bN) F hc hZ u5 mK);have AQ:=D.m gn AU (λ_ F=>XZ (CL:=b_) (CJ:=bN) F hc hZ u5 rU mK);have BG:=D.d Ko (λ_ F=>VF (C:=bZ) (CL:=b_) (CJ:=bN) F Ej qx qf Bi);have DS:=D.d Kh (λ_ F=>X0 (C:=bZ) (CL:=b_) (CJ:=bN) F AD);have x6:=D.d KC (λ_ F=>Zo F mJ DT bl);have r8:=D.d KJ (λ_ F=>ZcG F pR bl);have Dq:=D.d KH (λ_ F=>Zbw F pR Dn bl);have DW:=D.d KW (λ_ F=>X4 F xR bl);have Cb:=D.m i4 Ci (λ_ F=>ZbA F Az bl);have sD:=D.d p3 (λ_ F=>ZeG F pS ou bl);have vD:=D.d p4 (λ_ F=>ZeH F pS mI bl);have Aw:=D.m i4 Ax (λ_ F=>Zbe F jc mI xF bl);have rR:=D.m i4 CO (λ_ F=>Zcn F B_ bl);have BH:=D.d Kr (λ_ F=>ZcC (C:=bZ) (CL:=b_) (CJ:=bN) F mO hZ u5 AK rS);have BI:=D.d Ks (λ_ F=>VH (C:=bZ) (CL:=b_) (CJ:=bN) F DS);have BJ:=D.d Ku (λ_ F=>VJ (C:=bZ) (CL:=b_) (CJ:=bN) F jL pP Bj rS);have r9:=D.d KN (λ_ F=>ZcI F r8 rP bl);have DY:=D.d K0 (λ_ F=>ZcO F r8 rP);have Be:=D.d p7 (λ_ F=>Zb F sD bl);have Di:=D.m i4 Dw (λ_ F=>Zd0 F jc rR rJ Aw rK bl);have Dj:=D.d Km (λ_ F=>Xd (CL:=b_) (CJ:=bN) F jL r6 lC rR);have Dm:=D.d Kp (λ_ F=>Xk (C:=bZ) (CL:=b_) (CJ:=bN) F hZ u5 sH Dl pP BH BI);have DX:=D.d KS (λ_ F=>X2 F Dp DU EU r9 bl);have xK:=D.d K1 (λ_ F=>Zar F r9 DY bl);have FX:=D.i (y:="Land") Zd9 FA FC Dr (λ_ F=>Zcj F lc rQ Be vD sN bl);have rW:=D.d Kl (λ_ F=>Xc (CL:=b_) (CJ:=bN) F jL r6 Dh Di);have Ep:=D.d p8 (λ_ F=>Zd (C:=b_) F rQ sD FX);have Bg:=D.m gn Bu (λ_ F=>Zaj (CL:=b_) (CJ:=bN) F hc rU rV AI rW bl);have rL:=D.m gn BV (λ_ F=>Zbs (CL:=b_) (CJ:=bN) F hc lc Fq rV rW);have BD:=D.m gn BW (λ_ F=>Zbr (CL:=b_) (CJ:=bN) F hc mQ Bg AQ);have uY:=D.d Kx (λ_ F=>X_ (C:=bZ) (CL:=b_) (CJ:=bN) F rL Cb);have mH:=D.m gn A7 (λ_ F=>Zl (CL:=b_) (CJ:=bN) F hc BD);have Bk:=D.m gn Br (λ_ F=>Zak (CL:=b_) (CJ:=bN) F hc mQ BG mH);have rO:=D.m gn Ck (λ_ F=>ZcA (CL:=b_) (CJ:=bN) F hc mQ Dj rL mH);have Ca:=D.m gn Cm (λ_ F=>ZcB (CL:=b_) (CJ:=bN) F hc Dk mH);have CD:=D.m gn CQ (λ_ F=>ZcD (CL:=b_) (CJ:=bN) F hc Dm rO);have CC:=D.m gn CS (λ_ F=>ZcE (CL:=b_) (CJ:=bN) F hc jL BJ rO);have En:=D.d KY (λ_ F=>Zv (C:=bZ) (CL:=b_) (CJ:=bN) F CC CD);have DZ:=D.d KZ (λ_ F=>X7 (C:=bZ) (CL:=b_) (CJ:=bN) F mJ DV DW DX En Bk Ca bl);exact Zd7 F r_ mJ x6 Dq pX DZ xK uY Ep EX bl
theorem walk{l:PySem.W.OpenLaw}{q:Program}{loose:List Str}{XP:(Str->Option Value)->Heap->Prop}{YP:World->Heap->Prop}{d:DefRec}{K:Params->PySem.W.Frag}(hn:l.most=some 63)(wu:d.params.defaults=[])
  (hY:∀(w:World) (h:Heap),YP w h->(K w.params).In h)
  (F:∀(w:World) (mg:Str->Option Value) (fa:Addr) (h:Heap),(K w.params).In h->h.Ns mainGlobals mg->mg d.name=some (.ref fa)->
   ∃fd:FuncData,(∀(s:Shared) (u:Value),BindsTo s fd ⟨[u],[]⟩ [("_law_script",u)])/\∀base:Heap,(K w.params).In base->base.Ns mainGlobals mg->aG l.prog w (K w.params) mg base (l5 l.prog w) 16 fa fd ["_law_script"] (yR (K w.params))):
  PySem.W.WalkO q loose XP YP l.row.toRowW d [] (λf vs=>PySem.call f vs):=
 L2.ZbV (n:=63) (k:=16) (x:="_law_script") (CX:=λw=>l5 l.prog w) (sp:=λw=>yR (K w.params)) hn (by decide) wu ⟨rfl,by decide,by decide,rfl⟩ hY F (λ_ _ a ns hl _ hS=>⟨a,ns,rfl,hS,hl,λ_=>rfl⟩) λ_ _ _ _ _ h=>by obtain⟨_,_,_,_,_,_,_,_,_,_,_,_,_,_,z⟩:=h;exact z
end Im
namespace PySem.W.Fast
def tw12747678303669846381:=0
def tw3460867564641073352:=0
def tw10504073695097517728:=0
def tw16747448571482061953:=0
def tw13769880175239302657:=0
def tw18166839828872501539:=0
def tw1772428201392755555:=0
def tw17828581658527252419:=0
def tw16368918360723647492:=0
def tw9988665509420616165:=0
def tw14471182945595841381:=0
def tw17185170424113923558:=0
def tw11827406663312936806:=0
def tw4305691252084134951:=0
def tw6530339472398060296:=0
def tw9805287591135194952:=0
def tw7922889374417444011:=0
def tw10749093824357469228:=0
def tw14979771736025367628:=0
def tw3742336774453992300:=0
def tw4926672735486690989:=0
def tw12929175005956515278:=0
def tw7421365694890599118:=0
def tw12403064049955434799:=0
def tw8367120411717104015:=0
def tw15338565229511746127:=0
def tw11012642572571049424:=0
def tw11658863282513790768:=0
def tw8377322765672056497:=0
def tw8082673700989258578:=0
def tw11395116184657589363:=0
def tw13771668513036116179:=0
def tw4487721640159442164:=0
def tw12548852104026023732:=0
def tw16403704954514707348:=0
def tw1867539000743089108:=0
def tw17556816124818960981:=0
def tw2648815022254349269:=0
def tw3000913676343633334:=0
def tw14899061065536921655:=0
def tw8616101366242178296:=0
def tw15028962735469716792:=0
def tw183518729695637529:=0
def tw18127863500149944409:=0
def tw6189960130760265945:=0
def tw11045316353342924057:=0
def tw5902537797728356602:=0
def tw5199097695085084314:=0
def tw15849649820244293275:=0
def tw15730327509468382107:=0
def tw4121049449937664987:=0
def tw13365166494784410204:=0
def tw14400384059720183484:=0
def tw2884047219235083997:=0
def tw18255350203440846718:=0
def tw846530823320470015:=0
def tw4202464521566634751:=0
def tw8276326253307253629:=0
def tw4438504826887454531:=0
def tw7468201908214829163:=0
def tw394100354959213803:=0
def tw10629821542208237295:=0
def tw6285838646615142342:=0
def tw3730159977125311774:=0
def tw12322281095897678626:=0
def tw5179270414120730807:=0
def tw14267654759647818107:=0
def tw2289388371391901486:=0
def tw868814594659594023:=0
def tw3608155926286584182:=0
def tw15934338465642775131:=0
def tw1130499399044065687:=0
def tw16995933968434897138:=0
def tw8318877911130725944:=0
def tw17342423654930420975:=0
def tw16754792690802435350:=0
def tw13210189082633502188:=0
def tw1917943811128606728:=0
def tw7127045894423410885:=0
def tw1808922951406636311:=0
def tw12229527806124282673:=0
def tw2413194956491610513:=0
def tw15432144685537919074:=0
def tw12482108744197398312:=0
def tw18194645390378830695:=0
def tw768333953424165050:=0
def tw8685725833539380717:=0
def tw15748845725869318557:=0
def tw10618490391820642276:=0
def tw16915938676866244031:=0
def tw18174417781759800203:=0
def tw17998480181540024602:=0
def tw13749681727801583264:=0
def tw9276382666497916140:=0
def tw6458542642704162001:=0
def tw9948646287404502128:=0
def tw5740065603522466649:=0
def tw5444211049396874865:=0
def tw10645365524695710115:=0
def tw15719529216960258084:=0
def tw17309327082124605681:=0
def tw1939691874062507046:=0
def tw748692542786628770:=0
def tw12699671464339781659:=0
def tw10363880855129134661:=0
def tw561844309686126590:=0
def tw10234449396517181793:=0
def tw2996585784689675884:=0
def tw14923295101880669836:=0
def tw15192866941982647387:=0
def tw7781283127187348252:=0
def tw10947431231610256044:=0
def tw17031021280801365023:=0
def tw12940224069956416546:=0
def tw11123126503899850257:=0
def tw8025010815423706710:=0
def tw8281349671687141530:=0
def tw3754093026184370174:=0
def tw9521711488083941184:=0
def tw15301710149872381218:=0
def tw2951539548942775756:=0
def tw6479099432507435782:=0
def tw10414615908084337741:=0
def tw16077827063577171777:=0
def tw2856638515079843144:=0
def tw16398977480587349786:=0
def tw13850795922432591077:=0
def tw9640394790803421112:=0
def tw1408771266518553609:=0
def tw6659272670215690123:=0
def tw5304087899286090379:=0
def tw14640608231550661399:=0
def tw8477982415712996339:=0
def tw15228435400164365066:=0
def tw762744727816528012:=0
def tw7081108653996633354:=0
def tw1007651255660511404:=0
def tw1728987634452250228:=0
def tw10028507283351227008:=0
def tw9334037767857652060:=0
def tw16595917652377947048:=0
def tw16558780290223250833:=0
def tw1676087798549703395:=0
def tw10640380315412320327:=0
def tw4699149715767180429:=0
def tw2370387055005796025:=0
def tw18135185059374403362:=0
def tw9689647372478040380:=0
def tw6350961222779425587:=0
def tw11635835425992986552:=0
def tw17740446995559191232:=0
def tw9099773699224599280:=0
def tw686868719271019540:=0
def tw9652943468170730014:=0
def tw9671308192837351717:=0
def tw11948485930407367179:=0
def tw8113981442003249893:=0
def tw5010902306619324072:=0
def tw17005786541169087770:=0
def tw12910812373105203628:=0
def tw4332039239081653184:=0
def tw11465109135578896435:=0
def tw8558014809337938140:=0
def tw4779881362861289172:=0
def tw14053774412875311157:=0
def tw3542438573811712574:=0
def tw13873110398840567489:=0
def tw4302305834856791871:=0
def tw2187561875496511232:=0
def tw14977825551554396961:=0
def tw8426928426770506100:=0
def tw17633037021342586560:=0
def tw15883613889649097142:=0
def tw17021486665380258519:=0
def tw9447449780540049867:=0
def tw6986221297968933058:=0
def tw17181231413081626271:=0
def tw7782159065861153425:=0
def tw10738032522524697618:=0
def tw8689406876287428537:=0
def tw3807880976805968475:=0
def tw11249839410739690708:=0
def tw14146883749130068965:=0
def tw13624939178891340606:=0
def tw7775971860271261511:=0
def tw10327152807241046801:=0
def tw7972724916035099059:=0
def tw15325701222420139685:=0
def tw15218302879174631648:=0
def tw937048789867927984:=0
def tw11598433415089114686:=0
def tw5496836157148800963:=0
def tw3691651284074847405:=0
def tw10434063171447544840:=0
def tw10522553988501100864:=0
def tw10436706528651875632:=0
def tw6369933829135725416:=0
def tw7736196145715605063:=0
def tw15880963326046482206:=0
def tw15476823942003302568:=0
def tw3856259720471189671:=0
def tw2369649782510517195:=0
def tw879620321889559690:=0
def tw10979952431460763567:=0
def tw5614887692728265924:=0
def tw7974579179278283786:=0
def tw4118463824903214382:=0
def tw144615630798266781:=0
def tw10144993085560272234:=0
def tw13471802047145952197:=0
def tw17147569802544861115:=0
def tw15702963857029223877:=0
def tw5034873621205917879:=0
def tw10768705506086333452:=0
def tw10643314252795989940:=0
def tw10395590906635983554:=0
def tw7573272846160542465:=0
def tw5909859618875108886:=0
def tw2224037092599894147:=0
def tw18231595314797200119:=0
def tw14177362513573032716:=0
def tw10010655197467729318:=0
def tw9308968840361072462:=0
def tw16114608966377829202:=0
def tw15071144737696475977:=0
def tw4075978131014834064:=0
def tw5886357003874175917:=0
def tw16164925711200331529:=0
def tw16725157699077633030:=0
def tw14252102857603604478:=0
def tw10194461919902867938:=0
def tw18243468100731481432:=0
def tw7107376832629851608:=0
def tw12455844730868393917:=0
def tw6558211269723945367:=0
def tw16681942051444374439:=0
def tw7735099876259934440:=0
def tw10318278503014098904:=0
def tw16717219681130035165:=0
def tw16631722229935655160:=0
def tw8603414212957411036:=0
def tw6522744611206350399:=0
def tw4954614203273282244:=0
def tw4057551178749232440:=0
def tw13933398142718228697:=0
def tw990627142391302085:=0
def tw9038865245079975741:=0
def tw18205524284260914590:=0
def tw6384832079440782149:=0
def tw12631794831444156339:=0
def tw133407727017170137:=0
def tw4621087819863746546:=0
def tw13760739247759827497:=0
def tw14319166587506777728:=0
def tw15377189479094166427:=0
def tw16069704682916100114:=0
def tw16043808465461026618:=0
def tw14833110911754210182:=0
def tw15851470935492003914:=0
def tw14754820435193735624:=0
def tw7527732687112275020:=0
def tw8806408535780494535:=0
def tw7118863053118289131:=0
def tw16396357726245533891:=0
def tw6588621239439314023:=0
def tw3592631382841367346:=0
def tw2387118973974328324:=0
def tw15219029937106640923:=0
def tw10405313769781854300:=0
def tw1477153171275015224:=0
def tw8380434308022394174:=0
def tw16172147916102622087:=0
def tw12668488271508988791:=0
def tw3932971640710633404:=0
def tw321801309667545260:=0
def tw16864892970356751712:=0
def tw4242644294365619359:=0
def tw4998407213599365094:=0
def tw9307224187639984110:=0
def tw5045518653292574396:=0
def tw16109747469147636509:=0
def tw14522839789849690277:=0
def tw12633637289447132997:=0
def tw1157874393871513588:=0
def tw10722041244820054983:=0
def tw1766590879473293208:=0
def tw14714442215469173104:=0
def tw14691174872120027359:=0
def tw6657484357910962088:=0
def tw9980494123585736704:=0
def tw11029698871201161941:=0
def tw135724948401613589:=0
def tw2257822219520260034:=0
def tw17298018035765643664:=0
def tw8220983753972300998:=0
def tw5545380757388098432:=0
def tw12703745644098595786:=0
def tw7967005473675097226:=0
def tw13669366591339247567:=0
def tw2124626147569813805:=0
def tw14590648161037957301:=0
def tw16797138509079591685:=0
def tw2884498311062412291:=0
def tw13185913824410491335:=0
def tw1886873317282582500:=0
def tw1376027236531294489:=0
def tw2246225328850558824:=0
def tw8017116899131863581:=0
def tw13412462774153416119:=0
def tw6890681432615427311:=0
def tw6852373739802619351:=0
def tw13483951767668670098:=0
def tw15402952601353238074:=0
def tw16884116160673846079:=0
def tw6420927001703909364:=0
def tw18416315749099459124:=0
def tw12311745297067712603:=0
def tw17841551394343313365:=0
def tw2315017759324309911:=0
def tw10237178133533701924:=0
def tw1578071998071000057:=0
def tw15703995907410027217:=0
def tw3582746509402664124:=0
def tw7725646488429252558:=0
def tw4595508273142820688:=0
def tw3849985993448991346:=0
def tw7364963634749060451:=0
def tw2487715037168793659:=0
def tw4691635720175823589:=0
def tw3089980521969445384:=0
def tw15278965325799714286:=0
def tw6051514977604901216:=0
def tw17665661820920376784:=0
def tw12543131235463923431:=0
def tw13233504960939932218:=0
def tw14824919973732853539:=0
def tw15150146389922980615:=0
def tw5876255620671341860:=0
def tw14829120118168563566:=0
def tw12968935909053333437:=0
def tw12465795214648460334:=0
def tw11635903476460546791:=0
def tw7426380083982726873:=0
def tw17231551556082998037:=0
def tw16606561150323858662:=0
def tw12482012847115474221:=0
def tw5274478477849885796:=0
def tw17991772737766247788:=0
def tw17742539681549438546:=0
def tw13674387136801336212:=0
def tw7050564840170737713:=0
def tw17480990902881040579:=0
def tw15227561693647174877:=0
def tw726438829170666670:=0
def tw6689163187000054535:=0
def tw2161664130686259223:=0
def tw17617650748273655838:=0
def tw11711163470918391062:=0
def tw1034410493072113243:=0
def tw18248940790494472169:=0
def tw15522441550129303000:=0
def tw7467567868644522623:=0
def tw6958242330879616520:=0
def tw1546602317159990358:=0
def tw9179189301139524930:=0
def tw6473708962911000409:=0
def tw16043695566926955385:=0
def tw6935463519744160207:=0
def tw5436131763049873331:=0
def tw8626785086897562019:=0
def tw4474922897318519621:=0
def tw9750978030710405747:=0
def tw2970031031943701599:=0
def tw17936990483320572292:=0
def tw17581409401403406471:=0
def tw16481791934602883106:=0
def tw14576170902776209819:=0
end PySem.W.Fast
open PySem PySem.W PyProof.Rows
set_option maxRecDepth 100000 in
set_option maxHeartbeats 0 in
theorem PySem.Challenge.cw_kinhearth_k31_dealings_of_a_book_holds : PySem.Challenge.rw_kinhearth_k31_dealings_of_a_book.Holds := by
 w_on; o_law; k_head; (case hw=>w_witness2)
 k_fill
 refine Im.walk (l:=PySem.Challenge.rw_kinhearth_k31_dealings_of_a_book) rfl rfl (λ w h Y=>kIn_of Y) ?F
 case F=>
  intro w mg fa h KX G wx
  refine' Im.all_mk KX G wx ?p1 ?p2 ?p3 ?p4 ?p5 ?p6 ?p7 ?p8 ?p9 ?Kg ?Kh ?Ki ?Kj ?Kk ?Kl ?Km ?Kn ?Ko ?Kp ?Kq ?Kr ?Ks ?Ku ?Kv ?Kw ?Kx ?Ky ?Kz ?KA ?KC ?KD ?KG ?KH ?KI ?KJ ?KL ?KN ?KO ?KP ?KQ ?KR ?KS ?KU ?KW ?KY ?KZ ?K0 ?K1 ?K2 ?Gx ?Gy ?F8 ?Fw ?Fx ?Gz ?GA ?CF ?F9 ?GB ?GC ?EY ?GD ?GF ?GG ?F_ ?D0 ?CG ?Cc ?CH ?Bm ?Es ?CI ?BK ?xE ?D1 ?D2 ?Ga ?EZ ?AE ?AR ?Fy ?D3 ?Fz ?FA ?FC ?E1 ?FD ?E2 ?FE ?CK ?BM ?BN ?CM ?Cd ?Dr ?Du ?E3 ?E4 ?E5 ?Et ?E6 ?Eu ?E7 ?Ce ?BO ?BP ?A1 ?Cf ?CN ?Dv ?Dw ?Dx ?Bn ?CO ?A2 ?Cg ?BQ ?Ax ?CP ?Ci ?AA ?Ew ?Ex ?Ey ?D4 ?Ez ?D5 ?EA ?BR ?Bo ?A3 ?Bp ?Bq ?AS ?A4 ?BU ?A5 ?AL ?Cj ?Br ?CQ ?CS ?Ck ?Cm ?Bs ?A6 ?K8 ?CT ?AM ?AF ?BV ?A7 ?BW ?Bu ?AN ?AU
  (case p1=>apply L2.aH.mk<;>k_is)
  (case p2=>apply L2.aH.mk<;>k_is)
  (case p3=>apply L2.aH.mk<;>k_is)
  (case p4=>apply L2.aH.mk<;>k_is)
  (case p5=>apply L2.aH.mk<;>k_is)
  (case p6=>apply L2.aH.mk<;>k_is)
  (case p7=>apply L2.aH.mk<;>k_is)
  (case p8=>apply L2.aH.mk<;>k_is)
  (case p9=>apply L2.aH.mk<;>k_is)
  (case Kg=>apply L2.aH.mk<;>k_is)
  (case Kh=>apply L2.aH.mk<;>k_is)
  (case Ki=>apply L2.aH.mk<;>k_is)
  (case Kj=>apply L2.aH.mk<;>k_is)
  (case Kk=>apply L2.aH.mk<;>k_is)
  (case Kl=>apply L2.aH.mk<;>k_is)
  (case Km=>apply L2.aH.mk<;>k_is)
  (case Kn=>apply L2.aH.mk<;>k_is)
  (case Ko=>apply L2.aH.mk<;>k_is)
  (case Kp=>apply L2.aH.mk<;>k_is)
  (case Kq=>apply L2.aH.mk<;>k_is)
  (case Kr=>apply L2.aH.mk<;>k_is)
  (case Ks=>apply L2.aH.mk<;>k_is)
  (case Ku=>apply L2.aH.mk<;>k_is)
  (case Kv=>apply L2.aH.mk<;>k_is)
  (case Kw=>apply L2.aH.mk<;>k_is)
  (case Kx=>apply L2.aH.mk<;>k_is)
  (case Ky=>apply L2.aH.mk<;>k_is)
  (case Kz=>apply L2.aH.mk<;>k_is)
  (case KA=>apply L2.aH.mk<;>k_is)
  (case KC=>apply L2.aH.mk<;>k_is)
  (case KD=>apply L2.aH.mk<;>k_is)
  (case KG=>apply L2.aH.mk<;>k_is)
  (case KH=>apply L2.aH.mk<;>k_is)
  (case KI=>apply L2.aH.mk<;>k_is)
  (case KJ=>apply L2.aH.mk<;>k_is)
  (case KL=>apply L2.aH.mk<;>k_is)
  (case KN=>apply L2.aH.mk<;>k_is)
  (case KO=>apply L2.aH.mk<;>k_is)
  (case KP=>apply L2.aH.mk<;>k_is)
  (case KQ=>apply L2.aH.mk<;>k_is)
  (case KR=>apply L2.aH.mk<;>k_is)
  (case KS=>apply L2.aH.mk<;>k_is)
  (case KU=>apply L2.aH.mk<;>k_is)
  (case KW=>apply L2.aH.mk<;>k_is)
  (case KY=>apply L2.aH.mk<;>k_is)
  (case KZ=>apply L2.aH.mk<;>k_is)
  (case K0=>apply L2.aH.mk<;>k_is)
  (case K1=>apply L2.aH.mk<;>k_is)
  (case K2=>apply L2.aH.mk<;>k_is)
  (case Gx=>k_is)
  (case Gy=>k_is)
  (case F8=>k_is)
  (case Fw=>k_is)
  (case Fx=>k_is)
  (case Gz=>k_is)
  (case GA=>k_is)
  (case CF=>k_is)
  (case F9=>k_is)
  (case GB=>k_is)
  (case GC=>k_is)
  (case EY=>k_is)
  (case GD=>k_is)
  (case GF=>k_is)
  (case GG=>k_is)
  (case F_=>k_is)
  (case D0=>k_is)
  (case CG=>k_is)
  (case Cc=>k_is)
  (case CH=>k_is)
  (case Bm=>k_is)
  (case Es=>k_is)
  (case CI=>k_is)
  (case BK=>k_is)
  (case xE=>kernel_rfl)
  (case D1=>k_is)
  (case D2=>k_is)
  (case Ga=>k_is)
  (case EZ=>k_is)
  (case AE=>k_is)
  (case AR=>k_is)
  (case Fy=>k_is)
  (case D3=>k_is)
  (case Fz=>k_is)
  (case FA=>k_is)
  (case FC=>k_is)
  (case E1=>k_is)
  (case FD=>k_is)
  (case E2=>k_is)
  (case FE=>k_is)
  (case CK=>k_is)
  (case BM=>k_is)
  (case BN=>k_is)
  (case CM=>k_is)
  (case Cd=>k_is)
  (case Dr=>apply L2.bb.mk<;>k_is)
  (case Du=>apply L2.bb.mk<;>k_is)
  (case E3=>k_is)
  (case E4=>k_is)
  (case E5=>k_is)
  (case Et=>k_is)
  (case E6=>k_is)
  (case Eu=>k_is)
  (case E7=>k_is)
  (case Ce=>k_is)
  (case BO=>k_is)
  (case BP=>k_is)
  (case A1=>k_is)
  (case Cf=>k_is)
  (case CN=>apply L2.bb.mk<;>k_is)
  (case Dv=>apply L2.bb.mk<;>k_is)
  (case Dw=>apply L2.bb.mk<;>k_is)
  (case Dx=>apply L2.bb.mk<;>k_is)
  (case Bn=>apply L2.bb.mk<;>k_is)
  (case CO=>apply L2.bb.mk<;>k_is)
  (case A2=>apply L2.bb.mk<;>k_is)
  (case Cg=>apply L2.bb.mk<;>k_is)
  (case BQ=>apply L2.bb.mk<;>k_is)
  (case Ax=>apply L2.bb.mk<;>k_is)
  (case CP=>apply L2.bb.mk<;>k_is)
  (case Ci=>apply L2.bb.mk<;>k_is)
  (case AA=>apply L2.bb.mk<;>k_is)
  (case Ew=>k_is)
  (case Ex=>k_is)
  (case Ey=>k_is)
  (case D4=>k_is)
  (case Ez=>k_is)
  (case D5=>k_is)
  (case EA=>k_is)
  (case BR=>k_is)
  (case Bo=>k_is)
  (case A3=>k_is)
  (case Bp=>k_is)
  (case Bq=>k_is)
  (case AS=>k_is)
  (case A4=>k_is)
  (case BU=>k_is)
  (case A5=>k_is)
  (case AL=>k_is)
  (case Cj=>apply L2.bb.mk<;>k_is)
  (case Br=>apply L2.bb.mk<;>k_is)
  (case CQ=>apply L2.bb.mk<;>k_is)
  (case CS=>apply L2.bb.mk<;>k_is)
  (case Ck=>apply L2.bb.mk<;>k_is)
  (case Cm=>apply L2.bb.mk<;>k_is)
  (case Bs=>apply L2.bb.mk<;>k_is)
  (case A6=>apply L2.bb.mk<;>k_is)
  (case K8=>apply L2.bb.mk<;>k_is)
  (case CT=>apply L2.bb.mk<;>k_is)
  (case AM=>apply L2.bb.mk<;>k_is)
  (case AF=>apply L2.bb.mk<;>k_is)
  (case BV=>apply L2.bb.mk<;>k_is)
  (case A7=>apply L2.bb.mk<;>k_is)
  (case BW=>apply L2.bb.mk<;>k_is)
  (case Bu=>apply L2.bb.mk<;>k_is)
  (case AN=>apply L2.bb.mk<;>k_is)
  (case AU=>apply L2.bb.mk<;>k_is)
